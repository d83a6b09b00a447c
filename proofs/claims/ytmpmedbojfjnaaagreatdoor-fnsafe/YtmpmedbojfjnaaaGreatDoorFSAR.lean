/- Texts that belong together: ImplNames, CopyInts, IntPieces, SetPlain. -/
import Derived.Test.YtmpmedbojfjnaaaGreatDoorFSAQ
import Derived.Test.YtmpmedbojfjnaaaGreatDoorFSAP
import Derived.Lib.LastIndexByte
import Derived.Test.YtmpmedbojfjnaaaGreatDoorFSAC
import Derived.Maps.AppendAt
import Derived.Laws.OwnMore
import Derived.WalkKit
namespace Go.Proofs.YtmpmedbojfjnaaaGreatDoor
open Go.RowKit
set_option linter.unusedSectionVars false
variable [∀ (a b c d : Int), Decidable (Ok4 a b c d)]
variable [∀ (a b c d : Nat), Decidable (okN a b c d)]
variable [∀ (last : Int) (s : St), Decidable (GoodSt last s)]
variable [∀ (x : T4), Decidable (OkT x)]

set_option maxHeartbeats 8000000 in
set_option maxRecDepth 100000 in
theorem implNameOk (s : ByteArray) (w : World) (hs : s.size ≤ 33554432) (hE : Env w) :
 Calls Tryz.prog 76 #[.string s] w fun e w' => e = .returned (.bool (stepsAns s).isSome) ∧ Below w.heap.size w w' := by
 have ST := hide fun w hE => implSteps s w hs hE
 generalize stepsAns s = A at *
 go_enter Tryz.func76, Tryz.ntmps76
 go_wp2_with fail
 refine (unhide ST _ hE).mono ?_
 rintro e w1 ⟨v, rfl, _, b1⟩
 go_wp2
 go_ret
 exact ⟨rfl, b1⟩


set_option maxHeartbeats 8000000 in
set_option maxRecDepth 100000 in
theorem implHeight (s : ByteArray) (w : World) (hs : s.size ≤ 33554432) (hE : Env w) :
 Calls Tryz.prog 24 #[.string s] w fun e w' => e = .returned (.int .i64 (heightAns s)) ∧ Below w.heap.size w w' := by
 have ST := hide fun w hE => implSteps s w hs hE
 have hl : ∀ ss, stepsAns s = some ss → ss.length ≤ 30 := fun ss h => ((names_iff _ _).1 h).2.1
 unfold heightAns
 generalize stepsAns s = A at *
 go_enter Tryz.func24, Tryz.ntmps24
 go_wp2_with fail
 refine (unhide ST _ hE).mono ?_
 rintro e w1 ⟨v, rfl, o1, b1⟩
 obtain ⟨ao, ca, rfl⟩ := o1.form
 clear o1 ST hE
 cases A with
 | none =>
  go_wp2
  go_ret
  exact ⟨rfl, b1⟩
 | some ss =>
  have hl := hl ss rfl
  go_wp2
  go_ret
  exact ⟨rfl, b1⟩


set_option maxHeartbeats 8000000 in
set_option maxRecDepth 100000 in
theorem implViewOf (s : ByteArray) (w : World) (hs : s.size ≤ 33554432) (hE : Env w) :
 Calls Tryz.prog 66 #[.string s] w fun e w' => e = .returned (.int .i64 (viewAns s)) ∧ Below w.heap.size w w' := by
 have ST := hide fun w hE => implSteps s w hs hE
 have hl : ∀ ss, stepsAns s = some ss → ss.length ≤ 30 ∧ ∀ x ∈ ss, OkSt x := fun ss h => ⟨((names_iff _ _).1 h).2.1, ((names_iff _ _).1 h).2.2.1⟩
 unfold viewAns
 generalize stepsAns s = A at *
 go_enter Tryz.func66, Tryz.ntmps66
 go_wp2_with fail
 refine (unhide ST _ hE).mono ?_
 rintro e w1 ⟨v, rfl, o1, b1⟩
 cases A with
 | none =>
  obtain ⟨ao, ca, rfl⟩ := o1.form
  clear o1 ST hl
  go_wp2
  go_ret
  exact ⟨rfl, b1⟩
 | some ss =>
  obtain ⟨hl, hok⟩ := hl ss rfl
  obtain ⟨ao, ca, hv, r⟩ := o1.rst (fun x hx => by have := (hok x hx).2.1; omega)
  subst hv
  clear o1 ST hok
  simp only [Option.getD_some] at *
  rcases r with rfl | ⟨g, rfl, r⟩
  ·go_wp2
   go_ret
   exact ⟨rfl, b1⟩
  ·by_cases h0 : ss.length = 0
   ·obtain rfl := List.length_eq_zero_iff.1 h0
    go_wp2
    go_ret
    exact ⟨rfl, b1⟩
   ·obtain ⟨n, hn⟩ : ∃ n, ss.length = n + 1 := ⟨ss.length - 1, by omega⟩
    obtain ⟨u, c0, c1, _⟩ := r n (by omega)
    have hlast := hide (show (ss.getLast?.map (·.1)).getD 0 = (ss.getD n zst).1 by
     rw [List.getLast?_eq_getElem?, List.getD_eq_getElem?_getD, List.getElem?_eq_getElem (show ss.length - 1 < ss.length by omega), List.getElem?_eq_getElem (show n < ss.length by omega)]
     simp [hn])
    have hi : ((n + 1 : Nat) : Int) - 1 = n := by omega
    generalize (ss.getD n zst).1 = x at *
    clear r h0
    go_wp2
    go_ret
    exact ⟨by rw [show ((some ss).getD []) = ss from rfl, unhide hlast]; rfl, b1⟩


theorem ext_eq (s t : ByteArray) : extB s t = ((stepsAns s).isSome && (stepsAns t).isSome && Lib.hasPrefix (s ++ (⟨#[47]⟩ : ByteArray)).data.toList (t ++ (⟨#[47]⟩ : ByteArray)).data.toList) := by
 rw [Bool.eq_iff_iff, extB_bytes, Bool.and_eq_true, Bool.and_eq_true, and_assoc]
 have e : ∀ x : ByteArray, (x ++ (⟨#[47]⟩ : ByteArray)).data.toList = x.data.toList ++ [47] := fun x => by simp [ByteArray.data_append]
 rw [e, e]
 have : Lib.hasPrefix (s.data.toList ++ [47]) (t.data.toList ++ [47]) = true ↔ extL s.data.toList t.data.toList := by
  unfold Lib.hasPrefix
  rw [List.isPrefixOf_iff_prefix]
  exact pre_mark _ _
 rw [this]

set_option maxHeartbeats 8000000 in
set_option maxRecDepth 100000 in
theorem implExtends (s t : ByteArray) (w : World) (hs : s.size ≤ 33554432) (ht : t.size ≤ 33554432) (hE : Env w) :
 Calls Tryz.prog 23 #[.string s, .string t] w fun e w' => e = .returned (.bool (extB s t)) ∧ Below w.heap.size w w' := by
 have NS := hide fun w hE => implNameOk s w hs hE
 have NT := hide fun w hE => implNameOk t w ht hE
 have HP := hide fun w => Tryz.strings_HasPrefix (s ++ (⟨#[47]⟩ : ByteArray)) (t ++ (⟨#[47]⟩ : ByteArray)) w
 rw [ext_eq s t]
 have q1 : ∀ w, (Op.stringOp .add s (⟨#[47]⟩ : ByteArray)).run Tryz.prog w = .ok (.string (s ++ (⟨#[47]⟩ : ByteArray))) w := fun w => run_string_add_sum w _ _ (by show s.size + 1 ≤ _; omega)
 have q2 : ∀ w, (Op.stringOp .add t (⟨#[47]⟩ : ByteArray)).run Tryz.prog w = .ok (.string (t ++ (⟨#[47]⟩ : ByteArray))) w := fun w => run_string_add_sum w _ _ (by show t.size + 1 ≤ _; omega)
 generalize Lib.hasPrefix (s ++ (⟨#[47]⟩ : ByteArray)).data.toList (t ++ (⟨#[47]⟩ : ByteArray)).data.toList = x at *
 generalize (stepsAns s).isSome = a at *
 generalize (stepsAns t).isSome = b at *
 go_enter Tryz.func23, Tryz.ntmps23
 go_wp2_with fail
 refine (unhide NS _ hE).mono ?_
 rintro _ w1 ⟨rfl, b1⟩
 have hE1 := hE.below b1
 clear NS hE
 cases a with
 | false =>
  clear NT HP q1 q2 hE1
  go_wp2
  go_ret
  exact ⟨rfl, b1⟩
 | true =>
  go_wp2_with fail
  refine (unhide NT _ hE1).mono ?_
  rintro _ w2 ⟨rfl, b2⟩
  have b12 := b1.trans (b2.mono b1.size)
  clear NT b2 b1 hE1
  cases b with
  | false =>
   clear HP q1 q2
   go_wp2
   go_ret
   exact ⟨rfl, b12⟩
  | true =>
   generalize s ++ (⟨#[47]⟩ : ByteArray) = s' at *
   generalize t ++ (⟨#[47]⟩ : ByteArray) = t' at *
   go_wp2_with fail
   refine (unhide HP _).mono ?_
   rintro _ w3 ⟨rfl, rfl⟩
   go_wp2
   go_ret
   exact ⟨by simp, b12⟩

theorem last_up {s : ByteArray} {ss : List St} (h : stepsAns s = some ss) (h1 : 1 ≤ ss.length) : ∃ k : Nat, k < s.size ∧ Lib.lastIndexByte s 47 = k ∧ s.extract 0 k = upAns s := by
 have hat : ∀ j, j < s.size → s.data.toList[j]? = some s.data[j]! := fun j hj => by
  rw [getElem!_pos s.data j (by simpa using hj)]; simp
 have hl : s.data.toList.length = s.size := by simp
 rcases Lib.lastIndexByte_spec s 47 with ⟨_, h2⟩ | ⟨i, hi, e, hx, hn⟩
 ·exfalso
  obtain ⟨h3, _⟩ := (names_iff _ _).1 h
  cases ss with
  | nil => simp at h1
  | cons x ss =>
   have h0 : s.data.toList[0]? = some 47 := by rw [h3]; rfl
   have hz : 0 < s.size := by
    have := (List.getElem?_eq_some_iff.1 h0).1
    omega
   have := h2 0 hz
   rw [hat 0 hz] at h0
   rw [Option.some.inj h0] at this
   exact this rfl
 ·refine ⟨i, hi, e, ?_⟩
  have hi' : s.data.toList[i]? = some 47 := by
   rw [hat i hi]; congr 1
   exact UInt8.toNat_inj.1 (by show s.data[i]!.toNat = 47; omega)
  have hd : (47 : UInt8) ∉ s.data.toList.drop (i + 1) := fun hm => by
   obtain ⟨j, hj, e2⟩ := List.getElem_of_mem hm
   rw [List.length_drop] at hj
   rw [List.getElem_drop] at e2
   have hj2 : i + 1 + j < s.size := by omega
   have h4 := hat _ hj2
   rw [List.getElem?_eq_getElem (by omega), e2] at h4
   have := hn (i + 1 + j) (by omega) hj2
   rw [← Option.some.inj h4] at this
   exact this rfl
  have := up_cut h (i + 1) (by omega) hd (.inr hi')
  rw [← this, ext_toB]; simp

set_option maxHeartbeats 8000000 in
set_option maxRecDepth 100000 in
theorem implUpOf (s : ByteArray) (w : World) (hs : s.size ≤ 33554432) (hE : Env w) :
 Calls Tryz.prog 129 #[.string s] w fun e w' => e = .returned (.string (upAns s)) ∧ Below w.heap.size w w' := by
 have HT := hide fun w hE => implHeight s w hs hE
 have LM := hide fun w => last_mark 47 s w hs
 have hc : heightAns s < 1 → upAns s = ⟨#[]⟩ := fun h => by
  unfold heightAns at h
  unfold upAns
  cases e : stepsAns s with
  | none => rfl
  | some ss =>
   rw [e] at h
   have : ss = [] := List.length_eq_zero_iff.1 (by simp only at h; omega)
   subst this; rfl
 have hh : ¬ heightAns s < 1 → ∃ k : Nat, k < s.size ∧ Lib.lastIndexByte s 47 = k ∧ s.extract 0 k = upAns s := fun h => by
  unfold heightAns at h
  cases e : stepsAns s with
  | none => rw [e] at h; simp at h
  | some ss => rw [e] at h; exact last_up e (by simp only at h; omega)
 have e47 : (((47 : UInt8).toNat : Nat) : Int) = 47 := rfl
 rw [e47] at LM
 generalize heightAns s = n at *
 by_cases hn : n < 1
 ·rw [hc hn]
  clear LM hc hh
  have hn' : decide (n < 1) = true := by simpa using hn
  go_enter Tryz.func129, Tryz.ntmps129
  go_wp2_with fail
  refine (unhide HT _ hE).mono ?_
  rintro _ w1 ⟨rfl, b1⟩
  clear HT hE
  go_wp2
  go_ret
  exact ⟨rfl, b1⟩
 ·obtain ⟨k, hk, e1, e2⟩ := hh hn
  rw [e1] at LM
  rw [← e2]
  have CL := hide fun w => clone_any (s.extract 0 k) w (by rw [ByteArray.size_extract]; omega)
  clear hc hh e1 e2
  have hn' : decide (n < 1) = false := by simpa using hn
  go_enter Tryz.func129, Tryz.ntmps129
  go_wp2_with fail
  refine (unhide HT _ hE).mono ?_
  rintro _ w1 ⟨rfl, b1⟩
  clear HT hE
  go_wp2_with fail
  refine (unhide LM _).mono ?_
  rintro _ w2 ⟨rfl, rfl⟩
  go_wp2_with fail
  refine (unhide CL _).mono ?_
  rintro _ w3 ⟨rfl, b3⟩
  go_wp2
  go_ret
  exact ⟨rfl, b1.trans (b3.mono b1.size)⟩
end Go.Proofs.YtmpmedbojfjnaaaGreatDoor
namespace Go.Proofs.YtmpmedbojfjnaaaGreatDoor
open Go.RowKit

theorem ints_plain64 (xs : List Int) (u : Value) (h : u ∈ xs.map (Value.int .i64)) : u.oneCell' = true := by
 obtain ⟨x, _, rfl⟩ := List.mem_map.1 h; rfl

theorem inews_cells {w : World} {g off : Nat} {xs : List Int} (h : ∀ k, k < xs.length → w.cell? ⟨g, off + k, none⟩ = some (.int .i64 (xs.getD k 0))) :
 ∀ j u, (xs.map (Value.int .i64))[j]? = some u → w.cell? ((⟨g, off, none⟩ : Addr).add j) = some u := by
 intro j u hj
 rw [List.getElem?_map] at hj
 obtain ⟨x, hx, rfl⟩ := Option.map_eq_some_iff.1 hj
 have hlt := (List.getElem?_eq_some_iff.1 hx).1
 have e : ((⟨g, off, none⟩ : Addr).add j) = ⟨g, off + j, none⟩ := by unfold Addr.add; split <;> simp_all
 rw [e, h j hlt]
 simp [List.getD_eq_getElem?_getD, hx]

def PI (w : World) (v : Value) (xs : List Int) : Prop :=
 ∃ ao cap, v = .slice ao xs.length cap ∧ (xs = [] ∨ ∃ ad : Addr, ao = some ad ∧ ∀ j u, (xs.map (Value.int .i64))[j]? = some u → w.cell? (ad.add j) = some u)
theorem PI.below {w w' : World} {v : Value} {xs : List Int} (h : PI w v xs) (hb : Below w.heap.size w w') : PI w' v xs := by
 obtain ⟨ao, cap, rfl, h⟩ := h
 refine ⟨ao, cap, rfl, ?_⟩
 rcases h with h | ⟨ad, rfl, h⟩
 ·exact .inl h
 ·exact .inr ⟨ad, rfl, fun j u hj => (hb.cell (cell_lt (h j u hj))).trans (h j u hj)⟩
theorem RI.pi {w : World} {v : Value} {xs : List Int} (h : RI w v xs) : PI w v xs := by
 obtain ⟨hl, ao, cap, rfl, h⟩ := h
 refine ⟨ao, cap, rfl, ?_⟩
 rcases h with h | ⟨b, off, rfl, h⟩
 ·exact .inl h
 ·exact .inr ⟨_, rfl, inews_cells h⟩
theorem RI.form {w : World} {v : Value} {xs : List Int} (h : RI w v xs) : ∃ ao ca, v = .slice ao xs.length ca := by obtain ⟨_, ao, ca, e, _⟩ := h; exact ⟨ao, ca, e⟩
theorem RI.at {w : World} {ao : Option Addr} {n ca : Nat} {xs : List Int} (h : RI w (.slice ao n ca) xs) (k : Nat) (hk : k < xs.length) : ∃ b off, ao = some ⟨b, off, none⟩ ∧ w.cell? ⟨b, off + k, none⟩ = some (.int .i64 (xs.getD k 0)) := by
 obtain ⟨_, ao', ca', e, h⟩ := h
 cases e
 rcases h with rfl | ⟨b, off, rfl, h⟩
 ·simp at hk
 ·exact ⟨b, off, rfl, h k hk⟩
theorem PI.take {w : World} {ao : Option Addr} {n cap : Nat} {xs : List Int} (h : PI w (.slice ao n cap) xs) (k : Nat) (hk : k ≤ n) (cap' : Nat) : PI w (.slice ao k cap') (xs.take k) := by
 obtain ⟨ao', cap2, e, h⟩ := h
 cases e
 refine ⟨ao, cap', by rw [List.length_take]; congr 1; omega, ?_⟩
 rcases h with rfl | ⟨ad, rfl, h⟩
 ·left; simp
 ·refine .inr ⟨ad, rfl, fun j u hj => h j u ?_⟩
  rw [List.map_take, List.getElem?_take] at hj
  split at hj
  ·exact hj
  ·cases hj
theorem PI.drop {w : World} {ao : Option Addr} {n cap : Nat} {xs : List Int} (h : PI w (.slice ao n cap) xs) (k : Nat) (cap' : Nat) {bo : Option Addr} (hb : k < n → bo = ao.map (·.add (k * 1))) : PI w (.slice bo (n - k) cap') (xs.drop k) := by
 obtain ⟨ao', cap2, e, h⟩ := h
 cases e
 refine ⟨bo, cap', by rw [List.length_drop], ?_⟩
 by_cases hlt : k < xs.length
 ·rcases h with rfl | ⟨ad, rfl, h⟩
  ·simp at hlt
  ·refine .inr ⟨ad.add (k * 1), hb hlt, fun j u hj => ?_⟩
   rw [List.map_drop, List.getElem?_drop] at hj
   have := h _ u hj
   rw [← this]
   congr 1
   obtain ⟨b, o, s⟩ := ad
   unfold Addr.add
   split <;> split <;> simp_all <;> omega
 ·left; rw [List.drop_of_length_le (by omega)]
theorem grown_same (w : World) (row : Option Nat) : w.grownBy w row := ⟨rfl, rfl, rfl, Nat.le_refl _, fun _ _ _ => rfl⟩
theorem run_append_none1 (ty : TypeId) (base cap : Nat) (v : Value) (n : Nat) (xs : List Value) (w : World) (hown : w.ownsRow base 3 1 v n xs) :
 (Builtin.append_ #[26, 26] ty #[v, .slice none 0 cap]).run Tryz.prog w = .ok v w := by
 obtain ⟨i0, hi, hz0, hz1, hz2⟩ := info_parts Tryz.info3
 rcases hown.2 with ⟨rfl, rfl⟩ | ⟨g, cp, cur, rfl, _, _, hnc, _⟩
 ·simp [Builtin.append_, run_underlying Tryz.underlying26, sizeOf, typeInfo, hi, Builtin.lenOf, Builtin.firstCells]
 ·simp [Builtin.append_, run_underlying Tryz.underlying26, sizeOf, typeInfo, hi, Builtin.lenOf, Builtin.firstCells, hnc, storeCells]
theorem append_ints {ops : Array Oper} {rest : List Oper} {o : Oper} {a : Act} {Q : Exit → Act → World → Prop} {w : World} (hgd : o.guard = none) (s x : Operand)
 (ho : o.op = .call { callee := .builtin .append, args := #[s, x], argTypes := #[26, 26] }) (base : Nat) (v u : Value) (xs ys : List Int) (hs : a.eval s = v) (hx : a.eval x = u)
 (hown : OI w base v xs) (hp : PI w u ys) (hl : xs.length + ys.length ≤ 16777216) (hbase : base ≤ w.heap.size)
 (h : ∀ v' w', OI w' base v' (xs ++ ys) → w.grownBy w' v.ownBlock → (v'.ownBlock = v.ownBlock ∨ v'.ownBlock = some w.heap.size) → wpList Tryz.prog ops Q rest (a.put o.dst v') w') :
 wpList Tryz.prog ops Q (o :: rest) a w := by
 obtain ⟨i0, hi, hz0, hz1, hz2⟩ := info_parts Tryz.info3
 obtain ⟨ao, cap, rfl, hp⟩ := hp
 match ao, hx with
 | none, hx =>
  have hy : ys = [] := by rcases hp with h | ⟨ad, e, _⟩; exact h; cases e
  subst hy
  refine wpList_plain hgd fun K hK => ?_
  have hrun := run_append_none1 o.type base cap v xs.length (xs.map (Value.int .i64)) w hown
  unfold Oper.wp
  simp only [List.length_nil] at hx
  simp [execOp, ho, resolve, invoke, builtin, hs, hx, hrun, Result.andThen]
  exact hK _ _ (h v w (by simpa using hown) (grown_same _ _) (.inl rfl))
 | some ad, hx =>
  have hn : ∀ j u, (ys.map (Value.int .i64))[j]? = some u → w.cell? (ad.add j) = some u := by
   rcases hp with rfl | ⟨ad', e, h⟩
   ·intro j u hj; simp at hj
   ·cases e; exact h
  refine wpList_append_own_at _ hgd s x 26 ho base 3 i0 (.int .i64 0) 1 8 Tryz.underlying26 hi hz0 hz1 hz2 rfl (by decide) v xs.length (xs.map (Value.int .i64)) hs hown ad ys.length cap (ys.map (Value.int .i64)) hx (by simp) hn (ints_plain64 ys) (by unfold maxLen; omega) (by omega) hbase ?_
  intro v' w' ho' hg' _ hb'
  refine h v' w' ?_ hg' hb'
  unfold OI
  rw [List.map_append, List.length_append]
  exact ho'
set_option maxRecDepth 100000 in
theorem icut_to (ao : Option Addr) (n ca k : Nat) (w : World) (hk : k ≤ ca) :
 (Instr.slice 26 (.slice ao n ca) none (some (.int .i64 (k : Int))) none).run Tryz.prog w = .ok (.slice ao k ca) w := by
 obtain ⟨i0, hi, hz0, hz1, hz2⟩ := info_parts Tryz.info3
 rw [run_slice_h (ht := Tryz.underlying26) (kh := .i64) (h := (k : Int)) (h0 := by omega) (h2 := by omega)]
 have he : Tryz.prog.elem 26 = 3 := by simp [Program.elem, Tryz.underlying26]
 have hs : (sizeOf (Tryz.prog.elem 26)).run Tryz.prog w = .ok 1 w := by rw [he]; simp [sizeOf, typeInfo, hi, hz1]
 rw [hs]
 simp [sliced, Result.andThen]
 intro _; cases ao <;> rfl
set_option maxRecDepth 100000 in
theorem icut_from (ao : Option Addr) (n ca k : Nat) (w : World) (hk : k ≤ n) :
 (Instr.slice 26 (.slice ao n ca) (some (.int .i64 (k : Int))) none none).run Tryz.prog w = .ok (.slice (if ca = k then ao else ao.map (·.add (k * 1))) (n - k) (ca - k)) w := by
 obtain ⟨i0, hi, hz0, hz1, hz2⟩ := info_parts Tryz.info3
 rw [run_slice_l (ht := Tryz.underlying26) (kl := .i64) (l := (k : Int)) (h0 := by omega) (h1 := by omega)]
 have he : Tryz.prog.elem 26 = 3 := by simp [Program.elem, Tryz.underlying26]
 have hs : (sizeOf (Tryz.prog.elem 26)).run Tryz.prog w = .ok 1 w := by rw [he]; simp [sizeOf, typeInfo, hi, hz1]
 rw [hs]
 simp [sliced, Result.andThen]
def Cap (v : Value) : Prop := ∃ ao n cap, v = .slice ao n cap ∧ n ≤ cap ∧ cap ≤ maxLen
theorem OI.cap {w : World} {base : Nat} {v : Value} {xs : List Int} (h : OI w base v xs) : Cap v := by
 rcases h.2 with ⟨rfl, h0⟩ | ⟨g, cap, cur, rfl, _, _, h1, h2, h3⟩
 ·exact ⟨_, _, _, rfl, by simp, by unfold maxLen; omega⟩
 ·exact ⟨_, _, _, rfl, by first | exact h1 | exact h2 | exact h3 | omega, by first | exact h2 | exact h3 | omega⟩
end Go.Proofs.YtmpmedbojfjnaaaGreatDoor
namespace Go.Proofs.YtmpmedbojfjnaaaGreatDoor

def addL (s : List Int) (i : Int) : List Int := if i ∈ s then s else s.takeWhile (fun x => decide (x < i)) ++ i :: s.dropWhile (fun x => decide (x < i))
def OkL (n : Int) (s : List Int) : Prop := (∀ x ∈ s, 0 ≤ x ∧ x < n) ∧ s.Pairwise (· < ·)
theorem mem_add (s : List Int) (i x : Int) : x ∈ addL s i ↔ x ∈ s ∨ x = i := by
 unfold addL
 split
 ·rename_i h
  constructor
  ·exact .inl
  ·rintro (h1 | rfl)
   ·exact h1
   ·exact h
 ·have e := List.takeWhile_append_dropWhile (p := fun x => decide (x < i)) (l := s)
  have h2 : x ∈ s ↔ x ∈ s.takeWhile (fun x => decide (x < i)) ∨ x ∈ s.dropWhile (fun x => decide (x < i)) := by
   conv => lhs; rw [← e]
   exact List.mem_append
  simp only [List.mem_append, List.mem_cons, h2]
  constructor
  ·rintro (h | h | h)
   ·exact .inl (.inl h)
   ·exact .inr h
   ·exact .inl (.inr h)
  ·rintro ((h | h) | h)
   ·exact .inl h
   ·exact .inr (.inr h)
   ·exact .inr (.inl h)
theorem add_len (s : List Int) (i : Int) : (addL s i).length ≤ s.length + 1 := by
 unfold addL
 split
 ·omega
 ·have e := congrArg List.length (List.takeWhile_append_dropWhile (p := fun x => decide (x < i)) (l := s))
  rw [List.length_append] at e
  rw [List.length_append, List.length_cons]; omega
def WfL (xs : List Int) : Prop := ∀ x ∈ xs, (Lit.int .i64 x).wf = true
theorem WfL.at {xs : List Int} (h : WfL xs) (k : Nat) (hk : k < xs.length) : (Lit.int .i64 (xs.getD k 0)).wf = true := by
 rw [List.getD_eq_getElem?_getD, List.getElem?_eq_getElem hk]; exact h _ (List.getElem_mem hk)
end Go.Proofs.YtmpmedbojfjnaaaGreatDoor
