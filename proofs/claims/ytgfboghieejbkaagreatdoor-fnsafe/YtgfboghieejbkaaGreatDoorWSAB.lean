/- Texts that belong together: Conf, CopyInts, IntPieces, Qc, SetPlain. -/
import Derived.Test.YtgfboghieejbkaaGreatDoorWSAA
import Derived.Deep.RegionHeld3
import Derived.Deep.DeepCutAuto
import Derived.Maps.AppendAt
import Derived.Laws.OwnMore
import Derived.WalkKit
namespace Go.Proofs.YtgfboghieejbkaaGreatDoor
open Go.RowKit
set_option linter.unusedSectionVars false
variable [∀ (a b c d : Int), Decidable (Ok4 a b c d)]

abbrev cv (n f : Int) : Value := .agg #[.int .i64 n, .int .i64 f]
def COk (n f : Int) : Prop := (4 ≤ n ∧ n ≤ 7) ∧ 1 ≤ f ∧ f ≤ 6
variable [∀ (n f : Int), Decidable (COk n f)]
def faultsOf (n f : Int) : Int := if COk n f then (n - 1) / 3 else 0
def quorumOf (n f : Int) : Int := if COk n f then n - (n - 1) / 3 else 0
theorem cok_cases {n f : Int} (h : COk n f) : n = 4 ∨ n = 5 ∨ n = 6 ∨ n = 7 := by obtain ⟨h, _⟩ := h; omega
theorem conf_below (w : World) (o : Obj) : Below w.heap.size w (w.alloc o) := (Below.refl _ _).alloc (Nat.le_refl _) _

set_option maxHeartbeats 800000 in
set_option maxRecDepth 100000 in
theorem specConfOk (n f : Int) (w : World) :
 Calls Tryz.prog 115 #[cv n f] w fun e w' => e = .returned (.bool (decide (COk n f))) ∧ Below w.heap.size w w' := by
 by_cases h1 : 4 ≤ n ∧ n ≤ 7
 ·by_cases h2 : 1 ≤ f ∧ f ≤ 6
  ·have hd : decide (COk n f) = true := by simp [COk, h1, h2]
   rw [hd]
   go_enter Tryz.func115, Tryz.ntmps115
   go_wp2_with (first | (go_at_call 116; refine (in_yes _ _ _ _ (by omega) (by omega)).mono ?_; rintro e w' ⟨rfl, rfl⟩))
   go_ret
   exact ⟨rfl, conf_below _ _⟩
  ·have hd : decide (COk n f) = false := by simp [COk, h1]; omega
   rw [hd]
   go_enter Tryz.func115, Tryz.ntmps115
   go_wp2_with fail
   refine (in_yes _ _ _ _ (by omega) (by omega)).mono ?_
   rintro e w' ⟨rfl, rfl⟩
   go_wp2_with fail
   refine (in_no _ _ _ _ (by omega)).mono ?_
   rintro e w' ⟨rfl, rfl⟩
   go_wp2
   go_ret
   exact ⟨rfl, conf_below _ _⟩
 ·have hd : decide (COk n f) = false := by simp only [decide_eq_false_iff_not]; rintro ⟨h, _⟩; exact h1 h
  rw [hd]
  go_enter Tryz.func115, Tryz.ntmps115
  go_wp2_with fail
  refine (in_no _ _ _ _ (by omega)).mono ?_
  rintro e w' ⟨rfl, rfl⟩
  go_wp2
  go_ret
  exact ⟨rfl, conf_below _ _⟩

set_option maxHeartbeats 800000 in
set_option maxRecDepth 100000 in
theorem implConfOk (n f : Int) (w : World) :
 Calls Tryz.prog 112 #[cv n f] w fun e w' => e = .returned (.bool (decide (COk n f))) ∧ Below w.heap.size w w' := by
 by_cases h1 : 4 ≤ n ∧ n ≤ 7
 ·by_cases h2 : 1 ≤ f ∧ f ≤ 6
  ·have hd : decide (COk n f) = true := by simp [COk, h1, h2]
   rw [hd]
   go_enter Tryz.func112, Tryz.ntmps112
   go_wp2_with (first | (go_at_call 113; refine (within_yes _ _ _ _ (by omega) (by omega)).mono ?_; rintro e w' ⟨rfl, rfl⟩))
   go_ret
   exact ⟨rfl, conf_below _ _⟩
  ·have hd : decide (COk n f) = false := by simp [COk, h1]; omega
   rw [hd]
   go_enter Tryz.func112, Tryz.ntmps112
   go_wp2_with fail
   refine (within_yes _ _ _ _ (by omega) (by omega)).mono ?_
   rintro e w' ⟨rfl, rfl⟩
   go_wp2_with fail
   refine (within_no _ _ _ _ (by omega)).mono ?_
   rintro e w' ⟨rfl, rfl⟩
   go_wp2
   go_ret
   exact ⟨rfl, conf_below _ _⟩
 ·have hd : decide (COk n f) = false := by simp only [decide_eq_false_iff_not]; rintro ⟨h, _⟩; exact h1 h
  rw [hd]
  go_enter Tryz.func112, Tryz.ntmps112
  go_wp2_with fail
  refine (within_no _ _ _ _ (by omega)).mono ?_
  rintro e w' ⟨rfl, rfl⟩
  go_wp2
  go_ret
  exact ⟨rfl, conf_below _ _⟩

set_option maxHeartbeats 800000 in
set_option maxRecDepth 100000 in
theorem implFaults (n f : Int) (w : World) :
 Calls Tryz.prog 196 #[cv n f] w fun e w' => e = .returned (.int .i64 (faultsOf n f)) ∧ Below w.heap.size w w' := by
 have OK := hide fun w => implConfOk n f w
 by_cases h : COk n f
 ·have hd : decide (COk n f) = true := by simpa using h
  rw [hd] at OK
  have hf : faultsOf n f = (n - 1) / 3 := by simp [faultsOf, h]
  rw [hf]
  have L0 := loc_at w #[.int .i64 n, .int .i64 f] 32 rfl
  rcases cok_cases h with rfl | rfl | rfl | rfl
  all_goals
   clear h hd hf
   go_enter Tryz.func196, Tryz.ntmps196
   go_wp2_with fail
   refine (unhide OK _).mono ?_
   rintro e w1 ⟨rfl, b1⟩
   have L1 := L0.below b1 L0.lt
   have B1 := (conf_below _ _).trans (b1.mono (by simp))
   have p0 := L1.cell 0 rfl
   have p1 := L1.cell 1 rfl
   clear L0 b1
   go_wp2
   go_ret
   exact ⟨by go_num, B1⟩
 ·have hd : decide (COk n f) = false := by simpa using h
  rw [hd] at OK
  have hf : faultsOf n f = 0 := by simp [faultsOf, h]
  rw [hf]
  clear h hd hf
  go_enter Tryz.func196, Tryz.ntmps196
  go_wp2_with fail
  refine (unhide OK _).mono ?_
  rintro e w1 ⟨rfl, b1⟩
  go_wp2
  go_ret
  exact ⟨rfl, (conf_below _ _).trans (b1.mono (by simp))⟩

set_option maxHeartbeats 800000 in
set_option maxRecDepth 100000 in
theorem specQuorum (n f : Int) (w : World) :
 Calls Tryz.prog 163 #[cv n f] w fun e w' => e = .returned (.int .i64 (quorumOf n f)) ∧ Below w.heap.size w w' := by
 have OK := hide fun w => specConfOk n f w
 by_cases h : COk n f
 ·have hd : decide (COk n f) = true := by simpa using h
  rw [hd] at OK
  have hf : quorumOf n f = n - (n - 1) / 3 := by simp [quorumOf, h]
  rw [hf]
  have L0 := loc_at w #[.int .i64 n, .int .i64 f] 32 rfl
  rcases cok_cases h with rfl | rfl | rfl | rfl
  all_goals
   clear h hd hf
   go_enter Tryz.func163, Tryz.ntmps163
   go_wp2_with fail
   refine (unhide OK _).mono ?_
   rintro e w1 ⟨rfl, b1⟩
   have L1 := L0.below b1 L0.lt
   have B1 := (conf_below _ _).trans (b1.mono (by simp))
   have p0 := L1.cell 0 rfl
   have p1 := L1.cell 1 rfl
   clear L0 b1
   go_wp2
   go_ret
   exact ⟨by go_num, B1⟩
 ·have hd : decide (COk n f) = false := by simpa using h
  rw [hd] at OK
  have hf : quorumOf n f = 0 := by simp [quorumOf, h]
  rw [hf]
  clear h hd hf
  go_enter Tryz.func163, Tryz.ntmps163
  go_wp2_with fail
  refine (unhide OK _).mono ?_
  rintro e w1 ⟨rfl, b1⟩
  go_wp2
  go_ret
  exact ⟨rfl, (conf_below _ _).trans (b1.mono (by simp))⟩

set_option maxHeartbeats 800000 in
set_option maxRecDepth 100000 in
theorem implQuorum (n f : Int) (w : World) :
 Calls Tryz.prog 169 #[cv n f] w fun e w' => e = .returned (.int .i64 (quorumOf n f)) ∧ Below w.heap.size w w' := by
 have OK := hide fun w => implConfOk n f w
 have FA := hide fun w => implFaults n f w
 by_cases h : COk n f
 ·have hd : decide (COk n f) = true := by simpa using h
  rw [hd] at OK
  have hf : quorumOf n f = n - faultsOf n f := by simp [quorumOf, faultsOf, h]
  rw [hf]
  have h1 := h.1.1
  have h2 := h.1.2
  have hg : faultsOf n f = (n - 1) / 3 := by simp [faultsOf, h]
  have h3 : 1 ≤ faultsOf n f ∧ faultsOf n f ≤ 2 := by omega
  obtain ⟨h3, h4⟩ := h3
  clear hg hf hd h
  generalize faultsOf n f = q at *
  have L0 := loc_at w #[.int .i64 n, .int .i64 f] 32 rfl
  go_enter Tryz.func169, Tryz.ntmps169
  go_wp2_with fail
  refine (unhide OK _).mono ?_
  rintro e w1 ⟨rfl, b1⟩
  have L1 := L0.below b1 L0.lt
  have B1 : Below w.heap.size w w1 := (conf_below _ _).trans (b1.mono (by simp))
  have K : Hid (∀ w', Below w1.heap.size w1 w' → Below w1.heap.size w1 w' ∧ w'.cell? ⟨w.heap.size, 0, none⟩ = some (.int .i64 n) ∧ w'.cell? ⟨w.heap.size, 1, none⟩ = some (.int .i64 f)) := hide fun w' hb' =>
   ⟨hb', (L1.below hb' L1.lt).cell 0 rfl, (L1.below hb' L1.lt).cell 1 rfl⟩
  have bA : Below w1.heap.size w1 w1.drew := Below.drew (Below.refl _ _)
  have hKeep := unhide K _ bA
  clear L0 L1 b1
  go_upto_region 3 with fail
  first | go_region_held3 (fun w' => Below w1.heap.size w1 w' ∧ w'.cell? ⟨w.heap.size, 0, none⟩ = some (.int .i64 n) ∧ w'.cell? ⟨w.heap.size, 1, none⟩ = some (.int .i64 f)) (exact hKeep) (first
   | (go_at_call 196; have hgo := bA; refine (unhide FA _).mono ?_; rintro e wa ⟨rfl, ba⟩
      have bB : Below w1.heap.size w1 wa := bA.trans (ba.mono bA.size)
      have hKeep := unhide K _ bB; clear bA hgo ba)) | fail
  all_goals
   go_wp2
   go_ret
   exact ⟨by simp only [IntKind.wrap_i64]; simp; omega, B1.trans (bB.mono B1.size)⟩
 ·have hd : decide (COk n f) = false := by simpa using h
  rw [hd] at OK
  have hf : quorumOf n f = 0 := by simp [quorumOf, h]
  rw [hf]
  clear h hd hf
  go_enter Tryz.func169, Tryz.ntmps169
  go_wp2_with fail
  refine (unhide OK _).mono ?_
  rintro e w1 ⟨rfl, b1⟩
  go_wp2
  go_ret
  exact ⟨rfl, (conf_below _ _).trans (b1.mono (by simp))⟩

end Go.Proofs.YtgfboghieejbkaaGreatDoor
namespace Go.Proofs.YtgfboghieejbkaaGreatDoor
open Go.RowKit

theorem ints_plain64 (xs : List Int) (u : Value) (h : u ∈ xs.map (Value.int .i64)) : u.oneCell' = true := by
 obtain ⟨x, _, rfl⟩ := List.mem_map.1 h; rfl

theorem inews_cells {w : World} {g off : Nat} {xs : List Int} (h : ∀ k, k < xs.length → w.cell? ⟨g, off + k, none⟩ = some (.int .i64 (xs.getD k 0))) :
 ∀ j u, (xs.map (Value.int .i64))[j]? = some u → w.cell? ((⟨g, off, none⟩ : Addr).add j) = some u := by
 intro j u hj
 rw [List.getElem?_map] at hj
 obtain ⟨x, hx, rfl⟩ := Option.map_eq_some_iff.1 hj
 have hlt := (List.getElem?_eq_some_iff.1 hx).1
 have e : ((⟨g, off, none⟩ : Addr).add j) = ⟨g, off + j, none⟩ := by unfold Addr.add; split <;> simp_all
 rw [e, h j hlt]
 simp [List.getD_eq_getElem?_getD, hx]

def PI (w : World) (v : Value) (xs : List Int) : Prop :=
 ∃ ao cap, v = .slice ao xs.length cap ∧ (xs = [] ∨ ∃ ad : Addr, ao = some ad ∧ ∀ j u, (xs.map (Value.int .i64))[j]? = some u → w.cell? (ad.add j) = some u)
theorem PI.below {w w' : World} {v : Value} {xs : List Int} (h : PI w v xs) (hb : Below w.heap.size w w') : PI w' v xs := by
 obtain ⟨ao, cap, rfl, h⟩ := h
 refine ⟨ao, cap, rfl, ?_⟩
 rcases h with h | ⟨ad, rfl, h⟩
 ·exact .inl h
 ·exact .inr ⟨ad, rfl, fun j u hj => (hb.cell (cell_lt (h j u hj))).trans (h j u hj)⟩
theorem RI.pi {w : World} {v : Value} {xs : List Int} (h : RI w v xs) : PI w v xs := by
 obtain ⟨hl, ao, cap, rfl, h⟩ := h
 refine ⟨ao, cap, rfl, ?_⟩
 rcases h with h | ⟨b, off, rfl, h⟩
 ·exact .inl h
 ·exact .inr ⟨_, rfl, inews_cells h⟩
theorem RI.form {w : World} {v : Value} {xs : List Int} (h : RI w v xs) : ∃ ao ca, v = .slice ao xs.length ca := by obtain ⟨_, ao, ca, e, _⟩ := h; exact ⟨ao, ca, e⟩
theorem RI.at {w : World} {ao : Option Addr} {n ca : Nat} {xs : List Int} (h : RI w (.slice ao n ca) xs) (k : Nat) (hk : k < xs.length) : ∃ b off, ao = some ⟨b, off, none⟩ ∧ w.cell? ⟨b, off + k, none⟩ = some (.int .i64 (xs.getD k 0)) := by
 obtain ⟨_, ao', ca', e, h⟩ := h
 cases e
 rcases h with rfl | ⟨b, off, rfl, h⟩
 ·simp at hk
 ·exact ⟨b, off, rfl, h k hk⟩
theorem PI.take {w : World} {ao : Option Addr} {n cap : Nat} {xs : List Int} (h : PI w (.slice ao n cap) xs) (k : Nat) (hk : k ≤ n) (cap' : Nat) : PI w (.slice ao k cap') (xs.take k) := by
 obtain ⟨ao', cap2, e, h⟩ := h
 cases e
 refine ⟨ao, cap', by rw [List.length_take]; congr 1; omega, ?_⟩
 rcases h with rfl | ⟨ad, rfl, h⟩
 ·left; simp
 ·refine .inr ⟨ad, rfl, fun j u hj => h j u ?_⟩
  rw [List.map_take, List.getElem?_take] at hj
  split at hj
  ·exact hj
  ·cases hj
theorem PI.drop {w : World} {ao : Option Addr} {n cap : Nat} {xs : List Int} (h : PI w (.slice ao n cap) xs) (k : Nat) (cap' : Nat) {bo : Option Addr} (hb : k < n → bo = ao.map (·.add (k * 1))) : PI w (.slice bo (n - k) cap') (xs.drop k) := by
 obtain ⟨ao', cap2, e, h⟩ := h
 cases e
 refine ⟨bo, cap', by rw [List.length_drop], ?_⟩
 by_cases hlt : k < xs.length
 ·rcases h with rfl | ⟨ad, rfl, h⟩
  ·simp at hlt
  ·refine .inr ⟨ad.add (k * 1), hb hlt, fun j u hj => ?_⟩
   rw [List.map_drop, List.getElem?_drop] at hj
   have := h _ u hj
   rw [← this]
   congr 1
   obtain ⟨b, o, s⟩ := ad
   unfold Addr.add
   split <;> split <;> simp_all <;> omega
 ·left; rw [List.drop_of_length_le (by omega)]
theorem grown_same (w : World) (row : Option Nat) : w.grownBy w row := ⟨rfl, rfl, rfl, Nat.le_refl _, fun _ _ _ => rfl⟩
theorem run_append_none1 (ty : TypeId) (base cap : Nat) (v : Value) (n : Nat) (xs : List Value) (w : World) (hown : w.ownsRow base 3 1 v n xs) :
 (Builtin.append_ #[24, 24] ty #[v, .slice none 0 cap]).run Tryz.prog w = .ok v w := by
 obtain ⟨i0, hi, hz0, hz1, hz2⟩ := info_parts Tryz.info3
 rcases hown.2 with ⟨rfl, rfl⟩ | ⟨g, cp, cur, rfl, _, _, hnc, _⟩
 ·simp [Builtin.append_, run_underlying Tryz.underlying24, sizeOf, typeInfo, hi, Builtin.lenOf, Builtin.firstCells]
 ·simp [Builtin.append_, run_underlying Tryz.underlying24, sizeOf, typeInfo, hi, Builtin.lenOf, Builtin.firstCells, hnc, storeCells]
theorem append_ints {ops : Array Oper} {rest : List Oper} {o : Oper} {a : Act} {Q : Exit → Act → World → Prop} {w : World} (hgd : o.guard = none) (s x : Operand)
 (ho : o.op = .call { callee := .builtin .append, args := #[s, x], argTypes := #[24, 24] }) (base : Nat) (v u : Value) (xs ys : List Int) (hs : a.eval s = v) (hx : a.eval x = u)
 (hown : OI w base v xs) (hp : PI w u ys) (hl : xs.length + ys.length ≤ 16777216) (hbase : base ≤ w.heap.size)
 (h : ∀ v' w', OI w' base v' (xs ++ ys) → w.grownBy w' v.ownBlock → (v'.ownBlock = v.ownBlock ∨ v'.ownBlock = some w.heap.size) → wpList Tryz.prog ops Q rest (a.put o.dst v') w') :
 wpList Tryz.prog ops Q (o :: rest) a w := by
 obtain ⟨i0, hi, hz0, hz1, hz2⟩ := info_parts Tryz.info3
 obtain ⟨ao, cap, rfl, hp⟩ := hp
 match ao, hx with
 | none, hx =>
  have hy : ys = [] := by rcases hp with h | ⟨ad, e, _⟩; exact h; cases e
  subst hy
  refine wpList_plain hgd fun K hK => ?_
  have hrun := run_append_none1 o.type base cap v xs.length (xs.map (Value.int .i64)) w hown
  unfold Oper.wp
  simp only [List.length_nil] at hx
  simp [execOp, ho, resolve, invoke, builtin, hs, hx, hrun, Result.andThen]
  exact hK _ _ (h v w (by simpa using hown) (grown_same _ _) (.inl rfl))
 | some ad, hx =>
  have hn : ∀ j u, (ys.map (Value.int .i64))[j]? = some u → w.cell? (ad.add j) = some u := by
   rcases hp with rfl | ⟨ad', e, h⟩
   ·intro j u hj; simp at hj
   ·cases e; exact h
  refine wpList_append_own_at _ hgd s x 24 ho base 3 i0 (.int .i64 0) 1 8 Tryz.underlying24 hi hz0 hz1 hz2 rfl (by decide) v xs.length (xs.map (Value.int .i64)) hs hown ad ys.length cap (ys.map (Value.int .i64)) hx (by simp) hn (ints_plain64 ys) (by unfold maxLen; omega) (by omega) hbase ?_
  intro v' w' ho' hg' _ hb'
  refine h v' w' ?_ hg' hb'
  unfold OI
  rw [List.map_append, List.length_append]
  exact ho'
set_option maxRecDepth 100000 in
theorem icut_to (ao : Option Addr) (n ca k : Nat) (w : World) (hk : k ≤ ca) :
 (Instr.slice 24 (.slice ao n ca) none (some (.int .i64 (k : Int))) none).run Tryz.prog w = .ok (.slice ao k ca) w := by
 obtain ⟨i0, hi, hz0, hz1, hz2⟩ := info_parts Tryz.info3
 rw [run_slice_h (ht := Tryz.underlying24) (kh := .i64) (h := (k : Int)) (h0 := by omega) (h2 := by omega)]
 have he : Tryz.prog.elem 24 = 3 := by simp [Program.elem, Tryz.underlying24]
 have hs : (sizeOf (Tryz.prog.elem 24)).run Tryz.prog w = .ok 1 w := by rw [he]; simp [sizeOf, typeInfo, hi, hz1]
 rw [hs]
 simp [sliced, Result.andThen]
 intro _; cases ao <;> rfl
set_option maxRecDepth 100000 in
theorem icut_from (ao : Option Addr) (n ca k : Nat) (w : World) (hk : k ≤ n) :
 (Instr.slice 24 (.slice ao n ca) (some (.int .i64 (k : Int))) none none).run Tryz.prog w = .ok (.slice (if ca = k then ao else ao.map (·.add (k * 1))) (n - k) (ca - k)) w := by
 obtain ⟨i0, hi, hz0, hz1, hz2⟩ := info_parts Tryz.info3
 rw [run_slice_l (ht := Tryz.underlying24) (kl := .i64) (l := (k : Int)) (h0 := by omega) (h1 := by omega)]
 have he : Tryz.prog.elem 24 = 3 := by simp [Program.elem, Tryz.underlying24]
 have hs : (sizeOf (Tryz.prog.elem 24)).run Tryz.prog w = .ok 1 w := by rw [he]; simp [sizeOf, typeInfo, hi, hz1]
 rw [hs]
 simp [sliced, Result.andThen]
def Cap (v : Value) : Prop := ∃ ao n cap, v = .slice ao n cap ∧ n ≤ cap ∧ cap ≤ maxLen
theorem OI.cap {w : World} {base : Nat} {v : Value} {xs : List Int} (h : OI w base v xs) : Cap v := by
 rcases h.2 with ⟨rfl, h0⟩ | ⟨g, cap, cur, rfl, _, _, h1, h2, h3⟩
 ·exact ⟨_, _, _, rfl, by simp, by unfold maxLen; omega⟩
 ·exact ⟨_, _, _, rfl, by first | exact h1 | exact h2 | exact h3 | omega, by first | exact h2 | exact h3 | omega⟩

abbrev qv (n : Int) (s : ByteArray) (v : Value) : Value := .agg #[.int .i64 n, .string s, v]
theorem qalloc (w : World) (o : Obj) : Below w.heap.size w (w.alloc o) := (Below.refl _ _).alloc (Nat.le_refl _) _
theorem qalloc2 (w : World) (o p : Obj) : Below w.heap.size w ((w.alloc o).alloc p) := ((Below.refl _ _).alloc (Nat.le_refl _) _).alloc (by simp) _
end Go.Proofs.YtgfboghieejbkaaGreatDoor
namespace Go.Proofs.YtgfboghieejbkaaGreatDoor

def addL (s : List Int) (i : Int) : List Int := if i ∈ s then s else s.takeWhile (fun x => decide (x < i)) ++ i :: s.dropWhile (fun x => decide (x < i))
def OkL (n : Int) (s : List Int) : Prop := (∀ x ∈ s, 0 ≤ x ∧ x < n) ∧ s.Pairwise (· < ·)
theorem mem_add (s : List Int) (i x : Int) : x ∈ addL s i ↔ x ∈ s ∨ x = i := by
 unfold addL
 split
 ·rename_i h
  constructor
  ·exact .inl
  ·rintro (h1 | rfl)
   ·exact h1
   ·exact h
 ·have e := List.takeWhile_append_dropWhile (p := fun x => decide (x < i)) (l := s)
  have h2 : x ∈ s ↔ x ∈ s.takeWhile (fun x => decide (x < i)) ∨ x ∈ s.dropWhile (fun x => decide (x < i)) := by
   conv => lhs; rw [← e]
   exact List.mem_append
  simp only [List.mem_append, List.mem_cons, h2]
  constructor
  ·rintro (h | h | h)
   ·exact .inl (.inl h)
   ·exact .inr h
   ·exact .inl (.inr h)
  ·rintro ((h | h) | h)
   ·exact .inl h
   ·exact .inr (.inr h)
   ·exact .inr (.inl h)
theorem add_len (s : List Int) (i : Int) : (addL s i).length ≤ s.length + 1 := by
 unfold addL
 split
 ·omega
 ·have e := congrArg List.length (List.takeWhile_append_dropWhile (p := fun x => decide (x < i)) (l := s))
  rw [List.length_append] at e
  rw [List.length_append, List.length_cons]; omega
def WfL (xs : List Int) : Prop := ∀ x ∈ xs, (Lit.int .i64 x).wf = true
theorem WfL.at {xs : List Int} (h : WfL xs) (k : Nat) (hk : k < xs.length) : (Lit.int .i64 (xs.getD k 0)).wf = true := by
 rw [List.getD_eq_getElem?_getD, List.getElem?_eq_getElem hk]; exact h _ (List.getElem_mem hk)
end Go.Proofs.YtgfboghieejbkaaGreatDoor
