/- Texts that belong together: ImplNames, PartRows, PartCmpP, SpecSets. -/
import Derived.Test.YtgfboghieejbkaaGreatDoorWSAR
import Derived.Test.YtgfboghieejbkaaGreatDoorWSAQ
import Derived.Lib.LastIndexByte
import Derived.Test.YtgfboghieejbkaaGreatDoorWSAB
import Derived.OwnWalk
import Derived.Maps.AppendAt
import Derived.Deep.RegionHeld3
namespace Go.Proofs.YtgfboghieejbkaaGreatDoor
open Go.RowKit
set_option linter.unusedSectionVars false
variable [∀ (a b c d : Int), Decidable (Ok4 a b c d)]
variable [∀ (a b c d : Nat), Decidable (okN a b c d)]
variable [∀ (last : Int) (s : St), Decidable (GoodSt last s)]
variable [∀ (x : T4), Decidable (OkT x)]

set_option maxHeartbeats 8000000 in
set_option maxRecDepth 100000 in
theorem implNameOk (s : ByteArray) (w : World) (hs : s.size ≤ 33554432) (hE : Env w) :
 Calls Tryz.prog 138 #[.string s] w fun e w' => e = .returned (.bool (stepsAns s).isSome) ∧ Below w.heap.size w w' := by
 have ST := hide fun w hE => implSteps s w hs hE
 generalize stepsAns s = A at *
 go_enter Tryz.func138, Tryz.ntmps138
 go_wp2_with fail
 refine (unhide ST _ hE).mono ?_
 rintro e w1 ⟨v, rfl, _, b1⟩
 go_wp2
 go_ret
 exact ⟨rfl, b1⟩


set_option maxHeartbeats 8000000 in
set_option maxRecDepth 100000 in
theorem implHeight (s : ByteArray) (w : World) (hs : s.size ≤ 33554432) (hE : Env w) :
 Calls Tryz.prog 59 #[.string s] w fun e w' => e = .returned (.int .i64 (heightAns s)) ∧ Below w.heap.size w w' := by
 have ST := hide fun w hE => implSteps s w hs hE
 have hl : ∀ ss, stepsAns s = some ss → ss.length ≤ 30 := fun ss h => ((names_iff _ _).1 h).2.1
 unfold heightAns
 generalize stepsAns s = A at *
 go_enter Tryz.func59, Tryz.ntmps59
 go_wp2_with fail
 refine (unhide ST _ hE).mono ?_
 rintro e w1 ⟨v, rfl, o1, b1⟩
 obtain ⟨ao, ca, rfl⟩ := o1.form
 clear o1 ST hE
 cases A with
 | none =>
  go_wp2
  go_ret
  exact ⟨rfl, b1⟩
 | some ss =>
  have hl := hl ss rfl
  go_wp2
  go_ret
  exact ⟨rfl, b1⟩


set_option maxHeartbeats 8000000 in
set_option maxRecDepth 100000 in
theorem implViewOf (s : ByteArray) (w : World) (hs : s.size ≤ 33554432) (hE : Env w) :
 Calls Tryz.prog 62 #[.string s] w fun e w' => e = .returned (.int .i64 (viewAns s)) ∧ Below w.heap.size w w' := by
 have ST := hide fun w hE => implSteps s w hs hE
 have hl : ∀ ss, stepsAns s = some ss → ss.length ≤ 30 ∧ ∀ x ∈ ss, OkSt x := fun ss h => ⟨((names_iff _ _).1 h).2.1, ((names_iff _ _).1 h).2.2.1⟩
 unfold viewAns
 generalize stepsAns s = A at *
 go_enter Tryz.func62, Tryz.ntmps62
 go_wp2_with fail
 refine (unhide ST _ hE).mono ?_
 rintro e w1 ⟨v, rfl, o1, b1⟩
 cases A with
 | none =>
  obtain ⟨ao, ca, rfl⟩ := o1.form
  clear o1 ST hl
  go_wp2
  go_ret
  exact ⟨rfl, b1⟩
 | some ss =>
  obtain ⟨hl, hok⟩ := hl ss rfl
  obtain ⟨ao, ca, hv, r⟩ := o1.rst (fun x hx => by have := (hok x hx).2.1; omega)
  subst hv
  clear o1 ST hok
  simp only [Option.getD_some] at *
  rcases r with rfl | ⟨g, rfl, r⟩
  ·go_wp2
   go_ret
   exact ⟨rfl, b1⟩
  ·by_cases h0 : ss.length = 0
   ·obtain rfl := List.length_eq_zero_iff.1 h0
    go_wp2
    go_ret
    exact ⟨rfl, b1⟩
   ·obtain ⟨n, hn⟩ : ∃ n, ss.length = n + 1 := ⟨ss.length - 1, by omega⟩
    obtain ⟨u, c0, c1, _⟩ := r n (by omega)
    have hlast := hide (show (ss.getLast?.map (·.1)).getD 0 = (ss.getD n zst).1 by
     rw [List.getLast?_eq_getElem?, List.getD_eq_getElem?_getD, List.getElem?_eq_getElem (show ss.length - 1 < ss.length by omega), List.getElem?_eq_getElem (show n < ss.length by omega)]
     simp [hn])
    have hi : ((n + 1 : Nat) : Int) - 1 = n := by omega
    generalize (ss.getD n zst).1 = x at *
    clear r h0
    go_wp2
    go_ret
    exact ⟨by rw [show ((some ss).getD []) = ss from rfl, unhide hlast]; rfl, b1⟩


theorem ext_eq (s t : ByteArray) : extB s t = ((stepsAns s).isSome && (stepsAns t).isSome && Lib.hasPrefix (s ++ (⟨#[47]⟩ : ByteArray)).data.toList (t ++ (⟨#[47]⟩ : ByteArray)).data.toList) := by
 rw [Bool.eq_iff_iff, extB_bytes, Bool.and_eq_true, Bool.and_eq_true, and_assoc]
 have e : ∀ x : ByteArray, (x ++ (⟨#[47]⟩ : ByteArray)).data.toList = x.data.toList ++ [47] := fun x => by simp [ByteArray.data_append]
 rw [e, e]
 have : Lib.hasPrefix (s.data.toList ++ [47]) (t.data.toList ++ [47]) = true ↔ extL s.data.toList t.data.toList := by
  unfold Lib.hasPrefix
  rw [List.isPrefixOf_iff_prefix]
  exact pre_mark _ _
 rw [this]

set_option maxHeartbeats 8000000 in
set_option maxRecDepth 100000 in
theorem implExtends (s t : ByteArray) (w : World) (hs : s.size ≤ 33554432) (ht : t.size ≤ 33554432) (hE : Env w) :
 Calls Tryz.prog 58 #[.string s, .string t] w fun e w' => e = .returned (.bool (extB s t)) ∧ Below w.heap.size w w' := by
 have NS := hide fun w hE => implNameOk s w hs hE
 have NT := hide fun w hE => implNameOk t w ht hE
 have HP := hide fun w => Tryz.strings_HasPrefix (s ++ (⟨#[47]⟩ : ByteArray)) (t ++ (⟨#[47]⟩ : ByteArray)) w
 rw [ext_eq s t]
 have q1 : ∀ w, (Op.stringOp .add s (⟨#[47]⟩ : ByteArray)).run Tryz.prog w = .ok (.string (s ++ (⟨#[47]⟩ : ByteArray))) w := fun w => run_string_add_sum w _ _ (by show s.size + 1 ≤ _; omega)
 have q2 : ∀ w, (Op.stringOp .add t (⟨#[47]⟩ : ByteArray)).run Tryz.prog w = .ok (.string (t ++ (⟨#[47]⟩ : ByteArray))) w := fun w => run_string_add_sum w _ _ (by show t.size + 1 ≤ _; omega)
 generalize Lib.hasPrefix (s ++ (⟨#[47]⟩ : ByteArray)).data.toList (t ++ (⟨#[47]⟩ : ByteArray)).data.toList = x at *
 generalize (stepsAns s).isSome = a at *
 generalize (stepsAns t).isSome = b at *
 go_enter Tryz.func58, Tryz.ntmps58
 go_wp2_with fail
 refine (unhide NS _ hE).mono ?_
 rintro _ w1 ⟨rfl, b1⟩
 have hE1 := hE.below b1
 clear NS hE
 cases a with
 | false =>
  clear NT HP q1 q2 hE1
  go_wp2
  go_ret
  exact ⟨rfl, b1⟩
 | true =>
  go_wp2_with fail
  refine (unhide NT _ hE1).mono ?_
  rintro _ w2 ⟨rfl, b2⟩
  have b12 := b1.trans (b2.mono b1.size)
  clear NT b2 b1 hE1
  cases b with
  | false =>
   clear HP q1 q2
   go_wp2
   go_ret
   exact ⟨rfl, b12⟩
  | true =>
   generalize s ++ (⟨#[47]⟩ : ByteArray) = s' at *
   generalize t ++ (⟨#[47]⟩ : ByteArray) = t' at *
   go_wp2_with fail
   refine (unhide HP _).mono ?_
   rintro _ w3 ⟨rfl, rfl⟩
   go_wp2
   go_ret
   exact ⟨by simp, b12⟩

theorem last_up {s : ByteArray} {ss : List St} (h : stepsAns s = some ss) (h1 : 1 ≤ ss.length) : ∃ k : Nat, k < s.size ∧ Lib.lastIndexByte s 47 = k ∧ s.extract 0 k = upAns s := by
 have hat : ∀ j, j < s.size → s.data.toList[j]? = some s.data[j]! := fun j hj => by
  rw [getElem!_pos s.data j (by simpa using hj)]; simp
 have hl : s.data.toList.length = s.size := by simp
 rcases Lib.lastIndexByte_spec s 47 with ⟨_, h2⟩ | ⟨i, hi, e, hx, hn⟩
 ·exfalso
  obtain ⟨h3, _⟩ := (names_iff _ _).1 h
  cases ss with
  | nil => simp at h1
  | cons x ss =>
   have h0 : s.data.toList[0]? = some 47 := by rw [h3]; rfl
   have hz : 0 < s.size := by
    have := (List.getElem?_eq_some_iff.1 h0).1
    omega
   have := h2 0 hz
   rw [hat 0 hz] at h0
   rw [Option.some.inj h0] at this
   exact this rfl
 ·refine ⟨i, hi, e, ?_⟩
  have hi' : s.data.toList[i]? = some 47 := by
   rw [hat i hi]; congr 1
   exact UInt8.toNat_inj.1 (by show s.data[i]!.toNat = 47; omega)
  have hd : (47 : UInt8) ∉ s.data.toList.drop (i + 1) := fun hm => by
   obtain ⟨j, hj, e2⟩ := List.getElem_of_mem hm
   rw [List.length_drop] at hj
   rw [List.getElem_drop] at e2
   have hj2 : i + 1 + j < s.size := by omega
   have h4 := hat _ hj2
   rw [List.getElem?_eq_getElem (by omega), e2] at h4
   have := hn (i + 1 + j) (by omega) hj2
   rw [← Option.some.inj h4] at this
   exact this rfl
  have := up_cut h (i + 1) (by omega) hd (.inr hi')
  rw [← this, ext_toB]; simp

set_option maxHeartbeats 8000000 in
set_option maxRecDepth 100000 in
theorem implUpOf (s : ByteArray) (w : World) (hs : s.size ≤ 33554432) (hE : Env w) :
 Calls Tryz.prog 176 #[.string s] w fun e w' => e = .returned (.string (upAns s)) ∧ Below w.heap.size w w' := by
 have HT := hide fun w hE => implHeight s w hs hE
 have LM := hide fun w => last_mark 47 s w hs
 have hc : heightAns s < 1 → upAns s = ⟨#[]⟩ := fun h => by
  unfold heightAns at h
  unfold upAns
  cases e : stepsAns s with
  | none => rfl
  | some ss =>
   rw [e] at h
   have : ss = [] := List.length_eq_zero_iff.1 (by simp only at h; omega)
   subst this; rfl
 have hh : ¬ heightAns s < 1 → ∃ k : Nat, k < s.size ∧ Lib.lastIndexByte s 47 = k ∧ s.extract 0 k = upAns s := fun h => by
  unfold heightAns at h
  cases e : stepsAns s with
  | none => rw [e] at h; simp at h
  | some ss => rw [e] at h; exact last_up e (by simp only at h; omega)
 have e47 : (((47 : UInt8).toNat : Nat) : Int) = 47 := rfl
 rw [e47] at LM
 generalize heightAns s = n at *
 by_cases hn : n < 1
 ·rw [hc hn]
  clear LM hc hh
  have hn' : decide (n < 1) = true := by simpa using hn
  go_enter Tryz.func176, Tryz.ntmps176
  go_wp2_with fail
  refine (unhide HT _ hE).mono ?_
  rintro _ w1 ⟨rfl, b1⟩
  clear HT hE
  go_wp2
  go_ret
  exact ⟨rfl, b1⟩
 ·obtain ⟨k, hk, e1, e2⟩ := hh hn
  rw [e1] at LM
  rw [← e2]
  have CL := hide fun w => clone_any (s.extract 0 k) w (by rw [ByteArray.size_extract]; omega)
  clear hc hh e1 e2
  have hn' : decide (n < 1) = false := by simpa using hn
  go_enter Tryz.func176, Tryz.ntmps176
  go_wp2_with fail
  refine (unhide HT _ hE).mono ?_
  rintro _ w1 ⟨rfl, b1⟩
  clear HT hE
  go_wp2_with fail
  refine (unhide LM _).mono ?_
  rintro _ w2 ⟨rfl, rfl⟩
  go_wp2_with fail
  refine (unhide CL _).mono ?_
  rintro _ w3 ⟨rfl, b3⟩
  go_wp2
  go_ret
  exact ⟨rfl, b1.trans (b3.mono b1.size)⟩
end Go.Proofs.YtgfboghieejbkaaGreatDoor
namespace Go.Proofs.YtgfboghieejbkaaGreatDoor
open Go.RowKit

abbrev Pt := Int × ByteArray × List Int
def zpt : Pt := (0, ⟨#[]⟩, [])
def phd (p : Pt) : Int × ByteArray := (p.1, p.2.1)
def pcell (p : (Int × ByteArray) × Value) : List Value := [.int .i64 p.1.1, .string p.1.2, p.2]
def pcells (ps : List ((Int × ByteArray) × Value)) : List Value := ps.flatMap pcell
structure OPtV (w : World) (base : Nat) (v : Value) (ps : List Pt) (vs : List Value) : Prop where
 len : vs.length = ps.length
 row : w.ownsRow base 26 3 v ps.length (pcells ((ps.map phd).zip vs))
 each : ∀ k, k < ps.length → OI w base (vs.getD k (.slice none 0 0)) (ps.getD k zpt).2.2
 apart : ∀ i j, i < j → j < ps.length → ∀ b, (vs.getD i (.slice none 0 0)).ownBlock = some b → (vs.getD j (.slice none 0 0)).ownBlock ≠ some b
def OPt (w : World) (base : Nat) (v : Value) (ps : List Pt) : Prop := ∃ vs, OPtV w base v ps vs
theorem OPtV.below {w w' : World} {base : Nat} {v : Value} {ps : List Pt} {vs : List Value} (h : OPtV w base v ps vs) (hb : Below w.heap.size w w') : OPtV w' base v ps vs :=
 ⟨h.len, World.ownsRow.kept (row := none) h.row ⟨hb.os, hb.tape, hb.output, hb.size, fun k hk _ => hb.block k hk⟩ (by cases v.ownBlock <;> simp), fun k hk => (h.each k hk).below hb, h.apart⟩
theorem OPt.below {w w' : World} {base : Nat} {v : Value} {ps : List Pt} (h : OPt w base v ps) (hb : Below w.heap.size w w') : OPt w' base v ps := by
 obtain ⟨vs, h⟩ := h; exact ⟨vs, h.below hb⟩
theorem OPtV.kp {w w' : World} {base : Nat} {X : Nat → Prop} {v : Value} {ps : List Pt} {vs : List Value} (h : OPtV w base v ps vs) (k : Kp w w' X) (hX : ∀ j, base ≤ j → j < w.heap.size → ¬ X j) : OPtV w' base v ps vs := by
 have rl := World.ownsRow.lt h.row
 refine ⟨h.len, ?_, fun j hj => (h.each j hj).kp k (fun b hb => by have := World.ownsRow.lt (h.each j hj) b hb; exact hX b this.1 this.2), h.apart⟩
 rcases h.row with ⟨h1, ⟨e, h0⟩ | ⟨g, cap, cur, e, hg, hrow, rest⟩⟩
 ·exact ⟨h1, .inl ⟨e, h0⟩⟩
 ·have hlt := rl g (by rw [e]; rfl)
  exact ⟨h1, .inr ⟨g, cap, cur, e, hg, (k.block g hlt.2 (hX g hlt.1 hlt.2)).trans hrow, rest⟩⟩
theorem OPt.kp {w w' : World} {base : Nat} {X : Nat → Prop} {v : Value} {ps : List Pt} (h : OPt w base v ps) (k : Kp w w' X) (hX : ∀ j, base ≤ j → j < w.heap.size → ¬ X j) : OPt w' base v ps := by
 obtain ⟨vs, h⟩ := h; exact ⟨vs, h.kp k hX⟩
theorem OPtV.mono {w : World} {base base' : Nat} {v : Value} {ps : List Pt} {vs : List Value} (h : OPtV w base v ps vs) (hb : base' ≤ base) : OPtV w base' v ps vs := by
 refine ⟨h.len, ?_, fun k hk => OI.mono (h.each k hk) hb, h.apart⟩
 obtain ⟨h1, h2⟩ := h.row
 refine ⟨h1, ?_⟩
 rcases h2 with h2 | ⟨g, cap, cur, e, hg, rest⟩
 ·exact .inl h2
 ·exact .inr ⟨g, cap, cur, e, Nat.le_trans hb hg, rest⟩
theorem OPt.mono {w : World} {base base' : Nat} {v : Value} {ps : List Pt} (h : OPt w base v ps) (hb : base' ≤ base) : OPt w base' v ps := by
 obtain ⟨vs, h⟩ := h; exact ⟨vs, h.mono hb⟩
theorem OPt.form {w : World} {base : Nat} {v : Value} {ps : List Pt} (h : OPt w base v ps) : ∃ ao ca, v = .slice ao ps.length ca := by
 obtain ⟨vs, h⟩ := h
 rcases h.row.2 with ⟨rfl, h0⟩ | ⟨g, cap, cur, rfl, _⟩
 ·exact ⟨none, 0, by rw [h0]⟩
 ·exact ⟨_, _, rfl⟩
def RPt (w : World) (v : Value) (ps : List Pt) : Prop :=
 ∃ ao cap, v = .slice ao ps.length cap ∧ (ps = [] ∨ ∃ g off, ao = some ⟨g, off, none⟩ ∧ ∀ k, k < ps.length → ∃ u, w.cell? ⟨g, off + k * 3, none⟩ = some (.int .i64 (ps.getD k zpt).1) ∧ w.cell? ⟨g, off + k * 3 + 1, none⟩ = some (.string (ps.getD k zpt).2.1) ∧ w.cell? ⟨g, off + k * 3 + 2, none⟩ = some u ∧ RI w u (ps.getD k zpt).2.2)
theorem RPt.below {w w' : World} {B : Nat} {v : Value} {ps : List Pt} (h : RPt w v ps) (hb : Below B w w') (hB : w.heap.size ≤ B) : RPt w' v ps := by
 obtain ⟨ao, cap, rfl, h⟩ := h
 refine ⟨ao, cap, rfl, ?_⟩
 rcases h with h | ⟨g, off, rfl, h⟩
 ·exact .inl h
 ·refine .inr ⟨g, off, rfl, fun k hk => ?_⟩
  obtain ⟨u, c0, c1, c2, r⟩ := h k hk
  have hg : g < B := Nat.lt_of_lt_of_le (cell_lt c0) hB
  exact ⟨u, (hb.cell (p := ⟨g, off + k * 3, none⟩) hg).trans c0, (hb.cell (p := ⟨g, off + k * 3 + 1, none⟩) hg).trans c1, (hb.cell (p := ⟨g, off + k * 3 + 2, none⟩) hg).trans c2, r.below hb hB⟩
theorem RPt.form {w : World} {v : Value} {ps : List Pt} (h : RPt w v ps) : ∃ ao ca, v = .slice ao ps.length ca := by obtain ⟨ao, ca, e, _⟩ := h; exact ⟨ao, ca, e⟩
theorem RPt.at {w : World} {ao : Option Addr} {n ca : Nat} {ps : List Pt} (h : RPt w (.slice ao n ca) ps) (k : Nat) (hk : k < ps.length) : ∃ g off u, ao = some ⟨g, off, none⟩ ∧ w.cell? ⟨g, off + k * 3, none⟩ = some (.int .i64 (ps.getD k zpt).1) ∧ w.cell? ⟨g, off + k * 3 + 1, none⟩ = some (.string (ps.getD k zpt).2.1) ∧ w.cell? ⟨g, off + k * 3 + 2, none⟩ = some u ∧ RI w u (ps.getD k zpt).2.2 := by
 obtain ⟨ao', ca', e, h⟩ := h
 cases e
 rcases h with rfl | ⟨g, off, rfl, h⟩
 ·simp at hk
 ·obtain ⟨u, h⟩ := h k hk; exact ⟨g, off, u, rfl, h⟩
structure OPR (w : World) (lo hi : Nat) (v : Value) (ps : List Pt) (vs : List Value) : Prop where
 tab : OPtV w lo v ps vs
 top : hi ≤ w.heap.size
 rowHi : ∀ b, v.ownBlock = some b → b < hi
 eachHi : ∀ k, k < ps.length → ∀ b, (vs.getD k (.slice none 0 0)).ownBlock = some b → b < hi
theorem OPR.kp {w w' : World} {lo hi : Nat} {X : Nat → Prop} {v : Value} {ps : List Pt} {vs : List Value} (h : OPR w lo hi v ps vs) (k : Kp w w' X) (hX : ∀ j, lo ≤ j → j < hi → ¬ X j) : OPR w' lo hi v ps vs := by
 refine ⟨?_, Nat.le_trans h.top k.size, h.rowHi, h.eachHi⟩
 refine ⟨h.tab.len, ?_, fun j hj => (h.tab.each j hj).kp k (fun b hb => hX b (World.ownsRow.lt (h.tab.each j hj) b hb).1 (h.eachHi j hj b hb)), h.tab.apart⟩
 have rl := World.ownsRow.lt h.tab.row
 rcases h.tab.row with ⟨h1, ⟨e, h0⟩ | ⟨g, cap, cur, e, hg, hrow, rest⟩⟩
 ·exact ⟨h1, .inl ⟨e, h0⟩⟩
 ·have eo : v.ownBlock = some g := by rw [e]; rfl
  exact ⟨h1, .inr ⟨g, cap, cur, e, hg, (k.block g (rl g eo).2 (hX g (rl g eo).1 (h.rowHi g eo))).trans hrow, rest⟩⟩
theorem OPR.below {w w' : World} {lo hi : Nat} {v : Value} {ps : List Pt} {vs : List Value} (h : OPR w lo hi v ps vs) (hb : Below w.heap.size w w') : OPR w' lo hi v ps vs :=
 h.kp (Below.kpOf hb (fun _ => False)) (fun _ _ _ h => h)
def CapP (v : Value) : Prop := ∃ ao n cap, v = .slice ao n cap ∧ n ≤ cap ∧ cap ≤ maxLen
theorem OPtV.cap {w : World} {base : Nat} {v : Value} {ps : List Pt} {vs : List Value} (h : OPtV w base v ps vs) : CapP v := by
 rcases h.row.2 with ⟨rfl, h0⟩ | ⟨g, cap, cur, rfl, _, _, hca, hcm, _⟩
 ·exact ⟨none, 0, 0, rfl, Nat.le_refl _, by unfold maxLen; omega⟩
 ·exact ⟨_, _, cap, rfl, hca, hcm⟩
theorem OPt.cap {w : World} {base : Nat} {v : Value} {ps : List Pt} (h : OPt w base v ps) : CapP v := by obtain ⟨vs, h⟩ := h; exact h.cap
theorem OPR.cap {w : World} {lo hi : Nat} {v : Value} {ps : List Pt} {vs : List Value} (h : OPR w lo hi v ps vs) : CapP v := h.tab.cap

def cmpI (x y : Int) : Int := if x < y then -1 else if y < x then 1 else 0

theorem itake_more (xs : List Int) (k : Nat) (h : k < xs.length) : xs.take (k + 1) = xs.take k ++ [xs.getD k 0] := by
 rw [List.take_succ_eq_append_getElem h, List.getD_eq_getElem?_getD, List.getElem?_eq_getElem h]; rfl
theorem getD_mem_int {xs : List Int} {k : Nat} (h : k < xs.length) : xs.getD k 0 ∈ xs := by
 rw [List.getD_eq_getElem?_getD, List.getElem?_eq_getElem h]; exact List.getElem_mem h

set_option maxHeartbeats 1600000 in
set_option maxRecDepth 100000 in
theorem specSetHas (v : Value) (xs : List Int) (i : Int) (w : World) (h : RI w v xs) :
 Calls Tryz.prog 192 #[v, .int .i64 i] w fun e w' => e = .returned (.bool (decide (i ∈ xs))) ∧ w' = w := by
 have hl := h.1
 obtain ⟨ao, ca, rfl⟩ := h.form
 have H := hide h
 obtain ⟨n, hn⟩ : ∃ n, xs.length = n := ⟨_, rfl⟩
 have Hn := hide hn
 obtain ⟨r, hr⟩ : ∃ r, decide (i ∈ xs) = r := ⟨_, rfl⟩
 have HR := hide hr
 rw [hn] at hl H ⊢
 rw [hr]
 clear h hn hr
 go_enter Tryz.func192, Tryz.ntmps192
 go_wp2
 go_loopw [5] (fun j wr => ∃ k : Nat, k ≤ n ∧ j = .int .i64 k ∧ Hid (i ∉ xs.take k) ∧ wr = w) (fun j _ => n - (intOf j).toNat)
 case atStart => exact ⟨0, Nat.zero_le _, rfl, hide (by simp), rfl⟩
 case round =>
  obtain ⟨k, hk, rfl, HK, rfl⟩ := hrel
  by_cases hlt : k < n
  ·have hkx : k < xs.length := by have := unhide Hn; omega
   obtain ⟨b, off, rfl, c⟩ := (unhide H).at k hkx
   have HT := hide (itake_more xs k hkx)
   have HM := hide (getD_mem_int hkx)
   generalize xs.getD k 0 = d at *
   by_cases e : d = i
   ·subst e
    have hrr : r = true := by rw [← unhide HR]; exact decide_eq_true (unhide HM)
    subst hrr
    clear HT HM HK
    go_wp2
    go_ret
    exact ⟨rfl, rfl⟩
   ·have HK' : Hid (i ∉ xs.take (k + 1)) := hide (by rw [unhide HT]; simp; exact ⟨unhide HK, fun e2 => e e2.symm⟩)
    have e' : decide (d = i) = false := by simpa using e
    have e2 : (d == i) = false := by simpa using e
    clear HT HM HK
    go_wp2
    go_roundw
    case rel => exact ⟨k + 1, by omega, by go_num, HK', by first | rfl | trivial⟩
    case measure => simp [intOf]; omega
  ·have hkn : k = xs.length := by have := unhide Hn; omega
   have hrr : r = false := by
    rw [← unhide HR]
    have := unhide HK
    rw [hkn, List.take_of_length_le (Nat.le_refl _)] at this
    exact decide_eq_false this
   subst hrr
   clear HK
   go_wp2
   go_ret
   exact ⟨rfl, rfl⟩

set_option maxHeartbeats 4000000 in
set_option maxRecDepth 100000 in
theorem specSetAdd (v : Value) (xs : List Int) (i : Int) (w : World) (h : RI w v xs) (hc : Cap v) (hx : xs.length ≤ 4194303) :
 Calls Tryz.prog 159 #[v, .int .i64 i] w fun e w' => ∃ u, e = .returned u ∧ OI w' w.heap.size u (addL xs i) ∧ Below w.heap.size w w' := by
 have SH := hide fun w h => specSetHas v xs i w h
 obtain ⟨ao, ca, rfl⟩ := h.form
 obtain ⟨hcn, hcm⟩ : xs.length ≤ ca ∧ ca ≤ maxLen := by obtain ⟨_, _, _, e, h1, h2⟩ := hc; cases e; exact ⟨h1, h2⟩
 unfold maxLen at hcm
 have H := hide h
 have HP := hide h.pi
 clear h hc
 have O0 : OI (w.alloc (.cells #[] 3)) w.heap.size (.slice (some ⟨w.heap.size, 0, none⟩) 0 0) [] := by
  have := World.ownsRow_lit (base := w.heap.size) (e := 3) (size := 1) w #[] 0 (Nat.le_refl _) (by unfold maxLen; omega) (by simp)
  simpa [OI] using this
 have b0 : Below w.heap.size w (w.alloc (.cells #[] 3)) := (Below.refl _ _).alloc (Nat.le_refl _) _
 have P0 := hide ((unhide HP).below b0)
 by_cases hm : i ∈ xs
 ·have ea : addL xs i = xs := if_pos hm
  rw [ea]
  rw [decide_eq_true hm] at SH
  clear hm ea
  go_enter Tryz.func159, Tryz.ntmps159
  go_wp2_with fail
  refine (unhide SH _ (unhide H)).mono ?_
  rintro _ w1 ⟨rfl, rfl⟩
  go_wp2_with (first | (at_builtin; refine append_ints rfl _ _ rfl w1.heap.size (.slice (some ⟨w1.heap.size, 0, none⟩) 0 0) (.slice ao xs.length ca) [] xs rfl rfl O0 (unhide P0) (by simp; omega) (by simp) ?_; intro v' w2 ho' hg' _; have RB := b0.grown hg' (by simp) (fun j e => by simp [Value.ownBlock] at e; omega); clear hg'))
  go_ret
  exact ⟨_, rfl, by simpa using ho', RB⟩
 ·have ea : addL xs i = xs.takeWhile (fun x => decide (x < i)) ++ i :: xs.dropWhile (fun x => decide (x < i)) := if_neg hm
  rw [decide_eq_false hm] at SH
  have EA := hide ea
  clear hm ea
  obtain ⟨n, hn⟩ : ∃ n, xs.length = n := ⟨_, rfl⟩
  have Hn := hide hn
  rw [hn] at H P0 hx hcn SH HP ⊢
  clear hn
  go_enter Tryz.func159, Tryz.ntmps159
  go_wp2_with fail
  refine (unhide SH _ (unhide H)).mono ?_
  rintro _ w1 ⟨rfl, rfl⟩
  go_wp2
  go_loopw [5] (fun j wr => ∃ k : Nat, k ≤ n ∧ j = .int .i64 k ∧ Hid (∀ x ∈ xs.take k, x < i) ∧ wr = w1) (fun j _ => n - (intOf j).toNat)
  case atStart => exact ⟨0, Nat.zero_le _, rfl, hide (by simp), rfl⟩
  case round =>
   obtain ⟨k, hk, rfl, HK, rfl⟩ := hrel
   have FIN : Hid ((k < n → ¬ xs.getD k 0 < i) → addL xs i = xs.take k ++ i :: xs.drop k) := hide fun hst => by
    have hkx : k ≤ xs.length := by have := unhide Hn; omega
    have e1 : xs.takeWhile (fun x => decide (x < i)) = xs.take k ∧ xs.dropWhile (fun x => decide (x < i)) = xs.drop k := by
     have hall : ∀ x ∈ xs.take k, (decide (x < i)) = true := fun x hx => by simpa using unhide HK x hx
     have hd : xs.drop k = [] ∨ ∃ c t, xs.drop k = c :: t ∧ ¬ c < i := by
      by_cases hlt : k < xs.length
      ·right
       refine ⟨_, _, List.drop_eq_getElem_cons hlt, ?_⟩
       have := hst (by have := unhide Hn; omega)
       rwa [List.getD_eq_getElem?_getD, List.getElem?_eq_getElem hlt] at this
      ·left; exact List.drop_of_length_le (by omega)
     conv => lhs; lhs; rw [← List.take_append_drop k xs]
     conv => rhs; lhs; rw [← List.take_append_drop k xs]
     rw [List.takeWhile_append_of_pos hall, List.dropWhile_append_of_pos hall]
     rcases hd with e | ⟨c, t, e, hc⟩
     ·rw [e]; simp
     ·rw [e]; simp [hc]
    rw [unhide EA, e1.1, e1.2]
   by_cases hgo : k < n ∧ xs.getD k 0 < i
   ·obtain ⟨hlt, hd⟩ := hgo
    have hkx : k < xs.length := by have := unhide Hn; omega
    obtain ⟨b, off, rfl, c⟩ := (unhide H).at k hkx
    have HT := hide (itake_more xs k hkx)
    generalize xs.getD k 0 = d at *
    have HK' : Hid (∀ x ∈ xs.take (k + 1), x < i) := hide (by
     rw [unhide HT]; intro x hx
     rcases List.mem_append.1 hx with hx | hx
     ·exact unhide HK x hx
     ·simp at hx; subst hx; exact hd)
    have hd' : decide (d < i) = true := by simpa using hd
    clear HT HK FIN hd
    go_wp2
    go_roundw
    case rel => exact ⟨k + 1, by omega, by go_num, HK', by first | rfl | trivial⟩
    case measure => simp [intOf]; omega
   ·have F := hide (unhide FIN fun hlt hd => hgo ⟨hlt, hd⟩)
    have p1 := (unhide P0).take k hk ca
    have p2 := (unhide HP).drop k (ca - k) (bo := if ca = k then ao else ao.map (·.add (k * 1))) (fun hlt => if_neg (by omega))
    have hs1 : ∀ w, (Instr.slice 24 (.slice ao n ca) none (some (.int .i64 (k : Int))) none).run Tryz.prog w = .ok (.slice ao k ca) w := fun w => icut_to ao n ca k w (by omega)
    have hs2 : ∀ w, (Instr.slice 24 (.slice ao n ca) (some (.int .i64 (k : Int))) none none).run Tryz.prog w = .ok (.slice (if ca = k then ao else ao.map (·.add (k * 1))) (n - k) (ca - k)) w := fun w => icut_from ao n ca k w hk
    generalize (if ca = k then ao else ao.map (·.add (k * 1))) = bo at *
    have P1 := hide p1
    have P2 := hide p2
    have hlk : (xs.take k).length = k := by rw [List.length_take]; have := unhide Hn; omega
    have hld : (xs.drop k).length = n - k := by rw [List.length_drop, unhide Hn]
    have HLK := hide hlk
    have HLD := hide hld
    clear p1 p2 hlk hld FIN HK
    generalize xs.take k = fs at *
    generalize xs.drop k = bs at *
    have sz0 : wr.heap.size + 1 = (wr.alloc (.cells #[] 3)).heap.size := by simp
    have A1 : Hid True := hide trivial
    have A2 : Hid True := hide trivial
    have A3 : Hid True := hide trivial
    have EX : Hid (k < n → ∃ b off d, ao = some ⟨b, off, none⟩ ∧ wr.cell? ⟨b, off + k, none⟩ = some (.int .i64 d) ∧ ¬ d < i) := hide fun hlt => by
     obtain ⟨b, off, e, c⟩ := (unhide H).at k (by have := unhide Hn; omega)
     exact ⟨b, off, _, e, c, fun hd => hgo ⟨hlt, hd⟩⟩
    clear hgo
    by_cases hlt : k < n
    ·obtain ⟨b, off, d, rfl, c, hd⟩ := unhide EX hlt
     have hd' : decide (d < i) = false := by simpa using hd
     clear EX hd
     go_wp2_with (first
      | (at_builtin; have hh := A1; refine append_ints rfl _ _ rfl wr.heap.size (.slice (some ⟨wr.heap.size, 0, none⟩) 0 0) (.slice (some ⟨b, off, none⟩) k ca) [] (fs) rfl rfl O0 (unhide P1) (by rw [unhide HLK]; simp; omega) (by simp) ?_; intro v1 w2 ho1 hg1 hb1; have O1 : OI w2 wr.heap.size v1 (fs) := (by simpa using ho1); have B1 := b0.grown hg1 (by simp) (fun j e => by simp [Value.ownBlock] at e; omega); have l1 := World.ownsRow.lt O1; obtain ⟨a1, c1, rfl⟩ := O1.form; have O1' := hide (World.ownsRow.alloc O1 (.cells #[.int .i64 i] 3)); have B1' := B1.trans ((((Below.refl _ w2).alloc (Nat.le_refl _) (.cells #[.int .i64 i] 3))).mono B1.size); clear A1 ho1 hg1 hb1 O1)
      | (at_builtin; have hh := A2; refine append_ints rfl _ _ rfl wr.heap.size (.slice a1 fs.length c1) (.slice (some ⟨w2.heap.size, 0, none⟩) 1 1) (fs) [i] rfl rfl (unhide O1') ⟨_, _, rfl, .inr ⟨_, rfl, cell_one_new _ _ _⟩⟩ (by rw [unhide HLK]; simp; omega) B1'.size ?_; intro v2 w3 ho2 hg2 hb2; have B2 := B1'.grown hg2 B1'.size (fun j e => (l1 j e).1); obtain ⟨a2, c2, hv2⟩ := ho2.form; rw [List.length_append, List.length_singleton] at hv2; subst hv2; have O2 := hide ho2; have l2 := World.ownsRow.lt ho2; have P3 := hide ((unhide P2).below B2); clear A2 ho2 hg2 hb2)
      | (at_builtin; have hh := A3; refine append_ints rfl _ _ rfl wr.heap.size (.slice a2 (fs.length + 1) c2) (.slice bo (n - k) (ca - k)) (fs ++ [i]) (bs) rfl rfl (unhide O2) (unhide P3) (by rw [unhide HLD, List.length_append, unhide HLK]; simp; omega) B2.size ?_; intro v3 w4 ho3 hg3 hb3; have B3 := B2.grown hg3 B2.size (fun j e => (l2 j e).1); clear A3 hg3 hb3))
     go_ret
     exact ⟨_, rfl, by rw [unhide F]; simpa using ho3, B3⟩
    ·have hd0 : decide ((k : Int) < (n : Int)) = false := by simp; omega
     clear EX
     go_wp2_with (first
      | (at_builtin; have hh := A1; refine append_ints rfl _ _ rfl wr.heap.size (.slice (some ⟨wr.heap.size, 0, none⟩) 0 0) (.slice ao k ca) [] (fs) rfl rfl O0 (unhide P1) (by rw [unhide HLK]; simp; omega) (by simp) ?_; intro v1 w2 ho1 hg1 hb1; have O1 : OI w2 wr.heap.size v1 (fs) := (by simpa using ho1); have B1 := b0.grown hg1 (by simp) (fun j e => by simp [Value.ownBlock] at e; omega); have l1 := World.ownsRow.lt O1; obtain ⟨a1, c1, rfl⟩ := O1.form; have O1' := hide (World.ownsRow.alloc O1 (.cells #[.int .i64 i] 3)); have B1' := B1.trans ((((Below.refl _ w2).alloc (Nat.le_refl _) (.cells #[.int .i64 i] 3))).mono B1.size); clear A1 ho1 hg1 hb1 O1)
      | (at_builtin; have hh := A2; refine append_ints rfl _ _ rfl wr.heap.size (.slice a1 fs.length c1) (.slice (some ⟨w2.heap.size, 0, none⟩) 1 1) (fs) [i] rfl rfl (unhide O1') ⟨_, _, rfl, .inr ⟨_, rfl, cell_one_new _ _ _⟩⟩ (by rw [unhide HLK]; simp; omega) B1'.size ?_; intro v2 w3 ho2 hg2 hb2; have B2 := B1'.grown hg2 B1'.size (fun j e => (l1 j e).1); obtain ⟨a2, c2, hv2⟩ := ho2.form; rw [List.length_append, List.length_singleton] at hv2; subst hv2; have O2 := hide ho2; have l2 := World.ownsRow.lt ho2; have P3 := hide ((unhide P2).below B2); clear A2 ho2 hg2 hb2)
      | (at_builtin; have hh := A3; refine append_ints rfl _ _ rfl wr.heap.size (.slice a2 (fs.length + 1) c2) (.slice bo (n - k) (ca - k)) (fs ++ [i]) (bs) rfl rfl (unhide O2) (unhide P3) (by rw [unhide HLD, List.length_append, unhide HLK]; simp; omega) B2.size ?_; intro v3 w4 ho3 hg3 hb3; have B3 := B2.grown hg3 B2.size (fun j e => (l2 j e).1); clear A3 hg3 hb3))
     go_ret
     exact ⟨_, rfl, by rw [unhide F]; simpa using ho3, B3⟩
end Go.Proofs.YtgfboghieejbkaaGreatDoor
