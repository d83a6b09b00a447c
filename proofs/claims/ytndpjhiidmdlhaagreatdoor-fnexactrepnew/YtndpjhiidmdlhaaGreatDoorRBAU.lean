/- Texts that belong together: FedPlain, Marks, StepRows, Fed. -/
import Derived.Test.YtndpjhiidmdlhaaGreatDoorRBAT
import Derived.Test.YtndpjhiidmdlhaaGreatDoorRBAP
import Derived.Test.YtndpjhiidmdlhaaGreatDoorRBAS
import Derived.Test.YtndpjhiidmdlhaaGreatDoorRBAH
import Derived.Shelf.RegionOpenPlain
import Derived.OwnWalk
import Derived.Maps.AppendAt
import Derived.RangeFuncNested
import Derived.RangeFuncBound
set_option maxRecDepth 100000
set_option maxHeartbeats 1000000
namespace Go.Proofs.YtndpjhiidmdlhaaGreatDoor
open Go.RowKit
set_option linter.unusedSectionVars false
variable [∀ (a b c d : Int), Decidable (Ok4 a b c d)]
variable [∀ (a b c d : Nat), Decidable (okN a b c d)]
variable [∀ (last : Int) (s : St), Decidable (GoodSt last s)]
variable [∀ (x : T4), Decidable (OkT x)]

def pc : List UInt8 → List UInt8
 | [] => []
 | c :: t => c :: t.takeWhile (· != 47)
def rs : List UInt8 → List UInt8
 | [] => []
 | _ :: t => t.dropWhile (· != 47)
theorem pc_rs (r : List UInt8) : pc r ++ rs r = r := by
 cases r with
 | nil => rfl
 | cons c t => simp [pc, rs, List.takeWhile_append_dropWhile]
theorem rs_lt {r : List UInt8} (h : r ≠ []) : (rs r).length < r.length := by
 cases r with
 | nil => exact absurd rfl h
 | cons c t =>
  have := congrArg List.length (List.takeWhile_append_dropWhile (p := (· != (47 : UInt8))) (l := t))
  rw [List.length_append] at this
  simp only [rs, List.length_cons]; omega
theorem rs_head (r : List UInt8) : rs r = [] ∨ ∃ q, rs r = 47 :: q := by
 cases r with
 | nil => exact .inl rfl
 | cons c t =>
  show t.dropWhile _ = [] ∨ ∃ q, t.dropWhile _ = 47 :: q
  cases h : t.dropWhile (· != (47 : UInt8)) with
  | nil => exact .inl rfl
  | cons x q =>
   have hx := List.head_dropWhile_not (p := (· != (47 : UInt8))) (l := t) (by rw [h]; simp)
   simp only [h, List.head_cons] at hx
   exact .inr ⟨q, by rw [show x = 47 by simpa using hx]⟩
def rsN (l : List UInt8) : Nat → List UInt8
 | 0 => l
 | k + 1 => rs (rsN l k)
theorem rsN_le (l : List UInt8) (k : Nat) : (rsN l k).length ≤ l.length := by
 induction k with
 | zero => exact Nat.le_refl _
 | succ k ih =>
  by_cases h : rsN l k = []
  ·show (rs (rsN l k)).length ≤ _; rw [h]; exact Nat.zero_le _
  ·have := rs_lt h; show (rs (rsN l k)).length ≤ _; omega
theorem rounds (l : List UInt8) : ∃ m, rsN l m = [] ∧ ∀ k, k < m → rsN l k ≠ [] := by
 have key : ∀ n k, (rsN l k).length ≤ n → (∀ j, j < k → rsN l j ≠ []) → ∃ m, rsN l m = [] ∧ ∀ k, k < m → rsN l k ≠ [] := by
  intro n
  induction n with
  | zero => exact fun k h hk => ⟨k, List.length_eq_zero_iff.1 (Nat.le_zero.1 h), hk⟩
  | succ n ih =>
   intro k h hk
   by_cases e : rsN l k = []
   ·exact ⟨k, e, hk⟩
   ·have := rs_lt e
    exact ih (k + 1) (by show (rs (rsN l k)).length ≤ n; omega) fun j hj => by
     by_cases e2 : j = k
     ·subst e2; exact e
     ·exact hk j (by omega)
 exact key _ 0 (Nat.le_refl _) fun j hj => by omega
def stepP (p : List UInt8) : Option St := if p.head? = some 47 then stepOf (toB p.tail) else none
def lastV (ss : List St) : Int := (ss.getLast?.map (·.1)).getD 0
theorem lastV_snoc (ss : List St) (x : St) : lastV (ss ++ [x]) = x.1 := by simp [lastV]
theorem lastV_ge {ss : List St} (h : OkSts ss) : 0 ≤ lastV ss ∧ lastV ss ≤ 60 := by
 unfold lastV
 cases e : ss.getLast? with
 | none => simp
 | some x =>
  have := (h.2.1 x (List.mem_of_getLast? e)).1
  simp; omega
theorem views_le {ss : List St} (h : OkSts ss) : ∀ s ∈ ss, s.1 ≤ lastV ss := by
 intro s hs
 obtain ⟨ss', x, rfl⟩ : ∃ ss' x, ss = ss' ++ [x] := ⟨ss.dropLast, ss.getLast (List.ne_nil_of_mem hs), (List.dropLast_concat_getLast _).symm⟩
 rw [lastV_snoc]
 rcases List.mem_append.1 hs with h1 | h1
 ·have := (List.pairwise_append.1 h.2.2).2.2 s h1 x (by simp)
  omega
 ·simp at h1; subst h1; exact Int.le_refl _
theorem piece_on {l r : List UInt8} {ss : List St} {x : St} (h : l = nm ss ++ r) (hk : OkSts ss) (hx : stepP (pc r) = some x) (hg : GoodSt (lastV ss) x) (hl : ss.length < 30) : l = nm (ss ++ [x]) ++ rs r ∧ OkSts (ss ++ [x]) := by
 unfold stepP at hx
 split at hx
 ·rename_i hh
  obtain ⟨h1, h2, h3⟩ := stepOf_some hx
  rw [toB_list] at h1
  have hp : pc r = 47 :: stText x := by
   rw [← h1]
   cases hpc : pc r with
   | nil => rw [hpc] at hh; simp at hh
   | cons c t => rw [hpc] at hh; simp at hh; rw [hh]; rfl
  obtain ⟨g1, g2, g3⟩ := hg
  have hz := lastV_ge hk
  have hx : OkSt x := ⟨⟨by omega, g2⟩, g3, h3⟩
  refine ⟨?_, by simp; omega, fun s hs => ?_, ?_⟩
  ·rw [nm_snoc, ← hp, List.append_assoc, pc_rs]; exact h
  ·rcases List.mem_append.1 hs with h4 | h4
   ·exact hk.2.1 s h4
   ·simp at h4; subst h4; exact hx
  ·refine List.pairwise_append.2 ⟨hk.2.2, by simp, fun s hs t ht => ?_⟩
   simp at ht; subst ht
   have := views_le hk s hs
   omega
 ·cases hx
theorem nm_head : ∀ ss : List St, nm ss = [] ∨ ∃ q, nm ss = 47 :: q := fun ss => by
 cases ss with
 | nil => exact .inl rfl
 | cons s ss => exact .inr ⟨_, rfl⟩
theorem piece_no {s : ByteArray} {r : List UInt8} {ss : List St} (h : s.data.toList = nm ss ++ r) (hr : r ≠ []) (hk : OkSts ss) (hh : ss = [] ∨ ∃ q, r = 47 :: q)
 (hn : ∀ x, stepP (pc r) = some x → GoodSt (lastV ss) x → ss.length < 30 → False) : stepsAns s = none := by
 cases hs : stepsAns s with
 | none => rfl
 | some tt =>
  exfalso
  obtain ⟨h1, h2⟩ := (names_iff _ _).1 hs
  have hpre : ss <+: tt := by
   rcases hh with rfl | hh
   ·exact List.nil_prefix
   ·exact nm_pre ss tt hk.2.1 h2.2.1 r (h1.symm.trans h) (.inr hh)
  obtain ⟨uu, rfl⟩ := hpre
  rw [h, nm_append] at h1
  have h1 := List.append_cancel_left h1
  cases uu with
  | nil => exact hr h1
  | cons x uu =>
   have hx : OkSt x := h2.2.1 x (by simp)
   have e1 : r = 47 :: (stText x ++ nm uu) := by rw [h1]; simp [nm]
   have hc : ∀ y ∈ stText x, (y != (47 : UInt8)) = true := fun y hy => by
    have := stText_clean x
    simp; intro e; subst e; exact this hy
   have e2 : pc r = 47 :: stText x := by
    rw [e1]
    show 47 :: (stText x ++ nm uu).takeWhile _ = _
    rw [List.takeWhile_append_of_pos hc]
    rcases nm_head uu with e | ⟨q, e⟩
    ·rw [e]; simp
    ·rw [e]; simp
   refine hn x ?_ ?_ ?_
   ·unfold stepP
    rw [e2]
    refine (if_pos rfl).trans ?_
    exact stepOf_text hx (toB_list _)
   ·have hv : lastV ss < x.1 := by
     unfold lastV
     cases e : ss.getLast? with
     | none => have := hx.1; simp; omega
     | some y =>
      have := (List.pairwise_append.1 h2.2.2).2.2 y (List.mem_of_getLast? e) x (by simp)
      simpa using this
    exact ⟨hv, hx.1.2, hx.2.1⟩
   ·have := h2.1; simp at this; omega
theorem piece_end {s : ByteArray} {ss : List St} (h : s.data.toList = nm ss ++ []) (hk : OkSts ss) : stepsAns s = some ss := (names_iff _ _).2 ⟨by simpa using h, hk⟩

theorem ib_cases (m : UInt8) (l : List UInt8) : (m ∉ l ∧ Lib.indexByte l m = -1) ∨ (m ∈ l ∧ Lib.indexByte l m = ((l.takeWhile (· != m)).length : Int)) := by
 induction l with
 | nil => exact .inl ⟨by simp, rfl⟩
 | cons b l ih =>
  unfold Lib.indexByte
  by_cases h : b = m
  ·subst h; exact .inr ⟨by simp, by simp⟩
  ·have hb : (b == m) = false := by simpa using h
   have hn : (b != m) = true := by simpa using h
   rw [if_neg (by simpa using h)]
   rcases ih with ⟨h1, h2⟩ | ⟨h1, h2⟩
   ·rw [h2]; exact .inl ⟨by simp [h1, Ne.symm h], rfl⟩
   ·rw [h2, if_neg (by simp)]
    refine .inr ⟨by simp [h1], ?_⟩
    rw [List.takeWhile_cons, if_pos hn]; simp

theorem lite_index (m : UInt8) (s : ByteArray) (w : World) :
 Calls Tryz.prog 274 #[.string s, .string ⟨#[m]⟩] w fun e w' => e = .returned (.int .i64 (Lib.indexByte s.data.toList m)) ∧ w' = w := by
 have IB := hide fun w => Tryz.stringslite_IndexByte s (m.toNat : Int) w
 have e1 : ((m.toNat : Nat) : Int).toNat.toUInt8 = m := by simp
 rw [e1] at IB
 have hz : (⟨#[m]⟩ : ByteArray).size = 1 := rfl
 have hi : (⟨#[m]⟩ : ByteArray)[0]'(by rw [hz]; omega) = m := rfl
 have hne : ([m] == s.toList) = true → Lib.indexByte s.data.toList m = 0 := fun h => by
  have h1 : s.toList = [m] := (by simpa using h : [m] = s.toList).symm
  rw [ByteArray.toList_eq] at h1
  rw [h1]; simp [Lib.indexByte]
 cases hb : ([m] == s.toList) with
 | true =>
  rw [hne hb]
  clear IB hne
  go_enter Tryz.func274, Tryz.ntmps274
  go_wp2
  go_ret
  exact ⟨rfl, rfl⟩
 | false =>
  clear hne
  generalize Lib.indexByte s.data.toList m = r at *
  go_enter Tryz.func274, Tryz.ntmps274
  go_wp2_with (first | (go_at_call 295; refine (IB.out _).mono ?_; rintro e w' ⟨rfl, rfl⟩))
  go_ret
  exact ⟨rfl, rfl⟩
theorem index_mark (m : UInt8) (s : ByteArray) (w : World) :
 Calls Tryz.prog 255 #[.string s, .string ⟨#[m]⟩] w fun e w' => e = .returned (.int .i64 (Lib.indexByte s.data.toList m)) ∧ w' = w := by
 have IB := hide fun w => lite_index m s w
 generalize Lib.indexByte s.data.toList m = r at *
 generalize (⟨#[m]⟩ : ByteArray) = q at *
 go_enter Tryz.func255, Tryz.ntmps255
 go_wp2_with (first | (go_at_call 274; refine (IB.out _).mono ?_; rintro e w' ⟨rfl, rfl⟩))
 go_ret
 exact ⟨rfl, rfl⟩
def cutA (m : UInt8) (s : ByteArray) : ByteArray × ByteArray := if m ∈ s.data.toList then (toB (hd m s.data.toList), toB (tl m s.data.toList)) else (s, ⟨#[]⟩)
theorem cutA_size (m : UInt8) (s : ByteArray) : (cutA m s).1.size ≤ s.size ∧ (cutA m s).2.size ≤ s.size := by
 unfold cutA
 split
 ·have h := congrArg List.length (List.takeWhile_append_dropWhile (p := (· != m)) (l := s.data.toList))
  rw [List.length_append] at h
  have h2 : s.data.toList.length = s.size := by simp
  simp only [toB_size, hd, tl, List.length_tail]
  omega
 ·exact ⟨Nat.le_refl _, Nat.zero_le _⟩
theorem cut_ext {m : UInt8} {s : ByteArray} (h : m ∈ s.data.toList) : ∃ k : Nat, k < s.size ∧ (s.data.toList.takeWhile (· != m)).length = k ∧ s.extract 0 k = (cutA m s).1 ∧ s.extract (k + 1) s.size = (cutA m s).2 := by
 have h1 := List.takeWhile_append_dropWhile (p := (· != m)) (l := s.data.toList)
 have h3 := congrArg List.length h1
 rw [List.length_append] at h3
 have h2 : s.data.toList.length = s.size := by simp
 have h4 : s.data.toList.dropWhile (· != m) ≠ [] := fun e => by
  rw [e, List.append_nil] at h1
  have := (List.all_takeWhile (p := (· != m)) (l := s.data.toList))
  rw [h1] at this
  have := List.all_eq_true.1 this m h
  simp at this
 have h5 : 0 < (s.data.toList.dropWhile (· != m)).length := List.length_pos_iff.2 h4
 have e1 : hd m s.data.toList = s.data.toList.takeWhile (· != m) := rfl
 have e2 : tl m s.data.toList = (s.data.toList.dropWhile (· != m)).tail := rfl
 unfold cutA
 rw [if_pos h, e1, e2]
 generalize s.data.toList.takeWhile (· != m) = x at *
 generalize s.data.toList.dropWhile (· != m) = y at *
 refine ⟨_, by omega, rfl, ?_, ?_⟩
 ·rw [ext_toB, ← h1]; simp
 ·rw [rst_all, ← h1]; simp

theorem lite_cut (m : UInt8) (s : ByteArray) (w : World) (hs : s.size ≤ 33554432) :
 Calls Tryz.prog 276 #[.string s, .string ⟨#[m]⟩] w fun e w' => e = .returned (.tuple #[.string (cutA m s).1, .string (cutA m s).2, .bool (decide (m ∈ s.data.toList))]) ∧ Below w.heap.size w w' := by
 have IX := hide fun w => lite_index m s w
 have hz : (⟨#[m]⟩ : ByteArray).size = 1 := rfl
 rcases ib_cases m s.data.toList with ⟨h1, h2⟩ | ⟨h1, h2⟩
 ·rw [h2] at IX
  have e1 : cutA m s = (s, ⟨#[]⟩) := if_neg h1
  rw [e1, decide_eq_false h1]
  clear h1 h2 e1
  generalize (⟨#[m]⟩ : ByteArray) = q at *
  go_enter Tryz.func276, Tryz.ntmps276
  go_wp2_with (first | (go_at_call 274; refine (IX.out _).mono ?_; rintro e w' ⟨rfl, rfl⟩))
  go_ret3
  exact ⟨rfl, Below.refl _ _⟩
 ·obtain ⟨k, hk, hkl, e1, e2⟩ := cut_ext h1
  rw [h2, hkl] at IX
  rw [← e1, ← e2, decide_eq_true h1]
  clear h1 h2 e1 e2 hkl
  have mixed : Tryz.prog.follows .mixedOrders = true := by kernel_rfl
  generalize (⟨#[m]⟩ : ByteArray) = q at *
  go_enter Tryz.func276, Tryz.ntmps276
  go_wp2_with (first | (go_at_call 274; refine (IX.out _).mono ?_; rintro e w' ⟨rfl, rfl⟩))
  go_region_o
  go_wp2
  go_ret3
  exact ⟨rfl, (Below.refl _ _).drew⟩
theorem cut_mark (m : UInt8) (s : ByteArray) (w : World) (hs : s.size ≤ 33554432) :
 Calls Tryz.prog 257 #[.string s, .string ⟨#[m]⟩] w fun e w' => e = .returned (.tuple #[.string (cutA m s).1, .string (cutA m s).2, .bool (decide (m ∈ s.data.toList))]) ∧ Below w.heap.size w w' := by
 have IX := hide fun w => lite_cut m s w hs
 generalize decide (m ∈ s.data.toList) = r at *
 generalize cutA m s = r at *
 generalize (⟨#[m]⟩ : ByteArray) = q at *
 go_enter Tryz.func257, Tryz.ntmps257
 go_wp2_with (first | (go_at_call 276; refine (IX.out _).mono ?_; rintro e w' ⟨rfl, bb⟩))
 go_ret3
 exact ⟨rfl, bb⟩
theorem last_mark (m : UInt8) (s : ByteArray) (w : World) (hs : s.size ≤ 33554432) :
 Calls Tryz.prog 368 #[.string s, .string ⟨#[m]⟩] w fun e w' => e = .returned (.int .i64 (Lib.lastIndexByte s (m.toNat : Int))) ∧ w' = w := by
 have IX := hide fun w => Tryz.bytealg_LastIndexByteString_nm s (m.toNat : Int) (by omega) w
 have hz : (⟨#[m]⟩ : ByteArray).size = 1 := rfl
 have hi : (⟨#[m]⟩ : ByteArray)[0]'(by rw [hz]; omega) = m := rfl
 generalize Lib.lastIndexByte s (m.toNat : Int) = r at *
 go_enter Tryz.func368, Tryz.ntmps368
 go_wp2_with (first | (go_at_call 369; refine (IX.out _).mono ?_; rintro e w' ⟨rfl, rfl⟩))
 go_ret
 exact ⟨rfl, rfl⟩
end Go.Proofs.YtndpjhiidmdlhaaGreatDoor
namespace Go.Proofs.YtndpjhiidmdlhaaGreatDoor
open Go.RowKit
set_option linter.unusedSectionVars false
variable [∀ (a b c d : Int), Decidable (Ok4 a b c d)]
variable [∀ (a b c d : Nat), Decidable (okN a b c d)]
variable [∀ (last : Int) (s : St), Decidable (GoodSt last s)]

theorem Tryz.infoSt : (Tryz.prog.info? 179).map (fun i => (i.zero, i.size, i.bytes)) = some (some (.agg #[.int .i64 0, .slice none 0 0]), 2, 32) := by kernel_rfl
def scell (p : Int × Value) : List Value := [.int .i64 p.1, p.2]
def scells (ps : List (Int × Value)) : List Value := ps.flatMap scell
theorem scells_append (ps qs : List (Int × Value)) : scells (ps ++ qs) = scells ps ++ scells qs := by simp [scells]
theorem scells_get (ps : List (Int × Value)) (k j : Nat) (hk : k < ps.length) (hj : j < 2) : (scells ps)[k * 2 + j]? = (scell (ps.getD k (0, .slice none 0 0)))[j]? := by
 induction ps generalizing k with
 | nil => simp at hk
 | cons p ps ih =>
  have e : scells (p :: ps) = scell p ++ scells ps := by simp [scells]
  rw [e]
  cases k with
  | zero => rw [Nat.zero_mul, Nat.zero_add, List.getElem?_append_left (by simp [scell]; exact hj)]; rfl
  | succ k =>
   rw [List.getElem?_append_right (by simp [scell]; omega), show (scell p).length = 2 from rfl, show (k + 1) * 2 + j - 2 = k * 2 + j from by omega, ih k (by simpa using hk)]
   rfl
structure OStV (w : World) (base : Nat) (v : Value) (ss : List St) (vs : List Value) : Prop where
 len : vs.length = ss.length
 row : w.ownsRow base 179 2 v ss.length (scells ((ss.map (·.1)).zip vs))
 each : ∀ k, k < ss.length → OT w base (vs.getD k (.slice none 0 0)) (ss.getD k zst).2
 apart : ∀ i j, i < j → j < ss.length → ∀ b, (vs.getD i (.slice none 0 0)).ownBlock = some b → (vs.getD j (.slice none 0 0)).ownBlock ≠ some b
def OSt (w : World) (base : Nat) (v : Value) (ss : List St) : Prop := ∃ vs, OStV w base v ss vs
theorem st_ot {w : World} {B B' n : Nat} {v u : Value} {cs : List Value} {ys : List T4} (h : w.ownsRow B 179 2 v n cs) (h' : OT w B' u ys) (b : Nat) (hv : v.ownBlock = some b) : u.ownBlock ≠ some b := by
 rcases h.2 with ⟨rfl, _⟩ | ⟨g, cap, cur, rfl, _, hg, _⟩
 ·simp [Value.ownBlock] at hv
 ·rcases h'.2 with ⟨rfl, _⟩ | ⟨g', cap', cur', rfl, _, hg', _⟩
  ·simp [Value.ownBlock]
  ·intro e
   simp [Value.ownBlock] at e hv
   subst hv
   rw [e, hg] at hg'
   simp at hg'
theorem OStV.below {w w' : World} {base : Nat} {v : Value} {ss : List St} {vs : List Value} (h : OStV w base v ss vs) (hb : Below w.heap.size w w') : OStV w' base v ss vs :=
 ⟨h.len, World.ownsRow.kept (row := none) h.row ⟨hb.os, hb.tape, hb.output, hb.size, fun k hk _ => hb.block k hk⟩ (by cases v.ownBlock <;> simp), fun k hk => (h.each k hk).below hb, h.apart⟩
theorem OSt.below {w w' : World} {base : Nat} {v : Value} {ss : List St} (h : OSt w base v ss) (hb : Below w.heap.size w w') : OSt w' base v ss := by
 obtain ⟨vs, h⟩ := h; exact ⟨vs, h.below hb⟩
theorem ost_nil (w : World) (base : Nat) : OSt w base (.slice none 0 0) [] := ⟨[], rfl, World.ownsRow_nil _ _ _ _, fun k hk => by simp at hk, fun i j _ hj => by simp at hj⟩
theorem OSt.form {w : World} {base : Nat} {v : Value} {ss : List St} (h : OSt w base v ss) : ∃ ao ca, v = .slice ao ss.length ca := by
 obtain ⟨vs, h⟩ := h
 rcases h.row.2 with ⟨rfl, h0⟩ | ⟨g, cap, cur, rfl, _⟩
 ·exact ⟨none, 0, by rw [h0]⟩
 ·exact ⟨_, _, rfl⟩
def RSt (w : World) (v : Value) (ss : List St) : Prop :=
 ∃ ao cap, v = .slice ao ss.length cap ∧ (ss = [] ∨ ∃ g, ao = some ⟨g, 0, none⟩ ∧ ∀ k, k < ss.length → ∃ u, w.cell? ⟨g, k * 2, none⟩ = some (.int .i64 (ss.getD k zst).1) ∧ w.cell? ⟨g, k * 2 + 1, none⟩ = some u ∧ RT w u (ss.getD k zst).2)
theorem zip_get (ss : List St) (vs : List Value) (hl : vs.length = ss.length) (k : Nat) (hk : k < ss.length) : ((ss.map (·.1)).zip vs).getD k (0, .slice none 0 0) = ((ss.getD k zst).1, vs.getD k (.slice none 0 0)) := by
 rw [List.getD_eq_getElem?_getD, List.getElem?_eq_getElem (by simp; omega)]
 simp [List.getElem?_eq_getElem hk, List.getElem?_eq_getElem (show k < vs.length by omega)]
theorem OSt.rst {w : World} {base : Nat} {v : Value} {ss : List St} (h : OSt w base v ss) (hs : ∀ s ∈ ss, s.2.length ≤ 35184372088832) : RSt w v ss := by
 obtain ⟨vs, h⟩ := h
 have hz : ((ss.map (·.1)).zip vs).length = ss.length := by simp [h.len]
 rcases h.row.2 with ⟨rfl, h0⟩ | ⟨g, cap, cur, rfl, _⟩
 ·exact ⟨none, 0, by rw [h0], .inl (List.length_eq_zero_iff.1 h0)⟩
 ·refine ⟨_, cap, rfl, .inr ⟨g, rfl, fun k hk => ?_⟩⟩
  have c0 := World.ownsRow.cellAt h.row (k * 2 + 0) (by omega)
  have c1 := World.ownsRow.cellAt h.row (k * 2 + 1) (by omega)
  rw [scells_get _ k _ (by omega) (by omega), zip_get ss vs h.len k hk] at c0 c1
  exact ⟨_, c0, c1, (h.each k hk).rt (hs _ (by rw [List.getD_eq_getElem?_getD, List.getElem?_eq_getElem hk]; exact List.getElem_mem hk))⟩
theorem RSt.below {w w' : World} {v : Value} {ss : List St} (h : RSt w v ss) (hb : Below w.heap.size w w') : RSt w' v ss := by
 obtain ⟨ao, cap, rfl, h⟩ := h
 refine ⟨ao, cap, rfl, ?_⟩
 rcases h with h | ⟨g, rfl, h⟩
 ·exact .inl h
 ·refine .inr ⟨g, rfl, fun k hk => ?_⟩
  obtain ⟨u, c0, c1, r⟩ := h k hk
  have hg : g < w.heap.size := cell_lt c0
  exact ⟨u, (hb.cell (p := ⟨g, k * 2, none⟩) hg).trans c0, (hb.cell (p := ⟨g, k * 2 + 1, none⟩) hg).trans c1, r.below hb⟩
theorem ost_more {w w' : World} {base N : Nat} {v v' : Value} {ss : List St} {vs : List Value} {n : Int} {u : Value} {ts : List T4} (h : OStV w base v ss vs) (hu : OT w N u ts) (hN : ∀ k, k < ss.length → ∀ b, (vs.getD k (.slice none 0 0)).ownBlock = some b → b < N) (hbN : base ≤ N)
 (hr : w'.ownsRow base 179 2 v' (ss.length + 1) (scells ((ss.map (·.1)).zip vs) ++ scell (n, u))) (hg : w.grownBy w' v.ownBlock) : OStV w' base v' (ss ++ [(n, ts)]) (vs ++ [u]) := by
 have keep : ∀ (x : Value) (zs : List T4) (B : Nat), OT w B x zs → OT w' B x zs := fun x zs B hx => World.ownsRow.kept hx hg (by
  cases hxo : x.ownBlock with
  | none => exact .inl rfl
  | some b => exact .inr fun e => st_ot h.row hx b e.symm hxo)
 refine ⟨by simp [h.len], ?_, fun k hk => ?_, fun i j hij hj b hb => ?_⟩
 ·have e : ((ss ++ [(n, ts)]).map (·.1)).zip (vs ++ [u]) = (ss.map (·.1)).zip vs ++ [(n, u)] := by
   rw [List.map_append, List.zip_append (by simp [h.len])]; rfl
  rw [e, scells_append, List.length_append]
  simpa [scells] using hr
 ·rw [List.length_append, List.length_singleton] at hk
  by_cases e : k < ss.length
  ·rw [List.getD_eq_getElem?_getD, List.getElem?_append_left (by rw [h.len]; exact e), ← List.getD_eq_getElem?_getD, List.getD_eq_getElem?_getD (l := ss ++ _), List.getElem?_append_left e, ← List.getD_eq_getElem?_getD]
   exact keep _ _ _ (h.each k e)
  ·obtain rfl : k = ss.length := by omega
   have e1 : (vs ++ [u]).getD ss.length (.slice none 0 0) = u := by rw [← h.len]; simp
   have e2 : (ss ++ [(n, ts)]).getD ss.length zst = (n, ts) := by simp
   rw [e1, e2]
   have hk' := keep _ _ _ hu
   refine ⟨hk'.1, ?_⟩
   rcases hk'.2 with hn | ⟨g, cap, cur, rfl, hgN, rest⟩
   ·exact .inl hn
   ·exact .inr ⟨g, cap, cur, rfl, Nat.le_trans hbN hgN, rest⟩
 ·rw [List.length_append, List.length_singleton] at hj
  have hi : i < ss.length := by omega
  rw [List.getD_eq_getElem?_getD, List.getElem?_append_left (by rw [h.len]; exact hi), ← List.getD_eq_getElem?_getD] at hb
  by_cases e : j < ss.length
  ·rw [List.getD_eq_getElem?_getD, List.getElem?_append_left (by rw [h.len]; exact e), ← List.getD_eq_getElem?_getD]
   exact h.apart i j hij e b hb
  ·obtain rfl : j = ss.length := by omega
   have e1 : (vs ++ [u]).getD ss.length (.slice none 0 0) = u := by rw [← h.len]; simp
   rw [e1]
   intro e3
   have := hN i hi b hb
   have := (World.ownsRow.lt hu b e3).1
   omega
end Go.Proofs.YtndpjhiidmdlhaaGreatDoor
namespace Go.Proofs.YtndpjhiidmdlhaaGreatDoor
open Go Go.RowKit

theorem grown_of {w w' : World} (h : Below w.heap.size w w') : w.grownBy w' none := ⟨h.os, h.tape, h.output, h.size, fun k hk _ => h.block k hk⟩
def fedPost (B n₀ : Nat) (G X : World → Prop) (W : World) : Exit → Act → World → Prop
 | .normal, _, W' => KeepsFrom B W W' ∧ Below n₀ W W' ∧ G W'
 | .ret, _, W' => KeepsFrom B W W' ∧ X W'
 | _, _, _ => False
def Feeds (F : Fence) (n : Nat) (P : Program) (gf : Nat) (lb : Array Value) (n₀ m : Nat) (hand : Nat → Array Value → World → World → Prop) (w : World) : Prop :=
 ∀ (l : Nat) (J X : Nat → World → Prop) (W : World), Below w.heap.size w W → (∀ k A A', J k A → Below A.heap.size A A' → J k A') → (∀ k A A', X k A → Below A.heap.size A A' → X k A') →
  (∀ k vs U V, J k U → Below U.heap.size U V → k < m → hand k vs U V → YieldAt F (n - 1) P l vs V fun e V' => (e = .returned (.bool true) ∧ J (k + 1) V' ∧ Below n₀ V V') ∨ (e = .returned (.bool false) ∧ X k V')) →
  J 0 W → CallsIn F n P gf (#[.func (.yield l) #[] #[]] ++ lb) W fun e W' => (∃ v, e = .returned v) ∧ (J m W' ∨ ∃ k, k < m ∧ X k W')

variable {F : Fence} {n : Nat} {P : Program}
theorem range_fed {g : Operand} {ps : Array Tmp} {assign body : Code} {R : Exit → Act → World → Prop} {a : Act} {w : World}
 (hro : F.round = none) (h1 : 1 ≤ n) {gf : Nat} {lb : Array Value} (hg : a.eval g = .func (.func gf) #[] lb) (hFg : F.fn gf) (eg : ∀ args w, (callFunc gf args).run P w = .ok (.enter gf args) w)
 {n₀ m : Nat} {hand : Nat → Array Value → World → World → Prop} (hn₀ : n₀ ≤ w.heap.size) (hps : ∀ k vs U W, hand k vs U W → vs.size = ps.size) (hseq : Feeds F (n - 1) P gf lb n₀ m hand w)
 (I X : Nat → World → Prop) (hI : OwnFrom w.heap.size I) (hX : OwnFrom w.heap.size X) (h0 : I 0 w)
 (Ax : Nat → Act → World → Prop) (hAx : ∀ a', OwnFrom w.heap.size (fun k W => Ax k a' W))
 (hassign : ∀ (l k : Nat) (vs : Array Value) (U W : World) (K : Act → World → Prop), k < m → I k U → Below U.heap.size U W → hand k vs U W → (∀ a' W', KeepsFrom w.heap.size W W' → Below n₀ W W' → Ax k a' W' → K a' W') →
  assign.wpIn (F.inRound l) (n - 1 - 1) P (Exit.then K (fun _ _ _ => False)) { tmps := (ps.zip vs).foldl (fun t (p, v) => t.setIfInBounds p v) a.tmps, defers := [] } W)
 (hbody : ∀ (l k : Nat) (a' : Act) (W : World), k < m → Ax k a' W → body.wpIn (F.inRound l) (n - 1 - 1) P (fedPost w.heap.size n₀ (I (k + 1)) (X k) W) a' W)
 (hdone : ∀ (D : Nat) (W : World), w.heap.size ≤ D → I m W → W.heap[D]? = some (.deferred (some [])) → R .normal { a with defers := { target := .collected D, args := #[] } :: a.defers } W)
 (hstop : ∀ (D k : Nat) (W : World), w.heap.size ≤ D → k < m → X k W → W.heap[D]? = some (.deferred (some [])) → Code.ret.wpIn F n P R { a with defers := { target := .collected D, args := #[] } :: a.defers } W) :
 (Code.rangeFunc g ps assign body).wpIn F n P R a w := by
 refine wpIn_rangeFunc fun fn hfn => ?_
 rw [hro]
 -- the two blocks that the statement lays: where deferred calls are kept, and the loop's record
 let D := w.heap.size
 let L := w.heap.size + 1
 let book : LoopState → Option Code → Loop := fun st j => { state := st, pending := j, fn, tmps := a.tmps, params := ps, assign, body, defers := D }
 let W0 := (w.alloc (.deferred (some []))).alloc (.loop (book .ready none))
 have zW0 : W0.heap.size = w.heap.size + 2 := by simp [W0]
 have bW0 : Below w.heap.size w W0 := ((Below.refl _ w).alloc (Nat.le_refl _) _).alloc (by simp) _
 have rec0 : W0.heap[L]? = some (.loop (book .ready none)) := by
  have := World.alloc_heap_new (w.alloc (.deferred (some []))) (.loop (book .ready none))
  rwa [World.size_alloc] at this
 have def0 : W0.heap[D]? = some (.deferred (some [])) := (Below.heap_alloc _ _ _ (by simp [D])).trans (World.alloc_heap_new w _)
 have iW0 : I 0 W0 := hI.alloc _ (hI.alloc _ h0)
 refine ⟨L, [{ target := .collected D, args := #[] }], W0, { target := .fn (.func gf) lb, args := #[.func (.yield L) #[] #[]] }, W0, gf, #[.func (.yield L) #[] #[]] ++ lb, W0, run_enterLoop_outer _ _ _ _ _, ?_, ?_, ?_, fun _ => h1, ?_⟩
 ·simp only [resolve, hg]
  simp [go_sem]
 ·intro f' hf'; simp [Target.leads] at hf'; subst hf'; exact hFg
 ·simp [invoke, go_sem, eg]
 -- what the caller keeps between rounds: its own word, and both blocks
 refine (hseq L (fun k W => I k W ∧ W.heap[L]? = some (.loop (book .ready none)) ∧ W.heap[D]? = some (.deferred (some []))) (fun k W => X k W ∧ W.heap[L]? = some (.loop (book .done (some .ret))) ∧ W.heap[D]? = some (.deferred (some [])))
  W0 bW0 (fun k A A' h hb => ?_) (fun k A A' h hb => ?_) ?_ ⟨iW0, rec0, def0⟩).mono ?_
 ·exact ⟨hI k A A' none h.1 (grown_of hb) (fun r e => by cases e), (hb.block L (Array.getElem?_eq_some_iff.1 h.2.1).1).trans h.2.1, (hb.block D (Array.getElem?_eq_some_iff.1 h.2.2).1).trans h.2.2⟩
 ·exact ⟨hX k A A' none h.1 (grown_of hb) (fun r e => by cases e), (hb.block L (Array.getElem?_eq_some_iff.1 h.2.1).1).trans h.2.1, (hb.block D (Array.getElem?_eq_some_iff.1 h.2.2).1).trans h.2.2⟩
 ·rintro k vs U V ⟨iU, recU, defU⟩ bU hk hh
  have recV := (bU.block L (Array.getElem?_eq_some_iff.1 recU).1).trans recU
  have defV := (bU.block D (Array.getElem?_eq_some_iff.1 defU).1).trans defU
  refine ⟨fn, _, assign, body, run_yield (P := P) (args := vs) recV (hps k vs U V hh), roundIn_of_wpIn hfn (hassign L k vs U V _ hk iU bU hh ?_)⟩
  intro a' A kA bA xA
  have recA := kA.same L _ (by simp [L]) recV rfl
  have defA := kA.same D _ (Nat.le_refl _) defV rfl
  have ltA := (Array.getElem?_eq_some_iff.1 recA).1
  refine ⟨_, run_beginRound recA rfl, ?_⟩
  generalize hM : A.putObj L (.loop { book .ready none with state := .busy }) = M
  have recM : M.heap[L]? = some (.loop { book .ready none with state := .busy }) := hM ▸ World.putObj_heap_same ltA
  have defM : M.heap[D]? = some (.deferred (some [])) := hM ▸ (World.putObj_heap_other (by simp [L, D])).trans defA
  have bM : Below n₀ A M := hM ▸ belowK_b (w := w) hn₀ A L _ _ (by simp [L]) recA rfl rfl
  have xM : Ax k a' M := hM ▸ (hAx a').putObj _ xA (by simp [L]) recA rfl
  refine wpIn_mono (hbody L k a' M hk xM) ?_
  intro e a3 Z hZ
  cases e with
  | normal =>
   obtain ⟨kZ, bZ, iZ⟩ := hZ
   have recZ := kZ.same L _ (by simp [L]) recM rfl
   have defZ := kZ.same D _ (Nat.le_refl _) defM rfl
   refine ⟨_, _, run_endRound (P := P) none recZ, .inl ⟨rfl, ⟨hI.putObj _ iZ (by simp [L]) recZ rfl, World.putObj_heap_same (Array.getElem?_eq_some_iff.1 recZ).1, (World.putObj_heap_other (by simp [L, D])).trans defZ⟩, ?_⟩⟩
   exact bA.trans (bM.trans (bZ.trans (belowK_b (w := w) hn₀ Z L _ _ (by simp [L]) recZ rfl rfl)))
  | ret =>
   obtain ⟨kZ, iZ⟩ := hZ
   have recZ := kZ.same L _ (by simp [L]) recM rfl
   have defZ := kZ.same D _ (Nat.le_refl _) defM rfl
   exact ⟨_, _, run_endRound (P := P) (some .ret) recZ, .inr ⟨rfl, hX.putObj _ iZ (by simp [L]) recZ rfl, World.putObj_heap_same (Array.getElem?_eq_some_iff.1 recZ).1, (World.putObj_heap_other (by simp [L, D])).trans defZ⟩⟩
  | exit id => exact hZ.elim
  | goto t => exact hZ.elim
  | panic c => exact hZ.elim
  | outgrown => exact hZ.elim
 ·rintro e Z ⟨⟨v, rfl⟩, (⟨iZ, recZ, defZ⟩ | ⟨k, hk, iZ, recZ, defZ⟩)⟩
  ·exact ⟨none, _, run_endLoop (P := P) recZ (by simp [book]), hdone D _ (Nat.le_refl _) (hI.putObj _ iZ (by simp [L]) recZ rfl) ((World.putObj_heap_other (by simp [L, D])).trans defZ)⟩
  ·exact ⟨some .ret, _, run_endLoop (P := P) recZ (by simp [book]), hstop D k _ (Nat.le_refl _) hk (hX.putObj _ iZ (by simp [L]) recZ rfl) ((World.putObj_heap_other (by simp [L, D])).trans defZ)⟩
end Go.Proofs.YtndpjhiidmdlhaaGreatDoor
