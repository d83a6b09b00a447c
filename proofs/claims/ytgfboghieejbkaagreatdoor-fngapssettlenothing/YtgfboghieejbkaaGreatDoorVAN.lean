/- Texts that belong together: DrawSets, FromL, QcPlain, BlockPlain, DrawTx, SpecNameOf, DrawName, SafePlain, Blk, Saf, QcCopy. -/
import Derived.Test.YtgfboghieejbkaaGreatDoorVAF
import Derived.Test.YtgfboghieejbkaaGreatDoorVAA
import Derived.Laws.Bits128
import Derived.Test.YtgfboghieejbkaaGreatDoorVAI
import Derived.Test.YtgfboghieejbkaaGreatDoorVAL
import Derived.Test.YtgfboghieejbkaaGreatDoorVAM
import Derived.Test.YtgfboghieejbkaaGreatDoorVAG
import Derived.Test.YtgfboghieejbkaaGreatDoorVAH
import Derived.Lib.ItoaLen
import Derived.Deep.RegionHeld3
import Derived.Deep.DeepCutAuto
import Derived.Test.YtgfboghieejbkaaGreatDoorVAJ
namespace Go.Proofs.YtgfboghieejbkaaGreatDoor
open Go.RowKit

theorem kp_of {a b : World} {g : Nat} (h : a.grownBy b (some g)) : Kp a b (fun k => k = g) := (kp_grown h).mono fun k e => by simpa using e.symm

structure SCode (w : World) (ao : Option Addr) (xs : List Int) : Prop where
  len : xs.length ≤ 1048576
  code : xs = [] ∨ ∃ b off, ao = some ⟨b, off, none⟩ ∧ ∀ k, k < xs.length → w.cell? ⟨b, off + k, none⟩ = some (.int .u8 (xs.getD k 0))
  fit : ∀ k, k < xs.length → 0 ≤ xs.getD k 0 ∧ xs.getD k 0 ≤ 255
theorem SCode.below {w w' : World} {ao : Option Addr} {xs : List Int} (h : SCode w ao xs) (hb : Below w.heap.size w w') : SCode w' ao xs := by
  refine ⟨h.len, ?_, h.fit⟩
  rcases h.code with h' | ⟨b, off, ha, hx⟩
  · exact .inl h'
  · exact .inr ⟨b, off, ha, fun k hk => (hb.cell (p := ⟨b, off + k, none⟩) (cell_lt (hx k hk))).trans (hx k hk)⟩

def fromL (f : Int) (k : Nat) : List Int := (List.range k).map fun (i : Nat) => f + (i : Int)
theorem fromL_len (f : Int) (k : Nat) : (fromL f k).length = k := by simp [fromL]
theorem fromL_succ (f : Int) (k : Nat) : fromL f (k + 1) = fromL f k ++ [f + (k : Int)] := by simp [fromL, List.range_succ]
theorem fromL_ok {n f : Int} {k : Nat} (h0 : 0 ≤ f) (h : f + (k : Int) ≤ n) : OkL n (fromL f k) := by
  refine ⟨fun x hx => ?_, ?_⟩
  · obtain ⟨i, hi, rfl⟩ := List.mem_map.1 hx
    have := List.mem_range.1 hi
    omega
  · unfold fromL
    rw [List.pairwise_map]
    exact List.pairwise_lt_range.imp fun h => by omega
end Go.Proofs.YtgfboghieejbkaaGreatDoor
namespace Go.Proofs.YtgfboghieejbkaaGreatDoor
open Go.RowKit
set_option linter.unusedSectionVars false
variable [∀ (a b c d : Int), Decidable (Ok4 a b c d)]
variable [∀ (a b c d : Nat), Decidable (okN a b c d)]
variable [∀ (last : Int) (s : St), Decidable (GoodSt last s)]
variable [∀ (x : T4), Decidable (OkT x)]
variable [∀ (n : Int) (s : List Int), Decidable (OkL n s)]
variable [∀ (n f : Int), Decidable (COk n f)]

theorem steps_nil : stepsAns ⟨#[]⟩ = some [] := by simp [stepsAns]
theorem view_nil : viewAns ⟨#[]⟩ = 0 := by simp [viewAns, steps_nil]
theorem view_none {s : ByteArray} (h : (stepsAns s).isSome = false) : viewAns s = 0 := by
  cases e : stepsAns s with
  | none => simp [viewAns, e]
  | some ss => rw [e] at h; cases h
theorem view_pos {s : ByteArray} (h : (stepsAns s).isSome = true) (hs : s ≠ ⟨#[]⟩) : 0 < viewAns s := by
  obtain ⟨ss, e⟩ := Option.isSome_iff_exists.1 h
  have h1 := (height_view (s := s)).1
  unfold heightAns at h1
  rw [e] at h1
  have hne : ss ≠ [] := by
    rintro rfl
    have := ((names_iff _ _).1 e).1
    exact hs (ba_ext (by simpa [nm] using this))
  have := List.length_pos_iff.2 hne
  simp only at h1
  omega
theorem qok_eq (n f v : Int) (s : ByteArray) (xs : List Int) : (decide (COk n f) && (alikeB v 0 s ⟨#[]⟩ xs [] || votedB n f v s xs)) = qokB n f v s xs := by
  unfold qokB votedB alikeB
  by_cases hc : COk n f
  · simp only [hc, decide_true, Bool.true_and]
    by_cases hs : s = ⟨#[]⟩
    · subst hs
      rw [steps_nil, view_nil]
      by_cases hv : v = 0
      · subst hv
        simp
      · have h1 : (v == 0) = false := by simpa using hv
        have h2 : ((0 : Int) == v) = false := by simp; omega
        simp [h1, h2, hv]
    · simp only [hs, false_and, and_false, decide_false, Bool.false_or, if_false]
      cases hn : (stepsAns s).isSome with
      | false =>
        rw [view_none hn]
        by_cases hv : v = 0
        · subst hv; simp
        · have h1 : (v == 0) = false := by simpa using hv
          simp [h1]
      | true =>
        have hp := view_pos hn hs
        by_cases hv : v = viewAns s
        · subst hv
          have h1 : decide (0 < viewAns s) = true := by simpa using hp
          simp only [h1, beq_self_eq_true, Bool.true_and]
          rw [Bool.and_comm]
        · have h1 : (v == viewAns s) = false := by simpa using hv
          have h2 : (viewAns s == v) = false := by simp; omega
          simp [h1, h2]
  · simp [hc]
theorem implQcOk (n f v : Int) (s : ByteArray) (ao : Option Addr) (ca : Nat) (xs : List Int) (w : World) (hs : s.size ≤ 33554432) (hE : Env w) (ha : RI w (.slice ao xs.length ca) xs) :
    Calls Tryz.prog 38 #[cv n f, qv v s (.slice ao xs.length ca)] w fun e w' => e = .returned (.bool (qokB n f v s xs)) ∧ Below w.heap.size w w' := by
  have := implQcOk_at n f v s ao ca xs w hs hE ha
  rwa [qok_eq] at this

def bokB (n f : Int) (m : ByteArray) (v : Int) (s : ByteArray) (xs : List Int) : Bool := qokB n f v s xs && decide (0 < heightAns m) && decide (upAns m = s)
theorem height_pos (m : ByteArray) : decide (0 < heightAns m) = ((stepsAns m).isSome && decide (m ≠ ⟨#[]⟩)) := by
  unfold heightAns
  cases e : stepsAns m with
  | none => simp
  | some ss =>
    have h := ((names_iff _ _).1 e).1
    by_cases hm : m = ⟨#[]⟩
    · subst hm
      rw [steps_nil] at e
      cases e
      simp
    · have hne : ss ≠ [] := by
        rintro rfl
        exact hm (ba_ext (by simpa [nm] using h))
      have := List.length_pos_iff.2 hne
      simp [hm]
      omega
def bnewB (n f v : Int) (s : ByteArray) (xs : List Int) (view : Int) (ts : List T4) : Bool := bokB n f (nameAns s view ts) v s xs && (viewAns (nameAns s view ts) == view)
end Go.Proofs.YtgfboghieejbkaaGreatDoor
namespace Go.Proofs.YtgfboghieejbkaaGreatDoor
open Go.RowKit
set_option linter.unusedSectionVars false
variable [∀ (a b c d : Int), Decidable (Ok4 a b c d)]
variable [∀ (a b c d : Nat), Decidable (okN a b c d)]
variable [∀ (x : T4), Decidable (OkT x)]

theorem Cur.set {w : World} {base g ca : Nat} {ao : Option Addr} {xs : List Int} (h : Cur w base g ao ca xs) {r : Nat} (hr : g < r) (j : Nat) (v : Value) : Cur (w.setCell ⟨r, j, none⟩ v) base g ao ca xs :=
  h.grownNew (set_grown w r j v) (fun k e => by simp at e; omega)

theorem OT.grown {w w' : World} {base g : Nat} {v : Value} {xs : List T4} (h : OT w base v xs) (hg : w.grownBy w' (some g)) (hlt : g < base) : OT w' base v xs :=
  World.ownsRow.kept h hg (by
    cases hv : v.ownBlock with
    | none => exact .inl rfl
    | some k => exact .inr fun e => by have := (World.ownsRow.lt h k hv).1; simp at e; omega)
end Go.Proofs.YtgfboghieejbkaaGreatDoor
namespace Go.Proofs.YtgfboghieejbkaaGreatDoor
open Go.RowKit
set_option linter.unusedSectionVars false
variable [∀ (a b c d : Int), Decidable (Ok4 a b c d)]
variable [∀ (a b c d : Nat), Decidable (okN a b c d)]
variable [∀ (last : Int) (s : St), Decidable (GoodSt last s)]
variable [∀ (x : T4), Decidable (OkT x)]

theorem itoa_short (n : Int) (h0 : -9223372036854775808 ≤ n) (h1 : n ≤ 9223372036854775807) : (Lib.itoa n).length ≤ 21 := by
  unfold Lib.itoa
  split
  · have := Lib.nDigits_le20 n.natAbs (by omega)
    rw [List.length_cons, Lib.decDigits_length]; omega
  · have := Lib.nDigits_le20 n.toNat (by omega)
    rw [Lib.decDigits_length]; omega
theorem txsT_len (ts : List T4) : (txsT ts).size ≤ ts.length * 28 := by
  unfold txsT
  split
  · rw [toB_size]; exact accT_len ts ts.length
  · exact Nat.zero_le _
end Go.Proofs.YtgfboghieejbkaaGreatDoor
namespace Go.Proofs.YtgfboghieejbkaaGreatDoor
open Go.RowKit
set_option linter.unusedSectionVars false
variable [∀ (a b c d : Int), Decidable (Ok4 a b c d)]
variable [∀ (a b c d : Nat), Decidable (okN a b c d)]
variable [∀ (x : T4), Decidable (OkT x)]
variable [∀ (last : Int) (s : St), Decidable (GoodSt last s)]

theorem nm_len (ss : List St) (h : ∀ s ∈ ss, OkSt s) : (nm ss).length ≤ ss.length * 64 := by
  induction ss with
  | nil => simp [nm]
  | cons s ss ih =>
    have h1 := h s (by simp)
    have h2 := ih fun x hx => h x (by simp [hx])
    have h3 := txsT_len2 s.2 h1.2.1
    have h4 := nDigits_six s.1.toNat (by have := h1.1; omega)
    have e : nm (s :: ss) = 47 :: stText s ++ nm ss := by simp [nm]
    rw [e, List.length_append, List.length_cons, List.length_cons]
    unfold stText
    rw [List.length_append, List.length_cons, Lib.decDigits_length]
    have e2 : (txsT s.2).data.toList.length = (txsT s.2).size := by simp
    omega
theorem name_len {s : ByteArray} (h : (stepsAns s).isSome = true) : s.size ≤ 1920 := by
  cases hs : stepsAns s with
  | none => rw [hs] at h; cases h
  | some ss =>
    obtain ⟨h1, h2⟩ := (names_iff _ _).1 hs
    have h3 := nm_len ss h2.2.1
    have h4 := h2.1
    have e : s.size = s.data.toList.length := by simp
    rw [e, h1]; omega
theorem nameAns_len (up : ByteArray) (view : Int) (ts : List T4) : (nameAns up view ts).size ≤ 1920 := by
  unfold nameAns
  split
  · rename_i h; exact name_len h.2
  · exact Nat.zero_le _
end Go.Proofs.YtgfboghieejbkaaGreatDoor
namespace Go.Proofs.YtgfboghieejbkaaGreatDoor
open Go.RowKit
set_option linter.unusedSectionVars false
variable [∀ (a b c d : Int), Decidable (Ok4 a b c d)]
variable [∀ (a b c d : Nat), Decidable (okN a b c d)]
variable [∀ (last : Int) (s : St), Decidable (GoodSt last s)]
variable [∀ (x : T4), Decidable (OkT x)]
variable [∀ (n : Int) (s : List Int), Decidable (OkL n s)]
variable [∀ (n f : Int), Decidable (COk n f)]

def up2 (s : ByteArray) : ByteArray := upAns (upAns s)
def stB (s : ByteArray) : Bool := decide (up2 s ≠ ⟨#[]⟩) && (viewAns s - viewAns (up2 s) == 2)
def stN (s : ByteArray) : ByteArray := if stB s = true then up2 s else ⟨#[]⟩
theorem up_none {s : ByteArray} (h : stepsAns s = none) : upAns s = ⟨#[]⟩ := by
  unfold upAns; rw [h]; rfl
theorem up_nil : upAns ⟨#[]⟩ = ⟨#[]⟩ := by unfold upAns; rw [steps_nil]; rfl
theorem up_size {s : ByteArray} : (upAns s).size ≤ 1920 := by
  cases h : stepsAns s with
  | none => rw [up_none h]; exact Nat.zero_le _
  | some ss => exact name_len (by rw [up_steps h]; rfl)
theorem up2_size {s : ByteArray} : (up2 s).size ≤ 1920 := up_size
theorem view_steps {s : ByteArray} {ss : List St} (h : stepsAns s = some ss) : viewAns s = (ss.getLast?.map (·.1)).getD 0 := by unfold viewAns; rw [h]; rfl
theorem st_none {s : ByteArray} (h : stepsAns s = none) : stB s = false := by
  unfold stB up2; rw [up_none h, up_nil]; simp
theorem st_few {s : ByteArray} {ss : List St} (h : stepsAns s = some ss) (hl : ss.length < 3) : stB s = false := by
  have h2 := up_steps (up_steps h)
  have he : ss.dropLast.dropLast = [] := List.length_eq_zero_iff.1 (by simp; omega)
  rw [he] at h2
  have : up2 s = ⟨#[]⟩ := ba_ext (by have := ((names_iff _ _).1 h2).1; simpa [nm, up2] using this)
  unfold stB; rw [this]; simp
theorem st_three {s : ByteArray} {tt : List St} {a b c : St} (h : stepsAns s = some (tt ++ [a, b, c])) : stB s = (c.1 == b.1 + 1 && b.1 == a.1 + 1) := by
  have h2 := up_steps (up_steps h)
  have e : (tt ++ [a, b, c]).dropLast.dropLast = tt ++ [a] := by
    rw [show tt ++ [a, b, c] = (tt ++ [a, b]) ++ [c] by simp, List.dropLast_concat, show tt ++ [a, b] = (tt ++ [a]) ++ [b] by simp, List.dropLast_concat]
  rw [e] at h2
  have hne : up2 s ≠ ⟨#[]⟩ := by
    intro e0
    unfold up2 at e0
    rw [e0, steps_nil] at h2
    simp at h2
  have ok := ((names_iff _ _).1 h).2.2.2
  rw [List.pairwise_append] at ok
  have hw := ok.2.1
  simp only [List.pairwise_cons, List.mem_cons, List.not_mem_nil, or_false] at hw
  have h1 := hw.1 b (.inl rfl)
  have h3 := hw.2.1 c rfl
  have v1 : viewAns s = c.1 := by rw [view_steps h]; simp
  have v2 : viewAns (up2 s) = a.1 := by unfold up2; rw [view_steps h2]; simp
  unfold stB
  rw [v1, v2, decide_eq_true hne, Bool.true_and, Bool.eq_iff_iff]
  simp only [Bool.and_eq_true, beq_iff_eq]
  omega
theorem last3 {ss : List St} (h : 3 ≤ ss.length) : ∃ tt, ss = tt ++ [ss.getD (ss.length - 3) zst, ss.getD (ss.length - 2) zst, ss.getD (ss.length - 1) zst] := by
  refine ⟨ss.take (ss.length - 3), ?_⟩
  conv => lhs; rw [← List.take_append_drop (ss.length - 3) ss]
  congr 1
  have d : ∀ k, k < ss.length → ss.drop k = ss.getD k zst :: ss.drop (k + 1) := fun k hk => by
    rw [List.drop_eq_getElem_cons hk, List.getD_eq_getElem?_getD, List.getElem?_eq_getElem hk]; rfl
  rw [d _ (by omega), d _ (by omega), d _ (by omega), show ss.length - 3 + 1 = ss.length - 2 by omega, show ss.length - 2 + 1 = ss.length - 1 by omega, List.drop_of_length_le (by omega)]
theorem st_last {s : ByteArray} {ss : List St} (h : stepsAns s = some ss) (hl : 3 ≤ ss.length) : stB s = ((ss.getD (ss.length - 1) zst).1 == (ss.getD (ss.length - 2) zst).1 + 1 && (ss.getD (ss.length - 2) zst).1 == (ss.getD (ss.length - 3) zst).1 + 1) := by
  obtain ⟨tt, e⟩ := last3 hl
  generalize ss.getD (ss.length - 1) zst = c at *
  generalize ss.getD (ss.length - 2) zst = b at *
  generalize ss.getD (ss.length - 3) zst = a at *
  rw [e] at h
  exact st_three h
theorem view_le (s : ByteArray) : 0 ≤ viewAns s ∧ viewAns s ≤ 60 := by
  refine ⟨?_, (height_view (s := s)).2.2⟩
  cases e : stepsAns s with
  | none => rw [view_none (by rw [e]; rfl)]; exact Int.le_refl _
  | some ss =>
    have := (height_view (s := s)).1
    unfold heightAns at this
    rw [e] at this
    simp only at this
    omega

def inB (x : Int) : Bool := decide (0 ≤ x) && decide (x ≤ 60)
def sokB (n f vo lo v : Int) (s : ByteArray) (xs : List Int) (d : ByteArray) : Bool := inB vo && inB lo && qokB n f v s xs && (stepsAns d).isSome
def ssamB (vo lo v : Int) (s : ByteArray) (xs : List Int) (d : ByteArray) (vo' lo' v' : Int) (s' : ByteArray) (xs' : List Int) (d' : ByteArray) : Bool := (vo == vo') && (lo == lo') && alikeB v v' s s' xs xs' && decide (d = d')
theorem ssam_me (vo lo v : Int) (s : ByteArray) (xs : List Int) (d : ByteArray) : ssamB vo lo v s xs d vo lo v s xs d = true := by simp [ssamB, alikeB]
def goB (n f vo lo v : Int) (s : ByteArray) (xs : List Int) (d : ByteArray) (v' : Int) (s' : ByteArray) (ys : List Int) : Bool := sokB n f vo lo v s xs d && qokB n f v' s' ys
def lockOf (lo : Int) (s' : ByteArray) : Int := if lo < viewAns (upAns s') then viewAns (upAns s') else lo
def doneOf (d s' : ByteArray) : ByteArray := if (stB s' && extB (up2 s') d) = true then up2 s' else d
def seeL (g : Bool) (lo : Int) (s' : ByteArray) : Int := if g = true then lockOf lo s' else lo
def seeV (g : Bool) (v v' : Int) : Int := if g = true then (if v < v' then v' else v) else v
def seeS (g : Bool) (v v' : Int) (s s' : ByteArray) : ByteArray := if g = true then (if v < v' then s' else s) else s
def seeX (g : Bool) (v v' : Int) (xs ys : List Int) : List Int := if g = true then (if v < v' then ys else xs) else xs
def seeD (g : Bool) (d s' : ByteArray) : ByteArray := if g = true then doneOf d s' else d
def mayB (n f vo lo v : Int) (s : ByteArray) (xs : List Int) (d m : ByteArray) (v' : Int) (s' : ByteArray) (ys : List Int) : Bool := sokB n f vo lo v s xs d && bokB n f m v' s' ys && decide (vo < viewAns m) && decide (lo ≤ v')
def votV (g : Bool) (vo : Int) (m : ByteArray) : Int := if g = true then viewAns m else vo
theorem sok_mk {n f vo lo v : Int} {s : ByteArray} {xs : List Int} {d : ByteArray} (h1 : 0 ≤ vo) (h2 : vo ≤ 60) (h3 : 0 ≤ lo) (h4 : lo ≤ 60) (h5 : qokB n f v s xs = true) (h6 : (stepsAns d).isSome = true) : sokB n f vo lo v s xs d = true := by
  simp [sokB, inB, h1, h2, h3, h4, h5, h6]
theorem see_twice (lo v : Int) (d : ByteArray) (v' : Int) (s' : ByteArray) :
    lockOf (lockOf lo s') s' = lockOf lo s' ∧ (¬ (if v < v' then v' else v) < v') ∧ doneOf (doneOf d s') s' = doneOf d s' := by
  refine ⟨by unfold lockOf; split <;> (try split) <;> omega, by split <;> omega, ?_⟩
  by_cases hc : (stB s' && extB (up2 s') d) = true
  · have e : doneOf d s' = up2 s' := by unfold doneOf; rw [if_pos hc]
    rw [e]; unfold doneOf; split <;> rfl
  · have e : doneOf d s' = d := by unfold doneOf; rw [if_neg hc]
    rw [e, e]
end Go.Proofs.YtgfboghieejbkaaGreatDoor
namespace Go.Proofs.YtgfboghieejbkaaGreatDoor
open Go.RowKit

abbrev bv (m : ByteArray) (n : Int) (s : ByteArray) (v : Value) : Value := .agg #[.string m, .int .i64 n, .string s, v]

set_option maxHeartbeats 1600000 in
set_option maxRecDepth 100000 in
theorem eqBlock_yes (m : ByteArray) (n : Int) (s : ByteArray) (a b : Value) (xs : List Int) (w : World) (ha : RI w a xs) (hb : RI w b xs) :
    Calls Tryz.prog 79 #[bv m n s a, bv m n s b] w fun e w' => e = .returned (.bool true) ∧ Below w.heap.size w w' := by
  have R1 := hide ha
  have R2 := hide hb
  have B := hide (qalloc2 w (.cells #[.string m, .int .i64 n, .string s, a] 65) (.cells #[.string m, .int .i64 n, .string s, b] 65))
  clear ha hb
  go_enter Tryz.func79, Tryz.ntmps79
  go_wp2_with fail
  refine (eqQc_yes n s a b xs _ ((unhide R1).below (unhide B) (Nat.le_refl _)) ((unhide R2).below (unhide B) (Nat.le_refl _))).mono ?_
  rintro e w1 ⟨rfl, b1⟩
  go_wp2
  go_ret
  exact ⟨rfl, (unhide B).trans (b1.mono (unhide B).size)⟩

set_option maxHeartbeats 1600000 in
set_option maxRecDepth 100000 in
theorem markBlock_any (m : ByteArray) (n : Int) (s : ByteArray) (base : Nat) (v : Value) (xs : List Int) (k0 : Nat) (w : World) (hl : xs.length ≤ 4194304) (hk : k0 ≤ 100000000) (h : OI w base v xs) :
    Calls Tryz.prog 80 #[bv m n s v, .int .i64 k0] w fun e w' => e = .returned (.int .i64 (k0 + xs.length)) ∧ OI w' base v (imarks k0 xs.length) ∧ Kp w w' (fun k => v.ownBlock = some k) := by
  have B := hide (qalloc w (.cells #[.string m, .int .i64 n, .string s, v] 65))
  have H := hide (h.below (unhide B))
  have MK := hide fun w h => markQc_any n s base v xs k0 w hl hk h
  clear h
  go_enter Tryz.func80, Tryz.ntmps80
  go_wp2_with fail
  refine (unhide MK _ (unhide H)).mono ?_
  rintro e w1 ⟨rfl, o1, k1⟩
  have K := (Below.kpOf (unhide B) (fun k => v.ownBlock = some k)).trans k1
  go_wp2
  go_ret
  exact ⟨rfl, o1, K⟩

set_option maxHeartbeats 800000 in
set_option maxRecDepth 100000 in
theorem szBlock_yes (m : ByteArray) (n : Int) (s : ByteArray) (ao : Option Addr) (k ca : Nat) (left : Int) (w : World) (h : (m.size : Int) + s.size + k ≤ left) (hl : left ≤ 1048576) :
    Calls Tryz.prog 77 #[bv m n s (.slice ao k ca), .int .i64 left] w fun e w' => e = .returned (.int .i64 (left - m.size - s.size - k)) ∧ Below w.heap.size w w' := by
  have h1 : decide ((left : Int) - (m.size : Int) < 0) = false := by simp; omega
  have h2 : decide ((left : Int) - (m.size : Int) - (s.size : Int) - (k : Int) < 0) = false := by simp; omega
  have ZQ := hide fun w => szQc_yes n s ao k ca (left - m.size) w (by omega) (by omega)
  have B := hide (qalloc w (.cells #[.string m, .int .i64 n, .string s, .slice ao k ca] 102))
  go_enter Tryz.func77, Tryz.ntmps77
  go_wp2_with fail
  refine (unhide ZQ _).mono ?_
  rintro e w1 ⟨rfl, b1⟩
  go_wp2
  go_ret
  exact ⟨rfl, (unhide B).trans (b1.mono (unhide B).size)⟩
set_option maxHeartbeats 800000 in
set_option maxRecDepth 100000 in
theorem szBlock_no1 (m : ByteArray) (n : Int) (s : ByteArray) (ao : Option Addr) (k ca : Nat) (left : Int) (w : World) (h0 : 0 ≤ left) (h : left < m.size) (hs : m.size ≤ 9223372036854775807) (hl : left ≤ 1048576) :
    Calls Tryz.prog 77 #[bv m n s (.slice ao k ca), .int .i64 left] w fun e w' => e = .returned (.int .i64 (-1)) ∧ Below w.heap.size w w' := by
  have h1 : decide ((left : Int) - (m.size : Int) < 0) = true := by simp; omega
  go_enter Tryz.func77, Tryz.ntmps77
  go_wp2
  go_ret
  exact ⟨rfl, qalloc _ _⟩
set_option maxHeartbeats 800000 in
set_option maxRecDepth 100000 in
theorem szBlock_no2 (m : ByteArray) (n : Int) (s : ByteArray) (ao : Option Addr) (k ca : Nat) (left : Int) (w : World) (h0 : (m.size : Int) ≤ left) (h : left < m.size + s.size + k) (hs : s.size ≤ 9223372036854775807) (hk : k ≤ 9223372036854775807) (hl : left ≤ 1048576) :
    Calls Tryz.prog 77 #[bv m n s (.slice ao k ca), .int .i64 left] w fun e w' => e = .returned (.int .i64 (-1)) ∧ Below w.heap.size w w' := by
  have h1 : decide ((left : Int) - (m.size : Int) < 0) = false := by simp; omega
  have ZQ := hide fun w => szQc_no n s ao k ca (left - m.size) w (by omega) (by omega) hs hk (by omega)
  have B := hide (qalloc w (.cells #[.string m, .int .i64 n, .string s, .slice ao k ca] 102))
  go_enter Tryz.func77, Tryz.ntmps77
  go_wp2_with fail
  refine (unhide ZQ _).mono ?_
  rintro e w1 ⟨rfl, b1⟩
  go_wp2
  go_ret
  exact ⟨rfl, (unhide B).trans (b1.mono (unhide B).size)⟩
theorem szBlock_no (m : ByteArray) (n : Int) (s : ByteArray) (ao : Option Addr) (k ca : Nat) (left : Int) (w : World) (h0 : 0 ≤ left) (h : left < m.size + s.size + k) (hm : m.size ≤ 9223372036854775807) (hs : s.size ≤ 9223372036854775807) (hk : k ≤ 9223372036854775807) (hl : left ≤ 1048576) :
    Calls Tryz.prog 77 #[bv m n s (.slice ao k ca), .int .i64 left] w fun e w' => e = .returned (.int .i64 (-1)) ∧ Below w.heap.size w w' := by
  by_cases h1 : left < (m.size : Int)
  · exact szBlock_no1 m n s ao k ca left w h0 h1 hm hl
  · exact szBlock_no2 m n s ao k ca left w (by omega) h hs hk hl

theorem Kp.same (w : World) (X : Nat → Prop) : Kp w w X := Below.kpOf (Below.refl w.heap.size w) X
theorem Kp.put {a b : World} {X : Nat → Prop} (h : Kp a b X) {g : Nat} (hg : X g) (j : Nat) (v : Value) : Kp a (b.setCell ⟨g, j, none⟩ v) X := h.trans ((set_kp _ _ _ _).mono fun _ e => e ▸ hg)
abbrev zb : Array Value := #[.string ⟨#[]⟩, .int .i64 0, .string ⟨#[]⟩, .slice none 0 0]
theorem kp4 (w : World) (g : Nat) (a b c d : Value) : Kp w ((((w.setCell ⟨g, 0, none⟩ a).setCell ⟨g, 1, none⟩ b).setCell ⟨g, 2, none⟩ c).setCell ⟨g, 3, none⟩ d) (fun k => k = g) :=
  (((set_kp _ _ _ _).trans (set_kp _ _ _ _)).trans (set_kp _ _ _ _)).trans (set_kp _ _ _ _)
set_option maxHeartbeats 1600000 in
set_option maxRecDepth 100000 in
theorem toBlock_any (m : ByteArray) (n : Int) (s : ByteArray) (a : Value) (xs : List Int) (w : World) (ha : RI w a xs) :
    Calls Tryz.prog 78 #[bv m n s a] w fun e w' => ∃ u, e = .returned (bv m n s u) ∧ OI w' w.heap.size u xs ∧ Below w.heap.size w w' := by
  obtain ⟨w0, hw0⟩ : ∃ w0, ((w.alloc (.cells #[.string m, .int .i64 n, .string s, a] 102)).alloc (.cells zb 65)).alloc (.cells #[.string m, .int .i64 0, .string ⟨#[]⟩, .slice none 0 0] 65) = w0 := ⟨_, rfl⟩
  have B0 : Below w.heap.size w w0 := hw0 ▸ ((qalloc2 _ _ _).alloc (by simp; omega) _)
  have LZ : Loc w0 (w.heap.size + 1) zb := hw0 ▸ (loc_at (w.alloc _) _ _ (by simp)).alloc _
  have LO : Loc w0 (w.heap.size + 1 + 1) #[.string m, .int .i64 0, .string ⟨#[]⟩, .slice none 0 0] := hw0 ▸ loc_at ((w.alloc _).alloc _) _ _ (by simp)
  have s0 : w0.heap.size = w.heap.size + 1 + 1 + 1 := by rw [← hw0]; simp
  have LA : Loc w0 w.heap.size #[.string m, .int .i64 n, .string s, a] := hw0 ▸ ((loc_at w _ _ rfl).alloc _).alloc _
  have a0 := LA.cell 0 rfl
  have a1 := LA.cell 1 rfl
  have a2 := LA.cell 2 rfl
  have a3 := LA.cell 3 rfl
  have TQ := hide (toQc_any n s a xs w0 (ha.below B0 (Nat.le_refl _)))
  have HZ := hide LZ
  have HO := hide LO
  clear ha LZ LO LA
  go_enter Tryz.func78, Tryz.ntmps78
  go_wp2_with fail
  clear hw0
  refine (unhide TQ).mono ?_
  rintro e w1 ⟨u, rfl, o1, b1⟩
  have B1 : Below w.heap.size w w1 := B0.trans (b1.mono B0.size)
  have Z1 := (unhide HZ).below b1 (unhide HZ).lt
  have O1 := (unhide HO).below b1 (unhide HO).lt
  have y0 := Z1.cell 0 rfl
  have y1 := Z1.cell 1 rfl
  have y2 := Z1.cell 2 rfl
  have y3 := Z1.cell 3 rfl
  have fy := Z1.frozen
  have x0 := O1.cell 0 rfl
  have x1 := O1.cell 1 rfl
  have x2 := O1.cell 2 rfl
  have x3 := O1.cell 3 rfl
  have fx := O1.frozen
  have lt1 := World.ownsRow.lt o1
  obtain ⟨ua, uc, rfl⟩ := o1.form
  have H1 := hide o1
  clear o1 b1 Z1 O1 HZ HO TQ a0 a1 a2 a3
  go_wp2
  refine bodyPost_ret (v := bv m n s (.slice ua xs.length uc)) (by simp [results, Tryz.results78, go_sem, y0, y1, y2, y3]) rfl ?_
  have K : Kp w1 _ (fun k => k = w.heap.size + 1 ∨ k = w.heap.size + 1 + 1) := (((((((Kp.same w1 _).put (g := w.heap.size + 1 + 1) (.inr rfl) 1 (.int .i64 n)).put (g := w.heap.size + 1 + 1) (.inr rfl) 2 (.string s)).put (g := w.heap.size + 1 + 1) (.inr rfl) 3 (.slice ua xs.length uc)).put (g := w.heap.size + 1) (.inl rfl) 0 (.string m)).put (g := w.heap.size + 1) (.inl rfl) 1 (.int .i64 n)).put (g := w.heap.size + 1) (.inl rfl) 2 (.string s)).put (g := w.heap.size + 1) (.inl rfl) 3 (.slice ua xs.length uc)
  exact ⟨_, rfl, ((unhide H1).kp K (fun k hk => by have := lt1 k hk; omega)).mono (by omega), Below.kp B1 K B1.size (fun k hk => by omega)⟩

abbrev sv (vo lo n : Int) (s : ByteArray) (v : Value) (d : ByteArray) : Value := .agg #[.int .i64 vo, .int .i64 lo, .int .i64 n, .string s, v, .string d]

set_option maxHeartbeats 1600000 in
set_option maxRecDepth 100000 in
theorem eqSafe_yes (vo lo n : Int) (s : ByteArray) (a b : Value) (xs : List Int) (d : ByteArray) (w : World) (ha : RI w a xs) (hb : RI w b xs) :
    Calls Tryz.prog 70 #[sv vo lo n s a d, sv vo lo n s b d] w fun e w' => e = .returned (.bool true) ∧ Below w.heap.size w w' := by
  obtain ⟨w0, hw0⟩ : ∃ w0, (w.alloc (.cells #[.int .i64 vo, .int .i64 lo, .int .i64 n, .string s, a, .string d] 60)).alloc (.cells #[.int .i64 vo, .int .i64 lo, .int .i64 n, .string s, b, .string d] 60) = w0 := ⟨_, rfl⟩
  have B0 : Below w.heap.size w w0 := hw0 ▸ qalloc2 _ _ _
  have LA : Loc w0 w.heap.size #[.int .i64 vo, .int .i64 lo, .int .i64 n, .string s, a, .string d] := hw0 ▸ (loc_at w _ _ rfl).alloc _
  have LB : Loc w0 (w.heap.size + 1) #[.int .i64 vo, .int .i64 lo, .int .i64 n, .string s, b, .string d] := hw0 ▸ loc_at (w.alloc _) _ _ (by simp)
  have EQ := hide (eqQc_yes n s a b xs w0 (ha.below B0 (Nat.le_refl _)) (hb.below B0 (Nat.le_refl _)))
  have HA := hide LA
  have HB := hide LB
  have x0 := LA.cell 0 rfl
  have x1 := LA.cell 1 rfl
  have x2 := LA.cell 2 rfl
  have x3 := LA.cell 3 rfl
  have x4 := LA.cell 4 rfl
  have x5 := LA.cell 5 rfl
  have y0 := LB.cell 0 rfl
  have y1 := LB.cell 1 rfl
  have y2 := LB.cell 2 rfl
  have y3 := LB.cell 3 rfl
  have y4 := LB.cell 4 rfl
  have y5 := LB.cell 5 rfl
  clear ha hb LA LB
  go_enter Tryz.func70, Tryz.ntmps70
  go_wp2_with fail
  clear hw0
  refine (unhide EQ).mono ?_
  rintro e w1 ⟨rfl, b1⟩
  have A1 := ((unhide HA).below b1 (unhide HA).lt).cell 5 rfl
  have C1 := ((unhide HB).below b1 (unhide HB).lt).cell 5 rfl
  have B1 := B0.trans (b1.mono B0.size)
  clear b1 x0 y0 x1 y1 x2 y2 x3 y3 x4 y4 x5 y5 EQ HA HB
  go_wp2
  go_ret
  exact ⟨rfl, B1⟩

set_option maxHeartbeats 1600000 in
set_option maxRecDepth 100000 in
theorem heldSafe_any (vo lo n : Int) (s : ByteArray) (v : Value) (d : ByteArray) (k : Nat) (w : World) (h : RI w v (imarks 1 k)) :
    Calls Tryz.prog 76 #[sv vo lo n s v d, .int .i64 1] w fun e w' => e = .returned (.int .i64 (1 + k)) ∧ Below w.heap.size w w' := by
  have R1 := hide h
  have B := hide (qalloc w (.cells #[.int .i64 vo, .int .i64 lo, .int .i64 n, .string s, v, .string d] 60))
  have hd : decide ((1 : Int) + (k : Int) < 0) = false := by simp; omega
  clear h
  go_enter Tryz.func76, Tryz.ntmps76
  go_wp2_with fail
  refine (heldQc_any n s v k _ ((unhide R1).below (unhide B) (Nat.le_refl _))).mono ?_
  rintro e w1 ⟨rfl, b1⟩
  go_wp2
  go_ret
  exact ⟨rfl, (unhide B).trans (b1.mono (unhide B).size)⟩

set_option maxHeartbeats 1600000 in
set_option maxRecDepth 100000 in
theorem markSafe_any (vo lo n : Int) (s : ByteArray) (base : Nat) (v : Value) (d : ByteArray) (xs : List Int) (k0 : Nat) (w : World) (hl : xs.length ≤ 4194304) (hk : k0 ≤ 100000000) (h : OI w base v xs) :
    Calls Tryz.prog 74 #[sv vo lo n s v d, .int .i64 k0] w fun e w' => e = .returned (.int .i64 (k0 + xs.length)) ∧ OI w' base v (imarks k0 xs.length) ∧ Kp w w' (fun k => v.ownBlock = some k) := by
  have B := hide (qalloc w (.cells #[.int .i64 vo, .int .i64 lo, .int .i64 n, .string s, v, .string d] 60))
  have H := hide (h.below (unhide B))
  have MK := hide fun w h => markQc_any n s base v xs k0 w hl hk h
  clear h
  go_enter Tryz.func74, Tryz.ntmps74
  go_wp2_with fail
  refine (unhide MK _ (unhide H)).mono ?_
  rintro e w1 ⟨rfl, o1, k1⟩
  have K := (Below.kpOf (unhide B) (fun k => v.ownBlock = some k)).trans k1
  go_wp2
  go_ret
  exact ⟨rfl, o1, K⟩

set_option maxHeartbeats 1600000 in
set_option maxRecDepth 100000 in
theorem szSafe_yes (vo lo n : Int) (s : ByteArray) (ao : Option Addr) (k ca : Nat) (d : ByteArray) (left : Int) (w : World) (h : (s.size : Int) + k + d.size ≤ left) (hl : left ≤ 1048576) :
    Calls Tryz.prog 67 #[sv vo lo n s (.slice ao k ca) d, .int .i64 left] w fun e w' => e = .returned (.int .i64 (left - s.size - k - d.size)) ∧ Below w.heap.size w w' := by
  have h2 : decide ((left : Int) - (s.size : Int) - (k : Int) < 0) = false := by simp; omega
  have h1 : decide ((left : Int) - (s.size : Int) - (k : Int) - (d.size : Int) < 0) = false := by simp; omega
  have ZQ := hide fun w => szQc_yes n s ao k ca left w (by omega) (by omega)
  obtain ⟨w0, hw0⟩ : ∃ w0, w.alloc (.cells #[.int .i64 vo, .int .i64 lo, .int .i64 n, .string s, .slice ao k ca, .string d] 91) = w0 := ⟨_, rfl⟩
  have B0 : Below w.heap.size w w0 := hw0 ▸ qalloc _ _
  have LA : Loc w0 w.heap.size #[.int .i64 vo, .int .i64 lo, .int .i64 n, .string s, .slice ao k ca, .string d] := hw0 ▸ loc_at w _ _ rfl
  have HA := hide LA
  have x0 := LA.cell 0 rfl
  have x1 := LA.cell 1 rfl
  have x2 := LA.cell 2 rfl
  have x3 := LA.cell 3 rfl
  have x4 := LA.cell 4 rfl
  have x5 := LA.cell 5 rfl
  clear LA
  go_enter Tryz.func67, Tryz.ntmps67
  go_wp2_with fail
  clear hw0
  refine (unhide ZQ _).mono ?_
  rintro e w1 ⟨rfl, b1⟩
  have A1 := ((unhide HA).below b1 (unhide HA).lt).cell 5 rfl
  have B1 := B0.trans (b1.mono B0.size)
  clear b1 x0 x1 x2 x3 x4 x5 HA
  go_wp2
  go_ret
  exact ⟨rfl, B1⟩
set_option maxHeartbeats 1600000 in
set_option maxRecDepth 100000 in
theorem szSafe_no1 (vo lo n : Int) (s : ByteArray) (ao : Option Addr) (k ca : Nat) (d : ByteArray) (left : Int) (w : World) (h0 : 0 ≤ left) (h : left < s.size + k) (hs : s.size ≤ 9223372036854775807) (hk : k ≤ 9223372036854775807) (hl : left ≤ 1048576) :
    Calls Tryz.prog 67 #[sv vo lo n s (.slice ao k ca) d, .int .i64 left] w fun e w' => e = .returned (.int .i64 (-1)) ∧ Below w.heap.size w w' := by
  have ZQ := hide fun w => szQc_no n s ao k ca left w (by omega) (by omega) hs hk (by omega)
  obtain ⟨w0, hw0⟩ : ∃ w0, w.alloc (.cells #[.int .i64 vo, .int .i64 lo, .int .i64 n, .string s, .slice ao k ca, .string d] 91) = w0 := ⟨_, rfl⟩
  have B0 : Below w.heap.size w w0 := hw0 ▸ qalloc _ _
  have LA : Loc w0 w.heap.size #[.int .i64 vo, .int .i64 lo, .int .i64 n, .string s, .slice ao k ca, .string d] := hw0 ▸ loc_at w _ _ rfl
  have HA := hide LA
  have x0 := LA.cell 0 rfl
  have x1 := LA.cell 1 rfl
  have x2 := LA.cell 2 rfl
  have x3 := LA.cell 3 rfl
  have x4 := LA.cell 4 rfl
  have x5 := LA.cell 5 rfl
  clear LA
  go_enter Tryz.func67, Tryz.ntmps67
  go_wp2_with fail
  clear hw0
  refine (unhide ZQ _).mono ?_
  rintro e w1 ⟨rfl, b1⟩
  have A1 := ((unhide HA).below b1 (unhide HA).lt).cell 5 rfl
  have B1 := B0.trans (b1.mono B0.size)
  clear b1 x0 x1 x2 x3 x4 x5 HA
  go_wp2
  go_ret
  exact ⟨rfl, B1⟩
set_option maxHeartbeats 1600000 in
set_option maxRecDepth 100000 in
theorem szSafe_no2 (vo lo n : Int) (s : ByteArray) (ao : Option Addr) (k ca : Nat) (d : ByteArray) (left : Int) (w : World) (h0 : (s.size : Int) + k ≤ left) (h : left < s.size + k + d.size) (hd : d.size ≤ 9223372036854775807) (hl : left ≤ 1048576) :
    Calls Tryz.prog 67 #[sv vo lo n s (.slice ao k ca) d, .int .i64 left] w fun e w' => e = .returned (.int .i64 (-1)) ∧ Below w.heap.size w w' := by
  have h2 : decide ((left : Int) - (s.size : Int) - (k : Int) < 0) = false := by simp; omega
  have h1 : decide ((left : Int) - (s.size : Int) - (k : Int) - (d.size : Int) < 0) = true := by simp; omega
  have ZQ := hide fun w => szQc_yes n s ao k ca left w (by omega) (by omega)
  obtain ⟨w0, hw0⟩ : ∃ w0, w.alloc (.cells #[.int .i64 vo, .int .i64 lo, .int .i64 n, .string s, .slice ao k ca, .string d] 91) = w0 := ⟨_, rfl⟩
  have B0 : Below w.heap.size w w0 := hw0 ▸ qalloc _ _
  have LA : Loc w0 w.heap.size #[.int .i64 vo, .int .i64 lo, .int .i64 n, .string s, .slice ao k ca, .string d] := hw0 ▸ loc_at w _ _ rfl
  have HA := hide LA
  have x0 := LA.cell 0 rfl
  have x1 := LA.cell 1 rfl
  have x2 := LA.cell 2 rfl
  have x3 := LA.cell 3 rfl
  have x4 := LA.cell 4 rfl
  have x5 := LA.cell 5 rfl
  clear LA
  go_enter Tryz.func67, Tryz.ntmps67
  go_wp2_with fail
  clear hw0
  refine (unhide ZQ _).mono ?_
  rintro e w1 ⟨rfl, b1⟩
  have A1 := ((unhide HA).below b1 (unhide HA).lt).cell 5 rfl
  have B1 := B0.trans (b1.mono B0.size)
  clear b1 x0 x1 x2 x3 x4 x5 HA
  go_wp2
  go_ret
  exact ⟨rfl, B1⟩
theorem szSafe_no (vo lo n : Int) (s : ByteArray) (ao : Option Addr) (k ca : Nat) (d : ByteArray) (left : Int) (w : World) (h0 : 0 ≤ left) (h : left < s.size + k + d.size) (hs : s.size ≤ 9223372036854775807) (hk : k ≤ 9223372036854775807) (hd : d.size ≤ 9223372036854775807) (hl : left ≤ 1048576) :
    Calls Tryz.prog 67 #[sv vo lo n s (.slice ao k ca) d, .int .i64 left] w fun e w' => e = .returned (.int .i64 (-1)) ∧ Below w.heap.size w w' := by
  by_cases h1 : left < (s.size : Int) + k
  · exact szSafe_no1 vo lo n s ao k ca d left w h0 h1 hs hk hl
  · exact szSafe_no2 vo lo n s ao k ca d left w (by omega) h hd hl

abbrev zs6 : Array Value := #[.int .i64 0, .int .i64 0, .int .i64 0, .string ⟨#[]⟩, .slice none 0 0, .string ⟨#[]⟩]
theorem kp6 (w : World) (g : Nat) (a b c d e f : Value) : Kp w ((((((w.setCell ⟨g, 0, none⟩ a).setCell ⟨g, 1, none⟩ b).setCell ⟨g, 2, none⟩ c).setCell ⟨g, 3, none⟩ d).setCell ⟨g, 4, none⟩ e).setCell ⟨g, 5, none⟩ f) (fun k => k = g) :=
  (((((set_kp _ _ _ _).trans (set_kp _ _ _ _)).trans (set_kp _ _ _ _)).trans (set_kp _ _ _ _)).trans (set_kp _ _ _ _)).trans (set_kp _ _ _ _)
set_option maxHeartbeats 1600000 in
set_option maxRecDepth 100000 in
theorem toSafe_any (vo lo n : Int) (s : ByteArray) (a : Value) (xs : List Int) (d : ByteArray) (w : World) (ha : RI w a xs) :
    Calls Tryz.prog 69 #[sv vo lo n s a d] w fun e w' => ∃ u, e = .returned (sv vo lo n s u d) ∧ OI w' w.heap.size u xs ∧ Below w.heap.size w w' := by
  obtain ⟨w0, hw0⟩ : ∃ w0, ((w.alloc (.cells #[.int .i64 vo, .int .i64 lo, .int .i64 n, .string s, a, .string d] 91)).alloc (.cells zs6 60)).alloc (.cells #[.int .i64 vo, .int .i64 lo, .int .i64 0, .string ⟨#[]⟩, .slice none 0 0, .string ⟨#[]⟩] 60) = w0 := ⟨_, rfl⟩
  have B0 : Below w.heap.size w w0 := hw0 ▸ ((qalloc2 _ _ _).alloc (by simp; omega) _)
  have LZ : Loc w0 (w.heap.size + 1) zs6 := hw0 ▸ (loc_at (w.alloc _) _ _ (by simp)).alloc _
  have LO : Loc w0 (w.heap.size + 1 + 1) #[.int .i64 vo, .int .i64 lo, .int .i64 0, .string ⟨#[]⟩, .slice none 0 0, .string ⟨#[]⟩] := hw0 ▸ loc_at ((w.alloc _).alloc _) _ _ (by simp)
  have s0 : w0.heap.size = w.heap.size + 1 + 1 + 1 := by rw [← hw0]; simp
  have LA : Loc w0 w.heap.size #[.int .i64 vo, .int .i64 lo, .int .i64 n, .string s, a, .string d] := hw0 ▸ ((loc_at w _ _ rfl).alloc _).alloc _
  have p0 := LA.cell 0 rfl
  have p1 := LA.cell 1 rfl
  have p2 := LA.cell 2 rfl
  have p3 := LA.cell 3 rfl
  have p4 := LA.cell 4 rfl
  have p5 := LA.cell 5 rfl
  have TQ := hide (toQc_any n s a xs w0 (ha.below B0 (Nat.le_refl _)))
  have HZ := hide LZ
  have HO := hide LO
  have HA := hide LA
  clear ha LZ LO LA
  go_enter Tryz.func69, Tryz.ntmps69
  go_wp2_with fail
  clear hw0
  refine (unhide TQ).mono ?_
  rintro e w1 ⟨u, rfl, o1, b1⟩
  have B1 : Below w.heap.size w w1 := B0.trans (b1.mono B0.size)
  have Z1 := (unhide HZ).below b1 (unhide HZ).lt
  have O1 := (unhide HO).below b1 (unhide HO).lt
  have A1 := (unhide HA).below b1 (unhide HA).lt
  have y0 := Z1.cell 0 rfl
  have y1 := Z1.cell 1 rfl
  have y2 := Z1.cell 2 rfl
  have y3 := Z1.cell 3 rfl
  have y4 := Z1.cell 4 rfl
  have y5 := Z1.cell 5 rfl
  have fy := Z1.frozen
  have x0 := O1.cell 0 rfl
  have x1 := O1.cell 1 rfl
  have x2 := O1.cell 2 rfl
  have x3 := O1.cell 3 rfl
  have x4 := O1.cell 4 rfl
  have x5 := O1.cell 5 rfl
  have fx := O1.frozen
  have a5 := A1.cell 5 rfl
  have lt1 := World.ownsRow.lt o1
  obtain ⟨ua, uc, rfl⟩ := o1.form
  have H1 := hide o1
  clear o1 b1 Z1 O1 A1 HZ HO HA TQ p0 p1 p2 p3 p4 p5
  go_wp2
  refine bodyPost_ret (v := sv vo lo n s (.slice ua xs.length uc) d) (by simp [results, Tryz.results69, go_sem, y0, y1, y2, y3, y4, y5]) rfl ?_
  have K : Kp w1 _ (fun k => k = w.heap.size + 1 ∨ k = w.heap.size + 1 + 1) := (((((((((((Kp.same w1 _).put (g := w.heap.size + 1 + 1) (.inr rfl) 2 (.int .i64 n)).put (g := w.heap.size + 1 + 1) (.inr rfl) 3 (.string s)).put (g := w.heap.size + 1 + 1) (.inr rfl) 4 (.slice ua xs.length uc)).put (g := w.heap.size + 1 + 1) (.inr rfl) 5 (.string d)).put (g := w.heap.size + 1) (.inl rfl) 0 (.int .i64 vo)).put (g := w.heap.size + 1) (.inl rfl) 1 (.int .i64 lo)).put (g := w.heap.size + 1) (.inl rfl) 2 (.int .i64 n)).put (g := w.heap.size + 1) (.inl rfl) 3 (.string s)).put (g := w.heap.size + 1) (.inl rfl) 4 (.slice ua xs.length uc)).put (g := w.heap.size + 1) (.inl rfl) 5 (.string d))
  exact ⟨_, rfl, ((unhide H1).kp K (fun k hk => by have := lt1 k hk; omega)).mono (by omega), Below.kp B1 K B1.size (fun k hk => by omega)⟩

set_option maxHeartbeats 1600000 in
set_option maxRecDepth 100000 in
theorem l7Copy_any (n : Int) (s : ByteArray) (v : Value) (xs : List Int) (w : World) (h : RI w v xs) :
    Calls Tryz.prog 173 #[qv n s v] w fun e w' => ∃ u, e = .returned (qv n s u) ∧ OI w' w.heap.size u xs ∧ Below w.heap.size w w' := by
  obtain ⟨ao, ca, rfl⟩ := h.form
  have hl := h.1
  obtain ⟨w0, hw0⟩ : ∃ w0, ((w.alloc (.cells #[.int .i64 n, .string s, .slice ao xs.length ca] 40)).alloc zq).alloc (.cells #[] 3) = w0 := ⟨_, rfl⟩
  have B0 : Below w.heap.size w w0 := hw0 ▸ ((qalloc2 _ _ _).alloc (by simp; omega) _)
  have LA : Loc w0 w.heap.size #[.int .i64 n, .string s, .slice ao xs.length ca] := hw0 ▸ ((loc_at w _ _ rfl).alloc _).alloc _
  have LZ : Loc w0 (w.heap.size + 1) #[.int .i64 0, .string ⟨#[]⟩, .slice none 0 0] := hw0 ▸ (loc_at (w.alloc _) _ _ (by simp)).alloc _
  have s0 : w0.heap.size = w.heap.size + 1 + 1 + 1 := by rw [← hw0]; simp
  have O0 : OI w0 (w.heap.size + 1 + 1) (.slice (some ⟨w.heap.size + 1 + 1, 0, none⟩) 0 0) [] := by
    have := World.ownsRow_lit (base := w.heap.size + 1 + 1) (e := 3) (size := 1) ((w.alloc (.cells #[.int .i64 n, .string s, .slice ao xs.length ca] 40)).alloc zq) #[] 0 (by simp) (by unfold maxLen; omega) (by simp)
    rw [hw0] at this
    simpa [OI] using this
  have P0 := hide (h.pi.below B0)
  have x2 := LA.cell 2 rfl
  have HL := hide LA
  have HZ := hide LZ
  clear h LA LZ
  go_enter Tryz.func173, Tryz.ntmps173
  go_wp2_with (first | (at_builtin; clear hw0; refine append_ints rfl _ _ rfl (w.heap.size + 1 + 1) (.slice (some ⟨w.heap.size + 1 + 1, 0, none⟩) 0 0) (.slice ao xs.length ca) [] xs rfl rfl O0 (unhide P0) (by simp; omega) (by omega) ?_; intro v' w2 ho2 hg2 _
                        have k2 := kp_grown hg2
                        have L2 := (unhide HL).kp k2 (by simp [Value.ownBlock]; omega)
                        have Z2 := (unhide HZ).kp k2 (by simp [Value.ownBlock])
                        have B2 := Below.kp B0 k2 B0.size (fun k hk => by simp [Value.ownBlock] at hk; omega)
                        have lt2 := World.ownsRow.lt ho2
                        have p0 := L2.cell 0 rfl
                        have p1 := L2.cell 1 rfl
                        have p2 := L2.cell 2 rfl
                        have fp := L2.frozen
                        have y0 := Z2.cell 0 rfl
                        have y1 := Z2.cell 1 rfl
                        have y2 := Z2.cell 2 rfl
                        have fy := Z2.frozen
                        obtain ⟨ua, uc, rfl⟩ := ho2.form
                        have O2 := hide ho2
                        clear ho2 hg2 k2 L2 Z2))
  refine bodyPost_ret (v := qv n s (.slice ua ([] ++ xs).length uc)) (by simp [results, Tryz.results173, go_sem, y0, y1, y2]) rfl ?_
  have K5 : Kp w2 ((((w2.setCell ⟨w.heap.size, 2, none⟩ (.slice ua ([] ++ xs).length uc)).setCell ⟨w.heap.size + 1, 0, none⟩ (.int .i64 n)).setCell ⟨w.heap.size + 1, 1, none⟩ (.string s)).setCell ⟨w.heap.size + 1, 2, none⟩ (.slice ua ([] ++ xs).length uc)) (fun k => k = w.heap.size ∨ k = w.heap.size + 1) :=
    (((((set_kp _ _ _ _).mono (fun k h => .inl h))).trans ((set_kp _ _ _ _).mono (fun k h => .inr h))).trans ((set_kp _ _ _ _).mono (fun k h => .inr h))).trans ((set_kp _ _ _ _).mono (fun k h => .inr h))
  exact ⟨_, rfl, ((unhide O2).kp K5 (fun k hk => by have := lt2 k hk; omega)).mono (by omega), Below.kp B2 K5 B2.size (fun k hk => by omega)⟩

set_option maxHeartbeats 1600000 in
set_option maxRecDepth 100000 in
theorem specQcLater_at (n m : Int) (s t : ByteArray) (va vb : Value) (xs ys : List Int) (w : World) (ha : RI w va xs) (hb : RI w vb ys) :
    Calls Tryz.prog 134 #[qv n s va, qv m t vb] w fun e w' => ∃ u, e = .returned (qv (if m < n then n else m) (if m < n then s else t) u) ∧ OI w' w.heap.size u (if m < n then xs else ys) ∧ Below w.heap.size w w' := by
  obtain ⟨w0, hw0⟩ : ∃ w0, ((w.alloc (.cells #[.int .i64 n, .string s, va] 40)).alloc (.cells #[.int .i64 m, .string t, vb] 40)).alloc zq = w0 := ⟨_, rfl⟩
  have B0 : Below w.heap.size w w0 := hw0 ▸ ((qalloc2 _ _ _).alloc (by simp; omega) _)
  have LA : Loc w0 w.heap.size #[.int .i64 n, .string s, va] := hw0 ▸ ((loc_at w _ _ rfl).alloc _).alloc _
  have LB : Loc w0 (w.heap.size + 1) #[.int .i64 m, .string t, vb] := hw0 ▸ (loc_at (w.alloc _) _ _ (by simp)).alloc _
  have LZ : Loc w0 (w.heap.size + 1 + 1) #[.int .i64 0, .string ⟨#[]⟩, .slice none 0 0] := hw0 ▸ (loc_at ((w.alloc _).alloc _) _ _ (by simp))
  have s0 : w0.heap.size = w.heap.size + 1 + 1 + 1 := by rw [← hw0]; simp
  have CA := hide (l7Copy_any n s va xs w0 (ha.below B0 (Nat.le_refl _)))
  have CB := hide (l7Copy_any m t vb ys w0 (hb.below B0 (Nat.le_refl _)))
  have HZ := hide LZ
  have a0 := LA.cell 0 rfl
  have a1 := LA.cell 1 rfl
  have a2 := LA.cell 2 rfl
  have c0 := LB.cell 0 rfl
  have c1 := LB.cell 1 rfl
  have c2 := LB.cell 2 rfl
  clear ha hb LA LB LZ
  by_cases h : m < n
  · simp only [h, if_true]
    go_enter Tryz.func134, Tryz.ntmps134
    go_wp2_with fail
    clear hw0
    refine (unhide CA).mono ?_
    rintro e w2 ⟨u, rfl, o2, b2⟩
    have B2 : Below w.heap.size w w2 := B0.trans (b2.mono B0.size)
    have Z2 := (unhide HZ).below b2 (unhide HZ).lt
    have y0 := Z2.cell 0 rfl
    have y1 := Z2.cell 1 rfl
    have y2 := Z2.cell 2 rfl
    have fy := Z2.frozen
    have lt2 := World.ownsRow.lt o2
    obtain ⟨ua, uc, rfl⟩ := o2.form
    have O2 := hide o2
    clear o2 b2 Z2 HZ CA CB a0 a1 a2 c0 c1 c2
    go_wp2
    refine bodyPost_ret (v := qv n s (.slice ua xs.length uc)) (by simp [results, Tryz.results134, go_sem, y0, y1, y2]) rfl ?_
    have K5 : Kp w2 (((w2.setCell ⟨w.heap.size + 1 + 1, 0, none⟩ (.int .i64 n)).setCell ⟨w.heap.size + 1 + 1, 1, none⟩ (.string s)).setCell ⟨w.heap.size + 1 + 1, 2, none⟩ (.slice ua xs.length uc)) (fun k => k = w.heap.size + 1 + 1) := ((set_kp _ _ _ _).trans (set_kp _ _ _ _)).trans (set_kp _ _ _ _)
    exact ⟨_, rfl, ((unhide O2).kp K5 (fun k hk => by have := lt2 k hk; omega)).mono (by omega), Below.kp B2 K5 B2.size (fun k hk => by omega)⟩
  · simp only [h, if_false]
    go_enter Tryz.func134, Tryz.ntmps134
    go_wp2_with fail
    clear hw0
    refine (unhide CB).mono ?_
    rintro e w2 ⟨u, rfl, o2, b2⟩
    have B2 : Below w.heap.size w w2 := B0.trans (b2.mono B0.size)
    have Z2 := (unhide HZ).below b2 (unhide HZ).lt
    have y0 := Z2.cell 0 rfl
    have y1 := Z2.cell 1 rfl
    have y2 := Z2.cell 2 rfl
    have fy := Z2.frozen
    have lt2 := World.ownsRow.lt o2
    obtain ⟨ua, uc, rfl⟩ := o2.form
    have O2 := hide o2
    clear o2 b2 Z2 HZ CA CB a0 a1 a2 c0 c1 c2
    go_wp2
    refine bodyPost_ret (v := qv m t (.slice ua ys.length uc)) (by simp [results, Tryz.results134, go_sem, y0, y1, y2]) rfl ?_
    have K5 : Kp w2 (((w2.setCell ⟨w.heap.size + 1 + 1, 0, none⟩ (.int .i64 m)).setCell ⟨w.heap.size + 1 + 1, 1, none⟩ (.string t)).setCell ⟨w.heap.size + 1 + 1, 2, none⟩ (.slice ua ys.length uc)) (fun k => k = w.heap.size + 1 + 1) := ((set_kp _ _ _ _).trans (set_kp _ _ _ _)).trans (set_kp _ _ _ _)
    exact ⟨_, rfl, ((unhide O2).kp K5 (fun k hk => by have := lt2 k hk; omega)).mono (by omega), Below.kp B2 K5 B2.size (fun k hk => by omega)⟩
end Go.Proofs.YtgfboghieejbkaaGreatDoor
