/- Texts that belong together: SafePlain, Blk. -/
import Derived.Test.YtmpmedbojfjnaaaGreatDoorFSAY
import Derived.Test.YtmpmedbojfjnaaaGreatDoorFSAZ
import Derived.Test.YtmpmedbojfjnaaaGreatDoorFSAU
import Derived.Test.YtmpmedbojfjnaaaGreatDoorFSAT
namespace Go.Proofs.YtmpmedbojfjnaaaGreatDoor
open Go.RowKit
set_option linter.unusedSectionVars false
variable [∀ (a b c d : Int), Decidable (Ok4 a b c d)]
variable [∀ (a b c d : Nat), Decidable (okN a b c d)]
variable [∀ (last : Int) (s : St), Decidable (GoodSt last s)]
variable [∀ (x : T4), Decidable (OkT x)]
variable [∀ (n : Int) (s : List Int), Decidable (OkL n s)]
variable [∀ (n f : Int), Decidable (COk n f)]

def up2 (s : ByteArray) : ByteArray := upAns (upAns s)
def stB (s : ByteArray) : Bool := decide (up2 s ≠ ⟨#[]⟩) && (viewAns s - viewAns (up2 s) == 2)
def stN (s : ByteArray) : ByteArray := if stB s = true then up2 s else ⟨#[]⟩
theorem up_none {s : ByteArray} (h : stepsAns s = none) : upAns s = ⟨#[]⟩ := by
 unfold upAns; rw [h]; rfl
theorem up_nil : upAns ⟨#[]⟩ = ⟨#[]⟩ := by unfold upAns; rw [steps_nil]; rfl
theorem up_size {s : ByteArray} : (upAns s).size ≤ 1920 := by
 cases h : stepsAns s with
 | none => rw [up_none h]; exact Nat.zero_le _
 | some ss => exact name_len (by rw [up_steps h]; rfl)
theorem up2_size {s : ByteArray} : (up2 s).size ≤ 1920 := up_size
theorem stN_size {s : ByteArray} : (stN s).size ≤ 1920 := by
 unfold stN; split
 ·exact up2_size
 ·exact Nat.zero_le _
theorem up_some (s : ByteArray) : (stepsAns (upAns s)).isSome = true := by
 cases h : stepsAns s with
 | none => rw [up_none h, steps_nil]; rfl
 | some ss => rw [up_steps h]; rfl
theorem up2_some (s : ByteArray) : (stepsAns (up2 s)).isSome = true := up_some _
theorem view_steps {s : ByteArray} {ss : List St} (h : stepsAns s = some ss) : viewAns s = (ss.getLast?.map (·.1)).getD 0 := by unfold viewAns; rw [h]; rfl
theorem st_none {s : ByteArray} (h : stepsAns s = none) : stB s = false := by
 unfold stB up2; rw [up_none h, up_nil]; simp
theorem st_few {s : ByteArray} {ss : List St} (h : stepsAns s = some ss) (hl : ss.length < 3) : stB s = false := by
 have h2 := up_steps (up_steps h)
 have he : ss.dropLast.dropLast = [] := List.length_eq_zero_iff.1 (by simp; omega)
 rw [he] at h2
 have : up2 s = ⟨#[]⟩ := ba_ext (by have := ((names_iff _ _).1 h2).1; simpa [nm, up2] using this)
 unfold stB; rw [this]; simp
theorem st_three {s : ByteArray} {tt : List St} {a b c : St} (h : stepsAns s = some (tt ++ [a, b, c])) : stB s = (c.1 == b.1 + 1 && b.1 == a.1 + 1) := by
 have h2 := up_steps (up_steps h)
 have e : (tt ++ [a, b, c]).dropLast.dropLast = tt ++ [a] := by
  rw [show tt ++ [a, b, c] = (tt ++ [a, b]) ++ [c] by simp, List.dropLast_concat, show tt ++ [a, b] = (tt ++ [a]) ++ [b] by simp, List.dropLast_concat]
 rw [e] at h2
 have hne : up2 s ≠ ⟨#[]⟩ := by
  intro e0
  unfold up2 at e0
  rw [e0, steps_nil] at h2
  simp at h2
 have ok := ((names_iff _ _).1 h).2.2.2
 rw [List.pairwise_append] at ok
 have hw := ok.2.1
 simp only [List.pairwise_cons, List.mem_cons, List.not_mem_nil, or_false] at hw
 have h1 := hw.1 b (.inl rfl)
 have h3 := hw.2.1 c rfl
 have v1 : viewAns s = c.1 := by rw [view_steps h]; simp
 have v2 : viewAns (up2 s) = a.1 := by unfold up2; rw [view_steps h2]; simp
 unfold stB
 rw [v1, v2, decide_eq_true hne, Bool.true_and, Bool.eq_iff_iff]
 simp only [Bool.and_eq_true, beq_iff_eq]
 omega
theorem last3 {ss : List St} (h : 3 ≤ ss.length) : ∃ tt, ss = tt ++ [ss.getD (ss.length - 3) zst, ss.getD (ss.length - 2) zst, ss.getD (ss.length - 1) zst] := by
 refine ⟨ss.take (ss.length - 3), ?_⟩
 conv => lhs; rw [← List.take_append_drop (ss.length - 3) ss]
 congr 1
 have d : ∀ k, k < ss.length → ss.drop k = ss.getD k zst :: ss.drop (k + 1) := fun k hk => by
  rw [List.drop_eq_getElem_cons hk, List.getD_eq_getElem?_getD, List.getElem?_eq_getElem hk]; rfl
 rw [d _ (by omega), d _ (by omega), d _ (by omega), show ss.length - 3 + 1 = ss.length - 2 by omega, show ss.length - 2 + 1 = ss.length - 1 by omega, List.drop_of_length_le (by omega)]
theorem st_last {s : ByteArray} {ss : List St} (h : stepsAns s = some ss) (hl : 3 ≤ ss.length) : stB s = ((ss.getD (ss.length - 1) zst).1 == (ss.getD (ss.length - 2) zst).1 + 1 && (ss.getD (ss.length - 2) zst).1 == (ss.getD (ss.length - 3) zst).1 + 1) := by
 obtain ⟨tt, e⟩ := last3 hl
 generalize ss.getD (ss.length - 1) zst = c at *
 generalize ss.getD (ss.length - 2) zst = b at *
 generalize ss.getD (ss.length - 3) zst = a at *
 rw [e] at h
 exact st_three h
theorem st_has {s : ByteArray} (h : stB s = true) : extB s (stN s) = true ∧ heightAns (stN s) = heightAns s - 2 := by
 cases e : stepsAns s with
 | none => rw [st_none e] at h; cases h
 | some ss =>
  have hl : 3 ≤ ss.length := by
   rcases Nat.lt_or_ge ss.length 3 with hl | hl
   ·rw [st_few e hl] at h; cases h
   ·exact hl
  have h2 := up_steps (up_steps e)
  have en : stN s = up2 s := by unfold stN; rw [if_pos h]
  rw [en]
  refine ⟨(extB_iff _ _).2 ⟨ss, _, e, h2, (List.dropLast_prefix _).trans (List.dropLast_prefix _)⟩, ?_⟩
  unfold heightAns up2
  rw [h2, e]
  simp
  omega
theorem ext_me {s : ByteArray} (h : (stepsAns s).isSome = true) : extB s s = true := by
 obtain ⟨ss, e⟩ := Option.isSome_iff_exists.1 h
 exact (extB_iff _ _).2 ⟨ss, ss, e, e, List.prefix_refl _⟩
theorem view_le (s : ByteArray) : 0 ≤ viewAns s ∧ viewAns s ≤ 60 := by
 refine ⟨?_, (height_view (s := s)).2.2⟩
 cases e : stepsAns s with
 | none => rw [view_none (by rw [e]; rfl)]; exact Int.le_refl _
 | some ss =>
  have := (height_view (s := s)).1
  unfold heightAns at this
  rw [e] at this
  simp only at this
  omega

def inB (x : Int) : Bool := decide (0 ≤ x) && decide (x ≤ 60)
def sokB (n f vo lo v : Int) (s : ByteArray) (xs : List Int) (d : ByteArray) : Bool := inB vo && inB lo && qokB n f v s xs && (stepsAns d).isSome
def ssamB (vo lo v : Int) (s : ByteArray) (xs : List Int) (d : ByteArray) (vo' lo' v' : Int) (s' : ByteArray) (xs' : List Int) (d' : ByteArray) : Bool := (vo == vo') && (lo == lo') && alikeB v v' s s' xs xs' && decide (d = d')
theorem ssam_me (vo lo v : Int) (s : ByteArray) (xs : List Int) (d : ByteArray) : ssamB vo lo v s xs d vo lo v s xs d = true := by simp [ssamB, alikeB]
def goB (n f vo lo v : Int) (s : ByteArray) (xs : List Int) (d : ByteArray) (v' : Int) (s' : ByteArray) (ys : List Int) : Bool := sokB n f vo lo v s xs d && qokB n f v' s' ys
def lockOf (lo : Int) (s' : ByteArray) : Int := if lo < viewAns (upAns s') then viewAns (upAns s') else lo
def doneOf (d s' : ByteArray) : ByteArray := if (stB s' && extB (up2 s') d) = true then up2 s' else d
def seeL (g : Bool) (lo : Int) (s' : ByteArray) : Int := if g = true then lockOf lo s' else lo
def seeV (g : Bool) (v v' : Int) : Int := if g = true then (if v < v' then v' else v) else v
def seeS (g : Bool) (v v' : Int) (s s' : ByteArray) : ByteArray := if g = true then (if v < v' then s' else s) else s
def seeX (g : Bool) (v v' : Int) (xs ys : List Int) : List Int := if g = true then (if v < v' then ys else xs) else xs
def seeD (g : Bool) (d s' : ByteArray) : ByteArray := if g = true then doneOf d s' else d
def mayB (n f vo lo v : Int) (s : ByteArray) (xs : List Int) (d m : ByteArray) (v' : Int) (s' : ByteArray) (ys : List Int) : Bool := sokB n f vo lo v s xs d && bokB n f m v' s' ys && decide (vo < viewAns m) && decide (lo ≤ v')
def votV (g : Bool) (vo : Int) (m : ByteArray) : Int := if g = true then viewAns m else vo
theorem sok_done {n f vo lo v : Int} {s : ByteArray} {xs : List Int} {d : ByteArray} (h : sokB n f vo lo v s xs d = true) : (0 ≤ vo ∧ vo ≤ 60) ∧ (0 ≤ lo ∧ lo ≤ 60) ∧ qokB n f v s xs = true ∧ (stepsAns d).isSome = true := by
 unfold sokB inB at h
 simp only [Bool.and_eq_true, decide_eq_true_eq] at h
 obtain ⟨⟨⟨⟨a, b⟩, ⟨c, e⟩⟩, q⟩, g⟩ := h
 exact ⟨⟨a, b⟩, ⟨c, e⟩, q, g⟩
theorem sok_mk {n f vo lo v : Int} {s : ByteArray} {xs : List Int} {d : ByteArray} (h1 : 0 ≤ vo) (h2 : vo ≤ 60) (h3 : 0 ≤ lo) (h4 : lo ≤ 60) (h5 : qokB n f v s xs = true) (h6 : (stepsAns d).isSome = true) : sokB n f vo lo v s xs d = true := by
 simp [sokB, inB, h1, h2, h3, h4, h5, h6]
theorem lock_le (lo : Int) (s' : ByteArray) : lo ≤ lockOf lo s' ∧ (lo ≤ 60 → lockOf lo s' ≤ 60) := by
 have := view_le (upAns s')
 unfold lockOf; split <;> omega
theorem see_ok {n f vo lo v : Int} {s : ByteArray} {xs : List Int} {d : ByteArray} {v' : Int} {s' : ByteArray} {ys : List Int} (g : Bool) (hg : goB n f vo lo v s xs d v' s' ys = g) (h : sokB n f vo lo v s xs d = true) : sokB n f vo (seeL g lo s') (seeV g v v') (seeS g v v' s s') (seeX g v v' xs ys) (seeD g d s') = true := by
 cases g with
 | false => simpa [seeL, seeV, seeS, seeX, seeD] using h
 | true =>
  obtain ⟨h1, h2, h3, h4⟩ := sok_done h
  have hq : qokB n f v' s' ys = true := by unfold goB at hg; simp only [Bool.and_eq_true] at hg; exact hg.2
  have hl := lock_le lo s'
  refine sok_mk h1.1 h1.2 ?_ ?_ ?_ ?_
  ·show 0 ≤ lockOf lo s'; omega
  ·exact hl.2 h2.2
  ·unfold seeV seeS seeX; simp only [if_true]; split
   ·exact hq
   ·exact h3
  ·show (stepsAns (doneOf d s')).isSome = true
   unfold doneOf; split
   ·exact up2_some _
   ·exact h4
theorem see_on {n f vo lo v : Int} {s : ByteArray} {xs : List Int} {d : ByteArray} {v' : Int} {s' : ByteArray} {ys : List Int} (h : goB n f vo lo v s xs d v' s' ys = true) :
 lo ≤ lockOf lo s' ∧ v ≤ (if v < v' then v' else v) ∧ v' ≤ (if v < v' then v' else v) ∧ extB (doneOf d s') d = true ∧ goB n f vo (lockOf lo s') (if v < v' then v' else v) (if v < v' then s' else s) (if v < v' then ys else xs) (doneOf d s') v' s' ys = true := by
 have hh := h
 unfold goB at hh
 simp only [Bool.and_eq_true] at hh
 obtain ⟨h1, h2⟩ := hh
 have hd := (sok_done h1).2.2.2
 refine ⟨(lock_le lo s').1, by split <;> omega, by split <;> omega, ?_, ?_⟩
 ·unfold doneOf
  by_cases hc : (stB s' && extB (up2 s') d) = true
  ·rw [if_pos hc]; simp only [Bool.and_eq_true] at hc; exact hc.2
  ·rw [if_neg hc]; exact ext_me hd
 ·have := see_ok true h h1
  unfold goB
  simp only [seeL, seeV, seeS, seeX, seeD, if_true] at this
  rw [this, h2]; rfl
theorem see_twice (lo v : Int) (d : ByteArray) (v' : Int) (s' : ByteArray) :
 lockOf (lockOf lo s') s' = lockOf lo s' ∧ (¬ (if v < v' then v' else v) < v') ∧ doneOf (doneOf d s') s' = doneOf d s' := by
 refine ⟨by unfold lockOf; split <;> (try split) <;> omega, by split <;> omega, ?_⟩
 by_cases hc : (stB s' && extB (up2 s') d) = true
 ·have e : doneOf d s' = up2 s' := by unfold doneOf; rw [if_pos hc]
  rw [e]; unfold doneOf; split <;> rfl
 ·have e : doneOf d s' = d := by unfold doneOf; rw [if_neg hc]
  rw [e, e]
theorem may_has {n f vo lo v : Int} {s : ByteArray} {xs : List Int} {d m : ByteArray} {v' : Int} {s' : ByteArray} {ys : List Int} (h : mayB n f vo lo v s xs d m v' s' ys = true) : vo < viewAns m := by
 unfold mayB at h
 simp only [Bool.and_eq_true, decide_eq_true_eq] at h
 exact h.1.2
theorem may_again (n f lo v : Int) (s : ByteArray) (xs : List Int) (d m : ByteArray) (v' : Int) (s' : ByteArray) (ys : List Int) : mayB n f (viewAns m) lo v s xs d m v' s' ys = false := by
 unfold mayB; simp
theorem safe_done {n f vo lo v : Int} {s : ByteArray} {xs : List Int} {d : ByteArray} {v' : Int} {s' : ByteArray} {ys : List Int} (hg : goB n f vo lo v s xs d v' s' ys = true) :
 sokB n f vo (seeL true lo s') (seeV true v v') (seeS true v v' s s') (seeX true v v' xs ys) (seeD true d s') = true ∧ lo ≤ seeL true lo s' ∧ v ≤ seeV true v v' ∧ v' ≤ seeV true v v' ∧ extB (seeD true d s') d = true ∧
 goB n f vo (seeL true lo s') (seeV true v v') (seeS true v v' s s') (seeX true v v' xs ys) (seeD true d s') v' s' ys = true ∧
 seeL true (seeL true lo s') s' = seeL true lo s' ∧ seeV true (seeV true v v') v' = seeV true v v' ∧ seeS true (seeV true v v') v' (seeS true v v' s s') s' = seeS true v v' s s' ∧ seeX true (seeV true v v') v' (seeX true v v' xs ys) ys = seeX true v v' xs ys ∧ seeD true (seeD true d s') s' = seeD true d s' := by
 have h1 : sokB n f vo lo v s xs d = true := by unfold goB at hg; simp only [Bool.and_eq_true] at hg; exact hg.1
 obtain ⟨a1, a2, a3, a4, a5⟩ := see_on hg
 obtain ⟨t1, t2, t3⟩ := see_twice lo v d v' s'
 refine ⟨see_ok true hg h1, a1, a2, a3, a4, a5, t1, ?_, ?_, ?_, t3⟩
 ·show (if (if v < v' then v' else v) < v' then v' else _) = _; rw [if_neg t2]
 ·show (if (if v < v' then v' else v) < v' then s' else _) = _; rw [if_neg t2]
 ·show (if (if v < v' then v' else v) < v' then ys else _) = _; rw [if_neg t2]
end Go.Proofs.YtmpmedbojfjnaaaGreatDoor
namespace Go.Proofs.YtmpmedbojfjnaaaGreatDoor
open Go.RowKit

abbrev bv (m : ByteArray) (n : Int) (s : ByteArray) (v : Value) : Value := .agg #[.string m, .int .i64 n, .string s, v]

theorem Kp.same (w : World) (X : Nat → Prop) : Kp w w X := Below.kpOf (Below.refl w.heap.size w) X
theorem Kp.put {a b : World} {X : Nat → Prop} (h : Kp a b X) {g : Nat} (hg : X g) (j : Nat) (v : Value) : Kp a (b.setCell ⟨g, j, none⟩ v) X := h.trans ((set_kp _ _ _ _).mono fun _ e => e ▸ hg)
abbrev zb : Array Value := #[.string ⟨#[]⟩, .int .i64 0, .string ⟨#[]⟩, .slice none 0 0]
theorem kp4 (w : World) (g : Nat) (a b c d : Value) : Kp w ((((w.setCell ⟨g, 0, none⟩ a).setCell ⟨g, 1, none⟩ b).setCell ⟨g, 2, none⟩ c).setCell ⟨g, 3, none⟩ d) (fun k => k = g) :=
 (((set_kp _ _ _ _).trans (set_kp _ _ _ _)).trans (set_kp _ _ _ _)).trans (set_kp _ _ _ _)
theorem Loc.set4 {w : World} {g : Nat} {x y z u : Value} (h : Loc w g #[x, y, z, u]) (a b c d : Value) : Loc ((((w.setCell ⟨g, 0, none⟩ a).setCell ⟨g, 1, none⟩ b).setCell ⟨g, 2, none⟩ c).setCell ⟨g, 3, none⟩ d) g #[a, b, c, d] :=
 (((h.set 0 a (cs' := #[a, y, z, u]) rfl).set 1 b (cs' := #[a, b, z, u]) rfl).set 2 c (cs' := #[a, b, c, u]) rfl).set 3 d (cs' := #[a, b, c, d]) rfl
end Go.Proofs.YtmpmedbojfjnaaaGreatDoor
