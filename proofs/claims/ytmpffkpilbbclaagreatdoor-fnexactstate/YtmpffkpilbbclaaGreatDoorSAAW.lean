/- Lemmas; their conditions stand in each statement. -/
import Derived.Test.YtmpffkpilbbclaaGreatDoorSAAV
set_option linter.unusedSectionVars false
namespace Go.Proofs.YtmpffkpilbbclaaGreatDoor
section
open Go.RowKit
variable [∀ (a b c d : Int), Decidable (Ok4 a b c d)]
variable [∀ (a b c d : Nat), Decidable (okN a b c d)]
variable [∀ (last : Int) (s : St), Decidable (GoodSt last s)]
variable [∀ (x : T4), Decidable (OkT x)]
variable [∀ (n : Int) (s : List Int), Decidable (OkL n s)]
variable [∀ (n f : Int), Decidable (COk n f)]
theorem steps_nil : stepsAns ⟨#[]⟩ = some [] := by simp [stepsAns]
theorem view_nil : viewAns ⟨#[]⟩ = 0 := by simp [viewAns, steps_nil]
theorem view_none {s : ByteArray} (h : (stepsAns s).isSome = false) : viewAns s = 0 := by
 cases e : stepsAns s with
 | none => simp [viewAns, e]
 | some ss => rw [e] at h; cases h
theorem view_pos {s : ByteArray} (h : (stepsAns s).isSome = true) (hs : s ≠ ⟨#[]⟩) : 0 < viewAns s := by
 obtain ⟨ss, e⟩:=Option.isSome_iff_exists.1 h
 have h1:=(height_view (s:=s)).1
 unfold heightAns at h1
 rw [e] at h1
 have hne : ss ≠ []:=by
  rintro rfl
  have:=((names_iff _ _).1 e).1
  exact hs (ba_ext (by simpa [nm] using this))
 have:=List.length_pos_iff.2 hne
 simp only at h1
 omega
theorem qok_eq (n f v : Int) (s : ByteArray) (xs : List Int) : (decide (COk n f) && (alikeB v 0 s ⟨#[]⟩ xs [] || votedB n f v s xs)) = qokB n f v s xs := by
 unfold qokB votedB alikeB
 by_cases hc : COk n f
 ·simp only [hc, decide_true, Bool.true_and]
  by_cases hs : s = ⟨#[]⟩
  ·subst hs
   rw [steps_nil, view_nil]
   by_cases hv : v = 0
   ·subst hv
    simp
   have h1 : (v == 0) = false:=by simpa using hv
   have h2 : ((0 : Int) == v) = false:=by simp; omega
   simp [h1, h2, hv]
  simp only [hs, false_and, and_false, decide_false, Bool.false_or, if_false]
  cases hn : (stepsAns s).isSome with
  | false =>
   rw [view_none hn]
   by_cases hv : v = 0
   ·subst hv; simp
   ·have h1 : (v == 0) = false:=by simpa using hv
    simp [h1]
  | true =>
   have hp:=view_pos hn hs
   by_cases hv : v = viewAns s
   ·subst hv
    have h1 : decide (0 < viewAns s) = true:=by simpa using hp
    simp only [h1, beq_self_eq_true, Bool.true_and]
    rw [Bool.and_comm]
   have h1 : (v == viewAns s) = false:=by simpa using hv
   have h2 : (viewAns s == v) = false:=by simp; omega
   simp [h1, h2]
 simp [hc]
theorem implQcOk (n f v : Int) (s : ByteArray) (ao : Option Addr) (ca : Nat) (xs : List Int) (w : World) (hs : s.size ≤ 33554432) (hE : Env w) (ha : RI w (.slice ao xs.length ca) xs) :
 Calls Tryz.prog 132 #[cv n f, qv v s (.slice ao xs.length ca)] w fun e w' => e = .returned (.bool (qokB n f v s xs)) ∧ Below w.heap.size w w' := by
 have:=implQcOk_at n f v s ao ca xs w hs hE ha
 rwa [qok_eq] at this
def bokB (n f : Int) (m : ByteArray) (v : Int) (s : ByteArray) (xs : List Int) : Bool := qokB n f v s xs && decide (0 < heightAns m) && decide (upAns m = s)
theorem height_pos (m : ByteArray) : decide (0 < heightAns m) = ((stepsAns m).isSome && decide (m ≠ ⟨#[]⟩)) := by
 unfold heightAns
 cases e : stepsAns m with
 | none => simp
 | some ss =>
  have h:=((names_iff _ _).1 e).1
  by_cases hm : m = ⟨#[]⟩
  ·subst hm
   rw [steps_nil] at e
   cases e
   simp
  have hne : ss ≠ []:=by
   rintro rfl
   exact hm (ba_ext (by simpa [nm] using h))
  have:=List.length_pos_iff.2 hne
  simp [hm]
  omega
end
section
open Go.RowKit
variable [∀ (a b c d : Int), Decidable (Ok4 a b c d)]
variable [∀ (a b c d : Nat), Decidable (okN a b c d)]
variable [∀ (x : T4), Decidable (OkT x)]
theorem OT.grown {w w' : World} {base g : Nat} {v : Value} {xs : List T4} (h : OT w base v xs) (hg : w.grownBy w' (some g)) (hlt : g < base) : OT w' base v xs :=
 World.ownsRow.kept h hg (by
  cases hv : v.ownBlock with
  | none => exact .inl rfl
  | some k => exact .inr fun e => by have := (World.ownsRow.lt h k hv).1; simp at e; omega)
end
section
open Go.RowKit
variable [∀ (a b c d : Int), Decidable (Ok4 a b c d)]
variable [∀ (a b c d : Nat), Decidable (okN a b c d)]
variable [∀ (last : Int) (s : St), Decidable (GoodSt last s)]
variable [∀ (x : T4), Decidable (OkT x)]
variable [∀ (n : Int) (s : List Int), Decidable (OkL n s)]
variable [∀ (n f : Int), Decidable (COk n f)]
def inB (x : Int) : Bool := decide (0 ≤ x) && decide (x ≤ 60)
def sokB (n f vo lo v : Int) (s : ByteArray) (xs : List Int) (d : ByteArray) : Bool := inB vo && inB lo && qokB n f v s xs && (stepsAns d).isSome
theorem sok_done {n f vo lo v : Int} {s : ByteArray} {xs : List Int} {d : ByteArray} (h : sokB n f vo lo v s xs d = true) : (0 ≤ vo ∧ vo ≤ 60) ∧ (0 ≤ lo ∧ lo ≤ 60) ∧ qokB n f v s xs = true ∧ (stepsAns d).isSome = true := by
 unfold sokB inB at h
 simp only [Bool.and_eq_true, decide_eq_true_eq] at h
 obtain ⟨⟨⟨⟨a, b⟩, ⟨c, e⟩⟩, q⟩, g⟩:=h
 exact ⟨⟨a, b⟩, ⟨c, e⟩, q, g⟩
def Stays (xs : List Int) (p q : Int) : Prop := q = p ∨ (0 ≤ q ∧ q ≤ xs.length)
theorem Stays.trans {xs : List Int} {p q r : Int} (h : Stays xs p q) (k : Stays xs q r) : Stays xs p r := by unfold Stays at *; omega
theorem Kp.over {a b c : World} {X Y : Nat → Prop} (h : Kp a b X) (k : Kp b c Y) (hy : ∀ j, Y j → a.heap.size ≤ j ∨ X j) : Kp a c X :=
 ⟨k.os.trans h.os, k.tape.trans h.tape, k.output.trans h.output, Nat.le_trans h.size k.size, fun i hi hx => (k.block i (Nat.lt_of_lt_of_le hi h.size) (fun hj => by rcases hy i hj with h1 | h1 <;> first | omega | exact hx h1)).trans (h.block i hi hx)⟩
end
end Go.Proofs.YtmpffkpilbbclaaGreatDoor
