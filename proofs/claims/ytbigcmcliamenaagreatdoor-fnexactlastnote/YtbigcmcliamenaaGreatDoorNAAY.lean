/- Texts that belong together: DrawSets, FromL, QcPlain, DrawTx, DrawName, SafePlain. -/
import Derived.Test.YtbigcmcliamenaaGreatDoorNAAF
import Derived.Test.YtbigcmcliamenaaGreatDoorNAAE
import Derived.Test.YtbigcmcliamenaaGreatDoorNAAA
import Derived.Laws.Bits128
import Derived.Test.YtbigcmcliamenaaGreatDoorNAAT
import Derived.Test.YtbigcmcliamenaaGreatDoorNAAB
import Derived.Test.YtbigcmcliamenaaGreatDoorNAAW
import Derived.Test.YtbigcmcliamenaaGreatDoorNAAX
import Derived.Test.YtbigcmcliamenaaGreatDoorNAAO
import Derived.Deep.RegionHeld3
import Derived.Deep.DeepCutAuto
import Derived.Test.YtbigcmcliamenaaGreatDoorNAAS
import Derived.Lib.ItoaLen
import Derived.Test.YtbigcmcliamenaaGreatDoorNAAU
namespace Go.Proofs.YtbigcmcliamenaaGreatDoor
open Go.RowKit

structure SCode (w : World) (ao : Option Addr) (xs : List Int) : Prop where
 len : xs.length ≤ 1048576
 code : xs = [] ∨ ∃ b off, ao = some ⟨b, off, none⟩ ∧ ∀ k, k < xs.length → w.cell? ⟨b, off + k, none⟩ = some (.int .u8 (xs.getD k 0))
 fit : ∀ k, k < xs.length → 0 ≤ xs.getD k 0 ∧ xs.getD k 0 ≤ 255
theorem SCode.below {w w' : World} {ao : Option Addr} {xs : List Int} (h : SCode w ao xs) (hb : Below w.heap.size w w') : SCode w' ao xs := by
 refine ⟨h.len, ?_, h.fit⟩
 rcases h.code with h' | ⟨b, off, ha, hx⟩
 ·exact .inl h'
 ·exact .inr ⟨b, off, ha, fun k hk => (hb.cell (p := ⟨b, off + k, none⟩) (cell_lt (hx k hk))).trans (hx k hk)⟩

theorem WfL.sub {xs ys : List Int} (h : WfL xs) (hs : ∀ y ∈ ys, y ∈ xs) : WfL ys := fun y hy => h y (hs y hy)
end Go.Proofs.YtbigcmcliamenaaGreatDoor
namespace Go.Proofs.YtbigcmcliamenaaGreatDoor
open Go.RowKit
set_option linter.unusedSectionVars false
variable [∀ (a b c d : Int), Decidable (Ok4 a b c d)]
variable [∀ (a b c d : Nat), Decidable (okN a b c d)]
variable [∀ (last : Int) (s : St), Decidable (GoodSt last s)]
variable [∀ (x : T4), Decidable (OkT x)]
variable [∀ (n : Int) (s : List Int), Decidable (OkL n s)]
variable [∀ (n f : Int), Decidable (COk n f)]

theorem steps_nil : stepsAns ⟨#[]⟩ = some [] := by simp [stepsAns]
theorem view_nil : viewAns ⟨#[]⟩ = 0 := by simp [viewAns, steps_nil]
theorem view_none {s : ByteArray} (h : (stepsAns s).isSome = false) : viewAns s = 0 := by
 cases e : stepsAns s with
 | none => simp [viewAns, e]
 | some ss => rw [e] at h; cases h
theorem view_pos {s : ByteArray} (h : (stepsAns s).isSome = true) (hs : s ≠ ⟨#[]⟩) : 0 < viewAns s := by
 obtain ⟨ss, e⟩ := Option.isSome_iff_exists.1 h
 have h1 := (height_view (s := s)).1
 unfold heightAns at h1
 rw [e] at h1
 have hne : ss ≠ [] := by
  rintro rfl
  have := ((names_iff _ _).1 e).1
  exact hs (ba_ext (by simpa [nm] using this))
 have := List.length_pos_iff.2 hne
 simp only at h1
 omega
theorem qok_eq (n f v : Int) (s : ByteArray) (xs : List Int) : (decide (COk n f) && (alikeB v 0 s ⟨#[]⟩ xs [] || votedB n f v s xs)) = qokB n f v s xs := by
 unfold qokB votedB alikeB
 by_cases hc : COk n f
 ·simp only [hc, decide_true, Bool.true_and]
  by_cases hs : s = ⟨#[]⟩
  ·subst hs
   rw [steps_nil, view_nil]
   by_cases hv : v = 0
   ·subst hv
    simp
   ·have h1 : (v == 0) = false := by simpa using hv
    have h2 : ((0 : Int) == v) = false := by simp; omega
    simp [h1, h2, hv]
  ·simp only [hs, false_and, and_false, decide_false, Bool.false_or, if_false]
   cases hn : (stepsAns s).isSome with
   | false =>
    rw [view_none hn]
    by_cases hv : v = 0
    ·subst hv; simp
    ·have h1 : (v == 0) = false := by simpa using hv
     simp [h1]
   | true =>
    have hp := view_pos hn hs
    by_cases hv : v = viewAns s
    ·subst hv
     have h1 : decide (0 < viewAns s) = true := by simpa using hp
     simp only [h1, beq_self_eq_true, Bool.true_and]
     rw [Bool.and_comm]
    ·have h1 : (v == viewAns s) = false := by simpa using hv
     have h2 : (viewAns s == v) = false := by simp; omega
     simp [h1, h2]
 ·simp [hc]
theorem implQcOk (n f v : Int) (s : ByteArray) (ao : Option Addr) (ca : Nat) (xs : List Int) (w : World) (hs : s.size ≤ 33554432) (hE : Env w) (ha : RI w (.slice ao xs.length ca) xs) :
 Calls Tryz.prog 71 #[cv n f, qv v s (.slice ao xs.length ca)] w fun e w' => e = .returned (.bool (qokB n f v s xs)) ∧ Below w.heap.size w w' := by
 have := implQcOk_at n f v s ao ca xs w hs hE ha
 rwa [qok_eq] at this

theorem qok_has {n f v : Int} {s : ByteArray} {xs : List Int} (h : qokB n f v s xs = true) (hs : s ≠ ⟨#[]⟩) : COk n f ∧ OkL n xs ∧ n - (n - 1) / 3 ≤ (xs.length : Int) := by
 unfold qokB at h
 simp only [hs, if_false, Bool.and_eq_true, decide_eq_true_eq] at h
 obtain ⟨⟨⟨hc, _⟩, _⟩, ho, hl⟩ := h
 exact ⟨hc, ho, by simpa [quorumOf, hc] using hl⟩
end Go.Proofs.YtbigcmcliamenaaGreatDoor
namespace Go.Proofs.YtbigcmcliamenaaGreatDoor
open Go.RowKit
set_option linter.unusedSectionVars false
variable [∀ (a b c d : Int), Decidable (Ok4 a b c d)]
variable [∀ (a b c d : Nat), Decidable (okN a b c d)]
variable [∀ (x : T4), Decidable (OkT x)]

theorem Cur.set {w : World} {base g ca : Nat} {ao : Option Addr} {xs : List Int} (h : Cur w base g ao ca xs) {r : Nat} (hr : g < r) (j : Nat) (v : Value) : Cur (w.setCell ⟨r, j, none⟩ v) base g ao ca xs :=
 h.grownNew (set_grown w r j v) (fun k e => by simp at e; omega)

theorem OT.grown {w w' : World} {base g : Nat} {v : Value} {xs : List T4} (h : OT w base v xs) (hg : w.grownBy w' (some g)) (hlt : g < base) : OT w' base v xs :=
 World.ownsRow.kept h hg (by
  cases hv : v.ownBlock with
  | none => exact .inl rfl
  | some k => exact .inr fun e => by have := (World.ownsRow.lt h k hv).1; simp at e; omega)
end Go.Proofs.YtbigcmcliamenaaGreatDoor
namespace Go.Proofs.YtbigcmcliamenaaGreatDoor
open Go.RowKit
set_option linter.unusedSectionVars false
variable [∀ (a b c d : Int), Decidable (Ok4 a b c d)]
variable [∀ (a b c d : Nat), Decidable (okN a b c d)]
variable [∀ (x : T4), Decidable (OkT x)]
variable [∀ (last : Int) (s : St), Decidable (GoodSt last s)]

theorem nm_len (ss : List St) (h : ∀ s ∈ ss, OkSt s) : (nm ss).length ≤ ss.length * 64 := by
 induction ss with
 | nil => simp [nm]
 | cons s ss ih =>
  have h1 := h s (by simp)
  have h2 := ih fun x hx => h x (by simp [hx])
  have h3 := txsT_len2 s.2 h1.2.1
  have h4 := nDigits_six s.1.toNat (by have := h1.1; omega)
  have e : nm (s :: ss) = 47 :: stText s ++ nm ss := by simp [nm]
  rw [e, List.length_append, List.length_cons, List.length_cons]
  unfold stText
  rw [List.length_append, List.length_cons, Lib.decDigits_length]
  have e2 : (txsT s.2).data.toList.length = (txsT s.2).size := by simp
  omega
theorem name_len {s : ByteArray} (h : (stepsAns s).isSome = true) : s.size ≤ 1920 := by
 cases hs : stepsAns s with
 | none => rw [hs] at h; cases h
 | some ss =>
  obtain ⟨h1, h2⟩ := (names_iff _ _).1 hs
  have h3 := nm_len ss h2.2.1
  have h4 := h2.1
  have e : s.size = s.data.toList.length := by simp
  rw [e, h1]; omega
end Go.Proofs.YtbigcmcliamenaaGreatDoor
namespace Go.Proofs.YtbigcmcliamenaaGreatDoor
open Go.RowKit
set_option linter.unusedSectionVars false
variable [∀ (a b c d : Int), Decidable (Ok4 a b c d)]
variable [∀ (a b c d : Nat), Decidable (okN a b c d)]
variable [∀ (last : Int) (s : St), Decidable (GoodSt last s)]
variable [∀ (x : T4), Decidable (OkT x)]
variable [∀ (n : Int) (s : List Int), Decidable (OkL n s)]
variable [∀ (n f : Int), Decidable (COk n f)]

theorem view_le (s : ByteArray) : 0 ≤ viewAns s ∧ viewAns s ≤ 60 := by
 refine ⟨?_, (height_view (s := s)).2.2⟩
 cases e : stepsAns s with
 | none => rw [view_none (by rw [e]; rfl)]; exact Int.le_refl _
 | some ss =>
  have := (height_view (s := s)).1
  unfold heightAns at this
  rw [e] at this
  simp only at this
  omega

def inB (x : Int) : Bool := decide (0 ≤ x) && decide (x ≤ 60)
def sokB (n f vo lo v : Int) (s : ByteArray) (xs : List Int) (d : ByteArray) : Bool := inB vo && inB lo && qokB n f v s xs && (stepsAns d).isSome
theorem sok_done {n f vo lo v : Int} {s : ByteArray} {xs : List Int} {d : ByteArray} (h : sokB n f vo lo v s xs d = true) : (0 ≤ vo ∧ vo ≤ 60) ∧ (0 ≤ lo ∧ lo ≤ 60) ∧ qokB n f v s xs = true ∧ (stepsAns d).isSome = true := by
 unfold sokB inB at h
 simp only [Bool.and_eq_true, decide_eq_true_eq] at h
 obtain ⟨⟨⟨⟨a, b⟩, ⟨c, e⟩⟩, q⟩, g⟩ := h
 exact ⟨⟨a, b⟩, ⟨c, e⟩, q, g⟩
end Go.Proofs.YtbigcmcliamenaaGreatDoor
