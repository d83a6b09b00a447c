/- spec.Common, spec.SetOk. -/
import Derived.Test.YtkjmkcipalmonaaSpecSets
import Derived.BigQuiet
namespace Go.Proofs.Ytkjmkcipalmonaa
open Go.RowKit
set_option linter.unusedSectionVars false

theorem com_snoc (l bs : List Int) (x : Int) : comL (l ++ [x]) bs = comL l bs + (if decide (x ∈ bs) then 1 else 0) := by
  unfold comL
  rw [List.filter_append, List.length_append]
  by_cases h : x ∈ bs
  · simp [h]
  · simp [h]

variable [∀ (n : Int) (s : List Int), Decidable (OkL n s)]
theorem ok_more {n : Int} {xs : List Int} {k : Nat} (hk : k < xs.length) (h : OkL n (xs.take k)) (h0 : 0 ≤ xs.getD k 0) (h1 : xs.getD k 0 < n) (h2 : 0 < k → xs.getD (k - 1) 0 < xs.getD k 0) : OkL n (xs.take (k + 1)) := by
  rw [itake_more xs k hk]
  refine ⟨fun x hx => ?_, List.pairwise_append.2 ⟨h.2, by simp, fun x hx y hy => ?_⟩⟩
  · rcases List.mem_append.1 hx with hx | hx
    · exact h.1 x hx
    · simp at hx; subst hx; exact ⟨h0, h1⟩
  · simp at hy
    subst hy
    by_cases hk0 : 0 < k
    · have h3 := h2 hk0
      have e : xs.take k = xs.take (k - 1) ++ [xs.getD (k - 1) 0] := by
        have := itake_more xs (k - 1) (by omega)
        rwa [show k - 1 + 1 = k by omega] at this
      have hp := h.2
      rw [e] at hx hp
      rcases List.mem_append.1 hx with hx | hx
      · have := (List.pairwise_append.1 hp).2.2 x hx (xs.getD (k - 1) 0) (by simp)
        simp only [List.getD_eq_getElem?_getD] at *
        omega
      · simp at hx
        simp only [List.getD_eq_getElem?_getD] at *
        omega
    · have : k = 0 := by omega
      subst this; simp at hx
theorem ok_not {n : Int} {xs : List Int} {k : Nat} (hk : k < xs.length) (h : xs.getD k 0 < 0 ∨ n ≤ xs.getD k 0 ∨ (0 < k ∧ xs.getD k 0 ≤ xs.getD (k - 1) 0)) : ¬ OkL n xs := fun ho => by
  have hm := ho.1 _ (getD_mem_int hk)
  rcases h with h | h | ⟨h0, h⟩
  · omega
  · omega
  · have := List.pairwise_iff_getElem.1 ho.2 (k - 1) k (by omega) hk (by omega)
    rw [List.getD_eq_getElem?_getD, List.getD_eq_getElem?_getD, List.getElem?_eq_getElem hk, List.getElem?_eq_getElem (show k - 1 < xs.length by omega)] at h
    simp at h
    omega

end Go.Proofs.Ytkjmkcipalmonaa
