/- slices.Index, slices.Contains at numbers; impl.SetHas. -/
import Derived.Test.YtkjmkcipalmonaaSpecSets
namespace Go.Proofs.Ytkjmkcipalmonaa
open Go.RowKit

set_option maxHeartbeats 1600000 in
set_option maxRecDepth 100000 in
theorem index_int (v : Value) (xs : List Int) (i : Int) (w : World) (h : RI w v xs) :
    Calls Try.prog 66 #[v, .int .i64 i] w fun e w' => ∃ q : Int, e = .returned (.int .i64 q) ∧ (0 ≤ q ↔ i ∈ xs) ∧ Below w.heap.size w w' := by
  obtain ⟨ao, ca, rfl⟩ := h.form
  have hl := h.1
  have H := hide h
  obtain ⟨n, hn⟩ : ∃ n, xs.length = n := ⟨_, rfl⟩
  have Hn := hide hn
  rw [hn] at hl H ⊢
  clear h hn
  go_enter Try.func66, Try.ntmps66
  go_wp2
  go_loopw [8] (fun j wr => ∃ k : Nat, k ≤ n ∧ j = .int .i64 k ∧ Hid (∀ j, j < k → xs.getD j 0 ≠ i) ∧ Below w.heap.size w wr) (fun j _ => n - (intOf j).toNat)
  case atStart => exact ⟨0, Nat.zero_le _, rfl, hide (fun j hj => absurd hj (Nat.not_lt_zero j)), Below.refl _ _⟩
  case round =>
    obtain ⟨k, hk, rfl, HA, br⟩ := hrel
    by_cases hlt : k < n
    · have hkx : k < xs.length := by rw [unhide Hn]; exact hlt
      obtain ⟨g, off, rfl, c⟩ := ((unhide H).below br (Nat.le_refl _)).at k hkx
      have HM : Hid (xs.getD k 0 ∈ xs) := hide (by rw [List.getD_eq_getElem?_getD, List.getElem?_eq_getElem hkx]; exact List.getElem_mem hkx)
      have HS : Hid (xs.getD k 0 ≠ i → ∀ j, j < k + 1 → xs.getD j 0 ≠ i) := hide fun h j hj => by
        by_cases e : j = k
        · rw [e]; exact h
        · exact unhide HA j (by omega)
      clear HA hkx
      generalize xs.getD k 0 = x at *
      by_cases hx : x = i
      · subst hx
        clear HS
        go_wp2
        go_ret
        exact ⟨k, rfl, ⟨fun _ => unhide HM, fun _ => by omega⟩, br⟩
      · have HS := hide (unhide HS hx)
        have hx1 : (i == x) = false := by simp; omega
        have hx2 : decide (i = x) = false := by simp; omega
        clear HM
        go_wp2
        go_roundw
        case rel => exact ⟨k + 1, by omega, by go_num, HS, br⟩
        case measure => simp [intOf]; omega
    · have hkn : k = n := by omega
      have HN : Hid (i ∉ xs) := hide fun hm => by
        obtain ⟨j, hj, e⟩ := List.getElem_of_mem hm
        exact unhide HA j (by have := unhide Hn; omega) (by rw [List.getD_eq_getElem?_getD, List.getElem?_eq_getElem hj]; exact e)
      clear HA
      subst hkn
      go_wp2
      go_ret
      exact ⟨-1, rfl, ⟨fun h => by omega, fun h => absurd h (unhide HN)⟩, br⟩

set_option maxHeartbeats 400000 in
set_option maxRecDepth 100000 in
theorem contains_int (v : Value) (xs : List Int) (i : Int) (w : World) (h : RI w v xs) :
    Calls Try.prog 62 #[v, .int .i64 i] w fun e w' => e = .returned (.bool (decide (i ∈ xs))) ∧ Below w.heap.size w w' := by
  have IX := hide fun w h => index_int v xs i w h
  have H := hide h
  obtain ⟨ao, ca, rfl⟩ := h.form
  clear h
  go_enter Try.func62, Try.ntmps62
  go_wp2_with fail
  refine (unhide IX _ (unhide H)).mono ?_
  rintro e w2 ⟨q, rfl, hq, b2⟩
  have HI := hide hq
  clear hq
  go_wp2
  go_ret
  refine ⟨?_, b2⟩
  have e : decide (0 ≤ q) = decide (i ∈ xs) := by
    by_cases hA : i ∈ xs
    · rw [decide_eq_true hA, decide_eq_true ((unhide HI).2 hA)]
    · rw [decide_eq_false hA, decide_eq_false (fun h => hA ((unhide HI).1 h))]
  rw [← e]; rfl

set_option maxHeartbeats 400000 in
set_option maxRecDepth 100000 in
theorem implSetHas (v : Value) (xs : List Int) (i : Int) (w : World) (h : RI w v xs) :
    Calls Try.prog 45 #[v, .int .i64 i] w fun e w' => e = .returned (.bool (decide (i ∈ xs))) ∧ Below w.heap.size w w' := by
  have IX := hide fun w h => contains_int v xs i w h
  have H := hide h
  obtain ⟨ao, ca, rfl⟩ := h.form
  clear h
  generalize decide (i ∈ xs) = q at *
  go_enter Try.func45, Try.ntmps45
  go_wp2_with fail
  refine (unhide IX _ (unhide H)).mono ?_
  rintro e w2 ⟨rfl, b2⟩
  go_wp2
  go_ret
  exact ⟨rfl, b2⟩
end Go.Proofs.Ytkjmkcipalmonaa
