/- What payments keep: plain mathematics of lists. -/
import Derived.Test.YtlglekfmiacdnaaMovesWalk
import Derived.Test.YtlglekfmiacdnaaTotal
namespace Go.Proofs.Ytlglekfmiacdnaa
open Go.RowKit
set_option linter.unusedSectionVars false
variable [∀ (a b c d : Int), Decidable (Ok4 a b c d)]
variable [∀ (m a b c d : Int), Decidable (In4 m a b c d)]
variable [∀ (xs ys : List Int), Decidable (LOk xs ys)]

theorem tot_four {xs : List Int} (hx : xs.length = 4) (h : ∀ k, k < 4 → 0 ≤ xs.getD k 0 ∧ xs.getD k 0 ≤ 400) : tot xs = xs.getD 0 0 + xs.getD 1 0 + xs.getD 2 0 + xs.getD 3 0 := by
  match xs, hx with
  | [a, b, c, d], _ =>
    have h0 := h 0 (by omega)
    have h1 := h 1 (by omega)
    have h2 := h 2 (by omega)
    have h3 := h 3 (by omega)
    simp at h0 h1 h2 h3
    simp only [tot, List.foldl_cons, List.foldl_nil, wrap64, List.getD_cons_zero, List.getD_cons_succ]
    omega
theorem payAns_used (xs ys : List Int) (a b c d : Int) (h : (payAns xs ys a b c d).2.2 = 0 ∨ (payAns xs ys a b c d).2.2 = 4) :
    LOk xs ys ∧ Ok4 a b c d ∧ (payAns xs ys a b c d).2.1 = ys.set a.toNat (d + 1) := by
  unfold payAns at h ⊢
  split at h
  · rename_i hl
    rw [if_pos hl]
    unfold paidB at h ⊢
    split at h
    · simp at h
    · rename_i ho
      rw [if_neg ho]
      simp only [Decidable.not_not] at ho
      split at h
      · simp at h
      · rename_i h1
        rw [if_neg h1]
        split at h
        · simp at h
        · rename_i h2
          rw [if_neg h2]
          split at h
          · rename_i h3
            rw [if_pos h3]
            exact ⟨hl, ho, rfl⟩
          · rename_i h3
            rw [if_neg h3]
            split at h
            · rename_i h4
              rw [if_pos h4]
              exact ⟨hl, ho, rfl⟩
            · simp at h
  · simp at h
theorem payAns_ok {xs ys : List Int} {a b c d : Int} (h : LOk xs ys) : LOk (payAns xs ys a b c d).1 (payAns xs ys a b c d).2.1 := by
  unfold payAns; rw [if_pos h]; exact paidB_ok h
theorem payAns_again (xs ys : List Int) (a b c d : Int) (h : (payAns xs ys a b c d).2.2 = 0 ∨ (payAns xs ys a b c d).2.2 = 4) :
    (payAns (payAns xs ys a b c d).1 (payAns xs ys a b c d).2.1 a b c d).2.2 = 2 := by
  obtain ⟨hl, ho, e⟩ := payAns_used xs ys a b c d h
  have hk := payAns_ok (a := a) (b := b) (c := c) (d := d) hl
  have hy := hl.2.1
  have ho' := ho
  unfold Ok4 at ho'
  generalize hr : payAns xs ys a b c d = r at *
  unfold payAns
  rw [if_pos hk]
  unfold paidB
  rw [if_neg (by simpa using ho), if_pos (by rw [e, getD_set (by omega), if_pos rfl]; omega)]
theorem payAns_tot (xs ys : List Int) (a b c d : Int) : tot (payAns xs ys a b c d).1 = tot xs := by
  rcases payAns_kinds xs ys a b c d with h | ⟨_, _, h, _⟩ | ⟨_, h, _⟩
  · rcases payAns_done xs ys a b c d with h' | ⟨_, A, B, _, _, hA, hB, _, hl, hm, _⟩
    · exact absurd h h'
    · have hk := payAns_ok (a := a) (b := b) (c := c) (d := d) hl
      rw [tot_four hl.1 (fun k hk => (hl.2.2 k hk).1), tot_four hk.1 (fun k h => (hk.2.2 k h).1), hm 0 (by omega), hm 1 (by omega), hm 2 (by omega), hm 3 (by omega)]
      have eA : A = 0 ∨ A = 1 ∨ A = 2 ∨ A = 3 := by omega
      have eB : B = 0 ∨ B = 1 ∨ B = 2 ∨ B = 3 := by omega
      rcases eA with rfl | rfl | rfl | rfl <;> rcases eB with rfl | rfl | rfl | rfl <;> simp <;> omega
  · rw [h]
  · rw [h]
theorem payRun_tot (xs ys : List Int) (ts : List T4) (hl : LOk xs ys) (k : Nat) (h : k ≤ ts.length) : tot (payRun xs ys (ts.take k)).1 = tot xs := by
  induction k with
  | zero => simp [payRun]
  | succ k ih =>
    have hk := (payRun_inv xs ys ts hl k (by omega)).1
    rw [payRun_succ xs ys ts k (by omega)]
    show tot (paidB _ _ _ _ _ _).1 = _
    have := payAns_tot (payRun xs ys (ts.take k)).1 (payRun xs ys (ts.take k)).2.1 (ts.getD k (0, 0, 0, 0)).1 (ts.getD k (0, 0, 0, 0)).2.1 (ts.getD k (0, 0, 0, 0)).2.2.1 (ts.getD k (0, 0, 0, 0)).2.2.2
    unfold payAns at this
    rw [if_pos hk] at this
    rw [this]
    exact ih (by omega)
theorem eachAns_tot (xs ys : List Int) (ts : List T4) : tot (eachAns xs ys ts).1 = tot xs := by
  unfold eachAns
  split
  · rename_i hl
    have := payRun_tot xs ys ts hl ts.length (Nat.le_refl _)
    rwa [List.take_length] at this
  · rfl
theorem eachAns_ok {xs ys : List Int} {ts : List T4} (hl : LOk xs ys) : LOk (eachAns xs ys ts).1 (eachAns xs ys ts).2.1 := by
  unfold eachAns
  rw [if_pos hl]
  have := (payRun_inv xs ys ts hl ts.length (Nat.le_refl _)).1
  rwa [List.take_length] at this
theorem eachAns_len (xs ys : List Int) (ts : List T4) : (eachAns xs ys ts).1.length = xs.length ∧ (eachAns xs ys ts).2.1.length = ys.length ∧ (eachAns xs ys ts).2.2.length = ts.length := by
  unfold eachAns
  split
  · rename_i hl
    have := payRun_inv xs ys ts hl ts.length (Nat.le_refl _)
    rw [List.take_length] at this
    exact ⟨this.1.1.trans hl.1.symm, this.1.2.1.trans hl.2.1.symm, this.2⟩
  · simp
end Go.Proofs.Ytlglekfmiacdnaa
