/- What FnPools asks of the answers: plain mathematics of lists. -/
import Derived.Test.YthdehhenkgkkmaaDoorBunI
import Derived.Test.YthdehhenkgkkmaaDoorSpecPayAllQ
/- What FnPools asks of the answers: plain mathematics of lists. -/
namespace Go.Proofs.YthdehhenkgkkmaaDoor
open Go.RowKit
set_option linter.unusedSectionVars false
variable [∀ (a b c d : Int), Decidable (Ok4 a b c d)]
variable [∀ (m a b c d : Int), Decidable (In4 m a b c d)]
variable [∀ (xs ys : List Int), Decidable (LOk xs ys)]
variable [∀ (x y : T4), Decidable (Bef x y)]
variable [∀ (ts : List T4), Decidable (Asc ts)]
variable [∀ (ts : List T4), Decidable (AllOk ts)]
variable [∀ (ts : List T4), Decidable (POk ts)]
variable [∀ (r : List Int × List Int × Int), Decidable (Took r)]
variable [∀ (xs ys : List Int) (x : T4), Decidable (Stays xs ys x)]

theorem add_yes {ts : List T4} {x : T4} (h : (addAns ts x).2 = true) : POk (addAns ts x).1 ∧ (addAns ts x).1.length = ts.length + 1 ∧ x ∈ (addAns ts x).1 := by
  unfold addAns at *
  by_cases hp : POk (ins ts x (pos ts x))
  · rw [if_pos hp]
    exact ⟨hp, ins_len ts x _, by unfold ins; simp⟩
  · rw [if_neg hp] at h; cases h
theorem add_no {ts : List T4} {x : T4} (h : (addAns ts x).2 = false) : (addAns ts x).1 = ts := by
  unfold addAns at *
  by_cases hp : POk (ins ts x (pos ts x))
  · rw [if_pos hp] at h; cases h
  · rw [if_neg hp]
theorem ins_twice {ts : List T4} {x : T4} {k : Nat} (hx : x ∈ ts) : ¬ POk (ins ts x k) := by
  intro h
  have ha := h.2.2
  rw [asc_pair] at ha
  unfold ins at ha
  rw [List.pairwise_append] at ha
  obtain ⟨h1, _, h3⟩ := ha
  rw [List.pairwise_append] at h1
  rw [← List.take_append_drop k ts, List.mem_append] at hx
  rcases hx with hx | hx
  · exact Bef.irrefl (h1.2.2 x hx x (by simp))
  · exact Bef.irrefl (h3 x (by simp) x hx)
theorem add_twice {ts : List T4} {x : T4} (h : (addAns ts x).2 = true) : (addAns (addAns ts x).1 x).2 = false := by
  have := (add_yes h).2.2
  generalize (addAns ts x).1 = q at *
  unfold addAns
  rw [if_neg (ins_twice this)]
/-- Each code is that of a payment that was taken. -/
def AllTook (cs : List Int) : Prop := ∀ k, k < cs.length → cs.getD k 0 = 0 ∨ cs.getD k 0 = 4
theorem took_more {cs : List Int} {c : Int} (h : AllTook cs) (hc : c = 0 ∨ c = 4) : AllTook (cs ++ [c]) := by
  intro k hk
  rw [List.length_append, List.length_singleton] at hk
  by_cases e : k < cs.length
  · rw [List.getD_eq_getElem?_getD, List.getElem?_append_left e, ← List.getD_eq_getElem?_getD]; exact h k e
  · obtain rfl : k = cs.length := by omega
    simpa using hc
theorem take_codes (xs ys : List Int) (ts : List T4) (k : Nat) (hk : k ≤ ts.length) :
    (anyRun xs ys (takeRun xs ys (ts.take k)).2).1 = (takeRun xs ys (ts.take k)).1.1 ∧ (anyRun xs ys (takeRun xs ys (ts.take k)).2).2.1 = (takeRun xs ys (ts.take k)).1.2 ∧ AllTook (anyRun xs ys (takeRun xs ys (ts.take k)).2).2.2 := by
  induction k with
  | zero => refine ⟨by simp [takeRun, anyRun], by simp [takeRun, anyRun], fun j hj => by simp [takeRun, anyRun] at hj⟩
  | succ k ih =>
    obtain ⟨h1, h2, h3⟩ := ih (by omega)
    rw [takeRun_succ xs ys ts k (by omega)]
    generalize takeRun xs ys (ts.take k) = S at *
    generalize ts.getD k z4 = x
    unfold takeStep
    split
    · exact ⟨h1, h2, h3⟩
    · dsimp only
      by_cases hT : Took (payOf S.1 x)
      · rw [if_pos hT]
        have e : anyRun xs ys (S.2 ++ [x]) = anyStep (anyRun xs ys S.2) x := by unfold anyRun; rw [List.foldl_append]; rfl
        rw [e]
        unfold anyStep
        rw [h1, h2]
        exact ⟨rfl, rfl, took_more h3 hT⟩
      · rw [if_neg hT]
        have := payAns_same S.1.1 S.1.2 x.1 x.2.1 x.2.2.1 x.2.2.2 hT
        exact ⟨h1.trans this.1.symm, h2.trans this.2.symm, h3⟩
theorem taken_codes (xs ys : List Int) (ts : List T4) : AllTook (eachAns xs ys (takeAns xs ys ts)).2.2 := by
  have := (take_codes xs ys ts ts.length (Nat.le_refl _)).2.2
  rw [List.take_of_length_le (Nat.le_refl _), anyRun_each] at this
  exact this
end Go.Proofs.YthdehhenkgkkmaaDoor
