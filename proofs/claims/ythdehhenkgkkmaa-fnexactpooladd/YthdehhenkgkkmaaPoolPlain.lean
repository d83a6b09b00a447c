/- Where a payment stands in a pool: plain mathematics of lists. -/
import Derived.Test.YthdehhenkgkkmaaPoolOk
namespace Go.Proofs.Ythdehhenkgkkmaa
open Go.RowKit
set_option linter.unusedSectionVars false
variable [∀ (a b c d : Int), Decidable (Ok4 a b c d)]
variable [∀ (m a b c d : Int), Decidable (In4 m a b c d)]
variable [∀ (xs ys : List Int), Decidable (LOk xs ys)]
variable [∀ (x y : T4), Decidable (Bef x y)]
variable [∀ (ts : List T4), Decidable (Asc ts)]
variable [∀ (ts : List T4), Decidable (AllOk ts)]
variable [∀ (ts : List T4), Decidable (POk ts)]

/-- How many stand ahead of x, from the left. -/
def pos : List T4 → T4 → Nat
  | [], _ => 0
  | t :: ts, x => if Bef t x then pos ts x + 1 else 0
/-- With x at place k. -/
def ins (ts : List T4) (x : T4) (k : Nat) : List T4 := ts.take k ++ [x] ++ ts.drop k
/-- What PoolAdd answers. -/
def addAns (ts : List T4) (x : T4) : List T4 × Bool := if POk (ins ts x (pos ts x)) then (ins ts x (pos ts x), true) else (ts, false)
theorem pos_le (ts : List T4) (x : T4) : pos ts x ≤ ts.length := by
  induction ts with
  | nil => simp [pos]
  | cons t ts ih => rw [pos]; split <;> simp; omega
theorem pos_lt (ts : List T4) (x : T4) (j : Nat) (h : j < pos ts x) : Bef (ts.getD j z4) x := by
  induction ts generalizing j with
  | nil => simp [pos] at h
  | cons t ts ih =>
    rw [pos] at h
    split at h
    · rename_i hb
      cases j with
      | zero => exact hb
      | succ j => exact ih j (by omega)
    · omega
theorem pos_ge (ts : List T4) (x : T4) (h : pos ts x < ts.length) : ¬ Bef (ts.getD (pos ts x) z4) x := by
  induction ts with
  | nil => simp at h
  | cons t ts ih =>
    rw [pos] at h ⊢
    split at h
    · rename_i hb
      rw [if_pos hb]
      exact ih (by simpa using h)
    · rename_i hb
      rw [if_neg hb]
      exact hb
theorem pos_is (ts : List T4) (x : T4) (k : Nat) (hk : k ≤ ts.length) (h1 : ∀ j, j < k → Bef (ts.getD j z4) x) (h2 : k < ts.length → ¬ Bef (ts.getD k z4) x) : pos ts x = k := by
  rcases Nat.lt_trichotomy (pos ts x) k with h | h | h
  · exact absurd (h1 _ h) (pos_ge ts x (by omega))
  · exact h
  · exact absurd (pos_lt ts x k h) (h2 (by have := pos_le ts x; omega))
theorem ins_len (ts : List T4) (x : T4) (k : Nat) : (ins ts x k).length = ts.length + 1 := by
  unfold ins; simp; omega
theorem asc_cons {t u : T4} {ts : List T4} : Asc (t :: u :: ts) ↔ Bef t u ∧ Asc (u :: ts) := by
  unfold Asc
  constructor
  · intro h
    refine ⟨h 0 (by simp), fun k hk => ?_⟩
    have := h (k + 1) (by simp at hk ⊢; omega)
    simpa using this
  · rintro ⟨h1, h2⟩ k hk
    cases k with
    | zero => exact h1
    | succ k =>
      have := h2 k (by simp at hk ⊢; omega)
      simpa using this
theorem asc_pair (ts : List T4) : Asc ts ↔ ts.Pairwise Bef := by
  induction ts with
  | nil => simp [Asc]
  | cons t ts ih =>
    cases ts with
    | nil => simp [Asc]
    | cons u ts =>
      rw [asc_cons, ih]
      constructor
      · rintro ⟨h1, h2⟩
        refine List.Pairwise.cons ?_ h2
        intro v hv
        rcases List.mem_cons.1 hv with rfl | hv
        · exact h1
        · exact h1.trans ((List.pairwise_cons.1 h2).1 v hv)
      · intro h
        obtain ⟨h1, h2⟩ := List.pairwise_cons.1 h
        exact ⟨h1 u (by simp), h2⟩
theorem asc_ins {ts : List T4} {x : T4} {k : Nat} (h : Asc (ins ts x k)) : Asc ts := by
  rw [asc_pair] at *
  refine h.sublist ?_
  unfold ins
  conv => lhs; rw [← List.take_append_drop k ts]
  rw [List.append_assoc]
  exact List.Sublist.append (List.Sublist.refl _) (List.sublist_append_right _ _)
theorem asc_lt {ts : List T4} (h : Asc ts) {i j : Nat} (hij : i < j) (hj : j < ts.length) : Bef (ts.getD i z4) (ts.getD j z4) := by
  rw [asc_pair, List.pairwise_iff_getElem] at h
  have := h i j (by omega) hj hij
  rw [List.getD_eq_getElem?_getD, List.getD_eq_getElem?_getD, List.getElem?_eq_getElem hj, List.getElem?_eq_getElem (show i < ts.length by omega)]
  exact this
/-- A place that a search may come to. -/
def Place (ts : List T4) (x : T4) (k : Nat) : Prop := k ≤ ts.length ∧ (∀ i, k = i + 1 → Bef (ts.getD i z4) x) ∧ (k < ts.length → ¬ Bef (ts.getD k z4) x)
theorem place_pos {ts : List T4} {x : T4} {k : Nat} (ha : Asc ts) (h : Place ts x k) : pos ts x = k := by
  obtain ⟨h0, h1, h2⟩ := h
  refine pos_is ts x k h0 (fun j hj => ?_) h2
  obtain ⟨i, rfl⟩ : ∃ i, k = i + 1 := ⟨k - 1, by omega⟩
  by_cases e : j = i
  · subst e; exact h1 j rfl
  · exact (asc_lt ha (show j < i by omega) (by omega)).trans (h1 i rfl)
/-- Wherever a search comes to: the answer is the same. -/
theorem place_ans {ts : List T4} {x : T4} {k : Nat} (h : Place ts x k) : addAns ts x = if POk (ins ts x k) then (ins ts x k, true) else (ts, false) := by
  unfold addAns
  by_cases ha : Asc ts
  · rw [place_pos ha h]
  · rw [if_neg (fun h => ha (asc_ins h.2.2)), if_neg (fun h => ha (asc_ins h.2.2))]
theorem addAns_len (ts : List T4) (x : T4) : (addAns ts x).1.length ≤ ts.length + 1 := by
  unfold addAns; split
  · rw [ins_len]; exact Nat.le_refl _
  · simp
end Go.Proofs.Ythdehhenkgkkmaa
