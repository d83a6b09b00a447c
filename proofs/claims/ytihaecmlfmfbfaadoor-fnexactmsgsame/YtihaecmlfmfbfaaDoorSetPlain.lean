/- Sets as lists of numbers: plain mathematics. -/
import Derived.WalkKit
namespace Go.Proofs.YtihaecmlfmfbfaaDoor

/-- What SetAdd answers. -/
def addL (s : List Int) (i : Int) : List Int := if i ∈ s then s else s.takeWhile (fun x => decide (x < i)) ++ i :: s.dropWhile (fun x => decide (x < i))
/-- What SetJoin answers. -/
def joinL (a b : List Int) : List Int := (a ++ b).foldl addL []
/-- What Common answers. -/
def comL (a b : List Int) : Nat := (a.filter fun x => decide (x ∈ b)).length
/-- What SetOk answers. -/
def OkL (n : Int) (s : List Int) : Prop := (∀ x ∈ s, 0 ≤ x ∧ x < n) ∧ s.Pairwise (· < ·)
theorem mem_add (s : List Int) (i x : Int) : x ∈ addL s i ↔ x ∈ s ∨ x = i := by
  unfold addL
  split
  · rename_i h
    constructor
    · exact .inl
    · rintro (h1 | rfl)
      · exact h1
      · exact h
  · have e := List.takeWhile_append_dropWhile (p := fun x => decide (x < i)) (l := s)
    have h2 : x ∈ s ↔ x ∈ s.takeWhile (fun x => decide (x < i)) ∨ x ∈ s.dropWhile (fun x => decide (x < i)) := by
      conv => lhs; rw [← e]
      exact List.mem_append
    simp only [List.mem_append, List.mem_cons, h2]
    constructor
    · rintro (h | h | h)
      · exact .inl (.inl h)
      · exact .inr h
      · exact .inl (.inr h)
    · rintro ((h | h) | h)
      · exact .inl h
      · exact .inr (.inr h)
      · exact .inr (.inl h)
theorem tw_lt (i : Int) (s : List Int) : ∀ x ∈ s.takeWhile (fun x => decide (x < i)), x < i := fun x hx => by
  have := List.all_takeWhile (p := fun x => decide (x < i)) (l := s)
  simpa using List.all_eq_true.1 this x hx
theorem dw_ge (i : Int) (s : List Int) (hs : s.Pairwise (· < ·)) : ∀ x ∈ s.dropWhile (fun x => decide (x < i)), i ≤ x := by
  induction s with
  | nil => simp
  | cons c s ih =>
    rw [List.dropWhile_cons]
    obtain ⟨h1, h2⟩ := List.pairwise_cons.1 hs
    split
    · exact ih h2
    · rename_i hc
      simp at hc
      intro x hx
      rcases List.mem_cons.1 hx with rfl | hx
      · exact hc
      · have := h1 x hx; omega
theorem add_asc (s : List Int) (i : Int) (hs : s.Pairwise (· < ·)) : (addL s i).Pairwise (· < ·) := by
  unfold addL
  split
  · exact hs
  · rename_i hn
    have e := List.takeWhile_append_dropWhile (p := fun x => decide (x < i)) (l := s)
    have hs' := hs
    rw [← e] at hs'
    obtain ⟨h1, h2, h3⟩ := List.pairwise_append.1 hs'
    refine List.pairwise_append.2 ⟨h1, List.pairwise_cons.2 ⟨fun x hx => ?_, h2⟩, fun x hx y hy => ?_⟩
    · have h4 := dw_ge i s hs x hx
      have : x ≠ i := fun e2 => hn (by rw [← e2, ← e]; exact List.mem_append_right _ hx)
      omega
    · rcases List.mem_cons.1 hy with rfl | hy
      · exact tw_lt _ s x hx
      · exact h3 x hx y hy
theorem fold_mem (l s : List Int) (x : Int) : x ∈ l.foldl addL s ↔ x ∈ s ∨ x ∈ l := by
  induction l generalizing s with
  | nil => simp
  | cons c l ih => rw [List.foldl_cons, ih, mem_add, List.mem_cons, or_assoc]
theorem fold_asc (l s : List Int) (hs : s.Pairwise (· < ·)) : (l.foldl addL s).Pairwise (· < ·) := by
  induction l generalizing s with
  | nil => exact hs
  | cons c l ih => exact ih _ (add_asc s c hs)
theorem mem_join (a b : List Int) (x : Int) : x ∈ joinL a b ↔ x ∈ a ∨ x ∈ b := by
  unfold joinL; rw [fold_mem]; simp
theorem join_asc (a b : List Int) : (joinL a b).Pairwise (· < ·) := fold_asc _ _ List.Pairwise.nil
/-- Two ascending lists of the same numbers are one. -/
theorem asc_ext : ∀ {s t : List Int}, s.Pairwise (· < ·) → t.Pairwise (· < ·) → (∀ x, x ∈ s ↔ x ∈ t) → s = t
  | [], [], _, _, _ => rfl
  | [], b :: t, _, _, h => by have := (h b).2 (by simp); simp at this
  | a :: s, [], _, _, h => by have := (h a).1 (by simp); simp at this
  | a :: s, b :: t, hs, ht, h => by
    obtain ⟨h1, h2⟩ := List.pairwise_cons.1 hs
    obtain ⟨h3, h4⟩ := List.pairwise_cons.1 ht
    have e : a = b := by
      have ha := (h a).1 (by simp)
      have hb := (h b).2 (by simp)
      rcases List.mem_cons.1 ha with e | ha
      · exact e
      · rcases List.mem_cons.1 hb with e | hb
        · exact e.symm
        · have := h3 a ha; have := h1 b hb; omega
    subst e
    rw [asc_ext h2 h4 fun x => ?_]
    constructor
    · intro hx
      have := (h x).1 (by simp [hx])
      rcases List.mem_cons.1 this with e | h5
      · have := h1 x hx; omega
      · exact h5
    · intro hx
      have := (h x).2 (by simp [hx])
      rcases List.mem_cons.1 this with e | h5
      · have := h3 x hx; omega
      · exact h5
theorem join_comm (a b : List Int) : joinL a b = joinL b a := asc_ext (join_asc a b) (join_asc b a) fun x => by rw [mem_join, mem_join]; exact or_comm
/-- An ascending list of all numbers of both is what is joined. -/
theorem join_is {a b t : List Int} (ht : t.Pairwise (· < ·)) (h : ∀ x, x ∈ t ↔ x ∈ a ∨ x ∈ b) : t = joinL a b := asc_ext ht (join_asc a b) fun x => by rw [h, mem_join]
theorem asc_nodup {s : List Int} (h : s.Pairwise (· < ·)) : s.Nodup := h.imp fun hlt e => by omega
theorem com_split (a b : List Int) : (a.filter fun x => decide (x ∉ b)).length + comL a b = a.length := by
  unfold comL
  induction a with
  | nil => rfl
  | cons c a ih =>
    simp only [List.filter_cons, List.length_cons]
    by_cases h : c ∈ b
    · simp [h]; simp at ih; omega
    · simp [h]; simp at ih; omega
theorem join_len (a b : List Int) (ha : a.Pairwise (· < ·)) (hb : b.Pairwise (· < ·)) : (joinL a b).length + comL a b = a.length + b.length := by
  have hp : (joinL a b).Perm ((a.filter fun x => decide (x ∉ b)) ++ b) := by
    refine (List.perm_ext_iff_of_nodup (asc_nodup (join_asc a b)) ?_).2 fun x => ?_
    · refine List.nodup_append.2 ⟨(asc_nodup ha).filter _, asc_nodup hb, fun x hx y hy e => ?_⟩
      subst e
      have := (List.mem_filter.1 hx).2
      simp at this
      exact this hy
    · rw [mem_join, List.mem_append, List.mem_filter]
      by_cases h : x ∈ b
      · simp [h]
      · simp [h]
  rw [hp.length_eq, List.length_append]
  have := com_split a b
  omega
theorem com_comm (a b : List Int) (ha : a.Pairwise (· < ·)) (hb : b.Pairwise (· < ·)) : comL a b = comL b a := by
  have h1 := join_len a b ha hb
  have h2 := join_len b a hb ha
  rw [join_comm] at h1
  omega
theorem com_le (a b : List Int) : comL a b ≤ a.length := by have := com_split a b; omega
theorem add_len (s : List Int) (i : Int) : (addL s i).length ≤ s.length + 1 := by
  unfold addL
  split
  · omega
  · have e := congrArg List.length (List.takeWhile_append_dropWhile (p := fun x => decide (x < i)) (l := s))
    rw [List.length_append] at e
    rw [List.length_append, List.length_cons]; omega
theorem fold_len (l s : List Int) : (l.foldl addL s).length ≤ s.length + l.length := by
  induction l generalizing s with
  | nil => simp
  | cons c l ih =>
    have h1 := ih (addL s c)
    have h2 := add_len s c
    rw [List.foldl_cons, List.length_cons]; omega
theorem fold_snoc (l s : List Int) (x : Int) : (l ++ [x]).foldl addL s = addL (l.foldl addL s) x := by rw [List.foldl_append]; rfl
theorem ok_join {n : Int} {a b : List Int} (ha : OkL n a) (hb : OkL n b) : OkL n (joinL a b) := ⟨fun x hx => by
  rcases (mem_join a b x).1 hx with h | h
  · exact ha.1 x h
  · exact hb.1 x h, join_asc a b⟩
/-- Each is a number that the program's int holds. -/
def WfL (xs : List Int) : Prop := ∀ x ∈ xs, (Lit.int .i64 x).wf = true
theorem WfL.at {xs : List Int} (h : WfL xs) (k : Nat) (hk : k < xs.length) : (Lit.int .i64 (xs.getD k 0)).wf = true := by
  rw [List.getD_eq_getElem?_getD, List.getElem?_eq_getElem hk]; exact h _ (List.getElem_mem hk)
end Go.Proofs.YtihaecmlfmfbfaaDoor
