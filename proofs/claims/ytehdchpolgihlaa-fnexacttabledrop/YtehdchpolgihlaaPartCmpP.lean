/- PartCmpP: the order of parts in the program's words (below 0, 0, above 0), and where a part comes to stand in a table. -/
import Derived.Test.YtehdchpolgihlaaPartPlain
namespace Go.Proofs.Ytehdchpolgihlaa
open Go.RowKit

def cmpI (x y : Int) : Int := if x < y then -1 else if y < x then 1 else 0
def cmpS (s t : ByteArray) : Int := if Op.bytesLess s.toList t.toList = true then -1 else if Op.bytesLess t.toList s.toList = true then 1 else 0
def cmpP (a b : Pt) : Int := if cmpI a.1 b.1 ≠ 0 then cmpI a.1 b.1 else cmpS a.2.1 b.2.1
theorem cmpS_lt (s t : ByteArray) : cmpS s t < 0 ↔ Op.bytesLess s.toList t.toList = true := by
  unfold cmpS
  split
  · simp_all
  · split <;> simp_all
theorem cmpS_eq (s t : ByteArray) : cmpS s t = 0 ↔ s.toList = t.toList := by
  unfold cmpS
  constructor
  · intro h
    split at h
    · simp at h
    · split at h
      · simp at h
      · rename_i h1 h2
        exact Classical.byContradiction fun hn => h2 (less_total (by simpa using h1) hn)
  · intro h
    rw [h]
    simp [less_irrefl]
theorem cmpS_in (s t : ByteArray) : -1 ≤ cmpS s t ∧ cmpS s t ≤ 1 := by
  unfold cmpS
  repeat' split
  all_goals omega
theorem cmpP_lt (a b : Pt) : cmpP a b < 0 ↔ befP a b = true := by
  have hs := cmpS_lt a.2.1 b.2.1
  unfold cmpP cmpI
  simp only [befP, Bool.or_eq_true, decide_eq_true_eq, Bool.and_eq_true]
  rcases Int.lt_trichotomy a.1 b.1 with h | h | h
  · simp [h]
  · simp [h, hs]
  · have h1 : ¬ a.1 < b.1 := by omega
    have h2 : ¬ a.1 = b.1 := by omega
    simp [h, h1, h2]
theorem cmpP_eq (a b : Pt) : cmpP a b = 0 ↔ samP a b = true := by
  have hs := cmpS_eq a.2.1 b.2.1
  unfold cmpP cmpI
  simp only [samP, decide_eq_true_eq, Bool.and_eq_true, beq_iff_eq]
  rcases Int.lt_trichotomy a.1 b.1 with h | h | h
  · have h2 : ¬ a.1 = b.1 := by omega
    simp [h, h2]
  · simp [h, hs]
  · have h1 : ¬ a.1 < b.1 := by omega
    have h2 : ¬ a.1 = b.1 := by omega
    simp [h, h1, h2]
theorem cmpP_in (a b : Pt) : -1 ≤ cmpP a b ∧ cmpP a b ≤ 1 := by
  have hs := cmpS_in a.2.1 b.2.1
  unfold cmpP cmpI
  repeat' split
  all_goals omega
theorem cmpP_head (a b a' b' : Pt) (h : phd a = phd a') (h' : phd b = phd b') : cmpP a b = cmpP a' b' := by
  simp only [phd, Prod.mk.injEq] at h h'
  unfold cmpP
  rw [h.1, h.2, h'.1, h'.2]

/-- What withPart makes of a table, when the search comes to place k. -/
def putP (p : Pt) : List Pt → List Pt
  | [] => [p]
  | x :: xs => if samP x p = true then joinP x p :: xs else p :: x :: xs
theorem putP_cons (p x : Pt) (xs : List Pt) : putP p (x :: xs) = if samP x p = true then joinP x p :: xs else p :: x :: xs := rfl
def insP (ps : List Pt) (p : Pt) (k : Nat) : List Pt := ps.take k ++ putP p (ps.drop k)
/-- Place k: what is ahead of it stands ahead of p, what is there doesn't. -/
def PlaceP (ps : List Pt) (p : Pt) (k : Nat) : Prop := k ≤ ps.length ∧ (∀ i, k = i + 1 → befP (ps.getD i zpt) p = true) ∧ (k < ps.length → befP (ps.getD k zpt) p = false)
def Bf (a b : Pt) : Prop := befP a b = true
theorem row_pair (ps : List Pt) : rowP ps = true ↔ ps.Pairwise Bf := by
  induction ps with
  | nil => simp [rowP]
  | cons t ts ih =>
    cases ts with
    | nil => simp [rowP]
    | cons u ts =>
      rw [rowP, Bool.and_eq_true, ih]
      constructor
      · rintro ⟨h1, h2⟩
        refine List.Pairwise.cons ?_ h2
        intro v hv
        rcases List.mem_cons.1 hv with rfl | hv
        · exact h1
        · exact bef_trans h1 ((List.pairwise_cons.1 h2).1 v hv)
      · intro h
        obtain ⟨h1, h2⟩ := List.pairwise_cons.1 h
        exact ⟨h1 u (by simp), h2⟩
theorem put_pair {ps qs : List Pt} {p : Pt} (h : (qs ++ putP p ps).Pairwise Bf) : (qs ++ ps).Pairwise Bf := by
  cases ps with
  | nil =>
    rw [List.append_nil]
    exact (List.pairwise_append.1 h).1
  | cons x xs =>
    rw [putP_cons] at h
    split at h
    · obtain ⟨h1, h2, h3⟩ := List.pairwise_append.1 h
      obtain ⟨h4, h5⟩ := List.pairwise_cons.1 h2
      refine List.pairwise_append.2 ⟨h1, List.pairwise_cons.2 ⟨fun y hy => h4 y hy, h5⟩, fun a ha b hb => ?_⟩
      rcases List.mem_cons.1 hb with rfl | hb
      · exact h3 a ha (joinP b p) (by simp)
      · exact h3 a ha b (by simp [hb])
    · exact h.sublist (List.sublist_append_right [p] (x :: xs) |>.append_left qs)
theorem ins_pair {ps : List Pt} {p : Pt} {k : Nat} (h : (insP ps p k).Pairwise Bf) : ps.Pairwise Bf := by
  have := put_pair h
  rwa [List.take_append_drop] at this
theorem add_ins (ps : List Pt) (p : Pt) : ∃ k, addP ps p = insP ps p k := by
  induction ps with
  | nil => exact ⟨0, rfl⟩
  | cons x xs ih =>
    unfold addP
    split
    · obtain ⟨k, hk⟩ := ih
      exact ⟨k + 1, by rw [hk]; simp [insP]⟩
    · exact ⟨0, by simp [insP, putP]⟩
theorem ins_add {ps : List Pt} {p : Pt} {k : Nat} (hp : ps.Pairwise Bf) (h : PlaceP ps p k) : insP ps p k = addP ps p := by
  induction ps generalizing k with
  | nil =>
    obtain rfl : k = 0 := by have := h.1; simp at this; exact this
    rfl
  | cons x xs ih =>
    obtain ⟨h1, h2, h3⟩ := h
    obtain ⟨p1, p2⟩ := List.pairwise_cons.1 hp
    cases k with
    | zero =>
      have h3 : befP x p = false := by simpa using h3 (by simp)
      simp [insP, putP, addP, h3]
    | succ k =>
      have hk : k ≤ xs.length := by simpa using h1
      have hx : befP x p = true := by
        have := h2 k rfl
        cases k with
        | zero => simpa using this
        | succ j =>
          have hj : j < xs.length := by omega
          have hm : xs.getD j zpt ∈ xs := pt_mem hj
          exact bef_trans (p1 _ hm) (by simpa using this)
      have := ih p2 (k := k) ⟨hk, fun i hi => by have := h2 (i + 1) (by omega); simpa using this, fun hl => by have := h3 (by simpa using hl); simpa using this⟩
      rw [addP, if_pos hx, ← this]
      simp [insP]
theorem ins_mem {ps : List Pt} {p q : Pt} {k : Nat} (h : q ∈ insP ps p k) : q ∈ ps ∨ q = p ∨ ∃ x ∈ ps, samP x p = true ∧ q = joinP x p := by
  unfold insP at h
  rcases List.mem_append.1 h with h | h
  · exact .inl (List.mem_of_mem_take h)
  · have hd : ∀ y ∈ ps.drop k, y ∈ ps := fun y hy => List.mem_of_mem_drop hy
    generalize ps.drop k = ds at *
    cases ds with
    | nil => simp [putP] at h; exact .inr (.inl h)
    | cons x xs =>
      rw [putP_cons] at h
      split at h
      · rename_i hs
        rcases List.mem_cons.1 h with rfl | h
        · exact .inr (.inr ⟨x, hd x (by simp), hs, rfl⟩)
        · exact .inl (hd q (by simp [h]))
      · rcases List.mem_cons.1 h with rfl | h
        · exact .inr (.inl rfl)
        · exact .inl (hd q h)
end Go.Proofs.Ytehdchpolgihlaa
