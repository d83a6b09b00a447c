/- Two certificates have more in common than there are liars: plain mathematics; QcOk of the program is that of the specification. -/
import Derived.Test.YtggmgfkmbgcooaaGreatDoorQcOkImplQ
import Derived.Test.YtggmgfkmbgcooaaGreatDoorQcOkSpecQ
import Derived.Test.YtggmgfkmbgcooaaGreatDoorBunH
/- Two certificates have more in common than there are liars: plain mathematics; QcOk of the program is that of the specification. -/
namespace Go.Proofs.YtggmgfkmbgcooaaGreatDoor
open Go.RowKit
set_option linter.unusedSectionVars false
variable [∀ (a b c d : Int), Decidable (Ok4 a b c d)]
variable [∀ (a b c d : Nat), Decidable (okN a b c d)]
variable [∀ (last : Int) (s : St), Decidable (GoodSt last s)]
variable [∀ (x : T4), Decidable (OkT x)]
variable [∀ (n : Int) (s : List Int), Decidable (OkL n s)]
variable [∀ (n f : Int), Decidable (COk n f)]

theorem steps_nil : stepsAns ⟨#[]⟩ = some [] := by simp [stepsAns]
theorem view_nil : viewAns ⟨#[]⟩ = 0 := by simp [viewAns, steps_nil]
theorem view_none {s : ByteArray} (h : (stepsAns s).isSome = false) : viewAns s = 0 := by
  cases e : stepsAns s with
  | none => simp [viewAns, e]
  | some ss => rw [e] at h; cases h
theorem view_pos {s : ByteArray} (h : (stepsAns s).isSome = true) (hs : s ≠ ⟨#[]⟩) : 0 < viewAns s := by
  obtain ⟨ss, e⟩ := Option.isSome_iff_exists.1 h
  have h1 := (height_view (s := s)).1
  unfold heightAns at h1
  rw [e] at h1
  have hne : ss ≠ [] := by
    rintro rfl
    have := ((names_iff _ _).1 e).1
    exact hs (ba_ext (by simpa [nm] using this))
  have := List.length_pos_iff.2 hne
  simp only at h1
  omega
theorem qok_eq (n f v : Int) (s : ByteArray) (xs : List Int) : (decide (COk n f) && (alikeB v 0 s ⟨#[]⟩ xs [] || votedB n f v s xs)) = qokB n f v s xs := by
  unfold qokB votedB alikeB
  by_cases hc : COk n f
  · simp only [hc, decide_true, Bool.true_and]
    by_cases hs : s = ⟨#[]⟩
    · subst hs
      rw [steps_nil, view_nil]
      by_cases hv : v = 0
      · subst hv
        simp
      · have h1 : (v == 0) = false := by simpa using hv
        have h2 : ((0 : Int) == v) = false := by simp; omega
        simp [h1, h2, hv]
    · simp only [hs, false_and, and_false, decide_false, Bool.false_or, if_false]
      cases hn : (stepsAns s).isSome with
      | false =>
        rw [view_none hn]
        by_cases hv : v = 0
        · subst hv; simp
        · have h1 : (v == 0) = false := by simpa using hv
          simp [h1]
      | true =>
        have hp := view_pos hn hs
        by_cases hv : v = viewAns s
        · subst hv
          have h1 : decide (0 < viewAns s) = true := by simpa using hp
          simp only [h1, beq_self_eq_true, Bool.true_and]
          rw [Bool.and_comm]
        · have h1 : (v == viewAns s) = false := by simpa using hv
          have h2 : (viewAns s == v) = false := by simp; omega
          simp [h1, h2]
  · simp [hc]
theorem implQcOk (n f v : Int) (s : ByteArray) (ao : Option Addr) (ca : Nat) (xs : List Int) (w : World) (hs : s.size ≤ 33554432) (hE : Env w) (ha : RI w (.slice ao xs.length ca) xs) :
    Calls Tryz.prog 48 #[cv n f, qv v s (.slice ao xs.length ca)] w fun e w' => e = .returned (.bool (qokB n f v s xs)) ∧ Below w.heap.size w w' := by
  have := implQcOk_at n f v s ao ca xs w hs hE ha
  rwa [qok_eq] at this

/-- Sets of so many of n: more in common than liars. -/
theorem common_more {n : Int} {a b : List Int} (h4 : 4 ≤ n) (ha : OkL n a) (hb : OkL n b) (la : n - (n - 1) / 3 ≤ (a.length : Int)) (lb : n - (n - 1) / 3 ≤ (b.length : Int)) : (n - 1) / 3 < (comL a b : Int) := by
  have hj := join_len a b ha.2 hb.2
  have hk := ok_join ha hb
  have hle : ((joinL a b).length : Int) ≤ n := by
    have hl : ∀ (l : List Int) (m : Int), 0 ≤ m → OkL m l → (l.length : Int) ≤ m := by
      intro l
      generalize hn : l.length = k
      induction k generalizing l with
      | zero => intro m hm _; simpa using hm
      | succ k ih =>
        intro m hm ho
        obtain ⟨l', x, rfl⟩ : ∃ l' x, l = l' ++ [x] := ⟨l.dropLast, l.getLast (fun e => by rw [e] at hn; simp at hn), (List.dropLast_concat_getLast _).symm⟩
        have hx := ho.1 x (by simp)
        have hp := ho.2
        rw [List.pairwise_append] at hp
        have := ih l' (by simpa using hn) x hx.1 ⟨fun y hy => ⟨(ho.1 y (by simp [hy])).1, hp.2.2 y hy x (by simp)⟩, hp.1⟩
        push_cast
        omega
    exact hl _ n (by omega) hk
  omega
/-- What a certificate that is right and not the first has. -/
theorem qok_has {n f v : Int} {s : ByteArray} {xs : List Int} (h : qokB n f v s xs = true) (hs : s ≠ ⟨#[]⟩) : COk n f ∧ OkL n xs ∧ n - (n - 1) / 3 ≤ (xs.length : Int) := by
  unfold qokB at h
  simp only [hs, if_false, Bool.and_eq_true, decide_eq_true_eq] at h
  obtain ⟨⟨⟨hc, _⟩, _⟩, ho, hl⟩ := h
  exact ⟨hc, ho, by simpa [quorumOf, hc] using hl⟩
end Go.Proofs.YtggmgfkmbgcooaaGreatDoor
