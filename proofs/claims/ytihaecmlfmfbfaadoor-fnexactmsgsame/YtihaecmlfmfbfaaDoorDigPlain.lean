/- The plain mathematics of decimal numerals, digit by digit. Nothing of the program. -/
import Derived.WalkKit
import Derived.Laws.BytesArg
import Derived.Lib.ItoaNum
namespace Go.Proofs.YtihaecmlfmfbfaaDoor

/-- The digits that are still to come. -/
def rest (m : Nat) : List UInt8 := if m = 0 then [] else Lib.decDigits m
theorem rest_step (m : Nat) (h : m ≠ 0) : rest m = rest (m / 10) ++ [UInt8.ofNat (48 + m % 10)] := by
  by_cases h10 : m < 10
  · have e : m / 10 = 0 := by omega
    rw [rest, if_neg h, Lib.decDigits, dif_pos h10, e, rest, if_pos rfl, Nat.mod_eq_of_lt h10]; rfl
  · have e : m / 10 ≠ 0 := by omega
    rw [rest, if_neg h, Lib.decDigits, dif_neg h10, rest, if_neg e]
/-- Where the loop stands: m is left, the text t is made. -/
def DAt (n m : Nat) (t : List UInt8) : Prop := rest m ++ t = rest n ∧ t.length ≤ 20 ∧ m < 10 ^ (20 - t.length)
theorem dat_start (n : Nat) (h : n ≤ 9223372036854775808) : DAt n n [] := ⟨by simp, by simp, by simp; omega⟩
theorem dat_step {n m : Nat} {t : List UInt8} (h : DAt n m t) (h0 : m ≠ 0) : DAt n (m / 10) (UInt8.ofNat (48 + m % 10) :: t) ∧ t.length ≤ 19 := by
  obtain ⟨h1, h2, h3⟩ := h
  have hl : t.length ≤ 19 := by
    by_cases e : t.length = 20
    · rw [e] at h3; simp at h3; omega
    · omega
  refine ⟨⟨?_, by simp; omega, ?_⟩, hl⟩
  · rw [rest_step m h0] at h1; simpa using h1
  · have e : 20 - t.length = (20 - (t.length + 1)) + 1 := by omega
    rw [e, Nat.pow_succ] at h3
    simp only [List.length_cons]
    exact Nat.div_lt_of_lt_mul (by rw [Nat.mul_comm]; exact h3)
theorem dat_end {n : Nat} {t : List UInt8} (h : DAt n 0 t) (hn : n ≠ 0) : t = Lib.decDigits n := by
  have := h.1
  rwa [rest, if_pos rfl, List.nil_append, rest, if_neg hn] at this

theorem one_more (k : Nat) (t : List UInt8) (h : k < 10) : strOfNums [48 + (k : Int)] ++ (⟨t.toArray⟩ : ByteArray) = ⟨(UInt8.ofNat (48 + k) :: t).toArray⟩ := by
  have e : (48 + (k : Int)).toNat = 48 + k := by omega
  apply ByteArray.ext
  apply Array.toList_inj.1
  simp [strOfNums, e]
theorem one_size (c : Int) : (strOfNums [c]).size = 1 := rfl
end Go.Proofs.YtihaecmlfmfbfaaDoor
