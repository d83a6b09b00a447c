/- The plain mathematics of Number. Nothing of the program. -/
import Derived.WalkKit
import Derived.Lib.ItoaNum
import Derived.Lib.Atoi
namespace Go.Proofs.YtnbiphlificliaaDoor
set_option linter.unusedSectionVars false

theorem decFrom_append (l r : List UInt8) (acc : Nat) : Lib.decFrom acc (l ++ r) = (Lib.decFrom acc l).bind fun a => Lib.decFrom a r := by
  induction l generalizing acc with
  | nil => rfl
  | cons b l ih =>
    rw [List.cons_append, Lib.decFrom, Lib.decFrom]
    cases Lib.digitVal b with
    | none => rfl
    | some d => exact ih _
theorem digit_ofNat (k : Nat) (h : k < 10) : Lib.digitVal (UInt8.ofNat (48 + k)) = some k := by
  have e : (UInt8.ofNat (48 + k)).toNat = 48 + k := by simp; omega
  rw [Lib.digitVal, if_pos (by omega), e]; congr 1; omega
theorem decFrom_digits (n : Nat) : Lib.decFrom 0 (Lib.decDigits n) = some n := by
  induction n using Nat.strongRecOn with
  | ind n ih =>
    rw [Lib.decDigits]
    by_cases h : n < 10
    · rw [dif_pos h]
      simp only [Lib.decFrom, digit_ofNat n h]; simp
    · rw [dif_neg h, decFrom_append, ih (n / 10) (by omega)]
      simp only [Option.bind_some, Lib.decFrom, digit_ofNat (n % 10) (by omega)]
      congr 1; omega
theorem digits_ne (n : Nat) : Lib.decDigits n ≠ [] := by
  intro h
  have := Lib.decDigits_length n
  rw [h] at this
  have := Lib.nDigits_pos n
  simp at *; omega
theorem atoi_digits (n : Nat) : Lib.atoi (Lib.decDigits n) = some (n : Int) := by
  have hd := decFrom_digits n
  have hne := digits_ne n
  cases hl : Lib.decDigits n with
  | nil => exact absurd hl hne
  | cons b r =>
    rw [hl] at hd
    obtain ⟨d, hb⟩ := Lib.digit_of_decFrom (b :: r) 0 n hd 0 b rfl
    have hb' := Lib.digitVal_eq hb
    have h45 : (b == 45) = false := by
      rw [beq_eq_false_iff_ne]; intro e; subst e; simp at hb'
    have h43 : (b == 43) = false := by
      rw [beq_eq_false_iff_ne]; intro e; subst e; simp at hb'
    simp [Lib.atoi, h45, h43, Lib.decNat, hd]
theorem nDigits_six (n : Nat) (h : n ≤ 999999) : Lib.nDigits n ≤ 6 := by
  have step : ∀ m k, (m < 10 → 1 ≤ k) → (¬ m < 10 → Lib.nDigits (m / 10) + 1 ≤ k) → Lib.nDigits m ≤ k := by
    intro m k h1 h2
    by_cases hm : m < 10
    · rw [Lib.nDigits_small hm]; exact h1 hm
    · rw [Lib.nDigits_big hm]; exact h2 hm
  refine step _ _ (fun _ => by omega) fun _ => Nat.succ_le_of_lt (Nat.lt_of_le_of_lt (step _ 5 (fun _ => by omega) fun _ => Nat.succ_le_of_lt (Nat.lt_of_le_of_lt (step _ 4 (fun _ => by omega) fun _ => Nat.succ_le_of_lt (Nat.lt_of_le_of_lt (step _ 3 (fun _ => by omega) fun _ => Nat.succ_le_of_lt (Nat.lt_of_le_of_lt (step _ 2 (fun _ => by omega) fun _ => Nat.succ_le_of_lt (Nat.lt_of_le_of_lt (step _ 1 (fun _ => by omega) fun _ => ?_) (by omega))) (by omega))) (by omega))) (by omega))) (by omega))
  omega

/-- The number that a text is the numeral of. -/
def numOf (l : List UInt8) : Option Nat :=
  match Lib.decFrom 0 l with
  | some n => if n ≤ 999999 ∧ Lib.decDigits n = l then some n else none
  | none => none
theorem numOf_some {l : List UInt8} {n : Nat} (h : numOf l = some n) : n ≤ 999999 ∧ Lib.decDigits n = l := by
  unfold numOf at h
  cases hd : Lib.decFrom 0 l with
  | none => rw [hd] at h; cases h
  | some m =>
    rw [hd] at h
    by_cases hc : m ≤ 999999 ∧ Lib.decDigits m = l
    · simp only [if_pos hc, Option.some.injEq] at h; subst h; exact hc
    · simp only [if_neg hc] at h; cases h
theorem numOf_of {n : Nat} (h : n ≤ 999999) : numOf (Lib.decDigits n) = some n := by
  unfold numOf; rw [decFrom_digits]; simp [h]
theorem numOf_len {l : List UInt8} {n : Nat} (h : numOf l = some n) : 1 ≤ l.length ∧ l.length ≤ 6 := by
  obtain ⟨h1, rfl⟩ := numOf_some h
  rw [Lib.decDigits_length]
  exact ⟨Lib.nDigits_pos n, nDigits_six n h1⟩
theorem numOf_none_len {l : List UInt8} (h : l.length < 1 ∨ 6 < l.length) : numOf l = none := by
  cases hn : numOf l with
  | none => rfl
  | some n => have := numOf_len hn; omega
theorem numOf_none_dec {l : List UInt8} (h : Lib.decFrom 0 l = none) : numOf l = none := by unfold numOf; rw [h]
theorem numOf_none_byte {l : List UInt8} {k : Nat} {b : UInt8} (hk : l[k]? = some b) (hb : b.toNat < 48 ∨ 57 < b.toNat) : numOf l = none := by
  refine numOf_none_dec ?_
  cases hd : Lib.decFrom 0 l with
  | none => rfl
  | some n =>
    obtain ⟨d, h⟩ := Lib.digit_of_decFrom l 0 n hd k b hk
    have := Lib.digitVal_eq h
    omega
theorem numOf_yes {l : List UInt8} {n : Nat} (hd : Lib.decFrom 0 l = some n) (hn : n ≤ 999999) (h : Lib.decDigits n = l) : numOf l = some n := by unfold numOf; rw [hd]; simp [hn, h]
theorem numOf_no {l : List UInt8} {n : Nat} (hd : Lib.decFrom 0 l = some n) (h : Lib.decDigits n ≠ l) : numOf l = none := by unfold numOf; rw [hd]; simp [h]
theorem itoa_nat (n : Nat) : Lib.itoa (n : Int) = Lib.decDigits n := by rw [Lib.itoa, if_neg (by omega), Int.toNat_natCast]
/-- What Number answers. -/
def nans (r : Option Nat) : Int := match r with | some n => (n : Int) | none => 0
end Go.Proofs.YtnbiphlificliaaDoor
