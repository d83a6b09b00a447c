/- The plain mathematics of GetNum. Nothing of the program. -/
import Derived.WalkKit
import Derived.Laws.BitsAllLaws
namespace Go.Proofs.YtnbiphlificliaaDoor
set_option linter.unusedSectionVars false

/-- The number that begins at 'at', of which i bytes, worth n, are read already; at most f bytes more. -/
def getF (xs : List Int) : Nat → Nat → Nat → Int → Option (Int × Int)
  | 0, _, _, _ => none
  | f + 1, i, p, n =>
    if p < xs.length then
      (if 128 ≤ xs.getD p 0 then getF xs f (i + 1) (p + 1) (n + xs.getD p 0 % 128 * 128 ^ i)
       else if 2147483647 < n + xs.getD p 0 % 128 * 128 ^ i ∨ (xs.getD p 0 = 0 ∧ 0 < i) then none
       else some (n + xs.getD p 0 % 128 * 128 ^ i, (p : Int) + 1))
    else none
/-- What GetNum reads at 'p': the number and the place behind it. -/
def getNum (xs : List Int) (p : Int) : Option (Int × Int) := if p < 0 then none else getF xs 5 0 p.toNat 0

theorem getF_out (xs : List Int) (f i p : Nat) (n : Int) (h : ¬ p < xs.length) : getF xs f i p n = none := by cases f <;> simp [getF, h]
theorem getF_more (xs : List Int) (f i p : Nat) (n : Int) (h : p < xs.length) (hd : 128 ≤ xs.getD p 0) : getF xs (f + 1) i p n = getF xs f (i + 1) (p + 1) (n + xs.getD p 0 % 128 * 128 ^ i) := by
  rw [getF, if_pos h, if_pos hd]
theorem getF_bad (xs : List Int) (f i p : Nat) (n : Int) (h : p < xs.length) (hd : ¬ 128 ≤ xs.getD p 0) (hb : 2147483647 < n + xs.getD p 0 % 128 * 128 ^ i ∨ (xs.getD p 0 = 0 ∧ 0 < i)) : getF xs (f + 1) i p n = none := by
  rw [getF, if_pos h, if_neg hd, if_pos hb]
theorem getF_end (xs : List Int) (f i p : Nat) (n : Int) (h : p < xs.length) (hd : ¬ 128 ≤ xs.getD p 0) (hb : ¬ (2147483647 < n + xs.getD p 0 % 128 * 128 ^ i ∨ (xs.getD p 0 = 0 ∧ 0 < i))) : getF xs (f + 1) i p n = some (n + xs.getD p 0 % 128 * 128 ^ i, (p : Int) + 1) := by
  rw [getF, if_pos h, if_neg hd, if_neg hb]
theorem getF_step {xs : List Int} {f i q : Nat} {n d c : Int} {r : Option (Int × Int)} (hc : (128 : Int) ^ i = c) (hr : r = getF xs (f + 1) i q n) (hq : q < xs.length) (hd : xs.getD q 0 = d) (h1 : 128 ≤ d) : r = getF xs f (i + 1) (q + 1) (n + d % 128 * c) := by
  subst hc; subst hd; rw [hr]; exact getF_more xs f i q n hq h1
theorem getF_no {xs : List Int} {f i q : Nat} {n d c : Int} {r : Option (Int × Int)} (hc : (128 : Int) ^ i = c) (hr : r = getF xs (f + 1) i q n) (hq : q < xs.length) (hd : xs.getD q 0 = d) (h1 : ¬ 128 ≤ d) (hb : 2147483647 < n + d % 128 * c ∨ (d = 0 ∧ 0 < i)) : r = none := by
  subst hc; subst hd; rw [hr]; exact getF_bad xs f i q n hq h1 hb
theorem getF_yes {xs : List Int} {f i q : Nat} {n d c : Int} {r : Option (Int × Int)} (hc : (128 : Int) ^ i = c) (hr : r = getF xs (f + 1) i q n) (hq : q < xs.length) (hd : xs.getD q 0 = d) (h1 : ¬ 128 ≤ d) (hb : ¬ (2147483647 < n + d % 128 * c ∨ (d = 0 ∧ 0 < i))) : r = some (n + d % 128 * c, (q : Int) + 1) := by
  subst hc; subst hd; rw [hr]; exact getF_end xs f i q n hq h1 hb
theorem getNum_neg (xs : List Int) (p : Int) (h : p < 0) : getNum xs p = none := by simp [getNum, h]
theorem getNum_nat (xs : List Int) (p : Nat) : getNum xs p = getF xs 5 0 p 0 := by rw [getNum, if_neg (by omega), Int.toNat_natCast]
theorem or_mul (a b i m : Nat) (hm : m = 2 ^ i) (h : a < m) : a ||| (b * m) = b * m + a := by
  subst hm
  rw [Nat.or_comm, ← Nat.shiftLeft_eq, Nat.shiftLeft_add_eq_or_of_lt h]
theorem i64_or_nat (a b : Nat) (ha : a < 9223372036854775808) (hb : b < 9223372036854775808) : bits .or .i64 (a : Int) (b : Int) = ((a ||| b : Nat) : Int) := by
  have hx : a ||| b < 2 ^ 63 := Nat.or_lt_two_pow (by omega) (by omega)
  show IntKind.i64.wrap ((BitVec.ofInt 64 (a : Int) ||| BitVec.ofInt 64 (b : Int)).toNat : Int) = _
  rw [BitVec.toNat_or, ofInt_u64 a (by omega), ofInt_u64 b (by omega), IntKind.wrap_i64]
  omega
theorem or_sum (n d : Int) (m i : Nat) (hm : m = 2 ^ i) (hs : m ≤ 268435456) (a0 : 0 ≤ n) (b0 : n < m) (a1 : 0 ≤ d) (b1 : d < 128) : bits BinOp.or IntKind.i64 n (d * (m : Int)) = n + d * (m : Int) := by
  obtain ⟨a, rfl⟩ := Int.eq_ofNat_of_zero_le a0
  obtain ⟨b, rfl⟩ := Int.eq_ofNat_of_zero_le a1
  have hbm : b * m ≤ 127 * 268435456 := Nat.mul_le_mul (by omega) hs
  rw [← Int.natCast_mul, i64_or_nat a (b * m) (by omega) (by omega), or_mul a b i m hm (by omega)]
  rw [Int.natCast_add, Int.add_comm]
end Go.Proofs.YtnbiphlificliaaDoor
