/- Texts that belong together: GetPlain, Read, GetNum, TextRead, Draw, DrawNum, Plain, Put, Text, DrawList, RoundPlain, TxsText, JoinPlain. -/
import Derived.WalkKit
import Derived.Laws.BitsAllLaws
import Derived.Test.YtehdchpolgihlaaDoorPoAA
import Derived.Test.YtehdchpolgihlaaDoorPoAH
import Derived.Laws.BytesArg
import Derived.Laws.Bits128
import Derived.Lib.AppendStr
import Derived.Laws.IdiomStrings
import Derived.Test.YtehdchpolgihlaaDoorPoAJ
import Derived.Test.YtehdchpolgihlaaDoorPoAE
import Derived.Test.YtehdchpolgihlaaDoorPoAI
/- The plain mathematics of GetNum. Nothing of the program. -/
namespace Go.Proofs.YtehdchpolgihlaaDoor

/-- The number that begins at 'at', of which i bytes, worth n, are read already; at most f bytes more. -/
def getF (xs : List Int) : Nat → Nat → Nat → Int → Option (Int × Int)
  | 0, _, _, _ => none
  | f + 1, i, p, n =>
    if p < xs.length then
      (if 128 ≤ xs.getD p 0 then getF xs f (i + 1) (p + 1) (n + xs.getD p 0 % 128 * 128 ^ i)
       else if 2147483647 < n + xs.getD p 0 % 128 * 128 ^ i ∨ (xs.getD p 0 = 0 ∧ 0 < i) then none
       else some (n + xs.getD p 0 % 128 * 128 ^ i, (p : Int) + 1))
    else none
/-- What GetNum reads at 'p': the number and the place behind it. -/
def getNum (xs : List Int) (p : Int) : Option (Int × Int) := if p < 0 then none else getF xs 5 0 p.toNat 0

theorem getF_out (xs : List Int) (f i p : Nat) (n : Int) (h : ¬ p < xs.length) : getF xs f i p n = none := by cases f <;> simp [getF, h]
theorem getF_more (xs : List Int) (f i p : Nat) (n : Int) (h : p < xs.length) (hd : 128 ≤ xs.getD p 0) : getF xs (f + 1) i p n = getF xs f (i + 1) (p + 1) (n + xs.getD p 0 % 128 * 128 ^ i) := by
  rw [getF, if_pos h, if_pos hd]
theorem getF_bad (xs : List Int) (f i p : Nat) (n : Int) (h : p < xs.length) (hd : ¬ 128 ≤ xs.getD p 0) (hb : 2147483647 < n + xs.getD p 0 % 128 * 128 ^ i ∨ (xs.getD p 0 = 0 ∧ 0 < i)) : getF xs (f + 1) i p n = none := by
  rw [getF, if_pos h, if_neg hd, if_pos hb]
theorem getF_end (xs : List Int) (f i p : Nat) (n : Int) (h : p < xs.length) (hd : ¬ 128 ≤ xs.getD p 0) (hb : ¬ (2147483647 < n + xs.getD p 0 % 128 * 128 ^ i ∨ (xs.getD p 0 = 0 ∧ 0 < i))) : getF xs (f + 1) i p n = some (n + xs.getD p 0 % 128 * 128 ^ i, (p : Int) + 1) := by
  rw [getF, if_pos h, if_neg hd, if_neg hb]
theorem getF_step {xs : List Int} {f i q : Nat} {n d c : Int} {r : Option (Int × Int)} (hc : (128 : Int) ^ i = c) (hr : r = getF xs (f + 1) i q n) (hq : q < xs.length) (hd : xs.getD q 0 = d) (h1 : 128 ≤ d) : r = getF xs f (i + 1) (q + 1) (n + d % 128 * c) := by
  subst hc; subst hd; rw [hr]; exact getF_more xs f i q n hq h1
theorem getF_no {xs : List Int} {f i q : Nat} {n d c : Int} {r : Option (Int × Int)} (hc : (128 : Int) ^ i = c) (hr : r = getF xs (f + 1) i q n) (hq : q < xs.length) (hd : xs.getD q 0 = d) (h1 : ¬ 128 ≤ d) (hb : 2147483647 < n + d % 128 * c ∨ (d = 0 ∧ 0 < i)) : r = none := by
  subst hc; subst hd; rw [hr]; exact getF_bad xs f i q n hq h1 hb
theorem getF_yes {xs : List Int} {f i q : Nat} {n d c : Int} {r : Option (Int × Int)} (hc : (128 : Int) ^ i = c) (hr : r = getF xs (f + 1) i q n) (hq : q < xs.length) (hd : xs.getD q 0 = d) (h1 : ¬ 128 ≤ d) (hb : ¬ (2147483647 < n + d % 128 * c ∨ (d = 0 ∧ 0 < i))) : r = some (n + d % 128 * c, (q : Int) + 1) := by
  subst hc; subst hd; rw [hr]; exact getF_end xs f i q n hq h1 hb
theorem getNum_neg (xs : List Int) (p : Int) (h : p < 0) : getNum xs p = none := by simp [getNum, h]
theorem getNum_nat (xs : List Int) (p : Nat) : getNum xs p = getF xs 5 0 p 0 := by rw [getNum, if_neg (by omega), Int.toNat_natCast]
theorem or_mul (a b i m : Nat) (hm : m = 2 ^ i) (h : a < m) : a ||| (b * m) = b * m + a := by
  subst hm
  rw [Nat.or_comm, ← Nat.shiftLeft_eq, Nat.shiftLeft_add_eq_or_of_lt h]
theorem i64_or_nat (a b : Nat) (ha : a < 9223372036854775808) (hb : b < 9223372036854775808) : bits .or .i64 (a : Int) (b : Int) = ((a ||| b : Nat) : Int) := by
  have hx : a ||| b < 2 ^ 63 := Nat.or_lt_two_pow (by omega) (by omega)
  show IntKind.i64.wrap ((BitVec.ofInt 64 (a : Int) ||| BitVec.ofInt 64 (b : Int)).toNat : Int) = _
  rw [BitVec.toNat_or, ofInt_u64 a (by omega), ofInt_u64 b (by omega), IntKind.wrap_i64]
  omega
theorem or_sum (n d : Int) (m i : Nat) (hm : m = 2 ^ i) (hs : m ≤ 268435456) (a0 : 0 ≤ n) (b0 : n < m) (a1 : 0 ≤ d) (b1 : d < 128) : bits BinOp.or IntKind.i64 n (d * (m : Int)) = n + d * (m : Int) := by
  obtain ⟨a, rfl⟩ := Int.eq_ofNat_of_zero_le a0
  obtain ⟨b, rfl⟩ := Int.eq_ofNat_of_zero_le a1
  have hbm : b * m ≤ 127 * 268435456 := Nat.mul_le_mul (by omega) hs
  rw [← Int.natCast_mul, i64_or_nat a (b * m) (by omega) (by omega), or_mul a b i m hm (by omega)]
  rw [Int.natCast_add, Int.add_comm]
end Go.Proofs.YtehdchpolgihlaaDoor

/- impl.readByte and impl.readNum: they answer, or panic with errNoNumber. -/
namespace Go.Proofs.YtehdchpolgihlaaDoor
open Go.RowKit

/-- What is read of bytes: each from 0 to 255. -/
def Bytes (xs : List Int) : Prop := ∀ k, k < xs.length → 0 ≤ xs.getD k 0 ∧ xs.getD k 0 ≤ 255

/-- What readNum ends in. -/
def ReadEnd (r : Option (Int × Int)) (pn : List PanicEntry) (e : Ending) : Prop :=
  (∃ n q, r = some (n, q) ∧ e = .returned (.tuple #[.int .i64 n, .int .i64 q])) ∨ (r = none ∧ e = .panicked pn)

end Go.Proofs.YtehdchpolgihlaaDoor

/- impl.GetNum: what it answers. -/
namespace Go.Proofs.YtehdchpolgihlaaDoor
open Go.RowKit

theorem alloc_new (w : World) (x : Value) (t : TypeId) : (w.alloc (.cells #[x] t)).cell? ⟨w.heap.size, 0, none⟩ = some x := by simp
theorem alloc_free (w : World) (x : Value) (t : TypeId) : (w.alloc (.cells #[x] t)).frozen? ⟨w.heap.size, 0, none⟩ = false := by simp [go_sem]
/-- The four variables that GetNum's closure captures, laid. -/
abbrev boxes (w : World) (v : Value) (p : Int) : World := (((w.alloc (.cells #[v] 105)).alloc (.cells #[.int .i64 p] 3)).alloc (.cells #[.int .i64 0] 3)).alloc (.cells #[.int .i64 0] 3)
theorem boxes_below (w : World) (v : Value) (p : Int) : Below w.heap.size w (boxes w v p) :=
  ((((Below.refl _ _).alloc (Nat.le_refl _) _).alloc (by simp) _).alloc (by simp; omega) _).alloc (by simp; omega) _
theorem boxes_size (w : World) (v : Value) (p : Int) : (boxes w v p).heap.size = w.heap.size + 4 := by simp
theorem boxes_ok (w : World) (v : Value) (p : Int) (o : Obj) :
    ((boxes w v p).alloc o).cell? ⟨w.heap.size, 0, none⟩ = some v ∧ ((boxes w v p).alloc o).cell? ⟨w.heap.size + 1, 0, none⟩ = some (.int .i64 p) ∧ ((boxes w v p).alloc o).cell? ⟨w.heap.size + 2, 0, none⟩ = some (.int .i64 0) ∧ ((boxes w v p).alloc o).cell? ⟨w.heap.size + 3, 0, none⟩ = some (.int .i64 0) ∧
    ((boxes w v p).alloc o).frozen? ⟨w.heap.size + 2, 0, none⟩ = false ∧ ((boxes w v p).alloc o).frozen? ⟨w.heap.size + 3, 0, none⟩ = false := by
  simp [boxes, go_sem]

/-- What GetNum answers, in three words. -/
def ans1 (r : Option (Int × Int)) : Int := match r with | some x => x.1 | none => 0
def ans2 (r : Option (Int × Int)) : Int := match r with | some x => x.2 | none => 0
end Go.Proofs.YtehdchpolgihlaaDoor

/- impl.readText and spec.GetText. -/
namespace Go.Proofs.YtehdchpolgihlaaDoor
open Go.RowKit

theorem getF_bd (xs : List Int) (hb : Bytes xs) (f i p : Nat) (n : Int) (h0 : 0 ≤ n) (m q : Int) (h : getF xs f i p n = some (m, q)) : 0 ≤ m ∧ m ≤ 2147483647 ∧ (p : Int) < q ∧ q ≤ xs.length := by
  induction f generalizing i p n with
  | zero => simp [getF] at h
  | succ f ih =>
    by_cases hp : p < xs.length
    · have hx := hb p hp
      have h128 : (0 : Int) ≤ 128 ^ i := Int.pow_nonneg (by omega)
      have hmul : 0 ≤ xs.getD p 0 % 128 * 128 ^ i := Int.mul_nonneg (by omega) h128
      by_cases hd : 128 ≤ xs.getD p 0
      · rw [getF_more xs f i p n hp hd] at h
        have := ih (i + 1) (p + 1) _ (by omega) h
        omega
      · by_cases hbad : 2147483647 < n + xs.getD p 0 % 128 * 128 ^ i ∨ (xs.getD p 0 = 0 ∧ 0 < i)
        · rw [getF_bad xs f i p n hp hd hbad] at h; cases h
        · rw [getF_end xs f i p n hp hd hbad] at h
          simp only [Option.some.injEq, Prod.mk.injEq] at h
          omega
    · rw [getF_out xs _ i p n hp] at h; cases h
theorem getNum_bd (xs : List Int) (hb : Bytes xs) (p m q : Int) (h : getNum xs p = some (m, q)) : 0 ≤ m ∧ m ≤ 2147483647 ∧ 0 < q ∧ q ≤ xs.length := by
  by_cases hp : p < 0
  · rw [getNum_neg xs p hp] at h; cases h
  · rw [getNum, if_neg hp] at h
    have := getF_bd xs hb 5 0 p.toNat 0 (by omega) m q h
    omega

/-- The text that stands at q, n bytes long. -/
def textAt (xs : List Int) (q n : Nat) : ByteArray := strOfNums ((xs.drop q).take n)
theorem win_cells {w : World} {b off q n : Nat} {xs : List Int} (h : ∀ k, k < xs.length → w.cell? ⟨b, off + k, none⟩ = some (.int .u8 (xs.getD k 0))) (hq : q + n ≤ xs.length) :
    ∀ i, i < n → w.cell? ⟨b, off + q + i, none⟩ = some (.int .u8 (((xs.drop q).take n).getD i 0)) := by
  intro i hi
  rw [Nat.add_assoc, h (q + i) (by omega)]
  simp [List.getD_eq_getElem?_getD, List.getElem?_drop, hi]
theorem win_len (xs : List Int) (q n : Nat) (hq : q + n ≤ xs.length) : ((xs.drop q).take n).length = n := by simp; omega

/-- What GetText reads: the text and the place behind it. -/
def getText (xs : List Int) (p : Int) : Option (ByteArray × Int) :=
  match getNum xs p with
  | some (n, q) => if n ≤ (xs.length : Int) - q then some (textAt xs q.toNat n.toNat, q + n) else none
  | none => none

end Go.Proofs.YtehdchpolgihlaaDoor

/- The cursor of the draws: spec.l1New, l1Byte, l1Below, l1Once, l1Pick, l1PickInt. -/
namespace Go.Proofs.YtehdchpolgihlaaDoor
open Go.RowKit

theorem i64_and255 (n : Int) : bits .and .i64 n 255 = n % 256 := by
  have h255 : (BitVec.ofInt 64 255).toNat = 2 ^ 8 - 1 := by decide
  have key : (BitVec.ofInt 64 n &&& BitVec.ofInt 64 255).toNat = (n % ((2 ^ 64 : Nat) : Int)).toNat % 2 ^ 8 := by
    rw [BitVec.toNat_and, BitVec.toNat_ofInt, h255, Nat.and_two_pow_sub_one_eq_mod]
  show IntKind.i64.wrap ((BitVec.ofInt 64 n &&& BitVec.ofInt 64 255).toNat : Nat) = n % 256
  rw [key, IntKind.wrap_i64]
  omega
theorem and255 (n : Int) : 0 ≤ bits .and .i64 n 255 ∧ bits .and .i64 n 255 ≤ 255 := by rw [i64_and255]; omega

theorem three_cells {w : World} {g : Nat} {x y z : Value} {t : TypeId} (h : w.heap[g]? = some (.cells #[x, y, z] t (0, 0))) :
    w.cell? ⟨g, 0, none⟩ = some x ∧ w.cell? ⟨g, 1, none⟩ = some y ∧ w.cell? ⟨g, 2, none⟩ = some z ∧ w.frozen? ⟨g, 0, none⟩ = false ∧ w.frozen? ⟨g, 1, none⟩ = false ∧ w.frozen? ⟨g, 2, none⟩ = false := by
  refine ⟨?_, ?_, ?_, frozen_of_row w g 0 _ t h, frozen_of_row w g 1 _ t h, frozen_of_row w g 2 _ t h⟩
  · rw [cell_of_row w g 0 _ t (0, 0) h]; rfl
  · rw [cell_of_row w g 1 _ t (0, 0) h]; rfl
  · rw [cell_of_row w g 2 _ t (0, 0) h]; rfl

theorem set_two {w : World} {g : Nat} {x y z : Value} {t : TypeId} (h : w.heap[g]? = some (.cells #[x, y, z] t (0, 0))) (u : Value) : (w.setCell ⟨g, 2, none⟩ u).heap[g]? = some (.cells #[x, y, u] t (0, 0)) := by
  rw [heap_setCell_same w g 2 _ t u h]; rfl
theorem set_one {w : World} {g : Nat} {x y z : Value} {t : TypeId} (h : w.heap[g]? = some (.cells #[x, y, z] t (0, 0))) (u : Value) : (w.setCell ⟨g, 1, none⟩ u).heap[g]? = some (.cells #[x, u, z] t (0, 0)) := by
  rw [heap_setCell_same w g 1 _ t u h]; rfl
theorem set_grown (w : World) (g j : Nat) (u : Value) : w.grownBy (w.setCell ⟨g, j, none⟩ u) (some g) :=
  ⟨rfl, rfl, rfl, by simp, fun k _ hk => heap_setCell_other w ⟨g, j, none⟩ k u (fun e => hk (by simp [e]))⟩

theorem grown_drewN {a b : World} {row : Option Nat} (h : a.grownBy b row) (n : Nat) : a.grownBy (b.drewN n) row := ⟨h.os, h.tape, h.output, h.size, h.block⟩

end Go.Proofs.YtehdchpolgihlaaDoor

/- The draws of chapter 1 that answer one number or one text. -/
namespace Go.Proofs.YtehdchpolgihlaaDoor
open Go.RowKit

theorem lit_ints (w : World) (t : TypeId) (zs : List Int) (k : Nat) (hk : k < zs.length) : (w.alloc (.cells (zs.map (Value.int .i64)).toArray t)).cell? ⟨w.heap.size, k, none⟩ = some (.int .i64 (zs.getD k 0)) := by
  rw [cell_of_row _ w.heap.size k _ t (0, 0) (heap_alloc_new w _)]
  simp [List.getElem?_eq_getElem hk]
theorem lit_texts (w : World) (t : TypeId) (zs : List ByteArray) (k : Nat) (hk : k < zs.length) : (w.alloc (.cells (zs.map Value.string).toArray t)).cell? ⟨w.heap.size, k, none⟩ = some (.string (zs.getD k ByteArray.empty)) := by
  rw [cell_of_row _ w.heap.size k _ t (0, 0) (heap_alloc_new w _)]
  simp [List.getElem?_eq_getElem hk]
/-- The code that is drawn from. -/
structure DCode (w : World) (ao : Option Addr) (xs : List Int) : Prop where
  len : xs.length ≤ 1048576
  code : xs = [] ∨ ∃ b off, ao = some ⟨b, off, none⟩ ∧ ∀ k, k < xs.length → w.cell? ⟨b, off + k, none⟩ = some (.int .u8 (xs.getD k 0))
  fit : ∀ k, k < xs.length → 0 ≤ xs.getD k 0 ∧ xs.getD k 0 ≤ 255
theorem DCode.below {w w' : World} {B : Nat} {ao : Option Addr} {xs : List Int} (h : DCode w ao xs) (hb : Below B w w') (hB : w.heap.size ≤ B) : DCode w' ao xs := by
  refine ⟨h.len, ?_, h.fit⟩
  rcases h.code with h' | ⟨b, off, ha, hx⟩
  · exact .inl h'
  · exact .inr ⟨b, off, ha, fun k hk => (hb.cell (Nat.lt_of_lt_of_le (cell_lt (hx k hk)) hB)).trans (hx k hk)⟩

theorem cur_below {w w' : World} {g : Nat} (hg : w.grownBy w' (some g)) {a : World} {B : Nat} (hb : Below B a w) (hB : B ≤ w.heap.size) (hlow : B ≤ g) : Below B a w' :=
  hb.grown hg hB (fun k hk => by simp at hk; omega)

def putNums : List Int := [0, 1, 127, 128, 300, 16384, 2147483647, 2147483648, -1, 9223372036854775807]
def digNums : List Int := [0, 7, -12, 100000, 9223372036854775807, -9223372036854775808]
def putTexts : List ByteArray := [⟨#[]⟩, ⟨#[97]⟩, ⟨#[116, 119, 111, 32, 119, 111, 114, 100, 115]⟩, ⟨#[0, 255]⟩]
def numTexts : List ByteArray := [⟨#[48]⟩, ⟨#[55]⟩, ⟨#[57, 57, 57, 57, 57, 57]⟩, ⟨#[49, 48, 48, 48, 48, 48, 48]⟩, ⟨#[48, 49]⟩, ⟨#[]⟩, ⟨#[45, 49]⟩, ⟨#[120]⟩, ⟨#[49, 50, 97]⟩]

def splitTexts : List ByteArray := [⟨#[]⟩, ⟨#[97]⟩, ⟨#[97, 44, 98]⟩, ⟨#[44]⟩, ⟨#[97, 44, 44, 98, 44]⟩, ⟨#[97, 47, 98, 44, 99, 47]⟩]
end Go.Proofs.YtehdchpolgihlaaDoor

/- The plain mathematics of PutNum: seven bits a byte, the low ones first. Nothing of the program. -/
namespace Go.Proofs.YtehdchpolgihlaaDoor

/-- The bytes of n, at most f + 1 of them. -/
def put : Nat → Nat → List Int
  | 0, n => [(n : Int)]
  | f + 1, n => if n ≤ 127 then [(n : Int)] else ((n : Int) % 128 + 128) :: put f (n / 128)
theorem put_small (f n : Nat) (h : n ≤ 127) : put f n = [(n : Int)] := by cases f <;> simp [put, h]
theorem put_great (f n : Nat) (h : 127 < n) : put (f + 1) n = ((n : Int) % 128 + 128) :: put f (n / 128) := by simp [put]; omega
theorem put_len (f n : Nat) : (put f n).length ≤ f + 1 ∧ 0 < (put f n).length := by
  induction f generalizing n with
  | zero => simp [put]
  | succ f ih => by_cases h : n ≤ 127
                 · simp [put, h]
                 · simp [put, h]; have := (ih (n / 128)).1; omega

/-- What PutNum answers. -/
def putAns (n : Int) : List Int := if 0 ≤ n ∧ n ≤ 2147483647 then put 4 n.toNat else []
theorem putAns_yes (n : Nat) (h : n ≤ 2147483647) : putAns n = put 4 n := by unfold putAns; rw [if_pos (by omega), Int.toNat_natCast]
theorem putAns_no (n : Int) (h : n < 0 ∨ 2147483647 < n) : putAns n = [] := by unfold putAns; rw [if_neg (by omega)]
theorem putAns_len (n : Int) : (putAns n).length ≤ 5 := by
  unfold putAns; split
  · exact (put_len 4 _).1
  · simp

/-- Where a loop over n stands: behind the bytes 'done', with m left. -/
def At (n : Nat) (f m : Nat) (done : List Int) : Prop := done ++ put f m = put 4 n ∧ m < 128 ^ (f + 1) ∧ done.length + f = 4
theorem at_start (n : Nat) (h : n ≤ 2147483647) : At n 4 n [] := ⟨by simp, by omega, rfl⟩
theorem at_step {n f m : Nat} {done : List Int} (h : At n f m done) (hm : 127 < m) : ∃ f', f = f' + 1 ∧ At n f' (m / 128) (done ++ [(m : Int) % 128 + 128]) := by
  obtain ⟨h1, h2, h3⟩ := h
  cases f with
  | zero => simp at h2; omega
  | succ f =>
    refine ⟨f, rfl, ?_, ?_, ?_⟩
    · rw [put_great f m hm] at h1; simpa using h1
    · rw [Nat.pow_succ] at h2; exact Nat.div_lt_of_lt_mul (by rw [Nat.mul_comm]; exact h2)
    · simp; omega
theorem at_end {n f m : Nat} {done : List Int} (h : At n f m done) (hm : m ≤ 127) : done ++ [(m : Int)] = put 4 n := by
  have := h.1; rwa [put_small f m hm] at this
end Go.Proofs.YtehdchpolgihlaaDoor

/- What spec.PutNum and impl.PutNum answer: one and the same list of bytes, in memory of its own. -/
namespace Go.Proofs.YtehdchpolgihlaaDoor
open Go.RowKit

/-- One byte more behind what is owned. -/
theorem own_more {B : Nat} {w wr w1 : World} {v v' : Value} {o : Obj} {xs : List Int} {c : Int} (hB : B ≤ wr.heap.size) (ho : wr.ownsRow B 5 1 v xs.length (xs.map (Value.int .u8))) (hb : Below B w wr)
    (ho' : w1.ownsRow B 5 1 v' (xs.length + 1) (xs.map (Value.int .u8) ++ [.int .u8 c])) (hg : (wr.alloc o).grownBy w1 v.ownBlock) :
    w1.ownsRow B 5 1 v' (xs ++ [c]).length ((xs ++ [c]).map (Value.int .u8)) ∧ Below B w w1 :=
  ⟨by simpa using ho', (hb.alloc hB o).grown hg (by simp; omega) (fun j hj => (ho.lt j hj).1)⟩

end Go.Proofs.YtehdchpolgihlaaDoor

/- What spec.PutText and impl.PutText answer. -/
namespace Go.Proofs.YtehdchpolgihlaaDoor
open Go.RowKit

/-- The bytes of a text. -/
def bs (s : ByteArray) : List Int := s.data.toList.map fun b => (b.toNat : Int)
theorem bs_len (s : ByteArray) : (bs s).length = s.size := by rw [bs, List.length_map, Array.length_toList]; rfl
theorem bs_cells (s : ByteArray) : (bs s).map (Value.int .u8) = Lib.strCells s := by simp [bs, Lib.strCells]
/-- What PutText answers of a text that is not too long. -/
def textAns (s : ByteArray) : List Int := put 4 s.size ++ bs s
theorem textAns_len (s : ByteArray) : (textAns s).length = (put 4 s.size).length + s.size := by rw [textAns, List.length_append, bs_len]

theorem news_cells (w : World) (s : ByteArray) (cap : Nat) (e : TypeId) (fr : Nat × Nat) (j : Nat) (u : Value) (h : (Lib.strCells s)[j]? = some u) :
    (w.alloc (.cells (bytesRow s cap) e fr)).cell? ((⟨w.heap.size, 0, none⟩ : Addr).add j) = some u := by
  have hj : j < s.data.size := by
    have := (List.getElem?_eq_some_iff.1 h).1; simpa [Lib.strCells] using this
  have h1 := bytesRow_at s cap j hj
  have h2 : u = .int .u8 (s.data[j].toNat : Int) := by
    rw [Lib.strCells, List.getElem?_map, Array.getElem?_toList, Array.getElem?_eq_getElem hj] at h
    simpa using h.symm
  subst h2
  rw [show ((⟨w.heap.size, 0, none⟩ : Addr).add j) = ⟨w.heap.size, j, none⟩ from by unfold Addr.add; split <;> simp_all]
  rw [cell_of_row _ w.heap.size j _ e fr (heap_alloc_new w _)]
  exact h1
theorem news_plain (s : ByteArray) (u : Value) (h : u ∈ Lib.strCells s) : u.oneCell' = true := by
  simp [Lib.strCells] at h; obtain ⟨a, _, rfl⟩ := h; rfl

/-- A text behind what is owned. -/
theorem own_text {B : Nat} {w wr w1 : World} {v v' : Value} {xs : List Int} {s : ByteArray} (hB : B ≤ wr.heap.size) (ho : wr.ownsRow B 5 1 v xs.length (xs.map (Value.int .u8))) (hb : Below B w wr)
    (ho' : w1.ownsRow B 5 1 v' (xs.length + s.size) (xs.map (Value.int .u8) ++ Lib.strCells s)) (hg : wr.grownBy w1 v.ownBlock) :
    OB w1 B v' (xs ++ bs s) ∧ Below B w w1 := by
  refine ⟨?_, hb.grown hg hB (fun j hj => (ho.lt j hj).1)⟩
  unfold OB
  rw [List.length_append, bs_len, List.map_append, bs_cells]
  exact ho'

end Go.Proofs.YtehdchpolgihlaaDoor

/- spec.l1DrawNums, DrawGetNum and DrawGetText. -/
namespace Go.Proofs.YtehdchpolgihlaaDoor
open Go.RowKit

/-- Each of a list is a byte. -/
def BytesL (ys : List Int) : Prop := ∀ y ∈ ys, 0 ≤ y ∧ y ≤ 255
theorem bytes_nil : BytesL [] := fun y hy => by cases hy
theorem BytesL.append {a b : List Int} (ha : BytesL a) (hb : BytesL b) : BytesL (a ++ b) := fun y hy => by
  rcases List.mem_append.1 hy with h | h
  · exact ha y h
  · exact hb y h
theorem BytesL.get {ys : List Int} (h : BytesL ys) : ∀ k, k < ys.length → 0 ≤ ys.getD k 0 ∧ ys.getD k 0 ≤ 255 := fun k hk => by
  rw [List.getD_eq_getElem?_getD, List.getElem?_eq_getElem hk]; exact h _ (List.getElem_mem hk)
theorem put_bytes (f n : Nat) (h : n < 128 ^ (f + 1)) : BytesL (put f n) := by
  induction f generalizing n with
  | zero => intro y hy; simp [put] at hy; simp at h; omega
  | succ f ih =>
    by_cases hn : n ≤ 127
    · intro y hy; rw [put_small (f + 1) n hn] at hy; simp at hy; omega
    · rw [put_great f n (by omega)]
      intro y hy
      rcases List.mem_cons.1 hy with rfl | hy
      · omega
      · exact ih (n / 128) (by rw [Nat.pow_succ] at h; exact Nat.div_lt_of_lt_mul (by rw [Nat.mul_comm]; exact h)) y hy
theorem putAns_bytes (n : Int) : BytesL (putAns n) := by
  unfold putAns
  split
  · exact put_bytes 4 _ (by omega)
  · intro y hy; cases hy

theorem OB.grown {w w' : World} {base g : Nat} {v : Value} {xs : List Int} (h : OB w base v xs) (hg : w.grownBy w' (some g)) (hlt : g < base) : OB w' base v xs :=
  World.ownsRow.kept h hg (by
    cases hv : v.ownBlock with
    | none => exact .inl rfl
    | some k => exact .inr fun e => by have := (World.ownsRow.lt h k hv).1; simp at e; omega)
theorem grown_below {w w' : World} (h : Below w.heap.size w w') (row : Option Nat) : w.grownBy w' row := ⟨h.os, h.tape, h.output, h.size, fun k hk _ => h.block k hk⟩
/-- A write into a row that was not there leaves what was. -/
theorem grown_new {a b c : World} {row row' : Option Nat} (h : a.grownBy b row) (k : b.grownBy c row') (hr : ∀ j, row' = some j → a.heap.size ≤ j) : a.grownBy c row :=
  ⟨k.os.trans h.os, k.tape.trans h.tape, k.output.trans h.output, Nat.le_trans h.size k.size, fun i hi hne => (k.block i (Nat.lt_of_lt_of_le hi h.size) (fun e => by have := hr i e.symm; omega)).trans (h.block i hi hne)⟩
theorem ints_plain (ys : List Int) (u : Value) (h : u ∈ ys.map (Value.int .u8)) : u.oneCell' = true := by simp at h; obtain ⟨a, _, rfl⟩ := h; rfl
theorem some_ne (a : Addr) (n c : Nat) : Value.slice (some a) n c ≠ .slice none 0 0 := by simp
theorem two_cells (w : World) (x y : Value) (t : TypeId) (j : Nat) (u : Value) (h : [x, y][j]? = some u) : (w.alloc (.cells #[x, y] t)).cell? ((⟨w.heap.size, 0, none⟩ : Addr).add j) = some u := by
  match j, h with
  | 0, h => simp at h; subst h; simp [Addr.add]
  | 1, h => simp at h; subst h; simp [Addr.add]

end Go.Proofs.YtehdchpolgihlaaDoor

/- What is put is got, what is got was put: plain mathematics of numbers and texts as bytes. -/
namespace Go.Proofs.YtehdchpolgihlaaDoor

/-- A number that is put is got where it stands. -/
theorem getF_put (pre post : List Int) (f m i : Nat) (n : Int) (h0 : 0 ≤ n) (hm : m < 128 ^ (f + 1)) (hi : 0 < i → 0 < m) (hle : n + (m : Int) * 128 ^ i ≤ 2147483647) :
    getF (pre ++ put f m ++ post) (f + 1) i pre.length n = some (n + (m : Int) * 128 ^ i, (pre.length : Int) + (put f m).length) := by
  induction f generalizing pre m i n with
  | zero =>
    have hm' : m ≤ 127 := by simp at hm; omega
    have hp : pre.length < (pre ++ put 0 m ++ post).length := by simp [put]
    have hd : (pre ++ put 0 m ++ post).getD pre.length 0 = (m : Int) := by simp [put]
    have hmod : (m : Int) % 128 = m := by omega
    rw [getF_end _ 0 i pre.length n hp (by rw [hd]; omega) (by rw [hd, hmod]; omega), hd, hmod]
    simp [put]
  | succ f ih =>
    by_cases hs : m ≤ 127
    · have hpt : put (f + 1) m = [(m : Int)] := put_small (f + 1) m hs
      rw [hpt]
      have hp : pre.length < (pre ++ [(m : Int)] ++ post).length := by simp
      have hd : (pre ++ [(m : Int)] ++ post).getD pre.length 0 = (m : Int) := by simp
      have hmod : (m : Int) % 128 = m := by omega
      rw [getF_end _ (f + 1) i pre.length n hp (by rw [hd]; omega) (by rw [hd, hmod]; omega), hd, hmod]
      simp
    · have hpt : put (f + 1) m = ((m : Int) % 128 + 128) :: put f (m / 128) := put_great f m (by omega)
      rw [hpt]
      have hp : pre.length < (pre ++ (((m : Int) % 128 + 128) :: put f (m / 128)) ++ post).length := by simp
      have hd : (pre ++ (((m : Int) % 128 + 128) :: put f (m / 128)) ++ post).getD pre.length 0 = (m : Int) % 128 + 128 := by simp
      have hmod : ((m : Int) % 128 + 128) % 128 = (m : Int) % 128 := by omega
      rw [getF_more _ (f + 1) i pre.length n hp (by rw [hd]; omega), hd, hmod]
      have hl : pre ++ (((m : Int) % 128 + 128) :: put f (m / 128)) ++ post = (pre ++ [(m : Int) % 128 + 128]) ++ put f (m / 128) ++ post := by simp
      have hpow : (128 : Int) ^ (i + 1) = 128 ^ i * 128 := Int.pow_succ 128 i
      have h128 : (0 : Int) ≤ 128 ^ i := Int.pow_nonneg (by omega)
      have hval : n + (m : Int) % 128 * 128 ^ i + ((m / 128 : Nat) : Int) * 128 ^ (i + 1) = n + (m : Int) * 128 ^ i := by
        rw [hpow]
        have hdm : (m : Int) = (m : Int) % 128 + 128 * ((m / 128 : Nat) : Int) := by omega
        have : (m : Int) * 128 ^ i = ((m : Int) % 128 + 128 * ((m / 128 : Nat) : Int)) * 128 ^ i := by rw [← hdm]
        rw [this, Int.add_mul, Int.mul_comm (128 ^ i) 128, ← Int.mul_assoc, Int.mul_comm ((m / 128 : Nat) : Int) 128]
        omega
      have hge : 0 ≤ (m : Int) % 128 * 128 ^ i := Int.mul_nonneg (by omega) h128
      have := ih (pre ++ [(m : Int) % 128 + 128]) (m / 128) (i + 1) (n + (m : Int) % 128 * 128 ^ i) (by omega) (by rw [Nat.pow_succ] at hm; exact Nat.div_lt_of_lt_mul (by rw [Nat.mul_comm]; exact hm)) (by omega) (by rw [hval]; exact hle)
      rw [hl]
      rw [show (pre ++ [(m : Int) % 128 + 128]).length = pre.length + 1 from by simp] at this
      rw [this, hval]
      simp; omega

theorem getNum_put (n : Nat) (post : List Int) (h : n ≤ 2147483647) : getNum (put 4 n ++ post) 0 = some ((n : Int), ((put 4 n).length : Int)) := by
  have := getF_put [] post 4 n 0 0 (by omega) (by omega) (by omega) (by simp; omega)
  rw [show (0 : Int) = ((0 : Nat) : Int) from rfl, getNum_nat]
  simpa using this

/-- What is got was put there, in its shortest form. -/
theorem getF_back (xs : List Int) (hb : ∀ k, k < xs.length → 0 ≤ xs.getD k 0 ∧ xs.getD k 0 ≤ 255) (f i p : Nat) (n m q : Int) (h : getF xs (f + 1) i p n = some (m, q)) :
    ∃ (r e : Nat), m = n + (r : Int) * 128 ^ i ∧ r < 128 ^ (f + 1) ∧ (0 < i → 0 < r) ∧ q = (p : Int) + e ∧ p + e ≤ xs.length ∧ (xs.drop p).take e = put f r := by
  induction f generalizing i p n with
  | zero =>
    by_cases hp : p < xs.length
    · have hx := hb p hp
      by_cases hd : 128 ≤ xs.getD p 0
      · rw [getF_more xs 0 i p n hp hd] at h; simp [getF] at h
      · by_cases hbad : 2147483647 < n + xs.getD p 0 % 128 * 128 ^ i ∨ (xs.getD p 0 = 0 ∧ 0 < i)
        · rw [getF_bad xs 0 i p n hp hd hbad] at h; cases h
        · rw [getF_end xs 0 i p n hp hd hbad] at h
          simp only [Option.some.injEq, Prod.mk.injEq] at h
          obtain ⟨d, hdd⟩ := Int.eq_ofNat_of_zero_le hx.1
          have hdrop : (xs.drop p).take 1 = [xs.getD p 0] := by
            rw [List.drop_eq_getElem_cons hp, List.take_succ_cons, List.take_zero, List.getD_eq_getElem?_getD, List.getElem?_eq_getElem hp]; rfl
          refine ⟨d, 1, ?_, by simp; omega, by omega, by omega, by omega, ?_⟩
          · rw [← h.1, hdd, show ((d : Int) % 128) = d from by omega]
          · rw [hdrop, hdd]; simp [put]
    · rw [getF_out xs _ i p n hp] at h; cases h
  | succ f ih =>
    by_cases hp : p < xs.length
    · have hx := hb p hp
      have hdrop : xs.drop p = xs.getD p 0 :: xs.drop (p + 1) := by
        rw [List.drop_eq_getElem_cons hp, List.getD_eq_getElem?_getD, List.getElem?_eq_getElem hp]; rfl
      obtain ⟨d, hdd⟩ := Int.eq_ofNat_of_zero_le hx.1
      by_cases hd : 128 ≤ xs.getD p 0
      · rw [getF_more xs (f + 1) i p n hp hd] at h
        obtain ⟨r, e, h1, h2, h3, h4, h5, h6⟩ := ih (i + 1) (p + 1) _ h
        have hr := h3 (by omega)
        refine ⟨d % 128 + 128 * r, e + 1, ?_, ?_, by omega, by omega, by omega, ?_⟩
        · rw [h1, hdd, Int.pow_succ, Int.natCast_add, Int.natCast_mul, Int.add_mul, Int.natCast_emod]
          have e1 : ((128 : Nat) : Int) * (r : Int) * 128 ^ i = (r : Int) * (128 ^ i * 128) := by
            rw [Int.mul_comm ((128 : Nat) : Int) (r : Int), Int.mul_assoc, Int.mul_comm ((128 : Nat) : Int) (128 ^ i)]; rfl
          rw [e1]
          have e2 : ((128 : Nat) : Int) = 128 := rfl
          rw [e2]; omega
        · rw [Nat.pow_succ]; omega
        · rw [hdrop, List.take_succ_cons, h6, put_great f _ (by omega)]
          rw [show (d % 128 + 128 * r) / 128 = r from by omega, hdd]
          congr 1; omega
      · by_cases hbad : 2147483647 < n + xs.getD p 0 % 128 * 128 ^ i ∨ (xs.getD p 0 = 0 ∧ 0 < i)
        · rw [getF_bad xs (f + 1) i p n hp hd hbad] at h; cases h
        · rw [getF_end xs (f + 1) i p n hp hd hbad] at h
          simp only [Option.some.injEq, Prod.mk.injEq] at h
          refine ⟨d, 1, ?_, ?_, by omega, by omega, by omega, ?_⟩
          · rw [← h.1, hdd, show ((d : Int) % 128) = d from by omega]
          · have : (128 : Nat) ≤ 128 ^ (f + 1 + 1) := by
              rw [Nat.pow_succ]; have : 0 < 128 ^ (f + 1) := Nat.pow_pos (by omega); omega
            omega
          · rw [hdrop, hdd, put_small (f + 1) d (by omega)]; simp
    · rw [getF_out xs _ i p n hp] at h; cases h

theorem getNum_back (xs : List Int) (hb : BytesL xs) (p m q : Int) (h : getNum xs p = some (m, q)) :
    ∃ (k e : Nat), p = k ∧ q = (k : Int) + e ∧ k + e ≤ xs.length ∧ 0 ≤ m ∧ m ≤ 2147483647 ∧ (xs.drop k).take e = putAns m := by
  have bd := getNum_bd xs hb.get p m q h
  by_cases hp : p < 0
  · rw [getNum_neg xs p hp] at h; cases h
  · obtain ⟨k, rfl⟩ := Int.eq_ofNat_of_zero_le (Int.not_lt.1 hp)
    rw [getNum_nat] at h
    obtain ⟨r, e, h1, h2, _, h4, h5, h6⟩ := getF_back xs hb.get 4 0 k 0 m q h
    have hm : m = (r : Int) := by rw [h1]; simp
    subst hm
    exact ⟨k, e, rfl, h4, h5, by omega, by omega, by rw [h6, putAns_yes r (by omega)]⟩

theorem bs_str (l : List Int) (h : BytesL l) : bs (strOfNums l) = l := by
  unfold bs
  rw [strOfNums_data, List.map_map]
  conv => rhs; rw [← List.map_id l]
  apply List.map_congr_left
  intro x hx
  have := h x hx
  simp; omega
theorem str_bs (s : ByteArray) : strOfNums (bs s) = s := by
  apply ByteArray.ext
  apply Array.toList_inj.1
  rw [strOfNums_data, bs, List.map_map]
  conv => rhs; rw [← List.map_id s.data.toList]
  apply List.map_congr_left
  intro x _
  simp

theorem getText_put (s : ByteArray) (h : s.size ≤ 1048576) : getText (textAns s) 0 = some (s, ((textAns s).length : Int)) := by
  unfold getText textAns
  rw [getNum_put s.size (bs s) (by omega)]
  simp only
  rw [if_pos (by rw [List.length_append, bs_len]; omega)]
  congr 1
  refine Prod.ext ?_ ?_
  · show textAt _ _ _ = s
    unfold textAt
    rw [Int.toNat_natCast, Int.toNat_natCast, List.drop_left, List.take_of_length_le (by rw [bs_len]; omega), str_bs]
  · show _ = _
    rw [List.length_append, bs_len]; omega

theorem getText_back (xs : List Int) (hb : BytesL xs) (p q : Int) (s : ByteArray) (h : getText xs p = some (s, q)) (hl : xs.length ≤ 1000) :
    ∃ (k e : Nat), p = k ∧ q = (k : Int) + e ∧ k + e ≤ xs.length ∧ s.size ≤ 1000 ∧ (xs.drop k).take e = textAns s := by
  unfold getText at h
  cases hg : getNum xs p with
  | none => rw [hg] at h; cases h
  | some x =>
    obtain ⟨n, r⟩ := x
    rw [hg] at h
    obtain ⟨k, e, rfl, rfl, h5, h0, h1, h6⟩ := getNum_back xs hb p n r hg
    obtain ⟨n, rfl⟩ := Int.eq_ofNat_of_zero_le h0
    by_cases hn : (n : Int) ≤ (xs.length : Int) - ((k : Int) + e)
    · simp only [if_pos hn, Option.some.injEq, Prod.mk.injEq] at h
      obtain ⟨rfl, rfl⟩ := h
      have e1 : ((k : Int) + e).toNat = k + e := by omega
      have hw : ((xs.drop (k + e)).take n).length = n := win_len xs (k + e) n (by omega)
      have hbw : BytesL ((xs.drop (k + e)).take n) := fun y hy => hb y (List.mem_of_mem_drop (List.mem_of_mem_take hy))
      have hsz : (textAt xs ((k : Int) + e).toNat ((n : Int)).toNat).size = n := by
        unfold textAt; rw [strOfNums_size, e1, Int.toNat_natCast, hw]
      refine ⟨k, e + n, rfl, by omega, by omega, by rw [hsz]; omega, ?_⟩
      unfold textAns
      rw [hsz]
      unfold textAt
      rw [e1, Int.toNat_natCast, bs_str _ hbw, List.take_add, h6, putAns_yes n (by omega), List.drop_drop]
    · simp [if_neg hn] at h

/-- Parts with a byte between, of the first j. -/
def joinTo (b : UInt8) (ps : List ByteArray) : Nat → List UInt8
  | 0 => []
  | j + 1 => (if 0 < j then joinTo b ps j ++ [b] else joinTo b ps j) ++ (ps.getD j ByteArray.empty).data.toList
theorem joinTo_pre (b : UInt8) (ps qs : List ByteArray) (j : Nat) (h : j ≤ ps.length) : joinTo b (ps ++ qs) j = joinTo b ps j := by
  induction j with
  | zero => rfl
  | succ j ih =>
    have e : (ps ++ qs).getD j ByteArray.empty = ps.getD j ByteArray.empty := by
      rw [List.getD_eq_getElem?_getD, List.getD_eq_getElem?_getD, List.getElem?_append_left (by omega)]
    rw [joinTo, joinTo, ih (by omega), e]
theorem joinTo_snoc (b : UInt8) (ps : List ByteArray) (x : ByteArray) : joinTo b (ps ++ [x]) (ps.length + 1) = (if 0 < ps.length then joinTo b ps ps.length ++ [b] else joinTo b ps ps.length) ++ x.data.toList := by
  have e : (ps ++ [x]).getD ps.length ByteArray.empty = x := by simp
  rw [joinTo, joinTo_pre b ps [x] ps.length (Nat.le_refl _), e]
theorem joinTo_le (b : UInt8) (ps : List ByteArray) (i j : Nat) (h : i ≤ j) : (joinTo b ps i).length ≤ (joinTo b ps j).length := by
  induction j with
  | zero => obtain rfl : i = 0 := by omega
            exact Nat.le_refl _
  | succ j ih =>
    by_cases hij : i = j + 1
    · subst hij; exact Nat.le_refl _
    · have := ih (by omega)
      rw [joinTo]
      by_cases h0 : 0 < j
      · rw [if_pos h0]; simp; omega
      · rw [if_neg h0]; simp; omega
theorem ext_cut (s : ByteArray) (i j : Nat) : (s.extract i j).data.toList = (s.data.toList.drop i).take (j - i) := by
  rw [ByteArray.data_extract, Array.toList_extract]
theorem split_inv (s : ByteArray) (b : UInt8) (k : Nat) (hk : k ≤ s.size) :
    ((pcs s b.toNat k).1 = [] ∧ (pcs s b.toNat k).2 = 0) ∨ (0 < (pcs s b.toNat k).1.length ∧ joinTo b (pcs s b.toNat k).1 (pcs s b.toNat k).1.length ++ [b] = s.data.toList.take (pcs s b.toNat k).2) := by
  induction k with
  | zero => left; simp [pcs]
  | succ k ih =>
    have ih := ih (by omega)
    have hks : k < s.size := by omega
    by_cases hb : (s[k].toNat : Int) = b.toNat
    · rw [pcs_hit s _ k hks hb]
      right
      have hle := (pcs_le s b.toNat k).1
      have hbb : s[k] = b := by
        apply UInt8.toNat_inj.1; omega
      have htk : s.data.toList.take (k + 1) = s.data.toList.take k ++ [b] := by
        rw [List.take_succ_eq_append_getElem (by simpa using hks)]
        congr 1
        rw [← hbb]; rfl
      refine ⟨by simp, ?_⟩
      simp only [List.length_append, List.length_cons, List.length_nil, Nat.zero_add]
      rw [joinTo_snoc, ext_cut, htk]
      congr 1
      rcases ih with ⟨h1, h2⟩ | ⟨h1, h2⟩
      · rw [h1, h2]; simp [joinTo]
      · rw [if_pos h1, h2]
        rw [← List.take_add]
        congr 1; omega
    · rw [pcs_miss s _ k hks hb]; exact ih
theorem split_join (s : ByteArray) (b : UInt8) : joinTo b (splitAns s b.toNat) (splitAns s b.toNat).length = s.data.toList := by
  have hle := (pcs_le s b.toNat s.size).1
  have hinv := split_inv s b s.size (Nat.le_refl _)
  have hlen : s.data.toList.length = s.size := by simp
  unfold splitAns
  simp only [List.length_append, List.length_cons, List.length_nil, Nat.zero_add]
  rw [joinTo_snoc, ext_cut]
  rcases hinv with ⟨h1, h2⟩ | ⟨h1, h2⟩
  · rw [h1, h2]
    simp only [List.length_nil, joinTo, List.drop_zero, Nat.sub_zero]
    rw [List.take_of_length_le (by omega)]; simp
  · rw [if_pos h1, h2, ← List.take_add, List.take_of_length_le (by omega)]
end Go.Proofs.YtehdchpolgihlaaDoor

/- TxsText of the program and of the specification. -/
namespace Go.Proofs.YtehdchpolgihlaaDoor
open Go.RowKit
set_option linter.unusedSectionVars false
variable [∀ (a b c d : Int), Decidable (Ok4 a b c d)]
variable [∀ (a b c d : Nat), Decidable (okN a b c d)]

def OkT (x : T4) : Prop := Ok4 x.1 x.2.1 x.2.2.1 x.2.2.2
variable [∀ (x : T4), Decidable (OkT x)]
def txT (x : T4) : ByteArray := txt x.1 x.2.1 x.2.2.1 x.2.2.2
/-- The text of the first k payments. -/
def accT (xs : List T4) : Nat → List UInt8
  | 0 => []
  | k + 1 => (if 0 < k then accT xs k ++ [44] else accT xs k) ++ (txT (xs.getD k (0, 0, 0, 0))).data.toList
/-- What TxsText answers. -/
def txsT (xs : List T4) : ByteArray := if ∀ x ∈ xs, OkT x then toB (accT xs xs.length) else ⟨#[]⟩
theorem ok_nat {a b c d : Int} (h : Ok4 a b c d) : ∃ a' b' c' d' : Nat, a = a' ∧ b = b' ∧ c = c' ∧ d = d' := by
  obtain ⟨⟨a1, _⟩, ⟨b1, _⟩, ⟨c1, _⟩, ⟨d1, _⟩⟩ := h
  exact ⟨a.toNat, b.toNat, c.toNat, d.toNat, by omega, by omega, by omega, by omega⟩
theorem txT_size (x : T4) : (txT x).size ≤ 27 := by
  unfold txT txt
  split
  · rename_i h
    obtain ⟨a, b, c, d⟩ := x
    obtain ⟨⟨a1, a2⟩, ⟨b1, b2⟩, ⟨c1, c2⟩, ⟨d1, d2⟩⟩ := h
    simp only at *
    have za := dg_size a (by omega) (by omega)
    have zb := dg_size b (by omega) (by omega)
    have zc := dg_size c (by omega) (by omega)
    have zd := dg_size d (by omega) (by omega)
    have o : ∀ c : UInt8, (⟨#[c]⟩ : ByteArray).size = 1 := fun _ => rfl
    unfold txs dg
    rw [ByteArray.size_append, ByteArray.size_append, ByteArray.size_append, ByteArray.size_append, ByteArray.size_append, ByteArray.size_append, o, o, o]
    omega
  · exact Nat.zero_le _
theorem txT_ne {x : T4} (h : OkT x) : txT x ≠ ⟨#[]⟩ := by
  unfold txT txt
  obtain ⟨a, b, c, d⟩ := x
  show (if Ok4 a b c d then txs a b c d else (⟨#[]⟩ : ByteArray)) ≠ _
  rw [if_pos (show Ok4 a b c d from h)]
  obtain ⟨a', b', c', d', rfl, rfl, rfl, rfl⟩ := ok_nat h
  rw [txs_toB]
  intro e
  have := congrArg (fun s : ByteArray => s.data.toList) e
  exact txl_ne a' b' c' d' this
theorem txT_no {x : T4} (h : ¬ OkT x) : txT x = ⟨#[]⟩ := by unfold txT txt; exact if_neg h
theorem size_len (s : ByteArray) : s.data.toList.length = s.size := by simp
theorem accT_len (xs : List T4) (k : Nat) : (accT xs k).length ≤ k * 28 := by
  induction k with
  | zero => simp [accT]
  | succ k ih =>
    have := txT_size (xs.getD k (0, 0, 0, 0))
    have e := size_len (txT (xs.getD k (0, 0, 0, 0)))
    rw [accT]
    split <;> simp only [List.length_append, List.length_cons, List.length_nil, e] <;> omega
theorem txsT_no {xs : List T4} {k : Nat} (hk : k < xs.length) (h : ¬ OkT (xs.getD k (0, 0, 0, 0))) : txsT xs = ⟨#[]⟩ := by
  unfold txsT
  rw [if_neg]
  intro ha
  exact h (ha _ (by rw [List.getD_eq_getElem?_getD, List.getElem?_eq_getElem hk]; exact List.getElem_mem hk))
theorem txsT_yes {xs : List T4} (h : ∀ k, k < xs.length → OkT (xs.getD k (0, 0, 0, 0))) : txsT xs = toB (accT xs xs.length) := by
  unfold txsT
  rw [if_pos]
  intro x hx
  obtain ⟨k, hk, rfl⟩ := List.mem_iff_getElem.1 hx
  have := h k hk
  rwa [List.getD_eq_getElem?_getD, List.getElem?_eq_getElem hk] at this
theorem toB_append (x y : List UInt8) : toB x ++ toB y = toB (x ++ y) := by
  apply ByteArray.ext; apply Array.toList_inj.1; simp [toB]
theorem ne2 {s : ByteArray} (hz : s ≠ ⟨#[]⟩) : (s.toList == []) = false := by
  rw [beq_eq_false_iff_ne]; intro e; apply hz; apply ByteArray.ext; apply Array.toList_inj.1; rw [ByteArray.toList_eq] at e; exact e

end Go.Proofs.YtehdchpolgihlaaDoor

/- Texts joined and parted. Nothing of the program. -/
namespace Go.Proofs.YtehdchpolgihlaaDoor
set_option linter.unusedSectionVars false
variable [∀ (a b c d : Int), Decidable (Ok4 a b c d)]
variable [∀ (a b c d : Nat), Decidable (okN a b c d)]
variable [∀ (x : T4), Decidable (OkT x)]

/-- Texts with a comma between. -/
def jn : List (List UInt8) → List UInt8
  | [] => []
  | [p] => p
  | p :: q :: r => p ++ 44 :: jn (q :: r)
theorem jn_snoc (ps : List (List UInt8)) (p : List UInt8) : jn (ps ++ [p]) = (if 0 < ps.length then jn ps ++ [44] else jn ps) ++ p := by
  induction ps with
  | nil => simp [jn]
  | cons x ps ih =>
    cases ps with
    | nil => simp [jn]
    | cons y ps =>
      rw [List.cons_append] at ih
      rw [List.cons_append, List.cons_append, jn, jn, ih]
      simp
theorem jn_unique (ps qs : List (List UInt8)) (hp : ∀ p ∈ ps, 44 ∉ p) (hq : ∀ q ∈ qs, 44 ∉ q) (hn : ps ≠ []) (hm : qs ≠ []) (h : jn ps = jn qs) : ps = qs := by
  induction ps generalizing qs with
  | nil => exact absurd rfl hn
  | cons p ps ih =>
    cases qs with
    | nil => exact absurd rfl hm
    | cons q qs =>
      have hp0 := hp p (by simp)
      have hq0 := hq q (by simp)
      cases ps with
      | nil =>
        cases qs with
        | nil => simp [jn] at h; rw [h]
        | cons q' qs => simp only [jn] at h; rw [h] at hp0; simp at hp0
      | cons p' ps =>
        cases qs with
        | nil => simp only [jn] at h; rw [← h] at hq0; simp at hq0
        | cons q' qs =>
          simp only [jn] at h
          have e1 : p = q := by rw [← hd_some (y := jn (p' :: ps)) hp0, h, hd_some hq0]
          have e2 : jn (p' :: ps) = jn (q' :: qs) := by rw [← tl_some (x := p) (y := jn (p' :: ps)) hp0, h, tl_some hq0]
          rw [e1, ih (q' :: qs) (fun x hx => hp x (by simp at hx ⊢; exact .inr hx)) (fun x hx => hq x (by simp at hx ⊢; exact .inr hx)) (by simp) (by simp) e2]
theorem joinTo_jn (ps : List ByteArray) (k : Nat) (hk : k ≤ ps.length) : joinTo 44 ps k = jn ((ps.take k).map fun s => s.data.toList) := by
  induction k with
  | zero => simp [joinTo, jn]
  | succ k ih =>
    rw [joinTo, ih (by omega), take_more ps k (by omega), List.map_append, List.map_singleton, jn_snoc]
    simp only [List.length_map, List.length_take]
    rw [show min k ps.length = k from by omega]
theorem accT_jn (xs : List T4) (k : Nat) (hk : k ≤ xs.length) : accT xs k = jn ((xs.take k).map fun x => (txT x).data.toList) := by
  induction k with
  | zero => simp [accT, jn]
  | succ k ih =>
    have e : xs.take (k + 1) = xs.take k ++ [xs.getD k (0, 0, 0, 0)] := by
      rw [List.take_succ_eq_append_getElem (by omega), List.getD_eq_getElem?_getD, List.getElem?_eq_getElem (by omega)]; rfl
    rw [accT, ih (by omega), e, List.map_append, List.map_singleton, jn_snoc]
    simp only [List.length_map, List.length_take]
    rw [show min k xs.length = k from by omega]
theorem pcs_clean (s : ByteArray) (k : Nat) (hk : k ≤ s.size) : (∀ p ∈ (pcs s 44 k).1, (44 : UInt8) ∉ p.data.toList) ∧ (44 : UInt8) ∉ (s.data.toList.drop (pcs s 44 k).2).take (k - (pcs s 44 k).2) := by
  induction k with
  | zero => simp [pcs]
  | succ k ih =>
    obtain ⟨h1, h2⟩ := ih (by omega)
    have hle := (pcs_le s 44 k).1
    by_cases hb : (s[k].toNat : Int) = 44
    · rw [pcs_hit s 44 k (by omega) hb]
      refine ⟨fun p hp => ?_, by simp⟩
      rw [List.mem_append] at hp
      rcases hp with hp | hp
      · exact h1 p hp
      · simp at hp; rw [hp, ext_list]; exact h2
    · rw [pcs_miss s 44 k (by omega) hb]
      refine ⟨h1, ?_⟩
      have e := not_mem_more (m := 44) (l := s.data.toList) (n := (pcs s 44 k).2) (pos := k) (v := 1) hle h2 (fun j hj => by
        obtain rfl : j = 0 := by omega
        rw [Nat.add_zero, List.getElem?_eq_getElem (by simp; omega)]
        intro e
        have e' : s[k] = 44 := Option.some.inj e
        rw [e'] at hb; exact hb rfl)
      exact e
theorem split_clean (s : ByteArray) : ∀ p ∈ splitAns s 44, (44 : UInt8) ∉ p.data.toList := by
  intro p hp
  obtain ⟨h1, h2⟩ := pcs_clean s s.size (Nat.le_refl _)
  unfold splitAns at hp
  rw [List.mem_append] at hp
  rcases hp with hp | hp
  · exact h1 p hp
  · simp at hp; rw [hp, ext_list]; exact h2
theorem split_ne (s : ByteArray) : splitAns s 44 ≠ [] := by unfold splitAns; simp
theorem txT_clean (x : T4) : (44 : UInt8) ∉ (txT x).data.toList := by
  unfold txT txt
  obtain ⟨a, b, c, d⟩ := x
  by_cases h : Ok4 a b c d
  · show (44 : UInt8) ∉ (if Ok4 a b c d then txs a b c d else (⟨#[]⟩ : ByteArray)).data.toList
    rw [if_pos h]
    obtain ⟨a', b', c', d', rfl, rfl, rfl, rfl⟩ := ok_nat h
    rw [txs_toB, toB_list]
    unfold txl
    have n := fun n => no_mark n 44 (by decide)
    simp [n]
  · show (44 : UInt8) ∉ (if Ok4 a b c d then txs a b c d else (⟨#[]⟩ : ByteArray)).data.toList
    rw [if_neg h]; simp
theorem isTx_T {s : ByteArray} {q : Nat × Nat × Nat × Nat} (h : txAns s.data.toList = some q) : txT (toT q) = s ∧ OkT (toT q) := by
  obtain ⟨a, b, c, d⟩ := q
  have hi := txAns_is h
  exact ⟨isTx_txt hi, ok_cast.2 hi.1⟩
theorem ok_T {x : T4} (h : OkT x) : ∃ q, toT q = x ∧ txAns (txT x).data.toList = some q := by
  obtain ⟨a, b, c, d⟩ := x
  obtain ⟨a', b', c', d', rfl, rfl, rfl, rfl⟩ := ok_nat h
  refine ⟨(a', b', c', d'), rfl, txAns_some ⟨ok_cast.1 h, ?_⟩⟩
  show _ = (if Ok4 (a' : Int) b' c' d' then txs a' b' c' d' else (⟨#[]⟩ : ByteArray)).data.toList
  rw [if_pos (show Ok4 (a' : Int) b' c' d' from h), txs_toB, toB_list]
theorem allTx_texts {ps : List ByteArray} {ys : List T4} (h : allTx ps = some ys) : ys.map txT = ps ∧ ∀ y ∈ ys, OkT y := by
  induction ps generalizing ys with
  | nil => simp [allTx] at h; subst h; simp
  | cons p ps ih =>
    rw [allTx] at h
    cases hp : txAns p.data.toList with
    | none => rw [hp] at h; cases h
    | some q =>
      rw [hp] at h
      cases hq : allTx ps with
      | none => rw [hq] at h; cases h
      | some zs =>
        rw [hq] at h; simp at h; subst h
        obtain ⟨i1, i2⟩ := ih hq
        obtain ⟨j1, j2⟩ := isTx_T hp
        refine ⟨by simp [i1, j1], fun y hy => ?_⟩
        simp at hy
        rcases hy with rfl | hy
        · exact j2
        · exact i2 y hy
theorem allTx_of (ys : List T4) (h : ∀ y ∈ ys, OkT y) : allTx (ys.map txT) = some ys := by
  induction ys with
  | nil => rfl
  | cons y ys ih =>
    obtain ⟨q, e, hq⟩ := ok_T (h y (by simp))
    rw [List.map_cons, allTx, hq, ih (fun z hz => h z (by simp [hz]))]
    simp [e]
/-- What is read of a text is told as that text. -/
theorem txsAns_text {s : ByteArray} {ys : List T4} (h : txsAns s = some ys) : txsT ys = s := by
  unfold txsAns at h
  split at h
  · rename_i hz
    simp at h; subst h
    unfold txsT; simp [accT, toB, hz]
  · obtain ⟨h1, h2⟩ := allTx_texts h
    unfold txsT
    rw [if_pos h2, accT_jn ys ys.length (Nat.le_refl _), List.take_of_length_le (Nat.le_refl _)]
    have hj := split_join s 44
    have e44 : (((44 : UInt8).toNat : Nat) : Int) = 44 := rfl
    rw [e44, joinTo_jn _ _ (Nat.le_refl _), List.take_of_length_le (Nat.le_refl _), ← h1, List.map_map] at hj
    have hj' : jn (ys.map fun x => (txT x).data.toList) = s.data.toList := hj
    rw [hj', toB_data]
/-- What is told of payments is read as they were. -/
theorem txsAns_of (ys : List T4) (h : ∀ y ∈ ys, OkT y) : txsAns (txsT ys) = some ys := by
  have e : txsT ys = toB (jn (ys.map fun x => (txT x).data.toList)) := by
    unfold txsT
    rw [if_pos h, accT_jn ys ys.length (Nat.le_refl _), List.take_of_length_le (Nat.le_refl _)]
  cases ys with
  | nil => rw [e]; unfold txsAns; simp [jn, toB]
  | cons y ys =>
    have hne : txsT (y :: ys) ≠ ⟨#[]⟩ := by
      rw [e]
      intro hz
      have hz' := congrArg (fun s : ByteArray => s.data.toList) hz
      have hy := txT_ne (h y (by simp))
      cases ys with
      | nil => simp [jn, toB] at hz'; exact hy (ByteArray.ext hz')
      | cons y' ys => simp [jn, toB] at hz'
    unfold txsAns
    rw [if_neg hne]
    have hj := split_join (txsT (y :: ys)) 44
    have e44 : (((44 : UInt8).toNat : Nat) : Int) = 44 := rfl
    rw [e44, joinTo_jn _ _ (Nat.le_refl _), List.take_of_length_le (Nat.le_refl _)] at hj
    have hl : (txsT (y :: ys)).data.toList = jn ((y :: ys).map fun x => (txT x).data.toList) := by rw [e]; rfl
    rw [hl] at hj
    have hu := jn_unique _ _ (fun p hp => by
      obtain ⟨z, hz, rfl⟩ := List.mem_map.1 hp
      exact split_clean _ z hz) (fun q hq => by
      obtain ⟨z, _, rfl⟩ := List.mem_map.1 hq
      exact txT_clean z) (by simp [split_ne]) (by simp) hj
    have hs : splitAns (txsT (y :: ys)) 44 = (y :: ys).map txT := by
      have inj : ∀ (a b : List ByteArray), a.map (fun s => s.data.toList) = b.map (fun s => s.data.toList) → a = b := by
        intro a
        induction a with
        | nil => intro b hb; cases b with
          | nil => rfl
          | cons => simp at hb
        | cons x a ih =>
          intro b hb
          cases b with
          | nil => simp at hb
          | cons z b =>
            simp at hb
            rw [ih b hb.2, ByteArray.ext hb.1]
      apply inj
      rw [hu, List.map_map]; rfl
    rw [hs]
    exact allTx_of _ h
end Go.Proofs.YtehdchpolgihlaaDoor
