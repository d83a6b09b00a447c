/- Texts that belong together: NumPlain, TxPlain, CutPlain, CutWorld, Cut, ToTx, OneStr, DigPlain, SpecDigits, ShelfItoa, Digits, ShelfAtoi, Atoi, SpecNumber. -/
import Derived.WalkKit
import Derived.Lib.ItoaNum
import Derived.Lib.Atoi
import Derived.Laws.RangeString
import Derived.Laws.RangeAny
import Derived.Test.YtgfboghieejbkaaGreatDoorVAA
import Derived.Laws.BytesArg
import Derived.Shelf.Strings.Builder1
import Derived.Shelf.Small.Wraps
import Derived.Shelf.Strconv.Atoi
import Derived.Shelf.Strconv.Itoa0
import Derived.Shelf.Strconv.Itoa1
import Derived.Shelf.LaysM
import Derived.Shelf.Strconv.Itoa2
import Derived.Shelf.Strconv.Itoa3
import Derived.Shelf.Strconv.AtoiErrFast
import Derived.Shelf.Strconv.ParseIntEmpty
import Derived.Shelf.Strconv.AtoiFail
import Derived.Shelf.Strconv.Clone
import Derived.Shelf.Strconv.SyntaxError
import Derived.Shelf.LaysC
import Derived.Shelf.Strconv.ToError
import Derived.Shelf.Strconv.Lower
import Derived.Shelf.Strconv.ParseUint10
import Derived.Shelf.Strconv.ParseUint10Empty
import Derived.Shelf.Strconv.ParseUint10Any
import Derived.Shelf.Strconv.ParseInt10
import Derived.Shelf.Strconv.AtoiLong
import Derived.Shelf.Strconv.AtoiInnerAll
import Derived.Shelf.Strconv.RangeError
import Derived.Shelf.Strconv.ToErrorRange
import Derived.Shelf.Strconv.AtoiAll
import Derived.Shelf.Strconv.ErrVarAll
import Derived.Shelf.Strings.Search1
import Derived.Shelf.Sort.Plain
import Derived.Shelf.Strings.LastIndex
import Derived.Shelf.Strings.Prefix
import Derived.Shelf.Slices.In.SortNone
import Derived.Test.YtgfboghieejbkaaGreatDoorProg
import Derived.Lib.LaidTab
import Derived.Sort.Grow
import Derived.Lib.AtoiErrMem
namespace Go.Proofs.YtgfboghieejbkaaGreatDoor

theorem decFrom_append (l r : List UInt8) (acc : Nat) : Lib.decFrom acc (l ++ r) = (Lib.decFrom acc l).bind fun a => Lib.decFrom a r := by
  induction l generalizing acc with
  | nil => rfl
  | cons b l ih =>
    rw [List.cons_append, Lib.decFrom, Lib.decFrom]
    cases Lib.digitVal b with
    | none => rfl
    | some d => exact ih _
theorem digit_ofNat (k : Nat) (h : k < 10) : Lib.digitVal (UInt8.ofNat (48 + k)) = some k := by
  have e : (UInt8.ofNat (48 + k)).toNat = 48 + k := by simp; omega
  rw [Lib.digitVal, if_pos (by omega), e]; congr 1; omega
theorem decFrom_digits (n : Nat) : Lib.decFrom 0 (Lib.decDigits n) = some n := by
  induction n using Nat.strongRecOn with
  | ind n ih =>
    rw [Lib.decDigits]
    by_cases h : n < 10
    · rw [dif_pos h]
      simp only [Lib.decFrom, digit_ofNat n h]; simp
    · rw [dif_neg h, decFrom_append, ih (n / 10) (by omega)]
      simp only [Option.bind_some, Lib.decFrom, digit_ofNat (n % 10) (by omega)]
      congr 1; omega
theorem digits_ne (n : Nat) : Lib.decDigits n ≠ [] := by
  intro h
  have := Lib.decDigits_length n
  rw [h] at this
  have := Lib.nDigits_pos n
  simp at *; omega
theorem atoi_digits (n : Nat) : Lib.atoi (Lib.decDigits n) = some (n : Int) := by
  have hd := decFrom_digits n
  have hne := digits_ne n
  cases hl : Lib.decDigits n with
  | nil => exact absurd hl hne
  | cons b r =>
    rw [hl] at hd
    obtain ⟨d, hb⟩ := Lib.digit_of_decFrom (b :: r) 0 n hd 0 b rfl
    have hb' := Lib.digitVal_eq hb
    have h45 : (b == 45) = false := by
      rw [beq_eq_false_iff_ne]; intro e; subst e; simp at hb'
    have h43 : (b == 43) = false := by
      rw [beq_eq_false_iff_ne]; intro e; subst e; simp at hb'
    simp [Lib.atoi, h45, h43, Lib.decNat, hd]
theorem nDigits_six (n : Nat) (h : n ≤ 999999) : Lib.nDigits n ≤ 6 := by
  have step : ∀ m k, (m < 10 → 1 ≤ k) → (¬ m < 10 → Lib.nDigits (m / 10) + 1 ≤ k) → Lib.nDigits m ≤ k := by
    intro m k h1 h2
    by_cases hm : m < 10
    · rw [Lib.nDigits_small hm]; exact h1 hm
    · rw [Lib.nDigits_big hm]; exact h2 hm
  refine step _ _ (fun _ => by omega) fun _ => Nat.succ_le_of_lt (Nat.lt_of_le_of_lt (step _ 5 (fun _ => by omega) fun _ => Nat.succ_le_of_lt (Nat.lt_of_le_of_lt (step _ 4 (fun _ => by omega) fun _ => Nat.succ_le_of_lt (Nat.lt_of_le_of_lt (step _ 3 (fun _ => by omega) fun _ => Nat.succ_le_of_lt (Nat.lt_of_le_of_lt (step _ 2 (fun _ => by omega) fun _ => Nat.succ_le_of_lt (Nat.lt_of_le_of_lt (step _ 1 (fun _ => by omega) fun _ => ?_) (by omega))) (by omega))) (by omega))) (by omega))) (by omega))
  omega

def numOf (l : List UInt8) : Option Nat :=
  match Lib.decFrom 0 l with
  | some n => if n ≤ 999999 ∧ Lib.decDigits n = l then some n else none
  | none => none
theorem numOf_some {l : List UInt8} {n : Nat} (h : numOf l = some n) : n ≤ 999999 ∧ Lib.decDigits n = l := by
  unfold numOf at h
  cases hd : Lib.decFrom 0 l with
  | none => rw [hd] at h; cases h
  | some m =>
    rw [hd] at h
    by_cases hc : m ≤ 999999 ∧ Lib.decDigits m = l
    · simp only [if_pos hc, Option.some.injEq] at h; subst h; exact hc
    · simp only [if_neg hc] at h; cases h
theorem numOf_of {n : Nat} (h : n ≤ 999999) : numOf (Lib.decDigits n) = some n := by
  unfold numOf; rw [decFrom_digits]; simp [h]
theorem numOf_len {l : List UInt8} {n : Nat} (h : numOf l = some n) : 1 ≤ l.length ∧ l.length ≤ 6 := by
  obtain ⟨h1, rfl⟩ := numOf_some h
  rw [Lib.decDigits_length]
  exact ⟨Lib.nDigits_pos n, nDigits_six n h1⟩
theorem numOf_none_len {l : List UInt8} (h : l.length < 1 ∨ 6 < l.length) : numOf l = none := by
  cases hn : numOf l with
  | none => rfl
  | some n => have := numOf_len hn; omega
theorem numOf_none_dec {l : List UInt8} (h : Lib.decFrom 0 l = none) : numOf l = none := by unfold numOf; rw [h]
theorem numOf_none_byte {l : List UInt8} {k : Nat} {b : UInt8} (hk : l[k]? = some b) (hb : b.toNat < 48 ∨ 57 < b.toNat) : numOf l = none := by
  refine numOf_none_dec ?_
  cases hd : Lib.decFrom 0 l with
  | none => rfl
  | some n =>
    obtain ⟨d, h⟩ := Lib.digit_of_decFrom l 0 n hd k b hk
    have := Lib.digitVal_eq h
    omega
theorem numOf_yes {l : List UInt8} {n : Nat} (hd : Lib.decFrom 0 l = some n) (hn : n ≤ 999999) (h : Lib.decDigits n = l) : numOf l = some n := by unfold numOf; rw [hd]; simp [hn, h]
theorem numOf_no {l : List UInt8} {n : Nat} (hd : Lib.decFrom 0 l = some n) (h : Lib.decDigits n ≠ l) : numOf l = none := by unfold numOf; rw [hd]; simp [h]
theorem itoa_nat (n : Nat) : Lib.itoa (n : Int) = Lib.decDigits n := by rw [Lib.itoa, if_neg (by omega), Int.toNat_natCast]
def nans (r : Option Nat) : Int := match r with | some n => (n : Int) | none => 0

def hd (m : UInt8) (l : List UInt8) : List UInt8 := l.takeWhile (· != m)
def tl (m : UInt8) (l : List UInt8) : List UInt8 := (l.dropWhile (· != m)).tail
theorem hd_none {m : UInt8} {l : List UInt8} (h : m ∉ l) : hd m l = l := by
  unfold hd
  induction l with
  | nil => rfl
  | cons b l ih =>
    simp at h
    rw [List.takeWhile_cons_of_pos (by simp; exact fun e => h.1 e.symm), ih h.2]
theorem tl_none {m : UInt8} {l : List UInt8} (h : m ∉ l) : tl m l = [] := by
  unfold tl
  induction l with
  | nil => rfl
  | cons b l ih =>
    simp at h
    rw [List.dropWhile_cons_of_pos (by simp; exact fun e => h.1 e.symm)]; exact ih h.2
theorem hd_some {m : UInt8} {x y : List UInt8} (h : m ∉ x) : hd m (x ++ m :: y) = x := by
  unfold hd
  induction x with
  | nil => simp
  | cons b x ih =>
    simp at h
    rw [List.cons_append, List.takeWhile_cons_of_pos (by simp; exact fun e => h.1 e.symm), ih h.2]
theorem tl_some {m : UInt8} {x y : List UInt8} (h : m ∉ x) : tl m (x ++ m :: y) = y := by
  unfold tl
  induction x with
  | nil => simp
  | cons b x ih =>
    simp at h
    rw [List.cons_append, List.dropWhile_cons_of_pos (by simp; exact fun e => h.1 e.symm)]; exact ih h.2
theorem hd_tl {m : UInt8} {l : List UInt8} (h : tl m l ≠ []) : l = hd m l ++ m :: tl m l := by
  unfold hd tl at *
  induction l with
  | nil => simp at h
  | cons b l ih =>
    by_cases hb : b = m
    · subst hb; simp
    · rw [List.takeWhile_cons_of_pos (by simpa using hb), List.dropWhile_cons_of_pos (by simpa using hb), List.cons_append]
      rw [List.dropWhile_cons_of_pos (by simpa using hb)] at h
      rw [← ih h]

def f0 (l : List UInt8) : List UInt8 := hd 62 l
def f1 (l : List UInt8) : List UInt8 := hd 58 (tl 62 l)
def f2 (l : List UInt8) : List UInt8 := hd 35 (tl 58 (tl 62 l))
def f3 (l : List UInt8) : List UInt8 := tl 35 (tl 58 (tl 62 l))

def okN (a b c d : Nat) : Prop := a ≤ 3 ∧ b ≤ 3 ∧ c ≤ 1000 ∧ d ≤ 99
def txl (a b c d : Nat) : List UInt8 := Lib.decDigits a ++ 62 :: (Lib.decDigits b ++ 58 :: (Lib.decDigits c ++ 35 :: Lib.decDigits d))
def IsTx (l : List UInt8) (a b c d : Nat) : Prop := okN a b c d ∧ txl a b c d = l

theorem digit_mem {n : Nat} {x : UInt8} (h : x ∈ Lib.decDigits n) : 48 ≤ x.toNat ∧ x.toNat ≤ 57 := by
  obtain ⟨k, hk, e⟩ := List.mem_iff_getElem.1 h
  obtain ⟨d, hd⟩ := Lib.digit_of_decFrom (Lib.decDigits n) 0 n (decFrom_digits n) k x (by rw [List.getElem?_eq_getElem hk, e])
  have := Lib.digitVal_eq hd
  omega
theorem no_mark (n : Nat) (m : UInt8) (h : m.toNat < 48 ∨ 57 < m.toNat) : m ∉ Lib.decDigits n := fun hm => by
  have := digit_mem hm; omega

theorem fields_of {l : List UInt8} {a b c d : Nat} (h : IsTx l a b c d) : f0 l = Lib.decDigits a ∧ f1 l = Lib.decDigits b ∧ f2 l = Lib.decDigits c ∧ f3 l = Lib.decDigits d := by
  obtain ⟨_, rfl⟩ := h
  have h0 : (62 : UInt8) ∉ Lib.decDigits a := no_mark a 62 (by decide)
  have h1 : (58 : UInt8) ∉ Lib.decDigits b := no_mark b 58 (by decide)
  have h2 : (35 : UInt8) ∉ Lib.decDigits c := no_mark c 35 (by decide)
  unfold f0 f1 f2 f3 txl
  rw [hd_some h0, tl_some h0, hd_some h1, tl_some h1, hd_some h2, tl_some h2]
  exact ⟨rfl, rfl, rfl, rfl⟩
theorem nums_of {l : List UInt8} {a b c d : Nat} (h : IsTx l a b c d) : numOf (f0 l) = some a ∧ numOf (f1 l) = some b ∧ numOf (f2 l) = some c ∧ numOf (f3 l) = some d := by
  obtain ⟨e0, e1, e2, e3⟩ := fields_of h
  obtain ⟨⟨h0, h1, h2, h3⟩, _⟩ := h
  rw [e0, e1, e2, e3]
  exact ⟨numOf_of (by omega), numOf_of (by omega), numOf_of (by omega), numOf_of (by omega)⟩
theorem tl_nil (m : UInt8) : tl m [] = [] := rfl
theorem hd_nil (m : UInt8) : hd m [] = [] := rfl
theorem isTx_of {l : List UInt8} {a b c d : Nat} (h0 : numOf (f0 l) = some a) (h1 : numOf (f1 l) = some b) (h2 : numOf (f2 l) = some c) (h3 : numOf (f3 l) = some d) (hk : okN a b c d) : IsTx l a b c d := by
  refine ⟨hk, ?_⟩
  obtain ⟨_, e0⟩ := numOf_some h0
  obtain ⟨_, e1⟩ := numOf_some h1
  obtain ⟨_, e2⟩ := numOf_some h2
  obtain ⟨_, e3⟩ := numOf_some h3
  have n1 := digits_ne b
  have n2 := digits_ne c
  have n3 := digits_ne d
  unfold txl
  rw [e0, e1, e2, e3]
  rw [e1] at n1; rw [e2] at n2; rw [e3] at n3
  unfold f0 f1 f2 f3 at *
  have t0 : tl 62 l ≠ [] := fun e => n1 (by rw [e, hd_nil])
  have t1 : tl 58 (tl 62 l) ≠ [] := fun e => n2 (by rw [e, hd_nil])
  rw [← hd_tl n3, ← hd_tl t1, ← hd_tl t0]
end Go.Proofs.YtgfboghieejbkaaGreatDoor
namespace Go.Proofs.YtgfboghieejbkaaGreatDoor
open Go

theorem hit_hd {m : UInt8} {r : List UInt8} {j : Nat} (h : m ∉ r.take j) (hj : r[j]? = some m) : hd m r = r.take j ∧ tl m r = r.drop (j + 1) := by
  have hl : j < r.length := (List.getElem?_eq_some_iff.1 hj).1
  have hm : r[j] = m := (List.getElem?_eq_some_iff.1 hj).2
  have e : r = r.take j ++ m :: r.drop (j + 1) := by
    rw [← hm, List.getElem_cons_drop, List.take_append_drop]
  constructor
  · conv => lhs; rw [e]
    exact hd_some h
  · conv => lhs; rw [e]
    exact tl_some h
def rst (l : List UInt8) : Nat → List UInt8
  | 0 => l
  | 1 => tl 62 l
  | 2 => tl 58 (tl 62 l)
  | _ => tl 35 (tl 58 (tl 62 l))
def mrk : Nat → UInt8
  | 0 => 62
  | 1 => 58
  | _ => 35
def toB (l : List UInt8) : ByteArray := ⟨l.toArray⟩
theorem ext_list (s : ByteArray) (n p : Nat) : (s.extract n p).data.toList = (s.data.toList.drop n).take (p - n) := by
  rw [ByteArray.data_extract, Array.toList_extract]
theorem ext_toB (s : ByteArray) (n p : Nat) : s.extract n p = toB ((s.data.toList.drop n).take (p - n)) := by
  apply ByteArray.ext
  apply Array.toList_inj.1
  rw [ext_list s n p]; rfl
def CAt (s : ByteArray) (pos k n : Nat) : Prop := n ≤ pos ∧ n ≤ s.size ∧ s.data.toList.drop n = rst s.data.toList k ∧ (k < 3 → mrk k ∉ (s.data.toList.drop n).take (pos - n))
theorem cat_start (s : ByteArray) : CAt s 0 0 0 := ⟨by omega, by omega, rfl, by simp⟩
theorem cat_hit {s : ByteArray} {pos k n : Nat} (h : CAt s pos k n) (hp : pos < s.size) (hk : k < 3) (hb : s[pos] = mrk k) :
    s.extract n pos = toB (hd (mrk k) (rst s.data.toList k)) ∧ CAt s (pos + 1) (k + 1) (pos + 1) := by
  obtain ⟨h1, h2, h3, h4⟩ := h
  have hj : (s.data.toList.drop n)[pos - n]? = some (mrk k) := by
    rw [List.getElem?_drop, show n + (pos - n) = pos from by omega, List.getElem?_eq_getElem (by simpa using hp), ← hb]; rfl
  obtain ⟨e1, e2⟩ := hit_hd (h4 hk) hj
  refine ⟨?_, by omega, by omega, ?_, by simp⟩
  · rw [ext_toB s n pos, ← h3, e1]
  · rw [List.drop_drop, show n + (pos - n + 1) = pos + 1 from by omega] at e2
    rw [← e2, h3]
    match k, hk with
    | 0, _ => rfl
    | 1, _ => rfl
    | 2, _ => rfl
theorem not_mem_more {m : UInt8} {l : List UInt8} {n pos v : Nat} (hn : n ≤ pos) (h : m ∉ (l.drop n).take (pos - n)) (hv : ∀ j, j < v → l[pos + j]? ≠ some m) : m ∉ (l.drop n).take (pos + v - n) := by
  induction v with
  | zero => exact h
  | succ v ih =>
    have h' := ih (fun j hj => hv j (by omega))
    rw [show pos + (v + 1) - n = (pos + v - n) + 1 from by omega, List.take_add_one]
    intro hm
    rw [List.mem_append] at hm
    rcases hm with hm | hm
    · exact h' hm
    · rw [List.getElem?_drop, show n + (pos + v - n) = pos + v from by omega] at hm
      have := hv v (by omega)
      cases hq : l[pos + v]? with
      | none => rw [hq] at hm; simp at hm
      | some x => rw [hq] at hm; simp at hm; rw [hq, hm] at this; exact this rfl
theorem mrk_small (k : Nat) : (mrk k).toNat < 128 := by unfold mrk; split <;> decide
theorem decode_tail (s : ByteArray) (pos j : Nat) (hj : 1 ≤ j) (h : j < (Utf8.decode s pos).2) : 128 ≤ (s.get! (pos + j)).toNat := by
  unfold Utf8.decode at h
  simp only at h
  split at h
  · simp at h; omega
  · split at h
    · rename_i hc
      simp only [Bool.and_eq_true, beq_iff_eq, decide_eq_true_eq] at hc
      split at h
      · simp at h
        obtain rfl : j = 1 := by omega
        omega
      · simp at h; omega
    · split at h
      · rename_i hc
        simp only [Bool.and_eq_true, beq_iff_eq, decide_eq_true_eq] at hc
        split at h
        · simp at h
          have : j = 1 ∨ j = 2 := by omega
          rcases this with rfl | rfl <;> omega
        · simp at h; omega
      · split at h
        · rename_i hc
          simp only [Bool.and_eq_true, beq_iff_eq, decide_eq_true_eq] at hc
          split at h
          · simp at h
            have : j = 1 ∨ j = 2 ∨ j = 3 := by omega
            rcases this with rfl | rfl | rfl <;> omega
          · simp at h; omega
        · simp at h; omega
theorem get_of {s : ByteArray} {i : Nat} {x : UInt8} (h : s.data.toList[i]? = some x) : s.get! i = x := by
  rw [Array.getElem?_toList] at h
  unfold ByteArray.get!
  cases s
  simp only at *
  obtain ⟨hi, e⟩ := Array.getElem?_eq_some_iff.1 h
  simp [hi, e]
theorem cat_miss {s : ByteArray} {pos k n : Nat} (h : CAt s pos k n) (hp : pos < s.size) (hb : k < 3 → s[pos] ≠ mrk k) :
    CAt s (pos + (Utf8.decode s pos).2) k n := by
  obtain ⟨h1, h2, h3, h4⟩ := h
  refine ⟨by omega, h2, h3, fun hk => ?_⟩
  refine not_mem_more h1 (h4 hk) fun j hj e => ?_
  by_cases h0 : j = 0
  · subst h0
    rw [Nat.add_zero, List.getElem?_eq_getElem (by simpa using hp)] at e
    exact hb hk (Option.some.inj e)
  · have := decode_tail s pos j (by omega) hj
    rw [get_of e] at this
    have := mrk_small k
    omega
theorem rst_all (s : ByteArray) (n : Nat) : s.extract n s.size = toB (s.data.toList.drop n) := by
  rw [ext_toB s n s.size, List.take_of_length_le (by simp)]
theorem cat_end {s : ByteArray} {pos k n : Nat} (h : CAt s pos k n) (hp : ¬ pos < s.size) : s.extract n s.size = toB (rst s.data.toList k) ∧ (k < 3 → hd (mrk k) (rst s.data.toList k) = rst s.data.toList k ∧ tl (mrk k) (rst s.data.toList k) = []) := by
  obtain ⟨h1, h2, h3, h4⟩ := h
  refine ⟨by rw [rst_all s n, h3], fun hk => ?_⟩
  have hm : mrk k ∉ rst s.data.toList k := by
    have := h4 hk
    rw [List.take_of_length_le (by simp; omega), h3] at this
    exact this
  exact ⟨hd_none hm, tl_none hm⟩
end Go.Proofs.YtgfboghieejbkaaGreatDoor
namespace Go.Proofs.YtgfboghieejbkaaGreatDoor
open Go.RowKit

def cw (w : World) (s g0 g1 g2 g3 : ByteArray) (pos : Nat) : World :=
  (((w.alloc (.cells #[.string ⟨#[]⟩, .string ⟨#[]⟩, .string ⟨#[]⟩, .string ⟨#[]⟩] 263)).alloc (.cells #[.int .i32 62, .int .i32 58, .int .i32 35] 276)).alloc (.cells #[.string g0, .string g1, .string g2, .string g3] 263)).iter s pos
theorem cw_marks (w : World) (s g0 g1 g2 g3 : ByteArray) (pos : Nat) : (cw w s g0 g1 g2 g3 pos).cell? ⟨w.heap.size + 1, 0, none⟩ = some (.int .i32 62) ∧ (cw w s g0 g1 g2 g3 pos).cell? ⟨w.heap.size + 1, 1, none⟩ = some (.int .i32 58) ∧ (cw w s g0 g1 g2 g3 pos).cell? ⟨w.heap.size + 1, 2, none⟩ = some (.int .i32 35) := by
  unfold cw World.iter
  simp [go_sem]
theorem cw_cells (w : World) (s g0 g1 g2 g3 : ByteArray) (pos : Nat) : (cw w s g0 g1 g2 g3 pos).cell? ⟨w.heap.size + 1 + 1, 0, none⟩ = some (.string g0) ∧ (cw w s g0 g1 g2 g3 pos).cell? ⟨w.heap.size + 1 + 1, 1, none⟩ = some (.string g1) ∧ (cw w s g0 g1 g2 g3 pos).cell? ⟨w.heap.size + 1 + 1, 2, none⟩ = some (.string g2) ∧ (cw w s g0 g1 g2 g3 pos).cell? ⟨w.heap.size + 1 + 1, 3, none⟩ = some (.string g3) := by
  unfold cw World.iter
  simp [go_sem]
theorem cw_free (w : World) (s g0 g1 g2 g3 : ByteArray) (pos j : Nat) : (cw w s g0 g1 g2 g3 pos).frozen? ⟨w.heap.size + 1 + 1, j, none⟩ = false := by
  unfold cw World.iter
  simp [go_sem]
theorem cw_set0 (w : World) (s g0 g1 g2 g3 x : ByteArray) (pos : Nat) : (cw w s g0 g1 g2 g3 pos).setCell ⟨w.heap.size + 1 + 1, 0, none⟩ (.string x) = cw w s x g1 g2 g3 pos := by
  unfold cw World.iter
  simp [go_sem]
theorem cw_set1 (w : World) (s g0 g1 g2 g3 x : ByteArray) (pos : Nat) : (cw w s g0 g1 g2 g3 pos).setCell ⟨w.heap.size + 1 + 1, 1, none⟩ (.string x) = cw w s g0 x g2 g3 pos := by
  unfold cw World.iter
  simp [go_sem]
theorem cw_set2 (w : World) (s g0 g1 g2 g3 x : ByteArray) (pos : Nat) : (cw w s g0 g1 g2 g3 pos).setCell ⟨w.heap.size + 1 + 1, 2, none⟩ (.string x) = cw w s g0 g1 x g3 pos := by
  unfold cw World.iter
  simp [go_sem]
theorem cw_size (w : World) (g0 g1 g2 g3 : ByteArray) : (((w.alloc (.cells #[.string ⟨#[]⟩, .string ⟨#[]⟩, .string ⟨#[]⟩, .string ⟨#[]⟩] 263)).alloc (.cells #[.int .i32 62, .int .i32 58, .int .i32 35] 276)).alloc (.cells #[.string g0, .string g1, .string g2, .string g3] 263)).heap.size = w.heap.size + 1 + 1 + 1 := by simp
theorem cw_next (w : World) (s g0 g1 g2 g3 : ByteArray) (pos : Nat) (h : pos < s.size) (ty : TypeId) : (Instr.next (.pointer (some ⟨w.heap.size + 1 + 1 + 1, 0, none⟩)) true ty).run Tryz.prog (cw w s g0 g1 g2 g3 pos) = .ok (.tuple #[.bool true, .int .i64 pos, .int .i32 (Utf8.decode s pos).1]) (cw w s g0 g1 g2 g3 (pos + (Utf8.decode s pos).2)) := by
  have := run_next_any (P := Tryz.prog) (((w.alloc (.cells #[.string ⟨#[]⟩, .string ⟨#[]⟩, .string ⟨#[]⟩, .string ⟨#[]⟩] 263)).alloc (.cells #[.int .i32 62, .int .i32 58, .int .i32 35] 276)).alloc (.cells #[.string g0, .string g1, .string g2, .string g3] 263)) s pos ty h
  rw [cw_size] at this
  exact this
theorem cw_end (w : World) (s g0 g1 g2 g3 : ByteArray) (pos : Nat) (h : ¬ pos < s.size) (ty : TypeId) : (Instr.next (.pointer (some ⟨w.heap.size + 1 + 1 + 1, 0, none⟩)) true ty).run Tryz.prog (cw w s g0 g1 g2 g3 pos) = .ok (.tuple #[.bool false]) (cw w s g0 g1 g2 g3 pos) := by
  have := run_next_end (P := Tryz.prog) (((w.alloc (.cells #[.string ⟨#[]⟩, .string ⟨#[]⟩, .string ⟨#[]⟩, .string ⟨#[]⟩] 263)).alloc (.cells #[.int .i32 62, .int .i32 58, .int .i32 35] 276)).alloc (.cells #[.string g0, .string g1, .string g2, .string g3] 263)) s pos ty h
  rw [cw_size] at this
  exact this
theorem cw_pos (w : World) (s g0 g1 g2 g3 : ByteArray) (pos : Nat) : (cw w s g0 g1 g2 g3 pos).iterPos (w.heap.size + 1 + 1 + 1) = pos := by
  rw [← cw_size w g0 g1 g2 g3]
  exact World.iterPos_iter _ _ _
def gs (l : List UInt8) : Nat → ByteArray × ByteArray × ByteArray × ByteArray
  | 0 => (⟨#[]⟩, ⟨#[]⟩, ⟨#[]⟩, ⟨#[]⟩)
  | 1 => (toB (f0 l), ⟨#[]⟩, ⟨#[]⟩, ⟨#[]⟩)
  | 2 => (toB (f0 l), toB (f1 l), ⟨#[]⟩, ⟨#[]⟩)
  | _ => (toB (f0 l), toB (f1 l), toB (f2 l), ⟨#[]⟩)
def CRel (s : ByteArray) (w : World) (a f : Value) (wr : World) : Prop := ∃ pos k n : Nat, k ≤ 3 ∧ n ≤ pos ∧ n ≤ s.size ∧ a = .int .i64 k ∧ f = .int .i64 n ∧ CAt s pos k n ∧ wr = cw w s (gs s.data.toList k).1 (gs s.data.toList k).2.1 (gs s.data.toList k).2.2.1 (gs s.data.toList k).2.2.2 pos

set_option maxHeartbeats 4000000 in
set_option maxRecDepth 100000 in
theorem cut_any (s : ByteArray) (w : World) (hs : s.size ≤ 33554432) :
    Calls Tryz.prog 252 #[.string s] w fun e w' => e = .returned (.agg #[.string (toB (f0 s.data.toList)), .string (toB (f1 s.data.toList)), .string (toB (f2 s.data.toList)), .string (toB (f3 s.data.toList))]) ∧ Below w.heap.size w w' := by
  go_enter Tryz.func252, Tryz.ntmps252
  go_wp2
  go_loopw [5, 6] (fun a f wr => CRel s w a f wr) (fun _ _ wr => s.size - wr.iterPos (w.heap.size + 1 + 1 + 1))
  case atStart => exact ⟨0, 0, 0, by omega, by omega, by omega, rfl, rfl, cat_start s, rfl⟩
  case round =>
    obtain ⟨pos, k, n, hk, hnp, hns, rfl, rfl, hc, rfl⟩ := hrel
    by_cases hp : pos < s.size
    · have hps : pos ≤ s.size := by omega
      have hwd : 1 ≤ (Utf8.decode s pos).2 := by
        by_cases ha : s[pos].toNat < 128
        · rw [decode_ascii s pos hp ha]; exact Nat.le_refl _
        · exact (decode_high s pos hp (by omega)).2
      have hm0 := fun g0 g1 g2 g3 p => (cw_marks w s g0 g1 g2 g3 p).1
      have hm1 := fun g0 g1 g2 g3 p => (cw_marks w s g0 g1 g2 g3 p).2.1
      have hm2 := fun g0 g1 g2 g3 p => (cw_marks w s g0 g1 g2 g3 p).2.2
      have hc0 := fun g0 g1 g2 g3 p => (cw_cells w s g0 g1 g2 g3 p).1
      have hc1 := fun g0 g1 g2 g3 p => (cw_cells w s g0 g1 g2 g3 p).2.1
      have hc2 := fun g0 g1 g2 g3 p => (cw_cells w s g0 g1 g2 g3 p).2.2.1
      have hz := cw_free w s
      have hs0 := cw_set0 w s
      have hs1 := cw_set1 w s
      have hs2 := cw_set2 w s
      have hmp := cw_pos w s
      have hcase : k = 0 ∨ k = 1 ∨ k = 2 ∨ k = 3 := by omega
      rcases hcase with rfl | rfl | rfl | rfl
      · by_cases hb : s[pos] = mrk 0
        · have hnx := fun g0 g1 g2 g3 ty => cw_next w s g0 g1 g2 g3 pos hp ty
          have hde : Utf8.decode s pos = (62, 1) := by rw [decode_ascii s pos hp (by rw [hb]; decide), hb]; rfl
          rw [hde] at hnx
          have HH := hide (cat_hit hc hp (by omega) hb)
          have hint : ((62 : Nat) : Int) = 62 := rfl
          simp only [hint] at hnx
          simp only [gs]
          clear hc hb hde hwd
          go_wp2
          go_roundw
          case rel =>
            refine ⟨pos + 1, 1, pos + 1, by omega, by omega, by omega, by go_num, by go_num, (unhide HH).2, ?_⟩
            rw [(unhide HH).1]; rfl
          case measure => rw [hmp, hmp]; omega
        · have hnx := fun g0 g1 g2 g3 ty => cw_next w s g0 g1 g2 g3 pos hp ty
          have HM := hide (cat_miss hc hp (fun _ => hb))
          have hne : (((Utf8.decode s pos).1 : Int) == 62) = false := by
            by_cases ha : s[pos].toNat < 128
            · rw [decode_ascii s pos hp ha]
              have : s[pos].toNat ≠ 62 := fun e => hb (UInt8.toNat_inj.1 e)
              simp; omega
            · have := (decode_high s pos hp (by omega)).1
              simp; omega
          have hle : (Utf8.decode s pos).1 ≤ 2147483647 := decode_le s pos
          simp only [gs]
          generalize (Utf8.decode s pos).1 = r at *
          generalize (Utf8.decode s pos).2 = v at *
          clear hc hb
          go_wp2
          go_roundw
          case rel => exact ⟨pos + v, 0, n, by omega, by omega, by omega, by go_num, rfl, unhide HM, rfl⟩
          case measure => rw [hmp, hmp]; omega
      · by_cases hb : s[pos] = mrk 1
        · have hnx := fun g0 g1 g2 g3 ty => cw_next w s g0 g1 g2 g3 pos hp ty
          have hde : Utf8.decode s pos = (58, 1) := by rw [decode_ascii s pos hp (by rw [hb]; decide), hb]; rfl
          rw [hde] at hnx
          have HH := hide (cat_hit hc hp (by omega) hb)
          have hint : ((58 : Nat) : Int) = 58 := rfl
          simp only [hint] at hnx
          simp only [gs]
          clear hc hb hde hwd
          go_wp2
          go_roundw
          case rel =>
            refine ⟨pos + 1, 2, pos + 1, by omega, by omega, by omega, by go_num, by go_num, (unhide HH).2, ?_⟩
            rw [(unhide HH).1]; rfl
          case measure => rw [hmp, hmp]; omega
        · have hnx := fun g0 g1 g2 g3 ty => cw_next w s g0 g1 g2 g3 pos hp ty
          have HM := hide (cat_miss hc hp (fun _ => hb))
          have hne : (((Utf8.decode s pos).1 : Int) == 58) = false := by
            by_cases ha : s[pos].toNat < 128
            · rw [decode_ascii s pos hp ha]
              have : s[pos].toNat ≠ 58 := fun e => hb (UInt8.toNat_inj.1 e)
              simp; omega
            · have := (decode_high s pos hp (by omega)).1
              simp; omega
          have hle : (Utf8.decode s pos).1 ≤ 2147483647 := decode_le s pos
          simp only [gs]
          generalize (Utf8.decode s pos).1 = r at *
          generalize (Utf8.decode s pos).2 = v at *
          clear hc hb
          go_wp2
          go_roundw
          case rel => exact ⟨pos + v, 1, n, by omega, by omega, by omega, by go_num, rfl, unhide HM, rfl⟩
          case measure => rw [hmp, hmp]; omega
      · by_cases hb : s[pos] = mrk 2
        · have hnx := fun g0 g1 g2 g3 ty => cw_next w s g0 g1 g2 g3 pos hp ty
          have hde : Utf8.decode s pos = (35, 1) := by rw [decode_ascii s pos hp (by rw [hb]; decide), hb]; rfl
          rw [hde] at hnx
          have HH := hide (cat_hit hc hp (by omega) hb)
          have hint : ((35 : Nat) : Int) = 35 := rfl
          simp only [hint] at hnx
          simp only [gs]
          clear hc hb hde hwd
          go_wp2
          go_roundw
          case rel =>
            refine ⟨pos + 1, 3, pos + 1, by omega, by omega, by omega, by go_num, by go_num, (unhide HH).2, ?_⟩
            rw [(unhide HH).1]; rfl
          case measure => rw [hmp, hmp]; omega
        · have hnx := fun g0 g1 g2 g3 ty => cw_next w s g0 g1 g2 g3 pos hp ty
          have HM := hide (cat_miss hc hp (fun _ => hb))
          have hne : (((Utf8.decode s pos).1 : Int) == 35) = false := by
            by_cases ha : s[pos].toNat < 128
            · rw [decode_ascii s pos hp ha]
              have : s[pos].toNat ≠ 35 := fun e => hb (UInt8.toNat_inj.1 e)
              simp; omega
            · have := (decode_high s pos hp (by omega)).1
              simp; omega
          have hle : (Utf8.decode s pos).1 ≤ 2147483647 := decode_le s pos
          simp only [gs]
          generalize (Utf8.decode s pos).1 = r at *
          generalize (Utf8.decode s pos).2 = v at *
          clear hc hb
          go_wp2
          go_roundw
          case rel => exact ⟨pos + v, 2, n, by omega, by omega, by omega, by go_num, rfl, unhide HM, rfl⟩
          case measure => rw [hmp, hmp]; omega
      · have hnx := fun g0 g1 g2 g3 ty => cw_next w s g0 g1 g2 g3 pos hp ty
        have HM := hide (cat_miss hc hp (fun h => by omega))
        simp only [gs]
        generalize (Utf8.decode s pos).1 = r at *
        generalize (Utf8.decode s pos).2 = v at *
        clear hc
        go_wp2
        go_roundw
        case rel => exact ⟨pos + v, 3, n, by omega, by omega, by omega, by go_num, rfl, unhide HM, rfl⟩
        case measure => rw [hmp, hmp]; omega
    · have HE := hide (cat_end hc hp)
      have hnx := fun g0 g1 g2 g3 ty => cw_end w s g0 g1 g2 g3 pos hp ty
      have hcase : k = 0 ∨ k = 1 ∨ k = 2 ∨ k = 3 := by omega
      rcases hcase with rfl | rfl | rfl | rfl
      · simp only [gs]
        unfold cw World.iter
        unfold cw World.iter at hnx
        clear hc
        go_wp2
        refine bodyPost_ret (v := .agg #[.string (s.extract n s.size), .string ⟨#[]⟩, .string ⟨#[]⟩, .string ⟨#[]⟩]) (by simp [results, Tryz.results252, go_sem]) rfl ?_
        refine ⟨?_, ((((Below.refl _ _).alloc (Nat.le_refl _) _).alloc (by simp) _).alloc (by simp; omega) _).alloc (by simp; omega) _⟩
        obtain ⟨x0, x1⟩ := unhide HE
        rw [x0]
        obtain ⟨x2, x3⟩ := x1 (by omega)
        simp only [rst, mrk] at x2 x3
        simp only [rst, f0, f1, f2, f3, x2, x3, tl_nil, hd_nil]
        rfl
      · simp only [gs]
        unfold cw World.iter
        unfold cw World.iter at hnx
        clear hc
        go_wp2
        refine bodyPost_ret (v := .agg #[.string (toB (f0 s.data.toList)), .string (s.extract n s.size), .string ⟨#[]⟩, .string ⟨#[]⟩]) (by simp [results, Tryz.results252, go_sem]) rfl ?_
        refine ⟨?_, ((((Below.refl _ _).alloc (Nat.le_refl _) _).alloc (by simp) _).alloc (by simp; omega) _).alloc (by simp; omega) _⟩
        obtain ⟨x0, x1⟩ := unhide HE
        rw [x0]
        obtain ⟨x2, x3⟩ := x1 (by omega)
        simp only [rst, mrk] at x2 x3
        simp only [rst, f0, f1, f2, f3, x2, x3, tl_nil, hd_nil]
        rfl
      · simp only [gs]
        unfold cw World.iter
        unfold cw World.iter at hnx
        clear hc
        go_wp2
        refine bodyPost_ret (v := .agg #[.string (toB (f0 s.data.toList)), .string (toB (f1 s.data.toList)), .string (s.extract n s.size), .string ⟨#[]⟩]) (by simp [results, Tryz.results252, go_sem]) rfl ?_
        refine ⟨?_, ((((Below.refl _ _).alloc (Nat.le_refl _) _).alloc (by simp) _).alloc (by simp; omega) _).alloc (by simp; omega) _⟩
        obtain ⟨x0, x1⟩ := unhide HE
        rw [x0]
        obtain ⟨x2, x3⟩ := x1 (by omega)
        simp only [rst, mrk] at x2 x3
        simp only [rst, f0, f1, f2, f3, x2, x3]
        rfl
      · simp only [gs]
        unfold cw World.iter
        unfold cw World.iter at hnx
        clear hc
        go_wp2
        refine bodyPost_ret (v := .agg #[.string (toB (f0 s.data.toList)), .string (toB (f1 s.data.toList)), .string (toB (f2 s.data.toList)), .string (s.extract n s.size)]) (by simp [results, Tryz.results252, go_sem]) rfl ?_
        refine ⟨?_, ((((Below.refl _ _).alloc (Nat.le_refl _) _).alloc (by simp) _).alloc (by simp; omega) _).alloc (by simp; omega) _⟩
        obtain ⟨x0, x1⟩ := unhide HE
        rw [x0]
        clear x1
        rfl
end Go.Proofs.YtgfboghieejbkaaGreatDoor
namespace Go.Proofs.YtgfboghieejbkaaGreatDoor
open Go.RowKit
set_option linter.unusedSectionVars false
variable [∀ (a b c d : Int), Decidable (Ok4 a b c d)]

def Cells4 (w : World) (g : Nat) (a b c d : Int) : Prop := w.cell? ⟨g, 0, none⟩ = some (.int .i64 a) ∧ w.cell? ⟨g, 1, none⟩ = some (.int .i64 b) ∧ w.cell? ⟨g, 2, none⟩ = some (.int .i64 c) ∧ w.cell? ⟨g, 3, none⟩ = some (.int .i64 d)
theorem cells4_new (w : World) (a b c d : Int) (t : TypeId) : Cells4 (w.alloc (.cells #[.int .i64 a, .int .i64 b, .int .i64 c, .int .i64 d] t)) w.heap.size a b c d := by
  refine ⟨?_, ?_, ?_, ?_⟩ <;> simp
theorem Cells4.below {w w' : World} {g B : Nat} {a b c d : Int} (h : Cells4 w g a b c d) (hb : Below B w w') (hg : g < B) : Cells4 w' g a b c d :=
  ⟨(hb.cell (p := ⟨g, 0, none⟩) hg).trans h.1, (hb.cell (p := ⟨g, 1, none⟩) hg).trans h.2.1, (hb.cell (p := ⟨g, 2, none⟩) hg).trans h.2.2.1, (hb.cell (p := ⟨g, 3, none⟩) hg).trans h.2.2.2⟩
end Go.Proofs.YtgfboghieejbkaaGreatDoor
namespace Go.Proofs.YtgfboghieejbkaaGreatDoor
open Go.RowKit

theorem one_str (w : World) (c : Int) : (convert 22 9 (.slice (some ⟨w.heap.size, 0, none⟩) 1 1)).run Tryz.prog (w.alloc (.cells #[.int .u8 c] 5)) = .ok (.string (strOfNums [c])) (w.alloc (.cells #[.int .u8 c] 5)) := by
  refine run_convert_bytes_arg (P := Tryz.prog) _ 22 5 Tryz.underlying22 Tryz.underlying5 w.heap.size 0 1 1 [c] rfl (fun i hi => ?_) 9 Tryz.underlying9
  obtain rfl : i = 0 := by omega
  simp
end Go.Proofs.YtgfboghieejbkaaGreatDoor
namespace Go.Proofs.YtgfboghieejbkaaGreatDoor

def rest (m : Nat) : List UInt8 := if m = 0 then [] else Lib.decDigits m
theorem rest_step (m : Nat) (h : m ≠ 0) : rest m = rest (m / 10) ++ [UInt8.ofNat (48 + m % 10)] := by
  by_cases h10 : m < 10
  · have e : m / 10 = 0 := by omega
    rw [rest, if_neg h, Lib.decDigits, dif_pos h10, e, rest, if_pos rfl, Nat.mod_eq_of_lt h10]; rfl
  · have e : m / 10 ≠ 0 := by omega
    rw [rest, if_neg h, Lib.decDigits, dif_neg h10, rest, if_neg e]
def DAt (n m : Nat) (t : List UInt8) : Prop := rest m ++ t = rest n ∧ t.length ≤ 20 ∧ m < 10 ^ (20 - t.length)
theorem dat_start (n : Nat) (h : n ≤ 9223372036854775808) : DAt n n [] := ⟨by simp, by simp, by simp; omega⟩
theorem dat_step {n m : Nat} {t : List UInt8} (h : DAt n m t) (h0 : m ≠ 0) : DAt n (m / 10) (UInt8.ofNat (48 + m % 10) :: t) ∧ t.length ≤ 19 := by
  obtain ⟨h1, h2, h3⟩ := h
  have hl : t.length ≤ 19 := by
    by_cases e : t.length = 20
    · rw [e] at h3; simp at h3; omega
    · omega
  refine ⟨⟨?_, by simp; omega, ?_⟩, hl⟩
  · rw [rest_step m h0] at h1; simpa using h1
  · have e : 20 - t.length = (20 - (t.length + 1)) + 1 := by omega
    rw [e, Nat.pow_succ] at h3
    simp only [List.length_cons]
    exact Nat.div_lt_of_lt_mul (by rw [Nat.mul_comm]; exact h3)
theorem dat_end {n : Nat} {t : List UInt8} (h : DAt n 0 t) (hn : n ≠ 0) : t = Lib.decDigits n := by
  have := h.1
  rwa [rest, if_pos rfl, List.nil_append, rest, if_neg hn] at this

theorem one_more (k : Nat) (t : List UInt8) (h : k < 10) : strOfNums [48 + (k : Int)] ++ (⟨t.toArray⟩ : ByteArray) = ⟨(UInt8.ofNat (48 + k) :: t).toArray⟩ := by
  have e : (48 + (k : Int)).toNat = 48 + k := by omega
  apply ByteArray.ext
  apply Array.toList_inj.1
  simp [strOfNums, e]
theorem one_size (c : Int) : (strOfNums [c]).size = 1 := rfl
end Go.Proofs.YtgfboghieejbkaaGreatDoor
namespace Go.Proofs.YtgfboghieejbkaaGreatDoor
open Go.RowKit

set_option maxHeartbeats 800000 in
set_option maxRecDepth 100000 in
theorem specDigits_pos (n : Nat) (w : World) (hn : 0 < n) (hm : n ≤ 9223372036854775807) :
    Calls Tryz.prog 174 #[.int .i64 n] w fun e w' => e = .returned (.string ⟨(Lib.decDigits n).toArray⟩) ∧ Below w.heap.size w w' := by
  have hcv := one_str
  have hsz := one_size
  have hne : ((n : Int) == 0) = false := by simp; omega
  have hlt : decide ((n : Int) < 0) = false := by simp
  go_enter Tryz.func174, Tryz.ntmps174
  go_wp2
  go_loopw [0, 4] (fun x s wr => ∃ (m : Nat) (t : List UInt8), m ≤ 9223372036854775807 ∧ DAt n m t ∧ x = .int .i64 m ∧ s = .string ⟨t.toArray⟩ ∧ Below w.heap.size w wr) (fun x _ _ => (intOf x).toNat)
  case atStart => exact ⟨n, [], hm, dat_start n (by omega), rfl, rfl, Below.refl _ _⟩
  case round =>
    obtain ⟨m, t, hm', hd, rfl, rfl, hb⟩ := hrel
    by_cases h0 : m = 0
    · subst h0
      have HE := hide (dat_end hd (by omega))
      clear hd
      go_wp2
      go_ret
      have HE' := unhide HE
      subst HE'
      exact ⟨rfl, hb⟩
    · have hne' : ((m : Int) != 0) = true := by simp [h0]
      obtain ⟨hd', hl⟩ := dat_step hd h0
      have HD := hide hd'
      clear hd hd'
      have hs0 := hb.size
      have hmo := one_more (m % 10) t (by omega)
      have hbl : Below w.heap.size w (wr.alloc (.cells #[.int .u8 (48 + (m : Int) % 10)] 5)) := hb.alloc hs0 _
      go_wp2
      go_roundw
      case rel => exact ⟨m / 10, _, by omega, unhide HD, by go_num, by rw [← hmo]; rfl, hbl⟩
      case measure => simp [intOf]; omega

set_option maxHeartbeats 800000 in
set_option maxRecDepth 100000 in
theorem specDigits_neg (n : Nat) (w : World) (hn : 0 < n) (hm : n ≤ 9223372036854775808) :
    Calls Tryz.prog 174 #[.int .i64 (-(n : Int))] w fun e w' => e = .returned (.string ⟨(45 :: Lib.decDigits n).toArray⟩) ∧ Below w.heap.size w w' := by
  have hcv := one_str
  have hsz := one_size
  have hne : ((-(n : Int)) == 0) = false := by simp; omega
  have hlt : decide (-(n : Int) < 0) = true := by simp; omega
  go_enter Tryz.func174, Tryz.ntmps174
  go_wp2
  go_loopw [0, 4] (fun x s wr => ∃ (m : Nat) (t : List UInt8), m ≤ 9223372036854775808 ∧ DAt n m t ∧ x = .int .i64 (-(m : Int)) ∧ s = .string ⟨t.toArray⟩ ∧ Below w.heap.size w wr) (fun x _ _ => (-(intOf x)).toNat)
  case atStart => exact ⟨n, [], hm, dat_start n hm, rfl, rfl, Below.refl _ _⟩
  case round =>
    obtain ⟨m, t, hm', hd, rfl, rfl, hb⟩ := hrel
    by_cases h0 : m = 0
    · subst h0
      have HE := hide (dat_end hd (by omega))
      have hl := hd.2.1
      clear hd
      go_wp2
      go_ret
      have HE' := unhide HE
      subst HE'
      exact ⟨by apply congrArg Ending.returned; apply congrArg Value.string; apply ByteArray.ext; apply Array.toList_inj.1; simp, hb⟩
    · have hne' : ((-(m : Int)) != 0) = true := by simp [h0]
      obtain ⟨hd', hl⟩ := dat_step hd h0
      have HD := hide hd'
      clear hd hd'
      have hs0 := hb.size
      have hmo := one_more (m % 10) t (by omega)
      have ht : (-(m : Int)).tmod 10 = -((m % 10 : Nat) : Int) := by rw [Int.neg_tmod]; rfl
      have hq : (-(m : Int)).tdiv 10 = -((m / 10 : Nat) : Int) := by rw [Int.neg_tdiv]; rfl
      by_cases hz : m % 10 = 0
      · have hbl : Below w.heap.size w (wr.alloc (.cells #[.int .u8 48] 5)) := hb.alloc hs0 _
        go_wp2
        go_roundw
        case rel => exact ⟨m / 10, _, by omega, unhide HD, by go_num, by rw [← hmo, hz]; rfl, hbl⟩
        case measure => simp [intOf]; omega
      · have hbl : Below w.heap.size w (wr.alloc (.cells #[.int .u8 (48 + (m : Int) % 10)] 5)) := hb.alloc hs0 _
        go_wp2
        go_roundw
        case rel => exact ⟨m / 10, _, by omega, unhide HD, by go_num, by rw [← hmo]; rfl, hbl⟩
        case measure => simp [intOf]; omega

set_option maxHeartbeats 400000 in
set_option maxRecDepth 100000 in
theorem specDigits_zero (w : World) :
    Calls Tryz.prog 174 #[.int .i64 0] w fun e w' => e = .returned (.string ⟨(Lib.decDigits 0).toArray⟩) ∧ Below w.heap.size w w' := by
  go_enter Tryz.func174, Tryz.ntmps174
  go_wp2
  go_ret
  exact ⟨by rw [Lib.decDigits]; rfl, Below.refl _ _⟩

theorem specDigits_any (n : Int) (w : World) (h0 : -9223372036854775808 ≤ n) (h1 : n ≤ 9223372036854775807) :
    Calls Tryz.prog 174 #[.int .i64 n] w fun e w' => e = .returned (.string ⟨(Lib.itoa n).toArray⟩) ∧ Below w.heap.size w w' := by
  unfold Lib.itoa
  by_cases hn : n < 0
  · obtain ⟨m, rfl⟩ : ∃ m : Nat, n = -(m : Int) := ⟨n.natAbs, by omega⟩
    rw [if_pos hn, show (-(m : Int)).natAbs = m from by omega]
    exact specDigits_neg m w (by omega) (by omega)
  · obtain ⟨m, rfl⟩ := Int.eq_ofNat_of_zero_le (Int.not_lt.1 hn)
    rw [if_neg hn, Int.toNat_natCast]
    by_cases hm : m = 0
    · subst hm; exact specDigits_zero w
    · exact specDigits_pos m w (by omega) (by omega)
end Go.Proofs.YtgfboghieejbkaaGreatDoor
namespace Go.Proofs
open Go.Shelf
def Tryz.laysM171_ren : Go.Shelf.Ren := ⟨fun | 171 => 204 | 243 => 220 | 246 => 233 | 283 => 253 | 284 => 254 | 285 => 255 | 286 => 256 | 129 => 245 | 317 => 266 | 318 => 267 | 319 => 268 | 320 => 269 | 337 => 276 | 338 => 277 | n => n, fun | 3 => 3 | 9 => 9 | 2 => 2 | 4 => 4 | 171 => 265 | 0 => 0 | 53 => 260 | 37 => 22 | 5 => 5 | 173 => 267 | 212 => 278 | 51 => 243 | 20 => 20 | 213 => 279 | 46 => 218 | 232 => 294 | 233 => 295 | n => n, fun | 17 => 3 | 18 => 6 | 19 => 7 | n => n⟩
theorem Tryz.laysM171 : Go.Proofs.LaysM.n171 Tryz.prog Tryz.laysM171_ren := {
  mixed := by kernel_rfl
  f129 := Tryz.func245.trans (congrArg some (by kernel_rfl))
  f171 := Tryz.func204.trans (congrArg some (by kernel_rfl))
  f243 := Tryz.func220.trans (congrArg some (by kernel_rfl))
  f246 := Tryz.func233.trans (congrArg some (by kernel_rfl))
  f283 := Tryz.func253.trans (congrArg some (by kernel_rfl))
  f284 := Tryz.func254.trans (congrArg some (by kernel_rfl))
  f285 := Tryz.func255.trans (congrArg some (by kernel_rfl))
  f286 := Tryz.func256.trans (congrArg some (by kernel_rfl))
  f317 := Tryz.func266.trans (congrArg some (by kernel_rfl))
  f318 := Tryz.func267.trans (congrArg some (by kernel_rfl))
  f319 := Tryz.func268.trans (congrArg some (by kernel_rfl))
  f320 := Tryz.func269.trans (congrArg some (by kernel_rfl))
  f337 := Tryz.func276.trans (congrArg some (by kernel_rfl))
  f338 := Tryz.func277.trans (congrArg some (by kernel_rfl))
  t0 := Tryz.underlying0
  a0 := Tryz.isAgg0
  z0 := Tryz.sizeOf0
  v0 := Tryz.zeroValue0
  t2 := Tryz.underlying2
  a2 := Tryz.isAgg2
  z2 := Tryz.sizeOf2
  v2 := Tryz.zeroValue2
  t3 := Tryz.underlying3
  a3 := Tryz.isAgg3
  z3 := Tryz.sizeOf3
  v3 := Tryz.zeroValue3
  t4 := Tryz.underlying4
  a4 := Tryz.isAgg4
  z4 := Tryz.sizeOf4
  v4 := Tryz.zeroValue4
  t5 := Tryz.underlying5
  a5 := Tryz.isAgg5
  z5 := Tryz.sizeOf5
  v5 := Tryz.zeroValue5
  t9 := Tryz.underlying9
  a9 := Tryz.isAgg9
  z9 := Tryz.sizeOf9
  v9 := Tryz.zeroValue9
  t20 := Tryz.underlying20
  a20 := Tryz.isAgg20
  z20 := Tryz.sizeOf20
  v20 := Tryz.zeroValue20
  t37 := Tryz.underlying22
  a37 := Tryz.isAgg22
  z37 := Tryz.sizeOf22
  v37 := Tryz.zeroValue22
  t46 := Tryz.underlying218
  a46 := Tryz.isAgg218
  z46 := Tryz.sizeOf218
  v46 := Tryz.zeroValue218
  t51 := Tryz.underlying243
  a51 := Tryz.isAgg243
  z51 := Tryz.sizeOf243
  v51 := Tryz.zeroValue243
  t53 := Tryz.underlying260
  a53 := Tryz.isAgg260
  z53 := Tryz.sizeOf260
  v53 := Tryz.zeroValue260
  t171 := Tryz.underlying265
  a171 := Tryz.isAgg265
  z171 := Tryz.sizeOf265
  v171 := Tryz.zeroValue265
  t173 := Tryz.underlying267
  a173 := Tryz.isAgg267
  z173 := Tryz.sizeOf267
  v173 := Tryz.zeroValue267
  t212 := Tryz.underlying278
  a212 := Tryz.isAgg278
  z212 := Tryz.sizeOf278
  v212 := Tryz.zeroValue278
  t213 := Tryz.underlying279
  a213 := Tryz.isAgg279
  z213 := Tryz.sizeOf279
  t232 := Tryz.underlying294
  a232 := Tryz.isAgg294
  z232 := Tryz.sizeOf294
  v232 := Tryz.zeroValue294
  t233 := Tryz.underlying295
  a233 := Tryz.isAgg295
  z233 := Tryz.sizeOf295
  v233 := Tryz.zeroValue295
  g17 := by kernel_rfl
  g18 := by kernel_rfl
  g19 := by kernel_rfl
  i0 := by kernel_rfl
  i2 := by kernel_rfl
  i3 := by kernel_rfl
  i4 := by kernel_rfl
  i5 := by kernel_rfl
  i9 := by kernel_rfl
  i20 := by kernel_rfl
  i37 := by kernel_rfl
  i46 := by kernel_rfl
  i51 := by kernel_rfl
  i53 := by kernel_rfl
  i171 := by kernel_rfl
  i173 := by kernel_rfl
  i212 := by kernel_rfl
  i232 := by kernel_rfl
  i233 := by kernel_rfl
  m17 := by kernel_rfl
  m18 := by kernel_rfl
  m19 := by kernel_rfl }
open Go.RowKit Go.Sort Go.Lib in
theorem Tryz.strconv_Itoa (n : Int) (h0 : -9223372036854775808 ≤ n) (h1 : n ≤ 9223372036854775807) (w : World) (htab : Lib.TabIs Tryz.prog w "internal/strconv.uint64pow10" .u64 Lib.pow10Tab) :
    Calls Tryz.prog 204 #[.int .i64 n] w fun e w' => e = .returned (.string ⟨(Lib.itoa n).toArray⟩) ∧ ∃ k os, w' = grow (w.drewN k) os := Any.strconv_Itoa Tryz.laysM171 n h0 h1 w htab
end Go.Proofs
namespace Go.Proofs.YtgfboghieejbkaaGreatDoor
open Go.RowKit

theorem grow_below (w : World) (k : Nat) (os : Array Obj) : Below w.heap.size w (Sort.grow (w.drewN k) os) :=
  ⟨rfl, rfl, rfl, by simp [Sort.grow], fun i hi => by simp only [Sort.grow, World.heap_drewN]; rw [Array.getElem?_append_left hi]⟩

abbrev Pow (w : World) : Prop := Lib.TabIs Tryz.prog w "internal/strconv.uint64pow10" .u64 Lib.pow10Tab
theorem gPow : Tryz.prog.globalNamed "internal/strconv.uint64pow10" = some 3 := by kernel_rfl
theorem Pow.below {w w' : World} (h : Pow w) (hb : Below w.heap.size w w') : Pow w' := by
  have hlt : 3 < w.heap.size := cell_lt (h.cell gPow 0 (by decide))
  exact var?_below hb gPow hlt h

set_option maxHeartbeats 400000 in
set_option maxRecDepth 100000 in
theorem implDigits_any (n : Int) (w : World) (h0 : -9223372036854775808 ≤ n) (h1 : n ≤ 9223372036854775807) (ht : Pow w) :
    Calls Tryz.prog 185 #[.int .i64 n] w fun e w' => e = .returned (.string ⟨(Lib.itoa n).toArray⟩) ∧ Below w.heap.size w w' := by
  go_enter Tryz.func185, Tryz.ntmps185
  go_wp2_with fail
  refine (Tryz.strconv_Itoa n h0 h1 _ ht).mono ?_
  rintro e w' ⟨rfl, k, os, rfl⟩
  go_wp2
  go_ret
  exact ⟨rfl, grow_below _ _ _⟩
end Go.Proofs.YtgfboghieejbkaaGreatDoor
namespace Go.Proofs
open Go.Shelf
def Tryz.lays172_ren : Go.Shelf.Ren := ⟨fun | 172 => 251 | 244 => 264 | 245 => 265 | 247 => 271 | 279 => 272 | 280 => 273 | 281 => 274 | 282 => 275 | 287 => 278 | 316 => 190 | 171 => 204 | 205 => 279 | 321 => 280 | 322 => 281 | 243 => 220 | 246 => 233 | 283 => 253 | 284 => 254 | 285 => 255 | 286 => 256 | 129 => 245 | 317 => 266 | 318 => 267 | 319 => 268 | 320 => 269 | 337 => 276 | 338 => 277 | n => n, fun | 9 => 9 | 3 => 3 | 75 => 114 | 76 => 232 | 4 => 4 | 5 => 5 | 167 => 283 | 37 => 22 | 0 => 0 | 85 => 284 | 2 => 2 | 168 => 286 | 53 => 260 | 175 => 289 | 46 => 218 | 210 => 292 | 127 => 236 | 145 => 299 | 143 => 297 | 21 => 21 | 171 => 265 | 173 => 267 | 212 => 278 | 51 => 243 | 20 => 20 | 213 => 279 | 232 => 294 | 233 => 295 | 80 => 234 | n => n, fun | 15 => 4 | 16 => 5 | 17 => 3 | 18 => 6 | 19 => 7 | n => n⟩
theorem Tryz.lays172 : Go.Proofs.Lays.n172 Tryz.prog Tryz.lays172_ren := {
  mixed := by kernel_rfl
  f129 := Tryz.func245.trans (congrArg some (by kernel_rfl))
  f171 := Tryz.func204.trans (congrArg some (by kernel_rfl))
  f172 := Tryz.func251.trans (congrArg some (by kernel_rfl))
  f205 := Tryz.func279.trans (congrArg some (by kernel_rfl))
  f243 := Tryz.func220.trans (congrArg some (by kernel_rfl))
  f244 := Tryz.func264.trans (congrArg some (by kernel_rfl))
  f245 := Tryz.func265.trans (congrArg some (by kernel_rfl))
  f246 := Tryz.func233.trans (congrArg some (by kernel_rfl))
  f247 := Tryz.func271.trans (congrArg some (by kernel_rfl))
  f279 := Tryz.func272.trans (congrArg some (by kernel_rfl))
  f280 := Tryz.func273.trans (congrArg some (by kernel_rfl))
  f281 := Tryz.func274.trans (congrArg some (by kernel_rfl))
  f282 := Tryz.func275.trans (congrArg some (by kernel_rfl))
  f283 := Tryz.func253.trans (congrArg some (by kernel_rfl))
  f284 := Tryz.func254.trans (congrArg some (by kernel_rfl))
  f285 := Tryz.func255.trans (congrArg some (by kernel_rfl))
  f286 := Tryz.func256.trans (congrArg some (by kernel_rfl))
  f287 := Tryz.func278.trans (congrArg some (by kernel_rfl))
  f316 := Tryz.func190.trans (congrArg some (by kernel_rfl))
  f317 := Tryz.func266.trans (congrArg some (by kernel_rfl))
  f318 := Tryz.func267.trans (congrArg some (by kernel_rfl))
  f319 := Tryz.func268.trans (congrArg some (by kernel_rfl))
  f320 := Tryz.func269.trans (congrArg some (by kernel_rfl))
  f321 := Tryz.func280.trans (congrArg some (by kernel_rfl))
  f322 := Tryz.func281.trans (congrArg some (by kernel_rfl))
  f337 := Tryz.func276.trans (congrArg some (by kernel_rfl))
  f338 := Tryz.func277.trans (congrArg some (by kernel_rfl))
  t0 := Tryz.underlying0
  a0 := Tryz.isAgg0
  z0 := Tryz.sizeOf0
  v0 := Tryz.zeroValue0
  t2 := Tryz.underlying2
  a2 := Tryz.isAgg2
  z2 := Tryz.sizeOf2
  v2 := Tryz.zeroValue2
  t3 := Tryz.underlying3
  a3 := Tryz.isAgg3
  z3 := Tryz.sizeOf3
  v3 := Tryz.zeroValue3
  t4 := Tryz.underlying4
  a4 := Tryz.isAgg4
  z4 := Tryz.sizeOf4
  v4 := Tryz.zeroValue4
  t5 := Tryz.underlying5
  a5 := Tryz.isAgg5
  z5 := Tryz.sizeOf5
  v5 := Tryz.zeroValue5
  t9 := Tryz.underlying9
  a9 := Tryz.isAgg9
  z9 := Tryz.sizeOf9
  v9 := Tryz.zeroValue9
  t20 := Tryz.underlying20
  a20 := Tryz.isAgg20
  z20 := Tryz.sizeOf20
  v20 := Tryz.zeroValue20
  t21 := Tryz.underlying21
  a21 := Tryz.isAgg21
  z21 := Tryz.sizeOf21
  v21 := Tryz.zeroValue21
  t37 := Tryz.underlying22
  a37 := Tryz.isAgg22
  z37 := Tryz.sizeOf22
  v37 := Tryz.zeroValue22
  t46 := Tryz.underlying218
  a46 := Tryz.isAgg218
  z46 := Tryz.sizeOf218
  v46 := Tryz.zeroValue218
  t51 := Tryz.underlying243
  a51 := Tryz.isAgg243
  z51 := Tryz.sizeOf243
  v51 := Tryz.zeroValue243
  t53 := Tryz.underlying260
  a53 := Tryz.isAgg260
  z53 := Tryz.sizeOf260
  v53 := Tryz.zeroValue260
  t75 := Tryz.underlying114
  a75 := Tryz.isAgg114
  z75 := Tryz.sizeOf114
  v75 := Tryz.zeroValue114
  t76 := Tryz.underlying232
  a76 := Tryz.isAgg232
  z76 := Tryz.sizeOf232
  v76 := Tryz.zeroValue232
  t85 := Tryz.underlying284
  a85 := Tryz.isAgg284
  z85 := Tryz.sizeOf284
  v85 := Tryz.zeroValue284
  t127 := Tryz.underlying236
  a127 := Tryz.isAgg236
  z127 := Tryz.sizeOf236
  v127 := Tryz.zeroValue236
  t143 := Tryz.underlying297
  a143 := Tryz.isAgg297
  z143 := Tryz.sizeOf297
  v143 := Tryz.zeroValue297
  t145 := Tryz.underlying299
  a145 := Tryz.isAgg299
  z145 := Tryz.sizeOf299
  v145 := Tryz.zeroValue299
  t167 := Tryz.underlying283
  a167 := Tryz.isAgg283
  z167 := Tryz.sizeOf283
  v167 := Tryz.zeroValue283
  t168 := Tryz.underlying286
  a168 := Tryz.isAgg286
  z168 := Tryz.sizeOf286
  v168 := Tryz.zeroValue286
  t171 := Tryz.underlying265
  a171 := Tryz.isAgg265
  z171 := Tryz.sizeOf265
  v171 := Tryz.zeroValue265
  t173 := Tryz.underlying267
  a173 := Tryz.isAgg267
  z173 := Tryz.sizeOf267
  v173 := Tryz.zeroValue267
  t175 := Tryz.underlying289
  a175 := Tryz.isAgg289
  z175 := Tryz.sizeOf289
  v175 := Tryz.zeroValue289
  t210 := Tryz.underlying292
  a210 := Tryz.isAgg292
  z210 := Tryz.sizeOf292
  v210 := Tryz.zeroValue292
  t212 := Tryz.underlying278
  a212 := Tryz.isAgg278
  z212 := Tryz.sizeOf278
  v212 := Tryz.zeroValue278
  t213 := Tryz.underlying279
  a213 := Tryz.isAgg279
  z213 := Tryz.sizeOf279
  t232 := Tryz.underlying294
  a232 := Tryz.isAgg294
  z232 := Tryz.sizeOf294
  v232 := Tryz.zeroValue294
  t233 := Tryz.underlying295
  a233 := Tryz.isAgg295
  z233 := Tryz.sizeOf295
  v233 := Tryz.zeroValue295
  g15 := by kernel_rfl
  g16 := by kernel_rfl
  g17 := by kernel_rfl
  g18 := by kernel_rfl
  g19 := by kernel_rfl }
open Go.RowKit in
theorem Tryz.strconv_Atoi (s : ByteArray) (n : Int) (hl : s.size ≤ 18) (h : Lib.atoi s.data.toList = some n) (w : World) :
    Calls Tryz.prog 251 #[.string s] w fun e w' => e = .returned (.tuple #[.int .i64 n, .nilIface]) ∧ ∃ t, w' = Lib.bytesWorld w 5 t := Any.strconv_Atoi Tryz.lays172 s n hl h w
def Tryz.laysC172_ren : Go.Shelf.Ren := ⟨fun | 172 => 251 | 244 => 264 | 245 => 265 | 247 => 271 | 279 => 272 | 280 => 273 | 281 => 274 | 282 => 275 | 287 => 278 | 316 => 190 | 171 => 204 | 205 => 279 | 321 => 280 | 322 => 281 | 243 => 220 | 246 => 233 | 283 => 253 | 284 => 254 | 285 => 255 | 286 => 256 | 129 => 245 | 317 => 266 | 318 => 267 | 319 => 268 | 320 => 269 | 337 => 276 | 338 => 277 | n => n, fun | 9 => 9 | 3 => 3 | 75 => 114 | 76 => 232 | 4 => 4 | 5 => 5 | 167 => 283 | 37 => 22 | 0 => 0 | 85 => 284 | 2 => 2 | 168 => 286 | 53 => 260 | 175 => 289 | 46 => 218 | 210 => 292 | 127 => 236 | 145 => 299 | 143 => 297 | 21 => 21 | 171 => 265 | 173 => 267 | 212 => 278 | 51 => 243 | 20 => 20 | 213 => 279 | 232 => 294 | 233 => 295 | 80 => 234 | n => n, fun | 15 => 4 | 16 => 5 | 17 => 3 | 18 => 6 | 19 => 7 | n => n⟩
theorem Tryz.laysC172 : Go.Proofs.LaysC.n172 Tryz.prog Tryz.laysC172_ren := {
  mixed := by kernel_rfl
  f129 := Tryz.func245.trans (congrArg some (by kernel_rfl))
  f171 := Tryz.func204.trans (congrArg some (by kernel_rfl))
  f172 := Tryz.func251.trans (congrArg some (by kernel_rfl))
  f205 := Tryz.func279.trans (congrArg some (by kernel_rfl))
  f243 := Tryz.func220.trans (congrArg some (by kernel_rfl))
  f244 := Tryz.func264.trans (congrArg some (by kernel_rfl))
  f245 := Tryz.func265.trans (congrArg some (by kernel_rfl))
  f246 := Tryz.func233.trans (congrArg some (by kernel_rfl))
  f247 := Tryz.func271.trans (congrArg some (by kernel_rfl))
  f279 := Tryz.func272.trans (congrArg some (by kernel_rfl))
  f280 := Tryz.func273.trans (congrArg some (by kernel_rfl))
  f281 := Tryz.func274.trans (congrArg some (by kernel_rfl))
  f282 := Tryz.func275.trans (congrArg some (by kernel_rfl))
  f283 := Tryz.func253.trans (congrArg some (by kernel_rfl))
  f284 := Tryz.func254.trans (congrArg some (by kernel_rfl))
  f285 := Tryz.func255.trans (congrArg some (by kernel_rfl))
  f286 := Tryz.func256.trans (congrArg some (by kernel_rfl))
  f287 := Tryz.func278.trans (congrArg some (by kernel_rfl))
  f316 := Tryz.func190.trans (congrArg some (by kernel_rfl))
  f317 := Tryz.func266.trans (congrArg some (by kernel_rfl))
  f318 := Tryz.func267.trans (congrArg some (by kernel_rfl))
  f319 := Tryz.func268.trans (congrArg some (by kernel_rfl))
  f320 := Tryz.func269.trans (congrArg some (by kernel_rfl))
  f321 := Tryz.func280.trans (congrArg some (by kernel_rfl))
  f322 := Tryz.func281.trans (congrArg some (by kernel_rfl))
  f337 := Tryz.func276.trans (congrArg some (by kernel_rfl))
  f338 := Tryz.func277.trans (congrArg some (by kernel_rfl))
  t0 := Tryz.underlying0
  a0 := Tryz.isAgg0
  z0 := Tryz.sizeOf0
  v0 := Tryz.zeroValue0
  t2 := Tryz.underlying2
  a2 := Tryz.isAgg2
  z2 := Tryz.sizeOf2
  v2 := Tryz.zeroValue2
  t3 := Tryz.underlying3
  a3 := Tryz.isAgg3
  z3 := Tryz.sizeOf3
  v3 := Tryz.zeroValue3
  t4 := Tryz.underlying4
  a4 := Tryz.isAgg4
  z4 := Tryz.sizeOf4
  v4 := Tryz.zeroValue4
  t5 := Tryz.underlying5
  a5 := Tryz.isAgg5
  z5 := Tryz.sizeOf5
  v5 := Tryz.zeroValue5
  t9 := Tryz.underlying9
  a9 := Tryz.isAgg9
  z9 := Tryz.sizeOf9
  v9 := Tryz.zeroValue9
  t20 := Tryz.underlying20
  a20 := Tryz.isAgg20
  z20 := Tryz.sizeOf20
  v20 := Tryz.zeroValue20
  t21 := Tryz.underlying21
  a21 := Tryz.isAgg21
  z21 := Tryz.sizeOf21
  v21 := Tryz.zeroValue21
  t37 := Tryz.underlying22
  a37 := Tryz.isAgg22
  z37 := Tryz.sizeOf22
  v37 := Tryz.zeroValue22
  t46 := Tryz.underlying218
  a46 := Tryz.isAgg218
  z46 := Tryz.sizeOf218
  v46 := Tryz.zeroValue218
  t51 := Tryz.underlying243
  a51 := Tryz.isAgg243
  z51 := Tryz.sizeOf243
  v51 := Tryz.zeroValue243
  t53 := Tryz.underlying260
  a53 := Tryz.isAgg260
  z53 := Tryz.sizeOf260
  v53 := Tryz.zeroValue260
  t75 := Tryz.underlying114
  a75 := Tryz.isAgg114
  z75 := Tryz.sizeOf114
  v75 := Tryz.zeroValue114
  t76 := Tryz.underlying232
  a76 := Tryz.isAgg232
  z76 := Tryz.sizeOf232
  v76 := Tryz.zeroValue232
  t85 := Tryz.underlying284
  a85 := Tryz.isAgg284
  z85 := Tryz.sizeOf284
  v85 := Tryz.zeroValue284
  t127 := Tryz.underlying236
  a127 := Tryz.isAgg236
  z127 := Tryz.sizeOf236
  v127 := Tryz.zeroValue236
  t143 := Tryz.underlying297
  a143 := Tryz.isAgg297
  z143 := Tryz.sizeOf297
  v143 := Tryz.zeroValue297
  t145 := Tryz.underlying299
  a145 := Tryz.isAgg299
  z145 := Tryz.sizeOf299
  v145 := Tryz.zeroValue299
  t167 := Tryz.underlying283
  a167 := Tryz.isAgg283
  z167 := Tryz.sizeOf283
  v167 := Tryz.zeroValue283
  t168 := Tryz.underlying286
  a168 := Tryz.isAgg286
  z168 := Tryz.sizeOf286
  v168 := Tryz.zeroValue286
  t171 := Tryz.underlying265
  a171 := Tryz.isAgg265
  z171 := Tryz.sizeOf265
  v171 := Tryz.zeroValue265
  t173 := Tryz.underlying267
  a173 := Tryz.isAgg267
  z173 := Tryz.sizeOf267
  v173 := Tryz.zeroValue267
  t175 := Tryz.underlying289
  a175 := Tryz.isAgg289
  z175 := Tryz.sizeOf289
  v175 := Tryz.zeroValue289
  t210 := Tryz.underlying292
  a210 := Tryz.isAgg292
  z210 := Tryz.sizeOf292
  v210 := Tryz.zeroValue292
  t212 := Tryz.underlying278
  a212 := Tryz.isAgg278
  z212 := Tryz.sizeOf278
  v212 := Tryz.zeroValue278
  t213 := Tryz.underlying279
  a213 := Tryz.isAgg279
  z213 := Tryz.sizeOf279
  t232 := Tryz.underlying294
  a232 := Tryz.isAgg294
  z232 := Tryz.sizeOf294
  v232 := Tryz.zeroValue294
  t233 := Tryz.underlying295
  a233 := Tryz.isAgg295
  z233 := Tryz.sizeOf295
  v233 := Tryz.zeroValue295
  g15 := by kernel_rfl
  g16 := by kernel_rfl
  g17 := by kernel_rfl
  g18 := by kernel_rfl
  g19 := by kernel_rfl
  t80 := Tryz.underlying234
  a80 := Tryz.isAgg234
  z80 := Tryz.sizeOf234
  v80 := Tryz.zeroValue234
  i0 := by kernel_rfl
  i2 := by kernel_rfl
  i3 := by kernel_rfl
  i4 := by kernel_rfl
  i5 := by kernel_rfl
  i9 := by kernel_rfl
  i20 := by kernel_rfl
  i21 := by kernel_rfl
  i37 := by kernel_rfl
  i46 := by kernel_rfl
  i51 := by kernel_rfl
  i53 := by kernel_rfl
  i75 := by kernel_rfl
  i76 := by kernel_rfl
  i80 := by kernel_rfl
  i85 := by kernel_rfl
  i127 := by kernel_rfl
  i143 := by kernel_rfl
  i145 := by kernel_rfl
  i167 := by kernel_rfl
  i168 := by kernel_rfl
  i171 := by kernel_rfl
  i173 := by kernel_rfl
  i175 := by kernel_rfl
  i210 := by kernel_rfl
  i212 := by kernel_rfl
  i232 := by kernel_rfl
  i233 := by kernel_rfl
  m15 := by kernel_rfl
  m16 := by kernel_rfl
  m17 := by kernel_rfl
  m18 := by kernel_rfl
  m19 := by kernel_rfl
  c0 := by kernel_rfl
  c2 := by kernel_rfl
  c3 := by kernel_rfl
  c4 := by kernel_rfl
  c5 := by kernel_rfl
  c9 := by kernel_rfl
  c20 := by kernel_rfl
  c21 := by kernel_rfl
  c37 := by kernel_rfl
  c46 := by kernel_rfl
  c51 := by kernel_rfl
  c53 := by kernel_rfl
  c75 := by kernel_rfl
  c76 := by kernel_rfl
  c80 := by kernel_rfl
  c85 := by kernel_rfl
  c127 := by kernel_rfl
  c143 := by kernel_rfl
  c145 := by kernel_rfl
  c167 := by kernel_rfl
  c168 := by kernel_rfl
  c171 := by kernel_rfl
  c173 := by kernel_rfl
  c175 := by kernel_rfl
  c210 := by kernel_rfl
  c212 := by kernel_rfl
  c213 := by kernel_rfl
  c232 := by kernel_rfl
  c233 := by kernel_rfl }
open Go.RowKit in
theorem Tryz.strconv_Atoi_ok (s : ByteArray) (hmax : s.size ≤ 9223372036854775806) (v : Int) (h : Lib.atoiAll s.data.toList = .ok v) (w : World) :
    Calls Tryz.prog 251 #[.string s] w fun e w' => e = .returned (.tuple #[.int .i64 v, .nilIface]) ∧ (w' = w ∨ ∃ t, w' = Lib.bytesWorld w 5 t) := Any.strconv_Atoi_ok Tryz.laysC172 s hmax v h w
end Go.Proofs
namespace Go.Proofs.YtgfboghieejbkaaGreatDoor
open Go.RowKit

theorem bytes_below (w : World) (e : TypeId) (t : ByteArray) : Below w.heap.size w (Lib.bytesWorld w e t) := Lib.bytesWorld_below w e t

theorem atoi_num (s : ByteArray) (n : Nat) (w : World) (h : Hid (numOf s.data.toList = some n)) :
    Calls Tryz.prog 251 #[.string s] w fun e w' => e = .returned (.tuple #[.int .i64 n, .nilIface]) ∧ Below w.heap.size w w' := by
  obtain ⟨h1, h2⟩ := numOf_some h.out
  have hl := numOf_len h.out
  have hs : s.size ≤ 18 := by simp at hl; omega
  refine (Tryz.strconv_Atoi s (n : Int) hs (by rw [← h2]; exact atoi_digits n) w).mono ?_
  rintro e w' ⟨rfl, t, rfl⟩
  exact ⟨rfl, bytes_below _ _ _⟩

def AtoiEnd (e : Ending) : Prop := (∃ v : Int, e = .returned (.tuple #[.int .i64 v, .nilIface])) ∨ ∃ (v : Int) (t : TypeId) (x : Value), e = .returned (.tuple #[.int .i64 v, .iface t x])
theorem atoi_any (s : ByteArray) (hs : s.size ≤ 33554432) (w : World) (u1 u2 : TypeId) (p1 p2 : Value) (hy : w.cell? ⟨4, 0, none⟩ = some (.iface u1 p1)) (hr : w.cell? ⟨5, 0, none⟩ = some (.iface u2 p2)) :
    Calls Tryz.prog 251 #[.string s] w fun e w' => AtoiEnd e ∧ Below w.heap.size w w' := by
  cases h : Lib.atoiAll s.data.toList
  · refine (Tryz.strconv_Atoi_ok s (by omega) _ h w).mono ?_
    rintro e w' ⟨rfl, h1⟩
    refine ⟨.inl ⟨_, rfl⟩, ?_⟩
    · rcases h1 with rfl | ⟨t, rfl⟩
      · exact Below.refl _ _
      · exact bytes_below _ _ _
  · refine Calls.mono (Any.strconv_Atoi_syntax Tryz.laysC172 s (by omega) h _ w hy (.inr ⟨_, _, rfl⟩)) ?_
    rintro e w' ⟨N, rfl, _, _, hb⟩
    exact ⟨.inr ⟨_, _, _, rfl⟩, hb⟩
  · refine Calls.mono (Any.strconv_Atoi_range Tryz.laysC172 s (by omega) h _ w hr (.inr ⟨_, _, rfl⟩)) ?_
    rintro e w' ⟨N, rfl, _, _, hb⟩
    exact ⟨.inr ⟨_, _, _, rfl⟩, hb⟩

theorem take_snoc (s : ByteArray) (k : Nat) (h : k < s.size) : s.data.toList.take (k + 1) = s.data.toList.take k ++ [s[k]] := by
  rw [List.take_succ_eq_append_getElem (by simpa using h)]; rfl
theorem byte_get (s : ByteArray) (k : Nat) (h : k < s.size) : s.data.toList[k]? = some s[k] := by
  rw [List.getElem?_eq_getElem (by simpa using h)]; rfl
theorem dec_step (s : ByteArray) (k n : Nat) (h : k < s.size) (hd : Lib.decFrom 0 (s.data.toList.take k) = some n) (h1 : 48 ≤ s[k].toNat) (h2 : s[k].toNat ≤ 57) :
    Lib.decFrom 0 (s.data.toList.take (k + 1)) = some (n * 10 + (s[k].toNat - 48)) :=
  Lib.decFrom_take s.data.toList k 0 n s[k] _ hd (byte_get s k h) (by rw [Lib.digitVal, if_pos ⟨h1, h2⟩])
theorem len_data (s : ByteArray) : s.data.toList.length = s.size := by simp

theorem str_ne {t s : ByteArray} (h : t ≠ s) : (t.toList == s.toList) = false := by
  rw [beq_eq_false_iff_ne]
  intro e
  rw [ByteArray.toList_eq, ByteArray.toList_eq] at e
  exact h (ByteArray.ext (Array.toList_inj.1 e))

set_option maxHeartbeats 400000 in
set_option maxRecDepth 100000 in
theorem specNumber_len (s : ByteArray) (w : World) (hm : s.size ≤ maxLen) (h : s.size < 1 ∨ 6 < s.size) :
    Calls Tryz.prog 179 #[.string s] w fun e w' => e = .returned (.tuple #[.int .i64 0, .bool false]) ∧ w' = w := by
  unfold maxLen at hm
  by_cases h1 : s.size < 1
  · clear h
    go_enter Tryz.func179, Tryz.ntmps179
    go_wp2
    go_ret2
    exact ⟨rfl, rfl⟩
  · have hd : decide ((s.size : Int) < 1) = false := by simp; omega
    have h2 : 6 < s.size := by omega
    clear h
    go_enter Tryz.func179, Tryz.ntmps179
    go_wp2
    go_ret2
    exact ⟨rfl, rfl⟩

set_option maxHeartbeats 1600000 in
set_option maxRecDepth 100000 in
theorem specNumber_six (s : ByteArray) (w : World) (h1 : 1 ≤ s.size) (h6 : s.size ≤ 6) :
    Calls Tryz.prog 179 #[.string s] w fun e w' => e = .returned (.tuple #[.int .i64 (nans (numOf s.data.toList)), .bool (numOf s.data.toList).isSome]) ∧ Below w.heap.size w w' := by
  have hd : decide ((s.size : Int) < 1) = false := by simp; omega
  go_enter Tryz.func179, Tryz.ntmps179
  go_wp2
  go_loop [4, 5] (fun y i => ∃ k n : Nat, k ≤ s.size ∧ y = .int .i64 n ∧ i = .int .i64 k ∧ n < 10 ^ k ∧ Hid (Lib.decFrom 0 (s.data.toList.take k) = some n)) (fun _ i => s.size - (intOf i).toNat)
  case atStart => exact ⟨0, 0, by omega, rfl, rfl, by simp, rfl⟩
  case round =>
    obtain ⟨k, n, hk, rfl, rfl, hn, HD⟩ := hrel
    have hn6 : n ≤ 999999 := by
      have : 10 ^ k ≤ 10 ^ 6 := Nat.pow_le_pow_right (by omega) (by omega)
      omega
    by_cases hlt : k < s.size
    · by_cases hb : 48 ≤ s[k].toNat ∧ s[k].toNat ≤ 57
      · have HS := hide (dec_step s k n hlt HD.out hb.1 hb.2)
        have hb1 := hb.1
        have hb2 := hb.2
        have hpow : n * 10 + (s[k].toNat - 48) < 10 ^ (k + 1) := by rw [Nat.pow_succ]; omega
        clear hb
        go_wp2
        go_round
        case rel => exact ⟨k + 1, n * 10 + (s[k].toNat - 48), by omega, by go_num, by go_num, hpow, HS⟩
        case measure => simp [intOf]; omega
      · have HN := hide (numOf_none_byte (byte_get s k hlt) (by omega))
        by_cases hb1 : s[k].toNat < 48
        · clear hb
          go_wp2
          go_ret2
          exact ⟨by rw [unhide HN]; rfl, Below.refl _ _⟩
        · have hb2 : 57 < s[k].toNat := by omega
          clear hb
          go_wp2
          go_ret2
          exact ⟨by rw [unhide HN]; rfl, Below.refl _ _⟩
    · have hks : k = s.size := by omega
      have HD' : Hid (Lib.decFrom 0 s.data.toList = some n) := by
        have := HD.out; rw [hks, List.take_of_length_le (by rw [len_data]; omega)] at this; exact this
      clear HD
      by_cases he : Lib.decDigits n = s.data.toList
      · have HY := hide (numOf_yes HD'.out hn6 he)
        have hs : (⟨(Lib.itoa (n : Int)).toArray⟩ : ByteArray) = s := by rw [itoa_nat, he]
        have HC := hide fun w => specDigits_any (n : Int) w (by omega) (by omega)
        rw [hs] at HC
        clear hs he
        go_wp2_with fail
        refine (unhide HC _).mono ?_
        rintro e w1 ⟨rfl, b1⟩
        go_wp2
        go_ret2
        exact ⟨by rw [unhide HY]; rfl, b1⟩
      · have HN := hide (numOf_no HD'.out he)
        have HC := hide fun w => specDigits_any (n : Int) w (by omega) (by omega)
        obtain ⟨t, ht⟩ : ∃ t : ByteArray, t = ⟨(Lib.itoa (n : Int)).toArray⟩ := ⟨_, rfl⟩
        rw [← ht] at HC
        have hne : t ≠ s := by intro e; rw [ht, itoa_nat] at e; apply he; rw [← e]
        have hne' := str_ne hne
        clear ht he
        go_wp2_with fail
        refine (unhide HC _).mono ?_
        rintro e w1 ⟨rfl, b1⟩
        go_wp2
        go_ret2
        exact ⟨by rw [unhide HN]; rfl, b1⟩

theorem specNumber_any (s : ByteArray) (w : World) (hm : s.size ≤ maxLen) :
    Calls Tryz.prog 179 #[.string s] w fun e w' => e = .returned (.tuple #[.int .i64 (nans (numOf s.data.toList)), .bool (numOf s.data.toList).isSome]) ∧ Below w.heap.size w w' := by
  by_cases h : s.size < 1 ∨ 6 < s.size
  · refine (specNumber_len s w hm h).mono ?_
    rintro e w' ⟨rfl, rfl⟩
    exact ⟨by rw [numOf_none_len (by rw [len_data]; exact h)]; rfl, Below.refl _ _⟩
  · exact specNumber_six s w (by omega) (by omega)
end Go.Proofs.YtgfboghieejbkaaGreatDoor
