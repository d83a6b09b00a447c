/- Texts that belong together: OneStr, DigPlain, SpecDigits, Digits, NumPlain, Held, TxText. -/
import Derived.Test.YthdehhenkgkkmaaDoorBunA
import Derived.Laws.BytesArg
import Derived.WalkKit
import Derived.Lib.ItoaNum
import Derived.Test.YthdehhenkgkkmaaDoorShelfItoa
import Derived.Lib.LaidTab
import Derived.Lib.Atoi
import Derived.Deep.RegionHeld3
import Derived.Deep.DeepCutAuto
/- A text of one byte. -/
namespace Go.Proofs.YthdehhenkgkkmaaDoor
open Go.RowKit
set_option linter.unusedSectionVars false
variable [∀ (a b c d : Int), Decidable (Ok4 a b c d)]

theorem one_str (w : World) (c : Int) : (convert 22 9 (.slice (some ⟨w.heap.size, 0, none⟩) 1 1)).run Tryd.prog (w.alloc (.cells #[.int .u8 c] 5)) = .ok (.string (strOfNums [c])) (w.alloc (.cells #[.int .u8 c] 5)) := by
  refine run_convert_bytes_arg (P := Tryd.prog) _ 22 5 Tryd.underlying22 Tryd.underlying5 w.heap.size 0 1 1 [c] rfl (fun i hi => ?_) 9 Tryd.underlying9
  obtain rfl : i = 0 := by omega
  simp
end Go.Proofs.YthdehhenkgkkmaaDoor

/- The plain mathematics of decimal numerals, digit by digit. Nothing of the program. -/
namespace Go.Proofs.YthdehhenkgkkmaaDoor
set_option linter.unusedSectionVars false
variable [∀ (a b c d : Int), Decidable (Ok4 a b c d)]

/-- The digits that are still to come. -/
def rest (m : Nat) : List UInt8 := if m = 0 then [] else Lib.decDigits m
theorem rest_step (m : Nat) (h : m ≠ 0) : rest m = rest (m / 10) ++ [UInt8.ofNat (48 + m % 10)] := by
  by_cases h10 : m < 10
  · have e : m / 10 = 0 := by omega
    rw [rest, if_neg h, Lib.decDigits, dif_pos h10, e, rest, if_pos rfl, Nat.mod_eq_of_lt h10]; rfl
  · have e : m / 10 ≠ 0 := by omega
    rw [rest, if_neg h, Lib.decDigits, dif_neg h10, rest, if_neg e]
/-- Where the loop stands: m is left, the text t is made. -/
def DAt (n m : Nat) (t : List UInt8) : Prop := rest m ++ t = rest n ∧ t.length ≤ 20 ∧ m < 10 ^ (20 - t.length)
theorem dat_start (n : Nat) (h : n ≤ 9223372036854775808) : DAt n n [] := ⟨by simp, by simp, by simp; omega⟩
theorem dat_step {n m : Nat} {t : List UInt8} (h : DAt n m t) (h0 : m ≠ 0) : DAt n (m / 10) (UInt8.ofNat (48 + m % 10) :: t) ∧ t.length ≤ 19 := by
  obtain ⟨h1, h2, h3⟩ := h
  have hl : t.length ≤ 19 := by
    by_cases e : t.length = 20
    · rw [e] at h3; simp at h3; omega
    · omega
  refine ⟨⟨?_, by simp; omega, ?_⟩, hl⟩
  · rw [rest_step m h0] at h1; simpa using h1
  · have e : 20 - t.length = (20 - (t.length + 1)) + 1 := by omega
    rw [e, Nat.pow_succ] at h3
    simp only [List.length_cons]
    exact Nat.div_lt_of_lt_mul (by rw [Nat.mul_comm]; exact h3)
theorem dat_end {n : Nat} {t : List UInt8} (h : DAt n 0 t) (hn : n ≠ 0) : t = Lib.decDigits n := by
  have := h.1
  rwa [rest, if_pos rfl, List.nil_append, rest, if_neg hn] at this

theorem one_more (k : Nat) (t : List UInt8) (h : k < 10) : strOfNums [48 + (k : Int)] ++ (⟨t.toArray⟩ : ByteArray) = ⟨(UInt8.ofNat (48 + k) :: t).toArray⟩ := by
  have e : (48 + (k : Int)).toNat = 48 + k := by omega
  apply ByteArray.ext
  apply Array.toList_inj.1
  simp [strOfNums, e]
theorem one_size (c : Int) : (strOfNums [c]).size = 1 := rfl
end Go.Proofs.YthdehhenkgkkmaaDoor

/- spec.Digits: the decimal numeral. -/
namespace Go.Proofs.YthdehhenkgkkmaaDoor
open Go.RowKit
set_option linter.unusedSectionVars false
variable [∀ (a b c d : Int), Decidable (Ok4 a b c d)]

set_option maxHeartbeats 800000 in
set_option maxRecDepth 100000 in
theorem specDigits_pos (n : Nat) (w : World) (hn : 0 < n) (hm : n ≤ 9223372036854775807) :
    Calls Tryd.prog 55 #[.int .i64 n] w fun e w' => e = .returned (.string ⟨(Lib.decDigits n).toArray⟩) ∧ Below w.heap.size w w' := by
  have hcv := one_str
  have hsz := one_size
  have hne : ((n : Int) == 0) = false := by simp; omega
  have hlt : decide ((n : Int) < 0) = false := by simp
  go_enter Tryd.func55, Tryd.ntmps55
  go_wp2
  go_loopw [0, 4] (fun x s wr => ∃ (m : Nat) (t : List UInt8), m ≤ 9223372036854775807 ∧ DAt n m t ∧ x = .int .i64 m ∧ s = .string ⟨t.toArray⟩ ∧ Below w.heap.size w wr) (fun x _ _ => (intOf x).toNat)
  case atStart => exact ⟨n, [], hm, dat_start n (by omega), rfl, rfl, Below.refl _ _⟩
  case round =>
    obtain ⟨m, t, hm', hd, rfl, rfl, hb⟩ := hrel
    by_cases h0 : m = 0
    · subst h0
      have HE := hide (dat_end hd (by omega))
      clear hd
      go_wp2
      go_ret
      have HE' := unhide HE
      subst HE'
      exact ⟨rfl, hb⟩
    · have hne' : ((m : Int) != 0) = true := by simp [h0]
      obtain ⟨hd', hl⟩ := dat_step hd h0
      have HD := hide hd'
      clear hd hd'
      have hs0 := hb.size
      have hmo := one_more (m % 10) t (by omega)
      have hbl : Below w.heap.size w (wr.alloc (.cells #[.int .u8 (48 + (m : Int) % 10)] 5)) := hb.alloc hs0 _
      go_wp2
      go_roundw
      case rel => exact ⟨m / 10, _, by omega, unhide HD, by go_num, by rw [← hmo]; rfl, hbl⟩
      case measure => simp [intOf]; omega

set_option maxHeartbeats 800000 in
set_option maxRecDepth 100000 in
theorem specDigits_neg (n : Nat) (w : World) (hn : 0 < n) (hm : n ≤ 9223372036854775808) :
    Calls Tryd.prog 55 #[.int .i64 (-(n : Int))] w fun e w' => e = .returned (.string ⟨(45 :: Lib.decDigits n).toArray⟩) ∧ Below w.heap.size w w' := by
  have hcv := one_str
  have hsz := one_size
  have hne : ((-(n : Int)) == 0) = false := by simp; omega
  have hlt : decide (-(n : Int) < 0) = true := by simp; omega
  go_enter Tryd.func55, Tryd.ntmps55
  go_wp2
  go_loopw [0, 4] (fun x s wr => ∃ (m : Nat) (t : List UInt8), m ≤ 9223372036854775808 ∧ DAt n m t ∧ x = .int .i64 (-(m : Int)) ∧ s = .string ⟨t.toArray⟩ ∧ Below w.heap.size w wr) (fun x _ _ => (-(intOf x)).toNat)
  case atStart => exact ⟨n, [], hm, dat_start n hm, rfl, rfl, Below.refl _ _⟩
  case round =>
    obtain ⟨m, t, hm', hd, rfl, rfl, hb⟩ := hrel
    by_cases h0 : m = 0
    · subst h0
      have HE := hide (dat_end hd (by omega))
      have hl := hd.2.1
      clear hd
      go_wp2
      go_ret
      have HE' := unhide HE
      subst HE'
      exact ⟨by apply congrArg Ending.returned; apply congrArg Value.string; apply ByteArray.ext; apply Array.toList_inj.1; simp, hb⟩
    · have hne' : ((-(m : Int)) != 0) = true := by simp [h0]
      obtain ⟨hd', hl⟩ := dat_step hd h0
      have HD := hide hd'
      clear hd hd'
      have hs0 := hb.size
      have hmo := one_more (m % 10) t (by omega)
      have ht : (-(m : Int)).tmod 10 = -((m % 10 : Nat) : Int) := by rw [Int.neg_tmod]; rfl
      have hq : (-(m : Int)).tdiv 10 = -((m / 10 : Nat) : Int) := by rw [Int.neg_tdiv]; rfl
      by_cases hz : m % 10 = 0
      · have hbl : Below w.heap.size w (wr.alloc (.cells #[.int .u8 48] 5)) := hb.alloc hs0 _
        go_wp2
        go_roundw
        case rel => exact ⟨m / 10, _, by omega, unhide HD, by go_num, by rw [← hmo, hz]; rfl, hbl⟩
        case measure => simp [intOf]; omega
      · have hbl : Below w.heap.size w (wr.alloc (.cells #[.int .u8 (48 + (m : Int) % 10)] 5)) := hb.alloc hs0 _
        go_wp2
        go_roundw
        case rel => exact ⟨m / 10, _, by omega, unhide HD, by go_num, by rw [← hmo]; rfl, hbl⟩
        case measure => simp [intOf]; omega

set_option maxHeartbeats 400000 in
set_option maxRecDepth 100000 in
theorem specDigits_zero (w : World) :
    Calls Tryd.prog 55 #[.int .i64 0] w fun e w' => e = .returned (.string ⟨(Lib.decDigits 0).toArray⟩) ∧ Below w.heap.size w w' := by
  go_enter Tryd.func55, Tryd.ntmps55
  go_wp2
  go_ret
  exact ⟨by rw [Lib.decDigits]; rfl, Below.refl _ _⟩

theorem specDigits_any (n : Int) (w : World) (h0 : -9223372036854775808 ≤ n) (h1 : n ≤ 9223372036854775807) :
    Calls Tryd.prog 55 #[.int .i64 n] w fun e w' => e = .returned (.string ⟨(Lib.itoa n).toArray⟩) ∧ Below w.heap.size w w' := by
  unfold Lib.itoa
  by_cases hn : n < 0
  · obtain ⟨m, rfl⟩ : ∃ m : Nat, n = -(m : Int) := ⟨n.natAbs, by omega⟩
    rw [if_pos hn, show (-(m : Int)).natAbs = m from by omega]
    exact specDigits_neg m w (by omega) (by omega)
  · obtain ⟨m, rfl⟩ := Int.eq_ofNat_of_zero_le (Int.not_lt.1 hn)
    rw [if_neg hn, Int.toNat_natCast]
    by_cases hm : m = 0
    · subst hm; exact specDigits_zero w
    · exact specDigits_pos m w (by omega) (by omega)
end Go.Proofs.YthdehhenkgkkmaaDoor

/- impl.Digits, and the walk of laws.FnExactDigits. -/
namespace Go.Proofs.YthdehhenkgkkmaaDoor
open Go.RowKit
set_option linter.unusedSectionVars false
variable [∀ (a b c d : Int), Decidable (Ok4 a b c d)]

theorem grow_below (w : World) (k : Nat) (os : Array Obj) : Below w.heap.size w (Sort.grow (w.drewN k) os) :=
  ⟨rfl, rfl, rfl, by simp [Sort.grow], fun i hi => by simp only [Sort.grow, World.heap_drewN]; rw [Array.getElem?_append_left hi]⟩

/-- The table of powers lies as the library's text lays it. -/
abbrev Pow (w : World) : Prop := Lib.TabIs Tryd.prog w "internal/strconv.uint64pow10" .u64 Lib.pow10Tab
theorem gPow : Tryd.prog.globalNamed "internal/strconv.uint64pow10" = some 0 := by kernel_rfl
theorem Pow.below {w w' : World} (h : Pow w) (hb : Below w.heap.size w w') : Pow w' := by
  have hlt : 0 < w.heap.size := cell_lt (h.cell gPow 0 (by decide))
  exact var?_below hb gPow hlt h

set_option maxHeartbeats 400000 in
set_option maxRecDepth 100000 in
theorem implDigits_any (n : Int) (w : World) (h0 : -9223372036854775808 ≤ n) (h1 : n ≤ 9223372036854775807) (ht : Pow w) :
    Calls Tryd.prog 52 #[.int .i64 n] w fun e w' => e = .returned (.string ⟨(Lib.itoa n).toArray⟩) ∧ Below w.heap.size w w' := by
  go_enter Tryd.func52, Tryd.ntmps52
  go_wp2_with fail
  refine (Tryd.strconv_Itoa n h0 h1 _ ht).mono ?_
  rintro e w' ⟨rfl, k, os, rfl⟩
  go_wp2
  go_ret
  exact ⟨rfl, grow_below _ _ _⟩
end Go.Proofs.YthdehhenkgkkmaaDoor

/- The plain mathematics of Number. Nothing of the program. -/
namespace Go.Proofs.YthdehhenkgkkmaaDoor
set_option linter.unusedSectionVars false
variable [∀ (a b c d : Int), Decidable (Ok4 a b c d)]

theorem decFrom_append (l r : List UInt8) (acc : Nat) : Lib.decFrom acc (l ++ r) = (Lib.decFrom acc l).bind fun a => Lib.decFrom a r := by
  induction l generalizing acc with
  | nil => rfl
  | cons b l ih =>
    rw [List.cons_append, Lib.decFrom, Lib.decFrom]
    cases Lib.digitVal b with
    | none => rfl
    | some d => exact ih _
theorem digit_ofNat (k : Nat) (h : k < 10) : Lib.digitVal (UInt8.ofNat (48 + k)) = some k := by
  have e : (UInt8.ofNat (48 + k)).toNat = 48 + k := by simp; omega
  rw [Lib.digitVal, if_pos (by omega), e]; congr 1; omega
theorem decFrom_digits (n : Nat) : Lib.decFrom 0 (Lib.decDigits n) = some n := by
  induction n using Nat.strongRecOn with
  | ind n ih =>
    rw [Lib.decDigits]
    by_cases h : n < 10
    · rw [dif_pos h]
      simp only [Lib.decFrom, digit_ofNat n h]; simp
    · rw [dif_neg h, decFrom_append, ih (n / 10) (by omega)]
      simp only [Option.bind_some, Lib.decFrom, digit_ofNat (n % 10) (by omega)]
      congr 1; omega
theorem digits_ne (n : Nat) : Lib.decDigits n ≠ [] := by
  intro h
  have := Lib.decDigits_length n
  rw [h] at this
  have := Lib.nDigits_pos n
  simp at *; omega
theorem atoi_digits (n : Nat) : Lib.atoi (Lib.decDigits n) = some (n : Int) := by
  have hd := decFrom_digits n
  have hne := digits_ne n
  cases hl : Lib.decDigits n with
  | nil => exact absurd hl hne
  | cons b r =>
    rw [hl] at hd
    obtain ⟨d, hb⟩ := Lib.digit_of_decFrom (b :: r) 0 n hd 0 b rfl
    have hb' := Lib.digitVal_eq hb
    have h45 : (b == 45) = false := by
      rw [beq_eq_false_iff_ne]; intro e; subst e; simp at hb'
    have h43 : (b == 43) = false := by
      rw [beq_eq_false_iff_ne]; intro e; subst e; simp at hb'
    simp [Lib.atoi, h45, h43, Lib.decNat, hd]
theorem nDigits_six (n : Nat) (h : n ≤ 999999) : Lib.nDigits n ≤ 6 := by
  have step : ∀ m k, (m < 10 → 1 ≤ k) → (¬ m < 10 → Lib.nDigits (m / 10) + 1 ≤ k) → Lib.nDigits m ≤ k := by
    intro m k h1 h2
    by_cases hm : m < 10
    · rw [Lib.nDigits_small hm]; exact h1 hm
    · rw [Lib.nDigits_big hm]; exact h2 hm
  refine step _ _ (fun _ => by omega) fun _ => Nat.succ_le_of_lt (Nat.lt_of_le_of_lt (step _ 5 (fun _ => by omega) fun _ => Nat.succ_le_of_lt (Nat.lt_of_le_of_lt (step _ 4 (fun _ => by omega) fun _ => Nat.succ_le_of_lt (Nat.lt_of_le_of_lt (step _ 3 (fun _ => by omega) fun _ => Nat.succ_le_of_lt (Nat.lt_of_le_of_lt (step _ 2 (fun _ => by omega) fun _ => Nat.succ_le_of_lt (Nat.lt_of_le_of_lt (step _ 1 (fun _ => by omega) fun _ => ?_) (by omega))) (by omega))) (by omega))) (by omega))) (by omega))
  omega

/-- The number that a text is the numeral of. -/
def numOf (l : List UInt8) : Option Nat :=
  match Lib.decFrom 0 l with
  | some n => if n ≤ 999999 ∧ Lib.decDigits n = l then some n else none
  | none => none
theorem numOf_some {l : List UInt8} {n : Nat} (h : numOf l = some n) : n ≤ 999999 ∧ Lib.decDigits n = l := by
  unfold numOf at h
  cases hd : Lib.decFrom 0 l with
  | none => rw [hd] at h; cases h
  | some m =>
    rw [hd] at h
    by_cases hc : m ≤ 999999 ∧ Lib.decDigits m = l
    · simp only [if_pos hc, Option.some.injEq] at h; subst h; exact hc
    · simp only [if_neg hc] at h; cases h
theorem numOf_of {n : Nat} (h : n ≤ 999999) : numOf (Lib.decDigits n) = some n := by
  unfold numOf; rw [decFrom_digits]; simp [h]
theorem numOf_len {l : List UInt8} {n : Nat} (h : numOf l = some n) : 1 ≤ l.length ∧ l.length ≤ 6 := by
  obtain ⟨h1, rfl⟩ := numOf_some h
  rw [Lib.decDigits_length]
  exact ⟨Lib.nDigits_pos n, nDigits_six n h1⟩
theorem numOf_none_len {l : List UInt8} (h : l.length < 1 ∨ 6 < l.length) : numOf l = none := by
  cases hn : numOf l with
  | none => rfl
  | some n => have := numOf_len hn; omega
theorem numOf_none_dec {l : List UInt8} (h : Lib.decFrom 0 l = none) : numOf l = none := by unfold numOf; rw [h]
theorem numOf_none_byte {l : List UInt8} {k : Nat} {b : UInt8} (hk : l[k]? = some b) (hb : b.toNat < 48 ∨ 57 < b.toNat) : numOf l = none := by
  refine numOf_none_dec ?_
  cases hd : Lib.decFrom 0 l with
  | none => rfl
  | some n =>
    obtain ⟨d, h⟩ := Lib.digit_of_decFrom l 0 n hd k b hk
    have := Lib.digitVal_eq h
    omega
theorem numOf_yes {l : List UInt8} {n : Nat} (hd : Lib.decFrom 0 l = some n) (hn : n ≤ 999999) (h : Lib.decDigits n = l) : numOf l = some n := by unfold numOf; rw [hd]; simp [hn, h]
theorem numOf_no {l : List UInt8} {n : Nat} (hd : Lib.decFrom 0 l = some n) (h : Lib.decDigits n ≠ l) : numOf l = none := by unfold numOf; rw [hd]; simp [h]
theorem itoa_nat (n : Nat) : Lib.itoa (n : Int) = Lib.decDigits n := by rw [Lib.itoa, if_neg (by omega), Int.toNat_natCast]
/-- What Number answers. -/
def nans (r : Option Nat) : Int := match r with | some n => (n : Int) | none => 0
end Go.Proofs.YthdehhenkgkkmaaDoor

/- A region's condition may be made stronger on the way: what holds behind every operation from here on holds behind every operation. -/
namespace Go.Proofs.YthdehhenkgkkmaaDoor
open Go
set_option linter.unusedSectionVars false
variable [∀ (a b c d : Int), Decidable (Ok4 a b c d)]
section
variable {P : Program} {md : Region.Mode} {ops : Array Oper} {Q : Exit → Act → World → Prop} {S S2 : World → Prop}
theorem wpAnyH_weaken (hS : ∀ w, S2 w → S w) : ∀ (fuel : Nat) (listed : Array Bool) (a : Act) (w : World), wpAnyH P md ops Q S2 fuel listed a w → wpAnyH P md ops Q S fuel listed a w
  | 0, _, _, _, h => h
  | fuel + 1, _, _, _, h => ⟨h.1, fun i hi => wpOp_mono (fun a' w' h' => ⟨hS _ h'.1, wpAnyH_weaken hS fuel _ a' w' h'.2⟩) (h.2 i hi)⟩
theorem shut_eq {fuel : Nat} {listed : Array Bool} {K : Act → World → Prop} (hS : ∀ w, S2 w → S w)
    (h : Shut (∀ a w, S w → (S w → wpAnyH P md ops Q S fuel listed a w) → K a w)) :
    Shut (∀ a w, S w → (S w → wpAnyH P md ops Q S fuel listed a w) → K a w) = Shut (∀ a w, S2 w → (S2 w → wpAnyH P md ops Q S2 fuel listed a w) → K a w) :=
  propext ⟨fun h a w h2 hw => h a w (hS w h2) (fun _ => wpAnyH_weaken hS _ _ _ _ (hw h2)), fun _ => h⟩
end
end Go.Proofs.YthdehhenkgkkmaaDoor

/- TxText of the program and of the specification. -/
namespace Go.Proofs.YthdehhenkgkkmaaDoor
open Go.RowKit
set_option linter.unusedSectionVars false
variable [∀ (a b c d : Int), Decidable (Ok4 a b c d)]

/-- The decimal numeral as a text. -/
def dg (n : Int) : ByteArray := ⟨(Lib.itoa n).toArray⟩
theorem dg_size (n : Int) (h0 : 0 ≤ n) (h1 : n ≤ 999999) : (⟨(Lib.itoa n).toArray⟩ : ByteArray).size ≤ 6 := by
  obtain ⟨m, rfl⟩ := Int.eq_ofNat_of_zero_le h0
  have := nDigits_six m (by omega)
  rw [itoa_nat]
  have e : (⟨(Lib.decDigits m).toArray⟩ : ByteArray).size = (Lib.decDigits m).length := by simp [ByteArray.size]
  rw [e, Lib.decDigits_length]; exact this
/-- The text of a payment. -/
def txs (a b c d : Int) : ByteArray := dg a ++ (⟨#[62]⟩ : ByteArray) ++ dg b ++ (⟨#[58]⟩ : ByteArray) ++ dg c ++ (⟨#[35]⟩ : ByteArray) ++ dg d

set_option maxHeartbeats 4000000 in
set_option maxRecDepth 100000 in
theorem implTxText_yes (a b c d : Int) (w : World) (h : Ok4 a b c d) (ht : Pow w) :
    Calls Tryd.prog 30 #[txv a b c d] w fun e w' => e = .returned (.string (txs a b c d)) ∧ Below w.heap.size w w' := by
  have OK := hide fun w => implTxOk_yes a b c d w h
  obtain ⟨⟨a1, a2⟩, ⟨b1, b2⟩, ⟨c1, c2⟩, ⟨d1, d2⟩⟩ := h
  have CA := hide fun w ht => implDigits_any a w (by omega) (by omega) ht
  have CB := hide fun w ht => implDigits_any b w (by omega) (by omega) ht
  have CC := hide fun w ht => implDigits_any c w (by omega) (by omega) ht
  have CD := hide fun w ht => implDigits_any d w (by omega) (by omega) ht
  have HX : Hid (txs a b c d = dg a ++ (⟨#[62]⟩ : ByteArray) ++ dg b ++ (⟨#[58]⟩ : ByteArray) ++ dg c ++ (⟨#[35]⟩ : ByteArray) ++ dg d) := rfl
  have HT := hide ht
  unfold dg at HX
  have za := dg_size a (by omega) (by omega)
  have zb := dg_size b (by omega) (by omega)
  have zc := dg_size c (by omega) (by omega)
  have zd := dg_size d (by omega) (by omega)
  generalize (⟨(Lib.itoa a).toArray⟩ : ByteArray) = sa at *
  generalize (⟨(Lib.itoa b).toArray⟩ : ByteArray) = sb at *
  generalize (⟨(Lib.itoa c).toArray⟩ : ByteArray) = sc at *
  generalize (⟨(Lib.itoa d).toArray⟩ : ByteArray) = sd at *
  generalize txs a b c d = r at *
  obtain ⟨s1, e1⟩ : ∃ x, x = sa ++ (⟨#[62]⟩ : ByteArray) := ⟨_, rfl⟩
  obtain ⟨s2, e2⟩ : ∃ x, x = s1 ++ sb := ⟨_, rfl⟩
  obtain ⟨s3, e3⟩ : ∃ x, x = s2 ++ (⟨#[58]⟩ : ByteArray) := ⟨_, rfl⟩
  obtain ⟨s4, e4⟩ : ∃ x, x = s3 ++ sc := ⟨_, rfl⟩
  obtain ⟨s5, e5⟩ : ∃ x, x = s4 ++ (⟨#[35]⟩ : ByteArray) := ⟨_, rfl⟩
  rw [← e1, ← e2, ← e3, ← e4, ← e5] at HX
  have o : ∀ c : UInt8, (⟨#[c]⟩ : ByteArray).size = 1 := fun _ => rfl
  have y1 : s1.size ≤ 7 := by rw [e1, ByteArray.size_append, o]; omega
  have y2 : s2.size ≤ 13 := by rw [e2, ByteArray.size_append]; omega
  have y3 : s3.size ≤ 14 := by rw [e3, ByteArray.size_append, o]; omega
  have y4 : s4.size ≤ 20 := by rw [e4, ByteArray.size_append]; omega
  have y5 : s5.size ≤ 21 := by rw [e5, ByteArray.size_append, o]; omega
  have q1 : ∀ w, (Op.stringOp .add sa (⟨#[62]⟩ : ByteArray)).run Tryd.prog w = .ok (.string s1) w := fun w => by rw [e1]; exact run_string_add_sum w _ _ (by rw [o]; omega)
  have q2 : ∀ w, (Op.stringOp .add s1 sb).run Tryd.prog w = .ok (.string s2) w := fun w => by rw [e2]; exact run_string_add_sum w _ _ (by omega)
  have q3 : ∀ w, (Op.stringOp .add s2 (⟨#[58]⟩ : ByteArray)).run Tryd.prog w = .ok (.string s3) w := fun w => by rw [e3]; exact run_string_add_sum w _ _ (by rw [o]; omega)
  have q4 : ∀ w, (Op.stringOp .add s3 sc).run Tryd.prog w = .ok (.string s4) w := fun w => by rw [e4]; exact run_string_add_sum w _ _ (by omega)
  have q5 : ∀ w, (Op.stringOp .add s4 (⟨#[35]⟩ : ByteArray)).run Tryd.prog w = .ok (.string s5) w := fun w => by rw [e5]; exact run_string_add_sum w _ _ (by rw [o]; omega)
  have q6 : ∀ w, (Op.stringOp .add s5 sd).run Tryd.prog w = .ok (.string r) w := fun w => by rw [unhide HX]; exact run_string_add_sum w _ _ (by omega)
  clear HX e1 e2 e3 e4 e5 y1 y2 y3 y4 y5 za zb zc zd o
  clear ht a1 a2 b1 b2 c1 c2 d1 d2
  go_enter Tryd.func30, Tryd.ntmps30
  go_wp2_with fail
  refine (unhide OK _).mono ?_
  rintro e w1 ⟨rfl, q1⟩
  have bel : Below w.heap.size w w1 := ((Below.refl _ _).alloc (Nat.le_refl _) _).trans (q1.mono (by simp))
  have hsz : w.heap.size + 1 ≤ w1.heap.size := by have := q1.size; simp at this; exact this
  have X1 := hide ((cells4_new w a b c d 26).below q1 (by simp))
  have P1 := hide ((unhide HT).below bel)
  have K : Hid (∀ w', Below w1.heap.size w1 w' → Below w1.heap.size w1 w' ∧ (w'.cell? ⟨w.heap.size, 0, none⟩ = some (.int .i64 a) ∧ w'.cell? ⟨w.heap.size, 1, none⟩ = some (.int .i64 b) ∧ w'.cell? ⟨w.heap.size, 2, none⟩ = some (.int .i64 c) ∧ w'.cell? ⟨w.heap.size, 3, none⟩ = some (.int .i64 d))) :=
    fun w' hb => ⟨hb, (unhide X1).below hb (by omega)⟩
  have hKeep := unhide K _ (Below.drew (Below.refl _ w1))
  have bA : Below w1.heap.size w1 w1.drew := Below.drew (Below.refl _ _)
  clear q1 HT
  go_upto_region 3 with fail
  first | go_region_held3 (fun w' => Below w1.heap.size w1 w' ∧ (w'.cell? ⟨w.heap.size, 0, none⟩ = some (.int .i64 a) ∧ w'.cell? ⟨w.heap.size, 1, none⟩ = some (.int .i64 b) ∧ w'.cell? ⟨w.heap.size, 2, none⟩ = some (.int .i64 c) ∧ w'.cell? ⟨w.heap.size, 3, none⟩ = some (.int .i64 d))) (exact hKeep) (first
    | (go_at_call 52; have hgo := bA; refine (unhide CA _ ((unhide P1).below hgo)).mono ?_; rintro e wa ⟨rfl, ba⟩
       have bB : Below w1.heap.size w1 wa := bA.trans ba
       have hKeep := unhide K _ bB; clear bA hgo)
    | (go_at_call 52; have hgo := bB; refine (unhide CB _ ((unhide P1).below hgo)).mono ?_; rintro e wb ⟨rfl, bb⟩
       have bC : Below w1.heap.size w1 wb := bB.trans (bb.mono bB.size)
       have hKeep := unhide K _ bC; clear bB hgo)
    | (go_at_call 52; have hgo := bC; refine (unhide CC _ ((unhide P1).below hgo)).mono ?_; rintro e wc ⟨rfl, bc⟩
       have bD : Below w1.heap.size w1 wc := bC.trans (bc.mono bC.size)
       have hKeep := unhide K _ bD; clear bC hgo)
    | (go_at_call 52; have hgo := bD; refine (unhide CD _ ((unhide P1).below hgo)).mono ?_; rintro e wd ⟨rfl, bd⟩
       have bE : Below w1.heap.size w1 wd := bD.trans (bd.mono bD.size)
       have hKeep := unhide K _ bE; clear bD hgo)) | fail
  all_goals
    go_wp2
    go_ret
    exact ⟨rfl, bel.trans (bE.mono (by omega))⟩

set_option maxHeartbeats 4000000 in
set_option maxRecDepth 100000 in
theorem specTxText_yes (a b c d : Int) (w : World) (h : Ok4 a b c d) :
    Calls Tryd.prog 35 #[txv a b c d] w fun e w' => e = .returned (.string (txs a b c d)) ∧ Below w.heap.size w w' := by
  have OK := hide fun w => specTxOk_yes a b c d w h
  obtain ⟨⟨a1, a2⟩, ⟨b1, b2⟩, ⟨c1, c2⟩, ⟨d1, d2⟩⟩ := h
  have CA := hide fun w => specDigits_any a w (by omega) (by omega)
  have CB := hide fun w => specDigits_any b w (by omega) (by omega)
  have CC := hide fun w => specDigits_any c w (by omega) (by omega)
  have CD := hide fun w => specDigits_any d w (by omega) (by omega)
  have HX : Hid (txs a b c d = dg a ++ (⟨#[62]⟩ : ByteArray) ++ dg b ++ (⟨#[58]⟩ : ByteArray) ++ dg c ++ (⟨#[35]⟩ : ByteArray) ++ dg d) := rfl
  unfold dg at HX
  have za := dg_size a (by omega) (by omega)
  have zb := dg_size b (by omega) (by omega)
  have zc := dg_size c (by omega) (by omega)
  have zd := dg_size d (by omega) (by omega)
  generalize (⟨(Lib.itoa a).toArray⟩ : ByteArray) = sa at *
  generalize (⟨(Lib.itoa b).toArray⟩ : ByteArray) = sb at *
  generalize (⟨(Lib.itoa c).toArray⟩ : ByteArray) = sc at *
  generalize (⟨(Lib.itoa d).toArray⟩ : ByteArray) = sd at *
  generalize txs a b c d = r at *
  obtain ⟨s1, e1⟩ : ∃ x, x = sa ++ (⟨#[62]⟩ : ByteArray) := ⟨_, rfl⟩
  obtain ⟨s2, e2⟩ : ∃ x, x = s1 ++ sb := ⟨_, rfl⟩
  obtain ⟨s3, e3⟩ : ∃ x, x = s2 ++ (⟨#[58]⟩ : ByteArray) := ⟨_, rfl⟩
  obtain ⟨s4, e4⟩ : ∃ x, x = s3 ++ sc := ⟨_, rfl⟩
  obtain ⟨s5, e5⟩ : ∃ x, x = s4 ++ (⟨#[35]⟩ : ByteArray) := ⟨_, rfl⟩
  rw [← e1, ← e2, ← e3, ← e4, ← e5] at HX
  have o : ∀ c : UInt8, (⟨#[c]⟩ : ByteArray).size = 1 := fun _ => rfl
  have y1 : s1.size ≤ 7 := by rw [e1, ByteArray.size_append, o]; omega
  have y2 : s2.size ≤ 13 := by rw [e2, ByteArray.size_append]; omega
  have y3 : s3.size ≤ 14 := by rw [e3, ByteArray.size_append, o]; omega
  have y4 : s4.size ≤ 20 := by rw [e4, ByteArray.size_append]; omega
  have y5 : s5.size ≤ 21 := by rw [e5, ByteArray.size_append, o]; omega
  have q1 : ∀ w, (Op.stringOp .add sa (⟨#[62]⟩ : ByteArray)).run Tryd.prog w = .ok (.string s1) w := fun w => by rw [e1]; exact run_string_add_sum w _ _ (by rw [o]; omega)
  have q2 : ∀ w, (Op.stringOp .add s1 sb).run Tryd.prog w = .ok (.string s2) w := fun w => by rw [e2]; exact run_string_add_sum w _ _ (by omega)
  have q3 : ∀ w, (Op.stringOp .add s2 (⟨#[58]⟩ : ByteArray)).run Tryd.prog w = .ok (.string s3) w := fun w => by rw [e3]; exact run_string_add_sum w _ _ (by rw [o]; omega)
  have q4 : ∀ w, (Op.stringOp .add s3 sc).run Tryd.prog w = .ok (.string s4) w := fun w => by rw [e4]; exact run_string_add_sum w _ _ (by omega)
  have q5 : ∀ w, (Op.stringOp .add s4 (⟨#[35]⟩ : ByteArray)).run Tryd.prog w = .ok (.string s5) w := fun w => by rw [e5]; exact run_string_add_sum w _ _ (by rw [o]; omega)
  have q6 : ∀ w, (Op.stringOp .add s5 sd).run Tryd.prog w = .ok (.string r) w := fun w => by rw [unhide HX]; exact run_string_add_sum w _ _ (by omega)
  clear HX e1 e2 e3 e4 e5 y1 y2 y3 y4 y5 za zb zc zd o
  clear a1 a2 b1 b2 c1 c2 d1 d2
  go_enter Tryd.func35, Tryd.ntmps35
  go_wp2_with fail
  refine (unhide OK _).mono ?_
  rintro e w1 ⟨rfl, q1⟩
  have bel : Below w.heap.size w w1 := ((Below.refl _ _).alloc (Nat.le_refl _) _).trans (q1.mono (by simp))
  have hsz : w.heap.size + 1 ≤ w1.heap.size := by have := q1.size; simp at this; exact this
  have X1 := hide ((cells4_new w a b c d 26).below q1 (by simp))
  have K : Hid (∀ w', Below w1.heap.size w1 w' → Below w1.heap.size w1 w' ∧ (w'.cell? ⟨w.heap.size, 0, none⟩ = some (.int .i64 a) ∧ w'.cell? ⟨w.heap.size, 1, none⟩ = some (.int .i64 b) ∧ w'.cell? ⟨w.heap.size, 2, none⟩ = some (.int .i64 c) ∧ w'.cell? ⟨w.heap.size, 3, none⟩ = some (.int .i64 d))) :=
    fun w' hb => ⟨hb, (unhide X1).below hb (by omega)⟩
  have hKeep := unhide K _ (Below.drew (Below.refl _ w1))
  have bA : Below w1.heap.size w1 w1.drew := Below.drew (Below.refl _ _)
  clear q1
  go_upto_region 3 with fail
  first | go_region_held3 (fun w' => Below w1.heap.size w1 w' ∧ (w'.cell? ⟨w.heap.size, 0, none⟩ = some (.int .i64 a) ∧ w'.cell? ⟨w.heap.size, 1, none⟩ = some (.int .i64 b) ∧ w'.cell? ⟨w.heap.size, 2, none⟩ = some (.int .i64 c) ∧ w'.cell? ⟨w.heap.size, 3, none⟩ = some (.int .i64 d))) (exact hKeep) (first
    | (go_at_call 55; have hgo := bA; refine (unhide CA _).mono ?_; rintro e wa ⟨rfl, ba⟩
       have bB : Below w1.heap.size w1 wa := bA.trans ba
       have hKeep := unhide K _ bB; clear bA hgo)
    | (go_at_call 55; have hgo := bB; refine (unhide CB _).mono ?_; rintro e wb ⟨rfl, bb⟩
       have bC : Below w1.heap.size w1 wb := bB.trans (bb.mono bB.size)
       have hKeep := unhide K _ bC; clear bB hgo)
    | (go_at_call 55; have hgo := bC; refine (unhide CC _).mono ?_; rintro e wc ⟨rfl, bc⟩
       have bD : Below w1.heap.size w1 wc := bC.trans (bc.mono bC.size)
       have hKeep := unhide K _ bD; clear bC hgo)
    | (go_at_call 55; have hgo := bD; refine (unhide CD _).mono ?_; rintro e wd ⟨rfl, bd⟩
       have bE : Below w1.heap.size w1 wd := bD.trans (bd.mono bD.size)
       have hKeep := unhide K _ bE; clear bD hgo)) | fail
  all_goals
    go_wp2
    go_ret
    exact ⟨rfl, bel.trans (bE.mono (by omega))⟩

set_option maxHeartbeats 800000 in
set_option maxRecDepth 100000 in
theorem implTxText_no (a b c d : Int) (w : World) (h : ¬ Ok4 a b c d) :
    Calls Tryd.prog 30 #[txv a b c d] w fun e w' => e = .returned (.string ⟨#[]⟩) ∧ Below w.heap.size w w' := by
  go_enter Tryd.func30, Tryd.ntmps30
  go_wp2_with fail
  refine (implTxOk_no a b c d _ h).mono ?_
  rintro e w1 ⟨rfl, q1⟩
  go_wp2
  go_ret
  exact ⟨rfl, ((Below.refl _ _).alloc (Nat.le_refl _) _).trans (q1.mono (by simp))⟩
set_option maxHeartbeats 800000 in
set_option maxRecDepth 100000 in
theorem specTxText_no (a b c d : Int) (w : World) (h : ¬ Ok4 a b c d) :
    Calls Tryd.prog 35 #[txv a b c d] w fun e w' => e = .returned (.string ⟨#[]⟩) ∧ Below w.heap.size w w' := by
  go_enter Tryd.func35, Tryd.ntmps35
  go_wp2_with fail
  refine (specTxOk_no a b c d _ h).mono ?_
  rintro e w1 ⟨rfl, q1⟩
  go_wp2
  go_ret
  exact ⟨rfl, ((Below.refl _ _).alloc (Nat.le_refl _) _).trans (q1.mono (by simp))⟩

/-- What TxText answers. -/
def txt (a b c d : Int) : ByteArray := if Ok4 a b c d then txs a b c d else ⟨#[]⟩
theorem implTxText (a b c d : Int) (w : World) (ht : Pow w) :
    Calls Tryd.prog 30 #[txv a b c d] w fun e w' => e = .returned (.string (txt a b c d)) ∧ Below w.heap.size w w' := by
  unfold txt
  by_cases h : Ok4 a b c d
  · rw [if_pos h]; exact implTxText_yes a b c d w h ht
  · rw [if_neg h]; exact implTxText_no a b c d w h
theorem specTxText (a b c d : Int) (w : World) :
    Calls Tryd.prog 35 #[txv a b c d] w fun e w' => e = .returned (.string (txt a b c d)) ∧ Below w.heap.size w w' := by
  unfold txt
  by_cases h : Ok4 a b c d
  · rw [if_pos h]; exact specTxText_yes a b c d w h
  · rw [if_neg h]; exact specTxText_no a b c d w h
end Go.Proofs.YthdehhenkgkkmaaDoor
