/- Texts that belong together: SpecGet, SpecText. -/
import Derived.Test.YtbigcmcliamenaaGreatDoorNAAA
import Derived.Test.YtbigcmcliamenaaGreatDoorNAAG
import Derived.Test.YtbigcmcliamenaaGreatDoorNABA
namespace Go.Proofs.YtbigcmcliamenaaGreatDoor
open Go.RowKit

def GetEnd (r : Option (Int × Int)) (e : Ending) : Prop :=
 (∃ n q, r = some (n, q) ∧ e = .returned (.tuple #[.int .i64 n, .int .i64 q, .bool true])) ∨ (r = none ∧ e = .returned (.tuple #[.int .i64 0, .int .i64 0, .bool false]))

set_option maxHeartbeats 3200000 in
set_option maxRecDepth 100000 in
theorem specGet_nat (b off ca : Nat) (xs : List Int) (p : Nat) (w : World) (hl : xs.length ≤ 140737488355328) (h : ∀ k, k < xs.length → w.cell? ⟨b, off + k, none⟩ = some (.int .u8 (xs.getD k 0))) (hb : ∀ k, k < xs.length → 0 ≤ xs.getD k 0 ∧ xs.getD k 0 ≤ 255) :
 Calls Tryz.prog 65 #[.slice (some ⟨b, off, none⟩) xs.length ca, .int .i64 p] w fun e w' => GetEnd (getF xs 5 0 p 0) e ∧ w' = w := by
 have hd0 : decide ((p : Int) < 0) = false := by simp
 go_enter Tryz.func65, Tryz.ntmps65
 go_wp2
 go_loop [7, 8] (fun y z => ∃ (i : Nat) (n : Int), i ≤ 5 ∧ y = .int .i64 n ∧ z = .int .i64 i ∧ 0 ≤ n ∧ n < 128 ^ i ∧ Hid (getF xs 5 0 p 0 = getF xs (5 - i) i (p + i) n)) (fun _ z => 5 - (intOf z).toNat)
 case atStart => exact ⟨0, 0, by omega, rfl, rfl, by omega, by simp, rfl⟩
 case round =>
  obtain ⟨i, n, hi, rfl, rfl, hn0, hn, HR⟩ := hrel
  obtain rfl | rfl | rfl | rfl | rfl | rfl : i = 0 ∨ i = 1 ∨ i = 2 ∨ i = 3 ∨ i = 4 ∨ i = 5 := by omega
  case inr.inr.inr.inr.inr =>
   go_wp2
   go_ret3
   exact ⟨.inr ⟨by rw [HR.out]; rfl, rfl⟩, rfl⟩
  case inl =>
   simp only [Int.reducePow] at hn
   by_cases hq : p < xs.length
   ·have hx := hb (p) hq
    have hc := h (p) hq
    obtain ⟨d, hd⟩ : ∃ d, xs.getD (p) 0 = d := ⟨_, rfl⟩
    have HD : Hid (xs.getD (p) 0 = d) := hd
    rw [hd] at hx hc
    clear hd h hb
    have hge : decide ((xs.length : Int) ≤ (p : Int)) = false := by simp; omega
    have hor := or_sum n (d % 128) 1 0 (by decide) (by decide) hn0 hn (by omega) (by omega)
    simp only [Int.natCast_one, Int.mul_one] at hor
    by_cases h1 : 128 ≤ d
    ·have HS : Hid (getF xs 5 0 p 0 = getF xs 4 1 (p + 1) (n + d % 128 * 1)) := getF_step (by decide) HR.out hq HD.out h1
     go_wp2
     go_round
     case rel => exact ⟨1, _, by omega, by go_num, rfl, by omega, by simp only [Int.reducePow]; omega, HS⟩
     case measure => simp [intOf]
    ·by_cases h3 : d = 0
     ·have HY : Hid (getF xs 5 0 p 0 = some (n + d % 128 * 1, (p : Int) + 1)) := getF_yes (by decide) HR.out hq HD.out h1 (by omega)
      clear h3
      go_wp2
      go_ret3
      exact ⟨.inl ⟨_, _, HY.out, by simp⟩, rfl⟩
     ·have h3' : (d == 0) = false := by simp [h3]
      by_cases h2 : 2147483647 < n + d % 128 * 1
      ·omega
      ·have h2' : n + d % 128 * 1 ≤ 2147483647 := by omega
       have HY : Hid (getF xs 5 0 p 0 = some (n + d % 128 * 1, ((p : Nat) : Int) + 1)) := getF_yes (by decide) HR.out hq HD.out h1 (by omega)
       go_wp2
       go_ret3
       exact ⟨.inl ⟨_, _, HY.out, by simp⟩, rfl⟩
   ·have HN : Hid (getF xs 5 0 p 0 = none) := HR.out.trans (getF_out _ _ _ _ _ hq)
    have hge : decide ((xs.length : Int) ≤ (p : Int)) = true := by simp; omega
    go_wp2
    go_ret3
    exact ⟨.inr ⟨HN.out, rfl⟩, rfl⟩
  case inr.inl =>
   simp only [Int.reducePow] at hn
   by_cases hq : p + 1 < xs.length
   ·have hx := hb (p + 1) hq
    have hc := h (p + 1) hq
    obtain ⟨d, hd⟩ : ∃ d, xs.getD (p + 1) 0 = d := ⟨_, rfl⟩
    have HD : Hid (xs.getD (p + 1) 0 = d) := hd
    rw [hd] at hx hc
    clear hd h hb
    have hge : decide ((xs.length : Int) - 1 ≤ (p : Int)) = false := by simp; omega
    have hor := or_sum n (d % 128) 128 7 (by decide) (by decide) hn0 hn (by omega) (by omega)
    rw [show ((128 : Nat) : Int) = 128 from rfl] at hor
    by_cases h1 : 128 ≤ d
    ·have HS : Hid (getF xs 5 0 p 0 = getF xs 3 2 (p + 1 + 1) (n + d % 128 * 128)) := getF_step (by decide) HR.out hq HD.out h1
     go_wp2
     go_round
     case rel => exact ⟨2, _, by omega, rfl, rfl, by omega, by simp only [Int.reducePow]; omega, HS⟩
     case measure => simp [intOf]
    ·by_cases h3 : d = 0
     ·have HN : Hid (getF xs 5 0 p 0 = none) := getF_no rfl HR.out hq HD.out h1 (.inr ⟨h3, by omega⟩)
      have h3' : (d == 0) = true := by simp [h3]
      clear h3
      go_wp2
      go_ret3
      exact ⟨.inr ⟨HN.out, rfl⟩, rfl⟩
     ·have h3' : (d == 0) = false := by simp [h3]
      by_cases h2 : 2147483647 < n + d % 128 * 128
      ·omega
      ·have h2' : n + d % 128 * 128 ≤ 2147483647 := by omega
       have HY : Hid (getF xs 5 0 p 0 = some (n + d % 128 * 128, ((p + 1 : Nat) : Int) + 1)) := getF_yes (by decide) HR.out hq HD.out h1 (by omega)
       go_wp2
       go_ret3
       exact ⟨.inl ⟨_, _, HY.out, by simp⟩, rfl⟩
   ·have HN : Hid (getF xs 5 0 p 0 = none) := HR.out.trans (getF_out _ _ _ _ _ hq)
    have hge : decide ((xs.length : Int) - 1 ≤ (p : Int)) = true := by simp; omega
    go_wp2
    go_ret3
    exact ⟨.inr ⟨HN.out, rfl⟩, rfl⟩
  case inr.inr.inl =>
   simp only [Int.reducePow] at hn
   by_cases hq : p + 2 < xs.length
   ·have hx := hb (p + 2) hq
    have hc := h (p + 2) hq
    obtain ⟨d, hd⟩ : ∃ d, xs.getD (p + 2) 0 = d := ⟨_, rfl⟩
    have HD : Hid (xs.getD (p + 2) 0 = d) := hd
    rw [hd] at hx hc
    clear hd h hb
    have hge : decide ((xs.length : Int) - 2 ≤ (p : Int)) = false := by simp; omega
    have hor := or_sum n (d % 128) 16384 14 (by decide) (by decide) hn0 hn (by omega) (by omega)
    rw [show ((16384 : Nat) : Int) = 16384 from rfl] at hor
    by_cases h1 : 128 ≤ d
    ·have HS : Hid (getF xs 5 0 p 0 = getF xs 2 3 (p + 2 + 1) (n + d % 128 * 16384)) := getF_step (by decide) HR.out hq HD.out h1
     go_wp2
     go_round
     case rel => exact ⟨3, _, by omega, rfl, rfl, by omega, by simp only [Int.reducePow]; omega, HS⟩
     case measure => simp [intOf]
    ·by_cases h3 : d = 0
     ·have HN : Hid (getF xs 5 0 p 0 = none) := getF_no rfl HR.out hq HD.out h1 (.inr ⟨h3, by omega⟩)
      have h3' : (d == 0) = true := by simp [h3]
      clear h3
      go_wp2
      go_ret3
      exact ⟨.inr ⟨HN.out, rfl⟩, rfl⟩
     ·have h3' : (d == 0) = false := by simp [h3]
      by_cases h2 : 2147483647 < n + d % 128 * 16384
      ·omega
      ·have h2' : n + d % 128 * 16384 ≤ 2147483647 := by omega
       have HY : Hid (getF xs 5 0 p 0 = some (n + d % 128 * 16384, ((p + 2 : Nat) : Int) + 1)) := getF_yes (by decide) HR.out hq HD.out h1 (by omega)
       go_wp2
       go_ret3
       exact ⟨.inl ⟨_, _, HY.out, by simp⟩, rfl⟩
   ·have HN : Hid (getF xs 5 0 p 0 = none) := HR.out.trans (getF_out _ _ _ _ _ hq)
    have hge : decide ((xs.length : Int) - 2 ≤ (p : Int)) = true := by simp; omega
    go_wp2
    go_ret3
    exact ⟨.inr ⟨HN.out, rfl⟩, rfl⟩
  case inr.inr.inr.inl =>
   simp only [Int.reducePow] at hn
   by_cases hq : p + 3 < xs.length
   ·have hx := hb (p + 3) hq
    have hc := h (p + 3) hq
    obtain ⟨d, hd⟩ : ∃ d, xs.getD (p + 3) 0 = d := ⟨_, rfl⟩
    have HD : Hid (xs.getD (p + 3) 0 = d) := hd
    rw [hd] at hx hc
    clear hd h hb
    have hge : decide ((xs.length : Int) - 3 ≤ (p : Int)) = false := by simp; omega
    have hor := or_sum n (d % 128) 2097152 21 (by decide) (by decide) hn0 hn (by omega) (by omega)
    rw [show ((2097152 : Nat) : Int) = 2097152 from rfl] at hor
    by_cases h1 : 128 ≤ d
    ·have HS : Hid (getF xs 5 0 p 0 = getF xs 1 4 (p + 3 + 1) (n + d % 128 * 2097152)) := getF_step (by decide) HR.out hq HD.out h1
     go_wp2
     go_round
     case rel => exact ⟨4, _, by omega, rfl, rfl, by omega, by simp only [Int.reducePow]; omega, HS⟩
     case measure => simp [intOf]
    ·by_cases h3 : d = 0
     ·have HN : Hid (getF xs 5 0 p 0 = none) := getF_no rfl HR.out hq HD.out h1 (.inr ⟨h3, by omega⟩)
      have h3' : (d == 0) = true := by simp [h3]
      clear h3
      go_wp2
      go_ret3
      exact ⟨.inr ⟨HN.out, rfl⟩, rfl⟩
     ·have h3' : (d == 0) = false := by simp [h3]
      by_cases h2 : 2147483647 < n + d % 128 * 2097152
      ·omega
      ·have h2' : n + d % 128 * 2097152 ≤ 2147483647 := by omega
       have HY : Hid (getF xs 5 0 p 0 = some (n + d % 128 * 2097152, ((p + 3 : Nat) : Int) + 1)) := getF_yes (by decide) HR.out hq HD.out h1 (by omega)
       go_wp2
       go_ret3
       exact ⟨.inl ⟨_, _, HY.out, by simp⟩, rfl⟩
   ·have HN : Hid (getF xs 5 0 p 0 = none) := HR.out.trans (getF_out _ _ _ _ _ hq)
    have hge : decide ((xs.length : Int) - 3 ≤ (p : Int)) = true := by simp; omega
    go_wp2
    go_ret3
    exact ⟨.inr ⟨HN.out, rfl⟩, rfl⟩
  case inr.inr.inr.inr.inl =>
   simp only [Int.reducePow] at hn
   by_cases hq : p + 4 < xs.length
   ·have hx := hb (p + 4) hq
    have hc := h (p + 4) hq
    obtain ⟨d, hd⟩ : ∃ d, xs.getD (p + 4) 0 = d := ⟨_, rfl⟩
    have HD : Hid (xs.getD (p + 4) 0 = d) := hd
    rw [hd] at hx hc
    clear hd h hb
    have hge : decide ((xs.length : Int) - 4 ≤ (p : Int)) = false := by simp; omega
    have hor := or_sum n (d % 128) 268435456 28 (by decide) (by decide) hn0 hn (by omega) (by omega)
    rw [show ((268435456 : Nat) : Int) = 268435456 from rfl] at hor
    by_cases h1 : 128 ≤ d
    ·have HS : Hid (getF xs 5 0 p 0 = getF xs 0 5 (p + 4 + 1) (n + d % 128 * 268435456)) := getF_step (by decide) HR.out hq HD.out h1
     go_wp2
     go_round
     case rel => exact ⟨5, _, by omega, rfl, rfl, by omega, by simp only [Int.reducePow]; omega, HS⟩
     case measure => simp [intOf]
    ·by_cases h3 : d = 0
     ·have HN : Hid (getF xs 5 0 p 0 = none) := getF_no rfl HR.out hq HD.out h1 (.inr ⟨h3, by omega⟩)
      have h3' : (d == 0) = true := by simp [h3]
      clear h3
      go_wp2
      go_ret3
      exact ⟨.inr ⟨HN.out, rfl⟩, rfl⟩
     ·have h3' : (d == 0) = false := by simp [h3]
      by_cases h2 : 2147483647 < n + d % 128 * 268435456
      ·have HN : Hid (getF xs 5 0 p 0 = none) := getF_no (by decide) HR.out hq HD.out h1 (.inl h2)
       go_wp2
       go_ret3
       exact ⟨.inr ⟨HN.out, rfl⟩, rfl⟩
      ·have h2' : n + d % 128 * 268435456 ≤ 2147483647 := by omega
       have HY : Hid (getF xs 5 0 p 0 = some (n + d % 128 * 268435456, ((p + 4 : Nat) : Int) + 1)) := getF_yes (by decide) HR.out hq HD.out h1 (by omega)
       go_wp2
       go_ret3
       exact ⟨.inl ⟨_, _, HY.out, by simp⟩, rfl⟩
   ·have HN : Hid (getF xs 5 0 p 0 = none) := HR.out.trans (getF_out _ _ _ _ _ hq)
    have hge : decide ((xs.length : Int) - 4 ≤ (p : Int)) = true := by simp; omega
    go_wp2
    go_ret3
    exact ⟨.inr ⟨HN.out, rfl⟩, rfl⟩

set_option maxHeartbeats 800000 in
set_option maxRecDepth 100000 in
theorem specGet_out (ao : Option Addr) (ca len : Nat) (p : Int) (w : World) (hl : len ≤ 140737488355328) (hp : p < 0 ∨ (len : Int) ≤ p) :
 Calls Tryz.prog 65 #[.slice ao len ca, .int .i64 p] w fun e w' => e = .returned (.tuple #[.int .i64 0, .int .i64 0, .bool false]) ∧ w' = w := by
 by_cases hn : p < 0
 ·clear hp
  go_enter Tryz.func65, Tryz.ntmps65
  go_wp2
  refine wp_loop_rounds 1 ?_
  rw [rounds_succ]
  go_wp2
  go_ret3
  exact ⟨rfl, rfl⟩
 ·have hd : decide (p < 0) = false := by simpa using hn
  have hp2 : (len : Int) ≤ p := by omega
  have hd2 : decide ((len : Int) ≤ p) = true := by simpa using hp2
  clear hp
  go_enter Tryz.func65, Tryz.ntmps65
  go_wp2
  refine wp_loop_rounds 1 ?_
  rw [rounds_succ]
  go_wp2
  go_ret3
  exact ⟨rfl, rfl⟩

theorem specGet_any (v : Value) (xs : List Int) (p : Int) (w : World) (h : RB w v xs) (hb : ∀ k, k < xs.length → 0 ≤ xs.getD k 0 ∧ xs.getD k 0 ≤ 255) :
 Calls Tryz.prog 65 #[v, .int .i64 p] w fun e w' => GetEnd (getNum xs p) e ∧ w' = w := by
 obtain ⟨hl, ao, ca, rfl, _, h⟩ := h
 by_cases hp : p < 0
 ·refine (specGet_out ao ca xs.length p w hl (.inl hp)).mono ?_
  rintro e w' ⟨rfl, rfl⟩
  exact ⟨.inr ⟨getNum_neg xs p hp, rfl⟩, rfl⟩
 ·obtain ⟨m, rfl⟩ := Int.eq_ofNat_of_zero_le (Int.not_lt.1 hp)
  rw [getNum_nat]
  rcases h with rfl | ⟨b, off, rfl, h⟩
  ·refine (specGet_out ao ca 0 m w (by omega) (.inr (by omega))).mono ?_
   rintro e w' ⟨rfl, rfl⟩
   exact ⟨.inr ⟨getF_out _ _ _ _ _ (by simp), rfl⟩, rfl⟩
  ·exact specGet_nat b off ca xs m w hl h hb

theorem specGet_ans (v : Value) (xs : List Int) (p : Int) (w : World) (h : RB w v xs) (hb : Bytes xs) :
 Calls Tryz.prog 65 #[v, .int .i64 p] w fun e w' => e = .returned (.tuple #[.int .i64 (ans1 (getNum xs p)), .int .i64 (ans2 (getNum xs p)), .bool (getNum xs p).isSome]) ∧ w' = w := by
 refine (specGet_any v xs p w h hb).mono ?_
 rintro e w' ⟨h1, rfl⟩
 rcases h1 with ⟨n, q, h2, rfl⟩ | ⟨h2, rfl⟩ <;> exact ⟨by rw [h2]; rfl, rfl⟩
theorem specGet_some (v : Value) (xs : List Int) (p n q : Int) (w : World) (h : RB w v xs) (hb : Bytes xs) (hr : getNum xs p = some (n, q)) :
 Calls Tryz.prog 65 #[v, .int .i64 p] w fun e w' => e = .returned (.tuple #[.int .i64 n, .int .i64 q, .bool true]) ∧ w' = w := by
 have := specGet_ans v xs p w h hb; rw [hr] at this; exact this
theorem specGet_none (v : Value) (xs : List Int) (p : Int) (w : World) (h : RB w v xs) (hb : Bytes xs) (hr : getNum xs p = none) :
 Calls Tryz.prog 65 #[v, .int .i64 p] w fun e w' => e = .returned (.tuple #[.int .i64 0, .int .i64 0, .bool false]) ∧ w' = w := by
 have := specGet_ans v xs p w h hb; rw [hr] at this; exact this

set_option maxHeartbeats 800000 in
set_option maxRecDepth 100000 in
theorem specText_some (v : Value) (xs : List Int) (p : Int) (n q : Nat) (w : World) (h : RB w v xs) (hb : Bytes xs) (hr : Hid (getNum xs p = some ((n : Int), (q : Int)))) (hn : n ≤ 2147483647) (hq : 0 < q) (hl : q + n ≤ xs.length) :
 Calls Tryz.prog 98 #[v, .int .i64 p] w fun e w' => e = .returned (.tuple #[.string (textAt xs q n), .int .i64 ((q : Int) + n), .bool true]) ∧ w' = w := by
 have hr1 := fun w (h : RB w v xs) => specGet_some v xs p n q w h hb hr.out
 have HR := hide hr1
 clear hr1
 have h' := h
 obtain ⟨hlen, ao, ca, rfl, ⟨hcap, hcm⟩, hc⟩ := h'
 unfold maxLen at hcm
 rcases hc with rfl | ⟨b, off, rfl, hc⟩
 ·simp at hl; omega
 have hd : decide ((xs.length : Int) - (q : Int) < (n : Int)) = false := by simp; omega
 by_cases hcq : ca = q
 ·obtain rfl : n = 0 := by omega
  have hcv := run_convert_bytes_arg (P := Tryz.prog) w 22 5 Tryz.underlying22 Tryz.underlying5 b off 0 0 [] rfl (fun i hi => by omega) 9 Tryz.underlying9
  clear hc
  subst hcq
  go_enter Tryz.func98, Tryz.ntmps98
  go_wp2_with fail
  refine (unhide HR _ h).mono ?_
  rintro e w' ⟨rfl, rfl⟩
  go_wp2
  go_ret3
  exact ⟨by simp [textAt], rfl⟩
 ·have hcv := run_convert_bytes_arg (P := Tryz.prog) w 22 5 Tryz.underlying22 Tryz.underlying5 b (off + q) n (ca - q) ((xs.drop q).take n) (win_len xs q n hl) (win_cells hc hl) 9 Tryz.underlying9
  clear hc
  go_enter Tryz.func98, Tryz.ntmps98
  go_wp2_with fail
  refine (unhide HR _ h).mono ?_
  rintro e w' ⟨rfl, rfl⟩
  go_wp2
  go_ret3
  exact ⟨rfl, rfl⟩

set_option maxHeartbeats 800000 in
set_option maxRecDepth 100000 in
theorem specText_far (v : Value) (xs : List Int) (p : Int) (n q : Nat) (w : World) (h : RB w v xs) (hb : Bytes xs) (hr : Hid (getNum xs p = some ((n : Int), (q : Int)))) (hn : n ≤ 2147483647) (hq : q ≤ xs.length) (hl : xs.length < q + n) :
 Calls Tryz.prog 98 #[v, .int .i64 p] w fun e w' => e = .returned (.tuple #[.string ⟨#[]⟩, .int .i64 0, .bool false]) ∧ w' = w := by
 have hr1 := fun w (h : RB w v xs) => specGet_some v xs p n q w h hb hr.out
 have HR := hide hr1
 clear hr1
 have h' := h
 obtain ⟨hlen, ao, ca, rfl, _, hc⟩ := h'
 clear hc
 have hd : decide ((xs.length : Int) - (q : Int) < (n : Int)) = true := by simp; omega
 go_enter Tryz.func98, Tryz.ntmps98
 go_wp2_with fail
 refine (unhide HR _ h).mono ?_
 rintro e w' ⟨rfl, rfl⟩
 go_wp2
 go_ret3
 exact ⟨rfl, rfl⟩

set_option maxHeartbeats 800000 in
set_option maxRecDepth 100000 in
theorem specText_none (v : Value) (xs : List Int) (p : Int) (w : World) (h : RB w v xs) (hb : Bytes xs) (hr : Hid (getNum xs p = none)) :
 Calls Tryz.prog 98 #[v, .int .i64 p] w fun e w' => e = .returned (.tuple #[.string ⟨#[]⟩, .int .i64 0, .bool false]) ∧ w' = w := by
 have hr1 := fun w (h : RB w v xs) => specGet_none v xs p w h hb hr.out
 have HR := hide hr1
 clear hr1
 have h' := h
 obtain ⟨hlen, ao, ca, rfl, _, hc⟩ := h'
 clear hc
 go_enter Tryz.func98, Tryz.ntmps98
 go_wp2_with fail
 refine (unhide HR _ h).mono ?_
 rintro e w' ⟨rfl, rfl⟩
 go_wp2
 go_ret3
 exact ⟨rfl, rfl⟩

theorem specText_any (v : Value) (xs : List Int) (p : Int) (w : World) (h : RB w v xs) (hb : Bytes xs) :
 Calls Tryz.prog 98 #[v, .int .i64 p] w fun e w' => e = .returned (.tuple #[.string (tans1 (getText xs p)), .int .i64 (tans2 (getText xs p)), .bool (getText xs p).isSome]) ∧ w' = w := by
 unfold getText
 cases hg : getNum xs p with
 | none => exact specText_none v xs p w h hb hg
 | some x =>
  obtain ⟨n, q⟩ := x
  have bd := getNum_bd xs hb p n q hg
  obtain ⟨n, rfl⟩ := Int.eq_ofNat_of_zero_le bd.1
  obtain ⟨q, rfl⟩ := Int.eq_ofNat_of_zero_le (show 0 ≤ q by omega)
  by_cases hl : (n : Int) ≤ (xs.length : Int) - (q : Int)
  ·simp only [if_pos hl]
   exact specText_some v xs p n q w h hb hg (by omega) (by omega) (by omega)
  ·simp only [if_neg hl]
   exact specText_far v xs p n q w h hb hg (by omega) (by omega) (by omega)
end Go.Proofs.YtbigcmcliamenaaGreatDoor
