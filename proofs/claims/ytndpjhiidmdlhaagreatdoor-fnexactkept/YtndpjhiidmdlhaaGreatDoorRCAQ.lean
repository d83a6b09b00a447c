/- Texts that belong together: Read, GetNum, TextRead, RoundPlain. -/
import Derived.Test.YtndpjhiidmdlhaaGreatDoorRCAA
import Derived.Test.YtndpjhiidmdlhaaGreatDoorRCAP
import Derived.Test.YtndpjhiidmdlhaaGreatDoorRCAL
import Derived.Laws.BytesArg
import Derived.Test.YtndpjhiidmdlhaaGreatDoorRCAK
import Derived.Test.YtndpjhiidmdlhaaGreatDoorRCAN
import Derived.Test.YtndpjhiidmdlhaaGreatDoorRCAE
set_option maxRecDepth 100000
set_option maxHeartbeats 3200000
namespace Go.Proofs.YtndpjhiidmdlhaaGreatDoor
open Go.RowKit

theorem readByte_yes (v : Value) (xs : List Int) (p : Nat) (w : World) (h : RB w v xs) (hp : p < xs.length) (hx : 0 ≤ xs.getD p 0 ∧ xs.getD p 0 ≤ 255) :
 Calls Tryz.prog 292 #[v,.int .i64 p] w fun e w' => e = .returned (.int .i64 (xs.getD p 0)) ∧ w' = w := by
 obtain ⟨hl, ao, ca, rfl, _, h⟩:=h
 rcases h with rfl | ⟨b, off, rfl, h⟩
 ·simp at hp
 have hc:=h p hp
 have hd : decide ((p : Int) < 0) = false:=by simp
 have hd2 : decide ((xs.length : Int) ≤ (p : Int)) = false:=by simp; omega
 generalize xs.getD p 0 = c at *
 clear h
 go_enter Tryz.func292, Tryz.ntmps292
 go_wp2
 go_ret
 exact ⟨rfl, rfl⟩

theorem readByte_no (v : Value) (xs : List Int) (p : Int) (u : TypeId) (pv : Value) (w : World) (h : RB w v xs) (hp : p < 0 ∨ (xs.length : Int) ≤ p) (he : w.cell? ⟨1, 0, none⟩ = some (.iface u pv)) :
 Calls Tryz.prog 292 #[v,.int .i64 p] w fun e w' => e = .panicked [{ v := .iface u pv, recovered := false }] ∧ w' = w := by
 obtain ⟨hl, ao, ca, rfl, _, h⟩:=h
 clear h
 by_cases hn : p < 0
 ·clear hp
  go_enter Tryz.func292, Tryz.ntmps292
  go_wp2
  exact ⟨rfl, rfl, rfl⟩
 ·have hd : decide (p < 0) = false:=by simpa using hn
  have hp2 : (xs.length : Int) ≤ p:=by omega
  clear hp
  go_enter Tryz.func292, Tryz.ntmps292
  go_wp2
  exact ⟨rfl, rfl, rfl⟩

def Bytes (xs : List Int) : Prop := ∀ k, k < xs.length → 0 ≤ xs.getD k 0 ∧ xs.getD k 0 ≤ 255

def ReadEnd (r : Option (Int × Int)) (pn : List PanicEntry) (e : Ending) : Prop :=
 (∃ n q, r = some (n, q) ∧ e = .returned (.tuple #[.int .i64 n,.int .i64 q])) ∨ (r = none ∧ e = .panicked pn)

theorem readNum_neg (v : Value) (xs : List Int) (p : Int) (u : TypeId) (pv : Value) (w : World) (h : RB w v xs) (hp : p < 0) (he : w.cell? ⟨1, 0, none⟩ = some (.iface u pv)) :
 Calls Tryz.prog 268 #[v,.int .i64 p] w fun e w' => e = .panicked [{ v := .iface u pv, recovered := false }] ∧ w' = w := by
 go_enter Tryz.func268, Tryz.ntmps268
 go_wp2
 refine wp_loop_rounds 1 ?_
 rw [rounds_succ]
 go_wp2_with (go_at_call 292; refine (readByte_no v xs p u pv _ h (.inl hp) he).mono ?_; rintro e w' ⟨rfl, rfl⟩)
 exact ⟨rfl, rfl, rfl⟩

theorem readByte_d (v : Value) (xs : List Int) (p : Nat) (d : Int) (w : World) (h : RB w v xs) (hp : p < xs.length) (hd : Hid (xs.getD p 0 = d)) (hx : 0 ≤ d ∧ d ≤ 255) :
 Calls Tryz.prog 292 #[v,.int .i64 p] w fun e w' => e = .returned (.int .i64 d) ∧ w' = w := by
 have:=hd.out; subst this; exact readByte_yes v xs p w h hp hx

theorem readNum_nat (v : Value) (xs : List Int) (p : Nat) (u : TypeId) (pv : Value) (w : World) (h : RB w v xs) (hb : Bytes xs) (he : w.cell? ⟨1, 0, none⟩ = some (.iface u pv)) :
 Calls Tryz.prog 268 #[v,.int .i64 p] w fun e w' => ReadEnd (getF xs 5 0 p 0) [{ v := .iface u pv, recovered := false }] e ∧ w' = w := by
 have hl:=h.1
 go_enter Tryz.func268, Tryz.ntmps268
 go_wp2
 go_loop [1, 6, 9] (fun x y z => ∃ (i q : Nat) (n : Int), i ≤ 5 ∧ x = .int .i64 q ∧ y = .int .i64 n ∧ z = .int .i64 i ∧ 0 ≤ n ∧ n < 128 ^ i ∧ Hid (getF xs 5 0 p 0 = getF xs (5 - i) i q n)) (fun _ _ z => 5 - (intOf z).toNat)
 case atStart => exact ⟨0, p, 0, by omega, rfl, rfl, rfl, by omega, by simp, rfl⟩
 case round =>
  obtain ⟨i, q, n, hi, rfl, rfl, rfl, hn0, hn, HR⟩:=hrel
  obtain rfl | rfl | rfl | rfl | rfl | rfl : i = 0 ∨ i = 1 ∨ i = 2 ∨ i = 3 ∨ i = 4 ∨ i = 5:=by omega
  case inr.inr.inr.inr.inr =>
   go_wp2
   refine ⟨rfl, .inr ⟨?_, rfl⟩, rfl⟩
   rw [HR.out]; rfl
  case inl =>
   simp only [Int.reducePow] at hn
   by_cases hq : q < xs.length
   ·have hx:=hb q hq
    obtain ⟨d, hd⟩ : ∃ d, xs.getD q 0 = d:=⟨_, rfl⟩
    have HD : Hid (xs.getD q 0 = d):=hd
    rw [hd] at hx
    clear hd
    by_cases h1 : 128 ≤ d
    ·have HS : Hid (getF xs 5 0 p 0 = getF xs 4 1 (q + 1) (n + d % 128 * 1)):=getF_step (by decide) HR.out hq HD.out h1
     go_wp2_with (go_at_call 292; refine (readByte_d v xs q d _ h hq HD hx).mono ?_; rintro e w' ⟨rfl, rfl⟩)
     go_round
     case rel => exact ⟨1, q + 1, _, by omega, by go_num, by go_num, rfl, by omega, by simp only [Int.reducePow]; omega, HS⟩
     case measure => simp [intOf]
    ·by_cases h2 : 2147483647 < n + d % 128 * 1
     ·have HN : Hid (getF xs 5 0 p 0 = none):=getF_no (by decide) HR.out hq HD.out h1 (.inl h2)
      omega
     ·have h2' : n + d % 128 * 1 ≤ 2147483647:=by omega
      by_cases h3 : d = 0
      ·have HY : Hid (getF xs 5 0 p 0 = some (n + d % 128 * 1, (q : Int) + 1)):=getF_yes (by decide) HR.out hq HD.out h1 (by omega)
       subst h3
       go_wp2_with (go_at_call 292; refine (readByte_d v xs q 0 _ h hq HD hx).mono ?_; rintro e w' ⟨rfl, rfl⟩)
       go_ret2
       exact ⟨.inl ⟨_, _, HY.out, by simp⟩, rfl⟩
      ·have HY : Hid (getF xs 5 0 p 0 = some (n + d % 128 * 1, (q : Int) + 1)):=getF_yes (by decide) HR.out hq HD.out h1 (by omega)
       have h3' : (d == 0) = false:=by simp [h3]
       go_wp2_with (go_at_call 292; refine (readByte_d v xs q d _ h hq HD hx).mono ?_; rintro e w' ⟨rfl, rfl⟩)
       go_ret2
       exact ⟨.inl ⟨_, _, HY.out, by simp⟩, rfl⟩
   ·have HN : Hid (getF xs 5 0 p 0 = none):=by have:=HR.out; rw [getF_out _ _ _ _ _ hq] at this; exact this
    go_wp2_with (go_at_call 292; refine (readByte_no v xs q u pv _ h (.inr (by omega)) he).mono ?_; rintro e w' ⟨rfl, rfl⟩)
    exact ⟨rfl, .inr ⟨HN.out, rfl⟩, rfl⟩
  case inr.inl =>
   simp only [Int.reducePow] at hn
   by_cases hq : q < xs.length
   ·have hx:=hb q hq
    obtain ⟨d, hd⟩ : ∃ d, xs.getD q 0 = d:=⟨_, rfl⟩
    have HD : Hid (xs.getD q 0 = d):=hd
    rw [hd] at hx
    clear hd
    by_cases h1 : 128 ≤ d
    ·have HS : Hid (getF xs 5 0 p 0 = getF xs 3 2 (q + 1) (n + d % 128 * 128)):=getF_step (by decide) HR.out hq HD.out h1
     go_wp2_with (go_at_call 292; refine (readByte_d v xs q d _ h hq HD hx).mono ?_; rintro e w' ⟨rfl, rfl⟩)
     go_round
     case rel => exact ⟨2, q + 1, _, by omega, by go_num, rfl, rfl, by omega, by simp only [Int.reducePow]; omega, HS⟩
     case measure => simp [intOf]
    ·by_cases h2 : 2147483647 < n + d % 128 * 128
     ·have HN : Hid (getF xs 5 0 p 0 = none):=getF_no (by decide) HR.out hq HD.out h1 (.inl h2)
      omega
     ·have h2' : n + d % 128 * 128 ≤ 2147483647:=by omega
      by_cases h3 : d = 0
      ·have HN : Hid (getF xs 5 0 p 0 = none):=getF_no rfl HR.out hq HD.out h1 (.inr ⟨h3, by omega⟩)
       subst h3
       go_wp2_with (go_at_call 292; refine (readByte_d v xs q 0 _ h hq HD hx).mono ?_; rintro e w' ⟨rfl, rfl⟩)
       exact ⟨rfl, .inr ⟨HN.out, rfl⟩, rfl⟩
      ·have HY : Hid (getF xs 5 0 p 0 = some (n + d % 128 * 128, (q : Int) + 1)):=getF_yes (by decide) HR.out hq HD.out h1 (by omega)
       have h3' : (d == 0) = false:=by simp [h3]
       go_wp2_with (go_at_call 292; refine (readByte_d v xs q d _ h hq HD hx).mono ?_; rintro e w' ⟨rfl, rfl⟩)
       go_ret2
       exact ⟨.inl ⟨_, _, HY.out, rfl⟩, rfl⟩
   ·have HN : Hid (getF xs 5 0 p 0 = none):=by have:=HR.out; rw [getF_out _ _ _ _ _ hq] at this; exact this
    go_wp2_with (go_at_call 292; refine (readByte_no v xs q u pv _ h (.inr (by omega)) he).mono ?_; rintro e w' ⟨rfl, rfl⟩)
    exact ⟨rfl, .inr ⟨HN.out, rfl⟩, rfl⟩
  case inr.inr.inl =>
   simp only [Int.reducePow] at hn
   by_cases hq : q < xs.length
   ·have hx:=hb q hq
    obtain ⟨d, hd⟩ : ∃ d, xs.getD q 0 = d:=⟨_, rfl⟩
    have HD : Hid (xs.getD q 0 = d):=hd
    rw [hd] at hx
    clear hd
    by_cases h1 : 128 ≤ d
    ·have HS : Hid (getF xs 5 0 p 0 = getF xs 2 3 (q + 1) (n + d % 128 * 16384)):=getF_step (by decide) HR.out hq HD.out h1
     go_wp2_with (go_at_call 292; refine (readByte_d v xs q d _ h hq HD hx).mono ?_; rintro e w' ⟨rfl, rfl⟩)
     go_round
     case rel => exact ⟨3, q + 1, _, by omega, by go_num, rfl, rfl, by omega, by simp only [Int.reducePow]; omega, HS⟩
     case measure => simp [intOf]
    ·by_cases h2 : 2147483647 < n + d % 128 * 16384
     ·have HN : Hid (getF xs 5 0 p 0 = none):=getF_no (by decide) HR.out hq HD.out h1 (.inl h2)
      omega
     ·have h2' : n + d % 128 * 16384 ≤ 2147483647:=by omega
      by_cases h3 : d = 0
      ·have HN : Hid (getF xs 5 0 p 0 = none):=getF_no rfl HR.out hq HD.out h1 (.inr ⟨h3, by omega⟩)
       subst h3
       go_wp2_with (go_at_call 292; refine (readByte_d v xs q 0 _ h hq HD hx).mono ?_; rintro e w' ⟨rfl, rfl⟩)
       exact ⟨rfl, .inr ⟨HN.out, rfl⟩, rfl⟩
      ·have HY : Hid (getF xs 5 0 p 0 = some (n + d % 128 * 16384, (q : Int) + 1)):=getF_yes (by decide) HR.out hq HD.out h1 (by omega)
       have h3' : (d == 0) = false:=by simp [h3]
       go_wp2_with (go_at_call 292; refine (readByte_d v xs q d _ h hq HD hx).mono ?_; rintro e w' ⟨rfl, rfl⟩)
       go_ret2
       exact ⟨.inl ⟨_, _, HY.out, rfl⟩, rfl⟩
   ·have HN : Hid (getF xs 5 0 p 0 = none):=by have:=HR.out; rw [getF_out _ _ _ _ _ hq] at this; exact this
    go_wp2_with (go_at_call 292; refine (readByte_no v xs q u pv _ h (.inr (by omega)) he).mono ?_; rintro e w' ⟨rfl, rfl⟩)
    exact ⟨rfl, .inr ⟨HN.out, rfl⟩, rfl⟩
  case inr.inr.inr.inl =>
   simp only [Int.reducePow] at hn
   by_cases hq : q < xs.length
   ·have hx:=hb q hq
    obtain ⟨d, hd⟩ : ∃ d, xs.getD q 0 = d:=⟨_, rfl⟩
    have HD : Hid (xs.getD q 0 = d):=hd
    rw [hd] at hx
    clear hd
    by_cases h1 : 128 ≤ d
    ·have HS : Hid (getF xs 5 0 p 0 = getF xs 1 4 (q + 1) (n + d % 128 * 2097152)):=getF_step (by decide) HR.out hq HD.out h1
     go_wp2_with (go_at_call 292; refine (readByte_d v xs q d _ h hq HD hx).mono ?_; rintro e w' ⟨rfl, rfl⟩)
     go_round
     case rel => exact ⟨4, q + 1, _, by omega, by go_num, rfl, rfl, by omega, by simp only [Int.reducePow]; omega, HS⟩
     case measure => simp [intOf]
    ·by_cases h2 : 2147483647 < n + d % 128 * 2097152
     ·have HN : Hid (getF xs 5 0 p 0 = none):=getF_no (by decide) HR.out hq HD.out h1 (.inl h2)
      omega
     ·have h2' : n + d % 128 * 2097152 ≤ 2147483647:=by omega
      by_cases h3 : d = 0
      ·have HN : Hid (getF xs 5 0 p 0 = none):=getF_no rfl HR.out hq HD.out h1 (.inr ⟨h3, by omega⟩)
       subst h3
       go_wp2_with (go_at_call 292; refine (readByte_d v xs q 0 _ h hq HD hx).mono ?_; rintro e w' ⟨rfl, rfl⟩)
       exact ⟨rfl, .inr ⟨HN.out, rfl⟩, rfl⟩
      ·have HY : Hid (getF xs 5 0 p 0 = some (n + d % 128 * 2097152, (q : Int) + 1)):=getF_yes (by decide) HR.out hq HD.out h1 (by omega)
       have h3' : (d == 0) = false:=by simp [h3]
       go_wp2_with (go_at_call 292; refine (readByte_d v xs q d _ h hq HD hx).mono ?_; rintro e w' ⟨rfl, rfl⟩)
       go_ret2
       exact ⟨.inl ⟨_, _, HY.out, rfl⟩, rfl⟩
   ·have HN : Hid (getF xs 5 0 p 0 = none):=by have:=HR.out; rw [getF_out _ _ _ _ _ hq] at this; exact this
    go_wp2_with (go_at_call 292; refine (readByte_no v xs q u pv _ h (.inr (by omega)) he).mono ?_; rintro e w' ⟨rfl, rfl⟩)
    exact ⟨rfl, .inr ⟨HN.out, rfl⟩, rfl⟩
  case inr.inr.inr.inr.inl =>
   simp only [Int.reducePow] at hn
   by_cases hq : q < xs.length
   ·have hx:=hb q hq
    obtain ⟨d, hd⟩ : ∃ d, xs.getD q 0 = d:=⟨_, rfl⟩
    have HD : Hid (xs.getD q 0 = d):=hd
    rw [hd] at hx
    clear hd
    by_cases h1 : 128 ≤ d
    ·have HS : Hid (getF xs 5 0 p 0 = getF xs 0 5 (q + 1) (n + d % 128 * 268435456)):=getF_step (by decide) HR.out hq HD.out h1
     go_wp2_with (go_at_call 292; refine (readByte_d v xs q d _ h hq HD hx).mono ?_; rintro e w' ⟨rfl, rfl⟩)
     go_round
     case rel => exact ⟨5, q + 1, _, by omega, by go_num, rfl, rfl, by omega, by simp only [Int.reducePow]; omega, HS⟩
     case measure => simp [intOf]
    ·by_cases h2 : 2147483647 < n + d % 128 * 268435456
     ·have HN : Hid (getF xs 5 0 p 0 = none):=getF_no (by decide) HR.out hq HD.out h1 (.inl h2)
      go_wp2_with (go_at_call 292; refine (readByte_d v xs q d _ h hq HD hx).mono ?_; rintro e w' ⟨rfl, rfl⟩)
      exact ⟨rfl, .inr ⟨HN.out, rfl⟩, rfl⟩
     ·have h2' : n + d % 128 * 268435456 ≤ 2147483647:=by omega
      by_cases h3 : d = 0
      ·have HN : Hid (getF xs 5 0 p 0 = none):=getF_no rfl HR.out hq HD.out h1 (.inr ⟨h3, by omega⟩)
       subst h3
       go_wp2_with (go_at_call 292; refine (readByte_d v xs q 0 _ h hq HD hx).mono ?_; rintro e w' ⟨rfl, rfl⟩)
       exact ⟨rfl, .inr ⟨HN.out, rfl⟩, rfl⟩
      ·have HY : Hid (getF xs 5 0 p 0 = some (n + d % 128 * 268435456, (q : Int) + 1)):=getF_yes (by decide) HR.out hq HD.out h1 (by omega)
       have h3' : (d == 0) = false:=by simp [h3]
       go_wp2_with (go_at_call 292; refine (readByte_d v xs q d _ h hq HD hx).mono ?_; rintro e w' ⟨rfl, rfl⟩)
       go_ret2
       exact ⟨.inl ⟨_, _, HY.out, rfl⟩, rfl⟩
   ·have HN : Hid (getF xs 5 0 p 0 = none):=by have:=HR.out; rw [getF_out _ _ _ _ _ hq] at this; exact this
    go_wp2_with (go_at_call 292; refine (readByte_no v xs q u pv _ h (.inr (by omega)) he).mono ?_; rintro e w' ⟨rfl, rfl⟩)
    exact ⟨rfl, .inr ⟨HN.out, rfl⟩, rfl⟩

theorem readNum_any (v : Value) (xs : List Int) (p : Int) (u : TypeId) (pv : Value) (w : World) (h : RB w v xs) (hb : Bytes xs) (he : w.cell? ⟨1, 0, none⟩ = some (.iface u pv)) :
 Calls Tryz.prog 268 #[v,.int .i64 p] w fun e w' => ReadEnd (getNum xs p) [{ v := .iface u pv, recovered := false }] e ∧ w' = w := by
 by_cases hp : p < 0
 ·refine (readNum_neg v xs p u pv w h hp he).mono ?_
  rintro e w' ⟨rfl, rfl⟩
  exact ⟨.inr ⟨getNum_neg xs p hp, rfl⟩, rfl⟩
 ·obtain ⟨m, rfl⟩:=Int.eq_ofNat_of_zero_le (Int.not_lt.1 hp)
  refine (readNum_nat v xs m u pv w h hb he).mono ?_
  rintro e w' ⟨h1, rfl⟩
  refine ⟨?_, rfl⟩
  rw [getNum_nat]; exact h1

theorem readNum_some (v : Value) (xs : List Int) (p n q : Int) (u : TypeId) (pv : Value) (w : World) (h : RB w v xs) (hb : Bytes xs) (he : w.cell? ⟨1, 0, none⟩ = some (.iface u pv)) (hr : getNum xs p = some (n, q)) :
 Calls Tryz.prog 268 #[v,.int .i64 p] w fun e w' => e = .returned (.tuple #[.int .i64 n,.int .i64 q]) ∧ w' = w := by
 refine (readNum_any v xs p u pv w h hb he).mono ?_
 rintro e w' ⟨h1, rfl⟩
 rw [hr] at h1
 rcases h1 with ⟨n', q', h2, h3⟩ | ⟨h2, _⟩
 ·simp only [Option.some.injEq, Prod.mk.injEq] at h2
  obtain ⟨rfl, rfl⟩:=h2
  exact ⟨h3, rfl⟩
 ·cases h2
theorem readNum_none (v : Value) (xs : List Int) (p : Int) (u : TypeId) (pv : Value) (w : World) (h : RB w v xs) (hb : Bytes xs) (he : w.cell? ⟨1, 0, none⟩ = some (.iface u pv)) (hr : getNum xs p = none) :
 Calls Tryz.prog 268 #[v,.int .i64 p] w fun e w' => e = .panicked [{ v := .iface u pv, recovered := false }] ∧ w' = w := by
 refine (readNum_any v xs p u pv w h hb he).mono ?_
 rintro e w' ⟨h1, rfl⟩
 rw [hr] at h1
 rcases h1 with ⟨n', q', h2, h3⟩ | ⟨_, h3⟩
 ·cases h2
 ·exact ⟨h3, rfl⟩

theorem numClo_some (B : Nat) (v : Value) (xs : List Int) (p n q : Int) (x y : Value) (u : TypeId) (pv : Value) (w : World) (h : RB w v xs) (hb : Bytes xs) (he : w.cell? ⟨1, 0, none⟩ = some (.iface u pv)) (hr : Hid (getNum xs p = some (n, q)))
 (h0 : w.cell? ⟨B, 0, none⟩ = some v) (h1 : w.cell? ⟨B + 1, 0, none⟩ = some (.int .i64 p)) (h2 : w.cell? ⟨B + 2, 0, none⟩ = some x) (h3 : w.cell? ⟨B + 3, 0, none⟩ = some y)
 (f2 : w.frozen? ⟨B + 2, 0, none⟩ = false) (f3 : w.frozen? ⟨B + 3, 0, none⟩ = false) :
 Calls Tryz.prog 267 #[.pointer (some ⟨B, 0, none⟩),.pointer (some ⟨B + 1, 0, none⟩),.pointer (some ⟨B + 2, 0, none⟩),.pointer (some ⟨B + 3, 0, none⟩)] w fun e w' =>
  e = .returned (.tuple #[]) ∧ w' = (w.setCell ⟨B + 2, 0, none⟩ (.int .i64 n)).setCell ⟨B + 3, 0, none⟩ (.int .i64 q) := by
 go_enter Tryz.func267, Tryz.ntmps267
 go_wp2_with fail
 refine (readNum_some v xs p n q u pv _ h hb he hr.out).mono ?_
 rintro e w' ⟨rfl, rfl⟩
 go_wp2
 go_end0
 exact ⟨rfl, rfl⟩

theorem numClo_none (B : Nat) (v : Value) (xs : List Int) (p : Int) (u : TypeId) (pv : Value) (w : World) (h : RB w v xs) (hb : Bytes xs) (he : w.cell? ⟨1, 0, none⟩ = some (.iface u pv)) (hr : Hid (getNum xs p = none))
 (h0 : w.cell? ⟨B, 0, none⟩ = some v) (h1 : w.cell? ⟨B + 1, 0, none⟩ = some (.int .i64 p)) :
 Calls Tryz.prog 267 #[.pointer (some ⟨B, 0, none⟩),.pointer (some ⟨B + 1, 0, none⟩),.pointer (some ⟨B + 2, 0, none⟩),.pointer (some ⟨B + 3, 0, none⟩)] w fun e w' =>
  e = .panicked [{ v := .iface u pv, recovered := false }] ∧ w' = w := by
 go_enter Tryz.func267, Tryz.ntmps267
 go_wp2_with fail
 refine (readNum_none v xs p u pv _ h hb he hr.out).mono ?_
 rintro e w' ⟨rfl, rfl⟩
 go_wp2
 exact ⟨rfl, rfl, rfl⟩

theorem alloc_new (w : World) (x : Value) (t : TypeId) : (w.alloc (.cells #[x] t)).cell? ⟨w.heap.size, 0, none⟩ = some x := by simp
theorem alloc_free (w : World) (x : Value) (t : TypeId) : (w.alloc (.cells #[x] t)).frozen? ⟨w.heap.size, 0, none⟩ = false := by simp [go_sem]
abbrev boxes (w : World) (v : Value) (p : Int) : World := (((w.alloc (.cells #[v] 31)).alloc (.cells #[.int .i64 p] 3)).alloc (.cells #[.int .i64 0] 3)).alloc (.cells #[.int .i64 0] 3)
theorem boxes_below (w : World) (v : Value) (p : Int) : Below w.heap.size w (boxes w v p) :=
 ((((Below.refl _ _).alloc (Nat.le_refl _) _).alloc (by simp) _).alloc (by simp; omega) _).alloc (by simp; omega) _
theorem boxes_size (w : World) (v : Value) (p : Int) : (boxes w v p).heap.size = w.heap.size + 4 := by simp
theorem boxes_ok (w : World) (v : Value) (p : Int) (o : Obj) :
 ((boxes w v p).alloc o).cell? ⟨w.heap.size, 0, none⟩ = some v ∧ ((boxes w v p).alloc o).cell? ⟨w.heap.size + 1, 0, none⟩ = some (.int .i64 p) ∧ ((boxes w v p).alloc o).cell? ⟨w.heap.size + 2, 0, none⟩ = some (.int .i64 0) ∧ ((boxes w v p).alloc o).cell? ⟨w.heap.size + 3, 0, none⟩ = some (.int .i64 0) ∧
 ((boxes w v p).alloc o).frozen? ⟨w.heap.size + 2, 0, none⟩ = false ∧ ((boxes w v p).alloc o).frozen? ⟨w.heap.size + 3, 0, none⟩ = false := by
 simp [boxes, go_sem]

theorem rdNum_some (v : Value) (xs : List Int) (p n q : Int) (u : TypeId) (pv : Value) (w : World) (h : RB w v xs) (hb : Bytes xs) (he : w.cell? ⟨1, 0, none⟩ = some (.iface u pv)) (hr : Hid (getNum xs p = some (n, q))) :
 Calls Tryz.prog 266 #[.func (.func 267) #[] #[.pointer (some ⟨w.heap.size, 0, none⟩),.pointer (some ⟨w.heap.size + 1, 0, none⟩),.pointer (some ⟨w.heap.size + 1 + 1, 0, none⟩),.pointer (some ⟨w.heap.size + 1 + 1 + 1, 0, none⟩)]] (boxes w v p) fun e w' =>
  e = .returned (.bool true) ∧ w'.cell? ⟨w.heap.size + 1 + 1, 0, none⟩ = some (.int .i64 n) ∧ w'.cell? ⟨w.heap.size + 1 + 1 + 1, 0, none⟩ = some (.int .i64 q) ∧ Below w.heap.size w w' := by
 have hlt:=cell_lt he
 obtain ⟨c0, c1, c2, c3, f2, f3⟩:=boxes_ok w v p (.cells #[.bool false] 4)
 have hbl : Below w.heap.size w ((boxes w v p).alloc (.cells #[.bool false] 4)):=(boxes_below w v p).alloc (by rw [boxes_size]; omega) _
 have hbs:=boxes_size w v p
 refine (readable_ok 267 _ (boxes w v p) (fun w1 => w1 = (((boxes w v p).alloc (.cells #[.bool false] 4)).setCell ⟨w.heap.size + 2, 0, none⟩ (.int .i64 n)).setCell ⟨w.heap.size + 3, 0, none⟩ (.int .i64 q)) (fun _ => by simp [go_sem]) ?_).mono ?_
 ·refine (numClo_some w.heap.size v xs p n q _ _ u pv _ (h.below hbl) hb ((hbl.cell hlt).trans he) hr c0 c1 c2 c3 f2 f3).mono ?_
  rintro e w' ⟨rfl, rfl⟩
  refine ⟨rfl, rfl, ?_, ?_⟩
  ·rw [World.cell?_setCell_other _ _ _ _ (by simp), World.cell?_setCell_other _ _ _ _ (by simp)]; exact alloc_new _ _ _
  ·rw [World.frozen?_setCell, World.frozen?_setCell]; exact alloc_free _ _ _
 ·rintro e w' ⟨rfl, w1, rfl, rfl⟩
  refine ⟨rfl, ?_, ?_, ?_⟩
  ·rw [World.cell?_setCell_other _ _ _ _ (by simp), World.cell?_setCell_other _ _ _ _ (by simp), World.cell?_setCell_same _ _ _ c2]
  ·rw [World.cell?_setCell_other _ _ _ _ (by simp)]
   exact World.cell?_setCell_same _ _ _ ((World.cell?_setCell_other _ _ _ _ (by simp)).trans c3)
  ·exact ((hbl.setCell (by simp) _).setCell (by simp) _).setCell (by rw [hbs]; simp) _

theorem getNum_some (v : Value) (xs : List Int) (p n q : Int) (u : TypeId) (pv : Value) (w : World) (h : RB w v xs) (hb : Bytes xs) (he : w.cell? ⟨1, 0, none⟩ = some (.iface u pv)) (hr : Hid (getNum xs p = some (n, q))) :
 Calls Tryz.prog 246 #[v,.int .i64 p] w fun e w' => e = .returned (.tuple #[.int .i64 n,.int .i64 q,.bool true]) ∧ Below w.heap.size w w' := by
 have hmf : ∀ (fn : Fn) (first cap : Array Value) (w : World), (Instr.makeFunc fn first cap).run Tryz.prog w = .ok (.func fn first cap) w:=fun _ _ _ _ => rfl
 have hrd:=rdNum_some v xs p n q u pv w h hb he hr
 obtain ⟨hl, ao, ca, rfl, _, h'⟩:=h
 clear h'
 go_enter Tryz.func246, Tryz.ntmps246
 go_wp2_with fail
 refine hrd.mono ?_
 rintro e w' ⟨rfl, c2, c3, bel⟩
 go_wp2_with fail
 go_quiet (fail)
 go_wp2
 go_ret3
 exact ⟨rfl, below_drewN bel _⟩

theorem rdNum_none (v : Value) (xs : List Int) (p : Int) (u : TypeId) (pv : Value) (w : World) (h : RB w v xs) (hb : Bytes xs) (he : w.cell? ⟨1, 0, none⟩ = some (.iface u pv)) (hr : Hid (getNum xs p = none)) :
 Calls Tryz.prog 266 #[.func (.func 267) #[] #[.pointer (some ⟨w.heap.size, 0, none⟩),.pointer (some ⟨w.heap.size + 1, 0, none⟩),.pointer (some ⟨w.heap.size + 1 + 1, 0, none⟩),.pointer (some ⟨w.heap.size + 1 + 1 + 1, 0, none⟩)]] (boxes w v p) fun e w' =>
  e = .returned (.bool false) ∧ w'.cell? ⟨w.heap.size + 1 + 1, 0, none⟩ = some (.int .i64 0) ∧ w'.cell? ⟨w.heap.size + 1 + 1 + 1, 0, none⟩ = some (.int .i64 0) ∧ Below w.heap.size w w' := by
 have hlt:=cell_lt he
 obtain ⟨c0, c1, c2, c3, f2, f3⟩:=boxes_ok w v p (.cells #[.bool false] 4)
 have hbl : Below w.heap.size w ((boxes w v p).alloc (.cells #[.bool false] 4)):=(boxes_below w v p).alloc (by rw [boxes_size]; omega) _
 have hbs:=boxes_size w v p
 refine (readable_no 267 _ (boxes w v p) (fun w1 => w1 = (boxes w v p).alloc (.cells #[.bool false] 4)) u pv (fun _ => by simp [go_sem]) ?_).mono ?_
 ·refine (numClo_none w.heap.size v xs p u pv _ (h.below hbl) hb ((hbl.cell hlt).trans he) hr c0 c1).mono ?_
  rintro e w' ⟨rfl, rfl⟩
  exact ⟨rfl, rfl, alloc_new _ _ _, alloc_free _ _ _⟩
 ·rintro e w' ⟨rfl, w1, rfl, rfl⟩
  refine ⟨rfl, ?_, ?_, ?_⟩
  ·rw [World.cell?_setCell_other _ _ _ _ (by simp)]; exact c2
  ·rw [World.cell?_setCell_other _ _ _ _ (by simp)]; exact c3
  ·exact hbl.setCell (by rw [hbs]; simp) _

theorem getNum_none (v : Value) (xs : List Int) (p : Int) (u : TypeId) (pv : Value) (w : World) (h : RB w v xs) (hb : Bytes xs) (he : w.cell? ⟨1, 0, none⟩ = some (.iface u pv)) (hr : Hid (getNum xs p = none)) :
 Calls Tryz.prog 246 #[v,.int .i64 p] w fun e w' => e = .returned (.tuple #[.int .i64 0,.int .i64 0,.bool false]) ∧ Below w.heap.size w w' := by
 have hmf : ∀ (fn : Fn) (first cap : Array Value) (w : World), (Instr.makeFunc fn first cap).run Tryz.prog w = .ok (.func fn first cap) w:=fun _ _ _ _ => rfl
 have hrd:=rdNum_none v xs p u pv w h hb he hr
 obtain ⟨hl, ao, ca, rfl, _, h'⟩:=h
 clear h'
 go_enter Tryz.func246, Tryz.ntmps246
 go_wp2_with fail
 refine hrd.mono ?_
 rintro e w' ⟨rfl, c2, c3, bel⟩
 go_wp2_with fail
 go_quiet (fail)
 go_wp2
 go_ret3
 exact ⟨rfl, below_drewN bel _⟩

def ans1 (r : Option (Int × Int)) : Int := match r with | some x => x.1 | none => 0
def ans2 (r : Option (Int × Int)) : Int := match r with | some x => x.2 | none => 0

theorem getF_bd (xs : List Int) (hb : Bytes xs) (f i p : Nat) (n : Int) (h0 : 0 ≤ n) (m q : Int) (h : getF xs f i p n = some (m, q)) : 0 ≤ m ∧ m ≤ 2147483647 ∧ (p : Int) < q ∧ q ≤ xs.length := by
 induction f generalizing i p n with
 | zero => simp [getF] at h
 | succ f ih =>
  by_cases hp : p < xs.length
  ·have hx:=hb p hp
   have h128 : (0 : Int) ≤ 128 ^ i:=Int.pow_nonneg (by omega)
   have hmul : 0 ≤ xs.getD p 0 % 128 * 128 ^ i:=Int.mul_nonneg (by omega) h128
   by_cases hd : 128 ≤ xs.getD p 0
   ·rw [getF_more xs f i p n hp hd] at h
    have:=ih (i + 1) (p + 1) _ (by omega) h
    omega
   ·by_cases hbad : 2147483647 < n + xs.getD p 0 % 128 * 128 ^ i ∨ (xs.getD p 0 = 0 ∧ 0 < i)
    ·rw [getF_bad xs f i p n hp hd hbad] at h; cases h
    ·rw [getF_end xs f i p n hp hd hbad] at h
     simp only [Option.some.injEq, Prod.mk.injEq] at h
     omega
  ·rw [getF_out xs _ i p n hp] at h; cases h
theorem getNum_bd (xs : List Int) (hb : Bytes xs) (p m q : Int) (h : getNum xs p = some (m, q)) : 0 ≤ m ∧ m ≤ 2147483647 ∧ 0 < q ∧ q ≤ xs.length := by
 by_cases hp : p < 0
 ·rw [getNum_neg xs p hp] at h; cases h
 ·rw [getNum, if_neg hp] at h
  have:=getF_bd xs hb 5 0 p.toNat 0 (by omega) m q h
  omega

def textAt (xs : List Int) (q n : Nat) : ByteArray := strOfNums ((xs.drop q).take n)
theorem win_cells {w : World} {b off q n : Nat} {xs : List Int} (h : ∀ k, k < xs.length → w.cell? ⟨b, off + k, none⟩ = some (.int .u8 (xs.getD k 0))) (hq : q + n ≤ xs.length) :
 ∀ i, i < n → w.cell? ⟨b, off + q + i, none⟩ = some (.int .u8 (((xs.drop q).take n).getD i 0)) := by
 intro i hi
 rw [Nat.add_assoc, h (q + i) (by omega)]
 simp [List.getD_eq_getElem?_getD, List.getElem?_drop, hi]
theorem win_len (xs : List Int) (q n : Nat) (hq : q + n ≤ xs.length) : ((xs.drop q).take n).length = n := by simp; omega

theorem readText_some (v : Value) (xs : List Int) (p : Int) (n q : Nat) (u : TypeId) (pv : Value) (w : World) (h : RB w v xs) (hb : Bytes xs) (he : w.cell? ⟨1, 0, none⟩ = some (.iface u pv)) (hr : Hid (getNum xs p = some ((n : Int), (q : Int)))) (hn : n ≤ 2147483647) (hq : 0 < q) (hl : q + n ≤ xs.length) :
 Calls Tryz.prog 294 #[v,.int .i64 p] w fun e w' => e = .returned (.tuple #[.string (textAt xs q n),.int .i64 ((q : Int) + n)]) ∧ w' = w := by
 have hr1:=fun w (h : RB w v xs) (he : w.cell? ⟨1, 0, none⟩ = some (.iface u pv)) => readNum_some v xs p n q u pv w h hb he hr.out
 have HR:=hide hr1
 clear hr1
 have h':=h
 obtain ⟨hlen, ao, ca, rfl, ⟨hcap, hcm⟩, hc⟩:=h'
 unfold maxLen at hcm
 rcases hc with rfl | ⟨b, off, rfl, hc⟩
 ·simp at hl; omega
 by_cases hcq : ca = q
 ·obtain rfl : n = 0:=by omega
  have hcv:=run_convert_bytes_arg (P:=Tryz.prog) w 31 5 Tryz.underlying31 Tryz.underlying5 b off 0 0 [] rfl (fun i hi => by omega) 9 Tryz.underlying9
  clear hc
  subst hcq
  go_enter Tryz.func294, Tryz.ntmps294
  go_wp2_with fail
  refine (HR.out _ h he).mono ?_
  rintro e w' ⟨rfl, rfl⟩
  go_wp2
  go_ret2
  exact ⟨by simp [textAt], rfl⟩
 ·have hcv:=run_convert_bytes_arg (P:=Tryz.prog) w 31 5 Tryz.underlying31 Tryz.underlying5 b (off + q) n (ca - q) ((xs.drop q).take n) (win_len xs q n hl) (win_cells hc hl) 9 Tryz.underlying9
  clear hc
  go_enter Tryz.func294, Tryz.ntmps294
  go_wp2_with fail
  refine (HR.out _ h he).mono ?_
  rintro e w' ⟨rfl, rfl⟩
  go_wp2
  go_ret2
  exact ⟨rfl, rfl⟩

theorem readText_far (v : Value) (xs : List Int) (p : Int) (n q : Nat) (u : TypeId) (pv : Value) (w : World) (h : RB w v xs) (hb : Bytes xs) (he : w.cell? ⟨1, 0, none⟩ = some (.iface u pv)) (hr : Hid (getNum xs p = some ((n : Int), (q : Int)))) (hn : n ≤ 2147483647) (hq : q ≤ xs.length) (hl : xs.length < q + n) :
 Calls Tryz.prog 294 #[v,.int .i64 p] w fun e w' => e = .panicked [{ v := .iface u pv, recovered := false }] ∧ w' = w := by
 have hr1:=fun w (h : RB w v xs) (he : w.cell? ⟨1, 0, none⟩ = some (.iface u pv)) => readNum_some v xs p n q u pv w h hb he hr.out
 have HR:=hide hr1
 clear hr1
 have h':=h
 obtain ⟨hlen, ao, ca, rfl, _, hc⟩:=h'
 clear hc
 go_enter Tryz.func294, Tryz.ntmps294
 go_wp2_with fail
 refine (HR.out _ h he).mono ?_
 rintro e w' ⟨rfl, rfl⟩
 go_wp2
 exact ⟨rfl, rfl, rfl⟩

theorem readText_none (v : Value) (xs : List Int) (p : Int) (u : TypeId) (pv : Value) (w : World) (h : RB w v xs) (hb : Bytes xs) (he : w.cell? ⟨1, 0, none⟩ = some (.iface u pv)) (hr : Hid (getNum xs p = none)) :
 Calls Tryz.prog 294 #[v,.int .i64 p] w fun e w' => e = .panicked [{ v := .iface u pv, recovered := false }] ∧ w' = w := by
 have hr1:=fun w (h : RB w v xs) (he : w.cell? ⟨1, 0, none⟩ = some (.iface u pv)) => readNum_none v xs p u pv w h hb he hr.out
 have HR:=hide hr1
 clear hr1
 have h':=h
 obtain ⟨hlen, ao, ca, rfl, _, hc⟩:=h'
 clear hc
 go_enter Tryz.func294, Tryz.ntmps294
 go_wp2_with fail
 refine (HR.out _ h he).mono ?_
 rintro e w' ⟨rfl, rfl⟩
 go_wp2
 exact ⟨rfl, rfl, rfl⟩

def getText (xs : List Int) (p : Int) : Option (ByteArray × Int) :=
 match getNum xs p with
 | some (n, q) => if n ≤ (xs.length : Int) - q then some (textAt xs q.toNat n.toNat, q + n) else none
 | none => none

theorem readText_yes (v : Value) (xs : List Int) (p : Int) (s : ByteArray) (r : Int) (u : TypeId) (pv : Value) (w : World) (h : RB w v xs) (hb : Bytes xs) (he : w.cell? ⟨1, 0, none⟩ = some (.iface u pv)) (hr : getText xs p = some (s, r)) :
 Calls Tryz.prog 294 #[v,.int .i64 p] w fun e w' => e = .returned (.tuple #[.string s,.int .i64 r]) ∧ w' = w := by
 unfold getText at hr
 cases hg : getNum xs p with
 | none => rw [hg] at hr; cases hr
 | some x =>
  obtain ⟨n, q⟩:=x
  have bd:=getNum_bd xs hb p n q hg
  rw [hg] at hr
  by_cases hl : n ≤ (xs.length : Int) - q
  ·simp only [if_pos hl, Option.some.injEq, Prod.mk.injEq] at hr
   obtain ⟨rfl, rfl⟩:=hr
   obtain ⟨n, rfl⟩:=Int.eq_ofNat_of_zero_le bd.1
   obtain ⟨q, rfl⟩:=Int.eq_ofNat_of_zero_le (show 0 ≤ q by omega)
   exact readText_some v xs p n q u pv w h hb he hg (by omega) (by omega) (by omega)
  ·simp [if_neg hl] at hr
theorem readText_no (v : Value) (xs : List Int) (p : Int) (u : TypeId) (pv : Value) (w : World) (h : RB w v xs) (hb : Bytes xs) (he : w.cell? ⟨1, 0, none⟩ = some (.iface u pv)) (hr : getText xs p = none) :
 Calls Tryz.prog 294 #[v,.int .i64 p] w fun e w' => e = .panicked [{ v := .iface u pv, recovered := false }] ∧ w' = w := by
 unfold getText at hr
 cases hg : getNum xs p with
 | none => exact readText_none v xs p u pv w h hb he hg
 | some x =>
  obtain ⟨n, q⟩:=x
  have bd:=getNum_bd xs hb p n q hg
  rw [hg] at hr
  by_cases hl : n ≤ (xs.length : Int) - q
  ·simp [if_pos hl] at hr
  ·obtain ⟨n, rfl⟩:=Int.eq_ofNat_of_zero_le bd.1
   obtain ⟨q, rfl⟩:=Int.eq_ofNat_of_zero_le (show 0 ≤ q by omega)
   exact readText_far v xs p n q u pv w h hb he hg (by omega) (by omega) (by omega)
end Go.Proofs.YtndpjhiidmdlhaaGreatDoor
namespace Go.Proofs.YtndpjhiidmdlhaaGreatDoor

theorem getF_put (pre post : List Int) (f m i : Nat) (n : Int) (h0 : 0 ≤ n) (hm : m < 128 ^ (f + 1)) (hi : 0 < i → 0 < m) (hle : n + (m : Int) * 128 ^ i ≤ 2147483647) :
 getF (pre ++ put f m ++ post) (f + 1) i pre.length n = some (n + (m : Int) * 128 ^ i, (pre.length : Int) + (put f m).length) := by
 induction f generalizing pre m i n with
 | zero =>
  have hm' : m ≤ 127:=by simp at hm; omega
  have hp : pre.length < (pre ++ put 0 m ++ post).length:=by simp [put]
  have hd : (pre ++ put 0 m ++ post).getD pre.length 0 = (m : Int):=by simp [put]
  have hmod : (m : Int) % 128 = m:=by omega
  rw [getF_end _ 0 i pre.length n hp (by rw [hd]; omega) (by rw [hd, hmod]; omega), hd, hmod]
  simp [put]
 | succ f ih =>
  by_cases hs : m ≤ 127
  ·have hpt : put (f + 1) m = [(m : Int)]:=put_small (f + 1) m hs
   rw [hpt]
   have hp : pre.length < (pre ++ [(m : Int)] ++ post).length:=by simp
   have hd : (pre ++ [(m : Int)] ++ post).getD pre.length 0 = (m : Int):=by simp
   have hmod : (m : Int) % 128 = m:=by omega
   rw [getF_end _ (f + 1) i pre.length n hp (by rw [hd]; omega) (by rw [hd, hmod]; omega), hd, hmod]
   simp
  ·have hpt : put (f + 1) m = ((m : Int) % 128 + 128) :: put f (m / 128):=put_great f m (by omega)
   rw [hpt]
   have hp : pre.length < (pre ++ (((m : Int) % 128 + 128) :: put f (m / 128)) ++ post).length:=by simp
   have hd : (pre ++ (((m : Int) % 128 + 128) :: put f (m / 128)) ++ post).getD pre.length 0 = (m : Int) % 128 + 128:=by simp
   have hmod : ((m : Int) % 128 + 128) % 128 = (m : Int) % 128:=by omega
   rw [getF_more _ (f + 1) i pre.length n hp (by rw [hd]; omega), hd, hmod]
   have hl : pre ++ (((m : Int) % 128 + 128) :: put f (m / 128)) ++ post = (pre ++ [(m : Int) % 128 + 128]) ++ put f (m / 128) ++ post:=by simp
   have hpow : (128 : Int) ^ (i + 1) = 128 ^ i * 128:=Int.pow_succ 128 i
   have h128 : (0 : Int) ≤ 128 ^ i:=Int.pow_nonneg (by omega)
   have hval : n + (m : Int) % 128 * 128 ^ i + ((m / 128 : Nat) : Int) * 128 ^ (i + 1) = n + (m : Int) * 128 ^ i:=by
    rw [hpow]
    have hdm : (m : Int) = (m : Int) % 128 + 128 * ((m / 128 : Nat) : Int):=by omega
    have : (m : Int) * 128 ^ i = ((m : Int) % 128 + 128 * ((m / 128 : Nat) : Int)) * 128 ^ i:=by rw [← hdm]
    rw [this, Int.add_mul, Int.mul_comm (128 ^ i) 128, ← Int.mul_assoc, Int.mul_comm ((m / 128 : Nat) : Int) 128]
    omega
   have hge : 0 ≤ (m : Int) % 128 * 128 ^ i:=Int.mul_nonneg (by omega) h128
   have:=ih (pre ++ [(m : Int) % 128 + 128]) (m / 128) (i + 1) (n + (m : Int) % 128 * 128 ^ i) (by omega) (by rw [Nat.pow_succ] at hm; exact Nat.div_lt_of_lt_mul (by rw [Nat.mul_comm]; exact hm)) (by omega) (by rw [hval]; exact hle)
   rw [hl]
   rw [show (pre ++ [(m : Int) % 128 + 128]).length = pre.length + 1 from by simp] at this
   rw [this, hval]
   simp; omega

theorem getF_back (xs : List Int) (hb : ∀ k, k < xs.length → 0 ≤ xs.getD k 0 ∧ xs.getD k 0 ≤ 255) (f i p : Nat) (n m q : Int) (h : getF xs (f + 1) i p n = some (m, q)) :
 ∃ (r e : Nat), m = n + (r : Int) * 128 ^ i ∧ r < 128 ^ (f + 1) ∧ (0 < i → 0 < r) ∧ q = (p : Int) + e ∧ p + e ≤ xs.length ∧ (xs.drop p).take e = put f r := by
 induction f generalizing i p n with
 | zero =>
  by_cases hp : p < xs.length
  ·have hx:=hb p hp
   by_cases hd : 128 ≤ xs.getD p 0
   ·rw [getF_more xs 0 i p n hp hd] at h; simp [getF] at h
   ·by_cases hbad : 2147483647 < n + xs.getD p 0 % 128 * 128 ^ i ∨ (xs.getD p 0 = 0 ∧ 0 < i)
    ·rw [getF_bad xs 0 i p n hp hd hbad] at h; cases h
    ·rw [getF_end xs 0 i p n hp hd hbad] at h
     simp only [Option.some.injEq, Prod.mk.injEq] at h
     obtain ⟨d, hdd⟩:=Int.eq_ofNat_of_zero_le hx.1
     have hdrop : (xs.drop p).take 1 = [xs.getD p 0]:=by
      rw [List.drop_eq_getElem_cons hp, List.take_succ_cons, List.take_zero, List.getD_eq_getElem?_getD, List.getElem?_eq_getElem hp]; rfl
     refine ⟨d, 1, ?_, by simp; omega, by omega, by omega, by omega, ?_⟩
     ·rw [← h.1, hdd, show ((d : Int) % 128) = d from by omega]
     ·rw [hdrop, hdd]; simp [put]
  ·rw [getF_out xs _ i p n hp] at h; cases h
 | succ f ih =>
  by_cases hp : p < xs.length
  ·have hx:=hb p hp
   have hdrop : xs.drop p = xs.getD p 0 :: xs.drop (p + 1):=by
    rw [List.drop_eq_getElem_cons hp, List.getD_eq_getElem?_getD, List.getElem?_eq_getElem hp]; rfl
   obtain ⟨d, hdd⟩:=Int.eq_ofNat_of_zero_le hx.1
   by_cases hd : 128 ≤ xs.getD p 0
   ·rw [getF_more xs (f + 1) i p n hp hd] at h
    obtain ⟨r, e, h1, h2, h3, h4, h5, h6⟩:=ih (i + 1) (p + 1) _ h
    have hr:=h3 (by omega)
    refine ⟨d % 128 + 128 * r, e + 1, ?_, ?_, by omega, by omega, by omega, ?_⟩
    ·rw [h1, hdd, Int.pow_succ, Int.natCast_add, Int.natCast_mul, Int.add_mul, Int.natCast_emod]
     have e1 : ((128 : Nat) : Int) * (r : Int) * 128 ^ i = (r : Int) * (128 ^ i * 128):=by
      rw [Int.mul_comm ((128 : Nat) : Int) (r : Int), Int.mul_assoc, Int.mul_comm ((128 : Nat) : Int) (128 ^ i)]; rfl
     rw [e1]
     have e2 : ((128 : Nat) : Int) = 128:=rfl
     rw [e2]; omega
    ·rw [Nat.pow_succ]; omega
    ·rw [hdrop, List.take_succ_cons, h6, put_great f _ (by omega)]
     rw [show (d % 128 + 128 * r) / 128 = r from by omega, hdd]
     congr 1; omega
   ·by_cases hbad : 2147483647 < n + xs.getD p 0 % 128 * 128 ^ i ∨ (xs.getD p 0 = 0 ∧ 0 < i)
    ·rw [getF_bad xs (f + 1) i p n hp hd hbad] at h; cases h
    ·rw [getF_end xs (f + 1) i p n hp hd hbad] at h
     simp only [Option.some.injEq, Prod.mk.injEq] at h
     refine ⟨d, 1, ?_, ?_, by omega, by omega, by omega, ?_⟩
     ·rw [← h.1, hdd, show ((d : Int) % 128) = d from by omega]
     ·have : (128 : Nat) ≤ 128 ^ (f + 1 + 1):=by
       rw [Nat.pow_succ]; have : 0 < 128 ^ (f + 1) := Nat.pow_pos (by omega); omega
      omega
     ·rw [hdrop, hdd, put_small (f + 1) d (by omega)]; simp
  ·rw [getF_out xs _ i p n hp] at h; cases h

theorem getNum_back (xs : List Int) (hb : BytesL xs) (p m q : Int) (h : getNum xs p = some (m, q)) :
 ∃ (k e : Nat), p = k ∧ q = (k : Int) + e ∧ k + e ≤ xs.length ∧ 0 ≤ m ∧ m ≤ 2147483647 ∧ (xs.drop k).take e = putAns m := by
 have bd:=getNum_bd xs hb.get p m q h
 by_cases hp : p < 0
 ·rw [getNum_neg xs p hp] at h; cases h
 ·obtain ⟨k, rfl⟩:=Int.eq_ofNat_of_zero_le (Int.not_lt.1 hp)
  rw [getNum_nat] at h
  obtain ⟨r, e, h1, h2, _, h4, h5, h6⟩:=getF_back xs hb.get 4 0 k 0 m q h
  have hm : m = (r : Int):=by rw [h1]; simp
  subst hm
  exact ⟨k, e, rfl, h4, h5, by omega, by omega, by rw [h6, putAns_yes r (by omega)]⟩

theorem bs_str (l : List Int) (h : BytesL l) : bs (strOfNums l) = l := by
 unfold bs
 rw [strOfNums_data, List.map_map]
 conv => rhs; rw [← List.map_id l]
 apply List.map_congr_left
 intro x hx
 have:=h x hx
 simp; omega
theorem str_bs (s : ByteArray) : strOfNums (bs s) = s := by
 apply ByteArray.ext
 apply Array.toList_inj.1
 rw [strOfNums_data, bs, List.map_map]
 conv => rhs; rw [← List.map_id s.data.toList]
 apply List.map_congr_left
 intro x _
 simp

def joinTo (b : UInt8) (ps : List ByteArray) : Nat → List UInt8
 | 0 => []
 | j + 1 => (if 0 < j then joinTo b ps j ++ [b] else joinTo b ps j) ++ (ps.getD j ByteArray.empty).data.toList
theorem joinTo_pre (b : UInt8) (ps qs : List ByteArray) (j : Nat) (h : j ≤ ps.length) : joinTo b (ps ++ qs) j = joinTo b ps j := by
 induction j with
 | zero => rfl
 | succ j ih =>
  have e : (ps ++ qs).getD j ByteArray.empty = ps.getD j ByteArray.empty:=by
   rw [List.getD_eq_getElem?_getD, List.getD_eq_getElem?_getD, List.getElem?_append_left (by omega)]
  rw [joinTo, joinTo, ih (by omega), e]
theorem joinTo_snoc (b : UInt8) (ps : List ByteArray) (x : ByteArray) : joinTo b (ps ++ [x]) (ps.length + 1) = (if 0 < ps.length then joinTo b ps ps.length ++ [b] else joinTo b ps ps.length) ++ x.data.toList := by
 have e : (ps ++ [x]).getD ps.length ByteArray.empty = x:=by simp
 rw [joinTo, joinTo_pre b ps [x] ps.length (Nat.le_refl _), e]
theorem ext_cut (s : ByteArray) (i j : Nat) : (s.extract i j).data.toList = (s.data.toList.drop i).take (j - i) := by
 rw [ByteArray.data_extract, Array.toList_extract]
theorem split_inv (s : ByteArray) (b : UInt8) (k : Nat) (hk : k ≤ s.size) :
 ((pcs s b.toNat k).1 = [] ∧ (pcs s b.toNat k).2 = 0) ∨ (0 < (pcs s b.toNat k).1.length ∧ joinTo b (pcs s b.toNat k).1 (pcs s b.toNat k).1.length ++ [b] = s.data.toList.take (pcs s b.toNat k).2) := by
 induction k with
 | zero => left; simp [pcs]
 | succ k ih =>
  have ih:=ih (by omega)
  have hks : k < s.size:=by omega
  by_cases hb : (s[k].toNat : Int) = b.toNat
  ·rw [pcs_hit s _ k hks hb]
   right
   have hle:=(pcs_le s b.toNat k).1
   have hbb : s[k] = b:=by
    apply UInt8.toNat_inj.1; omega
   have htk : s.data.toList.take (k + 1) = s.data.toList.take k ++ [b]:=by
    rw [List.take_succ_eq_append_getElem (by simpa using hks)]
    congr 1
    rw [← hbb]; rfl
   refine ⟨by simp, ?_⟩
   simp only [List.length_append, List.length_cons, List.length_nil, Nat.zero_add]
   rw [joinTo_snoc, ext_cut, htk]
   congr 1
   rcases ih with ⟨h1, h2⟩ | ⟨h1, h2⟩
   ·rw [h1, h2]; simp [joinTo]
   ·rw [if_pos h1, h2]
    rw [← List.take_add]
    congr 1; omega
  ·rw [pcs_miss s _ k hks hb]; exact ih
theorem split_join (s : ByteArray) (b : UInt8) : joinTo b (splitAns s b.toNat) (splitAns s b.toNat).length = s.data.toList := by
 have hle:=(pcs_le s b.toNat s.size).1
 have hinv:=split_inv s b s.size (Nat.le_refl _)
 have hlen : s.data.toList.length = s.size:=by simp
 unfold splitAns
 simp only [List.length_append, List.length_cons, List.length_nil, Nat.zero_add]
 rw [joinTo_snoc, ext_cut]
 rcases hinv with ⟨h1, h2⟩ | ⟨h1, h2⟩
 ·rw [h1, h2]
  simp only [List.length_nil, joinTo, List.drop_zero, Nat.sub_zero]
  rw [List.take_of_length_le (by omega)]; simp
 ·rw [if_pos h1, h2, ← List.take_add, List.take_of_length_le (by omega)]
end Go.Proofs.YtndpjhiidmdlhaaGreatDoor
