/- impl.readByte and impl.readNum: they answer, or panic with errNoNumber. -/
import Derived.Test.YtnbiphlificliaaDoorBase
import Derived.Test.YtnbiphlificliaaDoorGetPlain
namespace Go.Proofs.YtnbiphlificliaaDoor
open Go.RowKit
set_option linter.unusedSectionVars false

set_option maxHeartbeats 400000 in
set_option maxRecDepth 100000 in
theorem readByte_yes (v : Value) (xs : List Int) (p : Nat) (w : World) (h : RB w v xs) (hp : p < xs.length) (hx : 0 ≤ xs.getD p 0 ∧ xs.getD p 0 ≤ 255) :
    Calls Tryd.prog 84 #[v, .int .i64 p] w fun e w' => e = .returned (.int .i64 (xs.getD p 0)) ∧ w' = w := by
  obtain ⟨hl, ao, ca, rfl, _, h⟩ := h
  rcases h with rfl | ⟨b, off, rfl, h⟩
  · simp at hp
  have hc := h p hp
  have hd : decide ((p : Int) < 0) = false := by simp
  have hd2 : decide ((xs.length : Int) ≤ (p : Int)) = false := by simp; omega
  generalize xs.getD p 0 = c at *
  clear h
  go_enter Tryd.func84, Tryd.ntmps84
  go_wp2
  go_ret
  exact ⟨rfl, rfl⟩

set_option maxHeartbeats 400000 in
set_option maxRecDepth 100000 in
theorem readByte_no (v : Value) (xs : List Int) (p : Int) (u : TypeId) (pv : Value) (w : World) (h : RB w v xs) (hp : p < 0 ∨ (xs.length : Int) ≤ p) (he : w.cell? ⟨0, 0, none⟩ = some (.iface u pv)) :
    Calls Tryd.prog 84 #[v, .int .i64 p] w fun e w' => e = .panicked [{ v := .iface u pv, recovered := false }] ∧ w' = w := by
  obtain ⟨hl, ao, ca, rfl, _, h⟩ := h
  clear h
  by_cases hn : p < 0
  · clear hp
    go_enter Tryd.func84, Tryd.ntmps84
    go_wp2
    exact ⟨rfl, rfl, rfl⟩
  · have hd : decide (p < 0) = false := by simpa using hn
    have hp2 : (xs.length : Int) ≤ p := by omega
    clear hp
    go_enter Tryd.func84, Tryd.ntmps84
    go_wp2
    exact ⟨rfl, rfl, rfl⟩

/-- What is read of bytes: each from 0 to 255. -/
def Bytes (xs : List Int) : Prop := ∀ k, k < xs.length → 0 ≤ xs.getD k 0 ∧ xs.getD k 0 ≤ 255

/-- What readNum ends in. -/
def ReadEnd (r : Option (Int × Int)) (pn : List PanicEntry) (e : Ending) : Prop :=
  (∃ n q, r = some (n, q) ∧ e = .returned (.tuple #[.int .i64 n, .int .i64 q])) ∨ (r = none ∧ e = .panicked pn)

set_option maxHeartbeats 400000 in
set_option maxRecDepth 100000 in
theorem readNum_neg (v : Value) (xs : List Int) (p : Int) (u : TypeId) (pv : Value) (w : World) (h : RB w v xs) (hp : p < 0) (he : w.cell? ⟨0, 0, none⟩ = some (.iface u pv)) :
    Calls Tryd.prog 73 #[v, .int .i64 p] w fun e w' => e = .panicked [{ v := .iface u pv, recovered := false }] ∧ w' = w := by
  go_enter Tryd.func73, Tryd.ntmps73
  go_wp2
  refine wp_loop_rounds 1 ?_
  rw [rounds_succ]
  go_wp2_with (go_at_call 84; refine (readByte_no v xs p u pv _ h (.inl hp) he).mono ?_; rintro e w' ⟨rfl, rfl⟩)
  exact ⟨rfl, rfl, rfl⟩

theorem readByte_d (v : Value) (xs : List Int) (p : Nat) (d : Int) (w : World) (h : RB w v xs) (hp : p < xs.length) (hd : Hid (xs.getD p 0 = d)) (hx : 0 ≤ d ∧ d ≤ 255) :
    Calls Tryd.prog 84 #[v, .int .i64 p] w fun e w' => e = .returned (.int .i64 d) ∧ w' = w := by
  have := hd.out; subst this; exact readByte_yes v xs p w h hp hx

set_option maxHeartbeats 3200000 in
set_option maxRecDepth 100000 in
theorem readNum_nat (v : Value) (xs : List Int) (p : Nat) (u : TypeId) (pv : Value) (w : World) (h : RB w v xs) (hb : Bytes xs) (he : w.cell? ⟨0, 0, none⟩ = some (.iface u pv)) :
    Calls Tryd.prog 73 #[v, .int .i64 p] w fun e w' => ReadEnd (getF xs 5 0 p 0) [{ v := .iface u pv, recovered := false }] e ∧ w' = w := by
  have hl := h.1
  go_enter Tryd.func73, Tryd.ntmps73
  go_wp2
  go_loop [1, 6, 9] (fun x y z => ∃ (i q : Nat) (n : Int), i ≤ 5 ∧ x = .int .i64 q ∧ y = .int .i64 n ∧ z = .int .i64 i ∧ 0 ≤ n ∧ n < 128 ^ i ∧ Hid (getF xs 5 0 p 0 = getF xs (5 - i) i q n)) (fun _ _ z => 5 - (intOf z).toNat)
  case atStart => exact ⟨0, p, 0, by omega, rfl, rfl, rfl, by omega, by simp, rfl⟩
  case round =>
    obtain ⟨i, q, n, hi, rfl, rfl, rfl, hn0, hn, HR⟩ := hrel
    obtain rfl | rfl | rfl | rfl | rfl | rfl : i = 0 ∨ i = 1 ∨ i = 2 ∨ i = 3 ∨ i = 4 ∨ i = 5 := by omega
    case inr.inr.inr.inr.inr =>
      go_wp2
      refine ⟨rfl, .inr ⟨?_, rfl⟩, rfl⟩
      rw [HR.out]; rfl
    case inl =>
      simp only [Int.reducePow] at hn
      by_cases hq : q < xs.length
      · have hx := hb q hq
        obtain ⟨d, hd⟩ : ∃ d, xs.getD q 0 = d := ⟨_, rfl⟩
        have HD : Hid (xs.getD q 0 = d) := hd
        rw [hd] at hx
        clear hd
        by_cases h1 : 128 ≤ d
        · have HS : Hid (getF xs 5 0 p 0 = getF xs 4 1 (q + 1) (n + d % 128 * 1)) := getF_step (by decide) HR.out hq HD.out h1
          go_wp2_with (go_at_call 84; refine (readByte_d v xs q d _ h hq HD hx).mono ?_; rintro e w' ⟨rfl, rfl⟩)
          go_round
          case rel => exact ⟨1, q + 1, _, by omega, by go_num, by go_num, rfl, by omega, by simp only [Int.reducePow]; omega, HS⟩
          case measure => simp [intOf]
        · by_cases h2 : 2147483647 < n + d % 128 * 1
          · have HN : Hid (getF xs 5 0 p 0 = none) := getF_no (by decide) HR.out hq HD.out h1 (.inl h2)
            omega
          · have h2' : n + d % 128 * 1 ≤ 2147483647 := by omega
            by_cases h3 : d = 0
            · have HY : Hid (getF xs 5 0 p 0 = some (n + d % 128 * 1, (q : Int) + 1)) := getF_yes (by decide) HR.out hq HD.out h1 (by omega)
              subst h3
              go_wp2_with (go_at_call 84; refine (readByte_d v xs q 0 _ h hq HD hx).mono ?_; rintro e w' ⟨rfl, rfl⟩)
              go_ret2
              exact ⟨.inl ⟨_, _, HY.out, by simp⟩, rfl⟩
            · have HY : Hid (getF xs 5 0 p 0 = some (n + d % 128 * 1, (q : Int) + 1)) := getF_yes (by decide) HR.out hq HD.out h1 (by omega)
              have h3' : (d == 0) = false := by simp [h3]
              go_wp2_with (go_at_call 84; refine (readByte_d v xs q d _ h hq HD hx).mono ?_; rintro e w' ⟨rfl, rfl⟩)
              go_ret2
              exact ⟨.inl ⟨_, _, HY.out, by simp⟩, rfl⟩
      · have HN : Hid (getF xs 5 0 p 0 = none) := by have := HR.out; rw [getF_out _ _ _ _ _ hq] at this; exact this
        go_wp2_with (go_at_call 84; refine (readByte_no v xs q u pv _ h (.inr (by omega)) he).mono ?_; rintro e w' ⟨rfl, rfl⟩)
        exact ⟨rfl, .inr ⟨HN.out, rfl⟩, rfl⟩
    case inr.inl =>
      simp only [Int.reducePow] at hn
      by_cases hq : q < xs.length
      · have hx := hb q hq
        obtain ⟨d, hd⟩ : ∃ d, xs.getD q 0 = d := ⟨_, rfl⟩
        have HD : Hid (xs.getD q 0 = d) := hd
        rw [hd] at hx
        clear hd
        by_cases h1 : 128 ≤ d
        · have HS : Hid (getF xs 5 0 p 0 = getF xs 3 2 (q + 1) (n + d % 128 * 128)) := getF_step (by decide) HR.out hq HD.out h1
          go_wp2_with (go_at_call 84; refine (readByte_d v xs q d _ h hq HD hx).mono ?_; rintro e w' ⟨rfl, rfl⟩)
          go_round
          case rel => exact ⟨2, q + 1, _, by omega, by go_num, rfl, rfl, by omega, by simp only [Int.reducePow]; omega, HS⟩
          case measure => simp [intOf]
        · by_cases h2 : 2147483647 < n + d % 128 * 128
          · have HN : Hid (getF xs 5 0 p 0 = none) := getF_no (by decide) HR.out hq HD.out h1 (.inl h2)
            omega
          · have h2' : n + d % 128 * 128 ≤ 2147483647 := by omega
            by_cases h3 : d = 0
            · have HN : Hid (getF xs 5 0 p 0 = none) := getF_no rfl HR.out hq HD.out h1 (.inr ⟨h3, by omega⟩)
              subst h3
              go_wp2_with (go_at_call 84; refine (readByte_d v xs q 0 _ h hq HD hx).mono ?_; rintro e w' ⟨rfl, rfl⟩)
              exact ⟨rfl, .inr ⟨HN.out, rfl⟩, rfl⟩
            · have HY : Hid (getF xs 5 0 p 0 = some (n + d % 128 * 128, (q : Int) + 1)) := getF_yes (by decide) HR.out hq HD.out h1 (by omega)
              have h3' : (d == 0) = false := by simp [h3]
              go_wp2_with (go_at_call 84; refine (readByte_d v xs q d _ h hq HD hx).mono ?_; rintro e w' ⟨rfl, rfl⟩)
              go_ret2
              exact ⟨.inl ⟨_, _, HY.out, rfl⟩, rfl⟩
      · have HN : Hid (getF xs 5 0 p 0 = none) := by have := HR.out; rw [getF_out _ _ _ _ _ hq] at this; exact this
        go_wp2_with (go_at_call 84; refine (readByte_no v xs q u pv _ h (.inr (by omega)) he).mono ?_; rintro e w' ⟨rfl, rfl⟩)
        exact ⟨rfl, .inr ⟨HN.out, rfl⟩, rfl⟩
    case inr.inr.inl =>
      simp only [Int.reducePow] at hn
      by_cases hq : q < xs.length
      · have hx := hb q hq
        obtain ⟨d, hd⟩ : ∃ d, xs.getD q 0 = d := ⟨_, rfl⟩
        have HD : Hid (xs.getD q 0 = d) := hd
        rw [hd] at hx
        clear hd
        by_cases h1 : 128 ≤ d
        · have HS : Hid (getF xs 5 0 p 0 = getF xs 2 3 (q + 1) (n + d % 128 * 16384)) := getF_step (by decide) HR.out hq HD.out h1
          go_wp2_with (go_at_call 84; refine (readByte_d v xs q d _ h hq HD hx).mono ?_; rintro e w' ⟨rfl, rfl⟩)
          go_round
          case rel => exact ⟨3, q + 1, _, by omega, by go_num, rfl, rfl, by omega, by simp only [Int.reducePow]; omega, HS⟩
          case measure => simp [intOf]
        · by_cases h2 : 2147483647 < n + d % 128 * 16384
          · have HN : Hid (getF xs 5 0 p 0 = none) := getF_no (by decide) HR.out hq HD.out h1 (.inl h2)
            omega
          · have h2' : n + d % 128 * 16384 ≤ 2147483647 := by omega
            by_cases h3 : d = 0
            · have HN : Hid (getF xs 5 0 p 0 = none) := getF_no rfl HR.out hq HD.out h1 (.inr ⟨h3, by omega⟩)
              subst h3
              go_wp2_with (go_at_call 84; refine (readByte_d v xs q 0 _ h hq HD hx).mono ?_; rintro e w' ⟨rfl, rfl⟩)
              exact ⟨rfl, .inr ⟨HN.out, rfl⟩, rfl⟩
            · have HY : Hid (getF xs 5 0 p 0 = some (n + d % 128 * 16384, (q : Int) + 1)) := getF_yes (by decide) HR.out hq HD.out h1 (by omega)
              have h3' : (d == 0) = false := by simp [h3]
              go_wp2_with (go_at_call 84; refine (readByte_d v xs q d _ h hq HD hx).mono ?_; rintro e w' ⟨rfl, rfl⟩)
              go_ret2
              exact ⟨.inl ⟨_, _, HY.out, rfl⟩, rfl⟩
      · have HN : Hid (getF xs 5 0 p 0 = none) := by have := HR.out; rw [getF_out _ _ _ _ _ hq] at this; exact this
        go_wp2_with (go_at_call 84; refine (readByte_no v xs q u pv _ h (.inr (by omega)) he).mono ?_; rintro e w' ⟨rfl, rfl⟩)
        exact ⟨rfl, .inr ⟨HN.out, rfl⟩, rfl⟩
    case inr.inr.inr.inl =>
      simp only [Int.reducePow] at hn
      by_cases hq : q < xs.length
      · have hx := hb q hq
        obtain ⟨d, hd⟩ : ∃ d, xs.getD q 0 = d := ⟨_, rfl⟩
        have HD : Hid (xs.getD q 0 = d) := hd
        rw [hd] at hx
        clear hd
        by_cases h1 : 128 ≤ d
        · have HS : Hid (getF xs 5 0 p 0 = getF xs 1 4 (q + 1) (n + d % 128 * 2097152)) := getF_step (by decide) HR.out hq HD.out h1
          go_wp2_with (go_at_call 84; refine (readByte_d v xs q d _ h hq HD hx).mono ?_; rintro e w' ⟨rfl, rfl⟩)
          go_round
          case rel => exact ⟨4, q + 1, _, by omega, by go_num, rfl, rfl, by omega, by simp only [Int.reducePow]; omega, HS⟩
          case measure => simp [intOf]
        · by_cases h2 : 2147483647 < n + d % 128 * 2097152
          · have HN : Hid (getF xs 5 0 p 0 = none) := getF_no (by decide) HR.out hq HD.out h1 (.inl h2)
            omega
          · have h2' : n + d % 128 * 2097152 ≤ 2147483647 := by omega
            by_cases h3 : d = 0
            · have HN : Hid (getF xs 5 0 p 0 = none) := getF_no rfl HR.out hq HD.out h1 (.inr ⟨h3, by omega⟩)
              subst h3
              go_wp2_with (go_at_call 84; refine (readByte_d v xs q 0 _ h hq HD hx).mono ?_; rintro e w' ⟨rfl, rfl⟩)
              exact ⟨rfl, .inr ⟨HN.out, rfl⟩, rfl⟩
            · have HY : Hid (getF xs 5 0 p 0 = some (n + d % 128 * 2097152, (q : Int) + 1)) := getF_yes (by decide) HR.out hq HD.out h1 (by omega)
              have h3' : (d == 0) = false := by simp [h3]
              go_wp2_with (go_at_call 84; refine (readByte_d v xs q d _ h hq HD hx).mono ?_; rintro e w' ⟨rfl, rfl⟩)
              go_ret2
              exact ⟨.inl ⟨_, _, HY.out, rfl⟩, rfl⟩
      · have HN : Hid (getF xs 5 0 p 0 = none) := by have := HR.out; rw [getF_out _ _ _ _ _ hq] at this; exact this
        go_wp2_with (go_at_call 84; refine (readByte_no v xs q u pv _ h (.inr (by omega)) he).mono ?_; rintro e w' ⟨rfl, rfl⟩)
        exact ⟨rfl, .inr ⟨HN.out, rfl⟩, rfl⟩
    case inr.inr.inr.inr.inl =>
      simp only [Int.reducePow] at hn
      by_cases hq : q < xs.length
      · have hx := hb q hq
        obtain ⟨d, hd⟩ : ∃ d, xs.getD q 0 = d := ⟨_, rfl⟩
        have HD : Hid (xs.getD q 0 = d) := hd
        rw [hd] at hx
        clear hd
        by_cases h1 : 128 ≤ d
        · have HS : Hid (getF xs 5 0 p 0 = getF xs 0 5 (q + 1) (n + d % 128 * 268435456)) := getF_step (by decide) HR.out hq HD.out h1
          go_wp2_with (go_at_call 84; refine (readByte_d v xs q d _ h hq HD hx).mono ?_; rintro e w' ⟨rfl, rfl⟩)
          go_round
          case rel => exact ⟨5, q + 1, _, by omega, by go_num, rfl, rfl, by omega, by simp only [Int.reducePow]; omega, HS⟩
          case measure => simp [intOf]
        · by_cases h2 : 2147483647 < n + d % 128 * 268435456
          · have HN : Hid (getF xs 5 0 p 0 = none) := getF_no (by decide) HR.out hq HD.out h1 (.inl h2)
            go_wp2_with (go_at_call 84; refine (readByte_d v xs q d _ h hq HD hx).mono ?_; rintro e w' ⟨rfl, rfl⟩)
            exact ⟨rfl, .inr ⟨HN.out, rfl⟩, rfl⟩
          · have h2' : n + d % 128 * 268435456 ≤ 2147483647 := by omega
            by_cases h3 : d = 0
            · have HN : Hid (getF xs 5 0 p 0 = none) := getF_no rfl HR.out hq HD.out h1 (.inr ⟨h3, by omega⟩)
              subst h3
              go_wp2_with (go_at_call 84; refine (readByte_d v xs q 0 _ h hq HD hx).mono ?_; rintro e w' ⟨rfl, rfl⟩)
              exact ⟨rfl, .inr ⟨HN.out, rfl⟩, rfl⟩
            · have HY : Hid (getF xs 5 0 p 0 = some (n + d % 128 * 268435456, (q : Int) + 1)) := getF_yes (by decide) HR.out hq HD.out h1 (by omega)
              have h3' : (d == 0) = false := by simp [h3]
              go_wp2_with (go_at_call 84; refine (readByte_d v xs q d _ h hq HD hx).mono ?_; rintro e w' ⟨rfl, rfl⟩)
              go_ret2
              exact ⟨.inl ⟨_, _, HY.out, rfl⟩, rfl⟩
      · have HN : Hid (getF xs 5 0 p 0 = none) := by have := HR.out; rw [getF_out _ _ _ _ _ hq] at this; exact this
        go_wp2_with (go_at_call 84; refine (readByte_no v xs q u pv _ h (.inr (by omega)) he).mono ?_; rintro e w' ⟨rfl, rfl⟩)
        exact ⟨rfl, .inr ⟨HN.out, rfl⟩, rfl⟩
end Go.Proofs.YtnbiphlificliaaDoor
