/- impl.readText and spec.GetText. -/
import Derived.Test.YtnbiphlificliaaDoorGetNum
import Derived.Laws.BytesArg
namespace Go.Proofs.YtnbiphlificliaaDoor
open Go.RowKit
set_option linter.unusedSectionVars false

theorem getF_bd (xs : List Int) (hb : Bytes xs) (f i p : Nat) (n : Int) (h0 : 0 ≤ n) (m q : Int) (h : getF xs f i p n = some (m, q)) : 0 ≤ m ∧ m ≤ 2147483647 ∧ (p : Int) < q ∧ q ≤ xs.length := by
  induction f generalizing i p n with
  | zero => simp [getF] at h
  | succ f ih =>
    by_cases hp : p < xs.length
    · have hx := hb p hp
      have h128 : (0 : Int) ≤ 128 ^ i := Int.pow_nonneg (by omega)
      have hmul : 0 ≤ xs.getD p 0 % 128 * 128 ^ i := Int.mul_nonneg (by omega) h128
      by_cases hd : 128 ≤ xs.getD p 0
      · rw [getF_more xs f i p n hp hd] at h
        have := ih (i + 1) (p + 1) _ (by omega) h
        omega
      · by_cases hbad : 2147483647 < n + xs.getD p 0 % 128 * 128 ^ i ∨ (xs.getD p 0 = 0 ∧ 0 < i)
        · rw [getF_bad xs f i p n hp hd hbad] at h; cases h
        · rw [getF_end xs f i p n hp hd hbad] at h
          simp only [Option.some.injEq, Prod.mk.injEq] at h
          omega
    · rw [getF_out xs _ i p n hp] at h; cases h
theorem getNum_bd (xs : List Int) (hb : Bytes xs) (p m q : Int) (h : getNum xs p = some (m, q)) : 0 ≤ m ∧ m ≤ 2147483647 ∧ 0 < q ∧ q ≤ xs.length := by
  by_cases hp : p < 0
  · rw [getNum_neg xs p hp] at h; cases h
  · rw [getNum, if_neg hp] at h
    have := getF_bd xs hb 5 0 p.toNat 0 (by omega) m q h
    omega

/-- The text that stands at q, n bytes long. -/
def textAt (xs : List Int) (q n : Nat) : ByteArray := strOfNums ((xs.drop q).take n)
theorem win_cells {w : World} {b off q n : Nat} {xs : List Int} (h : ∀ k, k < xs.length → w.cell? ⟨b, off + k, none⟩ = some (.int .u8 (xs.getD k 0))) (hq : q + n ≤ xs.length) :
    ∀ i, i < n → w.cell? ⟨b, off + q + i, none⟩ = some (.int .u8 (((xs.drop q).take n).getD i 0)) := by
  intro i hi
  rw [Nat.add_assoc, h (q + i) (by omega)]
  simp [List.getD_eq_getElem?_getD, List.getElem?_drop, hi]
theorem win_len (xs : List Int) (q n : Nat) (hq : q + n ≤ xs.length) : ((xs.drop q).take n).length = n := by simp; omega

set_option maxHeartbeats 800000 in
set_option maxRecDepth 100000 in
theorem readText_some (v : Value) (xs : List Int) (p : Int) (n q : Nat) (u : TypeId) (pv : Value) (w : World) (h : RB w v xs) (hb : Bytes xs) (he : w.cell? ⟨0, 0, none⟩ = some (.iface u pv)) (hr : Hid (getNum xs p = some ((n : Int), (q : Int)))) (hn : n ≤ 2147483647) (hq : 0 < q) (hl : q + n ≤ xs.length) :
    Calls Tryd.prog 75 #[v, .int .i64 p] w fun e w' => e = .returned (.tuple #[.string (textAt xs q n), .int .i64 ((q : Int) + n)]) ∧ w' = w := by
  have hr1 := fun w (h : RB w v xs) (he : w.cell? ⟨0, 0, none⟩ = some (.iface u pv)) => readNum_some v xs p n q u pv w h hb he hr.out
  have HR := hide hr1
  clear hr1
  have h' := h
  obtain ⟨hlen, ao, ca, rfl, ⟨hcap, hcm⟩, hc⟩ := h'
  unfold maxLen at hcm
  rcases hc with rfl | ⟨b, off, rfl, hc⟩
  · simp at hl; omega
  by_cases hcq : ca = q
  · obtain rfl : n = 0 := by omega
    have hcv := run_convert_bytes_arg (P := Tryd.prog) w 22 5 Tryd.underlying22 Tryd.underlying5 b off 0 0 [] rfl (fun i hi => by omega) 9 Tryd.underlying9
    clear hc
    subst hcq
    go_enter Tryd.func75, Tryd.ntmps75
    go_wp2_with fail
    refine (unhide HR _ h he).mono ?_
    rintro e w' ⟨rfl, rfl⟩
    go_wp2
    go_ret2
    exact ⟨by simp [textAt], rfl⟩
  · have hcv := run_convert_bytes_arg (P := Tryd.prog) w 22 5 Tryd.underlying22 Tryd.underlying5 b (off + q) n (ca - q) ((xs.drop q).take n) (win_len xs q n hl) (win_cells hc hl) 9 Tryd.underlying9
    clear hc
    go_enter Tryd.func75, Tryd.ntmps75
    go_wp2_with fail
    refine (unhide HR _ h he).mono ?_
    rintro e w' ⟨rfl, rfl⟩
    go_wp2
    go_ret2
    exact ⟨rfl, rfl⟩

set_option maxHeartbeats 800000 in
set_option maxRecDepth 100000 in
theorem readText_far (v : Value) (xs : List Int) (p : Int) (n q : Nat) (u : TypeId) (pv : Value) (w : World) (h : RB w v xs) (hb : Bytes xs) (he : w.cell? ⟨0, 0, none⟩ = some (.iface u pv)) (hr : Hid (getNum xs p = some ((n : Int), (q : Int)))) (hn : n ≤ 2147483647) (hq : q ≤ xs.length) (hl : xs.length < q + n) :
    Calls Tryd.prog 75 #[v, .int .i64 p] w fun e w' => e = .panicked [{ v := .iface u pv, recovered := false }] ∧ w' = w := by
  have hr1 := fun w (h : RB w v xs) (he : w.cell? ⟨0, 0, none⟩ = some (.iface u pv)) => readNum_some v xs p n q u pv w h hb he hr.out
  have HR := hide hr1
  clear hr1
  have h' := h
  obtain ⟨hlen, ao, ca, rfl, _, hc⟩ := h'
  clear hc
  go_enter Tryd.func75, Tryd.ntmps75
  go_wp2_with fail
  refine (unhide HR _ h he).mono ?_
  rintro e w' ⟨rfl, rfl⟩
  go_wp2
  exact ⟨rfl, rfl, rfl⟩

set_option maxHeartbeats 800000 in
set_option maxRecDepth 100000 in
theorem readText_none (v : Value) (xs : List Int) (p : Int) (u : TypeId) (pv : Value) (w : World) (h : RB w v xs) (hb : Bytes xs) (he : w.cell? ⟨0, 0, none⟩ = some (.iface u pv)) (hr : Hid (getNum xs p = none)) :
    Calls Tryd.prog 75 #[v, .int .i64 p] w fun e w' => e = .panicked [{ v := .iface u pv, recovered := false }] ∧ w' = w := by
  have hr1 := fun w (h : RB w v xs) (he : w.cell? ⟨0, 0, none⟩ = some (.iface u pv)) => readNum_none v xs p u pv w h hb he hr.out
  have HR := hide hr1
  clear hr1
  have h' := h
  obtain ⟨hlen, ao, ca, rfl, _, hc⟩ := h'
  clear hc
  go_enter Tryd.func75, Tryd.ntmps75
  go_wp2_with fail
  refine (unhide HR _ h he).mono ?_
  rintro e w' ⟨rfl, rfl⟩
  go_wp2
  exact ⟨rfl, rfl, rfl⟩

/-- What GetText reads: the text and the place behind it. -/
def getText (xs : List Int) (p : Int) : Option (ByteArray × Int) :=
  match getNum xs p with
  | some (n, q) => if n ≤ (xs.length : Int) - q then some (textAt xs q.toNat n.toNat, q + n) else none
  | none => none

theorem readText_yes (v : Value) (xs : List Int) (p : Int) (s : ByteArray) (r : Int) (u : TypeId) (pv : Value) (w : World) (h : RB w v xs) (hb : Bytes xs) (he : w.cell? ⟨0, 0, none⟩ = some (.iface u pv)) (hr : getText xs p = some (s, r)) :
    Calls Tryd.prog 75 #[v, .int .i64 p] w fun e w' => e = .returned (.tuple #[.string s, .int .i64 r]) ∧ w' = w := by
  unfold getText at hr
  cases hg : getNum xs p with
  | none => rw [hg] at hr; cases hr
  | some x =>
    obtain ⟨n, q⟩ := x
    have bd := getNum_bd xs hb p n q hg
    rw [hg] at hr
    by_cases hl : n ≤ (xs.length : Int) - q
    · simp only [if_pos hl, Option.some.injEq, Prod.mk.injEq] at hr
      obtain ⟨rfl, rfl⟩ := hr
      obtain ⟨n, rfl⟩ := Int.eq_ofNat_of_zero_le bd.1
      obtain ⟨q, rfl⟩ := Int.eq_ofNat_of_zero_le (show 0 ≤ q by omega)
      exact readText_some v xs p n q u pv w h hb he hg (by omega) (by omega) (by omega)
    · simp [if_neg hl] at hr
theorem readText_no (v : Value) (xs : List Int) (p : Int) (u : TypeId) (pv : Value) (w : World) (h : RB w v xs) (hb : Bytes xs) (he : w.cell? ⟨0, 0, none⟩ = some (.iface u pv)) (hr : getText xs p = none) :
    Calls Tryd.prog 75 #[v, .int .i64 p] w fun e w' => e = .panicked [{ v := .iface u pv, recovered := false }] ∧ w' = w := by
  unfold getText at hr
  cases hg : getNum xs p with
  | none => exact readText_none v xs p u pv w h hb he hg
  | some x =>
    obtain ⟨n, q⟩ := x
    have bd := getNum_bd xs hb p n q hg
    rw [hg] at hr
    by_cases hl : n ≤ (xs.length : Int) - q
    · simp [if_pos hl] at hr
    · obtain ⟨n, rfl⟩ := Int.eq_ofNat_of_zero_le bd.1
      obtain ⟨q, rfl⟩ := Int.eq_ofNat_of_zero_le (show 0 ≤ q by omega)
      exact readText_far v xs p n q u pv w h hb he hg (by omega) (by omega) (by omega)
end Go.Proofs.YtnbiphlificliaaDoor
