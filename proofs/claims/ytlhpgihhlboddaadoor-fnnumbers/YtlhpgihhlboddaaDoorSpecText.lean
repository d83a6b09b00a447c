/- spec.GetText: what it answers. -/
import Derived.Test.YtlhpgihhlboddaaDoorGetText
import Derived.Test.YtlhpgihhlboddaaDoorSpecGet
namespace Go.Proofs.YtlhpgihhlboddaaDoor
open Go.RowKit

theorem specGet_ans (v : Value) (xs : List Int) (p : Int) (w : World) (h : RB w v xs) (hb : Bytes xs) :
    Calls Tryd.prog 20 #[v, .int .i64 p] w fun e w' => e = .returned (.tuple #[.int .i64 (ans1 (getNum xs p)), .int .i64 (ans2 (getNum xs p)), .bool (getNum xs p).isSome]) ∧ w' = w := by
  refine (specGet_any v xs p w h hb).mono ?_
  rintro e w' ⟨h1, rfl⟩
  rcases h1 with ⟨n, q, h2, rfl⟩ | ⟨h2, rfl⟩ <;> exact ⟨by rw [h2]; rfl, rfl⟩
theorem specGet_some (v : Value) (xs : List Int) (p n q : Int) (w : World) (h : RB w v xs) (hb : Bytes xs) (hr : getNum xs p = some (n, q)) :
    Calls Tryd.prog 20 #[v, .int .i64 p] w fun e w' => e = .returned (.tuple #[.int .i64 n, .int .i64 q, .bool true]) ∧ w' = w := by
  have := specGet_ans v xs p w h hb; rw [hr] at this; exact this
theorem specGet_none (v : Value) (xs : List Int) (p : Int) (w : World) (h : RB w v xs) (hb : Bytes xs) (hr : getNum xs p = none) :
    Calls Tryd.prog 20 #[v, .int .i64 p] w fun e w' => e = .returned (.tuple #[.int .i64 0, .int .i64 0, .bool false]) ∧ w' = w := by
  have := specGet_ans v xs p w h hb; rw [hr] at this; exact this

set_option maxHeartbeats 800000 in
set_option maxRecDepth 100000 in
theorem specText_some (v : Value) (xs : List Int) (p : Int) (n q : Nat) (w : World) (h : RB w v xs) (hb : Bytes xs) (hr : Hid (getNum xs p = some ((n : Int), (q : Int)))) (hn : n ≤ 2147483647) (hq : 0 < q) (hl : q + n ≤ xs.length) :
    Calls Tryd.prog 22 #[v, .int .i64 p] w fun e w' => e = .returned (.tuple #[.string (textAt xs q n), .int .i64 ((q : Int) + n), .bool true]) ∧ w' = w := by
  have hr1 := fun w (h : RB w v xs) => specGet_some v xs p n q w h hb hr.out
  have HR := hide hr1
  clear hr1
  have h' := h
  obtain ⟨hlen, ao, ca, rfl, ⟨hcap, hcm⟩, hc⟩ := h'
  unfold maxLen at hcm
  rcases hc with rfl | ⟨b, off, rfl, hc⟩
  · simp at hl; omega
  have hd : decide ((xs.length : Int) - (q : Int) < (n : Int)) = false := by simp; omega
  by_cases hcq : ca = q
  · obtain rfl : n = 0 := by omega
    have hcv := run_convert_bytes_arg (P := Tryd.prog) w 22 5 Tryd.underlying22 Tryd.underlying5 b off 0 0 [] rfl (fun i hi => by omega) 9 Tryd.underlying9
    clear hc
    subst hcq
    go_enter Tryd.func22, Tryd.ntmps22
    go_wp2_with fail
    refine (unhide HR _ h).mono ?_
    rintro e w' ⟨rfl, rfl⟩
    go_wp2
    go_ret3
    exact ⟨by simp [textAt], rfl⟩
  · have hcv := run_convert_bytes_arg (P := Tryd.prog) w 22 5 Tryd.underlying22 Tryd.underlying5 b (off + q) n (ca - q) ((xs.drop q).take n) (win_len xs q n hl) (win_cells hc hl) 9 Tryd.underlying9
    clear hc
    go_enter Tryd.func22, Tryd.ntmps22
    go_wp2_with fail
    refine (unhide HR _ h).mono ?_
    rintro e w' ⟨rfl, rfl⟩
    go_wp2
    go_ret3
    exact ⟨rfl, rfl⟩

set_option maxHeartbeats 800000 in
set_option maxRecDepth 100000 in
theorem specText_far (v : Value) (xs : List Int) (p : Int) (n q : Nat) (w : World) (h : RB w v xs) (hb : Bytes xs) (hr : Hid (getNum xs p = some ((n : Int), (q : Int)))) (hn : n ≤ 2147483647) (hq : q ≤ xs.length) (hl : xs.length < q + n) :
    Calls Tryd.prog 22 #[v, .int .i64 p] w fun e w' => e = .returned (.tuple #[.string ⟨#[]⟩, .int .i64 0, .bool false]) ∧ w' = w := by
  have hr1 := fun w (h : RB w v xs) => specGet_some v xs p n q w h hb hr.out
  have HR := hide hr1
  clear hr1
  have h' := h
  obtain ⟨hlen, ao, ca, rfl, _, hc⟩ := h'
  clear hc
  have hd : decide ((xs.length : Int) - (q : Int) < (n : Int)) = true := by simp; omega
  go_enter Tryd.func22, Tryd.ntmps22
  go_wp2_with fail
  refine (unhide HR _ h).mono ?_
  rintro e w' ⟨rfl, rfl⟩
  go_wp2
  go_ret3
  exact ⟨rfl, rfl⟩

set_option maxHeartbeats 800000 in
set_option maxRecDepth 100000 in
theorem specText_none (v : Value) (xs : List Int) (p : Int) (w : World) (h : RB w v xs) (hb : Bytes xs) (hr : Hid (getNum xs p = none)) :
    Calls Tryd.prog 22 #[v, .int .i64 p] w fun e w' => e = .returned (.tuple #[.string ⟨#[]⟩, .int .i64 0, .bool false]) ∧ w' = w := by
  have hr1 := fun w (h : RB w v xs) => specGet_none v xs p w h hb hr.out
  have HR := hide hr1
  clear hr1
  have h' := h
  obtain ⟨hlen, ao, ca, rfl, _, hc⟩ := h'
  clear hc
  go_enter Tryd.func22, Tryd.ntmps22
  go_wp2_with fail
  refine (unhide HR _ h).mono ?_
  rintro e w' ⟨rfl, rfl⟩
  go_wp2
  go_ret3
  exact ⟨rfl, rfl⟩

theorem specText_any (v : Value) (xs : List Int) (p : Int) (w : World) (h : RB w v xs) (hb : Bytes xs) :
    Calls Tryd.prog 22 #[v, .int .i64 p] w fun e w' => e = .returned (.tuple #[.string (tans1 (getText xs p)), .int .i64 (tans2 (getText xs p)), .bool (getText xs p).isSome]) ∧ w' = w := by
  unfold getText
  cases hg : getNum xs p with
  | none => exact specText_none v xs p w h hb hg
  | some x =>
    obtain ⟨n, q⟩ := x
    have bd := getNum_bd xs hb p n q hg
    obtain ⟨n, rfl⟩ := Int.eq_ofNat_of_zero_le bd.1
    obtain ⟨q, rfl⟩ := Int.eq_ofNat_of_zero_le (show 0 ≤ q by omega)
    by_cases hl : (n : Int) ≤ (xs.length : Int) - (q : Int)
    · simp only [if_pos hl]
      exact specText_some v xs p n q w h hb hg (by omega) (by omega) (by omega)
    · simp only [if_neg hl]
      exact specText_far v xs p n q w h hb hg (by omega) (by omega) (by omega)
end Go.Proofs.YtlhpgihhlboddaaDoor
