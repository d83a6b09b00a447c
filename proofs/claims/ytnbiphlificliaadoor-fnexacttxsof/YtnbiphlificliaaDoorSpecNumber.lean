/- spec.Number: what it answers. -/
import Derived.Test.YtnbiphlificliaaDoorSpecDigits
import Derived.Test.YtnbiphlificliaaDoorNumPlain
namespace Go.Proofs.YtnbiphlificliaaDoor
open Go.RowKit
set_option linter.unusedSectionVars false

theorem take_snoc (s : ByteArray) (k : Nat) (h : k < s.size) : s.data.toList.take (k + 1) = s.data.toList.take k ++ [s[k]] := by
  rw [List.take_succ_eq_append_getElem (by simpa using h)]; rfl
theorem byte_get (s : ByteArray) (k : Nat) (h : k < s.size) : s.data.toList[k]? = some s[k] := by
  rw [List.getElem?_eq_getElem (by simpa using h)]; rfl
theorem dec_step (s : ByteArray) (k n : Nat) (h : k < s.size) (hd : Lib.decFrom 0 (s.data.toList.take k) = some n) (h1 : 48 ≤ s[k].toNat) (h2 : s[k].toNat ≤ 57) :
    Lib.decFrom 0 (s.data.toList.take (k + 1)) = some (n * 10 + (s[k].toNat - 48)) :=
  Lib.decFrom_take s.data.toList k 0 n s[k] _ hd (byte_get s k h) (by rw [Lib.digitVal, if_pos ⟨h1, h2⟩])
theorem len_data (s : ByteArray) : s.data.toList.length = s.size := by simp

theorem str_ne {t s : ByteArray} (h : t ≠ s) : (t.toList == s.toList) = false := by
  rw [beq_eq_false_iff_ne]
  intro e
  rw [ByteArray.toList_eq, ByteArray.toList_eq] at e
  exact h (ByteArray.ext (Array.toList_inj.1 e))

set_option maxHeartbeats 400000 in
set_option maxRecDepth 100000 in
theorem specNumber_len (s : ByteArray) (w : World) (hm : s.size ≤ maxLen) (h : s.size < 1 ∨ 6 < s.size) :
    Calls Tryd.prog 33 #[.string s] w fun e w' => e = .returned (.tuple #[.int .i64 0, .bool false]) ∧ w' = w := by
  unfold maxLen at hm
  by_cases h1 : s.size < 1
  · clear h
    go_enter Tryd.func33, Tryd.ntmps33
    go_wp2
    go_ret2
    exact ⟨rfl, rfl⟩
  · have hd : decide ((s.size : Int) < 1) = false := by simp; omega
    have h2 : 6 < s.size := by omega
    clear h
    go_enter Tryd.func33, Tryd.ntmps33
    go_wp2
    go_ret2
    exact ⟨rfl, rfl⟩

set_option maxHeartbeats 1600000 in
set_option maxRecDepth 100000 in
theorem specNumber_six (s : ByteArray) (w : World) (h1 : 1 ≤ s.size) (h6 : s.size ≤ 6) :
    Calls Tryd.prog 33 #[.string s] w fun e w' => e = .returned (.tuple #[.int .i64 (nans (numOf s.data.toList)), .bool (numOf s.data.toList).isSome]) ∧ Below w.heap.size w w' := by
  have hd : decide ((s.size : Int) < 1) = false := by simp; omega
  go_enter Tryd.func33, Tryd.ntmps33
  go_wp2
  go_loop [4, 5] (fun y i => ∃ k n : Nat, k ≤ s.size ∧ y = .int .i64 n ∧ i = .int .i64 k ∧ n < 10 ^ k ∧ Hid (Lib.decFrom 0 (s.data.toList.take k) = some n)) (fun _ i => s.size - (intOf i).toNat)
  case atStart => exact ⟨0, 0, by omega, rfl, rfl, by simp, rfl⟩
  case round =>
    obtain ⟨k, n, hk, rfl, rfl, hn, HD⟩ := hrel
    have hn6 : n ≤ 999999 := by
      have : 10 ^ k ≤ 10 ^ 6 := Nat.pow_le_pow_right (by omega) (by omega)
      omega
    by_cases hlt : k < s.size
    · by_cases hb : 48 ≤ s[k].toNat ∧ s[k].toNat ≤ 57
      · have HS := hide (dec_step s k n hlt HD.out hb.1 hb.2)
        have hb1 := hb.1
        have hb2 := hb.2
        have hpow : n * 10 + (s[k].toNat - 48) < 10 ^ (k + 1) := by rw [Nat.pow_succ]; omega
        clear hb
        go_wp2
        go_round
        case rel => exact ⟨k + 1, n * 10 + (s[k].toNat - 48), by omega, by go_num, by go_num, hpow, HS⟩
        case measure => simp [intOf]; omega
      · have HN := hide (numOf_none_byte (byte_get s k hlt) (by omega))
        by_cases hb1 : s[k].toNat < 48
        · clear hb
          go_wp2
          go_ret2
          exact ⟨by rw [unhide HN]; rfl, Below.refl _ _⟩
        · have hb2 : 57 < s[k].toNat := by omega
          clear hb
          go_wp2
          go_ret2
          exact ⟨by rw [unhide HN]; rfl, Below.refl _ _⟩
    · have hks : k = s.size := by omega
      have HD' : Hid (Lib.decFrom 0 s.data.toList = some n) := by
        have := HD.out; rw [hks, List.take_of_length_le (by rw [len_data]; omega)] at this; exact this
      clear HD
      by_cases he : Lib.decDigits n = s.data.toList
      · have HY := hide (numOf_yes HD'.out hn6 he)
        have hs : (⟨(Lib.itoa (n : Int)).toArray⟩ : ByteArray) = s := by rw [itoa_nat, he]
        have HC := hide fun w => specDigits_any (n : Int) w (by omega) (by omega)
        rw [hs] at HC
        clear hs he
        go_wp2_with fail
        refine (unhide HC _).mono ?_
        rintro e w1 ⟨rfl, b1⟩
        go_wp2
        go_ret2
        exact ⟨by rw [unhide HY]; rfl, b1⟩
      · have HN := hide (numOf_no HD'.out he)
        have HC := hide fun w => specDigits_any (n : Int) w (by omega) (by omega)
        obtain ⟨t, ht⟩ : ∃ t : ByteArray, t = ⟨(Lib.itoa (n : Int)).toArray⟩ := ⟨_, rfl⟩
        rw [← ht] at HC
        have hne : t ≠ s := by intro e; rw [ht, itoa_nat] at e; apply he; rw [← e]
        have hne' := str_ne hne
        clear ht he
        go_wp2_with fail
        refine (unhide HC _).mono ?_
        rintro e w1 ⟨rfl, b1⟩
        go_wp2
        go_ret2
        exact ⟨by rw [unhide HN]; rfl, b1⟩

theorem specNumber_any (s : ByteArray) (w : World) (hm : s.size ≤ maxLen) :
    Calls Tryd.prog 33 #[.string s] w fun e w' => e = .returned (.tuple #[.int .i64 (nans (numOf s.data.toList)), .bool (numOf s.data.toList).isSome]) ∧ Below w.heap.size w w' := by
  by_cases h : s.size < 1 ∨ 6 < s.size
  · refine (specNumber_len s w hm h).mono ?_
    rintro e w' ⟨rfl, rfl⟩
    exact ⟨by rw [numOf_none_len (by rw [len_data]; exact h)]; rfl, Below.refl _ _⟩
  · exact specNumber_six s w (by omega) (by omega)
end Go.Proofs.YtnbiphlificliaaDoor
