/- What spec.PutNum and impl.PutNum answer: one and the same list of bytes, in memory of its own. -/
import Derived.Test.YtkjpjgecongkpaaIn
import Derived.Test.YtkjpjgecongkpaaPlain
namespace Go.Proofs.Ytkjpjgecongkpaa
open Go.RowKit

/-- One byte more behind what is owned. -/
theorem own_more {B : Nat} {w wr w1 : World} {v v' : Value} {o : Obj} {xs : List Int} {c : Int} (hB : B ≤ wr.heap.size) (ho : wr.ownsRow B 5 1 v xs.length (xs.map (Value.int .u8))) (hb : Below B w wr)
    (ho' : w1.ownsRow B 5 1 v' (xs.length + 1) (xs.map (Value.int .u8) ++ [.int .u8 c])) (hg : (wr.alloc o).grownBy w1 v.ownBlock) :
    w1.ownsRow B 5 1 v' (xs ++ [c]).length ((xs ++ [c]).map (Value.int .u8)) ∧ Below B w w1 :=
  ⟨by simpa using ho', (hb.alloc hB o).grown hg (by simp; omega) (fun j hj => (ho.lt j hj).1)⟩

set_option maxHeartbeats 1600000 in
set_option maxRecDepth 100000 in
theorem specPut_yes (n : Nat) (w : World) (hn : n ≤ 2147483647) :
    Calls Try.prog 49 #[.int .i64 n] w fun e w' => ∃ v, e = .returned v ∧ w'.ownsRow w.heap.size 5 1 v (put 4 n).length ((put 4 n).map (Value.int .u8)) ∧ Below w.heap.size w w' := by
  obtain ⟨i0, hi, hz0, hz1, hz2⟩ := info_parts Try.info5
  go_enter Try.func49, Try.ntmps49
  go_wp2_with (first | (go_at_call 40; refine (in_yes _ _ _ _ (by omega) (by omega)).mono ?_; rintro e w' ⟨rfl, rfl⟩))
  go_loopw [0, 3] (fun x v wr => ∃ (f m : Nat) (done : List Int), m ≤ 2147483647 ∧ x = .int .i64 m ∧ At n f m done ∧ wr.ownsRow w.heap.size 5 1 v done.length (done.map (Value.int .u8)) ∧ Below w.heap.size w wr) (fun x _ _ => (intOf x).toNat)
  case atStart => exact ⟨4, n, [], hn, rfl, at_start n hn, World.ownsRow_lit w #[] 0 (Nat.le_refl _) (by unfold maxLen; omega) rfl, (Below.refl _ _).alloc (Nat.le_refl _) _⟩
  case round =>
    obtain ⟨f, m, done, hm, rfl, hat, ho, hb⟩ := hrel
    have hsz := hb.size
    have hdl : done.length ≤ 4 := by have := hat.2.2; omega
    by_cases hlt : 127 < m
    · obtain ⟨f', rfl, hat'⟩ := at_step hat hlt
      have HA : Hid (At n f' (m / 128) (done ++ [(m : Int) % 128 + 128])) := hat'
      clear hat hat'
      go_wp2_with (first
        | (at_builtin; refine wpList_append_own _ rfl _ _ 22 rfl w.heap.size 5 i0 (.int .u8 0) 1 1 Try.underlying22 hi hz0 hz1 hz2 rfl (by decide) _ _ _ rfl (ho.alloc _) ⟨wr.heap.size, 0, none⟩ 1 1 [.int .u8 ((m : Int) % 128 + 128)] rfl rfl (one_cell _ _ _) (one_plain _ _) (by unfold maxLen; omega) (by omega) (by simp; omega) ?_; intro v' w1 ho' hg' _; have R := own_more hsz ho hb ho' hg'; clear ho ho' hg' hb))
      go_roundw
      case rel => exact ⟨f', m / 128, _, by omega, by go_num, HA.out, R.1, R.2⟩
      case measure => simp [intOf]; omega
    · have HE : Hid (done ++ [(m : Int)] = put 4 n) := at_end hat (by omega)
      clear hat
      go_wp2_with (first
        | (at_builtin; refine wpList_append_own _ rfl _ _ 22 rfl w.heap.size 5 i0 (.int .u8 0) 1 1 Try.underlying22 hi hz0 hz1 hz2 rfl (by decide) _ _ _ rfl (ho.alloc _) ⟨wr.heap.size, 0, none⟩ 1 1 [.int .u8 (m : Int)] rfl rfl (one_cell _ _ _) (one_plain _ _) (by unfold maxLen; omega) (by omega) (by simp; omega) ?_; intro v' w1 ho' hg' _; have R := own_more hsz ho hb ho' hg'; clear ho ho' hg' hb))
      go_ret
      rw [HE.out] at R
      exact ⟨_, rfl, R.1, R.2⟩

set_option maxHeartbeats 800000 in
set_option maxRecDepth 100000 in
theorem specPut_no (n : Int) (w : World) (hn : n < 0 ∨ 2147483647 < n) :
    Calls Try.prog 49 #[.int .i64 n] w fun e w' => ∃ v, e = .returned v ∧ w'.ownsRow w.heap.size 5 1 v 0 [] ∧ Below w.heap.size w w' := by
  go_enter Try.func49, Try.ntmps49
  go_wp2_with (first | (go_at_call 40; refine (in_no _ _ _ _ (by omega)).mono ?_; rintro e w' ⟨rfl, rfl⟩))
  go_ret
  exact ⟨_, rfl, World.ownsRow_lit w #[] 0 (Nat.le_refl _) (by unfold maxLen; omega) rfl, (Below.refl _ _).alloc (Nat.le_refl _) _⟩

/-- Whatever the number: both answer its bytes. -/
theorem specPut (n : Int) (w : World) :
    Calls Try.prog 49 #[.int .i64 n] w fun e w' => ∃ v, e = .returned v ∧ w'.ownsRow w.heap.size 5 1 v (putAns n).length ((putAns n).map (Value.int .u8)) ∧ Below w.heap.size w w' := by
  by_cases h : 0 ≤ n ∧ n ≤ 2147483647
  · obtain ⟨m, rfl⟩ := Int.eq_ofNat_of_zero_le h.1
    rw [putAns_yes m (by omega)]; exact specPut_yes m w (by omega)
  · rw [putAns_no n (by omega)]; exact specPut_no n w (by omega)
end Go.Proofs.Ytkjpjgecongkpaa
