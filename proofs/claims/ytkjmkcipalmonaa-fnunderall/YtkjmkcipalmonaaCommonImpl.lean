/- impl.Common. -/
import Derived.Test.YtkjmkcipalmonaaPlacesOf
import Derived.Test.YtkjmkcipalmonaaLoc
import Derived.Test.YtkjmkcipalmonaaSpecSets2
namespace Go.Proofs.Ytkjmkcipalmonaa
open Go.RowKit
set_option linter.unusedSectionVars false
variable [∀ (n : Int) (s : List Int), Decidable (OkL n s)]

set_option maxHeartbeats 4000000 in
set_option maxRecDepth 100000 in
theorem implCommon (va vb : Value) (xs ys : List Int) (w : World) (ha : RI w va xs) (hb : RI w vb ys) (wa : WfL xs) (wb : WfL ys) :
    Calls Try.prog 36 #[va, vb] w fun e w' => e = .returned (.int .i64 (comL xs ys : Int)) ∧ Below w.heap.size w w' := by
  have hla := ha.1
  have hlb := hb.1
  obtain ⟨aa, ca, rfl⟩ := ha.form
  obtain ⟨ab, cb, rfl⟩ := hb.form
  obtain ⟨w0, hw0⟩ : ∃ w0, w.alloc (.cells #[.slice aa xs.length ca] 28) = w0 := ⟨_, rfl⟩
  have B0 : Below w.heap.size w w0 := hw0 ▸ (Below.refl _ _).alloc (Nat.le_refl _) _
  have L0 : Loc w0 w.heap.size #[.slice aa xs.length ca] := hw0 ▸ loc_at w _ _ rfl
  have PL := hide (placesOf_any w.heap.size 1 (fun _ => .slice aa xs.length ca) (fun _ => xs) w0
    (fun k hk => by
      obtain rfl : k = 0 := by omega
      exact L0.cell 0 rfl)
    (fun k hk => ha.below B0 (Nat.le_refl _)) (fun k hk => wa) (by omega) (by simp [catL]; omega))
  have EC : catL (fun _ => xs) 1 = xs := by simp [catL]
  rw [EC] at PL
  have HB := hide hb
  have HW := hide wb
  have HLN : Hid ((xs.length : Int) - ((loneL xs ys).length : Int) = (comL xs ys : Int)) := hide (lone_len xs ys)
  have hll : (loneL xs ys).length ≤ xs.length := by unfold loneL; exact List.length_filter_le _ _
  clear ha hb wa wb EC L0
  generalize comL xs ys = cm at *
  obtain ⟨m, hm⟩ : ∃ m, ys.length = m := ⟨_, rfl⟩
  have Hm := hide hm
  rw [hm] at HB hlb ⊢
  clear hm
  go_enter Try.func36, Try.ntmps36
  go_wp2_with fail
  refine (unhide PL).mono ?_
  rintro _ w1 ⟨rfl, M1, b1⟩
  clear hw0 PL
  have B1 := B0.trans (b1.mono B0.size)
  obtain ⟨mb, hmb⟩ : ∃ mb, w0.heap.size = mb := ⟨_, rfl⟩
  have hml : w.heap.size ≤ mb := by rw [← hmb]; exact B0.size
  rw [hmb] at M1 ⊢
  clear hmb b1 B0
  have M1' : ∃ D, w1.ownsMap Try.prog 3 (plainElem (H := Unit) Try.prog 3) mb xs.length D ∧ Counts D (loneL xs (ys.take 0)) := by rw [List.take_zero, lone_nil]; exact M1
  clear M1
  go_wp2
  go_loopw [16] (fun j wr => ∃ k : Nat, k ≤ m ∧ j = .int .i64 k ∧ (∃ D, wr.ownsMap Try.prog 3 (plainElem (H := Unit) Try.prog 3) mb xs.length D ∧ Counts D (loneL xs (ys.take k))) ∧ Below w.heap.size w wr) (fun j _ => m - (intOf j).toNat)
  case atStart => exact ⟨0, Nat.zero_le _, rfl, M1', B1⟩
  case round =>
    clear M1' B1
    obtain ⟨k, hk, rfl, ⟨D, hown, hcnt⟩, br⟩ := hrel
    have CN := hide hcnt
    clear hcnt
    by_cases hlt : k < m
    · have hkx : k < ys.length := by have := unhide Hm; omega
      obtain ⟨b, off, rfl, c⟩ := ((unhide HB).below br (Nat.le_refl _)).at k hkx
      have hkey : keyOf Try.prog 3 (.int .i64 (ys.getD k 0)) = some (.int .i64 (ys.getD k 0)) := Maps.keyOf_int_mk Try.underlying3 ((unhide HW).at k hkx)
      have HT := hide (show loneL xs (ys.take (k + 1)) = (loneL xs (ys.take k)).filter (fun y => decide (y ≠ ys.getD k 0)) by rw [itake_more ys k hkx, lone_snoc])
      generalize ys.getD k 0 = x at *
      go_wp2_with (first
        | (at_delete; refine wpList_delete_own _ rfl _ _ 54 3 rfl 3 klaw Try.underlying54 _ mb xs.length D rfl hown _ _ rfl hkey ?_; intro w2 hown2 hturn2)
        | go_in)
      have BQ := br.grown hturn2.grown br.size (fun j hj => by cases hj; exact hml)
      have M2 : ∃ D, w2.ownsMap Try.prog 3 (plainElem (H := Unit) Try.prog 3) mb xs.length D ∧ Counts D (loneL xs (ys.take (k + 1))) := ⟨_, hown2, by rw [unhide HT]; exact (unhide CN).del x⟩
      clear hown hown2 hturn2 CN
      go_roundw
      case rel => exact ⟨k + 1, by omega, by go_num, M2, BQ⟩
      case measure => simp [intOf]; omega
    · have hkn : k = ys.length := by have := unhide Hm; omega
      have CM : Hid (Counts D (loneL xs ys)) := hide (by have := unhide CN; rw [hkn, List.take_length] at this; exact this)
      have hd2 : decide ((k : Int) < (m : Int)) = false := by simp; omega
      clear hkn CN
      generalize loneL xs ys = ls at *
      go_wp2_with (first
        | (at_range; refine wpList_range_own _ rfl _ 54 rfl 3 3 klaw Try.underlying54 _ mb xs.length D rfl hown ?_; intro w2 hrg0 hg0 hs0)
        | go_in)
      go_frame
      have BQ := br.grown hg0 br.size (fun j hj => by cases hj)
      have hsz0 := br.size
      go_loopw [8] (fun v wr2 => ∃ (left : Lit → Bool) (cnt : Nat), wr2.ranges Try.prog 3 (plainElem Try.prog 3) mb wr.heap.size xs.length D left cnt ∧ v = .int .i64 ((xs.length : Int) - (cameL ls left : Int)) ∧ Below w.heap.size w wr2) (fun _ wr2 => wr2.rangeLeft mb wr.heap.size)
      case atStart => exact ⟨_, _, hrg0, by rw [came_start (unhide CM)]; simp, BQ⟩
      case round =>
        clear hrg0 hg0 hs0 BQ br hown
        obtain ⟨left, cnt, hrg, rfl, bq⟩ := hrel
        have hcl := came_le ls left
        go_wp2_with (first
          | (at_next; refine wpList_next_ranges_ii _ rfl _ rfl 3 3 .i64 .i64 klaw Try.underlying3 Try.underlying3 mb _ xs.length _ _ _ rfl hrg ?_ ?_)
          | go_in)
        · intro hc0 hl0
          have he := came_end ls left hl0
          rw [he]
          have HE := unhide HLN
          clear hrg hl0 he
          go_wp2
          go_ret
          exact ⟨by rw [← HE]; rfl, bq⟩
        · intro x c w3 cnt3 hwx hwc hlk hat hrg3 hlt3 hg3 hs3 hen
          have hcc := (unhide CM).count hat
          have hce := came_step ls left x hlk
          have hcl3 := came_le ls (fun z => left z && !z.sameKey (kl x))
          have HV : Hid ((xs.length : Int) - (cameL ls (fun z => left z && !z.sameKey (kl x)) : Int) = (xs.length : Int) - (cameL ls left : Int) - c) := hide (by rw [hce, hcc]; omega)
          have hwr : wrap64 ((xs.length : Int) - (cameL ls left : Int) - c) = (xs.length : Int) - (cameL ls left : Int) - c := by unfold wrap64; rw [hcc]; omega
          have BQ := bq.grown hg3 bq.size (fun j hj => by cases hj; exact hsz0)
          clear hs3 hcc hce hcl3
          go_wp2
          go_roundw
          case rel => exact ⟨_, cnt3, hrg3, by rw [unhide HV]; first | rfl | (rw [hwr]) | (congr 1), BQ⟩
          case measure => rw [hrg3.left_eq, hrg.left_eq]; exact hlt3
end Go.Proofs.Ytkjmkcipalmonaa
