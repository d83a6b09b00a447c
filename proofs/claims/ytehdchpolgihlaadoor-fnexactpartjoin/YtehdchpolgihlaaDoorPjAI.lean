/- Texts that belong together: Told, CommonImpl, SetJoinImpl. -/
import Derived.Test.YtehdchpolgihlaaDoorPjAH
import Derived.Test.YtehdchpolgihlaaDoorShelfSort
import Derived.Sort.OwnSortedInts
import Derived.Test.YtehdchpolgihlaaDoorPjAA
import Derived.Test.YtehdchpolgihlaaDoorPjAG
/- (impl.places).told. -/
namespace Go.Proofs.YtehdchpolgihlaaDoor
open Go.RowKit

set_option maxHeartbeats 4000000 in
set_option maxRecDepth 100000 in
theorem told_any (b : Nat) (xs ys : List Int) (w : World) (h : MC w b (xs ++ ys)) (hl : (xs ++ ys).length ≤ 8388608) :
    Calls Tryd.prog 53 #[.map (some b)] w fun e w' => ∃ u, e = .returned u ∧ OI w' w.heap.size u (joinL xs ys) ∧ Below w.heap.size w w' := by
  obtain ⟨i0, hi, hz0, hz1, hz2⟩ := info_parts Tryd.info3
  obtain ⟨D, hown, hcnt⟩ := h
  have hbl : b < w.heap.size := hown.lt
  have CN := hide hcnt
  have hsz : Maps.size D ≤ 8388608 := Nat.le_trans hown.size_le hl
  have SO := hide fun blk off cap (zs : List Int) (w : World) h1 h2 h3 => Tryd.slices_Sort_int blk off cap zs w h1 h2 h3
  clear hcnt
  generalize (xs ++ ys).length = nn at *
  go_enter Tryd.func53, Tryd.ntmps53
  go_wp2_with (first
    | (at_len; refine wpList_len_own _ rfl _ 83 rfl 3 3 Tryd.underlying83 _ b nn D rfl hown ?_)
    | (at_make; refine wpList_make_own _ rfl _ _ 24 rfl w.heap.size 3 i0 (.int .i64 0) 1 Tryd.underlying24 hi hz0 hz1 _ _ _ (Maps.size D) rfl rfl rfl (by rw [hz2]; omega) (by unfold maxLen; omega) (Nat.le_refl _) ?_; intro w1 hrow1 hg1)
    | (at_range; refine wpList_range_own _ rfl _ 83 rfl 3 3 klaw Tryd.underlying83 _ b nn _ rfl (hown.kept hg1 (by simp)) ?_; intro w0 hrg0 hg0 hs0)
    | go_in)
  go_frame
  go_loopw [3] (fun v wr => ∃ (left : Lit → Bool) (cnt : Nat) (ss : List Int), wr.ranges Tryd.prog 3 (plainElem Tryd.prog 3) b w1.heap.size nn D left cnt ∧ ss.length + cnt ≤ Maps.size D ∧
      wr.ownsRow w.heap.size 3 1 v ss.length (ss.map (Value.int .i64)) ∧ v ≠ .slice none 0 0 ∧ Hid (Coll D left ss) ∧ Below w.heap.size w wr)
    (fun _ wr => wr.rangeLeft b w1.heap.size)
  case atStart =>
    exact ⟨_, _, [], hrg0, by simp, hrow1.kept hg0 (Or.inr (by simp [Value.ownBlock])), by simp, hide (Coll.start D),
      ((Below.refl _ _).grown hg1 (Nat.le_refl _) (fun j hj => by cases hj)).grown hg0 hg1.size (fun j hj => by cases hj)⟩
  case round =>
    have hg1s := hg1.size
    clear hrg0 hg0 hs0 hrow1 hg1 hown
    obtain ⟨left, cnt, ss, hrg, hcs, hrow, hnn, hC, hnx⟩ := hrel
    go_wp2_with (first
      | (at_next; refine wpList_next_ranges_ii _ rfl _ rfl 3 3 .i64 .i64 klaw Tryd.underlying3 Tryd.underlying3 b w1.heap.size nn _ _ _ rfl hrg ?_ ?_)
      | go_in)
    · intro hc0 hl0
      rcases hrow.2 with ⟨hnil, _⟩ | ⟨g, cap, cur, rfl, hbase, hb, h1, h2, h3, h4⟩
      · exact absurd hnil hnn
      have hH : Sort.Holds (Value.int .i64) wr g 0 ss.toArray := holds_of_blockI hb (by simpa using h4)
      have hgl : g < wr.heap.size := (Array.getElem?_eq_some_iff.1 hb).1
      have hc := unhide SO g 0 cap ss wr hH hgl (by omega)
      have HJ := hide ((unhide hC).joined (unhide CN) hl0)
      have O1 : ∀ n os, OI (Go.Sort.grow (Go.Sort.putRow (Value.int .i64) (Sort.ahead wr n) g 0 (ss.mergeSort fun x y => decide (x ≤ y)).toArray) os) w.heap.size (.slice (some ⟨g, 0, none⟩) ss.length cap) (joinL xs ys) := fun n os => by
        have := ownsRow_sortedI (n := n) (os := os) (ts := ss.mergeSort fun x y => decide (x ≤ y)) (by simp) hbase hb h1 h2 h3
        have e : (joinL xs ys).length = ss.length := by rw [← unhide HJ]; simp
        unfold OI
        rw [e, ← unhide HJ]
        exact this
      have B1 : ∀ n os, Below w.heap.size w (Go.Sort.grow (Go.Sort.putRow (Value.int .i64) (Sort.ahead wr n) g 0 (ss.mergeSort fun x y => decide (x ≤ y)).toArray) os) := fun n os => hnx.grown (grownBy_sortedI _) hnx.size (fun j hj => by cases hj; exact hbase)
      have HO1 := hide O1
      have HB1 := hide B1
      clear O1 B1 hb h1 h2 h3 h4 hrow hrg hl0 hC
      go_wp2_with (go_at_call 58; refine hc.mono ?_; rintro e w' ⟨rfl, nq, os, rfl⟩)
      go_ret
      exact ⟨_, rfl, unhide HO1 _ _, unhide HB1 _ _⟩
    · intro x c w2 cnt2 hwx hwc hlk hat hrg2 hlt hg2 hs2 hen
      have hrow2 := hrow.kept hg2 (Or.inr (row_ne_iter hrow hrg).symm)
      have hnx2 := hnx.grown hg2 hnx.size (fun j hj => by cases hj; exact hg1s)
      have hzz : w.heap.size ≤ w2.heap.size := hnx2.size
      clear hs2 hrow
      go_wp2_with (first
        | (at_builtin; refine wpList_append_own _ rfl _ _ 24 rfl w.heap.size 3 i0 (.int .i64 0) 1 8 Tryd.underlying24 hi hz0 hz1 hz2 rfl (by decide) _ _ _ rfl (hrow2.alloc _) ⟨w2.heap.size, 0, none⟩ 1 1 [.int .i64 x] rfl rfl (cell_one_new _ _ _) (by simp [Value.oneCell']) (by unfold maxLen at *; omega) (by omega) (by simp; omega) ?_; intro v' w3 hown' hg3 hnil3; go_frame)
        | go_in)
      have hrg3 := (hrg2.alloc _).kept hg3 (row_ne_low hrow2 hbl) (row_ne_iter hrow2 hrg2)
      go_roundw
      case rel =>
        refine ⟨_, cnt2, ss ++ [x], hrg3, by simp; omega, by simpa using hown', fun hv' => by have := (hnil3.1 hv').2; omega, hide ((unhide hC).step hlk hat), ?_⟩
        exact (hnx2.alloc hzz _).grown hg3 (by simp; omega) (fun j hj => (hrow2.lt j hj).1)
      case measure => rw [hrg3.left_eq, hrg.left_eq]; exact hlt
end Go.Proofs.YtehdchpolgihlaaDoor

/- impl.Common. -/
namespace Go.Proofs.YtehdchpolgihlaaDoor
open Go.RowKit
set_option linter.unusedSectionVars false
variable [∀ (n : Int) (s : List Int), Decidable (OkL n s)]

end Go.Proofs.YtehdchpolgihlaaDoor

/- impl.SetJoin. -/
namespace Go.Proofs.YtehdchpolgihlaaDoor
open Go.RowKit
set_option linter.unusedSectionVars false
variable [∀ (n : Int) (s : List Int), Decidable (OkL n s)]

set_option maxHeartbeats 1600000 in
set_option maxRecDepth 100000 in
theorem implSetJoin (va vb : Value) (xs ys : List Int) (w : World) (ha : RI w va xs) (hb : RI w vb ys) (wa : WfL xs) (wb : WfL ys) (hl : xs.length + ys.length ≤ 4194303) :
    Calls Tryd.prog 39 #[va, vb] w fun e w' => ∃ u, e = .returned u ∧ OI w' w.heap.size u (joinL xs ys) ∧ Below w.heap.size w w' := by
  obtain ⟨aa, ca, rfl⟩ := ha.form
  obtain ⟨ab, cb, rfl⟩ := hb.form
  obtain ⟨w0, hw0⟩ : ∃ w0, w.alloc (.cells #[.slice aa xs.length ca, .slice ab ys.length cb] 24) = w0 := ⟨_, rfl⟩
  have B0 : Below w.heap.size w w0 := hw0 ▸ (Below.refl _ _).alloc (Nat.le_refl _) _
  have L0 : Loc w0 w.heap.size #[.slice aa xs.length ca, .slice ab ys.length cb] := hw0 ▸ loc_at w _ _ rfl
  have PL := hide (placesOf_any w.heap.size 2 (fun k => if k = 0 then .slice aa xs.length ca else .slice ab ys.length cb) (fun k => if k = 0 then xs else ys) w0
    (fun k hk => by
      match k, hk with
      | 0, _ => exact L0.cell 0 rfl
      | 1, _ => exact L0.cell 1 rfl)
    (fun k hk => by
      match k, hk with
      | 0, _ => exact ha.below B0 (Nat.le_refl _)
      | 1, _ => exact hb.below B0 (Nat.le_refl _))
    (fun k hk => by
      match k, hk with
      | 0, _ => exact wa
      | 1, _ => exact wb)
    (by omega) (by simp [catL]; omega))
  have EC : catL (fun k => if k = 0 then xs else ys) 2 = xs ++ ys := by simp [catL]
  rw [EC] at PL
  have TO := hide fun b w h => told_any b xs ys w h (by rw [List.length_append]; omega)
  clear ha hb wa wb EC L0
  generalize joinL xs ys = js at *
  go_enter Tryd.func39, Tryd.ntmps39
  go_wp2_with fail
  refine (unhide PL).mono ?_
  rintro _ w1 ⟨rfl, M1, b1⟩
  clear hw0 PL
  have B1 := B0.trans (b1.mono B0.size)
  go_wp2_with fail
  refine (unhide TO _ _ M1).mono ?_
  rintro _ w2 ⟨u, rfl, o2, b2⟩
  have B2 := B1.trans (b2.mono B1.size)
  have O2 := OI.mono o2 B1.size
  clear M1 TO o2
  go_wp2
  go_ret
  exact ⟨_, rfl, O2, B2⟩
end Go.Proofs.YtehdchpolgihlaaDoor
