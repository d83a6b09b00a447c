/- Texts that belong together: Told, CommonImpl, SetJoinImpl, JoinParts. -/
import Derived.Test.YtehdchpolgihlaaGreatDoorPzBJ
import Derived.Test.YtehdchpolgihlaaGreatDoorShelfSort
import Derived.Sort.OwnSortedInts
import Derived.Test.YtehdchpolgihlaaGreatDoorPzAA
import Derived.Test.YtehdchpolgihlaaGreatDoorPzAO
import Derived.Test.YtehdchpolgihlaaGreatDoorPzBD
import Derived.Test.YtehdchpolgihlaaGreatDoorPzAE
import Derived.Test.YtehdchpolgihlaaGreatDoorPzAJ
import Derived.Deep.RegionHeld3
import Derived.Deep.DeepCutAuto
/- (impl.places).told. -/
namespace Go.Proofs.YtehdchpolgihlaaGreatDoor
open Go.RowKit

set_option maxHeartbeats 4000000 in
set_option maxRecDepth 100000 in
theorem told_any (b : Nat) (xs ys : List Int) (w : World) (h : MC w b (xs ++ ys)) (hl : (xs ++ ys).length ≤ 8388608) :
    Calls Tryz.prog 126 #[.map (some b)] w fun e w' => ∃ u, e = .returned u ∧ OI w' w.heap.size u (joinL xs ys) ∧ Below w.heap.size w w' := by
  obtain ⟨i0, hi, hz0, hz1, hz2⟩ := info_parts Tryz.info3
  obtain ⟨D, hown, hcnt⟩ := h
  have hbl : b < w.heap.size := hown.lt
  have CN := hide hcnt
  have hsz : Maps.size D ≤ 8388608 := Nat.le_trans hown.size_le hl
  have SO := hide fun blk off cap (zs : List Int) (w : World) h1 h2 h3 => Tryz.slices_Sort_int blk off cap zs w h1 h2 h3
  clear hcnt
  generalize (xs ++ ys).length = nn at *
  go_enter Tryz.func126, Tryz.ntmps126
  go_wp2_with (first
    | (at_len; refine wpList_len_own _ rfl _ 114 rfl 3 3 Tryz.underlying114 _ b nn D rfl hown ?_)
    | (at_make; refine wpList_make_own _ rfl _ _ 24 rfl w.heap.size 3 i0 (.int .i64 0) 1 Tryz.underlying24 hi hz0 hz1 _ _ _ (Maps.size D) rfl rfl rfl (by rw [hz2]; omega) (by unfold maxLen; omega) (Nat.le_refl _) ?_; intro w1 hrow1 hg1)
    | (at_range; refine wpList_range_own _ rfl _ 114 rfl 3 3 klaw Tryz.underlying114 _ b nn _ rfl (hown.kept hg1 (by simp)) ?_; intro w0 hrg0 hg0 hs0)
    | go_in)
  go_frame
  go_loopw [3] (fun v wr => ∃ (left : Lit → Bool) (cnt : Nat) (ss : List Int), wr.ranges Tryz.prog 3 (plainElem Tryz.prog 3) b w1.heap.size nn D left cnt ∧ ss.length + cnt ≤ Maps.size D ∧
      wr.ownsRow w.heap.size 3 1 v ss.length (ss.map (Value.int .i64)) ∧ v ≠ .slice none 0 0 ∧ Hid (Coll D left ss) ∧ Below w.heap.size w wr)
    (fun _ wr => wr.rangeLeft b w1.heap.size)
  case atStart =>
    exact ⟨_, _, [], hrg0, by simp, hrow1.kept hg0 (Or.inr (by simp [Value.ownBlock])), by simp, hide (Coll.start D),
      ((Below.refl _ _).grown hg1 (Nat.le_refl _) (fun j hj => by cases hj)).grown hg0 hg1.size (fun j hj => by cases hj)⟩
  case round =>
    have hg1s := hg1.size
    clear hrg0 hg0 hs0 hrow1 hg1 hown
    obtain ⟨left, cnt, ss, hrg, hcs, hrow, hnn, hC, hnx⟩ := hrel
    go_wp2_with (first
      | (at_next; refine wpList_next_ranges_ii _ rfl _ rfl 3 3 .i64 .i64 klaw Tryz.underlying3 Tryz.underlying3 b w1.heap.size nn _ _ _ rfl hrg ?_ ?_)
      | go_in)
    · intro hc0 hl0
      rcases hrow.2 with ⟨hnil, _⟩ | ⟨g, cap, cur, rfl, hbase, hb, h1, h2, h3, h4⟩
      · exact absurd hnil hnn
      have hH : Sort.Holds (Value.int .i64) wr g 0 ss.toArray := holds_of_blockI hb (by simpa using h4)
      have hgl : g < wr.heap.size := (Array.getElem?_eq_some_iff.1 hb).1
      have hc := unhide SO g 0 cap ss wr hH hgl (by omega)
      have HJ := hide ((unhide hC).joined (unhide CN) hl0)
      have O1 : ∀ n os, OI (Go.Sort.grow (Go.Sort.putRow (Value.int .i64) (Sort.ahead wr n) g 0 (ss.mergeSort fun x y => decide (x ≤ y)).toArray) os) w.heap.size (.slice (some ⟨g, 0, none⟩) ss.length cap) (joinL xs ys) := fun n os => by
        have := ownsRow_sortedI (n := n) (os := os) (ts := ss.mergeSort fun x y => decide (x ≤ y)) (by simp) hbase hb h1 h2 h3
        have e : (joinL xs ys).length = ss.length := by rw [← unhide HJ]; simp
        unfold OI
        rw [e, ← unhide HJ]
        exact this
      have B1 : ∀ n os, Below w.heap.size w (Go.Sort.grow (Go.Sort.putRow (Value.int .i64) (Sort.ahead wr n) g 0 (ss.mergeSort fun x y => decide (x ≤ y)).toArray) os) := fun n os => hnx.grown (grownBy_sortedI _) hnx.size (fun j hj => by cases hj; exact hbase)
      have HO1 := hide O1
      have HB1 := hide B1
      clear O1 B1 hb h1 h2 h3 h4 hrow hrg hl0 hC
      go_wp2_with (go_at_call 137; refine hc.mono ?_; rintro e w' ⟨rfl, nq, os, rfl⟩)
      go_ret
      exact ⟨_, rfl, unhide HO1 _ _, unhide HB1 _ _⟩
    · intro x c w2 cnt2 hwx hwc hlk hat hrg2 hlt hg2 hs2 hen
      have hrow2 := hrow.kept hg2 (Or.inr (row_ne_iter hrow hrg).symm)
      have hnx2 := hnx.grown hg2 hnx.size (fun j hj => by cases hj; exact hg1s)
      have hzz : w.heap.size ≤ w2.heap.size := hnx2.size
      clear hs2 hrow
      go_wp2_with (first
        | (at_builtin; refine wpList_append_own _ rfl _ _ 24 rfl w.heap.size 3 i0 (.int .i64 0) 1 8 Tryz.underlying24 hi hz0 hz1 hz2 rfl (by decide) _ _ _ rfl (hrow2.alloc _) ⟨w2.heap.size, 0, none⟩ 1 1 [.int .i64 x] rfl rfl (cell_one_new _ _ _) (by simp [Value.oneCell']) (by unfold maxLen at *; omega) (by omega) (by simp; omega) ?_; intro v' w3 hown' hg3 hnil3; go_frame)
        | go_in)
      have hrg3 := (hrg2.alloc _).kept hg3 (row_ne_low hrow2 hbl) (row_ne_iter hrow2 hrg2)
      go_roundw
      case rel =>
        refine ⟨_, cnt2, ss ++ [x], hrg3, by simp; omega, by simpa using hown', fun hv' => by have := (hnil3.1 hv').2; omega, hide ((unhide hC).step hlk hat), ?_⟩
        exact (hnx2.alloc hzz _).grown hg3 (by simp; omega) (fun j hj => (hrow2.lt j hj).1)
      case measure => rw [hrg3.left_eq, hrg.left_eq]; exact hlt
end Go.Proofs.YtehdchpolgihlaaGreatDoor

/- impl.Common. -/
namespace Go.Proofs.YtehdchpolgihlaaGreatDoor
open Go.RowKit
set_option linter.unusedSectionVars false
variable [∀ (n : Int) (s : List Int), Decidable (OkL n s)]

set_option maxHeartbeats 4000000 in
set_option maxRecDepth 100000 in
theorem implCommon (va vb : Value) (xs ys : List Int) (w : World) (ha : RI w va xs) (hb : RI w vb ys) (wa : WfL xs) (wb : WfL ys) :
    Calls Tryz.prog 35 #[va, vb] w fun e w' => e = .returned (.int .i64 (comL xs ys : Int)) ∧ Below w.heap.size w w' := by
  have hla := ha.1
  have hlb := hb.1
  obtain ⟨aa, ca, rfl⟩ := ha.form
  obtain ⟨ab, cb, rfl⟩ := hb.form
  obtain ⟨w0, hw0⟩ : ∃ w0, w.alloc (.cells #[.slice aa xs.length ca] 24) = w0 := ⟨_, rfl⟩
  have B0 : Below w.heap.size w w0 := hw0 ▸ (Below.refl _ _).alloc (Nat.le_refl _) _
  have L0 : Loc w0 w.heap.size #[.slice aa xs.length ca] := hw0 ▸ loc_at w _ _ rfl
  have PL := hide (placesOf_any w.heap.size 1 (fun _ => .slice aa xs.length ca) (fun _ => xs) w0
    (fun k hk => by
      obtain rfl : k = 0 := by omega
      exact L0.cell 0 rfl)
    (fun k hk => ha.below B0 (Nat.le_refl _)) (fun k hk => wa) (by omega) (by simp [catL]; omega))
  have EC : catL (fun _ => xs) 1 = xs := by simp [catL]
  rw [EC] at PL
  have HB := hide hb
  have HW := hide wb
  have HLN : Hid ((xs.length : Int) - ((loneL xs ys).length : Int) = (comL xs ys : Int)) := hide (lone_len xs ys)
  have hll : (loneL xs ys).length ≤ xs.length := by unfold loneL; exact List.length_filter_le _ _
  clear ha hb wa wb EC L0
  generalize comL xs ys = cm at *
  obtain ⟨m, hm⟩ : ∃ m, ys.length = m := ⟨_, rfl⟩
  have Hm := hide hm
  rw [hm] at HB hlb ⊢
  clear hm
  go_enter Tryz.func35, Tryz.ntmps35
  go_wp2_with fail
  refine (unhide PL).mono ?_
  rintro _ w1 ⟨rfl, M1, b1⟩
  clear hw0 PL
  have B1 := B0.trans (b1.mono B0.size)
  obtain ⟨mb, hmb⟩ : ∃ mb, w0.heap.size = mb := ⟨_, rfl⟩
  have hml : w.heap.size ≤ mb := by rw [← hmb]; exact B0.size
  rw [hmb] at M1 ⊢
  clear hmb b1 B0
  have M1' : ∃ D, w1.ownsMap Tryz.prog 3 (plainElem (H := Unit) Tryz.prog 3) mb xs.length D ∧ Counts D (loneL xs (ys.take 0)) := by rw [List.take_zero, lone_nil]; exact M1
  clear M1
  go_wp2
  go_loopw [16] (fun j wr => ∃ k : Nat, k ≤ m ∧ j = .int .i64 k ∧ (∃ D, wr.ownsMap Tryz.prog 3 (plainElem (H := Unit) Tryz.prog 3) mb xs.length D ∧ Counts D (loneL xs (ys.take k))) ∧ Below w.heap.size w wr) (fun j _ => m - (intOf j).toNat)
  case atStart => exact ⟨0, Nat.zero_le _, rfl, M1', B1⟩
  case round =>
    clear M1' B1
    obtain ⟨k, hk, rfl, ⟨D, hown, hcnt⟩, br⟩ := hrel
    have CN := hide hcnt
    clear hcnt
    by_cases hlt : k < m
    · have hkx : k < ys.length := by have := unhide Hm; omega
      obtain ⟨b, off, rfl, c⟩ := ((unhide HB).below br (Nat.le_refl _)).at k hkx
      have hkey : keyOf Tryz.prog 3 (.int .i64 (ys.getD k 0)) = some (.int .i64 (ys.getD k 0)) := Maps.keyOf_int_mk Tryz.underlying3 ((unhide HW).at k hkx)
      have HT := hide (show loneL xs (ys.take (k + 1)) = (loneL xs (ys.take k)).filter (fun y => decide (y ≠ ys.getD k 0)) by rw [itake_more ys k hkx, lone_snoc])
      generalize ys.getD k 0 = x at *
      go_wp2_with (first
        | (at_delete; refine wpList_delete_own _ rfl _ _ 114 3 rfl 3 klaw Tryz.underlying114 _ mb xs.length D rfl hown _ _ rfl hkey ?_; intro w2 hown2 hturn2)
        | go_in)
      have BQ := br.grown hturn2.grown br.size (fun j hj => by cases hj; exact hml)
      have M2 : ∃ D, w2.ownsMap Tryz.prog 3 (plainElem (H := Unit) Tryz.prog 3) mb xs.length D ∧ Counts D (loneL xs (ys.take (k + 1))) := ⟨_, hown2, by rw [unhide HT]; exact (unhide CN).del x⟩
      clear hown hown2 hturn2 CN
      go_roundw
      case rel => exact ⟨k + 1, by omega, by go_num, M2, BQ⟩
      case measure => simp [intOf]; omega
    · have hkn : k = ys.length := by have := unhide Hm; omega
      have CM : Hid (Counts D (loneL xs ys)) := hide (by have := unhide CN; rw [hkn, List.take_length] at this; exact this)
      have hd2 : decide ((k : Int) < (m : Int)) = false := by simp; omega
      clear hkn CN
      generalize loneL xs ys = ls at *
      go_wp2_with (first
        | (at_range; refine wpList_range_own _ rfl _ 114 rfl 3 3 klaw Tryz.underlying114 _ mb xs.length D rfl hown ?_; intro w2 hrg0 hg0 hs0)
        | go_in)
      go_frame
      have BQ := br.grown hg0 br.size (fun j hj => by cases hj)
      have hsz0 := br.size
      go_loopw [8] (fun v wr2 => ∃ (left : Lit → Bool) (cnt : Nat), wr2.ranges Tryz.prog 3 (plainElem Tryz.prog 3) mb wr.heap.size xs.length D left cnt ∧ v = .int .i64 ((xs.length : Int) - (cameL ls left : Int)) ∧ Below w.heap.size w wr2) (fun _ wr2 => wr2.rangeLeft mb wr.heap.size)
      case atStart => exact ⟨_, _, hrg0, by rw [came_start (unhide CM)]; simp, BQ⟩
      case round =>
        clear hrg0 hg0 hs0 BQ br hown
        obtain ⟨left, cnt, hrg, rfl, bq⟩ := hrel
        have hcl := came_le ls left
        go_wp2_with (first
          | (at_next; refine wpList_next_ranges_ii _ rfl _ rfl 3 3 .i64 .i64 klaw Tryz.underlying3 Tryz.underlying3 mb _ xs.length _ _ _ rfl hrg ?_ ?_)
          | go_in)
        · intro hc0 hl0
          have he := came_end ls left hl0
          rw [he]
          have HE := unhide HLN
          clear hrg hl0 he
          go_wp2
          go_ret
          exact ⟨by rw [← HE]; rfl, bq⟩
        · intro x c w3 cnt3 hwx hwc hlk hat hrg3 hlt3 hg3 hs3 hen
          have hcc := (unhide CM).count hat
          have hce := came_step ls left x hlk
          have hcl3 := came_le ls (fun z => left z && !z.sameKey (kl x))
          have HV : Hid ((xs.length : Int) - (cameL ls (fun z => left z && !z.sameKey (kl x)) : Int) = (xs.length : Int) - (cameL ls left : Int) - c) := hide (by rw [hce, hcc]; omega)
          have hwr : wrap64 ((xs.length : Int) - (cameL ls left : Int) - c) = (xs.length : Int) - (cameL ls left : Int) - c := by unfold wrap64; rw [hcc]; omega
          have BQ := bq.grown hg3 bq.size (fun j hj => by cases hj; exact hsz0)
          clear hs3 hcc hce hcl3
          go_wp2
          go_roundw
          case rel => exact ⟨_, cnt3, hrg3, by rw [unhide HV]; first | rfl | (rw [hwr]) | (congr 1), BQ⟩
          case measure => rw [hrg3.left_eq, hrg.left_eq]; exact hlt3
end Go.Proofs.YtehdchpolgihlaaGreatDoor

/- impl.SetJoin. -/
namespace Go.Proofs.YtehdchpolgihlaaGreatDoor
open Go.RowKit
set_option linter.unusedSectionVars false
variable [∀ (n : Int) (s : List Int), Decidable (OkL n s)]

set_option maxHeartbeats 1600000 in
set_option maxRecDepth 100000 in
theorem implSetJoin (va vb : Value) (xs ys : List Int) (w : World) (ha : RI w va xs) (hb : RI w vb ys) (wa : WfL xs) (wb : WfL ys) (hl : xs.length + ys.length ≤ 4194303) :
    Calls Tryz.prog 107 #[va, vb] w fun e w' => ∃ u, e = .returned u ∧ OI w' w.heap.size u (joinL xs ys) ∧ Below w.heap.size w w' := by
  obtain ⟨aa, ca, rfl⟩ := ha.form
  obtain ⟨ab, cb, rfl⟩ := hb.form
  obtain ⟨w0, hw0⟩ : ∃ w0, w.alloc (.cells #[.slice aa xs.length ca, .slice ab ys.length cb] 24) = w0 := ⟨_, rfl⟩
  have B0 : Below w.heap.size w w0 := hw0 ▸ (Below.refl _ _).alloc (Nat.le_refl _) _
  have L0 : Loc w0 w.heap.size #[.slice aa xs.length ca, .slice ab ys.length cb] := hw0 ▸ loc_at w _ _ rfl
  have PL := hide (placesOf_any w.heap.size 2 (fun k => if k = 0 then .slice aa xs.length ca else .slice ab ys.length cb) (fun k => if k = 0 then xs else ys) w0
    (fun k hk => by
      match k, hk with
      | 0, _ => exact L0.cell 0 rfl
      | 1, _ => exact L0.cell 1 rfl)
    (fun k hk => by
      match k, hk with
      | 0, _ => exact ha.below B0 (Nat.le_refl _)
      | 1, _ => exact hb.below B0 (Nat.le_refl _))
    (fun k hk => by
      match k, hk with
      | 0, _ => exact wa
      | 1, _ => exact wb)
    (by omega) (by simp [catL]; omega))
  have EC : catL (fun k => if k = 0 then xs else ys) 2 = xs ++ ys := by simp [catL]
  rw [EC] at PL
  have TO := hide fun b w h => told_any b xs ys w h (by rw [List.length_append]; omega)
  clear ha hb wa wb EC L0
  generalize joinL xs ys = js at *
  go_enter Tryz.func107, Tryz.ntmps107
  go_wp2_with fail
  refine (unhide PL).mono ?_
  rintro _ w1 ⟨rfl, M1, b1⟩
  clear hw0 PL
  have B1 := B0.trans (b1.mono B0.size)
  go_wp2_with fail
  refine (unhide TO _ _ M1).mono ?_
  rintro _ w2 ⟨u, rfl, o2, b2⟩
  have B2 := B1.trans (b2.mono B1.size)
  have O2 := OI.mono o2 B1.size
  clear M1 TO o2
  go_wp2
  go_ret
  exact ⟨_, rfl, O2, B2⟩
end Go.Proofs.YtehdchpolgihlaaGreatDoor

/- JoinParts: impl.joinParts, impl.PartJoin. -/
namespace Go.Proofs.YtehdchpolgihlaaGreatDoor
open Go.RowKit
set_option linter.unusedSectionVars false
variable [∀ (n : Int) (s : List Int), Decidable (OkL n s)]

/-- The error that two parts are apart, as the package variable holds it. -/
abbrev apV (a : Addr) : Value := .iface 237 (.pointer (some a))
def Gv (w : World) (a : Addr) : Prop := w.cell? ⟨0, 0, none⟩ = some (apV a)
theorem Gv.lt {w : World} {a : Addr} (h : Gv w a) : 0 < w.heap.size := cell_lt h
theorem Gv.below {w w' : World} {B : Nat} {a : Addr} (h : Gv w a) (hb : Below B w w') (hg : 0 < B) : Gv w' a := (hb.cell (p := ⟨0, 0, none⟩) hg).trans h
theorem Gv.kp {w w' : World} {X : Nat → Prop} {a : Addr} (h : Gv w a) (k : Kp w w' X) (hg : ¬ X 0) : Gv w' a := (World.cell?_of_block (a := ⟨0, 0, none⟩) (k.block _ h.lt hg)).trans h
theorem Gv.cell {w : World} {a : Addr} (h : Gv w a) (j : Nat) (hj : j = 0) : w.cell? ⟨0, j, none⟩ = some (apV a) := by subst hj; exact h

set_option maxHeartbeats 8000000 in
set_option maxRecDepth 100000 in
theorem joinParts_any (m n : Int) (s t : ByteArray) (u v : Value) (xs ys : List Int) (a : Addr) (w : World) (hl : xs.length + ys.length ≤ 4194303) (hs : s.size ≤ 281474976710656) (wx : WfL xs) (wy : WfL ys) (hu : RI w u xs) (hv : RI w v ys) (G : Gv w a) :
    Calls Tryz.prog 55 #[qv m s u, qv n t v] w fun e w' => ∃ r, e = .returned (.tuple #[qv (if samP (m, s, xs) (n, t, ys) then m else 0) (if samP (m, s, xs) (n, t, ys) then s else ⟨#[]⟩) r, if samP (m, s, xs) (n, t, ys) then .nilIface else apV a]) ∧ OI w' w.heap.size r (if samP (m, s, xs) (n, t, ys) then joinL xs ys else []) ∧ Below w.heap.size w w' := by
  have hgl := G.lt
  obtain ⟨ua, uc, rfl⟩ := hu.form
  obtain ⟨va, vc, rfl⟩ := hv.form
  have SJ := hide fun w h h' => implSetJoin (.slice ua xs.length uc) (.slice va ys.length vc) xs ys w h h' wx wy hl
  have CL := hide fun w => clone_any s w hs
  have CP := hide fun w => compareParts_any m n s t (.slice ua xs.length uc) (.slice va ys.length vc) xs ys w
  have HQ := hide (cmpP_eq (m, s, xs) (n, t, ys))
  obtain ⟨w0, hw0⟩ : ∃ y, ((w.alloc (.cells #[.int .i64 m, .string s, .slice ua xs.length uc] 26)).alloc (.cells #[.int .i64 n, .string t, .slice va ys.length vc] 26)).alloc zpo = y := ⟨_, rfl⟩
  have B : Below w.heap.size w w0 := hw0 ▸ ((qalloc2 _ _ _).alloc (by simp; omega) _)
  have X : Loc w0 w.heap.size #[.int .i64 m, .string s, .slice ua xs.length uc] := hw0 ▸ ((loc_at w _ _ rfl).alloc _).alloc _
  have Y : Loc w0 (w.heap.size + 1) #[.int .i64 n, .string t, .slice va ys.length vc] := hw0 ▸ (loc_at (w.alloc _) _ _ (by simp)).alloc _
  have R : Loc w0 (w.heap.size + 1 + 1) #[.int .i64 0, .string ⟨#[]⟩, .slice none 0 0] := hw0 ▸ (loc_at ((w.alloc _).alloc _) _ _ (by simp))
  have s0 : w0.heap.size = w.heap.size + 1 + 1 + 1 := by rw [← hw0]; simp
  replace G := G.below B hgl
  have RU := hide fun w' (hb : Below w0.heap.size w0 w') => (hu.below B (Nat.le_refl _)).below hb (Nat.le_refl _)
  have RV := hide fun w' (hb : Below w0.heap.size w0 w') => (hv.below B (Nat.le_refl _)).below hb (Nat.le_refl _)
  generalize cmpP (m, s, xs) (n, t, ys) = q at *
  generalize samP (m, s, xs) (n, t, ys) = sm at *
  obtain ⟨k1, hk1⟩ : ∃ k, xs.length = k := ⟨_, rfl⟩
  obtain ⟨k2, hk2⟩ : ∃ k, ys.length = k := ⟨_, rfl⟩
  rw [hk1] at SJ X RU CP hw0 ⊢
  rw [hk2] at SJ Y RV CP hw0 ⊢
  have x0 := X.cell 0 rfl
  have x1 := X.cell 1 rfl
  have x2 := X.cell 2 rfl
  have y0 := Y.cell 0 rfl
  have y1 := Y.cell 1 rfl
  have y2 := Y.cell 2 rfl
  clear hu hv hk1 hk2 hl wx wy
  cases sm with
  | true =>
    obtain rfl : q = 0 := (unhide HQ).2 rfl
    simp only [if_true]
    go_enter Tryz.func55, Tryz.ntmps55
    go_wp2_with fail
    clear hw0 x0 x1 x2 y0 y1 y2 HQ
    refine (unhide CP _).mono ?_
    rintro e w1 ⟨rfl, b1⟩
    have BX := b1
    have s1 := b1.size
    replace X := X.below b1 X.lt
    replace Y := Y.below b1 Y.lt
    replace R := R.below b1 R.lt
    replace G := G.below b1 G.lt
    replace B := B.trans (b1.mono B.size)
    clear b1 CP
    go_upto_region 3 with fail
    refine wp_region_noPanic ?_
    refine wp_region_held_drew (S := fun w' => (w'.cell? ⟨w.heap.size, 0, none⟩ = some (.int .i64 m) ∧ w'.cell? ⟨w.heap.size, 1, none⟩ = some (.string s) ∧ w'.cell? ⟨w.heap.size, 2, none⟩ = some (.slice ua k1 uc)) ∧ (w'.cell? ⟨w.heap.size + 1, 0, none⟩ = some (.int .i64 n) ∧ w'.cell? ⟨w.heap.size + 1, 1, none⟩ = some (.string t) ∧ w'.cell? ⟨w.heap.size + 1, 2, none⟩ = some (.slice va k2 vc))) (by kernel_rfl) ⟨⟨X.cell 0 rfl, X.cell 1 rfl, X.cell 2 rfl⟩, ⟨Y.cell 0 rfl, Y.cell 1 rfl, Y.cell 2 rfl⟩⟩ (fun hHeld => ?_)
    obtain ⟨wd, hd⟩ : ∃ wd, w1.drew = wd := ⟨_, rfl⟩
    have bd : Below w1.heap.size w1 wd := hd ▸ Below.drew (Below.refl _ _)
    have BD : Below w0.heap.size w0 wd := BX.trans (bd.mono s1)
    have sd : w1.heap.size ≤ wd.heap.size := bd.size
    replace X := X.below bd X.lt
    replace Y := Y.below bd Y.lt
    replace R := R.below bd R.lt
    replace G := G.below bd G.lt
    replace B := B.trans (bd.mono B.size)
    rw [hd] at hHeld ⊢
    clear hd bd BX
    refine take_at (i := 0) (d := 12) (v := ?_) rfl rfl (by kernel_rfl) (by kernel_rfl) (by kernel_rfl) (fun _ _ _ h => h) (Or.inl ⟨by rfl, ?_⟩) (by assumption) ?_
    rotate_left
    · intro w hSw
      try dsimp only at hSw
      go_simp
      try with_reducible rfl
    simp only [Act.put, List.setIfInBounds_toArray, List.set_cons_zero, List.set_cons_succ]
    refine take_at (i := 1) (d := 13) (v := ?_) rfl rfl (by kernel_rfl) (by kernel_rfl) (by kernel_rfl) (fun _ _ _ h => h) (Or.inl ⟨by rfl, ?_⟩) (by assumption) ?_
    rotate_left
    · intro w hSw
      try dsimp only at hSw
      go_simp
      try with_reducible rfl
    simp only [Act.put, List.setIfInBounds_toArray, List.set_cons_zero, List.set_cons_succ]
    refine take_at (i := 2) (d := 14) (v := ?_) rfl rfl (by kernel_rfl) (by kernel_rfl) (by kernel_rfl) (fun _ _ _ h => h) (Or.inl ⟨by rfl, ?_⟩) (by assumption) ?_
    rotate_left
    · intro w hSw
      try dsimp only at hSw
      go_simp
      try with_reducible rfl
    simp only [Act.put, List.setIfInBounds_toArray, List.set_cons_zero, List.set_cons_succ]
    refine take_at (i := 3) (d := 15) (v := ?_) rfl rfl (by kernel_rfl) (by kernel_rfl) (by kernel_rfl) (fun _ _ _ h => h) (Or.inl ⟨by rfl, ?_⟩) (by assumption) ?_
    rotate_left
    · intro w hSw
      try dsimp only at hSw
      go_simp
      try with_reducible rfl
    simp only [Act.put, List.setIfInBounds_toArray, List.set_cons_zero, List.set_cons_succ]
    refine take_at (i := 5) (d := 17) (v := ?_) rfl rfl (by kernel_rfl) (by kernel_rfl) (by kernel_rfl) (fun _ _ _ h => h) (Or.inl ⟨by rfl, ?_⟩) (by assumption) ?_
    rotate_left
    · intro w hSw
      try dsimp only at hSw
      go_simp
      try with_reducible rfl
    simp only [Act.put, List.setIfInBounds_toArray, List.set_cons_zero, List.set_cons_succ]
    refine take_at (i := 6) (d := 18) (v := ?_) rfl rfl (by kernel_rfl) (by kernel_rfl) (by kernel_rfl) (fun _ _ _ h => h) (Or.inl ⟨by rfl, ?_⟩) (by assumption) ?_
    rotate_left
    · intro w hSw
      try dsimp only at hSw
      go_simp
      try with_reducible rfl
    simp only [Act.put, List.setIfInBounds_toArray, List.set_cons_zero, List.set_cons_succ]
    refine take_at (i := 7) (d := 19) (v := ?_) rfl rfl (by kernel_rfl) (by kernel_rfl) (by kernel_rfl) (fun _ _ _ h => h) (Or.inl ⟨by rfl, ?_⟩) (by assumption) ?_
    rotate_left
    · intro w hSw
      try dsimp only at hSw
      go_simp
      try with_reducible rfl
    simp only [Act.put, List.setIfInBounds_toArray, List.set_cons_zero, List.set_cons_succ]
    refine take_at (i := 8) (d := 20) (v := ?_) rfl rfl (by kernel_rfl) (by kernel_rfl) (by kernel_rfl) (fun _ _ _ h => h) (Or.inl ⟨by rfl, ?_⟩) (by assumption) ?_
    rotate_left
    · intro w hSw
      try dsimp only at hSw
      go_simp
      try with_reducible rfl
    simp only [Act.put, List.setIfInBounds_toArray, List.set_cons_zero, List.set_cons_succ]
    refine ready_at (i := 4) rfl (by kernel_rfl) (fun KK hKK => ?_)
    go_simp
    refine (unhide CL _).mono ?_
    rintro e wj ⟨rfl, bj⟩
    have sj := bj.size
    have BJ : Below w0.heap.size w0 wj := BD.trans (bj.mono BD.size)
    replace X := X.below bj X.lt
    replace Y := Y.below bj Y.lt
    replace R := R.below bj R.lt
    replace G := G.below bj G.lt
    replace B := B.trans (bj.mono B.size)
    clear bj CL BD
    clear hHeld
    refine hKK.out _ _ ⟨⟨X.cell 0 rfl, X.cell 1 rfl, X.cell 2 rfl⟩, ⟨Y.cell 0 rfl, Y.cell 1 rfl, Y.cell 2 rfl⟩⟩ (fun hHeld => ?_)
    clear hKK KK
    refine ready_at (i := 9) rfl (by kernel_rfl) (fun KK hKK => ?_)
    go_simp
    refine (unhide SJ _ (unhide RU _ BJ) (unhide RV _ BJ)).mono ?_
    rintro e wk ⟨q, rfl, oq, bk⟩
    have sk := bk.size
    replace X := X.below bk X.lt
    replace Y := Y.below bk Y.lt
    replace R := R.below bk R.lt
    replace G := G.below bk G.lt
    replace B := B.trans (bk.mono B.size)
    have tO := World.ownsRow.lt oq
    obtain ⟨qa, qc, rfl⟩ := oq.form
    have O := oq
    generalize hjl : (joinL xs ys).length = jl at *
    clear bk oq SJ RU RV BJ
    clear hHeld
    refine hKK.out _ _ ⟨⟨X.cell 0 rfl, X.cell 1 rfl, X.cell 2 rfl⟩, ⟨Y.cell 0 rfl, Y.cell 1 rfl, Y.cell 2 rfl⟩⟩ (fun hHeld => ?_)
    clear hKK KK
    refine take_at (i := 10) (d := 22) (v := ?_) rfl rfl (by kernel_rfl) (by kernel_rfl) (by kernel_rfl) (fun _ _ _ h => h) (Or.inl ⟨by rfl, ?_⟩) (by assumption) ?_
    rotate_left
    · intro w hSw
      try dsimp only at hSw
      go_simp
      try with_reducible rfl
    simp only [Act.put, List.setIfInBounds_toArray, List.set_cons_zero, List.set_cons_succ]
    have c0 := R.cell 0 rfl
    have c1 := R.cell 1 rfl
    have c2 := R.cell 2 rfl
    have fc := R.frozen
    refine ready_at (i := 11) rfl (by kernel_rfl) (fun KK hKK => ?_)
    go_simp
    obtain ⟨wa, hwa⟩ : ∃ y, (((wk.setCell ⟨w.heap.size + 1 + 1, 0, none⟩ (.int .i64 m)).setCell ⟨w.heap.size + 1 + 1, 1, none⟩ (.string s)).setCell ⟨w.heap.size + 1 + 1, 2, none⟩ (.slice qa jl qc)) = y := ⟨_, rfl⟩
    have kwa : Kp wk wa (fun k => k = w.heap.size + 1 + 1) := hwa ▸ ((set_kp _ _ _ _).trans (set_kp _ _ _ _)).trans (set_kp _ _ _ _)
    replace R : Loc wa (w.heap.size + 1 + 1) #[.int .i64 m, .string s, .slice qa jl qc] := hwa ▸ (((R.set 0 _ rfl).set 1 _ rfl).set 2 _ rfl)
    replace X := X.kp kwa (by omega)
    replace Y := Y.kp kwa (by omega)
    replace G := G.kp kwa (by omega)
    replace O := O.kp kwa (fun j hj e => by have := tO j hj; omega)
    replace B := Below.kp B kwa B.size (fun k hk => by omega)
    have zwa := kwa.size
    rw [hwa]
    clear hwa kwa c0 c1 c2 fc
    clear hHeld
    refine hKK.out _ _ ⟨⟨X.cell 0 rfl, X.cell 1 rfl, X.cell 2 rfl⟩, ⟨Y.cell 0 rfl, Y.cell 1 rfl, Y.cell 2 rfl⟩⟩ (fun hHeld => ?_)
    clear hKK KK
    refine take_at (i := 12) (d := 5) (v := ?_) rfl rfl (by kernel_rfl) (by kernel_rfl) (by kernel_rfl) (fun _ _ _ h => h) (Or.inl ⟨by rfl, ?_⟩) (by assumption) ?_
    rotate_left
    · intro w hSw
      try dsimp only at hSw
      go_simp
      try with_reducible rfl
    simp only [Act.put, List.setIfInBounds_toArray, List.set_cons_zero, List.set_cons_succ]
    clear hHeld
    refine wpAnyH_done (by kernel_rfl) ?_ _
    refine NoPanic.normal ?_
    have r0 := R.cell 0 rfl
    have r1 := R.cell 1 rfl
    have r2 := R.cell 2 rfl
    clear R X Y
    go_wp2
    refine bodyPost_ret (v := .tuple #[qv m s (.slice qa jl qc), .nilIface]) (by simp [results, Tryz.results55, go_sem, r0, r1, r2]) rfl ?_
    exact ⟨_, rfl, OI.mono O (by omega), B⟩
  | false =>
    have hq : ¬ q = 0 := fun e => by have := (unhide HQ).1 e; cases this
    have hq1 : (q == 0) = false := by simpa using hq
    have hq2 : (q != 0) = true := by simpa using hq
    simp only [Bool.false_eq_true, if_false]
    clear hq HQ SJ CL RU RV
    go_enter Tryz.func55, Tryz.ntmps55
    go_wp2_with fail
    clear hw0 x0 x1 x2 y0 y1 y2
    refine (unhide CP _).mono ?_
    rintro e w1 ⟨rfl, b1⟩
    have s1 := b1.size
    replace R := R.below b1 R.lt
    replace G := G.below b1 G.lt
    replace B := B.trans (b1.mono B.size)
    clear b1 CP X Y
    go_upto_region 2 with fail
    clear hq1 hq2
    refine wp_region_noPanic ?_
    refine wp_region_held_drew (S := fun w' => w'.cell? ⟨0, 0, none⟩ = some (apV a)) (by kernel_rfl) (G.cell 0 rfl) (fun hHeld => ?_)
    obtain ⟨wd, hd⟩ : ∃ wd, w1.drew = wd := ⟨_, rfl⟩
    have bd : Below w1.heap.size w1 wd := hd ▸ Below.drew (Below.refl _ _)
    have sd : w1.heap.size ≤ wd.heap.size := bd.size
    replace R := R.below bd R.lt
    replace G := G.below bd G.lt
    replace B := B.trans (bd.mono B.size)
    rw [hd] at hHeld ⊢
    clear hd bd
    refine take_at (i := 0) (d := 10) (v := ?_) rfl rfl (by kernel_rfl) (by kernel_rfl) (by kernel_rfl) (fun _ _ _ h => h) (Or.inl ⟨by rfl, ?_⟩) (by assumption) ?_
    rotate_left
    · intro w hSw
      try dsimp only at hSw
      go_simp
      try with_reducible rfl
    simp only [Act.put, List.setIfInBounds_toArray, List.set_cons_zero, List.set_cons_succ]
    refine take_at (i := 1) (d := 11) (v := ?_) rfl rfl (by kernel_rfl) (by kernel_rfl) (by kernel_rfl) (fun _ _ _ h => h) (Or.inl ⟨by rfl, ?_⟩) (by assumption) ?_
    rotate_left
    · intro w hSw
      try dsimp only at hSw
      go_simp
      try with_reducible rfl
    simp only [Act.put, List.setIfInBounds_toArray, List.set_cons_zero, List.set_cons_succ]
    have c0 := R.cell 0 rfl
    have c1 := R.cell 1 rfl
    have c2 := R.cell 2 rfl
    have fc := R.frozen
    refine ready_at (i := 2) rfl (by kernel_rfl) (fun KK hKK => ?_)
    go_simp
    obtain ⟨wa, hwa⟩ : ∃ y, (((wd.setCell ⟨w.heap.size + 1 + 1, 0, none⟩ (.int .i64 0)).setCell ⟨w.heap.size + 1 + 1, 1, none⟩ (.string ⟨#[]⟩)).setCell ⟨w.heap.size + 1 + 1, 2, none⟩ (.slice none 0 0)) = y := ⟨_, rfl⟩
    have kwa : Kp wd wa (fun k => k = w.heap.size + 1 + 1) := hwa ▸ ((set_kp _ _ _ _).trans (set_kp _ _ _ _)).trans (set_kp _ _ _ _)
    replace R : Loc wa (w.heap.size + 1 + 1) #[.int .i64 0, .string ⟨#[]⟩, .slice none 0 0] := hwa ▸ (((R.set 0 _ rfl).set 1 _ rfl).set 2 _ rfl)
    replace G := G.kp kwa (by omega)
    replace B := Below.kp B kwa B.size (fun k hk => by omega)
    have zwa := kwa.size
    rw [hwa]
    clear hwa kwa c0 c1 c2 fc
    clear hHeld
    refine hKK.out _ _ (G.cell 0 rfl) (fun hHeld => ?_)
    clear hKK KK
    refine take_at (i := 3) (d := 5) (v := ?_) rfl rfl (by kernel_rfl) (by kernel_rfl) (by kernel_rfl) (fun _ _ _ h => h) (Or.inl ⟨by rfl, ?_⟩) (by assumption) ?_
    rotate_left
    · intro w hSw
      try dsimp only at hSw
      go_simp
      try with_reducible rfl
    simp only [Act.put, List.setIfInBounds_toArray, List.set_cons_zero, List.set_cons_succ]
    clear hHeld
    refine wpAnyH_done (by kernel_rfl) ?_ _
    refine NoPanic.normal ?_
    have r0 := R.cell 0 rfl
    have r1 := R.cell 1 rfl
    have r2 := R.cell 2 rfl
    clear R
    go_wp2
    refine bodyPost_ret (v := .tuple #[qv 0 ⟨#[]⟩ (.slice none 0 0), apV a]) (by simp [results, Tryz.results55, go_sem, r0, r1, r2]) rfl ?_
    exact ⟨_, rfl, World.ownsRow_nil _ _ _ _, B⟩

set_option maxHeartbeats 8000000 in
set_option maxRecDepth 100000 in
theorem implPartJoin (m n : Int) (s t : ByteArray) (u v : Value) (xs ys : List Int) (a : Addr) (w : World) (hl : xs.length + ys.length ≤ 4194303) (hs : s.size ≤ 281474976710656) (wx : WfL xs) (wy : WfL ys) (hu : RI w u xs) (hv : RI w v ys) (G : Gv w a) :
    Calls Tryz.prog 10 #[qv m s u, qv n t v] w fun e w' => ∃ r, e = .returned (.tuple #[qv (if samP (m, s, xs) (n, t, ys) then m else 0) (if samP (m, s, xs) (n, t, ys) then s else ⟨#[]⟩) r, .bool (samP (m, s, xs) (n, t, ys))]) ∧ OI w' w.heap.size r (if samP (m, s, xs) (n, t, ys) then joinL xs ys else []) ∧ Below w.heap.size w w' := by
  have hgl := G.lt
  obtain ⟨ua, uc, rfl⟩ := hu.form
  obtain ⟨va, vc, rfl⟩ := hv.form
  have JP := hide fun w h h' g => joinParts_any m n s t (.slice ua xs.length uc) (.slice va ys.length vc) xs ys a w hl hs wx wy h h' g
  generalize samP (m, s, xs) (n, t, ys) = sm at *
  have IS : Hid (∀ w, Calls Tryz.prog 56 #[if sm then .nilIface else apV a, apV a] w fun e w' => e = .returned (.bool (!sm)) ∧ Below w.heap.size w w') := hide fun w => by
    cases sm
    · exact (is_same a w).mono fun _ _ h => ⟨h.1, h.2 ▸ Below.refl _ _⟩
    · exact (is_nil a w).mono fun _ _ h => ⟨h.1, h.2 ▸ Below.refl _ _⟩
  generalize (if sm = true then m else 0) = m1 at *
  generalize (if sm = true then s else ⟨#[]⟩) = s1 at *
  generalize (if sm = true then joinL xs ys else []) = x1 at *
  generalize (if sm = true then Value.nilIface else apV a) = ev at *
  obtain ⟨w0, hw0⟩ : ∃ y, ((w.alloc (.cells #[.int .i64 m, .string s, .slice ua xs.length uc] 26)).alloc (.cells #[.int .i64 n, .string t, .slice va ys.length vc] 26)).alloc zpo = y := ⟨_, rfl⟩
  have B : Below w.heap.size w w0 := hw0 ▸ ((qalloc2 _ _ _).alloc (by simp; omega) _)
  have X : Loc w0 w.heap.size #[.int .i64 m, .string s, .slice ua xs.length uc] := hw0 ▸ ((loc_at w _ _ rfl).alloc _).alloc _
  have Y : Loc w0 (w.heap.size + 1) #[.int .i64 n, .string t, .slice va ys.length vc] := hw0 ▸ (loc_at (w.alloc _) _ _ (by simp)).alloc _
  have R : Loc w0 (w.heap.size + 1 + 1) #[.int .i64 0, .string ⟨#[]⟩, .slice none 0 0] := hw0 ▸ (loc_at ((w.alloc _).alloc _) _ _ (by simp))
  have s0 : w0.heap.size = w.heap.size + 1 + 1 + 1 := by rw [← hw0]; simp
  replace G := G.below B hgl
  replace JP := hide (unhide JP w0 (hu.below B (Nat.le_refl _)) (hv.below B (Nat.le_refl _)) G)
  obtain ⟨k1, hk1⟩ : ∃ k, xs.length = k := ⟨_, rfl⟩
  obtain ⟨k2, hk2⟩ : ∃ k, ys.length = k := ⟨_, rfl⟩
  rw [hk1] at JP X hw0 ⊢
  rw [hk2] at JP Y hw0 ⊢
  have x0 := X.cell 0 rfl
  have x1' := X.cell 1 rfl
  have x2 := X.cell 2 rfl
  have y0 := Y.cell 0 rfl
  have y1 := Y.cell 1 rfl
  have y2 := Y.cell 2 rfl
  clear hu hv hk1 hk2 hl wx wy
  go_enter Tryz.func10, Tryz.ntmps10
  go_wp2_with fail
  clear hw0 x0 x1' x2 y0 y1 y2 X Y
  refine (unhide JP).mono ?_
  rintro e w1 ⟨r, rfl, O, b1⟩
  have s1' := b1.size
  replace R := R.below b1 R.lt
  replace G := G.below b1 G.lt
  replace B := B.trans (b1.mono B.size)
  have tO := World.ownsRow.lt O
  obtain ⟨ra, rc, rfl⟩ := O.form
  obtain ⟨rl, hrl⟩ : ∃ k, x1.length = k := ⟨_, rfl⟩
  rw [hrl] at O tO ⊢
  obtain ⟨w2, hw2⟩ : ∃ y, w1.alloc (.cells #[.int .i64 m1, .string s1, .slice ra rl rc] 26) = y := ⟨_, rfl⟩
  have b2 : Below w1.heap.size w1 w2 := hw2 ▸ qalloc _ _
  have s2 := b2.size
  have J : Loc w2 w1.heap.size #[.int .i64 m1, .string s1, .slice ra rl rc] := hw2 ▸ loc_at w1 _ _ rfl
  replace R := R.below b2 R.lt
  replace G := G.below b2 G.lt
  replace O := O.below b2
  replace B := B.trans (b2.mono B.size)
  clear b1 b2 JP
  go_upto_region 2 with fail
  clear hw2
  refine wp_region_noPanic ?_
  refine wp_region_held_drew (S := fun w' => (w'.cell? ⟨w1.heap.size, 0, none⟩ = some (.int .i64 m1) ∧ w'.cell? ⟨w1.heap.size, 1, none⟩ = some (.string s1) ∧ w'.cell? ⟨w1.heap.size, 2, none⟩ = some (.slice ra rl rc)) ∧ w'.cell? ⟨0, 0, none⟩ = some (apV a)) (by kernel_rfl) ⟨⟨J.cell 0 rfl, J.cell 1 rfl, J.cell 2 rfl⟩, G.cell 0 rfl⟩ (fun hHeld => ?_)
  obtain ⟨wd, hd⟩ : ∃ wd, w2.drew = wd := ⟨_, rfl⟩
  have bd : Below w2.heap.size w2 wd := hd ▸ Below.drew (Below.refl _ _)
  have sd : w2.heap.size ≤ wd.heap.size := bd.size
  replace R := R.below bd R.lt
  replace G := G.below bd G.lt
  replace J := J.below bd J.lt
  replace O := O.below bd
  replace B := B.trans (bd.mono B.size)
  rw [hd] at hHeld ⊢
  clear hd bd
  refine take_at (i := 0) (d := 14) (v := ?_) rfl rfl (by kernel_rfl) (by kernel_rfl) (by kernel_rfl) (fun _ _ _ h => h) (Or.inl ⟨by rfl, ?_⟩) (by assumption) ?_
  rotate_left
  · intro w hSw
    try dsimp only at hSw
    go_simp
    try with_reducible rfl
  simp only [Act.put, List.setIfInBounds_toArray, List.set_cons_zero, List.set_cons_succ]
  refine take_at (i := 1) (d := 15) (v := ?_) rfl rfl (by kernel_rfl) (by kernel_rfl) (by kernel_rfl) (fun _ _ _ h => h) (Or.inl ⟨by rfl, ?_⟩) (by assumption) ?_
  rotate_left
  · intro w hSw
    try dsimp only at hSw
    go_simp
    try with_reducible rfl
  simp only [Act.put, List.setIfInBounds_toArray, List.set_cons_zero, List.set_cons_succ]
  refine take_at (i := 2) (d := 16) (v := ?_) rfl rfl (by kernel_rfl) (by kernel_rfl) (by kernel_rfl) (fun _ _ _ h => h) (Or.inl ⟨by rfl, ?_⟩) (by assumption) ?_
  rotate_left
  · intro w hSw
    try dsimp only at hSw
    go_simp
    try with_reducible rfl
  simp only [Act.put, List.setIfInBounds_toArray, List.set_cons_zero, List.set_cons_succ]
  refine ready_at (i := 3) rfl (by kernel_rfl) (fun KK hKK => ?_)
  go_simp
  refine (unhide IS _).mono ?_
  rintro e wk ⟨rfl, bk⟩
  have sk := bk.size
  replace R := R.below bk R.lt
  replace G := G.below bk G.lt
  replace J := J.below bk J.lt
  replace O := O.below bk
  replace B := B.trans (bk.mono B.size)
  clear bk IS
  clear hHeld
  refine hKK.out _ _ ⟨⟨J.cell 0 rfl, J.cell 1 rfl, J.cell 2 rfl⟩, G.cell 0 rfl⟩ (fun hHeld => ?_)
  clear hKK KK
  refine take_at (i := 4) (d := 18) (v := ?_) rfl rfl (by kernel_rfl) (by kernel_rfl) (by kernel_rfl) (fun _ _ _ h => h) (Or.inl ⟨by rfl, ?_⟩) (by assumption) ?_
  rotate_left
  · intro w hSw
    try dsimp only at hSw
    go_simp
    try with_reducible rfl
  simp only [Act.put, List.setIfInBounds_toArray, List.set_cons_zero, List.set_cons_succ]
  have c0 := R.cell 0 rfl
  have c1 := R.cell 1 rfl
  have c2 := R.cell 2 rfl
  have fc := R.frozen
  refine ready_at (i := 5) rfl (by kernel_rfl) (fun KK hKK => ?_)
  go_simp
  obtain ⟨wa, hwa⟩ : ∃ y, (((wk.setCell ⟨w.heap.size + 1 + 1, 0, none⟩ (.int .i64 m1)).setCell ⟨w.heap.size + 1 + 1, 1, none⟩ (.string s1)).setCell ⟨w.heap.size + 1 + 1, 2, none⟩ (.slice ra rl rc)) = y := ⟨_, rfl⟩
  have kwa : Kp wk wa (fun k => k = w.heap.size + 1 + 1) := hwa ▸ ((set_kp _ _ _ _).trans (set_kp _ _ _ _)).trans (set_kp _ _ _ _)
  replace R : Loc wa (w.heap.size + 1 + 1) #[.int .i64 m1, .string s1, .slice ra rl rc] := hwa ▸ (((R.set 0 _ rfl).set 1 _ rfl).set 2 _ rfl)
  replace G := G.kp kwa (by omega)
  replace J := J.kp kwa (by omega)
  replace O := O.kp kwa (fun j hj e => by have := tO j hj; omega)
  replace B := Below.kp B kwa B.size (fun k hk => by omega)
  have zwa := kwa.size
  rw [hwa]
  clear hwa kwa c0 c1 c2 fc
  clear hHeld
  refine hKK.out _ _ ⟨⟨J.cell 0 rfl, J.cell 1 rfl, J.cell 2 rfl⟩, G.cell 0 rfl⟩ (fun hHeld => ?_)
  clear hKK KK
  refine take_at (i := 6) (d := 5) (v := ?_) rfl rfl (by kernel_rfl) (by kernel_rfl) (by kernel_rfl) (fun _ _ _ h => h) (Or.inl ⟨by rfl, ?_⟩) (by assumption) ?_
  rotate_left
  · intro w hSw
    try dsimp only at hSw
    go_simp
    try with_reducible rfl
  simp only [Act.put, List.setIfInBounds_toArray, List.set_cons_zero, List.set_cons_succ]
  clear hHeld
  refine wpAnyH_done (by kernel_rfl) ?_ _
  refine NoPanic.normal ?_
  have r0 := R.cell 0 rfl
  have r1 := R.cell 1 rfl
  have r2 := R.cell 2 rfl
  clear R J G
  go_wp2
  refine bodyPost_ret (v := .tuple #[qv m1 s1 (.slice ra rl rc), .bool sm]) (by simp [results, Tryz.results10, go_sem, r0, r1, r2]) rfl ?_
  exact ⟨_, rfl, OI.mono O (by omega), B⟩
end Go.Proofs.YtehdchpolgihlaaGreatDoor
