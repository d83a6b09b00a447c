/- Texts that belong together: ShelfSort, Told, CommonImpl, SetJoinImpl. -/
import Derived.Shelf.Sort.Plain
import Derived.Test.YtmpmedbojfjnaaaGreatDoorProg
import Derived.Test.YtmpmedbojfjnaaaGreatDoorFPBC
import Derived.Sort.OwnSortedInts
import Derived.Test.YtmpmedbojfjnaaaGreatDoorFPAE
import Derived.Test.YtmpmedbojfjnaaaGreatDoorFPAT
namespace Go.Proofs
open Go.Shelf
def Tryz.lays189_ren : Go.Shelf.Ren := ⟨fun | 189 => 175 | 125 => 186 | 257 => 185 | 128 => 205 | 129 => 206 | 294 => 196 | 295 => 197 | 296 => 198 | 297 => 199 | 298 => 200 | 299 => 201 | 216 => 202 | 300 => 203 | 301 => 204 | 328 => 212 | 329 => 213 | 330 => 214 | 331 => 215 | 332 => 216 | 215 => 151 | 343 => 223 | n => n, fun | 28 => 26 | 3 => 3 | 46 => 196 | 0 => 0 | 51 => 207 | 53 => 229 | 4 => 4 | 183 => 221 | 182 => 220 | 131 => 152 | 5 => 5 | 9 => 9 | 218 => 232 | 222 => 236 | 228 => 244 | 229 => 245 | n => n, fun | n => n⟩
theorem Tryz.lays189 : Go.Proofs.Lays.n189 Tryz.prog Tryz.lays189_ren := {
 mixed := by kernel_rfl
 f125 := Tryz.func186.trans (congrArg some (by kernel_rfl))
 f128 := Tryz.func205.trans (congrArg some (by kernel_rfl))
 f129 := Tryz.func206.trans (congrArg some (by kernel_rfl))
 f189 := Tryz.func175.trans (congrArg some (by kernel_rfl))
 f215 := Tryz.func151.trans (congrArg some (by kernel_rfl))
 f216 := Tryz.func202.trans (congrArg some (by kernel_rfl))
 f257 := Tryz.func185.trans (congrArg some (by kernel_rfl))
 f294 := Tryz.func196.trans (congrArg some (by kernel_rfl))
 f295 := Tryz.func197.trans (congrArg some (by kernel_rfl))
 f296 := Tryz.func198.trans (congrArg some (by kernel_rfl))
 f297 := Tryz.func199.trans (congrArg some (by kernel_rfl))
 f298 := Tryz.func200.trans (congrArg some (by kernel_rfl))
 f299 := Tryz.func201.trans (congrArg some (by kernel_rfl))
 f300 := Tryz.func203.trans (congrArg some (by kernel_rfl))
 f301 := Tryz.func204.trans (congrArg some (by kernel_rfl))
 f328 := Tryz.func212.trans (congrArg some (by kernel_rfl))
 f329 := Tryz.func213.trans (congrArg some (by kernel_rfl))
 f330 := Tryz.func214.trans (congrArg some (by kernel_rfl))
 f331 := Tryz.func215.trans (congrArg some (by kernel_rfl))
 f332 := Tryz.func216.trans (congrArg some (by kernel_rfl))
 f343 := Tryz.func223.trans (congrArg some (by kernel_rfl))
 t0 := Tryz.underlying0
 a0 := Tryz.isAgg0
 z0 := Tryz.sizeOf0
 v0 := Tryz.zeroValue0
 t3 := Tryz.underlying3
 a3 := Tryz.isAgg3
 z3 := Tryz.sizeOf3
 v3 := Tryz.zeroValue3
 t4 := Tryz.underlying4
 a4 := Tryz.isAgg4
 z4 := Tryz.sizeOf4
 v4 := Tryz.zeroValue4
 t5 := Tryz.underlying5
 a5 := Tryz.isAgg5
 z5 := Tryz.sizeOf5
 v5 := Tryz.zeroValue5
 t9 := Tryz.underlying9
 a9 := Tryz.isAgg9
 z9 := Tryz.sizeOf9
 v9 := Tryz.zeroValue9
 t28 := Tryz.underlying26
 a28 := Tryz.isAgg26
 z28 := Tryz.sizeOf26
 v28 := Tryz.zeroValue26
 t46 := Tryz.underlying196
 a46 := Tryz.isAgg196
 z46 := Tryz.sizeOf196
 v46 := Tryz.zeroValue196
 t51 := Tryz.underlying207
 a51 := Tryz.isAgg207
 z51 := Tryz.sizeOf207
 v51 := Tryz.zeroValue207
 t53 := Tryz.underlying229
 a53 := Tryz.isAgg229
 z53 := Tryz.sizeOf229
 v53 := Tryz.zeroValue229
 t131 := Tryz.underlying152
 a131 := Tryz.isAgg152
 z131 := Tryz.sizeOf152
 v131 := Tryz.zeroValue152
 t182 := Tryz.underlying220
 a182 := Tryz.isAgg220
 z182 := Tryz.sizeOf220
 v182 := Tryz.zeroValue220
 t183 := Tryz.underlying221
 a183 := Tryz.isAgg221
 z183 := Tryz.sizeOf221
 v183 := Tryz.zeroValue221
 t218 := Tryz.underlying232
 a218 := Tryz.isAgg232
 z218 := Tryz.sizeOf232
 v218 := Tryz.zeroValue232
 t222 := Tryz.underlying236
 a222 := Tryz.isAgg236
 z222 := Tryz.sizeOf236
 v222 := Tryz.zeroValue236
 t228 := Tryz.underlying244
 a228 := Tryz.isAgg244
 z228 := Tryz.sizeOf244
 v228 := Tryz.zeroValue244
 t229 := Tryz.underlying245
 a229 := Tryz.isAgg245
 z229 := Tryz.sizeOf245
 v229 := Tryz.zeroValue245 }
open Go.Sort Go.RowKit in
theorem Tryz.slices_Sort_int (blk off cap : Nat) (zs : List Int) (w : World) (hH : Holds (Value.int .i64) w blk off zs.toArray) (hblk : blk < w.heap.size) (hsz : zs.length < 4611686018427387904) :
 Calls Tryz.prog 175 #[.slice (some ⟨blk, off, none⟩) zs.length cap] w fun e w' =>
  e = .returned (.tuple #[]) ∧ ∃ n os, w' = grow (putRow (Value.int .i64) (Sort.ahead w n) blk off (zs.mergeSort fun x y => decide (x ≤ y)).toArray) os := Any.slices_Sort_int Tryz.lays189 blk off cap zs w hH hblk hsz
end Go.Proofs
namespace Go.Proofs.YtmpmedbojfjnaaaGreatDoor
open Go.RowKit

set_option maxHeartbeats 4000000 in
set_option maxRecDepth 100000 in
theorem told_any (b : Nat) (xs ys : List Int) (w : World) (h : MC w b (xs ++ ys)) (hl : (xs ++ ys).length ≤ 8388608) :
 Calls Tryz.prog 161 #[.map (some b)] w fun e w' => ∃ u, e = .returned u ∧ OI w' w.heap.size u (joinL xs ys) ∧ Below w.heap.size w w' := by
 obtain ⟨i0, hi, hz0, hz1, hz2⟩ := info_parts Tryz.info3
 obtain ⟨D, hown, hcnt⟩ := h
 have hbl : b < w.heap.size := hown.lt
 have CN := hide hcnt
 have hsz : Maps.size D ≤ 8388608 := Nat.le_trans hown.size_le hl
 have SO := hide fun blk off cap (zs : List Int) (w : World) h1 h2 h3 => Tryz.slices_Sort_int blk off cap zs w h1 h2 h3
 clear hcnt
 generalize (xs ++ ys).length = nn at *
 go_enter Tryz.func161, Tryz.ntmps161
 go_wp2_with (first
  | (at_len; refine wpList_len_own _ rfl _ 136 rfl 3 3 Tryz.underlying136 _ b nn D rfl hown ?_)
  | (at_make; refine wpList_make_own _ rfl _ _ 26 rfl w.heap.size 3 i0 (.int .i64 0) 1 Tryz.underlying26 hi hz0 hz1 _ _ _ (Maps.size D) rfl rfl rfl (by rw [hz2]; omega) (by unfold maxLen; omega) (Nat.le_refl _) ?_; intro w1 hrow1 hg1)
  | (at_range; refine wpList_range_own _ rfl _ 136 rfl 3 3 klaw Tryz.underlying136 _ b nn _ rfl (hown.kept hg1 (by simp)) ?_; intro w0 hrg0 hg0 hs0)
  | go_in)
 go_frame
 go_loopw [3] (fun v wr => ∃ (left : Lit → Bool) (cnt : Nat) (ss : List Int), wr.ranges Tryz.prog 3 (plainElem Tryz.prog 3) b w1.heap.size nn D left cnt ∧ ss.length + cnt ≤ Maps.size D ∧
  wr.ownsRow w.heap.size 3 1 v ss.length (ss.map (Value.int .i64)) ∧ v ≠ .slice none 0 0 ∧ Hid (Coll D left ss) ∧ Below w.heap.size w wr)
  (fun _ wr => wr.rangeLeft b w1.heap.size)
 case atStart =>
  exact ⟨_, _, [], hrg0, by simp, hrow1.kept hg0 (Or.inr (by simp [Value.ownBlock])), by simp, hide (Coll.start D),
   ((Below.refl _ _).grown hg1 (Nat.le_refl _) (fun j hj => by cases hj)).grown hg0 hg1.size (fun j hj => by cases hj)⟩
 case round =>
  have hg1s := hg1.size
  clear hrg0 hg0 hs0 hrow1 hg1 hown
  obtain ⟨left, cnt, ss, hrg, hcs, hrow, hnn, hC, hnx⟩ := hrel
  go_wp2_with (first
   | (at_next; refine wpList_next_ranges_ii _ rfl _ rfl 3 3 .i64 .i64 klaw Tryz.underlying3 Tryz.underlying3 b w1.heap.size nn _ _ _ rfl hrg ?_ ?_)
   | go_in)
  ·intro hc0 hl0
   rcases hrow.2 with ⟨hnil, _⟩ | ⟨g, cap, cur, rfl, hbase, hb, h1, h2, h3, h4⟩
   ·exact absurd hnil hnn
   have hH : Sort.Holds (Value.int .i64) wr g 0 ss.toArray := holds_of_blockI hb (by simpa using h4)
   have hgl : g < wr.heap.size := (Array.getElem?_eq_some_iff.1 hb).1
   have hc := unhide SO g 0 cap ss wr hH hgl (by omega)
   have HJ := hide ((unhide hC).joined (unhide CN) hl0)
   have O1 : ∀ n os, OI (Go.Sort.grow (Go.Sort.putRow (Value.int .i64) (Sort.ahead wr n) g 0 (ss.mergeSort fun x y => decide (x ≤ y)).toArray) os) w.heap.size (.slice (some ⟨g, 0, none⟩) ss.length cap) (joinL xs ys) := fun n os => by
    have := ownsRow_sortedI (n := n) (os := os) (ts := ss.mergeSort fun x y => decide (x ≤ y)) (by simp) hbase hb h1 h2 h3
    have e : (joinL xs ys).length = ss.length := by rw [← unhide HJ]; simp
    unfold OI
    rw [e, ← unhide HJ]
    exact this
   have B1 : ∀ n os, Below w.heap.size w (Go.Sort.grow (Go.Sort.putRow (Value.int .i64) (Sort.ahead wr n) g 0 (ss.mergeSort fun x y => decide (x ≤ y)).toArray) os) := fun n os => hnx.grown (grownBy_sortedI _) hnx.size (fun j hj => by cases hj; exact hbase)
   have HO1 := hide O1
   have HB1 := hide B1
   clear O1 B1 hb h1 h2 h3 h4 hrow hrg hl0 hC
   go_wp2_with (go_at_call 175; refine hc.mono ?_; rintro e w' ⟨rfl, nq, os, rfl⟩)
   go_ret
   exact ⟨_, rfl, unhide HO1 _ _, unhide HB1 _ _⟩
  ·intro x c w2 cnt2 hwx hwc hlk hat hrg2 hlt hg2 hs2 hen
   have hrow2 := hrow.kept hg2 (Or.inr (row_ne_iter hrow hrg).symm)
   have hnx2 := hnx.grown hg2 hnx.size (fun j hj => by cases hj; exact hg1s)
   have hzz : w.heap.size ≤ w2.heap.size := hnx2.size
   clear hs2 hrow
   go_wp2_with (first
    | (at_builtin; refine wpList_append_own _ rfl _ _ 26 rfl w.heap.size 3 i0 (.int .i64 0) 1 8 Tryz.underlying26 hi hz0 hz1 hz2 rfl (by decide) _ _ _ rfl (hrow2.alloc _) ⟨w2.heap.size, 0, none⟩ 1 1 [.int .i64 x] rfl rfl (cell_one_new _ _ _) (by simp [Value.oneCell']) (by unfold maxLen at *; omega) (by omega) (by simp; omega) ?_; intro v' w3 hown' hg3 hnil3; go_frame)
    | go_in)
   have hrg3 := (hrg2.alloc _).kept hg3 (row_ne_low hrow2 hbl) (row_ne_iter hrow2 hrg2)
   go_roundw
   case rel =>
    refine ⟨_, cnt2, ss ++ [x], hrg3, by simp; omega, by simpa using hown', fun hv' => by have := (hnil3.1 hv').2; omega, hide ((unhide hC).step hlk hat), ?_⟩
    exact (hnx2.alloc hzz _).grown hg3 (by simp; omega) (fun j hj => (hrow2.lt j hj).1)
   case measure => rw [hrg3.left_eq, hrg.left_eq]; exact hlt
end Go.Proofs.YtmpmedbojfjnaaaGreatDoor
namespace Go.Proofs.YtmpmedbojfjnaaaGreatDoor
open Go.RowKit
set_option linter.unusedSectionVars false
variable [∀ (n : Int) (s : List Int), Decidable (OkL n s)]

set_option maxHeartbeats 4000000 in
set_option maxRecDepth 100000 in
theorem implCommon (va vb : Value) (xs ys : List Int) (w : World) (ha : RI w va xs) (hb : RI w vb ys) (wa : WfL xs) (wb : WfL ys) :
 Calls Tryz.prog 51 #[va, vb] w fun e w' => e = .returned (.int .i64 (comL xs ys : Int)) ∧ Below w.heap.size w w' := by
 have hla := ha.1
 have hlb := hb.1
 obtain ⟨aa, ca, rfl⟩ := ha.form
 obtain ⟨ab, cb, rfl⟩ := hb.form
 obtain ⟨w0, hw0⟩ : ∃ w0, w.alloc (.cells #[.slice aa xs.length ca] 26) = w0 := ⟨_, rfl⟩
 have B0 : Below w.heap.size w w0 := hw0 ▸ (Below.refl _ _).alloc (Nat.le_refl _) _
 have L0 : Loc w0 w.heap.size #[.slice aa xs.length ca] := hw0 ▸ loc_at w _ _ rfl
 have PL := hide (placesOf_any w.heap.size 1 (fun _ => .slice aa xs.length ca) (fun _ => xs) w0
  (fun k hk => by
   obtain rfl : k = 0 := by omega
   exact L0.cell 0 rfl)
  (fun k hk => ha.below B0 (Nat.le_refl _)) (fun k hk => wa) (by omega) (by simp [catL]; omega))
 have EC : catL (fun _ => xs) 1 = xs := by simp [catL]
 rw [EC] at PL
 have HB := hide hb
 have HW := hide wb
 have HLN : Hid ((xs.length : Int) - ((loneL xs ys).length : Int) = (comL xs ys : Int)) := hide (lone_len xs ys)
 have hll : (loneL xs ys).length ≤ xs.length := by unfold loneL; exact List.length_filter_le _ _
 clear ha hb wa wb EC L0
 generalize comL xs ys = cm at *
 obtain ⟨m, hm⟩ : ∃ m, ys.length = m := ⟨_, rfl⟩
 have Hm := hide hm
 rw [hm] at HB hlb ⊢
 clear hm
 go_enter Tryz.func51, Tryz.ntmps51
 go_wp2_with fail
 refine (unhide PL).mono ?_
 rintro _ w1 ⟨rfl, M1, b1⟩
 clear hw0 PL
 have B1 := B0.trans (b1.mono B0.size)
 obtain ⟨mb, hmb⟩ : ∃ mb, w0.heap.size = mb := ⟨_, rfl⟩
 have hml : w.heap.size ≤ mb := by rw [← hmb]; exact B0.size
 rw [hmb] at M1 ⊢
 clear hmb b1 B0
 have M1' : ∃ D, w1.ownsMap Tryz.prog 3 (plainElem (H := Unit) Tryz.prog 3) mb xs.length D ∧ Counts D (loneL xs (ys.take 0)) := by rw [List.take_zero, lone_nil]; exact M1
 clear M1
 go_wp2
 go_loopw [16] (fun j wr => ∃ k : Nat, k ≤ m ∧ j = .int .i64 k ∧ (∃ D, wr.ownsMap Tryz.prog 3 (plainElem (H := Unit) Tryz.prog 3) mb xs.length D ∧ Counts D (loneL xs (ys.take k))) ∧ Below w.heap.size w wr) (fun j _ => m - (intOf j).toNat)
 case atStart => exact ⟨0, Nat.zero_le _, rfl, M1', B1⟩
 case round =>
  clear M1' B1
  obtain ⟨k, hk, rfl, ⟨D, hown, hcnt⟩, br⟩ := hrel
  have CN := hide hcnt
  clear hcnt
  by_cases hlt : k < m
  ·have hkx : k < ys.length := by have := unhide Hm; omega
   obtain ⟨b, off, rfl, c⟩ := ((unhide HB).below br (Nat.le_refl _)).at k hkx
   have hkey : keyOf Tryz.prog 3 (.int .i64 (ys.getD k 0)) = some (.int .i64 (ys.getD k 0)) := Maps.keyOf_int_mk Tryz.underlying3 ((unhide HW).at k hkx)
   have HT := hide (show loneL xs (ys.take (k + 1)) = (loneL xs (ys.take k)).filter (fun y => decide (y ≠ ys.getD k 0)) by rw [itake_more ys k hkx, lone_snoc])
   generalize ys.getD k 0 = x at *
   go_wp2_with (first
    | (at_delete; refine wpList_delete_own _ rfl _ _ 136 3 rfl 3 klaw Tryz.underlying136 _ mb xs.length D rfl hown _ _ rfl hkey ?_; intro w2 hown2 hturn2)
    | go_in)
   have BQ := br.grown hturn2.grown br.size (fun j hj => by cases hj; exact hml)
   have M2 : ∃ D, w2.ownsMap Tryz.prog 3 (plainElem (H := Unit) Tryz.prog 3) mb xs.length D ∧ Counts D (loneL xs (ys.take (k + 1))) := ⟨_, hown2, by rw [unhide HT]; exact (unhide CN).del x⟩
   clear hown hown2 hturn2 CN
   go_roundw
   case rel => exact ⟨k + 1, by omega, by go_num, M2, BQ⟩
   case measure => simp [intOf]; omega
  ·have hkn : k = ys.length := by have := unhide Hm; omega
   have CM : Hid (Counts D (loneL xs ys)) := hide (by have := unhide CN; rw [hkn, List.take_length] at this; exact this)
   have hd2 : decide ((k : Int) < (m : Int)) = false := by simp; omega
   clear hkn CN
   generalize loneL xs ys = ls at *
   go_wp2_with (first
    | (at_range; refine wpList_range_own _ rfl _ 136 rfl 3 3 klaw Tryz.underlying136 _ mb xs.length D rfl hown ?_; intro w2 hrg0 hg0 hs0)
    | go_in)
   go_frame
   have BQ := br.grown hg0 br.size (fun j hj => by cases hj)
   have hsz0 := br.size
   go_loopw [8] (fun v wr2 => ∃ (left : Lit → Bool) (cnt : Nat), wr2.ranges Tryz.prog 3 (plainElem Tryz.prog 3) mb wr.heap.size xs.length D left cnt ∧ v = .int .i64 ((xs.length : Int) - (cameL ls left : Int)) ∧ Below w.heap.size w wr2) (fun _ wr2 => wr2.rangeLeft mb wr.heap.size)
   case atStart => exact ⟨_, _, hrg0, by rw [came_start (unhide CM)]; simp, BQ⟩
   case round =>
    clear hrg0 hg0 hs0 BQ br hown
    obtain ⟨left, cnt, hrg, rfl, bq⟩ := hrel
    have hcl := came_le ls left
    go_wp2_with (first
     | (at_next; refine wpList_next_ranges_ii _ rfl _ rfl 3 3 .i64 .i64 klaw Tryz.underlying3 Tryz.underlying3 mb _ xs.length _ _ _ rfl hrg ?_ ?_)
     | go_in)
    ·intro hc0 hl0
     have he := came_end ls left hl0
     rw [he]
     have HE := unhide HLN
     clear hrg hl0 he
     go_wp2
     go_ret
     exact ⟨by rw [← HE]; rfl, bq⟩
    ·intro x c w3 cnt3 hwx hwc hlk hat hrg3 hlt3 hg3 hs3 hen
     have hcc := (unhide CM).count hat
     have hce := came_step ls left x hlk
     have hcl3 := came_le ls (fun z => left z && !z.sameKey (kl x))
     have HV : Hid ((xs.length : Int) - (cameL ls (fun z => left z && !z.sameKey (kl x)) : Int) = (xs.length : Int) - (cameL ls left : Int) - c) := hide (by rw [hce, hcc]; omega)
     have hwr : wrap64 ((xs.length : Int) - (cameL ls left : Int) - c) = (xs.length : Int) - (cameL ls left : Int) - c := by unfold wrap64; rw [hcc]; omega
     have BQ := bq.grown hg3 bq.size (fun j hj => by cases hj; exact hsz0)
     clear hs3 hcc hce hcl3
     go_wp2
     go_roundw
     case rel => exact ⟨_, cnt3, hrg3, by rw [unhide HV]; first | rfl | (rw [hwr]) | (congr 1), BQ⟩
     case measure => rw [hrg3.left_eq, hrg.left_eq]; exact hlt3

set_option maxHeartbeats 1600000 in
set_option maxRecDepth 100000 in
theorem implSetJoin (va vb : Value) (xs ys : List Int) (w : World) (ha : RI w va xs) (hb : RI w vb ys) (wa : WfL xs) (wb : WfL ys) (hl : xs.length + ys.length ≤ 4194303) :
 Calls Tryz.prog 140 #[va, vb] w fun e w' => ∃ u, e = .returned u ∧ OI w' w.heap.size u (joinL xs ys) ∧ Below w.heap.size w w' := by
 obtain ⟨aa, ca, rfl⟩ := ha.form
 obtain ⟨ab, cb, rfl⟩ := hb.form
 obtain ⟨w0, hw0⟩ : ∃ w0, w.alloc (.cells #[.slice aa xs.length ca, .slice ab ys.length cb] 26) = w0 := ⟨_, rfl⟩
 have B0 : Below w.heap.size w w0 := hw0 ▸ (Below.refl _ _).alloc (Nat.le_refl _) _
 have L0 : Loc w0 w.heap.size #[.slice aa xs.length ca, .slice ab ys.length cb] := hw0 ▸ loc_at w _ _ rfl
 have PL := hide (placesOf_any w.heap.size 2 (fun k => if k = 0 then .slice aa xs.length ca else .slice ab ys.length cb) (fun k => if k = 0 then xs else ys) w0
  (fun k hk => by
   match k, hk with
   | 0, _ => exact L0.cell 0 rfl
   | 1, _ => exact L0.cell 1 rfl)
  (fun k hk => by
   match k, hk with
   | 0, _ => exact ha.below B0 (Nat.le_refl _)
   | 1, _ => exact hb.below B0 (Nat.le_refl _))
  (fun k hk => by
   match k, hk with
   | 0, _ => exact wa
   | 1, _ => exact wb)
  (by omega) (by simp [catL]; omega))
 have EC : catL (fun k => if k = 0 then xs else ys) 2 = xs ++ ys := by simp [catL]
 rw [EC] at PL
 have TO := hide fun b w h => told_any b xs ys w h (by rw [List.length_append]; omega)
 clear ha hb wa wb EC L0
 generalize joinL xs ys = js at *
 go_enter Tryz.func140, Tryz.ntmps140
 go_wp2_with fail
 refine (unhide PL).mono ?_
 rintro _ w1 ⟨rfl, M1, b1⟩
 clear hw0 PL
 have B1 := B0.trans (b1.mono B0.size)
 go_wp2_with fail
 refine (unhide TO _ _ M1).mono ?_
 rintro _ w2 ⟨u, rfl, o2, b2⟩
 have B2 := B1.trans (b2.mono B1.size)
 have O2 := OI.mono o2 B1.size
 clear M1 TO o2
 go_wp2
 go_ret
 exact ⟨_, rfl, O2, B2⟩
end Go.Proofs.YtmpmedbojfjnaaaGreatDoor
