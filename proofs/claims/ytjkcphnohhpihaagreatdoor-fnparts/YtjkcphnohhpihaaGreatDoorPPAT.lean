/- Lemmas; their conditions stand in each statement. -/
import Derived.Maps.RangeWalk
import Derived.Shelf.Sort.Plain
import Derived.Sort.OwnSortedInts
import Derived.Test.YtjkcphnohhpihaaGreatDoorPPAF
set_option maxRecDepth 100000
set_option maxHeartbeats 4000000
set_option linter.unusedSectionVars false
namespace Go.Proofs.YtjkcphnohhpihaaGreatDoor
section
open Go.RowKit
abbrev kl (x : Int) : Lit := .int .i64 x
abbrev nl (x : Int) : DataW Unit := .lit (.int .i64 x)
theorem kl_key (x : Int) : WideAt.IsKeyLit (kl x) := trivial
theorem kl_ne {x y : Int} (h : y ≠ x) : kl y ≠ kl x := fun e => h (by injection e)
theorem kl_same (x y : Int) : (kl y).sameKey (kl x) = decide (y = x) := by
 by_cases h : y = x
 ·subst h; simp [Lit.sameKey]
 simp [Lit.sameKey, h]
def Counts (D : DataW Unit) (L : List Int) : Prop :=
 Maps.IsMap D ∧ ∀ x : Int, Maps.has D (kl x) = decide (x ∈ L) ∧ D.atKey (kl x) (nl 0) = nl ((L.count x : Nat) : Int)
theorem Counts.start : Counts (.map []) [] := ⟨Maps.isMap_empty, fun x => ⟨by simp [Maps.has], by simp [DataW.atKey]⟩⟩
theorem Counts.put {D : DataW Unit} {L : List Int} (h : Counts D L) (x : Int) : Counts (D.put (kl x) (nl (((L.count x : Nat) : Int) + 1))) (L ++ [x]) := by
 refine ⟨h.1.put _ _, fun y => ?_⟩
 by_cases hy : y = x
 ·subst hy
  rw [Maps.has_put_same h.1 (kl_key _), Maps.atKey_put_same h.1 (kl_key _)]
  simp [List.count_append]
 rw [Maps.has_put_other (kl_ne hy), Maps.atKey_put_other (kl_ne hy), (h.2 y).1, (h.2 y).2]
 have hyx : ¬ x = y:=fun e => hy e.symm
 simp [List.count_append, hy, hyx]
theorem Counts.del {D : DataW Unit} {L : List Int} (h : Counts D L) (x : Int) : Counts (D.del (kl x)) (L.filter fun y => decide (y ≠ x)) := by
 refine ⟨h.1.del _, fun y => ?_⟩
 by_cases hy : y = x
 ·subst hy
  rw [Maps.has_del_same, Maps.atKey_del_same]
  have hc : (L.filter fun z => decide (z ≠ y)).count y = 0:=List.count_eq_zero.2 (by simp)
  rw [hc]
  exact ⟨by simp, rfl⟩
 rw [Maps.has_del_other (kl_ne hy), Maps.atKey_del_other (kl_ne hy), (h.2 y).1, (h.2 y).2]
 have hc : (L.filter fun z => decide (z ≠ x)).count y = L.count y:=List.count_filter (by simpa using hy)
 rw [hc]
 exact ⟨by simp [hy], rfl⟩
def loneL (a b : List Int) : List Int := a.filter fun x => decide (x ∉ b)
theorem lone_nil (a : List Int) : loneL a [] = a := by unfold loneL; simp
theorem lone_snoc (a b : List Int) (x : Int) : (loneL a b).filter (fun y => decide (y ≠ x)) = loneL a (b ++ [x]) := by
 unfold loneL
 rw [List.filter_filter]
 congr 1
 funext y
 by_cases h1 : y ∈ b <;> by_cases h2 : y = x <;> simp [h1, h2]
theorem lone_len (a b : List Int) : (a.length : Int) - ((loneL a b).length : Int) = (comL a b : Int) := by
 have:=com_split a b
 unfold loneL
 omega
def cameL (L : List Int) (left : Lit → Bool) : Nat := (L.filter fun y => !left (kl y)).length
theorem came_start {D : DataW Unit} {L : List Int} (h : Counts D L) : cameL L (Maps.has D) = 0 := by
 unfold cameL
 rw [List.length_eq_zero_iff, List.filter_eq_nil_iff]
 intro y hy
 simp [(h.2 y).1, hy]
theorem came_step (L : List Int) (left : Lit → Bool) (x : Int) (hx : left (kl x) = true) : cameL L (fun z => left z && !z.sameKey (kl x)) = cameL L left + L.count x := by
 unfold cameL
 induction L with
 | nil => rfl
 | cons c L ih =>
  rw [List.filter_cons, List.filter_cons, List.count_cons]
  by_cases hc : c = x
  ·subst hc
   simp only [kl_same, hx, beq_self_eq_true]
   simp
   simp [kl_same] at ih
   omega
  simp only [kl_same, decide_eq_false hc, Bool.not_false, Bool.and_true]
  have : (c == x) = false:=by simpa using hc
  simp only [this]
  simp only [kl_same] at ih
  split <;> simp_all <;> omega
theorem came_end (L : List Int) (left : Lit → Bool) (h : ∀ z, left z = false) : cameL L left = L.length := by
 unfold cameL
 simp [h]
theorem came_le (L : List Int) (left : Lit → Bool) : cameL L left ≤ L.length := List.length_filter_le _ _
theorem Counts.count {D : DataW Unit} {L : List Int} (h : Counts D L) {x c : Int} (hat : ∀ zd, D.atKey (kl x) zd = nl c) : c = ((L.count x : Nat) : Int) := by
 have:=(h.2 x).2
 rw [hat] at this
 simpa using this
def Coll (D : DataW Unit) (left : Lit → Bool) (ss : List Int) : Prop := ss.Nodup ∧ ∀ x, x ∈ ss ↔ (Maps.has D (kl x) = true ∧ left (kl x) = false)
theorem Coll.start (D : DataW Unit) : Coll D (Maps.has D) [] := ⟨List.nodup_nil, fun x => by cases Maps.has D (kl x) <;> simp⟩
theorem Coll.step {D : DataW Unit} {left : Lit → Bool} {ss : List Int} (h : Coll D left ss) {x c : Int} (hlk : left (kl x) = true) (hat : ∀ zd, D.atKey (kl x) zd = nl c) : Coll D (fun z => left z && !z.sameKey (kl x)) (ss ++ [x]) := by
 have hhas : Maps.has D (kl x) = true:=Maps.has_true_of_atKey hat
 have hnew : x ∉ ss:=fun hx => by have:=((h.2 x).1 hx).2; rw [hlk] at this; cases this
 refine ⟨List.nodup_append.2 ⟨h.1, by simp, fun a ha b hb => by simp at hb; subst hb; exact fun e => hnew (e ▸ ha)⟩, fun y => ?_⟩
 by_cases hy : y = x
 ·subst hy; simp [hhas, kl_same]
 simp [h.2 y, hy, kl_same]
theorem sorted_asc {ss : List Int} (h : ss.Nodup) : (ss.mergeSort fun x y => decide (x ≤ y)).Pairwise (· < ·) := by
 have p1 : (ss.mergeSort fun x y => decide (x ≤ y)).Pairwise (fun x y => decide (x ≤ y) = true):=List.pairwise_mergeSort (fun a b c h1 h2 => by simp at *; omega) (fun a b => by simp; omega) ss
 have p2 : (ss.mergeSort fun x y => decide (x ≤ y)).Nodup:=((List.mergeSort_perm ss _).nodup_iff).2 h
 have:=List.Pairwise.and p1 p2
 exact this.imp fun {a b} hh => by
  have h1:=hh.1
  have h2:=hh.2
  simp at h1
  omega
theorem Coll.joined {D : DataW Unit} {left : Lit → Bool} {ss a b : List Int} (h : Coll D left ss) (hc : Counts D (a ++ b)) (hl : ∀ z, left z = false) : (ss.mergeSort fun x y => decide (x ≤ y)) = joinL a b := by
 refine join_is (sorted_asc h.1) fun x => ?_
 rw [(List.mergeSort_perm ss _).mem_iff, h.2 x, (hc.2 x).1, hl]
 simp
theorem klaw : Maps.Keyed Tryz.prog 3 := Maps.int_keyed Tryz.underlying3
theorem kzero (w : World) : (zeroValue 3).run Tryz.prog w = .ok (.int .i64 0) w := by kernel_rfl
def MC (w : World) (b : Nat) (L : List Int) : Prop := ∃ D, w.ownsMap Tryz.prog 3 (plainElem (H := Unit) Tryz.prog 3) b L.length D ∧ Counts D L
theorem MC.kept {w w' : World} {b : Nat} {row : Option Nat} {L : List Int} (h : MC w b L) (hg : w.grownBy w' row) (hne : some b ≠ row) : MC w' b L := by
 obtain ⟨D, h1, h2⟩:=h; exact ⟨D, h1.kept hg hne, h2⟩
def catL (ls : Nat → List Int) : Nat → List Int
 | 0 => []
 | k + 1 => catL ls k ++ ls k
theorem cat_le (ls : Nat → List Int) {k n : Nat} (h : k ≤ n) : (catL ls k).length ≤ (catL ls n).length := by
 induction n with
 | zero => obtain rfl : k = 0 := by omega
           exact Nat.le_refl _
 | succ n ih =>
  by_cases e : k = n + 1
  ·subst e; exact Nat.le_refl _
  have:=ih (by omega)
  show _ ≤ (catL ls n ++ ls n).length
  rw [List.length_append]; omega
theorem cat_step (ls : Nat → List Int) {k n : Nat} (h : k < n) : (catL ls k).length + (ls k).length ≤ (catL ls n).length := by
 have:=cat_le ls (show k + 1 ≤ n from h)
 have e : (catL ls (k + 1)).length = (catL ls k).length + (ls k).length:=by show (catL ls k ++ ls k).length = _; rw [List.length_append]
 omega

theorem placesOf_any (g n : Nat) (vs : Nat → Value) (ls : Nat → List Int) (w : World) (hc : ∀ k, k < n → w.cell? ⟨g, k, none⟩ = some (vs k)) (hr : ∀ k, k < n → RI w (vs k) (ls k)) (hw : ∀ k, k < n → WfL (ls k)) (hn : n ≤ 4) (hl : (catL ls n).length ≤ 8388608) :
 Calls Tryz.prog 92 #[.slice (some ⟨g, 0, none⟩) n n] w fun e w' => e = .returned (.map (some w.heap.size)) ∧ MC w' w.heap.size (catL ls n) ∧ Below w.heap.size w w' := by
 have hmm:=@run_makeMap Tryz.prog
 have HC:=hide hc
 have HR:=hide hr
 have HW:=hide hw
 have M0 : MC (w.alloc (.map #[] 0)) w.heap.size []:=⟨_, World.ownsMap_made _ _ _ _, Counts.start⟩
 have B0 : Below w.heap.size w (w.alloc (.map #[] 0)):=(Below.refl _ _).alloc (Nat.le_refl _) _
 clear hc hr hw
 go_enter Tryz.func92, Tryz.ntmps92
 go_wp2
 go_loopw [11] (fun j wr => ∃ k : Nat, k ≤ n ∧ j = .int .i64 k ∧ MC wr w.heap.size (catL ls k) ∧ Below w.heap.size w wr) (fun j _ => n - (intOf j).toNat)
 case atStart => exact ⟨0, Nat.zero_le _, rfl, M0, B0⟩
 case round =>
  clear M0 B0
  obtain ⟨k, hk, rfl, M, br⟩:=hrel
  by_cases hlt : k < n
  ·have cg:=HC.out k hlt
   have HV:=hide (HR.out k hlt)
   have HX:=hide (HW.out k hlt)
   have hst:=cat_step ls hlt
   have cgr:=br.cell (p:=⟨g, k, none⟩) (cell_lt cg)
   rw [cg] at cgr
   have HE : Hid (catL ls (k + 1) = catL ls k ++ ls k):=hide rfl
   obtain ⟨ao, ca, hv⟩:=HV.out.form
   rw [hv] at cgr HV
   clear cg hv
   generalize catL ls k = L0 at *
   generalize ls k = xs at *
   have HM:=hide M
   have HB:=hide br
   obtain ⟨m, hm⟩ : ∃ m, xs.length = m:=⟨_, rfl⟩
   have Hm:=hide hm
   rw [hm] at HV hst cgr
   clear hm M
   go_wp2
   go_loopw [17] (fun j wq => ∃ q : Nat, q ≤ m ∧ j = .int .i64 q ∧ MC wq w.heap.size (L0 ++ xs.take q) ∧ Below w.heap.size w wq) (fun j _ => m - (intOf j).toNat)
   case atStart => exact ⟨0, Nat.zero_le _, rfl, by simpa using HM.out, HB.out⟩
   case round =>
    clear HM br cgr
    obtain ⟨q, hq, rfl, M, bq⟩:=hrel
    by_cases hlt2 : q < m
    ·have hqx : q < xs.length:=by have:=Hm.out; omega
     obtain ⟨b, off, rfl, c⟩:=(HV.out.below bq).at q hqx
     have hkey : keyOf Tryz.prog 3 (.int .i64 (xs.getD q 0)) = some (.int .i64 (xs.getD q 0)):=Maps.keyOf_int_mk Tryz.underlying3 (HX.out.at q hqx)
     have HT:=hide (show L0 ++ xs.take (q + 1) = (L0 ++ xs.take q) ++ [xs.getD q 0] by rw [itake_more xs q hqx, List.append_assoc])
     have hql : (L0 ++ xs.take q).length ≤ 8388607:=by rw [List.length_append, List.length_take]; have:=Hm.out; omega
     generalize xs.getD q 0 = x at *
     generalize L0 ++ xs.take q = L at *
     obtain ⟨D, hown, hcnt⟩:=M
     have CN:=hide hcnt
     clear hcnt
     go_wp2_with (first
      | (at_lookup; refine wpList_lookup_own_int _ rfl _ _ 113 rfl 3 3 .i64 klaw Tryz.underlying113 Tryz.underlying3 (kzero _) w.heap.size L.length D rfl hown _ _ rfl hkey ?_; intro c hat hwc)
      | (at_mapUpdate; refine wpList_mapUpdate_own _ rfl _ _ _ 113 rfl 3 3 klaw Tryz.underlying113 _ w.heap.size L.length D rfl hown (by unfold maxLen; omega) _ _ _ rfl rfl hkey _ [] (plainElem_int Tryz.underlying3 (wrap64_wf _)) ?_; intro w1 hown1 hgrow1)
      | go_in)
     have hcl : L.count x ≤ L.length:=List.count_le_length
     have hce : c = ((L.count x : Nat) : Int):=by have:=CN.out.2 x; have h2:=this.2.symm.trans hat; simpa using h2.symm
     have hwr : wrap64 (c + 1) = ((L.count x : Nat) : Int) + 1:=by unfold wrap64; omega
     have M1 : MC w1 w.heap.size (L ++ [x]):=⟨_, by rw [List.length_append, List.length_singleton]; exact hwr ▸ hown1, CN.out.put x⟩
     have BQ:=bq.grown hgrow1 bq.size (fun j hj => by cases hj; exact Nat.le_refl _)
     clear hown1 hgrow1 hown
     go_roundw
     case rel => exact ⟨q + 1, by omega, by go_num, by rw [HT.out]; exact M1, BQ⟩
     case measure => simp [intOf]; omega
    have hqm : q = xs.length:=by have:=Hm.out; omega
    have M1 : MC wr w.heap.size (catL ls (k + 1)):=by rw [HE.out]; rw [hqm, List.take_length] at M; exact M
    have hd2 : decide ((q : Int) < (m : Int)) = false:=by simp; omega
    clear M hqm
    go_wp2
    go_roundw
    case rel => exact ⟨k + 1, by omega, by go_num, M1, bq⟩
    case measure => simp [intOf]; omega
  have hkn : k = n:=by omega
  rw [hkn] at M
  have hd2 : decide ((k : Int) < (n : Int)) = false:=by simp; omega
  clear hkn
  go_wp2
  go_ret
  exact ⟨rfl, M, br⟩
end
end Go.Proofs.YtjkcphnohhpihaaGreatDoor
namespace Go.Proofs
open Go.Shelf
def Tryz.lays189_ren : Go.Shelf.Ren := ⟨fun | 189 => 131 | 125 => 136 | 257 => 135 | 128 => 149 | 129 => 150 | 294 => 140 | 295 => 141 | 296 => 142 | 297 => 143 | 298 => 144 | 299 => 145 | 216 => 146 | 300 => 147 | 301 => 148 | 328 => 156 | 329 => 157 | 330 => 158 | 331 => 159 | 332 => 160 | 215 => 114 | 343 => 169 | n => n, fun | 28 => 25 | 3 => 3 | 46 => 144 | 0 => 0 | 51 => 193 | 53 => 195 | 4 => 4 | 183 => 186 | 182 => 185 | 131 => 115 | 5 => 5 | 9 => 9 | 218 => 199 | 222 => 203 | 228 => 206 | 229 => 207 | n => n, fun | n => n⟩
theorem Tryz.lays189 : Go.Proofs.Lays.n189 Tryz.prog Tryz.lays189_ren := {
 mixed := by kernel_rfl
 f125 := Tryz.func136.trans (congrArg some (by kernel_rfl))
 f128 := Tryz.func149.trans (congrArg some (by kernel_rfl))
 f129 := Tryz.func150.trans (congrArg some (by kernel_rfl))
 f189 := Tryz.func131.trans (congrArg some (by kernel_rfl))
 f215 := Tryz.func114.trans (congrArg some (by kernel_rfl))
 f216 := Tryz.func146.trans (congrArg some (by kernel_rfl))
 f257 := Tryz.func135.trans (congrArg some (by kernel_rfl))
 f294 := Tryz.func140.trans (congrArg some (by kernel_rfl))
 f295 := Tryz.func141.trans (congrArg some (by kernel_rfl))
 f296 := Tryz.func142.trans (congrArg some (by kernel_rfl))
 f297 := Tryz.func143.trans (congrArg some (by kernel_rfl))
 f298 := Tryz.func144.trans (congrArg some (by kernel_rfl))
 f299 := Tryz.func145.trans (congrArg some (by kernel_rfl))
 f300 := Tryz.func147.trans (congrArg some (by kernel_rfl))
 f301 := Tryz.func148.trans (congrArg some (by kernel_rfl))
 f328 := Tryz.func156.trans (congrArg some (by kernel_rfl))
 f329 := Tryz.func157.trans (congrArg some (by kernel_rfl))
 f330 := Tryz.func158.trans (congrArg some (by kernel_rfl))
 f331 := Tryz.func159.trans (congrArg some (by kernel_rfl))
 f332 := Tryz.func160.trans (congrArg some (by kernel_rfl))
 f343 := Tryz.func169.trans (congrArg some (by kernel_rfl))
 t0 := Tryz.underlying0
 a0 := Tryz.isAgg0
 z0 := Tryz.sizeOf0
 v0 := Tryz.zeroValue0
 t3 := Tryz.underlying3
 a3 := Tryz.isAgg3
 z3 := Tryz.sizeOf3
 v3 := Tryz.zeroValue3
 t4 := Tryz.underlying4
 a4 := Tryz.isAgg4
 z4 := Tryz.sizeOf4
 v4 := Tryz.zeroValue4
 t5 := Tryz.underlying5
 a5 := Tryz.isAgg5
 z5 := Tryz.sizeOf5
 v5 := Tryz.zeroValue5
 t9 := Tryz.underlying9
 a9 := Tryz.isAgg9
 z9 := Tryz.sizeOf9
 v9 := Tryz.zeroValue9
 t28 := Tryz.underlying25
 a28 := Tryz.isAgg25
 z28 := Tryz.sizeOf25
 v28 := Tryz.zeroValue25
 t46 := Tryz.underlying144
 a46 := Tryz.isAgg144
 z46 := Tryz.sizeOf144
 v46 := Tryz.zeroValue144
 t51 := Tryz.underlying193
 a51 := Tryz.isAgg193
 z51 := Tryz.sizeOf193
 v51 := Tryz.zeroValue193
 t53 := Tryz.underlying195
 a53 := Tryz.isAgg195
 z53 := Tryz.sizeOf195
 v53 := Tryz.zeroValue195
 t131 := Tryz.underlying115
 a131 := Tryz.isAgg115
 z131 := Tryz.sizeOf115
 v131 := Tryz.zeroValue115
 t182 := Tryz.underlying185
 a182 := Tryz.isAgg185
 z182 := Tryz.sizeOf185
 v182 := Tryz.zeroValue185
 t183 := Tryz.underlying186
 a183 := Tryz.isAgg186
 z183 := Tryz.sizeOf186
 v183 := Tryz.zeroValue186
 t218 := Tryz.underlying199
 a218 := Tryz.isAgg199
 z218 := Tryz.sizeOf199
 v218 := Tryz.zeroValue199
 t222 := Tryz.underlying203
 a222 := Tryz.isAgg203
 z222 := Tryz.sizeOf203
 v222 := Tryz.zeroValue203
 t228 := Tryz.underlying206
 a228 := Tryz.isAgg206
 z228 := Tryz.sizeOf206
 v228 := Tryz.zeroValue206
 t229 := Tryz.underlying207
 a229 := Tryz.isAgg207
 z229 := Tryz.sizeOf207
 v229 := Tryz.zeroValue207 }
open Go.Sort Go.RowKit in
theorem Tryz.slices_Sort_int (blk off cap : Nat) (zs : List Int) (w : World) (hH : Holds (Value.int .i64) w blk off zs.toArray) (hblk : blk < w.heap.size) (hsz : zs.length < 4611686018427387904) :
 Calls Tryz.prog 131 #[.slice (some ⟨blk, off, none⟩) zs.length cap] w fun e w' =>
  e = .returned (.tuple #[]) ∧ ∃ n os, w' = grow (putRow (Value.int .i64) (Sort.ahead w n) blk off (zs.mergeSort fun x y => decide (x ≤ y)).toArray) os := Any.slices_Sort_int Tryz.lays189 blk off cap zs w hH hblk hsz
end Go.Proofs
namespace Go.Proofs.YtjkcphnohhpihaaGreatDoor
section
open Go.RowKit
theorem told_any (b : Nat) (xs ys : List Int) (w : World) (h : MC w b (xs ++ ys)) (hl : (xs ++ ys).length ≤ 8388608) :
 Calls Tryz.prog 119 #[.map (some b)] w fun e w' => ∃ u, e = .returned u ∧ OI w' w.heap.size u (joinL xs ys) ∧ Below w.heap.size w w' := by
 obtain ⟨i0, hi, hz0, hz1, hz2⟩:=info_parts Tryz.info3
 obtain ⟨D, hown, hcnt⟩:=h
 have hbl : b < w.heap.size:=hown.lt
 have CN:=hide hcnt
 have hsz : Maps.size D ≤ 8388608:=Nat.le_trans hown.size_le hl
 have SO:=hide fun blk off cap (zs : List Int) (w : World) h1 h2 h3 => Tryz.slices_Sort_int blk off cap zs w h1 h2 h3
 clear hcnt
 generalize (xs ++ ys).length = nn at *
 go_enter Tryz.func119, Tryz.ntmps119
 go_wp2_with (first
  | (at_len; refine wpList_len_own _ rfl _ 113 rfl 3 3 Tryz.underlying113 _ b nn D rfl hown ?_)
  | (at_make; refine wpList_make_own _ rfl _ _ 25 rfl w.heap.size 3 i0 (.int .i64 0) 1 Tryz.underlying25 hi hz0 hz1 _ _ _ (Maps.size D) rfl rfl rfl (by rw [hz2]; omega) (by unfold maxLen; omega) (Nat.le_refl _) ?_; intro w1 hrow1 hg1)
  | (at_range; refine wpList_range_own _ rfl _ 113 rfl 3 3 klaw Tryz.underlying113 _ b nn _ rfl (hown.kept hg1 (by simp)) ?_; intro w0 hrg0 hg0 hs0)
  | go_in)
 go_frame
 go_loopw [3] (fun v wr => ∃ (left : Lit → Bool) (cnt : Nat) (ss : List Int), wr.ranges Tryz.prog 3 (plainElem Tryz.prog 3) b w1.heap.size nn D left cnt ∧ ss.length + cnt ≤ Maps.size D ∧
  wr.ownsRow w.heap.size 3 1 v ss.length (ss.map (Value.int .i64)) ∧ v ≠ .slice none 0 0 ∧ Hid (Coll D left ss) ∧ Below w.heap.size w wr)
  (fun _ wr => wr.rangeLeft b w1.heap.size)
 case atStart =>
  exact ⟨_, _, [], hrg0, by simp, hrow1.kept hg0 (Or.inr (by simp [Value.ownBlock])), by simp, hide (Coll.start D),
   ((Below.refl _ _).grown hg1 (Nat.le_refl _) (fun j hj => by cases hj)).grown hg0 hg1.size (fun j hj => by cases hj)⟩
 case round =>
  have hg1s:=hg1.size
  clear hrg0 hg0 hs0 hrow1 hg1 hown
  obtain ⟨left, cnt, ss, hrg, hcs, hrow, hnn, hC, hnx⟩:=hrel
  go_wp2_with (first
   | (at_next; refine wpList_next_ranges_ii _ rfl _ rfl 3 3 .i64 .i64 klaw Tryz.underlying3 Tryz.underlying3 b w1.heap.size nn _ _ _ rfl hrg ?_ ?_)
   | go_in)
  ·intro hc0 hl0
   rcases hrow.2 with ⟨hnil, _⟩ | ⟨g, cap, cur, rfl, hbase, hb, h1, h2, h3, h4⟩
   ·exact absurd hnil hnn
   have hH : Sort.Holds (Value.int .i64) wr g 0 ss.toArray:=holds_of_blockI hb (by simpa using h4)
   have hgl : g < wr.heap.size:=(Array.getElem?_eq_some_iff.1 hb).1
   have hc:=SO.out g 0 cap ss wr hH hgl (by omega)
   have HJ:=hide (hC.out.joined CN.out hl0)
   have O1 : ∀ n os, OI (Go.Sort.grow (Go.Sort.putRow (Value.int .i64) (Sort.ahead wr n) g 0 (ss.mergeSort fun x y => decide (x ≤ y)).toArray) os) w.heap.size (.slice (some ⟨g, 0, none⟩) ss.length cap) (joinL xs ys):=fun n os => by
    have:=ownsRow_sortedI (n:=n) (os:=os) (ts:=ss.mergeSort fun x y => decide (x ≤ y)) (by simp) hbase hb h1 h2 h3
    have e : (joinL xs ys).length = ss.length:=by rw [← HJ.out]; simp
    unfold OI
    rw [e, ← HJ.out]
    exact this
   have B1 : ∀ n os, Below w.heap.size w (Go.Sort.grow (Go.Sort.putRow (Value.int .i64) (Sort.ahead wr n) g 0 (ss.mergeSort fun x y => decide (x ≤ y)).toArray) os):=fun n os => hnx.grown (grownBy_sortedI _) hnx.size (fun j hj => by cases hj; exact hbase)
   have HO1:=hide O1
   have HB1:=hide B1
   clear O1 B1 hb h1 h2 h3 h4 hrow hrg hl0 hC
   go_wp2_with (go_at_call 131; refine hc.mono ?_; rintro e w' ⟨rfl, nq, os, rfl⟩)
   go_ret
   exact ⟨_, rfl, HO1.out _ _, HB1.out _ _⟩
  intro x c w2 cnt2 hwx hwc hlk hat hrg2 hlt hg2 hs2 hen
  have hrow2:=hrow.kept hg2 (Or.inr (row_ne_iter hrow hrg).symm)
  have hnx2:=hnx.grown hg2 hnx.size (fun j hj => by cases hj; exact hg1s)
  have hzz : w.heap.size ≤ w2.heap.size:=hnx2.size
  clear hs2 hrow
  go_wp2_with (first
   | (at_builtin; refine wpList_append_own _ rfl _ _ 25 rfl w.heap.size 3 i0 (.int .i64 0) 1 8 Tryz.underlying25 hi hz0 hz1 hz2 rfl (by decide) _ _ _ rfl (hrow2.alloc _) ⟨w2.heap.size, 0, none⟩ 1 1 [.int .i64 x] rfl rfl (cell_one_new _ _ _) (by simp [Value.oneCell']) (by unfold maxLen at *; omega) (by omega) (by simp; omega) ?_; intro v' w3 hown' hg3 hnil3; go_frame)
   | go_in)
  have hrg3:=(hrg2.alloc _).kept hg3 (row_ne_low hrow2 hbl) (row_ne_iter hrow2 hrg2)
  go_roundw
  case rel =>
   refine ⟨_, cnt2, ss ++ [x], hrg3, by simp; omega, by simpa using hown', fun hv' => by have := (hnil3.1 hv').2; omega, hide (hC.out.step hlk hat), ?_⟩
   exact (hnx2.alloc hzz _).grown hg3 (by simp; omega) (fun j hj => (hrow2.lt j hj).1)
  case measure => rw [hrg3.left_eq, hrg.left_eq]; exact hlt
end
section
open Go.RowKit
variable [∀ (n : Int) (s : List Int), Decidable (OkL n s)]
theorem implCommon (va vb : Value) (xs ys : List Int) (w : World) (ha : RI w va xs) (hb : RI w vb ys) (wa : WfL xs) (wb : WfL ys) :
 Calls Tryz.prog 42 #[va, vb] w fun e w' => e = .returned (.int .i64 (comL xs ys : Int)) ∧ Below w.heap.size w w' := by
 have hla:=ha.1
 have hlb:=hb.1
 obtain ⟨aa, ca, rfl⟩:=ha.form
 obtain ⟨ab, cb, rfl⟩:=hb.form
 obtain ⟨w0, hw0⟩ : ∃ w0, w.alloc (.cells #[.slice aa xs.length ca] 25) = w0:=⟨_, rfl⟩
 have B0 : Below w.heap.size w w0:=hw0 ▸ (Below.refl _ _).alloc (Nat.le_refl _) _
 have L0 : Loc w0 w.heap.size #[.slice aa xs.length ca]:=hw0 ▸ loc_at w _ _ rfl
 have PL:=hide (placesOf_any w.heap.size 1 (fun _ => .slice aa xs.length ca) (fun _ => xs) w0
  (fun k hk => by
   obtain rfl : k = 0:=by omega
   exact L0.cell 0 rfl)
  (fun k hk => ha.below B0) (fun k hk => wa) (by omega) (by simp [catL]; omega))
 have EC : catL (fun _ => xs) 1 = xs:=by simp [catL]
 rw [EC] at PL
 have HB:=hide hb
 have HW:=hide wb
 have HLN : Hid ((xs.length : Int) - ((loneL xs ys).length : Int) = (comL xs ys : Int)):=hide (lone_len xs ys)
 have hll : (loneL xs ys).length ≤ xs.length:=by unfold loneL; exact List.length_filter_le _ _
 clear ha hb wa wb EC L0
 generalize comL xs ys = cm at *
 obtain ⟨m, hm⟩ : ∃ m, ys.length = m:=⟨_, rfl⟩
 have Hm:=hide hm
 rw [hm] at HB hlb ⊢
 clear hm
 go_enter Tryz.func42, Tryz.ntmps42
 go_wp2_with fail
 refine PL.out.mono ?_
 rintro _ w1 ⟨rfl, M1, b1⟩
 clear hw0 PL
 have B1:=bu B0 b1
 obtain ⟨mb, hmb⟩ : ∃ mb, w0.heap.size = mb:=⟨_, rfl⟩
 have hml : w.heap.size ≤ mb:=by rw [← hmb]; exact B0.size
 rw [hmb] at M1 ⊢
 clear hmb b1 B0
 have M1' : ∃ D, w1.ownsMap Tryz.prog 3 (plainElem (H:=Unit) Tryz.prog 3) mb xs.length D ∧ Counts D (loneL xs (ys.take 0)):=by rw [List.take_zero, lone_nil]; exact M1
 clear M1
 go_wp2
 go_loopw [16] (fun j wr => ∃ k : Nat, k ≤ m ∧ j = .int .i64 k ∧ (∃ D, wr.ownsMap Tryz.prog 3 (plainElem (H := Unit) Tryz.prog 3) mb xs.length D ∧ Counts D (loneL xs (ys.take k))) ∧ Below w.heap.size w wr) (fun j _ => m - (intOf j).toNat)
 case atStart => exact ⟨0, Nat.zero_le _, rfl, M1', B1⟩
 case round =>
  clear M1' B1
  obtain ⟨k, hk, rfl, ⟨D, hown, hcnt⟩, br⟩:=hrel
  have CN:=hide hcnt
  clear hcnt
  by_cases hlt : k < m
  ·have hkx : k < ys.length:=by have:=Hm.out; omega
   obtain ⟨b, off, rfl, c⟩:=(HB.out.below br).at k hkx
   have hkey : keyOf Tryz.prog 3 (.int .i64 (ys.getD k 0)) = some (.int .i64 (ys.getD k 0)):=Maps.keyOf_int_mk Tryz.underlying3 (HW.out.at k hkx)
   have HT:=hide (show loneL xs (ys.take (k + 1)) = (loneL xs (ys.take k)).filter (fun y => decide (y ≠ ys.getD k 0)) by rw [itake_more ys k hkx, lone_snoc])
   generalize ys.getD k 0 = x at *
   go_wp2_with (first
    | (at_delete; refine wpList_delete_own _ rfl _ _ 113 3 rfl 3 klaw Tryz.underlying113 _ mb xs.length D rfl hown _ _ rfl hkey ?_; intro w2 hown2 hturn2)
    | go_in)
   have BQ:=br.grown hturn2.grown br.size (fun j hj => by cases hj; exact hml)
   have M2 : ∃ D, w2.ownsMap Tryz.prog 3 (plainElem (H:=Unit) Tryz.prog 3) mb xs.length D ∧ Counts D (loneL xs (ys.take (k + 1))):=⟨_, hown2, by rw [HT.out]; exact CN.out.del x⟩
   clear hown hown2 hturn2 CN
   go_roundw
   case rel => exact ⟨k + 1, by omega, by go_num, M2, BQ⟩
   case measure => simp [intOf]; omega
  have hkn : k = ys.length:=by have:=Hm.out; omega
  have CM : Hid (Counts D (loneL xs ys)):=hide (by have:=CN.out; rw [hkn, List.take_length] at this; exact this)
  have hd2 : decide ((k : Int) < (m : Int)) = false:=by simp; omega
  clear hkn CN
  generalize loneL xs ys = ls at *
  go_wp2_with (first
   | (at_range; refine wpList_range_own _ rfl _ 113 rfl 3 3 klaw Tryz.underlying113 _ mb xs.length D rfl hown ?_; intro w2 hrg0 hg0 hs0)
   | go_in)
  go_frame
  have BQ:=br.grown hg0 br.size (fun j hj => by cases hj)
  have hsz0:=br.size
  go_loopw [8] (fun v wr2 => ∃ (left : Lit → Bool) (cnt : Nat), wr2.ranges Tryz.prog 3 (plainElem Tryz.prog 3) mb wr.heap.size xs.length D left cnt ∧ v = .int .i64 ((xs.length : Int) - (cameL ls left : Int)) ∧ Below w.heap.size w wr2) (fun _ wr2 => wr2.rangeLeft mb wr.heap.size)
  case atStart => exact ⟨_, _, hrg0, by rw [came_start CM.out]; simp, BQ⟩
  case round =>
   clear hrg0 hg0 hs0 BQ br hown
   obtain ⟨left, cnt, hrg, rfl, bq⟩:=hrel
   have hcl:=came_le ls left
   go_wp2_with (first
    | (at_next; refine wpList_next_ranges_ii _ rfl _ rfl 3 3 .i64 .i64 klaw Tryz.underlying3 Tryz.underlying3 mb _ xs.length _ _ _ rfl hrg ?_ ?_)
    | go_in)
   ·intro hc0 hl0
    have he:=came_end ls left hl0
    rw [he]
    have HE:=HLN.out
    clear hrg hl0 he
    go_wp2
    go_ret
    exact ⟨by rw [← HE]; rfl, bq⟩
   intro x c w3 cnt3 hwx hwc hlk hat hrg3 hlt3 hg3 hs3 hen
   have hcc:=CM.out.count hat
   have hce:=came_step ls left x hlk
   have hcl3:=came_le ls (fun z => left z && !z.sameKey (kl x))
   have HV : Hid ((xs.length : Int) - (cameL ls (fun z => left z && !z.sameKey (kl x)) : Int) = (xs.length : Int) - (cameL ls left : Int) - c):=hide (by rw [hce, hcc]; omega)
   have hwr : wrap64 ((xs.length : Int) - (cameL ls left : Int) - c) = (xs.length : Int) - (cameL ls left : Int) - c:=by unfold wrap64; rw [hcc]; omega
   have BQ:=bq.grown hg3 bq.size (fun j hj => by cases hj; exact hsz0)
   clear hs3 hcc hce hcl3
   go_wp2
   go_roundw
   case rel => exact ⟨_, cnt3, hrg3, by rw [HV.out]; first | rfl | (rw [hwr]) | (congr 1), BQ⟩
   case measure => rw [hrg3.left_eq, hrg.left_eq]; exact hlt3
theorem implSetJoin (va vb : Value) (xs ys : List Int) (w : World) (ha : RI w va xs) (hb : RI w vb ys) (wa : WfL xs) (wb : WfL ys) (hl : xs.length + ys.length ≤ 4194303) :
 Calls Tryz.prog 99 #[va, vb] w fun e w' => ∃ u, e = .returned u ∧ OI w' w.heap.size u (joinL xs ys) ∧ Below w.heap.size w w' := by
 obtain ⟨aa, ca, rfl⟩:=ha.form
 obtain ⟨ab, cb, rfl⟩:=hb.form
 obtain ⟨w0, hw0⟩ : ∃ w0, w.alloc (.cells #[.slice aa xs.length ca,.slice ab ys.length cb] 25) = w0:=⟨_, rfl⟩
 have B0 : Below w.heap.size w w0:=hw0 ▸ (Below.refl _ _).alloc (Nat.le_refl _) _
 have L0 : Loc w0 w.heap.size #[.slice aa xs.length ca,.slice ab ys.length cb]:=hw0 ▸ loc_at w _ _ rfl
 have PL:=hide (placesOf_any w.heap.size 2 (fun k => if k = 0 then .slice aa xs.length ca else .slice ab ys.length cb) (fun k => if k = 0 then xs else ys) w0
  (fun k hk => by
   match k, hk with
   | 0, _ => exact L0.cell 0 rfl
   | 1, _ => exact L0.cell 1 rfl)
  (fun k hk => by
   match k, hk with
   | 0, _ => exact ha.below B0
   | 1, _ => exact hb.below B0)
  (fun k hk => by
   match k, hk with
   | 0, _ => exact wa
   | 1, _ => exact wb)
  (by omega) (by simp [catL]; omega))
 have EC : catL (fun k => if k = 0 then xs else ys) 2 = xs ++ ys:=by simp [catL]
 rw [EC] at PL
 have TO:=hide fun b w h => told_any b xs ys w h (by rw [List.length_append]; omega)
 clear ha hb wa wb EC L0
 generalize joinL xs ys = js at *
 go_enter Tryz.func99, Tryz.ntmps99
 go_wp2_with fail
 refine PL.out.mono ?_
 rintro _ w1 ⟨rfl, M1, b1⟩
 clear hw0 PL
 have B1:=bu B0 b1
 go_wp2_with fail
 refine (TO.out _ _ M1).mono ?_
 rintro _ w2 ⟨u, rfl, o2, b2⟩
 have B2:=bu B1 b2
 have O2:=OI.mono o2 B1.size
 clear M1 TO o2
 go_wp2
 go_ret
 exact ⟨_, rfl, O2, B2⟩
end
end Go.Proofs.YtjkcphnohhpihaaGreatDoor
