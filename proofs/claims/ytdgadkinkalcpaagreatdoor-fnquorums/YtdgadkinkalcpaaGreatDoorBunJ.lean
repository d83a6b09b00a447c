/- Texts that belong together: SetMap, PlacesOf, CommonImpl. -/
import Derived.Test.YtdgadkinkalcpaaGreatDoorBunH
import Derived.Maps.OwnSet
import Derived.Maps.RangeWalk
import Derived.Test.YtdgadkinkalcpaaGreatDoorBunI
/- A map of numbers to how many: plain mathematics. -/
namespace Go.Proofs.YtdgadkinkalcpaaGreatDoor
open Go.RowKit

abbrev kl (x : Int) : Lit := .int .i64 x
abbrev nl (x : Int) : DataW Unit := .lit (.int .i64 x)
theorem kl_key (x : Int) : WideAt.IsKeyLit (kl x) := trivial
theorem kl_ne {x y : Int} (h : y ≠ x) : kl y ≠ kl x := fun e => h (by injection e)
theorem kl_same (x y : Int) : (kl y).sameKey (kl x) = decide (y = x) := by
  by_cases h : y = x
  · subst h; simp [Lit.sameKey]
  · simp [Lit.sameKey, h]
/-- The map D holds of each number at how many places of L it stands. -/
def Counts (D : DataW Unit) (L : List Int) : Prop :=
  Maps.IsMap D ∧ ∀ x : Int, Maps.has D (kl x) = decide (x ∈ L) ∧ D.atKey (kl x) (nl 0) = nl ((L.count x : Nat) : Int)
theorem Counts.start : Counts (.map []) [] := ⟨Maps.isMap_empty, fun x => ⟨by simp [Maps.has], by simp [DataW.atKey]⟩⟩
theorem Counts.put {D : DataW Unit} {L : List Int} (h : Counts D L) (x : Int) : Counts (D.put (kl x) (nl (((L.count x : Nat) : Int) + 1))) (L ++ [x]) := by
  refine ⟨h.1.put _ _, fun y => ?_⟩
  by_cases hy : y = x
  · subst hy
    rw [Maps.has_put_same h.1 (kl_key _), Maps.atKey_put_same h.1 (kl_key _)]
    simp [List.count_append]
  · rw [Maps.has_put_other (kl_ne hy), Maps.atKey_put_other (kl_ne hy), (h.2 y).1, (h.2 y).2]
    have hyx : ¬ x = y := fun e => hy e.symm
    simp [List.count_append, hy, hyx]
theorem Counts.del {D : DataW Unit} {L : List Int} (h : Counts D L) (x : Int) : Counts (D.del (kl x)) (L.filter fun y => decide (y ≠ x)) := by
  refine ⟨h.1.del _, fun y => ?_⟩
  by_cases hy : y = x
  · subst hy
    rw [Maps.has_del_same, Maps.atKey_del_same]
    have hc : (L.filter fun z => decide (z ≠ y)).count y = 0 := List.count_eq_zero.2 (by simp)
    rw [hc]
    exact ⟨by simp, rfl⟩
  · rw [Maps.has_del_other (kl_ne hy), Maps.atKey_del_other (kl_ne hy), (h.2 y).1, (h.2 y).2]
    have hc : (L.filter fun z => decide (z ≠ x)).count y = L.count y := List.count_filter (by simpa using hy)
    rw [hc]
    exact ⟨by simp [hy], rfl⟩
/-- Those of a that are in none of the first of b. -/
def loneL (a b : List Int) : List Int := a.filter fun x => decide (x ∉ b)
theorem lone_nil (a : List Int) : loneL a [] = a := by unfold loneL; simp
theorem lone_snoc (a b : List Int) (x : Int) : (loneL a b).filter (fun y => decide (y ≠ x)) = loneL a (b ++ [x]) := by
  unfold loneL
  rw [List.filter_filter]
  congr 1
  funext y
  by_cases h1 : y ∈ b <;> by_cases h2 : y = x <;> simp [h1, h2]
theorem lone_len (a b : List Int) : (a.length : Int) - ((loneL a b).length : Int) = (comL a b : Int) := by
  have := com_split a b
  unfold loneL
  omega
/-- How many places of L hold a number that has come. -/
def cameL (L : List Int) (left : Lit → Bool) : Nat := (L.filter fun y => !left (kl y)).length
theorem came_start {D : DataW Unit} {L : List Int} (h : Counts D L) : cameL L (Maps.has D) = 0 := by
  unfold cameL
  rw [List.length_eq_zero_iff, List.filter_eq_nil_iff]
  intro y hy
  simp [(h.2 y).1, hy]
theorem came_step (L : List Int) (left : Lit → Bool) (x : Int) (hx : left (kl x) = true) : cameL L (fun z => left z && !z.sameKey (kl x)) = cameL L left + L.count x := by
  unfold cameL
  induction L with
  | nil => rfl
  | cons c L ih =>
    rw [List.filter_cons, List.filter_cons, List.count_cons]
    by_cases hc : c = x
    · subst hc
      simp only [kl_same, hx, beq_self_eq_true]
      simp
      simp [kl_same] at ih
      omega
    · simp only [kl_same, decide_eq_false hc, Bool.not_false, Bool.and_true]
      have : (c == x) = false := by simpa using hc
      simp only [this]
      simp only [kl_same] at ih
      split <;> simp_all <;> omega
theorem came_end (L : List Int) (left : Lit → Bool) (h : ∀ z, left z = false) : cameL L left = L.length := by
  unfold cameL
  simp [h]
theorem came_le (L : List Int) (left : Lit → Bool) : cameL L left ≤ L.length := List.length_filter_le _ _
theorem Counts.count {D : DataW Unit} {L : List Int} (h : Counts D L) {x c : Int} (hat : ∀ zd, D.atKey (kl x) zd = nl c) : c = ((L.count x : Nat) : Int) := by
  have := (h.2 x).2
  rw [hat] at this
  simpa using this
/-- The keys that have come. -/
def Coll (D : DataW Unit) (left : Lit → Bool) (ss : List Int) : Prop := ss.Nodup ∧ ∀ x, x ∈ ss ↔ (Maps.has D (kl x) = true ∧ left (kl x) = false)
theorem Coll.start (D : DataW Unit) : Coll D (Maps.has D) [] := ⟨List.nodup_nil, fun x => by cases Maps.has D (kl x) <;> simp⟩
theorem Coll.step {D : DataW Unit} {left : Lit → Bool} {ss : List Int} (h : Coll D left ss) {x c : Int} (hlk : left (kl x) = true) (hat : ∀ zd, D.atKey (kl x) zd = nl c) : Coll D (fun z => left z && !z.sameKey (kl x)) (ss ++ [x]) := by
  have hhas : Maps.has D (kl x) = true := Maps.has_true_of_atKey hat
  have hnew : x ∉ ss := fun hx => by have := ((h.2 x).1 hx).2; rw [hlk] at this; cases this
  refine ⟨List.nodup_append.2 ⟨h.1, by simp, fun a ha b hb => by simp at hb; subst hb; exact fun e => hnew (e ▸ ha)⟩, fun y => ?_⟩
  by_cases hy : y = x
  · subst hy; simp [hhas, kl_same]
  · simp [h.2 y, hy, kl_same]
theorem sorted_asc {ss : List Int} (h : ss.Nodup) : (ss.mergeSort fun x y => decide (x ≤ y)).Pairwise (· < ·) := by
  have p1 : (ss.mergeSort fun x y => decide (x ≤ y)).Pairwise (fun x y => decide (x ≤ y) = true) := List.pairwise_mergeSort (fun a b c h1 h2 => by simp at *; omega) (fun a b => by simp; omega) ss
  have p2 : (ss.mergeSort fun x y => decide (x ≤ y)).Nodup := ((List.mergeSort_perm ss _).nodup_iff).2 h
  have := List.Pairwise.and p1 p2
  exact this.imp fun {a b} hh => by
    have h1 := hh.1
    have h2 := hh.2
    simp at h1
    omega
theorem Coll.joined {D : DataW Unit} {left : Lit → Bool} {ss a b : List Int} (h : Coll D left ss) (hc : Counts D (a ++ b)) (hl : ∀ z, left z = false) : (ss.mergeSort fun x y => decide (x ≤ y)) = joinL a b := by
  refine join_is (sorted_asc h.1) fun x => ?_
  rw [(List.mergeSort_perm ss _).mem_iff, h.2 x, (hc.2 x).1, hl]
  simp
end Go.Proofs.YtdgadkinkalcpaaGreatDoor

/- impl.placesOf. -/
namespace Go.Proofs.YtdgadkinkalcpaaGreatDoor
open Go.RowKit

theorem klaw : Maps.Keyed Tryz.prog 3 := Maps.int_keyed Tryz.underlying3
theorem kzero (w : World) : (zeroValue 3).run Tryz.prog w = .ok (.int .i64 0) w := by kernel_rfl
/-- Block b is a map that counts L. -/
def MC (w : World) (b : Nat) (L : List Int) : Prop := ∃ D, w.ownsMap Tryz.prog 3 (plainElem (H := Unit) Tryz.prog 3) b L.length D ∧ Counts D L
theorem MC.kept {w w' : World} {b : Nat} {row : Option Nat} {L : List Int} (h : MC w b L) (hg : w.grownBy w' row) (hne : some b ≠ row) : MC w' b L := by
  obtain ⟨D, h1, h2⟩ := h; exact ⟨D, h1.kept hg hne, h2⟩
/-- The first k lists, one behind the other. -/
def catL (ls : Nat → List Int) : Nat → List Int
  | 0 => []
  | k + 1 => catL ls k ++ ls k
theorem cat_le (ls : Nat → List Int) {k n : Nat} (h : k ≤ n) : (catL ls k).length ≤ (catL ls n).length := by
  induction n with
  | zero => obtain rfl : k = 0 := by omega
            exact Nat.le_refl _
  | succ n ih =>
    by_cases e : k = n + 1
    · subst e; exact Nat.le_refl _
    · have := ih (by omega)
      show _ ≤ (catL ls n ++ ls n).length
      rw [List.length_append]; omega
theorem cat_step (ls : Nat → List Int) {k n : Nat} (h : k < n) : (catL ls k).length + (ls k).length ≤ (catL ls n).length := by
  have := cat_le ls (show k + 1 ≤ n from h)
  have e : (catL ls (k + 1)).length = (catL ls k).length + (ls k).length := by show (catL ls k ++ ls k).length = _; rw [List.length_append]
  omega

set_option maxHeartbeats 4000000 in
set_option maxRecDepth 100000 in
theorem placesOf_any (g n : Nat) (vs : Nat → Value) (ls : Nat → List Int) (w : World) (hc : ∀ k, k < n → w.cell? ⟨g, k, none⟩ = some (vs k)) (hr : ∀ k, k < n → RI w (vs k) (ls k)) (hw : ∀ k, k < n → WfL (ls k)) (hn : n ≤ 4) (hl : (catL ls n).length ≤ 8388608) :
    Calls Tryz.prog 42 #[.slice (some ⟨g, 0, none⟩) n n] w fun e w' => e = .returned (.map (some w.heap.size)) ∧ MC w' w.heap.size (catL ls n) ∧ Below w.heap.size w w' := by
  have hmm := @run_makeMap Tryz.prog
  have HC := hide hc
  have HR := hide hr
  have HW := hide hw
  have M0 : MC (w.alloc (.map #[] 0)) w.heap.size [] := ⟨_, World.ownsMap_made _ _ _ _, Counts.start⟩
  have B0 : Below w.heap.size w (w.alloc (.map #[] 0)) := (Below.refl _ _).alloc (Nat.le_refl _) _
  clear hc hr hw
  go_enter Tryz.func42, Tryz.ntmps42
  go_wp2
  go_loopw [11] (fun j wr => ∃ k : Nat, k ≤ n ∧ j = .int .i64 k ∧ MC wr w.heap.size (catL ls k) ∧ Below w.heap.size w wr) (fun j _ => n - (intOf j).toNat)
  case atStart => exact ⟨0, Nat.zero_le _, rfl, M0, B0⟩
  case round =>
    clear M0 B0
    obtain ⟨k, hk, rfl, M, br⟩ := hrel
    by_cases hlt : k < n
    · have cg := unhide HC k hlt
      have HV := hide (unhide HR k hlt)
      have HX := hide (unhide HW k hlt)
      have hst := cat_step ls hlt
      have cgr := br.cell (p := ⟨g, k, none⟩) (cell_lt cg)
      rw [cg] at cgr
      have HE : Hid (catL ls (k + 1) = catL ls k ++ ls k) := hide rfl
      obtain ⟨ao, ca, hv⟩ := (unhide HV).form
      rw [hv] at cgr HV
      clear cg hv
      generalize catL ls k = L0 at *
      generalize ls k = xs at *
      have HM := hide M
      have HB := hide br
      obtain ⟨m, hm⟩ : ∃ m, xs.length = m := ⟨_, rfl⟩
      have Hm := hide hm
      rw [hm] at HV hst cgr
      clear hm M
      go_wp2
      go_loopw [17] (fun j wq => ∃ q : Nat, q ≤ m ∧ j = .int .i64 q ∧ MC wq w.heap.size (L0 ++ xs.take q) ∧ Below w.heap.size w wq) (fun j _ => m - (intOf j).toNat)
      case atStart => exact ⟨0, Nat.zero_le _, rfl, by simpa using unhide HM, unhide HB⟩
      case round =>
        clear HM br cgr
        obtain ⟨q, hq, rfl, M, bq⟩ := hrel
        by_cases hlt2 : q < m
        · have hqx : q < xs.length := by have := unhide Hm; omega
          obtain ⟨b, off, rfl, c⟩ := ((unhide HV).below bq (Nat.le_refl _)).at q hqx
          have hkey : keyOf Tryz.prog 3 (.int .i64 (xs.getD q 0)) = some (.int .i64 (xs.getD q 0)) := Maps.keyOf_int_mk Tryz.underlying3 ((unhide HX).at q hqx)
          have HT := hide (show L0 ++ xs.take (q + 1) = (L0 ++ xs.take q) ++ [xs.getD q 0] by rw [itake_more xs q hqx, List.append_assoc])
          have hql : (L0 ++ xs.take q).length ≤ 8388607 := by rw [List.length_append, List.length_take]; have := unhide Hm; omega
          generalize xs.getD q 0 = x at *
          generalize L0 ++ xs.take q = L at *
          obtain ⟨D, hown, hcnt⟩ := M
          have CN := hide hcnt
          clear hcnt
          go_wp2_with (first
            | (at_lookup; refine wpList_lookup_own_int _ rfl _ _ 60 rfl 3 3 .i64 klaw Tryz.underlying60 Tryz.underlying3 (kzero _) w.heap.size L.length D rfl hown _ _ rfl hkey ?_; intro c hat hwc)
            | (at_mapUpdate; refine wpList_mapUpdate_own _ rfl _ _ _ 60 rfl 3 3 klaw Tryz.underlying60 _ w.heap.size L.length D rfl hown (by unfold maxLen; omega) _ _ _ rfl rfl hkey _ [] (plainElem_int Tryz.underlying3 (wrap64_wf _)) ?_; intro w1 hown1 hgrow1)
            | go_in)
          have hcl : L.count x ≤ L.length := List.count_le_length
          have hce : c = ((L.count x : Nat) : Int) := by have := (unhide CN).2 x; have h2 := this.2.symm.trans hat; simpa using h2.symm
          have hwr : wrap64 (c + 1) = ((L.count x : Nat) : Int) + 1 := by unfold wrap64; omega
          have M1 : MC w1 w.heap.size (L ++ [x]) := ⟨_, by rw [List.length_append, List.length_singleton]; exact hwr ▸ hown1, (unhide CN).put x⟩
          have BQ := bq.grown hgrow1 bq.size (fun j hj => by cases hj; exact Nat.le_refl _)
          clear hown1 hgrow1 hown
          go_roundw
          case rel => exact ⟨q + 1, by omega, by go_num, by rw [unhide HT]; exact M1, BQ⟩
          case measure => simp [intOf]; omega
        · have hqm : q = xs.length := by have := unhide Hm; omega
          have M1 : MC wr w.heap.size (catL ls (k + 1)) := by rw [unhide HE]; rw [hqm, List.take_length] at M; exact M
          have hd2 : decide ((q : Int) < (m : Int)) = false := by simp; omega
          clear M hqm
          go_wp2
          go_roundw
          case rel => exact ⟨k + 1, by omega, by go_num, M1, bq⟩
          case measure => simp [intOf]; omega
    · have hkn : k = n := by omega
      rw [hkn] at M
      have hd2 : decide ((k : Int) < (n : Int)) = false := by simp; omega
      clear hkn
      go_wp2
      go_ret
      exact ⟨rfl, M, br⟩
end Go.Proofs.YtdgadkinkalcpaaGreatDoor

/- impl.Common. -/
namespace Go.Proofs.YtdgadkinkalcpaaGreatDoor
open Go.RowKit
set_option linter.unusedSectionVars false
variable [∀ (n : Int) (s : List Int), Decidable (OkL n s)]

set_option maxHeartbeats 4000000 in
set_option maxRecDepth 100000 in
theorem implCommon (va vb : Value) (xs ys : List Int) (w : World) (ha : RI w va xs) (hb : RI w vb ys) (wa : WfL xs) (wb : WfL ys) :
    Calls Tryz.prog 21 #[va, vb] w fun e w' => e = .returned (.int .i64 (comL xs ys : Int)) ∧ Below w.heap.size w w' := by
  have hla := ha.1
  have hlb := hb.1
  obtain ⟨aa, ca, rfl⟩ := ha.form
  obtain ⟨ab, cb, rfl⟩ := hb.form
  obtain ⟨w0, hw0⟩ : ∃ w0, w.alloc (.cells #[.slice aa xs.length ca] 26) = w0 := ⟨_, rfl⟩
  have B0 : Below w.heap.size w w0 := hw0 ▸ (Below.refl _ _).alloc (Nat.le_refl _) _
  have L0 : Loc w0 w.heap.size #[.slice aa xs.length ca] := hw0 ▸ loc_at w _ _ rfl
  have PL := hide (placesOf_any w.heap.size 1 (fun _ => .slice aa xs.length ca) (fun _ => xs) w0
    (fun k hk => by
      obtain rfl : k = 0 := by omega
      exact L0.cell 0 rfl)
    (fun k hk => ha.below B0 (Nat.le_refl _)) (fun k hk => wa) (by omega) (by simp [catL]; omega))
  have EC : catL (fun _ => xs) 1 = xs := by simp [catL]
  rw [EC] at PL
  have HB := hide hb
  have HW := hide wb
  have HLN : Hid ((xs.length : Int) - ((loneL xs ys).length : Int) = (comL xs ys : Int)) := hide (lone_len xs ys)
  have hll : (loneL xs ys).length ≤ xs.length := by unfold loneL; exact List.length_filter_le _ _
  clear ha hb wa wb EC L0
  generalize comL xs ys = cm at *
  obtain ⟨m, hm⟩ : ∃ m, ys.length = m := ⟨_, rfl⟩
  have Hm := hide hm
  rw [hm] at HB hlb ⊢
  clear hm
  go_enter Tryz.func21, Tryz.ntmps21
  go_wp2_with fail
  refine (unhide PL).mono ?_
  rintro _ w1 ⟨rfl, M1, b1⟩
  clear hw0 PL
  have B1 := B0.trans (b1.mono B0.size)
  obtain ⟨mb, hmb⟩ : ∃ mb, w0.heap.size = mb := ⟨_, rfl⟩
  have hml : w.heap.size ≤ mb := by rw [← hmb]; exact B0.size
  rw [hmb] at M1 ⊢
  clear hmb b1 B0
  have M1' : ∃ D, w1.ownsMap Tryz.prog 3 (plainElem (H := Unit) Tryz.prog 3) mb xs.length D ∧ Counts D (loneL xs (ys.take 0)) := by rw [List.take_zero, lone_nil]; exact M1
  clear M1
  go_wp2
  go_loopw [16] (fun j wr => ∃ k : Nat, k ≤ m ∧ j = .int .i64 k ∧ (∃ D, wr.ownsMap Tryz.prog 3 (plainElem (H := Unit) Tryz.prog 3) mb xs.length D ∧ Counts D (loneL xs (ys.take k))) ∧ Below w.heap.size w wr) (fun j _ => m - (intOf j).toNat)
  case atStart => exact ⟨0, Nat.zero_le _, rfl, M1', B1⟩
  case round =>
    clear M1' B1
    obtain ⟨k, hk, rfl, ⟨D, hown, hcnt⟩, br⟩ := hrel
    have CN := hide hcnt
    clear hcnt
    by_cases hlt : k < m
    · have hkx : k < ys.length := by have := unhide Hm; omega
      obtain ⟨b, off, rfl, c⟩ := ((unhide HB).below br (Nat.le_refl _)).at k hkx
      have hkey : keyOf Tryz.prog 3 (.int .i64 (ys.getD k 0)) = some (.int .i64 (ys.getD k 0)) := Maps.keyOf_int_mk Tryz.underlying3 ((unhide HW).at k hkx)
      have HT := hide (show loneL xs (ys.take (k + 1)) = (loneL xs (ys.take k)).filter (fun y => decide (y ≠ ys.getD k 0)) by rw [itake_more ys k hkx, lone_snoc])
      generalize ys.getD k 0 = x at *
      go_wp2_with (first
        | (at_delete; refine wpList_delete_own _ rfl _ _ 60 3 rfl 3 klaw Tryz.underlying60 _ mb xs.length D rfl hown _ _ rfl hkey ?_; intro w2 hown2 hturn2)
        | go_in)
      have BQ := br.grown hturn2.grown br.size (fun j hj => by cases hj; exact hml)
      have M2 : ∃ D, w2.ownsMap Tryz.prog 3 (plainElem (H := Unit) Tryz.prog 3) mb xs.length D ∧ Counts D (loneL xs (ys.take (k + 1))) := ⟨_, hown2, by rw [unhide HT]; exact (unhide CN).del x⟩
      clear hown hown2 hturn2 CN
      go_roundw
      case rel => exact ⟨k + 1, by omega, by go_num, M2, BQ⟩
      case measure => simp [intOf]; omega
    · have hkn : k = ys.length := by have := unhide Hm; omega
      have CM : Hid (Counts D (loneL xs ys)) := hide (by have := unhide CN; rw [hkn, List.take_length] at this; exact this)
      have hd2 : decide ((k : Int) < (m : Int)) = false := by simp; omega
      clear hkn CN
      generalize loneL xs ys = ls at *
      go_wp2_with (first
        | (at_range; refine wpList_range_own _ rfl _ 60 rfl 3 3 klaw Tryz.underlying60 _ mb xs.length D rfl hown ?_; intro w2 hrg0 hg0 hs0)
        | go_in)
      go_frame
      have BQ := br.grown hg0 br.size (fun j hj => by cases hj)
      have hsz0 := br.size
      go_loopw [8] (fun v wr2 => ∃ (left : Lit → Bool) (cnt : Nat), wr2.ranges Tryz.prog 3 (plainElem Tryz.prog 3) mb wr.heap.size xs.length D left cnt ∧ v = .int .i64 ((xs.length : Int) - (cameL ls left : Int)) ∧ Below w.heap.size w wr2) (fun _ wr2 => wr2.rangeLeft mb wr.heap.size)
      case atStart => exact ⟨_, _, hrg0, by rw [came_start (unhide CM)]; simp, BQ⟩
      case round =>
        clear hrg0 hg0 hs0 BQ br hown
        obtain ⟨left, cnt, hrg, rfl, bq⟩ := hrel
        have hcl := came_le ls left
        go_wp2_with (first
          | (at_next; refine wpList_next_ranges_ii _ rfl _ rfl 3 3 .i64 .i64 klaw Tryz.underlying3 Tryz.underlying3 mb _ xs.length _ _ _ rfl hrg ?_ ?_)
          | go_in)
        · intro hc0 hl0
          have he := came_end ls left hl0
          rw [he]
          have HE := unhide HLN
          clear hrg hl0 he
          go_wp2
          go_ret
          exact ⟨by rw [← HE]; rfl, bq⟩
        · intro x c w3 cnt3 hwx hwc hlk hat hrg3 hlt3 hg3 hs3 hen
          have hcc := (unhide CM).count hat
          have hce := came_step ls left x hlk
          have hcl3 := came_le ls (fun z => left z && !z.sameKey (kl x))
          have HV : Hid ((xs.length : Int) - (cameL ls (fun z => left z && !z.sameKey (kl x)) : Int) = (xs.length : Int) - (cameL ls left : Int) - c) := hide (by rw [hce, hcc]; omega)
          have hwr : wrap64 ((xs.length : Int) - (cameL ls left : Int) - c) = (xs.length : Int) - (cameL ls left : Int) - c := by unfold wrap64; rw [hcc]; omega
          have BQ := bq.grown hg3 bq.size (fun j hj => by cases hj; exact hsz0)
          clear hs3 hcc hce hcl3
          go_wp2
          go_roundw
          case rel => exact ⟨_, cnt3, hrg3, by rw [unhide HV]; first | rfl | (rw [hwr]) | (congr 1), BQ⟩
          case measure => rw [hrg3.left_eq, hrg.left_eq]; exact hlt3
end Go.Proofs.YtdgadkinkalcpaaGreatDoor
