/- impl.placesOf. -/
import Derived.Test.YtehdchpolgihlaaDoorPjAG
import Derived.Test.YtehdchpolgihlaaDoorPjAE
/- impl.placesOf. -/
namespace Go.Proofs.YtehdchpolgihlaaDoor
open Go.RowKit

theorem klaw : Maps.Keyed Tryd.prog 3 := Maps.int_keyed Tryd.underlying3
theorem kzero (w : World) : (zeroValue 3).run Tryd.prog w = .ok (.int .i64 0) w := by kernel_rfl
/-- Block b is a map that counts L. -/
def MC (w : World) (b : Nat) (L : List Int) : Prop := ∃ D, w.ownsMap Tryd.prog 3 (plainElem (H := Unit) Tryd.prog 3) b L.length D ∧ Counts D L
theorem MC.kept {w w' : World} {b : Nat} {row : Option Nat} {L : List Int} (h : MC w b L) (hg : w.grownBy w' row) (hne : some b ≠ row) : MC w' b L := by
  obtain ⟨D, h1, h2⟩ := h; exact ⟨D, h1.kept hg hne, h2⟩
/-- The first k lists, one behind the other. -/
def catL (ls : Nat → List Int) : Nat → List Int
  | 0 => []
  | k + 1 => catL ls k ++ ls k
theorem cat_le (ls : Nat → List Int) {k n : Nat} (h : k ≤ n) : (catL ls k).length ≤ (catL ls n).length := by
  induction n with
  | zero => obtain rfl : k = 0 := by omega
            exact Nat.le_refl _
  | succ n ih =>
    by_cases e : k = n + 1
    · subst e; exact Nat.le_refl _
    · have := ih (by omega)
      show _ ≤ (catL ls n ++ ls n).length
      rw [List.length_append]; omega
theorem cat_step (ls : Nat → List Int) {k n : Nat} (h : k < n) : (catL ls k).length + (ls k).length ≤ (catL ls n).length := by
  have := cat_le ls (show k + 1 ≤ n from h)
  have e : (catL ls (k + 1)).length = (catL ls k).length + (ls k).length := by show (catL ls k ++ ls k).length = _; rw [List.length_append]
  omega

set_option maxHeartbeats 4000000 in
set_option maxRecDepth 100000 in
theorem placesOf_any (g n : Nat) (vs : Nat → Value) (ls : Nat → List Int) (w : World) (hc : ∀ k, k < n → w.cell? ⟨g, k, none⟩ = some (vs k)) (hr : ∀ k, k < n → RI w (vs k) (ls k)) (hw : ∀ k, k < n → WfL (ls k)) (hn : n ≤ 4) (hl : (catL ls n).length ≤ 8388608) :
    Calls Tryd.prog 52 #[.slice (some ⟨g, 0, none⟩) n n] w fun e w' => e = .returned (.map (some w.heap.size)) ∧ MC w' w.heap.size (catL ls n) ∧ Below w.heap.size w w' := by
  have hmm := @run_makeMap Tryd.prog
  have HC := hide hc
  have HR := hide hr
  have HW := hide hw
  have M0 : MC (w.alloc (.map #[] 0)) w.heap.size [] := ⟨_, World.ownsMap_made _ _ _ _, Counts.start⟩
  have B0 : Below w.heap.size w (w.alloc (.map #[] 0)) := (Below.refl _ _).alloc (Nat.le_refl _) _
  clear hc hr hw
  go_enter Tryd.func52, Tryd.ntmps52
  go_wp2
  go_loopw [11] (fun j wr => ∃ k : Nat, k ≤ n ∧ j = .int .i64 k ∧ MC wr w.heap.size (catL ls k) ∧ Below w.heap.size w wr) (fun j _ => n - (intOf j).toNat)
  case atStart => exact ⟨0, Nat.zero_le _, rfl, M0, B0⟩
  case round =>
    clear M0 B0
    obtain ⟨k, hk, rfl, M, br⟩ := hrel
    by_cases hlt : k < n
    · have cg := unhide HC k hlt
      have HV := hide (unhide HR k hlt)
      have HX := hide (unhide HW k hlt)
      have hst := cat_step ls hlt
      have cgr := br.cell (p := ⟨g, k, none⟩) (cell_lt cg)
      rw [cg] at cgr
      have HE : Hid (catL ls (k + 1) = catL ls k ++ ls k) := hide rfl
      obtain ⟨ao, ca, hv⟩ := (unhide HV).form
      rw [hv] at cgr HV
      clear cg hv
      generalize catL ls k = L0 at *
      generalize ls k = xs at *
      have HM := hide M
      have HB := hide br
      obtain ⟨m, hm⟩ : ∃ m, xs.length = m := ⟨_, rfl⟩
      have Hm := hide hm
      rw [hm] at HV hst cgr
      clear hm M
      go_wp2
      go_loopw [17] (fun j wq => ∃ q : Nat, q ≤ m ∧ j = .int .i64 q ∧ MC wq w.heap.size (L0 ++ xs.take q) ∧ Below w.heap.size w wq) (fun j _ => m - (intOf j).toNat)
      case atStart => exact ⟨0, Nat.zero_le _, rfl, by simpa using unhide HM, unhide HB⟩
      case round =>
        clear HM br cgr
        obtain ⟨q, hq, rfl, M, bq⟩ := hrel
        by_cases hlt2 : q < m
        · have hqx : q < xs.length := by have := unhide Hm; omega
          obtain ⟨b, off, rfl, c⟩ := ((unhide HV).below bq (Nat.le_refl _)).at q hqx
          have hkey : keyOf Tryd.prog 3 (.int .i64 (xs.getD q 0)) = some (.int .i64 (xs.getD q 0)) := Maps.keyOf_int_mk Tryd.underlying3 ((unhide HX).at q hqx)
          have HT := hide (show L0 ++ xs.take (q + 1) = (L0 ++ xs.take q) ++ [xs.getD q 0] by rw [itake_more xs q hqx, List.append_assoc])
          have hql : (L0 ++ xs.take q).length ≤ 8388607 := by rw [List.length_append, List.length_take]; have := unhide Hm; omega
          generalize xs.getD q 0 = x at *
          generalize L0 ++ xs.take q = L at *
          obtain ⟨D, hown, hcnt⟩ := M
          have CN := hide hcnt
          clear hcnt
          go_wp2_with (first
            | (at_lookup; refine wpList_lookup_own_int _ rfl _ _ 83 rfl 3 3 .i64 klaw Tryd.underlying83 Tryd.underlying3 (kzero _) w.heap.size L.length D rfl hown _ _ rfl hkey ?_; intro c hat hwc)
            | (at_mapUpdate; refine wpList_mapUpdate_own _ rfl _ _ _ 83 rfl 3 3 klaw Tryd.underlying83 _ w.heap.size L.length D rfl hown (by unfold maxLen; omega) _ _ _ rfl rfl hkey _ [] (plainElem_int Tryd.underlying3 (wrap64_wf _)) ?_; intro w1 hown1 hgrow1)
            | go_in)
          have hcl : L.count x ≤ L.length := List.count_le_length
          have hce : c = ((L.count x : Nat) : Int) := by have := (unhide CN).2 x; have h2 := this.2.symm.trans hat; simpa using h2.symm
          have hwr : wrap64 (c + 1) = ((L.count x : Nat) : Int) + 1 := by unfold wrap64; omega
          have M1 : MC w1 w.heap.size (L ++ [x]) := ⟨_, by rw [List.length_append, List.length_singleton]; exact hwr ▸ hown1, (unhide CN).put x⟩
          have BQ := bq.grown hgrow1 bq.size (fun j hj => by cases hj; exact Nat.le_refl _)
          clear hown1 hgrow1 hown
          go_roundw
          case rel => exact ⟨q + 1, by omega, by go_num, by rw [unhide HT]; exact M1, BQ⟩
          case measure => simp [intOf]; omega
        · have hqm : q = xs.length := by have := unhide Hm; omega
          have M1 : MC wr w.heap.size (catL ls (k + 1)) := by rw [unhide HE]; rw [hqm, List.take_length] at M; exact M
          have hd2 : decide ((q : Int) < (m : Int)) = false := by simp; omega
          clear M hqm
          go_wp2
          go_roundw
          case rel => exact ⟨k + 1, by omega, by go_num, M1, bq⟩
          case measure => simp [intOf]; omega
    · have hkn : k = n := by omega
      rw [hkn] at M
      have hd2 : decide ((k : Int) < (n : Int)) = false := by simp; omega
      clear hkn
      go_wp2
      go_ret
      exact ⟨rfl, M, br⟩
end Go.Proofs.YtehdchpolgihlaaDoor
