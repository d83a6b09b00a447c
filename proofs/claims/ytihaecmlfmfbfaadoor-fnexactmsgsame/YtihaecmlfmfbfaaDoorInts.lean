/- Lists of numbers in memory; laws.szIntS, toIntS, eqIntS, markIntS, heldIntS. -/
import Derived.Test.YtihaecmlfmfbfaaDoorBase
import Derived.OwnWalk
namespace Go.Proofs.YtihaecmlfmfbfaaDoor
open Go.RowKit

theorem Tryd.info3 : (Tryd.prog.info? 3).map (fun i => (i.zero, i.size, i.bytes)) = some (some (.int .i64 0), 1, 8) := by kernel_rfl

/-- The slice value v reads as the numbers xs. -/
def RI (w : World) (v : Value) (xs : List Int) : Prop :=
  xs.length ≤ 4194304 ∧ ∃ ao cap, v = .slice ao xs.length cap ∧ (xs = [] ∨ ∃ b off, ao = some ⟨b, off, none⟩ ∧ ∀ k, k < xs.length → w.cell? ⟨b, off + k, none⟩ = some (.int .i64 (xs.getD k 0)))
/-- v is a list of the call's own, from block 'base' on, of the numbers xs. -/
def OI (w : World) (base : Nat) (v : Value) (xs : List Int) : Prop := w.ownsRow base 3 1 v xs.length (xs.map (Value.int .i64))

theorem OI.ri {w : World} {base : Nat} {v : Value} {xs : List Int} (h : OI w base v xs) (hl : xs.length ≤ 4194304) : RI w v xs := by
  refine ⟨hl, ?_⟩
  rcases h.2 with ⟨rfl, h0⟩ | ⟨g, cap, cur, rfl, _⟩
  · exact ⟨none, 0, by rw [h0], .inl (List.length_eq_zero_iff.1 h0)⟩
  · refine ⟨_, cap, rfl, .inr ⟨g, 0, rfl, fun k hk => ?_⟩⟩
    have := World.ownsRow.cellAt h k (by omega)
    rw [Nat.zero_add, this]
    simp [List.getElem?_map, List.getElem?_eq_getElem hk]
theorem OI.below {w w' : World} {base : Nat} {v : Value} {xs : List Int} (h : OI w base v xs) (hb : Below w.heap.size w w') : OI w' base v xs :=
  World.ownsRow.kept (row := none) h ⟨hb.os, hb.tape, hb.output, hb.size, fun k hk _ => hb.block k hk⟩ (by cases v.ownBlock <;> simp)
theorem OI.belowB {w w' : World} {B base : Nat} {v : Value} {xs : List Int} (h : OI w base v xs) (hb : Below B w w') (hB : w.heap.size ≤ B) : OI w' base v xs := h.below (hb.mono hB)
theorem OI.grown {w w' : World} {base : Nat} {row : Option Nat} {v : Value} {xs : List Int} (h : OI w base v xs) (hg : w.grownBy w' row) (hv : ∀ k, v.ownBlock = some k → row ≠ some k) : OI w' base v xs := by
  refine World.ownsRow.kept h hg ?_
  cases hv' : v.ownBlock with
  | none => exact .inl rfl
  | some k => exact .inr fun e => hv k hv' e.symm
theorem RI.below {w w' : World} {B : Nat} {v : Value} {xs : List Int} (h : RI w v xs) (hb : Below B w w') (hB : w.heap.size ≤ B) : RI w' v xs := by
  obtain ⟨hl, ao, cap, rfl, h⟩ := h
  refine ⟨hl, ao, cap, rfl, ?_⟩
  rcases h with h | ⟨b, off, rfl, h⟩
  · exact .inl h
  · refine .inr ⟨b, off, rfl, fun k hk => ?_⟩
    have := h k hk
    exact (hb.cell (Nat.lt_of_lt_of_le (cell_lt this) hB)).trans this
theorem below_drewN' {B : Nat} {w w' : World} (h : Below B w w') (n : Nat) : Below B w (w'.drewN n) := ⟨h.os, h.tape, h.output, h.size, h.block⟩

set_option maxHeartbeats 800000 in
set_option maxRecDepth 100000 in
theorem eqIntS_yes (va vb : Value) (xs : List Int) (w : World) (ha : RI w va xs) (hb : RI w vb xs) :
    Calls Tryd.prog 30 #[va, vb] w fun e w' => e = .returned (.bool true) ∧ ∃ n, w' = w.drewN n := by
  obtain ⟨hl, ao, ca, rfl, ha⟩ := ha
  obtain ⟨_, bo, cb, rfl, hb⟩ := hb
  generalize hn : xs.length = n at *
  have Hn : Hid (xs.length = n) := hn
  clear hn
  go_enter Tryd.func30, Tryd.ntmps30
  go_wp2
  go_loopw [5] (fun i wr => ∃ k : Nat, k ≤ n ∧ i = .int .i64 k ∧ ∃ m, wr = w.drewN m) (fun i _ => n - (intOf i).toNat)
  case atStart => exact ⟨0, Nat.zero_le _, rfl, 0, rfl⟩
  case round =>
    obtain ⟨k, hk, rfl, m, rfl⟩ := hrel
    by_cases hlt : k < n
    · rcases ha with ha | ⟨b, off, rfl, ha⟩
      · subst ha; have := Hn.out; simp at this; omega
      rcases hb with hb | ⟨b', off', rfl, hb⟩
      · subst hb; have := Hn.out; simp at this; omega
      have ha' := ha k hlt
      have hb' := hb k hlt
      clear ha hb
      generalize xs.getD k 0 = d at *
      go_wp2_with fail
      go_quiet (fail)
      go_wp2
      go_roundw
      case rel => exact ⟨k + 1, by omega, by go_num, _, rfl⟩
      case measure => simp [intOf]; omega
    · clear ha hb
      go_wp2
      go_ret
      exact ⟨rfl, _, rfl⟩

/-- The cells behind k rounds of the copy. -/
def ihalf (xs : List Int) (k : Nat) : List Value := ((xs.take k) ++ List.replicate (xs.length - k) 0).map (Value.int .i64)
theorem ihalf_zero (xs : List Int) : ihalf xs 0 = List.replicate xs.length (.int .i64 0) := by simp [ihalf]
theorem ihalf_all (xs : List Int) : ihalf xs xs.length = xs.map (Value.int .i64) := by simp [ihalf]
theorem ihalf_len (xs : List Int) (k : Nat) (h : k ≤ xs.length) : (ihalf xs k).length = xs.length := by simp [ihalf]; omega
theorem ihalf_set (xs : List Int) (k : Nat) (h : k < xs.length) : (ihalf xs k).set k (.int .i64 (xs.getD k 0)) = ihalf xs (k + 1) := by
  have e : xs.length - k = (xs.length - (k + 1)) + 1 := by omega
  have hk : (xs.take k).length = k := by simp; omega
  unfold ihalf
  rw [List.take_succ_eq_append_getElem h, e, List.replicate_succ, List.map_append, List.map_append, List.map_append, List.set_append_right _ _ (by simp; omega), List.length_map, hk, Nat.sub_self]
  simp [List.getElem?_eq_getElem h]

set_option maxHeartbeats 1600000 in
set_option maxRecDepth 100000 in
theorem toIntS_any (v : Value) (xs : List Int) (w : World) (h : RI w v xs) :
    Calls Tryd.prog 27 #[v] w fun e w' => ∃ u, e = .returned u ∧ OI w' w.heap.size u xs ∧ Below w.heap.size w w' := by
  obtain ⟨i0, hi, hz0, hz1, hz2⟩ := info_parts Tryd.info3
  obtain ⟨hl, ao, ca, rfl, ha⟩ := h
  obtain ⟨n, hn⟩ : ∃ n, xs.length = n := ⟨_, rfl⟩
  have Hn : Hid (xs.length = n) := hn
  rw [hn] at hl ⊢
  rw [hn] at ha
  clear hn
  go_enter Tryd.func27, Tryd.ntmps27
  go_wp2_with (first | (at_make; refine wpList_make_full _ rfl _ _ 22 rfl w.heap.size 3 i0 (.int .i64 0) 1 Tryd.underlying22 hi hz0 hz1 .i64 .i64 n n n rfl rfl rfl rfl (by rw [hz2]; omega) (by unfold maxLen; omega) (Nat.le_refl _) ?_; intro w0 ho0 hg0))
  have hstart : w0.ownsRow w.heap.size 3 1 (.slice (some ⟨w.heap.size, 0, none⟩) n n) n (ihalf xs 0) := by
    have e : (madeCells (Value.int IntKind.i64 0).cells (n * 1)).toList = ihalf xs 0 := by
      rw [ihalf_zero, Hn.out, Nat.mul_one]; exact toList_madeCells_one _ _
    rw [← e]; exact ho0
  have HB : Hid (Below w.heap.size w w0) := (Below.refl _ _).grown hg0 (Nat.le_refl _) (by simp)
  clear ho0 hg0
  go_loopw [4] (fun i wr => ∃ k : Nat, k ≤ n ∧ i = .int .i64 k ∧ wr.ownsRow w.heap.size 3 1 (.slice (some ⟨w.heap.size, 0, none⟩) n n) n (ihalf xs k) ∧ Below w.heap.size w wr) (fun i _ => n - (intOf i).toNat)
  case atStart => exact ⟨0, Nat.zero_le _, rfl, hstart, HB.out⟩
  case round =>
    clear hstart
    obtain ⟨k, hk, rfl, ho, hbel⟩ := hrel
    by_cases hlt : k < n
    · rcases ha with ha | ⟨b, off, rfl, ha⟩
      · subst ha; have := Hn.out; simp at this; omega
      have hkx : k < xs.length := by rw [Hn.out]; exact hlt
      have hc0 := ha k hlt
      have hc : wr.cell? ⟨b, off + k, none⟩ = some (.int .i64 (xs.getD k 0)) := (hbel.cell (cell_lt hc0)).trans hc0
      obtain ⟨u, hu⟩ : ∃ u, wr.cell? ⟨w.heap.size, k, none⟩ = some u := by
        have h1 := ho.cellAt k (by omega)
        have h2 : k < (ihalf xs k).length := by rw [ihalf_len xs k (by omega)]; exact hkx
        exact ⟨_, h1.trans (List.getElem?_eq_getElem h2)⟩
      have hfr := ho.frozenAt k
      have HS : Hid ((wr.setCell ⟨w.heap.size, k, none⟩ (.int .i64 (xs.getD k 0))).ownsRow w.heap.size 3 1 (.slice (some ⟨w.heap.size, 0, none⟩) n n) n (ihalf xs (k + 1))) := by
        rw [← ihalf_set xs k hkx]; exact (ho.stored k _).1
      have HG : Hid (Below w.heap.size w (wr.setCell ⟨w.heap.size, k, none⟩ (.int .i64 (xs.getD k 0)))) := hbel.setCell (Nat.le_refl _) _
      clear ha ho hbel hc0
      generalize xs.getD k 0 = d at *
      go_wp2
      go_roundw
      case rel => exact ⟨k + 1, by omega, by go_num, HS.out, HG.out⟩
      case measure => simp [intOf]; omega
    · have hkn : k = n := by omega
      have HO : Hid (OI wr w.heap.size (.slice (some ⟨w.heap.size, 0, none⟩) n n) xs) := by
        have h1 := ihalf_all xs
        rw [Hn.out] at h1
        unfold OI Hid
        rw [Hn.out, ← h1, ← hkn]; rw [← hkn] at ho; exact ho
      clear ha ho
      go_wp2
      go_ret
      exact ⟨_, rfl, HO.out, hbel⟩

set_option maxHeartbeats 400000 in
set_option maxRecDepth 100000 in
theorem szIntS_yes (ao : Option Addr) (n ca : Nat) (left : Int) (w : World) (hn : (n : Int) ≤ left) (hl : left ≤ 1048576) :
    Calls Tryd.prog 25 #[.slice ao n ca, .int .i64 left] w fun e w' => e = .returned (.int .i64 (left - n)) ∧ w' = w := by
  have hd : decide (left - (n : Int) < 0) = false := by simp; omega
  go_enter Tryd.func25, Tryd.ntmps25
  go_wp2
  go_ret
  exact ⟨rfl, rfl⟩
set_option maxHeartbeats 400000 in
set_option maxRecDepth 100000 in
theorem szIntS_no (ao : Option Addr) (n ca : Nat) (left : Int) (w : World) (h0 : 0 ≤ left) (hn : left < n) (hl : left ≤ 1048576) (hm : n ≤ 9223372036854775807) :
    Calls Tryd.prog 25 #[.slice ao n ca, .int .i64 left] w fun e w' => e = .returned (.int .i64 (-1)) ∧ w' = w := by
  have hd : decide (left - (n : Int) < 0) = true := by simp; omega
  go_enter Tryd.func25, Tryd.ntmps25
  go_wp2
  go_ret
  exact ⟨rfl, rfl⟩
end Go.Proofs.YtihaecmlfmfbfaaDoor
