/- laws.toByteS copies a list of bytes. -/
import Derived.Test.YtkjpjgecongkpaaEqByte
namespace Go.Proofs.Ytkjpjgecongkpaa
open Go.RowKit

/-- The cells behind k rounds of the copy. -/
def half (xs : List Int) (k : Nat) : List Value := ((xs.take k) ++ List.replicate (xs.length - k) 0).map (Value.int .u8)
theorem half_zero (xs : List Int) : half xs 0 = List.replicate xs.length (.int .u8 0) := by simp [half]
theorem half_all (xs : List Int) : half xs xs.length = xs.map (Value.int .u8) := by simp [half]
theorem half_len (xs : List Int) (k : Nat) (h : k ≤ xs.length) : (half xs k).length = xs.length := by simp [half]; omega
theorem half_set (xs : List Int) (k : Nat) (h : k < xs.length) : (half xs k).set k (.int .u8 (xs.getD k 0)) = half xs (k + 1) := by
  have e : xs.length - k = (xs.length - (k + 1)) + 1 := by omega
  have hk : (xs.take k).length = k := by simp; omega
  unfold half
  rw [List.take_succ_eq_append_getElem h, e, List.replicate_succ, List.map_append, List.map_append, List.map_append, List.set_append_right _ _ (by simp; omega), List.length_map, hk, Nat.sub_self]
  simp [List.getElem?_eq_getElem h]

set_option maxHeartbeats 1600000 in
set_option maxRecDepth 100000 in
theorem toByte_any (v : Value) (xs : List Int) (w : World) (h : RB w v xs) :
    Calls Try.prog 23 #[v] w fun e w' => ∃ u, e = .returned u ∧ OB w' w.heap.size u xs ∧ Below w.heap.size w w' := by
  obtain ⟨i0, hi, hz0, hz1, hz2⟩ := info_parts Try.info5
  obtain ⟨hl, ao, ca, rfl, _, ha⟩ := h
  obtain ⟨n, hn⟩ : ∃ n, xs.length = n := ⟨_, rfl⟩
  have Hn : Hid (xs.length = n) := hn
  rw [hn] at hl ⊢
  rw [hn] at ha
  clear hn
  go_enter Try.func23, Try.ntmps23
  go_wp2_with (first | (at_make; refine wpList_make_full _ rfl _ _ 22 rfl w.heap.size 5 i0 (.int .u8 0) 1 Try.underlying22 hi hz0 hz1 .i64 .i64 n n n rfl rfl rfl rfl (by rw [hz2]; omega) (by unfold maxLen; omega) (Nat.le_refl _) ?_; intro w0 ho0 hg0))
  have hstart : w0.ownsRow w.heap.size 5 1 (.slice (some ⟨w.heap.size, 0, none⟩) n n) n (half xs 0) := by
    have e : (madeCells (Value.int IntKind.u8 0).cells (n * 1)).toList = half xs 0 := by
      rw [half_zero, Hn.out, Nat.mul_one]; exact toList_madeCells_one _ _
    rw [← e]; exact ho0
  have HB : Hid (Below w.heap.size w w0) := (Below.refl _ _).grown hg0 (Nat.le_refl _) (by simp)
  clear ho0 hg0
  go_loopw [4] (fun i wr => ∃ k : Nat, k ≤ n ∧ i = .int .i64 k ∧ wr.ownsRow w.heap.size 5 1 (.slice (some ⟨w.heap.size, 0, none⟩) n n) n (half xs k) ∧ Below w.heap.size w wr) (fun i _ => n - (intOf i).toNat)
  case atStart => exact ⟨0, Nat.zero_le _, rfl, hstart, HB.out⟩
  case round =>
    clear hstart
    obtain ⟨k, hk, rfl, ho, hbel⟩ := hrel
    by_cases hlt : k < n
    · rcases ha with ha | ⟨b, off, rfl, ha⟩
      · subst ha; have := Hn.out; simp at this; omega
      have hkx : k < xs.length := by rw [Hn.out]; exact hlt
      have hc0 := ha k hlt
      have hc : wr.cell? ⟨b, off + k, none⟩ = some (.int .u8 (xs.getD k 0)) := (hbel.cell (cell_lt hc0)).trans hc0
      obtain ⟨u, hu⟩ : ∃ u, wr.cell? ⟨w.heap.size, k, none⟩ = some u := by
        have h1 := ho.cellAt k (by omega)
        have h2 : k < (half xs k).length := by rw [half_len xs k (by omega)]; exact hkx
        exact ⟨_, h1.trans (List.getElem?_eq_getElem h2)⟩
      have hfr := ho.frozenAt k
      have HS : Hid ((wr.setCell ⟨w.heap.size, k, none⟩ (.int .u8 (xs.getD k 0))).ownsRow w.heap.size 5 1 (.slice (some ⟨w.heap.size, 0, none⟩) n n) n (half xs (k + 1))) := by
        rw [← half_set xs k hkx]; exact (ho.stored k _).1
      have HG : Hid (Below w.heap.size w (wr.setCell ⟨w.heap.size, k, none⟩ (.int .u8 (xs.getD k 0)))) := hbel.setCell (Nat.le_refl _) _
      clear ha ho hbel hc0
      generalize xs.getD k 0 = d at *
      go_wp2
      go_roundw
      case rel => exact ⟨k + 1, by omega, by go_num, HS.out, HG.out⟩
      case measure => simp [intOf]; omega
    · have hkn : k = n := by omega
      have HO : Hid (OB wr w.heap.size (.slice (some ⟨w.heap.size, 0, none⟩) n n) xs) := by
        have h1 := half_all xs
        rw [Hn.out] at h1
        unfold OB Hid
        rw [Hn.out, ← h1, ← hkn]; rw [← hkn] at ho; exact ho
      clear ha ho
      go_wp2
      go_ret
      exact ⟨_, rfl, HO.out, hbel⟩
end Go.Proofs.Ytkjpjgecongkpaa
