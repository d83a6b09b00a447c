/- impl.digitsOf: a list of numbers told. -/
import Derived.Test.YtihaecmlfmfbfaaDoorJoinStr
import Derived.Test.YtihaecmlfmfbfaaDoorDigits
import Derived.Test.YtihaecmlfmfbfaaDoorInts
namespace Go.Proofs.YtihaecmlfmfbfaaDoor
open Go.RowKit

/-- A number's text. -/
def dgt (n : Int) : ByteArray := ⟨(Lib.itoa n).toArray⟩
theorem dgt_list (n : Int) : (dgt n).data.toList = Lib.itoa n := by simp [dgt]
/-- The cells behind k rounds. -/
def shalf (xs : List Int) (k : Nat) : List Value := ((xs.take k).map dgt ++ List.replicate (xs.length - k) (⟨#[]⟩ : ByteArray)).map Value.string
theorem shalf_zero (xs : List Int) : shalf xs 0 = List.replicate xs.length (.string ⟨#[]⟩) := by simp [shalf]
theorem shalf_all (xs : List Int) : shalf xs xs.length = (xs.map dgt).map Value.string := by simp [shalf]
theorem shalf_len (xs : List Int) (k : Nat) (h : k ≤ xs.length) : (shalf xs k).length = xs.length := by simp [shalf]; omega
theorem shalf_set (xs : List Int) (k : Nat) (h : k < xs.length) : (shalf xs k).set k (.string (dgt (xs.getD k 0))) = shalf xs (k + 1) := by
  have e : xs.length - k = (xs.length - (k + 1)) + 1 := by omega
  have hk : ((xs.take k).map dgt).length = k := by simp; omega
  unfold shalf
  rw [List.take_succ_eq_append_getElem h, e, List.replicate_succ, List.map_append, List.map_append, List.map_append, List.map_append, List.set_append_right _ _ (by rw [List.length_map, hk]; exact Nat.le_refl _), List.length_map, hk, Nat.sub_self]
  simp [List.getElem?_eq_getElem h]
theorem getD_memI {xs : List Int} {k : Nat} (h : k < xs.length) : xs.getD k 0 ∈ xs := by
  rw [List.getD_eq_getElem?_getD, List.getElem?_eq_getElem h]
  exact List.getElem_mem h
/-- Numbers such as int holds. -/
def In64 (xs : List Int) : Prop := ∀ x ∈ xs, -9223372036854775808 ≤ x ∧ x ≤ 9223372036854775807
theorem dgt_size {n : Int} (h0 : -9223372036854775808 ≤ n) (h1 : n ≤ 9223372036854775807) : 0 < (dgt n).size ∧ (dgt n).size ≤ 21 := by
  have h2 : (dgt n).size = (Lib.itoa n).length := by simp [dgt, ByteArray.size]
  have h3 := Lib.itoa_length_le n h0 h1
  have h4 := List.length_pos_iff.2 (itoa_parts n).1
  omega

set_option maxHeartbeats 1600000 in
set_option maxRecDepth 100000 in
theorem digitsOf_any (v : Value) (xs : List Int) (w : World) (h : RI w v xs) (hw : In64 xs) (hP : Pow w) :
    Calls Tryd.prog 32 #[v] w fun e w' => e = .returned (.string ⟨(digL xs).toArray⟩) ∧ Below w.heap.size w w' := by
  obtain ⟨i0, hi, hz0, hz1, hz2⟩ := info_parts Tryd.info9
  obtain ⟨hl, ao, ca, rfl, ha⟩ := h
  have HJ : Hid (∀ w', (∀ k, k < (xs.map dgt).length → w'.cell? ⟨w.heap.size, k, none⟩ = some (.string ((xs.map dgt).getD k ⟨#[]⟩))) →
      Calls Tryd.prog 35 #[.slice (some ⟨w.heap.size, 0, none⟩) (xs.map dgt).length (xs.map dgt).length, .string ⟨#[44]⟩] w' fun e w'' => e = .returned (.string ⟨(digL xs).toArray⟩) ∧ Below w'.heap.size w' w'') := hide fun w' hc => by
    have := join_any w.heap.size (xs.map dgt).length (xs.map dgt) w' (by simpa using hl) (Nat.le_refl _) (fun s hs => by obtain ⟨n, hn, rfl⟩ := List.mem_map.1 hs; exact dgt_size (hw n hn).1 (hw n hn).2) hc
    have e : (xs.map dgt).map (fun x => x.data.toList) = xs.map Lib.itoa := by simp [List.map_map, Function.comp_def, dgt_list]
    rw [e] at this
    exact this
  rw [List.length_map] at HJ
  have HD : Hid (∀ k, k < xs.length → ∀ w', Pow w' → Calls Tryd.prog 31 #[.int .i64 (xs.getD k 0)] w' fun e w'' => e = .returned (.string (dgt (xs.getD k 0))) ∧ Below w'.heap.size w' w'') := hide fun k hk w' hp => implDigits_any _ w' (hw _ (getD_memI hk)).1 (hw _ (getD_memI hk)).2 hp
  have HP := hide hP
  obtain ⟨n, hn⟩ : ∃ n, xs.length = n := ⟨_, rfl⟩
  have Hn : Hid (xs.length = n) := hn
  rw [hn] at hl HJ HD ⊢
  rw [hn] at ha
  clear hn hw hP
  go_enter Tryd.func32, Tryd.ntmps32
  go_wp2_with (first | (at_make; refine wpList_make_full _ rfl _ _ 64 rfl w.heap.size 9 i0 (.string ⟨#[]⟩) 1 Tryd.underlying64 hi hz0 hz1 .i64 .i64 n n n rfl rfl rfl rfl (by rw [hz2]; omega) (by unfold maxLen; omega) (Nat.le_refl _) ?_; intro w0 ho0 hg0))
  have hstart : w0.ownsRow w.heap.size 9 1 (.slice (some ⟨w.heap.size, 0, none⟩) n n) n (shalf xs 0) := by
    have e : (madeCells (Value.string ⟨#[]⟩).cells (n * 1)).toList = shalf xs 0 := by
      rw [shalf_zero, Hn.out, Nat.mul_one]; exact toList_madeCells_one _ _
    rw [← e]; exact ho0
  have HB : Hid (Below w.heap.size w w0) := (Below.refl _ _).grown hg0 (Nat.le_refl _) (by simp)
  clear ho0 hg0
  go_loopw [11] (fun i wr => ∃ k : Nat, k ≤ n ∧ i = .int .i64 k ∧ wr.ownsRow w.heap.size 9 1 (.slice (some ⟨w.heap.size, 0, none⟩) n n) n (shalf xs k) ∧ Below w.heap.size w wr) (fun i _ => n - (intOf i).toNat)
  case atStart => exact ⟨0, Nat.zero_le _, rfl, hstart, HB.out⟩
  case round =>
    clear hstart
    obtain ⟨k, hk, rfl, ho, hbel⟩ := hrel
    have hsz := hbel.size
    by_cases hlt : k < n
    · rcases ha with ha | ⟨b, off, rfl, ha⟩
      · subst ha; have := Hn.out; simp at this; omega
      have hkx : k < xs.length := by rw [Hn.out]; exact hlt
      have hc0 := ha k hlt
      have hc : wr.cell? ⟨b, off + k, none⟩ = some (.int .i64 (xs.getD k 0)) := (hbel.cell (cell_lt hc0)).trans hc0
      have DI := hide (unhide HD k hlt wr ((unhide HP).below hbel))
      have HE := hide (shalf_set xs k hkx)
      have HO := hide ho
      clear ho hc0 ha
      generalize xs.getD k 0 = d at *
      go_wp2_with fail
      refine (unhide DI).mono ?_
      rintro e w1 ⟨rfl, b1⟩
      have ho1 := World.ownsRow.kept (row := none) (unhide HO) ⟨b1.os, b1.tape, b1.output, b1.size, fun k hk _ => b1.block k hk⟩ (by simp [Value.ownBlock])
      have bw1 := hbel.trans (b1.mono hsz)
      obtain ⟨u, hu⟩ : ∃ u, w1.cell? ⟨w.heap.size, k, none⟩ = some u := by
        have h1 := ho1.cellAt k (by omega)
        have h2 : k < (shalf xs k).length := by rw [shalf_len xs k (by omega)]; exact hkx
        exact ⟨_, h1.trans (List.getElem?_eq_getElem h2)⟩
      have hfr := ho1.frozenAt k
      have HS : Hid ((w1.setCell ⟨w.heap.size, k, none⟩ (.string (dgt d))).ownsRow w.heap.size 9 1 (.slice (some ⟨w.heap.size, 0, none⟩) n n) n (shalf xs (k + 1))) := by
        rw [← unhide HE]; exact (ho1.stored k _).1
      have HG : Hid (Below w.heap.size w (w1.setCell ⟨w.heap.size, k, none⟩ (.string (dgt d)))) := bw1.setCell (Nat.le_refl _) _
      clear ho1 hbel b1 bw1 hc DI HE HO
      go_wp2
      go_roundw
      case rel => exact ⟨k + 1, by omega, by go_num, HS.out, HG.out⟩
      case measure => simp [intOf]; omega
    · have hkn : k = n := by omega
      have hcl : ∀ j, j < n → wr.cell? ⟨w.heap.size, j, none⟩ = some (.string ((xs.map dgt).getD j ⟨#[]⟩)) := fun j hj => by
        have h1 := ho.cellAt j (by omega)
        rw [hkn, ← Hn.out, shalf_all] at h1
        rw [h1]
        have hj' : j < xs.length := by rw [Hn.out]; exact hj
        simp [hj']
      have JA := hide (unhide HJ wr hcl)
      clear ha ho hcl hkn
      go_wp2_with fail
      refine (unhide JA).mono ?_
      rintro e w1 ⟨rfl, b1⟩
      have bw1 := hbel.trans (b1.mono hsz)
      go_wp2
      go_ret
      exact ⟨rfl, bw1⟩
end Go.Proofs.YtihaecmlfmfbfaaDoor
