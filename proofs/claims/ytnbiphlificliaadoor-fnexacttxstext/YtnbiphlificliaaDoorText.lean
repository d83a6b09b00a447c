/- What spec.PutText and impl.PutText answer. -/
import Derived.Test.YtnbiphlificliaaDoorPut
import Derived.Lib.AppendStr
import Derived.Laws.IdiomStrings
namespace Go.Proofs.YtnbiphlificliaaDoor
open Go.RowKit
set_option linter.unusedSectionVars false

/-- The bytes of a text. -/
def bs (s : ByteArray) : List Int := s.data.toList.map fun b => (b.toNat : Int)
theorem bs_len (s : ByteArray) : (bs s).length = s.size := by rw [bs, List.length_map, Array.length_toList]; rfl
theorem bs_cells (s : ByteArray) : (bs s).map (Value.int .u8) = Lib.strCells s := by simp [bs, Lib.strCells]
/-- What PutText answers of a text that is not too long. -/
def textAns (s : ByteArray) : List Int := put 4 s.size ++ bs s
theorem textAns_len (s : ByteArray) : (textAns s).length = (put 4 s.size).length + s.size := by rw [textAns, List.length_append, bs_len]

theorem news_cells (w : World) (s : ByteArray) (cap : Nat) (e : TypeId) (fr : Nat × Nat) (j : Nat) (u : Value) (h : (Lib.strCells s)[j]? = some u) :
    (w.alloc (.cells (bytesRow s cap) e fr)).cell? ((⟨w.heap.size, 0, none⟩ : Addr).add j) = some u := by
  have hj : j < s.data.size := by
    have := (List.getElem?_eq_some_iff.1 h).1; simpa [Lib.strCells] using this
  have h1 := bytesRow_at s cap j hj
  have h2 : u = .int .u8 (s.data[j].toNat : Int) := by
    rw [Lib.strCells, List.getElem?_map, Array.getElem?_toList, Array.getElem?_eq_getElem hj] at h
    simpa using h.symm
  subst h2
  rw [show ((⟨w.heap.size, 0, none⟩ : Addr).add j) = ⟨w.heap.size, j, none⟩ from by unfold Addr.add; split <;> simp_all]
  rw [cell_of_row _ w.heap.size j _ e fr (heap_alloc_new w _)]
  exact h1
theorem news_plain (s : ByteArray) (u : Value) (h : u ∈ Lib.strCells s) : u.oneCell' = true := by
  simp [Lib.strCells] at h; obtain ⟨a, _, rfl⟩ := h; rfl

/-- A text behind what is owned. -/
theorem own_text {B : Nat} {w wr w1 : World} {v v' : Value} {xs : List Int} {s : ByteArray} (hB : B ≤ wr.heap.size) (ho : wr.ownsRow B 5 1 v xs.length (xs.map (Value.int .u8))) (hb : Below B w wr)
    (ho' : w1.ownsRow B 5 1 v' (xs.length + s.size) (xs.map (Value.int .u8) ++ Lib.strCells s)) (hg : wr.grownBy w1 v.ownBlock) :
    OB w1 B v' (xs ++ bs s) ∧ Below B w w1 := by
  refine ⟨?_, hb.grown hg hB (fun j hj => (ho.lt j hj).1)⟩
  unfold OB
  rw [List.length_append, bs_len, List.map_append, bs_cells]
  exact ho'

set_option maxHeartbeats 800000 in
set_option maxRecDepth 100000 in
theorem specText (s : ByteArray) (w : World) (hs : s.size ≤ 1048576) :
    Calls Tryd.prog 35 #[.string s] w fun e w' => ∃ v, e = .returned v ∧ OB w' w.heap.size v (textAns s) ∧ Below w.heap.size w w' := by
  obtain ⟨i0, hi, hz0, hz1, hz2⟩ := info_parts Tryd.info5
  have hcv := fun w => run_bytes_of_string (P := Tryd.prog) w 9 22 5 s Tryd.underlying9 Tryd.underlying22 Tryd.underlying5
  have hpl := put_len 4 s.size
  go_enter Tryd.func35, Tryd.ntmps35
  go_wp2_with fail
  refine (specPut_yes s.size _ (by omega)).mono ?_
  rintro e w1 ⟨v0, rfl, o0, b0⟩
  have s0 := b0.size
  go_wp2_with (first
        | (at_builtin; refine wpList_append_own _ rfl (.tmp 5) (.tmp 7) 22 rfl w.heap.size 5 i0 (.int .u8 0) 1 1 Tryd.underlying22 hi hz0 hz1 hz2 rfl (by decide) _ _ _ rfl ((o0.alloc _).drew) ⟨w1.heap.size, 0, none⟩ s.size _ (Lib.strCells s) rfl (by rw [Lib.strCells_length]; omega) (news_cells _ _ _ _ _) (news_plain s) (by unfold maxLen; omega) (by omega) (by simp; omega) ?_; intro v' w2 ho' hg' _; have R := own_text (by simp; omega) ((o0.alloc _).drew) ((b0.alloc s0 _).drew) ho' hg'; clear ho' hg' hcv o0))
  go_ret
  exact ⟨_, rfl, R.1, R.2⟩

set_option maxHeartbeats 800000 in
set_option maxRecDepth 100000 in
theorem implText (s : ByteArray) (w : World) (hs : s.size ≤ 1048576) :
    Calls Tryd.prog 29 #[.string s] w fun e w' => ∃ v, e = .returned v ∧ OB w' w.heap.size v (textAns s) ∧ Below w.heap.size w w' := by
  obtain ⟨i0, hi, hz0, hz1, hz2⟩ := info_parts Tryd.info5
  have hpl := put_len 4 s.size
  go_enter Tryd.func29, Tryd.ntmps29
  go_wp2_with fail
  refine (implPut_yes s.size _ (by omega)).mono ?_
  rintro e w1 ⟨v0, rfl, o0, b0⟩
  have s0 := b0.size
  go_wp2_with (first
        | (at_builtin; refine Lib.wpList_append_own_string _ rfl _ _ 22 9 rfl w.heap.size 5 i0 Tryd.underlying22 Tryd.underlying9 hi hz0 hz1 hz2 _ _ _ rfl o0 s rfl (by unfold maxLen; omega) (by omega) s0 ?_; intro v' w2 ho' hg' _; have R := own_text s0 o0 b0 ho' hg'; clear ho' hg' o0))
  go_ret
  exact ⟨_, rfl, R.1, R.2⟩
end Go.Proofs.YtnbiphlificliaaDoor
