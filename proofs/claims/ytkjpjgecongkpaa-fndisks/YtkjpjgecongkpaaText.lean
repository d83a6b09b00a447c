/- What spec.PutText and impl.PutText answer. -/
import Derived.Test.YtkjpjgecongkpaaPut
import Derived.Lib.AppendStr
import Derived.Laws.IdiomStrings
namespace Go.Proofs.Ytkjpjgecongkpaa
open Go.RowKit

/-- The bytes of a text. -/
def bs (s : ByteArray) : List Int := s.data.toList.map fun b => (b.toNat : Int)
theorem bs_len (s : ByteArray) : (bs s).length = s.size := by rw [bs, List.length_map, Array.length_toList]; rfl
theorem bs_cells (s : ByteArray) : (bs s).map (Value.int .u8) = Lib.strCells s := by simp [bs, Lib.strCells]
/-- What PutText answers of a text that is not too long. -/
def textAns (s : ByteArray) : List Int := put 4 s.size ++ bs s
theorem textAns_len (s : ByteArray) : (textAns s).length = (put 4 s.size).length + s.size := by rw [textAns, List.length_append, bs_len]

theorem news_cells (w : World) (s : ByteArray) (cap : Nat) (e : TypeId) (fr : Nat × Nat) (j : Nat) (u : Value) (h : (Lib.strCells s)[j]? = some u) :
    (w.alloc (.cells (bytesRow s cap) e fr)).cell? ((⟨w.heap.size, 0, none⟩ : Addr).add j) = some u := by
  have hj : j < s.data.size := by
    have := (List.getElem?_eq_some_iff.1 h).1; simpa [Lib.strCells] using this
  have h1 := bytesRow_at s cap j hj
  have h2 : u = .int .u8 (s.data[j].toNat : Int) := by
    rw [Lib.strCells, List.getElem?_map, Array.getElem?_toList, Array.getElem?_eq_getElem hj] at h
    simpa using h.symm
  subst h2
  rw [show ((⟨w.heap.size, 0, none⟩ : Addr).add j) = ⟨w.heap.size, j, none⟩ from by unfold Addr.add; split <;> simp_all]
  rw [cell_of_row _ w.heap.size j _ e fr (heap_alloc_new w _)]
  exact h1
theorem news_plain (s : ByteArray) (u : Value) (h : u ∈ Lib.strCells s) : u.oneCell' = true := by
  simp [Lib.strCells] at h; obtain ⟨a, _, rfl⟩ := h; rfl

/-- A text behind what is owned. -/
theorem own_text {B : Nat} {w wr w1 : World} {v v' : Value} {xs : List Int} {s : ByteArray} (hB : B ≤ wr.heap.size) (ho : wr.ownsRow B 5 1 v xs.length (xs.map (Value.int .u8))) (hb : Below B w wr)
    (ho' : w1.ownsRow B 5 1 v' (xs.length + s.size) (xs.map (Value.int .u8) ++ Lib.strCells s)) (hg : wr.grownBy w1 v.ownBlock) :
    OB w1 B v' (xs ++ bs s) ∧ Below B w w1 := by
  refine ⟨?_, hb.grown hg hB (fun j hj => (ho.lt j hj).1)⟩
  unfold OB
  rw [List.length_append, bs_len, List.map_append, bs_cells]
  exact ho'

end Go.Proofs.Ytkjpjgecongkpaa
