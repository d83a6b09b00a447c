/- The draws of chapter 1 that answer one number or one text. -/
import Derived.Test.YtkjpjgecongkpaaDraw
namespace Go.Proofs.Ytkjpjgecongkpaa
open Go.RowKit

theorem lit_ints (w : World) (t : TypeId) (zs : List Int) (k : Nat) (hk : k < zs.length) : (w.alloc (.cells (zs.map (Value.int .i64)).toArray t)).cell? ⟨w.heap.size, k, none⟩ = some (.int .i64 (zs.getD k 0)) := by
  rw [cell_of_row _ w.heap.size k _ t (0, 0) (heap_alloc_new w _)]
  simp [List.getElem?_eq_getElem hk]
theorem lit_texts (w : World) (t : TypeId) (zs : List ByteArray) (k : Nat) (hk : k < zs.length) : (w.alloc (.cells (zs.map Value.string).toArray t)).cell? ⟨w.heap.size, k, none⟩ = some (.string (zs.getD k ByteArray.empty)) := by
  rw [cell_of_row _ w.heap.size k _ t (0, 0) (heap_alloc_new w _)]
  simp [List.getElem?_eq_getElem hk]
theorem Cur.alloc {w : World} {base g ca : Nat} {ao : Option Addr} {xs : List Int} (h : Cur w base g ao ca xs) (hB : base ≤ w.heap.size) (o : Obj) : Cur (w.alloc o) base g ao ca xs := by
  have hg : g < w.heap.size := by
    obtain ⟨i, hh, hc, _⟩ := h.cells
    exact (Array.getElem?_eq_some_iff.1 hc).1
  have hb : Below w.heap.size w (w.alloc o) := (Below.refl _ _).alloc (Nat.le_refl _) o
  refine ⟨h.low, h.len, ?_, ?_⟩
  · obtain ⟨i, hh, hc, h0, h1⟩ := h.cells
    exact ⟨i, hh, (hb.block g hg).trans hc, h0, h1⟩
  · rcases h.code with h' | ⟨b, off, hbb, ha, hx⟩
    · exact .inl h'
    · exact .inr ⟨b, off, hbb, ha, fun k hk => ⟨(hb.cell (p := ⟨b, off + k, none⟩) (by show b < _; omega)).trans (hx k hk).1, (hx k hk).2⟩⟩

/-- The code that is drawn from. -/
structure DCode (w : World) (ao : Option Addr) (xs : List Int) : Prop where
  len : xs.length ≤ 1048576
  code : xs = [] ∨ ∃ b off, ao = some ⟨b, off, none⟩ ∧ ∀ k, k < xs.length → w.cell? ⟨b, off + k, none⟩ = some (.int .u8 (xs.getD k 0))
  fit : ∀ k, k < xs.length → 0 ≤ xs.getD k 0 ∧ xs.getD k 0 ≤ 255
theorem DCode.below {w w' : World} {B : Nat} {ao : Option Addr} {xs : List Int} (h : DCode w ao xs) (hb : Below B w w') (hB : w.heap.size ≤ B) : DCode w' ao xs := by
  refine ⟨h.len, ?_, h.fit⟩
  rcases h.code with h' | ⟨b, off, ha, hx⟩
  · exact .inl h'
  · exact .inr ⟨b, off, ha, fun k hk => (hb.cell (Nat.lt_of_lt_of_le (cell_lt (hx k hk)) hB)).trans (hx k hk)⟩

theorem pickInt_lit (base g ca : Nat) (ao : Option Addr) (xs zs : List Int) (w : World) (hB : base ≤ w.heap.size) (hz : 1 ≤ zs.length) (hz2 : zs.length ≤ 256) (h : Cur w base g ao ca xs) :
    Calls Try.prog 30 #[.pointer (some ⟨g, 0, none⟩), .slice (some ⟨w.heap.size, 0, none⟩) zs.length zs.length] (w.alloc (.cells (zs.map (Value.int .i64)).toArray 3)) fun e w' =>
      ∃ x : Int, e = .returned (.int .i64 x) ∧ x ∈ zs ∧ Cur w' base g ao ca xs ∧ w.grownBy w' (some g) := by
  have hg : g < w.heap.size := by
    obtain ⟨i, hh, hc, _⟩ := h.cells
    exact (Array.getElem?_eq_some_iff.1 hc).1
  refine (pickInt_any base g ca w.heap.size ao xs zs _ (by simp; omega) (by omega) hz hz2 (fun k hk => lit_ints w _ zs k hk) (h.alloc hB _)).mono ?_
  rintro e w' ⟨k, hk, rfl, hc, hgr⟩
  refine ⟨_, rfl, ?_, hc, grown_trans (World.grownBy_alloc w _ _) hgr⟩
  rw [List.getD_eq_getElem?_getD, List.getElem?_eq_getElem hk]
  exact List.getElem_mem hk
theorem cur_below {w w' : World} {g : Nat} (hg : w.grownBy w' (some g)) {a : World} {B : Nat} (hb : Below B a w) (hB : B ≤ w.heap.size) (hlow : B ≤ g) : Below B a w' :=
  hb.grown hg hB (fun k hk => by simp at hk; omega)

def putNums : List Int := [0, 1, 127, 128, 300, 16384, 2147483647, 2147483648, -1, 9223372036854775807]
def digNums : List Int := [0, 7, -12, 100000, 9223372036854775807, -9223372036854775808]
def putTexts : List ByteArray := [⟨#[]⟩, ⟨#[97]⟩, ⟨#[116, 119, 111, 32, 119, 111, 114, 100, 115]⟩, ⟨#[0, 255]⟩]
def numTexts : List ByteArray := [⟨#[48]⟩, ⟨#[55]⟩, ⟨#[57, 57, 57, 57, 57, 57]⟩, ⟨#[49, 48, 48, 48, 48, 48, 48]⟩, ⟨#[48, 49]⟩, ⟨#[]⟩, ⟨#[45, 49]⟩, ⟨#[120]⟩, ⟨#[49, 50, 97]⟩]

def splitTexts : List ByteArray := [⟨#[]⟩, ⟨#[97]⟩, ⟨#[97, 44, 98]⟩, ⟨#[44]⟩, ⟨#[97, 44, 44, 98, 44]⟩, ⟨#[97, 47, 98, 44, 99, 47]⟩]
end Go.Proofs.Ytkjpjgecongkpaa
