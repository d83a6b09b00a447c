/- Blocks of known cells. -/
import Derived.Test.YtkjpjgecongkpaaLedger
namespace Go.Proofs.Ytkjpjgecongkpaa
open Go.RowKit

/-- Block g has the cells cs. -/
def Loc (w : World) (g : Nat) (cs : Array Value) : Prop := ∃ t, w.heap[g]? = some (.cells cs t (0, 0))
theorem loc_at (w : World) (cs : Array Value) (t : TypeId) {g : Nat} (h : w.heap.size = g) : Loc (w.alloc (.cells cs t)) g cs := h ▸ ⟨t, heap_alloc_new w _⟩
theorem Loc.lt {w : World} {g : Nat} {cs : Array Value} (h : Loc w g cs) : g < w.heap.size := by obtain ⟨t, h⟩ := h; exact (Array.getElem?_eq_some_iff.1 h).1
theorem Loc.cell {w : World} {g : Nat} {cs : Array Value} (h : Loc w g cs) (j : Nat) {v : Value} (hj : cs[j]? = some v) : w.cell? ⟨g, j, none⟩ = some v := by
  obtain ⟨t, h⟩ := h
  rw [cell_of_row w g j _ t (0, 0) h]; exact hj
theorem Loc.frozen {w : World} {g : Nat} {cs : Array Value} (h : Loc w g cs) (j : Nat) : w.frozen? ⟨g, j, none⟩ = false := by obtain ⟨t, h⟩ := h; exact frozen_of_row w g j _ t h
theorem Loc.below {w w' : World} {g B : Nat} {cs : Array Value} (h : Loc w g cs) (hb : Below B w w') (hg : g < B) : Loc w' g cs := by obtain ⟨t, h⟩ := h; exact ⟨t, (hb.block g hg).trans h⟩
theorem Loc.kp {w w' : World} {g : Nat} {X : Nat → Prop} {cs : Array Value} (h : Loc w g cs) (k : Kp w w' X) (hg : ¬ X g) : Loc w' g cs := by have hl := h.lt; obtain ⟨t, h⟩ := h; exact ⟨t, (k.block g hl hg).trans h⟩
theorem Loc.alloc {w : World} {g : Nat} {cs : Array Value} (h : Loc w g cs) (o : Obj) : Loc (w.alloc o) g cs := h.kp (X := fun _ => False) (Below.kpOf ((Below.refl _ _).alloc (Nat.le_refl _) o) _) (fun h => h)
theorem Loc.drewN {w : World} {g : Nat} {cs : Array Value} (h : Loc w g cs) (n : Nat) : Loc (w.drewN n) g cs := h
theorem Loc.set {w : World} {g : Nat} {cs : Array Value} (h : Loc w g cs) (j : Nat) (u : Value) {cs' : Array Value} (e : cs.setIfInBounds j u = cs') : Loc (w.setCell ⟨g, j, none⟩ u) g cs' := by obtain ⟨t, h⟩ := h; exact ⟨t, by rw [heap_setCell_same w g j _ t u h, e]⟩
theorem Loc.other {w : World} {g : Nat} {cs : Array Value} (h : Loc w g cs) {p : Addr} (hp : g ≠ p.block) (u : Value) : Loc (w.setCell p u) g cs := by obtain ⟨t, h⟩ := h; exact ⟨t, (heap_setCell_other w p g u hp).trans h⟩

/-- A row of four numbers as a value; its cells. -/
abbrev rv (a b c d : Int) : Value := .agg #[.int .i64 a, .int .i64 b, .int .i64 c, .int .i64 d]
abbrev r4 (a b c d : Int) : Array Value := #[.int .i64 a, .int .i64 b, .int .i64 c, .int .i64 d]
theorem Loc.cells4 {w : World} {g : Nat} {a b c d : Int} (h : Loc w g (r4 a b c d)) :
    w.cell? ⟨g, 0, none⟩ = some (.int .i64 a) ∧ w.cell? ⟨g, 1, none⟩ = some (.int .i64 b) ∧ w.cell? ⟨g, 2, none⟩ = some (.int .i64 c) ∧ w.cell? ⟨g, 3, none⟩ = some (.int .i64 d) :=
  ⟨h.cell 0 rfl, h.cell 1 rfl, h.cell 2 rfl, h.cell 3 rfl⟩
end Go.Proofs.Ytkjpjgecongkpaa
