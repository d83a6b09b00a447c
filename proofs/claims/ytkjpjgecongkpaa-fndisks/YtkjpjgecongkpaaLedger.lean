/- Ledgers in memory; laws.szLedger, toLedger, eqLedger. -/
import Derived.Test.YtkjpjgecongkpaaInts
namespace Go.Proofs.Ytkjpjgecongkpaa
open Go.RowKit

/-- From w to w' nothing turned but blocks of X. -/
structure Kp (w w' : World) (X : Nat → Prop) : Prop where
  os : w'.os = w.os
  tape : w'.tape = w.tape
  output : w'.output = w.output
  size : w.heap.size ≤ w'.heap.size
  block : ∀ k, k < w.heap.size → ¬ X k → w'.heap[k]? = w.heap[k]?
theorem Kp.refl (w : World) (X : Nat → Prop) : Kp w w X := ⟨rfl, rfl, rfl, Nat.le_refl _, fun _ _ _ => rfl⟩
theorem Kp.trans {a b c : World} {X : Nat → Prop} (h : Kp a b X) (k : Kp b c X) : Kp a c X :=
  ⟨k.os.trans h.os, k.tape.trans h.tape, k.output.trans h.output, Nat.le_trans h.size k.size, fun i hi hx => (k.block i (Nat.lt_of_lt_of_le hi h.size) hx).trans (h.block i hi hx)⟩
theorem Kp.mono {a b : World} {X Y : Nat → Prop} (h : Kp a b X) (hxy : ∀ k, X k → Y k) : Kp a b Y := ⟨h.os, h.tape, h.output, h.size, fun k hk hy => h.block k hk (fun hx => hy (hxy k hx))⟩
theorem Below.kpOf {w w' : World} (h : Below w.heap.size w w') (X : Nat → Prop) : Kp w w' X := ⟨h.os, h.tape, h.output, h.size, fun k hk _ => h.block k hk⟩
theorem kp_grown {w w' : World} {row : Option Nat} (h : w.grownBy w' row) : Kp w w' (fun k => row = some k) := ⟨h.os, h.tape, h.output, h.size, fun k hk hx => h.block k hk (fun e => hx e.symm)⟩
theorem Kp.cell {w w' : World} {X : Nat → Prop} (h : Kp w w' X) {a : Addr} {v : Value} (hc : w.cell? a = some v) (hx : ¬ X a.block) : w'.cell? a = some v :=
  (World.cell?_of_block (h.block a.block (cell_lt hc) hx)).trans hc
theorem Below.kp {B : Nat} {a w w' : World} {X : Nat → Prop} (h : Below B a w) (k : Kp w w' X) (hB : B ≤ w.heap.size) (hx : ∀ k, X k → B ≤ k) : Below B a w' :=
  ⟨k.os.trans h.os, k.tape.trans h.tape, k.output.trans h.output, Nat.le_trans h.size k.size, fun i hi => (k.block i (by omega) (fun h' => by have := hx i h'; omega)).trans (h.block i hi)⟩
theorem OI.kp {w w' : World} {base : Nat} {X : Nat → Prop} {v : Value} {xs : List Int} (h : OI w base v xs) (k : Kp w w' X) (hv : ∀ k, v.ownBlock = some k → ¬ X k) : OI w' base v xs := by
  refine ⟨h.1, ?_⟩
  rcases h.2 with hn | ⟨g, cap, cur, rfl, hb, hgg, rest⟩
  · exact .inl hn
  · refine .inr ⟨g, cap, cur, rfl, hb, ?_, rest⟩
    rw [k.block g (Array.getElem?_eq_some_iff.1 hgg).1 (hv g rfl)]
    exact hgg

theorem OI.mono {w : World} {base base' : Nat} {v : Value} {xs : List Int} (h : OI w base v xs) (hb : base' ≤ base) : OI w base' v xs := by
  refine ⟨h.1, ?_⟩
  rcases h.2 with hn | ⟨g, cap, cur, rfl, hg, rest⟩
  · exact .inl hn
  · exact .inr ⟨g, cap, cur, rfl, Nat.le_trans hb hg, rest⟩

theorem OI.form {w : World} {base : Nat} {v : Value} {xs : List Int} (h : OI w base v xs) : ∃ ao ca, v = .slice ao xs.length ca := by
  rcases h.2 with ⟨rfl, h0⟩ | ⟨g, cap, cur, rfl, _⟩
  · exact ⟨none, 0, by rw [h0]⟩
  · exact ⟨_, _, rfl⟩

/-- Block g has the two cells a, b. -/
def Loc2 (w : World) (g : Nat) (a b : Value) : Prop := ∃ t, w.heap[g]? = some (.cells #[a, b] t (0, 0))
theorem loc2_new (w : World) (a b : Value) (t : TypeId) : Loc2 (w.alloc (.cells #[a, b] t)) w.heap.size a b := ⟨t, heap_alloc_new w _⟩
theorem loc2_at (w : World) (a b : Value) (t : TypeId) {g : Nat} (h : w.heap.size = g) : Loc2 (w.alloc (.cells #[a, b] t)) g a b := h ▸ loc2_new w a b t
theorem Loc2.lt {w : World} {g : Nat} {a b : Value} (h : Loc2 w g a b) : g < w.heap.size := by obtain ⟨t, h⟩ := h; exact (Array.getElem?_eq_some_iff.1 h).1
theorem Loc2.cells {w : World} {g : Nat} {a b : Value} (h : Loc2 w g a b) : w.cell? ⟨g, 0, none⟩ = some a ∧ w.cell? ⟨g, 1, none⟩ = some b ∧ w.frozen? ⟨g, 0, none⟩ = false ∧ w.frozen? ⟨g, 1, none⟩ = false := by
  obtain ⟨t, h⟩ := h
  refine ⟨?_, ?_, frozen_of_row w g 0 _ t h, frozen_of_row w g 1 _ t h⟩
  · rw [cell_of_row w g 0 _ t (0, 0) h]; rfl
  · rw [cell_of_row w g 1 _ t (0, 0) h]; rfl
theorem Loc2.below {w w' : World} {g B : Nat} {a b : Value} (h : Loc2 w g a b) (hb : Below B w w') (hg : g < B) : Loc2 w' g a b := by obtain ⟨t, h⟩ := h; exact ⟨t, (hb.block g hg).trans h⟩
theorem Loc2.kp {w w' : World} {g : Nat} {X : Nat → Prop} {a b : Value} (h : Loc2 w g a b) (k : Kp w w' X) (hg : ¬ X g) : Loc2 w' g a b := by have hl := h.lt; obtain ⟨t, h⟩ := h; exact ⟨t, (k.block g hl hg).trans h⟩
theorem Loc2.alloc {w : World} {g : Nat} {a b : Value} (h : Loc2 w g a b) (o : Obj) : Loc2 (w.alloc o) g a b := h.kp (X := fun _ => False) (Below.kpOf ((Below.refl _ _).alloc (Nat.le_refl _) o) _) (fun h => h)
theorem Loc2.drewN {w : World} {g : Nat} {a b : Value} (h : Loc2 w g a b) (n : Nat) : Loc2 (w.drewN n) g a b := h
theorem Loc2.set0 {w : World} {g : Nat} {a b : Value} (h : Loc2 w g a b) (u : Value) : Loc2 (w.setCell ⟨g, 0, none⟩ u) g u b := by obtain ⟨t, h⟩ := h; exact ⟨t, by rw [heap_setCell_same w g 0 _ t u h]; rfl⟩
theorem Loc2.set1 {w : World} {g : Nat} {a b : Value} (h : Loc2 w g a b) (u : Value) : Loc2 (w.setCell ⟨g, 1, none⟩ u) g a u := by obtain ⟨t, h⟩ := h; exact ⟨t, by rw [heap_setCell_same w g 1 _ t u h]; rfl⟩
theorem Loc2.other {w : World} {g : Nat} {a b : Value} (h : Loc2 w g a b) {p : Addr} (hp : g ≠ p.block) (u : Value) : Loc2 (w.setCell p u) g a b := by obtain ⟨t, h⟩ := h; exact ⟨t, (heap_setCell_other w p g u hp).trans h⟩

/-- A ledger as a value. -/
abbrev lv (a b : Value) : Value := .agg #[a, b]
/-- a, b are the lists of a ledger of the call's own: they lie in blocks from lo on and below hi, and share none. -/
structure OL (w : World) (lo hi : Nat) (a b : Value) (xs ys : List Int) : Prop where
  has : OI w lo a xs
  next : OI w lo b ys
  top : ∀ k, a.ownBlock = some k → k < hi
  top' : ∀ k, b.ownBlock = some k → k < hi
  ne : ∀ k, a.ownBlock = some k → b.ownBlock ≠ some k
theorem OL.kp {w w' : World} {lo hi : Nat} {X : Nat → Prop} {a b : Value} {xs ys : List Int} (h : OL w lo hi a b xs ys) (k : Kp w w' X) (hx : ∀ k, lo ≤ k → k < hi → ¬ X k) : OL w' lo hi a b xs ys :=
  ⟨h.has.kp k (fun j hj => hx j (World.ownsRow.lt h.has j hj).1 (h.top j hj)), h.next.kp k (fun j hj => hx j (World.ownsRow.lt h.next j hj).1 (h.top' j hj)), h.top, h.top', h.ne⟩
theorem OL.below {w w' : World} {lo hi : Nat} {a b : Value} {xs ys : List Int} (h : OL w lo hi a b xs ys) (hb : Below w.heap.size w w') : OL w' lo hi a b xs ys := h.kp (Below.kpOf hb (fun _ => False)) (fun _ _ _ h => h)
theorem OL.alloc {w : World} {lo hi : Nat} {a b : Value} {xs ys : List Int} (h : OL w lo hi a b xs ys) (o : Obj) : OL (w.alloc o) lo hi a b xs ys := h.below ((Below.refl _ _).alloc (Nat.le_refl _) _)
theorem OL.ri {w : World} {lo hi : Nat} {a b : Value} {xs ys : List Int} (h : OL w lo hi a b xs ys) (hl : xs.length ≤ 4194304) (hm : ys.length ≤ 4194304) : RI w a xs ∧ RI w b ys := ⟨h.has.ri hl, h.next.ri hm⟩
theorem OL.mono {w : World} {lo hi lo' hi' : Nat} {a b : Value} {xs ys : List Int} (h : OL w lo hi a b xs ys) (h1 : lo' ≤ lo) (h2 : hi ≤ hi') : OL w lo' hi' a b xs ys :=
  ⟨h.has.mono h1, h.next.mono h1, fun k hk => Nat.lt_of_lt_of_le (h.top k hk) h2, fun k hk => Nat.lt_of_lt_of_le (h.top' k hk) h2, h.ne⟩
theorem Below.set {B : Nat} {a w : World} (h : Below B a w) {g : Nat} (j : Nat) (u : Value) (hg : B ≤ g) : Below B a (w.setCell ⟨g, j, none⟩ u) := Below.setCell h (p := ⟨g, j, none⟩) hg u
theorem set_kp (w : World) (g j : Nat) (u : Value) : Kp w (w.setCell ⟨g, j, none⟩ u) (fun k => k = g) :=
  ⟨rfl, rfl, rfl, by simp, fun k _ hk => heap_setCell_other w ⟨g, j, none⟩ k u hk⟩

end Go.Proofs.Ytkjpjgecongkpaa
