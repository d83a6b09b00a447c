/- Texts that belong together: TxRows, ToTxS. -/
import Derived.Test.YthdehhenkgkkmaaDoorBunA
import Derived.Test.YthdehhenkgkkmaaDoorBunC
import Derived.Deep.RegionHeld3
import Derived.Deep.DeepCutAuto
import Derived.OwnWalk
/- Lists of payments in memory. -/
namespace Go.Proofs.YthdehhenkgkkmaaDoor
open Go.RowKit
set_option linter.unusedSectionVars false
variable [∀ (a b c d : Int), Decidable (Ok4 a b c d)]
variable [∀ (m a b c d : Int), Decidable (In4 m a b c d)]
variable [∀ (xs ys : List Int), Decidable (LOk xs ys)]

def tcell (x : T4) : List Value := [.int .i64 x.1, .int .i64 x.2.1, .int .i64 x.2.2.1, .int .i64 x.2.2.2]
def tcells (xs : List T4) : List Value := xs.flatMap tcell
theorem tcell_len (x : T4) : (tcell x).length = 4 := rfl
theorem tcells_len (xs : List T4) : (tcells xs).length = xs.length * 4 := by
  induction xs with
  | nil => rfl
  | cons x xs ih => simp [tcells, tcell] at *; omega
theorem tcells_append (xs ys : List T4) : tcells (xs ++ ys) = tcells xs ++ tcells ys := by simp [tcells]
theorem tcells_get (xs : List T4) (k j : Nat) (hk : k < xs.length) (hj : j < 4) : (tcells xs)[k * 4 + j]? = (tcell (xs.getD k (0, 0, 0, 0)))[j]? := by
  induction xs generalizing k with
  | nil => simp at hk
  | cons x xs ih =>
    have e : tcells (x :: xs) = tcell x ++ tcells xs := by simp [tcells]
    rw [e]
    cases k with
    | zero => rw [Nat.zero_mul, Nat.zero_add, List.getElem?_append_left (by rw [tcell_len]; exact hj)]; rfl
    | succ k =>
      rw [List.getElem?_append_right (by rw [tcell_len]; omega), tcell_len, show (k + 1) * 4 + j - 4 = k * 4 + j from by omega, ih k (by simpa using hk)]
      rfl
/-- v is a list of the call's own, from block 'base' on, of the payments xs. -/
def OT (w : World) (base : Nat) (v : Value) (xs : List T4) : Prop := w.ownsRow base 26 4 v xs.length (tcells xs)
/-- The four cells of the k-th payment of a row. -/
def Cells4K (w : World) (g k : Nat) (t : T4) : Prop := w.cell? ⟨g, k * 4, none⟩ = some (.int .i64 t.1) ∧ w.cell? ⟨g, k * 4 + 1, none⟩ = some (.int .i64 t.2.1) ∧ w.cell? ⟨g, k * 4 + 2, none⟩ = some (.int .i64 t.2.2.1) ∧ w.cell? ⟨g, k * 4 + 3, none⟩ = some (.int .i64 t.2.2.2)
/-- v reads as the payments xs. -/
def RT (w : World) (v : Value) (xs : List T4) : Prop :=
  xs.length ≤ 35184372088832 ∧ ∃ ao cap, v = .slice ao xs.length cap ∧ (xs = [] ∨ ∃ g, ao = some ⟨g, 0, none⟩ ∧ ∀ k, k < xs.length → w.cell? ⟨g, k * 4, none⟩ = some (.int .i64 (xs.getD k (0, 0, 0, 0)).1) ∧ w.cell? ⟨g, k * 4 + 1, none⟩ = some (.int .i64 (xs.getD k (0, 0, 0, 0)).2.1) ∧ w.cell? ⟨g, k * 4 + 2, none⟩ = some (.int .i64 (xs.getD k (0, 0, 0, 0)).2.2.1) ∧ w.cell? ⟨g, k * 4 + 3, none⟩ = some (.int .i64 (xs.getD k (0, 0, 0, 0)).2.2.2))
theorem OT.below {w w' : World} {base : Nat} {v : Value} {xs : List T4} (h : OT w base v xs) (hb : Below w.heap.size w w') : OT w' base v xs :=
  World.ownsRow.kept (row := none) h ⟨hb.os, hb.tape, hb.output, hb.size, fun k hk _ => hb.block k hk⟩ (by cases v.ownBlock <;> simp)
theorem OT.apart {w w' : World} {base N : Nat} {v u : Value} {xs : List T4} (h : OT w base v xs) (hg : w.grownBy w' u.ownBlock) (hv : ∀ k, v.ownBlock = some k → k < N) (hu : ∀ k, u.ownBlock = some k → N ≤ k) : OT w' base v xs := by
  refine World.ownsRow.kept h hg ?_
  cases hv' : v.ownBlock with
  | none => exact .inl rfl
  | some k => exact .inr fun e => by have := hv k hv'; have := hu k e.symm; omega
theorem OT.rt {w : World} {base : Nat} {v : Value} {xs : List T4} (h : OT w base v xs) (hl : xs.length ≤ 35184372088832) : RT w v xs := by
  refine ⟨hl, ?_⟩
  rcases h.2 with ⟨rfl, h0⟩ | ⟨g, cap, cur, rfl, _⟩
  · exact ⟨none, 0, by rw [h0], .inl (List.length_eq_zero_iff.1 h0)⟩
  · refine ⟨_, cap, rfl, .inr ⟨g, rfl, fun k hk => ?_⟩⟩
    have c0 := World.ownsRow.cellAt h (k * 4 + 0) (by omega)
    have c1 := World.ownsRow.cellAt h (k * 4 + 1) (by omega)
    have c2 := World.ownsRow.cellAt h (k * 4 + 2) (by omega)
    have c3 := World.ownsRow.cellAt h (k * 4 + 3) (by omega)
    rw [tcells_get xs k _ hk (by omega)] at c0 c1 c2 c3
    exact ⟨c0, c1, c2, c3⟩
theorem RT.below {w w' : World} {v : Value} {xs : List T4} (h : RT w v xs) (hb : Below w.heap.size w w') : RT w' v xs := by
  obtain ⟨hl, ao, cap, rfl, h⟩ := h
  refine ⟨hl, ao, cap, rfl, ?_⟩
  rcases h with h | ⟨g, rfl, h⟩
  · exact .inl h
  · refine .inr ⟨g, rfl, fun k hk => ?_⟩
    obtain ⟨c0, c1, c2, c3⟩ := h k hk
    have hg : g < w.heap.size := cell_lt c0
    exact ⟨(hb.cell (p := ⟨g, k * 4, none⟩) hg).trans c0, (hb.cell (p := ⟨g, k * 4 + 1, none⟩) hg).trans c1, (hb.cell (p := ⟨g, k * 4 + 2, none⟩) hg).trans c2, (hb.cell (p := ⟨g, k * 4 + 3, none⟩) hg).trans c3⟩

end Go.Proofs.YthdehhenkgkkmaaDoor

/- laws.toTxS, laws.szTxS. -/
namespace Go.Proofs.YthdehhenkgkkmaaDoor
open Go.RowKit
set_option linter.unusedSectionVars false
variable [∀ (a b c d : Int), Decidable (Ok4 a b c d)]
variable [∀ (m a b c d : Int), Decidable (In4 m a b c d)]
variable [∀ (xs ys : List Int), Decidable (LOk xs ys)]

theorem Tryd.infoTx : (Tryd.prog.info? 26).map (fun i => (i.zero, i.size, i.bytes)) = some (some (txv 0 0 0 0), 4, 32) := by kernel_rfl
/-- A list of payments that came in. -/
def AR (w : World) (ao : Option Addr) (xs : List T4) : Prop :=
  xs = [] ∨ ∃ b off, ao = some ⟨b, off, none⟩ ∧ ∀ k, k < xs.length → w.cell? ⟨b, off + k * 4, none⟩ = some (.int .i64 (xs.getD k (0, 0, 0, 0)).1) ∧ w.cell? ⟨b, off + k * 4 + 1, none⟩ = some (.int .i64 (xs.getD k (0, 0, 0, 0)).2.1) ∧ w.cell? ⟨b, off + k * 4 + 2, none⟩ = some (.int .i64 (xs.getD k (0, 0, 0, 0)).2.2.1) ∧ w.cell? ⟨b, off + k * 4 + 3, none⟩ = some (.int .i64 (xs.getD k (0, 0, 0, 0)).2.2.2)
theorem AR.below {w w' : World} {ao : Option Addr} {xs : List T4} (h : AR w ao xs) (hb : Below w.heap.size w w') : AR w' ao xs := by
  rcases h with h | ⟨b, off, rfl, h⟩
  · exact .inl h
  · refine .inr ⟨b, off, rfl, fun k hk => ?_⟩
    obtain ⟨c0, c1, c2, c3⟩ := h k hk
    have hg : b < w.heap.size := cell_lt c0
    exact ⟨(hb.cell (p := ⟨b, off + k * 4, none⟩) hg).trans c0, (hb.cell (p := ⟨b, off + k * 4 + 1, none⟩) hg).trans c1, (hb.cell (p := ⟨b, off + k * 4 + 2, none⟩) hg).trans c2, (hb.cell (p := ⟨b, off + k * 4 + 3, none⟩) hg).trans c3⟩
/-- The cells behind k rounds. -/
def part4 (xs : List T4) (cs : List Value) (k : Nat) : List Value := tcells (xs.take k) ++ cs.drop (k * 4)
theorem part4_set (xs : List T4) (cs : List Value) (k : Nat) (hk : k < xs.length) (hc : cs.length = xs.length * 4) (x : T4) (hx : xs.getD k (0, 0, 0, 0) = x) :
    ((((part4 xs cs k).set (k * 4) (.int .i64 x.1)).set (k * 4 + 1) (.int .i64 x.2.1)).set (k * 4 + 2) (.int .i64 x.2.2.1)).set (k * 4 + 3) (.int .i64 x.2.2.2) = part4 xs cs (k + 1) := by
  unfold part4
  have hp : (tcells (xs.take k)).length = k * 4 := by rw [tcells_len, List.length_take]; omega
  have ht : xs.take (k + 1) = xs.take k ++ [x] := by
    rw [List.take_succ_eq_append_getElem hk, ← hx, List.getD_eq_getElem?_getD, List.getElem?_eq_getElem hk]; rfl
  rw [ht, tcells_append]
  generalize tcells (xs.take k) = P at *
  have hr : 4 ≤ (cs.drop (k * 4)).length := by rw [List.length_drop]; omega
  have hd : cs.drop ((k + 1) * 4) = (cs.drop (k * 4)).drop 4 := by rw [List.drop_drop]; congr 1; omega
  rw [hd]
  match cs.drop (k * 4), hr with
  | r0 :: r1 :: r2 :: r3 :: R, _ =>
    rw [← hp]
    simp [List.set_append_right, tcells, tcell]
theorem part4_zero (xs : List T4) (cs : List Value) : part4 xs cs 0 = cs := by simp [part4, tcells]
theorem part4_all (xs : List T4) (cs : List Value) (hc : cs.length = xs.length * 4) : part4 xs cs xs.length = tcells xs := by
  unfold part4; rw [List.take_of_length_le (Nat.le_refl _), List.drop_of_length_le (by omega)]; simp

theorem ot_alloc {w : World} {B : Nat} {v : Value} {xs : List T4} (h : OT w B v xs) (o : Obj) : OT (w.alloc o) B v xs := World.ownsRow.alloc h o
theorem OT.kp {w w' : World} {base : Nat} {X : Nat → Prop} {v : Value} {xs : List T4} (h : OT w base v xs) (k : Kp w w' X) (hv : ∀ k, v.ownBlock = some k → ¬ X k) : OT w' base v xs := by
  refine ⟨h.1, ?_⟩
  rcases h.2 with hn | ⟨g, cap, cur, rfl, hb, hgg, rest⟩
  · exact .inl hn
  · refine .inr ⟨g, cap, cur, rfl, hb, ?_, rest⟩
    rw [k.block g (Array.getElem?_eq_some_iff.1 hgg).1 (hv g rfl)]
    exact hgg

end Go.Proofs.YthdehhenkgkkmaaDoor
