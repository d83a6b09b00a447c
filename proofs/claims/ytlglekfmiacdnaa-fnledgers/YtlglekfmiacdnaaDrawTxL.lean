/- The draws of payments: spec.l2DrawRight, l2Draw, l2DrawList. -/
import Derived.Test.YtlglekfmiacdnaaDrawL
import Derived.Test.YtlglekfmiacdnaaToTxS
namespace Go.Proofs.Ytlglekfmiacdnaa
open Go.RowKit
set_option linter.unusedSectionVars false
variable [∀ (a b c d : Int), Decidable (Ok4 a b c d)]
variable [∀ (m a b c d : Int), Decidable (In4 m a b c d)]
variable [∀ (xs ys : List Int), Decidable (LOk xs ys)]

theorem Cur.lt {w : World} {base g ca : Nat} {ao : Option Addr} {xs : List Int} (h : Cur w base g ao ca xs) : g < w.heap.size := by
  obtain ⟨i, hh, hc, _⟩ := h.cells
  exact (Array.getElem?_eq_some_iff.1 hc).1
theorem Cur.below {w w' : World} {base g ca : Nat} {ao : Option Addr} {xs : List Int} (h : Cur w base g ao ca xs) (hB : base ≤ w.heap.size) (hb : Below w.heap.size w w') : Cur w' base g ao ca xs := by
  have hg := h.lt
  refine ⟨h.low, h.len, ?_, ?_⟩
  · obtain ⟨i, hh, hc, h0, h1⟩ := h.cells
    exact ⟨i, hh, (hb.block g hg).trans hc, h0, h1⟩
  · rcases h.code with h' | ⟨b, off, hbb, ha, hx⟩
    · exact .inl h'
    · exact .inr ⟨b, off, hbb, ha, fun k hk => ⟨(hb.cell (p := ⟨b, off + k, none⟩) (by show b < _; omega)).trans (hx k hk).1, (hx k hk).2⟩⟩
theorem grown_new {a b c : World} {row row' : Option Nat} (h : a.grownBy b row) (k : b.grownBy c row') (hr : ∀ j, row' = some j → a.heap.size ≤ j) : a.grownBy c row :=
  ⟨k.os.trans h.os, k.tape.trans h.tape, k.output.trans h.output, Nat.le_trans h.size k.size, fun i hi hne => (k.block i (Nat.lt_of_lt_of_le hi h.size) (fun e => by have := hr i e.symm; omega)).trans (h.block i hi hne)⟩
theorem Cur.grownNew {w w' : World} {base g ca : Nat} {ao : Option Addr} {xs : List Int} {row : Option Nat} (h : Cur w base g ao ca xs) (hg : w.grownBy w' row) (hr : ∀ j, row = some j → g < j) : Cur w' base g ao ca xs := by
  have hlt := h.lt
  have hlow := h.low
  refine ⟨h.low, h.len, ?_, ?_⟩
  · obtain ⟨i, hh, hc, h0, h1⟩ := h.cells
    exact ⟨i, hh, (hg.block g hlt (fun e => by have := hr g e.symm; omega)).trans hc, h0, h1⟩
  · rcases h.code with h' | ⟨b, off, hbb, ha, hx⟩
    · exact .inl h'
    · refine .inr ⟨b, off, hbb, ha, fun k hk => ⟨?_, (hx k hk).2⟩⟩
      rw [World.cell?_of_block (w := w) (hg.block b (by omega) (fun e => by have := hr b e.symm; omega))]
      exact (hx k hk).1
theorem Cur.alloc {w : World} {base g ca : Nat} {ao : Option Addr} {xs : List Int} (h : Cur w base g ao ca xs) (hB : base ≤ w.heap.size) (o : Obj) : Cur (w.alloc o) base g ao ca xs := by
  have hg : g < w.heap.size := by
    obtain ⟨i, hh, hc, _⟩ := h.cells
    exact (Array.getElem?_eq_some_iff.1 hc).1
  have hb : Below w.heap.size w (w.alloc o) := (Below.refl _ _).alloc (Nat.le_refl _) o
  refine ⟨h.low, h.len, ?_, ?_⟩
  · obtain ⟨i, hh, hc, h0, h1⟩ := h.cells
    exact ⟨i, hh, (hb.block g hg).trans hc, h0, h1⟩
  · rcases h.code with h' | ⟨b, off, hbb, ha, hx⟩
    · exact .inl h'
    · exact .inr ⟨b, off, hbb, ha, fun k hk => ⟨(hb.cell (p := ⟨b, off + k, none⟩) (by show b < _; omega)).trans (hx k hk).1, (hx k hk).2⟩⟩
theorem four_cell (w : World) (x : T4) (t : TypeId) (j : Nat) (u : Value) (h : (tcell x)[j]? = some u) : (w.alloc (.cells #[.int .i64 x.1, .int .i64 x.2.1, .int .i64 x.2.2.1, .int .i64 x.2.2.2] t)).cell? ((⟨w.heap.size, 0, none⟩ : Addr).add j) = some u := by
  match j, h with
  | 0, h => simp [tcell] at h; subst h; simp [Addr.add]
  | 1, h => simp [tcell] at h; subst h; simp [Addr.add]
  | 2, h => simp [tcell] at h; subst h; simp [Addr.add]
  | 3, h => simp [tcell] at h; subst h; simp [Addr.add]
  | j + 4, h => simp [tcell] at h
theorem four_plain (x : T4) (u : Value) (h : u ∈ tcell x) : u.oneCell' = true := by
  simp [tcell] at h; rcases h with rfl | rfl | rfl | rfl <;> rfl
theorem ot_alloc {w : World} {B : Nat} {v : Value} {xs : List T4} (h : OT w B v xs) (o : Obj) : OT (w.alloc o) B v xs := World.ownsRow.alloc h o
theorem lit_ints (w : World) (t : TypeId) (zs : List Int) (k : Nat) (hk : k < zs.length) : (w.alloc (.cells (zs.map (Value.int .i64)).toArray t)).cell? ⟨w.heap.size, k, none⟩ = some (.int .i64 (zs.getD k 0)) := by
  rw [cell_of_row _ w.heap.size k _ t (0, 0) (heap_alloc_new w _)]
  simp [List.getElem?_eq_getElem hk]
theorem pickInt_lit (base g ca : Nat) (ao : Option Addr) (xs zs : List Int) (w : World) (hB : base ≤ w.heap.size) (hz : 1 ≤ zs.length) (hz2 : zs.length ≤ 256) (h : Cur w base g ao ca xs) :
    Calls Try.prog 55 #[.pointer (some ⟨g, 0, none⟩), .slice (some ⟨w.heap.size, 0, none⟩) zs.length zs.length] (w.alloc (.cells (zs.map (Value.int .i64)).toArray 3)) fun e w' =>
      ∃ x : Int, e = .returned (.int .i64 x) ∧ x ∈ zs ∧ Cur w' base g ao ca xs ∧ w.grownBy w' (some g) := by
  have hg : g < w.heap.size := by
    obtain ⟨i, hh, hc, _⟩ := h.cells
    exact (Array.getElem?_eq_some_iff.1 hc).1
  refine (pickInt_any base g ca w.heap.size ao xs zs _ (by simp; omega) (by omega) hz hz2 (fun k hk => lit_ints w _ zs k hk) (h.alloc hB _)).mono ?_
  rintro e w' ⟨k, hk, rfl, hc, hgr⟩
  refine ⟨_, rfl, ?_, hc, grown_trans (World.grownBy_alloc w _ _) hgr⟩
  rw [List.getD_eq_getElem?_getD, List.getElem?_eq_getElem hk]
  exact List.getElem_mem hk
theorem frozen_below {w w' : World} {B g : Nat} (hb : Below B w w') (hg : g < B) (h : ∀ j, w.frozen? ⟨g, j, none⟩ = false) : ∀ j, w'.frozen? ⟨g, j, none⟩ = false := fun j => (hb.frozen (p := ⟨g, j, none⟩) hg).trans (h j)
theorem c4_other {w : World} {g g' : Nat} {a b c d : Int} (h : Cells4 w g' a b c d) (hg : g' ≠ g) (j : Nat) (v : Value) : Cells4 (w.setCell ⟨g, j, none⟩ v) g' a b c d :=
  ⟨(World.cell?_setCell_other _ _ _ _ (fun e => hg (congrArg Addr.block e.symm))).trans h.1, (World.cell?_setCell_other _ _ _ _ (fun e => hg (congrArg Addr.block e.symm))).trans h.2.1, (World.cell?_setCell_other _ _ _ _ (fun e => hg (congrArg Addr.block e.symm))).trans h.2.2.1, (World.cell?_setCell_other _ _ _ _ (fun e => hg (congrArg Addr.block e.symm))).trans h.2.2.2⟩
theorem fr_set {w : World} {g g' j : Nat} {v : Value} (h : ∀ i, w.frozen? ⟨g', i, none⟩ = false) : ∀ i, (w.setCell ⟨g, j, none⟩ v).frozen? ⟨g', i, none⟩ = false := fun i => by rw [World.frozen?_setCell]; exact h i

theorem c4_set0 {w : World} {g : Nat} {a b c d : Int} (h : Cells4 w g a b c d) (p : Int) : Cells4 (w.setCell ⟨g, 0, none⟩ (.int .i64 p)) g p b c d :=
  ⟨World.cell?_setCell_same _ _ _ h.1, (World.cell?_setCell_other _ _ _ _ (by simp)).trans h.2.1, (World.cell?_setCell_other _ _ _ _ (by simp)).trans h.2.2.1, (World.cell?_setCell_other _ _ _ _ (by simp)).trans h.2.2.2⟩
theorem c4_set1 {w : World} {g : Nat} {a b c d : Int} (h : Cells4 w g a b c d) (p : Int) : Cells4 (w.setCell ⟨g, 1, none⟩ (.int .i64 p)) g a p c d :=
  ⟨(World.cell?_setCell_other _ _ _ _ (by simp)).trans h.1, World.cell?_setCell_same _ _ _ h.2.1, (World.cell?_setCell_other _ _ _ _ (by simp)).trans h.2.2.1, (World.cell?_setCell_other _ _ _ _ (by simp)).trans h.2.2.2⟩
theorem c4_set2 {w : World} {g : Nat} {a b c d : Int} (h : Cells4 w g a b c d) (p : Int) : Cells4 (w.setCell ⟨g, 2, none⟩ (.int .i64 p)) g a b p d :=
  ⟨(World.cell?_setCell_other _ _ _ _ (by simp)).trans h.1, (World.cell?_setCell_other _ _ _ _ (by simp)).trans h.2.1, World.cell?_setCell_same _ _ _ h.2.2.1, (World.cell?_setCell_other _ _ _ _ (by simp)).trans h.2.2.2⟩
theorem c4_set3 {w : World} {g : Nat} {a b c d : Int} (h : Cells4 w g a b c d) (p : Int) : Cells4 (w.setCell ⟨g, 3, none⟩ (.int .i64 p)) g a b c p :=
  ⟨(World.cell?_setCell_other _ _ _ _ (by simp)).trans h.1, (World.cell?_setCell_other _ _ _ _ (by simp)).trans h.2.1, (World.cell?_setCell_other _ _ _ _ (by simp)).trans h.2.2.1, World.cell?_setCell_same _ _ _ h.2.2.2⟩
theorem c4_grown {w w' : World} {r g : Nat} {a b c d : Int} (h : Cells4 w r a b c d) (hg : w.grownBy w' (some g)) (hr : r ≠ g) : Cells4 w' r a b c d :=
  ⟨hg.cell h.1 (by simpa using hr), hg.cell h.2.1 (by simpa using hr), hg.cell h.2.2.1 (by simpa using hr), hg.cell h.2.2.2 (by simpa using hr)⟩
theorem fr_grown {w w' : World} {r g : Nat} (h : ∀ j, w.frozen? ⟨r, j, none⟩ = false) (hl : r < w.heap.size) (hg : w.grownBy w' (some g)) (hr : r ≠ g) : ∀ j, w'.frozen? ⟨r, j, none⟩ = false := fun j =>
  (World.frozen?_of_block (a := ⟨r, j, none⟩) (hg.block r hl (by simpa using hr))).trans (h j)
theorem grown_set {w w' : World} {row : Option Nat} (h : w.grownBy w' row) {r : Nat} (hr : w.heap.size ≤ r) (j : Nat) (v : Value) : w.grownBy (w'.setCell ⟨r, j, none⟩ v) row :=
  grown_new h (set_grown w' r j v) (fun k e => by simp at e; omega)
theorem Cur.set {w : World} {base g ca : Nat} {ao : Option Addr} {xs : List Int} (h : Cur w base g ao ca xs) {r : Nat} (hr : g < r) (j : Nat) (v : Value) : Cur (w.setCell ⟨r, j, none⟩ v) base g ao ca xs :=
  h.grownNew (set_grown w r j v) (fun k e => by simp at e; omega)

set_option maxHeartbeats 2000000 in
set_option maxRecDepth 100000 in
theorem drawRight (base g ca : Nat) (ao : Option Addr) (xs : List Int) (w : World) (hB : base ≤ w.heap.size) (h : Cur w base g ao ca xs) :
    Calls Try.prog 59 #[.pointer (some ⟨g, 0, none⟩)] w fun e w' => ∃ a b c d : Int, e = .returned (txv a b c d) ∧ (0 ≤ a ∧ a < 4) ∧ Cur w' base g ao ca xs ∧ w.grownBy w' (some g) := by
  have hlt := h.lt
  have h0 := h.alloc hB (.cells #[.int .i64 0, .int .i64 0, .int .i64 0, .int .i64 0] 33)
  have g0 := World.grownBy_alloc w (.cells #[.int .i64 0, .int .i64 0, .int .i64 0, .int .i64 0] 33) (some g)
  have z0 := cells4_new w 0 0 0 0 33
  have f0 : ∀ j, (w.alloc (.cells #[.int .i64 0, .int .i64 0, .int .i64 0, .int .i64 0] 33)).frozen? ⟨w.heap.size, j, none⟩ = false := fun j => by simp [go_sem]
  clear h
  have P := hide (And.intro h0 (And.intro g0 (And.intro z0 f0)))
  clear h0 g0 z0 f0
  go_enter Try.func59, Try.ntmps59
  go_wp2_with fail
  refine (below_any base g ca ao xs 4 _ (by simp; omega) (by omega) (by omega) (unhide P).1).mono ?_
  rintro e w1 ⟨a, rfl, a1, a2, c1, e1⟩
  have P1 := hide (And.intro c1 (And.intro (grown_trans (unhide P).2.1 e1) (And.intro (c4_grown (unhide P).2.2.1 e1 (by omega)) (fr_grown (unhide P).2.2.2 (by simp) e1 (by omega)))))
  have s1 : w.heap.size + 1 ≤ w1.heap.size := by have := e1.size; simp at this; omega
  clear P c1 e1
  go_wp2_with fail
  refine (below_any base g ca ao xs 4 _ (by omega) (by omega) (by omega) (unhide P1).1).mono ?_
  rintro e w2 ⟨b, rfl, _, _, c2, e2⟩
  have P2 := hide (And.intro c2 (And.intro (grown_trans (unhide P1).2.1 e2) (And.intro (c4_grown (unhide P1).2.2.1 e2 (by omega)) (fr_grown (unhide P1).2.2.2 (by omega) e2 (by omega)))))
  have s2 : w.heap.size + 1 ≤ w2.heap.size := by have := e2.size; omega
  clear P1 c2 e2
  go_wp2_with fail
  refine (pickInt_lit base g ca ao xs [0, 5, 60, 100, 1000] w2 (by omega) (by decide) (by decide) (unhide P2).1).mono ?_
  rintro e w3 ⟨c, rfl, _, c3, e3⟩
  have P3 := hide (And.intro c3 (And.intro (grown_trans (unhide P2).2.1 e3) (And.intro (c4_grown (unhide P2).2.2.1 e3 (by omega)) (fr_grown (unhide P2).2.2.2 (by omega) e3 (by omega)))))
  have s3 : w.heap.size + 1 ≤ w3.heap.size := by have := e3.size; omega
  clear P2 c3 e3
  go_wp2_with fail
  refine (below_any base g ca ao xs 3 _ (by omega) (by omega) (by omega) (unhide P3).1).mono ?_
  rintro e w4 ⟨d, rfl, _, _, c4, e4⟩
  have gg := grown_trans (unhide P3).2.1 e4
  obtain ⟨z0, z1, z2, z3⟩ := c4_grown (unhide P3).2.2.1 e4 (by omega)
  have zf := fr_grown (unhide P3).2.2.2 (by omega) e4 (by omega)
  have HC := hide c4
  clear P3 e4 c4
  go_wp2
  refine bodyPost_ret (v := txv a b c d) (by simp [results, Try.results59, go_sem, z0, z1, z2, z3]) rfl ?_
  exact ⟨a, b, c, d, rfl, ⟨a1, a2⟩, ((((unhide HC).set (by omega) _ _).set (by omega) _ _).set (by omega) _ _).set (by omega) _ _, grown_set (grown_set (grown_set (grown_set gg (Nat.le_refl _) _ _) (Nat.le_refl _) _ _) (Nat.le_refl _) _ _) (Nat.le_refl _) _ _⟩

set_option maxHeartbeats 4000000 in
set_option maxRecDepth 100000 in
theorem drawTx (base g ca : Nat) (ao : Option Addr) (xs : List Int) (w : World) (hB : base ≤ w.heap.size) (h : Cur w base g ao ca xs) :
    Calls Try.prog 45 #[.pointer (some ⟨g, 0, none⟩)] w fun e w' => ∃ a b c d : Int, e = .returned (txv a b c d) ∧ Cur w' base g ao ca xs ∧ w.grownBy w' (some g) := by
  have hlt := h.lt
  have h0 := h.alloc hB (.cells #[.int .i64 0, .int .i64 0, .int .i64 0, .int .i64 0] 33)
  have g0 := World.grownBy_alloc w (.cells #[.int .i64 0, .int .i64 0, .int .i64 0, .int .i64 0] 33) (some g)
  have z0 := cells4_new w 0 0 0 0 33
  have f0 : ∀ j, (w.alloc (.cells #[.int .i64 0, .int .i64 0, .int .i64 0, .int .i64 0] 33)).frozen? ⟨w.heap.size, j, none⟩ = false := fun j => by simp [go_sem]
  clear h
  have P := hide (And.intro h0 (And.intro g0 (And.intro z0 f0)))
  clear h0 g0 z0 f0
  go_enter Try.func45, Try.ntmps45
  go_wp2_with fail
  refine (drawRight base g ca ao xs _ (by simp; omega) (unhide P).1).mono ?_
  rintro e w1 ⟨a, b, c, d, rfl, _, c1, e1⟩
  have s1 : w.heap.size + 1 ≤ w1.heap.size := by have := e1.size; simp at this; omega
  have bn : Below w1.heap.size w1 (w1.alloc (.cells #[.int .i64 a, .int .i64 b, .int .i64 c, .int .i64 d] 33)) := (Below.refl _ _).alloc (Nat.le_refl _) _
  have P1 := hide (And.intro (c1.alloc (by omega) (.cells #[.int .i64 a, .int .i64 b, .int .i64 c, .int .i64 d] 33)) (And.intro (grown_trans (grown_trans (unhide P).2.1 e1) (World.grownBy_alloc w1 (.cells #[.int .i64 a, .int .i64 b, .int .i64 c, .int .i64 d] 33) (some g))) (And.intro ((c4_grown (unhide P).2.2.1 e1 (by omega)).below bn (by omega)) (And.intro (frozen_below bn (g := w.heap.size) (by omega) (fr_grown (unhide P).2.2.2 (by simp) e1 (by omega))) (And.intro (cells4_new w1 a b c d 33) (show ∀ j, (w1.alloc (.cells #[.int .i64 a, .int .i64 b, .int .i64 c, .int .i64 d] 33)).frozen? ⟨w1.heap.size, j, none⟩ = false from fun j => by simp [go_sem]))))))
  clear P c1 e1 bn
  go_wp2_with fail
  refine (below_any base g ca ao xs 12 _ (by simp; omega) (by omega) (by omega) (unhide P1).1).mono ?_
  rintro e w2 ⟨k, rfl, k0, k1, c2, e2⟩
  have s2 : w1.heap.size + 1 ≤ w2.heap.size := by have := e2.size; simp at this; omega
  have P2 := hide (And.intro c2 (And.intro (grown_trans (unhide P1).2.1 e2) (And.intro (c4_grown (unhide P1).2.2.1 e2 (by omega)) (And.intro (fr_grown (unhide P1).2.2.2.1 (by simp; omega) e2 (by omega)) (And.intro (c4_grown (unhide P1).2.2.2.2.1 e2 (by omega)) (fr_grown (unhide P1).2.2.2.2.2 (by simp) e2 (by omega)))))))
  clear P1 c2 e2
  by_cases hk0 : k = 0
  · subst hk0
    go_wp2_with fail
    refine (pickInt_lit base g ca ao xs [-1, 4] w2 (by omega) (by decide) (by decide) (unhide P2).1).mono ?_
    rintro e w3 ⟨q, rfl, _, c3, e3⟩
    have gg := grown_trans (unhide P2).2.1 e3
    have X3 := c4_grown (unhide P2).2.2.2.2.1 e3 (by omega)
    have Y3 := fr_grown (unhide P2).2.2.2.2.2 (by omega) e3 (by omega)
    have Z3 := c4_grown (unhide P2).2.2.1 e3 (by omega)
    have F3 := fr_grown (unhide P2).2.2.2.1 (by omega) e3 (by omega)
    have X3' := X3
    obtain ⟨y0, y1, y2, y3⟩ := X3
    obtain ⟨x0, x1, x2, x3⟩ := c4_set0 X3' q
    obtain ⟨z0, z1, z2, z3⟩ := c4_other (g := w1.heap.size) Z3 (by omega) 0 (.int .i64 q)
    have zf := fr_set (g := w1.heap.size) (j := 0) (v := .int .i64 q) F3
    have HC := hide c3
    clear P2 e3 c3 Z3
    go_wp2
    refine bodyPost_ret (v := txv q b c d) (by simp [results, Try.results45, go_sem, z0, z1, z2, z3]) rfl ?_
    exact ⟨_, _, _, _, rfl, (((((unhide HC).set (by omega) _ _).set (by omega) _ _).set (by omega) _ _).set (by omega) _ _).set (by omega) _ _, grown_set (grown_set (grown_set (grown_set (grown_set gg (by omega) _ _) (Nat.le_refl _) _ _) (Nat.le_refl _) _ _) (Nat.le_refl _) _ _) (Nat.le_refl _) _ _⟩
  by_cases hk1 : k = 1
  · subst hk1
    go_wp2_with fail
    refine (pickInt_lit base g ca ao xs [-1, 4] w2 (by omega) (by decide) (by decide) (unhide P2).1).mono ?_
    rintro e w3 ⟨q, rfl, _, c3, e3⟩
    have gg := grown_trans (unhide P2).2.1 e3
    have X3 := c4_grown (unhide P2).2.2.2.2.1 e3 (by omega)
    have Y3 := fr_grown (unhide P2).2.2.2.2.2 (by omega) e3 (by omega)
    have Z3 := c4_grown (unhide P2).2.2.1 e3 (by omega)
    have F3 := fr_grown (unhide P2).2.2.2.1 (by omega) e3 (by omega)
    have X3' := X3
    obtain ⟨y0, y1, y2, y3⟩ := X3
    obtain ⟨x0, x1, x2, x3⟩ := c4_set1 X3' q
    obtain ⟨z0, z1, z2, z3⟩ := c4_other (g := w1.heap.size) Z3 (by omega) 1 (.int .i64 q)
    have zf := fr_set (g := w1.heap.size) (j := 1) (v := .int .i64 q) F3
    have HC := hide c3
    clear P2 e3 c3 Z3
    go_wp2
    refine bodyPost_ret (v := txv a q c d) (by simp [results, Try.results45, go_sem, z0, z1, z2, z3]) rfl ?_
    exact ⟨_, _, _, _, rfl, (((((unhide HC).set (by omega) _ _).set (by omega) _ _).set (by omega) _ _).set (by omega) _ _).set (by omega) _ _, grown_set (grown_set (grown_set (grown_set (grown_set gg (by omega) _ _) (Nat.le_refl _) _ _) (Nat.le_refl _) _ _) (Nat.le_refl _) _ _) (Nat.le_refl _) _ _⟩
  by_cases hk2 : k = 2
  · subst hk2
    go_wp2_with fail
    refine (pickInt_lit base g ca ao xs [-1, 1001] w2 (by omega) (by decide) (by decide) (unhide P2).1).mono ?_
    rintro e w3 ⟨q, rfl, _, c3, e3⟩
    have gg := grown_trans (unhide P2).2.1 e3
    have X3 := c4_grown (unhide P2).2.2.2.2.1 e3 (by omega)
    have Y3 := fr_grown (unhide P2).2.2.2.2.2 (by omega) e3 (by omega)
    have Z3 := c4_grown (unhide P2).2.2.1 e3 (by omega)
    have F3 := fr_grown (unhide P2).2.2.2.1 (by omega) e3 (by omega)
    have X3' := X3
    obtain ⟨y0, y1, y2, y3⟩ := X3
    obtain ⟨x0, x1, x2, x3⟩ := c4_set2 X3' q
    obtain ⟨z0, z1, z2, z3⟩ := c4_other (g := w1.heap.size) Z3 (by omega) 2 (.int .i64 q)
    have zf := fr_set (g := w1.heap.size) (j := 2) (v := .int .i64 q) F3
    have HC := hide c3
    clear P2 e3 c3 Z3
    go_wp2
    refine bodyPost_ret (v := txv a b q d) (by simp [results, Try.results45, go_sem, z0, z1, z2, z3]) rfl ?_
    exact ⟨_, _, _, _, rfl, (((((unhide HC).set (by omega) _ _).set (by omega) _ _).set (by omega) _ _).set (by omega) _ _).set (by omega) _ _, grown_set (grown_set (grown_set (grown_set (grown_set gg (by omega) _ _) (Nat.le_refl _) _ _) (Nat.le_refl _) _ _) (Nat.le_refl _) _ _) (Nat.le_refl _) _ _⟩
  by_cases hk3 : k = 3
  · subst hk3
    go_wp2_with fail
    refine (pickInt_lit base g ca ao xs [-1, 99, 100] w2 (by omega) (by decide) (by decide) (unhide P2).1).mono ?_
    rintro e w3 ⟨q, rfl, _, c3, e3⟩
    have gg := grown_trans (unhide P2).2.1 e3
    have X3 := c4_grown (unhide P2).2.2.2.2.1 e3 (by omega)
    have Y3 := fr_grown (unhide P2).2.2.2.2.2 (by omega) e3 (by omega)
    have Z3 := c4_grown (unhide P2).2.2.1 e3 (by omega)
    have F3 := fr_grown (unhide P2).2.2.2.1 (by omega) e3 (by omega)
    have X3' := X3
    obtain ⟨y0, y1, y2, y3⟩ := X3
    obtain ⟨x0, x1, x2, x3⟩ := c4_set3 X3' q
    obtain ⟨z0, z1, z2, z3⟩ := c4_other (g := w1.heap.size) Z3 (by omega) 3 (.int .i64 q)
    have zf := fr_set (g := w1.heap.size) (j := 3) (v := .int .i64 q) F3
    have HC := hide c3
    clear P2 e3 c3 Z3
    go_wp2
    refine bodyPost_ret (v := txv a b c q) (by simp [results, Try.results45, go_sem, z0, z1, z2, z3]) rfl ?_
    exact ⟨_, _, _, _, rfl, (((((unhide HC).set (by omega) _ _).set (by omega) _ _).set (by omega) _ _).set (by omega) _ _).set (by omega) _ _, grown_set (grown_set (grown_set (grown_set (grown_set gg (by omega) _ _) (Nat.le_refl _) _ _) (Nat.le_refl _) _ _) (Nat.le_refl _) _ _) (Nat.le_refl _) _ _⟩
  have n0 : (k == 0) = false := by simp [hk0]
  have n1 : (k == 1) = false := by simp [hk1]
  have n2 : (k == 2) = false := by simp [hk2]
  have n3 : (k == 3) = false := by simp [hk3]
  obtain ⟨x0, x1, x2, x3⟩ := (unhide P2).2.2.2.2.1
  obtain ⟨z0, z1, z2, z3⟩ := (unhide P2).2.2.1
  have zf := (unhide P2).2.2.2.1
  have gg := (unhide P2).2.1
  have HC := hide (unhide P2).1
  clear P2 hk0 hk1 hk2 hk3
  go_wp2
  refine bodyPost_ret (v := txv a b c d) (by simp [results, Try.results45, go_sem, z0, z1, z2, z3]) rfl ?_
  exact ⟨_, _, _, _, rfl, ((((unhide HC).set (by omega) _ _).set (by omega) _ _).set (by omega) _ _).set (by omega) _ _, grown_set (grown_set (grown_set (grown_set gg (Nat.le_refl _) _ _) (Nat.le_refl _) _ _) (Nat.le_refl _) _ _) (Nat.le_refl _) _ _⟩

theorem OT.grown {w w' : World} {base g : Nat} {v : Value} {xs : List T4} (h : OT w base v xs) (hg : w.grownBy w' (some g)) (hlt : g < base) : OT w' base v xs :=
  World.ownsRow.kept h hg (by
    cases hv : v.ownBlock with
    | none => exact .inl rfl
    | some k => exact .inr fun e => by have := (World.ownsRow.lt h k hv).1; simp at e; omega)

set_option maxHeartbeats 4000000 in
set_option maxRecDepth 100000 in
theorem drawTxs (base g ca : Nat) (ao : Option Addr) (xs : List Int) (w : World) (hB : base ≤ w.heap.size) (h : Cur w base g ao ca xs) :
    Calls Try.prog 41 #[.pointer (some ⟨g, 0, none⟩)] w fun e w' => ∃ (v : Value) (ys : List T4), e = .returned v ∧ ys.length ≤ 4 ∧ OT w' w.heap.size v ys ∧ Cur w' base g ao ca xs ∧ w.grownBy w' (some g) := by
  obtain ⟨i0, hi, hz0, hz1, hz2⟩ := info_parts Try.infoTx
  have hlt := h.lt
  have H0 := hide (h.alloc hB (.cells #[] 33))
  clear h
  go_enter Try.func41, Try.ntmps41
  go_wp2
  go_loopw [3, 4] (fun v i wr => ∃ (k : Nat) (ys : List T4), k ≤ 4 ∧ i = .int .i64 k ∧ ys.length = k ∧ OT wr w.heap.size v ys ∧ Cur wr base g ao ca xs ∧ w.grownBy wr (some g)) (fun _ i _ => 5 - (intOf i).toNat)
  case atStart => exact ⟨0, [], by omega, rfl, rfl, World.ownsRow_lit w #[] 0 (Nat.le_refl _) (by unfold maxLen; omega) rfl, unhide H0, World.grownBy_alloc w _ _⟩
  case round =>
    obtain ⟨k, ys, hk, rfl, hyl, ho, hc, hg⟩ := hrel
    have hsz := hg.size
    have P := hide (And.intro ho (And.intro hc hg))
    clear ho hc hg H0
    go_wp2_with fail
    refine (below_any base g ca ao xs 5 _ (by omega) (by omega) (by omega) (unhide P).2.1).mono ?_
    rintro e w1 ⟨n, rfl, _, n1, c1, e1⟩
    have s1 := e1.size
    have P1 := hide (And.intro ((unhide P).1.grown e1 hlt) (And.intro c1 (grown_trans (unhide P).2.2 e1)))
    clear P c1 e1
    by_cases hkn : (k : Int) < n
    · go_wp2_with fail
      refine (drawTx base g ca ao xs _ (by omega) (unhide P1).2.1).mono ?_
      rintro e w2 ⟨a, b, c, d, rfl, c2, e2⟩
      have s2 := e2.size
      have ho2 := ot_alloc ((unhide P1).1.grown e2 hlt) (.cells #[.int .i64 a, .int .i64 b, .int .i64 c, .int .i64 d] 33)
      have hc2 := c2.alloc (by omega) (.cells #[.int .i64 a, .int .i64 b, .int .i64 c, .int .i64 d] 33)
      have hg2 := grown_trans (grown_trans (unhide P1).2.2 e2) (World.grownBy_alloc w2 (.cells #[.int .i64 a, .int .i64 b, .int .i64 c, .int .i64 d] 33) (some g))
      clear P1 c2 e2
      go_wp2_with (first
        | (at_builtin; refine wpList_append_own _ rfl _ _ 27 rfl w.heap.size 33 i0 (txv 0 0 0 0) 4 32 Try.underlying27 hi hz0 hz1 hz2 rfl (by decide) _ _ _ rfl ho2 ⟨w2.heap.size, 0, none⟩ 1 1 (tcell (a, b, c, d)) rfl rfl (four_cell w2 (a, b, c, d) 33) (four_plain _) (by unfold maxLen; omega) (by omega) (by simp; omega) ?_; intro v' w3 ho' hg' _; have hl2 := ho2.lt; have R := (show OT w3 w.heap.size v' (ys ++ [(a, b, c, d)]) by unfold OT; rw [tcells_append, List.length_append]; simpa [tcells] using ho'); have RC := hc2.grownNew hg' (fun j e => by have := (hl2 j e).1; omega); have RG := grown_new hg2 hg' (fun j e => (hl2 j e).1); clear ho2 ho' hg' hg2 hc2 hl2))
      go_roundw
      case rel => exact ⟨k + 1, _, by omega, by go_num, by simp [hyl], R, RC, RG⟩
      case measure => simp [intOf]; omega
    · have hd : decide ((k : Int) < n) = false := by simpa using hkn
      go_wp2
      go_ret
      exact ⟨_, ys, rfl, by omega, (unhide P1).1, (unhide P1).2.1, (unhide P1).2.2⟩
end Go.Proofs.Ytlglekfmiacdnaa
