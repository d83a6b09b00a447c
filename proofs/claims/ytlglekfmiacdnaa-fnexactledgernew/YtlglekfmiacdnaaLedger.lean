/- Ledgers in memory; laws.szLedger, toLedger, eqLedger. -/
import Derived.Test.YtlglekfmiacdnaaInts
namespace Go.Proofs.Ytlglekfmiacdnaa
open Go.RowKit
set_option linter.unusedSectionVars false

/-- From w to w' nothing turned but blocks of X. -/
structure Kp (w w' : World) (X : Nat → Prop) : Prop where
  os : w'.os = w.os
  tape : w'.tape = w.tape
  output : w'.output = w.output
  size : w.heap.size ≤ w'.heap.size
  block : ∀ k, k < w.heap.size → ¬ X k → w'.heap[k]? = w.heap[k]?
theorem Kp.refl (w : World) (X : Nat → Prop) : Kp w w X := ⟨rfl, rfl, rfl, Nat.le_refl _, fun _ _ _ => rfl⟩
theorem Kp.trans {a b c : World} {X : Nat → Prop} (h : Kp a b X) (k : Kp b c X) : Kp a c X :=
  ⟨k.os.trans h.os, k.tape.trans h.tape, k.output.trans h.output, Nat.le_trans h.size k.size, fun i hi hx => (k.block i (Nat.lt_of_lt_of_le hi h.size) hx).trans (h.block i hi hx)⟩
theorem Kp.mono {a b : World} {X Y : Nat → Prop} (h : Kp a b X) (hxy : ∀ k, X k → Y k) : Kp a b Y := ⟨h.os, h.tape, h.output, h.size, fun k hk hy => h.block k hk (fun hx => hy (hxy k hx))⟩
theorem Below.kpOf {w w' : World} (h : Below w.heap.size w w') (X : Nat → Prop) : Kp w w' X := ⟨h.os, h.tape, h.output, h.size, fun k hk _ => h.block k hk⟩
theorem kp_grown {w w' : World} {row : Option Nat} (h : w.grownBy w' row) : Kp w w' (fun k => row = some k) := ⟨h.os, h.tape, h.output, h.size, fun k hk hx => h.block k hk (fun e => hx e.symm)⟩
theorem Kp.cell {w w' : World} {X : Nat → Prop} (h : Kp w w' X) {a : Addr} {v : Value} (hc : w.cell? a = some v) (hx : ¬ X a.block) : w'.cell? a = some v :=
  (World.cell?_of_block (h.block a.block (cell_lt hc) hx)).trans hc
theorem Below.kp {B : Nat} {a w w' : World} {X : Nat → Prop} (h : Below B a w) (k : Kp w w' X) (hB : B ≤ w.heap.size) (hx : ∀ k, X k → B ≤ k) : Below B a w' :=
  ⟨k.os.trans h.os, k.tape.trans h.tape, k.output.trans h.output, Nat.le_trans h.size k.size, fun i hi => (k.block i (by omega) (fun h' => by have := hx i h'; omega)).trans (h.block i hi)⟩
theorem OI.kp {w w' : World} {base : Nat} {X : Nat → Prop} {v : Value} {xs : List Int} (h : OI w base v xs) (k : Kp w w' X) (hv : ∀ k, v.ownBlock = some k → ¬ X k) : OI w' base v xs := by
  refine ⟨h.1, ?_⟩
  rcases h.2 with hn | ⟨g, cap, cur, rfl, hb, hgg, rest⟩
  · exact .inl hn
  · refine .inr ⟨g, cap, cur, rfl, hb, ?_, rest⟩
    rw [k.block g (Array.getElem?_eq_some_iff.1 hgg).1 (hv g rfl)]
    exact hgg

theorem OI.mono {w : World} {base base' : Nat} {v : Value} {xs : List Int} (h : OI w base v xs) (hb : base' ≤ base) : OI w base' v xs := by
  refine ⟨h.1, ?_⟩
  rcases h.2 with hn | ⟨g, cap, cur, rfl, hg, rest⟩
  · exact .inl hn
  · exact .inr ⟨g, cap, cur, rfl, Nat.le_trans hb hg, rest⟩

theorem OI.form {w : World} {base : Nat} {v : Value} {xs : List Int} (h : OI w base v xs) : ∃ ao ca, v = .slice ao xs.length ca := by
  rcases h.2 with ⟨rfl, h0⟩ | ⟨g, cap, cur, rfl, _⟩
  · exact ⟨none, 0, by rw [h0]⟩
  · exact ⟨_, _, rfl⟩

/-- Block g has the two cells a, b. -/
def Loc2 (w : World) (g : Nat) (a b : Value) : Prop := ∃ t, w.heap[g]? = some (.cells #[a, b] t (0, 0))
theorem loc2_new (w : World) (a b : Value) (t : TypeId) : Loc2 (w.alloc (.cells #[a, b] t)) w.heap.size a b := ⟨t, heap_alloc_new w _⟩
theorem loc2_at (w : World) (a b : Value) (t : TypeId) {g : Nat} (h : w.heap.size = g) : Loc2 (w.alloc (.cells #[a, b] t)) g a b := h ▸ loc2_new w a b t
theorem Loc2.lt {w : World} {g : Nat} {a b : Value} (h : Loc2 w g a b) : g < w.heap.size := by obtain ⟨t, h⟩ := h; exact (Array.getElem?_eq_some_iff.1 h).1
theorem Loc2.cells {w : World} {g : Nat} {a b : Value} (h : Loc2 w g a b) : w.cell? ⟨g, 0, none⟩ = some a ∧ w.cell? ⟨g, 1, none⟩ = some b ∧ w.frozen? ⟨g, 0, none⟩ = false ∧ w.frozen? ⟨g, 1, none⟩ = false := by
  obtain ⟨t, h⟩ := h
  refine ⟨?_, ?_, frozen_of_row w g 0 _ t h, frozen_of_row w g 1 _ t h⟩
  · rw [cell_of_row w g 0 _ t (0, 0) h]; rfl
  · rw [cell_of_row w g 1 _ t (0, 0) h]; rfl
theorem Loc2.below {w w' : World} {g B : Nat} {a b : Value} (h : Loc2 w g a b) (hb : Below B w w') (hg : g < B) : Loc2 w' g a b := by obtain ⟨t, h⟩ := h; exact ⟨t, (hb.block g hg).trans h⟩
theorem Loc2.kp {w w' : World} {g : Nat} {X : Nat → Prop} {a b : Value} (h : Loc2 w g a b) (k : Kp w w' X) (hg : ¬ X g) : Loc2 w' g a b := by have hl := h.lt; obtain ⟨t, h⟩ := h; exact ⟨t, (k.block g hl hg).trans h⟩
theorem Loc2.alloc {w : World} {g : Nat} {a b : Value} (h : Loc2 w g a b) (o : Obj) : Loc2 (w.alloc o) g a b := h.kp (X := fun _ => False) (Below.kpOf ((Below.refl _ _).alloc (Nat.le_refl _) o) _) (fun h => h)
theorem Loc2.drewN {w : World} {g : Nat} {a b : Value} (h : Loc2 w g a b) (n : Nat) : Loc2 (w.drewN n) g a b := h
theorem Loc2.set0 {w : World} {g : Nat} {a b : Value} (h : Loc2 w g a b) (u : Value) : Loc2 (w.setCell ⟨g, 0, none⟩ u) g u b := by obtain ⟨t, h⟩ := h; exact ⟨t, by rw [heap_setCell_same w g 0 _ t u h]; rfl⟩
theorem Loc2.set1 {w : World} {g : Nat} {a b : Value} (h : Loc2 w g a b) (u : Value) : Loc2 (w.setCell ⟨g, 1, none⟩ u) g a u := by obtain ⟨t, h⟩ := h; exact ⟨t, by rw [heap_setCell_same w g 1 _ t u h]; rfl⟩
theorem Loc2.other {w : World} {g : Nat} {a b : Value} (h : Loc2 w g a b) {p : Addr} (hp : g ≠ p.block) (u : Value) : Loc2 (w.setCell p u) g a b := by obtain ⟨t, h⟩ := h; exact ⟨t, (heap_setCell_other w p g u hp).trans h⟩

/-- A ledger as a value. -/
abbrev lv (a b : Value) : Value := .agg #[a, b]
/-- a, b are the lists of a ledger of the call's own: they lie in blocks from lo on and below hi, and share none. -/
structure OL (w : World) (lo hi : Nat) (a b : Value) (xs ys : List Int) : Prop where
  has : OI w lo a xs
  next : OI w lo b ys
  top : ∀ k, a.ownBlock = some k → k < hi
  top' : ∀ k, b.ownBlock = some k → k < hi
  ne : ∀ k, a.ownBlock = some k → b.ownBlock ≠ some k
theorem OL.kp {w w' : World} {lo hi : Nat} {X : Nat → Prop} {a b : Value} {xs ys : List Int} (h : OL w lo hi a b xs ys) (k : Kp w w' X) (hx : ∀ k, lo ≤ k → k < hi → ¬ X k) : OL w' lo hi a b xs ys :=
  ⟨h.has.kp k (fun j hj => hx j (World.ownsRow.lt h.has j hj).1 (h.top j hj)), h.next.kp k (fun j hj => hx j (World.ownsRow.lt h.next j hj).1 (h.top' j hj)), h.top, h.top', h.ne⟩
theorem OL.below {w w' : World} {lo hi : Nat} {a b : Value} {xs ys : List Int} (h : OL w lo hi a b xs ys) (hb : Below w.heap.size w w') : OL w' lo hi a b xs ys := h.kp (Below.kpOf hb (fun _ => False)) (fun _ _ _ h => h)
theorem OL.alloc {w : World} {lo hi : Nat} {a b : Value} {xs ys : List Int} (h : OL w lo hi a b xs ys) (o : Obj) : OL (w.alloc o) lo hi a b xs ys := h.below ((Below.refl _ _).alloc (Nat.le_refl _) _)
theorem OL.ri {w : World} {lo hi : Nat} {a b : Value} {xs ys : List Int} (h : OL w lo hi a b xs ys) (hl : xs.length ≤ 4194304) (hm : ys.length ≤ 4194304) : RI w a xs ∧ RI w b ys := ⟨h.has.ri hl, h.next.ri hm⟩
theorem OL.mono {w : World} {lo hi lo' hi' : Nat} {a b : Value} {xs ys : List Int} (h : OL w lo hi a b xs ys) (h1 : lo' ≤ lo) (h2 : hi ≤ hi') : OL w lo' hi' a b xs ys :=
  ⟨h.has.mono h1, h.next.mono h1, fun k hk => Nat.lt_of_lt_of_le (h.top k hk) h2, fun k hk => Nat.lt_of_lt_of_le (h.top' k hk) h2, h.ne⟩
theorem Below.set {B : Nat} {a w : World} (h : Below B a w) {g : Nat} (j : Nat) (u : Value) (hg : B ≤ g) : Below B a (w.setCell ⟨g, j, none⟩ u) := Below.setCell h (p := ⟨g, j, none⟩) hg u
theorem set_kp (w : World) (g j : Nat) (u : Value) : Kp w (w.setCell ⟨g, j, none⟩ u) (fun k => k = g) :=
  ⟨rfl, rfl, rfl, by simp, fun k _ hk => heap_setCell_other w ⟨g, j, none⟩ k u hk⟩

set_option maxHeartbeats 800000 in
set_option maxRecDepth 100000 in
theorem szLedger_yes (ao bo : Option Addr) (n ca m cb : Nat) (w : World) (h : n + m ≤ 1048576) :
    Calls Try.prog 26 #[lv (.slice ao n ca) (.slice bo m cb), .int .i64 1048576] w fun e w' => e = .returned (.int .i64 (1048576 - n - m)) ∧ Below w.heap.size w w' := by
  have h1 : decide ((1048576 : Int) - (n : Int) < 0) = false := by simp; omega
  have h2 : decide ((1048576 : Int) - (n : Int) - (m : Int) < 0) = false := by simp; omega
  go_enter Try.func26, Try.ntmps26
  go_wp2_with (first | (go_at_call 50; refine (szIntS_yes _ _ _ _ _ (by omega) (by omega)).mono ?_; rintro e w' ⟨rfl, rfl⟩))
  go_ret
  exact ⟨rfl, (Below.refl _ _).alloc (Nat.le_refl _) _⟩
set_option maxHeartbeats 800000 in
set_option maxRecDepth 100000 in
theorem szLedger_no1 (ao bo : Option Addr) (n ca m cb : Nat) (w : World) (h : 1048576 < n) (hn : n ≤ 9223372036854775807) :
    Calls Try.prog 26 #[lv (.slice ao n ca) (.slice bo m cb), .int .i64 1048576] w fun e w' => e = .returned (.int .i64 (-1)) ∧ Below w.heap.size w w' := by
  go_enter Try.func26, Try.ntmps26
  go_wp2_with (first | (go_at_call 50; refine (szIntS_no _ _ _ _ _ (by omega) (by omega) (by omega) hn).mono ?_; rintro e w' ⟨rfl, rfl⟩))
  go_ret
  exact ⟨rfl, (Below.refl _ _).alloc (Nat.le_refl _) _⟩
set_option maxHeartbeats 800000 in
set_option maxRecDepth 100000 in
theorem szLedger_no2 (ao bo : Option Addr) (n ca m cb : Nat) (w : World) (h0 : n ≤ 1048576) (h : 1048576 < n + m) (hm : m ≤ 9223372036854775807) :
    Calls Try.prog 26 #[lv (.slice ao n ca) (.slice bo m cb), .int .i64 1048576] w fun e w' => e = .returned (.int .i64 (-1)) ∧ Below w.heap.size w w' := by
  have h1 : decide ((1048576 : Int) - (n : Int) < 0) = false := by simp; omega
  go_enter Try.func26, Try.ntmps26
  go_wp2_with fail
  refine (szIntS_yes _ _ _ _ _ (by omega) (by omega)).mono ?_
  rintro e w' ⟨rfl, rfl⟩
  go_wp2_with fail
  refine (szIntS_no _ _ _ _ _ (by omega) (by omega) (by omega) hm).mono ?_
  rintro e w' ⟨rfl, rfl⟩
  go_wp2
  go_ret
  exact ⟨rfl, (Below.refl _ _).alloc (Nat.le_refl _) _⟩

set_option maxHeartbeats 1600000 in
set_option maxRecDepth 100000 in
theorem eqLedger_yes (a b a' b' : Value) (xs ys : List Int) (w : World) (ha : RI w a xs ∧ RI w b ys) (ha' : RI w a' xs ∧ RI w b' ys) :
    Calls Try.prog 28 #[lv a b, lv a' b'] w fun e w' => e = .returned (.bool true) ∧ Below w.heap.size w w' := by
  obtain ⟨R1, R2⟩ := ha
  obtain ⟨R3, R4⟩ := ha'
  have R1 := hide R1
  have R2 := hide R2
  have R3 := hide R3
  have R4 := hide R4
  have B := hide (((Below.refl w.heap.size w).alloc (Nat.le_refl _) (.cells #[a, b] 26)).alloc (by simp) (.cells #[a', b'] 26))
  go_enter Try.func28, Try.ntmps28
  go_wp2_with fail
  refine (eqIntS_yes a a' xs _ ((unhide R1).below (unhide B) (Nat.le_refl _)) ((unhide R3).below (unhide B) (Nat.le_refl _))).mono ?_
  rintro e w1 ⟨rfl, n, rfl⟩
  go_wp2_with fail
  refine (eqIntS_yes b b' ys _ ((unhide R2).below (below_drewN' (unhide B) _) (Nat.le_refl _)) ((unhide R4).below (below_drewN' (unhide B) _) (Nat.le_refl _))).mono ?_
  rintro e w2 ⟨rfl, n2, rfl⟩
  go_wp2
  go_ret
  exact ⟨rfl, below_drewN' (unhide B) _⟩

set_option maxHeartbeats 1600000 in
set_option maxRecDepth 100000 in
theorem toLedger_any (a b : Value) (xs ys : List Int) (w : World) (ha : RI w a xs ∧ RI w b ys) :
    Calls Try.prog 27 #[lv a b] w fun e w' => ∃ u v, e = .returned (lv u v) ∧ OL w' w.heap.size w'.heap.size u v xs ys ∧ Below w.heap.size w w' := by
  have R1 := hide ha.1
  have R2 := hide ha.2
  clear ha
  go_enter Try.func27, Try.ntmps27
  go_wp2_with fail
  refine Calls.mono (toIntS_any a xs _ ((unhide R1).below ((((Below.refl w.heap.size w).alloc (Nat.le_refl _) _).alloc (by simp) _).alloc (by simp; omega) _) (Nat.le_refl _))) ?_
  rintro e w1 ⟨u, rfl, o1, b1⟩
  have s1 := b1.size
  have L0 : Loc2 w1 w.heap.size a b := (((loc2_new w a b _).alloc _).alloc _).below b1 (by simp; omega)
  have L1 : Loc2 w1 (w.heap.size + 1) (.slice none 0 0) (.slice none 0 0) := Loc2.below (Loc2.alloc (loc2_at (w.alloc _) (.slice none 0 0) (.slice none 0 0) _ (by simp)) _) b1 (by simp)
  have L2 : Loc2 w1 (w.heap.size + 1 + 1) (.slice none 0 0) (.slice none 0 0) := Loc2.below (loc2_at ((w.alloc _).alloc _) (.slice none 0 0) (.slice none 0 0) _ (by simp)) b1 (by simp)
  have B1 : Below w.heap.size w w1 := ((((Below.refl w.heap.size w).alloc (Nat.le_refl _) _).alloc (by simp) _).alloc (by simp; omega) _).trans (b1.mono (by simp; omega))
  have lt1 := World.ownsRow.lt o1
  simp at lt1 s1
  obtain ⟨x0, x1, _, _⟩ := L0.cells
  obtain ⟨y0, y1, fy0, fy1⟩ := L1.cells
  obtain ⟨z0, z1, fz0, fz1⟩ := L2.cells
  obtain ⟨ua, uc, hu⟩ := o1.form
  have O1 := hide o1
  clear o1 b1
  subst hu
  go_wp2_with fail
  refine Calls.mono (toIntS_any b ys _ ((unhide R2).below (Below.set B1 (g := w.heap.size + 1 + 1) 0 _ (by omega)) (Nat.le_refl _))) ?_
  rintro e w2 ⟨v, rfl, o2, b2⟩
  have s2 := b2.size
  have M1 : Loc2 w2 (w.heap.size + 1) (.slice none 0 0) (.slice none 0 0) := (L1.other (by simp) _).below b2 (by simp; omega)
  have M2 : Loc2 w2 (w.heap.size + 1 + 1) (.slice ua xs.length uc) (.slice none 0 0) := (L2.set0 _).below b2 (by simp; omega)
  have B2 : Below w.heap.size w w2 := (Below.set B1 (g := w.heap.size + 1 + 1) 0 (.slice ua xs.length uc) (by omega)).trans (b2.mono (by simp; omega))
  have K2 : Kp w1 w2 (fun k => k = w.heap.size + 1 ∨ k = w.heap.size + 1 + 1) := ((set_kp w1 (w.heap.size + 1 + 1) 0 (.slice ua xs.length uc)).mono (fun k h => .inr h)).trans (Below.kpOf b2 _)
  have lt2 := World.ownsRow.lt o2
  simp at lt2 s2
  clear x0 x1 y0 y1 fy0 fy1 z0 z1 fz0 fz1
  obtain ⟨y0, y1, fy0, fy1⟩ := M1.cells
  obtain ⟨z0, z1, fz0, fz1⟩ := M2.cells
  obtain ⟨va, vc, hv⟩ := o2.form
  have O2 := hide o2
  clear o2 b2
  subst hv
  go_wp2
  refine bodyPost_ret (v := lv (.slice ua xs.length uc) (.slice va ys.length vc)) (by simp [results, Try.results27, go_sem, y0, y1]) rfl ?_
  have K3 : Kp w2 (((w2.setCell ⟨w.heap.size + 1 + 1, 1, none⟩ (.slice va ys.length vc)).setCell ⟨w.heap.size + 1, 0, none⟩ (.slice ua xs.length uc)).setCell ⟨w.heap.size + 1, 1, none⟩ (.slice va ys.length vc)) (fun k => k = w.heap.size + 1 ∨ k = w.heap.size + 1 + 1) :=
    (((set_kp w2 (w.heap.size + 1 + 1) 1 (.slice va ys.length vc)).mono (fun k h => .inr h)).trans ((set_kp _ (w.heap.size + 1) 0 (.slice ua xs.length uc)).mono (fun k h => .inl h))).trans ((set_kp _ (w.heap.size + 1) 1 (.slice va ys.length vc)).mono (fun k h => .inl h))
  refine ⟨_, _, rfl, ⟨?_, ?_, ?_, ?_, ?_⟩, ?_⟩
  · exact (((unhide O1).kp K2 (fun k hk => by have := lt1 k hk; omega)).kp K3 (fun k hk => by have := lt1 k hk; omega)).mono (by simp; omega)
  · exact ((unhide O2).kp K3 (fun k hk => by have := lt2 k hk; omega)).mono (by simp; omega)
  · intro k hk; have := lt1 k hk; simp; omega
  · intro k hk; have := lt2 k hk; simp; omega
  · intro k hk h'; have := lt1 k hk; have := lt2 k h'; omega
  · exact Below.set (Below.set (Below.set B2 _ _ (by omega)) _ _ (by omega)) _ _ (by omega)
end Go.Proofs.Ytlglekfmiacdnaa
