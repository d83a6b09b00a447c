/- spec.DrawPoolAdd, spec.DrawPoolTake. -/
import Derived.Test.YthdehhenkgkkmaaDoorPoolDrawsQ
/- spec.DrawPoolAdd, spec.DrawPoolTake. -/
namespace Go.Proofs.YthdehhenkgkkmaaDoor
open Go.RowKit
set_option linter.unusedSectionVars false
variable [∀ (a b c d : Int), Decidable (Ok4 a b c d)]
variable [∀ (m a b c d : Int), Decidable (In4 m a b c d)]
variable [∀ (xs ys : List Int), Decidable (LOk xs ys)]
variable [∀ (x y : T4), Decidable (Bef x y)]
variable [∀ (ts : List T4), Decidable (Asc ts)]
variable [∀ (ts : List T4), Decidable (AllOk ts)]
variable [∀ (ts : List T4), Decidable (POk ts)]

set_option maxHeartbeats 4000000 in
set_option maxRecDepth 100000 in
theorem drawPoolAdd (ao : Option Addr) (ca : Nat) (zs : List Int) (w : World) (h : Code w ao zs) :
    Calls Tryd.prog 5 #[.slice ao zs.length ca] w fun e w' => ∃ (v : Value) (ts : List T4) (a b c d : Int), e = .returned (.tuple #[v, txv a b c d]) ∧ ts.length ≤ 26 ∧ OT w' w.heap.size v ts ∧ Below w.heap.size w w' := by
  obtain ⟨w0, hw0⟩ : ∃ w0, w.alloc (.cells (r4 0 0 0 0) 26) = w0 := ⟨_, rfl⟩
  have b0 : Below w.heap.size w w0 := hw0 ▸ (Below.refl _ _).alloc (Nat.le_refl _) _
  have X0 : Loc w0 w.heap.size (r4 0 0 0 0) := hw0 ▸ loc_at w _ _ rfl
  have C0 := h.below b0
  have s0 := b0.size
  have lx := X0.lt
  go_enter Tryd.func5, Tryd.ntmps5
  go_wp2_with fail
  clear hw0
  refine (newCode ao ca zs _ C0).mono ?_
  rintro _ w1 ⟨rfl, C1, b1⟩
  have s1 := b1.size
  have X1 := X0.below b1 X0.lt
  have B1 := b0.trans (b1.mono s0)
  clear C0 X0 b0 b1 h
  go_wp2_with fail
  refine (drawPool w0.heap.size w0.heap.size ca ao zs _ (by omega) C1).mono ?_
  rintro _ w2 ⟨v, ts, rfl, htl, o2, C2, e2⟩
  have k2 := kp_grown e2
  have s2 := k2.size
  have X2 := X1.kp k2 (fun e => by simp at e; omega)
  have B2 : Below w.heap.size w w2 := Below.kp B1 k2 (by omega) (fun j e => by simp at e; omega)
  obtain ⟨pa, pc, rfl⟩ := o2.form
  clear X1 B1 e2 k2
  have lc := C2.lt
  go_wp2_with fail
  refine (drawTx w0.heap.size w0.heap.size ca ao zs _ (by omega) C2).mono ?_
  rintro _ w3 ⟨a, b, c, d, rfl, C3, e3⟩
  have k3 := kp_grown e3
  have s3 := k3.size
  have X3 := X2.kp k3 (fun e => by simp at e; omega)
  have B3 : Below w.heap.size w w3 := Below.kp B2 k3 (by omega) (fun j e => by simp at e; omega)
  have o3 := o2.kp k3 (fun j hj e => by simp at e; have := (World.ownsRow.lt o2 j hj).1; have := C1.lt; omega)
  obtain ⟨x0, x1, x2, x3⟩ := X3.cells4
  have FX := X3.frozen
  obtain ⟨w8, hw8⟩ : ∃ w8, (((w3.setCell ⟨w.heap.size, 0, none⟩ (.int .i64 a)).setCell ⟨w.heap.size, 1, none⟩ (.int .i64 b)).setCell ⟨w.heap.size, 2, none⟩ (.int .i64 c)).setCell ⟨w.heap.size, 3, none⟩ (.int .i64 d) = w8 := ⟨_, rfl⟩
  have X8 : Loc w8 w.heap.size (r4 a b c d) := hw8 ▸ (((X3.set 0 (.int .i64 a) rfl).set 1 (.int .i64 b) rfl).set 2 (.int .i64 c) rfl).set 3 (.int .i64 d) rfl
  have k8 : Kp w3 w8 (fun k => k = w.heap.size) := hw8 ▸ (((set_kp w3 w.heap.size 0 (.int .i64 a)).trans (set_kp _ w.heap.size 1 (.int .i64 b))).trans (set_kp _ w.heap.size 2 (.int .i64 c))).trans (set_kp _ w.heap.size 3 (.int .i64 d))
  have O8 := hide (o3.kp k8 (fun j hj e => by have := (World.ownsRow.lt o3 j hj).1; omega))
  have B8 : Below w.heap.size w w8 := Below.kp B3 k8 (by omega) (fun j e => by omega)
  obtain ⟨y0, y1, y2, y3⟩ := X8.cells4
  clear o2 o3 C1 C2 C3 k3 e3 k8 X2 X3
  go_wp2
  refine bodyPost_ret (v := .tuple #[.slice pa ts.length pc, txv a b c d]) (by simp [results, Tryd.results5, go_sem, y0, y1, y2, y3]) rfl ?_
  exact ⟨_, ts, a, b, c, d, rfl, htl, (unhide O8).mono (by omega), B8⟩

set_option maxHeartbeats 4000000 in
set_option maxRecDepth 100000 in
theorem drawPoolTake (ao : Option Addr) (ca : Nat) (zs : List Int) (w : World) (h : Code w ao zs) :
    Calls Tryd.prog 8 #[.slice ao zs.length ca] w fun e w' => ∃ (v : Value) (ts : List T4) (u1 u2 : Value) (xs ys : List Int), e = .returned (.tuple #[v, lv u1 u2]) ∧ ts.length ≤ 26 ∧ (xs.length ≤ 5 ∧ ys.length ≤ 5) ∧ OT w' w.heap.size v ts ∧ OL w' w.heap.size w'.heap.size u1 u2 xs ys ∧ Below w.heap.size w w' := by
  obtain ⟨w0, hw0⟩ : ∃ w0, w.alloc (.cells #[.slice none 0 0, .slice none 0 0] 33) = w0 := ⟨_, rfl⟩
  have b0 : Below w.heap.size w w0 := hw0 ▸ (Below.refl _ _).alloc (Nat.le_refl _) _
  have X0 : Loc w0 w.heap.size #[.slice none 0 0, .slice none 0 0] := hw0 ▸ loc_at w _ _ rfl
  have C0 := h.below b0
  have s0 := b0.size
  have lx := X0.lt
  go_enter Tryd.func8, Tryd.ntmps8
  go_wp2_with fail
  clear hw0
  refine (newCode ao ca zs _ C0).mono ?_
  rintro _ w1 ⟨rfl, C1, b1⟩
  have s1 := b1.size
  have X1 := X0.below b1 X0.lt
  have B1 := b0.trans (b1.mono s0)
  clear C0 X0 b0 b1 h
  go_wp2_with fail
  refine (drawPool w0.heap.size w0.heap.size ca ao zs _ (by omega) C1).mono ?_
  rintro _ w2 ⟨v, ts, rfl, htl, o2, C2, e2⟩
  have k2 := kp_grown e2
  have s2 := k2.size
  have X2 := X1.kp k2 (fun e => by simp at e; omega)
  have B2 : Below w.heap.size w w2 := Below.kp B1 k2 (by omega) (fun j e => by simp at e; omega)
  obtain ⟨pa, pc, rfl⟩ := o2.form
  clear X1 B1 e2 k2
  have lc := C2.lt
  go_wp2_with fail
  refine (drawL w0.heap.size w0.heap.size ca ao zs _ (by omega) C2).mono ?_
  rintro _ w3 ⟨u1, u2, xs, ys, rfl, hx, hy, ol, C3, e3⟩
  have k3 := kp_grown e3
  have s3 := k3.size
  have X3 := X2.kp k3 (fun e => by simp at e; omega)
  have B3 : Below w.heap.size w w3 := Below.kp B2 k3 (by omega) (fun j e => by simp at e; omega)
  have o3 := o2.kp k3 (fun j hj e => by simp at e; have := (World.ownsRow.lt o2 j hj).1; have := C1.lt; omega)
  obtain ⟨ha, hc, rfl⟩ := ol.has.form
  obtain ⟨na, nc, rfl⟩ := ol.next.form
  have x0 := X3.cell 0 rfl
  have x1 := X3.cell 1 rfl
  have FX := X3.frozen
  obtain ⟨w8, hw8⟩ : ∃ w8, (w3.setCell ⟨w.heap.size, 0, none⟩ (.slice ha xs.length hc)).setCell ⟨w.heap.size, 1, none⟩ (.slice na ys.length nc) = w8 := ⟨_, rfl⟩
  have X8 : Loc w8 w.heap.size #[.slice ha xs.length hc, .slice na ys.length nc] := hw8 ▸ (X3.set 0 _ rfl).set 1 _ rfl
  have k8 : Kp w3 w8 (fun k => k = w.heap.size) := hw8 ▸ (set_kp w3 w.heap.size 0 _).trans (set_kp _ w.heap.size 1 _)
  have O8 := hide (o3.kp k8 (fun j hj e => by have := (World.ownsRow.lt o3 j hj).1; omega))
  have L8 := hide (ol.kp k8 (fun j h1 h2 e => by omega))
  have B8 : Below w.heap.size w w8 := Below.kp B3 k8 (by omega) (fun j e => by omega)
  have s8 := k8.size
  have y0 := X8.cell 0 rfl
  have y1 := X8.cell 1 rfl
  have HX := hide hx
  have HY := hide hy
  clear o2 o3 C1 C2 C3 k3 e3 k8 X2 X3 hx hy ol
  go_wp2
  refine bodyPost_ret (v := .tuple #[.slice pa ts.length pc, lv (.slice ha xs.length hc) (.slice na ys.length nc)]) (by simp [results, Tryd.results8, go_sem, y0, y1]) rfl ?_
  exact ⟨_, ts, _, _, xs, ys, rfl, htl, ⟨(unhide HX).2, by have := unhide HY; omega⟩, (unhide O8).mono (by omega), (unhide L8).mono (by omega) (by omega), B8⟩
end Go.Proofs.YthdehhenkgkkmaaDoor
