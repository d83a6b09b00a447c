/- The draws of ledgers and payments: spec.DrawPay. -/
import Derived.Test.YtlglekfmiacdnaaDrawLAny
namespace Go.Proofs.Ytlglekfmiacdnaa
open Go.RowKit
set_option linter.unusedSectionVars false
variable [∀ (a b c d : Int), Decidable (Ok4 a b c d)]
variable [∀ (m a b c d : Int), Decidable (In4 m a b c d)]
variable [∀ (xs ys : List Int), Decidable (LOk xs ys)]

/-- The bytes of a draw. -/
def Code (w : World) (ao : Option Addr) (zs : List Int) : Prop := zs.length ≤ 1048576 ∧ (zs = [] ∨ ∃ b off, ao = some ⟨b, off, none⟩ ∧ ∀ k, k < zs.length → w.cell? ⟨b, off + k, none⟩ = some (.int .u8 (zs.getD k 0))) ∧ ∀ k, k < zs.length → 0 ≤ zs.getD k 0 ∧ zs.getD k 0 ≤ 255
theorem Code.below {w w' : World} {ao : Option Addr} {zs : List Int} (h : Code w ao zs) (hb : Below w.heap.size w w') : Code w' ao zs := by
  refine ⟨h.1, ?_, h.2.2⟩
  rcases h.2.1 with h0 | ⟨b, off, rfl, hx⟩
  · exact .inl h0
  · exact .inr ⟨b, off, rfl, fun k hk => by rw [hb.cell (p := ⟨b, off + k, none⟩) (cell_lt (hx k hk))]; exact hx k hk⟩
theorem newCode (ao : Option Addr) (ca : Nat) (zs : List Int) (w : World) (h : Code w ao zs) :
    Calls Try.prog 39 #[.slice ao zs.length ca] w fun e w' => e = .returned (.pointer (some ⟨w.heap.size, 0, none⟩)) ∧ Cur w' w.heap.size w.heap.size ao ca zs ∧ Below w.heap.size w w' := new_any ao ca zs w h.1 h.2.1 h.2.2
theorem Kp.belowOf {a b : World} {g : Nat} (h : Kp a b (fun k => k = g)) (hg : a.heap.size ≤ g) : Below a.heap.size a b := Below.kp (Below.refl _ _) h (Nat.le_refl _) (fun k e => by omega)

set_option maxHeartbeats 8000000 in
set_option maxRecDepth 100000 in
theorem drawPay (ao : Option Addr) (ca : Nat) (zs : List Int) (w : World) (h : Code w ao zs) :
    Calls Try.prog 15 #[.slice ao zs.length ca] w fun e w' => ∃ u v, ∃ xs ys : List Int, ∃ a b c d : Int, e = .returned (.tuple #[lv u v, txv a b c d]) ∧ (4 ≤ xs.length ∧ xs.length ≤ 5) ∧ ys.length = 4 ∧ OL w' w.heap.size w'.heap.size u v xs ys ∧ Below w.heap.size w w' := by
  obtain ⟨w0, hw0⟩ : ∃ w0, (w.alloc (.cells #[.slice none 0 0, .slice none 0 0] 26)).alloc (.cells (r4 0 0 0 0) 33) = w0 := ⟨_, rfl⟩
  have b0 : Below w.heap.size w w0 := hw0 ▸ ((Below.refl _ _).alloc (Nat.le_refl _) _).alloc (by simp) _
  have R0 : Loc w0 w.heap.size #[.slice none 0 0, .slice none 0 0] := hw0 ▸ (loc_at w _ _ rfl).alloc _
  have X0 : Loc w0 (w.heap.size + 1) (r4 0 0 0 0) := hw0 ▸ loc_at _ _ _ (by simp)
  have C0 := h.below b0
  have s0 := b0.size
  have lx := X0.lt
  go_enter Try.func15, Try.ntmps15
  go_wp2_with fail
  clear hw0
  refine (newCode ao ca zs _ C0).mono ?_
  rintro _ w1 ⟨rfl, C1, b1⟩
  have s1 := b1.size
  have R1 := R0.below b1 R0.lt
  have X1 := X0.below b1 X0.lt
  have lc := C1.lt
  have B1 := b0.trans (b1.mono s0)
  clear C0 R0 X0 b0 b1 h
  go_wp2_with fail
  refine (drawL w0.heap.size w0.heap.size ca ao zs _ (by omega) C1).mono ?_
  rintro _ w4 ⟨u, v, xs, ys, rfl, hx, hy, o4, C4, e4⟩
  have k4 := kp_grown e4
  have s4 := k4.size
  obtain ⟨ha, hc, rfl⟩ := o4.has.form
  obtain ⟨na, nc, rfl⟩ := o4.next.form
  have R4 := R1.kp k4 (fun e => by simp at e; omega)
  have X4 := X1.kp k4 (fun e => by simp at e; omega)
  have B4 : Below w.heap.size w w4 := Below.kp B1 k4 (by omega) (fun j e => by simp at e; omega)
  obtain ⟨w5, hw5⟩ : ∃ w5, w4.alloc (.cells #[.slice ha xs.length hc, .slice na ys.length nc] 26) = w5 := ⟨_, rfl⟩
  have b5 : Below w4.heap.size w4 w5 := hw5 ▸ (Below.refl _ _).alloc (Nat.le_refl _) _
  have G5 : Loc w5 w4.heap.size #[.slice ha xs.length hc, .slice na ys.length nc] := hw5 ▸ loc_at w4 _ _ rfl
  have R5 := R4.below b5 R4.lt
  have X5 := X4.below b5 X4.lt
  have C5 := C4.below (by omega) b5
  have O5 := o4.below b5
  have B5 := B4.trans (b5.mono B4.size)
  have s5 := b5.size
  have lg := G5.lt
  have D5 := C5.drew
  have HX := hide hx
  have HY := hide hy
  clear R1 X1 C1 B1 k4 e4 R4 X4 B4 b5 C4 o4 hx hy C5
  go_wp2_with fail
  clear hw5
  have K : Hid (∀ w', Loc w' w4.heap.size #[.slice ha xs.length hc, .slice na ys.length nc] → w'.cell? ⟨w4.heap.size, 0, none⟩ = some (.slice ha xs.length hc) ∧ w'.cell? ⟨w4.heap.size, 1, none⟩ = some (.slice na ys.length nc)) := hide fun w' l => ⟨l.cell 0 rfl, l.cell 1 rfl⟩
  refine wp_region_noPanic ?_
  refine wp_region_held_drew (S := (fun w' => w'.cell? ⟨w4.heap.size, 0, none⟩ = some (.slice ha xs.length hc) ∧ w'.cell? ⟨w4.heap.size, 1, none⟩ = some (.slice na ys.length nc))) (by kernel_rfl) (unhide K _ G5) (fun hHeld => ?_)
  refine take_at (i := 0) (d := 10) (v := ?_) rfl rfl (by kernel_rfl) (by kernel_rfl) (by kernel_rfl) (fun _ _ _ h => h) (Or.inl ⟨by rfl, ?_⟩) (by assumption) ?_
  rotate_left
  · intro w hSw
    try dsimp only at hSw
    go_simp
    try with_reducible rfl
  simp only [Act.put, List.setIfInBounds_toArray, List.set_cons_zero, List.set_cons_succ]
  refine take_at (i := 1) (d := 11) (v := ?_) rfl rfl (by kernel_rfl) (by kernel_rfl) (by kernel_rfl) (fun _ _ _ h => h) (Or.inl ⟨by rfl, ?_⟩) (by assumption) ?_
  rotate_left
  · intro w hSw
    try dsimp only at hSw
    go_simp
    try with_reducible rfl
  simp only [Act.put, List.setIfInBounds_toArray, List.set_cons_zero, List.set_cons_succ]
  refine ready_at (i := 2) rfl (by kernel_rfl) (fun KK hKK => ?_)
  go_simp
  refine (drawTx w0.heap.size w0.heap.size ca ao zs w5.drew (show w0.heap.size ≤ w5.heap.size by omega) D5).mono ?_
  rintro _ w6 ⟨a, b, c, d, rfl, _, e6⟩
  have k6 : Kp w5 w6 (fun k => k = w0.heap.size) := ⟨e6.os, e6.tape, e6.output, e6.size, fun j hj hx => e6.block j hj (fun e => hx (by simpa using e))⟩
  have s6 := k6.size
  have G6 := G5.kp k6 (fun e => by omega)
  have R6 := R5.kp k6 (fun e => by omega)
  have X6 := X5.kp k6 (fun e => by omega)
  have O6 := O5.kp k6 (fun j h1 h2 e => by omega)
  have B6 : Below w.heap.size w w6 := Below.kp B5 k6 (by omega) (fun j e => by omega)
  clear G5 R5 X5 O5 B5 D5 e6
  clear hHeld
  refine hKK.out _ _ (unhide K _ G6) (fun hHeld => ?_)
  clear hKK KK
  have r0 := R6.cell 0 rfl
  have r1 := R6.cell 1 rfl
  have fr := R6.frozen
  refine ready_at (i := 3) rfl (by kernel_rfl) (fun KK hKK => ?_)
  go_simp
  have R7 := (R6.set 0 (.slice ha xs.length hc) rfl).set 1 (.slice na ys.length nc) rfl
  have G7 := (G6.other (p := ⟨w.heap.size, 0, none⟩) (by simp; omega) (.slice ha xs.length hc)).other (p := ⟨w.heap.size, 1, none⟩) (by simp; omega) (.slice na ys.length nc)
  have X7 := (X6.other (p := ⟨w.heap.size, 0, none⟩) (by simp) (.slice ha xs.length hc)).other (p := ⟨w.heap.size, 1, none⟩) (by simp) (.slice na ys.length nc)
  have k7 := (set_kp w6 w.heap.size 0 (.slice ha xs.length hc)).trans (set_kp _ w.heap.size 1 (.slice na ys.length nc))
  obtain ⟨w7, hw7⟩ : ∃ w7, (w6.setCell ⟨w.heap.size, 0, none⟩ (.slice ha xs.length hc)).setCell ⟨w.heap.size, 1, none⟩ (.slice na ys.length nc) = w7 := ⟨_, rfl⟩
  rw [hw7] at R7 G7 X7 k7
  rw [hw7]
  clear hHeld
  refine hKK.out _ _ (unhide K _ G7) (fun hHeld => ?_)
  clear hKK KK hw7 r0 r1 fr
  have O7 := O6.kp k7 (fun j h1 h2 e => by omega)
  have B7 : Below w.heap.size w w7 := Below.kp B6 k7 (by omega) (fun j e => by omega)
  have s7 := k7.size
  obtain ⟨x0, x1, x2, x3⟩ := X7.cells4
  have FX := X7.frozen
  refine ready_at (i := 4) rfl (by kernel_rfl) (fun KK hKK => ?_)
  go_simp
  obtain ⟨w8, hw8⟩ : ∃ w8, (((w7.setCell ⟨w.heap.size + 1, 0, none⟩ (.int .i64 a)).setCell ⟨w.heap.size + 1, 1, none⟩ (.int .i64 b)).setCell ⟨w.heap.size + 1, 2, none⟩ (.int .i64 c)).setCell ⟨w.heap.size + 1, 3, none⟩ (.int .i64 d) = w8 := ⟨_, rfl⟩
  have X8 : Loc ((((w7.setCell ⟨w.heap.size + 1, 0, none⟩ (.int .i64 a)).setCell ⟨w.heap.size + 1, 1, none⟩ (.int .i64 b)).setCell ⟨w.heap.size + 1, 2, none⟩ (.int .i64 c)).setCell ⟨w.heap.size + 1, 3, none⟩ (.int .i64 d)) (w.heap.size + 1) (r4 a b c d) := (((X7.set 0 (.int .i64 a) rfl).set 1 (.int .i64 b) rfl).set 2 (.int .i64 c) rfl).set 3 (.int .i64 d) rfl
  have k8 := (((set_kp w7 (w.heap.size + 1) 0 (.int .i64 a)).trans (set_kp _ (w.heap.size + 1) 1 (.int .i64 b))).trans (set_kp _ (w.heap.size + 1) 2 (.int .i64 c))).trans (set_kp _ (w.heap.size + 1) 3 (.int .i64 d))
  rw [hw8] at X8 k8
  rw [hw8]
  have G8 := G7.kp k8 (fun e => by omega)
  have R8 := R7.kp k8 (fun e => by omega)
  have O8 := O7.kp k8 (fun j h1 h2 e => by omega)
  have B8 : Below w.heap.size w w8 := Below.kp B7 k8 (by omega) (fun j e => by omega)
  have s8 := k8.size
  clear hHeld
  refine hKK.out _ _ (unhide K _ G8) (fun hHeld => ?_)
  clear hKK KK hw8 hHeld x0 x1 x2 x3 FX
  refine wpAnyH_done (by kernel_rfl) ?_ _
  refine NoPanic.normal ?_
  obtain ⟨y0, y1, y2, y3⟩ := X8.cells4
  have z0 := R8.cell 0 rfl
  have z1 := R8.cell 1 rfl
  go_wp2
  refine bodyPost_ret (v := .tuple #[lv (.slice ha xs.length hc) (.slice na ys.length nc), txv a b c d]) (by simp [results, Try.results15, go_sem, y0, y1, y2, y3, z0, z1]) rfl ?_
  exact ⟨_, _, xs, ys, a, b, c, d, rfl, unhide HX, unhide HY, O8.mono (by omega) (by omega), B8⟩
end Go.Proofs.Ytlglekfmiacdnaa
