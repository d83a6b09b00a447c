/- spec.Pay: a payment that can't be paid. -/
import Derived.Test.YtlglekfmiacdnaaSpecPay
namespace Go.Proofs.Ytlglekfmiacdnaa
open Go.RowKit
set_option linter.unusedSectionVars false
variable [∀ (m a b c d : Int), Decidable (In4 m a b c d)]
variable [∀ (xs ys : List Int), Decidable (LOk xs ys)]
variable [∀ (a b c d : Int), Decidable (Ok4 a b c d)]

set_option maxHeartbeats 16000000 in
set_option maxRecDepth 100000 in
theorem specPay_poor (u v : Value) (A Bt : Nat) (c d : Int) (xs ys : List Int) (w : World) (hu : RI w u xs ∧ RI w v ys) (hA : A < 4) (ho : Ok4 A Bt c d) (hl : LOk xs ys) (hn : ys.getD A 0 = d) (h : xs.getD A 0 < c) :
    Calls Try.prog 17 #[lv u v, txv A Bt c d] w (PayEnd w (xs, (ys.set A (d + 1)), 4)) := by
  have RU := hide hu
  have LC := hide fun w h => l3Copy_any u v xs ys w h
  have LO := hide fun w h => specLedgerOk u v xs ys w h
  rw [decide_eq_true hl] at LO
  have TO := hide fun w => specTxOk_yes A Bt c d w ho
  have hx4 := hl.1
  have hy4 := hl.2.1
  obtain ⟨g1, o1, c1, rfl, H1⟩ := RI.at4 hu.1 hx4
  obtain ⟨g2, o2, c2, rfl, H2⟩ := RI.at4 hu.2 hy4
  have RX := hide fun w' (hb : Below w.heap.size w w') => (hb.cell (cell_lt (H1 A hA))).trans (H1 A hA)
  have RY := hide fun w' (hb : Below w.heap.size w w') => (hb.cell (cell_lt (H2 A hA))).trans (H2 A hA)
  clear H1 H2 hu hl
  obtain ⟨w0, hw0⟩ : ∃ w0, ((w.alloc (.cells #[.slice (some ⟨g1, o1, none⟩) 4 c1, .slice (some ⟨g2, o2, none⟩) 4 c2] 26)).alloc (.cells (r4 A Bt c d) 33)).alloc (.cells #[.slice none 0 0, .slice none 0 0] 26) = w0 := ⟨_, rfl⟩
  have B0 : Below w.heap.size w w0 := hw0 ▸ (((Below.refl w.heap.size w).alloc (Nat.le_refl _) _).alloc (by simp) _).alloc (by simp; omega) _
  have L0 : Loc w0 w.heap.size #[.slice (some ⟨g1, o1, none⟩) 4 c1, .slice (some ⟨g2, o2, none⟩) 4 c2] := hw0 ▸ ((loc_at w _ _ rfl).alloc _).alloc _
  have X0 : Loc w0 (w.heap.size + 1) (r4 A Bt c d) := hw0 ▸ (loc_at _ _ _ (by simp)).alloc _
  have R0 : Loc w0 (w.heap.size + 1 + 1) #[.slice none 0 0, .slice none 0 0] := hw0 ▸ loc_at _ _ _ (by simp)
  have q0 := L0.cell 0 rfl
  have q1 := L0.cell 1 rfl
  have lr := R0.lt
  go_enter Try.func17, Try.ntmps17
  go_wp2_with fail
  clear hw0 q0 q1
  refine (unhide LC _ ⟨(unhide RU).1.below B0 (Nat.le_refl _), (unhide RU).2.below B0 (Nat.le_refl _)⟩).mono ?_
  rintro _ w1 ⟨uo, vo, rfl, ol, b1⟩
  have s1 := b1.size
  obtain ⟨ph, hc, rfl⟩ := own_form (n := xs.length) ol.has (by omega)
  obtain ⟨pk, kc, rfl⟩ := own_form (n := ys.length) ol.next (by omega)
  rw [hx4, hy4] at ol ⊢
  obtain ⟨w2, hw2⟩ : ∃ w2, w1.alloc (.cells #[(.slice (some ⟨ph, 0, none⟩) 4 hc), (.slice (some ⟨pk, 0, none⟩) 4 kc)] 26) = w2 := ⟨_, rfl⟩
  have b2 : Below w0.heap.size w0 w2 := hw2 ▸ b1.alloc b1.size _
  have B2 := B0.trans (b2.mono B0.size)
  have L2 := L0.below b2 L0.lt
  have X2 := X0.below b2 X0.lt
  have R2 := R0.below b2 R0.lt
  have O2 : Loc w2 w1.heap.size #[(.slice (some ⟨ph, 0, none⟩) 4 hc), (.slice (some ⟨pk, 0, none⟩) 4 kc)] := hw2 ▸ loc_at w1 _ _ rfl
  have ol2 : OL w2 w0.heap.size w1.heap.size (.slice (some ⟨ph, 0, none⟩) 4 hc) (.slice (some ⟨pk, 0, none⟩) 4 kc) xs ys := hw2 ▸ ol.alloc _
  have q0 := L2.cell 0 rfl
  have q1 := L2.cell 1 rfl
  clear ol b1 b2 B0 L0 X0 R0
  go_wp2_with fail
  clear hw2 q0 q1
  refine (unhide LO _ ⟨(unhide RU).1.below B2 (Nat.le_refl _), (unhide RU).2.below B2 (Nat.le_refl _)⟩).mono ?_
  rintro _ w3 ⟨rfl, b3⟩
  have B3 := B2.trans (b3.mono B2.size)
  have L3 := L2.below b3 L2.lt
  have X3 := X2.below b3 X2.lt
  have R3 := R2.below b3 R2.lt
  have O3 := O2.below b3 O2.lt
  have ol3 := ol2.below b3
  obtain ⟨t0, t1, t2, t3⟩ := X3.cells4
  clear LO b3 B2 L2 X2 R2 O2 ol2
  go_wp2_with fail
  refine (unhide TO _).mono ?_
  rintro _ w4 ⟨rfl, b4⟩
  have B4 := B3.trans (b4.mono B3.size)
  have L4 := L3.below b4 L3.lt
  have X4 := X3.below b4 X3.lt
  have R4 := R3.below b4 R3.lt
  have O4 := O3.below b4 O3.lt
  have ol4 := ol3.below b4
  have hA1 : (A : Int) < 4 := by omega
  have lo4 := O4.lt
  have e1 := (World.ownsRow.lt ol4.has ph rfl).1
  have e2 := (World.ownsRow.lt ol4.next pk rfl).1
  have e3 := ol4.top ph rfl
  have e4 := ol4.top' pk rfl
  have e5 : pk ≠ ph := fun e => ol4.ne ph rfl (by rw [e]; rfl)
  clear TO t0 t1 t2 t3 b4 B3 L3 X3 R3 O3 ol3
  rw [hn] at RY
  have ho1 : 0 ≤ d ∧ d ≤ 99 := by unfold Ok4 at ho; omega
  have ho2 : 0 ≤ c ∧ c ≤ 1000 := by unfold Ok4 at ho; omega
  obtain ⟨t0, t1, t2, t3⟩ := X4.cells4
  have p0 := L4.cell 0 rfl
  have p1 := L4.cell 1 rfl
  have ry := unhide RY _ B4
  have rx := unhide RX _ B4
  go_wp2_with fail
  go_quiet (fail)
  go_wp2_with fail
  go_quiet (fail)
  generalize hwd : World.drewN (World.drewN w4 _) _ = w5
  have B5 : Below w.heap.size w w5 := hwd ▸ (below_drewN' (below_drewN' B4 _) _)
  have L5 : Loc w5 _ _ := hwd ▸ ((L4.drewN _).drewN _)
  have X5 : Loc w5 _ _ := hwd ▸ ((X4.drewN _).drewN _)
  have R5 : Loc w5 _ _ := hwd ▸ ((R4.drewN _).drewN _)
  have O5 : Loc w5 _ _ := hwd ▸ ((O4.drewN _).drewN _)
  have ol5 : OL w5 w0.heap.size w1.heap.size (.slice (some ⟨ph, 0, none⟩) 4 hc) (.slice (some ⟨pk, 0, none⟩) 4 kc) xs ys := hwd ▸ ol4.below (below_drewN' (below_drewN' (Below.refl _ _) _) _)
  clear hwd B4 L4 X4 R4 O4 ol4 t0 t1 t2 t3 p0 p1 ry rx
  obtain ⟨n5, f5⟩ := ol5.next.cellAt hy4.symm A (by omega)
  rw [hn] at n5
  obtain ⟨t0, t1, t2, t3⟩ := X5.cells4
  have y1 := O5.cell 1 rfl
  obtain ⟨w6, hw6⟩ : ∃ w6, w5.setCell ⟨pk, A, none⟩ (.int .i64 (d + 1)) = w6 := ⟨_, rfl⟩
  have B6 : Below w.heap.size w w6 := hw6 ▸ Below.set B5 _ _ (by omega)
  have L6 : Loc w6 _ _ := hw6 ▸ L5.other (by simp; omega) _
  have X6 : Loc w6 _ _ := hw6 ▸ X5.other (by simp; omega) _
  have R6 : Loc w6 _ _ := hw6 ▸ R5.other (by simp; omega) _
  have O6 : Loc w6 _ _ := hw6 ▸ O5.other (by simp; omega) _
  have ol6 : OL w6 w0.heap.size w1.heap.size (.slice (some ⟨ph, 0, none⟩) 4 hc) (.slice (some ⟨pk, 0, none⟩) 4 kc) xs (ys.set A (d + 1)) := hw6 ▸ ol5.setNext hy4.symm A (d + 1)
  go_wp2_with fail
  clear hw6 n5 f5 t0 t1 t2 t3 y1 B5 L5 X5 R5 O5 ol5
  generalize xs.getD A 0 = m at *
  obtain ⟨t0, t1, t2, t3⟩ := X6.cells4
  have p0 := L6.cell 0 rfl
  have p1 := L6.cell 1 rfl
  have ry := unhide RY _ B6
  have rx := unhide RX _ B6
  go_quiet (fail)
  generalize hwd : World.drewN w6 _ = w7
  have B7 : Below w.heap.size w w7 := hwd ▸ (below_drewN' B6 _)
  have L7 : Loc w7 _ _ := hwd ▸ (L6.drewN _)
  have X7 : Loc w7 _ _ := hwd ▸ (X6.drewN _)
  have R7 : Loc w7 _ _ := hwd ▸ (R6.drewN _)
  have O7 : Loc w7 _ _ := hwd ▸ (O6.drewN _)
  have ol7 : OL w7 w0.heap.size w1.heap.size (.slice (some ⟨ph, 0, none⟩) 4 hc) (.slice (some ⟨pk, 0, none⟩) 4 kc) xs (ys.set A (d + 1)) := hwd ▸ ol6.below (below_drewN' (Below.refl _ _) _)
  clear hwd B6 L6 X6 R6 O6 ol6 t0 t1 t2 t3 p0 p1 ry rx
  have q0 := R7.cell 0 rfl
  have q1 := R7.cell 1 rfl
  have FR := R7.frozen
  have y0 := O7.cell 0 rfl
  have y1 := O7.cell 1 rfl
  go_wp2
  refine bodyPost_ret (v := .tuple #[lv (.slice (some ⟨ph, 0, none⟩) 4 hc) (.slice (some ⟨pk, 0, none⟩) 4 kc), .int .i64 4]) (by simp [results, Try.results17, go_sem, q0, q1]) rfl ?_
  have K7 : Kp w7 ((w7.setCell ⟨w.heap.size + 1 + 1, 0, none⟩ (.slice (some ⟨ph, 0, none⟩) 4 hc)).setCell ⟨w.heap.size + 1 + 1, 1, none⟩ (.slice (some ⟨pk, 0, none⟩) 4 kc)) (fun k => k = w.heap.size + 1 + 1) := (set_kp w7 _ 0 _).trans (set_kp _ _ 1 _)
  have sl := O7.lt
  refine ⟨_, _, rfl, (ol7.kp K7 (fun k h1 h2 e => by omega)).mono (by omega) (by simp; omega), ?_⟩
  exact Below.set (Below.set B7 _ _ (by omega)) _ _ (by omega)
end Go.Proofs.Ytlglekfmiacdnaa
