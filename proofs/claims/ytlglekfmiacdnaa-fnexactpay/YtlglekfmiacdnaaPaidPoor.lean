/- (impl.Tx).paid: a payment that can't be paid. -/
import Derived.Test.YtlglekfmiacdnaaPaid
namespace Go.Proofs.Ytlglekfmiacdnaa
open Go.RowKit
set_option linter.unusedSectionVars false
variable [∀ (m a b c d : Int), Decidable (In4 m a b c d)]
variable [∀ (xs ys : List Int), Decidable (LOk xs ys)]
variable [∀ (a b c d : Int), Decidable (Ok4 a b c d)]

set_option maxHeartbeats 8000000 in
set_option maxRecDepth 100000 in
theorem paid_poor (A : Nat) (b c d : Int) (xs ys : List Int) (w : World) (hA : A < 4) (hy : ys.length = 4) (ho : Ok4 A b c d) (hn : ys.getD A 0 = d) (h : xs.getD A 0 < c) :
    Calls Try.prog 42 #[txv A b c d, .agg (b8L xs ys)] w fun o w' => o = .returned (.tuple #[.agg (b8L xs (ys.set A (d + 1))), .int .i64 4]) ∧ Below w.heap.size w w' := by
  have TO := hide fun w => implTxOk_yes A b c d w ho
  obtain ⟨w0, hw0⟩ : ∃ w0, ((w.alloc (.cells (r4 A b c d) 33)).alloc (.cells (b8L xs ys) 73)).alloc (.cells (b8 0 0 0 0 0 0 0 0) 73) = w0 := ⟨_, rfl⟩
  have B0 : Below w.heap.size w w0 := hw0 ▸ (((Below.refl w.heap.size w).alloc (Nat.le_refl _) _).alloc (by simp) _).alloc (by simp; omega) _
  have T0 : Loc w0 w.heap.size (r4 A b c d) := hw0 ▸ ((loc_at w _ _ rfl).alloc _).alloc _
  have K0 : Loc w0 (w.heap.size + 1) (b8L xs ys) := hw0 ▸ (loc_at _ _ _ (by simp)).alloc _
  have R0 : Loc w0 (w.heap.size + 1 + 1) (b8 0 0 0 0 0 0 0 0) := hw0 ▸ loc_at _ _ _ (by simp)
  have C0 := hide fun w' (hb : Below w0.heap.size w0 w') => (K0.below hb K0.lt).nextAt A hA
  have D0 := hide fun w' (hb : Below w0.heap.size w0 w') => (K0.below hb K0.lt).hasAt A hA
  have HN : Hid (∀ w' G, Loc w' G (b8L xs ys) → w'.cell? ⟨G, 4 + A, none⟩ = some (.int .i64 (ys.getD A 0)) ∧ w'.cell? ⟨G, A, none⟩ = some (.int .i64 (xs.getD A 0))) := hide fun w' G l => ⟨l.nextAt A hA, l.hasAt A hA⟩
  have HS : Hid (∀ w' G, Loc w' G (b8L xs ys) → Loc (w'.setCell ⟨G, 4 + A, none⟩ (.int .i64 (d + 1))) G (b8L xs (ys.set A (d + 1)))) := hide fun w' G l => l.set _ _ (b8L_next hy A hA _)
  unfold b8L at *
  rw [hn] at *
  generalize xs.getD A 0 = m at *
  generalize (ys.set A (d + 1)).getD 0 0 = z0 at *
  generalize (ys.set A (d + 1)).getD 1 0 = z1 at *
  generalize (ys.set A (d + 1)).getD 2 0 = z2 at *
  generalize (ys.set A (d + 1)).getD 3 0 = z3 at *
  generalize xs.getD 0 0 = x0 at *
  generalize xs.getD 1 0 = x1 at *
  generalize xs.getD 2 0 = x2 at *
  generalize xs.getD 3 0 = x3 at *
  generalize ys.getD 0 0 = y0 at *
  generalize ys.getD 1 0 = y1 at *
  generalize ys.getD 2 0 = y2 at *
  generalize ys.getD 3 0 = y3 at *
  obtain ⟨p0, p1, p2, p3⟩ := T0.cells4
  go_enter Try.func42, Try.ntmps42
  go_wp2_with fail
  clear hw0
  refine (unhide TO _).mono ?_
  rintro _ w1 ⟨rfl, b1⟩
  have B1 := B0.trans (b1.mono B0.size)
  have T1 := T0.below b1 T0.lt
  have K1 := K0.below b1 K0.lt
  have R1 := R0.below b1 R0.lt
  have c1 := unhide C0 _ b1
  have d1 := unhide D0 _ b1
  clear B0 T0 K0 R0 p0 p1 p2 p3 b1 C0 D0
  obtain ⟨t0, t1, t2, t3⟩ := T1.cells4
  obtain ⟨⟨p0, p1, p2, p3⟩, ⟨p4, p5, p6, p7⟩⟩ := K1.c8
  obtain ⟨⟨q0, q1, q2, q3⟩, ⟨q4, q5, q6, q7⟩⟩ := R1.c8
  have FR := R1.frozen
  have hA1 : (A : Int) < 4 := by omega
  have ho1 : 0 ≤ d ∧ d ≤ 99 := by unfold Ok4 at ho; omega
  go_wp2_with fail
  go_quiet (fail)
  go_wp2_with fail
  go_quiet (fail)
  generalize hwd : World.drewN (World.drewN w1 _) _ = w2
  have B2 : Below w.heap.size w w2 := hwd ▸ below_drewN' (below_drewN' B1 _) _
  have T2 : Loc w2 w.heap.size (r4 A b c d) := hwd ▸ (T1.drewN _).drewN _
  have K2 : Loc w2 (w.heap.size + 1) (b8 x0 x1 x2 x3 y0 y1 y2 y3) := hwd ▸ (K1.drewN _).drewN _
  have R2 : Loc w2 (w.heap.size + 1 + 1) (b8 0 0 0 0 0 0 0 0) := hwd ▸ (R1.drewN _).drewN _
  clear hwd B1 T1 K1 R1 c1 d1 t0 t1 t2 t3 p0 p1 p2 p3 p4 p5 p6 p7 q0 q1 q2 q3 q4 q5 q6 q7 FR
  have lr := R2.lt
  obtain ⟨w3, hw3⟩ : ∃ w3, w2.alloc (.cells (b8 x0 x1 x2 x3 y0 y1 y2 y3) 73) = w3 := ⟨_, rfl⟩
  have b3 : Below w2.heap.size w2 w3 := hw3 ▸ (Below.refl _ _).alloc (Nat.le_refl _) _
  have A3 : Loc w3 w2.heap.size (b8 x0 x1 x2 x3 y0 y1 y2 y3) := hw3 ▸ loc_at w2 _ _ rfl
  obtain ⟨w4, hw4⟩ : ∃ w4, w3.setCell ⟨w2.heap.size, 4 + A, none⟩ (.int .i64 (d + 1)) = w4 := ⟨_, rfl⟩
  have A4 : Loc w4 w2.heap.size (b8 x0 x1 x2 x3 z0 z1 z2 z3) := hw4 ▸ unhide HS _ _ A3
  have b4 : Below w2.heap.size w2 w4 := hw4 ▸ Below.set b3 _ _ (Nat.le_refl _)
  have T4 := T2.below b4 T2.lt
  have K4 := K2.below b4 K2.lt
  have R4 := R2.below b4 R2.lt
  have B4 := B2.trans (b4.mono B2.size)
  obtain ⟨⟨p0, p1, p2, p3⟩, ⟨p4, p5, p6, p7⟩⟩ := K2.c8
  have n3 := (unhide HN _ _ A3).1
  have FA := A3.frozen
  obtain ⟨t0, t1, t2, t3⟩ := (T2.below b3 T2.lt).cells4
  obtain ⟨u0, u1, u2, u3⟩ := T4.cells4
  have m4 := (unhide HN _ _ K4).2
  clear A3 b3 HN HS
  go_wp2_with fail
  clear hw3 hw4 n3 FA t0 t1 t2 t3 p0 p1 p2 p3 p4 p5 p6 p7
  go_quiet (fail)
  obtain ⟨⟨p0, p1, p2, p3⟩, ⟨p4, p5, p6, p7⟩⟩ := A4.c8
  obtain ⟨⟨q0, q1, q2, q3⟩, ⟨q4, q5, q6, q7⟩⟩ := R4.c8
  have FR := R4.frozen
  go_wp2
  refine bodyPost_ret (v := .tuple #[bv x0 x1 x2 x3 z0 z1 z2 z3, .int .i64 4]) (by simp [results, Try.results42, go_sem, q0, q1, q2, q3, q4, q5, q6, q7]) rfl ?_
  exact ⟨rfl, put8_below (below_drewN' B4 _) (by omega) _ _ _ _ _ _ _ _⟩
end Go.Proofs.Ytlglekfmiacdnaa
