/- Texts that belong together: Paid, PaidPoor, PaidDone, PaidOver, PaidAny, PayRun. -/
import Derived.Test.YthdehhenkgkkmaaDoorBunB
/- (impl.Tx).paid: a payment and a book. -/
namespace Go.Proofs.YthdehhenkgkkmaaDoor
open Go.RowKit
set_option linter.unusedSectionVars false
variable [∀ (a b c d : Int), Decidable (Ok4 a b c d)]
variable [∀ (m a b c d : Int), Decidable (In4 m a b c d)]
variable [∀ (xs ys : List Int), Decidable (LOk xs ys)]

set_option maxHeartbeats 4000000 in
set_option maxRecDepth 100000 in
theorem paid_bad (a b c d : Int) (xs ys : List Int) (w : World) (h : ¬ Ok4 a b c d) :
    Calls Tryd.prog 41 #[txv a b c d, .agg (b8L xs ys)] w fun o w' => o = .returned (.tuple #[.agg (b8L xs ys), .int .i64 1]) ∧ Below w.heap.size w w' := by
  have TO := hide fun w => implTxOk_no a b c d w h
  clear h
  unfold b8L
  generalize xs.getD 0 0 = x0 at *
  generalize xs.getD 1 0 = x1 at *
  generalize xs.getD 2 0 = x2 at *
  generalize xs.getD 3 0 = x3 at *
  generalize ys.getD 0 0 = y0 at *
  generalize ys.getD 1 0 = y1 at *
  generalize ys.getD 2 0 = y2 at *
  generalize ys.getD 3 0 = y3 at *
  obtain ⟨w0, hw0⟩ : ∃ w0, ((w.alloc (.cells (r4 a b c d) 26)).alloc (.cells (b8 x0 x1 x2 x3 y0 y1 y2 y3) 89)).alloc (.cells (b8 0 0 0 0 0 0 0 0) 89) = w0 := ⟨_, rfl⟩
  have B0 : Below w.heap.size w w0 := hw0 ▸ (((Below.refl w.heap.size w).alloc (Nat.le_refl _) _).alloc (by simp) _).alloc (by simp; omega) _
  have T0 : Loc w0 w.heap.size (r4 a b c d) := hw0 ▸ ((loc_at w _ _ rfl).alloc _).alloc _
  have K0 : Loc w0 (w.heap.size + 1) (b8 x0 x1 x2 x3 y0 y1 y2 y3) := hw0 ▸ (loc_at _ _ _ (by simp)).alloc _
  have R0 : Loc w0 (w.heap.size + 1 + 1) (b8 0 0 0 0 0 0 0 0) := hw0 ▸ loc_at _ _ _ (by simp)
  obtain ⟨p0, p1, p2, p3⟩ := T0.cells4
  go_enter Tryd.func41, Tryd.ntmps41
  go_wp2_with fail
  clear hw0
  refine (unhide TO _).mono ?_
  rintro _ w1 ⟨rfl, b1⟩
  have B1 := B0.trans (b1.mono B0.size)
  have K1 := K0.below b1 K0.lt
  have R1 := R0.below b1 R0.lt
  clear B0 T0 K0 R0 p0 p1 p2 p3 b1
  obtain ⟨⟨p0, p1, p2, p3⟩, ⟨p4, p5, p6, p7⟩⟩ := K1.c8
  obtain ⟨⟨q0, q1, q2, q3⟩, ⟨q4, q5, q6, q7⟩⟩ := R1.c8
  have FR := R1.frozen
  go_wp2
  refine bodyPost_ret (v := .tuple #[bv x0 x1 x2 x3 y0 y1 y2 y3, .int .i64 1]) (by simp [results, Tryd.results41, go_sem, q0, q1, q2, q3, q4, q5, q6, q7]) rfl ?_
  exact ⟨rfl, put8_below B1 (by omega) _ _ _ _ _ _ _ _⟩

set_option maxHeartbeats 8000000 in
set_option maxRecDepth 100000 in
theorem paid_old (A : Nat) (b c d : Int) (xs ys : List Int) (w : World) (hA : A < 4) (ho : Ok4 A b c d) (h : d < ys.getD A 0) :
    Calls Tryd.prog 41 #[txv A b c d, .agg (b8L xs ys)] w fun o w' => o = .returned (.tuple #[.agg (b8L xs ys), .int .i64 2]) ∧ Below w.heap.size w w' := by
  have TO := hide fun w => implTxOk_yes A b c d w ho
  obtain ⟨w0, hw0⟩ : ∃ w0, ((w.alloc (.cells (r4 A b c d) 26)).alloc (.cells (b8L xs ys) 89)).alloc (.cells (b8 0 0 0 0 0 0 0 0) 89) = w0 := ⟨_, rfl⟩
  have B0 : Below w.heap.size w w0 := hw0 ▸ (((Below.refl w.heap.size w).alloc (Nat.le_refl _) _).alloc (by simp) _).alloc (by simp; omega) _
  have T0 : Loc w0 w.heap.size (r4 A b c d) := hw0 ▸ ((loc_at w _ _ rfl).alloc _).alloc _
  have K0 : Loc w0 (w.heap.size + 1) (b8L xs ys) := hw0 ▸ (loc_at _ _ _ (by simp)).alloc _
  have R0 : Loc w0 (w.heap.size + 1 + 1) (b8 0 0 0 0 0 0 0 0) := hw0 ▸ loc_at _ _ _ (by simp)
  have C0 := hide fun w' (hb : Below w0.heap.size w0 w') => (K0.below hb K0.lt).nextAt A hA
  have D0 := hide fun w' (hb : Below w0.heap.size w0 w') => (K0.below hb K0.lt).hasAt A hA
  unfold b8L at *
  generalize ys.getD A 0 = n at *
  generalize xs.getD A 0 = m at *
  generalize xs.getD 0 0 = x0 at *
  generalize xs.getD 1 0 = x1 at *
  generalize xs.getD 2 0 = x2 at *
  generalize xs.getD 3 0 = x3 at *
  generalize ys.getD 0 0 = y0 at *
  generalize ys.getD 1 0 = y1 at *
  generalize ys.getD 2 0 = y2 at *
  generalize ys.getD 3 0 = y3 at *
  obtain ⟨p0, p1, p2, p3⟩ := T0.cells4
  go_enter Tryd.func41, Tryd.ntmps41
  go_wp2_with fail
  clear hw0
  refine (unhide TO _).mono ?_
  rintro _ w1 ⟨rfl, b1⟩
  have B1 := B0.trans (b1.mono B0.size)
  have T1 := T0.below b1 T0.lt
  have K1 := K0.below b1 K0.lt
  have R1 := R0.below b1 R0.lt
  have c1 := unhide C0 _ b1
  have d1 := unhide D0 _ b1
  clear B0 T0 K0 R0 p0 p1 p2 p3 b1 C0 D0
  obtain ⟨t0, t1, t2, t3⟩ := T1.cells4
  obtain ⟨⟨p0, p1, p2, p3⟩, ⟨p4, p5, p6, p7⟩⟩ := K1.c8
  obtain ⟨⟨q0, q1, q2, q3⟩, ⟨q4, q5, q6, q7⟩⟩ := R1.c8
  have FR := R1.frozen
  have hA1 : (A : Int) < 4 := by omega
  go_wp2_with fail
  go_quiet (fail)
  go_wp2
  refine bodyPost_ret (v := .tuple #[bv x0 x1 x2 x3 y0 y1 y2 y3, .int .i64 2]) (by simp [results, Tryd.results41, go_sem, q0, q1, q2, q3, q4, q5, q6, q7]) rfl ?_
  exact ⟨rfl, put8_below (below_drewN' B1 _) (by omega) _ _ _ _ _ _ _ _⟩

set_option maxHeartbeats 8000000 in
set_option maxRecDepth 100000 in
theorem paid_early (A : Nat) (b c d : Int) (xs ys : List Int) (w : World) (hA : A < 4) (ho : Ok4 A b c d) (h : ys.getD A 0 < d) :
    Calls Tryd.prog 41 #[txv A b c d, .agg (b8L xs ys)] w fun o w' => o = .returned (.tuple #[.agg (b8L xs ys), .int .i64 3]) ∧ Below w.heap.size w w' := by
  have TO := hide fun w => implTxOk_yes A b c d w ho
  obtain ⟨w0, hw0⟩ : ∃ w0, ((w.alloc (.cells (r4 A b c d) 26)).alloc (.cells (b8L xs ys) 89)).alloc (.cells (b8 0 0 0 0 0 0 0 0) 89) = w0 := ⟨_, rfl⟩
  have B0 : Below w.heap.size w w0 := hw0 ▸ (((Below.refl w.heap.size w).alloc (Nat.le_refl _) _).alloc (by simp) _).alloc (by simp; omega) _
  have T0 : Loc w0 w.heap.size (r4 A b c d) := hw0 ▸ ((loc_at w _ _ rfl).alloc _).alloc _
  have K0 : Loc w0 (w.heap.size + 1) (b8L xs ys) := hw0 ▸ (loc_at _ _ _ (by simp)).alloc _
  have R0 : Loc w0 (w.heap.size + 1 + 1) (b8 0 0 0 0 0 0 0 0) := hw0 ▸ loc_at _ _ _ (by simp)
  have C0 := hide fun w' (hb : Below w0.heap.size w0 w') => (K0.below hb K0.lt).nextAt A hA
  have D0 := hide fun w' (hb : Below w0.heap.size w0 w') => (K0.below hb K0.lt).hasAt A hA
  unfold b8L at *
  generalize ys.getD A 0 = n at *
  generalize xs.getD A 0 = m at *
  generalize xs.getD 0 0 = x0 at *
  generalize xs.getD 1 0 = x1 at *
  generalize xs.getD 2 0 = x2 at *
  generalize xs.getD 3 0 = x3 at *
  generalize ys.getD 0 0 = y0 at *
  generalize ys.getD 1 0 = y1 at *
  generalize ys.getD 2 0 = y2 at *
  generalize ys.getD 3 0 = y3 at *
  obtain ⟨p0, p1, p2, p3⟩ := T0.cells4
  go_enter Tryd.func41, Tryd.ntmps41
  go_wp2_with fail
  clear hw0
  refine (unhide TO _).mono ?_
  rintro _ w1 ⟨rfl, b1⟩
  have B1 := B0.trans (b1.mono B0.size)
  have T1 := T0.below b1 T0.lt
  have K1 := K0.below b1 K0.lt
  have R1 := R0.below b1 R0.lt
  have c1 := unhide C0 _ b1
  have d1 := unhide D0 _ b1
  clear B0 T0 K0 R0 p0 p1 p2 p3 b1 C0 D0
  obtain ⟨t0, t1, t2, t3⟩ := T1.cells4
  obtain ⟨⟨p0, p1, p2, p3⟩, ⟨p4, p5, p6, p7⟩⟩ := K1.c8
  obtain ⟨⟨q0, q1, q2, q3⟩, ⟨q4, q5, q6, q7⟩⟩ := R1.c8
  have FR := R1.frozen
  have hA1 : (A : Int) < 4 := by omega
  have h' : ¬ d < n := by omega
  go_wp2_with fail
  go_quiet (fail)
  go_wp2_with fail
  go_quiet (fail)
  go_wp2
  refine bodyPost_ret (v := .tuple #[bv x0 x1 x2 x3 y0 y1 y2 y3, .int .i64 3]) (by simp [results, Tryd.results41, go_sem, q0, q1, q2, q3, q4, q5, q6, q7]) rfl ?_
  exact ⟨rfl, put8_below (below_drewN' B1 _) (by omega) _ _ _ _ _ _ _ _⟩
end Go.Proofs.YthdehhenkgkkmaaDoor

/- (impl.Tx).paid: a payment that can't be paid. -/
namespace Go.Proofs.YthdehhenkgkkmaaDoor
open Go.RowKit
set_option linter.unusedSectionVars false
variable [∀ (a b c d : Int), Decidable (Ok4 a b c d)]
variable [∀ (m a b c d : Int), Decidable (In4 m a b c d)]
variable [∀ (xs ys : List Int), Decidable (LOk xs ys)]

set_option maxHeartbeats 8000000 in
set_option maxRecDepth 100000 in
theorem paid_poor (A : Nat) (b c d : Int) (xs ys : List Int) (w : World) (hA : A < 4) (hy : ys.length = 4) (ho : Ok4 A b c d) (hn : ys.getD A 0 = d) (h : xs.getD A 0 < c) :
    Calls Tryd.prog 41 #[txv A b c d, .agg (b8L xs ys)] w fun o w' => o = .returned (.tuple #[.agg (b8L xs (ys.set A (d + 1))), .int .i64 4]) ∧ Below w.heap.size w w' := by
  have TO := hide fun w => implTxOk_yes A b c d w ho
  obtain ⟨w0, hw0⟩ : ∃ w0, ((w.alloc (.cells (r4 A b c d) 26)).alloc (.cells (b8L xs ys) 89)).alloc (.cells (b8 0 0 0 0 0 0 0 0) 89) = w0 := ⟨_, rfl⟩
  have B0 : Below w.heap.size w w0 := hw0 ▸ (((Below.refl w.heap.size w).alloc (Nat.le_refl _) _).alloc (by simp) _).alloc (by simp; omega) _
  have T0 : Loc w0 w.heap.size (r4 A b c d) := hw0 ▸ ((loc_at w _ _ rfl).alloc _).alloc _
  have K0 : Loc w0 (w.heap.size + 1) (b8L xs ys) := hw0 ▸ (loc_at _ _ _ (by simp)).alloc _
  have R0 : Loc w0 (w.heap.size + 1 + 1) (b8 0 0 0 0 0 0 0 0) := hw0 ▸ loc_at _ _ _ (by simp)
  have C0 := hide fun w' (hb : Below w0.heap.size w0 w') => (K0.below hb K0.lt).nextAt A hA
  have D0 := hide fun w' (hb : Below w0.heap.size w0 w') => (K0.below hb K0.lt).hasAt A hA
  have HN : Hid (∀ w' G, Loc w' G (b8L xs ys) → w'.cell? ⟨G, 4 + A, none⟩ = some (.int .i64 (ys.getD A 0)) ∧ w'.cell? ⟨G, A, none⟩ = some (.int .i64 (xs.getD A 0))) := hide fun w' G l => ⟨l.nextAt A hA, l.hasAt A hA⟩
  have HS : Hid (∀ w' G, Loc w' G (b8L xs ys) → Loc (w'.setCell ⟨G, 4 + A, none⟩ (.int .i64 (d + 1))) G (b8L xs (ys.set A (d + 1)))) := hide fun w' G l => l.set _ _ (b8L_next hy A hA _)
  unfold b8L at *
  rw [hn] at *
  generalize xs.getD A 0 = m at *
  generalize (ys.set A (d + 1)).getD 0 0 = z0 at *
  generalize (ys.set A (d + 1)).getD 1 0 = z1 at *
  generalize (ys.set A (d + 1)).getD 2 0 = z2 at *
  generalize (ys.set A (d + 1)).getD 3 0 = z3 at *
  generalize xs.getD 0 0 = x0 at *
  generalize xs.getD 1 0 = x1 at *
  generalize xs.getD 2 0 = x2 at *
  generalize xs.getD 3 0 = x3 at *
  generalize ys.getD 0 0 = y0 at *
  generalize ys.getD 1 0 = y1 at *
  generalize ys.getD 2 0 = y2 at *
  generalize ys.getD 3 0 = y3 at *
  obtain ⟨p0, p1, p2, p3⟩ := T0.cells4
  go_enter Tryd.func41, Tryd.ntmps41
  go_wp2_with fail
  clear hw0
  refine (unhide TO _).mono ?_
  rintro _ w1 ⟨rfl, b1⟩
  have B1 := B0.trans (b1.mono B0.size)
  have T1 := T0.below b1 T0.lt
  have K1 := K0.below b1 K0.lt
  have R1 := R0.below b1 R0.lt
  have c1 := unhide C0 _ b1
  have d1 := unhide D0 _ b1
  clear B0 T0 K0 R0 p0 p1 p2 p3 b1 C0 D0
  obtain ⟨t0, t1, t2, t3⟩ := T1.cells4
  obtain ⟨⟨p0, p1, p2, p3⟩, ⟨p4, p5, p6, p7⟩⟩ := K1.c8
  obtain ⟨⟨q0, q1, q2, q3⟩, ⟨q4, q5, q6, q7⟩⟩ := R1.c8
  have FR := R1.frozen
  have hA1 : (A : Int) < 4 := by omega
  have ho1 : 0 ≤ d ∧ d ≤ 99 := by unfold Ok4 at ho; omega
  go_wp2_with fail
  go_quiet (fail)
  go_wp2_with fail
  go_quiet (fail)
  generalize hwd : World.drewN (World.drewN w1 _) _ = w2
  have B2 : Below w.heap.size w w2 := hwd ▸ below_drewN' (below_drewN' B1 _) _
  have T2 : Loc w2 w.heap.size (r4 A b c d) := hwd ▸ (T1.drewN _).drewN _
  have K2 : Loc w2 (w.heap.size + 1) (b8 x0 x1 x2 x3 y0 y1 y2 y3) := hwd ▸ (K1.drewN _).drewN _
  have R2 : Loc w2 (w.heap.size + 1 + 1) (b8 0 0 0 0 0 0 0 0) := hwd ▸ (R1.drewN _).drewN _
  clear hwd B1 T1 K1 R1 c1 d1 t0 t1 t2 t3 p0 p1 p2 p3 p4 p5 p6 p7 q0 q1 q2 q3 q4 q5 q6 q7 FR
  have lr := R2.lt
  obtain ⟨w3, hw3⟩ : ∃ w3, w2.alloc (.cells (b8 x0 x1 x2 x3 y0 y1 y2 y3) 89) = w3 := ⟨_, rfl⟩
  have b3 : Below w2.heap.size w2 w3 := hw3 ▸ (Below.refl _ _).alloc (Nat.le_refl _) _
  have A3 : Loc w3 w2.heap.size (b8 x0 x1 x2 x3 y0 y1 y2 y3) := hw3 ▸ loc_at w2 _ _ rfl
  obtain ⟨w4, hw4⟩ : ∃ w4, w3.setCell ⟨w2.heap.size, 4 + A, none⟩ (.int .i64 (d + 1)) = w4 := ⟨_, rfl⟩
  have A4 : Loc w4 w2.heap.size (b8 x0 x1 x2 x3 z0 z1 z2 z3) := hw4 ▸ unhide HS _ _ A3
  have b4 : Below w2.heap.size w2 w4 := hw4 ▸ Below.set b3 _ _ (Nat.le_refl _)
  have T4 := T2.below b4 T2.lt
  have K4 := K2.below b4 K2.lt
  have R4 := R2.below b4 R2.lt
  have B4 := B2.trans (b4.mono B2.size)
  obtain ⟨⟨p0, p1, p2, p3⟩, ⟨p4, p5, p6, p7⟩⟩ := K2.c8
  have n3 := (unhide HN _ _ A3).1
  have FA := A3.frozen
  obtain ⟨t0, t1, t2, t3⟩ := (T2.below b3 T2.lt).cells4
  obtain ⟨u0, u1, u2, u3⟩ := T4.cells4
  have m4 := (unhide HN _ _ K4).2
  clear A3 b3 HN HS
  go_wp2_with fail
  clear hw3 hw4 n3 FA t0 t1 t2 t3 p0 p1 p2 p3 p4 p5 p6 p7
  go_quiet (fail)
  obtain ⟨⟨p0, p1, p2, p3⟩, ⟨p4, p5, p6, p7⟩⟩ := A4.c8
  obtain ⟨⟨q0, q1, q2, q3⟩, ⟨q4, q5, q6, q7⟩⟩ := R4.c8
  have FR := R4.frozen
  go_wp2
  refine bodyPost_ret (v := .tuple #[bv x0 x1 x2 x3 z0 z1 z2 z3, .int .i64 4]) (by simp [results, Tryd.results41, go_sem, q0, q1, q2, q3, q4, q5, q6, q7]) rfl ?_
  exact ⟨rfl, put8_below (below_drewN' B4 _) (by omega) _ _ _ _ _ _ _ _⟩
end Go.Proofs.YthdehhenkgkkmaaDoor

/- (impl.Tx).paid: a payment that is paid. -/
namespace Go.Proofs.YthdehhenkgkkmaaDoor
open Go.RowKit
set_option linter.unusedSectionVars false
variable [∀ (a b c d : Int), Decidable (Ok4 a b c d)]
variable [∀ (m a b c d : Int), Decidable (In4 m a b c d)]
variable [∀ (xs ys : List Int), Decidable (LOk xs ys)]

theorem ok_lists {xs ys : List Int} (w : World) (hx : xs.length = 4) (hy : ys.length = 4) :
    Calls Tryd.prog 58 #[.agg (b8L xs ys)] w fun o w' => o = .returned (.bool (decide (LOk xs ys))) ∧ Below w.heap.size w w' := by
  obtain ⟨a, b, c, d, rfl⟩ := four_of hx
  obtain ⟨e, f, g, h, rfl⟩ := four_of hy
  simp only [lok_four]
  exact ok_any a b c d e f g h w

set_option maxHeartbeats 16000000 in
set_option maxRecDepth 100000 in
theorem paid_done (A Bt : Nat) (c d : Int) (xs ys : List Int) (w : World) (hA : A < 4) (hB : Bt < 4) (hx : xs.length = 4) (hy : ys.length = 4) (ho : Ok4 A Bt c d) (hn : ys.getD A 0 = d) (h : c ≤ xs.getD A 0) (hm : xs.getD A 0 ≤ 400) (hr : 0 ≤ (xs.set A (xs.getD A 0 - c)).getD Bt 0 ∧ (xs.set A (xs.getD A 0 - c)).getD Bt 0 ≤ 400)
    (hq : decide (LOk ((xs.set A (xs.getD A 0 - c)).set Bt ((xs.set A (xs.getD A 0 - c)).getD Bt 0 + c)) (ys.set A (d + 1))) = true) :
    Calls Tryd.prog 41 #[txv A Bt c d, .agg (b8L xs ys)] w fun o w' => o = .returned (.tuple #[.agg (b8L ((xs.set A (xs.getD A 0 - c)).set Bt ((xs.set A (xs.getD A 0 - c)).getD Bt 0 + c)) (ys.set A (d + 1))), .int .i64 0]) ∧ Below w.heap.size w w' := by
  have TO := hide fun w => implTxOk_yes A Bt c d w ho
  obtain ⟨w0, hw0⟩ : ∃ w0, ((w.alloc (.cells (r4 A Bt c d) 26)).alloc (.cells (b8L xs ys) 89)).alloc (.cells (b8 0 0 0 0 0 0 0 0) 89) = w0 := ⟨_, rfl⟩
  have B0 : Below w.heap.size w w0 := hw0 ▸ (((Below.refl w.heap.size w).alloc (Nat.le_refl _) _).alloc (by simp) _).alloc (by simp; omega) _
  have T0 : Loc w0 w.heap.size (r4 A Bt c d) := hw0 ▸ ((loc_at w _ _ rfl).alloc _).alloc _
  have K0 : Loc w0 (w.heap.size + 1) (b8L xs ys) := hw0 ▸ (loc_at _ _ _ (by simp)).alloc _
  have R0 : Loc w0 (w.heap.size + 1 + 1) (b8 0 0 0 0 0 0 0 0) := hw0 ▸ loc_at _ _ _ (by simp)
  have C0 := hide fun w' (hb : Below w0.heap.size w0 w') => (K0.below hb K0.lt).nextAt A hA
  have D0 := hide fun w' (hb : Below w0.heap.size w0 w') => (K0.below hb K0.lt).hasAt A hA
  have HN : Hid (∀ w' G, Loc w' G (b8L xs ys) → w'.cell? ⟨G, 4 + A, none⟩ = some (.int .i64 (ys.getD A 0)) ∧ w'.cell? ⟨G, A, none⟩ = some (.int .i64 (xs.getD A 0))) := hide fun w' G l => ⟨l.nextAt A hA, l.hasAt A hA⟩
  have HS : Hid (∀ w' G, Loc w' G (b8L xs ys) → Loc (w'.setCell ⟨G, 4 + A, none⟩ (.int .i64 (d + 1))) G (b8L xs (ys.set A (d + 1)))) := hide fun w' G l => l.set _ _ (b8L_next hy A hA _)
  have HM : Hid (∀ w' G, Loc w' G (b8L xs (ys.set A (d + 1))) → w'.cell? ⟨G, A, none⟩ = some (.int .i64 (xs.getD A 0))) := hide fun w' G l => l.hasAt A hA
  have H1 : Hid (∀ w' G, Loc w' G (b8L xs (ys.set A (d + 1))) → Loc (w'.setCell ⟨G, A, none⟩ (.int .i64 (xs.getD A 0 - c))) G (b8L (xs.set A (xs.getD A 0 - c)) (ys.set A (d + 1)))) := hide fun w' G l => l.set _ _ (b8L_has hx A hA _)
  have HR : Hid (∀ w' G, Loc w' G (b8L (xs.set A (xs.getD A 0 - c)) (ys.set A (d + 1))) → w'.cell? ⟨G, Bt, none⟩ = some (.int .i64 ((xs.set A (xs.getD A 0 - c)).getD Bt 0))) := hide fun w' G l => l.hasAt Bt hB
  have H2 : Hid (∀ w' G, Loc w' G (b8L (xs.set A (xs.getD A 0 - c)) (ys.set A (d + 1))) → Loc (w'.setCell ⟨G, Bt, none⟩ (.int .i64 ((xs.set A (xs.getD A 0 - c)).getD Bt 0 + c))) G (b8L ((xs.set A (xs.getD A 0 - c)).set Bt ((xs.set A (xs.getD A 0 - c)).getD Bt 0 + c)) (ys.set A (d + 1)))) := hide fun w' G l => l.set _ _ (b8L_has (by simpa using hx) Bt hB _)
  have OK := hide fun w => ok_lists (xs := ((xs.set A (xs.getD A 0 - c)).set Bt ((xs.set A (xs.getD A 0 - c)).getD Bt 0 + c))) (ys := (ys.set A (d + 1))) w (by simpa using hx) (by simpa using hy)
  rw [hq] at OK
  unfold b8L at *
  rw [hn] at *
  generalize ((xs.set A (xs.getD A 0 - c)).set Bt ((xs.set A (xs.getD A 0 - c)).getD Bt 0 + c)).getD 0 0 = s0 at *
  generalize ((xs.set A (xs.getD A 0 - c)).set Bt ((xs.set A (xs.getD A 0 - c)).getD Bt 0 + c)).getD 1 0 = s1 at *
  generalize ((xs.set A (xs.getD A 0 - c)).set Bt ((xs.set A (xs.getD A 0 - c)).getD Bt 0 + c)).getD 2 0 = s2 at *
  generalize ((xs.set A (xs.getD A 0 - c)).set Bt ((xs.set A (xs.getD A 0 - c)).getD Bt 0 + c)).getD 3 0 = s3 at *
  generalize (xs.set A (xs.getD A 0 - c)).getD 0 0 = v0 at *
  generalize (xs.set A (xs.getD A 0 - c)).getD 1 0 = v1 at *
  generalize (xs.set A (xs.getD A 0 - c)).getD 2 0 = v2 at *
  generalize (xs.set A (xs.getD A 0 - c)).getD 3 0 = v3 at *
  generalize (xs.set A (xs.getD A 0 - c)).getD Bt 0 = r at *
  generalize xs.getD A 0 = m at *
  generalize (ys.set A (d + 1)).getD 0 0 = z0 at *
  generalize (ys.set A (d + 1)).getD 1 0 = z1 at *
  generalize (ys.set A (d + 1)).getD 2 0 = z2 at *
  generalize (ys.set A (d + 1)).getD 3 0 = z3 at *
  generalize xs.getD 0 0 = x0 at *
  generalize xs.getD 1 0 = x1 at *
  generalize xs.getD 2 0 = x2 at *
  generalize xs.getD 3 0 = x3 at *
  generalize ys.getD 0 0 = y0 at *
  generalize ys.getD 1 0 = y1 at *
  generalize ys.getD 2 0 = y2 at *
  generalize ys.getD 3 0 = y3 at *
  obtain ⟨p0, p1, p2, p3⟩ := T0.cells4
  go_enter Tryd.func41, Tryd.ntmps41
  go_wp2_with fail
  clear hw0
  refine (unhide TO _).mono ?_
  rintro _ w1 ⟨rfl, b1⟩
  have B1 := B0.trans (b1.mono B0.size)
  have T1 := T0.below b1 T0.lt
  have K1 := K0.below b1 K0.lt
  have R1 := R0.below b1 R0.lt
  have c1 := unhide C0 _ b1
  have d1 := unhide D0 _ b1
  clear B0 T0 K0 R0 p0 p1 p2 p3 b1 C0 D0
  obtain ⟨t0, t1, t2, t3⟩ := T1.cells4
  obtain ⟨⟨p0, p1, p2, p3⟩, ⟨p4, p5, p6, p7⟩⟩ := K1.c8
  obtain ⟨⟨q0, q1, q2, q3⟩, ⟨q4, q5, q6, q7⟩⟩ := R1.c8
  have FR := R1.frozen
  have hA1 : (A : Int) < 4 := by omega
  have ho1 : 0 ≤ d ∧ d ≤ 99 := by unfold Ok4 at ho; omega
  have ho2 : 0 ≤ c ∧ c ≤ 1000 := by unfold Ok4 at ho; omega
  clear ho hq
  go_wp2_with fail
  go_quiet (fail)
  go_wp2_with fail
  go_quiet (fail)
  generalize hwd : World.drewN (World.drewN w1 _) _ = w2
  have B2 : Below w.heap.size w w2 := hwd ▸ below_drewN' (below_drewN' B1 _) _
  have T2 : Loc w2 w.heap.size (r4 A Bt c d) := hwd ▸ (T1.drewN _).drewN _
  have K2 : Loc w2 (w.heap.size + 1) (b8 x0 x1 x2 x3 y0 y1 y2 y3) := hwd ▸ (K1.drewN _).drewN _
  have R2 : Loc w2 (w.heap.size + 1 + 1) (b8 0 0 0 0 0 0 0 0) := hwd ▸ (R1.drewN _).drewN _
  clear hwd B1 T1 K1 R1 c1 d1 t0 t1 t2 t3 p0 p1 p2 p3 p4 p5 p6 p7 q0 q1 q2 q3 q4 q5 q6 q7 FR
  have lr := R2.lt
  obtain ⟨w3, hw3⟩ : ∃ w3, w2.alloc (.cells (b8 x0 x1 x2 x3 y0 y1 y2 y3) 89) = w3 := ⟨_, rfl⟩
  have b3 : Below w2.heap.size w2 w3 := hw3 ▸ (Below.refl _ _).alloc (Nat.le_refl _) _
  have A3 : Loc w3 w2.heap.size (b8 x0 x1 x2 x3 y0 y1 y2 y3) := hw3 ▸ loc_at w2 _ _ rfl
  obtain ⟨w4, hw4⟩ : ∃ w4, w3.setCell ⟨w2.heap.size, 4 + A, none⟩ (.int .i64 (d + 1)) = w4 := ⟨_, rfl⟩
  have A4 : Loc w4 w2.heap.size (b8 x0 x1 x2 x3 z0 z1 z2 z3) := hw4 ▸ unhide HS _ _ A3
  have b4 : Below w2.heap.size w2 w4 := hw4 ▸ Below.set b3 _ _ (Nat.le_refl _)
  have T4 := T2.below b4 T2.lt
  have K4 := K2.below b4 K2.lt
  have R4 := R2.below b4 R2.lt
  have B4 := B2.trans (b4.mono B2.size)
  obtain ⟨⟨p0, p1, p2, p3⟩, ⟨p4, p5, p6, p7⟩⟩ := K2.c8
  have n3 := (unhide HN _ _ A3).1
  have FA := A3.frozen
  obtain ⟨t0, t1, t2, t3⟩ := (T2.below b3 T2.lt).cells4
  obtain ⟨u0, u1, u2, u3⟩ := T4.cells4
  have m4 := (unhide HN _ _ K4).2
  clear A3 b3 HN HS
  go_wp2_with fail
  clear hw3 hw4 n3 FA t0 t1 t2 t3 p0 p1 p2 p3 p4 p5 p6 p7
  go_quiet (fail)
  generalize hwd : World.drewN w4 _ = w5
  have B5 : Below w.heap.size w w5 := hwd ▸ below_drewN' B4 _
  have T5 : Loc w5 w.heap.size (r4 A Bt c d) := hwd ▸ T4.drewN _
  have K5 : Loc w5 (w.heap.size + 1) (b8 x0 x1 x2 x3 y0 y1 y2 y3) := hwd ▸ K4.drewN _
  have R5 : Loc w5 (w.heap.size + 1 + 1) (b8 0 0 0 0 0 0 0 0) := hwd ▸ R4.drewN _
  have A5 : Loc w5 w2.heap.size (b8 x0 x1 x2 x3 z0 z1 z2 z3) := hwd ▸ A4.drewN _
  clear hwd B4 T4 K4 R4 A4 u0 u1 u2 u3 m4 T2 K2 R2 B2 b4
  have m5 := unhide HM _ _ A5
  have FA := A5.frozen
  have hB1 : (Bt : Int) < 4 := by omega
  have wr1 : IntKind.i64.wrap (m - c) = m - c := by rw [IntKind.wrap_i64]; omega
  have wr2 : IntKind.i64.wrap (r + c) = r + c := by rw [IntKind.wrap_i64]; omega
  obtain ⟨w6, hw6⟩ : ∃ w6, (w5.setCell ⟨w2.heap.size, A, none⟩ (.int .i64 (m - c))).drew = w6 := ⟨_, rfl⟩
  have A6 : Loc w6 w2.heap.size (b8 v0 v1 v2 v3 z0 z1 z2 z3) := hw6 ▸ unhide H1 _ _ A5
  have T6 : Loc w6 w.heap.size (r4 A Bt c d) := hw6 ▸ T5.other (by simp; omega) _
  have K6 : Loc w6 (w.heap.size + 1) (b8 x0 x1 x2 x3 y0 y1 y2 y3) := hw6 ▸ K5.other (by simp; omega) _
  have R6 : Loc w6 (w.heap.size + 1 + 1) (b8 0 0 0 0 0 0 0 0) := hw6 ▸ R5.other (by simp; omega) _
  have B6 : Below w.heap.size w w6 := hw6 ▸ Below.drew (Below.set B5 _ _ (by omega))
  go_wp2_with fail
  refine wp_region_noPanic ?_
  refine wp_region_held_drew (S := (fun w' => (w'.cell? ⟨w.heap.size, 0, none⟩ = some (.int .i64 A) ∧ w'.cell? ⟨w.heap.size, 1, none⟩ = some (.int .i64 Bt)) ∧ w'.cell? ⟨w.heap.size, 2, none⟩ = some (.int .i64 c))) (by kernel_rfl) ⟨⟨T5.cell 0 rfl, T5.cell 1 rfl⟩, T5.cell 2 rfl⟩ (fun hHeld => ?_)
  refine take_at (i := 0) (d := 47) (v := ?_) rfl rfl (by kernel_rfl) (by kernel_rfl) (by kernel_rfl) (fun _ _ _ h => h) (Or.inl ⟨by rfl, ?_⟩) (by assumption) ?_
  rotate_left
  · intro w hSw
    try dsimp only at hSw
    go_simp
    try with_reducible rfl
  simp only [Act.put, List.setIfInBounds_toArray, List.set_cons_zero, List.set_cons_succ]
  refine take_at (i := 1) (d := 48) (v := ?_) rfl rfl (by kernel_rfl) (by kernel_rfl) (by kernel_rfl) (fun _ _ _ h => h) (Or.inl ⟨by rfl, ?_⟩) (by assumption) ?_
  rotate_left
  · intro w hSw
    try dsimp only at hSw
    go_simp
    try with_reducible rfl
  simp only [Act.put, List.setIfInBounds_toArray, List.set_cons_zero, List.set_cons_succ]
  refine take_at (i := 2) (d := 49) (v := ?_) rfl rfl (by kernel_rfl) (by kernel_rfl) (by kernel_rfl) (fun _ _ _ h => h) (Or.inl ⟨by rfl, ?_⟩) (by assumption) ?_
  rotate_left
  · intro w hSw
    try dsimp only at hSw
    go_simp
    try with_reducible rfl
  simp only [Act.put, List.setIfInBounds_toArray, List.set_cons_zero, List.set_cons_succ]
  refine take_at (i := 3) (d := 50) (v := ?_) rfl rfl (by kernel_rfl) (by kernel_rfl) (by kernel_rfl) (fun _ _ _ h => h) (Or.inl ⟨by rfl, ?_⟩) (by assumption) ?_
  rotate_left
  · intro w hSw
    try dsimp only at hSw
    go_simp
    try with_reducible rfl
  simp only [Act.put, List.setIfInBounds_toArray, List.set_cons_zero, List.set_cons_succ]
  refine take_at (i := 5) (d := 52) (v := ?_) rfl rfl (by kernel_rfl) (by kernel_rfl) (by kernel_rfl) (fun _ _ _ h => h) (Or.inl ⟨by rfl, ?_⟩) (by assumption) ?_
  rotate_left
  · intro w hSw
    try dsimp only at hSw
    go_simp
    try with_reducible rfl
  simp only [Act.put, List.setIfInBounds_toArray, List.set_cons_zero, List.set_cons_succ]
  refine take_at (i := 6) (d := 53) (v := ?_) rfl rfl (by kernel_rfl) (by kernel_rfl) (by kernel_rfl) (fun _ _ _ h => h) (Or.inl ⟨by rfl, ?_⟩) (by assumption) ?_
  rotate_left
  · intro w hSw
    try dsimp only at hSw
    go_simp
    try with_reducible rfl
  simp only [Act.put, List.setIfInBounds_toArray, List.set_cons_zero, List.set_cons_succ]
  refine take_at (i := 8) (d := 55) (v := ?_) rfl rfl (by kernel_rfl) (by kernel_rfl) (by kernel_rfl) (fun _ _ _ h => h) (Or.inl ⟨by rfl, ?_⟩) (by assumption) ?_
  rotate_left
  · intro w hSw
    try dsimp only at hSw
    go_simp
    try with_reducible rfl
  simp only [Act.put, List.setIfInBounds_toArray, List.set_cons_zero, List.set_cons_succ]
  refine ready_at (i := 4) rfl (by kernel_rfl) (fun KK hKK => ?_)
  go_simp
  clear hHeld
  refine hKK.out _ _ ⟨⟨T5.cell 0 rfl, T5.cell 1 rfl⟩, T5.cell 2 rfl⟩ (fun hHeld => ?_)
  clear hKK KK
  refine take_at (i := 7) (d := 54) (v := ?_) rfl rfl (by kernel_rfl) (by kernel_rfl) (by kernel_rfl) (fun _ _ _ h => h) (Or.inl ⟨by rfl, ?_⟩) (by assumption) ?_
  rotate_left
  · intro w hSw
    try dsimp only at hSw
    go_simp
    try with_reducible rfl
  simp only [Act.put, List.setIfInBounds_toArray, List.set_cons_zero, List.set_cons_succ]
  refine take_at (i := 9) (d := 56) (v := ?_) rfl rfl (by kernel_rfl) (by kernel_rfl) (by kernel_rfl) (fun _ _ _ h => h) (Or.inl ⟨by rfl, ?_⟩) (by assumption) ?_
  rotate_left
  · intro w hSw
    try dsimp only at hSw
    go_simp
    try with_reducible rfl
  simp only [Act.put, List.setIfInBounds_toArray, List.set_cons_zero, List.set_cons_succ]
  refine ready_at (i := 10) rfl (by kernel_rfl) (fun KK hKK => ?_)
  go_simp
  clear hHeld
  refine hKK.out _ _ ⟨⟨T6.cell 0 rfl, T6.cell 1 rfl⟩, T6.cell 2 rfl⟩ (fun hHeld => ?_)
  clear hKK KK
  clear hHeld hw6 m5 FA
  refine wpAnyH_done (by kernel_rfl) ?_ _
  refine NoPanic.normal ?_
  clear A5 T5 K5 R5 B5 HM H1
  have r6 := unhide HR _ _ A6
  have FA := A6.frozen
  obtain ⟨w7, hw7⟩ : ∃ w7, (w6.setCell ⟨w2.heap.size, Bt, none⟩ (.int .i64 (r + c))).drew = w7 := ⟨_, rfl⟩
  have A7 : Loc w7 w2.heap.size (b8 s0 s1 s2 s3 z0 z1 z2 z3) := hw7 ▸ unhide H2 _ _ A6
  have T7 : Loc w7 w.heap.size (r4 A Bt c d) := hw7 ▸ T6.other (by simp; omega) _
  have K7 : Loc w7 (w.heap.size + 1) (b8 x0 x1 x2 x3 y0 y1 y2 y3) := hw7 ▸ K6.other (by simp; omega) _
  have R7 : Loc w7 (w.heap.size + 1 + 1) (b8 0 0 0 0 0 0 0 0) := hw7 ▸ R6.other (by simp; omega) _
  have B7 : Below w.heap.size w w7 := hw7 ▸ Below.drew (Below.set B6 _ _ (by omega))
  go_wp2_with fail
  refine wp_region_noPanic ?_
  refine wp_region_held_drew (S := (fun w' => (w'.cell? ⟨w.heap.size, 0, none⟩ = some (.int .i64 A) ∧ w'.cell? ⟨w.heap.size, 1, none⟩ = some (.int .i64 Bt)) ∧ w'.cell? ⟨w.heap.size, 2, none⟩ = some (.int .i64 c))) (by kernel_rfl) ⟨⟨T6.cell 0 rfl, T6.cell 1 rfl⟩, T6.cell 2 rfl⟩ (fun hHeld => ?_)
  refine take_at (i := 0) (d := 57) (v := ?_) rfl rfl (by kernel_rfl) (by kernel_rfl) (by kernel_rfl) (fun _ _ _ h => h) (Or.inl ⟨by rfl, ?_⟩) (by assumption) ?_
  rotate_left
  · intro w hSw
    try dsimp only at hSw
    go_simp
    try with_reducible rfl
  simp only [Act.put, List.setIfInBounds_toArray, List.set_cons_zero, List.set_cons_succ]
  refine take_at (i := 1) (d := 58) (v := ?_) rfl rfl (by kernel_rfl) (by kernel_rfl) (by kernel_rfl) (fun _ _ _ h => h) (Or.inl ⟨by rfl, ?_⟩) (by assumption) ?_
  rotate_left
  · intro w hSw
    try dsimp only at hSw
    go_simp
    try with_reducible rfl
  simp only [Act.put, List.setIfInBounds_toArray, List.set_cons_zero, List.set_cons_succ]
  refine take_at (i := 2) (d := 59) (v := ?_) rfl rfl (by kernel_rfl) (by kernel_rfl) (by kernel_rfl) (fun _ _ _ h => h) (Or.inl ⟨by rfl, ?_⟩) (by assumption) ?_
  rotate_left
  · intro w hSw
    try dsimp only at hSw
    go_simp
    try with_reducible rfl
  simp only [Act.put, List.setIfInBounds_toArray, List.set_cons_zero, List.set_cons_succ]
  refine take_at (i := 3) (d := 60) (v := ?_) rfl rfl (by kernel_rfl) (by kernel_rfl) (by kernel_rfl) (fun _ _ _ h => h) (Or.inl ⟨by rfl, ?_⟩) (by assumption) ?_
  rotate_left
  · intro w hSw
    try dsimp only at hSw
    go_simp
    try with_reducible rfl
  simp only [Act.put, List.setIfInBounds_toArray, List.set_cons_zero, List.set_cons_succ]
  refine take_at (i := 5) (d := 62) (v := ?_) rfl rfl (by kernel_rfl) (by kernel_rfl) (by kernel_rfl) (fun _ _ _ h => h) (Or.inl ⟨by rfl, ?_⟩) (by assumption) ?_
  rotate_left
  · intro w hSw
    try dsimp only at hSw
    go_simp
    try with_reducible rfl
  simp only [Act.put, List.setIfInBounds_toArray, List.set_cons_zero, List.set_cons_succ]
  refine take_at (i := 6) (d := 63) (v := ?_) rfl rfl (by kernel_rfl) (by kernel_rfl) (by kernel_rfl) (fun _ _ _ h => h) (Or.inl ⟨by rfl, ?_⟩) (by assumption) ?_
  rotate_left
  · intro w hSw
    try dsimp only at hSw
    go_simp
    try with_reducible rfl
  simp only [Act.put, List.setIfInBounds_toArray, List.set_cons_zero, List.set_cons_succ]
  refine take_at (i := 8) (d := 65) (v := ?_) rfl rfl (by kernel_rfl) (by kernel_rfl) (by kernel_rfl) (fun _ _ _ h => h) (Or.inl ⟨by rfl, ?_⟩) (by assumption) ?_
  rotate_left
  · intro w hSw
    try dsimp only at hSw
    go_simp
    try with_reducible rfl
  simp only [Act.put, List.setIfInBounds_toArray, List.set_cons_zero, List.set_cons_succ]
  refine ready_at (i := 4) rfl (by kernel_rfl) (fun KK hKK => ?_)
  go_simp
  clear hHeld
  refine hKK.out _ _ ⟨⟨T6.cell 0 rfl, T6.cell 1 rfl⟩, T6.cell 2 rfl⟩ (fun hHeld => ?_)
  clear hKK KK
  refine take_at (i := 7) (d := 64) (v := ?_) rfl rfl (by kernel_rfl) (by kernel_rfl) (by kernel_rfl) (fun _ _ _ h => h) (Or.inl ⟨by rfl, ?_⟩) (by assumption) ?_
  rotate_left
  · intro w hSw
    try dsimp only at hSw
    go_simp
    try with_reducible rfl
  simp only [Act.put, List.setIfInBounds_toArray, List.set_cons_zero, List.set_cons_succ]
  refine take_at (i := 9) (d := 66) (v := ?_) rfl rfl (by kernel_rfl) (by kernel_rfl) (by kernel_rfl) (fun _ _ _ h => h) (Or.inl ⟨by rfl, ?_⟩) (by assumption) ?_
  rotate_left
  · intro w hSw
    try dsimp only at hSw
    go_simp
    try with_reducible rfl
  simp only [Act.put, List.setIfInBounds_toArray, List.set_cons_zero, List.set_cons_succ]
  refine ready_at (i := 10) rfl (by kernel_rfl) (fun KK hKK => ?_)
  go_simp
  clear hHeld
  refine hKK.out _ _ ⟨⟨T7.cell 0 rfl, T7.cell 1 rfl⟩, T7.cell 2 rfl⟩ (fun hHeld => ?_)
  clear hKK KK
  clear hHeld hw7 r6 FA
  refine wpAnyH_done (by kernel_rfl) ?_ _
  refine NoPanic.normal ?_
  clear A6 T6 K6 R6 B6 HR H2 T7
  obtain ⟨⟨p0, p1, p2, p3⟩, ⟨p4, p5, p6, p7⟩⟩ := A7.c8
  go_wp2_with fail
  refine (unhide OK _).mono ?_
  rintro _ w8 ⟨rfl, b8⟩
  have A8 := A7.below b8 A7.lt
  have K8 := K7.below b8 K7.lt
  have R8 := R7.below b8 R7.lt
  have B8 := B7.trans (b8.mono B7.size)
  clear p0 p1 p2 p3 p4 p5 p6 p7 A7 K7 R7 B7 b8 OK
  obtain ⟨⟨q0, q1, q2, q3⟩, ⟨q4, q5, q6, q7⟩⟩ := R8.c8
  have FR := R8.frozen
  obtain ⟨⟨p0, p1, p2, p3⟩, ⟨p4, p5, p6, p7⟩⟩ := A8.c8
  go_wp2
  refine bodyPost_ret (v := .tuple #[bv s0 s1 s2 s3 z0 z1 z2 z3, .int .i64 0]) (by simp [results, Tryd.results41, go_sem, q0, q1, q2, q3, q4, q5, q6, q7]) rfl ?_
  exact ⟨rfl, put8_below B8 (by omega) _ _ _ _ _ _ _ _⟩
end Go.Proofs.YthdehhenkgkkmaaDoor

/- (impl.Tx).paid: a payment that the receiver can't hold. -/
namespace Go.Proofs.YthdehhenkgkkmaaDoor
open Go.RowKit
set_option linter.unusedSectionVars false
variable [∀ (a b c d : Int), Decidable (Ok4 a b c d)]
variable [∀ (m a b c d : Int), Decidable (In4 m a b c d)]
variable [∀ (xs ys : List Int), Decidable (LOk xs ys)]

set_option maxHeartbeats 16000000 in
set_option maxRecDepth 100000 in
theorem paid_over (A Bt : Nat) (c d : Int) (xs ys : List Int) (w : World) (hA : A < 4) (hB : Bt < 4) (hx : xs.length = 4) (hy : ys.length = 4) (ho : Ok4 A Bt c d) (hn : ys.getD A 0 = d) (h : c ≤ xs.getD A 0) (hm : xs.getD A 0 ≤ 400) (hr : 0 ≤ (xs.set A (xs.getD A 0 - c)).getD Bt 0 ∧ (xs.set A (xs.getD A 0 - c)).getD Bt 0 ≤ 400)
    (hq : decide (LOk ((xs.set A (xs.getD A 0 - c)).set Bt ((xs.set A (xs.getD A 0 - c)).getD Bt 0 + c)) (ys.set A (d + 1))) = false) :
    Calls Tryd.prog 41 #[txv A Bt c d, .agg (b8L xs ys)] w fun o w' => o = .returned (.tuple #[.agg (b8L xs ys), .int .i64 1]) ∧ Below w.heap.size w w' := by
  have TO := hide fun w => implTxOk_yes A Bt c d w ho
  obtain ⟨w0, hw0⟩ : ∃ w0, ((w.alloc (.cells (r4 A Bt c d) 26)).alloc (.cells (b8L xs ys) 89)).alloc (.cells (b8 0 0 0 0 0 0 0 0) 89) = w0 := ⟨_, rfl⟩
  have B0 : Below w.heap.size w w0 := hw0 ▸ (((Below.refl w.heap.size w).alloc (Nat.le_refl _) _).alloc (by simp) _).alloc (by simp; omega) _
  have T0 : Loc w0 w.heap.size (r4 A Bt c d) := hw0 ▸ ((loc_at w _ _ rfl).alloc _).alloc _
  have K0 : Loc w0 (w.heap.size + 1) (b8L xs ys) := hw0 ▸ (loc_at _ _ _ (by simp)).alloc _
  have R0 : Loc w0 (w.heap.size + 1 + 1) (b8 0 0 0 0 0 0 0 0) := hw0 ▸ loc_at _ _ _ (by simp)
  have C0 := hide fun w' (hb : Below w0.heap.size w0 w') => (K0.below hb K0.lt).nextAt A hA
  have D0 := hide fun w' (hb : Below w0.heap.size w0 w') => (K0.below hb K0.lt).hasAt A hA
  have HN : Hid (∀ w' G, Loc w' G (b8L xs ys) → w'.cell? ⟨G, 4 + A, none⟩ = some (.int .i64 (ys.getD A 0)) ∧ w'.cell? ⟨G, A, none⟩ = some (.int .i64 (xs.getD A 0))) := hide fun w' G l => ⟨l.nextAt A hA, l.hasAt A hA⟩
  have HS : Hid (∀ w' G, Loc w' G (b8L xs ys) → Loc (w'.setCell ⟨G, 4 + A, none⟩ (.int .i64 (d + 1))) G (b8L xs (ys.set A (d + 1)))) := hide fun w' G l => l.set _ _ (b8L_next hy A hA _)
  have HM : Hid (∀ w' G, Loc w' G (b8L xs (ys.set A (d + 1))) → w'.cell? ⟨G, A, none⟩ = some (.int .i64 (xs.getD A 0))) := hide fun w' G l => l.hasAt A hA
  have H1 : Hid (∀ w' G, Loc w' G (b8L xs (ys.set A (d + 1))) → Loc (w'.setCell ⟨G, A, none⟩ (.int .i64 (xs.getD A 0 - c))) G (b8L (xs.set A (xs.getD A 0 - c)) (ys.set A (d + 1)))) := hide fun w' G l => l.set _ _ (b8L_has hx A hA _)
  have HR : Hid (∀ w' G, Loc w' G (b8L (xs.set A (xs.getD A 0 - c)) (ys.set A (d + 1))) → w'.cell? ⟨G, Bt, none⟩ = some (.int .i64 ((xs.set A (xs.getD A 0 - c)).getD Bt 0))) := hide fun w' G l => l.hasAt Bt hB
  have H2 : Hid (∀ w' G, Loc w' G (b8L (xs.set A (xs.getD A 0 - c)) (ys.set A (d + 1))) → Loc (w'.setCell ⟨G, Bt, none⟩ (.int .i64 ((xs.set A (xs.getD A 0 - c)).getD Bt 0 + c))) G (b8L ((xs.set A (xs.getD A 0 - c)).set Bt ((xs.set A (xs.getD A 0 - c)).getD Bt 0 + c)) (ys.set A (d + 1)))) := hide fun w' G l => l.set _ _ (b8L_has (by simpa using hx) Bt hB _)
  have OK := hide fun w => ok_lists (xs := ((xs.set A (xs.getD A 0 - c)).set Bt ((xs.set A (xs.getD A 0 - c)).getD Bt 0 + c))) (ys := (ys.set A (d + 1))) w (by simpa using hx) (by simpa using hy)
  rw [hq] at OK
  unfold b8L at *
  rw [hn] at *
  generalize ((xs.set A (xs.getD A 0 - c)).set Bt ((xs.set A (xs.getD A 0 - c)).getD Bt 0 + c)).getD 0 0 = s0 at *
  generalize ((xs.set A (xs.getD A 0 - c)).set Bt ((xs.set A (xs.getD A 0 - c)).getD Bt 0 + c)).getD 1 0 = s1 at *
  generalize ((xs.set A (xs.getD A 0 - c)).set Bt ((xs.set A (xs.getD A 0 - c)).getD Bt 0 + c)).getD 2 0 = s2 at *
  generalize ((xs.set A (xs.getD A 0 - c)).set Bt ((xs.set A (xs.getD A 0 - c)).getD Bt 0 + c)).getD 3 0 = s3 at *
  generalize (xs.set A (xs.getD A 0 - c)).getD 0 0 = v0 at *
  generalize (xs.set A (xs.getD A 0 - c)).getD 1 0 = v1 at *
  generalize (xs.set A (xs.getD A 0 - c)).getD 2 0 = v2 at *
  generalize (xs.set A (xs.getD A 0 - c)).getD 3 0 = v3 at *
  generalize (xs.set A (xs.getD A 0 - c)).getD Bt 0 = r at *
  generalize xs.getD A 0 = m at *
  generalize (ys.set A (d + 1)).getD 0 0 = z0 at *
  generalize (ys.set A (d + 1)).getD 1 0 = z1 at *
  generalize (ys.set A (d + 1)).getD 2 0 = z2 at *
  generalize (ys.set A (d + 1)).getD 3 0 = z3 at *
  generalize xs.getD 0 0 = x0 at *
  generalize xs.getD 1 0 = x1 at *
  generalize xs.getD 2 0 = x2 at *
  generalize xs.getD 3 0 = x3 at *
  generalize ys.getD 0 0 = y0 at *
  generalize ys.getD 1 0 = y1 at *
  generalize ys.getD 2 0 = y2 at *
  generalize ys.getD 3 0 = y3 at *
  obtain ⟨p0, p1, p2, p3⟩ := T0.cells4
  go_enter Tryd.func41, Tryd.ntmps41
  go_wp2_with fail
  clear hw0
  refine (unhide TO _).mono ?_
  rintro _ w1 ⟨rfl, b1⟩
  have B1 := B0.trans (b1.mono B0.size)
  have T1 := T0.below b1 T0.lt
  have K1 := K0.below b1 K0.lt
  have R1 := R0.below b1 R0.lt
  have c1 := unhide C0 _ b1
  have d1 := unhide D0 _ b1
  clear B0 T0 K0 R0 p0 p1 p2 p3 b1 C0 D0
  obtain ⟨t0, t1, t2, t3⟩ := T1.cells4
  obtain ⟨⟨p0, p1, p2, p3⟩, ⟨p4, p5, p6, p7⟩⟩ := K1.c8
  obtain ⟨⟨q0, q1, q2, q3⟩, ⟨q4, q5, q6, q7⟩⟩ := R1.c8
  have FR := R1.frozen
  have hA1 : (A : Int) < 4 := by omega
  have ho1 : 0 ≤ d ∧ d ≤ 99 := by unfold Ok4 at ho; omega
  have ho2 : 0 ≤ c ∧ c ≤ 1000 := by unfold Ok4 at ho; omega
  clear ho hq
  go_wp2_with fail
  go_quiet (fail)
  go_wp2_with fail
  go_quiet (fail)
  generalize hwd : World.drewN (World.drewN w1 _) _ = w2
  have B2 : Below w.heap.size w w2 := hwd ▸ below_drewN' (below_drewN' B1 _) _
  have T2 : Loc w2 w.heap.size (r4 A Bt c d) := hwd ▸ (T1.drewN _).drewN _
  have K2 : Loc w2 (w.heap.size + 1) (b8 x0 x1 x2 x3 y0 y1 y2 y3) := hwd ▸ (K1.drewN _).drewN _
  have R2 : Loc w2 (w.heap.size + 1 + 1) (b8 0 0 0 0 0 0 0 0) := hwd ▸ (R1.drewN _).drewN _
  clear hwd B1 T1 K1 R1 c1 d1 t0 t1 t2 t3 p0 p1 p2 p3 p4 p5 p6 p7 q0 q1 q2 q3 q4 q5 q6 q7 FR
  have lr := R2.lt
  obtain ⟨w3, hw3⟩ : ∃ w3, w2.alloc (.cells (b8 x0 x1 x2 x3 y0 y1 y2 y3) 89) = w3 := ⟨_, rfl⟩
  have b3 : Below w2.heap.size w2 w3 := hw3 ▸ (Below.refl _ _).alloc (Nat.le_refl _) _
  have A3 : Loc w3 w2.heap.size (b8 x0 x1 x2 x3 y0 y1 y2 y3) := hw3 ▸ loc_at w2 _ _ rfl
  obtain ⟨w4, hw4⟩ : ∃ w4, w3.setCell ⟨w2.heap.size, 4 + A, none⟩ (.int .i64 (d + 1)) = w4 := ⟨_, rfl⟩
  have A4 : Loc w4 w2.heap.size (b8 x0 x1 x2 x3 z0 z1 z2 z3) := hw4 ▸ unhide HS _ _ A3
  have b4 : Below w2.heap.size w2 w4 := hw4 ▸ Below.set b3 _ _ (Nat.le_refl _)
  have T4 := T2.below b4 T2.lt
  have K4 := K2.below b4 K2.lt
  have R4 := R2.below b4 R2.lt
  have B4 := B2.trans (b4.mono B2.size)
  obtain ⟨⟨p0, p1, p2, p3⟩, ⟨p4, p5, p6, p7⟩⟩ := K2.c8
  have n3 := (unhide HN _ _ A3).1
  have FA := A3.frozen
  obtain ⟨t0, t1, t2, t3⟩ := (T2.below b3 T2.lt).cells4
  obtain ⟨u0, u1, u2, u3⟩ := T4.cells4
  have m4 := (unhide HN _ _ K4).2
  clear A3 b3 HN HS
  go_wp2_with fail
  clear hw3 hw4 n3 FA t0 t1 t2 t3 p0 p1 p2 p3 p4 p5 p6 p7
  go_quiet (fail)
  generalize hwd : World.drewN w4 _ = w5
  have B5 : Below w.heap.size w w5 := hwd ▸ below_drewN' B4 _
  have T5 : Loc w5 w.heap.size (r4 A Bt c d) := hwd ▸ T4.drewN _
  have K5 : Loc w5 (w.heap.size + 1) (b8 x0 x1 x2 x3 y0 y1 y2 y3) := hwd ▸ K4.drewN _
  have R5 : Loc w5 (w.heap.size + 1 + 1) (b8 0 0 0 0 0 0 0 0) := hwd ▸ R4.drewN _
  have A5 : Loc w5 w2.heap.size (b8 x0 x1 x2 x3 z0 z1 z2 z3) := hwd ▸ A4.drewN _
  clear hwd B4 T4 K4 R4 A4 u0 u1 u2 u3 m4 T2 K2 R2 B2 b4
  have m5 := unhide HM _ _ A5
  have FA := A5.frozen
  have hB1 : (Bt : Int) < 4 := by omega
  have wr1 : IntKind.i64.wrap (m - c) = m - c := by rw [IntKind.wrap_i64]; omega
  have wr2 : IntKind.i64.wrap (r + c) = r + c := by rw [IntKind.wrap_i64]; omega
  obtain ⟨w6, hw6⟩ : ∃ w6, (w5.setCell ⟨w2.heap.size, A, none⟩ (.int .i64 (m - c))).drew = w6 := ⟨_, rfl⟩
  have A6 : Loc w6 w2.heap.size (b8 v0 v1 v2 v3 z0 z1 z2 z3) := hw6 ▸ unhide H1 _ _ A5
  have T6 : Loc w6 w.heap.size (r4 A Bt c d) := hw6 ▸ T5.other (by simp; omega) _
  have K6 : Loc w6 (w.heap.size + 1) (b8 x0 x1 x2 x3 y0 y1 y2 y3) := hw6 ▸ K5.other (by simp; omega) _
  have R6 : Loc w6 (w.heap.size + 1 + 1) (b8 0 0 0 0 0 0 0 0) := hw6 ▸ R5.other (by simp; omega) _
  have B6 : Below w.heap.size w w6 := hw6 ▸ Below.drew (Below.set B5 _ _ (by omega))
  go_wp2_with fail
  refine wp_region_noPanic ?_
  refine wp_region_held_drew (S := (fun w' => (w'.cell? ⟨w.heap.size, 0, none⟩ = some (.int .i64 A) ∧ w'.cell? ⟨w.heap.size, 1, none⟩ = some (.int .i64 Bt)) ∧ w'.cell? ⟨w.heap.size, 2, none⟩ = some (.int .i64 c))) (by kernel_rfl) ⟨⟨T5.cell 0 rfl, T5.cell 1 rfl⟩, T5.cell 2 rfl⟩ (fun hHeld => ?_)
  refine take_at (i := 0) (d := 47) (v := ?_) rfl rfl (by kernel_rfl) (by kernel_rfl) (by kernel_rfl) (fun _ _ _ h => h) (Or.inl ⟨by rfl, ?_⟩) (by assumption) ?_
  rotate_left
  · intro w hSw
    try dsimp only at hSw
    go_simp
    try with_reducible rfl
  simp only [Act.put, List.setIfInBounds_toArray, List.set_cons_zero, List.set_cons_succ]
  refine take_at (i := 1) (d := 48) (v := ?_) rfl rfl (by kernel_rfl) (by kernel_rfl) (by kernel_rfl) (fun _ _ _ h => h) (Or.inl ⟨by rfl, ?_⟩) (by assumption) ?_
  rotate_left
  · intro w hSw
    try dsimp only at hSw
    go_simp
    try with_reducible rfl
  simp only [Act.put, List.setIfInBounds_toArray, List.set_cons_zero, List.set_cons_succ]
  refine take_at (i := 2) (d := 49) (v := ?_) rfl rfl (by kernel_rfl) (by kernel_rfl) (by kernel_rfl) (fun _ _ _ h => h) (Or.inl ⟨by rfl, ?_⟩) (by assumption) ?_
  rotate_left
  · intro w hSw
    try dsimp only at hSw
    go_simp
    try with_reducible rfl
  simp only [Act.put, List.setIfInBounds_toArray, List.set_cons_zero, List.set_cons_succ]
  refine take_at (i := 3) (d := 50) (v := ?_) rfl rfl (by kernel_rfl) (by kernel_rfl) (by kernel_rfl) (fun _ _ _ h => h) (Or.inl ⟨by rfl, ?_⟩) (by assumption) ?_
  rotate_left
  · intro w hSw
    try dsimp only at hSw
    go_simp
    try with_reducible rfl
  simp only [Act.put, List.setIfInBounds_toArray, List.set_cons_zero, List.set_cons_succ]
  refine take_at (i := 5) (d := 52) (v := ?_) rfl rfl (by kernel_rfl) (by kernel_rfl) (by kernel_rfl) (fun _ _ _ h => h) (Or.inl ⟨by rfl, ?_⟩) (by assumption) ?_
  rotate_left
  · intro w hSw
    try dsimp only at hSw
    go_simp
    try with_reducible rfl
  simp only [Act.put, List.setIfInBounds_toArray, List.set_cons_zero, List.set_cons_succ]
  refine take_at (i := 6) (d := 53) (v := ?_) rfl rfl (by kernel_rfl) (by kernel_rfl) (by kernel_rfl) (fun _ _ _ h => h) (Or.inl ⟨by rfl, ?_⟩) (by assumption) ?_
  rotate_left
  · intro w hSw
    try dsimp only at hSw
    go_simp
    try with_reducible rfl
  simp only [Act.put, List.setIfInBounds_toArray, List.set_cons_zero, List.set_cons_succ]
  refine take_at (i := 8) (d := 55) (v := ?_) rfl rfl (by kernel_rfl) (by kernel_rfl) (by kernel_rfl) (fun _ _ _ h => h) (Or.inl ⟨by rfl, ?_⟩) (by assumption) ?_
  rotate_left
  · intro w hSw
    try dsimp only at hSw
    go_simp
    try with_reducible rfl
  simp only [Act.put, List.setIfInBounds_toArray, List.set_cons_zero, List.set_cons_succ]
  refine ready_at (i := 4) rfl (by kernel_rfl) (fun KK hKK => ?_)
  go_simp
  clear hHeld
  refine hKK.out _ _ ⟨⟨T5.cell 0 rfl, T5.cell 1 rfl⟩, T5.cell 2 rfl⟩ (fun hHeld => ?_)
  clear hKK KK
  refine take_at (i := 7) (d := 54) (v := ?_) rfl rfl (by kernel_rfl) (by kernel_rfl) (by kernel_rfl) (fun _ _ _ h => h) (Or.inl ⟨by rfl, ?_⟩) (by assumption) ?_
  rotate_left
  · intro w hSw
    try dsimp only at hSw
    go_simp
    try with_reducible rfl
  simp only [Act.put, List.setIfInBounds_toArray, List.set_cons_zero, List.set_cons_succ]
  refine take_at (i := 9) (d := 56) (v := ?_) rfl rfl (by kernel_rfl) (by kernel_rfl) (by kernel_rfl) (fun _ _ _ h => h) (Or.inl ⟨by rfl, ?_⟩) (by assumption) ?_
  rotate_left
  · intro w hSw
    try dsimp only at hSw
    go_simp
    try with_reducible rfl
  simp only [Act.put, List.setIfInBounds_toArray, List.set_cons_zero, List.set_cons_succ]
  refine ready_at (i := 10) rfl (by kernel_rfl) (fun KK hKK => ?_)
  go_simp
  clear hHeld
  refine hKK.out _ _ ⟨⟨T6.cell 0 rfl, T6.cell 1 rfl⟩, T6.cell 2 rfl⟩ (fun hHeld => ?_)
  clear hKK KK
  clear hHeld hw6 m5 FA
  refine wpAnyH_done (by kernel_rfl) ?_ _
  refine NoPanic.normal ?_
  clear A5 T5 K5 R5 B5 HM H1
  have r6 := unhide HR _ _ A6
  have FA := A6.frozen
  obtain ⟨w7, hw7⟩ : ∃ w7, (w6.setCell ⟨w2.heap.size, Bt, none⟩ (.int .i64 (r + c))).drew = w7 := ⟨_, rfl⟩
  have A7 : Loc w7 w2.heap.size (b8 s0 s1 s2 s3 z0 z1 z2 z3) := hw7 ▸ unhide H2 _ _ A6
  have T7 : Loc w7 w.heap.size (r4 A Bt c d) := hw7 ▸ T6.other (by simp; omega) _
  have K7 : Loc w7 (w.heap.size + 1) (b8 x0 x1 x2 x3 y0 y1 y2 y3) := hw7 ▸ K6.other (by simp; omega) _
  have R7 : Loc w7 (w.heap.size + 1 + 1) (b8 0 0 0 0 0 0 0 0) := hw7 ▸ R6.other (by simp; omega) _
  have B7 : Below w.heap.size w w7 := hw7 ▸ Below.drew (Below.set B6 _ _ (by omega))
  go_wp2_with fail
  refine wp_region_noPanic ?_
  refine wp_region_held_drew (S := (fun w' => (w'.cell? ⟨w.heap.size, 0, none⟩ = some (.int .i64 A) ∧ w'.cell? ⟨w.heap.size, 1, none⟩ = some (.int .i64 Bt)) ∧ w'.cell? ⟨w.heap.size, 2, none⟩ = some (.int .i64 c))) (by kernel_rfl) ⟨⟨T6.cell 0 rfl, T6.cell 1 rfl⟩, T6.cell 2 rfl⟩ (fun hHeld => ?_)
  refine take_at (i := 0) (d := 57) (v := ?_) rfl rfl (by kernel_rfl) (by kernel_rfl) (by kernel_rfl) (fun _ _ _ h => h) (Or.inl ⟨by rfl, ?_⟩) (by assumption) ?_
  rotate_left
  · intro w hSw
    try dsimp only at hSw
    go_simp
    try with_reducible rfl
  simp only [Act.put, List.setIfInBounds_toArray, List.set_cons_zero, List.set_cons_succ]
  refine take_at (i := 1) (d := 58) (v := ?_) rfl rfl (by kernel_rfl) (by kernel_rfl) (by kernel_rfl) (fun _ _ _ h => h) (Or.inl ⟨by rfl, ?_⟩) (by assumption) ?_
  rotate_left
  · intro w hSw
    try dsimp only at hSw
    go_simp
    try with_reducible rfl
  simp only [Act.put, List.setIfInBounds_toArray, List.set_cons_zero, List.set_cons_succ]
  refine take_at (i := 2) (d := 59) (v := ?_) rfl rfl (by kernel_rfl) (by kernel_rfl) (by kernel_rfl) (fun _ _ _ h => h) (Or.inl ⟨by rfl, ?_⟩) (by assumption) ?_
  rotate_left
  · intro w hSw
    try dsimp only at hSw
    go_simp
    try with_reducible rfl
  simp only [Act.put, List.setIfInBounds_toArray, List.set_cons_zero, List.set_cons_succ]
  refine take_at (i := 3) (d := 60) (v := ?_) rfl rfl (by kernel_rfl) (by kernel_rfl) (by kernel_rfl) (fun _ _ _ h => h) (Or.inl ⟨by rfl, ?_⟩) (by assumption) ?_
  rotate_left
  · intro w hSw
    try dsimp only at hSw
    go_simp
    try with_reducible rfl
  simp only [Act.put, List.setIfInBounds_toArray, List.set_cons_zero, List.set_cons_succ]
  refine take_at (i := 5) (d := 62) (v := ?_) rfl rfl (by kernel_rfl) (by kernel_rfl) (by kernel_rfl) (fun _ _ _ h => h) (Or.inl ⟨by rfl, ?_⟩) (by assumption) ?_
  rotate_left
  · intro w hSw
    try dsimp only at hSw
    go_simp
    try with_reducible rfl
  simp only [Act.put, List.setIfInBounds_toArray, List.set_cons_zero, List.set_cons_succ]
  refine take_at (i := 6) (d := 63) (v := ?_) rfl rfl (by kernel_rfl) (by kernel_rfl) (by kernel_rfl) (fun _ _ _ h => h) (Or.inl ⟨by rfl, ?_⟩) (by assumption) ?_
  rotate_left
  · intro w hSw
    try dsimp only at hSw
    go_simp
    try with_reducible rfl
  simp only [Act.put, List.setIfInBounds_toArray, List.set_cons_zero, List.set_cons_succ]
  refine take_at (i := 8) (d := 65) (v := ?_) rfl rfl (by kernel_rfl) (by kernel_rfl) (by kernel_rfl) (fun _ _ _ h => h) (Or.inl ⟨by rfl, ?_⟩) (by assumption) ?_
  rotate_left
  · intro w hSw
    try dsimp only at hSw
    go_simp
    try with_reducible rfl
  simp only [Act.put, List.setIfInBounds_toArray, List.set_cons_zero, List.set_cons_succ]
  refine ready_at (i := 4) rfl (by kernel_rfl) (fun KK hKK => ?_)
  go_simp
  clear hHeld
  refine hKK.out _ _ ⟨⟨T6.cell 0 rfl, T6.cell 1 rfl⟩, T6.cell 2 rfl⟩ (fun hHeld => ?_)
  clear hKK KK
  refine take_at (i := 7) (d := 64) (v := ?_) rfl rfl (by kernel_rfl) (by kernel_rfl) (by kernel_rfl) (fun _ _ _ h => h) (Or.inl ⟨by rfl, ?_⟩) (by assumption) ?_
  rotate_left
  · intro w hSw
    try dsimp only at hSw
    go_simp
    try with_reducible rfl
  simp only [Act.put, List.setIfInBounds_toArray, List.set_cons_zero, List.set_cons_succ]
  refine take_at (i := 9) (d := 66) (v := ?_) rfl rfl (by kernel_rfl) (by kernel_rfl) (by kernel_rfl) (fun _ _ _ h => h) (Or.inl ⟨by rfl, ?_⟩) (by assumption) ?_
  rotate_left
  · intro w hSw
    try dsimp only at hSw
    go_simp
    try with_reducible rfl
  simp only [Act.put, List.setIfInBounds_toArray, List.set_cons_zero, List.set_cons_succ]
  refine ready_at (i := 10) rfl (by kernel_rfl) (fun KK hKK => ?_)
  go_simp
  clear hHeld
  refine hKK.out _ _ ⟨⟨T7.cell 0 rfl, T7.cell 1 rfl⟩, T7.cell 2 rfl⟩ (fun hHeld => ?_)
  clear hKK KK
  clear hHeld hw7 r6 FA
  refine wpAnyH_done (by kernel_rfl) ?_ _
  refine NoPanic.normal ?_
  clear A6 T6 K6 R6 B6 HR H2 T7
  obtain ⟨⟨p0, p1, p2, p3⟩, ⟨p4, p5, p6, p7⟩⟩ := A7.c8
  go_wp2_with fail
  refine (unhide OK _).mono ?_
  rintro _ w8 ⟨rfl, b8⟩
  have A8 := A7.below b8 A7.lt
  have K8 := K7.below b8 K7.lt
  have R8 := R7.below b8 R7.lt
  have B8 := B7.trans (b8.mono B7.size)
  clear p0 p1 p2 p3 p4 p5 p6 p7 A7 K7 R7 B7 b8 OK
  obtain ⟨⟨q0, q1, q2, q3⟩, ⟨q4, q5, q6, q7⟩⟩ := R8.c8
  have FR := R8.frozen
  obtain ⟨⟨p0, p1, p2, p3⟩, ⟨p4, p5, p6, p7⟩⟩ := K8.c8
  go_wp2
  refine bodyPost_ret (v := .tuple #[bv x0 x1 x2 x3 y0 y1 y2 y3, .int .i64 1]) (by simp [results, Tryd.results41, go_sem, q0, q1, q2, q3, q4, q5, q6, q7]) rfl ?_
  exact ⟨rfl, put8_below B8 (by omega) _ _ _ _ _ _ _ _⟩
end Go.Proofs.YthdehhenkgkkmaaDoor

/- (impl.Tx).paid of a right book. -/
namespace Go.Proofs.YthdehhenkgkkmaaDoor
open Go.RowKit
set_option linter.unusedSectionVars false
variable [∀ (a b c d : Int), Decidable (Ok4 a b c d)]
variable [∀ (m a b c d : Int), Decidable (In4 m a b c d)]
variable [∀ (xs ys : List Int), Decidable (LOk xs ys)]

theorem paid_any (a b c d : Int) (xs ys : List Int) (w : World) (hl : LOk xs ys) :
    Calls Tryd.prog 41 #[txv a b c d, .agg (b8L xs ys)] w fun o w' => o = .returned (.tuple #[.agg (b8L (paidB xs ys a b c d).1 (paidB xs ys a b c d).2.1), .int .i64 (paidB xs ys a b c d).2.2]) ∧ Below w.heap.size w w' := by
  have hx := hl.1
  have hy := hl.2.1
  by_cases ho : Ok4 a b c d
  · obtain ⟨A, rfl⟩ : ∃ A : Nat, a = A := ⟨a.toNat, by unfold Ok4 at ho; omega⟩
    obtain ⟨B, rfl⟩ : ∃ B : Nat, b = B := ⟨b.toNat, by unfold Ok4 at ho; omega⟩
    have hA : A < 4 := by unfold Ok4 at ho; omega
    have hB : B < 4 := by unfold Ok4 at ho; omega
    have hc : 0 ≤ c ∧ c ≤ 1000 := by unfold Ok4 at ho; omega
    unfold paidB
    rw [if_neg (by simpa using ho), Int.toNat_natCast, Int.toNat_natCast]
    by_cases h1 : d < ys.getD A 0
    · rw [if_pos h1]; exact paid_old A B c d xs ys w hA ho h1
    · rw [if_neg h1]
      by_cases h2 : ys.getD A 0 < d
      · rw [if_pos h2]; exact paid_early A B c d xs ys w hA ho h2
      · rw [if_neg h2]
        have hn : ys.getD A 0 = d := by omega
        by_cases h3 : xs.getD A 0 < c
        · rw [if_pos h3]; exact paid_poor A B c d xs ys w hA hy ho hn h3
        · rw [if_neg h3]
          have hmA := (hl.2.2 A hA).1
          have hmB := (hl.2.2 B hB).1
          have hr : 0 ≤ (xs.set A (xs.getD A 0 - c)).getD B 0 ∧ (xs.set A (xs.getD A 0 - c)).getD B 0 ≤ 400 := by
            rw [getD_set (by omega)]; split <;> omega
          by_cases h4 : LOk ((xs.set A (xs.getD A 0 - c)).set B ((xs.set A (xs.getD A 0 - c)).getD B 0 + c)) (ys.set A (d + 1))
          · rw [if_pos h4]; exact paid_done A B c d xs ys w hA hB hx hy ho hn (by omega) (by omega) hr (decide_eq_true h4)
          · rw [if_neg h4]; exact paid_over A B c d xs ys w hA hB hx hy ho hn (by omega) (by omega) hr (decide_eq_false h4)
  · unfold paidB
    rw [if_pos (by simpa using ho)]
    exact paid_bad a b c d xs ys w ho
end Go.Proofs.YthdehhenkgkkmaaDoor

/- Payments one behind the other; lists of payments as function values. -/
namespace Go.Proofs.YthdehhenkgkkmaaDoor
open Go.RowKit
set_option linter.unusedSectionVars false
variable [∀ (a b c d : Int), Decidable (Ok4 a b c d)]
variable [∀ (m a b c d : Int), Decidable (In4 m a b c d)]
variable [∀ (xs ys : List Int), Decidable (LOk xs ys)]

/-- A payment's four numbers. -/
abbrev T4 := Int × Int × Int × Int
/-- One payment more. -/
def payStep (p : List Int × List Int × List Int) (t : T4) : List Int × List Int × List Int :=
  ((paidB p.1 p.2.1 t.1 t.2.1 t.2.2.1 t.2.2.2).1, (paidB p.1 p.2.1 t.1 t.2.1 t.2.2.1 t.2.2.2).2.1, p.2.2 ++ [(paidB p.1 p.2.1 t.1 t.2.1 t.2.2.1 t.2.2.2).2.2])
/-- Payments of a right ledger. -/
def payRun (xs ys : List Int) (ts : List T4) : List Int × List Int × List Int := ts.foldl payStep (xs, ys, [])
theorem payRun_succ (xs ys : List Int) (ts : List T4) (k : Nat) (h : k < ts.length) : payRun xs ys (ts.take (k + 1)) = payStep (payRun xs ys (ts.take k)) (ts.getD k (0, 0, 0, 0)) := by
  unfold payRun
  rw [List.take_succ_eq_append_getElem h, List.getD_eq_getElem?_getD, List.getElem?_eq_getElem h, List.foldl_append]
  rfl
theorem payRun_inv (xs ys : List Int) (ts : List T4) (hl : LOk xs ys) (k : Nat) (h : k ≤ ts.length) : LOk (payRun xs ys (ts.take k)).1 (payRun xs ys (ts.take k)).2.1 ∧ (payRun xs ys (ts.take k)).2.2.length = k := by
  induction k with
  | zero => simp [payRun, hl]
  | succ k ih =>
    obtain ⟨h1, h2⟩ := ih (by omega)
    rw [payRun_succ xs ys ts k (by omega)]
    exact ⟨paidB_ok h1, by simp [payStep, h2]⟩
/-- What PayAll answers. -/
def eachAns (xs ys : List Int) (ts : List T4) : List Int × List Int × List Int := if LOk xs ys then payRun xs ys ts else (xs, ys, List.replicate ts.length 1)

/-- A payment as a function value. -/
abbrev pfun (t : T4) : Value := .func (.func 41) #[txv t.1 t.2.1 t.2.2.1 t.2.2.2] #[]
/-- v reads as the payments ts, as function values. -/
def RP (w : World) (v : Value) (ts : List T4) : Prop :=
  ts.length ≤ 4194304 ∧ ∃ ao cap, v = .slice ao ts.length cap ∧ (ts = [] ∨ ∃ b off, ao = some ⟨b, off, none⟩ ∧ ∀ k, k < ts.length → w.cell? ⟨b, off + k, none⟩ = some (pfun (ts.getD k (0, 0, 0, 0))))
theorem RP.below {w w' : World} {B : Nat} {v : Value} {ts : List T4} (h : RP w v ts) (hb : Below B w w') (hB : w.heap.size ≤ B) : RP w' v ts := by
  obtain ⟨hl, ao, cap, rfl, h⟩ := h
  refine ⟨hl, ao, cap, rfl, ?_⟩
  rcases h with h | ⟨b, off, rfl, h⟩
  · exact .inl h
  · refine .inr ⟨b, off, rfl, fun k hk => ?_⟩
    have := h k hk
    exact (hb.cell (Nat.lt_of_lt_of_le (cell_lt this) hB)).trans this
/-- The codes so far, and noughts. -/
def chalf (cs : List Int) (n : Nat) : List Value := (cs ++ List.replicate (n - cs.length) 0).map (Value.int .i64)
theorem chalf_len (cs : List Int) (n : Nat) (h : cs.length ≤ n) : (chalf cs n).length = n := by simp [chalf]; omega
theorem chalf_zero (n : Nat) : chalf [] n = List.replicate n (.int .i64 0) := by simp [chalf]
theorem chalf_all (cs : List Int) : chalf cs cs.length = cs.map (Value.int .i64) := by simp [chalf]
theorem chalf_set (cs : List Int) (n k : Nat) (c : Int) (hk : cs.length = k) (h : k < n) : (chalf cs n).set k (.int .i64 c) = chalf (cs ++ [c]) n := by
  unfold chalf
  have e : n - cs.length = (n - (cs ++ [c]).length) + 1 := by simp; omega
  rw [e, List.replicate_succ, List.map_append, List.map_append, List.map_append, List.set_append_right _ _ (by simp; omega), List.length_map, hk, Nat.sub_self]
  simp
end Go.Proofs.YthdehhenkgkkmaaDoor
