/- (impl.Tx).paid: a payment and a book. -/
import Derived.Test.YtlglekfmiacdnaaPayPlain
namespace Go.Proofs.Ytlglekfmiacdnaa
open Go.RowKit
set_option linter.unusedSectionVars false
variable [∀ (m a b c d : Int), Decidable (In4 m a b c d)]
variable [∀ (xs ys : List Int), Decidable (LOk xs ys)]
variable [∀ (a b c d : Int), Decidable (Ok4 a b c d)]

set_option maxHeartbeats 4000000 in
set_option maxRecDepth 100000 in
theorem paid_bad (a b c d : Int) (xs ys : List Int) (w : World) (h : ¬ Ok4 a b c d) :
    Calls Try.prog 42 #[txv a b c d, .agg (b8L xs ys)] w fun o w' => o = .returned (.tuple #[.agg (b8L xs ys), .int .i64 1]) ∧ Below w.heap.size w w' := by
  have TO := hide fun w => implTxOk_no a b c d w h
  clear h
  unfold b8L
  generalize xs.getD 0 0 = x0 at *
  generalize xs.getD 1 0 = x1 at *
  generalize xs.getD 2 0 = x2 at *
  generalize xs.getD 3 0 = x3 at *
  generalize ys.getD 0 0 = y0 at *
  generalize ys.getD 1 0 = y1 at *
  generalize ys.getD 2 0 = y2 at *
  generalize ys.getD 3 0 = y3 at *
  obtain ⟨w0, hw0⟩ : ∃ w0, ((w.alloc (.cells (r4 a b c d) 33)).alloc (.cells (b8 x0 x1 x2 x3 y0 y1 y2 y3) 73)).alloc (.cells (b8 0 0 0 0 0 0 0 0) 73) = w0 := ⟨_, rfl⟩
  have B0 : Below w.heap.size w w0 := hw0 ▸ (((Below.refl w.heap.size w).alloc (Nat.le_refl _) _).alloc (by simp) _).alloc (by simp; omega) _
  have T0 : Loc w0 w.heap.size (r4 a b c d) := hw0 ▸ ((loc_at w _ _ rfl).alloc _).alloc _
  have K0 : Loc w0 (w.heap.size + 1) (b8 x0 x1 x2 x3 y0 y1 y2 y3) := hw0 ▸ (loc_at _ _ _ (by simp)).alloc _
  have R0 : Loc w0 (w.heap.size + 1 + 1) (b8 0 0 0 0 0 0 0 0) := hw0 ▸ loc_at _ _ _ (by simp)
  obtain ⟨p0, p1, p2, p3⟩ := T0.cells4
  go_enter Try.func42, Try.ntmps42
  go_wp2_with fail
  clear hw0
  refine (unhide TO _).mono ?_
  rintro _ w1 ⟨rfl, b1⟩
  have B1 := B0.trans (b1.mono B0.size)
  have K1 := K0.below b1 K0.lt
  have R1 := R0.below b1 R0.lt
  clear B0 T0 K0 R0 p0 p1 p2 p3 b1
  obtain ⟨⟨p0, p1, p2, p3⟩, ⟨p4, p5, p6, p7⟩⟩ := K1.c8
  obtain ⟨⟨q0, q1, q2, q3⟩, ⟨q4, q5, q6, q7⟩⟩ := R1.c8
  have FR := R1.frozen
  go_wp2
  refine bodyPost_ret (v := .tuple #[bv x0 x1 x2 x3 y0 y1 y2 y3, .int .i64 1]) (by simp [results, Try.results42, go_sem, q0, q1, q2, q3, q4, q5, q6, q7]) rfl ?_
  exact ⟨rfl, put8_below B1 (by omega) _ _ _ _ _ _ _ _⟩

set_option maxHeartbeats 8000000 in
set_option maxRecDepth 100000 in
theorem paid_old (A : Nat) (b c d : Int) (xs ys : List Int) (w : World) (hA : A < 4) (ho : Ok4 A b c d) (h : d < ys.getD A 0) :
    Calls Try.prog 42 #[txv A b c d, .agg (b8L xs ys)] w fun o w' => o = .returned (.tuple #[.agg (b8L xs ys), .int .i64 2]) ∧ Below w.heap.size w w' := by
  have TO := hide fun w => implTxOk_yes A b c d w ho
  obtain ⟨w0, hw0⟩ : ∃ w0, ((w.alloc (.cells (r4 A b c d) 33)).alloc (.cells (b8L xs ys) 73)).alloc (.cells (b8 0 0 0 0 0 0 0 0) 73) = w0 := ⟨_, rfl⟩
  have B0 : Below w.heap.size w w0 := hw0 ▸ (((Below.refl w.heap.size w).alloc (Nat.le_refl _) _).alloc (by simp) _).alloc (by simp; omega) _
  have T0 : Loc w0 w.heap.size (r4 A b c d) := hw0 ▸ ((loc_at w _ _ rfl).alloc _).alloc _
  have K0 : Loc w0 (w.heap.size + 1) (b8L xs ys) := hw0 ▸ (loc_at _ _ _ (by simp)).alloc _
  have R0 : Loc w0 (w.heap.size + 1 + 1) (b8 0 0 0 0 0 0 0 0) := hw0 ▸ loc_at _ _ _ (by simp)
  have C0 := hide fun w' (hb : Below w0.heap.size w0 w') => (K0.below hb K0.lt).nextAt A hA
  have D0 := hide fun w' (hb : Below w0.heap.size w0 w') => (K0.below hb K0.lt).hasAt A hA
  unfold b8L at *
  generalize ys.getD A 0 = n at *
  generalize xs.getD A 0 = m at *
  generalize xs.getD 0 0 = x0 at *
  generalize xs.getD 1 0 = x1 at *
  generalize xs.getD 2 0 = x2 at *
  generalize xs.getD 3 0 = x3 at *
  generalize ys.getD 0 0 = y0 at *
  generalize ys.getD 1 0 = y1 at *
  generalize ys.getD 2 0 = y2 at *
  generalize ys.getD 3 0 = y3 at *
  obtain ⟨p0, p1, p2, p3⟩ := T0.cells4
  go_enter Try.func42, Try.ntmps42
  go_wp2_with fail
  clear hw0
  refine (unhide TO _).mono ?_
  rintro _ w1 ⟨rfl, b1⟩
  have B1 := B0.trans (b1.mono B0.size)
  have T1 := T0.below b1 T0.lt
  have K1 := K0.below b1 K0.lt
  have R1 := R0.below b1 R0.lt
  have c1 := unhide C0 _ b1
  have d1 := unhide D0 _ b1
  clear B0 T0 K0 R0 p0 p1 p2 p3 b1 C0 D0
  obtain ⟨t0, t1, t2, t3⟩ := T1.cells4
  obtain ⟨⟨p0, p1, p2, p3⟩, ⟨p4, p5, p6, p7⟩⟩ := K1.c8
  obtain ⟨⟨q0, q1, q2, q3⟩, ⟨q4, q5, q6, q7⟩⟩ := R1.c8
  have FR := R1.frozen
  have hA1 : (A : Int) < 4 := by omega
  go_wp2_with fail
  go_quiet (fail)
  go_wp2
  refine bodyPost_ret (v := .tuple #[bv x0 x1 x2 x3 y0 y1 y2 y3, .int .i64 2]) (by simp [results, Try.results42, go_sem, q0, q1, q2, q3, q4, q5, q6, q7]) rfl ?_
  exact ⟨rfl, put8_below (below_drewN' B1 _) (by omega) _ _ _ _ _ _ _ _⟩

set_option maxHeartbeats 8000000 in
set_option maxRecDepth 100000 in
theorem paid_early (A : Nat) (b c d : Int) (xs ys : List Int) (w : World) (hA : A < 4) (ho : Ok4 A b c d) (h : ys.getD A 0 < d) :
    Calls Try.prog 42 #[txv A b c d, .agg (b8L xs ys)] w fun o w' => o = .returned (.tuple #[.agg (b8L xs ys), .int .i64 3]) ∧ Below w.heap.size w w' := by
  have TO := hide fun w => implTxOk_yes A b c d w ho
  obtain ⟨w0, hw0⟩ : ∃ w0, ((w.alloc (.cells (r4 A b c d) 33)).alloc (.cells (b8L xs ys) 73)).alloc (.cells (b8 0 0 0 0 0 0 0 0) 73) = w0 := ⟨_, rfl⟩
  have B0 : Below w.heap.size w w0 := hw0 ▸ (((Below.refl w.heap.size w).alloc (Nat.le_refl _) _).alloc (by simp) _).alloc (by simp; omega) _
  have T0 : Loc w0 w.heap.size (r4 A b c d) := hw0 ▸ ((loc_at w _ _ rfl).alloc _).alloc _
  have K0 : Loc w0 (w.heap.size + 1) (b8L xs ys) := hw0 ▸ (loc_at _ _ _ (by simp)).alloc _
  have R0 : Loc w0 (w.heap.size + 1 + 1) (b8 0 0 0 0 0 0 0 0) := hw0 ▸ loc_at _ _ _ (by simp)
  have C0 := hide fun w' (hb : Below w0.heap.size w0 w') => (K0.below hb K0.lt).nextAt A hA
  have D0 := hide fun w' (hb : Below w0.heap.size w0 w') => (K0.below hb K0.lt).hasAt A hA
  unfold b8L at *
  generalize ys.getD A 0 = n at *
  generalize xs.getD A 0 = m at *
  generalize xs.getD 0 0 = x0 at *
  generalize xs.getD 1 0 = x1 at *
  generalize xs.getD 2 0 = x2 at *
  generalize xs.getD 3 0 = x3 at *
  generalize ys.getD 0 0 = y0 at *
  generalize ys.getD 1 0 = y1 at *
  generalize ys.getD 2 0 = y2 at *
  generalize ys.getD 3 0 = y3 at *
  obtain ⟨p0, p1, p2, p3⟩ := T0.cells4
  go_enter Try.func42, Try.ntmps42
  go_wp2_with fail
  clear hw0
  refine (unhide TO _).mono ?_
  rintro _ w1 ⟨rfl, b1⟩
  have B1 := B0.trans (b1.mono B0.size)
  have T1 := T0.below b1 T0.lt
  have K1 := K0.below b1 K0.lt
  have R1 := R0.below b1 R0.lt
  have c1 := unhide C0 _ b1
  have d1 := unhide D0 _ b1
  clear B0 T0 K0 R0 p0 p1 p2 p3 b1 C0 D0
  obtain ⟨t0, t1, t2, t3⟩ := T1.cells4
  obtain ⟨⟨p0, p1, p2, p3⟩, ⟨p4, p5, p6, p7⟩⟩ := K1.c8
  obtain ⟨⟨q0, q1, q2, q3⟩, ⟨q4, q5, q6, q7⟩⟩ := R1.c8
  have FR := R1.frozen
  have hA1 : (A : Int) < 4 := by omega
  have h' : ¬ d < n := by omega
  go_wp2_with fail
  go_quiet (fail)
  go_wp2_with fail
  go_quiet (fail)
  go_wp2
  refine bodyPost_ret (v := .tuple #[bv x0 x1 x2 x3 y0 y1 y2 y3, .int .i64 3]) (by simp [results, Try.results42, go_sem, q0, q1, q2, q3, q4, q5, q6, q7]) rfl ?_
  exact ⟨rfl, put8_below (below_drewN' B1 _) (by omega) _ _ _ _ _ _ _ _⟩
end Go.Proofs.Ytlglekfmiacdnaa
