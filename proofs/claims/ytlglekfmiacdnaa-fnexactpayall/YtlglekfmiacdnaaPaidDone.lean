/- (impl.Tx).paid: a payment that is paid. -/
import Derived.Test.YtlglekfmiacdnaaPaidPoor
namespace Go.Proofs.Ytlglekfmiacdnaa
open Go.RowKit
set_option linter.unusedSectionVars false
variable [∀ (m a b c d : Int), Decidable (In4 m a b c d)]
variable [∀ (xs ys : List Int), Decidable (LOk xs ys)]
variable [∀ (a b c d : Int), Decidable (Ok4 a b c d)]

theorem ok_lists {xs ys : List Int} (w : World) (hx : xs.length = 4) (hy : ys.length = 4) :
    Calls Try.prog 57 #[.agg (b8L xs ys)] w fun o w' => o = .returned (.bool (decide (LOk xs ys))) ∧ Below w.heap.size w w' := by
  obtain ⟨a, b, c, d, rfl⟩ := four_of hx
  obtain ⟨e, f, g, h, rfl⟩ := four_of hy
  simp only [lok_four]
  exact ok_any a b c d e f g h w

set_option maxHeartbeats 16000000 in
set_option maxRecDepth 100000 in
theorem paid_done (A Bt : Nat) (c d : Int) (xs ys : List Int) (w : World) (hA : A < 4) (hB : Bt < 4) (hx : xs.length = 4) (hy : ys.length = 4) (ho : Ok4 A Bt c d) (hn : ys.getD A 0 = d) (h : c ≤ xs.getD A 0) (hm : xs.getD A 0 ≤ 400) (hr : 0 ≤ (xs.set A (xs.getD A 0 - c)).getD Bt 0 ∧ (xs.set A (xs.getD A 0 - c)).getD Bt 0 ≤ 400)
    (hq : decide (LOk ((xs.set A (xs.getD A 0 - c)).set Bt ((xs.set A (xs.getD A 0 - c)).getD Bt 0 + c)) (ys.set A (d + 1))) = true) :
    Calls Try.prog 42 #[txv A Bt c d, .agg (b8L xs ys)] w fun o w' => o = .returned (.tuple #[.agg (b8L ((xs.set A (xs.getD A 0 - c)).set Bt ((xs.set A (xs.getD A 0 - c)).getD Bt 0 + c)) (ys.set A (d + 1))), .int .i64 0]) ∧ Below w.heap.size w w' := by
  have TO := hide fun w => implTxOk_yes A Bt c d w ho
  obtain ⟨w0, hw0⟩ : ∃ w0, ((w.alloc (.cells (r4 A Bt c d) 33)).alloc (.cells (b8L xs ys) 73)).alloc (.cells (b8 0 0 0 0 0 0 0 0) 73) = w0 := ⟨_, rfl⟩
  have B0 : Below w.heap.size w w0 := hw0 ▸ (((Below.refl w.heap.size w).alloc (Nat.le_refl _) _).alloc (by simp) _).alloc (by simp; omega) _
  have T0 : Loc w0 w.heap.size (r4 A Bt c d) := hw0 ▸ ((loc_at w _ _ rfl).alloc _).alloc _
  have K0 : Loc w0 (w.heap.size + 1) (b8L xs ys) := hw0 ▸ (loc_at _ _ _ (by simp)).alloc _
  have R0 : Loc w0 (w.heap.size + 1 + 1) (b8 0 0 0 0 0 0 0 0) := hw0 ▸ loc_at _ _ _ (by simp)
  have C0 := hide fun w' (hb : Below w0.heap.size w0 w') => (K0.below hb K0.lt).nextAt A hA
  have D0 := hide fun w' (hb : Below w0.heap.size w0 w') => (K0.below hb K0.lt).hasAt A hA
  have HN : Hid (∀ w' G, Loc w' G (b8L xs ys) → w'.cell? ⟨G, 4 + A, none⟩ = some (.int .i64 (ys.getD A 0)) ∧ w'.cell? ⟨G, A, none⟩ = some (.int .i64 (xs.getD A 0))) := hide fun w' G l => ⟨l.nextAt A hA, l.hasAt A hA⟩
  have HS : Hid (∀ w' G, Loc w' G (b8L xs ys) → Loc (w'.setCell ⟨G, 4 + A, none⟩ (.int .i64 (d + 1))) G (b8L xs (ys.set A (d + 1)))) := hide fun w' G l => l.set _ _ (b8L_next hy A hA _)
  have HM : Hid (∀ w' G, Loc w' G (b8L xs (ys.set A (d + 1))) → w'.cell? ⟨G, A, none⟩ = some (.int .i64 (xs.getD A 0))) := hide fun w' G l => l.hasAt A hA
  have H1 : Hid (∀ w' G, Loc w' G (b8L xs (ys.set A (d + 1))) → Loc (w'.setCell ⟨G, A, none⟩ (.int .i64 (xs.getD A 0 - c))) G (b8L (xs.set A (xs.getD A 0 - c)) (ys.set A (d + 1)))) := hide fun w' G l => l.set _ _ (b8L_has hx A hA _)
  have HR : Hid (∀ w' G, Loc w' G (b8L (xs.set A (xs.getD A 0 - c)) (ys.set A (d + 1))) → w'.cell? ⟨G, Bt, none⟩ = some (.int .i64 ((xs.set A (xs.getD A 0 - c)).getD Bt 0))) := hide fun w' G l => l.hasAt Bt hB
  have H2 : Hid (∀ w' G, Loc w' G (b8L (xs.set A (xs.getD A 0 - c)) (ys.set A (d + 1))) → Loc (w'.setCell ⟨G, Bt, none⟩ (.int .i64 ((xs.set A (xs.getD A 0 - c)).getD Bt 0 + c))) G (b8L ((xs.set A (xs.getD A 0 - c)).set Bt ((xs.set A (xs.getD A 0 - c)).getD Bt 0 + c)) (ys.set A (d + 1)))) := hide fun w' G l => l.set _ _ (b8L_has (by simpa using hx) Bt hB _)
  have OK := hide fun w => ok_lists (xs := ((xs.set A (xs.getD A 0 - c)).set Bt ((xs.set A (xs.getD A 0 - c)).getD Bt 0 + c))) (ys := (ys.set A (d + 1))) w (by simpa using hx) (by simpa using hy)
  rw [hq] at OK
  unfold b8L at *
  rw [hn] at *
  generalize ((xs.set A (xs.getD A 0 - c)).set Bt ((xs.set A (xs.getD A 0 - c)).getD Bt 0 + c)).getD 0 0 = s0 at *
  generalize ((xs.set A (xs.getD A 0 - c)).set Bt ((xs.set A (xs.getD A 0 - c)).getD Bt 0 + c)).getD 1 0 = s1 at *
  generalize ((xs.set A (xs.getD A 0 - c)).set Bt ((xs.set A (xs.getD A 0 - c)).getD Bt 0 + c)).getD 2 0 = s2 at *
  generalize ((xs.set A (xs.getD A 0 - c)).set Bt ((xs.set A (xs.getD A 0 - c)).getD Bt 0 + c)).getD 3 0 = s3 at *
  generalize (xs.set A (xs.getD A 0 - c)).getD 0 0 = v0 at *
  generalize (xs.set A (xs.getD A 0 - c)).getD 1 0 = v1 at *
  generalize (xs.set A (xs.getD A 0 - c)).getD 2 0 = v2 at *
  generalize (xs.set A (xs.getD A 0 - c)).getD 3 0 = v3 at *
  generalize (xs.set A (xs.getD A 0 - c)).getD Bt 0 = r at *
  generalize xs.getD A 0 = m at *
  generalize (ys.set A (d + 1)).getD 0 0 = z0 at *
  generalize (ys.set A (d + 1)).getD 1 0 = z1 at *
  generalize (ys.set A (d + 1)).getD 2 0 = z2 at *
  generalize (ys.set A (d + 1)).getD 3 0 = z3 at *
  generalize xs.getD 0 0 = x0 at *
  generalize xs.getD 1 0 = x1 at *
  generalize xs.getD 2 0 = x2 at *
  generalize xs.getD 3 0 = x3 at *
  generalize ys.getD 0 0 = y0 at *
  generalize ys.getD 1 0 = y1 at *
  generalize ys.getD 2 0 = y2 at *
  generalize ys.getD 3 0 = y3 at *
  obtain ⟨p0, p1, p2, p3⟩ := T0.cells4
  go_enter Try.func42, Try.ntmps42
  go_wp2_with fail
  clear hw0
  refine (unhide TO _).mono ?_
  rintro _ w1 ⟨rfl, b1⟩
  have B1 := B0.trans (b1.mono B0.size)
  have T1 := T0.below b1 T0.lt
  have K1 := K0.below b1 K0.lt
  have R1 := R0.below b1 R0.lt
  have c1 := unhide C0 _ b1
  have d1 := unhide D0 _ b1
  clear B0 T0 K0 R0 p0 p1 p2 p3 b1 C0 D0
  obtain ⟨t0, t1, t2, t3⟩ := T1.cells4
  obtain ⟨⟨p0, p1, p2, p3⟩, ⟨p4, p5, p6, p7⟩⟩ := K1.c8
  obtain ⟨⟨q0, q1, q2, q3⟩, ⟨q4, q5, q6, q7⟩⟩ := R1.c8
  have FR := R1.frozen
  have hA1 : (A : Int) < 4 := by omega
  have ho1 : 0 ≤ d ∧ d ≤ 99 := by unfold Ok4 at ho; omega
  have ho2 : 0 ≤ c ∧ c ≤ 1000 := by unfold Ok4 at ho; omega
  clear ho hq
  go_wp2_with fail
  go_quiet (fail)
  go_wp2_with fail
  go_quiet (fail)
  generalize hwd : World.drewN (World.drewN w1 _) _ = w2
  have B2 : Below w.heap.size w w2 := hwd ▸ below_drewN' (below_drewN' B1 _) _
  have T2 : Loc w2 w.heap.size (r4 A Bt c d) := hwd ▸ (T1.drewN _).drewN _
  have K2 : Loc w2 (w.heap.size + 1) (b8 x0 x1 x2 x3 y0 y1 y2 y3) := hwd ▸ (K1.drewN _).drewN _
  have R2 : Loc w2 (w.heap.size + 1 + 1) (b8 0 0 0 0 0 0 0 0) := hwd ▸ (R1.drewN _).drewN _
  clear hwd B1 T1 K1 R1 c1 d1 t0 t1 t2 t3 p0 p1 p2 p3 p4 p5 p6 p7 q0 q1 q2 q3 q4 q5 q6 q7 FR
  have lr := R2.lt
  obtain ⟨w3, hw3⟩ : ∃ w3, w2.alloc (.cells (b8 x0 x1 x2 x3 y0 y1 y2 y3) 73) = w3 := ⟨_, rfl⟩
  have b3 : Below w2.heap.size w2 w3 := hw3 ▸ (Below.refl _ _).alloc (Nat.le_refl _) _
  have A3 : Loc w3 w2.heap.size (b8 x0 x1 x2 x3 y0 y1 y2 y3) := hw3 ▸ loc_at w2 _ _ rfl
  obtain ⟨w4, hw4⟩ : ∃ w4, w3.setCell ⟨w2.heap.size, 4 + A, none⟩ (.int .i64 (d + 1)) = w4 := ⟨_, rfl⟩
  have A4 : Loc w4 w2.heap.size (b8 x0 x1 x2 x3 z0 z1 z2 z3) := hw4 ▸ unhide HS _ _ A3
  have b4 : Below w2.heap.size w2 w4 := hw4 ▸ Below.set b3 _ _ (Nat.le_refl _)
  have T4 := T2.below b4 T2.lt
  have K4 := K2.below b4 K2.lt
  have R4 := R2.below b4 R2.lt
  have B4 := B2.trans (b4.mono B2.size)
  obtain ⟨⟨p0, p1, p2, p3⟩, ⟨p4, p5, p6, p7⟩⟩ := K2.c8
  have n3 := (unhide HN _ _ A3).1
  have FA := A3.frozen
  obtain ⟨t0, t1, t2, t3⟩ := (T2.below b3 T2.lt).cells4
  obtain ⟨u0, u1, u2, u3⟩ := T4.cells4
  have m4 := (unhide HN _ _ K4).2
  clear A3 b3 HN HS
  go_wp2_with fail
  clear hw3 hw4 n3 FA t0 t1 t2 t3 p0 p1 p2 p3 p4 p5 p6 p7
  go_quiet (fail)
  generalize hwd : World.drewN w4 _ = w5
  have B5 : Below w.heap.size w w5 := hwd ▸ below_drewN' B4 _
  have T5 : Loc w5 w.heap.size (r4 A Bt c d) := hwd ▸ T4.drewN _
  have K5 : Loc w5 (w.heap.size + 1) (b8 x0 x1 x2 x3 y0 y1 y2 y3) := hwd ▸ K4.drewN _
  have R5 : Loc w5 (w.heap.size + 1 + 1) (b8 0 0 0 0 0 0 0 0) := hwd ▸ R4.drewN _
  have A5 : Loc w5 w2.heap.size (b8 x0 x1 x2 x3 z0 z1 z2 z3) := hwd ▸ A4.drewN _
  clear hwd B4 T4 K4 R4 A4 u0 u1 u2 u3 m4 T2 K2 R2 B2 b4
  have m5 := unhide HM _ _ A5
  have FA := A5.frozen
  have hB1 : (Bt : Int) < 4 := by omega
  have wr1 : IntKind.i64.wrap (m - c) = m - c := by rw [IntKind.wrap_i64]; omega
  have wr2 : IntKind.i64.wrap (r + c) = r + c := by rw [IntKind.wrap_i64]; omega
  obtain ⟨w6, hw6⟩ : ∃ w6, (w5.setCell ⟨w2.heap.size, A, none⟩ (.int .i64 (m - c))).drew = w6 := ⟨_, rfl⟩
  have A6 : Loc w6 w2.heap.size (b8 v0 v1 v2 v3 z0 z1 z2 z3) := hw6 ▸ unhide H1 _ _ A5
  have T6 : Loc w6 w.heap.size (r4 A Bt c d) := hw6 ▸ T5.other (by simp; omega) _
  have K6 : Loc w6 (w.heap.size + 1) (b8 x0 x1 x2 x3 y0 y1 y2 y3) := hw6 ▸ K5.other (by simp; omega) _
  have R6 : Loc w6 (w.heap.size + 1 + 1) (b8 0 0 0 0 0 0 0 0) := hw6 ▸ R5.other (by simp; omega) _
  have B6 : Below w.heap.size w w6 := hw6 ▸ Below.drew (Below.set B5 _ _ (by omega))
  go_wp2_with fail
  refine wp_region_noPanic ?_
  refine wp_region_held_drew (S := (fun w' => (w'.cell? ⟨w.heap.size, 0, none⟩ = some (.int .i64 A) ∧ w'.cell? ⟨w.heap.size, 1, none⟩ = some (.int .i64 Bt)) ∧ w'.cell? ⟨w.heap.size, 2, none⟩ = some (.int .i64 c))) (by kernel_rfl) ⟨⟨T5.cell 0 rfl, T5.cell 1 rfl⟩, T5.cell 2 rfl⟩ (fun hHeld => ?_)
  refine take_at (i := 0) (d := 47) (v := ?_) rfl rfl (by kernel_rfl) (by kernel_rfl) (by kernel_rfl) (fun _ _ _ h => h) (Or.inl ⟨by rfl, ?_⟩) (by assumption) ?_
  rotate_left
  · intro w hSw
    try dsimp only at hSw
    go_simp
    try with_reducible rfl
  simp only [Act.put, List.setIfInBounds_toArray, List.set_cons_zero, List.set_cons_succ]
  refine take_at (i := 1) (d := 48) (v := ?_) rfl rfl (by kernel_rfl) (by kernel_rfl) (by kernel_rfl) (fun _ _ _ h => h) (Or.inl ⟨by rfl, ?_⟩) (by assumption) ?_
  rotate_left
  · intro w hSw
    try dsimp only at hSw
    go_simp
    try with_reducible rfl
  simp only [Act.put, List.setIfInBounds_toArray, List.set_cons_zero, List.set_cons_succ]
  refine take_at (i := 2) (d := 49) (v := ?_) rfl rfl (by kernel_rfl) (by kernel_rfl) (by kernel_rfl) (fun _ _ _ h => h) (Or.inl ⟨by rfl, ?_⟩) (by assumption) ?_
  rotate_left
  · intro w hSw
    try dsimp only at hSw
    go_simp
    try with_reducible rfl
  simp only [Act.put, List.setIfInBounds_toArray, List.set_cons_zero, List.set_cons_succ]
  refine take_at (i := 3) (d := 50) (v := ?_) rfl rfl (by kernel_rfl) (by kernel_rfl) (by kernel_rfl) (fun _ _ _ h => h) (Or.inl ⟨by rfl, ?_⟩) (by assumption) ?_
  rotate_left
  · intro w hSw
    try dsimp only at hSw
    go_simp
    try with_reducible rfl
  simp only [Act.put, List.setIfInBounds_toArray, List.set_cons_zero, List.set_cons_succ]
  refine take_at (i := 5) (d := 52) (v := ?_) rfl rfl (by kernel_rfl) (by kernel_rfl) (by kernel_rfl) (fun _ _ _ h => h) (Or.inl ⟨by rfl, ?_⟩) (by assumption) ?_
  rotate_left
  · intro w hSw
    try dsimp only at hSw
    go_simp
    try with_reducible rfl
  simp only [Act.put, List.setIfInBounds_toArray, List.set_cons_zero, List.set_cons_succ]
  refine take_at (i := 6) (d := 53) (v := ?_) rfl rfl (by kernel_rfl) (by kernel_rfl) (by kernel_rfl) (fun _ _ _ h => h) (Or.inl ⟨by rfl, ?_⟩) (by assumption) ?_
  rotate_left
  · intro w hSw
    try dsimp only at hSw
    go_simp
    try with_reducible rfl
  simp only [Act.put, List.setIfInBounds_toArray, List.set_cons_zero, List.set_cons_succ]
  refine take_at (i := 8) (d := 55) (v := ?_) rfl rfl (by kernel_rfl) (by kernel_rfl) (by kernel_rfl) (fun _ _ _ h => h) (Or.inl ⟨by rfl, ?_⟩) (by assumption) ?_
  rotate_left
  · intro w hSw
    try dsimp only at hSw
    go_simp
    try with_reducible rfl
  simp only [Act.put, List.setIfInBounds_toArray, List.set_cons_zero, List.set_cons_succ]
  refine ready_at (i := 4) rfl (by kernel_rfl) (fun KK hKK => ?_)
  go_simp
  clear hHeld
  refine hKK.out _ _ ⟨⟨T5.cell 0 rfl, T5.cell 1 rfl⟩, T5.cell 2 rfl⟩ (fun hHeld => ?_)
  clear hKK KK
  refine take_at (i := 7) (d := 54) (v := ?_) rfl rfl (by kernel_rfl) (by kernel_rfl) (by kernel_rfl) (fun _ _ _ h => h) (Or.inl ⟨by rfl, ?_⟩) (by assumption) ?_
  rotate_left
  · intro w hSw
    try dsimp only at hSw
    go_simp
    try with_reducible rfl
  simp only [Act.put, List.setIfInBounds_toArray, List.set_cons_zero, List.set_cons_succ]
  refine take_at (i := 9) (d := 56) (v := ?_) rfl rfl (by kernel_rfl) (by kernel_rfl) (by kernel_rfl) (fun _ _ _ h => h) (Or.inl ⟨by rfl, ?_⟩) (by assumption) ?_
  rotate_left
  · intro w hSw
    try dsimp only at hSw
    go_simp
    try with_reducible rfl
  simp only [Act.put, List.setIfInBounds_toArray, List.set_cons_zero, List.set_cons_succ]
  refine ready_at (i := 10) rfl (by kernel_rfl) (fun KK hKK => ?_)
  go_simp
  clear hHeld
  refine hKK.out _ _ ⟨⟨T6.cell 0 rfl, T6.cell 1 rfl⟩, T6.cell 2 rfl⟩ (fun hHeld => ?_)
  clear hKK KK
  clear hHeld hw6 m5 FA
  refine wpAnyH_done (by kernel_rfl) ?_ _
  refine NoPanic.normal ?_
  clear A5 T5 K5 R5 B5 HM H1
  have r6 := unhide HR _ _ A6
  have FA := A6.frozen
  obtain ⟨w7, hw7⟩ : ∃ w7, (w6.setCell ⟨w2.heap.size, Bt, none⟩ (.int .i64 (r + c))).drew = w7 := ⟨_, rfl⟩
  have A7 : Loc w7 w2.heap.size (b8 s0 s1 s2 s3 z0 z1 z2 z3) := hw7 ▸ unhide H2 _ _ A6
  have T7 : Loc w7 w.heap.size (r4 A Bt c d) := hw7 ▸ T6.other (by simp; omega) _
  have K7 : Loc w7 (w.heap.size + 1) (b8 x0 x1 x2 x3 y0 y1 y2 y3) := hw7 ▸ K6.other (by simp; omega) _
  have R7 : Loc w7 (w.heap.size + 1 + 1) (b8 0 0 0 0 0 0 0 0) := hw7 ▸ R6.other (by simp; omega) _
  have B7 : Below w.heap.size w w7 := hw7 ▸ Below.drew (Below.set B6 _ _ (by omega))
  go_wp2_with fail
  refine wp_region_noPanic ?_
  refine wp_region_held_drew (S := (fun w' => (w'.cell? ⟨w.heap.size, 0, none⟩ = some (.int .i64 A) ∧ w'.cell? ⟨w.heap.size, 1, none⟩ = some (.int .i64 Bt)) ∧ w'.cell? ⟨w.heap.size, 2, none⟩ = some (.int .i64 c))) (by kernel_rfl) ⟨⟨T6.cell 0 rfl, T6.cell 1 rfl⟩, T6.cell 2 rfl⟩ (fun hHeld => ?_)
  refine take_at (i := 0) (d := 57) (v := ?_) rfl rfl (by kernel_rfl) (by kernel_rfl) (by kernel_rfl) (fun _ _ _ h => h) (Or.inl ⟨by rfl, ?_⟩) (by assumption) ?_
  rotate_left
  · intro w hSw
    try dsimp only at hSw
    go_simp
    try with_reducible rfl
  simp only [Act.put, List.setIfInBounds_toArray, List.set_cons_zero, List.set_cons_succ]
  refine take_at (i := 1) (d := 58) (v := ?_) rfl rfl (by kernel_rfl) (by kernel_rfl) (by kernel_rfl) (fun _ _ _ h => h) (Or.inl ⟨by rfl, ?_⟩) (by assumption) ?_
  rotate_left
  · intro w hSw
    try dsimp only at hSw
    go_simp
    try with_reducible rfl
  simp only [Act.put, List.setIfInBounds_toArray, List.set_cons_zero, List.set_cons_succ]
  refine take_at (i := 2) (d := 59) (v := ?_) rfl rfl (by kernel_rfl) (by kernel_rfl) (by kernel_rfl) (fun _ _ _ h => h) (Or.inl ⟨by rfl, ?_⟩) (by assumption) ?_
  rotate_left
  · intro w hSw
    try dsimp only at hSw
    go_simp
    try with_reducible rfl
  simp only [Act.put, List.setIfInBounds_toArray, List.set_cons_zero, List.set_cons_succ]
  refine take_at (i := 3) (d := 60) (v := ?_) rfl rfl (by kernel_rfl) (by kernel_rfl) (by kernel_rfl) (fun _ _ _ h => h) (Or.inl ⟨by rfl, ?_⟩) (by assumption) ?_
  rotate_left
  · intro w hSw
    try dsimp only at hSw
    go_simp
    try with_reducible rfl
  simp only [Act.put, List.setIfInBounds_toArray, List.set_cons_zero, List.set_cons_succ]
  refine take_at (i := 5) (d := 62) (v := ?_) rfl rfl (by kernel_rfl) (by kernel_rfl) (by kernel_rfl) (fun _ _ _ h => h) (Or.inl ⟨by rfl, ?_⟩) (by assumption) ?_
  rotate_left
  · intro w hSw
    try dsimp only at hSw
    go_simp
    try with_reducible rfl
  simp only [Act.put, List.setIfInBounds_toArray, List.set_cons_zero, List.set_cons_succ]
  refine take_at (i := 6) (d := 63) (v := ?_) rfl rfl (by kernel_rfl) (by kernel_rfl) (by kernel_rfl) (fun _ _ _ h => h) (Or.inl ⟨by rfl, ?_⟩) (by assumption) ?_
  rotate_left
  · intro w hSw
    try dsimp only at hSw
    go_simp
    try with_reducible rfl
  simp only [Act.put, List.setIfInBounds_toArray, List.set_cons_zero, List.set_cons_succ]
  refine take_at (i := 8) (d := 65) (v := ?_) rfl rfl (by kernel_rfl) (by kernel_rfl) (by kernel_rfl) (fun _ _ _ h => h) (Or.inl ⟨by rfl, ?_⟩) (by assumption) ?_
  rotate_left
  · intro w hSw
    try dsimp only at hSw
    go_simp
    try with_reducible rfl
  simp only [Act.put, List.setIfInBounds_toArray, List.set_cons_zero, List.set_cons_succ]
  refine ready_at (i := 4) rfl (by kernel_rfl) (fun KK hKK => ?_)
  go_simp
  clear hHeld
  refine hKK.out _ _ ⟨⟨T6.cell 0 rfl, T6.cell 1 rfl⟩, T6.cell 2 rfl⟩ (fun hHeld => ?_)
  clear hKK KK
  refine take_at (i := 7) (d := 64) (v := ?_) rfl rfl (by kernel_rfl) (by kernel_rfl) (by kernel_rfl) (fun _ _ _ h => h) (Or.inl ⟨by rfl, ?_⟩) (by assumption) ?_
  rotate_left
  · intro w hSw
    try dsimp only at hSw
    go_simp
    try with_reducible rfl
  simp only [Act.put, List.setIfInBounds_toArray, List.set_cons_zero, List.set_cons_succ]
  refine take_at (i := 9) (d := 66) (v := ?_) rfl rfl (by kernel_rfl) (by kernel_rfl) (by kernel_rfl) (fun _ _ _ h => h) (Or.inl ⟨by rfl, ?_⟩) (by assumption) ?_
  rotate_left
  · intro w hSw
    try dsimp only at hSw
    go_simp
    try with_reducible rfl
  simp only [Act.put, List.setIfInBounds_toArray, List.set_cons_zero, List.set_cons_succ]
  refine ready_at (i := 10) rfl (by kernel_rfl) (fun KK hKK => ?_)
  go_simp
  clear hHeld
  refine hKK.out _ _ ⟨⟨T7.cell 0 rfl, T7.cell 1 rfl⟩, T7.cell 2 rfl⟩ (fun hHeld => ?_)
  clear hKK KK
  clear hHeld hw7 r6 FA
  refine wpAnyH_done (by kernel_rfl) ?_ _
  refine NoPanic.normal ?_
  clear A6 T6 K6 R6 B6 HR H2 T7
  obtain ⟨⟨p0, p1, p2, p3⟩, ⟨p4, p5, p6, p7⟩⟩ := A7.c8
  go_wp2_with fail
  refine (unhide OK _).mono ?_
  rintro _ w8 ⟨rfl, b8⟩
  have A8 := A7.below b8 A7.lt
  have K8 := K7.below b8 K7.lt
  have R8 := R7.below b8 R7.lt
  have B8 := B7.trans (b8.mono B7.size)
  clear p0 p1 p2 p3 p4 p5 p6 p7 A7 K7 R7 B7 b8 OK
  obtain ⟨⟨q0, q1, q2, q3⟩, ⟨q4, q5, q6, q7⟩⟩ := R8.c8
  have FR := R8.frozen
  obtain ⟨⟨p0, p1, p2, p3⟩, ⟨p4, p5, p6, p7⟩⟩ := A8.c8
  go_wp2
  refine bodyPost_ret (v := .tuple #[bv s0 s1 s2 s3 z0 z1 z2 z3, .int .i64 0]) (by simp [results, Try.results42, go_sem, q0, q1, q2, q3, q4, q5, q6, q7]) rfl ?_
  exact ⟨rfl, put8_below B8 (by omega) _ _ _ _ _ _ _ _⟩
end Go.Proofs.Ytlglekfmiacdnaa
