/- l7DrawTwo, DrawQcLater. -/
import Derived.Test.YtgfboghieejbkaaGreatDoorWKAV
import Derived.Test.YtgfboghieejbkaaGreatDoorWKAQ
namespace Go.Proofs.YtgfboghieejbkaaGreatDoor
open Go.RowKit
set_option linter.unusedSectionVars false
variable [∀ (a b c d : Int), Decidable (Ok4 a b c d)]
variable [∀ (a b c d : Nat), Decidable (okN a b c d)]
variable [∀ (x : T4), Decidable (OkT x)]
variable [∀ (last : Int) (s : St), Decidable (GoodSt last s)]
variable [∀ (n f : Int), Decidable (COk n f)]

set_option maxHeartbeats 8000000 in
set_option maxRecDepth 100000 in
theorem drawTwoQ (ao : Option Addr) (ca : Nat) (zs : List Int) (w : World) (h : DCode w ao zs) :
    Calls Tryz.prog 145 #[.slice ao zs.length ca] w fun e w' => ∃ (v : Int) (s : ByteArray) (u : Value) (xs : List Int) (v' : Int) (s' : ByteArray) (u' : Value) (ys : List Int), e = .returned (.tuple #[qv v s u, qv v' s' u']) ∧ s.size ≤ 8001 ∧ xs.length ≤ 9 ∧ Hid (WfL xs) ∧ s'.size ≤ 8001 ∧ ys.length ≤ 9 ∧ Hid (WfL ys) ∧ OI w' w.heap.size u xs ∧ OI w' w.heap.size u' ys ∧ Below w.heap.size w w' := by
  obtain ⟨w0, hw0⟩ : ∃ w0, (w.alloc zq).alloc zq = w0 := ⟨_, rfl⟩
  have B0 : Below w.heap.size w w0 := hw0 ▸ qalloc2 _ _ _
  have R0 : Loc w0 w.heap.size #[.int .i64 0, .string ⟨#[]⟩, .slice none 0 0] := hw0 ▸ (loc_at w _ _ rfl).alloc _
  have Z0 : Loc w0 (w.heap.size + 1) #[.int .i64 0, .string ⟨#[]⟩, .slice none 0 0] := hw0 ▸ loc_at (w.alloc _) _ _ (by simp)
  have s0 : w.heap.size + 1 + 1 ≤ w0.heap.size := by rw [← hw0]; simp
  have D0 := h.below B0 (Nat.le_refl _)
  have NW := hide (new_any ao ca zs w0 D0.len D0.code D0.fit)
  clear h D0
  go_enter Tryz.func145, Tryz.ntmps145
  go_wp2_with fail
  clear hw0
  refine (unhide NW).mono ?_
  rintro e w1 ⟨rfl, c1, b1⟩
  have B1 := B0.trans (b1.mono B0.size)
  have R1 := R0.below b1 R0.lt
  have Z1 := Z0.below b1 Z0.lt
  have s1 := b1.size
  generalize w0.heap.size = g at *
  have hg1 := c1.lt
  clear R0 Z0 B0 b1 NW
  go_wp2_with fail
  refine (drawConf g g ca ao zs _ s1 c1).mono ?_
  rintro e w2 ⟨n, f, rfl, ⟨hn0, hn1⟩, c2, e2⟩
  have R2 := R1.grown e2 (by omega)
  have Z2 := Z1.grown e2 (by omega)
  have B2 := cur_below e2 B1 B1.size (by omega)
  have s2 := e2.size
  clear R1 Z1 B1 c1 e2
  obtain ⟨w3, hw3⟩ : ∃ w3, w2.alloc (.cells #[.int .i64 n, .int .i64 f] 32) = w3 := ⟨_, rfl⟩
  have b3 : Below w2.heap.size w2 w3 := hw3 ▸ qalloc _ _
  have X3 : Loc w3 w2.heap.size #[.int .i64 n, .int .i64 f] := hw3 ▸ loc_at w2 _ _ rfl
  have R3 := R2.below b3 R2.lt
  have Z3 := Z2.below b3 Z2.lt
  have c3 := c2.below (by omega) b3
  have B3 := B2.trans (b3.mono B2.size)
  have s3 : w2.heap.size + 1 ≤ w3.heap.size := by rw [← hw3]; simp
  have x0 := X3.cell 0 rfl
  have x1 := X3.cell 1 rfl
  clear R2 Z2 B2 c2 b3
  go_wp2_with fail
  clear hw3 x0 x1
  refine (drawQc g g ca ao zs n f _ (by omega) hn0 hn1 c3).mono ?_
  rintro e w4 ⟨v, s, u, xs, rfl, hs, hl, hw, O4, c4, e4⟩
  have R4 := R3.grown e4 (by omega)
  have Z4 := Z3.grown e4 (by omega)
  have X4 := X3.grown e4 (by omega)
  have B4 := cur_below e4 B3 B3.size (by omega)
  have s4 := e4.size
  have lo4 := World.ownsRow.lt O4
  obtain ⟨ua, uc, rfl⟩ := O4.form
  clear R3 Z3 X3 B3 c3 e4
  obtain ⟨w5, hw5⟩ : ∃ w5, w4.alloc (.cells #[.int .i64 v, .string s, .slice ua xs.length uc] 40) = w5 := ⟨_, rfl⟩
  have b5 : Below w4.heap.size w4 w5 := hw5 ▸ qalloc _ _
  have Y5 : Loc w5 w4.heap.size #[.int .i64 v, .string s, .slice ua xs.length uc] := hw5 ▸ loc_at w4 _ _ rfl
  have R5 := R4.below b5 R4.lt
  have Z5 := Z4.below b5 Z4.lt
  have X5 := X4.below b5 X4.lt
  have O5 := O4.below b5
  have c5 := c4.below (by omega) b5
  have B5 := B4.trans (b5.mono B4.size)
  have s5 : w4.heap.size + 1 ≤ w5.heap.size := by rw [← hw5]; simp
  clear R4 Z4 X4 O4 B4 c4 b5
  go_wp2_with fail
  clear hw5
  refine (once_any g g ca ao zs 3 _ (by omega) (by omega) (by omega) c5).mono ?_
  rintro e w6 ⟨b, rfl, c6, e6⟩
  have R6 := R5.grown e6 (by omega)
  have Z6 := Z5.grown e6 (by omega)
  have X6 := X5.grown e6 (by omega)
  have Y6 := Y5.grown e6 (by omega)
  have O6 := O5.drawn e6 (by omega)
  have B6 := cur_below e6 B5 B5.size (by omega)
  have s6 := e6.size
  clear R5 Z5 X5 Y5 O5 B5 c5 e6
  cases b
  · go_upto_region 6 with fail
    refine wp_region_noPanic ?_
    refine wp_region_held_drew (S := fun w' => (w'.cell? ⟨w4.heap.size, 0, none⟩ = some (.int .i64 v) ∧ w'.cell? ⟨w4.heap.size, 1, none⟩ = some (.string s) ∧ w'.cell? ⟨w4.heap.size, 2, none⟩ = some (.slice ua xs.length uc)) ∧ (w'.cell? ⟨w2.heap.size, 0, none⟩ = some (.int .i64 n) ∧ w'.cell? ⟨w2.heap.size, 1, none⟩ = some (.int .i64 f))) (by kernel_rfl) ⟨⟨Y6.cell 0 rfl, Y6.cell 1 rfl, Y6.cell 2 rfl⟩, ⟨X6.cell 0 rfl, X6.cell 1 rfl⟩⟩ (fun hHeld => ?_)
    obtain ⟨wd, hd⟩ : ∃ wd, w6.drew = wd := ⟨_, rfl⟩
    have bd : Below w6.heap.size w6 wd := hd ▸ Below.drew (Below.refl _ _)
    have sd : w6.heap.size ≤ wd.heap.size := bd.size
    have R := R6.below bd R6.lt
    have Z := Z6.below bd Z6.lt
    have Y := Y6.below bd Y6.lt
    have O := O6.below bd
    have B := B6.trans (bd.mono B6.size)
    have X := X6.below bd X6.lt
    have C := c6.below (by omega) bd
    rw [hd] at hHeld ⊢
    clear hd bd R6 Z6 X6 Y6 O6 B6 c6
    refine tk 0 19 (v := ?_) rfl (hy := .inl ⟨by rfl, ?_⟩) (h := ?_); rotate_left
    · intro w hSw; (try dsimp only at hSw); go_simp; (try with_reducible rfl)
    simp only [Act.put, List.setIfInBounds_toArray, List.set_cons_zero, List.set_cons_succ]
    refine tk 1 20 (v := ?_) rfl (hy := .inl ⟨by rfl, ?_⟩) (h := ?_); rotate_left
    · intro w hSw; (try dsimp only at hSw); go_simp; (try with_reducible rfl)
    simp only [Act.put, List.setIfInBounds_toArray, List.set_cons_zero, List.set_cons_succ]
    refine tk 2 21 (v := ?_) rfl (hy := .inl ⟨by rfl, ?_⟩) (h := ?_); rotate_left
    · intro w hSw; (try dsimp only at hSw); go_simp; (try with_reducible rfl)
    simp only [Act.put, List.setIfInBounds_toArray, List.set_cons_zero, List.set_cons_succ]
    refine ready_at (i := 3) rfl (by kernel_rfl) (fun KK hKK => ?_)
    go_simp
    refine (drawQc g g ca ao zs n f _ (by omega) hn0 hn1 C).mono ?_
    rintro e w7 ⟨v7, s7, u7, ys, rfl, hs7, hl7, hw7, O7, c7, e7⟩
    replace R := R.grown e7 (by omega)
    replace Z := Z.grown e7 (by omega)
    replace Y := Y.grown e7 (by omega)
    replace X := X.grown e7 (by omega)
    replace O := O.drawn e7 (by omega)
    replace B := cur_below e7 B B.size (by omega)
    have z7 := e7.size
    have tO := World.ownsRow.lt O
    have tO7 := World.ownsRow.lt O7
    obtain ⟨va, vc, rfl⟩ := O7.form
    clear hHeld c7 e7 C
    refine hKK.out _ _ ⟨⟨Y.cell 0 rfl, Y.cell 1 rfl, Y.cell 2 rfl⟩, ⟨X.cell 0 rfl, X.cell 1 rfl⟩⟩ (fun hHeld => ?_)
    clear hKK KK
    have c0 := R.cell 0 rfl
    have c1 := R.cell 1 rfl
    have c2 := R.cell 2 rfl
    have fc := R.frozen
    refine ready_at (i := 4) rfl (by kernel_rfl) (fun KK hKK => ?_)
    go_simp
    obtain ⟨wa, hwa⟩ : ∃ y, (((w7.setCell ⟨w.heap.size, 0, none⟩ (.int .i64 v)).setCell ⟨w.heap.size, 1, none⟩ (.string s)).setCell ⟨w.heap.size, 2, none⟩ (.slice ua xs.length uc)) = y := ⟨_, rfl⟩
    have kwa : Kp w7 wa (fun k => k = w.heap.size) := hwa ▸ ((set_kp _ _ _ _).trans (set_kp _ _ _ _)).trans (set_kp _ _ _ _)
    replace R : Loc wa (w.heap.size) #[.int .i64 v, .string s, .slice ua xs.length uc] := hwa ▸ ((R.set 0 _ rfl).set 1 _ rfl).set 2 _ rfl
    replace Z := Z.kp kwa (by omega)
    replace Y := Y.kp kwa (by omega)
    replace X := X.kp kwa (by omega)
    replace O := O.kp kwa (fun j hj e => by have := tO j hj; omega)
    replace O7 := O7.kp kwa (fun j hj e => by have := tO7 j hj; omega)
    replace B := Below.kp B kwa B.size (fun k hk => by omega)
    have zwa := kwa.size
    rw [hwa]
    clear hwa kwa c0 c1 c2 fc
    clear hHeld
    refine hKK.out _ _ ⟨⟨Y.cell 0 rfl, Y.cell 1 rfl, Y.cell 2 rfl⟩, ⟨X.cell 0 rfl, X.cell 1 rfl⟩⟩ (fun hHeld => ?_)
    clear hKK KK
    have c0 := Z.cell 0 rfl
    have c1 := Z.cell 1 rfl
    have c2 := Z.cell 2 rfl
    have fc := Z.frozen
    refine ready_at (i := 5) rfl (by kernel_rfl) (fun KK hKK => ?_)
    go_simp
    obtain ⟨wb, hwb⟩ : ∃ y, (((wa.setCell ⟨w.heap.size + 1, 0, none⟩ (.int .i64 v7)).setCell ⟨w.heap.size + 1, 1, none⟩ (.string s7)).setCell ⟨w.heap.size + 1, 2, none⟩ (.slice va ys.length vc)) = y := ⟨_, rfl⟩
    have kwb : Kp wa wb (fun k => k = w.heap.size + 1) := hwb ▸ ((set_kp _ _ _ _).trans (set_kp _ _ _ _)).trans (set_kp _ _ _ _)
    replace Z : Loc wb (w.heap.size + 1) #[.int .i64 v7, .string s7, .slice va ys.length vc] := hwb ▸ ((Z.set 0 _ rfl).set 1 _ rfl).set 2 _ rfl
    replace R := R.kp kwb (by omega)
    replace Y := Y.kp kwb (by omega)
    replace X := X.kp kwb (by omega)
    replace O := O.kp kwb (fun j hj e => by have := tO j hj; omega)
    replace O7 := O7.kp kwb (fun j hj e => by have := tO7 j hj; omega)
    replace B := Below.kp B kwb B.size (fun k hk => by omega)
    have zwb := kwb.size
    rw [hwb]
    clear hwb kwb c0 c1 c2 fc
    clear hHeld
    refine hKK.out _ _ ⟨⟨Y.cell 0 rfl, Y.cell 1 rfl, Y.cell 2 rfl⟩, ⟨X.cell 0 rfl, X.cell 1 rfl⟩⟩ (fun hHeld => ?_)
    clear hKK KK
    clear hHeld
    refine wpAnyH_done (by kernel_rfl) ?_ _
    refine NoPanic.normal ?_
    have r0 := R.cell 0 rfl
    have r1 := R.cell 1 rfl
    have r2 := R.cell 2 rfl
    have z0 := Z.cell 0 rfl
    have z1 := Z.cell 1 rfl
    have z2 := Z.cell 2 rfl
    clear R Z Y X
    go_wp2
    refine bodyPost_ret (v := .tuple #[qv v s (.slice ua xs.length uc), qv v7 s7 (.slice va ys.length vc)]) (by simp [results, Tryz.results145, go_sem, r0, r1, r2, z0, z1, z2]) rfl ?_
    exact ⟨_, _, _, _, _, _, _, _, rfl, hs, hl, hw, hs7, hl7, hw7, O.mono (by omega), O7.mono (by omega), B⟩
  · go_upto_region 5 with fail
    refine wp_region_noPanic ?_
    refine wp_region_held_drew (S := fun w' => (w'.cell? ⟨w4.heap.size, 0, none⟩ = some (.int .i64 v) ∧ w'.cell? ⟨w4.heap.size, 1, none⟩ = some (.string s) ∧ w'.cell? ⟨w4.heap.size, 2, none⟩ = some (.slice ua xs.length uc))) (by kernel_rfl) ⟨Y6.cell 0 rfl, Y6.cell 1 rfl, Y6.cell 2 rfl⟩ (fun hHeld => ?_)
    obtain ⟨wd, hd⟩ : ∃ wd, w6.drew = wd := ⟨_, rfl⟩
    have bd : Below w6.heap.size w6 wd := hd ▸ Below.drew (Below.refl _ _)
    have sd : w6.heap.size ≤ wd.heap.size := bd.size
    have R := R6.below bd R6.lt
    have Z := Z6.below bd Z6.lt
    have Y := Y6.below bd Y6.lt
    have O := O6.below bd
    have B := B6.trans (bd.mono B6.size)
    rw [hd] at hHeld ⊢
    clear hd bd R6 Z6 X6 Y6 O6 B6
    refine tk 0 16 (v := ?_) rfl (hy := .inl ⟨by rfl, ?_⟩) (h := ?_); rotate_left
    · intro w hSw; (try dsimp only at hSw); go_simp; (try with_reducible rfl)
    simp only [Act.put, List.setIfInBounds_toArray, List.set_cons_zero, List.set_cons_succ]
    refine tk 1 17 (v := ?_) rfl (hy := .inl ⟨by rfl, ?_⟩) (h := ?_); rotate_left
    · intro w hSw; (try dsimp only at hSw); go_simp; (try with_reducible rfl)
    simp only [Act.put, List.setIfInBounds_toArray, List.set_cons_zero, List.set_cons_succ]
    refine ready_at (i := 2) rfl (by kernel_rfl) (fun KK hKK => ?_)
    go_simp
    refine (l7Copy_any v s _ xs _ (O.ri (by omega))).mono ?_
    rintro e w7 ⟨u7, rfl, O7, b7⟩
    replace R := R.below b7 R.lt
    replace Z := Z.below b7 Z.lt
    replace Y := Y.below b7 Y.lt
    replace O := O.below b7
    replace B := B.trans (b7.mono B.size)
    have z7 := b7.size
    have tO := World.ownsRow.lt O
    have tO7 := World.ownsRow.lt O7
    obtain ⟨va, vc, rfl⟩ := O7.form
    clear hHeld b7
    refine hKK.out _ _ ⟨Y.cell 0 rfl, Y.cell 1 rfl, Y.cell 2 rfl⟩ (fun hHeld => ?_)
    clear hKK KK
    have c0 := R.cell 0 rfl
    have c1 := R.cell 1 rfl
    have c2 := R.cell 2 rfl
    have fc := R.frozen
    refine ready_at (i := 3) rfl (by kernel_rfl) (fun KK hKK => ?_)
    go_simp
    obtain ⟨wa, hwa⟩ : ∃ y, (((w7.setCell ⟨w.heap.size, 0, none⟩ (.int .i64 v)).setCell ⟨w.heap.size, 1, none⟩ (.string s)).setCell ⟨w.heap.size, 2, none⟩ (.slice ua xs.length uc)) = y := ⟨_, rfl⟩
    have kwa : Kp w7 wa (fun k => k = w.heap.size) := hwa ▸ ((set_kp _ _ _ _).trans (set_kp _ _ _ _)).trans (set_kp _ _ _ _)
    replace R : Loc wa (w.heap.size) #[.int .i64 v, .string s, .slice ua xs.length uc] := hwa ▸ ((R.set 0 _ rfl).set 1 _ rfl).set 2 _ rfl
    replace Z := Z.kp kwa (by omega)
    replace Y := Y.kp kwa (by omega)
    replace O := O.kp kwa (fun j hj e => by have := tO j hj; omega)
    replace O7 := O7.kp kwa (fun j hj e => by have := tO7 j hj; omega)
    replace B := Below.kp B kwa B.size (fun k hk => by omega)
    have zwa := kwa.size
    rw [hwa]
    clear hwa kwa c0 c1 c2 fc
    clear hHeld
    refine hKK.out _ _ ⟨Y.cell 0 rfl, Y.cell 1 rfl, Y.cell 2 rfl⟩ (fun hHeld => ?_)
    clear hKK KK
    have c0 := Z.cell 0 rfl
    have c1 := Z.cell 1 rfl
    have c2 := Z.cell 2 rfl
    have fc := Z.frozen
    refine ready_at (i := 4) rfl (by kernel_rfl) (fun KK hKK => ?_)
    go_simp
    obtain ⟨wb, hwb⟩ : ∃ y, (((wa.setCell ⟨w.heap.size + 1, 0, none⟩ (.int .i64 v)).setCell ⟨w.heap.size + 1, 1, none⟩ (.string s)).setCell ⟨w.heap.size + 1, 2, none⟩ (.slice va xs.length vc)) = y := ⟨_, rfl⟩
    have kwb : Kp wa wb (fun k => k = w.heap.size + 1) := hwb ▸ ((set_kp _ _ _ _).trans (set_kp _ _ _ _)).trans (set_kp _ _ _ _)
    replace Z : Loc wb (w.heap.size + 1) #[.int .i64 v, .string s, .slice va xs.length vc] := hwb ▸ ((Z.set 0 _ rfl).set 1 _ rfl).set 2 _ rfl
    replace R := R.kp kwb (by omega)
    replace Y := Y.kp kwb (by omega)
    replace O := O.kp kwb (fun j hj e => by have := tO j hj; omega)
    replace O7 := O7.kp kwb (fun j hj e => by have := tO7 j hj; omega)
    replace B := Below.kp B kwb B.size (fun k hk => by omega)
    have zwb := kwb.size
    rw [hwb]
    clear hwb kwb c0 c1 c2 fc
    clear hHeld
    refine hKK.out _ _ ⟨Y.cell 0 rfl, Y.cell 1 rfl, Y.cell 2 rfl⟩ (fun hHeld => ?_)
    clear hKK KK
    clear hHeld
    refine wpAnyH_done (by kernel_rfl) ?_ _
    refine NoPanic.normal ?_
    have r0 := R.cell 0 rfl
    have r1 := R.cell 1 rfl
    have r2 := R.cell 2 rfl
    have z0 := Z.cell 0 rfl
    have z1 := Z.cell 1 rfl
    have z2 := Z.cell 2 rfl
    clear R Z Y
    go_wp2
    refine bodyPost_ret (v := .tuple #[qv v s (.slice ua xs.length uc), qv v s (.slice va xs.length vc)]) (by simp [results, Tryz.results145, go_sem, r0, r1, r2, z0, z1, z2]) rfl ?_
    exact ⟨_, _, _, _, _, _, _, _, rfl, hs, hl, hw, hs, hl, hw, O.mono (by omega), O7.mono (by omega), B⟩

set_option maxHeartbeats 8000000 in
set_option maxRecDepth 100000 in
theorem drawQcLater (ao : Option Addr) (ca : Nat) (zs : List Int) (w : World) (h : DCode w ao zs) :
    Calls Tryz.prog 63 #[.slice ao zs.length ca] w fun e w' => ∃ (v : Int) (s : ByteArray) (u : Value) (xs : List Int) (v' : Int) (s' : ByteArray) (u' : Value) (ys : List Int), e = .returned (.tuple #[qv v s u, qv v' s' u']) ∧ s.size ≤ 8001 ∧ xs.length ≤ 9 ∧ Hid (WfL xs) ∧ s'.size ≤ 8001 ∧ ys.length ≤ 9 ∧ Hid (WfL ys) ∧ OI w' w.heap.size u xs ∧ OI w' w.heap.size u' ys ∧ Below w.heap.size w w' := by
  obtain ⟨w0, hw0⟩ : ∃ w0, (w.alloc zq).alloc zq = w0 := ⟨_, rfl⟩
  have B0 : Below w.heap.size w w0 := hw0 ▸ qalloc2 _ _ _
  have R0 : Loc w0 w.heap.size #[.int .i64 0, .string ⟨#[]⟩, .slice none 0 0] := hw0 ▸ (loc_at w _ _ rfl).alloc _
  have Z0 : Loc w0 (w.heap.size + 1) #[.int .i64 0, .string ⟨#[]⟩, .slice none 0 0] := hw0 ▸ loc_at (w.alloc _) _ _ (by simp)
  have s0 : w.heap.size + 1 + 1 ≤ w0.heap.size := by rw [← hw0]; simp
  have TW := hide (drawTwoQ ao ca zs w0 (h.below B0 (Nat.le_refl _)))
  clear h
  go_enter Tryz.func63, Tryz.ntmps63
  go_wp2_with fail
  clear hw0
  refine (unhide TW).mono ?_
  rintro e w1 ⟨v, s, u, xs, v', s', u', ys, rfl, hs, hl, hw, hs7, hl7, hw7, O1, P1, b1⟩
  have tO := World.ownsRow.lt O1
  have tO7 := World.ownsRow.lt P1
  obtain ⟨ua, uc, rfl⟩ := O1.form
  obtain ⟨va, vc, rfl⟩ := P1.form
  go_upto_region 2 with fail
  obtain ⟨w2, hw2⟩ : ∃ y, w1.alloc (.cells #[.int .i64 v, .string s, .slice ua xs.length uc] 40) = y := ⟨_, rfl⟩
  obtain ⟨w3, hw3⟩ : ∃ y, w2.alloc (.cells #[.int .i64 v', .string s', .slice va ys.length vc] 40) = y := ⟨_, rfl⟩
  have b2 : Below w1.heap.size w1 w2 := hw2 ▸ qalloc _ _
  have b3 : Below w2.heap.size w2 w3 := hw3 ▸ qalloc _ _
  have s1 := b1.size
  have s2 : w1.heap.size + 1 ≤ w2.heap.size := by rw [← hw2]; simp
  have s3 : w2.heap.size + 1 ≤ w3.heap.size := by rw [← hw3]; simp
  have Y : Loc w3 w1.heap.size #[.int .i64 v, .string s, .slice ua xs.length uc] := Loc.below (hw2 ▸ loc_at w1 _ _ rfl) b3 (by omega)
  have X : Loc w3 (w1.heap.size + 1) #[.int .i64 v', .string s', .slice va ys.length vc] := hw3 ▸ loc_at w2 _ _ (by rw [← hw2]; simp)
  have bb := b1.trans ((b2.trans (b3.mono (by omega))).mono s1)
  have cc := b2.trans (b3.mono (by omega))
  have R := R0.below bb R0.lt
  have Z := Z0.below bb Z0.lt
  have O := O1.below cc
  have O7 := P1.below cc
  have B := B0.trans (bb.mono B0.size)
  clear R0 Z0 O1 P1 b1 b2 b3 bb cc B0 TW
  rw [hw2, hw3]
  clear hw2 hw3
  refine wp_region_noPanic ?_
  refine wp_region_held_drew (S := fun w' => (w'.cell? ⟨w1.heap.size, 0, none⟩ = some (.int .i64 v) ∧ w'.cell? ⟨w1.heap.size, 1, none⟩ = some (.string s) ∧ w'.cell? ⟨w1.heap.size, 2, none⟩ = some (.slice ua xs.length uc)) ∧ (w'.cell? ⟨w1.heap.size + 1, 0, none⟩ = some (.int .i64 v') ∧ w'.cell? ⟨w1.heap.size + 1, 1, none⟩ = some (.string s') ∧ w'.cell? ⟨w1.heap.size + 1, 2, none⟩ = some (.slice va ys.length vc))) (by kernel_rfl) ⟨⟨Y.cell 0 rfl, Y.cell 1 rfl, Y.cell 2 rfl⟩, ⟨X.cell 0 rfl, X.cell 1 rfl, X.cell 2 rfl⟩⟩ (fun hHeld => ?_)
  obtain ⟨wd, hd⟩ : ∃ wd, w3.drew = wd := ⟨_, rfl⟩
  have bd : Below w3.heap.size w3 wd := hd ▸ Below.drew (Below.refl _ _)
  replace R := R.below bd R.lt
  replace Z := Z.below bd Z.lt
  replace Y := Y.below bd Y.lt
  replace X := X.below bd X.lt
  replace O := O.below bd
  replace O7 := O7.below bd
  replace B := B.trans (bd.mono B.size)
  have sd := bd.size
  rw [hd] at hHeld ⊢
  clear hd bd
  refine tk 0 11 (v := ?_) rfl (hy := .inl ⟨by rfl, ?_⟩) (h := ?_); rotate_left
  · intro w hSw; (try dsimp only at hSw); go_simp; (try with_reducible rfl)
  simp only [Act.put, List.setIfInBounds_toArray, List.set_cons_zero, List.set_cons_succ]
  refine tk 1 12 (v := ?_) rfl (hy := .inl ⟨by rfl, ?_⟩) (h := ?_); rotate_left
  · intro w hSw; (try dsimp only at hSw); go_simp; (try with_reducible rfl)
  simp only [Act.put, List.setIfInBounds_toArray, List.set_cons_zero, List.set_cons_succ]
  have c0 := R.cell 0 rfl
  have c1 := R.cell 1 rfl
  have c2 := R.cell 2 rfl
  have fc := R.frozen
  refine ready_at (i := 2) rfl (by kernel_rfl) (fun KK hKK => ?_)
  go_simp
  obtain ⟨wa, hwa⟩ : ∃ y, (((wd.setCell ⟨w.heap.size, 0, none⟩ (.int .i64 v)).setCell ⟨w.heap.size, 1, none⟩ (.string s)).setCell ⟨w.heap.size, 2, none⟩ (.slice ua xs.length uc)) = y := ⟨_, rfl⟩
  have kwa : Kp wd wa (fun k => k = w.heap.size) := hwa ▸ ((set_kp _ _ _ _).trans (set_kp _ _ _ _)).trans (set_kp _ _ _ _)
  replace R : Loc wa (w.heap.size) #[.int .i64 v, .string s, .slice ua xs.length uc] := hwa ▸ ((R.set 0 _ rfl).set 1 _ rfl).set 2 _ rfl
  replace Z := Z.kp kwa (by omega)
  replace Y := Y.kp kwa (by omega)
  replace X := X.kp kwa (by omega)
  replace O := O.kp kwa (fun j hj e => by have := tO j hj; omega)
  replace O7 := O7.kp kwa (fun j hj e => by have := tO7 j hj; omega)
  replace B := Below.kp B kwa B.size (fun k hk => by omega)
  have zwa := kwa.size
  rw [hwa]
  clear hwa kwa c0 c1 c2 fc
  clear hHeld
  refine hKK.out _ _ ⟨⟨Y.cell 0 rfl, Y.cell 1 rfl, Y.cell 2 rfl⟩, ⟨X.cell 0 rfl, X.cell 1 rfl, X.cell 2 rfl⟩⟩ (fun hHeld => ?_)
  clear hKK KK
  have c0 := Z.cell 0 rfl
  have c1 := Z.cell 1 rfl
  have c2 := Z.cell 2 rfl
  have fc := Z.frozen
  refine ready_at (i := 3) rfl (by kernel_rfl) (fun KK hKK => ?_)
  go_simp
  obtain ⟨wb, hwb⟩ : ∃ y, (((wa.setCell ⟨w.heap.size + 1, 0, none⟩ (.int .i64 v')).setCell ⟨w.heap.size + 1, 1, none⟩ (.string s')).setCell ⟨w.heap.size + 1, 2, none⟩ (.slice va ys.length vc)) = y := ⟨_, rfl⟩
  have kwb : Kp wa wb (fun k => k = w.heap.size + 1) := hwb ▸ ((set_kp _ _ _ _).trans (set_kp _ _ _ _)).trans (set_kp _ _ _ _)
  replace Z : Loc wb (w.heap.size + 1) #[.int .i64 v', .string s', .slice va ys.length vc] := hwb ▸ ((Z.set 0 _ rfl).set 1 _ rfl).set 2 _ rfl
  replace R := R.kp kwb (by omega)
  replace Y := Y.kp kwb (by omega)
  replace X := X.kp kwb (by omega)
  replace O := O.kp kwb (fun j hj e => by have := tO j hj; omega)
  replace O7 := O7.kp kwb (fun j hj e => by have := tO7 j hj; omega)
  replace B := Below.kp B kwb B.size (fun k hk => by omega)
  have zwb := kwb.size
  rw [hwb]
  clear hwb kwb c0 c1 c2 fc
  clear hHeld
  refine hKK.out _ _ ⟨⟨Y.cell 0 rfl, Y.cell 1 rfl, Y.cell 2 rfl⟩, ⟨X.cell 0 rfl, X.cell 1 rfl, X.cell 2 rfl⟩⟩ (fun hHeld => ?_)
  clear hKK KK
  clear hHeld
  refine wpAnyH_done (by kernel_rfl) ?_ _
  refine NoPanic.normal ?_
  have r0 := R.cell 0 rfl
  have r1 := R.cell 1 rfl
  have r2 := R.cell 2 rfl
  have z0 := Z.cell 0 rfl
  have z1 := Z.cell 1 rfl
  have z2 := Z.cell 2 rfl
  clear R Z Y X
  go_wp2
  refine bodyPost_ret (v := .tuple #[qv v s (.slice ua xs.length uc), qv v' s' (.slice va ys.length vc)]) (by simp [results, Tryz.results63, go_sem, r0, r1, r2, z0, z1, z2]) rfl ?_
  exact ⟨_, _, _, _, _, _, _, _, rfl, hs, hl, hw, hs7, hl7, hw7, O.mono (by omega), O7.mono (by omega), B⟩
end Go.Proofs.YtgfboghieejbkaaGreatDoor
