/- The draws of chapter 9: l9Draw, DrawWay, DrawSits, DrawUnder, DrawRoot. -/
import Derived.Test.YtkjmkcipalmonaaDrawConfL
import Derived.Test.YtkjmkcipalmonaaHeldBy
namespace Go.Proofs.Ytkjmkcipalmonaa
open Go.RowKit
set_option linter.unusedSectionVars false
variable [∀ (a b c d : Int), Decidable (Ok4 a b c d)]
variable [∀ (n f : Int), Decidable (COk n f)]

set_option maxHeartbeats 8000000 in
set_option maxRecDepth 100000 in
theorem l9Draw_any (ao : Option Addr) (ca : Nat) (zs : List Int) (w : World) (h : DCode w ao zs) :
    Calls Try.prog 41 #[.slice ao zs.length ca] w fun e w' => ∃ n f v i : Int, e = .returned (.tuple #[cv n f, .int .i64 v, .int .i64 i]) ∧ Below w.heap.size w w' := by
  obtain ⟨w0, hw0⟩ : ∃ w0, w.alloc zc = w0 := ⟨_, rfl⟩
  have B : Below w.heap.size w w0 := hw0 ▸ qalloc _ _
  have R : Loc w0 w.heap.size #[.int .i64 0, .int .i64 0] := hw0 ▸ loc_at w _ _ rfl
  have s0 : w.heap.size + 1 ≤ w0.heap.size := by rw [← hw0]; simp
  have D0 := h.below B (Nat.le_refl _)
  have NW := hide (new_any ao ca zs w0 D0.len D0.code D0.fit)
  clear h D0
  go_enter Try.func41, Try.ntmps41
  go_wp2_with fail
  clear hw0
  refine (unhide NW).mono ?_
  rintro e w1 ⟨rfl, C, b1⟩
  replace B := B.trans (b1.mono B.size)
  replace R := R.below b1 R.lt
  have s1 := b1.size
  generalize w0.heap.size = g at *
  have hg1 := C.lt
  clear b1 NW
  go_wp2_with fail
  refine (drawBent g g ca ao zs _ (by omega) C).mono ?_
  rintro e w2 ⟨n, f, rfl, c1, e1⟩
  have s2 := e1.size
  replace R := R.grown e1 (by omega)
  replace B := cur_below e1 B B.size (by omega)
  replace C := c1
  clear c1 e1
  obtain ⟨w3, hw3⟩ : ∃ y, w2.alloc (.cells #[.int .i64 n, .int .i64 f] 25) = y := ⟨_, rfl⟩
  have bb : Below w2.heap.size w2 w3 := hw3 ▸ qalloc _ _
  have X : Loc w3 w2.heap.size #[.int .i64 n, .int .i64 f] := hw3 ▸ loc_at w2 _ _ rfl
  have s3 : w2.heap.size + 1 ≤ w3.heap.size := by rw [← hw3]; simp
  replace R := R.below bb R.lt
  replace C := C.below (by omega) bb
  replace B := B.trans (bb.mono B.size)
  clear bb
  go_wp2_with fail
  clear hw3
  refine (pickInt_lit g g ca ao zs [0, 1, 2, 5, 13, 60, -1, 9223372036854775807] _ (by omega) (by decide) (by decide) C).mono ?_
  rintro e w4 ⟨v, rfl, hv, c1, e1⟩
  have s4 := e1.size
  replace R := R.grown e1 (by omega)
  replace X := X.grown e1 (by omega)
  replace B := cur_below e1 B B.size (by omega)
  replace C := c1
  clear c1 e1
  go_upto_region 4 with fail
  refine wp_region_noPanic ?_
  refine wp_region_held_drew (S := fun w' => (w'.cell? ⟨w2.heap.size, 0, none⟩ = some (.int .i64 n) ∧ w'.cell? ⟨w2.heap.size, 1, none⟩ = some (.int .i64 f))) (by kernel_rfl) ⟨X.cell 0 rfl, X.cell 1 rfl⟩ (fun hHeld => ?_)
  obtain ⟨wd, hd⟩ : ∃ wd, w4.drew = wd := ⟨_, rfl⟩
  have bd : Below w4.heap.size w4 wd := hd ▸ Below.drew (Below.refl _ _)
  have sd : w4.heap.size ≤ wd.heap.size := bd.size
  replace R := R.below bd R.lt
  replace X := X.below bd X.lt
  replace C := C.below (by omega) bd
  replace B := B.trans (bd.mono B.size)
  rw [hd] at hHeld ⊢
  clear hd bd
  refine take_at (i := 0) (d := 15) (v := ?_) rfl rfl (by kernel_rfl) (by kernel_rfl) (by kernel_rfl) (fun _ _ _ h => h) (Or.inl ⟨by rfl, ?_⟩) (by assumption) ?_
  rotate_left
  · intro w hSw
    try dsimp only at hSw
    go_simp
    try with_reducible rfl
  simp only [Act.put, List.setIfInBounds_toArray, List.set_cons_zero, List.set_cons_succ]
  refine take_at (i := 1) (d := 16) (v := ?_) rfl rfl (by kernel_rfl) (by kernel_rfl) (by kernel_rfl) (fun _ _ _ h => h) (Or.inl ⟨by rfl, ?_⟩) (by assumption) ?_
  rotate_left
  · intro w hSw
    try dsimp only at hSw
    go_simp
    try with_reducible rfl
  simp only [Act.put, List.setIfInBounds_toArray, List.set_cons_zero, List.set_cons_succ]
  refine take_at (i := 2) (d := 17) (v := ?_) rfl rfl (by kernel_rfl) (by kernel_rfl) (by kernel_rfl) (fun _ _ _ h => h) (Or.inl ⟨by rfl, ?_⟩) (by assumption) ?_
  rotate_left
  · intro w hSw
    try dsimp only at hSw
    go_simp
    try with_reducible rfl
  simp only [Act.put, List.setIfInBounds_toArray, List.set_cons_zero, List.set_cons_succ]
  refine ready_at (i := 3) rfl (by kernel_rfl) (fun KK hKK => ?_)
  go_simp
  refine (below_any g g ca ao zs 9 _ (by omega) (by omega) (by omega) C).mono ?_
  rintro e wk ⟨x, rfl, hx0, hx1, c1, e1⟩
  have sk := e1.size
  replace R := R.grown e1 (by omega)
  replace X := X.grown e1 (by omega)
  replace B := cur_below e1 B B.size (by omega)
  replace C := c1
  clear c1 e1
  clear hHeld
  refine hKK.out _ _ ⟨X.cell 0 rfl, X.cell 1 rfl⟩ (fun hHeld => ?_)
  clear hKK KK
  refine take_at (i := 4) (d := 19) (v := ?_) rfl rfl (by kernel_rfl) (by kernel_rfl) (by kernel_rfl) (fun _ _ _ h => h) (Or.inl ⟨by rfl, ?_⟩) (by assumption) ?_
  rotate_left
  · intro w hSw
    try dsimp only at hSw
    go_simp
    try with_reducible rfl
  simp only [Act.put, List.setIfInBounds_toArray, List.set_cons_zero, List.set_cons_succ]
  have c0 := R.cell 0 rfl
  have c1 := R.cell 1 rfl
  have fc := R.frozen
  refine ready_at (i := 5) rfl (by kernel_rfl) (fun KK hKK => ?_)
  go_simp
  obtain ⟨wa, hwa⟩ : ∃ y, ((wk.setCell ⟨w.heap.size, 0, none⟩ (.int .i64 n)).setCell ⟨w.heap.size, 1, none⟩ (.int .i64 f)) = y := ⟨_, rfl⟩
  have kwa : Kp wk wa (fun k => k = w.heap.size) := hwa ▸ (set_kp _ _ _ _).trans (set_kp _ _ _ _)
  replace R : Loc wa (w.heap.size) #[.int .i64 n, .int .i64 f] := hwa ▸ ((R.set 0 _ rfl).set 1 _ rfl)
  replace X := X.kp kwa (by omega)
  replace B := Below.kp B kwa B.size (fun k hk => by omega)
  have zwa := kwa.size
  rw [hwa]
  clear hwa kwa c0 c1 fc
  clear hHeld
  refine hKK.out _ _ ⟨X.cell 0 rfl, X.cell 1 rfl⟩ (fun hHeld => ?_)
  clear hKK KK
  refine take_at (i := 6) (d := 3) (v := ?_) rfl rfl (by kernel_rfl) (by kernel_rfl) (by kernel_rfl) (fun _ _ _ h => h) (Or.inl ⟨by rfl, ?_⟩) (by assumption) ?_
  rotate_left
  · intro w hSw
    try dsimp only at hSw
    go_simp
    try with_reducible rfl
  simp only [Act.put, List.setIfInBounds_toArray, List.set_cons_zero, List.set_cons_succ]
  refine take_at (i := 7) (d := 4) (v := ?_) rfl rfl (by kernel_rfl) (by kernel_rfl) (by kernel_rfl) (fun _ _ _ h => h) (Or.inl ⟨by rfl, ?_⟩) (by assumption) ?_
  rotate_left
  · intro w hSw
    try dsimp only at hSw
    go_simp
    try with_reducible rfl
  simp only [Act.put, List.setIfInBounds_toArray, List.set_cons_zero, List.set_cons_succ]
  clear hHeld
  refine wpAnyH_done (by kernel_rfl) ?_ _
  refine NoPanic.normal ?_
  have r0 := R.cell 0 rfl
  have r1 := R.cell 1 rfl
  clear R X C
  go_wp2
  refine bodyPost_ret (v := .tuple #[cv n f, .int .i64 v, .int .i64 (IntKind.i64.wrap (x - 1))]) (by simp [results, Try.results41, go_sem, r0, r1]) rfl ?_
  exact ⟨n, f, v, _, rfl, B⟩

set_option maxHeartbeats 8000000 in
set_option maxRecDepth 100000 in
theorem drawWay_any (ao : Option Addr) (ca : Nat) (zs : List Int) (w : World) (h : DCode w ao zs) :
    Calls Try.prog 14 #[.slice ao zs.length ca] w fun e w' => ∃ n f v i : Int, e = .returned (.tuple #[cv n f, .int .i64 v, .int .i64 i]) ∧ Below w.heap.size w w' := by
  obtain ⟨w0, hw0⟩ : ∃ w0, w.alloc zc = w0 := ⟨_, rfl⟩
  have B0 : Below w.heap.size w w0 := hw0 ▸ qalloc _ _
  have R0 : Loc w0 w.heap.size #[.int .i64 0, .int .i64 0] := hw0 ▸ loc_at w _ _ rfl
  have D := hide (l9Draw_any ao ca zs w0 (h.below B0 (Nat.le_refl _)))
  clear h
  go_enter Try.func14, Try.ntmps14
  go_wp2_with fail
  clear hw0
  refine (unhide D).mono ?_
  rintro e w1 ⟨n, f, v, i, rfl, b1⟩
  have R1 := R0.below b1 R0.lt
  have B1 := B0.trans (b1.mono B0.size)
  clear R0 b1 B0 D
  obtain ⟨w2, hw2⟩ : ∃ y, w1.alloc (.cells #[.int .i64 n, .int .i64 f] 25) = y := ⟨_, rfl⟩
  have b2 : Below w1.heap.size w1 w2 := hw2 ▸ qalloc _ _
  have X2 : Loc w2 w1.heap.size #[.int .i64 n, .int .i64 f] := hw2 ▸ loc_at w1 _ _ rfl
  have R2 := R1.below b2 R1.lt
  have B2 := B1.trans (b2.mono B1.size)
  have x0 := X2.cell 0 rfl
  have x1 := X2.cell 1 rfl
  have r0 := R2.cell 0 rfl
  have r1 := R2.cell 1 rfl
  have fr := R2.frozen
  obtain ⟨w3, hw3⟩ : ∃ y, (w2.setCell ⟨w.heap.size, 0, none⟩ (.int .i64 n)).setCell ⟨w.heap.size, 1, none⟩ (.int .i64 f) = y := ⟨_, rfl⟩
  have R3 : Loc w3 w.heap.size #[.int .i64 n, .int .i64 f] := hw3 ▸ (R2.set 0 _ rfl).set 1 _ rfl
  have B3 : Below w.heap.size w w3 := hw3 ▸ (B2.setCell (p := ⟨w.heap.size, 0, none⟩) (Nat.le_refl _) _).setCell (p := ⟨w.heap.size, 1, none⟩) (Nat.le_refl _) _
  have y0 := R3.cell 0 rfl
  have y1 := R3.cell 1 rfl
  clear R1 b2 X2 R2 B1 B2 R3
  go_wp2
  refine bodyPost_ret (v := .tuple #[cv n f, .int .i64 v, .int .i64 i]) (by simp [results, Try.results14, go_sem, y0, y1]) rfl ?_
  exact ⟨n, f, v, i, rfl, B3⟩

set_option maxHeartbeats 8000000 in
set_option maxRecDepth 100000 in
theorem drawSits_any (ao : Option Addr) (ca : Nat) (zs : List Int) (w : World) (h : DCode w ao zs) :
    Calls Try.prog 18 #[.slice ao zs.length ca] w fun e w' => ∃ n f v i : Int, e = .returned (.tuple #[cv n f, .int .i64 v, .int .i64 i]) ∧ Below w.heap.size w w' := by
  obtain ⟨w0, hw0⟩ : ∃ w0, w.alloc zc = w0 := ⟨_, rfl⟩
  have B0 : Below w.heap.size w w0 := hw0 ▸ qalloc _ _
  have R0 : Loc w0 w.heap.size #[.int .i64 0, .int .i64 0] := hw0 ▸ loc_at w _ _ rfl
  have D := hide (l9Draw_any ao ca zs w0 (h.below B0 (Nat.le_refl _)))
  clear h
  go_enter Try.func18, Try.ntmps18
  go_wp2_with fail
  clear hw0
  refine (unhide D).mono ?_
  rintro e w1 ⟨n, f, v, i, rfl, b1⟩
  have R1 := R0.below b1 R0.lt
  have B1 := B0.trans (b1.mono B0.size)
  clear R0 b1 B0 D
  obtain ⟨w2, hw2⟩ : ∃ y, w1.alloc (.cells #[.int .i64 n, .int .i64 f] 25) = y := ⟨_, rfl⟩
  have b2 : Below w1.heap.size w1 w2 := hw2 ▸ qalloc _ _
  have X2 : Loc w2 w1.heap.size #[.int .i64 n, .int .i64 f] := hw2 ▸ loc_at w1 _ _ rfl
  have R2 := R1.below b2 R1.lt
  have B2 := B1.trans (b2.mono B1.size)
  have x0 := X2.cell 0 rfl
  have x1 := X2.cell 1 rfl
  have r0 := R2.cell 0 rfl
  have r1 := R2.cell 1 rfl
  have fr := R2.frozen
  obtain ⟨w3, hw3⟩ : ∃ y, (w2.setCell ⟨w.heap.size, 0, none⟩ (.int .i64 n)).setCell ⟨w.heap.size, 1, none⟩ (.int .i64 f) = y := ⟨_, rfl⟩
  have R3 : Loc w3 w.heap.size #[.int .i64 n, .int .i64 f] := hw3 ▸ (R2.set 0 _ rfl).set 1 _ rfl
  have B3 : Below w.heap.size w w3 := hw3 ▸ (B2.setCell (p := ⟨w.heap.size, 0, none⟩) (Nat.le_refl _) _).setCell (p := ⟨w.heap.size, 1, none⟩) (Nat.le_refl _) _
  have y0 := R3.cell 0 rfl
  have y1 := R3.cell 1 rfl
  clear R1 b2 X2 R2 B1 B2 R3
  go_wp2
  refine bodyPost_ret (v := .tuple #[cv n f, .int .i64 v, .int .i64 i]) (by simp [results, Try.results18, go_sem, y0, y1]) rfl ?_
  exact ⟨n, f, v, i, rfl, B3⟩

set_option maxHeartbeats 8000000 in
set_option maxRecDepth 100000 in
theorem drawUnder_any (ao : Option Addr) (ca : Nat) (zs : List Int) (w : World) (h : DCode w ao zs) :
    Calls Try.prog 35 #[.slice ao zs.length ca] w fun e w' => ∃ n f v i : Int, e = .returned (.tuple #[cv n f, .int .i64 v, .int .i64 i]) ∧ Below w.heap.size w w' := by
  obtain ⟨w0, hw0⟩ : ∃ w0, w.alloc zc = w0 := ⟨_, rfl⟩
  have B0 : Below w.heap.size w w0 := hw0 ▸ qalloc _ _
  have R0 : Loc w0 w.heap.size #[.int .i64 0, .int .i64 0] := hw0 ▸ loc_at w _ _ rfl
  have D := hide (l9Draw_any ao ca zs w0 (h.below B0 (Nat.le_refl _)))
  clear h
  go_enter Try.func35, Try.ntmps35
  go_wp2_with fail
  clear hw0
  refine (unhide D).mono ?_
  rintro e w1 ⟨n, f, v, i, rfl, b1⟩
  have R1 := R0.below b1 R0.lt
  have B1 := B0.trans (b1.mono B0.size)
  clear R0 b1 B0 D
  obtain ⟨w2, hw2⟩ : ∃ y, w1.alloc (.cells #[.int .i64 n, .int .i64 f] 25) = y := ⟨_, rfl⟩
  have b2 : Below w1.heap.size w1 w2 := hw2 ▸ qalloc _ _
  have X2 : Loc w2 w1.heap.size #[.int .i64 n, .int .i64 f] := hw2 ▸ loc_at w1 _ _ rfl
  have R2 := R1.below b2 R1.lt
  have B2 := B1.trans (b2.mono B1.size)
  have x0 := X2.cell 0 rfl
  have x1 := X2.cell 1 rfl
  have r0 := R2.cell 0 rfl
  have r1 := R2.cell 1 rfl
  have fr := R2.frozen
  obtain ⟨w3, hw3⟩ : ∃ y, (w2.setCell ⟨w.heap.size, 0, none⟩ (.int .i64 n)).setCell ⟨w.heap.size, 1, none⟩ (.int .i64 f) = y := ⟨_, rfl⟩
  have R3 : Loc w3 w.heap.size #[.int .i64 n, .int .i64 f] := hw3 ▸ (R2.set 0 _ rfl).set 1 _ rfl
  have B3 : Below w.heap.size w w3 := hw3 ▸ (B2.setCell (p := ⟨w.heap.size, 0, none⟩) (Nat.le_refl _) _).setCell (p := ⟨w.heap.size, 1, none⟩) (Nat.le_refl _) _
  have y0 := R3.cell 0 rfl
  have y1 := R3.cell 1 rfl
  clear R1 b2 X2 R2 B1 B2 R3
  go_wp2
  refine bodyPost_ret (v := .tuple #[cv n f, .int .i64 v, .int .i64 i]) (by simp [results, Try.results35, go_sem, y0, y1]) rfl ?_
  exact ⟨n, f, v, i, rfl, B3⟩

set_option maxHeartbeats 8000000 in
set_option maxRecDepth 100000 in
theorem drawRoot_any (ao : Option Addr) (ca : Nat) (zs : List Int) (w : World) (h : DCode w ao zs) :
    Calls Try.prog 32 #[.slice ao zs.length ca] w fun e w' => ∃ n f v : Int, e = .returned (.tuple #[cv n f, .int .i64 v]) ∧ Below w.heap.size w w' := by
  obtain ⟨w0, hw0⟩ : ∃ w0, w.alloc zc = w0 := ⟨_, rfl⟩
  have B0 : Below w.heap.size w w0 := hw0 ▸ qalloc _ _
  have R0 : Loc w0 w.heap.size #[.int .i64 0, .int .i64 0] := hw0 ▸ loc_at w _ _ rfl
  have D := hide (l9Draw_any ao ca zs w0 (h.below B0 (Nat.le_refl _)))
  clear h
  go_enter Try.func32, Try.ntmps32
  go_wp2_with fail
  clear hw0
  refine (unhide D).mono ?_
  rintro e w1 ⟨n, f, v, i, rfl, b1⟩
  have R1 := R0.below b1 R0.lt
  have B1 := B0.trans (b1.mono B0.size)
  clear R0 b1 B0 D
  obtain ⟨w2, hw2⟩ : ∃ y, w1.alloc (.cells #[.int .i64 n, .int .i64 f] 25) = y := ⟨_, rfl⟩
  have b2 : Below w1.heap.size w1 w2 := hw2 ▸ qalloc _ _
  have X2 : Loc w2 w1.heap.size #[.int .i64 n, .int .i64 f] := hw2 ▸ loc_at w1 _ _ rfl
  have R2 := R1.below b2 R1.lt
  have B2 := B1.trans (b2.mono B1.size)
  have x0 := X2.cell 0 rfl
  have x1 := X2.cell 1 rfl
  have r0 := R2.cell 0 rfl
  have r1 := R2.cell 1 rfl
  have fr := R2.frozen
  obtain ⟨w3, hw3⟩ : ∃ y, (w2.setCell ⟨w.heap.size, 0, none⟩ (.int .i64 n)).setCell ⟨w.heap.size, 1, none⟩ (.int .i64 f) = y := ⟨_, rfl⟩
  have R3 : Loc w3 w.heap.size #[.int .i64 n, .int .i64 f] := hw3 ▸ (R2.set 0 _ rfl).set 1 _ rfl
  have B3 : Below w.heap.size w w3 := hw3 ▸ (B2.setCell (p := ⟨w.heap.size, 0, none⟩) (Nat.le_refl _) _).setCell (p := ⟨w.heap.size, 1, none⟩) (Nat.le_refl _) _
  have y0 := R3.cell 0 rfl
  have y1 := R3.cell 1 rfl
  clear R1 b2 X2 R2 B1 B2 R3
  go_wp2
  refine bodyPost_ret (v := .tuple #[cv n f, .int .i64 v]) (by simp [results, Try.results32, go_sem, y0, y1]) rfl ?_
  exact ⟨n, f, v, rfl, B3⟩
end Go.Proofs.Ytkjmkcipalmonaa
