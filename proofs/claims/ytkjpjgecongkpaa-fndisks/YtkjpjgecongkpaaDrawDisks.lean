/- DrawDisks: spec.DrawFallTo, DrawAppend. -/
import Derived.Test.YtkjpjgecongkpaaDrawDisk
import Derived.Test.YtkjpjgecongkpaaHeldBy
import Derived.Deep.DeepCutAuto
namespace Go.Proofs.Ytkjpjgecongkpaa
open Go.RowKit

set_option maxHeartbeats 8000000 in
set_option maxRecDepth 100000 in
theorem drawFallTo (ao : Option Addr) (ca : Nat) (zs : List Int) (w : World) (h : DCode w ao zs) :
    Calls Try.prog 9 #[.slice ao zs.length ca] w fun e w' => ∃ (u : Value) (s : Int) (xs : List Int) (keep : Int), e = .returned (.tuple #[dv u s, .int .i64 keep]) ∧ xs.length ≤ 100001 ∧ OB w' w.heap.size u xs ∧ Below w.heap.size w w' := by
  obtain ⟨w0, hw0⟩ : ∃ w0, w.alloc (.cells #[.slice none 0 0, .int .i64 0] 25) = w0 := ⟨_, rfl⟩
  have B : Below w.heap.size w w0 := hw0 ▸ qalloc _ _
  have R : Loc w0 w.heap.size #[.slice none 0 0, .int .i64 0] := hw0 ▸ loc_at w _ _ rfl
  have s0 : w.heap.size + 1 ≤ w0.heap.size := by rw [← hw0]; simp
  have D0 := h.below B (Nat.le_refl _)
  have NW := hide (new_any ao ca zs w0 D0.len D0.code D0.fit)
  clear h D0
  go_enter Try.func9, Try.ntmps9
  go_wp2_with fail
  clear hw0
  refine (unhide NW).mono ?_
  rintro e w1 ⟨rfl, C, b1⟩
  replace B := B.trans (b1.mono B.size)
  replace R := R.below b1 R.lt
  have s1 := b1.size
  generalize w0.heap.size = g at *
  have hg1 := C.lt
  clear b1 NW
  have DR := hide (l13Draw_any g g ca ao zs w1 (by omega) C)
  clear C
  go_wp2_with fail
  refine (unhide DR).mono ?_
  rintro e w2 ⟨u, s, xs, rfl, hl, O, C, G⟩
  clear DR
  have k2 := kp_one G
  have s2 := G.size
  replace B := Below.kp B k2 B.size (fun k hk => by omega)
  replace R := R.kp k2 (by omega)
  have tO := World.ownsRow.lt O
  obtain ⟨ua, uc, rfl⟩ := O.form
  clear k2 G
  obtain ⟨w3, hw3⟩ : ∃ y, w2.alloc (.cells #[.slice ua xs.length uc, .int .i64 s] 25) = y := ⟨_, rfl⟩
  have b3 : Below w2.heap.size w2 w3 := hw3 ▸ qalloc _ _
  have LD : Loc w3 w2.heap.size #[.slice ua xs.length uc, .int .i64 s] := hw3 ▸ loc_at w2 _ _ rfl
  replace B := B.trans (b3.mono B.size)
  replace R := R.below b3 R.lt
  replace O := O.below b3
  replace C := C.below (by omega) b3
  have s3 := b3.size
  have HC := hide C
  clear b3 C
  go_upto_region 3 with fail
  clear hw3
  have C := unhide HC
  refine wp_region_noPanic ?_
  refine wp_region_held_drew (S := fun w' => w'.cell? ⟨w2.heap.size, 0, none⟩ = some (.slice ua xs.length uc) ∧ w'.cell? ⟨w2.heap.size, 1, none⟩ = some (.int .i64 s)) (by kernel_rfl) ⟨LD.cell 0 rfl, LD.cell 1 rfl⟩ (fun hHeld => ?_)
  obtain ⟨wd, hd⟩ : ∃ wd, w3.drew = wd := ⟨_, rfl⟩
  have bd : Below w3.heap.size w3 wd := hd ▸ Below.drew (Below.refl _ _)
  have sd : w3.heap.size ≤ wd.heap.size := bd.size
  have lD := LD.lt
  replace B := B.trans (bd.mono B.size)
  replace R := R.below bd R.lt
  replace LD := LD.below bd LD.lt
  replace O := O.below bd
  replace C := C.below (by omega) bd
  rw [hd] at hHeld ⊢
  clear hd bd
  refine take_at (i := 0) (d := 10) (v := ?_) rfl rfl (by kernel_rfl) (by kernel_rfl) (by kernel_rfl) (fun _ _ _ h => h) (Or.inl ⟨by rfl, ?_⟩) (by assumption) ?_
  rotate_left
  · intro w hSw
    try dsimp only at hSw
    go_simp
    try with_reducible rfl
  simp only [Act.put, List.setIfInBounds_toArray, List.set_cons_zero, List.set_cons_succ]
  refine take_at (i := 1) (d := 11) (v := ?_) rfl rfl (by kernel_rfl) (by kernel_rfl) (by kernel_rfl) (fun _ _ _ h => h) (Or.inl ⟨by rfl, ?_⟩) (by assumption) ?_
  rotate_left
  · intro w hSw
    try dsimp only at hSw
    go_simp
    try with_reducible rfl
  simp only [Act.put, List.setIfInBounds_toArray, List.set_cons_zero, List.set_cons_succ]
  refine ready_at (i := 2) rfl (by kernel_rfl) (fun KK hKK => ?_)
  go_simp
  obtain ⟨w4, hw4⟩ : ∃ y, wd.alloc (.cells #[.int .i64 0, .int .i64 1, .int .i64 3, .int .i64 99, .int .i64 (-1), .int .i64 9223372036854775807] 3) = y := ⟨_, rfl⟩
  have b4 : Below wd.heap.size wd w4 := hw4 ▸ qalloc _ _
  have LL : Loc w4 wd.heap.size #[.int .i64 0, .int .i64 1, .int .i64 3, .int .i64 99, .int .i64 (-1), .int .i64 9223372036854775807] := hw4 ▸ loc_at wd _ _ rfl
  have s4 : wd.heap.size + 1 ≤ w4.heap.size := LL.lt
  replace B := B.trans (b4.mono B.size)
  replace R := R.below b4 R.lt
  replace LD := LD.below b4 LD.lt
  replace O := O.below b4
  replace C := C.below (by omega) b4
  rw [hw4]
  clear hw4 b4
  clear hHeld
  refine hKK.out _ _ ⟨LD.cell 0 rfl, LD.cell 1 rfl⟩ (fun hHeld => ?_)
  clear hKK KK
  refine ready_at (i := 3) rfl (by kernel_rfl) (fun KK hKK => ?_)
  go_simp
  refine (pickInt_any g g ca wd.heap.size ao zs [0, 1, 3, 99, -1, 9223372036854775807] w4 (by omega) (by omega) (by simp) (by simp) (fun j hj => by match j, hj with | 0, _ => exact LL.cell 0 rfl | 1, _ => exact LL.cell 1 rfl | 2, _ => exact LL.cell 2 rfl | 3, _ => exact LL.cell 3 rfl | 4, _ => exact LL.cell 4 rfl | 5, _ => exact LL.cell 5 rfl) C).mono ?_
  rintro e w5 ⟨j, hj, rfl, _, G⟩
  generalize ([0, 1, 3, 99, -1, 9223372036854775807] : List Int).getD j 0 = keep
  have k5 := kp_one G
  have s5 := G.size
  replace B := Below.kp B k5 B.size (fun k hk => by omega)
  replace R := R.kp k5 (by omega)
  replace LD := LD.kp k5 (by omega)
  replace O := O.kp k5 (fun j hj e => by have := tO j hj; omega)
  clear k5 G C LL hj
  clear hHeld
  refine hKK.out _ _ ⟨LD.cell 0 rfl, LD.cell 1 rfl⟩ (fun hHeld => ?_)
  clear hKK KK
  have q0 := R.cell 0 rfl
  have q1 := R.cell 1 rfl
  have FG := R.frozen
  refine ready_at (i := 4) rfl (by kernel_rfl) (fun KK hKK => ?_)
  go_simp
  obtain ⟨w6, hw6⟩ : ∃ y, (w5.setCell ⟨w.heap.size, 0, none⟩ (.slice ua xs.length uc)).setCell ⟨w.heap.size, 1, none⟩ (.int .i64 s) = y := ⟨_, rfl⟩
  have k6 : Kp w5 w6 (fun k => k = w.heap.size) := hw6 ▸ (set_kp _ _ _ _).trans (set_kp _ _ _ _)
  replace R : Loc w6 w.heap.size #[.slice ua xs.length uc, .int .i64 s] := hw6 ▸ (R.set 0 _ rfl).set 1 _ rfl
  replace LD := LD.kp k6 (by omega)
  replace O := O.kp k6 (fun j hj e => by have := tO j hj; omega)
  replace B := Below.kp B k6 B.size (fun k hk => by omega)
  have s6 := k6.size
  rw [hw6]
  clear hw6 k6 q0 q1 FG
  clear hHeld
  refine hKK.out _ _ ⟨LD.cell 0 rfl, LD.cell 1 rfl⟩ (fun hHeld => ?_)
  clear hKK KK
  refine take_at (i := 5) (d := 3) (v := ?_) rfl rfl (by kernel_rfl) (by kernel_rfl) (by kernel_rfl) (fun _ _ _ h => h) (Or.inl ⟨by rfl, ?_⟩) (by assumption) ?_
  rotate_left
  · intro w hSw
    try dsimp only at hSw
    go_simp
    try with_reducible rfl
  simp only [Act.put, List.setIfInBounds_toArray, List.set_cons_zero, List.set_cons_succ]
  clear hHeld
  refine wpAnyH_done (by kernel_rfl) ?_ _
  refine NoPanic.normal ?_
  have r0 := R.cell 0 rfl
  have r1 := R.cell 1 rfl
  have BB := hide B
  clear B
  go_wp2
  refine bodyPost_ret (v := .tuple #[dv (.slice ua xs.length uc) s, .int .i64 keep]) (by simp [results, Try.results9, go_sem, r0, r1]) rfl ?_
  exact ⟨_, _, xs, _, rfl, hl, O.mono (by omega), unhide BB⟩
set_option maxHeartbeats 8000000 in
set_option maxRecDepth 100000 in
theorem drawAppend (ao : Option Addr) (ca : Nat) (zs : List Int) (w : World) (h : DCode w ao zs) :
    Calls Try.prog 11 #[.slice ao zs.length ca] w fun e w' => ∃ (u : Value) (s : Int) (xs : List Int) (v : Value) (ys : List Int), e = .returned (.tuple #[dv u s, v]) ∧ xs.length ≤ 100001 ∧ ys.length ≤ 30 ∧ OB w' w.heap.size u xs ∧ OB w' w.heap.size v ys ∧ Below w.heap.size w w' := by
  obtain ⟨w0, hw0⟩ : ∃ w0, w.alloc (.cells #[.slice none 0 0, .int .i64 0] 25) = w0 := ⟨_, rfl⟩
  have B : Below w.heap.size w w0 := hw0 ▸ qalloc _ _
  have R : Loc w0 w.heap.size #[.slice none 0 0, .int .i64 0] := hw0 ▸ loc_at w _ _ rfl
  have s0 : w.heap.size + 1 ≤ w0.heap.size := by rw [← hw0]; simp
  have D0 := h.below B (Nat.le_refl _)
  have NW := hide (new_any ao ca zs w0 D0.len D0.code D0.fit)
  clear h D0
  go_enter Try.func11, Try.ntmps11
  go_wp2_with fail
  clear hw0
  refine (unhide NW).mono ?_
  rintro e w1 ⟨rfl, C, b1⟩
  replace B := B.trans (b1.mono B.size)
  replace R := R.below b1 R.lt
  have s1 := b1.size
  generalize w0.heap.size = g at *
  have hg1 := C.lt
  clear b1 NW
  have DR := hide (l13Draw_any g g ca ao zs w1 (by omega) C)
  clear C
  go_wp2_with fail
  refine (unhide DR).mono ?_
  rintro e w2 ⟨u, s, xs, rfl, hl, O, C, G⟩
  clear DR
  have k2 := kp_one G
  have s2 := G.size
  replace B := Below.kp B k2 B.size (fun k hk => by omega)
  replace R := R.kp k2 (by omega)
  have tO := World.ownsRow.lt O
  obtain ⟨ua, uc, rfl⟩ := O.form
  clear k2 G
  obtain ⟨w3, hw3⟩ : ∃ y, w2.alloc (.cells #[.slice ua xs.length uc, .int .i64 s] 25) = y := ⟨_, rfl⟩
  have b3 : Below w2.heap.size w2 w3 := hw3 ▸ qalloc _ _
  have LD : Loc w3 w2.heap.size #[.slice ua xs.length uc, .int .i64 s] := hw3 ▸ loc_at w2 _ _ rfl
  replace B := B.trans (b3.mono B.size)
  replace R := R.below b3 R.lt
  replace O := O.below b3
  replace C := C.below (by omega) b3
  have s3 := b3.size
  have HC := hide C
  clear b3 C
  go_upto_region 3 with fail
  clear hw3
  have C := unhide HC
  refine wp_region_noPanic ?_
  refine wp_region_held_drew (S := fun w' => w'.cell? ⟨w2.heap.size, 0, none⟩ = some (.slice ua xs.length uc) ∧ w'.cell? ⟨w2.heap.size, 1, none⟩ = some (.int .i64 s)) (by kernel_rfl) ⟨LD.cell 0 rfl, LD.cell 1 rfl⟩ (fun hHeld => ?_)
  obtain ⟨wd, hd⟩ : ∃ wd, w3.drew = wd := ⟨_, rfl⟩
  have bd : Below w3.heap.size w3 wd := hd ▸ Below.drew (Below.refl _ _)
  have sd : w3.heap.size ≤ wd.heap.size := bd.size
  have lD := LD.lt
  replace B := B.trans (bd.mono B.size)
  replace R := R.below bd R.lt
  replace LD := LD.below bd LD.lt
  replace O := O.below bd
  replace C := C.below (by omega) bd
  rw [hd] at hHeld ⊢
  clear hd bd
  refine take_at (i := 0) (d := 10) (v := ?_) rfl rfl (by kernel_rfl) (by kernel_rfl) (by kernel_rfl) (fun _ _ _ h => h) (Or.inl ⟨by rfl, ?_⟩) (by assumption) ?_
  rotate_left
  · intro w hSw
    try dsimp only at hSw
    go_simp
    try with_reducible rfl
  simp only [Act.put, List.setIfInBounds_toArray, List.set_cons_zero, List.set_cons_succ]
  refine take_at (i := 1) (d := 11) (v := ?_) rfl rfl (by kernel_rfl) (by kernel_rfl) (by kernel_rfl) (fun _ _ _ h => h) (Or.inl ⟨by rfl, ?_⟩) (by assumption) ?_
  rotate_left
  · intro w hSw
    try dsimp only at hSw
    go_simp
    try with_reducible rfl
  simp only [Act.put, List.setIfInBounds_toArray, List.set_cons_zero, List.set_cons_succ]
  refine ready_at (i := 2) rfl (by kernel_rfl) (fun KK hKK => ?_)
  go_simp
  refine (drawNums_any g g ca ao zs wd (by omega) C).mono ?_
  rintro e w5 ⟨v, ys, rfl, hyl, _, O2, _, _, G⟩
  have tO2 := World.ownsRow.lt O2
  obtain ⟨va, vc, rfl⟩ := O2.form
  have k5 := kp_one G
  have s5 := G.size
  replace B := Below.kp B k5 B.size (fun k hk => by omega)
  replace R := R.kp k5 (by omega)
  replace LD := LD.kp k5 (by omega)
  replace O := O.kp k5 (fun j hj e => by have := tO j hj; omega)
  clear k5 G C
  clear hHeld
  refine hKK.out _ _ ⟨LD.cell 0 rfl, LD.cell 1 rfl⟩ (fun hHeld => ?_)
  clear hKK KK
  have q0 := R.cell 0 rfl
  have q1 := R.cell 1 rfl
  have FG := R.frozen
  refine ready_at (i := 3) rfl (by kernel_rfl) (fun KK hKK => ?_)
  go_simp
  obtain ⟨w6, hw6⟩ : ∃ y, (w5.setCell ⟨w.heap.size, 0, none⟩ (.slice ua xs.length uc)).setCell ⟨w.heap.size, 1, none⟩ (.int .i64 s) = y := ⟨_, rfl⟩
  have k6 : Kp w5 w6 (fun k => k = w.heap.size) := hw6 ▸ (set_kp _ _ _ _).trans (set_kp _ _ _ _)
  replace R : Loc w6 w.heap.size #[.slice ua xs.length uc, .int .i64 s] := hw6 ▸ (R.set 0 _ rfl).set 1 _ rfl
  replace LD := LD.kp k6 (by omega)
  replace O := O.kp k6 (fun j hj e => by have := tO j hj; omega)
  replace O2 := O2.kp k6 (fun j hj e => by have := tO2 j hj; omega)
  replace B := Below.kp B k6 B.size (fun k hk => by omega)
  have s6 := k6.size
  rw [hw6]
  clear hw6 k6 q0 q1 FG
  clear hHeld
  refine hKK.out _ _ ⟨LD.cell 0 rfl, LD.cell 1 rfl⟩ (fun hHeld => ?_)
  clear hKK KK
  refine take_at (i := 4) (d := 3) (v := ?_) rfl rfl (by kernel_rfl) (by kernel_rfl) (by kernel_rfl) (fun _ _ _ h => h) (Or.inl ⟨by rfl, ?_⟩) (by assumption) ?_
  rotate_left
  · intro w hSw
    try dsimp only at hSw
    go_simp
    try with_reducible rfl
  simp only [Act.put, List.setIfInBounds_toArray, List.set_cons_zero, List.set_cons_succ]
  clear hHeld
  refine wpAnyH_done (by kernel_rfl) ?_ _
  refine NoPanic.normal ?_
  have r0 := R.cell 0 rfl
  have r1 := R.cell 1 rfl
  have BB := hide B
  clear B
  go_wp2
  refine bodyPost_ret (v := .tuple #[dv (.slice ua xs.length uc) s, .slice va ys.length vc]) (by simp [results, Try.results11, go_sem, r0, r1]) rfl ?_
  exact ⟨_, _, xs, _, ys, rfl, hl, hyl, O.mono (by omega), O2.mono (by omega), unhide BB⟩
end Go.Proofs.Ytkjpjgecongkpaa
