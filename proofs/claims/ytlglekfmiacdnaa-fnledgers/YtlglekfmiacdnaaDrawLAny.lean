/- The draws of ledgers: spec.l3Draw. -/
import Derived.Test.YtlglekfmiacdnaaDrawLedger
import Derived.Test.YtlglekfmiacdnaaHeldBy
import Derived.Maps.AppendAt
namespace Go.Proofs.Ytlglekfmiacdnaa
open Go.RowKit
set_option linter.unusedSectionVars false
variable [∀ (a b c d : Int), Decidable (Ok4 a b c d)]
variable [∀ (m a b c d : Int), Decidable (In4 m a b c d)]
variable [∀ (xs ys : List Int), Decidable (LOk xs ys)]

theorem Cur.drew {w : World} {base g ca : Nat} {ao : Option Addr} {xs : List Int} (h : Cur w base g ao ca xs) : Cur w.drew base g ao ca xs := ⟨h.low, h.len, h.cells, h.code⟩

set_option maxHeartbeats 8000000 in
set_option maxRecDepth 100000 in
theorem drawL (base g ca : Nat) (ao : Option Addr) (zs : List Int) (w : World) (hB : base ≤ w.heap.size) (h : Cur w base g ao ca zs) :
    Calls Try.prog 40 #[.pointer (some ⟨g, 0, none⟩)] w fun e w' => ∃ u v, ∃ xs ys : List Int, e = .returned (lv u v) ∧ (4 ≤ xs.length ∧ xs.length ≤ 5) ∧ ys.length = 4 ∧ OL w' w.heap.size w'.heap.size u v xs ys ∧ Cur w' base g ao ca zs ∧ w.grownBy w' (some g) := by
  obtain ⟨i0, hi, hz0, hz1, hz2⟩ := info_parts Try.info3
  have hlt := h.lt
  obtain ⟨w0, hw0⟩ : ∃ w0, w.alloc (.cells #[.slice none 0 0, .slice none 0 0] 26) = w0 := ⟨_, rfl⟩
  have b0 : Below w.heap.size w w0 := hw0 ▸ (Below.refl _ _).alloc (Nat.le_refl _) _
  have R0 : Loc w0 w.heap.size #[.slice none 0 0, .slice none 0 0] := hw0 ▸ loc_at w _ _ rfl
  have C0 := h.below hB b0
  clear h
  go_enter Try.func40, Try.ntmps40
  go_wp2_with fail
  clear hw0
  have s0 := b0.size
  have lr0 := R0.lt
  refine (drawRight3 base g ca ao zs _ (by omega) C0).mono ?_
  rintro _ w1 ⟨u1, v1, xs, ys, rfl, hx, hy, o1, C1, e1⟩
  have k1 := kp_grown e1
  have s1 := k1.size
  obtain ⟨ph, hc, rfl⟩ := own_form (n := xs.length) o1.has (by omega)
  obtain ⟨pk, kc, rfl⟩ := own_form (n := ys.length) o1.next (by omega)
  rw [hx, hy] at o1 ⊢
  have R1 := R0.kp k1 (fun e => by simp at e; omega)
  have K1 : Kp w w1 (fun k => k = g) := (Below.kpOf b0 _).trans (k1.mono (fun j e => by simpa using e.symm))
  obtain ⟨w2, hw2⟩ : ∃ w2, w1.alloc (.cells #[.slice (some ⟨ph, 0, none⟩) 4 hc, .slice (some ⟨pk, 0, none⟩) 4 kc] 26) = w2 := ⟨_, rfl⟩
  have b2 : Below w1.heap.size w1 w2 := hw2 ▸ (Below.refl _ _).alloc (Nat.le_refl _) _
  have C2 := C1.below (by omega) b2
  have R2 := R1.below b2 R1.lt
  have K2 := K1.trans (Below.kpOf b2 _)
  have G2 : Loc w2 w1.heap.size #[.slice (some ⟨ph, 0, none⟩) 4 hc, .slice (some ⟨pk, 0, none⟩) 4 kc] := hw2 ▸ loc_at w1 _ _ rfl
  have P2 : OL w2 w0.heap.size w1.heap.size (.slice (some ⟨ph, 0, none⟩) 4 hc) (.slice (some ⟨pk, 0, none⟩) 4 kc) xs ys := hw2 ▸ o1.alloc _
  have s2 := b2.size
  have lg := G2.lt
  clear C0 R0 b0 k1 e1 R1 K1 b2 C1 o1
  go_wp2_with fail
  clear hw2
  refine (below_any base g ca ao zs 10 _ (by omega) (by omega) (by omega) C2).mono ?_
  rintro _ w3 ⟨n, rfl, n0, n1, C3, e3⟩
  have k3 := kp_grown e3
  have s3 := k3.size
  have G3 := G2.kp k3 (fun e => by simp at e; omega)
  have P3 := P2.kp k3 (fun j _ _ e => by simp at e; omega)
  have R3 := R2.kp k3 (fun e => by simp at e; omega)
  have K3 := K2.trans (k3.mono (fun j e => by simpa using e.symm))
  have D3 := C3.drew
  clear G2 P2 R2 K2 C2 k3 e3
  have hne : ph ≠ pk := fun e => P3.ne ph rfl (by rw [e]; rfl)
  have tp := P3.top ph rfl
  have tk := P3.top' pk rfl
  have lp := (World.ownsRow.lt P3.has ph rfl).1
  have lk := (World.ownsRow.lt P3.next pk rfl).1
  by_cases h0 : n = 0
  · subst h0
    go_wp2_with fail
    refine wp_region_noPanic ?_
    refine wp_region_held_drew (S := (fun w' => w'.cell? ⟨w1.heap.size, 0, none⟩ = some (.slice (some ⟨ph, 0, none⟩) 4 hc))) (by kernel_rfl) (G3.cell 0 rfl) (fun hHeld => ?_)
    refine take_at (i := 0) (d := 10) (v := ?_) rfl rfl (by kernel_rfl) (by kernel_rfl) (by kernel_rfl) (fun _ _ _ h => h) (Or.inl ⟨by rfl, ?_⟩) (by assumption) ?_
    rotate_left
    · intro w hSw
      try dsimp only at hSw
      go_simp
      try with_reducible rfl
    simp only [Act.put, List.setIfInBounds_toArray, List.set_cons_zero, List.set_cons_succ]
    refine take_at (i := 1) (d := 11) (v := ?_) rfl rfl (by kernel_rfl) (by kernel_rfl) (by kernel_rfl) (fun _ _ _ h => h) (Or.inl ⟨by rfl, ?_⟩) (by assumption) ?_
    rotate_left
    · intro w hSw
      try dsimp only at hSw
      go_simp
      try with_reducible rfl
    simp only [Act.put, List.setIfInBounds_toArray, List.set_cons_zero, List.set_cons_succ]
    refine take_at (i := 2) (d := 12) (v := ?_) rfl rfl (by kernel_rfl) (by kernel_rfl) (by kernel_rfl) (fun _ _ _ h => h) (Or.inl ⟨by rfl, ?_⟩) (by assumption) ?_
    rotate_left
    · intro w hSw
      try dsimp only at hSw
      go_simp
      try with_reducible rfl
    simp only [Act.put, List.setIfInBounds_toArray, List.set_cons_zero, List.set_cons_succ]
    refine ready_at (i := 3) rfl (by kernel_rfl) (fun KK hKK => ?_)
    go_simp
    clear hHeld
    refine hKK.out _ _ ((G3.alloc _).cell 0 rfl) (fun hHeld => ?_)
    clear hKK KK
    refine ready_at (i := 4) rfl (by kernel_rfl) (fun KK hKK => ?_)
    go_simp
    refine (pickInt_lit base g ca ao zs [-1, 400, 401] w3.drew (show base ≤ w3.heap.size by omega) (by decide) (by decide) D3).mono ?_
    rintro _ w4 ⟨q, rfl, _, C4, e4⟩
    have e4 : w3.grownBy w4 (some g) := ⟨e4.os, e4.tape, e4.output, e4.size, e4.block⟩
    have k4 := kp_grown e4
    have s4 := k4.size
    have G4 := G3.kp k4 (fun e => by simp at e; omega)
    have P4 := P3.kp k4 (fun j _ _ e => by simp at e; omega)
    have R4 := R3.kp k4 (fun e => by simp at e; omega)
    have K4 := K3.trans (k4.mono (fun j e => by simpa using e.symm))
    clear G3 P3 R3 K3 C3 D3 k4 e4
    clear hHeld
    refine hKK.out _ _ (G4.cell 0 rfl) (fun hHeld => ?_)
    clear hKK KK
    refine take_at (i := 5) (d := 15) (v := ?_) rfl rfl (by kernel_rfl) (by kernel_rfl) (by kernel_rfl) (fun _ _ _ h => h) (Or.inl ⟨by rfl, ?_⟩) (by assumption) ?_
    rotate_left
    · intro w hSw
      try dsimp only at hSw
      go_simp
      try with_reducible rfl
    simp only [Act.put, List.setIfInBounds_toArray, List.set_cons_zero, List.set_cons_succ]
    have y4 := (P4.has.cellAt hx.symm 1 (by omega)).1
    have f4 := (P4.has.cellAt hx.symm 1 (by omega)).2
    refine ready_at (i := 6) rfl (by kernel_rfl) (fun KK hKK => ?_)
    go_simp
    obtain ⟨w5, hw5⟩ : ∃ w5, w4.setCell ⟨ph, 1, none⟩ (.int .i64 q) = w5 := ⟨_, rfl⟩
    have P5 := P4.setHas hx.symm 1 q
    have k5 := set_kp w4 ph 1 (.int .i64 q)
    have C5 := C4.set (show g < ph by omega) 1 (.int .i64 q)
    rw [hw5] at P5 k5 C5
    have G5 := G4.kp k5 (fun e => by omega)
    have R5 := R4.kp k5 (fun e => by omega)
    have K5 := K4.up k5 (fun j e => by omega)
    have s5 := k5.size
    clear hHeld y4 f4
    rw [hw5]
    refine hKK.out _ _ (G5.cell 0 rfl) (fun hHeld => ?_)
    clear hKK KK hHeld
    refine wpAnyH_done (by kernel_rfl) ?_ _
    refine NoPanic.normal ?_
    clear hw5 G4 P4 R4 C4 K4 k5
    have g0 := G5.cell 0 rfl
    have g1 := G5.cell 1 rfl
    have o0 := R5.cell 0 rfl
    have o1 := R5.cell 1 rfl
    have FR := R5.frozen
    have r0 := (R5.set 0 (.slice (some ⟨ph, 0, none⟩) 4 hc) rfl).set 1 (.slice (some ⟨pk, 0, none⟩) 4 kc) rfl
    have z0 := r0.cell 0 rfl
    have z1 := r0.cell 1 rfl
    have hK := K5.grown
    have PK := hide P5
    have HX := hide hx
    have HY := hide hy
    clear P5 R5 K5 G5 r0 hx hy
    go_wp2
    refine bodyPost_ret (v := lv (.slice (some ⟨ph, 0, none⟩) 4 hc) (.slice (some ⟨pk, 0, none⟩) 4 kc)) (by simp [results, Try.results40, go_sem, z0, z1]) rfl ?_
    have hx := unhide HX
    have hy := unhide HY
    refine ⟨_, _, (xs.set 1 q), ys, rfl, by rw [List.length_set]; omega, hy, ?_, (C5.set (by omega) _ _).set (by omega) _ _, grown_set (grown_set hK (Nat.le_refl _) _ _) (Nat.le_refl _) _ _⟩
    exact ((unhide PK).kp ((set_kp w5 w.heap.size 0 _).trans (set_kp _ w.heap.size 1 _)) (fun j h1 h2 e => by omega)).mono (by omega) (by simp; omega)
  by_cases h1 : n = 1
  · subst h1
    go_wp2_with fail
    refine wp_region_noPanic ?_
    refine wp_region_held_drew (S := (fun w' => w'.cell? ⟨w1.heap.size, 1, none⟩ = some (.slice (some ⟨pk, 0, none⟩) 4 kc))) (by kernel_rfl) (G3.cell 1 rfl) (fun hHeld => ?_)
    refine take_at (i := 0) (d := 18) (v := ?_) rfl rfl (by kernel_rfl) (by kernel_rfl) (by kernel_rfl) (fun _ _ _ h => h) (Or.inl ⟨by rfl, ?_⟩) (by assumption) ?_
    rotate_left
    · intro w hSw
      try dsimp only at hSw
      go_simp
      try with_reducible rfl
    simp only [Act.put, List.setIfInBounds_toArray, List.set_cons_zero, List.set_cons_succ]
    refine take_at (i := 1) (d := 19) (v := ?_) rfl rfl (by kernel_rfl) (by kernel_rfl) (by kernel_rfl) (fun _ _ _ h => h) (Or.inl ⟨by rfl, ?_⟩) (by assumption) ?_
    rotate_left
    · intro w hSw
      try dsimp only at hSw
      go_simp
      try with_reducible rfl
    simp only [Act.put, List.setIfInBounds_toArray, List.set_cons_zero, List.set_cons_succ]
    refine take_at (i := 2) (d := 20) (v := ?_) rfl rfl (by kernel_rfl) (by kernel_rfl) (by kernel_rfl) (fun _ _ _ h => h) (Or.inl ⟨by rfl, ?_⟩) (by assumption) ?_
    rotate_left
    · intro w hSw
      try dsimp only at hSw
      go_simp
      try with_reducible rfl
    simp only [Act.put, List.setIfInBounds_toArray, List.set_cons_zero, List.set_cons_succ]
    refine ready_at (i := 3) rfl (by kernel_rfl) (fun KK hKK => ?_)
    go_simp
    clear hHeld
    refine hKK.out _ _ ((G3.alloc _).cell 1 rfl) (fun hHeld => ?_)
    clear hKK KK
    refine ready_at (i := 4) rfl (by kernel_rfl) (fun KK hKK => ?_)
    go_simp
    refine (pickInt_lit base g ca ao zs [-1, 99, 100, 101] w3.drew (show base ≤ w3.heap.size by omega) (by decide) (by decide) D3).mono ?_
    rintro _ w4 ⟨q, rfl, _, C4, e4⟩
    have e4 : w3.grownBy w4 (some g) := ⟨e4.os, e4.tape, e4.output, e4.size, e4.block⟩
    have k4 := kp_grown e4
    have s4 := k4.size
    have G4 := G3.kp k4 (fun e => by simp at e; omega)
    have P4 := P3.kp k4 (fun j _ _ e => by simp at e; omega)
    have R4 := R3.kp k4 (fun e => by simp at e; omega)
    have K4 := K3.trans (k4.mono (fun j e => by simpa using e.symm))
    clear G3 P3 R3 K3 C3 D3 k4 e4
    clear hHeld
    refine hKK.out _ _ (G4.cell 1 rfl) (fun hHeld => ?_)
    clear hKK KK
    refine take_at (i := 5) (d := 23) (v := ?_) rfl rfl (by kernel_rfl) (by kernel_rfl) (by kernel_rfl) (fun _ _ _ h => h) (Or.inl ⟨by rfl, ?_⟩) (by assumption) ?_
    rotate_left
    · intro w hSw
      try dsimp only at hSw
      go_simp
      try with_reducible rfl
    simp only [Act.put, List.setIfInBounds_toArray, List.set_cons_zero, List.set_cons_succ]
    have y4 := (P4.next.cellAt hy.symm 2 (by omega)).1
    have f4 := (P4.next.cellAt hy.symm 2 (by omega)).2
    refine ready_at (i := 6) rfl (by kernel_rfl) (fun KK hKK => ?_)
    go_simp
    obtain ⟨w5, hw5⟩ : ∃ w5, w4.setCell ⟨pk, 2, none⟩ (.int .i64 q) = w5 := ⟨_, rfl⟩
    have P5 := P4.setNext hy.symm 2 q
    have k5 := set_kp w4 pk 2 (.int .i64 q)
    have C5 := C4.set (show g < pk by omega) 2 (.int .i64 q)
    rw [hw5] at P5 k5 C5
    have G5 := G4.kp k5 (fun e => by omega)
    have R5 := R4.kp k5 (fun e => by omega)
    have K5 := K4.up k5 (fun j e => by omega)
    have s5 := k5.size
    clear hHeld y4 f4
    rw [hw5]
    refine hKK.out _ _ (G5.cell 1 rfl) (fun hHeld => ?_)
    clear hKK KK hHeld
    refine wpAnyH_done (by kernel_rfl) ?_ _
    refine NoPanic.normal ?_
    clear hw5 G4 P4 R4 C4 K4 k5
    have g0 := G5.cell 0 rfl
    have g1 := G5.cell 1 rfl
    have o0 := R5.cell 0 rfl
    have o1 := R5.cell 1 rfl
    have FR := R5.frozen
    have r0 := (R5.set 0 (.slice (some ⟨ph, 0, none⟩) 4 hc) rfl).set 1 (.slice (some ⟨pk, 0, none⟩) 4 kc) rfl
    have z0 := r0.cell 0 rfl
    have z1 := r0.cell 1 rfl
    have hK := K5.grown
    have PK := hide P5
    have HX := hide hx
    have HY := hide hy
    clear P5 R5 K5 G5 r0 hx hy
    go_wp2
    refine bodyPost_ret (v := lv (.slice (some ⟨ph, 0, none⟩) 4 hc) (.slice (some ⟨pk, 0, none⟩) 4 kc)) (by simp [results, Try.results40, go_sem, z0, z1]) rfl ?_
    have hx := unhide HX
    have hy := unhide HY
    refine ⟨_, _, xs, (ys.set 2 q), rfl, by omega, by rw [List.length_set]; exact hy, ?_, (C5.set (by omega) _ _).set (by omega) _ _, grown_set (grown_set hK (Nat.le_refl _) _ _) (Nat.le_refl _) _ _⟩
    exact ((unhide PK).kp ((set_kp w5 w.heap.size 0 _).trans (set_kp _ w.heap.size 1 _)) (fun j h1 h2 e => by omega)).mono (by omega) (by simp; omega)
  by_cases h2 : n = 2
  · subst h2
    have g0 := G3.cell 0 rfl
    have FG := G3.frozen
    have ho0 : w3.ownsRow w0.heap.size 3 1 (.slice (some ⟨ph, 0, none⟩) 4 hc) 4 (xs.map (Value.int .i64)) := by have := P3.has; unfold OI at this; rwa [hx] at this
    go_wp2_with (first
      | (at_builtin; refine wpList_append_own_at _ rfl _ _ 24 rfl w0.heap.size 3 i0 (.int .i64 0) 1 8 Try.underlying24 hi hz0 hz1 hz2 rfl (by decide) (.slice (some ⟨ph, 0, none⟩) 4 hc) _ _ rfl (ho0.alloc _) ⟨w3.heap.size, 0, none⟩ 1 1 [.int .i64 1] rfl rfl (one_cell _ _ _) (one_plain _ _) (by unfold maxLen; omega) (by omega) (by simp; omega) ?_; intro v' w4 ho' hg' _ hat
         obtain ⟨g', c', rfl⟩ := own_form ho' (by omega)
         have hat : g' = ph ∨ g' = w3.heap.size + 1 := by simpa [Value.ownBlock] using hat
         have k4 : Kp w3 w4 (fun j => j = ph) := (Below.kpOf ((Below.refl _ _).alloc (Nat.le_refl _) _) _).trans ((kp_grown hg').mono (fun j e => by simpa [Value.ownBlock] using e.symm))
         have s4 := k4.size
         have G4 := G3.kp k4 (fun e => by omega)
         have R4 := R3.kp k4 (fun e => by omega)
         have K4 := K3.up k4 (fun j e => by omega)
         have C4 := (C3.alloc (by omega) (.cells #[.int .i64 1] 3)).grownNew hg' (fun j e => by simp [Value.ownBlock] at e; omega)
         have ho1 : OI w4 w0.heap.size (.slice (some ⟨g', 0, none⟩) 5 c') (xs ++ [1]) := by unfold OI; simpa [hx] using ho'
         have hn4 := P3.next.kp k4 (fun j hj e => by simp [Value.ownBlock] at hj; omega)
         have lt4 := (World.ownsRow.lt ho1 g' rfl).2
         have x0 := G4.cell 0 rfl
         have FX := G4.frozen
         obtain ⟨w5, hw5⟩ : ∃ w5, w4.setCell ⟨w1.heap.size, 0, none⟩ (.slice (some ⟨g', 0, none⟩) 5 c') = w5 := ⟨_, rfl⟩
         have k5 := set_kp w4 w1.heap.size 0 (.slice (some ⟨g', 0, none⟩) 5 c')
         have C5 := C4.set (show g < w1.heap.size by omega) 0 (.slice (some ⟨g', 0, none⟩) 5 c')
         have G5 := G4.set 0 (.slice (some ⟨g', 0, none⟩) 5 c') rfl
         rw [hw5] at k5 C5 G5
         have s5 := k5.size
         have R5 := R4.kp k5 (fun e => by omega)
         have K5 := K4.up k5 (fun j e => by omega)
         have P5 : OL w5 w0.heap.size w4.heap.size (.slice (some ⟨g', 0, none⟩) 5 c') (.slice (some ⟨pk, 0, none⟩) 4 kc) (xs ++ [1]) ys := ⟨ho1.kp k5 (fun j hj e => by simp [Value.ownBlock] at hj; omega), hn4.kp k5 (fun j hj e => by simp [Value.ownBlock] at hj; omega), fun j hj => by simp [Value.ownBlock] at hj; omega, fun j hj => by simp [Value.ownBlock] at hj; omega, fun j hj e => by simp [Value.ownBlock] at hj e; omega⟩
         have PK := hide P5
         have r0 := (R5.set 0 (.slice (some ⟨g', 0, none⟩) 5 c') rfl).set 1 (.slice (some ⟨pk, 0, none⟩) 4 kc) rfl
         have z0 := r0.cell 0 rfl
         have z1 := r0.cell 1 rfl
         have o0 := R5.cell 0 rfl
         have o1 := R5.cell 1 rfl
         have FR := R5.frozen
         have y0 := G5.cell 0 rfl
         have y1 := G5.cell 1 rfl
         have hK := K5.grown
         clear hg' ho' ho0 ho1 hn4 P5 R5 r0 P3 G3 G4 R3 R4 C3 C4 K3 K4 D3 k4 k5 K5 g0 FG))
    refine bodyPost_ret (v := lv (.slice (some ⟨g', 0, none⟩) 5 c') (.slice (some ⟨pk, 0, none⟩) 4 kc)) (by simp [results, Try.results40, go_sem, z0, z1]) rfl ?_
    refine ⟨_, _, xs ++ [1], ys, rfl, by simp [hx], hy, ?_, (C5.set (by omega) _ _).set (by omega) _ _, grown_set (grown_set hK (Nat.le_refl _) _ _) (Nat.le_refl _) _ _⟩
    exact ((unhide PK).kp ((set_kp w5 w.heap.size 0 _).trans (set_kp _ w.heap.size 1 _)) (fun j h1 h2 e => by omega)).mono (by omega) (by simp; omega)
  have g0 := G3.cell 0 rfl
  have g1 := G3.cell 1 rfl
  have o0 := R3.cell 0 rfl
  have o1 := R3.cell 1 rfl
  have FR := R3.frozen
  have r0 := (R3.set 0 (.slice (some ⟨ph, 0, none⟩) 4 hc) rfl).set 1 (.slice (some ⟨pk, 0, none⟩) 4 kc) rfl
  have z0 := r0.cell 0 rfl
  have z1 := r0.cell 1 rfl
  have hK := K3.grown
  have PK := hide P3
  have HX := hide hx
  have HY := hide hy
  clear P3 R3 K3 G3 r0 hx hy
  go_wp2
  refine bodyPost_ret (v := lv (.slice (some ⟨ph, 0, none⟩) 4 hc) (.slice (some ⟨pk, 0, none⟩) 4 kc)) (by simp [results, Try.results40, go_sem, z0, z1]) rfl ?_
  have hx := unhide HX
  have hy := unhide HY
  refine ⟨_, _, xs, ys, rfl, by omega, hy, ?_, (C3.set (by omega) _ _).set (by omega) _ _, grown_set (grown_set hK (Nat.le_refl _) _ _) (Nat.le_refl _) _ _⟩
  exact ((unhide PK).kp ((set_kp w3 w.heap.size 0 _).trans (set_kp _ w.heap.size 1 _)) (fun j h1 h2 e => by omega)).mono (by omega) (by simp; omega)
end Go.Proofs.Ytlglekfmiacdnaa
