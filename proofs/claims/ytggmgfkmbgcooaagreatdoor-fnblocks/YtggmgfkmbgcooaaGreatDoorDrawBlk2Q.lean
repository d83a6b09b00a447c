/- The draws of a block: l8Draw; l8Copy. -/
import Derived.Test.YtggmgfkmbgcooaaGreatDoorDrawBlkQ
import Derived.Test.YtggmgfkmbgcooaaGreatDoorBunI
/- The draws of a block: l8Draw; l8Copy. -/
namespace Go.Proofs.YtggmgfkmbgcooaaGreatDoor
open Go.RowKit
set_option linter.unusedSectionVars false
variable [∀ (a b c d : Int), Decidable (Ok4 a b c d)]
variable [∀ (a b c d : Nat), Decidable (okN a b c d)]
variable [∀ (last : Int) (s : St), Decidable (GoodSt last s)]
variable [∀ (x : T4), Decidable (OkT x)]
variable [∀ (n : Int) (s : List Int), Decidable (OkL n s)]
variable [∀ (n f : Int), Decidable (COk n f)]
variable [∀ (ts : List T4), Decidable (AllOk ts)]

set_option maxHeartbeats 16000000 in
set_option maxRecDepth 100000 in
theorem drawBlk (base g ca : Nat) (ao : Option Addr) (zs : List Int) (n f : Int) (w : World) (hB : base ≤ w.heap.size) (hn0 : 4 ≤ n) (hn1 : n ≤ 7) (h : Cur w base g ao ca zs) :
    Calls Tryz.prog 36 #[.pointer (some ⟨g, 0, none⟩), cv n f] w fun e w' => ∃ (m : ByteArray) (v : Int) (s : ByteArray) (u : Value) (xs : List Int), e = .returned (bv m v s u) ∧ m.size ≤ 8001 ∧ (-1 ≤ v ∧ v ≤ 61) ∧ s.size ≤ 8001 ∧ xs.length ≤ 9 ∧ Hid (WfL xs) ∧ OI w' w.heap.size u xs ∧ Cur w' base g ao ca zs ∧ w.grownBy w' (some g) := by
  have hlt := h.lt
  obtain ⟨w0, hw0⟩ : ∃ w0, (w.alloc (.cells #[.int .i64 n, .int .i64 f] 25)).alloc (.cells #[.string ⟨#[]⟩, .int .i64 0, .string ⟨#[]⟩, .slice none 0 0] 30) = w0 := ⟨_, rfl⟩
  have B0 : Below w.heap.size w w0 := hw0 ▸ qalloc2 _ _ _
  have V : Loc w0 w.heap.size #[.int .i64 n, .int .i64 f] := hw0 ▸ (loc_at w _ _ rfl).alloc _
  have Z : Loc w0 (w.heap.size + 1) #[.string ⟨#[]⟩, .int .i64 0, .string ⟨#[]⟩, .slice none 0 0] := hw0 ▸ loc_at (w.alloc _) _ _ (by simp)
  have s0 : w.heap.size + 1 + 1 ≤ w0.heap.size := by rw [← hw0]; simp
  have C := h.below hB B0
  have G : w.grownBy w0 (some g) := grown_below B0 (some g)
  clear h B0
  go_enter Tryz.func36, Tryz.ntmps36
  have v0 := V.cell 0 rfl
  have v1 := V.cell 1 rfl
  go_wp2_with fail
  clear hw0 v0 v1
  refine (drawBlkR base g ca ao zs n f _ (by omega) hn0 hn1 C).mono ?_
  rintro e w1 ⟨m, v, s, u, xs, rfl, hm, hv, hs, hl, hw, O, c1, e1⟩
  have s1 := e1.size
  replace V := V.grown e1 (by omega)
  replace Z := Z.grown e1 (by omega)
  replace G := grown_trans G e1
  replace C := c1
  clear c1 e1
  have tO := World.ownsRow.lt O
  obtain ⟨ua, uc, rfl⟩ := O.form
  obtain ⟨k, hk⟩ : ∃ k, xs.length = k := ⟨_, rfl⟩
  rw [hk] at O tO ⊢
  obtain ⟨w2, hw2⟩ : ∃ y, w1.alloc (.cells #[.string m, .int .i64 v, .string s, .slice ua k uc] 30) = y := ⟨_, rfl⟩
  have b2 : Below w1.heap.size w1 w2 := hw2 ▸ qalloc _ _
  have X : Loc w2 w1.heap.size #[.string m, .int .i64 v, .string s, .slice ua k uc] := hw2 ▸ loc_at w1 _ _ rfl
  have s2 : w1.heap.size + 1 ≤ w2.heap.size := by rw [← hw2]; simp
  replace V := V.below b2 V.lt
  replace Z := Z.below b2 Z.lt
  replace O := O.below b2
  replace C := C.below (by omega) b2
  replace G := grown_trans G (grown_below b2 (some g))
  clear b2
  go_wp2_with fail
  clear hw2
  refine (below_any base g ca ao zs 10 _ (by omega) (by omega) (by omega) C).mono ?_
  rintro e w3 ⟨j, rfl, j0, j1, c1, e1⟩
  have s3 := e1.size
  replace V := V.grown e1 (by omega)
  replace Z := Z.grown e1 (by omega)
  replace X := X.grown e1 (by omega)
  replace O := O.drawn e1 (by omega)
  replace G := grown_trans G e1
  replace C := c1
  clear c1 e1
  have FI : Hid (∀ (m : ByteArray) (v : Int) (s : ByteArray) (u : Value) (xs : List Int) (w' : World), m.size ≤ 8001 → (-1 ≤ v ∧ v ≤ 61) → s.size ≤ 8001 → xs.length ≤ 9 → Hid (WfL xs) → OI w' (w.heap.size + 1 + 1) u xs → Cur w' base g ao ca zs → w.grownBy w' (some g) →
      m.size ≤ 8001 ∧ (-1 ≤ v ∧ v ≤ 61) ∧ s.size ≤ 8001 ∧ xs.length ≤ 9 ∧ Hid (WfL xs) ∧ OI ((((w'.setCell ⟨w.heap.size + 1, 0, none⟩ (.string m)).setCell ⟨w.heap.size + 1, 1, none⟩ (.int .i64 v)).setCell ⟨w.heap.size + 1, 2, none⟩ (.string s)).setCell ⟨w.heap.size + 1, 3, none⟩ u) w.heap.size u xs ∧ Cur ((((w'.setCell ⟨w.heap.size + 1, 0, none⟩ (.string m)).setCell ⟨w.heap.size + 1, 1, none⟩ (.int .i64 v)).setCell ⟨w.heap.size + 1, 2, none⟩ (.string s)).setCell ⟨w.heap.size + 1, 3, none⟩ u) base g ao ca zs ∧ w.grownBy ((((w'.setCell ⟨w.heap.size + 1, 0, none⟩ (.string m)).setCell ⟨w.heap.size + 1, 1, none⟩ (.int .i64 v)).setCell ⟨w.heap.size + 1, 2, none⟩ (.string s)).setCell ⟨w.heap.size + 1, 3, none⟩ u) (some g)) := hide fun m v s u xs w' h0 h1 h2 h3 h4 h5 h6 h7 => by
    have lt3 := World.ownsRow.lt h5
    exact ⟨h0, h1, h2, h3, h4, (h5.kp (kp4 _ _ _ _ _ _) (fun k hk e => by have := lt3 k hk; omega)).mono (by omega), (((h6.set (by omega) _ _).set (by omega) _ _).set (by omega) _ _).set (by omega) _ _, grown_set (grown_set (grown_set (grown_set h7 (by omega) _ _) (by omega) _ _) (by omega) _ _) (by omega) _ _⟩
  replace O := O.mono (show w.heap.size + 1 + 1 ≤ w0.heap.size by omega)
  by_cases h0 : j = 0
  · subst h0
    skip
    go_wp2_with fail
    refine (drawName base g ca ao zs _ (by omega) C).mono ?_
    rintro e w4 ⟨t, rfl, ht, c1, e1⟩
    have s4 := e1.size
    replace Z := Z.grown e1 (by omega)
    replace X := X.grown e1 (by omega)
    replace O := O.drawn e1 (by omega)
    replace G := grown_trans G e1
    replace C := c1
    clear c1 e1
    have R := hide (unhide FI t v s (.slice ua k uc) xs _ ht hv hs (by omega) hw (O.kp (set_kp w4 w1.heap.size 0 (.string t)) (fun j hj e => by have := tO j hj; omega)) (C.set (r := w1.heap.size) (by omega) 0 (.string t)) (grown_set G (r := w1.heap.size) (by omega) 0 (.string t)))
    have x0 := X.cell 0 rfl
    have x1 := X.cell 1 rfl
    have x2 := X.cell 2 rfl
    have x3 := X.cell 3 rfl
    have fx := X.frozen
    have z0 := Z.cell 0 rfl
    have z1 := Z.cell 1 rfl
    have z2 := Z.cell 2 rfl
    have z3 := Z.cell 3 rfl
    have fz := Z.frozen
    have ne1 : ¬ w.heap.size + 1 = w1.heap.size := by omega
    have ne2 : ¬ w1.heap.size = w.heap.size + 1 := by omega
    clear V Z X O C G FI
    go_wp2
    refine bodyPost_ret (v := bv t v s (.slice ua k uc)) (by simp [results, Tryz.results36, go_sem, z0, z1, z2, z3]) rfl ?_
    exact ⟨_, _, _, _, xs, rfl, unhide R⟩
  · have n0 : (j == 0) = false := by simp [h0]
    by_cases h1 : j = 1
    · subst h1
      skip
      have v0 := V.cell 0 rfl
      have v1 := V.cell 1 rfl
      go_wp2_with fail
      clear v0 v1
      refine (drawQcV base g ca ao zs n f _ (by omega) hn0 hn1 C).mono ?_
      rintro e w4 ⟨v4, s4', u4, ys, rfl, hv4, hs4, hl4, hw4, O4, c1, e1⟩
      have s4 := e1.size
      replace Z := Z.grown e1 (by omega)
      replace X := X.grown e1 (by omega)
      replace G := grown_trans G e1
      replace C := c1
      clear c1 e1 O
      have t4 := World.ownsRow.lt O4
      obtain ⟨va, vc, rfl⟩ := O4.form
      obtain ⟨k4, hk4⟩ : ∃ k, ys.length = k := ⟨_, rfl⟩
      rw [hk4] at O4 t4 ⊢
      obtain ⟨w5, hw5⟩ : ∃ y, ((w4.setCell ⟨w1.heap.size, 1, none⟩ (.int .i64 v4)).setCell ⟨w1.heap.size, 2, none⟩ (.string s4')).setCell ⟨w1.heap.size, 3, none⟩ (.slice va k4 vc) = y := ⟨_, rfl⟩
      have K3 : Kp w4 w5 (fun k => k = w1.heap.size) := hw5 ▸ ((set_kp _ _ _ _).trans (set_kp _ _ _ _)).trans (set_kp _ _ _ _)
      have X5 : Loc w5 w1.heap.size #[.string m, .int .i64 v4, .string s4', .slice va k4 vc] := hw5 ▸ ((X.set 1 _ rfl).set 2 _ rfl).set 3 _ rfl
      have C5 : Cur w5 base g ao ca zs := hw5 ▸ ((C.set (by omega) _ _).set (by omega) _ _).set (by omega) _ _
      have G5 : w.grownBy w5 (some g) := hw5 ▸ grown_set (grown_set (grown_set G (by omega) _ _) (by omega) _ _) (by omega) _ _
      have Z5 := Z.kp K3 (by omega)
      have O5 := (O4.kp K3 (fun j hj e => by have := t4 j hj; omega)).mono (show w.heap.size + 1 + 1 ≤ w3.heap.size by omega)
      have R := hide (unhide FI m v4 s4' (.slice va k4 vc) ys _ hm hv4 hs4 (by omega) hw4 O5 C5 G5)
      have x0 := X.cell 0 rfl
      have x1 := X.cell 1 rfl
      have x2 := X.cell 2 rfl
      have x3 := X.cell 3 rfl
      have fx := X.frozen
      clear V Z X C G O4 O5 C5 G5 K3 FI
      go_upto_region 7 with fail
      clear hw5 x0 x1 x2 x3 fx
      have x0 := X5.cell 0 rfl
      have x1 := X5.cell 1 rfl
      have x2 := X5.cell 2 rfl
      have x3 := X5.cell 3 rfl
      have z0 := Z5.cell 0 rfl
      have z1 := Z5.cell 1 rfl
      have z2 := Z5.cell 2 rfl
      have z3 := Z5.cell 3 rfl
      have fz := Z5.frozen
      clear X5 Z5
      go_wp2
      refine bodyPost_ret (v := bv m v4 s4' (.slice va k4 vc)) (by simp [results, Tryz.results36, go_sem, z0, z1, z2, z3]) rfl ?_
      exact ⟨_, _, _, _, ys, rfl, unhide R⟩
    · have n1 : (j == 1) = false := by simp [h1]
      have R := hide (unhide FI m v s (.slice ua k uc) xs _ hm hv hs (by omega) hw O C G)
      have x0 := X.cell 0 rfl
      have x1 := X.cell 1 rfl
      have x2 := X.cell 2 rfl
      have x3 := X.cell 3 rfl
      have z0 := Z.cell 0 rfl
      have z1 := Z.cell 1 rfl
      have z2 := Z.cell 2 rfl
      have z3 := Z.cell 3 rfl
      have fz := Z.frozen
      clear V Z X O C G FI
      go_wp2
      refine bodyPost_ret (v := bv m v s (.slice ua k uc)) (by simp [results, Tryz.results36, go_sem, z0, z1, z2, z3]) rfl ?_
      exact ⟨_, _, _, _, xs, rfl, unhide R⟩

set_option maxHeartbeats 8000000 in
set_option maxRecDepth 100000 in
theorem l8Copy_any (m : ByteArray) (v : Int) (s : ByteArray) (ao : Option Addr) (ca : Nat) (xs : List Int) (w : World) (ha : RI w (.slice ao xs.length ca) xs) :
    Calls Tryz.prog 47 #[bv m v s (.slice ao xs.length ca)] w fun e w' => ∃ u, e = .returned (bv m v s u) ∧ OI w' w.heap.size u xs ∧ Below w.heap.size w w' := by
  have CP := hide fun w h => l7Copy_any v s (.slice ao xs.length ca) xs w h
  obtain ⟨w0, hw0⟩ : ∃ w0, (w.alloc (.cells #[.string m, .int .i64 v, .string s, .slice ao xs.length ca] 30)).alloc (.cells #[.string ⟨#[]⟩, .int .i64 0, .string ⟨#[]⟩, .slice none 0 0] 30) = w0 := ⟨_, rfl⟩
  have Bw0 : Below w.heap.size w w0 := hw0 ▸ qalloc2 _ _ _
  have LB : Loc w0 w.heap.size #[.string m, .int .i64 v, .string s, .slice ao xs.length ca] := hw0 ▸ (loc_at w _ _ rfl).alloc _
  have LZ : Loc w0 (w.heap.size + 1) #[.string ⟨#[]⟩, .int .i64 0, .string ⟨#[]⟩, .slice none 0 0] := hw0 ▸ loc_at (w.alloc _) _ _ (by simp)
  have s0 : w.heap.size + 1 + 1 ≤ w0.heap.size := by rw [← hw0]; simp
  have HA := hide (ha.below Bw0 (Nat.le_refl _))
  clear ha
  go_enter Tryz.func47, Tryz.ntmps47
  go_upto_region 1 with fail
  clear hw0
  have bA : Below w0.heap.size w0 w0.drew := Below.drew (Below.refl _ _)
  refine wp_region_noPanic ?_
  refine wp_region_held_drew (S := fun w' => w'.cell? ⟨w.heap.size, 0, none⟩ = some (.string m) ∧ w'.cell? ⟨w.heap.size, 1, none⟩ = some (.int .i64 v) ∧ w'.cell? ⟨w.heap.size, 2, none⟩ = some (.string s) ∧ w'.cell? ⟨w.heap.size, 3, none⟩ = some (.slice ao xs.length ca)) (by kernel_rfl) ⟨LB.cell 0 rfl, LB.cell 1 rfl, LB.cell 2 rfl, LB.cell 3 rfl⟩ (fun hHeld => ?_)
  refine take_at (i := 0) (d := 3) (v := ?_) rfl rfl (by kernel_rfl) (by kernel_rfl) (by kernel_rfl) (fun _ _ _ h => h) (Or.inl ⟨by rfl, ?_⟩) (by assumption) ?_
  rotate_left
  · intro w hSw
    try dsimp only at hSw
    go_simp
    try with_reducible rfl
  simp only [Act.put, List.setIfInBounds_toArray, List.set_cons_zero, List.set_cons_succ]
  refine take_at (i := 2) (d := 5) (v := ?_) rfl rfl (by kernel_rfl) (by kernel_rfl) (by kernel_rfl) (fun _ _ _ h => h) (Or.inl ⟨by rfl, ?_⟩) (by assumption) ?_
  rotate_left
  · intro w hSw
    try dsimp only at hSw
    go_simp
    try with_reducible rfl
  simp only [Act.put, List.setIfInBounds_toArray, List.set_cons_zero, List.set_cons_succ]
  refine take_at (i := 1) (d := 4) (v := ?_) rfl rfl (by kernel_rfl) (by kernel_rfl) (by kernel_rfl) (fun _ _ _ h => h) (Or.inl ⟨by rfl, ?_⟩) (by assumption) ?_
  rotate_left
  · intro w hSw
    try dsimp only at hSw
    go_simp
    try with_reducible rfl
  simp only [Act.put, List.setIfInBounds_toArray, List.set_cons_zero, List.set_cons_succ]
  refine take_at (i := 3) (d := 6) (v := ?_) rfl rfl (by kernel_rfl) (by kernel_rfl) (by kernel_rfl) (fun _ _ _ h => h) (Or.inl ⟨by rfl, ?_⟩) (by assumption) ?_
  rotate_left
  · intro w hSw
    try dsimp only at hSw
    go_simp
    try with_reducible rfl
  simp only [Act.put, List.setIfInBounds_toArray, List.set_cons_zero, List.set_cons_succ]
  refine ready_at (i := 4) rfl (by kernel_rfl) (fun KK hKK => ?_)
  go_simp
  refine (unhide CP _ ((unhide HA).below bA (Nat.le_refl _))).mono ?_
  rintro e w1 ⟨u, rfl, o1, bb⟩
  have b1 : Below w0.heap.size w0 w1 := bA.trans (bb.mono bA.size)
  have LB1 := LB.below b1 LB.lt
  have LZ1 := LZ.below b1 LZ.lt
  have zz1 := b1.size
  have t1 := World.ownsRow.lt o1
  obtain ⟨ua, uc, rfl⟩ := o1.form
  have zd := bA.size
  clear hHeld bb bA
  refine hKK.out _ _ ⟨LB1.cell 0 rfl, LB1.cell 1 rfl, LB1.cell 2 rfl, LB1.cell 3 rfl⟩ (fun hHeld => ?_)
  clear hKK KK
  refine take_at (i := 5) (d := 8) (v := ?_) rfl rfl (by kernel_rfl) (by kernel_rfl) (by kernel_rfl) (fun _ _ _ h => h) (Or.inl ⟨by rfl, ?_⟩) (by assumption) ?_
  rotate_left
  · intro w hSw
    try dsimp only at hSw
    go_simp
    try with_reducible rfl
  simp only [Act.put, List.setIfInBounds_toArray, List.set_cons_zero, List.set_cons_succ]
  have k4 := kp4 w1 (w.heap.size + 1) (.string m) (.int .i64 v) (.string s) (.slice ua xs.length uc)
  have LB2 := LB1.kp k4 (by omega)
  have z0 := LZ1.cell 0 rfl
  have z1 := LZ1.cell 1 rfl
  have z2 := LZ1.cell 2 rfl
  have z3 := LZ1.cell 3 rfl
  have fz := LZ1.frozen
  refine ready_at (i := 6) rfl (by kernel_rfl) (fun KK hKK => ?_)
  go_simp
  clear hHeld
  refine hKK.out _ _ ⟨LB2.cell 0 rfl, LB2.cell 1 rfl, LB2.cell 2 rfl, LB2.cell 3 rfl⟩ (fun hHeld => ?_)
  clear hKK KK
  clear hHeld
  refine wpAnyH_done (by kernel_rfl) ?_ _
  refine NoPanic.normal ?_
  go_wp2
  refine bodyPost_ret (v := bv m v s (.slice ua xs.length uc)) (by simp [results, Tryz.results47, go_sem, z0, z1, z2, z3]) rfl ?_
  exact ⟨_, rfl, (o1.kp k4 (fun j hj e => by have := t1 j hj; simp at this; omega)).mono (by simp; omega), Below.kp (Bw0.trans (b1.mono Bw0.size)) k4 (by have := Bw0.size; omega) (fun k hk => by omega)⟩
end Go.Proofs.YtggmgfkmbgcooaaGreatDoor
