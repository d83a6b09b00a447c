/- The walk of laws.FnExactQcSame. -/
import Derived.Test.YtdgadkinkalcpaaQcCopy
import Derived.Test.YtdgadkinkalcpaaQcOpen
import Derived.Test.YtdgadkinkalcpaaHeldBy
import Derived.Deep.RegionHeld3
import Derived.Deep.DeepCutAuto
namespace Go.Proofs.Ytdgadkinkalcpaa
open Go.RowKit
set_option linter.unusedSectionVars false
variable [∀ (a b c d : Int), Decidable (Ok4 a b c d)]
variable [∀ (n f : Int), Decidable (COk n f)]

set_option maxHeartbeats 8000000 in
set_option maxRecDepth 100000 in
theorem fnQcSame_short (n m : Int) (s t : ByteArray) (ao bo : Option Addr) (ca cb : Nat) (xs ys : List Int) (w : World) (hz : s.size + xs.length + t.size + ys.length ≤ 1048576) (ha : RI w (.slice ao xs.length ca) xs) (hb : RI w (.slice bo ys.length cb) ys) :
    Calls Try.prog 7 #[qv n s (.slice ao xs.length ca), qv m t (.slice bo ys.length cb)] w fun e w' => e = .returned (.bool true) ∧ Below w.heap.size w w' := by
  have HA := hide ha
  have HB := hide hb
  have ZA := hide fun w => szQc_yes n s ao xs.length ca 1048576 w (by omega) (by omega)
  have ZB := hide fun w => szQc_yes m t bo ys.length cb (1048576 - s.size - xs.length) w (by omega) (by omega)
  have TA := hide fun w h => toQc_any n s (.slice ao xs.length ca) xs w h
  have TB := hide fun w h => toQc_any m t (.slice bo ys.length cb) ys w h
  have d1 : decide ((1048576 : Int) - (s.size : Int) - (xs.length : Int) < 0) = false := by simp; omega
  have d2 : decide ((1048576 : Int) - (s.size : Int) - (xs.length : Int) - (t.size : Int) - (ys.length : Int) < 0) = false := by simp; omega
  have SP := hide fun u v w h k => specQcSame n m s t u v xs ys w h k
  have IM := hide fun u v w h k => implQcSame n m s t u v xs ys w h k
  generalize alikeB n m s t xs ys = q at *
  have hq : (q != q) = false := by simp
  obtain ⟨w0, hw0⟩ : ∃ w0, (w.alloc (.cells #[.int .i64 n, .string s, .slice ao xs.length ca] 36)).alloc (.cells #[.int .i64 m, .string t, .slice bo ys.length cb] 36) = w0 := ⟨_, rfl⟩
  have Bw0 : Below w.heap.size w w0 := hw0 ▸ qalloc2 _ _ _
  have LA : Loc w0 w.heap.size #[.int .i64 n, .string s, .slice ao xs.length ca] := hw0 ▸ (loc_at w _ _ rfl).alloc _
  have LB : Loc w0 (w.heap.size + 1) #[.int .i64 m, .string t, .slice bo ys.length cb] := hw0 ▸ loc_at (w.alloc _) _ _ (by simp)
  have z0 : w0.heap.size = w.heap.size + 1 + 1 := by rw [← hw0]; simp
  clear ha hb
  go_enter Try.func7, Try.ntmps7
  have cLA0 := LA.cell 0 rfl
  have cLA1 := LA.cell 1 rfl
  have cLA2 := LA.cell 2 rfl
  have cLB0 := LB.cell 0 rfl
  have cLB1 := LB.cell 1 rfl
  have cLB2 := LB.cell 2 rfl
  go_wp2_with fail
  clear hw0
  refine (unhide ZA _).mono ?_
  rintro _ w1 ⟨rfl, bb⟩
  clear cLA0 cLA1 cLA2 cLB0 cLB1 cLB2
  have Bw1 := Bw0.trans (bb.mono Bw0.size)
  have sw1 := bb.size
  replace LA := LA.below bb LA.lt
  replace LB := LB.below bb LB.lt
  clear Bw0
  clear bb ZA
  have cLB0 := LB.cell 0 rfl
  have cLB1 := LB.cell 1 rfl
  have cLB2 := LB.cell 2 rfl
  go_wp2_with fail
  refine (unhide ZB _).mono ?_
  rintro _ w2 ⟨rfl, bb⟩
  clear cLB0 cLB1 cLB2
  have Bw2 := Bw1.trans (bb.mono Bw1.size)
  have sw2 := bb.size
  replace LA := LA.below bb LA.lt
  replace LB := LB.below bb LB.lt
  clear Bw1
  clear bb
  clear ZB
  have K : Hid (∀ w', Below w2.heap.size w2 w' → (fun w' => Below w2.heap.size w2 w' ∧ (w'.cell? ⟨w.heap.size, 0, none⟩ = some (.int .i64 n) ∧ w'.cell? ⟨w.heap.size, 1, none⟩ = some (.string s) ∧ w'.cell? ⟨w.heap.size, 2, none⟩ = some (.slice ao xs.length ca)) ∧ (w'.cell? ⟨w.heap.size + 1, 0, none⟩ = some (.int .i64 m) ∧ w'.cell? ⟨w.heap.size + 1, 1, none⟩ = some (.string t) ∧ w'.cell? ⟨w.heap.size + 1, 2, none⟩ = some (.slice bo ys.length cb))) w') := hide fun w' hb' => ⟨hb', ⟨(LA.below hb' LA.lt).cell 0 rfl, (LA.below hb' LA.lt).cell 1 rfl, (LA.below hb' LA.lt).cell 2 rfl⟩, ⟨(LB.below hb' LB.lt).cell 0 rfl, (LB.below hb' LB.lt).cell 1 rfl, (LB.below hb' LB.lt).cell 2 rfl⟩⟩
  go_upto_region 8 with fail
  have bA : Below w2.heap.size w2 w2.drew := Below.drew (Below.refl _ _)
  refine wp_region_noPanic ?_
  refine wp_region_held_drew (S := fun w' => Below w2.heap.size w2 w' ∧ (w'.cell? ⟨w.heap.size, 0, none⟩ = some (.int .i64 n) ∧ w'.cell? ⟨w.heap.size, 1, none⟩ = some (.string s) ∧ w'.cell? ⟨w.heap.size, 2, none⟩ = some (.slice ao xs.length ca)) ∧ (w'.cell? ⟨w.heap.size + 1, 0, none⟩ = some (.int .i64 m) ∧ w'.cell? ⟨w.heap.size + 1, 1, none⟩ = some (.string t) ∧ w'.cell? ⟨w.heap.size + 1, 2, none⟩ = some (.slice bo ys.length cb))) (by kernel_rfl) (unhide K _ bA) (fun hHeld => ?_)
  refine take_at (i := 0) (d := 20) (v := ?_) rfl rfl (by kernel_rfl) (by kernel_rfl) (by kernel_rfl) (fun _ _ _ h => h) (Or.inl ⟨by rfl, ?_⟩) (by assumption) ?_
  rotate_left
  · intro w hSw
    try dsimp only at hSw
    go_simp
    try with_reducible rfl
  simp only [Act.put, List.setIfInBounds_toArray, List.set_cons_zero, List.set_cons_succ]
  refine take_at (i := 2) (d := 22) (v := ?_) rfl rfl (by kernel_rfl) (by kernel_rfl) (by kernel_rfl) (fun _ _ _ h => h) (Or.inl ⟨by rfl, ?_⟩) (by assumption) ?_
  rotate_left
  · intro w hSw
    try dsimp only at hSw
    go_simp
    try with_reducible rfl
  simp only [Act.put, List.setIfInBounds_toArray, List.set_cons_zero, List.set_cons_succ]
  refine ready_at (i := 1) rfl (by kernel_rfl) (fun KK hKK => ?_)
  go_simp
  have hgo := bA
  refine (unhide TA _ ((unhide HA).below (Bw2.trans (hgo.mono Bw2.size)) (Nat.le_refl _))).mono ?_
  rintro e wx8_0 ⟨vv1, rfl, o1, bb⟩
  have bB : Below w2.heap.size w2 wx8_0 := bA.trans (bb.mono bA.size)
  have R1 := hide fun w' (hb' : Below wx8_0.heap.size wx8_0 w') => (o1.below hb').ri (by omega)
  clear o1
  clear bA hgo bb
  clear hHeld
  refine hKK.out _ _ (unhide K _ bB) (fun hHeld => ?_)
  clear hKK KK
  refine ready_at (i := 3) rfl (by kernel_rfl) (fun KK hKK => ?_)
  go_simp
  have hgo := bB
  refine (unhide TB _ ((unhide HB).below (Bw2.trans (hgo.mono Bw2.size)) (Nat.le_refl _))).mono ?_
  rintro e wx8_1 ⟨vv2, rfl, o2, bb⟩
  have bC : Below w2.heap.size w2 wx8_1 := bB.trans (bb.mono bB.size)
  have R2 := hide (o2.ri (by omega))
  have R3 := hide (unhide R1 _ bb)
  clear o2 R1
  clear bB hgo bb
  clear hHeld
  refine hKK.out _ _ (unhide K _ bC) (fun hHeld => ?_)
  clear hKK KK
  refine ready_at (i := 4) rfl (by kernel_rfl) (fun KK hKK => ?_)
  go_simp
  have hgo := bC
  refine (unhide SP _ _ _ (unhide R3) (unhide R2)).mono ?_
  rintro e wx8_2 ⟨rfl, bb⟩
  have bD : Below w2.heap.size w2 wx8_2 := bC.trans (bb.mono bC.size)
  clear R2 R3
  clear bC hgo bb
  clear hHeld
  refine hKK.out _ _ (unhide K _ bD) (fun hHeld => ?_)
  clear hKK KK
  refine take_at (i := 5) (d := 6) (v := ?_) rfl rfl (by kernel_rfl) (by kernel_rfl) (by kernel_rfl) (fun _ _ _ h => h) (Or.inl ⟨by rfl, ?_⟩) (by assumption) ?_
  rotate_left
  · intro w hSw
    try dsimp only at hSw
    go_simp
    try with_reducible rfl
  simp only [Act.put, List.setIfInBounds_toArray, List.set_cons_zero, List.set_cons_succ]
  clear hHeld
  refine wpAnyH_done (by kernel_rfl) ?_ _
  refine NoPanic.normal ?_
  have bb := bD
  have Bwx8_2 := Bw2.trans (bb.mono Bw2.size)
  have swx8_2 := bb.size
  replace LA := LA.below bb LA.lt
  replace LB := LB.below bb LB.lt
  clear Bw2
  clear bb bD K
  clear SP
  have cLA0 := LA.cell 0 rfl
  have cLA1 := LA.cell 1 rfl
  have cLA2 := LA.cell 2 rfl
  go_wp2_with fail
  refine (unhide TA _ ((unhide HA).below Bwx8_2 (Nat.le_refl _))).mono ?_
  rintro _ w3 ⟨u, rfl, oX, bb⟩
  clear cLA0 cLA1 cLA2
  have Bw3 := Bwx8_2.trans (bb.mono Bwx8_2.size)
  have sw3 := bb.size
  replace LA := LA.below bb LA.lt
  replace LB := LB.below bb LB.lt
  clear Bwx8_2
  clear bb
  have toX := World.ownsRow.lt oX
  obtain ⟨aoX, koX, rfl⟩ := oX.form
  obtain ⟨w4, hw4⟩ : ∃ x, w3.alloc (.cells #[.int .i64 n, .string s, .slice aoX xs.length koX] 31) = x := ⟨_, rfl⟩
  have bb : Below w3.heap.size w3 w4 := hw4 ▸ qalloc _ _
  have X : Loc w4 w3.heap.size #[.int .i64 n, .string s, .slice aoX xs.length koX] := hw4 ▸ loc_at w3 _ _ rfl
  have zw4 : w4.heap.size = w3.heap.size + 1 := by rw [← hw4]; simp
  have Bw4 := Bw3.trans (bb.mono Bw3.size)
  have sw4 := bb.size
  replace LA := LA.below bb LA.lt
  replace LB := LB.below bb LB.lt
  replace oX := oX.below bb
  clear Bw3
  clear bb
  have cLB0 := LB.cell 0 rfl
  have cLB1 := LB.cell 1 rfl
  have cLB2 := LB.cell 2 rfl
  go_wp2_with fail
  clear hw4
  refine (unhide TB _ ((unhide HB).below Bw4 (Nat.le_refl _))).mono ?_
  rintro _ w5 ⟨u, rfl, oY, bb⟩
  clear cLB0 cLB1 cLB2
  have Bw5 := Bw4.trans (bb.mono Bw4.size)
  have sw5 := bb.size
  replace LA := LA.below bb LA.lt
  replace LB := LB.below bb LB.lt
  replace X := X.below bb X.lt
  replace oX := oX.below bb
  clear Bw4
  clear bb
  have toY := World.ownsRow.lt oY
  obtain ⟨aoY, koY, rfl⟩ := oY.form
  obtain ⟨w6, hw6⟩ : ∃ x, w5.alloc (.cells #[.int .i64 m, .string t, .slice aoY ys.length koY] 31) = x := ⟨_, rfl⟩
  have bb : Below w5.heap.size w5 w6 := hw6 ▸ qalloc _ _
  have Y : Loc w6 w5.heap.size #[.int .i64 m, .string t, .slice aoY ys.length koY] := hw6 ▸ loc_at w5 _ _ rfl
  have zw6 : w6.heap.size = w5.heap.size + 1 := by rw [← hw6]; simp
  have Bw6 := Bw5.trans (bb.mono Bw5.size)
  have sw6 := bb.size
  replace LA := LA.below bb LA.lt
  replace LB := LB.below bb LB.lt
  replace X := X.below bb X.lt
  replace oX := oX.below bb
  replace oY := oY.below bb
  clear Bw5
  clear bb
  have cX0 := X.cell 0 rfl
  have cX1 := X.cell 1 rfl
  have cX2 := X.cell 2 rfl
  have cY0 := Y.cell 0 rfl
  have cY1 := Y.cell 1 rfl
  have cY2 := Y.cell 2 rfl
  go_wp2_with fail
  clear hw6
  refine (unhide IM _ _ _ (oX.ri (by omega)) (oY.ri (by omega))).mono ?_
  rintro _ w7 ⟨rfl, bb⟩
  clear cX0 cX1 cX2 cY0 cY1 cY2
  have Bw7 := Bw6.trans (bb.mono Bw6.size)
  have sw7 := bb.size
  replace LA := LA.below bb LA.lt
  replace LB := LB.below bb LB.lt
  replace X := X.below bb X.lt
  replace Y := Y.below bb Y.lt
  replace oX := oX.below bb
  replace oY := oY.below bb
  clear Bw6
  clear bb
  clear IM
  have RX := hide fun w' (hb' : Below w7.heap.size w7 w') => (oX.below hb').ri (by omega)
  have K : Hid (∀ w', Below w7.heap.size w7 w' → (fun w' => Below w7.heap.size w7 w' ∧ (w'.cell? ⟨w.heap.size, 0, none⟩ = some (.int .i64 n) ∧ w'.cell? ⟨w.heap.size, 1, none⟩ = some (.string s) ∧ w'.cell? ⟨w.heap.size, 2, none⟩ = some (.slice ao xs.length ca)) ∧ (w'.cell? ⟨w3.heap.size, 0, none⟩ = some (.int .i64 n) ∧ w'.cell? ⟨w3.heap.size, 1, none⟩ = some (.string s) ∧ w'.cell? ⟨w3.heap.size, 2, none⟩ = some (.slice aoX xs.length koX))) w') := hide fun w' hb' => ⟨hb', ⟨(LA.below hb' LA.lt).cell 0 rfl, (LA.below hb' LA.lt).cell 1 rfl, (LA.below hb' LA.lt).cell 2 rfl⟩, ⟨(X.below hb' X.lt).cell 0 rfl, (X.below hb' X.lt).cell 1 rfl, (X.below hb' X.lt).cell 2 rfl⟩⟩
  go_upto_region 14 with fail
  have bA : Below w7.heap.size w7 w7.drew := Below.drew (Below.refl _ _)
  refine wp_region_noPanic ?_
  refine wp_region_held_drew (S := fun w' => Below w7.heap.size w7 w' ∧ (w'.cell? ⟨w.heap.size, 0, none⟩ = some (.int .i64 n) ∧ w'.cell? ⟨w.heap.size, 1, none⟩ = some (.string s) ∧ w'.cell? ⟨w.heap.size, 2, none⟩ = some (.slice ao xs.length ca)) ∧ (w'.cell? ⟨w3.heap.size, 0, none⟩ = some (.int .i64 n) ∧ w'.cell? ⟨w3.heap.size, 1, none⟩ = some (.string s) ∧ w'.cell? ⟨w3.heap.size, 2, none⟩ = some (.slice aoX xs.length koX))) (by kernel_rfl) (unhide K _ bA) (fun hHeld => ?_)
  refine take_at (i := 0) (d := 35) (v := ?_) rfl rfl (by kernel_rfl) (by kernel_rfl) (by kernel_rfl) (fun _ _ _ h => h) (Or.inl ⟨by rfl, ?_⟩) (by assumption) ?_
  rotate_left
  · intro w hSw
    try dsimp only at hSw
    go_simp
    try with_reducible rfl
  simp only [Act.put, List.setIfInBounds_toArray, List.set_cons_zero, List.set_cons_succ]
  refine take_at (i := 1) (d := 36) (v := ?_) rfl rfl (by kernel_rfl) (by kernel_rfl) (by kernel_rfl) (fun _ _ _ h => h) (Or.inl ⟨by rfl, ?_⟩) (by assumption) ?_
  rotate_left
  · intro w hSw
    try dsimp only at hSw
    go_simp
    try with_reducible rfl
  simp only [Act.put, List.setIfInBounds_toArray, List.set_cons_zero, List.set_cons_succ]
  refine ready_at (i := 2) rfl (by kernel_rfl) (fun KK hKK => ?_)
  go_simp
  have hgo := bA
  refine (unhide TA _ ((unhide HA).below (Bw7.trans (hgo.mono Bw7.size)) (Nat.le_refl _))).mono ?_
  rintro e wx14_0 ⟨vv1, rfl, o1, bb⟩
  have bB : Below w7.heap.size w7 wx14_0 := bA.trans (bb.mono bA.size)
  have R1 := hide (o1.ri (by omega))
  clear o1
  clear bA hgo bb
  clear hHeld
  refine hKK.out _ _ (unhide K _ bB) (fun hHeld => ?_)
  clear hKK KK
  refine ready_at (i := 3) rfl (by kernel_rfl) (fun KK hKK => ?_)
  go_simp
  have hgo := bB
  refine (eqQc_yes n s _ _ xs _ (unhide RX _ hgo) (unhide R1)).mono ?_
  rintro e wx14_1 ⟨rfl, bb⟩
  have bC : Below w7.heap.size w7 wx14_1 := bB.trans (bb.mono bB.size)
  clear R1 RX
  clear bB hgo bb
  clear hHeld
  refine hKK.out _ _ (unhide K _ bC) (fun hHeld => ?_)
  clear hKK KK
  refine take_at (i := 4) (d := 39) (v := ?_) rfl rfl (by kernel_rfl) (by kernel_rfl) (by kernel_rfl) (fun _ _ _ h => h) (Or.inl ⟨by rfl, ?_⟩) (by assumption) ?_
  rotate_left
  · intro w hSw
    try dsimp only at hSw
    go_simp
    try with_reducible rfl
  simp only [Act.put, List.setIfInBounds_toArray, List.set_cons_zero, List.set_cons_succ]
  clear hHeld
  refine wpAnyH_done (by kernel_rfl) ?_ _
  refine NoPanic.normal ?_
  have bb := bC
  have Bwx14_1 := Bw7.trans (bb.mono Bw7.size)
  have swx14_1 := bb.size
  replace LA := LA.below bb LA.lt
  replace LB := LB.below bb LB.lt
  replace X := X.below bb X.lt
  replace Y := Y.below bb Y.lt
  replace oX := oX.below bb
  replace oY := oY.below bb
  clear Bw7
  clear bb bC K
  have RX := hide fun w' (hb' : Below wx14_1.heap.size wx14_1 w') => (oY.below hb').ri (by omega)
  have K : Hid (∀ w', Below wx14_1.heap.size wx14_1 w' → (fun w' => Below wx14_1.heap.size wx14_1 w' ∧ (w'.cell? ⟨w.heap.size + 1, 0, none⟩ = some (.int .i64 m) ∧ w'.cell? ⟨w.heap.size + 1, 1, none⟩ = some (.string t) ∧ w'.cell? ⟨w.heap.size + 1, 2, none⟩ = some (.slice bo ys.length cb)) ∧ (w'.cell? ⟨w5.heap.size, 0, none⟩ = some (.int .i64 m) ∧ w'.cell? ⟨w5.heap.size, 1, none⟩ = some (.string t) ∧ w'.cell? ⟨w5.heap.size, 2, none⟩ = some (.slice aoY ys.length koY))) w') := hide fun w' hb' => ⟨hb', ⟨(LB.below hb' LB.lt).cell 0 rfl, (LB.below hb' LB.lt).cell 1 rfl, (LB.below hb' LB.lt).cell 2 rfl⟩, ⟨(Y.below hb' Y.lt).cell 0 rfl, (Y.below hb' Y.lt).cell 1 rfl, (Y.below hb' Y.lt).cell 2 rfl⟩⟩
  go_upto_region 16 with fail
  have bA : Below wx14_1.heap.size wx14_1 wx14_1.drew := Below.drew (Below.refl _ _)
  refine wp_region_noPanic ?_
  refine wp_region_held_drew (S := fun w' => Below wx14_1.heap.size wx14_1 w' ∧ (w'.cell? ⟨w.heap.size + 1, 0, none⟩ = some (.int .i64 m) ∧ w'.cell? ⟨w.heap.size + 1, 1, none⟩ = some (.string t) ∧ w'.cell? ⟨w.heap.size + 1, 2, none⟩ = some (.slice bo ys.length cb)) ∧ (w'.cell? ⟨w5.heap.size, 0, none⟩ = some (.int .i64 m) ∧ w'.cell? ⟨w5.heap.size, 1, none⟩ = some (.string t) ∧ w'.cell? ⟨w5.heap.size, 2, none⟩ = some (.slice aoY ys.length koY))) (by kernel_rfl) (unhide K _ bA) (fun hHeld => ?_)
  refine take_at (i := 0) (d := 40) (v := ?_) rfl rfl (by kernel_rfl) (by kernel_rfl) (by kernel_rfl) (fun _ _ _ h => h) (Or.inl ⟨by rfl, ?_⟩) (by assumption) ?_
  rotate_left
  · intro w hSw
    try dsimp only at hSw
    go_simp
    try with_reducible rfl
  simp only [Act.put, List.setIfInBounds_toArray, List.set_cons_zero, List.set_cons_succ]
  refine take_at (i := 1) (d := 41) (v := ?_) rfl rfl (by kernel_rfl) (by kernel_rfl) (by kernel_rfl) (fun _ _ _ h => h) (Or.inl ⟨by rfl, ?_⟩) (by assumption) ?_
  rotate_left
  · intro w hSw
    try dsimp only at hSw
    go_simp
    try with_reducible rfl
  simp only [Act.put, List.setIfInBounds_toArray, List.set_cons_zero, List.set_cons_succ]
  refine ready_at (i := 2) rfl (by kernel_rfl) (fun KK hKK => ?_)
  go_simp
  have hgo := bA
  refine (unhide TB _ ((unhide HB).below (Bwx14_1.trans (hgo.mono Bwx14_1.size)) (Nat.le_refl _))).mono ?_
  rintro e wx16_0 ⟨vv1, rfl, o1, bb⟩
  have bB : Below wx14_1.heap.size wx14_1 wx16_0 := bA.trans (bb.mono bA.size)
  have R1 := hide (o1.ri (by omega))
  clear o1
  clear bA hgo bb
  clear hHeld
  refine hKK.out _ _ (unhide K _ bB) (fun hHeld => ?_)
  clear hKK KK
  refine ready_at (i := 3) rfl (by kernel_rfl) (fun KK hKK => ?_)
  go_simp
  have hgo := bB
  refine (eqQc_yes m t _ _ ys _ (unhide RX _ hgo) (unhide R1)).mono ?_
  rintro e wx16_1 ⟨rfl, bb⟩
  have bC : Below wx14_1.heap.size wx14_1 wx16_1 := bB.trans (bb.mono bB.size)
  clear R1 RX
  clear bB hgo bb
  clear hHeld
  refine hKK.out _ _ (unhide K _ bC) (fun hHeld => ?_)
  clear hKK KK
  refine take_at (i := 4) (d := 44) (v := ?_) rfl rfl (by kernel_rfl) (by kernel_rfl) (by kernel_rfl) (fun _ _ _ h => h) (Or.inl ⟨by rfl, ?_⟩) (by assumption) ?_
  rotate_left
  · intro w hSw
    try dsimp only at hSw
    go_simp
    try with_reducible rfl
  simp only [Act.put, List.setIfInBounds_toArray, List.set_cons_zero, List.set_cons_succ]
  clear hHeld
  refine wpAnyH_done (by kernel_rfl) ?_ _
  refine NoPanic.normal ?_
  have bb := bC
  have Bwx16_1 := Bwx14_1.trans (bb.mono Bwx14_1.size)
  have swx16_1 := bb.size
  replace LA := LA.below bb LA.lt
  replace LB := LB.below bb LB.lt
  replace X := X.below bb X.lt
  replace Y := Y.below bb Y.lt
  replace oX := oX.below bb
  replace oY := oY.below bb
  clear Bwx14_1
  clear bb bC K
  go_wp2
  go_ret
  exact ⟨rfl, Bwx16_1⟩

set_option maxHeartbeats 4000000 in
set_option maxRecDepth 100000 in
theorem fnQcSame_long1 (n m : Int) (s t : ByteArray) (ao bo : Option Addr) (ca cb k j : Nat) (w : World) (h : 1048576 < s.size + k) (hs : s.size ≤ maxLen) (hk : k ≤ maxLen) :
    Calls Try.prog 7 #[qv n s (.slice ao k ca), qv m t (.slice bo j cb)] w fun e w' => e = .returned (.bool true) ∧ Below w.heap.size w w' := by
  unfold maxLen at hs hk
  have ZA := hide fun w => szQc_no n s ao k ca 1048576 w (by omega) (by omega) (by omega) (by omega) (by omega)
  have B0 := qalloc2 w (.cells #[.int .i64 n, .string s, .slice ao k ca] 36) (.cells #[.int .i64 m, .string t, .slice bo j cb] 36)
  go_enter Try.func7, Try.ntmps7
  go_wp2_with fail
  refine (unhide ZA _).mono ?_
  rintro _ w1 ⟨rfl, b1⟩
  go_wp2
  go_ret
  exact ⟨rfl, B0.trans (b1.mono B0.size)⟩
set_option maxHeartbeats 4000000 in
set_option maxRecDepth 100000 in
theorem fnQcSame_long2 (n m : Int) (s t : ByteArray) (ao bo : Option Addr) (ca cb k j : Nat) (w : World) (h0 : s.size + k ≤ 1048576) (h : 1048576 < s.size + k + t.size + j) (hs : t.size ≤ maxLen) (hk : j ≤ maxLen) :
    Calls Try.prog 7 #[qv n s (.slice ao k ca), qv m t (.slice bo j cb)] w fun e w' => e = .returned (.bool true) ∧ Below w.heap.size w w' := by
  unfold maxLen at hs hk
  have ZA := hide fun w => szQc_yes n s ao k ca 1048576 w (by omega) (by omega)
  have ZB := hide fun w => szQc_no m t bo j cb (1048576 - s.size - k) w (by omega) (by omega) (by omega) (by omega) (by omega)
  have d1 : decide ((1048576 : Int) - (s.size : Int) - (k : Int) < 0) = false := by simp; omega
  have B0 := qalloc2 w (.cells #[.int .i64 n, .string s, .slice ao k ca] 36) (.cells #[.int .i64 m, .string t, .slice bo j cb] 36)
  have LB : Loc ((w.alloc (.cells #[.int .i64 n, .string s, .slice ao k ca] 36)).alloc (.cells #[.int .i64 m, .string t, .slice bo j cb] 36)) (w.heap.size + 1) #[.int .i64 m, .string t, .slice bo j cb] := loc_at (w.alloc _) _ _ (by simp)
  go_enter Try.func7, Try.ntmps7
  go_wp2_with fail
  refine (unhide ZA _).mono ?_
  rintro _ w1 ⟨rfl, b1⟩
  have L1 := LB.below b1 LB.lt
  have c0 := L1.cell 0 rfl
  have c1 := L1.cell 1 rfl
  have c2 := L1.cell 2 rfl
  have B1 := B0.trans (b1.mono B0.size)
  clear LB L1 b1 B0
  go_wp2_with fail
  refine (unhide ZB _).mono ?_
  rintro _ w2 ⟨rfl, b2⟩
  go_wp2
  go_ret
  exact ⟨rfl, B1.trans (b2.mono B1.size)⟩
theorem fnQcSame_walk (n m : Int) (s t : ByteArray) (ao bo : Option Addr) (ca cb : Nat) (xs ys : List Int) (w : World) (hs : s.size ≤ maxLen) (hx : xs.length ≤ maxLen) (ht : t.size ≤ maxLen) (hy : ys.length ≤ maxLen) (ha : AIW w ao xs) (hb : AIW w bo ys) :
    Calls Try.prog 7 #[qv n s (.slice ao xs.length ca), qv m t (.slice bo ys.length cb)] w fun e w' => e = .returned (.bool true) ∧ Below w.heap.size w w' := by
  by_cases h1 : s.size + xs.length ≤ 1048576
  · by_cases h2 : s.size + xs.length + t.size + ys.length ≤ 1048576
    · exact fnQcSame_short n m s t ao bo ca cb xs ys w h2 (ha.ri (by omega)) (hb.ri (by omega))
    · exact fnQcSame_long2 n m s t ao bo ca cb _ _ w h1 (by omega) ht hy
  · exact fnQcSame_long1 n m s t ao bo ca cb _ _ w (by omega) hs hx
end Go.Proofs.Ytdgadkinkalcpaa
