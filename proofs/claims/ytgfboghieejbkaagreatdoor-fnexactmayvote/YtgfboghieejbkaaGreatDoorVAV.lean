/- The walk of laws.FnExactMayVote. -/
import Derived.Test.YtgfboghieejbkaaGreatDoorVAU
import Derived.Test.YtgfboghieejbkaaGreatDoorVAO
namespace Go.Proofs.YtgfboghieejbkaaGreatDoor
open Go.RowKit
set_option linter.unusedSectionVars false
variable [∀ (a b c d : Int), Decidable (Ok4 a b c d)]
variable [∀ (a b c d : Nat), Decidable (okN a b c d)]
variable [∀ (last : Int) (s : St), Decidable (GoodSt last s)]
variable [∀ (x : T4), Decidable (OkT x)]
variable [∀ (n : Int) (s : List Int), Decidable (OkL n s)]
variable [∀ (n f : Int), Decidable (COk n f)]

set_option maxHeartbeats 32000000 in
set_option maxRecDepth 100000 in
theorem fnMayVote_short (n f : Int) (vo lo v : Int) (s : ByteArray) (ao : Option Addr) (ca : Nat) (xs : List Int) (d : ByteArray) (m : ByteArray) (v' : Int) (s' : ByteArray) (bo : Option Addr) (cb : Nat) (ys : List Int) (w : World) (hz : s.size + xs.length + d.size + m.size + s'.size + ys.length ≤ 1048576) (hE : Env w) (ha : RI w (.slice ao xs.length ca) xs) (hb : RI w (.slice bo ys.length cb) ys) :
    Calls Tryz.prog 11 #[cv n f, sv vo lo v s (.slice ao xs.length ca) d, bv m v' s' (.slice bo ys.length cb)] w fun e w' => e = .returned (.bool true) ∧ Below w.heap.size w w' := by
  have HA := hide ha
  have HE := hide hE
  have HB := hide hb
  have ZA := hide fun w => szSafe_yes vo lo v s ao xs.length ca d 1048576 w (by omega) (by omega)
  have TC := hide fun w => toConf_any n f w
  have TA := hide fun w h => toSafe_any vo lo v s (.slice ao xs.length ca) xs d w h
  have d1 : decide ((1048576 : Int) - (s.size : Int) - (xs.length : Int) - (d.size : Int) < 0) = false := by simp; omega
  have ZB := hide fun w => szBlock_yes m v' s' bo ys.length cb (1048576 - s.size - xs.length - d.size) w (by omega) (by omega)
  have TB := hide fun w h => toBlock_any m v' s' (.slice bo ys.length cb) ys w h
  have d2 : decide ((1048576 : Int) - (s.size : Int) - (xs.length : Int) - (d.size : Int) - (m.size : Int) - (s'.size : Int) - (ys.length : Int) < 0) = false := by simp; omega
  have SP := hide fun a k a' k' w h h' => specMayVote n f vo lo v s a k xs d m v' s' a' k' ys w (by omega) (by omega) (by omega) (by omega) h h'
  have IM := hide fun a k a' k' w e h h' => implMayVote n f vo lo v s a k xs d m v' s' a' k' ys w (by omega) (by omega) (by omega) (by omega) e h h'
  generalize mayB n f vo lo v s xs d m v' s' ys = q at *
  have hq : (q != q) = false := by simp
  clear ha hE hb
  obtain ⟨w0, hw0⟩ : ∃ w0, (((w.alloc (.cells #[.int .i64 n, .int .i64 f] 88)).alloc (.cells #[.int .i64 vo, .int .i64 lo, .int .i64 v, .string s, .slice ao xs.length ca, .string d] 91)).alloc (.cells #[.string m, .int .i64 v', .string s', .slice bo ys.length cb] 102)) = w0 := ⟨_, rfl⟩
  have Bw0 : Below w.heap.size w w0 := hw0 ▸ (((Below.refl _ _).alloc (Nat.le_refl _) _).alloc (by simp) _).alloc (by simp; omega) _
  have LC : Loc w0 (w.heap.size) #[.int .i64 n, .int .i64 f] := hw0 ▸ ((loc_at (w) _ _ rfl).alloc _).alloc _
  have LA : Loc w0 (w.heap.size + 1) #[.int .i64 vo, .int .i64 lo, .int .i64 v, .string s, .slice ao xs.length ca, .string d] := hw0 ▸ (loc_at (w.alloc _) _ _ (by simp)).alloc _
  have LB : Loc w0 (w.heap.size + 1 + 1) #[.string m, .int .i64 v', .string s', .slice bo ys.length cb] := hw0 ▸ loc_at ((w.alloc _).alloc _) _ _ (by simp)
  have zw0 : w.heap.size + 1 + 1 + 1 ≤ w0.heap.size := by rw [← hw0]; simp
  go_enter Tryz.func11, Tryz.ntmps11
  have cLA0 := LA.cell 0 rfl
  have cLA1 := LA.cell 1 rfl
  have cLA2 := LA.cell 2 rfl
  have cLA3 := LA.cell 3 rfl
  have cLA4 := LA.cell 4 rfl
  have cLA5 := LA.cell 5 rfl
  go_wp2_with fail
  clear hw0
  refine (unhide ZA _).mono ?_
  rintro _ w1 ⟨rfl, bb⟩
  clear cLA0 cLA1 cLA2 cLA3 cLA4 cLA5
  have Bw1 := Bw0.trans (bb.mono Bw0.size)
  have sw1 := bb.size
  replace LC := LC.below bb LC.lt
  replace LA := LA.below bb LA.lt
  replace LB := LB.below bb LB.lt
  clear Bw0
  clear bb
  clear ZA
  have cLB0 := LB.cell 0 rfl
  have cLB1 := LB.cell 1 rfl
  have cLB2 := LB.cell 2 rfl
  have cLB3 := LB.cell 3 rfl
  go_wp2_with fail
  refine (unhide ZB _).mono ?_
  rintro _ w2 ⟨rfl, bb⟩
  clear cLB0 cLB1 cLB2 cLB3
  have Bw2 := Bw1.trans (bb.mono Bw1.size)
  have sw2 := bb.size
  replace LC := LC.below bb LC.lt
  replace LA := LA.below bb LA.lt
  replace LB := LB.below bb LB.lt
  clear Bw1
  clear bb
  clear ZB
  have K : Hid (∀ w', Below w2.heap.size w2 w' → (fun w' => Below w2.heap.size w2 w' ∧ (w'.cell? ⟨w.heap.size, 0, none⟩ = some (.int .i64 n) ∧ w'.cell? ⟨w.heap.size, 1, none⟩ = some (.int .i64 f)) ∧ (w'.cell? ⟨w.heap.size + 1, 0, none⟩ = some (.int .i64 vo) ∧ w'.cell? ⟨w.heap.size + 1, 1, none⟩ = some (.int .i64 lo) ∧ w'.cell? ⟨w.heap.size + 1, 2, none⟩ = some (.int .i64 v) ∧ w'.cell? ⟨w.heap.size + 1, 3, none⟩ = some (.string s) ∧ w'.cell? ⟨w.heap.size + 1, 4, none⟩ = some (.slice ao xs.length ca) ∧ w'.cell? ⟨w.heap.size + 1, 5, none⟩ = some (.string d)) ∧ (w'.cell? ⟨w.heap.size + 1 + 1, 0, none⟩ = some (.string m) ∧ w'.cell? ⟨w.heap.size + 1 + 1, 1, none⟩ = some (.int .i64 v') ∧ w'.cell? ⟨w.heap.size + 1 + 1, 2, none⟩ = some (.string s') ∧ w'.cell? ⟨w.heap.size + 1 + 1, 3, none⟩ = some (.slice bo ys.length cb))) w') := hide fun w' hb' => ⟨hb', ⟨(LC.below hb' LC.lt).cell 0 rfl, (LC.below hb' LC.lt).cell 1 rfl⟩, ⟨(LA.below hb' LA.lt).cell 0 rfl, (LA.below hb' LA.lt).cell 1 rfl, (LA.below hb' LA.lt).cell 2 rfl, (LA.below hb' LA.lt).cell 3 rfl, (LA.below hb' LA.lt).cell 4 rfl, (LA.below hb' LA.lt).cell 5 rfl⟩, ⟨(LB.below hb' LB.lt).cell 0 rfl, (LB.below hb' LB.lt).cell 1 rfl, (LB.below hb' LB.lt).cell 2 rfl, (LB.below hb' LB.lt).cell 3 rfl⟩⟩
  go_upto_region 8 with fail
  have bA : Below w2.heap.size w2 w2.drew := Below.drew (Below.refl _ _)
  refine wp_region_noPanic ?_
  refine wp_region_held_drew (S := fun w' => Below w2.heap.size w2 w' ∧ (w'.cell? ⟨w.heap.size, 0, none⟩ = some (.int .i64 n) ∧ w'.cell? ⟨w.heap.size, 1, none⟩ = some (.int .i64 f)) ∧ (w'.cell? ⟨w.heap.size + 1, 0, none⟩ = some (.int .i64 vo) ∧ w'.cell? ⟨w.heap.size + 1, 1, none⟩ = some (.int .i64 lo) ∧ w'.cell? ⟨w.heap.size + 1, 2, none⟩ = some (.int .i64 v) ∧ w'.cell? ⟨w.heap.size + 1, 3, none⟩ = some (.string s) ∧ w'.cell? ⟨w.heap.size + 1, 4, none⟩ = some (.slice ao xs.length ca) ∧ w'.cell? ⟨w.heap.size + 1, 5, none⟩ = some (.string d)) ∧ (w'.cell? ⟨w.heap.size + 1 + 1, 0, none⟩ = some (.string m) ∧ w'.cell? ⟨w.heap.size + 1 + 1, 1, none⟩ = some (.int .i64 v') ∧ w'.cell? ⟨w.heap.size + 1 + 1, 2, none⟩ = some (.string s') ∧ w'.cell? ⟨w.heap.size + 1 + 1, 3, none⟩ = some (.slice bo ys.length cb))) (by kernel_rfl) (unhide K _ bA) (fun hHeld => ?_)
  refine tk 0 22 (v := ?_) rfl (hy := .inl ⟨by rfl, ?_⟩) (h := ?_); rotate_left
  · intro w hSw; (try dsimp only at hSw); go_simp; (try with_reducible rfl)
  simp only [Act.put, List.setIfInBounds_toArray, List.set_cons_zero, List.set_cons_succ]
  refine tk 2 24 (v := ?_) rfl (hy := .inl ⟨by rfl, ?_⟩) (h := ?_); rotate_left
  · intro w hSw; (try dsimp only at hSw); go_simp; (try with_reducible rfl)
  simp only [Act.put, List.setIfInBounds_toArray, List.set_cons_zero, List.set_cons_succ]
  refine tk 4 26 (v := ?_) rfl (hy := .inl ⟨by rfl, ?_⟩) (h := ?_); rotate_left
  · intro w hSw; (try dsimp only at hSw); go_simp; (try with_reducible rfl)
  simp only [Act.put, List.setIfInBounds_toArray, List.set_cons_zero, List.set_cons_succ]
  refine ready_at (i := 1) rfl (by kernel_rfl) (fun KK hKK => ?_)
  go_simp
  have hgo := bA
  refine (unhide TC _).mono ?_
  rintro e wz8_1 ⟨rfl, bb⟩
  have bz1 : Below w2.heap.size w2 wz8_1 := bA.trans (bb.mono bA.size)
  clear bA hgo bb
  clear hHeld
  refine hKK.out _ _ (unhide K _ bz1) (fun hHeld => ?_)
  clear hKK KK
  refine ready_at (i := 3) rfl (by kernel_rfl) (fun KK hKK => ?_)
  go_simp
  have hgo := bz1
  refine (unhide TA _ ((unhide HA).below (Bw2.trans (hgo.mono Bw2.size)) (Nat.le_refl _))).mono ?_
  rintro e wz8_2 ⟨vv1, rfl, o1, bb⟩
  have bz2 : Below w2.heap.size w2 wz8_2 := bz1.trans (bb.mono bz1.size)
  have R1 := hide (o1.ri (by omega))
  obtain ⟨a1, k1, rfl⟩ := o1.form
  clear o1
  clear bz1 hgo bb
  clear hHeld
  refine hKK.out _ _ (unhide K _ bz2) (fun hHeld => ?_)
  clear hKK KK
  refine ready_at (i := 5) rfl (by kernel_rfl) (fun KK hKK => ?_)
  go_simp
  have hgo := bz2
  refine (unhide TB _ ((unhide HB).below (Bw2.trans (hgo.mono Bw2.size)) (Nat.le_refl _))).mono ?_
  rintro e wz8_3 ⟨vv2, rfl, o2, bb⟩
  have bz3 : Below w2.heap.size w2 wz8_3 := bz2.trans (bb.mono bz2.size)
  replace R1 := hide ((unhide R1).below bb (Nat.le_refl _))
  have R2 := hide (o2.ri (by omega))
  obtain ⟨a2, k2, rfl⟩ := o2.form
  clear o2
  clear bz2 hgo bb
  clear hHeld
  refine hKK.out _ _ (unhide K _ bz3) (fun hHeld => ?_)
  clear hKK KK
  refine ready_at (i := 6) rfl (by kernel_rfl) (fun KK hKK => ?_)
  go_simp
  have hgo := bz3
  refine (unhide SP _ _ _ _ _ (unhide R1) (unhide R2)).mono ?_
  rintro e wz8_4 ⟨rfl, bb⟩
  have bz4 : Below w2.heap.size w2 wz8_4 := bz3.trans (bb.mono bz3.size)
  clear R1 R2
  clear bz3 hgo bb
  clear hHeld
  refine hKK.out _ _ (unhide K _ bz4) (fun hHeld => ?_)
  clear hKK KK
  refine tk 7 8 (v := ?_) rfl (hy := .inl ⟨by rfl, ?_⟩) (h := ?_); rotate_left
  · intro w hSw; (try dsimp only at hSw); go_simp; (try with_reducible rfl)
  simp only [Act.put, List.setIfInBounds_toArray, List.set_cons_zero, List.set_cons_succ]
  clear hHeld
  refine wpAnyH_done (by kernel_rfl) ?_ _
  refine NoPanic.normal ?_
  have bb := bz4
  have Bwz8_4 := Bw2.trans (bb.mono Bw2.size)
  have swz8_4 := bb.size
  replace LC := LC.below bb LC.lt
  replace LA := LA.below bb LA.lt
  replace LB := LB.below bb LB.lt
  clear Bw2
  clear bb bz4 K
  clear SP
  have cLA0 := LA.cell 0 rfl
  have cLA1 := LA.cell 1 rfl
  have cLA2 := LA.cell 2 rfl
  have cLA3 := LA.cell 3 rfl
  have cLA4 := LA.cell 4 rfl
  have cLA5 := LA.cell 5 rfl
  go_wp2_with fail
  refine (unhide TA _ ((unhide HA).below Bwz8_4 (Nat.le_refl _))).mono ?_
  rintro _ w3 ⟨vX, rfl, oX, bb⟩
  clear cLA0 cLA1 cLA2 cLA3 cLA4 cLA5
  have Bw3 := Bwz8_4.trans (bb.mono Bwz8_4.size)
  have sw3 := bb.size
  replace LC := LC.below bb LC.lt
  replace LA := LA.below bb LA.lt
  replace LB := LB.below bb LB.lt
  clear Bwz8_4
  clear bb
  have toX := World.ownsRow.lt oX
  obtain ⟨aoX, koX, rfl⟩ := oX.form
  obtain ⟨w4, hw4⟩ : ∃ x, w3.alloc (.cells #[.int .i64 vo, .int .i64 lo, .int .i64 v, .string s, .slice aoX xs.length koX, .string d] 60) = x := ⟨_, rfl⟩
  have bb : Below w3.heap.size w3 w4 := hw4 ▸ qalloc _ _
  have X : Loc w4 w3.heap.size #[.int .i64 vo, .int .i64 lo, .int .i64 v, .string s, .slice aoX xs.length koX, .string d] := hw4 ▸ loc_at w3 _ _ rfl
  have zw4 : w4.heap.size = w3.heap.size + 1 := by rw [← hw4]; simp
  have Bw4 := Bw3.trans (bb.mono Bw3.size)
  have sw4 := bb.size
  replace LC := LC.below bb LC.lt
  replace LA := LA.below bb LA.lt
  replace LB := LB.below bb LB.lt
  replace oX := oX.below bb
  clear Bw3
  clear bb
  have cLB0 := LB.cell 0 rfl
  have cLB1 := LB.cell 1 rfl
  have cLB2 := LB.cell 2 rfl
  have cLB3 := LB.cell 3 rfl
  go_wp2_with fail
  clear hw4
  refine (unhide TB _ ((unhide HB).below Bw4 (Nat.le_refl _))).mono ?_
  rintro _ w5 ⟨vY, rfl, oY, bb⟩
  clear cLB0 cLB1 cLB2 cLB3
  have Bw5 := Bw4.trans (bb.mono Bw4.size)
  have sw5 := bb.size
  replace LC := LC.below bb LC.lt
  replace LA := LA.below bb LA.lt
  replace LB := LB.below bb LB.lt
  replace X := X.below bb X.lt
  replace oX := oX.below bb
  clear Bw4
  clear bb
  have toY := World.ownsRow.lt oY
  obtain ⟨aoY, koY, rfl⟩ := oY.form
  obtain ⟨w6, hw6⟩ : ∃ x, w5.alloc (.cells #[.string m, .int .i64 v', .string s', .slice aoY ys.length koY] 65) = x := ⟨_, rfl⟩
  have bb : Below w5.heap.size w5 w6 := hw6 ▸ qalloc _ _
  have Y : Loc w6 w5.heap.size #[.string m, .int .i64 v', .string s', .slice aoY ys.length koY] := hw6 ▸ loc_at w5 _ _ rfl
  have zw6 : w6.heap.size = w5.heap.size + 1 := by rw [← hw6]; simp
  have Bw6 := Bw5.trans (bb.mono Bw5.size)
  have sw6 := bb.size
  replace LC := LC.below bb LC.lt
  replace LA := LA.below bb LA.lt
  replace LB := LB.below bb LB.lt
  replace X := X.below bb X.lt
  replace oX := oX.below bb
  replace oY := oY.below bb
  clear Bw5
  clear bb
  have RX := hide fun w' (hb' : Below w6.heap.size w6 w') => (oX.below hb').ri (by omega)
  have RY := hide fun w' (hb' : Below w6.heap.size w6 w') => (oY.below hb').ri (by omega)
  have K : Hid (∀ w', Below w6.heap.size w6 w' → (fun w' => Below w6.heap.size w6 w' ∧ (w'.cell? ⟨w.heap.size, 0, none⟩ = some (.int .i64 n) ∧ w'.cell? ⟨w.heap.size, 1, none⟩ = some (.int .i64 f)) ∧ (w'.cell? ⟨w3.heap.size, 0, none⟩ = some (.int .i64 vo) ∧ w'.cell? ⟨w3.heap.size, 1, none⟩ = some (.int .i64 lo) ∧ w'.cell? ⟨w3.heap.size, 2, none⟩ = some (.int .i64 v) ∧ w'.cell? ⟨w3.heap.size, 3, none⟩ = some (.string s) ∧ w'.cell? ⟨w3.heap.size, 4, none⟩ = some (.slice aoX xs.length koX) ∧ w'.cell? ⟨w3.heap.size, 5, none⟩ = some (.string d)) ∧ (w'.cell? ⟨w5.heap.size, 0, none⟩ = some (.string m) ∧ w'.cell? ⟨w5.heap.size, 1, none⟩ = some (.int .i64 v') ∧ w'.cell? ⟨w5.heap.size, 2, none⟩ = some (.string s') ∧ w'.cell? ⟨w5.heap.size, 3, none⟩ = some (.slice aoY ys.length koY))) w') := hide fun w' hb' => ⟨hb', ⟨(LC.below hb' LC.lt).cell 0 rfl, (LC.below hb' LC.lt).cell 1 rfl⟩, ⟨(X.below hb' X.lt).cell 0 rfl, (X.below hb' X.lt).cell 1 rfl, (X.below hb' X.lt).cell 2 rfl, (X.below hb' X.lt).cell 3 rfl, (X.below hb' X.lt).cell 4 rfl, (X.below hb' X.lt).cell 5 rfl⟩, ⟨(Y.below hb' Y.lt).cell 0 rfl, (Y.below hb' Y.lt).cell 1 rfl, (Y.below hb' Y.lt).cell 2 rfl, (Y.below hb' Y.lt).cell 3 rfl⟩⟩
  go_upto_region 11 with fail
  clear hw6
  have bA : Below w6.heap.size w6 w6.drew := Below.drew (Below.refl _ _)
  refine wp_region_noPanic ?_
  refine wp_region_held_drew (S := fun w' => Below w6.heap.size w6 w' ∧ (w'.cell? ⟨w.heap.size, 0, none⟩ = some (.int .i64 n) ∧ w'.cell? ⟨w.heap.size, 1, none⟩ = some (.int .i64 f)) ∧ (w'.cell? ⟨w3.heap.size, 0, none⟩ = some (.int .i64 vo) ∧ w'.cell? ⟨w3.heap.size, 1, none⟩ = some (.int .i64 lo) ∧ w'.cell? ⟨w3.heap.size, 2, none⟩ = some (.int .i64 v) ∧ w'.cell? ⟨w3.heap.size, 3, none⟩ = some (.string s) ∧ w'.cell? ⟨w3.heap.size, 4, none⟩ = some (.slice aoX xs.length koX) ∧ w'.cell? ⟨w3.heap.size, 5, none⟩ = some (.string d)) ∧ (w'.cell? ⟨w5.heap.size, 0, none⟩ = some (.string m) ∧ w'.cell? ⟨w5.heap.size, 1, none⟩ = some (.int .i64 v') ∧ w'.cell? ⟨w5.heap.size, 2, none⟩ = some (.string s') ∧ w'.cell? ⟨w5.heap.size, 3, none⟩ = some (.slice aoY ys.length koY))) (by kernel_rfl) (unhide K _ bA) (fun hHeld => ?_)
  refine tk 0 33 (v := ?_) rfl (hy := .inl ⟨by rfl, ?_⟩) (h := ?_); rotate_left
  · intro w hSw; (try dsimp only at hSw); go_simp; (try with_reducible rfl)
  simp only [Act.put, List.setIfInBounds_toArray, List.set_cons_zero, List.set_cons_succ]
  refine tk 2 35 (v := ?_) rfl (hy := .inl ⟨by rfl, ?_⟩) (h := ?_); rotate_left
  · intro w hSw; (try dsimp only at hSw); go_simp; (try with_reducible rfl)
  simp only [Act.put, List.setIfInBounds_toArray, List.set_cons_zero, List.set_cons_succ]
  refine tk 3 36 (v := ?_) rfl (hy := .inl ⟨by rfl, ?_⟩) (h := ?_); rotate_left
  · intro w hSw; (try dsimp only at hSw); go_simp; (try with_reducible rfl)
  simp only [Act.put, List.setIfInBounds_toArray, List.set_cons_zero, List.set_cons_succ]
  refine ready_at (i := 1) rfl (by kernel_rfl) (fun KK hKK => ?_)
  go_simp
  have hgo := bA
  refine (unhide TC _).mono ?_
  rintro e wz11_1 ⟨rfl, bb⟩
  have bz1 : Below w6.heap.size w6 wz11_1 := bA.trans (bb.mono bA.size)
  clear bA hgo bb
  clear hHeld
  refine hKK.out _ _ (unhide K _ bz1) (fun hHeld => ?_)
  clear hKK KK
  refine ready_at (i := 4) rfl (by kernel_rfl) (fun KK hKK => ?_)
  go_simp
  have hgo := bz1
  refine (unhide IM _ _ _ _ _ ((unhide HE).below (Bw6.trans (hgo.mono Bw6.size))) (unhide RX _ hgo) (unhide RY _ hgo)).mono ?_
  rintro e wz11_2 ⟨rfl, bb⟩
  have bz2 : Below w6.heap.size w6 wz11_2 := bz1.trans (bb.mono bz1.size)
  clear RX RY
  clear bz1 hgo bb
  clear hHeld
  refine hKK.out _ _ (unhide K _ bz2) (fun hHeld => ?_)
  clear hKK KK
  refine tk 5 11 (v := ?_) rfl (hy := .inl ⟨by rfl, ?_⟩) (h := ?_); rotate_left
  · intro w hSw; (try dsimp only at hSw); go_simp; (try with_reducible rfl)
  simp only [Act.put, List.setIfInBounds_toArray, List.set_cons_zero, List.set_cons_succ]
  clear hHeld
  refine wpAnyH_done (by kernel_rfl) ?_ _
  refine NoPanic.normal ?_
  have bb := bz2
  have Bwz11_2 := Bw6.trans (bb.mono Bw6.size)
  have swz11_2 := bb.size
  replace LC := LC.below bb LC.lt
  replace LA := LA.below bb LA.lt
  replace LB := LB.below bb LB.lt
  replace X := X.below bb X.lt
  replace Y := Y.below bb Y.lt
  replace oX := oX.below bb
  replace oY := oY.below bb
  clear Bw6
  clear bb bz2 K
  clear IM
  have RX := hide fun w' (hb' : Below wz11_2.heap.size wz11_2 w') => (oX.below hb').ri (by omega)
  have K : Hid (∀ w', Below wz11_2.heap.size wz11_2 w' → (fun w' => Below wz11_2.heap.size wz11_2 w' ∧ (w'.cell? ⟨w.heap.size + 1, 0, none⟩ = some (.int .i64 vo) ∧ w'.cell? ⟨w.heap.size + 1, 1, none⟩ = some (.int .i64 lo) ∧ w'.cell? ⟨w.heap.size + 1, 2, none⟩ = some (.int .i64 v) ∧ w'.cell? ⟨w.heap.size + 1, 3, none⟩ = some (.string s) ∧ w'.cell? ⟨w.heap.size + 1, 4, none⟩ = some (.slice ao xs.length ca) ∧ w'.cell? ⟨w.heap.size + 1, 5, none⟩ = some (.string d)) ∧ (w'.cell? ⟨w3.heap.size, 0, none⟩ = some (.int .i64 vo) ∧ w'.cell? ⟨w3.heap.size, 1, none⟩ = some (.int .i64 lo) ∧ w'.cell? ⟨w3.heap.size, 2, none⟩ = some (.int .i64 v) ∧ w'.cell? ⟨w3.heap.size, 3, none⟩ = some (.string s) ∧ w'.cell? ⟨w3.heap.size, 4, none⟩ = some (.slice aoX xs.length koX) ∧ w'.cell? ⟨w3.heap.size, 5, none⟩ = some (.string d))) w') := hide fun w' hb' => ⟨hb', ⟨(LA.below hb' LA.lt).cell 0 rfl, (LA.below hb' LA.lt).cell 1 rfl, (LA.below hb' LA.lt).cell 2 rfl, (LA.below hb' LA.lt).cell 3 rfl, (LA.below hb' LA.lt).cell 4 rfl, (LA.below hb' LA.lt).cell 5 rfl⟩, ⟨(X.below hb' X.lt).cell 0 rfl, (X.below hb' X.lt).cell 1 rfl, (X.below hb' X.lt).cell 2 rfl, (X.below hb' X.lt).cell 3 rfl, (X.below hb' X.lt).cell 4 rfl, (X.below hb' X.lt).cell 5 rfl⟩⟩
  go_upto_region 14 with fail
  have bA : Below wz11_2.heap.size wz11_2 wz11_2.drew := Below.drew (Below.refl _ _)
  refine wp_region_noPanic ?_
  refine wp_region_held_drew (S := fun w' => Below wz11_2.heap.size wz11_2 w' ∧ (w'.cell? ⟨w.heap.size + 1, 0, none⟩ = some (.int .i64 vo) ∧ w'.cell? ⟨w.heap.size + 1, 1, none⟩ = some (.int .i64 lo) ∧ w'.cell? ⟨w.heap.size + 1, 2, none⟩ = some (.int .i64 v) ∧ w'.cell? ⟨w.heap.size + 1, 3, none⟩ = some (.string s) ∧ w'.cell? ⟨w.heap.size + 1, 4, none⟩ = some (.slice ao xs.length ca) ∧ w'.cell? ⟨w.heap.size + 1, 5, none⟩ = some (.string d)) ∧ (w'.cell? ⟨w3.heap.size, 0, none⟩ = some (.int .i64 vo) ∧ w'.cell? ⟨w3.heap.size, 1, none⟩ = some (.int .i64 lo) ∧ w'.cell? ⟨w3.heap.size, 2, none⟩ = some (.int .i64 v) ∧ w'.cell? ⟨w3.heap.size, 3, none⟩ = some (.string s) ∧ w'.cell? ⟨w3.heap.size, 4, none⟩ = some (.slice aoX xs.length koX) ∧ w'.cell? ⟨w3.heap.size, 5, none⟩ = some (.string d))) (by kernel_rfl) (unhide K _ bA) (fun hHeld => ?_)
  refine tk 0 41 (v := ?_) rfl (hy := .inl ⟨by rfl, ?_⟩) (h := ?_); rotate_left
  · intro w hSw; (try dsimp only at hSw); go_simp; (try with_reducible rfl)
  simp only [Act.put, List.setIfInBounds_toArray, List.set_cons_zero, List.set_cons_succ]
  refine tk 1 42 (v := ?_) rfl (hy := .inl ⟨by rfl, ?_⟩) (h := ?_); rotate_left
  · intro w hSw; (try dsimp only at hSw); go_simp; (try with_reducible rfl)
  simp only [Act.put, List.setIfInBounds_toArray, List.set_cons_zero, List.set_cons_succ]
  refine ready_at (i := 2) rfl (by kernel_rfl) (fun KK hKK => ?_)
  go_simp
  have hgo := bA
  refine (unhide TA _ ((unhide HA).below (Bwz11_2.trans (hgo.mono Bwz11_2.size)) (Nat.le_refl _))).mono ?_
  rintro e wz14_1 ⟨vv1, rfl, o1, bb⟩
  have bz1 : Below wz11_2.heap.size wz11_2 wz14_1 := bA.trans (bb.mono bA.size)
  have R1 := hide (o1.ri (by omega))
  clear o1
  clear bA hgo bb
  clear hHeld
  refine hKK.out _ _ (unhide K _ bz1) (fun hHeld => ?_)
  clear hKK KK
  refine ready_at (i := 3) rfl (by kernel_rfl) (fun KK hKK => ?_)
  go_simp
  have hgo := bz1
  refine (eqSafe_yes vo lo v s _ _ xs d _ (unhide RX _ hgo) (unhide R1)).mono ?_
  rintro e wz14_2 ⟨rfl, bb⟩
  have bz2 : Below wz11_2.heap.size wz11_2 wz14_2 := bz1.trans (bb.mono bz1.size)
  clear R1 RX
  clear bz1 hgo bb
  clear hHeld
  refine hKK.out _ _ (unhide K _ bz2) (fun hHeld => ?_)
  clear hKK KK
  refine tk 4 45 (v := ?_) rfl (hy := .inl ⟨by rfl, ?_⟩) (h := ?_); rotate_left
  · intro w hSw; (try dsimp only at hSw); go_simp; (try with_reducible rfl)
  simp only [Act.put, List.setIfInBounds_toArray, List.set_cons_zero, List.set_cons_succ]
  clear hHeld
  refine wpAnyH_done (by kernel_rfl) ?_ _
  refine NoPanic.normal ?_
  have bb := bz2
  have Bwz14_2 := Bwz11_2.trans (bb.mono Bwz11_2.size)
  have swz14_2 := bb.size
  replace LC := LC.below bb LC.lt
  replace LA := LA.below bb LA.lt
  replace LB := LB.below bb LB.lt
  replace X := X.below bb X.lt
  replace Y := Y.below bb Y.lt
  replace oX := oX.below bb
  replace oY := oY.below bb
  clear Bwz11_2
  clear bb bz2 K
  have RY := hide fun w' (hb' : Below wz14_2.heap.size wz14_2 w') => (oY.below hb').ri (by omega)
  have K : Hid (∀ w', Below wz14_2.heap.size wz14_2 w' → (fun w' => Below wz14_2.heap.size wz14_2 w' ∧ (w'.cell? ⟨w.heap.size + 1 + 1, 0, none⟩ = some (.string m) ∧ w'.cell? ⟨w.heap.size + 1 + 1, 1, none⟩ = some (.int .i64 v') ∧ w'.cell? ⟨w.heap.size + 1 + 1, 2, none⟩ = some (.string s') ∧ w'.cell? ⟨w.heap.size + 1 + 1, 3, none⟩ = some (.slice bo ys.length cb)) ∧ (w'.cell? ⟨w5.heap.size, 0, none⟩ = some (.string m) ∧ w'.cell? ⟨w5.heap.size, 1, none⟩ = some (.int .i64 v') ∧ w'.cell? ⟨w5.heap.size, 2, none⟩ = some (.string s') ∧ w'.cell? ⟨w5.heap.size, 3, none⟩ = some (.slice aoY ys.length koY))) w') := hide fun w' hb' => ⟨hb', ⟨(LB.below hb' LB.lt).cell 0 rfl, (LB.below hb' LB.lt).cell 1 rfl, (LB.below hb' LB.lt).cell 2 rfl, (LB.below hb' LB.lt).cell 3 rfl⟩, ⟨(Y.below hb' Y.lt).cell 0 rfl, (Y.below hb' Y.lt).cell 1 rfl, (Y.below hb' Y.lt).cell 2 rfl, (Y.below hb' Y.lt).cell 3 rfl⟩⟩
  go_upto_region 16 with fail
  have bA : Below wz14_2.heap.size wz14_2 wz14_2.drew := Below.drew (Below.refl _ _)
  refine wp_region_noPanic ?_
  refine wp_region_held_drew (S := fun w' => Below wz14_2.heap.size wz14_2 w' ∧ (w'.cell? ⟨w.heap.size + 1 + 1, 0, none⟩ = some (.string m) ∧ w'.cell? ⟨w.heap.size + 1 + 1, 1, none⟩ = some (.int .i64 v') ∧ w'.cell? ⟨w.heap.size + 1 + 1, 2, none⟩ = some (.string s') ∧ w'.cell? ⟨w.heap.size + 1 + 1, 3, none⟩ = some (.slice bo ys.length cb)) ∧ (w'.cell? ⟨w5.heap.size, 0, none⟩ = some (.string m) ∧ w'.cell? ⟨w5.heap.size, 1, none⟩ = some (.int .i64 v') ∧ w'.cell? ⟨w5.heap.size, 2, none⟩ = some (.string s') ∧ w'.cell? ⟨w5.heap.size, 3, none⟩ = some (.slice aoY ys.length koY))) (by kernel_rfl) (unhide K _ bA) (fun hHeld => ?_)
  refine tk 0 46 (v := ?_) rfl (hy := .inl ⟨by rfl, ?_⟩) (h := ?_); rotate_left
  · intro w hSw; (try dsimp only at hSw); go_simp; (try with_reducible rfl)
  simp only [Act.put, List.setIfInBounds_toArray, List.set_cons_zero, List.set_cons_succ]
  refine tk 1 47 (v := ?_) rfl (hy := .inl ⟨by rfl, ?_⟩) (h := ?_); rotate_left
  · intro w hSw; (try dsimp only at hSw); go_simp; (try with_reducible rfl)
  simp only [Act.put, List.setIfInBounds_toArray, List.set_cons_zero, List.set_cons_succ]
  refine ready_at (i := 2) rfl (by kernel_rfl) (fun KK hKK => ?_)
  go_simp
  have hgo := bA
  refine (unhide TB _ ((unhide HB).below (Bwz14_2.trans (hgo.mono Bwz14_2.size)) (Nat.le_refl _))).mono ?_
  rintro e wz16_1 ⟨vv1, rfl, o1, bb⟩
  have bz1 : Below wz14_2.heap.size wz14_2 wz16_1 := bA.trans (bb.mono bA.size)
  have R1 := hide (o1.ri (by omega))
  clear o1
  clear bA hgo bb
  clear hHeld
  refine hKK.out _ _ (unhide K _ bz1) (fun hHeld => ?_)
  clear hKK KK
  refine ready_at (i := 3) rfl (by kernel_rfl) (fun KK hKK => ?_)
  go_simp
  have hgo := bz1
  refine (eqBlock_yes m v' s' _ _ ys _ (unhide RY _ hgo) (unhide R1)).mono ?_
  rintro e wz16_2 ⟨rfl, bb⟩
  have bz2 : Below wz14_2.heap.size wz14_2 wz16_2 := bz1.trans (bb.mono bz1.size)
  clear R1 RY
  clear bz1 hgo bb
  clear hHeld
  refine hKK.out _ _ (unhide K _ bz2) (fun hHeld => ?_)
  clear hKK KK
  refine tk 4 50 (v := ?_) rfl (hy := .inl ⟨by rfl, ?_⟩) (h := ?_); rotate_left
  · intro w hSw; (try dsimp only at hSw); go_simp; (try with_reducible rfl)
  simp only [Act.put, List.setIfInBounds_toArray, List.set_cons_zero, List.set_cons_succ]
  clear hHeld
  refine wpAnyH_done (by kernel_rfl) ?_ _
  refine NoPanic.normal ?_
  have bb := bz2
  have Bwz16_2 := Bwz14_2.trans (bb.mono Bwz14_2.size)
  have swz16_2 := bb.size
  replace LC := LC.below bb LC.lt
  replace LA := LA.below bb LA.lt
  replace LB := LB.below bb LB.lt
  replace X := X.below bb X.lt
  replace Y := Y.below bb Y.lt
  replace oX := oX.below bb
  replace oY := oY.below bb
  clear Bwz14_2
  clear bb bz2 K
  go_wp2
  go_ret
  exact ⟨rfl, Bwz16_2⟩

set_option maxHeartbeats 16000000 in
set_option maxRecDepth 100000 in
theorem fnMayVote_long1 (n f vo lo v : Int) (s : ByteArray) (ao : Option Addr) (ca k : Nat) (d : ByteArray) (m : ByteArray) (v' : Int) (s' : ByteArray) (bo : Option Addr) (cb k' : Nat) (w : World) (h : 1048576 < s.size + k + d.size) (hs : s.size ≤ maxLen) (hk : k ≤ maxLen) (hd : d.size ≤ maxLen) :
    Calls Tryz.prog 11 #[cv n f, sv vo lo v s (.slice ao k ca) d, bv m v' s' (.slice bo k' cb)] w fun e w' => e = .returned (.bool true) ∧ Below w.heap.size w w' := by
  unfold maxLen at *
  have ZA := hide fun w => szSafe_no vo lo v s ao k ca d 1048576 w (by omega) (by omega) (by omega) (by omega) (by omega) (by omega)
  have B0 : Below w.heap.size w (((w.alloc (.cells #[.int .i64 n, .int .i64 f] 88)).alloc (.cells #[.int .i64 vo, .int .i64 lo, .int .i64 v, .string s, .slice ao k ca, .string d] 91)).alloc (.cells #[.string m, .int .i64 v', .string s', .slice bo k' cb] 102)) := (((Below.refl w.heap.size w).alloc (Nat.le_refl _) _).alloc (by simp) _).alloc (by simp; omega) _
  go_enter Tryz.func11, Tryz.ntmps11
  go_wp2_with fail
  refine (unhide ZA _).mono ?_
  rintro _ w1 ⟨rfl, b1⟩
  go_wp2
  go_ret
  exact ⟨rfl, B0.trans (b1.mono B0.size)⟩
set_option maxHeartbeats 16000000 in
set_option maxRecDepth 100000 in
theorem fnMayVote_long2 (n f vo lo v : Int) (s : ByteArray) (ao : Option Addr) (ca k : Nat) (d : ByteArray) (m : ByteArray) (v' : Int) (s' : ByteArray) (bo : Option Addr) (cb k' : Nat) (w : World) (h0 : s.size + k + d.size ≤ 1048576) (h : 1048576 < s.size + k + d.size + (m.size + s'.size + k')) (hs' : s'.size ≤ maxLen) (hk' : k' ≤ maxLen) (hm : m.size ≤ maxLen) :
    Calls Tryz.prog 11 #[cv n f, sv vo lo v s (.slice ao k ca) d, bv m v' s' (.slice bo k' cb)] w fun e w' => e = .returned (.bool true) ∧ Below w.heap.size w w' := by
  unfold maxLen at *
  have ZA := hide fun w => szSafe_yes vo lo v s ao k ca d 1048576 w (by omega) (by omega)
  have ZB := hide fun w => szBlock_no m v' s' bo k' cb (1048576 - s.size - k - d.size) w (by omega) (by omega) (by omega) (by omega) (by omega) (by omega)
  have d1 : decide ((1048576 : Int) - (s.size : Int) - (k : Int) - (d.size : Int) < 0) = false := by simp; omega
  obtain ⟨w0, hw0⟩ : ∃ w0, (((w.alloc (.cells #[.int .i64 n, .int .i64 f] 88)).alloc (.cells #[.int .i64 vo, .int .i64 lo, .int .i64 v, .string s, .slice ao k ca, .string d] 91)).alloc (.cells #[.string m, .int .i64 v', .string s', .slice bo k' cb] 102)) = w0 := ⟨_, rfl⟩
  have Bw0 : Below w.heap.size w w0 := hw0 ▸ (((Below.refl _ _).alloc (Nat.le_refl _) _).alloc (by simp) _).alloc (by simp; omega) _
  have LC : Loc w0 (w.heap.size) #[.int .i64 n, .int .i64 f] := hw0 ▸ ((loc_at (w) _ _ rfl).alloc _).alloc _
  have LA : Loc w0 (w.heap.size + 1) #[.int .i64 vo, .int .i64 lo, .int .i64 v, .string s, .slice ao k ca, .string d] := hw0 ▸ (loc_at (w.alloc _) _ _ (by simp)).alloc _
  have LB : Loc w0 (w.heap.size + 1 + 1) #[.string m, .int .i64 v', .string s', .slice bo k' cb] := hw0 ▸ loc_at ((w.alloc _).alloc _) _ _ (by simp)
  have zw0 : w.heap.size + 1 + 1 + 1 ≤ w0.heap.size := by rw [← hw0]; simp
  go_enter Tryz.func11, Tryz.ntmps11
  have cLA0 := LA.cell 0 rfl
  have cLA1 := LA.cell 1 rfl
  have cLA2 := LA.cell 2 rfl
  have cLA3 := LA.cell 3 rfl
  have cLA4 := LA.cell 4 rfl
  have cLA5 := LA.cell 5 rfl
  go_wp2_with fail
  clear hw0
  refine (unhide ZA _).mono ?_
  rintro _ w1 ⟨rfl, bb⟩
  clear cLA0 cLA1 cLA2 cLA3 cLA4 cLA5
  have Bw1 := Bw0.trans (bb.mono Bw0.size)
  have sw1 := bb.size
  replace LC := LC.below bb LC.lt
  replace LA := LA.below bb LA.lt
  replace LB := LB.below bb LB.lt
  clear Bw0
  clear bb
  have cLB0 := LB.cell 0 rfl
  have cLB1 := LB.cell 1 rfl
  have cLB2 := LB.cell 2 rfl
  have cLB3 := LB.cell 3 rfl
  go_wp2_with fail
  refine (unhide ZB _).mono ?_
  rintro _ w2 ⟨rfl, bb⟩
  clear cLB0 cLB1 cLB2 cLB3
  have Bw2 := Bw1.trans (bb.mono Bw1.size)
  have sw2 := bb.size
  replace LC := LC.below bb LC.lt
  replace LA := LA.below bb LA.lt
  replace LB := LB.below bb LB.lt
  clear Bw1
  clear bb
  go_wp2
  go_ret
  exact ⟨rfl, Bw2⟩
theorem fnMayVote_walk (n f : Int) (vo lo v : Int) (s : ByteArray) (ao : Option Addr) (ca : Nat) (xs : List Int) (d : ByteArray) (m : ByteArray) (v' : Int) (s' : ByteArray) (bo : Option Addr) (cb : Nat) (ys : List Int) (w : World) (hs : s.size ≤ maxLen) (hx : xs.length ≤ maxLen) (hd : d.size ≤ maxLen) (ha : AIW w ao xs) (hm : m.size ≤ maxLen) (hs' : s'.size ≤ maxLen) (hy : ys.length ≤ maxLen) (hb : AIW w bo ys) (hE : Env w) :
    Calls Tryz.prog 11 #[cv n f, sv vo lo v s (.slice ao xs.length ca) d, bv m v' s' (.slice bo ys.length cb)] w fun e w' => e = .returned (.bool true) ∧ Below w.heap.size w w' := by
  by_cases h1 : s.size + xs.length + d.size ≤ 1048576
  · by_cases h2 : s.size + xs.length + d.size + m.size + s'.size + ys.length ≤ 1048576
    · exact fnMayVote_short n f vo lo v s ao ca xs d m v' s' bo cb ys w h2 hE (ha.ri (by omega)) (hb.ri (by omega))
    · exact fnMayVote_long2 n f vo lo v s ao ca _ d m v' s' bo cb _ w h1 (by omega) hs' hy hm
  · exact fnMayVote_long1 n f vo lo v s ao ca _ d m v' s' bo cb _ w (by omega) hs hx hd
end Go.Proofs.YtgfboghieejbkaaGreatDoor
