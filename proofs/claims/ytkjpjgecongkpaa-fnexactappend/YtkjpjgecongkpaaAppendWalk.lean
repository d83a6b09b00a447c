/- The walk of laws.FnExactAppend. -/
import Derived.Test.YtkjpjgecongkpaaDiskAll
import Derived.Test.YtkjpjgecongkpaaDiskOpen
import Derived.Deep.DeepCutAuto
namespace Go.Proofs.Ytkjpjgecongkpaa
open Go.RowKit

theorem eqBy_yes (va vb : Value) (xs : List Int) (w : World) (ha : RB w va xs) (hb : RB w vb xs) :
    Calls Try.prog 24 #[va, vb] w fun e w' => e = .returned (.bool true) ∧ Below w.heap.size w w' := by
  refine (eq_yes va vb xs w ha hb).mono ?_
  rintro e w' ⟨rfl, n, rfl⟩
  exact ⟨rfl, below_drewN (Below.refl _ _) n⟩
set_option maxHeartbeats 32000000 in
set_option maxRecDepth 100000 in
theorem fnAppend_short (ao : Option Addr) (ca : Nat) (s : Int) (xs : List Int) (bo : Option Addr) (cb : Nat) (ys : List Int) (w : World) (hz : xs.length ≤ 1048576) (hr : RB w (.slice ao xs.length ca) xs) (hz2 : ys.length ≤ 1048576) (hr2 : RB w (.slice bo ys.length cb) ys) :
    Calls Try.prog 5 #[dv (.slice ao xs.length ca) s, .slice bo ys.length cb] w fun e w' => e = .returned (.bool true) ∧ Below w.heap.size w w' := by
  have HR := hide hr
  have HB := hide hr2
  have ZA := hide fun w => szDisk_yes ao xs.length ca s 1048576 w (by omega) (by omega)
  have TA := hide fun w h => toDisk_any (.slice ao xs.length ca) xs s w h
  have TB := hide fun w h => toByte_any (.slice bo ys.length cb) ys w h
  have d0 : decide ((1048576 : Int) < (ys.length : Int)) = false := by simp; omega
  have d1 : decide ((1048576 : Int) - (xs.length : Int) < 0) = false := by simp; omega
  have SP := hide fun a k a' k' w h h' => specAppend_any a k k' s xs a' ys w h (by omega) h' (by omega)
  have IM := hide fun a k a' k' w h h' => implAppend_any a k k' s xs a' ys w h (by omega) h' (by omega)
  have hx1 := apdX_len s xs ys
  generalize apdX s xs ys = x1 at *
  generalize apdB xs.length ys.length s = b at *
  have nb : (b != b) = false := by simp
  have MX : Hid (∀ base u w, OB w base u xs → Calls Try.prog 25 #[dv u s, .int .i64 1] w fun e w' => e = .returned (.int .i64 (1 + (xs.length : Int))) ∧ OB w' base u (marks 1 xs.length) ∧ Kp w w' (fun k => u.ownBlock = some k)) := hide fun base u w h => markDisk_any s base u xs 1 w (by omega) (by omega) h
  have MG : Hid (∀ base u w, OB w base u x1 → Calls Try.prog 25 #[dv u s, .int .i64 1] w fun e w' => e = .returned (.int .i64 (1 + (x1.length : Int))) ∧ OB w' base u (marks 1 x1.length) ∧ Kp w w' (fun k => u.ownBlock = some k)) := hide fun base u w h => markDisk_any s base u x1 1 w (by omega) (by omega) h
  have HD := hide fun u w h => heldDisk_any u s x1.length w h
  have MY : Hid (∀ base u w, OB w base u ys → Calls Try.prog 26 #[u, .int .i64 (1 + (xs.length : Int))] w fun e w' => e = .returned (.int .i64 (1 + (xs.length : Int) + (ys.length : Int))) ∧ OB w' base u (marks (1 + xs.length) ys.length) ∧ Kp w w' (fun k => u.ownBlock = some k)) := hide fun base u w h => (mark_any base (1 + xs.length) u ys w (by omega) (by omega) h).mono fun e w' ⟨h1, h2, h3⟩ => ⟨h1, h2, kp_grown h3⟩
  have d3 : decide ((1 : Int) + (xs.length : Int) + (ys.length : Int) < 0) = false := by simp; omega
  have d4 : decide ((1 : Int) + (x1.length : Int) < 0) = false := by simp; omega
  clear hr hr2
  obtain ⟨w0, hw0⟩ : ∃ w0, (w.alloc (.cells #[.slice ao xs.length ca, .int .i64 s] 36)) = w0 := ⟨_, rfl⟩
  have Bw0 : Below w.heap.size w w0 := hw0 ▸ (Below.refl _ _).alloc (Nat.le_refl _) _
  have LA : Loc w0 (w.heap.size) #[.slice ao xs.length ca, .int .i64 s] := hw0 ▸ loc_at (w) _ _ rfl
  have zw0 : w.heap.size + 1 ≤ w0.heap.size := by rw [← hw0]; simp
  go_enter Try.func5, Try.ntmps5
  have cLA0 := LA.cell 0 rfl
  have cLA1 := LA.cell 1 rfl
  go_wp2_with fail
  clear hw0
  refine (unhide ZA _).mono ?_
  rintro _ w1 ⟨rfl, bb⟩
  clear cLA0 cLA1
  have Bw1 := Bw0.trans (bb.mono Bw0.size)
  have sw1 := bb.size
  replace LA := LA.below bb LA.lt
  clear Bw0
  clear bb
  clear ZA
  have cLA0 := LA.cell 0 rfl
  have cLA1 := LA.cell 1 rfl
  go_wp2_with fail
  refine (unhide TA _ ((unhide HR).below Bw1 (Nat.le_refl _))).mono ?_
  rintro _ w2 ⟨u1, rfl, o1, bb⟩
  clear cLA0 cLA1
  have Bw2 := Bw1.trans (bb.mono Bw1.size)
  have sw2 := bb.size
  replace LA := LA.below bb LA.lt
  clear Bw1
  clear bb
  have to1 := World.ownsRow.lt o1
  obtain ⟨ao1, ko1, rfl⟩ := o1.form
  go_wp2_with fail
  refine (unhide TB _ ((unhide HB).below Bw2 (Nat.le_refl _))).mono ?_
  rintro _ w3 ⟨u2, rfl, o2, bb⟩
  have Bw3 := Bw2.trans (bb.mono Bw2.size)
  have sw3 := bb.size
  replace LA := LA.below bb LA.lt
  replace o1 := o1.below bb
  clear Bw2
  clear bb
  have to2 := World.ownsRow.lt o2
  obtain ⟨ao2, ko2, rfl⟩ := o2.form
  go_wp2_with fail
  refine (unhide SP _ _ _ _ _ (o1.rb (by omega)) (o2.rb (by omega))).mono ?_
  rintro _ w4 ⟨uV, rfl, oV, bb⟩
  have Bw4 := Bw3.trans (bb.mono Bw3.size)
  have sw4 := bb.size
  replace LA := LA.below bb LA.lt
  replace o1 := o1.below bb
  replace o2 := o2.below bb
  clear Bw3
  clear bb
  have toV := World.ownsRow.lt oV
  obtain ⟨aoV, koV, rfl⟩ := oV.form
  obtain ⟨w5, hw5⟩ : ∃ x, w4.alloc (.cells #[.slice aoV x1.length koV, .int .i64 s] 25) = x := ⟨_, rfl⟩
  have bb : Below w4.heap.size w4 w5 := hw5 ▸ qalloc _ _
  have V : Loc w5 w4.heap.size #[.slice aoV x1.length koV, .int .i64 s] := hw5 ▸ loc_at w4 _ _ rfl
  have zw5 : w5.heap.size = w4.heap.size + 1 := by rw [← hw5]; simp
  have Bw5 := Bw4.trans (bb.mono Bw4.size)
  have sw5 := bb.size
  replace LA := LA.below bb LA.lt
  replace o1 := o1.below bb
  replace o2 := o2.below bb
  replace oV := oV.below bb
  clear Bw4
  clear bb
  clear SP to1 o1 to2 o2
  have cLA0 := LA.cell 0 rfl
  have cLA1 := LA.cell 1 rfl
  go_wp2_with fail
  clear hw5
  refine (unhide TA _ ((unhide HR).below Bw5 (Nat.le_refl _))).mono ?_
  rintro _ w6 ⟨uX, rfl, oX, bb⟩
  clear cLA0 cLA1
  have Bw6 := Bw5.trans (bb.mono Bw5.size)
  have sw6 := bb.size
  replace LA := LA.below bb LA.lt
  replace V := V.below bb V.lt
  replace oV := oV.below bb
  clear Bw5
  clear bb
  have toX := World.ownsRow.lt oX
  obtain ⟨aoX, koX, rfl⟩ := oX.form
  obtain ⟨w7, hw7⟩ : ∃ x, w6.alloc (.cells #[.slice aoX xs.length koX, .int .i64 s] 25) = x := ⟨_, rfl⟩
  have bb : Below w6.heap.size w6 w7 := hw7 ▸ qalloc _ _
  have X : Loc w7 w6.heap.size #[.slice aoX xs.length koX, .int .i64 s] := hw7 ▸ loc_at w6 _ _ rfl
  have zw7 : w7.heap.size = w6.heap.size + 1 := by rw [← hw7]; simp
  have Bw7 := Bw6.trans (bb.mono Bw6.size)
  have sw7 := bb.size
  replace LA := LA.below bb LA.lt
  replace V := V.below bb V.lt
  replace oV := oV.below bb
  replace oX := oX.below bb
  clear Bw6
  clear bb
  go_wp2_with fail
  clear hw7
  refine (unhide TB _ ((unhide HB).below Bw7 (Nat.le_refl _))).mono ?_
  rintro _ w8 ⟨uY, rfl, oY, bb⟩
  have Bw8 := Bw7.trans (bb.mono Bw7.size)
  have sw8 := bb.size
  replace LA := LA.below bb LA.lt
  replace V := V.below bb V.lt
  replace X := X.below bb X.lt
  replace oV := oV.below bb
  replace oX := oX.below bb
  clear Bw7
  clear bb
  have toY := World.ownsRow.lt oY
  obtain ⟨aoY, koY, rfl⟩ := oY.form
  have cX0 := X.cell 0 rfl
  have cX1 := X.cell 1 rfl
  go_wp2_with fail
  refine (unhide IM _ _ _ _ _ (oX.rb (by omega)) (oY.rb (by omega))).mono ?_
  rintro _ w9 ⟨uG, rfl, oG, bb⟩
  clear cX0 cX1
  have Bw9 := Bw8.trans (bb.mono Bw8.size)
  have sw9 := bb.size
  replace LA := LA.below bb LA.lt
  replace V := V.below bb V.lt
  replace X := X.below bb X.lt
  replace oV := oV.below bb
  replace oX := oX.below bb
  replace oY := oY.below bb
  clear Bw8
  clear bb
  have toG := World.ownsRow.lt oG
  obtain ⟨aoG, koG, rfl⟩ := oG.form
  obtain ⟨w10, hw10⟩ : ∃ x, w9.alloc (.cells #[.slice aoG x1.length koG, .int .i64 s] 25) = x := ⟨_, rfl⟩
  have bb : Below w9.heap.size w9 w10 := hw10 ▸ qalloc _ _
  have G : Loc w10 w9.heap.size #[.slice aoG x1.length koG, .int .i64 s] := hw10 ▸ loc_at w9 _ _ rfl
  have zw10 : w10.heap.size = w9.heap.size + 1 := by rw [← hw10]; simp
  have Bw10 := Bw9.trans (bb.mono Bw9.size)
  have sw10 := bb.size
  replace LA := LA.below bb LA.lt
  replace V := V.below bb V.lt
  replace X := X.below bb X.lt
  replace oV := oV.below bb
  replace oX := oX.below bb
  replace oY := oY.below bb
  replace oG := oG.below bb
  clear Bw9
  clear bb
  have cG0 := G.cell 0 rfl
  have cG1 := G.cell 1 rfl
  have cV0 := V.cell 0 rfl
  have cV1 := V.cell 1 rfl
  go_wp2_with fail
  clear hw10
  refine (eqDisk_yes _ _ x1 s _ (oG.rb (by omega)) (oV.rb (by omega))).mono ?_
  rintro _ w11 ⟨rfl, bb⟩
  clear cG0 cG1 cV0 cV1
  have Bw11 := Bw10.trans (bb.mono Bw10.size)
  have sw11 := bb.size
  replace LA := LA.below bb LA.lt
  replace V := V.below bb V.lt
  replace X := X.below bb X.lt
  replace G := G.below bb G.lt
  replace oV := oV.below bb
  replace oX := oX.below bb
  replace oY := oY.below bb
  replace oG := oG.below bb
  clear Bw10
  clear bb
  have RX := hide fun w' (hb' : Below w11.heap.size w11 w') => (oX.below hb').rb (by omega)
  have K : Hid (∀ w', Below w11.heap.size w11 w' → (fun w' => Below w11.heap.size w11 w' ∧ (w'.cell? ⟨w.heap.size, 0, none⟩ = some (.slice ao xs.length ca) ∧ w'.cell? ⟨w.heap.size, 1, none⟩ = some (.int .i64 s)) ∧ (w'.cell? ⟨w6.heap.size, 0, none⟩ = some (.slice aoX xs.length koX) ∧ w'.cell? ⟨w6.heap.size, 1, none⟩ = some (.int .i64 s))) w') := hide fun w' hb' => ⟨hb', ⟨(LA.below hb' LA.lt).cell 0 rfl, (LA.below hb' LA.lt).cell 1 rfl⟩, ⟨(X.below hb' X.lt).cell 0 rfl, (X.below hb' X.lt).cell 1 rfl⟩⟩
  go_upto_region 13 with fail
  have bA : Below w11.heap.size w11 w11.drew := Below.drew (Below.refl _ _)
  refine wp_region_noPanic ?_
  refine wp_region_held_drew (S := fun w' => Below w11.heap.size w11 w' ∧ (w'.cell? ⟨w.heap.size, 0, none⟩ = some (.slice ao xs.length ca) ∧ w'.cell? ⟨w.heap.size, 1, none⟩ = some (.int .i64 s)) ∧ (w'.cell? ⟨w6.heap.size, 0, none⟩ = some (.slice aoX xs.length koX) ∧ w'.cell? ⟨w6.heap.size, 1, none⟩ = some (.int .i64 s))) (by kernel_rfl) (unhide K _ bA) (fun hHeld => ?_)
  refine take_at (i := 0) (d := 52) (v := ?_) rfl rfl (by kernel_rfl) (by kernel_rfl) (by kernel_rfl) (fun _ _ _ h => h) (Or.inl ⟨by rfl, ?_⟩) (by assumption) ?_
  rotate_left
  · intro w hSw
    try dsimp only at hSw
    go_simp
    try with_reducible rfl
  simp only [Act.put, List.setIfInBounds_toArray, List.set_cons_zero, List.set_cons_succ]
  refine take_at (i := 1) (d := 53) (v := ?_) rfl rfl (by kernel_rfl) (by kernel_rfl) (by kernel_rfl) (fun _ _ _ h => h) (Or.inl ⟨by rfl, ?_⟩) (by assumption) ?_
  rotate_left
  · intro w hSw
    try dsimp only at hSw
    go_simp
    try with_reducible rfl
  simp only [Act.put, List.setIfInBounds_toArray, List.set_cons_zero, List.set_cons_succ]
  refine ready_at (i := 2) rfl (by kernel_rfl) (fun KK hKK => ?_)
  go_simp
  have hgo := bA
  refine (unhide TA _ ((unhide HR).below (Bw11.trans (hgo.mono Bw11.size)) (Nat.le_refl _))).mono ?_
  rintro e wz13_1 ⟨vv1, rfl, o1, bb⟩
  have bz1 : Below w11.heap.size w11 wz13_1 := bA.trans (bb.mono bA.size)
  replace o1 := o1.mono hgo.size
  obtain ⟨ao1, ko1, rfl⟩ := o1.form
  clear bA hgo bb
  clear hHeld
  refine hKK.out _ _ (unhide K _ bz1) (fun hHeld => ?_)
  clear hKK KK
  refine ready_at (i := 3) rfl (by kernel_rfl) (fun KK hKK => ?_)
  go_simp
  have hgo := bz1
  refine (eqDisk_yes _ _ xs s _ (unhide RX _ hgo) (o1.rb (by omega))).mono ?_
  rintro e wz13_2 ⟨rfl, bb⟩
  have bz2 : Below w11.heap.size w11 wz13_2 := bz1.trans (bb.mono bz1.size)
  replace o1 := o1.below bb
  clear RX
  clear bz1 hgo bb
  clear hHeld
  refine hKK.out _ _ (unhide K _ bz2) (fun hHeld => ?_)
  clear hKK KK
  refine take_at (i := 4) (d := 56) (v := ?_) rfl rfl (by kernel_rfl) (by kernel_rfl) (by kernel_rfl) (fun _ _ _ h => h) (Or.inl ⟨by rfl, ?_⟩) (by assumption) ?_
  rotate_left
  · intro w hSw
    try dsimp only at hSw
    go_simp
    try with_reducible rfl
  simp only [Act.put, List.setIfInBounds_toArray, List.set_cons_zero, List.set_cons_succ]
  clear hHeld
  refine wpAnyH_done (by kernel_rfl) ?_ _
  refine NoPanic.normal ?_
  have bb := bz2
  have Bwz13_2 := Bw11.trans (bb.mono Bw11.size)
  have swz13_2 := bb.size
  replace LA := LA.below bb LA.lt
  replace V := V.below bb V.lt
  replace X := X.below bb X.lt
  replace G := G.below bb G.lt
  replace oV := oV.below bb
  replace oX := oX.below bb
  replace oY := oY.below bb
  replace oG := oG.below bb
  clear Bw11
  clear bb bz2 K
  clear o1
  go_wp2_with fail
  refine (unhide TB _ ((unhide HB).below Bwz13_2 (Nat.le_refl _))).mono ?_
  rintro _ w12 ⟨u4, rfl, o4, bb⟩
  have Bw12 := Bwz13_2.trans (bb.mono Bwz13_2.size)
  have sw12 := bb.size
  replace LA := LA.below bb LA.lt
  replace V := V.below bb V.lt
  replace X := X.below bb X.lt
  replace G := G.below bb G.lt
  replace oV := oV.below bb
  replace oX := oX.below bb
  replace oY := oY.below bb
  replace oG := oG.below bb
  clear Bwz13_2
  clear bb
  have to4 := World.ownsRow.lt o4
  obtain ⟨ao4, ko4, rfl⟩ := o4.form
  go_wp2_with fail
  refine (eqBy_yes _ _ ys _ (oY.rb (by omega)) (o4.rb (by omega))).mono ?_
  rintro _ w13 ⟨rfl, bb⟩
  have Bw13 := Bw12.trans (bb.mono Bw12.size)
  have sw13 := bb.size
  replace LA := LA.below bb LA.lt
  replace V := V.below bb V.lt
  replace X := X.below bb X.lt
  replace G := G.below bb G.lt
  replace oV := oV.below bb
  replace oX := oX.below bb
  replace oY := oY.below bb
  replace oG := oG.below bb
  replace o4 := o4.below bb
  clear Bw12
  clear bb
  clear o4 to4
  have cX0 := X.cell 0 rfl
  have cX1 := X.cell 1 rfl
  go_wp2_with fail
  refine (unhide MX _ _ _ oX).mono ?_
  rintro _ w14 ⟨rfl, oN, kN⟩
  clear cX0 cX1
  have Bw14 := Below.kp Bw13 kN Bw13.size (fun k hk => by have := toX _ hk; omega)
  have sw14 := kN.size
  replace LA := LA.kp kN (fun h => by have := toX _ h; omega)
  replace V := V.kp kN (fun h => by have := toX _ h; omega)
  replace X := X.kp kN (fun h => by have := toX _ h; omega)
  replace G := G.kp kN (fun h => by have := toX _ h; omega)
  replace oV := oV.kp kN (fun j hj h => by have := toV j hj; have := toX _ h; omega)
  replace oY := oY.kp kN (fun j hj h => by have := toY j hj; have := toX _ h; omega)
  replace oG := oG.kp kN (fun j hj h => by have := toG j hj; have := toX _ h; omega)
  clear Bw13
  clear oX kN
  clear MX oN
  clear X
  go_wp2_with fail
  refine (unhide MY _ _ _ oY).mono ?_
  rintro _ w15 ⟨rfl, oN, kN⟩
  have Bw15 := Below.kp Bw14 kN Bw14.size (fun k hk => by have := toY _ hk; omega)
  have sw15 := kN.size
  replace LA := LA.kp kN (fun h => by have := toY _ h; omega)
  replace V := V.kp kN (fun h => by have := toY _ h; omega)
  replace G := G.kp kN (fun h => by have := toY _ h; omega)
  replace oV := oV.kp kN (fun j hj h => by have := toV j hj; have := toY _ h; omega)
  replace oG := oG.kp kN (fun j hj h => by have := toG j hj; have := toY _ h; omega)
  clear Bw14
  clear oY kN
  clear MY oN
  have cG0 := G.cell 0 rfl
  have cG1 := G.cell 1 rfl
  have cV0 := V.cell 0 rfl
  have cV1 := V.cell 1 rfl
  go_wp2_with fail
  refine (eqDisk_yes _ _ x1 s _ (oG.rb (by omega)) (oV.rb (by omega))).mono ?_
  rintro _ w16 ⟨rfl, bb⟩
  clear cG0 cG1 cV0 cV1
  have Bw16 := Bw15.trans (bb.mono Bw15.size)
  have sw16 := bb.size
  replace LA := LA.below bb LA.lt
  replace V := V.below bb V.lt
  replace G := G.below bb G.lt
  replace oV := oV.below bb
  replace oG := oG.below bb
  clear Bw15
  clear bb
  have cG0 := G.cell 0 rfl
  have cG1 := G.cell 1 rfl
  go_wp2_with fail
  refine (unhide MG _ _ _ oG).mono ?_
  rintro _ w17 ⟨rfl, oN, kN⟩
  clear cG0 cG1
  have Bw17 := Below.kp Bw16 kN Bw16.size (fun k hk => by have := toG _ hk; omega)
  have sw17 := kN.size
  replace LA := LA.kp kN (fun h => by have := toG _ h; omega)
  replace V := V.kp kN (fun h => by have := toG _ h; omega)
  replace G := G.kp kN (fun h => by have := toG _ h; omega)
  replace oV := oV.kp kN (fun j hj h => by have := toV j hj; have := toG _ h; omega)
  clear Bw16
  clear oG kN
  have oG := oN
  clear oN MG
  have cG0 := G.cell 0 rfl
  have cG1 := G.cell 1 rfl
  go_wp2_with fail
  refine (unhide HD _ _ (oG.rb (by rw [marks_len]; omega))).mono ?_
  rintro _ w18 ⟨rfl, bb⟩
  clear cG0 cG1
  have Bw18 := Bw17.trans (bb.mono Bw17.size)
  have sw18 := bb.size
  replace LA := LA.below bb LA.lt
  replace V := V.below bb V.lt
  replace G := G.below bb G.lt
  replace oV := oV.below bb
  replace oG := oG.below bb
  clear Bw17
  clear bb
  have cLA0 := LA.cell 0 rfl
  have cLA1 := LA.cell 1 rfl
  go_wp2_with fail
  refine (unhide TA _ ((unhide HR).below Bw18 (Nat.le_refl _))).mono ?_
  rintro _ w19 ⟨u3, rfl, o3, bb⟩
  clear cLA0 cLA1
  have Bw19 := Bw18.trans (bb.mono Bw18.size)
  have sw19 := bb.size
  replace LA := LA.below bb LA.lt
  replace V := V.below bb V.lt
  replace G := G.below bb G.lt
  replace oV := oV.below bb
  replace oG := oG.below bb
  clear Bw18
  clear bb
  have to3 := World.ownsRow.lt o3
  obtain ⟨ao3, ko3, rfl⟩ := o3.form
  go_wp2_with fail
  refine (unhide TB _ ((unhide HB).below Bw19 (Nat.le_refl _))).mono ?_
  rintro _ w20 ⟨u5, rfl, o5, bb⟩
  have Bw20 := Bw19.trans (bb.mono Bw19.size)
  have sw20 := bb.size
  replace LA := LA.below bb LA.lt
  replace V := V.below bb V.lt
  replace G := G.below bb G.lt
  replace oV := oV.below bb
  replace oG := oG.below bb
  replace o3 := o3.below bb
  clear Bw19
  clear bb
  have to5 := World.ownsRow.lt o5
  obtain ⟨ao5, ko5, rfl⟩ := o5.form
  go_wp2_with fail
  refine (unhide IM _ _ _ _ _ (o3.rb (by omega)) (o5.rb (by omega))).mono ?_
  rintro _ w21 ⟨uH, rfl, oH, bb⟩
  have Bw21 := Bw20.trans (bb.mono Bw20.size)
  have sw21 := bb.size
  replace LA := LA.below bb LA.lt
  replace V := V.below bb V.lt
  replace G := G.below bb G.lt
  replace oV := oV.below bb
  replace oG := oG.below bb
  replace o3 := o3.below bb
  replace o5 := o5.below bb
  clear Bw20
  clear bb
  have toH := World.ownsRow.lt oH
  obtain ⟨aoH, koH, rfl⟩ := oH.form
  obtain ⟨w22, hw22⟩ : ∃ x, w21.alloc (.cells #[.slice aoH x1.length koH, .int .i64 s] 25) = x := ⟨_, rfl⟩
  have bb : Below w21.heap.size w21 w22 := hw22 ▸ qalloc _ _
  have H : Loc w22 w21.heap.size #[.slice aoH x1.length koH, .int .i64 s] := hw22 ▸ loc_at w21 _ _ rfl
  have zw22 : w22.heap.size = w21.heap.size + 1 := by rw [← hw22]; simp
  have Bw22 := Bw21.trans (bb.mono Bw21.size)
  have sw22 := bb.size
  replace LA := LA.below bb LA.lt
  replace V := V.below bb V.lt
  replace G := G.below bb G.lt
  replace oV := oV.below bb
  replace oG := oG.below bb
  replace o3 := o3.below bb
  replace o5 := o5.below bb
  replace oH := oH.below bb
  clear Bw21
  clear bb
  clear IM to3 o3 to5 o5
  have cH0 := H.cell 0 rfl
  have cH1 := H.cell 1 rfl
  have cV0 := V.cell 0 rfl
  have cV1 := V.cell 1 rfl
  go_wp2_with fail
  clear hw22
  refine (eqDisk_yes _ _ x1 s _ (oH.rb (by omega)) (oV.rb (by omega))).mono ?_
  rintro _ w23 ⟨rfl, bb⟩
  clear cH0 cH1 cV0 cV1
  have Bw23 := Bw22.trans (bb.mono Bw22.size)
  have sw23 := bb.size
  replace LA := LA.below bb LA.lt
  replace V := V.below bb V.lt
  replace G := G.below bb G.lt
  replace H := H.below bb H.lt
  replace oV := oV.below bb
  replace oG := oG.below bb
  replace oH := oH.below bb
  clear Bw22
  clear bb
  have cG0 := G.cell 0 rfl
  have cG1 := G.cell 1 rfl
  go_wp2_with fail
  refine (unhide HD _ _ (oG.rb (by rw [marks_len]; omega))).mono ?_
  rintro _ w24 ⟨rfl, bb⟩
  clear cG0 cG1
  have Bw24 := Bw23.trans (bb.mono Bw23.size)
  have sw24 := bb.size
  replace LA := LA.below bb LA.lt
  replace V := V.below bb V.lt
  replace G := G.below bb G.lt
  replace H := H.below bb H.lt
  replace oV := oV.below bb
  replace oG := oG.below bb
  replace oH := oH.below bb
  clear Bw23
  clear bb
  go_wp2
  go_ret
  exact ⟨rfl, Bw24⟩

set_option maxHeartbeats 16000000 in
set_option maxRecDepth 100000 in
theorem fnAppend_long (ao : Option Addr) (ca k : Nat) (s : Int) (bo : Option Addr) (m cb : Nat) (w : World) (h0 : m ≤ 1048576) (h : 1048576 < k) (hk : k ≤ maxLen) :
    Calls Try.prog 5 #[dv (.slice ao k ca) s, .slice bo m cb] w fun e w' => e = .returned (.bool true) ∧ Below w.heap.size w w' := by
  unfold maxLen at *
  have d0 : decide ((1048576 : Int) < (m : Int)) = false := by simp; omega
  have ZA := hide fun w => szDisk_no ao k ca s 1048576 w (by omega) (by omega) (by omega) (by omega)
  obtain ⟨w0, hw0⟩ : ∃ w0, (w.alloc (.cells #[.slice ao k ca, .int .i64 s] 36)) = w0 := ⟨_, rfl⟩
  have Bw0 : Below w.heap.size w w0 := hw0 ▸ (Below.refl _ _).alloc (Nat.le_refl _) _
  have LA : Loc w0 (w.heap.size) #[.slice ao k ca, .int .i64 s] := hw0 ▸ loc_at (w) _ _ rfl
  have zw0 : w.heap.size + 1 ≤ w0.heap.size := by rw [← hw0]; simp
  go_enter Try.func5, Try.ntmps5
  have cLA0 := LA.cell 0 rfl
  have cLA1 := LA.cell 1 rfl
  go_wp2_with fail
  clear hw0
  refine (unhide ZA _).mono ?_
  rintro _ w1 ⟨rfl, bb⟩
  clear cLA0 cLA1
  have Bw1 := Bw0.trans (bb.mono Bw0.size)
  have sw1 := bb.size
  replace LA := LA.below bb LA.lt
  clear Bw0
  clear bb
  go_wp2
  go_ret
  exact ⟨rfl, Bw1⟩
set_option maxHeartbeats 16000000 in
set_option maxRecDepth 100000 in
theorem fnAppend_longB (ao : Option Addr) (ca k : Nat) (s : Int) (bo : Option Addr) (m cb : Nat) (w : World) (h0 : 1048576 < m) (hm : m ≤ maxLen) :
    Calls Try.prog 5 #[dv (.slice ao k ca) s, .slice bo m cb] w fun e w' => e = .returned (.bool true) ∧ Below w.heap.size w w' := by
  unfold maxLen at *
  have d0 : decide ((1048576 : Int) < (m : Int)) = true := by simp; omega
  obtain ⟨w0, hw0⟩ : ∃ w0, (w.alloc (.cells #[.slice ao k ca, .int .i64 s] 36)) = w0 := ⟨_, rfl⟩
  have Bw0 : Below w.heap.size w w0 := hw0 ▸ (Below.refl _ _).alloc (Nat.le_refl _) _
  have LA : Loc w0 (w.heap.size) #[.slice ao k ca, .int .i64 s] := hw0 ▸ loc_at (w) _ _ rfl
  have zw0 : w.heap.size + 1 ≤ w0.heap.size := by rw [← hw0]; simp
  go_enter Try.func5, Try.ntmps5
  go_wp2
  go_ret
  exact ⟨rfl, Bw0⟩
theorem fnAppend_walk (ao : Option Addr) (ca : Nat) (s : Int) (xs : List Int) (bo : Option Addr) (cb : Nat) (ys : List Int) (w : World) (hm : xs.length ≤ maxLen) (ha : ABW w ao ca xs) (hm2 : ys.length ≤ maxLen) (hb : ABW w bo cb ys) :
    Calls Try.prog 5 #[dv (.slice ao xs.length ca) s, .slice bo ys.length cb] w fun e w' => e = .returned (.bool true) ∧ Below w.heap.size w w' := by
  by_cases h2 : ys.length ≤ 1048576
  · by_cases h1 : xs.length ≤ 1048576
    · exact fnAppend_short ao ca s xs bo cb ys w h1 (ha.rb h1) h2 (hb.rb h2)
    · exact fnAppend_long ao ca _ s bo _ cb w h2 (by omega) hm
  · exact fnAppend_longB ao ca _ s bo _ cb w (by omega) hm2
end Go.Proofs.Ytkjpjgecongkpaa
