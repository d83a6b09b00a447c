/- The walk of laws.FnExactFallTo. -/
import Derived.Test.YtkjpjgecongkpaaDiskAll
import Derived.Test.YtkjpjgecongkpaaDiskOpen
import Derived.Deep.DeepCutAuto
namespace Go.Proofs.Ytkjpjgecongkpaa
open Go.RowKit

set_option maxHeartbeats 32000000 in
set_option maxRecDepth 100000 in
theorem fnFallTo_short (ao : Option Addr) (ca : Nat) (s : Int) (xs : List Int) (keep : Int) (w : World) (hz : xs.length ≤ 1048576) (hr : RB w (.slice ao xs.length ca) xs) :
    Calls Try.prog 7 #[dv (.slice ao xs.length ca) s, .int .i64 keep] w fun e w' => e = .returned (.bool true) ∧ Below w.heap.size w w' := by
  have HR := hide hr
  have ZA := hide fun w => szDisk_yes ao xs.length ca s 1048576 w (by omega) (by omega)
  have TA := hide fun w h => toDisk_any (.slice ao xs.length ca) xs s w h
  have d1 : decide ((1048576 : Int) - (xs.length : Int) < 0) = false := by simp; omega
  have SP := hide fun a k w h => specFall_any a xs.length k s xs keep w h (by omega)
  have IM := hide fun a k w h => implFall_any a xs.length k s xs keep w h (by omega)
  have hx1 := fallX_len xs.length s keep xs
  generalize fallX xs.length s keep xs = x1 at *
  generalize fallS xs.length s keep = s1 at *
  have MX : Hid (∀ base u w, OB w base u xs → Calls Try.prog 25 #[dv u s, .int .i64 1] w fun e w' => e = .returned (.int .i64 (1 + (xs.length : Int))) ∧ OB w' base u (marks 1 xs.length) ∧ Kp w w' (fun k => u.ownBlock = some k)) := hide fun base u w h => markDisk_any s base u xs 1 w (by omega) (by omega) h
  have MG : Hid (∀ base u w, OB w base u x1 → Calls Try.prog 25 #[dv u s1, .int .i64 1] w fun e w' => e = .returned (.int .i64 (1 + (x1.length : Int))) ∧ OB w' base u (marks 1 x1.length) ∧ Kp w w' (fun k => u.ownBlock = some k)) := hide fun base u w h => markDisk_any s1 base u x1 1 w (by omega) (by omega) h
  have HD := hide fun u w h => heldDisk_any u s1 x1.length w h
  have d3 : decide ((1 : Int) + (xs.length : Int) < 0) = false := by simp; omega
  have d4 : decide ((1 : Int) + (x1.length : Int) < 0) = false := by simp; omega
  clear hr
  obtain ⟨w0, hw0⟩ : ∃ w0, (w.alloc (.cells #[.slice ao xs.length ca, .int .i64 s] 36)) = w0 := ⟨_, rfl⟩
  have Bw0 : Below w.heap.size w w0 := hw0 ▸ (Below.refl _ _).alloc (Nat.le_refl _) _
  have LA : Loc w0 (w.heap.size) #[.slice ao xs.length ca, .int .i64 s] := hw0 ▸ loc_at (w) _ _ rfl
  have zw0 : w.heap.size + 1 ≤ w0.heap.size := by rw [← hw0]; simp
  go_enter Try.func7, Try.ntmps7
  have cLA0 := LA.cell 0 rfl
  have cLA1 := LA.cell 1 rfl
  go_wp2_with fail
  clear hw0
  refine (unhide ZA _).mono ?_
  rintro _ w1 ⟨rfl, bb⟩
  clear cLA0 cLA1
  have Bw1 := Bw0.trans (bb.mono Bw0.size)
  have sw1 := bb.size
  replace LA := LA.below bb LA.lt
  clear Bw0
  clear bb
  clear ZA
  have cLA0 := LA.cell 0 rfl
  have cLA1 := LA.cell 1 rfl
  go_wp2_with fail
  refine (unhide TA _ ((unhide HR).below Bw1 (Nat.le_refl _))).mono ?_
  rintro _ w2 ⟨u1, rfl, o1, bb⟩
  clear cLA0 cLA1
  have Bw2 := Bw1.trans (bb.mono Bw1.size)
  have sw2 := bb.size
  replace LA := LA.below bb LA.lt
  clear Bw1
  clear bb
  have to1 := World.ownsRow.lt o1
  obtain ⟨ao1, ko1, rfl⟩ := o1.form
  go_wp2_with fail
  refine (unhide SP _ _ _ (o1.rb (by omega))).mono ?_
  rintro _ w3 ⟨uV, rfl, oV, bb⟩
  have Bw3 := Bw2.trans (bb.mono Bw2.size)
  have sw3 := bb.size
  replace LA := LA.below bb LA.lt
  replace o1 := o1.below bb
  clear Bw2
  clear bb
  have toV := World.ownsRow.lt oV
  obtain ⟨aoV, koV, rfl⟩ := oV.form
  obtain ⟨w4, hw4⟩ : ∃ x, w3.alloc (.cells #[.slice aoV x1.length koV, .int .i64 s1] 25) = x := ⟨_, rfl⟩
  have bb : Below w3.heap.size w3 w4 := hw4 ▸ qalloc _ _
  have V : Loc w4 w3.heap.size #[.slice aoV x1.length koV, .int .i64 s1] := hw4 ▸ loc_at w3 _ _ rfl
  have zw4 : w4.heap.size = w3.heap.size + 1 := by rw [← hw4]; simp
  have Bw4 := Bw3.trans (bb.mono Bw3.size)
  have sw4 := bb.size
  replace LA := LA.below bb LA.lt
  replace o1 := o1.below bb
  replace oV := oV.below bb
  clear Bw3
  clear bb
  clear SP to1 o1
  have cLA0 := LA.cell 0 rfl
  have cLA1 := LA.cell 1 rfl
  go_wp2_with fail
  clear hw4
  refine (unhide TA _ ((unhide HR).below Bw4 (Nat.le_refl _))).mono ?_
  rintro _ w5 ⟨uX, rfl, oX, bb⟩
  clear cLA0 cLA1
  have Bw5 := Bw4.trans (bb.mono Bw4.size)
  have sw5 := bb.size
  replace LA := LA.below bb LA.lt
  replace V := V.below bb V.lt
  replace oV := oV.below bb
  clear Bw4
  clear bb
  have toX := World.ownsRow.lt oX
  obtain ⟨aoX, koX, rfl⟩ := oX.form
  obtain ⟨w6, hw6⟩ : ∃ x, w5.alloc (.cells #[.slice aoX xs.length koX, .int .i64 s] 25) = x := ⟨_, rfl⟩
  have bb : Below w5.heap.size w5 w6 := hw6 ▸ qalloc _ _
  have X : Loc w6 w5.heap.size #[.slice aoX xs.length koX, .int .i64 s] := hw6 ▸ loc_at w5 _ _ rfl
  have zw6 : w6.heap.size = w5.heap.size + 1 := by rw [← hw6]; simp
  have Bw6 := Bw5.trans (bb.mono Bw5.size)
  have sw6 := bb.size
  replace LA := LA.below bb LA.lt
  replace V := V.below bb V.lt
  replace oV := oV.below bb
  replace oX := oX.below bb
  clear Bw5
  clear bb
  have cX0 := X.cell 0 rfl
  have cX1 := X.cell 1 rfl
  go_wp2_with fail
  clear hw6
  refine (unhide IM _ _ _ (oX.rb (by omega))).mono ?_
  rintro _ w7 ⟨uG, rfl, oG, bb⟩
  clear cX0 cX1
  have Bw7 := Bw6.trans (bb.mono Bw6.size)
  have sw7 := bb.size
  replace LA := LA.below bb LA.lt
  replace V := V.below bb V.lt
  replace X := X.below bb X.lt
  replace oV := oV.below bb
  replace oX := oX.below bb
  clear Bw6
  clear bb
  have toG := World.ownsRow.lt oG
  obtain ⟨aoG, koG, rfl⟩ := oG.form
  obtain ⟨w8, hw8⟩ : ∃ x, w7.alloc (.cells #[.slice aoG x1.length koG, .int .i64 s1] 25) = x := ⟨_, rfl⟩
  have bb : Below w7.heap.size w7 w8 := hw8 ▸ qalloc _ _
  have G : Loc w8 w7.heap.size #[.slice aoG x1.length koG, .int .i64 s1] := hw8 ▸ loc_at w7 _ _ rfl
  have zw8 : w8.heap.size = w7.heap.size + 1 := by rw [← hw8]; simp
  have Bw8 := Bw7.trans (bb.mono Bw7.size)
  have sw8 := bb.size
  replace LA := LA.below bb LA.lt
  replace V := V.below bb V.lt
  replace X := X.below bb X.lt
  replace oV := oV.below bb
  replace oX := oX.below bb
  replace oG := oG.below bb
  clear Bw7
  clear bb
  have cG0 := G.cell 0 rfl
  have cG1 := G.cell 1 rfl
  have cV0 := V.cell 0 rfl
  have cV1 := V.cell 1 rfl
  go_wp2_with fail
  clear hw8
  refine (eqDisk_yes _ _ x1 s1 _ (oG.rb (by omega)) (oV.rb (by omega))).mono ?_
  rintro _ w9 ⟨rfl, bb⟩
  clear cG0 cG1 cV0 cV1
  have Bw9 := Bw8.trans (bb.mono Bw8.size)
  have sw9 := bb.size
  replace LA := LA.below bb LA.lt
  replace V := V.below bb V.lt
  replace X := X.below bb X.lt
  replace G := G.below bb G.lt
  replace oV := oV.below bb
  replace oX := oX.below bb
  replace oG := oG.below bb
  clear Bw8
  clear bb
  have RX := hide fun w' (hb' : Below w9.heap.size w9 w') => (oX.below hb').rb (by omega)
  have K : Hid (∀ w', Below w9.heap.size w9 w' → (fun w' => Below w9.heap.size w9 w' ∧ (w'.cell? ⟨w.heap.size, 0, none⟩ = some (.slice ao xs.length ca) ∧ w'.cell? ⟨w.heap.size, 1, none⟩ = some (.int .i64 s)) ∧ (w'.cell? ⟨w5.heap.size, 0, none⟩ = some (.slice aoX xs.length koX) ∧ w'.cell? ⟨w5.heap.size, 1, none⟩ = some (.int .i64 s))) w') := hide fun w' hb' => ⟨hb', ⟨(LA.below hb' LA.lt).cell 0 rfl, (LA.below hb' LA.lt).cell 1 rfl⟩, ⟨(X.below hb' X.lt).cell 0 rfl, (X.below hb' X.lt).cell 1 rfl⟩⟩
  go_upto_region 10 with fail
  have bA : Below w9.heap.size w9 w9.drew := Below.drew (Below.refl _ _)
  refine wp_region_noPanic ?_
  refine wp_region_held_drew (S := fun w' => Below w9.heap.size w9 w' ∧ (w'.cell? ⟨w.heap.size, 0, none⟩ = some (.slice ao xs.length ca) ∧ w'.cell? ⟨w.heap.size, 1, none⟩ = some (.int .i64 s)) ∧ (w'.cell? ⟨w5.heap.size, 0, none⟩ = some (.slice aoX xs.length koX) ∧ w'.cell? ⟨w5.heap.size, 1, none⟩ = some (.int .i64 s))) (by kernel_rfl) (unhide K _ bA) (fun hHeld => ?_)
  refine take_at (i := 0) (d := 31) (v := ?_) rfl rfl (by kernel_rfl) (by kernel_rfl) (by kernel_rfl) (fun _ _ _ h => h) (Or.inl ⟨by rfl, ?_⟩) (by assumption) ?_
  rotate_left
  · intro w hSw
    try dsimp only at hSw
    go_simp
    try with_reducible rfl
  simp only [Act.put, List.setIfInBounds_toArray, List.set_cons_zero, List.set_cons_succ]
  refine take_at (i := 1) (d := 32) (v := ?_) rfl rfl (by kernel_rfl) (by kernel_rfl) (by kernel_rfl) (fun _ _ _ h => h) (Or.inl ⟨by rfl, ?_⟩) (by assumption) ?_
  rotate_left
  · intro w hSw
    try dsimp only at hSw
    go_simp
    try with_reducible rfl
  simp only [Act.put, List.setIfInBounds_toArray, List.set_cons_zero, List.set_cons_succ]
  refine ready_at (i := 2) rfl (by kernel_rfl) (fun KK hKK => ?_)
  go_simp
  have hgo := bA
  refine (unhide TA _ ((unhide HR).below (Bw9.trans (hgo.mono Bw9.size)) (Nat.le_refl _))).mono ?_
  rintro e wz10_1 ⟨vv1, rfl, o1, bb⟩
  have bz1 : Below w9.heap.size w9 wz10_1 := bA.trans (bb.mono bA.size)
  replace o1 := o1.mono hgo.size
  obtain ⟨ao1, ko1, rfl⟩ := o1.form
  clear bA hgo bb
  clear hHeld
  refine hKK.out _ _ (unhide K _ bz1) (fun hHeld => ?_)
  clear hKK KK
  refine ready_at (i := 3) rfl (by kernel_rfl) (fun KK hKK => ?_)
  go_simp
  have hgo := bz1
  refine (eqDisk_yes _ _ xs s _ (unhide RX _ hgo) (o1.rb (by omega))).mono ?_
  rintro e wz10_2 ⟨rfl, bb⟩
  have bz2 : Below w9.heap.size w9 wz10_2 := bz1.trans (bb.mono bz1.size)
  replace o1 := o1.below bb
  clear RX
  clear bz1 hgo bb
  clear hHeld
  refine hKK.out _ _ (unhide K _ bz2) (fun hHeld => ?_)
  clear hKK KK
  refine take_at (i := 4) (d := 35) (v := ?_) rfl rfl (by kernel_rfl) (by kernel_rfl) (by kernel_rfl) (fun _ _ _ h => h) (Or.inl ⟨by rfl, ?_⟩) (by assumption) ?_
  rotate_left
  · intro w hSw
    try dsimp only at hSw
    go_simp
    try with_reducible rfl
  simp only [Act.put, List.setIfInBounds_toArray, List.set_cons_zero, List.set_cons_succ]
  clear hHeld
  refine wpAnyH_done (by kernel_rfl) ?_ _
  refine NoPanic.normal ?_
  have bb := bz2
  have Bwz10_2 := Bw9.trans (bb.mono Bw9.size)
  have swz10_2 := bb.size
  replace LA := LA.below bb LA.lt
  replace V := V.below bb V.lt
  replace X := X.below bb X.lt
  replace G := G.below bb G.lt
  replace oV := oV.below bb
  replace oX := oX.below bb
  replace oG := oG.below bb
  clear Bw9
  clear bb bz2 K
  clear o1
  have cX0 := X.cell 0 rfl
  have cX1 := X.cell 1 rfl
  go_wp2_with fail
  refine (unhide MX _ _ _ oX).mono ?_
  rintro _ w10 ⟨rfl, oN, kN⟩
  clear cX0 cX1
  have Bw10 := Below.kp Bwz10_2 kN Bwz10_2.size (fun k hk => by have := toX _ hk; omega)
  have sw10 := kN.size
  replace LA := LA.kp kN (fun h => by have := toX _ h; omega)
  replace V := V.kp kN (fun h => by have := toX _ h; omega)
  replace X := X.kp kN (fun h => by have := toX _ h; omega)
  replace G := G.kp kN (fun h => by have := toX _ h; omega)
  replace oV := oV.kp kN (fun j hj h => by have := toV j hj; have := toX _ h; omega)
  replace oG := oG.kp kN (fun j hj h => by have := toG j hj; have := toX _ h; omega)
  clear Bwz10_2
  clear oX kN
  clear MX oN
  clear X
  have cG0 := G.cell 0 rfl
  have cG1 := G.cell 1 rfl
  have cV0 := V.cell 0 rfl
  have cV1 := V.cell 1 rfl
  go_wp2_with fail
  refine (eqDisk_yes _ _ x1 s1 _ (oG.rb (by omega)) (oV.rb (by omega))).mono ?_
  rintro _ w11 ⟨rfl, bb⟩
  clear cG0 cG1 cV0 cV1
  have Bw11 := Bw10.trans (bb.mono Bw10.size)
  have sw11 := bb.size
  replace LA := LA.below bb LA.lt
  replace V := V.below bb V.lt
  replace G := G.below bb G.lt
  replace oV := oV.below bb
  replace oG := oG.below bb
  clear Bw10
  clear bb
  have cG0 := G.cell 0 rfl
  have cG1 := G.cell 1 rfl
  go_wp2_with fail
  refine (unhide MG _ _ _ oG).mono ?_
  rintro _ w12 ⟨rfl, oN, kN⟩
  clear cG0 cG1
  have Bw12 := Below.kp Bw11 kN Bw11.size (fun k hk => by have := toG _ hk; omega)
  have sw12 := kN.size
  replace LA := LA.kp kN (fun h => by have := toG _ h; omega)
  replace V := V.kp kN (fun h => by have := toG _ h; omega)
  replace G := G.kp kN (fun h => by have := toG _ h; omega)
  replace oV := oV.kp kN (fun j hj h => by have := toV j hj; have := toG _ h; omega)
  clear Bw11
  clear oG kN
  have oG := oN
  clear oN MG
  have cG0 := G.cell 0 rfl
  have cG1 := G.cell 1 rfl
  go_wp2_with fail
  refine (unhide HD _ _ (oG.rb (by rw [marks_len]; omega))).mono ?_
  rintro _ w13 ⟨rfl, bb⟩
  clear cG0 cG1
  have Bw13 := Bw12.trans (bb.mono Bw12.size)
  have sw13 := bb.size
  replace LA := LA.below bb LA.lt
  replace V := V.below bb V.lt
  replace G := G.below bb G.lt
  replace oV := oV.below bb
  replace oG := oG.below bb
  clear Bw12
  clear bb
  have cLA0 := LA.cell 0 rfl
  have cLA1 := LA.cell 1 rfl
  go_wp2_with fail
  refine (unhide TA _ ((unhide HR).below Bw13 (Nat.le_refl _))).mono ?_
  rintro _ w14 ⟨u3, rfl, o3, bb⟩
  clear cLA0 cLA1
  have Bw14 := Bw13.trans (bb.mono Bw13.size)
  have sw14 := bb.size
  replace LA := LA.below bb LA.lt
  replace V := V.below bb V.lt
  replace G := G.below bb G.lt
  replace oV := oV.below bb
  replace oG := oG.below bb
  clear Bw13
  clear bb
  have to3 := World.ownsRow.lt o3
  obtain ⟨ao3, ko3, rfl⟩ := o3.form
  go_wp2_with fail
  refine (unhide IM _ _ _ (o3.rb (by omega))).mono ?_
  rintro _ w15 ⟨uH, rfl, oH, bb⟩
  have Bw15 := Bw14.trans (bb.mono Bw14.size)
  have sw15 := bb.size
  replace LA := LA.below bb LA.lt
  replace V := V.below bb V.lt
  replace G := G.below bb G.lt
  replace oV := oV.below bb
  replace oG := oG.below bb
  replace o3 := o3.below bb
  clear Bw14
  clear bb
  have toH := World.ownsRow.lt oH
  obtain ⟨aoH, koH, rfl⟩ := oH.form
  obtain ⟨w16, hw16⟩ : ∃ x, w15.alloc (.cells #[.slice aoH x1.length koH, .int .i64 s1] 25) = x := ⟨_, rfl⟩
  have bb : Below w15.heap.size w15 w16 := hw16 ▸ qalloc _ _
  have H : Loc w16 w15.heap.size #[.slice aoH x1.length koH, .int .i64 s1] := hw16 ▸ loc_at w15 _ _ rfl
  have zw16 : w16.heap.size = w15.heap.size + 1 := by rw [← hw16]; simp
  have Bw16 := Bw15.trans (bb.mono Bw15.size)
  have sw16 := bb.size
  replace LA := LA.below bb LA.lt
  replace V := V.below bb V.lt
  replace G := G.below bb G.lt
  replace oV := oV.below bb
  replace oG := oG.below bb
  replace o3 := o3.below bb
  replace oH := oH.below bb
  clear Bw15
  clear bb
  clear IM to3 o3
  have cH0 := H.cell 0 rfl
  have cH1 := H.cell 1 rfl
  have cV0 := V.cell 0 rfl
  have cV1 := V.cell 1 rfl
  go_wp2_with fail
  clear hw16
  refine (eqDisk_yes _ _ x1 s1 _ (oH.rb (by omega)) (oV.rb (by omega))).mono ?_
  rintro _ w17 ⟨rfl, bb⟩
  clear cH0 cH1 cV0 cV1
  have Bw17 := Bw16.trans (bb.mono Bw16.size)
  have sw17 := bb.size
  replace LA := LA.below bb LA.lt
  replace V := V.below bb V.lt
  replace G := G.below bb G.lt
  replace H := H.below bb H.lt
  replace oV := oV.below bb
  replace oG := oG.below bb
  replace oH := oH.below bb
  clear Bw16
  clear bb
  have cG0 := G.cell 0 rfl
  have cG1 := G.cell 1 rfl
  go_wp2_with fail
  refine (unhide HD _ _ (oG.rb (by rw [marks_len]; omega))).mono ?_
  rintro _ w18 ⟨rfl, bb⟩
  clear cG0 cG1
  have Bw18 := Bw17.trans (bb.mono Bw17.size)
  have sw18 := bb.size
  replace LA := LA.below bb LA.lt
  replace V := V.below bb V.lt
  replace G := G.below bb G.lt
  replace H := H.below bb H.lt
  replace oV := oV.below bb
  replace oG := oG.below bb
  replace oH := oH.below bb
  clear Bw17
  clear bb
  go_wp2
  go_ret
  exact ⟨rfl, Bw18⟩

set_option maxHeartbeats 16000000 in
set_option maxRecDepth 100000 in
theorem fnFallTo_long (ao : Option Addr) (ca k : Nat) (s : Int) (keep : Int) (w : World) (h : 1048576 < k) (hk : k ≤ maxLen) :
    Calls Try.prog 7 #[dv (.slice ao k ca) s, .int .i64 keep] w fun e w' => e = .returned (.bool true) ∧ Below w.heap.size w w' := by
  unfold maxLen at *
  have ZA := hide fun w => szDisk_no ao k ca s 1048576 w (by omega) (by omega) (by omega) (by omega)
  obtain ⟨w0, hw0⟩ : ∃ w0, (w.alloc (.cells #[.slice ao k ca, .int .i64 s] 36)) = w0 := ⟨_, rfl⟩
  have Bw0 : Below w.heap.size w w0 := hw0 ▸ (Below.refl _ _).alloc (Nat.le_refl _) _
  have LA : Loc w0 (w.heap.size) #[.slice ao k ca, .int .i64 s] := hw0 ▸ loc_at (w) _ _ rfl
  have zw0 : w.heap.size + 1 ≤ w0.heap.size := by rw [← hw0]; simp
  go_enter Try.func7, Try.ntmps7
  have cLA0 := LA.cell 0 rfl
  have cLA1 := LA.cell 1 rfl
  go_wp2_with fail
  clear hw0
  refine (unhide ZA _).mono ?_
  rintro _ w1 ⟨rfl, bb⟩
  clear cLA0 cLA1
  have Bw1 := Bw0.trans (bb.mono Bw0.size)
  have sw1 := bb.size
  replace LA := LA.below bb LA.lt
  clear Bw0
  clear bb
  go_wp2
  go_ret
  exact ⟨rfl, Bw1⟩
theorem fnFallTo_walk (ao : Option Addr) (ca : Nat) (s : Int) (xs : List Int) (keep : Int) (w : World) (hm : xs.length ≤ maxLen) (ha : ABW w ao ca xs) :
    Calls Try.prog 7 #[dv (.slice ao xs.length ca) s, .int .i64 keep] w fun e w' => e = .returned (.bool true) ∧ Below w.heap.size w w' := by
  by_cases h1 : xs.length ≤ 1048576
  · exact fnFallTo_short ao ca s xs keep w h1 (ha.rb h1)
  · exact fnFallTo_long ao ca _ s keep w (by omega) hm
end Go.Proofs.Ytkjpjgecongkpaa
