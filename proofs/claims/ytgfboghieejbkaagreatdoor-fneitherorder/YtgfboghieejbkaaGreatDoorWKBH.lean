/- The walk of laws.FnEitherOrder. -/
import Derived.Test.YtgfboghieejbkaaGreatDoorWKAD
import Derived.Test.YtgfboghieejbkaaGreatDoorWKAY
import Derived.Test.YtgfboghieejbkaaGreatDoorWKBE
import Derived.Test.YtgfboghieejbkaaGreatDoorWKBG
import Derived.Test.YtgfboghieejbkaaGreatDoorWKAR
import Derived.Test.YtgfboghieejbkaaGreatDoorWKAZ
import Derived.Deep.RegionHeld3
import Derived.Deep.DeepCutAuto
namespace Go.Proofs.YtgfboghieejbkaaGreatDoor
open Go.RowKit
set_option linter.unusedSectionVars false
variable [∀ (a b c d : Int), Decidable (Ok4 a b c d)]
variable [∀ (a b c d : Nat), Decidable (okN a b c d)]
variable [∀ (last : Int) (s : St), Decidable (GoodSt last s)]
variable [∀ (x : T4), Decidable (OkT x)]
variable [∀ (n : Int) (s : List Int), Decidable (OkL n s)]
variable [∀ (n f : Int), Decidable (COk n f)]
variable [∀ (ts : List T4), Decidable (AllOk ts)]

set_option maxHeartbeats 64000000 in
set_option maxRecDepth 100000 in
theorem fnEither_short (ao : Option Addr) (ca : Nat) (zs : List Int) (w : World) (h : DCode w ao zs) (hE : Env w) :
    Calls Tryz.prog 6 #[.slice ao zs.length ca] w fun e w' => e = .returned (.bool true) ∧ Below w.heap.size w w' := by
  have hz := h.len
  have BG := hide fun w => big_any ao zs.length ca w (by omega)
  rw [decide_eq_false (show ¬ 1048576 < zs.length by omega)] at BG
  have D1 := hide fun w' (hb : Below w.heap.size w w') => drawSee ao ca zs w' (h.below hb (Nat.le_refl _))
  have D2 := hide fun w' (hb : Below w.heap.size w w') => drawQcLater ao ca zs w' (h.below hb (Nat.le_refl _))
  have HE := hide fun w' (hb : Below w.heap.size w w') => hE.below hb
  clear h hE
  generalize zs.length = zl at *
  go_enter Tryz.func6, Tryz.ntmps6
  have Bw : Below w.heap.size w w := Below.refl _ _
  go_wp2_with fail
  refine (unhide BG _).mono ?_
  rintro _ w1 ⟨rfl, bb⟩
  have Bw1 := Bw.trans (bb.mono Bw.size)
  have sw1 := bb.size
  clear Bw
  clear bb
  clear BG
  go_wp2_with fail
  refine (unhide D1 _ Bw1).mono ?_
  rintro _ w2 ⟨n, f, vo, lo, v, s, uO, d, xs, v1, s1, uP, x1, rfl, hn, hs, hd, hl, hv1, hs1, hl1, O, P, bb⟩
  have Bw2 := Bw1.trans (bb.mono Bw1.size)
  have sw2 := bb.size
  clear Bw1
  clear bb
  clear D1
  replace O := OI.ri O (by omega)
  obtain ⟨aO, cO, rfl⟩ := O.form
  replace O := hide O
  replace P := OI.ri P (by omega)
  obtain ⟨aP, cP, rfl⟩ := P.form
  replace P := hide P
  go_upto_region 4 with fail
  obtain ⟨w3, hw3⟩ : ∃ y, (((w2.alloc (.cells #[.int .i64 n, .int .i64 f] 32)).alloc (.cells #[.int .i64 vo, .int .i64 lo, .int .i64 v, .string s, .slice aO xs.length cO, .string d] 60)).alloc (.cells #[.int .i64 v1, .string s1, .slice aP x1.length cP] 40)) = y := ⟨_, rfl⟩
  have bb : Below w2.heap.size w2 w3 := hw3 ▸ (((Below.refl _ _).alloc (Nat.le_refl _) _).alloc (by simp) _).alloc (by simp; omega) _
  have LC : Loc w3 (w2.heap.size) #[.int .i64 n, .int .i64 f] := hw3 ▸ ((loc_at (w2) _ _ rfl).alloc _).alloc _
  have LS : Loc w3 (w2.heap.size + 1) #[.int .i64 vo, .int .i64 lo, .int .i64 v, .string s, .slice aO xs.length cO, .string d] := hw3 ▸ (loc_at (w2.alloc _) _ _ (by simp)).alloc _
  have LQ : Loc w3 (w2.heap.size + 1 + 1) #[.int .i64 v1, .string s1, .slice aP x1.length cP] := hw3 ▸ loc_at ((w2.alloc _).alloc _) _ _ (by simp)
  have zw3 : w2.heap.size + 1 + 1 + 1 ≤ w3.heap.size := by rw [← hw3]; simp
  rw [hw3]
  clear hw3
  have Bw3 := Bw2.trans (bb.mono Bw2.size)
  have sw3 := bb.size
  clear Bw2
  replace O := hide ((unhide O).below bb (Nat.le_refl _))
  replace P := hide ((unhide P).below bb (Nat.le_refl _))
  clear bb
  go_wp2_with fail
  refine (unhide D2 _ Bw3).mono ?_
  rintro _ w4 ⟨v2, s2, uA, x2, v3, s3, uB, x3, rfl, hs2, hl2, hw2, hs3, hl3, hw3, PA, PB, bb⟩
  have Bw4 := Bw3.trans (bb.mono Bw3.size)
  have sw4 := bb.size
  replace LC := LC.below bb LC.lt
  replace LS := LS.below bb LS.lt
  replace LQ := LQ.below bb LQ.lt
  clear Bw3
  replace O := hide ((unhide O).below bb (Nat.le_refl _))
  replace P := hide ((unhide P).below bb (Nat.le_refl _))
  clear bb
  clear D2 hw2 hw3 hv1 hn
  replace PA := OI.ri PA (by omega)
  obtain ⟨aA, cA, rfl⟩ := PA.form
  replace PA := hide PA
  replace PB := OI.ri PB (by omega)
  obtain ⟨aB, cB, rfl⟩ := PB.form
  replace PB := hide PB
  go_upto_region 5 with fail
  obtain ⟨w5, hw5⟩ : ∃ y, ((w4.alloc (.cells #[.int .i64 v2, .string s2, .slice aA x2.length cA] 40)).alloc (.cells #[.int .i64 v3, .string s3, .slice aB x3.length cB] 40)) = y := ⟨_, rfl⟩
  have bb : Below w4.heap.size w4 w5 := hw5 ▸ ((Below.refl _ _).alloc (Nat.le_refl _) _).alloc (by simp) _
  have LA : Loc w5 (w4.heap.size) #[.int .i64 v2, .string s2, .slice aA x2.length cA] := hw5 ▸ (loc_at (w4) _ _ rfl).alloc _
  have LB : Loc w5 (w4.heap.size + 1) #[.int .i64 v3, .string s3, .slice aB x3.length cB] := hw5 ▸ loc_at (w4.alloc _) _ _ (by simp)
  have zw5 : w4.heap.size + 1 + 1 ≤ w5.heap.size := by rw [← hw5]; simp
  rw [hw5]
  clear hw5
  have Bw5 := Bw4.trans (bb.mono Bw4.size)
  have sw5 := bb.size
  replace LC := LC.below bb LC.lt
  replace LS := LS.below bb LS.lt
  replace LQ := LQ.below bb LQ.lt
  clear Bw4
  replace O := hide ((unhide O).below bb (Nat.le_refl _))
  replace P := hide ((unhide P).below bb (Nat.le_refl _))
  replace PA := hide ((unhide PA).below bb (Nat.le_refl _))
  replace PB := hide ((unhide PB).below bb (Nat.le_refl _))
  clear bb
  clear PB LB
  have ER := hide (either n f vo lo v s xs d v1 s1 x1 v2 s2 x2 _ _ _ _ rfl rfl rfl rfl)
  have I1 := hide fun a k w' (h : RI w' (.slice a xs.length k) xs) (h' : RI w' (.slice aP x1.length cP) x1) (e : Env w') => implSee n f vo lo v s a k xs d v1 s1 aP cP x1 w' (by omega) (by omega) (by omega) e h h'
  have J1 := hide fun a k w' (h : RI w' (.slice a xs.length k) xs) (h' : RI w' (.slice aA x2.length cA) x2) (e : Env w') => implSee n f vo lo v s a k xs d v2 s2 aA cA x2 w' (by omega) (by omega) (by omega) e h h'
  have S1 := hide fun a k w' (h : RI w' (.slice a xs.length k) xs) (h' : RI w' (.slice aA x2.length cA) x2) => specSee n f vo lo v s a k xs d v2 s2 aA cA x2 w' (by omega) (by omega) (by omega) h h'
  have f1 := see_fit (goB n f vo lo v s xs d v1 s1 x1) v s xs d v1 s1 x1 hs (by omega) hd hs1 (by omega)
  have f2 := see_fit (goB n f vo lo v s xs d v2 s2 x2) v s xs d v2 s2 x2 hs (by omega) hd hs2 (by omega)
  generalize seeL (goB n f vo lo v s xs d v1 s1 x1) lo s1 = La at *
  generalize seeL (goB n f vo lo v s xs d v2 s2 x2) lo s2 = Lb at *
  generalize seeV (goB n f vo lo v s xs d v1 s1 x1) v v1 = Va at *
  generalize seeV (goB n f vo lo v s xs d v2 s2 x2) v v2 = Vb at *
  generalize seeS (goB n f vo lo v s xs d v1 s1 x1) v v1 s s1 = Ta at *
  generalize seeS (goB n f vo lo v s xs d v2 s2 x2) v v2 s s2 = Tb at *
  generalize seeX (goB n f vo lo v s xs d v1 s1 x1) v v1 xs x1 = Xa at *
  generalize seeX (goB n f vo lo v s xs d v2 s2 x2) v v2 xs x2 = Xb at *
  generalize seeD (goB n f vo lo v s xs d v1 s1 x1) d s1 = Da at *
  generalize seeD (goB n f vo lo v s xs d v2 s2 x2) d s2 = Db at *
  obtain ⟨f11, f12, f13⟩ := f1
  obtain ⟨f21, f22, f23⟩ := f2
  have I2 := hide fun a k w' (h : RI w' (.slice a Xa.length k) Xa) (h' : RI w' (.slice aA x2.length cA) x2) (e : Env w') => implSee n f vo La Va Ta a k Xa Da v2 s2 aA cA x2 w' (by omega) (by omega) (by omega) e h h'
  have J2 := hide fun a k w' (h : RI w' (.slice a Xb.length k) Xb) (h' : RI w' (.slice aP x1.length cP) x1) (e : Env w') => implSee n f vo Lb Vb Tb a k Xb Db v1 s1 aP cP x1 w' (by omega) (by omega) (by omega) e h h'
  have S2 := hide fun a k w' (h : RI w' (.slice a Xb.length k) Xb) (h' : RI w' (.slice aP x1.length cP) x1) => specSee n f vo Lb Vb Tb a k Xb Db v1 s1 aP cP x1 w' (by omega) (by omega) (by omega) h h'
  have f3 := see_fit (goB n f vo La Va Ta Xa Da v2 s2 x2) Va Ta Xa Da v2 s2 x2 f11 f12 f13 hs2 (by omega)
  have f4 := see_fit (goB n f vo Lb Vb Tb Xb Db v1 s1 x1) Vb Tb Xb Db v1 s1 x1 f21 f22 f23 hs1 (by omega)
  generalize seeL (goB n f vo La Va Ta Xa Da v2 s2 x2) La s2 = Lc at *
  generalize seeL (goB n f vo Lb Vb Tb Xb Db v1 s1 x1) Lb s1 = Le at *
  generalize seeV (goB n f vo La Va Ta Xa Da v2 s2 x2) Va v2 = Vc at *
  generalize seeV (goB n f vo Lb Vb Tb Xb Db v1 s1 x1) Vb v1 = Ve at *
  generalize seeS (goB n f vo La Va Ta Xa Da v2 s2 x2) Va v2 Ta s2 = Tc at *
  generalize seeS (goB n f vo Lb Vb Tb Xb Db v1 s1 x1) Vb v1 Tb s1 = Te at *
  generalize seeX (goB n f vo La Va Ta Xa Da v2 s2 x2) Va v2 Xa x2 = Xc at *
  generalize seeX (goB n f vo Lb Vb Tb Xb Db v1 s1 x1) Vb v1 Xb x1 = Xe at *
  generalize seeD (goB n f vo La Va Ta Xa Da v2 s2 x2) Da s2 = Dc at *
  generalize seeD (goB n f vo Lb Vb Tb Xb Db v1 s1 x1) Db s1 = De at *
  obtain ⟨_, f32, _⟩ := f3
  obtain ⟨_, f42, _⟩ := f4
  have eL := (unhide ER).1
  have eV := (unhide ER).2
  clear ER
  have dL : (Lc == Le) = true := by simp [eL]
  have dV : (Vc == Ve) = true := by simp [eV]
  have dO : (vo == vo) = true := by simp
  clear eL eV
  have K : Hid (∀ w', Below w5.heap.size w5 w' → (fun w' => Below w5.heap.size w5 w' ∧ (w'.cell? ⟨w2.heap.size, 0, none⟩ = some (.int .i64 n) ∧ w'.cell? ⟨w2.heap.size, 1, none⟩ = some (.int .i64 f)) ∧ (w'.cell? ⟨w2.heap.size + 1, 0, none⟩ = some (.int .i64 vo) ∧ w'.cell? ⟨w2.heap.size + 1, 1, none⟩ = some (.int .i64 lo) ∧ w'.cell? ⟨w2.heap.size + 1, 2, none⟩ = some (.int .i64 v) ∧ w'.cell? ⟨w2.heap.size + 1, 3, none⟩ = some (.string s) ∧ w'.cell? ⟨w2.heap.size + 1, 4, none⟩ = some (.slice aO xs.length cO) ∧ w'.cell? ⟨w2.heap.size + 1, 5, none⟩ = some (.string d)) ∧ (w'.cell? ⟨w2.heap.size + 1 + 1, 0, none⟩ = some (.int .i64 v1) ∧ w'.cell? ⟨w2.heap.size + 1 + 1, 1, none⟩ = some (.string s1) ∧ w'.cell? ⟨w2.heap.size + 1 + 1, 2, none⟩ = some (.slice aP x1.length cP)) ∧ (w'.cell? ⟨w4.heap.size, 0, none⟩ = some (.int .i64 v2) ∧ w'.cell? ⟨w4.heap.size, 1, none⟩ = some (.string s2) ∧ w'.cell? ⟨w4.heap.size, 2, none⟩ = some (.slice aA x2.length cA))) w') := hide fun w' hb' => ⟨hb', ⟨(LC.below hb' LC.lt).cell 0 rfl, (LC.below hb' LC.lt).cell 1 rfl⟩, ⟨(LS.below hb' LS.lt).cell 0 rfl, (LS.below hb' LS.lt).cell 1 rfl, (LS.below hb' LS.lt).cell 2 rfl, (LS.below hb' LS.lt).cell 3 rfl, (LS.below hb' LS.lt).cell 4 rfl, (LS.below hb' LS.lt).cell 5 rfl⟩, ⟨(LQ.below hb' LQ.lt).cell 0 rfl, (LQ.below hb' LQ.lt).cell 1 rfl, (LQ.below hb' LQ.lt).cell 2 rfl⟩, ⟨(LA.below hb' LA.lt).cell 0 rfl, (LA.below hb' LA.lt).cell 1 rfl, (LA.below hb' LA.lt).cell 2 rfl⟩⟩
  go_upto_region 5 with fail
  go_cut [8] (fun c  wx => ∃ h uu, c = .pointer (some ⟨h, 0, none⟩) ∧ w5.heap.size ≤ h ∧ h < wx.heap.size ∧ Loc wx h #[.int .i64 vo, .int .i64 Lc, .int .i64 Vc, .string Tc, uu, .string Dc] ∧ OI wx w5.heap.size uu Xc ∧ (∀ j, uu.ownBlock = some j → w5.heap.size ≤ j ∧ j < wx.heap.size ∧ j ≠ h) ∧ Below w5.heap.size w5 wx)
  case first =>
    refine wp_region_noPanic ?_
    refine wp_region_held_drew (S := fun w' => Below w5.heap.size w5 w' ∧ (w'.cell? ⟨w2.heap.size, 0, none⟩ = some (.int .i64 n) ∧ w'.cell? ⟨w2.heap.size, 1, none⟩ = some (.int .i64 f)) ∧ (w'.cell? ⟨w2.heap.size + 1, 0, none⟩ = some (.int .i64 vo) ∧ w'.cell? ⟨w2.heap.size + 1, 1, none⟩ = some (.int .i64 lo) ∧ w'.cell? ⟨w2.heap.size + 1, 2, none⟩ = some (.int .i64 v) ∧ w'.cell? ⟨w2.heap.size + 1, 3, none⟩ = some (.string s) ∧ w'.cell? ⟨w2.heap.size + 1, 4, none⟩ = some (.slice aO xs.length cO) ∧ w'.cell? ⟨w2.heap.size + 1, 5, none⟩ = some (.string d)) ∧ (w'.cell? ⟨w2.heap.size + 1 + 1, 0, none⟩ = some (.int .i64 v1) ∧ w'.cell? ⟨w2.heap.size + 1 + 1, 1, none⟩ = some (.string s1) ∧ w'.cell? ⟨w2.heap.size + 1 + 1, 2, none⟩ = some (.slice aP x1.length cP)) ∧ (w'.cell? ⟨w4.heap.size, 0, none⟩ = some (.int .i64 v2) ∧ w'.cell? ⟨w4.heap.size, 1, none⟩ = some (.string s2) ∧ w'.cell? ⟨w4.heap.size, 2, none⟩ = some (.slice aA x2.length cA))) (by kernel_rfl) (unhide K _ (Below.drew (Below.refl _ _))) (fun hHeld => ?_)
    obtain ⟨wd, hd⟩ : ∃ wd, w5.drew = wd := ⟨_, rfl⟩
    have bd : Below w5.heap.size w5 wd := hd ▸ Below.drew (Below.refl _ _)
    have szd := bd.size
    rw [hd] at hHeld ⊢
    clear hd
    refine tk 0 24 (v := ?_) rfl (hy := .inl ⟨by rfl, ?_⟩) (h := ?_); rotate_left
    · intro w hSw; (try dsimp only at hSw); go_simp; (try with_reducible rfl)
    simp only [Act.put, List.setIfInBounds_toArray, List.set_cons_zero, List.set_cons_succ]
    refine tk 1 25 (v := ?_) rfl (hy := .inl ⟨by rfl, ?_⟩) (h := ?_); rotate_left
    · intro w hSw; (try dsimp only at hSw); go_simp; (try with_reducible rfl)
    simp only [Act.put, List.setIfInBounds_toArray, List.set_cons_zero, List.set_cons_succ]
    refine tk 2 26 (v := ?_) rfl (hy := .inl ⟨by rfl, ?_⟩) (h := ?_); rotate_left
    · intro w hSw; (try dsimp only at hSw); go_simp; (try with_reducible rfl)
    simp only [Act.put, List.setIfInBounds_toArray, List.set_cons_zero, List.set_cons_succ]
    refine tk 3 27 (v := ?_) rfl (hy := .inl ⟨by rfl, ?_⟩) (h := ?_); rotate_left
    · intro w hSw; (try dsimp only at hSw); go_simp; (try with_reducible rfl)
    simp only [Act.put, List.setIfInBounds_toArray, List.set_cons_zero, List.set_cons_succ]
    refine tk 5 29 (v := ?_) rfl (hy := .inl ⟨by rfl, ?_⟩) (h := ?_); rotate_left
    · intro w hSw; (try dsimp only at hSw); go_simp; (try with_reducible rfl)
    simp only [Act.put, List.setIfInBounds_toArray, List.set_cons_zero, List.set_cons_succ]
    refine wpAnyH_ready (rs := [4, 7]) (by kernel_rfl) (by simp) (AllReadyH.cons rfl (fun KK hKK => ?_) (AllReadyH.cons rfl (fun KK hKK => ?_) AllReadyH.nil))
    · go_simp
      have hgo := bd
      refine (unhide I1 _ _ _ ((unhide O).below hgo (Nat.le_refl _)) ((unhide P).below hgo (Nat.le_refl _)) (unhide HE _ (Bw5.trans (hgo.mono Bw5.size)))).mono ?_
      rintro e wc5_1 ⟨vv1, rfl, oq1, bnew⟩
      have bc5_2 : Below w5.heap.size w5 wc5_1 := bd.trans (bnew.mono bd.size)
      have zzwc5_1 := bnew.size
      obtain ⟨aq, kq, rfl⟩ := oq1.form
      clear hHeld bnew hgo
      refine hKK.out _ _ (unhide K _ bc5_2) (fun hHeld => ?_)
      clear hKK KK
      refine wpAnyH_ready (rs := [6, 7]) (by kernel_rfl) (by simp) (AllReadyH.cons rfl (fun KK hKK => ?_) (AllReadyH.cons rfl (fun KK hKK => ?_) AllReadyH.nil))
      · go_simp
        have hgo := bc5_2
        refine (unhide I2 _ _ _ (oq1.ri (by omega)) ((unhide PA).below hgo (Nat.le_refl _)) (unhide HE _ (Bw5.trans (hgo.mono Bw5.size)))).mono ?_
        rintro e wc5_3 ⟨vv2, rfl, oq2, bnew⟩
        have bc5_4 : Below w5.heap.size w5 wc5_3 := bc5_2.trans (bnew.mono bc5_2.size)
        have zzwc5_3 := bnew.size
        replace oq1 := oq1.below bnew
        have tl := World.ownsRow.lt oq2
        obtain ⟨aa, kk, rfl⟩ := oq2.form
        clear hHeld bnew hgo
        refine hKK.out _ _ (unhide K _ bc5_4) (fun hHeld => ?_)
        clear hKK KK
        refine ready_at (i := 7) rfl (by kernel_rfl) (fun KK hKK => ?_)
        go_simp
        obtain ⟨wl5_5, hwl5_5⟩ : ∃ x, wc5_3.alloc (.cells #[.int .i64 0, .int .i64 0, .int .i64 0, .string ⟨#[]⟩, .slice none 0 0, .string ⟨#[]⟩] 60) = x := ⟨_, rfl⟩
        have cbl5_6 : Below wc5_3.heap.size wc5_3 wl5_5 := hwl5_5 ▸ qalloc _ _
        have bl5_6 : Below w5.heap.size w5 wl5_5 := bc5_4.trans (cbl5_6.mono bc5_4.size)
        have zzwl5_5 : wl5_5.heap.size = wc5_3.heap.size + 1 := by rw [← hwl5_5]; simp
        have lg : Loc wl5_5 wc5_3.heap.size #[.int .i64 0, .int .i64 0, .int .i64 0, .string ⟨#[]⟩, .slice none 0 0, .string ⟨#[]⟩] := hwl5_5 ▸ loc_at wc5_3 _ _ rfl
        replace oq1 := oq1.below cbl5_6
        replace oq2 := oq2.below cbl5_6
        rw [hwl5_5]
        clear hHeld hwl5_5 cbl5_6
        refine hKK.out _ _ (unhide K _ bl5_6) (fun hHeld => ?_)
        clear hKK KK
        have q0 := lg.cell 0 rfl
        have q1 := lg.cell 1 rfl
        have q2 := lg.cell 2 rfl
        have q3 := lg.cell 3 rfl
        have q4 := lg.cell 4 rfl
        have q5 := lg.cell 5 rfl
        have FG := lg.frozen
        refine ready_at (i := 8) rfl (by kernel_rfl) (fun KK hKK => ?_)
        go_simp
        have bs : Below w5.heap.size w5 ((((((wl5_5.setCell ⟨wc5_3.heap.size, 0, none⟩ (.int .i64 vo)).setCell ⟨wc5_3.heap.size, 1, none⟩ (.int .i64 Lc)).setCell ⟨wc5_3.heap.size, 2, none⟩ (.int .i64 Vc)).setCell ⟨wc5_3.heap.size, 3, none⟩ (.string Tc)).setCell ⟨wc5_3.heap.size, 4, none⟩ (.slice aa (Xc).length kk)).setCell ⟨wc5_3.heap.size, 5, none⟩ (.string Dc)) := (Below.set (Below.set (Below.set (Below.set (Below.set (Below.set bl5_6 _ _ (by omega)) _ _ (by omega)) _ _ (by omega)) _ _ (by omega)) _ _ (by omega)) _ _ (by omega))
        clear hHeld
        refine hKK.out _ _ (unhide K _ bs) (fun hHeld => ?_)
        clear hKK KK
        clear hHeld
        refine wpAnyH_done (by kernel_rfl) ?_ _
        refine NoPanic.normal ?_
        go_wp2_with fail
        go_meet
        have k3 : Kp wl5_5 ((((((wl5_5.setCell ⟨wc5_3.heap.size, 0, none⟩ (.int .i64 vo)).setCell ⟨wc5_3.heap.size, 1, none⟩ (.int .i64 Lc)).setCell ⟨wc5_3.heap.size, 2, none⟩ (.int .i64 Vc)).setCell ⟨wc5_3.heap.size, 3, none⟩ (.string Tc)).setCell ⟨wc5_3.heap.size, 4, none⟩ (.slice aa (Xc).length kk)).setCell ⟨wc5_3.heap.size, 5, none⟩ (.string Dc)) (fun k => k = wc5_3.heap.size) := (((((set_kp _ _ _ _).trans (set_kp _ _ _ _)).trans (set_kp _ _ _ _)).trans (set_kp _ _ _ _)).trans (set_kp _ _ _ _)).trans (set_kp _ _ _ _)
        have ll := lg.lt
        exact ⟨_, _, rfl, by omega, by simpa using ll, ((((((lg.set 0 _ rfl).set 1 _ rfl).set 2 _ rfl).set 3 _ rfl).set 4 _ rfl).set 5 _ rfl), (oq2.kp k3 (fun j hj e => by have := tl j hj; omega)).mono (by omega), fun j hj => by have := tl j hj; simp; omega, bs⟩
      · go_simp
        obtain ⟨wl5_7, hwl5_7⟩ : ∃ x, wc5_1.alloc (.cells #[.int .i64 0, .int .i64 0, .int .i64 0, .string ⟨#[]⟩, .slice none 0 0, .string ⟨#[]⟩] 60) = x := ⟨_, rfl⟩
        have cbl5_8 : Below wc5_1.heap.size wc5_1 wl5_7 := hwl5_7 ▸ qalloc _ _
        have bl5_8 : Below w5.heap.size w5 wl5_7 := bc5_2.trans (cbl5_8.mono bc5_2.size)
        have zzwl5_7 : wl5_7.heap.size = wc5_1.heap.size + 1 := by rw [← hwl5_7]; simp
        have lg : Loc wl5_7 wc5_1.heap.size #[.int .i64 0, .int .i64 0, .int .i64 0, .string ⟨#[]⟩, .slice none 0 0, .string ⟨#[]⟩] := hwl5_7 ▸ loc_at wc5_1 _ _ rfl
        replace oq1 := oq1.below cbl5_8
        rw [hwl5_7]
        clear hHeld hwl5_7 cbl5_8
        refine hKK.out _ _ (unhide K _ bl5_8) (fun hHeld => ?_)
        clear hKK KK
        refine ready_at (i := 6) rfl (by kernel_rfl) (fun KK hKK => ?_)
        go_simp
        have hgo := bl5_8
        refine (unhide I2 _ _ _ (oq1.ri (by omega)) ((unhide PA).below hgo (Nat.le_refl _)) (unhide HE _ (Bw5.trans (hgo.mono Bw5.size)))).mono ?_
        rintro e wc5_9 ⟨vv2, rfl, oq2, bnew⟩
        have bc5_10 : Below w5.heap.size w5 wc5_9 := bl5_8.trans (bnew.mono bl5_8.size)
        have zzwc5_9 := bnew.size
        replace oq1 := oq1.below bnew
        replace lg := lg.below bnew lg.lt
        have tl := World.ownsRow.lt oq2
        obtain ⟨aa, kk, rfl⟩ := oq2.form
        clear hHeld bnew hgo
        refine hKK.out _ _ (unhide K _ bc5_10) (fun hHeld => ?_)
        clear hKK KK
        have q0 := lg.cell 0 rfl
        have q1 := lg.cell 1 rfl
        have q2 := lg.cell 2 rfl
        have q3 := lg.cell 3 rfl
        have q4 := lg.cell 4 rfl
        have q5 := lg.cell 5 rfl
        have FG := lg.frozen
        refine ready_at (i := 8) rfl (by kernel_rfl) (fun KK hKK => ?_)
        go_simp
        have bs : Below w5.heap.size w5 ((((((wc5_9.setCell ⟨wc5_1.heap.size, 0, none⟩ (.int .i64 vo)).setCell ⟨wc5_1.heap.size, 1, none⟩ (.int .i64 Lc)).setCell ⟨wc5_1.heap.size, 2, none⟩ (.int .i64 Vc)).setCell ⟨wc5_1.heap.size, 3, none⟩ (.string Tc)).setCell ⟨wc5_1.heap.size, 4, none⟩ (.slice aa (Xc).length kk)).setCell ⟨wc5_1.heap.size, 5, none⟩ (.string Dc)) := (Below.set (Below.set (Below.set (Below.set (Below.set (Below.set bc5_10 _ _ (by omega)) _ _ (by omega)) _ _ (by omega)) _ _ (by omega)) _ _ (by omega)) _ _ (by omega))
        clear hHeld
        refine hKK.out _ _ (unhide K _ bs) (fun hHeld => ?_)
        clear hKK KK
        clear hHeld
        refine wpAnyH_done (by kernel_rfl) ?_ _
        refine NoPanic.normal ?_
        go_wp2_with fail
        go_meet
        have k3 : Kp wc5_9 ((((((wc5_9.setCell ⟨wc5_1.heap.size, 0, none⟩ (.int .i64 vo)).setCell ⟨wc5_1.heap.size, 1, none⟩ (.int .i64 Lc)).setCell ⟨wc5_1.heap.size, 2, none⟩ (.int .i64 Vc)).setCell ⟨wc5_1.heap.size, 3, none⟩ (.string Tc)).setCell ⟨wc5_1.heap.size, 4, none⟩ (.slice aa (Xc).length kk)).setCell ⟨wc5_1.heap.size, 5, none⟩ (.string Dc)) (fun k => k = wc5_1.heap.size) := (((((set_kp _ _ _ _).trans (set_kp _ _ _ _)).trans (set_kp _ _ _ _)).trans (set_kp _ _ _ _)).trans (set_kp _ _ _ _)).trans (set_kp _ _ _ _)
        have ll := lg.lt
        exact ⟨_, _, rfl, by omega, by simpa using ll, ((((((lg.set 0 _ rfl).set 1 _ rfl).set 2 _ rfl).set 3 _ rfl).set 4 _ rfl).set 5 _ rfl), (oq2.kp k3 (fun j hj e => by have := tl j hj; omega)).mono (by omega), fun j hj => by have := tl j hj; simp; omega, bs⟩
    · go_simp
      obtain ⟨wl5_11, hwl5_11⟩ : ∃ x, wd.alloc (.cells #[.int .i64 0, .int .i64 0, .int .i64 0, .string ⟨#[]⟩, .slice none 0 0, .string ⟨#[]⟩] 60) = x := ⟨_, rfl⟩
      have cbl5_12 : Below wd.heap.size wd wl5_11 := hwl5_11 ▸ qalloc _ _
      have bl5_12 : Below w5.heap.size w5 wl5_11 := bd.trans (cbl5_12.mono bd.size)
      have zzwl5_11 : wl5_11.heap.size = wd.heap.size + 1 := by rw [← hwl5_11]; simp
      have lg : Loc wl5_11 wd.heap.size #[.int .i64 0, .int .i64 0, .int .i64 0, .string ⟨#[]⟩, .slice none 0 0, .string ⟨#[]⟩] := hwl5_11 ▸ loc_at wd _ _ rfl
      rw [hwl5_11]
      clear hHeld hwl5_11 cbl5_12
      refine hKK.out _ _ (unhide K _ bl5_12) (fun hHeld => ?_)
      clear hKK KK
      refine ready_at (i := 4) rfl (by kernel_rfl) (fun KK hKK => ?_)
      go_simp
      have hgo := bl5_12
      refine (unhide I1 _ _ _ ((unhide O).below hgo (Nat.le_refl _)) ((unhide P).below hgo (Nat.le_refl _)) (unhide HE _ (Bw5.trans (hgo.mono Bw5.size)))).mono ?_
      rintro e wc5_13 ⟨vv1, rfl, oq1, bnew⟩
      have bc5_14 : Below w5.heap.size w5 wc5_13 := bl5_12.trans (bnew.mono bl5_12.size)
      have zzwc5_13 := bnew.size
      replace lg := lg.below bnew lg.lt
      obtain ⟨aq, kq, rfl⟩ := oq1.form
      clear hHeld bnew hgo
      refine hKK.out _ _ (unhide K _ bc5_14) (fun hHeld => ?_)
      clear hKK KK
      refine ready_at (i := 6) rfl (by kernel_rfl) (fun KK hKK => ?_)
      go_simp
      have hgo := bc5_14
      refine (unhide I2 _ _ _ (oq1.ri (by omega)) ((unhide PA).below hgo (Nat.le_refl _)) (unhide HE _ (Bw5.trans (hgo.mono Bw5.size)))).mono ?_
      rintro e wc5_15 ⟨vv2, rfl, oq2, bnew⟩
      have bc5_16 : Below w5.heap.size w5 wc5_15 := bc5_14.trans (bnew.mono bc5_14.size)
      have zzwc5_15 := bnew.size
      replace oq1 := oq1.below bnew
      replace lg := lg.below bnew lg.lt
      have tl := World.ownsRow.lt oq2
      obtain ⟨aa, kk, rfl⟩ := oq2.form
      clear hHeld bnew hgo
      refine hKK.out _ _ (unhide K _ bc5_16) (fun hHeld => ?_)
      clear hKK KK
      have q0 := lg.cell 0 rfl
      have q1 := lg.cell 1 rfl
      have q2 := lg.cell 2 rfl
      have q3 := lg.cell 3 rfl
      have q4 := lg.cell 4 rfl
      have q5 := lg.cell 5 rfl
      have FG := lg.frozen
      refine ready_at (i := 8) rfl (by kernel_rfl) (fun KK hKK => ?_)
      go_simp
      have bs : Below w5.heap.size w5 ((((((wc5_15.setCell ⟨wd.heap.size, 0, none⟩ (.int .i64 vo)).setCell ⟨wd.heap.size, 1, none⟩ (.int .i64 Lc)).setCell ⟨wd.heap.size, 2, none⟩ (.int .i64 Vc)).setCell ⟨wd.heap.size, 3, none⟩ (.string Tc)).setCell ⟨wd.heap.size, 4, none⟩ (.slice aa (Xc).length kk)).setCell ⟨wd.heap.size, 5, none⟩ (.string Dc)) := (Below.set (Below.set (Below.set (Below.set (Below.set (Below.set bc5_16 _ _ (by omega)) _ _ (by omega)) _ _ (by omega)) _ _ (by omega)) _ _ (by omega)) _ _ (by omega))
      clear hHeld
      refine hKK.out _ _ (unhide K _ bs) (fun hHeld => ?_)
      clear hKK KK
      clear hHeld
      refine wpAnyH_done (by kernel_rfl) ?_ _
      refine NoPanic.normal ?_
      go_wp2_with fail
      go_meet
      have k3 : Kp wc5_15 ((((((wc5_15.setCell ⟨wd.heap.size, 0, none⟩ (.int .i64 vo)).setCell ⟨wd.heap.size, 1, none⟩ (.int .i64 Lc)).setCell ⟨wd.heap.size, 2, none⟩ (.int .i64 Vc)).setCell ⟨wd.heap.size, 3, none⟩ (.string Tc)).setCell ⟨wd.heap.size, 4, none⟩ (.slice aa (Xc).length kk)).setCell ⟨wd.heap.size, 5, none⟩ (.string Dc)) (fun k => k = wd.heap.size) := (((((set_kp _ _ _ _).trans (set_kp _ _ _ _)).trans (set_kp _ _ _ _)).trans (set_kp _ _ _ _)).trans (set_kp _ _ _ _)).trans (set_kp _ _ _ _)
      have ll := lg.lt
      exact ⟨_, _, rfl, by omega, by simpa using ll, ((((((lg.set 0 _ rfl).set 1 _ rfl).set 2 _ rfl).set 3 _ rfl).set 4 _ rfl).set 5 _ rfl), (oq2.kp k3 (fun j hj e => by have := tl j hj; omega)).mono (by omega), fun j hj => by have := tl j hj; simp; omega, bs⟩
  case rest =>
    clear K
    obtain ⟨wq5, hwq⟩ : ∃ x, x = wc := ⟨_, rfl⟩
    subst hwq
    obtain ⟨hX, vX, rfl, gX, eX, X, oX, toX, bb⟩ := hcut
    obtain ⟨aoX, koX, rfl⟩ := oX.form
    have Bwq5 := Bw5.trans (bb.mono Bw5.size)
    have swq5 := bb.size
    replace LC := LC.below bb LC.lt
    replace LS := LS.below bb LS.lt
    replace LQ := LQ.below bb LQ.lt
    replace LA := LA.below bb LA.lt
    clear Bw5
    replace O := hide ((unhide O).below bb (Nat.le_refl _))
    replace P := hide ((unhide P).below bb (Nat.le_refl _))
    replace PA := hide ((unhide PA).below bb (Nat.le_refl _))
    clear bb
    clear I1 I2
    have K : Hid (∀ w', Below wq5.heap.size wq5 w' → (fun w' => Below wq5.heap.size wq5 w' ∧ (w'.cell? ⟨w2.heap.size, 0, none⟩ = some (.int .i64 n) ∧ w'.cell? ⟨w2.heap.size, 1, none⟩ = some (.int .i64 f)) ∧ (w'.cell? ⟨w2.heap.size + 1, 0, none⟩ = some (.int .i64 vo) ∧ w'.cell? ⟨w2.heap.size + 1, 1, none⟩ = some (.int .i64 lo) ∧ w'.cell? ⟨w2.heap.size + 1, 2, none⟩ = some (.int .i64 v) ∧ w'.cell? ⟨w2.heap.size + 1, 3, none⟩ = some (.string s) ∧ w'.cell? ⟨w2.heap.size + 1, 4, none⟩ = some (.slice aO xs.length cO) ∧ w'.cell? ⟨w2.heap.size + 1, 5, none⟩ = some (.string d)) ∧ (w'.cell? ⟨w2.heap.size + 1 + 1, 0, none⟩ = some (.int .i64 v1) ∧ w'.cell? ⟨w2.heap.size + 1 + 1, 1, none⟩ = some (.string s1) ∧ w'.cell? ⟨w2.heap.size + 1 + 1, 2, none⟩ = some (.slice aP x1.length cP)) ∧ (w'.cell? ⟨w4.heap.size, 0, none⟩ = some (.int .i64 v2) ∧ w'.cell? ⟨w4.heap.size, 1, none⟩ = some (.string s2) ∧ w'.cell? ⟨w4.heap.size, 2, none⟩ = some (.slice aA x2.length cA))) w') := hide fun w' hb' => ⟨hb', ⟨(LC.below hb' LC.lt).cell 0 rfl, (LC.below hb' LC.lt).cell 1 rfl⟩, ⟨(LS.below hb' LS.lt).cell 0 rfl, (LS.below hb' LS.lt).cell 1 rfl, (LS.below hb' LS.lt).cell 2 rfl, (LS.below hb' LS.lt).cell 3 rfl, (LS.below hb' LS.lt).cell 4 rfl, (LS.below hb' LS.lt).cell 5 rfl⟩, ⟨(LQ.below hb' LQ.lt).cell 0 rfl, (LQ.below hb' LQ.lt).cell 1 rfl, (LQ.below hb' LQ.lt).cell 2 rfl⟩, ⟨(LA.below hb' LA.lt).cell 0 rfl, (LA.below hb' LA.lt).cell 1 rfl, (LA.below hb' LA.lt).cell 2 rfl⟩⟩
    go_upto_region 6 with fail
    go_cut [9] (fun c  wx => ∃ h uu, c = .pointer (some ⟨h, 0, none⟩) ∧ wq5.heap.size ≤ h ∧ h < wx.heap.size ∧ Loc wx h #[.int .i64 vo, .int .i64 Le, .int .i64 Ve, .string Te, uu, .string De] ∧ OI wx wq5.heap.size uu Xe ∧ (∀ j, uu.ownBlock = some j → wq5.heap.size ≤ j ∧ j < wx.heap.size ∧ j ≠ h) ∧ Below wq5.heap.size wq5 wx)
    case first =>
      refine wp_region_noPanic ?_
      refine wp_region_held_drew (S := fun w' => Below wq5.heap.size wq5 w' ∧ (w'.cell? ⟨w2.heap.size, 0, none⟩ = some (.int .i64 n) ∧ w'.cell? ⟨w2.heap.size, 1, none⟩ = some (.int .i64 f)) ∧ (w'.cell? ⟨w2.heap.size + 1, 0, none⟩ = some (.int .i64 vo) ∧ w'.cell? ⟨w2.heap.size + 1, 1, none⟩ = some (.int .i64 lo) ∧ w'.cell? ⟨w2.heap.size + 1, 2, none⟩ = some (.int .i64 v) ∧ w'.cell? ⟨w2.heap.size + 1, 3, none⟩ = some (.string s) ∧ w'.cell? ⟨w2.heap.size + 1, 4, none⟩ = some (.slice aO xs.length cO) ∧ w'.cell? ⟨w2.heap.size + 1, 5, none⟩ = some (.string d)) ∧ (w'.cell? ⟨w2.heap.size + 1 + 1, 0, none⟩ = some (.int .i64 v1) ∧ w'.cell? ⟨w2.heap.size + 1 + 1, 1, none⟩ = some (.string s1) ∧ w'.cell? ⟨w2.heap.size + 1 + 1, 2, none⟩ = some (.slice aP x1.length cP)) ∧ (w'.cell? ⟨w4.heap.size, 0, none⟩ = some (.int .i64 v2) ∧ w'.cell? ⟨w4.heap.size, 1, none⟩ = some (.string s2) ∧ w'.cell? ⟨w4.heap.size, 2, none⟩ = some (.slice aA x2.length cA))) (by kernel_rfl) (unhide K _ (Below.drew (Below.refl _ _))) (fun hHeld => ?_)
      obtain ⟨wd, hd⟩ : ∃ wd, wq5.drew = wd := ⟨_, rfl⟩
      have bd : Below wq5.heap.size wq5 wd := hd ▸ Below.drew (Below.refl _ _)
      have szd := bd.size
      rw [hd] at hHeld ⊢
      clear hd
      refine tk 0 31 (v := ?_) rfl (hy := .inl ⟨by rfl, ?_⟩) (h := ?_); rotate_left
      · intro w hSw; (try dsimp only at hSw); go_simp; (try with_reducible rfl)
      simp only [Act.put, List.setIfInBounds_toArray, List.set_cons_zero, List.set_cons_succ]
      refine tk 1 32 (v := ?_) rfl (hy := .inl ⟨by rfl, ?_⟩) (h := ?_); rotate_left
      · intro w hSw; (try dsimp only at hSw); go_simp; (try with_reducible rfl)
      simp only [Act.put, List.setIfInBounds_toArray, List.set_cons_zero, List.set_cons_succ]
      refine tk 2 33 (v := ?_) rfl (hy := .inl ⟨by rfl, ?_⟩) (h := ?_); rotate_left
      · intro w hSw; (try dsimp only at hSw); go_simp; (try with_reducible rfl)
      simp only [Act.put, List.setIfInBounds_toArray, List.set_cons_zero, List.set_cons_succ]
      refine tk 3 34 (v := ?_) rfl (hy := .inl ⟨by rfl, ?_⟩) (h := ?_); rotate_left
      · intro w hSw; (try dsimp only at hSw); go_simp; (try with_reducible rfl)
      simp only [Act.put, List.setIfInBounds_toArray, List.set_cons_zero, List.set_cons_succ]
      refine tk 5 36 (v := ?_) rfl (hy := .inl ⟨by rfl, ?_⟩) (h := ?_); rotate_left
      · intro w hSw; (try dsimp only at hSw); go_simp; (try with_reducible rfl)
      simp only [Act.put, List.setIfInBounds_toArray, List.set_cons_zero, List.set_cons_succ]
      refine wpAnyH_ready (rs := [4, 7]) (by kernel_rfl) (by simp) (AllReadyH.cons rfl (fun KK hKK => ?_) (AllReadyH.cons rfl (fun KK hKK => ?_) AllReadyH.nil))
      · go_simp
        have hgo := bd
        refine (unhide J1 _ _ _ ((unhide O).below hgo (Nat.le_refl _)) ((unhide PA).below hgo (Nat.le_refl _)) (unhide HE _ (Bwq5.trans (hgo.mono Bwq5.size)))).mono ?_
        rintro e wc6_1 ⟨vv1, rfl, oq1, bnew⟩
        have bc6_2 : Below wq5.heap.size wq5 wc6_1 := bd.trans (bnew.mono bd.size)
        have zzwc6_1 := bnew.size
        obtain ⟨aq, kq, rfl⟩ := oq1.form
        clear hHeld bnew hgo
        refine hKK.out _ _ (unhide K _ bc6_2) (fun hHeld => ?_)
        clear hKK KK
        refine wpAnyH_ready (rs := [6, 7]) (by kernel_rfl) (by simp) (AllReadyH.cons rfl (fun KK hKK => ?_) (AllReadyH.cons rfl (fun KK hKK => ?_) AllReadyH.nil))
        · go_simp
          have hgo := bc6_2
          refine (unhide J2 _ _ _ (oq1.ri (by omega)) ((unhide P).below hgo (Nat.le_refl _)) (unhide HE _ (Bwq5.trans (hgo.mono Bwq5.size)))).mono ?_
          rintro e wc6_3 ⟨vv2, rfl, oq2, bnew⟩
          have bc6_4 : Below wq5.heap.size wq5 wc6_3 := bc6_2.trans (bnew.mono bc6_2.size)
          have zzwc6_3 := bnew.size
          replace oq1 := oq1.below bnew
          have tl := World.ownsRow.lt oq2
          obtain ⟨aa, kk, rfl⟩ := oq2.form
          clear hHeld bnew hgo
          refine hKK.out _ _ (unhide K _ bc6_4) (fun hHeld => ?_)
          clear hKK KK
          refine ready_at (i := 7) rfl (by kernel_rfl) (fun KK hKK => ?_)
          go_simp
          obtain ⟨wl6_5, hwl6_5⟩ : ∃ x, wc6_3.alloc (.cells #[.int .i64 0, .int .i64 0, .int .i64 0, .string ⟨#[]⟩, .slice none 0 0, .string ⟨#[]⟩] 60) = x := ⟨_, rfl⟩
          have cbl6_6 : Below wc6_3.heap.size wc6_3 wl6_5 := hwl6_5 ▸ qalloc _ _
          have bl6_6 : Below wq5.heap.size wq5 wl6_5 := bc6_4.trans (cbl6_6.mono bc6_4.size)
          have zzwl6_5 : wl6_5.heap.size = wc6_3.heap.size + 1 := by rw [← hwl6_5]; simp
          have lg : Loc wl6_5 wc6_3.heap.size #[.int .i64 0, .int .i64 0, .int .i64 0, .string ⟨#[]⟩, .slice none 0 0, .string ⟨#[]⟩] := hwl6_5 ▸ loc_at wc6_3 _ _ rfl
          replace oq1 := oq1.below cbl6_6
          replace oq2 := oq2.below cbl6_6
          rw [hwl6_5]
          clear hHeld hwl6_5 cbl6_6
          refine hKK.out _ _ (unhide K _ bl6_6) (fun hHeld => ?_)
          clear hKK KK
          have q0 := lg.cell 0 rfl
          have q1 := lg.cell 1 rfl
          have q2 := lg.cell 2 rfl
          have q3 := lg.cell 3 rfl
          have q4 := lg.cell 4 rfl
          have q5 := lg.cell 5 rfl
          have FG := lg.frozen
          refine ready_at (i := 8) rfl (by kernel_rfl) (fun KK hKK => ?_)
          go_simp
          have bs : Below wq5.heap.size wq5 ((((((wl6_5.setCell ⟨wc6_3.heap.size, 0, none⟩ (.int .i64 vo)).setCell ⟨wc6_3.heap.size, 1, none⟩ (.int .i64 Le)).setCell ⟨wc6_3.heap.size, 2, none⟩ (.int .i64 Ve)).setCell ⟨wc6_3.heap.size, 3, none⟩ (.string Te)).setCell ⟨wc6_3.heap.size, 4, none⟩ (.slice aa (Xe).length kk)).setCell ⟨wc6_3.heap.size, 5, none⟩ (.string De)) := (Below.set (Below.set (Below.set (Below.set (Below.set (Below.set bl6_6 _ _ (by omega)) _ _ (by omega)) _ _ (by omega)) _ _ (by omega)) _ _ (by omega)) _ _ (by omega))
          clear hHeld
          refine hKK.out _ _ (unhide K _ bs) (fun hHeld => ?_)
          clear hKK KK
          clear hHeld
          refine wpAnyH_done (by kernel_rfl) ?_ _
          refine NoPanic.normal ?_
          go_wp2_with fail
          go_meet
          have k3 : Kp wl6_5 ((((((wl6_5.setCell ⟨wc6_3.heap.size, 0, none⟩ (.int .i64 vo)).setCell ⟨wc6_3.heap.size, 1, none⟩ (.int .i64 Le)).setCell ⟨wc6_3.heap.size, 2, none⟩ (.int .i64 Ve)).setCell ⟨wc6_3.heap.size, 3, none⟩ (.string Te)).setCell ⟨wc6_3.heap.size, 4, none⟩ (.slice aa (Xe).length kk)).setCell ⟨wc6_3.heap.size, 5, none⟩ (.string De)) (fun k => k = wc6_3.heap.size) := (((((set_kp _ _ _ _).trans (set_kp _ _ _ _)).trans (set_kp _ _ _ _)).trans (set_kp _ _ _ _)).trans (set_kp _ _ _ _)).trans (set_kp _ _ _ _)
          have ll := lg.lt
          exact ⟨_, _, rfl, by omega, by simpa using ll, ((((((lg.set 0 _ rfl).set 1 _ rfl).set 2 _ rfl).set 3 _ rfl).set 4 _ rfl).set 5 _ rfl), (oq2.kp k3 (fun j hj e => by have := tl j hj; omega)).mono (by omega), fun j hj => by have := tl j hj; simp; omega, bs⟩
        · go_simp
          obtain ⟨wl6_7, hwl6_7⟩ : ∃ x, wc6_1.alloc (.cells #[.int .i64 0, .int .i64 0, .int .i64 0, .string ⟨#[]⟩, .slice none 0 0, .string ⟨#[]⟩] 60) = x := ⟨_, rfl⟩
          have cbl6_8 : Below wc6_1.heap.size wc6_1 wl6_7 := hwl6_7 ▸ qalloc _ _
          have bl6_8 : Below wq5.heap.size wq5 wl6_7 := bc6_2.trans (cbl6_8.mono bc6_2.size)
          have zzwl6_7 : wl6_7.heap.size = wc6_1.heap.size + 1 := by rw [← hwl6_7]; simp
          have lg : Loc wl6_7 wc6_1.heap.size #[.int .i64 0, .int .i64 0, .int .i64 0, .string ⟨#[]⟩, .slice none 0 0, .string ⟨#[]⟩] := hwl6_7 ▸ loc_at wc6_1 _ _ rfl
          replace oq1 := oq1.below cbl6_8
          rw [hwl6_7]
          clear hHeld hwl6_7 cbl6_8
          refine hKK.out _ _ (unhide K _ bl6_8) (fun hHeld => ?_)
          clear hKK KK
          refine ready_at (i := 6) rfl (by kernel_rfl) (fun KK hKK => ?_)
          go_simp
          have hgo := bl6_8
          refine (unhide J2 _ _ _ (oq1.ri (by omega)) ((unhide P).below hgo (Nat.le_refl _)) (unhide HE _ (Bwq5.trans (hgo.mono Bwq5.size)))).mono ?_
          rintro e wc6_9 ⟨vv2, rfl, oq2, bnew⟩
          have bc6_10 : Below wq5.heap.size wq5 wc6_9 := bl6_8.trans (bnew.mono bl6_8.size)
          have zzwc6_9 := bnew.size
          replace oq1 := oq1.below bnew
          replace lg := lg.below bnew lg.lt
          have tl := World.ownsRow.lt oq2
          obtain ⟨aa, kk, rfl⟩ := oq2.form
          clear hHeld bnew hgo
          refine hKK.out _ _ (unhide K _ bc6_10) (fun hHeld => ?_)
          clear hKK KK
          have q0 := lg.cell 0 rfl
          have q1 := lg.cell 1 rfl
          have q2 := lg.cell 2 rfl
          have q3 := lg.cell 3 rfl
          have q4 := lg.cell 4 rfl
          have q5 := lg.cell 5 rfl
          have FG := lg.frozen
          refine ready_at (i := 8) rfl (by kernel_rfl) (fun KK hKK => ?_)
          go_simp
          have bs : Below wq5.heap.size wq5 ((((((wc6_9.setCell ⟨wc6_1.heap.size, 0, none⟩ (.int .i64 vo)).setCell ⟨wc6_1.heap.size, 1, none⟩ (.int .i64 Le)).setCell ⟨wc6_1.heap.size, 2, none⟩ (.int .i64 Ve)).setCell ⟨wc6_1.heap.size, 3, none⟩ (.string Te)).setCell ⟨wc6_1.heap.size, 4, none⟩ (.slice aa (Xe).length kk)).setCell ⟨wc6_1.heap.size, 5, none⟩ (.string De)) := (Below.set (Below.set (Below.set (Below.set (Below.set (Below.set bc6_10 _ _ (by omega)) _ _ (by omega)) _ _ (by omega)) _ _ (by omega)) _ _ (by omega)) _ _ (by omega))
          clear hHeld
          refine hKK.out _ _ (unhide K _ bs) (fun hHeld => ?_)
          clear hKK KK
          clear hHeld
          refine wpAnyH_done (by kernel_rfl) ?_ _
          refine NoPanic.normal ?_
          go_wp2_with fail
          go_meet
          have k3 : Kp wc6_9 ((((((wc6_9.setCell ⟨wc6_1.heap.size, 0, none⟩ (.int .i64 vo)).setCell ⟨wc6_1.heap.size, 1, none⟩ (.int .i64 Le)).setCell ⟨wc6_1.heap.size, 2, none⟩ (.int .i64 Ve)).setCell ⟨wc6_1.heap.size, 3, none⟩ (.string Te)).setCell ⟨wc6_1.heap.size, 4, none⟩ (.slice aa (Xe).length kk)).setCell ⟨wc6_1.heap.size, 5, none⟩ (.string De)) (fun k => k = wc6_1.heap.size) := (((((set_kp _ _ _ _).trans (set_kp _ _ _ _)).trans (set_kp _ _ _ _)).trans (set_kp _ _ _ _)).trans (set_kp _ _ _ _)).trans (set_kp _ _ _ _)
          have ll := lg.lt
          exact ⟨_, _, rfl, by omega, by simpa using ll, ((((((lg.set 0 _ rfl).set 1 _ rfl).set 2 _ rfl).set 3 _ rfl).set 4 _ rfl).set 5 _ rfl), (oq2.kp k3 (fun j hj e => by have := tl j hj; omega)).mono (by omega), fun j hj => by have := tl j hj; simp; omega, bs⟩
      · go_simp
        obtain ⟨wl6_11, hwl6_11⟩ : ∃ x, wd.alloc (.cells #[.int .i64 0, .int .i64 0, .int .i64 0, .string ⟨#[]⟩, .slice none 0 0, .string ⟨#[]⟩] 60) = x := ⟨_, rfl⟩
        have cbl6_12 : Below wd.heap.size wd wl6_11 := hwl6_11 ▸ qalloc _ _
        have bl6_12 : Below wq5.heap.size wq5 wl6_11 := bd.trans (cbl6_12.mono bd.size)
        have zzwl6_11 : wl6_11.heap.size = wd.heap.size + 1 := by rw [← hwl6_11]; simp
        have lg : Loc wl6_11 wd.heap.size #[.int .i64 0, .int .i64 0, .int .i64 0, .string ⟨#[]⟩, .slice none 0 0, .string ⟨#[]⟩] := hwl6_11 ▸ loc_at wd _ _ rfl
        rw [hwl6_11]
        clear hHeld hwl6_11 cbl6_12
        refine hKK.out _ _ (unhide K _ bl6_12) (fun hHeld => ?_)
        clear hKK KK
        refine ready_at (i := 4) rfl (by kernel_rfl) (fun KK hKK => ?_)
        go_simp
        have hgo := bl6_12
        refine (unhide J1 _ _ _ ((unhide O).below hgo (Nat.le_refl _)) ((unhide PA).below hgo (Nat.le_refl _)) (unhide HE _ (Bwq5.trans (hgo.mono Bwq5.size)))).mono ?_
        rintro e wc6_13 ⟨vv1, rfl, oq1, bnew⟩
        have bc6_14 : Below wq5.heap.size wq5 wc6_13 := bl6_12.trans (bnew.mono bl6_12.size)
        have zzwc6_13 := bnew.size
        replace lg := lg.below bnew lg.lt
        obtain ⟨aq, kq, rfl⟩ := oq1.form
        clear hHeld bnew hgo
        refine hKK.out _ _ (unhide K _ bc6_14) (fun hHeld => ?_)
        clear hKK KK
        refine ready_at (i := 6) rfl (by kernel_rfl) (fun KK hKK => ?_)
        go_simp
        have hgo := bc6_14
        refine (unhide J2 _ _ _ (oq1.ri (by omega)) ((unhide P).below hgo (Nat.le_refl _)) (unhide HE _ (Bwq5.trans (hgo.mono Bwq5.size)))).mono ?_
        rintro e wc6_15 ⟨vv2, rfl, oq2, bnew⟩
        have bc6_16 : Below wq5.heap.size wq5 wc6_15 := bc6_14.trans (bnew.mono bc6_14.size)
        have zzwc6_15 := bnew.size
        replace oq1 := oq1.below bnew
        replace lg := lg.below bnew lg.lt
        have tl := World.ownsRow.lt oq2
        obtain ⟨aa, kk, rfl⟩ := oq2.form
        clear hHeld bnew hgo
        refine hKK.out _ _ (unhide K _ bc6_16) (fun hHeld => ?_)
        clear hKK KK
        have q0 := lg.cell 0 rfl
        have q1 := lg.cell 1 rfl
        have q2 := lg.cell 2 rfl
        have q3 := lg.cell 3 rfl
        have q4 := lg.cell 4 rfl
        have q5 := lg.cell 5 rfl
        have FG := lg.frozen
        refine ready_at (i := 8) rfl (by kernel_rfl) (fun KK hKK => ?_)
        go_simp
        have bs : Below wq5.heap.size wq5 ((((((wc6_15.setCell ⟨wd.heap.size, 0, none⟩ (.int .i64 vo)).setCell ⟨wd.heap.size, 1, none⟩ (.int .i64 Le)).setCell ⟨wd.heap.size, 2, none⟩ (.int .i64 Ve)).setCell ⟨wd.heap.size, 3, none⟩ (.string Te)).setCell ⟨wd.heap.size, 4, none⟩ (.slice aa (Xe).length kk)).setCell ⟨wd.heap.size, 5, none⟩ (.string De)) := (Below.set (Below.set (Below.set (Below.set (Below.set (Below.set bc6_16 _ _ (by omega)) _ _ (by omega)) _ _ (by omega)) _ _ (by omega)) _ _ (by omega)) _ _ (by omega))
        clear hHeld
        refine hKK.out _ _ (unhide K _ bs) (fun hHeld => ?_)
        clear hKK KK
        clear hHeld
        refine wpAnyH_done (by kernel_rfl) ?_ _
        refine NoPanic.normal ?_
        go_wp2_with fail
        go_meet
        have k3 : Kp wc6_15 ((((((wc6_15.setCell ⟨wd.heap.size, 0, none⟩ (.int .i64 vo)).setCell ⟨wd.heap.size, 1, none⟩ (.int .i64 Le)).setCell ⟨wd.heap.size, 2, none⟩ (.int .i64 Ve)).setCell ⟨wd.heap.size, 3, none⟩ (.string Te)).setCell ⟨wd.heap.size, 4, none⟩ (.slice aa (Xe).length kk)).setCell ⟨wd.heap.size, 5, none⟩ (.string De)) (fun k => k = wd.heap.size) := (((((set_kp _ _ _ _).trans (set_kp _ _ _ _)).trans (set_kp _ _ _ _)).trans (set_kp _ _ _ _)).trans (set_kp _ _ _ _)).trans (set_kp _ _ _ _)
        have ll := lg.lt
        exact ⟨_, _, rfl, by omega, by simpa using ll, ((((((lg.set 0 _ rfl).set 1 _ rfl).set 2 _ rfl).set 3 _ rfl).set 4 _ rfl).set 5 _ rfl), (oq2.kp k3 (fun j hj e => by have := tl j hj; omega)).mono (by omega), fun j hj => by have := tl j hj; simp; omega, bs⟩
    case rest =>
      clear K
      obtain ⟨wq6, hwq⟩ : ∃ x, x = wc := ⟨_, rfl⟩
      subst hwq
      obtain ⟨hY, vY, rfl, gY, eY, Y, oY, toY, bb⟩ := hcut
      obtain ⟨aoY, koY, rfl⟩ := oY.form
      have Bwq6 := Bwq5.trans (bb.mono Bwq5.size)
      have swq6 := bb.size
      replace LC := LC.below bb LC.lt
      replace LS := LS.below bb LS.lt
      replace LQ := LQ.below bb LQ.lt
      replace LA := LA.below bb LA.lt
      replace X := X.below bb X.lt
      replace oX := oX.below bb
      clear Bwq5
      replace O := hide ((unhide O).below bb (Nat.le_refl _))
      replace P := hide ((unhide P).below bb (Nat.le_refl _))
      replace PA := hide ((unhide PA).below bb (Nat.le_refl _))
      clear bb
      clear J1 J2
      have K : Hid (∀ w', Below wq6.heap.size wq6 w' → (fun w' => Below wq6.heap.size wq6 w' ∧ (w'.cell? ⟨w2.heap.size, 0, none⟩ = some (.int .i64 n) ∧ w'.cell? ⟨w2.heap.size, 1, none⟩ = some (.int .i64 f)) ∧ (w'.cell? ⟨w2.heap.size + 1, 0, none⟩ = some (.int .i64 vo) ∧ w'.cell? ⟨w2.heap.size + 1, 1, none⟩ = some (.int .i64 lo) ∧ w'.cell? ⟨w2.heap.size + 1, 2, none⟩ = some (.int .i64 v) ∧ w'.cell? ⟨w2.heap.size + 1, 3, none⟩ = some (.string s) ∧ w'.cell? ⟨w2.heap.size + 1, 4, none⟩ = some (.slice aO xs.length cO) ∧ w'.cell? ⟨w2.heap.size + 1, 5, none⟩ = some (.string d)) ∧ (w'.cell? ⟨w2.heap.size + 1 + 1, 0, none⟩ = some (.int .i64 v1) ∧ w'.cell? ⟨w2.heap.size + 1 + 1, 1, none⟩ = some (.string s1) ∧ w'.cell? ⟨w2.heap.size + 1 + 1, 2, none⟩ = some (.slice aP x1.length cP)) ∧ (w'.cell? ⟨w4.heap.size, 0, none⟩ = some (.int .i64 v2) ∧ w'.cell? ⟨w4.heap.size, 1, none⟩ = some (.string s2) ∧ w'.cell? ⟨w4.heap.size, 2, none⟩ = some (.slice aA x2.length cA))) w') := hide fun w' hb' => ⟨hb', ⟨(LC.below hb' LC.lt).cell 0 rfl, (LC.below hb' LC.lt).cell 1 rfl⟩, ⟨(LS.below hb' LS.lt).cell 0 rfl, (LS.below hb' LS.lt).cell 1 rfl, (LS.below hb' LS.lt).cell 2 rfl, (LS.below hb' LS.lt).cell 3 rfl, (LS.below hb' LS.lt).cell 4 rfl, (LS.below hb' LS.lt).cell 5 rfl⟩, ⟨(LQ.below hb' LQ.lt).cell 0 rfl, (LQ.below hb' LQ.lt).cell 1 rfl, (LQ.below hb' LQ.lt).cell 2 rfl⟩, ⟨(LA.below hb' LA.lt).cell 0 rfl, (LA.below hb' LA.lt).cell 1 rfl, (LA.below hb' LA.lt).cell 2 rfl⟩⟩
      go_upto_region 7 with fail
      go_cut [10] (fun c  wx => ∃ h uu, c = .pointer (some ⟨h, 0, none⟩) ∧ wq6.heap.size ≤ h ∧ h < wx.heap.size ∧ Loc wx h #[.int .i64 vo, .int .i64 Le, .int .i64 Ve, .string Te, uu, .string De] ∧ OI wx wq6.heap.size uu Xe ∧ (∀ j, uu.ownBlock = some j → wq6.heap.size ≤ j ∧ j < wx.heap.size ∧ j ≠ h) ∧ Below wq6.heap.size wq6 wx)
      case first =>
        refine wp_region_noPanic ?_
        refine wp_region_held_drew (S := fun w' => Below wq6.heap.size wq6 w' ∧ (w'.cell? ⟨w2.heap.size, 0, none⟩ = some (.int .i64 n) ∧ w'.cell? ⟨w2.heap.size, 1, none⟩ = some (.int .i64 f)) ∧ (w'.cell? ⟨w2.heap.size + 1, 0, none⟩ = some (.int .i64 vo) ∧ w'.cell? ⟨w2.heap.size + 1, 1, none⟩ = some (.int .i64 lo) ∧ w'.cell? ⟨w2.heap.size + 1, 2, none⟩ = some (.int .i64 v) ∧ w'.cell? ⟨w2.heap.size + 1, 3, none⟩ = some (.string s) ∧ w'.cell? ⟨w2.heap.size + 1, 4, none⟩ = some (.slice aO xs.length cO) ∧ w'.cell? ⟨w2.heap.size + 1, 5, none⟩ = some (.string d)) ∧ (w'.cell? ⟨w2.heap.size + 1 + 1, 0, none⟩ = some (.int .i64 v1) ∧ w'.cell? ⟨w2.heap.size + 1 + 1, 1, none⟩ = some (.string s1) ∧ w'.cell? ⟨w2.heap.size + 1 + 1, 2, none⟩ = some (.slice aP x1.length cP)) ∧ (w'.cell? ⟨w4.heap.size, 0, none⟩ = some (.int .i64 v2) ∧ w'.cell? ⟨w4.heap.size, 1, none⟩ = some (.string s2) ∧ w'.cell? ⟨w4.heap.size, 2, none⟩ = some (.slice aA x2.length cA))) (by kernel_rfl) (unhide K _ (Below.drew (Below.refl _ _))) (fun hHeld => ?_)
        obtain ⟨wd, hd⟩ : ∃ wd, wq6.drew = wd := ⟨_, rfl⟩
        have bd : Below wq6.heap.size wq6 wd := hd ▸ Below.drew (Below.refl _ _)
        have szd := bd.size
        rw [hd] at hHeld ⊢
        clear hd
        refine tk 0 38 (v := ?_) rfl (hy := .inl ⟨by rfl, ?_⟩) (h := ?_); rotate_left
        · intro w hSw; (try dsimp only at hSw); go_simp; (try with_reducible rfl)
        simp only [Act.put, List.setIfInBounds_toArray, List.set_cons_zero, List.set_cons_succ]
        refine tk 1 39 (v := ?_) rfl (hy := .inl ⟨by rfl, ?_⟩) (h := ?_); rotate_left
        · intro w hSw; (try dsimp only at hSw); go_simp; (try with_reducible rfl)
        simp only [Act.put, List.setIfInBounds_toArray, List.set_cons_zero, List.set_cons_succ]
        refine tk 2 40 (v := ?_) rfl (hy := .inl ⟨by rfl, ?_⟩) (h := ?_); rotate_left
        · intro w hSw; (try dsimp only at hSw); go_simp; (try with_reducible rfl)
        simp only [Act.put, List.setIfInBounds_toArray, List.set_cons_zero, List.set_cons_succ]
        refine tk 3 41 (v := ?_) rfl (hy := .inl ⟨by rfl, ?_⟩) (h := ?_); rotate_left
        · intro w hSw; (try dsimp only at hSw); go_simp; (try with_reducible rfl)
        simp only [Act.put, List.setIfInBounds_toArray, List.set_cons_zero, List.set_cons_succ]
        refine tk 5 43 (v := ?_) rfl (hy := .inl ⟨by rfl, ?_⟩) (h := ?_); rotate_left
        · intro w hSw; (try dsimp only at hSw); go_simp; (try with_reducible rfl)
        simp only [Act.put, List.setIfInBounds_toArray, List.set_cons_zero, List.set_cons_succ]
        refine wpAnyH_ready (rs := [4, 7]) (by kernel_rfl) (by simp) (AllReadyH.cons rfl (fun KK hKK => ?_) (AllReadyH.cons rfl (fun KK hKK => ?_) AllReadyH.nil))
        · go_simp
          have hgo := bd
          refine (unhide S1 _ _ _ ((unhide O).below hgo (Nat.le_refl _)) ((unhide PA).below hgo (Nat.le_refl _))).mono ?_
          rintro e wc7_1 ⟨vv1, rfl, oq1, bnew⟩
          have bc7_2 : Below wq6.heap.size wq6 wc7_1 := bd.trans (bnew.mono bd.size)
          have zzwc7_1 := bnew.size
          obtain ⟨aq, kq, rfl⟩ := oq1.form
          clear hHeld bnew hgo
          refine hKK.out _ _ (unhide K _ bc7_2) (fun hHeld => ?_)
          clear hKK KK
          refine wpAnyH_ready (rs := [6, 7]) (by kernel_rfl) (by simp) (AllReadyH.cons rfl (fun KK hKK => ?_) (AllReadyH.cons rfl (fun KK hKK => ?_) AllReadyH.nil))
          · go_simp
            have hgo := bc7_2
            refine (unhide S2 _ _ _ (oq1.ri (by omega)) ((unhide P).below hgo (Nat.le_refl _))).mono ?_
            rintro e wc7_3 ⟨vv2, rfl, oq2, bnew⟩
            have bc7_4 : Below wq6.heap.size wq6 wc7_3 := bc7_2.trans (bnew.mono bc7_2.size)
            have zzwc7_3 := bnew.size
            replace oq1 := oq1.below bnew
            have tl := World.ownsRow.lt oq2
            obtain ⟨aa, kk, rfl⟩ := oq2.form
            clear hHeld bnew hgo
            refine hKK.out _ _ (unhide K _ bc7_4) (fun hHeld => ?_)
            clear hKK KK
            refine ready_at (i := 7) rfl (by kernel_rfl) (fun KK hKK => ?_)
            go_simp
            obtain ⟨wl7_5, hwl7_5⟩ : ∃ x, wc7_3.alloc (.cells #[.int .i64 0, .int .i64 0, .int .i64 0, .string ⟨#[]⟩, .slice none 0 0, .string ⟨#[]⟩] 60) = x := ⟨_, rfl⟩
            have cbl7_6 : Below wc7_3.heap.size wc7_3 wl7_5 := hwl7_5 ▸ qalloc _ _
            have bl7_6 : Below wq6.heap.size wq6 wl7_5 := bc7_4.trans (cbl7_6.mono bc7_4.size)
            have zzwl7_5 : wl7_5.heap.size = wc7_3.heap.size + 1 := by rw [← hwl7_5]; simp
            have lg : Loc wl7_5 wc7_3.heap.size #[.int .i64 0, .int .i64 0, .int .i64 0, .string ⟨#[]⟩, .slice none 0 0, .string ⟨#[]⟩] := hwl7_5 ▸ loc_at wc7_3 _ _ rfl
            replace oq1 := oq1.below cbl7_6
            replace oq2 := oq2.below cbl7_6
            rw [hwl7_5]
            clear hHeld hwl7_5 cbl7_6
            refine hKK.out _ _ (unhide K _ bl7_6) (fun hHeld => ?_)
            clear hKK KK
            have q0 := lg.cell 0 rfl
            have q1 := lg.cell 1 rfl
            have q2 := lg.cell 2 rfl
            have q3 := lg.cell 3 rfl
            have q4 := lg.cell 4 rfl
            have q5 := lg.cell 5 rfl
            have FG := lg.frozen
            refine ready_at (i := 8) rfl (by kernel_rfl) (fun KK hKK => ?_)
            go_simp
            have bs : Below wq6.heap.size wq6 ((((((wl7_5.setCell ⟨wc7_3.heap.size, 0, none⟩ (.int .i64 vo)).setCell ⟨wc7_3.heap.size, 1, none⟩ (.int .i64 Le)).setCell ⟨wc7_3.heap.size, 2, none⟩ (.int .i64 Ve)).setCell ⟨wc7_3.heap.size, 3, none⟩ (.string Te)).setCell ⟨wc7_3.heap.size, 4, none⟩ (.slice aa (Xe).length kk)).setCell ⟨wc7_3.heap.size, 5, none⟩ (.string De)) := (Below.set (Below.set (Below.set (Below.set (Below.set (Below.set bl7_6 _ _ (by omega)) _ _ (by omega)) _ _ (by omega)) _ _ (by omega)) _ _ (by omega)) _ _ (by omega))
            clear hHeld
            refine hKK.out _ _ (unhide K _ bs) (fun hHeld => ?_)
            clear hKK KK
            clear hHeld
            refine wpAnyH_done (by kernel_rfl) ?_ _
            refine NoPanic.normal ?_
            go_wp2_with fail
            go_meet
            have k3 : Kp wl7_5 ((((((wl7_5.setCell ⟨wc7_3.heap.size, 0, none⟩ (.int .i64 vo)).setCell ⟨wc7_3.heap.size, 1, none⟩ (.int .i64 Le)).setCell ⟨wc7_3.heap.size, 2, none⟩ (.int .i64 Ve)).setCell ⟨wc7_3.heap.size, 3, none⟩ (.string Te)).setCell ⟨wc7_3.heap.size, 4, none⟩ (.slice aa (Xe).length kk)).setCell ⟨wc7_3.heap.size, 5, none⟩ (.string De)) (fun k => k = wc7_3.heap.size) := (((((set_kp _ _ _ _).trans (set_kp _ _ _ _)).trans (set_kp _ _ _ _)).trans (set_kp _ _ _ _)).trans (set_kp _ _ _ _)).trans (set_kp _ _ _ _)
            have ll := lg.lt
            exact ⟨_, _, rfl, by omega, by simpa using ll, ((((((lg.set 0 _ rfl).set 1 _ rfl).set 2 _ rfl).set 3 _ rfl).set 4 _ rfl).set 5 _ rfl), (oq2.kp k3 (fun j hj e => by have := tl j hj; omega)).mono (by omega), fun j hj => by have := tl j hj; simp; omega, bs⟩
          · go_simp
            obtain ⟨wl7_7, hwl7_7⟩ : ∃ x, wc7_1.alloc (.cells #[.int .i64 0, .int .i64 0, .int .i64 0, .string ⟨#[]⟩, .slice none 0 0, .string ⟨#[]⟩] 60) = x := ⟨_, rfl⟩
            have cbl7_8 : Below wc7_1.heap.size wc7_1 wl7_7 := hwl7_7 ▸ qalloc _ _
            have bl7_8 : Below wq6.heap.size wq6 wl7_7 := bc7_2.trans (cbl7_8.mono bc7_2.size)
            have zzwl7_7 : wl7_7.heap.size = wc7_1.heap.size + 1 := by rw [← hwl7_7]; simp
            have lg : Loc wl7_7 wc7_1.heap.size #[.int .i64 0, .int .i64 0, .int .i64 0, .string ⟨#[]⟩, .slice none 0 0, .string ⟨#[]⟩] := hwl7_7 ▸ loc_at wc7_1 _ _ rfl
            replace oq1 := oq1.below cbl7_8
            rw [hwl7_7]
            clear hHeld hwl7_7 cbl7_8
            refine hKK.out _ _ (unhide K _ bl7_8) (fun hHeld => ?_)
            clear hKK KK
            refine ready_at (i := 6) rfl (by kernel_rfl) (fun KK hKK => ?_)
            go_simp
            have hgo := bl7_8
            refine (unhide S2 _ _ _ (oq1.ri (by omega)) ((unhide P).below hgo (Nat.le_refl _))).mono ?_
            rintro e wc7_9 ⟨vv2, rfl, oq2, bnew⟩
            have bc7_10 : Below wq6.heap.size wq6 wc7_9 := bl7_8.trans (bnew.mono bl7_8.size)
            have zzwc7_9 := bnew.size
            replace oq1 := oq1.below bnew
            replace lg := lg.below bnew lg.lt
            have tl := World.ownsRow.lt oq2
            obtain ⟨aa, kk, rfl⟩ := oq2.form
            clear hHeld bnew hgo
            refine hKK.out _ _ (unhide K _ bc7_10) (fun hHeld => ?_)
            clear hKK KK
            have q0 := lg.cell 0 rfl
            have q1 := lg.cell 1 rfl
            have q2 := lg.cell 2 rfl
            have q3 := lg.cell 3 rfl
            have q4 := lg.cell 4 rfl
            have q5 := lg.cell 5 rfl
            have FG := lg.frozen
            refine ready_at (i := 8) rfl (by kernel_rfl) (fun KK hKK => ?_)
            go_simp
            have bs : Below wq6.heap.size wq6 ((((((wc7_9.setCell ⟨wc7_1.heap.size, 0, none⟩ (.int .i64 vo)).setCell ⟨wc7_1.heap.size, 1, none⟩ (.int .i64 Le)).setCell ⟨wc7_1.heap.size, 2, none⟩ (.int .i64 Ve)).setCell ⟨wc7_1.heap.size, 3, none⟩ (.string Te)).setCell ⟨wc7_1.heap.size, 4, none⟩ (.slice aa (Xe).length kk)).setCell ⟨wc7_1.heap.size, 5, none⟩ (.string De)) := (Below.set (Below.set (Below.set (Below.set (Below.set (Below.set bc7_10 _ _ (by omega)) _ _ (by omega)) _ _ (by omega)) _ _ (by omega)) _ _ (by omega)) _ _ (by omega))
            clear hHeld
            refine hKK.out _ _ (unhide K _ bs) (fun hHeld => ?_)
            clear hKK KK
            clear hHeld
            refine wpAnyH_done (by kernel_rfl) ?_ _
            refine NoPanic.normal ?_
            go_wp2_with fail
            go_meet
            have k3 : Kp wc7_9 ((((((wc7_9.setCell ⟨wc7_1.heap.size, 0, none⟩ (.int .i64 vo)).setCell ⟨wc7_1.heap.size, 1, none⟩ (.int .i64 Le)).setCell ⟨wc7_1.heap.size, 2, none⟩ (.int .i64 Ve)).setCell ⟨wc7_1.heap.size, 3, none⟩ (.string Te)).setCell ⟨wc7_1.heap.size, 4, none⟩ (.slice aa (Xe).length kk)).setCell ⟨wc7_1.heap.size, 5, none⟩ (.string De)) (fun k => k = wc7_1.heap.size) := (((((set_kp _ _ _ _).trans (set_kp _ _ _ _)).trans (set_kp _ _ _ _)).trans (set_kp _ _ _ _)).trans (set_kp _ _ _ _)).trans (set_kp _ _ _ _)
            have ll := lg.lt
            exact ⟨_, _, rfl, by omega, by simpa using ll, ((((((lg.set 0 _ rfl).set 1 _ rfl).set 2 _ rfl).set 3 _ rfl).set 4 _ rfl).set 5 _ rfl), (oq2.kp k3 (fun j hj e => by have := tl j hj; omega)).mono (by omega), fun j hj => by have := tl j hj; simp; omega, bs⟩
        · go_simp
          obtain ⟨wl7_11, hwl7_11⟩ : ∃ x, wd.alloc (.cells #[.int .i64 0, .int .i64 0, .int .i64 0, .string ⟨#[]⟩, .slice none 0 0, .string ⟨#[]⟩] 60) = x := ⟨_, rfl⟩
          have cbl7_12 : Below wd.heap.size wd wl7_11 := hwl7_11 ▸ qalloc _ _
          have bl7_12 : Below wq6.heap.size wq6 wl7_11 := bd.trans (cbl7_12.mono bd.size)
          have zzwl7_11 : wl7_11.heap.size = wd.heap.size + 1 := by rw [← hwl7_11]; simp
          have lg : Loc wl7_11 wd.heap.size #[.int .i64 0, .int .i64 0, .int .i64 0, .string ⟨#[]⟩, .slice none 0 0, .string ⟨#[]⟩] := hwl7_11 ▸ loc_at wd _ _ rfl
          rw [hwl7_11]
          clear hHeld hwl7_11 cbl7_12
          refine hKK.out _ _ (unhide K _ bl7_12) (fun hHeld => ?_)
          clear hKK KK
          refine ready_at (i := 4) rfl (by kernel_rfl) (fun KK hKK => ?_)
          go_simp
          have hgo := bl7_12
          refine (unhide S1 _ _ _ ((unhide O).below hgo (Nat.le_refl _)) ((unhide PA).below hgo (Nat.le_refl _))).mono ?_
          rintro e wc7_13 ⟨vv1, rfl, oq1, bnew⟩
          have bc7_14 : Below wq6.heap.size wq6 wc7_13 := bl7_12.trans (bnew.mono bl7_12.size)
          have zzwc7_13 := bnew.size
          replace lg := lg.below bnew lg.lt
          obtain ⟨aq, kq, rfl⟩ := oq1.form
          clear hHeld bnew hgo
          refine hKK.out _ _ (unhide K _ bc7_14) (fun hHeld => ?_)
          clear hKK KK
          refine ready_at (i := 6) rfl (by kernel_rfl) (fun KK hKK => ?_)
          go_simp
          have hgo := bc7_14
          refine (unhide S2 _ _ _ (oq1.ri (by omega)) ((unhide P).below hgo (Nat.le_refl _))).mono ?_
          rintro e wc7_15 ⟨vv2, rfl, oq2, bnew⟩
          have bc7_16 : Below wq6.heap.size wq6 wc7_15 := bc7_14.trans (bnew.mono bc7_14.size)
          have zzwc7_15 := bnew.size
          replace oq1 := oq1.below bnew
          replace lg := lg.below bnew lg.lt
          have tl := World.ownsRow.lt oq2
          obtain ⟨aa, kk, rfl⟩ := oq2.form
          clear hHeld bnew hgo
          refine hKK.out _ _ (unhide K _ bc7_16) (fun hHeld => ?_)
          clear hKK KK
          have q0 := lg.cell 0 rfl
          have q1 := lg.cell 1 rfl
          have q2 := lg.cell 2 rfl
          have q3 := lg.cell 3 rfl
          have q4 := lg.cell 4 rfl
          have q5 := lg.cell 5 rfl
          have FG := lg.frozen
          refine ready_at (i := 8) rfl (by kernel_rfl) (fun KK hKK => ?_)
          go_simp
          have bs : Below wq6.heap.size wq6 ((((((wc7_15.setCell ⟨wd.heap.size, 0, none⟩ (.int .i64 vo)).setCell ⟨wd.heap.size, 1, none⟩ (.int .i64 Le)).setCell ⟨wd.heap.size, 2, none⟩ (.int .i64 Ve)).setCell ⟨wd.heap.size, 3, none⟩ (.string Te)).setCell ⟨wd.heap.size, 4, none⟩ (.slice aa (Xe).length kk)).setCell ⟨wd.heap.size, 5, none⟩ (.string De)) := (Below.set (Below.set (Below.set (Below.set (Below.set (Below.set bc7_16 _ _ (by omega)) _ _ (by omega)) _ _ (by omega)) _ _ (by omega)) _ _ (by omega)) _ _ (by omega))
          clear hHeld
          refine hKK.out _ _ (unhide K _ bs) (fun hHeld => ?_)
          clear hKK KK
          clear hHeld
          refine wpAnyH_done (by kernel_rfl) ?_ _
          refine NoPanic.normal ?_
          go_wp2_with fail
          go_meet
          have k3 : Kp wc7_15 ((((((wc7_15.setCell ⟨wd.heap.size, 0, none⟩ (.int .i64 vo)).setCell ⟨wd.heap.size, 1, none⟩ (.int .i64 Le)).setCell ⟨wd.heap.size, 2, none⟩ (.int .i64 Ve)).setCell ⟨wd.heap.size, 3, none⟩ (.string Te)).setCell ⟨wd.heap.size, 4, none⟩ (.slice aa (Xe).length kk)).setCell ⟨wd.heap.size, 5, none⟩ (.string De)) (fun k => k = wd.heap.size) := (((((set_kp _ _ _ _).trans (set_kp _ _ _ _)).trans (set_kp _ _ _ _)).trans (set_kp _ _ _ _)).trans (set_kp _ _ _ _)).trans (set_kp _ _ _ _)
          have ll := lg.lt
          exact ⟨_, _, rfl, by omega, by simpa using ll, ((((((lg.set 0 _ rfl).set 1 _ rfl).set 2 _ rfl).set 3 _ rfl).set 4 _ rfl).set 5 _ rfl), (oq2.kp k3 (fun j hj e => by have := tl j hj; omega)).mono (by omega), fun j hj => by have := tl j hj; simp; omega, bs⟩
      case rest =>
        clear K
        obtain ⟨wq7, hwq⟩ : ∃ x, x = wc := ⟨_, rfl⟩
        subst hwq
        obtain ⟨hZ, vZ, rfl, gZ, eZ, Z, oZ, toZ, bb⟩ := hcut
        obtain ⟨aoZ, koZ, rfl⟩ := oZ.form
        have Bwq7 := Bwq6.trans (bb.mono Bwq6.size)
        have swq7 := bb.size
        replace LC := LC.below bb LC.lt
        replace LS := LS.below bb LS.lt
        replace LQ := LQ.below bb LQ.lt
        replace LA := LA.below bb LA.lt
        replace X := X.below bb X.lt
        replace Y := Y.below bb Y.lt
        replace oX := oX.below bb
        replace oY := oY.below bb
        clear Bwq6
        replace O := hide ((unhide O).below bb (Nat.le_refl _))
        replace P := hide ((unhide P).below bb (Nat.le_refl _))
        replace PA := hide ((unhide PA).below bb (Nat.le_refl _))
        clear bb
        clear S1 S2
        have SS : Hid (∀ a k a' k' w', RI w' (.slice a Xe.length k) Xe → RI w' (.slice a' Xe.length k') Xe → Calls Tryz.prog 50 #[sv vo Le Ve Te (.slice a Xe.length k) De, sv vo Le Ve Te (.slice a' Xe.length k') De] w' fun e w'' => e = .returned (.bool true) ∧ Below w'.heap.size w' w'') := hide fun a k a' k' w' h h' => by have := implSafeSame vo Le Ve Te a k Xe De vo Le Ve Te a' k' Xe De w' h h'; rwa [ssam_me] at this
        have cY0 := Y.cell 0 rfl
        have cY1 := Y.cell 1 rfl
        have cY2 := Y.cell 2 rfl
        have cY3 := Y.cell 3 rfl
        have cY4 := Y.cell 4 rfl
        have cY5 := Y.cell 5 rfl
        have cZ0 := Z.cell 0 rfl
        have cZ1 := Z.cell 1 rfl
        have cZ2 := Z.cell 2 rfl
        have cZ3 := Z.cell 3 rfl
        have cZ4 := Z.cell 4 rfl
        have cZ5 := Z.cell 5 rfl
        go_wp2_with fail
        refine (unhide SS _ _ _ _ _ (oY.ri (by omega)) (oZ.ri (by omega))).mono ?_
        rintro _ w6 ⟨rfl, bb⟩
        clear cY0 cY1 cY2 cY3 cY4 cY5 cZ0 cZ1 cZ2 cZ3 cZ4 cZ5
        have Bw6 := Bwq7.trans (bb.mono Bwq7.size)
        have sw6 := bb.size
        replace LC := LC.below bb LC.lt
        replace LS := LS.below bb LS.lt
        replace LQ := LQ.below bb LQ.lt
        replace LA := LA.below bb LA.lt
        replace X := X.below bb X.lt
        replace Y := Y.below bb Y.lt
        replace Z := Z.below bb Z.lt
        replace oX := oX.below bb
        replace oY := oY.below bb
        replace oZ := oZ.below bb
        clear Bwq7
        replace O := hide ((unhide O).below bb (Nat.le_refl _))
        replace P := hide ((unhide P).below bb (Nat.le_refl _))
        replace PA := hide ((unhide PA).below bb (Nat.le_refl _))
        clear bb
        have cX0 := X.cell 0 rfl
        have cX1 := X.cell 1 rfl
        have cX2 := X.cell 2 rfl
        have cX3 := X.cell 3 rfl
        have cX4 := X.cell 4 rfl
        have cX5 := X.cell 5 rfl
        have cY0 := Y.cell 0 rfl
        have cY1 := Y.cell 1 rfl
        have cY2 := Y.cell 2 rfl
        have cY3 := Y.cell 3 rfl
        have cY4 := Y.cell 4 rfl
        have cY5 := Y.cell 5 rfl
        go_wp2
        go_ret
        exact ⟨by simp, Bw6⟩

set_option maxHeartbeats 16000000 in
set_option maxRecDepth 100000 in
theorem fnEither_long (ao : Option Addr) (n ca : Nat) (w : World) (h : 1048576 < n) (hm : n ≤ maxLen) :
    Calls Tryz.prog 6 #[.slice ao n ca] w fun e w' => e = .returned (.bool true) ∧ Below w.heap.size w w' := by
  have BG := hide fun w => big_any ao n ca w (by unfold maxLen at hm; omega)
  rw [decide_eq_true h] at BG
  go_enter Tryz.func6, Tryz.ntmps6
  go_wp2_with fail
  refine (unhide BG _).mono ?_
  rintro _ w1 ⟨rfl, b1⟩
  go_wp2
  go_ret
  exact ⟨rfl, b1⟩
theorem fnEither_walk (ao : Option Addr) (ca : Nat) (zs : List Int) (w : World) (hm : zs.length ≤ maxLen) (hx : zs = [] ∨ ∃ b off, ao = some ⟨b, off, none⟩ ∧ ∀ k, k < zs.length → w.cell? ⟨b, off + k, none⟩ = some (.int .u8 (zs.getD k 0))) (hb : ∀ k, k < zs.length → 0 ≤ zs.getD k 0 ∧ zs.getD k 0 ≤ 255) (hE : Env w) :
    Calls Tryz.prog 6 #[.slice ao zs.length ca] w fun e w' => e = .returned (.bool true) ∧ Below w.heap.size w w' := by
  by_cases h : zs.length ≤ 1048576
  · exact fnEither_short ao ca zs w ⟨h, hx, hb⟩ hE
  · exact fnEither_long ao zs.length ca w (by omega) hm
end Go.Proofs.YtgfboghieejbkaaGreatDoor
