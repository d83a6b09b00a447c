/- The walk of laws.FnExactSee. -/
import Derived.Test.YtgfboghieejbkaaGreatDoorVBF
import Derived.Test.YtgfboghieejbkaaGreatDoorVAO
namespace Go.Proofs.YtgfboghieejbkaaGreatDoor
open Go.RowKit
set_option linter.unusedSectionVars false
variable [∀ (a b c d : Int), Decidable (Ok4 a b c d)]
variable [∀ (a b c d : Nat), Decidable (okN a b c d)]
variable [∀ (last : Int) (s : St), Decidable (GoodSt last s)]
variable [∀ (x : T4), Decidable (OkT x)]
variable [∀ (n : Int) (s : List Int), Decidable (OkL n s)]
variable [∀ (n f : Int), Decidable (COk n f)]

set_option maxHeartbeats 32000000 in
set_option maxRecDepth 100000 in
theorem fnSee_short (n f : Int) (vo lo v : Int) (s : ByteArray) (ao : Option Addr) (ca : Nat) (xs : List Int) (d : ByteArray) (v' : Int) (s' : ByteArray) (bo : Option Addr) (cb : Nat) (ys : List Int) (w : World) (hz : s.size + xs.length + d.size + s'.size + ys.length ≤ 1048576) (hE : Env w) (ha : RI w (.slice ao xs.length ca) xs) (hb : RI w (.slice bo ys.length cb) ys) :
    Calls Tryz.prog 10 #[cv n f, sv vo lo v s (.slice ao xs.length ca) d, qv v' s' (.slice bo ys.length cb)] w fun e w' => e = .returned (.bool true) ∧ Below w.heap.size w w' := by
  have HA := hide ha
  have HE := hide hE
  have HB := hide hb
  have ZA := hide fun w => szSafe_yes vo lo v s ao xs.length ca d 1048576 w (by omega) (by omega)
  have TC := hide fun w => toConf_any n f w
  have TA := hide fun w h => toSafe_any vo lo v s (.slice ao xs.length ca) xs d w h
  have d1 : decide ((1048576 : Int) - (s.size : Int) - (xs.length : Int) - (d.size : Int) < 0) = false := by simp; omega
  have ZB := hide fun w => szQc_yes v' s' bo ys.length cb (1048576 - s.size - xs.length - d.size) w (by omega) (by omega)
  have TB := hide fun w h => toQc_any v' s' (.slice bo ys.length cb) ys w h
  have d2 : decide ((1048576 : Int) - (s.size : Int) - (xs.length : Int) - (d.size : Int) - (s'.size : Int) - (ys.length : Int) < 0) = false := by simp; omega
  have SP := hide fun a k a' k' w h h' => specSee n f vo lo v s a k xs d v' s' a' k' ys w (by omega) (by omega) (by omega) h h'
  have IM := hide fun a k a' k' w e h h' => implSee n f vo lo v s a k xs d v' s' a' k' ys w (by omega) (by omega) (by omega) e h h'
  have hx1 : (seeX (goB n f vo lo v s xs d v' s' ys) v v' xs ys).length ≤ 1048576 := by unfold seeX; split <;> (try split) <;> omega
  generalize seeL (goB n f vo lo v s xs d v' s' ys) lo s' = l1 at *
  generalize seeV (goB n f vo lo v s xs d v' s' ys) v v' = n1 at *
  generalize seeS (goB n f vo lo v s xs d v' s' ys) v v' s s' = s1 at *
  generalize seeX (goB n f vo lo v s xs d v' s' ys) v v' xs ys = x1 at *
  generalize seeD (goB n f vo lo v s xs d v' s' ys) d s' = e1 at *
  have MX : Hid (∀ base u w, OI w base u xs → Calls Tryz.prog 74 #[sv vo lo v s u d, .int .i64 1] w fun e w' => e = .returned (.int .i64 (1 + (xs.length : Int))) ∧ OI w' base u (imarks 1 xs.length) ∧ Kp w w' (fun k => u.ownBlock = some k)) := hide fun base u w h => markSafe_any vo lo v s base u d xs 1 w (by omega) (by omega) h
  have MB : Hid (∀ base u w, OI w base u ys → Calls Tryz.prog 75 #[qv v' s' u, .int .i64 (1 + (xs.length : Int))] w fun e w' => e = .returned (.int .i64 (1 + (xs.length : Int) + (ys.length : Int))) ∧ OI w' base u (imarks (1 + xs.length) ys.length) ∧ Kp w w' (fun k => u.ownBlock = some k)) := hide fun base u w h => by have := markQc_any v' s' base u ys (1 + xs.length) w (by omega) (by omega) h; simpa using this
  have MG : Hid (∀ base u w, OI w base u x1 → Calls Tryz.prog 74 #[sv vo l1 n1 s1 u e1, .int .i64 1] w fun e w' => e = .returned (.int .i64 (1 + (x1.length : Int))) ∧ OI w' base u (imarks 1 x1.length) ∧ Kp w w' (fun k => u.ownBlock = some k)) := hide fun base u w h => markSafe_any vo l1 n1 s1 base u e1 x1 1 w (by omega) (by omega) h
  have HD := hide fun u w h => heldSafe_any vo l1 n1 s1 u e1 x1.length w h
  have d3 : decide ((1 : Int) + (x1.length : Int) < 0) = false := by simp; omega
  have d4 : decide ((1 : Int) + (xs.length : Int) + (ys.length : Int) < 0) = false := by simp; omega
  clear ha hE hb
  obtain ⟨w0, hw0⟩ : ∃ w0, (((w.alloc (.cells #[.int .i64 n, .int .i64 f] 88)).alloc (.cells #[.int .i64 vo, .int .i64 lo, .int .i64 v, .string s, .slice ao xs.length ca, .string d] 91)).alloc (.cells #[.int .i64 v', .string s', .slice bo ys.length cb] 89)) = w0 := ⟨_, rfl⟩
  have Bw0 : Below w.heap.size w w0 := hw0 ▸ (((Below.refl _ _).alloc (Nat.le_refl _) _).alloc (by simp) _).alloc (by simp; omega) _
  have LC : Loc w0 (w.heap.size) #[.int .i64 n, .int .i64 f] := hw0 ▸ ((loc_at (w) _ _ rfl).alloc _).alloc _
  have LA : Loc w0 (w.heap.size + 1) #[.int .i64 vo, .int .i64 lo, .int .i64 v, .string s, .slice ao xs.length ca, .string d] := hw0 ▸ (loc_at (w.alloc _) _ _ (by simp)).alloc _
  have LB : Loc w0 (w.heap.size + 1 + 1) #[.int .i64 v', .string s', .slice bo ys.length cb] := hw0 ▸ loc_at ((w.alloc _).alloc _) _ _ (by simp)
  have zw0 : w.heap.size + 1 + 1 + 1 ≤ w0.heap.size := by rw [← hw0]; simp
  go_enter Tryz.func10, Tryz.ntmps10
  have cLA0 := LA.cell 0 rfl
  have cLA1 := LA.cell 1 rfl
  have cLA2 := LA.cell 2 rfl
  have cLA3 := LA.cell 3 rfl
  have cLA4 := LA.cell 4 rfl
  have cLA5 := LA.cell 5 rfl
  go_wp2_with fail
  clear hw0
  refine (unhide ZA _).mono ?_
  rintro _ w1 ⟨rfl, bb⟩
  clear cLA0 cLA1 cLA2 cLA3 cLA4 cLA5
  have Bw1 := Bw0.trans (bb.mono Bw0.size)
  have sw1 := bb.size
  replace LC := LC.below bb LC.lt
  replace LA := LA.below bb LA.lt
  replace LB := LB.below bb LB.lt
  clear Bw0
  clear bb
  clear ZA
  have cLB0 := LB.cell 0 rfl
  have cLB1 := LB.cell 1 rfl
  have cLB2 := LB.cell 2 rfl
  go_wp2_with fail
  refine (unhide ZB _).mono ?_
  rintro _ w2 ⟨rfl, bb⟩
  clear cLB0 cLB1 cLB2
  have Bw2 := Bw1.trans (bb.mono Bw1.size)
  have sw2 := bb.size
  replace LC := LC.below bb LC.lt
  replace LA := LA.below bb LA.lt
  replace LB := LB.below bb LB.lt
  clear Bw1
  clear bb
  clear ZB
  have K : Hid (∀ w', Below w2.heap.size w2 w' → (fun w' => Below w2.heap.size w2 w' ∧ (w'.cell? ⟨w.heap.size, 0, none⟩ = some (.int .i64 n) ∧ w'.cell? ⟨w.heap.size, 1, none⟩ = some (.int .i64 f)) ∧ (w'.cell? ⟨w.heap.size + 1, 0, none⟩ = some (.int .i64 vo) ∧ w'.cell? ⟨w.heap.size + 1, 1, none⟩ = some (.int .i64 lo) ∧ w'.cell? ⟨w.heap.size + 1, 2, none⟩ = some (.int .i64 v) ∧ w'.cell? ⟨w.heap.size + 1, 3, none⟩ = some (.string s) ∧ w'.cell? ⟨w.heap.size + 1, 4, none⟩ = some (.slice ao xs.length ca) ∧ w'.cell? ⟨w.heap.size + 1, 5, none⟩ = some (.string d)) ∧ (w'.cell? ⟨w.heap.size + 1 + 1, 0, none⟩ = some (.int .i64 v') ∧ w'.cell? ⟨w.heap.size + 1 + 1, 1, none⟩ = some (.string s') ∧ w'.cell? ⟨w.heap.size + 1 + 1, 2, none⟩ = some (.slice bo ys.length cb))) w') := hide fun w' hb' => ⟨hb', ⟨(LC.below hb' LC.lt).cell 0 rfl, (LC.below hb' LC.lt).cell 1 rfl⟩, ⟨(LA.below hb' LA.lt).cell 0 rfl, (LA.below hb' LA.lt).cell 1 rfl, (LA.below hb' LA.lt).cell 2 rfl, (LA.below hb' LA.lt).cell 3 rfl, (LA.below hb' LA.lt).cell 4 rfl, (LA.below hb' LA.lt).cell 5 rfl⟩, ⟨(LB.below hb' LB.lt).cell 0 rfl, (LB.below hb' LB.lt).cell 1 rfl, (LB.below hb' LB.lt).cell 2 rfl⟩⟩
  go_upto_region 8 with fail
  go_cut [8] (fun c  wx => ∃ h uu, c = .pointer (some ⟨h, 0, none⟩) ∧ w2.heap.size ≤ h ∧ h < wx.heap.size ∧ Loc wx h #[.int .i64 vo, .int .i64 l1, .int .i64 n1, .string s1, uu, .string e1] ∧ OI wx w2.heap.size uu x1 ∧ (∀ j, uu.ownBlock = some j → w2.heap.size ≤ j ∧ j < wx.heap.size ∧ j ≠ h) ∧ Below w2.heap.size w2 wx)
  case first =>
    refine wp_region_noPanic ?_
    refine wp_region_held_drew (S := fun w' => Below w2.heap.size w2 w' ∧ (w'.cell? ⟨w.heap.size, 0, none⟩ = some (.int .i64 n) ∧ w'.cell? ⟨w.heap.size, 1, none⟩ = some (.int .i64 f)) ∧ (w'.cell? ⟨w.heap.size + 1, 0, none⟩ = some (.int .i64 vo) ∧ w'.cell? ⟨w.heap.size + 1, 1, none⟩ = some (.int .i64 lo) ∧ w'.cell? ⟨w.heap.size + 1, 2, none⟩ = some (.int .i64 v) ∧ w'.cell? ⟨w.heap.size + 1, 3, none⟩ = some (.string s) ∧ w'.cell? ⟨w.heap.size + 1, 4, none⟩ = some (.slice ao xs.length ca) ∧ w'.cell? ⟨w.heap.size + 1, 5, none⟩ = some (.string d)) ∧ (w'.cell? ⟨w.heap.size + 1 + 1, 0, none⟩ = some (.int .i64 v') ∧ w'.cell? ⟨w.heap.size + 1 + 1, 1, none⟩ = some (.string s') ∧ w'.cell? ⟨w.heap.size + 1 + 1, 2, none⟩ = some (.slice bo ys.length cb))) (by kernel_rfl) (unhide K _ (Below.drew (Below.refl _ _))) (fun hHeld => ?_)
    obtain ⟨wd, hd⟩ : ∃ wd, w2.drew = wd := ⟨_, rfl⟩
    have bd : Below w2.heap.size w2 wd := hd ▸ Below.drew (Below.refl _ _)
    have szd := bd.size
    rw [hd] at hHeld ⊢
    clear hd
    refine tk 0 26 (v := ?_) rfl (hy := .inl ⟨by rfl, ?_⟩) (h := ?_); rotate_left
    · intro w hSw; (try dsimp only at hSw); go_simp; (try with_reducible rfl)
    simp only [Act.put, List.setIfInBounds_toArray, List.set_cons_zero, List.set_cons_succ]
    refine tk 2 28 (v := ?_) rfl (hy := .inl ⟨by rfl, ?_⟩) (h := ?_); rotate_left
    · intro w hSw; (try dsimp only at hSw); go_simp; (try with_reducible rfl)
    simp only [Act.put, List.setIfInBounds_toArray, List.set_cons_zero, List.set_cons_succ]
    refine tk 4 30 (v := ?_) rfl (hy := .inl ⟨by rfl, ?_⟩) (h := ?_); rotate_left
    · intro w hSw; (try dsimp only at hSw); go_simp; (try with_reducible rfl)
    simp only [Act.put, List.setIfInBounds_toArray, List.set_cons_zero, List.set_cons_succ]
    refine wpAnyH_ready (rs := [1, 7]) (by kernel_rfl) (by simp) (AllReadyH.cons rfl (fun KK hKK => ?_) (AllReadyH.cons rfl (fun KK hKK => ?_) AllReadyH.nil))
    · go_simp
      have hgo := bd
      refine (unhide TC _).mono ?_
      rintro e wc8_1 ⟨rfl, bnew⟩
      have bc8_2 : Below w2.heap.size w2 wc8_1 := bd.trans (bnew.mono bd.size)
      have zzwc8_1 := bnew.size
      clear hHeld bnew hgo
      refine hKK.out _ _ (unhide K _ bc8_2) (fun hHeld => ?_)
      clear hKK KK
      refine wpAnyH_ready (rs := [3, 7]) (by kernel_rfl) (by simp) (AllReadyH.cons rfl (fun KK hKK => ?_) (AllReadyH.cons rfl (fun KK hKK => ?_) AllReadyH.nil))
      · go_simp
        have hgo := bc8_2
        refine (unhide TA _ ((unhide HA).below (Bw2.trans (hgo.mono Bw2.size)) (Nat.le_refl _))).mono ?_
        rintro e wc8_3 ⟨vv1, rfl, oq1, bnew⟩
        have bc8_4 : Below w2.heap.size w2 wc8_3 := bc8_2.trans (bnew.mono bc8_2.size)
        have zzwc8_3 := bnew.size
        obtain ⟨aq, kq, rfl⟩ := oq1.form
        clear hHeld bnew hgo
        refine hKK.out _ _ (unhide K _ bc8_4) (fun hHeld => ?_)
        clear hKK KK
        refine wpAnyH_ready (rs := [5, 7]) (by kernel_rfl) (by simp) (AllReadyH.cons rfl (fun KK hKK => ?_) (AllReadyH.cons rfl (fun KK hKK => ?_) AllReadyH.nil))
        · go_simp
          have hgo := bc8_4
          refine (unhide TB _ ((unhide HB).below (Bw2.trans (hgo.mono Bw2.size)) (Nat.le_refl _))).mono ?_
          rintro e wc8_5 ⟨vv2, rfl, oq2, bnew⟩
          have bc8_6 : Below w2.heap.size w2 wc8_5 := bc8_4.trans (bnew.mono bc8_4.size)
          have zzwc8_5 := bnew.size
          replace oq1 := oq1.below bnew
          obtain ⟨ar, kr, rfl⟩ := oq2.form
          clear hHeld bnew hgo
          refine hKK.out _ _ (unhide K _ bc8_6) (fun hHeld => ?_)
          clear hKK KK
          refine wpAnyH_ready (rs := [6, 7]) (by kernel_rfl) (by simp) (AllReadyH.cons rfl (fun KK hKK => ?_) (AllReadyH.cons rfl (fun KK hKK => ?_) AllReadyH.nil))
          · go_simp
            have hgo := bc8_6
            refine (unhide SP _ _ _ _ _ (oq1.ri (by omega)) (oq2.ri (by omega))).mono ?_
            rintro e wc8_7 ⟨vv3, rfl, oq3, bnew⟩
            have bc8_8 : Below w2.heap.size w2 wc8_7 := bc8_6.trans (bnew.mono bc8_6.size)
            have zzwc8_7 := bnew.size
            replace oq1 := oq1.below bnew
            replace oq2 := oq2.below bnew
            have tl := World.ownsRow.lt oq3
            obtain ⟨aa, kk, rfl⟩ := oq3.form
            clear hHeld bnew hgo
            refine hKK.out _ _ (unhide K _ bc8_8) (fun hHeld => ?_)
            clear hKK KK
            refine ready_at (i := 7) rfl (by kernel_rfl) (fun KK hKK => ?_)
            go_simp
            obtain ⟨wl8_9, hwl8_9⟩ : ∃ x, wc8_7.alloc (.cells #[.int .i64 0, .int .i64 0, .int .i64 0, .string ⟨#[]⟩, .slice none 0 0, .string ⟨#[]⟩] 60) = x := ⟨_, rfl⟩
            have cbl8_10 : Below wc8_7.heap.size wc8_7 wl8_9 := hwl8_9 ▸ qalloc _ _
            have bl8_10 : Below w2.heap.size w2 wl8_9 := bc8_8.trans (cbl8_10.mono bc8_8.size)
            have zzwl8_9 : wl8_9.heap.size = wc8_7.heap.size + 1 := by rw [← hwl8_9]; simp
            have lg : Loc wl8_9 wc8_7.heap.size #[.int .i64 0, .int .i64 0, .int .i64 0, .string ⟨#[]⟩, .slice none 0 0, .string ⟨#[]⟩] := hwl8_9 ▸ loc_at wc8_7 _ _ rfl
            replace oq1 := oq1.below cbl8_10
            replace oq2 := oq2.below cbl8_10
            replace oq3 := oq3.below cbl8_10
            rw [hwl8_9]
            clear hHeld hwl8_9 cbl8_10
            refine hKK.out _ _ (unhide K _ bl8_10) (fun hHeld => ?_)
            clear hKK KK
            have q0 := lg.cell 0 rfl
            have q1 := lg.cell 1 rfl
            have q2 := lg.cell 2 rfl
            have q3 := lg.cell 3 rfl
            have q4 := lg.cell 4 rfl
            have q5 := lg.cell 5 rfl
            have FG := lg.frozen
            refine ready_at (i := 8) rfl (by kernel_rfl) (fun KK hKK => ?_)
            go_simp
            have bs : Below w2.heap.size w2 ((((((wl8_9.setCell ⟨wc8_7.heap.size, 0, none⟩ (.int .i64 vo)).setCell ⟨wc8_7.heap.size, 1, none⟩ (.int .i64 l1)).setCell ⟨wc8_7.heap.size, 2, none⟩ (.int .i64 n1)).setCell ⟨wc8_7.heap.size, 3, none⟩ (.string s1)).setCell ⟨wc8_7.heap.size, 4, none⟩ (.slice aa (x1).length kk)).setCell ⟨wc8_7.heap.size, 5, none⟩ (.string e1)) := (Below.set (Below.set (Below.set (Below.set (Below.set (Below.set bl8_10 _ _ (by omega)) _ _ (by omega)) _ _ (by omega)) _ _ (by omega)) _ _ (by omega)) _ _ (by omega))
            clear hHeld
            refine hKK.out _ _ (unhide K _ bs) (fun hHeld => ?_)
            clear hKK KK
            clear hHeld
            refine wpAnyH_done (by kernel_rfl) ?_ _
            refine NoPanic.normal ?_
            go_wp2_with fail
            go_meet
            have k3 : Kp wl8_9 ((((((wl8_9.setCell ⟨wc8_7.heap.size, 0, none⟩ (.int .i64 vo)).setCell ⟨wc8_7.heap.size, 1, none⟩ (.int .i64 l1)).setCell ⟨wc8_7.heap.size, 2, none⟩ (.int .i64 n1)).setCell ⟨wc8_7.heap.size, 3, none⟩ (.string s1)).setCell ⟨wc8_7.heap.size, 4, none⟩ (.slice aa (x1).length kk)).setCell ⟨wc8_7.heap.size, 5, none⟩ (.string e1)) (fun k => k = wc8_7.heap.size) := (((((set_kp _ _ _ _).trans (set_kp _ _ _ _)).trans (set_kp _ _ _ _)).trans (set_kp _ _ _ _)).trans (set_kp _ _ _ _)).trans (set_kp _ _ _ _)
            have ll := lg.lt
            exact ⟨_, _, rfl, by omega, by simpa using ll, ((((((lg.set 0 _ rfl).set 1 _ rfl).set 2 _ rfl).set 3 _ rfl).set 4 _ rfl).set 5 _ rfl), (oq3.kp k3 (fun j hj e => by have := tl j hj; omega)).mono (by omega), fun j hj => by have := tl j hj; simp; omega, bs⟩
          · go_simp
            obtain ⟨wl8_11, hwl8_11⟩ : ∃ x, wc8_5.alloc (.cells #[.int .i64 0, .int .i64 0, .int .i64 0, .string ⟨#[]⟩, .slice none 0 0, .string ⟨#[]⟩] 60) = x := ⟨_, rfl⟩
            have cbl8_12 : Below wc8_5.heap.size wc8_5 wl8_11 := hwl8_11 ▸ qalloc _ _
            have bl8_12 : Below w2.heap.size w2 wl8_11 := bc8_6.trans (cbl8_12.mono bc8_6.size)
            have zzwl8_11 : wl8_11.heap.size = wc8_5.heap.size + 1 := by rw [← hwl8_11]; simp
            have lg : Loc wl8_11 wc8_5.heap.size #[.int .i64 0, .int .i64 0, .int .i64 0, .string ⟨#[]⟩, .slice none 0 0, .string ⟨#[]⟩] := hwl8_11 ▸ loc_at wc8_5 _ _ rfl
            replace oq1 := oq1.below cbl8_12
            replace oq2 := oq2.below cbl8_12
            rw [hwl8_11]
            clear hHeld hwl8_11 cbl8_12
            refine hKK.out _ _ (unhide K _ bl8_12) (fun hHeld => ?_)
            clear hKK KK
            refine ready_at (i := 6) rfl (by kernel_rfl) (fun KK hKK => ?_)
            go_simp
            have hgo := bl8_12
            refine (unhide SP _ _ _ _ _ (oq1.ri (by omega)) (oq2.ri (by omega))).mono ?_
            rintro e wc8_13 ⟨vv3, rfl, oq3, bnew⟩
            have bc8_14 : Below w2.heap.size w2 wc8_13 := bl8_12.trans (bnew.mono bl8_12.size)
            have zzwc8_13 := bnew.size
            replace oq1 := oq1.below bnew
            replace oq2 := oq2.below bnew
            replace lg := lg.below bnew lg.lt
            have tl := World.ownsRow.lt oq3
            obtain ⟨aa, kk, rfl⟩ := oq3.form
            clear hHeld bnew hgo
            refine hKK.out _ _ (unhide K _ bc8_14) (fun hHeld => ?_)
            clear hKK KK
            have q0 := lg.cell 0 rfl
            have q1 := lg.cell 1 rfl
            have q2 := lg.cell 2 rfl
            have q3 := lg.cell 3 rfl
            have q4 := lg.cell 4 rfl
            have q5 := lg.cell 5 rfl
            have FG := lg.frozen
            refine ready_at (i := 8) rfl (by kernel_rfl) (fun KK hKK => ?_)
            go_simp
            have bs : Below w2.heap.size w2 ((((((wc8_13.setCell ⟨wc8_5.heap.size, 0, none⟩ (.int .i64 vo)).setCell ⟨wc8_5.heap.size, 1, none⟩ (.int .i64 l1)).setCell ⟨wc8_5.heap.size, 2, none⟩ (.int .i64 n1)).setCell ⟨wc8_5.heap.size, 3, none⟩ (.string s1)).setCell ⟨wc8_5.heap.size, 4, none⟩ (.slice aa (x1).length kk)).setCell ⟨wc8_5.heap.size, 5, none⟩ (.string e1)) := (Below.set (Below.set (Below.set (Below.set (Below.set (Below.set bc8_14 _ _ (by omega)) _ _ (by omega)) _ _ (by omega)) _ _ (by omega)) _ _ (by omega)) _ _ (by omega))
            clear hHeld
            refine hKK.out _ _ (unhide K _ bs) (fun hHeld => ?_)
            clear hKK KK
            clear hHeld
            refine wpAnyH_done (by kernel_rfl) ?_ _
            refine NoPanic.normal ?_
            go_wp2_with fail
            go_meet
            have k3 : Kp wc8_13 ((((((wc8_13.setCell ⟨wc8_5.heap.size, 0, none⟩ (.int .i64 vo)).setCell ⟨wc8_5.heap.size, 1, none⟩ (.int .i64 l1)).setCell ⟨wc8_5.heap.size, 2, none⟩ (.int .i64 n1)).setCell ⟨wc8_5.heap.size, 3, none⟩ (.string s1)).setCell ⟨wc8_5.heap.size, 4, none⟩ (.slice aa (x1).length kk)).setCell ⟨wc8_5.heap.size, 5, none⟩ (.string e1)) (fun k => k = wc8_5.heap.size) := (((((set_kp _ _ _ _).trans (set_kp _ _ _ _)).trans (set_kp _ _ _ _)).trans (set_kp _ _ _ _)).trans (set_kp _ _ _ _)).trans (set_kp _ _ _ _)
            have ll := lg.lt
            exact ⟨_, _, rfl, by omega, by simpa using ll, ((((((lg.set 0 _ rfl).set 1 _ rfl).set 2 _ rfl).set 3 _ rfl).set 4 _ rfl).set 5 _ rfl), (oq3.kp k3 (fun j hj e => by have := tl j hj; omega)).mono (by omega), fun j hj => by have := tl j hj; simp; omega, bs⟩
        · go_simp
          obtain ⟨wl8_15, hwl8_15⟩ : ∃ x, wc8_3.alloc (.cells #[.int .i64 0, .int .i64 0, .int .i64 0, .string ⟨#[]⟩, .slice none 0 0, .string ⟨#[]⟩] 60) = x := ⟨_, rfl⟩
          have cbl8_16 : Below wc8_3.heap.size wc8_3 wl8_15 := hwl8_15 ▸ qalloc _ _
          have bl8_16 : Below w2.heap.size w2 wl8_15 := bc8_4.trans (cbl8_16.mono bc8_4.size)
          have zzwl8_15 : wl8_15.heap.size = wc8_3.heap.size + 1 := by rw [← hwl8_15]; simp
          have lg : Loc wl8_15 wc8_3.heap.size #[.int .i64 0, .int .i64 0, .int .i64 0, .string ⟨#[]⟩, .slice none 0 0, .string ⟨#[]⟩] := hwl8_15 ▸ loc_at wc8_3 _ _ rfl
          replace oq1 := oq1.below cbl8_16
          rw [hwl8_15]
          clear hHeld hwl8_15 cbl8_16
          refine hKK.out _ _ (unhide K _ bl8_16) (fun hHeld => ?_)
          clear hKK KK
          refine ready_at (i := 5) rfl (by kernel_rfl) (fun KK hKK => ?_)
          go_simp
          have hgo := bl8_16
          refine (unhide TB _ ((unhide HB).below (Bw2.trans (hgo.mono Bw2.size)) (Nat.le_refl _))).mono ?_
          rintro e wc8_17 ⟨vv2, rfl, oq2, bnew⟩
          have bc8_18 : Below w2.heap.size w2 wc8_17 := bl8_16.trans (bnew.mono bl8_16.size)
          have zzwc8_17 := bnew.size
          replace oq1 := oq1.below bnew
          replace lg := lg.below bnew lg.lt
          obtain ⟨ar, kr, rfl⟩ := oq2.form
          clear hHeld bnew hgo
          refine hKK.out _ _ (unhide K _ bc8_18) (fun hHeld => ?_)
          clear hKK KK
          refine ready_at (i := 6) rfl (by kernel_rfl) (fun KK hKK => ?_)
          go_simp
          have hgo := bc8_18
          refine (unhide SP _ _ _ _ _ (oq1.ri (by omega)) (oq2.ri (by omega))).mono ?_
          rintro e wc8_19 ⟨vv3, rfl, oq3, bnew⟩
          have bc8_20 : Below w2.heap.size w2 wc8_19 := bc8_18.trans (bnew.mono bc8_18.size)
          have zzwc8_19 := bnew.size
          replace oq1 := oq1.below bnew
          replace oq2 := oq2.below bnew
          replace lg := lg.below bnew lg.lt
          have tl := World.ownsRow.lt oq3
          obtain ⟨aa, kk, rfl⟩ := oq3.form
          clear hHeld bnew hgo
          refine hKK.out _ _ (unhide K _ bc8_20) (fun hHeld => ?_)
          clear hKK KK
          have q0 := lg.cell 0 rfl
          have q1 := lg.cell 1 rfl
          have q2 := lg.cell 2 rfl
          have q3 := lg.cell 3 rfl
          have q4 := lg.cell 4 rfl
          have q5 := lg.cell 5 rfl
          have FG := lg.frozen
          refine ready_at (i := 8) rfl (by kernel_rfl) (fun KK hKK => ?_)
          go_simp
          have bs : Below w2.heap.size w2 ((((((wc8_19.setCell ⟨wc8_3.heap.size, 0, none⟩ (.int .i64 vo)).setCell ⟨wc8_3.heap.size, 1, none⟩ (.int .i64 l1)).setCell ⟨wc8_3.heap.size, 2, none⟩ (.int .i64 n1)).setCell ⟨wc8_3.heap.size, 3, none⟩ (.string s1)).setCell ⟨wc8_3.heap.size, 4, none⟩ (.slice aa (x1).length kk)).setCell ⟨wc8_3.heap.size, 5, none⟩ (.string e1)) := (Below.set (Below.set (Below.set (Below.set (Below.set (Below.set bc8_20 _ _ (by omega)) _ _ (by omega)) _ _ (by omega)) _ _ (by omega)) _ _ (by omega)) _ _ (by omega))
          clear hHeld
          refine hKK.out _ _ (unhide K _ bs) (fun hHeld => ?_)
          clear hKK KK
          clear hHeld
          refine wpAnyH_done (by kernel_rfl) ?_ _
          refine NoPanic.normal ?_
          go_wp2_with fail
          go_meet
          have k3 : Kp wc8_19 ((((((wc8_19.setCell ⟨wc8_3.heap.size, 0, none⟩ (.int .i64 vo)).setCell ⟨wc8_3.heap.size, 1, none⟩ (.int .i64 l1)).setCell ⟨wc8_3.heap.size, 2, none⟩ (.int .i64 n1)).setCell ⟨wc8_3.heap.size, 3, none⟩ (.string s1)).setCell ⟨wc8_3.heap.size, 4, none⟩ (.slice aa (x1).length kk)).setCell ⟨wc8_3.heap.size, 5, none⟩ (.string e1)) (fun k => k = wc8_3.heap.size) := (((((set_kp _ _ _ _).trans (set_kp _ _ _ _)).trans (set_kp _ _ _ _)).trans (set_kp _ _ _ _)).trans (set_kp _ _ _ _)).trans (set_kp _ _ _ _)
          have ll := lg.lt
          exact ⟨_, _, rfl, by omega, by simpa using ll, ((((((lg.set 0 _ rfl).set 1 _ rfl).set 2 _ rfl).set 3 _ rfl).set 4 _ rfl).set 5 _ rfl), (oq3.kp k3 (fun j hj e => by have := tl j hj; omega)).mono (by omega), fun j hj => by have := tl j hj; simp; omega, bs⟩
      · go_simp
        obtain ⟨wl8_21, hwl8_21⟩ : ∃ x, wc8_1.alloc (.cells #[.int .i64 0, .int .i64 0, .int .i64 0, .string ⟨#[]⟩, .slice none 0 0, .string ⟨#[]⟩] 60) = x := ⟨_, rfl⟩
        have cbl8_22 : Below wc8_1.heap.size wc8_1 wl8_21 := hwl8_21 ▸ qalloc _ _
        have bl8_22 : Below w2.heap.size w2 wl8_21 := bc8_2.trans (cbl8_22.mono bc8_2.size)
        have zzwl8_21 : wl8_21.heap.size = wc8_1.heap.size + 1 := by rw [← hwl8_21]; simp
        have lg : Loc wl8_21 wc8_1.heap.size #[.int .i64 0, .int .i64 0, .int .i64 0, .string ⟨#[]⟩, .slice none 0 0, .string ⟨#[]⟩] := hwl8_21 ▸ loc_at wc8_1 _ _ rfl
        rw [hwl8_21]
        clear hHeld hwl8_21 cbl8_22
        refine hKK.out _ _ (unhide K _ bl8_22) (fun hHeld => ?_)
        clear hKK KK
        refine ready_at (i := 3) rfl (by kernel_rfl) (fun KK hKK => ?_)
        go_simp
        have hgo := bl8_22
        refine (unhide TA _ ((unhide HA).below (Bw2.trans (hgo.mono Bw2.size)) (Nat.le_refl _))).mono ?_
        rintro e wc8_23 ⟨vv1, rfl, oq1, bnew⟩
        have bc8_24 : Below w2.heap.size w2 wc8_23 := bl8_22.trans (bnew.mono bl8_22.size)
        have zzwc8_23 := bnew.size
        replace lg := lg.below bnew lg.lt
        obtain ⟨aq, kq, rfl⟩ := oq1.form
        clear hHeld bnew hgo
        refine hKK.out _ _ (unhide K _ bc8_24) (fun hHeld => ?_)
        clear hKK KK
        refine ready_at (i := 5) rfl (by kernel_rfl) (fun KK hKK => ?_)
        go_simp
        have hgo := bc8_24
        refine (unhide TB _ ((unhide HB).below (Bw2.trans (hgo.mono Bw2.size)) (Nat.le_refl _))).mono ?_
        rintro e wc8_25 ⟨vv2, rfl, oq2, bnew⟩
        have bc8_26 : Below w2.heap.size w2 wc8_25 := bc8_24.trans (bnew.mono bc8_24.size)
        have zzwc8_25 := bnew.size
        replace oq1 := oq1.below bnew
        replace lg := lg.below bnew lg.lt
        obtain ⟨ar, kr, rfl⟩ := oq2.form
        clear hHeld bnew hgo
        refine hKK.out _ _ (unhide K _ bc8_26) (fun hHeld => ?_)
        clear hKK KK
        refine ready_at (i := 6) rfl (by kernel_rfl) (fun KK hKK => ?_)
        go_simp
        have hgo := bc8_26
        refine (unhide SP _ _ _ _ _ (oq1.ri (by omega)) (oq2.ri (by omega))).mono ?_
        rintro e wc8_27 ⟨vv3, rfl, oq3, bnew⟩
        have bc8_28 : Below w2.heap.size w2 wc8_27 := bc8_26.trans (bnew.mono bc8_26.size)
        have zzwc8_27 := bnew.size
        replace oq1 := oq1.below bnew
        replace oq2 := oq2.below bnew
        replace lg := lg.below bnew lg.lt
        have tl := World.ownsRow.lt oq3
        obtain ⟨aa, kk, rfl⟩ := oq3.form
        clear hHeld bnew hgo
        refine hKK.out _ _ (unhide K _ bc8_28) (fun hHeld => ?_)
        clear hKK KK
        have q0 := lg.cell 0 rfl
        have q1 := lg.cell 1 rfl
        have q2 := lg.cell 2 rfl
        have q3 := lg.cell 3 rfl
        have q4 := lg.cell 4 rfl
        have q5 := lg.cell 5 rfl
        have FG := lg.frozen
        refine ready_at (i := 8) rfl (by kernel_rfl) (fun KK hKK => ?_)
        go_simp
        have bs : Below w2.heap.size w2 ((((((wc8_27.setCell ⟨wc8_1.heap.size, 0, none⟩ (.int .i64 vo)).setCell ⟨wc8_1.heap.size, 1, none⟩ (.int .i64 l1)).setCell ⟨wc8_1.heap.size, 2, none⟩ (.int .i64 n1)).setCell ⟨wc8_1.heap.size, 3, none⟩ (.string s1)).setCell ⟨wc8_1.heap.size, 4, none⟩ (.slice aa (x1).length kk)).setCell ⟨wc8_1.heap.size, 5, none⟩ (.string e1)) := (Below.set (Below.set (Below.set (Below.set (Below.set (Below.set bc8_28 _ _ (by omega)) _ _ (by omega)) _ _ (by omega)) _ _ (by omega)) _ _ (by omega)) _ _ (by omega))
        clear hHeld
        refine hKK.out _ _ (unhide K _ bs) (fun hHeld => ?_)
        clear hKK KK
        clear hHeld
        refine wpAnyH_done (by kernel_rfl) ?_ _
        refine NoPanic.normal ?_
        go_wp2_with fail
        go_meet
        have k3 : Kp wc8_27 ((((((wc8_27.setCell ⟨wc8_1.heap.size, 0, none⟩ (.int .i64 vo)).setCell ⟨wc8_1.heap.size, 1, none⟩ (.int .i64 l1)).setCell ⟨wc8_1.heap.size, 2, none⟩ (.int .i64 n1)).setCell ⟨wc8_1.heap.size, 3, none⟩ (.string s1)).setCell ⟨wc8_1.heap.size, 4, none⟩ (.slice aa (x1).length kk)).setCell ⟨wc8_1.heap.size, 5, none⟩ (.string e1)) (fun k => k = wc8_1.heap.size) := (((((set_kp _ _ _ _).trans (set_kp _ _ _ _)).trans (set_kp _ _ _ _)).trans (set_kp _ _ _ _)).trans (set_kp _ _ _ _)).trans (set_kp _ _ _ _)
        have ll := lg.lt
        exact ⟨_, _, rfl, by omega, by simpa using ll, ((((((lg.set 0 _ rfl).set 1 _ rfl).set 2 _ rfl).set 3 _ rfl).set 4 _ rfl).set 5 _ rfl), (oq3.kp k3 (fun j hj e => by have := tl j hj; omega)).mono (by omega), fun j hj => by have := tl j hj; simp; omega, bs⟩
    · go_simp
      obtain ⟨wl8_29, hwl8_29⟩ : ∃ x, wd.alloc (.cells #[.int .i64 0, .int .i64 0, .int .i64 0, .string ⟨#[]⟩, .slice none 0 0, .string ⟨#[]⟩] 60) = x := ⟨_, rfl⟩
      have cbl8_30 : Below wd.heap.size wd wl8_29 := hwl8_29 ▸ qalloc _ _
      have bl8_30 : Below w2.heap.size w2 wl8_29 := bd.trans (cbl8_30.mono bd.size)
      have zzwl8_29 : wl8_29.heap.size = wd.heap.size + 1 := by rw [← hwl8_29]; simp
      have lg : Loc wl8_29 wd.heap.size #[.int .i64 0, .int .i64 0, .int .i64 0, .string ⟨#[]⟩, .slice none 0 0, .string ⟨#[]⟩] := hwl8_29 ▸ loc_at wd _ _ rfl
      rw [hwl8_29]
      clear hHeld hwl8_29 cbl8_30
      refine hKK.out _ _ (unhide K _ bl8_30) (fun hHeld => ?_)
      clear hKK KK
      refine ready_at (i := 1) rfl (by kernel_rfl) (fun KK hKK => ?_)
      go_simp
      have hgo := bl8_30
      refine (unhide TC _).mono ?_
      rintro e wc8_31 ⟨rfl, bnew⟩
      have bc8_32 : Below w2.heap.size w2 wc8_31 := bl8_30.trans (bnew.mono bl8_30.size)
      have zzwc8_31 := bnew.size
      replace lg := lg.below bnew lg.lt
      clear hHeld bnew hgo
      refine hKK.out _ _ (unhide K _ bc8_32) (fun hHeld => ?_)
      clear hKK KK
      refine ready_at (i := 3) rfl (by kernel_rfl) (fun KK hKK => ?_)
      go_simp
      have hgo := bc8_32
      refine (unhide TA _ ((unhide HA).below (Bw2.trans (hgo.mono Bw2.size)) (Nat.le_refl _))).mono ?_
      rintro e wc8_33 ⟨vv1, rfl, oq1, bnew⟩
      have bc8_34 : Below w2.heap.size w2 wc8_33 := bc8_32.trans (bnew.mono bc8_32.size)
      have zzwc8_33 := bnew.size
      replace lg := lg.below bnew lg.lt
      obtain ⟨aq, kq, rfl⟩ := oq1.form
      clear hHeld bnew hgo
      refine hKK.out _ _ (unhide K _ bc8_34) (fun hHeld => ?_)
      clear hKK KK
      refine ready_at (i := 5) rfl (by kernel_rfl) (fun KK hKK => ?_)
      go_simp
      have hgo := bc8_34
      refine (unhide TB _ ((unhide HB).below (Bw2.trans (hgo.mono Bw2.size)) (Nat.le_refl _))).mono ?_
      rintro e wc8_35 ⟨vv2, rfl, oq2, bnew⟩
      have bc8_36 : Below w2.heap.size w2 wc8_35 := bc8_34.trans (bnew.mono bc8_34.size)
      have zzwc8_35 := bnew.size
      replace oq1 := oq1.below bnew
      replace lg := lg.below bnew lg.lt
      obtain ⟨ar, kr, rfl⟩ := oq2.form
      clear hHeld bnew hgo
      refine hKK.out _ _ (unhide K _ bc8_36) (fun hHeld => ?_)
      clear hKK KK
      refine ready_at (i := 6) rfl (by kernel_rfl) (fun KK hKK => ?_)
      go_simp
      have hgo := bc8_36
      refine (unhide SP _ _ _ _ _ (oq1.ri (by omega)) (oq2.ri (by omega))).mono ?_
      rintro e wc8_37 ⟨vv3, rfl, oq3, bnew⟩
      have bc8_38 : Below w2.heap.size w2 wc8_37 := bc8_36.trans (bnew.mono bc8_36.size)
      have zzwc8_37 := bnew.size
      replace oq1 := oq1.below bnew
      replace oq2 := oq2.below bnew
      replace lg := lg.below bnew lg.lt
      have tl := World.ownsRow.lt oq3
      obtain ⟨aa, kk, rfl⟩ := oq3.form
      clear hHeld bnew hgo
      refine hKK.out _ _ (unhide K _ bc8_38) (fun hHeld => ?_)
      clear hKK KK
      have q0 := lg.cell 0 rfl
      have q1 := lg.cell 1 rfl
      have q2 := lg.cell 2 rfl
      have q3 := lg.cell 3 rfl
      have q4 := lg.cell 4 rfl
      have q5 := lg.cell 5 rfl
      have FG := lg.frozen
      refine ready_at (i := 8) rfl (by kernel_rfl) (fun KK hKK => ?_)
      go_simp
      have bs : Below w2.heap.size w2 ((((((wc8_37.setCell ⟨wd.heap.size, 0, none⟩ (.int .i64 vo)).setCell ⟨wd.heap.size, 1, none⟩ (.int .i64 l1)).setCell ⟨wd.heap.size, 2, none⟩ (.int .i64 n1)).setCell ⟨wd.heap.size, 3, none⟩ (.string s1)).setCell ⟨wd.heap.size, 4, none⟩ (.slice aa (x1).length kk)).setCell ⟨wd.heap.size, 5, none⟩ (.string e1)) := (Below.set (Below.set (Below.set (Below.set (Below.set (Below.set bc8_38 _ _ (by omega)) _ _ (by omega)) _ _ (by omega)) _ _ (by omega)) _ _ (by omega)) _ _ (by omega))
      clear hHeld
      refine hKK.out _ _ (unhide K _ bs) (fun hHeld => ?_)
      clear hKK KK
      clear hHeld
      refine wpAnyH_done (by kernel_rfl) ?_ _
      refine NoPanic.normal ?_
      go_wp2_with fail
      go_meet
      have k3 : Kp wc8_37 ((((((wc8_37.setCell ⟨wd.heap.size, 0, none⟩ (.int .i64 vo)).setCell ⟨wd.heap.size, 1, none⟩ (.int .i64 l1)).setCell ⟨wd.heap.size, 2, none⟩ (.int .i64 n1)).setCell ⟨wd.heap.size, 3, none⟩ (.string s1)).setCell ⟨wd.heap.size, 4, none⟩ (.slice aa (x1).length kk)).setCell ⟨wd.heap.size, 5, none⟩ (.string e1)) (fun k => k = wd.heap.size) := (((((set_kp _ _ _ _).trans (set_kp _ _ _ _)).trans (set_kp _ _ _ _)).trans (set_kp _ _ _ _)).trans (set_kp _ _ _ _)).trans (set_kp _ _ _ _)
      have ll := lg.lt
      exact ⟨_, _, rfl, by omega, by simpa using ll, ((((((lg.set 0 _ rfl).set 1 _ rfl).set 2 _ rfl).set 3 _ rfl).set 4 _ rfl).set 5 _ rfl), (oq3.kp k3 (fun j hj e => by have := tl j hj; omega)).mono (by omega), fun j hj => by have := tl j hj; simp; omega, bs⟩
  case rest =>
    clear K
    obtain ⟨wq8, hwq⟩ : ∃ x, x = wc := ⟨_, rfl⟩
    subst hwq
    obtain ⟨hV, vV, rfl, gV, eV, V, oV, toV, bb⟩ := hcut
    obtain ⟨aoV, koV, rfl⟩ := oV.form
    have Bwq8 := Bw2.trans (bb.mono Bw2.size)
    have swq8 := bb.size
    replace LC := LC.below bb LC.lt
    replace LA := LA.below bb LA.lt
    replace LB := LB.below bb LB.lt
    clear Bw2
    clear bb
    clear SP
    have cLA0 := LA.cell 0 rfl
    have cLA1 := LA.cell 1 rfl
    have cLA2 := LA.cell 2 rfl
    have cLA3 := LA.cell 3 rfl
    have cLA4 := LA.cell 4 rfl
    have cLA5 := LA.cell 5 rfl
    go_wp2_with fail
    refine (unhide TA _ ((unhide HA).below Bwq8 (Nat.le_refl _))).mono ?_
    rintro _ w3 ⟨vX, rfl, oX, bb⟩
    clear cLA0 cLA1 cLA2 cLA3 cLA4 cLA5
    have Bw3 := Bwq8.trans (bb.mono Bwq8.size)
    have sw3 := bb.size
    replace LC := LC.below bb LC.lt
    replace LA := LA.below bb LA.lt
    replace LB := LB.below bb LB.lt
    replace V := V.below bb V.lt
    replace oV := oV.below bb
    clear Bwq8
    clear bb
    have toX := World.ownsRow.lt oX
    obtain ⟨aoX, koX, rfl⟩ := oX.form
    obtain ⟨w4, hw4⟩ : ∃ x, w3.alloc (.cells #[.int .i64 vo, .int .i64 lo, .int .i64 v, .string s, .slice aoX xs.length koX, .string d] 60) = x := ⟨_, rfl⟩
    have bb : Below w3.heap.size w3 w4 := hw4 ▸ qalloc _ _
    have X : Loc w4 w3.heap.size #[.int .i64 vo, .int .i64 lo, .int .i64 v, .string s, .slice aoX xs.length koX, .string d] := hw4 ▸ loc_at w3 _ _ rfl
    have zw4 : w4.heap.size = w3.heap.size + 1 := by rw [← hw4]; simp
    have Bw4 := Bw3.trans (bb.mono Bw3.size)
    have sw4 := bb.size
    replace LC := LC.below bb LC.lt
    replace LA := LA.below bb LA.lt
    replace LB := LB.below bb LB.lt
    replace V := V.below bb V.lt
    replace oV := oV.below bb
    replace oX := oX.below bb
    clear Bw3
    clear bb
    have cLB0 := LB.cell 0 rfl
    have cLB1 := LB.cell 1 rfl
    have cLB2 := LB.cell 2 rfl
    go_wp2_with fail
    clear hw4
    refine (unhide TB _ ((unhide HB).below Bw4 (Nat.le_refl _))).mono ?_
    rintro _ w5 ⟨vY, rfl, oY, bb⟩
    clear cLB0 cLB1 cLB2
    have Bw5 := Bw4.trans (bb.mono Bw4.size)
    have sw5 := bb.size
    replace LC := LC.below bb LC.lt
    replace LA := LA.below bb LA.lt
    replace LB := LB.below bb LB.lt
    replace V := V.below bb V.lt
    replace X := X.below bb X.lt
    replace oV := oV.below bb
    replace oX := oX.below bb
    clear Bw4
    clear bb
    have toY := World.ownsRow.lt oY
    obtain ⟨aoY, koY, rfl⟩ := oY.form
    obtain ⟨w6, hw6⟩ : ∃ x, w5.alloc (.cells #[.int .i64 v', .string s', .slice aoY ys.length koY] 40) = x := ⟨_, rfl⟩
    have bb : Below w5.heap.size w5 w6 := hw6 ▸ qalloc _ _
    have Y : Loc w6 w5.heap.size #[.int .i64 v', .string s', .slice aoY ys.length koY] := hw6 ▸ loc_at w5 _ _ rfl
    have zw6 : w6.heap.size = w5.heap.size + 1 := by rw [← hw6]; simp
    have Bw6 := Bw5.trans (bb.mono Bw5.size)
    have sw6 := bb.size
    replace LC := LC.below bb LC.lt
    replace LA := LA.below bb LA.lt
    replace LB := LB.below bb LB.lt
    replace V := V.below bb V.lt
    replace X := X.below bb X.lt
    replace oV := oV.below bb
    replace oX := oX.below bb
    replace oY := oY.below bb
    clear Bw5
    clear bb
    have RX := hide fun w' (hb' : Below w6.heap.size w6 w') => (oX.below hb').ri (by omega)
    have RY := hide fun w' (hb' : Below w6.heap.size w6 w') => (oY.below hb').ri (by omega)
    have K : Hid (∀ w', Below w6.heap.size w6 w' → (fun w' => Below w6.heap.size w6 w' ∧ (w'.cell? ⟨w.heap.size, 0, none⟩ = some (.int .i64 n) ∧ w'.cell? ⟨w.heap.size, 1, none⟩ = some (.int .i64 f)) ∧ (w'.cell? ⟨w3.heap.size, 0, none⟩ = some (.int .i64 vo) ∧ w'.cell? ⟨w3.heap.size, 1, none⟩ = some (.int .i64 lo) ∧ w'.cell? ⟨w3.heap.size, 2, none⟩ = some (.int .i64 v) ∧ w'.cell? ⟨w3.heap.size, 3, none⟩ = some (.string s) ∧ w'.cell? ⟨w3.heap.size, 4, none⟩ = some (.slice aoX xs.length koX) ∧ w'.cell? ⟨w3.heap.size, 5, none⟩ = some (.string d)) ∧ (w'.cell? ⟨w5.heap.size, 0, none⟩ = some (.int .i64 v') ∧ w'.cell? ⟨w5.heap.size, 1, none⟩ = some (.string s') ∧ w'.cell? ⟨w5.heap.size, 2, none⟩ = some (.slice aoY ys.length koY))) w') := hide fun w' hb' => ⟨hb', ⟨(LC.below hb' LC.lt).cell 0 rfl, (LC.below hb' LC.lt).cell 1 rfl⟩, ⟨(X.below hb' X.lt).cell 0 rfl, (X.below hb' X.lt).cell 1 rfl, (X.below hb' X.lt).cell 2 rfl, (X.below hb' X.lt).cell 3 rfl, (X.below hb' X.lt).cell 4 rfl, (X.below hb' X.lt).cell 5 rfl⟩, ⟨(Y.below hb' Y.lt).cell 0 rfl, (Y.below hb' Y.lt).cell 1 rfl, (Y.below hb' Y.lt).cell 2 rfl⟩⟩
    go_upto_region 11 with fail
    clear hw6
    go_cut [11] (fun c  wx => ∃ h uu, c = .pointer (some ⟨h, 0, none⟩) ∧ w6.heap.size ≤ h ∧ h < wx.heap.size ∧ Loc wx h #[.int .i64 vo, .int .i64 l1, .int .i64 n1, .string s1, uu, .string e1] ∧ OI wx w6.heap.size uu x1 ∧ (∀ j, uu.ownBlock = some j → w6.heap.size ≤ j ∧ j < wx.heap.size ∧ j ≠ h) ∧ Below w6.heap.size w6 wx)
    case first =>
      refine wp_region_noPanic ?_
      refine wp_region_held_drew (S := fun w' => Below w6.heap.size w6 w' ∧ (w'.cell? ⟨w.heap.size, 0, none⟩ = some (.int .i64 n) ∧ w'.cell? ⟨w.heap.size, 1, none⟩ = some (.int .i64 f)) ∧ (w'.cell? ⟨w3.heap.size, 0, none⟩ = some (.int .i64 vo) ∧ w'.cell? ⟨w3.heap.size, 1, none⟩ = some (.int .i64 lo) ∧ w'.cell? ⟨w3.heap.size, 2, none⟩ = some (.int .i64 v) ∧ w'.cell? ⟨w3.heap.size, 3, none⟩ = some (.string s) ∧ w'.cell? ⟨w3.heap.size, 4, none⟩ = some (.slice aoX xs.length koX) ∧ w'.cell? ⟨w3.heap.size, 5, none⟩ = some (.string d)) ∧ (w'.cell? ⟨w5.heap.size, 0, none⟩ = some (.int .i64 v') ∧ w'.cell? ⟨w5.heap.size, 1, none⟩ = some (.string s') ∧ w'.cell? ⟨w5.heap.size, 2, none⟩ = some (.slice aoY ys.length koY))) (by kernel_rfl) (unhide K _ (Below.drew (Below.refl _ _))) (fun hHeld => ?_)
      obtain ⟨wd, hd⟩ : ∃ wd, w6.drew = wd := ⟨_, rfl⟩
      have bd : Below w6.heap.size w6 wd := hd ▸ Below.drew (Below.refl _ _)
      have szd := bd.size
      rw [hd] at hHeld ⊢
      clear hd
      refine tk 0 37 (v := ?_) rfl (hy := .inl ⟨by rfl, ?_⟩) (h := ?_); rotate_left
      · intro w hSw; (try dsimp only at hSw); go_simp; (try with_reducible rfl)
      simp only [Act.put, List.setIfInBounds_toArray, List.set_cons_zero, List.set_cons_succ]
      refine tk 2 39 (v := ?_) rfl (hy := .inl ⟨by rfl, ?_⟩) (h := ?_); rotate_left
      · intro w hSw; (try dsimp only at hSw); go_simp; (try with_reducible rfl)
      simp only [Act.put, List.setIfInBounds_toArray, List.set_cons_zero, List.set_cons_succ]
      refine tk 3 40 (v := ?_) rfl (hy := .inl ⟨by rfl, ?_⟩) (h := ?_); rotate_left
      · intro w hSw; (try dsimp only at hSw); go_simp; (try with_reducible rfl)
      simp only [Act.put, List.setIfInBounds_toArray, List.set_cons_zero, List.set_cons_succ]
      refine wpAnyH_ready (rs := [1, 5]) (by kernel_rfl) (by simp) (AllReadyH.cons rfl (fun KK hKK => ?_) (AllReadyH.cons rfl (fun KK hKK => ?_) AllReadyH.nil))
      · go_simp
        have hgo := bd
        refine (unhide TC _).mono ?_
        rintro e wc11_1 ⟨rfl, bnew⟩
        have bc11_2 : Below w6.heap.size w6 wc11_1 := bd.trans (bnew.mono bd.size)
        have zzwc11_1 := bnew.size
        clear hHeld bnew hgo
        refine hKK.out _ _ (unhide K _ bc11_2) (fun hHeld => ?_)
        clear hKK KK
        refine wpAnyH_ready (rs := [4, 5]) (by kernel_rfl) (by simp) (AllReadyH.cons rfl (fun KK hKK => ?_) (AllReadyH.cons rfl (fun KK hKK => ?_) AllReadyH.nil))
        · go_simp
          have hgo := bc11_2
          refine (unhide IM _ _ _ _ _ ((unhide HE).below (Bw6.trans (hgo.mono Bw6.size))) (unhide RX _ hgo) (unhide RY _ hgo)).mono ?_
          rintro e wc11_3 ⟨vv3, rfl, oq3, bnew⟩
          have bc11_4 : Below w6.heap.size w6 wc11_3 := bc11_2.trans (bnew.mono bc11_2.size)
          have zzwc11_3 := bnew.size
          have tl := World.ownsRow.lt oq3
          obtain ⟨aa, kk, rfl⟩ := oq3.form
          clear hHeld bnew hgo
          refine hKK.out _ _ (unhide K _ bc11_4) (fun hHeld => ?_)
          clear hKK KK
          refine ready_at (i := 5) rfl (by kernel_rfl) (fun KK hKK => ?_)
          go_simp
          obtain ⟨wl11_5, hwl11_5⟩ : ∃ x, wc11_3.alloc (.cells #[.int .i64 0, .int .i64 0, .int .i64 0, .string ⟨#[]⟩, .slice none 0 0, .string ⟨#[]⟩] 60) = x := ⟨_, rfl⟩
          have cbl11_6 : Below wc11_3.heap.size wc11_3 wl11_5 := hwl11_5 ▸ qalloc _ _
          have bl11_6 : Below w6.heap.size w6 wl11_5 := bc11_4.trans (cbl11_6.mono bc11_4.size)
          have zzwl11_5 : wl11_5.heap.size = wc11_3.heap.size + 1 := by rw [← hwl11_5]; simp
          have lg : Loc wl11_5 wc11_3.heap.size #[.int .i64 0, .int .i64 0, .int .i64 0, .string ⟨#[]⟩, .slice none 0 0, .string ⟨#[]⟩] := hwl11_5 ▸ loc_at wc11_3 _ _ rfl
          replace oq3 := oq3.below cbl11_6
          rw [hwl11_5]
          clear hHeld hwl11_5 cbl11_6
          refine hKK.out _ _ (unhide K _ bl11_6) (fun hHeld => ?_)
          clear hKK KK
          have q0 := lg.cell 0 rfl
          have q1 := lg.cell 1 rfl
          have q2 := lg.cell 2 rfl
          have q3 := lg.cell 3 rfl
          have q4 := lg.cell 4 rfl
          have q5 := lg.cell 5 rfl
          have FG := lg.frozen
          refine ready_at (i := 6) rfl (by kernel_rfl) (fun KK hKK => ?_)
          go_simp
          have bs : Below w6.heap.size w6 ((((((wl11_5.setCell ⟨wc11_3.heap.size, 0, none⟩ (.int .i64 vo)).setCell ⟨wc11_3.heap.size, 1, none⟩ (.int .i64 l1)).setCell ⟨wc11_3.heap.size, 2, none⟩ (.int .i64 n1)).setCell ⟨wc11_3.heap.size, 3, none⟩ (.string s1)).setCell ⟨wc11_3.heap.size, 4, none⟩ (.slice aa (x1).length kk)).setCell ⟨wc11_3.heap.size, 5, none⟩ (.string e1)) := (Below.set (Below.set (Below.set (Below.set (Below.set (Below.set bl11_6 _ _ (by omega)) _ _ (by omega)) _ _ (by omega)) _ _ (by omega)) _ _ (by omega)) _ _ (by omega))
          clear hHeld
          refine hKK.out _ _ (unhide K _ bs) (fun hHeld => ?_)
          clear hKK KK
          clear hHeld
          refine wpAnyH_done (by kernel_rfl) ?_ _
          refine NoPanic.normal ?_
          go_wp2_with fail
          go_meet
          have k3 : Kp wl11_5 ((((((wl11_5.setCell ⟨wc11_3.heap.size, 0, none⟩ (.int .i64 vo)).setCell ⟨wc11_3.heap.size, 1, none⟩ (.int .i64 l1)).setCell ⟨wc11_3.heap.size, 2, none⟩ (.int .i64 n1)).setCell ⟨wc11_3.heap.size, 3, none⟩ (.string s1)).setCell ⟨wc11_3.heap.size, 4, none⟩ (.slice aa (x1).length kk)).setCell ⟨wc11_3.heap.size, 5, none⟩ (.string e1)) (fun k => k = wc11_3.heap.size) := (((((set_kp _ _ _ _).trans (set_kp _ _ _ _)).trans (set_kp _ _ _ _)).trans (set_kp _ _ _ _)).trans (set_kp _ _ _ _)).trans (set_kp _ _ _ _)
          have ll := lg.lt
          exact ⟨_, _, rfl, by omega, by simpa using ll, ((((((lg.set 0 _ rfl).set 1 _ rfl).set 2 _ rfl).set 3 _ rfl).set 4 _ rfl).set 5 _ rfl), (oq3.kp k3 (fun j hj e => by have := tl j hj; omega)).mono (by omega), fun j hj => by have := tl j hj; simp; omega, bs⟩
        · go_simp
          obtain ⟨wl11_7, hwl11_7⟩ : ∃ x, wc11_1.alloc (.cells #[.int .i64 0, .int .i64 0, .int .i64 0, .string ⟨#[]⟩, .slice none 0 0, .string ⟨#[]⟩] 60) = x := ⟨_, rfl⟩
          have cbl11_8 : Below wc11_1.heap.size wc11_1 wl11_7 := hwl11_7 ▸ qalloc _ _
          have bl11_8 : Below w6.heap.size w6 wl11_7 := bc11_2.trans (cbl11_8.mono bc11_2.size)
          have zzwl11_7 : wl11_7.heap.size = wc11_1.heap.size + 1 := by rw [← hwl11_7]; simp
          have lg : Loc wl11_7 wc11_1.heap.size #[.int .i64 0, .int .i64 0, .int .i64 0, .string ⟨#[]⟩, .slice none 0 0, .string ⟨#[]⟩] := hwl11_7 ▸ loc_at wc11_1 _ _ rfl
          rw [hwl11_7]
          clear hHeld hwl11_7 cbl11_8
          refine hKK.out _ _ (unhide K _ bl11_8) (fun hHeld => ?_)
          clear hKK KK
          refine ready_at (i := 4) rfl (by kernel_rfl) (fun KK hKK => ?_)
          go_simp
          have hgo := bl11_8
          refine (unhide IM _ _ _ _ _ ((unhide HE).below (Bw6.trans (hgo.mono Bw6.size))) (unhide RX _ hgo) (unhide RY _ hgo)).mono ?_
          rintro e wc11_9 ⟨vv3, rfl, oq3, bnew⟩
          have bc11_10 : Below w6.heap.size w6 wc11_9 := bl11_8.trans (bnew.mono bl11_8.size)
          have zzwc11_9 := bnew.size
          replace lg := lg.below bnew lg.lt
          have tl := World.ownsRow.lt oq3
          obtain ⟨aa, kk, rfl⟩ := oq3.form
          clear hHeld bnew hgo
          refine hKK.out _ _ (unhide K _ bc11_10) (fun hHeld => ?_)
          clear hKK KK
          have q0 := lg.cell 0 rfl
          have q1 := lg.cell 1 rfl
          have q2 := lg.cell 2 rfl
          have q3 := lg.cell 3 rfl
          have q4 := lg.cell 4 rfl
          have q5 := lg.cell 5 rfl
          have FG := lg.frozen
          refine ready_at (i := 6) rfl (by kernel_rfl) (fun KK hKK => ?_)
          go_simp
          have bs : Below w6.heap.size w6 ((((((wc11_9.setCell ⟨wc11_1.heap.size, 0, none⟩ (.int .i64 vo)).setCell ⟨wc11_1.heap.size, 1, none⟩ (.int .i64 l1)).setCell ⟨wc11_1.heap.size, 2, none⟩ (.int .i64 n1)).setCell ⟨wc11_1.heap.size, 3, none⟩ (.string s1)).setCell ⟨wc11_1.heap.size, 4, none⟩ (.slice aa (x1).length kk)).setCell ⟨wc11_1.heap.size, 5, none⟩ (.string e1)) := (Below.set (Below.set (Below.set (Below.set (Below.set (Below.set bc11_10 _ _ (by omega)) _ _ (by omega)) _ _ (by omega)) _ _ (by omega)) _ _ (by omega)) _ _ (by omega))
          clear hHeld
          refine hKK.out _ _ (unhide K _ bs) (fun hHeld => ?_)
          clear hKK KK
          clear hHeld
          refine wpAnyH_done (by kernel_rfl) ?_ _
          refine NoPanic.normal ?_
          go_wp2_with fail
          go_meet
          have k3 : Kp wc11_9 ((((((wc11_9.setCell ⟨wc11_1.heap.size, 0, none⟩ (.int .i64 vo)).setCell ⟨wc11_1.heap.size, 1, none⟩ (.int .i64 l1)).setCell ⟨wc11_1.heap.size, 2, none⟩ (.int .i64 n1)).setCell ⟨wc11_1.heap.size, 3, none⟩ (.string s1)).setCell ⟨wc11_1.heap.size, 4, none⟩ (.slice aa (x1).length kk)).setCell ⟨wc11_1.heap.size, 5, none⟩ (.string e1)) (fun k => k = wc11_1.heap.size) := (((((set_kp _ _ _ _).trans (set_kp _ _ _ _)).trans (set_kp _ _ _ _)).trans (set_kp _ _ _ _)).trans (set_kp _ _ _ _)).trans (set_kp _ _ _ _)
          have ll := lg.lt
          exact ⟨_, _, rfl, by omega, by simpa using ll, ((((((lg.set 0 _ rfl).set 1 _ rfl).set 2 _ rfl).set 3 _ rfl).set 4 _ rfl).set 5 _ rfl), (oq3.kp k3 (fun j hj e => by have := tl j hj; omega)).mono (by omega), fun j hj => by have := tl j hj; simp; omega, bs⟩
      · go_simp
        obtain ⟨wl11_11, hwl11_11⟩ : ∃ x, wd.alloc (.cells #[.int .i64 0, .int .i64 0, .int .i64 0, .string ⟨#[]⟩, .slice none 0 0, .string ⟨#[]⟩] 60) = x := ⟨_, rfl⟩
        have cbl11_12 : Below wd.heap.size wd wl11_11 := hwl11_11 ▸ qalloc _ _
        have bl11_12 : Below w6.heap.size w6 wl11_11 := bd.trans (cbl11_12.mono bd.size)
        have zzwl11_11 : wl11_11.heap.size = wd.heap.size + 1 := by rw [← hwl11_11]; simp
        have lg : Loc wl11_11 wd.heap.size #[.int .i64 0, .int .i64 0, .int .i64 0, .string ⟨#[]⟩, .slice none 0 0, .string ⟨#[]⟩] := hwl11_11 ▸ loc_at wd _ _ rfl
        rw [hwl11_11]
        clear hHeld hwl11_11 cbl11_12
        refine hKK.out _ _ (unhide K _ bl11_12) (fun hHeld => ?_)
        clear hKK KK
        refine ready_at (i := 1) rfl (by kernel_rfl) (fun KK hKK => ?_)
        go_simp
        have hgo := bl11_12
        refine (unhide TC _).mono ?_
        rintro e wc11_13 ⟨rfl, bnew⟩
        have bc11_14 : Below w6.heap.size w6 wc11_13 := bl11_12.trans (bnew.mono bl11_12.size)
        have zzwc11_13 := bnew.size
        replace lg := lg.below bnew lg.lt
        clear hHeld bnew hgo
        refine hKK.out _ _ (unhide K _ bc11_14) (fun hHeld => ?_)
        clear hKK KK
        refine ready_at (i := 4) rfl (by kernel_rfl) (fun KK hKK => ?_)
        go_simp
        have hgo := bc11_14
        refine (unhide IM _ _ _ _ _ ((unhide HE).below (Bw6.trans (hgo.mono Bw6.size))) (unhide RX _ hgo) (unhide RY _ hgo)).mono ?_
        rintro e wc11_15 ⟨vv3, rfl, oq3, bnew⟩
        have bc11_16 : Below w6.heap.size w6 wc11_15 := bc11_14.trans (bnew.mono bc11_14.size)
        have zzwc11_15 := bnew.size
        replace lg := lg.below bnew lg.lt
        have tl := World.ownsRow.lt oq3
        obtain ⟨aa, kk, rfl⟩ := oq3.form
        clear hHeld bnew hgo
        refine hKK.out _ _ (unhide K _ bc11_16) (fun hHeld => ?_)
        clear hKK KK
        have q0 := lg.cell 0 rfl
        have q1 := lg.cell 1 rfl
        have q2 := lg.cell 2 rfl
        have q3 := lg.cell 3 rfl
        have q4 := lg.cell 4 rfl
        have q5 := lg.cell 5 rfl
        have FG := lg.frozen
        refine ready_at (i := 6) rfl (by kernel_rfl) (fun KK hKK => ?_)
        go_simp
        have bs : Below w6.heap.size w6 ((((((wc11_15.setCell ⟨wd.heap.size, 0, none⟩ (.int .i64 vo)).setCell ⟨wd.heap.size, 1, none⟩ (.int .i64 l1)).setCell ⟨wd.heap.size, 2, none⟩ (.int .i64 n1)).setCell ⟨wd.heap.size, 3, none⟩ (.string s1)).setCell ⟨wd.heap.size, 4, none⟩ (.slice aa (x1).length kk)).setCell ⟨wd.heap.size, 5, none⟩ (.string e1)) := (Below.set (Below.set (Below.set (Below.set (Below.set (Below.set bc11_16 _ _ (by omega)) _ _ (by omega)) _ _ (by omega)) _ _ (by omega)) _ _ (by omega)) _ _ (by omega))
        clear hHeld
        refine hKK.out _ _ (unhide K _ bs) (fun hHeld => ?_)
        clear hKK KK
        clear hHeld
        refine wpAnyH_done (by kernel_rfl) ?_ _
        refine NoPanic.normal ?_
        go_wp2_with fail
        go_meet
        have k3 : Kp wc11_15 ((((((wc11_15.setCell ⟨wd.heap.size, 0, none⟩ (.int .i64 vo)).setCell ⟨wd.heap.size, 1, none⟩ (.int .i64 l1)).setCell ⟨wd.heap.size, 2, none⟩ (.int .i64 n1)).setCell ⟨wd.heap.size, 3, none⟩ (.string s1)).setCell ⟨wd.heap.size, 4, none⟩ (.slice aa (x1).length kk)).setCell ⟨wd.heap.size, 5, none⟩ (.string e1)) (fun k => k = wd.heap.size) := (((((set_kp _ _ _ _).trans (set_kp _ _ _ _)).trans (set_kp _ _ _ _)).trans (set_kp _ _ _ _)).trans (set_kp _ _ _ _)).trans (set_kp _ _ _ _)
        have ll := lg.lt
        exact ⟨_, _, rfl, by omega, by simpa using ll, ((((((lg.set 0 _ rfl).set 1 _ rfl).set 2 _ rfl).set 3 _ rfl).set 4 _ rfl).set 5 _ rfl), (oq3.kp k3 (fun j hj e => by have := tl j hj; omega)).mono (by omega), fun j hj => by have := tl j hj; simp; omega, bs⟩
    case rest =>
      clear K
      obtain ⟨wq11, hwq⟩ : ∃ x, x = wc := ⟨_, rfl⟩
      subst hwq
      obtain ⟨hG, vG, rfl, gG, eG, G, oG, toG, bb⟩ := hcut
      obtain ⟨aoG, koG, rfl⟩ := oG.form
      have Bwq11 := Bw6.trans (bb.mono Bw6.size)
      have swq11 := bb.size
      replace LC := LC.below bb LC.lt
      replace LA := LA.below bb LA.lt
      replace LB := LB.below bb LB.lt
      replace V := V.below bb V.lt
      replace X := X.below bb X.lt
      replace Y := Y.below bb Y.lt
      replace oV := oV.below bb
      replace oX := oX.below bb
      replace oY := oY.below bb
      clear Bw6
      clear bb
      clear RX RY
      have cG0 := G.cell 0 rfl
      have cG1 := G.cell 1 rfl
      have cG2 := G.cell 2 rfl
      have cG3 := G.cell 3 rfl
      have cG4 := G.cell 4 rfl
      have cG5 := G.cell 5 rfl
      have cV0 := V.cell 0 rfl
      have cV1 := V.cell 1 rfl
      have cV2 := V.cell 2 rfl
      have cV3 := V.cell 3 rfl
      have cV4 := V.cell 4 rfl
      have cV5 := V.cell 5 rfl
      go_wp2_with fail
      refine (eqSafe_yes vo l1 n1 s1 _ _ x1 e1 _ (oG.ri (by omega)) (oV.ri (by omega))).mono ?_
      rintro _ w7 ⟨rfl, bb⟩
      clear cG0 cG1 cG2 cG3 cG4 cG5 cV0 cV1 cV2 cV3 cV4 cV5
      have Bw7 := Bwq11.trans (bb.mono Bwq11.size)
      have sw7 := bb.size
      replace LC := LC.below bb LC.lt
      replace LA := LA.below bb LA.lt
      replace LB := LB.below bb LB.lt
      replace V := V.below bb V.lt
      replace X := X.below bb X.lt
      replace Y := Y.below bb Y.lt
      replace G := G.below bb G.lt
      replace oV := oV.below bb
      replace oX := oX.below bb
      replace oY := oY.below bb
      replace oG := oG.below bb
      clear Bwq11
      clear bb
      have RX := hide fun w' (hb' : Below w7.heap.size w7 w') => (oX.below hb').ri (by omega)
      have K : Hid (∀ w', Below w7.heap.size w7 w' → (fun w' => Below w7.heap.size w7 w' ∧ (w'.cell? ⟨w.heap.size + 1, 0, none⟩ = some (.int .i64 vo) ∧ w'.cell? ⟨w.heap.size + 1, 1, none⟩ = some (.int .i64 lo) ∧ w'.cell? ⟨w.heap.size + 1, 2, none⟩ = some (.int .i64 v) ∧ w'.cell? ⟨w.heap.size + 1, 3, none⟩ = some (.string s) ∧ w'.cell? ⟨w.heap.size + 1, 4, none⟩ = some (.slice ao xs.length ca) ∧ w'.cell? ⟨w.heap.size + 1, 5, none⟩ = some (.string d)) ∧ (w'.cell? ⟨w3.heap.size, 0, none⟩ = some (.int .i64 vo) ∧ w'.cell? ⟨w3.heap.size, 1, none⟩ = some (.int .i64 lo) ∧ w'.cell? ⟨w3.heap.size, 2, none⟩ = some (.int .i64 v) ∧ w'.cell? ⟨w3.heap.size, 3, none⟩ = some (.string s) ∧ w'.cell? ⟨w3.heap.size, 4, none⟩ = some (.slice aoX xs.length koX) ∧ w'.cell? ⟨w3.heap.size, 5, none⟩ = some (.string d))) w') := hide fun w' hb' => ⟨hb', ⟨(LA.below hb' LA.lt).cell 0 rfl, (LA.below hb' LA.lt).cell 1 rfl, (LA.below hb' LA.lt).cell 2 rfl, (LA.below hb' LA.lt).cell 3 rfl, (LA.below hb' LA.lt).cell 4 rfl, (LA.below hb' LA.lt).cell 5 rfl⟩, ⟨(X.below hb' X.lt).cell 0 rfl, (X.below hb' X.lt).cell 1 rfl, (X.below hb' X.lt).cell 2 rfl, (X.below hb' X.lt).cell 3 rfl, (X.below hb' X.lt).cell 4 rfl, (X.below hb' X.lt).cell 5 rfl⟩⟩
      go_upto_region 14 with fail
      have bA : Below w7.heap.size w7 w7.drew := Below.drew (Below.refl _ _)
      refine wp_region_noPanic ?_
      refine wp_region_held_drew (S := fun w' => Below w7.heap.size w7 w' ∧ (w'.cell? ⟨w.heap.size + 1, 0, none⟩ = some (.int .i64 vo) ∧ w'.cell? ⟨w.heap.size + 1, 1, none⟩ = some (.int .i64 lo) ∧ w'.cell? ⟨w.heap.size + 1, 2, none⟩ = some (.int .i64 v) ∧ w'.cell? ⟨w.heap.size + 1, 3, none⟩ = some (.string s) ∧ w'.cell? ⟨w.heap.size + 1, 4, none⟩ = some (.slice ao xs.length ca) ∧ w'.cell? ⟨w.heap.size + 1, 5, none⟩ = some (.string d)) ∧ (w'.cell? ⟨w3.heap.size, 0, none⟩ = some (.int .i64 vo) ∧ w'.cell? ⟨w3.heap.size, 1, none⟩ = some (.int .i64 lo) ∧ w'.cell? ⟨w3.heap.size, 2, none⟩ = some (.int .i64 v) ∧ w'.cell? ⟨w3.heap.size, 3, none⟩ = some (.string s) ∧ w'.cell? ⟨w3.heap.size, 4, none⟩ = some (.slice aoX xs.length koX) ∧ w'.cell? ⟨w3.heap.size, 5, none⟩ = some (.string d))) (by kernel_rfl) (unhide K _ bA) (fun hHeld => ?_)
      refine tk 0 46 (v := ?_) rfl (hy := .inl ⟨by rfl, ?_⟩) (h := ?_); rotate_left
      · intro w hSw; (try dsimp only at hSw); go_simp; (try with_reducible rfl)
      simp only [Act.put, List.setIfInBounds_toArray, List.set_cons_zero, List.set_cons_succ]
      refine tk 1 47 (v := ?_) rfl (hy := .inl ⟨by rfl, ?_⟩) (h := ?_); rotate_left
      · intro w hSw; (try dsimp only at hSw); go_simp; (try with_reducible rfl)
      simp only [Act.put, List.setIfInBounds_toArray, List.set_cons_zero, List.set_cons_succ]
      refine ready_at (i := 2) rfl (by kernel_rfl) (fun KK hKK => ?_)
      go_simp
      have hgo := bA
      refine (unhide TA _ ((unhide HA).below (Bw7.trans (hgo.mono Bw7.size)) (Nat.le_refl _))).mono ?_
      rintro e wz14_1 ⟨vv1, rfl, o1, bb⟩
      have bz1 : Below w7.heap.size w7 wz14_1 := bA.trans (bb.mono bA.size)
      have R1 := hide (o1.ri (by omega))
      clear o1
      clear bA hgo bb
      clear hHeld
      refine hKK.out _ _ (unhide K _ bz1) (fun hHeld => ?_)
      clear hKK KK
      refine ready_at (i := 3) rfl (by kernel_rfl) (fun KK hKK => ?_)
      go_simp
      have hgo := bz1
      refine (eqSafe_yes vo lo v s _ _ xs d _ (unhide RX _ hgo) (unhide R1)).mono ?_
      rintro e wz14_2 ⟨rfl, bb⟩
      have bz2 : Below w7.heap.size w7 wz14_2 := bz1.trans (bb.mono bz1.size)
      clear R1 RX
      clear bz1 hgo bb
      clear hHeld
      refine hKK.out _ _ (unhide K _ bz2) (fun hHeld => ?_)
      clear hKK KK
      refine tk 4 50 (v := ?_) rfl (hy := .inl ⟨by rfl, ?_⟩) (h := ?_); rotate_left
      · intro w hSw; (try dsimp only at hSw); go_simp; (try with_reducible rfl)
      simp only [Act.put, List.setIfInBounds_toArray, List.set_cons_zero, List.set_cons_succ]
      clear hHeld
      refine wpAnyH_done (by kernel_rfl) ?_ _
      refine NoPanic.normal ?_
      have bb := bz2
      have Bwz14_2 := Bw7.trans (bb.mono Bw7.size)
      have swz14_2 := bb.size
      replace LC := LC.below bb LC.lt
      replace LA := LA.below bb LA.lt
      replace LB := LB.below bb LB.lt
      replace V := V.below bb V.lt
      replace X := X.below bb X.lt
      replace Y := Y.below bb Y.lt
      replace G := G.below bb G.lt
      replace oV := oV.below bb
      replace oX := oX.below bb
      replace oY := oY.below bb
      replace oG := oG.below bb
      clear Bw7
      clear bb bz2 K
      have RY := hide fun w' (hb' : Below wz14_2.heap.size wz14_2 w') => (oY.below hb').ri (by omega)
      have K : Hid (∀ w', Below wz14_2.heap.size wz14_2 w' → (fun w' => Below wz14_2.heap.size wz14_2 w' ∧ (w'.cell? ⟨w.heap.size + 1 + 1, 0, none⟩ = some (.int .i64 v') ∧ w'.cell? ⟨w.heap.size + 1 + 1, 1, none⟩ = some (.string s') ∧ w'.cell? ⟨w.heap.size + 1 + 1, 2, none⟩ = some (.slice bo ys.length cb)) ∧ (w'.cell? ⟨w5.heap.size, 0, none⟩ = some (.int .i64 v') ∧ w'.cell? ⟨w5.heap.size, 1, none⟩ = some (.string s') ∧ w'.cell? ⟨w5.heap.size, 2, none⟩ = some (.slice aoY ys.length koY))) w') := hide fun w' hb' => ⟨hb', ⟨(LB.below hb' LB.lt).cell 0 rfl, (LB.below hb' LB.lt).cell 1 rfl, (LB.below hb' LB.lt).cell 2 rfl⟩, ⟨(Y.below hb' Y.lt).cell 0 rfl, (Y.below hb' Y.lt).cell 1 rfl, (Y.below hb' Y.lt).cell 2 rfl⟩⟩
      go_upto_region 16 with fail
      have bA : Below wz14_2.heap.size wz14_2 wz14_2.drew := Below.drew (Below.refl _ _)
      refine wp_region_noPanic ?_
      refine wp_region_held_drew (S := fun w' => Below wz14_2.heap.size wz14_2 w' ∧ (w'.cell? ⟨w.heap.size + 1 + 1, 0, none⟩ = some (.int .i64 v') ∧ w'.cell? ⟨w.heap.size + 1 + 1, 1, none⟩ = some (.string s') ∧ w'.cell? ⟨w.heap.size + 1 + 1, 2, none⟩ = some (.slice bo ys.length cb)) ∧ (w'.cell? ⟨w5.heap.size, 0, none⟩ = some (.int .i64 v') ∧ w'.cell? ⟨w5.heap.size, 1, none⟩ = some (.string s') ∧ w'.cell? ⟨w5.heap.size, 2, none⟩ = some (.slice aoY ys.length koY))) (by kernel_rfl) (unhide K _ bA) (fun hHeld => ?_)
      refine tk 0 51 (v := ?_) rfl (hy := .inl ⟨by rfl, ?_⟩) (h := ?_); rotate_left
      · intro w hSw; (try dsimp only at hSw); go_simp; (try with_reducible rfl)
      simp only [Act.put, List.setIfInBounds_toArray, List.set_cons_zero, List.set_cons_succ]
      refine tk 1 52 (v := ?_) rfl (hy := .inl ⟨by rfl, ?_⟩) (h := ?_); rotate_left
      · intro w hSw; (try dsimp only at hSw); go_simp; (try with_reducible rfl)
      simp only [Act.put, List.setIfInBounds_toArray, List.set_cons_zero, List.set_cons_succ]
      refine ready_at (i := 2) rfl (by kernel_rfl) (fun KK hKK => ?_)
      go_simp
      have hgo := bA
      refine (unhide TB _ ((unhide HB).below (Bwz14_2.trans (hgo.mono Bwz14_2.size)) (Nat.le_refl _))).mono ?_
      rintro e wz16_1 ⟨vv1, rfl, o1, bb⟩
      have bz1 : Below wz14_2.heap.size wz14_2 wz16_1 := bA.trans (bb.mono bA.size)
      have R1 := hide (o1.ri (by omega))
      clear o1
      clear bA hgo bb
      clear hHeld
      refine hKK.out _ _ (unhide K _ bz1) (fun hHeld => ?_)
      clear hKK KK
      refine ready_at (i := 3) rfl (by kernel_rfl) (fun KK hKK => ?_)
      go_simp
      have hgo := bz1
      refine (eqQc_yes v' s' _ _ ys _ (unhide RY _ hgo) (unhide R1)).mono ?_
      rintro e wz16_2 ⟨rfl, bb⟩
      have bz2 : Below wz14_2.heap.size wz14_2 wz16_2 := bz1.trans (bb.mono bz1.size)
      clear R1 RY
      clear bz1 hgo bb
      clear hHeld
      refine hKK.out _ _ (unhide K _ bz2) (fun hHeld => ?_)
      clear hKK KK
      refine tk 4 55 (v := ?_) rfl (hy := .inl ⟨by rfl, ?_⟩) (h := ?_); rotate_left
      · intro w hSw; (try dsimp only at hSw); go_simp; (try with_reducible rfl)
      simp only [Act.put, List.setIfInBounds_toArray, List.set_cons_zero, List.set_cons_succ]
      clear hHeld
      refine wpAnyH_done (by kernel_rfl) ?_ _
      refine NoPanic.normal ?_
      have bb := bz2
      have Bwz16_2 := Bwz14_2.trans (bb.mono Bwz14_2.size)
      have swz16_2 := bb.size
      replace LC := LC.below bb LC.lt
      replace LA := LA.below bb LA.lt
      replace LB := LB.below bb LB.lt
      replace V := V.below bb V.lt
      replace X := X.below bb X.lt
      replace Y := Y.below bb Y.lt
      replace G := G.below bb G.lt
      replace oV := oV.below bb
      replace oX := oX.below bb
      replace oY := oY.below bb
      replace oG := oG.below bb
      clear Bwz14_2
      clear bb bz2 K
      have cX0 := X.cell 0 rfl
      have cX1 := X.cell 1 rfl
      have cX2 := X.cell 2 rfl
      have cX3 := X.cell 3 rfl
      have cX4 := X.cell 4 rfl
      have cX5 := X.cell 5 rfl
      go_wp2_with fail
      refine (unhide MX _ _ _ oX).mono ?_
      rintro _ w8 ⟨rfl, oN, kN⟩
      clear cX0 cX1 cX2 cX3 cX4 cX5
      have Bw8 := Below.kp Bwz16_2 kN Bwz16_2.size (fun k hk => by have := toX _ hk; omega)
      have sw8 := kN.size
      replace LC := LC.kp kN (fun h => by have := toX _ h; omega)
      replace LA := LA.kp kN (fun h => by have := toX _ h; omega)
      replace LB := LB.kp kN (fun h => by have := toX _ h; omega)
      replace V := V.kp kN (fun h => by have := toX _ h; omega)
      replace X := X.kp kN (fun h => by have := toX _ h; omega)
      replace Y := Y.kp kN (fun h => by have := toX _ h; omega)
      replace G := G.kp kN (fun h => by have := toX _ h; omega)
      replace oV := oV.kp kN (fun j hj h => by have := toV j hj; have := toX _ h; omega)
      replace oY := oY.kp kN (fun j hj h => by have := toY j hj; have := toX _ h; omega)
      replace oG := oG.kp kN (fun j hj h => by have := toG j hj; have := toX _ h; omega)
      clear Bwz16_2
      clear oX kN
      clear oN
      have cY0 := Y.cell 0 rfl
      have cY1 := Y.cell 1 rfl
      have cY2 := Y.cell 2 rfl
      go_wp2_with fail
      refine (unhide MB _ _ _ oY).mono ?_
      rintro _ w9 ⟨rfl, oN, kN⟩
      clear cY0 cY1 cY2
      have Bw9 := Below.kp Bw8 kN Bw8.size (fun k hk => by have := toY _ hk; omega)
      have sw9 := kN.size
      replace LC := LC.kp kN (fun h => by have := toY _ h; omega)
      replace LA := LA.kp kN (fun h => by have := toY _ h; omega)
      replace LB := LB.kp kN (fun h => by have := toY _ h; omega)
      replace V := V.kp kN (fun h => by have := toY _ h; omega)
      replace X := X.kp kN (fun h => by have := toY _ h; omega)
      replace Y := Y.kp kN (fun h => by have := toY _ h; omega)
      replace G := G.kp kN (fun h => by have := toY _ h; omega)
      replace oV := oV.kp kN (fun j hj h => by have := toV j hj; have := toY _ h; omega)
      replace oG := oG.kp kN (fun j hj h => by have := toG j hj; have := toY _ h; omega)
      clear Bw8
      clear oY kN
      clear oN
      have cG0 := G.cell 0 rfl
      have cG1 := G.cell 1 rfl
      have cG2 := G.cell 2 rfl
      have cG3 := G.cell 3 rfl
      have cG4 := G.cell 4 rfl
      have cG5 := G.cell 5 rfl
      have cV0 := V.cell 0 rfl
      have cV1 := V.cell 1 rfl
      have cV2 := V.cell 2 rfl
      have cV3 := V.cell 3 rfl
      have cV4 := V.cell 4 rfl
      have cV5 := V.cell 5 rfl
      go_wp2_with fail
      refine (eqSafe_yes vo l1 n1 s1 _ _ x1 e1 _ (oG.ri (by omega)) (oV.ri (by omega))).mono ?_
      rintro _ w10 ⟨rfl, bb⟩
      clear cG0 cG1 cG2 cG3 cG4 cG5 cV0 cV1 cV2 cV3 cV4 cV5
      have Bw10 := Bw9.trans (bb.mono Bw9.size)
      have sw10 := bb.size
      replace LC := LC.below bb LC.lt
      replace LA := LA.below bb LA.lt
      replace LB := LB.below bb LB.lt
      replace V := V.below bb V.lt
      replace X := X.below bb X.lt
      replace Y := Y.below bb Y.lt
      replace G := G.below bb G.lt
      replace oV := oV.below bb
      replace oG := oG.below bb
      clear Bw9
      clear bb
      have cG0 := G.cell 0 rfl
      have cG1 := G.cell 1 rfl
      have cG2 := G.cell 2 rfl
      have cG3 := G.cell 3 rfl
      have cG4 := G.cell 4 rfl
      have cG5 := G.cell 5 rfl
      go_wp2_with fail
      refine (unhide MG _ _ _ oG).mono ?_
      rintro _ w11 ⟨rfl, oN, kN⟩
      clear cG0 cG1 cG2 cG3 cG4 cG5
      have Bw11 := Below.kp Bw10 kN Bw10.size (fun k hk => by have := toG _ hk; omega)
      have sw11 := kN.size
      replace LC := LC.kp kN (fun h => by have := toG _ h; omega)
      replace LA := LA.kp kN (fun h => by have := toG _ h; omega)
      replace LB := LB.kp kN (fun h => by have := toG _ h; omega)
      replace V := V.kp kN (fun h => by have := toG _ h; omega)
      replace X := X.kp kN (fun h => by have := toG _ h; omega)
      replace Y := Y.kp kN (fun h => by have := toG _ h; omega)
      replace G := G.kp kN (fun h => by have := toG _ h; omega)
      replace oV := oV.kp kN (fun j hj h => by have := toV j hj; have := toG _ h; omega)
      clear Bw10
      clear oG kN
      have oG := oN
      clear oN
      have cG0 := G.cell 0 rfl
      have cG1 := G.cell 1 rfl
      have cG2 := G.cell 2 rfl
      have cG3 := G.cell 3 rfl
      have cG4 := G.cell 4 rfl
      have cG5 := G.cell 5 rfl
      go_wp2_with fail
      refine (unhide HD _ _ (oG.ri (by rw [imarks_len]; omega))).mono ?_
      rintro _ w12 ⟨rfl, bb⟩
      clear cG0 cG1 cG2 cG3 cG4 cG5
      have Bw12 := Bw11.trans (bb.mono Bw11.size)
      have sw12 := bb.size
      replace LC := LC.below bb LC.lt
      replace LA := LA.below bb LA.lt
      replace LB := LB.below bb LB.lt
      replace V := V.below bb V.lt
      replace X := X.below bb X.lt
      replace Y := Y.below bb Y.lt
      replace G := G.below bb G.lt
      replace oV := oV.below bb
      replace oG := oG.below bb
      clear Bw11
      clear bb
      have K : Hid (∀ w', Below w12.heap.size w12 w' → (fun w' => Below w12.heap.size w12 w' ∧ (w'.cell? ⟨w.heap.size, 0, none⟩ = some (.int .i64 n) ∧ w'.cell? ⟨w.heap.size, 1, none⟩ = some (.int .i64 f)) ∧ (w'.cell? ⟨w.heap.size + 1, 0, none⟩ = some (.int .i64 vo) ∧ w'.cell? ⟨w.heap.size + 1, 1, none⟩ = some (.int .i64 lo) ∧ w'.cell? ⟨w.heap.size + 1, 2, none⟩ = some (.int .i64 v) ∧ w'.cell? ⟨w.heap.size + 1, 3, none⟩ = some (.string s) ∧ w'.cell? ⟨w.heap.size + 1, 4, none⟩ = some (.slice ao xs.length ca) ∧ w'.cell? ⟨w.heap.size + 1, 5, none⟩ = some (.string d)) ∧ (w'.cell? ⟨w.heap.size + 1 + 1, 0, none⟩ = some (.int .i64 v') ∧ w'.cell? ⟨w.heap.size + 1 + 1, 1, none⟩ = some (.string s') ∧ w'.cell? ⟨w.heap.size + 1 + 1, 2, none⟩ = some (.slice bo ys.length cb))) w') := hide fun w' hb' => ⟨hb', ⟨(LC.below hb' LC.lt).cell 0 rfl, (LC.below hb' LC.lt).cell 1 rfl⟩, ⟨(LA.below hb' LA.lt).cell 0 rfl, (LA.below hb' LA.lt).cell 1 rfl, (LA.below hb' LA.lt).cell 2 rfl, (LA.below hb' LA.lt).cell 3 rfl, (LA.below hb' LA.lt).cell 4 rfl, (LA.below hb' LA.lt).cell 5 rfl⟩, ⟨(LB.below hb' LB.lt).cell 0 rfl, (LB.below hb' LB.lt).cell 1 rfl, (LB.below hb' LB.lt).cell 2 rfl⟩⟩
      go_upto_region 31 with fail
      go_cut [15] (fun c  wx => ∃ h uu, c = .pointer (some ⟨h, 0, none⟩) ∧ w12.heap.size ≤ h ∧ h < wx.heap.size ∧ Loc wx h #[.int .i64 vo, .int .i64 l1, .int .i64 n1, .string s1, uu, .string e1] ∧ OI wx w12.heap.size uu x1 ∧ (∀ j, uu.ownBlock = some j → w12.heap.size ≤ j ∧ j < wx.heap.size ∧ j ≠ h) ∧ Below w12.heap.size w12 wx)
      case first =>
        refine wp_region_noPanic ?_
        refine wp_region_held_drew (S := fun w' => Below w12.heap.size w12 w' ∧ (w'.cell? ⟨w.heap.size, 0, none⟩ = some (.int .i64 n) ∧ w'.cell? ⟨w.heap.size, 1, none⟩ = some (.int .i64 f)) ∧ (w'.cell? ⟨w.heap.size + 1, 0, none⟩ = some (.int .i64 vo) ∧ w'.cell? ⟨w.heap.size + 1, 1, none⟩ = some (.int .i64 lo) ∧ w'.cell? ⟨w.heap.size + 1, 2, none⟩ = some (.int .i64 v) ∧ w'.cell? ⟨w.heap.size + 1, 3, none⟩ = some (.string s) ∧ w'.cell? ⟨w.heap.size + 1, 4, none⟩ = some (.slice ao xs.length ca) ∧ w'.cell? ⟨w.heap.size + 1, 5, none⟩ = some (.string d)) ∧ (w'.cell? ⟨w.heap.size + 1 + 1, 0, none⟩ = some (.int .i64 v') ∧ w'.cell? ⟨w.heap.size + 1 + 1, 1, none⟩ = some (.string s') ∧ w'.cell? ⟨w.heap.size + 1 + 1, 2, none⟩ = some (.slice bo ys.length cb))) (by kernel_rfl) (unhide K _ (Below.drew (Below.refl _ _))) (fun hHeld => ?_)
        obtain ⟨wd, hd⟩ : ∃ wd, w12.drew = wd := ⟨_, rfl⟩
        have bd : Below w12.heap.size w12 wd := hd ▸ Below.drew (Below.refl _ _)
        have szd := bd.size
        rw [hd] at hHeld ⊢
        clear hd
        refine tk 0 81 (v := ?_) rfl (hy := .inl ⟨by rfl, ?_⟩) (h := ?_); rotate_left
        · intro w hSw; (try dsimp only at hSw); go_simp; (try with_reducible rfl)
        simp only [Act.put, List.setIfInBounds_toArray, List.set_cons_zero, List.set_cons_succ]
        refine tk 2 83 (v := ?_) rfl (hy := .inl ⟨by rfl, ?_⟩) (h := ?_); rotate_left
        · intro w hSw; (try dsimp only at hSw); go_simp; (try with_reducible rfl)
        simp only [Act.put, List.setIfInBounds_toArray, List.set_cons_zero, List.set_cons_succ]
        refine tk 4 85 (v := ?_) rfl (hy := .inl ⟨by rfl, ?_⟩) (h := ?_); rotate_left
        · intro w hSw; (try dsimp only at hSw); go_simp; (try with_reducible rfl)
        simp only [Act.put, List.setIfInBounds_toArray, List.set_cons_zero, List.set_cons_succ]
        refine wpAnyH_ready (rs := [1, 7]) (by kernel_rfl) (by simp) (AllReadyH.cons rfl (fun KK hKK => ?_) (AllReadyH.cons rfl (fun KK hKK => ?_) AllReadyH.nil))
        · go_simp
          have hgo := bd
          refine (unhide TC _).mono ?_
          rintro e wc31_1 ⟨rfl, bnew⟩
          have bc31_2 : Below w12.heap.size w12 wc31_1 := bd.trans (bnew.mono bd.size)
          have zzwc31_1 := bnew.size
          clear hHeld bnew hgo
          refine hKK.out _ _ (unhide K _ bc31_2) (fun hHeld => ?_)
          clear hKK KK
          refine wpAnyH_ready (rs := [3, 7]) (by kernel_rfl) (by simp) (AllReadyH.cons rfl (fun KK hKK => ?_) (AllReadyH.cons rfl (fun KK hKK => ?_) AllReadyH.nil))
          · go_simp
            have hgo := bc31_2
            refine (unhide TA _ ((unhide HA).below (Bw12.trans (hgo.mono Bw12.size)) (Nat.le_refl _))).mono ?_
            rintro e wc31_3 ⟨vv1, rfl, oq1, bnew⟩
            have bc31_4 : Below w12.heap.size w12 wc31_3 := bc31_2.trans (bnew.mono bc31_2.size)
            have zzwc31_3 := bnew.size
            obtain ⟨aq, kq, rfl⟩ := oq1.form
            clear hHeld bnew hgo
            refine hKK.out _ _ (unhide K _ bc31_4) (fun hHeld => ?_)
            clear hKK KK
            refine wpAnyH_ready (rs := [5, 7]) (by kernel_rfl) (by simp) (AllReadyH.cons rfl (fun KK hKK => ?_) (AllReadyH.cons rfl (fun KK hKK => ?_) AllReadyH.nil))
            · go_simp
              have hgo := bc31_4
              refine (unhide TB _ ((unhide HB).below (Bw12.trans (hgo.mono Bw12.size)) (Nat.le_refl _))).mono ?_
              rintro e wc31_5 ⟨vv2, rfl, oq2, bnew⟩
              have bc31_6 : Below w12.heap.size w12 wc31_5 := bc31_4.trans (bnew.mono bc31_4.size)
              have zzwc31_5 := bnew.size
              replace oq1 := oq1.below bnew
              obtain ⟨ar, kr, rfl⟩ := oq2.form
              clear hHeld bnew hgo
              refine hKK.out _ _ (unhide K _ bc31_6) (fun hHeld => ?_)
              clear hKK KK
              refine wpAnyH_ready (rs := [6, 7]) (by kernel_rfl) (by simp) (AllReadyH.cons rfl (fun KK hKK => ?_) (AllReadyH.cons rfl (fun KK hKK => ?_) AllReadyH.nil))
              · go_simp
                have hgo := bc31_6
                refine (unhide IM _ _ _ _ _ ((unhide HE).below (Bw12.trans (hgo.mono Bw12.size))) (oq1.ri (by omega)) (oq2.ri (by omega))).mono ?_
                rintro e wc31_7 ⟨vv3, rfl, oq3, bnew⟩
                have bc31_8 : Below w12.heap.size w12 wc31_7 := bc31_6.trans (bnew.mono bc31_6.size)
                have zzwc31_7 := bnew.size
                replace oq1 := oq1.below bnew
                replace oq2 := oq2.below bnew
                have tl := World.ownsRow.lt oq3
                obtain ⟨aa, kk, rfl⟩ := oq3.form
                clear hHeld bnew hgo
                refine hKK.out _ _ (unhide K _ bc31_8) (fun hHeld => ?_)
                clear hKK KK
                refine ready_at (i := 7) rfl (by kernel_rfl) (fun KK hKK => ?_)
                go_simp
                obtain ⟨wl31_9, hwl31_9⟩ : ∃ x, wc31_7.alloc (.cells #[.int .i64 0, .int .i64 0, .int .i64 0, .string ⟨#[]⟩, .slice none 0 0, .string ⟨#[]⟩] 60) = x := ⟨_, rfl⟩
                have cbl31_10 : Below wc31_7.heap.size wc31_7 wl31_9 := hwl31_9 ▸ qalloc _ _
                have bl31_10 : Below w12.heap.size w12 wl31_9 := bc31_8.trans (cbl31_10.mono bc31_8.size)
                have zzwl31_9 : wl31_9.heap.size = wc31_7.heap.size + 1 := by rw [← hwl31_9]; simp
                have lg : Loc wl31_9 wc31_7.heap.size #[.int .i64 0, .int .i64 0, .int .i64 0, .string ⟨#[]⟩, .slice none 0 0, .string ⟨#[]⟩] := hwl31_9 ▸ loc_at wc31_7 _ _ rfl
                replace oq1 := oq1.below cbl31_10
                replace oq2 := oq2.below cbl31_10
                replace oq3 := oq3.below cbl31_10
                rw [hwl31_9]
                clear hHeld hwl31_9 cbl31_10
                refine hKK.out _ _ (unhide K _ bl31_10) (fun hHeld => ?_)
                clear hKK KK
                have q0 := lg.cell 0 rfl
                have q1 := lg.cell 1 rfl
                have q2 := lg.cell 2 rfl
                have q3 := lg.cell 3 rfl
                have q4 := lg.cell 4 rfl
                have q5 := lg.cell 5 rfl
                have FG := lg.frozen
                refine ready_at (i := 8) rfl (by kernel_rfl) (fun KK hKK => ?_)
                go_simp
                have bs : Below w12.heap.size w12 ((((((wl31_9.setCell ⟨wc31_7.heap.size, 0, none⟩ (.int .i64 vo)).setCell ⟨wc31_7.heap.size, 1, none⟩ (.int .i64 l1)).setCell ⟨wc31_7.heap.size, 2, none⟩ (.int .i64 n1)).setCell ⟨wc31_7.heap.size, 3, none⟩ (.string s1)).setCell ⟨wc31_7.heap.size, 4, none⟩ (.slice aa (x1).length kk)).setCell ⟨wc31_7.heap.size, 5, none⟩ (.string e1)) := (Below.set (Below.set (Below.set (Below.set (Below.set (Below.set bl31_10 _ _ (by omega)) _ _ (by omega)) _ _ (by omega)) _ _ (by omega)) _ _ (by omega)) _ _ (by omega))
                clear hHeld
                refine hKK.out _ _ (unhide K _ bs) (fun hHeld => ?_)
                clear hKK KK
                clear hHeld
                refine wpAnyH_done (by kernel_rfl) ?_ _
                refine NoPanic.normal ?_
                go_wp2_with fail
                go_meet
                have k3 : Kp wl31_9 ((((((wl31_9.setCell ⟨wc31_7.heap.size, 0, none⟩ (.int .i64 vo)).setCell ⟨wc31_7.heap.size, 1, none⟩ (.int .i64 l1)).setCell ⟨wc31_7.heap.size, 2, none⟩ (.int .i64 n1)).setCell ⟨wc31_7.heap.size, 3, none⟩ (.string s1)).setCell ⟨wc31_7.heap.size, 4, none⟩ (.slice aa (x1).length kk)).setCell ⟨wc31_7.heap.size, 5, none⟩ (.string e1)) (fun k => k = wc31_7.heap.size) := (((((set_kp _ _ _ _).trans (set_kp _ _ _ _)).trans (set_kp _ _ _ _)).trans (set_kp _ _ _ _)).trans (set_kp _ _ _ _)).trans (set_kp _ _ _ _)
                have ll := lg.lt
                exact ⟨_, _, rfl, by omega, by simpa using ll, ((((((lg.set 0 _ rfl).set 1 _ rfl).set 2 _ rfl).set 3 _ rfl).set 4 _ rfl).set 5 _ rfl), (oq3.kp k3 (fun j hj e => by have := tl j hj; omega)).mono (by omega), fun j hj => by have := tl j hj; simp; omega, bs⟩
              · go_simp
                obtain ⟨wl31_11, hwl31_11⟩ : ∃ x, wc31_5.alloc (.cells #[.int .i64 0, .int .i64 0, .int .i64 0, .string ⟨#[]⟩, .slice none 0 0, .string ⟨#[]⟩] 60) = x := ⟨_, rfl⟩
                have cbl31_12 : Below wc31_5.heap.size wc31_5 wl31_11 := hwl31_11 ▸ qalloc _ _
                have bl31_12 : Below w12.heap.size w12 wl31_11 := bc31_6.trans (cbl31_12.mono bc31_6.size)
                have zzwl31_11 : wl31_11.heap.size = wc31_5.heap.size + 1 := by rw [← hwl31_11]; simp
                have lg : Loc wl31_11 wc31_5.heap.size #[.int .i64 0, .int .i64 0, .int .i64 0, .string ⟨#[]⟩, .slice none 0 0, .string ⟨#[]⟩] := hwl31_11 ▸ loc_at wc31_5 _ _ rfl
                replace oq1 := oq1.below cbl31_12
                replace oq2 := oq2.below cbl31_12
                rw [hwl31_11]
                clear hHeld hwl31_11 cbl31_12
                refine hKK.out _ _ (unhide K _ bl31_12) (fun hHeld => ?_)
                clear hKK KK
                refine ready_at (i := 6) rfl (by kernel_rfl) (fun KK hKK => ?_)
                go_simp
                have hgo := bl31_12
                refine (unhide IM _ _ _ _ _ ((unhide HE).below (Bw12.trans (hgo.mono Bw12.size))) (oq1.ri (by omega)) (oq2.ri (by omega))).mono ?_
                rintro e wc31_13 ⟨vv3, rfl, oq3, bnew⟩
                have bc31_14 : Below w12.heap.size w12 wc31_13 := bl31_12.trans (bnew.mono bl31_12.size)
                have zzwc31_13 := bnew.size
                replace oq1 := oq1.below bnew
                replace oq2 := oq2.below bnew
                replace lg := lg.below bnew lg.lt
                have tl := World.ownsRow.lt oq3
                obtain ⟨aa, kk, rfl⟩ := oq3.form
                clear hHeld bnew hgo
                refine hKK.out _ _ (unhide K _ bc31_14) (fun hHeld => ?_)
                clear hKK KK
                have q0 := lg.cell 0 rfl
                have q1 := lg.cell 1 rfl
                have q2 := lg.cell 2 rfl
                have q3 := lg.cell 3 rfl
                have q4 := lg.cell 4 rfl
                have q5 := lg.cell 5 rfl
                have FG := lg.frozen
                refine ready_at (i := 8) rfl (by kernel_rfl) (fun KK hKK => ?_)
                go_simp
                have bs : Below w12.heap.size w12 ((((((wc31_13.setCell ⟨wc31_5.heap.size, 0, none⟩ (.int .i64 vo)).setCell ⟨wc31_5.heap.size, 1, none⟩ (.int .i64 l1)).setCell ⟨wc31_5.heap.size, 2, none⟩ (.int .i64 n1)).setCell ⟨wc31_5.heap.size, 3, none⟩ (.string s1)).setCell ⟨wc31_5.heap.size, 4, none⟩ (.slice aa (x1).length kk)).setCell ⟨wc31_5.heap.size, 5, none⟩ (.string e1)) := (Below.set (Below.set (Below.set (Below.set (Below.set (Below.set bc31_14 _ _ (by omega)) _ _ (by omega)) _ _ (by omega)) _ _ (by omega)) _ _ (by omega)) _ _ (by omega))
                clear hHeld
                refine hKK.out _ _ (unhide K _ bs) (fun hHeld => ?_)
                clear hKK KK
                clear hHeld
                refine wpAnyH_done (by kernel_rfl) ?_ _
                refine NoPanic.normal ?_
                go_wp2_with fail
                go_meet
                have k3 : Kp wc31_13 ((((((wc31_13.setCell ⟨wc31_5.heap.size, 0, none⟩ (.int .i64 vo)).setCell ⟨wc31_5.heap.size, 1, none⟩ (.int .i64 l1)).setCell ⟨wc31_5.heap.size, 2, none⟩ (.int .i64 n1)).setCell ⟨wc31_5.heap.size, 3, none⟩ (.string s1)).setCell ⟨wc31_5.heap.size, 4, none⟩ (.slice aa (x1).length kk)).setCell ⟨wc31_5.heap.size, 5, none⟩ (.string e1)) (fun k => k = wc31_5.heap.size) := (((((set_kp _ _ _ _).trans (set_kp _ _ _ _)).trans (set_kp _ _ _ _)).trans (set_kp _ _ _ _)).trans (set_kp _ _ _ _)).trans (set_kp _ _ _ _)
                have ll := lg.lt
                exact ⟨_, _, rfl, by omega, by simpa using ll, ((((((lg.set 0 _ rfl).set 1 _ rfl).set 2 _ rfl).set 3 _ rfl).set 4 _ rfl).set 5 _ rfl), (oq3.kp k3 (fun j hj e => by have := tl j hj; omega)).mono (by omega), fun j hj => by have := tl j hj; simp; omega, bs⟩
            · go_simp
              obtain ⟨wl31_15, hwl31_15⟩ : ∃ x, wc31_3.alloc (.cells #[.int .i64 0, .int .i64 0, .int .i64 0, .string ⟨#[]⟩, .slice none 0 0, .string ⟨#[]⟩] 60) = x := ⟨_, rfl⟩
              have cbl31_16 : Below wc31_3.heap.size wc31_3 wl31_15 := hwl31_15 ▸ qalloc _ _
              have bl31_16 : Below w12.heap.size w12 wl31_15 := bc31_4.trans (cbl31_16.mono bc31_4.size)
              have zzwl31_15 : wl31_15.heap.size = wc31_3.heap.size + 1 := by rw [← hwl31_15]; simp
              have lg : Loc wl31_15 wc31_3.heap.size #[.int .i64 0, .int .i64 0, .int .i64 0, .string ⟨#[]⟩, .slice none 0 0, .string ⟨#[]⟩] := hwl31_15 ▸ loc_at wc31_3 _ _ rfl
              replace oq1 := oq1.below cbl31_16
              rw [hwl31_15]
              clear hHeld hwl31_15 cbl31_16
              refine hKK.out _ _ (unhide K _ bl31_16) (fun hHeld => ?_)
              clear hKK KK
              refine ready_at (i := 5) rfl (by kernel_rfl) (fun KK hKK => ?_)
              go_simp
              have hgo := bl31_16
              refine (unhide TB _ ((unhide HB).below (Bw12.trans (hgo.mono Bw12.size)) (Nat.le_refl _))).mono ?_
              rintro e wc31_17 ⟨vv2, rfl, oq2, bnew⟩
              have bc31_18 : Below w12.heap.size w12 wc31_17 := bl31_16.trans (bnew.mono bl31_16.size)
              have zzwc31_17 := bnew.size
              replace oq1 := oq1.below bnew
              replace lg := lg.below bnew lg.lt
              obtain ⟨ar, kr, rfl⟩ := oq2.form
              clear hHeld bnew hgo
              refine hKK.out _ _ (unhide K _ bc31_18) (fun hHeld => ?_)
              clear hKK KK
              refine ready_at (i := 6) rfl (by kernel_rfl) (fun KK hKK => ?_)
              go_simp
              have hgo := bc31_18
              refine (unhide IM _ _ _ _ _ ((unhide HE).below (Bw12.trans (hgo.mono Bw12.size))) (oq1.ri (by omega)) (oq2.ri (by omega))).mono ?_
              rintro e wc31_19 ⟨vv3, rfl, oq3, bnew⟩
              have bc31_20 : Below w12.heap.size w12 wc31_19 := bc31_18.trans (bnew.mono bc31_18.size)
              have zzwc31_19 := bnew.size
              replace oq1 := oq1.below bnew
              replace oq2 := oq2.below bnew
              replace lg := lg.below bnew lg.lt
              have tl := World.ownsRow.lt oq3
              obtain ⟨aa, kk, rfl⟩ := oq3.form
              clear hHeld bnew hgo
              refine hKK.out _ _ (unhide K _ bc31_20) (fun hHeld => ?_)
              clear hKK KK
              have q0 := lg.cell 0 rfl
              have q1 := lg.cell 1 rfl
              have q2 := lg.cell 2 rfl
              have q3 := lg.cell 3 rfl
              have q4 := lg.cell 4 rfl
              have q5 := lg.cell 5 rfl
              have FG := lg.frozen
              refine ready_at (i := 8) rfl (by kernel_rfl) (fun KK hKK => ?_)
              go_simp
              have bs : Below w12.heap.size w12 ((((((wc31_19.setCell ⟨wc31_3.heap.size, 0, none⟩ (.int .i64 vo)).setCell ⟨wc31_3.heap.size, 1, none⟩ (.int .i64 l1)).setCell ⟨wc31_3.heap.size, 2, none⟩ (.int .i64 n1)).setCell ⟨wc31_3.heap.size, 3, none⟩ (.string s1)).setCell ⟨wc31_3.heap.size, 4, none⟩ (.slice aa (x1).length kk)).setCell ⟨wc31_3.heap.size, 5, none⟩ (.string e1)) := (Below.set (Below.set (Below.set (Below.set (Below.set (Below.set bc31_20 _ _ (by omega)) _ _ (by omega)) _ _ (by omega)) _ _ (by omega)) _ _ (by omega)) _ _ (by omega))
              clear hHeld
              refine hKK.out _ _ (unhide K _ bs) (fun hHeld => ?_)
              clear hKK KK
              clear hHeld
              refine wpAnyH_done (by kernel_rfl) ?_ _
              refine NoPanic.normal ?_
              go_wp2_with fail
              go_meet
              have k3 : Kp wc31_19 ((((((wc31_19.setCell ⟨wc31_3.heap.size, 0, none⟩ (.int .i64 vo)).setCell ⟨wc31_3.heap.size, 1, none⟩ (.int .i64 l1)).setCell ⟨wc31_3.heap.size, 2, none⟩ (.int .i64 n1)).setCell ⟨wc31_3.heap.size, 3, none⟩ (.string s1)).setCell ⟨wc31_3.heap.size, 4, none⟩ (.slice aa (x1).length kk)).setCell ⟨wc31_3.heap.size, 5, none⟩ (.string e1)) (fun k => k = wc31_3.heap.size) := (((((set_kp _ _ _ _).trans (set_kp _ _ _ _)).trans (set_kp _ _ _ _)).trans (set_kp _ _ _ _)).trans (set_kp _ _ _ _)).trans (set_kp _ _ _ _)
              have ll := lg.lt
              exact ⟨_, _, rfl, by omega, by simpa using ll, ((((((lg.set 0 _ rfl).set 1 _ rfl).set 2 _ rfl).set 3 _ rfl).set 4 _ rfl).set 5 _ rfl), (oq3.kp k3 (fun j hj e => by have := tl j hj; omega)).mono (by omega), fun j hj => by have := tl j hj; simp; omega, bs⟩
          · go_simp
            obtain ⟨wl31_21, hwl31_21⟩ : ∃ x, wc31_1.alloc (.cells #[.int .i64 0, .int .i64 0, .int .i64 0, .string ⟨#[]⟩, .slice none 0 0, .string ⟨#[]⟩] 60) = x := ⟨_, rfl⟩
            have cbl31_22 : Below wc31_1.heap.size wc31_1 wl31_21 := hwl31_21 ▸ qalloc _ _
            have bl31_22 : Below w12.heap.size w12 wl31_21 := bc31_2.trans (cbl31_22.mono bc31_2.size)
            have zzwl31_21 : wl31_21.heap.size = wc31_1.heap.size + 1 := by rw [← hwl31_21]; simp
            have lg : Loc wl31_21 wc31_1.heap.size #[.int .i64 0, .int .i64 0, .int .i64 0, .string ⟨#[]⟩, .slice none 0 0, .string ⟨#[]⟩] := hwl31_21 ▸ loc_at wc31_1 _ _ rfl
            rw [hwl31_21]
            clear hHeld hwl31_21 cbl31_22
            refine hKK.out _ _ (unhide K _ bl31_22) (fun hHeld => ?_)
            clear hKK KK
            refine ready_at (i := 3) rfl (by kernel_rfl) (fun KK hKK => ?_)
            go_simp
            have hgo := bl31_22
            refine (unhide TA _ ((unhide HA).below (Bw12.trans (hgo.mono Bw12.size)) (Nat.le_refl _))).mono ?_
            rintro e wc31_23 ⟨vv1, rfl, oq1, bnew⟩
            have bc31_24 : Below w12.heap.size w12 wc31_23 := bl31_22.trans (bnew.mono bl31_22.size)
            have zzwc31_23 := bnew.size
            replace lg := lg.below bnew lg.lt
            obtain ⟨aq, kq, rfl⟩ := oq1.form
            clear hHeld bnew hgo
            refine hKK.out _ _ (unhide K _ bc31_24) (fun hHeld => ?_)
            clear hKK KK
            refine ready_at (i := 5) rfl (by kernel_rfl) (fun KK hKK => ?_)
            go_simp
            have hgo := bc31_24
            refine (unhide TB _ ((unhide HB).below (Bw12.trans (hgo.mono Bw12.size)) (Nat.le_refl _))).mono ?_
            rintro e wc31_25 ⟨vv2, rfl, oq2, bnew⟩
            have bc31_26 : Below w12.heap.size w12 wc31_25 := bc31_24.trans (bnew.mono bc31_24.size)
            have zzwc31_25 := bnew.size
            replace oq1 := oq1.below bnew
            replace lg := lg.below bnew lg.lt
            obtain ⟨ar, kr, rfl⟩ := oq2.form
            clear hHeld bnew hgo
            refine hKK.out _ _ (unhide K _ bc31_26) (fun hHeld => ?_)
            clear hKK KK
            refine ready_at (i := 6) rfl (by kernel_rfl) (fun KK hKK => ?_)
            go_simp
            have hgo := bc31_26
            refine (unhide IM _ _ _ _ _ ((unhide HE).below (Bw12.trans (hgo.mono Bw12.size))) (oq1.ri (by omega)) (oq2.ri (by omega))).mono ?_
            rintro e wc31_27 ⟨vv3, rfl, oq3, bnew⟩
            have bc31_28 : Below w12.heap.size w12 wc31_27 := bc31_26.trans (bnew.mono bc31_26.size)
            have zzwc31_27 := bnew.size
            replace oq1 := oq1.below bnew
            replace oq2 := oq2.below bnew
            replace lg := lg.below bnew lg.lt
            have tl := World.ownsRow.lt oq3
            obtain ⟨aa, kk, rfl⟩ := oq3.form
            clear hHeld bnew hgo
            refine hKK.out _ _ (unhide K _ bc31_28) (fun hHeld => ?_)
            clear hKK KK
            have q0 := lg.cell 0 rfl
            have q1 := lg.cell 1 rfl
            have q2 := lg.cell 2 rfl
            have q3 := lg.cell 3 rfl
            have q4 := lg.cell 4 rfl
            have q5 := lg.cell 5 rfl
            have FG := lg.frozen
            refine ready_at (i := 8) rfl (by kernel_rfl) (fun KK hKK => ?_)
            go_simp
            have bs : Below w12.heap.size w12 ((((((wc31_27.setCell ⟨wc31_1.heap.size, 0, none⟩ (.int .i64 vo)).setCell ⟨wc31_1.heap.size, 1, none⟩ (.int .i64 l1)).setCell ⟨wc31_1.heap.size, 2, none⟩ (.int .i64 n1)).setCell ⟨wc31_1.heap.size, 3, none⟩ (.string s1)).setCell ⟨wc31_1.heap.size, 4, none⟩ (.slice aa (x1).length kk)).setCell ⟨wc31_1.heap.size, 5, none⟩ (.string e1)) := (Below.set (Below.set (Below.set (Below.set (Below.set (Below.set bc31_28 _ _ (by omega)) _ _ (by omega)) _ _ (by omega)) _ _ (by omega)) _ _ (by omega)) _ _ (by omega))
            clear hHeld
            refine hKK.out _ _ (unhide K _ bs) (fun hHeld => ?_)
            clear hKK KK
            clear hHeld
            refine wpAnyH_done (by kernel_rfl) ?_ _
            refine NoPanic.normal ?_
            go_wp2_with fail
            go_meet
            have k3 : Kp wc31_27 ((((((wc31_27.setCell ⟨wc31_1.heap.size, 0, none⟩ (.int .i64 vo)).setCell ⟨wc31_1.heap.size, 1, none⟩ (.int .i64 l1)).setCell ⟨wc31_1.heap.size, 2, none⟩ (.int .i64 n1)).setCell ⟨wc31_1.heap.size, 3, none⟩ (.string s1)).setCell ⟨wc31_1.heap.size, 4, none⟩ (.slice aa (x1).length kk)).setCell ⟨wc31_1.heap.size, 5, none⟩ (.string e1)) (fun k => k = wc31_1.heap.size) := (((((set_kp _ _ _ _).trans (set_kp _ _ _ _)).trans (set_kp _ _ _ _)).trans (set_kp _ _ _ _)).trans (set_kp _ _ _ _)).trans (set_kp _ _ _ _)
            have ll := lg.lt
            exact ⟨_, _, rfl, by omega, by simpa using ll, ((((((lg.set 0 _ rfl).set 1 _ rfl).set 2 _ rfl).set 3 _ rfl).set 4 _ rfl).set 5 _ rfl), (oq3.kp k3 (fun j hj e => by have := tl j hj; omega)).mono (by omega), fun j hj => by have := tl j hj; simp; omega, bs⟩
        · go_simp
          obtain ⟨wl31_29, hwl31_29⟩ : ∃ x, wd.alloc (.cells #[.int .i64 0, .int .i64 0, .int .i64 0, .string ⟨#[]⟩, .slice none 0 0, .string ⟨#[]⟩] 60) = x := ⟨_, rfl⟩
          have cbl31_30 : Below wd.heap.size wd wl31_29 := hwl31_29 ▸ qalloc _ _
          have bl31_30 : Below w12.heap.size w12 wl31_29 := bd.trans (cbl31_30.mono bd.size)
          have zzwl31_29 : wl31_29.heap.size = wd.heap.size + 1 := by rw [← hwl31_29]; simp
          have lg : Loc wl31_29 wd.heap.size #[.int .i64 0, .int .i64 0, .int .i64 0, .string ⟨#[]⟩, .slice none 0 0, .string ⟨#[]⟩] := hwl31_29 ▸ loc_at wd _ _ rfl
          rw [hwl31_29]
          clear hHeld hwl31_29 cbl31_30
          refine hKK.out _ _ (unhide K _ bl31_30) (fun hHeld => ?_)
          clear hKK KK
          refine ready_at (i := 1) rfl (by kernel_rfl) (fun KK hKK => ?_)
          go_simp
          have hgo := bl31_30
          refine (unhide TC _).mono ?_
          rintro e wc31_31 ⟨rfl, bnew⟩
          have bc31_32 : Below w12.heap.size w12 wc31_31 := bl31_30.trans (bnew.mono bl31_30.size)
          have zzwc31_31 := bnew.size
          replace lg := lg.below bnew lg.lt
          clear hHeld bnew hgo
          refine hKK.out _ _ (unhide K _ bc31_32) (fun hHeld => ?_)
          clear hKK KK
          refine ready_at (i := 3) rfl (by kernel_rfl) (fun KK hKK => ?_)
          go_simp
          have hgo := bc31_32
          refine (unhide TA _ ((unhide HA).below (Bw12.trans (hgo.mono Bw12.size)) (Nat.le_refl _))).mono ?_
          rintro e wc31_33 ⟨vv1, rfl, oq1, bnew⟩
          have bc31_34 : Below w12.heap.size w12 wc31_33 := bc31_32.trans (bnew.mono bc31_32.size)
          have zzwc31_33 := bnew.size
          replace lg := lg.below bnew lg.lt
          obtain ⟨aq, kq, rfl⟩ := oq1.form
          clear hHeld bnew hgo
          refine hKK.out _ _ (unhide K _ bc31_34) (fun hHeld => ?_)
          clear hKK KK
          refine ready_at (i := 5) rfl (by kernel_rfl) (fun KK hKK => ?_)
          go_simp
          have hgo := bc31_34
          refine (unhide TB _ ((unhide HB).below (Bw12.trans (hgo.mono Bw12.size)) (Nat.le_refl _))).mono ?_
          rintro e wc31_35 ⟨vv2, rfl, oq2, bnew⟩
          have bc31_36 : Below w12.heap.size w12 wc31_35 := bc31_34.trans (bnew.mono bc31_34.size)
          have zzwc31_35 := bnew.size
          replace oq1 := oq1.below bnew
          replace lg := lg.below bnew lg.lt
          obtain ⟨ar, kr, rfl⟩ := oq2.form
          clear hHeld bnew hgo
          refine hKK.out _ _ (unhide K _ bc31_36) (fun hHeld => ?_)
          clear hKK KK
          refine ready_at (i := 6) rfl (by kernel_rfl) (fun KK hKK => ?_)
          go_simp
          have hgo := bc31_36
          refine (unhide IM _ _ _ _ _ ((unhide HE).below (Bw12.trans (hgo.mono Bw12.size))) (oq1.ri (by omega)) (oq2.ri (by omega))).mono ?_
          rintro e wc31_37 ⟨vv3, rfl, oq3, bnew⟩
          have bc31_38 : Below w12.heap.size w12 wc31_37 := bc31_36.trans (bnew.mono bc31_36.size)
          have zzwc31_37 := bnew.size
          replace oq1 := oq1.below bnew
          replace oq2 := oq2.below bnew
          replace lg := lg.below bnew lg.lt
          have tl := World.ownsRow.lt oq3
          obtain ⟨aa, kk, rfl⟩ := oq3.form
          clear hHeld bnew hgo
          refine hKK.out _ _ (unhide K _ bc31_38) (fun hHeld => ?_)
          clear hKK KK
          have q0 := lg.cell 0 rfl
          have q1 := lg.cell 1 rfl
          have q2 := lg.cell 2 rfl
          have q3 := lg.cell 3 rfl
          have q4 := lg.cell 4 rfl
          have q5 := lg.cell 5 rfl
          have FG := lg.frozen
          refine ready_at (i := 8) rfl (by kernel_rfl) (fun KK hKK => ?_)
          go_simp
          have bs : Below w12.heap.size w12 ((((((wc31_37.setCell ⟨wd.heap.size, 0, none⟩ (.int .i64 vo)).setCell ⟨wd.heap.size, 1, none⟩ (.int .i64 l1)).setCell ⟨wd.heap.size, 2, none⟩ (.int .i64 n1)).setCell ⟨wd.heap.size, 3, none⟩ (.string s1)).setCell ⟨wd.heap.size, 4, none⟩ (.slice aa (x1).length kk)).setCell ⟨wd.heap.size, 5, none⟩ (.string e1)) := (Below.set (Below.set (Below.set (Below.set (Below.set (Below.set bc31_38 _ _ (by omega)) _ _ (by omega)) _ _ (by omega)) _ _ (by omega)) _ _ (by omega)) _ _ (by omega))
          clear hHeld
          refine hKK.out _ _ (unhide K _ bs) (fun hHeld => ?_)
          clear hKK KK
          clear hHeld
          refine wpAnyH_done (by kernel_rfl) ?_ _
          refine NoPanic.normal ?_
          go_wp2_with fail
          go_meet
          have k3 : Kp wc31_37 ((((((wc31_37.setCell ⟨wd.heap.size, 0, none⟩ (.int .i64 vo)).setCell ⟨wd.heap.size, 1, none⟩ (.int .i64 l1)).setCell ⟨wd.heap.size, 2, none⟩ (.int .i64 n1)).setCell ⟨wd.heap.size, 3, none⟩ (.string s1)).setCell ⟨wd.heap.size, 4, none⟩ (.slice aa (x1).length kk)).setCell ⟨wd.heap.size, 5, none⟩ (.string e1)) (fun k => k = wd.heap.size) := (((((set_kp _ _ _ _).trans (set_kp _ _ _ _)).trans (set_kp _ _ _ _)).trans (set_kp _ _ _ _)).trans (set_kp _ _ _ _)).trans (set_kp _ _ _ _)
          have ll := lg.lt
          exact ⟨_, _, rfl, by omega, by simpa using ll, ((((((lg.set 0 _ rfl).set 1 _ rfl).set 2 _ rfl).set 3 _ rfl).set 4 _ rfl).set 5 _ rfl), (oq3.kp k3 (fun j hj e => by have := tl j hj; omega)).mono (by omega), fun j hj => by have := tl j hj; simp; omega, bs⟩
      case rest =>
        clear K
        obtain ⟨wq31, hwq⟩ : ∃ x, x = wc := ⟨_, rfl⟩
        subst hwq
        obtain ⟨hH, vH, rfl, gH, eH, H, oH, toH, bb⟩ := hcut
        obtain ⟨aoH, koH, rfl⟩ := oH.form
        have Bwq31 := Bw12.trans (bb.mono Bw12.size)
        have swq31 := bb.size
        replace LC := LC.below bb LC.lt
        replace LA := LA.below bb LA.lt
        replace LB := LB.below bb LB.lt
        replace V := V.below bb V.lt
        replace X := X.below bb X.lt
        replace Y := Y.below bb Y.lt
        replace G := G.below bb G.lt
        replace oV := oV.below bb
        replace oG := oG.below bb
        clear Bw12
        clear bb
        clear IM
        have cH0 := H.cell 0 rfl
        have cH1 := H.cell 1 rfl
        have cH2 := H.cell 2 rfl
        have cH3 := H.cell 3 rfl
        have cH4 := H.cell 4 rfl
        have cH5 := H.cell 5 rfl
        have cV0 := V.cell 0 rfl
        have cV1 := V.cell 1 rfl
        have cV2 := V.cell 2 rfl
        have cV3 := V.cell 3 rfl
        have cV4 := V.cell 4 rfl
        have cV5 := V.cell 5 rfl
        go_wp2_with fail
        refine (eqSafe_yes vo l1 n1 s1 _ _ x1 e1 _ (oH.ri (by omega)) (oV.ri (by omega))).mono ?_
        rintro _ w13 ⟨rfl, bb⟩
        clear cH0 cH1 cH2 cH3 cH4 cH5 cV0 cV1 cV2 cV3 cV4 cV5
        have Bw13 := Bwq31.trans (bb.mono Bwq31.size)
        have sw13 := bb.size
        replace LC := LC.below bb LC.lt
        replace LA := LA.below bb LA.lt
        replace LB := LB.below bb LB.lt
        replace V := V.below bb V.lt
        replace X := X.below bb X.lt
        replace Y := Y.below bb Y.lt
        replace G := G.below bb G.lt
        replace H := H.below bb H.lt
        replace oV := oV.below bb
        replace oG := oG.below bb
        replace oH := oH.below bb
        clear Bwq31
        clear bb
        have cG0 := G.cell 0 rfl
        have cG1 := G.cell 1 rfl
        have cG2 := G.cell 2 rfl
        have cG3 := G.cell 3 rfl
        have cG4 := G.cell 4 rfl
        have cG5 := G.cell 5 rfl
        go_wp2_with fail
        refine (unhide HD _ _ (oG.ri (by rw [imarks_len]; omega))).mono ?_
        rintro _ w14 ⟨rfl, bb⟩
        clear cG0 cG1 cG2 cG3 cG4 cG5
        have Bw14 := Bw13.trans (bb.mono Bw13.size)
        have sw14 := bb.size
        replace LC := LC.below bb LC.lt
        replace LA := LA.below bb LA.lt
        replace LB := LB.below bb LB.lt
        replace V := V.below bb V.lt
        replace X := X.below bb X.lt
        replace Y := Y.below bb Y.lt
        replace G := G.below bb G.lt
        replace H := H.below bb H.lt
        replace oV := oV.below bb
        replace oG := oG.below bb
        replace oH := oH.below bb
        clear Bw13
        clear bb
        go_wp2
        go_ret
        exact ⟨rfl, Bw14⟩

set_option maxHeartbeats 16000000 in
set_option maxRecDepth 100000 in
theorem fnSee_long1 (n f vo lo v : Int) (s : ByteArray) (ao : Option Addr) (ca k : Nat) (d : ByteArray) (v' : Int) (s' : ByteArray) (bo : Option Addr) (cb k' : Nat) (w : World) (h : 1048576 < s.size + k + d.size) (hs : s.size ≤ maxLen) (hk : k ≤ maxLen) (hd : d.size ≤ maxLen) :
    Calls Tryz.prog 10 #[cv n f, sv vo lo v s (.slice ao k ca) d, qv v' s' (.slice bo k' cb)] w fun e w' => e = .returned (.bool true) ∧ Below w.heap.size w w' := by
  unfold maxLen at *
  have ZA := hide fun w => szSafe_no vo lo v s ao k ca d 1048576 w (by omega) (by omega) (by omega) (by omega) (by omega) (by omega)
  have B0 : Below w.heap.size w (((w.alloc (.cells #[.int .i64 n, .int .i64 f] 88)).alloc (.cells #[.int .i64 vo, .int .i64 lo, .int .i64 v, .string s, .slice ao k ca, .string d] 91)).alloc (.cells #[.int .i64 v', .string s', .slice bo k' cb] 89)) := (((Below.refl w.heap.size w).alloc (Nat.le_refl _) _).alloc (by simp) _).alloc (by simp; omega) _
  go_enter Tryz.func10, Tryz.ntmps10
  go_wp2_with fail
  refine (unhide ZA _).mono ?_
  rintro _ w1 ⟨rfl, b1⟩
  go_wp2
  go_ret
  exact ⟨rfl, B0.trans (b1.mono B0.size)⟩
set_option maxHeartbeats 16000000 in
set_option maxRecDepth 100000 in
theorem fnSee_long2 (n f vo lo v : Int) (s : ByteArray) (ao : Option Addr) (ca k : Nat) (d : ByteArray) (v' : Int) (s' : ByteArray) (bo : Option Addr) (cb k' : Nat) (w : World) (h0 : s.size + k + d.size ≤ 1048576) (h : 1048576 < s.size + k + d.size + (s'.size + k')) (hs' : s'.size ≤ maxLen) (hk' : k' ≤ maxLen) :
    Calls Tryz.prog 10 #[cv n f, sv vo lo v s (.slice ao k ca) d, qv v' s' (.slice bo k' cb)] w fun e w' => e = .returned (.bool true) ∧ Below w.heap.size w w' := by
  unfold maxLen at *
  have ZA := hide fun w => szSafe_yes vo lo v s ao k ca d 1048576 w (by omega) (by omega)
  have ZB := hide fun w => szQc_no v' s' bo k' cb (1048576 - s.size - k - d.size) w (by omega) (by omega) (by omega) (by omega) (by omega)
  have d1 : decide ((1048576 : Int) - (s.size : Int) - (k : Int) - (d.size : Int) < 0) = false := by simp; omega
  obtain ⟨w0, hw0⟩ : ∃ w0, (((w.alloc (.cells #[.int .i64 n, .int .i64 f] 88)).alloc (.cells #[.int .i64 vo, .int .i64 lo, .int .i64 v, .string s, .slice ao k ca, .string d] 91)).alloc (.cells #[.int .i64 v', .string s', .slice bo k' cb] 89)) = w0 := ⟨_, rfl⟩
  have Bw0 : Below w.heap.size w w0 := hw0 ▸ (((Below.refl _ _).alloc (Nat.le_refl _) _).alloc (by simp) _).alloc (by simp; omega) _
  have LC : Loc w0 (w.heap.size) #[.int .i64 n, .int .i64 f] := hw0 ▸ ((loc_at (w) _ _ rfl).alloc _).alloc _
  have LA : Loc w0 (w.heap.size + 1) #[.int .i64 vo, .int .i64 lo, .int .i64 v, .string s, .slice ao k ca, .string d] := hw0 ▸ (loc_at (w.alloc _) _ _ (by simp)).alloc _
  have LB : Loc w0 (w.heap.size + 1 + 1) #[.int .i64 v', .string s', .slice bo k' cb] := hw0 ▸ loc_at ((w.alloc _).alloc _) _ _ (by simp)
  have zw0 : w.heap.size + 1 + 1 + 1 ≤ w0.heap.size := by rw [← hw0]; simp
  go_enter Tryz.func10, Tryz.ntmps10
  have cLA0 := LA.cell 0 rfl
  have cLA1 := LA.cell 1 rfl
  have cLA2 := LA.cell 2 rfl
  have cLA3 := LA.cell 3 rfl
  have cLA4 := LA.cell 4 rfl
  have cLA5 := LA.cell 5 rfl
  go_wp2_with fail
  clear hw0
  refine (unhide ZA _).mono ?_
  rintro _ w1 ⟨rfl, bb⟩
  clear cLA0 cLA1 cLA2 cLA3 cLA4 cLA5
  have Bw1 := Bw0.trans (bb.mono Bw0.size)
  have sw1 := bb.size
  replace LC := LC.below bb LC.lt
  replace LA := LA.below bb LA.lt
  replace LB := LB.below bb LB.lt
  clear Bw0
  clear bb
  have cLB0 := LB.cell 0 rfl
  have cLB1 := LB.cell 1 rfl
  have cLB2 := LB.cell 2 rfl
  go_wp2_with fail
  refine (unhide ZB _).mono ?_
  rintro _ w2 ⟨rfl, bb⟩
  clear cLB0 cLB1 cLB2
  have Bw2 := Bw1.trans (bb.mono Bw1.size)
  have sw2 := bb.size
  replace LC := LC.below bb LC.lt
  replace LA := LA.below bb LA.lt
  replace LB := LB.below bb LB.lt
  clear Bw1
  clear bb
  go_wp2
  go_ret
  exact ⟨rfl, Bw2⟩
theorem fnSee_walk (n f : Int) (vo lo v : Int) (s : ByteArray) (ao : Option Addr) (ca : Nat) (xs : List Int) (d : ByteArray) (v' : Int) (s' : ByteArray) (bo : Option Addr) (cb : Nat) (ys : List Int) (w : World) (hs : s.size ≤ maxLen) (hx : xs.length ≤ maxLen) (hd : d.size ≤ maxLen) (ha : AIW w ao xs) (hs' : s'.size ≤ maxLen) (hy : ys.length ≤ maxLen) (hb : AIW w bo ys) (hE : Env w) :
    Calls Tryz.prog 10 #[cv n f, sv vo lo v s (.slice ao xs.length ca) d, qv v' s' (.slice bo ys.length cb)] w fun e w' => e = .returned (.bool true) ∧ Below w.heap.size w w' := by
  by_cases h1 : s.size + xs.length + d.size ≤ 1048576
  · by_cases h2 : s.size + xs.length + d.size + s'.size + ys.length ≤ 1048576
    · exact fnSee_short n f vo lo v s ao ca xs d v' s' bo cb ys w h2 hE (ha.ri (by omega)) (hb.ri (by omega))
    · exact fnSee_long2 n f vo lo v s ao ca _ d v' s' bo cb _ w h1 (by omega) hs' hy
  · exact fnSee_long1 n f vo lo v s ao ca _ d v' s' bo cb _ w (by omega) hs hx hd
end Go.Proofs.YtgfboghieejbkaaGreatDoor
