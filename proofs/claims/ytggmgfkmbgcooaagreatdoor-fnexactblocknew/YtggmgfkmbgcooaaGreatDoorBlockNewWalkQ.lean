/- The walk of laws.FnExactBlockNew. -/
import Derived.Test.YtggmgfkmbgcooaaGreatDoorBlockNewsQ
import Derived.Test.YtggmgfkmbgcooaaGreatDoorBunO
import Derived.Test.YtggmgfkmbgcooaaGreatDoorBunM
/- The walk of laws.FnExactBlockNew. -/
namespace Go.Proofs.YtggmgfkmbgcooaaGreatDoor
open Go.RowKit
set_option linter.unusedSectionVars false
variable [∀ (a b c d : Int), Decidable (Ok4 a b c d)]
variable [∀ (a b c d : Nat), Decidable (okN a b c d)]
variable [∀ (last : Int) (s : St), Decidable (GoodSt last s)]
variable [∀ (x : T4), Decidable (OkT x)]
variable [∀ (n : Int) (s : List Int), Decidable (OkL n s)]
variable [∀ (n f : Int), Decidable (COk n f)]
variable [∀ (ts : List T4), Decidable (AllOk ts)]

set_option maxHeartbeats 16000000 in
set_option maxRecDepth 100000 in
theorem fnBlockNew_short (n f v : Int) (s : ByteArray) (ao : Option Addr) (ca : Nat) (xs : List Int) (view : Int) (lo : Option Addr) (lc : Nat) (ts : List T4) (w : World) (hz : s.size + xs.length + ts.length ≤ 1048576) (h0 : -9223372036854775808 ≤ view) (h1 : view ≤ 9223372036854775807) (hE : Env w) (ha : RI w (.slice ao xs.length ca) xs) (hL : AR w lo ts) :
    Calls Tryz.prog 5 #[cv n f, qv v s (.slice ao xs.length ca), .int .i64 view, .slice lo ts.length lc] w fun e w' => e = .returned (.bool true) ∧ Below w.heap.size w w' := by
  have HA := hide ha
  have HE := hide hE
  have HL := hide hL
  have ZA := hide fun w => szQc_yes v s ao xs.length ca 1048576 w (by omega) (by omega)
  have ZL := hide fun w => szL_yes lo ts.length lc (1048576 - s.size - xs.length) w (by omega) (by omega)
  have TC := hide fun w => toConf_any n f w
  have TA := hide fun w h => toQc_any v s (.slice ao xs.length ca) xs w h
  have TL := hide fun w h => toTxS_any lo lc ts w (by omega) h
  have d1 : decide ((1048576 : Int) - (s.size : Int) - (xs.length : Int) < 0) = false := by simp; omega
  have d2 : decide ((1048576 : Int) - (s.size : Int) - (xs.length : Int) - (ts.length : Int) < 0) = false := by simp; omega
  have SP := hide fun a k lv w h h' => specBlockNew n f v s a k xs view lv ts w (by omega) (by omega) (by omega) h0 h1 h h'
  have IM := hide fun a k lv w h e h' => implBlockNew n f v s a k xs view lv ts w (by omega) (by omega) h0 h1 h e h'
  have hx1 : (if bnewB n f v s xs view ts then xs else []).length ≤ 1048576 := by split <;> first | omega | simp
  generalize (if bnewB n f v s xs view ts then nameAns s view ts else ⟨#[]⟩) = m1 at *
  generalize (if bnewB n f v s xs view ts then v else 0) = n1 at *
  generalize (if bnewB n f v s xs view ts then s else ⟨#[]⟩) = s1 at *
  generalize (if bnewB n f v s xs view ts then xs else []) = x1 at *
  generalize bnewB n f v s xs view ts = q at *
  have hq : (q != q) = false := by simp
  have MX : Hid (∀ base v' w, OI w base v' xs → Calls Tryz.prog 30 #[qv v s v', .int .i64 1] w fun e w' => e = .returned (.int .i64 (1 + (xs.length : Int))) ∧ OI w' base v' (imarks 1 xs.length) ∧ Kp w w' (fun k => v'.ownBlock = some k)) := hide fun base v' w h => markQc_any v s base v' xs 1 w (by omega) (by omega) h
  have ML : Hid (∀ base v' w, OT w base v' ts → Calls Tryz.prog 31 #[v', .int .i64 (1 + (xs.length : Int))] w fun e w' => e = .returned (.int .i64 (1 + (xs.length : Int) + (ts.length : Int) * 4)) ∧ Kp w w' (fun k => v'.ownBlock = some k)) := hide fun base v' w h => by have := tmark_any base (1 + xs.length) v' ts w (by omega) (by omega) h; simpa using this
  have MG : Hid (∀ base v' w, OI w base v' x1 → Calls Tryz.prog 32 #[bv m1 n1 s1 v', .int .i64 1] w fun e w' => e = .returned (.int .i64 (1 + (x1.length : Int))) ∧ OI w' base v' (imarks 1 x1.length) ∧ Kp w w' (fun k => v'.ownBlock = some k)) := hide fun base v' w h => markBlock_any m1 n1 s1 base v' x1 1 w (by omega) (by omega) h
  have HD := hide fun v' w h => heldBlock_any m1 n1 s1 v' x1.length w h
  have d3 : decide ((1 : Int) + (x1.length : Int) < 0) = false := by simp; omega
  have d4 : decide ((1 : Int) + (xs.length : Int) + (ts.length : Int) * 4 < 0) = false := by simp; omega
  obtain ⟨w0, hw0⟩ : ∃ w0, (w.alloc (.cells #[.int .i64 n, .int .i64 f] 45)).alloc (.cells #[.int .i64 v, .string s, .slice ao xs.length ca] 46) = w0 := ⟨_, rfl⟩
  have Bw0 : Below w.heap.size w w0 := hw0 ▸ qalloc2 _ _ _
  have LC : Loc w0 w.heap.size #[.int .i64 n, .int .i64 f] := hw0 ▸ (loc_at w _ _ rfl).alloc _
  have LA : Loc w0 (w.heap.size + 1) #[.int .i64 v, .string s, .slice ao xs.length ca] := hw0 ▸ loc_at (w.alloc _) _ _ (by simp)
  have z0 : w0.heap.size = w.heap.size + 1 + 1 := by rw [← hw0]; simp
  clear ha hE hL
  go_enter Tryz.func5, Tryz.ntmps5
  have cLA0 := LA.cell 0 rfl
  have cLA1 := LA.cell 1 rfl
  have cLA2 := LA.cell 2 rfl
  go_wp2_with fail
  clear hw0
  refine (unhide ZA _).mono ?_
  rintro _ w1 ⟨rfl, bb⟩
  clear cLA0 cLA1 cLA2
  have Bw1 := Bw0.trans (bb.mono Bw0.size)
  have sw1 := bb.size
  replace LC := LC.below bb LC.lt
  replace LA := LA.below bb LA.lt
  clear Bw0
  clear bb ZA
  go_wp2_with fail
  refine (unhide ZL _).mono ?_
  rintro _ w9 ⟨rfl, e9⟩
  rw [e9]
  clear e9 ZL
  have K : Hid (∀ w', Below w1.heap.size w1 w' → (fun w' => Below w1.heap.size w1 w' ∧ (w'.cell? ⟨w.heap.size, 0, none⟩ = some (.int .i64 n) ∧ w'.cell? ⟨w.heap.size, 1, none⟩ = some (.int .i64 f)) ∧ (w'.cell? ⟨w.heap.size + 1, 0, none⟩ = some (.int .i64 v) ∧ w'.cell? ⟨w.heap.size + 1, 1, none⟩ = some (.string s) ∧ w'.cell? ⟨w.heap.size + 1, 2, none⟩ = some (.slice ao xs.length ca))) w') := hide fun w' hb' => ⟨hb', ⟨(LC.below hb' LC.lt).cell 0 rfl, (LC.below hb' LC.lt).cell 1 rfl⟩, ⟨(LA.below hb' LA.lt).cell 0 rfl, (LA.below hb' LA.lt).cell 1 rfl, (LA.below hb' LA.lt).cell 2 rfl⟩⟩
  go_upto_region 8 with fail
  go_cut [10, 11] (fun c d1 wx => ∃ h uu, c = .pointer (some ⟨h, 0, none⟩) ∧ d1 = .bool q ∧ w1.heap.size ≤ h ∧ h < wx.heap.size ∧ Loc wx h #[.string m1, .int .i64 n1, .string s1, uu] ∧ OI wx w1.heap.size uu x1 ∧ (∀ j, uu.ownBlock = some j → w1.heap.size ≤ j ∧ j < wx.heap.size ∧ j ≠ h) ∧ Below w1.heap.size w1 wx)
  case first =>
    refine wp_region_noPanic ?_
    refine wp_region_held_drew (S := fun w' => Below w1.heap.size w1 w' ∧ (w'.cell? ⟨w.heap.size, 0, none⟩ = some (.int .i64 n) ∧ w'.cell? ⟨w.heap.size, 1, none⟩ = some (.int .i64 f)) ∧ (w'.cell? ⟨w.heap.size + 1, 0, none⟩ = some (.int .i64 v) ∧ w'.cell? ⟨w.heap.size + 1, 1, none⟩ = some (.string s) ∧ w'.cell? ⟨w.heap.size + 1, 2, none⟩ = some (.slice ao xs.length ca))) (by kernel_rfl) (unhide K _ (Below.drew (Below.refl _ _))) (fun hHeld => ?_)
    obtain ⟨wd, hd⟩ : ∃ wd, w1.drew = wd := ⟨_, rfl⟩
    have bd : Below w1.heap.size w1 wd := hd ▸ Below.drew (Below.refl _ _)
    have szd := bd.size
    rw [hd] at hHeld ⊢
    clear hd
    refine take_at (i := 0) (d := 32) (v := ?_) rfl rfl (by kernel_rfl) (by kernel_rfl) (by kernel_rfl) (fun _ _ _ h => h) (Or.inl ⟨by rfl, ?_⟩) (by assumption) ?_
    rotate_left
    · intro w hSw
      try dsimp only at hSw
      go_simp
      try with_reducible rfl
    simp only [Act.put, List.setIfInBounds_toArray, List.set_cons_zero, List.set_cons_succ]
    refine take_at (i := 2) (d := 34) (v := ?_) rfl rfl (by kernel_rfl) (by kernel_rfl) (by kernel_rfl) (fun _ _ _ h => h) (Or.inl ⟨by rfl, ?_⟩) (by assumption) ?_
    rotate_left
    · intro w hSw
      try dsimp only at hSw
      go_simp
      try with_reducible rfl
    simp only [Act.put, List.setIfInBounds_toArray, List.set_cons_zero, List.set_cons_succ]
    refine take_at (i := 4) (d := 36) (v := ?_) rfl rfl (by kernel_rfl) (by kernel_rfl) (by kernel_rfl) (fun _ _ _ h => h) (Or.inl ⟨by rfl, ?_⟩) (by assumption) ?_
    rotate_left
    · intro w hSw
      try dsimp only at hSw
      go_simp
      try with_reducible rfl
    simp only [Act.put, List.setIfInBounds_toArray, List.set_cons_zero, List.set_cons_succ]
    refine take_at (i := 5) (d := 37) (v := ?_) rfl rfl (by kernel_rfl) (by kernel_rfl) (by kernel_rfl) (fun _ _ _ h => h) (Or.inl ⟨by rfl, ?_⟩) (by assumption) ?_
    rotate_left
    · intro w hSw
      try dsimp only at hSw
      go_simp
      try with_reducible rfl
    simp only [Act.put, List.setIfInBounds_toArray, List.set_cons_zero, List.set_cons_succ]
    refine wpAnyH_ready (rs := [1, 11]) (by kernel_rfl) (by simp) (AllReadyH.cons rfl (fun KK hKK => ?_) (AllReadyH.cons rfl (fun KK hKK => ?_) AllReadyH.nil))
    · go_simp
      have hgo := bd
      refine (unhide TC _).mono ?_
      rintro e wc8_1 ⟨rfl, bnew⟩
      have bc8_2 : Below w1.heap.size w1 wc8_1 := bd.trans (bnew.mono bd.size)
      have zzwc8_1 := bnew.size
      clear hHeld bnew hgo
      refine hKK.out _ _ (unhide K _ bc8_2) (fun hHeld => ?_)
      clear hKK KK
      refine wpAnyH_ready (rs := [3, 11]) (by kernel_rfl) (by simp) (AllReadyH.cons rfl (fun KK hKK => ?_) (AllReadyH.cons rfl (fun KK hKK => ?_) AllReadyH.nil))
      · go_simp
        have hgo := bc8_2
        refine (unhide TA _ ((unhide HA).below (Bw1.trans (hgo.mono Bw1.size)) (Nat.le_refl _))).mono ?_
        rintro e wc8_3 ⟨vv1, rfl, oq1, bnew⟩
        have bc8_4 : Below w1.heap.size w1 wc8_3 := bc8_2.trans (bnew.mono bc8_2.size)
        have zzwc8_3 := bnew.size
        obtain ⟨aq, kq, rfl⟩ := oq1.form
        clear hHeld bnew hgo
        refine hKK.out _ _ (unhide K _ bc8_4) (fun hHeld => ?_)
        clear hKK KK
        refine wpAnyH_ready (rs := [6, 11]) (by kernel_rfl) (by simp) (AllReadyH.cons rfl (fun KK hKK => ?_) (AllReadyH.cons rfl (fun KK hKK => ?_) AllReadyH.nil))
        · go_simp
          have hgo := bc8_4
          refine (unhide TL _ ((unhide HL).below (Bw1.trans (hgo.mono Bw1.size)))).mono ?_
          rintro e wc8_5 ⟨vv2, rfl, ol1, bnew⟩
          have bc8_6 : Below w1.heap.size w1 wc8_5 := bc8_4.trans (bnew.mono bc8_4.size)
          have zzwc8_5 := bnew.size
          replace oq1 := oq1.below bnew
          clear hHeld bnew hgo
          refine hKK.out _ _ (unhide K _ bc8_6) (fun hHeld => ?_)
          clear hKK KK
          refine wpAnyH_ready (rs := [7, 11]) (by kernel_rfl) (by simp) (AllReadyH.cons rfl (fun KK hKK => ?_) (AllReadyH.cons rfl (fun KK hKK => ?_) AllReadyH.nil))
          · go_simp
            have hgo := bc8_6
            refine (unhide SP _ _ _ _ (ol1.rt (by omega)) (oq1.ri (by omega))).mono ?_
            rintro e wc8_7 ⟨vv3, rfl, oq3, bnew⟩
            have bc8_8 : Below w1.heap.size w1 wc8_7 := bc8_6.trans (bnew.mono bc8_6.size)
            have zzwc8_7 := bnew.size
            replace oq1 := oq1.below bnew
            replace ol1 := ol1.below bnew
            have tl := World.ownsRow.lt oq3
            obtain ⟨aa, kk, rfl⟩ := oq3.form
            clear hHeld bnew hgo
            refine hKK.out _ _ (unhide K _ bc8_8) (fun hHeld => ?_)
            clear hKK KK
            refine take_at (i := 8) (d := 31) (v := ?_) rfl rfl (by kernel_rfl) (by kernel_rfl) (by kernel_rfl) (fun _ _ _ h => h) (Or.inl ⟨by rfl, ?_⟩) (by assumption) ?_
            rotate_left
            · intro w hSw
              try dsimp only at hSw
              go_simp
              try with_reducible rfl
            simp only [Act.put, List.setIfInBounds_toArray, List.set_cons_zero, List.set_cons_succ]
            refine take_at (i := 9) (d := 40) (v := ?_) rfl rfl (by kernel_rfl) (by kernel_rfl) (by kernel_rfl) (fun _ _ _ h => h) (Or.inl ⟨by rfl, ?_⟩) (by assumption) ?_
            rotate_left
            · intro w hSw
              try dsimp only at hSw
              go_simp
              try with_reducible rfl
            simp only [Act.put, List.setIfInBounds_toArray, List.set_cons_zero, List.set_cons_succ]
            refine take_at (i := 10) (d := 41) (v := ?_) rfl rfl (by kernel_rfl) (by kernel_rfl) (by kernel_rfl) (fun _ _ _ h => h) (Or.inl ⟨by rfl, ?_⟩) (by assumption) ?_
            rotate_left
            · intro w hSw
              try dsimp only at hSw
              go_simp
              try with_reducible rfl
            simp only [Act.put, List.setIfInBounds_toArray, List.set_cons_zero, List.set_cons_succ]
            refine ready_at (i := 11) rfl (by kernel_rfl) (fun KK hKK => ?_)
            go_simp
            obtain ⟨wl8_9, hwl8_9⟩ : ∃ x, wc8_7.alloc (.cells #[.string ⟨#[]⟩, .int .i64 0, .string ⟨#[]⟩, .slice none 0 0] 30) = x := ⟨_, rfl⟩
            have cbl8_10 : Below wc8_7.heap.size wc8_7 wl8_9 := hwl8_9 ▸ qalloc _ _
            have bl8_10 : Below w1.heap.size w1 wl8_9 := bc8_8.trans (cbl8_10.mono bc8_8.size)
            have zzwl8_9 : wl8_9.heap.size = wc8_7.heap.size + 1 := by rw [← hwl8_9]; simp
            have lg : Loc wl8_9 wc8_7.heap.size #[.string ⟨#[]⟩, .int .i64 0, .string ⟨#[]⟩, .slice none 0 0] := hwl8_9 ▸ loc_at wc8_7 _ _ rfl
            replace oq1 := oq1.below cbl8_10
            replace ol1 := ol1.below cbl8_10
            replace oq3 := oq3.below cbl8_10
            rw [hwl8_9]
            clear hHeld hwl8_9 cbl8_10
            refine hKK.out _ _ (unhide K _ bl8_10) (fun hHeld => ?_)
            clear hKK KK
            have q0 := lg.cell 0 rfl
            have q1 := lg.cell 1 rfl
            have q2 := lg.cell 2 rfl
            have q3 := lg.cell 3 rfl
            have FG := lg.frozen
            refine ready_at (i := 12) rfl (by kernel_rfl) (fun KK hKK => ?_)
            go_simp
            have bs : Below w1.heap.size w1 ((((wl8_9.setCell ⟨wc8_7.heap.size, 0, none⟩ (.string m1)).setCell ⟨wc8_7.heap.size, 1, none⟩ (.int .i64 n1)).setCell ⟨wc8_7.heap.size, 2, none⟩ (.string s1)).setCell ⟨wc8_7.heap.size, 3, none⟩ (.slice aa (x1).length kk)) := (Below.set (Below.set (Below.set (Below.set bl8_10 _ _ (by omega)) _ _ (by omega)) _ _ (by omega)) _ _ (by omega))
            clear hHeld
            refine hKK.out _ _ (unhide K _ bs) (fun hHeld => ?_)
            clear hKK KK
            refine take_at (i := 13) (d := 11) (v := ?_) rfl rfl (by kernel_rfl) (by kernel_rfl) (by kernel_rfl) (fun _ _ _ h => h) (Or.inl ⟨by rfl, ?_⟩) (by assumption) ?_
            rotate_left
            · intro w hSw
              try dsimp only at hSw
              go_simp
              try with_reducible rfl
            simp only [Act.put, List.setIfInBounds_toArray, List.set_cons_zero, List.set_cons_succ]
            clear hHeld
            refine wpAnyH_done (by kernel_rfl) ?_ _
            refine NoPanic.normal ?_
            go_wp2_with fail
            go_meet
            have k3 : Kp wl8_9 ((((wl8_9.setCell ⟨wc8_7.heap.size, 0, none⟩ (.string m1)).setCell ⟨wc8_7.heap.size, 1, none⟩ (.int .i64 n1)).setCell ⟨wc8_7.heap.size, 2, none⟩ (.string s1)).setCell ⟨wc8_7.heap.size, 3, none⟩ (.slice aa (x1).length kk)) (fun k => k = wc8_7.heap.size) := (((set_kp _ _ _ _).trans (set_kp _ _ _ _)).trans (set_kp _ _ _ _)).trans (set_kp _ _ _ _)
            have ll := lg.lt
            exact ⟨_, _, rfl, rfl, by omega, by simpa using ll, ((((lg.set 0 _ rfl).set 1 _ rfl).set 2 _ rfl).set 3 _ rfl), (oq3.kp k3 (fun j hj e => by have := tl j hj; omega)).mono (by omega), fun j hj => by have := tl j hj; simp; omega, bs⟩
          · go_simp
            obtain ⟨wl8_11, hwl8_11⟩ : ∃ x, wc8_5.alloc (.cells #[.string ⟨#[]⟩, .int .i64 0, .string ⟨#[]⟩, .slice none 0 0] 30) = x := ⟨_, rfl⟩
            have cbl8_12 : Below wc8_5.heap.size wc8_5 wl8_11 := hwl8_11 ▸ qalloc _ _
            have bl8_12 : Below w1.heap.size w1 wl8_11 := bc8_6.trans (cbl8_12.mono bc8_6.size)
            have zzwl8_11 : wl8_11.heap.size = wc8_5.heap.size + 1 := by rw [← hwl8_11]; simp
            have lg : Loc wl8_11 wc8_5.heap.size #[.string ⟨#[]⟩, .int .i64 0, .string ⟨#[]⟩, .slice none 0 0] := hwl8_11 ▸ loc_at wc8_5 _ _ rfl
            replace oq1 := oq1.below cbl8_12
            replace ol1 := ol1.below cbl8_12
            rw [hwl8_11]
            clear hHeld hwl8_11 cbl8_12
            refine hKK.out _ _ (unhide K _ bl8_12) (fun hHeld => ?_)
            clear hKK KK
            refine ready_at (i := 7) rfl (by kernel_rfl) (fun KK hKK => ?_)
            go_simp
            have hgo := bl8_12
            refine (unhide SP _ _ _ _ (ol1.rt (by omega)) (oq1.ri (by omega))).mono ?_
            rintro e wc8_13 ⟨vv3, rfl, oq3, bnew⟩
            have bc8_14 : Below w1.heap.size w1 wc8_13 := bl8_12.trans (bnew.mono bl8_12.size)
            have zzwc8_13 := bnew.size
            replace oq1 := oq1.below bnew
            replace ol1 := ol1.below bnew
            replace lg := lg.below bnew lg.lt
            have tl := World.ownsRow.lt oq3
            obtain ⟨aa, kk, rfl⟩ := oq3.form
            clear hHeld bnew hgo
            refine hKK.out _ _ (unhide K _ bc8_14) (fun hHeld => ?_)
            clear hKK KK
            refine take_at (i := 8) (d := 31) (v := ?_) rfl rfl (by kernel_rfl) (by kernel_rfl) (by kernel_rfl) (fun _ _ _ h => h) (Or.inl ⟨by rfl, ?_⟩) (by assumption) ?_
            rotate_left
            · intro w hSw
              try dsimp only at hSw
              go_simp
              try with_reducible rfl
            simp only [Act.put, List.setIfInBounds_toArray, List.set_cons_zero, List.set_cons_succ]
            refine take_at (i := 9) (d := 40) (v := ?_) rfl rfl (by kernel_rfl) (by kernel_rfl) (by kernel_rfl) (fun _ _ _ h => h) (Or.inl ⟨by rfl, ?_⟩) (by assumption) ?_
            rotate_left
            · intro w hSw
              try dsimp only at hSw
              go_simp
              try with_reducible rfl
            simp only [Act.put, List.setIfInBounds_toArray, List.set_cons_zero, List.set_cons_succ]
            refine take_at (i := 10) (d := 41) (v := ?_) rfl rfl (by kernel_rfl) (by kernel_rfl) (by kernel_rfl) (fun _ _ _ h => h) (Or.inl ⟨by rfl, ?_⟩) (by assumption) ?_
            rotate_left
            · intro w hSw
              try dsimp only at hSw
              go_simp
              try with_reducible rfl
            simp only [Act.put, List.setIfInBounds_toArray, List.set_cons_zero, List.set_cons_succ]
            have q0 := lg.cell 0 rfl
            have q1 := lg.cell 1 rfl
            have q2 := lg.cell 2 rfl
            have q3 := lg.cell 3 rfl
            have FG := lg.frozen
            refine ready_at (i := 12) rfl (by kernel_rfl) (fun KK hKK => ?_)
            go_simp
            have bs : Below w1.heap.size w1 ((((wc8_13.setCell ⟨wc8_5.heap.size, 0, none⟩ (.string m1)).setCell ⟨wc8_5.heap.size, 1, none⟩ (.int .i64 n1)).setCell ⟨wc8_5.heap.size, 2, none⟩ (.string s1)).setCell ⟨wc8_5.heap.size, 3, none⟩ (.slice aa (x1).length kk)) := (Below.set (Below.set (Below.set (Below.set bc8_14 _ _ (by omega)) _ _ (by omega)) _ _ (by omega)) _ _ (by omega))
            clear hHeld
            refine hKK.out _ _ (unhide K _ bs) (fun hHeld => ?_)
            clear hKK KK
            refine take_at (i := 13) (d := 11) (v := ?_) rfl rfl (by kernel_rfl) (by kernel_rfl) (by kernel_rfl) (fun _ _ _ h => h) (Or.inl ⟨by rfl, ?_⟩) (by assumption) ?_
            rotate_left
            · intro w hSw
              try dsimp only at hSw
              go_simp
              try with_reducible rfl
            simp only [Act.put, List.setIfInBounds_toArray, List.set_cons_zero, List.set_cons_succ]
            clear hHeld
            refine wpAnyH_done (by kernel_rfl) ?_ _
            refine NoPanic.normal ?_
            go_wp2_with fail
            go_meet
            have k3 : Kp wc8_13 ((((wc8_13.setCell ⟨wc8_5.heap.size, 0, none⟩ (.string m1)).setCell ⟨wc8_5.heap.size, 1, none⟩ (.int .i64 n1)).setCell ⟨wc8_5.heap.size, 2, none⟩ (.string s1)).setCell ⟨wc8_5.heap.size, 3, none⟩ (.slice aa (x1).length kk)) (fun k => k = wc8_5.heap.size) := (((set_kp _ _ _ _).trans (set_kp _ _ _ _)).trans (set_kp _ _ _ _)).trans (set_kp _ _ _ _)
            have ll := lg.lt
            exact ⟨_, _, rfl, rfl, by omega, by simpa using ll, ((((lg.set 0 _ rfl).set 1 _ rfl).set 2 _ rfl).set 3 _ rfl), (oq3.kp k3 (fun j hj e => by have := tl j hj; omega)).mono (by omega), fun j hj => by have := tl j hj; simp; omega, bs⟩
        · go_simp
          obtain ⟨wl8_15, hwl8_15⟩ : ∃ x, wc8_3.alloc (.cells #[.string ⟨#[]⟩, .int .i64 0, .string ⟨#[]⟩, .slice none 0 0] 30) = x := ⟨_, rfl⟩
          have cbl8_16 : Below wc8_3.heap.size wc8_3 wl8_15 := hwl8_15 ▸ qalloc _ _
          have bl8_16 : Below w1.heap.size w1 wl8_15 := bc8_4.trans (cbl8_16.mono bc8_4.size)
          have zzwl8_15 : wl8_15.heap.size = wc8_3.heap.size + 1 := by rw [← hwl8_15]; simp
          have lg : Loc wl8_15 wc8_3.heap.size #[.string ⟨#[]⟩, .int .i64 0, .string ⟨#[]⟩, .slice none 0 0] := hwl8_15 ▸ loc_at wc8_3 _ _ rfl
          replace oq1 := oq1.below cbl8_16
          rw [hwl8_15]
          clear hHeld hwl8_15 cbl8_16
          refine hKK.out _ _ (unhide K _ bl8_16) (fun hHeld => ?_)
          clear hKK KK
          refine ready_at (i := 6) rfl (by kernel_rfl) (fun KK hKK => ?_)
          go_simp
          have hgo := bl8_16
          refine (unhide TL _ ((unhide HL).below (Bw1.trans (hgo.mono Bw1.size)))).mono ?_
          rintro e wc8_17 ⟨vv2, rfl, ol1, bnew⟩
          have bc8_18 : Below w1.heap.size w1 wc8_17 := bl8_16.trans (bnew.mono bl8_16.size)
          have zzwc8_17 := bnew.size
          replace oq1 := oq1.below bnew
          replace lg := lg.below bnew lg.lt
          clear hHeld bnew hgo
          refine hKK.out _ _ (unhide K _ bc8_18) (fun hHeld => ?_)
          clear hKK KK
          refine ready_at (i := 7) rfl (by kernel_rfl) (fun KK hKK => ?_)
          go_simp
          have hgo := bc8_18
          refine (unhide SP _ _ _ _ (ol1.rt (by omega)) (oq1.ri (by omega))).mono ?_
          rintro e wc8_19 ⟨vv3, rfl, oq3, bnew⟩
          have bc8_20 : Below w1.heap.size w1 wc8_19 := bc8_18.trans (bnew.mono bc8_18.size)
          have zzwc8_19 := bnew.size
          replace oq1 := oq1.below bnew
          replace ol1 := ol1.below bnew
          replace lg := lg.below bnew lg.lt
          have tl := World.ownsRow.lt oq3
          obtain ⟨aa, kk, rfl⟩ := oq3.form
          clear hHeld bnew hgo
          refine hKK.out _ _ (unhide K _ bc8_20) (fun hHeld => ?_)
          clear hKK KK
          refine take_at (i := 8) (d := 31) (v := ?_) rfl rfl (by kernel_rfl) (by kernel_rfl) (by kernel_rfl) (fun _ _ _ h => h) (Or.inl ⟨by rfl, ?_⟩) (by assumption) ?_
          rotate_left
          · intro w hSw
            try dsimp only at hSw
            go_simp
            try with_reducible rfl
          simp only [Act.put, List.setIfInBounds_toArray, List.set_cons_zero, List.set_cons_succ]
          refine take_at (i := 9) (d := 40) (v := ?_) rfl rfl (by kernel_rfl) (by kernel_rfl) (by kernel_rfl) (fun _ _ _ h => h) (Or.inl ⟨by rfl, ?_⟩) (by assumption) ?_
          rotate_left
          · intro w hSw
            try dsimp only at hSw
            go_simp
            try with_reducible rfl
          simp only [Act.put, List.setIfInBounds_toArray, List.set_cons_zero, List.set_cons_succ]
          refine take_at (i := 10) (d := 41) (v := ?_) rfl rfl (by kernel_rfl) (by kernel_rfl) (by kernel_rfl) (fun _ _ _ h => h) (Or.inl ⟨by rfl, ?_⟩) (by assumption) ?_
          rotate_left
          · intro w hSw
            try dsimp only at hSw
            go_simp
            try with_reducible rfl
          simp only [Act.put, List.setIfInBounds_toArray, List.set_cons_zero, List.set_cons_succ]
          have q0 := lg.cell 0 rfl
          have q1 := lg.cell 1 rfl
          have q2 := lg.cell 2 rfl
          have q3 := lg.cell 3 rfl
          have FG := lg.frozen
          refine ready_at (i := 12) rfl (by kernel_rfl) (fun KK hKK => ?_)
          go_simp
          have bs : Below w1.heap.size w1 ((((wc8_19.setCell ⟨wc8_3.heap.size, 0, none⟩ (.string m1)).setCell ⟨wc8_3.heap.size, 1, none⟩ (.int .i64 n1)).setCell ⟨wc8_3.heap.size, 2, none⟩ (.string s1)).setCell ⟨wc8_3.heap.size, 3, none⟩ (.slice aa (x1).length kk)) := (Below.set (Below.set (Below.set (Below.set bc8_20 _ _ (by omega)) _ _ (by omega)) _ _ (by omega)) _ _ (by omega))
          clear hHeld
          refine hKK.out _ _ (unhide K _ bs) (fun hHeld => ?_)
          clear hKK KK
          refine take_at (i := 13) (d := 11) (v := ?_) rfl rfl (by kernel_rfl) (by kernel_rfl) (by kernel_rfl) (fun _ _ _ h => h) (Or.inl ⟨by rfl, ?_⟩) (by assumption) ?_
          rotate_left
          · intro w hSw
            try dsimp only at hSw
            go_simp
            try with_reducible rfl
          simp only [Act.put, List.setIfInBounds_toArray, List.set_cons_zero, List.set_cons_succ]
          clear hHeld
          refine wpAnyH_done (by kernel_rfl) ?_ _
          refine NoPanic.normal ?_
          go_wp2_with fail
          go_meet
          have k3 : Kp wc8_19 ((((wc8_19.setCell ⟨wc8_3.heap.size, 0, none⟩ (.string m1)).setCell ⟨wc8_3.heap.size, 1, none⟩ (.int .i64 n1)).setCell ⟨wc8_3.heap.size, 2, none⟩ (.string s1)).setCell ⟨wc8_3.heap.size, 3, none⟩ (.slice aa (x1).length kk)) (fun k => k = wc8_3.heap.size) := (((set_kp _ _ _ _).trans (set_kp _ _ _ _)).trans (set_kp _ _ _ _)).trans (set_kp _ _ _ _)
          have ll := lg.lt
          exact ⟨_, _, rfl, rfl, by omega, by simpa using ll, ((((lg.set 0 _ rfl).set 1 _ rfl).set 2 _ rfl).set 3 _ rfl), (oq3.kp k3 (fun j hj e => by have := tl j hj; omega)).mono (by omega), fun j hj => by have := tl j hj; simp; omega, bs⟩
      · go_simp
        obtain ⟨wl8_21, hwl8_21⟩ : ∃ x, wc8_1.alloc (.cells #[.string ⟨#[]⟩, .int .i64 0, .string ⟨#[]⟩, .slice none 0 0] 30) = x := ⟨_, rfl⟩
        have cbl8_22 : Below wc8_1.heap.size wc8_1 wl8_21 := hwl8_21 ▸ qalloc _ _
        have bl8_22 : Below w1.heap.size w1 wl8_21 := bc8_2.trans (cbl8_22.mono bc8_2.size)
        have zzwl8_21 : wl8_21.heap.size = wc8_1.heap.size + 1 := by rw [← hwl8_21]; simp
        have lg : Loc wl8_21 wc8_1.heap.size #[.string ⟨#[]⟩, .int .i64 0, .string ⟨#[]⟩, .slice none 0 0] := hwl8_21 ▸ loc_at wc8_1 _ _ rfl
        rw [hwl8_21]
        clear hHeld hwl8_21 cbl8_22
        refine hKK.out _ _ (unhide K _ bl8_22) (fun hHeld => ?_)
        clear hKK KK
        refine ready_at (i := 3) rfl (by kernel_rfl) (fun KK hKK => ?_)
        go_simp
        have hgo := bl8_22
        refine (unhide TA _ ((unhide HA).below (Bw1.trans (hgo.mono Bw1.size)) (Nat.le_refl _))).mono ?_
        rintro e wc8_23 ⟨vv1, rfl, oq1, bnew⟩
        have bc8_24 : Below w1.heap.size w1 wc8_23 := bl8_22.trans (bnew.mono bl8_22.size)
        have zzwc8_23 := bnew.size
        replace lg := lg.below bnew lg.lt
        obtain ⟨aq, kq, rfl⟩ := oq1.form
        clear hHeld bnew hgo
        refine hKK.out _ _ (unhide K _ bc8_24) (fun hHeld => ?_)
        clear hKK KK
        refine ready_at (i := 6) rfl (by kernel_rfl) (fun KK hKK => ?_)
        go_simp
        have hgo := bc8_24
        refine (unhide TL _ ((unhide HL).below (Bw1.trans (hgo.mono Bw1.size)))).mono ?_
        rintro e wc8_25 ⟨vv2, rfl, ol1, bnew⟩
        have bc8_26 : Below w1.heap.size w1 wc8_25 := bc8_24.trans (bnew.mono bc8_24.size)
        have zzwc8_25 := bnew.size
        replace oq1 := oq1.below bnew
        replace lg := lg.below bnew lg.lt
        clear hHeld bnew hgo
        refine hKK.out _ _ (unhide K _ bc8_26) (fun hHeld => ?_)
        clear hKK KK
        refine ready_at (i := 7) rfl (by kernel_rfl) (fun KK hKK => ?_)
        go_simp
        have hgo := bc8_26
        refine (unhide SP _ _ _ _ (ol1.rt (by omega)) (oq1.ri (by omega))).mono ?_
        rintro e wc8_27 ⟨vv3, rfl, oq3, bnew⟩
        have bc8_28 : Below w1.heap.size w1 wc8_27 := bc8_26.trans (bnew.mono bc8_26.size)
        have zzwc8_27 := bnew.size
        replace oq1 := oq1.below bnew
        replace ol1 := ol1.below bnew
        replace lg := lg.below bnew lg.lt
        have tl := World.ownsRow.lt oq3
        obtain ⟨aa, kk, rfl⟩ := oq3.form
        clear hHeld bnew hgo
        refine hKK.out _ _ (unhide K _ bc8_28) (fun hHeld => ?_)
        clear hKK KK
        refine take_at (i := 8) (d := 31) (v := ?_) rfl rfl (by kernel_rfl) (by kernel_rfl) (by kernel_rfl) (fun _ _ _ h => h) (Or.inl ⟨by rfl, ?_⟩) (by assumption) ?_
        rotate_left
        · intro w hSw
          try dsimp only at hSw
          go_simp
          try with_reducible rfl
        simp only [Act.put, List.setIfInBounds_toArray, List.set_cons_zero, List.set_cons_succ]
        refine take_at (i := 9) (d := 40) (v := ?_) rfl rfl (by kernel_rfl) (by kernel_rfl) (by kernel_rfl) (fun _ _ _ h => h) (Or.inl ⟨by rfl, ?_⟩) (by assumption) ?_
        rotate_left
        · intro w hSw
          try dsimp only at hSw
          go_simp
          try with_reducible rfl
        simp only [Act.put, List.setIfInBounds_toArray, List.set_cons_zero, List.set_cons_succ]
        refine take_at (i := 10) (d := 41) (v := ?_) rfl rfl (by kernel_rfl) (by kernel_rfl) (by kernel_rfl) (fun _ _ _ h => h) (Or.inl ⟨by rfl, ?_⟩) (by assumption) ?_
        rotate_left
        · intro w hSw
          try dsimp only at hSw
          go_simp
          try with_reducible rfl
        simp only [Act.put, List.setIfInBounds_toArray, List.set_cons_zero, List.set_cons_succ]
        have q0 := lg.cell 0 rfl
        have q1 := lg.cell 1 rfl
        have q2 := lg.cell 2 rfl
        have q3 := lg.cell 3 rfl
        have FG := lg.frozen
        refine ready_at (i := 12) rfl (by kernel_rfl) (fun KK hKK => ?_)
        go_simp
        have bs : Below w1.heap.size w1 ((((wc8_27.setCell ⟨wc8_1.heap.size, 0, none⟩ (.string m1)).setCell ⟨wc8_1.heap.size, 1, none⟩ (.int .i64 n1)).setCell ⟨wc8_1.heap.size, 2, none⟩ (.string s1)).setCell ⟨wc8_1.heap.size, 3, none⟩ (.slice aa (x1).length kk)) := (Below.set (Below.set (Below.set (Below.set bc8_28 _ _ (by omega)) _ _ (by omega)) _ _ (by omega)) _ _ (by omega))
        clear hHeld
        refine hKK.out _ _ (unhide K _ bs) (fun hHeld => ?_)
        clear hKK KK
        refine take_at (i := 13) (d := 11) (v := ?_) rfl rfl (by kernel_rfl) (by kernel_rfl) (by kernel_rfl) (fun _ _ _ h => h) (Or.inl ⟨by rfl, ?_⟩) (by assumption) ?_
        rotate_left
        · intro w hSw
          try dsimp only at hSw
          go_simp
          try with_reducible rfl
        simp only [Act.put, List.setIfInBounds_toArray, List.set_cons_zero, List.set_cons_succ]
        clear hHeld
        refine wpAnyH_done (by kernel_rfl) ?_ _
        refine NoPanic.normal ?_
        go_wp2_with fail
        go_meet
        have k3 : Kp wc8_27 ((((wc8_27.setCell ⟨wc8_1.heap.size, 0, none⟩ (.string m1)).setCell ⟨wc8_1.heap.size, 1, none⟩ (.int .i64 n1)).setCell ⟨wc8_1.heap.size, 2, none⟩ (.string s1)).setCell ⟨wc8_1.heap.size, 3, none⟩ (.slice aa (x1).length kk)) (fun k => k = wc8_1.heap.size) := (((set_kp _ _ _ _).trans (set_kp _ _ _ _)).trans (set_kp _ _ _ _)).trans (set_kp _ _ _ _)
        have ll := lg.lt
        exact ⟨_, _, rfl, rfl, by omega, by simpa using ll, ((((lg.set 0 _ rfl).set 1 _ rfl).set 2 _ rfl).set 3 _ rfl), (oq3.kp k3 (fun j hj e => by have := tl j hj; omega)).mono (by omega), fun j hj => by have := tl j hj; simp; omega, bs⟩
    · go_simp
      obtain ⟨wl8_29, hwl8_29⟩ : ∃ x, wd.alloc (.cells #[.string ⟨#[]⟩, .int .i64 0, .string ⟨#[]⟩, .slice none 0 0] 30) = x := ⟨_, rfl⟩
      have cbl8_30 : Below wd.heap.size wd wl8_29 := hwl8_29 ▸ qalloc _ _
      have bl8_30 : Below w1.heap.size w1 wl8_29 := bd.trans (cbl8_30.mono bd.size)
      have zzwl8_29 : wl8_29.heap.size = wd.heap.size + 1 := by rw [← hwl8_29]; simp
      have lg : Loc wl8_29 wd.heap.size #[.string ⟨#[]⟩, .int .i64 0, .string ⟨#[]⟩, .slice none 0 0] := hwl8_29 ▸ loc_at wd _ _ rfl
      rw [hwl8_29]
      clear hHeld hwl8_29 cbl8_30
      refine hKK.out _ _ (unhide K _ bl8_30) (fun hHeld => ?_)
      clear hKK KK
      refine ready_at (i := 1) rfl (by kernel_rfl) (fun KK hKK => ?_)
      go_simp
      have hgo := bl8_30
      refine (unhide TC _).mono ?_
      rintro e wc8_31 ⟨rfl, bnew⟩
      have bc8_32 : Below w1.heap.size w1 wc8_31 := bl8_30.trans (bnew.mono bl8_30.size)
      have zzwc8_31 := bnew.size
      replace lg := lg.below bnew lg.lt
      clear hHeld bnew hgo
      refine hKK.out _ _ (unhide K _ bc8_32) (fun hHeld => ?_)
      clear hKK KK
      refine ready_at (i := 3) rfl (by kernel_rfl) (fun KK hKK => ?_)
      go_simp
      have hgo := bc8_32
      refine (unhide TA _ ((unhide HA).below (Bw1.trans (hgo.mono Bw1.size)) (Nat.le_refl _))).mono ?_
      rintro e wc8_33 ⟨vv1, rfl, oq1, bnew⟩
      have bc8_34 : Below w1.heap.size w1 wc8_33 := bc8_32.trans (bnew.mono bc8_32.size)
      have zzwc8_33 := bnew.size
      replace lg := lg.below bnew lg.lt
      obtain ⟨aq, kq, rfl⟩ := oq1.form
      clear hHeld bnew hgo
      refine hKK.out _ _ (unhide K _ bc8_34) (fun hHeld => ?_)
      clear hKK KK
      refine ready_at (i := 6) rfl (by kernel_rfl) (fun KK hKK => ?_)
      go_simp
      have hgo := bc8_34
      refine (unhide TL _ ((unhide HL).below (Bw1.trans (hgo.mono Bw1.size)))).mono ?_
      rintro e wc8_35 ⟨vv2, rfl, ol1, bnew⟩
      have bc8_36 : Below w1.heap.size w1 wc8_35 := bc8_34.trans (bnew.mono bc8_34.size)
      have zzwc8_35 := bnew.size
      replace oq1 := oq1.below bnew
      replace lg := lg.below bnew lg.lt
      clear hHeld bnew hgo
      refine hKK.out _ _ (unhide K _ bc8_36) (fun hHeld => ?_)
      clear hKK KK
      refine ready_at (i := 7) rfl (by kernel_rfl) (fun KK hKK => ?_)
      go_simp
      have hgo := bc8_36
      refine (unhide SP _ _ _ _ (ol1.rt (by omega)) (oq1.ri (by omega))).mono ?_
      rintro e wc8_37 ⟨vv3, rfl, oq3, bnew⟩
      have bc8_38 : Below w1.heap.size w1 wc8_37 := bc8_36.trans (bnew.mono bc8_36.size)
      have zzwc8_37 := bnew.size
      replace oq1 := oq1.below bnew
      replace ol1 := ol1.below bnew
      replace lg := lg.below bnew lg.lt
      have tl := World.ownsRow.lt oq3
      obtain ⟨aa, kk, rfl⟩ := oq3.form
      clear hHeld bnew hgo
      refine hKK.out _ _ (unhide K _ bc8_38) (fun hHeld => ?_)
      clear hKK KK
      refine take_at (i := 8) (d := 31) (v := ?_) rfl rfl (by kernel_rfl) (by kernel_rfl) (by kernel_rfl) (fun _ _ _ h => h) (Or.inl ⟨by rfl, ?_⟩) (by assumption) ?_
      rotate_left
      · intro w hSw
        try dsimp only at hSw
        go_simp
        try with_reducible rfl
      simp only [Act.put, List.setIfInBounds_toArray, List.set_cons_zero, List.set_cons_succ]
      refine take_at (i := 9) (d := 40) (v := ?_) rfl rfl (by kernel_rfl) (by kernel_rfl) (by kernel_rfl) (fun _ _ _ h => h) (Or.inl ⟨by rfl, ?_⟩) (by assumption) ?_
      rotate_left
      · intro w hSw
        try dsimp only at hSw
        go_simp
        try with_reducible rfl
      simp only [Act.put, List.setIfInBounds_toArray, List.set_cons_zero, List.set_cons_succ]
      refine take_at (i := 10) (d := 41) (v := ?_) rfl rfl (by kernel_rfl) (by kernel_rfl) (by kernel_rfl) (fun _ _ _ h => h) (Or.inl ⟨by rfl, ?_⟩) (by assumption) ?_
      rotate_left
      · intro w hSw
        try dsimp only at hSw
        go_simp
        try with_reducible rfl
      simp only [Act.put, List.setIfInBounds_toArray, List.set_cons_zero, List.set_cons_succ]
      have q0 := lg.cell 0 rfl
      have q1 := lg.cell 1 rfl
      have q2 := lg.cell 2 rfl
      have q3 := lg.cell 3 rfl
      have FG := lg.frozen
      refine ready_at (i := 12) rfl (by kernel_rfl) (fun KK hKK => ?_)
      go_simp
      have bs : Below w1.heap.size w1 ((((wc8_37.setCell ⟨wd.heap.size, 0, none⟩ (.string m1)).setCell ⟨wd.heap.size, 1, none⟩ (.int .i64 n1)).setCell ⟨wd.heap.size, 2, none⟩ (.string s1)).setCell ⟨wd.heap.size, 3, none⟩ (.slice aa (x1).length kk)) := (Below.set (Below.set (Below.set (Below.set bc8_38 _ _ (by omega)) _ _ (by omega)) _ _ (by omega)) _ _ (by omega))
      clear hHeld
      refine hKK.out _ _ (unhide K _ bs) (fun hHeld => ?_)
      clear hKK KK
      refine take_at (i := 13) (d := 11) (v := ?_) rfl rfl (by kernel_rfl) (by kernel_rfl) (by kernel_rfl) (fun _ _ _ h => h) (Or.inl ⟨by rfl, ?_⟩) (by assumption) ?_
      rotate_left
      · intro w hSw
        try dsimp only at hSw
        go_simp
        try with_reducible rfl
      simp only [Act.put, List.setIfInBounds_toArray, List.set_cons_zero, List.set_cons_succ]
      clear hHeld
      refine wpAnyH_done (by kernel_rfl) ?_ _
      refine NoPanic.normal ?_
      go_wp2_with fail
      go_meet
      have k3 : Kp wc8_37 ((((wc8_37.setCell ⟨wd.heap.size, 0, none⟩ (.string m1)).setCell ⟨wd.heap.size, 1, none⟩ (.int .i64 n1)).setCell ⟨wd.heap.size, 2, none⟩ (.string s1)).setCell ⟨wd.heap.size, 3, none⟩ (.slice aa (x1).length kk)) (fun k => k = wd.heap.size) := (((set_kp _ _ _ _).trans (set_kp _ _ _ _)).trans (set_kp _ _ _ _)).trans (set_kp _ _ _ _)
      have ll := lg.lt
      exact ⟨_, _, rfl, rfl, by omega, by simpa using ll, ((((lg.set 0 _ rfl).set 1 _ rfl).set 2 _ rfl).set 3 _ rfl), (oq3.kp k3 (fun j hj e => by have := tl j hj; omega)).mono (by omega), fun j hj => by have := tl j hj; simp; omega, bs⟩
  case rest =>
    clear K
    obtain ⟨wq8, hwq⟩ : ∃ x, x = wc := ⟨_, rfl⟩
    subst hwq
    obtain ⟨hV, vV, rfl, rfl, gV, eV, V, oV, toV, bb⟩ := hcut
    obtain ⟨aoV, koV, rfl⟩ := oV.form
    have Bwq8 := Bw1.trans (bb.mono Bw1.size)
    have swq8 := bb.size
    replace LC := LC.below bb LC.lt
    replace LA := LA.below bb LA.lt
    clear Bw1
    clear bb
    clear SP
    have cLA0 := LA.cell 0 rfl
    have cLA1 := LA.cell 1 rfl
    have cLA2 := LA.cell 2 rfl
    go_wp2_with fail
    refine (unhide TA _ ((unhide HA).below Bwq8 (Nat.le_refl _))).mono ?_
    rintro _ w2 ⟨vX, rfl, oX, bb⟩
    clear cLA0 cLA1 cLA2
    have Bw2 := Bwq8.trans (bb.mono Bwq8.size)
    have sw2 := bb.size
    replace LC := LC.below bb LC.lt
    replace LA := LA.below bb LA.lt
    replace V := V.below bb V.lt
    replace oV := oV.below bb
    clear Bwq8
    clear bb
    have toX := World.ownsRow.lt oX
    obtain ⟨aoX, koX, rfl⟩ := oX.form
    obtain ⟨w3, hw3⟩ : ∃ x, w2.alloc (.cells #[.int .i64 v, .string s, .slice aoX xs.length koX] 28) = x := ⟨_, rfl⟩
    have bb : Below w2.heap.size w2 w3 := hw3 ▸ qalloc _ _
    have X : Loc w3 w2.heap.size #[.int .i64 v, .string s, .slice aoX xs.length koX] := hw3 ▸ loc_at w2 _ _ rfl
    have zw3 : w3.heap.size = w2.heap.size + 1 := by rw [← hw3]; simp
    have Bw3 := Bw2.trans (bb.mono Bw2.size)
    have sw3 := bb.size
    replace LC := LC.below bb LC.lt
    replace LA := LA.below bb LA.lt
    replace V := V.below bb V.lt
    replace oV := oV.below bb
    replace oX := oX.below bb
    clear Bw2
    clear bb
    go_wp2_with fail
    clear hw3
    refine (unhide TL _ ((unhide HL).below Bw3)).mono ?_
    rintro _ w4 ⟨vL, rfl, oL, bb⟩
    have Bw4 := Bw3.trans (bb.mono Bw3.size)
    have sw4 := bb.size
    replace LC := LC.below bb LC.lt
    replace LA := LA.below bb LA.lt
    replace V := V.below bb V.lt
    replace X := X.below bb X.lt
    replace oV := oV.below bb
    replace oX := oX.below bb
    clear Bw3
    clear bb
    have toL := World.ownsRow.lt oL
    have RX := hide fun w' (hb' : Below w4.heap.size w4 w') => (oX.below hb').ri (by omega)
    have RL := hide fun w' (hb' : Below w4.heap.size w4 w') => (oL.below hb').rt (by omega)
    have K : Hid (∀ w', Below w4.heap.size w4 w' → (fun w' => Below w4.heap.size w4 w' ∧ (w'.cell? ⟨w.heap.size, 0, none⟩ = some (.int .i64 n) ∧ w'.cell? ⟨w.heap.size, 1, none⟩ = some (.int .i64 f)) ∧ (w'.cell? ⟨w2.heap.size, 0, none⟩ = some (.int .i64 v) ∧ w'.cell? ⟨w2.heap.size, 1, none⟩ = some (.string s) ∧ w'.cell? ⟨w2.heap.size, 2, none⟩ = some (.slice aoX xs.length koX))) w') := hide fun w' hb' => ⟨hb', ⟨(LC.below hb' LC.lt).cell 0 rfl, (LC.below hb' LC.lt).cell 1 rfl⟩, ⟨(X.below hb' X.lt).cell 0 rfl, (X.below hb' X.lt).cell 1 rfl, (X.below hb' X.lt).cell 2 rfl⟩⟩
    go_upto_region 11 with fail
    go_cut [14, 15] (fun c d1 wx => ∃ h uu, c = .pointer (some ⟨h, 0, none⟩) ∧ d1 = .bool q ∧ w4.heap.size ≤ h ∧ h < wx.heap.size ∧ Loc wx h #[.string m1, .int .i64 n1, .string s1, uu] ∧ OI wx w4.heap.size uu x1 ∧ (∀ j, uu.ownBlock = some j → w4.heap.size ≤ j ∧ j < wx.heap.size ∧ j ≠ h) ∧ Below w4.heap.size w4 wx)
    case first =>
      refine wp_region_noPanic ?_
      refine wp_region_held_drew (S := fun w' => Below w4.heap.size w4 w' ∧ (w'.cell? ⟨w.heap.size, 0, none⟩ = some (.int .i64 n) ∧ w'.cell? ⟨w.heap.size, 1, none⟩ = some (.int .i64 f)) ∧ (w'.cell? ⟨w2.heap.size, 0, none⟩ = some (.int .i64 v) ∧ w'.cell? ⟨w2.heap.size, 1, none⟩ = some (.string s) ∧ w'.cell? ⟨w2.heap.size, 2, none⟩ = some (.slice aoX xs.length koX))) (by kernel_rfl) (unhide K _ (Below.drew (Below.refl _ _))) (fun hHeld => ?_)
      obtain ⟨wd, hd⟩ : ∃ wd, w4.drew = wd := ⟨_, rfl⟩
      have bd : Below w4.heap.size w4 wd := hd ▸ Below.drew (Below.refl _ _)
      have szd := bd.size
      rw [hd] at hHeld ⊢
      clear hd
      refine take_at (i := 0) (d := 47) (v := ?_) rfl rfl (by kernel_rfl) (by kernel_rfl) (by kernel_rfl) (fun _ _ _ h => h) (Or.inl ⟨by rfl, ?_⟩) (by assumption) ?_
      rotate_left
      · intro w hSw
        try dsimp only at hSw
        go_simp
        try with_reducible rfl
      simp only [Act.put, List.setIfInBounds_toArray, List.set_cons_zero, List.set_cons_succ]
      refine take_at (i := 2) (d := 49) (v := ?_) rfl rfl (by kernel_rfl) (by kernel_rfl) (by kernel_rfl) (fun _ _ _ h => h) (Or.inl ⟨by rfl, ?_⟩) (by assumption) ?_
      rotate_left
      · intro w hSw
        try dsimp only at hSw
        go_simp
        try with_reducible rfl
      simp only [Act.put, List.setIfInBounds_toArray, List.set_cons_zero, List.set_cons_succ]
      refine take_at (i := 3) (d := 50) (v := ?_) rfl rfl (by kernel_rfl) (by kernel_rfl) (by kernel_rfl) (fun _ _ _ h => h) (Or.inl ⟨by rfl, ?_⟩) (by assumption) ?_
      rotate_left
      · intro w hSw
        try dsimp only at hSw
        go_simp
        try with_reducible rfl
      simp only [Act.put, List.setIfInBounds_toArray, List.set_cons_zero, List.set_cons_succ]
      refine take_at (i := 4) (d := 51) (v := ?_) rfl rfl (by kernel_rfl) (by kernel_rfl) (by kernel_rfl) (fun _ _ _ h => h) (Or.inl ⟨by rfl, ?_⟩) (by assumption) ?_
      rotate_left
      · intro w hSw
        try dsimp only at hSw
        go_simp
        try with_reducible rfl
      simp only [Act.put, List.setIfInBounds_toArray, List.set_cons_zero, List.set_cons_succ]
      refine wpAnyH_ready (rs := [1, 9]) (by kernel_rfl) (by simp) (AllReadyH.cons rfl (fun KK hKK => ?_) (AllReadyH.cons rfl (fun KK hKK => ?_) AllReadyH.nil))
      · go_simp
        have hgo := bd
        refine (unhide TC _).mono ?_
        rintro e wc11_1 ⟨rfl, bnew⟩
        have bc11_2 : Below w4.heap.size w4 wc11_1 := bd.trans (bnew.mono bd.size)
        have zzwc11_1 := bnew.size
        clear hHeld bnew hgo
        refine hKK.out _ _ (unhide K _ bc11_2) (fun hHeld => ?_)
        clear hKK KK
        refine wpAnyH_ready (rs := [5, 9]) (by kernel_rfl) (by simp) (AllReadyH.cons rfl (fun KK hKK => ?_) (AllReadyH.cons rfl (fun KK hKK => ?_) AllReadyH.nil))
        · go_simp
          have hgo := bc11_2
          refine (unhide IM _ _ _ _ (unhide RL _ hgo) ((unhide HE).below (Bw4.trans (hgo.mono Bw4.size))) (unhide RX _ hgo)).mono ?_
          rintro e wc11_3 ⟨vv3, rfl, oq3, bnew⟩
          have bc11_4 : Below w4.heap.size w4 wc11_3 := bc11_2.trans (bnew.mono bc11_2.size)
          have zzwc11_3 := bnew.size
          have tl := World.ownsRow.lt oq3
          obtain ⟨aa, kk, rfl⟩ := oq3.form
          clear hHeld bnew hgo
          refine hKK.out _ _ (unhide K _ bc11_4) (fun hHeld => ?_)
          clear hKK KK
          refine take_at (i := 6) (d := 46) (v := ?_) rfl rfl (by kernel_rfl) (by kernel_rfl) (by kernel_rfl) (fun _ _ _ h => h) (Or.inl ⟨by rfl, ?_⟩) (by assumption) ?_
          rotate_left
          · intro w hSw
            try dsimp only at hSw
            go_simp
            try with_reducible rfl
          simp only [Act.put, List.setIfInBounds_toArray, List.set_cons_zero, List.set_cons_succ]
          refine take_at (i := 7) (d := 53) (v := ?_) rfl rfl (by kernel_rfl) (by kernel_rfl) (by kernel_rfl) (fun _ _ _ h => h) (Or.inl ⟨by rfl, ?_⟩) (by assumption) ?_
          rotate_left
          · intro w hSw
            try dsimp only at hSw
            go_simp
            try with_reducible rfl
          simp only [Act.put, List.setIfInBounds_toArray, List.set_cons_zero, List.set_cons_succ]
          refine take_at (i := 8) (d := 54) (v := ?_) rfl rfl (by kernel_rfl) (by kernel_rfl) (by kernel_rfl) (fun _ _ _ h => h) (Or.inl ⟨by rfl, ?_⟩) (by assumption) ?_
          rotate_left
          · intro w hSw
            try dsimp only at hSw
            go_simp
            try with_reducible rfl
          simp only [Act.put, List.setIfInBounds_toArray, List.set_cons_zero, List.set_cons_succ]
          refine ready_at (i := 9) rfl (by kernel_rfl) (fun KK hKK => ?_)
          go_simp
          obtain ⟨wl11_5, hwl11_5⟩ : ∃ x, wc11_3.alloc (.cells #[.string ⟨#[]⟩, .int .i64 0, .string ⟨#[]⟩, .slice none 0 0] 30) = x := ⟨_, rfl⟩
          have cbl11_6 : Below wc11_3.heap.size wc11_3 wl11_5 := hwl11_5 ▸ qalloc _ _
          have bl11_6 : Below w4.heap.size w4 wl11_5 := bc11_4.trans (cbl11_6.mono bc11_4.size)
          have zzwl11_5 : wl11_5.heap.size = wc11_3.heap.size + 1 := by rw [← hwl11_5]; simp
          have lg : Loc wl11_5 wc11_3.heap.size #[.string ⟨#[]⟩, .int .i64 0, .string ⟨#[]⟩, .slice none 0 0] := hwl11_5 ▸ loc_at wc11_3 _ _ rfl
          replace oq3 := oq3.below cbl11_6
          rw [hwl11_5]
          clear hHeld hwl11_5 cbl11_6
          refine hKK.out _ _ (unhide K _ bl11_6) (fun hHeld => ?_)
          clear hKK KK
          have q0 := lg.cell 0 rfl
          have q1 := lg.cell 1 rfl
          have q2 := lg.cell 2 rfl
          have q3 := lg.cell 3 rfl
          have FG := lg.frozen
          refine ready_at (i := 10) rfl (by kernel_rfl) (fun KK hKK => ?_)
          go_simp
          have bs : Below w4.heap.size w4 ((((wl11_5.setCell ⟨wc11_3.heap.size, 0, none⟩ (.string m1)).setCell ⟨wc11_3.heap.size, 1, none⟩ (.int .i64 n1)).setCell ⟨wc11_3.heap.size, 2, none⟩ (.string s1)).setCell ⟨wc11_3.heap.size, 3, none⟩ (.slice aa (x1).length kk)) := (Below.set (Below.set (Below.set (Below.set bl11_6 _ _ (by omega)) _ _ (by omega)) _ _ (by omega)) _ _ (by omega))
          clear hHeld
          refine hKK.out _ _ (unhide K _ bs) (fun hHeld => ?_)
          clear hKK KK
          refine take_at (i := 11) (d := 15) (v := ?_) rfl rfl (by kernel_rfl) (by kernel_rfl) (by kernel_rfl) (fun _ _ _ h => h) (Or.inl ⟨by rfl, ?_⟩) (by assumption) ?_
          rotate_left
          · intro w hSw
            try dsimp only at hSw
            go_simp
            try with_reducible rfl
          simp only [Act.put, List.setIfInBounds_toArray, List.set_cons_zero, List.set_cons_succ]
          clear hHeld
          refine wpAnyH_done (by kernel_rfl) ?_ _
          refine NoPanic.normal ?_
          go_wp2_with fail
          go_meet
          have k3 : Kp wl11_5 ((((wl11_5.setCell ⟨wc11_3.heap.size, 0, none⟩ (.string m1)).setCell ⟨wc11_3.heap.size, 1, none⟩ (.int .i64 n1)).setCell ⟨wc11_3.heap.size, 2, none⟩ (.string s1)).setCell ⟨wc11_3.heap.size, 3, none⟩ (.slice aa (x1).length kk)) (fun k => k = wc11_3.heap.size) := (((set_kp _ _ _ _).trans (set_kp _ _ _ _)).trans (set_kp _ _ _ _)).trans (set_kp _ _ _ _)
          have ll := lg.lt
          exact ⟨_, _, rfl, rfl, by omega, by simpa using ll, ((((lg.set 0 _ rfl).set 1 _ rfl).set 2 _ rfl).set 3 _ rfl), (oq3.kp k3 (fun j hj e => by have := tl j hj; omega)).mono (by omega), fun j hj => by have := tl j hj; simp; omega, bs⟩
        · go_simp
          obtain ⟨wl11_7, hwl11_7⟩ : ∃ x, wc11_1.alloc (.cells #[.string ⟨#[]⟩, .int .i64 0, .string ⟨#[]⟩, .slice none 0 0] 30) = x := ⟨_, rfl⟩
          have cbl11_8 : Below wc11_1.heap.size wc11_1 wl11_7 := hwl11_7 ▸ qalloc _ _
          have bl11_8 : Below w4.heap.size w4 wl11_7 := bc11_2.trans (cbl11_8.mono bc11_2.size)
          have zzwl11_7 : wl11_7.heap.size = wc11_1.heap.size + 1 := by rw [← hwl11_7]; simp
          have lg : Loc wl11_7 wc11_1.heap.size #[.string ⟨#[]⟩, .int .i64 0, .string ⟨#[]⟩, .slice none 0 0] := hwl11_7 ▸ loc_at wc11_1 _ _ rfl
          rw [hwl11_7]
          clear hHeld hwl11_7 cbl11_8
          refine hKK.out _ _ (unhide K _ bl11_8) (fun hHeld => ?_)
          clear hKK KK
          refine ready_at (i := 5) rfl (by kernel_rfl) (fun KK hKK => ?_)
          go_simp
          have hgo := bl11_8
          refine (unhide IM _ _ _ _ (unhide RL _ hgo) ((unhide HE).below (Bw4.trans (hgo.mono Bw4.size))) (unhide RX _ hgo)).mono ?_
          rintro e wc11_9 ⟨vv3, rfl, oq3, bnew⟩
          have bc11_10 : Below w4.heap.size w4 wc11_9 := bl11_8.trans (bnew.mono bl11_8.size)
          have zzwc11_9 := bnew.size
          replace lg := lg.below bnew lg.lt
          have tl := World.ownsRow.lt oq3
          obtain ⟨aa, kk, rfl⟩ := oq3.form
          clear hHeld bnew hgo
          refine hKK.out _ _ (unhide K _ bc11_10) (fun hHeld => ?_)
          clear hKK KK
          refine take_at (i := 6) (d := 46) (v := ?_) rfl rfl (by kernel_rfl) (by kernel_rfl) (by kernel_rfl) (fun _ _ _ h => h) (Or.inl ⟨by rfl, ?_⟩) (by assumption) ?_
          rotate_left
          · intro w hSw
            try dsimp only at hSw
            go_simp
            try with_reducible rfl
          simp only [Act.put, List.setIfInBounds_toArray, List.set_cons_zero, List.set_cons_succ]
          refine take_at (i := 7) (d := 53) (v := ?_) rfl rfl (by kernel_rfl) (by kernel_rfl) (by kernel_rfl) (fun _ _ _ h => h) (Or.inl ⟨by rfl, ?_⟩) (by assumption) ?_
          rotate_left
          · intro w hSw
            try dsimp only at hSw
            go_simp
            try with_reducible rfl
          simp only [Act.put, List.setIfInBounds_toArray, List.set_cons_zero, List.set_cons_succ]
          refine take_at (i := 8) (d := 54) (v := ?_) rfl rfl (by kernel_rfl) (by kernel_rfl) (by kernel_rfl) (fun _ _ _ h => h) (Or.inl ⟨by rfl, ?_⟩) (by assumption) ?_
          rotate_left
          · intro w hSw
            try dsimp only at hSw
            go_simp
            try with_reducible rfl
          simp only [Act.put, List.setIfInBounds_toArray, List.set_cons_zero, List.set_cons_succ]
          have q0 := lg.cell 0 rfl
          have q1 := lg.cell 1 rfl
          have q2 := lg.cell 2 rfl
          have q3 := lg.cell 3 rfl
          have FG := lg.frozen
          refine ready_at (i := 10) rfl (by kernel_rfl) (fun KK hKK => ?_)
          go_simp
          have bs : Below w4.heap.size w4 ((((wc11_9.setCell ⟨wc11_1.heap.size, 0, none⟩ (.string m1)).setCell ⟨wc11_1.heap.size, 1, none⟩ (.int .i64 n1)).setCell ⟨wc11_1.heap.size, 2, none⟩ (.string s1)).setCell ⟨wc11_1.heap.size, 3, none⟩ (.slice aa (x1).length kk)) := (Below.set (Below.set (Below.set (Below.set bc11_10 _ _ (by omega)) _ _ (by omega)) _ _ (by omega)) _ _ (by omega))
          clear hHeld
          refine hKK.out _ _ (unhide K _ bs) (fun hHeld => ?_)
          clear hKK KK
          refine take_at (i := 11) (d := 15) (v := ?_) rfl rfl (by kernel_rfl) (by kernel_rfl) (by kernel_rfl) (fun _ _ _ h => h) (Or.inl ⟨by rfl, ?_⟩) (by assumption) ?_
          rotate_left
          · intro w hSw
            try dsimp only at hSw
            go_simp
            try with_reducible rfl
          simp only [Act.put, List.setIfInBounds_toArray, List.set_cons_zero, List.set_cons_succ]
          clear hHeld
          refine wpAnyH_done (by kernel_rfl) ?_ _
          refine NoPanic.normal ?_
          go_wp2_with fail
          go_meet
          have k3 : Kp wc11_9 ((((wc11_9.setCell ⟨wc11_1.heap.size, 0, none⟩ (.string m1)).setCell ⟨wc11_1.heap.size, 1, none⟩ (.int .i64 n1)).setCell ⟨wc11_1.heap.size, 2, none⟩ (.string s1)).setCell ⟨wc11_1.heap.size, 3, none⟩ (.slice aa (x1).length kk)) (fun k => k = wc11_1.heap.size) := (((set_kp _ _ _ _).trans (set_kp _ _ _ _)).trans (set_kp _ _ _ _)).trans (set_kp _ _ _ _)
          have ll := lg.lt
          exact ⟨_, _, rfl, rfl, by omega, by simpa using ll, ((((lg.set 0 _ rfl).set 1 _ rfl).set 2 _ rfl).set 3 _ rfl), (oq3.kp k3 (fun j hj e => by have := tl j hj; omega)).mono (by omega), fun j hj => by have := tl j hj; simp; omega, bs⟩
      · go_simp
        obtain ⟨wl11_11, hwl11_11⟩ : ∃ x, wd.alloc (.cells #[.string ⟨#[]⟩, .int .i64 0, .string ⟨#[]⟩, .slice none 0 0] 30) = x := ⟨_, rfl⟩
        have cbl11_12 : Below wd.heap.size wd wl11_11 := hwl11_11 ▸ qalloc _ _
        have bl11_12 : Below w4.heap.size w4 wl11_11 := bd.trans (cbl11_12.mono bd.size)
        have zzwl11_11 : wl11_11.heap.size = wd.heap.size + 1 := by rw [← hwl11_11]; simp
        have lg : Loc wl11_11 wd.heap.size #[.string ⟨#[]⟩, .int .i64 0, .string ⟨#[]⟩, .slice none 0 0] := hwl11_11 ▸ loc_at wd _ _ rfl
        rw [hwl11_11]
        clear hHeld hwl11_11 cbl11_12
        refine hKK.out _ _ (unhide K _ bl11_12) (fun hHeld => ?_)
        clear hKK KK
        refine ready_at (i := 1) rfl (by kernel_rfl) (fun KK hKK => ?_)
        go_simp
        have hgo := bl11_12
        refine (unhide TC _).mono ?_
        rintro e wc11_13 ⟨rfl, bnew⟩
        have bc11_14 : Below w4.heap.size w4 wc11_13 := bl11_12.trans (bnew.mono bl11_12.size)
        have zzwc11_13 := bnew.size
        replace lg := lg.below bnew lg.lt
        clear hHeld bnew hgo
        refine hKK.out _ _ (unhide K _ bc11_14) (fun hHeld => ?_)
        clear hKK KK
        refine ready_at (i := 5) rfl (by kernel_rfl) (fun KK hKK => ?_)
        go_simp
        have hgo := bc11_14
        refine (unhide IM _ _ _ _ (unhide RL _ hgo) ((unhide HE).below (Bw4.trans (hgo.mono Bw4.size))) (unhide RX _ hgo)).mono ?_
        rintro e wc11_15 ⟨vv3, rfl, oq3, bnew⟩
        have bc11_16 : Below w4.heap.size w4 wc11_15 := bc11_14.trans (bnew.mono bc11_14.size)
        have zzwc11_15 := bnew.size
        replace lg := lg.below bnew lg.lt
        have tl := World.ownsRow.lt oq3
        obtain ⟨aa, kk, rfl⟩ := oq3.form
        clear hHeld bnew hgo
        refine hKK.out _ _ (unhide K _ bc11_16) (fun hHeld => ?_)
        clear hKK KK
        refine take_at (i := 6) (d := 46) (v := ?_) rfl rfl (by kernel_rfl) (by kernel_rfl) (by kernel_rfl) (fun _ _ _ h => h) (Or.inl ⟨by rfl, ?_⟩) (by assumption) ?_
        rotate_left
        · intro w hSw
          try dsimp only at hSw
          go_simp
          try with_reducible rfl
        simp only [Act.put, List.setIfInBounds_toArray, List.set_cons_zero, List.set_cons_succ]
        refine take_at (i := 7) (d := 53) (v := ?_) rfl rfl (by kernel_rfl) (by kernel_rfl) (by kernel_rfl) (fun _ _ _ h => h) (Or.inl ⟨by rfl, ?_⟩) (by assumption) ?_
        rotate_left
        · intro w hSw
          try dsimp only at hSw
          go_simp
          try with_reducible rfl
        simp only [Act.put, List.setIfInBounds_toArray, List.set_cons_zero, List.set_cons_succ]
        refine take_at (i := 8) (d := 54) (v := ?_) rfl rfl (by kernel_rfl) (by kernel_rfl) (by kernel_rfl) (fun _ _ _ h => h) (Or.inl ⟨by rfl, ?_⟩) (by assumption) ?_
        rotate_left
        · intro w hSw
          try dsimp only at hSw
          go_simp
          try with_reducible rfl
        simp only [Act.put, List.setIfInBounds_toArray, List.set_cons_zero, List.set_cons_succ]
        have q0 := lg.cell 0 rfl
        have q1 := lg.cell 1 rfl
        have q2 := lg.cell 2 rfl
        have q3 := lg.cell 3 rfl
        have FG := lg.frozen
        refine ready_at (i := 10) rfl (by kernel_rfl) (fun KK hKK => ?_)
        go_simp
        have bs : Below w4.heap.size w4 ((((wc11_15.setCell ⟨wd.heap.size, 0, none⟩ (.string m1)).setCell ⟨wd.heap.size, 1, none⟩ (.int .i64 n1)).setCell ⟨wd.heap.size, 2, none⟩ (.string s1)).setCell ⟨wd.heap.size, 3, none⟩ (.slice aa (x1).length kk)) := (Below.set (Below.set (Below.set (Below.set bc11_16 _ _ (by omega)) _ _ (by omega)) _ _ (by omega)) _ _ (by omega))
        clear hHeld
        refine hKK.out _ _ (unhide K _ bs) (fun hHeld => ?_)
        clear hKK KK
        refine take_at (i := 11) (d := 15) (v := ?_) rfl rfl (by kernel_rfl) (by kernel_rfl) (by kernel_rfl) (fun _ _ _ h => h) (Or.inl ⟨by rfl, ?_⟩) (by assumption) ?_
        rotate_left
        · intro w hSw
          try dsimp only at hSw
          go_simp
          try with_reducible rfl
        simp only [Act.put, List.setIfInBounds_toArray, List.set_cons_zero, List.set_cons_succ]
        clear hHeld
        refine wpAnyH_done (by kernel_rfl) ?_ _
        refine NoPanic.normal ?_
        go_wp2_with fail
        go_meet
        have k3 : Kp wc11_15 ((((wc11_15.setCell ⟨wd.heap.size, 0, none⟩ (.string m1)).setCell ⟨wd.heap.size, 1, none⟩ (.int .i64 n1)).setCell ⟨wd.heap.size, 2, none⟩ (.string s1)).setCell ⟨wd.heap.size, 3, none⟩ (.slice aa (x1).length kk)) (fun k => k = wd.heap.size) := (((set_kp _ _ _ _).trans (set_kp _ _ _ _)).trans (set_kp _ _ _ _)).trans (set_kp _ _ _ _)
        have ll := lg.lt
        exact ⟨_, _, rfl, rfl, by omega, by simpa using ll, ((((lg.set 0 _ rfl).set 1 _ rfl).set 2 _ rfl).set 3 _ rfl), (oq3.kp k3 (fun j hj e => by have := tl j hj; omega)).mono (by omega), fun j hj => by have := tl j hj; simp; omega, bs⟩
    case rest =>
      clear K
      obtain ⟨wq11, hwq⟩ : ∃ x, x = wc := ⟨_, rfl⟩
      subst hwq
      obtain ⟨hG, vG, rfl, rfl, gG, eG, G, oG, toG, bb⟩ := hcut
      obtain ⟨aoG, koG, rfl⟩ := oG.form
      have Bwq11 := Bw4.trans (bb.mono Bw4.size)
      have swq11 := bb.size
      replace LC := LC.below bb LC.lt
      replace LA := LA.below bb LA.lt
      replace V := V.below bb V.lt
      replace X := X.below bb X.lt
      replace oV := oV.below bb
      replace oX := oX.below bb
      replace oL := oL.below bb
      clear Bw4
      clear bb
      clear RX RL
      have cG0 := G.cell 0 rfl
      have cG1 := G.cell 1 rfl
      have cG2 := G.cell 2 rfl
      have cG3 := G.cell 3 rfl
      have cV0 := V.cell 0 rfl
      have cV1 := V.cell 1 rfl
      have cV2 := V.cell 2 rfl
      have cV3 := V.cell 3 rfl
      go_wp2_with fail
      refine (eqBlock_yes m1 n1 s1 _ _ x1 _ (oG.ri (by omega)) (oV.ri (by omega))).mono ?_
      rintro _ w5 ⟨rfl, bb⟩
      clear cG0 cG1 cG2 cG3 cV0 cV1 cV2 cV3
      have Bw5 := Bwq11.trans (bb.mono Bwq11.size)
      have sw5 := bb.size
      replace LC := LC.below bb LC.lt
      replace LA := LA.below bb LA.lt
      replace V := V.below bb V.lt
      replace X := X.below bb X.lt
      replace G := G.below bb G.lt
      replace oV := oV.below bb
      replace oX := oX.below bb
      replace oL := oL.below bb
      replace oG := oG.below bb
      clear Bwq11
      clear bb
      have RX := hide fun w' (hb' : Below w5.heap.size w5 w') => (oX.below hb').ri (by omega)
      have K : Hid (∀ w', Below w5.heap.size w5 w' → (fun w' => Below w5.heap.size w5 w' ∧ (w'.cell? ⟨w.heap.size + 1, 0, none⟩ = some (.int .i64 v) ∧ w'.cell? ⟨w.heap.size + 1, 1, none⟩ = some (.string s) ∧ w'.cell? ⟨w.heap.size + 1, 2, none⟩ = some (.slice ao xs.length ca)) ∧ (w'.cell? ⟨w2.heap.size, 0, none⟩ = some (.int .i64 v) ∧ w'.cell? ⟨w2.heap.size, 1, none⟩ = some (.string s) ∧ w'.cell? ⟨w2.heap.size, 2, none⟩ = some (.slice aoX xs.length koX))) w') := hide fun w' hb' => ⟨hb', ⟨(LA.below hb' LA.lt).cell 0 rfl, (LA.below hb' LA.lt).cell 1 rfl, (LA.below hb' LA.lt).cell 2 rfl⟩, ⟨(X.below hb' X.lt).cell 0 rfl, (X.below hb' X.lt).cell 1 rfl, (X.below hb' X.lt).cell 2 rfl⟩⟩
      go_upto_region 14 with fail
      have bA : Below w5.heap.size w5 w5.drew := Below.drew (Below.refl _ _)
      refine wp_region_noPanic ?_
      refine wp_region_held_drew (S := fun w' => Below w5.heap.size w5 w' ∧ (w'.cell? ⟨w.heap.size + 1, 0, none⟩ = some (.int .i64 v) ∧ w'.cell? ⟨w.heap.size + 1, 1, none⟩ = some (.string s) ∧ w'.cell? ⟨w.heap.size + 1, 2, none⟩ = some (.slice ao xs.length ca)) ∧ (w'.cell? ⟨w2.heap.size, 0, none⟩ = some (.int .i64 v) ∧ w'.cell? ⟨w2.heap.size, 1, none⟩ = some (.string s) ∧ w'.cell? ⟨w2.heap.size, 2, none⟩ = some (.slice aoX xs.length koX))) (by kernel_rfl) (unhide K _ bA) (fun hHeld => ?_)
      refine take_at (i := 0) (d := 64) (v := ?_) rfl rfl (by kernel_rfl) (by kernel_rfl) (by kernel_rfl) (fun _ _ _ h => h) (Or.inl ⟨by rfl, ?_⟩) (by assumption) ?_
      rotate_left
      · intro w hSw
        try dsimp only at hSw
        go_simp
        try with_reducible rfl
      simp only [Act.put, List.setIfInBounds_toArray, List.set_cons_zero, List.set_cons_succ]
      refine take_at (i := 1) (d := 65) (v := ?_) rfl rfl (by kernel_rfl) (by kernel_rfl) (by kernel_rfl) (fun _ _ _ h => h) (Or.inl ⟨by rfl, ?_⟩) (by assumption) ?_
      rotate_left
      · intro w hSw
        try dsimp only at hSw
        go_simp
        try with_reducible rfl
      simp only [Act.put, List.setIfInBounds_toArray, List.set_cons_zero, List.set_cons_succ]
      refine ready_at (i := 2) rfl (by kernel_rfl) (fun KK hKK => ?_)
      go_simp
      have hgo := bA
      refine (unhide TA _ ((unhide HA).below (Bw5.trans (hgo.mono Bw5.size)) (Nat.le_refl _))).mono ?_
      rintro e wz14_1 ⟨vv1, rfl, o1, bb⟩
      have bz1 : Below w5.heap.size w5 wz14_1 := bA.trans (bb.mono bA.size)
      have R1 := hide (o1.ri (by omega))
      clear o1
      clear bA hgo bb
      clear hHeld
      refine hKK.out _ _ (unhide K _ bz1) (fun hHeld => ?_)
      clear hKK KK
      refine ready_at (i := 3) rfl (by kernel_rfl) (fun KK hKK => ?_)
      go_simp
      have hgo := bz1
      refine (eqQc_yes v s _ _ xs _ (unhide RX _ hgo) (unhide R1)).mono ?_
      rintro e wz14_2 ⟨rfl, bb⟩
      have bz2 : Below w5.heap.size w5 wz14_2 := bz1.trans (bb.mono bz1.size)
      clear R1 RX
      clear bz1 hgo bb
      clear hHeld
      refine hKK.out _ _ (unhide K _ bz2) (fun hHeld => ?_)
      clear hKK KK
      refine take_at (i := 4) (d := 68) (v := ?_) rfl rfl (by kernel_rfl) (by kernel_rfl) (by kernel_rfl) (fun _ _ _ h => h) (Or.inl ⟨by rfl, ?_⟩) (by assumption) ?_
      rotate_left
      · intro w hSw
        try dsimp only at hSw
        go_simp
        try with_reducible rfl
      simp only [Act.put, List.setIfInBounds_toArray, List.set_cons_zero, List.set_cons_succ]
      clear hHeld
      refine wpAnyH_done (by kernel_rfl) ?_ _
      refine NoPanic.normal ?_
      have bb := bz2
      have Bwz14_2 := Bw5.trans (bb.mono Bw5.size)
      have swz14_2 := bb.size
      replace LC := LC.below bb LC.lt
      replace LA := LA.below bb LA.lt
      replace V := V.below bb V.lt
      replace X := X.below bb X.lt
      replace G := G.below bb G.lt
      replace oV := oV.below bb
      replace oX := oX.below bb
      replace oL := oL.below bb
      replace oG := oG.below bb
      clear Bw5
      clear bb bz2 K
      go_wp2_with fail
      refine (unhide TL _ ((unhide HL).below Bwz14_2)).mono ?_
      rintro _ w6 ⟨vM, rfl, oM, bb⟩
      have Bw6 := Bwz14_2.trans (bb.mono Bwz14_2.size)
      have sw6 := bb.size
      replace LC := LC.below bb LC.lt
      replace LA := LA.below bb LA.lt
      replace V := V.below bb V.lt
      replace X := X.below bb X.lt
      replace G := G.below bb G.lt
      replace oV := oV.below bb
      replace oX := oX.below bb
      replace oL := oL.below bb
      replace oG := oG.below bb
      clear Bwz14_2
      clear bb
      go_wp2_with fail
      refine (eqTxS_yes _ _ ts _ (oL.rt (by omega)) (oM.rt (by omega))).mono ?_
      rintro _ w7 ⟨rfl, bb⟩
      have Bw7 := Bw6.trans (bb.mono Bw6.size)
      have sw7 := bb.size
      replace LC := LC.below bb LC.lt
      replace LA := LA.below bb LA.lt
      replace V := V.below bb V.lt
      replace X := X.below bb X.lt
      replace G := G.below bb G.lt
      replace oV := oV.below bb
      replace oX := oX.below bb
      replace oL := oL.below bb
      replace oG := oG.below bb
      replace oM := oM.below bb
      clear Bw6
      clear bb
      clear oM
      have cX0 := X.cell 0 rfl
      have cX1 := X.cell 1 rfl
      have cX2 := X.cell 2 rfl
      go_wp2_with fail
      refine (unhide MX _ _ _ oX).mono ?_
      rintro _ w8 ⟨rfl, oN, kN⟩
      clear cX0 cX1 cX2
      have Bw8 := Below.kp Bw7 kN Bw7.size (fun k hk => by have := toX _ hk; omega)
      have sw8 := kN.size
      replace LC := LC.kp kN (fun h => by have := toX _ h; omega)
      replace LA := LA.kp kN (fun h => by have := toX _ h; omega)
      replace V := V.kp kN (fun h => by have := toX _ h; omega)
      replace X := X.kp kN (fun h => by have := toX _ h; omega)
      replace G := G.kp kN (fun h => by have := toX _ h; omega)
      replace oV := oV.kp kN (fun j hj h => by have := toV j hj; have := toX _ h; omega)
      replace oL := oL.kp kN (fun j hj h => by have := toL j hj; have := toX _ h; omega)
      replace oG := oG.kp kN (fun j hj h => by have := toG j hj; have := toX _ h; omega)
      clear Bw7
      clear oX kN
      clear oN
      go_wp2_with fail
      refine (unhide ML _ _ _ oL).mono ?_
      rintro _ w9 ⟨rfl, kN⟩
      have Bw9 := Below.kp Bw8 kN Bw8.size (fun k hk => by have := toL _ hk; omega)
      have sw9 := kN.size
      replace LC := LC.kp kN (fun h => by have := toL _ h; omega)
      replace LA := LA.kp kN (fun h => by have := toL _ h; omega)
      replace V := V.kp kN (fun h => by have := toL _ h; omega)
      replace X := X.kp kN (fun h => by have := toL _ h; omega)
      replace G := G.kp kN (fun h => by have := toL _ h; omega)
      replace oV := oV.kp kN (fun j hj h => by have := toV j hj; have := toL _ h; omega)
      replace oG := oG.kp kN (fun j hj h => by have := toG j hj; have := toL _ h; omega)
      clear Bw8
      clear oL kN
      have cG0 := G.cell 0 rfl
      have cG1 := G.cell 1 rfl
      have cG2 := G.cell 2 rfl
      have cG3 := G.cell 3 rfl
      have cV0 := V.cell 0 rfl
      have cV1 := V.cell 1 rfl
      have cV2 := V.cell 2 rfl
      have cV3 := V.cell 3 rfl
      go_wp2_with fail
      refine (eqBlock_yes m1 n1 s1 _ _ x1 _ (oG.ri (by omega)) (oV.ri (by omega))).mono ?_
      rintro _ w10 ⟨rfl, bb⟩
      clear cG0 cG1 cG2 cG3 cV0 cV1 cV2 cV3
      have Bw10 := Bw9.trans (bb.mono Bw9.size)
      have sw10 := bb.size
      replace LC := LC.below bb LC.lt
      replace LA := LA.below bb LA.lt
      replace V := V.below bb V.lt
      replace X := X.below bb X.lt
      replace G := G.below bb G.lt
      replace oV := oV.below bb
      replace oG := oG.below bb
      clear Bw9
      clear bb
      have cG0 := G.cell 0 rfl
      have cG1 := G.cell 1 rfl
      have cG2 := G.cell 2 rfl
      have cG3 := G.cell 3 rfl
      go_wp2_with fail
      refine (unhide MG _ _ _ oG).mono ?_
      rintro _ w11 ⟨rfl, oN, kN⟩
      clear cG0 cG1 cG2 cG3
      have Bw11 := Below.kp Bw10 kN Bw10.size (fun k hk => by have := toG _ hk; omega)
      have sw11 := kN.size
      replace LC := LC.kp kN (fun h => by have := toG _ h; omega)
      replace LA := LA.kp kN (fun h => by have := toG _ h; omega)
      replace V := V.kp kN (fun h => by have := toG _ h; omega)
      replace X := X.kp kN (fun h => by have := toG _ h; omega)
      replace G := G.kp kN (fun h => by have := toG _ h; omega)
      replace oV := oV.kp kN (fun j hj h => by have := toV j hj; have := toG _ h; omega)
      clear Bw10
      clear oG kN
      have oG := oN
      clear oN
      have cG0 := G.cell 0 rfl
      have cG1 := G.cell 1 rfl
      have cG2 := G.cell 2 rfl
      have cG3 := G.cell 3 rfl
      go_wp2_with fail
      refine (unhide HD _ _ (oG.ri (by rw [imarks_len]; omega))).mono ?_
      rintro _ w12 ⟨rfl, bb⟩
      clear cG0 cG1 cG2 cG3
      have Bw12 := Bw11.trans (bb.mono Bw11.size)
      have sw12 := bb.size
      replace LC := LC.below bb LC.lt
      replace LA := LA.below bb LA.lt
      replace V := V.below bb V.lt
      replace X := X.below bb X.lt
      replace G := G.below bb G.lt
      replace oV := oV.below bb
      replace oG := oG.below bb
      clear Bw11
      clear bb
      have K : Hid (∀ w', Below w12.heap.size w12 w' → (fun w' => Below w12.heap.size w12 w' ∧ (w'.cell? ⟨w.heap.size, 0, none⟩ = some (.int .i64 n) ∧ w'.cell? ⟨w.heap.size, 1, none⟩ = some (.int .i64 f)) ∧ (w'.cell? ⟨w.heap.size + 1, 0, none⟩ = some (.int .i64 v) ∧ w'.cell? ⟨w.heap.size + 1, 1, none⟩ = some (.string s) ∧ w'.cell? ⟨w.heap.size + 1, 2, none⟩ = some (.slice ao xs.length ca))) w') := hide fun w' hb' => ⟨hb', ⟨(LC.below hb' LC.lt).cell 0 rfl, (LC.below hb' LC.lt).cell 1 rfl⟩, ⟨(LA.below hb' LA.lt).cell 0 rfl, (LA.below hb' LA.lt).cell 1 rfl, (LA.below hb' LA.lt).cell 2 rfl⟩⟩
      go_upto_region 31 with fail
      go_cut [19, 20] (fun c d1 wx => ∃ h uu, c = .pointer (some ⟨h, 0, none⟩) ∧ d1 = .bool q ∧ w12.heap.size ≤ h ∧ h < wx.heap.size ∧ Loc wx h #[.string m1, .int .i64 n1, .string s1, uu] ∧ OI wx w12.heap.size uu x1 ∧ (∀ j, uu.ownBlock = some j → w12.heap.size ≤ j ∧ j < wx.heap.size ∧ j ≠ h) ∧ Below w12.heap.size w12 wx)
      case first =>
        refine wp_region_noPanic ?_
        refine wp_region_held_drew (S := fun w' => Below w12.heap.size w12 w' ∧ (w'.cell? ⟨w.heap.size, 0, none⟩ = some (.int .i64 n) ∧ w'.cell? ⟨w.heap.size, 1, none⟩ = some (.int .i64 f)) ∧ (w'.cell? ⟨w.heap.size + 1, 0, none⟩ = some (.int .i64 v) ∧ w'.cell? ⟨w.heap.size + 1, 1, none⟩ = some (.string s) ∧ w'.cell? ⟨w.heap.size + 1, 2, none⟩ = some (.slice ao xs.length ca))) (by kernel_rfl) (unhide K _ (Below.drew (Below.refl _ _))) (fun hHeld => ?_)
        obtain ⟨wd, hd⟩ : ∃ wd, w12.drew = wd := ⟨_, rfl⟩
        have bd : Below w12.heap.size w12 wd := hd ▸ Below.drew (Below.refl _ _)
        have szd := bd.size
        rw [hd] at hHeld ⊢
        clear hd
        refine take_at (i := 0) (d := 105) (v := ?_) rfl rfl (by kernel_rfl) (by kernel_rfl) (by kernel_rfl) (fun _ _ _ h => h) (Or.inl ⟨by rfl, ?_⟩) (by assumption) ?_
        rotate_left
        · intro w hSw
          try dsimp only at hSw
          go_simp
          try with_reducible rfl
        simp only [Act.put, List.setIfInBounds_toArray, List.set_cons_zero, List.set_cons_succ]
        refine take_at (i := 2) (d := 107) (v := ?_) rfl rfl (by kernel_rfl) (by kernel_rfl) (by kernel_rfl) (fun _ _ _ h => h) (Or.inl ⟨by rfl, ?_⟩) (by assumption) ?_
        rotate_left
        · intro w hSw
          try dsimp only at hSw
          go_simp
          try with_reducible rfl
        simp only [Act.put, List.setIfInBounds_toArray, List.set_cons_zero, List.set_cons_succ]
        refine take_at (i := 4) (d := 109) (v := ?_) rfl rfl (by kernel_rfl) (by kernel_rfl) (by kernel_rfl) (fun _ _ _ h => h) (Or.inl ⟨by rfl, ?_⟩) (by assumption) ?_
        rotate_left
        · intro w hSw
          try dsimp only at hSw
          go_simp
          try with_reducible rfl
        simp only [Act.put, List.setIfInBounds_toArray, List.set_cons_zero, List.set_cons_succ]
        refine take_at (i := 5) (d := 110) (v := ?_) rfl rfl (by kernel_rfl) (by kernel_rfl) (by kernel_rfl) (fun _ _ _ h => h) (Or.inl ⟨by rfl, ?_⟩) (by assumption) ?_
        rotate_left
        · intro w hSw
          try dsimp only at hSw
          go_simp
          try with_reducible rfl
        simp only [Act.put, List.setIfInBounds_toArray, List.set_cons_zero, List.set_cons_succ]
        refine wpAnyH_ready (rs := [1, 11]) (by kernel_rfl) (by simp) (AllReadyH.cons rfl (fun KK hKK => ?_) (AllReadyH.cons rfl (fun KK hKK => ?_) AllReadyH.nil))
        · go_simp
          have hgo := bd
          refine (unhide TC _).mono ?_
          rintro e wc31_1 ⟨rfl, bnew⟩
          have bc31_2 : Below w12.heap.size w12 wc31_1 := bd.trans (bnew.mono bd.size)
          have zzwc31_1 := bnew.size
          clear hHeld bnew hgo
          refine hKK.out _ _ (unhide K _ bc31_2) (fun hHeld => ?_)
          clear hKK KK
          refine wpAnyH_ready (rs := [3, 11]) (by kernel_rfl) (by simp) (AllReadyH.cons rfl (fun KK hKK => ?_) (AllReadyH.cons rfl (fun KK hKK => ?_) AllReadyH.nil))
          · go_simp
            have hgo := bc31_2
            refine (unhide TA _ ((unhide HA).below (Bw12.trans (hgo.mono Bw12.size)) (Nat.le_refl _))).mono ?_
            rintro e wc31_3 ⟨vv1, rfl, oq1, bnew⟩
            have bc31_4 : Below w12.heap.size w12 wc31_3 := bc31_2.trans (bnew.mono bc31_2.size)
            have zzwc31_3 := bnew.size
            obtain ⟨aq, kq, rfl⟩ := oq1.form
            clear hHeld bnew hgo
            refine hKK.out _ _ (unhide K _ bc31_4) (fun hHeld => ?_)
            clear hKK KK
            refine wpAnyH_ready (rs := [6, 11]) (by kernel_rfl) (by simp) (AllReadyH.cons rfl (fun KK hKK => ?_) (AllReadyH.cons rfl (fun KK hKK => ?_) AllReadyH.nil))
            · go_simp
              have hgo := bc31_4
              refine (unhide TL _ ((unhide HL).below (Bw12.trans (hgo.mono Bw12.size)))).mono ?_
              rintro e wc31_5 ⟨vv2, rfl, ol1, bnew⟩
              have bc31_6 : Below w12.heap.size w12 wc31_5 := bc31_4.trans (bnew.mono bc31_4.size)
              have zzwc31_5 := bnew.size
              replace oq1 := oq1.below bnew
              clear hHeld bnew hgo
              refine hKK.out _ _ (unhide K _ bc31_6) (fun hHeld => ?_)
              clear hKK KK
              refine wpAnyH_ready (rs := [7, 11]) (by kernel_rfl) (by simp) (AllReadyH.cons rfl (fun KK hKK => ?_) (AllReadyH.cons rfl (fun KK hKK => ?_) AllReadyH.nil))
              · go_simp
                have hgo := bc31_6
                refine (unhide IM _ _ _ _ (ol1.rt (by omega)) ((unhide HE).below (Bw12.trans (hgo.mono Bw12.size))) (oq1.ri (by omega))).mono ?_
                rintro e wc31_7 ⟨vv3, rfl, oq3, bnew⟩
                have bc31_8 : Below w12.heap.size w12 wc31_7 := bc31_6.trans (bnew.mono bc31_6.size)
                have zzwc31_7 := bnew.size
                replace oq1 := oq1.below bnew
                replace ol1 := ol1.below bnew
                have tl := World.ownsRow.lt oq3
                obtain ⟨aa, kk, rfl⟩ := oq3.form
                clear hHeld bnew hgo
                refine hKK.out _ _ (unhide K _ bc31_8) (fun hHeld => ?_)
                clear hKK KK
                refine take_at (i := 8) (d := 104) (v := ?_) rfl rfl (by kernel_rfl) (by kernel_rfl) (by kernel_rfl) (fun _ _ _ h => h) (Or.inl ⟨by rfl, ?_⟩) (by assumption) ?_
                rotate_left
                · intro w hSw
                  try dsimp only at hSw
                  go_simp
                  try with_reducible rfl
                simp only [Act.put, List.setIfInBounds_toArray, List.set_cons_zero, List.set_cons_succ]
                refine take_at (i := 9) (d := 113) (v := ?_) rfl rfl (by kernel_rfl) (by kernel_rfl) (by kernel_rfl) (fun _ _ _ h => h) (Or.inl ⟨by rfl, ?_⟩) (by assumption) ?_
                rotate_left
                · intro w hSw
                  try dsimp only at hSw
                  go_simp
                  try with_reducible rfl
                simp only [Act.put, List.setIfInBounds_toArray, List.set_cons_zero, List.set_cons_succ]
                refine take_at (i := 10) (d := 114) (v := ?_) rfl rfl (by kernel_rfl) (by kernel_rfl) (by kernel_rfl) (fun _ _ _ h => h) (Or.inl ⟨by rfl, ?_⟩) (by assumption) ?_
                rotate_left
                · intro w hSw
                  try dsimp only at hSw
                  go_simp
                  try with_reducible rfl
                simp only [Act.put, List.setIfInBounds_toArray, List.set_cons_zero, List.set_cons_succ]
                refine ready_at (i := 11) rfl (by kernel_rfl) (fun KK hKK => ?_)
                go_simp
                obtain ⟨wl31_9, hwl31_9⟩ : ∃ x, wc31_7.alloc (.cells #[.string ⟨#[]⟩, .int .i64 0, .string ⟨#[]⟩, .slice none 0 0] 30) = x := ⟨_, rfl⟩
                have cbl31_10 : Below wc31_7.heap.size wc31_7 wl31_9 := hwl31_9 ▸ qalloc _ _
                have bl31_10 : Below w12.heap.size w12 wl31_9 := bc31_8.trans (cbl31_10.mono bc31_8.size)
                have zzwl31_9 : wl31_9.heap.size = wc31_7.heap.size + 1 := by rw [← hwl31_9]; simp
                have lg : Loc wl31_9 wc31_7.heap.size #[.string ⟨#[]⟩, .int .i64 0, .string ⟨#[]⟩, .slice none 0 0] := hwl31_9 ▸ loc_at wc31_7 _ _ rfl
                replace oq1 := oq1.below cbl31_10
                replace ol1 := ol1.below cbl31_10
                replace oq3 := oq3.below cbl31_10
                rw [hwl31_9]
                clear hHeld hwl31_9 cbl31_10
                refine hKK.out _ _ (unhide K _ bl31_10) (fun hHeld => ?_)
                clear hKK KK
                have q0 := lg.cell 0 rfl
                have q1 := lg.cell 1 rfl
                have q2 := lg.cell 2 rfl
                have q3 := lg.cell 3 rfl
                have FG := lg.frozen
                refine ready_at (i := 12) rfl (by kernel_rfl) (fun KK hKK => ?_)
                go_simp
                have bs : Below w12.heap.size w12 ((((wl31_9.setCell ⟨wc31_7.heap.size, 0, none⟩ (.string m1)).setCell ⟨wc31_7.heap.size, 1, none⟩ (.int .i64 n1)).setCell ⟨wc31_7.heap.size, 2, none⟩ (.string s1)).setCell ⟨wc31_7.heap.size, 3, none⟩ (.slice aa (x1).length kk)) := (Below.set (Below.set (Below.set (Below.set bl31_10 _ _ (by omega)) _ _ (by omega)) _ _ (by omega)) _ _ (by omega))
                clear hHeld
                refine hKK.out _ _ (unhide K _ bs) (fun hHeld => ?_)
                clear hKK KK
                refine take_at (i := 13) (d := 20) (v := ?_) rfl rfl (by kernel_rfl) (by kernel_rfl) (by kernel_rfl) (fun _ _ _ h => h) (Or.inl ⟨by rfl, ?_⟩) (by assumption) ?_
                rotate_left
                · intro w hSw
                  try dsimp only at hSw
                  go_simp
                  try with_reducible rfl
                simp only [Act.put, List.setIfInBounds_toArray, List.set_cons_zero, List.set_cons_succ]
                clear hHeld
                refine wpAnyH_done (by kernel_rfl) ?_ _
                refine NoPanic.normal ?_
                go_wp2_with fail
                go_meet
                have k3 : Kp wl31_9 ((((wl31_9.setCell ⟨wc31_7.heap.size, 0, none⟩ (.string m1)).setCell ⟨wc31_7.heap.size, 1, none⟩ (.int .i64 n1)).setCell ⟨wc31_7.heap.size, 2, none⟩ (.string s1)).setCell ⟨wc31_7.heap.size, 3, none⟩ (.slice aa (x1).length kk)) (fun k => k = wc31_7.heap.size) := (((set_kp _ _ _ _).trans (set_kp _ _ _ _)).trans (set_kp _ _ _ _)).trans (set_kp _ _ _ _)
                have ll := lg.lt
                exact ⟨_, _, rfl, rfl, by omega, by simpa using ll, ((((lg.set 0 _ rfl).set 1 _ rfl).set 2 _ rfl).set 3 _ rfl), (oq3.kp k3 (fun j hj e => by have := tl j hj; omega)).mono (by omega), fun j hj => by have := tl j hj; simp; omega, bs⟩
              · go_simp
                obtain ⟨wl31_11, hwl31_11⟩ : ∃ x, wc31_5.alloc (.cells #[.string ⟨#[]⟩, .int .i64 0, .string ⟨#[]⟩, .slice none 0 0] 30) = x := ⟨_, rfl⟩
                have cbl31_12 : Below wc31_5.heap.size wc31_5 wl31_11 := hwl31_11 ▸ qalloc _ _
                have bl31_12 : Below w12.heap.size w12 wl31_11 := bc31_6.trans (cbl31_12.mono bc31_6.size)
                have zzwl31_11 : wl31_11.heap.size = wc31_5.heap.size + 1 := by rw [← hwl31_11]; simp
                have lg : Loc wl31_11 wc31_5.heap.size #[.string ⟨#[]⟩, .int .i64 0, .string ⟨#[]⟩, .slice none 0 0] := hwl31_11 ▸ loc_at wc31_5 _ _ rfl
                replace oq1 := oq1.below cbl31_12
                replace ol1 := ol1.below cbl31_12
                rw [hwl31_11]
                clear hHeld hwl31_11 cbl31_12
                refine hKK.out _ _ (unhide K _ bl31_12) (fun hHeld => ?_)
                clear hKK KK
                refine ready_at (i := 7) rfl (by kernel_rfl) (fun KK hKK => ?_)
                go_simp
                have hgo := bl31_12
                refine (unhide IM _ _ _ _ (ol1.rt (by omega)) ((unhide HE).below (Bw12.trans (hgo.mono Bw12.size))) (oq1.ri (by omega))).mono ?_
                rintro e wc31_13 ⟨vv3, rfl, oq3, bnew⟩
                have bc31_14 : Below w12.heap.size w12 wc31_13 := bl31_12.trans (bnew.mono bl31_12.size)
                have zzwc31_13 := bnew.size
                replace oq1 := oq1.below bnew
                replace ol1 := ol1.below bnew
                replace lg := lg.below bnew lg.lt
                have tl := World.ownsRow.lt oq3
                obtain ⟨aa, kk, rfl⟩ := oq3.form
                clear hHeld bnew hgo
                refine hKK.out _ _ (unhide K _ bc31_14) (fun hHeld => ?_)
                clear hKK KK
                refine take_at (i := 8) (d := 104) (v := ?_) rfl rfl (by kernel_rfl) (by kernel_rfl) (by kernel_rfl) (fun _ _ _ h => h) (Or.inl ⟨by rfl, ?_⟩) (by assumption) ?_
                rotate_left
                · intro w hSw
                  try dsimp only at hSw
                  go_simp
                  try with_reducible rfl
                simp only [Act.put, List.setIfInBounds_toArray, List.set_cons_zero, List.set_cons_succ]
                refine take_at (i := 9) (d := 113) (v := ?_) rfl rfl (by kernel_rfl) (by kernel_rfl) (by kernel_rfl) (fun _ _ _ h => h) (Or.inl ⟨by rfl, ?_⟩) (by assumption) ?_
                rotate_left
                · intro w hSw
                  try dsimp only at hSw
                  go_simp
                  try with_reducible rfl
                simp only [Act.put, List.setIfInBounds_toArray, List.set_cons_zero, List.set_cons_succ]
                refine take_at (i := 10) (d := 114) (v := ?_) rfl rfl (by kernel_rfl) (by kernel_rfl) (by kernel_rfl) (fun _ _ _ h => h) (Or.inl ⟨by rfl, ?_⟩) (by assumption) ?_
                rotate_left
                · intro w hSw
                  try dsimp only at hSw
                  go_simp
                  try with_reducible rfl
                simp only [Act.put, List.setIfInBounds_toArray, List.set_cons_zero, List.set_cons_succ]
                have q0 := lg.cell 0 rfl
                have q1 := lg.cell 1 rfl
                have q2 := lg.cell 2 rfl
                have q3 := lg.cell 3 rfl
                have FG := lg.frozen
                refine ready_at (i := 12) rfl (by kernel_rfl) (fun KK hKK => ?_)
                go_simp
                have bs : Below w12.heap.size w12 ((((wc31_13.setCell ⟨wc31_5.heap.size, 0, none⟩ (.string m1)).setCell ⟨wc31_5.heap.size, 1, none⟩ (.int .i64 n1)).setCell ⟨wc31_5.heap.size, 2, none⟩ (.string s1)).setCell ⟨wc31_5.heap.size, 3, none⟩ (.slice aa (x1).length kk)) := (Below.set (Below.set (Below.set (Below.set bc31_14 _ _ (by omega)) _ _ (by omega)) _ _ (by omega)) _ _ (by omega))
                clear hHeld
                refine hKK.out _ _ (unhide K _ bs) (fun hHeld => ?_)
                clear hKK KK
                refine take_at (i := 13) (d := 20) (v := ?_) rfl rfl (by kernel_rfl) (by kernel_rfl) (by kernel_rfl) (fun _ _ _ h => h) (Or.inl ⟨by rfl, ?_⟩) (by assumption) ?_
                rotate_left
                · intro w hSw
                  try dsimp only at hSw
                  go_simp
                  try with_reducible rfl
                simp only [Act.put, List.setIfInBounds_toArray, List.set_cons_zero, List.set_cons_succ]
                clear hHeld
                refine wpAnyH_done (by kernel_rfl) ?_ _
                refine NoPanic.normal ?_
                go_wp2_with fail
                go_meet
                have k3 : Kp wc31_13 ((((wc31_13.setCell ⟨wc31_5.heap.size, 0, none⟩ (.string m1)).setCell ⟨wc31_5.heap.size, 1, none⟩ (.int .i64 n1)).setCell ⟨wc31_5.heap.size, 2, none⟩ (.string s1)).setCell ⟨wc31_5.heap.size, 3, none⟩ (.slice aa (x1).length kk)) (fun k => k = wc31_5.heap.size) := (((set_kp _ _ _ _).trans (set_kp _ _ _ _)).trans (set_kp _ _ _ _)).trans (set_kp _ _ _ _)
                have ll := lg.lt
                exact ⟨_, _, rfl, rfl, by omega, by simpa using ll, ((((lg.set 0 _ rfl).set 1 _ rfl).set 2 _ rfl).set 3 _ rfl), (oq3.kp k3 (fun j hj e => by have := tl j hj; omega)).mono (by omega), fun j hj => by have := tl j hj; simp; omega, bs⟩
            · go_simp
              obtain ⟨wl31_15, hwl31_15⟩ : ∃ x, wc31_3.alloc (.cells #[.string ⟨#[]⟩, .int .i64 0, .string ⟨#[]⟩, .slice none 0 0] 30) = x := ⟨_, rfl⟩
              have cbl31_16 : Below wc31_3.heap.size wc31_3 wl31_15 := hwl31_15 ▸ qalloc _ _
              have bl31_16 : Below w12.heap.size w12 wl31_15 := bc31_4.trans (cbl31_16.mono bc31_4.size)
              have zzwl31_15 : wl31_15.heap.size = wc31_3.heap.size + 1 := by rw [← hwl31_15]; simp
              have lg : Loc wl31_15 wc31_3.heap.size #[.string ⟨#[]⟩, .int .i64 0, .string ⟨#[]⟩, .slice none 0 0] := hwl31_15 ▸ loc_at wc31_3 _ _ rfl
              replace oq1 := oq1.below cbl31_16
              rw [hwl31_15]
              clear hHeld hwl31_15 cbl31_16
              refine hKK.out _ _ (unhide K _ bl31_16) (fun hHeld => ?_)
              clear hKK KK
              refine ready_at (i := 6) rfl (by kernel_rfl) (fun KK hKK => ?_)
              go_simp
              have hgo := bl31_16
              refine (unhide TL _ ((unhide HL).below (Bw12.trans (hgo.mono Bw12.size)))).mono ?_
              rintro e wc31_17 ⟨vv2, rfl, ol1, bnew⟩
              have bc31_18 : Below w12.heap.size w12 wc31_17 := bl31_16.trans (bnew.mono bl31_16.size)
              have zzwc31_17 := bnew.size
              replace oq1 := oq1.below bnew
              replace lg := lg.below bnew lg.lt
              clear hHeld bnew hgo
              refine hKK.out _ _ (unhide K _ bc31_18) (fun hHeld => ?_)
              clear hKK KK
              refine ready_at (i := 7) rfl (by kernel_rfl) (fun KK hKK => ?_)
              go_simp
              have hgo := bc31_18
              refine (unhide IM _ _ _ _ (ol1.rt (by omega)) ((unhide HE).below (Bw12.trans (hgo.mono Bw12.size))) (oq1.ri (by omega))).mono ?_
              rintro e wc31_19 ⟨vv3, rfl, oq3, bnew⟩
              have bc31_20 : Below w12.heap.size w12 wc31_19 := bc31_18.trans (bnew.mono bc31_18.size)
              have zzwc31_19 := bnew.size
              replace oq1 := oq1.below bnew
              replace ol1 := ol1.below bnew
              replace lg := lg.below bnew lg.lt
              have tl := World.ownsRow.lt oq3
              obtain ⟨aa, kk, rfl⟩ := oq3.form
              clear hHeld bnew hgo
              refine hKK.out _ _ (unhide K _ bc31_20) (fun hHeld => ?_)
              clear hKK KK
              refine take_at (i := 8) (d := 104) (v := ?_) rfl rfl (by kernel_rfl) (by kernel_rfl) (by kernel_rfl) (fun _ _ _ h => h) (Or.inl ⟨by rfl, ?_⟩) (by assumption) ?_
              rotate_left
              · intro w hSw
                try dsimp only at hSw
                go_simp
                try with_reducible rfl
              simp only [Act.put, List.setIfInBounds_toArray, List.set_cons_zero, List.set_cons_succ]
              refine take_at (i := 9) (d := 113) (v := ?_) rfl rfl (by kernel_rfl) (by kernel_rfl) (by kernel_rfl) (fun _ _ _ h => h) (Or.inl ⟨by rfl, ?_⟩) (by assumption) ?_
              rotate_left
              · intro w hSw
                try dsimp only at hSw
                go_simp
                try with_reducible rfl
              simp only [Act.put, List.setIfInBounds_toArray, List.set_cons_zero, List.set_cons_succ]
              refine take_at (i := 10) (d := 114) (v := ?_) rfl rfl (by kernel_rfl) (by kernel_rfl) (by kernel_rfl) (fun _ _ _ h => h) (Or.inl ⟨by rfl, ?_⟩) (by assumption) ?_
              rotate_left
              · intro w hSw
                try dsimp only at hSw
                go_simp
                try with_reducible rfl
              simp only [Act.put, List.setIfInBounds_toArray, List.set_cons_zero, List.set_cons_succ]
              have q0 := lg.cell 0 rfl
              have q1 := lg.cell 1 rfl
              have q2 := lg.cell 2 rfl
              have q3 := lg.cell 3 rfl
              have FG := lg.frozen
              refine ready_at (i := 12) rfl (by kernel_rfl) (fun KK hKK => ?_)
              go_simp
              have bs : Below w12.heap.size w12 ((((wc31_19.setCell ⟨wc31_3.heap.size, 0, none⟩ (.string m1)).setCell ⟨wc31_3.heap.size, 1, none⟩ (.int .i64 n1)).setCell ⟨wc31_3.heap.size, 2, none⟩ (.string s1)).setCell ⟨wc31_3.heap.size, 3, none⟩ (.slice aa (x1).length kk)) := (Below.set (Below.set (Below.set (Below.set bc31_20 _ _ (by omega)) _ _ (by omega)) _ _ (by omega)) _ _ (by omega))
              clear hHeld
              refine hKK.out _ _ (unhide K _ bs) (fun hHeld => ?_)
              clear hKK KK
              refine take_at (i := 13) (d := 20) (v := ?_) rfl rfl (by kernel_rfl) (by kernel_rfl) (by kernel_rfl) (fun _ _ _ h => h) (Or.inl ⟨by rfl, ?_⟩) (by assumption) ?_
              rotate_left
              · intro w hSw
                try dsimp only at hSw
                go_simp
                try with_reducible rfl
              simp only [Act.put, List.setIfInBounds_toArray, List.set_cons_zero, List.set_cons_succ]
              clear hHeld
              refine wpAnyH_done (by kernel_rfl) ?_ _
              refine NoPanic.normal ?_
              go_wp2_with fail
              go_meet
              have k3 : Kp wc31_19 ((((wc31_19.setCell ⟨wc31_3.heap.size, 0, none⟩ (.string m1)).setCell ⟨wc31_3.heap.size, 1, none⟩ (.int .i64 n1)).setCell ⟨wc31_3.heap.size, 2, none⟩ (.string s1)).setCell ⟨wc31_3.heap.size, 3, none⟩ (.slice aa (x1).length kk)) (fun k => k = wc31_3.heap.size) := (((set_kp _ _ _ _).trans (set_kp _ _ _ _)).trans (set_kp _ _ _ _)).trans (set_kp _ _ _ _)
              have ll := lg.lt
              exact ⟨_, _, rfl, rfl, by omega, by simpa using ll, ((((lg.set 0 _ rfl).set 1 _ rfl).set 2 _ rfl).set 3 _ rfl), (oq3.kp k3 (fun j hj e => by have := tl j hj; omega)).mono (by omega), fun j hj => by have := tl j hj; simp; omega, bs⟩
          · go_simp
            obtain ⟨wl31_21, hwl31_21⟩ : ∃ x, wc31_1.alloc (.cells #[.string ⟨#[]⟩, .int .i64 0, .string ⟨#[]⟩, .slice none 0 0] 30) = x := ⟨_, rfl⟩
            have cbl31_22 : Below wc31_1.heap.size wc31_1 wl31_21 := hwl31_21 ▸ qalloc _ _
            have bl31_22 : Below w12.heap.size w12 wl31_21 := bc31_2.trans (cbl31_22.mono bc31_2.size)
            have zzwl31_21 : wl31_21.heap.size = wc31_1.heap.size + 1 := by rw [← hwl31_21]; simp
            have lg : Loc wl31_21 wc31_1.heap.size #[.string ⟨#[]⟩, .int .i64 0, .string ⟨#[]⟩, .slice none 0 0] := hwl31_21 ▸ loc_at wc31_1 _ _ rfl
            rw [hwl31_21]
            clear hHeld hwl31_21 cbl31_22
            refine hKK.out _ _ (unhide K _ bl31_22) (fun hHeld => ?_)
            clear hKK KK
            refine ready_at (i := 3) rfl (by kernel_rfl) (fun KK hKK => ?_)
            go_simp
            have hgo := bl31_22
            refine (unhide TA _ ((unhide HA).below (Bw12.trans (hgo.mono Bw12.size)) (Nat.le_refl _))).mono ?_
            rintro e wc31_23 ⟨vv1, rfl, oq1, bnew⟩
            have bc31_24 : Below w12.heap.size w12 wc31_23 := bl31_22.trans (bnew.mono bl31_22.size)
            have zzwc31_23 := bnew.size
            replace lg := lg.below bnew lg.lt
            obtain ⟨aq, kq, rfl⟩ := oq1.form
            clear hHeld bnew hgo
            refine hKK.out _ _ (unhide K _ bc31_24) (fun hHeld => ?_)
            clear hKK KK
            refine ready_at (i := 6) rfl (by kernel_rfl) (fun KK hKK => ?_)
            go_simp
            have hgo := bc31_24
            refine (unhide TL _ ((unhide HL).below (Bw12.trans (hgo.mono Bw12.size)))).mono ?_
            rintro e wc31_25 ⟨vv2, rfl, ol1, bnew⟩
            have bc31_26 : Below w12.heap.size w12 wc31_25 := bc31_24.trans (bnew.mono bc31_24.size)
            have zzwc31_25 := bnew.size
            replace oq1 := oq1.below bnew
            replace lg := lg.below bnew lg.lt
            clear hHeld bnew hgo
            refine hKK.out _ _ (unhide K _ bc31_26) (fun hHeld => ?_)
            clear hKK KK
            refine ready_at (i := 7) rfl (by kernel_rfl) (fun KK hKK => ?_)
            go_simp
            have hgo := bc31_26
            refine (unhide IM _ _ _ _ (ol1.rt (by omega)) ((unhide HE).below (Bw12.trans (hgo.mono Bw12.size))) (oq1.ri (by omega))).mono ?_
            rintro e wc31_27 ⟨vv3, rfl, oq3, bnew⟩
            have bc31_28 : Below w12.heap.size w12 wc31_27 := bc31_26.trans (bnew.mono bc31_26.size)
            have zzwc31_27 := bnew.size
            replace oq1 := oq1.below bnew
            replace ol1 := ol1.below bnew
            replace lg := lg.below bnew lg.lt
            have tl := World.ownsRow.lt oq3
            obtain ⟨aa, kk, rfl⟩ := oq3.form
            clear hHeld bnew hgo
            refine hKK.out _ _ (unhide K _ bc31_28) (fun hHeld => ?_)
            clear hKK KK
            refine take_at (i := 8) (d := 104) (v := ?_) rfl rfl (by kernel_rfl) (by kernel_rfl) (by kernel_rfl) (fun _ _ _ h => h) (Or.inl ⟨by rfl, ?_⟩) (by assumption) ?_
            rotate_left
            · intro w hSw
              try dsimp only at hSw
              go_simp
              try with_reducible rfl
            simp only [Act.put, List.setIfInBounds_toArray, List.set_cons_zero, List.set_cons_succ]
            refine take_at (i := 9) (d := 113) (v := ?_) rfl rfl (by kernel_rfl) (by kernel_rfl) (by kernel_rfl) (fun _ _ _ h => h) (Or.inl ⟨by rfl, ?_⟩) (by assumption) ?_
            rotate_left
            · intro w hSw
              try dsimp only at hSw
              go_simp
              try with_reducible rfl
            simp only [Act.put, List.setIfInBounds_toArray, List.set_cons_zero, List.set_cons_succ]
            refine take_at (i := 10) (d := 114) (v := ?_) rfl rfl (by kernel_rfl) (by kernel_rfl) (by kernel_rfl) (fun _ _ _ h => h) (Or.inl ⟨by rfl, ?_⟩) (by assumption) ?_
            rotate_left
            · intro w hSw
              try dsimp only at hSw
              go_simp
              try with_reducible rfl
            simp only [Act.put, List.setIfInBounds_toArray, List.set_cons_zero, List.set_cons_succ]
            have q0 := lg.cell 0 rfl
            have q1 := lg.cell 1 rfl
            have q2 := lg.cell 2 rfl
            have q3 := lg.cell 3 rfl
            have FG := lg.frozen
            refine ready_at (i := 12) rfl (by kernel_rfl) (fun KK hKK => ?_)
            go_simp
            have bs : Below w12.heap.size w12 ((((wc31_27.setCell ⟨wc31_1.heap.size, 0, none⟩ (.string m1)).setCell ⟨wc31_1.heap.size, 1, none⟩ (.int .i64 n1)).setCell ⟨wc31_1.heap.size, 2, none⟩ (.string s1)).setCell ⟨wc31_1.heap.size, 3, none⟩ (.slice aa (x1).length kk)) := (Below.set (Below.set (Below.set (Below.set bc31_28 _ _ (by omega)) _ _ (by omega)) _ _ (by omega)) _ _ (by omega))
            clear hHeld
            refine hKK.out _ _ (unhide K _ bs) (fun hHeld => ?_)
            clear hKK KK
            refine take_at (i := 13) (d := 20) (v := ?_) rfl rfl (by kernel_rfl) (by kernel_rfl) (by kernel_rfl) (fun _ _ _ h => h) (Or.inl ⟨by rfl, ?_⟩) (by assumption) ?_
            rotate_left
            · intro w hSw
              try dsimp only at hSw
              go_simp
              try with_reducible rfl
            simp only [Act.put, List.setIfInBounds_toArray, List.set_cons_zero, List.set_cons_succ]
            clear hHeld
            refine wpAnyH_done (by kernel_rfl) ?_ _
            refine NoPanic.normal ?_
            go_wp2_with fail
            go_meet
            have k3 : Kp wc31_27 ((((wc31_27.setCell ⟨wc31_1.heap.size, 0, none⟩ (.string m1)).setCell ⟨wc31_1.heap.size, 1, none⟩ (.int .i64 n1)).setCell ⟨wc31_1.heap.size, 2, none⟩ (.string s1)).setCell ⟨wc31_1.heap.size, 3, none⟩ (.slice aa (x1).length kk)) (fun k => k = wc31_1.heap.size) := (((set_kp _ _ _ _).trans (set_kp _ _ _ _)).trans (set_kp _ _ _ _)).trans (set_kp _ _ _ _)
            have ll := lg.lt
            exact ⟨_, _, rfl, rfl, by omega, by simpa using ll, ((((lg.set 0 _ rfl).set 1 _ rfl).set 2 _ rfl).set 3 _ rfl), (oq3.kp k3 (fun j hj e => by have := tl j hj; omega)).mono (by omega), fun j hj => by have := tl j hj; simp; omega, bs⟩
        · go_simp
          obtain ⟨wl31_29, hwl31_29⟩ : ∃ x, wd.alloc (.cells #[.string ⟨#[]⟩, .int .i64 0, .string ⟨#[]⟩, .slice none 0 0] 30) = x := ⟨_, rfl⟩
          have cbl31_30 : Below wd.heap.size wd wl31_29 := hwl31_29 ▸ qalloc _ _
          have bl31_30 : Below w12.heap.size w12 wl31_29 := bd.trans (cbl31_30.mono bd.size)
          have zzwl31_29 : wl31_29.heap.size = wd.heap.size + 1 := by rw [← hwl31_29]; simp
          have lg : Loc wl31_29 wd.heap.size #[.string ⟨#[]⟩, .int .i64 0, .string ⟨#[]⟩, .slice none 0 0] := hwl31_29 ▸ loc_at wd _ _ rfl
          rw [hwl31_29]
          clear hHeld hwl31_29 cbl31_30
          refine hKK.out _ _ (unhide K _ bl31_30) (fun hHeld => ?_)
          clear hKK KK
          refine ready_at (i := 1) rfl (by kernel_rfl) (fun KK hKK => ?_)
          go_simp
          have hgo := bl31_30
          refine (unhide TC _).mono ?_
          rintro e wc31_31 ⟨rfl, bnew⟩
          have bc31_32 : Below w12.heap.size w12 wc31_31 := bl31_30.trans (bnew.mono bl31_30.size)
          have zzwc31_31 := bnew.size
          replace lg := lg.below bnew lg.lt
          clear hHeld bnew hgo
          refine hKK.out _ _ (unhide K _ bc31_32) (fun hHeld => ?_)
          clear hKK KK
          refine ready_at (i := 3) rfl (by kernel_rfl) (fun KK hKK => ?_)
          go_simp
          have hgo := bc31_32
          refine (unhide TA _ ((unhide HA).below (Bw12.trans (hgo.mono Bw12.size)) (Nat.le_refl _))).mono ?_
          rintro e wc31_33 ⟨vv1, rfl, oq1, bnew⟩
          have bc31_34 : Below w12.heap.size w12 wc31_33 := bc31_32.trans (bnew.mono bc31_32.size)
          have zzwc31_33 := bnew.size
          replace lg := lg.below bnew lg.lt
          obtain ⟨aq, kq, rfl⟩ := oq1.form
          clear hHeld bnew hgo
          refine hKK.out _ _ (unhide K _ bc31_34) (fun hHeld => ?_)
          clear hKK KK
          refine ready_at (i := 6) rfl (by kernel_rfl) (fun KK hKK => ?_)
          go_simp
          have hgo := bc31_34
          refine (unhide TL _ ((unhide HL).below (Bw12.trans (hgo.mono Bw12.size)))).mono ?_
          rintro e wc31_35 ⟨vv2, rfl, ol1, bnew⟩
          have bc31_36 : Below w12.heap.size w12 wc31_35 := bc31_34.trans (bnew.mono bc31_34.size)
          have zzwc31_35 := bnew.size
          replace oq1 := oq1.below bnew
          replace lg := lg.below bnew lg.lt
          clear hHeld bnew hgo
          refine hKK.out _ _ (unhide K _ bc31_36) (fun hHeld => ?_)
          clear hKK KK
          refine ready_at (i := 7) rfl (by kernel_rfl) (fun KK hKK => ?_)
          go_simp
          have hgo := bc31_36
          refine (unhide IM _ _ _ _ (ol1.rt (by omega)) ((unhide HE).below (Bw12.trans (hgo.mono Bw12.size))) (oq1.ri (by omega))).mono ?_
          rintro e wc31_37 ⟨vv3, rfl, oq3, bnew⟩
          have bc31_38 : Below w12.heap.size w12 wc31_37 := bc31_36.trans (bnew.mono bc31_36.size)
          have zzwc31_37 := bnew.size
          replace oq1 := oq1.below bnew
          replace ol1 := ol1.below bnew
          replace lg := lg.below bnew lg.lt
          have tl := World.ownsRow.lt oq3
          obtain ⟨aa, kk, rfl⟩ := oq3.form
          clear hHeld bnew hgo
          refine hKK.out _ _ (unhide K _ bc31_38) (fun hHeld => ?_)
          clear hKK KK
          refine take_at (i := 8) (d := 104) (v := ?_) rfl rfl (by kernel_rfl) (by kernel_rfl) (by kernel_rfl) (fun _ _ _ h => h) (Or.inl ⟨by rfl, ?_⟩) (by assumption) ?_
          rotate_left
          · intro w hSw
            try dsimp only at hSw
            go_simp
            try with_reducible rfl
          simp only [Act.put, List.setIfInBounds_toArray, List.set_cons_zero, List.set_cons_succ]
          refine take_at (i := 9) (d := 113) (v := ?_) rfl rfl (by kernel_rfl) (by kernel_rfl) (by kernel_rfl) (fun _ _ _ h => h) (Or.inl ⟨by rfl, ?_⟩) (by assumption) ?_
          rotate_left
          · intro w hSw
            try dsimp only at hSw
            go_simp
            try with_reducible rfl
          simp only [Act.put, List.setIfInBounds_toArray, List.set_cons_zero, List.set_cons_succ]
          refine take_at (i := 10) (d := 114) (v := ?_) rfl rfl (by kernel_rfl) (by kernel_rfl) (by kernel_rfl) (fun _ _ _ h => h) (Or.inl ⟨by rfl, ?_⟩) (by assumption) ?_
          rotate_left
          · intro w hSw
            try dsimp only at hSw
            go_simp
            try with_reducible rfl
          simp only [Act.put, List.setIfInBounds_toArray, List.set_cons_zero, List.set_cons_succ]
          have q0 := lg.cell 0 rfl
          have q1 := lg.cell 1 rfl
          have q2 := lg.cell 2 rfl
          have q3 := lg.cell 3 rfl
          have FG := lg.frozen
          refine ready_at (i := 12) rfl (by kernel_rfl) (fun KK hKK => ?_)
          go_simp
          have bs : Below w12.heap.size w12 ((((wc31_37.setCell ⟨wd.heap.size, 0, none⟩ (.string m1)).setCell ⟨wd.heap.size, 1, none⟩ (.int .i64 n1)).setCell ⟨wd.heap.size, 2, none⟩ (.string s1)).setCell ⟨wd.heap.size, 3, none⟩ (.slice aa (x1).length kk)) := (Below.set (Below.set (Below.set (Below.set bc31_38 _ _ (by omega)) _ _ (by omega)) _ _ (by omega)) _ _ (by omega))
          clear hHeld
          refine hKK.out _ _ (unhide K _ bs) (fun hHeld => ?_)
          clear hKK KK
          refine take_at (i := 13) (d := 20) (v := ?_) rfl rfl (by kernel_rfl) (by kernel_rfl) (by kernel_rfl) (fun _ _ _ h => h) (Or.inl ⟨by rfl, ?_⟩) (by assumption) ?_
          rotate_left
          · intro w hSw
            try dsimp only at hSw
            go_simp
            try with_reducible rfl
          simp only [Act.put, List.setIfInBounds_toArray, List.set_cons_zero, List.set_cons_succ]
          clear hHeld
          refine wpAnyH_done (by kernel_rfl) ?_ _
          refine NoPanic.normal ?_
          go_wp2_with fail
          go_meet
          have k3 : Kp wc31_37 ((((wc31_37.setCell ⟨wd.heap.size, 0, none⟩ (.string m1)).setCell ⟨wd.heap.size, 1, none⟩ (.int .i64 n1)).setCell ⟨wd.heap.size, 2, none⟩ (.string s1)).setCell ⟨wd.heap.size, 3, none⟩ (.slice aa (x1).length kk)) (fun k => k = wd.heap.size) := (((set_kp _ _ _ _).trans (set_kp _ _ _ _)).trans (set_kp _ _ _ _)).trans (set_kp _ _ _ _)
          have ll := lg.lt
          exact ⟨_, _, rfl, rfl, by omega, by simpa using ll, ((((lg.set 0 _ rfl).set 1 _ rfl).set 2 _ rfl).set 3 _ rfl), (oq3.kp k3 (fun j hj e => by have := tl j hj; omega)).mono (by omega), fun j hj => by have := tl j hj; simp; omega, bs⟩
      case rest =>
        clear K
        obtain ⟨wq31, hwq⟩ : ∃ x, x = wc := ⟨_, rfl⟩
        subst hwq
        obtain ⟨hH, vH, rfl, rfl, gH, eH, H, oH, toH, bb⟩ := hcut
        obtain ⟨aoH, koH, rfl⟩ := oH.form
        have Bwq31 := Bw12.trans (bb.mono Bw12.size)
        have swq31 := bb.size
        replace LC := LC.below bb LC.lt
        replace LA := LA.below bb LA.lt
        replace V := V.below bb V.lt
        replace X := X.below bb X.lt
        replace G := G.below bb G.lt
        replace oV := oV.below bb
        replace oG := oG.below bb
        clear Bw12
        clear bb
        clear IM
        have cH0 := H.cell 0 rfl
        have cH1 := H.cell 1 rfl
        have cH2 := H.cell 2 rfl
        have cH3 := H.cell 3 rfl
        have cV0 := V.cell 0 rfl
        have cV1 := V.cell 1 rfl
        have cV2 := V.cell 2 rfl
        have cV3 := V.cell 3 rfl
        go_wp2_with fail
        refine (eqBlock_yes m1 n1 s1 _ _ x1 _ (oH.ri (by omega)) (oV.ri (by omega))).mono ?_
        rintro _ w13 ⟨rfl, bb⟩
        clear cH0 cH1 cH2 cH3 cV0 cV1 cV2 cV3
        have Bw13 := Bwq31.trans (bb.mono Bwq31.size)
        have sw13 := bb.size
        replace LC := LC.below bb LC.lt
        replace LA := LA.below bb LA.lt
        replace V := V.below bb V.lt
        replace X := X.below bb X.lt
        replace G := G.below bb G.lt
        replace H := H.below bb H.lt
        replace oV := oV.below bb
        replace oG := oG.below bb
        replace oH := oH.below bb
        clear Bwq31
        clear bb
        have cG0 := G.cell 0 rfl
        have cG1 := G.cell 1 rfl
        have cG2 := G.cell 2 rfl
        have cG3 := G.cell 3 rfl
        go_wp2_with fail
        refine (unhide HD _ _ (oG.ri (by rw [imarks_len]; omega))).mono ?_
        rintro _ w14 ⟨rfl, bb⟩
        clear cG0 cG1 cG2 cG3
        have Bw14 := Bw13.trans (bb.mono Bw13.size)
        have sw14 := bb.size
        replace LC := LC.below bb LC.lt
        replace LA := LA.below bb LA.lt
        replace V := V.below bb V.lt
        replace X := X.below bb X.lt
        replace G := G.below bb G.lt
        replace H := H.below bb H.lt
        replace oV := oV.below bb
        replace oG := oG.below bb
        replace oH := oH.below bb
        clear Bw13
        clear bb
        go_wp2
        go_ret
        exact ⟨rfl, Bw14⟩

set_option maxHeartbeats 4000000 in
set_option maxRecDepth 100000 in
theorem fnBlockNew_long1 (n f v : Int) (s : ByteArray) (ao : Option Addr) (ca k : Nat) (view : Int) (lv : Value) (w : World) (h : 1048576 < s.size + k) (hs : s.size ≤ maxLen) (hk : k ≤ maxLen) :
    Calls Tryz.prog 5 #[cv n f, qv v s (.slice ao k ca), .int .i64 view, lv] w fun e w' => e = .returned (.bool true) ∧ Below w.heap.size w w' := by
  unfold maxLen at hs hk
  have ZA := hide fun w => szQc_no v s ao k ca 1048576 w (by omega) (by omega) (by omega) (by omega) (by omega)
  have B0 := qalloc2 w (.cells #[.int .i64 n, .int .i64 f] 45) (.cells #[.int .i64 v, .string s, .slice ao k ca] 46)
  go_enter Tryz.func5, Tryz.ntmps5
  go_wp2_with fail
  refine (unhide ZA _).mono ?_
  rintro _ w1 ⟨rfl, b1⟩
  go_wp2
  go_ret
  exact ⟨rfl, B0.trans (b1.mono B0.size)⟩
set_option maxHeartbeats 4000000 in
set_option maxRecDepth 100000 in
theorem fnBlockNew_long2 (n f v : Int) (s : ByteArray) (ao : Option Addr) (ca k : Nat) (view : Int) (lo : Option Addr) (lc j : Nat) (w : World) (h0 : s.size + k ≤ 1048576) (h : 1048576 < s.size + k + j) (hj : j ≤ maxLen) :
    Calls Tryz.prog 5 #[cv n f, qv v s (.slice ao k ca), .int .i64 view, .slice lo j lc] w fun e w' => e = .returned (.bool true) ∧ Below w.heap.size w w' := by
  unfold maxLen at hj
  have ZA := hide fun w => szQc_yes v s ao k ca 1048576 w (by omega) (by omega)
  have ZL := hide fun w => szL_no lo j lc (1048576 - s.size - k) w (by omega) (by omega) (by omega) (by omega)
  have d1 : decide ((1048576 : Int) - (s.size : Int) - (k : Int) < 0) = false := by simp; omega
  have B0 := qalloc2 w (.cells #[.int .i64 n, .int .i64 f] 45) (.cells #[.int .i64 v, .string s, .slice ao k ca] 46)
  go_enter Tryz.func5, Tryz.ntmps5
  go_wp2_with fail
  refine (unhide ZA _).mono ?_
  rintro _ w1 ⟨rfl, b1⟩
  have B1 := B0.trans (b1.mono B0.size)
  clear b1 B0
  go_wp2_with fail
  refine (unhide ZL _).mono ?_
  rintro _ w2 ⟨rfl, rfl⟩
  go_wp2
  go_ret
  exact ⟨rfl, B1⟩
theorem fnBlockNew_walk (n f v : Int) (s : ByteArray) (ao : Option Addr) (ca : Nat) (xs : List Int) (view : Int) (lo : Option Addr) (lc : Nat) (ts : List T4) (w : World) (hs : s.size ≤ maxLen) (hx : xs.length ≤ maxLen) (ht : ts.length ≤ maxLen) (h0 : -9223372036854775808 ≤ view) (h1 : view ≤ 9223372036854775807) (ha : AIW w ao xs) (hL : AR w lo ts) (hE : Env w) :
    Calls Tryz.prog 5 #[cv n f, qv v s (.slice ao xs.length ca), .int .i64 view, .slice lo ts.length lc] w fun e w' => e = .returned (.bool true) ∧ Below w.heap.size w w' := by
  by_cases h2 : s.size + xs.length ≤ 1048576
  · by_cases h3 : s.size + xs.length + ts.length ≤ 1048576
    · exact fnBlockNew_short n f v s ao ca xs view lo lc ts w h3 h0 h1 hE (ha.ri (by omega)) hL
    · exact fnBlockNew_long2 n f v s ao ca _ view lo lc _ w h2 (by omega) ht
  · exact fnBlockNew_long1 n f v s ao ca _ view _ w (by omega) hs hx
end Go.Proofs.YtggmgfkmbgcooaaGreatDoor
