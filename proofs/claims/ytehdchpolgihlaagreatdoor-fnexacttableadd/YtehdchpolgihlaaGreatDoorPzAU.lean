/- PartQcWalk: the walk of laws.FnExactPartQc, over what the program's PartQc answers. -/
import Derived.Test.YtehdchpolgihlaaGreatDoorPzAT
import Derived.Test.YtehdchpolgihlaaGreatDoorPzAC
/- PartQcWalk: the walk of laws.FnExactPartQc, over what the program's PartQc answers. -/
namespace Go.Proofs.YtehdchpolgihlaaGreatDoor
open Go.RowKit
set_option linter.unusedSectionVars false
variable [∀ (a b c d : Int), Decidable (Ok4 a b c d)]
variable [∀ (a b c d : Nat), Decidable (okN a b c d)]
variable [∀ (last : Int) (s : St), Decidable (GoodSt last s)]
variable [∀ (x : T4), Decidable (OkT x)]
variable [∀ (n : Int) (s : List Int), Decidable (OkL n s)]
variable [∀ (n f : Int), Decidable (COk n f)]

set_option maxHeartbeats 8000000 in
set_option maxRecDepth 100000 in
theorem fnPartQc_short (E : World → Prop) (hE : ∀ w w', E w → Below w.heap.size w w' → E w') (IM0 : ∀ (n f m : Int) (s : ByteArray) (u : Value) (xs : List Int) (w : World), s.size ≤ 1048576 → xs.length ≤ 1048576 → E w → RI w u xs → Calls Tryz.prog 16 #[cv n f, qv m s u] w fun e w' => ∃ r, e = .returned (.tuple #[qv (if (decide (s ≠ ⟨#[]⟩) && qokB n f m s xs) then m else 0) (if (decide (s ≠ ⟨#[]⟩) && qokB n f m s xs) then s else ⟨#[]⟩) r, .bool (decide (s ≠ ⟨#[]⟩) && qokB n f m s xs)]) ∧ OI w' w.heap.size r (if (decide (s ≠ ⟨#[]⟩) && qokB n f m s xs) then xs else []) ∧ Below w.heap.size w w')
    (n f m : Int) (s : ByteArray) (pa : Option Addr) (pc : Nat) (xs : List Int) (w : World) (hp : RI w (.slice pa xs.length pc) xs) (hs : s.size + xs.length ≤ 1048576) (he : E w) :
    Calls Tryz.prog 5 #[cv n f, qv m s (.slice pa xs.length pc)] w fun e w' => e = .returned (.bool true) ∧ Below w.heap.size w w' := by
  have RP := hide fun w' (hb : Below w.heap.size w w') => hp.below hb (Nat.le_refl _)
  have ZA := hide fun w => szPart_yes m s pa xs.length pc 1048576 w (by omega) (by omega)
  have HE := hide fun w' (hb : Below w.heap.size w w') => hE w w' he hb
  have hd1 : decide ((1048576 : Int) - (s.size : Int) - (xs.length : Int) < 0) = false := by simp; omega
  have TC := hide fun w => toConf_any n f w
  have TA := hide fun w h => toPart_any m s (.slice pa xs.length pc) xs w h
  have SP := hide fun u w h => specPartQc n f m s u xs w (by omega) (by omega) h
  have IM := hide fun u w e h => IM0 n f m s u xs w (by omega) (by omega) e h
  have hx1 : (if (decide (s ≠ ⟨#[]⟩) && qokB n f m s xs) then xs else []).length ≤ 1048576 := by split <;> first | omega | simp
  generalize (if (decide (s ≠ ⟨#[]⟩) && qokB n f m s xs) then m else 0) = n1 at *
  generalize (if (decide (s ≠ ⟨#[]⟩) && qokB n f m s xs) then s else ⟨#[]⟩) = s1 at *
  generalize (if (decide (s ≠ ⟨#[]⟩) && qokB n f m s xs) then xs else []) = x1 at *
  generalize (decide (s ≠ ⟨#[]⟩) && qokB n f m s xs) = rb at *
  have hq : (rb != rb) = false := by simp
  have EG := hide fun u v w h h' => eqQc_yes n1 s1 u v x1 w h h'
  have MX : Hid (∀ base v' w, OI w base v' xs → Calls Tryz.prog 43 #[qv m s v', .int .i64 1] w fun e w' => e = .returned (.int .i64 (1 + (xs.length : Int))) ∧ OI w' base v' (imarks 1 xs.length) ∧ Kp w w' (fun k => v'.ownBlock = some k)) := hide fun base v' w h => markPart_any m s base v' xs 1 w (by omega) (by omega) h
  have MG : Hid (∀ base v' w, OI w base v' x1 → Calls Tryz.prog 44 #[qv n1 s1 v', .int .i64 1] w fun e w' => e = .returned (.int .i64 (1 + (x1.length : Int))) ∧ OI w' base v' (imarks 1 x1.length) ∧ Kp w w' (fun k => v'.ownBlock = some k)) := hide fun base v' w h => markQc_any n1 s1 base v' x1 1 w (by omega) (by omega) h
  have HD := hide fun v' w h => heldQc_any n1 s1 v' x1.length w h
  have d3 : decide ((1 : Int) + (x1.length : Int) < 0) = false := by simp; omega
  have d4 : decide ((1 : Int) + (xs.length : Int) < 0) = false := by simp; omega
  obtain ⟨w0, hw0⟩ : ∃ y, (w.alloc (.cells #[.int .i64 n, .int .i64 f] 60)).alloc (.cells #[.int .i64 m, .string s, .slice pa xs.length pc] 61) = y := ⟨_, rfl⟩
  have Bw0 : Below w.heap.size w w0 := hw0 ▸ qalloc2 _ _ _
  have LC : Loc w0 w.heap.size #[.int .i64 n, .int .i64 f] := hw0 ▸ (loc_at w _ _ rfl).alloc _
  have LA : Loc w0 (w.heap.size + 1) #[.int .i64 m, .string s, .slice pa xs.length pc] := hw0 ▸ loc_at (w.alloc _) _ _ (by simp)
  have z0 : w0.heap.size = w.heap.size + 1 + 1 := by rw [← hw0]; simp
  clear he hE IM0 hp
  go_enter Tryz.func5, Tryz.ntmps5
  have cLA0 := LA.cell 0 rfl
  have cLA1 := LA.cell 1 rfl
  have cLA2 := LA.cell 2 rfl
  go_wp2_with fail
  clear hw0
  refine (unhide ZA _).mono ?_
  rintro _ w1 ⟨rfl, bb⟩
  clear cLA0 cLA1 cLA2
  have Bw1 := Bw0.trans (bb.mono Bw0.size)
  have sw1 := bb.size
  replace LC := LC.below bb LC.lt
  replace LA := LA.below bb LA.lt
  clear Bw0
  clear bb ZA
  have K : Hid (∀ w', Below w1.heap.size w1 w' → (fun w' => Below w1.heap.size w1 w' ∧ (w'.cell? ⟨w.heap.size, 0, none⟩ = some (.int .i64 n) ∧ w'.cell? ⟨w.heap.size, 1, none⟩ = some (.int .i64 f)) ∧ (w'.cell? ⟨w.heap.size + 1, 0, none⟩ = some (.int .i64 m) ∧ w'.cell? ⟨w.heap.size + 1, 1, none⟩ = some (.string s) ∧ w'.cell? ⟨w.heap.size + 1, 2, none⟩ = some (.slice pa xs.length pc))) w') := hide fun w' hb' => ⟨hb', ⟨(LC.below hb' LC.lt).cell 0 rfl, (LC.below hb' LC.lt).cell 1 rfl⟩, ⟨(LA.below hb' LA.lt).cell 0 rfl, (LA.below hb' LA.lt).cell 1 rfl, (LA.below hb' LA.lt).cell 2 rfl⟩⟩
  go_upto_region 5 with fail
  go_cut [6, 7] (fun c d1 wx => ∃ h uu, c = .pointer (some ⟨h, 0, none⟩) ∧ d1 = .bool rb ∧ w1.heap.size ≤ h ∧ h < wx.heap.size ∧ Loc wx h #[.int .i64 n1, .string s1, uu] ∧ OI wx w1.heap.size uu x1 ∧ (∀ j, uu.ownBlock = some j → w1.heap.size ≤ j ∧ j < wx.heap.size ∧ j ≠ h) ∧ Below w1.heap.size w1 wx)
  case first =>
    refine wp_region_noPanic ?_
    refine wp_region_held_drew (S := fun w' => Below w1.heap.size w1 w' ∧ (w'.cell? ⟨w.heap.size, 0, none⟩ = some (.int .i64 n) ∧ w'.cell? ⟨w.heap.size, 1, none⟩ = some (.int .i64 f)) ∧ (w'.cell? ⟨w.heap.size + 1, 0, none⟩ = some (.int .i64 m) ∧ w'.cell? ⟨w.heap.size + 1, 1, none⟩ = some (.string s) ∧ w'.cell? ⟨w.heap.size + 1, 2, none⟩ = some (.slice pa xs.length pc))) (by kernel_rfl) (unhide K _ (Below.drew (Below.refl _ _))) (fun hHeld => ?_)
    obtain ⟨wd, hd⟩ : ∃ wd, w1.drew = wd := ⟨_, rfl⟩
    have bd : Below w1.heap.size w1 wd := hd ▸ Below.drew (Below.refl _ _)
    have szd := bd.size
    rw [hd] at hHeld ⊢
    clear hd
    refine take_at (i := 0) (d := 22) (v := ?_) rfl rfl (by kernel_rfl) (by kernel_rfl) (by kernel_rfl) (fun _ _ _ h => h) (Or.inl ⟨by rfl, ?_⟩) (by assumption) ?_
    rotate_left
    · intro w hSw
      try dsimp only at hSw
      go_simp
      try with_reducible rfl
    simp only [Act.put, List.setIfInBounds_toArray, List.set_cons_zero, List.set_cons_succ]
    refine take_at (i := 2) (d := 24) (v := ?_) rfl rfl (by kernel_rfl) (by kernel_rfl) (by kernel_rfl) (fun _ _ _ h => h) (Or.inl ⟨by rfl, ?_⟩) (by assumption) ?_
    rotate_left
    · intro w hSw
      try dsimp only at hSw
      go_simp
      try with_reducible rfl
    simp only [Act.put, List.setIfInBounds_toArray, List.set_cons_zero, List.set_cons_succ]
    refine wpAnyH_ready (rs := [1, 8]) (by kernel_rfl) (by simp) (AllReadyH.cons rfl (fun KK hKK => ?_) (AllReadyH.cons rfl (fun KK hKK => ?_) AllReadyH.nil))
    · go_simp
      have hgo := bd
      refine (unhide TC _).mono ?_
      rintro e wc5_1 ⟨rfl, bnew⟩
      have bc5_2 : Below w1.heap.size w1 wc5_1 := bd.trans (bnew.mono bd.size)
      have zzwc5_1 := bnew.size
      clear hHeld bnew hgo
      refine hKK.out _ _ (unhide K _ bc5_2) (fun hHeld => ?_)
      clear hKK KK
      refine wpAnyH_ready (rs := [3, 8]) (by kernel_rfl) (by simp) (AllReadyH.cons rfl (fun KK hKK => ?_) (AllReadyH.cons rfl (fun KK hKK => ?_) AllReadyH.nil))
      · go_simp
        have hgo := bc5_2
        refine (unhide TA _ (unhide RP _ (Bw1.trans (hgo.mono Bw1.size)))).mono ?_
        rintro e wc5_3 ⟨vv1, rfl, oq1, bnew⟩
        have bc5_4 : Below w1.heap.size w1 wc5_3 := bc5_2.trans (bnew.mono bc5_2.size)
        have zzwc5_3 := bnew.size
        obtain ⟨aq, kq, rfl⟩ := oq1.form
        clear hHeld bnew hgo
        refine hKK.out _ _ (unhide K _ bc5_4) (fun hHeld => ?_)
        clear hKK KK
        refine wpAnyH_ready (rs := [4, 8]) (by kernel_rfl) (by simp) (AllReadyH.cons rfl (fun KK hKK => ?_) (AllReadyH.cons rfl (fun KK hKK => ?_) AllReadyH.nil))
        · go_simp
          have hgo := bc5_4
          refine (unhide SP _ _ (oq1.ri (by omega))).mono ?_
          rintro e wc5_5 ⟨vv3, rfl, oq3, bnew⟩
          have bc5_6 : Below w1.heap.size w1 wc5_5 := bc5_4.trans (bnew.mono bc5_4.size)
          have zzwc5_5 := bnew.size
          replace oq1 := oq1.below bnew
          have tl := World.ownsRow.lt oq3
          obtain ⟨aa, kk, rfl⟩ := oq3.form
          clear hHeld bnew hgo
          refine hKK.out _ _ (unhide K _ bc5_6) (fun hHeld => ?_)
          clear hKK KK
          refine take_at (i := 5) (d := 21) (v := ?_) rfl rfl (by kernel_rfl) (by kernel_rfl) (by kernel_rfl) (fun _ _ _ h => h) (Or.inl ⟨by rfl, ?_⟩) (by assumption) ?_
          rotate_left
          · intro w hSw
            try dsimp only at hSw
            go_simp
            try with_reducible rfl
          simp only [Act.put, List.setIfInBounds_toArray, List.set_cons_zero, List.set_cons_succ]
          refine take_at (i := 6) (d := 27) (v := ?_) rfl rfl (by kernel_rfl) (by kernel_rfl) (by kernel_rfl) (fun _ _ _ h => h) (Or.inl ⟨by rfl, ?_⟩) (by assumption) ?_
          rotate_left
          · intro w hSw
            try dsimp only at hSw
            go_simp
            try with_reducible rfl
          simp only [Act.put, List.setIfInBounds_toArray, List.set_cons_zero, List.set_cons_succ]
          refine take_at (i := 7) (d := 28) (v := ?_) rfl rfl (by kernel_rfl) (by kernel_rfl) (by kernel_rfl) (fun _ _ _ h => h) (Or.inl ⟨by rfl, ?_⟩) (by assumption) ?_
          rotate_left
          · intro w hSw
            try dsimp only at hSw
            go_simp
            try with_reducible rfl
          simp only [Act.put, List.setIfInBounds_toArray, List.set_cons_zero, List.set_cons_succ]
          refine ready_at (i := 8) rfl (by kernel_rfl) (fun KK hKK => ?_)
          go_simp
          obtain ⟨wl5_7, hwl5_7⟩ : ∃ x, wc5_5.alloc (.cells #[.int .i64 0, .string ⟨#[]⟩, .slice none 0 0] 40) = x := ⟨_, rfl⟩
          have cbl5_8 : Below wc5_5.heap.size wc5_5 wl5_7 := hwl5_7 ▸ qalloc _ _
          have bl5_8 : Below w1.heap.size w1 wl5_7 := bc5_6.trans (cbl5_8.mono bc5_6.size)
          have zzwl5_7 : wl5_7.heap.size = wc5_5.heap.size + 1 := by rw [← hwl5_7]; simp
          have lg : Loc wl5_7 wc5_5.heap.size #[.int .i64 0, .string ⟨#[]⟩, .slice none 0 0] := hwl5_7 ▸ loc_at wc5_5 _ _ rfl
          replace oq1 := oq1.below cbl5_8
          replace oq3 := oq3.below cbl5_8
          rw [hwl5_7]
          clear hHeld hwl5_7 cbl5_8
          refine hKK.out _ _ (unhide K _ bl5_8) (fun hHeld => ?_)
          clear hKK KK
          have q0 := lg.cell 0 rfl
          have q1 := lg.cell 1 rfl
          have q2 := lg.cell 2 rfl
          have FG := lg.frozen
          refine ready_at (i := 9) rfl (by kernel_rfl) (fun KK hKK => ?_)
          go_simp
          have bs : Below w1.heap.size w1 (((wl5_7.setCell ⟨wc5_5.heap.size, 0, none⟩ (.int .i64 n1)).setCell ⟨wc5_5.heap.size, 1, none⟩ (.string s1)).setCell ⟨wc5_5.heap.size, 2, none⟩ (.slice aa (x1).length kk)) := (Below.set (Below.set (Below.set bl5_8 _ _ (by omega)) _ _ (by omega)) _ _ (by omega))
          clear hHeld
          refine hKK.out _ _ (unhide K _ bs) (fun hHeld => ?_)
          clear hKK KK
          refine take_at (i := 10) (d := 7) (v := ?_) rfl rfl (by kernel_rfl) (by kernel_rfl) (by kernel_rfl) (fun _ _ _ h => h) (Or.inl ⟨by rfl, ?_⟩) (by assumption) ?_
          rotate_left
          · intro w hSw
            try dsimp only at hSw
            go_simp
            try with_reducible rfl
          simp only [Act.put, List.setIfInBounds_toArray, List.set_cons_zero, List.set_cons_succ]
          clear hHeld
          refine wpAnyH_done (by kernel_rfl) ?_ _
          refine NoPanic.normal ?_
          go_wp2_with fail
          go_meet
          have k3 : Kp wl5_7 (((wl5_7.setCell ⟨wc5_5.heap.size, 0, none⟩ (.int .i64 n1)).setCell ⟨wc5_5.heap.size, 1, none⟩ (.string s1)).setCell ⟨wc5_5.heap.size, 2, none⟩ (.slice aa (x1).length kk)) (fun k => k = wc5_5.heap.size) := ((set_kp _ _ _ _).trans (set_kp _ _ _ _)).trans (set_kp _ _ _ _)
          have ll := lg.lt
          exact ⟨_, _, rfl, rfl, by omega, by simpa using ll, (((lg.set 0 _ rfl).set 1 _ rfl).set 2 _ rfl), (oq3.kp k3 (fun j hj e => by have := tl j hj; omega)).mono (by omega), fun j hj => by have := tl j hj; simp; omega, bs⟩
        · go_simp
          obtain ⟨wl5_9, hwl5_9⟩ : ∃ x, wc5_3.alloc (.cells #[.int .i64 0, .string ⟨#[]⟩, .slice none 0 0] 40) = x := ⟨_, rfl⟩
          have cbl5_10 : Below wc5_3.heap.size wc5_3 wl5_9 := hwl5_9 ▸ qalloc _ _
          have bl5_10 : Below w1.heap.size w1 wl5_9 := bc5_4.trans (cbl5_10.mono bc5_4.size)
          have zzwl5_9 : wl5_9.heap.size = wc5_3.heap.size + 1 := by rw [← hwl5_9]; simp
          have lg : Loc wl5_9 wc5_3.heap.size #[.int .i64 0, .string ⟨#[]⟩, .slice none 0 0] := hwl5_9 ▸ loc_at wc5_3 _ _ rfl
          replace oq1 := oq1.below cbl5_10
          rw [hwl5_9]
          clear hHeld hwl5_9 cbl5_10
          refine hKK.out _ _ (unhide K _ bl5_10) (fun hHeld => ?_)
          clear hKK KK
          refine ready_at (i := 4) rfl (by kernel_rfl) (fun KK hKK => ?_)
          go_simp
          have hgo := bl5_10
          refine (unhide SP _ _ (oq1.ri (by omega))).mono ?_
          rintro e wc5_11 ⟨vv3, rfl, oq3, bnew⟩
          have bc5_12 : Below w1.heap.size w1 wc5_11 := bl5_10.trans (bnew.mono bl5_10.size)
          have zzwc5_11 := bnew.size
          replace oq1 := oq1.below bnew
          replace lg := lg.below bnew lg.lt
          have tl := World.ownsRow.lt oq3
          obtain ⟨aa, kk, rfl⟩ := oq3.form
          clear hHeld bnew hgo
          refine hKK.out _ _ (unhide K _ bc5_12) (fun hHeld => ?_)
          clear hKK KK
          refine take_at (i := 5) (d := 21) (v := ?_) rfl rfl (by kernel_rfl) (by kernel_rfl) (by kernel_rfl) (fun _ _ _ h => h) (Or.inl ⟨by rfl, ?_⟩) (by assumption) ?_
          rotate_left
          · intro w hSw
            try dsimp only at hSw
            go_simp
            try with_reducible rfl
          simp only [Act.put, List.setIfInBounds_toArray, List.set_cons_zero, List.set_cons_succ]
          refine take_at (i := 6) (d := 27) (v := ?_) rfl rfl (by kernel_rfl) (by kernel_rfl) (by kernel_rfl) (fun _ _ _ h => h) (Or.inl ⟨by rfl, ?_⟩) (by assumption) ?_
          rotate_left
          · intro w hSw
            try dsimp only at hSw
            go_simp
            try with_reducible rfl
          simp only [Act.put, List.setIfInBounds_toArray, List.set_cons_zero, List.set_cons_succ]
          refine take_at (i := 7) (d := 28) (v := ?_) rfl rfl (by kernel_rfl) (by kernel_rfl) (by kernel_rfl) (fun _ _ _ h => h) (Or.inl ⟨by rfl, ?_⟩) (by assumption) ?_
          rotate_left
          · intro w hSw
            try dsimp only at hSw
            go_simp
            try with_reducible rfl
          simp only [Act.put, List.setIfInBounds_toArray, List.set_cons_zero, List.set_cons_succ]
          have q0 := lg.cell 0 rfl
          have q1 := lg.cell 1 rfl
          have q2 := lg.cell 2 rfl
          have FG := lg.frozen
          refine ready_at (i := 9) rfl (by kernel_rfl) (fun KK hKK => ?_)
          go_simp
          have bs : Below w1.heap.size w1 (((wc5_11.setCell ⟨wc5_3.heap.size, 0, none⟩ (.int .i64 n1)).setCell ⟨wc5_3.heap.size, 1, none⟩ (.string s1)).setCell ⟨wc5_3.heap.size, 2, none⟩ (.slice aa (x1).length kk)) := (Below.set (Below.set (Below.set bc5_12 _ _ (by omega)) _ _ (by omega)) _ _ (by omega))
          clear hHeld
          refine hKK.out _ _ (unhide K _ bs) (fun hHeld => ?_)
          clear hKK KK
          refine take_at (i := 10) (d := 7) (v := ?_) rfl rfl (by kernel_rfl) (by kernel_rfl) (by kernel_rfl) (fun _ _ _ h => h) (Or.inl ⟨by rfl, ?_⟩) (by assumption) ?_
          rotate_left
          · intro w hSw
            try dsimp only at hSw
            go_simp
            try with_reducible rfl
          simp only [Act.put, List.setIfInBounds_toArray, List.set_cons_zero, List.set_cons_succ]
          clear hHeld
          refine wpAnyH_done (by kernel_rfl) ?_ _
          refine NoPanic.normal ?_
          go_wp2_with fail
          go_meet
          have k3 : Kp wc5_11 (((wc5_11.setCell ⟨wc5_3.heap.size, 0, none⟩ (.int .i64 n1)).setCell ⟨wc5_3.heap.size, 1, none⟩ (.string s1)).setCell ⟨wc5_3.heap.size, 2, none⟩ (.slice aa (x1).length kk)) (fun k => k = wc5_3.heap.size) := ((set_kp _ _ _ _).trans (set_kp _ _ _ _)).trans (set_kp _ _ _ _)
          have ll := lg.lt
          exact ⟨_, _, rfl, rfl, by omega, by simpa using ll, (((lg.set 0 _ rfl).set 1 _ rfl).set 2 _ rfl), (oq3.kp k3 (fun j hj e => by have := tl j hj; omega)).mono (by omega), fun j hj => by have := tl j hj; simp; omega, bs⟩
      · go_simp
        obtain ⟨wl5_13, hwl5_13⟩ : ∃ x, wc5_1.alloc (.cells #[.int .i64 0, .string ⟨#[]⟩, .slice none 0 0] 40) = x := ⟨_, rfl⟩
        have cbl5_14 : Below wc5_1.heap.size wc5_1 wl5_13 := hwl5_13 ▸ qalloc _ _
        have bl5_14 : Below w1.heap.size w1 wl5_13 := bc5_2.trans (cbl5_14.mono bc5_2.size)
        have zzwl5_13 : wl5_13.heap.size = wc5_1.heap.size + 1 := by rw [← hwl5_13]; simp
        have lg : Loc wl5_13 wc5_1.heap.size #[.int .i64 0, .string ⟨#[]⟩, .slice none 0 0] := hwl5_13 ▸ loc_at wc5_1 _ _ rfl
        rw [hwl5_13]
        clear hHeld hwl5_13 cbl5_14
        refine hKK.out _ _ (unhide K _ bl5_14) (fun hHeld => ?_)
        clear hKK KK
        refine ready_at (i := 3) rfl (by kernel_rfl) (fun KK hKK => ?_)
        go_simp
        have hgo := bl5_14
        refine (unhide TA _ (unhide RP _ (Bw1.trans (hgo.mono Bw1.size)))).mono ?_
        rintro e wc5_15 ⟨vv1, rfl, oq1, bnew⟩
        have bc5_16 : Below w1.heap.size w1 wc5_15 := bl5_14.trans (bnew.mono bl5_14.size)
        have zzwc5_15 := bnew.size
        replace lg := lg.below bnew lg.lt
        obtain ⟨aq, kq, rfl⟩ := oq1.form
        clear hHeld bnew hgo
        refine hKK.out _ _ (unhide K _ bc5_16) (fun hHeld => ?_)
        clear hKK KK
        refine ready_at (i := 4) rfl (by kernel_rfl) (fun KK hKK => ?_)
        go_simp
        have hgo := bc5_16
        refine (unhide SP _ _ (oq1.ri (by omega))).mono ?_
        rintro e wc5_17 ⟨vv3, rfl, oq3, bnew⟩
        have bc5_18 : Below w1.heap.size w1 wc5_17 := bc5_16.trans (bnew.mono bc5_16.size)
        have zzwc5_17 := bnew.size
        replace oq1 := oq1.below bnew
        replace lg := lg.below bnew lg.lt
        have tl := World.ownsRow.lt oq3
        obtain ⟨aa, kk, rfl⟩ := oq3.form
        clear hHeld bnew hgo
        refine hKK.out _ _ (unhide K _ bc5_18) (fun hHeld => ?_)
        clear hKK KK
        refine take_at (i := 5) (d := 21) (v := ?_) rfl rfl (by kernel_rfl) (by kernel_rfl) (by kernel_rfl) (fun _ _ _ h => h) (Or.inl ⟨by rfl, ?_⟩) (by assumption) ?_
        rotate_left
        · intro w hSw
          try dsimp only at hSw
          go_simp
          try with_reducible rfl
        simp only [Act.put, List.setIfInBounds_toArray, List.set_cons_zero, List.set_cons_succ]
        refine take_at (i := 6) (d := 27) (v := ?_) rfl rfl (by kernel_rfl) (by kernel_rfl) (by kernel_rfl) (fun _ _ _ h => h) (Or.inl ⟨by rfl, ?_⟩) (by assumption) ?_
        rotate_left
        · intro w hSw
          try dsimp only at hSw
          go_simp
          try with_reducible rfl
        simp only [Act.put, List.setIfInBounds_toArray, List.set_cons_zero, List.set_cons_succ]
        refine take_at (i := 7) (d := 28) (v := ?_) rfl rfl (by kernel_rfl) (by kernel_rfl) (by kernel_rfl) (fun _ _ _ h => h) (Or.inl ⟨by rfl, ?_⟩) (by assumption) ?_
        rotate_left
        · intro w hSw
          try dsimp only at hSw
          go_simp
          try with_reducible rfl
        simp only [Act.put, List.setIfInBounds_toArray, List.set_cons_zero, List.set_cons_succ]
        have q0 := lg.cell 0 rfl
        have q1 := lg.cell 1 rfl
        have q2 := lg.cell 2 rfl
        have FG := lg.frozen
        refine ready_at (i := 9) rfl (by kernel_rfl) (fun KK hKK => ?_)
        go_simp
        have bs : Below w1.heap.size w1 (((wc5_17.setCell ⟨wc5_1.heap.size, 0, none⟩ (.int .i64 n1)).setCell ⟨wc5_1.heap.size, 1, none⟩ (.string s1)).setCell ⟨wc5_1.heap.size, 2, none⟩ (.slice aa (x1).length kk)) := (Below.set (Below.set (Below.set bc5_18 _ _ (by omega)) _ _ (by omega)) _ _ (by omega))
        clear hHeld
        refine hKK.out _ _ (unhide K _ bs) (fun hHeld => ?_)
        clear hKK KK
        refine take_at (i := 10) (d := 7) (v := ?_) rfl rfl (by kernel_rfl) (by kernel_rfl) (by kernel_rfl) (fun _ _ _ h => h) (Or.inl ⟨by rfl, ?_⟩) (by assumption) ?_
        rotate_left
        · intro w hSw
          try dsimp only at hSw
          go_simp
          try with_reducible rfl
        simp only [Act.put, List.setIfInBounds_toArray, List.set_cons_zero, List.set_cons_succ]
        clear hHeld
        refine wpAnyH_done (by kernel_rfl) ?_ _
        refine NoPanic.normal ?_
        go_wp2_with fail
        go_meet
        have k3 : Kp wc5_17 (((wc5_17.setCell ⟨wc5_1.heap.size, 0, none⟩ (.int .i64 n1)).setCell ⟨wc5_1.heap.size, 1, none⟩ (.string s1)).setCell ⟨wc5_1.heap.size, 2, none⟩ (.slice aa (x1).length kk)) (fun k => k = wc5_1.heap.size) := ((set_kp _ _ _ _).trans (set_kp _ _ _ _)).trans (set_kp _ _ _ _)
        have ll := lg.lt
        exact ⟨_, _, rfl, rfl, by omega, by simpa using ll, (((lg.set 0 _ rfl).set 1 _ rfl).set 2 _ rfl), (oq3.kp k3 (fun j hj e => by have := tl j hj; omega)).mono (by omega), fun j hj => by have := tl j hj; simp; omega, bs⟩
    · go_simp
      obtain ⟨wl5_19, hwl5_19⟩ : ∃ x, wd.alloc (.cells #[.int .i64 0, .string ⟨#[]⟩, .slice none 0 0] 40) = x := ⟨_, rfl⟩
      have cbl5_20 : Below wd.heap.size wd wl5_19 := hwl5_19 ▸ qalloc _ _
      have bl5_20 : Below w1.heap.size w1 wl5_19 := bd.trans (cbl5_20.mono bd.size)
      have zzwl5_19 : wl5_19.heap.size = wd.heap.size + 1 := by rw [← hwl5_19]; simp
      have lg : Loc wl5_19 wd.heap.size #[.int .i64 0, .string ⟨#[]⟩, .slice none 0 0] := hwl5_19 ▸ loc_at wd _ _ rfl
      rw [hwl5_19]
      clear hHeld hwl5_19 cbl5_20
      refine hKK.out _ _ (unhide K _ bl5_20) (fun hHeld => ?_)
      clear hKK KK
      refine ready_at (i := 1) rfl (by kernel_rfl) (fun KK hKK => ?_)
      go_simp
      have hgo := bl5_20
      refine (unhide TC _).mono ?_
      rintro e wc5_21 ⟨rfl, bnew⟩
      have bc5_22 : Below w1.heap.size w1 wc5_21 := bl5_20.trans (bnew.mono bl5_20.size)
      have zzwc5_21 := bnew.size
      replace lg := lg.below bnew lg.lt
      clear hHeld bnew hgo
      refine hKK.out _ _ (unhide K _ bc5_22) (fun hHeld => ?_)
      clear hKK KK
      refine ready_at (i := 3) rfl (by kernel_rfl) (fun KK hKK => ?_)
      go_simp
      have hgo := bc5_22
      refine (unhide TA _ (unhide RP _ (Bw1.trans (hgo.mono Bw1.size)))).mono ?_
      rintro e wc5_23 ⟨vv1, rfl, oq1, bnew⟩
      have bc5_24 : Below w1.heap.size w1 wc5_23 := bc5_22.trans (bnew.mono bc5_22.size)
      have zzwc5_23 := bnew.size
      replace lg := lg.below bnew lg.lt
      obtain ⟨aq, kq, rfl⟩ := oq1.form
      clear hHeld bnew hgo
      refine hKK.out _ _ (unhide K _ bc5_24) (fun hHeld => ?_)
      clear hKK KK
      refine ready_at (i := 4) rfl (by kernel_rfl) (fun KK hKK => ?_)
      go_simp
      have hgo := bc5_24
      refine (unhide SP _ _ (oq1.ri (by omega))).mono ?_
      rintro e wc5_25 ⟨vv3, rfl, oq3, bnew⟩
      have bc5_26 : Below w1.heap.size w1 wc5_25 := bc5_24.trans (bnew.mono bc5_24.size)
      have zzwc5_25 := bnew.size
      replace oq1 := oq1.below bnew
      replace lg := lg.below bnew lg.lt
      have tl := World.ownsRow.lt oq3
      obtain ⟨aa, kk, rfl⟩ := oq3.form
      clear hHeld bnew hgo
      refine hKK.out _ _ (unhide K _ bc5_26) (fun hHeld => ?_)
      clear hKK KK
      refine take_at (i := 5) (d := 21) (v := ?_) rfl rfl (by kernel_rfl) (by kernel_rfl) (by kernel_rfl) (fun _ _ _ h => h) (Or.inl ⟨by rfl, ?_⟩) (by assumption) ?_
      rotate_left
      · intro w hSw
        try dsimp only at hSw
        go_simp
        try with_reducible rfl
      simp only [Act.put, List.setIfInBounds_toArray, List.set_cons_zero, List.set_cons_succ]
      refine take_at (i := 6) (d := 27) (v := ?_) rfl rfl (by kernel_rfl) (by kernel_rfl) (by kernel_rfl) (fun _ _ _ h => h) (Or.inl ⟨by rfl, ?_⟩) (by assumption) ?_
      rotate_left
      · intro w hSw
        try dsimp only at hSw
        go_simp
        try with_reducible rfl
      simp only [Act.put, List.setIfInBounds_toArray, List.set_cons_zero, List.set_cons_succ]
      refine take_at (i := 7) (d := 28) (v := ?_) rfl rfl (by kernel_rfl) (by kernel_rfl) (by kernel_rfl) (fun _ _ _ h => h) (Or.inl ⟨by rfl, ?_⟩) (by assumption) ?_
      rotate_left
      · intro w hSw
        try dsimp only at hSw
        go_simp
        try with_reducible rfl
      simp only [Act.put, List.setIfInBounds_toArray, List.set_cons_zero, List.set_cons_succ]
      have q0 := lg.cell 0 rfl
      have q1 := lg.cell 1 rfl
      have q2 := lg.cell 2 rfl
      have FG := lg.frozen
      refine ready_at (i := 9) rfl (by kernel_rfl) (fun KK hKK => ?_)
      go_simp
      have bs : Below w1.heap.size w1 (((wc5_25.setCell ⟨wd.heap.size, 0, none⟩ (.int .i64 n1)).setCell ⟨wd.heap.size, 1, none⟩ (.string s1)).setCell ⟨wd.heap.size, 2, none⟩ (.slice aa (x1).length kk)) := (Below.set (Below.set (Below.set bc5_26 _ _ (by omega)) _ _ (by omega)) _ _ (by omega))
      clear hHeld
      refine hKK.out _ _ (unhide K _ bs) (fun hHeld => ?_)
      clear hKK KK
      refine take_at (i := 10) (d := 7) (v := ?_) rfl rfl (by kernel_rfl) (by kernel_rfl) (by kernel_rfl) (fun _ _ _ h => h) (Or.inl ⟨by rfl, ?_⟩) (by assumption) ?_
      rotate_left
      · intro w hSw
        try dsimp only at hSw
        go_simp
        try with_reducible rfl
      simp only [Act.put, List.setIfInBounds_toArray, List.set_cons_zero, List.set_cons_succ]
      clear hHeld
      refine wpAnyH_done (by kernel_rfl) ?_ _
      refine NoPanic.normal ?_
      go_wp2_with fail
      go_meet
      have k3 : Kp wc5_25 (((wc5_25.setCell ⟨wd.heap.size, 0, none⟩ (.int .i64 n1)).setCell ⟨wd.heap.size, 1, none⟩ (.string s1)).setCell ⟨wd.heap.size, 2, none⟩ (.slice aa (x1).length kk)) (fun k => k = wd.heap.size) := ((set_kp _ _ _ _).trans (set_kp _ _ _ _)).trans (set_kp _ _ _ _)
      have ll := lg.lt
      exact ⟨_, _, rfl, rfl, by omega, by simpa using ll, (((lg.set 0 _ rfl).set 1 _ rfl).set 2 _ rfl), (oq3.kp k3 (fun j hj e => by have := tl j hj; omega)).mono (by omega), fun j hj => by have := tl j hj; simp; omega, bs⟩
  case rest =>
    clear K
    obtain ⟨wq5, hwq⟩ : ∃ x, x = wc := ⟨_, rfl⟩
    subst hwq
    obtain ⟨hV, vV, rfl, rfl, gV, eV, V, oV, toV, bb⟩ := hcut
    obtain ⟨aoV, koV, rfl⟩ := oV.form
    have Bwq5 := Bw1.trans (bb.mono Bw1.size)
    have swq5 := bb.size
    replace LC := LC.below bb LC.lt
    replace LA := LA.below bb LA.lt
    clear Bw1
    clear bb
    clear SP
    have cLA0 := LA.cell 0 rfl
    have cLA1 := LA.cell 1 rfl
    have cLA2 := LA.cell 2 rfl
    go_wp2_with fail
    refine (unhide TA _ (unhide RP _ Bwq5)).mono ?_
    rintro _ w2 ⟨vX, rfl, oX, bb⟩
    clear cLA0 cLA1 cLA2
    have Bw2 := Bwq5.trans (bb.mono Bwq5.size)
    have sw2 := bb.size
    replace LC := LC.below bb LC.lt
    replace LA := LA.below bb LA.lt
    replace V := V.below bb V.lt
    replace oV := oV.below bb
    clear Bwq5
    clear bb
    have toX := World.ownsRow.lt oX
    obtain ⟨aoX, koX, rfl⟩ := oX.form
    obtain ⟨w3, hw3⟩ : ∃ x, w2.alloc (.cells #[.int .i64 m, .string s, .slice aoX xs.length koX] 26) = x := ⟨_, rfl⟩
    have bb : Below w2.heap.size w2 w3 := hw3 ▸ qalloc _ _
    have X : Loc w3 w2.heap.size #[.int .i64 m, .string s, .slice aoX xs.length koX] := hw3 ▸ loc_at w2 _ _ rfl
    have zw3 : w3.heap.size = w2.heap.size + 1 := by rw [← hw3]; simp
    have Bw3 := Bw2.trans (bb.mono Bw2.size)
    have sw3 := bb.size
    replace LC := LC.below bb LC.lt
    replace LA := LA.below bb LA.lt
    replace V := V.below bb V.lt
    replace oV := oV.below bb
    replace oX := oX.below bb
    clear Bw2
    clear bb
    have RX := hide fun w' (hb' : Below w3.heap.size w3 w') => (oX.below hb').ri (by omega)
    have K : Hid (∀ w', Below w3.heap.size w3 w' → (fun w' => Below w3.heap.size w3 w' ∧ (w'.cell? ⟨w.heap.size, 0, none⟩ = some (.int .i64 n) ∧ w'.cell? ⟨w.heap.size, 1, none⟩ = some (.int .i64 f)) ∧ (w'.cell? ⟨w2.heap.size, 0, none⟩ = some (.int .i64 m) ∧ w'.cell? ⟨w2.heap.size, 1, none⟩ = some (.string s) ∧ w'.cell? ⟨w2.heap.size, 2, none⟩ = some (.slice aoX xs.length koX))) w') := hide fun w' hb' => ⟨hb', ⟨(LC.below hb' LC.lt).cell 0 rfl, (LC.below hb' LC.lt).cell 1 rfl⟩, ⟨(X.below hb' X.lt).cell 0 rfl, (X.below hb' X.lt).cell 1 rfl, (X.below hb' X.lt).cell 2 rfl⟩⟩
    go_upto_region 7 with fail
    clear hw3
    go_cut [9, 10] (fun c d1 wx => ∃ h uu, c = .pointer (some ⟨h, 0, none⟩) ∧ d1 = .bool rb ∧ w3.heap.size ≤ h ∧ h < wx.heap.size ∧ Loc wx h #[.int .i64 n1, .string s1, uu] ∧ OI wx w3.heap.size uu x1 ∧ (∀ j, uu.ownBlock = some j → w3.heap.size ≤ j ∧ j < wx.heap.size ∧ j ≠ h) ∧ Below w3.heap.size w3 wx)
    case first =>
      refine wp_region_noPanic ?_
      refine wp_region_held_drew (S := fun w' => Below w3.heap.size w3 w' ∧ (w'.cell? ⟨w.heap.size, 0, none⟩ = some (.int .i64 n) ∧ w'.cell? ⟨w.heap.size, 1, none⟩ = some (.int .i64 f)) ∧ (w'.cell? ⟨w2.heap.size, 0, none⟩ = some (.int .i64 m) ∧ w'.cell? ⟨w2.heap.size, 1, none⟩ = some (.string s) ∧ w'.cell? ⟨w2.heap.size, 2, none⟩ = some (.slice aoX xs.length koX))) (by kernel_rfl) (unhide K _ (Below.drew (Below.refl _ _))) (fun hHeld => ?_)
      obtain ⟨wd, hd⟩ : ∃ wd, w3.drew = wd := ⟨_, rfl⟩
      have bd : Below w3.heap.size w3 wd := hd ▸ Below.drew (Below.refl _ _)
      have szd := bd.size
      rw [hd] at hHeld ⊢
      clear hd
      refine take_at (i := 0) (d := 32) (v := ?_) rfl rfl (by kernel_rfl) (by kernel_rfl) (by kernel_rfl) (fun _ _ _ h => h) (Or.inl ⟨by rfl, ?_⟩) (by assumption) ?_
      rotate_left
      · intro w hSw
        try dsimp only at hSw
        go_simp
        try with_reducible rfl
      simp only [Act.put, List.setIfInBounds_toArray, List.set_cons_zero, List.set_cons_succ]
      refine take_at (i := 2) (d := 34) (v := ?_) rfl rfl (by kernel_rfl) (by kernel_rfl) (by kernel_rfl) (fun _ _ _ h => h) (Or.inl ⟨by rfl, ?_⟩) (by assumption) ?_
      rotate_left
      · intro w hSw
        try dsimp only at hSw
        go_simp
        try with_reducible rfl
      simp only [Act.put, List.setIfInBounds_toArray, List.set_cons_zero, List.set_cons_succ]
      refine wpAnyH_ready (rs := [1, 7]) (by kernel_rfl) (by simp) (AllReadyH.cons rfl (fun KK hKK => ?_) (AllReadyH.cons rfl (fun KK hKK => ?_) AllReadyH.nil))
      · go_simp
        have hgo := bd
        refine (unhide TC _).mono ?_
        rintro e wc7_1 ⟨rfl, bnew⟩
        have bc7_2 : Below w3.heap.size w3 wc7_1 := bd.trans (bnew.mono bd.size)
        have zzwc7_1 := bnew.size
        clear hHeld bnew hgo
        refine hKK.out _ _ (unhide K _ bc7_2) (fun hHeld => ?_)
        clear hKK KK
        refine wpAnyH_ready (rs := [3, 7]) (by kernel_rfl) (by simp) (AllReadyH.cons rfl (fun KK hKK => ?_) (AllReadyH.cons rfl (fun KK hKK => ?_) AllReadyH.nil))
        · go_simp
          have hgo := bc7_2
          refine (unhide IM _ _ (unhide HE _ (Bw3.trans (hgo.mono Bw3.size))) (unhide RX _ hgo)).mono ?_
          rintro e wc7_3 ⟨vv3, rfl, oq3, bnew⟩
          have bc7_4 : Below w3.heap.size w3 wc7_3 := bc7_2.trans (bnew.mono bc7_2.size)
          have zzwc7_3 := bnew.size
          have tl := World.ownsRow.lt oq3
          obtain ⟨aa, kk, rfl⟩ := oq3.form
          clear hHeld bnew hgo
          refine hKK.out _ _ (unhide K _ bc7_4) (fun hHeld => ?_)
          clear hKK KK
          refine take_at (i := 4) (d := 31) (v := ?_) rfl rfl (by kernel_rfl) (by kernel_rfl) (by kernel_rfl) (fun _ _ _ h => h) (Or.inl ⟨by rfl, ?_⟩) (by assumption) ?_
          rotate_left
          · intro w hSw
            try dsimp only at hSw
            go_simp
            try with_reducible rfl
          simp only [Act.put, List.setIfInBounds_toArray, List.set_cons_zero, List.set_cons_succ]
          refine take_at (i := 5) (d := 36) (v := ?_) rfl rfl (by kernel_rfl) (by kernel_rfl) (by kernel_rfl) (fun _ _ _ h => h) (Or.inl ⟨by rfl, ?_⟩) (by assumption) ?_
          rotate_left
          · intro w hSw
            try dsimp only at hSw
            go_simp
            try with_reducible rfl
          simp only [Act.put, List.setIfInBounds_toArray, List.set_cons_zero, List.set_cons_succ]
          refine take_at (i := 6) (d := 37) (v := ?_) rfl rfl (by kernel_rfl) (by kernel_rfl) (by kernel_rfl) (fun _ _ _ h => h) (Or.inl ⟨by rfl, ?_⟩) (by assumption) ?_
          rotate_left
          · intro w hSw
            try dsimp only at hSw
            go_simp
            try with_reducible rfl
          simp only [Act.put, List.setIfInBounds_toArray, List.set_cons_zero, List.set_cons_succ]
          refine ready_at (i := 7) rfl (by kernel_rfl) (fun KK hKK => ?_)
          go_simp
          obtain ⟨wl7_5, hwl7_5⟩ : ∃ x, wc7_3.alloc (.cells #[.int .i64 0, .string ⟨#[]⟩, .slice none 0 0] 40) = x := ⟨_, rfl⟩
          have cbl7_6 : Below wc7_3.heap.size wc7_3 wl7_5 := hwl7_5 ▸ qalloc _ _
          have bl7_6 : Below w3.heap.size w3 wl7_5 := bc7_4.trans (cbl7_6.mono bc7_4.size)
          have zzwl7_5 : wl7_5.heap.size = wc7_3.heap.size + 1 := by rw [← hwl7_5]; simp
          have lg : Loc wl7_5 wc7_3.heap.size #[.int .i64 0, .string ⟨#[]⟩, .slice none 0 0] := hwl7_5 ▸ loc_at wc7_3 _ _ rfl
          replace oq3 := oq3.below cbl7_6
          rw [hwl7_5]
          clear hHeld hwl7_5 cbl7_6
          refine hKK.out _ _ (unhide K _ bl7_6) (fun hHeld => ?_)
          clear hKK KK
          have q0 := lg.cell 0 rfl
          have q1 := lg.cell 1 rfl
          have q2 := lg.cell 2 rfl
          have FG := lg.frozen
          refine ready_at (i := 8) rfl (by kernel_rfl) (fun KK hKK => ?_)
          go_simp
          have bs : Below w3.heap.size w3 (((wl7_5.setCell ⟨wc7_3.heap.size, 0, none⟩ (.int .i64 n1)).setCell ⟨wc7_3.heap.size, 1, none⟩ (.string s1)).setCell ⟨wc7_3.heap.size, 2, none⟩ (.slice aa (x1).length kk)) := (Below.set (Below.set (Below.set bl7_6 _ _ (by omega)) _ _ (by omega)) _ _ (by omega))
          clear hHeld
          refine hKK.out _ _ (unhide K _ bs) (fun hHeld => ?_)
          clear hKK KK
          refine take_at (i := 9) (d := 10) (v := ?_) rfl rfl (by kernel_rfl) (by kernel_rfl) (by kernel_rfl) (fun _ _ _ h => h) (Or.inl ⟨by rfl, ?_⟩) (by assumption) ?_
          rotate_left
          · intro w hSw
            try dsimp only at hSw
            go_simp
            try with_reducible rfl
          simp only [Act.put, List.setIfInBounds_toArray, List.set_cons_zero, List.set_cons_succ]
          clear hHeld
          refine wpAnyH_done (by kernel_rfl) ?_ _
          refine NoPanic.normal ?_
          go_wp2_with fail
          go_meet
          have k3 : Kp wl7_5 (((wl7_5.setCell ⟨wc7_3.heap.size, 0, none⟩ (.int .i64 n1)).setCell ⟨wc7_3.heap.size, 1, none⟩ (.string s1)).setCell ⟨wc7_3.heap.size, 2, none⟩ (.slice aa (x1).length kk)) (fun k => k = wc7_3.heap.size) := ((set_kp _ _ _ _).trans (set_kp _ _ _ _)).trans (set_kp _ _ _ _)
          have ll := lg.lt
          exact ⟨_, _, rfl, rfl, by omega, by simpa using ll, (((lg.set 0 _ rfl).set 1 _ rfl).set 2 _ rfl), (oq3.kp k3 (fun j hj e => by have := tl j hj; omega)).mono (by omega), fun j hj => by have := tl j hj; simp; omega, bs⟩
        · go_simp
          obtain ⟨wl7_7, hwl7_7⟩ : ∃ x, wc7_1.alloc (.cells #[.int .i64 0, .string ⟨#[]⟩, .slice none 0 0] 40) = x := ⟨_, rfl⟩
          have cbl7_8 : Below wc7_1.heap.size wc7_1 wl7_7 := hwl7_7 ▸ qalloc _ _
          have bl7_8 : Below w3.heap.size w3 wl7_7 := bc7_2.trans (cbl7_8.mono bc7_2.size)
          have zzwl7_7 : wl7_7.heap.size = wc7_1.heap.size + 1 := by rw [← hwl7_7]; simp
          have lg : Loc wl7_7 wc7_1.heap.size #[.int .i64 0, .string ⟨#[]⟩, .slice none 0 0] := hwl7_7 ▸ loc_at wc7_1 _ _ rfl
          rw [hwl7_7]
          clear hHeld hwl7_7 cbl7_8
          refine hKK.out _ _ (unhide K _ bl7_8) (fun hHeld => ?_)
          clear hKK KK
          refine ready_at (i := 3) rfl (by kernel_rfl) (fun KK hKK => ?_)
          go_simp
          have hgo := bl7_8
          refine (unhide IM _ _ (unhide HE _ (Bw3.trans (hgo.mono Bw3.size))) (unhide RX _ hgo)).mono ?_
          rintro e wc7_9 ⟨vv3, rfl, oq3, bnew⟩
          have bc7_10 : Below w3.heap.size w3 wc7_9 := bl7_8.trans (bnew.mono bl7_8.size)
          have zzwc7_9 := bnew.size
          replace lg := lg.below bnew lg.lt
          have tl := World.ownsRow.lt oq3
          obtain ⟨aa, kk, rfl⟩ := oq3.form
          clear hHeld bnew hgo
          refine hKK.out _ _ (unhide K _ bc7_10) (fun hHeld => ?_)
          clear hKK KK
          refine take_at (i := 4) (d := 31) (v := ?_) rfl rfl (by kernel_rfl) (by kernel_rfl) (by kernel_rfl) (fun _ _ _ h => h) (Or.inl ⟨by rfl, ?_⟩) (by assumption) ?_
          rotate_left
          · intro w hSw
            try dsimp only at hSw
            go_simp
            try with_reducible rfl
          simp only [Act.put, List.setIfInBounds_toArray, List.set_cons_zero, List.set_cons_succ]
          refine take_at (i := 5) (d := 36) (v := ?_) rfl rfl (by kernel_rfl) (by kernel_rfl) (by kernel_rfl) (fun _ _ _ h => h) (Or.inl ⟨by rfl, ?_⟩) (by assumption) ?_
          rotate_left
          · intro w hSw
            try dsimp only at hSw
            go_simp
            try with_reducible rfl
          simp only [Act.put, List.setIfInBounds_toArray, List.set_cons_zero, List.set_cons_succ]
          refine take_at (i := 6) (d := 37) (v := ?_) rfl rfl (by kernel_rfl) (by kernel_rfl) (by kernel_rfl) (fun _ _ _ h => h) (Or.inl ⟨by rfl, ?_⟩) (by assumption) ?_
          rotate_left
          · intro w hSw
            try dsimp only at hSw
            go_simp
            try with_reducible rfl
          simp only [Act.put, List.setIfInBounds_toArray, List.set_cons_zero, List.set_cons_succ]
          have q0 := lg.cell 0 rfl
          have q1 := lg.cell 1 rfl
          have q2 := lg.cell 2 rfl
          have FG := lg.frozen
          refine ready_at (i := 8) rfl (by kernel_rfl) (fun KK hKK => ?_)
          go_simp
          have bs : Below w3.heap.size w3 (((wc7_9.setCell ⟨wc7_1.heap.size, 0, none⟩ (.int .i64 n1)).setCell ⟨wc7_1.heap.size, 1, none⟩ (.string s1)).setCell ⟨wc7_1.heap.size, 2, none⟩ (.slice aa (x1).length kk)) := (Below.set (Below.set (Below.set bc7_10 _ _ (by omega)) _ _ (by omega)) _ _ (by omega))
          clear hHeld
          refine hKK.out _ _ (unhide K _ bs) (fun hHeld => ?_)
          clear hKK KK
          refine take_at (i := 9) (d := 10) (v := ?_) rfl rfl (by kernel_rfl) (by kernel_rfl) (by kernel_rfl) (fun _ _ _ h => h) (Or.inl ⟨by rfl, ?_⟩) (by assumption) ?_
          rotate_left
          · intro w hSw
            try dsimp only at hSw
            go_simp
            try with_reducible rfl
          simp only [Act.put, List.setIfInBounds_toArray, List.set_cons_zero, List.set_cons_succ]
          clear hHeld
          refine wpAnyH_done (by kernel_rfl) ?_ _
          refine NoPanic.normal ?_
          go_wp2_with fail
          go_meet
          have k3 : Kp wc7_9 (((wc7_9.setCell ⟨wc7_1.heap.size, 0, none⟩ (.int .i64 n1)).setCell ⟨wc7_1.heap.size, 1, none⟩ (.string s1)).setCell ⟨wc7_1.heap.size, 2, none⟩ (.slice aa (x1).length kk)) (fun k => k = wc7_1.heap.size) := ((set_kp _ _ _ _).trans (set_kp _ _ _ _)).trans (set_kp _ _ _ _)
          have ll := lg.lt
          exact ⟨_, _, rfl, rfl, by omega, by simpa using ll, (((lg.set 0 _ rfl).set 1 _ rfl).set 2 _ rfl), (oq3.kp k3 (fun j hj e => by have := tl j hj; omega)).mono (by omega), fun j hj => by have := tl j hj; simp; omega, bs⟩
      · go_simp
        obtain ⟨wl7_11, hwl7_11⟩ : ∃ x, wd.alloc (.cells #[.int .i64 0, .string ⟨#[]⟩, .slice none 0 0] 40) = x := ⟨_, rfl⟩
        have cbl7_12 : Below wd.heap.size wd wl7_11 := hwl7_11 ▸ qalloc _ _
        have bl7_12 : Below w3.heap.size w3 wl7_11 := bd.trans (cbl7_12.mono bd.size)
        have zzwl7_11 : wl7_11.heap.size = wd.heap.size + 1 := by rw [← hwl7_11]; simp
        have lg : Loc wl7_11 wd.heap.size #[.int .i64 0, .string ⟨#[]⟩, .slice none 0 0] := hwl7_11 ▸ loc_at wd _ _ rfl
        rw [hwl7_11]
        clear hHeld hwl7_11 cbl7_12
        refine hKK.out _ _ (unhide K _ bl7_12) (fun hHeld => ?_)
        clear hKK KK
        refine ready_at (i := 1) rfl (by kernel_rfl) (fun KK hKK => ?_)
        go_simp
        have hgo := bl7_12
        refine (unhide TC _).mono ?_
        rintro e wc7_13 ⟨rfl, bnew⟩
        have bc7_14 : Below w3.heap.size w3 wc7_13 := bl7_12.trans (bnew.mono bl7_12.size)
        have zzwc7_13 := bnew.size
        replace lg := lg.below bnew lg.lt
        clear hHeld bnew hgo
        refine hKK.out _ _ (unhide K _ bc7_14) (fun hHeld => ?_)
        clear hKK KK
        refine ready_at (i := 3) rfl (by kernel_rfl) (fun KK hKK => ?_)
        go_simp
        have hgo := bc7_14
        refine (unhide IM _ _ (unhide HE _ (Bw3.trans (hgo.mono Bw3.size))) (unhide RX _ hgo)).mono ?_
        rintro e wc7_15 ⟨vv3, rfl, oq3, bnew⟩
        have bc7_16 : Below w3.heap.size w3 wc7_15 := bc7_14.trans (bnew.mono bc7_14.size)
        have zzwc7_15 := bnew.size
        replace lg := lg.below bnew lg.lt
        have tl := World.ownsRow.lt oq3
        obtain ⟨aa, kk, rfl⟩ := oq3.form
        clear hHeld bnew hgo
        refine hKK.out _ _ (unhide K _ bc7_16) (fun hHeld => ?_)
        clear hKK KK
        refine take_at (i := 4) (d := 31) (v := ?_) rfl rfl (by kernel_rfl) (by kernel_rfl) (by kernel_rfl) (fun _ _ _ h => h) (Or.inl ⟨by rfl, ?_⟩) (by assumption) ?_
        rotate_left
        · intro w hSw
          try dsimp only at hSw
          go_simp
          try with_reducible rfl
        simp only [Act.put, List.setIfInBounds_toArray, List.set_cons_zero, List.set_cons_succ]
        refine take_at (i := 5) (d := 36) (v := ?_) rfl rfl (by kernel_rfl) (by kernel_rfl) (by kernel_rfl) (fun _ _ _ h => h) (Or.inl ⟨by rfl, ?_⟩) (by assumption) ?_
        rotate_left
        · intro w hSw
          try dsimp only at hSw
          go_simp
          try with_reducible rfl
        simp only [Act.put, List.setIfInBounds_toArray, List.set_cons_zero, List.set_cons_succ]
        refine take_at (i := 6) (d := 37) (v := ?_) rfl rfl (by kernel_rfl) (by kernel_rfl) (by kernel_rfl) (fun _ _ _ h => h) (Or.inl ⟨by rfl, ?_⟩) (by assumption) ?_
        rotate_left
        · intro w hSw
          try dsimp only at hSw
          go_simp
          try with_reducible rfl
        simp only [Act.put, List.setIfInBounds_toArray, List.set_cons_zero, List.set_cons_succ]
        have q0 := lg.cell 0 rfl
        have q1 := lg.cell 1 rfl
        have q2 := lg.cell 2 rfl
        have FG := lg.frozen
        refine ready_at (i := 8) rfl (by kernel_rfl) (fun KK hKK => ?_)
        go_simp
        have bs : Below w3.heap.size w3 (((wc7_15.setCell ⟨wd.heap.size, 0, none⟩ (.int .i64 n1)).setCell ⟨wd.heap.size, 1, none⟩ (.string s1)).setCell ⟨wd.heap.size, 2, none⟩ (.slice aa (x1).length kk)) := (Below.set (Below.set (Below.set bc7_16 _ _ (by omega)) _ _ (by omega)) _ _ (by omega))
        clear hHeld
        refine hKK.out _ _ (unhide K _ bs) (fun hHeld => ?_)
        clear hKK KK
        refine take_at (i := 9) (d := 10) (v := ?_) rfl rfl (by kernel_rfl) (by kernel_rfl) (by kernel_rfl) (fun _ _ _ h => h) (Or.inl ⟨by rfl, ?_⟩) (by assumption) ?_
        rotate_left
        · intro w hSw
          try dsimp only at hSw
          go_simp
          try with_reducible rfl
        simp only [Act.put, List.setIfInBounds_toArray, List.set_cons_zero, List.set_cons_succ]
        clear hHeld
        refine wpAnyH_done (by kernel_rfl) ?_ _
        refine NoPanic.normal ?_
        go_wp2_with fail
        go_meet
        have k3 : Kp wc7_15 (((wc7_15.setCell ⟨wd.heap.size, 0, none⟩ (.int .i64 n1)).setCell ⟨wd.heap.size, 1, none⟩ (.string s1)).setCell ⟨wd.heap.size, 2, none⟩ (.slice aa (x1).length kk)) (fun k => k = wd.heap.size) := ((set_kp _ _ _ _).trans (set_kp _ _ _ _)).trans (set_kp _ _ _ _)
        have ll := lg.lt
        exact ⟨_, _, rfl, rfl, by omega, by simpa using ll, (((lg.set 0 _ rfl).set 1 _ rfl).set 2 _ rfl), (oq3.kp k3 (fun j hj e => by have := tl j hj; omega)).mono (by omega), fun j hj => by have := tl j hj; simp; omega, bs⟩
    case rest =>
      clear K
      obtain ⟨wq7, hwq⟩ : ∃ x, x = wc := ⟨_, rfl⟩
      subst hwq
      obtain ⟨hG, vG, rfl, rfl, gG, eG, G, oG, toG, bb⟩ := hcut
      obtain ⟨aoG, koG, rfl⟩ := oG.form
      have Bwq7 := Bw3.trans (bb.mono Bw3.size)
      have swq7 := bb.size
      replace LC := LC.below bb LC.lt
      replace LA := LA.below bb LA.lt
      replace V := V.below bb V.lt
      replace X := X.below bb X.lt
      replace oV := oV.below bb
      replace oX := oX.below bb
      clear Bw3
      clear bb
      clear RX
      have cG0 := G.cell 0 rfl
      have cG1 := G.cell 1 rfl
      have cG2 := G.cell 2 rfl
      have cV0 := V.cell 0 rfl
      have cV1 := V.cell 1 rfl
      have cV2 := V.cell 2 rfl
      go_wp2_with fail
      refine (unhide EG _ _ _ (oG.ri (by omega)) (oV.ri (by omega))).mono ?_
      rintro _ w4 ⟨rfl, bb⟩
      clear cG0 cG1 cG2 cV0 cV1 cV2
      have Bw4 := Bwq7.trans (bb.mono Bwq7.size)
      have sw4 := bb.size
      replace LC := LC.below bb LC.lt
      replace LA := LA.below bb LA.lt
      replace V := V.below bb V.lt
      replace X := X.below bb X.lt
      replace G := G.below bb G.lt
      replace oV := oV.below bb
      replace oX := oX.below bb
      replace oG := oG.below bb
      clear Bwq7
      clear bb
      have RX := hide fun w' (hb' : Below w4.heap.size w4 w') => (oX.below hb').ri (by omega)
      have K : Hid (∀ w', Below w4.heap.size w4 w' → (fun w' => Below w4.heap.size w4 w' ∧ (w'.cell? ⟨w.heap.size + 1, 0, none⟩ = some (.int .i64 m) ∧ w'.cell? ⟨w.heap.size + 1, 1, none⟩ = some (.string s) ∧ w'.cell? ⟨w.heap.size + 1, 2, none⟩ = some (.slice pa xs.length pc)) ∧ (w'.cell? ⟨w2.heap.size, 0, none⟩ = some (.int .i64 m) ∧ w'.cell? ⟨w2.heap.size, 1, none⟩ = some (.string s) ∧ w'.cell? ⟨w2.heap.size, 2, none⟩ = some (.slice aoX xs.length koX))) w') := hide fun w' hb' => ⟨hb', ⟨(LA.below hb' LA.lt).cell 0 rfl, (LA.below hb' LA.lt).cell 1 rfl, (LA.below hb' LA.lt).cell 2 rfl⟩, ⟨(X.below hb' X.lt).cell 0 rfl, (X.below hb' X.lt).cell 1 rfl, (X.below hb' X.lt).cell 2 rfl⟩⟩
      go_upto_region 10 with fail
      have bA : Below w4.heap.size w4 w4.drew := Below.drew (Below.refl _ _)
      refine wp_region_noPanic ?_
      refine wp_region_held_drew (S := fun w' => Below w4.heap.size w4 w' ∧ (w'.cell? ⟨w.heap.size + 1, 0, none⟩ = some (.int .i64 m) ∧ w'.cell? ⟨w.heap.size + 1, 1, none⟩ = some (.string s) ∧ w'.cell? ⟨w.heap.size + 1, 2, none⟩ = some (.slice pa xs.length pc)) ∧ (w'.cell? ⟨w2.heap.size, 0, none⟩ = some (.int .i64 m) ∧ w'.cell? ⟨w2.heap.size, 1, none⟩ = some (.string s) ∧ w'.cell? ⟨w2.heap.size, 2, none⟩ = some (.slice aoX xs.length koX))) (by kernel_rfl) (unhide K _ bA) (fun hHeld => ?_)
      refine take_at (i := 0) (d := 47) (v := ?_) rfl rfl (by kernel_rfl) (by kernel_rfl) (by kernel_rfl) (fun _ _ _ h => h) (Or.inl ⟨by rfl, ?_⟩) (by assumption) ?_
      rotate_left
      · intro w hSw
        try dsimp only at hSw
        go_simp
        try with_reducible rfl
      simp only [Act.put, List.setIfInBounds_toArray, List.set_cons_zero, List.set_cons_succ]
      refine take_at (i := 1) (d := 48) (v := ?_) rfl rfl (by kernel_rfl) (by kernel_rfl) (by kernel_rfl) (fun _ _ _ h => h) (Or.inl ⟨by rfl, ?_⟩) (by assumption) ?_
      rotate_left
      · intro w hSw
        try dsimp only at hSw
        go_simp
        try with_reducible rfl
      simp only [Act.put, List.setIfInBounds_toArray, List.set_cons_zero, List.set_cons_succ]
      refine ready_at (i := 2) rfl (by kernel_rfl) (fun KK hKK => ?_)
      go_simp
      have hgo := bA
      refine (unhide TA _ (unhide RP _ (Bw4.trans (hgo.mono Bw4.size)))).mono ?_
      rintro e wz10_1 ⟨vv1, rfl, o1, bb⟩
      have bz1 : Below w4.heap.size w4 wz10_1 := bA.trans (bb.mono bA.size)
      have R1 := hide (o1.ri (by omega))
      clear o1
      clear bA hgo bb
      clear hHeld
      refine hKK.out _ _ (unhide K _ bz1) (fun hHeld => ?_)
      clear hKK KK
      refine ready_at (i := 3) rfl (by kernel_rfl) (fun KK hKK => ?_)
      go_simp
      have hgo := bz1
      refine (eqPart_yes m s _ _ xs _ (unhide RX _ hgo) (unhide R1)).mono ?_
      rintro e wz10_2 ⟨rfl, bb⟩
      have bz2 : Below w4.heap.size w4 wz10_2 := bz1.trans (bb.mono bz1.size)
      clear R1 RX
      clear bz1 hgo bb
      clear hHeld
      refine hKK.out _ _ (unhide K _ bz2) (fun hHeld => ?_)
      clear hKK KK
      refine take_at (i := 4) (d := 51) (v := ?_) rfl rfl (by kernel_rfl) (by kernel_rfl) (by kernel_rfl) (fun _ _ _ h => h) (Or.inl ⟨by rfl, ?_⟩) (by assumption) ?_
      rotate_left
      · intro w hSw
        try dsimp only at hSw
        go_simp
        try with_reducible rfl
      simp only [Act.put, List.setIfInBounds_toArray, List.set_cons_zero, List.set_cons_succ]
      clear hHeld
      refine wpAnyH_done (by kernel_rfl) ?_ _
      refine NoPanic.normal ?_
      have bb := bz2
      have Bwz10_2 := Bw4.trans (bb.mono Bw4.size)
      have swz10_2 := bb.size
      replace LC := LC.below bb LC.lt
      replace LA := LA.below bb LA.lt
      replace V := V.below bb V.lt
      replace X := X.below bb X.lt
      replace G := G.below bb G.lt
      replace oV := oV.below bb
      replace oX := oX.below bb
      replace oG := oG.below bb
      clear Bw4
      clear bb bz2 K
      have cX0 := X.cell 0 rfl
      have cX1 := X.cell 1 rfl
      have cX2 := X.cell 2 rfl
      go_wp2_with fail
      refine (unhide MX _ _ _ oX).mono ?_
      rintro _ w5 ⟨rfl, oN, kN⟩
      clear cX0 cX1 cX2
      have Bw5 := Below.kp Bwz10_2 kN Bwz10_2.size (fun k hk => by have := toX _ hk; omega)
      have sw5 := kN.size
      replace LC := LC.kp kN (fun h => by have := toX _ h; omega)
      replace LA := LA.kp kN (fun h => by have := toX _ h; omega)
      replace V := V.kp kN (fun h => by have := toX _ h; omega)
      replace X := X.kp kN (fun h => by have := toX _ h; omega)
      replace G := G.kp kN (fun h => by have := toX _ h; omega)
      replace oV := oV.kp kN (fun j hj h => by have := toV j hj; have := toX _ h; omega)
      replace oG := oG.kp kN (fun j hj h => by have := toG j hj; have := toX _ h; omega)
      clear Bwz10_2
      clear oX kN
      clear oN
      have cG0 := G.cell 0 rfl
      have cG1 := G.cell 1 rfl
      have cG2 := G.cell 2 rfl
      have cV0 := V.cell 0 rfl
      have cV1 := V.cell 1 rfl
      have cV2 := V.cell 2 rfl
      go_wp2_with fail
      refine (unhide EG _ _ _ (oG.ri (by omega)) (oV.ri (by omega))).mono ?_
      rintro _ w6 ⟨rfl, bb⟩
      clear cG0 cG1 cG2 cV0 cV1 cV2
      have Bw6 := Bw5.trans (bb.mono Bw5.size)
      have sw6 := bb.size
      replace LC := LC.below bb LC.lt
      replace LA := LA.below bb LA.lt
      replace V := V.below bb V.lt
      replace X := X.below bb X.lt
      replace G := G.below bb G.lt
      replace oV := oV.below bb
      replace oG := oG.below bb
      clear Bw5
      clear bb
      have cG0 := G.cell 0 rfl
      have cG1 := G.cell 1 rfl
      have cG2 := G.cell 2 rfl
      go_wp2_with fail
      refine (unhide MG _ _ _ oG).mono ?_
      rintro _ w7 ⟨rfl, oN, kN⟩
      clear cG0 cG1 cG2
      have Bw7 := Below.kp Bw6 kN Bw6.size (fun k hk => by have := toG _ hk; omega)
      have sw7 := kN.size
      replace LC := LC.kp kN (fun h => by have := toG _ h; omega)
      replace LA := LA.kp kN (fun h => by have := toG _ h; omega)
      replace V := V.kp kN (fun h => by have := toG _ h; omega)
      replace X := X.kp kN (fun h => by have := toG _ h; omega)
      replace G := G.kp kN (fun h => by have := toG _ h; omega)
      replace oV := oV.kp kN (fun j hj h => by have := toV j hj; have := toG _ h; omega)
      clear Bw6
      clear oG kN
      have oG := oN
      clear oN
      have cG0 := G.cell 0 rfl
      have cG1 := G.cell 1 rfl
      have cG2 := G.cell 2 rfl
      go_wp2_with fail
      refine (unhide HD _ _ (oG.ri (by rw [imarks_len]; omega))).mono ?_
      rintro _ w8 ⟨rfl, bb⟩
      clear cG0 cG1 cG2
      have Bw8 := Bw7.trans (bb.mono Bw7.size)
      have sw8 := bb.size
      replace LC := LC.below bb LC.lt
      replace LA := LA.below bb LA.lt
      replace V := V.below bb V.lt
      replace X := X.below bb X.lt
      replace G := G.below bb G.lt
      replace oV := oV.below bb
      replace oG := oG.below bb
      clear Bw7
      clear bb
      have K : Hid (∀ w', Below w8.heap.size w8 w' → (fun w' => Below w8.heap.size w8 w' ∧ (w'.cell? ⟨w.heap.size, 0, none⟩ = some (.int .i64 n) ∧ w'.cell? ⟨w.heap.size, 1, none⟩ = some (.int .i64 f)) ∧ (w'.cell? ⟨w.heap.size + 1, 0, none⟩ = some (.int .i64 m) ∧ w'.cell? ⟨w.heap.size + 1, 1, none⟩ = some (.string s) ∧ w'.cell? ⟨w.heap.size + 1, 2, none⟩ = some (.slice pa xs.length pc))) w') := hide fun w' hb' => ⟨hb', ⟨(LC.below hb' LC.lt).cell 0 rfl, (LC.below hb' LC.lt).cell 1 rfl⟩, ⟨(LA.below hb' LA.lt).cell 0 rfl, (LA.below hb' LA.lt).cell 1 rfl, (LA.below hb' LA.lt).cell 2 rfl⟩⟩
      go_upto_region 24 with fail
      go_cut [14, 15] (fun c d1 wx => ∃ h uu, c = .pointer (some ⟨h, 0, none⟩) ∧ d1 = .bool rb ∧ w8.heap.size ≤ h ∧ h < wx.heap.size ∧ Loc wx h #[.int .i64 n1, .string s1, uu] ∧ OI wx w8.heap.size uu x1 ∧ (∀ j, uu.ownBlock = some j → w8.heap.size ≤ j ∧ j < wx.heap.size ∧ j ≠ h) ∧ Below w8.heap.size w8 wx)
      case first =>
        refine wp_region_noPanic ?_
        refine wp_region_held_drew (S := fun w' => Below w8.heap.size w8 w' ∧ (w'.cell? ⟨w.heap.size, 0, none⟩ = some (.int .i64 n) ∧ w'.cell? ⟨w.heap.size, 1, none⟩ = some (.int .i64 f)) ∧ (w'.cell? ⟨w.heap.size + 1, 0, none⟩ = some (.int .i64 m) ∧ w'.cell? ⟨w.heap.size + 1, 1, none⟩ = some (.string s) ∧ w'.cell? ⟨w.heap.size + 1, 2, none⟩ = some (.slice pa xs.length pc))) (by kernel_rfl) (unhide K _ (Below.drew (Below.refl _ _))) (fun hHeld => ?_)
        obtain ⟨wd, hd⟩ : ∃ wd, w8.drew = wd := ⟨_, rfl⟩
        have bd : Below w8.heap.size w8 wd := hd ▸ Below.drew (Below.refl _ _)
        have szd := bd.size
        rw [hd] at hHeld ⊢
        clear hd
        refine take_at (i := 0) (d := 80) (v := ?_) rfl rfl (by kernel_rfl) (by kernel_rfl) (by kernel_rfl) (fun _ _ _ h => h) (Or.inl ⟨by rfl, ?_⟩) (by assumption) ?_
        rotate_left
        · intro w hSw
          try dsimp only at hSw
          go_simp
          try with_reducible rfl
        simp only [Act.put, List.setIfInBounds_toArray, List.set_cons_zero, List.set_cons_succ]
        refine take_at (i := 2) (d := 82) (v := ?_) rfl rfl (by kernel_rfl) (by kernel_rfl) (by kernel_rfl) (fun _ _ _ h => h) (Or.inl ⟨by rfl, ?_⟩) (by assumption) ?_
        rotate_left
        · intro w hSw
          try dsimp only at hSw
          go_simp
          try with_reducible rfl
        simp only [Act.put, List.setIfInBounds_toArray, List.set_cons_zero, List.set_cons_succ]
        refine wpAnyH_ready (rs := [1, 8]) (by kernel_rfl) (by simp) (AllReadyH.cons rfl (fun KK hKK => ?_) (AllReadyH.cons rfl (fun KK hKK => ?_) AllReadyH.nil))
        · go_simp
          have hgo := bd
          refine (unhide TC _).mono ?_
          rintro e wc24_1 ⟨rfl, bnew⟩
          have bc24_2 : Below w8.heap.size w8 wc24_1 := bd.trans (bnew.mono bd.size)
          have zzwc24_1 := bnew.size
          clear hHeld bnew hgo
          refine hKK.out _ _ (unhide K _ bc24_2) (fun hHeld => ?_)
          clear hKK KK
          refine wpAnyH_ready (rs := [3, 8]) (by kernel_rfl) (by simp) (AllReadyH.cons rfl (fun KK hKK => ?_) (AllReadyH.cons rfl (fun KK hKK => ?_) AllReadyH.nil))
          · go_simp
            have hgo := bc24_2
            refine (unhide TA _ (unhide RP _ (Bw8.trans (hgo.mono Bw8.size)))).mono ?_
            rintro e wc24_3 ⟨vv1, rfl, oq1, bnew⟩
            have bc24_4 : Below w8.heap.size w8 wc24_3 := bc24_2.trans (bnew.mono bc24_2.size)
            have zzwc24_3 := bnew.size
            obtain ⟨aq, kq, rfl⟩ := oq1.form
            clear hHeld bnew hgo
            refine hKK.out _ _ (unhide K _ bc24_4) (fun hHeld => ?_)
            clear hKK KK
            refine wpAnyH_ready (rs := [4, 8]) (by kernel_rfl) (by simp) (AllReadyH.cons rfl (fun KK hKK => ?_) (AllReadyH.cons rfl (fun KK hKK => ?_) AllReadyH.nil))
            · go_simp
              have hgo := bc24_4
              refine (unhide IM _ _ (unhide HE _ (Bw8.trans (hgo.mono Bw8.size))) (oq1.ri (by omega))).mono ?_
              rintro e wc24_5 ⟨vv3, rfl, oq3, bnew⟩
              have bc24_6 : Below w8.heap.size w8 wc24_5 := bc24_4.trans (bnew.mono bc24_4.size)
              have zzwc24_5 := bnew.size
              replace oq1 := oq1.below bnew
              have tl := World.ownsRow.lt oq3
              obtain ⟨aa, kk, rfl⟩ := oq3.form
              clear hHeld bnew hgo
              refine hKK.out _ _ (unhide K _ bc24_6) (fun hHeld => ?_)
              clear hKK KK
              refine take_at (i := 5) (d := 79) (v := ?_) rfl rfl (by kernel_rfl) (by kernel_rfl) (by kernel_rfl) (fun _ _ _ h => h) (Or.inl ⟨by rfl, ?_⟩) (by assumption) ?_
              rotate_left
              · intro w hSw
                try dsimp only at hSw
                go_simp
                try with_reducible rfl
              simp only [Act.put, List.setIfInBounds_toArray, List.set_cons_zero, List.set_cons_succ]
              refine take_at (i := 6) (d := 85) (v := ?_) rfl rfl (by kernel_rfl) (by kernel_rfl) (by kernel_rfl) (fun _ _ _ h => h) (Or.inl ⟨by rfl, ?_⟩) (by assumption) ?_
              rotate_left
              · intro w hSw
                try dsimp only at hSw
                go_simp
                try with_reducible rfl
              simp only [Act.put, List.setIfInBounds_toArray, List.set_cons_zero, List.set_cons_succ]
              refine take_at (i := 7) (d := 86) (v := ?_) rfl rfl (by kernel_rfl) (by kernel_rfl) (by kernel_rfl) (fun _ _ _ h => h) (Or.inl ⟨by rfl, ?_⟩) (by assumption) ?_
              rotate_left
              · intro w hSw
                try dsimp only at hSw
                go_simp
                try with_reducible rfl
              simp only [Act.put, List.setIfInBounds_toArray, List.set_cons_zero, List.set_cons_succ]
              refine ready_at (i := 8) rfl (by kernel_rfl) (fun KK hKK => ?_)
              go_simp
              obtain ⟨wl24_7, hwl24_7⟩ : ∃ x, wc24_5.alloc (.cells #[.int .i64 0, .string ⟨#[]⟩, .slice none 0 0] 40) = x := ⟨_, rfl⟩
              have cbl24_8 : Below wc24_5.heap.size wc24_5 wl24_7 := hwl24_7 ▸ qalloc _ _
              have bl24_8 : Below w8.heap.size w8 wl24_7 := bc24_6.trans (cbl24_8.mono bc24_6.size)
              have zzwl24_7 : wl24_7.heap.size = wc24_5.heap.size + 1 := by rw [← hwl24_7]; simp
              have lg : Loc wl24_7 wc24_5.heap.size #[.int .i64 0, .string ⟨#[]⟩, .slice none 0 0] := hwl24_7 ▸ loc_at wc24_5 _ _ rfl
              replace oq1 := oq1.below cbl24_8
              replace oq3 := oq3.below cbl24_8
              rw [hwl24_7]
              clear hHeld hwl24_7 cbl24_8
              refine hKK.out _ _ (unhide K _ bl24_8) (fun hHeld => ?_)
              clear hKK KK
              have q0 := lg.cell 0 rfl
              have q1 := lg.cell 1 rfl
              have q2 := lg.cell 2 rfl
              have FG := lg.frozen
              refine ready_at (i := 9) rfl (by kernel_rfl) (fun KK hKK => ?_)
              go_simp
              have bs : Below w8.heap.size w8 (((wl24_7.setCell ⟨wc24_5.heap.size, 0, none⟩ (.int .i64 n1)).setCell ⟨wc24_5.heap.size, 1, none⟩ (.string s1)).setCell ⟨wc24_5.heap.size, 2, none⟩ (.slice aa (x1).length kk)) := (Below.set (Below.set (Below.set bl24_8 _ _ (by omega)) _ _ (by omega)) _ _ (by omega))
              clear hHeld
              refine hKK.out _ _ (unhide K _ bs) (fun hHeld => ?_)
              clear hKK KK
              refine take_at (i := 10) (d := 15) (v := ?_) rfl rfl (by kernel_rfl) (by kernel_rfl) (by kernel_rfl) (fun _ _ _ h => h) (Or.inl ⟨by rfl, ?_⟩) (by assumption) ?_
              rotate_left
              · intro w hSw
                try dsimp only at hSw
                go_simp
                try with_reducible rfl
              simp only [Act.put, List.setIfInBounds_toArray, List.set_cons_zero, List.set_cons_succ]
              clear hHeld
              refine wpAnyH_done (by kernel_rfl) ?_ _
              refine NoPanic.normal ?_
              go_wp2_with fail
              go_meet
              have k3 : Kp wl24_7 (((wl24_7.setCell ⟨wc24_5.heap.size, 0, none⟩ (.int .i64 n1)).setCell ⟨wc24_5.heap.size, 1, none⟩ (.string s1)).setCell ⟨wc24_5.heap.size, 2, none⟩ (.slice aa (x1).length kk)) (fun k => k = wc24_5.heap.size) := ((set_kp _ _ _ _).trans (set_kp _ _ _ _)).trans (set_kp _ _ _ _)
              have ll := lg.lt
              exact ⟨_, _, rfl, rfl, by omega, by simpa using ll, (((lg.set 0 _ rfl).set 1 _ rfl).set 2 _ rfl), (oq3.kp k3 (fun j hj e => by have := tl j hj; omega)).mono (by omega), fun j hj => by have := tl j hj; simp; omega, bs⟩
            · go_simp
              obtain ⟨wl24_9, hwl24_9⟩ : ∃ x, wc24_3.alloc (.cells #[.int .i64 0, .string ⟨#[]⟩, .slice none 0 0] 40) = x := ⟨_, rfl⟩
              have cbl24_10 : Below wc24_3.heap.size wc24_3 wl24_9 := hwl24_9 ▸ qalloc _ _
              have bl24_10 : Below w8.heap.size w8 wl24_9 := bc24_4.trans (cbl24_10.mono bc24_4.size)
              have zzwl24_9 : wl24_9.heap.size = wc24_3.heap.size + 1 := by rw [← hwl24_9]; simp
              have lg : Loc wl24_9 wc24_3.heap.size #[.int .i64 0, .string ⟨#[]⟩, .slice none 0 0] := hwl24_9 ▸ loc_at wc24_3 _ _ rfl
              replace oq1 := oq1.below cbl24_10
              rw [hwl24_9]
              clear hHeld hwl24_9 cbl24_10
              refine hKK.out _ _ (unhide K _ bl24_10) (fun hHeld => ?_)
              clear hKK KK
              refine ready_at (i := 4) rfl (by kernel_rfl) (fun KK hKK => ?_)
              go_simp
              have hgo := bl24_10
              refine (unhide IM _ _ (unhide HE _ (Bw8.trans (hgo.mono Bw8.size))) (oq1.ri (by omega))).mono ?_
              rintro e wc24_11 ⟨vv3, rfl, oq3, bnew⟩
              have bc24_12 : Below w8.heap.size w8 wc24_11 := bl24_10.trans (bnew.mono bl24_10.size)
              have zzwc24_11 := bnew.size
              replace oq1 := oq1.below bnew
              replace lg := lg.below bnew lg.lt
              have tl := World.ownsRow.lt oq3
              obtain ⟨aa, kk, rfl⟩ := oq3.form
              clear hHeld bnew hgo
              refine hKK.out _ _ (unhide K _ bc24_12) (fun hHeld => ?_)
              clear hKK KK
              refine take_at (i := 5) (d := 79) (v := ?_) rfl rfl (by kernel_rfl) (by kernel_rfl) (by kernel_rfl) (fun _ _ _ h => h) (Or.inl ⟨by rfl, ?_⟩) (by assumption) ?_
              rotate_left
              · intro w hSw
                try dsimp only at hSw
                go_simp
                try with_reducible rfl
              simp only [Act.put, List.setIfInBounds_toArray, List.set_cons_zero, List.set_cons_succ]
              refine take_at (i := 6) (d := 85) (v := ?_) rfl rfl (by kernel_rfl) (by kernel_rfl) (by kernel_rfl) (fun _ _ _ h => h) (Or.inl ⟨by rfl, ?_⟩) (by assumption) ?_
              rotate_left
              · intro w hSw
                try dsimp only at hSw
                go_simp
                try with_reducible rfl
              simp only [Act.put, List.setIfInBounds_toArray, List.set_cons_zero, List.set_cons_succ]
              refine take_at (i := 7) (d := 86) (v := ?_) rfl rfl (by kernel_rfl) (by kernel_rfl) (by kernel_rfl) (fun _ _ _ h => h) (Or.inl ⟨by rfl, ?_⟩) (by assumption) ?_
              rotate_left
              · intro w hSw
                try dsimp only at hSw
                go_simp
                try with_reducible rfl
              simp only [Act.put, List.setIfInBounds_toArray, List.set_cons_zero, List.set_cons_succ]
              have q0 := lg.cell 0 rfl
              have q1 := lg.cell 1 rfl
              have q2 := lg.cell 2 rfl
              have FG := lg.frozen
              refine ready_at (i := 9) rfl (by kernel_rfl) (fun KK hKK => ?_)
              go_simp
              have bs : Below w8.heap.size w8 (((wc24_11.setCell ⟨wc24_3.heap.size, 0, none⟩ (.int .i64 n1)).setCell ⟨wc24_3.heap.size, 1, none⟩ (.string s1)).setCell ⟨wc24_3.heap.size, 2, none⟩ (.slice aa (x1).length kk)) := (Below.set (Below.set (Below.set bc24_12 _ _ (by omega)) _ _ (by omega)) _ _ (by omega))
              clear hHeld
              refine hKK.out _ _ (unhide K _ bs) (fun hHeld => ?_)
              clear hKK KK
              refine take_at (i := 10) (d := 15) (v := ?_) rfl rfl (by kernel_rfl) (by kernel_rfl) (by kernel_rfl) (fun _ _ _ h => h) (Or.inl ⟨by rfl, ?_⟩) (by assumption) ?_
              rotate_left
              · intro w hSw
                try dsimp only at hSw
                go_simp
                try with_reducible rfl
              simp only [Act.put, List.setIfInBounds_toArray, List.set_cons_zero, List.set_cons_succ]
              clear hHeld
              refine wpAnyH_done (by kernel_rfl) ?_ _
              refine NoPanic.normal ?_
              go_wp2_with fail
              go_meet
              have k3 : Kp wc24_11 (((wc24_11.setCell ⟨wc24_3.heap.size, 0, none⟩ (.int .i64 n1)).setCell ⟨wc24_3.heap.size, 1, none⟩ (.string s1)).setCell ⟨wc24_3.heap.size, 2, none⟩ (.slice aa (x1).length kk)) (fun k => k = wc24_3.heap.size) := ((set_kp _ _ _ _).trans (set_kp _ _ _ _)).trans (set_kp _ _ _ _)
              have ll := lg.lt
              exact ⟨_, _, rfl, rfl, by omega, by simpa using ll, (((lg.set 0 _ rfl).set 1 _ rfl).set 2 _ rfl), (oq3.kp k3 (fun j hj e => by have := tl j hj; omega)).mono (by omega), fun j hj => by have := tl j hj; simp; omega, bs⟩
          · go_simp
            obtain ⟨wl24_13, hwl24_13⟩ : ∃ x, wc24_1.alloc (.cells #[.int .i64 0, .string ⟨#[]⟩, .slice none 0 0] 40) = x := ⟨_, rfl⟩
            have cbl24_14 : Below wc24_1.heap.size wc24_1 wl24_13 := hwl24_13 ▸ qalloc _ _
            have bl24_14 : Below w8.heap.size w8 wl24_13 := bc24_2.trans (cbl24_14.mono bc24_2.size)
            have zzwl24_13 : wl24_13.heap.size = wc24_1.heap.size + 1 := by rw [← hwl24_13]; simp
            have lg : Loc wl24_13 wc24_1.heap.size #[.int .i64 0, .string ⟨#[]⟩, .slice none 0 0] := hwl24_13 ▸ loc_at wc24_1 _ _ rfl
            rw [hwl24_13]
            clear hHeld hwl24_13 cbl24_14
            refine hKK.out _ _ (unhide K _ bl24_14) (fun hHeld => ?_)
            clear hKK KK
            refine ready_at (i := 3) rfl (by kernel_rfl) (fun KK hKK => ?_)
            go_simp
            have hgo := bl24_14
            refine (unhide TA _ (unhide RP _ (Bw8.trans (hgo.mono Bw8.size)))).mono ?_
            rintro e wc24_15 ⟨vv1, rfl, oq1, bnew⟩
            have bc24_16 : Below w8.heap.size w8 wc24_15 := bl24_14.trans (bnew.mono bl24_14.size)
            have zzwc24_15 := bnew.size
            replace lg := lg.below bnew lg.lt
            obtain ⟨aq, kq, rfl⟩ := oq1.form
            clear hHeld bnew hgo
            refine hKK.out _ _ (unhide K _ bc24_16) (fun hHeld => ?_)
            clear hKK KK
            refine ready_at (i := 4) rfl (by kernel_rfl) (fun KK hKK => ?_)
            go_simp
            have hgo := bc24_16
            refine (unhide IM _ _ (unhide HE _ (Bw8.trans (hgo.mono Bw8.size))) (oq1.ri (by omega))).mono ?_
            rintro e wc24_17 ⟨vv3, rfl, oq3, bnew⟩
            have bc24_18 : Below w8.heap.size w8 wc24_17 := bc24_16.trans (bnew.mono bc24_16.size)
            have zzwc24_17 := bnew.size
            replace oq1 := oq1.below bnew
            replace lg := lg.below bnew lg.lt
            have tl := World.ownsRow.lt oq3
            obtain ⟨aa, kk, rfl⟩ := oq3.form
            clear hHeld bnew hgo
            refine hKK.out _ _ (unhide K _ bc24_18) (fun hHeld => ?_)
            clear hKK KK
            refine take_at (i := 5) (d := 79) (v := ?_) rfl rfl (by kernel_rfl) (by kernel_rfl) (by kernel_rfl) (fun _ _ _ h => h) (Or.inl ⟨by rfl, ?_⟩) (by assumption) ?_
            rotate_left
            · intro w hSw
              try dsimp only at hSw
              go_simp
              try with_reducible rfl
            simp only [Act.put, List.setIfInBounds_toArray, List.set_cons_zero, List.set_cons_succ]
            refine take_at (i := 6) (d := 85) (v := ?_) rfl rfl (by kernel_rfl) (by kernel_rfl) (by kernel_rfl) (fun _ _ _ h => h) (Or.inl ⟨by rfl, ?_⟩) (by assumption) ?_
            rotate_left
            · intro w hSw
              try dsimp only at hSw
              go_simp
              try with_reducible rfl
            simp only [Act.put, List.setIfInBounds_toArray, List.set_cons_zero, List.set_cons_succ]
            refine take_at (i := 7) (d := 86) (v := ?_) rfl rfl (by kernel_rfl) (by kernel_rfl) (by kernel_rfl) (fun _ _ _ h => h) (Or.inl ⟨by rfl, ?_⟩) (by assumption) ?_
            rotate_left
            · intro w hSw
              try dsimp only at hSw
              go_simp
              try with_reducible rfl
            simp only [Act.put, List.setIfInBounds_toArray, List.set_cons_zero, List.set_cons_succ]
            have q0 := lg.cell 0 rfl
            have q1 := lg.cell 1 rfl
            have q2 := lg.cell 2 rfl
            have FG := lg.frozen
            refine ready_at (i := 9) rfl (by kernel_rfl) (fun KK hKK => ?_)
            go_simp
            have bs : Below w8.heap.size w8 (((wc24_17.setCell ⟨wc24_1.heap.size, 0, none⟩ (.int .i64 n1)).setCell ⟨wc24_1.heap.size, 1, none⟩ (.string s1)).setCell ⟨wc24_1.heap.size, 2, none⟩ (.slice aa (x1).length kk)) := (Below.set (Below.set (Below.set bc24_18 _ _ (by omega)) _ _ (by omega)) _ _ (by omega))
            clear hHeld
            refine hKK.out _ _ (unhide K _ bs) (fun hHeld => ?_)
            clear hKK KK
            refine take_at (i := 10) (d := 15) (v := ?_) rfl rfl (by kernel_rfl) (by kernel_rfl) (by kernel_rfl) (fun _ _ _ h => h) (Or.inl ⟨by rfl, ?_⟩) (by assumption) ?_
            rotate_left
            · intro w hSw
              try dsimp only at hSw
              go_simp
              try with_reducible rfl
            simp only [Act.put, List.setIfInBounds_toArray, List.set_cons_zero, List.set_cons_succ]
            clear hHeld
            refine wpAnyH_done (by kernel_rfl) ?_ _
            refine NoPanic.normal ?_
            go_wp2_with fail
            go_meet
            have k3 : Kp wc24_17 (((wc24_17.setCell ⟨wc24_1.heap.size, 0, none⟩ (.int .i64 n1)).setCell ⟨wc24_1.heap.size, 1, none⟩ (.string s1)).setCell ⟨wc24_1.heap.size, 2, none⟩ (.slice aa (x1).length kk)) (fun k => k = wc24_1.heap.size) := ((set_kp _ _ _ _).trans (set_kp _ _ _ _)).trans (set_kp _ _ _ _)
            have ll := lg.lt
            exact ⟨_, _, rfl, rfl, by omega, by simpa using ll, (((lg.set 0 _ rfl).set 1 _ rfl).set 2 _ rfl), (oq3.kp k3 (fun j hj e => by have := tl j hj; omega)).mono (by omega), fun j hj => by have := tl j hj; simp; omega, bs⟩
        · go_simp
          obtain ⟨wl24_19, hwl24_19⟩ : ∃ x, wd.alloc (.cells #[.int .i64 0, .string ⟨#[]⟩, .slice none 0 0] 40) = x := ⟨_, rfl⟩
          have cbl24_20 : Below wd.heap.size wd wl24_19 := hwl24_19 ▸ qalloc _ _
          have bl24_20 : Below w8.heap.size w8 wl24_19 := bd.trans (cbl24_20.mono bd.size)
          have zzwl24_19 : wl24_19.heap.size = wd.heap.size + 1 := by rw [← hwl24_19]; simp
          have lg : Loc wl24_19 wd.heap.size #[.int .i64 0, .string ⟨#[]⟩, .slice none 0 0] := hwl24_19 ▸ loc_at wd _ _ rfl
          rw [hwl24_19]
          clear hHeld hwl24_19 cbl24_20
          refine hKK.out _ _ (unhide K _ bl24_20) (fun hHeld => ?_)
          clear hKK KK
          refine ready_at (i := 1) rfl (by kernel_rfl) (fun KK hKK => ?_)
          go_simp
          have hgo := bl24_20
          refine (unhide TC _).mono ?_
          rintro e wc24_21 ⟨rfl, bnew⟩
          have bc24_22 : Below w8.heap.size w8 wc24_21 := bl24_20.trans (bnew.mono bl24_20.size)
          have zzwc24_21 := bnew.size
          replace lg := lg.below bnew lg.lt
          clear hHeld bnew hgo
          refine hKK.out _ _ (unhide K _ bc24_22) (fun hHeld => ?_)
          clear hKK KK
          refine ready_at (i := 3) rfl (by kernel_rfl) (fun KK hKK => ?_)
          go_simp
          have hgo := bc24_22
          refine (unhide TA _ (unhide RP _ (Bw8.trans (hgo.mono Bw8.size)))).mono ?_
          rintro e wc24_23 ⟨vv1, rfl, oq1, bnew⟩
          have bc24_24 : Below w8.heap.size w8 wc24_23 := bc24_22.trans (bnew.mono bc24_22.size)
          have zzwc24_23 := bnew.size
          replace lg := lg.below bnew lg.lt
          obtain ⟨aq, kq, rfl⟩ := oq1.form
          clear hHeld bnew hgo
          refine hKK.out _ _ (unhide K _ bc24_24) (fun hHeld => ?_)
          clear hKK KK
          refine ready_at (i := 4) rfl (by kernel_rfl) (fun KK hKK => ?_)
          go_simp
          have hgo := bc24_24
          refine (unhide IM _ _ (unhide HE _ (Bw8.trans (hgo.mono Bw8.size))) (oq1.ri (by omega))).mono ?_
          rintro e wc24_25 ⟨vv3, rfl, oq3, bnew⟩
          have bc24_26 : Below w8.heap.size w8 wc24_25 := bc24_24.trans (bnew.mono bc24_24.size)
          have zzwc24_25 := bnew.size
          replace oq1 := oq1.below bnew
          replace lg := lg.below bnew lg.lt
          have tl := World.ownsRow.lt oq3
          obtain ⟨aa, kk, rfl⟩ := oq3.form
          clear hHeld bnew hgo
          refine hKK.out _ _ (unhide K _ bc24_26) (fun hHeld => ?_)
          clear hKK KK
          refine take_at (i := 5) (d := 79) (v := ?_) rfl rfl (by kernel_rfl) (by kernel_rfl) (by kernel_rfl) (fun _ _ _ h => h) (Or.inl ⟨by rfl, ?_⟩) (by assumption) ?_
          rotate_left
          · intro w hSw
            try dsimp only at hSw
            go_simp
            try with_reducible rfl
          simp only [Act.put, List.setIfInBounds_toArray, List.set_cons_zero, List.set_cons_succ]
          refine take_at (i := 6) (d := 85) (v := ?_) rfl rfl (by kernel_rfl) (by kernel_rfl) (by kernel_rfl) (fun _ _ _ h => h) (Or.inl ⟨by rfl, ?_⟩) (by assumption) ?_
          rotate_left
          · intro w hSw
            try dsimp only at hSw
            go_simp
            try with_reducible rfl
          simp only [Act.put, List.setIfInBounds_toArray, List.set_cons_zero, List.set_cons_succ]
          refine take_at (i := 7) (d := 86) (v := ?_) rfl rfl (by kernel_rfl) (by kernel_rfl) (by kernel_rfl) (fun _ _ _ h => h) (Or.inl ⟨by rfl, ?_⟩) (by assumption) ?_
          rotate_left
          · intro w hSw
            try dsimp only at hSw
            go_simp
            try with_reducible rfl
          simp only [Act.put, List.setIfInBounds_toArray, List.set_cons_zero, List.set_cons_succ]
          have q0 := lg.cell 0 rfl
          have q1 := lg.cell 1 rfl
          have q2 := lg.cell 2 rfl
          have FG := lg.frozen
          refine ready_at (i := 9) rfl (by kernel_rfl) (fun KK hKK => ?_)
          go_simp
          have bs : Below w8.heap.size w8 (((wc24_25.setCell ⟨wd.heap.size, 0, none⟩ (.int .i64 n1)).setCell ⟨wd.heap.size, 1, none⟩ (.string s1)).setCell ⟨wd.heap.size, 2, none⟩ (.slice aa (x1).length kk)) := (Below.set (Below.set (Below.set bc24_26 _ _ (by omega)) _ _ (by omega)) _ _ (by omega))
          clear hHeld
          refine hKK.out _ _ (unhide K _ bs) (fun hHeld => ?_)
          clear hKK KK
          refine take_at (i := 10) (d := 15) (v := ?_) rfl rfl (by kernel_rfl) (by kernel_rfl) (by kernel_rfl) (fun _ _ _ h => h) (Or.inl ⟨by rfl, ?_⟩) (by assumption) ?_
          rotate_left
          · intro w hSw
            try dsimp only at hSw
            go_simp
            try with_reducible rfl
          simp only [Act.put, List.setIfInBounds_toArray, List.set_cons_zero, List.set_cons_succ]
          clear hHeld
          refine wpAnyH_done (by kernel_rfl) ?_ _
          refine NoPanic.normal ?_
          go_wp2_with fail
          go_meet
          have k3 : Kp wc24_25 (((wc24_25.setCell ⟨wd.heap.size, 0, none⟩ (.int .i64 n1)).setCell ⟨wd.heap.size, 1, none⟩ (.string s1)).setCell ⟨wd.heap.size, 2, none⟩ (.slice aa (x1).length kk)) (fun k => k = wd.heap.size) := ((set_kp _ _ _ _).trans (set_kp _ _ _ _)).trans (set_kp _ _ _ _)
          have ll := lg.lt
          exact ⟨_, _, rfl, rfl, by omega, by simpa using ll, (((lg.set 0 _ rfl).set 1 _ rfl).set 2 _ rfl), (oq3.kp k3 (fun j hj e => by have := tl j hj; omega)).mono (by omega), fun j hj => by have := tl j hj; simp; omega, bs⟩
      case rest =>
        clear K
        obtain ⟨wq24, hwq⟩ : ∃ x, x = wc := ⟨_, rfl⟩
        subst hwq
        obtain ⟨hH, vH, rfl, rfl, gH, eH, H, oH, toH, bb⟩ := hcut
        obtain ⟨aoH, koH, rfl⟩ := oH.form
        have Bwq24 := Bw8.trans (bb.mono Bw8.size)
        have swq24 := bb.size
        replace LC := LC.below bb LC.lt
        replace LA := LA.below bb LA.lt
        replace V := V.below bb V.lt
        replace X := X.below bb X.lt
        replace G := G.below bb G.lt
        replace oV := oV.below bb
        replace oG := oG.below bb
        clear Bw8
        clear bb
        clear IM
        have cH0 := H.cell 0 rfl
        have cH1 := H.cell 1 rfl
        have cH2 := H.cell 2 rfl
        have cV0 := V.cell 0 rfl
        have cV1 := V.cell 1 rfl
        have cV2 := V.cell 2 rfl
        go_wp2_with fail
        refine (unhide EG _ _ _ (oH.ri (by omega)) (oV.ri (by omega))).mono ?_
        rintro _ w9 ⟨rfl, bb⟩
        clear cH0 cH1 cH2 cV0 cV1 cV2
        have Bw9 := Bwq24.trans (bb.mono Bwq24.size)
        have sw9 := bb.size
        replace LC := LC.below bb LC.lt
        replace LA := LA.below bb LA.lt
        replace V := V.below bb V.lt
        replace X := X.below bb X.lt
        replace G := G.below bb G.lt
        replace H := H.below bb H.lt
        replace oV := oV.below bb
        replace oG := oG.below bb
        replace oH := oH.below bb
        clear Bwq24
        clear bb
        have cG0 := G.cell 0 rfl
        have cG1 := G.cell 1 rfl
        have cG2 := G.cell 2 rfl
        go_wp2_with fail
        refine (unhide HD _ _ (oG.ri (by rw [imarks_len]; omega))).mono ?_
        rintro _ w10 ⟨rfl, bb⟩
        clear cG0 cG1 cG2
        have Bw10 := Bw9.trans (bb.mono Bw9.size)
        have sw10 := bb.size
        replace LC := LC.below bb LC.lt
        replace LA := LA.below bb LA.lt
        replace V := V.below bb V.lt
        replace X := X.below bb X.lt
        replace G := G.below bb G.lt
        replace H := H.below bb H.lt
        replace oV := oV.below bb
        replace oG := oG.below bb
        replace oH := oH.below bb
        clear Bw9
        clear bb
        go_wp2
        go_ret
        exact ⟨rfl, Bw10⟩
end Go.Proofs.YtehdchpolgihlaaGreatDoor
