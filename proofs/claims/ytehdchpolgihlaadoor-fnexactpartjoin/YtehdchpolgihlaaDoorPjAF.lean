/- PartJoinWalk: the walk of laws.FnExactPartJoin, over what the program's PartJoin answers. -/
import Derived.Test.YtehdchpolgihlaaDoorPjAE
/- PartJoinWalk: the walk of laws.FnExactPartJoin, over what the program's PartJoin answers. -/
namespace Go.Proofs.YtehdchpolgihlaaDoor
open Go.RowKit

theorem join_long (a b : List Int) : (joinL a b).length ≤ a.length + b.length := by
  have := fold_len (a ++ b) []
  rw [List.length_append, List.length_nil] at this
  unfold joinL
  omega

set_option maxHeartbeats 8000000 in
set_option maxRecDepth 100000 in
theorem fnPartJoin_short (E : World → Prop) (hE : ∀ w w', E w → Below w.heap.size w w' → E w')
    (m n : Int) (s t : ByteArray) (pa qa : Option Addr) (pc qc : Nat) (xs ys : List Int) (w : World) (IM0 : ∀ (u v : Value) (w : World), E w → RI w u xs → RI w v ys → Calls Tryd.prog 12 #[qv m s u, qv n t v] w fun e w' => ∃ r, e = .returned (.tuple #[qv (if samP (m, s, xs) (n, t, ys) then m else 0) (if samP (m, s, xs) (n, t, ys) then s else ⟨#[]⟩) r, .bool (samP (m, s, xs) (n, t, ys))]) ∧ OI w' w.heap.size r (if samP (m, s, xs) (n, t, ys) then joinL xs ys else []) ∧ Below w.heap.size w w')
    (hp : RI w (.slice pa xs.length pc) xs) (hr : RI w (.slice qa ys.length qc) ys) (hs : s.size + xs.length + t.size + ys.length ≤ 1048576) (he : E w) :
    Calls Tryd.prog 4 #[qv m s (.slice pa xs.length pc), qv n t (.slice qa ys.length qc)] w fun e w' => e = .returned (.bool true) ∧ Below w.heap.size w w' := by
  have RP := hide fun w' (hb : Below w.heap.size w w') => hp.below hb (Nat.le_refl _)
  have RQ := hide fun w' (hb : Below w.heap.size w w') => hr.below hb (Nat.le_refl _)
  have ZA := hide fun w => szPart_yes m s pa xs.length pc 1048576 w (by omega) (by omega)
  have ZB := hide fun w => szPart_yes n t qa ys.length qc (1048576 - s.size - xs.length) w (by omega) (by omega)
  have HE := hide fun w' (hb : Below w.heap.size w w') => hE w w' he hb
  have hd1 : decide ((1048576 : Int) - (s.size : Int) - (xs.length : Int) < 0) = false := by simp; omega
  have hd2 : decide ((1048576 : Int) - (s.size : Int) - (xs.length : Int) - (t.size : Int) - (ys.length : Int) < 0) = false := by simp; omega
  have TA := hide fun w h => toPart_any m s (.slice pa xs.length pc) xs w h
  have TB := hide fun w h => toPart_any n t (.slice qa ys.length qc) ys w h
  have SP := hide fun u v w h h' => specPartJoin m n s t u v xs ys w (by omega) h h'
  have IM := hide fun u v w e h h' => IM0 u v w e h h'
  have hx1 : (if samP (m, s, xs) (n, t, ys) then joinL xs ys else []).length ≤ 1048576 := by
    split
    · have := join_long xs ys; omega
    · simp
  generalize (if samP (m, s, xs) (n, t, ys) then m else 0) = n1 at *
  generalize (if samP (m, s, xs) (n, t, ys) then s else ⟨#[]⟩) = s1 at *
  generalize (if samP (m, s, xs) (n, t, ys) then joinL xs ys else []) = x1 at *
  generalize samP (m, s, xs) (n, t, ys) = rb at *
  have hq : (rb != rb) = false := by simp
  have EG := hide fun u v w h h' => eqPart_yes n1 s1 u v x1 w h h'
  have MX : Hid (∀ base v' w, OI w base v' xs → Calls Tryd.prog 13 #[qv m s v', .int .i64 1] w fun e w' => e = .returned (.int .i64 (1 + (xs.length : Int))) ∧ OI w' base v' (imarks 1 xs.length) ∧ Kp w w' (fun k => v'.ownBlock = some k)) := hide fun base v' w h => markPart_any m s base v' xs 1 w (by omega) (by omega) h
  have MY : Hid (∀ base v' w, OI w base v' ys → Calls Tryd.prog 13 #[qv n t v', .int .i64 (1 + (xs.length : Int))] w fun e w' => e = .returned (.int .i64 (1 + (xs.length : Int) + (ys.length : Int))) ∧ OI w' base v' (imarks (1 + xs.length) ys.length) ∧ Kp w w' (fun k => v'.ownBlock = some k)) := hide fun base v' w h => by have := markPart_any n t base v' ys (1 + xs.length) w (by omega) (by omega) h; simpa using this
  have MG : Hid (∀ base v' w, OI w base v' x1 → Calls Tryd.prog 13 #[qv n1 s1 v', .int .i64 1] w fun e w' => e = .returned (.int .i64 (1 + (x1.length : Int))) ∧ OI w' base v' (imarks 1 x1.length) ∧ Kp w w' (fun k => v'.ownBlock = some k)) := hide fun base v' w h => markPart_any n1 s1 base v' x1 1 w (by omega) (by omega) h
  have HD := hide fun v' w h => heldPart_any n1 s1 v' x1.length w h
  have d3 : decide ((1 : Int) + (x1.length : Int) < 0) = false := by simp; omega
  have d4 : decide ((1 : Int) + (xs.length : Int) + (ys.length : Int) < 0) = false := by simp; omega
  obtain ⟨w0, hw0⟩ : ∃ y, (w.alloc (.cells #[.int .i64 m, .string s, .slice pa xs.length pc] 26)).alloc (.cells #[.int .i64 n, .string t, .slice qa ys.length qc] 26) = y := ⟨_, rfl⟩
  have Bw0 : Below w.heap.size w w0 := hw0 ▸ qalloc2 _ _ _
  have LA : Loc w0 w.heap.size #[.int .i64 m, .string s, .slice pa xs.length pc] := hw0 ▸ (loc_at w _ _ rfl).alloc _
  have LB : Loc w0 (w.heap.size + 1) #[.int .i64 n, .string t, .slice qa ys.length qc] := hw0 ▸ loc_at (w.alloc _) _ _ (by simp)
  have z0 : w0.heap.size = w.heap.size + 1 + 1 := by rw [← hw0]; simp
  clear he hE IM0 hp hr
  go_enter Tryd.func4, Tryd.ntmps4
  have cLA0 := LA.cell 0 rfl
  have cLA1 := LA.cell 1 rfl
  have cLA2 := LA.cell 2 rfl
  go_wp2_with fail
  clear hw0
  refine (unhide ZA _).mono ?_
  rintro _ w1 ⟨rfl, bb⟩
  clear cLA0 cLA1 cLA2
  have Bw1 := Bw0.trans (bb.mono Bw0.size)
  have sw1 := bb.size
  replace LA := LA.below bb LA.lt
  replace LB := LB.below bb LB.lt
  clear Bw0
  clear bb ZA
  have cLB0 := LB.cell 0 rfl
  have cLB1 := LB.cell 1 rfl
  have cLB2 := LB.cell 2 rfl
  go_wp2_with fail
  refine (unhide ZB _).mono ?_
  rintro _ w2 ⟨rfl, bb⟩
  clear cLB0 cLB1 cLB2
  have Bw2 := Bw1.trans (bb.mono Bw1.size)
  have sw2 := bb.size
  replace LA := LA.below bb LA.lt
  replace LB := LB.below bb LB.lt
  clear Bw1
  clear bb
  clear ZB
  have K : Hid (∀ w', Below w2.heap.size w2 w' → (fun w' => Below w2.heap.size w2 w' ∧ (w'.cell? ⟨w.heap.size, 0, none⟩ = some (.int .i64 m) ∧ w'.cell? ⟨w.heap.size, 1, none⟩ = some (.string s) ∧ w'.cell? ⟨w.heap.size, 2, none⟩ = some (.slice pa xs.length pc)) ∧ (w'.cell? ⟨w.heap.size + 1, 0, none⟩ = some (.int .i64 n) ∧ w'.cell? ⟨w.heap.size + 1, 1, none⟩ = some (.string t) ∧ w'.cell? ⟨w.heap.size + 1, 2, none⟩ = some (.slice qa ys.length qc))) w') := hide fun w' hb' => ⟨hb', ⟨(LA.below hb' LA.lt).cell 0 rfl, (LA.below hb' LA.lt).cell 1 rfl, (LA.below hb' LA.lt).cell 2 rfl⟩, ⟨(LB.below hb' LB.lt).cell 0 rfl, (LB.below hb' LB.lt).cell 1 rfl, (LB.below hb' LB.lt).cell 2 rfl⟩⟩
  go_upto_region 8 with fail
  go_cut [6, 7] (fun c d1 wx => ∃ h uu, c = .pointer (some ⟨h, 0, none⟩) ∧ d1 = .bool rb ∧ w2.heap.size ≤ h ∧ h < wx.heap.size ∧ Loc wx h #[.int .i64 n1, .string s1, uu] ∧ OI wx w2.heap.size uu x1 ∧ (∀ j, uu.ownBlock = some j → w2.heap.size ≤ j ∧ j < wx.heap.size ∧ j ≠ h) ∧ Below w2.heap.size w2 wx)
  case first =>
    refine wp_region_noPanic ?_
    refine wp_region_held_drew (S := fun w' => Below w2.heap.size w2 w' ∧ (w'.cell? ⟨w.heap.size, 0, none⟩ = some (.int .i64 m) ∧ w'.cell? ⟨w.heap.size, 1, none⟩ = some (.string s) ∧ w'.cell? ⟨w.heap.size, 2, none⟩ = some (.slice pa xs.length pc)) ∧ (w'.cell? ⟨w.heap.size + 1, 0, none⟩ = some (.int .i64 n) ∧ w'.cell? ⟨w.heap.size + 1, 1, none⟩ = some (.string t) ∧ w'.cell? ⟨w.heap.size + 1, 2, none⟩ = some (.slice qa ys.length qc))) (by kernel_rfl) (unhide K _ (Below.drew (Below.refl _ _))) (fun hHeld => ?_)
    obtain ⟨wd, hd⟩ : ∃ wd, w2.drew = wd := ⟨_, rfl⟩
    have bd : Below w2.heap.size w2 wd := hd ▸ Below.drew (Below.refl _ _)
    have szd := bd.size
    rw [hd] at hHeld ⊢
    clear hd
    refine take_at (i := 0) (d := 28) (v := ?_) rfl rfl (by kernel_rfl) (by kernel_rfl) (by kernel_rfl) (fun _ _ _ h => h) (Or.inl ⟨by rfl, ?_⟩) (by assumption) ?_
    rotate_left
    · intro w hSw
      try dsimp only at hSw
      go_simp
      try with_reducible rfl
    simp only [Act.put, List.setIfInBounds_toArray, List.set_cons_zero, List.set_cons_succ]
    refine take_at (i := 2) (d := 30) (v := ?_) rfl rfl (by kernel_rfl) (by kernel_rfl) (by kernel_rfl) (fun _ _ _ h => h) (Or.inl ⟨by rfl, ?_⟩) (by assumption) ?_
    rotate_left
    · intro w hSw
      try dsimp only at hSw
      go_simp
      try with_reducible rfl
    simp only [Act.put, List.setIfInBounds_toArray, List.set_cons_zero, List.set_cons_succ]
    refine wpAnyH_ready (rs := [1, 8]) (by kernel_rfl) (by simp) (AllReadyH.cons rfl (fun KK hKK => ?_) (AllReadyH.cons rfl (fun KK hKK => ?_) AllReadyH.nil))
    · go_simp
      have hgo := bd
      refine (unhide TA _ (unhide RP _ (Bw2.trans (hgo.mono Bw2.size)))).mono ?_
      rintro e wc8_1 ⟨vv1, rfl, oq1, bnew⟩
      have bc8_2 : Below w2.heap.size w2 wc8_1 := bd.trans (bnew.mono bd.size)
      have zzwc8_1 := bnew.size
      obtain ⟨aq, kq, rfl⟩ := oq1.form
      clear hHeld bnew hgo
      refine hKK.out _ _ (unhide K _ bc8_2) (fun hHeld => ?_)
      clear hKK KK
      refine wpAnyH_ready (rs := [3, 8]) (by kernel_rfl) (by simp) (AllReadyH.cons rfl (fun KK hKK => ?_) (AllReadyH.cons rfl (fun KK hKK => ?_) AllReadyH.nil))
      · go_simp
        have hgo := bc8_2
        refine (unhide TB _ (unhide RQ _ (Bw2.trans (hgo.mono Bw2.size)))).mono ?_
        rintro e wc8_3 ⟨vv2, rfl, oq2, bnew⟩
        have bc8_4 : Below w2.heap.size w2 wc8_3 := bc8_2.trans (bnew.mono bc8_2.size)
        have zzwc8_3 := bnew.size
        replace oq1 := oq1.below bnew
        obtain ⟨ar, kr, rfl⟩ := oq2.form
        clear hHeld bnew hgo
        refine hKK.out _ _ (unhide K _ bc8_4) (fun hHeld => ?_)
        clear hKK KK
        refine wpAnyH_ready (rs := [4, 8]) (by kernel_rfl) (by simp) (AllReadyH.cons rfl (fun KK hKK => ?_) (AllReadyH.cons rfl (fun KK hKK => ?_) AllReadyH.nil))
        · go_simp
          have hgo := bc8_4
          refine (unhide SP _ _ _ (oq1.ri (by omega)) (oq2.ri (by omega))).mono ?_
          rintro e wc8_5 ⟨vv3, rfl, oq3, bnew⟩
          have bc8_6 : Below w2.heap.size w2 wc8_5 := bc8_4.trans (bnew.mono bc8_4.size)
          have zzwc8_5 := bnew.size
          replace oq1 := oq1.below bnew
          replace oq2 := oq2.below bnew
          have tl := World.ownsRow.lt oq3
          obtain ⟨aa, kk, rfl⟩ := oq3.form
          clear hHeld bnew hgo
          refine hKK.out _ _ (unhide K _ bc8_6) (fun hHeld => ?_)
          clear hKK KK
          refine take_at (i := 5) (d := 27) (v := ?_) rfl rfl (by kernel_rfl) (by kernel_rfl) (by kernel_rfl) (fun _ _ _ h => h) (Or.inl ⟨by rfl, ?_⟩) (by assumption) ?_
          rotate_left
          · intro w hSw
            try dsimp only at hSw
            go_simp
            try with_reducible rfl
          simp only [Act.put, List.setIfInBounds_toArray, List.set_cons_zero, List.set_cons_succ]
          refine take_at (i := 6) (d := 33) (v := ?_) rfl rfl (by kernel_rfl) (by kernel_rfl) (by kernel_rfl) (fun _ _ _ h => h) (Or.inl ⟨by rfl, ?_⟩) (by assumption) ?_
          rotate_left
          · intro w hSw
            try dsimp only at hSw
            go_simp
            try with_reducible rfl
          simp only [Act.put, List.setIfInBounds_toArray, List.set_cons_zero, List.set_cons_succ]
          refine take_at (i := 7) (d := 34) (v := ?_) rfl rfl (by kernel_rfl) (by kernel_rfl) (by kernel_rfl) (fun _ _ _ h => h) (Or.inl ⟨by rfl, ?_⟩) (by assumption) ?_
          rotate_left
          · intro w hSw
            try dsimp only at hSw
            go_simp
            try with_reducible rfl
          simp only [Act.put, List.setIfInBounds_toArray, List.set_cons_zero, List.set_cons_succ]
          refine ready_at (i := 8) rfl (by kernel_rfl) (fun KK hKK => ?_)
          go_simp
          obtain ⟨wl8_7, hwl8_7⟩ : ∃ x, wc8_5.alloc (.cells #[.int .i64 0, .string ⟨#[]⟩, .slice none 0 0] 31) = x := ⟨_, rfl⟩
          have cbl8_8 : Below wc8_5.heap.size wc8_5 wl8_7 := hwl8_7 ▸ qalloc _ _
          have bl8_8 : Below w2.heap.size w2 wl8_7 := bc8_6.trans (cbl8_8.mono bc8_6.size)
          have zzwl8_7 : wl8_7.heap.size = wc8_5.heap.size + 1 := by rw [← hwl8_7]; simp
          have lg : Loc wl8_7 wc8_5.heap.size #[.int .i64 0, .string ⟨#[]⟩, .slice none 0 0] := hwl8_7 ▸ loc_at wc8_5 _ _ rfl
          replace oq1 := oq1.below cbl8_8
          replace oq2 := oq2.below cbl8_8
          replace oq3 := oq3.below cbl8_8
          rw [hwl8_7]
          clear hHeld hwl8_7 cbl8_8
          refine hKK.out _ _ (unhide K _ bl8_8) (fun hHeld => ?_)
          clear hKK KK
          have q0 := lg.cell 0 rfl
          have q1 := lg.cell 1 rfl
          have q2 := lg.cell 2 rfl
          have FG := lg.frozen
          refine ready_at (i := 9) rfl (by kernel_rfl) (fun KK hKK => ?_)
          go_simp
          have bs : Below w2.heap.size w2 (((wl8_7.setCell ⟨wc8_5.heap.size, 0, none⟩ (.int .i64 n1)).setCell ⟨wc8_5.heap.size, 1, none⟩ (.string s1)).setCell ⟨wc8_5.heap.size, 2, none⟩ (.slice aa (x1).length kk)) := (Below.set (Below.set (Below.set bl8_8 _ _ (by omega)) _ _ (by omega)) _ _ (by omega))
          clear hHeld
          refine hKK.out _ _ (unhide K _ bs) (fun hHeld => ?_)
          clear hKK KK
          refine take_at (i := 10) (d := 7) (v := ?_) rfl rfl (by kernel_rfl) (by kernel_rfl) (by kernel_rfl) (fun _ _ _ h => h) (Or.inl ⟨by rfl, ?_⟩) (by assumption) ?_
          rotate_left
          · intro w hSw
            try dsimp only at hSw
            go_simp
            try with_reducible rfl
          simp only [Act.put, List.setIfInBounds_toArray, List.set_cons_zero, List.set_cons_succ]
          clear hHeld
          refine wpAnyH_done (by kernel_rfl) ?_ _
          refine NoPanic.normal ?_
          go_wp2_with fail
          go_meet
          have k3 : Kp wl8_7 (((wl8_7.setCell ⟨wc8_5.heap.size, 0, none⟩ (.int .i64 n1)).setCell ⟨wc8_5.heap.size, 1, none⟩ (.string s1)).setCell ⟨wc8_5.heap.size, 2, none⟩ (.slice aa (x1).length kk)) (fun k => k = wc8_5.heap.size) := ((set_kp _ _ _ _).trans (set_kp _ _ _ _)).trans (set_kp _ _ _ _)
          have ll := lg.lt
          exact ⟨_, _, rfl, rfl, by omega, by simpa using ll, (((lg.set 0 _ rfl).set 1 _ rfl).set 2 _ rfl), (oq3.kp k3 (fun j hj e => by have := tl j hj; omega)).mono (by omega), fun j hj => by have := tl j hj; simp; omega, bs⟩
        · go_simp
          obtain ⟨wl8_9, hwl8_9⟩ : ∃ x, wc8_3.alloc (.cells #[.int .i64 0, .string ⟨#[]⟩, .slice none 0 0] 31) = x := ⟨_, rfl⟩
          have cbl8_10 : Below wc8_3.heap.size wc8_3 wl8_9 := hwl8_9 ▸ qalloc _ _
          have bl8_10 : Below w2.heap.size w2 wl8_9 := bc8_4.trans (cbl8_10.mono bc8_4.size)
          have zzwl8_9 : wl8_9.heap.size = wc8_3.heap.size + 1 := by rw [← hwl8_9]; simp
          have lg : Loc wl8_9 wc8_3.heap.size #[.int .i64 0, .string ⟨#[]⟩, .slice none 0 0] := hwl8_9 ▸ loc_at wc8_3 _ _ rfl
          replace oq1 := oq1.below cbl8_10
          replace oq2 := oq2.below cbl8_10
          rw [hwl8_9]
          clear hHeld hwl8_9 cbl8_10
          refine hKK.out _ _ (unhide K _ bl8_10) (fun hHeld => ?_)
          clear hKK KK
          refine ready_at (i := 4) rfl (by kernel_rfl) (fun KK hKK => ?_)
          go_simp
          have hgo := bl8_10
          refine (unhide SP _ _ _ (oq1.ri (by omega)) (oq2.ri (by omega))).mono ?_
          rintro e wc8_11 ⟨vv3, rfl, oq3, bnew⟩
          have bc8_12 : Below w2.heap.size w2 wc8_11 := bl8_10.trans (bnew.mono bl8_10.size)
          have zzwc8_11 := bnew.size
          replace oq1 := oq1.below bnew
          replace oq2 := oq2.below bnew
          replace lg := lg.below bnew lg.lt
          have tl := World.ownsRow.lt oq3
          obtain ⟨aa, kk, rfl⟩ := oq3.form
          clear hHeld bnew hgo
          refine hKK.out _ _ (unhide K _ bc8_12) (fun hHeld => ?_)
          clear hKK KK
          refine take_at (i := 5) (d := 27) (v := ?_) rfl rfl (by kernel_rfl) (by kernel_rfl) (by kernel_rfl) (fun _ _ _ h => h) (Or.inl ⟨by rfl, ?_⟩) (by assumption) ?_
          rotate_left
          · intro w hSw
            try dsimp only at hSw
            go_simp
            try with_reducible rfl
          simp only [Act.put, List.setIfInBounds_toArray, List.set_cons_zero, List.set_cons_succ]
          refine take_at (i := 6) (d := 33) (v := ?_) rfl rfl (by kernel_rfl) (by kernel_rfl) (by kernel_rfl) (fun _ _ _ h => h) (Or.inl ⟨by rfl, ?_⟩) (by assumption) ?_
          rotate_left
          · intro w hSw
            try dsimp only at hSw
            go_simp
            try with_reducible rfl
          simp only [Act.put, List.setIfInBounds_toArray, List.set_cons_zero, List.set_cons_succ]
          refine take_at (i := 7) (d := 34) (v := ?_) rfl rfl (by kernel_rfl) (by kernel_rfl) (by kernel_rfl) (fun _ _ _ h => h) (Or.inl ⟨by rfl, ?_⟩) (by assumption) ?_
          rotate_left
          · intro w hSw
            try dsimp only at hSw
            go_simp
            try with_reducible rfl
          simp only [Act.put, List.setIfInBounds_toArray, List.set_cons_zero, List.set_cons_succ]
          have q0 := lg.cell 0 rfl
          have q1 := lg.cell 1 rfl
          have q2 := lg.cell 2 rfl
          have FG := lg.frozen
          refine ready_at (i := 9) rfl (by kernel_rfl) (fun KK hKK => ?_)
          go_simp
          have bs : Below w2.heap.size w2 (((wc8_11.setCell ⟨wc8_3.heap.size, 0, none⟩ (.int .i64 n1)).setCell ⟨wc8_3.heap.size, 1, none⟩ (.string s1)).setCell ⟨wc8_3.heap.size, 2, none⟩ (.slice aa (x1).length kk)) := (Below.set (Below.set (Below.set bc8_12 _ _ (by omega)) _ _ (by omega)) _ _ (by omega))
          clear hHeld
          refine hKK.out _ _ (unhide K _ bs) (fun hHeld => ?_)
          clear hKK KK
          refine take_at (i := 10) (d := 7) (v := ?_) rfl rfl (by kernel_rfl) (by kernel_rfl) (by kernel_rfl) (fun _ _ _ h => h) (Or.inl ⟨by rfl, ?_⟩) (by assumption) ?_
          rotate_left
          · intro w hSw
            try dsimp only at hSw
            go_simp
            try with_reducible rfl
          simp only [Act.put, List.setIfInBounds_toArray, List.set_cons_zero, List.set_cons_succ]
          clear hHeld
          refine wpAnyH_done (by kernel_rfl) ?_ _
          refine NoPanic.normal ?_
          go_wp2_with fail
          go_meet
          have k3 : Kp wc8_11 (((wc8_11.setCell ⟨wc8_3.heap.size, 0, none⟩ (.int .i64 n1)).setCell ⟨wc8_3.heap.size, 1, none⟩ (.string s1)).setCell ⟨wc8_3.heap.size, 2, none⟩ (.slice aa (x1).length kk)) (fun k => k = wc8_3.heap.size) := ((set_kp _ _ _ _).trans (set_kp _ _ _ _)).trans (set_kp _ _ _ _)
          have ll := lg.lt
          exact ⟨_, _, rfl, rfl, by omega, by simpa using ll, (((lg.set 0 _ rfl).set 1 _ rfl).set 2 _ rfl), (oq3.kp k3 (fun j hj e => by have := tl j hj; omega)).mono (by omega), fun j hj => by have := tl j hj; simp; omega, bs⟩
      · go_simp
        obtain ⟨wl8_13, hwl8_13⟩ : ∃ x, wc8_1.alloc (.cells #[.int .i64 0, .string ⟨#[]⟩, .slice none 0 0] 31) = x := ⟨_, rfl⟩
        have cbl8_14 : Below wc8_1.heap.size wc8_1 wl8_13 := hwl8_13 ▸ qalloc _ _
        have bl8_14 : Below w2.heap.size w2 wl8_13 := bc8_2.trans (cbl8_14.mono bc8_2.size)
        have zzwl8_13 : wl8_13.heap.size = wc8_1.heap.size + 1 := by rw [← hwl8_13]; simp
        have lg : Loc wl8_13 wc8_1.heap.size #[.int .i64 0, .string ⟨#[]⟩, .slice none 0 0] := hwl8_13 ▸ loc_at wc8_1 _ _ rfl
        replace oq1 := oq1.below cbl8_14
        rw [hwl8_13]
        clear hHeld hwl8_13 cbl8_14
        refine hKK.out _ _ (unhide K _ bl8_14) (fun hHeld => ?_)
        clear hKK KK
        refine ready_at (i := 3) rfl (by kernel_rfl) (fun KK hKK => ?_)
        go_simp
        have hgo := bl8_14
        refine (unhide TB _ (unhide RQ _ (Bw2.trans (hgo.mono Bw2.size)))).mono ?_
        rintro e wc8_15 ⟨vv2, rfl, oq2, bnew⟩
        have bc8_16 : Below w2.heap.size w2 wc8_15 := bl8_14.trans (bnew.mono bl8_14.size)
        have zzwc8_15 := bnew.size
        replace oq1 := oq1.below bnew
        replace lg := lg.below bnew lg.lt
        obtain ⟨ar, kr, rfl⟩ := oq2.form
        clear hHeld bnew hgo
        refine hKK.out _ _ (unhide K _ bc8_16) (fun hHeld => ?_)
        clear hKK KK
        refine ready_at (i := 4) rfl (by kernel_rfl) (fun KK hKK => ?_)
        go_simp
        have hgo := bc8_16
        refine (unhide SP _ _ _ (oq1.ri (by omega)) (oq2.ri (by omega))).mono ?_
        rintro e wc8_17 ⟨vv3, rfl, oq3, bnew⟩
        have bc8_18 : Below w2.heap.size w2 wc8_17 := bc8_16.trans (bnew.mono bc8_16.size)
        have zzwc8_17 := bnew.size
        replace oq1 := oq1.below bnew
        replace oq2 := oq2.below bnew
        replace lg := lg.below bnew lg.lt
        have tl := World.ownsRow.lt oq3
        obtain ⟨aa, kk, rfl⟩ := oq3.form
        clear hHeld bnew hgo
        refine hKK.out _ _ (unhide K _ bc8_18) (fun hHeld => ?_)
        clear hKK KK
        refine take_at (i := 5) (d := 27) (v := ?_) rfl rfl (by kernel_rfl) (by kernel_rfl) (by kernel_rfl) (fun _ _ _ h => h) (Or.inl ⟨by rfl, ?_⟩) (by assumption) ?_
        rotate_left
        · intro w hSw
          try dsimp only at hSw
          go_simp
          try with_reducible rfl
        simp only [Act.put, List.setIfInBounds_toArray, List.set_cons_zero, List.set_cons_succ]
        refine take_at (i := 6) (d := 33) (v := ?_) rfl rfl (by kernel_rfl) (by kernel_rfl) (by kernel_rfl) (fun _ _ _ h => h) (Or.inl ⟨by rfl, ?_⟩) (by assumption) ?_
        rotate_left
        · intro w hSw
          try dsimp only at hSw
          go_simp
          try with_reducible rfl
        simp only [Act.put, List.setIfInBounds_toArray, List.set_cons_zero, List.set_cons_succ]
        refine take_at (i := 7) (d := 34) (v := ?_) rfl rfl (by kernel_rfl) (by kernel_rfl) (by kernel_rfl) (fun _ _ _ h => h) (Or.inl ⟨by rfl, ?_⟩) (by assumption) ?_
        rotate_left
        · intro w hSw
          try dsimp only at hSw
          go_simp
          try with_reducible rfl
        simp only [Act.put, List.setIfInBounds_toArray, List.set_cons_zero, List.set_cons_succ]
        have q0 := lg.cell 0 rfl
        have q1 := lg.cell 1 rfl
        have q2 := lg.cell 2 rfl
        have FG := lg.frozen
        refine ready_at (i := 9) rfl (by kernel_rfl) (fun KK hKK => ?_)
        go_simp
        have bs : Below w2.heap.size w2 (((wc8_17.setCell ⟨wc8_1.heap.size, 0, none⟩ (.int .i64 n1)).setCell ⟨wc8_1.heap.size, 1, none⟩ (.string s1)).setCell ⟨wc8_1.heap.size, 2, none⟩ (.slice aa (x1).length kk)) := (Below.set (Below.set (Below.set bc8_18 _ _ (by omega)) _ _ (by omega)) _ _ (by omega))
        clear hHeld
        refine hKK.out _ _ (unhide K _ bs) (fun hHeld => ?_)
        clear hKK KK
        refine take_at (i := 10) (d := 7) (v := ?_) rfl rfl (by kernel_rfl) (by kernel_rfl) (by kernel_rfl) (fun _ _ _ h => h) (Or.inl ⟨by rfl, ?_⟩) (by assumption) ?_
        rotate_left
        · intro w hSw
          try dsimp only at hSw
          go_simp
          try with_reducible rfl
        simp only [Act.put, List.setIfInBounds_toArray, List.set_cons_zero, List.set_cons_succ]
        clear hHeld
        refine wpAnyH_done (by kernel_rfl) ?_ _
        refine NoPanic.normal ?_
        go_wp2_with fail
        go_meet
        have k3 : Kp wc8_17 (((wc8_17.setCell ⟨wc8_1.heap.size, 0, none⟩ (.int .i64 n1)).setCell ⟨wc8_1.heap.size, 1, none⟩ (.string s1)).setCell ⟨wc8_1.heap.size, 2, none⟩ (.slice aa (x1).length kk)) (fun k => k = wc8_1.heap.size) := ((set_kp _ _ _ _).trans (set_kp _ _ _ _)).trans (set_kp _ _ _ _)
        have ll := lg.lt
        exact ⟨_, _, rfl, rfl, by omega, by simpa using ll, (((lg.set 0 _ rfl).set 1 _ rfl).set 2 _ rfl), (oq3.kp k3 (fun j hj e => by have := tl j hj; omega)).mono (by omega), fun j hj => by have := tl j hj; simp; omega, bs⟩
    · go_simp
      obtain ⟨wl8_19, hwl8_19⟩ : ∃ x, wd.alloc (.cells #[.int .i64 0, .string ⟨#[]⟩, .slice none 0 0] 31) = x := ⟨_, rfl⟩
      have cbl8_20 : Below wd.heap.size wd wl8_19 := hwl8_19 ▸ qalloc _ _
      have bl8_20 : Below w2.heap.size w2 wl8_19 := bd.trans (cbl8_20.mono bd.size)
      have zzwl8_19 : wl8_19.heap.size = wd.heap.size + 1 := by rw [← hwl8_19]; simp
      have lg : Loc wl8_19 wd.heap.size #[.int .i64 0, .string ⟨#[]⟩, .slice none 0 0] := hwl8_19 ▸ loc_at wd _ _ rfl
      rw [hwl8_19]
      clear hHeld hwl8_19 cbl8_20
      refine hKK.out _ _ (unhide K _ bl8_20) (fun hHeld => ?_)
      clear hKK KK
      refine ready_at (i := 1) rfl (by kernel_rfl) (fun KK hKK => ?_)
      go_simp
      have hgo := bl8_20
      refine (unhide TA _ (unhide RP _ (Bw2.trans (hgo.mono Bw2.size)))).mono ?_
      rintro e wc8_21 ⟨vv1, rfl, oq1, bnew⟩
      have bc8_22 : Below w2.heap.size w2 wc8_21 := bl8_20.trans (bnew.mono bl8_20.size)
      have zzwc8_21 := bnew.size
      replace lg := lg.below bnew lg.lt
      obtain ⟨aq, kq, rfl⟩ := oq1.form
      clear hHeld bnew hgo
      refine hKK.out _ _ (unhide K _ bc8_22) (fun hHeld => ?_)
      clear hKK KK
      refine ready_at (i := 3) rfl (by kernel_rfl) (fun KK hKK => ?_)
      go_simp
      have hgo := bc8_22
      refine (unhide TB _ (unhide RQ _ (Bw2.trans (hgo.mono Bw2.size)))).mono ?_
      rintro e wc8_23 ⟨vv2, rfl, oq2, bnew⟩
      have bc8_24 : Below w2.heap.size w2 wc8_23 := bc8_22.trans (bnew.mono bc8_22.size)
      have zzwc8_23 := bnew.size
      replace oq1 := oq1.below bnew
      replace lg := lg.below bnew lg.lt
      obtain ⟨ar, kr, rfl⟩ := oq2.form
      clear hHeld bnew hgo
      refine hKK.out _ _ (unhide K _ bc8_24) (fun hHeld => ?_)
      clear hKK KK
      refine ready_at (i := 4) rfl (by kernel_rfl) (fun KK hKK => ?_)
      go_simp
      have hgo := bc8_24
      refine (unhide SP _ _ _ (oq1.ri (by omega)) (oq2.ri (by omega))).mono ?_
      rintro e wc8_25 ⟨vv3, rfl, oq3, bnew⟩
      have bc8_26 : Below w2.heap.size w2 wc8_25 := bc8_24.trans (bnew.mono bc8_24.size)
      have zzwc8_25 := bnew.size
      replace oq1 := oq1.below bnew
      replace oq2 := oq2.below bnew
      replace lg := lg.below bnew lg.lt
      have tl := World.ownsRow.lt oq3
      obtain ⟨aa, kk, rfl⟩ := oq3.form
      clear hHeld bnew hgo
      refine hKK.out _ _ (unhide K _ bc8_26) (fun hHeld => ?_)
      clear hKK KK
      refine take_at (i := 5) (d := 27) (v := ?_) rfl rfl (by kernel_rfl) (by kernel_rfl) (by kernel_rfl) (fun _ _ _ h => h) (Or.inl ⟨by rfl, ?_⟩) (by assumption) ?_
      rotate_left
      · intro w hSw
        try dsimp only at hSw
        go_simp
        try with_reducible rfl
      simp only [Act.put, List.setIfInBounds_toArray, List.set_cons_zero, List.set_cons_succ]
      refine take_at (i := 6) (d := 33) (v := ?_) rfl rfl (by kernel_rfl) (by kernel_rfl) (by kernel_rfl) (fun _ _ _ h => h) (Or.inl ⟨by rfl, ?_⟩) (by assumption) ?_
      rotate_left
      · intro w hSw
        try dsimp only at hSw
        go_simp
        try with_reducible rfl
      simp only [Act.put, List.setIfInBounds_toArray, List.set_cons_zero, List.set_cons_succ]
      refine take_at (i := 7) (d := 34) (v := ?_) rfl rfl (by kernel_rfl) (by kernel_rfl) (by kernel_rfl) (fun _ _ _ h => h) (Or.inl ⟨by rfl, ?_⟩) (by assumption) ?_
      rotate_left
      · intro w hSw
        try dsimp only at hSw
        go_simp
        try with_reducible rfl
      simp only [Act.put, List.setIfInBounds_toArray, List.set_cons_zero, List.set_cons_succ]
      have q0 := lg.cell 0 rfl
      have q1 := lg.cell 1 rfl
      have q2 := lg.cell 2 rfl
      have FG := lg.frozen
      refine ready_at (i := 9) rfl (by kernel_rfl) (fun KK hKK => ?_)
      go_simp
      have bs : Below w2.heap.size w2 (((wc8_25.setCell ⟨wd.heap.size, 0, none⟩ (.int .i64 n1)).setCell ⟨wd.heap.size, 1, none⟩ (.string s1)).setCell ⟨wd.heap.size, 2, none⟩ (.slice aa (x1).length kk)) := (Below.set (Below.set (Below.set bc8_26 _ _ (by omega)) _ _ (by omega)) _ _ (by omega))
      clear hHeld
      refine hKK.out _ _ (unhide K _ bs) (fun hHeld => ?_)
      clear hKK KK
      refine take_at (i := 10) (d := 7) (v := ?_) rfl rfl (by kernel_rfl) (by kernel_rfl) (by kernel_rfl) (fun _ _ _ h => h) (Or.inl ⟨by rfl, ?_⟩) (by assumption) ?_
      rotate_left
      · intro w hSw
        try dsimp only at hSw
        go_simp
        try with_reducible rfl
      simp only [Act.put, List.setIfInBounds_toArray, List.set_cons_zero, List.set_cons_succ]
      clear hHeld
      refine wpAnyH_done (by kernel_rfl) ?_ _
      refine NoPanic.normal ?_
      go_wp2_with fail
      go_meet
      have k3 : Kp wc8_25 (((wc8_25.setCell ⟨wd.heap.size, 0, none⟩ (.int .i64 n1)).setCell ⟨wd.heap.size, 1, none⟩ (.string s1)).setCell ⟨wd.heap.size, 2, none⟩ (.slice aa (x1).length kk)) (fun k => k = wd.heap.size) := ((set_kp _ _ _ _).trans (set_kp _ _ _ _)).trans (set_kp _ _ _ _)
      have ll := lg.lt
      exact ⟨_, _, rfl, rfl, by omega, by simpa using ll, (((lg.set 0 _ rfl).set 1 _ rfl).set 2 _ rfl), (oq3.kp k3 (fun j hj e => by have := tl j hj; omega)).mono (by omega), fun j hj => by have := tl j hj; simp; omega, bs⟩
  case rest =>
    clear K
    obtain ⟨wq8, hwq⟩ : ∃ x, x = wc := ⟨_, rfl⟩
    subst hwq
    obtain ⟨hV, vV, rfl, rfl, gV, eV, V, oV, toV, bb⟩ := hcut
    obtain ⟨aoV, koV, rfl⟩ := oV.form
    have Bwq8 := Bw2.trans (bb.mono Bw2.size)
    have swq8 := bb.size
    replace LA := LA.below bb LA.lt
    replace LB := LB.below bb LB.lt
    clear Bw2
    clear bb
    clear SP
    have cLA0 := LA.cell 0 rfl
    have cLA1 := LA.cell 1 rfl
    have cLA2 := LA.cell 2 rfl
    go_wp2_with fail
    refine (unhide TA _ (unhide RP _ Bwq8)).mono ?_
    rintro _ w3 ⟨vX, rfl, oX, bb⟩
    clear cLA0 cLA1 cLA2
    have Bw3 := Bwq8.trans (bb.mono Bwq8.size)
    have sw3 := bb.size
    replace LA := LA.below bb LA.lt
    replace LB := LB.below bb LB.lt
    replace V := V.below bb V.lt
    replace oV := oV.below bb
    clear Bwq8
    clear bb
    have toX := World.ownsRow.lt oX
    obtain ⟨aoX, koX, rfl⟩ := oX.form
    obtain ⟨w4, hw4⟩ : ∃ x, w3.alloc (.cells #[.int .i64 m, .string s, .slice aoX xs.length koX] 31) = x := ⟨_, rfl⟩
    have bb : Below w3.heap.size w3 w4 := hw4 ▸ qalloc _ _
    have X : Loc w4 w3.heap.size #[.int .i64 m, .string s, .slice aoX xs.length koX] := hw4 ▸ loc_at w3 _ _ rfl
    have zw4 : w4.heap.size = w3.heap.size + 1 := by rw [← hw4]; simp
    have Bw4 := Bw3.trans (bb.mono Bw3.size)
    have sw4 := bb.size
    replace LA := LA.below bb LA.lt
    replace LB := LB.below bb LB.lt
    replace V := V.below bb V.lt
    replace oV := oV.below bb
    replace oX := oX.below bb
    clear Bw3
    clear bb
    have cLB0 := LB.cell 0 rfl
    have cLB1 := LB.cell 1 rfl
    have cLB2 := LB.cell 2 rfl
    go_wp2_with fail
    clear hw4
    refine (unhide TB _ (unhide RQ _ Bw4)).mono ?_
    rintro _ w5 ⟨vY, rfl, oY, bb⟩
    clear cLB0 cLB1 cLB2
    have Bw5 := Bw4.trans (bb.mono Bw4.size)
    have sw5 := bb.size
    replace LA := LA.below bb LA.lt
    replace LB := LB.below bb LB.lt
    replace V := V.below bb V.lt
    replace X := X.below bb X.lt
    replace oV := oV.below bb
    replace oX := oX.below bb
    clear Bw4
    clear bb
    have toY := World.ownsRow.lt oY
    obtain ⟨aoY, koY, rfl⟩ := oY.form
    obtain ⟨w6, hw6⟩ : ∃ x, w5.alloc (.cells #[.int .i64 n, .string t, .slice aoY ys.length koY] 31) = x := ⟨_, rfl⟩
    have bb : Below w5.heap.size w5 w6 := hw6 ▸ qalloc _ _
    have Y : Loc w6 w5.heap.size #[.int .i64 n, .string t, .slice aoY ys.length koY] := hw6 ▸ loc_at w5 _ _ rfl
    have zw6 : w6.heap.size = w5.heap.size + 1 := by rw [← hw6]; simp
    have Bw6 := Bw5.trans (bb.mono Bw5.size)
    have sw6 := bb.size
    replace LA := LA.below bb LA.lt
    replace LB := LB.below bb LB.lt
    replace V := V.below bb V.lt
    replace X := X.below bb X.lt
    replace oV := oV.below bb
    replace oX := oX.below bb
    replace oY := oY.below bb
    clear Bw5
    clear bb
    have cX0 := X.cell 0 rfl
    have cX1 := X.cell 1 rfl
    have cX2 := X.cell 2 rfl
    have cY0 := Y.cell 0 rfl
    have cY1 := Y.cell 1 rfl
    have cY2 := Y.cell 2 rfl
    go_wp2_with fail
    clear hw6
    refine (unhide IM _ _ _ (unhide HE _ Bw6) (oX.ri (by omega)) (oY.ri (by omega))).mono ?_
    rintro _ w7 ⟨vG, rfl, oG, bb⟩
    clear cX0 cX1 cX2 cY0 cY1 cY2
    have Bw7 := Bw6.trans (bb.mono Bw6.size)
    have sw7 := bb.size
    replace LA := LA.below bb LA.lt
    replace LB := LB.below bb LB.lt
    replace V := V.below bb V.lt
    replace X := X.below bb X.lt
    replace Y := Y.below bb Y.lt
    replace oV := oV.below bb
    replace oX := oX.below bb
    replace oY := oY.below bb
    clear Bw6
    clear bb
    have toG := World.ownsRow.lt oG
    obtain ⟨aoG, koG, rfl⟩ := oG.form
    obtain ⟨w8, hw8⟩ : ∃ x, w7.alloc (.cells #[.int .i64 n1, .string s1, .slice aoG x1.length koG] 31) = x := ⟨_, rfl⟩
    have bb : Below w7.heap.size w7 w8 := hw8 ▸ qalloc _ _
    have G : Loc w8 w7.heap.size #[.int .i64 n1, .string s1, .slice aoG x1.length koG] := hw8 ▸ loc_at w7 _ _ rfl
    have zw8 : w8.heap.size = w7.heap.size + 1 := by rw [← hw8]; simp
    have Bw8 := Bw7.trans (bb.mono Bw7.size)
    have sw8 := bb.size
    replace LA := LA.below bb LA.lt
    replace LB := LB.below bb LB.lt
    replace V := V.below bb V.lt
    replace X := X.below bb X.lt
    replace Y := Y.below bb Y.lt
    replace oV := oV.below bb
    replace oX := oX.below bb
    replace oY := oY.below bb
    replace oG := oG.below bb
    clear Bw7
    clear bb
    have cG0 := G.cell 0 rfl
    have cG1 := G.cell 1 rfl
    have cG2 := G.cell 2 rfl
    have cV0 := V.cell 0 rfl
    have cV1 := V.cell 1 rfl
    have cV2 := V.cell 2 rfl
    go_wp2_with fail
    clear hw8
    refine (unhide EG _ _ _ (oG.ri (by omega)) (oV.ri (by omega))).mono ?_
    rintro _ w9 ⟨rfl, bb⟩
    clear cG0 cG1 cG2 cV0 cV1 cV2
    have Bw9 := Bw8.trans (bb.mono Bw8.size)
    have sw9 := bb.size
    replace LA := LA.below bb LA.lt
    replace LB := LB.below bb LB.lt
    replace V := V.below bb V.lt
    replace X := X.below bb X.lt
    replace Y := Y.below bb Y.lt
    replace G := G.below bb G.lt
    replace oV := oV.below bb
    replace oX := oX.below bb
    replace oY := oY.below bb
    replace oG := oG.below bb
    clear Bw8
    clear bb
    have RX := hide fun w' (hb' : Below w9.heap.size w9 w') => (oX.below hb').ri (by omega)
    have K : Hid (∀ w', Below w9.heap.size w9 w' → (fun w' => Below w9.heap.size w9 w' ∧ (w'.cell? ⟨w.heap.size, 0, none⟩ = some (.int .i64 m) ∧ w'.cell? ⟨w.heap.size, 1, none⟩ = some (.string s) ∧ w'.cell? ⟨w.heap.size, 2, none⟩ = some (.slice pa xs.length pc)) ∧ (w'.cell? ⟨w3.heap.size, 0, none⟩ = some (.int .i64 m) ∧ w'.cell? ⟨w3.heap.size, 1, none⟩ = some (.string s) ∧ w'.cell? ⟨w3.heap.size, 2, none⟩ = some (.slice aoX xs.length koX))) w') := hide fun w' hb' => ⟨hb', ⟨(LA.below hb' LA.lt).cell 0 rfl, (LA.below hb' LA.lt).cell 1 rfl, (LA.below hb' LA.lt).cell 2 rfl⟩, ⟨(X.below hb' X.lt).cell 0 rfl, (X.below hb' X.lt).cell 1 rfl, (X.below hb' X.lt).cell 2 rfl⟩⟩
    go_upto_region 14 with fail
    have bA : Below w9.heap.size w9 w9.drew := Below.drew (Below.refl _ _)
    refine wp_region_noPanic ?_
    refine wp_region_held_drew (S := fun w' => Below w9.heap.size w9 w' ∧ (w'.cell? ⟨w.heap.size, 0, none⟩ = some (.int .i64 m) ∧ w'.cell? ⟨w.heap.size, 1, none⟩ = some (.string s) ∧ w'.cell? ⟨w.heap.size, 2, none⟩ = some (.slice pa xs.length pc)) ∧ (w'.cell? ⟨w3.heap.size, 0, none⟩ = some (.int .i64 m) ∧ w'.cell? ⟨w3.heap.size, 1, none⟩ = some (.string s) ∧ w'.cell? ⟨w3.heap.size, 2, none⟩ = some (.slice aoX xs.length koX))) (by kernel_rfl) (unhide K _ bA) (fun hHeld => ?_)
    refine take_at (i := 0) (d := 54) (v := ?_) rfl rfl (by kernel_rfl) (by kernel_rfl) (by kernel_rfl) (fun _ _ _ h => h) (Or.inl ⟨by rfl, ?_⟩) (by assumption) ?_
    rotate_left
    · intro w hSw
      try dsimp only at hSw
      go_simp
      try with_reducible rfl
    simp only [Act.put, List.setIfInBounds_toArray, List.set_cons_zero, List.set_cons_succ]
    refine take_at (i := 1) (d := 55) (v := ?_) rfl rfl (by kernel_rfl) (by kernel_rfl) (by kernel_rfl) (fun _ _ _ h => h) (Or.inl ⟨by rfl, ?_⟩) (by assumption) ?_
    rotate_left
    · intro w hSw
      try dsimp only at hSw
      go_simp
      try with_reducible rfl
    simp only [Act.put, List.setIfInBounds_toArray, List.set_cons_zero, List.set_cons_succ]
    refine ready_at (i := 2) rfl (by kernel_rfl) (fun KK hKK => ?_)
    go_simp
    have hgo := bA
    refine (unhide TA _ (unhide RP _ (Bw9.trans (hgo.mono Bw9.size)))).mono ?_
    rintro e wz14_1 ⟨vv1, rfl, o1, bb⟩
    have bz1 : Below w9.heap.size w9 wz14_1 := bA.trans (bb.mono bA.size)
    have R1 := hide (o1.ri (by omega))
    clear o1
    clear bA hgo bb
    clear hHeld
    refine hKK.out _ _ (unhide K _ bz1) (fun hHeld => ?_)
    clear hKK KK
    refine ready_at (i := 3) rfl (by kernel_rfl) (fun KK hKK => ?_)
    go_simp
    have hgo := bz1
    refine (eqPart_yes m s _ _ xs _ (unhide RX _ hgo) (unhide R1)).mono ?_
    rintro e wz14_2 ⟨rfl, bb⟩
    have bz2 : Below w9.heap.size w9 wz14_2 := bz1.trans (bb.mono bz1.size)
    clear R1 RX
    clear bz1 hgo bb
    clear hHeld
    refine hKK.out _ _ (unhide K _ bz2) (fun hHeld => ?_)
    clear hKK KK
    refine take_at (i := 4) (d := 58) (v := ?_) rfl rfl (by kernel_rfl) (by kernel_rfl) (by kernel_rfl) (fun _ _ _ h => h) (Or.inl ⟨by rfl, ?_⟩) (by assumption) ?_
    rotate_left
    · intro w hSw
      try dsimp only at hSw
      go_simp
      try with_reducible rfl
    simp only [Act.put, List.setIfInBounds_toArray, List.set_cons_zero, List.set_cons_succ]
    clear hHeld
    refine wpAnyH_done (by kernel_rfl) ?_ _
    refine NoPanic.normal ?_
    have bb := bz2
    have Bwz14_2 := Bw9.trans (bb.mono Bw9.size)
    have swz14_2 := bb.size
    replace LA := LA.below bb LA.lt
    replace LB := LB.below bb LB.lt
    replace V := V.below bb V.lt
    replace X := X.below bb X.lt
    replace Y := Y.below bb Y.lt
    replace G := G.below bb G.lt
    replace oV := oV.below bb
    replace oX := oX.below bb
    replace oY := oY.below bb
    replace oG := oG.below bb
    clear Bw9
    clear bb bz2 K
    have RY := hide fun w' (hb' : Below wz14_2.heap.size wz14_2 w') => (oY.below hb').ri (by omega)
    have K : Hid (∀ w', Below wz14_2.heap.size wz14_2 w' → (fun w' => Below wz14_2.heap.size wz14_2 w' ∧ (w'.cell? ⟨w.heap.size + 1, 0, none⟩ = some (.int .i64 n) ∧ w'.cell? ⟨w.heap.size + 1, 1, none⟩ = some (.string t) ∧ w'.cell? ⟨w.heap.size + 1, 2, none⟩ = some (.slice qa ys.length qc)) ∧ (w'.cell? ⟨w5.heap.size, 0, none⟩ = some (.int .i64 n) ∧ w'.cell? ⟨w5.heap.size, 1, none⟩ = some (.string t) ∧ w'.cell? ⟨w5.heap.size, 2, none⟩ = some (.slice aoY ys.length koY))) w') := hide fun w' hb' => ⟨hb', ⟨(LB.below hb' LB.lt).cell 0 rfl, (LB.below hb' LB.lt).cell 1 rfl, (LB.below hb' LB.lt).cell 2 rfl⟩, ⟨(Y.below hb' Y.lt).cell 0 rfl, (Y.below hb' Y.lt).cell 1 rfl, (Y.below hb' Y.lt).cell 2 rfl⟩⟩
    go_upto_region 16 with fail
    have bA : Below wz14_2.heap.size wz14_2 wz14_2.drew := Below.drew (Below.refl _ _)
    refine wp_region_noPanic ?_
    refine wp_region_held_drew (S := fun w' => Below wz14_2.heap.size wz14_2 w' ∧ (w'.cell? ⟨w.heap.size + 1, 0, none⟩ = some (.int .i64 n) ∧ w'.cell? ⟨w.heap.size + 1, 1, none⟩ = some (.string t) ∧ w'.cell? ⟨w.heap.size + 1, 2, none⟩ = some (.slice qa ys.length qc)) ∧ (w'.cell? ⟨w5.heap.size, 0, none⟩ = some (.int .i64 n) ∧ w'.cell? ⟨w5.heap.size, 1, none⟩ = some (.string t) ∧ w'.cell? ⟨w5.heap.size, 2, none⟩ = some (.slice aoY ys.length koY))) (by kernel_rfl) (unhide K _ bA) (fun hHeld => ?_)
    refine take_at (i := 0) (d := 59) (v := ?_) rfl rfl (by kernel_rfl) (by kernel_rfl) (by kernel_rfl) (fun _ _ _ h => h) (Or.inl ⟨by rfl, ?_⟩) (by assumption) ?_
    rotate_left
    · intro w hSw
      try dsimp only at hSw
      go_simp
      try with_reducible rfl
    simp only [Act.put, List.setIfInBounds_toArray, List.set_cons_zero, List.set_cons_succ]
    refine take_at (i := 1) (d := 60) (v := ?_) rfl rfl (by kernel_rfl) (by kernel_rfl) (by kernel_rfl) (fun _ _ _ h => h) (Or.inl ⟨by rfl, ?_⟩) (by assumption) ?_
    rotate_left
    · intro w hSw
      try dsimp only at hSw
      go_simp
      try with_reducible rfl
    simp only [Act.put, List.setIfInBounds_toArray, List.set_cons_zero, List.set_cons_succ]
    refine ready_at (i := 2) rfl (by kernel_rfl) (fun KK hKK => ?_)
    go_simp
    have hgo := bA
    refine (unhide TB _ (unhide RQ _ (Bwz14_2.trans (hgo.mono Bwz14_2.size)))).mono ?_
    rintro e wz16_1 ⟨vv1, rfl, o1, bb⟩
    have bz1 : Below wz14_2.heap.size wz14_2 wz16_1 := bA.trans (bb.mono bA.size)
    have R1 := hide (o1.ri (by omega))
    clear o1
    clear bA hgo bb
    clear hHeld
    refine hKK.out _ _ (unhide K _ bz1) (fun hHeld => ?_)
    clear hKK KK
    refine ready_at (i := 3) rfl (by kernel_rfl) (fun KK hKK => ?_)
    go_simp
    have hgo := bz1
    refine (eqPart_yes n t _ _ ys _ (unhide RY _ hgo) (unhide R1)).mono ?_
    rintro e wz16_2 ⟨rfl, bb⟩
    have bz2 : Below wz14_2.heap.size wz14_2 wz16_2 := bz1.trans (bb.mono bz1.size)
    clear R1 RY
    clear bz1 hgo bb
    clear hHeld
    refine hKK.out _ _ (unhide K _ bz2) (fun hHeld => ?_)
    clear hKK KK
    refine take_at (i := 4) (d := 63) (v := ?_) rfl rfl (by kernel_rfl) (by kernel_rfl) (by kernel_rfl) (fun _ _ _ h => h) (Or.inl ⟨by rfl, ?_⟩) (by assumption) ?_
    rotate_left
    · intro w hSw
      try dsimp only at hSw
      go_simp
      try with_reducible rfl
    simp only [Act.put, List.setIfInBounds_toArray, List.set_cons_zero, List.set_cons_succ]
    clear hHeld
    refine wpAnyH_done (by kernel_rfl) ?_ _
    refine NoPanic.normal ?_
    have bb := bz2
    have Bwz16_2 := Bwz14_2.trans (bb.mono Bwz14_2.size)
    have swz16_2 := bb.size
    replace LA := LA.below bb LA.lt
    replace LB := LB.below bb LB.lt
    replace V := V.below bb V.lt
    replace X := X.below bb X.lt
    replace Y := Y.below bb Y.lt
    replace G := G.below bb G.lt
    replace oV := oV.below bb
    replace oX := oX.below bb
    replace oY := oY.below bb
    replace oG := oG.below bb
    clear Bwz14_2
    clear bb bz2 K
    have cX0 := X.cell 0 rfl
    have cX1 := X.cell 1 rfl
    have cX2 := X.cell 2 rfl
    go_wp2_with fail
    refine (unhide MX _ _ _ oX).mono ?_
    rintro _ w10 ⟨rfl, oN, kN⟩
    clear cX0 cX1 cX2
    have Bw10 := Below.kp Bwz16_2 kN Bwz16_2.size (fun k hk => by have := toX _ hk; omega)
    have sw10 := kN.size
    replace LA := LA.kp kN (fun h => by have := toX _ h; omega)
    replace LB := LB.kp kN (fun h => by have := toX _ h; omega)
    replace V := V.kp kN (fun h => by have := toX _ h; omega)
    replace X := X.kp kN (fun h => by have := toX _ h; omega)
    replace Y := Y.kp kN (fun h => by have := toX _ h; omega)
    replace G := G.kp kN (fun h => by have := toX _ h; omega)
    replace oV := oV.kp kN (fun j hj h => by have := toV j hj; have := toX _ h; omega)
    replace oY := oY.kp kN (fun j hj h => by have := toY j hj; have := toX _ h; omega)
    replace oG := oG.kp kN (fun j hj h => by have := toG j hj; have := toX _ h; omega)
    clear Bwz16_2
    clear oX kN
    clear oN
    have cY0 := Y.cell 0 rfl
    have cY1 := Y.cell 1 rfl
    have cY2 := Y.cell 2 rfl
    go_wp2_with fail
    refine (unhide MY _ _ _ oY).mono ?_
    rintro _ w11 ⟨rfl, oN, kN⟩
    clear cY0 cY1 cY2
    have Bw11 := Below.kp Bw10 kN Bw10.size (fun k hk => by have := toY _ hk; omega)
    have sw11 := kN.size
    replace LA := LA.kp kN (fun h => by have := toY _ h; omega)
    replace LB := LB.kp kN (fun h => by have := toY _ h; omega)
    replace V := V.kp kN (fun h => by have := toY _ h; omega)
    replace X := X.kp kN (fun h => by have := toY _ h; omega)
    replace Y := Y.kp kN (fun h => by have := toY _ h; omega)
    replace G := G.kp kN (fun h => by have := toY _ h; omega)
    replace oV := oV.kp kN (fun j hj h => by have := toV j hj; have := toY _ h; omega)
    replace oG := oG.kp kN (fun j hj h => by have := toG j hj; have := toY _ h; omega)
    clear Bw10
    clear oY kN
    clear oN
    have cG0 := G.cell 0 rfl
    have cG1 := G.cell 1 rfl
    have cG2 := G.cell 2 rfl
    have cV0 := V.cell 0 rfl
    have cV1 := V.cell 1 rfl
    have cV2 := V.cell 2 rfl
    go_wp2_with fail
    refine (unhide EG _ _ _ (oG.ri (by omega)) (oV.ri (by omega))).mono ?_
    rintro _ w12 ⟨rfl, bb⟩
    clear cG0 cG1 cG2 cV0 cV1 cV2
    have Bw12 := Bw11.trans (bb.mono Bw11.size)
    have sw12 := bb.size
    replace LA := LA.below bb LA.lt
    replace LB := LB.below bb LB.lt
    replace V := V.below bb V.lt
    replace X := X.below bb X.lt
    replace Y := Y.below bb Y.lt
    replace G := G.below bb G.lt
    replace oV := oV.below bb
    replace oG := oG.below bb
    clear Bw11
    clear bb
    have cG0 := G.cell 0 rfl
    have cG1 := G.cell 1 rfl
    have cG2 := G.cell 2 rfl
    go_wp2_with fail
    refine (unhide MG _ _ _ oG).mono ?_
    rintro _ w13 ⟨rfl, oN, kN⟩
    clear cG0 cG1 cG2
    have Bw13 := Below.kp Bw12 kN Bw12.size (fun k hk => by have := toG _ hk; omega)
    have sw13 := kN.size
    replace LA := LA.kp kN (fun h => by have := toG _ h; omega)
    replace LB := LB.kp kN (fun h => by have := toG _ h; omega)
    replace V := V.kp kN (fun h => by have := toG _ h; omega)
    replace X := X.kp kN (fun h => by have := toG _ h; omega)
    replace Y := Y.kp kN (fun h => by have := toG _ h; omega)
    replace G := G.kp kN (fun h => by have := toG _ h; omega)
    replace oV := oV.kp kN (fun j hj h => by have := toV j hj; have := toG _ h; omega)
    clear Bw12
    clear oG kN
    have oG := oN
    clear oN
    have cG0 := G.cell 0 rfl
    have cG1 := G.cell 1 rfl
    have cG2 := G.cell 2 rfl
    go_wp2_with fail
    refine (unhide HD _ _ (oG.ri (by rw [imarks_len]; omega))).mono ?_
    rintro _ w14 ⟨rfl, bb⟩
    clear cG0 cG1 cG2
    have Bw14 := Bw13.trans (bb.mono Bw13.size)
    have sw14 := bb.size
    replace LA := LA.below bb LA.lt
    replace LB := LB.below bb LB.lt
    replace V := V.below bb V.lt
    replace X := X.below bb X.lt
    replace Y := Y.below bb Y.lt
    replace G := G.below bb G.lt
    replace oV := oV.below bb
    replace oG := oG.below bb
    clear Bw13
    clear bb
    have K : Hid (∀ w', Below w14.heap.size w14 w' → (fun w' => Below w14.heap.size w14 w' ∧ (w'.cell? ⟨w.heap.size, 0, none⟩ = some (.int .i64 m) ∧ w'.cell? ⟨w.heap.size, 1, none⟩ = some (.string s) ∧ w'.cell? ⟨w.heap.size, 2, none⟩ = some (.slice pa xs.length pc)) ∧ (w'.cell? ⟨w.heap.size + 1, 0, none⟩ = some (.int .i64 n) ∧ w'.cell? ⟨w.heap.size + 1, 1, none⟩ = some (.string t) ∧ w'.cell? ⟨w.heap.size + 1, 2, none⟩ = some (.slice qa ys.length qc))) w') := hide fun w' hb' => ⟨hb', ⟨(LA.below hb' LA.lt).cell 0 rfl, (LA.below hb' LA.lt).cell 1 rfl, (LA.below hb' LA.lt).cell 2 rfl⟩, ⟨(LB.below hb' LB.lt).cell 0 rfl, (LB.below hb' LB.lt).cell 1 rfl, (LB.below hb' LB.lt).cell 2 rfl⟩⟩
    go_upto_region 31 with fail
    go_cut [15, 16] (fun c d1 wx => ∃ h uu, c = .pointer (some ⟨h, 0, none⟩) ∧ d1 = .bool rb ∧ w14.heap.size ≤ h ∧ h < wx.heap.size ∧ Loc wx h #[.int .i64 n1, .string s1, uu] ∧ OI wx w14.heap.size uu x1 ∧ (∀ j, uu.ownBlock = some j → w14.heap.size ≤ j ∧ j < wx.heap.size ∧ j ≠ h) ∧ Below w14.heap.size w14 wx)
    case first =>
      refine wp_region_noPanic ?_
      refine wp_region_held_drew (S := fun w' => Below w14.heap.size w14 w' ∧ (w'.cell? ⟨w.heap.size, 0, none⟩ = some (.int .i64 m) ∧ w'.cell? ⟨w.heap.size, 1, none⟩ = some (.string s) ∧ w'.cell? ⟨w.heap.size, 2, none⟩ = some (.slice pa xs.length pc)) ∧ (w'.cell? ⟨w.heap.size + 1, 0, none⟩ = some (.int .i64 n) ∧ w'.cell? ⟨w.heap.size + 1, 1, none⟩ = some (.string t) ∧ w'.cell? ⟨w.heap.size + 1, 2, none⟩ = some (.slice qa ys.length qc))) (by kernel_rfl) (unhide K _ (Below.drew (Below.refl _ _))) (fun hHeld => ?_)
      obtain ⟨wd, hd⟩ : ∃ wd, w14.drew = wd := ⟨_, rfl⟩
      have bd : Below w14.heap.size w14 wd := hd ▸ Below.drew (Below.refl _ _)
      have szd := bd.size
      rw [hd] at hHeld ⊢
      clear hd
      refine take_at (i := 0) (d := 95) (v := ?_) rfl rfl (by kernel_rfl) (by kernel_rfl) (by kernel_rfl) (fun _ _ _ h => h) (Or.inl ⟨by rfl, ?_⟩) (by assumption) ?_
      rotate_left
      · intro w hSw
        try dsimp only at hSw
        go_simp
        try with_reducible rfl
      simp only [Act.put, List.setIfInBounds_toArray, List.set_cons_zero, List.set_cons_succ]
      refine take_at (i := 2) (d := 97) (v := ?_) rfl rfl (by kernel_rfl) (by kernel_rfl) (by kernel_rfl) (fun _ _ _ h => h) (Or.inl ⟨by rfl, ?_⟩) (by assumption) ?_
      rotate_left
      · intro w hSw
        try dsimp only at hSw
        go_simp
        try with_reducible rfl
      simp only [Act.put, List.setIfInBounds_toArray, List.set_cons_zero, List.set_cons_succ]
      refine wpAnyH_ready (rs := [1, 8]) (by kernel_rfl) (by simp) (AllReadyH.cons rfl (fun KK hKK => ?_) (AllReadyH.cons rfl (fun KK hKK => ?_) AllReadyH.nil))
      · go_simp
        have hgo := bd
        refine (unhide TA _ (unhide RP _ (Bw14.trans (hgo.mono Bw14.size)))).mono ?_
        rintro e wc31_1 ⟨vv1, rfl, oq1, bnew⟩
        have bc31_2 : Below w14.heap.size w14 wc31_1 := bd.trans (bnew.mono bd.size)
        have zzwc31_1 := bnew.size
        obtain ⟨aq, kq, rfl⟩ := oq1.form
        clear hHeld bnew hgo
        refine hKK.out _ _ (unhide K _ bc31_2) (fun hHeld => ?_)
        clear hKK KK
        refine wpAnyH_ready (rs := [3, 8]) (by kernel_rfl) (by simp) (AllReadyH.cons rfl (fun KK hKK => ?_) (AllReadyH.cons rfl (fun KK hKK => ?_) AllReadyH.nil))
        · go_simp
          have hgo := bc31_2
          refine (unhide TB _ (unhide RQ _ (Bw14.trans (hgo.mono Bw14.size)))).mono ?_
          rintro e wc31_3 ⟨vv2, rfl, oq2, bnew⟩
          have bc31_4 : Below w14.heap.size w14 wc31_3 := bc31_2.trans (bnew.mono bc31_2.size)
          have zzwc31_3 := bnew.size
          replace oq1 := oq1.below bnew
          obtain ⟨ar, kr, rfl⟩ := oq2.form
          clear hHeld bnew hgo
          refine hKK.out _ _ (unhide K _ bc31_4) (fun hHeld => ?_)
          clear hKK KK
          refine wpAnyH_ready (rs := [4, 8]) (by kernel_rfl) (by simp) (AllReadyH.cons rfl (fun KK hKK => ?_) (AllReadyH.cons rfl (fun KK hKK => ?_) AllReadyH.nil))
          · go_simp
            have hgo := bc31_4
            refine (unhide IM _ _ _ (unhide HE _ (Bw14.trans (hgo.mono Bw14.size))) (oq1.ri (by omega)) (oq2.ri (by omega))).mono ?_
            rintro e wc31_5 ⟨vv3, rfl, oq3, bnew⟩
            have bc31_6 : Below w14.heap.size w14 wc31_5 := bc31_4.trans (bnew.mono bc31_4.size)
            have zzwc31_5 := bnew.size
            replace oq1 := oq1.below bnew
            replace oq2 := oq2.below bnew
            have tl := World.ownsRow.lt oq3
            obtain ⟨aa, kk, rfl⟩ := oq3.form
            clear hHeld bnew hgo
            refine hKK.out _ _ (unhide K _ bc31_6) (fun hHeld => ?_)
            clear hKK KK
            refine take_at (i := 5) (d := 94) (v := ?_) rfl rfl (by kernel_rfl) (by kernel_rfl) (by kernel_rfl) (fun _ _ _ h => h) (Or.inl ⟨by rfl, ?_⟩) (by assumption) ?_
            rotate_left
            · intro w hSw
              try dsimp only at hSw
              go_simp
              try with_reducible rfl
            simp only [Act.put, List.setIfInBounds_toArray, List.set_cons_zero, List.set_cons_succ]
            refine take_at (i := 6) (d := 100) (v := ?_) rfl rfl (by kernel_rfl) (by kernel_rfl) (by kernel_rfl) (fun _ _ _ h => h) (Or.inl ⟨by rfl, ?_⟩) (by assumption) ?_
            rotate_left
            · intro w hSw
              try dsimp only at hSw
              go_simp
              try with_reducible rfl
            simp only [Act.put, List.setIfInBounds_toArray, List.set_cons_zero, List.set_cons_succ]
            refine take_at (i := 7) (d := 101) (v := ?_) rfl rfl (by kernel_rfl) (by kernel_rfl) (by kernel_rfl) (fun _ _ _ h => h) (Or.inl ⟨by rfl, ?_⟩) (by assumption) ?_
            rotate_left
            · intro w hSw
              try dsimp only at hSw
              go_simp
              try with_reducible rfl
            simp only [Act.put, List.setIfInBounds_toArray, List.set_cons_zero, List.set_cons_succ]
            refine ready_at (i := 8) rfl (by kernel_rfl) (fun KK hKK => ?_)
            go_simp
            obtain ⟨wl31_7, hwl31_7⟩ : ∃ x, wc31_5.alloc (.cells #[.int .i64 0, .string ⟨#[]⟩, .slice none 0 0] 31) = x := ⟨_, rfl⟩
            have cbl31_8 : Below wc31_5.heap.size wc31_5 wl31_7 := hwl31_7 ▸ qalloc _ _
            have bl31_8 : Below w14.heap.size w14 wl31_7 := bc31_6.trans (cbl31_8.mono bc31_6.size)
            have zzwl31_7 : wl31_7.heap.size = wc31_5.heap.size + 1 := by rw [← hwl31_7]; simp
            have lg : Loc wl31_7 wc31_5.heap.size #[.int .i64 0, .string ⟨#[]⟩, .slice none 0 0] := hwl31_7 ▸ loc_at wc31_5 _ _ rfl
            replace oq1 := oq1.below cbl31_8
            replace oq2 := oq2.below cbl31_8
            replace oq3 := oq3.below cbl31_8
            rw [hwl31_7]
            clear hHeld hwl31_7 cbl31_8
            refine hKK.out _ _ (unhide K _ bl31_8) (fun hHeld => ?_)
            clear hKK KK
            have q0 := lg.cell 0 rfl
            have q1 := lg.cell 1 rfl
            have q2 := lg.cell 2 rfl
            have FG := lg.frozen
            refine ready_at (i := 9) rfl (by kernel_rfl) (fun KK hKK => ?_)
            go_simp
            have bs : Below w14.heap.size w14 (((wl31_7.setCell ⟨wc31_5.heap.size, 0, none⟩ (.int .i64 n1)).setCell ⟨wc31_5.heap.size, 1, none⟩ (.string s1)).setCell ⟨wc31_5.heap.size, 2, none⟩ (.slice aa (x1).length kk)) := (Below.set (Below.set (Below.set bl31_8 _ _ (by omega)) _ _ (by omega)) _ _ (by omega))
            clear hHeld
            refine hKK.out _ _ (unhide K _ bs) (fun hHeld => ?_)
            clear hKK KK
            refine take_at (i := 10) (d := 16) (v := ?_) rfl rfl (by kernel_rfl) (by kernel_rfl) (by kernel_rfl) (fun _ _ _ h => h) (Or.inl ⟨by rfl, ?_⟩) (by assumption) ?_
            rotate_left
            · intro w hSw
              try dsimp only at hSw
              go_simp
              try with_reducible rfl
            simp only [Act.put, List.setIfInBounds_toArray, List.set_cons_zero, List.set_cons_succ]
            clear hHeld
            refine wpAnyH_done (by kernel_rfl) ?_ _
            refine NoPanic.normal ?_
            go_wp2_with fail
            go_meet
            have k3 : Kp wl31_7 (((wl31_7.setCell ⟨wc31_5.heap.size, 0, none⟩ (.int .i64 n1)).setCell ⟨wc31_5.heap.size, 1, none⟩ (.string s1)).setCell ⟨wc31_5.heap.size, 2, none⟩ (.slice aa (x1).length kk)) (fun k => k = wc31_5.heap.size) := ((set_kp _ _ _ _).trans (set_kp _ _ _ _)).trans (set_kp _ _ _ _)
            have ll := lg.lt
            exact ⟨_, _, rfl, rfl, by omega, by simpa using ll, (((lg.set 0 _ rfl).set 1 _ rfl).set 2 _ rfl), (oq3.kp k3 (fun j hj e => by have := tl j hj; omega)).mono (by omega), fun j hj => by have := tl j hj; simp; omega, bs⟩
          · go_simp
            obtain ⟨wl31_9, hwl31_9⟩ : ∃ x, wc31_3.alloc (.cells #[.int .i64 0, .string ⟨#[]⟩, .slice none 0 0] 31) = x := ⟨_, rfl⟩
            have cbl31_10 : Below wc31_3.heap.size wc31_3 wl31_9 := hwl31_9 ▸ qalloc _ _
            have bl31_10 : Below w14.heap.size w14 wl31_9 := bc31_4.trans (cbl31_10.mono bc31_4.size)
            have zzwl31_9 : wl31_9.heap.size = wc31_3.heap.size + 1 := by rw [← hwl31_9]; simp
            have lg : Loc wl31_9 wc31_3.heap.size #[.int .i64 0, .string ⟨#[]⟩, .slice none 0 0] := hwl31_9 ▸ loc_at wc31_3 _ _ rfl
            replace oq1 := oq1.below cbl31_10
            replace oq2 := oq2.below cbl31_10
            rw [hwl31_9]
            clear hHeld hwl31_9 cbl31_10
            refine hKK.out _ _ (unhide K _ bl31_10) (fun hHeld => ?_)
            clear hKK KK
            refine ready_at (i := 4) rfl (by kernel_rfl) (fun KK hKK => ?_)
            go_simp
            have hgo := bl31_10
            refine (unhide IM _ _ _ (unhide HE _ (Bw14.trans (hgo.mono Bw14.size))) (oq1.ri (by omega)) (oq2.ri (by omega))).mono ?_
            rintro e wc31_11 ⟨vv3, rfl, oq3, bnew⟩
            have bc31_12 : Below w14.heap.size w14 wc31_11 := bl31_10.trans (bnew.mono bl31_10.size)
            have zzwc31_11 := bnew.size
            replace oq1 := oq1.below bnew
            replace oq2 := oq2.below bnew
            replace lg := lg.below bnew lg.lt
            have tl := World.ownsRow.lt oq3
            obtain ⟨aa, kk, rfl⟩ := oq3.form
            clear hHeld bnew hgo
            refine hKK.out _ _ (unhide K _ bc31_12) (fun hHeld => ?_)
            clear hKK KK
            refine take_at (i := 5) (d := 94) (v := ?_) rfl rfl (by kernel_rfl) (by kernel_rfl) (by kernel_rfl) (fun _ _ _ h => h) (Or.inl ⟨by rfl, ?_⟩) (by assumption) ?_
            rotate_left
            · intro w hSw
              try dsimp only at hSw
              go_simp
              try with_reducible rfl
            simp only [Act.put, List.setIfInBounds_toArray, List.set_cons_zero, List.set_cons_succ]
            refine take_at (i := 6) (d := 100) (v := ?_) rfl rfl (by kernel_rfl) (by kernel_rfl) (by kernel_rfl) (fun _ _ _ h => h) (Or.inl ⟨by rfl, ?_⟩) (by assumption) ?_
            rotate_left
            · intro w hSw
              try dsimp only at hSw
              go_simp
              try with_reducible rfl
            simp only [Act.put, List.setIfInBounds_toArray, List.set_cons_zero, List.set_cons_succ]
            refine take_at (i := 7) (d := 101) (v := ?_) rfl rfl (by kernel_rfl) (by kernel_rfl) (by kernel_rfl) (fun _ _ _ h => h) (Or.inl ⟨by rfl, ?_⟩) (by assumption) ?_
            rotate_left
            · intro w hSw
              try dsimp only at hSw
              go_simp
              try with_reducible rfl
            simp only [Act.put, List.setIfInBounds_toArray, List.set_cons_zero, List.set_cons_succ]
            have q0 := lg.cell 0 rfl
            have q1 := lg.cell 1 rfl
            have q2 := lg.cell 2 rfl
            have FG := lg.frozen
            refine ready_at (i := 9) rfl (by kernel_rfl) (fun KK hKK => ?_)
            go_simp
            have bs : Below w14.heap.size w14 (((wc31_11.setCell ⟨wc31_3.heap.size, 0, none⟩ (.int .i64 n1)).setCell ⟨wc31_3.heap.size, 1, none⟩ (.string s1)).setCell ⟨wc31_3.heap.size, 2, none⟩ (.slice aa (x1).length kk)) := (Below.set (Below.set (Below.set bc31_12 _ _ (by omega)) _ _ (by omega)) _ _ (by omega))
            clear hHeld
            refine hKK.out _ _ (unhide K _ bs) (fun hHeld => ?_)
            clear hKK KK
            refine take_at (i := 10) (d := 16) (v := ?_) rfl rfl (by kernel_rfl) (by kernel_rfl) (by kernel_rfl) (fun _ _ _ h => h) (Or.inl ⟨by rfl, ?_⟩) (by assumption) ?_
            rotate_left
            · intro w hSw
              try dsimp only at hSw
              go_simp
              try with_reducible rfl
            simp only [Act.put, List.setIfInBounds_toArray, List.set_cons_zero, List.set_cons_succ]
            clear hHeld
            refine wpAnyH_done (by kernel_rfl) ?_ _
            refine NoPanic.normal ?_
            go_wp2_with fail
            go_meet
            have k3 : Kp wc31_11 (((wc31_11.setCell ⟨wc31_3.heap.size, 0, none⟩ (.int .i64 n1)).setCell ⟨wc31_3.heap.size, 1, none⟩ (.string s1)).setCell ⟨wc31_3.heap.size, 2, none⟩ (.slice aa (x1).length kk)) (fun k => k = wc31_3.heap.size) := ((set_kp _ _ _ _).trans (set_kp _ _ _ _)).trans (set_kp _ _ _ _)
            have ll := lg.lt
            exact ⟨_, _, rfl, rfl, by omega, by simpa using ll, (((lg.set 0 _ rfl).set 1 _ rfl).set 2 _ rfl), (oq3.kp k3 (fun j hj e => by have := tl j hj; omega)).mono (by omega), fun j hj => by have := tl j hj; simp; omega, bs⟩
        · go_simp
          obtain ⟨wl31_13, hwl31_13⟩ : ∃ x, wc31_1.alloc (.cells #[.int .i64 0, .string ⟨#[]⟩, .slice none 0 0] 31) = x := ⟨_, rfl⟩
          have cbl31_14 : Below wc31_1.heap.size wc31_1 wl31_13 := hwl31_13 ▸ qalloc _ _
          have bl31_14 : Below w14.heap.size w14 wl31_13 := bc31_2.trans (cbl31_14.mono bc31_2.size)
          have zzwl31_13 : wl31_13.heap.size = wc31_1.heap.size + 1 := by rw [← hwl31_13]; simp
          have lg : Loc wl31_13 wc31_1.heap.size #[.int .i64 0, .string ⟨#[]⟩, .slice none 0 0] := hwl31_13 ▸ loc_at wc31_1 _ _ rfl
          replace oq1 := oq1.below cbl31_14
          rw [hwl31_13]
          clear hHeld hwl31_13 cbl31_14
          refine hKK.out _ _ (unhide K _ bl31_14) (fun hHeld => ?_)
          clear hKK KK
          refine ready_at (i := 3) rfl (by kernel_rfl) (fun KK hKK => ?_)
          go_simp
          have hgo := bl31_14
          refine (unhide TB _ (unhide RQ _ (Bw14.trans (hgo.mono Bw14.size)))).mono ?_
          rintro e wc31_15 ⟨vv2, rfl, oq2, bnew⟩
          have bc31_16 : Below w14.heap.size w14 wc31_15 := bl31_14.trans (bnew.mono bl31_14.size)
          have zzwc31_15 := bnew.size
          replace oq1 := oq1.below bnew
          replace lg := lg.below bnew lg.lt
          obtain ⟨ar, kr, rfl⟩ := oq2.form
          clear hHeld bnew hgo
          refine hKK.out _ _ (unhide K _ bc31_16) (fun hHeld => ?_)
          clear hKK KK
          refine ready_at (i := 4) rfl (by kernel_rfl) (fun KK hKK => ?_)
          go_simp
          have hgo := bc31_16
          refine (unhide IM _ _ _ (unhide HE _ (Bw14.trans (hgo.mono Bw14.size))) (oq1.ri (by omega)) (oq2.ri (by omega))).mono ?_
          rintro e wc31_17 ⟨vv3, rfl, oq3, bnew⟩
          have bc31_18 : Below w14.heap.size w14 wc31_17 := bc31_16.trans (bnew.mono bc31_16.size)
          have zzwc31_17 := bnew.size
          replace oq1 := oq1.below bnew
          replace oq2 := oq2.below bnew
          replace lg := lg.below bnew lg.lt
          have tl := World.ownsRow.lt oq3
          obtain ⟨aa, kk, rfl⟩ := oq3.form
          clear hHeld bnew hgo
          refine hKK.out _ _ (unhide K _ bc31_18) (fun hHeld => ?_)
          clear hKK KK
          refine take_at (i := 5) (d := 94) (v := ?_) rfl rfl (by kernel_rfl) (by kernel_rfl) (by kernel_rfl) (fun _ _ _ h => h) (Or.inl ⟨by rfl, ?_⟩) (by assumption) ?_
          rotate_left
          · intro w hSw
            try dsimp only at hSw
            go_simp
            try with_reducible rfl
          simp only [Act.put, List.setIfInBounds_toArray, List.set_cons_zero, List.set_cons_succ]
          refine take_at (i := 6) (d := 100) (v := ?_) rfl rfl (by kernel_rfl) (by kernel_rfl) (by kernel_rfl) (fun _ _ _ h => h) (Or.inl ⟨by rfl, ?_⟩) (by assumption) ?_
          rotate_left
          · intro w hSw
            try dsimp only at hSw
            go_simp
            try with_reducible rfl
          simp only [Act.put, List.setIfInBounds_toArray, List.set_cons_zero, List.set_cons_succ]
          refine take_at (i := 7) (d := 101) (v := ?_) rfl rfl (by kernel_rfl) (by kernel_rfl) (by kernel_rfl) (fun _ _ _ h => h) (Or.inl ⟨by rfl, ?_⟩) (by assumption) ?_
          rotate_left
          · intro w hSw
            try dsimp only at hSw
            go_simp
            try with_reducible rfl
          simp only [Act.put, List.setIfInBounds_toArray, List.set_cons_zero, List.set_cons_succ]
          have q0 := lg.cell 0 rfl
          have q1 := lg.cell 1 rfl
          have q2 := lg.cell 2 rfl
          have FG := lg.frozen
          refine ready_at (i := 9) rfl (by kernel_rfl) (fun KK hKK => ?_)
          go_simp
          have bs : Below w14.heap.size w14 (((wc31_17.setCell ⟨wc31_1.heap.size, 0, none⟩ (.int .i64 n1)).setCell ⟨wc31_1.heap.size, 1, none⟩ (.string s1)).setCell ⟨wc31_1.heap.size, 2, none⟩ (.slice aa (x1).length kk)) := (Below.set (Below.set (Below.set bc31_18 _ _ (by omega)) _ _ (by omega)) _ _ (by omega))
          clear hHeld
          refine hKK.out _ _ (unhide K _ bs) (fun hHeld => ?_)
          clear hKK KK
          refine take_at (i := 10) (d := 16) (v := ?_) rfl rfl (by kernel_rfl) (by kernel_rfl) (by kernel_rfl) (fun _ _ _ h => h) (Or.inl ⟨by rfl, ?_⟩) (by assumption) ?_
          rotate_left
          · intro w hSw
            try dsimp only at hSw
            go_simp
            try with_reducible rfl
          simp only [Act.put, List.setIfInBounds_toArray, List.set_cons_zero, List.set_cons_succ]
          clear hHeld
          refine wpAnyH_done (by kernel_rfl) ?_ _
          refine NoPanic.normal ?_
          go_wp2_with fail
          go_meet
          have k3 : Kp wc31_17 (((wc31_17.setCell ⟨wc31_1.heap.size, 0, none⟩ (.int .i64 n1)).setCell ⟨wc31_1.heap.size, 1, none⟩ (.string s1)).setCell ⟨wc31_1.heap.size, 2, none⟩ (.slice aa (x1).length kk)) (fun k => k = wc31_1.heap.size) := ((set_kp _ _ _ _).trans (set_kp _ _ _ _)).trans (set_kp _ _ _ _)
          have ll := lg.lt
          exact ⟨_, _, rfl, rfl, by omega, by simpa using ll, (((lg.set 0 _ rfl).set 1 _ rfl).set 2 _ rfl), (oq3.kp k3 (fun j hj e => by have := tl j hj; omega)).mono (by omega), fun j hj => by have := tl j hj; simp; omega, bs⟩
      · go_simp
        obtain ⟨wl31_19, hwl31_19⟩ : ∃ x, wd.alloc (.cells #[.int .i64 0, .string ⟨#[]⟩, .slice none 0 0] 31) = x := ⟨_, rfl⟩
        have cbl31_20 : Below wd.heap.size wd wl31_19 := hwl31_19 ▸ qalloc _ _
        have bl31_20 : Below w14.heap.size w14 wl31_19 := bd.trans (cbl31_20.mono bd.size)
        have zzwl31_19 : wl31_19.heap.size = wd.heap.size + 1 := by rw [← hwl31_19]; simp
        have lg : Loc wl31_19 wd.heap.size #[.int .i64 0, .string ⟨#[]⟩, .slice none 0 0] := hwl31_19 ▸ loc_at wd _ _ rfl
        rw [hwl31_19]
        clear hHeld hwl31_19 cbl31_20
        refine hKK.out _ _ (unhide K _ bl31_20) (fun hHeld => ?_)
        clear hKK KK
        refine ready_at (i := 1) rfl (by kernel_rfl) (fun KK hKK => ?_)
        go_simp
        have hgo := bl31_20
        refine (unhide TA _ (unhide RP _ (Bw14.trans (hgo.mono Bw14.size)))).mono ?_
        rintro e wc31_21 ⟨vv1, rfl, oq1, bnew⟩
        have bc31_22 : Below w14.heap.size w14 wc31_21 := bl31_20.trans (bnew.mono bl31_20.size)
        have zzwc31_21 := bnew.size
        replace lg := lg.below bnew lg.lt
        obtain ⟨aq, kq, rfl⟩ := oq1.form
        clear hHeld bnew hgo
        refine hKK.out _ _ (unhide K _ bc31_22) (fun hHeld => ?_)
        clear hKK KK
        refine ready_at (i := 3) rfl (by kernel_rfl) (fun KK hKK => ?_)
        go_simp
        have hgo := bc31_22
        refine (unhide TB _ (unhide RQ _ (Bw14.trans (hgo.mono Bw14.size)))).mono ?_
        rintro e wc31_23 ⟨vv2, rfl, oq2, bnew⟩
        have bc31_24 : Below w14.heap.size w14 wc31_23 := bc31_22.trans (bnew.mono bc31_22.size)
        have zzwc31_23 := bnew.size
        replace oq1 := oq1.below bnew
        replace lg := lg.below bnew lg.lt
        obtain ⟨ar, kr, rfl⟩ := oq2.form
        clear hHeld bnew hgo
        refine hKK.out _ _ (unhide K _ bc31_24) (fun hHeld => ?_)
        clear hKK KK
        refine ready_at (i := 4) rfl (by kernel_rfl) (fun KK hKK => ?_)
        go_simp
        have hgo := bc31_24
        refine (unhide IM _ _ _ (unhide HE _ (Bw14.trans (hgo.mono Bw14.size))) (oq1.ri (by omega)) (oq2.ri (by omega))).mono ?_
        rintro e wc31_25 ⟨vv3, rfl, oq3, bnew⟩
        have bc31_26 : Below w14.heap.size w14 wc31_25 := bc31_24.trans (bnew.mono bc31_24.size)
        have zzwc31_25 := bnew.size
        replace oq1 := oq1.below bnew
        replace oq2 := oq2.below bnew
        replace lg := lg.below bnew lg.lt
        have tl := World.ownsRow.lt oq3
        obtain ⟨aa, kk, rfl⟩ := oq3.form
        clear hHeld bnew hgo
        refine hKK.out _ _ (unhide K _ bc31_26) (fun hHeld => ?_)
        clear hKK KK
        refine take_at (i := 5) (d := 94) (v := ?_) rfl rfl (by kernel_rfl) (by kernel_rfl) (by kernel_rfl) (fun _ _ _ h => h) (Or.inl ⟨by rfl, ?_⟩) (by assumption) ?_
        rotate_left
        · intro w hSw
          try dsimp only at hSw
          go_simp
          try with_reducible rfl
        simp only [Act.put, List.setIfInBounds_toArray, List.set_cons_zero, List.set_cons_succ]
        refine take_at (i := 6) (d := 100) (v := ?_) rfl rfl (by kernel_rfl) (by kernel_rfl) (by kernel_rfl) (fun _ _ _ h => h) (Or.inl ⟨by rfl, ?_⟩) (by assumption) ?_
        rotate_left
        · intro w hSw
          try dsimp only at hSw
          go_simp
          try with_reducible rfl
        simp only [Act.put, List.setIfInBounds_toArray, List.set_cons_zero, List.set_cons_succ]
        refine take_at (i := 7) (d := 101) (v := ?_) rfl rfl (by kernel_rfl) (by kernel_rfl) (by kernel_rfl) (fun _ _ _ h => h) (Or.inl ⟨by rfl, ?_⟩) (by assumption) ?_
        rotate_left
        · intro w hSw
          try dsimp only at hSw
          go_simp
          try with_reducible rfl
        simp only [Act.put, List.setIfInBounds_toArray, List.set_cons_zero, List.set_cons_succ]
        have q0 := lg.cell 0 rfl
        have q1 := lg.cell 1 rfl
        have q2 := lg.cell 2 rfl
        have FG := lg.frozen
        refine ready_at (i := 9) rfl (by kernel_rfl) (fun KK hKK => ?_)
        go_simp
        have bs : Below w14.heap.size w14 (((wc31_25.setCell ⟨wd.heap.size, 0, none⟩ (.int .i64 n1)).setCell ⟨wd.heap.size, 1, none⟩ (.string s1)).setCell ⟨wd.heap.size, 2, none⟩ (.slice aa (x1).length kk)) := (Below.set (Below.set (Below.set bc31_26 _ _ (by omega)) _ _ (by omega)) _ _ (by omega))
        clear hHeld
        refine hKK.out _ _ (unhide K _ bs) (fun hHeld => ?_)
        clear hKK KK
        refine take_at (i := 10) (d := 16) (v := ?_) rfl rfl (by kernel_rfl) (by kernel_rfl) (by kernel_rfl) (fun _ _ _ h => h) (Or.inl ⟨by rfl, ?_⟩) (by assumption) ?_
        rotate_left
        · intro w hSw
          try dsimp only at hSw
          go_simp
          try with_reducible rfl
        simp only [Act.put, List.setIfInBounds_toArray, List.set_cons_zero, List.set_cons_succ]
        clear hHeld
        refine wpAnyH_done (by kernel_rfl) ?_ _
        refine NoPanic.normal ?_
        go_wp2_with fail
        go_meet
        have k3 : Kp wc31_25 (((wc31_25.setCell ⟨wd.heap.size, 0, none⟩ (.int .i64 n1)).setCell ⟨wd.heap.size, 1, none⟩ (.string s1)).setCell ⟨wd.heap.size, 2, none⟩ (.slice aa (x1).length kk)) (fun k => k = wd.heap.size) := ((set_kp _ _ _ _).trans (set_kp _ _ _ _)).trans (set_kp _ _ _ _)
        have ll := lg.lt
        exact ⟨_, _, rfl, rfl, by omega, by simpa using ll, (((lg.set 0 _ rfl).set 1 _ rfl).set 2 _ rfl), (oq3.kp k3 (fun j hj e => by have := tl j hj; omega)).mono (by omega), fun j hj => by have := tl j hj; simp; omega, bs⟩
    case rest =>
      clear K
      obtain ⟨wq31, hwq⟩ : ∃ x, x = wc := ⟨_, rfl⟩
      subst hwq
      obtain ⟨hH, vH, rfl, rfl, gH, eH, H, oH, toH, bb⟩ := hcut
      obtain ⟨aoH, koH, rfl⟩ := oH.form
      have Bwq31 := Bw14.trans (bb.mono Bw14.size)
      have swq31 := bb.size
      replace LA := LA.below bb LA.lt
      replace LB := LB.below bb LB.lt
      replace V := V.below bb V.lt
      replace X := X.below bb X.lt
      replace Y := Y.below bb Y.lt
      replace G := G.below bb G.lt
      replace oV := oV.below bb
      replace oG := oG.below bb
      clear Bw14
      clear bb
      clear IM
      have cH0 := H.cell 0 rfl
      have cH1 := H.cell 1 rfl
      have cH2 := H.cell 2 rfl
      have cV0 := V.cell 0 rfl
      have cV1 := V.cell 1 rfl
      have cV2 := V.cell 2 rfl
      go_wp2_with fail
      refine (unhide EG _ _ _ (oH.ri (by omega)) (oV.ri (by omega))).mono ?_
      rintro _ w15 ⟨rfl, bb⟩
      clear cH0 cH1 cH2 cV0 cV1 cV2
      have Bw15 := Bwq31.trans (bb.mono Bwq31.size)
      have sw15 := bb.size
      replace LA := LA.below bb LA.lt
      replace LB := LB.below bb LB.lt
      replace V := V.below bb V.lt
      replace X := X.below bb X.lt
      replace Y := Y.below bb Y.lt
      replace G := G.below bb G.lt
      replace H := H.below bb H.lt
      replace oV := oV.below bb
      replace oG := oG.below bb
      replace oH := oH.below bb
      clear Bwq31
      clear bb
      have cG0 := G.cell 0 rfl
      have cG1 := G.cell 1 rfl
      have cG2 := G.cell 2 rfl
      go_wp2_with fail
      refine (unhide HD _ _ (oG.ri (by rw [imarks_len]; omega))).mono ?_
      rintro _ w16 ⟨rfl, bb⟩
      clear cG0 cG1 cG2
      have Bw16 := Bw15.trans (bb.mono Bw15.size)
      have sw16 := bb.size
      replace LA := LA.below bb LA.lt
      replace LB := LB.below bb LB.lt
      replace V := V.below bb V.lt
      replace X := X.below bb X.lt
      replace Y := Y.below bb Y.lt
      replace G := G.below bb G.lt
      replace H := H.below bb H.lt
      replace oV := oV.below bb
      replace oG := oG.below bb
      replace oH := oH.below bb
      clear Bw15
      clear bb
      go_wp2
      go_ret
      exact ⟨rfl, Bw16⟩
end Go.Proofs.YtehdchpolgihlaaDoor
