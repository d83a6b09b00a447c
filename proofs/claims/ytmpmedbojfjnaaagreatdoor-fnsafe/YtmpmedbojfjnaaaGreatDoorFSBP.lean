/- seeing: a certificate seen, its lists shared. -/
import Derived.Test.YtmpmedbojfjnaaaGreatDoorFSBC
import Derived.Test.YtmpmedbojfjnaaaGreatDoorFSBE
import Derived.Test.YtmpmedbojfjnaaaGreatDoorFSBF
namespace Go.Proofs.YtmpmedbojfjnaaaGreatDoor
open Go.RowKit
set_option linter.unusedSectionVars false
variable [∀ (a b c d : Int), Decidable (Ok4 a b c d)]
variable [∀ (a b c d : Nat), Decidable (okN a b c d)]
variable [∀ (last : Int) (s : St), Decidable (GoodSt last s)]
variable [∀ (x : T4), Decidable (OkT x)]
variable [∀ (n : Int) (s : List Int), Decidable (OkL n s)]
variable [∀ (n f : Int), Decidable (COk n f)]

set_option maxHeartbeats 16000000 in
set_option maxRecDepth 100000 in
theorem seeing_any (vo lo v : Int) (s : ByteArray) (ua : Option Addr) (na qa : Nat) (d : ByteArray) (v' : Int) (s' : ByteArray) (ub : Option Addr) (nb qb : Nat) (b : Bool) (w : World) (hb : decide (v < v') = b) (hs' : s'.size ≤ 33554432) (hd : d.size ≤ 33554432) (hE : Env w) :
 Calls Tryz.prog 57 #[sv vo lo v s (.slice ua na qa) d, qv v' s' (.slice ub nb qb)] w fun e w' => e = .returned (sv vo (lockOf lo s') (if b = true then v' else v) (if b = true then s' else s) (if b = true then (.slice ub nb qb) else (.slice ua na qa)) (doneOf d s')) ∧ Below w.heap.size w w' := by
 have LA := hide fun p q w' hp hq sp sq => later_at p q v' v w' hp hq sp sq b hb
 have IN := hide fun w' (h : Below w.heap.size w w') => sight_in1 s' w' hs' (hE.below h)
 have VO := hide fun w' (h : Below w.heap.size w w') => implViewOf (upAns s') w' (by have := up_size (s := s'); omega) (hE.below h)
 have SE := hide fun w' (h : Below w.heap.size w w') => implSettles s' w' hs' (hE.below h)
 have EX := hide fun w' (h : Below w.heap.size w w') => implExtends (up2 s') d w' (by have := up2_size (s := s'); omega) hd (hE.below h)
 have hvw := view_le (upAns s')
 have hSN : stN s' = (if stB s' = true then up2 s' else ⟨#[]⟩) := rfl
 rw [hSN] at SE
 clear hSN
 have HD : Hid (doneOf d s' = if (stB s' && extB (up2 s') d) = true then up2 s' else d) := hide rfl
 have hm1 : (if lo < viewAns (upAns s') then viewAns (upAns s') else lo) = lockOf lo s' := rfl
 have hm3 : max lo (viewAns (upAns s')) = lockOf lo s' := by unfold lockOf; split <;> omega
 generalize lockOf lo s' = Lk at *
 generalize doneOf d s' = D at *
 generalize viewAns (upAns s') = vw at *
 generalize upAns s' = u1 at *
 generalize stB s' = g at *
 generalize extB (up2 s') d = x at *
 generalize up2 s' = u2 at *
 clear hE hb
 cases b
 ·simp only [Bool.false_eq_true, if_false] at LA ⊢
  obtain ⟨w0, hw0⟩ : ∃ w0, (((w.alloc (.cells #[.int .i64 vo, .int .i64 lo, .int .i64 v, .string s, .slice ua na qa, .string d] 30)).alloc (.cells #[.int .i64 v', .string s', .slice ub nb qb] 28)).alloc (.cells #[.int .i64 0, .int .i64 0, .int .i64 0, .string ⟨#[]⟩, .slice none 0 0, .string ⟨#[]⟩] 30)) = w0 := ⟨_, rfl⟩
  have Bw0 : Below w.heap.size w w0 := hw0 ▸ (((Below.refl _ _).alloc (Nat.le_refl _) _).alloc (by simp) _).alloc (by simp; omega) _
  have LS : Loc w0 (w.heap.size) #[.int .i64 vo, .int .i64 lo, .int .i64 v, .string s, .slice ua na qa, .string d] := hw0 ▸ ((loc_at (w) _ _ rfl).alloc _).alloc _
  have LQ : Loc w0 (w.heap.size + 1) #[.int .i64 v', .string s', .slice ub nb qb] := hw0 ▸ (loc_at (w.alloc _) _ _ (by simp)).alloc _
  have LZ : Loc w0 (w.heap.size + 1 + 1) #[.int .i64 0, .int .i64 0, .int .i64 0, .string ⟨#[]⟩, .slice none 0 0, .string ⟨#[]⟩] := hw0 ▸ loc_at ((w.alloc _).alloc _) _ _ (by simp)
  have zw0 : w.heap.size + 1 + 1 + 1 ≤ w0.heap.size := by rw [← hw0]; simp
  go_enter Tryz.func57, Tryz.ntmps57
  have P := hide (unhide LA ⟨w.heap.size + 1, 0, none⟩ ⟨w.heap.size, 2, none⟩ w0 (LQ.cell 0 rfl) (LS.cell 2 rfl) rfl rfl)
  clear LA
  have cLS0 := LS.cell 0 rfl
  have cLS1 := LS.cell 1 rfl
  have cLS2 := LS.cell 2 rfl
  have cLS3 := LS.cell 3 rfl
  have cLS4 := LS.cell 4 rfl
  have cLS5 := LS.cell 5 rfl
  have cLQ0 := LQ.cell 0 rfl
  have cLQ1 := LQ.cell 1 rfl
  have cLQ2 := LQ.cell 2 rfl
  go_wp2_with fail
  clear hw0
  refine (unhide P).mono ?_
  rintro _ w1 ⟨rfl, bb⟩
  clear cLS0 cLS1 cLS2 cLS3 cLS4 cLS5 cLQ0 cLQ1 cLQ2
  have Bw1 := Bw0.trans (bb.mono Bw0.size)
  have sw1 := bb.size
  replace LS := LS.below bb LS.lt
  replace LQ := LQ.below bb LQ.lt
  replace LZ := LZ.below bb LZ.lt
  clear Bw0
  clear bb
  clear P
  have cLS0 := LS.cell 0 rfl
  have cLS1 := LS.cell 1 rfl
  have cLS2 := LS.cell 2 rfl
  have cLS3 := LS.cell 3 rfl
  have cLS4 := LS.cell 4 rfl
  have cLS5 := LS.cell 5 rfl
  have cLQ0 := LQ.cell 0 rfl
  have cLQ1 := LQ.cell 1 rfl
  have cLQ2 := LQ.cell 2 rfl
  have fLS := LS.frozen
  go_upto_region 2 with fail
  clear cLS0 cLS1 cLS2 cLS3 cLS4 cLS5 cLQ0 cLQ1 cLQ2
  clear fLS
  obtain ⟨w2, hw2⟩ : ∃ y, (((w1.setCell ⟨w.heap.size, 2, none⟩ (.int .i64 v)).setCell ⟨w.heap.size, 3, none⟩ (.string s)).setCell ⟨w.heap.size, 4, none⟩ (.slice ua na qa)) = y := ⟨_, rfl⟩
  have kN : Kp w1 w2 (fun k => k = w.heap.size) := hw2 ▸ ((set_kp _ _ _ _).trans (set_kp _ _ _ _)).trans (set_kp _ _ _ _)
  replace LS : Loc w2 (w.heap.size) #[.int .i64 vo, .int .i64 lo, .int .i64 v, .string s, .slice ua na qa, .string d] := hw2 ▸ (((LS.set 2 _ rfl).set 3 _ rfl).set 4 _ rfl)
  replace LQ := LQ.kp kN (by omega)
  replace LZ := LZ.kp kN (by omega)
  have Bw2 := Below.kp Bw1 kN Bw1.size (fun k hk => by omega)
  have sw2 := kN.size
  rw [hw2]
  clear hw2 kN Bw1
  have K : Hid (∀ w', Below w2.heap.size w2 w' → (fun w' => (w'.cell? ⟨w.heap.size + 1, 0, none⟩ = some (.int .i64 v') ∧ w'.cell? ⟨w.heap.size + 1, 1, none⟩ = some (.string s') ∧ w'.cell? ⟨w.heap.size + 1, 2, none⟩ = some (.slice ub nb qb))) w') := hide fun w' hb' => ⟨(LQ.below hb' LQ.lt).cell 0 rfl, (LQ.below hb' LQ.lt).cell 1 rfl, (LQ.below hb' LQ.lt).cell 2 rfl⟩
  go_upto_region 2 with fail
  go_cut [18] (fun c wx => c = .int .i64 Lk ∧ Loc wx (w.heap.size) #[.int .i64 vo, .int .i64 Lk, .int .i64 v, .string s, .slice ua na qa, .string d] ∧ Loc wx (w.heap.size + 1) #[.int .i64 v', .string s', .slice ub nb qb] ∧ Loc wx (w.heap.size + 1 + 1) #[.int .i64 0, .int .i64 0, .int .i64 0, .string ⟨#[]⟩, .slice none 0 0, .string ⟨#[]⟩] ∧ w.heap.size ≤ wx.heap.size ∧ w2.heap.size ≤ wx.heap.size ∧ Below w.heap.size w wx)
  case first =>
   refine wp_region_noPanic ?_
   refine wp_region_held_drew (S := fun w' => (w'.cell? ⟨w.heap.size + 1, 0, none⟩ = some (.int .i64 v') ∧ w'.cell? ⟨w.heap.size + 1, 1, none⟩ = some (.string s') ∧ w'.cell? ⟨w.heap.size + 1, 2, none⟩ = some (.slice ub nb qb))) (by kernel_rfl) (unhide K _ (Below.drew (Below.refl _ _))) (fun hHeld => ?_)
   have bd : Below w2.heap.size w2 w2.drew := Below.drew (Below.refl _ _)
   refine tk 0 12 (v := ?_) rfl (hy := .inl ⟨by rfl, ?_⟩) (h := ?_); rotate_left
   ·intro w hSw; (try dsimp only at hSw); go_simp; (try with_reducible rfl)
   simp only [ps]
   refine tk 2 14 (v := ?_) rfl (hy := .inl ⟨by rfl, ?_⟩) (h := ?_); rotate_left
   ·intro w hSw; (try dsimp only at hSw); go_simp; (try with_reducible rfl)
   simp only [ps]
   refine tk 3 15 (v := ?_) rfl (hy := .inl ⟨by rfl, ?_⟩) (h := ?_); rotate_left
   ·intro w hSw; (try dsimp only at hSw); go_simp; (try with_reducible rfl)
   simp only [ps]
   refine wpAnyH_ready (rs := [1, 4]) (by kernel_rfl) (by simp) (AllReadyH.cons rfl (fun KK hKK => ?_) (AllReadyH.cons rfl (fun KK hKK => ?_) AllReadyH.nil))
   ·have lg := LS.below bd LS.lt
    have q0 := lg.cell 0 rfl
    have q1 := lg.cell 1 rfl
    have q2 := lg.cell 2 rfl
    have q3 := lg.cell 3 rfl
    have q4 := lg.cell 4 rfl
    have q5 := lg.cell 5 rfl
    go_simp
    clear lg q0 q1 q2 q3 q4 q5
    clear hHeld
    refine hKK.out _ _ (unhide K _ bd) (fun hHeld => ?_)
    clear hKK KK
    refine ready_at (i := 4) rfl (by kernel_rfl) (fun KK hKK => ?_)
    go_simp
    have hgo := bd
    refine (unhide IN _ (Bw2.trans (hgo.mono Bw2.size))).mono ?_
    rintro e wc2_1 ⟨rfl, bnew⟩
    have bc2_2 : Below w2.heap.size w2 wc2_1 := bd.trans (bnew.mono bd.size)
    clear hHeld bnew hgo
    refine hKK.out _ _ (unhide K _ bc2_2) (fun hHeld => ?_)
    clear hKK KK
    refine ready_at (i := 5) rfl (by kernel_rfl) (fun KK hKK => ?_)
    go_simp
    have hgo := bc2_2
    refine (unhide VO _ (Bw2.trans (hgo.mono Bw2.size))).mono ?_
    rintro e wc2_3 ⟨rfl, bnew⟩
    have bc2_4 : Below w2.heap.size w2 wc2_3 := bc2_2.trans (bnew.mono bc2_2.size)
    clear hHeld bnew hgo
    refine hKK.out _ _ (unhide K _ bc2_4) (fun hHeld => ?_)
    clear hKK KK
    refine tk 6 18 (v := ?_) rfl (hy := .inl ⟨by rfl, ?_⟩) (h := ?_); rotate_left
    ·intro w hSw; (try dsimp only at hSw); go_simp; (try with_reducible rfl)
    simp only [ps]
    refine tk 7 19 (v := ?_) rfl (hy := .inl ⟨by rfl, ?_⟩) (h := ?_); rotate_left
    ·intro w hSw; (try dsimp only at hSw); go_simp; (try with_reducible rfl)
    simp only [ps]
    have lg := LS.below bc2_4 LS.lt
    have q0 := lg.cell 0 rfl
    have q1 := lg.cell 1 rfl
    have q2 := lg.cell 2 rfl
    have q3 := lg.cell 3 rfl
    have q4 := lg.cell 4 rfl
    have q5 := lg.cell 5 rfl
    have FG := lg.frozen
    refine ready_at (i := 8) rfl (by kernel_rfl) (fun KK hKK => ?_)
    go_simp
    have ks : Kp (wc2_3) (wc2_3.setCell ⟨w.heap.size, 1, none⟩ (.int .i64 Lk)) (fun k => k = w.heap.size) := set_kp _ _ _ _
    have ls : Loc (wc2_3.setCell ⟨w.heap.size, 1, none⟩ (.int .i64 Lk)) (w.heap.size) #[.int .i64 vo, .int .i64 Lk, .int .i64 v, .string s, .slice ua na qa, .string d] := (lg.set 1 _ rfl)
    have lLQ := (LQ.below bc2_4 LQ.lt).kp ks (by omega)
    have lLZ := (LZ.below bc2_4 LZ.lt).kp ks (by omega)
    have bs := Below.kp (Bw2.trans (bc2_4.mono Bw2.size)) ks (Bw2.trans (bc2_4.mono Bw2.size)).size (fun k hk => by omega)
    have zs1 : w2.heap.size ≤ ((wc2_3.setCell ⟨w.heap.size, 1, none⟩ (.int .i64 Lk))).heap.size := Nat.le_trans bc2_4.size ks.size
    clear hHeld lg FG ks q0 q1 q2 q3 q4 q5
    refine hKK.out _ _ ⟨(lLQ).cell 0 rfl, (lLQ).cell 1 rfl, (lLQ).cell 2 rfl⟩ (fun hHeld => ?_)
    clear hKK KK
    clear hHeld
    refine wpAnyH_done (by kernel_rfl) ?_ _
    refine NoPanic.normal ?_
    go_wp2_with fail
    go_meet
    exact ⟨rfl, ls, lLQ, lLZ, Nat.le_trans Bw2.size zs1, zs1, bs⟩
   ·go_simp
    have hgo := bd
    refine (unhide IN _ (Bw2.trans (hgo.mono Bw2.size))).mono ?_
    rintro e wc2_5 ⟨rfl, bnew⟩
    have bc2_6 : Below w2.heap.size w2 wc2_5 := bd.trans (bnew.mono bd.size)
    clear hHeld bnew hgo
    refine hKK.out _ _ (unhide K _ bc2_6) (fun hHeld => ?_)
    clear hKK KK
    refine wpAnyH_ready (rs := [1, 5]) (by kernel_rfl) (by simp) (AllReadyH.cons rfl (fun KK hKK => ?_) (AllReadyH.cons rfl (fun KK hKK => ?_) AllReadyH.nil))
    ·have lg := LS.below bc2_6 LS.lt
     have q0 := lg.cell 0 rfl
     have q1 := lg.cell 1 rfl
     have q2 := lg.cell 2 rfl
     have q3 := lg.cell 3 rfl
     have q4 := lg.cell 4 rfl
     have q5 := lg.cell 5 rfl
     go_simp
     clear lg q0 q1 q2 q3 q4 q5
     clear hHeld
     refine hKK.out _ _ (unhide K _ bc2_6) (fun hHeld => ?_)
     clear hKK KK
     refine ready_at (i := 5) rfl (by kernel_rfl) (fun KK hKK => ?_)
     go_simp
     have hgo := bc2_6
     refine (unhide VO _ (Bw2.trans (hgo.mono Bw2.size))).mono ?_
     rintro e wc2_7 ⟨rfl, bnew⟩
     have bc2_8 : Below w2.heap.size w2 wc2_7 := bc2_6.trans (bnew.mono bc2_6.size)
     clear hHeld bnew hgo
     refine hKK.out _ _ (unhide K _ bc2_8) (fun hHeld => ?_)
     clear hKK KK
     refine tk 6 18 (v := ?_) rfl (hy := .inl ⟨by rfl, ?_⟩) (h := ?_); rotate_left
     ·intro w hSw; (try dsimp only at hSw); go_simp; (try with_reducible rfl)
     simp only [ps]
     refine tk 7 19 (v := ?_) rfl (hy := .inl ⟨by rfl, ?_⟩) (h := ?_); rotate_left
     ·intro w hSw; (try dsimp only at hSw); go_simp; (try with_reducible rfl)
     simp only [ps]
     have lg := LS.below bc2_8 LS.lt
     have q0 := lg.cell 0 rfl
     have q1 := lg.cell 1 rfl
     have q2 := lg.cell 2 rfl
     have q3 := lg.cell 3 rfl
     have q4 := lg.cell 4 rfl
     have q5 := lg.cell 5 rfl
     have FG := lg.frozen
     refine ready_at (i := 8) rfl (by kernel_rfl) (fun KK hKK => ?_)
     go_simp
     have ks : Kp (wc2_7) (wc2_7.setCell ⟨w.heap.size, 1, none⟩ (.int .i64 Lk)) (fun k => k = w.heap.size) := set_kp _ _ _ _
     have ls : Loc (wc2_7.setCell ⟨w.heap.size, 1, none⟩ (.int .i64 Lk)) (w.heap.size) #[.int .i64 vo, .int .i64 Lk, .int .i64 v, .string s, .slice ua na qa, .string d] := (lg.set 1 _ rfl)
     have lLQ := (LQ.below bc2_8 LQ.lt).kp ks (by omega)
     have lLZ := (LZ.below bc2_8 LZ.lt).kp ks (by omega)
     have bs := Below.kp (Bw2.trans (bc2_8.mono Bw2.size)) ks (Bw2.trans (bc2_8.mono Bw2.size)).size (fun k hk => by omega)
     have zs1 : w2.heap.size ≤ ((wc2_7.setCell ⟨w.heap.size, 1, none⟩ (.int .i64 Lk))).heap.size := Nat.le_trans bc2_8.size ks.size
     clear hHeld lg FG ks q0 q1 q2 q3 q4 q5
     refine hKK.out _ _ ⟨(lLQ).cell 0 rfl, (lLQ).cell 1 rfl, (lLQ).cell 2 rfl⟩ (fun hHeld => ?_)
     clear hKK KK
     clear hHeld
     refine wpAnyH_done (by kernel_rfl) ?_ _
     refine NoPanic.normal ?_
     go_wp2_with fail
     go_meet
     exact ⟨rfl, ls, lLQ, lLZ, Nat.le_trans Bw2.size zs1, zs1, bs⟩
    ·go_simp
     have hgo := bc2_6
     refine (unhide VO _ (Bw2.trans (hgo.mono Bw2.size))).mono ?_
     rintro e wc2_9 ⟨rfl, bnew⟩
     have bc2_10 : Below w2.heap.size w2 wc2_9 := bc2_6.trans (bnew.mono bc2_6.size)
     clear hHeld bnew hgo
     refine hKK.out _ _ (unhide K _ bc2_10) (fun hHeld => ?_)
     clear hKK KK
     have lg := LS.below bc2_10 LS.lt
     have q0 := lg.cell 0 rfl
     have q1 := lg.cell 1 rfl
     have q2 := lg.cell 2 rfl
     have q3 := lg.cell 3 rfl
     have q4 := lg.cell 4 rfl
     have q5 := lg.cell 5 rfl
     refine ready_at (i := 1) rfl (by kernel_rfl) (fun KK hKK => ?_)
     go_simp
     clear lg q0 q1 q2 q3 q4 q5
     clear hHeld
     refine hKK.out _ _ (unhide K _ bc2_10) (fun hHeld => ?_)
     clear hKK KK
     refine tk 6 18 (v := ?_) rfl (hy := .inl ⟨by rfl, ?_⟩) (h := ?_); rotate_left
     ·intro w hSw; (try dsimp only at hSw); go_simp; (try with_reducible rfl)
     simp only [ps]
     refine tk 7 19 (v := ?_) rfl (hy := .inl ⟨by rfl, ?_⟩) (h := ?_); rotate_left
     ·intro w hSw; (try dsimp only at hSw); go_simp; (try with_reducible rfl)
     simp only [ps]
     have lg := LS.below bc2_10 LS.lt
     have q0 := lg.cell 0 rfl
     have q1 := lg.cell 1 rfl
     have q2 := lg.cell 2 rfl
     have q3 := lg.cell 3 rfl
     have q4 := lg.cell 4 rfl
     have q5 := lg.cell 5 rfl
     have FG := lg.frozen
     refine ready_at (i := 8) rfl (by kernel_rfl) (fun KK hKK => ?_)
     go_simp
     have ks : Kp (wc2_9) (wc2_9.setCell ⟨w.heap.size, 1, none⟩ (.int .i64 Lk)) (fun k => k = w.heap.size) := set_kp _ _ _ _
     have ls : Loc (wc2_9.setCell ⟨w.heap.size, 1, none⟩ (.int .i64 Lk)) (w.heap.size) #[.int .i64 vo, .int .i64 Lk, .int .i64 v, .string s, .slice ua na qa, .string d] := (lg.set 1 _ rfl)
     have lLQ := (LQ.below bc2_10 LQ.lt).kp ks (by omega)
     have lLZ := (LZ.below bc2_10 LZ.lt).kp ks (by omega)
     have bs := Below.kp (Bw2.trans (bc2_10.mono Bw2.size)) ks (Bw2.trans (bc2_10.mono Bw2.size)).size (fun k hk => by omega)
     have zs1 : w2.heap.size ≤ ((wc2_9.setCell ⟨w.heap.size, 1, none⟩ (.int .i64 Lk))).heap.size := Nat.le_trans bc2_10.size ks.size
     clear hHeld lg FG ks q0 q1 q2 q3 q4 q5
     refine hKK.out _ _ ⟨(lLQ).cell 0 rfl, (lLQ).cell 1 rfl, (lLQ).cell 2 rfl⟩ (fun hHeld => ?_)
     clear hKK KK
     clear hHeld
     refine wpAnyH_done (by kernel_rfl) ?_ _
     refine NoPanic.normal ?_
     go_wp2_with fail
     go_meet
     exact ⟨rfl, ls, lLQ, lLZ, Nat.le_trans Bw2.size zs1, zs1, bs⟩
  case rest =>
   clear K
   obtain ⟨w3, hwq⟩ : ∃ x, x = wc := ⟨_, rfl⟩
   subst hwq
   clear Bw2 LS LQ LZ
   obtain ⟨rfl, LS, LQ, LZ, zzw3, sw3, Bw3⟩ := hcut
   clear IN VO hm1 hm3
   cases g
   ·simp only [Bool.false_eq_true, if_false] at SE
    have eD : D = d := by rw [unhide HD]; rfl
    subst eD
    clear HD EX
    have cLQ0 := LQ.cell 0 rfl
    have cLQ1 := LQ.cell 1 rfl
    have cLQ2 := LQ.cell 2 rfl
    go_wp2_with fail
    refine (unhide SE _ Bw3).mono ?_
    rintro _ w4 ⟨rfl, bb⟩
    clear cLQ0 cLQ1 cLQ2
    have Bw4 := Bw3.trans (bb.mono Bw3.size)
    have sw4 := bb.size
    replace LS := LS.below bb LS.lt
    replace LQ := LQ.below bb LQ.lt
    replace LZ := LZ.below bb LZ.lt
    clear Bw3
    clear bb
    clear SE
    have K6 := kp6 w4 (w.heap.size + 1 + 1) (.int .i64 vo) (.int .i64 Lk) (.int .i64 v) (.string s) (.slice ua na qa) (.string D)
    have cLZ0 := LZ.cell 0 rfl
    have cLZ1 := LZ.cell 1 rfl
    have cLZ2 := LZ.cell 2 rfl
    have cLZ3 := LZ.cell 3 rfl
    have cLZ4 := LZ.cell 4 rfl
    have cLZ5 := LZ.cell 5 rfl
    have cLS0 := LS.cell 0 rfl
    have cLS1 := LS.cell 1 rfl
    have cLS2 := LS.cell 2 rfl
    have cLS3 := LS.cell 3 rfl
    have cLS4 := LS.cell 4 rfl
    have cLS5 := LS.cell 5 rfl
    have fLZ := LZ.frozen
    go_wp2
    refine bodyPost_ret (v := sv vo Lk v s (.slice ua na qa) D) (by simp [results, Tryz.results57, go_sem, cLZ0, cLZ1, cLZ2, cLZ3, cLZ4, cLZ5]) rfl ?_
    exact ⟨rfl, Below.kp Bw4 K6 Bw4.size (fun k hk => by omega)⟩
   ·simp only [if_true] at SE
    have cLQ0 := LQ.cell 0 rfl
    have cLQ1 := LQ.cell 1 rfl
    have cLQ2 := LQ.cell 2 rfl
    go_wp2_with fail
    refine (unhide SE _ Bw3).mono ?_
    rintro _ w4 ⟨rfl, bb⟩
    clear cLQ0 cLQ1 cLQ2
    have Bw4 := Bw3.trans (bb.mono Bw3.size)
    have sw4 := bb.size
    replace LS := LS.below bb LS.lt
    replace LQ := LQ.below bb LQ.lt
    replace LZ := LZ.below bb LZ.lt
    clear Bw3
    clear bb
    clear SE
    have cLS0 := LS.cell 0 rfl
    have cLS1 := LS.cell 1 rfl
    have cLS2 := LS.cell 2 rfl
    have cLS3 := LS.cell 3 rfl
    have cLS4 := LS.cell 4 rfl
    have cLS5 := LS.cell 5 rfl
    go_wp2_with fail
    refine (unhide EX _ Bw4).mono ?_
    rintro _ w5 ⟨rfl, bb⟩
    clear cLS0 cLS1 cLS2 cLS3 cLS4 cLS5
    have Bw5 := Bw4.trans (bb.mono Bw4.size)
    have sw5 := bb.size
    replace LS := LS.below bb LS.lt
    replace LQ := LQ.below bb LQ.lt
    replace LZ := LZ.below bb LZ.lt
    clear Bw4
    clear bb
    clear EX
    cases x
    ·have eD : D = d := by rw [unhide HD]; rfl
     subst eD
     clear HD
     have K6 := kp6 w5 (w.heap.size + 1 + 1) (.int .i64 vo) (.int .i64 Lk) (.int .i64 v) (.string s) (.slice ua na qa) (.string D)
     have cLZ0 := LZ.cell 0 rfl
     have cLZ1 := LZ.cell 1 rfl
     have cLZ2 := LZ.cell 2 rfl
     have cLZ3 := LZ.cell 3 rfl
     have cLZ4 := LZ.cell 4 rfl
     have cLZ5 := LZ.cell 5 rfl
     have cLS0 := LS.cell 0 rfl
     have cLS1 := LS.cell 1 rfl
     have cLS2 := LS.cell 2 rfl
     have cLS3 := LS.cell 3 rfl
     have cLS4 := LS.cell 4 rfl
     have cLS5 := LS.cell 5 rfl
     have fLZ := LZ.frozen
     go_wp2
     refine bodyPost_ret (v := sv vo Lk v s (.slice ua na qa) D) (by simp [results, Tryz.results57, go_sem, cLZ0, cLZ1, cLZ2, cLZ3, cLZ4, cLZ5]) rfl ?_
     exact ⟨rfl, Below.kp Bw5 K6 Bw5.size (fun k hk => by omega)⟩
    ·have eD : D = u2 := by rw [unhide HD]; rfl
     subst eD
     clear HD
     have cLS0 := LS.cell 0 rfl
     have cLS1 := LS.cell 1 rfl
     have cLS2 := LS.cell 2 rfl
     have cLS3 := LS.cell 3 rfl
     have cLS4 := LS.cell 4 rfl
     have cLS5 := LS.cell 5 rfl
     have fLS := LS.frozen
     go_upto_region 6 with fail
     clear cLS0 cLS1 cLS2 cLS3 cLS4 cLS5
     clear fLS
     obtain ⟨w6, hw6⟩ : ∃ y, (w5.setCell ⟨w.heap.size, 5, none⟩ (.string D)) = y := ⟨_, rfl⟩
     have kN : Kp w5 w6 (fun k => k = w.heap.size) := hw6 ▸ set_kp _ _ _ _
     replace LS : Loc w6 (w.heap.size) #[.int .i64 vo, .int .i64 Lk, .int .i64 v, .string s, .slice ua na qa, .string D] := hw6 ▸ (LS.set 5 _ rfl)
     replace LQ := LQ.kp kN (by omega)
     replace LZ := LZ.kp kN (by omega)
     have Bw6 := Below.kp Bw5 kN Bw5.size (fun k hk => by omega)
     have sw6 := kN.size
     rw [hw6]
     clear hw6 kN Bw5
     have K6 := kp6 w6 (w.heap.size + 1 + 1) (.int .i64 vo) (.int .i64 Lk) (.int .i64 v) (.string s) (.slice ua na qa) (.string D)
     have cLZ0 := LZ.cell 0 rfl
     have cLZ1 := LZ.cell 1 rfl
     have cLZ2 := LZ.cell 2 rfl
     have cLZ3 := LZ.cell 3 rfl
     have cLZ4 := LZ.cell 4 rfl
     have cLZ5 := LZ.cell 5 rfl
     have cLS0 := LS.cell 0 rfl
     have cLS1 := LS.cell 1 rfl
     have cLS2 := LS.cell 2 rfl
     have cLS3 := LS.cell 3 rfl
     have cLS4 := LS.cell 4 rfl
     have cLS5 := LS.cell 5 rfl
     have fLZ := LZ.frozen
     go_wp2
     refine bodyPost_ret (v := sv vo Lk v s (.slice ua na qa) D) (by simp [results, Tryz.results57, go_sem, cLZ0, cLZ1, cLZ2, cLZ3, cLZ4, cLZ5]) rfl ?_
     exact ⟨rfl, Below.kp Bw6 K6 Bw6.size (fun k hk => by omega)⟩
 ·simp only [if_true] at LA ⊢
  obtain ⟨w0, hw0⟩ : ∃ w0, (((w.alloc (.cells #[.int .i64 vo, .int .i64 lo, .int .i64 v, .string s, .slice ua na qa, .string d] 30)).alloc (.cells #[.int .i64 v', .string s', .slice ub nb qb] 28)).alloc (.cells #[.int .i64 0, .int .i64 0, .int .i64 0, .string ⟨#[]⟩, .slice none 0 0, .string ⟨#[]⟩] 30)) = w0 := ⟨_, rfl⟩
  have Bw0 : Below w.heap.size w w0 := hw0 ▸ (((Below.refl _ _).alloc (Nat.le_refl _) _).alloc (by simp) _).alloc (by simp; omega) _
  have LS : Loc w0 (w.heap.size) #[.int .i64 vo, .int .i64 lo, .int .i64 v, .string s, .slice ua na qa, .string d] := hw0 ▸ ((loc_at (w) _ _ rfl).alloc _).alloc _
  have LQ : Loc w0 (w.heap.size + 1) #[.int .i64 v', .string s', .slice ub nb qb] := hw0 ▸ (loc_at (w.alloc _) _ _ (by simp)).alloc _
  have LZ : Loc w0 (w.heap.size + 1 + 1) #[.int .i64 0, .int .i64 0, .int .i64 0, .string ⟨#[]⟩, .slice none 0 0, .string ⟨#[]⟩] := hw0 ▸ loc_at ((w.alloc _).alloc _) _ _ (by simp)
  have zw0 : w.heap.size + 1 + 1 + 1 ≤ w0.heap.size := by rw [← hw0]; simp
  go_enter Tryz.func57, Tryz.ntmps57
  have P := hide (unhide LA ⟨w.heap.size + 1, 0, none⟩ ⟨w.heap.size, 2, none⟩ w0 (LQ.cell 0 rfl) (LS.cell 2 rfl) rfl rfl)
  clear LA
  have cLS0 := LS.cell 0 rfl
  have cLS1 := LS.cell 1 rfl
  have cLS2 := LS.cell 2 rfl
  have cLS3 := LS.cell 3 rfl
  have cLS4 := LS.cell 4 rfl
  have cLS5 := LS.cell 5 rfl
  have cLQ0 := LQ.cell 0 rfl
  have cLQ1 := LQ.cell 1 rfl
  have cLQ2 := LQ.cell 2 rfl
  go_wp2_with fail
  clear hw0
  refine (unhide P).mono ?_
  rintro _ w1 ⟨rfl, bb⟩
  clear cLS0 cLS1 cLS2 cLS3 cLS4 cLS5 cLQ0 cLQ1 cLQ2
  have Bw1 := Bw0.trans (bb.mono Bw0.size)
  have sw1 := bb.size
  replace LS := LS.below bb LS.lt
  replace LQ := LQ.below bb LQ.lt
  replace LZ := LZ.below bb LZ.lt
  clear Bw0
  clear bb
  clear P
  have cLS0 := LS.cell 0 rfl
  have cLS1 := LS.cell 1 rfl
  have cLS2 := LS.cell 2 rfl
  have cLS3 := LS.cell 3 rfl
  have cLS4 := LS.cell 4 rfl
  have cLS5 := LS.cell 5 rfl
  have cLQ0 := LQ.cell 0 rfl
  have cLQ1 := LQ.cell 1 rfl
  have cLQ2 := LQ.cell 2 rfl
  have fLS := LS.frozen
  go_upto_region 2 with fail
  clear cLS0 cLS1 cLS2 cLS3 cLS4 cLS5 cLQ0 cLQ1 cLQ2
  clear fLS
  obtain ⟨w2, hw2⟩ : ∃ y, (((w1.setCell ⟨w.heap.size, 2, none⟩ (.int .i64 v')).setCell ⟨w.heap.size, 3, none⟩ (.string s')).setCell ⟨w.heap.size, 4, none⟩ (.slice ub nb qb)) = y := ⟨_, rfl⟩
  have kN : Kp w1 w2 (fun k => k = w.heap.size) := hw2 ▸ ((set_kp _ _ _ _).trans (set_kp _ _ _ _)).trans (set_kp _ _ _ _)
  replace LS : Loc w2 (w.heap.size) #[.int .i64 vo, .int .i64 lo, .int .i64 v', .string s', .slice ub nb qb, .string d] := hw2 ▸ (((LS.set 2 _ rfl).set 3 _ rfl).set 4 _ rfl)
  replace LQ := LQ.kp kN (by omega)
  replace LZ := LZ.kp kN (by omega)
  have Bw2 := Below.kp Bw1 kN Bw1.size (fun k hk => by omega)
  have sw2 := kN.size
  rw [hw2]
  clear hw2 kN Bw1
  have K : Hid (∀ w', Below w2.heap.size w2 w' → (fun w' => (w'.cell? ⟨w.heap.size + 1, 0, none⟩ = some (.int .i64 v') ∧ w'.cell? ⟨w.heap.size + 1, 1, none⟩ = some (.string s') ∧ w'.cell? ⟨w.heap.size + 1, 2, none⟩ = some (.slice ub nb qb))) w') := hide fun w' hb' => ⟨(LQ.below hb' LQ.lt).cell 0 rfl, (LQ.below hb' LQ.lt).cell 1 rfl, (LQ.below hb' LQ.lt).cell 2 rfl⟩
  go_upto_region 2 with fail
  go_cut [18] (fun c wx => c = .int .i64 Lk ∧ Loc wx (w.heap.size) #[.int .i64 vo, .int .i64 Lk, .int .i64 v', .string s', .slice ub nb qb, .string d] ∧ Loc wx (w.heap.size + 1) #[.int .i64 v', .string s', .slice ub nb qb] ∧ Loc wx (w.heap.size + 1 + 1) #[.int .i64 0, .int .i64 0, .int .i64 0, .string ⟨#[]⟩, .slice none 0 0, .string ⟨#[]⟩] ∧ w.heap.size ≤ wx.heap.size ∧ w2.heap.size ≤ wx.heap.size ∧ Below w.heap.size w wx)
  case first =>
   refine wp_region_noPanic ?_
   refine wp_region_held_drew (S := fun w' => (w'.cell? ⟨w.heap.size + 1, 0, none⟩ = some (.int .i64 v') ∧ w'.cell? ⟨w.heap.size + 1, 1, none⟩ = some (.string s') ∧ w'.cell? ⟨w.heap.size + 1, 2, none⟩ = some (.slice ub nb qb))) (by kernel_rfl) (unhide K _ (Below.drew (Below.refl _ _))) (fun hHeld => ?_)
   have bd : Below w2.heap.size w2 w2.drew := Below.drew (Below.refl _ _)
   refine tk 0 12 (v := ?_) rfl (hy := .inl ⟨by rfl, ?_⟩) (h := ?_); rotate_left
   ·intro w hSw; (try dsimp only at hSw); go_simp; (try with_reducible rfl)
   simp only [ps]
   refine tk 2 14 (v := ?_) rfl (hy := .inl ⟨by rfl, ?_⟩) (h := ?_); rotate_left
   ·intro w hSw; (try dsimp only at hSw); go_simp; (try with_reducible rfl)
   simp only [ps]
   refine tk 3 15 (v := ?_) rfl (hy := .inl ⟨by rfl, ?_⟩) (h := ?_); rotate_left
   ·intro w hSw; (try dsimp only at hSw); go_simp; (try with_reducible rfl)
   simp only [ps]
   refine wpAnyH_ready (rs := [1, 4]) (by kernel_rfl) (by simp) (AllReadyH.cons rfl (fun KK hKK => ?_) (AllReadyH.cons rfl (fun KK hKK => ?_) AllReadyH.nil))
   ·have lg := LS.below bd LS.lt
    have q0 := lg.cell 0 rfl
    have q1 := lg.cell 1 rfl
    have q2 := lg.cell 2 rfl
    have q3 := lg.cell 3 rfl
    have q4 := lg.cell 4 rfl
    have q5 := lg.cell 5 rfl
    go_simp
    clear lg q0 q1 q2 q3 q4 q5
    clear hHeld
    refine hKK.out _ _ (unhide K _ bd) (fun hHeld => ?_)
    clear hKK KK
    refine ready_at (i := 4) rfl (by kernel_rfl) (fun KK hKK => ?_)
    go_simp
    have hgo := bd
    refine (unhide IN _ (Bw2.trans (hgo.mono Bw2.size))).mono ?_
    rintro e wc2_1 ⟨rfl, bnew⟩
    have bc2_2 : Below w2.heap.size w2 wc2_1 := bd.trans (bnew.mono bd.size)
    clear hHeld bnew hgo
    refine hKK.out _ _ (unhide K _ bc2_2) (fun hHeld => ?_)
    clear hKK KK
    refine ready_at (i := 5) rfl (by kernel_rfl) (fun KK hKK => ?_)
    go_simp
    have hgo := bc2_2
    refine (unhide VO _ (Bw2.trans (hgo.mono Bw2.size))).mono ?_
    rintro e wc2_3 ⟨rfl, bnew⟩
    have bc2_4 : Below w2.heap.size w2 wc2_3 := bc2_2.trans (bnew.mono bc2_2.size)
    clear hHeld bnew hgo
    refine hKK.out _ _ (unhide K _ bc2_4) (fun hHeld => ?_)
    clear hKK KK
    refine tk 6 18 (v := ?_) rfl (hy := .inl ⟨by rfl, ?_⟩) (h := ?_); rotate_left
    ·intro w hSw; (try dsimp only at hSw); go_simp; (try with_reducible rfl)
    simp only [ps]
    refine tk 7 19 (v := ?_) rfl (hy := .inl ⟨by rfl, ?_⟩) (h := ?_); rotate_left
    ·intro w hSw; (try dsimp only at hSw); go_simp; (try with_reducible rfl)
    simp only [ps]
    have lg := LS.below bc2_4 LS.lt
    have q0 := lg.cell 0 rfl
    have q1 := lg.cell 1 rfl
    have q2 := lg.cell 2 rfl
    have q3 := lg.cell 3 rfl
    have q4 := lg.cell 4 rfl
    have q5 := lg.cell 5 rfl
    have FG := lg.frozen
    refine ready_at (i := 8) rfl (by kernel_rfl) (fun KK hKK => ?_)
    go_simp
    have ks : Kp (wc2_3) (wc2_3.setCell ⟨w.heap.size, 1, none⟩ (.int .i64 Lk)) (fun k => k = w.heap.size) := set_kp _ _ _ _
    have ls : Loc (wc2_3.setCell ⟨w.heap.size, 1, none⟩ (.int .i64 Lk)) (w.heap.size) #[.int .i64 vo, .int .i64 Lk, .int .i64 v', .string s', .slice ub nb qb, .string d] := (lg.set 1 _ rfl)
    have lLQ := (LQ.below bc2_4 LQ.lt).kp ks (by omega)
    have lLZ := (LZ.below bc2_4 LZ.lt).kp ks (by omega)
    have bs := Below.kp (Bw2.trans (bc2_4.mono Bw2.size)) ks (Bw2.trans (bc2_4.mono Bw2.size)).size (fun k hk => by omega)
    have zs1 : w2.heap.size ≤ ((wc2_3.setCell ⟨w.heap.size, 1, none⟩ (.int .i64 Lk))).heap.size := Nat.le_trans bc2_4.size ks.size
    clear hHeld lg FG ks q0 q1 q2 q3 q4 q5
    refine hKK.out _ _ ⟨(lLQ).cell 0 rfl, (lLQ).cell 1 rfl, (lLQ).cell 2 rfl⟩ (fun hHeld => ?_)
    clear hKK KK
    clear hHeld
    refine wpAnyH_done (by kernel_rfl) ?_ _
    refine NoPanic.normal ?_
    go_wp2_with fail
    go_meet
    exact ⟨rfl, ls, lLQ, lLZ, Nat.le_trans Bw2.size zs1, zs1, bs⟩
   ·go_simp
    have hgo := bd
    refine (unhide IN _ (Bw2.trans (hgo.mono Bw2.size))).mono ?_
    rintro e wc2_5 ⟨rfl, bnew⟩
    have bc2_6 : Below w2.heap.size w2 wc2_5 := bd.trans (bnew.mono bd.size)
    clear hHeld bnew hgo
    refine hKK.out _ _ (unhide K _ bc2_6) (fun hHeld => ?_)
    clear hKK KK
    refine wpAnyH_ready (rs := [1, 5]) (by kernel_rfl) (by simp) (AllReadyH.cons rfl (fun KK hKK => ?_) (AllReadyH.cons rfl (fun KK hKK => ?_) AllReadyH.nil))
    ·have lg := LS.below bc2_6 LS.lt
     have q0 := lg.cell 0 rfl
     have q1 := lg.cell 1 rfl
     have q2 := lg.cell 2 rfl
     have q3 := lg.cell 3 rfl
     have q4 := lg.cell 4 rfl
     have q5 := lg.cell 5 rfl
     go_simp
     clear lg q0 q1 q2 q3 q4 q5
     clear hHeld
     refine hKK.out _ _ (unhide K _ bc2_6) (fun hHeld => ?_)
     clear hKK KK
     refine ready_at (i := 5) rfl (by kernel_rfl) (fun KK hKK => ?_)
     go_simp
     have hgo := bc2_6
     refine (unhide VO _ (Bw2.trans (hgo.mono Bw2.size))).mono ?_
     rintro e wc2_7 ⟨rfl, bnew⟩
     have bc2_8 : Below w2.heap.size w2 wc2_7 := bc2_6.trans (bnew.mono bc2_6.size)
     clear hHeld bnew hgo
     refine hKK.out _ _ (unhide K _ bc2_8) (fun hHeld => ?_)
     clear hKK KK
     refine tk 6 18 (v := ?_) rfl (hy := .inl ⟨by rfl, ?_⟩) (h := ?_); rotate_left
     ·intro w hSw; (try dsimp only at hSw); go_simp; (try with_reducible rfl)
     simp only [ps]
     refine tk 7 19 (v := ?_) rfl (hy := .inl ⟨by rfl, ?_⟩) (h := ?_); rotate_left
     ·intro w hSw; (try dsimp only at hSw); go_simp; (try with_reducible rfl)
     simp only [ps]
     have lg := LS.below bc2_8 LS.lt
     have q0 := lg.cell 0 rfl
     have q1 := lg.cell 1 rfl
     have q2 := lg.cell 2 rfl
     have q3 := lg.cell 3 rfl
     have q4 := lg.cell 4 rfl
     have q5 := lg.cell 5 rfl
     have FG := lg.frozen
     refine ready_at (i := 8) rfl (by kernel_rfl) (fun KK hKK => ?_)
     go_simp
     have ks : Kp (wc2_7) (wc2_7.setCell ⟨w.heap.size, 1, none⟩ (.int .i64 Lk)) (fun k => k = w.heap.size) := set_kp _ _ _ _
     have ls : Loc (wc2_7.setCell ⟨w.heap.size, 1, none⟩ (.int .i64 Lk)) (w.heap.size) #[.int .i64 vo, .int .i64 Lk, .int .i64 v', .string s', .slice ub nb qb, .string d] := (lg.set 1 _ rfl)
     have lLQ := (LQ.below bc2_8 LQ.lt).kp ks (by omega)
     have lLZ := (LZ.below bc2_8 LZ.lt).kp ks (by omega)
     have bs := Below.kp (Bw2.trans (bc2_8.mono Bw2.size)) ks (Bw2.trans (bc2_8.mono Bw2.size)).size (fun k hk => by omega)
     have zs1 : w2.heap.size ≤ ((wc2_7.setCell ⟨w.heap.size, 1, none⟩ (.int .i64 Lk))).heap.size := Nat.le_trans bc2_8.size ks.size
     clear hHeld lg FG ks q0 q1 q2 q3 q4 q5
     refine hKK.out _ _ ⟨(lLQ).cell 0 rfl, (lLQ).cell 1 rfl, (lLQ).cell 2 rfl⟩ (fun hHeld => ?_)
     clear hKK KK
     clear hHeld
     refine wpAnyH_done (by kernel_rfl) ?_ _
     refine NoPanic.normal ?_
     go_wp2_with fail
     go_meet
     exact ⟨rfl, ls, lLQ, lLZ, Nat.le_trans Bw2.size zs1, zs1, bs⟩
    ·go_simp
     have hgo := bc2_6
     refine (unhide VO _ (Bw2.trans (hgo.mono Bw2.size))).mono ?_
     rintro e wc2_9 ⟨rfl, bnew⟩
     have bc2_10 : Below w2.heap.size w2 wc2_9 := bc2_6.trans (bnew.mono bc2_6.size)
     clear hHeld bnew hgo
     refine hKK.out _ _ (unhide K _ bc2_10) (fun hHeld => ?_)
     clear hKK KK
     have lg := LS.below bc2_10 LS.lt
     have q0 := lg.cell 0 rfl
     have q1 := lg.cell 1 rfl
     have q2 := lg.cell 2 rfl
     have q3 := lg.cell 3 rfl
     have q4 := lg.cell 4 rfl
     have q5 := lg.cell 5 rfl
     refine ready_at (i := 1) rfl (by kernel_rfl) (fun KK hKK => ?_)
     go_simp
     clear lg q0 q1 q2 q3 q4 q5
     clear hHeld
     refine hKK.out _ _ (unhide K _ bc2_10) (fun hHeld => ?_)
     clear hKK KK
     refine tk 6 18 (v := ?_) rfl (hy := .inl ⟨by rfl, ?_⟩) (h := ?_); rotate_left
     ·intro w hSw; (try dsimp only at hSw); go_simp; (try with_reducible rfl)
     simp only [ps]
     refine tk 7 19 (v := ?_) rfl (hy := .inl ⟨by rfl, ?_⟩) (h := ?_); rotate_left
     ·intro w hSw; (try dsimp only at hSw); go_simp; (try with_reducible rfl)
     simp only [ps]
     have lg := LS.below bc2_10 LS.lt
     have q0 := lg.cell 0 rfl
     have q1 := lg.cell 1 rfl
     have q2 := lg.cell 2 rfl
     have q3 := lg.cell 3 rfl
     have q4 := lg.cell 4 rfl
     have q5 := lg.cell 5 rfl
     have FG := lg.frozen
     refine ready_at (i := 8) rfl (by kernel_rfl) (fun KK hKK => ?_)
     go_simp
     have ks : Kp (wc2_9) (wc2_9.setCell ⟨w.heap.size, 1, none⟩ (.int .i64 Lk)) (fun k => k = w.heap.size) := set_kp _ _ _ _
     have ls : Loc (wc2_9.setCell ⟨w.heap.size, 1, none⟩ (.int .i64 Lk)) (w.heap.size) #[.int .i64 vo, .int .i64 Lk, .int .i64 v', .string s', .slice ub nb qb, .string d] := (lg.set 1 _ rfl)
     have lLQ := (LQ.below bc2_10 LQ.lt).kp ks (by omega)
     have lLZ := (LZ.below bc2_10 LZ.lt).kp ks (by omega)
     have bs := Below.kp (Bw2.trans (bc2_10.mono Bw2.size)) ks (Bw2.trans (bc2_10.mono Bw2.size)).size (fun k hk => by omega)
     have zs1 : w2.heap.size ≤ ((wc2_9.setCell ⟨w.heap.size, 1, none⟩ (.int .i64 Lk))).heap.size := Nat.le_trans bc2_10.size ks.size
     clear hHeld lg FG ks q0 q1 q2 q3 q4 q5
     refine hKK.out _ _ ⟨(lLQ).cell 0 rfl, (lLQ).cell 1 rfl, (lLQ).cell 2 rfl⟩ (fun hHeld => ?_)
     clear hKK KK
     clear hHeld
     refine wpAnyH_done (by kernel_rfl) ?_ _
     refine NoPanic.normal ?_
     go_wp2_with fail
     go_meet
     exact ⟨rfl, ls, lLQ, lLZ, Nat.le_trans Bw2.size zs1, zs1, bs⟩
  case rest =>
   clear K
   obtain ⟨w3, hwq⟩ : ∃ x, x = wc := ⟨_, rfl⟩
   subst hwq
   clear Bw2 LS LQ LZ
   obtain ⟨rfl, LS, LQ, LZ, zzw3, sw3, Bw3⟩ := hcut
   clear IN VO hm1 hm3
   cases g
   ·simp only [Bool.false_eq_true, if_false] at SE
    have eD : D = d := by rw [unhide HD]; rfl
    subst eD
    clear HD EX
    have cLQ0 := LQ.cell 0 rfl
    have cLQ1 := LQ.cell 1 rfl
    have cLQ2 := LQ.cell 2 rfl
    go_wp2_with fail
    refine (unhide SE _ Bw3).mono ?_
    rintro _ w4 ⟨rfl, bb⟩
    clear cLQ0 cLQ1 cLQ2
    have Bw4 := Bw3.trans (bb.mono Bw3.size)
    have sw4 := bb.size
    replace LS := LS.below bb LS.lt
    replace LQ := LQ.below bb LQ.lt
    replace LZ := LZ.below bb LZ.lt
    clear Bw3
    clear bb
    clear SE
    have K6 := kp6 w4 (w.heap.size + 1 + 1) (.int .i64 vo) (.int .i64 Lk) (.int .i64 v') (.string s') (.slice ub nb qb) (.string D)
    have cLZ0 := LZ.cell 0 rfl
    have cLZ1 := LZ.cell 1 rfl
    have cLZ2 := LZ.cell 2 rfl
    have cLZ3 := LZ.cell 3 rfl
    have cLZ4 := LZ.cell 4 rfl
    have cLZ5 := LZ.cell 5 rfl
    have cLS0 := LS.cell 0 rfl
    have cLS1 := LS.cell 1 rfl
    have cLS2 := LS.cell 2 rfl
    have cLS3 := LS.cell 3 rfl
    have cLS4 := LS.cell 4 rfl
    have cLS5 := LS.cell 5 rfl
    have fLZ := LZ.frozen
    go_wp2
    refine bodyPost_ret (v := sv vo Lk v' s' (.slice ub nb qb) D) (by simp [results, Tryz.results57, go_sem, cLZ0, cLZ1, cLZ2, cLZ3, cLZ4, cLZ5]) rfl ?_
    exact ⟨rfl, Below.kp Bw4 K6 Bw4.size (fun k hk => by omega)⟩
   ·simp only [if_true] at SE
    have cLQ0 := LQ.cell 0 rfl
    have cLQ1 := LQ.cell 1 rfl
    have cLQ2 := LQ.cell 2 rfl
    go_wp2_with fail
    refine (unhide SE _ Bw3).mono ?_
    rintro _ w4 ⟨rfl, bb⟩
    clear cLQ0 cLQ1 cLQ2
    have Bw4 := Bw3.trans (bb.mono Bw3.size)
    have sw4 := bb.size
    replace LS := LS.below bb LS.lt
    replace LQ := LQ.below bb LQ.lt
    replace LZ := LZ.below bb LZ.lt
    clear Bw3
    clear bb
    clear SE
    have cLS0 := LS.cell 0 rfl
    have cLS1 := LS.cell 1 rfl
    have cLS2 := LS.cell 2 rfl
    have cLS3 := LS.cell 3 rfl
    have cLS4 := LS.cell 4 rfl
    have cLS5 := LS.cell 5 rfl
    go_wp2_with fail
    refine (unhide EX _ Bw4).mono ?_
    rintro _ w5 ⟨rfl, bb⟩
    clear cLS0 cLS1 cLS2 cLS3 cLS4 cLS5
    have Bw5 := Bw4.trans (bb.mono Bw4.size)
    have sw5 := bb.size
    replace LS := LS.below bb LS.lt
    replace LQ := LQ.below bb LQ.lt
    replace LZ := LZ.below bb LZ.lt
    clear Bw4
    clear bb
    clear EX
    cases x
    ·have eD : D = d := by rw [unhide HD]; rfl
     subst eD
     clear HD
     have K6 := kp6 w5 (w.heap.size + 1 + 1) (.int .i64 vo) (.int .i64 Lk) (.int .i64 v') (.string s') (.slice ub nb qb) (.string D)
     have cLZ0 := LZ.cell 0 rfl
     have cLZ1 := LZ.cell 1 rfl
     have cLZ2 := LZ.cell 2 rfl
     have cLZ3 := LZ.cell 3 rfl
     have cLZ4 := LZ.cell 4 rfl
     have cLZ5 := LZ.cell 5 rfl
     have cLS0 := LS.cell 0 rfl
     have cLS1 := LS.cell 1 rfl
     have cLS2 := LS.cell 2 rfl
     have cLS3 := LS.cell 3 rfl
     have cLS4 := LS.cell 4 rfl
     have cLS5 := LS.cell 5 rfl
     have fLZ := LZ.frozen
     go_wp2
     refine bodyPost_ret (v := sv vo Lk v' s' (.slice ub nb qb) D) (by simp [results, Tryz.results57, go_sem, cLZ0, cLZ1, cLZ2, cLZ3, cLZ4, cLZ5]) rfl ?_
     exact ⟨rfl, Below.kp Bw5 K6 Bw5.size (fun k hk => by omega)⟩
    ·have eD : D = u2 := by rw [unhide HD]; rfl
     subst eD
     clear HD
     have cLS0 := LS.cell 0 rfl
     have cLS1 := LS.cell 1 rfl
     have cLS2 := LS.cell 2 rfl
     have cLS3 := LS.cell 3 rfl
     have cLS4 := LS.cell 4 rfl
     have cLS5 := LS.cell 5 rfl
     have fLS := LS.frozen
     go_upto_region 6 with fail
     clear cLS0 cLS1 cLS2 cLS3 cLS4 cLS5
     clear fLS
     obtain ⟨w6, hw6⟩ : ∃ y, (w5.setCell ⟨w.heap.size, 5, none⟩ (.string D)) = y := ⟨_, rfl⟩
     have kN : Kp w5 w6 (fun k => k = w.heap.size) := hw6 ▸ set_kp _ _ _ _
     replace LS : Loc w6 (w.heap.size) #[.int .i64 vo, .int .i64 Lk, .int .i64 v', .string s', .slice ub nb qb, .string D] := hw6 ▸ (LS.set 5 _ rfl)
     replace LQ := LQ.kp kN (by omega)
     replace LZ := LZ.kp kN (by omega)
     have Bw6 := Below.kp Bw5 kN Bw5.size (fun k hk => by omega)
     have sw6 := kN.size
     rw [hw6]
     clear hw6 kN Bw5
     have K6 := kp6 w6 (w.heap.size + 1 + 1) (.int .i64 vo) (.int .i64 Lk) (.int .i64 v') (.string s') (.slice ub nb qb) (.string D)
     have cLZ0 := LZ.cell 0 rfl
     have cLZ1 := LZ.cell 1 rfl
     have cLZ2 := LZ.cell 2 rfl
     have cLZ3 := LZ.cell 3 rfl
     have cLZ4 := LZ.cell 4 rfl
     have cLZ5 := LZ.cell 5 rfl
     have cLS0 := LS.cell 0 rfl
     have cLS1 := LS.cell 1 rfl
     have cLS2 := LS.cell 2 rfl
     have cLS3 := LS.cell 3 rfl
     have cLS4 := LS.cell 4 rfl
     have cLS5 := LS.cell 5 rfl
     have fLZ := LZ.frozen
     go_wp2
     refine bodyPost_ret (v := sv vo Lk v' s' (.slice ub nb qb) D) (by simp [results, Tryz.results57, go_sem, cLZ0, cLZ1, cLZ2, cLZ3, cLZ4, cLZ5]) rfl ?_
     exact ⟨rfl, Below.kp Bw6 K6 Bw6.size (fun k hk => by omega)⟩
end Go.Proofs.YtmpmedbojfjnaaaGreatDoor
