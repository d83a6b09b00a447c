/- Lemmas; their conditions stand in each statement. -/
import Derived.Test.YtjkcphnohhpihaaGreatDoorPPBI
set_option maxRecDepth 100000
set_option maxHeartbeats 16000000
set_option linter.unusedSectionVars false
namespace Go.Proofs.YtjkcphnohhpihaaGreatDoor
section
open Go.RowKit
variable [∀ (a b c d : Int), Decidable (Ok4 a b c d)]
variable [∀ (a b c d : Nat), Decidable (okN a b c d)]
variable [∀ (x : T4), Decidable (OkT x)]
variable [∀ (last : Int) (s : St), Decidable (GoodSt last s)]
variable [∀ (n f : Int), Decidable (COk n f)]
theorem drawQcV (base g ca : Nat) (ao : Option Addr) (zs : List Int) (n f : Int) (w : World) (hB : base ≤ w.heap.size) (hn0 : 4 ≤ n) (hn1 : n ≤ 7) (h : Cur w base g ao ca zs) :
 Calls Tryz.prog 63 #[.pointer (some ⟨g, 0, none⟩), cv n f] w fun e w' => ∃ (v : Int) (s : ByteArray) (u : Value) (xs : List Int), e = .returned (qv v s u) ∧ (-1 ≤ v ∧ v ≤ 61) ∧ s.size ≤ 8001 ∧ xs.length ≤ 9 ∧ Hid (WfL xs) ∧ OI w' w.heap.size u xs ∧ Cur w' base g ao ca zs ∧ w.grownBy w' (some g) := by
 have hlt:=h.lt
 obtain ⟨w0, hw0⟩ : ∃ w0, (w.alloc (.cells #[.int .i64 n,.int .i64 f] 33)).alloc zq = w0:=⟨_, rfl⟩
 have B0 : Below w.heap.size w w0:=hw0 ▸ qalloc2 _ _ _
 have V0 : Loc w0 w.heap.size #[.int .i64 n,.int .i64 f]:=hw0 ▸ (loc_at w _ _ rfl).alloc _
 have Z0 : Loc w0 (w.heap.size + 1) #[.int .i64 0,.string ⟨#[]⟩,.slice none 0 0]:=hw0 ▸ loc_at (w.alloc _) _ _ (by simp)
 have s0 : w0.heap.size = w.heap.size + 1 + 1:=by rw [← hw0]; simp
 have C0:=h.below hB B0
 have G0 : w.grownBy w0 (some g):=grown_below B0 (some g)
 clear h B0
 go_enter Tryz.func63, Tryz.ntmps63
 go_upto_region 1 with fail
 clear hw0
 go_cut [5] (fun c wx => ∃ (h : Nat) (v : Value) (s : ByteArray) (xs : List Int), c = .pointer (some ⟨h, 0, none⟩) ∧ w.heap.size + 1 + 1 ≤ h ∧ h < wx.heap.size ∧ Loc wx h #[.int .i64 (viewAns s),.string s, v] ∧ OI wx (w.heap.size + 1 + 1) v xs ∧ (∀ j, v.ownBlock = some j → j ≠ h) ∧ xs.length ≤ 7 ∧ Hid (WfL xs) ∧ s.size ≤ 1920 ∧ Loc wx (w.heap.size + 1) #[.int .i64 0,.string ⟨#[]⟩,.slice none 0 0] ∧ Cur wx base g ao ca zs ∧ w.grownBy wx (some g))
 case first =>
  refine wp_region_noPanic ?_
  refine wp_region_held_drew (S := fun w' => w'.cell? ⟨w.heap.size, 0, none⟩ = some (.int .i64 n) ∧ w'.cell? ⟨w.heap.size, 1, none⟩ = some (.int .i64 f)) (by kernel_rfl) ⟨(V0.cell 0 rfl), (V0.cell 1 rfl)⟩ (fun hHeld => ?_)
  obtain ⟨wd, hd⟩ : ∃ wd, w0.drew = wd:=⟨_, rfl⟩
  have bd : Below w0.heap.size w0 wd:=hd ▸ Below.drew (Below.refl _ _)
  have sd : w.heap.size + 1 + 1 ≤ wd.heap.size:=by rw [← hd]; exact Nat.le_of_eq s0.symm
  have V:=V0.up bd
  have Z:=Z0.up bd
  have C:=C0.below (by omega) bd
  have G:=grown_trans G0 (grown_below bd (some g))
  rw [hd] at hHeld ⊢
  clear hd bd V0 Z0 C0 G0 s0
  refine tx 0 6 ?_
  refine tx 1 7 ?_
  refine tx 2 8 ?_
  refine wpAnyH_ready (rs := [3, 5]) (by kernel_rfl) (by simp) (AllReadyH.cons rfl (fun KK hKK => ?_) (AllReadyH.cons rfl (fun KK hKK => ?_) AllReadyH.nil))
  ·go_simp
   refine (drawNameR base g ca ao zs _ (by omega) C).mono ?_
   rintro e wk1 ⟨s, rfl, hs, c1, e1⟩
   replace V:=V.grown e1 (by omega)
   replace Z:=Z.grown e1 (by omega)
   replace G:=grown_trans G e1
   have zwk1:=e1.size
   replace C:=c1
   clear c1 e1 hHeld
   refine hKK.out _ _ ⟨V.cell 0 rfl, V.cell 1 rfl⟩ (fun hHeld => ?_)
   clear hKK KK
   refine wpAnyH_ready (rs := [4, 5]) (by kernel_rfl) (by simp) (AllReadyH.cons rfl (fun KK hKK => ?_) (AllReadyH.cons rfl (fun KK hKK => ?_) AllReadyH.nil))
   ·go_simp
    refine (drawOf base g ca ao zs n f s _ (by omega) hn0 hn1 (by omega) C).mono ?_
    rintro e wk3 ⟨u, xs, rfl, hx, hw, O, c1, e1⟩
    replace V:=V.grown e1 (by omega)
    replace Z:=Z.grown e1 (by omega)
    replace G:=grown_trans G e1
    have zwk3:=e1.size
    replace C:=c1
    clear c1 e1
    have tow:=World.ownsRow.lt O
    obtain ⟨ua, uc, rfl⟩:=O.form
    clear hHeld
    refine hKK.out _ _ ⟨V.cell 0 rfl, V.cell 1 rfl⟩ (fun hHeld => ?_)
    clear hKK KK
    refine rd 5 rfl (fun KK hKK => ?_)
    go_simp
    obtain ⟨wl5, hwl5⟩ : ∃ y, wk3.alloc (.cells #[.int .i64 0,.string ⟨#[]⟩,.slice none 0 0] 53) = y:=⟨_, rfl⟩
    have ba : Below wk3.heap.size wk3 wl5:=hwl5 ▸ qalloc _ _
    have lg : Loc wl5 wk3.heap.size #[.int .i64 0,.string ⟨#[]⟩,.slice none 0 0]:=hwl5 ▸ loc_at wk3 _ _ rfl
    have zwl5 : wl5.heap.size = wk3.heap.size + 1:=by rw [← hwl5]; simp
    replace V:=V.up ba
    replace Z:=Z.up ba
    replace C:=C.below (by omega) ba
    replace G:=grown_trans G (grown_below ba (some g))
    replace O:=O.below ba
    rw [hwl5]
    clear hwl5 ba hHeld
    refine hKK.out _ _ ⟨V.cell 0 rfl, V.cell 1 rfl⟩ (fun hHeld => ?_)
    clear hKK KK
    have q0:=lg.cell 0 rfl
    have q1:=lg.cell 1 rfl
    have q2:=lg.cell 2 rfl
    have FG:=lg.frozen
    have ll:=lg.lt
    have k3 : Kp wl5 (((wl5.setCell ⟨wk3.heap.size, 0, none⟩ (.int .i64 (viewAns s))).setCell ⟨wk3.heap.size, 1, none⟩ (.string s)).setCell ⟨wk3.heap.size, 2, none⟩ (.slice ua xs.length uc)) (fun k => k = wk3.heap.size):=((set_kp _ _ _ _).trans (set_kp _ _ _ _)).trans (set_kp _ _ _ _)
    have V3:=V.kp k3 (by omega)
    have Z3:=Z.kp k3 (by omega)
    refine rd 6 rfl (fun KK hKK => ?_)
    go_simp
    clear hHeld
    refine hKK.out _ _ ⟨V3.cell 0 rfl, V3.cell 1 rfl⟩ (fun hHeld => ?_)
    clear hKK KK hHeld
    refine wdn ?_
    go_wp2_with fail
    go_meet
    exact ⟨_, _, s, xs, rfl, by omega, by simpa using ll, ((lg.set 0 _ rfl).set 1 _ rfl).set 2 _ rfl, (O.kp k3 (fun j hj e => by have := tow j hj; omega)).mono (by omega), fun j hj => by have := tow j hj; omega, hx, hw, hs, Z3, ((C.set (by omega) _ _).set (by omega) _ _).set (by omega) _ _, grown_set (grown_set (grown_set G (by omega) _ _) (by omega) _ _) (by omega) _ _⟩
   go_simp
   obtain ⟨wl4, hwl4⟩ : ∃ y, wk1.alloc (.cells #[.int .i64 0,.string ⟨#[]⟩,.slice none 0 0] 53) = y:=⟨_, rfl⟩
   have ba : Below wk1.heap.size wk1 wl4:=hwl4 ▸ qalloc _ _
   have lg : Loc wl4 wk1.heap.size #[.int .i64 0,.string ⟨#[]⟩,.slice none 0 0]:=hwl4 ▸ loc_at wk1 _ _ rfl
   have zwl4 : wl4.heap.size = wk1.heap.size + 1:=by rw [← hwl4]; simp
   replace V:=V.up ba
   replace Z:=Z.up ba
   replace C:=C.below (by omega) ba
   replace G:=grown_trans G (grown_below ba (some g))
   rw [hwl4]
   clear hwl4 ba hHeld
   refine hKK.out _ _ ⟨V.cell 0 rfl, V.cell 1 rfl⟩ (fun hHeld => ?_)
   clear hKK KK
   refine rd 4 rfl (fun KK hKK => ?_)
   go_simp
   refine (drawOf base g ca ao zs n f s _ (by omega) hn0 hn1 (by omega) C).mono ?_
   rintro e wk6 ⟨u, xs, rfl, hx, hw, O, c1, e1⟩
   replace V:=V.grown e1 (by omega)
   replace Z:=Z.grown e1 (by omega)
   replace G:=grown_trans G e1
   have zwk6:=e1.size
   replace lg:=lg.grown e1 (by omega)
   replace C:=c1
   clear c1 e1
   have tow:=World.ownsRow.lt O
   obtain ⟨ua, uc, rfl⟩:=O.form
   clear hHeld
   refine hKK.out _ _ ⟨V.cell 0 rfl, V.cell 1 rfl⟩ (fun hHeld => ?_)
   clear hKK KK
   have q0:=lg.cell 0 rfl
   have q1:=lg.cell 1 rfl
   have q2:=lg.cell 2 rfl
   have FG:=lg.frozen
   have ll:=lg.lt
   have k3 : Kp wk6 (((wk6.setCell ⟨wk1.heap.size, 0, none⟩ (.int .i64 (viewAns s))).setCell ⟨wk1.heap.size, 1, none⟩ (.string s)).setCell ⟨wk1.heap.size, 2, none⟩ (.slice ua xs.length uc)) (fun k => k = wk1.heap.size):=((set_kp _ _ _ _).trans (set_kp _ _ _ _)).trans (set_kp _ _ _ _)
   have V3:=V.kp k3 (by omega)
   have Z3:=Z.kp k3 (by omega)
   refine rd 6 rfl (fun KK hKK => ?_)
   go_simp
   clear hHeld
   refine hKK.out _ _ ⟨V3.cell 0 rfl, V3.cell 1 rfl⟩ (fun hHeld => ?_)
   clear hKK KK hHeld
   refine wdn ?_
   go_wp2_with fail
   go_meet
   exact ⟨_, _, s, xs, rfl, by omega, by simpa using ll, ((lg.set 0 _ rfl).set 1 _ rfl).set 2 _ rfl, (O.kp k3 (fun j hj e => by have := tow j hj; omega)).mono (by omega), fun j hj => by have := tow j hj; omega, hx, hw, hs, Z3, ((C.set (by omega) _ _).set (by omega) _ _).set (by omega) _ _, grown_set (grown_set (grown_set G (by omega) _ _) (by omega) _ _) (by omega) _ _⟩
  go_simp
  obtain ⟨wl2, hwl2⟩ : ∃ y, wd.alloc (.cells #[.int .i64 0,.string ⟨#[]⟩,.slice none 0 0] 53) = y:=⟨_, rfl⟩
  have ba : Below wd.heap.size wd wl2:=hwl2 ▸ qalloc _ _
  have lg : Loc wl2 wd.heap.size #[.int .i64 0,.string ⟨#[]⟩,.slice none 0 0]:=hwl2 ▸ loc_at wd _ _ rfl
  have zwl2 : wl2.heap.size = wd.heap.size + 1:=by rw [← hwl2]; simp
  replace V:=V.up ba
  replace Z:=Z.up ba
  replace C:=C.below (by omega) ba
  replace G:=grown_trans G (grown_below ba (some g))
  rw [hwl2]
  clear hwl2 ba hHeld
  refine hKK.out _ _ ⟨V.cell 0 rfl, V.cell 1 rfl⟩ (fun hHeld => ?_)
  clear hKK KK
  refine rd 3 rfl (fun KK hKK => ?_)
  go_simp
  refine (drawNameR base g ca ao zs _ (by omega) C).mono ?_
  rintro e wk7 ⟨s, rfl, hs, c1, e1⟩
  replace V:=V.grown e1 (by omega)
  replace Z:=Z.grown e1 (by omega)
  replace G:=grown_trans G e1
  have zwk7:=e1.size
  replace lg:=lg.grown e1 (by omega)
  replace C:=c1
  clear c1 e1 hHeld
  refine hKK.out _ _ ⟨V.cell 0 rfl, V.cell 1 rfl⟩ (fun hHeld => ?_)
  clear hKK KK
  refine rd 4 rfl (fun KK hKK => ?_)
  go_simp
  refine (drawOf base g ca ao zs n f s _ (by omega) hn0 hn1 (by omega) C).mono ?_
  rintro e wk8 ⟨u, xs, rfl, hx, hw, O, c1, e1⟩
  replace V:=V.grown e1 (by omega)
  replace Z:=Z.grown e1 (by omega)
  replace G:=grown_trans G e1
  have zwk8:=e1.size
  replace lg:=lg.grown e1 (by omega)
  replace C:=c1
  clear c1 e1
  have tow:=World.ownsRow.lt O
  obtain ⟨ua, uc, rfl⟩:=O.form
  clear hHeld
  refine hKK.out _ _ ⟨V.cell 0 rfl, V.cell 1 rfl⟩ (fun hHeld => ?_)
  clear hKK KK
  have q0:=lg.cell 0 rfl
  have q1:=lg.cell 1 rfl
  have q2:=lg.cell 2 rfl
  have FG:=lg.frozen
  have ll:=lg.lt
  have k3 : Kp wk8 (((wk8.setCell ⟨wd.heap.size, 0, none⟩ (.int .i64 (viewAns s))).setCell ⟨wd.heap.size, 1, none⟩ (.string s)).setCell ⟨wd.heap.size, 2, none⟩ (.slice ua xs.length uc)) (fun k => k = wd.heap.size):=((set_kp _ _ _ _).trans (set_kp _ _ _ _)).trans (set_kp _ _ _ _)
  have V3:=V.kp k3 (by omega)
  have Z3:=Z.kp k3 (by omega)
  refine rd 6 rfl (fun KK hKK => ?_)
  go_simp
  clear hHeld
  refine hKK.out _ _ ⟨V3.cell 0 rfl, V3.cell 1 rfl⟩ (fun hHeld => ?_)
  clear hKK KK hHeld
  refine wdn ?_
  go_wp2_with fail
  go_meet
  exact ⟨_, _, s, xs, rfl, by omega, by simpa using ll, ((lg.set 0 _ rfl).set 1 _ rfl).set 2 _ rfl, (O.kp k3 (fun j hj e => by have := tow j hj; omega)).mono (by omega), fun j hj => by have := tow j hj; omega, hx, hw, hs, Z3, ((C.set (by omega) _ _).set (by omega) _ _).set (by omega) _ _, grown_set (grown_set (grown_set G (by omega) _ _) (by omega) _ _) (by omega) _ _⟩
 case rest =>
 obtain ⟨x, v1, s, xs, rfl, hx, hxl, X, O, hne, hl, hw, hs, Z, C, G⟩:=hcut
 obtain ⟨ua, uc, rfl⟩:=O.form
 have hsz:=G.size
 have hv:=view_fit s
 generalize viewAns s = v at *
 obtain ⟨hv0, hv1⟩:=hv
 obtain ⟨m, hm⟩ : ∃ m, xs.length = m:=⟨_, rfl⟩
 rw [hm] at X O hl hne
 have FI : Hid (∀ (v : Int) (s : ByteArray) (u : Value) (xs : List Int) (w' : World), (-1 ≤ v ∧ v ≤ 61) → s.size ≤ 8001 → xs.length ≤ 9 → Hid (WfL xs) → OI w' (w.heap.size + 1 + 1) u xs → Cur w' base g ao ca zs → w.grownBy w' (some g) →
  (-1 ≤ v ∧ v ≤ 61) ∧ s.size ≤ 8001 ∧ xs.length ≤ 9 ∧ Hid (WfL xs) ∧ OI (((w'.setCell ⟨w.heap.size + 1, 0, none⟩ (.int .i64 v)).setCell ⟨w.heap.size + 1, 1, none⟩ (.string s)).setCell ⟨w.heap.size + 1, 2, none⟩ u) w.heap.size u xs ∧ Cur (((w'.setCell ⟨w.heap.size + 1, 0, none⟩ (.int .i64 v)).setCell ⟨w.heap.size + 1, 1, none⟩ (.string s)).setCell ⟨w.heap.size + 1, 2, none⟩ u) base g ao ca zs ∧ w.grownBy (((w'.setCell ⟨w.heap.size + 1, 0, none⟩ (.int .i64 v)).setCell ⟨w.heap.size + 1, 1, none⟩ (.string s)).setCell ⟨w.heap.size + 1, 2, none⟩ u) (some g)) := hide fun v s u xs w' hb h0 h1 h2 h3 h4 h5 => by
  have lt3:=World.ownsRow.lt h3
  have K5 : Kp w' (((w'.setCell ⟨w.heap.size + 1, 0, none⟩ (.int .i64 v)).setCell ⟨w.heap.size + 1, 1, none⟩ (.string s)).setCell ⟨w.heap.size + 1, 2, none⟩ u) (fun k => k = w.heap.size + 1):=((set_kp _ _ _ _).trans (set_kp _ _ _ _)).trans (set_kp _ _ _ _)
  exact ⟨hb, h0, h1, h2, (h3.kp K5 (fun k hk e => by have := lt3 k hk; omega)).mono (by omega), ((h4.set (by omega) _ _).set (by omega) _ _).set (by omega) _ _, grown_set (grown_set (grown_set h5 (by omega) _ _) (by omega) _ _) (by omega) _ _⟩
 have HW:=hw
 clear hw
 go_wp2_with fail
 refine (below_any base g ca ao zs 12 _ (by omega) (by omega) (by omega) C).mono ?_
 rintro e w3 ⟨k, rfl, k0, k1, c3, e3⟩
 have X3:=X.grown e3 (by omega)
 have Z3:=Z.grown e3 (by omega)
 have O3 : OI w3 (w.heap.size + 1 + 1) (.slice ua m uc) xs:=O.drawn e3 (by omega)
 have G3:=grown_trans G e3
 have s3:=e3.size
 have x3:=X3.lt
 clear X Z O C G e3
 by_cases h0 : k = 0
 ·subst h0
  have X4:=X3.set 0 (.int .i64 (v + 1)) (cs':=#[.int .i64 (v + 1),.string s,.slice ua m uc]) rfl
  have Z4:=Z3.other (p:=⟨x, 0, none⟩) (by show w.heap.size + 1 ≠ x; omega) (.int .i64 (v + 1))
  have O4:=O3.kp (set_kp w3 x 0 (.int .i64 (v + 1))) (fun j hj e => hne j hj e)
  have C4:=c3.set (r:=x) (by omega) 0 (.int .i64 (v + 1))
  have G4:=grown_set G3 (r:=x) (by omega) 0 (.int .i64 (v + 1))
  have R:=hide (FI.out (v + 1) s (.slice ua m uc) xs _ ⟨by omega, by omega⟩ (by omega) (by omega) HW O4 C4 G4)
  have q0:=X3.cell 0 rfl
  have q1:=X3.cell 1 rfl
  have q2:=X3.cell 2 rfl
  have fq:=X3.frozen
  have y0:=Z3.cell 0 rfl
  have y1:=Z3.cell 1 rfl
  have y2:=Z3.cell 2 rfl
  have fy:=Z3.frozen
  have ne1 : ¬ w.heap.size + 1 = x:=by omega
  have ne2 : ¬ x = w.heap.size + 1:=by omega
  clear X3 Z3 O3 c3 G3 X4 Z4 O4 C4 G4 FI
  go_wp2
  refine bodyPost_ret (v := qv (v + 1) s (.slice ua m uc)) (by simp [results, Tryz.results63, go_sem, y0, y1, y2]) rfl ?_
  exact ⟨_, _, _, _, rfl, R.out⟩
 have n0 : (k == 0) = false:=by simp [h0]
 by_cases h1 : k = 1
 ·subst h1
  clear h0
  go_wp2_with fail
  refine (drawSet base g ca ao zs 7 _ (by omega) (by omega) (by omega) c3).mono ?_
  rintro e w4 ⟨v4, ys, rfl, hl4, hw4, O4, c4, e4⟩
  have X4:=X3.grown e4 (by omega)
  have Z4:=Z3.grown e4 (by omega)
  have G4:=grown_trans G3 e4
  have lo4:=World.ownsRow.lt O4
  obtain ⟨a4, k4, rfl⟩:=O4.form
  obtain ⟨m4, hm4⟩ : ∃ m, ys.length = m:=⟨_, rfl⟩
  rw [hm4] at O4 lo4 ⊢
  have O5:=(O4.kp (set_kp w4 x 2 (.slice a4 m4 k4)) (fun j hj e => by have:=lo4 j hj; omega)).mono (show w.heap.size + 1 + 1 ≤ w3.heap.size by omega)
  have C5:=c4.set (r:=x) (by omega) 2 (.slice a4 m4 k4)
  have G5:=grown_set G4 (r:=x) (by omega) 2 (.slice a4 m4 k4)
  have R:=hide (FI.out v s (.slice a4 m4 k4) ys _ ⟨by omega, by omega⟩ (by omega) hl4 hw4 O5 C5 G5)
  have q0:=X4.cell 0 rfl
  have q1:=X4.cell 1 rfl
  have q2:=X4.cell 2 rfl
  have fq:=X4.frozen
  have y0:=Z4.cell 0 rfl
  have y1:=Z4.cell 1 rfl
  have y2:=Z4.cell 2 rfl
  have fy:=Z4.frozen
  have ne1 : ¬ w.heap.size + 1 = x:=by omega
  have ne2 : ¬ x = w.heap.size + 1:=by omega
  clear X3 Z3 O3 c3 G3 X4 Z4 O4 G4 O5 C5 G5 e4 c4 FI
  go_wp2
  refine bodyPost_ret (v := qv v s (.slice a4 m4 k4)) (by simp [results, Tryz.results63, go_sem, y0, y1, y2]) rfl ?_
  exact ⟨_, _, _, _, rfl, R.out⟩
 have n1 : (k == 1) = false:=by simp [h1]
 by_cases h2 : k = 2
 ·subst h2
  clear h0 h1
  go_wp2_with fail
  refine (drawName base g ca ao zs _ (by omega) c3).mono ?_
  rintro e w4 ⟨t, rfl, ht, c4, e4⟩
  have X4:=X3.grown e4 (by omega)
  have Z4:=Z3.grown e4 (by omega)
  have O4:=O3.drawn e4 (by omega)
  have G4:=grown_trans G3 e4
  have O5:=O4.kp (set_kp w4 x 1 (.string t)) (fun j hj e => hne j hj e)
  have C5:=c4.set (r:=x) (by omega) 1 (.string t)
  have G5:=grown_set G4 (r:=x) (by omega) 1 (.string t)
  have R:=hide (FI.out v t (.slice ua m uc) xs _ ⟨by omega, by omega⟩ ht (by omega) HW O5 C5 G5)
  have q0:=X4.cell 0 rfl
  have q1:=X4.cell 1 rfl
  have q2:=X4.cell 2 rfl
  have fq:=X4.frozen
  have y0:=Z4.cell 0 rfl
  have y1:=Z4.cell 1 rfl
  have y2:=Z4.cell 2 rfl
  have fy:=Z4.frozen
  have ne1 : ¬ w.heap.size + 1 = x:=by omega
  have ne2 : ¬ x = w.heap.size + 1:=by omega
  clear X3 Z3 O3 c3 G3 X4 Z4 O4 G4 O5 C5 G5 e4 c4 FI
  go_wp2
  refine bodyPost_ret (v := qv v t (.slice ua m uc)) (by simp [results, Tryz.results63, go_sem, y0, y1, y2]) rfl ?_
  exact ⟨_, _, _, _, rfl, R.out⟩
 have n2 : (k == 2) = false:=by simp [h2]
 have R:=hide (FI.out v s (.slice ua m uc) xs _ ⟨by omega, by omega⟩ (by omega) (by omega) HW O3 c3 G3)
 have q0:=X3.cell 0 rfl
 have q1:=X3.cell 1 rfl
 have q2:=X3.cell 2 rfl
 have y0:=Z3.cell 0 rfl
 have y1:=Z3.cell 1 rfl
 have y2:=Z3.cell 2 rfl
 have fy:=Z3.frozen
 clear X3 Z3 O3 c3 G3 FI
 go_wp2
 refine bodyPost_ret (v := qv v s (.slice ua m uc)) (by simp [results, Tryz.results63, go_sem, y0, y1, y2]) rfl ?_
 exact ⟨_, _, _, _, rfl, R.out⟩
theorem drawPartQc (ao : Option Addr) (ca : Nat) (zs : List Int) (w : World) (h : DCode w ao zs) :
 Calls Tryz.prog 22 #[.slice ao zs.length ca] w fun e w' => ∃ (n f v : Int) (s : ByteArray) (u : Value) (xs : List Int), e = .returned (.tuple #[cv n f, qv v s u]) ∧ (4 ≤ n ∧ n ≤ 7) ∧ (1 ≤ f ∧ f ≤ 3) ∧ (-1 ≤ v ∧ v ≤ 61) ∧ s.size ≤ 8001 ∧ xs.length ≤ 9 ∧ Hid (WfL xs) ∧ OI w' w.heap.size u xs ∧ Below w.heap.size w w' := by
 obtain ⟨w0, hw0⟩ : ∃ w0, (w.alloc (.cells #[.int .i64 0,.int .i64 0] 33)).alloc (.cells #[.int .i64 0,.string ⟨#[]⟩,.slice none 0 0] 36) = w0:=⟨_, rfl⟩
 have B : Below w.heap.size w w0:=hw0 ▸ qalloc2 _ _ _
 have R : Loc w0 w.heap.size #[.int .i64 0,.int .i64 0]:=hw0 ▸ (loc_at w _ _ rfl).alloc _
 have Z : Loc w0 (w.heap.size + 1) #[.int .i64 0,.string ⟨#[]⟩,.slice none 0 0]:=hw0 ▸ loc_at (w.alloc _) _ _ (by simp)
 have s0 : w.heap.size + 1 + 1 ≤ w0.heap.size:=by rw [← hw0]; simp
 have D0:=h.below B
 have NW:=hide (new_any ao ca zs w0 D0.len D0.code D0.fit)
 clear h D0
 go_enter Tryz.func22, Tryz.ntmps22
 go_wp2_with fail
 clear hw0
 refine NW.out.mono ?_
 rintro e w1 ⟨rfl, C, b1⟩
 replace B:=bu B b1
 replace R:=R.up b1
 replace Z:=Z.up b1
 have s1:=b1.size
 generalize w0.heap.size = g at *
 have hg1:=C.lt
 clear b1 NW
 go_wp2_with fail
 refine (drawConfB g g ca ao zs _ (by omega) C).mono ?_
 rintro e w2 ⟨n, f, rfl, ⟨hn0, hn1⟩, ⟨hf0, hf1⟩, c1, e1⟩
 have s2:=e1.size
 replace R:=R.grown e1 (by omega)
 replace Z:=Z.grown e1 (by omega)
 replace B:=cur_below e1 B B.size (by omega)
 replace C:=c1
 clear c1 e1
 obtain ⟨w3, hw3⟩ : ∃ y, w2.alloc (.cells #[.int .i64 n,.int .i64 f] 33) = y:=⟨_, rfl⟩
 have bb : Below w2.heap.size w2 w3:=hw3 ▸ qalloc _ _
 have X : Loc w3 w2.heap.size #[.int .i64 n,.int .i64 f]:=hw3 ▸ loc_at w2 _ _ rfl
 have s3 : w2.heap.size + 1 ≤ w3.heap.size:=by rw [← hw3]; simp
 replace R:=R.up bb
 replace Z:=Z.up bb
 replace C:=C.below (by omega) bb
 replace B:=bu B bb
 clear bb
 go_wp2_with fail
 clear hw3
 refine (once_any g g ca ao zs 2 _ (by omega) (by omega) (by omega) C).mono ?_
 rintro e w4 ⟨b, rfl, c1, e1⟩
 have s4:=e1.size
 replace R:=R.grown e1 (by omega)
 replace Z:=Z.grown e1 (by omega)
 replace X:=X.grown e1 (by omega)
 replace B:=cur_below e1 B B.size (by omega)
 replace C:=c1
 clear c1 e1
 cases b
 ·go_upto_region 6 with fail
  refine wp_region_noPanic ?_
  refine wp_region_held_drew (S := fun w' => (w'.cell? ⟨w2.heap.size, 0, none⟩ = some (.int .i64 n) ∧ w'.cell? ⟨w2.heap.size, 1, none⟩ = some (.int .i64 f))) (by kernel_rfl) ⟨X.cell 0 rfl, X.cell 1 rfl⟩ (fun hHeld => ?_)
  obtain ⟨wd, hd⟩ : ∃ wd, w4.drew = wd:=⟨_, rfl⟩
  have bd : Below w4.heap.size w4 wd:=hd ▸ Below.drew (Below.refl _ _)
  have sd : w4.heap.size ≤ wd.heap.size:=bd.size
  replace R:=R.up bd
  replace Z:=Z.up bd
  replace X:=X.up bd
  replace C:=C.below (by omega) bd
  replace B:=bu B bd
  rw [hd] at hHeld ⊢
  clear hd bd
  refine tx 0 24 ?_
  refine tx 1 25 ?_
  refine tx 2 26 ?_
  refine rd 3 rfl (fun KK hKK => ?_)
  go_simp
  refine (drawPart g g ca ao zs n f _ (by omega) (by omega) C).mono ?_
  rintro e w9 ⟨v, s, u, xs, rfl, hv, hs, hl, hw, O, c1, e1⟩
  have s9:=e1.size
  replace R:=R.grown e1 (by omega)
  replace Z:=Z.grown e1 (by omega)
  replace X:=X.grown e1 (by omega)
  replace B:=cur_below e1 B B.size (by omega)
  clear c1 e1 C
  have tO:=World.ownsRow.lt O
  obtain ⟨ua, uc, rfl⟩:=O.form
  obtain ⟨uk, huk⟩ : ∃ k, xs.length = k:=⟨_, rfl⟩
  rw [huk] at O tO ⊢
  clear hHeld
  refine hKK.out _ _ ⟨X.cell 0 rfl, X.cell 1 rfl⟩ (fun hHeld => ?_)
  clear hKK KK
  have c0:=R.cell 0 rfl
  have c1:=R.cell 1 rfl
  have fc:=R.frozen
  refine rd 4 rfl (fun KK hKK => ?_)
  go_simp
  obtain ⟨wa, hwa⟩ : ∃ y, ((w9.setCell ⟨w.heap.size, 0, none⟩ (.int .i64 n)).setCell ⟨w.heap.size, 1, none⟩ (.int .i64 f)) = y:=⟨_, rfl⟩
  have kwa : Kp w9 wa (fun k => k = w.heap.size):=hwa ▸ (set_kp _ _ _ _).trans (set_kp _ _ _ _)
  replace R : Loc wa (w.heap.size) #[.int .i64 n,.int .i64 f]:=hwa ▸ ((R.set 0 _ rfl).set 1 _ rfl)
  replace Z:=Z.kp kwa (by omega)
  replace X:=X.kp kwa (by omega)
  replace O:=O.kp kwa (fun j hj e => by have:=tO j hj; omega)
  replace B:=Below.kp B kwa B.size (fun k hk => by omega)
  have zwa:=kwa.size
  rw [hwa]
  clear hwa kwa c0 c1 fc hHeld
  refine hKK.out _ _ ⟨X.cell 0 rfl, X.cell 1 rfl⟩ (fun hHeld => ?_)
  clear hKK KK
  have c0:=Z.cell 0 rfl
  have c1:=Z.cell 1 rfl
  have c2:=Z.cell 2 rfl
  have fc:=Z.frozen
  refine rd 5 rfl (fun KK hKK => ?_)
  go_simp
  obtain ⟨wb, hwb⟩ : ∃ y, (((wa.setCell ⟨w.heap.size + 1, 0, none⟩ (.int .i64 v)).setCell ⟨w.heap.size + 1, 1, none⟩ (.string s)).setCell ⟨w.heap.size + 1, 2, none⟩ (.slice ua uk uc)) = y:=⟨_, rfl⟩
  have kwb : Kp wa wb (fun k => k = w.heap.size + 1):=hwb ▸ ((set_kp _ _ _ _).trans (set_kp _ _ _ _)).trans (set_kp _ _ _ _)
  replace Z : Loc wb (w.heap.size + 1) #[.int .i64 v,.string s,.slice ua uk uc]:=hwb ▸ (((Z.set 0 _ rfl).set 1 _ rfl).set 2 _ rfl)
  replace R:=R.kp kwb (by omega)
  replace X:=X.kp kwb (by omega)
  replace O:=O.kp kwb (fun j hj e => by have:=tO j hj; omega)
  replace B:=Below.kp B kwb B.size (fun k hk => by omega)
  have zwb:=kwb.size
  rw [hwb]
  clear hwb kwb c0 c1 c2 fc hHeld
  refine hKK.out _ _ ⟨X.cell 0 rfl, X.cell 1 rfl⟩ (fun hHeld => ?_)
  clear hKK KK hHeld
  refine wdn ?_
  have r0:=R.cell 0 rfl
  have r1:=R.cell 1 rfl
  have z0:=Z.cell 0 rfl
  have z1:=Z.cell 1 rfl
  have z2:=Z.cell 2 rfl
  clear R Z X
  go_wp2
  refine bodyPost_ret (v := .tuple #[cv n f, qv v s (.slice ua uk uc)]) (by simp [results, Tryz.results22, go_sem, r0, r1, z0, z1, z2]) rfl ?_
  exact ⟨_, _, _, _, _, xs, rfl, ⟨hn0, hn1⟩, ⟨hf0, hf1⟩, hv, hs, (by omega), hw, O.mono (by omega), B⟩
 have x0:=X.cell 0 rfl
 have x1:=X.cell 1 rfl
 go_wp2_with fail
 refine (drawQcV g g ca ao zs n f _ (by omega) hn0 hn1 C).mono ?_
 rintro e w5 ⟨v, s, u, xs, rfl, hv, hs, hl, hw, O, c1, e1⟩
 have s5:=e1.size
 replace R:=R.grown e1 (by omega)
 replace Z:=Z.grown e1 (by omega)
 replace X:=X.grown e1 (by omega)
 replace B:=cur_below e1 B B.size (by omega)
 replace C:=c1
 clear c1 e1 x0 x1
 have tO:=World.ownsRow.lt O
 obtain ⟨ua, uc, rfl⟩:=O.form
 obtain ⟨uk, huk⟩ : ∃ k, xs.length = k:=⟨_, rfl⟩
 rw [huk] at O tO ⊢
 obtain ⟨w6, hw6⟩ : ∃ y, w5.alloc (.cells #[.int .i64 v,.string s,.slice ua uk uc] 53) = y:=⟨_, rfl⟩
 have bb : Below w5.heap.size w5 w6:=hw6 ▸ qalloc _ _
 have Y : Loc w6 w5.heap.size #[.int .i64 v,.string s,.slice ua uk uc]:=hw6 ▸ loc_at w5 _ _ rfl
 have s6 : w5.heap.size + 1 ≤ w6.heap.size:=by rw [← hw6]; simp
 replace R:=R.up bb
 replace Z:=Z.up bb
 replace X:=X.up bb
 replace O:=O.below bb
 replace C:=C.below (by omega) bb
 replace B:=bu B bb
 clear bb
 go_upto_region 5 with fail
 clear hw6
 refine wp_region_noPanic ?_
 refine wp_region_held_drew (S := fun w' => (w'.cell? ⟨w2.heap.size, 0, none⟩ = some (.int .i64 n) ∧ w'.cell? ⟨w2.heap.size, 1, none⟩ = some (.int .i64 f)) ∧ (w'.cell? ⟨w5.heap.size, 0, none⟩ = some (.int .i64 v) ∧ w'.cell? ⟨w5.heap.size, 1, none⟩ = some (.string s) ∧ w'.cell? ⟨w5.heap.size, 2, none⟩ = some (.slice ua uk uc))) (by kernel_rfl) ⟨⟨X.cell 0 rfl, X.cell 1 rfl⟩, ⟨Y.cell 0 rfl, Y.cell 1 rfl, Y.cell 2 rfl⟩⟩ (fun hHeld => ?_)
 obtain ⟨wd, hd⟩ : ∃ wd, w6.drew = wd:=⟨_, rfl⟩
 have bd : Below w6.heap.size w6 wd:=hd ▸ Below.drew (Below.refl _ _)
 have sd : w6.heap.size ≤ wd.heap.size:=bd.size
 replace R:=R.up bd
 replace Z:=Z.up bd
 replace X:=X.up bd
 replace Y:=Y.up bd
 replace O:=O.below bd
 replace C:=C.below (by omega) bd
 replace B:=bu B bd
 rw [hd] at hHeld ⊢
 clear hd bd
 refine tx 0 16 ?_
 refine tx 1 17 ?_
 refine tx 2 18 ?_
 refine tx 3 19 ?_
 refine tx 4 20 ?_
 refine tx 5 21 ?_
 refine tx 6 22 ?_
 refine tx 7 23 ?_
 have c0:=R.cell 0 rfl
 have c1:=R.cell 1 rfl
 have fc:=R.frozen
 refine rd 8 rfl (fun KK hKK => ?_)
 go_simp
 obtain ⟨wa, hwa⟩ : ∃ y, ((wd.setCell ⟨w.heap.size, 0, none⟩ (.int .i64 n)).setCell ⟨w.heap.size, 1, none⟩ (.int .i64 f)) = y:=⟨_, rfl⟩
 have kwa : Kp wd wa (fun k => k = w.heap.size):=hwa ▸ (set_kp _ _ _ _).trans (set_kp _ _ _ _)
 replace R : Loc wa (w.heap.size) #[.int .i64 n,.int .i64 f]:=hwa ▸ ((R.set 0 _ rfl).set 1 _ rfl)
 replace Z:=Z.kp kwa (by omega)
 replace X:=X.kp kwa (by omega)
 replace Y:=Y.kp kwa (by omega)
 replace O:=O.kp kwa (fun j hj e => by have:=tO j hj; omega)
 replace B:=Below.kp B kwa B.size (fun k hk => by omega)
 have zwa:=kwa.size
 rw [hwa]
 clear hwa kwa c0 c1 fc hHeld
 refine hKK.out _ _ ⟨⟨X.cell 0 rfl, X.cell 1 rfl⟩, ⟨Y.cell 0 rfl, Y.cell 1 rfl, Y.cell 2 rfl⟩⟩ (fun hHeld => ?_)
 clear hKK KK
 have c0:=Z.cell 0 rfl
 have c1:=Z.cell 1 rfl
 have c2:=Z.cell 2 rfl
 have fc:=Z.frozen
 refine rd 9 rfl (fun KK hKK => ?_)
 go_simp
 obtain ⟨wb, hwb⟩ : ∃ y, (((wa.setCell ⟨w.heap.size + 1, 0, none⟩ (.int .i64 v)).setCell ⟨w.heap.size + 1, 1, none⟩ (.string s)).setCell ⟨w.heap.size + 1, 2, none⟩ (.slice ua uk uc)) = y:=⟨_, rfl⟩
 have kwb : Kp wa wb (fun k => k = w.heap.size + 1):=hwb ▸ ((set_kp _ _ _ _).trans (set_kp _ _ _ _)).trans (set_kp _ _ _ _)
 replace Z : Loc wb (w.heap.size + 1) #[.int .i64 v,.string s,.slice ua uk uc]:=hwb ▸ (((Z.set 0 _ rfl).set 1 _ rfl).set 2 _ rfl)
 replace R:=R.kp kwb (by omega)
 replace X:=X.kp kwb (by omega)
 replace Y:=Y.kp kwb (by omega)
 replace O:=O.kp kwb (fun j hj e => by have:=tO j hj; omega)
 replace B:=Below.kp B kwb B.size (fun k hk => by omega)
 have zwb:=kwb.size
 rw [hwb]
 clear hwb kwb c0 c1 c2 fc hHeld
 refine hKK.out _ _ ⟨⟨X.cell 0 rfl, X.cell 1 rfl⟩, ⟨Y.cell 0 rfl, Y.cell 1 rfl, Y.cell 2 rfl⟩⟩ (fun hHeld => ?_)
 clear hKK KK hHeld
 refine wdn ?_
 have r0:=R.cell 0 rfl
 have r1:=R.cell 1 rfl
 have z0:=Z.cell 0 rfl
 have z1:=Z.cell 1 rfl
 have z2:=Z.cell 2 rfl
 clear R Z X Y C
 go_wp2
 refine bodyPost_ret (v := .tuple #[cv n f, qv v s (.slice ua uk uc)]) (by simp [results, Tryz.results22, go_sem, r0, r1, z0, z1, z2]) rfl ?_
 exact ⟨_, _, _, _, _, xs, rfl, ⟨hn0, hn1⟩, ⟨hf0, hf1⟩, hv, hs, (by omega), hw, O.mono (by omega), B⟩
end
end Go.Proofs.YtjkcphnohhpihaaGreatDoor
