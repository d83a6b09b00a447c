/- The draws of a block. -/
import Derived.Test.YtcclbejpgiogaaaGreatDoorNBAY
import Derived.Test.YtcclbejpgiogaaaGreatDoorNBBA
import Derived.Test.YtcclbejpgiogaaaGreatDoorNBAJ
import Derived.Deep.DeepCutAuto
namespace Go.Proofs.YtcclbejpgiogaaaGreatDoor
open Go.RowKit
set_option linter.unusedSectionVars false
variable [∀ (a b c d : Int), Decidable (Ok4 a b c d)]
variable [∀ (a b c d : Nat), Decidable (okN a b c d)]
variable [∀ (last : Int) (s : St), Decidable (GoodSt last s)]
variable [∀ (x : T4), Decidable (OkT x)]
variable [∀ (n : Int) (s : List Int), Decidable (OkL n s)]
variable [∀ (n f : Int), Decidable (COk n f)]
variable [∀ (ts : List T4), Decidable (AllOk ts)]

theorem wf_nil : WfL [] := fun x hx => by simp at hx
theorem specBlockNewD (n f v : Int) (s : ByteArray) (ao : Option Addr) (ca : Nat) (xs : List Int) (view : Int) (lv : Value) (ts : List T4) (w : World) (hs : s.size ≤ 8001) (hy : ts.length ≤ 2) (hb : -1 ≤ view ∧ view ≤ 100) (hl : xs.length ≤ 9) (hw : Hid (WfL xs)) (hv : -1 ≤ v ∧ v ≤ 61) (ht : RT w lv ts) (ha : RI w (.slice ao xs.length ca) xs) :
 Calls Tryz.prog 90 #[cv n f, qv v s (.slice ao xs.length ca), .int .i64 view, lv] w fun e w' => ∃ (m1 : ByteArray) (n1 : Int) (s1 : ByteArray) (u : Value) (x1 : List Int) (q : Bool), e = .returned (.tuple #[bv m1 n1 s1 u, .bool q]) ∧ m1.size ≤ 8001 ∧ (-1 ≤ n1 ∧ n1 ≤ 61) ∧ s1.size ≤ 8001 ∧ x1.length ≤ 9 ∧ Hid (WfL x1) ∧ OI w' w.heap.size u x1 ∧ Below w.heap.size w w' := by
 refine (specBlockNew n f v s ao ca xs view lv ts w (by omega) (by omega) (by omega) (by omega) (by omega) ht ha).mono ?_
 rintro e w' ⟨u, rfl, o, b⟩
 have h1 := nameAns_len s view ts
 have h2 : (⟨#[]⟩ : ByteArray).size = 0 := rfl
 refine ⟨_, _, _, u, _, _, rfl, ?_, ?_, ?_, ?_, ?_, o, b⟩
 ·split <;> omega
 ·split <;> omega
 ·split <;> omega
 ·split <;> first | omega | simp
 ·split
  ·exact hw
  ·exact hide wf_nil

set_option maxHeartbeats 16000000 in
set_option maxRecDepth 100000 in
theorem drawBlkR (base g ca : Nat) (ao : Option Addr) (zs : List Int) (n f : Int) (w : World) (hB : base ≤ w.heap.size) (hn0 : 4 ≤ n) (hn1 : n ≤ 7) (h : Cur w base g ao ca zs) :
 Calls Tryz.prog 64 #[.pointer (some ⟨g, 0, none⟩), cv n f] w fun e w' => ∃ (m : ByteArray) (v : Int) (s : ByteArray) (u : Value) (xs : List Int), e = .returned (bv m v s u) ∧ m.size ≤ 8001 ∧ (-1 ≤ v ∧ v ≤ 61) ∧ s.size ≤ 8001 ∧ xs.length ≤ 9 ∧ Hid (WfL xs) ∧ OI w' w.heap.size u xs ∧ Cur w' base g ao ca zs ∧ w.grownBy w' (some g) := by
 have hlt := h.lt
 obtain ⟨i0, hi, hz0, hz1, hz2⟩ := info_parts Tryz.infoTx
 obtain ⟨w0, hw0⟩ : ∃ w0, (w.alloc (.cells #[.int .i64 n, .int .i64 f] 25)).alloc (.cells #[.string ⟨#[]⟩, .int .i64 0, .string ⟨#[]⟩, .slice none 0 0] 93) = w0 := ⟨_, rfl⟩
 have B0 : Below w.heap.size w w0 := hw0 ▸ qalloc2 _ _ _
 have V0 : Loc w0 w.heap.size #[.int .i64 n, .int .i64 f] := hw0 ▸ (loc_at w _ _ rfl).alloc _
 have Z0 : Loc w0 (w.heap.size + 1) #[.string ⟨#[]⟩, .int .i64 0, .string ⟨#[]⟩, .slice none 0 0] := hw0 ▸ loc_at (w.alloc _) _ _ (by simp)
 have s0 : w0.heap.size = w.heap.size + 1 + 1 := by rw [← hw0]; simp
 have C0 := h.below hB B0
 have G0 : w.grownBy w0 (some g) := grown_below B0 (some g)
 clear h B0
 go_enter Tryz.func64, Tryz.ntmps64
 go_upto_region 1 with fail
 clear hw0
 go_cut [5] (fun c wx => ∃ (h : Nat) (v : Value) (s : ByteArray) (xs : List Int), c = .pointer (some ⟨h, 0, none⟩) ∧ w.heap.size + 1 + 1 ≤ h ∧ h < wx.heap.size ∧ Loc wx h #[.int .i64 (viewAns s), .string s, v] ∧ OI wx (w.heap.size + 1 + 1) v xs ∧ (∀ j, v.ownBlock = some j → j ≠ h) ∧ xs.length ≤ 7 ∧ Hid (WfL xs) ∧ s.size ≤ 1920 ∧ Loc wx w.heap.size #[.int .i64 n, .int .i64 f] ∧ Loc wx (w.heap.size + 1) #[.string ⟨#[]⟩, .int .i64 0, .string ⟨#[]⟩, .slice none 0 0] ∧ Cur wx base g ao ca zs ∧ w.grownBy wx (some g))
 case first =>
  refine wp_region_noPanic ?_
  refine wp_region_held_drew (S := fun w' => w'.cell? ⟨w.heap.size, 0, none⟩ = some (.int .i64 n) ∧ w'.cell? ⟨w.heap.size, 1, none⟩ = some (.int .i64 f)) (by kernel_rfl) ⟨(V0.cell 0 rfl), (V0.cell 1 rfl)⟩ (fun hHeld => ?_)
  obtain ⟨wd, hd⟩ : ∃ wd, w0.drew = wd := ⟨_, rfl⟩
  have bd : Below w0.heap.size w0 wd := hd ▸ Below.drew (Below.refl _ _)
  have sd : w.heap.size + 1 + 1 ≤ wd.heap.size := by rw [← hd]; exact Nat.le_of_eq s0.symm
  have V := V0.up bd
  have Z := Z0.up bd
  have C := C0.below (by omega) bd
  have G := grown_trans G0 (grown_below bd (some g))
  rw [hd] at hHeld ⊢
  clear hd bd V0 Z0 C0 G0 s0
  refine' tj 0 10 rfl ?_ ?_;rotate_left
  ·intro w h; (try dsimp only at h); go_simp; try with_reducible rfl
  simp only [pU]
  refine' tj 1 11 rfl ?_ ?_;rotate_left
  ·intro w h; (try dsimp only at h); go_simp; try with_reducible rfl
  simp only [pU]
  refine' tj 2 12 rfl ?_ ?_;rotate_left
  ·intro w h; (try dsimp only at h); go_simp; try with_reducible rfl
  simp only [pU]
  refine wpAnyH_ready (rs := [3, 5]) (by kernel_rfl) (by simp) (AllReadyH.cons rfl (fun KK hKK => ?_) (AllReadyH.cons rfl (fun KK hKK => ?_) AllReadyH.nil))
  ·go_simp
   refine (drawNameR base g ca ao zs _ (by omega) C).mono ?_
   rintro e wk1 ⟨s, rfl, hs, c1, e1⟩
   replace V := V.grown e1 (by omega)
   replace Z := Z.grown e1 (by omega)
   replace G := grown_trans G e1
   have zwk1 := e1.size
   replace C := c1
   clear c1 e1
   clear hHeld
   refine hKK.out _ _ ⟨V.cell 0 rfl, V.cell 1 rfl⟩ (fun hHeld => ?_)
   clear hKK KK
   refine wpAnyH_ready (rs := [4, 5]) (by kernel_rfl) (by simp) (AllReadyH.cons rfl (fun KK hKK => ?_) (AllReadyH.cons rfl (fun KK hKK => ?_) AllReadyH.nil))
   ·go_simp
    refine (drawOf base g ca ao zs n f s _ (by omega) hn0 hn1 (by omega) C).mono ?_
    rintro e wk3 ⟨u, xs, rfl, hx, hw, O, c1, e1⟩
    replace V := V.grown e1 (by omega)
    replace Z := Z.grown e1 (by omega)
    replace G := grown_trans G e1
    have zwk3 := e1.size
    replace C := c1
    clear c1 e1
    have tow := World.ownsRow.lt O
    obtain ⟨ua, uc, rfl⟩ := O.form
    clear hHeld
    refine hKK.out _ _ ⟨V.cell 0 rfl, V.cell 1 rfl⟩ (fun hHeld => ?_)
    clear hKK KK
    refine rd 5 rfl (fun KK hKK => ?_)
    go_simp
    obtain ⟨wl5, hwl5⟩ : ∃ y, wk3.alloc (.cells #[.int .i64 0, .string ⟨#[]⟩, .slice none 0 0] 28) = y := ⟨_, rfl⟩
    have ba : Below wk3.heap.size wk3 wl5 := hwl5 ▸ qalloc _ _
    have lg : Loc wl5 wk3.heap.size #[.int .i64 0, .string ⟨#[]⟩, .slice none 0 0] := hwl5 ▸ loc_at wk3 _ _ rfl
    have zwl5 : wl5.heap.size = wk3.heap.size + 1 := by rw [← hwl5]; simp
    replace V := V.up ba
    replace Z := Z.up ba
    replace C := C.below (by omega) ba
    replace G := grown_trans G (grown_below ba (some g))
    replace O := O.below ba
    rw [hwl5]
    clear hwl5 ba
    clear hHeld
    refine hKK.out _ _ ⟨V.cell 0 rfl, V.cell 1 rfl⟩ (fun hHeld => ?_)
    clear hKK KK
    have q0 := lg.cell 0 rfl
    have q1 := lg.cell 1 rfl
    have q2 := lg.cell 2 rfl
    have FG := lg.frozen
    have ll := lg.lt
    have k3 : Kp wl5 (((wl5.setCell ⟨wk3.heap.size, 0, none⟩ (.int .i64 (viewAns s))).setCell ⟨wk3.heap.size, 1, none⟩ (.string s)).setCell ⟨wk3.heap.size, 2, none⟩ (.slice ua xs.length uc)) (fun k => k = wk3.heap.size) := ((set_kp _ _ _ _).trans (set_kp _ _ _ _)).trans (set_kp _ _ _ _)
    have V3 := V.kp k3 (by omega)
    have Z3 := Z.kp k3 (by omega)
    refine rd 6 rfl (fun KK hKK => ?_)
    go_simp
    clear hHeld
    refine hKK.out _ _ ⟨V3.cell 0 rfl, V3.cell 1 rfl⟩ (fun hHeld => ?_)
    clear hKK KK hHeld
    refine wdn ?_
    go_wp2_with fail
    go_meet
    exact ⟨_, _, s, xs, rfl, by omega, by simpa using ll, ((lg.set 0 _ rfl).set 1 _ rfl).set 2 _ rfl, (O.kp k3 (fun j hj e => by have := tow j hj; omega)).mono (by omega), fun j hj => by have := tow j hj; omega, hx, hw, hs, V3, Z3, ((C.set (by omega) _ _).set (by omega) _ _).set (by omega) _ _, grown_set (grown_set (grown_set G (by omega) _ _) (by omega) _ _) (by omega) _ _⟩
   ·go_simp
    obtain ⟨wl4, hwl4⟩ : ∃ y, wk1.alloc (.cells #[.int .i64 0, .string ⟨#[]⟩, .slice none 0 0] 28) = y := ⟨_, rfl⟩
    have ba : Below wk1.heap.size wk1 wl4 := hwl4 ▸ qalloc _ _
    have lg : Loc wl4 wk1.heap.size #[.int .i64 0, .string ⟨#[]⟩, .slice none 0 0] := hwl4 ▸ loc_at wk1 _ _ rfl
    have zwl4 : wl4.heap.size = wk1.heap.size + 1 := by rw [← hwl4]; simp
    replace V := V.up ba
    replace Z := Z.up ba
    replace C := C.below (by omega) ba
    replace G := grown_trans G (grown_below ba (some g))
    rw [hwl4]
    clear hwl4 ba
    clear hHeld
    refine hKK.out _ _ ⟨V.cell 0 rfl, V.cell 1 rfl⟩ (fun hHeld => ?_)
    clear hKK KK
    refine rd 4 rfl (fun KK hKK => ?_)
    go_simp
    refine (drawOf base g ca ao zs n f s _ (by omega) hn0 hn1 (by omega) C).mono ?_
    rintro e wk6 ⟨u, xs, rfl, hx, hw, O, c1, e1⟩
    replace V := V.grown e1 (by omega)
    replace Z := Z.grown e1 (by omega)
    replace G := grown_trans G e1
    have zwk6 := e1.size
    replace lg := lg.grown e1 (by omega)
    replace C := c1
    clear c1 e1
    have tow := World.ownsRow.lt O
    obtain ⟨ua, uc, rfl⟩ := O.form
    clear hHeld
    refine hKK.out _ _ ⟨V.cell 0 rfl, V.cell 1 rfl⟩ (fun hHeld => ?_)
    clear hKK KK
    have q0 := lg.cell 0 rfl
    have q1 := lg.cell 1 rfl
    have q2 := lg.cell 2 rfl
    have FG := lg.frozen
    have ll := lg.lt
    have k3 : Kp wk6 (((wk6.setCell ⟨wk1.heap.size, 0, none⟩ (.int .i64 (viewAns s))).setCell ⟨wk1.heap.size, 1, none⟩ (.string s)).setCell ⟨wk1.heap.size, 2, none⟩ (.slice ua xs.length uc)) (fun k => k = wk1.heap.size) := ((set_kp _ _ _ _).trans (set_kp _ _ _ _)).trans (set_kp _ _ _ _)
    have V3 := V.kp k3 (by omega)
    have Z3 := Z.kp k3 (by omega)
    refine rd 6 rfl (fun KK hKK => ?_)
    go_simp
    clear hHeld
    refine hKK.out _ _ ⟨V3.cell 0 rfl, V3.cell 1 rfl⟩ (fun hHeld => ?_)
    clear hKK KK hHeld
    refine wdn ?_
    go_wp2_with fail
    go_meet
    exact ⟨_, _, s, xs, rfl, by omega, by simpa using ll, ((lg.set 0 _ rfl).set 1 _ rfl).set 2 _ rfl, (O.kp k3 (fun j hj e => by have := tow j hj; omega)).mono (by omega), fun j hj => by have := tow j hj; omega, hx, hw, hs, V3, Z3, ((C.set (by omega) _ _).set (by omega) _ _).set (by omega) _ _, grown_set (grown_set (grown_set G (by omega) _ _) (by omega) _ _) (by omega) _ _⟩
  ·go_simp
   obtain ⟨wl2, hwl2⟩ : ∃ y, wd.alloc (.cells #[.int .i64 0, .string ⟨#[]⟩, .slice none 0 0] 28) = y := ⟨_, rfl⟩
   have ba : Below wd.heap.size wd wl2 := hwl2 ▸ qalloc _ _
   have lg : Loc wl2 wd.heap.size #[.int .i64 0, .string ⟨#[]⟩, .slice none 0 0] := hwl2 ▸ loc_at wd _ _ rfl
   have zwl2 : wl2.heap.size = wd.heap.size + 1 := by rw [← hwl2]; simp
   replace V := V.up ba
   replace Z := Z.up ba
   replace C := C.below (by omega) ba
   replace G := grown_trans G (grown_below ba (some g))
   rw [hwl2]
   clear hwl2 ba
   clear hHeld
   refine hKK.out _ _ ⟨V.cell 0 rfl, V.cell 1 rfl⟩ (fun hHeld => ?_)
   clear hKK KK
   refine rd 3 rfl (fun KK hKK => ?_)
   go_simp
   refine (drawNameR base g ca ao zs _ (by omega) C).mono ?_
   rintro e wk7 ⟨s, rfl, hs, c1, e1⟩
   replace V := V.grown e1 (by omega)
   replace Z := Z.grown e1 (by omega)
   replace G := grown_trans G e1
   have zwk7 := e1.size
   replace lg := lg.grown e1 (by omega)
   replace C := c1
   clear c1 e1
   clear hHeld
   refine hKK.out _ _ ⟨V.cell 0 rfl, V.cell 1 rfl⟩ (fun hHeld => ?_)
   clear hKK KK
   refine rd 4 rfl (fun KK hKK => ?_)
   go_simp
   refine (drawOf base g ca ao zs n f s _ (by omega) hn0 hn1 (by omega) C).mono ?_
   rintro e wk8 ⟨u, xs, rfl, hx, hw, O, c1, e1⟩
   replace V := V.grown e1 (by omega)
   replace Z := Z.grown e1 (by omega)
   replace G := grown_trans G e1
   have zwk8 := e1.size
   replace lg := lg.grown e1 (by omega)
   replace C := c1
   clear c1 e1
   have tow := World.ownsRow.lt O
   obtain ⟨ua, uc, rfl⟩ := O.form
   clear hHeld
   refine hKK.out _ _ ⟨V.cell 0 rfl, V.cell 1 rfl⟩ (fun hHeld => ?_)
   clear hKK KK
   have q0 := lg.cell 0 rfl
   have q1 := lg.cell 1 rfl
   have q2 := lg.cell 2 rfl
   have FG := lg.frozen
   have ll := lg.lt
   have k3 : Kp wk8 (((wk8.setCell ⟨wd.heap.size, 0, none⟩ (.int .i64 (viewAns s))).setCell ⟨wd.heap.size, 1, none⟩ (.string s)).setCell ⟨wd.heap.size, 2, none⟩ (.slice ua xs.length uc)) (fun k => k = wd.heap.size) := ((set_kp _ _ _ _).trans (set_kp _ _ _ _)).trans (set_kp _ _ _ _)
   have V3 := V.kp k3 (by omega)
   have Z3 := Z.kp k3 (by omega)
   refine rd 6 rfl (fun KK hKK => ?_)
   go_simp
   clear hHeld
   refine hKK.out _ _ ⟨V3.cell 0 rfl, V3.cell 1 rfl⟩ (fun hHeld => ?_)
   clear hKK KK hHeld
   refine wdn ?_
   go_wp2_with fail
   go_meet
   exact ⟨_, _, s, xs, rfl, by omega, by simpa using ll, ((lg.set 0 _ rfl).set 1 _ rfl).set 2 _ rfl, (O.kp k3 (fun j hj e => by have := tow j hj; omega)).mono (by omega), fun j hj => by have := tow j hj; omega, hx, hw, hs, V3, Z3, ((C.set (by omega) _ _).set (by omega) _ _).set (by omega) _ _, grown_set (grown_set (grown_set G (by omega) _ _) (by omega) _ _) (by omega) _ _⟩
 case rest =>
 obtain ⟨x, v1, s, xs, rfl, hx, hxl, Q, O, hne, hl, hw, hs, V, Z, C, G⟩ := hcut
 obtain ⟨w5, hw5⟩ : ∃ y, y = wc := ⟨_, rfl⟩
 subst hw5
 obtain ⟨ua, uc, rfl⟩ := O.form
 have hsz := G.size
 have hv := view_fit s
 have BN := hide fun a k lv ys view w (hy : ys.length ≤ 2) (hb : -1 ≤ view ∧ view ≤ 100) h h' => specBlockNewD n f (viewAns s) s a k xs view lv ys w (by omega) hy hb (by omega) hw (by have := view_fit s; omega) h h'
 generalize viewAns s = v at *
 obtain ⟨hv0, hv1⟩ := hv
 obtain ⟨m, hm⟩ : ∃ m, xs.length = m := ⟨_, rfl⟩
 rw [hm] at Q O hl hne BN
 have tO := World.ownsRow.lt O
 obtain ⟨w6, hw6⟩ : ∃ y, w5.alloc (.cells #[] 123) = y := ⟨_, rfl⟩
 have b6 : Below w5.heap.size w5 w6 := hw6 ▸ qalloc _ _
 have T : OT w6 w5.heap.size (.slice (some ⟨w5.heap.size, 0, none⟩) 0 0) [] := hw6 ▸ World.ownsRow_lit w5 #[] 0 (Nat.le_refl _) (by unfold maxLen; omega) rfl
 have z6 : w5.heap.size + 1 ≤ w6.heap.size := by rw [← hw6]; simp
 replace Q := Q.up b6
 replace V := V.up b6
 replace Z := Z.up b6
 replace O := O.below b6
 replace C := C.below (by omega) b6
 replace G := grown_trans G (grown_below b6 (some g))
 have P : Hid (_ ∧ _ ∧ _ ∧ _ ∧ _ ∧ _ ∧ _) := hide ⟨T, Q, V, Z, O, C, G⟩
 clear T Q V Z O C G b6
 go_wp2
 clear hw6
 go_loopw [6, 7] (fun t i wr => ∃ (k : Nat) (ys : List T4), k ≤ 2 ∧ i = .int .i64 k ∧ ys.length = k ∧ w6.heap.size ≤ wr.heap.size ∧ OT wr w5.heap.size t ys ∧ Loc wr x #[.int .i64 v, .string s, .slice ua m uc] ∧ Loc wr w.heap.size #[.int .i64 n, .int .i64 f] ∧ Loc wr (w.heap.size + 1) #[.string ⟨#[]⟩, .int .i64 0, .string ⟨#[]⟩, .slice none 0 0] ∧ OI wr (w.heap.size + 1 + 1) (.slice ua m uc) xs ∧ Cur wr base g ao ca zs ∧ w.grownBy wr (some g)) (fun _ i _ => 3 - (intOf i).toNat)
 case atStart => exact ⟨0, [], by omega, rfl, rfl, Nat.le_refl _, P.out⟩
 case round =>
  clear P
  obtain ⟨k, ys, hk, rfl, hyl, hwz, T, Q, V, Z, O, C, G⟩ := hrel
  have P := hide (And.intro T (And.intro Q (And.intro V (And.intro Z (And.intro O G)))))
  clear T Q V Z O G
  go_wp2_with fail
  refine (below_any base g ca ao zs 3 _ (by omega) (by omega) (by omega) C).mono ?_
  rintro e w1 ⟨n3, rfl, _, n31, c1, e1⟩
  have s1 := e1.size
  obtain ⟨T, Q, V, Z, O, G⟩ := P.out
  clear P
  replace Q := Q.grown e1 (by omega)
  replace V := V.grown e1 (by omega)
  replace Z := Z.grown e1 (by omega)
  replace O := O.drawn e1 (by omega)
  replace T := T.grown e1 (by omega)
  replace G := grown_trans G e1
  replace C := c1
  clear c1 e1
  by_cases hkn : (k : Int) < n3
  ·have P := hide (And.intro T (And.intro Q (And.intro V (And.intro Z (And.intro O G)))))
   clear T Q V Z O G
   go_wp2_with fail
   refine (drawRight base g ca ao zs _ (by omega) C).mono ?_
   rintro e w2 ⟨a, b, c, d, rfl, c2, e2⟩
   have s2 := e2.size
   obtain ⟨T, Q, V, Z, O, G⟩ := P.out
   clear P
   replace Q := Q.grown e2 (by omega)
   replace V := V.grown e2 (by omega)
   replace Z := Z.grown e2 (by omega)
   replace O := O.drawn e2 (by omega)
   replace T := T.grown e2 (by omega)
   replace G := grown_trans G e2
   obtain ⟨w3, hw3⟩ : ∃ y, w2.alloc (.cells #[.int .i64 a, .int .i64 b, .int .i64 c, .int .i64 d] 123) = y := ⟨_, rfl⟩
   have b3 : Below w2.heap.size w2 w3 := hw3 ▸ qalloc _ _
   have F3 : ∀ j u, (tcell (a, b, c, d))[j]? = some u → w3.cell? ((⟨w2.heap.size, 0, none⟩ : Addr).add j) = some u := by rw [← hw3]; exact four_cell w2 (a, b, c, d) 123
   replace C := c2
   clear c2 e2
   replace Q := Q.up b3
   replace V := V.up b3
   replace Z := Z.up b3
   replace O := O.below b3
   replace T := T.below b3
   replace C := C.below (by omega) b3
   replace G := grown_trans G (grown_below b3 (some g))
   have s3 : w2.heap.size + 1 ≤ w3.heap.size := by rw [← hw3]; simp
   have tT := World.ownsRow.lt T
   have tO3 := World.ownsRow.lt O
   have P := hide (And.intro Q (And.intro V (And.intro Z (And.intro O (And.intro C G)))))
   have HT := hide T
   clear T Q V Z O C G b3
   go_wp2_with (first
    | (at_builtin; clear hw3; refine wpList_append_own _ rfl _ _ 121 rfl w5.heap.size 123 i0 (txv 0 0 0 0) 4 32 Tryz.underlying121 hi hz0 hz1 hz2 rfl (by decide) _ _ _ rfl HT.out ⟨w2.heap.size, 0, none⟩ 1 1 (tcell (a, b, c, d)) rfl rfl F3 (four_plain _) (by unfold maxLen; omega) (by omega) (by first | omega | (simp; omega)) ?_; intro v' w4 ho' hg' _
       obtain ⟨Q, V, Z, O, C, G⟩ := P.out
       have R : OT w4 w5.heap.size v' (ys ++ [(a, b, c, d)]) := by unfold OT; rw [tcells_append, List.length_append]; simpa [tcells] using ho'
       have RC := C.grownNew hg' (fun j e => by have := (tT j e).1; omega)
       have RG := grown_new G hg' (fun j e => by have := (tT j e).1; omega)
       have RQ := Q.grownNew hg' (fun e => by have := (tT _ e).1; omega)
       have RV := V.grownNew hg' (fun e => by have := (tT _ e).1; omega)
       have RZ := Z.grownNew hg' (fun e => by have := (tT _ e).1; omega)
       have RO := O.kp (kp_grown hg') (fun j hj e => by have := (tT _ e).1; have := tO j hj; omega)
       have s4 := hg'.size
       have PP := hide (And.intro R (And.intro RQ (And.intro RV (And.intro RZ (And.intro RO (And.intro RC RG))))))
       clear R RC RG RQ RV RZ RO Q V Z O C G P HT ho' hg'))
   go_roundw
   case rel => exact ⟨k + 1, _, by omega, by go_num, by simp [hyl], by omega, PP.out⟩
   case measure => simp [intOf]; omega
  ·have hd : decide ((k : Int) < n3) = false := by simpa using hkn
   obtain ⟨w7, hw7⟩ : ∃ y, y = w1 := ⟨_, rfl⟩
   subst hw7
   have hk2 : ys.length ≤ 2 := by omega
   have P := hide (And.intro T (And.intro Q (And.intro V (And.intro Z (And.intro O (And.intro C G))))))
   clear T Q V Z O C G
   go_upto_region 7 with fail
   obtain ⟨T, Q, V, Z, O, C, G⟩ := P.out
   clear P
   refine wp_region_noPanic ?_
   refine wp_region_held_drew (S := fun w' => (w'.cell? ⟨w.heap.size, 0, none⟩ = some (.int .i64 n) ∧ w'.cell? ⟨w.heap.size, 1, none⟩ = some (.int .i64 f)) ∧ (w'.cell? ⟨x, 0, none⟩ = some (.int .i64 v) ∧ w'.cell? ⟨x, 1, none⟩ = some (.string s) ∧ w'.cell? ⟨x, 2, none⟩ = some (.slice ua m uc))) (by kernel_rfl) ⟨⟨V.cell 0 rfl, V.cell 1 rfl⟩, ⟨Q.cell 0 rfl, Q.cell 1 rfl, Q.cell 2 rfl⟩⟩ (fun hHeld => ?_)
   have hw1 : IntKind.i64.wrap (v + 1) = v + 1 := by rw [IntKind.wrap_i64]; omega
   obtain ⟨wd, hd⟩ : ∃ wd, w7.drew = wd := ⟨_, rfl⟩
   have bd : Below w7.heap.size w7 wd := hd ▸ Below.drew (Below.refl _ _)
   have sd := bd.size
   replace V := V.up bd
   replace Q := Q.up bd
   replace Z := Z.up bd
   replace O := O.below bd
   replace T := T.below bd
   replace C := C.below (by omega) bd
   replace G := grown_trans G (grown_below bd (some g))
   rw [hd] at hHeld ⊢
   clear hd bd
   refine' tj 0 28 rfl ?_ ?_;rotate_left
   ·intro w h; (try dsimp only at h); go_simp; try with_reducible rfl
   simp only [pU]
   refine' tj 1 29 rfl ?_ ?_;rotate_left
   ·intro w h; (try dsimp only at h); go_simp; try with_reducible rfl
   simp only [pU]
   refine' tj 2 30 rfl ?_ ?_;rotate_left
   ·intro w h; (try dsimp only at h); go_simp; try with_reducible rfl
   simp only [pU]
   refine' tj 5 33 rfl ?_ ?_;rotate_left
   ·intro w h; (try dsimp only at h); go_simp; try with_reducible rfl
   simp only [pU]
   refine' tj 9 37 rfl ?_ ?_;rotate_left
   ·intro w h; (try dsimp only at h); go_simp; try with_reducible rfl
   simp only [pU]
   refine' tj 3 31 rfl ?_ ?_;rotate_left
   ·intro w h; (try dsimp only at h); go_simp; try with_reducible rfl
   simp only [pU]
   refine' tj 4 32 rfl ?_ ?_;rotate_left
   ·intro w h; (try dsimp only at h); go_simp; try with_reducible rfl
   simp only [pU]
   refine wpAnyH_ready (rs := [6, 14]) (by kernel_rfl) (by simp) (AllReadyH.cons rfl (fun KK hKK => ?_) (AllReadyH.cons rfl (fun KK hKK => ?_) AllReadyH.nil))
   ·go_simp
    refine (below_any base g ca ao zs 4 _ (by omega) (by omega) (by omega) C).mono ?_
    rintro e wk9 ⟨k4, rfl, k40, k41, c1, e1⟩
    have zwk9 := e1.size
    obtain ⟨t4, ht4, t40, t41⟩ : ∃ t, IntKind.i64.wrap (k4.tdiv 3) = t ∧ 0 ≤ t ∧ t ≤ 1 := ⟨_, rfl, by rw [IntKind.wrap_i64, Int.tdiv_eq_ediv_of_nonneg k40]; omega, by rw [IntKind.wrap_i64, Int.tdiv_eq_ediv_of_nonneg k40]; omega⟩
    have hw2 : IntKind.i64.wrap (v + 1 + t4) = v + 1 + t4 := by rw [IntKind.wrap_i64]; omega
    replace V := V.grown e1 (by omega)
    replace Q := Q.grown e1 (by omega)
    replace Z := Z.grown e1 (by omega)
    replace O := O.drawn e1 (by omega)
    replace T := T.grown e1 (by omega)
    replace G := grown_trans G e1
    replace C := c1
    clear c1 e1
    clear hHeld
    refine hKK.out _ _ ⟨⟨V.cell 0 rfl, V.cell 1 rfl⟩, ⟨Q.cell 0 rfl, Q.cell 1 rfl, Q.cell 2 rfl⟩⟩ (fun hHeld => ?_)
    clear hKK KK
    refine' tj 7 35 rfl ?_ ?_;rotate_left
    ·intro w h; (try dsimp only at h); go_simp; try with_reducible rfl
    simp only [pU]
    refine' tj 8 36 rfl ?_ ?_;rotate_left
    ·intro w h; (try dsimp only at h); go_simp; try with_reducible rfl
    simp only [pU]
    refine wpAnyH_ready (rs := [10, 14]) (by kernel_rfl) (by simp) (AllReadyH.cons rfl (fun KK hKK => ?_) (AllReadyH.cons rfl (fun KK hKK => ?_) AllReadyH.nil))
    ·go_simp
     refine (BN.out _ _ _ _ _ _ (by omega) ⟨by omega, by omega⟩ (T.rt (by omega)) (O.ri (by omega))).mono ?_
     rintro e wk10 ⟨m1, n1, s1, uB, x1, q1, rfl, hm1, hn1, hs1, hx1, hw1, OB, bB⟩
     have zwk10 := bB.size
     replace V := V.up bB
     replace Q := Q.up bB
     replace Z := Z.up bB
     replace O := O.below bB
     replace T := T.below bB
     replace C := C.below (by omega) bB
     replace G := grown_trans G (grown_below bB (some g))
     have tB := World.ownsRow.lt OB
     obtain ⟨aB, kB, rfl⟩ := OB.form
     obtain ⟨mB, hmB⟩ : ∃ y, x1.length = y := ⟨_, rfl⟩
     rw [hmB] at OB tB ⊢
     clear bB
     clear hHeld
     refine hKK.out _ _ ⟨⟨V.cell 0 rfl, V.cell 1 rfl⟩, ⟨Q.cell 0 rfl, Q.cell 1 rfl, Q.cell 2 rfl⟩⟩ (fun hHeld => ?_)
     clear hKK KK
     refine' tj 11 27 rfl ?_ ?_;rotate_left
     ·intro w h; (try dsimp only at h); go_simp; try with_reducible rfl
     simp only [pU]
     refine' tj 12 39 rfl ?_ ?_;rotate_left
     ·intro w h; (try dsimp only at h); go_simp; try with_reducible rfl
     simp only [pU]
     refine' tj 13 40 rfl ?_ ?_;rotate_left
     ·intro w h; (try dsimp only at h); go_simp; try with_reducible rfl
     simp only [pU]
     refine rd 14 rfl (fun KK hKK => ?_)
     go_simp
     obtain ⟨wl11, hwl11⟩ : ∃ y, wk10.alloc (.cells #[.string ⟨#[]⟩, .int .i64 0, .string ⟨#[]⟩, .slice none 0 0] 93) = y := ⟨_, rfl⟩
     have ba : Below wk10.heap.size wk10 wl11 := hwl11 ▸ qalloc _ _
     have zwl11 : wl11.heap.size = wk10.heap.size + 1 := by rw [← hwl11]; simp
     replace V := V.up ba
     replace Q := Q.up ba
     replace Z := Z.up ba
     replace O := O.below ba
     replace OB := OB.below ba
     replace T := T.below ba
     replace C := C.below (by omega) ba
     replace G := grown_trans G (grown_below ba (some g))
     have lg : Loc wl11 wk10.heap.size #[.string ⟨#[]⟩, .int .i64 0, .string ⟨#[]⟩, .slice none 0 0] := hwl11 ▸ loc_at wk10 _ _ rfl
     rw [hwl11]
     clear hwl11 ba
     clear hHeld
     refine hKK.out _ _ ⟨⟨V.cell 0 rfl, V.cell 1 rfl⟩, ⟨Q.cell 0 rfl, Q.cell 1 rfl, Q.cell 2 rfl⟩⟩ (fun hHeld => ?_)
     clear hKK KK
     have q0 := lg.cell 0 rfl
     have q1 := lg.cell 1 rfl
     have q2 := lg.cell 2 rfl
     have q3 := lg.cell 3 rfl
     have FG := lg.frozen
     have ll := lg.lt
     obtain ⟨ws, hws⟩ : ∃ y, ((((wl11.setCell ⟨wk10.heap.size, 0, none⟩ (.string m1)).setCell ⟨wk10.heap.size, 1, none⟩ (.int .i64 n1)).setCell ⟨wk10.heap.size, 2, none⟩ (.string s1)).setCell ⟨wk10.heap.size, 3, none⟩ (.slice aB mB kB)) = y := ⟨_, rfl⟩
     have k3 : Kp wl11 ws (fun k => k = wk10.heap.size) := hws ▸ kp4 _ _ _ _ _ _
     replace lg : Loc ws (wk10.heap.size) #[.string m1, .int .i64 n1, .string s1, .slice aB mB kB] := hws ▸ lg.set4 _ _ _ _
     replace C : Cur ws base g ao ca zs := hws ▸ (((C.set (by omega) _ _).set (by omega) _ _).set (by omega) _ _).set (by omega) _ _
     replace G : w.grownBy ws (some g) := hws ▸ grown_set (grown_set (grown_set (grown_set G (by omega) _ _) (by omega) _ _) (by omega) _ _) (by omega) _ _
     replace V := V.kp k3 (by omega)
     replace Q := Q.kp k3 (by omega)
     replace Z := Z.kp k3 (by omega)
     replace OB := OB.kp k3 (fun j hj e => by have := tB j hj; omega)
     have zs3 := k3.size
     refine rd 15 rfl (fun KK hKK => ?_)
     go_simp
     try rw [hws]
     clear hws k3 q0 q1 q2 q3 FG
     clear hHeld
     refine hKK.out _ _ ⟨⟨V.cell 0 rfl, V.cell 1 rfl⟩, ⟨Q.cell 0 rfl, Q.cell 1 rfl, Q.cell 2 rfl⟩⟩ (fun hHeld => ?_)
     clear hKK KK
     refine' tj 16 9 rfl ?_ ?_;rotate_left
     ·intro w h; (try dsimp only at h); go_simp; try with_reducible rfl
     simp only [pU]
     clear hHeld
     refine wdn ?_
     have y0 := lg.cell 0 rfl
     have y1 := lg.cell 1 rfl
     have y2 := lg.cell 2 rfl
     have y3 := lg.cell 3 rfl
     have r0 := Z.cell 0 rfl
     have r1 := Z.cell 1 rfl
     have r2 := Z.cell 2 rfl
     have r3 := Z.cell 3 rfl
     have fz := Z.frozen
     have K5 := kp4 ws (w.heap.size + 1) (.string m1) (.int .i64 n1) (.string s1) (.slice aB mB kB)
     have HF := hide (And.intro ((OB.kp K5 (fun j hj e => by have := tB j hj; omega)).mono (show w.heap.size ≤ _ by omega)) (And.intro ((((C.set (r := w.heap.size + 1) (by omega) 0 (.string m1)).set (r := w.heap.size + 1) (by omega) 1 (.int .i64 n1)).set (r := w.heap.size + 1) (by omega) 2 (.string s1)).set (r := w.heap.size + 1) (by omega) 3 (.slice aB mB kB)) (grown_set (grown_set (grown_set (grown_set G (r := w.heap.size + 1) (by omega) 0 (.string m1)) (r := w.heap.size + 1) (by omega) 1 (.int .i64 n1)) (r := w.heap.size + 1) (by omega) 2 (.string s1)) (r := w.heap.size + 1) (by omega) 3 (.slice aB mB kB))))
     clear V Q Z O OB T lg C G K5 BN
     go_wp2
     refine bodyPost_ret (v := bv m1 n1 s1 (.slice aB mB kB)) (by simp [results, Tryz.results64, go_sem, r0, r1, r2, r3]) rfl ?_
     exact ⟨m1, n1, s1, _, x1, rfl, hm1, hn1, hs1, hx1, hw1, HF.out.1, HF.out.2.1, HF.out.2.2⟩
    ·go_simp
     obtain ⟨wl12, hwl12⟩ : ∃ y, wk9.alloc (.cells #[.string ⟨#[]⟩, .int .i64 0, .string ⟨#[]⟩, .slice none 0 0] 93) = y := ⟨_, rfl⟩
     have ba : Below wk9.heap.size wk9 wl12 := hwl12 ▸ qalloc _ _
     have zwl12 : wl12.heap.size = wk9.heap.size + 1 := by rw [← hwl12]; simp
     replace V := V.up ba
     replace Q := Q.up ba
     replace Z := Z.up ba
     replace O := O.below ba
     replace T := T.below ba
     replace C := C.below (by omega) ba
     replace G := grown_trans G (grown_below ba (some g))
     have lg : Loc wl12 wk9.heap.size #[.string ⟨#[]⟩, .int .i64 0, .string ⟨#[]⟩, .slice none 0 0] := hwl12 ▸ loc_at wk9 _ _ rfl
     rw [hwl12]
     clear hwl12 ba
     clear hHeld
     refine hKK.out _ _ ⟨⟨V.cell 0 rfl, V.cell 1 rfl⟩, ⟨Q.cell 0 rfl, Q.cell 1 rfl, Q.cell 2 rfl⟩⟩ (fun hHeld => ?_)
     clear hKK KK
     refine rd 10 rfl (fun KK hKK => ?_)
     go_simp
     refine (BN.out _ _ _ _ _ _ (by omega) ⟨by omega, by omega⟩ (T.rt (by omega)) (O.ri (by omega))).mono ?_
     rintro e wk13 ⟨m1, n1, s1, uB, x1, q1, rfl, hm1, hn1, hs1, hx1, hw1, OB, bB⟩
     have zwk13 := bB.size
     replace V := V.up bB
     replace Q := Q.up bB
     replace Z := Z.up bB
     replace lg := lg.up bB
     replace O := O.below bB
     replace T := T.below bB
     replace C := C.below (by omega) bB
     replace G := grown_trans G (grown_below bB (some g))
     have tB := World.ownsRow.lt OB
     obtain ⟨aB, kB, rfl⟩ := OB.form
     obtain ⟨mB, hmB⟩ : ∃ y, x1.length = y := ⟨_, rfl⟩
     rw [hmB] at OB tB ⊢
     clear bB
     clear hHeld
     refine hKK.out _ _ ⟨⟨V.cell 0 rfl, V.cell 1 rfl⟩, ⟨Q.cell 0 rfl, Q.cell 1 rfl, Q.cell 2 rfl⟩⟩ (fun hHeld => ?_)
     clear hKK KK
     refine' tj 11 27 rfl ?_ ?_;rotate_left
     ·intro w h; (try dsimp only at h); go_simp; try with_reducible rfl
     simp only [pU]
     refine' tj 12 39 rfl ?_ ?_;rotate_left
     ·intro w h; (try dsimp only at h); go_simp; try with_reducible rfl
     simp only [pU]
     refine' tj 13 40 rfl ?_ ?_;rotate_left
     ·intro w h; (try dsimp only at h); go_simp; try with_reducible rfl
     simp only [pU]
     have q0 := lg.cell 0 rfl
     have q1 := lg.cell 1 rfl
     have q2 := lg.cell 2 rfl
     have q3 := lg.cell 3 rfl
     have FG := lg.frozen
     have ll := lg.lt
     obtain ⟨ws, hws⟩ : ∃ y, ((((wk13.setCell ⟨wk9.heap.size, 0, none⟩ (.string m1)).setCell ⟨wk9.heap.size, 1, none⟩ (.int .i64 n1)).setCell ⟨wk9.heap.size, 2, none⟩ (.string s1)).setCell ⟨wk9.heap.size, 3, none⟩ (.slice aB mB kB)) = y := ⟨_, rfl⟩
     have k3 : Kp wk13 ws (fun k => k = wk9.heap.size) := hws ▸ kp4 _ _ _ _ _ _
     replace lg : Loc ws (wk9.heap.size) #[.string m1, .int .i64 n1, .string s1, .slice aB mB kB] := hws ▸ lg.set4 _ _ _ _
     replace C : Cur ws base g ao ca zs := hws ▸ (((C.set (by omega) _ _).set (by omega) _ _).set (by omega) _ _).set (by omega) _ _
     replace G : w.grownBy ws (some g) := hws ▸ grown_set (grown_set (grown_set (grown_set G (by omega) _ _) (by omega) _ _) (by omega) _ _) (by omega) _ _
     replace V := V.kp k3 (by omega)
     replace Q := Q.kp k3 (by omega)
     replace Z := Z.kp k3 (by omega)
     replace OB := OB.kp k3 (fun j hj e => by have := tB j hj; omega)
     have zs3 := k3.size
     refine rd 15 rfl (fun KK hKK => ?_)
     go_simp
     try rw [hws]
     clear hws k3 q0 q1 q2 q3 FG
     clear hHeld
     refine hKK.out _ _ ⟨⟨V.cell 0 rfl, V.cell 1 rfl⟩, ⟨Q.cell 0 rfl, Q.cell 1 rfl, Q.cell 2 rfl⟩⟩ (fun hHeld => ?_)
     clear hKK KK
     refine' tj 16 9 rfl ?_ ?_;rotate_left
     ·intro w h; (try dsimp only at h); go_simp; try with_reducible rfl
     simp only [pU]
     clear hHeld
     refine wdn ?_
     have y0 := lg.cell 0 rfl
     have y1 := lg.cell 1 rfl
     have y2 := lg.cell 2 rfl
     have y3 := lg.cell 3 rfl
     have r0 := Z.cell 0 rfl
     have r1 := Z.cell 1 rfl
     have r2 := Z.cell 2 rfl
     have r3 := Z.cell 3 rfl
     have fz := Z.frozen
     have K5 := kp4 ws (w.heap.size + 1) (.string m1) (.int .i64 n1) (.string s1) (.slice aB mB kB)
     have HF := hide (And.intro ((OB.kp K5 (fun j hj e => by have := tB j hj; omega)).mono (show w.heap.size ≤ _ by omega)) (And.intro ((((C.set (r := w.heap.size + 1) (by omega) 0 (.string m1)).set (r := w.heap.size + 1) (by omega) 1 (.int .i64 n1)).set (r := w.heap.size + 1) (by omega) 2 (.string s1)).set (r := w.heap.size + 1) (by omega) 3 (.slice aB mB kB)) (grown_set (grown_set (grown_set (grown_set G (r := w.heap.size + 1) (by omega) 0 (.string m1)) (r := w.heap.size + 1) (by omega) 1 (.int .i64 n1)) (r := w.heap.size + 1) (by omega) 2 (.string s1)) (r := w.heap.size + 1) (by omega) 3 (.slice aB mB kB))))
     clear V Q Z O OB T lg C G K5 BN
     go_wp2
     refine bodyPost_ret (v := bv m1 n1 s1 (.slice aB mB kB)) (by simp [results, Tryz.results64, go_sem, r0, r1, r2, r3]) rfl ?_
     exact ⟨m1, n1, s1, _, x1, rfl, hm1, hn1, hs1, hx1, hw1, HF.out.1, HF.out.2.1, HF.out.2.2⟩
   ·go_simp
    obtain ⟨wl14, hwl14⟩ : ∃ y, wd.alloc (.cells #[.string ⟨#[]⟩, .int .i64 0, .string ⟨#[]⟩, .slice none 0 0] 93) = y := ⟨_, rfl⟩
    have ba : Below wd.heap.size wd wl14 := hwl14 ▸ qalloc _ _
    have zwl14 : wl14.heap.size = wd.heap.size + 1 := by rw [← hwl14]; simp
    replace V := V.up ba
    replace Q := Q.up ba
    replace Z := Z.up ba
    replace O := O.below ba
    replace T := T.below ba
    replace C := C.below (by omega) ba
    replace G := grown_trans G (grown_below ba (some g))
    have lg : Loc wl14 wd.heap.size #[.string ⟨#[]⟩, .int .i64 0, .string ⟨#[]⟩, .slice none 0 0] := hwl14 ▸ loc_at wd _ _ rfl
    rw [hwl14]
    clear hwl14 ba
    clear hHeld
    refine hKK.out _ _ ⟨⟨V.cell 0 rfl, V.cell 1 rfl⟩, ⟨Q.cell 0 rfl, Q.cell 1 rfl, Q.cell 2 rfl⟩⟩ (fun hHeld => ?_)
    clear hKK KK
    refine rd 6 rfl (fun KK hKK => ?_)
    go_simp
    refine (below_any base g ca ao zs 4 _ (by omega) (by omega) (by omega) C).mono ?_
    rintro e wk15 ⟨k4, rfl, k40, k41, c1, e1⟩
    have zwk15 := e1.size
    obtain ⟨t4, ht4, t40, t41⟩ : ∃ t, IntKind.i64.wrap (k4.tdiv 3) = t ∧ 0 ≤ t ∧ t ≤ 1 := ⟨_, rfl, by rw [IntKind.wrap_i64, Int.tdiv_eq_ediv_of_nonneg k40]; omega, by rw [IntKind.wrap_i64, Int.tdiv_eq_ediv_of_nonneg k40]; omega⟩
    have hw2 : IntKind.i64.wrap (v + 1 + t4) = v + 1 + t4 := by rw [IntKind.wrap_i64]; omega
    replace V := V.grown e1 (by omega)
    replace Q := Q.grown e1 (by omega)
    replace Z := Z.grown e1 (by omega)
    replace lg := lg.grown e1 (by omega)
    replace O := O.drawn e1 (by omega)
    replace T := T.grown e1 (by omega)
    replace G := grown_trans G e1
    replace C := c1
    clear c1 e1
    clear hHeld
    refine hKK.out _ _ ⟨⟨V.cell 0 rfl, V.cell 1 rfl⟩, ⟨Q.cell 0 rfl, Q.cell 1 rfl, Q.cell 2 rfl⟩⟩ (fun hHeld => ?_)
    clear hKK KK
    refine' tj 7 35 rfl ?_ ?_;rotate_left
    ·intro w h; (try dsimp only at h); go_simp; try with_reducible rfl
    simp only [pU]
    refine' tj 8 36 rfl ?_ ?_;rotate_left
    ·intro w h; (try dsimp only at h); go_simp; try with_reducible rfl
    simp only [pU]
    refine rd 10 rfl (fun KK hKK => ?_)
    go_simp
    refine (BN.out _ _ _ _ _ _ (by omega) ⟨by omega, by omega⟩ (T.rt (by omega)) (O.ri (by omega))).mono ?_
    rintro e wk16 ⟨m1, n1, s1, uB, x1, q1, rfl, hm1, hn1, hs1, hx1, hw1, OB, bB⟩
    have zwk16 := bB.size
    replace V := V.up bB
    replace Q := Q.up bB
    replace Z := Z.up bB
    replace lg := lg.up bB
    replace O := O.below bB
    replace T := T.below bB
    replace C := C.below (by omega) bB
    replace G := grown_trans G (grown_below bB (some g))
    have tB := World.ownsRow.lt OB
    obtain ⟨aB, kB, rfl⟩ := OB.form
    obtain ⟨mB, hmB⟩ : ∃ y, x1.length = y := ⟨_, rfl⟩
    rw [hmB] at OB tB ⊢
    clear bB
    clear hHeld
    refine hKK.out _ _ ⟨⟨V.cell 0 rfl, V.cell 1 rfl⟩, ⟨Q.cell 0 rfl, Q.cell 1 rfl, Q.cell 2 rfl⟩⟩ (fun hHeld => ?_)
    clear hKK KK
    refine' tj 11 27 rfl ?_ ?_;rotate_left
    ·intro w h; (try dsimp only at h); go_simp; try with_reducible rfl
    simp only [pU]
    refine' tj 12 39 rfl ?_ ?_;rotate_left
    ·intro w h; (try dsimp only at h); go_simp; try with_reducible rfl
    simp only [pU]
    refine' tj 13 40 rfl ?_ ?_;rotate_left
    ·intro w h; (try dsimp only at h); go_simp; try with_reducible rfl
    simp only [pU]
    have q0 := lg.cell 0 rfl
    have q1 := lg.cell 1 rfl
    have q2 := lg.cell 2 rfl
    have q3 := lg.cell 3 rfl
    have FG := lg.frozen
    have ll := lg.lt
    obtain ⟨ws, hws⟩ : ∃ y, ((((wk16.setCell ⟨wd.heap.size, 0, none⟩ (.string m1)).setCell ⟨wd.heap.size, 1, none⟩ (.int .i64 n1)).setCell ⟨wd.heap.size, 2, none⟩ (.string s1)).setCell ⟨wd.heap.size, 3, none⟩ (.slice aB mB kB)) = y := ⟨_, rfl⟩
    have k3 : Kp wk16 ws (fun k => k = wd.heap.size) := hws ▸ kp4 _ _ _ _ _ _
    replace lg : Loc ws (wd.heap.size) #[.string m1, .int .i64 n1, .string s1, .slice aB mB kB] := hws ▸ lg.set4 _ _ _ _
    replace C : Cur ws base g ao ca zs := hws ▸ (((C.set (by omega) _ _).set (by omega) _ _).set (by omega) _ _).set (by omega) _ _
    replace G : w.grownBy ws (some g) := hws ▸ grown_set (grown_set (grown_set (grown_set G (by omega) _ _) (by omega) _ _) (by omega) _ _) (by omega) _ _
    replace V := V.kp k3 (by omega)
    replace Q := Q.kp k3 (by omega)
    replace Z := Z.kp k3 (by omega)
    replace OB := OB.kp k3 (fun j hj e => by have := tB j hj; omega)
    have zs3 := k3.size
    refine rd 15 rfl (fun KK hKK => ?_)
    go_simp
    try rw [hws]
    clear hws k3 q0 q1 q2 q3 FG
    clear hHeld
    refine hKK.out _ _ ⟨⟨V.cell 0 rfl, V.cell 1 rfl⟩, ⟨Q.cell 0 rfl, Q.cell 1 rfl, Q.cell 2 rfl⟩⟩ (fun hHeld => ?_)
    clear hKK KK
    refine' tj 16 9 rfl ?_ ?_;rotate_left
    ·intro w h; (try dsimp only at h); go_simp; try with_reducible rfl
    simp only [pU]
    clear hHeld
    refine wdn ?_
    have y0 := lg.cell 0 rfl
    have y1 := lg.cell 1 rfl
    have y2 := lg.cell 2 rfl
    have y3 := lg.cell 3 rfl
    have r0 := Z.cell 0 rfl
    have r1 := Z.cell 1 rfl
    have r2 := Z.cell 2 rfl
    have r3 := Z.cell 3 rfl
    have fz := Z.frozen
    have K5 := kp4 ws (w.heap.size + 1) (.string m1) (.int .i64 n1) (.string s1) (.slice aB mB kB)
    have HF := hide (And.intro ((OB.kp K5 (fun j hj e => by have := tB j hj; omega)).mono (show w.heap.size ≤ _ by omega)) (And.intro ((((C.set (r := w.heap.size + 1) (by omega) 0 (.string m1)).set (r := w.heap.size + 1) (by omega) 1 (.int .i64 n1)).set (r := w.heap.size + 1) (by omega) 2 (.string s1)).set (r := w.heap.size + 1) (by omega) 3 (.slice aB mB kB)) (grown_set (grown_set (grown_set (grown_set G (r := w.heap.size + 1) (by omega) 0 (.string m1)) (r := w.heap.size + 1) (by omega) 1 (.int .i64 n1)) (r := w.heap.size + 1) (by omega) 2 (.string s1)) (r := w.heap.size + 1) (by omega) 3 (.slice aB mB kB))))
    clear V Q Z O OB T lg C G K5 BN
    go_wp2
    refine bodyPost_ret (v := bv m1 n1 s1 (.slice aB mB kB)) (by simp [results, Tryz.results64, go_sem, r0, r1, r2, r3]) rfl ?_
    exact ⟨m1, n1, s1, _, x1, rfl, hm1, hn1, hs1, hx1, hw1, HF.out.1, HF.out.2.1, HF.out.2.2⟩
end Go.Proofs.YtcclbejpgiogaaaGreatDoor
