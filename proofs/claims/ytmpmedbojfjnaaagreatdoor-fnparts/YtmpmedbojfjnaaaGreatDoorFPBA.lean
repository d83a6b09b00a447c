/- Texts that belong together: DrawTabAdd, DrawTabGet. -/
import Derived.Test.YtmpmedbojfjnaaaGreatDoorFPAZ
import Derived.Test.YtmpmedbojfjnaaaGreatDoorFPAK
import Derived.Test.YtmpmedbojfjnaaaGreatDoorFPAS
import Derived.Test.YtmpmedbojfjnaaaGreatDoorFPAN
import Derived.Test.YtmpmedbojfjnaaaGreatDoorFPAE
import Derived.Deep.RegionHeld3
import Derived.Deep.DeepCutAuto
import Derived.Test.YtmpmedbojfjnaaaGreatDoorFPAP
namespace Go.Proofs.YtmpmedbojfjnaaaGreatDoor
open Go.RowKit
set_option linter.unusedSectionVars false
variable [∀ (a b c d : Int), Decidable (Ok4 a b c d)]
variable [∀ (a b c d : Nat), Decidable (okN a b c d)]
variable [∀ (x : T4), Decidable (OkT x)]
variable [∀ (n f : Int), Decidable (COk n f)]
variable [∀ (last : Int) (s : St), Decidable (GoodSt last s)]
variable [∀ (n : Int) (s : List Int), Decidable (OkL n s)]

set_option maxHeartbeats 8000000 in
set_option maxRecDepth 100000 in
theorem drawTableAdd (ao : Option Addr) (ca : Nat) (zs : List Int) (w : World) (h : DCode w ao zs) :
 Calls Tryz.prog 29 #[.slice ao zs.length ca] w fun e w' => ∃ (n f : Int) (t : Value) (ps : List Pt) (v : Int) (s : ByteArray) (u : Value) (xs : List Int), e = .returned (.tuple #[cv n f, t, qv v s u]) ∧ ps.length ≤ 5 ∧ Hid (SmP 40 ps) ∧ OPt w' w.heap.size t ps ∧ s.size ≤ 8001 ∧ xs.length ≤ 9 ∧ Hid (WfL xs) ∧ OI w' w.heap.size u xs ∧ Below w.heap.size w w' := by
 obtain ⟨w0, hw0⟩ : ∃ w0, (w.alloc (.cells #[.int .i64 0, .int .i64 0] 25)).alloc (.cells #[.int .i64 0, .string ⟨#[]⟩, .slice none 0 0] 52) = w0 := ⟨_, rfl⟩
 have B : Below w.heap.size w w0 := hw0 ▸ qalloc2 _ _ _
 have R : Loc w0 w.heap.size #[.int .i64 0, .int .i64 0] := hw0 ▸ (loc_at w _ _ rfl).alloc _
 have Z : Loc w0 (w.heap.size + 1) #[.int .i64 0, .string ⟨#[]⟩, .slice none 0 0] := hw0 ▸ loc_at (w.alloc _) _ _ (by simp)
 have s0 : w.heap.size + 1 + 1 ≤ w0.heap.size := by rw [← hw0]; simp
 have D0 := h.below B (Nat.le_refl _)
 have NW := hide (new_any ao ca zs w0 D0.len D0.code D0.fit)
 clear h D0
 go_enter Tryz.func29, Tryz.ntmps29
 go_wp2_with fail
 clear hw0
 refine (unhide NW).mono ?_
 rintro e w1 ⟨rfl, C, b1⟩
 replace B := B.trans (b1.mono B.size)
 replace R := R.below b1 R.lt
 replace Z := Z.below b1 Z.lt
 have s1 := b1.size
 generalize w0.heap.size = g at *
 have hg1 := C.lt
 clear b1 NW
 go_wp2_with fail
 refine (drawConf g g ca ao zs _ (by omega) C).mono ?_
 rintro e w2 ⟨n, f, rfl, ⟨hn0, hn1⟩, c1, e1⟩
 have s2 := e1.size
 replace R := R.grown e1 (by omega)
 replace Z := Z.grown e1 (by omega)
 replace B := cur_below e1 B B.size (by omega)
 replace C := c1
 clear c1 e1
 obtain ⟨w3, hw3⟩ : ∃ y, w2.alloc (.cells #[.int .i64 n, .int .i64 f] 25) = y := ⟨_, rfl⟩
 have bb : Below w2.heap.size w2 w3 := hw3 ▸ qalloc _ _
 have X : Loc w3 w2.heap.size #[.int .i64 n, .int .i64 f] := hw3 ▸ loc_at w2 _ _ rfl
 have s3 : w2.heap.size + 1 ≤ w3.heap.size := by rw [← hw3]; simp
 replace R := R.below bb R.lt
 replace Z := Z.below bb Z.lt
 replace C := C.below (by omega) bb
 replace B := B.trans (bb.mono B.size)
 clear bb
 have x0 := X.cell 0 rfl
 have x1 := X.cell 1 rfl
 go_wp2_with fail
 clear hw3
 refine (drawTab g g ca ao zs n f _ (by omega) (by omega) C).mono ?_
 rintro e w4 ⟨t, ps, rfl, hpl, hw, T, c1, e1⟩
 have s4 := e1.size
 replace R := R.grown e1 (by omega)
 replace Z := Z.grown e1 (by omega)
 replace X := X.grown e1 (by omega)
 replace B := cur_below e1 B B.size (by omega)
 replace C := c1
 clear c1 e1
 clear x0 x1
 obtain ⟨ta, tc, htt⟩ := T.form
 obtain ⟨tl, htl⟩ : ∃ l, ps.length = l := ⟨_, rfl⟩
 rw [htl] at htt hpl
 subst htt
 obtain ⟨vs, T⟩ := T
 replace T := T.opr
 replace htl := hide htl
 by_cases hp : 0 < tl
 ·have hd : decide ((0 : Int) < (tl : Int)) = true := by simp; omega
  go_wp2_with fail
  refine (once_any g g ca ao zs 3 _ (by omega) (by omega) (by omega) C).mono ?_
  rintro e w5 ⟨b, rfl, c1, e1⟩
  have s5 := e1.size
  replace T := T.kp (kp_of e1) (fun j h1 h2 => by omega)
  replace R := R.grown e1 (by omega)
  replace Z := Z.grown e1 (by omega)
  replace X := X.grown e1 (by omega)
  replace B := cur_below e1 B B.size (by omega)
  replace C := c1
  clear c1 e1
  cases b
  ·go_upto_region 8 with fail
   refine wp_region_noPanic ?_
   refine wp_region_held_drew (S := fun w' => (w'.cell? ⟨w2.heap.size, 0, none⟩ = some (.int .i64 n) ∧ w'.cell? ⟨w2.heap.size, 1, none⟩ = some (.int .i64 f))) (by kernel_rfl) ⟨X.cell 0 rfl, X.cell 1 rfl⟩ (fun hHeld => ?_)
   obtain ⟨wd, hd⟩ : ∃ wd, w5.drew = wd := ⟨_, rfl⟩
   have bd : Below w5.heap.size w5 wd := hd ▸ Below.drew (Below.refl _ _)
   have sd : w5.heap.size ≤ wd.heap.size := bd.size
   replace T := T.below bd
   replace R := R.below bd R.lt
   replace Z := Z.below bd Z.lt
   replace X := X.below bd X.lt
   replace C := C.below (by omega) bd
   replace B := B.trans (bd.mono B.size)
   rw [hd] at hHeld ⊢
   clear hd bd
   refine tk 0 38 (v := ?_) rfl (hy := .inl ⟨by rfl, ?_⟩) (h := ?_); rotate_left
   ·intro w hSw; (try dsimp only at hSw); go_simp; (try with_reducible rfl)
   simp only [pU]
   refine tk 1 39 (v := ?_) rfl (hy := .inl ⟨by rfl, ?_⟩) (h := ?_); rotate_left
   ·intro w hSw; (try dsimp only at hSw); go_simp; (try with_reducible rfl)
   simp only [pU]
   refine tk 2 40 (v := ?_) rfl (hy := .inl ⟨by rfl, ?_⟩) (h := ?_); rotate_left
   ·intro w hSw; (try dsimp only at hSw); go_simp; (try with_reducible rfl)
   simp only [pU]
   refine tk 3 41 (v := ?_) rfl (hy := .inl ⟨by rfl, ?_⟩) (h := ?_); rotate_left
   ·intro w hSw; (try dsimp only at hSw); go_simp; (try with_reducible rfl)
   simp only [pU]
   refine ready_at (i := 4) rfl (by kernel_rfl) (fun KK hKK => ?_)
   go_simp
   refine (drawPart g g ca ao zs n f _ (by omega) (by omega) C).mono ?_
   rintro e w9 ⟨v, s, u, xs, rfl, hv, hs, hl, hx, O, c1, e1⟩
   have s9 := e1.size
   replace T := T.kp (kp_of e1) (fun j h1 h2 => by omega)
   replace R := R.grown e1 (by omega)
   replace Z := Z.grown e1 (by omega)
   replace X := X.grown e1 (by omega)
   replace B := cur_below e1 B B.size (by omega)
   clear c1 e1 C
   have tO := World.ownsRow.lt O
   obtain ⟨ua, uc, rfl⟩ := O.form
   obtain ⟨uk, huk⟩ : ∃ k, xs.length = k := ⟨_, rfl⟩
   rw [huk] at O tO ⊢
   clear hHeld
   refine hKK.out _ _ ⟨X.cell 0 rfl, X.cell 1 rfl⟩ (fun hHeld => ?_)
   clear hKK KK
   have c0 := R.cell 0 rfl
   have c1 := R.cell 1 rfl
   have fc := R.frozen
   refine ready_at (i := 5) rfl (by kernel_rfl) (fun KK hKK => ?_)
   go_simp
   obtain ⟨wa, hwa⟩ : ∃ y, ((w9.setCell ⟨w.heap.size, 0, none⟩ (.int .i64 n)).setCell ⟨w.heap.size, 1, none⟩ (.int .i64 f)) = y := ⟨_, rfl⟩
   have kwa : Kp w9 wa (fun k => k = w.heap.size) := hwa ▸ (set_kp _ _ _ _).trans (set_kp _ _ _ _)
   replace R : Loc wa (w.heap.size) #[.int .i64 n, .int .i64 f] := hwa ▸ ((R.set 0 _ rfl).set 1 _ rfl)
   replace Z := Z.kp kwa (by omega)
   replace X := X.kp kwa (by omega)
   replace O := O.kp kwa (fun j hj e => by have := tO j hj; omega)
   replace T := T.kp kwa (fun j h1 h2 => by omega)
   replace B := Below.kp B kwa B.size (fun k hk => by omega)
   have zwa := kwa.size
   rw [hwa]
   clear hwa kwa c0 c1 fc
   clear hHeld
   refine hKK.out _ _ ⟨X.cell 0 rfl, X.cell 1 rfl⟩ (fun hHeld => ?_)
   clear hKK KK
   refine tk 6 3 (v := ?_) rfl (hy := .inl ⟨by rfl, ?_⟩) (h := ?_); rotate_left
   ·intro w hSw; (try dsimp only at hSw); go_simp; (try with_reducible rfl)
   simp only [pU]
   have c0 := Z.cell 0 rfl
   have c1 := Z.cell 1 rfl
   have c2 := Z.cell 2 rfl
   have fc := Z.frozen
   refine ready_at (i := 7) rfl (by kernel_rfl) (fun KK hKK => ?_)
   go_simp
   obtain ⟨wb, hwb⟩ : ∃ y, (((wa.setCell ⟨w.heap.size + 1, 0, none⟩ (.int .i64 v)).setCell ⟨w.heap.size + 1, 1, none⟩ (.string s)).setCell ⟨w.heap.size + 1, 2, none⟩ (.slice ua uk uc)) = y := ⟨_, rfl⟩
   have kwb : Kp wa wb (fun k => k = w.heap.size + 1) := hwb ▸ ((set_kp _ _ _ _).trans (set_kp _ _ _ _)).trans (set_kp _ _ _ _)
   replace Z : Loc wb (w.heap.size + 1) #[.int .i64 v, .string s, .slice ua uk uc] := hwb ▸ (((Z.set 0 _ rfl).set 1 _ rfl).set 2 _ rfl)
   replace R := R.kp kwb (by omega)
   replace X := X.kp kwb (by omega)
   replace O := O.kp kwb (fun j hj e => by have := tO j hj; omega)
   replace T := T.kp kwb (fun j h1 h2 => by omega)
   replace B := Below.kp B kwb B.size (fun k hk => by omega)
   have zwb := kwb.size
   rw [hwb]
   clear hwb kwb c0 c1 c2 fc
   clear hHeld
   refine hKK.out _ _ ⟨X.cell 0 rfl, X.cell 1 rfl⟩ (fun hHeld => ?_)
   clear hKK KK
   clear hHeld
   refine wpAnyH_done (by kernel_rfl) ?_ _
   refine NoPanic.normal ?_
   have r0 := R.cell 0 rfl
   have r1 := R.cell 1 rfl
   have z0 := Z.cell 0 rfl
   have z1 := Z.cell 1 rfl
   have z2 := Z.cell 2 rfl
   clear R Z X
   go_wp2
   refine bodyPost_ret (v := .tuple #[cv n f, .slice ta tl tc, qv v s (.slice ua uk uc)]) (by simp [results, Tryz.results29, go_sem, r0, r1, z0, z1, z2]) rfl ?_
   exact ⟨_, _, _, ps, _, _, _, xs, rfl, by rw [unhide htl]; exact hpl, hw, ⟨vs, T.tab.mono (by omega)⟩, hs, (by omega), hx, O.mono (by omega), B⟩
  ·go_wp2_with fail
   refine (below_any g g ca ao zs tl _ (by omega) (by omega) (by omega) C).mono ?_
   rintro e w6 ⟨r, rfl, r0, r1, c1, e1⟩
   have s6 := e1.size
   replace T := T.kp (kp_of e1) (fun j h1 h2 => by omega)
   replace R := R.grown e1 (by omega)
   replace Z := Z.grown e1 (by omega)
   replace X := X.grown e1 (by omega)
   replace B := cur_below e1 B B.size (by omega)
   replace C := c1
   clear c1 e1
   obtain ⟨k, rfl⟩ : ∃ k : Nat, r = k := ⟨r.toNat, by omega⟩
   have hk : k < tl := by omega
   have hkx : k < ps.length := by rw [unhide htl]; exact hk
   have hsz := (unhide hw _ (pt_mem hkx)).1
   obtain ⟨gb, off, u, hta, c0, c1, c2, ru⟩ := (T.rpt (fun p hp => by have := unhide hw p hp; omega)).at k hkx
   obtain ⟨x, hx⟩ : ∃ x, ps.getD k zpt = x := ⟨_, rfl⟩
   rw [hx] at c0 c1 ru hsz
   clear hx
   obtain ⟨m, s, xs⟩ := x
   simp only at c0 c1 hsz ru
   have RU := hide ru
   have CP := hide fun w h => l10Copy_any m s u xs w h
   obtain ⟨ra, rc, rfl⟩ := ru.form
   generalize xs.length = xl at *
   clear ru
   have hta' := hide hta
   subst hta
   go_wp2_with fail
   refine (unhide CP _ (unhide RU)).mono ?_
   rintro e w8 ⟨u8, rfl, o8, b8⟩
   have s8 := b8.size
   replace T := T.below b8
   replace R := R.below b8 R.lt
   replace Z := Z.below b8 Z.lt
   replace X := X.below b8 X.lt
   replace C := C.below (by omega) b8
   replace B := B.trans (b8.mono B.size)
   obtain ⟨ua, uc, rfl⟩ := o8.form
   clear b8 c0 c1 c2 o8 RU CP
   generalize xs.length = xl at *
   obtain ⟨w9, hw9⟩ : ∃ y, w8.alloc (.cells #[.int .i64 m, .string s, .slice ua xl uc] 52) = y := ⟨_, rfl⟩
   have bb : Below w8.heap.size w8 w9 := hw9 ▸ qalloc _ _
   have Y : Loc w9 w8.heap.size #[.int .i64 m, .string s, .slice ua xl uc] := hw9 ▸ loc_at w8 _ _ rfl
   have s9 : w8.heap.size + 1 ≤ w9.heap.size := by rw [← hw9]; simp
   replace T := T.below bb
   replace R := R.below bb R.lt
   replace Z := Z.below bb Z.lt
   replace X := X.below bb X.lt
   replace C := C.below (by omega) bb
   replace B := B.trans (bb.mono B.size)
   clear bb
   go_wp2_with fail
   clear hw9
   refine (below_any g g ca ao zs 4 _ (by omega) (by omega) (by omega) C).mono ?_
   rintro e w10 ⟨y, rfl, yy0, yy1, c1, e1⟩
   have s10 := e1.size
   replace T := T.kp (kp_of e1) (fun j h1 h2 => by omega)
   replace R := R.grown e1 (by omega)
   replace Z := Z.grown e1 (by omega)
   replace X := X.grown e1 (by omega)
   replace Y := Y.grown e1 (by omega)
   replace B := cur_below e1 B B.size (by omega)
   replace C := c1
   clear c1 e1
   obtain ⟨wj, hwj⟩ : ∃ y', w10.alloc (.cells #[.int .i64 y] 3) = y' := ⟨_, rfl⟩
   have bj : Below w10.heap.size w10 wj := hwj ▸ qalloc _ _
   have sj : w10.heap.size + 1 ≤ wj.heap.size := by rw [← hwj]; simp
   have O : OI wj w10.heap.size (.slice (some ⟨w10.heap.size, 0, none⟩) 1 1) [y] := by
    have := World.ownsRow_lit (base := w10.heap.size) (e := 3) (size := 1) w10 #[.int .i64 y] 1 (Nat.le_refl _) (by unfold maxLen; omega) (by simp)
    rw [hwj] at this
    simpa [OI] using this
   replace T := T.below bj
   replace R := R.below bj R.lt
   replace Z := Z.below bj Z.lt
   replace X := X.below bj X.lt
   replace Y := Y.below bj Y.lt
   replace C := C.below (by omega) bj
   replace B := B.trans (bj.mono B.size)
   clear bj
   have tO := World.ownsRow.lt O
   have y0 := Y.cell 0 rfl
   have y1 := Y.cell 1 rfl
   have y2 := Y.cell 2 rfl
   have fy := Y.frozen
   obtain ⟨wk, hwk⟩ : ∃ y', wj.setCell ⟨w8.heap.size, 2, none⟩ (.slice (some ⟨w10.heap.size, 0, none⟩) 1 1) = y' := ⟨_, rfl⟩
   have kwk : Kp wj wk (fun k => k = w8.heap.size) := hwk ▸ set_kp _ _ _ _
   have Y2 : Loc wk (w8.heap.size) #[.int .i64 m, .string s, .slice (some ⟨w10.heap.size, 0, none⟩) 1 1] := hwk ▸ (Y.set 2 _ rfl)
   replace R := R.kp kwk (by omega)
   replace Z := Z.kp kwk (by omega)
   replace X := X.kp kwk (by omega)
   replace O := O.kp kwk (fun j hj e => by have := tO j hj; simp [Value.ownBlock] at hj; omega)
   replace T := T.kp kwk (fun j h1 h2 => by omega)
   replace B := Below.kp B kwk B.size (fun k hk => by omega)
   have zwk := kwk.size
   clear C kwk Y
   have Y := Y2
   clear Y2
   go_upto_region 7 with fail
   clear hwk hwj y0 y1 y2 fy
   refine wp_region_noPanic ?_
   refine wp_region_held_drew (S := fun w' => (w'.cell? ⟨w2.heap.size, 0, none⟩ = some (.int .i64 n) ∧ w'.cell? ⟨w2.heap.size, 1, none⟩ = some (.int .i64 f)) ∧ (w'.cell? ⟨w8.heap.size, 0, none⟩ = some (.int .i64 m) ∧ w'.cell? ⟨w8.heap.size, 1, none⟩ = some (.string s) ∧ w'.cell? ⟨w8.heap.size, 2, none⟩ = some (.slice (some ⟨w10.heap.size, 0, none⟩) 1 1))) (by kernel_rfl) ⟨⟨X.cell 0 rfl, X.cell 1 rfl⟩, ⟨Y.cell 0 rfl, Y.cell 1 rfl, Y.cell 2 rfl⟩⟩ (fun hHeld => ?_)
   obtain ⟨wd, hd'⟩ : ∃ wd, wk.drew = wd := ⟨_, rfl⟩
   have bd : Below wk.heap.size wk wd := hd' ▸ Below.drew (Below.refl _ _)
   have sd : wk.heap.size ≤ wd.heap.size := bd.size
   replace R := R.below bd R.lt
   replace Z := Z.below bd Z.lt
   replace X := X.below bd X.lt
   replace Y := Y.below bd Y.lt
   replace O := O.below bd
   replace T := T.below bd
   replace B := B.trans (bd.mono B.size)
   rw [hd'] at hHeld ⊢
   clear hd' bd
   refine tk 0 35 (v := ?_) rfl (hy := .inl ⟨by rfl, ?_⟩) (h := ?_); rotate_left
   ·intro w hSw; (try dsimp only at hSw); go_simp; (try with_reducible rfl)
   simp only [pU]
   refine tk 1 36 (v := ?_) rfl (hy := .inl ⟨by rfl, ?_⟩) (h := ?_); rotate_left
   ·intro w hSw; (try dsimp only at hSw); go_simp; (try with_reducible rfl)
   simp only [pU]
   refine tk 2 37 (v := ?_) rfl (hy := .inl ⟨by rfl, ?_⟩) (h := ?_); rotate_left
   ·intro w hSw; (try dsimp only at hSw); go_simp; (try with_reducible rfl)
   simp only [pU]
   have c0 := R.cell 0 rfl
   have c1 := R.cell 1 rfl
   have fc := R.frozen
   refine ready_at (i := 3) rfl (by kernel_rfl) (fun KK hKK => ?_)
   go_simp
   obtain ⟨wa, hwa⟩ : ∃ y, ((wd.setCell ⟨w.heap.size, 0, none⟩ (.int .i64 n)).setCell ⟨w.heap.size, 1, none⟩ (.int .i64 f)) = y := ⟨_, rfl⟩
   have kwa : Kp wd wa (fun k => k = w.heap.size) := hwa ▸ (set_kp _ _ _ _).trans (set_kp _ _ _ _)
   replace R : Loc wa (w.heap.size) #[.int .i64 n, .int .i64 f] := hwa ▸ ((R.set 0 _ rfl).set 1 _ rfl)
   replace Z := Z.kp kwa (by omega)
   replace X := X.kp kwa (by omega)
   replace Y := Y.kp kwa (by omega)
   replace O := O.kp kwa (fun j hj e => by have := tO j hj; omega)
   replace T := T.kp kwa (fun j h1 h2 => by omega)
   replace B := Below.kp B kwa B.size (fun k hk => by omega)
   have zwa := kwa.size
   rw [hwa]
   clear hwa kwa c0 c1 fc
   clear hHeld
   refine hKK.out _ _ ⟨⟨X.cell 0 rfl, X.cell 1 rfl⟩, ⟨Y.cell 0 rfl, Y.cell 1 rfl, Y.cell 2 rfl⟩⟩ (fun hHeld => ?_)
   clear hKK KK
   refine tk 4 3 (v := ?_) rfl (hy := .inl ⟨by rfl, ?_⟩) (h := ?_); rotate_left
   ·intro w hSw; (try dsimp only at hSw); go_simp; (try with_reducible rfl)
   simp only [pU]
   have c0 := Z.cell 0 rfl
   have c1 := Z.cell 1 rfl
   have c2 := Z.cell 2 rfl
   have fc := Z.frozen
   refine ready_at (i := 5) rfl (by kernel_rfl) (fun KK hKK => ?_)
   go_simp
   obtain ⟨wb, hwb⟩ : ∃ y, (((wa.setCell ⟨w.heap.size + 1, 0, none⟩ (.int .i64 m)).setCell ⟨w.heap.size + 1, 1, none⟩ (.string s)).setCell ⟨w.heap.size + 1, 2, none⟩ (.slice (some ⟨w10.heap.size, 0, none⟩) 1 1)) = y := ⟨_, rfl⟩
   have kwb : Kp wa wb (fun k => k = w.heap.size + 1) := hwb ▸ ((set_kp _ _ _ _).trans (set_kp _ _ _ _)).trans (set_kp _ _ _ _)
   replace Z : Loc wb (w.heap.size + 1) #[.int .i64 m, .string s, .slice (some ⟨w10.heap.size, 0, none⟩) 1 1] := hwb ▸ (((Z.set 0 _ rfl).set 1 _ rfl).set 2 _ rfl)
   replace R := R.kp kwb (by omega)
   replace X := X.kp kwb (by omega)
   replace Y := Y.kp kwb (by omega)
   replace O := O.kp kwb (fun j hj e => by have := tO j hj; omega)
   replace T := T.kp kwb (fun j h1 h2 => by omega)
   replace B := Below.kp B kwb B.size (fun k hk => by omega)
   have zwb := kwb.size
   rw [hwb]
   clear hwb kwb c0 c1 c2 fc
   clear hHeld
   refine hKK.out _ _ ⟨⟨X.cell 0 rfl, X.cell 1 rfl⟩, ⟨Y.cell 0 rfl, Y.cell 1 rfl, Y.cell 2 rfl⟩⟩ (fun hHeld => ?_)
   clear hKK KK
   clear hHeld
   refine wpAnyH_done (by kernel_rfl) ?_ _
   refine NoPanic.normal ?_
   have r0 := R.cell 0 rfl
   have r1 := R.cell 1 rfl
   have z0 := Z.cell 0 rfl
   have z1 := Z.cell 1 rfl
   have z2 := Z.cell 2 rfl
   clear R Z X Y
   go_wp2
   refine bodyPost_ret (v := .tuple #[cv n f, .slice (some ⟨gb, off, none⟩) tl tc, qv m s (.slice (some ⟨w10.heap.size, 0, none⟩) 1 1)]) (by simp [results, Tryz.results29, go_sem, r0, r1, z0, z1, z2]) rfl ?_
   exact ⟨_, _, _, ps, _, _, _, [y], rfl, by rw [unhide htl]; exact hpl, hw, ⟨vs, T.tab.mono (by omega)⟩, hsz, (by simp), hide (fun z hz => by simp at hz; subst hz; exact wf_small (by omega) (by omega)), O.mono (by omega), B⟩
 ·have hd : decide ((0 : Int) < (tl : Int)) = false := by simp; omega
  go_upto_region 8 with fail
  refine wp_region_noPanic ?_
  refine wp_region_held_drew (S := fun w' => (w'.cell? ⟨w2.heap.size, 0, none⟩ = some (.int .i64 n) ∧ w'.cell? ⟨w2.heap.size, 1, none⟩ = some (.int .i64 f))) (by kernel_rfl) ⟨X.cell 0 rfl, X.cell 1 rfl⟩ (fun hHeld => ?_)
  obtain ⟨wd, hd⟩ : ∃ wd, w4.drew = wd := ⟨_, rfl⟩
  have bd : Below w4.heap.size w4 wd := hd ▸ Below.drew (Below.refl _ _)
  have sd : w4.heap.size ≤ wd.heap.size := bd.size
  replace T := T.below bd
  replace R := R.below bd R.lt
  replace Z := Z.below bd Z.lt
  replace X := X.below bd X.lt
  replace C := C.below (by omega) bd
  replace B := B.trans (bd.mono B.size)
  rw [hd] at hHeld ⊢
  clear hd bd
  refine tk 0 38 (v := ?_) rfl (hy := .inl ⟨by rfl, ?_⟩) (h := ?_); rotate_left
  ·intro w hSw; (try dsimp only at hSw); go_simp; (try with_reducible rfl)
  simp only [pU]
  refine tk 1 39 (v := ?_) rfl (hy := .inl ⟨by rfl, ?_⟩) (h := ?_); rotate_left
  ·intro w hSw; (try dsimp only at hSw); go_simp; (try with_reducible rfl)
  simp only [pU]
  refine tk 2 40 (v := ?_) rfl (hy := .inl ⟨by rfl, ?_⟩) (h := ?_); rotate_left
  ·intro w hSw; (try dsimp only at hSw); go_simp; (try with_reducible rfl)
  simp only [pU]
  refine tk 3 41 (v := ?_) rfl (hy := .inl ⟨by rfl, ?_⟩) (h := ?_); rotate_left
  ·intro w hSw; (try dsimp only at hSw); go_simp; (try with_reducible rfl)
  simp only [pU]
  refine ready_at (i := 4) rfl (by kernel_rfl) (fun KK hKK => ?_)
  go_simp
  refine (drawPart g g ca ao zs n f _ (by omega) (by omega) C).mono ?_
  rintro e w9 ⟨v, s, u, xs, rfl, hv, hs, hl, hx, O, c1, e1⟩
  have s9 := e1.size
  replace T := T.kp (kp_of e1) (fun j h1 h2 => by omega)
  replace R := R.grown e1 (by omega)
  replace Z := Z.grown e1 (by omega)
  replace X := X.grown e1 (by omega)
  replace B := cur_below e1 B B.size (by omega)
  clear c1 e1 C
  have tO := World.ownsRow.lt O
  obtain ⟨ua, uc, rfl⟩ := O.form
  obtain ⟨uk, huk⟩ : ∃ k, xs.length = k := ⟨_, rfl⟩
  rw [huk] at O tO ⊢
  clear hHeld
  refine hKK.out _ _ ⟨X.cell 0 rfl, X.cell 1 rfl⟩ (fun hHeld => ?_)
  clear hKK KK
  have c0 := R.cell 0 rfl
  have c1 := R.cell 1 rfl
  have fc := R.frozen
  refine ready_at (i := 5) rfl (by kernel_rfl) (fun KK hKK => ?_)
  go_simp
  obtain ⟨wa, hwa⟩ : ∃ y, ((w9.setCell ⟨w.heap.size, 0, none⟩ (.int .i64 n)).setCell ⟨w.heap.size, 1, none⟩ (.int .i64 f)) = y := ⟨_, rfl⟩
  have kwa : Kp w9 wa (fun k => k = w.heap.size) := hwa ▸ (set_kp _ _ _ _).trans (set_kp _ _ _ _)
  replace R : Loc wa (w.heap.size) #[.int .i64 n, .int .i64 f] := hwa ▸ ((R.set 0 _ rfl).set 1 _ rfl)
  replace Z := Z.kp kwa (by omega)
  replace X := X.kp kwa (by omega)
  replace O := O.kp kwa (fun j hj e => by have := tO j hj; omega)
  replace T := T.kp kwa (fun j h1 h2 => by omega)
  replace B := Below.kp B kwa B.size (fun k hk => by omega)
  have zwa := kwa.size
  rw [hwa]
  clear hwa kwa c0 c1 fc
  clear hHeld
  refine hKK.out _ _ ⟨X.cell 0 rfl, X.cell 1 rfl⟩ (fun hHeld => ?_)
  clear hKK KK
  refine tk 6 3 (v := ?_) rfl (hy := .inl ⟨by rfl, ?_⟩) (h := ?_); rotate_left
  ·intro w hSw; (try dsimp only at hSw); go_simp; (try with_reducible rfl)
  simp only [pU]
  have c0 := Z.cell 0 rfl
  have c1 := Z.cell 1 rfl
  have c2 := Z.cell 2 rfl
  have fc := Z.frozen
  refine ready_at (i := 7) rfl (by kernel_rfl) (fun KK hKK => ?_)
  go_simp
  obtain ⟨wb, hwb⟩ : ∃ y, (((wa.setCell ⟨w.heap.size + 1, 0, none⟩ (.int .i64 v)).setCell ⟨w.heap.size + 1, 1, none⟩ (.string s)).setCell ⟨w.heap.size + 1, 2, none⟩ (.slice ua uk uc)) = y := ⟨_, rfl⟩
  have kwb : Kp wa wb (fun k => k = w.heap.size + 1) := hwb ▸ ((set_kp _ _ _ _).trans (set_kp _ _ _ _)).trans (set_kp _ _ _ _)
  replace Z : Loc wb (w.heap.size + 1) #[.int .i64 v, .string s, .slice ua uk uc] := hwb ▸ (((Z.set 0 _ rfl).set 1 _ rfl).set 2 _ rfl)
  replace R := R.kp kwb (by omega)
  replace X := X.kp kwb (by omega)
  replace O := O.kp kwb (fun j hj e => by have := tO j hj; omega)
  replace T := T.kp kwb (fun j h1 h2 => by omega)
  replace B := Below.kp B kwb B.size (fun k hk => by omega)
  have zwb := kwb.size
  rw [hwb]
  clear hwb kwb c0 c1 c2 fc
  clear hHeld
  refine hKK.out _ _ ⟨X.cell 0 rfl, X.cell 1 rfl⟩ (fun hHeld => ?_)
  clear hKK KK
  clear hHeld
  refine wpAnyH_done (by kernel_rfl) ?_ _
  refine NoPanic.normal ?_
  have r0 := R.cell 0 rfl
  have r1 := R.cell 1 rfl
  have z0 := Z.cell 0 rfl
  have z1 := Z.cell 1 rfl
  have z2 := Z.cell 2 rfl
  clear R Z X
  go_wp2
  refine bodyPost_ret (v := .tuple #[cv n f, .slice ta tl tc, qv v s (.slice ua uk uc)]) (by simp [results, Tryz.results29, go_sem, r0, r1, z0, z1, z2]) rfl ?_
  exact ⟨_, _, _, ps, _, _, _, xs, rfl, by rw [unhide htl]; exact hpl, hw, ⟨vs, T.tab.mono (by omega)⟩, hs, (by omega), hx, O.mono (by omega), B⟩

set_option maxHeartbeats 4000000 in
set_option maxRecDepth 100000 in
theorem drawTableGet (ao : Option Addr) (ca : Nat) (zs : List Int) (w : World) (h : DCode w ao zs) :
 Calls Tryz.prog 35 #[.slice ao zs.length ca] w fun e w' => ∃ (t : Value) (ps : List Pt) (x : Int) (s : ByteArray), e = .returned (.tuple #[t, .int .i64 x, .string s]) ∧ ps.length ≤ 5 ∧ Hid (SmP 40 ps) ∧ s.size ≤ 8001 ∧ OPt w' w.heap.size t ps ∧ Below w.heap.size w w' := by
 have NW := hide (new_any ao ca zs w h.len h.code h.fit)
 clear h
 go_enter Tryz.func35, Tryz.ntmps35
 go_wp2_with fail
 refine (unhide NW).mono ?_
 rintro e w1 ⟨rfl, C, B⟩
 have s1 := C.lt
 clear NW
 go_wp2_with fail
 refine (drawConf w.heap.size w.heap.size ca ao zs _ (by omega) C).mono ?_
 rintro e w2 ⟨n, f, rfl, ⟨hn0, hn1⟩, c2, g2⟩
 have s2 := g2.size
 replace B := cur_below g2 B (by omega) (by omega)
 replace C := c2
 clear c2 g2
 go_wp2_with fail
 refine (drawTab w.heap.size w.heap.size ca ao zs n f _ (by omega) (by omega) C).mono ?_
 rintro e w3 ⟨t, ps, rfl, hl, SM, TB, c3, g3⟩
 have s3 := g3.size
 replace B := cur_below g3 B (by omega) (by omega)
 replace C := c3
 obtain ⟨ta, tc, ht⟩ := TB.form
 obtain ⟨pl, hpl⟩ : ∃ l, ps.length = l := ⟨_, rfl⟩
 rw [hpl] at ht hl
 subst ht
 replace hpl := hide hpl
 clear c3 g3
 have TL : Hid (∀ (w3 : World), w2.heap.size ≤ w3.heap.size → OPt w3 w2.heap.size (.slice ta pl tc) ps → Below w.heap.size w w3 → Cur w3 w.heap.size w.heap.size ao ca zs → Calls Tryz.prog 92 #[.pointer (some ⟨w.heap.size, 0, none⟩), .int .i64 5] w3 fun e w5 => ∃ x : Int, e = .returned (.int .i64 x) ∧ OPt w5 w2.heap.size (.slice ta pl tc) ps ∧ Cur w5 w.heap.size w.heap.size ao ca zs ∧ Below w.heap.size w w5 ∧ w2.heap.size ≤ w5.heap.size) := hide fun w3 hz TB B C => by
  refine (below_any w.heap.size w.heap.size ca ao zs 5 _ (by omega) (by omega) (by omega) C).mono ?_
  rintro e w5 ⟨x, rfl, x0, x1, c5, g5⟩
  have kk := kp_of g5
  exact ⟨x, rfl, TB.kp kk (fun j h1 h2 => by omega), c5, cur_below g5 B (by omega) (by omega), Nat.le_trans hz g5.size⟩
 have TN : Hid (∀ (w3 : World), w2.heap.size ≤ w3.heap.size → OPt w3 w2.heap.size (.slice ta pl tc) ps → Below w.heap.size w w3 → Cur w3 w.heap.size w.heap.size ao ca zs → Calls Tryz.prog 98 #[.pointer (some ⟨w.heap.size, 0, none⟩)] w3 fun e w5 => ∃ s : ByteArray, e = .returned (.string s) ∧ s.size ≤ 8001 ∧ OPt w5 w.heap.size (.slice ta pl tc) ps ∧ Below w.heap.size w w5) := hide fun w3 hz TB B C => by
  refine (drawNameR w.heap.size w.heap.size ca ao zs _ (by omega) C).mono ?_
  rintro e w5 ⟨s, rfl, hs, c5, g5⟩
  have kk := kp_of g5
  exact ⟨s, rfl, by omega, (TB.kp kk (fun j h1 h2 => by omega)).mono (by omega), cur_below g5 B (by omega) (by omega)⟩
 by_cases hp : 0 < pl
 ·have hd : decide ((0 : Int) < (pl : Int)) = true := by simp; omega
  go_wp2_with fail
  refine (once_any w.heap.size w.heap.size ca ao zs 2 _ (by omega) (by omega) (by omega) C).mono ?_
  rintro e w4 ⟨b, rfl, c4, g4⟩
  have s4 := g4.size
  have kk := kp_of g4
  replace TB := TB.kp kk (fun j h1 h2 => by omega)
  replace B := cur_below g4 B (by omega) (by omega)
  replace C := c4
  clear kk g4 c4
  cases b with
  | false =>
   go_wp2_with fail
   refine (unhide TL _ (by omega) TB B C).mono ?_
   rintro e w5 ⟨x, rfl, TB, C, B, s5⟩
   go_wp2_with fail
   refine (unhide TN _ (by omega) TB B C).mono ?_
   rintro e w6 ⟨s, rfl, hs, TB, B⟩
   have T4 := hide TB
   clear C TB TL TN
   go_wp2
   refine bodyPost_ret (v := .tuple #[.slice ta pl tc, .int .i64 x, .string s]) (by simp [results, Tryz.results35, go_sem]) rfl ?_
   exact ⟨_, ps, _, s, rfl, by rw [unhide hpl]; exact hl, SM, hs, unhide T4, B⟩
  | true =>
   clear TL TN
   go_wp2_with fail
   refine (below_any w.heap.size w.heap.size ca ao zs pl _ (by omega) (by omega) (by omega) C).mono ?_
   rintro e w5 ⟨r, rfl, r0, r1, c5, g5⟩
   have s5 := g5.size
   have kk := kp_of g5
   replace TB := TB.kp kk (fun j h1 h2 => by omega)
   replace B := cur_below g5 B (by omega) (by omega)
   clear kk g5 c5 C
   obtain ⟨k, rfl⟩ : ∃ k : Nat, r = k := ⟨r.toNat, by omega⟩
   have hk : k < pl := by omega
   have hkx : k < ps.length := by rw [unhide hpl]; exact hk
   have hsz := (unhide SM _ (pt_mem hkx)).1
   obtain ⟨gb, off, u, rfl, c0, c1, c2, ru⟩ := (TB.rpt (fun p hp => by have := unhide SM p hp; omega)).at k hkx
   generalize ps.getD k zpt = x at *
   obtain ⟨m, s, xs⟩ := x
   simp only at c0 c1 hsz
   obtain ⟨ua, uc, rfl⟩ := ru.form
   clear ru
   generalize xs.length = xl at *
   obtain ⟨w6, hw6⟩ : ∃ y, w5.alloc (.cells #[.int .i64 m, .string s, .slice ua xl uc] 52) = y := ⟨_, rfl⟩
   have b6 : Below w5.heap.size w5 w6 := hw6 ▸ qalloc _ _
   have L6 : Loc w6 w5.heap.size #[.int .i64 m, .string s, .slice ua xl uc] := hw6 ▸ loc_at w5 _ _ rfl
   have T6 := hide ((TB.below b6).mono (show w.heap.size ≤ w2.heap.size by omega))
   have B6 := B.trans (b6.mono B.size)
   clear TB b6 B
   go_upto_region 5 with fail
   clear hw6 c0 c1 c2
   refine wp_region_noPanic ?_
   refine wp_region_held_drew (S := fun w' => w'.cell? ⟨w5.heap.size, 0, none⟩ = some (.int .i64 m) ∧ w'.cell? ⟨w5.heap.size, 1, none⟩ = some (.string s)) (by kernel_rfl) ⟨L6.cell 0 rfl, L6.cell 1 rfl⟩ (fun hHeld => ?_)
   obtain ⟨wd, hd'⟩ : ∃ wd, w6.drew = wd := ⟨_, rfl⟩
   have bd : Below w6.heap.size w6 wd := hd' ▸ Below.drew (Below.refl _ _)
   replace T6 := hide ((unhide T6).below bd)
   replace B6 := B6.trans (bd.mono B6.size)
   rw [hd'] at hHeld ⊢
   clear hd' bd L6
   refine tk 0 28 (v := ?_) rfl (hy := .inl ⟨by rfl, ?_⟩) (h := ?_); rotate_left
   ·intro w hSw; (try dsimp only at hSw); go_simp; (try with_reducible rfl)
   simp only [pU]
   refine tk 1 29 (v := ?_) rfl (hy := .inl ⟨by rfl, ?_⟩) (h := ?_); rotate_left
   ·intro w hSw; (try dsimp only at hSw); go_simp; (try with_reducible rfl)
   simp only [pU]
   refine tk 2 30 (v := ?_) rfl (hy := .inl ⟨by rfl, ?_⟩) (h := ?_); rotate_left
   ·intro w hSw; (try dsimp only at hSw); go_simp; (try with_reducible rfl)
   simp only [pU]
   refine tk 3 31 (v := ?_) rfl (hy := .inl ⟨by rfl, ?_⟩) (h := ?_); rotate_left
   ·intro w hSw; (try dsimp only at hSw); go_simp; (try with_reducible rfl)
   simp only [pU]
   refine tk 4 32 (v := ?_) rfl (hy := .inl ⟨by rfl, ?_⟩) (h := ?_); rotate_left
   ·intro w hSw; (try dsimp only at hSw); go_simp; (try with_reducible rfl)
   simp only [pU]
   refine tk 5 2 (v := ?_) rfl (hy := .inl ⟨by rfl, ?_⟩) (h := ?_); rotate_left
   ·intro w hSw; (try dsimp only at hSw); go_simp; (try with_reducible rfl)
   simp only [pU]
   refine tk 6 3 (v := ?_) rfl (hy := .inl ⟨by rfl, ?_⟩) (h := ?_); rotate_left
   ·intro w hSw; (try dsimp only at hSw); go_simp; (try with_reducible rfl)
   simp only [pU]
   refine tk 7 4 (v := ?_) rfl (hy := .inl ⟨by rfl, ?_⟩) (h := ?_); rotate_left
   ·intro w hSw; (try dsimp only at hSw); go_simp; (try with_reducible rfl)
   simp only [pU]
   clear hHeld
   refine wpAnyH_done (by kernel_rfl) ?_ _
   refine NoPanic.normal ?_
   go_wp2
   refine bodyPost_ret (v := .tuple #[.slice (some ⟨gb, off, none⟩) pl tc, .int .i64 m, .string s]) (by simp [results, Tryz.results35, go_sem]) rfl ?_
   exact ⟨_, ps, _, s, rfl, by rw [unhide hpl]; exact hl, SM, hsz, unhide T6, B6⟩
 ·have hd : decide ((0 : Int) < (pl : Int)) = false := by simp; omega
  go_wp2_with fail
  refine (unhide TL _ (by omega) TB B C).mono ?_
  rintro e w5 ⟨x, rfl, TB, C, B, s5⟩
  go_wp2_with fail
  refine (unhide TN _ (by omega) TB B C).mono ?_
  rintro e w6 ⟨s, rfl, hs, TB, B⟩
  have T4 := hide TB
  clear C TB TL TN
  go_wp2
  refine bodyPost_ret (v := .tuple #[.slice ta pl tc, .int .i64 x, .string s]) (by simp [results, Tryz.results35, go_sem]) rfl ?_
  exact ⟨_, ps, _, s, rfl, by rw [unhide hpl]; exact hl, SM, hs, unhide T4, B⟩
end Go.Proofs.YtmpmedbojfjnaaaGreatDoor
