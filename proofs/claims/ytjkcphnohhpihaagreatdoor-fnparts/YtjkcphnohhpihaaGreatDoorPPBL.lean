/- Lemmas; their conditions stand in each statement. -/
import Derived.Test.YtjkcphnohhpihaaGreatDoorPPBK
set_option maxRecDepth 100000
set_option maxHeartbeats 8000000
set_option linter.unusedSectionVars false
namespace Go.Proofs.YtjkcphnohhpihaaGreatDoor
section
open Go.RowKit
variable [∀ (a b c d : Int), Decidable (Ok4 a b c d)]
variable [∀ (a b c d : Nat), Decidable (okN a b c d)]
variable [∀ (x : T4), Decidable (OkT x)]
variable [∀ (last : Int) (s : St), Decidable (GoodSt last s)]
variable [∀ (n f : Int), Decidable (COk n f)]
variable [∀ (n : Int) (s : List Int), Decidable (OkL n s)]
theorem drawTableAdd (ao : Option Addr) (ca : Nat) (zs : List Int) (w : World) (h : DCode w ao zs) :
 Calls Tryz.prog 21 #[.slice ao zs.length ca] w fun e w' => ∃ (n f : Int) (t : Value) (ps : List Pt) (v : Int) (s : ByteArray) (u : Value) (xs : List Int), e = .returned (.tuple #[cv n f, t, qv v s u]) ∧ ps.length ≤ 5 ∧ Hid (SmP 40 ps) ∧ OPt w' w.heap.size t ps ∧ s.size ≤ 8001 ∧ xs.length ≤ 9 ∧ Hid (WfL xs) ∧ OI w' w.heap.size u xs ∧ Below w.heap.size w w' := by
 obtain ⟨w0, hw0⟩ : ∃ w0, (w.alloc (.cells #[.int .i64 0,.int .i64 0] 33)).alloc (.cells #[.int .i64 0,.string ⟨#[]⟩,.slice none 0 0] 36) = w0:=⟨_, rfl⟩
 have B : Below w.heap.size w w0:=hw0 ▸ qalloc2 _ _ _
 have R : Loc w0 w.heap.size #[.int .i64 0,.int .i64 0]:=hw0 ▸ (loc_at w _ _ rfl).alloc _
 have Z : Loc w0 (w.heap.size + 1) #[.int .i64 0,.string ⟨#[]⟩,.slice none 0 0]:=hw0 ▸ loc_at (w.alloc _) _ _ (by simp)
 have s0 : w.heap.size + 1 + 1 ≤ w0.heap.size:=by rw [← hw0]; simp
 have D0:=h.below B
 have NW:=hide (new_any ao ca zs w0 D0.len D0.code D0.fit)
 clear h D0
 go_enter Tryz.func21, Tryz.ntmps21
 go_wp2_with fail
 clear hw0
 refine NW.out.mono ?_
 rintro e w1 ⟨rfl, C, b1⟩
 replace B:=bu B b1
 replace R:=R.up b1
 replace Z:=Z.up b1
 have s1:=b1.size
 generalize w0.heap.size = g at *
 have hg1:=C.lt
 clear b1 NW
 go_wp2_with fail
 refine (drawConf g g ca ao zs _ (by omega) C).mono ?_
 rintro e w2 ⟨n, f, rfl, ⟨hn0, hn1⟩, c1, e1⟩
 have s2:=e1.size
 replace R:=R.grown e1 (by omega)
 replace Z:=Z.grown e1 (by omega)
 replace B:=cur_below e1 B B.size (by omega)
 replace C:=c1
 clear c1 e1
 obtain ⟨w3, hw3⟩ : ∃ y, w2.alloc (.cells #[.int .i64 n,.int .i64 f] 33) = y:=⟨_, rfl⟩
 have bb : Below w2.heap.size w2 w3:=hw3 ▸ qalloc _ _
 have X : Loc w3 w2.heap.size #[.int .i64 n,.int .i64 f]:=hw3 ▸ loc_at w2 _ _ rfl
 have s3 : w2.heap.size + 1 ≤ w3.heap.size:=by rw [← hw3]; simp
 replace R:=R.up bb
 replace Z:=Z.up bb
 replace C:=C.below (by omega) bb
 replace B:=bu B bb
 clear bb
 have x0:=X.cell 0 rfl
 have x1:=X.cell 1 rfl
 go_wp2_with fail
 clear hw3
 refine (drawTab g g ca ao zs n f _ (by omega) (by omega) C).mono ?_
 rintro e w4 ⟨t, ps, rfl, hpl, hw, T, c1, e1⟩
 have s4:=e1.size
 replace R:=R.grown e1 (by omega)
 replace Z:=Z.grown e1 (by omega)
 replace X:=X.grown e1 (by omega)
 replace B:=cur_below e1 B B.size (by omega)
 replace C:=c1
 clear c1 e1 x0 x1
 obtain ⟨ta, tc, htt⟩:=T.form
 obtain ⟨tl, htl⟩ : ∃ l, ps.length = l:=⟨_, rfl⟩
 rw [htl] at htt hpl
 subst htt
 obtain ⟨vs, T⟩:=T
 replace T:=T.opr
 replace htl:=hide htl
 by_cases hp : 0 < tl
 ·have hd : decide ((0 : Int) < (tl : Int)) = true:=by simp; omega
  go_wp2_with fail
  refine (once_any g g ca ao zs 3 _ (by omega) (by omega) (by omega) C).mono ?_
  rintro e w5 ⟨b, rfl, c1, e1⟩
  have s5:=e1.size
  replace T:=T.kp (kp_of e1) (fun j h1 h2 => by omega)
  replace R:=R.grown e1 (by omega)
  replace Z:=Z.grown e1 (by omega)
  replace X:=X.grown e1 (by omega)
  replace B:=cur_below e1 B B.size (by omega)
  replace C:=c1
  clear c1 e1
  cases b
  ·go_upto_region 8 with fail
   refine wp_region_noPanic ?_
   refine wp_region_held_drew (S := fun w' => (w'.cell? ⟨w2.heap.size, 0, none⟩ = some (.int .i64 n) ∧ w'.cell? ⟨w2.heap.size, 1, none⟩ = some (.int .i64 f))) (by kernel_rfl) ⟨X.cell 0 rfl, X.cell 1 rfl⟩ (fun hHeld => ?_)
   obtain ⟨wd, hd⟩ : ∃ wd, w5.drew = wd:=⟨_, rfl⟩
   have bd : Below w5.heap.size w5 wd:=hd ▸ Below.drew (Below.refl _ _)
   have sd : w5.heap.size ≤ wd.heap.size:=bd.size
   replace T:=T.below bd
   replace R:=R.up bd
   replace Z:=Z.up bd
   replace X:=X.up bd
   replace C:=C.below (by omega) bd
   replace B:=bu B bd
   rw [hd] at hHeld ⊢
   clear hd bd
   refine tx 0 38 ?_
   refine tx 1 39 ?_
   refine tx 2 40 ?_
   refine tx 3 41 ?_
   refine rd 4 rfl (fun KK hKK => ?_)
   go_simp
   refine (drawPart g g ca ao zs n f _ (by omega) (by omega) C).mono ?_
   rintro e w9 ⟨v, s, u, xs, rfl, hv, hs, hl, hx, O, c1, e1⟩
   have s9:=e1.size
   replace T:=T.kp (kp_of e1) (fun j h1 h2 => by omega)
   replace R:=R.grown e1 (by omega)
   replace Z:=Z.grown e1 (by omega)
   replace X:=X.grown e1 (by omega)
   replace B:=cur_below e1 B B.size (by omega)
   clear c1 e1 C
   have tO:=World.ownsRow.lt O
   obtain ⟨ua, uc, rfl⟩:=O.form
   obtain ⟨uk, huk⟩ : ∃ k, xs.length = k:=⟨_, rfl⟩
   rw [huk] at O tO ⊢
   clear hHeld
   refine hKK.out _ _ ⟨X.cell 0 rfl, X.cell 1 rfl⟩ (fun hHeld => ?_)
   clear hKK KK
   have c0:=R.cell 0 rfl
   have c1:=R.cell 1 rfl
   have fc:=R.frozen
   refine rd 5 rfl (fun KK hKK => ?_)
   go_simp
   obtain ⟨wa, hwa⟩ : ∃ y, ((w9.setCell ⟨w.heap.size, 0, none⟩ (.int .i64 n)).setCell ⟨w.heap.size, 1, none⟩ (.int .i64 f)) = y:=⟨_, rfl⟩
   have kwa : Kp w9 wa (fun k => k = w.heap.size):=hwa ▸ (set_kp _ _ _ _).trans (set_kp _ _ _ _)
   replace R : Loc wa (w.heap.size) #[.int .i64 n,.int .i64 f]:=hwa ▸ ((R.set 0 _ rfl).set 1 _ rfl)
   replace Z:=Z.kp kwa (by omega)
   replace X:=X.kp kwa (by omega)
   replace O:=O.kp kwa (fun j hj e => by have:=tO j hj; omega)
   replace T:=T.kp kwa (fun j h1 h2 => by omega)
   replace B:=Below.kp B kwa B.size (fun k hk => by omega)
   have zwa:=kwa.size
   rw [hwa]
   clear hwa kwa c0 c1 fc hHeld
   refine hKK.out _ _ ⟨X.cell 0 rfl, X.cell 1 rfl⟩ (fun hHeld => ?_)
   clear hKK KK
   refine tx 6 3 ?_
   have c0:=Z.cell 0 rfl
   have c1:=Z.cell 1 rfl
   have c2:=Z.cell 2 rfl
   have fc:=Z.frozen
   refine rd 7 rfl (fun KK hKK => ?_)
   go_simp
   obtain ⟨wb, hwb⟩ : ∃ y, (((wa.setCell ⟨w.heap.size + 1, 0, none⟩ (.int .i64 v)).setCell ⟨w.heap.size + 1, 1, none⟩ (.string s)).setCell ⟨w.heap.size + 1, 2, none⟩ (.slice ua uk uc)) = y:=⟨_, rfl⟩
   have kwb : Kp wa wb (fun k => k = w.heap.size + 1):=hwb ▸ ((set_kp _ _ _ _).trans (set_kp _ _ _ _)).trans (set_kp _ _ _ _)
   replace Z : Loc wb (w.heap.size + 1) #[.int .i64 v,.string s,.slice ua uk uc]:=hwb ▸ (((Z.set 0 _ rfl).set 1 _ rfl).set 2 _ rfl)
   replace R:=R.kp kwb (by omega)
   replace X:=X.kp kwb (by omega)
   replace O:=O.kp kwb (fun j hj e => by have:=tO j hj; omega)
   replace T:=T.kp kwb (fun j h1 h2 => by omega)
   replace B:=Below.kp B kwb B.size (fun k hk => by omega)
   have zwb:=kwb.size
   rw [hwb]
   clear hwb kwb c0 c1 c2 fc hHeld
   refine hKK.out _ _ ⟨X.cell 0 rfl, X.cell 1 rfl⟩ (fun hHeld => ?_)
   clear hKK KK hHeld
   refine wdn ?_
   have r0:=R.cell 0 rfl
   have r1:=R.cell 1 rfl
   have z0:=Z.cell 0 rfl
   have z1:=Z.cell 1 rfl
   have z2:=Z.cell 2 rfl
   clear R Z X
   go_wp2
   refine bodyPost_ret (v := .tuple #[cv n f,.slice ta tl tc, qv v s (.slice ua uk uc)]) (by simp [results, Tryz.results21, go_sem, r0, r1, z0, z1, z2]) rfl ?_
   exact ⟨_, _, _, ps, _, _, _, xs, rfl, by rw [htl.out]; exact hpl, hw, ⟨vs, T.tab.mono (by omega)⟩, hs, (by omega), hx, O.mono (by omega), B⟩
  go_wp2_with fail
  refine (below_any g g ca ao zs tl _ (by omega) (by omega) (by omega) C).mono ?_
  rintro e w6 ⟨r, rfl, r0, r1, c1, e1⟩
  have s6:=e1.size
  replace T:=T.kp (kp_of e1) (fun j h1 h2 => by omega)
  replace R:=R.grown e1 (by omega)
  replace Z:=Z.grown e1 (by omega)
  replace X:=X.grown e1 (by omega)
  replace B:=cur_below e1 B B.size (by omega)
  replace C:=c1
  clear c1 e1
  obtain ⟨k, rfl⟩ : ∃ k : Nat, r = k:=⟨r.toNat, by omega⟩
  have hk : k < tl:=by omega
  have hkx : k < ps.length:=by rw [htl.out]; exact hk
  have hsz:=(hw.out _ (pt_mem hkx)).1
  obtain ⟨gb, off, u, hta, c0, c1, c2, ru⟩:=(T.rpt (fun p hp => by have:=hw.out p hp; omega)).at k hkx
  obtain ⟨x, hx⟩ : ∃ x, ps.getD k zpt = x:=⟨_, rfl⟩
  rw [hx] at c0 c1 ru hsz
  clear hx
  obtain ⟨m, s, xs⟩:=x
  simp only at c0 c1 hsz ru
  have RU:=hide ru
  have CP:=hide fun w h => l10Copy_any m s u xs w h
  obtain ⟨ra, rc, rfl⟩:=ru.form
  generalize xs.length = xl at *
  clear ru
  have hta':=hide hta
  subst hta
  go_wp2_with fail
  refine (CP.out _ RU.out).mono ?_
  rintro e w8 ⟨u8, rfl, o8, b8⟩
  have s8:=b8.size
  replace T:=T.below b8
  replace R:=R.up b8
  replace Z:=Z.up b8
  replace X:=X.up b8
  replace C:=C.below (by omega) b8
  replace B:=bu B b8
  obtain ⟨ua, uc, rfl⟩:=o8.form
  clear b8 c0 c1 c2 o8 RU CP
  generalize xs.length = xl at *
  obtain ⟨w9, hw9⟩ : ∃ y, w8.alloc (.cells #[.int .i64 m,.string s,.slice ua xl uc] 36) = y:=⟨_, rfl⟩
  have bb : Below w8.heap.size w8 w9:=hw9 ▸ qalloc _ _
  have Y : Loc w9 w8.heap.size #[.int .i64 m,.string s,.slice ua xl uc]:=hw9 ▸ loc_at w8 _ _ rfl
  have s9 : w8.heap.size + 1 ≤ w9.heap.size:=by rw [← hw9]; simp
  replace T:=T.below bb
  replace R:=R.up bb
  replace Z:=Z.up bb
  replace X:=X.up bb
  replace C:=C.below (by omega) bb
  replace B:=bu B bb
  clear bb
  go_wp2_with fail
  clear hw9
  refine (below_any g g ca ao zs 4 _ (by omega) (by omega) (by omega) C).mono ?_
  rintro e w10 ⟨y, rfl, yy0, yy1, c1, e1⟩
  have s10:=e1.size
  replace T:=T.kp (kp_of e1) (fun j h1 h2 => by omega)
  replace R:=R.grown e1 (by omega)
  replace Z:=Z.grown e1 (by omega)
  replace X:=X.grown e1 (by omega)
  replace Y:=Y.grown e1 (by omega)
  replace B:=cur_below e1 B B.size (by omega)
  replace C:=c1
  clear c1 e1
  obtain ⟨wj, hwj⟩ : ∃ y', w10.alloc (.cells #[.int .i64 y] 3) = y':=⟨_, rfl⟩
  have bj : Below w10.heap.size w10 wj:=hwj ▸ qalloc _ _
  have sj : w10.heap.size + 1 ≤ wj.heap.size:=by rw [← hwj]; simp
  have O : OI wj w10.heap.size (.slice (some ⟨w10.heap.size, 0, none⟩) 1 1) [y]:=by
   have:=World.ownsRow_lit (base:=w10.heap.size) (e:=3) (size:=1) w10 #[.int .i64 y] 1 (Nat.le_refl _) (by unfold maxLen; omega) (by simp)
   rw [hwj] at this
   simpa [OI] using this
  replace T:=T.below bj
  replace R:=R.up bj
  replace Z:=Z.up bj
  replace X:=X.up bj
  replace Y:=Y.up bj
  replace C:=C.below (by omega) bj
  replace B:=bu B bj
  clear bj
  have tO:=World.ownsRow.lt O
  have y0:=Y.cell 0 rfl
  have y1:=Y.cell 1 rfl
  have y2:=Y.cell 2 rfl
  have fy:=Y.frozen
  obtain ⟨wk, hwk⟩ : ∃ y', wj.setCell ⟨w8.heap.size, 2, none⟩ (.slice (some ⟨w10.heap.size, 0, none⟩) 1 1) = y':=⟨_, rfl⟩
  have kwk : Kp wj wk (fun k => k = w8.heap.size):=hwk ▸ set_kp _ _ _ _
  have Y2 : Loc wk (w8.heap.size) #[.int .i64 m,.string s,.slice (some ⟨w10.heap.size, 0, none⟩) 1 1]:=hwk ▸ (Y.set 2 _ rfl)
  replace R:=R.kp kwk (by omega)
  replace Z:=Z.kp kwk (by omega)
  replace X:=X.kp kwk (by omega)
  replace O:=O.kp kwk (fun j hj e => by have:=tO j hj; simp [Value.ownBlock] at hj; omega)
  replace T:=T.kp kwk (fun j h1 h2 => by omega)
  replace B:=Below.kp B kwk B.size (fun k hk => by omega)
  have zwk:=kwk.size
  clear C kwk Y
  have Y:=Y2
  clear Y2
  go_upto_region 7 with fail
  clear hwk hwj y0 y1 y2 fy
  refine wp_region_noPanic ?_
  refine wp_region_held_drew (S := fun w' => (w'.cell? ⟨w2.heap.size, 0, none⟩ = some (.int .i64 n) ∧ w'.cell? ⟨w2.heap.size, 1, none⟩ = some (.int .i64 f)) ∧ (w'.cell? ⟨w8.heap.size, 0, none⟩ = some (.int .i64 m) ∧ w'.cell? ⟨w8.heap.size, 1, none⟩ = some (.string s) ∧ w'.cell? ⟨w8.heap.size, 2, none⟩ = some (.slice (some ⟨w10.heap.size, 0, none⟩) 1 1))) (by kernel_rfl) ⟨⟨X.cell 0 rfl, X.cell 1 rfl⟩, ⟨Y.cell 0 rfl, Y.cell 1 rfl, Y.cell 2 rfl⟩⟩ (fun hHeld => ?_)
  obtain ⟨wd, hd'⟩ : ∃ wd, wk.drew = wd:=⟨_, rfl⟩
  have bd : Below wk.heap.size wk wd:=hd' ▸ Below.drew (Below.refl _ _)
  have sd : wk.heap.size ≤ wd.heap.size:=bd.size
  replace R:=R.up bd
  replace Z:=Z.up bd
  replace X:=X.up bd
  replace Y:=Y.up bd
  replace O:=O.below bd
  replace T:=T.below bd
  replace B:=bu B bd
  rw [hd'] at hHeld ⊢
  clear hd' bd
  refine tx 0 35 ?_
  refine tx 1 36 ?_
  refine tx 2 37 ?_
  have c0:=R.cell 0 rfl
  have c1:=R.cell 1 rfl
  have fc:=R.frozen
  refine rd 3 rfl (fun KK hKK => ?_)
  go_simp
  obtain ⟨wa, hwa⟩ : ∃ y, ((wd.setCell ⟨w.heap.size, 0, none⟩ (.int .i64 n)).setCell ⟨w.heap.size, 1, none⟩ (.int .i64 f)) = y:=⟨_, rfl⟩
  have kwa : Kp wd wa (fun k => k = w.heap.size):=hwa ▸ (set_kp _ _ _ _).trans (set_kp _ _ _ _)
  replace R : Loc wa (w.heap.size) #[.int .i64 n,.int .i64 f]:=hwa ▸ ((R.set 0 _ rfl).set 1 _ rfl)
  replace Z:=Z.kp kwa (by omega)
  replace X:=X.kp kwa (by omega)
  replace Y:=Y.kp kwa (by omega)
  replace O:=O.kp kwa (fun j hj e => by have:=tO j hj; omega)
  replace T:=T.kp kwa (fun j h1 h2 => by omega)
  replace B:=Below.kp B kwa B.size (fun k hk => by omega)
  have zwa:=kwa.size
  rw [hwa]
  clear hwa kwa c0 c1 fc hHeld
  refine hKK.out _ _ ⟨⟨X.cell 0 rfl, X.cell 1 rfl⟩, ⟨Y.cell 0 rfl, Y.cell 1 rfl, Y.cell 2 rfl⟩⟩ (fun hHeld => ?_)
  clear hKK KK
  refine tx 4 3 ?_
  have c0:=Z.cell 0 rfl
  have c1:=Z.cell 1 rfl
  have c2:=Z.cell 2 rfl
  have fc:=Z.frozen
  refine rd 5 rfl (fun KK hKK => ?_)
  go_simp
  obtain ⟨wb, hwb⟩ : ∃ y, (((wa.setCell ⟨w.heap.size + 1, 0, none⟩ (.int .i64 m)).setCell ⟨w.heap.size + 1, 1, none⟩ (.string s)).setCell ⟨w.heap.size + 1, 2, none⟩ (.slice (some ⟨w10.heap.size, 0, none⟩) 1 1)) = y:=⟨_, rfl⟩
  have kwb : Kp wa wb (fun k => k = w.heap.size + 1):=hwb ▸ ((set_kp _ _ _ _).trans (set_kp _ _ _ _)).trans (set_kp _ _ _ _)
  replace Z : Loc wb (w.heap.size + 1) #[.int .i64 m,.string s,.slice (some ⟨w10.heap.size, 0, none⟩) 1 1]:=hwb ▸ (((Z.set 0 _ rfl).set 1 _ rfl).set 2 _ rfl)
  replace R:=R.kp kwb (by omega)
  replace X:=X.kp kwb (by omega)
  replace Y:=Y.kp kwb (by omega)
  replace O:=O.kp kwb (fun j hj e => by have:=tO j hj; omega)
  replace T:=T.kp kwb (fun j h1 h2 => by omega)
  replace B:=Below.kp B kwb B.size (fun k hk => by omega)
  have zwb:=kwb.size
  rw [hwb]
  clear hwb kwb c0 c1 c2 fc hHeld
  refine hKK.out _ _ ⟨⟨X.cell 0 rfl, X.cell 1 rfl⟩, ⟨Y.cell 0 rfl, Y.cell 1 rfl, Y.cell 2 rfl⟩⟩ (fun hHeld => ?_)
  clear hKK KK hHeld
  refine wdn ?_
  have r0:=R.cell 0 rfl
  have r1:=R.cell 1 rfl
  have z0:=Z.cell 0 rfl
  have z1:=Z.cell 1 rfl
  have z2:=Z.cell 2 rfl
  clear R Z X Y
  go_wp2
  refine bodyPost_ret (v := .tuple #[cv n f,.slice (some ⟨gb, off, none⟩) tl tc, qv m s (.slice (some ⟨w10.heap.size, 0, none⟩) 1 1)]) (by simp [results, Tryz.results21, go_sem, r0, r1, z0, z1, z2]) rfl ?_
  exact ⟨_, _, _, ps, _, _, _, [y], rfl, by rw [htl.out]; exact hpl, hw, ⟨vs, T.tab.mono (by omega)⟩, hsz, (by simp), hide (fun z hz => by simp at hz; subst hz; exact wf_small (by omega) (by omega)), O.mono (by omega), B⟩
 have hd : decide ((0 : Int) < (tl : Int)) = false:=by simp; omega
 go_upto_region 8 with fail
 refine wp_region_noPanic ?_
 refine wp_region_held_drew (S := fun w' => (w'.cell? ⟨w2.heap.size, 0, none⟩ = some (.int .i64 n) ∧ w'.cell? ⟨w2.heap.size, 1, none⟩ = some (.int .i64 f))) (by kernel_rfl) ⟨X.cell 0 rfl, X.cell 1 rfl⟩ (fun hHeld => ?_)
 obtain ⟨wd, hd⟩ : ∃ wd, w4.drew = wd:=⟨_, rfl⟩
 have bd : Below w4.heap.size w4 wd:=hd ▸ Below.drew (Below.refl _ _)
 have sd : w4.heap.size ≤ wd.heap.size:=bd.size
 replace T:=T.below bd
 replace R:=R.up bd
 replace Z:=Z.up bd
 replace X:=X.up bd
 replace C:=C.below (by omega) bd
 replace B:=bu B bd
 rw [hd] at hHeld ⊢
 clear hd bd
 refine tx 0 38 ?_
 refine tx 1 39 ?_
 refine tx 2 40 ?_
 refine tx 3 41 ?_
 refine rd 4 rfl (fun KK hKK => ?_)
 go_simp
 refine (drawPart g g ca ao zs n f _ (by omega) (by omega) C).mono ?_
 rintro e w9 ⟨v, s, u, xs, rfl, hv, hs, hl, hx, O, c1, e1⟩
 have s9:=e1.size
 replace T:=T.kp (kp_of e1) (fun j h1 h2 => by omega)
 replace R:=R.grown e1 (by omega)
 replace Z:=Z.grown e1 (by omega)
 replace X:=X.grown e1 (by omega)
 replace B:=cur_below e1 B B.size (by omega)
 clear c1 e1 C
 have tO:=World.ownsRow.lt O
 obtain ⟨ua, uc, rfl⟩:=O.form
 obtain ⟨uk, huk⟩ : ∃ k, xs.length = k:=⟨_, rfl⟩
 rw [huk] at O tO ⊢
 clear hHeld
 refine hKK.out _ _ ⟨X.cell 0 rfl, X.cell 1 rfl⟩ (fun hHeld => ?_)
 clear hKK KK
 have c0:=R.cell 0 rfl
 have c1:=R.cell 1 rfl
 have fc:=R.frozen
 refine rd 5 rfl (fun KK hKK => ?_)
 go_simp
 obtain ⟨wa, hwa⟩ : ∃ y, ((w9.setCell ⟨w.heap.size, 0, none⟩ (.int .i64 n)).setCell ⟨w.heap.size, 1, none⟩ (.int .i64 f)) = y:=⟨_, rfl⟩
 have kwa : Kp w9 wa (fun k => k = w.heap.size):=hwa ▸ (set_kp _ _ _ _).trans (set_kp _ _ _ _)
 replace R : Loc wa (w.heap.size) #[.int .i64 n,.int .i64 f]:=hwa ▸ ((R.set 0 _ rfl).set 1 _ rfl)
 replace Z:=Z.kp kwa (by omega)
 replace X:=X.kp kwa (by omega)
 replace O:=O.kp kwa (fun j hj e => by have:=tO j hj; omega)
 replace T:=T.kp kwa (fun j h1 h2 => by omega)
 replace B:=Below.kp B kwa B.size (fun k hk => by omega)
 have zwa:=kwa.size
 rw [hwa]
 clear hwa kwa c0 c1 fc hHeld
 refine hKK.out _ _ ⟨X.cell 0 rfl, X.cell 1 rfl⟩ (fun hHeld => ?_)
 clear hKK KK
 refine tx 6 3 ?_
 have c0:=Z.cell 0 rfl
 have c1:=Z.cell 1 rfl
 have c2:=Z.cell 2 rfl
 have fc:=Z.frozen
 refine rd 7 rfl (fun KK hKK => ?_)
 go_simp
 obtain ⟨wb, hwb⟩ : ∃ y, (((wa.setCell ⟨w.heap.size + 1, 0, none⟩ (.int .i64 v)).setCell ⟨w.heap.size + 1, 1, none⟩ (.string s)).setCell ⟨w.heap.size + 1, 2, none⟩ (.slice ua uk uc)) = y:=⟨_, rfl⟩
 have kwb : Kp wa wb (fun k => k = w.heap.size + 1):=hwb ▸ ((set_kp _ _ _ _).trans (set_kp _ _ _ _)).trans (set_kp _ _ _ _)
 replace Z : Loc wb (w.heap.size + 1) #[.int .i64 v,.string s,.slice ua uk uc]:=hwb ▸ (((Z.set 0 _ rfl).set 1 _ rfl).set 2 _ rfl)
 replace R:=R.kp kwb (by omega)
 replace X:=X.kp kwb (by omega)
 replace O:=O.kp kwb (fun j hj e => by have:=tO j hj; omega)
 replace T:=T.kp kwb (fun j h1 h2 => by omega)
 replace B:=Below.kp B kwb B.size (fun k hk => by omega)
 have zwb:=kwb.size
 rw [hwb]
 clear hwb kwb c0 c1 c2 fc hHeld
 refine hKK.out _ _ ⟨X.cell 0 rfl, X.cell 1 rfl⟩ (fun hHeld => ?_)
 clear hKK KK hHeld
 refine wdn ?_
 have r0:=R.cell 0 rfl
 have r1:=R.cell 1 rfl
 have z0:=Z.cell 0 rfl
 have z1:=Z.cell 1 rfl
 have z2:=Z.cell 2 rfl
 clear R Z X
 go_wp2
 refine bodyPost_ret (v := .tuple #[cv n f,.slice ta tl tc, qv v s (.slice ua uk uc)]) (by simp [results, Tryz.results21, go_sem, r0, r1, z0, z1, z2]) rfl ?_
 exact ⟨_, _, _, ps, _, _, _, xs, rfl, by rw [htl.out]; exact hpl, hw, ⟨vs, T.tab.mono (by omega)⟩, hs, (by omega), hx, O.mono (by omega), B⟩
theorem drawTableGet (ao : Option Addr) (ca : Nat) (zs : List Int) (w : World) (h : DCode w ao zs) :
 Calls Tryz.prog 25 #[.slice ao zs.length ca] w fun e w' => ∃ (t : Value) (ps : List Pt) (x : Int) (s : ByteArray), e = .returned (.tuple #[t,.int .i64 x,.string s]) ∧ ps.length ≤ 5 ∧ Hid (SmP 40 ps) ∧ s.size ≤ 8001 ∧ OPt w' w.heap.size t ps ∧ Below w.heap.size w w' := by
 have NW:=hide (new_any ao ca zs w h.len h.code h.fit)
 clear h
 go_enter Tryz.func25, Tryz.ntmps25
 go_wp2_with fail
 refine NW.out.mono ?_
 rintro e w1 ⟨rfl, C, B⟩
 have s1:=C.lt
 clear NW
 go_wp2_with fail
 refine (drawConf w.heap.size w.heap.size ca ao zs _ (by omega) C).mono ?_
 rintro e w2 ⟨n, f, rfl, ⟨hn0, hn1⟩, c2, g2⟩
 have s2:=g2.size
 replace B:=cur_below g2 B (by omega) (by omega)
 replace C:=c2
 clear c2 g2
 go_wp2_with fail
 refine (drawTab w.heap.size w.heap.size ca ao zs n f _ (by omega) (by omega) C).mono ?_
 rintro e w3 ⟨t, ps, rfl, hl, SM, TB, c3, g3⟩
 have s3:=g3.size
 replace B:=cur_below g3 B (by omega) (by omega)
 replace C:=c3
 obtain ⟨ta, tc, ht⟩:=TB.form
 obtain ⟨pl, hpl⟩ : ∃ l, ps.length = l:=⟨_, rfl⟩
 rw [hpl] at ht hl
 subst ht
 replace hpl:=hide hpl
 clear c3 g3
 have TL : Hid (∀ (w3 : World), w2.heap.size ≤ w3.heap.size → OPt w3 w2.heap.size (.slice ta pl tc) ps → Below w.heap.size w w3 → Cur w3 w.heap.size w.heap.size ao ca zs → Calls Tryz.prog 62 #[.pointer (some ⟨w.heap.size, 0, none⟩),.int .i64 5] w3 fun e w5 => ∃ x : Int, e = .returned (.int .i64 x) ∧ OPt w5 w2.heap.size (.slice ta pl tc) ps ∧ Cur w5 w.heap.size w.heap.size ao ca zs ∧ Below w.heap.size w w5 ∧ w2.heap.size ≤ w5.heap.size):=hide fun w3 hz TB B C => by
  refine (below_any w.heap.size w.heap.size ca ao zs 5 _ (by omega) (by omega) (by omega) C).mono ?_
  rintro e w5 ⟨x, rfl, x0, x1, c5, g5⟩
  have kk:=kp_of g5
  exact ⟨x, rfl, TB.kp kk (fun j h1 h2 => by omega), c5, cur_below g5 B (by omega) (by omega), Nat.le_trans hz g5.size⟩
 have TN : Hid (∀ (w3 : World), w2.heap.size ≤ w3.heap.size → OPt w3 w2.heap.size (.slice ta pl tc) ps → Below w.heap.size w w3 → Cur w3 w.heap.size w.heap.size ao ca zs → Calls Tryz.prog 66 #[.pointer (some ⟨w.heap.size, 0, none⟩)] w3 fun e w5 => ∃ s : ByteArray, e = .returned (.string s) ∧ s.size ≤ 8001 ∧ OPt w5 w.heap.size (.slice ta pl tc) ps ∧ Below w.heap.size w w5):=hide fun w3 hz TB B C => by
  refine (drawNameR w.heap.size w.heap.size ca ao zs _ (by omega) C).mono ?_
  rintro e w5 ⟨s, rfl, hs, c5, g5⟩
  have kk:=kp_of g5
  exact ⟨s, rfl, by omega, (TB.kp kk (fun j h1 h2 => by omega)).mono (by omega), cur_below g5 B (by omega) (by omega)⟩
 by_cases hp : 0 < pl
 ·have hd : decide ((0 : Int) < (pl : Int)) = true:=by simp; omega
  go_wp2_with fail
  refine (once_any w.heap.size w.heap.size ca ao zs 2 _ (by omega) (by omega) (by omega) C).mono ?_
  rintro e w4 ⟨b, rfl, c4, g4⟩
  have s4:=g4.size
  have kk:=kp_of g4
  replace TB:=TB.kp kk (fun j h1 h2 => by omega)
  replace B:=cur_below g4 B (by omega) (by omega)
  replace C:=c4
  clear kk g4 c4
  cases b with
  | false =>
   go_wp2_with fail
   refine (TL.out _ (by omega) TB B C).mono ?_
   rintro e w5 ⟨x, rfl, TB, C, B, s5⟩
   go_wp2_with fail
   refine (TN.out _ (by omega) TB B C).mono ?_
   rintro e w6 ⟨s, rfl, hs, TB, B⟩
   have T4:=hide TB
   clear C TB TL TN
   go_wp2
   refine bodyPost_ret (v := .tuple #[.slice ta pl tc,.int .i64 x,.string s]) (by simp [results, Tryz.results25, go_sem]) rfl ?_
   exact ⟨_, ps, _, s, rfl, by rw [hpl.out]; exact hl, SM, hs, T4.out, B⟩
  | true =>
   clear TL TN
   go_wp2_with fail
   refine (below_any w.heap.size w.heap.size ca ao zs pl _ (by omega) (by omega) (by omega) C).mono ?_
   rintro e w5 ⟨r, rfl, r0, r1, c5, g5⟩
   have s5:=g5.size
   have kk:=kp_of g5
   replace TB:=TB.kp kk (fun j h1 h2 => by omega)
   replace B:=cur_below g5 B (by omega) (by omega)
   clear kk g5 c5 C
   obtain ⟨k, rfl⟩ : ∃ k : Nat, r = k:=⟨r.toNat, by omega⟩
   have hk : k < pl:=by omega
   have hkx : k < ps.length:=by rw [hpl.out]; exact hk
   have hsz:=(SM.out _ (pt_mem hkx)).1
   obtain ⟨gb, off, u, rfl, c0, c1, c2, ru⟩:=(TB.rpt (fun p hp => by have:=SM.out p hp; omega)).at k hkx
   generalize ps.getD k zpt = x at *
   obtain ⟨m, s, xs⟩:=x
   simp only at c0 c1 hsz
   obtain ⟨ua, uc, rfl⟩:=ru.form
   clear ru
   generalize xs.length = xl at *
   obtain ⟨w6, hw6⟩ : ∃ y, w5.alloc (.cells #[.int .i64 m,.string s,.slice ua xl uc] 36) = y:=⟨_, rfl⟩
   have b6 : Below w5.heap.size w5 w6:=hw6 ▸ qalloc _ _
   have L6 : Loc w6 w5.heap.size #[.int .i64 m,.string s,.slice ua xl uc]:=hw6 ▸ loc_at w5 _ _ rfl
   have T6:=hide ((TB.below b6).mono (show w.heap.size ≤ w2.heap.size by omega))
   have B6:=bu B b6
   clear TB b6 B
   go_upto_region 5 with fail
   clear hw6 c0 c1 c2
   refine wp_region_noPanic ?_
   refine wp_region_held_drew (S := fun w' => w'.cell? ⟨w5.heap.size, 0, none⟩ = some (.int .i64 m) ∧ w'.cell? ⟨w5.heap.size, 1, none⟩ = some (.string s)) (by kernel_rfl) ⟨L6.cell 0 rfl, L6.cell 1 rfl⟩ (fun hHeld => ?_)
   obtain ⟨wd, hd'⟩ : ∃ wd, w6.drew = wd:=⟨_, rfl⟩
   have bd : Below w6.heap.size w6 wd:=hd' ▸ Below.drew (Below.refl _ _)
   replace T6:=hide (T6.out.below bd)
   replace B6:=bu B6 bd
   rw [hd'] at hHeld ⊢
   clear hd' bd L6
   refine tx 0 28 ?_
   refine tx 1 29 ?_
   refine tx 2 30 ?_
   refine tx 3 31 ?_
   refine tx 4 32 ?_
   refine tx 5 2 ?_
   refine tx 6 3 ?_
   refine tx 7 4 ?_
   clear hHeld
   refine wdn ?_
   go_wp2
   refine bodyPost_ret (v := .tuple #[.slice (some ⟨gb, off, none⟩) pl tc,.int .i64 m,.string s]) (by simp [results, Tryz.results25, go_sem]) rfl ?_
   exact ⟨_, ps, _, s, rfl, by rw [hpl.out]; exact hl, SM, hsz, T6.out, B6⟩
 have hd : decide ((0 : Int) < (pl : Int)) = false:=by simp; omega
 go_wp2_with fail
 refine (TL.out _ (by omega) TB B C).mono ?_
 rintro e w5 ⟨x, rfl, TB, C, B, s5⟩
 go_wp2_with fail
 refine (TN.out _ (by omega) TB B C).mono ?_
 rintro e w6 ⟨s, rfl, hs, TB, B⟩
 have T4:=hide TB
 clear C TB TL TN
 go_wp2
 refine bodyPost_ret (v := .tuple #[.slice ta pl tc,.int .i64 x,.string s]) (by simp [results, Tryz.results25, go_sem]) rfl ?_
 exact ⟨_, ps, _, s, rfl, by rw [hpl.out]; exact hl, SM, hs, T4.out, B⟩
theorem drawTableDrop (ao : Option Addr) (ca : Nat) (zs : List Int) (w : World) (h : DCode w ao zs) :
 Calls Tryz.prog 26 #[.slice ao zs.length ca] w fun e w' => ∃ (t : Value) (ps : List Pt) (x : Int), e = .returned (.tuple #[t,.int .i64 x]) ∧ ps.length ≤ 5 ∧ Hid (SmP 40 ps) ∧ OPt w' w.heap.size t ps ∧ Below w.heap.size w w' := by
 have NW:=hide (new_any ao ca zs w h.len h.code h.fit)
 clear h
 go_enter Tryz.func26, Tryz.ntmps26
 go_wp2_with fail
 refine NW.out.mono ?_
 rintro e w1 ⟨rfl, C, B⟩
 have s1:=C.lt
 clear NW
 go_wp2_with fail
 refine (drawConf w.heap.size w.heap.size ca ao zs _ (by omega) C).mono ?_
 rintro e w2 ⟨n, f, rfl, ⟨hn0, hn1⟩, c2, g2⟩
 have s2:=g2.size
 replace B:=cur_below g2 B (by omega) (by omega)
 replace C:=c2
 clear c2 g2
 go_wp2_with fail
 refine (drawTab w.heap.size w.heap.size ca ao zs n f _ (by omega) (by omega) C).mono ?_
 rintro e w3 ⟨t, ps, rfl, hl, SM, TB, c3, g3⟩
 have s3:=g3.size
 replace B:=cur_below g3 B (by omega) (by omega)
 replace C:=c3
 obtain ⟨ta, tc, ht⟩:=TB.form
 obtain ⟨pl, hpl⟩ : ∃ l, ps.length = l:=⟨_, rfl⟩
 rw [hpl] at ht hl
 subst ht
 replace hpl:=hide hpl
 clear c3 g3
 go_wp2_with fail
 refine (below_any w.heap.size w.heap.size ca ao zs 6 _ (by omega) (by omega) (by omega) C).mono ?_
 rintro e w4 ⟨x, rfl, x0, x1, c4, g4⟩
 have kk:=kp_of g4
 have T4:=hide ((TB.kp kk (fun j h1 h2 => by omega)).mono (show w.heap.size ≤ w2.heap.size by omega))
 replace B:=cur_below g4 B (by omega) (by omega)
 clear C TB kk g4 c4
 go_wp2
 go_ret2
 exact ⟨_, ps, _, rfl, by rw [hpl.out]; exact hl, SM, T4.out, B⟩
end
section
open Go.RowKit
theorem drop_take (ps : List Pt) (k : Nat) (view : Int) (hk : k < ps.length) : dropP (ps.take (k + 1)) view = dropP (ps.take k) view ++ (if view ≤ (ps.getD k zpt).1 then [ps.getD k zpt] else []) := by
 rw [pt_take hk]
 unfold dropP
 rw [List.filter_append]
 simp [List.filter_cons]

theorem specTableDrop (v : Value) (ps : List Pt) (view : Int) (w : World) (hl : ps.length ≤ 4194304) (h : RPt w v ps) :
 Calls Tryz.prog 35 #[v,.int .i64 view] w fun e w' => ∃ u, e = .returned u ∧ OPt w' w.heap.size u (dropP ps view) ∧ Below w.heap.size w w' := by
 obtain ⟨ao, ca, rfl⟩:=h.form
 obtain ⟨n, hn⟩ : ∃ n, ps.length = n:=⟨_, rfl⟩
 have Hn:=hide hn
 obtain ⟨w0, hw0⟩ : ∃ y, w.alloc (.cells #[] 36) = y:=⟨_, rfl⟩
 have B0 : Below w.heap.size w w0:=hw0 ▸ qalloc _ _
 have T0 : OPtV w0 w.heap.size (.slice (some ⟨w.heap.size, 0, none⟩) 0 0) [] []:=hw0 ▸ opt_empty w
 have H:=hide h
 rw [hn] at hl H ⊢
 clear h hn
 go_enter Tryz.func35, Tryz.ntmps35
 go_wp2
 go_loopw [5, 6] (fun t i wr => ∃ (k : Nat) (ds : List Pt) (vs : List Value) (ta : Option Addr) (tc : Nat), k ≤ n ∧ i = .int .i64 k ∧ t = .slice ta ds.length tc ∧ ds.length ≤ k ∧ Hid (dropP (ps.take k) view = ds) ∧ OPtV wr w.heap.size (.slice ta ds.length tc) ds vs ∧ Below w.heap.size w wr) (fun _ i _ => n - (intOf i).toNat)
 case atStart => exact ⟨0, [], _, _, _, Nat.zero_le _, rfl, rfl, Nat.le_refl _, hide (by simp [dropP]), T0, B0⟩
 case round =>
  clear T0 B0 hw0
  obtain ⟨k, ds, vs, ta, tc, hk, rfl, rfl, hdl, HD, T, br⟩:=hrel
  by_cases hlt : k < n
  ·have hkx : k < ps.length:=by have:=Hn.out; omega
   have HT:=hide (drop_take ps k view hkx)
   rw [HD.out] at HT
   obtain ⟨g, off, u, rfl, c0, c1, c2, ru⟩:=(H.out.below br).at k hkx
   obtain ⟨x, hx⟩ : ∃ x, ps.getD k zpt = x:=⟨_, rfl⟩
   rw [hx] at c0 c1 ru HT
   clear hx
   obtain ⟨m, s, xs⟩:=x
   simp only at c0 c1 ru
   have CP:=hide fun w h => l10Copy_any m s u xs w h
   obtain ⟨ua, uc, rfl⟩:=ru.form
   have RU:=hide ru
   have TT:=hide T
   clear ru T H
   generalize xs.length = xl at *
   by_cases hv : view ≤ m
   ·rw [if_pos hv] at HT
    go_wp2_with fail
    refine (CP.out _ RU.out).mono ?_
    rintro e w2 ⟨u2, rfl, o2, b2⟩
    have T2:=TT.out.below b2
    have B2:=bu br b2
    obtain ⟨w3, hw3⟩ : ∃ y, w2.alloc (.cells #[.int .i64 m,.string s, u2] 36) = y:=⟨_, rfl⟩
    have t3 : Below w2.heap.size w2 w3:=hw3 ▸ qalloc _ _
    have L3 : Loc w3 w2.heap.size #[.int .i64 m,.string s, u2]:=hw3 ▸ loc_at w2 _ _ rfl
    have T3:=hide (T2.below t3)
    have O3:=hide (o2.below t3)
    have B3:=bu B2 t3
    have hN : Hid (∀ j, j < (ds).length → ∀ b, (vs.getD j (.slice none 0 0)).ownBlock = some b → b < wr.heap.size):=hide fun j hj b hb => (World.ownsRow.lt (TT.out.each j hj) b hb).2
    have d0:=L3.cell 0 rfl
    have d1:=L3.cell 1 rfl
    have d2:=L3.cell 2 rfl
    obtain ⟨xa, xc, rfl⟩:=o2.form
    have sr:=br.size
    have s3:=B3.size
    clear T2 B2 o2 b2 TT CP RU c0 c1 c2 t3 L3
    go_wp2_with (first
     | (at_builtin; clear hw3; refine append_part rfl _ _ rfl w.heap.size wr.heap.size (.slice ta ds.length tc) (ds) vs w2.heap.size 1 m s _ xs rfl rfl T3.out d0 d1 d2 O3.out hN.out sr (by omega) s3 ?_; intro v4 w4 ho4 hg4 _
        have r4:=World.ownsRow.lt T3.out.row
        have B4:=B3.grown hg4 s3 (fun j e => (r4 j e).1)
        obtain ⟨a4, c4, hv4⟩:=OPt.form ⟨_, ho4⟩
        subst hv4
        have O4:=hide ho4
        clear T3 O3 B3 ho4 hg4 r4 d0 d1 d2 hN))
    go_roundw
    case rel => exact ⟨k + 1, ds ++ [(m, s, xs)], _, a4, c4, by omega, by go_num, by simp, by simp; omega, HT, O4.out, B4⟩
    case measure => simp [intOf]; omega
   rw [if_neg hv, List.append_nil] at HT
   clear CP RU
   go_wp2
   go_roundw
   case rel => exact ⟨k + 1, ds, vs, ta, tc, by omega, by go_num, rfl, by omega, HT, TT.out, br⟩
   case measure => simp [intOf]; omega
  have hkn : ps.take k = ps:=List.take_of_length_le (by have:=Hn.out; omega)
  rw [hkn] at HD
  have T':=hide T
  have HD':=HD.out
  subst HD'
  clear T hkn H
  go_wp2
  go_ret
  exact ⟨_, rfl, ⟨_, T'.out⟩, br⟩

theorem get_first {ps : List Pt} {k : Nat} {v : Int} {s : ByteArray} (hk : k < ps.length) (h0 : (ps.take k).find? (fun x => decide (x.1 = v) && (x.2.1.toList == s.toList)) = none) (h1 : (ps.getD k zpt).1 = v) (h2 : ((ps.getD k zpt).2.1.toList == s.toList) = true) : getP ps v s = ps.getD k zpt := by
 unfold getP
 have e : ps = ps.take k ++ (ps.getD k zpt :: ps.drop (k + 1)):=by
  conv => lhs; rw [← List.take_append_drop k ps, List.drop_eq_getElem_cons hk]
  simp [List.getElem?_eq_getElem hk]
 conv => lhs; rw [e]
 rw [List.find?_append, h0, List.find?_cons_of_pos (by rw [decide_eq_true h1, h2]; rfl)]
 rfl
theorem get_none {ps : List Pt} {v : Int} {s : ByteArray} (h0 : ps.find? (fun x => decide (x.1 = v) && (x.2.1.toList == s.toList)) = none) : getP ps v s = (v, s, []) := by
 unfold getP; rw [h0]; rfl
theorem find_more {ps : List Pt} {k : Nat} {p : Pt → Bool} (hk : k < ps.length) (h0 : (ps.take k).find? p = none) (h1 : p (ps.getD k zpt) = false) : (ps.take (k + 1)).find? p = none := by
 rw [pt_take hk, List.find?_append, h0]
 generalize ps.getD k zpt = x at *
 simp [h1]

theorem specTableGet (v : Value) (ps : List Pt) (view : Int) (name : ByteArray) (w : World) (hl : ps.length ≤ 4194304) (h : RPt w v ps) :
 Calls Tryz.prog 33 #[v,.int .i64 view,.string name] w fun e w' => ∃ u, e = .returned (qv (getP ps view name).1 (getP ps view name).2.1 u) ∧ OI w' w.heap.size u (getP ps view name).2.2 ∧ Below w.heap.size w w' := by
 obtain ⟨ao, ca, rfl⟩:=h.form
 obtain ⟨n, hn⟩ : ∃ n, ps.length = n:=⟨_, rfl⟩
 have Hn:=hide hn
 obtain ⟨w0, hw0⟩ : ∃ y, w.alloc zpo = y:=⟨_, rfl⟩
 have B0 : Below w.heap.size w w0:=hw0 ▸ qalloc _ _
 have Z0 : Loc w0 w.heap.size #[.int .i64 0,.string ⟨#[]⟩,.slice none 0 0]:=hw0 ▸ loc_at w _ _ rfl
 have s0 : w0.heap.size = w.heap.size + 1:=by rw [← hw0]; simp
 have H:=hide h
 rw [hn] at hl H ⊢
 clear h hn
 have FIN : Hid (∀ (w' : World) (m : Int) (s : ByteArray) (u : Value) (xs : List Int), OI w' w0.heap.size u xs → Below w.heap.size w w' → OI (((w'.setCell ⟨w.heap.size, 0, none⟩ (.int .i64 m)).setCell ⟨w.heap.size, 1, none⟩ (.string s)).setCell ⟨w.heap.size, 2, none⟩ u) w.heap.size u xs ∧ Below w.heap.size w (((w'.setCell ⟨w.heap.size, 0, none⟩ (.int .i64 m)).setCell ⟨w.heap.size, 1, none⟩ (.string s)).setCell ⟨w.heap.size, 2, none⟩ u)):=hide fun w' m s u xs ho hb => by
  have lt:=World.ownsRow.lt ho
  have K : Kp w' (((w'.setCell ⟨w.heap.size, 0, none⟩ (.int .i64 m)).setCell ⟨w.heap.size, 1, none⟩ (.string s)).setCell ⟨w.heap.size, 2, none⟩ u) (fun k => k = w.heap.size):=((set_kp _ _ _ _).trans (set_kp _ _ _ _)).trans (set_kp _ _ _ _)
  exact ⟨OI.mono (ho.kp K (fun k hk e => by have := (lt k hk).1; omega)) (by omega), Below.kp hb K hb.size (fun k e => by omega)⟩
 go_enter Tryz.func33, Tryz.ntmps33
 go_wp2
 go_loopw [7] (fun i wr => ∃ k : Nat, k ≤ n ∧ i = .int .i64 k ∧ Hid ((ps.take k).find? (fun x => decide (x.1 = view) && (x.2.1.toList == name.toList)) = none) ∧ Below w0.heap.size w0 wr) (fun i _ => n - (intOf i).toNat)
 case atStart => exact ⟨0, Nat.zero_le _, rfl, hide (by simp), Below.refl _ _⟩
 case round =>
  clear hw0
  obtain ⟨k, hk, rfl, HK, br⟩:=hrel
  have Z:=Z0.up br
  have B:=bu B0 br
  by_cases hlt : k < n
  ·have hkx : k < ps.length:=by have:=Hn.out; omega
   obtain ⟨g, off, u, rfl, c0, c1, c2, ru⟩:=(H.out.below B).at k hkx
   have HF : Hid ((ps.getD k zpt).1 = view → ((ps.getD k zpt).2.1.toList == name.toList) = true → getP ps view name = ps.getD k zpt):=hide (get_first hkx HK.out)
   have HM : Hid ((decide ((ps.getD k zpt).1 = view) && ((ps.getD k zpt).2.1.toList == name.toList)) = false → (ps.take (k + 1)).find? (fun x => decide (x.1 = view) && (x.2.1.toList == name.toList)) = none):=hide (find_more hkx HK.out)
   obtain ⟨x, hx⟩ : ∃ x, ps.getD k zpt = x:=⟨_, rfl⟩
   rw [hx] at c0 c1 ru HF HM
   clear hx
   obtain ⟨m, s, xs⟩:=x
   simp only at c0 c1 ru HF HM
   by_cases h1 : m = view
   ·by_cases h2 : (s.toList == name.toList) = true
    ·have E:=hide (HF.out h1 h2)
     subst h1
     have CP:=hide fun w h => l10Copy_any m s u xs w h
     obtain ⟨ua, uc, rfl⟩:=ru.form
     have RU:=hide ru
     clear ru H HF HM HK
     generalize xs.length = xl at *
     go_wp2_with fail
     refine (CP.out _ RU.out).mono ?_
     rintro e w2 ⟨u2, rfl, o2, b2⟩
     have Z2:=Z.up b2
     have B2:=bu B b2
     have z0:=Z2.cell 0 rfl
     have z1:=Z2.cell 1 rfl
     have z2:=Z2.cell 2 rfl
     have fz:=Z2.frozen
     have R:=hide (FIN.out w2 m s u2 xs (OI.mono o2 br.size) B2)
     obtain ⟨xa, xc, rfl⟩:=o2.form
     clear o2 b2 Z Z2 B2 c0 c1 c2 CP RU FIN
     go_wp2
     refine bodyPost_ret (v := qv m s (.slice xa xs.length xc)) (by simp [results, Tryz.results33, go_sem, z0, z1, z2]) rfl ?_
     rw [E.out]
     exact ⟨_, rfl, R.out.1, R.out.2⟩
    have h2' : (s.toList == name.toList) = false:=by simpa using h2
    have HK2:=hide (HM.out (by rw [h2']; simp))
    clear HF HM HK
    go_wp2
    go_roundw
    case rel => exact ⟨k + 1, by omega, by go_num, HK2, br⟩
    case measure => simp [intOf]; omega
   have h1' : decide (m = view) = false:=by simpa using h1
   have HK2:=hide (HM.out (by rw [h1']; rfl))
   clear HF HM HK
   go_wp2
   go_roundw
   case rel => exact ⟨k + 1, by omega, by go_num, HK2, br⟩
   case measure => simp [intOf]; omega
  have hkn : ps.take k = ps:=List.take_of_length_le (by have:=Hn.out; omega)
  have h0:=HK.out
  rw [hkn] at h0
  have E:=hide (get_none h0)
  have z0:=Z.cell 0 rfl
  have z1:=Z.cell 1 rfl
  have z2:=Z.cell 2 rfl
  have fz:=Z.frozen
  have R:=hide (FIN.out wr view name (.slice none 0 0) [] (World.ownsRow_nil _ _ _ _) B)
  clear HK h0 hkn H Z FIN
  go_wp2
  refine bodyPost_ret (v := qv view name (.slice none 0 0)) (by simp [results, Tryz.results33, go_sem, z0, z1, z2]) rfl ?_
  rw [E.out]
  exact ⟨_, rfl, R.out.1, R.out.2⟩
end
end Go.Proofs.YtjkcphnohhpihaaGreatDoor
