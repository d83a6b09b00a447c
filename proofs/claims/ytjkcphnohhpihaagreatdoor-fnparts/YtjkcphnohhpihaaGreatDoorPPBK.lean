/- Lemmas; their conditions stand in each statement. -/
import Derived.Test.YtjkcphnohhpihaaGreatDoorPPBJ
set_option maxRecDepth 100000
set_option maxHeartbeats 8000000
set_option linter.unusedSectionVars false
namespace Go.Proofs.YtjkcphnohhpihaaGreatDoor
section
open Go.RowKit
variable [∀ (a b c d : Int), Decidable (Ok4 a b c d)]
variable [∀ (a b c d : Nat), Decidable (okN a b c d)]
variable [∀ (x : T4), Decidable (OkT x)]
variable [∀ (last : Int) (s : St), Decidable (GoodSt last s)]
variable [∀ (n f : Int), Decidable (COk n f)]
theorem drawPartOk (ao : Option Addr) (ca : Nat) (zs : List Int) (w : World) (h : DCode w ao zs) :
 Calls Tryz.prog 28 #[.slice ao zs.length ca] w fun e w' => ∃ (n f v : Int) (s : ByteArray) (u : Value) (xs : List Int), e = .returned (.tuple #[cv n f, qv v s u]) ∧ (-1 ≤ v ∧ v ≤ 61) ∧ s.size ≤ 8001 ∧ xs.length ≤ 9 ∧ Hid (WfL xs) ∧ OI w' w.heap.size u xs ∧ Below w.heap.size w w' := by
 obtain ⟨w0, hw0⟩ : ∃ w0, (w.alloc (.cells #[.int .i64 0,.int .i64 0] 33)).alloc (.cells #[.int .i64 0,.string ⟨#[]⟩,.slice none 0 0] 36) = w0:=⟨_, rfl⟩
 have B : Below w.heap.size w w0:=hw0 ▸ qalloc2 _ _ _
 have R : Loc w0 w.heap.size #[.int .i64 0,.int .i64 0]:=hw0 ▸ (loc_at w _ _ rfl).alloc _
 have Z : Loc w0 (w.heap.size + 1) #[.int .i64 0,.string ⟨#[]⟩,.slice none 0 0]:=hw0 ▸ loc_at (w.alloc _) _ _ (by simp)
 have s0 : w.heap.size + 1 + 1 ≤ w0.heap.size:=by rw [← hw0]; simp
 have D0:=h.below B
 have NW:=hide (new_any ao ca zs w0 D0.len D0.code D0.fit)
 clear h D0
 go_enter Tryz.func28, Tryz.ntmps28
 go_wp2_with fail
 clear hw0
 refine NW.out.mono ?_
 rintro e w1 ⟨rfl, C, b1⟩
 replace B:=bu B b1
 replace R:=R.up b1
 replace Z:=Z.up b1
 have s1:=b1.size
 generalize w0.heap.size = g at *
 have hg1:=C.lt
 clear b1 NW
 go_wp2_with fail
 refine (drawBentB g g ca ao zs _ (by omega) C).mono ?_
 rintro e w2 ⟨n, f, rfl, hn8, c1, e1⟩
 have s2:=e1.size
 replace R:=R.grown e1 (by omega)
 replace Z:=Z.grown e1 (by omega)
 replace B:=cur_below e1 B B.size (by omega)
 replace C:=c1
 clear c1 e1
 obtain ⟨w3, hw3⟩ : ∃ y, w2.alloc (.cells #[.int .i64 n,.int .i64 f] 33) = y:=⟨_, rfl⟩
 have bb : Below w2.heap.size w2 w3:=hw3 ▸ qalloc _ _
 have X : Loc w3 w2.heap.size #[.int .i64 n,.int .i64 f]:=hw3 ▸ loc_at w2 _ _ rfl
 have s3 : w2.heap.size + 1 ≤ w3.heap.size:=by rw [← hw3]; simp
 replace R:=R.up bb
 replace Z:=Z.up bb
 replace C:=C.below (by omega) bb
 replace B:=bu B bb
 clear bb
 go_upto_region 3 with fail
 clear hw3
 refine wp_region_noPanic ?_
 refine wp_region_held_drew (S := fun w' => (w'.cell? ⟨w2.heap.size, 0, none⟩ = some (.int .i64 n) ∧ w'.cell? ⟨w2.heap.size, 1, none⟩ = some (.int .i64 f))) (by kernel_rfl) ⟨X.cell 0 rfl, X.cell 1 rfl⟩ (fun hHeld => ?_)
 obtain ⟨wd, hd⟩ : ∃ wd, w3.drew = wd:=⟨_, rfl⟩
 have bd : Below w3.heap.size w3 wd:=hd ▸ Below.drew (Below.refl _ _)
 have sd : w3.heap.size ≤ wd.heap.size:=bd.size
 replace R:=R.up bd
 replace Z:=Z.up bd
 replace X:=X.up bd
 replace C:=C.below (by omega) bd
 replace B:=bu B bd
 rw [hd] at hHeld ⊢
 clear hd bd
 refine tx 0 10 ?_
 refine tx 1 11 ?_
 refine tx 2 12 ?_
 refine rd 3 rfl (fun KK hKK => ?_)
 go_simp
 refine (drawPart g g ca ao zs n f _ (by omega) hn8 C).mono ?_
 rintro e w9 ⟨v, s, u, xs, rfl, hv, hs, hl, hw, O, c1, e1⟩
 have s9:=e1.size
 replace R:=R.grown e1 (by omega)
 replace Z:=Z.grown e1 (by omega)
 replace X:=X.grown e1 (by omega)
 replace B:=cur_below e1 B B.size (by omega)
 clear c1 e1 C
 have tO:=World.ownsRow.lt O
 obtain ⟨ua, uc, rfl⟩:=O.form
 obtain ⟨uk, huk⟩ : ∃ k, xs.length = k:=⟨_, rfl⟩
 rw [huk] at O tO ⊢
 clear hHeld
 refine hKK.out _ _ ⟨X.cell 0 rfl, X.cell 1 rfl⟩ (fun hHeld => ?_)
 clear hKK KK
 have c0:=R.cell 0 rfl
 have c1:=R.cell 1 rfl
 have fc:=R.frozen
 refine rd 4 rfl (fun KK hKK => ?_)
 go_simp
 obtain ⟨wa, hwa⟩ : ∃ y, ((w9.setCell ⟨w.heap.size, 0, none⟩ (.int .i64 n)).setCell ⟨w.heap.size, 1, none⟩ (.int .i64 f)) = y:=⟨_, rfl⟩
 have kwa : Kp w9 wa (fun k => k = w.heap.size):=hwa ▸ (set_kp _ _ _ _).trans (set_kp _ _ _ _)
 replace R : Loc wa (w.heap.size) #[.int .i64 n,.int .i64 f]:=hwa ▸ ((R.set 0 _ rfl).set 1 _ rfl)
 replace Z:=Z.kp kwa (by omega)
 replace X:=X.kp kwa (by omega)
 replace O:=O.kp kwa (fun j hj e => by have:=tO j hj; omega)
 replace B:=Below.kp B kwa B.size (fun k hk => by omega)
 have zwa:=kwa.size
 rw [hwa]
 clear hwa kwa c0 c1 fc hHeld
 refine hKK.out _ _ ⟨X.cell 0 rfl, X.cell 1 rfl⟩ (fun hHeld => ?_)
 clear hKK KK
 have c0:=Z.cell 0 rfl
 have c1:=Z.cell 1 rfl
 have c2:=Z.cell 2 rfl
 have fc:=Z.frozen
 refine rd 5 rfl (fun KK hKK => ?_)
 go_simp
 obtain ⟨wb, hwb⟩ : ∃ y, (((wa.setCell ⟨w.heap.size + 1, 0, none⟩ (.int .i64 v)).setCell ⟨w.heap.size + 1, 1, none⟩ (.string s)).setCell ⟨w.heap.size + 1, 2, none⟩ (.slice ua uk uc)) = y:=⟨_, rfl⟩
 have kwb : Kp wa wb (fun k => k = w.heap.size + 1):=hwb ▸ ((set_kp _ _ _ _).trans (set_kp _ _ _ _)).trans (set_kp _ _ _ _)
 replace Z : Loc wb (w.heap.size + 1) #[.int .i64 v,.string s,.slice ua uk uc]:=hwb ▸ (((Z.set 0 _ rfl).set 1 _ rfl).set 2 _ rfl)
 replace R:=R.kp kwb (by omega)
 replace X:=X.kp kwb (by omega)
 replace O:=O.kp kwb (fun j hj e => by have:=tO j hj; omega)
 replace B:=Below.kp B kwb B.size (fun k hk => by omega)
 have zwb:=kwb.size
 rw [hwb]
 clear hwb kwb c0 c1 c2 fc hHeld
 refine hKK.out _ _ ⟨X.cell 0 rfl, X.cell 1 rfl⟩ (fun hHeld => ?_)
 clear hKK KK hHeld
 refine wdn ?_
 have r0:=R.cell 0 rfl
 have r1:=R.cell 1 rfl
 have z0:=Z.cell 0 rfl
 have z1:=Z.cell 1 rfl
 have z2:=Z.cell 2 rfl
 clear R Z X
 go_wp2
 refine bodyPost_ret (v := .tuple #[cv n f, qv v s (.slice ua uk uc)]) (by simp [results, Tryz.results28, go_sem, r0, r1, z0, z1, z2]) rfl ?_
 exact ⟨_, _, _, _, _, xs, rfl, hv, hs, (by omega), hw, O.mono (by omega), B⟩

theorem drawPartJoin (ao : Option Addr) (ca : Nat) (zs : List Int) (w : World) (h : DCode w ao zs) :
 Calls Tryz.prog 18 #[.slice ao zs.length ca] w fun e w' => ∃ (v : Int) (s : ByteArray) (u : Value) (xs : List Int) (v' : Int) (s' : ByteArray) (u' : Value) (ys : List Int), e = .returned (.tuple #[qv v s u, qv v' s' u']) ∧ (-1 ≤ v ∧ v ≤ 61) ∧ s.size ≤ 8001 ∧ xs.length ≤ 9 ∧ Hid (WfL xs) ∧ (-1 ≤ v' ∧ v' ≤ 61) ∧ s'.size ≤ 8001 ∧ ys.length ≤ 9 ∧ Hid (WfL ys) ∧ OI w' w.heap.size u xs ∧ OI w' w.heap.size u' ys ∧ Below w.heap.size w w' := by
 obtain ⟨w0, hw0⟩ : ∃ w0, (w.alloc (.cells #[.int .i64 0,.string ⟨#[]⟩,.slice none 0 0] 36)).alloc (.cells #[.int .i64 0,.string ⟨#[]⟩,.slice none 0 0] 36) = w0:=⟨_, rfl⟩
 have B : Below w.heap.size w w0:=hw0 ▸ qalloc2 _ _ _
 have R : Loc w0 w.heap.size #[.int .i64 0,.string ⟨#[]⟩,.slice none 0 0]:=hw0 ▸ (loc_at w _ _ rfl).alloc _
 have Z : Loc w0 (w.heap.size + 1) #[.int .i64 0,.string ⟨#[]⟩,.slice none 0 0]:=hw0 ▸ loc_at (w.alloc _) _ _ (by simp)
 have s0 : w.heap.size + 1 + 1 ≤ w0.heap.size:=by rw [← hw0]; simp
 have D0:=h.below B
 have NW:=hide (new_any ao ca zs w0 D0.len D0.code D0.fit)
 clear h D0
 go_enter Tryz.func18, Tryz.ntmps18
 go_wp2_with fail
 clear hw0
 refine NW.out.mono ?_
 rintro e w1 ⟨rfl, C, b1⟩
 replace B:=bu B b1
 replace R:=R.up b1
 replace Z:=Z.up b1
 have s1:=b1.size
 generalize w0.heap.size = g at *
 have hg1:=C.lt
 clear b1 NW
 go_wp2_with fail
 refine (drawConf g g ca ao zs _ (by omega) C).mono ?_
 rintro e w2 ⟨n, f, rfl, ⟨hn0, hn1⟩, c1, e1⟩
 have s2:=e1.size
 replace R:=R.grown e1 (by omega)
 replace Z:=Z.grown e1 (by omega)
 replace B:=cur_below e1 B B.size (by omega)
 replace C:=c1
 clear c1 e1
 obtain ⟨w3, hw3⟩ : ∃ y, w2.alloc (.cells #[.int .i64 n,.int .i64 f] 33) = y:=⟨_, rfl⟩
 have bb : Below w2.heap.size w2 w3:=hw3 ▸ qalloc _ _
 have X : Loc w3 w2.heap.size #[.int .i64 n,.int .i64 f]:=hw3 ▸ loc_at w2 _ _ rfl
 have s3 : w2.heap.size + 1 ≤ w3.heap.size:=by rw [← hw3]; simp
 replace R:=R.up bb
 replace Z:=Z.up bb
 replace C:=C.below (by omega) bb
 replace B:=bu B bb
 clear bb
 have x0:=X.cell 0 rfl
 have x1:=X.cell 1 rfl
 go_wp2_with fail
 clear hw3
 refine (drawPart g g ca ao zs n f _ (by omega) (by omega) C).mono ?_
 rintro e w4 ⟨v, s, u, xs, rfl, hv, hs, hl, hw, O, c1, e1⟩
 have s4:=e1.size
 replace R:=R.grown e1 (by omega)
 replace Z:=Z.grown e1 (by omega)
 replace X:=X.grown e1 (by omega)
 replace B:=cur_below e1 B B.size (by omega)
 replace C:=c1
 clear c1 e1 x0 x1
 have tO:=World.ownsRow.lt O
 obtain ⟨ua, uc, rfl⟩:=O.form
 obtain ⟨uk, huk⟩ : ∃ k, xs.length = k:=⟨_, rfl⟩
 rw [huk] at O tO ⊢
 obtain ⟨w5, hw5⟩ : ∃ y, w4.alloc (.cells #[.int .i64 v,.string s,.slice ua uk uc] 36) = y:=⟨_, rfl⟩
 have bb : Below w4.heap.size w4 w5:=hw5 ▸ qalloc _ _
 have Y : Loc w5 w4.heap.size #[.int .i64 v,.string s,.slice ua uk uc]:=hw5 ▸ loc_at w4 _ _ rfl
 have s5 : w4.heap.size + 1 ≤ w5.heap.size:=by rw [← hw5]; simp
 replace R:=R.up bb
 replace Z:=Z.up bb
 replace X:=X.up bb
 replace O:=O.below bb
 replace C:=C.below (by omega) bb
 replace B:=bu B bb
 clear bb
 have x0:=X.cell 0 rfl
 have x1:=X.cell 1 rfl
 go_wp2_with fail
 clear hw5
 refine (drawPart g g ca ao zs n f _ (by omega) (by omega) C).mono ?_
 rintro e w6 ⟨v', s', u', ys, rfl, hv', hs', hl', hw', P, c1, e1⟩
 have s6:=e1.size
 replace R:=R.grown e1 (by omega)
 replace Z:=Z.grown e1 (by omega)
 replace X:=X.grown e1 (by omega)
 replace Y:=Y.grown e1 (by omega)
 replace O:=O.drawn e1 (by omega)
 replace B:=cur_below e1 B B.size (by omega)
 replace C:=c1
 clear c1 e1 x0 x1
 have tP:=World.ownsRow.lt P
 obtain ⟨pa, pc, rfl⟩:=P.form
 obtain ⟨pk, hpk⟩ : ∃ k, ys.length = k:=⟨_, rfl⟩
 rw [hpk] at P tP ⊢
 obtain ⟨w7, hw7⟩ : ∃ y, w6.alloc (.cells #[.int .i64 v',.string s',.slice pa pk pc] 36) = y:=⟨_, rfl⟩
 have bb : Below w6.heap.size w6 w7:=hw7 ▸ qalloc _ _
 have Q : Loc w7 w6.heap.size #[.int .i64 v',.string s',.slice pa pk pc]:=hw7 ▸ loc_at w6 _ _ rfl
 have s7 : w6.heap.size + 1 ≤ w7.heap.size:=by rw [← hw7]; simp
 replace R:=R.up bb
 replace Z:=Z.up bb
 replace X:=X.up bb
 replace Y:=Y.up bb
 replace O:=O.below bb
 replace P:=P.below bb
 replace C:=C.below (by omega) bb
 replace B:=bu B bb
 clear bb
 go_wp2_with fail
 clear hw7
 refine (once_any g g ca ao zs 2 _ (by omega) (by omega) (by omega) C).mono ?_
 rintro e w8 ⟨b, rfl, c1, e1⟩
 have s8:=e1.size
 replace R:=R.grown e1 (by omega)
 replace Z:=Z.grown e1 (by omega)
 replace X:=X.grown e1 (by omega)
 replace Y:=Y.grown e1 (by omega)
 replace Q:=Q.grown e1 (by omega)
 replace O:=O.drawn e1 (by omega)
 replace P:=P.drawn e1 (by omega)
 replace B:=cur_below e1 B B.size (by omega)
 replace C:=c1
 clear c1 e1
 cases b
 ·go_upto_region 8 with fail
  refine wp_region_noPanic ?_
  refine wp_region_held_drew (S := fun w' => (w'.cell? ⟨w4.heap.size, 0, none⟩ = some (.int .i64 v) ∧ w'.cell? ⟨w4.heap.size, 1, none⟩ = some (.string s) ∧ w'.cell? ⟨w4.heap.size, 2, none⟩ = some (.slice ua uk uc)) ∧ (w'.cell? ⟨w6.heap.size, 0, none⟩ = some (.int .i64 v') ∧ w'.cell? ⟨w6.heap.size, 1, none⟩ = some (.string s') ∧ w'.cell? ⟨w6.heap.size, 2, none⟩ = some (.slice pa pk pc))) (by kernel_rfl) ⟨⟨Y.cell 0 rfl, Y.cell 1 rfl, Y.cell 2 rfl⟩, ⟨Q.cell 0 rfl, Q.cell 1 rfl, Q.cell 2 rfl⟩⟩ (fun hHeld => ?_)
  obtain ⟨wd, hd⟩ : ∃ wd, w8.drew = wd:=⟨_, rfl⟩
  have bd : Below w8.heap.size w8 wd:=hd ▸ Below.drew (Below.refl _ _)
  have sd : w8.heap.size ≤ wd.heap.size:=bd.size
  replace R:=R.up bd
  replace Z:=Z.up bd
  replace X:=X.up bd
  replace Y:=Y.up bd
  replace Q:=Q.up bd
  replace O:=O.below bd
  replace P:=P.below bd
  replace C:=C.below (by omega) bd
  replace B:=bu B bd
  rw [hd] at hHeld ⊢
  clear hd bd
  refine tx 0 26 ?_
  refine tx 1 27 ?_
  have c0:=R.cell 0 rfl
  have c1:=R.cell 1 rfl
  have c2:=R.cell 2 rfl
  have fc:=R.frozen
  refine rd 2 rfl (fun KK hKK => ?_)
  go_simp
  obtain ⟨wa, hwa⟩ : ∃ y, (((wd.setCell ⟨w.heap.size, 0, none⟩ (.int .i64 v)).setCell ⟨w.heap.size, 1, none⟩ (.string s)).setCell ⟨w.heap.size, 2, none⟩ (.slice ua uk uc)) = y:=⟨_, rfl⟩
  have kwa : Kp wd wa (fun k => k = w.heap.size):=hwa ▸ ((set_kp _ _ _ _).trans (set_kp _ _ _ _)).trans (set_kp _ _ _ _)
  replace R : Loc wa (w.heap.size) #[.int .i64 v,.string s,.slice ua uk uc]:=hwa ▸ (((R.set 0 _ rfl).set 1 _ rfl).set 2 _ rfl)
  replace Z:=Z.kp kwa (by omega)
  replace X:=X.kp kwa (by omega)
  replace Y:=Y.kp kwa (by omega)
  replace Q:=Q.kp kwa (by omega)
  replace O:=O.kp kwa (fun j hj e => by have:=tO j hj; omega)
  replace P:=P.kp kwa (fun j hj e => by have:=tP j hj; omega)
  replace B:=Below.kp B kwa B.size (fun k hk => by omega)
  have zwa:=kwa.size
  rw [hwa]
  clear hwa kwa c0 c1 c2 fc hHeld
  refine hKK.out _ _ ⟨⟨Y.cell 0 rfl, Y.cell 1 rfl, Y.cell 2 rfl⟩, ⟨Q.cell 0 rfl, Q.cell 1 rfl, Q.cell 2 rfl⟩⟩ (fun hHeld => ?_)
  clear hKK KK
  have c0:=Z.cell 0 rfl
  have c1:=Z.cell 1 rfl
  have c2:=Z.cell 2 rfl
  have fc:=Z.frozen
  refine rd 3 rfl (fun KK hKK => ?_)
  go_simp
  obtain ⟨wb, hwb⟩ : ∃ y, (((wa.setCell ⟨w.heap.size + 1, 0, none⟩ (.int .i64 v')).setCell ⟨w.heap.size + 1, 1, none⟩ (.string s')).setCell ⟨w.heap.size + 1, 2, none⟩ (.slice pa pk pc)) = y:=⟨_, rfl⟩
  have kwb : Kp wa wb (fun k => k = w.heap.size + 1):=hwb ▸ ((set_kp _ _ _ _).trans (set_kp _ _ _ _)).trans (set_kp _ _ _ _)
  replace Z : Loc wb (w.heap.size + 1) #[.int .i64 v',.string s',.slice pa pk pc]:=hwb ▸ (((Z.set 0 _ rfl).set 1 _ rfl).set 2 _ rfl)
  replace R:=R.kp kwb (by omega)
  replace X:=X.kp kwb (by omega)
  replace Y:=Y.kp kwb (by omega)
  replace Q:=Q.kp kwb (by omega)
  replace O:=O.kp kwb (fun j hj e => by have:=tO j hj; omega)
  replace P:=P.kp kwb (fun j hj e => by have:=tP j hj; omega)
  replace B:=Below.kp B kwb B.size (fun k hk => by omega)
  have zwb:=kwb.size
  rw [hwb]
  clear hwb kwb c0 c1 c2 fc hHeld
  refine hKK.out _ _ ⟨⟨Y.cell 0 rfl, Y.cell 1 rfl, Y.cell 2 rfl⟩, ⟨Q.cell 0 rfl, Q.cell 1 rfl, Q.cell 2 rfl⟩⟩ (fun hHeld => ?_)
  clear hKK KK hHeld
  refine wdn ?_
  have r0:=R.cell 0 rfl
  have r1:=R.cell 1 rfl
  have r2:=R.cell 2 rfl
  have z0:=Z.cell 0 rfl
  have z1:=Z.cell 1 rfl
  have z2:=Z.cell 2 rfl
  clear R Z X Y Q C
  go_wp2
  refine bodyPost_ret (v := .tuple #[qv v s (.slice ua uk uc), qv v' s' (.slice pa pk pc)]) (by simp [results, Tryz.results18, go_sem, r0, r1, r2, z0, z1, z2]) rfl ?_
  exact ⟨_, _, _, xs, _, _, _, ys, rfl, hv, hs, (by omega), hw, hv', hs', (by omega), hw', O.mono (by omega), P.mono (by omega), B⟩
 have y0:=Y.cell 0 rfl
 have y1:=Y.cell 1 rfl
 have y2:=Y.cell 2 rfl
 have z0:=Q.cell 0 rfl
 have z1:=Q.cell 1 rfl
 have z2:=Q.cell 2 rfl
 have fz:=Q.frozen
 go_upto_region 8 with fail
 clear y0 y1 y2 z0 z1 z2 fz
 obtain ⟨wj, hwj⟩ : ∃ y, (w8.setCell ⟨w6.heap.size, 0, none⟩ (.int .i64 v)).setCell ⟨w6.heap.size, 1, none⟩ (.string s) = y:=⟨_, rfl⟩
 have kwj : Kp w8 wj (fun k => k = w6.heap.size):=hwj ▸ (set_kp _ _ _ _).trans (set_kp _ _ _ _)
 replace Q : Loc wj (w6.heap.size) #[.int .i64 v,.string s,.slice pa pk pc]:=hwj ▸ ((Q.set 0 _ rfl).set 1 _ rfl)
 replace R:=R.kp kwj (by omega)
 replace Z:=Z.kp kwj (by omega)
 replace X:=X.kp kwj (by omega)
 replace Y:=Y.kp kwj (by omega)
 replace O:=O.kp kwj (fun j hj e => by have:=tO j hj; omega)
 replace P:=P.kp kwj (fun j hj e => by have:=tP j hj; omega)
 replace B:=Below.kp B kwj B.size (fun k hk => by omega)
 have zwj:=kwj.size
 rw [hwj]
 clear hwj kwj C
 refine wp_region_noPanic ?_
 refine wp_region_held_drew (S := fun w' => (w'.cell? ⟨w4.heap.size, 0, none⟩ = some (.int .i64 v) ∧ w'.cell? ⟨w4.heap.size, 1, none⟩ = some (.string s) ∧ w'.cell? ⟨w4.heap.size, 2, none⟩ = some (.slice ua uk uc)) ∧ (w'.cell? ⟨w6.heap.size, 0, none⟩ = some (.int .i64 v) ∧ w'.cell? ⟨w6.heap.size, 1, none⟩ = some (.string s) ∧ w'.cell? ⟨w6.heap.size, 2, none⟩ = some (.slice pa pk pc))) (by kernel_rfl) ⟨⟨Y.cell 0 rfl, Y.cell 1 rfl, Y.cell 2 rfl⟩, ⟨Q.cell 0 rfl, Q.cell 1 rfl, Q.cell 2 rfl⟩⟩ (fun hHeld => ?_)
 obtain ⟨wd, hd⟩ : ∃ wd, wj.drew = wd:=⟨_, rfl⟩
 have bd : Below wj.heap.size wj wd:=hd ▸ Below.drew (Below.refl _ _)
 have sd : wj.heap.size ≤ wd.heap.size:=bd.size
 replace R:=R.up bd
 replace Z:=Z.up bd
 replace X:=X.up bd
 replace Y:=Y.up bd
 replace Q:=Q.up bd
 replace O:=O.below bd
 replace P:=P.below bd
 replace B:=bu B bd
 rw [hd] at hHeld ⊢
 clear hd bd
 refine tx 0 26 ?_
 refine tx 1 27 ?_
 have c0:=R.cell 0 rfl
 have c1:=R.cell 1 rfl
 have c2:=R.cell 2 rfl
 have fc:=R.frozen
 refine rd 2 rfl (fun KK hKK => ?_)
 go_simp
 obtain ⟨wa, hwa⟩ : ∃ y, (((wd.setCell ⟨w.heap.size, 0, none⟩ (.int .i64 v)).setCell ⟨w.heap.size, 1, none⟩ (.string s)).setCell ⟨w.heap.size, 2, none⟩ (.slice ua uk uc)) = y:=⟨_, rfl⟩
 have kwa : Kp wd wa (fun k => k = w.heap.size):=hwa ▸ ((set_kp _ _ _ _).trans (set_kp _ _ _ _)).trans (set_kp _ _ _ _)
 replace R : Loc wa (w.heap.size) #[.int .i64 v,.string s,.slice ua uk uc]:=hwa ▸ (((R.set 0 _ rfl).set 1 _ rfl).set 2 _ rfl)
 replace Z:=Z.kp kwa (by omega)
 replace X:=X.kp kwa (by omega)
 replace Y:=Y.kp kwa (by omega)
 replace Q:=Q.kp kwa (by omega)
 replace O:=O.kp kwa (fun j hj e => by have:=tO j hj; omega)
 replace P:=P.kp kwa (fun j hj e => by have:=tP j hj; omega)
 replace B:=Below.kp B kwa B.size (fun k hk => by omega)
 have zwa:=kwa.size
 rw [hwa]
 clear hwa kwa c0 c1 c2 fc hHeld
 refine hKK.out _ _ ⟨⟨Y.cell 0 rfl, Y.cell 1 rfl, Y.cell 2 rfl⟩, ⟨Q.cell 0 rfl, Q.cell 1 rfl, Q.cell 2 rfl⟩⟩ (fun hHeld => ?_)
 clear hKK KK
 have c0:=Z.cell 0 rfl
 have c1:=Z.cell 1 rfl
 have c2:=Z.cell 2 rfl
 have fc:=Z.frozen
 refine rd 3 rfl (fun KK hKK => ?_)
 go_simp
 obtain ⟨wb, hwb⟩ : ∃ y, (((wa.setCell ⟨w.heap.size + 1, 0, none⟩ (.int .i64 v)).setCell ⟨w.heap.size + 1, 1, none⟩ (.string s)).setCell ⟨w.heap.size + 1, 2, none⟩ (.slice pa pk pc)) = y:=⟨_, rfl⟩
 have kwb : Kp wa wb (fun k => k = w.heap.size + 1):=hwb ▸ ((set_kp _ _ _ _).trans (set_kp _ _ _ _)).trans (set_kp _ _ _ _)
 replace Z : Loc wb (w.heap.size + 1) #[.int .i64 v,.string s,.slice pa pk pc]:=hwb ▸ (((Z.set 0 _ rfl).set 1 _ rfl).set 2 _ rfl)
 replace R:=R.kp kwb (by omega)
 replace X:=X.kp kwb (by omega)
 replace Y:=Y.kp kwb (by omega)
 replace Q:=Q.kp kwb (by omega)
 replace O:=O.kp kwb (fun j hj e => by have:=tO j hj; omega)
 replace P:=P.kp kwb (fun j hj e => by have:=tP j hj; omega)
 replace B:=Below.kp B kwb B.size (fun k hk => by omega)
 have zwb:=kwb.size
 rw [hwb]
 clear hwb kwb c0 c1 c2 fc hHeld
 refine hKK.out _ _ ⟨⟨Y.cell 0 rfl, Y.cell 1 rfl, Y.cell 2 rfl⟩, ⟨Q.cell 0 rfl, Q.cell 1 rfl, Q.cell 2 rfl⟩⟩ (fun hHeld => ?_)
 clear hKK KK hHeld
 refine wdn ?_
 have r0:=R.cell 0 rfl
 have r1:=R.cell 1 rfl
 have r2:=R.cell 2 rfl
 have z0:=Z.cell 0 rfl
 have z1:=Z.cell 1 rfl
 have z2:=Z.cell 2 rfl
 clear R Z X Y Q
 go_wp2
 refine bodyPost_ret (v := .tuple #[qv v s (.slice ua uk uc), qv v s (.slice pa pk pc)]) (by simp [results, Tryz.results18, go_sem, r0, r1, r2, z0, z1, z2]) rfl ?_
 exact ⟨_, _, _, xs, _, _, _, ys, rfl, hv, hs, (by omega), hw, hv, hs, (by omega), hw', O.mono (by omega), P.mono (by omega), B⟩
end
section
open Go.RowKit
variable [∀ (a b c d : Int), Decidable (Ok4 a b c d)]
variable [∀ (a b c d : Nat), Decidable (okN a b c d)]
variable [∀ (x : T4), Decidable (OkT x)]
variable [∀ (last : Int) (s : St), Decidable (GoodSt last s)]
variable [∀ (n f : Int), Decidable (COk n f)]
variable [∀ (n : Int) (s : List Int), Decidable (OkL n s)]
def SmP (b : Nat) (ps : List Pt) : Prop := ∀ q ∈ ps, q.2.1.size ≤ 8001 ∧ q.2.2.length ≤ b ∧ WfL q.2.2
theorem wf_join {a b : List Int} (ha : WfL a) (hb : WfL b) : WfL (joinL a b) := fun x hx => by
 rcases (mem_join a b x).1 hx with h | h
 ·exact ha x h
 exact hb x h
theorem smp_add (rb : Bool) {b : Nat} {ps : List Pt} {v : Int} {s : ByteArray} {xs : List Int} (h : SmP b ps) (hs : s.size ≤ 8001) (hx : xs.length ≤ 7) (wx : WfL xs) : SmP (b + 7) (if rb = true then addP ps (v, s, xs) else ps) := by
 intro q hq
 split at hq
 ·rcases addP_mem hq with h1 | rfl | ⟨x, h1, rfl⟩
  ·have:=h q h1; exact ⟨this.1, by omega, this.2.2⟩
  ·exact ⟨hs, by simp only; omega, wx⟩
  have h2:=h x h1
  have:=join_size x.2.2 xs
  exact ⟨h2.1, by simp only [joinP]; omega, wf_join h2.2.2 wx⟩
 have:=h q hq; exact ⟨this.1, by omega, this.2.2⟩
theorem add_len_if (rb : Bool) (ps : List Pt) (p : Pt) : (if rb = true then addP ps p else ps).length ≤ ps.length + 1 := by
 split
 ·exact addP_len ps p
 omega

theorem drawTab (base g ca : Nat) (ao : Option Addr) (zs : List Int) (n f : Int) (w : World) (hB : base ≤ w.heap.size) (hn8 : n ≤ 8) (h : Cur w base g ao ca zs) :
 Calls Tryz.prog 61 #[.pointer (some ⟨g, 0, none⟩), cv n f] w fun e w' => ∃ (t : Value) (ps : List Pt), e = .returned t ∧ ps.length ≤ 5 ∧ Hid (SmP 40 ps) ∧ OPt w' w.heap.size t ps ∧ Cur w' base g ao ca zs ∧ w.grownBy w' (some g) := by
 have hlt:=h.lt
 obtain ⟨w0, hw0⟩ : ∃ y, w.alloc (.cells #[.int .i64 n,.int .i64 f] 33) = y:=⟨_, rfl⟩
 have b0 : Below w.heap.size w w0:=hw0 ▸ qalloc _ _
 have LC : Loc w0 w.heap.size #[.int .i64 n,.int .i64 f]:=hw0 ▸ loc_at w _ _ rfl
 have s0 : w0.heap.size = w.heap.size + 1:=by rw [← hw0]; simp
 have C:=h.below hB b0
 have K : Kp w w0 (fun k => k = g):=Below.kpOf b0 _
 clear h b0
 obtain ⟨w1, hw1⟩ : ∃ y, w0.alloc (.cells #[] 36) = y:=⟨_, rfl⟩
 have b1 : Below w0.heap.size w0 w1:=hw1 ▸ qalloc _ _
 have TB : OPt w1 (w.heap.size + 1) (.slice (some ⟨w.heap.size + 1, 0, none⟩) 0 0) []:=by
  have:=opt_empty w0
  rw [hw1, s0] at this
  exact ⟨_, this⟩
 replace LC:=LC.up b1
 replace K:=K.trans (Below.kpOf b1 _)
 replace C:=C.below (by omega) b1
 have s1:=b1.size
 clear b1
 go_enter Tryz.func61, Tryz.ntmps61
 go_wp2
 clear hw0 hw1
 go_loopw [5, 6] (fun out j wr => ∃ (k : Nat) (ps : List Pt) (ta : Option Addr) (pl tc : Nat), k ≤ 4 ∧ j = .int .i64 k ∧ out = .slice ta pl tc ∧ pl ≤ k ∧ Hid (ps.length = pl) ∧ Hid (SmP (7 * k) ps) ∧ OPt wr (w.heap.size + 1) (.slice ta pl tc) ps ∧ Loc wr w.heap.size #[.int .i64 n,.int .i64 f] ∧ Cur wr base g ao ca zs ∧ Kp w wr (fun k => k = g)) (fun _ j _ => 4 - (intOf j).toNat)
 case atStart => exact ⟨0, [], _, 0, 0, by omega, rfl, rfl, by omega, hide rfl, hide (fun q hq => by simp at hq), TB, LC, C, K⟩
 case round =>
  clear TB LC C K
  obtain ⟨k, ps, ta, pl, tc, hk, rfl, rfl, hpk0, HL, SM, TB, LC, C, K⟩:=hrel
  have sK:=K.size
  have hll:=LC.lt
  go_wp2_with fail
  refine (below_any base g ca ao zs 5 _ (by omega) (by omega) (by omega) C).mono ?_
  rintro e w7 ⟨r, rfl, r0, r1, c7, g7⟩
  replace C:=c7
  clear c7
  have kk:=kp_of g7
  have sk:=kk.size
  replace LC:=LC.kp kk (by omega)
  replace TB:=TB.kp kk (fun j h1 h2 => by omega)
  replace K:=K.trans kk
  clear kk g7
  by_cases hlt2 : (k : Int) < r
  ·have hd : decide ((k : Int) < r) = true:=by simpa using hlt2
   go_upto_region 5 with fail
   refine wp_region_noPanic ?_
   refine wp_region_held_drew (S := (fun w' => w'.cell? ⟨w.heap.size, 0, none⟩ = some (.int .i64 n) ∧ w'.cell? ⟨w.heap.size, 1, none⟩ = some (.int .i64 f))) (by kernel_rfl) ⟨LC.cell 0 rfl, LC.cell 1 rfl⟩ (fun hHeld => ?_)
   obtain ⟨wd, hd'⟩ : ∃ y, w7.drew = y:=⟨_, rfl⟩
   have bd : Below w7.heap.size w7 wd:=hd' ▸ Below.drew (Below.refl _ _)
   have sk:=bd.size
   replace LC:=LC.up bd
   replace TB:=TB.below bd
   replace K:=K.trans (Below.kpOf bd _)
   replace C:=C.below (by omega) bd
   rw [hd'] at hHeld ⊢
   clear hd' bd
   refine tx 0 15 ?_
   refine tx 1 16 ?_
   refine tx 2 17 ?_
   refine tx 3 18 ?_
   refine rd 4 rfl (fun KK hKK => ?_)
   go_simp
   refine (drawPartR base g ca ao zs n f _ (by omega) hn8 C).mono ?_
   rintro e wb ⟨v, s, u, xs, rfl, hv, hs, hl, WX, O, c4, g4⟩
   replace C:=c4
   clear c4
   have kk:=kp_of g4
   have sk:=kk.size
   replace LC:=LC.kp kk (by omega)
   replace TB:=TB.kp kk (fun j h1 h2 => by omega)
   replace K:=K.trans kk
   clear kk g4
   have TA:=hide (specTableAdd n f (.slice ta pl tc) ps v s u xs wb (by rw [HL.out]; omega) (by omega) (by omega) (fun q hq => by have:=SM.out q hq; omega) (by have:=TB.rpt (fun q hq => by have:=SM.out q hq; omega); exact this) (O.ri (by omega)))
   obtain ⟨ua, uc, hu⟩:=O.form
   subst hu
   clear hHeld
   refine hKK.out _ _ ⟨LC.cell 0 rfl, LC.cell 1 rfl⟩ (fun hHeld => ?_)
   clear hKK KK
   refine rd 5 rfl (fun KK hKK => ?_)
   go_simp
   refine TA.out.mono ?_
   rintro e wc ⟨t, rfl, o5, b5⟩
   have sk:=b5.size
   replace LC:=LC.up b5
   replace K:=K.trans (Below.kpOf b5 _)
   replace C:=C.below (by omega) b5
   have SM2:=hide (smp_add (tokB n f (addP ps (v, s, xs)) && pokB n f v s xs) (b:=7 * k) (v:=v) (s:=s) SM.out (by omega) hl WX.out)
   have HL2:=add_len_if (tokB n f (addP ps (v, s, xs)) && pokB n f v s xs) ps (v, s, xs)
   generalize (tokB n f (addP ps (v, s, xs)) && pokB n f v s xs) = rb at *
   generalize (if rb = true then addP ps (v, s, xs) else ps) = ps2 at *
   replace o5:=o5.mono (show w.heap.size + 1 ≤ wb.heap.size by omega)
   obtain ⟨t5, c5, ht5⟩:=o5.form
   obtain ⟨pl2, hpl2⟩ : ∃ l, ps2.length = l:=⟨_, rfl⟩
   rw [hpl2] at ht5
   subst ht5
   have HL3:=hide hpl2
   have hpk : pl2 ≤ k + 1:=by have:=HL.out; omega
   clear HL2 hpl2 b5 TB TA SM O hHeld
   refine hKK.out _ _ ⟨LC.cell 0 rfl, LC.cell 1 rfl⟩ (fun hHeld => ?_)
   clear hKK KK
   refine tx 6 14 ?_
   refine tx 7 21 ?_
   refine tx 8 22 ?_
   refine tx 9 5 ?_
   clear hHeld
   refine wdn ?_
   go_wp2
   go_roundw
   case rel => exact ⟨k + 1, ps2, t5, pl2, c5, by omega, by go_num, rfl, by omega, HL3, hide (fun q hq => by have := SM2.out q hq; exact ⟨this.1, by omega, this.2.2⟩), o5, LC, C, K⟩
   case measure => simp [intOf]; omega
  have hd : decide ((k : Int) < r) = false:=by simpa using hlt2
  go_wp2_with fail
  refine (once_any base g ca ao zs 8 _ (by omega) (by omega) (by omega) C).mono ?_
  rintro e w8 ⟨b, rfl, c8, g8⟩
  replace C:=c8
  clear c8
  have kk:=kp_of g8
  have sk:=kk.size
  replace LC:=LC.kp kk (by omega)
  replace TB:=TB.kp kk (fun j h1 h2 => by omega)
  replace K:=K.trans kk
  clear kk g8
  cases b with
  | false =>
   have TB':=hide (TB.mono (show w.heap.size ≤ w.heap.size + 1 by omega))
   clear TB LC
   go_wp2
   go_ret
   exact ⟨_, ps, rfl, by have := HL.out; omega, hide (fun q hq => by have := SM.out q hq; exact ⟨this.1, by omega, this.2.2⟩), TB'.out, C, kp_to K⟩
  | true =>
   have n0:=LC.cell 0 rfl
   have n1:=LC.cell 1 rfl
   go_wp2_with fail
   clear n0 n1
   refine (drawPart base g ca ao zs n f _ (by omega) hn8 C).mono ?_
   rintro e w9 ⟨v, s, u, xs, rfl, hv, hs, hl, WX, O, c9, g9⟩
   replace C:=c9
   clear c9
   have sz8:=K.size
   obtain ⟨vs, TV⟩:=TB
   have hN : Hid (∀ j, j < ps.length → ∀ b, (vs.getD j (.slice none 0 0)).ownBlock = some b → b < w8.heap.size):=hide fun j hj b hb => (World.ownsRow.lt (TV.each j hj) b hb).2
   have kk:=kp_of g9
   have sk9:=kk.size
   replace TV:=TV.kp kk (fun j h1 h2 => by omega)
   replace K:=K.trans kk
   clear kk g9 LC
   obtain ⟨ua, uc, hu⟩:=O.form
   obtain ⟨ul, hul⟩ : ∃ l, xs.length = l:=⟨_, rfl⟩
   rw [hul] at hu hl
   subst hu
   replace hul:=hide hul
   obtain ⟨wa, hwa⟩ : ∃ y, w9.alloc (.cells #[.int .i64 v,.string s,.slice ua ul uc] 36) = y:=⟨_, rfl⟩
   have ba : Below w9.heap.size w9 wa:=hwa ▸ qalloc _ _
   have La : Loc wa w9.heap.size #[.int .i64 v,.string s,.slice ua ul uc]:=hwa ▸ loc_at w9 _ _ rfl
   have d0:=La.cell 0 rfl
   have d1:=La.cell 1 rfl
   have d2:=La.cell 2 rfl
   have Ta:=hide (TV.below ba)
   have Oa:=hide (O.below ba)
   have sa:=ba.size
   replace K:=K.trans (Below.kpOf ba _)
   replace C:=C.below (by omega) ba
   clear TV O ba La
   go_wp2_with (first
    | (at_builtin; clear hwa; refine append_part rfl _ _ rfl (w.heap.size + 1) w8.heap.size (.slice ta pl tc) ps vs w9.heap.size 1 v s _ xs rfl rfl Ta.out d0 d1 d2 Oa.out hN.out (by omega) (by rw [HL.out]; omega) (by omega) ?_; intro v4 w4 ho4 hg4 _
       have r4:=World.ownsRow.lt Ta.out.row
       have kx : Kp w w4 (fun k => k = g):=⟨hg4.os.trans K.os, hg4.tape.trans K.tape, hg4.output.trans K.output, Nat.le_trans K.size hg4.size, fun k hk hg => (hg4.block k (Nat.lt_of_lt_of_le hk K.size) (fun e => by have:=r4 k e.symm; omega)).trans (K.block k hk hg)⟩
       have cx:=C.grownNew hg4 (fun j e => by have:=r4 j e; omega)
       obtain ⟨a4, c4, hv4⟩:=OPt.form ⟨_, ho4⟩
       have HL4:=hide (show (ps ++ [(v, s, xs)]).length ≤ 5 by have:=HL.out; simp; omega)
       have SM4 : Hid (SmP 40 (ps ++ [(v, s, xs)])):=hide (fun q hq => by rcases List.mem_append.1 hq with h | h; exact (by have:=SM.out q h; exact ⟨this.1, by omega, this.2.2⟩); simp at h; subst h; exact ⟨hs, by simp only; rw [hul.out]; omega, WX.out⟩)
       generalize ps ++ [(v, s, xs)] = es at *
       subst hv4
       have T4:=hide (show OPt w4 w.heap.size _ es from OPt.mono ⟨_, ho4⟩ (by omega))
       clear Ta Oa hN ho4 hg4 r4 d0 d1 d2 K C SM))
   go_ret
   exact ⟨_, es, rfl, HL4.out, SM4, T4.out, cx, kp_to kx⟩
theorem drawTableOk (ao : Option Addr) (ca : Nat) (zs : List Int) (w : World) (h : DCode w ao zs) :
 Calls Tryz.prog 27 #[.slice ao zs.length ca] w fun e w' => ∃ (n f : Int) (t : Value) (ps : List Pt), e = .returned (.tuple #[cv n f, t]) ∧ ps.length ≤ 5 ∧ Hid (SmP 40 ps) ∧ OPt w' w.heap.size t ps ∧ Below w.heap.size w w' := by
 obtain ⟨w0, hw0⟩ : ∃ w0, w.alloc (.cells #[.int .i64 0,.int .i64 0] 33) = w0:=⟨_, rfl⟩
 have B : Below w.heap.size w w0:=hw0 ▸ qalloc _ _
 have R : Loc w0 w.heap.size #[.int .i64 0,.int .i64 0]:=hw0 ▸ loc_at w _ _ rfl
 have s0 : w.heap.size + 1 ≤ w0.heap.size:=by rw [← hw0]; simp
 have D0:=h.below B
 have NW:=hide (new_any ao ca zs w0 D0.len D0.code D0.fit)
 clear h D0
 go_enter Tryz.func27, Tryz.ntmps27
 go_wp2_with fail
 clear hw0
 refine NW.out.mono ?_
 rintro e w1 ⟨rfl, C, b1⟩
 replace B:=bu B b1
 replace R:=R.up b1
 have s1:=b1.size
 generalize w0.heap.size = g at *
 have hg1:=C.lt
 clear b1 NW
 go_wp2_with fail
 refine (drawConf g g ca ao zs _ (by omega) C).mono ?_
 rintro e w2 ⟨n, f, rfl, ⟨hn0, hn1⟩, c1, e1⟩
 have s2:=e1.size
 replace R:=R.grown e1 (by omega)
 replace B:=cur_below e1 B B.size (by omega)
 replace C:=c1
 clear c1 e1
 obtain ⟨w3, hw3⟩ : ∃ y, w2.alloc (.cells #[.int .i64 n,.int .i64 f] 33) = y:=⟨_, rfl⟩
 have bb : Below w2.heap.size w2 w3:=hw3 ▸ qalloc _ _
 have X : Loc w3 w2.heap.size #[.int .i64 n,.int .i64 f]:=hw3 ▸ loc_at w2 _ _ rfl
 have s3 : w2.heap.size + 1 ≤ w3.heap.size:=by rw [← hw3]; simp
 replace R:=R.up bb
 replace C:=C.below (by omega) bb
 replace B:=bu B bb
 clear bb
 go_upto_region 3 with fail
 clear hw3
 refine wp_region_noPanic ?_
 refine wp_region_held_drew (S := fun w' => (w'.cell? ⟨w2.heap.size, 0, none⟩ = some (.int .i64 n) ∧ w'.cell? ⟨w2.heap.size, 1, none⟩ = some (.int .i64 f))) (by kernel_rfl) ⟨X.cell 0 rfl, X.cell 1 rfl⟩ (fun hHeld => ?_)
 obtain ⟨wd, hd⟩ : ∃ wd, w3.drew = wd:=⟨_, rfl⟩
 have bd : Below w3.heap.size w3 wd:=hd ▸ Below.drew (Below.refl _ _)
 have sd : w3.heap.size ≤ wd.heap.size:=bd.size
 replace R:=R.up bd
 replace X:=X.up bd
 replace C:=C.below (by omega) bd
 replace B:=bu B bd
 rw [hd] at hHeld ⊢
 clear hd bd
 refine tx 0 10 ?_
 refine tx 1 11 ?_
 refine tx 2 12 ?_
 refine rd 3 rfl (fun KK hKK => ?_)
 go_simp
 refine (drawTab g g ca ao zs n f _ (by omega) (by omega) C).mono ?_
 rintro e w9 ⟨t, ps, rfl, hpl, hw, T, c1, e1⟩
 have s9:=e1.size
 replace R:=R.grown e1 (by omega)
 replace X:=X.grown e1 (by omega)
 replace B:=cur_below e1 B B.size (by omega)
 clear c1 e1 C
 obtain ⟨ta, tc, htt⟩:=T.form
 obtain ⟨tl, htl⟩ : ∃ l, ps.length = l:=⟨_, rfl⟩
 rw [htl] at htt hpl
 subst htt
 obtain ⟨vs, T⟩:=T
 replace T:=T.opr
 replace htl:=hide htl
 clear hHeld
 refine hKK.out _ _ ⟨X.cell 0 rfl, X.cell 1 rfl⟩ (fun hHeld => ?_)
 clear hKK KK
 have c0:=R.cell 0 rfl
 have c1:=R.cell 1 rfl
 have fc:=R.frozen
 refine rd 4 rfl (fun KK hKK => ?_)
 go_simp
 obtain ⟨wa, hwa⟩ : ∃ y, ((w9.setCell ⟨w.heap.size, 0, none⟩ (.int .i64 n)).setCell ⟨w.heap.size, 1, none⟩ (.int .i64 f)) = y:=⟨_, rfl⟩
 have kwa : Kp w9 wa (fun k => k = w.heap.size):=hwa ▸ (set_kp _ _ _ _).trans (set_kp _ _ _ _)
 replace R : Loc wa (w.heap.size) #[.int .i64 n,.int .i64 f]:=hwa ▸ ((R.set 0 _ rfl).set 1 _ rfl)
 replace X:=X.kp kwa (by omega)
 replace T:=T.kp kwa (fun j h1 h2 => by omega)
 replace B:=Below.kp B kwa B.size (fun k hk => by omega)
 have zwa:=kwa.size
 rw [hwa]
 clear hwa kwa c0 c1 fc hHeld
 refine hKK.out _ _ ⟨X.cell 0 rfl, X.cell 1 rfl⟩ (fun hHeld => ?_)
 clear hKK KK
 refine tx 5 3 ?_
 clear hHeld
 refine wdn ?_
 have r0:=R.cell 0 rfl
 have r1:=R.cell 1 rfl
 clear R X
 go_wp2
 refine bodyPost_ret (v := .tuple #[cv n f,.slice ta tl tc]) (by simp [results, Tryz.results27, go_sem, r0, r1]) rfl ?_
 exact ⟨_, _, _, ps, rfl, by rw [htl.out]; exact hpl, hw, ⟨vs, T.tab.mono (by omega)⟩, B⟩
end
end Go.Proofs.YtjkcphnohhpihaaGreatDoor
