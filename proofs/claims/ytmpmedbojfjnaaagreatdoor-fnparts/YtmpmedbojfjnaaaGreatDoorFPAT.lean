/- Texts that belong together: DrawPartOks, SpecSets2. -/
import Derived.Test.YtmpmedbojfjnaaaGreatDoorFPAS
import Derived.Test.YtmpmedbojfjnaaaGreatDoorFPAK
import Derived.Test.YtmpmedbojfjnaaaGreatDoorFPAQ
import Derived.Test.YtmpmedbojfjnaaaGreatDoorFPAN
import Derived.Test.YtmpmedbojfjnaaaGreatDoorFPAE
import Derived.Deep.RegionHeld3
import Derived.Deep.DeepCutAuto
import Derived.Test.YtmpmedbojfjnaaaGreatDoorFPAD
import Derived.BigQuiet
namespace Go.Proofs.YtmpmedbojfjnaaaGreatDoor
open Go.RowKit
set_option linter.unusedSectionVars false
variable [∀ (a b c d : Int), Decidable (Ok4 a b c d)]
variable [∀ (a b c d : Nat), Decidable (okN a b c d)]
variable [∀ (x : T4), Decidable (OkT x)]
variable [∀ (n f : Int), Decidable (COk n f)]
variable [∀ (last : Int) (s : St), Decidable (GoodSt last s)]

set_option maxHeartbeats 8000000 in
set_option maxRecDepth 100000 in
theorem drawPartOk (ao : Option Addr) (ca : Nat) (zs : List Int) (w : World) (h : DCode w ao zs) :
 Calls Tryz.prog 38 #[.slice ao zs.length ca] w fun e w' => ∃ (n f v : Int) (s : ByteArray) (u : Value) (xs : List Int), e = .returned (.tuple #[cv n f, qv v s u]) ∧ (-1 ≤ v ∧ v ≤ 61) ∧ s.size ≤ 8001 ∧ xs.length ≤ 9 ∧ Hid (WfL xs) ∧ OI w' w.heap.size u xs ∧ Below w.heap.size w w' := by
 obtain ⟨w0, hw0⟩ : ∃ w0, (w.alloc (.cells #[.int .i64 0, .int .i64 0] 25)).alloc (.cells #[.int .i64 0, .string ⟨#[]⟩, .slice none 0 0] 52) = w0 := ⟨_, rfl⟩
 have B : Below w.heap.size w w0 := hw0 ▸ qalloc2 _ _ _
 have R : Loc w0 w.heap.size #[.int .i64 0, .int .i64 0] := hw0 ▸ (loc_at w _ _ rfl).alloc _
 have Z : Loc w0 (w.heap.size + 1) #[.int .i64 0, .string ⟨#[]⟩, .slice none 0 0] := hw0 ▸ loc_at (w.alloc _) _ _ (by simp)
 have s0 : w.heap.size + 1 + 1 ≤ w0.heap.size := by rw [← hw0]; simp
 have D0 := h.below B (Nat.le_refl _)
 have NW := hide (new_any ao ca zs w0 D0.len D0.code D0.fit)
 clear h D0
 go_enter Tryz.func38, Tryz.ntmps38
 go_wp2_with fail
 clear hw0
 refine (unhide NW).mono ?_
 rintro e w1 ⟨rfl, C, b1⟩
 replace B := B.trans (b1.mono B.size)
 replace R := R.below b1 R.lt
 replace Z := Z.below b1 Z.lt
 have s1 := b1.size
 generalize w0.heap.size = g at *
 have hg1 := C.lt
 clear b1 NW
 go_wp2_with fail
 refine (drawBentB g g ca ao zs _ (by omega) C).mono ?_
 rintro e w2 ⟨n, f, rfl, hn8, c1, e1⟩
 have s2 := e1.size
 replace R := R.grown e1 (by omega)
 replace Z := Z.grown e1 (by omega)
 replace B := cur_below e1 B B.size (by omega)
 replace C := c1
 clear c1 e1
 obtain ⟨w3, hw3⟩ : ∃ y, w2.alloc (.cells #[.int .i64 n, .int .i64 f] 25) = y := ⟨_, rfl⟩
 have bb : Below w2.heap.size w2 w3 := hw3 ▸ qalloc _ _
 have X : Loc w3 w2.heap.size #[.int .i64 n, .int .i64 f] := hw3 ▸ loc_at w2 _ _ rfl
 have s3 : w2.heap.size + 1 ≤ w3.heap.size := by rw [← hw3]; simp
 replace R := R.below bb R.lt
 replace Z := Z.below bb Z.lt
 replace C := C.below (by omega) bb
 replace B := B.trans (bb.mono B.size)
 clear bb
 go_upto_region 3 with fail
 clear hw3
 refine wp_region_noPanic ?_
 refine wp_region_held_drew (S := fun w' => (w'.cell? ⟨w2.heap.size, 0, none⟩ = some (.int .i64 n) ∧ w'.cell? ⟨w2.heap.size, 1, none⟩ = some (.int .i64 f))) (by kernel_rfl) ⟨X.cell 0 rfl, X.cell 1 rfl⟩ (fun hHeld => ?_)
 obtain ⟨wd, hd⟩ : ∃ wd, w3.drew = wd := ⟨_, rfl⟩
 have bd : Below w3.heap.size w3 wd := hd ▸ Below.drew (Below.refl _ _)
 have sd : w3.heap.size ≤ wd.heap.size := bd.size
 replace R := R.below bd R.lt
 replace Z := Z.below bd Z.lt
 replace X := X.below bd X.lt
 replace C := C.below (by omega) bd
 replace B := B.trans (bd.mono B.size)
 rw [hd] at hHeld ⊢
 clear hd bd
 refine tk 0 10 (v := ?_) rfl (hy := .inl ⟨by rfl, ?_⟩) (h := ?_); rotate_left
 ·intro w hSw; (try dsimp only at hSw); go_simp; (try with_reducible rfl)
 simp only [pU]
 refine tk 1 11 (v := ?_) rfl (hy := .inl ⟨by rfl, ?_⟩) (h := ?_); rotate_left
 ·intro w hSw; (try dsimp only at hSw); go_simp; (try with_reducible rfl)
 simp only [pU]
 refine tk 2 12 (v := ?_) rfl (hy := .inl ⟨by rfl, ?_⟩) (h := ?_); rotate_left
 ·intro w hSw; (try dsimp only at hSw); go_simp; (try with_reducible rfl)
 simp only [pU]
 refine ready_at (i := 3) rfl (by kernel_rfl) (fun KK hKK => ?_)
 go_simp
 refine (drawPart g g ca ao zs n f _ (by omega) hn8 C).mono ?_
 rintro e w9 ⟨v, s, u, xs, rfl, hv, hs, hl, hw, O, c1, e1⟩
 have s9 := e1.size
 replace R := R.grown e1 (by omega)
 replace Z := Z.grown e1 (by omega)
 replace X := X.grown e1 (by omega)
 replace B := cur_below e1 B B.size (by omega)
 clear c1 e1 C
 have tO := World.ownsRow.lt O
 obtain ⟨ua, uc, rfl⟩ := O.form
 obtain ⟨uk, huk⟩ : ∃ k, xs.length = k := ⟨_, rfl⟩
 rw [huk] at O tO ⊢
 clear hHeld
 refine hKK.out _ _ ⟨X.cell 0 rfl, X.cell 1 rfl⟩ (fun hHeld => ?_)
 clear hKK KK
 have c0 := R.cell 0 rfl
 have c1 := R.cell 1 rfl
 have fc := R.frozen
 refine ready_at (i := 4) rfl (by kernel_rfl) (fun KK hKK => ?_)
 go_simp
 obtain ⟨wa, hwa⟩ : ∃ y, ((w9.setCell ⟨w.heap.size, 0, none⟩ (.int .i64 n)).setCell ⟨w.heap.size, 1, none⟩ (.int .i64 f)) = y := ⟨_, rfl⟩
 have kwa : Kp w9 wa (fun k => k = w.heap.size) := hwa ▸ (set_kp _ _ _ _).trans (set_kp _ _ _ _)
 replace R : Loc wa (w.heap.size) #[.int .i64 n, .int .i64 f] := hwa ▸ ((R.set 0 _ rfl).set 1 _ rfl)
 replace Z := Z.kp kwa (by omega)
 replace X := X.kp kwa (by omega)
 replace O := O.kp kwa (fun j hj e => by have := tO j hj; omega)
 replace B := Below.kp B kwa B.size (fun k hk => by omega)
 have zwa := kwa.size
 rw [hwa]
 clear hwa kwa c0 c1 fc
 clear hHeld
 refine hKK.out _ _ ⟨X.cell 0 rfl, X.cell 1 rfl⟩ (fun hHeld => ?_)
 clear hKK KK
 have c0 := Z.cell 0 rfl
 have c1 := Z.cell 1 rfl
 have c2 := Z.cell 2 rfl
 have fc := Z.frozen
 refine ready_at (i := 5) rfl (by kernel_rfl) (fun KK hKK => ?_)
 go_simp
 obtain ⟨wb, hwb⟩ : ∃ y, (((wa.setCell ⟨w.heap.size + 1, 0, none⟩ (.int .i64 v)).setCell ⟨w.heap.size + 1, 1, none⟩ (.string s)).setCell ⟨w.heap.size + 1, 2, none⟩ (.slice ua uk uc)) = y := ⟨_, rfl⟩
 have kwb : Kp wa wb (fun k => k = w.heap.size + 1) := hwb ▸ ((set_kp _ _ _ _).trans (set_kp _ _ _ _)).trans (set_kp _ _ _ _)
 replace Z : Loc wb (w.heap.size + 1) #[.int .i64 v, .string s, .slice ua uk uc] := hwb ▸ (((Z.set 0 _ rfl).set 1 _ rfl).set 2 _ rfl)
 replace R := R.kp kwb (by omega)
 replace X := X.kp kwb (by omega)
 replace O := O.kp kwb (fun j hj e => by have := tO j hj; omega)
 replace B := Below.kp B kwb B.size (fun k hk => by omega)
 have zwb := kwb.size
 rw [hwb]
 clear hwb kwb c0 c1 c2 fc
 clear hHeld
 refine hKK.out _ _ ⟨X.cell 0 rfl, X.cell 1 rfl⟩ (fun hHeld => ?_)
 clear hKK KK
 clear hHeld
 refine wpAnyH_done (by kernel_rfl) ?_ _
 refine NoPanic.normal ?_
 have r0 := R.cell 0 rfl
 have r1 := R.cell 1 rfl
 have z0 := Z.cell 0 rfl
 have z1 := Z.cell 1 rfl
 have z2 := Z.cell 2 rfl
 clear R Z X
 go_wp2
 refine bodyPost_ret (v := .tuple #[cv n f, qv v s (.slice ua uk uc)]) (by simp [results, Tryz.results38, go_sem, r0, r1, z0, z1, z2]) rfl ?_
 exact ⟨_, _, _, _, _, xs, rfl, hv, hs, (by omega), hw, O.mono (by omega), B⟩

set_option maxHeartbeats 8000000 in
set_option maxRecDepth 100000 in
theorem drawPartJoin (ao : Option Addr) (ca : Nat) (zs : List Int) (w : World) (h : DCode w ao zs) :
 Calls Tryz.prog 26 #[.slice ao zs.length ca] w fun e w' => ∃ (v : Int) (s : ByteArray) (u : Value) (xs : List Int) (v' : Int) (s' : ByteArray) (u' : Value) (ys : List Int), e = .returned (.tuple #[qv v s u, qv v' s' u']) ∧ (-1 ≤ v ∧ v ≤ 61) ∧ s.size ≤ 8001 ∧ xs.length ≤ 9 ∧ Hid (WfL xs) ∧ (-1 ≤ v' ∧ v' ≤ 61) ∧ s'.size ≤ 8001 ∧ ys.length ≤ 9 ∧ Hid (WfL ys) ∧ OI w' w.heap.size u xs ∧ OI w' w.heap.size u' ys ∧ Below w.heap.size w w' := by
 obtain ⟨w0, hw0⟩ : ∃ w0, (w.alloc (.cells #[.int .i64 0, .string ⟨#[]⟩, .slice none 0 0] 52)).alloc (.cells #[.int .i64 0, .string ⟨#[]⟩, .slice none 0 0] 52) = w0 := ⟨_, rfl⟩
 have B : Below w.heap.size w w0 := hw0 ▸ qalloc2 _ _ _
 have R : Loc w0 w.heap.size #[.int .i64 0, .string ⟨#[]⟩, .slice none 0 0] := hw0 ▸ (loc_at w _ _ rfl).alloc _
 have Z : Loc w0 (w.heap.size + 1) #[.int .i64 0, .string ⟨#[]⟩, .slice none 0 0] := hw0 ▸ loc_at (w.alloc _) _ _ (by simp)
 have s0 : w.heap.size + 1 + 1 ≤ w0.heap.size := by rw [← hw0]; simp
 have D0 := h.below B (Nat.le_refl _)
 have NW := hide (new_any ao ca zs w0 D0.len D0.code D0.fit)
 clear h D0
 go_enter Tryz.func26, Tryz.ntmps26
 go_wp2_with fail
 clear hw0
 refine (unhide NW).mono ?_
 rintro e w1 ⟨rfl, C, b1⟩
 replace B := B.trans (b1.mono B.size)
 replace R := R.below b1 R.lt
 replace Z := Z.below b1 Z.lt
 have s1 := b1.size
 generalize w0.heap.size = g at *
 have hg1 := C.lt
 clear b1 NW
 go_wp2_with fail
 refine (drawConf g g ca ao zs _ (by omega) C).mono ?_
 rintro e w2 ⟨n, f, rfl, ⟨hn0, hn1⟩, c1, e1⟩
 have s2 := e1.size
 replace R := R.grown e1 (by omega)
 replace Z := Z.grown e1 (by omega)
 replace B := cur_below e1 B B.size (by omega)
 replace C := c1
 clear c1 e1
 obtain ⟨w3, hw3⟩ : ∃ y, w2.alloc (.cells #[.int .i64 n, .int .i64 f] 25) = y := ⟨_, rfl⟩
 have bb : Below w2.heap.size w2 w3 := hw3 ▸ qalloc _ _
 have X : Loc w3 w2.heap.size #[.int .i64 n, .int .i64 f] := hw3 ▸ loc_at w2 _ _ rfl
 have s3 : w2.heap.size + 1 ≤ w3.heap.size := by rw [← hw3]; simp
 replace R := R.below bb R.lt
 replace Z := Z.below bb Z.lt
 replace C := C.below (by omega) bb
 replace B := B.trans (bb.mono B.size)
 clear bb
 have x0 := X.cell 0 rfl
 have x1 := X.cell 1 rfl
 go_wp2_with fail
 clear hw3
 refine (drawPart g g ca ao zs n f _ (by omega) (by omega) C).mono ?_
 rintro e w4 ⟨v, s, u, xs, rfl, hv, hs, hl, hw, O, c1, e1⟩
 have s4 := e1.size
 replace R := R.grown e1 (by omega)
 replace Z := Z.grown e1 (by omega)
 replace X := X.grown e1 (by omega)
 replace B := cur_below e1 B B.size (by omega)
 replace C := c1
 clear c1 e1
 clear x0 x1
 have tO := World.ownsRow.lt O
 obtain ⟨ua, uc, rfl⟩ := O.form
 obtain ⟨uk, huk⟩ : ∃ k, xs.length = k := ⟨_, rfl⟩
 rw [huk] at O tO ⊢
 obtain ⟨w5, hw5⟩ : ∃ y, w4.alloc (.cells #[.int .i64 v, .string s, .slice ua uk uc] 52) = y := ⟨_, rfl⟩
 have bb : Below w4.heap.size w4 w5 := hw5 ▸ qalloc _ _
 have Y : Loc w5 w4.heap.size #[.int .i64 v, .string s, .slice ua uk uc] := hw5 ▸ loc_at w4 _ _ rfl
 have s5 : w4.heap.size + 1 ≤ w5.heap.size := by rw [← hw5]; simp
 replace R := R.below bb R.lt
 replace Z := Z.below bb Z.lt
 replace X := X.below bb X.lt
 replace O := O.below bb
 replace C := C.below (by omega) bb
 replace B := B.trans (bb.mono B.size)
 clear bb
 have x0 := X.cell 0 rfl
 have x1 := X.cell 1 rfl
 go_wp2_with fail
 clear hw5
 refine (drawPart g g ca ao zs n f _ (by omega) (by omega) C).mono ?_
 rintro e w6 ⟨v', s', u', ys, rfl, hv', hs', hl', hw', P, c1, e1⟩
 have s6 := e1.size
 replace R := R.grown e1 (by omega)
 replace Z := Z.grown e1 (by omega)
 replace X := X.grown e1 (by omega)
 replace Y := Y.grown e1 (by omega)
 replace O := O.drawn e1 (by omega)
 replace B := cur_below e1 B B.size (by omega)
 replace C := c1
 clear c1 e1
 clear x0 x1
 have tP := World.ownsRow.lt P
 obtain ⟨pa, pc, rfl⟩ := P.form
 obtain ⟨pk, hpk⟩ : ∃ k, ys.length = k := ⟨_, rfl⟩
 rw [hpk] at P tP ⊢
 obtain ⟨w7, hw7⟩ : ∃ y, w6.alloc (.cells #[.int .i64 v', .string s', .slice pa pk pc] 52) = y := ⟨_, rfl⟩
 have bb : Below w6.heap.size w6 w7 := hw7 ▸ qalloc _ _
 have Q : Loc w7 w6.heap.size #[.int .i64 v', .string s', .slice pa pk pc] := hw7 ▸ loc_at w6 _ _ rfl
 have s7 : w6.heap.size + 1 ≤ w7.heap.size := by rw [← hw7]; simp
 replace R := R.below bb R.lt
 replace Z := Z.below bb Z.lt
 replace X := X.below bb X.lt
 replace Y := Y.below bb Y.lt
 replace O := O.below bb
 replace P := P.below bb
 replace C := C.below (by omega) bb
 replace B := B.trans (bb.mono B.size)
 clear bb
 go_wp2_with fail
 clear hw7
 refine (once_any g g ca ao zs 2 _ (by omega) (by omega) (by omega) C).mono ?_
 rintro e w8 ⟨b, rfl, c1, e1⟩
 have s8 := e1.size
 replace R := R.grown e1 (by omega)
 replace Z := Z.grown e1 (by omega)
 replace X := X.grown e1 (by omega)
 replace Y := Y.grown e1 (by omega)
 replace Q := Q.grown e1 (by omega)
 replace O := O.drawn e1 (by omega)
 replace P := P.drawn e1 (by omega)
 replace B := cur_below e1 B B.size (by omega)
 replace C := c1
 clear c1 e1
 cases b
 ·go_upto_region 8 with fail
  refine wp_region_noPanic ?_
  refine wp_region_held_drew (S := fun w' => (w'.cell? ⟨w4.heap.size, 0, none⟩ = some (.int .i64 v) ∧ w'.cell? ⟨w4.heap.size, 1, none⟩ = some (.string s) ∧ w'.cell? ⟨w4.heap.size, 2, none⟩ = some (.slice ua uk uc)) ∧ (w'.cell? ⟨w6.heap.size, 0, none⟩ = some (.int .i64 v') ∧ w'.cell? ⟨w6.heap.size, 1, none⟩ = some (.string s') ∧ w'.cell? ⟨w6.heap.size, 2, none⟩ = some (.slice pa pk pc))) (by kernel_rfl) ⟨⟨Y.cell 0 rfl, Y.cell 1 rfl, Y.cell 2 rfl⟩, ⟨Q.cell 0 rfl, Q.cell 1 rfl, Q.cell 2 rfl⟩⟩ (fun hHeld => ?_)
  obtain ⟨wd, hd⟩ : ∃ wd, w8.drew = wd := ⟨_, rfl⟩
  have bd : Below w8.heap.size w8 wd := hd ▸ Below.drew (Below.refl _ _)
  have sd : w8.heap.size ≤ wd.heap.size := bd.size
  replace R := R.below bd R.lt
  replace Z := Z.below bd Z.lt
  replace X := X.below bd X.lt
  replace Y := Y.below bd Y.lt
  replace Q := Q.below bd Q.lt
  replace O := O.below bd
  replace P := P.below bd
  replace C := C.below (by omega) bd
  replace B := B.trans (bd.mono B.size)
  rw [hd] at hHeld ⊢
  clear hd bd
  refine tk 0 26 (v := ?_) rfl (hy := .inl ⟨by rfl, ?_⟩) (h := ?_); rotate_left
  ·intro w hSw; (try dsimp only at hSw); go_simp; (try with_reducible rfl)
  simp only [pU]
  refine tk 1 27 (v := ?_) rfl (hy := .inl ⟨by rfl, ?_⟩) (h := ?_); rotate_left
  ·intro w hSw; (try dsimp only at hSw); go_simp; (try with_reducible rfl)
  simp only [pU]
  have c0 := R.cell 0 rfl
  have c1 := R.cell 1 rfl
  have c2 := R.cell 2 rfl
  have fc := R.frozen
  refine ready_at (i := 2) rfl (by kernel_rfl) (fun KK hKK => ?_)
  go_simp
  obtain ⟨wa, hwa⟩ : ∃ y, (((wd.setCell ⟨w.heap.size, 0, none⟩ (.int .i64 v)).setCell ⟨w.heap.size, 1, none⟩ (.string s)).setCell ⟨w.heap.size, 2, none⟩ (.slice ua uk uc)) = y := ⟨_, rfl⟩
  have kwa : Kp wd wa (fun k => k = w.heap.size) := hwa ▸ ((set_kp _ _ _ _).trans (set_kp _ _ _ _)).trans (set_kp _ _ _ _)
  replace R : Loc wa (w.heap.size) #[.int .i64 v, .string s, .slice ua uk uc] := hwa ▸ (((R.set 0 _ rfl).set 1 _ rfl).set 2 _ rfl)
  replace Z := Z.kp kwa (by omega)
  replace X := X.kp kwa (by omega)
  replace Y := Y.kp kwa (by omega)
  replace Q := Q.kp kwa (by omega)
  replace O := O.kp kwa (fun j hj e => by have := tO j hj; omega)
  replace P := P.kp kwa (fun j hj e => by have := tP j hj; omega)
  replace B := Below.kp B kwa B.size (fun k hk => by omega)
  have zwa := kwa.size
  rw [hwa]
  clear hwa kwa c0 c1 c2 fc
  clear hHeld
  refine hKK.out _ _ ⟨⟨Y.cell 0 rfl, Y.cell 1 rfl, Y.cell 2 rfl⟩, ⟨Q.cell 0 rfl, Q.cell 1 rfl, Q.cell 2 rfl⟩⟩ (fun hHeld => ?_)
  clear hKK KK
  have c0 := Z.cell 0 rfl
  have c1 := Z.cell 1 rfl
  have c2 := Z.cell 2 rfl
  have fc := Z.frozen
  refine ready_at (i := 3) rfl (by kernel_rfl) (fun KK hKK => ?_)
  go_simp
  obtain ⟨wb, hwb⟩ : ∃ y, (((wa.setCell ⟨w.heap.size + 1, 0, none⟩ (.int .i64 v')).setCell ⟨w.heap.size + 1, 1, none⟩ (.string s')).setCell ⟨w.heap.size + 1, 2, none⟩ (.slice pa pk pc)) = y := ⟨_, rfl⟩
  have kwb : Kp wa wb (fun k => k = w.heap.size + 1) := hwb ▸ ((set_kp _ _ _ _).trans (set_kp _ _ _ _)).trans (set_kp _ _ _ _)
  replace Z : Loc wb (w.heap.size + 1) #[.int .i64 v', .string s', .slice pa pk pc] := hwb ▸ (((Z.set 0 _ rfl).set 1 _ rfl).set 2 _ rfl)
  replace R := R.kp kwb (by omega)
  replace X := X.kp kwb (by omega)
  replace Y := Y.kp kwb (by omega)
  replace Q := Q.kp kwb (by omega)
  replace O := O.kp kwb (fun j hj e => by have := tO j hj; omega)
  replace P := P.kp kwb (fun j hj e => by have := tP j hj; omega)
  replace B := Below.kp B kwb B.size (fun k hk => by omega)
  have zwb := kwb.size
  rw [hwb]
  clear hwb kwb c0 c1 c2 fc
  clear hHeld
  refine hKK.out _ _ ⟨⟨Y.cell 0 rfl, Y.cell 1 rfl, Y.cell 2 rfl⟩, ⟨Q.cell 0 rfl, Q.cell 1 rfl, Q.cell 2 rfl⟩⟩ (fun hHeld => ?_)
  clear hKK KK
  clear hHeld
  refine wpAnyH_done (by kernel_rfl) ?_ _
  refine NoPanic.normal ?_
  have r0 := R.cell 0 rfl
  have r1 := R.cell 1 rfl
  have r2 := R.cell 2 rfl
  have z0 := Z.cell 0 rfl
  have z1 := Z.cell 1 rfl
  have z2 := Z.cell 2 rfl
  clear R Z X Y Q C
  go_wp2
  refine bodyPost_ret (v := .tuple #[qv v s (.slice ua uk uc), qv v' s' (.slice pa pk pc)]) (by simp [results, Tryz.results26, go_sem, r0, r1, r2, z0, z1, z2]) rfl ?_
  exact ⟨_, _, _, xs, _, _, _, ys, rfl, hv, hs, (by omega), hw, hv', hs', (by omega), hw', O.mono (by omega), P.mono (by omega), B⟩
 ·have y0 := Y.cell 0 rfl
  have y1 := Y.cell 1 rfl
  have y2 := Y.cell 2 rfl
  have z0 := Q.cell 0 rfl
  have z1 := Q.cell 1 rfl
  have z2 := Q.cell 2 rfl
  have fz := Q.frozen
  go_upto_region 8 with fail
  clear y0 y1 y2 z0 z1 z2 fz
  obtain ⟨wj, hwj⟩ : ∃ y, (w8.setCell ⟨w6.heap.size, 0, none⟩ (.int .i64 v)).setCell ⟨w6.heap.size, 1, none⟩ (.string s) = y := ⟨_, rfl⟩
  have kwj : Kp w8 wj (fun k => k = w6.heap.size) := hwj ▸ (set_kp _ _ _ _).trans (set_kp _ _ _ _)
  replace Q : Loc wj (w6.heap.size) #[.int .i64 v, .string s, .slice pa pk pc] := hwj ▸ ((Q.set 0 _ rfl).set 1 _ rfl)
  replace R := R.kp kwj (by omega)
  replace Z := Z.kp kwj (by omega)
  replace X := X.kp kwj (by omega)
  replace Y := Y.kp kwj (by omega)
  replace O := O.kp kwj (fun j hj e => by have := tO j hj; omega)
  replace P := P.kp kwj (fun j hj e => by have := tP j hj; omega)
  replace B := Below.kp B kwj B.size (fun k hk => by omega)
  have zwj := kwj.size
  rw [hwj]
  clear hwj kwj C
  refine wp_region_noPanic ?_
  refine wp_region_held_drew (S := fun w' => (w'.cell? ⟨w4.heap.size, 0, none⟩ = some (.int .i64 v) ∧ w'.cell? ⟨w4.heap.size, 1, none⟩ = some (.string s) ∧ w'.cell? ⟨w4.heap.size, 2, none⟩ = some (.slice ua uk uc)) ∧ (w'.cell? ⟨w6.heap.size, 0, none⟩ = some (.int .i64 v) ∧ w'.cell? ⟨w6.heap.size, 1, none⟩ = some (.string s) ∧ w'.cell? ⟨w6.heap.size, 2, none⟩ = some (.slice pa pk pc))) (by kernel_rfl) ⟨⟨Y.cell 0 rfl, Y.cell 1 rfl, Y.cell 2 rfl⟩, ⟨Q.cell 0 rfl, Q.cell 1 rfl, Q.cell 2 rfl⟩⟩ (fun hHeld => ?_)
  obtain ⟨wd, hd⟩ : ∃ wd, wj.drew = wd := ⟨_, rfl⟩
  have bd : Below wj.heap.size wj wd := hd ▸ Below.drew (Below.refl _ _)
  have sd : wj.heap.size ≤ wd.heap.size := bd.size
  replace R := R.below bd R.lt
  replace Z := Z.below bd Z.lt
  replace X := X.below bd X.lt
  replace Y := Y.below bd Y.lt
  replace Q := Q.below bd Q.lt
  replace O := O.below bd
  replace P := P.below bd
  replace B := B.trans (bd.mono B.size)
  rw [hd] at hHeld ⊢
  clear hd bd
  refine tk 0 26 (v := ?_) rfl (hy := .inl ⟨by rfl, ?_⟩) (h := ?_); rotate_left
  ·intro w hSw; (try dsimp only at hSw); go_simp; (try with_reducible rfl)
  simp only [pU]
  refine tk 1 27 (v := ?_) rfl (hy := .inl ⟨by rfl, ?_⟩) (h := ?_); rotate_left
  ·intro w hSw; (try dsimp only at hSw); go_simp; (try with_reducible rfl)
  simp only [pU]
  have c0 := R.cell 0 rfl
  have c1 := R.cell 1 rfl
  have c2 := R.cell 2 rfl
  have fc := R.frozen
  refine ready_at (i := 2) rfl (by kernel_rfl) (fun KK hKK => ?_)
  go_simp
  obtain ⟨wa, hwa⟩ : ∃ y, (((wd.setCell ⟨w.heap.size, 0, none⟩ (.int .i64 v)).setCell ⟨w.heap.size, 1, none⟩ (.string s)).setCell ⟨w.heap.size, 2, none⟩ (.slice ua uk uc)) = y := ⟨_, rfl⟩
  have kwa : Kp wd wa (fun k => k = w.heap.size) := hwa ▸ ((set_kp _ _ _ _).trans (set_kp _ _ _ _)).trans (set_kp _ _ _ _)
  replace R : Loc wa (w.heap.size) #[.int .i64 v, .string s, .slice ua uk uc] := hwa ▸ (((R.set 0 _ rfl).set 1 _ rfl).set 2 _ rfl)
  replace Z := Z.kp kwa (by omega)
  replace X := X.kp kwa (by omega)
  replace Y := Y.kp kwa (by omega)
  replace Q := Q.kp kwa (by omega)
  replace O := O.kp kwa (fun j hj e => by have := tO j hj; omega)
  replace P := P.kp kwa (fun j hj e => by have := tP j hj; omega)
  replace B := Below.kp B kwa B.size (fun k hk => by omega)
  have zwa := kwa.size
  rw [hwa]
  clear hwa kwa c0 c1 c2 fc
  clear hHeld
  refine hKK.out _ _ ⟨⟨Y.cell 0 rfl, Y.cell 1 rfl, Y.cell 2 rfl⟩, ⟨Q.cell 0 rfl, Q.cell 1 rfl, Q.cell 2 rfl⟩⟩ (fun hHeld => ?_)
  clear hKK KK
  have c0 := Z.cell 0 rfl
  have c1 := Z.cell 1 rfl
  have c2 := Z.cell 2 rfl
  have fc := Z.frozen
  refine ready_at (i := 3) rfl (by kernel_rfl) (fun KK hKK => ?_)
  go_simp
  obtain ⟨wb, hwb⟩ : ∃ y, (((wa.setCell ⟨w.heap.size + 1, 0, none⟩ (.int .i64 v)).setCell ⟨w.heap.size + 1, 1, none⟩ (.string s)).setCell ⟨w.heap.size + 1, 2, none⟩ (.slice pa pk pc)) = y := ⟨_, rfl⟩
  have kwb : Kp wa wb (fun k => k = w.heap.size + 1) := hwb ▸ ((set_kp _ _ _ _).trans (set_kp _ _ _ _)).trans (set_kp _ _ _ _)
  replace Z : Loc wb (w.heap.size + 1) #[.int .i64 v, .string s, .slice pa pk pc] := hwb ▸ (((Z.set 0 _ rfl).set 1 _ rfl).set 2 _ rfl)
  replace R := R.kp kwb (by omega)
  replace X := X.kp kwb (by omega)
  replace Y := Y.kp kwb (by omega)
  replace Q := Q.kp kwb (by omega)
  replace O := O.kp kwb (fun j hj e => by have := tO j hj; omega)
  replace P := P.kp kwb (fun j hj e => by have := tP j hj; omega)
  replace B := Below.kp B kwb B.size (fun k hk => by omega)
  have zwb := kwb.size
  rw [hwb]
  clear hwb kwb c0 c1 c2 fc
  clear hHeld
  refine hKK.out _ _ ⟨⟨Y.cell 0 rfl, Y.cell 1 rfl, Y.cell 2 rfl⟩, ⟨Q.cell 0 rfl, Q.cell 1 rfl, Q.cell 2 rfl⟩⟩ (fun hHeld => ?_)
  clear hKK KK
  clear hHeld
  refine wpAnyH_done (by kernel_rfl) ?_ _
  refine NoPanic.normal ?_
  have r0 := R.cell 0 rfl
  have r1 := R.cell 1 rfl
  have r2 := R.cell 2 rfl
  have z0 := Z.cell 0 rfl
  have z1 := Z.cell 1 rfl
  have z2 := Z.cell 2 rfl
  clear R Z X Y Q
  go_wp2
  refine bodyPost_ret (v := .tuple #[qv v s (.slice ua uk uc), qv v s (.slice pa pk pc)]) (by simp [results, Tryz.results26, go_sem, r0, r1, r2, z0, z1, z2]) rfl ?_
  exact ⟨_, _, _, xs, _, _, _, ys, rfl, hv, hs, (by omega), hw, hv, hs, (by omega), hw', O.mono (by omega), P.mono (by omega), B⟩
end Go.Proofs.YtmpmedbojfjnaaaGreatDoor
namespace Go.Proofs.YtmpmedbojfjnaaaGreatDoor
open Go.RowKit
set_option linter.unusedSectionVars false

variable [∀ (n : Int) (s : List Int), Decidable (OkL n s)]
theorem ok_more {n : Int} {xs : List Int} {k : Nat} (hk : k < xs.length) (h : OkL n (xs.take k)) (h0 : 0 ≤ xs.getD k 0) (h1 : xs.getD k 0 < n) (h2 : 0 < k → xs.getD (k - 1) 0 < xs.getD k 0) : OkL n (xs.take (k + 1)) := by
 rw [itake_more xs k hk]
 refine ⟨fun x hx => ?_, List.pairwise_append.2 ⟨h.2, by simp, fun x hx y hy => ?_⟩⟩
 ·rcases List.mem_append.1 hx with hx | hx
  ·exact h.1 x hx
  ·simp at hx; subst hx; exact ⟨h0, h1⟩
 ·simp at hy
  subst hy
  by_cases hk0 : 0 < k
  ·have h3 := h2 hk0
   have e : xs.take k = xs.take (k - 1) ++ [xs.getD (k - 1) 0] := by
    have := itake_more xs (k - 1) (by omega)
    rwa [show k - 1 + 1 = k by omega] at this
   have hp := h.2
   rw [e] at hx hp
   rcases List.mem_append.1 hx with hx | hx
   ·have := (List.pairwise_append.1 hp).2.2 x hx (xs.getD (k - 1) 0) (by simp)
    simp only [List.getD_eq_getElem?_getD] at *
    omega
   ·simp at hx
    simp only [List.getD_eq_getElem?_getD] at *
    omega
  ·have : k = 0 := by omega
   subst this; simp at hx
theorem ok_not {n : Int} {xs : List Int} {k : Nat} (hk : k < xs.length) (h : xs.getD k 0 < 0 ∨ n ≤ xs.getD k 0 ∨ (0 < k ∧ xs.getD k 0 ≤ xs.getD (k - 1) 0)) : ¬ OkL n xs := fun ho => by
 have hm := ho.1 _ (getD_mem_int hk)
 rcases h with h | h | ⟨h0, h⟩
 ·omega
 ·omega
 ·have := List.pairwise_iff_getElem.1 ho.2 (k - 1) k (by omega) hk (by omega)
  rw [List.getD_eq_getElem?_getD, List.getD_eq_getElem?_getD, List.getElem?_eq_getElem hk, List.getElem?_eq_getElem (show k - 1 < xs.length by omega)] at h
  simp at h
  omega

set_option maxHeartbeats 4000000 in
set_option maxRecDepth 100000 in
theorem specSetOk (m : Int) (v : Value) (xs : List Int) (w : World) (h : RI w v xs) :
 Calls Tryz.prog 114 #[.int .i64 m, v] w fun e w' => e = .returned (.bool (decide (OkL m xs))) ∧ Below w.heap.size w w' := by
 have hl := h.1
 obtain ⟨ao, ca, rfl⟩ := h.form
 have H := hide h
 obtain ⟨n, hn⟩ : ∃ n, xs.length = n := ⟨_, rfl⟩
 have Hn := hide hn
 obtain ⟨r, hr⟩ : ∃ r, decide (OkL m xs) = r := ⟨_, rfl⟩
 have HR := hide hr
 rw [hn] at hl H ⊢
 rw [hr]
 clear h hn hr
 go_enter Tryz.func114, Tryz.ntmps114
 go_wp2
 go_loopw [5] (fun j wr => ∃ k : Nat, k ≤ n ∧ j = .int .i64 k ∧ Hid (OkL m (xs.take k)) ∧ Below w.heap.size w wr) (fun j _ => n - (intOf j).toNat)
 case atStart => exact ⟨0, Nat.zero_le _, rfl, hide (by simp [OkL]), Below.refl _ _⟩
 case round =>
  obtain ⟨k, hk, rfl, HK, br⟩ := hrel
  have HR2 := hide ((unhide H).below br (Nat.le_refl _))
  by_cases hlt : k < n
  ·have hkx : k < xs.length := by have := unhide Hn; omega
   obtain ⟨b, off, rfl, c⟩ := (unhide HR2).at k hkx
   have HP : Hid (0 < k → wr.cell? ⟨b, off + (k - 1), none⟩ = some (.int .i64 (xs.getD (k - 1) 0))) := hide fun h0 => by
    obtain ⟨b', off', e, c'⟩ := (unhide HR2).at (k - 1) (by omega)
    cases e; exact c'
   have HG := hide fun h0 h1 h2 => ok_more hkx (unhide HK) h0 h1 h2
   have HB := hide fun h => ok_not (n := m) hkx h
   generalize xs.getD k 0 = d at *
   by_cases g0 : d < 0
   ·have hrr : r = false := by rw [← unhide HR]; exact decide_eq_false (unhide HB (.inl g0))
    subst hrr
    have g0' : decide (d < 0) = true := by simpa using g0
    clear HG HB HP HK
    go_wp2_with fail
    go_quiet (fail)
    go_wp2
    go_ret
    exact ⟨rfl, by first | exact br | exact below_drewN' br _⟩
   have g0' : decide (d < 0) = false := by simpa using g0
   by_cases g1 : m ≤ d
   ·have hrr : r = false := by rw [← unhide HR]; exact decide_eq_false (unhide HB (.inr (.inl g1)))
    subst hrr
    have g1' : decide (m ≤ d) = true := by simpa using g1
    clear HG HB HP HK
    go_wp2_with fail
    go_quiet (fail)
    go_wp2
    go_ret
    exact ⟨rfl, by first | exact br | exact below_drewN' br _⟩
   have g1' : decide (m ≤ d) = false := by simpa using g1
   by_cases hk0 : 0 < k
   ·have c2 := unhide HP hk0
    obtain ⟨j, rfl⟩ : ∃ j, k = j + 1 := ⟨k - 1, by omega⟩
    rw [show j + 1 - 1 = j by omega] at c2 HG HB
    generalize xs.getD j 0 = p at *
    have ej : (((j + 1 : Nat) : Int)) - 1 = (j : Int) := by omega
    have hk0' : decide ((0 : Int) < ((j + 1 : Nat) : Int)) = true := by rw [decide_eq_true_iff]; omega
    by_cases g2 : d ≤ p
    ·have hrr : r = false := by rw [← unhide HR]; exact decide_eq_false (unhide HB (.inr (.inr ⟨by omega, g2⟩)))
     subst hrr
     have g2' : decide (d ≤ p) = true := by simpa using g2
     clear HG HB HP HK
     go_wp2_with fail
     go_quiet (fail)
     go_wp2
     go_ret
     exact ⟨rfl, by first | exact br | exact below_drewN' br _⟩
    ·have g2' : decide (d ≤ p) = false := by simpa using g2
     have HK' := hide (unhide HG (by omega) (by omega) (fun _ => by omega))
     clear HG HB HP HK
     go_wp2_with fail
     go_quiet (fail)
     go_wp2
     go_roundw
     case rel => exact ⟨j + 1 + 1, by omega, by go_num, HK', by first | exact br | exact below_drewN' br _⟩
     case measure => simp [intOf]; omega
   ·obtain rfl : k = 0 := by omega
    rw [Nat.add_zero] at c
    have HK' := hide (unhide HG (by omega) (by omega) (fun h => by omega))
    clear HG HB HP HK
    go_wp2_with fail
    go_quiet (fail)
    go_wp2
    go_roundw
    case rel => exact ⟨1, by omega, by go_num, HK', by first | exact br | exact below_drewN' br _⟩
    case measure => simp [intOf]; omega
  ·have hkn : k = xs.length := by have := unhide Hn; omega
   have hrr : r = true := by
    rw [← unhide HR]
    have := unhide HK
    rw [List.take_of_length_le (by omega)] at this
    exact decide_eq_true this
   subst hrr
   have hd0 : decide ((k : Int) < (n : Int)) = false := by simp; omega
   clear HK
   go_wp2
   go_ret
   exact ⟨rfl, by first | exact br | exact below_drewN' br _⟩
end Go.Proofs.YtmpmedbojfjnaaaGreatDoor
