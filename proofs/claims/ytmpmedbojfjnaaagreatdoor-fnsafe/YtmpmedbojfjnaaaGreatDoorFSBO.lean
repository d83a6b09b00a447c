/- DrawSee, DrawMayVote, DrawVote, DrawSafeSame, DrawSettles. -/
import Derived.Test.YtmpmedbojfjnaaaGreatDoorFSBN
import Derived.Test.YtmpmedbojfjnaaaGreatDoorFSBI
import Derived.Test.YtmpmedbojfjnaaaGreatDoorFSAS
import Derived.Test.YtmpmedbojfjnaaaGreatDoorFSBK
import Derived.Test.YtmpmedbojfjnaaaGreatDoorFSAZ
namespace Go.Proofs.YtmpmedbojfjnaaaGreatDoor
open Go.RowKit
set_option linter.unusedSectionVars false
variable [∀ (a b c d : Int), Decidable (Ok4 a b c d)]
variable [∀ (a b c d : Nat), Decidable (okN a b c d)]
variable [∀ (last : Int) (s : St), Decidable (GoodSt last s)]
variable [∀ (x : T4), Decidable (OkT x)]
variable [∀ (n : Int) (s : List Int), Decidable (OkL n s)]
variable [∀ (n f : Int), Decidable (COk n f)]
variable [∀ (ts : List T4), Decidable (AllOk ts)]

set_option maxHeartbeats 16000000 in
set_option maxRecDepth 100000 in
theorem drawSee (ao : Option Addr) (ca : Nat) (zs : List Int) (w : World) (h : DCode w ao zs) :
 Calls Tryz.prog 6 #[.slice ao zs.length ca] w fun e w' => ∃ (n f vo lo v : Int) (s : ByteArray) (u : Value) (d : ByteArray) (xs : List Int) (v' : Int) (s' : ByteArray) (u' : Value) (ys : List Int), e = .returned (.tuple #[cv n f, sv vo lo v s u d, qv v' s' u']) ∧ (4 ≤ n ∧ n ≤ 7) ∧ s.size ≤ 8001 ∧ d.size ≤ 8001 ∧ xs.length ≤ 9 ∧ (-1 ≤ v' ∧ v' ≤ 61) ∧ s'.size ≤ 8001 ∧ ys.length ≤ 9 ∧ OI w' w.heap.size u xs ∧ OI w' w.heap.size u' ys ∧ Below w.heap.size w w' := by
 obtain ⟨w0, hw0⟩ : ∃ w0, (((w.alloc (.cells #[.int .i64 0, .int .i64 0] 25)).alloc (.cells #[.int .i64 0, .int .i64 0, .int .i64 0, .string ⟨#[]⟩, .slice none 0 0, .string ⟨#[]⟩] 30)).alloc (.cells #[.int .i64 0, .string ⟨#[]⟩, .slice none 0 0] 28)) = w0 := ⟨_, rfl⟩
 have B : Below w.heap.size w w0 := hw0 ▸ (((Below.refl w.heap.size w).alloc (Nat.le_refl _) _).alloc (by simp) _).alloc (by simp; omega) _
 have R : Loc w0 (w.heap.size) #[.int .i64 0, .int .i64 0] := hw0 ▸ ((loc_at (w) _ _ rfl).alloc _).alloc _
 have Z : Loc w0 (w.heap.size + 1) #[.int .i64 0, .int .i64 0, .int .i64 0, .string ⟨#[]⟩, .slice none 0 0, .string ⟨#[]⟩] := hw0 ▸ (loc_at (w.alloc _) _ _ (by simp)).alloc _
 have Q : Loc w0 (w.heap.size + 1 + 1) #[.int .i64 0, .string ⟨#[]⟩, .slice none 0 0] := hw0 ▸ loc_at ((w.alloc _).alloc _) _ _ (by simp)
 have s0 : w.heap.size + 1 + 1 + 1 ≤ w0.heap.size := by rw [← hw0]; simp
 have D0 := h.below B (Nat.le_refl _)
 have NW := hide (new_any ao ca zs w0 D0.len D0.code D0.fit)
 clear h D0
 go_enter Tryz.func6, Tryz.ntmps6
 go_wp2_with fail
 clear hw0
 refine (unhide NW).mono ?_
 rintro e w1 ⟨rfl, C, b1⟩
 replace B := B.trans (b1.mono B.size)
 replace R := R.below b1 R.lt
 replace Z := Z.below b1 Z.lt
 replace Q := Q.below b1 Q.lt
 have s1 := b1.size
 generalize w0.heap.size = g at *
 have hg1 := C.lt
 clear b1 NW
 go_wp2_with fail
 refine (drawConf g g ca ao zs _ (by omega) C).mono ?_
 rintro e w2 ⟨n, f, rfl, ⟨hn0, hn1⟩, c1, e1⟩
 have s2 := e1.size
 replace R := R.grown e1 (by omega)
 replace Z := Z.grown e1 (by omega)
 replace Q := Q.grown e1 (by omega)
 replace B := cur_below e1 B B.size (by omega)
 replace C := c1
 clear c1 e1
 obtain ⟨w3, hw3⟩ : ∃ y, w2.alloc (.cells #[.int .i64 n, .int .i64 f] 25) = y := ⟨_, rfl⟩
 have bb : Below w2.heap.size w2 w3 := hw3 ▸ qalloc _ _
 have X : Loc w3 w2.heap.size #[.int .i64 n, .int .i64 f] := hw3 ▸ loc_at w2 _ _ rfl
 have s3 : w2.heap.size + 1 ≤ w3.heap.size := by rw [← hw3]; simp
 replace R := R.below bb R.lt
 replace Z := Z.below bb Z.lt
 replace Q := Q.below bb Q.lt
 replace C := C.below (by omega) bb
 replace B := B.trans (bb.mono B.size)
 clear bb
 have x0 := X.cell 0 rfl
 have x1 := X.cell 1 rfl
 go_wp2_with fail
 clear hw3
 refine (drawSafe g g ca ao zs n f _ (by omega) hn0 hn1 C).mono ?_
 rintro e w4 ⟨vo, lo, v, s, u, d, xs, rfl, hs, hd, hl, O, c1, e1⟩
 have s4 := e1.size
 replace R := R.grown e1 (by omega)
 replace Z := Z.grown e1 (by omega)
 replace Q := Q.grown e1 (by omega)
 replace X := X.grown e1 (by omega)
 replace B := cur_below e1 B B.size (by omega)
 replace C := c1
 clear c1 e1
 clear x0 x1
 have tO := World.ownsRow.lt O
 obtain ⟨ua, uc, rfl⟩ := O.form
 obtain ⟨uk, huk⟩ : ∃ k, xs.length = k := ⟨_, rfl⟩
 rw [huk] at O tO ⊢
 obtain ⟨w5, hw5⟩ : ∃ y, w4.alloc (.cells #[.int .i64 vo, .int .i64 lo, .int .i64 v, .string s, .slice ua uk uc, .string d] 30) = y := ⟨_, rfl⟩
 have bb : Below w4.heap.size w4 w5 := hw5 ▸ qalloc _ _
 have Y : Loc w5 w4.heap.size #[.int .i64 vo, .int .i64 lo, .int .i64 v, .string s, .slice ua uk uc, .string d] := hw5 ▸ loc_at w4 _ _ rfl
 have s5 : w4.heap.size + 1 ≤ w5.heap.size := by rw [← hw5]; simp
 replace R := R.below bb R.lt
 replace Z := Z.below bb Z.lt
 replace Q := Q.below bb Q.lt
 replace X := X.below bb X.lt
 replace O := O.below bb
 replace C := C.below (by omega) bb
 replace B := B.trans (bb.mono B.size)
 clear bb
 go_upto_region 4 with fail
 clear hw5
 refine wp_region_noPanic ?_
 refine wp_region_held_drew (S := fun w' => (w'.cell? ⟨w2.heap.size, 0, none⟩ = some (.int .i64 n) ∧ w'.cell? ⟨w2.heap.size, 1, none⟩ = some (.int .i64 f)) ∧ (w'.cell? ⟨w4.heap.size, 0, none⟩ = some (.int .i64 vo) ∧ w'.cell? ⟨w4.heap.size, 1, none⟩ = some (.int .i64 lo) ∧ w'.cell? ⟨w4.heap.size, 2, none⟩ = some (.int .i64 v) ∧ w'.cell? ⟨w4.heap.size, 3, none⟩ = some (.string s) ∧ w'.cell? ⟨w4.heap.size, 4, none⟩ = some (.slice ua uk uc) ∧ w'.cell? ⟨w4.heap.size, 5, none⟩ = some (.string d))) (by kernel_rfl) ⟨⟨X.cell 0 rfl, X.cell 1 rfl⟩, ⟨Y.cell 0 rfl, Y.cell 1 rfl, Y.cell 2 rfl, Y.cell 3 rfl, Y.cell 4 rfl, Y.cell 5 rfl⟩⟩ (fun hHeld => ?_)
 obtain ⟨wd, hd⟩ : ∃ wd, w5.drew = wd := ⟨_, rfl⟩
 have bd : Below w5.heap.size w5 wd := hd ▸ Below.drew (Below.refl _ _)
 have sd : w5.heap.size ≤ wd.heap.size := bd.size
 replace R := R.below bd R.lt
 replace Z := Z.below bd Z.lt
 replace Q := Q.below bd Q.lt
 replace X := X.below bd X.lt
 replace Y := Y.below bd Y.lt
 replace O := O.below bd
 replace C := C.below (by omega) bd
 replace B := B.trans (bd.mono B.size)
 rw [hd] at hHeld ⊢
 clear hd bd
 refine tk 0 15 (v := ?_) rfl (hy := .inl ⟨by rfl, ?_⟩) (h := ?_); rotate_left
 ·intro w hSw; (try dsimp only at hSw); go_simp; (try with_reducible rfl)
 simp only [ps]
 refine tk 1 16 (v := ?_) rfl (hy := .inl ⟨by rfl, ?_⟩) (h := ?_); rotate_left
 ·intro w hSw; (try dsimp only at hSw); go_simp; (try with_reducible rfl)
 simp only [ps]
 refine tk 2 17 (v := ?_) rfl (hy := .inl ⟨by rfl, ?_⟩) (h := ?_); rotate_left
 ·intro w hSw; (try dsimp only at hSw); go_simp; (try with_reducible rfl)
 simp only [ps]
 refine tk 3 18 (v := ?_) rfl (hy := .inl ⟨by rfl, ?_⟩) (h := ?_); rotate_left
 ·intro w hSw; (try dsimp only at hSw); go_simp; (try with_reducible rfl)
 simp only [ps]
 refine ready_at (i := 4) rfl (by kernel_rfl) (fun KK hKK => ?_)
 go_simp
 refine (drawQcV g g ca ao zs n f _ (by omega) hn0 hn1 C).mono ?_
 rintro e w9 ⟨v', s', u', ys, rfl, hv', hs', hl', hw', P, c1, e1⟩
 have s9 := e1.size
 replace R := R.grown e1 (by omega)
 replace Z := Z.grown e1 (by omega)
 replace Q := Q.grown e1 (by omega)
 replace X := X.grown e1 (by omega)
 replace Y := Y.grown e1 (by omega)
 replace O := O.drawn e1 (by omega)
 replace B := cur_below e1 B B.size (by omega)
 clear c1 e1 C
 have tP := World.ownsRow.lt P
 obtain ⟨pa, pc, rfl⟩ := P.form
 obtain ⟨pk, hpk⟩ : ∃ k, ys.length = k := ⟨_, rfl⟩
 rw [hpk] at P tP ⊢
 clear hHeld
 refine hKK.out _ _ ⟨⟨X.cell 0 rfl, X.cell 1 rfl⟩, ⟨Y.cell 0 rfl, Y.cell 1 rfl, Y.cell 2 rfl, Y.cell 3 rfl, Y.cell 4 rfl, Y.cell 5 rfl⟩⟩ (fun hHeld => ?_)
 clear hKK KK
 have c0 := R.cell 0 rfl
 have c1 := R.cell 1 rfl
 have fc := R.frozen
 refine ready_at (i := 5) rfl (by kernel_rfl) (fun KK hKK => ?_)
 go_simp
 obtain ⟨wa, hwa⟩ : ∃ y, ((w9.setCell ⟨w.heap.size, 0, none⟩ (.int .i64 n)).setCell ⟨w.heap.size, 1, none⟩ (.int .i64 f)) = y := ⟨_, rfl⟩
 have kwa : Kp w9 wa (fun k => k = w.heap.size) := hwa ▸ (set_kp _ _ _ _).trans (set_kp _ _ _ _)
 replace R : Loc wa (w.heap.size) #[.int .i64 n, .int .i64 f] := hwa ▸ ((R.set 0 _ rfl).set 1 _ rfl)
 replace Z := Z.kp kwa (by omega)
 replace Q := Q.kp kwa (by omega)
 replace X := X.kp kwa (by omega)
 replace Y := Y.kp kwa (by omega)
 replace O := O.kp kwa (fun j hj e => by have := tO j hj; omega)
 replace P := P.kp kwa (fun j hj e => by have := tP j hj; omega)
 replace B := Below.kp B kwa B.size (fun k hk => by omega)
 have zwa := kwa.size
 rw [hwa]
 clear hwa kwa c0 c1 fc
 clear hHeld
 refine hKK.out _ _ ⟨⟨X.cell 0 rfl, X.cell 1 rfl⟩, ⟨Y.cell 0 rfl, Y.cell 1 rfl, Y.cell 2 rfl, Y.cell 3 rfl, Y.cell 4 rfl, Y.cell 5 rfl⟩⟩ (fun hHeld => ?_)
 clear hKK KK
 have c0 := Z.cell 0 rfl
 have c1 := Z.cell 1 rfl
 have c2 := Z.cell 2 rfl
 have c3 := Z.cell 3 rfl
 have c4 := Z.cell 4 rfl
 have c5 := Z.cell 5 rfl
 have fc := Z.frozen
 refine ready_at (i := 6) rfl (by kernel_rfl) (fun KK hKK => ?_)
 go_simp
 obtain ⟨wb, hwb⟩ : ∃ y, ((((((wa.setCell ⟨w.heap.size + 1, 0, none⟩ (.int .i64 vo)).setCell ⟨w.heap.size + 1, 1, none⟩ (.int .i64 lo)).setCell ⟨w.heap.size + 1, 2, none⟩ (.int .i64 v)).setCell ⟨w.heap.size + 1, 3, none⟩ (.string s)).setCell ⟨w.heap.size + 1, 4, none⟩ (.slice ua uk uc)).setCell ⟨w.heap.size + 1, 5, none⟩ (.string d)) = y := ⟨_, rfl⟩
 have kwb : Kp wa wb (fun k => k = w.heap.size + 1) := hwb ▸ (((((set_kp _ _ _ _).trans (set_kp _ _ _ _)).trans (set_kp _ _ _ _)).trans (set_kp _ _ _ _)).trans (set_kp _ _ _ _)).trans (set_kp _ _ _ _)
 replace Z : Loc wb (w.heap.size + 1) #[.int .i64 vo, .int .i64 lo, .int .i64 v, .string s, .slice ua uk uc, .string d] := hwb ▸ ((((((Z.set 0 _ rfl).set 1 _ rfl).set 2 _ rfl).set 3 _ rfl).set 4 _ rfl).set 5 _ rfl)
 replace R := R.kp kwb (by omega)
 replace Q := Q.kp kwb (by omega)
 replace X := X.kp kwb (by omega)
 replace Y := Y.kp kwb (by omega)
 replace O := O.kp kwb (fun j hj e => by have := tO j hj; omega)
 replace P := P.kp kwb (fun j hj e => by have := tP j hj; omega)
 replace B := Below.kp B kwb B.size (fun k hk => by omega)
 have zwb := kwb.size
 rw [hwb]
 clear hwb kwb c0 c1 c2 c3 c4 c5 fc
 clear hHeld
 refine hKK.out _ _ ⟨⟨X.cell 0 rfl, X.cell 1 rfl⟩, ⟨Y.cell 0 rfl, Y.cell 1 rfl, Y.cell 2 rfl, Y.cell 3 rfl, Y.cell 4 rfl, Y.cell 5 rfl⟩⟩ (fun hHeld => ?_)
 clear hKK KK
 have c0 := Q.cell 0 rfl
 have c1 := Q.cell 1 rfl
 have c2 := Q.cell 2 rfl
 have fc := Q.frozen
 refine ready_at (i := 7) rfl (by kernel_rfl) (fun KK hKK => ?_)
 go_simp
 obtain ⟨wc, hwc⟩ : ∃ y, (((wb.setCell ⟨w.heap.size + 1 + 1, 0, none⟩ (.int .i64 v')).setCell ⟨w.heap.size + 1 + 1, 1, none⟩ (.string s')).setCell ⟨w.heap.size + 1 + 1, 2, none⟩ (.slice pa pk pc)) = y := ⟨_, rfl⟩
 have kwc : Kp wb wc (fun k => k = w.heap.size + 1 + 1) := hwc ▸ ((set_kp _ _ _ _).trans (set_kp _ _ _ _)).trans (set_kp _ _ _ _)
 replace Q : Loc wc (w.heap.size + 1 + 1) #[.int .i64 v', .string s', .slice pa pk pc] := hwc ▸ (((Q.set 0 _ rfl).set 1 _ rfl).set 2 _ rfl)
 replace R := R.kp kwc (by omega)
 replace Z := Z.kp kwc (by omega)
 replace X := X.kp kwc (by omega)
 replace Y := Y.kp kwc (by omega)
 replace O := O.kp kwc (fun j hj e => by have := tO j hj; omega)
 replace P := P.kp kwc (fun j hj e => by have := tP j hj; omega)
 replace B := Below.kp B kwc B.size (fun k hk => by omega)
 have zwc := kwc.size
 rw [hwc]
 clear hwc kwc c0 c1 c2 fc
 clear hHeld
 refine hKK.out _ _ ⟨⟨X.cell 0 rfl, X.cell 1 rfl⟩, ⟨Y.cell 0 rfl, Y.cell 1 rfl, Y.cell 2 rfl, Y.cell 3 rfl, Y.cell 4 rfl, Y.cell 5 rfl⟩⟩ (fun hHeld => ?_)
 clear hKK KK
 clear hHeld
 refine wpAnyH_done (by kernel_rfl) ?_ _
 refine NoPanic.normal ?_
 have r0 := R.cell 0 rfl
 have r1 := R.cell 1 rfl
 have z0 := Z.cell 0 rfl
 have z1 := Z.cell 1 rfl
 have z2 := Z.cell 2 rfl
 have z3 := Z.cell 3 rfl
 have z4 := Z.cell 4 rfl
 have z5 := Z.cell 5 rfl
 have q0 := Q.cell 0 rfl
 have q1 := Q.cell 1 rfl
 have q2 := Q.cell 2 rfl
 clear R Z Q X Y
 go_wp2
 refine bodyPost_ret (v := .tuple #[cv n f, sv vo lo v s (.slice ua uk uc) d, qv v' s' (.slice pa pk pc)]) (by simp [results, Tryz.results6, go_sem, r0, r1, z0, z1, z2, z3, z4, z5, q0, q1, q2]) rfl ?_
 exact ⟨_, _, _, _, _, _, _, _, xs, _, _, _, ys, rfl, ⟨hn0, hn1⟩, hs, hd, (by omega), hv', hs', (by omega), O.mono (by omega), P.mono (by omega), B⟩

set_option maxHeartbeats 16000000 in
set_option maxRecDepth 100000 in
theorem drawMayVote (ao : Option Addr) (ca : Nat) (zs : List Int) (w : World) (h : DCode w ao zs) :
 Calls Tryz.prog 58 #[.slice ao zs.length ca] w fun e w' => ∃ (n f vo lo v : Int) (s : ByteArray) (u : Value) (d : ByteArray) (xs : List Int) (m : ByteArray) (v' : Int) (s' : ByteArray) (u' : Value) (ys : List Int), e = .returned (.tuple #[cv n f, sv vo lo v s u d, bv m v' s' u']) ∧ (4 ≤ n ∧ n ≤ 7) ∧ s.size ≤ 8001 ∧ d.size ≤ 8001 ∧ xs.length ≤ 9 ∧ m.size ≤ 8001 ∧ (-1 ≤ v' ∧ v' ≤ 61) ∧ s'.size ≤ 8001 ∧ ys.length ≤ 9 ∧ OI w' w.heap.size u xs ∧ OI w' w.heap.size u' ys ∧ Below w.heap.size w w' := by
 obtain ⟨w0, hw0⟩ : ∃ w0, (((w.alloc (.cells #[.int .i64 0, .int .i64 0] 25)).alloc (.cells #[.int .i64 0, .int .i64 0, .int .i64 0, .string ⟨#[]⟩, .slice none 0 0, .string ⟨#[]⟩] 30)).alloc (.cells #[.string ⟨#[]⟩, .int .i64 0, .string ⟨#[]⟩, .slice none 0 0] 35)) = w0 := ⟨_, rfl⟩
 have B : Below w.heap.size w w0 := hw0 ▸ (((Below.refl w.heap.size w).alloc (Nat.le_refl _) _).alloc (by simp) _).alloc (by simp; omega) _
 have R : Loc w0 (w.heap.size) #[.int .i64 0, .int .i64 0] := hw0 ▸ ((loc_at (w) _ _ rfl).alloc _).alloc _
 have Z : Loc w0 (w.heap.size + 1) #[.int .i64 0, .int .i64 0, .int .i64 0, .string ⟨#[]⟩, .slice none 0 0, .string ⟨#[]⟩] := hw0 ▸ (loc_at (w.alloc _) _ _ (by simp)).alloc _
 have Q : Loc w0 (w.heap.size + 1 + 1) #[.string ⟨#[]⟩, .int .i64 0, .string ⟨#[]⟩, .slice none 0 0] := hw0 ▸ loc_at ((w.alloc _).alloc _) _ _ (by simp)
 have s0 : w.heap.size + 1 + 1 + 1 ≤ w0.heap.size := by rw [← hw0]; simp
 have D0 := h.below B (Nat.le_refl _)
 have NW := hide (new_any ao ca zs w0 D0.len D0.code D0.fit)
 clear h D0
 go_enter Tryz.func58, Tryz.ntmps58
 go_wp2_with fail
 clear hw0
 refine (unhide NW).mono ?_
 rintro e w1 ⟨rfl, C, b1⟩
 replace B := B.trans (b1.mono B.size)
 replace R := R.below b1 R.lt
 replace Z := Z.below b1 Z.lt
 replace Q := Q.below b1 Q.lt
 have s1 := b1.size
 generalize w0.heap.size = g at *
 have hg1 := C.lt
 clear b1 NW
 go_wp2_with fail
 refine (drawConf g g ca ao zs _ (by omega) C).mono ?_
 rintro e w2 ⟨n, f, rfl, ⟨hn0, hn1⟩, c1, e1⟩
 have s2 := e1.size
 replace R := R.grown e1 (by omega)
 replace Z := Z.grown e1 (by omega)
 replace Q := Q.grown e1 (by omega)
 replace B := cur_below e1 B B.size (by omega)
 replace C := c1
 clear c1 e1
 obtain ⟨w3, hw3⟩ : ∃ y, w2.alloc (.cells #[.int .i64 n, .int .i64 f] 25) = y := ⟨_, rfl⟩
 have bb : Below w2.heap.size w2 w3 := hw3 ▸ qalloc _ _
 have X : Loc w3 w2.heap.size #[.int .i64 n, .int .i64 f] := hw3 ▸ loc_at w2 _ _ rfl
 have s3 : w2.heap.size + 1 ≤ w3.heap.size := by rw [← hw3]; simp
 replace R := R.below bb R.lt
 replace Z := Z.below bb Z.lt
 replace Q := Q.below bb Q.lt
 replace C := C.below (by omega) bb
 replace B := B.trans (bb.mono B.size)
 clear bb
 have x0 := X.cell 0 rfl
 have x1 := X.cell 1 rfl
 go_wp2_with fail
 clear hw3
 refine (drawSafe g g ca ao zs n f _ (by omega) hn0 hn1 C).mono ?_
 rintro e w4 ⟨vo, lo, v, s, u, d, xs, rfl, hs, hd, hl, O, c1, e1⟩
 have s4 := e1.size
 replace R := R.grown e1 (by omega)
 replace Z := Z.grown e1 (by omega)
 replace Q := Q.grown e1 (by omega)
 replace X := X.grown e1 (by omega)
 replace B := cur_below e1 B B.size (by omega)
 replace C := c1
 clear c1 e1
 clear x0 x1
 have tO := World.ownsRow.lt O
 obtain ⟨ua, uc, rfl⟩ := O.form
 obtain ⟨uk, huk⟩ : ∃ k, xs.length = k := ⟨_, rfl⟩
 rw [huk] at O tO ⊢
 obtain ⟨w5, hw5⟩ : ∃ y, w4.alloc (.cells #[.int .i64 vo, .int .i64 lo, .int .i64 v, .string s, .slice ua uk uc, .string d] 30) = y := ⟨_, rfl⟩
 have bb : Below w4.heap.size w4 w5 := hw5 ▸ qalloc _ _
 have Y : Loc w5 w4.heap.size #[.int .i64 vo, .int .i64 lo, .int .i64 v, .string s, .slice ua uk uc, .string d] := hw5 ▸ loc_at w4 _ _ rfl
 have s5 : w4.heap.size + 1 ≤ w5.heap.size := by rw [← hw5]; simp
 replace R := R.below bb R.lt
 replace Z := Z.below bb Z.lt
 replace Q := Q.below bb Q.lt
 replace X := X.below bb X.lt
 replace O := O.below bb
 replace C := C.below (by omega) bb
 replace B := B.trans (bb.mono B.size)
 clear bb
 go_upto_region 4 with fail
 clear hw5
 refine wp_region_noPanic ?_
 refine wp_region_held_drew (S := fun w' => (w'.cell? ⟨w2.heap.size, 0, none⟩ = some (.int .i64 n) ∧ w'.cell? ⟨w2.heap.size, 1, none⟩ = some (.int .i64 f)) ∧ (w'.cell? ⟨w4.heap.size, 0, none⟩ = some (.int .i64 vo) ∧ w'.cell? ⟨w4.heap.size, 1, none⟩ = some (.int .i64 lo) ∧ w'.cell? ⟨w4.heap.size, 2, none⟩ = some (.int .i64 v) ∧ w'.cell? ⟨w4.heap.size, 3, none⟩ = some (.string s) ∧ w'.cell? ⟨w4.heap.size, 4, none⟩ = some (.slice ua uk uc) ∧ w'.cell? ⟨w4.heap.size, 5, none⟩ = some (.string d))) (by kernel_rfl) ⟨⟨X.cell 0 rfl, X.cell 1 rfl⟩, ⟨Y.cell 0 rfl, Y.cell 1 rfl, Y.cell 2 rfl, Y.cell 3 rfl, Y.cell 4 rfl, Y.cell 5 rfl⟩⟩ (fun hHeld => ?_)
 obtain ⟨wd, hd⟩ : ∃ wd, w5.drew = wd := ⟨_, rfl⟩
 have bd : Below w5.heap.size w5 wd := hd ▸ Below.drew (Below.refl _ _)
 have sd : w5.heap.size ≤ wd.heap.size := bd.size
 replace R := R.below bd R.lt
 replace Z := Z.below bd Z.lt
 replace Q := Q.below bd Q.lt
 replace X := X.below bd X.lt
 replace Y := Y.below bd Y.lt
 replace O := O.below bd
 replace C := C.below (by omega) bd
 replace B := B.trans (bd.mono B.size)
 rw [hd] at hHeld ⊢
 clear hd bd
 refine tk 0 15 (v := ?_) rfl (hy := .inl ⟨by rfl, ?_⟩) (h := ?_); rotate_left
 ·intro w hSw; (try dsimp only at hSw); go_simp; (try with_reducible rfl)
 simp only [ps]
 refine tk 1 16 (v := ?_) rfl (hy := .inl ⟨by rfl, ?_⟩) (h := ?_); rotate_left
 ·intro w hSw; (try dsimp only at hSw); go_simp; (try with_reducible rfl)
 simp only [ps]
 refine tk 2 17 (v := ?_) rfl (hy := .inl ⟨by rfl, ?_⟩) (h := ?_); rotate_left
 ·intro w hSw; (try dsimp only at hSw); go_simp; (try with_reducible rfl)
 simp only [ps]
 refine tk 3 18 (v := ?_) rfl (hy := .inl ⟨by rfl, ?_⟩) (h := ?_); rotate_left
 ·intro w hSw; (try dsimp only at hSw); go_simp; (try with_reducible rfl)
 simp only [ps]
 refine ready_at (i := 4) rfl (by kernel_rfl) (fun KK hKK => ?_)
 go_simp
 refine (drawBlk g g ca ao zs n f _ (by omega) hn0 hn1 C).mono ?_
 rintro e w9 ⟨m, v', s', u', ys, rfl, hm, hv', hs', hl', hw', P, c1, e1⟩
 have s9 := e1.size
 replace R := R.grown e1 (by omega)
 replace Z := Z.grown e1 (by omega)
 replace Q := Q.grown e1 (by omega)
 replace X := X.grown e1 (by omega)
 replace Y := Y.grown e1 (by omega)
 replace O := O.drawn e1 (by omega)
 replace B := cur_below e1 B B.size (by omega)
 clear c1 e1 C
 have tP := World.ownsRow.lt P
 obtain ⟨pa, pc, rfl⟩ := P.form
 obtain ⟨pk, hpk⟩ : ∃ k, ys.length = k := ⟨_, rfl⟩
 rw [hpk] at P tP ⊢
 clear hHeld
 refine hKK.out _ _ ⟨⟨X.cell 0 rfl, X.cell 1 rfl⟩, ⟨Y.cell 0 rfl, Y.cell 1 rfl, Y.cell 2 rfl, Y.cell 3 rfl, Y.cell 4 rfl, Y.cell 5 rfl⟩⟩ (fun hHeld => ?_)
 clear hKK KK
 have c0 := R.cell 0 rfl
 have c1 := R.cell 1 rfl
 have fc := R.frozen
 refine ready_at (i := 5) rfl (by kernel_rfl) (fun KK hKK => ?_)
 go_simp
 obtain ⟨wa, hwa⟩ : ∃ y, ((w9.setCell ⟨w.heap.size, 0, none⟩ (.int .i64 n)).setCell ⟨w.heap.size, 1, none⟩ (.int .i64 f)) = y := ⟨_, rfl⟩
 have kwa : Kp w9 wa (fun k => k = w.heap.size) := hwa ▸ (set_kp _ _ _ _).trans (set_kp _ _ _ _)
 replace R : Loc wa (w.heap.size) #[.int .i64 n, .int .i64 f] := hwa ▸ ((R.set 0 _ rfl).set 1 _ rfl)
 replace Z := Z.kp kwa (by omega)
 replace Q := Q.kp kwa (by omega)
 replace X := X.kp kwa (by omega)
 replace Y := Y.kp kwa (by omega)
 replace O := O.kp kwa (fun j hj e => by have := tO j hj; omega)
 replace P := P.kp kwa (fun j hj e => by have := tP j hj; omega)
 replace B := Below.kp B kwa B.size (fun k hk => by omega)
 have zwa := kwa.size
 rw [hwa]
 clear hwa kwa c0 c1 fc
 clear hHeld
 refine hKK.out _ _ ⟨⟨X.cell 0 rfl, X.cell 1 rfl⟩, ⟨Y.cell 0 rfl, Y.cell 1 rfl, Y.cell 2 rfl, Y.cell 3 rfl, Y.cell 4 rfl, Y.cell 5 rfl⟩⟩ (fun hHeld => ?_)
 clear hKK KK
 have c0 := Z.cell 0 rfl
 have c1 := Z.cell 1 rfl
 have c2 := Z.cell 2 rfl
 have c3 := Z.cell 3 rfl
 have c4 := Z.cell 4 rfl
 have c5 := Z.cell 5 rfl
 have fc := Z.frozen
 refine ready_at (i := 6) rfl (by kernel_rfl) (fun KK hKK => ?_)
 go_simp
 obtain ⟨wb, hwb⟩ : ∃ y, ((((((wa.setCell ⟨w.heap.size + 1, 0, none⟩ (.int .i64 vo)).setCell ⟨w.heap.size + 1, 1, none⟩ (.int .i64 lo)).setCell ⟨w.heap.size + 1, 2, none⟩ (.int .i64 v)).setCell ⟨w.heap.size + 1, 3, none⟩ (.string s)).setCell ⟨w.heap.size + 1, 4, none⟩ (.slice ua uk uc)).setCell ⟨w.heap.size + 1, 5, none⟩ (.string d)) = y := ⟨_, rfl⟩
 have kwb : Kp wa wb (fun k => k = w.heap.size + 1) := hwb ▸ (((((set_kp _ _ _ _).trans (set_kp _ _ _ _)).trans (set_kp _ _ _ _)).trans (set_kp _ _ _ _)).trans (set_kp _ _ _ _)).trans (set_kp _ _ _ _)
 replace Z : Loc wb (w.heap.size + 1) #[.int .i64 vo, .int .i64 lo, .int .i64 v, .string s, .slice ua uk uc, .string d] := hwb ▸ ((((((Z.set 0 _ rfl).set 1 _ rfl).set 2 _ rfl).set 3 _ rfl).set 4 _ rfl).set 5 _ rfl)
 replace R := R.kp kwb (by omega)
 replace Q := Q.kp kwb (by omega)
 replace X := X.kp kwb (by omega)
 replace Y := Y.kp kwb (by omega)
 replace O := O.kp kwb (fun j hj e => by have := tO j hj; omega)
 replace P := P.kp kwb (fun j hj e => by have := tP j hj; omega)
 replace B := Below.kp B kwb B.size (fun k hk => by omega)
 have zwb := kwb.size
 rw [hwb]
 clear hwb kwb c0 c1 c2 c3 c4 c5 fc
 clear hHeld
 refine hKK.out _ _ ⟨⟨X.cell 0 rfl, X.cell 1 rfl⟩, ⟨Y.cell 0 rfl, Y.cell 1 rfl, Y.cell 2 rfl, Y.cell 3 rfl, Y.cell 4 rfl, Y.cell 5 rfl⟩⟩ (fun hHeld => ?_)
 clear hKK KK
 have c0 := Q.cell 0 rfl
 have c1 := Q.cell 1 rfl
 have c2 := Q.cell 2 rfl
 have c3 := Q.cell 3 rfl
 have fc := Q.frozen
 refine ready_at (i := 7) rfl (by kernel_rfl) (fun KK hKK => ?_)
 go_simp
 obtain ⟨wc, hwc⟩ : ∃ y, ((((wb.setCell ⟨w.heap.size + 1 + 1, 0, none⟩ (.string m)).setCell ⟨w.heap.size + 1 + 1, 1, none⟩ (.int .i64 v')).setCell ⟨w.heap.size + 1 + 1, 2, none⟩ (.string s')).setCell ⟨w.heap.size + 1 + 1, 3, none⟩ (.slice pa pk pc)) = y := ⟨_, rfl⟩
 have kwc : Kp wb wc (fun k => k = w.heap.size + 1 + 1) := hwc ▸ (((set_kp _ _ _ _).trans (set_kp _ _ _ _)).trans (set_kp _ _ _ _)).trans (set_kp _ _ _ _)
 replace Q : Loc wc (w.heap.size + 1 + 1) #[.string m, .int .i64 v', .string s', .slice pa pk pc] := hwc ▸ ((((Q.set 0 _ rfl).set 1 _ rfl).set 2 _ rfl).set 3 _ rfl)
 replace R := R.kp kwc (by omega)
 replace Z := Z.kp kwc (by omega)
 replace X := X.kp kwc (by omega)
 replace Y := Y.kp kwc (by omega)
 replace O := O.kp kwc (fun j hj e => by have := tO j hj; omega)
 replace P := P.kp kwc (fun j hj e => by have := tP j hj; omega)
 replace B := Below.kp B kwc B.size (fun k hk => by omega)
 have zwc := kwc.size
 rw [hwc]
 clear hwc kwc c0 c1 c2 c3 fc
 clear hHeld
 refine hKK.out _ _ ⟨⟨X.cell 0 rfl, X.cell 1 rfl⟩, ⟨Y.cell 0 rfl, Y.cell 1 rfl, Y.cell 2 rfl, Y.cell 3 rfl, Y.cell 4 rfl, Y.cell 5 rfl⟩⟩ (fun hHeld => ?_)
 clear hKK KK
 clear hHeld
 refine wpAnyH_done (by kernel_rfl) ?_ _
 refine NoPanic.normal ?_
 have r0 := R.cell 0 rfl
 have r1 := R.cell 1 rfl
 have z0 := Z.cell 0 rfl
 have z1 := Z.cell 1 rfl
 have z2 := Z.cell 2 rfl
 have z3 := Z.cell 3 rfl
 have z4 := Z.cell 4 rfl
 have z5 := Z.cell 5 rfl
 have q0 := Q.cell 0 rfl
 have q1 := Q.cell 1 rfl
 have q2 := Q.cell 2 rfl
 have q3 := Q.cell 3 rfl
 clear R Z Q X Y
 go_wp2
 refine bodyPost_ret (v := .tuple #[cv n f, sv vo lo v s (.slice ua uk uc) d, bv m v' s' (.slice pa pk pc)]) (by simp [results, Tryz.results58, go_sem, r0, r1, z0, z1, z2, z3, z4, z5, q0, q1, q2, q3]) rfl ?_
 exact ⟨_, _, _, _, _, _, _, _, xs, _, _, _, _, ys, rfl, ⟨hn0, hn1⟩, hs, hd, (by omega), hm, hv', hs', (by omega), O.mono (by omega), P.mono (by omega), B⟩

set_option maxHeartbeats 16000000 in
set_option maxRecDepth 100000 in
theorem drawVote (ao : Option Addr) (ca : Nat) (zs : List Int) (w : World) (h : DCode w ao zs) :
 Calls Tryz.prog 8 #[.slice ao zs.length ca] w fun e w' => ∃ (n f vo lo v : Int) (s : ByteArray) (u : Value) (d : ByteArray) (xs : List Int) (m : ByteArray) (v' : Int) (s' : ByteArray) (u' : Value) (ys : List Int), e = .returned (.tuple #[cv n f, sv vo lo v s u d, bv m v' s' u']) ∧ (4 ≤ n ∧ n ≤ 7) ∧ s.size ≤ 8001 ∧ d.size ≤ 8001 ∧ xs.length ≤ 9 ∧ m.size ≤ 8001 ∧ (-1 ≤ v' ∧ v' ≤ 61) ∧ s'.size ≤ 8001 ∧ ys.length ≤ 9 ∧ OI w' w.heap.size u xs ∧ OI w' w.heap.size u' ys ∧ Below w.heap.size w w' := by
 have DM := hide fun w' (b : Below w.heap.size w w') => drawMayVote ao ca zs w' (h.below b (Nat.le_refl _))
 obtain ⟨w0, hw0⟩ : ∃ w0, (((w.alloc (.cells #[.int .i64 0, .int .i64 0] 25)).alloc (.cells #[.int .i64 0, .int .i64 0, .int .i64 0, .string ⟨#[]⟩, .slice none 0 0, .string ⟨#[]⟩] 30)).alloc (.cells #[.string ⟨#[]⟩, .int .i64 0, .string ⟨#[]⟩, .slice none 0 0] 35)) = w0 := ⟨_, rfl⟩
 have B : Below w.heap.size w w0 := hw0 ▸ ((((Below.refl w.heap.size w).alloc (Nat.le_refl _) _).alloc (by simp) _).alloc (by simp; omega) _)
 have R : Loc w0 (w.heap.size) #[.int .i64 0, .int .i64 0] := hw0 ▸ ((loc_at (w) _ _ rfl).alloc _).alloc _
 have Z : Loc w0 (w.heap.size + 1) #[.int .i64 0, .int .i64 0, .int .i64 0, .string ⟨#[]⟩, .slice none 0 0, .string ⟨#[]⟩] := hw0 ▸ (loc_at (w.alloc _) _ _ (by simp)).alloc _
 have Q : Loc w0 (w.heap.size + 1 + 1) #[.string ⟨#[]⟩, .int .i64 0, .string ⟨#[]⟩, .slice none 0 0] := hw0 ▸ loc_at ((w.alloc _).alloc _) _ _ (by simp)
 have s0 : w.heap.size + 1 + 1 + 1 ≤ w0.heap.size := by rw [← hw0]; simp
 clear h
 go_enter Tryz.func8, Tryz.ntmps8
 go_wp2_with fail
 clear hw0
 refine (unhide DM _ B).mono ?_
 rintro e w1 ⟨n, f, vo, lo, v, s, u, d, xs, m, v', s', u', ys, rfl, hn, hs, hd, hl, hm, hv', hs', hl', O, P, b1⟩
 have s1 := b1.size
 replace R := R.below b1 R.lt
 replace Z := Z.below b1 Z.lt
 replace Q := Q.below b1 Q.lt
 replace B := B.trans (b1.mono B.size)
 clear b1 DM
 have tO := World.ownsRow.lt O
 obtain ⟨ua, uc, rfl⟩ := O.form
 obtain ⟨uk, huk⟩ : ∃ k, xs.length = k := ⟨_, rfl⟩
 rw [huk] at O tO ⊢
 have tP := World.ownsRow.lt P
 obtain ⟨pa, pc, rfl⟩ := P.form
 obtain ⟨pk, hpk⟩ : ∃ k, ys.length = k := ⟨_, rfl⟩
 rw [hpk] at P tP ⊢
 obtain ⟨w4, hw4⟩ : ∃ y, ((w1.alloc (.cells #[.int .i64 n, .int .i64 f] 25)).alloc (.cells #[.int .i64 vo, .int .i64 lo, .int .i64 v, .string s, .slice ua uk uc, .string d] 30)).alloc (.cells #[.string m, .int .i64 v', .string s', .slice pa pk pc] 35) = y := ⟨_, rfl⟩
 have b4 : Below w1.heap.size w1 w4 := hw4 ▸ ((qalloc2 _ _ _).alloc (by simp; omega) _)
 have X : Loc w4 w1.heap.size #[.int .i64 n, .int .i64 f] := hw4 ▸ ((loc_at w1 _ _ rfl).alloc _).alloc _
 have Y : Loc w4 (w1.heap.size + 1) #[.int .i64 vo, .int .i64 lo, .int .i64 v, .string s, .slice ua uk uc, .string d] := hw4 ▸ (loc_at (w1.alloc _) _ _ (by simp)).alloc _
 have W : Loc w4 (w1.heap.size + 1 + 1) #[.string m, .int .i64 v', .string s', .slice pa pk pc] := hw4 ▸ loc_at ((w1.alloc _).alloc _) _ _ (by simp)
 have s4 : w1.heap.size + 1 + 1 + 1 ≤ w4.heap.size := by rw [← hw4]; simp
 replace R := R.below b4 R.lt
 replace Z := Z.below b4 Z.lt
 replace Q := Q.below b4 Q.lt
 replace O := O.below b4
 replace P := P.below b4
 replace B := B.trans (b4.mono B.size)
 clear b4
 go_upto_region 2 with fail
 clear hw4
 refine wp_region_noPanic ?_
 refine wp_region_held_drew (S := fun w' => (w'.cell? ⟨w1.heap.size, 0, none⟩ = some (.int .i64 n) ∧ w'.cell? ⟨w1.heap.size, 1, none⟩ = some (.int .i64 f)) ∧ (w'.cell? ⟨w1.heap.size + 1, 0, none⟩ = some (.int .i64 vo) ∧ w'.cell? ⟨w1.heap.size + 1, 1, none⟩ = some (.int .i64 lo) ∧ w'.cell? ⟨w1.heap.size + 1, 2, none⟩ = some (.int .i64 v) ∧ w'.cell? ⟨w1.heap.size + 1, 3, none⟩ = some (.string s) ∧ w'.cell? ⟨w1.heap.size + 1, 4, none⟩ = some (.slice ua uk uc) ∧ w'.cell? ⟨w1.heap.size + 1, 5, none⟩ = some (.string d)) ∧ (w'.cell? ⟨w1.heap.size + 1 + 1, 0, none⟩ = some (.string m) ∧ w'.cell? ⟨w1.heap.size + 1 + 1, 1, none⟩ = some (.int .i64 v') ∧ w'.cell? ⟨w1.heap.size + 1 + 1, 2, none⟩ = some (.string s') ∧ w'.cell? ⟨w1.heap.size + 1 + 1, 3, none⟩ = some (.slice pa pk pc))) (by kernel_rfl) ⟨⟨X.cell 0 rfl, X.cell 1 rfl⟩, ⟨Y.cell 0 rfl, Y.cell 1 rfl, Y.cell 2 rfl, Y.cell 3 rfl, Y.cell 4 rfl, Y.cell 5 rfl⟩, ⟨W.cell 0 rfl, W.cell 1 rfl, W.cell 2 rfl, W.cell 3 rfl⟩⟩ (fun hHeld => ?_)
 obtain ⟨wd, hd0⟩ : ∃ wd, w4.drew = wd := ⟨_, rfl⟩
 have bd : Below w4.heap.size w4 wd := hd0 ▸ Below.drew (Below.refl _ _)
 have sd : w4.heap.size ≤ wd.heap.size := bd.size
 replace R := R.below bd R.lt
 replace Z := Z.below bd Z.lt
 replace Q := Q.below bd Q.lt
 replace X := X.below bd X.lt
 replace Y := Y.below bd Y.lt
 replace W := W.below bd W.lt
 replace O := O.below bd
 replace P := P.below bd
 replace B := B.trans (bd.mono B.size)
 rw [hd0] at hHeld ⊢
 clear hd0 bd
 refine tk 0 14 (v := ?_) rfl (hy := .inl ⟨by rfl, ?_⟩) (h := ?_); rotate_left
 ·intro w hSw; (try dsimp only at hSw); go_simp; (try with_reducible rfl)
 simp only [ps]
 refine tk 1 15 (v := ?_) rfl (hy := .inl ⟨by rfl, ?_⟩) (h := ?_); rotate_left
 ·intro w hSw; (try dsimp only at hSw); go_simp; (try with_reducible rfl)
 simp only [ps]
 refine tk 2 16 (v := ?_) rfl (hy := .inl ⟨by rfl, ?_⟩) (h := ?_); rotate_left
 ·intro w hSw; (try dsimp only at hSw); go_simp; (try with_reducible rfl)
 simp only [ps]
 have c0 := R.cell 0 rfl
 have c1 := R.cell 1 rfl
 have fc := R.frozen
 refine ready_at (i := 3) rfl (by kernel_rfl) (fun KK hKK => ?_)
 go_simp
 obtain ⟨wa, hwa⟩ : ∃ y, ((wd.setCell ⟨w.heap.size, 0, none⟩ (.int .i64 n)).setCell ⟨w.heap.size, 1, none⟩ (.int .i64 f)) = y := ⟨_, rfl⟩
 have kwa : Kp wd wa (fun k => k = w.heap.size) := hwa ▸ (set_kp _ _ _ _).trans (set_kp _ _ _ _)
 replace R : Loc wa (w.heap.size) #[.int .i64 n, .int .i64 f] := hwa ▸ ((R.set 0 _ rfl).set 1 _ rfl)
 replace Z := Z.kp kwa (by omega)
 replace Q := Q.kp kwa (by omega)
 replace X := X.kp kwa (by omega)
 replace Y := Y.kp kwa (by omega)
 replace W := W.kp kwa (by omega)
 replace O := O.kp kwa (fun j hj e => by have := tO j hj; omega)
 replace P := P.kp kwa (fun j hj e => by have := tP j hj; omega)
 replace B := Below.kp B kwa B.size (fun k hk => by omega)
 have zwa := kwa.size
 rw [hwa]
 clear hwa kwa c0 c1 fc
 clear hHeld
 refine hKK.out _ _ ⟨⟨X.cell 0 rfl, X.cell 1 rfl⟩, ⟨Y.cell 0 rfl, Y.cell 1 rfl, Y.cell 2 rfl, Y.cell 3 rfl, Y.cell 4 rfl, Y.cell 5 rfl⟩, ⟨W.cell 0 rfl, W.cell 1 rfl, W.cell 2 rfl, W.cell 3 rfl⟩⟩ (fun hHeld => ?_)
 clear hKK KK
 have c0 := Z.cell 0 rfl
 have c1 := Z.cell 1 rfl
 have c2 := Z.cell 2 rfl
 have c3 := Z.cell 3 rfl
 have c4 := Z.cell 4 rfl
 have c5 := Z.cell 5 rfl
 have fc := Z.frozen
 refine ready_at (i := 4) rfl (by kernel_rfl) (fun KK hKK => ?_)
 go_simp
 obtain ⟨wb, hwb⟩ : ∃ y, ((((((wa.setCell ⟨w.heap.size + 1, 0, none⟩ (.int .i64 vo)).setCell ⟨w.heap.size + 1, 1, none⟩ (.int .i64 lo)).setCell ⟨w.heap.size + 1, 2, none⟩ (.int .i64 v)).setCell ⟨w.heap.size + 1, 3, none⟩ (.string s)).setCell ⟨w.heap.size + 1, 4, none⟩ (.slice ua uk uc)).setCell ⟨w.heap.size + 1, 5, none⟩ (.string d)) = y := ⟨_, rfl⟩
 have kwb : Kp wa wb (fun k => k = w.heap.size + 1) := hwb ▸ (((((set_kp _ _ _ _).trans (set_kp _ _ _ _)).trans (set_kp _ _ _ _)).trans (set_kp _ _ _ _)).trans (set_kp _ _ _ _)).trans (set_kp _ _ _ _)
 replace Z : Loc wb (w.heap.size + 1) #[.int .i64 vo, .int .i64 lo, .int .i64 v, .string s, .slice ua uk uc, .string d] := hwb ▸ ((((((Z.set 0 _ rfl).set 1 _ rfl).set 2 _ rfl).set 3 _ rfl).set 4 _ rfl).set 5 _ rfl)
 replace R := R.kp kwb (by omega)
 replace Q := Q.kp kwb (by omega)
 replace X := X.kp kwb (by omega)
 replace Y := Y.kp kwb (by omega)
 replace W := W.kp kwb (by omega)
 replace O := O.kp kwb (fun j hj e => by have := tO j hj; omega)
 replace P := P.kp kwb (fun j hj e => by have := tP j hj; omega)
 replace B := Below.kp B kwb B.size (fun k hk => by omega)
 have zwb := kwb.size
 rw [hwb]
 clear hwb kwb c0 c1 c2 c3 c4 c5 fc
 clear hHeld
 refine hKK.out _ _ ⟨⟨X.cell 0 rfl, X.cell 1 rfl⟩, ⟨Y.cell 0 rfl, Y.cell 1 rfl, Y.cell 2 rfl, Y.cell 3 rfl, Y.cell 4 rfl, Y.cell 5 rfl⟩, ⟨W.cell 0 rfl, W.cell 1 rfl, W.cell 2 rfl, W.cell 3 rfl⟩⟩ (fun hHeld => ?_)
 clear hKK KK
 have c0 := Q.cell 0 rfl
 have c1 := Q.cell 1 rfl
 have c2 := Q.cell 2 rfl
 have c3 := Q.cell 3 rfl
 have fc := Q.frozen
 refine ready_at (i := 5) rfl (by kernel_rfl) (fun KK hKK => ?_)
 go_simp
 obtain ⟨wc, hwc⟩ : ∃ y, ((((wb.setCell ⟨w.heap.size + 1 + 1, 0, none⟩ (.string m)).setCell ⟨w.heap.size + 1 + 1, 1, none⟩ (.int .i64 v')).setCell ⟨w.heap.size + 1 + 1, 2, none⟩ (.string s')).setCell ⟨w.heap.size + 1 + 1, 3, none⟩ (.slice pa pk pc)) = y := ⟨_, rfl⟩
 have kwc : Kp wb wc (fun k => k = w.heap.size + 1 + 1) := hwc ▸ (((set_kp _ _ _ _).trans (set_kp _ _ _ _)).trans (set_kp _ _ _ _)).trans (set_kp _ _ _ _)
 replace Q : Loc wc (w.heap.size + 1 + 1) #[.string m, .int .i64 v', .string s', .slice pa pk pc] := hwc ▸ ((((Q.set 0 _ rfl).set 1 _ rfl).set 2 _ rfl).set 3 _ rfl)
 replace R := R.kp kwc (by omega)
 replace Z := Z.kp kwc (by omega)
 replace X := X.kp kwc (by omega)
 replace Y := Y.kp kwc (by omega)
 replace W := W.kp kwc (by omega)
 replace O := O.kp kwc (fun j hj e => by have := tO j hj; omega)
 replace P := P.kp kwc (fun j hj e => by have := tP j hj; omega)
 replace B := Below.kp B kwc B.size (fun k hk => by omega)
 have zwc := kwc.size
 rw [hwc]
 clear hwc kwc c0 c1 c2 c3 fc
 clear hHeld
 refine hKK.out _ _ ⟨⟨X.cell 0 rfl, X.cell 1 rfl⟩, ⟨Y.cell 0 rfl, Y.cell 1 rfl, Y.cell 2 rfl, Y.cell 3 rfl, Y.cell 4 rfl, Y.cell 5 rfl⟩, ⟨W.cell 0 rfl, W.cell 1 rfl, W.cell 2 rfl, W.cell 3 rfl⟩⟩ (fun hHeld => ?_)
 clear hKK KK
 clear hHeld
 refine wpAnyH_done (by kernel_rfl) ?_ _
 refine NoPanic.normal ?_
 have r0 := R.cell 0 rfl
 have r1 := R.cell 1 rfl
 have z0 := Z.cell 0 rfl
 have z1 := Z.cell 1 rfl
 have z2 := Z.cell 2 rfl
 have z3 := Z.cell 3 rfl
 have z4 := Z.cell 4 rfl
 have z5 := Z.cell 5 rfl
 have q0 := Q.cell 0 rfl
 have q1 := Q.cell 1 rfl
 have q2 := Q.cell 2 rfl
 have q3 := Q.cell 3 rfl
 clear R Z Q X Y W
 go_wp2
 refine bodyPost_ret (v := .tuple #[cv n f, sv vo lo v s (.slice ua uk uc) d, bv m v' s' (.slice pa pk pc)]) (by simp [results, Tryz.results8, go_sem, r0, r1, z0, z1, z2, z3, z4, z5, q0, q1, q2, q3]) rfl ?_
 exact ⟨_, _, _, _, _, _, _, _, xs, _, _, _, _, ys, rfl, hn, hs, hd, (by omega), hm, hv', hs', (by omega), O.mono (by omega), P.mono (by omega), B⟩

set_option maxHeartbeats 16000000 in
set_option maxRecDepth 100000 in
theorem drawSafeSame (ao : Option Addr) (ca : Nat) (zs : List Int) (w : World) (h : DCode w ao zs) :
 Calls Tryz.prog 11 #[.slice ao zs.length ca] w fun e w' => ∃ (vo lo v : Int) (s : ByteArray) (u : Value) (d : ByteArray) (xs : List Int) (vo' lo' v' : Int) (s' : ByteArray) (u' : Value) (d' : ByteArray) (ys : List Int), e = .returned (.tuple #[sv vo lo v s u d, sv vo' lo' v' s' u' d']) ∧ s.size ≤ 8001 ∧ d.size ≤ 8001 ∧ xs.length ≤ 9 ∧ s'.size ≤ 8001 ∧ d'.size ≤ 8001 ∧ ys.length ≤ 9 ∧ OI w' w.heap.size u xs ∧ OI w' w.heap.size u' ys ∧ Below w.heap.size w w' := by
 obtain ⟨w0, hw0⟩ : ∃ w0, ((w.alloc (.cells #[.int .i64 0, .int .i64 0, .int .i64 0, .string ⟨#[]⟩, .slice none 0 0, .string ⟨#[]⟩] 30)).alloc (.cells #[.int .i64 0, .int .i64 0, .int .i64 0, .string ⟨#[]⟩, .slice none 0 0, .string ⟨#[]⟩] 30)) = w0 := ⟨_, rfl⟩
 have B : Below w.heap.size w w0 := hw0 ▸ ((Below.refl w.heap.size w).alloc (Nat.le_refl _) _).alloc (by simp) _
 have R : Loc w0 (w.heap.size) #[.int .i64 0, .int .i64 0, .int .i64 0, .string ⟨#[]⟩, .slice none 0 0, .string ⟨#[]⟩] := hw0 ▸ (loc_at (w) _ _ rfl).alloc _
 have Z : Loc w0 (w.heap.size + 1) #[.int .i64 0, .int .i64 0, .int .i64 0, .string ⟨#[]⟩, .slice none 0 0, .string ⟨#[]⟩] := hw0 ▸ loc_at (w.alloc _) _ _ (by simp)
 have s0 : w.heap.size + 1 + 1 ≤ w0.heap.size := by rw [← hw0]; simp
 have D0 := h.below B (Nat.le_refl _)
 have NW := hide (new_any ao ca zs w0 D0.len D0.code D0.fit)
 clear h D0
 go_enter Tryz.func11, Tryz.ntmps11
 go_wp2_with fail
 clear hw0
 refine (unhide NW).mono ?_
 rintro e w1 ⟨rfl, C, b1⟩
 replace B := B.trans (b1.mono B.size)
 replace R := R.below b1 R.lt
 replace Z := Z.below b1 Z.lt
 have s1 := b1.size
 generalize w0.heap.size = g at *
 have hg1 := C.lt
 clear b1 NW
 go_wp2_with fail
 refine (drawConf g g ca ao zs _ (by omega) C).mono ?_
 rintro e w2 ⟨n, f, rfl, ⟨hn0, hn1⟩, c1, e1⟩
 have s2 := e1.size
 replace R := R.grown e1 (by omega)
 replace Z := Z.grown e1 (by omega)
 replace B := cur_below e1 B B.size (by omega)
 replace C := c1
 clear c1 e1
 obtain ⟨w3, hw3⟩ : ∃ y, w2.alloc (.cells #[.int .i64 n, .int .i64 f] 25) = y := ⟨_, rfl⟩
 have bb : Below w2.heap.size w2 w3 := hw3 ▸ qalloc _ _
 have X : Loc w3 w2.heap.size #[.int .i64 n, .int .i64 f] := hw3 ▸ loc_at w2 _ _ rfl
 have s3 : w2.heap.size + 1 ≤ w3.heap.size := by rw [← hw3]; simp
 replace R := R.below bb R.lt
 replace Z := Z.below bb Z.lt
 replace C := C.below (by omega) bb
 replace B := B.trans (bb.mono B.size)
 clear bb
 have x0 := X.cell 0 rfl
 have x1 := X.cell 1 rfl
 go_wp2_with fail
 clear hw3
 refine (drawSafe g g ca ao zs n f _ (by omega) hn0 hn1 C).mono ?_
 rintro e w4 ⟨vo, lo, v, s, u, d, xs, rfl, hs, hd, hl, O, c1, e1⟩
 have s4 := e1.size
 replace R := R.grown e1 (by omega)
 replace Z := Z.grown e1 (by omega)
 replace X := X.grown e1 (by omega)
 replace B := cur_below e1 B B.size (by omega)
 replace C := c1
 clear c1 e1
 clear x0 x1
 have tO := World.ownsRow.lt O
 obtain ⟨ua, uc, rfl⟩ := O.form
 obtain ⟨uk, huk⟩ : ∃ k, xs.length = k := ⟨_, rfl⟩
 rw [huk] at O tO ⊢
 obtain ⟨w5, hw5⟩ : ∃ y, w4.alloc (.cells #[.int .i64 vo, .int .i64 lo, .int .i64 v, .string s, .slice ua uk uc, .string d] 30) = y := ⟨_, rfl⟩
 have bb : Below w4.heap.size w4 w5 := hw5 ▸ qalloc _ _
 have Y : Loc w5 w4.heap.size #[.int .i64 vo, .int .i64 lo, .int .i64 v, .string s, .slice ua uk uc, .string d] := hw5 ▸ loc_at w4 _ _ rfl
 have s5 : w4.heap.size + 1 ≤ w5.heap.size := by rw [← hw5]; simp
 replace R := R.below bb R.lt
 replace Z := Z.below bb Z.lt
 replace X := X.below bb X.lt
 replace O := O.below bb
 replace C := C.below (by omega) bb
 replace B := B.trans (bb.mono B.size)
 clear bb
 go_wp2_with fail
 clear hw5
 refine (once_any g g ca ao zs 2 _ (by omega) (by omega) (by omega) C).mono ?_
 rintro e w6 ⟨b, rfl, c1, e1⟩
 have s6 := e1.size
 replace R := R.grown e1 (by omega)
 replace Z := Z.grown e1 (by omega)
 replace X := X.grown e1 (by omega)
 replace Y := Y.grown e1 (by omega)
 replace O := O.drawn e1 (by omega)
 replace B := cur_below e1 B B.size (by omega)
 replace C := c1
 clear c1 e1
 cases b
 ·go_upto_region 6 with fail
  refine wp_region_noPanic ?_
  refine wp_region_held_drew (S := fun w' => (w'.cell? ⟨w4.heap.size, 0, none⟩ = some (.int .i64 vo) ∧ w'.cell? ⟨w4.heap.size, 1, none⟩ = some (.int .i64 lo) ∧ w'.cell? ⟨w4.heap.size, 2, none⟩ = some (.int .i64 v) ∧ w'.cell? ⟨w4.heap.size, 3, none⟩ = some (.string s) ∧ w'.cell? ⟨w4.heap.size, 4, none⟩ = some (.slice ua uk uc) ∧ w'.cell? ⟨w4.heap.size, 5, none⟩ = some (.string d)) ∧ (w'.cell? ⟨w2.heap.size, 0, none⟩ = some (.int .i64 n) ∧ w'.cell? ⟨w2.heap.size, 1, none⟩ = some (.int .i64 f))) (by kernel_rfl) ⟨⟨Y.cell 0 rfl, Y.cell 1 rfl, Y.cell 2 rfl, Y.cell 3 rfl, Y.cell 4 rfl, Y.cell 5 rfl⟩, ⟨X.cell 0 rfl, X.cell 1 rfl⟩⟩ (fun hHeld => ?_)
  obtain ⟨wd, hd⟩ : ∃ wd, w6.drew = wd := ⟨_, rfl⟩
  have bd : Below w6.heap.size w6 wd := hd ▸ Below.drew (Below.refl _ _)
  have sd : w6.heap.size ≤ wd.heap.size := bd.size
  replace R := R.below bd R.lt
  replace Z := Z.below bd Z.lt
  replace X := X.below bd X.lt
  replace Y := Y.below bd Y.lt
  replace O := O.below bd
  replace C := C.below (by omega) bd
  replace B := B.trans (bd.mono B.size)
  rw [hd] at hHeld ⊢
  clear hd bd
  refine tk 0 19 (v := ?_) rfl (hy := .inl ⟨by rfl, ?_⟩) (h := ?_); rotate_left
  ·intro w hSw; (try dsimp only at hSw); go_simp; (try with_reducible rfl)
  simp only [ps]
  refine tk 1 20 (v := ?_) rfl (hy := .inl ⟨by rfl, ?_⟩) (h := ?_); rotate_left
  ·intro w hSw; (try dsimp only at hSw); go_simp; (try with_reducible rfl)
  simp only [ps]
  refine tk 2 21 (v := ?_) rfl (hy := .inl ⟨by rfl, ?_⟩) (h := ?_); rotate_left
  ·intro w hSw; (try dsimp only at hSw); go_simp; (try with_reducible rfl)
  simp only [ps]
  refine ready_at (i := 3) rfl (by kernel_rfl) (fun KK hKK => ?_)
  go_simp
  refine (drawSafe g g ca ao zs n f _ (by omega) hn0 hn1 C).mono ?_
  rintro e w9 ⟨vo', lo', v', s', u', d', ys, rfl, hs', hd', hl', P, c1, e1⟩
  have s9 := e1.size
  replace R := R.grown e1 (by omega)
  replace Z := Z.grown e1 (by omega)
  replace X := X.grown e1 (by omega)
  replace Y := Y.grown e1 (by omega)
  replace O := O.drawn e1 (by omega)
  replace B := cur_below e1 B B.size (by omega)
  clear c1 e1 C
  have tP := World.ownsRow.lt P
  obtain ⟨pa, pc, rfl⟩ := P.form
  obtain ⟨pk, hpk⟩ : ∃ k, ys.length = k := ⟨_, rfl⟩
  rw [hpk] at P tP ⊢
  clear hHeld
  refine hKK.out _ _ ⟨⟨Y.cell 0 rfl, Y.cell 1 rfl, Y.cell 2 rfl, Y.cell 3 rfl, Y.cell 4 rfl, Y.cell 5 rfl⟩, ⟨X.cell 0 rfl, X.cell 1 rfl⟩⟩ (fun hHeld => ?_)
  clear hKK KK
  have c0 := R.cell 0 rfl
  have c1 := R.cell 1 rfl
  have c2 := R.cell 2 rfl
  have c3 := R.cell 3 rfl
  have c4 := R.cell 4 rfl
  have c5 := R.cell 5 rfl
  have fc := R.frozen
  refine ready_at (i := 4) rfl (by kernel_rfl) (fun KK hKK => ?_)
  go_simp
  obtain ⟨wa, hwa⟩ : ∃ y, ((((((w9.setCell ⟨w.heap.size, 0, none⟩ (.int .i64 vo)).setCell ⟨w.heap.size, 1, none⟩ (.int .i64 lo)).setCell ⟨w.heap.size, 2, none⟩ (.int .i64 v)).setCell ⟨w.heap.size, 3, none⟩ (.string s)).setCell ⟨w.heap.size, 4, none⟩ (.slice ua uk uc)).setCell ⟨w.heap.size, 5, none⟩ (.string d)) = y := ⟨_, rfl⟩
  have kwa : Kp w9 wa (fun k => k = w.heap.size) := hwa ▸ (((((set_kp _ _ _ _).trans (set_kp _ _ _ _)).trans (set_kp _ _ _ _)).trans (set_kp _ _ _ _)).trans (set_kp _ _ _ _)).trans (set_kp _ _ _ _)
  replace R : Loc wa (w.heap.size) #[.int .i64 vo, .int .i64 lo, .int .i64 v, .string s, .slice ua uk uc, .string d] := hwa ▸ ((((((R.set 0 _ rfl).set 1 _ rfl).set 2 _ rfl).set 3 _ rfl).set 4 _ rfl).set 5 _ rfl)
  replace Z := Z.kp kwa (by omega)
  replace X := X.kp kwa (by omega)
  replace Y := Y.kp kwa (by omega)
  replace O := O.kp kwa (fun j hj e => by have := tO j hj; omega)
  replace P := P.kp kwa (fun j hj e => by have := tP j hj; omega)
  replace B := Below.kp B kwa B.size (fun k hk => by omega)
  have zwa := kwa.size
  rw [hwa]
  clear hwa kwa c0 c1 c2 c3 c4 c5 fc
  clear hHeld
  refine hKK.out _ _ ⟨⟨Y.cell 0 rfl, Y.cell 1 rfl, Y.cell 2 rfl, Y.cell 3 rfl, Y.cell 4 rfl, Y.cell 5 rfl⟩, ⟨X.cell 0 rfl, X.cell 1 rfl⟩⟩ (fun hHeld => ?_)
  clear hKK KK
  have c0 := Z.cell 0 rfl
  have c1 := Z.cell 1 rfl
  have c2 := Z.cell 2 rfl
  have c3 := Z.cell 3 rfl
  have c4 := Z.cell 4 rfl
  have c5 := Z.cell 5 rfl
  have fc := Z.frozen
  refine ready_at (i := 5) rfl (by kernel_rfl) (fun KK hKK => ?_)
  go_simp
  obtain ⟨wb, hwb⟩ : ∃ y, ((((((wa.setCell ⟨w.heap.size + 1, 0, none⟩ (.int .i64 vo')).setCell ⟨w.heap.size + 1, 1, none⟩ (.int .i64 lo')).setCell ⟨w.heap.size + 1, 2, none⟩ (.int .i64 v')).setCell ⟨w.heap.size + 1, 3, none⟩ (.string s')).setCell ⟨w.heap.size + 1, 4, none⟩ (.slice pa pk pc)).setCell ⟨w.heap.size + 1, 5, none⟩ (.string d')) = y := ⟨_, rfl⟩
  have kwb : Kp wa wb (fun k => k = w.heap.size + 1) := hwb ▸ (((((set_kp _ _ _ _).trans (set_kp _ _ _ _)).trans (set_kp _ _ _ _)).trans (set_kp _ _ _ _)).trans (set_kp _ _ _ _)).trans (set_kp _ _ _ _)
  replace Z : Loc wb (w.heap.size + 1) #[.int .i64 vo', .int .i64 lo', .int .i64 v', .string s', .slice pa pk pc, .string d'] := hwb ▸ ((((((Z.set 0 _ rfl).set 1 _ rfl).set 2 _ rfl).set 3 _ rfl).set 4 _ rfl).set 5 _ rfl)
  replace R := R.kp kwb (by omega)
  replace X := X.kp kwb (by omega)
  replace Y := Y.kp kwb (by omega)
  replace O := O.kp kwb (fun j hj e => by have := tO j hj; omega)
  replace P := P.kp kwb (fun j hj e => by have := tP j hj; omega)
  replace B := Below.kp B kwb B.size (fun k hk => by omega)
  have zwb := kwb.size
  rw [hwb]
  clear hwb kwb c0 c1 c2 c3 c4 c5 fc
  clear hHeld
  refine hKK.out _ _ ⟨⟨Y.cell 0 rfl, Y.cell 1 rfl, Y.cell 2 rfl, Y.cell 3 rfl, Y.cell 4 rfl, Y.cell 5 rfl⟩, ⟨X.cell 0 rfl, X.cell 1 rfl⟩⟩ (fun hHeld => ?_)
  clear hKK KK
  clear hHeld
  refine wpAnyH_done (by kernel_rfl) ?_ _
  refine NoPanic.normal ?_
  have r0 := R.cell 0 rfl
  have r1 := R.cell 1 rfl
  have r2 := R.cell 2 rfl
  have r3 := R.cell 3 rfl
  have r4 := R.cell 4 rfl
  have r5 := R.cell 5 rfl
  have z0 := Z.cell 0 rfl
  have z1 := Z.cell 1 rfl
  have z2 := Z.cell 2 rfl
  have z3 := Z.cell 3 rfl
  have z4 := Z.cell 4 rfl
  have z5 := Z.cell 5 rfl
  clear R Z X Y
  go_wp2
  refine bodyPost_ret (v := .tuple #[sv vo lo v s (.slice ua uk uc) d, sv vo' lo' v' s' (.slice pa pk pc) d']) (by simp [results, Tryz.results11, go_sem, r0, r1, r2, r3, r4, r5, z0, z1, z2, z3, z4, z5]) rfl ?_
  exact ⟨_, _, _, _, _, _, xs, _, _, _, _, _, _, ys, rfl, hs, hd, (by omega), hs', hd', (by omega), O.mono (by omega), P.mono (by omega), B⟩
 ·have CP := hide fun a k w h => l11Copy_any vo lo v s a k xs d w h
  rw [huk] at CP
  go_upto_region 5 with fail
  refine wp_region_noPanic ?_
  refine wp_region_held_drew (S := fun w' => (w'.cell? ⟨w4.heap.size, 0, none⟩ = some (.int .i64 vo) ∧ w'.cell? ⟨w4.heap.size, 1, none⟩ = some (.int .i64 lo) ∧ w'.cell? ⟨w4.heap.size, 2, none⟩ = some (.int .i64 v) ∧ w'.cell? ⟨w4.heap.size, 3, none⟩ = some (.string s) ∧ w'.cell? ⟨w4.heap.size, 4, none⟩ = some (.slice ua uk uc) ∧ w'.cell? ⟨w4.heap.size, 5, none⟩ = some (.string d))) (by kernel_rfl) ⟨Y.cell 0 rfl, Y.cell 1 rfl, Y.cell 2 rfl, Y.cell 3 rfl, Y.cell 4 rfl, Y.cell 5 rfl⟩ (fun hHeld => ?_)
  obtain ⟨wd, hd⟩ : ∃ wd, w6.drew = wd := ⟨_, rfl⟩
  have bd : Below w6.heap.size w6 wd := hd ▸ Below.drew (Below.refl _ _)
  have sd : w6.heap.size ≤ wd.heap.size := bd.size
  replace R := R.below bd R.lt
  replace Z := Z.below bd Z.lt
  replace X := X.below bd X.lt
  replace Y := Y.below bd Y.lt
  replace O := O.below bd
  replace C := C.below (by omega) bd
  replace B := B.trans (bd.mono B.size)
  rw [hd] at hHeld ⊢
  clear hd bd
  refine tk 0 16 (v := ?_) rfl (hy := .inl ⟨by rfl, ?_⟩) (h := ?_); rotate_left
  ·intro w hSw; (try dsimp only at hSw); go_simp; (try with_reducible rfl)
  simp only [ps]
  refine tk 1 17 (v := ?_) rfl (hy := .inl ⟨by rfl, ?_⟩) (h := ?_); rotate_left
  ·intro w hSw; (try dsimp only at hSw); go_simp; (try with_reducible rfl)
  simp only [ps]
  refine ready_at (i := 2) rfl (by kernel_rfl) (fun KK hKK => ?_)
  go_simp
  refine (unhide CP _ _ _ (O.ri (by omega))).mono ?_
  rintro e w9 ⟨u', rfl, P, b9⟩
  have s9 := b9.size
  replace R := R.below b9 R.lt
  replace Z := Z.below b9 Z.lt
  replace X := X.below b9 X.lt
  replace Y := Y.below b9 Y.lt
  replace O := O.below b9
  replace C := C.below (by omega) b9
  replace B := B.trans (b9.mono B.size)
  clear b9 C
  have tP := World.ownsRow.lt P
  obtain ⟨pa, pc, rfl⟩ := P.form
  rw [huk] at P tP ⊢
  clear hHeld
  refine hKK.out _ _ ⟨Y.cell 0 rfl, Y.cell 1 rfl, Y.cell 2 rfl, Y.cell 3 rfl, Y.cell 4 rfl, Y.cell 5 rfl⟩ (fun hHeld => ?_)
  clear hKK KK
  have c0 := R.cell 0 rfl
  have c1 := R.cell 1 rfl
  have c2 := R.cell 2 rfl
  have c3 := R.cell 3 rfl
  have c4 := R.cell 4 rfl
  have c5 := R.cell 5 rfl
  have fc := R.frozen
  refine ready_at (i := 3) rfl (by kernel_rfl) (fun KK hKK => ?_)
  go_simp
  obtain ⟨wa, hwa⟩ : ∃ y, ((((((w9.setCell ⟨w.heap.size, 0, none⟩ (.int .i64 vo)).setCell ⟨w.heap.size, 1, none⟩ (.int .i64 lo)).setCell ⟨w.heap.size, 2, none⟩ (.int .i64 v)).setCell ⟨w.heap.size, 3, none⟩ (.string s)).setCell ⟨w.heap.size, 4, none⟩ (.slice ua uk uc)).setCell ⟨w.heap.size, 5, none⟩ (.string d)) = y := ⟨_, rfl⟩
  have kwa : Kp w9 wa (fun k => k = w.heap.size) := hwa ▸ (((((set_kp _ _ _ _).trans (set_kp _ _ _ _)).trans (set_kp _ _ _ _)).trans (set_kp _ _ _ _)).trans (set_kp _ _ _ _)).trans (set_kp _ _ _ _)
  replace R : Loc wa (w.heap.size) #[.int .i64 vo, .int .i64 lo, .int .i64 v, .string s, .slice ua uk uc, .string d] := hwa ▸ ((((((R.set 0 _ rfl).set 1 _ rfl).set 2 _ rfl).set 3 _ rfl).set 4 _ rfl).set 5 _ rfl)
  replace Z := Z.kp kwa (by omega)
  replace X := X.kp kwa (by omega)
  replace Y := Y.kp kwa (by omega)
  replace O := O.kp kwa (fun j hj e => by have := tO j hj; omega)
  replace P := P.kp kwa (fun j hj e => by have := tP j hj; omega)
  replace B := Below.kp B kwa B.size (fun k hk => by omega)
  have zwa := kwa.size
  rw [hwa]
  clear hwa kwa c0 c1 c2 c3 c4 c5 fc
  clear hHeld
  refine hKK.out _ _ ⟨Y.cell 0 rfl, Y.cell 1 rfl, Y.cell 2 rfl, Y.cell 3 rfl, Y.cell 4 rfl, Y.cell 5 rfl⟩ (fun hHeld => ?_)
  clear hKK KK
  have c0 := Z.cell 0 rfl
  have c1 := Z.cell 1 rfl
  have c2 := Z.cell 2 rfl
  have c3 := Z.cell 3 rfl
  have c4 := Z.cell 4 rfl
  have c5 := Z.cell 5 rfl
  have fc := Z.frozen
  refine ready_at (i := 4) rfl (by kernel_rfl) (fun KK hKK => ?_)
  go_simp
  obtain ⟨wb, hwb⟩ : ∃ y, ((((((wa.setCell ⟨w.heap.size + 1, 0, none⟩ (.int .i64 vo)).setCell ⟨w.heap.size + 1, 1, none⟩ (.int .i64 lo)).setCell ⟨w.heap.size + 1, 2, none⟩ (.int .i64 v)).setCell ⟨w.heap.size + 1, 3, none⟩ (.string s)).setCell ⟨w.heap.size + 1, 4, none⟩ (.slice pa uk pc)).setCell ⟨w.heap.size + 1, 5, none⟩ (.string d)) = y := ⟨_, rfl⟩
  have kwb : Kp wa wb (fun k => k = w.heap.size + 1) := hwb ▸ (((((set_kp _ _ _ _).trans (set_kp _ _ _ _)).trans (set_kp _ _ _ _)).trans (set_kp _ _ _ _)).trans (set_kp _ _ _ _)).trans (set_kp _ _ _ _)
  replace Z : Loc wb (w.heap.size + 1) #[.int .i64 vo, .int .i64 lo, .int .i64 v, .string s, .slice pa uk pc, .string d] := hwb ▸ ((((((Z.set 0 _ rfl).set 1 _ rfl).set 2 _ rfl).set 3 _ rfl).set 4 _ rfl).set 5 _ rfl)
  replace R := R.kp kwb (by omega)
  replace X := X.kp kwb (by omega)
  replace Y := Y.kp kwb (by omega)
  replace O := O.kp kwb (fun j hj e => by have := tO j hj; omega)
  replace P := P.kp kwb (fun j hj e => by have := tP j hj; omega)
  replace B := Below.kp B kwb B.size (fun k hk => by omega)
  have zwb := kwb.size
  rw [hwb]
  clear hwb kwb c0 c1 c2 c3 c4 c5 fc
  clear hHeld
  refine hKK.out _ _ ⟨Y.cell 0 rfl, Y.cell 1 rfl, Y.cell 2 rfl, Y.cell 3 rfl, Y.cell 4 rfl, Y.cell 5 rfl⟩ (fun hHeld => ?_)
  clear hKK KK
  clear hHeld
  refine wpAnyH_done (by kernel_rfl) ?_ _
  refine NoPanic.normal ?_
  have r0 := R.cell 0 rfl
  have r1 := R.cell 1 rfl
  have r2 := R.cell 2 rfl
  have r3 := R.cell 3 rfl
  have r4 := R.cell 4 rfl
  have r5 := R.cell 5 rfl
  have z0 := Z.cell 0 rfl
  have z1 := Z.cell 1 rfl
  have z2 := Z.cell 2 rfl
  have z3 := Z.cell 3 rfl
  have z4 := Z.cell 4 rfl
  have z5 := Z.cell 5 rfl
  clear R Z X Y
  go_wp2
  refine bodyPost_ret (v := .tuple #[sv vo lo v s (.slice ua uk uc) d, sv vo lo v s (.slice pa uk pc) d]) (by simp [results, Tryz.results11, go_sem, r0, r1, r2, r3, r4, r5, z0, z1, z2, z3, z4, z5]) rfl ?_
  exact ⟨_, _, _, _, _, _, xs, _, _, _, _, _, _, xs, rfl, hs, hd, (by omega), hs, hd, (by omega), O.mono (by omega), P.mono (by omega), B⟩

set_option maxHeartbeats 16000000 in
set_option maxRecDepth 100000 in
theorem drawSettles (ao : Option Addr) (ca : Nat) (zs : List Int) (w : World) (h : DCode w ao zs) :
 Calls Tryz.prog 12 #[.slice ao zs.length ca] w fun e w' => ∃ s : ByteArray, e = .returned (.string s) ∧ s.size ≤ 8001 ∧ Below w.heap.size w w' := by
 have NW := hide (new_any ao ca zs w h.len h.code h.fit)
 clear h
 go_enter Tryz.func12, Tryz.ntmps12
 go_wp2_with fail
 refine (unhide NW).mono ?_
 rintro e w1 ⟨rfl, C, b1⟩
 have s1 := b1.size
 have hg1 := C.lt
 go_wp2_with fail
 refine (drawName w.heap.size w.heap.size ca ao zs _ (by omega) C).mono ?_
 rintro e w2 ⟨s, rfl, hs, c1, e1⟩
 have B := cur_below e1 b1 b1.size (by omega)
 clear C c1 e1 b1
 go_wp2
 go_ret
 exact ⟨s, rfl, hs, B⟩
end Go.Proofs.YtmpmedbojfjnaaaGreatDoor
