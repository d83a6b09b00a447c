/- Texts that belong together: DrawSafe, DrawBlk2. -/
import Derived.Test.YtmpmedbojfjnaaaGreatDoorFSBM
import Derived.Test.YtmpmedbojfjnaaaGreatDoorFSBK
import Derived.Test.YtmpmedbojfjnaaaGreatDoorFSAZ
import Derived.Test.YtmpmedbojfjnaaaGreatDoorFSBL
import Derived.Test.YtmpmedbojfjnaaaGreatDoorFSAS
namespace Go.Proofs.YtmpmedbojfjnaaaGreatDoor
open Go.RowKit
set_option linter.unusedSectionVars false
variable [∀ (a b c d : Int), Decidable (Ok4 a b c d)]
variable [∀ (a b c d : Nat), Decidable (okN a b c d)]
variable [∀ (last : Int) (s : St), Decidable (GoodSt last s)]
variable [∀ (x : T4), Decidable (OkT x)]
variable [∀ (n : Int) (s : List Int), Decidable (OkL n s)]
variable [∀ (n f : Int), Decidable (COk n f)]
variable [∀ (ts : List T4), Decidable (AllOk ts)]

set_option maxHeartbeats 32000000 in
set_option maxRecDepth 100000 in
theorem drawSafe (base g ca : Nat) (ao : Option Addr) (zs : List Int) (n f : Int) (w : World) (hB : base ≤ w.heap.size) (hn0 : 4 ≤ n) (hn1 : n ≤ 7) (h : Cur w base g ao ca zs) :
 Calls Tryz.prog 54 #[.pointer (some ⟨g, 0, none⟩), cv n f] w fun e w' => ∃ (vo lo v : Int) (s : ByteArray) (u : Value) (d : ByteArray) (xs : List Int), e = .returned (sv vo lo v s u d) ∧ s.size ≤ 8001 ∧ d.size ≤ 8001 ∧ xs.length ≤ 9 ∧ OI w' w.heap.size u xs ∧ Cur w' base g ao ca zs ∧ w.grownBy w' (some g) := by
 have hlt := h.lt
 obtain ⟨w0, hw0⟩ : ∃ w0, (w.alloc (.cells #[.int .i64 n, .int .i64 f] 25)).alloc (.cells #[.int .i64 0, .int .i64 0, .int .i64 0, .string ⟨#[]⟩, .slice none 0 0, .string ⟨#[]⟩] 30) = w0 := ⟨_, rfl⟩
 have B0 : Below w.heap.size w w0 := hw0 ▸ qalloc2 _ _ _
 have V : Loc w0 w.heap.size #[.int .i64 n, .int .i64 f] := hw0 ▸ (loc_at w _ _ rfl).alloc _
 have Z : Loc w0 (w.heap.size + 1) #[.int .i64 0, .int .i64 0, .int .i64 0, .string ⟨#[]⟩, .slice none 0 0, .string ⟨#[]⟩] := hw0 ▸ loc_at (w.alloc _) _ _ (by simp)
 have s0 : w.heap.size + 1 + 1 ≤ w0.heap.size := by rw [← hw0]; simp
 have C := h.below hB B0
 have G : w.grownBy w0 (some g) := grown_below B0 (some g)
 clear h B0
 go_enter Tryz.func54, Tryz.ntmps54
 have vv0 := V.cell 0 rfl
 have vv1 := V.cell 1 rfl
 go_wp2_with fail
 clear hw0
 refine (drawSafeR base g ca ao zs n f _ (by omega) hn0 hn1 C).mono ?_
 rintro e w1 ⟨vo, lo, v, s, u, d, xs, rfl, hs, hd, hl, O, c1, e1⟩
 have s1 := e1.size
 clear vv0 vv1
 replace V := V.grown e1 (by omega)
 replace Z := Z.grown e1 (by omega)
 replace G := grown_trans G e1
 replace C := c1
 clear c1 e1
 have tO := World.ownsRow.lt O
 obtain ⟨ua, uc, rfl⟩ := O.form
 obtain ⟨uk, huk⟩ : ∃ k, xs.length = k := ⟨_, rfl⟩
 rw [huk] at O tO ⊢
 obtain ⟨w2, hw2⟩ : ∃ y, w1.alloc (.cells #[.int .i64 vo, .int .i64 lo, .int .i64 v, .string s, .slice ua uk uc, .string d] 30) = y := ⟨_, rfl⟩
 have bb : Below w1.heap.size w1 w2 := hw2 ▸ qalloc _ _
 have X : Loc w2 w1.heap.size #[.int .i64 vo, .int .i64 lo, .int .i64 v, .string s, .slice ua uk uc, .string d] := hw2 ▸ loc_at w1 _ _ rfl
 have s2 : w1.heap.size + 1 ≤ w2.heap.size := by rw [← hw2]; simp
 replace V := V.below bb V.lt
 replace Z := Z.below bb Z.lt
 replace O := O.below bb
 replace C := C.below (by omega) bb
 replace G := grown_trans G (grown_below bb (some g))
 clear bb
 go_wp2_with fail
 clear hw2
 refine (below_any base g ca ao zs 10 _ (by omega) (by omega) (by omega) C).mono ?_
 rintro e w3 ⟨j, rfl, j0, j1, c1, e1⟩
 have s3 := e1.size
 replace V := V.grown e1 (by omega)
 replace Z := Z.grown e1 (by omega)
 replace X := X.grown e1 (by omega)
 replace O := O.drawn e1 (by omega)
 replace G := grown_trans G e1
 replace C := c1
 clear c1 e1
 by_cases h0 : j = 0
 ·subst h0
  go_wp2_with fail
  refine (pickInt_lit base g ca ao zs [-1, 60, 61] _ (by omega) (by decide) (by decide) C).mono ?_
  rintro e w4 ⟨vo2, rfl, _, c1, e1⟩
  have s4 := e1.size
  replace V := V.grown e1 (by omega)
  replace Z := Z.grown e1 (by omega)
  replace X := X.grown e1 (by omega)
  replace O := O.drawn e1 (by omega)
  replace G := grown_trans G e1
  replace C := c1
  clear c1 e1
  have p0 := X.cell 0 rfl
  have p1 := X.cell 1 rfl
  have p2 := X.cell 2 rfl
  have p3 := X.cell 3 rfl
  have p4 := X.cell 4 rfl
  have p5 := X.cell 5 rfl
  have fp := X.frozen
  go_upto_region 11 with fail
  clear fp p0 p1 p2 p3 p4 p5
  obtain ⟨w5, hw5⟩ : ∃ y, (w4.setCell ⟨w1.heap.size, 0, none⟩ (.int .i64 vo2)) = y := ⟨_, rfl⟩
  have kN : Kp w4 w5 (fun k => k = w1.heap.size) := hw5 ▸ set_kp _ _ _ _
  replace X : Loc w5 (w1.heap.size) #[.int .i64 vo2, .int .i64 lo, .int .i64 v, .string s, .slice ua uk uc, .string d] := hw5 ▸ (X.set 0 _ rfl)
  replace C : Cur w5 base g ao ca zs := hw5 ▸ (C.set (by omega) _ _)
  replace G : w.grownBy w5 (some g) := hw5 ▸ (grown_set G (by omega) _ _)
  replace V := V.kp kN (by omega)
  replace Z := Z.kp kN (by omega)
  replace O := O.kp kN (fun j hj e => by have := tO j hj; omega)
  have s5 := kN.size
  rw [hw5]
  clear hw5 kN
  have kR : Kp w5 ((((((w5.setCell ⟨w.heap.size + 1, 0, none⟩ (.int .i64 vo2)).setCell ⟨w.heap.size + 1, 1, none⟩ (.int .i64 lo)).setCell ⟨w.heap.size + 1, 2, none⟩ (.int .i64 v)).setCell ⟨w.heap.size + 1, 3, none⟩ (.string s)).setCell ⟨w.heap.size + 1, 4, none⟩ (.slice ua uk uc)).setCell ⟨w.heap.size + 1, 5, none⟩ (.string d)) (fun k => k = w.heap.size + 1) := (((((set_kp _ _ _ _).trans (set_kp _ _ _ _)).trans (set_kp _ _ _ _)).trans (set_kp _ _ _ _)).trans (set_kp _ _ _ _)).trans (set_kp _ _ _ _)
  have R := hide (And.intro ((O.kp kR (fun j hj e => by have := tO j hj; omega)).mono (show w.heap.size ≤ _ by omega)) (And.intro ((((((C.set (r := w.heap.size + 1) (by omega) 0 (.int .i64 vo2)).set (r := w.heap.size + 1) (by omega) 1 (.int .i64 lo)).set (r := w.heap.size + 1) (by omega) 2 (.int .i64 v)).set (r := w.heap.size + 1) (by omega) 3 (.string s)).set (r := w.heap.size + 1) (by omega) 4 (.slice ua uk uc)).set (r := w.heap.size + 1) (by omega) 5 (.string d)) (grown_set (grown_set (grown_set (grown_set (grown_set (grown_set G (r := w.heap.size + 1) (by omega) 0 (.int .i64 vo2)) (r := w.heap.size + 1) (by omega) 1 (.int .i64 lo)) (r := w.heap.size + 1) (by omega) 2 (.int .i64 v)) (r := w.heap.size + 1) (by omega) 3 (.string s)) (r := w.heap.size + 1) (by omega) 4 (.slice ua uk uc)) (r := w.heap.size + 1) (by omega) 5 (.string d))))
  have x0 := X.cell 0 rfl
  have x1 := X.cell 1 rfl
  have x2 := X.cell 2 rfl
  have x3 := X.cell 3 rfl
  have x4 := X.cell 4 rfl
  have x5 := X.cell 5 rfl
  have z0 := Z.cell 0 rfl
  have z1 := Z.cell 1 rfl
  have z2 := Z.cell 2 rfl
  have z3 := Z.cell 3 rfl
  have z4 := Z.cell 4 rfl
  have z5 := Z.cell 5 rfl
  have fz := Z.frozen
  clear kR C G V Z X O
  go_wp2
  refine bodyPost_ret (v := sv (vo2) (lo) (v) (s) (.slice ua uk uc) (d)) (by simp [results, Tryz.results54, go_sem, z0, z1, z2, z3, z4, z5]) rfl ?_
  exact ⟨_, _, _, _, _, _, xs, rfl, hs, hd, (by omega), unhide R⟩
 ·have n0 : (j == 0) = false := by simp [h0]
  by_cases h1 : j = 1
  ·subst h1
   go_wp2_with fail
   refine (pickInt_lit base g ca ao zs [-1, 0, 60, 61] _ (by omega) (by decide) (by decide) C).mono ?_
   rintro e w4 ⟨lo2, rfl, _, c1, e1⟩
   have s4 := e1.size
   replace V := V.grown e1 (by omega)
   replace Z := Z.grown e1 (by omega)
   replace X := X.grown e1 (by omega)
   replace O := O.drawn e1 (by omega)
   replace G := grown_trans G e1
   replace C := c1
   clear c1 e1
   have p0 := X.cell 0 rfl
   have p1 := X.cell 1 rfl
   have p2 := X.cell 2 rfl
   have p3 := X.cell 3 rfl
   have p4 := X.cell 4 rfl
   have p5 := X.cell 5 rfl
   have fp := X.frozen
   go_upto_region 11 with fail
   clear fp p0 p1 p2 p3 p4 p5
   obtain ⟨w5, hw5⟩ : ∃ y, (w4.setCell ⟨w1.heap.size, 1, none⟩ (.int .i64 lo2)) = y := ⟨_, rfl⟩
   have kN : Kp w4 w5 (fun k => k = w1.heap.size) := hw5 ▸ set_kp _ _ _ _
   replace X : Loc w5 (w1.heap.size) #[.int .i64 vo, .int .i64 lo2, .int .i64 v, .string s, .slice ua uk uc, .string d] := hw5 ▸ (X.set 1 _ rfl)
   replace C : Cur w5 base g ao ca zs := hw5 ▸ (C.set (by omega) _ _)
   replace G : w.grownBy w5 (some g) := hw5 ▸ (grown_set G (by omega) _ _)
   replace V := V.kp kN (by omega)
   replace Z := Z.kp kN (by omega)
   replace O := O.kp kN (fun j hj e => by have := tO j hj; omega)
   have s5 := kN.size
   rw [hw5]
   clear hw5 kN
   have kR : Kp w5 ((((((w5.setCell ⟨w.heap.size + 1, 0, none⟩ (.int .i64 vo)).setCell ⟨w.heap.size + 1, 1, none⟩ (.int .i64 lo2)).setCell ⟨w.heap.size + 1, 2, none⟩ (.int .i64 v)).setCell ⟨w.heap.size + 1, 3, none⟩ (.string s)).setCell ⟨w.heap.size + 1, 4, none⟩ (.slice ua uk uc)).setCell ⟨w.heap.size + 1, 5, none⟩ (.string d)) (fun k => k = w.heap.size + 1) := (((((set_kp _ _ _ _).trans (set_kp _ _ _ _)).trans (set_kp _ _ _ _)).trans (set_kp _ _ _ _)).trans (set_kp _ _ _ _)).trans (set_kp _ _ _ _)
   have R := hide (And.intro ((O.kp kR (fun j hj e => by have := tO j hj; omega)).mono (show w.heap.size ≤ _ by omega)) (And.intro ((((((C.set (r := w.heap.size + 1) (by omega) 0 (.int .i64 vo)).set (r := w.heap.size + 1) (by omega) 1 (.int .i64 lo2)).set (r := w.heap.size + 1) (by omega) 2 (.int .i64 v)).set (r := w.heap.size + 1) (by omega) 3 (.string s)).set (r := w.heap.size + 1) (by omega) 4 (.slice ua uk uc)).set (r := w.heap.size + 1) (by omega) 5 (.string d)) (grown_set (grown_set (grown_set (grown_set (grown_set (grown_set G (r := w.heap.size + 1) (by omega) 0 (.int .i64 vo)) (r := w.heap.size + 1) (by omega) 1 (.int .i64 lo2)) (r := w.heap.size + 1) (by omega) 2 (.int .i64 v)) (r := w.heap.size + 1) (by omega) 3 (.string s)) (r := w.heap.size + 1) (by omega) 4 (.slice ua uk uc)) (r := w.heap.size + 1) (by omega) 5 (.string d))))
   have x0 := X.cell 0 rfl
   have x1 := X.cell 1 rfl
   have x2 := X.cell 2 rfl
   have x3 := X.cell 3 rfl
   have x4 := X.cell 4 rfl
   have x5 := X.cell 5 rfl
   have z0 := Z.cell 0 rfl
   have z1 := Z.cell 1 rfl
   have z2 := Z.cell 2 rfl
   have z3 := Z.cell 3 rfl
   have z4 := Z.cell 4 rfl
   have z5 := Z.cell 5 rfl
   have fz := Z.frozen
   clear kR C G V Z X O
   go_wp2
   refine bodyPost_ret (v := sv (vo) (lo2) (v) (s) (.slice ua uk uc) (d)) (by simp [results, Tryz.results54, go_sem, z0, z1, z2, z3, z4, z5]) rfl ?_
   exact ⟨_, _, _, _, _, _, xs, rfl, hs, hd, (by omega), unhide R⟩
  ·have n1 : (j == 1) = false := by simp [h1]
   by_cases h2 : j = 2
   ·subst h2
    go_wp2_with fail
    refine (drawName base g ca ao zs _ (by omega) C).mono ?_
    rintro e w4 ⟨d2, rfl, hd2, c1, e1⟩
    have s4 := e1.size
    replace V := V.grown e1 (by omega)
    replace Z := Z.grown e1 (by omega)
    replace X := X.grown e1 (by omega)
    replace O := O.drawn e1 (by omega)
    replace G := grown_trans G e1
    replace C := c1
    clear c1 e1
    have p0 := X.cell 0 rfl
    have p1 := X.cell 1 rfl
    have p2 := X.cell 2 rfl
    have p3 := X.cell 3 rfl
    have p4 := X.cell 4 rfl
    have p5 := X.cell 5 rfl
    have fp := X.frozen
    go_upto_region 11 with fail
    clear fp p0 p1 p2 p3 p4 p5
    obtain ⟨w5, hw5⟩ : ∃ y, (w4.setCell ⟨w1.heap.size, 5, none⟩ (.string d2)) = y := ⟨_, rfl⟩
    have kN : Kp w4 w5 (fun k => k = w1.heap.size) := hw5 ▸ set_kp _ _ _ _
    replace X : Loc w5 (w1.heap.size) #[.int .i64 vo, .int .i64 lo, .int .i64 v, .string s, .slice ua uk uc, .string d2] := hw5 ▸ (X.set 5 _ rfl)
    replace C : Cur w5 base g ao ca zs := hw5 ▸ (C.set (by omega) _ _)
    replace G : w.grownBy w5 (some g) := hw5 ▸ (grown_set G (by omega) _ _)
    replace V := V.kp kN (by omega)
    replace Z := Z.kp kN (by omega)
    replace O := O.kp kN (fun j hj e => by have := tO j hj; omega)
    have s5 := kN.size
    rw [hw5]
    clear hw5 kN
    have kR : Kp w5 ((((((w5.setCell ⟨w.heap.size + 1, 0, none⟩ (.int .i64 vo)).setCell ⟨w.heap.size + 1, 1, none⟩ (.int .i64 lo)).setCell ⟨w.heap.size + 1, 2, none⟩ (.int .i64 v)).setCell ⟨w.heap.size + 1, 3, none⟩ (.string s)).setCell ⟨w.heap.size + 1, 4, none⟩ (.slice ua uk uc)).setCell ⟨w.heap.size + 1, 5, none⟩ (.string d2)) (fun k => k = w.heap.size + 1) := (((((set_kp _ _ _ _).trans (set_kp _ _ _ _)).trans (set_kp _ _ _ _)).trans (set_kp _ _ _ _)).trans (set_kp _ _ _ _)).trans (set_kp _ _ _ _)
    have R := hide (And.intro ((O.kp kR (fun j hj e => by have := tO j hj; omega)).mono (show w.heap.size ≤ _ by omega)) (And.intro ((((((C.set (r := w.heap.size + 1) (by omega) 0 (.int .i64 vo)).set (r := w.heap.size + 1) (by omega) 1 (.int .i64 lo)).set (r := w.heap.size + 1) (by omega) 2 (.int .i64 v)).set (r := w.heap.size + 1) (by omega) 3 (.string s)).set (r := w.heap.size + 1) (by omega) 4 (.slice ua uk uc)).set (r := w.heap.size + 1) (by omega) 5 (.string d2)) (grown_set (grown_set (grown_set (grown_set (grown_set (grown_set G (r := w.heap.size + 1) (by omega) 0 (.int .i64 vo)) (r := w.heap.size + 1) (by omega) 1 (.int .i64 lo)) (r := w.heap.size + 1) (by omega) 2 (.int .i64 v)) (r := w.heap.size + 1) (by omega) 3 (.string s)) (r := w.heap.size + 1) (by omega) 4 (.slice ua uk uc)) (r := w.heap.size + 1) (by omega) 5 (.string d2))))
    have x0 := X.cell 0 rfl
    have x1 := X.cell 1 rfl
    have x2 := X.cell 2 rfl
    have x3 := X.cell 3 rfl
    have x4 := X.cell 4 rfl
    have x5 := X.cell 5 rfl
    have z0 := Z.cell 0 rfl
    have z1 := Z.cell 1 rfl
    have z2 := Z.cell 2 rfl
    have z3 := Z.cell 3 rfl
    have z4 := Z.cell 4 rfl
    have z5 := Z.cell 5 rfl
    have fz := Z.frozen
    clear kR C G V Z X O
    go_wp2
    refine bodyPost_ret (v := sv (vo) (lo) (v) (s) (.slice ua uk uc) (d2)) (by simp [results, Tryz.results54, go_sem, z0, z1, z2, z3, z4, z5]) rfl ?_
    exact ⟨_, _, _, _, _, _, xs, rfl, hs, hd2, (by omega), unhide R⟩
   ·have n2 : (j == 2) = false := by simp [h2]
    by_cases h3 : j = 3
    ·subst h3
     have vv0 := V.cell 0 rfl
     have vv1 := V.cell 1 rfl
     go_wp2_with fail
     refine (drawQcV base g ca ao zs n f _ (by omega) hn0 hn1 C).mono ?_
     rintro e w4 ⟨v2, s2', u2, ys, rfl, _, hs2, hl2, _, P, c1, e1⟩
     have s4 := e1.size
     clear vv0 vv1
     replace V := V.grown e1 (by omega)
     replace Z := Z.grown e1 (by omega)
     replace X := X.grown e1 (by omega)
     replace O := O.drawn e1 (by omega)
     replace G := grown_trans G e1
     replace C := c1
     clear c1 e1
     have tP := World.ownsRow.lt P
     obtain ⟨pa, pc, rfl⟩ := P.form
     obtain ⟨pk, hpk⟩ : ∃ k, ys.length = k := ⟨_, rfl⟩
     rw [hpk] at P tP ⊢
     clear O
     have p0 := X.cell 0 rfl
     have p1 := X.cell 1 rfl
     have p2 := X.cell 2 rfl
     have p3 := X.cell 3 rfl
     have p4 := X.cell 4 rfl
     have p5 := X.cell 5 rfl
     have fp := X.frozen
     go_upto_region 11 with fail
     clear fp p0 p1 p2 p3 p4 p5
     obtain ⟨w5, hw5⟩ : ∃ y, (((w4.setCell ⟨w1.heap.size, 2, none⟩ (.int .i64 v2)).setCell ⟨w1.heap.size, 3, none⟩ (.string s2')).setCell ⟨w1.heap.size, 4, none⟩ (.slice pa pk pc)) = y := ⟨_, rfl⟩
     have kN : Kp w4 w5 (fun k => k = w1.heap.size) := hw5 ▸ ((set_kp _ _ _ _).trans (set_kp _ _ _ _)).trans (set_kp _ _ _ _)
     replace X : Loc w5 (w1.heap.size) #[.int .i64 vo, .int .i64 lo, .int .i64 v2, .string s2', .slice pa pk pc, .string d] := hw5 ▸ (((X.set 2 _ rfl).set 3 _ rfl).set 4 _ rfl)
     replace C : Cur w5 base g ao ca zs := hw5 ▸ (((C.set (by omega) _ _).set (by omega) _ _).set (by omega) _ _)
     replace G : w.grownBy w5 (some g) := hw5 ▸ (grown_set (grown_set (grown_set G (by omega) _ _) (by omega) _ _) (by omega) _ _)
     replace V := V.kp kN (by omega)
     replace Z := Z.kp kN (by omega)
     replace P := P.kp kN (fun j hj e => by have := tP j hj; omega)
     have s5 := kN.size
     rw [hw5]
     clear hw5 kN
     have kR : Kp w5 ((((((w5.setCell ⟨w.heap.size + 1, 0, none⟩ (.int .i64 vo)).setCell ⟨w.heap.size + 1, 1, none⟩ (.int .i64 lo)).setCell ⟨w.heap.size + 1, 2, none⟩ (.int .i64 v2)).setCell ⟨w.heap.size + 1, 3, none⟩ (.string s2')).setCell ⟨w.heap.size + 1, 4, none⟩ (.slice pa pk pc)).setCell ⟨w.heap.size + 1, 5, none⟩ (.string d)) (fun k => k = w.heap.size + 1) := (((((set_kp _ _ _ _).trans (set_kp _ _ _ _)).trans (set_kp _ _ _ _)).trans (set_kp _ _ _ _)).trans (set_kp _ _ _ _)).trans (set_kp _ _ _ _)
     have R := hide (And.intro ((P.kp kR (fun j hj e => by have := tP j hj; omega)).mono (show w.heap.size ≤ _ by omega)) (And.intro ((((((C.set (r := w.heap.size + 1) (by omega) 0 (.int .i64 vo)).set (r := w.heap.size + 1) (by omega) 1 (.int .i64 lo)).set (r := w.heap.size + 1) (by omega) 2 (.int .i64 v2)).set (r := w.heap.size + 1) (by omega) 3 (.string s2')).set (r := w.heap.size + 1) (by omega) 4 (.slice pa pk pc)).set (r := w.heap.size + 1) (by omega) 5 (.string d)) (grown_set (grown_set (grown_set (grown_set (grown_set (grown_set G (r := w.heap.size + 1) (by omega) 0 (.int .i64 vo)) (r := w.heap.size + 1) (by omega) 1 (.int .i64 lo)) (r := w.heap.size + 1) (by omega) 2 (.int .i64 v2)) (r := w.heap.size + 1) (by omega) 3 (.string s2')) (r := w.heap.size + 1) (by omega) 4 (.slice pa pk pc)) (r := w.heap.size + 1) (by omega) 5 (.string d))))
     have x0 := X.cell 0 rfl
     have x1 := X.cell 1 rfl
     have x2 := X.cell 2 rfl
     have x3 := X.cell 3 rfl
     have x4 := X.cell 4 rfl
     have x5 := X.cell 5 rfl
     have z0 := Z.cell 0 rfl
     have z1 := Z.cell 1 rfl
     have z2 := Z.cell 2 rfl
     have z3 := Z.cell 3 rfl
     have z4 := Z.cell 4 rfl
     have z5 := Z.cell 5 rfl
     have fz := Z.frozen
     clear kR C G V Z X P
     go_wp2
     refine bodyPost_ret (v := sv (vo) (lo) (v2) (s2') (.slice pa pk pc) (d)) (by simp [results, Tryz.results54, go_sem, z0, z1, z2, z3, z4, z5]) rfl ?_
     exact ⟨_, _, _, _, _, _, ys, rfl, hs2, hd, (by omega), unhide R⟩
    ·have n3 : (j == 3) = false := by simp [h3]
     have kR : Kp w3 ((((((w3.setCell ⟨w.heap.size + 1, 0, none⟩ (.int .i64 vo)).setCell ⟨w.heap.size + 1, 1, none⟩ (.int .i64 lo)).setCell ⟨w.heap.size + 1, 2, none⟩ (.int .i64 v)).setCell ⟨w.heap.size + 1, 3, none⟩ (.string s)).setCell ⟨w.heap.size + 1, 4, none⟩ (.slice ua uk uc)).setCell ⟨w.heap.size + 1, 5, none⟩ (.string d)) (fun k => k = w.heap.size + 1) := (((((set_kp _ _ _ _).trans (set_kp _ _ _ _)).trans (set_kp _ _ _ _)).trans (set_kp _ _ _ _)).trans (set_kp _ _ _ _)).trans (set_kp _ _ _ _)
     have R := hide (And.intro ((O.kp kR (fun j hj e => by have := tO j hj; omega)).mono (show w.heap.size ≤ _ by omega)) (And.intro ((((((C.set (r := w.heap.size + 1) (by omega) 0 (.int .i64 vo)).set (r := w.heap.size + 1) (by omega) 1 (.int .i64 lo)).set (r := w.heap.size + 1) (by omega) 2 (.int .i64 v)).set (r := w.heap.size + 1) (by omega) 3 (.string s)).set (r := w.heap.size + 1) (by omega) 4 (.slice ua uk uc)).set (r := w.heap.size + 1) (by omega) 5 (.string d)) (grown_set (grown_set (grown_set (grown_set (grown_set (grown_set G (r := w.heap.size + 1) (by omega) 0 (.int .i64 vo)) (r := w.heap.size + 1) (by omega) 1 (.int .i64 lo)) (r := w.heap.size + 1) (by omega) 2 (.int .i64 v)) (r := w.heap.size + 1) (by omega) 3 (.string s)) (r := w.heap.size + 1) (by omega) 4 (.slice ua uk uc)) (r := w.heap.size + 1) (by omega) 5 (.string d))))
     have x0 := X.cell 0 rfl
     have x1 := X.cell 1 rfl
     have x2 := X.cell 2 rfl
     have x3 := X.cell 3 rfl
     have x4 := X.cell 4 rfl
     have x5 := X.cell 5 rfl
     have z0 := Z.cell 0 rfl
     have z1 := Z.cell 1 rfl
     have z2 := Z.cell 2 rfl
     have z3 := Z.cell 3 rfl
     have z4 := Z.cell 4 rfl
     have z5 := Z.cell 5 rfl
     have fz := Z.frozen
     clear kR C G V Z X O
     go_wp2
     refine bodyPost_ret (v := sv (vo) (lo) (v) (s) (.slice ua uk uc) (d)) (by simp [results, Tryz.results54, go_sem, z0, z1, z2, z3, z4, z5]) rfl ?_
     exact ⟨_, _, _, _, _, _, xs, rfl, hs, hd, (by omega), unhide R⟩

set_option maxHeartbeats 16000000 in
set_option maxRecDepth 100000 in
theorem drawBlk (base g ca : Nat) (ao : Option Addr) (zs : List Int) (n f : Int) (w : World) (hB : base ≤ w.heap.size) (hn0 : 4 ≤ n) (hn1 : n ≤ 7) (h : Cur w base g ao ca zs) :
 Calls Tryz.prog 124 #[.pointer (some ⟨g, 0, none⟩), cv n f] w fun e w' => ∃ (m : ByteArray) (v : Int) (s : ByteArray) (u : Value) (xs : List Int), e = .returned (bv m v s u) ∧ m.size ≤ 8001 ∧ (-1 ≤ v ∧ v ≤ 61) ∧ s.size ≤ 8001 ∧ xs.length ≤ 9 ∧ Hid (WfL xs) ∧ OI w' w.heap.size u xs ∧ Cur w' base g ao ca zs ∧ w.grownBy w' (some g) := by
 have hlt := h.lt
 obtain ⟨w0, hw0⟩ : ∃ w0, (w.alloc (.cells #[.int .i64 n, .int .i64 f] 25)).alloc (.cells #[.string ⟨#[]⟩, .int .i64 0, .string ⟨#[]⟩, .slice none 0 0] 35) = w0 := ⟨_, rfl⟩
 have B0 : Below w.heap.size w w0 := hw0 ▸ qalloc2 _ _ _
 have V : Loc w0 w.heap.size #[.int .i64 n, .int .i64 f] := hw0 ▸ (loc_at w _ _ rfl).alloc _
 have Z : Loc w0 (w.heap.size + 1) #[.string ⟨#[]⟩, .int .i64 0, .string ⟨#[]⟩, .slice none 0 0] := hw0 ▸ loc_at (w.alloc _) _ _ (by simp)
 have s0 : w.heap.size + 1 + 1 ≤ w0.heap.size := by rw [← hw0]; simp
 have C := h.below hB B0
 have G : w.grownBy w0 (some g) := grown_below B0 (some g)
 clear h B0
 go_enter Tryz.func124, Tryz.ntmps124
 have v0 := V.cell 0 rfl
 have v1 := V.cell 1 rfl
 go_wp2_with fail
 clear hw0 v0 v1
 refine (drawBlkR base g ca ao zs n f _ (by omega) hn0 hn1 C).mono ?_
 rintro e w1 ⟨m, v, s, u, xs, rfl, hm, hv, hs, hl, hw, O, c1, e1⟩
 have s1 := e1.size
 replace V := V.grown e1 (by omega)
 replace Z := Z.grown e1 (by omega)
 replace G := grown_trans G e1
 replace C := c1
 clear c1 e1
 have tO := World.ownsRow.lt O
 obtain ⟨ua, uc, rfl⟩ := O.form
 obtain ⟨k, hk⟩ : ∃ k, xs.length = k := ⟨_, rfl⟩
 rw [hk] at O tO ⊢
 obtain ⟨w2, hw2⟩ : ∃ y, w1.alloc (.cells #[.string m, .int .i64 v, .string s, .slice ua k uc] 35) = y := ⟨_, rfl⟩
 have b2 : Below w1.heap.size w1 w2 := hw2 ▸ qalloc _ _
 have X : Loc w2 w1.heap.size #[.string m, .int .i64 v, .string s, .slice ua k uc] := hw2 ▸ loc_at w1 _ _ rfl
 have s2 : w1.heap.size + 1 ≤ w2.heap.size := by rw [← hw2]; simp
 replace V := V.below b2 V.lt
 replace Z := Z.below b2 Z.lt
 replace O := O.below b2
 replace C := C.below (by omega) b2
 replace G := grown_trans G (grown_below b2 (some g))
 clear b2
 go_wp2_with fail
 clear hw2
 refine (below_any base g ca ao zs 10 _ (by omega) (by omega) (by omega) C).mono ?_
 rintro e w3 ⟨j, rfl, j0, j1, c1, e1⟩
 have s3 := e1.size
 replace V := V.grown e1 (by omega)
 replace Z := Z.grown e1 (by omega)
 replace X := X.grown e1 (by omega)
 replace O := O.drawn e1 (by omega)
 replace G := grown_trans G e1
 replace C := c1
 clear c1 e1
 have FI : Hid (∀ (m : ByteArray) (v : Int) (s : ByteArray) (u : Value) (xs : List Int) (w' : World), m.size ≤ 8001 → (-1 ≤ v ∧ v ≤ 61) → s.size ≤ 8001 → xs.length ≤ 9 → Hid (WfL xs) → OI w' (w.heap.size + 1 + 1) u xs → Cur w' base g ao ca zs → w.grownBy w' (some g) →
  m.size ≤ 8001 ∧ (-1 ≤ v ∧ v ≤ 61) ∧ s.size ≤ 8001 ∧ xs.length ≤ 9 ∧ Hid (WfL xs) ∧ OI ((((w'.setCell ⟨w.heap.size + 1, 0, none⟩ (.string m)).setCell ⟨w.heap.size + 1, 1, none⟩ (.int .i64 v)).setCell ⟨w.heap.size + 1, 2, none⟩ (.string s)).setCell ⟨w.heap.size + 1, 3, none⟩ u) w.heap.size u xs ∧ Cur ((((w'.setCell ⟨w.heap.size + 1, 0, none⟩ (.string m)).setCell ⟨w.heap.size + 1, 1, none⟩ (.int .i64 v)).setCell ⟨w.heap.size + 1, 2, none⟩ (.string s)).setCell ⟨w.heap.size + 1, 3, none⟩ u) base g ao ca zs ∧ w.grownBy ((((w'.setCell ⟨w.heap.size + 1, 0, none⟩ (.string m)).setCell ⟨w.heap.size + 1, 1, none⟩ (.int .i64 v)).setCell ⟨w.heap.size + 1, 2, none⟩ (.string s)).setCell ⟨w.heap.size + 1, 3, none⟩ u) (some g)) := hide fun m v s u xs w' h0 h1 h2 h3 h4 h5 h6 h7 => by
  have lt3 := World.ownsRow.lt h5
  exact ⟨h0, h1, h2, h3, h4, (h5.kp (kp4 _ _ _ _ _ _) (fun k hk e => by have := lt3 k hk; omega)).mono (by omega), (((h6.set (by omega) _ _).set (by omega) _ _).set (by omega) _ _).set (by omega) _ _, grown_set (grown_set (grown_set (grown_set h7 (by omega) _ _) (by omega) _ _) (by omega) _ _) (by omega) _ _⟩
 replace O := O.mono (show w.heap.size + 1 + 1 ≤ w0.heap.size by omega)
 by_cases h0 : j = 0
 ·subst h0
  skip
  go_wp2_with fail
  refine (drawName base g ca ao zs _ (by omega) C).mono ?_
  rintro e w4 ⟨t, rfl, ht, c1, e1⟩
  have s4 := e1.size
  replace Z := Z.grown e1 (by omega)
  replace X := X.grown e1 (by omega)
  replace O := O.drawn e1 (by omega)
  replace G := grown_trans G e1
  replace C := c1
  clear c1 e1
  have R := hide (unhide FI t v s (.slice ua k uc) xs _ ht hv hs (by omega) hw (O.kp (set_kp w4 w1.heap.size 0 (.string t)) (fun j hj e => by have := tO j hj; omega)) (C.set (r := w1.heap.size) (by omega) 0 (.string t)) (grown_set G (r := w1.heap.size) (by omega) 0 (.string t)))
  have x0 := X.cell 0 rfl
  have x1 := X.cell 1 rfl
  have x2 := X.cell 2 rfl
  have x3 := X.cell 3 rfl
  have fx := X.frozen
  have z0 := Z.cell 0 rfl
  have z1 := Z.cell 1 rfl
  have z2 := Z.cell 2 rfl
  have z3 := Z.cell 3 rfl
  have fz := Z.frozen
  have ne1 : ¬ w.heap.size + 1 = w1.heap.size := by omega
  have ne2 : ¬ w1.heap.size = w.heap.size + 1 := by omega
  clear V Z X O C G FI
  go_wp2
  refine bodyPost_ret (v := bv t v s (.slice ua k uc)) (by simp [results, Tryz.results124, go_sem, z0, z1, z2, z3]) rfl ?_
  exact ⟨_, _, _, _, xs, rfl, unhide R⟩
 ·have n0 : (j == 0) = false := by simp [h0]
  by_cases h1 : j = 1
  ·subst h1
   skip
   have v0 := V.cell 0 rfl
   have v1 := V.cell 1 rfl
   go_wp2_with fail
   clear v0 v1
   refine (drawQcV base g ca ao zs n f _ (by omega) hn0 hn1 C).mono ?_
   rintro e w4 ⟨v4, s4', u4, ys, rfl, hv4, hs4, hl4, hw4, O4, c1, e1⟩
   have s4 := e1.size
   replace Z := Z.grown e1 (by omega)
   replace X := X.grown e1 (by omega)
   replace G := grown_trans G e1
   replace C := c1
   clear c1 e1 O
   have t4 := World.ownsRow.lt O4
   obtain ⟨va, vc, rfl⟩ := O4.form
   obtain ⟨k4, hk4⟩ : ∃ k, ys.length = k := ⟨_, rfl⟩
   rw [hk4] at O4 t4 ⊢
   obtain ⟨w5, hw5⟩ : ∃ y, ((w4.setCell ⟨w1.heap.size, 1, none⟩ (.int .i64 v4)).setCell ⟨w1.heap.size, 2, none⟩ (.string s4')).setCell ⟨w1.heap.size, 3, none⟩ (.slice va k4 vc) = y := ⟨_, rfl⟩
   have K3 : Kp w4 w5 (fun k => k = w1.heap.size) := hw5 ▸ ((set_kp _ _ _ _).trans (set_kp _ _ _ _)).trans (set_kp _ _ _ _)
   have X5 : Loc w5 w1.heap.size #[.string m, .int .i64 v4, .string s4', .slice va k4 vc] := hw5 ▸ ((X.set 1 _ rfl).set 2 _ rfl).set 3 _ rfl
   have C5 : Cur w5 base g ao ca zs := hw5 ▸ ((C.set (by omega) _ _).set (by omega) _ _).set (by omega) _ _
   have G5 : w.grownBy w5 (some g) := hw5 ▸ grown_set (grown_set (grown_set G (by omega) _ _) (by omega) _ _) (by omega) _ _
   have Z5 := Z.kp K3 (by omega)
   have O5 := (O4.kp K3 (fun j hj e => by have := t4 j hj; omega)).mono (show w.heap.size + 1 + 1 ≤ w3.heap.size by omega)
   have R := hide (unhide FI m v4 s4' (.slice va k4 vc) ys _ hm hv4 hs4 (by omega) hw4 O5 C5 G5)
   have x0 := X.cell 0 rfl
   have x1 := X.cell 1 rfl
   have x2 := X.cell 2 rfl
   have x3 := X.cell 3 rfl
   have fx := X.frozen
   clear V Z X C G O4 O5 C5 G5 K3 FI
   go_upto_region 7 with fail
   clear hw5 x0 x1 x2 x3 fx
   have x0 := X5.cell 0 rfl
   have x1 := X5.cell 1 rfl
   have x2 := X5.cell 2 rfl
   have x3 := X5.cell 3 rfl
   have z0 := Z5.cell 0 rfl
   have z1 := Z5.cell 1 rfl
   have z2 := Z5.cell 2 rfl
   have z3 := Z5.cell 3 rfl
   have fz := Z5.frozen
   clear X5 Z5
   go_wp2
   refine bodyPost_ret (v := bv m v4 s4' (.slice va k4 vc)) (by simp [results, Tryz.results124, go_sem, z0, z1, z2, z3]) rfl ?_
   exact ⟨_, _, _, _, ys, rfl, unhide R⟩
  ·have n1 : (j == 1) = false := by simp [h1]
   have R := hide (unhide FI m v s (.slice ua k uc) xs _ hm hv hs (by omega) hw O C G)
   have x0 := X.cell 0 rfl
   have x1 := X.cell 1 rfl
   have x2 := X.cell 2 rfl
   have x3 := X.cell 3 rfl
   have z0 := Z.cell 0 rfl
   have z1 := Z.cell 1 rfl
   have z2 := Z.cell 2 rfl
   have z3 := Z.cell 3 rfl
   have fz := Z.frozen
   clear V Z X O C G FI
   go_wp2
   refine bodyPost_ret (v := bv m v s (.slice ua k uc)) (by simp [results, Tryz.results124, go_sem, z0, z1, z2, z3]) rfl ?_
   exact ⟨_, _, _, _, xs, rfl, unhide R⟩
end Go.Proofs.YtmpmedbojfjnaaaGreatDoor
