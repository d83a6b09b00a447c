/- Texts that belong together: DrawSafeR, DrawSafe. -/
import Derived.Test.YtcclbejpgiogaaaGreatDoorNBAW
import Derived.Test.YtcclbejpgiogaaaGreatDoorNBAX
import Derived.Test.YtcclbejpgiogaaaGreatDoorNBBB
import Derived.Deep.DeepCutAuto
import Derived.Test.YtcclbejpgiogaaaGreatDoorNBBA
import Derived.Test.YtcclbejpgiogaaaGreatDoorNBAS
set_option maxRecDepth 100000
set_option maxHeartbeats 32000000
namespace Go.Proofs.YtcclbejpgiogaaaGreatDoor
open Go.RowKit
set_option linter.unusedSectionVars false
variable [∀ (a b c d : Int), Decidable (Ok4 a b c d)]
variable [∀ (a b c d : Nat), Decidable (okN a b c d)]
variable [∀ (last : Int) (s : St), Decidable (GoodSt last s)]
variable [∀ (x : T4), Decidable (OkT x)]
variable [∀ (n : Int) (s : List Int), Decidable (OkL n s)]
variable [∀ (n f : Int), Decidable (COk n f)]
variable [∀ (ts : List T4), Decidable (AllOk ts)]

theorem specSeeD (n f vo lo v : Int) (s : ByteArray) (ao : Option Addr) (ca : Nat) (xs : List Int) (d : ByteArray) (v' : Int) (s' : ByteArray) (bo : Option Addr) (cb : Nat) (ys : List Int) (w : World) (hs : s.size ≤ 8001) (hd : d.size ≤ 8001) (hs' : s'.size ≤ 8001) (hx : xs.length ≤ 9) (hy : ys.length ≤ 9) (ha : RI w (.slice ao xs.length ca) xs) (hb : RI w (.slice bo ys.length cb) ys) :
 Calls Tryz.prog 65 #[cv n f, sv vo lo v s (.slice ao xs.length ca) d, qv v' s' (.slice bo ys.length cb)] w fun e w' => ∃ (l1 v1 : Int) (s1 : ByteArray) (u : Value) (d1 : ByteArray) (x1 : List Int), e = .returned (sv vo l1 v1 s1 u d1) ∧ s1.size ≤ 8001 ∧ d1.size ≤ 8001 ∧ x1.length ≤ 9 ∧ OI w' w.heap.size u x1 ∧ Below w.heap.size w w' := by
 refine (specSee n f vo lo v s ao ca xs d v' s' bo cb ys w (by omega) (by omega) (by omega) ha hb).mono ?_
 rintro e w' ⟨u, rfl, o, b⟩
 have h2 := up2_size (s := s')
 refine ⟨_, _, _, u, _, _, rfl, ?_, ?_, ?_, o, b⟩
 ·unfold seeS; split <;> (try split) <;> omega
 ·unfold seeD doneOf; split <;> (try split) <;> omega
 ·unfold seeX; split <;> (try split) <;> omega
theorem specVoteD (n f vo lo v : Int) (s : ByteArray) (ao : Option Addr) (ca : Nat) (xs : List Int) (d m : ByteArray) (v' : Int) (s' : ByteArray) (bo : Option Addr) (cb : Nat) (ys : List Int) (w : World) (hs : s.size ≤ 8001) (hd : d.size ≤ 8001) (hm : m.size ≤ 8001) (hs' : s'.size ≤ 8001) (ha : RI w (.slice ao xs.length ca) xs) (hb : RI w (.slice bo ys.length cb) ys) :
 Calls Tryz.prog 66 #[cv n f, sv vo lo v s (.slice ao xs.length ca) d, bv m v' s' (.slice bo ys.length cb)] w fun e w' => ∃ (o1 : Int) (u : Value) (q : Bool), e = .returned (.tuple #[sv o1 lo v s u d, .bool q]) ∧ OI w' w.heap.size u xs ∧ Below w.heap.size w w' := by
 refine (specVote n f vo lo v s ao ca xs d m v' s' bo cb ys w (by omega) (by omega) (by omega) (by omega) ha hb).mono ?_
 rintro e w' ⟨u, rfl, o, b⟩
 exact ⟨_, u, _, rfl, o, b⟩

theorem drawSafeR (base g ca : Nat) (ao : Option Addr) (zs : List Int) (n f : Int) (w : World) (hB : base ≤ w.heap.size) (hn0 : 4 ≤ n) (hn1 : n ≤ 7) (h : Cur w base g ao ca zs) :
 Calls Tryz.prog 33 #[.pointer (some ⟨g, 0, none⟩), cv n f] w fun e w' => ∃ (vo lo v : Int) (s : ByteArray) (u : Value) (d : ByteArray) (xs : List Int), e = .returned (sv vo lo v s u d) ∧ s.size ≤ 8001 ∧ d.size ≤ 8001 ∧ xs.length ≤ 9 ∧ OI w' w.heap.size u xs ∧ Cur w' base g ao ca zs ∧ w.grownBy w' (some g) := by
 have hlt := h.lt
 obtain ⟨w0, hw0⟩ : ∃ w0, (w.alloc (.cells #[.int .i64 n, .int .i64 f] 25)).alloc (.cells #[.int .i64 0, .int .i64 0, .int .i64 0, .string ⟨#[]⟩, .slice none 0 0, .string ⟨#[]⟩] 30) = w0 := ⟨_, rfl⟩
 have B0 : Below w.heap.size w w0 := hw0 ▸ qalloc2 _ _ _
 have V : Loc w0 w.heap.size #[.int .i64 n, .int .i64 f] := hw0 ▸ (loc_at w _ _ rfl).alloc _
 have Z : Loc w0 (w.heap.size + 1) #[.int .i64 0, .int .i64 0, .int .i64 0, .string ⟨#[]⟩, .slice none 0 0, .string ⟨#[]⟩] := hw0 ▸ loc_at (w.alloc _) _ _ (by simp)
 have s0 : w.heap.size + 1 + 1 ≤ w0.heap.size := by rw [← hw0]; simp
 have C := h.below hB B0
 have G : w.grownBy w0 (some g) := grown_below B0 (some g)
 clear h B0
 go_enter Tryz.func33, Tryz.ntmps33
 go_wp2_with fail
 clear hw0
 refine (specSafeNew _).mono ?_
 rintro e w1 ⟨rfl, b1⟩
 have s1 := b1.size
 replace V := V.up b1
 replace Z := Z.up b1
 replace C := C.below (by omega) b1
 replace G := grown_trans G (grown_below b1 (some g))
 clear b1
 have X := loc_at w1 #[.int .i64 0, .int .i64 0, .int .i64 0, .string ⟨#[]⟩, .slice none 0 0, .string ⟨#[]⟩] 30 rfl
 have bx := qalloc w1 (.cells #[.int .i64 0, .int .i64 0, .int .i64 0, .string ⟨#[]⟩, .slice none 0 0, .string ⟨#[]⟩] 30)
 have P : Hid (∃ (vo lo v : Int) (s : ByteArray) (u : Value) (d : ByteArray) (xs : List Int), s.size ≤ 8001 ∧ d.size ≤ 8001 ∧ xs.length ≤ 9 ∧ w1.heap.size + 1 ≤ (w1.alloc (.cells #[.int .i64 0, .int .i64 0, .int .i64 0, .string ⟨#[]⟩, .slice none 0 0, .string ⟨#[]⟩] 30)).heap.size ∧ Loc (w1.alloc (.cells #[.int .i64 0, .int .i64 0, .int .i64 0, .string ⟨#[]⟩, .slice none 0 0, .string ⟨#[]⟩] 30)) w1.heap.size #[.int .i64 vo, .int .i64 lo, .int .i64 v, .string s, u, .string d] ∧ OI (w1.alloc (.cells #[.int .i64 0, .int .i64 0, .int .i64 0, .string ⟨#[]⟩, .slice none 0 0, .string ⟨#[]⟩] 30)) (w.heap.size + 1 + 1) u xs ∧ (∀ j, u.ownBlock = some j → j ≠ w1.heap.size) ∧ Loc (w1.alloc (.cells #[.int .i64 0, .int .i64 0, .int .i64 0, .string ⟨#[]⟩, .slice none 0 0, .string ⟨#[]⟩] 30)) w.heap.size #[.int .i64 n, .int .i64 f] ∧ Loc (w1.alloc (.cells #[.int .i64 0, .int .i64 0, .int .i64 0, .string ⟨#[]⟩, .slice none 0 0, .string ⟨#[]⟩] 30)) (w.heap.size + 1) #[.int .i64 0, .int .i64 0, .int .i64 0, .string ⟨#[]⟩, .slice none 0 0, .string ⟨#[]⟩] ∧ Cur (w1.alloc (.cells #[.int .i64 0, .int .i64 0, .int .i64 0, .string ⟨#[]⟩, .slice none 0 0, .string ⟨#[]⟩] 30)) base g ao ca zs ∧ w.grownBy (w1.alloc (.cells #[.int .i64 0, .int .i64 0, .int .i64 0, .string ⟨#[]⟩, .slice none 0 0, .string ⟨#[]⟩] 30)) (some g)) := hide ⟨0, 0, 0, ⟨#[]⟩, .slice none 0 0, ⟨#[]⟩, [], by decide, by decide, by decide, by simp, X, World.ownsRow_nil _ _ _ _, fun j hj => by simp [Value.ownBlock] at hj, V.up bx, Z.up bx, C.below (by omega) bx, grown_trans G (grown_below bx (some g))⟩
 clear X bx V Z C G
 go_wp2
 go_loopw [6] (fun i wr => ∃ (k : Nat), k ≤ 4 ∧ i = .int .i64 k ∧ ∃ (vo lo v : Int) (s : ByteArray) (u : Value) (d : ByteArray) (xs : List Int), s.size ≤ 8001 ∧ d.size ≤ 8001 ∧ xs.length ≤ 9 ∧ w1.heap.size + 1 ≤ wr.heap.size ∧ Loc wr w1.heap.size #[.int .i64 vo, .int .i64 lo, .int .i64 v, .string s, u, .string d] ∧ OI wr (w.heap.size + 1 + 1) u xs ∧ (∀ j, u.ownBlock = some j → j ≠ w1.heap.size) ∧ Loc wr w.heap.size #[.int .i64 n, .int .i64 f] ∧ Loc wr (w.heap.size + 1) #[.int .i64 0, .int .i64 0, .int .i64 0, .string ⟨#[]⟩, .slice none 0 0, .string ⟨#[]⟩] ∧ Cur wr base g ao ca zs ∧ w.grownBy wr (some g)) (fun i _ => 5 - (intOf i).toNat)
 case atStart => exact ⟨0, by omega, rfl, P.out⟩
 case round =>
  clear P
  obtain ⟨k, hk, rfl, vo, lo, v, s, u, d, xs, hs, hd, hl, hwz, X, O, hne, V, Z, C, G⟩ := hrel
  have tO : ∀ j, u.ownBlock = some j → w.heap.size + 1 + 1 ≤ j ∧ j ≠ w1.heap.size := fun j hj => ⟨(World.ownsRow.lt O j hj).1, hne j hj⟩
  obtain ⟨sa, sc, rfl⟩ := O.form
  obtain ⟨sl, hsl⟩ : ∃ l, xs.length = l := ⟨_, rfl⟩
  rw [hsl] at X O tO hl
  clear hne
  go_wp2_with fail
  refine (below_any base g ca ao zs 5 _ (by omega) (by omega) (by omega) C).mono ?_
  rintro e w2 ⟨n5, rfl, _, n51, c1, e1⟩
  have s2 := e1.size
  replace V := V.grown e1 (by omega)
  replace Z := Z.grown e1 (by omega)
  replace X := X.grown e1 (by omega)
  replace O := O.drawn e1 (by omega)
  replace G := grown_trans G e1
  replace C := c1
  clear c1 e1
  by_cases hkn : (k : Int) < n5
  ·have vv0 := V.cell 0 rfl
   have vv1 := V.cell 1 rfl
   go_wp2_with fail
   refine (drawBlkR base g ca ao zs n f _ (by omega) hn0 hn1 C).mono ?_
   rintro e w3 ⟨m, v', s', ub, ys, rfl, hm, hv, hs', hl', hw', Y1, c1, e1⟩
   have s3 := e1.size
   clear vv0 vv1
   replace V := V.grown e1 (by omega)
   replace Z := Z.grown e1 (by omega)
   replace X := X.grown e1 (by omega)
   replace O := O.drawn e1 (by omega)
   replace G := grown_trans G e1
   replace C := c1
   clear c1 e1
   have tY1 := World.ownsRow.lt Y1
   obtain ⟨ba, bc, rfl⟩ := Y1.form
   obtain ⟨bk, hbk⟩ : ∃ k, ys.length = k := ⟨_, rfl⟩
   rw [hbk] at Y1 tY1 ⊢
   obtain ⟨w4, hw4⟩ : ∃ y, w3.alloc (.cells #[.string m, .int .i64 v', .string s', .slice ba bk bc] 93) = y := ⟨_, rfl⟩
   have bb : Below w3.heap.size w3 w4 := hw4 ▸ qalloc _ _
   have Y : Loc w4 w3.heap.size #[.string m, .int .i64 v', .string s', .slice ba bk bc] := hw4 ▸ loc_at w3 _ _ rfl
   have s4 : w3.heap.size + 1 ≤ w4.heap.size := by rw [← hw4]; simp
   replace V := V.up bb
   replace Z := Z.up bb
   replace X := X.up bb
   replace O := O.below bb
   replace Y1 := Y1.below bb
   replace C := C.below (by omega) bb
   replace G := grown_trans G (grown_below bb (some g))
   clear bb
   have SE := hide fun w' h h' => specSeeD n f vo lo v s sa sc xs d v' s' ba bc ys w' hs hd hs' (by omega) (by omega) h h'
   rw [hsl, hbk] at SE
   have vv0 := V.cell 0 rfl
   have vv1 := V.cell 1 rfl
   have x0 := X.cell 0 rfl
   have x1 := X.cell 1 rfl
   have x2 := X.cell 2 rfl
   have x3 := X.cell 3 rfl
   have x4 := X.cell 4 rfl
   have x5 := X.cell 5 rfl
   have y0 := Y.cell 0 rfl
   have y1 := Y.cell 1 rfl
   have y2 := Y.cell 2 rfl
   have y3 := Y.cell 3 rfl
   go_wp2_with fail
   clear hw4
   refine (SE.out _ (O.ri (by omega)) (Y1.ri (by omega))).mono ?_
   rintro e w5 ⟨l1, v1, t1, u1, e1', z1, rfl, ht1, he1, hz1, O1, b1⟩
   have s5 := b1.size
   clear SE vv0 vv1 x0 x1 x2 x3 x4 x5 y0 y1 y2 y3
   replace V := V.up b1
   replace Z := Z.up b1
   replace X := X.up b1
   replace Y := Y.up b1
   replace O := O.below b1
   replace Y1 := Y1.below b1
   replace C := C.below (by omega) b1
   replace G := grown_trans G (grown_below b1 (some g))
   clear b1
   have tO1 := World.ownsRow.lt O1
   obtain ⟨ca1, cc, rfl⟩ := O1.form
   obtain ⟨ck, hck⟩ : ∃ k, z1.length = k := ⟨_, rfl⟩
   rw [hck] at O1 tO1 ⊢
   clear O tO
   have p0 := X.cell 0 rfl
   have p1 := X.cell 1 rfl
   have p2 := X.cell 2 rfl
   have p3 := X.cell 3 rfl
   have p4 := X.cell 4 rfl
   have p5 := X.cell 5 rfl
   have fp := X.frozen
   go_upto_region 7 with fail
   clear fp p0 p1 p2 p3 p4 p5
   obtain ⟨w6, hw6⟩ : ∃ y, ((((((w5.setCell ⟨w1.heap.size, 0, none⟩ (.int .i64 vo)).setCell ⟨w1.heap.size, 1, none⟩ (.int .i64 l1)).setCell ⟨w1.heap.size, 2, none⟩ (.int .i64 v1)).setCell ⟨w1.heap.size, 3, none⟩ (.string t1)).setCell ⟨w1.heap.size, 4, none⟩ (.slice ca1 ck cc)).setCell ⟨w1.heap.size, 5, none⟩ (.string e1')) = y := ⟨_, rfl⟩
   have kN : Kp w5 w6 (fun k => k = w1.heap.size) := hw6 ▸ (((((set_kp _ _ _ _).trans (set_kp _ _ _ _)).trans (set_kp _ _ _ _)).trans (set_kp _ _ _ _)).trans (set_kp _ _ _ _)).trans (set_kp _ _ _ _)
   replace X : Loc w6 (w1.heap.size) #[.int .i64 vo, .int .i64 l1, .int .i64 v1, .string t1, .slice ca1 ck cc, .string e1'] := hw6 ▸ ((((((X.set 0 _ rfl).set 1 _ rfl).set 2 _ rfl).set 3 _ rfl).set 4 _ rfl).set 5 _ rfl)
   replace C : Cur w6 base g ao ca zs := hw6 ▸ ((((((C.set (by omega) _ _).set (by omega) _ _).set (by omega) _ _).set (by omega) _ _).set (by omega) _ _).set (by omega) _ _)
   replace G : w.grownBy w6 (some g) := hw6 ▸ (grown_set (grown_set (grown_set (grown_set (grown_set (grown_set G (by omega) _ _) (by omega) _ _) (by omega) _ _) (by omega) _ _) (by omega) _ _) (by omega) _ _)
   replace V := V.kp kN (by omega)
   replace Z := Z.kp kN (by omega)
   replace Y := Y.kp kN (by omega)
   replace Y1 := Y1.kp kN (fun j hj e => by have := tY1 j hj; omega)
   replace O1 := O1.kp kN (fun j hj e => by have := tO1 j hj; omega)
   have s6 := kN.size
   rw [hw6]
   clear hw6 kN
   go_wp2_with fail
   refine (once_any base g ca ao zs 3 _ (by omega) (by omega) (by omega) C).mono ?_
   rintro e w7 ⟨b, rfl, c1, e1⟩
   have s7 := e1.size
   replace V := V.grown e1 (by omega)
   replace Z := Z.grown e1 (by omega)
   replace X := X.grown e1 (by omega)
   replace Y := Y.grown e1 (by omega)
   replace Y1 := Y1.drawn e1 (by omega)
   replace O1 := O1.drawn e1 (by omega)
   replace G := grown_trans G e1
   replace C := c1
   clear c1 e1
   cases b
   ·have VT := hide fun w' h h' => specVoteD n f vo l1 v1 t1 ca1 cc z1 e1' m v' s' ba bc ys w' ht1 he1 hm hs' h h'
    rw [hck, hbk] at VT
    have vv0 := V.cell 0 rfl
    have vv1 := V.cell 1 rfl
    have x0 := X.cell 0 rfl
    have x1 := X.cell 1 rfl
    have x2 := X.cell 2 rfl
    have x3 := X.cell 3 rfl
    have x4 := X.cell 4 rfl
    have x5 := X.cell 5 rfl
    have y0 := Y.cell 0 rfl
    have y1 := Y.cell 1 rfl
    have y2 := Y.cell 2 rfl
    have y3 := Y.cell 3 rfl
    go_wp2_with fail
    refine (VT.out _ (O1.ri (by omega)) (Y1.ri (by omega))).mono ?_
    rintro e w8 ⟨vo2, u2, q2, rfl, O2, b1⟩
    have s8 := b1.size
    clear VT vv0 vv1 x0 x1 x2 x3 x4 x5 y0 y1 y2 y3
    replace V := V.up b1
    replace Z := Z.up b1
    replace X := X.up b1
    replace Y := Y.up b1
    replace Y1 := Y1.below b1
    replace O1 := O1.below b1
    replace C := C.below (by omega) b1
    replace G := grown_trans G (grown_below b1 (some g))
    clear b1
    have tO2 := World.ownsRow.lt O2
    obtain ⟨ea, ec, rfl⟩ := O2.form
    rw [hck] at O2 tO2 ⊢
    clear O1 tO1
    have kN : Kp w8 ((((((w8.setCell ⟨w1.heap.size, 0, none⟩ (.int .i64 vo2)).setCell ⟨w1.heap.size, 1, none⟩ (.int .i64 l1)).setCell ⟨w1.heap.size, 2, none⟩ (.int .i64 v1)).setCell ⟨w1.heap.size, 3, none⟩ (.string t1)).setCell ⟨w1.heap.size, 4, none⟩ (.slice ea ck ec)).setCell ⟨w1.heap.size, 5, none⟩ (.string e1')) (fun k => k = w1.heap.size) := (((((set_kp _ _ _ _).trans (set_kp _ _ _ _)).trans (set_kp _ _ _ _)).trans (set_kp _ _ _ _)).trans (set_kp _ _ _ _)).trans (set_kp _ _ _ _)
    have zN := kN.size
    have P := hide (show ∃ (vo lo v : Int) (s : ByteArray) (u : Value) (d : ByteArray) (xs : List Int), s.size ≤ 8001 ∧ d.size ≤ 8001 ∧ xs.length ≤ 9 ∧ w1.heap.size + 1 ≤ (((((((w8.setCell ⟨w1.heap.size, 0, none⟩ (.int .i64 vo2)).setCell ⟨w1.heap.size, 1, none⟩ (.int .i64 l1)).setCell ⟨w1.heap.size, 2, none⟩ (.int .i64 v1)).setCell ⟨w1.heap.size, 3, none⟩ (.string t1)).setCell ⟨w1.heap.size, 4, none⟩ (.slice ea ck ec)).setCell ⟨w1.heap.size, 5, none⟩ (.string e1'))).heap.size ∧ Loc (((((((w8.setCell ⟨w1.heap.size, 0, none⟩ (.int .i64 vo2)).setCell ⟨w1.heap.size, 1, none⟩ (.int .i64 l1)).setCell ⟨w1.heap.size, 2, none⟩ (.int .i64 v1)).setCell ⟨w1.heap.size, 3, none⟩ (.string t1)).setCell ⟨w1.heap.size, 4, none⟩ (.slice ea ck ec)).setCell ⟨w1.heap.size, 5, none⟩ (.string e1'))) w1.heap.size #[.int .i64 vo, .int .i64 lo, .int .i64 v, .string s, u, .string d] ∧ OI (((((((w8.setCell ⟨w1.heap.size, 0, none⟩ (.int .i64 vo2)).setCell ⟨w1.heap.size, 1, none⟩ (.int .i64 l1)).setCell ⟨w1.heap.size, 2, none⟩ (.int .i64 v1)).setCell ⟨w1.heap.size, 3, none⟩ (.string t1)).setCell ⟨w1.heap.size, 4, none⟩ (.slice ea ck ec)).setCell ⟨w1.heap.size, 5, none⟩ (.string e1'))) (w.heap.size + 1 + 1) u xs ∧ (∀ j, u.ownBlock = some j → j ≠ w1.heap.size) ∧ Loc (((((((w8.setCell ⟨w1.heap.size, 0, none⟩ (.int .i64 vo2)).setCell ⟨w1.heap.size, 1, none⟩ (.int .i64 l1)).setCell ⟨w1.heap.size, 2, none⟩ (.int .i64 v1)).setCell ⟨w1.heap.size, 3, none⟩ (.string t1)).setCell ⟨w1.heap.size, 4, none⟩ (.slice ea ck ec)).setCell ⟨w1.heap.size, 5, none⟩ (.string e1'))) w.heap.size #[.int .i64 n, .int .i64 f] ∧ Loc (((((((w8.setCell ⟨w1.heap.size, 0, none⟩ (.int .i64 vo2)).setCell ⟨w1.heap.size, 1, none⟩ (.int .i64 l1)).setCell ⟨w1.heap.size, 2, none⟩ (.int .i64 v1)).setCell ⟨w1.heap.size, 3, none⟩ (.string t1)).setCell ⟨w1.heap.size, 4, none⟩ (.slice ea ck ec)).setCell ⟨w1.heap.size, 5, none⟩ (.string e1'))) (w.heap.size + 1) #[.int .i64 0, .int .i64 0, .int .i64 0, .string ⟨#[]⟩, .slice none 0 0, .string ⟨#[]⟩] ∧ Cur (((((((w8.setCell ⟨w1.heap.size, 0, none⟩ (.int .i64 vo2)).setCell ⟨w1.heap.size, 1, none⟩ (.int .i64 l1)).setCell ⟨w1.heap.size, 2, none⟩ (.int .i64 v1)).setCell ⟨w1.heap.size, 3, none⟩ (.string t1)).setCell ⟨w1.heap.size, 4, none⟩ (.slice ea ck ec)).setCell ⟨w1.heap.size, 5, none⟩ (.string e1'))) base g ao ca zs ∧ w.grownBy (((((((w8.setCell ⟨w1.heap.size, 0, none⟩ (.int .i64 vo2)).setCell ⟨w1.heap.size, 1, none⟩ (.int .i64 l1)).setCell ⟨w1.heap.size, 2, none⟩ (.int .i64 v1)).setCell ⟨w1.heap.size, 3, none⟩ (.string t1)).setCell ⟨w1.heap.size, 4, none⟩ (.slice ea ck ec)).setCell ⟨w1.heap.size, 5, none⟩ (.string e1'))) (some g) from ⟨vo2, l1, v1, t1, .slice ea ck ec, e1', z1, ht1, he1, (by omega), (by omega), ((((((X.set 0 _ rfl).set 1 _ rfl).set 2 _ rfl).set 3 _ rfl).set 4 _ rfl).set 5 _ rfl), (O2.kp kN (fun j hj e => by have := tO2 j hj; omega)).mono (by omega), (fun j hj => by have := tO2 j hj; omega), V.kp kN (by omega), Z.kp kN (by omega), ((((((C.set (by omega) _ _).set (by omega) _ _).set (by omega) _ _).set (by omega) _ _).set (by omega) _ _).set (by omega) _ _), (grown_set (grown_set (grown_set (grown_set (grown_set (grown_set G (by omega) _ _) (by omega) _ _) (by omega) _ _) (by omega) _ _) (by omega) _ _) (by omega) _ _)⟩)
    have x0 := X.cell 0 rfl
    have x1 := X.cell 1 rfl
    have x2 := X.cell 2 rfl
    have x3 := X.cell 3 rfl
    have x4 := X.cell 4 rfl
    have x5 := X.cell 5 rfl
    have fx := X.frozen
    clear kN zN tO2 tY1 C G V Z X Y Y1 O2
    go_wp2
    go_roundw
    case rel => exact ⟨k + 1, by omega, by go_num, P.out⟩
    case measure => simp [intOf]; omega
   ·have P := hide (show ∃ (vo lo v : Int) (s : ByteArray) (u : Value) (d : ByteArray) (xs : List Int), s.size ≤ 8001 ∧ d.size ≤ 8001 ∧ xs.length ≤ 9 ∧ w1.heap.size + 1 ≤ (w7).heap.size ∧ Loc (w7) w1.heap.size #[.int .i64 vo, .int .i64 lo, .int .i64 v, .string s, u, .string d] ∧ OI (w7) (w.heap.size + 1 + 1) u xs ∧ (∀ j, u.ownBlock = some j → j ≠ w1.heap.size) ∧ Loc (w7) w.heap.size #[.int .i64 n, .int .i64 f] ∧ Loc (w7) (w.heap.size + 1) #[.int .i64 0, .int .i64 0, .int .i64 0, .string ⟨#[]⟩, .slice none 0 0, .string ⟨#[]⟩] ∧ Cur (w7) base g ao ca zs ∧ w.grownBy (w7) (some g) from ⟨vo, l1, v1, t1, .slice ca1 ck cc, e1', z1, ht1, he1, (by omega), (by omega), X, O1.mono (by omega), (fun j hj => by have := tO1 j hj; omega), V, Z, C, G⟩)
    clear tO1 tY1 C G V Z X Y Y1 O1
    go_wp2
    go_roundw
    case rel => exact ⟨k + 1, by omega, by go_num, P.out⟩
    case measure => simp [intOf]; omega
  ·have hd' : decide ((k : Int) < n5) = false := by simpa using hkn
   have kR : Kp w2 ((((((w2.setCell ⟨w.heap.size + 1, 0, none⟩ (.int .i64 vo)).setCell ⟨w.heap.size + 1, 1, none⟩ (.int .i64 lo)).setCell ⟨w.heap.size + 1, 2, none⟩ (.int .i64 v)).setCell ⟨w.heap.size + 1, 3, none⟩ (.string s)).setCell ⟨w.heap.size + 1, 4, none⟩ (.slice sa sl sc)).setCell ⟨w.heap.size + 1, 5, none⟩ (.string d)) (fun k => k = w.heap.size + 1) := (((((set_kp _ _ _ _).trans (set_kp _ _ _ _)).trans (set_kp _ _ _ _)).trans (set_kp _ _ _ _)).trans (set_kp _ _ _ _)).trans (set_kp _ _ _ _)
   have R := hide (And.intro ((O.kp kR (fun j hj e => by have := tO j hj; omega)).mono (show w.heap.size ≤ _ by omega)) (And.intro ((((((C.set (r := w.heap.size + 1) (by omega) 0 (.int .i64 vo)).set (r := w.heap.size + 1) (by omega) 1 (.int .i64 lo)).set (r := w.heap.size + 1) (by omega) 2 (.int .i64 v)).set (r := w.heap.size + 1) (by omega) 3 (.string s)).set (r := w.heap.size + 1) (by omega) 4 (.slice sa sl sc)).set (r := w.heap.size + 1) (by omega) 5 (.string d)) (grown_set (grown_set (grown_set (grown_set (grown_set (grown_set G (r := w.heap.size + 1) (by omega) 0 (.int .i64 vo)) (r := w.heap.size + 1) (by omega) 1 (.int .i64 lo)) (r := w.heap.size + 1) (by omega) 2 (.int .i64 v)) (r := w.heap.size + 1) (by omega) 3 (.string s)) (r := w.heap.size + 1) (by omega) 4 (.slice sa sl sc)) (r := w.heap.size + 1) (by omega) 5 (.string d))))
   have x0 := X.cell 0 rfl
   have x1 := X.cell 1 rfl
   have x2 := X.cell 2 rfl
   have x3 := X.cell 3 rfl
   have x4 := X.cell 4 rfl
   have x5 := X.cell 5 rfl
   have z0 := Z.cell 0 rfl
   have z1 := Z.cell 1 rfl
   have z2 := Z.cell 2 rfl
   have z3 := Z.cell 3 rfl
   have z4 := Z.cell 4 rfl
   have z5 := Z.cell 5 rfl
   have fz := Z.frozen
   clear kR C G V Z X O
   go_wp2
   refine bodyPost_ret (v := sv vo lo v s (.slice sa sl sc) d) (by simp [results, Tryz.results33, go_sem, z0, z1, z2, z3, z4, z5]) rfl ?_
   exact ⟨_, _, _, _, _, _, xs, rfl, hs, hd, (by omega), R.out⟩

theorem drawSafe (base g ca : Nat) (ao : Option Addr) (zs : List Int) (n f : Int) (w : World) (hB : base ≤ w.heap.size) (hn0 : 4 ≤ n) (hn1 : n ≤ 7) (h : Cur w base g ao ca zs) :
 Calls Tryz.prog 60 #[.pointer (some ⟨g, 0, none⟩), cv n f] w fun e w' => ∃ (vo lo v : Int) (s : ByteArray) (u : Value) (d : ByteArray) (xs : List Int), e = .returned (sv vo lo v s u d) ∧ s.size ≤ 8001 ∧ d.size ≤ 8001 ∧ xs.length ≤ 9 ∧ OI w' w.heap.size u xs ∧ Cur w' base g ao ca zs ∧ w.grownBy w' (some g) := by
 have hlt := h.lt
 obtain ⟨w0, hw0⟩ : ∃ w0, (w.alloc (.cells #[.int .i64 n, .int .i64 f] 25)).alloc (.cells #[.int .i64 0, .int .i64 0, .int .i64 0, .string ⟨#[]⟩, .slice none 0 0, .string ⟨#[]⟩] 30) = w0 := ⟨_, rfl⟩
 have B0 : Below w.heap.size w w0 := hw0 ▸ qalloc2 _ _ _
 have V : Loc w0 w.heap.size #[.int .i64 n, .int .i64 f] := hw0 ▸ (loc_at w _ _ rfl).alloc _
 have Z : Loc w0 (w.heap.size + 1) #[.int .i64 0, .int .i64 0, .int .i64 0, .string ⟨#[]⟩, .slice none 0 0, .string ⟨#[]⟩] := hw0 ▸ loc_at (w.alloc _) _ _ (by simp)
 have s0 : w.heap.size + 1 + 1 ≤ w0.heap.size := by rw [← hw0]; simp
 have C := h.below hB B0
 have G : w.grownBy w0 (some g) := grown_below B0 (some g)
 clear h B0
 go_enter Tryz.func60, Tryz.ntmps60
 have vv0 := V.cell 0 rfl
 have vv1 := V.cell 1 rfl
 go_wp2_with fail
 clear hw0
 refine (drawSafeR base g ca ao zs n f _ (by omega) hn0 hn1 C).mono ?_
 rintro e w1 ⟨vo, lo, v, s, u, d, xs, rfl, hs, hd, hl, O, c1, e1⟩
 have s1 := e1.size
 clear vv0 vv1
 replace V := V.grown e1 (by omega)
 replace Z := Z.grown e1 (by omega)
 replace G := grown_trans G e1
 replace C := c1
 clear c1 e1
 have tO := World.ownsRow.lt O
 obtain ⟨ua, uc, rfl⟩ := O.form
 obtain ⟨uk, huk⟩ : ∃ k, xs.length = k := ⟨_, rfl⟩
 rw [huk] at O tO ⊢
 obtain ⟨w2, hw2⟩ : ∃ y, w1.alloc (.cells #[.int .i64 vo, .int .i64 lo, .int .i64 v, .string s, .slice ua uk uc, .string d] 30) = y := ⟨_, rfl⟩
 have bb : Below w1.heap.size w1 w2 := hw2 ▸ qalloc _ _
 have X : Loc w2 w1.heap.size #[.int .i64 vo, .int .i64 lo, .int .i64 v, .string s, .slice ua uk uc, .string d] := hw2 ▸ loc_at w1 _ _ rfl
 have s2 : w1.heap.size + 1 ≤ w2.heap.size := by rw [← hw2]; simp
 replace V := V.up bb
 replace Z := Z.up bb
 replace O := O.below bb
 replace C := C.below (by omega) bb
 replace G := grown_trans G (grown_below bb (some g))
 clear bb
 go_wp2_with fail
 clear hw2
 refine (below_any base g ca ao zs 10 _ (by omega) (by omega) (by omega) C).mono ?_
 rintro e w3 ⟨j, rfl, j0, j1, c1, e1⟩
 have s3 := e1.size
 replace V := V.grown e1 (by omega)
 replace Z := Z.grown e1 (by omega)
 replace X := X.grown e1 (by omega)
 replace O := O.drawn e1 (by omega)
 replace G := grown_trans G e1
 replace C := c1
 clear c1 e1
 by_cases h0 : j = 0
 ·subst h0
  go_wp2_with fail
  refine (pickInt_lit base g ca ao zs [-1, 60, 61] _ (by omega) (by decide) (by decide) C).mono ?_
  rintro e w4 ⟨vo2, rfl, _, c1, e1⟩
  have s4 := e1.size
  replace V := V.grown e1 (by omega)
  replace Z := Z.grown e1 (by omega)
  replace X := X.grown e1 (by omega)
  replace O := O.drawn e1 (by omega)
  replace G := grown_trans G e1
  replace C := c1
  clear c1 e1
  have p0 := X.cell 0 rfl
  have p1 := X.cell 1 rfl
  have p2 := X.cell 2 rfl
  have p3 := X.cell 3 rfl
  have p4 := X.cell 4 rfl
  have p5 := X.cell 5 rfl
  have fp := X.frozen
  go_upto_region 11 with fail
  clear fp p0 p1 p2 p3 p4 p5
  obtain ⟨w5, hw5⟩ : ∃ y, (w4.setCell ⟨w1.heap.size, 0, none⟩ (.int .i64 vo2)) = y := ⟨_, rfl⟩
  have kN : Kp w4 w5 (fun k => k = w1.heap.size) := hw5 ▸ set_kp _ _ _ _
  replace X : Loc w5 (w1.heap.size) #[.int .i64 vo2, .int .i64 lo, .int .i64 v, .string s, .slice ua uk uc, .string d] := hw5 ▸ (X.set 0 _ rfl)
  replace C : Cur w5 base g ao ca zs := hw5 ▸ (C.set (by omega) _ _)
  replace G : w.grownBy w5 (some g) := hw5 ▸ (grown_set G (by omega) _ _)
  replace V := V.kp kN (by omega)
  replace Z := Z.kp kN (by omega)
  replace O := O.kp kN (fun j hj e => by have := tO j hj; omega)
  have s5 := kN.size
  rw [hw5]
  clear hw5 kN
  have kR : Kp w5 ((((((w5.setCell ⟨w.heap.size + 1, 0, none⟩ (.int .i64 vo2)).setCell ⟨w.heap.size + 1, 1, none⟩ (.int .i64 lo)).setCell ⟨w.heap.size + 1, 2, none⟩ (.int .i64 v)).setCell ⟨w.heap.size + 1, 3, none⟩ (.string s)).setCell ⟨w.heap.size + 1, 4, none⟩ (.slice ua uk uc)).setCell ⟨w.heap.size + 1, 5, none⟩ (.string d)) (fun k => k = w.heap.size + 1) := (((((set_kp _ _ _ _).trans (set_kp _ _ _ _)).trans (set_kp _ _ _ _)).trans (set_kp _ _ _ _)).trans (set_kp _ _ _ _)).trans (set_kp _ _ _ _)
  have R := hide (And.intro ((O.kp kR (fun j hj e => by have := tO j hj; omega)).mono (show w.heap.size ≤ _ by omega)) (And.intro ((((((C.set (r := w.heap.size + 1) (by omega) 0 (.int .i64 vo2)).set (r := w.heap.size + 1) (by omega) 1 (.int .i64 lo)).set (r := w.heap.size + 1) (by omega) 2 (.int .i64 v)).set (r := w.heap.size + 1) (by omega) 3 (.string s)).set (r := w.heap.size + 1) (by omega) 4 (.slice ua uk uc)).set (r := w.heap.size + 1) (by omega) 5 (.string d)) (grown_set (grown_set (grown_set (grown_set (grown_set (grown_set G (r := w.heap.size + 1) (by omega) 0 (.int .i64 vo2)) (r := w.heap.size + 1) (by omega) 1 (.int .i64 lo)) (r := w.heap.size + 1) (by omega) 2 (.int .i64 v)) (r := w.heap.size + 1) (by omega) 3 (.string s)) (r := w.heap.size + 1) (by omega) 4 (.slice ua uk uc)) (r := w.heap.size + 1) (by omega) 5 (.string d))))
  have x0 := X.cell 0 rfl
  have x1 := X.cell 1 rfl
  have x2 := X.cell 2 rfl
  have x3 := X.cell 3 rfl
  have x4 := X.cell 4 rfl
  have x5 := X.cell 5 rfl
  have z0 := Z.cell 0 rfl
  have z1 := Z.cell 1 rfl
  have z2 := Z.cell 2 rfl
  have z3 := Z.cell 3 rfl
  have z4 := Z.cell 4 rfl
  have z5 := Z.cell 5 rfl
  have fz := Z.frozen
  clear kR C G V Z X O
  go_wp2
  refine bodyPost_ret (v := sv (vo2) (lo) (v) (s) (.slice ua uk uc) (d)) (by simp [results, Tryz.results60, go_sem, z0, z1, z2, z3, z4, z5]) rfl ?_
  exact ⟨_, _, _, _, _, _, xs, rfl, hs, hd, (by omega), R.out⟩
 ·have n0 : (j == 0) = false := by simp [h0]
  by_cases h1 : j = 1
  ·subst h1
   go_wp2_with fail
   refine (pickInt_lit base g ca ao zs [-1, 0, 60, 61] _ (by omega) (by decide) (by decide) C).mono ?_
   rintro e w4 ⟨lo2, rfl, _, c1, e1⟩
   have s4 := e1.size
   replace V := V.grown e1 (by omega)
   replace Z := Z.grown e1 (by omega)
   replace X := X.grown e1 (by omega)
   replace O := O.drawn e1 (by omega)
   replace G := grown_trans G e1
   replace C := c1
   clear c1 e1
   have p0 := X.cell 0 rfl
   have p1 := X.cell 1 rfl
   have p2 := X.cell 2 rfl
   have p3 := X.cell 3 rfl
   have p4 := X.cell 4 rfl
   have p5 := X.cell 5 rfl
   have fp := X.frozen
   go_upto_region 11 with fail
   clear fp p0 p1 p2 p3 p4 p5
   obtain ⟨w5, hw5⟩ : ∃ y, (w4.setCell ⟨w1.heap.size, 1, none⟩ (.int .i64 lo2)) = y := ⟨_, rfl⟩
   have kN : Kp w4 w5 (fun k => k = w1.heap.size) := hw5 ▸ set_kp _ _ _ _
   replace X : Loc w5 (w1.heap.size) #[.int .i64 vo, .int .i64 lo2, .int .i64 v, .string s, .slice ua uk uc, .string d] := hw5 ▸ (X.set 1 _ rfl)
   replace C : Cur w5 base g ao ca zs := hw5 ▸ (C.set (by omega) _ _)
   replace G : w.grownBy w5 (some g) := hw5 ▸ (grown_set G (by omega) _ _)
   replace V := V.kp kN (by omega)
   replace Z := Z.kp kN (by omega)
   replace O := O.kp kN (fun j hj e => by have := tO j hj; omega)
   have s5 := kN.size
   rw [hw5]
   clear hw5 kN
   have kR : Kp w5 ((((((w5.setCell ⟨w.heap.size + 1, 0, none⟩ (.int .i64 vo)).setCell ⟨w.heap.size + 1, 1, none⟩ (.int .i64 lo2)).setCell ⟨w.heap.size + 1, 2, none⟩ (.int .i64 v)).setCell ⟨w.heap.size + 1, 3, none⟩ (.string s)).setCell ⟨w.heap.size + 1, 4, none⟩ (.slice ua uk uc)).setCell ⟨w.heap.size + 1, 5, none⟩ (.string d)) (fun k => k = w.heap.size + 1) := (((((set_kp _ _ _ _).trans (set_kp _ _ _ _)).trans (set_kp _ _ _ _)).trans (set_kp _ _ _ _)).trans (set_kp _ _ _ _)).trans (set_kp _ _ _ _)
   have R := hide (And.intro ((O.kp kR (fun j hj e => by have := tO j hj; omega)).mono (show w.heap.size ≤ _ by omega)) (And.intro ((((((C.set (r := w.heap.size + 1) (by omega) 0 (.int .i64 vo)).set (r := w.heap.size + 1) (by omega) 1 (.int .i64 lo2)).set (r := w.heap.size + 1) (by omega) 2 (.int .i64 v)).set (r := w.heap.size + 1) (by omega) 3 (.string s)).set (r := w.heap.size + 1) (by omega) 4 (.slice ua uk uc)).set (r := w.heap.size + 1) (by omega) 5 (.string d)) (grown_set (grown_set (grown_set (grown_set (grown_set (grown_set G (r := w.heap.size + 1) (by omega) 0 (.int .i64 vo)) (r := w.heap.size + 1) (by omega) 1 (.int .i64 lo2)) (r := w.heap.size + 1) (by omega) 2 (.int .i64 v)) (r := w.heap.size + 1) (by omega) 3 (.string s)) (r := w.heap.size + 1) (by omega) 4 (.slice ua uk uc)) (r := w.heap.size + 1) (by omega) 5 (.string d))))
   have x0 := X.cell 0 rfl
   have x1 := X.cell 1 rfl
   have x2 := X.cell 2 rfl
   have x3 := X.cell 3 rfl
   have x4 := X.cell 4 rfl
   have x5 := X.cell 5 rfl
   have z0 := Z.cell 0 rfl
   have z1 := Z.cell 1 rfl
   have z2 := Z.cell 2 rfl
   have z3 := Z.cell 3 rfl
   have z4 := Z.cell 4 rfl
   have z5 := Z.cell 5 rfl
   have fz := Z.frozen
   clear kR C G V Z X O
   go_wp2
   refine bodyPost_ret (v := sv (vo) (lo2) (v) (s) (.slice ua uk uc) (d)) (by simp [results, Tryz.results60, go_sem, z0, z1, z2, z3, z4, z5]) rfl ?_
   exact ⟨_, _, _, _, _, _, xs, rfl, hs, hd, (by omega), R.out⟩
  ·have n1 : (j == 1) = false := by simp [h1]
   by_cases h2 : j = 2
   ·subst h2
    go_wp2_with fail
    refine (drawName base g ca ao zs _ (by omega) C).mono ?_
    rintro e w4 ⟨d2, rfl, hd2, c1, e1⟩
    have s4 := e1.size
    replace V := V.grown e1 (by omega)
    replace Z := Z.grown e1 (by omega)
    replace X := X.grown e1 (by omega)
    replace O := O.drawn e1 (by omega)
    replace G := grown_trans G e1
    replace C := c1
    clear c1 e1
    have p0 := X.cell 0 rfl
    have p1 := X.cell 1 rfl
    have p2 := X.cell 2 rfl
    have p3 := X.cell 3 rfl
    have p4 := X.cell 4 rfl
    have p5 := X.cell 5 rfl
    have fp := X.frozen
    go_upto_region 11 with fail
    clear fp p0 p1 p2 p3 p4 p5
    obtain ⟨w5, hw5⟩ : ∃ y, (w4.setCell ⟨w1.heap.size, 5, none⟩ (.string d2)) = y := ⟨_, rfl⟩
    have kN : Kp w4 w5 (fun k => k = w1.heap.size) := hw5 ▸ set_kp _ _ _ _
    replace X : Loc w5 (w1.heap.size) #[.int .i64 vo, .int .i64 lo, .int .i64 v, .string s, .slice ua uk uc, .string d2] := hw5 ▸ (X.set 5 _ rfl)
    replace C : Cur w5 base g ao ca zs := hw5 ▸ (C.set (by omega) _ _)
    replace G : w.grownBy w5 (some g) := hw5 ▸ (grown_set G (by omega) _ _)
    replace V := V.kp kN (by omega)
    replace Z := Z.kp kN (by omega)
    replace O := O.kp kN (fun j hj e => by have := tO j hj; omega)
    have s5 := kN.size
    rw [hw5]
    clear hw5 kN
    have kR : Kp w5 ((((((w5.setCell ⟨w.heap.size + 1, 0, none⟩ (.int .i64 vo)).setCell ⟨w.heap.size + 1, 1, none⟩ (.int .i64 lo)).setCell ⟨w.heap.size + 1, 2, none⟩ (.int .i64 v)).setCell ⟨w.heap.size + 1, 3, none⟩ (.string s)).setCell ⟨w.heap.size + 1, 4, none⟩ (.slice ua uk uc)).setCell ⟨w.heap.size + 1, 5, none⟩ (.string d2)) (fun k => k = w.heap.size + 1) := (((((set_kp _ _ _ _).trans (set_kp _ _ _ _)).trans (set_kp _ _ _ _)).trans (set_kp _ _ _ _)).trans (set_kp _ _ _ _)).trans (set_kp _ _ _ _)
    have R := hide (And.intro ((O.kp kR (fun j hj e => by have := tO j hj; omega)).mono (show w.heap.size ≤ _ by omega)) (And.intro ((((((C.set (r := w.heap.size + 1) (by omega) 0 (.int .i64 vo)).set (r := w.heap.size + 1) (by omega) 1 (.int .i64 lo)).set (r := w.heap.size + 1) (by omega) 2 (.int .i64 v)).set (r := w.heap.size + 1) (by omega) 3 (.string s)).set (r := w.heap.size + 1) (by omega) 4 (.slice ua uk uc)).set (r := w.heap.size + 1) (by omega) 5 (.string d2)) (grown_set (grown_set (grown_set (grown_set (grown_set (grown_set G (r := w.heap.size + 1) (by omega) 0 (.int .i64 vo)) (r := w.heap.size + 1) (by omega) 1 (.int .i64 lo)) (r := w.heap.size + 1) (by omega) 2 (.int .i64 v)) (r := w.heap.size + 1) (by omega) 3 (.string s)) (r := w.heap.size + 1) (by omega) 4 (.slice ua uk uc)) (r := w.heap.size + 1) (by omega) 5 (.string d2))))
    have x0 := X.cell 0 rfl
    have x1 := X.cell 1 rfl
    have x2 := X.cell 2 rfl
    have x3 := X.cell 3 rfl
    have x4 := X.cell 4 rfl
    have x5 := X.cell 5 rfl
    have z0 := Z.cell 0 rfl
    have z1 := Z.cell 1 rfl
    have z2 := Z.cell 2 rfl
    have z3 := Z.cell 3 rfl
    have z4 := Z.cell 4 rfl
    have z5 := Z.cell 5 rfl
    have fz := Z.frozen
    clear kR C G V Z X O
    go_wp2
    refine bodyPost_ret (v := sv (vo) (lo) (v) (s) (.slice ua uk uc) (d2)) (by simp [results, Tryz.results60, go_sem, z0, z1, z2, z3, z4, z5]) rfl ?_
    exact ⟨_, _, _, _, _, _, xs, rfl, hs, hd2, (by omega), R.out⟩
   ·have n2 : (j == 2) = false := by simp [h2]
    by_cases h3 : j = 3
    ·subst h3
     have vv0 := V.cell 0 rfl
     have vv1 := V.cell 1 rfl
     go_wp2_with fail
     refine (drawQcV base g ca ao zs n f _ (by omega) hn0 hn1 C).mono ?_
     rintro e w4 ⟨v2, s2', u2, ys, rfl, _, hs2, hl2, _, P, c1, e1⟩
     have s4 := e1.size
     clear vv0 vv1
     replace V := V.grown e1 (by omega)
     replace Z := Z.grown e1 (by omega)
     replace X := X.grown e1 (by omega)
     replace O := O.drawn e1 (by omega)
     replace G := grown_trans G e1
     replace C := c1
     clear c1 e1
     have tP := World.ownsRow.lt P
     obtain ⟨pa, pc, rfl⟩ := P.form
     obtain ⟨pk, hpk⟩ : ∃ k, ys.length = k := ⟨_, rfl⟩
     rw [hpk] at P tP ⊢
     clear O
     have p0 := X.cell 0 rfl
     have p1 := X.cell 1 rfl
     have p2 := X.cell 2 rfl
     have p3 := X.cell 3 rfl
     have p4 := X.cell 4 rfl
     have p5 := X.cell 5 rfl
     have fp := X.frozen
     go_upto_region 11 with fail
     clear fp p0 p1 p2 p3 p4 p5
     obtain ⟨w5, hw5⟩ : ∃ y, (((w4.setCell ⟨w1.heap.size, 2, none⟩ (.int .i64 v2)).setCell ⟨w1.heap.size, 3, none⟩ (.string s2')).setCell ⟨w1.heap.size, 4, none⟩ (.slice pa pk pc)) = y := ⟨_, rfl⟩
     have kN : Kp w4 w5 (fun k => k = w1.heap.size) := hw5 ▸ ((set_kp _ _ _ _).trans (set_kp _ _ _ _)).trans (set_kp _ _ _ _)
     replace X : Loc w5 (w1.heap.size) #[.int .i64 vo, .int .i64 lo, .int .i64 v2, .string s2', .slice pa pk pc, .string d] := hw5 ▸ (((X.set 2 _ rfl).set 3 _ rfl).set 4 _ rfl)
     replace C : Cur w5 base g ao ca zs := hw5 ▸ (((C.set (by omega) _ _).set (by omega) _ _).set (by omega) _ _)
     replace G : w.grownBy w5 (some g) := hw5 ▸ (grown_set (grown_set (grown_set G (by omega) _ _) (by omega) _ _) (by omega) _ _)
     replace V := V.kp kN (by omega)
     replace Z := Z.kp kN (by omega)
     replace P := P.kp kN (fun j hj e => by have := tP j hj; omega)
     have s5 := kN.size
     rw [hw5]
     clear hw5 kN
     have kR : Kp w5 ((((((w5.setCell ⟨w.heap.size + 1, 0, none⟩ (.int .i64 vo)).setCell ⟨w.heap.size + 1, 1, none⟩ (.int .i64 lo)).setCell ⟨w.heap.size + 1, 2, none⟩ (.int .i64 v2)).setCell ⟨w.heap.size + 1, 3, none⟩ (.string s2')).setCell ⟨w.heap.size + 1, 4, none⟩ (.slice pa pk pc)).setCell ⟨w.heap.size + 1, 5, none⟩ (.string d)) (fun k => k = w.heap.size + 1) := (((((set_kp _ _ _ _).trans (set_kp _ _ _ _)).trans (set_kp _ _ _ _)).trans (set_kp _ _ _ _)).trans (set_kp _ _ _ _)).trans (set_kp _ _ _ _)
     have R := hide (And.intro ((P.kp kR (fun j hj e => by have := tP j hj; omega)).mono (show w.heap.size ≤ _ by omega)) (And.intro ((((((C.set (r := w.heap.size + 1) (by omega) 0 (.int .i64 vo)).set (r := w.heap.size + 1) (by omega) 1 (.int .i64 lo)).set (r := w.heap.size + 1) (by omega) 2 (.int .i64 v2)).set (r := w.heap.size + 1) (by omega) 3 (.string s2')).set (r := w.heap.size + 1) (by omega) 4 (.slice pa pk pc)).set (r := w.heap.size + 1) (by omega) 5 (.string d)) (grown_set (grown_set (grown_set (grown_set (grown_set (grown_set G (r := w.heap.size + 1) (by omega) 0 (.int .i64 vo)) (r := w.heap.size + 1) (by omega) 1 (.int .i64 lo)) (r := w.heap.size + 1) (by omega) 2 (.int .i64 v2)) (r := w.heap.size + 1) (by omega) 3 (.string s2')) (r := w.heap.size + 1) (by omega) 4 (.slice pa pk pc)) (r := w.heap.size + 1) (by omega) 5 (.string d))))
     have x0 := X.cell 0 rfl
     have x1 := X.cell 1 rfl
     have x2 := X.cell 2 rfl
     have x3 := X.cell 3 rfl
     have x4 := X.cell 4 rfl
     have x5 := X.cell 5 rfl
     have z0 := Z.cell 0 rfl
     have z1 := Z.cell 1 rfl
     have z2 := Z.cell 2 rfl
     have z3 := Z.cell 3 rfl
     have z4 := Z.cell 4 rfl
     have z5 := Z.cell 5 rfl
     have fz := Z.frozen
     clear kR C G V Z X P
     go_wp2
     refine bodyPost_ret (v := sv (vo) (lo) (v2) (s2') (.slice pa pk pc) (d)) (by simp [results, Tryz.results60, go_sem, z0, z1, z2, z3, z4, z5]) rfl ?_
     exact ⟨_, _, _, _, _, _, ys, rfl, hs2, hd, (by omega), R.out⟩
    ·have n3 : (j == 3) = false := by simp [h3]
     have kR : Kp w3 ((((((w3.setCell ⟨w.heap.size + 1, 0, none⟩ (.int .i64 vo)).setCell ⟨w.heap.size + 1, 1, none⟩ (.int .i64 lo)).setCell ⟨w.heap.size + 1, 2, none⟩ (.int .i64 v)).setCell ⟨w.heap.size + 1, 3, none⟩ (.string s)).setCell ⟨w.heap.size + 1, 4, none⟩ (.slice ua uk uc)).setCell ⟨w.heap.size + 1, 5, none⟩ (.string d)) (fun k => k = w.heap.size + 1) := (((((set_kp _ _ _ _).trans (set_kp _ _ _ _)).trans (set_kp _ _ _ _)).trans (set_kp _ _ _ _)).trans (set_kp _ _ _ _)).trans (set_kp _ _ _ _)
     have R := hide (And.intro ((O.kp kR (fun j hj e => by have := tO j hj; omega)).mono (show w.heap.size ≤ _ by omega)) (And.intro ((((((C.set (r := w.heap.size + 1) (by omega) 0 (.int .i64 vo)).set (r := w.heap.size + 1) (by omega) 1 (.int .i64 lo)).set (r := w.heap.size + 1) (by omega) 2 (.int .i64 v)).set (r := w.heap.size + 1) (by omega) 3 (.string s)).set (r := w.heap.size + 1) (by omega) 4 (.slice ua uk uc)).set (r := w.heap.size + 1) (by omega) 5 (.string d)) (grown_set (grown_set (grown_set (grown_set (grown_set (grown_set G (r := w.heap.size + 1) (by omega) 0 (.int .i64 vo)) (r := w.heap.size + 1) (by omega) 1 (.int .i64 lo)) (r := w.heap.size + 1) (by omega) 2 (.int .i64 v)) (r := w.heap.size + 1) (by omega) 3 (.string s)) (r := w.heap.size + 1) (by omega) 4 (.slice ua uk uc)) (r := w.heap.size + 1) (by omega) 5 (.string d))))
     have x0 := X.cell 0 rfl
     have x1 := X.cell 1 rfl
     have x2 := X.cell 2 rfl
     have x3 := X.cell 3 rfl
     have x4 := X.cell 4 rfl
     have x5 := X.cell 5 rfl
     have z0 := Z.cell 0 rfl
     have z1 := Z.cell 1 rfl
     have z2 := Z.cell 2 rfl
     have z3 := Z.cell 3 rfl
     have z4 := Z.cell 4 rfl
     have z5 := Z.cell 5 rfl
     have fz := Z.frozen
     clear kR C G V Z X O
     go_wp2
     refine bodyPost_ret (v := sv (vo) (lo) (v) (s) (.slice ua uk uc) (d)) (by simp [results, Tryz.results60, go_sem, z0, z1, z2, z3, z4, z5]) rfl ?_
     exact ⟨_, _, _, _, _, _, xs, rfl, hs, hd, (by omega), R.out⟩
end Go.Proofs.YtcclbejpgiogaaaGreatDoor
