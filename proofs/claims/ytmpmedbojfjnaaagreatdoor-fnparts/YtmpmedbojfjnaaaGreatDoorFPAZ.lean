/- Texts that belong together: DrawTab, DrawTabOk. -/
import Derived.Test.YtmpmedbojfjnaaaGreatDoorFPAS
import Derived.Test.YtmpmedbojfjnaaaGreatDoorFPAY
import Derived.Test.YtmpmedbojfjnaaaGreatDoorFPAK
import Derived.Test.YtmpmedbojfjnaaaGreatDoorFPAN
import Derived.Test.YtmpmedbojfjnaaaGreatDoorFPAE
import Derived.Deep.RegionHeld3
import Derived.Deep.DeepCutAuto
namespace Go.Proofs.YtmpmedbojfjnaaaGreatDoor
open Go.RowKit
set_option linter.unusedSectionVars false
variable [∀ (a b c d : Int), Decidable (Ok4 a b c d)]
variable [∀ (a b c d : Nat), Decidable (okN a b c d)]
variable [∀ (x : T4), Decidable (OkT x)]
variable [∀ (n f : Int), Decidable (COk n f)]
variable [∀ (last : Int) (s : St), Decidable (GoodSt last s)]
variable [∀ (n : Int) (s : List Int), Decidable (OkL n s)]

def SmP (b : Nat) (ps : List Pt) : Prop := ∀ q ∈ ps, q.2.1.size ≤ 8001 ∧ q.2.2.length ≤ b ∧ WfL q.2.2
theorem wf_join {a b : List Int} (ha : WfL a) (hb : WfL b) : WfL (joinL a b) := fun x hx => by
 rcases (mem_join a b x).1 hx with h | h
 ·exact ha x h
 ·exact hb x h
theorem smp_add (rb : Bool) {b : Nat} {ps : List Pt} {v : Int} {s : ByteArray} {xs : List Int} (h : SmP b ps) (hs : s.size ≤ 8001) (hx : xs.length ≤ 7) (wx : WfL xs) : SmP (b + 7) (if rb = true then addP ps (v, s, xs) else ps) := by
 intro q hq
 split at hq
 ·rcases addP_mem hq with h1 | rfl | ⟨x, h1, rfl⟩
  ·have := h q h1; exact ⟨this.1, by omega, this.2.2⟩
  ·exact ⟨hs, by simp only; omega, wx⟩
  ·have h2 := h x h1
   have := join_size x.2.2 xs
   exact ⟨h2.1, by simp only [joinP]; omega, wf_join h2.2.2 wx⟩
 ·have := h q hq; exact ⟨this.1, by omega, this.2.2⟩
theorem add_len_if (rb : Bool) (ps : List Pt) (p : Pt) : (if rb = true then addP ps p else ps).length ≤ ps.length + 1 := by
 split
 ·exact addP_len ps p
 ·omega

set_option maxHeartbeats 8000000 in
set_option maxRecDepth 100000 in
theorem drawTab (base g ca : Nat) (ao : Option Addr) (zs : List Int) (n f : Int) (w : World) (hB : base ≤ w.heap.size) (hn8 : n ≤ 8) (h : Cur w base g ao ca zs) :
 Calls Tryz.prog 90 #[.pointer (some ⟨g, 0, none⟩), cv n f] w fun e w' => ∃ (t : Value) (ps : List Pt), e = .returned t ∧ ps.length ≤ 5 ∧ Hid (SmP 40 ps) ∧ OPt w' w.heap.size t ps ∧ Cur w' base g ao ca zs ∧ w.grownBy w' (some g) := by
 have hlt := h.lt
 obtain ⟨w0, hw0⟩ : ∃ y, w.alloc (.cells #[.int .i64 n, .int .i64 f] 25) = y := ⟨_, rfl⟩
 have b0 : Below w.heap.size w w0 := hw0 ▸ qalloc _ _
 have LC : Loc w0 w.heap.size #[.int .i64 n, .int .i64 f] := hw0 ▸ loc_at w _ _ rfl
 have s0 : w0.heap.size = w.heap.size + 1 := by rw [← hw0]; simp
 have C := h.below hB b0
 have K : Kp w w0 (fun k => k = g) := Below.kpOf b0 _
 clear h b0
 obtain ⟨w1, hw1⟩ : ∃ y, w0.alloc (.cells #[] 52) = y := ⟨_, rfl⟩
 have b1 : Below w0.heap.size w0 w1 := hw1 ▸ qalloc _ _
 have TB : OPt w1 (w.heap.size + 1) (.slice (some ⟨w.heap.size + 1, 0, none⟩) 0 0) [] := by
  have := opt_empty w0
  rw [hw1, s0] at this
  exact ⟨_, this⟩
 replace LC := LC.below b1 LC.lt
 replace K := K.trans (Below.kpOf b1 _)
 replace C := C.below (by omega) b1
 have s1 := b1.size
 clear b1
 go_enter Tryz.func90, Tryz.ntmps90
 go_wp2
 clear hw0 hw1
 go_loopw [5, 6] (fun out j wr => ∃ (k : Nat) (ps : List Pt) (ta : Option Addr) (pl tc : Nat), k ≤ 4 ∧ j = .int .i64 k ∧ out = .slice ta pl tc ∧ pl ≤ k ∧ Hid (ps.length = pl) ∧ Hid (SmP (7 * k) ps) ∧ OPt wr (w.heap.size + 1) (.slice ta pl tc) ps ∧ Loc wr w.heap.size #[.int .i64 n, .int .i64 f] ∧ Cur wr base g ao ca zs ∧ Kp w wr (fun k => k = g)) (fun _ j _ => 4 - (intOf j).toNat)
 case atStart => exact ⟨0, [], _, 0, 0, by omega, rfl, rfl, by omega, hide rfl, hide (fun q hq => by simp at hq), TB, LC, C, K⟩
 case round =>
  clear TB LC C K
  obtain ⟨k, ps, ta, pl, tc, hk, rfl, rfl, hpk0, HL, SM, TB, LC, C, K⟩ := hrel
  have sK := K.size
  have hll := LC.lt
  go_wp2_with fail
  refine (below_any base g ca ao zs 5 _ (by omega) (by omega) (by omega) C).mono ?_
  rintro e w7 ⟨r, rfl, r0, r1, c7, g7⟩
  replace C := c7
  clear c7
  have kk := kp_of g7
  have sk := kk.size
  replace LC := LC.kp kk (by omega)
  replace TB := TB.kp kk (fun j h1 h2 => by omega)
  replace K := K.trans kk
  clear kk g7
  by_cases hlt2 : (k : Int) < r
  ·have hd : decide ((k : Int) < r) = true := by simpa using hlt2
   go_upto_region 5 with fail
   refine wp_region_noPanic ?_
   refine wp_region_held_drew (S := (fun w' => w'.cell? ⟨w.heap.size, 0, none⟩ = some (.int .i64 n) ∧ w'.cell? ⟨w.heap.size, 1, none⟩ = some (.int .i64 f))) (by kernel_rfl) ⟨LC.cell 0 rfl, LC.cell 1 rfl⟩ (fun hHeld => ?_)
   obtain ⟨wd, hd'⟩ : ∃ y, w7.drew = y := ⟨_, rfl⟩
   have bd : Below w7.heap.size w7 wd := hd' ▸ Below.drew (Below.refl _ _)
   have sk := bd.size
   replace LC := LC.below bd LC.lt
   replace TB := TB.below bd
   replace K := K.trans (Below.kpOf bd _)
   replace C := C.below (by omega) bd
   rw [hd'] at hHeld ⊢
   clear hd' bd
   refine tk 0 15 (v := ?_) rfl (hy := .inl ⟨by rfl, ?_⟩) (h := ?_); rotate_left
   ·intro w hSw; (try dsimp only at hSw); go_simp; (try with_reducible rfl)
   simp only [pU]
   refine tk 1 16 (v := ?_) rfl (hy := .inl ⟨by rfl, ?_⟩) (h := ?_); rotate_left
   ·intro w hSw; (try dsimp only at hSw); go_simp; (try with_reducible rfl)
   simp only [pU]
   refine tk 2 17 (v := ?_) rfl (hy := .inl ⟨by rfl, ?_⟩) (h := ?_); rotate_left
   ·intro w hSw; (try dsimp only at hSw); go_simp; (try with_reducible rfl)
   simp only [pU]
   refine tk 3 18 (v := ?_) rfl (hy := .inl ⟨by rfl, ?_⟩) (h := ?_); rotate_left
   ·intro w hSw; (try dsimp only at hSw); go_simp; (try with_reducible rfl)
   simp only [pU]
   refine ready_at (i := 4) rfl (by kernel_rfl) (fun KK hKK => ?_)
   go_simp
   refine (drawPartR base g ca ao zs n f _ (by omega) hn8 C).mono ?_
   rintro e wb ⟨v, s, u, xs, rfl, hv, hs, hl, WX, O, c4, g4⟩
   replace C := c4
   clear c4
   have kk := kp_of g4
   have sk := kk.size
   replace LC := LC.kp kk (by omega)
   replace TB := TB.kp kk (fun j h1 h2 => by omega)
   replace K := K.trans kk
   clear kk g4
   have TA := hide (specTableAdd n f (.slice ta pl tc) ps v s u xs wb (by rw [unhide HL]; omega) (by omega) (by omega) (fun q hq => by have := unhide SM q hq; omega) (by have := TB.rpt (fun q hq => by have := unhide SM q hq; omega); exact this) (O.ri (by omega)))
   obtain ⟨ua, uc, hu⟩ := O.form
   subst hu
   clear hHeld
   refine hKK.out _ _ ⟨LC.cell 0 rfl, LC.cell 1 rfl⟩ (fun hHeld => ?_)
   clear hKK KK
   refine ready_at (i := 5) rfl (by kernel_rfl) (fun KK hKK => ?_)
   go_simp
   refine (unhide TA).mono ?_
   rintro e wc ⟨t, rfl, o5, b5⟩
   have sk := b5.size
   replace LC := LC.below b5 LC.lt
   replace K := K.trans (Below.kpOf b5 _)
   replace C := C.below (by omega) b5
   have SM2 := hide (smp_add (tokB n f (addP ps (v, s, xs)) && pokB n f v s xs) (b := 7 * k) (v := v) (s := s) (unhide SM) (by omega) hl (unhide WX))
   have HL2 := add_len_if (tokB n f (addP ps (v, s, xs)) && pokB n f v s xs) ps (v, s, xs)
   generalize (tokB n f (addP ps (v, s, xs)) && pokB n f v s xs) = rb at *
   generalize (if rb = true then addP ps (v, s, xs) else ps) = ps2 at *
   replace o5 := o5.mono (show w.heap.size + 1 ≤ wb.heap.size by omega)
   obtain ⟨t5, c5, ht5⟩ := o5.form
   obtain ⟨pl2, hpl2⟩ : ∃ l, ps2.length = l := ⟨_, rfl⟩
   rw [hpl2] at ht5
   subst ht5
   have HL3 := hide hpl2
   have hpk : pl2 ≤ k + 1 := by have := unhide HL; omega
   clear HL2 hpl2 b5 TB TA SM O
   clear hHeld
   refine hKK.out _ _ ⟨LC.cell 0 rfl, LC.cell 1 rfl⟩ (fun hHeld => ?_)
   clear hKK KK
   refine tk 6 14 (v := ?_) rfl (hy := .inl ⟨by rfl, ?_⟩) (h := ?_); rotate_left
   ·intro w hSw; (try dsimp only at hSw); go_simp; (try with_reducible rfl)
   simp only [pU]
   refine tk 7 21 (v := ?_) rfl (hy := .inl ⟨by rfl, ?_⟩) (h := ?_); rotate_left
   ·intro w hSw; (try dsimp only at hSw); go_simp; (try with_reducible rfl)
   simp only [pU]
   refine tk 8 22 (v := ?_) rfl (hy := .inl ⟨by rfl, ?_⟩) (h := ?_); rotate_left
   ·intro w hSw; (try dsimp only at hSw); go_simp; (try with_reducible rfl)
   simp only [pU]
   refine tk 9 5 (v := ?_) rfl (hy := .inl ⟨by rfl, ?_⟩) (h := ?_); rotate_left
   ·intro w hSw; (try dsimp only at hSw); go_simp; (try with_reducible rfl)
   simp only [pU]
   clear hHeld
   refine wpAnyH_done (by kernel_rfl) ?_ _
   refine NoPanic.normal ?_
   go_wp2
   go_roundw
   case rel => exact ⟨k + 1, ps2, t5, pl2, c5, by omega, by go_num, rfl, by omega, HL3, hide (fun q hq => by have := unhide SM2 q hq; exact ⟨this.1, by omega, this.2.2⟩), o5, LC, C, K⟩
   case measure => simp [intOf]; omega
  ·have hd : decide ((k : Int) < r) = false := by simpa using hlt2
   go_wp2_with fail
   refine (once_any base g ca ao zs 8 _ (by omega) (by omega) (by omega) C).mono ?_
   rintro e w8 ⟨b, rfl, c8, g8⟩
   replace C := c8
   clear c8
   have kk := kp_of g8
   have sk := kk.size
   replace LC := LC.kp kk (by omega)
   replace TB := TB.kp kk (fun j h1 h2 => by omega)
   replace K := K.trans kk
   clear kk g8
   cases b with
   | false =>
    have TB' := hide (TB.mono (show w.heap.size ≤ w.heap.size + 1 by omega))
    clear TB LC
    go_wp2
    go_ret
    exact ⟨_, ps, rfl, by have := unhide HL; omega, hide (fun q hq => by have := unhide SM q hq; exact ⟨this.1, by omega, this.2.2⟩), unhide TB', C, kp_to K⟩
   | true =>
    have n0 := LC.cell 0 rfl
    have n1 := LC.cell 1 rfl
    go_wp2_with fail
    clear n0 n1
    refine (drawPart base g ca ao zs n f _ (by omega) hn8 C).mono ?_
    rintro e w9 ⟨v, s, u, xs, rfl, hv, hs, hl, WX, O, c9, g9⟩
    replace C := c9
    clear c9
    have sz8 := K.size
    obtain ⟨vs, TV⟩ := TB
    have hN : Hid (∀ j, j < ps.length → ∀ b, (vs.getD j (.slice none 0 0)).ownBlock = some b → b < w8.heap.size) := hide fun j hj b hb => (World.ownsRow.lt (TV.each j hj) b hb).2
    have kk := kp_of g9
    have sk9 := kk.size
    replace TV := TV.kp kk (fun j h1 h2 => by omega)
    replace K := K.trans kk
    clear kk g9 LC
    obtain ⟨ua, uc, hu⟩ := O.form
    obtain ⟨ul, hul⟩ : ∃ l, xs.length = l := ⟨_, rfl⟩
    rw [hul] at hu hl
    subst hu
    replace hul := hide hul
    obtain ⟨wa, hwa⟩ : ∃ y, w9.alloc (.cells #[.int .i64 v, .string s, .slice ua ul uc] 52) = y := ⟨_, rfl⟩
    have ba : Below w9.heap.size w9 wa := hwa ▸ qalloc _ _
    have La : Loc wa w9.heap.size #[.int .i64 v, .string s, .slice ua ul uc] := hwa ▸ loc_at w9 _ _ rfl
    have d0 := La.cell 0 rfl
    have d1 := La.cell 1 rfl
    have d2 := La.cell 2 rfl
    have Ta := hide (TV.below ba)
    have Oa := hide (O.below ba)
    have sa := ba.size
    replace K := K.trans (Below.kpOf ba _)
    replace C := C.below (by omega) ba
    clear TV O ba La
    go_wp2_with (first
     | (at_builtin; clear hwa; refine append_part rfl _ _ rfl (w.heap.size + 1) w8.heap.size (.slice ta pl tc) ps vs w9.heap.size 1 v s _ xs rfl rfl (unhide Ta) d0 d1 d2 (unhide Oa) (unhide hN) (by omega) (by rw [unhide HL]; omega) (by omega) ?_; intro v4 w4 ho4 hg4 _
        have r4 := World.ownsRow.lt (unhide Ta).row
        have kx : Kp w w4 (fun k => k = g) := ⟨hg4.os.trans K.os, hg4.tape.trans K.tape, hg4.output.trans K.output, Nat.le_trans K.size hg4.size, fun k hk hg => (hg4.block k (Nat.lt_of_lt_of_le hk K.size) (fun e => by have := r4 k e.symm; omega)).trans (K.block k hk hg)⟩
        have cx := C.grownNew hg4 (fun j e => by have := r4 j e; omega)
        obtain ⟨a4, c4, hv4⟩ := OPt.form ⟨_, ho4⟩
        have HL4 := hide (show (ps ++ [(v, s, xs)]).length ≤ 5 by have := unhide HL; simp; omega)
        have SM4 : Hid (SmP 40 (ps ++ [(v, s, xs)])) := hide (fun q hq => by rcases List.mem_append.1 hq with h | h; exact (by have := unhide SM q h; exact ⟨this.1, by omega, this.2.2⟩); simp at h; subst h; exact ⟨hs, by simp only; rw [unhide hul]; omega, unhide WX⟩)
        generalize ps ++ [(v, s, xs)] = es at *
        subst hv4
        have T4 := hide (show OPt w4 w.heap.size _ es from OPt.mono ⟨_, ho4⟩ (by omega))
        clear Ta Oa hN ho4 hg4 r4 d0 d1 d2 K C SM))
    go_ret
    exact ⟨_, es, rfl, unhide HL4, SM4, unhide T4, cx, kp_to kx⟩

set_option maxHeartbeats 8000000 in
set_option maxRecDepth 100000 in
theorem drawTableOk (ao : Option Addr) (ca : Nat) (zs : List Int) (w : World) (h : DCode w ao zs) :
 Calls Tryz.prog 37 #[.slice ao zs.length ca] w fun e w' => ∃ (n f : Int) (t : Value) (ps : List Pt), e = .returned (.tuple #[cv n f, t]) ∧ ps.length ≤ 5 ∧ Hid (SmP 40 ps) ∧ OPt w' w.heap.size t ps ∧ Below w.heap.size w w' := by
 obtain ⟨w0, hw0⟩ : ∃ w0, w.alloc (.cells #[.int .i64 0, .int .i64 0] 25) = w0 := ⟨_, rfl⟩
 have B : Below w.heap.size w w0 := hw0 ▸ qalloc _ _
 have R : Loc w0 w.heap.size #[.int .i64 0, .int .i64 0] := hw0 ▸ loc_at w _ _ rfl
 have s0 : w.heap.size + 1 ≤ w0.heap.size := by rw [← hw0]; simp
 have D0 := h.below B (Nat.le_refl _)
 have NW := hide (new_any ao ca zs w0 D0.len D0.code D0.fit)
 clear h D0
 go_enter Tryz.func37, Tryz.ntmps37
 go_wp2_with fail
 clear hw0
 refine (unhide NW).mono ?_
 rintro e w1 ⟨rfl, C, b1⟩
 replace B := B.trans (b1.mono B.size)
 replace R := R.below b1 R.lt
 have s1 := b1.size
 generalize w0.heap.size = g at *
 have hg1 := C.lt
 clear b1 NW
 go_wp2_with fail
 refine (drawConf g g ca ao zs _ (by omega) C).mono ?_
 rintro e w2 ⟨n, f, rfl, ⟨hn0, hn1⟩, c1, e1⟩
 have s2 := e1.size
 replace R := R.grown e1 (by omega)
 replace B := cur_below e1 B B.size (by omega)
 replace C := c1
 clear c1 e1
 obtain ⟨w3, hw3⟩ : ∃ y, w2.alloc (.cells #[.int .i64 n, .int .i64 f] 25) = y := ⟨_, rfl⟩
 have bb : Below w2.heap.size w2 w3 := hw3 ▸ qalloc _ _
 have X : Loc w3 w2.heap.size #[.int .i64 n, .int .i64 f] := hw3 ▸ loc_at w2 _ _ rfl
 have s3 : w2.heap.size + 1 ≤ w3.heap.size := by rw [← hw3]; simp
 replace R := R.below bb R.lt
 replace C := C.below (by omega) bb
 replace B := B.trans (bb.mono B.size)
 clear bb
 go_upto_region 3 with fail
 clear hw3
 refine wp_region_noPanic ?_
 refine wp_region_held_drew (S := fun w' => (w'.cell? ⟨w2.heap.size, 0, none⟩ = some (.int .i64 n) ∧ w'.cell? ⟨w2.heap.size, 1, none⟩ = some (.int .i64 f))) (by kernel_rfl) ⟨X.cell 0 rfl, X.cell 1 rfl⟩ (fun hHeld => ?_)
 obtain ⟨wd, hd⟩ : ∃ wd, w3.drew = wd := ⟨_, rfl⟩
 have bd : Below w3.heap.size w3 wd := hd ▸ Below.drew (Below.refl _ _)
 have sd : w3.heap.size ≤ wd.heap.size := bd.size
 replace R := R.below bd R.lt
 replace X := X.below bd X.lt
 replace C := C.below (by omega) bd
 replace B := B.trans (bd.mono B.size)
 rw [hd] at hHeld ⊢
 clear hd bd
 refine tk 0 10 (v := ?_) rfl (hy := .inl ⟨by rfl, ?_⟩) (h := ?_); rotate_left
 ·intro w hSw; (try dsimp only at hSw); go_simp; (try with_reducible rfl)
 simp only [pU]
 refine tk 1 11 (v := ?_) rfl (hy := .inl ⟨by rfl, ?_⟩) (h := ?_); rotate_left
 ·intro w hSw; (try dsimp only at hSw); go_simp; (try with_reducible rfl)
 simp only [pU]
 refine tk 2 12 (v := ?_) rfl (hy := .inl ⟨by rfl, ?_⟩) (h := ?_); rotate_left
 ·intro w hSw; (try dsimp only at hSw); go_simp; (try with_reducible rfl)
 simp only [pU]
 refine ready_at (i := 3) rfl (by kernel_rfl) (fun KK hKK => ?_)
 go_simp
 refine (drawTab g g ca ao zs n f _ (by omega) (by omega) C).mono ?_
 rintro e w9 ⟨t, ps, rfl, hpl, hw, T, c1, e1⟩
 have s9 := e1.size
 replace R := R.grown e1 (by omega)
 replace X := X.grown e1 (by omega)
 replace B := cur_below e1 B B.size (by omega)
 clear c1 e1 C
 obtain ⟨ta, tc, htt⟩ := T.form
 obtain ⟨tl, htl⟩ : ∃ l, ps.length = l := ⟨_, rfl⟩
 rw [htl] at htt hpl
 subst htt
 obtain ⟨vs, T⟩ := T
 replace T := T.opr
 replace htl := hide htl
 clear hHeld
 refine hKK.out _ _ ⟨X.cell 0 rfl, X.cell 1 rfl⟩ (fun hHeld => ?_)
 clear hKK KK
 have c0 := R.cell 0 rfl
 have c1 := R.cell 1 rfl
 have fc := R.frozen
 refine ready_at (i := 4) rfl (by kernel_rfl) (fun KK hKK => ?_)
 go_simp
 obtain ⟨wa, hwa⟩ : ∃ y, ((w9.setCell ⟨w.heap.size, 0, none⟩ (.int .i64 n)).setCell ⟨w.heap.size, 1, none⟩ (.int .i64 f)) = y := ⟨_, rfl⟩
 have kwa : Kp w9 wa (fun k => k = w.heap.size) := hwa ▸ (set_kp _ _ _ _).trans (set_kp _ _ _ _)
 replace R : Loc wa (w.heap.size) #[.int .i64 n, .int .i64 f] := hwa ▸ ((R.set 0 _ rfl).set 1 _ rfl)
 replace X := X.kp kwa (by omega)
 replace T := T.kp kwa (fun j h1 h2 => by omega)
 replace B := Below.kp B kwa B.size (fun k hk => by omega)
 have zwa := kwa.size
 rw [hwa]
 clear hwa kwa c0 c1 fc
 clear hHeld
 refine hKK.out _ _ ⟨X.cell 0 rfl, X.cell 1 rfl⟩ (fun hHeld => ?_)
 clear hKK KK
 refine tk 5 3 (v := ?_) rfl (hy := .inl ⟨by rfl, ?_⟩) (h := ?_); rotate_left
 ·intro w hSw; (try dsimp only at hSw); go_simp; (try with_reducible rfl)
 simp only [pU]
 clear hHeld
 refine wpAnyH_done (by kernel_rfl) ?_ _
 refine NoPanic.normal ?_
 have r0 := R.cell 0 rfl
 have r1 := R.cell 1 rfl
 clear R X
 go_wp2
 refine bodyPost_ret (v := .tuple #[cv n f, .slice ta tl tc]) (by simp [results, Tryz.results37, go_sem, r0, r1]) rfl ?_
 exact ⟨_, _, _, ps, rfl, by rw [unhide htl]; exact hpl, hw, ⟨vs, T.tab.mono (by omega)⟩, B⟩
end Go.Proofs.YtmpmedbojfjnaaaGreatDoor
