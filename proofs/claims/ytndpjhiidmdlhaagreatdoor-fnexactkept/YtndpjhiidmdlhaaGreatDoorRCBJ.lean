/- Texts that belong together: NoteNote, NoteLast, DiskTear, HolderI, SpecGet, SpecText. -/
import Derived.Test.YtndpjhiidmdlhaaGreatDoorRCBI
import Derived.Deep.DeepCutAuto
import Derived.Laws.EntriesVeiled
import Derived.Test.YtndpjhiidmdlhaaGreatDoorRCBA
import Derived.RegionTactic
import Derived.Test.YtndpjhiidmdlhaaGreatDoorRCAI
import Derived.Test.YtndpjhiidmdlhaaGreatDoorRCAK
import Derived.Test.YtndpjhiidmdlhaaGreatDoorRCAA
import Derived.Test.YtndpjhiidmdlhaaGreatDoorRCAP
import Derived.Test.YtndpjhiidmdlhaaGreatDoorRCBH
set_option maxRecDepth 100000
set_option maxHeartbeats 16000000
namespace Go.Proofs.YtndpjhiidmdlhaaGreatDoor
open Go.RowKit
set_option linter.unusedSectionVars false
variable [∀ (a b c d : Int), Decidable (Ok4 a b c d)]
variable [∀ (a b c d : Nat), Decidable (okN a b c d)]
variable [∀ (last : Int) (s : St), Decidable (GoodSt last s)]
variable [∀ (x : T4), Decidable (OkT x)]
variable [∀ (n : Int) (s : List Int), Decidable (OkL n s)]
variable [∀ (n f : Int), Decidable (COk n f)]

theorem got_note {n f : Int} {xs : List Int} {p : Int} {ok1 ok2 ok4 : Bool} {ln q1 : Int} {t : SafT} {q2 x q3 : Int} (b : Bool) (h1 : Got true (getNum xs p) ok1 ln q1) (h2 : Got ok1 (getSafe 7 xs q1) ok2 t q2) (hb : (sokT n f t && (q2 - q1 == ln)) = b) (h3 : Got (ok2 && b) (getNum xs q2) ok4 x q3) : Got true (noteP n f xs p) (ok4 && (x == 10)) t q3 := by
 obtain ⟨a1, b1⟩:=h1
 obtain ⟨a2, b2⟩:=h2
 obtain ⟨a3, b3⟩:=h3
 unfold noteP
 cases hg : getNum xs p with
 | none => rw [hg] at a1; simp at a1; subst a1; simp at a2; subst a2; simp at a3; subst a3; exact ⟨by simp, by simp⟩
 | some z =>
  rw [hg] at a1 b1
  simp at a1
  subst a1
  obtain rfl:=Option.some.inj (b1 rfl)
  simp only
  cases hg2 : getSafe 7 xs q1 with
  | none => rw [hg2] at a2; simp at a2; subst a2; simp at a3; subst a3; exact ⟨by simp, by simp⟩
  | some z =>
   rw [hg2] at a2 b2
   simp at a2
   subst a2
   obtain rfl:=Option.some.inj (b2 rfl)
   simp only
   cases b with
   | false => simp at a3; subst a3; rw [hb]; exact ⟨by simp, by simp⟩
   | true =>
    rw [if_pos hb]
    simp only [Bool.true_and, Bool.and_true] at a3
    cases hg3 : getNum xs q2 with
    | none => rw [hg3] at a3; simp at a3; subst a3; exact ⟨by simp, by simp⟩
    | some z =>
     rw [hg3] at a3 b3
     simp at a3
     subst a3
     obtain rfl:=Option.some.inj (b3 rfl)
     simp only
     by_cases h10 : x = 10
     ·rw [if_pos h10]; exact ⟨by simp [h10], fun _ => rfl⟩
     ·rw [if_neg h10]; exact ⟨by simp [h10], by simp [h10]⟩
def NotEnd (n f : Int) (g : Nat) (ao : Option Addr) (ca : Nat) (xs : List Int) (p : Int) (w : World) (e : Ending) (w' : World) : Prop :=
 ∃ (vo lo v : Int) (s : ByteArray) (ua : Option Addr) (uc : Nat) (ys : List Int) (d : ByteArray) (q : Int) (ok' : Bool), e = .returned (sv vo lo v s (.slice ua ys.length uc) d) ∧ Got true (noteP n f xs p) ok' (vo, lo, (v, s, ys), d) q ∧ ys.length ≤ 7 ∧ (0 ≤ q ∧ q ≤ xs.length) ∧ Loc w' g #[.slice ao xs.length ca,.int .i64 p,.int .i64 q, errV ok' p] ∧ OI w' w.heap.size (.slice ua ys.length uc) ys ∧ Kp w w' (fun k => k = g)

theorem rnote_any (W0 : World) (n f : Int) (g : Nat) (ao : Option Addr) (ca : Nat) (xs : List Int) (fr p : Int) (w : World) (hx : xs.length ≤ 33554432) (hp0 : 0 ≤ p) (hp1 : p ≤ xs.length) (hr : RB W0 (.slice ao xs.length ca) xs) (hb : Bytes xs) (hE : Env W0) (h0 : W0.heap.size ≤ g) (hB : Below W0.heap.size W0 w) (hl : Loc w g #[.slice ao xs.length ca,.int .i64 fr,.int .i64 p,.nilIface]) :
 Calls Tryz.prog 183 #[.pointer (some ⟨g, 0, none⟩), cv n f] w (NotEnd n f g ao ca xs p w) := by
 have hgw:=hl.lt
 obtain ⟨w9, hw9⟩ : ∃ y, (w.alloc (.cells #[.int .i64 n,.int .i64 f] 39)).alloc (.cells #[.int .i64 0,.int .i64 0,.int .i64 0,.string ⟨#[]⟩,.slice none 0 0,.string ⟨#[]⟩] 43) = y:=⟨_, rfl⟩
 have b9 : Below w.heap.size w w9:=hw9 ▸ qalloc2 _ _ _
 have z9 : w9.heap.size = w.heap.size + 1 + 1:=by rw [← hw9]; simp
 have L9:=hl.below b9 hgw
 have KS : Kp w9 (w9.setCell ⟨g, 1, none⟩ (.int .i64 p)) (fun k => k = g):=set_kp _ _ _ _
 obtain ⟨w0, hw0⟩ : ∃ y, w9.setCell ⟨g, 1, none⟩ (.int .i64 p) = y:=⟨_, rfl⟩
 rw [hw0] at KS
 have LG : Loc w0 g #[.slice ao xs.length ca,.int .i64 p,.int .i64 p, errV true p]:=hw0 ▸ L9.set 1 _ rfl
 have LC : Loc w0 w.heap.size #[.int .i64 n,.int .i64 f]:=(hw9 ▸ (loc_at w _ _ rfl).alloc _ : Loc w9 w.heap.size #[.int .i64 n,.int .i64 f]).kp KS (by omega)
 have LZ : Loc w0 (w.heap.size + 1) #[.int .i64 0,.int .i64 0,.int .i64 0,.string ⟨#[]⟩,.slice none 0 0,.string ⟨#[]⟩]:=(hw9 ▸ loc_at (w.alloc _) _ _ (by simp) : Loc w9 (w.heap.size + 1) #[.int .i64 0,.int .i64 0,.int .i64 0,.string ⟨#[]⟩,.slice none 0 0,.string ⟨#[]⟩]).kp KS (by omega)
 have z0 : w.heap.size + 1 + 1 ≤ w0.heap.size:=by have:=KS.size; omega
 have K0 : Kp w w0 (fun k => k = g):=(Below.kpOf b9 _).trans KS
 have x1:=L9.cell 1 rfl
 have x2:=L9.cell 2 rfl
 have fx:=L9.frozen
 have NU:=hide fun (q : Int) (ok : Bool) (w' : World) (k : Kp w w' (fun k => k = g)) hl => rnum_any W0 g ao ca xs p q ok w' hr hb hE (Below.kp hB k hB.size (fun j e => by omega)) hl
 have SA:=hide fun (q : Int) (ok : Bool) (w' : World) (k : Kp w w' (fun k => k = g)) hl => rsafe_any W0 g ao ca xs p q ok w' hr hb hE h0 (Below.kp hB k hB.size (fun j e => by omega)) hl
 have EN:=hide fun (w' : World) (k : Kp w w' (fun k => k = g)) => hE.below (Below.kp hB k hB.size (fun j e => by omega))
 have N0:=hide (NU.out p true w0 K0 LG)
 have H0:=hide hw0
 clear LG hr hb hw0 hl hB hE L9 b9
 go_enter Tryz.func183, Tryz.ntmps183
 go_upto_region 2 with fail
 rw [H0.out]
 clear hw9 H0 z9 KS x1 x2 fx
 go_wp2_with fail
 refine N0.out.mono ?_
 rintro e w1 ⟨ln, q1, ok1, rfl, G1, hln, S1, LG, K1⟩
 clear N0
 replace LC:=LC.kp K1 (by omega)
 replace LZ:=LZ.kp K1 (by omega)
 have z1:=K1.size
 replace K1:=K0.trans K1
 clear K0
 have hq1 : 0 ≤ q1 ∧ q1 ≤ xs.length:=by unfold Stays at S1; omega
 have g2:=LG.cell 2 rfl
 have SN:=hide (SA.out q1 ok1 w1 K1 LG)
 clear SA S1 LG
 go_wp2_with fail
 clear g2
 refine SN.out.mono ?_
 rintro e w2 ⟨vo, lo, v, s, ua, uc, ys, d, q2, ok2, rfl, G2, ⟨hs, hd⟩, h7, S2, LG, oQ, K2⟩
 clear SN
 replace LC:=LC.kp K2 (by omega)
 replace LZ:=LZ.kp K2 (by omega)
 have z2:=K2.size
 replace K2:=K1.trans K2
 clear K1
 have ltQ:=World.ownsRow.lt oQ
 have hq2 : 0 ≤ q2 ∧ q2 ≤ xs.length:=by unfold Stays at S2; omega
 clear S2
 go_upto_region 5 with fail
 obtain ⟨w8, hw8⟩ : ∃ y, w2.alloc (.cells #[.int .i64 vo,.int .i64 lo,.int .i64 v,.string s,.slice ua ys.length uc,.string d] 43) = y:=⟨_, rfl⟩
 rw [hw8]
 have b8 : Below w2.heap.size w2 w8:=hw8 ▸ conf_below _ _
 have LQ : Loc w8 w2.heap.size #[.int .i64 vo,.int .i64 lo,.int .i64 v,.string s,.slice ua ys.length uc,.string d]:=hw8 ▸ loc_at w2 _ _ rfl
 have z8 : w2.heap.size + 1 ≤ w8.heap.size:=by rw [← hw8]; simp
 clear hw8
 replace LC:=LC.up b8
 replace LZ:=LZ.up b8
 replace LG:=LG.up b8
 replace oQ:=oQ.below b8
 have K8:=K2.trans (Below.kpOf b8 _)
 clear b8 K2
 have HN : Hid (∀ (b : Bool), (sokB n f vo lo v s ys d && (q2 - q1 == ln)) = b → ∀ (ok4 : Bool) (x q3 : Int), Got (ok2 && b) (getNum xs q2) ok4 x q3 → Got true (noteP n f xs p) (ok4 && (x == 10)) (vo, lo, (v, s, ys), d) q3):=hide fun b hb ok4 x q3 h3 => got_note b G1 G2 hb h3
 have QO:=hide (implSafeOk n f vo lo v s ua uc ys d w8 (by omega) (by omega) (EN.out _ K8) (oQ.ri (by omega)))
 generalize sokB n f vo lo v s ys d = bq at *
 have c0:=LC.cell 0 rfl
 have c1:=LC.cell 1 rfl
 have d0:=LQ.cell 0 rfl
 have d1:=LQ.cell 1 rfl
 have d2:=LQ.cell 2 rfl
 have d3:=LQ.cell 3 rfl
 have d4:=LQ.cell 4 rfl
 have d5:=LQ.cell 5 rfl
 go_wp2_with fail
 clear c0 c1 d0 d1 d2 d3 d4 d5
 refine QO.out.mono ?_
 rintro e w3 ⟨rfl, b3⟩
 clear QO EN
 replace LZ:=LZ.up b3
 replace LG:=LG.up b3
 replace LQ:=LQ.up b3
 replace oQ:=oQ.below b3
 have z3:=b3.size
 have K3:=K8.trans (Below.kpOf b3 _)
 clear b3 K8 LC G1 G2
 have g2:=LG.cell 2 rfl
 have hwr : IntKind.i64.wrap (q2 - q1) = q2 - q1:=by rw [IntKind.wrap_i64]; omega
 obtain ⟨be, hbe⟩ : ∃ y, (q2 - q1 == ln) = y:=⟨_, rfl⟩
 rw [hbe] at HN
 cases bq with
 | true =>
  go_wp2_with fail
  refine (must_any g _ p q2 ok2 be w3 LG).mono ?_
  rintro e w4 ⟨rfl, LG4, K4⟩
  replace LZ:=LZ.kp K4 (by omega)
  replace LQ:=LQ.kp K4 (by omega)
  replace oQ:=oQ.kp K4 (fun k hk e => by have:=ltQ k hk; omega)
  have z4:=K4.size
  replace K4:=K3.trans K4
  clear K3 LG g2 hbe hwr
  have N4:=hide (NU.out q2 (ok2 && be) w4 K4 LG4)
  clear LG4
  go_wp2_with fail
  refine N4.out.mono ?_
  rintro e w5 ⟨y, q3, ok4, rfl, G4, hy, S4, LG, K5⟩
  clear N4
  replace LZ:=LZ.kp K5 (by omega)
  replace LQ:=LQ.kp K5 (by omega)
  replace oQ:=oQ.kp K5 (fun k hk e => by have:=ltQ k hk; omega)
  have z5:=K5.size
  replace K5:=K4.trans K5
  clear K4
  have HG:=hide (HN.out be rfl ok4 y q3 G4)
  obtain ⟨bt, hbt⟩ : ∃ z, (y == (10 : Int)) = z:=⟨_, rfl⟩
  rw [hbt] at HG
  have hq3 : 0 ≤ q3 ∧ q3 ≤ xs.length:=by unfold Stays at S4; omega
  clear G4 S4 HN
  go_wp2_with fail
  refine (must_any g _ p q3 ok4 bt w5 LG).mono ?_
  rintro e w6 ⟨rfl, LG6, K6⟩
  clear hbt
  replace LZ:=LZ.kp K6 (by omega)
  replace LQ:=LQ.kp K6 (by omega)
  replace oQ:=oQ.kp K6 (fun k hk e => by have:=ltQ k hk; omega)
  have z6:=K6.size
  replace K6:=K5.trans K6
  clear K5 LG
  have e0:=LQ.cell 0 rfl
  have e1:=LQ.cell 1 rfl
  have e2:=LQ.cell 2 rfl
  have e3:=LQ.cell 3 rfl
  have e4:=LQ.cell 4 rfl
  have e5:=LQ.cell 5 rfl
  have y0:=LZ.cell 0 rfl
  have y1:=LZ.cell 1 rfl
  have y2:=LZ.cell 2 rfl
  have y3:=LZ.cell 3 rfl
  have y4:=LZ.cell 4 rfl
  have y5:=LZ.cell 5 rfl
  have fy:=LZ.frozen
  have O6:=hide oQ
  have H6:=hide LG6
  clear oQ LQ LZ LG6
  have K7:=kp6 w6 (w.heap.size + 1) (.int .i64 vo) (.int .i64 lo) (.int .i64 v) (.string s) (.slice ua ys.length uc) (.string d)
  generalize (ok4 && bt) = okf at *
  go_wp2
  refine bodyPost_ret (v := sv vo lo v s (.slice ua ys.length uc) d) (by simp [results, Tryz.results183, go_sem, y0, y1, y2, y3, y4, y5]) rfl ?_
  exact ⟨vo, lo, v, s, ua, uc, ys, d, q3, okf, rfl, HG.out, h7, hq3, H6.out.kp K7 (by omega), (O6.out.kp K7 (fun k hk e => by have := ltQ k hk; omega)).mono (by omega), K6.over K7 (fun j e => .inl (by omega))⟩
 | false =>
  clear hbe hwr
  go_wp2_with fail
  refine (must_any g _ p q2 ok2 false w3 LG).mono ?_
  rintro e w4 ⟨rfl, LG4, K4⟩
  replace LZ:=LZ.kp K4 (by omega)
  replace LQ:=LQ.kp K4 (by omega)
  replace oQ:=oQ.kp K4 (fun k hk e => by have:=ltQ k hk; omega)
  have z4:=K4.size
  replace K4:=K3.trans K4
  clear K3 LG g2
  have N4:=hide (NU.out q2 (ok2 && false) w4 K4 LG4)
  clear LG4
  go_wp2_with fail
  refine N4.out.mono ?_
  rintro e w5 ⟨y, q3, ok4, rfl, G4, hy, S4, LG, K5⟩
  clear N4
  replace LZ:=LZ.kp K5 (by omega)
  replace LQ:=LQ.kp K5 (by omega)
  replace oQ:=oQ.kp K5 (fun k hk e => by have:=ltQ k hk; omega)
  have z5:=K5.size
  replace K5:=K4.trans K5
  clear K4
  have HG:=hide (HN.out false rfl ok4 y q3 G4)
  obtain ⟨bt, hbt⟩ : ∃ z, (y == (10 : Int)) = z:=⟨_, rfl⟩
  rw [hbt] at HG
  have hq3 : 0 ≤ q3 ∧ q3 ≤ xs.length:=by unfold Stays at S4; omega
  clear G4 S4 HN
  go_wp2_with fail
  refine (must_any g _ p q3 ok4 bt w5 LG).mono ?_
  rintro e w6 ⟨rfl, LG6, K6⟩
  clear hbt
  replace LZ:=LZ.kp K6 (by omega)
  replace LQ:=LQ.kp K6 (by omega)
  replace oQ:=oQ.kp K6 (fun k hk e => by have:=ltQ k hk; omega)
  have z6:=K6.size
  replace K6:=K5.trans K6
  clear K5 LG
  have e0:=LQ.cell 0 rfl
  have e1:=LQ.cell 1 rfl
  have e2:=LQ.cell 2 rfl
  have e3:=LQ.cell 3 rfl
  have e4:=LQ.cell 4 rfl
  have e5:=LQ.cell 5 rfl
  have y0:=LZ.cell 0 rfl
  have y1:=LZ.cell 1 rfl
  have y2:=LZ.cell 2 rfl
  have y3:=LZ.cell 3 rfl
  have y4:=LZ.cell 4 rfl
  have y5:=LZ.cell 5 rfl
  have fy:=LZ.frozen
  have O6:=hide oQ
  have H6:=hide LG6
  clear oQ LQ LZ LG6
  have K7:=kp6 w6 (w.heap.size + 1) (.int .i64 vo) (.int .i64 lo) (.int .i64 v) (.string s) (.slice ua ys.length uc) (.string d)
  generalize (ok4 && bt) = okf at *
  go_wp2
  refine bodyPost_ret (v := sv vo lo v s (.slice ua ys.length uc) d) (by simp [results, Tryz.results183, go_sem, y0, y1, y2, y3, y4, y5]) rfl ?_
  exact ⟨vo, lo, v, s, ua, uc, ys, d, q3, okf, rfl, HG.out, h7, hq3, H6.out.kp K7 (by omega), (O6.out.kp K7 (fun k hk e => by have := ltQ k hk; omega)).mono (by omega), K6.over K7 (fun j e => .inl (by omega))⟩

def cellN (w : World) (g j : Nat) : Int := intOf ((w.cell? ⟨g, j, none⟩).getD .nilIface)
theorem cellN_eq {w : World} {g j : Nat} {x : Int} (h : w.cell? ⟨g, j, none⟩ = some (.int .i64 x)) : cellN w g j = x := by unfold cellN; rw [h]; rfl

theorem implLastNote_any (n f : Int) (ao : Option Addr) (ca : Nat) (xs : List Int) (w : World) (hx : xs.length ≤ 33554432) (hr : RB w (.slice ao xs.length ca) xs) (hb : BytesL xs) (hE : Env w) (hT : EnvT w) (x : SafT × Int) (hxx : Hid (lastA n f xs = x)) :
 Calls Tryz.prog 135 #[cv n f,.slice ao xs.length ca] w fun e w' => ∃ u, e = .returned (.tuple #[sv x.1.1 x.1.2.1 x.1.2.2.1.1 x.1.2.2.1.2.1 u x.1.2.2.2,.int .i64 x.2]) ∧ OI w' w.heap.size u x.1.2.2.1.2.2 ∧ Below w.heap.size w w' := by
 obtain ⟨w0, hw0⟩ : ∃ y, (w.alloc (.cells #[.int .i64 n,.int .i64 f] 39)).alloc (.cells #[.int .i64 0,.int .i64 0,.int .i64 0,.string ⟨#[]⟩,.slice none 0 0,.string ⟨#[]⟩] 43) = y:=⟨_, rfl⟩
 have B0 : Below w.heap.size w w0:=hw0 ▸ qalloc2 _ _ _
 have LC : Loc w0 w.heap.size #[.int .i64 n,.int .i64 f]:=hw0 ▸ (loc_at w _ _ rfl).alloc _
 have LZ : Loc w0 (w.heap.size + 1) #[.int .i64 0,.int .i64 0,.int .i64 0,.string ⟨#[]⟩,.slice none 0 0,.string ⟨#[]⟩]:=hw0 ▸ loc_at (w.alloc _) _ _ (by simp)
 have z0 : w.heap.size + 1 + 1 ≤ w0.heap.size:=by rw [← hw0]; simp
 have NO:=hide fun (g : Nat) (fr p : Int) (w' : World) (h0 : 0 ≤ p) (h1 : p ≤ xs.length) (hg : w.heap.size ≤ g) (b : Below w.heap.size w w') hl => rnote_any w n f g ao ca xs fr p w' hx h0 h1 hr hb.get hE hg b hl
 have ET:=hide fun w' (b : Below w.heap.size w w') => hT.below b
 have HBY:=hide hb
 clear hr hE hT hb
 go_enter Tryz.func135, Tryz.ntmps135
 go_wp2_with fail
 clear hw0
 refine (implSafeNew _).mono ?_
 rintro e w1 ⟨rfl, b1⟩
 replace LC:=LC.up b1
 replace LZ:=LZ.up b1
 have z1:=b1.size
 have B1:=bu B0 b1
 clear b1 B0
 go_upto_region 2 with fail
 obtain ⟨w2, hw2⟩ : ∃ y, w1.alloc (.cells #[.int .i64 0,.int .i64 0,.int .i64 0,.string ⟨#[]⟩,.slice none 0 0,.string ⟨#[]⟩] 43) = y:=⟨_, rfl⟩
 rw [hw2]
 have b2 : Below w1.heap.size w1 w2:=hw2 ▸ conf_below _ _
 have LB : Loc w2 w1.heap.size #[.int .i64 0,.int .i64 0,.int .i64 0,.string ⟨#[]⟩,.slice none 0 0,.string ⟨#[]⟩]:=hw2 ▸ loc_at w1 _ _ rfl
 have z2 : w2.heap.size = w1.heap.size + 1:=by rw [← hw2]; simp
 clear hw2
 replace LC:=LC.up b2
 replace LZ:=LZ.up b2
 have B2:=bu B1 b2
 clear b2 B1
 obtain ⟨hB, ehB⟩ : ∃ y, w1.heap.size = y:=⟨_, rfl⟩
 rw [ehB] at LB ⊢
 have zB : w.heap.size + 1 + 1 ≤ hB:=by omega
 have lB:=LB.lt
 clear z2 ehB z1
 go_wp2
 obtain ⟨g, eg⟩ : ∃ y, w2.heap.size = y:=⟨_, rfl⟩
 obtain ⟨w3, hw3⟩ : ∃ y, w2.alloc (.cells #[.slice ao xs.length ca,.int .i64 0,.int .i64 0,.nilIface] 216) = y:=⟨_, rfl⟩
 rw [hw3]
 have b3 : Below w2.heap.size w2 w3:=hw3 ▸ conf_below _ _
 have LG : Loc w3 g #[.slice ao xs.length ca,.int .i64 0,.int .i64 0,.nilIface]:=hw3 ▸ loc_at w2 _ _ eg
 clear hw3
 replace LC:=LC.up b3
 replace LZ:=LZ.up b3
 replace LB:=LB.up b3
 have B3:=bu B2 b3
 rw [eg] at lB ⊢
 clear b3 B2 eg
 have HI:=hide (show lastA n f xs = lastN n f xs (xs.length + 1) 0 newT from rfl)
 go_loopw [5] (fun r wr => ∃ (vo lo v : Int) (s : ByteArray) (ua : Option Addr) (uc : Nat) (ys : List Int) (d : ByteArray) (fr p : Int) (k : Nat), r = .int .i64 0 ∧ Hid (lastA n f xs = lastN n f xs k p (vo, lo, (v, s, ys), d)) ∧ ((xs.length : Int) < p + k ∧ 0 ≤ p ∧ p ≤ xs.length) ∧ ys.length ≤ 7 ∧ Loc wr w.heap.size #[.int .i64 n,.int .i64 f] ∧ Loc wr (w.heap.size + 1) #[.int .i64 0,.int .i64 0,.int .i64 0,.string ⟨#[]⟩,.slice none 0 0,.string ⟨#[]⟩] ∧ Loc wr hB #[.int .i64 vo,.int .i64 lo,.int .i64 v,.string s,.slice ua ys.length uc,.string d] ∧ Loc wr g #[.slice ao xs.length ca,.int .i64 fr,.int .i64 p,.nilIface] ∧ OI wr w.heap.size (.slice ua ys.length uc) ys ∧ (∀ j, (Value.slice ua ys.length uc).ownBlock = some j → j ≠ hB ∧ j ≠ g ∧ j ≠ w.heap.size ∧ j ≠ w.heap.size + 1) ∧ Below w.heap.size w wr) (fun _ wr => xs.length + 1 - (cellN wr g 2).toNat)
 case atStart => exact ⟨0, 0, 0, ⟨#[]⟩, none, 0, [], ⟨#[]⟩, 0, 0, xs.length + 1, rfl, HI, ⟨by omega, by omega, by omega⟩, by simp, LC, LZ, LB, LG, World.ownsRow_nil _ _ _ _, (fun j e => by cases e), B3⟩
 case round =>
  clear LC LZ LB LG B3 HI
  obtain ⟨vo, lo, v, s, ua, uc, ys, d, fr, p, k, rfl, HI, ⟨hk, hp0, hp1⟩, h7, LC, LZ, LB, LG, oB, tB, BR⟩:=hrel
  have zr:=BR.size
  have lG:=LG.lt
  have HM:=hide (cellN_eq (LG.cell 2 rfl))
  have NX:=hide (NO.out g fr p wr hp0 hp1 (by omega) BR LG)
  have c0:=LC.cell 0 rfl
  have c1:=LC.cell 1 rfl
  clear LG
  go_wp2_with fail
  clear c0 c1
  refine NX.out.mono ?_
  rintro e w4 ⟨vo', lo', v', s', ua', uc', ys', d', q, ok, rfl, G4, h7', hq, LG, oN, K4⟩
  clear NX
  replace LC:=LC.kp K4 (by omega)
  replace LZ:=LZ.kp K4 (by omega)
  replace LB:=LB.kp K4 (by omega)
  replace oB:=oB.kp K4 (fun j hj e => by have:=tB j hj; omega)
  have z4:=K4.size
  have B4:=Below.kp BR K4 BR.size (fun j e => by omega)
  have ltN:=World.ownsRow.lt oN
  clear K4 BR
  go_upto_region 4 with fail
  obtain ⟨w5, hw5⟩ : ∃ y, w4.alloc (.cells #[.int .i64 vo',.int .i64 lo',.int .i64 v',.string s',.slice ua' ys'.length uc',.string d'] 43) = y:=⟨_, rfl⟩
  rw [hw5]
  have b5 : Below w4.heap.size w4 w5:=hw5 ▸ conf_below _ _
  have LS : Loc w5 w4.heap.size #[.int .i64 vo',.int .i64 lo',.int .i64 v',.string s',.slice ua' ys'.length uc',.string d']:=hw5 ▸ loc_at w4 _ _ rfl
  have z5 : w4.heap.size + 1 ≤ w5.heap.size:=by rw [← hw5]; simp
  clear hw5
  replace LC:=LC.up b5
  replace LZ:=LZ.up b5
  replace LB:=LB.up b5
  replace LG:=LG.up b5
  replace oB:=oB.below b5
  replace oN:=oN.below b5
  have B5:=bu B4 b5
  clear b5 B4
  have LA:=hide (lacks_any g _ p q ok w5 (ET.out _ B5) LG)
  go_wp2_with fail
  refine LA.out.mono ?_
  rintro e w6 ⟨rfl, b6⟩
  clear LA
  replace LC:=LC.up b6
  replace LZ:=LZ.up b6
  replace LB:=LB.up b6
  replace LG:=LG.up b6
  replace LS:=LS.up b6
  replace oB:=oB.below b6
  replace oN:=oN.below b6
  have z6:=b6.size
  have B6:=bu B5 b6
  clear b6 B5
  cases ok with
  | false =>
   have hnone : noteP n f xs p = none:=by
    have:=G4.1
    simp only [Bool.true_and] at this
    cases hc : noteP n f xs p with
    | none => rfl
    | some z => rw [hc] at this; simp at this
   have hx1 : x = ((vo, lo, (v, s, ys), d), p):=by rw [← hxx.out, HI.out, lastN_none hnone]
   have e0:=LB.cell 0 rfl
   have e1:=LB.cell 1 rfl
   have e2:=LB.cell 2 rfl
   have e3:=LB.cell 3 rfl
   have e4:=LB.cell 4 rfl
   have e5:=LB.cell 5 rfl
   have y0:=LZ.cell 0 rfl
   have y1:=LZ.cell 1 rfl
   have y2:=LZ.cell 2 rfl
   have y3:=LZ.cell 3 rfl
   have y4:=LZ.cell 4 rfl
   have y5:=LZ.cell 5 rfl
   have fy:=LZ.frozen
   have O6:=hide oB
   subst hx1
   clear hxx HI G4 hnone oB oN LC LZ LB LG LS NO ET HBY HM ltN
   have K7:=kp6 w6 (w.heap.size + 1) (.int .i64 vo) (.int .i64 lo) (.int .i64 v) (.string s) (.slice ua ys.length uc) (.string d)
   go_wp2
   refine bodyPost_ret (v := .tuple #[sv vo lo v s (.slice ua ys.length uc) d,.int .i64 p]) (by simp [results, Tryz.results135, go_sem, y0, y1, y2, y3, y4, y5]) rfl ?_
   exact ⟨_, rfl, O6.out.kp K7 (fun j hj e => by have := tB j hj; omega), Below.kp B6 K7 B6.size (fun j e => by omega)⟩
  | true =>
   have hs4:=G4.2 rfl
   have st:=noteP_step HBY.out hs4
   have HN : Hid (lastA n f xs = lastN n f xs (k - 1) q (vo', lo', (v', s', ys'), d')):=by
    rw [HI.out]
    obtain ⟨j, rfl⟩ : ∃ j, k = j + 1:=⟨k - 1, by omega⟩
    rw [lastN_some hs4]; exact hide rfl
   have e0:=LS.cell 0 rfl
   have e1:=LS.cell 1 rfl
   have e2:=LS.cell 2 rfl
   have e3:=LS.cell 3 rfl
   have e4:=LS.cell 4 rfl
   have e5:=LS.cell 5 rfl
   have y0:=LB.cell 0 rfl
   have y1:=LB.cell 1 rfl
   have y2:=LB.cell 2 rfl
   have y3:=LB.cell 3 rfl
   have y4:=LB.cell 4 rfl
   have y5:=LB.cell 5 rfl
   have fy:=LB.frozen
   have HB:=hide LB
   have HG:=hide LG
   have HC:=hide LC
   have HZ:=hide LZ
   have ON:=hide oN
   clear HI G4 hs4 oB oN LS LB LG LC LZ NO ET HBY
   have K7:=kp6 w6 hB (.int .i64 vo') (.int .i64 lo') (.int .i64 v') (.string s') (.slice ua' ys'.length uc') (.string d')
   go_wp2
   go_roundw
   case rel =>
    refine ⟨vo', lo', v', s', ua', uc', ys', d', p, q, k - 1, rfl, HN, ⟨by omega, by omega, by omega⟩, h7', HC.out.kp K7 (by omega), HZ.out.kp K7 (by omega), ?_, HG.out.kp K7 (by omega), (ON.out.kp K7 (fun j hj e => by have := ltN j hj; omega)).mono (by omega), (fun j hj => by have := ltN j hj; omega), Below.kp B6 K7 B6.size (fun j e => by omega)⟩
    exact (((((HB.out.set 0 _ rfl).set 1 _ rfl).set 2 _ rfl).set 3 _ rfl).set 4 _ rfl).set 5 _ rfl
   case measure =>
    have hm2:=cellN_eq ((HG.out.kp K7 (by omega)).cell 2 rfl)
    simp only [HM.out, hm2]
    omega
end Go.Proofs.YtndpjhiidmdlhaaGreatDoor
namespace Go.Proofs.YtndpjhiidmdlhaaGreatDoor
open Go.RowKit

theorem dcut_to (ao : Option Addr) (n ca k : Nat) (w : World) (hk : k ≤ ca) :
 (Instr.slice 31 (.slice ao n ca) none (some (.int .i64 (k : Int))) none).run Tryz.prog w = .ok (.slice ao k ca) w := by
 obtain ⟨i0, hi, hz0, hz1, hz2⟩:=info_parts Tryz.info5
 rw [run_slice_h (ht := Tryz.underlying31) (kh := .i64) (h := (k : Int)) (h0 := by omega) (h2 := by omega)]
 have he : Tryz.prog.elem 31 = 5:=by simp [Program.elem, Tryz.underlying31]
 have hs : (sizeOf (Tryz.prog.elem 31)).run Tryz.prog w = .ok 1 w:=by rw [he]; simp [sizeOf, typeInfo, hi, hz1]
 rw [hs]
 simp [sliced, Result.andThen]
 intro _; cases ao <;> rfl
end Go.Proofs.YtndpjhiidmdlhaaGreatDoor
namespace Go.Proofs.YtndpjhiidmdlhaaGreatDoor
open Go Go.RowKit
set_option linter.unusedSectionVars false
variable [∀ (a b c d : Int), Decidable (Ok4 a b c d)]
variable [∀ (a b c d : Nat), Decidable (okN a b c d)]
variable [∀ (last : Int) (s : St), Decidable (GoodSt last s)]
variable [∀ (x : T4), Decidable (OkT x)]
variable [∀ (n : Int) (s : List Int), Decidable (OkL n s)]
variable [∀ (n f : Int), Decidable (COk n f)]

structure LF (xs : List Int) (x : SafT × Int) : Prop where
 lo : 0 ≤ x.2
 hi : x.2 ≤ (xs.length : Int)
 vo : 0 ≤ x.1.1 ∧ x.1.1 ≤ 60
 lk : 0 ≤ x.1.2.1 ∧ x.1.2.1 ≤ 60
 n : 0 ≤ x.1.2.2.1.1 ∧ x.1.2.2.1.1 ≤ 60
 s : x.1.2.2.1.2.1.size ≤ 1920
 q : x.1.2.2.1.2.2.length ≤ 7
 d : x.1.2.2.2.size ≤ 1920
theorem lastA_fact {xs : List Int} (hb : BytesL xs) (n f : Int) : LF xs (lastA n f xs) := by
 obtain ⟨h1, _, h3, _, h⟩:=lastN_end hb n f (xs.length + 1) 0 newT (by omega) (by omega) (by omega)
 rcases h with h | h
 ·have e : (lastA n f xs).1 = newT:=h
  refine ⟨h1, h3, ?_, ?_, ?_, ?_, ?_, ?_⟩ <;> rw [e] <;> (try exact (by decide)) <;> simp [newT]
 ·obtain ⟨a, b, ⟨c, d, e, _⟩, g⟩:=sok_small h
  exact ⟨h1, h3, a, b, c, d, e, g⟩
abbrev hov (vo lo v : Int) (s : ByteArray) (a : Value) (d : ByteArray) (b : Value) (su : Int) : Value := .agg #[.int .i64 vo,.int .i64 lo,.int .i64 v,.string s, a,.string d, b,.int .i64 su]
set_option linter.unusedSimpArgs false in
theorem holderBy_any (n f : Int) (ao : Option Addr) (ca : Nat) (xs : List Int) (su : Int) (w : World) (hl : xs.length ≤ 1048577) (hr : RB w (.slice ao xs.length ca) xs) (hb : BytesL xs) (hE : Env w) (hT : EnvT w) (x : SafT × Int) (hxx : Hid (lastA n f xs = x)) (k : Nat) (hk : x.2 = k) :
 Calls Tryz.prog 71 #[cv n f, dv (.slice ao xs.length ca) su] w fun e w' => ∃ u, e = .returned (hov x.1.1 x.1.2.1 x.1.2.2.1.1 x.1.2.2.1.2.1 u x.1.2.2.2 (.slice ao k ca) k) ∧ OI w' w.heap.size u x.1.2.2.1.2.2 ∧ Below w.heap.size w w' := by
 have lf:=lastA_fact hb n f
 rw [hxx.out] at lf
 have LN:=hide fun w he ht h => implLastNote_any n f ao ca xs w (by omega) h hb he ht x hxx
 obtain ⟨⟨p1, p2, ⟨p3, p4, p5⟩, p6⟩, p7⟩:=x
 simp only at hk LN lf ⊢
 subst hk
 have hca : k ≤ ca:=by have h1:=lf.hi; obtain ⟨_, _, _, e, hc, _⟩:=hr; cases e; simp only at h1; omega
 have hs1 : ∀ w, (Instr.slice 31 (.slice ao xs.length ca) none (some (.int .i64 (k : Int))) none).run Tryz.prog w = .ok (.slice ao k ca) w:=fun w => dcut_to ao xs.length ca k w hca
 have hq:=lf.q
 simp only at hq
 have HE:=hide hE
 have HT:=hide hT
 have HR:=hide hr
 clear lf hb hE hT hr hxx hca
 obtain ⟨w0, hw0, Bw0, LC, D, O, zw0⟩:=bx3 w #[.int .i64 n,.int .i64 f] 39 #[.slice ao xs.length ca,.int .i64 su] 46 #[.int .i64 0,.int .i64 0,.int .i64 0,.string ⟨#[]⟩,.slice none 0 0,.string ⟨#[]⟩,.slice none 0 0,.int .i64 0] 105
 go_enter Tryz.func71, Tryz.ntmps71
 have cLC0:=LC.cell 0 rfl
 have cLC1:=LC.cell 1 rfl
 have cD0:=D.cell 0 rfl
 go_wp2_with fail
 clear hw0
 refine (LN.out _ (HE.out.below Bw0) (HT.out.below Bw0) (HR.out.below Bw0)).mono ?_
 rintro _ w1 ⟨u, rfl, oS, bb⟩
 clear cLC0 cLC1 cD0
 have Bw1:=bu Bw0 bb
 have sw1:=bb.size
 replace LC:=LC.up bb
 replace D:=D.up bb
 replace O:=O.up bb
 clear Bw0
 clear bb
 have toS:=World.ownsRow.lt oS
 obtain ⟨aoS, koS, rfl⟩:=oS.form
 go_upto_region 2 with (refine wstore (loc_at w1 #[.int .i64 0,.int .i64 0,.int .i64 0,.string ⟨#[]⟩,.slice none 0 0,.string ⟨#[]⟩] 43 rfl) 43 #[.int .i64 p1,.int .i64 p2,.int .i64 p3,.string p4,.slice aoS p5.length koS,.string p6] rfl _ _ rfl rfl rfl (by kernel_rfl) rfl (by simp [Value.oneCell']) ?_)
 obtain ⟨w2, hw2⟩ : ∃ y, (w1.alloc (.cells #[.int .i64 0,.int .i64 0,.int .i64 0,.string ⟨#[]⟩,.slice none 0 0,.string ⟨#[]⟩] 43)).setRow w1.heap.size #[.int .i64 p1,.int .i64 p2,.int .i64 p3,.string p4,.slice aoS p5.length koS,.string p6] = y:=⟨_, rfl⟩
 rw [hw2]
 have bb : Below w1.heap.size w1 w2:=hw2 ▸ box_below _ _ _ _
 have S : Loc w2 w1.heap.size #[.int .i64 p1,.int .i64 p2,.int .i64 p3,.string p4,.slice aoS p5.length koS,.string p6]:=hw2 ▸ box_loc _ _ _ _
 have zw2 : w2.heap.size = w1.heap.size + 1:=by rw [← hw2]; exact box_size _ _ _ _
 clear hw2
 have Bw2:=bu Bw1 bb
 have sw2:=bb.size
 replace LC:=LC.up bb
 replace D:=D.up bb
 replace O:=O.up bb
 replace oS:=oS.below bb
 clear Bw1
 clear bb
 have K : Hid (∀ w', Kp w2 w' (fun k => k = w.heap.size + 1 + 1) → (fun w' => Kp w2 w' (fun k => k = w.heap.size + 1 + 1) ∧ Loc w' (w1.heap.size) #[.int .i64 p1,.int .i64 p2,.int .i64 p3,.string p4,.slice aoS p5.length koS,.string p6] ∧ (w'.cell? ⟨w.heap.size + 1, 0, none⟩ = some (.slice ao xs.length ca) ∧ w'.cell? ⟨w.heap.size + 1, 1, none⟩ = some (.int .i64 su))) w'):=hide fun w' hk' => ⟨hk', S.kp hk' (by omega), ⟨(D.kp hk' (by omega)).cell 0 rfl, (D.kp hk' (by omega)).cell 1 rfl⟩⟩
 have bA : Kp w2 w2.drew (fun k => k = w.heap.size + 1 + 1):=Below.kpOf (Below.drew (Below.refl _ _)) _
 have bb : Below w2.heap.size w2 w2.drew:=Below.drew (Below.refl _ _)
 refine wp_region_noPanic ?_
 refine wp_region_held_drew (S := fun w' => Kp w2 w' (fun k => k = w.heap.size + 1 + 1) ∧ Loc w' (w1.heap.size) #[.int .i64 p1,.int .i64 p2,.int .i64 p3,.string p4,.slice aoS p5.length koS,.string p6] ∧ (w'.cell? ⟨w.heap.size + 1, 0, none⟩ = some (.slice ao xs.length ca) ∧ w'.cell? ⟨w.heap.size + 1, 1, none⟩ = some (.int .i64 su))) (by kernel_rfl) (K.out _ bA) (fun hHeld => ?_)
 obtain ⟨wd2, hwd⟩ : ∃ y, w2.drew = y:=⟨_, rfl⟩
 rw [hwd] at bA bb hHeld ⊢
 clear hwd
 have Bwd2:=bu Bw2 bb
 have swd2:=bb.size
 replace LC:=LC.up bb
 replace D:=D.up bb
 replace O:=O.up bb
 replace S:=S.up bb
 replace oS:=oS.below bb
 clear Bw2
 clear bb
 refine take_at (i := 0) (d := 14) (v := .agg #[.int .i64 p1,.int .i64 p2,.int .i64 p3,.string p4,.slice aoS p5.length koS,.string p6]) rfl rfl (by kernel_rfl) (by kernel_rfl) (by kernel_rfl) (fun _ _ _ h => h) ?_ (by assumption) ?_
 ·exact yields_row rfl 43 _ rfl rfl _ (fun w h => h.2.1) Tryz.underlying43 rfl (by kernel_rfl)
 simp only [pU]
 refine' tj 1 15 rfl ?_ ?_;rotate_left
 ·intro w h;go_simp;try rfl
 simp only [pU]
 refine' tj 3 17 rfl ?_ ?_;rotate_left
 ·intro w h;go_simp;try rfl
 simp only [pU]
 refine' tj 5 19 rfl ?_ ?_;rotate_left
 ·intro w h;go_simp;try rfl
 simp only [pU]
 refine' tj 2 16 rfl ?_ ?_;rotate_left
 ·intro w h;go_simp;try rfl
 simp only [pU]
 refine' tj 4 18 rfl ?_ ?_;rotate_left
 ·intro w h;go_simp;try rfl
 simp only [pU]
 refine' tj 6 20 rfl ?_ ?_;rotate_left
 ·intro w h;go_simp;try rfl
 simp only [pU]
 refine' tj 7 21 rfl ?_ ?_;rotate_left
 ·intro w h;go_simp;try rfl
 simp only [pU]
 refine rd 8 rfl (fun KK hKK => ?_)
 rw [if_pos (by rfl)]
 refine wp_store_mid 105 (.tmp 4) (.tmp 21) rfl (w.heap.size + 1 + 1) 0 #[.int .i64 p1,.int .i64 p2,.int .i64 p3,.string p4,.slice aoS p5.length koS,.string p6,.slice ao k ca,.int .i64 (k : Int)] rfl rfl (O.there 0 8 (by simp)) (by kernel_rfl) (by simp [Value.oneCell']) ?_
 obtain ⟨wx2_1, hq⟩ : ∃ y, wd2.setCells (w.heap.size + 1 + 1) 0 [.int .i64 p1, .int .i64 p2, .int .i64 p3, .string p4, .slice aoS p5.length koS, .string p6, .slice ao k ca, .int .i64 (k : Int)] = y:=⟨_, rfl⟩
 have kN : Kp wd2 wx2_1 (fun k => k = w.heap.size + 1 + 1):=hq ▸ setCells_kp _ _ _ _
 have bx2_2 : Kp w2 wx2_1 (fun k => k = w.heap.size + 1 + 1):=bA.trans (kN.mono (fun k e => e))
 replace O : Loc wx2_1 (w.heap.size + 1 + 1) #[.int .i64 p1,.int .i64 p2,.int .i64 p3,.string p4,.slice aoS p5.length koS,.string p6,.slice ao k ca,.int .i64 (k : Int)]:=hq ▸ O.setCells _ _ rfl
 rw [show wd2.setCells (w.heap.size + 1 + 1) 0 (Array.toList #[.int .i64 p1,.int .i64 p2,.int .i64 p3,.string p4,.slice aoS p5.length koS,.string p6,.slice ao k ca,.int .i64 (k : Int)]) = wx2_1 from hq]
 clear hHeld
 refine hKK.out _ _ (K.out _ bx2_2) (fun hHeld => ?_)
 clear hKK KK bA
 replace LC:=LC.kp kN (by omega)
 replace D:=D.kp kN (by omega)
 replace S:=S.kp kN (by omega)
 replace oS:=oS.kp kN (fun j hj e => by have:=toS j hj; omega)
 have Bwx2_1:=Below.kp Bwd2 kN Bwd2.size (fun k hk => by omega)
 have swx2_1:=kN.size
 clear hq kN Bwd2
 clear hHeld
 refine wdn ?_
 clear K bx2_2
 go_wp2
 refine bodyPost_ret (v := hov p1 p2 p3 p4 (.slice aoS p5.length koS) p6 (.slice ao k ca) k) (res_row Tryz.results71 _ O rfl Tryz.underlying105 rfl (by kernel_rfl)) rfl ?_
 exact ⟨_, rfl, oS.mono (by omega), Bwx2_1⟩
end Go.Proofs.YtndpjhiidmdlhaaGreatDoor
namespace Go.Proofs.YtndpjhiidmdlhaaGreatDoor
open Go.RowKit

def GetEnd (r : Option (Int × Int)) (e : Ending) : Prop :=
 (∃ n q, r = some (n, q) ∧ e = .returned (.tuple #[.int .i64 n,.int .i64 q,.bool true])) ∨ (r = none ∧ e = .returned (.tuple #[.int .i64 0,.int .i64 0,.bool false]))

theorem specGet_nat (b off ca : Nat) (xs : List Int) (p : Nat) (w : World) (hl : xs.length ≤ 140737488355328) (h : ∀ k, k < xs.length → w.cell? ⟨b, off + k, none⟩ = some (.int .u8 (xs.getD k 0))) (hb : ∀ k, k < xs.length → 0 ≤ xs.getD k 0 ∧ xs.getD k 0 ≤ 255) :
 Calls Tryz.prog 132 #[.slice (some ⟨b, off, none⟩) xs.length ca,.int .i64 p] w fun e w' => GetEnd (getF xs 5 0 p 0) e ∧ w' = w := by
 have hd0 : decide ((p : Int) < 0) = false:=by simp
 go_enter Tryz.func132, Tryz.ntmps132
 go_wp2
 go_loop [7, 8] (fun y z => ∃ (i : Nat) (n : Int), i ≤ 5 ∧ y = .int .i64 n ∧ z = .int .i64 i ∧ 0 ≤ n ∧ n < 128 ^ i ∧ Hid (getF xs 5 0 p 0 = getF xs (5 - i) i (p + i) n)) (fun _ z => 5 - (intOf z).toNat)
 case atStart => exact ⟨0, 0, by omega, rfl, rfl, by omega, by simp, rfl⟩
 case round =>
  obtain ⟨i, n, hi, rfl, rfl, hn0, hn, HR⟩:=hrel
  obtain rfl | rfl | rfl | rfl | rfl | rfl : i = 0 ∨ i = 1 ∨ i = 2 ∨ i = 3 ∨ i = 4 ∨ i = 5:=by omega
  case inr.inr.inr.inr.inr =>
   go_wp2
   go_ret3
   exact ⟨.inr ⟨by rw [HR.out]; rfl, rfl⟩, rfl⟩
  case inl =>
   simp only [Int.reducePow] at hn
   by_cases hq : p < xs.length
   ·have hx:=hb (p) hq
    have hc:=h (p) hq
    obtain ⟨d, hd⟩ : ∃ d, xs.getD (p) 0 = d:=⟨_, rfl⟩
    have HD : Hid (xs.getD (p) 0 = d):=hd
    rw [hd] at hx hc
    clear hd h hb
    have hge : decide ((xs.length : Int) ≤ (p : Int)) = false:=by simp; omega
    have hor:=or_sum n (d % 128) 1 0 (by decide) (by decide) hn0 hn (by omega) (by omega)
    simp only [Int.natCast_one, Int.mul_one] at hor
    by_cases h1 : 128 ≤ d
    ·have HS : Hid (getF xs 5 0 p 0 = getF xs 4 1 (p + 1) (n + d % 128 * 1)):=getF_step (by decide) HR.out hq HD.out h1
     go_wp2
     go_round
     case rel => exact ⟨1, _, by omega, by go_num, rfl, by omega, by simp only [Int.reducePow]; omega, HS⟩
     case measure => simp [intOf]
    ·by_cases h3 : d = 0
     ·have HY : Hid (getF xs 5 0 p 0 = some (n + d % 128 * 1, (p : Int) + 1)):=getF_yes (by decide) HR.out hq HD.out h1 (by omega)
      clear h3
      go_wp2
      go_ret3
      exact ⟨.inl ⟨_, _, HY.out, by simp⟩, rfl⟩
     ·have h3' : (d == 0) = false:=by simp [h3]
      by_cases h2 : 2147483647 < n + d % 128 * 1
      ·omega
      ·have h2' : n + d % 128 * 1 ≤ 2147483647:=by omega
       have HY : Hid (getF xs 5 0 p 0 = some (n + d % 128 * 1, ((p : Nat) : Int) + 1)):=getF_yes (by decide) HR.out hq HD.out h1 (by omega)
       go_wp2
       go_ret3
       exact ⟨.inl ⟨_, _, HY.out, by simp⟩, rfl⟩
   ·have HN : Hid (getF xs 5 0 p 0 = none):=HR.out.trans (getF_out _ _ _ _ _ hq)
    have hge : decide ((xs.length : Int) ≤ (p : Int)) = true:=by simp; omega
    go_wp2
    go_ret3
    exact ⟨.inr ⟨HN.out, rfl⟩, rfl⟩
  case inr.inl =>
   simp only [Int.reducePow] at hn
   by_cases hq : p + 1 < xs.length
   ·have hx:=hb (p + 1) hq
    have hc:=h (p + 1) hq
    obtain ⟨d, hd⟩ : ∃ d, xs.getD (p + 1) 0 = d:=⟨_, rfl⟩
    have HD : Hid (xs.getD (p + 1) 0 = d):=hd
    rw [hd] at hx hc
    clear hd h hb
    have hge : decide ((xs.length : Int) - 1 ≤ (p : Int)) = false:=by simp; omega
    have hor:=or_sum n (d % 128) 128 7 (by decide) (by decide) hn0 hn (by omega) (by omega)
    rw [show ((128 : Nat) : Int) = 128 from rfl] at hor
    by_cases h1 : 128 ≤ d
    ·have HS : Hid (getF xs 5 0 p 0 = getF xs 3 2 (p + 1 + 1) (n + d % 128 * 128)):=getF_step (by decide) HR.out hq HD.out h1
     go_wp2
     go_round
     case rel => exact ⟨2, _, by omega, rfl, rfl, by omega, by simp only [Int.reducePow]; omega, HS⟩
     case measure => simp [intOf]
    ·by_cases h3 : d = 0
     ·have HN : Hid (getF xs 5 0 p 0 = none):=getF_no rfl HR.out hq HD.out h1 (.inr ⟨h3, by omega⟩)
      have h3' : (d == 0) = true:=by simp [h3]
      clear h3
      go_wp2
      go_ret3
      exact ⟨.inr ⟨HN.out, rfl⟩, rfl⟩
     ·have h3' : (d == 0) = false:=by simp [h3]
      by_cases h2 : 2147483647 < n + d % 128 * 128
      ·omega
      ·have h2' : n + d % 128 * 128 ≤ 2147483647:=by omega
       have HY : Hid (getF xs 5 0 p 0 = some (n + d % 128 * 128, ((p + 1 : Nat) : Int) + 1)):=getF_yes (by decide) HR.out hq HD.out h1 (by omega)
       go_wp2
       go_ret3
       exact ⟨.inl ⟨_, _, HY.out, by simp⟩, rfl⟩
   ·have HN : Hid (getF xs 5 0 p 0 = none):=HR.out.trans (getF_out _ _ _ _ _ hq)
    have hge : decide ((xs.length : Int) - 1 ≤ (p : Int)) = true:=by simp; omega
    go_wp2
    go_ret3
    exact ⟨.inr ⟨HN.out, rfl⟩, rfl⟩
  case inr.inr.inl =>
   simp only [Int.reducePow] at hn
   by_cases hq : p + 2 < xs.length
   ·have hx:=hb (p + 2) hq
    have hc:=h (p + 2) hq
    obtain ⟨d, hd⟩ : ∃ d, xs.getD (p + 2) 0 = d:=⟨_, rfl⟩
    have HD : Hid (xs.getD (p + 2) 0 = d):=hd
    rw [hd] at hx hc
    clear hd h hb
    have hge : decide ((xs.length : Int) - 2 ≤ (p : Int)) = false:=by simp; omega
    have hor:=or_sum n (d % 128) 16384 14 (by decide) (by decide) hn0 hn (by omega) (by omega)
    rw [show ((16384 : Nat) : Int) = 16384 from rfl] at hor
    by_cases h1 : 128 ≤ d
    ·have HS : Hid (getF xs 5 0 p 0 = getF xs 2 3 (p + 2 + 1) (n + d % 128 * 16384)):=getF_step (by decide) HR.out hq HD.out h1
     go_wp2
     go_round
     case rel => exact ⟨3, _, by omega, rfl, rfl, by omega, by simp only [Int.reducePow]; omega, HS⟩
     case measure => simp [intOf]
    ·by_cases h3 : d = 0
     ·have HN : Hid (getF xs 5 0 p 0 = none):=getF_no rfl HR.out hq HD.out h1 (.inr ⟨h3, by omega⟩)
      have h3' : (d == 0) = true:=by simp [h3]
      clear h3
      go_wp2
      go_ret3
      exact ⟨.inr ⟨HN.out, rfl⟩, rfl⟩
     ·have h3' : (d == 0) = false:=by simp [h3]
      by_cases h2 : 2147483647 < n + d % 128 * 16384
      ·omega
      ·have h2' : n + d % 128 * 16384 ≤ 2147483647:=by omega
       have HY : Hid (getF xs 5 0 p 0 = some (n + d % 128 * 16384, ((p + 2 : Nat) : Int) + 1)):=getF_yes (by decide) HR.out hq HD.out h1 (by omega)
       go_wp2
       go_ret3
       exact ⟨.inl ⟨_, _, HY.out, by simp⟩, rfl⟩
   ·have HN : Hid (getF xs 5 0 p 0 = none):=HR.out.trans (getF_out _ _ _ _ _ hq)
    have hge : decide ((xs.length : Int) - 2 ≤ (p : Int)) = true:=by simp; omega
    go_wp2
    go_ret3
    exact ⟨.inr ⟨HN.out, rfl⟩, rfl⟩
  case inr.inr.inr.inl =>
   simp only [Int.reducePow] at hn
   by_cases hq : p + 3 < xs.length
   ·have hx:=hb (p + 3) hq
    have hc:=h (p + 3) hq
    obtain ⟨d, hd⟩ : ∃ d, xs.getD (p + 3) 0 = d:=⟨_, rfl⟩
    have HD : Hid (xs.getD (p + 3) 0 = d):=hd
    rw [hd] at hx hc
    clear hd h hb
    have hge : decide ((xs.length : Int) - 3 ≤ (p : Int)) = false:=by simp; omega
    have hor:=or_sum n (d % 128) 2097152 21 (by decide) (by decide) hn0 hn (by omega) (by omega)
    rw [show ((2097152 : Nat) : Int) = 2097152 from rfl] at hor
    by_cases h1 : 128 ≤ d
    ·have HS : Hid (getF xs 5 0 p 0 = getF xs 1 4 (p + 3 + 1) (n + d % 128 * 2097152)):=getF_step (by decide) HR.out hq HD.out h1
     go_wp2
     go_round
     case rel => exact ⟨4, _, by omega, rfl, rfl, by omega, by simp only [Int.reducePow]; omega, HS⟩
     case measure => simp [intOf]
    ·by_cases h3 : d = 0
     ·have HN : Hid (getF xs 5 0 p 0 = none):=getF_no rfl HR.out hq HD.out h1 (.inr ⟨h3, by omega⟩)
      have h3' : (d == 0) = true:=by simp [h3]
      clear h3
      go_wp2
      go_ret3
      exact ⟨.inr ⟨HN.out, rfl⟩, rfl⟩
     ·have h3' : (d == 0) = false:=by simp [h3]
      by_cases h2 : 2147483647 < n + d % 128 * 2097152
      ·omega
      ·have h2' : n + d % 128 * 2097152 ≤ 2147483647:=by omega
       have HY : Hid (getF xs 5 0 p 0 = some (n + d % 128 * 2097152, ((p + 3 : Nat) : Int) + 1)):=getF_yes (by decide) HR.out hq HD.out h1 (by omega)
       go_wp2
       go_ret3
       exact ⟨.inl ⟨_, _, HY.out, by simp⟩, rfl⟩
   ·have HN : Hid (getF xs 5 0 p 0 = none):=HR.out.trans (getF_out _ _ _ _ _ hq)
    have hge : decide ((xs.length : Int) - 3 ≤ (p : Int)) = true:=by simp; omega
    go_wp2
    go_ret3
    exact ⟨.inr ⟨HN.out, rfl⟩, rfl⟩
  case inr.inr.inr.inr.inl =>
   simp only [Int.reducePow] at hn
   by_cases hq : p + 4 < xs.length
   ·have hx:=hb (p + 4) hq
    have hc:=h (p + 4) hq
    obtain ⟨d, hd⟩ : ∃ d, xs.getD (p + 4) 0 = d:=⟨_, rfl⟩
    have HD : Hid (xs.getD (p + 4) 0 = d):=hd
    rw [hd] at hx hc
    clear hd h hb
    have hge : decide ((xs.length : Int) - 4 ≤ (p : Int)) = false:=by simp; omega
    have hor:=or_sum n (d % 128) 268435456 28 (by decide) (by decide) hn0 hn (by omega) (by omega)
    rw [show ((268435456 : Nat) : Int) = 268435456 from rfl] at hor
    by_cases h1 : 128 ≤ d
    ·have HS : Hid (getF xs 5 0 p 0 = getF xs 0 5 (p + 4 + 1) (n + d % 128 * 268435456)):=getF_step (by decide) HR.out hq HD.out h1
     go_wp2
     go_round
     case rel => exact ⟨5, _, by omega, rfl, rfl, by omega, by simp only [Int.reducePow]; omega, HS⟩
     case measure => simp [intOf]
    ·by_cases h3 : d = 0
     ·have HN : Hid (getF xs 5 0 p 0 = none):=getF_no rfl HR.out hq HD.out h1 (.inr ⟨h3, by omega⟩)
      have h3' : (d == 0) = true:=by simp [h3]
      clear h3
      go_wp2
      go_ret3
      exact ⟨.inr ⟨HN.out, rfl⟩, rfl⟩
     ·have h3' : (d == 0) = false:=by simp [h3]
      by_cases h2 : 2147483647 < n + d % 128 * 268435456
      ·have HN : Hid (getF xs 5 0 p 0 = none):=getF_no (by decide) HR.out hq HD.out h1 (.inl h2)
       go_wp2
       go_ret3
       exact ⟨.inr ⟨HN.out, rfl⟩, rfl⟩
      ·have h2' : n + d % 128 * 268435456 ≤ 2147483647:=by omega
       have HY : Hid (getF xs 5 0 p 0 = some (n + d % 128 * 268435456, ((p + 4 : Nat) : Int) + 1)):=getF_yes (by decide) HR.out hq HD.out h1 (by omega)
       go_wp2
       go_ret3
       exact ⟨.inl ⟨_, _, HY.out, by simp⟩, rfl⟩
   ·have HN : Hid (getF xs 5 0 p 0 = none):=HR.out.trans (getF_out _ _ _ _ _ hq)
    have hge : decide ((xs.length : Int) - 4 ≤ (p : Int)) = true:=by simp; omega
    go_wp2
    go_ret3
    exact ⟨.inr ⟨HN.out, rfl⟩, rfl⟩

theorem specGet_out (ao : Option Addr) (ca len : Nat) (p : Int) (w : World) (hl : len ≤ 140737488355328) (hp : p < 0 ∨ (len : Int) ≤ p) :
 Calls Tryz.prog 132 #[.slice ao len ca,.int .i64 p] w fun e w' => e = .returned (.tuple #[.int .i64 0,.int .i64 0,.bool false]) ∧ w' = w := by
 by_cases hn : p < 0
 ·clear hp
  go_enter Tryz.func132, Tryz.ntmps132
  go_wp2
  refine wp_loop_rounds 1 ?_
  rw [rounds_succ]
  go_wp2
  go_ret3
  exact ⟨rfl, rfl⟩
 ·have hd : decide (p < 0) = false:=by simpa using hn
  have hp2 : (len : Int) ≤ p:=by omega
  have hd2 : decide ((len : Int) ≤ p) = true:=by simpa using hp2
  clear hp
  go_enter Tryz.func132, Tryz.ntmps132
  go_wp2
  refine wp_loop_rounds 1 ?_
  rw [rounds_succ]
  go_wp2
  go_ret3
  exact ⟨rfl, rfl⟩

theorem specGet_any (v : Value) (xs : List Int) (p : Int) (w : World) (h : RB w v xs) (hb : ∀ k, k < xs.length → 0 ≤ xs.getD k 0 ∧ xs.getD k 0 ≤ 255) :
 Calls Tryz.prog 132 #[v,.int .i64 p] w fun e w' => GetEnd (getNum xs p) e ∧ w' = w := by
 obtain ⟨hl, ao, ca, rfl, _, h⟩:=h
 by_cases hp : p < 0
 ·refine (specGet_out ao ca xs.length p w hl (.inl hp)).mono ?_
  rintro e w' ⟨rfl, rfl⟩
  exact ⟨.inr ⟨getNum_neg xs p hp, rfl⟩, rfl⟩
 ·obtain ⟨m, rfl⟩:=Int.eq_ofNat_of_zero_le (Int.not_lt.1 hp)
  rw [getNum_nat]
  rcases h with rfl | ⟨b, off, rfl, h⟩
  ·refine (specGet_out ao ca 0 m w (by omega) (.inr (by omega))).mono ?_
   rintro e w' ⟨rfl, rfl⟩
   exact ⟨.inr ⟨getF_out _ _ _ _ _ (by simp), rfl⟩, rfl⟩
  ·exact specGet_nat b off ca xs m w hl h hb

theorem specGet_ans (v : Value) (xs : List Int) (p : Int) (w : World) (h : RB w v xs) (hb : Bytes xs) :
 Calls Tryz.prog 132 #[v,.int .i64 p] w fun e w' => e = .returned (.tuple #[.int .i64 (ans1 (getNum xs p)),.int .i64 (ans2 (getNum xs p)),.bool (getNum xs p).isSome]) ∧ w' = w := by
 refine (specGet_any v xs p w h hb).mono ?_
 rintro e w' ⟨h1, rfl⟩
 rcases h1 with ⟨n, q, h2, rfl⟩ | ⟨h2, rfl⟩ <;> exact ⟨by rw [h2]; rfl, rfl⟩
theorem specGet_some (v : Value) (xs : List Int) (p n q : Int) (w : World) (h : RB w v xs) (hb : Bytes xs) (hr : getNum xs p = some (n, q)) :
 Calls Tryz.prog 132 #[v,.int .i64 p] w fun e w' => e = .returned (.tuple #[.int .i64 n,.int .i64 q,.bool true]) ∧ w' = w := by
 have:=specGet_ans v xs p w h hb; rw [hr] at this; exact this
theorem specGet_none (v : Value) (xs : List Int) (p : Int) (w : World) (h : RB w v xs) (hb : Bytes xs) (hr : getNum xs p = none) :
 Calls Tryz.prog 132 #[v,.int .i64 p] w fun e w' => e = .returned (.tuple #[.int .i64 0,.int .i64 0,.bool false]) ∧ w' = w := by
 have:=specGet_ans v xs p w h hb; rw [hr] at this; exact this

theorem specText_some (v : Value) (xs : List Int) (p : Int) (n q : Nat) (w : World) (h : RB w v xs) (hb : Bytes xs) (hr : Hid (getNum xs p = some ((n : Int), (q : Int)))) (hn : n ≤ 2147483647) (hq : 0 < q) (hl : q + n ≤ xs.length) :
 Calls Tryz.prog 220 #[v,.int .i64 p] w fun e w' => e = .returned (.tuple #[.string (textAt xs q n),.int .i64 ((q : Int) + n),.bool true]) ∧ w' = w := by
 have hr1:=fun w (h : RB w v xs) => specGet_some v xs p n q w h hb hr.out
 have HR:=hide hr1
 clear hr1
 have h':=h
 obtain ⟨hlen, ao, ca, rfl, ⟨hcap, hcm⟩, hc⟩:=h'
 unfold maxLen at hcm
 rcases hc with rfl | ⟨b, off, rfl, hc⟩
 ·simp at hl; omega
 have hd : decide ((xs.length : Int) - (q : Int) < (n : Int)) = false:=by simp; omega
 by_cases hcq : ca = q
 ·obtain rfl : n = 0:=by omega
  have hcv:=run_convert_bytes_arg (P:=Tryz.prog) w 31 5 Tryz.underlying31 Tryz.underlying5 b off 0 0 [] rfl (fun i hi => by omega) 9 Tryz.underlying9
  clear hc
  subst hcq
  go_enter Tryz.func220, Tryz.ntmps220
  go_wp2_with fail
  refine (HR.out _ h).mono ?_
  rintro e w' ⟨rfl, rfl⟩
  go_wp2
  go_ret3
  exact ⟨by simp [textAt], rfl⟩
 ·have hcv:=run_convert_bytes_arg (P:=Tryz.prog) w 31 5 Tryz.underlying31 Tryz.underlying5 b (off + q) n (ca - q) ((xs.drop q).take n) (win_len xs q n hl) (win_cells hc hl) 9 Tryz.underlying9
  clear hc
  go_enter Tryz.func220, Tryz.ntmps220
  go_wp2_with fail
  refine (HR.out _ h).mono ?_
  rintro e w' ⟨rfl, rfl⟩
  go_wp2
  go_ret3
  exact ⟨rfl, rfl⟩

theorem specText_far (v : Value) (xs : List Int) (p : Int) (n q : Nat) (w : World) (h : RB w v xs) (hb : Bytes xs) (hr : Hid (getNum xs p = some ((n : Int), (q : Int)))) (hn : n ≤ 2147483647) (hq : q ≤ xs.length) (hl : xs.length < q + n) :
 Calls Tryz.prog 220 #[v,.int .i64 p] w fun e w' => e = .returned (.tuple #[.string ⟨#[]⟩,.int .i64 0,.bool false]) ∧ w' = w := by
 have hr1:=fun w (h : RB w v xs) => specGet_some v xs p n q w h hb hr.out
 have HR:=hide hr1
 clear hr1
 have h':=h
 obtain ⟨hlen, ao, ca, rfl, _, hc⟩:=h'
 clear hc
 have hd : decide ((xs.length : Int) - (q : Int) < (n : Int)) = true:=by simp; omega
 go_enter Tryz.func220, Tryz.ntmps220
 go_wp2_with fail
 refine (HR.out _ h).mono ?_
 rintro e w' ⟨rfl, rfl⟩
 go_wp2
 go_ret3
 exact ⟨rfl, rfl⟩

theorem specText_none (v : Value) (xs : List Int) (p : Int) (w : World) (h : RB w v xs) (hb : Bytes xs) (hr : Hid (getNum xs p = none)) :
 Calls Tryz.prog 220 #[v,.int .i64 p] w fun e w' => e = .returned (.tuple #[.string ⟨#[]⟩,.int .i64 0,.bool false]) ∧ w' = w := by
 have hr1:=fun w (h : RB w v xs) => specGet_none v xs p w h hb hr.out
 have HR:=hide hr1
 clear hr1
 have h':=h
 obtain ⟨hlen, ao, ca, rfl, _, hc⟩:=h'
 clear hc
 go_enter Tryz.func220, Tryz.ntmps220
 go_wp2_with fail
 refine (HR.out _ h).mono ?_
 rintro e w' ⟨rfl, rfl⟩
 go_wp2
 go_ret3
 exact ⟨rfl, rfl⟩

theorem specText_any (v : Value) (xs : List Int) (p : Int) (w : World) (h : RB w v xs) (hb : Bytes xs) :
 Calls Tryz.prog 220 #[v,.int .i64 p] w fun e w' => e = .returned (.tuple #[.string (tans1 (getText xs p)),.int .i64 (tans2 (getText xs p)),.bool (getText xs p).isSome]) ∧ w' = w := by
 unfold getText
 cases hg : getNum xs p with
 | none => exact specText_none v xs p w h hb hg
 | some x =>
  obtain ⟨n, q⟩:=x
  have bd:=getNum_bd xs hb p n q hg
  obtain ⟨n, rfl⟩:=Int.eq_ofNat_of_zero_le bd.1
  obtain ⟨q, rfl⟩:=Int.eq_ofNat_of_zero_le (show 0 ≤ q by omega)
  by_cases hl : (n : Int) ≤ (xs.length : Int) - (q : Int)
  ·simp only [if_pos hl]
   exact specText_some v xs p n q w h hb hg (by omega) (by omega) (by omega)
  ·simp only [if_neg hl]
   exact specText_far v xs p n q w h hb hg (by omega) (by omega) (by omega)
end Go.Proofs.YtndpjhiidmdlhaaGreatDoor
