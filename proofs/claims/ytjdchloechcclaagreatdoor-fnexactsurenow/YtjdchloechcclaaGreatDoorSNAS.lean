/- Lemmas, as stated. -/
import Derived.Test.YtjdchloechcclaaGreatDoorSNAR
set_option maxRecDepth 100000
set_option maxHeartbeats 16000000
set_option linter.unusedSectionVars false
set_option linter.unusedSimpArgs false
namespace Go.Proofs.YtjdchloechcclaaGreatDoor
section
open Go Go.RowKit
variable [∀ (a b c d : Int), Decidable (Ok4 a b c d)]
theorem heldSafe_at (vo lo n : Int) (s : ByteArray) (v : Value) (d : ByteArray) (k k0 : Nat) (w : World) (hk : k0 ≤ 10000000) (hm : k ≤ 10000000) (h : RI w v (imarks k0 k)) :
 Calls Tryz.prog 57 #[sv vo lo n s v d,.int .i64 k0] w fun e w' => e = .returned (.int .i64 (k0 + k)) ∧ Below w.heap.size w w' := by
 have R1:=hide h
 have B:=hide (qalloc w (.cells #[.int .i64 vo,.int .i64 lo,.int .i64 n,.string s, v,.string d] 40))
 have hd : decide ((k0 : Int) + (k : Int) < 0) = false:=by simp; omega
 clear h
 go_enter Tryz.func57, Tryz.ntmps57
 go_wp2_with fail
 refine (heldQc_at n s v k k0 _ hk hm (R1.out.below B.out (Nat.le_refl _))).mono ?_
 rintro e w1 ⟨rfl, b1⟩
 go_wp2
 go_ret
 exact ⟨rfl, B.out.trans (b1.mono B.out.size)⟩
theorem heldDisk_at (v : Value) (s : Int) (m k0 : Nat) (w : World) (hk : k0 ≤ 100000000) (h : RB w v (marks k0 m)) :
 Calls Tryz.prog 60 #[dv v s,.int .i64 k0] w fun e w' => e = .returned (.int .i64 (k0 + m)) ∧ Below w.heap.size w w' := by
 have R1:=hide h
 have B:=hide (qalloc w (.cells #[v,.int .i64 s] 43))
 have hd : decide ((k0 : Int) + (m : Int) < 0) = false:=by simp; omega
 clear h
 go_enter Tryz.func60, Tryz.ntmps60
 go_wp2_with fail
 refine (held_row v m k0 _ (by omega) (R1.out.below B.out (Nat.le_refl _))).mono ?_
 rintro e w1 ⟨rfl, rfl⟩
 go_wp2
 go_ret
 exact ⟨rfl, B.out⟩
end
section
open Go Go.RowKit
variable [∀ (a b c d : Int), Decidable (Ok4 a b c d)]
variable [∀ (n f : Int), Decidable (COk n f)]
variable [∀ (a b c d : Nat), Decidable (okN a b c d)]
variable [∀ (x : T4), Decidable (OkT x)]
def ORepC (w : World) (lo hi : Nat) (t : RpT) (a b c d e : Value) : Prop := ∃ s1 s2 s3 s4 vs, (lo ≤ s1 ∧ s1 ≤ s2 ∧ s2 ≤ s3 ∧ s3 ≤ s4 ∧ s4 ≤ hi ∧ hi ≤ w.heap.size) ∧ (OI w lo a t.qw ∧ ∀ j, a.ownBlock = some j → j < s1) ∧ (OT w s1 b t.pool ∧ ∀ j, b.ownBlock = some j → j < s2) ∧ OPR w s2 s3 c t.tab vs ∧ (OB w s3 d t.dsk ∧ ∀ j, d.ownBlock = some j → j < s4) ∧ OPC w s4 hi e t.held
theorem ORepC.kp {w w' : World} {lo hi : Nat} {X : Nat → Prop} {t : RpT} {a b c d e : Value} (h : ORepC w lo hi t a b c d e) (k : Kp w w' X) (hX : ∀ j, lo ≤ j → j < hi → ¬ X j) : ORepC w' lo hi t a b c d e := by
 obtain ⟨s1, s2, s3, s4, vs, hs, ⟨a1, a2⟩, ⟨b1, b2⟩, c1, ⟨d1, d2⟩, e1⟩:=h
 have z:=k.size
 have la:=World.ownsRow.lt a1
 have lb:=World.ownsRow.lt b1
 have ld:=World.ownsRow.lt d1
 exact ⟨s1, s2, s3, s4, vs, by omega, ⟨a1.kp k (fun j hj => hX j (la j hj).1 (by have := a2 j hj; omega)), a2⟩, ⟨b1.kp k (fun j hj => hX j (by have := lb j hj; omega) (by have := b2 j hj; omega)), b2⟩, c1.kp k (fun j h1 h2 => hX j (by omega) (by omega)), ⟨d1.kp k (fun j hj => hX j (by have := ld j hj; omega) (by have := d2 j hj; omega)), d2⟩, e1.kp k (fun j h1 h2 => hX j (by omega) h2)⟩
theorem ORepC.below {w w' : World} {lo hi : Nat} {t : RpT} {a b c d e : Value} (h : ORepC w lo hi t a b c d e) (hb : Below w.heap.size w w') : ORepC w' lo hi t a b c d e := h.kp (Below.kpOf hb (fun _ => False)) (fun _ _ _ h => h)
theorem ORepC.orep {w : World} {lo hi : Nat} {t : RpT} {a b c d e : Value} (h : ORepC w lo hi t a b c d e) : ORep w lo t a b c d e := by
 obtain ⟨s1, s2, s3, s4, vs, hs, a1, b1, c1, d1, e1⟩:=h
 exact ⟨s1, s2, s3, s4, vs, by omega, a1, b1, c1, d1, e1.opo⟩
theorem ORepC.mono {w : World} {lo lo' hi hi' : Nat} {t : RpT} {a b c d e : Value} (h : ORepC w lo hi t a b c d e) (h1 : lo' ≤ lo) (h2 : hi ≤ hi') (h3 : hi' ≤ w.heap.size) : ORepC w lo' hi' t a b c d e := by
 obtain ⟨s1, s2, s3, s4, vs, hs, ⟨a1, a2⟩, b1, c1, d1, e1⟩:=h
 exact ⟨s1, s2, s3, s4, vs, by omega, ⟨a1.mono h1, a2⟩, b1, c1, d1, e1.mono (Nat.le_refl _) h2⟩
theorem ORepC.form {w : World} {lo hi : Nat} {t : RpT} {a b c d e : Value} (h : ORepC w lo hi t a b c d e) : ∃ ao ca bo cb co cc od cd oe ce, a = .slice ao t.qw.length ca ∧ b = .slice bo t.pool.length cb ∧ c = .slice co t.tab.length cc ∧ d = .slice od t.dsk.length cd ∧ e = .slice oe t.held.length ce := h.orep.form
def rq1 (k : Nat) (t : RpT) : Nat := k + t.qw.length
def rq2 (k : Nat) (t : RpT) : Nat := rq1 k t + t.pool.length * 4
def rq3 (k : Nat) (t : RpT) : Nat := pend (rq2 k t) t.tab
def rq4 (k : Nat) (t : RpT) : Nat := rq3 k t + t.dsk.length
def rq5 (k : Nat) (t : RpT) : Nat := poend (rq4 k t) t.held
def rmk (k : Nat) (t : RpT) : RpT := { t with qw := imarks k t.qw.length, pool := tmarks (rq1 k t) t.pool.length, tab := pmk (rq2 k t) t.tab, dsk := marks (rq3 k t) t.dsk.length, held := pomk (rq4 k t) t.held }
theorem rq_le (k : Nat) (t : RpT) : k ≤ rq1 k t ∧ rq1 k t ≤ rq2 k t ∧ rq2 k t ≤ rq3 k t ∧ rq3 k t ≤ rq4 k t ∧ rq4 k t ≤ rq5 k t := by
 have h1:=pend_ge (rq2 k t) t.tab
 have h2:=poend_ge (rq4 k t) t.held
 refine ⟨by unfold rq1; omega, by unfold rq2; omega, by unfold rq3; exact h1, by unfold rq4; omega, by unfold rq5; exact h2⟩
theorem tmarkc_any (base k0 : Nat) (v : Value) (xs : List T4) (w : World) (hl : xs.length ≤ 4194304) (hk0 : k0 ≤ 100000000) (h : OT w base v xs) :
 Calls Tryz.prog 52 #[v,.int .i64 k0] w fun e w' => e = .returned (.int .i64 (k0 + xs.length * 4)) ∧ OT w' base v (tmarks k0 xs.length) ∧ Kp w w' (fun k => v.ownBlock = some k) := by
 have h':=h
 rcases h.2 with ⟨rfl, h0⟩ | ⟨g, cap, cur, rfl, _⟩
 ·refine (tmark_none k0 w).mono ?_
  rintro e w' ⟨rfl, rfl⟩
  have hx : xs = []:=List.length_eq_zero_iff.1 h0
  subst hx
  exact ⟨by simp, World.ownsRow_nil _ _ _ _, Kp.refl _ _⟩
 refine (tmark_row base g xs.length cap k0 xs w hl hk0 rfl h').mono ?_
 rintro e w' ⟨rfl, ho, hg⟩
 exact ⟨rfl, ho, kp_grown hg⟩
theorem toRepC_any (t : RpT) (a : Value) (bo : Option Addr) (cb : Nat) (c d e : Value) (w : World) (hs : RSm t) (h : IRep w t a bo c d e) :
 Calls Tryz.prog 10 #[rpv t a (.slice bo t.pool.length cb) c d e] w fun r w' => ∃ a' b' c' d' e', r = .returned (rpv t a' b' c' d' e') ∧ ORepC w' w.heap.size w'.heap.size t a' b' c' d' e' ∧ Below w.heap.size w w' := by
 have HI:=hide h
 have T1:=hide fun w h => toSafe_any t.vo t.lo t.n t.s a t.qw t.d w h
 have T2:=hide fun w h => toTxS_any bo cb t.pool w hs.p h
 have T3:=hide fun v w h => toPartS_any v t.tab w hs.tb h
 have T4_:=hide fun v w h => toDisk_any v t.dsk t.su w h
 have T5:=hide fun v w h => toPostC_any v t.held w hs.h h
 obtain ⟨oa, ka, rfl⟩:=h.q.form
 obtain ⟨oc, kc, rfl⟩:=h.tb.form
 obtain ⟨od, kd, rfl⟩:=RB.form1 h.d
 obtain ⟨oe, ke, rfl⟩:=h.h.form
 clear h hs
 obtain ⟨w0, hw0, Bw0, P, R, O, zw0⟩:=bx3 w #[.int .i64 t.id,.int .i64 t.vw,.int .i64 t.ak,.int .i64 t.vo,.int .i64 t.lo,.int .i64 t.n,.string t.s,.slice oa t.qw.length ka,.string t.d,.slice bo t.pool.length cb,.slice oc t.tab.length kc,.slice od t.dsk.length kd,.int .i64 t.su,.slice oe t.held.length ke] 36 #[.int .i64 0,.int .i64 0,.int .i64 0,.int .i64 0,.int .i64 0,.int .i64 0,.string ⟨#[]⟩,.slice none 0 0,.string ⟨#[]⟩,.slice none 0 0,.slice none 0 0,.slice none 0 0,.int .i64 0,.slice none 0 0] 46 #[.int .i64 0,.int .i64 0,.int .i64 0,.int .i64 0,.int .i64 0,.int .i64 0,.string ⟨#[]⟩,.slice none 0 0,.string ⟨#[]⟩,.slice none 0 0,.slice none 0 0,.slice none 0 0,.int .i64 0,.slice none 0 0] 46
 go_enter Tryz.func10, Tryz.ntmps10
 obtain ⟨cP0,cP1,cP2⟩:=cc3 P 0 1 2
 obtain ⟨cO0,cO1,cO2⟩:=cc3 O 0 1 2
 have fO:=O.frozen
 go_upto_region 5 with fail
 clear hw0 cP0 cP1 cP2 cO0 cO1 cO2 fO
 obtain ⟨w1, hw1⟩ : ∃ w9_, (((w0.setCell ⟨w.heap.size + 1 + 1, 0, none⟩ (.int .i64 t.id)).setCell ⟨w.heap.size + 1 + 1, 1, none⟩ (.int .i64 t.vw)).setCell ⟨w.heap.size + 1 + 1, 2, none⟩ (.int .i64 t.ak)) = w9_:=⟨_, rfl⟩
 have kN : Kp w0 w1 (fun k => k = w.heap.size + 1 + 1):=hw1 ▸ ((set_kp _ _ _ _).trans (set_kp _ _ _ _)).trans (set_kp _ _ _ _)
 replace O : Loc w1 (w.heap.size + 1 + 1) #[.int .i64 t.id,.int .i64 t.vw,.int .i64 t.ak,.int .i64 0,.int .i64 0,.int .i64 0,.string ⟨#[]⟩,.slice none 0 0,.string ⟨#[]⟩,.slice none 0 0,.slice none 0 0,.slice none 0 0,.int .i64 0,.slice none 0 0]:=hw1 ▸ (((O.set 0 _ rfl).set 1 _ rfl).set 2 _ rfl)
 replace P:=P.kp kN (by omega)
 replace R:=R.kp kN (by omega)
 have Bw1:=Below.kp Bw0 kN Bw0.size (fun k hk => by omega)
 have sw1:=kN.size
 rw [hw1]
 clear hw1 kN Bw0
 go_wp2_with (first | (refine wloadM [.int .i64 t.vo, .int .i64 t.lo, .int .i64 t.n, .string t.s, .slice oa t.qw.length ka, .string t.d] (P.range 3 6 rfl) 28 _ rfl _ rfl rfl Tryz.underlying28 rfl (by kernel_rfl) ?_))
 refine (T1.out _ (HI.out.q.below Bw1)).mono ?_
 rintro _ w2 ⟨uA, rfl, oA, bb⟩
 have Bw2:=bu Bw1 bb
 have sw2:=bb.size
 replace P:=P.up bb
 replace R:=R.up bb
 replace O:=O.up bb
 clear Bw1 bb
 have toA:=World.ownsRow.lt oA
 obtain ⟨aoA, koA, rfl⟩:=oA.form
 go_upto_region 6 with (refine wstoreM #[.int .i64 t.vo,.int .i64 t.lo,.int .i64 t.n,.string t.s,.slice aoA t.qw.length koA,.string t.d] (O.there 3 6 (by simp)) 40 rfl _ _ rfl rfl rfl (by kernel_rfl) (by simp [Value.oneCell']) ?_)
 obtain ⟨w3, hw3⟩ : ∃ y, w2.setCells (w.heap.size + 1 + 1) 3 [.int .i64 t.vo, .int .i64 t.lo, .int .i64 t.n, .string t.s, .slice aoA t.qw.length koA, .string t.d] = y:=⟨_, rfl⟩
 rw [hw3]
 have kN : Kp w2 w3 (fun k => k = w.heap.size + 1 + 1):=hw3 ▸ setCells_kp _ _ _ _
 replace O : Loc w3 (w.heap.size + 1 + 1) #[.int .i64 t.id,.int .i64 t.vw,.int .i64 t.ak,.int .i64 t.vo,.int .i64 t.lo,.int .i64 t.n,.string t.s,.slice aoA t.qw.length koA,.string t.d,.slice none 0 0,.slice none 0 0,.slice none 0 0,.int .i64 0,.slice none 0 0]:=hw3 ▸ O.setCells _ _ rfl
 replace P:=P.kp kN (by omega)
 replace R:=R.kp kN (by omega)
 replace oA:=oA.kp kN (fun j hj e => by have:=toA j hj; omega)
 have Bw3:=Below.kp Bw2 kN Bw2.size (fun k hk => by omega)
 have sw3:=kN.size
 clear hw3 kN Bw2
 have cP9:=P.cell 9 rfl
 go_wp2_with fail
 refine (T2.out _ (HI.out.p.below Bw3)).mono ?_
 rintro _ w4 ⟨uB, rfl, oB, bb⟩
 clear cP9
 have Bw4:=bu Bw3 bb
 have sw4:=bb.size
 replace P:=P.up bb
 replace R:=R.up bb
 replace O:=O.up bb
 replace oA:=oA.below bb
 clear Bw3 bb
 have toB:=World.ownsRow.lt oB
 obtain ⟨aoB, koB, rfl⟩:=OT.form1 oB
 have cO9:=O.cell 9 rfl
 have fO:=O.frozen
 go_upto_region 7 with fail
 clear cO9 fO
 obtain ⟨w5, hw5⟩ : ∃ w9_, (w4.setCell ⟨w.heap.size + 1 + 1, 9, none⟩ (.slice aoB t.pool.length koB)) = w9_:=⟨_, rfl⟩
 have kN : Kp w4 w5 (fun k => k = w.heap.size + 1 + 1):=hw5 ▸ set_kp _ _ _ _
 replace O : Loc w5 (w.heap.size + 1 + 1) #[.int .i64 t.id,.int .i64 t.vw,.int .i64 t.ak,.int .i64 t.vo,.int .i64 t.lo,.int .i64 t.n,.string t.s,.slice aoA t.qw.length koA,.string t.d,.slice aoB t.pool.length koB,.slice none 0 0,.slice none 0 0,.int .i64 0,.slice none 0 0]:=hw5 ▸ (O.set 9 _ rfl)
 replace P:=P.kp kN (by omega)
 replace R:=R.kp kN (by omega)
 replace oA:=oA.kp kN (fun j hj e => by have:=toA j hj; omega)
 replace oB:=oB.kp kN (fun j hj e => by have:=toB j hj; omega)
 have Bw5:=Below.kp Bw4 kN Bw4.size (fun k hk => by omega)
 have sw5:=kN.size
 rw [hw5]
 clear hw5 kN Bw4
 have cP10:=P.cell 10 rfl
 go_wp2_with fail
 refine (T3.out _ _ (HI.out.tb.below Bw5)).mono ?_
 rintro _ w6 ⟨uC, rfl, oC, bb⟩
 clear cP10
 have Bw6:=bu Bw5 bb
 have sw6:=bb.size
 replace P:=P.up bb
 replace R:=R.up bb
 replace O:=O.up bb
 replace oA:=oA.below bb
 replace oB:=oB.below bb
 clear Bw5 bb
 obtain ⟨aoC, koC, rfl⟩:=oC.form
 obtain ⟨vs, oC⟩:=oC
 replace oC:=oC.opr
 obtain ⟨s3, hs3⟩ : ∃ x, w6.heap.size = x:=⟨_, rfl⟩
 rw [hs3] at oC
 have cO10:=O.cell 10 rfl
 have fO:=O.frozen
 go_upto_region 8 with fail
 clear cO10 fO
 obtain ⟨w7, hw7⟩ : ∃ w9_, (w6.setCell ⟨w.heap.size + 1 + 1, 10, none⟩ (.slice aoC t.tab.length koC)) = w9_:=⟨_, rfl⟩
 have kN : Kp w6 w7 (fun k => k = w.heap.size + 1 + 1):=hw7 ▸ set_kp _ _ _ _
 replace O : Loc w7 (w.heap.size + 1 + 1) #[.int .i64 t.id,.int .i64 t.vw,.int .i64 t.ak,.int .i64 t.vo,.int .i64 t.lo,.int .i64 t.n,.string t.s,.slice aoA t.qw.length koA,.string t.d,.slice aoB t.pool.length koB,.slice aoC t.tab.length koC,.slice none 0 0,.int .i64 0,.slice none 0 0]:=hw7 ▸ (O.set 10 _ rfl)
 replace P:=P.kp kN (by omega)
 replace R:=R.kp kN (by omega)
 replace oA:=oA.kp kN (fun j hj e => by have:=toA j hj; omega)
 replace oB:=oB.kp kN (fun j hj e => by have:=toB j hj; omega)
 replace oC:=oC.kp kN (fun j h1 h2 e => by omega)
 have Bw7:=Below.kp Bw6 kN Bw6.size (fun k hk => by omega)
 have sw7:=kN.size
 rw [hw7]
 clear hw7 kN Bw6
 go_wp2_with (first | (refine wloadM [.slice od t.dsk.length kd, .int .i64 t.su] (P.range 11 2 rfl) 33 _ rfl _ rfl rfl Tryz.underlying33 rfl (by kernel_rfl) ?_))
 refine (T4_.out _ _ (HI.out.d.below Bw7)).mono ?_
 rintro _ w8 ⟨uD, rfl, oD, bb⟩
 have Bw8:=bu Bw7 bb
 have sw8:=bb.size
 replace P:=P.up bb
 replace R:=R.up bb
 replace O:=O.up bb
 replace oA:=oA.below bb
 replace oB:=oB.below bb
 clear Bw7
 replace oC:=oC.below bb
 clear bb
 have toD:=World.ownsRow.lt oD
 obtain ⟨aoD, koD, rfl⟩:=oD.form
 go_upto_region 9 with (refine wstoreM #[.slice aoD t.dsk.length koD,.int .i64 t.su] (O.there 11 2 (by simp)) 43 rfl _ _ rfl rfl rfl (by kernel_rfl) (by simp [Value.oneCell']) ?_)
 obtain ⟨w9, hw9⟩ : ∃ y, w8.setCells (w.heap.size + 1 + 1) 11 [.slice aoD t.dsk.length koD, .int .i64 t.su] = y:=⟨_, rfl⟩
 rw [hw9]
 have kN : Kp w8 w9 (fun k => k = w.heap.size + 1 + 1):=hw9 ▸ setCells_kp _ _ _ _
 replace O : Loc w9 (w.heap.size + 1 + 1) #[.int .i64 t.id,.int .i64 t.vw,.int .i64 t.ak,.int .i64 t.vo,.int .i64 t.lo,.int .i64 t.n,.string t.s,.slice aoA t.qw.length koA,.string t.d,.slice aoB t.pool.length koB,.slice aoC t.tab.length koC,.slice aoD t.dsk.length koD,.int .i64 t.su,.slice none 0 0]:=hw9 ▸ O.setCells _ _ rfl
 replace P:=P.kp kN (by omega)
 replace R:=R.kp kN (by omega)
 replace oA:=oA.kp kN (fun j hj e => by have:=toA j hj; omega)
 replace oB:=oB.kp kN (fun j hj e => by have:=toB j hj; omega)
 replace oD:=oD.kp kN (fun j hj e => by have:=toD j hj; omega)
 replace oC:=oC.kp kN (fun j h1 h2 e => by omega)
 have Bw9:=Below.kp Bw8 kN Bw8.size (fun k hk => by omega)
 have sw9:=kN.size
 clear hw9 kN Bw8
 have cP13:=P.cell 13 rfl
 go_wp2_with fail
 refine (T5.out _ _ (HI.out.h.below Bw9)).mono ?_
 rintro _ w10 ⟨uE, rfl, oE, bb⟩
 clear cP13
 have Bw10:=bu Bw9 bb
 have sw10:=bb.size
 replace P:=P.up bb
 replace R:=R.up bb
 replace O:=O.up bb
 replace oA:=oA.below bb
 replace oB:=oB.below bb
 replace oD:=oD.below bb
 clear Bw9
 replace oC:=oC.below bb
 clear bb
 obtain ⟨aoE, koE, rfl⟩:=oE.form
 have cO13:=O.cell 13 rfl
 have fO:=O.frozen
 go_upto_region 10 with fail
 clear cO13 fO
 obtain ⟨w11, hw11⟩ : ∃ w9_, (w10.setCell ⟨w.heap.size + 1 + 1, 13, none⟩ (.slice aoE t.held.length koE)) = w9_:=⟨_, rfl⟩
 have kN : Kp w10 w11 (fun k => k = w.heap.size + 1 + 1):=hw11 ▸ set_kp _ _ _ _
 replace O : Loc w11 (w.heap.size + 1 + 1) #[.int .i64 t.id,.int .i64 t.vw,.int .i64 t.ak,.int .i64 t.vo,.int .i64 t.lo,.int .i64 t.n,.string t.s,.slice aoA t.qw.length koA,.string t.d,.slice aoB t.pool.length koB,.slice aoC t.tab.length koC,.slice aoD t.dsk.length koD,.int .i64 t.su,.slice aoE t.held.length koE]:=hw11 ▸ (O.set 13 _ rfl)
 replace P:=P.kp kN (by omega)
 replace R:=R.kp kN (by omega)
 replace oA:=oA.kp kN (fun j hj e => by have:=toA j hj; omega)
 replace oB:=oB.kp kN (fun j hj e => by have:=toB j hj; omega)
 replace oD:=oD.kp kN (fun j hj e => by have:=toD j hj; omega)
 replace oC:=oC.kp kN (fun j h1 h2 e => by omega)
 replace oE:=oE.kp kN (fun j h1 e => by omega)
 have Bw11:=Below.kp Bw10 kN Bw10.size (fun k hk => by omega)
 have sw11:=kN.size
 rw [hw11]
 clear hw11 kN Bw10
 go_wp2_with (first | (refine wload O 46 _ rfl _ rfl rfl Tryz.underlying46 rfl (by kernel_rfl) ?_) | (refine wstore R 46 #[.int .i64 t.id,.int .i64 t.vw,.int .i64 t.ak,.int .i64 t.vo,.int .i64 t.lo,.int .i64 t.n,.string t.s,.slice aoA t.qw.length koA,.string t.d,.slice aoB t.pool.length koB,.slice aoC t.tab.length koC,.slice aoD t.dsk.length koD,.int .i64 t.su,.slice aoE t.held.length koE] rfl _ _ rfl rfl rfl (by kernel_rfl) rfl (by simp [Value.oneCell']) ?_))
 obtain ⟨wE, hwE⟩ : ∃ w9_, w11.setRow (w.heap.size + 1) #[.int .i64 t.id,.int .i64 t.vw,.int .i64 t.ak,.int .i64 t.vo,.int .i64 t.lo,.int .i64 t.n,.string t.s,.slice aoA t.qw.length koA,.string t.d,.slice aoB t.pool.length koB,.slice aoC t.tab.length koC,.slice aoD t.dsk.length koD,.int .i64 t.su,.slice aoE t.held.length koE] = w9_:=⟨_, rfl⟩
 have kN : Kp w11 wE (fun k => k = w.heap.size + 1):=hwE ▸ row_kp _ _ _
 replace R : Loc wE (w.heap.size + 1) #[.int .i64 t.id,.int .i64 t.vw,.int .i64 t.ak,.int .i64 t.vo,.int .i64 t.lo,.int .i64 t.n,.string t.s,.slice aoA t.qw.length koA,.string t.d,.slice aoB t.pool.length koB,.slice aoC t.tab.length koC,.slice aoD t.dsk.length koD,.int .i64 t.su,.slice aoE t.held.length koE]:=hwE ▸ R.row
 replace P:=P.kp kN (by omega)
 replace O:=O.kp kN (by omega)
 replace oA:=oA.kp kN (fun j hj e => by have:=toA j hj; omega)
 replace oB:=oB.kp kN (fun j hj e => by have:=toB j hj; omega)
 replace oD:=oD.kp kN (fun j hj e => by have:=toD j hj; omega)
 replace oC:=oC.kp kN (fun j h1 h2 e => by omega)
 replace oE:=oE.kp kN (fun j h1 e => by omega)
 have BwE:=Below.kp Bw11 kN Bw11.size (fun k hk => by omega)
 have swE:=kN.size
 rw [hwE]
 clear hwE kN Bw11
 refine bodyPost_ret (v := rpv t (.slice aoA t.qw.length koA) (.slice aoB t.pool.length koB) (.slice aoC t.tab.length koC) (.slice aoD t.dsk.length koD) (.slice aoE t.held.length koE)) (res_row Tryz.results10 _ R rfl Tryz.underlying46 rfl (by kernel_rfl)) rfl ?_
 exact ⟨_, _, _, _, _, rfl, ⟨w3.heap.size, w5.heap.size, s3, w9.heap.size, vs, by omega, ⟨oA.mono (by omega), fun j hj => by have := toA j hj; omega⟩, ⟨oB, fun j hj => by have := toB j hj; omega⟩, oC, ⟨oD.mono (by omega), fun j hj => by have := toD j hj; omega⟩, oE.mono (Nat.le_refl _) (by omega)⟩, BwE⟩
theorem heldRep_any (t : RpT) (a b c d e : Value) (k0 : Nat) (w : World) (hs : RSm t) (hk : k0 ≤ 10000000) (hb : rq5 k0 t ≤ 100000000) (h : RRep w (rmk k0 t) a b c d e) :
 Calls Tryz.prog 16 #[rpv t a b c d e,.int .i64 k0] w fun r w' => r = .returned (.int .i64 (rq5 k0 t)) ∧ Below w.heap.size w w' := by
 obtain ⟨q1, hq1⟩ : ∃ x, rq1 k0 t = x:=⟨_, rfl⟩
 obtain ⟨q2, hq2⟩ : ∃ x, rq2 k0 t = x:=⟨_, rfl⟩
 obtain ⟨q3, hq3⟩ : ∃ x, rq3 k0 t = x:=⟨_, rfl⟩
 obtain ⟨q4, hq4⟩ : ∃ x, rq4 k0 t = x:=⟨_, rfl⟩
 obtain ⟨q5, hq5⟩ : ∃ x, rq5 k0 t = x:=⟨_, rfl⟩
 have hle:=rq_le k0 t
 rw [hq1, hq2, hq3, hq4, hq5] at hle
 rw [hq5] at hb ⊢
 have hr : rmk k0 t = { t with qw:=imarks k0 t.qw.length, pool:=tmarks q1 t.pool.length, tab:=pmk q2 t.tab, dsk:=marks q3 t.dsk.length, held:=pomk q4 t.held }:=by unfold rmk; rw [hq1, hq2, hq3, hq4]
 rw [hr] at h
 clear hr
 unfold rq1 at hq1
 unfold rq2 at hq2
 unfold rq3 at hq3
 unfold rq4 at hq4
 unfold rq5 at hq5
 have e1 : rq1 k0 t = q1:=hq1
 have e2 : rq2 k0 t = q2:=hq2
 have e3 : rq3 k0 t = q3:=hq3
 have e4 : rq4 k0 t = q4:=hq4
 rw [e1] at hq2
 rw [e2] at hq3
 rw [e3] at hq4
 rw [e4] at hq5
 clear e1 e2 e3 e4
 have M1 : Hid (∀ w, RI w a (imarks k0 t.qw.length) → Calls Tryz.prog 57 #[sv t.vo t.lo t.n t.s a t.d,.int .i64 k0] w fun e w' => e = .returned (.int .i64 q1) ∧ Below w.heap.size w w'):=hide fun w h => by
  have:=heldSafe_at t.vo t.lo t.n t.s a t.d t.qw.length k0 w (by omega) (by have:=hs.q; omega) h
  rw [← hq1]; simpa using this
 have M2 : Hid (∀ w, RT w b (tmarks q1 t.pool.length) → Calls Tryz.prog 58 #[b,.int .i64 q1] w fun e w' => e = .returned (.int .i64 q2) ∧ Below w.heap.size w w'):=hide fun w h => by
  have:=theld_row b t.pool.length q1 w (by have:=hs.p; omega) (by omega) h
  rw [← hq2]; simpa using this
 have M3 : Hid (∀ w, RPt w c (pmk q2 t.tab) → Calls Tryz.prog 59 #[c,.int .i64 q2] w fun e w' => e = .returned (.int .i64 q3) ∧ Below w.heap.size w w'):=hide fun w h => by
  have:=heldPartS_any c t.tab q2 w (by have:=hs.tb; omega) (by omega) h
  rw [← hq3]; exact this
 have M4 : Hid (∀ w, RB w d (marks q3 t.dsk.length) → Calls Tryz.prog 60 #[dv d t.su,.int .i64 q3] w fun e w' => e = .returned (.int .i64 q4) ∧ Below w.heap.size w w'):=hide fun w h => by
  have:=heldDisk_at d t.su t.dsk.length q3 w (by omega) h
  rw [← hq4]; simpa using this
 have M5 : Hid (∀ w, RPo w e (pomk q4 t.held) → Calls Tryz.prog 17 #[e,.int .i64 q4] w fun e' w' => e' = .returned (.int .i64 q5) ∧ Below w.heap.size w w'):=hide fun w h => by
  have:=heldPostS_any e t.held q4 w (by have:=hs.h; omega) (by omega) h
  rw [← hq5]; exact this
 clear hb hq1 hq2 hq3 hq4 hq5 hs
 have HR:=hide h
 have fa:=h.q.form
 have fb:=RT.form1 h.p
 have fc:=h.tb.form
 have fd:=RB.form1 h.d
 have fe:=h.h.form
 simp only [imarks_len, tmarks_len, pmk_len, marks_len, pomk_len] at fa fb fc fd fe
 clear h
 obtain ⟨oa, ka, rfl⟩:=fa
 obtain ⟨ob, kb, rfl⟩:=fb
 obtain ⟨oc, kc, rfl⟩:=fc
 obtain ⟨od, kd, rfl⟩:=fd
 obtain ⟨oe, ke, rfl⟩:=fe
 have hd1 : decide ((q1 : Int) < 0) = false:=by simp
 have hd2 : decide ((q2 : Int) < 0) = false:=by simp
 have hd3 : decide ((q3 : Int) < 0) = false:=by simp
 have hd4 : decide ((q4 : Int) < 0) = false:=by simp
 have hd5 : decide ((q5 : Int) < 0) = false:=by simp
 obtain ⟨w0, hw0, Bw0, P, zw0⟩:=bx1 w #[.int .i64 t.id,.int .i64 t.vw,.int .i64 t.ak,.int .i64 t.vo,.int .i64 t.lo,.int .i64 t.n,.string t.s,.slice oa t.qw.length ka,.string t.d,.slice ob t.pool.length kb,.slice oc t.tab.length kc,.slice od t.dsk.length kd,.int .i64 t.su,.slice oe t.held.length ke] 46
 go_enter Tryz.func16, Tryz.ntmps16
 go_wp2_with (first | (refine wloadM [.int .i64 t.vo, .int .i64 t.lo, .int .i64 t.n, .string t.s, .slice oa t.qw.length ka, .string t.d] (P.range 3 6 rfl) 40 _ rfl _ rfl rfl Tryz.underlying40 rfl (by kernel_rfl) ?_))
 clear hw0
 refine (M1.out _ (HR.out.q.below Bw0)).mono ?_
 rintro _ w1 ⟨rfl, bb⟩
 have Bw1:=bu Bw0 bb
 have sw1:=bb.size
 replace P:=P.up bb
 clear Bw0 bb
 have cP9:=P.cell 9 rfl
 go_wp2_with fail
 refine (M2.out _ (HR.out.p.below Bw1)).mono ?_
 rintro _ w2 ⟨rfl, bb⟩
 clear cP9
 have Bw2:=bu Bw1 bb
 have sw2:=bb.size
 replace P:=P.up bb
 clear Bw1 bb
 have cP10:=P.cell 10 rfl
 go_wp2_with fail
 refine (M3.out _ (HR.out.tb.below Bw2)).mono ?_
 rintro _ w3 ⟨rfl, bb⟩
 clear cP10
 have Bw3:=bu Bw2 bb
 have sw3:=bb.size
 replace P:=P.up bb
 clear Bw2 bb
 go_wp2_with (first | (refine wloadM [.slice od t.dsk.length kd, .int .i64 t.su] (P.range 11 2 rfl) 43 _ rfl _ rfl rfl Tryz.underlying43 rfl (by kernel_rfl) ?_))
 refine (M4.out _ (HR.out.d.below Bw3)).mono ?_
 rintro _ w4 ⟨rfl, bb⟩
 have Bw4:=bu Bw3 bb
 have sw4:=bb.size
 replace P:=P.up bb
 clear Bw3 bb
 have cP13:=P.cell 13 rfl
 go_wp2_with fail
 refine (M5.out _ (HR.out.h.below Bw4)).mono ?_
 rintro _ w5 ⟨rfl, bb⟩
 clear cP13
 have Bw5:=bu Bw4 bb
 have sw5:=bb.size
 replace P:=P.up bb
 clear Bw4 bb
 go_wp2
 go_ret
 exact ⟨rfl, Bw5⟩
def ORepG (w : World) (lo hi : Nat) (t : RpT) (a b c d e : Value) : Prop := ∃ s1 t1 s2 s3 u0 u1 s4 vs, (lo ≤ s1 ∧ s1 ≤ t1 ∧ t1 ≤ s2 ∧ s2 ≤ s3 ∧ s3 ≤ s4 ∧ s4 ≤ hi ∧ hi ≤ w.heap.size ∧ s1 ≤ u0 ∧ u0 ≤ u1 ∧ u1 ≤ s4 ∧ (u1 ≤ t1 ∨ s3 ≤ u0)) ∧ (OI w lo a t.qw ∧ ∀ j, a.ownBlock = some j → j < s1) ∧ (OT w t1 b t.pool ∧ ∀ j, b.ownBlock = some j → j < s2) ∧ OPR w s2 s3 c t.tab vs ∧ (OB w u0 d t.dsk ∧ ∀ j, d.ownBlock = some j → j < u1) ∧ OPC w s4 hi e t.held
theorem ORepC.gen {w : World} {lo hi : Nat} {t : RpT} {a b c d e : Value} (h : ORepC w lo hi t a b c d e) : ORepG w lo hi t a b c d e := by
 obtain ⟨s1, s2, s3, s4, vs, hs, a1, b1, c1, d1, e1⟩:=h
 exact ⟨s1, s1, s2, s3, s3, s4, s4, vs, by omega, a1, b1, c1, d1, e1⟩
theorem ORepG.kp {w w' : World} {lo hi : Nat} {X : Nat → Prop} {t : RpT} {a b c d e : Value} (h : ORepG w lo hi t a b c d e) (k : Kp w w' X) (hX : ∀ j, lo ≤ j → j < hi → ¬ X j) : ORepG w' lo hi t a b c d e := by
 obtain ⟨s1, t1, s2, s3, u0, u1, s4, vs, hs, ⟨a1, a2⟩, ⟨b1, b2⟩, c1, ⟨d1, d2⟩, e1⟩:=h
 have z:=k.size
 have la:=World.ownsRow.lt a1
 have lb:=World.ownsRow.lt b1
 have ld:=World.ownsRow.lt d1
 exact ⟨s1, t1, s2, s3, u0, u1, s4, vs, by omega, ⟨a1.kp k (fun j hj => hX j (la j hj).1 (by have := a2 j hj; omega)), a2⟩, ⟨b1.kp k (fun j hj => hX j (by have := lb j hj; omega) (by have := b2 j hj; omega)), b2⟩, c1.kp k (fun j h1 h2 => hX j (by omega) (by omega)), ⟨d1.kp k (fun j hj => hX j (by have := ld j hj; omega) (by have := d2 j hj; omega)), d2⟩, e1.kp k (fun j h1 h2 => hX j (by omega) h2)⟩
theorem ORepG.below {w w' : World} {lo hi : Nat} {t : RpT} {a b c d e : Value} (h : ORepG w lo hi t a b c d e) (hb : Below w.heap.size w w') : ORepG w' lo hi t a b c d e := h.kp (Below.kpOf hb (fun _ => False)) (fun _ _ _ h => h)
theorem ORepG.mono {w : World} {lo lo' hi hi' : Nat} {t : RpT} {a b c d e : Value} (h : ORepG w lo hi t a b c d e) (h1 : lo' ≤ lo) (h2 : hi ≤ hi') (h3 : hi' ≤ w.heap.size) : ORepG w lo' hi' t a b c d e := by
 obtain ⟨s1, t1, s2, s3, u0, u1, s4, vs, hs, ⟨a1, a2⟩, b1, c1, d1, e1⟩:=h
 exact ⟨s1, t1, s2, s3, u0, u1, s4, vs, by omega, ⟨a1.mono h1, a2⟩, b1, c1, d1, e1.mono (Nat.le_refl _) h2⟩
theorem ORepG.form {w : World} {lo hi : Nat} {t : RpT} {a b c d e : Value} (h : ORepG w lo hi t a b c d e) : ∃ ao ca bo cb co cc od cd oe ce, a = .slice ao t.qw.length ca ∧ b = .slice bo t.pool.length cb ∧ c = .slice co t.tab.length cc ∧ d = .slice od t.dsk.length cd ∧ e = .slice oe t.held.length ce := by
 obtain ⟨s1, t1, s2, s3, u0, u1, s4, vs, hs, ⟨a1, a2⟩, ⟨b1, b2⟩, c1, ⟨d1, d2⟩, e1⟩:=h
 obtain ⟨ao, ca, rfl⟩:=a1.form
 obtain ⟨bo, cb, rfl⟩:=OT.form1 b1
 obtain ⟨co, cc, rfl⟩:=OPt.form ⟨vs, c1.tab⟩
 obtain ⟨od, cd, rfl⟩:=d1.form
 obtain ⟨oe, ce, rfl⟩:=e1.form
 exact ⟨_, _, _, _, _, _, _, _, _, _, rfl, rfl, rfl, rfl, rfl⟩
theorem ORepG.rrep {w : World} {lo hi : Nat} {t : RpT} {a b c d e : Value} (h : ORepG w lo hi t a b c d e) (hs : RSm t) : RRep w t a b c d e := by
 obtain ⟨s1, t1, s2, s3, u0, u1, s4, vs, _, ⟨a1, _⟩, ⟨b1, _⟩, c1, ⟨d1, _⟩, e1⟩:=h
 exact ⟨a1.ri (by have := hs.q; omega), b1.rt (by have := hs.p; omega), c1.rpt hs.tt, d1.rb (by have := hs.d; omega), e1.opo.rpo hs.hh⟩
theorem markRepG_any (lo hi : Nat) (t : RpT) (a b c d e : Value) (k0 : Nat) (w : World) (hs : RSm t) (hb : rq5 k0 t ≤ 100000000) (h : ORepG w lo hi t a b c d e) :
 Calls Tryz.prog 14 #[rpv t a b c d e,.int .i64 k0] w fun r w' => r = .returned (.int .i64 (rq5 k0 t)) ∧ ORepG w' lo hi (rmk k0 t) a b c d e ∧ Kp w w' (fun b => lo ≤ b ∧ b < hi) := by
 obtain ⟨s1, t1, s2, s3, u0, u1, s4, vs, hs0, ⟨oA, tA⟩, ⟨oB, tB⟩, oC, ⟨oD, tD⟩, oE⟩:=h
 have rA : ∀ j, a.ownBlock = some j → lo ≤ j ∧ j < s1:=fun j hj => ⟨(World.ownsRow.lt oA j hj).1, tA j hj⟩
 have rB : ∀ j, b.ownBlock = some j → t1 ≤ j ∧ j < s2:=fun j hj => ⟨(World.ownsRow.lt oB j hj).1, tB j hj⟩
 have rD : ∀ j, d.ownBlock = some j → u0 ≤ j ∧ j < u1:=fun j hj => ⟨(World.ownsRow.lt oD j hj).1, tD j hj⟩
 obtain ⟨q1, hq1⟩ : ∃ x, rq1 k0 t = x:=⟨_, rfl⟩
 obtain ⟨q2, hq2⟩ : ∃ x, rq2 k0 t = x:=⟨_, rfl⟩
 obtain ⟨q3, hq3⟩ : ∃ x, rq3 k0 t = x:=⟨_, rfl⟩
 obtain ⟨q4, hq4⟩ : ∃ x, rq4 k0 t = x:=⟨_, rfl⟩
 obtain ⟨q5, hq5⟩ : ∃ x, rq5 k0 t = x:=⟨_, rfl⟩
 have hle:=rq_le k0 t
 rw [hq1, hq2, hq3, hq4, hq5] at hle
 rw [hq5] at hb
 have hr : rmk k0 t = { t with qw:=imarks k0 t.qw.length, pool:=tmarks q1 t.pool.length, tab:=pmk q2 t.tab, dsk:=marks q3 t.dsk.length, held:=pomk q4 t.held }:=by unfold rmk; rw [hq1, hq2, hq3, hq4]
 rw [hr, hq5]
 clear hr
 unfold rq1 at hq1
 unfold rq2 at hq2
 unfold rq3 at hq3
 unfold rq4 at hq4
 unfold rq5 at hq5
 have e1 : rq1 k0 t = q1:=hq1
 have e2 : rq2 k0 t = q2:=hq2
 have e3 : rq3 k0 t = q3:=hq3
 have e4 : rq4 k0 t = q4:=hq4
 rw [e1] at hq2
 rw [e2] at hq3
 rw [e3] at hq4
 rw [e4] at hq5
 clear e1 e2 e3 e4
 have M1 : Hid (∀ w, OI w lo a t.qw → Calls Tryz.prog 51 #[sv t.vo t.lo t.n t.s a t.d,.int .i64 k0] w fun e w' => e = .returned (.int .i64 q1) ∧ OI w' lo a (imarks k0 t.qw.length) ∧ Kp w w' (fun k => a.ownBlock = some k)):=hide fun w h => by
  have:=markSafe_any t.vo t.lo t.n t.s lo a t.d t.qw k0 w (by have:=hs.q; omega) (by omega) h
  rw [← hq1]; simpa using this
 have M2 : Hid (∀ w, OT w t1 b t.pool → Calls Tryz.prog 52 #[b,.int .i64 q1] w fun e w' => e = .returned (.int .i64 q2) ∧ OT w' t1 b (tmarks q1 t.pool.length) ∧ Kp w w' (fun k => b.ownBlock = some k)):=hide fun w h => by
  have:=tmarkc_any t1 q1 b t.pool w (by have:=hs.p; omega) (by omega) h
  rw [← hq2]; simpa using this
 have M3 : Hid (∀ w, OPR w s2 s3 c t.tab vs → Calls Tryz.prog 53 #[c,.int .i64 q2] w fun e w' => e = .returned (.int .i64 q3) ∧ OPR w' s2 s3 c (pmk q2 t.tab) vs ∧ Kp w w' (fun b => s2 ≤ b ∧ b < s3)):=hide fun w h => by
  have:=markPartS_any s2 s3 c t.tab vs q2 w (by have:=hs.tb; omega) hs.tt (by omega) h
  rw [← hq3]; exact this
 have M4 : Hid (∀ w, OB w u0 d t.dsk → Calls Tryz.prog 54 #[dv d t.su,.int .i64 q3] w fun e w' => e = .returned (.int .i64 q4) ∧ OB w' u0 d (marks q3 t.dsk.length) ∧ Kp w w' (fun k => d.ownBlock = some k)):=hide fun w h => by
  have:=markDisk_any t.su u0 d t.dsk q3 w (by have:=hs.d; omega) (by omega) h
  rw [← hq4]; simpa using this
 have M5 : Hid (∀ w, OPC w s4 hi e t.held → Calls Tryz.prog 15 #[e,.int .i64 q4] w fun e' w' => e' = .returned (.int .i64 q5) ∧ OPC w' s4 hi e (pomk q4 t.held) ∧ Kp w w' (fun b => s4 ≤ b ∧ b < hi)):=hide fun w h => by
  have:=markPostS_any s4 hi e t.held q4 w (by have:=hs.h; omega) hs.hh (by omega) h
  rw [← hq5]; exact this
 clear hb hq1 hq2 hq3 hq4 hq5 hs tA tB tD
 obtain ⟨oa, ka, rfl⟩:=oA.form
 obtain ⟨ob, kb, rfl⟩:=OT.form1 oB
 obtain ⟨oc, kc, rfl⟩:=OPt.form ⟨vs, oC.tab⟩
 obtain ⟨od, kd, rfl⟩:=oD.form
 obtain ⟨oe, ke, rfl⟩:=oE.form
 obtain ⟨w0, hw0, Bw0, P, zw0⟩:=bx1 w #[.int .i64 t.id,.int .i64 t.vw,.int .i64 t.ak,.int .i64 t.vo,.int .i64 t.lo,.int .i64 t.n,.string t.s,.slice oa t.qw.length ka,.string t.d,.slice ob t.pool.length kb,.slice oc t.tab.length kc,.slice od t.dsk.length kd,.int .i64 t.su,.slice oe t.held.length ke] 46
 go_enter Tryz.func14, Tryz.ntmps14
 replace oA:=oA.below Bw0
 replace oB:=oB.below Bw0
 replace oC:=oC.below Bw0
 replace oD:=oD.below Bw0
 replace oE:=oE.below Bw0
 have KR : Kp w w0 (fun b => lo ≤ b ∧ b < hi):=Below.kpOf Bw0 _
 clear Bw0
 go_wp2_with (first | (refine wloadM [.int .i64 t.vo, .int .i64 t.lo, .int .i64 t.n, .string t.s, .slice oa t.qw.length ka, .string t.d] (P.range 3 6 rfl) 40 _ rfl _ rfl rfl Tryz.underlying40 rfl (by kernel_rfl) ?_))
 clear hw0
 refine (M1.out _ oA).mono ?_
 rintro _ v0 ⟨rfl, o2, kG⟩
 replace oB:=oB.kp kG (fun j hj e => by have h4:=rB j hj; have h5:=rA j e; omega)
 replace oC:=oC.kp kG (fun j h1 h2 e => by have h5:=rA j e; omega)
 replace oD:=oD.kp kG (fun j hj e => by have h4:=rD j hj; have h5:=rA j e; omega)
 replace oE:=oE.kp kG (fun j h1 h2 e => by have h5:=rA j e; omega)
 replace oA:=o2
 replace P:=P.kp kG (fun e => by have h5:=rA _ e; omega)
 replace KR:=KR.trans (kG.mono (fun j e => by have h5:=rA j e; omega))
 have zv0:=kG.size
 clear kG
 have c:=P.cell 9 rfl
 go_wp2_with fail
 refine (M2.out _ oB).mono ?_
 rintro _ v1 ⟨rfl, o2, kG⟩
 clear c
 replace oA:=oA.kp kG (fun j hj e => by have h4:=rA j hj; have h5:=rB j e; omega)
 replace oC:=oC.kp kG (fun j h1 h2 e => by have h5:=rB j e; omega)
 replace oD:=oD.kp kG (fun j hj e => by have h4:=rD j hj; have h5:=rB j e; omega)
 replace oE:=oE.kp kG (fun j h1 h2 e => by have h5:=rB j e; omega)
 replace oB:=o2
 replace P:=P.kp kG (fun e => by have h5:=rB _ e; omega)
 replace KR:=KR.trans (kG.mono (fun j e => by have h5:=rB j e; omega))
 have zv1:=kG.size
 clear kG
 have c:=P.cell 10 rfl
 go_wp2_with fail
 refine (M3.out _ oC).mono ?_
 rintro _ v2 ⟨rfl, o2, kG⟩
 clear c
 replace oA:=oA.kp kG (fun j hj e => by have h4:=rA j hj; obtain ⟨h5, h6⟩:=e; omega)
 replace oB:=oB.kp kG (fun j hj e => by have h4:=rB j hj; obtain ⟨h5, h6⟩:=e; omega)
 replace oD:=oD.kp kG (fun j hj e => by have h4:=rD j hj; obtain ⟨h5, h6⟩:=e; omega)
 replace oE:=oE.kp kG (fun j h1 h2 e => by obtain ⟨h5, h6⟩:=e; omega)
 replace oC:=o2
 replace P:=P.kp kG (fun e => by obtain ⟨h5, h6⟩:=e; omega)
 replace KR:=KR.trans (kG.mono (fun j e => by obtain ⟨h5, h6⟩:=e; omega))
 have zv2:=kG.size
 clear kG
 go_wp2_with (first | (refine wloadM [.slice od t.dsk.length kd, .int .i64 t.su] (P.range 11 2 rfl) 43 _ rfl _ rfl rfl Tryz.underlying43 rfl (by kernel_rfl) ?_))
 refine (M4.out _ oD).mono ?_
 rintro _ v3 ⟨rfl, o2, kG⟩
 replace oA:=oA.kp kG (fun j hj e => by have h4:=rA j hj; have h5:=rD j e; omega)
 replace oB:=oB.kp kG (fun j hj e => by have h4:=rB j hj; have h5:=rD j e; omega)
 replace oC:=oC.kp kG (fun j h1 h2 e => by have h5:=rD j e; omega)
 replace oE:=oE.kp kG (fun j h1 h2 e => by have h5:=rD j e; omega)
 replace oD:=o2
 replace P:=P.kp kG (fun e => by have h5:=rD _ e; omega)
 replace KR:=KR.trans (kG.mono (fun j e => by have h5:=rD j e; omega))
 have zv3:=kG.size
 clear kG
 have c:=P.cell 13 rfl
 go_wp2_with fail
 refine (M5.out _ oE).mono ?_
 rintro _ v4 ⟨rfl, o2, kG⟩
 clear c
 replace oA:=oA.kp kG (fun j hj e => by have h4:=rA j hj; obtain ⟨h5, h6⟩:=e; omega)
 replace oB:=oB.kp kG (fun j hj e => by have h4:=rB j hj; obtain ⟨h5, h6⟩:=e; omega)
 replace oC:=oC.kp kG (fun j h1 h2 e => by obtain ⟨h5, h6⟩:=e; omega)
 replace oD:=oD.kp kG (fun j hj e => by have h4:=rD j hj; obtain ⟨h5, h6⟩:=e; omega)
 replace oE:=o2
 replace P:=P.kp kG (fun e => by obtain ⟨h5, h6⟩:=e; omega)
 replace KR:=KR.trans (kG.mono (fun j e => by obtain ⟨h5, h6⟩:=e; omega))
 have zv4:=kG.size
 clear kG
 have OA:=hide oA
 have OB_:=hide oB
 have OC:=hide oC
 have OD:=hide oD
 have OE:=hide oE
 have KH:=hide KR
 clear oA oB oC oD oE KR
 go_wp2
 go_ret
 exact ⟨rfl, ⟨s1, t1, s2, s3, u0, u1, s4, vs, by omega, ⟨OA.out, fun j hj => (rA j hj).2⟩, ⟨OB_.out, fun j hj => (rB j hj).2⟩, OC.out, ⟨OD.out, fun j hj => (rD j hj).2⟩, OE.out⟩, KH.out⟩
end
end Go.Proofs.YtjdchloechcclaaGreatDoor
