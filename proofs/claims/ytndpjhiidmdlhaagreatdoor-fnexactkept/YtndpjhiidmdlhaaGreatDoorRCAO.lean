/- Texts that belong together: BlockTx, RepOne, PartHeld, PartSum, RepEq, RepSz. -/
import Derived.Test.YtndpjhiidmdlhaaGreatDoorRCAN
import Derived.Test.YtndpjhiidmdlhaaGreatDoorRCAK
import Derived.Test.YtndpjhiidmdlhaaGreatDoorRCAA
import Derived.Test.YtndpjhiidmdlhaaGreatDoorRCAJ
import Derived.Test.YtndpjhiidmdlhaaGreatDoorRCAF
set_option maxRecDepth 100000
set_option maxHeartbeats 16000000
namespace Go.Proofs.YtndpjhiidmdlhaaGreatDoor
open Go.RowKit
set_option linter.unusedSectionVars false
variable [∀ (a b c d : Int), Decidable (Ok4 a b c d)]
variable [∀ (a b c d : Nat), Decidable (okN a b c d)]
variable [∀ (x : T4), Decidable (OkT x)]

theorem OT.kp {w w' : World} {base : Nat} {X : Nat → Prop} {v : Value} {xs : List T4} (h : OT w base v xs) (k : Kp w w' X) (hv : ∀ k, v.ownBlock = some k → ¬ X k) : OT w' base v xs := by
 refine ⟨h.1, ?_⟩
 rcases h.2 with hn | ⟨g, cap, cur, rfl, hb, hgg, rest⟩
 ·exact .inl hn
 ·refine .inr ⟨g, cap, cur, rfl, hb, ?_, rest⟩
  rw [k.block g (Array.getElem?_eq_some_iff.1 hgg).1 (hv g rfl)]
  exact hgg
theorem szL_yes (ao : Option Addr) (n ca : Nat) (left : Int) (w : World) (hn : (n : Int) ≤ left) (hl : left ≤ 1048576) :
 Calls Tryz.prog 34 #[.slice ao n ca,.int .i64 left] w fun e w' => e = .returned (.int .i64 (left - n)) ∧ w' = w := by
 have hd : decide ((left : Int) - (n : Int) < 0) = false:=by simp; omega
 go_enter Tryz.func34, Tryz.ntmps34
 go_wp2
 go_ret
 exact ⟨rfl, rfl⟩
theorem szL_no (ao : Option Addr) (n ca : Nat) (left : Int) (w : World) (h0 : 0 ≤ left) (hn : left < (n : Int)) (hm : n ≤ 9223372036854775807) (hl : left ≤ 1048576) :
 Calls Tryz.prog 34 #[.slice ao n ca,.int .i64 left] w fun e w' => e = .returned (.int .i64 (-1)) ∧ w' = w := by
 have hd : decide ((left : Int) - (n : Int) < 0) = true:=by simp; omega
 go_enter Tryz.func34, Tryz.ntmps34
 go_wp2
 go_ret
 exact ⟨rfl, rfl⟩
end Go.Proofs.YtndpjhiidmdlhaaGreatDoor
namespace Go.Proofs.YtndpjhiidmdlhaaGreatDoor
open Go.RowKit
set_option linter.unusedSectionVars false
variable [∀ (a b c d : Int), Decidable (Ok4 a b c d)]
variable [∀ (n f : Int), Decidable (COk n f)]
variable [∀ (a b c d : Nat), Decidable (okN a b c d)]
variable [∀ (x : T4), Decidable (OkT x)]

structure RpT where
 id : Int
 vw : Int
 ak : Int
 vo : Int
 lo : Int
 n : Int
 s : ByteArray
 qw : List Int
 d : ByteArray
 pool : List T4
 tab : List Pt
 dsk : List Int
 su : Int
 held : List PoT
abbrev rpv (t : RpT) (a b c d e : Value) : Value := .agg #[.int .i64 t.id,.int .i64 t.vw,.int .i64 t.ak,.int .i64 t.vo,.int .i64 t.lo,.int .i64 t.n,.string t.s, a,.string t.d, b, c, d,.int .i64 t.su, e]
structure RRep (w : World) (t : RpT) (a b c d e : Value) : Prop where
 q : RI w a t.qw
 p : RT w b t.pool
 tb : RPt w c t.tab
 d : RB w d t.dsk
 h : RPo w e t.held
structure IRep (w : World) (t : RpT) (a : Value) (bo : Option Addr) (c d e : Value) : Prop where
 q : RI w a t.qw
 p : AR w bo t.pool
 tb : RPt w c t.tab
 d : RB w d t.dsk
 h : RPo w e t.held
theorem IRep.below {w w' : World} {t : RpT} {a : Value} {bo : Option Addr} {c d e : Value} (h : IRep w t a bo c d e) (hb : Below w.heap.size w w') : IRep w' t a bo c d e :=
 ⟨h.q.below hb, h.p.below hb, h.tb.below hb, h.d.below hb, h.h.below hb⟩
def ORep (w : World) (lo : Nat) (t : RpT) (a b c d e : Value) : Prop := ∃ s1 s2 s3 s4 vs, (lo ≤ s1 ∧ s1 ≤ s2 ∧ s2 ≤ s3 ∧ s3 ≤ s4 ∧ s4 ≤ w.heap.size) ∧ (OI w lo a t.qw ∧ ∀ j, a.ownBlock = some j → j < s1) ∧ (OT w s1 b t.pool ∧ ∀ j, b.ownBlock = some j → j < s2) ∧ OPR w s2 s3 c t.tab vs ∧ (OB w s3 d t.dsk ∧ ∀ j, d.ownBlock = some j → j < s4) ∧ OPo w s4 e t.held
theorem ORep.below {w w' : World} {lo : Nat} {t : RpT} {a b c d e : Value} (h : ORep w lo t a b c d e) (hb : Below w.heap.size w w') : ORep w' lo t a b c d e := by
 obtain ⟨s1, s2, s3, s4, vs, hs, ⟨a1, a2⟩, ⟨b1, b2⟩, c1, ⟨d1, d2⟩, e1⟩:=h
 have:=hb.size
 exact ⟨s1, s2, s3, s4, vs, by omega, ⟨a1.below hb, a2⟩, ⟨b1.below hb, b2⟩, c1.below hb, ⟨d1.below hb, d2⟩, e1.below hb⟩
theorem ORep.mono {w : World} {lo lo' : Nat} {t : RpT} {a b c d e : Value} (h : ORep w lo t a b c d e) (hl : lo' ≤ lo) : ORep w lo' t a b c d e := by
 obtain ⟨s1, s2, s3, s4, vs, hs, ⟨a1, a2⟩, r⟩:=h
 exact ⟨s1, s2, s3, s4, vs, by omega, ⟨a1.mono hl, a2⟩, r⟩
theorem OT.form1 {w : World} {base : Nat} {v : Value} {xs : List T4} (h : OT w base v xs) : ∃ ao ca, v = .slice ao xs.length ca := by
 rcases h.2 with ⟨rfl, h0⟩ | ⟨g, cap, cur, rfl, _⟩
 ·exact ⟨none, 0, by rw [h0]⟩
 ·exact ⟨_, _, rfl⟩
theorem ORep.form {w : World} {lo : Nat} {t : RpT} {a b c d e : Value} (h : ORep w lo t a b c d e) : ∃ ao ca bo cb co cc od cd oe ce, a = .slice ao t.qw.length ca ∧ b = .slice bo t.pool.length cb ∧ c = .slice co t.tab.length cc ∧ d = .slice od t.dsk.length cd ∧ e = .slice oe t.held.length ce := by
 obtain ⟨s1, s2, s3, s4, vs, hs, ⟨a1, a2⟩, ⟨b1, b2⟩, c1, ⟨d1, d2⟩, e1⟩:=h
 obtain ⟨ao, ca, rfl⟩:=a1.form
 obtain ⟨bo, cb, rfl⟩:=OT.form1 b1
 obtain ⟨co, cc, rfl⟩:=OPt.form ⟨vs, c1.tab⟩
 obtain ⟨od, cd, rfl⟩:=d1.form
 obtain ⟨oe, ce, rfl⟩:=e1.form
 exact ⟨_, _, _, _, _, _, _, _, _, _, rfl, rfl, rfl, rfl, rfl⟩
structure RSm (t : RpT) : Prop where
 q : t.qw.length ≤ 1048577
 p : t.pool.length ≤ 1048577
 tb : t.tab.length ≤ 1048577
 d : t.dsk.length ≤ 1048577
 h : t.held.length ≤ 1048577
 tt : ∀ p ∈ t.tab, p.2.2.length ≤ 4194304
 hh : ∀ j, j < t.held.length → (t.held.getD j zpost).2.bw.length ≤ 4194304 ∧ (t.held.getD j zpost).2.pw.length ≤ 4194304 ∧ (t.held.getD j zpost).2.qw.length ≤ 4194304
theorem ORep.rrep {w : World} {lo : Nat} {t : RpT} {a b c d e : Value} (h : ORep w lo t a b c d e) (hs : RSm t) : RRep w t a b c d e := by
 obtain ⟨s1, s2, s3, s4, vs, _, ⟨a1, _⟩, ⟨b1, _⟩, c1, ⟨d1, _⟩, e1⟩:=h
 exact ⟨a1.ri (by have := hs.q; omega), b1.rt (by have := hs.p; omega), c1.rpt hs.tt, d1.rb (by have := hs.d; omega), e1.rpo hs.hh⟩
theorem RB.form1 {w : World} {v : Value} {xs : List Int} (h : RB w v xs) : ∃ ao ca, v = .slice ao xs.length ca := by obtain ⟨_, ao, ca, e, _⟩ := h; exact ⟨ao, ca, e⟩
theorem toRep_any (t : RpT) (a : Value) (bo : Option Addr) (cb : Nat) (c d e : Value) (w : World) (hs : RSm t) (h : IRep w t a bo c d e) :
 Calls Tryz.prog 12 #[rpv t a (.slice bo t.pool.length cb) c d e] w fun r w' => ∃ a' b' c' d' e', r = .returned (rpv t a' b' c' d' e') ∧ ORep w' w.heap.size t a' b' c' d' e' ∧ Below w.heap.size w w' := by
 have HI:=hide h
 have T1:=hide fun w h => toSafe_any t.vo t.lo t.n t.s a t.qw t.d w h
 have T2:=hide fun w h => toTxS_any bo cb t.pool w hs.p h
 have T3:=hide fun v w h => toPartS_any v t.tab w hs.tb h
 have T4_:=hide fun v w h => toDisk_any v t.dsk t.su w h
 have T5:=hide fun v w h => toPostS_any v t.held w hs.h h
 obtain ⟨oa, ka, rfl⟩:=h.q.form
 obtain ⟨oc, kc, rfl⟩:=h.tb.form
 obtain ⟨od, kd, rfl⟩:=RB.form1 h.d
 obtain ⟨oe, ke, rfl⟩:=h.h.form
 clear h hs
 obtain ⟨w0, hw0, Bw0, P, R, O, zw0⟩:=bx3 w #[.int .i64 t.id,.int .i64 t.vw,.int .i64 t.ak,.int .i64 t.vo,.int .i64 t.lo,.int .i64 t.n,.string t.s,.slice oa t.qw.length ka,.string t.d,.slice bo t.pool.length cb,.slice oc t.tab.length kc,.slice od t.dsk.length kd,.int .i64 t.su,.slice oe t.held.length ke] 36 #[.int .i64 0,.int .i64 0,.int .i64 0,.int .i64 0,.int .i64 0,.int .i64 0,.string ⟨#[]⟩,.slice none 0 0,.string ⟨#[]⟩,.slice none 0 0,.slice none 0 0,.slice none 0 0,.int .i64 0,.slice none 0 0] 49 #[.int .i64 0,.int .i64 0,.int .i64 0,.int .i64 0,.int .i64 0,.int .i64 0,.string ⟨#[]⟩,.slice none 0 0,.string ⟨#[]⟩,.slice none 0 0,.slice none 0 0,.slice none 0 0,.int .i64 0,.slice none 0 0] 49
 go_enter Tryz.func12, Tryz.ntmps12
 have cP0:=P.cell 0 rfl
 have cP1:=P.cell 1 rfl
 have cP2:=P.cell 2 rfl
 have cO0:=O.cell 0 rfl
 have cO1:=O.cell 1 rfl
 have cO2:=O.cell 2 rfl
 have fO:=O.frozen
 go_upto_region 5 with fail
 clear hw0
 clear cP0 cP1 cP2 cO0 cO1 cO2
 clear fO
 obtain ⟨w1, hw1⟩ : ∃ w9_, (((w0.setCell ⟨w.heap.size + 1 + 1, 0, none⟩ (.int .i64 t.id)).setCell ⟨w.heap.size + 1 + 1, 1, none⟩ (.int .i64 t.vw)).setCell ⟨w.heap.size + 1 + 1, 2, none⟩ (.int .i64 t.ak)) = w9_:=⟨_, rfl⟩
 have kN : Kp w0 w1 (fun k => k = w.heap.size + 1 + 1):=hw1 ▸ ((set_kp _ _ _ _).trans (set_kp _ _ _ _)).trans (set_kp _ _ _ _)
 replace O : Loc w1 (w.heap.size + 1 + 1) #[.int .i64 t.id,.int .i64 t.vw,.int .i64 t.ak,.int .i64 0,.int .i64 0,.int .i64 0,.string ⟨#[]⟩,.slice none 0 0,.string ⟨#[]⟩,.slice none 0 0,.slice none 0 0,.slice none 0 0,.int .i64 0,.slice none 0 0]:=hw1 ▸ (((O.set 0 _ rfl).set 1 _ rfl).set 2 _ rfl)
 replace P:=P.kp kN (by omega)
 replace R:=R.kp kN (by omega)
 have Bw1:=Below.kp Bw0 kN Bw0.size (fun k hk => by omega)
 have sw1:=kN.size
 rw [hw1]
 clear hw1 kN Bw0
 go_wp2_with (first | (refine wloadM [.int .i64 t.vo, .int .i64 t.lo, .int .i64 t.n, .string t.s, .slice oa t.qw.length ka, .string t.d] (P.range 3 6 rfl) 28 _ rfl _ rfl rfl Tryz.underlying28 rfl (by kernel_rfl) ?_))
 refine (T1.out _ (HI.out.q.below Bw1)).mono ?_
 rintro _ w2 ⟨uA, rfl, oA, bb⟩
 have Bw2:=bu Bw1 bb
 have sw2:=bb.size
 replace P:=P.up bb
 replace R:=R.up bb
 replace O:=O.up bb
 clear Bw1
 clear bb
 have toA:=World.ownsRow.lt oA
 obtain ⟨aoA, koA, rfl⟩:=oA.form
 go_upto_region 6 with (refine wstoreM #[.int .i64 t.vo,.int .i64 t.lo,.int .i64 t.n,.string t.s,.slice aoA t.qw.length koA,.string t.d] (O.there 3 6 (by simp)) 43 rfl _ _ rfl rfl rfl (by kernel_rfl) (by simp [Value.oneCell']) ?_)
 obtain ⟨w3, hw3⟩ : ∃ y, w2.setCells (w.heap.size + 1 + 1) 3 [.int .i64 t.vo, .int .i64 t.lo, .int .i64 t.n, .string t.s, .slice aoA t.qw.length koA, .string t.d] = y:=⟨_, rfl⟩
 rw [hw3]
 have kN : Kp w2 w3 (fun k => k = w.heap.size + 1 + 1):=hw3 ▸ setCells_kp _ _ _ _
 replace O : Loc w3 (w.heap.size + 1 + 1) #[.int .i64 t.id,.int .i64 t.vw,.int .i64 t.ak,.int .i64 t.vo,.int .i64 t.lo,.int .i64 t.n,.string t.s,.slice aoA t.qw.length koA,.string t.d,.slice none 0 0,.slice none 0 0,.slice none 0 0,.int .i64 0,.slice none 0 0]:=hw3 ▸ O.setCells _ _ rfl
 replace P:=P.kp kN (by omega)
 replace R:=R.kp kN (by omega)
 replace oA:=oA.kp kN (fun j hj e => by have:=toA j hj; omega)
 have Bw3:=Below.kp Bw2 kN Bw2.size (fun k hk => by omega)
 have sw3:=kN.size
 clear hw3 kN Bw2
 have cP9:=P.cell 9 rfl
 go_wp2_with fail
 refine (T2.out _ (HI.out.p.below Bw3)).mono ?_
 rintro _ w4 ⟨uB, rfl, oB, bb⟩
 clear cP9
 have Bw4:=bu Bw3 bb
 have sw4:=bb.size
 replace P:=P.up bb
 replace R:=R.up bb
 replace O:=O.up bb
 replace oA:=oA.below bb
 clear Bw3
 clear bb
 have toB:=World.ownsRow.lt oB
 obtain ⟨aoB, koB, rfl⟩:=OT.form1 oB
 have cO9:=O.cell 9 rfl
 have fO:=O.frozen
 go_upto_region 7 with fail
 clear cO9
 clear fO
 obtain ⟨w5, hw5⟩ : ∃ w9_, (w4.setCell ⟨w.heap.size + 1 + 1, 9, none⟩ (.slice aoB t.pool.length koB)) = w9_:=⟨_, rfl⟩
 have kN : Kp w4 w5 (fun k => k = w.heap.size + 1 + 1):=hw5 ▸ set_kp _ _ _ _
 replace O : Loc w5 (w.heap.size + 1 + 1) #[.int .i64 t.id,.int .i64 t.vw,.int .i64 t.ak,.int .i64 t.vo,.int .i64 t.lo,.int .i64 t.n,.string t.s,.slice aoA t.qw.length koA,.string t.d,.slice aoB t.pool.length koB,.slice none 0 0,.slice none 0 0,.int .i64 0,.slice none 0 0]:=hw5 ▸ (O.set 9 _ rfl)
 replace P:=P.kp kN (by omega)
 replace R:=R.kp kN (by omega)
 replace oA:=oA.kp kN (fun j hj e => by have:=toA j hj; omega)
 replace oB:=oB.kp kN (fun j hj e => by have:=toB j hj; omega)
 have Bw5:=Below.kp Bw4 kN Bw4.size (fun k hk => by omega)
 have sw5:=kN.size
 rw [hw5]
 clear hw5 kN Bw4
 have cP10:=P.cell 10 rfl
 go_wp2_with fail
 refine (T3.out _ _ (HI.out.tb.below Bw5)).mono ?_
 rintro _ w6 ⟨uC, rfl, oC, bb⟩
 clear cP10
 have Bw6:=bu Bw5 bb
 have sw6:=bb.size
 replace P:=P.up bb
 replace R:=R.up bb
 replace O:=O.up bb
 replace oA:=oA.below bb
 replace oB:=oB.below bb
 clear Bw5
 clear bb
 obtain ⟨aoC, koC, rfl⟩:=oC.form
 obtain ⟨vs, oC⟩:=oC
 replace oC:=oC.opr
 obtain ⟨s3, hs3⟩ : ∃ x, w6.heap.size = x:=⟨_, rfl⟩
 rw [hs3] at oC
 have cO10:=O.cell 10 rfl
 have fO:=O.frozen
 go_upto_region 8 with fail
 clear cO10
 clear fO
 obtain ⟨w7, hw7⟩ : ∃ w9_, (w6.setCell ⟨w.heap.size + 1 + 1, 10, none⟩ (.slice aoC t.tab.length koC)) = w9_:=⟨_, rfl⟩
 have kN : Kp w6 w7 (fun k => k = w.heap.size + 1 + 1):=hw7 ▸ set_kp _ _ _ _
 replace O : Loc w7 (w.heap.size + 1 + 1) #[.int .i64 t.id,.int .i64 t.vw,.int .i64 t.ak,.int .i64 t.vo,.int .i64 t.lo,.int .i64 t.n,.string t.s,.slice aoA t.qw.length koA,.string t.d,.slice aoB t.pool.length koB,.slice aoC t.tab.length koC,.slice none 0 0,.int .i64 0,.slice none 0 0]:=hw7 ▸ (O.set 10 _ rfl)
 replace P:=P.kp kN (by omega)
 replace R:=R.kp kN (by omega)
 replace oA:=oA.kp kN (fun j hj e => by have:=toA j hj; omega)
 replace oB:=oB.kp kN (fun j hj e => by have:=toB j hj; omega)
 replace oC:=oC.kp kN (fun j h1 h2 e => by omega)
 have Bw7:=Below.kp Bw6 kN Bw6.size (fun k hk => by omega)
 have sw7:=kN.size
 rw [hw7]
 clear hw7 kN Bw6
 go_wp2_with (first | (refine wloadM [.slice od t.dsk.length kd, .int .i64 t.su] (P.range 11 2 rfl) 33 _ rfl _ rfl rfl Tryz.underlying33 rfl (by kernel_rfl) ?_))
 refine (T4_.out _ _ (HI.out.d.below Bw7)).mono ?_
 rintro _ w8 ⟨uD, rfl, oD, bb⟩
 have Bw8:=bu Bw7 bb
 have sw8:=bb.size
 replace P:=P.up bb
 replace R:=R.up bb
 replace O:=O.up bb
 replace oA:=oA.below bb
 replace oB:=oB.below bb
 clear Bw7
 replace oC:=oC.below bb
 clear bb
 have toD:=World.ownsRow.lt oD
 obtain ⟨aoD, koD, rfl⟩:=oD.form
 go_upto_region 9 with (refine wstoreM #[.slice aoD t.dsk.length koD,.int .i64 t.su] (O.there 11 2 (by simp)) 46 rfl _ _ rfl rfl rfl (by kernel_rfl) (by simp [Value.oneCell']) ?_)
 obtain ⟨w9, hw9⟩ : ∃ y, w8.setCells (w.heap.size + 1 + 1) 11 [.slice aoD t.dsk.length koD, .int .i64 t.su] = y:=⟨_, rfl⟩
 rw [hw9]
 have kN : Kp w8 w9 (fun k => k = w.heap.size + 1 + 1):=hw9 ▸ setCells_kp _ _ _ _
 replace O : Loc w9 (w.heap.size + 1 + 1) #[.int .i64 t.id,.int .i64 t.vw,.int .i64 t.ak,.int .i64 t.vo,.int .i64 t.lo,.int .i64 t.n,.string t.s,.slice aoA t.qw.length koA,.string t.d,.slice aoB t.pool.length koB,.slice aoC t.tab.length koC,.slice aoD t.dsk.length koD,.int .i64 t.su,.slice none 0 0]:=hw9 ▸ O.setCells _ _ rfl
 replace P:=P.kp kN (by omega)
 replace R:=R.kp kN (by omega)
 replace oA:=oA.kp kN (fun j hj e => by have:=toA j hj; omega)
 replace oB:=oB.kp kN (fun j hj e => by have:=toB j hj; omega)
 replace oD:=oD.kp kN (fun j hj e => by have:=toD j hj; omega)
 replace oC:=oC.kp kN (fun j h1 h2 e => by omega)
 have Bw9:=Below.kp Bw8 kN Bw8.size (fun k hk => by omega)
 have sw9:=kN.size
 clear hw9 kN Bw8
 have cP13:=P.cell 13 rfl
 go_wp2_with fail
 refine (T5.out _ _ (HI.out.h.below Bw9)).mono ?_
 rintro _ w10 ⟨uE, rfl, oE, bb⟩
 clear cP13
 have Bw10:=bu Bw9 bb
 have sw10:=bb.size
 replace P:=P.up bb
 replace R:=R.up bb
 replace O:=O.up bb
 replace oA:=oA.below bb
 replace oB:=oB.below bb
 replace oD:=oD.below bb
 clear Bw9
 replace oC:=oC.below bb
 clear bb
 obtain ⟨aoE, koE, rfl⟩:=oE.form
 have cO13:=O.cell 13 rfl
 have fO:=O.frozen
 go_upto_region 10 with fail
 clear cO13
 clear fO
 obtain ⟨w11, hw11⟩ : ∃ w9_, (w10.setCell ⟨w.heap.size + 1 + 1, 13, none⟩ (.slice aoE t.held.length koE)) = w9_:=⟨_, rfl⟩
 have kN : Kp w10 w11 (fun k => k = w.heap.size + 1 + 1):=hw11 ▸ set_kp _ _ _ _
 replace O : Loc w11 (w.heap.size + 1 + 1) #[.int .i64 t.id,.int .i64 t.vw,.int .i64 t.ak,.int .i64 t.vo,.int .i64 t.lo,.int .i64 t.n,.string t.s,.slice aoA t.qw.length koA,.string t.d,.slice aoB t.pool.length koB,.slice aoC t.tab.length koC,.slice aoD t.dsk.length koD,.int .i64 t.su,.slice aoE t.held.length koE]:=hw11 ▸ (O.set 13 _ rfl)
 replace P:=P.kp kN (by omega)
 replace R:=R.kp kN (by omega)
 replace oA:=oA.kp kN (fun j hj e => by have:=toA j hj; omega)
 replace oB:=oB.kp kN (fun j hj e => by have:=toB j hj; omega)
 replace oD:=oD.kp kN (fun j hj e => by have:=toD j hj; omega)
 replace oC:=oC.kp kN (fun j h1 h2 e => by omega)
 replace oE:=oE.kp kN (fun j h1 e => by omega)
 have Bw11:=Below.kp Bw10 kN Bw10.size (fun k hk => by omega)
 have sw11:=kN.size
 rw [hw11]
 clear hw11 kN Bw10
 go_wp2_with (first | (refine wload O 49 _ rfl _ rfl rfl Tryz.underlying49 rfl (by kernel_rfl) ?_) | (refine wstore R 49 #[.int .i64 t.id,.int .i64 t.vw,.int .i64 t.ak,.int .i64 t.vo,.int .i64 t.lo,.int .i64 t.n,.string t.s,.slice aoA t.qw.length koA,.string t.d,.slice aoB t.pool.length koB,.slice aoC t.tab.length koC,.slice aoD t.dsk.length koD,.int .i64 t.su,.slice aoE t.held.length koE] rfl _ _ rfl rfl rfl (by kernel_rfl) rfl (by simp [Value.oneCell']) ?_))
 obtain ⟨wE, hwE⟩ : ∃ w9_, w11.setRow (w.heap.size + 1) #[.int .i64 t.id,.int .i64 t.vw,.int .i64 t.ak,.int .i64 t.vo,.int .i64 t.lo,.int .i64 t.n,.string t.s,.slice aoA t.qw.length koA,.string t.d,.slice aoB t.pool.length koB,.slice aoC t.tab.length koC,.slice aoD t.dsk.length koD,.int .i64 t.su,.slice aoE t.held.length koE] = w9_:=⟨_, rfl⟩
 have kN : Kp w11 wE (fun k => k = w.heap.size + 1):=hwE ▸ row_kp _ _ _
 replace R : Loc wE (w.heap.size + 1) #[.int .i64 t.id,.int .i64 t.vw,.int .i64 t.ak,.int .i64 t.vo,.int .i64 t.lo,.int .i64 t.n,.string t.s,.slice aoA t.qw.length koA,.string t.d,.slice aoB t.pool.length koB,.slice aoC t.tab.length koC,.slice aoD t.dsk.length koD,.int .i64 t.su,.slice aoE t.held.length koE]:=hwE ▸ R.row
 replace P:=P.kp kN (by omega)
 replace O:=O.kp kN (by omega)
 replace oA:=oA.kp kN (fun j hj e => by have:=toA j hj; omega)
 replace oB:=oB.kp kN (fun j hj e => by have:=toB j hj; omega)
 replace oD:=oD.kp kN (fun j hj e => by have:=toD j hj; omega)
 replace oC:=oC.kp kN (fun j h1 h2 e => by omega)
 replace oE:=oE.kp kN (fun j h1 e => by omega)
 have BwE:=Below.kp Bw11 kN Bw11.size (fun k hk => by omega)
 have swE:=kN.size
 rw [hwE]
 clear hwE kN Bw11
 refine bodyPost_ret (v := rpv t (.slice aoA t.qw.length koA) (.slice aoB t.pool.length koB) (.slice aoC t.tab.length koC) (.slice aoD t.dsk.length koD) (.slice aoE t.held.length koE)) (res_row Tryz.results12 _ R rfl Tryz.underlying49 rfl (by kernel_rfl)) rfl ?_
 exact ⟨_, _, _, _, _, rfl, ⟨w3.heap.size, w5.heap.size, s3, w9.heap.size, vs, by omega, ⟨oA.mono (by omega), fun j hj => by have := toA j hj; omega⟩, ⟨oB, fun j hj => by have := toB j hj; omega⟩, oC, ⟨oD.mono (by omega), fun j hj => by have := toD j hj; omega⟩, oE⟩, BwE⟩
end Go.Proofs.YtndpjhiidmdlhaaGreatDoor
namespace Go.Proofs.YtndpjhiidmdlhaaGreatDoor
open Go.RowKit
set_option linter.unusedSectionVars false
variable [∀ (a b c d : Int), Decidable (Ok4 a b c d)]
variable [∀ (n f : Int), Decidable (COk n f)]

theorem szPartS_no (al : Option Addr) (cl : Nat) (rs : List Pr) (left : Int) (w : World) (h : ATab w al rs) (hb : ∀ r ∈ rs, r.2.1.size ≤ maxLen ∧ r.2.2.2.2.length ≤ maxLen) (h0 : 0 ≤ left) (hm : rs.length ≤ maxLen) (hs : left < (rs.length : Int) + psum rs) (hl : left ≤ 1048576) :
 Calls Tryz.prog 35 #[.slice al rs.length cl,.int .i64 left] w fun e w' => e = .returned (.int .i64 (-1)) ∧ Below w.heap.size w w' := by
 obtain ⟨n, hn⟩ : ∃ n, rs.length = n:=⟨_, rfl⟩
 have Hn:=hide hn
 have H:=hide h
 have HB:=hide hb
 unfold maxLen at hm
 rw [hn] at hs hm ⊢
 clear hn h hb
 by_cases h1 : left < n
 ·have hd0 : decide (left - (n : Int) < 0) = true:=by simp; omega
  clear H HB
  go_enter Tryz.func35, Tryz.ntmps35
  go_wp2
  go_ret
  exact ⟨rfl, Below.refl _ _⟩
 have hd0 : decide (left - (n : Int) < 0) = false:=by simp; omega
 go_enter Tryz.func35, Tryz.ntmps35
 go_wp2
 go_loopw [1, 5] (fun a i wr => ∃ k : Nat, k ≤ n ∧ i = .int .i64 k ∧ a = .int .i64 (left - n - (psum (rs.take k) : Nat)) ∧ (psum (rs.take k) : Int) ≤ left - n ∧ Below w.heap.size w wr) (fun _ i _ => n - (intOf i).toNat)
 case atStart => exact ⟨0, Nat.zero_le _, rfl, by simp [psum], by simp [psum]; omega, Below.refl _ _⟩
 case round =>
  obtain ⟨k, hk, rfl, rfl, hp, br⟩:=hrel
  by_cases hlt : k < n
  ·have hkx : k < rs.length:=by have:=Hn.out; omega
   have HP1:=hide (psum_take rs k hkx)
   have hbk:=HB.out (rs.getD k prz) (by rw [List.getD_eq_getElem?_getD, List.getElem?_eq_getElem hkx]; exact List.getElem_mem hkx)
   rcases H.out with h | ⟨g, off, rfl, h⟩
   ·subst h; simp at hkx
   obtain ⟨c0, c1, c2⟩:=h k hkx
   have hg : g < w.heap.size:=cell_lt c0
   replace c0:=(br.cell (p:=⟨g, off + k * 3, none⟩) hg).trans c0
   replace c1:=(br.cell (p:=⟨g, off + k * 3 + 1, none⟩) hg).trans c1
   replace c2:=(br.cell (p:=⟨g, off + k * 3 + 2, none⟩) hg).trans c2
   clear h H HB
   generalize (rs.getD k prz).1 = m at *
   generalize (rs.getD k prz).2.1 = s at *
   generalize (rs.getD k prz).2.2.2.2.length = x at *
   generalize (rs.getD k prz).2.2.1 = ao at *
   generalize (rs.getD k prz).2.2.2.1 = ca at *
   generalize psum (rs.take k) = q at *
   obtain ⟨hb1, hb2⟩:=hbk
   unfold maxLen at hb1 hb2
   by_cases hfit : (s.size : Int) + x ≤ left - n - q
   ·have SZ:=hide fun w => szPart_yes m s ao x ca (left - n - q) w hfit (by omega)
    have hd1 : decide (left - (n : Int) - (q : Int) - (s.size : Int) - (x : Int) < 0) = false:=by simp; omega
    go_wp2_with fail
    refine (SZ.out _).mono ?_
    rintro e w1 ⟨rfl, b1⟩
    have B1:=bu br b1
    clear c0 c1 c2 SZ b1
    go_wp2
    go_roundw
    case rel => exact ⟨k + 1, by omega, by go_num, by rw [HP1.out]; simp; omega, by rw [HP1.out]; simp; omega, B1⟩
    case measure => simp [intOf]; omega
   ·have SZ:=hide fun w => szPart_no m s ao x ca (left - n - q) w (by omega) (by omega) (by omega) (by omega) (by omega)
    go_wp2_with fail
    refine (SZ.out _).mono ?_
    rintro e w1 ⟨rfl, b1⟩
    have B1:=bu br b1
    clear c0 c1 c2 SZ b1
    go_wp2
    go_ret
    exact ⟨rfl, B1⟩
  ·have hkn : rs.take k = rs:=List.take_of_length_le (by have:=Hn.out; omega)
   rw [hkn] at hp
   omega

theorem psum_each {rs : List Pr} {r : Pr} (h : r ∈ rs) : r.2.1.size + r.2.2.2.2.length ≤ psum rs := by
 induction rs with
 | nil => simp at h
 | cons x rs ih =>
  rcases List.mem_cons.1 h with rfl | h
  ·simp only [psum]; omega
  ·have:=ih h; simp only [psum]; omega
theorem prp_mem {rs : List Pr} {p : Pt} (h : p ∈ rs.map prp) : p.2.1.size + p.2.2.length ≤ psum rs := by
 obtain ⟨r, hr, rfl⟩:=List.mem_map.1 h
 exact psum_each hr
theorem ATab.below {W W' : World} {ao : Option Addr} {rs : List Pr} (h : ATab W ao rs) (hb : Below W.heap.size W W') : ATab W' ao rs := by
 rcases h with h | ⟨g, off, rfl, h⟩
 ·exact .inl h
 ·refine .inr ⟨g, off, rfl, fun k hk => ?_⟩
  obtain ⟨c0, c1, c2⟩:=h k hk
  have hg:=cell_lt c0
  exact ⟨(hb.cell (p := ⟨g, off + k * 3, none⟩) hg).trans c0, (hb.cell (p := ⟨g, off + k * 3 + 1, none⟩) hg).trans c1, (hb.cell (p := ⟨g, off + k * 3 + 2, none⟩) hg).trans c2⟩
end Go.Proofs.YtndpjhiidmdlhaaGreatDoor
namespace Go.Proofs.YtndpjhiidmdlhaaGreatDoor
open Go.RowKit
set_option linter.unusedSectionVars false
variable [∀ (a b c d : Int), Decidable (Ok4 a b c d)]
variable [∀ (n f : Int), Decidable (COk n f)]
variable [∀ (a b c d : Nat), Decidable (okN a b c d)]
variable [∀ (x : T4), Decidable (OkT x)]

theorem RT.form1 {w : World} {v : Value} {xs : List T4} (h : RT w v xs) : ∃ ao ca, v = .slice ao xs.length ca := by obtain ⟨_, ao, ca, e, _⟩ := h; exact ⟨ao, ca, e⟩
theorem eqRep_yes (t : RpT) (a b c d e a' b' c' d' e' : Value) (w : World) (hs : RSm t) (h : RRep w t a b c d e) (h' : RRep w t a' b' c' d' e') :
 Calls Tryz.prog 14 #[rpv t a b c d e, rpv t a' b' c' d' e'] w fun r w' => r = .returned (.bool true) ∧ Below w.heap.size w w' := by
 have HX:=hide h
 have HY:=hide h'
 have T1:=hide fun w h h' => eqSafe_yes t.vo t.lo t.n t.s a a' t.qw t.d w h h'
 have T2:=hide fun w h h' => eqTxS_yes b b' t.pool w h h'
 have T3:=hide fun w h h' => eqPartS_yes c c' t.tab w (by have:=hs.tb; omega) h h'
 have T4_:=hide fun w h h' => eqDisk_yes d d' t.dsk t.su w h h'
 have T5:=hide fun w h h' => eqPostS_yes e e' t.held w (by have:=hs.h; omega) h h'
 obtain ⟨oa, ka, rfl⟩:=h.q.form
 obtain ⟨ob, kb, rfl⟩:=RT.form1 h.p
 obtain ⟨oc, kc, rfl⟩:=h.tb.form
 obtain ⟨od, kd, rfl⟩:=RB.form1 h.d
 obtain ⟨oe, ke, rfl⟩:=h.h.form
 obtain ⟨oa', ka', rfl⟩:=h'.q.form
 obtain ⟨ob', kb', rfl⟩:=RT.form1 h'.p
 obtain ⟨oc', kc', rfl⟩:=h'.tb.form
 obtain ⟨od', kd', rfl⟩:=RB.form1 h'.d
 obtain ⟨oe', ke', rfl⟩:=h'.h.form
 clear h h' hs
 obtain ⟨w0, hw0, Bw0, A, B, zw0⟩:=bx2 w #[.int .i64 t.id,.int .i64 t.vw,.int .i64 t.ak,.int .i64 t.vo,.int .i64 t.lo,.int .i64 t.n,.string t.s,.slice oa t.qw.length ka,.string t.d,.slice ob t.pool.length kb,.slice oc t.tab.length kc,.slice od t.dsk.length kd,.int .i64 t.su,.slice oe t.held.length ke] 49 #[.int .i64 t.id,.int .i64 t.vw,.int .i64 t.ak,.int .i64 t.vo,.int .i64 t.lo,.int .i64 t.n,.string t.s,.slice oa' t.qw.length ka',.string t.d,.slice ob' t.pool.length kb',.slice oc' t.tab.length kc',.slice od' t.dsk.length kd',.int .i64 t.su,.slice oe' t.held.length ke'] 49
 go_enter Tryz.func14, Tryz.ntmps14
 have cA0:=A.cell 0 rfl
 have cA1:=A.cell 1 rfl
 have cA2:=A.cell 2 rfl
 have cB0:=B.cell 0 rfl
 have cB1:=B.cell 1 rfl
 have cB2:=B.cell 2 rfl
 go_wp2_with (first | (refine wloadM [.int .i64 t.vo, .int .i64 t.lo, .int .i64 t.n, .string t.s, .slice oa t.qw.length ka, .string t.d] (A.range 3 6 rfl) 43 _ rfl _ rfl rfl Tryz.underlying43 rfl (by kernel_rfl) ?_) | (refine wloadM [.int .i64 t.vo, .int .i64 t.lo, .int .i64 t.n, .string t.s, .slice oa' t.qw.length ka', .string t.d] (B.range 3 6 rfl) 43 _ rfl _ rfl rfl Tryz.underlying43 rfl (by kernel_rfl) ?_))
 clear hw0
 refine (T1.out _ (HX.out.q.below Bw0) (HY.out.q.below Bw0)).mono ?_
 rintro _ w1 ⟨rfl, bb⟩
 clear cA0 cA1 cA2 cB0 cB1 cB2
 have Bw1:=bu Bw0 bb
 have sw1:=bb.size
 replace A:=A.up bb
 replace B:=B.up bb
 clear Bw0
 clear bb
 have cA9:=A.cell 9 rfl
 have cB9:=B.cell 9 rfl
 go_wp2_with fail
 refine (T2.out _ (HX.out.p.below Bw1) (HY.out.p.below Bw1)).mono ?_
 rintro _ w2 ⟨rfl, bb⟩
 clear cA9 cB9
 have Bw2:=bu Bw1 bb
 have sw2:=bb.size
 replace A:=A.up bb
 replace B:=B.up bb
 clear Bw1
 clear bb
 have cA10:=A.cell 10 rfl
 have cB10:=B.cell 10 rfl
 go_wp2_with fail
 refine (T3.out _ (HX.out.tb.below Bw2) (HY.out.tb.below Bw2)).mono ?_
 rintro _ w3 ⟨rfl, bb⟩
 clear cA10 cB10
 have Bw3:=bu Bw2 bb
 have sw3:=bb.size
 replace A:=A.up bb
 replace B:=B.up bb
 clear Bw2
 clear bb
 go_wp2_with (first | (refine wloadM [.slice od t.dsk.length kd, .int .i64 t.su] (A.range 11 2 rfl) 46 _ rfl _ rfl rfl Tryz.underlying46 rfl (by kernel_rfl) ?_) | (refine wloadM [.slice od' t.dsk.length kd', .int .i64 t.su] (B.range 11 2 rfl) 46 _ rfl _ rfl rfl Tryz.underlying46 rfl (by kernel_rfl) ?_))
 refine (T4_.out _ (HX.out.d.below Bw3) (HY.out.d.below Bw3)).mono ?_
 rintro _ w4 ⟨rfl, bb⟩
 have Bw4:=bu Bw3 bb
 have sw4:=bb.size
 replace A:=A.up bb
 replace B:=B.up bb
 clear Bw3
 clear bb
 have cA13:=A.cell 13 rfl
 have cB13:=B.cell 13 rfl
 go_wp2_with fail
 refine (T5.out _ (HX.out.h.below Bw4) (HY.out.h.below Bw4)).mono ?_
 rintro _ w5 ⟨rfl, bb⟩
 clear cA13 cB13
 have Bw5:=bu Bw4 bb
 have sw5:=bb.size
 replace A:=A.up bb
 replace B:=B.up bb
 clear Bw4
 clear bb
 go_wp2
 go_ret
 exact ⟨rfl, Bw5⟩

structure RMx (t : RpT) (rs : List Pr) : Prop where
 s : t.s.size ≤ maxLen
 q : t.qw.length ≤ maxLen
 d : t.d.size ≤ maxLen
 p : t.pool.length ≤ maxLen
 tb : rs.length ≤ maxLen
 tt : ∀ r ∈ rs, r.2.1.size ≤ maxLen ∧ r.2.2.2.2.length ≤ maxLen
 k : t.dsk.length ≤ maxLen
 h : t.held.length ≤ maxLen
 hh : ∀ p ∈ t.held, MB p.2
abbrev rpz (t : RpT) (a b c d e : Value) : Value := rpv t a b c d e
theorem szRep_yes (t : RpT) (ao bo co od oe : Option Addr) (ca cb cc cd ce : Nat) (rs : List Pr) (left : Int) (w : World) (hc : ATab w co rs) (hh : RPoL w (.slice oe t.held.length ce) t.held) (hl : left ≤ 1048576) (g : (t.s.size : Int) + t.qw.length + t.d.size + t.pool.length + rs.length + psum rs + t.dsk.length + t.held.length + posum t.held ≤ left) :
 Calls Tryz.prog 9 #[rpz t (.slice ao t.qw.length ca) (.slice bo t.pool.length cb) (.slice co rs.length cc) (.slice od t.dsk.length cd) (.slice oe t.held.length ce),.int .i64 left] w fun r w' => r = .returned (.int .i64 (left - ((t.s.size : Int) + t.qw.length + t.d.size + t.pool.length + rs.length + psum rs + t.dsk.length + t.held.length + posum t.held))) ∧ Below w.heap.size w w' := by
 have HC:=hide hc
 have HH:=hide hh
 obtain ⟨L1, hL1⟩ : ∃ x : Int, left - t.s.size - t.qw.length - t.d.size = x:=⟨_, rfl⟩
 have T1:=hide fun w  => szSafe_yes t.vo t.lo t.n t.s ao t.qw.length ca t.d left w (by omega) (by omega)
 rw [hL1] at T1
 have d1 : decide (L1 < 0) = false:=by simp; omega
 obtain ⟨L2, hL2⟩ : ∃ x : Int, L1 - t.pool.length = x:=⟨_, rfl⟩
 have T2:=hide fun w  => szL_yes bo t.pool.length cb L1 w (by omega) (by omega)
 rw [hL2] at T2
 have d2 : decide (L2 < 0) = false:=by simp; omega
 obtain ⟨L3, hL3⟩ : ∃ x : Int, L2 - rs.length - psum rs = x:=⟨_, rfl⟩
 have T3:=hide fun w (h : ATab w co rs) => szPartS_yes co cc rs L2 w h (by omega) (by omega)
 rw [hL3] at T3
 have d3 : decide (L3 < 0) = false:=by simp; omega
 obtain ⟨L4, hL4⟩ : ∃ x : Int, L3 - t.dsk.length = x:=⟨_, rfl⟩
 have T4:=hide fun w  => szDisk_yes od t.dsk.length cd t.su L3 w (by omega) (by omega)
 rw [hL4] at T4
 have d4 : decide (L4 < 0) = false:=by simp; omega
 obtain ⟨L5, hL5⟩ : ∃ x : Int, L4 - t.held.length - posum t.held = x:=⟨_, rfl⟩
 have T5:=hide fun w (h : RPoL w (.slice oe t.held.length ce) t.held) => szPostS_yes _ t.held L4 w h (by omega) (by omega)
 rw [hL5] at T5
 have d5 : decide (L5 < 0) = false:=by simp; omega
 rw [show left - ((t.s.size : Int) + t.qw.length + t.d.size + t.pool.length + rs.length + psum rs + t.dsk.length + t.held.length + posum t.held) = L5 by omega]
 clear hc hh hl g hL1 hL2 hL3 hL4 hL5
 obtain ⟨w0, hw0, Bw0, P, zw0⟩:=bx1 w #[.int .i64 t.id,.int .i64 t.vw,.int .i64 t.ak,.int .i64 t.vo,.int .i64 t.lo,.int .i64 t.n,.string t.s,.slice ao t.qw.length ca,.string t.d,.slice bo t.pool.length cb,.slice co rs.length cc,.slice od t.dsk.length cd,.int .i64 t.su,.slice oe t.held.length ce] 36
 go_enter Tryz.func9, Tryz.ntmps9
 go_wp2_with (first | (refine wloadM [.int .i64 t.vo, .int .i64 t.lo, .int .i64 t.n, .string t.s, .slice ao t.qw.length ca, .string t.d] (P.range 3 6 rfl) 28 _ rfl _ rfl rfl Tryz.underlying28 rfl (by kernel_rfl) ?_))
 clear hw0
 refine (T1.out _).mono ?_
 rintro _ w1 ⟨rfl, bb⟩
 have Bw1:=bu Bw0 bb
 have sw1:=bb.size
 replace P:=P.up bb
 clear Bw0
 clear bb
 have cP9:=P.cell 9 rfl
 go_wp2_with fail
 refine (T2.out _).mono ?_
 rintro _ w9 ⟨rfl, e9⟩
 rw [e9]
 clear e9
 clear cP9
 have cP10:=P.cell 10 rfl
 go_wp2_with fail
 refine (T3.out _ (HC.out.below (Bw1.mono (Nat.le_refl _)))).mono ?_
 rintro _ w2 ⟨rfl, bb⟩
 clear cP10
 have Bw2:=bu Bw1 bb
 have sw2:=bb.size
 replace P:=P.up bb
 clear Bw1
 clear bb
 go_wp2_with (first | (refine wloadM [.slice od t.dsk.length cd, .int .i64 t.su] (P.range 11 2 rfl) 33 _ rfl _ rfl rfl Tryz.underlying33 rfl (by kernel_rfl) ?_))
 refine (T4.out _).mono ?_
 rintro _ w3 ⟨rfl, bb⟩
 have Bw3:=bu Bw2 bb
 have sw3:=bb.size
 replace P:=P.up bb
 clear Bw2
 clear bb
 have cP13:=P.cell 13 rfl
 go_wp2_with fail
 refine (T5.out _ (HH.out.below Bw3)).mono ?_
 rintro _ w4 ⟨rfl, bb⟩
 clear cP13
 have Bw4:=bu Bw3 bb
 have sw4:=bb.size
 replace P:=P.up bb
 clear Bw3
 clear bb
 go_wp2
 go_ret
 exact ⟨rfl, Bw4⟩
theorem szRep_no0 (t : RpT) (ao bo co od oe : Option Addr) (ca cb cc cd ce : Nat) (rs : List Pr) (left : Int) (w : World) (hc : ATab w co rs) (hh : RPoL w (.slice oe t.held.length ce) t.held) (hl : left ≤ 1048576) (m : RMx t rs) (g : 0 ≤ left ∧ (0 : Int) ≤ left ∧ left < ((t.s.size : Int) + t.qw.length + t.d.size)) :
 Calls Tryz.prog 9 #[rpz t (.slice ao t.qw.length ca) (.slice bo t.pool.length cb) (.slice co rs.length cc) (.slice od t.dsk.length cd) (.slice oe t.held.length ce),.int .i64 left] w fun r w' => r = .returned (.int .i64 (-1)) ∧ Below w.heap.size w w' := by
 have HC:=hide hc
 have HH:=hide hh
 have p0 : 0 ≤ left:=by omega
 have T1:=hide fun w  => szSafe_no t.vo t.lo t.n t.s ao t.qw.length ca t.d left w (by omega) (by omega) (by have:=m.s; unfold maxLen at this; omega) (by have:=m.q; unfold maxLen at this; omega) (by have:=m.d; unfold maxLen at this; omega) (by omega)
 have d1 : decide ((-1 : Int) < 0) = true:=by decide
 clear hc hh hl g m p0
 obtain ⟨w0, hw0, Bw0, P, zw0⟩:=bx1 w #[.int .i64 t.id,.int .i64 t.vw,.int .i64 t.ak,.int .i64 t.vo,.int .i64 t.lo,.int .i64 t.n,.string t.s,.slice ao t.qw.length ca,.string t.d,.slice bo t.pool.length cb,.slice co rs.length cc,.slice od t.dsk.length cd,.int .i64 t.su,.slice oe t.held.length ce] 36
 go_enter Tryz.func9, Tryz.ntmps9
 go_wp2_with (first | (refine wloadM [.int .i64 t.vo, .int .i64 t.lo, .int .i64 t.n, .string t.s, .slice ao t.qw.length ca, .string t.d] (P.range 3 6 rfl) 28 _ rfl _ rfl rfl Tryz.underlying28 rfl (by kernel_rfl) ?_))
 clear hw0
 refine (T1.out _).mono ?_
 rintro _ w1 ⟨rfl, bb⟩
 have Bw1:=bu Bw0 bb
 have sw1:=bb.size
 replace P:=P.up bb
 clear Bw0
 clear bb
 go_wp2
 go_ret
 exact ⟨rfl, Bw1⟩
theorem szRep_no1 (t : RpT) (ao bo co od oe : Option Addr) (ca cb cc cd ce : Nat) (rs : List Pr) (left : Int) (w : World) (hc : ATab w co rs) (hh : RPoL w (.slice oe t.held.length ce) t.held) (hl : left ≤ 1048576) (m : RMx t rs) (g : 0 ≤ left ∧ (0 : Int) + ((t.s.size : Int) + t.qw.length + t.d.size) ≤ left ∧ left < ((t.s.size : Int) + t.qw.length + t.d.size) + ((t.pool.length : Int))) :
 Calls Tryz.prog 9 #[rpz t (.slice ao t.qw.length ca) (.slice bo t.pool.length cb) (.slice co rs.length cc) (.slice od t.dsk.length cd) (.slice oe t.held.length ce),.int .i64 left] w fun r w' => r = .returned (.int .i64 (-1)) ∧ Below w.heap.size w w' := by
 have HC:=hide hc
 have HH:=hide hh
 have p0 : 0 ≤ left:=by omega
 obtain ⟨L1, hL1⟩ : ∃ x : Int, left - t.s.size - t.qw.length - t.d.size = x:=⟨_, rfl⟩
 have T1:=hide fun w  => szSafe_yes t.vo t.lo t.n t.s ao t.qw.length ca t.d left w (by omega) (by omega)
 rw [hL1] at T1
 have d1 : decide (L1 < 0) = false:=by simp; omega
 have T2:=hide fun w  => szL_no bo t.pool.length cb L1 w (by omega) (by omega) (by have:=m.p; unfold maxLen at this; omega) (by omega)
 have d2 : decide ((-1 : Int) < 0) = true:=by decide
 clear hc hh hl g hL1 m p0
 obtain ⟨w0, hw0, Bw0, P, zw0⟩:=bx1 w #[.int .i64 t.id,.int .i64 t.vw,.int .i64 t.ak,.int .i64 t.vo,.int .i64 t.lo,.int .i64 t.n,.string t.s,.slice ao t.qw.length ca,.string t.d,.slice bo t.pool.length cb,.slice co rs.length cc,.slice od t.dsk.length cd,.int .i64 t.su,.slice oe t.held.length ce] 36
 go_enter Tryz.func9, Tryz.ntmps9
 go_wp2_with (first | (refine wloadM [.int .i64 t.vo, .int .i64 t.lo, .int .i64 t.n, .string t.s, .slice ao t.qw.length ca, .string t.d] (P.range 3 6 rfl) 28 _ rfl _ rfl rfl Tryz.underlying28 rfl (by kernel_rfl) ?_))
 clear hw0
 refine (T1.out _).mono ?_
 rintro _ w1 ⟨rfl, bb⟩
 have Bw1:=bu Bw0 bb
 have sw1:=bb.size
 replace P:=P.up bb
 clear Bw0
 clear bb
 have cP9:=P.cell 9 rfl
 go_wp2_with fail
 refine (T2.out _).mono ?_
 rintro _ w9 ⟨rfl, e9⟩
 rw [e9]
 clear e9
 clear cP9
 go_wp2
 go_ret
 exact ⟨rfl, Bw1⟩
theorem szRep_no2 (t : RpT) (ao bo co od oe : Option Addr) (ca cb cc cd ce : Nat) (rs : List Pr) (left : Int) (w : World) (hc : ATab w co rs) (hh : RPoL w (.slice oe t.held.length ce) t.held) (hl : left ≤ 1048576) (m : RMx t rs) (g : 0 ≤ left ∧ (0 : Int) + ((t.s.size : Int) + t.qw.length + t.d.size) + ((t.pool.length : Int)) ≤ left ∧ left < ((t.s.size : Int) + t.qw.length + t.d.size) + ((t.pool.length : Int)) + ((rs.length : Int) + psum rs)) :
 Calls Tryz.prog 9 #[rpz t (.slice ao t.qw.length ca) (.slice bo t.pool.length cb) (.slice co rs.length cc) (.slice od t.dsk.length cd) (.slice oe t.held.length ce),.int .i64 left] w fun r w' => r = .returned (.int .i64 (-1)) ∧ Below w.heap.size w w' := by
 have HC:=hide hc
 have HH:=hide hh
 have p0 : 0 ≤ left:=by omega
 obtain ⟨L1, hL1⟩ : ∃ x : Int, left - t.s.size - t.qw.length - t.d.size = x:=⟨_, rfl⟩
 have T1:=hide fun w  => szSafe_yes t.vo t.lo t.n t.s ao t.qw.length ca t.d left w (by omega) (by omega)
 rw [hL1] at T1
 have d1 : decide (L1 < 0) = false:=by simp; omega
 obtain ⟨L2, hL2⟩ : ∃ x : Int, L1 - t.pool.length = x:=⟨_, rfl⟩
 have T2:=hide fun w  => szL_yes bo t.pool.length cb L1 w (by omega) (by omega)
 rw [hL2] at T2
 have d2 : decide (L2 < 0) = false:=by simp; omega
 have T3:=hide fun w (h : ATab w co rs) => szPartS_no co cc rs L2 w h m.tt (by omega) m.tb (by omega) (by omega)
 have d3 : decide ((-1 : Int) < 0) = true:=by decide
 clear hc hh hl g hL1 hL2 m p0
 obtain ⟨w0, hw0, Bw0, P, zw0⟩:=bx1 w #[.int .i64 t.id,.int .i64 t.vw,.int .i64 t.ak,.int .i64 t.vo,.int .i64 t.lo,.int .i64 t.n,.string t.s,.slice ao t.qw.length ca,.string t.d,.slice bo t.pool.length cb,.slice co rs.length cc,.slice od t.dsk.length cd,.int .i64 t.su,.slice oe t.held.length ce] 36
 go_enter Tryz.func9, Tryz.ntmps9
 go_wp2_with (first | (refine wloadM [.int .i64 t.vo, .int .i64 t.lo, .int .i64 t.n, .string t.s, .slice ao t.qw.length ca, .string t.d] (P.range 3 6 rfl) 28 _ rfl _ rfl rfl Tryz.underlying28 rfl (by kernel_rfl) ?_))
 clear hw0
 refine (T1.out _).mono ?_
 rintro _ w1 ⟨rfl, bb⟩
 have Bw1:=bu Bw0 bb
 have sw1:=bb.size
 replace P:=P.up bb
 clear Bw0
 clear bb
 have cP9:=P.cell 9 rfl
 go_wp2_with fail
 refine (T2.out _).mono ?_
 rintro _ w9 ⟨rfl, e9⟩
 rw [e9]
 clear e9
 clear cP9
 have cP10:=P.cell 10 rfl
 go_wp2_with fail
 refine (T3.out _ (HC.out.below (Bw1.mono (Nat.le_refl _)))).mono ?_
 rintro _ w2 ⟨rfl, bb⟩
 clear cP10
 have Bw2:=bu Bw1 bb
 have sw2:=bb.size
 replace P:=P.up bb
 clear Bw1
 clear bb
 go_wp2
 go_ret
 exact ⟨rfl, Bw2⟩
theorem szRep_no3 (t : RpT) (ao bo co od oe : Option Addr) (ca cb cc cd ce : Nat) (rs : List Pr) (left : Int) (w : World) (hc : ATab w co rs) (hh : RPoL w (.slice oe t.held.length ce) t.held) (hl : left ≤ 1048576) (m : RMx t rs) (g : 0 ≤ left ∧ (0 : Int) + ((t.s.size : Int) + t.qw.length + t.d.size) + ((t.pool.length : Int)) + ((rs.length : Int) + psum rs) ≤ left ∧ left < ((t.s.size : Int) + t.qw.length + t.d.size) + ((t.pool.length : Int)) + ((rs.length : Int) + psum rs) + ((t.dsk.length : Int))) :
 Calls Tryz.prog 9 #[rpz t (.slice ao t.qw.length ca) (.slice bo t.pool.length cb) (.slice co rs.length cc) (.slice od t.dsk.length cd) (.slice oe t.held.length ce),.int .i64 left] w fun r w' => r = .returned (.int .i64 (-1)) ∧ Below w.heap.size w w' := by
 have HC:=hide hc
 have HH:=hide hh
 have p0 : 0 ≤ left:=by omega
 obtain ⟨L1, hL1⟩ : ∃ x : Int, left - t.s.size - t.qw.length - t.d.size = x:=⟨_, rfl⟩
 have T1:=hide fun w  => szSafe_yes t.vo t.lo t.n t.s ao t.qw.length ca t.d left w (by omega) (by omega)
 rw [hL1] at T1
 have d1 : decide (L1 < 0) = false:=by simp; omega
 obtain ⟨L2, hL2⟩ : ∃ x : Int, L1 - t.pool.length = x:=⟨_, rfl⟩
 have T2:=hide fun w  => szL_yes bo t.pool.length cb L1 w (by omega) (by omega)
 rw [hL2] at T2
 have d2 : decide (L2 < 0) = false:=by simp; omega
 obtain ⟨L3, hL3⟩ : ∃ x : Int, L2 - rs.length - psum rs = x:=⟨_, rfl⟩
 have T3:=hide fun w (h : ATab w co rs) => szPartS_yes co cc rs L2 w h (by omega) (by omega)
 rw [hL3] at T3
 have d3 : decide (L3 < 0) = false:=by simp; omega
 have T4:=hide fun w  => szDisk_no od t.dsk.length cd t.su L3 w (by omega) (by omega) (by omega) (by have:=m.k; unfold maxLen at this; omega)
 have d4 : decide ((-1 : Int) < 0) = true:=by decide
 clear hc hh hl g hL1 hL2 hL3 m p0
 obtain ⟨w0, hw0, Bw0, P, zw0⟩:=bx1 w #[.int .i64 t.id,.int .i64 t.vw,.int .i64 t.ak,.int .i64 t.vo,.int .i64 t.lo,.int .i64 t.n,.string t.s,.slice ao t.qw.length ca,.string t.d,.slice bo t.pool.length cb,.slice co rs.length cc,.slice od t.dsk.length cd,.int .i64 t.su,.slice oe t.held.length ce] 36
 go_enter Tryz.func9, Tryz.ntmps9
 go_wp2_with (first | (refine wloadM [.int .i64 t.vo, .int .i64 t.lo, .int .i64 t.n, .string t.s, .slice ao t.qw.length ca, .string t.d] (P.range 3 6 rfl) 28 _ rfl _ rfl rfl Tryz.underlying28 rfl (by kernel_rfl) ?_))
 clear hw0
 refine (T1.out _).mono ?_
 rintro _ w1 ⟨rfl, bb⟩
 have Bw1:=bu Bw0 bb
 have sw1:=bb.size
 replace P:=P.up bb
 clear Bw0
 clear bb
 have cP9:=P.cell 9 rfl
 go_wp2_with fail
 refine (T2.out _).mono ?_
 rintro _ w9 ⟨rfl, e9⟩
 rw [e9]
 clear e9
 clear cP9
 have cP10:=P.cell 10 rfl
 go_wp2_with fail
 refine (T3.out _ (HC.out.below (Bw1.mono (Nat.le_refl _)))).mono ?_
 rintro _ w2 ⟨rfl, bb⟩
 clear cP10
 have Bw2:=bu Bw1 bb
 have sw2:=bb.size
 replace P:=P.up bb
 clear Bw1
 clear bb
 go_wp2_with (first | (refine wloadM [.slice od t.dsk.length cd, .int .i64 t.su] (P.range 11 2 rfl) 33 _ rfl _ rfl rfl Tryz.underlying33 rfl (by kernel_rfl) ?_))
 refine (T4.out _).mono ?_
 rintro _ w3 ⟨rfl, bb⟩
 have Bw3:=bu Bw2 bb
 have sw3:=bb.size
 replace P:=P.up bb
 clear Bw2
 clear bb
 go_wp2
 go_ret
 exact ⟨rfl, Bw3⟩
theorem szRep_no4 (t : RpT) (ao bo co od oe : Option Addr) (ca cb cc cd ce : Nat) (rs : List Pr) (left : Int) (w : World) (hc : ATab w co rs) (hh : RPoL w (.slice oe t.held.length ce) t.held) (hl : left ≤ 1048576) (m : RMx t rs) (g : 0 ≤ left ∧ (0 : Int) + ((t.s.size : Int) + t.qw.length + t.d.size) + ((t.pool.length : Int)) + ((rs.length : Int) + psum rs) + ((t.dsk.length : Int)) ≤ left ∧ left < ((t.s.size : Int) + t.qw.length + t.d.size) + ((t.pool.length : Int)) + ((rs.length : Int) + psum rs) + ((t.dsk.length : Int)) + ((t.held.length : Int) + posum t.held)) :
 Calls Tryz.prog 9 #[rpz t (.slice ao t.qw.length ca) (.slice bo t.pool.length cb) (.slice co rs.length cc) (.slice od t.dsk.length cd) (.slice oe t.held.length ce),.int .i64 left] w fun r w' => r = .returned (.int .i64 (-1)) ∧ Below w.heap.size w w' := by
 have HC:=hide hc
 have HH:=hide hh
 have p0 : 0 ≤ left:=by omega
 obtain ⟨L1, hL1⟩ : ∃ x : Int, left - t.s.size - t.qw.length - t.d.size = x:=⟨_, rfl⟩
 have T1:=hide fun w  => szSafe_yes t.vo t.lo t.n t.s ao t.qw.length ca t.d left w (by omega) (by omega)
 rw [hL1] at T1
 have d1 : decide (L1 < 0) = false:=by simp; omega
 obtain ⟨L2, hL2⟩ : ∃ x : Int, L1 - t.pool.length = x:=⟨_, rfl⟩
 have T2:=hide fun w  => szL_yes bo t.pool.length cb L1 w (by omega) (by omega)
 rw [hL2] at T2
 have d2 : decide (L2 < 0) = false:=by simp; omega
 obtain ⟨L3, hL3⟩ : ∃ x : Int, L2 - rs.length - psum rs = x:=⟨_, rfl⟩
 have T3:=hide fun w (h : ATab w co rs) => szPartS_yes co cc rs L2 w h (by omega) (by omega)
 rw [hL3] at T3
 have d3 : decide (L3 < 0) = false:=by simp; omega
 obtain ⟨L4, hL4⟩ : ∃ x : Int, L3 - t.dsk.length = x:=⟨_, rfl⟩
 have T4:=hide fun w  => szDisk_yes od t.dsk.length cd t.su L3 w (by omega) (by omega)
 rw [hL4] at T4
 have d4 : decide (L4 < 0) = false:=by simp; omega
 have T5:=hide fun w (h : RPoL w (.slice oe t.held.length ce) t.held) => szPostS_no _ t.held L4 w h m.hh (by omega) m.h (by omega) (by omega)
 have d5 : decide ((-1 : Int) < 0) = true:=by decide
 clear hc hh hl g hL1 hL2 hL3 hL4 m p0
 obtain ⟨w0, hw0, Bw0, P, zw0⟩:=bx1 w #[.int .i64 t.id,.int .i64 t.vw,.int .i64 t.ak,.int .i64 t.vo,.int .i64 t.lo,.int .i64 t.n,.string t.s,.slice ao t.qw.length ca,.string t.d,.slice bo t.pool.length cb,.slice co rs.length cc,.slice od t.dsk.length cd,.int .i64 t.su,.slice oe t.held.length ce] 36
 go_enter Tryz.func9, Tryz.ntmps9
 go_wp2_with (first | (refine wloadM [.int .i64 t.vo, .int .i64 t.lo, .int .i64 t.n, .string t.s, .slice ao t.qw.length ca, .string t.d] (P.range 3 6 rfl) 28 _ rfl _ rfl rfl Tryz.underlying28 rfl (by kernel_rfl) ?_))
 clear hw0
 refine (T1.out _).mono ?_
 rintro _ w1 ⟨rfl, bb⟩
 have Bw1:=bu Bw0 bb
 have sw1:=bb.size
 replace P:=P.up bb
 clear Bw0
 clear bb
 have cP9:=P.cell 9 rfl
 go_wp2_with fail
 refine (T2.out _).mono ?_
 rintro _ w9 ⟨rfl, e9⟩
 rw [e9]
 clear e9
 clear cP9
 have cP10:=P.cell 10 rfl
 go_wp2_with fail
 refine (T3.out _ (HC.out.below (Bw1.mono (Nat.le_refl _)))).mono ?_
 rintro _ w2 ⟨rfl, bb⟩
 clear cP10
 have Bw2:=bu Bw1 bb
 have sw2:=bb.size
 replace P:=P.up bb
 clear Bw1
 clear bb
 go_wp2_with (first | (refine wloadM [.slice od t.dsk.length cd, .int .i64 t.su] (P.range 11 2 rfl) 33 _ rfl _ rfl rfl Tryz.underlying33 rfl (by kernel_rfl) ?_))
 refine (T4.out _).mono ?_
 rintro _ w3 ⟨rfl, bb⟩
 have Bw3:=bu Bw2 bb
 have sw3:=bb.size
 replace P:=P.up bb
 clear Bw2
 clear bb
 have cP13:=P.cell 13 rfl
 go_wp2_with fail
 refine (T5.out _ (HH.out.below Bw3)).mono ?_
 rintro _ w4 ⟨rfl, bb⟩
 clear cP13
 have Bw4:=bu Bw3 bb
 have sw4:=bb.size
 replace P:=P.up bb
 clear Bw3
 clear bb
 go_wp2
 go_ret
 exact ⟨rfl, Bw4⟩
theorem szRep_no (t : RpT) (ao bo co od oe : Option Addr) (ca cb cc cd ce : Nat) (rs : List Pr) (left : Int) (w : World) (hc : ATab w co rs) (hh : RPoL w (.slice oe t.held.length ce) t.held) (hl : left ≤ 1048576) (m : RMx t rs) (h0 : 0 ≤ left) (g : left < (t.s.size : Int) + t.qw.length + t.d.size + t.pool.length + rs.length + psum rs + t.dsk.length + t.held.length + posum t.held) :
 Calls Tryz.prog 9 #[rpz t (.slice ao t.qw.length ca) (.slice bo t.pool.length cb) (.slice co rs.length cc) (.slice od t.dsk.length cd) (.slice oe t.held.length ce),.int .i64 left] w fun r w' => r = .returned (.int .i64 (-1)) ∧ Below w.heap.size w w' := by
 by_cases g0 : left < ((t.s.size : Int) + t.qw.length + t.d.size)
 ·exact szRep_no0 t ao bo co od oe ca cb cc cd ce rs left w hc hh hl m ⟨h0, by omega, g0⟩
 by_cases g1 : left < ((t.s.size : Int) + t.qw.length + t.d.size) + ((t.pool.length : Int))
 ·exact szRep_no1 t ao bo co od oe ca cb cc cd ce rs left w hc hh hl m ⟨h0, by omega, g1⟩
 by_cases g2 : left < ((t.s.size : Int) + t.qw.length + t.d.size) + ((t.pool.length : Int)) + ((rs.length : Int) + psum rs)
 ·exact szRep_no2 t ao bo co od oe ca cb cc cd ce rs left w hc hh hl m ⟨h0, by omega, g2⟩
 by_cases g3 : left < ((t.s.size : Int) + t.qw.length + t.d.size) + ((t.pool.length : Int)) + ((rs.length : Int) + psum rs) + ((t.dsk.length : Int))
 ·exact szRep_no3 t ao bo co od oe ca cb cc cd ce rs left w hc hh hl m ⟨h0, by omega, g3⟩
 by_cases g4 : left < ((t.s.size : Int) + t.qw.length + t.d.size) + ((t.pool.length : Int)) + ((rs.length : Int) + psum rs) + ((t.dsk.length : Int)) + ((t.held.length : Int) + posum t.held)
 ·exact szRep_no4 t ao bo co od oe ca cb cc cd ce rs left w hc hh hl m ⟨h0, by omega, g4⟩
 omega
end Go.Proofs.YtndpjhiidmdlhaaGreatDoor
