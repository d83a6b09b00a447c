/- RepSure: what impl.SureNow and spec.SureNow answer -/
import Derived.Test.YtjdchloechcclaaGreatDoorSNBI
set_option maxRecDepth 100000
set_option maxHeartbeats 16000000
set_option linter.unusedSectionVars false
set_option linter.unusedSimpArgs false
namespace Go.Proofs.YtjdchloechcclaaGreatDoor
section
open Go Go.RowKit
variable [∀ (a b c d : Int), Decidable (Ok4 a b c d)]
variable [∀ (n f : Int), Decidable (COk n f)]
variable [∀ (a b c d : Nat), Decidable (okN a b c d)]
variable [∀ (x : T4), Decidable (OkT x)]
variable [∀ (last : Int) (s : St), Decidable (GoodSt last s)]
variable [∀ (n : Int) (s : List Int), Decidable (OkL n s)]
variable [∀ (x y : T4), Decidable (Bef x y)]
variable [∀ (ts : List T4), Decidable (Asc ts)]
variable [∀ (ts : List T4), Decidable (AllOk ts)]
variable [∀ (ts : List T4), Decidable (POk ts)]
def srT (t : RpT) : RpT := { t with su := syncS t.dsk.length t.su, held := [] }
def sureT (n f : Int) (t : RpT) : RpT := if repB n f t = true then srT t else t
def sureP (n f : Int) (t : RpT) : List PoT := if repB n f t = true then t.held else []
theorem RSm.sr {t : RpT} (h : RSm t) : RSm (srT t) := ⟨h.q, h.p, h.tb, h.d, by simp [srT], h.tt, fun j hj => by simp [srT] at hj⟩
theorem RZ.sr {t : RpT} (h : RZ t) : RZ (srT t) := ⟨h.s, h.d, h.tt, fun j hj => by simp [srT] at hj⟩
def StayP (w : World) (lo hi : Nat) (v : Value) (ps : List PoT) : Prop := hi ≤ w.heap.size ∧ ∀ (w' : World) (X : Nat → Prop), Kp w w' X → (∀ j, lo ≤ j → j < hi → ¬ X j) → RPo w' v ps
theorem StayP.kp {w w' : World} {lo hi : Nat} {v : Value} {ps : List PoT} {X : Nat → Prop} (h : StayP w lo hi v ps) (k : Kp w w' X) (hx : ∀ j, lo ≤ j → j < hi → ¬ X j) : StayP w' lo hi v ps :=
 ⟨Nat.le_trans h.1 k.size, fun w'' Y k' hy => h.2 w'' (fun j => X j ∨ Y j) ((k.mono (fun _ => Or.inl)).trans (k'.mono (fun _ => Or.inr))) (fun j h1 h2 e => e.elim (hx j h1 h2) (hy j h1 h2))⟩
theorem StayP.below {w w' : World} {lo hi : Nat} {v : Value} {ps : List PoT} (h : StayP w lo hi v ps) (b' : Below w.heap.size w w') : StayP w' lo hi v ps := h.kp (Below.kpOf b' (fun _ => False)) (fun _ _ _ h => h)
theorem StayP.rpo {w : World} {lo hi : Nat} {v : Value} {ps : List PoT} (h : StayP w lo hi v ps) : RPo w v ps := h.2 w (fun _ => False) (Kp.refl _ _) (fun _ _ _ h => h)
theorem StayP.nil (w : World) (lo hi : Nat) (h : hi ≤ w.heap.size) : StayP w lo hi (.slice none 0 0) [] := ⟨h, fun w' _ _ _ => RPo.nil w'⟩
theorem StayP.mono {w : World} {lo lo' hi hi' : Nat} {v : Value} {ps : List PoT} (h : StayP w lo hi v ps) (h1 : lo' ≤ lo) (h2 : hi ≤ hi') (h3 : hi' ≤ w.heap.size) : StayP w lo' hi' v ps :=
 ⟨h3, fun w' X k hx => h.2 w' X k (fun j a b => hx j (Nat.le_trans h1 a) (Nat.lt_of_lt_of_le b h2))⟩
theorem StayP.none (w : World) (lo hi : Nat) (ao : Option Addr) (ca : Nat) (h : hi ≤ w.heap.size) : StayP w lo hi (.slice ao 0 ca) [] := ⟨h, fun _ _ _ _ => ⟨ao, ca, rfl, .inl rfl⟩⟩
theorem OPo.stay {w : World} {base : Nat} {v : Value} {ps : List PoT} (h : OPo w base v ps) (hs : ∀ j, j < ps.length → (ps.getD j zpost).2.bw.length ≤ 4194304 ∧ (ps.getD j zpost).2.pw.length ≤ 4194304 ∧ (ps.getD j zpost).2.qw.length ≤ 4194304) : StayP w base w.heap.size v ps :=
 ⟨Nat.le_refl _, fun _ _ k hx => (h.kp k.cut (fun j h1 h2 => hx j h1 h2.2 h2.1)).rpo hs⟩
theorem implSureNow (n f : Int) (t : RpT) (ao bo co od oe : Option Addr) (ca cb cc cd ce : Nat) (w : World) (hm : RSm t) (hd : t.dsk.length ≤ 1048576) (hs : RI_ t) (hz : RZ t) (hE : Env w) (h : RRep w t (.slice ao t.qw.length ca) (.slice bo t.pool.length cb) (.slice co t.tab.length cc) (.slice od t.dsk.length cd) (.slice oe t.held.length ce)) :
 Calls Tryz.prog 11 #[cv n f, rpv t (.slice ao t.qw.length ca) (.slice bo t.pool.length cb) (.slice co t.tab.length cc) (.slice od t.dsk.length cd) (.slice oe t.held.length ce)] w fun r w' => ∃ a b c d e v, r = .returned (.tuple #[rpv (sureT n f t) a b c d e, v]) ∧ ∃ m, w.heap.size ≤ m ∧ m ≤ w'.heap.size ∧ OPC w' w.heap.size m v (sureP n f t) ∧ ORepG w' m w'.heap.size (sureT n f t) a b c d e ∧ Below w.heap.size w w' := by
 have RO:=hide fun w he h => implRepOk n f t ao bo co od oe ca cb cc cd ce w hm hs he h
 have TL:=hide fun w h => rtold_any t ao bo co od oe ca cb cc cd ce w hm hz h
 have TS:=hide fun dd kd w h => rtold_any (srT t) ao bo co dd none ca cb cc kd 0 w hm.sr hz.sr h
 have TP:=hide fun v w h => toldEachC_any v t.held w hm.h hz.hh h
 have SY:=hide fun w h => implSync_any od t.dsk.length cd t.su t.dsk w h hd
 have HR:=hide h
 have HE:=hide hE
 have HM:=hide hm
 clear h hE hs hm hz hd
 unfold sureT sureP
 generalize repB n f t = b0 at *
 obtain ⟨w0, hw0, Bw0, LC, A, O, zw0⟩:=bx3 w #[.int .i64 n,.int .i64 f] 49 #[.int .i64 t.id,.int .i64 t.vw,.int .i64 t.ak,.int .i64 t.vo,.int .i64 t.lo,.int .i64 t.n,.string t.s,.slice ao t.qw.length ca,.string t.d,.slice bo t.pool.length cb,.slice co t.tab.length cc,.slice od t.dsk.length cd,.int .i64 t.su,.slice oe t.held.length ce] 46 #[.int .i64 0,.int .i64 0,.int .i64 0,.int .i64 0,.int .i64 0,.int .i64 0,.string ⟨#[]⟩,.slice none 0 0,.string ⟨#[]⟩,.slice none 0 0,.slice none 0 0,.slice none 0 0,.int .i64 0,.slice none 0 0] 46
 go_enter Tryz.func11, Tryz.ntmps11
 obtain ⟨cLC0,cLC1⟩:=cc2 LC 0 1
 go_wp2_with (first | (refine wload A 46 _ rfl _ rfl rfl Tryz.underlying46 rfl (by kernel_rfl) ?_))
 clear hw0
 refine (RO.out _ (HE.out.below Bw0) (HR.out.below Bw0)).mono ?_
 rintro _ w1 ⟨rfl, bb⟩
 clear cLC0 cLC1
 have Bw1:=bu Bw0 bb
 have sw1:=bb.size
 replace LC:=LC.up bb
 replace A:=A.up bb
 replace O:=O.up bb
 clear Bw0 bb
 cases b0
 ·go_wp2_with (first | (refine wload A 46 _ rfl _ rfl rfl Tryz.underlying46 rfl (by kernel_rfl) ?_))
  refine (TL.out _ (HR.out.below Bw1)).mono ?_
  rintro _ w2 ⟨u1, u2, u3, u4, u5, rfl, oR, bb⟩
  have Bw2:=bu Bw1 bb
  have sw2:=bb.size
  replace LC:=LC.up bb
  replace A:=A.up bb
  replace O:=O.up bb
  clear Bw1 bb
  obtain ⟨aR, kR, bR, lR, cR, nR, dR, pR, eR, qR, rfl, rfl, rfl, rfl, rfl⟩:=oR.form
  go_wp2_with (first | (refine wstore O 46 #[.int .i64 t.id,.int .i64 t.vw,.int .i64 t.ak,.int .i64 t.vo,.int .i64 t.lo,.int .i64 t.n,.string t.s,.slice aR t.qw.length kR,.string t.d,.slice bR t.pool.length lR,.slice cR t.tab.length nR,.slice dR t.dsk.length pR,.int .i64 t.su,.slice eR t.held.length qR] rfl _ _ rfl rfl rfl (by kernel_rfl) rfl (by simp [Value.oneCell']) ?_))
  obtain ⟨wE, hwE⟩ : ∃ w9_, w2.setRow (w.heap.size + 1 + 1) #[.int .i64 t.id,.int .i64 t.vw,.int .i64 t.ak,.int .i64 t.vo,.int .i64 t.lo,.int .i64 t.n,.string t.s,.slice aR t.qw.length kR,.string t.d,.slice bR t.pool.length lR,.slice cR t.tab.length nR,.slice dR t.dsk.length pR,.int .i64 t.su,.slice eR t.held.length qR] = w9_:=⟨_, rfl⟩
  have kN : Kp w2 wE (fun k => k = w.heap.size + 1 + 1):=hwE ▸ row_kp _ _ _
  replace O : Loc wE (w.heap.size + 1 + 1) #[.int .i64 t.id,.int .i64 t.vw,.int .i64 t.ak,.int .i64 t.vo,.int .i64 t.lo,.int .i64 t.n,.string t.s,.slice aR t.qw.length kR,.string t.d,.slice bR t.pool.length lR,.slice cR t.tab.length nR,.slice dR t.dsk.length pR,.int .i64 t.su,.slice eR t.held.length qR]:=hwE ▸ O.row
  replace LC:=LC.kp kN (by omega)
  replace A:=A.kp kN (by omega)
  replace oR:=oR.kp kN (fun j h1 h2 e => by omega)
  have BwE:=Below.kp Bw2 kN Bw2.size (fun k hk => by omega)
  have swE:=kN.size
  rw [hwE]
  clear hwE kN Bw2
  refine bodyPost_ret (v := .tuple #[rpv t (.slice aR t.qw.length kR) (.slice bR t.pool.length lR) (.slice cR t.tab.length nR) (.slice dR t.dsk.length pR) (.slice eR t.held.length qR),.slice none 0 0]) (res_row2 Tryz.results11 _ O rfl Tryz.underlying46 rfl (by kernel_rfl)) rfl ?_
  exact ⟨_, _, _, _, _, _, rfl, w.heap.size, Nat.le_refl _, BwE.size, OPC.none _ _ _ (Nat.le_refl _), oR.mono (by omega) (by omega) (Nat.le_refl _), BwE⟩
 have cA13:=A.cell 13 rfl
 go_wp2_with fail
 refine (TP.out _ _ (HR.out.h.below Bw1)).mono ?_
 rintro _ w2 ⟨v, rfl, oP, bb⟩
 clear cA13
 have Bw2:=bu Bw1 bb
 have sw2:=bb.size
 replace LC:=LC.up bb
 replace A:=A.up bb
 replace O:=O.up bb
 clear Bw1 bb
 obtain ⟨aP, kP, rfl⟩:=oP.form
 obtain ⟨m, hm1⟩ : ∃ m, w2.heap.size = m:=⟨_, rfl⟩
 rw [hm1] at oP
 have hm2:=Nat.le_of_eq hm1
 have hm3:=Nat.le_of_eq hm1.symm
 clear hm1
 obtain ⟨cA11,cA12⟩:=cc2 A 11 12
 go_wp2_with fail
 refine (SY.out _ (HR.out.d.below Bw2)).mono ?_
 rintro _ w3 ⟨u, rfl, oD, bb⟩
 clear cA11 cA12
 have Bw3:=bu Bw2 bb
 have sw3:=bb.size
 replace LC:=LC.up bb
 replace A:=A.up bb
 replace O:=O.up bb
 clear Bw2
 replace oP:=oP.below bb
 clear bb
 have toD:=World.ownsRow.lt oD
 obtain ⟨aoD, koD, rfl⟩:=oD.form
 obtain ⟨cA11,cA12,cA13⟩:=cc3 A 11 12 13
 have fA:=A.frozen
 go_upto_region 5 with fail
 clear cA11 cA12 cA13 fA
 obtain ⟨w4, hw4⟩ : ∃ w9_, (((w3.setCell ⟨w.heap.size + 1, 11, none⟩ (.slice aoD t.dsk.length koD)).setCell ⟨w.heap.size + 1, 12, none⟩ (.int .i64 (syncS t.dsk.length t.su))).setCell ⟨w.heap.size + 1, 13, none⟩ (.slice none 0 0)) = w9_:=⟨_, rfl⟩
 have kN : Kp w3 w4 (fun k => k = w.heap.size + 1):=hw4 ▸ ((set_kp _ _ _ _).trans (set_kp _ _ _ _)).trans (set_kp _ _ _ _)
 replace A : Loc w4 (w.heap.size + 1) #[.int .i64 t.id,.int .i64 t.vw,.int .i64 t.ak,.int .i64 t.vo,.int .i64 t.lo,.int .i64 t.n,.string t.s,.slice ao t.qw.length ca,.string t.d,.slice bo t.pool.length cb,.slice co t.tab.length cc,.slice aoD t.dsk.length koD,.int .i64 (syncS t.dsk.length t.su),.slice none 0 0]:=hw4 ▸ (((A.set 11 _ rfl).set 12 _ rfl).set 13 _ rfl)
 replace LC:=LC.kp kN (by omega)
 replace O:=O.kp kN (by omega)
 replace oD:=oD.kp kN (fun j hj e => by have:=toD j hj; omega)
 replace oP:=oP.kp kN (fun j h1 h2 e => by omega)
 have Bw4:=Below.kp Bw3 kN Bw3.size (fun k hk => by omega)
 have sw4:=kN.size
 rw [hw4]
 clear hw4 kN Bw3
 have RS1 : RRep w4 (srT t) (.slice ao t.qw.length ca) (.slice bo t.pool.length cb) (.slice co t.tab.length cc) (.slice aoD t.dsk.length koD) (.slice none 0 0):=⟨(HR.out.below Bw4).q, (HR.out.below Bw4).p, (HR.out.below Bw4).tb, oD.rb (by have:=HM.out.d; omega), RPo.nil _⟩
 go_wp2_with (first | (refine wload A 46 _ rfl _ rfl rfl Tryz.underlying46 rfl (by kernel_rfl) ?_))
 refine (TS.out _ _ _ RS1).mono ?_
 rintro _ w5 ⟨u1, u2, u3, u4, u5, rfl, oR, bb⟩
 have Bw5:=bu Bw4 bb
 have sw5:=bb.size
 replace LC:=LC.up bb
 replace A:=A.up bb
 replace O:=O.up bb
 replace oD:=oD.below bb
 clear Bw4
 replace oP:=oP.below bb
 clear bb
 obtain ⟨aR, kR, bR, lR, cR, nR, dR, pR, eR, qR, rfl, rfl, rfl, rfl, rfl⟩:=oR.form
 go_wp2_with (first | (refine wstore O 46 #[.int .i64 t.id,.int .i64 t.vw,.int .i64 t.ak,.int .i64 t.vo,.int .i64 t.lo,.int .i64 t.n,.string t.s,.slice aR t.qw.length kR,.string t.d,.slice bR t.pool.length lR,.slice cR t.tab.length nR,.slice dR t.dsk.length pR,.int .i64 (syncS t.dsk.length t.su),.slice eR 0 qR] rfl _ _ rfl rfl rfl (by kernel_rfl) rfl (by simp [Value.oneCell']) ?_))
 obtain ⟨wE, hwE⟩ : ∃ w9_, w5.setRow (w.heap.size + 1 + 1) #[.int .i64 t.id,.int .i64 t.vw,.int .i64 t.ak,.int .i64 t.vo,.int .i64 t.lo,.int .i64 t.n,.string t.s,.slice aR t.qw.length kR,.string t.d,.slice bR t.pool.length lR,.slice cR t.tab.length nR,.slice dR t.dsk.length pR,.int .i64 (syncS t.dsk.length t.su),.slice eR 0 qR] = w9_:=⟨_, rfl⟩
 have kN : Kp w5 wE (fun k => k = w.heap.size + 1 + 1):=hwE ▸ row_kp _ _ _
 replace O : Loc wE (w.heap.size + 1 + 1) #[.int .i64 t.id,.int .i64 t.vw,.int .i64 t.ak,.int .i64 t.vo,.int .i64 t.lo,.int .i64 t.n,.string t.s,.slice aR t.qw.length kR,.string t.d,.slice bR t.pool.length lR,.slice cR t.tab.length nR,.slice dR t.dsk.length pR,.int .i64 (syncS t.dsk.length t.su),.slice eR 0 qR]:=hwE ▸ O.row
 replace LC:=LC.kp kN (by omega)
 replace A:=A.kp kN (by omega)
 replace oD:=oD.kp kN (fun j hj e => by have:=toD j hj; omega)
 replace oP:=oP.kp kN (fun j h1 h2 e => by omega)
 replace oR:=oR.kp kN (fun j h1 h2 e => by omega)
 have BwE:=Below.kp Bw5 kN Bw5.size (fun k hk => by omega)
 have swE:=kN.size
 rw [hwE]
 clear hwE kN Bw5
 refine bodyPost_ret (v := .tuple #[rpv (srT t) (.slice aR t.qw.length kR) (.slice bR t.pool.length lR) (.slice cR t.tab.length nR) (.slice dR t.dsk.length pR) (.slice eR 0 qR),.slice aP t.held.length kP]) (res_row2 Tryz.results11 _ O rfl Tryz.underlying46 rfl (by kernel_rfl)) rfl ?_
 exact ⟨_, _, _, _, _, _, rfl, m, by omega, by omega, oP.mono (by omega) (by omega), oR.mono (by omega) (by omega) (Nat.le_refl _), BwE⟩
theorem specSureNow (n f : Int) (t : RpT) (ao bo co od oe : Option Addr) (ca cb cc cd ce : Nat) (w : World) (hm : RSm t) (hd : t.dsk.length ≤ 1048576) (hs : RS t) (h : RRep w t (.slice ao t.qw.length ca) (.slice bo t.pool.length cb) (.slice co t.tab.length cc) (.slice od t.dsk.length cd) (.slice oe t.held.length ce)) :
 Calls Tryz.prog 8 #[cv n f, rpv t (.slice ao t.qw.length ca) (.slice bo t.pool.length cb) (.slice co t.tab.length cc) (.slice od t.dsk.length cd) (.slice oe t.held.length ce)] w fun r w' => ∃ a b c d e v, r = .returned (.tuple #[rpv (sureT n f t) a b c d e, v]) ∧ StayR w' w.heap.size w'.heap.size (sureT n f t) a b c d e ∧ StayP w' w.heap.size w'.heap.size v (sureP n f t) ∧ Below w.heap.size w w' := by
 have RO:=hide fun w h => specRepOk n f t ao bo co od oe ca cb cc cd ce w hm hs h
 have CP:=hide fun w h => l15Copy_any t ao bo co od oe ca cb cc cd ce w hm h
 have PP:=hide fun v w h => l15Posts_any v t.held w hm.h h
 have SY:=hide fun w h => specSync_any od t.dsk.length cd t.su t.dsk w h hd
 have HR:=hide h
 have HM:=hide hm
 clear h hs hm hd
 unfold sureT sureP
 generalize repB n f t = b0 at *
 obtain ⟨w0, hw0, Bw0, LC, A, O, zw0⟩:=bx3 w #[.int .i64 n,.int .i64 f] 49 #[.int .i64 t.id,.int .i64 t.vw,.int .i64 t.ak,.int .i64 t.vo,.int .i64 t.lo,.int .i64 t.n,.string t.s,.slice ao t.qw.length ca,.string t.d,.slice bo t.pool.length cb,.slice co t.tab.length cc,.slice od t.dsk.length cd,.int .i64 t.su,.slice oe t.held.length ce] 46 #[.int .i64 0,.int .i64 0,.int .i64 0,.int .i64 0,.int .i64 0,.int .i64 0,.string ⟨#[]⟩,.slice none 0 0,.string ⟨#[]⟩,.slice none 0 0,.slice none 0 0,.slice none 0 0,.int .i64 0,.slice none 0 0] 46
 go_enter Tryz.func8, Tryz.ntmps8
 go_wp2_with (first | (refine wload A 46 _ rfl _ rfl rfl Tryz.underlying46 rfl (by kernel_rfl) ?_))
 clear hw0
 refine (CP.out _ (HR.out.below Bw0)).mono ?_
 rintro _ w1 ⟨u1, u2, u3, u4, u5, rfl, sR, bb⟩
 have Bw1:=bu Bw0 bb
 have sw1:=bb.size
 replace LC:=LC.up bb
 replace A:=A.up bb
 replace O:=O.up bb
 clear Bw0 bb
 obtain ⟨aR, kR, rfl⟩:=sR.rrep.q.form
 obtain ⟨bR, lR, rfl⟩:=RT.form1 sR.rrep.p
 obtain ⟨cR, nR, rfl⟩:=sR.rrep.tb.form
 obtain ⟨dR, pR, rfl⟩:=RB.form1 sR.rrep.d
 obtain ⟨eR, qR, rfl⟩:=sR.rrep.h.form
 go_upto_region 2 with (refine wstore (loc_at w1 #[.int .i64 0,.int .i64 0,.int .i64 0,.int .i64 0,.int .i64 0,.int .i64 0,.string ⟨#[]⟩,.slice none 0 0,.string ⟨#[]⟩,.slice none 0 0,.slice none 0 0,.slice none 0 0,.int .i64 0,.slice none 0 0] 46 rfl) 46 #[.int .i64 t.id,.int .i64 t.vw,.int .i64 t.ak,.int .i64 t.vo,.int .i64 t.lo,.int .i64 t.n,.string t.s,.slice aR t.qw.length kR,.string t.d,.slice bR t.pool.length lR,.slice cR t.tab.length nR,.slice dR t.dsk.length pR,.int .i64 t.su,.slice eR t.held.length qR] rfl _ _ rfl rfl rfl (by kernel_rfl) rfl (by simp [Value.oneCell']) ?_)
 obtain ⟨w2, hw2⟩ : ∃ y, (w1.alloc (.cells #[.int .i64 0,.int .i64 0,.int .i64 0,.int .i64 0,.int .i64 0,.int .i64 0,.string ⟨#[]⟩,.slice none 0 0,.string ⟨#[]⟩,.slice none 0 0,.slice none 0 0,.slice none 0 0,.int .i64 0,.slice none 0 0] 46)).setRow w1.heap.size #[.int .i64 t.id,.int .i64 t.vw,.int .i64 t.ak,.int .i64 t.vo,.int .i64 t.lo,.int .i64 t.n,.string t.s,.slice aR t.qw.length kR,.string t.d,.slice bR t.pool.length lR,.slice cR t.tab.length nR,.slice dR t.dsk.length pR,.int .i64 t.su,.slice eR t.held.length qR] = y:=⟨_, rfl⟩
 rw [hw2]
 have bb : Below w1.heap.size w1 w2:=hw2 ▸ box_below _ _ _ _
 have C : Loc w2 w1.heap.size #[.int .i64 t.id,.int .i64 t.vw,.int .i64 t.ak,.int .i64 t.vo,.int .i64 t.lo,.int .i64 t.n,.string t.s,.slice aR t.qw.length kR,.string t.d,.slice bR t.pool.length lR,.slice cR t.tab.length nR,.slice dR t.dsk.length pR,.int .i64 t.su,.slice eR t.held.length qR]:=hw2 ▸ box_loc _ _ _ _
 have zw2 : w2.heap.size = w1.heap.size + 1:=by rw [← hw2]; exact box_size _ _ _ _
 clear hw2
 have Bw2:=bu Bw1 bb
 have sw2:=bb.size
 replace LC:=LC.up bb
 replace A:=A.up bb
 replace O:=O.up bb
 clear Bw1
 replace sR:=sR.below bb
 clear bb
 obtain ⟨cLC0,cLC1⟩:=cc2 LC 0 1
 go_wp2_with (first | (refine wload A 46 _ rfl _ rfl rfl Tryz.underlying46 rfl (by kernel_rfl) ?_))
 refine (RO.out _ (HR.out.below Bw2)).mono ?_
 rintro _ w3 ⟨rfl, bb⟩
 clear cLC0 cLC1
 have Bw3:=bu Bw2 bb
 have sw3:=bb.size
 replace LC:=LC.up bb
 replace A:=A.up bb
 replace O:=O.up bb
 replace C:=C.up bb
 clear Bw2
 replace sR:=sR.below bb
 clear bb
 cases b0
 ·obtain ⟨wb, hwb⟩ : ∃ y, w3.alloc (.cells #[] 96) = y:=⟨_, rfl⟩
  have bb : Below w3.heap.size w3 wb:=hwb ▸ qalloc _ _
  have O2:=O.up bb
  go_wp2_with (first | (refine wload C 46 _ rfl _ rfl rfl Tryz.underlying46 rfl (by kernel_rfl) ?_) | (refine wstore O2 46 #[.int .i64 t.id,.int .i64 t.vw,.int .i64 t.ak,.int .i64 t.vo,.int .i64 t.lo,.int .i64 t.n,.string t.s,.slice aR t.qw.length kR,.string t.d,.slice bR t.pool.length lR,.slice cR t.tab.length nR,.slice dR t.dsk.length pR,.int .i64 t.su,.slice eR t.held.length qR] rfl _ _ rfl rfl rfl (by kernel_rfl) rfl (by simp [Value.oneCell']) ?_))
  have Bwb:=bu Bw3 bb
  have swb:=bb.size
  replace LC:=LC.up bb
  replace A:=A.up bb
  replace O:=O.up bb
  replace C:=C.up bb
  clear Bw3
  replace sR:=sR.below bb
  clear bb hwb O2
  obtain ⟨wE, hwE⟩ : ∃ w9_, wb.setRow (w.heap.size + 1 + 1) #[.int .i64 t.id,.int .i64 t.vw,.int .i64 t.ak,.int .i64 t.vo,.int .i64 t.lo,.int .i64 t.n,.string t.s,.slice aR t.qw.length kR,.string t.d,.slice bR t.pool.length lR,.slice cR t.tab.length nR,.slice dR t.dsk.length pR,.int .i64 t.su,.slice eR t.held.length qR] = w9_:=⟨_, rfl⟩
  have kN : Kp wb wE (fun k => k = w.heap.size + 1 + 1):=hwE ▸ row_kp _ _ _
  replace O : Loc wE (w.heap.size + 1 + 1) #[.int .i64 t.id,.int .i64 t.vw,.int .i64 t.ak,.int .i64 t.vo,.int .i64 t.lo,.int .i64 t.n,.string t.s,.slice aR t.qw.length kR,.string t.d,.slice bR t.pool.length lR,.slice cR t.tab.length nR,.slice dR t.dsk.length pR,.int .i64 t.su,.slice eR t.held.length qR]:=hwE ▸ O.row
  replace LC:=LC.kp kN (by omega)
  replace A:=A.kp kN (by omega)
  replace C:=C.kp kN (by omega)
  replace sR:=sR.kp kN (fun j h1 h2 e => by omega)
  have BwE:=Below.kp Bwb kN Bwb.size (fun k hk => by omega)
  have swE:=kN.size
  rw [hwE]
  clear hwE kN Bwb
  refine bodyPost_ret (v := .tuple #[rpv t (.slice aR t.qw.length kR) (.slice bR t.pool.length lR) (.slice cR t.tab.length nR) (.slice dR t.dsk.length pR) (.slice eR t.held.length qR),.slice (some ⟨w3.heap.size, 0, none⟩) 0 0]) (res_row2 Tryz.results8 _ O rfl Tryz.underlying46 rfl (by kernel_rfl)) rfl ?_
  exact ⟨_, _, _, _, _, _, rfl, sR.mono (by omega) (by omega) (Nat.le_refl _), StayP.none _ _ _ _ _ (Nat.le_refl _), BwE⟩
 obtain ⟨cA11,cA12⟩:=cc2 A 11 12
 go_wp2_with fail
 refine (SY.out _ (HR.out.d.below Bw3)).mono ?_
 rintro _ w4 ⟨u, rfl, oD, bb⟩
 clear cA11 cA12
 have Bw4:=bu Bw3 bb
 have sw4:=bb.size
 replace LC:=LC.up bb
 replace A:=A.up bb
 replace O:=O.up bb
 replace C:=C.up bb
 clear Bw3
 replace sR:=sR.below bb
 clear bb
 have toD:=World.ownsRow.lt oD
 obtain ⟨aoD, koD, rfl⟩:=oD.form
 obtain ⟨cC11,cC12⟩:=cc2 C 11 12
 have fC:=C.frozen
 go_upto_region 5 with fail
 clear cC11 cC12 fC
 obtain ⟨w5, hw5⟩ : ∃ w9_, ((w4.setCell ⟨w1.heap.size, 11, none⟩ (.slice aoD t.dsk.length koD)).setCell ⟨w1.heap.size, 12, none⟩ (.int .i64 (syncS t.dsk.length t.su))) = w9_:=⟨_, rfl⟩
 have kN : Kp w4 w5 (fun k => k = w1.heap.size):=hw5 ▸ (set_kp _ _ _ _).trans (set_kp _ _ _ _)
 replace C : Loc w5 (w1.heap.size) #[.int .i64 t.id,.int .i64 t.vw,.int .i64 t.ak,.int .i64 t.vo,.int .i64 t.lo,.int .i64 t.n,.string t.s,.slice aR t.qw.length kR,.string t.d,.slice bR t.pool.length lR,.slice cR t.tab.length nR,.slice aoD t.dsk.length koD,.int .i64 (syncS t.dsk.length t.su),.slice eR t.held.length qR]:=hw5 ▸ ((C.set 11 _ rfl).set 12 _ rfl)
 replace LC:=LC.kp kN (by omega)
 replace A:=A.kp kN (by omega)
 replace O:=O.kp kN (by omega)
 replace oD:=oD.kp kN (fun j hj e => by have:=toD j hj; omega)
 replace sR:=sR.kp kN (fun j h1 h2 e => by omega)
 have Bw5:=Below.kp Bw4 kN Bw4.size (fun k hk => by omega)
 have sw5:=kN.size
 rw [hw5]
 clear hw5 kN Bw4
 have cC13:=C.cell 13 rfl
 have fC:=C.frozen
 go_upto_region 6 with fail
 clear cC13 fC
 obtain ⟨w6, hw6⟩ : ∃ w9_, (w5.setCell ⟨w1.heap.size, 13, none⟩ (.slice none 0 0)) = w9_:=⟨_, rfl⟩
 have kN : Kp w5 w6 (fun k => k = w1.heap.size):=hw6 ▸ set_kp _ _ _ _
 replace C : Loc w6 (w1.heap.size) #[.int .i64 t.id,.int .i64 t.vw,.int .i64 t.ak,.int .i64 t.vo,.int .i64 t.lo,.int .i64 t.n,.string t.s,.slice aR t.qw.length kR,.string t.d,.slice bR t.pool.length lR,.slice cR t.tab.length nR,.slice aoD t.dsk.length koD,.int .i64 (syncS t.dsk.length t.su),.slice none 0 0]:=hw6 ▸ (C.set 13 _ rfl)
 replace LC:=LC.kp kN (by omega)
 replace A:=A.kp kN (by omega)
 replace O:=O.kp kN (by omega)
 replace oD:=oD.kp kN (fun j hj e => by have:=toD j hj; omega)
 replace sR:=sR.kp kN (fun j h1 h2 e => by omega)
 have Bw6:=Below.kp Bw5 kN Bw5.size (fun k hk => by omega)
 have sw6:=kN.size
 rw [hw6]
 clear hw6 kN Bw5
 have K : Hid (∀ w', Kp w6 w' (fun k => k = w.heap.size + 1 + 1) → (fun w' => Kp w6 w' (fun k => k = w.heap.size + 1 + 1) ∧ Loc w' (w.heap.size + 1) #[.int .i64 t.id,.int .i64 t.vw,.int .i64 t.ak,.int .i64 t.vo,.int .i64 t.lo,.int .i64 t.n,.string t.s,.slice ao t.qw.length ca,.string t.d,.slice bo t.pool.length cb,.slice co t.tab.length cc,.slice od t.dsk.length cd,.int .i64 t.su,.slice oe t.held.length ce] ∧ Loc w' (w1.heap.size) #[.int .i64 t.id,.int .i64 t.vw,.int .i64 t.ak,.int .i64 t.vo,.int .i64 t.lo,.int .i64 t.n,.string t.s,.slice aR t.qw.length kR,.string t.d,.slice bR t.pool.length lR,.slice cR t.tab.length nR,.slice aoD t.dsk.length koD,.int .i64 (syncS t.dsk.length t.su),.slice none 0 0]) w'):=hide fun w' hk' => ⟨hk', A.kp hk' (by omega), C.kp hk' (by omega)⟩
 refine wrk K (fun wd6 bA bb hHeld => ?_)
 have Bwd6:=bu Bw6 bb
 have swd6:=bb.size
 replace LC:=LC.up bb
 replace A:=A.up bb
 replace O:=O.up bb
 replace C:=C.up bb
 replace oD:=oD.below bb
 clear Bw6
 replace sR:=sR.below bb
 clear bb
 refine take_at (i := 0) (d := 20) (v := .agg #[.int .i64 t.id,.int .i64 t.vw,.int .i64 t.ak,.int .i64 t.vo,.int .i64 t.lo,.int .i64 t.n,.string t.s,.slice aR t.qw.length kR,.string t.d,.slice bR t.pool.length lR,.slice cR t.tab.length nR,.slice aoD t.dsk.length koD,.int .i64 (syncS t.dsk.length t.su),.slice none 0 0]) rfl rfl (by kernel_rfl) (by kernel_rfl) (by kernel_rfl) (fun _ _ _ h => h) ?_ (by assumption) ?_
 ·exact yields_row rfl 46 _ rfl rfl _ (fun w h => h.2.2) Tryz.underlying46 rfl (by kernel_rfl)
 simp only [pU]
 refine tx 1 21 ?_
 refine take_at (i := 2) (d := 22) (v := ?_) rfl rfl (by kernel_rfl) (by kernel_rfl) (by kernel_rfl) (fun _ _ _ h => h) (Or.inl ⟨by rfl, ?_⟩) (by assumption) ?_
 rotate_left
 ·intro w hSw
  try dsimp only at hSw
  have h:=hSw
  have hc13:=(h.2.1).cell 13 rfl
  clear h hSw
  go_simp
  try with_reducible rfl
 simp only [pU]
 refine rd 3 rfl (fun KK hKK => ?_)
 go_simp
 refine (PP.out _ _ (HR.out.h.below Bwd6)).mono ?_
 rintro e wx6_1 ⟨v, rfl, oP, bb⟩
 have bx6_2 : Kp w6 wx6_1 (fun k => k = w.heap.size + 1 + 1):=bA.trans (Below.kpOf bb _)
 clear hHeld
 refine hKK.out _ _ (K.out _ bx6_2) (fun hHeld => ?_)
 clear hKK KK bA
 have Bwx6_1:=bu Bwd6 bb
 have swx6_1:=bb.size
 replace LC:=LC.up bb
 replace A:=A.up bb
 replace O:=O.up bb
 replace C:=C.up bb
 replace oD:=oD.below bb
 clear Bwd6
 replace sR:=sR.below bb
 clear bb
 obtain ⟨aP, kP, rfl⟩:=oP.form
 refine rd 4 rfl (fun KK hKK => ?_)
 rw [if_pos (by rfl)]
 refine wp_store_mid 46 (.tmp 4) (.tmp 20) rfl (w.heap.size + 1 + 1) 0 #[.int .i64 t.id,.int .i64 t.vw,.int .i64 t.ak,.int .i64 t.vo,.int .i64 t.lo,.int .i64 t.n,.string t.s,.slice aR t.qw.length kR,.string t.d,.slice bR t.pool.length lR,.slice cR t.tab.length nR,.slice aoD t.dsk.length koD,.int .i64 (syncS t.dsk.length t.su),.slice none 0 0] rfl rfl (O.there 0 14 (by simp)) (by kernel_rfl) (by simp [Value.oneCell']) ?_
 obtain ⟨wx6_3, hq⟩ : ∃ y, wx6_1.setCells (w.heap.size + 1 + 1) 0 [.int .i64 t.id, .int .i64 t.vw, .int .i64 t.ak, .int .i64 t.vo, .int .i64 t.lo, .int .i64 t.n, .string t.s, .slice aR t.qw.length kR, .string t.d, .slice bR t.pool.length lR, .slice cR t.tab.length nR, .slice aoD t.dsk.length koD, .int .i64 (syncS t.dsk.length t.su), .slice none 0 0] = y:=⟨_, rfl⟩
 have kN : Kp wx6_1 wx6_3 (fun k => k = w.heap.size + 1 + 1):=hq ▸ setCells_kp _ _ _ _
 have bx6_4 : Kp w6 wx6_3 (fun k => k = w.heap.size + 1 + 1):=bx6_2.trans (kN.mono (fun k e => e))
 replace O : Loc wx6_3 (w.heap.size + 1 + 1) #[.int .i64 t.id,.int .i64 t.vw,.int .i64 t.ak,.int .i64 t.vo,.int .i64 t.lo,.int .i64 t.n,.string t.s,.slice aR t.qw.length kR,.string t.d,.slice bR t.pool.length lR,.slice cR t.tab.length nR,.slice aoD t.dsk.length koD,.int .i64 (syncS t.dsk.length t.su),.slice none 0 0]:=hq ▸ O.setCells _ _ rfl
 rw [show wx6_1.setCells (w.heap.size + 1 + 1) 0 (Array.toList #[.int .i64 t.id,.int .i64 t.vw,.int .i64 t.ak,.int .i64 t.vo,.int .i64 t.lo,.int .i64 t.n,.string t.s,.slice aR t.qw.length kR,.string t.d,.slice bR t.pool.length lR,.slice cR t.tab.length nR,.slice aoD t.dsk.length koD,.int .i64 (syncS t.dsk.length t.su),.slice none 0 0]) = wx6_3 from hq]
 clear hHeld
 refine hKK.out _ _ (K.out _ bx6_4) (fun hHeld => ?_)
 clear hKK KK bx6_2
 replace LC:=LC.kp kN (by omega)
 replace A:=A.kp kN (by omega)
 replace C:=C.kp kN (by omega)
 replace oD:=oD.kp kN (fun j hj e => by have:=toD j hj; omega)
 replace sR:=sR.kp kN (fun j h1 h2 e => by omega)
 replace oP:=oP.kp kN (fun j h1 e => by omega)
 have Bwx6_3:=Below.kp Bwx6_1 kN Bwx6_1.size (fun k hk => by omega)
 have swx6_3:=kN.size
 clear hq kN Bwx6_1
 refine tx 5 5 ?_
 clear hHeld
 refine wdn ?_
 clear K bx6_4
 go_wp2
 refine bodyPost_ret (v := .tuple #[rpv (srT t) (.slice aR t.qw.length kR) (.slice bR t.pool.length lR) (.slice cR t.tab.length nR) (.slice aoD t.dsk.length koD) (.slice none 0 0),.slice aP t.held.length kP]) (res_row2 Tryz.results8 _ O rfl Tryz.underlying46 rfl (by kernel_rfl)) rfl ?_
 exact ⟨_, _, _, _, _, _, rfl, ⟨Nat.le_refl _, fun v X k hx => ⟨(sR.2 v X k (fun j h1 h2 => hx j (by omega) (by omega))).q, (sR.2 v X k (fun j h1 h2 => hx j (by omega) (by omega))).p, (sR.2 v X k (fun j h1 h2 => hx j (by omega) (by omega))).tb, (oD.kp k (fun j hj => hx j (by have := toD j hj; omega) (by have := toD j hj; omega))).rb (by have := HM.out.d; omega), RPo.nil _⟩⟩, (oP.stay HM.out.hh).mono (by omega) (Nat.le_refl _) (Nat.le_refl _), Bwx6_3⟩
end
end Go.Proofs.YtjdchloechcclaaGreatDoor
