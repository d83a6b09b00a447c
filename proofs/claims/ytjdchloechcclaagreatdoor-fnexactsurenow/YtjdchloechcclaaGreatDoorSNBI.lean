/- Lemmas, as stated. -/
import Derived.Test.YtjdchloechcclaaGreatDoorSNBH
set_option linter.unusedSectionVars false
set_option linter.unusedSimpArgs false
namespace Go.Proofs.YtjdchloechcclaaGreatDoor
section
open Go Go.RowKit
variable [∀ (a b c d : Int), Decidable (Ok4 a b c d)]
variable [∀ (n f : Int), Decidable (COk n f)]
variable [∀ (a b c d : Nat), Decidable (okN a b c d)]
variable [∀ (x : T4), Decidable (OkT x)]
variable [∀ (last : Int) (s : St), Decidable (GoodSt last s)]
variable [∀ (n : Int) (s : List Int), Decidable (OkL n s)]
theorem Kp.cut {w w' : World} {X : Nat → Prop} (k : Kp w w' X) : Kp w w' (fun j => X j ∧ j < w.heap.size) := ⟨k.os, k.tape, k.output, k.size, fun j hj hx => k.block j hj (fun e => hx ⟨e, hj⟩)⟩
def StayR (w : World) (lo hi : Nat) (t : RpT) (a b c d e : Value) : Prop := hi ≤ w.heap.size ∧ ∀ (w' : World) (X : Nat → Prop), Kp w w' X → (∀ j, lo ≤ j → j < hi → ¬ X j) → RRep w' t a b c d e
theorem StayR.kp {w w' : World} {lo hi : Nat} {t : RpT} {a b c d e : Value} {X : Nat → Prop} (h : StayR w lo hi t a b c d e) (k : Kp w w' X) (hx : ∀ j, lo ≤ j → j < hi → ¬ X j) : StayR w' lo hi t a b c d e :=
 ⟨Nat.le_trans h.1 k.size, fun w'' Y k' hy => h.2 w'' (fun j => X j ∨ Y j) ((k.mono (fun _ => Or.inl)).trans (k'.mono (fun _ => Or.inr))) (fun j h1 h2 e => e.elim (hx j h1 h2) (hy j h1 h2))⟩
theorem StayR.below {w w' : World} {lo hi : Nat} {t : RpT} {a b c d e : Value} (h : StayR w lo hi t a b c d e) (b' : Below w.heap.size w w') : StayR w' lo hi t a b c d e := h.kp (Below.kpOf b' (fun _ => False)) (fun _ _ _ h => h)
theorem StayR.mono {w : World} {lo lo' hi hi' : Nat} {t : RpT} {a b c d e : Value} (h : StayR w lo hi t a b c d e) (h1 : lo' ≤ lo) (h2 : hi ≤ hi') (h3 : hi' ≤ w.heap.size) : StayR w lo' hi' t a b c d e :=
 ⟨h3, fun w' X k hx => h.2 w' X k (fun j a b => hx j (Nat.le_trans h1 a) (Nat.lt_of_lt_of_le b h2))⟩
theorem StayR.rrep {w : World} {lo hi : Nat} {t : RpT} {a b c d e : Value} (h : StayR w lo hi t a b c d e) : RRep w t a b c d e := h.2 w (fun _ => False) (Kp.refl _ _) (fun _ _ _ h => h)
theorem ot_empty (w : World) : OT (w.alloc (.cells #[] 70)) w.heap.size (.slice (some ⟨w.heap.size, 0, none⟩) 0 0) [] := by
 have:=World.ownsRow_lit (base:=w.heap.size) (e:=70) (size:=4) w #[] 0 (Nat.le_refl _) (by unfold maxLen; omega) (by simp)
 simpa [OT, tcells] using this
set_option maxHeartbeats 16000000 in
set_option maxRecDepth 100000 in
theorem l15Copy_any (t : RpT) (ao bo co od oe : Option Addr) (ca cb cc cd ce : Nat) (w : World) (hm : RSm t) (h : RRep w t (.slice ao t.qw.length ca) (.slice bo t.pool.length cb) (.slice co t.tab.length cc) (.slice od t.dsk.length cd) (.slice oe t.held.length ce)) :
 Calls Tryz.prog 33 #[rpv t (.slice ao t.qw.length ca) (.slice bo t.pool.length cb) (.slice co t.tab.length cc) (.slice od t.dsk.length cd) (.slice oe t.held.length ce)] w fun e w' => ∃ a' b' c' d' e', e = .returned (rpv t a' b' c' d' e') ∧ StayR w' w.heap.size w'.heap.size t a' b' c' d' e' ∧ Below w.heap.size w w' := by
 have T1:=hide fun w' h => l11Copy_any t.vo t.lo t.n t.s ao ca t.qw t.d w' h
 have T2:=hide fun w' h => specCopy od t.dsk.length cd t.su t.dsk w' h (by have:=hm.d; omega)
 have T3:=hide fun v w' h => l10Table_any v t.tab w' (by have:=hm.tb; omega) h
 have T4_:=hide fun v w' h => l15Posts_any v t.held w' hm.h h
 have HR:=hide h
 have HM:=hide hm
 have hpl:=hm.p
 clear h hm
 obtain ⟨w0, hw0, Bw0, P, O, zw0⟩:=bx2 w #[.int .i64 t.id,.int .i64 t.vw,.int .i64 t.ak,.int .i64 t.vo,.int .i64 t.lo,.int .i64 t.n,.string t.s,.slice ao t.qw.length ca,.string t.d,.slice bo t.pool.length cb,.slice co t.tab.length cc,.slice od t.dsk.length cd,.int .i64 t.su,.slice oe t.held.length ce] 46 #[.int .i64 0,.int .i64 0,.int .i64 0,.int .i64 0,.int .i64 0,.int .i64 0,.string ⟨#[]⟩,.slice none 0 0,.string ⟨#[]⟩,.slice none 0 0,.slice none 0 0,.slice none 0 0,.int .i64 0,.slice none 0 0] 46
 go_enter Tryz.func33, Tryz.ntmps33
 have K : Hid (∀ w', Kp w0 w' (fun k => k = w.heap.size + 1) → (fun w' => Kp w0 w' (fun k => k = w.heap.size + 1) ∧ Loc w' (w.heap.size) #[.int .i64 t.id,.int .i64 t.vw,.int .i64 t.ak,.int .i64 t.vo,.int .i64 t.lo,.int .i64 t.n,.string t.s,.slice ao t.qw.length ca,.string t.d,.slice bo t.pool.length cb,.slice co t.tab.length cc,.slice od t.dsk.length cd,.int .i64 t.su,.slice oe t.held.length ce]) w'):=hide fun w' hk' => ⟨hk', P.kp hk' (by omega)⟩
 go_upto_region 1 with fail
 clear hw0
 refine wrk K (fun wd1 bA bb hHeld => ?_)
 have Bwd1:=bu Bw0 bb
 have swd1:=bb.size
 replace P:=P.up bb
 replace O:=O.up bb
 clear Bw0 bb
 refine tx 0 3 ?_
 refine tx 2 5 ?_
 refine tx 4 7 ?_
 refine tx 6 9 ?_
 refine tx 10 13 ?_
 refine tx 13 16 ?_
 refine tx 16 19 ?_
 refine tx 19 22 ?_
 refine take_at (i := 1) (d := 4) (v := ?_) rfl rfl (by kernel_rfl) (by kernel_rfl) (by kernel_rfl) (fun _ _ _ h => h) (Or.inl ⟨by rfl, ?_⟩) (by assumption) ?_
 rotate_left
 ·intro w hSw
  try dsimp only at hSw
  have h:=hSw
  have hc0:=(h.2).cell 0 rfl
  clear h hSw
  go_simp
  try with_reducible rfl
 simp only [pU]
 refine take_at (i := 3) (d := 6) (v := ?_) rfl rfl (by kernel_rfl) (by kernel_rfl) (by kernel_rfl) (fun _ _ _ h => h) (Or.inl ⟨by rfl, ?_⟩) (by assumption) ?_
 rotate_left
 ·intro w hSw
  try dsimp only at hSw
  have h:=hSw
  have hc1:=(h.2).cell 1 rfl
  clear h hSw
  go_simp
  try with_reducible rfl
 simp only [pU]
 refine take_at (i := 5) (d := 8) (v := ?_) rfl rfl (by kernel_rfl) (by kernel_rfl) (by kernel_rfl) (fun _ _ _ h => h) (Or.inl ⟨by rfl, ?_⟩) (by assumption) ?_
 rotate_left
 ·intro w hSw
  try dsimp only at hSw
  have h:=hSw
  have hc2:=(h.2).cell 2 rfl
  clear h hSw
  go_simp
  try with_reducible rfl
 simp only [pU]
 refine take_at (i := 7) (d := 10) (v := .agg #[.int .i64 t.vo,.int .i64 t.lo,.int .i64 t.n,.string t.s,.slice ao t.qw.length ca,.string t.d]) rfl rfl (by kernel_rfl) (by kernel_rfl) (by kernel_rfl) (fun _ _ _ h => h) ?_ (by assumption) ?_
 ·exact yields_mid rfl 40 _ rfl rfl [.int .i64 t.vo, .int .i64 t.lo, .int .i64 t.n, .string t.s, .slice ao t.qw.length ca, .string t.d] _ (fun w h => (h.2).range 3 6 rfl) Tryz.underlying40 rfl (by kernel_rfl)
 simp only [pU]
 refine take_at (i := 11) (d := 14) (v := ?_) rfl rfl (by kernel_rfl) (by kernel_rfl) (by kernel_rfl) (fun _ _ _ h => h) (Or.inl ⟨by rfl, ?_⟩) (by assumption) ?_
 rotate_left
 ·intro w hSw
  try dsimp only at hSw
  have h:=hSw
  have hc9:=(h.2).cell 9 rfl
  clear h hSw
  go_simp
  try with_reducible rfl
 simp only [pU]
 refine take_at (i := 14) (d := 17) (v := ?_) rfl rfl (by kernel_rfl) (by kernel_rfl) (by kernel_rfl) (fun _ _ _ h => h) (Or.inl ⟨by rfl, ?_⟩) (by assumption) ?_
 rotate_left
 ·intro w hSw
  try dsimp only at hSw
  have h:=hSw
  have hc10:=(h.2).cell 10 rfl
  clear h hSw
  go_simp
  try with_reducible rfl
 simp only [pU]
 refine take_at (i := 17) (d := 20) (v := .agg #[.slice od t.dsk.length cd,.int .i64 t.su]) rfl rfl (by kernel_rfl) (by kernel_rfl) (by kernel_rfl) (fun _ _ _ h => h) ?_ (by assumption) ?_
 ·exact yields_mid rfl 43 _ rfl rfl [.slice od t.dsk.length cd, .int .i64 t.su] _ (fun w h => (h.2).range 11 2 rfl) Tryz.underlying43 rfl (by kernel_rfl)
 simp only [pU]
 refine take_at (i := 20) (d := 23) (v := ?_) rfl rfl (by kernel_rfl) (by kernel_rfl) (by kernel_rfl) (fun _ _ _ h => h) (Or.inl ⟨by rfl, ?_⟩) (by assumption) ?_
 rotate_left
 ·intro w hSw
  try dsimp only at hSw
  have h:=hSw
  have hc13:=(h.2).cell 13 rfl
  clear h hSw
  go_simp
  try with_reducible rfl
 simp only [pU]
 refine wpAnyH_ready (rs := [8, 9]) (by kernel_rfl) (by simp) (AllReadyH.cons rfl (fun KK hKK => ?_) (AllReadyH.cons rfl (fun KK hKK => ?_) AllReadyH.nil))
 ·go_simp
  refine (T1.out _ (HR.out.q.below Bwd1)).mono ?_
  rintro e wx1_1 ⟨u, rfl, oA, bb⟩
  have bx1_2 : Kp w0 wx1_1 (fun k => k = w.heap.size + 1):=bA.trans (Below.kpOf bb _)
  clear hHeld
  refine hKK.out _ _ (K.out _ bx1_2) (fun hHeld => ?_)
  clear hKK KK bA
  have Bwx1_1:=bu Bwd1 bb
  have swx1_1:=bb.size
  replace P:=P.up bb
  replace O:=O.up bb
  clear Bwd1 bb
  have toA:=World.ownsRow.lt oA
  obtain ⟨aoA, koA, rfl⟩:=oA.form
  refine rd 9 rfl (fun KK hKK => ?_)
  go_simp
  obtain ⟨wx1_3, hq⟩ : ∃ y, wx1_1.alloc (.cells #[] 70) = y:=⟨_, rfl⟩
  rw [hq]
  have bb : Below wx1_1.heap.size wx1_1 wx1_3:=hq ▸ qalloc _ _
  have bx1_4 : Kp w0 wx1_3 (fun k => k = w.heap.size + 1):=bx1_2.trans (Below.kpOf bb _)
  obtain ⟨h9, hh9⟩ : ∃ m, wx1_1.heap.size = m:=⟨_, rfl⟩
  have oN : OT wx1_3 h9 (.slice (some ⟨h9, 0, none⟩) 0 0) []:=hh9 ▸ hq ▸ ot_empty wx1_1
  rw [hh9]
  have h91:=Nat.le_of_eq hh9
  have h92:=Nat.le_of_eq hh9.symm
  clear hHeld hq hh9
  refine hKK.out _ _ (K.out _ bx1_4) (fun hHeld => ?_)
  clear hKK KK bx1_2
  have Bwx1_3:=bu Bwx1_1 bb
  have swx1_3:=bb.size
  replace P:=P.up bb
  replace O:=O.up bb
  replace oA:=oA.below bb
  clear Bwx1_1 bb
  have toN:=World.ownsRow.lt oN
  have h93:=(toN h9 rfl).2
  refine rd 12 rfl (fun KK hKK => ?_)
  refine step_append_txs rfl (.tmp 12) (.tmp 14) rfl h9 (.slice (some ⟨h9, 0, none⟩) 0 0) (.slice bo t.pool.length cb) [] t.pool rfl rfl oN (RT.below HR.out.p Bwx1_3).pt (by simp; omega) (by omega) ?_
  intro u wx1_5 oB g7 hu
  rw [List.nil_append] at oB
  have kN:=kp_grown g7
  have hn9 : ∀ j, (Value.slice (some ⟨h9, 0, none⟩) 0 0).ownBlock = some j → j = h9:=fun j e => by cases e; rfl
  replace P:=P.kp kN (fun e => by have:=hn9 _ e; omega)
  replace O:=O.kp kN (fun e => by have:=hn9 _ e; omega)
  replace oA:=oA.kp kN (fun j hj e => by have:=toA j hj; have:=hn9 _ e; omega)
  have bx1_6 : Kp w0 wx1_5 (fun k => k = w.heap.size + 1):=Kp.over bx1_4 kN (fun j e => Or.inl (by have:=hn9 _ e; omega))
  have Bwx1_5:=Below.kp Bwx1_3 kN Bwx1_3.size (fun j e => by have:=hn9 _ e; omega)
  have swx1_5:=kN.size
  clear hHeld g7 kN oN toN hu Bwx1_3
  refine hKK.out _ _ (K.out _ bx1_6) (fun hHeld => ?_)
  clear hKK KK bx1_4
  change wpAnyH _ _ _ _ _ _ _ (Act.put _ (some 15) _) _
  simp only [pU]
  obtain ⟨aoB, koB, rfl⟩:=OT.form1 oB
  have toB:=World.ownsRow.lt oB
  refine rd 15 rfl (fun KK hKK => ?_)
  go_simp
  refine (T3.out _ _ (HR.out.tb.below Bwx1_5)).mono ?_
  rintro e wx1_7 ⟨u, rfl, oC, bb⟩
  have bx1_8 : Kp w0 wx1_7 (fun k => k = w.heap.size + 1):=bx1_6.trans (Below.kpOf bb _)
  clear hHeld
  refine hKK.out _ _ (K.out _ bx1_8) (fun hHeld => ?_)
  clear hKK KK bx1_6
  have Bwx1_7:=bu Bwx1_5 bb
  have swx1_7:=bb.size
  replace P:=P.up bb
  replace O:=O.up bb
  replace oA:=oA.below bb
  replace oB:=oB.below bb
  clear Bwx1_5 bb
  obtain ⟨vsC, oC⟩:=oC
  obtain ⟨aoC, koC, rfl⟩:=OPt.form ⟨vsC, oC⟩
  obtain ⟨m1, hm1⟩ : ∃ m, wx1_7.heap.size = m:=⟨_, rfl⟩
  have oC:=OPtV.opr oC
  rw [hm1] at oC
  have hm2:=Nat.le_of_eq hm1
  have hm3:=Nat.le_of_eq hm1.symm
  clear hm1
  refine rd 18 rfl (fun KK hKK => ?_)
  go_simp
  refine (T2.out _ (HR.out.d.below Bwx1_7)).mono ?_
  rintro e wx1_9 ⟨u, rfl, oD, bb⟩
  have bx1_10 : Kp w0 wx1_9 (fun k => k = w.heap.size + 1):=bx1_8.trans (Below.kpOf bb _)
  clear hHeld
  refine hKK.out _ _ (K.out _ bx1_10) (fun hHeld => ?_)
  clear hKK KK bx1_8
  have Bwx1_9:=bu Bwx1_7 bb
  have swx1_9:=bb.size
  replace P:=P.up bb
  replace O:=O.up bb
  replace oA:=oA.below bb
  replace oB:=oB.below bb
  clear Bwx1_7
  replace oC:=oC.below bb
  clear bb
  have toD:=World.ownsRow.lt oD
  obtain ⟨aoD, koD, rfl⟩:=oD.form
  refine rd 21 rfl (fun KK hKK => ?_)
  go_simp
  refine (T4_.out _ _ (HR.out.h.below Bwx1_9)).mono ?_
  rintro e wx1_11 ⟨u, rfl, oE, bb⟩
  have bx1_12 : Kp w0 wx1_11 (fun k => k = w.heap.size + 1):=bx1_10.trans (Below.kpOf bb _)
  clear hHeld
  refine hKK.out _ _ (K.out _ bx1_12) (fun hHeld => ?_)
  clear hKK KK bx1_10
  have Bwx1_11:=bu Bwx1_9 bb
  have swx1_11:=bb.size
  replace P:=P.up bb
  replace O:=O.up bb
  replace oA:=oA.below bb
  replace oB:=oB.below bb
  replace oD:=oD.below bb
  clear Bwx1_9
  replace oC:=oC.below bb
  clear bb
  obtain ⟨aoE, koE, rfl⟩:=oE.form
  refine tx 22 25 ?_
  refine rd 23 rfl (fun KK hKK => ?_)
  rw [if_pos (by rfl)]
  refine wp_store_mid 46 (.tmp 2) (.tmp 25) rfl (w.heap.size + 1) 0 #[.int .i64 t.id,.int .i64 t.vw,.int .i64 t.ak,.int .i64 t.vo,.int .i64 t.lo,.int .i64 t.n,.string t.s,.slice aoA t.qw.length koA,.string t.d,.slice aoB t.pool.length koB,.slice aoC t.tab.length koC,.slice aoD t.dsk.length koD,.int .i64 t.su,.slice aoE t.held.length koE] rfl rfl (O.there 0 14 (by simp)) (by kernel_rfl) (by simp [Value.oneCell']) ?_
  obtain ⟨wx1_13, hq⟩ : ∃ y, wx1_11.setCells (w.heap.size + 1) 0 [.int .i64 t.id, .int .i64 t.vw, .int .i64 t.ak, .int .i64 t.vo, .int .i64 t.lo, .int .i64 t.n, .string t.s, .slice aoA t.qw.length koA, .string t.d, .slice aoB t.pool.length koB, .slice aoC t.tab.length koC, .slice aoD t.dsk.length koD, .int .i64 t.su, .slice aoE t.held.length koE] = y:=⟨_, rfl⟩
  have kN : Kp wx1_11 wx1_13 (fun k => k = w.heap.size + 1):=hq ▸ setCells_kp _ _ _ _
  have bx1_14 : Kp w0 wx1_13 (fun k => k = w.heap.size + 1):=bx1_12.trans (kN.mono (fun k e => e))
  replace O : Loc wx1_13 (w.heap.size + 1) #[.int .i64 t.id,.int .i64 t.vw,.int .i64 t.ak,.int .i64 t.vo,.int .i64 t.lo,.int .i64 t.n,.string t.s,.slice aoA t.qw.length koA,.string t.d,.slice aoB t.pool.length koB,.slice aoC t.tab.length koC,.slice aoD t.dsk.length koD,.int .i64 t.su,.slice aoE t.held.length koE]:=hq ▸ O.setCells _ _ rfl
  rw [show wx1_11.setCells (w.heap.size + 1) 0 (Array.toList #[.int .i64 t.id,.int .i64 t.vw,.int .i64 t.ak,.int .i64 t.vo,.int .i64 t.lo,.int .i64 t.n,.string t.s,.slice aoA t.qw.length koA,.string t.d,.slice aoB t.pool.length koB,.slice aoC t.tab.length koC,.slice aoD t.dsk.length koD,.int .i64 t.su,.slice aoE t.held.length koE]) = wx1_13 from hq]
  clear hHeld
  refine hKK.out _ _ (K.out _ bx1_14) (fun hHeld => ?_)
  clear hKK KK bx1_12
  replace P:=P.kp kN (by omega)
  replace oA:=oA.kp kN (fun j hj e => by have:=toA j hj; omega)
  replace oB:=oB.kp kN (fun j hj e => by have:=toB j hj; omega)
  replace oD:=oD.kp kN (fun j hj e => by have:=toD j hj; omega)
  replace oC:=oC.kp kN (fun j h1 h2 e => by omega)
  replace oE:=oE.kp kN (fun j h1 e => by omega)
  have Bwx1_13:=Below.kp Bwx1_11 kN Bwx1_11.size (fun k hk => by omega)
  have swx1_13:=kN.size
  clear hq kN Bwx1_11 hHeld
  refine wdn ?_
  clear K bx1_14
  go_wp2
  refine bodyPost_ret (v := rpv t (.slice aoA t.qw.length koA) (.slice aoB t.pool.length koB) (.slice aoC t.tab.length koC) (.slice aoD t.dsk.length koD) (.slice aoE t.held.length koE)) (res_row Tryz.results33 _ O rfl Tryz.underlying46 rfl (by kernel_rfl)) rfl ?_
  refine ⟨_, _, _, _, _, rfl, ⟨Nat.le_refl _, fun v X k hx => ?_⟩, Bwx1_13⟩
  have hm:=HM.out
  refine ⟨(oA.kp k (fun j hj => hx j (by have := toA j hj; omega) (by have := toA j hj; omega))).ri (by have := hm.q; omega), (oB.kp k (fun j hj => hx j (by have := toB j hj; omega) (by have := toB j hj; omega))).rt (by omega), (oC.kp k (fun j h1 h2 => hx j (by omega) (by omega))).rpt hm.tt, (oD.kp k (fun j hj => hx j (by have := toD j hj; omega) (by have := toD j hj; omega))).rb (by have := hm.d; omega), ?_⟩
  exact (oE.kp k.cut (fun j h1 h2 => hx j (by omega) h2.2 h2.1)).rpo hm.hh
 go_simp
 obtain ⟨wx1_15, hq⟩ : ∃ y, wd1.alloc (.cells #[] 70) = y:=⟨_, rfl⟩
 rw [hq]
 have bb : Below wd1.heap.size wd1 wx1_15:=hq ▸ qalloc _ _
 have bx1_16 : Kp w0 wx1_15 (fun k => k = w.heap.size + 1):=bA.trans (Below.kpOf bb _)
 obtain ⟨h9, hh9⟩ : ∃ m, wd1.heap.size = m:=⟨_, rfl⟩
 have oN : OT wx1_15 h9 (.slice (some ⟨h9, 0, none⟩) 0 0) []:=hh9 ▸ hq ▸ ot_empty wd1
 rw [hh9]
 have h91:=Nat.le_of_eq hh9
 have h92:=Nat.le_of_eq hh9.symm
 clear hHeld hq hh9
 refine hKK.out _ _ (K.out _ bx1_16) (fun hHeld => ?_)
 clear hKK KK bA
 have Bwx1_15:=bu Bwd1 bb
 have swx1_15:=bb.size
 replace P:=P.up bb
 replace O:=O.up bb
 clear Bwd1 bb
 have toN:=World.ownsRow.lt oN
 have h93:=(toN h9 rfl).2
 refine rd 8 rfl (fun KK hKK => ?_)
 go_simp
 refine (T1.out _ (HR.out.q.below Bwx1_15)).mono ?_
 rintro e wx1_17 ⟨u, rfl, oA, bb⟩
 have bx1_18 : Kp w0 wx1_17 (fun k => k = w.heap.size + 1):=bx1_16.trans (Below.kpOf bb _)
 clear hHeld
 refine hKK.out _ _ (K.out _ bx1_18) (fun hHeld => ?_)
 clear hKK KK bx1_16
 have Bwx1_17:=bu Bwx1_15 bb
 have swx1_17:=bb.size
 replace P:=P.up bb
 replace O:=O.up bb
 replace oN:=oN.below bb
 clear Bwx1_15 bb
 have toA:=World.ownsRow.lt oA
 obtain ⟨aoA, koA, rfl⟩:=oA.form
 refine rd 12 rfl (fun KK hKK => ?_)
 refine step_append_txs rfl (.tmp 12) (.tmp 14) rfl h9 (.slice (some ⟨h9, 0, none⟩) 0 0) (.slice bo t.pool.length cb) [] t.pool rfl rfl oN (RT.below HR.out.p Bwx1_17).pt (by simp; omega) (by omega) ?_
 intro u wx1_19 oB g7 hu
 rw [List.nil_append] at oB
 have kN:=kp_grown g7
 have hn9 : ∀ j, (Value.slice (some ⟨h9, 0, none⟩) 0 0).ownBlock = some j → j = h9:=fun j e => by cases e; rfl
 replace P:=P.kp kN (fun e => by have:=hn9 _ e; omega)
 replace O:=O.kp kN (fun e => by have:=hn9 _ e; omega)
 replace oA:=oA.kp kN (fun j hj e => by have:=toA j hj; have:=hn9 _ e; omega)
 have bx1_20 : Kp w0 wx1_19 (fun k => k = w.heap.size + 1):=Kp.over bx1_18 kN (fun j e => Or.inl (by have:=hn9 _ e; omega))
 have Bwx1_19:=Below.kp Bwx1_17 kN Bwx1_17.size (fun j e => by have:=hn9 _ e; omega)
 have swx1_19:=kN.size
 clear hHeld g7 kN oN toN hu Bwx1_17
 refine hKK.out _ _ (K.out _ bx1_20) (fun hHeld => ?_)
 clear hKK KK bx1_18
 change wpAnyH _ _ _ _ _ _ _ (Act.put _ (some 15) _) _
 simp only [pU]
 obtain ⟨aoB, koB, rfl⟩:=OT.form1 oB
 have toB:=World.ownsRow.lt oB
 refine rd 15 rfl (fun KK hKK => ?_)
 go_simp
 refine (T3.out _ _ (HR.out.tb.below Bwx1_19)).mono ?_
 rintro e wx1_21 ⟨u, rfl, oC, bb⟩
 have bx1_22 : Kp w0 wx1_21 (fun k => k = w.heap.size + 1):=bx1_20.trans (Below.kpOf bb _)
 clear hHeld
 refine hKK.out _ _ (K.out _ bx1_22) (fun hHeld => ?_)
 clear hKK KK bx1_20
 have Bwx1_21:=bu Bwx1_19 bb
 have swx1_21:=bb.size
 replace P:=P.up bb
 replace O:=O.up bb
 replace oA:=oA.below bb
 replace oB:=oB.below bb
 clear Bwx1_19 bb
 obtain ⟨vsC, oC⟩:=oC
 obtain ⟨aoC, koC, rfl⟩:=OPt.form ⟨vsC, oC⟩
 obtain ⟨m1, hm1⟩ : ∃ m, wx1_21.heap.size = m:=⟨_, rfl⟩
 have oC:=OPtV.opr oC
 rw [hm1] at oC
 have hm2:=Nat.le_of_eq hm1
 have hm3:=Nat.le_of_eq hm1.symm
 clear hm1
 refine rd 18 rfl (fun KK hKK => ?_)
 go_simp
 refine (T2.out _ (HR.out.d.below Bwx1_21)).mono ?_
 rintro e wx1_23 ⟨u, rfl, oD, bb⟩
 have bx1_24 : Kp w0 wx1_23 (fun k => k = w.heap.size + 1):=bx1_22.trans (Below.kpOf bb _)
 clear hHeld
 refine hKK.out _ _ (K.out _ bx1_24) (fun hHeld => ?_)
 clear hKK KK bx1_22
 have Bwx1_23:=bu Bwx1_21 bb
 have swx1_23:=bb.size
 replace P:=P.up bb
 replace O:=O.up bb
 replace oA:=oA.below bb
 replace oB:=oB.below bb
 clear Bwx1_21
 replace oC:=oC.below bb
 clear bb
 have toD:=World.ownsRow.lt oD
 obtain ⟨aoD, koD, rfl⟩:=oD.form
 refine rd 21 rfl (fun KK hKK => ?_)
 go_simp
 refine (T4_.out _ _ (HR.out.h.below Bwx1_23)).mono ?_
 rintro e wx1_25 ⟨u, rfl, oE, bb⟩
 have bx1_26 : Kp w0 wx1_25 (fun k => k = w.heap.size + 1):=bx1_24.trans (Below.kpOf bb _)
 clear hHeld
 refine hKK.out _ _ (K.out _ bx1_26) (fun hHeld => ?_)
 clear hKK KK bx1_24
 have Bwx1_25:=bu Bwx1_23 bb
 have swx1_25:=bb.size
 replace P:=P.up bb
 replace O:=O.up bb
 replace oA:=oA.below bb
 replace oB:=oB.below bb
 replace oD:=oD.below bb
 clear Bwx1_23
 replace oC:=oC.below bb
 clear bb
 obtain ⟨aoE, koE, rfl⟩:=oE.form
 refine tx 22 25 ?_
 refine rd 23 rfl (fun KK hKK => ?_)
 rw [if_pos (by rfl)]
 refine wp_store_mid 46 (.tmp 2) (.tmp 25) rfl (w.heap.size + 1) 0 #[.int .i64 t.id,.int .i64 t.vw,.int .i64 t.ak,.int .i64 t.vo,.int .i64 t.lo,.int .i64 t.n,.string t.s,.slice aoA t.qw.length koA,.string t.d,.slice aoB t.pool.length koB,.slice aoC t.tab.length koC,.slice aoD t.dsk.length koD,.int .i64 t.su,.slice aoE t.held.length koE] rfl rfl (O.there 0 14 (by simp)) (by kernel_rfl) (by simp [Value.oneCell']) ?_
 obtain ⟨wx1_27, hq⟩ : ∃ y, wx1_25.setCells (w.heap.size + 1) 0 [.int .i64 t.id, .int .i64 t.vw, .int .i64 t.ak, .int .i64 t.vo, .int .i64 t.lo, .int .i64 t.n, .string t.s, .slice aoA t.qw.length koA, .string t.d, .slice aoB t.pool.length koB, .slice aoC t.tab.length koC, .slice aoD t.dsk.length koD, .int .i64 t.su, .slice aoE t.held.length koE] = y:=⟨_, rfl⟩
 have kN : Kp wx1_25 wx1_27 (fun k => k = w.heap.size + 1):=hq ▸ setCells_kp _ _ _ _
 have bx1_28 : Kp w0 wx1_27 (fun k => k = w.heap.size + 1):=bx1_26.trans (kN.mono (fun k e => e))
 replace O : Loc wx1_27 (w.heap.size + 1) #[.int .i64 t.id,.int .i64 t.vw,.int .i64 t.ak,.int .i64 t.vo,.int .i64 t.lo,.int .i64 t.n,.string t.s,.slice aoA t.qw.length koA,.string t.d,.slice aoB t.pool.length koB,.slice aoC t.tab.length koC,.slice aoD t.dsk.length koD,.int .i64 t.su,.slice aoE t.held.length koE]:=hq ▸ O.setCells _ _ rfl
 rw [show wx1_25.setCells (w.heap.size + 1) 0 (Array.toList #[.int .i64 t.id,.int .i64 t.vw,.int .i64 t.ak,.int .i64 t.vo,.int .i64 t.lo,.int .i64 t.n,.string t.s,.slice aoA t.qw.length koA,.string t.d,.slice aoB t.pool.length koB,.slice aoC t.tab.length koC,.slice aoD t.dsk.length koD,.int .i64 t.su,.slice aoE t.held.length koE]) = wx1_27 from hq]
 clear hHeld
 refine hKK.out _ _ (K.out _ bx1_28) (fun hHeld => ?_)
 clear hKK KK bx1_26
 replace P:=P.kp kN (by omega)
 replace oA:=oA.kp kN (fun j hj e => by have:=toA j hj; omega)
 replace oB:=oB.kp kN (fun j hj e => by have:=toB j hj; omega)
 replace oD:=oD.kp kN (fun j hj e => by have:=toD j hj; omega)
 replace oC:=oC.kp kN (fun j h1 h2 e => by omega)
 replace oE:=oE.kp kN (fun j h1 e => by omega)
 have Bwx1_27:=Below.kp Bwx1_25 kN Bwx1_25.size (fun k hk => by omega)
 have swx1_27:=kN.size
 clear hq kN Bwx1_25 hHeld
 refine wdn ?_
 clear K bx1_28
 go_wp2
 refine bodyPost_ret (v := rpv t (.slice aoA t.qw.length koA) (.slice aoB t.pool.length koB) (.slice aoC t.tab.length koC) (.slice aoD t.dsk.length koD) (.slice aoE t.held.length koE)) (res_row Tryz.results33 _ O rfl Tryz.underlying46 rfl (by kernel_rfl)) rfl ?_
 refine ⟨_, _, _, _, _, rfl, ⟨Nat.le_refl _, fun v X k hx => ?_⟩, Bwx1_27⟩
 have hm:=HM.out
 refine ⟨(oA.kp k (fun j hj => hx j (by have := toA j hj; omega) (by have := toA j hj; omega))).ri (by have := hm.q; omega), (oB.kp k (fun j hj => hx j (by have := toB j hj; omega) (by have := toB j hj; omega))).rt (by omega), (oC.kp k (fun j h1 h2 => hx j (by omega) (by omega))).rpt hm.tt, (oD.kp k (fun j hj => hx j (by have := toD j hj; omega) (by have := toD j hj; omega))).rb (by have := hm.d; omega), ?_⟩
 exact (oE.kp k.cut (fun j h1 h2 => hx j (by omega) h2.2 h2.1)).rpo hm.hh
end
section
open Go Go.RowKit
variable [∀ (a b c d : Int), Decidable (Ok4 a b c d)]
variable [∀ (n f : Int), Decidable (COk n f)]
variable [∀ (a b c d : Nat), Decidable (okN a b c d)]
variable [∀ (x : T4), Decidable (OkT x)]
variable [∀ (last : Int) (s : St), Decidable (GoodSt last s)]
variable [∀ (n : Int) (s : List Int), Decidable (OkL n s)]
variable [∀ (x y : T4), Decidable (Bef x y)]
variable [∀ (ts : List T4), Decidable (Asc ts)]
variable [∀ (ts : List T4), Decidable (AllOk ts)]
variable [∀ (ts : List T4), Decidable (POk ts)]
def newR (id : Int) : RpT := ⟨id, 1, 0, 0, 0, 0, ⟨#[]⟩, [], ⟨#[]⟩, [], [], [], 0, []⟩
def zeroR : RpT := ⟨0, 0, 0, 0, 0, 0, ⟨#[]⟩, [], ⟨#[]⟩, [], [], [], 0, []⟩
theorem RRep.new (w : World) (id : Int) : RRep w (newR id) (.slice none 0 0) (.slice none 0 0) (.slice none 0 0) (.slice none 0 0) (.slice none 0 0) :=
 ⟨⟨by simp [newR], none, 0, rfl, .inl rfl⟩, ⟨by simp [newR], none, 0, rfl, .inl rfl⟩, ⟨none, 0, rfl, .inl rfl⟩, ⟨by simp [newR], none, 0, rfl, ⟨by simp [newR], by unfold maxLen; omega⟩, .inl rfl⟩, RPo.nil w⟩
theorem RSm.new (id : Int) : RSm (newR id) := ⟨by simp [newR], by simp [newR], by simp [newR], by simp [newR], by simp [newR], fun p hp => by simp [newR] at hp, fun j hj => by simp [newR] at hj⟩
theorem RS.new (id : Int) : RS (newR id) := ⟨(Nat.zero_le _ : 0 ≤ 1048576), (Nat.zero_le _ : 0 ≤ 1048576), fun p hp => by simp [newR] at hp, fun j hj => by simp [newR] at hj⟩
theorem res_row2 {P : Program} {fn : Func} {p u : Tmp} {ty : TypeId} (h : fn.results = #[.cell p ty,.tmp u]) {tmps : Array Value} {w : World} {g : Nat} {cs : Array Value} (d : TypeDesc) (L : Loc w g cs) (hp : tmps.getD p undef = .pointer (some ⟨g, 0, none⟩))
 (hu : P.underlying ty = some d) (hd : isRow d = true) (hi : (P.info? ty).map (·.size) = some cs.size) : (results fn tmps).run P w = .ok (.tuple #[.agg cs, tmps.getD u undef]) w := by
 rw [results_cell_tmp h, hp]
 have:=load_row L ty d hu hd hi
 simp [asAddr, this, Result.andThen]
end
section
open Go.RowKit
theorem OI.more {B : Nat} {w1 : World} {v' : Value} {xs : List Int} {c : Int} (ho' : w1.ownsRow B 3 1 v' (xs.length + 1) (xs.map (Value.int .i64) ++ [.int .i64 c])) : OI w1 B v' (xs ++ [c]) := by
 unfold OI
 rw [List.length_append, List.map_append]
 exact ho'
end
section
variable [∀ (a b c d : Int), Decidable (Ok4 a b c d)]
variable [∀ (a b c d : Nat), Decidable (okN a b c d)]
variable [∀ (last : Int) (s : St), Decidable (GoodSt last s)]
variable [∀ (x : T4), Decidable (OkT x)]
variable [∀ (n : Int) (s : List Int), Decidable (OkL n s)]
variable [∀ (n f : Int), Decidable (COk n f)]
theorem BytesL.piece {xs : List Int} (hb : BytesL xs) (k m : Nat) : BytesL ((xs.drop k).take m) := fun y hy => hb y (List.mem_of_mem_drop (List.mem_of_mem_take hy))
end
section
open Go.RowKit
variable [∀ (a b c d : Int), Decidable (Ok4 a b c d)]
variable [∀ (a b c d : Nat), Decidable (okN a b c d)]
variable [∀ (last : Int) (s : St), Decidable (GoodSt last s)]
variable [∀ (x : T4), Decidable (OkT x)]
variable [∀ (n : Int) (s : List Int), Decidable (OkL n s)]
variable [∀ (n f : Int), Decidable (COk n f)]
theorem RB.sub {w : World} {b off n ca : Nat} {xs : List Int} (h : RB w (.slice (some ⟨b, off, none⟩) n ca) xs) (q m : Nat) (hq : q + m ≤ xs.length) : RB w (.slice (some ⟨b, off + q, none⟩) m (ca - q)) ((xs.drop q).take m) := by
 obtain ⟨hl, ao, cap, e, hc, h⟩:=h
 cases e
 have hw:=win_len xs q m hq
 refine ⟨by omega, _, _, by rw [hw], ⟨by omega, by unfold maxLen at *; omega⟩, ?_⟩
 rcases h with rfl | ⟨b', off', e, h⟩
 ·left; simp
 cases e
 right
 refine ⟨b, off + q, rfl, fun k hk => ?_⟩
 rw [hw] at hk
 exact win_cells h hq k hk
theorem RB.at {w : World} {ao : Option Addr} {n ca : Nat} {xs : List Int} (h : RB w (.slice ao n ca) xs) (hx : 0 < xs.length) : (n = xs.length ∧ n ≤ ca) ∧ ∃ b off, ao = some ⟨b, off, none⟩ ∧ ∀ k, k < xs.length → w.cell? ⟨b, off + k, none⟩ = some (.int .u8 (xs.getD k 0)) := by
 obtain ⟨hl, ao', ca', e, hc, h⟩:=h
 cases e
 rcases h with rfl | ⟨b, off, rfl, h⟩
 ·simp at hx
 exact ⟨⟨rfl, hc.1⟩, b, off, rfl, h⟩
end
section
open Go Go.RowKit
variable [∀ (a b c d : Int), Decidable (Ok4 a b c d)]
variable [∀ (n f : Int), Decidable (COk n f)]
variable [∀ (a b c d : Nat), Decidable (okN a b c d)]
variable [∀ (x : T4), Decidable (OkT x)]
variable [∀ (last : Int) (s : St), Decidable (GoodSt last s)]
variable [∀ (n : Int) (s : List Int), Decidable (OkL n s)]
variable [∀ (x y : T4), Decidable (Bef x y)]
variable [∀ (ts : List T4), Decidable (Asc ts)]
variable [∀ (ts : List T4), Decidable (AllOk ts)]
variable [∀ (ts : List T4), Decidable (POk ts)]
theorem RRep.below {w w' : World} {t : RpT} {a b c d e : Value} (h : RRep w t a b c d e) (hb : Below w.heap.size w w') : RRep w' t a b c d e :=
 ⟨h.q.below hb, h.p.below hb, h.tb.below hb, h.d.below hb, h.h.below hb⟩
end
section
open Go.RowKit
def syncS (n : Nat) (s : Int) : Int := if dokB n s then (n : Int) else s
theorem implSync_any (ao : Option Addr) (n ca : Nat) (s : Int) (xs : List Int) (w : World) (hr : RB w (.slice ao n ca) xs) (hl : xs.length ≤ 1048576) :
 Calls Tryz.prog 45 #[dv (.slice ao n ca) s] w fun e w' => ∃ u, e = .returned (dv u (syncS n s)) ∧ OB w' w.heap.size u xs ∧ Below w.heap.size w w' := by
 unfold syncS
 cases hd : dokB n s with
 | true => exact implSync_yes ao n ca s xs w hr hl hd
 | false => exact implSync_no ao n ca s xs w hr hl hd
theorem specSync_any (ao : Option Addr) (n ca : Nat) (s : Int) (xs : List Int) (w : World) (hr : RB w (.slice ao n ca) xs) (hl : xs.length ≤ 1048576) :
 Calls Tryz.prog 35 #[dv (.slice ao n ca) s] w fun e w' => ∃ u, e = .returned (dv u (syncS n s)) ∧ OB w' w.heap.size u xs ∧ Below w.heap.size w w' := by
 unfold syncS
 cases hd : dokB n s with
 | true => exact specSync_yes ao n ca s xs w hr hl hd
 | false => exact specSync_no ao n ca s xs w hr hl hd
end
end Go.Proofs.YtjdchloechcclaaGreatDoor
