/- Lemmas; their conditions stand in each statement. -/
import Derived.Test.YtcjmcgolgbkknaaGreatDoorWRAR
import Derived.Test.YtcjmcgolgbkknaaGreatDoorWRBD
set_option maxRecDepth 100000
set_option maxHeartbeats 16000000
set_option linter.unusedSectionVars false
set_option linter.unusedSimpArgs false
set_option linter.unusedVariables false
namespace Go.Proofs.YtcjmcgolgbkknaaGreatDoor
section
open Go Go.RowKit
variable [∀(a b c d:Int),Decidable (BK a b c d)] [∀(n f:Int),Decidable (A9 n f)] [∀(a b c d:Nat),Decidable (Dc a b c d)] [∀(x:T4),Decidable (Dv x)] [∀(last:Int)(s:St),Decidable (Ak last s)]
structure RZ(t:Bv):Prop where
 s:t.s.size≤281474976710656
 d:t.d.size≤281474976710656
 tt:∀p ∈ t.tab,p.2.1.size≤281474976710656
 hh:∀j,j<t.held.length→MZ (t.held.getD j AX).2
theorem Si(t:Bv)(ao bo co od oe:Option Addr)(ca cb cc cd ce:Nat)(w:World)(hm:J8 t)(hz:RZ t)(h:EI w t (.slice ao t.qw.length ca) (.slice bo t.pool.length cb) (.slice co t.tab.length cc) (.slice od t.AY.length cd) (.slice oe t.held.length ce)):
 Calls Tryz.prog 40 #[FX t (.slice ao t.qw.length ca) (.slice bo t.pool.length cb) (.slice co t.tab.length cc) (.slice od t.AY.length cd) (.slice oe t.held.length ce)] w fun e w'=>∃a' b' c' d' e',e= .returned (FX t a' b' c' d' e')∧Du w' w.heap.size w'.heap.size t a' b' c' d' e'∧Below w.heap.size w w':=by
 have T1:=hide fun w' h=>gT t.vo t.lo t.n t.s ao ca t.qw t.d w' hz.s hz.d h;have T2:=hide fun w' h=>TU od cd t.su t.AY w' (by have:=hm.d;omega) h;have T3:=hide fun v w' h=>Rh v t.tab w' (by have:=hm.tb;omega) hz.tt h;have wO:=hide fun v w' h=>Ri v t.held w' hm.h hz.hh h;have HR:=hide h;have hpl:=hm.p;clear h hm hz;obtain⟨w0,hw0,AO,P,O,Cm⟩:=El w #[.int .i64 t.id,.int .i64 t.vw,.int .i64 t.ak,.int .i64 t.vo,.int .i64 t.lo,.int .i64 t.n,.string t.s,.slice ao t.qw.length ca,.string t.d,.slice bo t.pool.length cb,.slice co t.tab.length cc,.slice od t.AY.length cd,.int .i64 t.su,.slice oe t.held.length ce] 46 #[.int .i64 0,.int .i64 0,.int .i64 0,.int .i64 0,.int .i64 0,.int .i64 0,.string ⟨#[]⟩,.slice none 0 0,.string ⟨#[]⟩,.slice none 0 0,.slice none 0 0,.slice none 0 0,.int .i64 0,.slice none 0 0] 46;go_enter Tryz.func40,Tryz.ntmps40
 have K:=kw (kL P);go_upto_region 1 with fail
 clear hw0;have bA:Below w0.heap.size w0 w0.drew:=Below.drew (Below.refl _ _);refine wp_region_noPanic ?_;refine Kc (S:=fun w'=>Below w0.heap.size w0 w'∧Loc w' (w.heap.size) #[.int .i64 t.id,.int .i64 t.vw,.int .i64 t.ak,.int .i64 t.vo,.int .i64 t.lo,.int .i64 t.n,.string t.s,.slice ao t.qw.length ca,.string t.d,.slice bo t.pool.length cb,.slice co t.tab.length cc,.slice od t.AY.length cd,.int .i64 t.su,.slice oe t.held.length ce]) (fun j=>j==7||j==9) (by kernel_rfl) ?_;obtain⟨kg,hwd⟩:∃y,w0.drew=y:=⟨_,rfl⟩
 rw[hwd]at bA⊢;clear hwd;have bb:=bA;have GY:=bu AO bb;have mQ:=bb.size;replace P:=P.up bb;replace O:=O.up bb;clear AO bb;refine Bq (i:=0) (d:=3) (v:=?_) rfl rfl (by kernel_rfl) (by kernel_rfl) (by kernel_rfl) (fun _ _ _ h=>h) (Or.inl ⟨by rfl,?_⟩) ?_
 rotate_left
 ·intro w hSw
  try dsimp only at hSw
  go_simp
  try with_reducible rfl
 simp only[Act.put,List.setIfInBounds_toArray,List.set_cons_zero,List.set_cons_succ];refine Bq (i:=3) (d:=6) (v:=?_) rfl rfl (by kernel_rfl) (by kernel_rfl) (by kernel_rfl) (fun _ _ _ h=>h) (Or.inl ⟨by rfl,?_⟩) ?_
 rotate_left
 ·intro w hSw
  try dsimp only at hSw
  go_simp
  try with_reducible rfl
 simp only[Act.put,List.setIfInBounds_toArray,List.set_cons_zero,List.set_cons_succ];refine Fb (i:=1) (d:=4) (v:= .agg #[.int .i64 t.vo,.int .i64 t.lo,.int .i64 t.n,.string t.s,.slice ao t.qw.length ca,.string t.d]) rfl rfl (by kernel_rfl) (by kernel_rfl) (by kernel_rfl) (by kernel_rfl) (fun _ _ _ h=>h) ?_ (K.out _ bA) ?_
 ·exact BA rfl 40 _ rfl rfl [.int .i64 t.vo,.int .i64 t.lo,.int .i64 t.n,.string t.s,.slice ao t.qw.length ca,.string t.d] _ (fun w h=>(h.2).range 3 6 rfl) Tryz.underlying40 rfl (by kernel_rfl)
 simp only[Act.put,List.setIfInBounds_toArray,List.set_cons_zero,List.set_cons_succ];refine Fb (i:=4) (d:=7) (v:= .agg #[.slice od t.AY.length cd,.int .i64 t.su]) rfl rfl (by kernel_rfl) (by kernel_rfl) (by kernel_rfl) (by kernel_rfl) (fun _ _ _ h=>h) ?_ (K.out _ bA) ?_
 ·exact BA rfl 43 _ rfl rfl [.slice od t.AY.length cd,.int .i64 t.su] _ (fun w h=>(h.2).range 11 2 rfl) Tryz.underlying43 rfl (by kernel_rfl)
 simp only[Act.put,List.setIfInBounds_toArray,List.set_cons_zero,List.set_cons_succ];refine BU (i:=2) rfl (by kernel_rfl) (fun KK AA=>?_);go_simp;refine(T1.out _ (HR.out.q.below GY)).mono ?_;rintro e w1 ⟨u,rfl,oA,bb⟩;have Am:Below w0.heap.size w0 w1:=bu bA bb;refine AA.out _ _ (fun _ _=>K.out _ Am) ?_;clear AA KK bA;have AL:=bu GY bb;have Cj:=bb.size;replace P:=P.up bb;replace O:=O.up bb;clear GY bb;have toA:=World.ownsRow.lt oA;obtain⟨EG,D_,rfl⟩:=oA.form;refine Bq (i:=6) (d:=9) (v:=?_) rfl rfl (by kernel_rfl) (by kernel_rfl) (by kernel_rfl) (fun _ _ _ h=>h) (Or.inl ⟨by rfl,?_⟩) ?_
 rotate_left
 ·intro w hSw
  try dsimp only at hSw
  go_simp
  try with_reducible rfl
 simp only[Act.put,List.setIfInBounds_toArray,List.set_cons_zero,List.set_cons_succ];refine BU (i:=5) rfl (by kernel_rfl) (fun KK AA=>?_);go_simp;refine(T2.out _ (HR.out.d.below AL)).mono ?_;rintro e w2 ⟨u,rfl,oD,bb⟩;have BG:Below w0.heap.size w0 w2:=bu Am bb;refine AA.out _ _ (fun _ _=>K.out _ BG) ?_;clear AA KK Am;have Ah:=bu AL bb;have Ej:=bb.size;replace P:=P.up bb;replace O:=O.up bb;replace oA:=oA.below bb;clear AL bb;have GZ:=World.ownsRow.lt oD;obtain⟨Cu,Cs,rfl⟩:=oD.form;refine BU (i:=7) rfl (by kernel_rfl) (fun KK AA=>?_);rw[if_pos (by rfl)];refine wp_store_mid 40 (.tmp 9) (.tmp 5) rfl (w.heap.size) 3 #[.int .i64 t.vo,.int .i64 t.lo,.int .i64 t.n,.string t.s,.slice EG t.qw.length D_,.string t.d] rfl rfl (P.there 3 6 (by simp)) (by kernel_rfl) (by simp[Value.oneCell']) ?_;refine AA.out _ _ (fun h=>absurd h (by decide)) ?_;clear AA KK;obtain⟨w3,hw3⟩:∃y,w2.setCells (w.heap.size) 3 [.int .i64 t.vo,.int .i64 t.lo,.int .i64 t.n,.string t.s,.slice EG t.qw.length D_,.string t.d]=y:=⟨_,rfl⟩
 rw[hw3];have kN:Kp w2 w3 (fun k=>k=w.heap.size):=hw3▸AQ _ _ _ _;replace P:Loc w3 (w.heap.size) #[.int .i64 t.id,.int .i64 t.vw,.int .i64 t.ak,.int .i64 t.vo,.int .i64 t.lo,.int .i64 t.n,.string t.s,.slice EG t.qw.length D_,.string t.d,.slice bo t.pool.length cb,.slice co t.tab.length cc,.slice od t.AY.length cd,.int .i64 t.su,.slice oe t.held.length ce]:=hw3▸P.setCells _ _ rfl;replace O:=O.kp kN (by omega);replace oA:=oA.kp kN (fun j hj e=>by have:=toA j hj;omega);replace oD:=oD.kp kN (fun j hj e=>by have:=GZ j hj;omega);have BH:=Below.kp Ah kN Ah.size (fun k hk=>by omega);have IL:=kN.size;clear hw3 kN Ah;refine Bq (i:=8) (d:=10) (v:=?_) rfl rfl (by kernel_rfl) (by kernel_rfl) (by kernel_rfl) (fun _ _ _ h=>h) (Or.inl ⟨by rfl,?_⟩) ?_
 rotate_left
 ·intro w hSw
  try dsimp only at hSw
  go_simp
  try with_reducible rfl
 simp only[Act.put,List.setIfInBounds_toArray,List.set_cons_zero,List.set_cons_succ];refine BU (i:=9) rfl (by kernel_rfl) (fun KK AA=>?_);rw[if_pos (by rfl)];refine wp_store_mid 43 (.tmp 10) (.tmp 8) rfl (w.heap.size) 11 #[.slice Cu t.AY.length Cs,.int .i64 t.su] rfl rfl (P.there 11 2 (by simp)) (by kernel_rfl) (by simp[Value.oneCell']) ?_;refine AA.out _ _ (fun h=>absurd h (by decide)) ?_;clear AA KK;obtain⟨w4,hw4⟩:∃y,w3.setCells (w.heap.size) 11 [.slice Cu t.AY.length Cs,.int .i64 t.su]=y:=⟨_,rfl⟩
 rw[hw4];have kN:Kp w3 w4 (fun k=>k=w.heap.size):=hw4▸AQ _ _ _ _;replace P:Loc w4 (w.heap.size) #[.int .i64 t.id,.int .i64 t.vw,.int .i64 t.ak,.int .i64 t.vo,.int .i64 t.lo,.int .i64 t.n,.string t.s,.slice EG t.qw.length D_,.string t.d,.slice bo t.pool.length cb,.slice co t.tab.length cc,.slice Cu t.AY.length Cs,.int .i64 t.su,.slice oe t.held.length ce]:=hw4▸P.setCells _ _ rfl;replace O:=O.kp kN (by omega);replace oA:=oA.kp kN (fun j hj e=>by have:=toA j hj;omega);replace oD:=oD.kp kN (fun j hj e=>by have:=GZ j hj;omega);have Cr:=Below.kp BH kN BH.size (fun k hk=>by omega);have Nq:=kN.size;clear hw4 kN BH;refine Mv (by kernel_rfl) ?_ _;refine NoPanic.normal ?_;clear K BG;have K:=kw (kL P);go_upto_region 2 with fail
 have bA:Below w4.heap.size w4 w4.drew:=Below.drew (Below.refl _ _);refine wp_region_noPanic ?_;refine Kc (S:=fun w'=>Below w4.heap.size w4 w'∧Loc w' (w.heap.size) #[.int .i64 t.id,.int .i64 t.vw,.int .i64 t.ak,.int .i64 t.vo,.int .i64 t.lo,.int .i64 t.n,.string t.s,.slice EG t.qw.length D_,.string t.d,.slice bo t.pool.length cb,.slice co t.tab.length cc,.slice Cu t.AY.length Cs,.int .i64 t.su,.slice oe t.held.length ce]) (fun j=>j==10||j==12||j==14) (by kernel_rfl) ?_;obtain⟨wd2,hwd⟩:∃y,w4.drew=y:=⟨_,rfl⟩
 rw[hwd]at bA⊢;clear hwd;have bb:=bA;have yu:=bu Cr bb;have AFR:=bb.size;replace P:=P.up bb;replace O:=O.up bb;replace oA:=oA.below bb;replace oD:=oD.below bb;clear Cr bb;refine Bq (i:=0) (d:=11) (v:=?_) rfl rfl (by kernel_rfl) (by kernel_rfl) (by kernel_rfl) (fun _ _ _ h=>h) (Or.inl ⟨by rfl,?_⟩) ?_
 rotate_left
 ·intro w hSw
  try dsimp only at hSw
  go_simp
  try with_reducible rfl
 simp only[Act.put,List.setIfInBounds_toArray,List.set_cons_zero,List.set_cons_succ];refine Bq (i:=3) (d:=14) (v:=?_) rfl rfl (by kernel_rfl) (by kernel_rfl) (by kernel_rfl) (fun _ _ _ h=>h) (Or.inl ⟨by rfl,?_⟩) ?_
 rotate_left
 ·intro w hSw
  try dsimp only at hSw
  go_simp
  try with_reducible rfl
 simp only[Act.put,List.setIfInBounds_toArray,List.set_cons_zero,List.set_cons_succ];refine Bq (i:=6) (d:=17) (v:=?_) rfl rfl (by kernel_rfl) (by kernel_rfl) (by kernel_rfl) (fun _ _ _ h=>h) (Or.inl ⟨by rfl,?_⟩) ?_
 rotate_left
 ·intro w hSw
  try dsimp only at hSw
  go_simp
  try with_reducible rfl
 simp only[Act.put,List.setIfInBounds_toArray,List.set_cons_zero,List.set_cons_succ];refine Fb (i:=1) (d:=12) (v:=?_) rfl rfl (by kernel_rfl) (by kernel_rfl) (by kernel_rfl) (by kernel_rfl) (fun _ _ _ h=>h) (Or.inl ⟨by rfl,?_⟩) (K.out _ bA) ?_
 rotate_left
 ·intro w hSw
  try dsimp only at hSw
  have h:=hSw;have hc9:=(h.2).cell 9 rfl;clear h hSw;go_simp
  try with_reducible rfl
 simp only[Act.put,List.setIfInBounds_toArray,List.set_cons_zero,List.set_cons_succ];refine Fb (i:=4) (d:=15) (v:=?_) rfl rfl (by kernel_rfl) (by kernel_rfl) (by kernel_rfl) (by kernel_rfl) (fun _ _ _ h=>h) (Or.inl ⟨by rfl,?_⟩) (K.out _ bA) ?_
 rotate_left
 ·intro w hSw
  try dsimp only at hSw
  have h:=hSw;have ADV:=(h.2).cell 10 rfl;clear h hSw;go_simp
  try with_reducible rfl
 simp only[Act.put,List.setIfInBounds_toArray,List.set_cons_zero,List.set_cons_succ];refine Fb (i:=7) (d:=18) (v:=?_) rfl rfl (by kernel_rfl) (by kernel_rfl) (by kernel_rfl) (by kernel_rfl) (fun _ _ _ h=>h) (Or.inl ⟨by rfl,?_⟩) (K.out _ bA) ?_
 rotate_left
 ·intro w hSw
  try dsimp only at hSw
  have h:=hSw;have ADU:=(h.2).cell 13 rfl;clear h hSw;go_simp
  try with_reducible rfl
 simp only[Act.put,List.setIfInBounds_toArray,List.set_cons_zero,List.set_cons_succ];refine BU (i:=2) rfl (by kernel_rfl) (fun KK AA=>?_);refine F6 rfl (.const (.slice none 0 0)) (.tmp 12) rfl w4.heap.size (.slice none 0 0) (.slice bo t.pool.length cb) [] (t.pool) rfl rfl (World.ownsRow_nil _ _ _ _) ((RT.below HR.out.p yu).pt) (by simp;omega) bA.size ?_;intro u w5 oB g7 _;have bb:Below wd2.heap.size wd2 w5:=(Below.refl _ _).grown g7 Af (fun j hj=>by simp[Value.ownBlock]at hj);rw[List.nil_append]at oB;have Am:Below w4.heap.size w4 w5:=bu bA bb;refine AA.out _ _ (fun _ _=>K.out _ Am) ?_;clear AA KK g7 bA;simp only[Act.put,List.setIfInBounds_toArray,List.set_cons_zero,List.set_cons_succ];have Fj:=bu yu bb;have Yt:=bb.size;replace P:=P.up bb;replace O:=O.up bb;replace oA:=oA.below bb;replace oD:=oD.below bb;clear yu bb;obtain⟨GD,F9,rfl⟩:=OT.Bi oB;have Bj:=World.ownsRow.lt oB;refine Bq (i:=9) (d:=20) (v:=?_) rfl rfl (by kernel_rfl) (by kernel_rfl) (by kernel_rfl) (fun _ _ _ h=>h) (Or.inl ⟨by rfl,?_⟩) ?_
 rotate_left
 ·intro w hSw
  try dsimp only at hSw
  go_simp
  try with_reducible rfl
 simp only[Act.put,List.setIfInBounds_toArray,List.set_cons_zero,List.set_cons_succ];refine BU (i:=5) rfl (by kernel_rfl) (fun KK AA=>?_);go_simp;refine(T3.out _ _ (HR.out.tb.below Fj)).mono ?_;rintro e w6 ⟨u,rfl,oC,bb⟩;have BG:Below w4.heap.size w4 w6:=bu Am bb;refine AA.out _ _ (fun _ _=>K.out _ BG) ?_;clear AA KK Am;have JD:=bu Fj bb;have rz:=bb.size;replace P:=P.up bb;replace O:=O.up bb;replace oA:=oA.below bb;replace oD:=oD.below bb;replace oB:=oB.below bb;clear Fj bb;obtain⟨yx,oC⟩:=oC;obtain⟨FI,FH,rfl⟩:=NK.form ⟨yx,oC⟩;obtain⟨m1,hm1⟩:∃m,w6.heap.size=m:=⟨_,rfl⟩
 have oC:=De.opr oC;rw[hm1]at oC;have hm2:=Nat.le_of_eq hm1;have hm3:=Nat.le_of_eq hm1.symm;clear hm1;refine BU (i:=8) rfl (by kernel_rfl) (fun KK AA=>?_);go_simp;refine(wO.out _ _ (HR.out.h.below JD)).mono ?_;rintro e w7 ⟨u,rfl,oE,bb⟩;have EY:Below w4.heap.size w4 w7:=bu BG bb;refine AA.out _ _ (fun _ _=>K.out _ EY) ?_;clear AA KK BG;have NM:=bu JD bb;have sw7:=bb.size;replace P:=P.up bb;replace O:=O.up bb;replace oA:=oA.below bb;replace oD:=oD.below bb;replace oB:=oB.below bb;clear JD;replace oC:=oC.below bb;clear bb;obtain⟨N_,Nv,rfl⟩:=oE.form;obtain⟨m5,hm5⟩:∃m,w7.heap.size=m:=⟨_,rfl⟩
 rw[hm5]at oE;have hm6:=Nat.le_of_eq hm5;have hm7:=Nat.le_of_eq hm5.symm;clear hm5;refine BU (i:=10) rfl (by kernel_rfl) (fun KK AA=>?_);have q0:=P.cell 9 rfl;have FG:=P.frozen;go_simp;refine AA.out _ _ (fun h=>absurd h (by decide)) ?_;clear AA KK q0 FG;obtain⟨w8,hw8⟩:∃y,w7.setCell ⟨w.heap.size,9,none⟩ (.slice GD t.pool.length F9)=y:=⟨_,rfl⟩
 rw[hw8];have kN:Kp w7 w8 (fun k=>k=w.heap.size):=hw8▸AJ _ _ _ _;replace P:Loc w8 (w.heap.size) #[.int .i64 t.id,.int .i64 t.vw,.int .i64 t.ak,.int .i64 t.vo,.int .i64 t.lo,.int .i64 t.n,.string t.s,.slice EG t.qw.length D_,.string t.d,.slice GD t.pool.length F9,.slice co t.tab.length cc,.slice Cu t.AY.length Cs,.int .i64 t.su,.slice oe t.held.length ce]:=hw8▸P.set 9 _ rfl;replace O:=O.kp kN (by omega);replace oA:=oA.kp kN (fun j hj e=>by have:=toA j hj;omega);replace oD:=oD.kp kN (fun j hj e=>by have:=GZ j hj;omega);replace oB:=oB.kp kN (fun j hj e=>by have:=Bj j hj;omega);replace oC:=oC.kp kN (fun j h1 h2 e=>by omega);replace oE:=oE.kp kN (fun j h1 h2 e=>by omega);have Ti:=Below.kp NM kN NM.size (fun k hk=>by omega);have sw8:=kN.size;clear hw8 kN NM;refine Bq (i:=11) (d:=21) (v:=?_) rfl rfl (by kernel_rfl) (by kernel_rfl) (by kernel_rfl) (fun _ _ _ h=>h) (Or.inl ⟨by rfl,?_⟩) ?_
 rotate_left
 ·intro w hSw
  try dsimp only at hSw
  go_simp
  try with_reducible rfl
 simp only[Act.put,List.setIfInBounds_toArray,List.set_cons_zero,List.set_cons_succ];refine BU (i:=12) rfl (by kernel_rfl) (fun KK AA=>?_);have q0:=P.cell 10 rfl;have FG:=P.frozen;go_simp;refine AA.out _ _ (fun h=>absurd h (by decide)) ?_;clear AA KK q0 FG;obtain⟨w9,eB⟩:∃y,w8.setCell ⟨w.heap.size,10,none⟩ (.slice FI t.tab.length FH)=y:=⟨_,rfl⟩
 rw[eB];have kN:Kp w8 w9 (fun k=>k=w.heap.size):=eB▸AJ _ _ _ _;replace P:Loc w9 (w.heap.size) #[.int .i64 t.id,.int .i64 t.vw,.int .i64 t.ak,.int .i64 t.vo,.int .i64 t.lo,.int .i64 t.n,.string t.s,.slice EG t.qw.length D_,.string t.d,.slice GD t.pool.length F9,.slice FI t.tab.length FH,.slice Cu t.AY.length Cs,.int .i64 t.su,.slice oe t.held.length ce]:=eB▸P.set 10 _ rfl;replace O:=O.kp kN (by omega);replace oA:=oA.kp kN (fun j hj e=>by have:=toA j hj;omega);replace oD:=oD.kp kN (fun j hj e=>by have:=GZ j hj;omega);replace oB:=oB.kp kN (fun j hj e=>by have:=Bj j hj;omega);replace oC:=oC.kp kN (fun j h1 h2 e=>by omega);replace oE:=oE.kp kN (fun j h1 h2 e=>by omega);have fG:=Below.kp Ti kN Ti.size (fun k hk=>by omega);have sw9:=kN.size;clear eB kN Ti;refine Bq (i:=13) (d:=22) (v:=?_) rfl rfl (by kernel_rfl) (by kernel_rfl) (by kernel_rfl) (fun _ _ _ h=>h) (Or.inl ⟨by rfl,?_⟩) ?_
 rotate_left
 ·intro w hSw
  try dsimp only at hSw
  go_simp
  try with_reducible rfl
 simp only[Act.put,List.setIfInBounds_toArray,List.set_cons_zero,List.set_cons_succ];refine BU (i:=14) rfl (by kernel_rfl) (fun KK AA=>?_);have q0:=P.cell 13 rfl;have FG:=P.frozen;go_simp;refine AA.out _ _ (fun h=>absurd h (by decide)) ?_;clear AA KK q0 FG;obtain⟨Vp,tN⟩:∃y,w9.setCell ⟨w.heap.size,13,none⟩ (.slice N_ t.held.length Nv)=y:=⟨_,rfl⟩
 rw[tN];have kN:Kp w9 Vp (fun k=>k=w.heap.size):=tN▸AJ _ _ _ _;replace P:Loc Vp (w.heap.size) #[.int .i64 t.id,.int .i64 t.vw,.int .i64 t.ak,.int .i64 t.vo,.int .i64 t.lo,.int .i64 t.n,.string t.s,.slice EG t.qw.length D_,.string t.d,.slice GD t.pool.length F9,.slice FI t.tab.length FH,.slice Cu t.AY.length Cs,.int .i64 t.su,.slice N_ t.held.length Nv]:=tN▸P.set 13 _ rfl;replace O:=O.kp kN (by omega);replace oA:=oA.kp kN (fun j hj e=>by have:=toA j hj;omega);replace oD:=oD.kp kN (fun j hj e=>by have:=GZ j hj;omega);replace oB:=oB.kp kN (fun j hj e=>by have:=Bj j hj;omega);replace oC:=oC.kp kN (fun j h1 h2 e=>by omega);replace oE:=oE.kp kN (fun j h1 h2 e=>by omega);have Kz:=Below.kp fG kN fG.size (fun k hk=>by omega);have xK:=kN.size;clear tN kN fG;refine Mv (by kernel_rfl) ?_ _;refine NoPanic.normal ?_;clear K EY;go_wp2_with (first|(refine Al P 46 _ rfl _ rfl rfl Tryz.underlying46 rfl (by kernel_rfl) ?_)|(refine BL O 46 #[.int .i64 t.id,.int .i64 t.vw,.int .i64 t.ak,.int .i64 t.vo,.int .i64 t.lo,.int .i64 t.n,.string t.s,.slice EG t.qw.length D_,.string t.d,.slice GD t.pool.length F9,.slice FI t.tab.length FH,.slice Cu t.AY.length Cs,.int .i64 t.su,.slice N_ t.held.length Nv] rfl _ _ rfl rfl rfl (by kernel_rfl) rfl (by simp[Value.oneCell']) ?_))
 obtain⟨wE,Bh⟩:∃Co,Vp.setRow (w.heap.size+1) #[.int .i64 t.id,.int .i64 t.vw,.int .i64 t.ak,.int .i64 t.vo,.int .i64 t.lo,.int .i64 t.n,.string t.s,.slice EG t.qw.length D_,.string t.d,.slice GD t.pool.length F9,.slice FI t.tab.length FH,.slice Cu t.AY.length Cs,.int .i64 t.su,.slice N_ t.held.length Nv]=Co:=⟨_,rfl⟩
 have kN:Kp Vp wE (fun k=>k=w.heap.size+1):=Bh▸CG _ _ _;replace O:Loc wE (w.heap.size+1) #[.int .i64 t.id,.int .i64 t.vw,.int .i64 t.ak,.int .i64 t.vo,.int .i64 t.lo,.int .i64 t.n,.string t.s,.slice EG t.qw.length D_,.string t.d,.slice GD t.pool.length F9,.slice FI t.tab.length FH,.slice Cu t.AY.length Cs,.int .i64 t.su,.slice N_ t.held.length Nv]:=Bh▸O.row;replace P:=P.kp kN (by omega);replace oA:=oA.kp kN (fun j hj e=>by have:=toA j hj;omega);replace oD:=oD.kp kN (fun j hj e=>by have:=GZ j hj;omega);replace oB:=oB.kp kN (fun j hj e=>by have:=Bj j hj;omega);replace oC:=oC.kp kN (fun j h1 h2 e=>by omega);replace oE:=oE.kp kN (fun j h1 h2 e=>by omega);have FC:=Below.kp Kz kN Kz.size (fun k hk=>by omega);have Oa:=kN.size;rw[Bh];clear Bh kN Kz;refine bodyPost_ret (v:=FX t (.slice EG t.qw.length D_) (.slice GD t.pool.length F9) (.slice FI t.tab.length FH) (.slice Cu t.AY.length Cs) (.slice N_ t.held.length Nv)) (DL Tryz.results40 _ O rfl Tryz.underlying46 rfl (by kernel_rfl)) rfl ?_;exact⟨_,_,_,_,_,rfl,⟨w1.heap.size,w4.heap.size,w5.heap.size,m1,w1.heap.size,w2.heap.size,w6.heap.size,yx,by omega,⟨oA.mono (by omega),fun j hj=>(toA j hj).2⟩,⟨oB,fun j hj=>(Bj j hj).2⟩,oC,⟨oD.mono (by omega),fun j hj=>(GZ j hj).2⟩,oE.mono (by omega) (by omega)⟩,FC⟩
end
section
open Go.RowKit Go.Extern
def kW(w:World):Prop:=w.cell? ⟨0,0,none⟩=some (.iface 304 (.agg #[.pointer (some ⟨8,195,none⟩)]))
theorem kW.below{w w':World}(h:kW w)(hb:Below w.heap.size w w'):kW w':=(hb.cell (AU h)).trans h
theorem kW.kp{w w':World}{X:Nat→Prop}(h:kW w)(k:Kp w w' X)(hx:¬X 0):kW w':=k.cell h hx
end
section
variable [∀(a b c d:Int),Decidable (BK a b c d)] [∀(a b c d:Nat),Decidable (Dc a b c d)] [∀(last:Int)(s:St),Decidable (Ak last s)] [∀(x:T4),Decidable (Dv x)] [∀(n:Int)(s:List Int),Decidable (Dw n s)] [∀(n f:Int),Decidable (A9 n f)]
def ABK(ys:List Int):Prop:=∀y ∈ ys,0≤y∧y≤2147483647
def Cn(ys:List Int):List Int:=(ys.map Av).flatten
theorem aB(y:Int)(ys:List Int):Cn (y :: ys)=Av y++Cn ys:=rfl
theorem Qt(ys:List Int)(y:Int):Cn (ys++[y])=Cn ys++Av y:=by simp[Cn]
theorem M6(ys:List Int):(Cn ys).length≤5*ys.length:=by
 induction ys with
 |nil=>simp[Cn]
 |cons y ys ih=>rw[aB,List.length_append,List.length_cons];have:=BC y;omega
def IU(ys:List Int):List Int:=Av ys.length++Cn ys
theorem Pj(ys:List Int):(IU ys).length≤5+5*ys.length:=by
 unfold IU;rw[List.length_append];have:=BC ys.length;have:=M6 ys;omega
abbrev QcT:=Int×ByteArray×List Int
abbrev kQ:=Int×Int×QcT×ByteArray
def WX(v:Int)(s:ByteArray)(ys:List Int):List Int:=Av v++DJ s++IU ys
def Mm(vo lo v:Int)(s:ByteArray)(ys:List Int)(d:ByteArray):List Int:=Av vo++Av lo++WX v s ys++DJ d
theorem sO{n:Int}{l:List Int}(hn:0≤n)(ho:Dw n l):(l.length:Int)≤n:=by
 generalize hk:l.length=k
 induction k generalizing l n with
 |zero=>simpa using hn
 |succ k ih=>
  obtain⟨l',x,rfl⟩:∃l' x,l=l'++[x]:=⟨l.dropLast,l.getLast (fun e=>by rw[e]at hk;simp at hk),(List.dropLast_concat_getLast _).symm⟩
  have hx:=ho.1 x (by simp);have hp:=ho.2;rw[List.pairwise_append]at hp;have:=ih hx.1 (l:=l') ⟨fun y hy=>⟨(ho.1 y (by simp[hy])).1,hp.2.2 y hy x (by simp)⟩,hp.1⟩ (by simpa using hk)
  push_cast
  omega
theorem IA{n f v:Int}{s:ByteArray}{ys:List Int}(h:D9 n f v s ys=true):(0≤v∧v≤60)∧s.size≤1920∧ys.length≤7∧ABK ys:=by
 have h':=h;unfold D9 at h';simp only[Bool.and_eq_true,decide_eq_true_eq,beq_iff_eq]at h';obtain⟨⟨⟨hc,hs⟩,hv⟩,hw⟩:=h';have hv2:=rU s;refine⟨by omega,Lx hs,?_⟩;by_cases he:s=⟨#[]⟩
 ·rw[if_pos he]at hw;have:ys=[]:=by simpa using hw
  subst this;exact⟨by simp,(fun y hy=>by cases hy)⟩
 obtain⟨hc,ho,_⟩:=sG h he;have:=sO (by have:=hc.1;omega) ho;have hc1:=hc.1;exact⟨by omega,fun y hy=>by have:=ho.1 y hy;omega⟩
def xL(n f:Int)(t:kQ):Bool:=Db n f t.1 t.2.1 t.2.2.1.1 t.2.2.1.2.1 t.2.2.1.2.2 t.2.2.2
def ZG(t:kQ):List Int:=Mm t.1 t.2.1 t.2.2.1.1 t.2.2.1.2.1 t.2.2.1.2.2 t.2.2.2
theorem Sg{n f:Int}{t:kQ}(h:xL n f t=true):(0≤t.1∧t.1≤60)∧(0≤t.2.1∧t.2.1≤60)∧((0≤t.2.2.1.1∧t.2.2.1.1≤60)∧t.2.2.1.2.1.size≤1920∧t.2.2.1.2.2.length≤7∧ABK t.2.2.1.2.2)∧t.2.2.2.size≤1920:=by
 obtain⟨h1,h2,h3,h4⟩:=Gf h;exact⟨h1,h2,IA h3,Lx h4⟩
theorem FQ(s:ByteArray):(DJ s).length≤5+s.size:=by rw[V6];have:=(Ll 4 s.size).1;omega
theorem Mq(v:Int)(s:ByteArray)(ys:List Int):(WX v s ys).length≤15+s.size+5*ys.length:=by
 unfold WX;rw[List.length_append,List.length_append];have:=BC v;have:=FQ s;have:=Pj ys;omega
theorem QN{n f:Int}{t:kQ}(h:xL n f t=true):(ZG t).length≤4000:=by
 obtain⟨_,_,⟨_,h1,h2,_⟩,h3⟩:=Sg h;unfold ZG Mm;rw[List.length_append,List.length_append,List.length_append];have:=BC t.1;have:=BC t.2.1;have:=Mq t.2.2.1.1 t.2.2.1.2.1 t.2.2.1.2.2;have:=FQ t.2.2.2;omega
theorem IZ(m:Int)(h0:0≤m)(h1:m≤2147483647):0<(Av m).length:=by
 obtain⟨n,rfl⟩:=Int.eq_ofNat_of_zero_le h0;rw[KY n (by omega)];exact(Ll 4 n).2
theorem nD{n f:Int}{t:kQ}(h:xL n f t=true):0<(ZG t).length:=by
 obtain⟨h0,_⟩:=Sg h;unfold ZG Mm;rw[List.length_append,List.length_append,List.length_append];have:=IZ t.1 (by omega) (by omega);omega
end
section
open Go.RowKit
variable [∀(a b c d:Int),Decidable (BK a b c d)] [∀(a b c d:Nat),Decidable (Dc a b c d)] [∀(last:Int)(s:St),Decidable (Ak last s)] [∀(x:T4),Decidable (Dv x)] [∀(n:Int)(s:List Int),Decidable (Dw n s)] [∀(n f:Int),Decidable (A9 n f)]
def X9(xs:List Int)(p q:Int):Prop:=q=p∨(0≤q∧q≤xs.length)
theorem X9.trans{xs:List Int}{p q r:Int}(h:X9 xs p q)(k:X9 xs q r):X9 xs p r:=by unfold X9 at *; omega
theorem Kp.over{a b c:World}{X Y:Nat→Prop}(h:Kp a b X)(k:Kp b c Y)(hy:∀j,Y j→a.heap.size≤j∨X j):Kp a c X:=
 ⟨k.os.trans h.os,k.tape.trans h.tape,k.output.trans h.output,Nat.le_trans h.size k.size,fun i hi hx=>(k.block i (Nat.lt_of_lt_of_le hi h.size) (fun hj=>by rcases hy i hj with h1|h1<;>first|omega|exact hx h1)).trans (h.block i hi hx)⟩
end
section
open Go.RowKit
theorem OI.more{B:Nat}{w1:World}{v':Value}{xs:List Int}{c:Int}(ho':w1.ownsRow B 3 1 v' (xs.length+1) (xs.map (Value.int .i64)++[.int .i64 c])):OI w1 B v' (xs++[c]):=by
 unfold OI;rw[List.length_append,List.map_append];exact ho'
end
section
variable [∀(a b c d:Int),Decidable (BK a b c d)] [∀(a b c d:Nat),Decidable (Dc a b c d)] [∀(last:Int)(s:St),Decidable (Ak last s)] [∀(x:T4),Decidable (Dv x)] [∀(n:Int)(s:List Int),Decidable (Dw n s)] [∀(n f:Int),Decidable (A9 n f)]
def vX(t:kQ):List Int:=Av (ZG t).length++ZG t++[10]
theorem Kt.piece{xs:List Int}(hb:Kt xs)(k m:Nat):Kt ((xs.drop k).take m):=fun y hy=>hb y (List.mem_of_mem_drop (List.mem_of_mem_take hy))
end
section
open Go.RowKit
theorem jl(w:World):
 Calls Tryz.prog 229 #[.slice none 0 0,.int .i64 0] w fun e w'=>∃v,e= .returned v∧OB w' w.heap.size v []∧Below w.heap.size w w':=by
 have HO:Hid (OB w w.heap.size (.slice none 0 0) []):=World.ownsRow_nil _ _ _ _;go_enter Tryz.func229,Tryz.ntmps229
 go_wp2;go_ret;exact⟨_,rfl,HO.out,Below.refl _ _⟩
theorem jm(n:Nat)(w:World)(hl:n≤4194304):
 Calls Tryz.prog 229 #[.slice none 0 0,.int .i64 n] w fun e w'=>∃v,e= .returned v∧OB w' w.heap.size v []∧Below w.heap.size w w':=by
 by_cases h:n=0
 ·subst h;exact jl w
 exact Ki n w (by omega) hl
theorem pq(g:Nat)(v1 v2:Value)(xs ys:List Int)(w:World)(h0:w.cell? ⟨g,0,none⟩=some v1)(h1:w.cell? ⟨g,1,none⟩=some v2)
 (p1:PB w v1 xs) (p2:PB w v2 ys) (hl:xs.length+ys.length≤4194304):
 Calls Tryz.prog 199 #[.slice (some ⟨g,0,none⟩) 2 2] w fun e w'=>∃v,e= .returned v∧OB w' w.heap.size v (xs++ys)∧Below w.heap.size w w':=by
 have P1:=hide p1;have P2:=hide p2;have GR:=hide fun w=>jm (xs.length+ys.length) w hl;have lg:g<w.heap.size:=AU h0;obtain⟨a1,k1,rfl,_⟩:=p1;obtain⟨a2,k2,rfl,_⟩:=p2;have e1:IntKind.i64.wrap ((xs.length:Int)+(ys.length:Int))=((xs.length+ys.length:Nat):Int):=by rw[IntKind.wrap_i64];omega
 obtain⟨n,hn⟩:∃n,xs.length+ys.length=n:=⟨_,rfl⟩
 rw[hn]at GR e1;have n1:¬((n:Int)<0):=by omega
 go_enter Tryz.func199,Tryz.ntmps199
 go_wp2;refine wp_loop_rounds 3 ?_;rw[rounds_succ];go_wp2;rw[rounds_succ];go_wp2;rw[rounds_succ];go_wp2_with fail
 refine(GR.out _).mono ?_;rintro _ w0 ⟨v0,rfl,o0,b0⟩;have wQ:=hide o0;have HB0:=hide b0;have c0:=b0.cell (p:=⟨g,0,none⟩) lg;rw[h0]at c0;have c1:=b0.cell (p:=⟨g,1,none⟩) lg;rw[h1]at c1;clear o0 b0;go_wp2;refine wp_loop_rounds 3 ?_;rw[rounds_succ];go_wp2_with (first|(at_builtin;refine Ap rfl _ _ rfl w.heap.size v0 (.slice a1 xs.length k1) ([]) xs rfl rfl wQ.out (P1.out.below HB0.out) (by simp;omega) HB0.out.size ?_;intro v1 w1 ho1 hg1 _;have wP:=hide ho1;have HB1:=hide (HB0.out.grown hg1 HB0.out.size (fun j hj=>(wQ.out.lt j hj).1));have c0:=HB1.out.cell (p:=⟨g,0,none⟩) lg;rw[h0]at c0;have c1:=HB1.out.cell (p:=⟨g,1,none⟩) lg;rw[h1]at c1;clear ho1 hg1))
 rw[rounds_succ];go_wp2_with (first|(at_builtin;refine Ap rfl _ _ rfl w.heap.size v1 (.slice a2 ys.length k2) ([]++xs) ys rfl rfl wP.out (P2.out.below HB1.out) (by simp;omega) HB1.out.size ?_;intro v2 w2 ho2 hg2 _;have qf:=hide ho2;have HB2:=hide (HB1.out.grown hg2 HB1.out.size (fun j hj=>(wP.out.lt j hj).1));have c0:=HB2.out.cell (p:=⟨g,0,none⟩) lg;rw[h0]at c0;have c1:=HB2.out.cell (p:=⟨g,1,none⟩) lg;rw[h1]at c1;clear ho2 hg2))
 rw[rounds_succ];go_wp2;go_ret;exact⟨_,rfl,qf.out,HB2.out⟩

def Ja(n m:Nat)(s:Int):Bool:=EC n s&&decide (n+m≤100000)

theorem fH(g:Nat)(ao bo:Option Addr)(ca cb:Nat)(s:Int)(xs ys:List Int)(w:World)(h:Loc w g (aF 0 (.slice ao xs.length ca) s 0))(ra:RF w g (.slice ao xs.length ca) xs)(rb:RF w g (.slice bo ys.length cb) ys)(ha:Ja xs.length ys.length s=true):
 Calls Tryz.prog 196 #[.pointer (some ⟨g,0,none⟩),.slice bo ys.length cb] w fun e w'=>e= .returned (.bool true)∧∃v',Loc w' g (aF 0 v' s 0)∧RF w' g v' (xs++ys)∧Kp w w' (fun k=>k=g):=by
 have hd:EC xs.length s=true:=by unfold Ja at ha;simp at ha;exact ha.1
 have hl:xs.length+ys.length≤100000:=by unfold Ja at ha;simp at ha;exact ha.2
 have LK:=hide (ny g (.slice ao xs.length ca) s 0 w h);have DK:=hide fun w=>Kh ao xs.length ca s w;rw[hd]at DK;have RA:=hide ra;have RBB:=hide rb;have hgt:decide ((ys.length:Int)>100000-(xs.length:Int))=false:=by simp;omega
 have hgl:¬((100000:Int)-(xs.length:Int)<(ys.length:Int)):=by omega
 have CC:=hide fun g v1 v2 w h0 h1 p1 p2=>pq g v1 v2 xs ys w h0 h1 p1 p2 (by omega);have HL:=hide hl;have hlx:xs.length≤100000:=by omega
 have hly:ys.length≤100000:=by omega
 obtain⟨n,hn⟩:∃n,xs.length=n:=⟨_,rfl⟩
 obtain⟨m,hm⟩:∃m,ys.length=m:=⟨_,rfl⟩
 rw[hn]at LK DK RA hgt hgl hlx;rw[hm]at RBB hgt hgl hly⊢;clear h hd ra rb ha hl hn hm
 go_enter_defers Tryz.func196,Tryz.ntmps196
 go_wp2_with fail
 refine LK.out.mono ?_;rintro e w1 ⟨rfl,L1,k1⟩;have c2:=L1.cell 2 rfl;have c3:=L1.cell 3 rfl;go_wp2_with fail
 refine(DK.out _).mono ?_;rintro e w2 ⟨rfl,b2⟩;have L2:=L1.up b2;have K2:=k1.trans (Below.Bf b2 _);clear L1 k1 b2 c2 c3 LK DK;have c2:=L2.cell 2 rfl;go_wp2_with fail
 have RA2:=(RA.out.kp K2).rb.pb;have RB2:=(RBB.out.kp K2).rb.pb;obtain⟨w3,hw3⟩:∃y,w2.alloc (.cells #[.slice ao n ca,.slice bo m cb] 31)=y:=⟨_,rfl⟩
 have b3:Below w2.heap.size w2 w3:=hw3▸Ac _ _;have l3:Loc w3 w2.heap.size #[.slice ao n ca,.slice bo m cb]:=hw3▸AB w2 _ _ rfl;rw[hw3];clear hw3;refine(CC.out _ _ _ _ (l3.cell 0 rfl) (l3.cell 1 rfl) (RA2.below b3) (RB2.below b3)).mono ?_;rintro e w4 ⟨v,rfl,o4,b4⟩;have L4:=(L2.up b3).below b4 (Nat.lt_of_lt_of_le L2.lt b3.size);have K4:=(K2.trans (Below.Bf b3 _)).trans (Below.Bf b4 _);have lg:=L2.lt;have sz3:=b3.size;have RF4:=hide (o4.rf (by rw[List.length_append];have:=HL.out;omega) (Nat.lt_of_lt_of_le lg sz3));obtain⟨va,vc,rfl⟩:=o4.form;clear o4 b4 b3 l3 RA2 RB2 CC c2 L2 K2 RA RBB;have c2:=L4.cell 2 rfl;have f2:=L4.frozen 2;generalize (xs++ys).length=q at *;go_wp2;obtain⟨w5,N8⟩:∃y,w4.setCell ⟨g,2,none⟩ (.slice va q vc)=y:=⟨_,rfl⟩
 have L5:Loc w5 g (aF 1 (.slice va q vc) s 0):=N8▸L4.set 2 _ rfl;have k5:Kp w4 w5 (fun k=>k=g):=N8▸AJ _ _ _ _;rw[N8];clear N8;refine leaves_cons (f:=225) (args:= #[.pointer (some ⟨g,0,none⟩)]) (by simp) (by simp[go_sem]) ?_;refine(OW g (.slice va q vc) s 0 .returning _ L5).mono ?_;rintro e u' w6 ⟨rfl,rfl,L6,k6⟩;exact⟨_,results_tmp rfl _ _ _,rfl,_,L6,(RF4.out.kp k5).kp k6,(K4.trans k5).trans k6⟩

theorem lM(g:Nat)(ao bo:Option Addr)(ca cb:Nat)(s:Int)(n m:Nat)(w:World)(h:Loc w g (aF 0 (.slice ao n ca) s 0))(ha:Ja n m s=false):
 Calls Tryz.prog 196 #[.pointer (some ⟨g,0,none⟩),.slice bo m cb] w fun e w'=>e= .returned (.bool false)∧Loc w' g (aF 0 (.slice ao n ca) s 0)∧Kp w w' (fun k=>k=g):=by
 have LK:=hide (ny g (.slice ao n ca) s 0 w h);have DK:=hide fun w=>Kh ao n ca s w;by_cases hd:EC n s=true
 ·have hl:100000<n+m:=by unfold Ja at ha;simp[hd]at ha;exact ha
  have hn:n≤100000:=(eT.1 hd).1;rw[hd]at DK;have hgl:((100000:Int)-(n:Int)<(m:Int)):=by omega
  clear h hd ha
  go_enter_defers Tryz.func196,Tryz.ntmps196
  go_wp2_with fail
  refine LK.out.mono ?_;rintro e w1 ⟨rfl,L1,k1⟩;have c2:=L1.cell 2 rfl;have c3:=L1.cell 3 rfl;go_wp2_with fail
  refine(DK.out _).mono ?_;rintro e w2 ⟨rfl,b2⟩;have L2:=L1.up b2;have K2:=k1.trans (Below.Bf b2 _);clear L1 k1 b2 c2 c3 LK DK;have c2:=L2.cell 2 rfl;go_wp2;refine leaves_cons (f:=225) (args:= #[.pointer (some ⟨g,0,none⟩)]) (by simp) (by simp[go_sem]) ?_;refine(OW g (.slice ao n ca) s 0 .returning _ L2).mono ?_;rintro e u' w6 ⟨rfl,rfl,L6,k6⟩;exact⟨_,results_tmp rfl _ _ _,rfl,L6,K2.trans k6⟩
 have hd':EC n s=false:=by simpa using hd
 rw[hd']at DK;clear h hd hd' ha
 go_enter_defers Tryz.func196,Tryz.ntmps196
 go_wp2_with fail
 refine LK.out.mono ?_;rintro e w1 ⟨rfl,L1,k1⟩;have c2:=L1.cell 2 rfl;have c3:=L1.cell 3 rfl;go_wp2_with fail
 refine(DK.out _).mono ?_;rintro e w2 ⟨rfl,b2⟩;have L2:=L1.up b2;have K2:=k1.trans (Below.Bf b2 _);clear L1 k1 b2 c2 c3 LK DK;go_wp2;refine leaves_cons (f:=225) (args:= #[.pointer (some ⟨g,0,none⟩)]) (by simp) (by simp[go_sem]) ?_;refine(OW g (.slice ao n ca) s 0 .returning _ L2).mono ?_;rintro e u' w6 ⟨rfl,rfl,L6,k6⟩;exact⟨_,results_tmp rfl _ _ _,rfl,L6,K2.trans k6⟩
theorem Vs(g:Nat)(ao:Option Addr)(n ca:Nat)(s:Int)(xs:List Int)(w:World)(h:Loc w g (aF 0 (.slice ao n ca) s 0))(hr:RF w g (.slice ao n ca) xs):
 Calls Tryz.prog 197 #[.pointer (some ⟨g,0,none⟩)] w fun e w'=>∃u,e= .returned (dv u s)∧OB w' w.heap.size u xs∧Kp w w' (fun k=>k=g):=by
 obtain⟨w0,hw0⟩:∃y,w.alloc (.cells #[.slice none 0 0,.int .i64 0] 43)=y:=⟨_,rfl⟩
 have b0:Below w.heap.size w w0:=hw0▸Ac _ _;have R0:Loc w0 w.heap.size #[.slice none 0 0,.int .i64 0]:=hw0▸AB w _ _ rfl;have LK:=hide (ny g (.slice ao n ca) s 0 w0 (h.up b0));have r0:=hr.below b0;have hl:=hr.1;have lgw:=h.lt;have hn:xs.length=n:=by obtain⟨_,_,_,e,_⟩:=hr;injection e with _ e2 _;exact e2.symm
 have HN:=hide hn;clear h hr;have hRg:w.heap.size≠g:=by omega
 go_enter_defers Tryz.func197,Tryz.ntmps197
 go_wp2_with fail
 clear hw0;refine LK.out.mono ?_;rintro e w1 ⟨rfl,L1,k1⟩;have R1:=(r0.kp k1).rb;rw[←hn]at R1;have DT:=hide (TU ao ca s xs w1 (by omega) R1);rw[hn]at DT;replace R0:=R0.kp k1 (by omega);have K1:Kp w w1 (fun k=>k=g):=(Below.Bf b0 _).trans k1;have z1:w.heap.size<w1.heap.size:=R0.lt;have hg1:=L1.lt;clear b0 k1 r0 LK R1;have c2:=L1.cell 2 rfl;have c3:=L1.cell 3 rfl;go_wp2_with fail
 refine DT.out.mono ?_;rintro e w2 ⟨u,rfl,O2,bb⟩;clear c2 c3 DT;have L2:=L1.up bb;have R2:=R0.up bb;have K2:=K1.trans (Below.Bf bb _);have s2:=bb.size;clear L1 R0 K1 bb;have MC:=World.ownsRow.lt O2;obtain⟨ua,uc,rfl⟩:=O2.form;rw[hn]at O2 MC⊢;go_upto_region 4 with(refine BL (AB w2 #[.slice none 0 0,.int .i64 0] 43 rfl) 43 #[.slice ua n uc,.int .i64 s] rfl _ _ rfl rfl rfl (by kernel_rfl) rfl (by simp[Value.oneCell']) ?_)
 obtain⟨w5,h5⟩:∃y,(w2.alloc (.cells #[.slice none 0 0,.int .i64 0] 43)).setRow w2.heap.size #[.slice ua n uc,.int .i64 s]=y:=⟨_,rfl⟩
 rw[h5];have bs:Below w2.heap.size w2 w5:=h5▸Da _ _ _ _;have L5:Loc w5 w2.heap.size #[.slice ua n uc,.int .i64 s]:=h5▸Fh _ _ _ _;clear h5;have O5:=O2.below bs;have hu5:∀j,(Value.slice ua n uc).ownBlock=some j→j≠w2.heap.size:=fun j hj=>Nat.ne_of_lt (MC j hj).2;have L5g:=L2.up bs;have R5:=R2.up bs;have K5:=K2.trans (Below.Bf bs _);have s5:=bs.size;have hg2:=L2.lt;have hr2:=R2.lt;clear L2 R2 K2 bs O2 MC;have LD:=hide (bS g 4 0 w5 (L5g.cell 4 rfl));go_wp2_with fail
 refine LD.out.mono ?_;rintro e w6 ⟨rfl,rfl⟩;clear LD;have y0:=L5.cell 0 rfl;have y1:=L5.cell 1 rfl;have fy:=L5.frozen;have r0:=R5.cell 0 rfl;have r1:=R5.cell 1 rfl;have fr:=R5.frozen;go_wp2;obtain⟨w7,hw7⟩:∃y,(w6.setCell ⟨w.heap.size,0,none⟩ (.slice ua n uc)).setCell ⟨w.heap.size,1,none⟩ (.int .i64 s)=y:=⟨_,rfl⟩
 have k7:Kp w6 w7 (fun k=>k=w.heap.size∨k=w2.heap.size):=hw7▸((AJ _ _ _ _).mono (fun k e=>Or.inl e)).trans ((AJ _ _ _ _).mono (fun k e=>Or.inl e));have L7:Loc w7 g (aF 1 (.slice ao n ca) s 0):=hw7▸(L5g.other (p:=⟨w.heap.size,0,none⟩) (by simpa using hRg.symm) _).other (p:=⟨w.heap.size,1,none⟩) (by simpa using hRg.symm) _;have R7:Loc w7 w.heap.size #[.slice ua n uc,.int .i64 s]:=hw7▸(R5.set 0 _ rfl).set 1 _ rfl;have lt5:=World.ownsRow.lt O5;have O7:OB w7 w1.heap.size (.slice ua n uc) xs:=O5.kp k7 (fun j hj e=>e.elim (fun e=>by have:=(lt5 j hj).1;omega) (fun e=>hu5 j hj e));have lt7:=World.ownsRow.lt O7;have K7:Kp w w7 (fun k=>k=g):=⟨k7.os.trans K5.os,k7.tape.trans K5.tape,k7.output.trans K5.output,Nat.le_trans K5.size k7.size,fun j hj hx=>(k7.block j (Nat.lt_of_lt_of_le hj K5.size) (fun e=>by rcases e with e|e<;>omega)).trans (K5.block j hj hx)⟩
 rw[hw7];clear hw7 k7 O5 K5 R5 L5g L5 y0 y1 fy r0 r1 fr lt5;refine leaves_cons (f:=225) (args:= #[.pointer (some ⟨g,0,none⟩)]) (by simp) (by simp[go_sem]) ?_;refine(OW g (.slice ao n ca) s 0 .returning _ L7).mono ?_;rintro e u' w8 ⟨rfl,rfl,L8,k8⟩;have R8:=R7.kp k8 hRg;have r0:=R8.cell 0 rfl;have r1:=R8.cell 1 rfl;refine⟨dv (.slice ua n uc) s,by simp[results,Tryz.results197,go_sem,r0,r1],_,rfl,(O7.kp k8 (fun j hj e=>by have:=(lt7 j hj).1;omega)).mono (by omega),K7.trans k8⟩
theorem KX{w:World}{ao:Option Addr}{n ca:Nat}{xs:List Int}(h:RB w (.slice ao n ca) xs):n=xs.length∧n≤ca:=by
 obtain⟨_,a,c,e,hc,_⟩:=h;injection e with e1 e2 e3
 subst e1 e2 e3;exact⟨rfl,hc.1⟩
theorem Qo(ao:Option Addr)(ca cb:Nat)(s:Int)(xs:List Int)(bo:Option Addr)(ys:List Int)(w:World)(hr:RB w (.slice ao xs.length ca) xs)(hl:xs.length≤1048576)(hr2:RB w (.slice bo ys.length cb) ys)(hl2:ys.length≤1048576)(ha:Ja xs.length ys.length s=true):
 Calls Tryz.prog 160 #[dv (.slice ao xs.length ca) s,.slice bo ys.length cb] w fun e w'=>∃u,e= .returned (.tuple #[dv u s,.bool true])∧OB w' w.heap.size u (xs++ys)∧Below w.heap.size w w':=by
 obtain⟨w0,hw0⟩:∃y,(((w.alloc (.cells #[.slice ao xs.length ca,.int .i64 s] 43)).alloc (.cells #[.slice none 0 0,.int .i64 0] 43)).alloc (.cells (aF 0 (.slice ao xs.length ca) s 0) 244))=y:=⟨_,rfl⟩
 have b0:Below w.heap.size w w0:=hw0▸(((Below.refl w.heap.size w).alloc Af _).alloc (by simp) _).alloc (by simp;omega) _;have L0:Loc w0 (w.heap.size+1+1) (aF 0 (.slice ao xs.length ca) s 0):=hw0▸AB ((w.alloc _).alloc _) _ _ (by simp);have S0:Loc w0 (w.heap.size+1) #[.slice none 0 0,.int .i64 0]:=hw0▸Loc.alloc (AB (w.alloc _) _ _ (by simp)) _;have z0:w.heap.size+1+1+1≤w0.heap.size:=hw0▸(by simp);have R0:RF w0 (w.heap.size+1+1) (.slice ao xs.length ca) xs:=(hr.rf (by omega) (by omega)).below b0;have R00:RF w0 (w.heap.size+1+1) (.slice bo ys.length cb) ys:=(hr2.rf (by omega) (by omega)).below b0;have TY:=fH (w.heap.size+1+1) ao bo ca cb s xs ys w0 L0 R0 R00 ha;generalize xs++ys=zs at *;have HW:=hide hw0;clear hr hw0;have C0:=hide (TY);go_enter Tryz.func160,Tryz.ntmps160
 go_wp2_with fail
 rw[HW.out];refine C0.out.mono ?_;rintro e w1 ⟨rfl,v',L1,R1,k1⟩;obtain⟨va,vc,hv⟩:=R1.form;subst hv;have S1:=S0.kp k1 (by omega);have C1:=hide (Vs (w.heap.size+1+1) va zs.length vc s zs w1 L1 R1);go_wp2_with fail
 refine C1.out.mono ?_;rintro e w2 ⟨u,rfl,o2,k2⟩;have S2:=S1.kp k2 (by omega);have K:=((k1).trans k2)
 have zK:=K.size;have MC:=o2.lt;have zz:=(k1).size;obtain⟨ua,uc,hu⟩:=o2.form;have O:=hide o2;clear o2;subst hu;have y0:=S2.cell 0 rfl;have y1:=S2.cell 1 rfl;have f0:=S2.frozen 0;have f1:=S2.frozen 1;clear C0 C1 HW R0 R00 R1 L0 L1 S0 S1 S2 ha hr2 TY;go_wp2;refine bodyPost_ret (v:= .tuple #[dv (.slice ua zs.length uc) s,.bool true]) (by simp[results,Tryz.results160,go_sem,y0,y1]) rfl ?_;have Q:Kp w2 ((w2.setCell ⟨w.heap.size+1,0,none⟩ (.slice ua zs.length uc)).setCell ⟨w.heap.size+1,1,none⟩ (.int .i64 s)) (fun k=>k=w.heap.size+1):=(AJ _ _ _ _).trans (AJ _ _ _ _);exact⟨_,rfl,(O.out.kp Q (fun k hk=>by have:=MC k hk;omega)).mono (by omega),Below.kp (Below.kp b0 K b0.size (fun k hk=>by omega)) Q (by omega) (fun k hk=>by omega)⟩
theorem Rx(ao:Option Addr)(ca cb:Nat)(s:Int)(xs:List Int)(bo:Option Addr)(ys:List Int)(w:World)(hr:RB w (.slice ao xs.length ca) xs)(hl:xs.length≤1048576)(hr2:RB w (.slice bo ys.length cb) ys)(hl2:ys.length≤1048576)(ha:Ja xs.length ys.length s=false):
 Calls Tryz.prog 160 #[dv (.slice ao xs.length ca) s,.slice bo ys.length cb] w fun e w'=>∃u,e= .returned (.tuple #[dv u s,.bool false])∧OB w' w.heap.size u (xs)∧Below w.heap.size w w':=by
 obtain⟨w0,hw0⟩:∃y,(((w.alloc (.cells #[.slice ao xs.length ca,.int .i64 s] 43)).alloc (.cells #[.slice none 0 0,.int .i64 0] 43)).alloc (.cells (aF 0 (.slice ao xs.length ca) s 0) 244))=y:=⟨_,rfl⟩
 have b0:Below w.heap.size w w0:=hw0▸(((Below.refl w.heap.size w).alloc Af _).alloc (by simp) _).alloc (by simp;omega) _;have L0:Loc w0 (w.heap.size+1+1) (aF 0 (.slice ao xs.length ca) s 0):=hw0▸AB ((w.alloc _).alloc _) _ _ (by simp);have S0:Loc w0 (w.heap.size+1) #[.slice none 0 0,.int .i64 0]:=hw0▸Loc.alloc (AB (w.alloc _) _ _ (by simp)) _;have z0:w.heap.size+1+1+1≤w0.heap.size:=hw0▸(by simp);have R0:RF w0 (w.heap.size+1+1) (.slice ao xs.length ca) xs:=(hr.rf (by omega) (by omega)).below b0;have R00:RF w0 (w.heap.size+1+1) (.slice bo ys.length cb) ys:=(hr2.rf (by omega) (by omega)).below b0;have HW:=hide hw0;clear hr hw0;have C0:=hide (lM (w.heap.size+1+1) ao bo ca cb s xs.length ys.length w0 L0 ha);go_enter Tryz.func160,Tryz.ntmps160
 go_wp2_with fail
 rw[HW.out];refine C0.out.mono ?_;rintro e w1 ⟨rfl,L1,k1⟩;have R1:=R0.kp k1;have S1:=S0.kp k1 (by omega);have C1:=hide (Vs (w.heap.size+1+1) ao xs.length ca s xs w1 L1 R1);go_wp2_with fail
 refine C1.out.mono ?_;rintro e w2 ⟨u,rfl,o2,k2⟩;have S2:=S1.kp k2 (by omega);have K:=((k1).trans k2)
 have zK:=K.size;have MC:=o2.lt;have zz:=(k1).size;obtain⟨ua,uc,hu⟩:=o2.form;have O:=hide o2;clear o2;subst hu;have y0:=S2.cell 0 rfl;have y1:=S2.cell 1 rfl;have f0:=S2.frozen 0;have f1:=S2.frozen 1;clear C0 C1 HW R0 R00 R1 L0 L1 S0 S1 S2 ha hr2;go_wp2;refine bodyPost_ret (v:= .tuple #[dv (.slice ua xs.length uc) s,.bool false]) (by simp[results,Tryz.results160,go_sem,y0,y1]) rfl ?_;have Q:Kp w2 ((w2.setCell ⟨w.heap.size+1,0,none⟩ (.slice ua xs.length uc)).setCell ⟨w.heap.size+1,1,none⟩ (.int .i64 s)) (fun k=>k=w.heap.size+1):=(AJ _ _ _ _).trans (AJ _ _ _ _);exact⟨_,rfl,(O.out.kp Q (fun k hk=>by have:=MC k hk;omega)).mono (by omega),Below.kp (Below.kp b0 K b0.size (fun k hk=>by omega)) Q (by omega) (fun k hk=>by omega)⟩
end
end Go.Proofs.YtcjmcgolgbkknaaGreatDoor
