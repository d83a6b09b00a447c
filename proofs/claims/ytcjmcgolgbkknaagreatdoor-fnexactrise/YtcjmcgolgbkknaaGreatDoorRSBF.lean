/- Lemmas; their conditions stand in each statement. -/
import Derived.Test.YtcjmcgolgbkknaaGreatDoorRSAR
import Derived.Test.YtcjmcgolgbkknaaGreatDoorRSBE
set_option maxRecDepth 100000
set_option maxHeartbeats 16000000
set_option linter.unusedSectionVars false
set_option linter.unusedSimpArgs false
namespace Go.Proofs.YtcjmcgolgbkknaaGreatDoor
section
open Go Go.RowKit
variable [∀(a b c d:Int),Decidable (BD a b c d)] [∀(n f:Int),Decidable (A_ n f)] [∀(a b c d:Nat),Decidable (Dg a b c d)] [∀(x:T4),Decidable (Dt x)] [∀(last:Int)(s:St),Decidable (Ak last s)]
structure RZ(t:Cu):Prop where
 s:t.s.size≤281474976710656
 d:t.d.size≤281474976710656
 tt:∀p ∈ t.tab,p.2.1.size≤281474976710656
 hh:∀j,j<t.held.length→MZ (t.held.getD j AQ).2
theorem Rf(t:Cu)(ao bo co od oe:Option Addr)(ca cb cc cd ce:Nat)(w:World)(hm:Mw t)(hz:RZ t)(h:FK w t (.slice ao t.qw.length ca) (.slice bo t.pool.length cb) (.slice co t.tab.length cc) (.slice od t.Ad.length cd) (.slice oe t.held.length ce)):
 Calls Tryz.prog 40 #[I_ t (.slice ao t.qw.length ca) (.slice bo t.pool.length cb) (.slice co t.tab.length cc) (.slice od t.Ad.length cd) (.slice oe t.held.length ce)] w fun e w'=>∃a' b' c' d' e',e= .returned (I_ t a' b' c' d' e')∧EE w' w.heap.size w'.heap.size t a' b' c' d' e'∧Below w.heap.size w w':=by
 have T1:=hide fun w' h=>gQ t.vo t.lo t.n t.s ao ca t.qw t.d w' hz.s hz.d h;have T2:=hide fun w' h=>kJ od cd t.su t.Ad w' (by have:=hm.d;omega) h;have T3:=hide fun v w' h=>Qh v t.tab w' (by have:=hm.tb;omega) hz.tt h;have wV:=hide fun v w' h=>Qi v t.held w' hm.h hz.hh h;have HR:=hide h;have hpl:=hm.p;clear h hm hz;obtain⟨w0,hw0,AP,P,O,De⟩:=Gf w #[.int .i64 t.id,.int .i64 t.vw,.int .i64 t.ak,.int .i64 t.vo,.int .i64 t.lo,.int .i64 t.n,.string t.s,.slice ao t.qw.length ca,.string t.d,.slice bo t.pool.length cb,.slice co t.tab.length cc,.slice od t.Ad.length cd,.int .i64 t.su,.slice oe t.held.length ce] 46 #[.int .i64 0,.int .i64 0,.int .i64 0,.int .i64 0,.int .i64 0,.int .i64 0,.string ⟨#[]⟩,.slice none 0 0,.string ⟨#[]⟩,.slice none 0 0,.slice none 0 0,.slice none 0 0,.int .i64 0,.slice none 0 0] 46;go_enter Tryz.func40,Tryz.ntmps40
 have K:=kw (kL P);go_upto_region 1 with fail
 clear hw0;have bA:Below w0.heap.size w0 w0.drew:=Below.drew (Below.refl _ _);refine wp_region_noPanic ?_;refine KD (S:=fun w'=>Below w0.heap.size w0 w'∧Loc w' (w.heap.size) #[.int .i64 t.id,.int .i64 t.vw,.int .i64 t.ak,.int .i64 t.vo,.int .i64 t.lo,.int .i64 t.n,.string t.s,.slice ao t.qw.length ca,.string t.d,.slice bo t.pool.length cb,.slice co t.tab.length cc,.slice od t.Ad.length cd,.int .i64 t.su,.slice oe t.held.length ce]) (fun j=>j==7||j==9) (by kernel_rfl) ?_;obtain⟨mM,hwd⟩:∃y,w0.drew=y:=⟨_,rfl⟩
 rw[hwd]at bA⊢;clear hwd;have bb:=bA;have Ic:=bu AP bb;have r_:=bb.size;replace P:=P.up bb;replace O:=O.up bb;clear AP bb;refine Bn (i:=0) (d:=3) (v:=?_) rfl rfl (by kernel_rfl) (by kernel_rfl) (by kernel_rfl) (fun _ _ _ h=>h) (Or.inl ⟨by rfl,?_⟩) ?_
 rotate_left
 ·intro w hSw
  try dsimp only at hSw
  go_simp
  try with_reducible rfl
 simp only[Act.put,List.setIfInBounds_toArray,List.set_cons_zero,List.set_cons_succ];refine Bn (i:=3) (d:=6) (v:=?_) rfl rfl (by kernel_rfl) (by kernel_rfl) (by kernel_rfl) (fun _ _ _ h=>h) (Or.inl ⟨by rfl,?_⟩) ?_
 rotate_left
 ·intro w hSw
  try dsimp only at hSw
  go_simp
  try with_reducible rfl
 simp only[Act.put,List.setIfInBounds_toArray,List.set_cons_zero,List.set_cons_succ];refine FC (i:=1) (d:=4) (v:= .agg #[.int .i64 t.vo,.int .i64 t.lo,.int .i64 t.n,.string t.s,.slice ao t.qw.length ca,.string t.d]) rfl rfl (by kernel_rfl) (by kernel_rfl) (by kernel_rfl) (by kernel_rfl) (fun _ _ _ h=>h) ?_ (K.out _ bA) ?_
 ·exact Be rfl 40 _ rfl rfl [.int .i64 t.vo,.int .i64 t.lo,.int .i64 t.n,.string t.s,.slice ao t.qw.length ca,.string t.d] _ (fun w h=>(h.2).range 3 6 rfl) Tryz.underlying40 rfl (by kernel_rfl)
 simp only[Act.put,List.setIfInBounds_toArray,List.set_cons_zero,List.set_cons_succ];refine FC (i:=4) (d:=7) (v:= .agg #[.slice od t.Ad.length cd,.int .i64 t.su]) rfl rfl (by kernel_rfl) (by kernel_rfl) (by kernel_rfl) (by kernel_rfl) (fun _ _ _ h=>h) ?_ (K.out _ bA) ?_
 ·exact Be rfl 43 _ rfl rfl [.slice od t.Ad.length cd,.int .i64 t.su] _ (fun w h=>(h.2).range 11 2 rfl) Tryz.underlying43 rfl (by kernel_rfl)
 simp only[Act.put,List.setIfInBounds_toArray,List.set_cons_zero,List.set_cons_succ];refine BL (i:=2) rfl (by kernel_rfl) (fun KK AA=>?_);go_simp;refine(T1.out _ (HR.out.q.below Ic)).mono ?_;rintro e w1 ⟨u,rfl,oA,bb⟩;have Ai:Below w0.heap.size w0 w1:=bu bA bb;refine AA.out _ _ (fun _ _=>K.out _ Ai) ?_;clear AA KK bA;have AU:=bu Ic bb;have DU:=bb.size;replace P:=P.up bb;replace O:=O.up bb;clear Ic bb;have toA:=World.ownsRow.lt oA;obtain⟨ED,D8,rfl⟩:=oA.form;refine Bn (i:=6) (d:=9) (v:=?_) rfl rfl (by kernel_rfl) (by kernel_rfl) (by kernel_rfl) (fun _ _ _ h=>h) (Or.inl ⟨by rfl,?_⟩) ?_
 rotate_left
 ·intro w hSw
  try dsimp only at hSw
  go_simp
  try with_reducible rfl
 simp only[Act.put,List.setIfInBounds_toArray,List.set_cons_zero,List.set_cons_succ];refine BL (i:=5) rfl (by kernel_rfl) (fun KK AA=>?_);go_simp;refine(T2.out _ (HR.out.d.below AU)).mono ?_;rintro e w2 ⟨u,rfl,oD,bb⟩;have Bi:Below w0.heap.size w0 w2:=bu Ai bb;refine AA.out _ _ (fun _ _=>K.out _ Bi) ?_;clear AA KK Ai;have Al:=bu AU bb;have FM:=bb.size;replace P:=P.up bb;replace O:=O.up bb;replace oA:=oA.below bb;clear AU bb;have NP:=World.ownsRow.lt oD;obtain⟨Il,Ii,rfl⟩:=oD.form;refine BL (i:=7) rfl (by kernel_rfl) (fun KK AA=>?_);rw[if_pos (by rfl)];refine wp_store_mid 40 (.tmp 9) (.tmp 5) rfl (w.heap.size) 3 #[.int .i64 t.vo,.int .i64 t.lo,.int .i64 t.n,.string t.s,.slice ED t.qw.length D8,.string t.d] rfl rfl (P.there 3 6 (by simp)) (by kernel_rfl) (by simp[Value.oneCell']) ?_;refine AA.out _ _ (fun h=>absurd h (by decide)) ?_;clear AA KK;obtain⟨w3,hw3⟩:∃y,w2.setCells (w.heap.size) 3 [.int .i64 t.vo,.int .i64 t.lo,.int .i64 t.n,.string t.s,.slice ED t.qw.length D8,.string t.d]=y:=⟨_,rfl⟩
 rw[hw3];have kN:Kp w2 w3 (fun k=>k=w.heap.size):=hw3▸AY _ _ _ _;replace P:Loc w3 (w.heap.size) #[.int .i64 t.id,.int .i64 t.vw,.int .i64 t.ak,.int .i64 t.vo,.int .i64 t.lo,.int .i64 t.n,.string t.s,.slice ED t.qw.length D8,.string t.d,.slice bo t.pool.length cb,.slice co t.tab.length cc,.slice od t.Ad.length cd,.int .i64 t.su,.slice oe t.held.length ce]:=hw3▸P.setCells _ _ rfl;replace O:=O.kp kN (by omega);replace oA:=oA.kp kN (fun j hj e=>by have:=toA j hj;omega);replace oD:=oD.kp kN (fun j hj e=>by have:=NP j hj;omega);have Bg:=Below.kp Al kN Al.size (fun k hk=>by omega);have I9:=kN.size;clear hw3 kN Al;refine Bn (i:=8) (d:=10) (v:=?_) rfl rfl (by kernel_rfl) (by kernel_rfl) (by kernel_rfl) (fun _ _ _ h=>h) (Or.inl ⟨by rfl,?_⟩) ?_
 rotate_left
 ·intro w hSw
  try dsimp only at hSw
  go_simp
  try with_reducible rfl
 simp only[Act.put,List.setIfInBounds_toArray,List.set_cons_zero,List.set_cons_succ];refine BL (i:=9) rfl (by kernel_rfl) (fun KK AA=>?_);rw[if_pos (by rfl)];refine wp_store_mid 43 (.tmp 10) (.tmp 8) rfl (w.heap.size) 11 #[.slice Il t.Ad.length Ii,.int .i64 t.su] rfl rfl (P.there 11 2 (by simp)) (by kernel_rfl) (by simp[Value.oneCell']) ?_;refine AA.out _ _ (fun h=>absurd h (by decide)) ?_;clear AA KK;obtain⟨w4,hw4⟩:∃y,w3.setCells (w.heap.size) 11 [.slice Il t.Ad.length Ii,.int .i64 t.su]=y:=⟨_,rfl⟩
 rw[hw4];have kN:Kp w3 w4 (fun k=>k=w.heap.size):=hw4▸AY _ _ _ _;replace P:Loc w4 (w.heap.size) #[.int .i64 t.id,.int .i64 t.vw,.int .i64 t.ak,.int .i64 t.vo,.int .i64 t.lo,.int .i64 t.n,.string t.s,.slice ED t.qw.length D8,.string t.d,.slice bo t.pool.length cb,.slice co t.tab.length cc,.slice Il t.Ad.length Ii,.int .i64 t.su,.slice oe t.held.length ce]:=hw4▸P.setCells _ _ rfl;replace O:=O.kp kN (by omega);replace oA:=oA.kp kN (fun j hj e=>by have:=toA j hj;omega);replace oD:=oD.kp kN (fun j hj e=>by have:=NP j hj;omega);have DN:=Below.kp Bg kN Bg.size (fun k hk=>by omega);have Qj:=kN.size;clear hw4 kN Bg;refine Lv (by kernel_rfl) ?_ _;refine NoPanic.normal ?_;clear K Bi;have K:=kw (kL P);go_upto_region 2 with fail
 have bA:Below w4.heap.size w4 w4.drew:=Below.drew (Below.refl _ _);refine wp_region_noPanic ?_;refine KD (S:=fun w'=>Below w4.heap.size w4 w'∧Loc w' (w.heap.size) #[.int .i64 t.id,.int .i64 t.vw,.int .i64 t.ak,.int .i64 t.vo,.int .i64 t.lo,.int .i64 t.n,.string t.s,.slice ED t.qw.length D8,.string t.d,.slice bo t.pool.length cb,.slice co t.tab.length cc,.slice Il t.Ad.length Ii,.int .i64 t.su,.slice oe t.held.length ce]) (fun j=>j==10||j==12||j==14) (by kernel_rfl) ?_;obtain⟨wd2,hwd⟩:∃y,w4.drew=y:=⟨_,rfl⟩
 rw[hwd]at bA⊢;clear hwd;have bb:=bA;have dD:=bu DN bb;have AC7:=bb.size;replace P:=P.up bb;replace O:=O.up bb;replace oA:=oA.below bb;replace oD:=oD.below bb;clear DN bb;refine Bn (i:=0) (d:=11) (v:=?_) rfl rfl (by kernel_rfl) (by kernel_rfl) (by kernel_rfl) (fun _ _ _ h=>h) (Or.inl ⟨by rfl,?_⟩) ?_
 rotate_left
 ·intro w hSw
  try dsimp only at hSw
  go_simp
  try with_reducible rfl
 simp only[Act.put,List.setIfInBounds_toArray,List.set_cons_zero,List.set_cons_succ];refine Bn (i:=3) (d:=14) (v:=?_) rfl rfl (by kernel_rfl) (by kernel_rfl) (by kernel_rfl) (fun _ _ _ h=>h) (Or.inl ⟨by rfl,?_⟩) ?_
 rotate_left
 ·intro w hSw
  try dsimp only at hSw
  go_simp
  try with_reducible rfl
 simp only[Act.put,List.setIfInBounds_toArray,List.set_cons_zero,List.set_cons_succ];refine Bn (i:=6) (d:=17) (v:=?_) rfl rfl (by kernel_rfl) (by kernel_rfl) (by kernel_rfl) (fun _ _ _ h=>h) (Or.inl ⟨by rfl,?_⟩) ?_
 rotate_left
 ·intro w hSw
  try dsimp only at hSw
  go_simp
  try with_reducible rfl
 simp only[Act.put,List.setIfInBounds_toArray,List.set_cons_zero,List.set_cons_succ];refine FC (i:=1) (d:=12) (v:=?_) rfl rfl (by kernel_rfl) (by kernel_rfl) (by kernel_rfl) (by kernel_rfl) (fun _ _ _ h=>h) (Or.inl ⟨by rfl,?_⟩) (K.out _ bA) ?_
 rotate_left
 ·intro w hSw
  try dsimp only at hSw
  have h:=hSw;have hc9:=(h.2).cell 9 rfl;clear h hSw;go_simp
  try with_reducible rfl
 simp only[Act.put,List.setIfInBounds_toArray,List.set_cons_zero,List.set_cons_succ];refine FC (i:=4) (d:=15) (v:=?_) rfl rfl (by kernel_rfl) (by kernel_rfl) (by kernel_rfl) (by kernel_rfl) (fun _ _ _ h=>h) (Or.inl ⟨by rfl,?_⟩) (K.out _ bA) ?_
 rotate_left
 ·intro w hSw
  try dsimp only at hSw
  have h:=hSw;have ADQ:=(h.2).cell 10 rfl;clear h hSw;go_simp
  try with_reducible rfl
 simp only[Act.put,List.setIfInBounds_toArray,List.set_cons_zero,List.set_cons_succ];refine FC (i:=7) (d:=18) (v:=?_) rfl rfl (by kernel_rfl) (by kernel_rfl) (by kernel_rfl) (by kernel_rfl) (fun _ _ _ h=>h) (Or.inl ⟨by rfl,?_⟩) (K.out _ bA) ?_
 rotate_left
 ·intro w hSw
  try dsimp only at hSw
  have h:=hSw;have ADP:=(h.2).cell 13 rfl;clear h hSw;go_simp
  try with_reducible rfl
 simp only[Act.put,List.setIfInBounds_toArray,List.set_cons_zero,List.set_cons_succ];refine BL (i:=2) rfl (by kernel_rfl) (fun KK AA=>?_);refine FY rfl (.const (.slice none 0 0)) (.tmp 12) rfl w4.heap.size (.slice none 0 0) (.slice bo t.pool.length cb) [] (t.pool) rfl rfl (World.ownsRow_nil _ _ _ _) ((RT.below HR.out.p dD).pt) (by simp;omega) bA.size ?_;intro u w5 oB g7 _;have bb:Below wd2.heap.size wd2 w5:=(Below.refl _ _).grown g7 Ae (fun j hj=>by simp[Value.ownBlock]at hj);rw[List.nil_append]at oB;have Ai:Below w4.heap.size w4 w5:=bu bA bb;refine AA.out _ _ (fun _ _=>K.out _ Ai) ?_;clear AA KK g7 bA;simp only[Act.put,List.setIfInBounds_toArray,List.set_cons_zero,List.set_cons_succ];have F5:=bu dD bb;have gP:=bb.size;replace P:=P.up bb;replace O:=O.up bb;replace oA:=oA.below bb;replace oD:=oD.below bb;clear dD bb;obtain⟨Fg,Fe,rfl⟩:=OT.DD oB;have Bj:=World.ownsRow.lt oB;refine Bn (i:=9) (d:=20) (v:=?_) rfl rfl (by kernel_rfl) (by kernel_rfl) (by kernel_rfl) (fun _ _ _ h=>h) (Or.inl ⟨by rfl,?_⟩) ?_
 rotate_left
 ·intro w hSw
  try dsimp only at hSw
  go_simp
  try with_reducible rfl
 simp only[Act.put,List.setIfInBounds_toArray,List.set_cons_zero,List.set_cons_succ];refine BL (i:=5) rfl (by kernel_rfl) (fun KK AA=>?_);go_simp;refine(T3.out _ _ (HR.out.tb.below F5)).mono ?_;rintro e w6 ⟨u,rfl,oC,bb⟩;have Bi:Below w4.heap.size w4 w6:=bu Ai bb;refine AA.out _ _ (fun _ _=>K.out _ Bi) ?_;clear AA KK Ai;have JX:=bu F5 bb;have vV:=bb.size;replace P:=P.up bb;replace O:=O.up bb;replace oA:=oA.below bb;replace oD:=oD.below bb;replace oB:=oB.below bb;clear F5 bb;obtain⟨zF,oC⟩:=oC;obtain⟨GZ,GX,rfl⟩:=MV.form ⟨zF,oC⟩;obtain⟨m1,hm1⟩:∃m,w6.heap.size=m:=⟨_,rfl⟩
 have oC:=Da.opr oC;rw[hm1]at oC;have hm2:=Nat.le_of_eq hm1;have hm3:=Nat.le_of_eq hm1.symm;clear hm1;refine BL (i:=8) rfl (by kernel_rfl) (fun KK AA=>?_);go_simp;refine(wV.out _ _ (HR.out.h.below JX)).mono ?_;rintro e w7 ⟨u,rfl,oE,bb⟩;have GY:Below w4.heap.size w4 w7:=bu Bi bb;refine AA.out _ _ (fun _ _=>K.out _ GY) ?_;clear AA KK Bi;have Nt:=bu JX bb;have sw7:=bb.size;replace P:=P.up bb;replace O:=O.up bb;replace oA:=oA.below bb;replace oD:=oD.below bb;replace oB:=oB.below bb;clear JX;replace oC:=oC.below bb;clear bb;obtain⟨NH,M_,rfl⟩:=oE.form;obtain⟨m5,hm5⟩:∃m,w7.heap.size=m:=⟨_,rfl⟩
 rw[hm5]at oE;have hm6:=Nat.le_of_eq hm5;have hm7:=Nat.le_of_eq hm5.symm;clear hm5;refine BL (i:=10) rfl (by kernel_rfl) (fun KK AA=>?_);have q0:=P.cell 9 rfl;have FG:=P.frozen;go_simp;refine AA.out _ _ (fun h=>absurd h (by decide)) ?_;clear AA KK q0 FG;obtain⟨w8,hw8⟩:∃y,w7.setCell ⟨w.heap.size,9,none⟩ (.slice Fg t.pool.length Fe)=y:=⟨_,rfl⟩
 rw[hw8];have kN:Kp w7 w8 (fun k=>k=w.heap.size):=hw8▸AB _ _ _ _;replace P:Loc w8 (w.heap.size) #[.int .i64 t.id,.int .i64 t.vw,.int .i64 t.ak,.int .i64 t.vo,.int .i64 t.lo,.int .i64 t.n,.string t.s,.slice ED t.qw.length D8,.string t.d,.slice Fg t.pool.length Fe,.slice co t.tab.length cc,.slice Il t.Ad.length Ii,.int .i64 t.su,.slice oe t.held.length ce]:=hw8▸P.set 9 _ rfl;replace O:=O.kp kN (by omega);replace oA:=oA.kp kN (fun j hj e=>by have:=toA j hj;omega);replace oD:=oD.kp kN (fun j hj e=>by have:=NP j hj;omega);replace oB:=oB.kp kN (fun j hj e=>by have:=Bj j hj;omega);replace oC:=oC.kp kN (fun j h1 h2 e=>by omega);replace oE:=oE.kp kN (fun j h1 h2 e=>by omega);have Q8:=Below.kp Nt kN Nt.size (fun k hk=>by omega);have sw8:=kN.size;clear hw8 kN Nt;refine Bn (i:=11) (d:=21) (v:=?_) rfl rfl (by kernel_rfl) (by kernel_rfl) (by kernel_rfl) (fun _ _ _ h=>h) (Or.inl ⟨by rfl,?_⟩) ?_
 rotate_left
 ·intro w hSw
  try dsimp only at hSw
  go_simp
  try with_reducible rfl
 simp only[Act.put,List.setIfInBounds_toArray,List.set_cons_zero,List.set_cons_succ];refine BL (i:=12) rfl (by kernel_rfl) (fun KK AA=>?_);have q0:=P.cell 10 rfl;have FG:=P.frozen;go_simp;refine AA.out _ _ (fun h=>absurd h (by decide)) ?_;clear AA KK q0 FG;obtain⟨w9,SC⟩:∃y,w8.setCell ⟨w.heap.size,10,none⟩ (.slice GZ t.tab.length GX)=y:=⟨_,rfl⟩
 rw[SC];have kN:Kp w8 w9 (fun k=>k=w.heap.size):=SC▸AB _ _ _ _;replace P:Loc w9 (w.heap.size) #[.int .i64 t.id,.int .i64 t.vw,.int .i64 t.ak,.int .i64 t.vo,.int .i64 t.lo,.int .i64 t.n,.string t.s,.slice ED t.qw.length D8,.string t.d,.slice Fg t.pool.length Fe,.slice GZ t.tab.length GX,.slice Il t.Ad.length Ii,.int .i64 t.su,.slice oe t.held.length ce]:=SC▸P.set 10 _ rfl;replace O:=O.kp kN (by omega);replace oA:=oA.kp kN (fun j hj e=>by have:=toA j hj;omega);replace oD:=oD.kp kN (fun j hj e=>by have:=NP j hj;omega);replace oB:=oB.kp kN (fun j hj e=>by have:=Bj j hj;omega);replace oC:=oC.kp kN (fun j h1 h2 e=>by omega);replace oE:=oE.kp kN (fun j h1 h2 e=>by omega);have lM:=Below.kp Q8 kN Q8.size (fun k hk=>by omega);have sw9:=kN.size;clear SC kN Q8;refine Bn (i:=13) (d:=22) (v:=?_) rfl rfl (by kernel_rfl) (by kernel_rfl) (by kernel_rfl) (fun _ _ _ h=>h) (Or.inl ⟨by rfl,?_⟩) ?_
 rotate_left
 ·intro w hSw
  try dsimp only at hSw
  go_simp
  try with_reducible rfl
 simp only[Act.put,List.setIfInBounds_toArray,List.set_cons_zero,List.set_cons_succ];refine BL (i:=14) rfl (by kernel_rfl) (fun KK AA=>?_);have q0:=P.cell 13 rfl;have FG:=P.frozen;go_simp;refine AA.out _ _ (fun h=>absurd h (by decide)) ?_;clear AA KK q0 FG;obtain⟨F3,tq⟩:∃y,w9.setCell ⟨w.heap.size,13,none⟩ (.slice NH t.held.length M_)=y:=⟨_,rfl⟩
 rw[tq];have kN:Kp w9 F3 (fun k=>k=w.heap.size):=tq▸AB _ _ _ _;replace P:Loc F3 (w.heap.size) #[.int .i64 t.id,.int .i64 t.vw,.int .i64 t.ak,.int .i64 t.vo,.int .i64 t.lo,.int .i64 t.n,.string t.s,.slice ED t.qw.length D8,.string t.d,.slice Fg t.pool.length Fe,.slice GZ t.tab.length GX,.slice Il t.Ad.length Ii,.int .i64 t.su,.slice NH t.held.length M_]:=tq▸P.set 13 _ rfl;replace O:=O.kp kN (by omega);replace oA:=oA.kp kN (fun j hj e=>by have:=toA j hj;omega);replace oD:=oD.kp kN (fun j hj e=>by have:=NP j hj;omega);replace oB:=oB.kp kN (fun j hj e=>by have:=Bj j hj;omega);replace oC:=oC.kp kN (fun j h1 h2 e=>by omega);replace oE:=oE.kp kN (fun j h1 h2 e=>by omega);have Gz:=Below.kp lM kN lM.size (fun k hk=>by omega);have xQ:=kN.size;clear tq kN lM;refine Lv (by kernel_rfl) ?_ _;refine NoPanic.normal ?_;clear K GY;go_wp2_with (first|(refine BA P 46 _ rfl _ rfl rfl Tryz.underlying46 rfl (by kernel_rfl) ?_)|(refine Cb O 46 #[.int .i64 t.id,.int .i64 t.vw,.int .i64 t.ak,.int .i64 t.vo,.int .i64 t.lo,.int .i64 t.n,.string t.s,.slice ED t.qw.length D8,.string t.d,.slice Fg t.pool.length Fe,.slice GZ t.tab.length GX,.slice Il t.Ad.length Ii,.int .i64 t.su,.slice NH t.held.length M_] rfl _ _ rfl rfl rfl (by kernel_rfl) rfl (by simp[Value.oneCell']) ?_))
 obtain⟨wE,Db⟩:∃D5,F3.setRow (w.heap.size+1) #[.int .i64 t.id,.int .i64 t.vw,.int .i64 t.ak,.int .i64 t.vo,.int .i64 t.lo,.int .i64 t.n,.string t.s,.slice ED t.qw.length D8,.string t.d,.slice Fg t.pool.length Fe,.slice GZ t.tab.length GX,.slice Il t.Ad.length Ii,.int .i64 t.su,.slice NH t.held.length M_]=D5:=⟨_,rfl⟩
 have kN:Kp F3 wE (fun k=>k=w.heap.size+1):=Db▸Dv _ _ _;replace O:Loc wE (w.heap.size+1) #[.int .i64 t.id,.int .i64 t.vw,.int .i64 t.ak,.int .i64 t.vo,.int .i64 t.lo,.int .i64 t.n,.string t.s,.slice ED t.qw.length D8,.string t.d,.slice Fg t.pool.length Fe,.slice GZ t.tab.length GX,.slice Il t.Ad.length Ii,.int .i64 t.su,.slice NH t.held.length M_]:=Db▸O.row;replace P:=P.kp kN (by omega);replace oA:=oA.kp kN (fun j hj e=>by have:=toA j hj;omega);replace oD:=oD.kp kN (fun j hj e=>by have:=NP j hj;omega);replace oB:=oB.kp kN (fun j hj e=>by have:=Bj j hj;omega);replace oC:=oC.kp kN (fun j h1 h2 e=>by omega);replace oE:=oE.kp kN (fun j h1 h2 e=>by omega);have Lc:=Below.kp Gz kN Gz.size (fun k hk=>by omega);have dV:=kN.size;rw[Db];clear Db kN Gz;refine bodyPost_ret (v:=I_ t (.slice ED t.qw.length D8) (.slice Fg t.pool.length Fe) (.slice GZ t.tab.length GX) (.slice Il t.Ad.length Ii) (.slice NH t.held.length M_)) (CG Tryz.results40 _ O rfl Tryz.underlying46 rfl (by kernel_rfl)) rfl ?_;exact⟨_,_,_,_,_,rfl,⟨w1.heap.size,w4.heap.size,w5.heap.size,m1,w1.heap.size,w2.heap.size,w6.heap.size,zF,by omega,⟨oA.mono (by omega),fun j hj=>(toA j hj).2⟩,⟨oB,fun j hj=>(Bj j hj).2⟩,oC,⟨oD.mono (by omega),fun j hj=>(NP j hj).2⟩,oE.mono (by omega) (by omega)⟩,Lc⟩
end
section
open Go.RowKit Go.Extern
abbrev Wt(n:Int):Value:= .iface 227 (.agg #[.int .i64 n])
def JW(w:World):Prop:=w.cell? ⟨0,0,none⟩=some (.iface 304 (.agg #[.pointer (some ⟨8,195,none⟩)]))
theorem JW.below{w w':World}(h:JW w)(hb:Below w.heap.size w w'):JW w':=(hb.cell (AL h)).trans h
theorem JW.kp{w w':World}{X:Nat→Prop}(h:JW w)(k:Kp w w' X)(hx:¬X 0):JW w':=k.cell h hx

theorem ym(t:Value)(w:World):
 Calls Tryz.prog 192 #[.nilIface,t] w fun e w'=>e= .returned (.bool false)∧w'=w:=by
 go_enter Tryz.func192,Tryz.ntmps192
 go_wp2;go_ret;exact⟨rfl,rfl⟩

theorem Tryz.valueOfP(t:Addr)(w:World):(ReflectliteValue.unpack (.iface 229 (.pointer (some t)))).run Tryz.prog w
 = .ok (.agg #[.pointer (some ⟨8,229,none⟩),.pointer (some ⟨w.heap.size,0,none⟩),.int .u64 150]) (w.alloc (.cells #[.pointer (some t)] 229)):=by kernel_rfl
theorem Tryz.typeP (a : Addr) (w : World) : (ReflectliteValue.methodAny (ReflectliteValue.valueError "reflectlite.Value.Type" 0) (fun t _ _ _ => ReflectliteType.toType t) #[.agg #[.pointer (some ⟨8, 229, none⟩), .pointer (some a), .int .u64 150]]).run Tryz.prog w
 = .ok (.iface 304 (.agg #[.pointer (some ⟨8,229,none⟩)])) w:=by kernel_rfl
theorem Tryz.methodKind (h : Value) (w : World) : (Go.method 520 304 (.agg #[h]) "Kind").run Tryz.prog w = .ok (342, h) w := by kernel_rfl
theorem Tryz.kindP(w:World):((ReflectliteType.abiMethod fun t=>(fun a:Nat=>Value.int IntKind.u8 (a:Int)) <$> Rtype.kind t) #[.pointer (some ⟨8,229,none⟩)]).run Tryz.prog w= .ok (.int .u8 22) w:=by kernel_rfl
theorem Tryz.kindL(w:World):((ReflectliteType.abiMethod fun t=>(fun a:Nat=>Value.int IntKind.u8 (a:Int)) <$> Rtype.kind t) #[.pointer (some ⟨8,227,none⟩)]).run Tryz.prog w= .ok (.int .u8 25) w:=by kernel_rfl
theorem Tryz.partsP(a:Addr)(w:World):(ReflectliteValue.parts (.agg #[.pointer (some ⟨8,229,none⟩),.pointer (some a),.int .u64 150])).run Tryz.prog w= .ok (some (229,a,150)) w:=by kernel_rfl
theorem Tryz.isNilP(a p:Addr)(W:World)(ha:W.cell? a=some (.pointer (some p))):
 (ReflectliteValue.method (ReflectliteValue.valueError "reflectlite.Value.IsNil" 0) ReflectliteValue.isNil #[.agg #[.pointer (some ⟨8, 229, none⟩), .pointer (some a), .int .u64 150]]).run Tryz.prog W = .ok (.bool false) W := by
 have h1:=Tryz.partsP a W;have h2:=Tryz.underlying229;generalize Tryz.prog=P at *;generalize (.agg #[.pointer (some ⟨8,229,none⟩),.pointer (some a),.int .u64 150]:Value)=v at *
 conv=>lhs;arg 2;whnf
 change Sem.run P (ReflectliteValue.parts v >>= _) W=_;simp only[Sem.run_bind,h1];simp only[Result.andThen];simp[ReflectliteValue.isNil,loadVar,isAgg,underlying,h2,ha,Result.andThen]
theorem Tryz.methodElem (h : Value) (w : World) : (Go.method 520 304 (.agg #[h]) "Elem").run Tryz.prog w = .ok (373, .agg #[h]) w := by kernel_rfl
theorem Tryz.methodImplements (h : Value) (w : World) : (Go.method 520 304 (.agg #[h]) "Implements").run Tryz.prog w = .ok (374, .agg #[h]) w := by kernel_rfl
theorem Tryz.methodAssignableTo (h : Value) (w : World) : (Go.method 520 304 (.agg #[h]) "AssignableTo").run Tryz.prog w = .ok (371, .agg #[h]) w := by kernel_rfl
theorem Tryz.elemP(w:World):(ReflectliteType.method ReflectliteType.elem #[.agg #[.pointer (some ⟨8,229,none⟩)]]).run Tryz.prog w= .ok (.iface 304 (.agg #[.pointer (some ⟨8,227,none⟩)])) w:=by kernel_rfl
theorem Tryz.implementsL (w : World) : (ReflectliteType.relation "Implements" ReflectliteType.implements_ #[.agg #[.pointer (some ⟨8, 227, none⟩)], .iface 304 (.agg #[.pointer (some ⟨8, 195, none⟩)])]).run Tryz.prog w = .ok (.bool true) w := by kernel_rfl
theorem Tryz.typeOfL(v:Value)(w:World):(ReflectliteType.typeOf #[.iface 227 v]).run Tryz.prog w= .ok (.iface 304 (.agg #[.pointer (some ⟨8,227,none⟩)])) w:=by kernel_rfl
theorem Tryz.assignableL (w : World) : (ReflectliteType.relation "AssignableTo" ReflectliteType.assignableTo #[.agg #[.pointer (some ⟨8, 227, none⟩)], .iface 304 (.agg #[.pointer (some ⟨8, 227, none⟩)])]).run Tryz.prog w = .ok (.bool true) w := by kernel_rfl
theorem Tryz.valueOfL(n:Int)(w:World):(ReflectliteValue.unpack (.iface 227 (.agg #[.int .i64 n]))).run Tryz.prog w
 = .ok (.agg #[.pointer (some ⟨8,227,none⟩),.pointer (some ⟨w.heap.size,0,none⟩),.int .u64 153]) (w.alloc (.cells #[.int .i64 n] 227)):=by kernel_rfl
theorem Tryz.elemOfP(w:World):(Rtype.elem? 229).run Tryz.prog w= .ok (some 227) w:=by kernel_rfl
theorem Tryz.mkL(p:Addr)(w:World):(ReflectliteValue.mk 227 p ReflectliteValue.flagAddr).run Tryz.prog w= .ok (.agg #[.pointer (some ⟨8,227,none⟩),.pointer (some p),.int .u64 409]) w:=by kernel_rfl
theorem Tryz.elemVP(a p:Addr)(W:World)(ha:W.cell? a=some (.pointer (some p))):
 (ReflectliteValue.method (ReflectliteValue.valueError "reflectlite.Value.Elem" 0) ReflectliteValue.elem #[.agg #[.pointer (some ⟨8, 229, none⟩), .pointer (some a), .int .u64 150]]).run Tryz.prog W
  = .ok (.agg #[.pointer (some ⟨8,227,none⟩),.pointer (some p),.int .u64 409]) W:=by
 have h1:=Tryz.partsP a W;have h2:=Tryz.underlying229;have h3:=Tryz.elemOfP;have h4:=Tryz.mkL;generalize Tryz.prog=P at *;generalize (.agg #[.pointer (some ⟨8,229,none⟩),.pointer (some a),.int .u64 150]:Value)=v at *
 conv=>lhs;arg 2;whnf
 change Sem.run P (ReflectliteValue.parts v >>= _) W=_;simp only[Sem.run_bind,h1,Result.andThen];simp[ReflectliteValue.elem,loadVar,isAgg,underlying,h2,ha,Result.andThen,h3,h4]
theorem Tryz.partsLa(a:Addr)(w:World):(ReflectliteValue.parts (.agg #[.pointer (some ⟨8,227,none⟩),.pointer (some a),.int .u64 409])).run Tryz.prog w= .ok (some (227,a,409)) w:=by kernel_rfl
theorem Tryz.partsL(a:Addr)(w:World):(ReflectliteValue.parts (.agg #[.pointer (some ⟨8,227,none⟩),.pointer (some a),.int .u64 153])).run Tryz.prog w= .ok (some (227,a,153)) w:=by kernel_rfl
theorem Tryz.directL(w:World):(Rtype.directlyAssignable 227 227).run Tryz.prog w= .ok true w:=by kernel_rfl
theorem Tryz.sizeL(w:World):(sizeOf 227).run Tryz.prog w= .ok 1 w:=by kernel_rfl
theorem Tryz.isAggL(w:World):(isAgg 227).run Tryz.prog w= .ok true w:=by kernel_rfl
theorem Tryz.setL(g b:Nat)(n:Int)(old:Value)(W:World)(hb:W.cell? ⟨b,0,none⟩=some (.int .i64 n))(ht:W.cell? ⟨g,0,none⟩=some old)(hf:W.frozen? ⟨g,0,none⟩=false):
 (ReflectliteValue.set #[.agg #[.pointer (some ⟨8,227,none⟩),.pointer (some ⟨g,0,none⟩),.int .u64 409],.agg #[.pointer (some ⟨8,227,none⟩),.pointer (some ⟨b,0,none⟩),.int .u64 153]]).run Tryz.prog W
  = .ok (.tuple #[]) (W.setCell ⟨g,0,none⟩ (.int .i64 n)):=by
 have h1:=Tryz.partsLa ⟨g,0,none⟩ W;have h2:=Tryz.partsL ⟨b,0,none⟩ W;have h3:=Tryz.isAggL;have h4:=Tryz.sizeL;have h5:=Tryz.directL;generalize Tryz.prog=P at *;generalize (.agg #[.pointer (some ⟨8,227,none⟩),.pointer (some ⟨g,0,none⟩),.int .u64 409]:Value)=v at *;generalize (.agg #[.pointer (some ⟨8,227,none⟩),.pointer (some ⟨b,0,none⟩),.int .u64 153]:Value)=x at *
 conv=>lhs;arg 2;whnf
 change Sem.run P (ReflectliteValue.parts v >>= _) W=_;have h2':Sem.run P (ReflectliteValue.parts (#[v,x].getLit 1 rfl (by simp))) W=_:=h2;simp only[Sem.run_bind,h1,h2',Result.andThen];simp[loadCells,loadCellsFrom,ReflectliteValue.flagAddr,loadVar,h3,h4,hb,Result.andThen,h5,storeVar,Value.cells,storeCells,Addr.add];rw[run_store P W ⟨g,0,none⟩ _ _ (by rfl)];simp[ht,hf]

theorem yn(n:Int)(g:Nat)(old:Value)(w:World)(hg:JW w)(hl:Loc w g #[old]):
 Calls Tryz.prog 192 #[Wt n,.iface 229 (.pointer (some ⟨g,0,none⟩))] w fun e w'=>e= .returned (.bool true)∧Loc w' g #[.int .i64 n]∧Kp w w' (fun k=>k=g):=by
 have h6:=@run_callFunc_extern Tryz.prog 220 _ (fun args=>ReflectliteValue.unpack (args.getD 0 (.tuple #[]))) Tryz.func220 (by kernel_rfl) (by kernel_rfl) (by kernel_rfl) (by kernel_rfl)
 have h7:=@run_callFunc_extern Tryz.prog 221 _ (ReflectliteValue.methodAny (ReflectliteValue.valueError "reflectlite.Value.Type" 0) (fun t _ _ _ => ReflectliteType.toType t)) Tryz.func221 (by kernel_rfl) (by kernel_rfl) (by kernel_rfl) (by kernel_rfl)
 have h8:=@run_callFunc_extern Tryz.prog 222 _ (ReflectliteValue.method (ReflectliteValue.valueError "reflectlite.Value.IsNil" 0) ReflectliteValue.isNil) Tryz.func222 (by kernel_rfl) (by kernel_rfl) (by kernel_rfl) (by kernel_rfl)
 have h27:=@run_callFunc_extern Tryz.prog 342 _ (ReflectliteType.abiMethod fun t=>do pure (.int .u8 (←Rtype.kind t))) Tryz.func342 (by kernel_rfl) (by kernel_rfl) (by kernel_rfl) (by kernel_rfl);have h37:=@run_callFunc_extern Tryz.prog 373 _ (ReflectliteType.method ReflectliteType.elem) Tryz.func373 (by kernel_rfl) (by kernel_rfl) (by kernel_rfl) (by kernel_rfl)
 have h38:=@run_callFunc_extern Tryz.prog 374 _ (ReflectliteType.relation "Implements" ReflectliteType.implements_) Tryz.func374 (by kernel_rfl) (by kernel_rfl) (by kernel_rfl) (by kernel_rfl)
 have h10:=@run_callFunc_extern Tryz.prog 245 _ ReflectliteType.typeOf Tryz.func245 (by kernel_rfl) (by kernel_rfl) (by kernel_rfl) (by kernel_rfl)
 have h35:=@run_callFunc_extern Tryz.prog 371 _ (ReflectliteType.relation "AssignableTo" ReflectliteType.assignableTo) Tryz.func371 (by kernel_rfl) (by kernel_rfl) (by kernel_rfl) (by kernel_rfl)
 have h11:=@run_callFunc_extern Tryz.prog 246 _ (ReflectliteValue.method (ReflectliteValue.valueError "reflectlite.Value.Elem" 0) ReflectliteValue.elem) Tryz.func246 (by kernel_rfl) (by kernel_rfl) (by kernel_rfl) (by kernel_rfl)
 have h12:=@run_callFunc_extern Tryz.prog 247 _ ReflectliteValue.set Tryz.func247 (by kernel_rfl) (by kernel_rfl) (by kernel_rfl) (by kernel_rfl);have tO:=Tryz.typeOfL;have mA:=Tryz.methodAssignableTo;have aL:=Tryz.assignableL;have vL:=Tryz.valueOfL;have f6:=Tryz.valueOfP;have f7:=Tryz.typeP;have mK:=Tryz.methodKind;have mE:=Tryz.methodElem;have mI:=Tryz.methodImplements;have kP:=Tryz.kindP;have kL:=Tryz.kindL;have eP:=Tryz.elemP;have iL:=Tryz.implementsL;have n8:=Tryz.isNilP ⟨w.heap.size,0,none⟩ ⟨g,0,none⟩ ((w.alloc (.cells #[.pointer (some ⟨g,0,none⟩)] 229)).alloc (.cells #[.pointer (some ⟨8,229,none⟩),.pointer (some ⟨w.heap.size,0,none⟩),.int .u64 150] 275)) (by simp);have L4:Loc ((((w.alloc (.cells #[.pointer (some ⟨g,0,none⟩)] 229)).alloc (.cells #[.pointer (some ⟨8,229,none⟩),.pointer (some ⟨w.heap.size,0,none⟩),.int .u64 150] 275)).alloc (.cells #[.pointer (some ⟨8,229,none⟩),.pointer (some ⟨w.heap.size,0,none⟩),.int .u64 150] 275)).alloc (.cells #[.int .i64 n] 227)) g #[old]:=(((hl.alloc _).alloc _).alloc _).alloc _;have hg2:((w.alloc (.cells #[.pointer (some ⟨g,0,none⟩)] 229)).alloc (.cells #[.pointer (some ⟨8,229,none⟩),.pointer (some ⟨w.heap.size,0,none⟩),.int .u64 150] 275)).cell? ⟨0,0,none⟩=some (.iface 304 (.agg #[.pointer (some ⟨8,195,none⟩)])):=(hg.below ((Below.refl _ _).alloc Ae _)).below ((Below.refl _ _).alloc Ae _);have el:=Tryz.elemVP ⟨w.heap.size,0,none⟩ ⟨g,0,none⟩ (((w.alloc (.cells #[.pointer (some ⟨g,0,none⟩)] 229)).alloc (.cells #[.pointer (some ⟨8,229,none⟩),.pointer (some ⟨w.heap.size,0,none⟩),.int .u64 150] 275)).alloc (.cells #[.pointer (some ⟨8,229,none⟩),.pointer (some ⟨w.heap.size,0,none⟩),.int .u64 150] 275)) (by rw[World.cell?_alloc_lt _ _ ⟨w.heap.size,0,none⟩ (by simp;omega)];simp);have st:=Tryz.setL g (w.heap.size+1+1+1) n old ((((w.alloc (.cells #[.pointer (some ⟨g,0,none⟩)] 229)).alloc (.cells #[.pointer (some ⟨8,229,none⟩),.pointer (some ⟨w.heap.size,0,none⟩),.int .u64 150] 275)).alloc (.cells #[.pointer (some ⟨8,229,none⟩),.pointer (some ⟨w.heap.size,0,none⟩),.int .u64 150] 275)).alloc (.cells #[.int .i64 n] 227)) (by rw[World.cell?_alloc_at _ _ _ _ (by simp)];rfl) (L4.cell 0 rfl) (L4.frozen 0);go_enter Tryz.func192,Tryz.ntmps192
 go_wp2;refine wp_loop_rounds 1 ?_;rw[rounds_succ];go_wp2;go_ret;have K4:Kp w ((((w.alloc (.cells #[.pointer (some ⟨g,0,none⟩)] 229)).alloc (.cells #[.pointer (some ⟨8,229,none⟩),.pointer (some ⟨w.heap.size,0,none⟩),.int .u64 150] 275)).alloc (.cells #[.pointer (some ⟨8,229,none⟩),.pointer (some ⟨w.heap.size,0,none⟩),.int .u64 150] 275)).alloc (.cells #[.int .i64 n] 227)) (fun k=>k=g):=Below.Bo (((((Below.refl _ _).alloc Ae _).alloc (by simp) _).alloc (by simp;omega) _).alloc (by simp;omega) _) _;exact⟨rfl,L4.set 0 _ rfl,K4.trans (AB _ _ _ _)⟩
end
end Go.Proofs.YtcjmcgolgbkknaaGreatDoor
