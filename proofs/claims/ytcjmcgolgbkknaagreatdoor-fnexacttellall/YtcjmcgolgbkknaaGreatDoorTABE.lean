/- Lemmas, as stated. -/
import Derived.Test.YtcjmcgolgbkknaaGreatDoorTAAR
import Derived.Test.YtcjmcgolgbkknaaGreatDoorTABD
set_option maxRecDepth 100000
set_option maxHeartbeats 16000000
set_option linter.unusedSectionVars false
set_option linter.unusedSimpArgs false
namespace Go.Proofs.YtcjmcgolgbkknaaGreatDoor
section
open Go Go.RowKit
variable [∀(a b c d:Int),Decidable (BG a b c d)] [∀(n f:Int),Decidable (A_ n f)] [∀(a b c d:Nat),Decidable (DZ a b c d)] [∀(x:T4),Decidable (Du x)] [∀(last:Int)(s:St),Decidable (Aq last s)]
structure RZ(t:Bt):Prop where
 s:t.s.size≤281474976710656
 d:t.d.size≤281474976710656
 tt:∀p ∈ t.tab,p.2.1.size≤281474976710656
 hh:∀j,j<t.held.length→MZ (t.held.getD j AL).2
theorem Qh(t:Bt)(ao bo co od oe:Option Addr)(ca cb cc cd ce:Nat)(w:World)(hm:I7 t)(hz:RZ t)(h:En w t (.slice ao t.qw.length ca) (.slice bo t.pool.length cb) (.slice co t.tab.length cc) (.slice od t.AU.length cd) (.slice oe t.held.length ce)):
 Calls Tryz.prog 40 #[Dz t (.slice ao t.qw.length ca) (.slice bo t.pool.length cb) (.slice co t.tab.length cc) (.slice od t.AU.length cd) (.slice oe t.held.length ce)] w fun e w'=>∃a' b' c' d' e',e= .returned (Dz t a' b' c' d' e')∧Dl w' w.heap.size w'.heap.size t a' b' c' d' e'∧Below w.heap.size w w':=by
 have T1:=hide fun w' h=>Z9 t.vo t.lo t.n t.s ao ca t.qw t.d w' hz.s hz.d h;have T2:=hide fun w' h=>eO od cd t.su t.AU w' (by have:=hm.d;omega) h;have T3:=hide fun v w' h=>P5 v t.tab w' (by have:=hm.tb;omega) hz.tt h;have jo:=hide fun v w' h=>P6 v t.held w' hm.h hz.hh h;have HR:=hide h;have hpl:=hm.p;clear h hm hz;obtain⟨w0,hw0,AO,P,O,DC⟩:=Gb w #[.int .i64 t.id,.int .i64 t.vw,.int .i64 t.ak,.int .i64 t.vo,.int .i64 t.lo,.int .i64 t.n,.string t.s,.slice ao t.qw.length ca,.string t.d,.slice bo t.pool.length cb,.slice co t.tab.length cc,.slice od t.AU.length cd,.int .i64 t.su,.slice oe t.held.length ce] 46 #[.int .i64 0,.int .i64 0,.int .i64 0,.int .i64 0,.int .i64 0,.int .i64 0,.string ⟨#[]⟩,.slice none 0 0,.string ⟨#[]⟩,.slice none 0 0,.slice none 0 0,.slice none 0 0,.int .i64 0,.slice none 0 0] 46;go_enter Tryz.func40,Tryz.ntmps40
 have K:=kw (kL P);go_upto_region 1 with fail
 clear hw0;have bA:Below w0.heap.size w0 w0.drew:=Below.drew (Below.refl _ _);refine wp_region_noPanic ?_;refine H6 (S:=fun w'=>Below w0.heap.size w0 w'∧Loc w' (w.heap.size) #[.int .i64 t.id,.int .i64 t.vw,.int .i64 t.ak,.int .i64 t.vo,.int .i64 t.lo,.int .i64 t.n,.string t.s,.slice ao t.qw.length ca,.string t.d,.slice bo t.pool.length cb,.slice co t.tab.length cc,.slice od t.AU.length cd,.int .i64 t.su,.slice oe t.held.length ce]) (fun j=>j==7||j==9) (by kernel_rfl) ?_;obtain⟨Tn,hwd⟩:∃y,w0.drew=y:=⟨_,rfl⟩
 rw[hwd]at bA⊢;clear hwd;have bb:=bA;have Eo:=bu AO bb;have Z7:=bb.size;replace P:=P.up bb;replace O:=O.up bb;clear AO bb;refine BD (i:=0) (d:=3) (v:=?_) rfl rfl (by kernel_rfl) (by kernel_rfl) (by kernel_rfl) (fun _ _ _ h=>h) (Or.inl ⟨by rfl,?_⟩) ?_
 rotate_left
 ·intro w hSw
  try dsimp only at hSw
  go_simp
  try with_reducible rfl
 simp only[Act.put,List.setIfInBounds_toArray,List.set_cons_zero,List.set_cons_succ];refine BD (i:=3) (d:=6) (v:=?_) rfl rfl (by kernel_rfl) (by kernel_rfl) (by kernel_rfl) (fun _ _ _ h=>h) (Or.inl ⟨by rfl,?_⟩) ?_
 rotate_left
 ·intro w hSw
  try dsimp only at hSw
  go_simp
  try with_reducible rfl
 simp only[Act.put,List.setIfInBounds_toArray,List.set_cons_zero,List.set_cons_succ];refine Dn (i:=1) (d:=4) (v:= .agg #[.int .i64 t.vo,.int .i64 t.lo,.int .i64 t.n,.string t.s,.slice ao t.qw.length ca,.string t.d]) rfl rfl (by kernel_rfl) (by kernel_rfl) (by kernel_rfl) (by kernel_rfl) (fun _ _ _ h=>h) ?_ (K.out _ bA) ?_
 ·exact Bb rfl 40 _ rfl rfl [.int .i64 t.vo,.int .i64 t.lo,.int .i64 t.n,.string t.s,.slice ao t.qw.length ca,.string t.d] _ (fun w h=>(h.2).range 3 6 rfl) Tryz.underlying40 rfl (by kernel_rfl)
 simp only[Act.put,List.setIfInBounds_toArray,List.set_cons_zero,List.set_cons_succ];refine Dn (i:=4) (d:=7) (v:= .agg #[.slice od t.AU.length cd,.int .i64 t.su]) rfl rfl (by kernel_rfl) (by kernel_rfl) (by kernel_rfl) (by kernel_rfl) (fun _ _ _ h=>h) ?_ (K.out _ bA) ?_
 ·exact Bb rfl 43 _ rfl rfl [.slice od t.AU.length cd,.int .i64 t.su] _ (fun w h=>(h.2).range 11 2 rfl) Tryz.underlying43 rfl (by kernel_rfl)
 simp only[Act.put,List.setIfInBounds_toArray,List.set_cons_zero,List.set_cons_succ];refine A7 (i:=2) rfl (by kernel_rfl) (fun KK AA=>?_);go_simp;refine(T1.out _ (HR.out.q.below Eo)).mono ?_;rintro e w1 ⟨u,rfl,oA,bb⟩;have Au:Below w0.heap.size w0 w1:=bu bA bb;refine AA.out _ _ (fun _ _=>K.out _ Au) ?_;clear AA KK bA;have AZ:=bu Eo bb;have Cx:=bb.size;replace P:=P.up bb;replace O:=O.up bb;clear Eo bb;have toA:=World.ownsRow.lt oA;obtain⟨DT,DJ,rfl⟩:=oA.form;refine BD (i:=6) (d:=9) (v:=?_) rfl rfl (by kernel_rfl) (by kernel_rfl) (by kernel_rfl) (fun _ _ _ h=>h) (Or.inl ⟨by rfl,?_⟩) ?_
 rotate_left
 ·intro w hSw
  try dsimp only at hSw
  go_simp
  try with_reducible rfl
 simp only[Act.put,List.setIfInBounds_toArray,List.set_cons_zero,List.set_cons_succ];refine A7 (i:=5) rfl (by kernel_rfl) (fun KK AA=>?_);go_simp;refine(T2.out _ (HR.out.d.below AZ)).mono ?_;rintro e w2 ⟨u,rfl,oD,bb⟩;have BS:Below w0.heap.size w0 w2:=bu Au bb;refine AA.out _ _ (fun _ _=>K.out _ BS) ?_;clear AA KK Au;have Ao:=bu AZ bb;have Ex:=bb.size;replace P:=P.up bb;replace O:=O.up bb;replace oA:=oA.below bb;clear AZ bb;have Ku:=World.ownsRow.lt oD;obtain⟨Gg,GQ,rfl⟩:=oD.form;refine A7 (i:=7) rfl (by kernel_rfl) (fun KK AA=>?_);rw[if_pos (by rfl)];refine wp_store_mid 40 (.tmp 9) (.tmp 5) rfl (w.heap.size) 3 #[.int .i64 t.vo,.int .i64 t.lo,.int .i64 t.n,.string t.s,.slice DT t.qw.length DJ,.string t.d] rfl rfl (P.there 3 6 (by simp)) (by kernel_rfl) (by simp[Value.oneCell']) ?_;refine AA.out _ _ (fun h=>absurd h (by decide)) ?_;clear AA KK;obtain⟨w3,hw3⟩:∃y,w2.setCells (w.heap.size) 3 [.int .i64 t.vo,.int .i64 t.lo,.int .i64 t.n,.string t.s,.slice DT t.qw.length DJ,.string t.d]=y:=⟨_,rfl⟩
 rw[hw3];have kN:Kp w2 w3 (fun k=>k=w.heap.size):=hw3▸Ad _ _ _ _;replace P:Loc w3 (w.heap.size) #[.int .i64 t.id,.int .i64 t.vw,.int .i64 t.ak,.int .i64 t.vo,.int .i64 t.lo,.int .i64 t.n,.string t.s,.slice DT t.qw.length DJ,.string t.d,.slice bo t.pool.length cb,.slice co t.tab.length cc,.slice od t.AU.length cd,.int .i64 t.su,.slice oe t.held.length ce]:=hw3▸P.setCells _ _ rfl;replace O:=O.kp kN (by omega);replace oA:=oA.kp kN (fun j hj e=>by have:=toA j hj;omega);replace oD:=oD.kp kN (fun j hj e=>by have:=Ku j hj;omega);have BK:=Below.kp Ao kN Ao.size (fun k hk=>by omega);have IW:=kN.size;clear hw3 kN Ao;refine BD (i:=8) (d:=10) (v:=?_) rfl rfl (by kernel_rfl) (by kernel_rfl) (by kernel_rfl) (fun _ _ _ h=>h) (Or.inl ⟨by rfl,?_⟩) ?_
 rotate_left
 ·intro w hSw
  try dsimp only at hSw
  go_simp
  try with_reducible rfl
 simp only[Act.put,List.setIfInBounds_toArray,List.set_cons_zero,List.set_cons_succ];refine A7 (i:=9) rfl (by kernel_rfl) (fun KK AA=>?_);rw[if_pos (by rfl)];refine wp_store_mid 43 (.tmp 10) (.tmp 8) rfl (w.heap.size) 11 #[.slice Gg t.AU.length GQ,.int .i64 t.su] rfl rfl (P.there 11 2 (by simp)) (by kernel_rfl) (by simp[Value.oneCell']) ?_;refine AA.out _ _ (fun h=>absurd h (by decide)) ?_;clear AA KK;obtain⟨w4,hw4⟩:∃y,w3.setCells (w.heap.size) 11 [.slice Gg t.AU.length GQ,.int .i64 t.su]=y:=⟨_,rfl⟩
 rw[hw4];have kN:Kp w3 w4 (fun k=>k=w.heap.size):=hw4▸Ad _ _ _ _;replace P:Loc w4 (w.heap.size) #[.int .i64 t.id,.int .i64 t.vw,.int .i64 t.ak,.int .i64 t.vo,.int .i64 t.lo,.int .i64 t.n,.string t.s,.slice DT t.qw.length DJ,.string t.d,.slice bo t.pool.length cb,.slice co t.tab.length cc,.slice Gg t.AU.length GQ,.int .i64 t.su,.slice oe t.held.length ce]:=hw4▸P.setCells _ _ rfl;replace O:=O.kp kN (by omega);replace oA:=oA.kp kN (fun j hj e=>by have:=toA j hj;omega);replace oD:=oD.kp kN (fun j hj e=>by have:=Ku j hj;omega);have Co:=Below.kp BK kN BK.size (fun k hk=>by omega);have OJ:=kN.size;clear hw4 kN BK;refine JE (by kernel_rfl) ?_ _;refine NoPanic.normal ?_;clear K BS;have K:=kw (kL P);go_upto_region 2 with fail
 have bA:Below w4.heap.size w4 w4.drew:=Below.drew (Below.refl _ _);refine wp_region_noPanic ?_;refine H6 (S:=fun w'=>Below w4.heap.size w4 w'∧Loc w' (w.heap.size) #[.int .i64 t.id,.int .i64 t.vw,.int .i64 t.ak,.int .i64 t.vo,.int .i64 t.lo,.int .i64 t.n,.string t.s,.slice DT t.qw.length DJ,.string t.d,.slice bo t.pool.length cb,.slice co t.tab.length cc,.slice Gg t.AU.length GQ,.int .i64 t.su,.slice oe t.held.length ce]) (fun j=>j==10||j==12||j==14) (by kernel_rfl) ?_;obtain⟨wd2,hwd⟩:∃y,w4.drew=y:=⟨_,rfl⟩
 rw[hwd]at bA⊢;clear hwd;have bb:=bA;have WM:=bu Co bb;have AAD:=bb.size;replace P:=P.up bb;replace O:=O.up bb;replace oA:=oA.below bb;replace oD:=oD.below bb;clear Co bb;refine BD (i:=0) (d:=11) (v:=?_) rfl rfl (by kernel_rfl) (by kernel_rfl) (by kernel_rfl) (fun _ _ _ h=>h) (Or.inl ⟨by rfl,?_⟩) ?_
 rotate_left
 ·intro w hSw
  try dsimp only at hSw
  go_simp
  try with_reducible rfl
 simp only[Act.put,List.setIfInBounds_toArray,List.set_cons_zero,List.set_cons_succ];refine BD (i:=3) (d:=14) (v:=?_) rfl rfl (by kernel_rfl) (by kernel_rfl) (by kernel_rfl) (fun _ _ _ h=>h) (Or.inl ⟨by rfl,?_⟩) ?_
 rotate_left
 ·intro w hSw
  try dsimp only at hSw
  go_simp
  try with_reducible rfl
 simp only[Act.put,List.setIfInBounds_toArray,List.set_cons_zero,List.set_cons_succ];refine BD (i:=6) (d:=17) (v:=?_) rfl rfl (by kernel_rfl) (by kernel_rfl) (by kernel_rfl) (fun _ _ _ h=>h) (Or.inl ⟨by rfl,?_⟩) ?_
 rotate_left
 ·intro w hSw
  try dsimp only at hSw
  go_simp
  try with_reducible rfl
 simp only[Act.put,List.setIfInBounds_toArray,List.set_cons_zero,List.set_cons_succ];refine Dn (i:=1) (d:=12) (v:=?_) rfl rfl (by kernel_rfl) (by kernel_rfl) (by kernel_rfl) (by kernel_rfl) (fun _ _ _ h=>h) (Or.inl ⟨by rfl,?_⟩) (K.out _ bA) ?_
 rotate_left
 ·intro w hSw
  try dsimp only at hSw
  have h:=hSw;have hc9:=(h.2).cell 9 rfl;clear h hSw;go_simp
  try with_reducible rfl
 simp only[Act.put,List.setIfInBounds_toArray,List.set_cons_zero,List.set_cons_succ];refine Dn (i:=4) (d:=15) (v:=?_) rfl rfl (by kernel_rfl) (by kernel_rfl) (by kernel_rfl) (by kernel_rfl) (fun _ _ _ h=>h) (Or.inl ⟨by rfl,?_⟩) (K.out _ bA) ?_
 rotate_left
 ·intro w hSw
  try dsimp only at hSw
  have h:=hSw;have wm:=(h.2).cell 10 rfl;clear h hSw;go_simp
  try with_reducible rfl
 simp only[Act.put,List.setIfInBounds_toArray,List.set_cons_zero,List.set_cons_succ];refine Dn (i:=7) (d:=18) (v:=?_) rfl rfl (by kernel_rfl) (by kernel_rfl) (by kernel_rfl) (by kernel_rfl) (fun _ _ _ h=>h) (Or.inl ⟨by rfl,?_⟩) (K.out _ bA) ?_
 rotate_left
 ·intro w hSw
  try dsimp only at hSw
  have h:=hSw;have rf:=(h.2).cell 13 rfl;clear h hSw;go_simp
  try with_reducible rfl
 simp only[Act.put,List.setIfInBounds_toArray,List.set_cons_zero,List.set_cons_succ];refine A7 (i:=2) rfl (by kernel_rfl) (fun KK AA=>?_);refine DF rfl (.const (.slice none 0 0)) (.tmp 12) rfl w4.heap.size (.slice none 0 0) (.slice bo t.pool.length cb) [] (t.pool) rfl rfl (World.ownsRow_nil _ _ _ _) ((RT.below HR.out.p WM).pt) (by simp;omega) bA.size ?_;intro u w5 oB g7 _;have bb:Below wd2.heap.size wd2 w5:=(Below.refl _ _).grown g7 Ak (fun j hj=>by simp[Value.ownBlock]at hj);rw[List.nil_append]at oB;have Au:Below w4.heap.size w4 w5:=bu bA bb;refine AA.out _ _ (fun _ _=>K.out _ Au) ?_;clear AA KK g7 bA;simp only[Act.put,List.setIfInBounds_toArray,List.set_cons_zero,List.set_cons_succ];have FT:=bu WM bb;have Z8:=bb.size;replace P:=P.up bb;replace O:=O.up bb;replace oA:=oA.below bb;replace oD:=oD.below bb;clear WM bb;obtain⟨D_,D8,rfl⟩:=OT.CV oB;have BU:=World.ownsRow.lt oB;refine BD (i:=9) (d:=20) (v:=?_) rfl rfl (by kernel_rfl) (by kernel_rfl) (by kernel_rfl) (fun _ _ _ h=>h) (Or.inl ⟨by rfl,?_⟩) ?_
 rotate_left
 ·intro w hSw
  try dsimp only at hSw
  go_simp
  try with_reducible rfl
 simp only[Act.put,List.setIfInBounds_toArray,List.set_cons_zero,List.set_cons_succ];refine A7 (i:=5) rfl (by kernel_rfl) (fun KK AA=>?_);go_simp;refine(T3.out _ _ (HR.out.tb.below FT)).mono ?_;rintro e w6 ⟨u,rfl,oC,bb⟩;have BS:Below w4.heap.size w4 w6:=bu Au bb;refine AA.out _ _ (fun _ _=>K.out _ BS) ?_;clear AA KK Au;have I8:=bu FT bb;have lW:=bb.size;replace P:=P.up bb;replace O:=O.up bb;replace oA:=oA.below bb;replace oD:=oD.below bb;replace oB:=oB.below bb;clear FT bb;obtain⟨kD,oC⟩:=oC;obtain⟨El,Ej,rfl⟩:=Kq.form ⟨kD,oC⟩;obtain⟨m1,hm1⟩:∃m,w6.heap.size=m:=⟨_,rfl⟩
 have oC:=C_.tL oC;rw[hm1]at oC;have hm2:=Nat.le_of_eq hm1;have tT:=Nat.le_of_eq hm1.symm;clear hm1;refine A7 (i:=8) rfl (by kernel_rfl) (fun KK AA=>?_);go_simp;refine(jo.out _ _ (HR.out.h.below I8)).mono ?_;rintro e w7 ⟨u,rfl,oE,bb⟩;have Fq:Below w4.heap.size w4 w7:=bu BS bb;refine AA.out _ _ (fun _ _=>K.out _ Fq) ?_;clear AA KK BS;have Ll:=bu I8 bb;have vQ:=bb.size;replace P:=P.up bb;replace O:=O.up bb;replace oA:=oA.below bb;replace oD:=oD.below bb;replace oB:=oB.below bb;clear I8;replace oC:=oC.below bb;clear bb;obtain⟨Ie,Ia,rfl⟩:=oE.form;obtain⟨m5,zA⟩:∃m,w7.heap.size=m:=⟨_,rfl⟩
 rw[zA]at oE;have hm6:=Nat.le_of_eq zA;have hm7:=Nat.le_of_eq zA.symm;clear zA;refine A7 (i:=10) rfl (by kernel_rfl) (fun KK AA=>?_);have q0:=P.cell 9 rfl;have FG:=P.frozen;go_simp;refine AA.out _ _ (fun h=>absurd h (by decide)) ?_;clear AA KK q0 FG;obtain⟨w8,hw8⟩:∃y,w7.setCell ⟨w.heap.size,9,none⟩ (.slice D_ t.pool.length D8)=y:=⟨_,rfl⟩
 rw[hw8];have kN:Kp w7 w8 (fun k=>k=w.heap.size):=hw8▸AB _ _ _ _;replace P:Loc w8 (w.heap.size) #[.int .i64 t.id,.int .i64 t.vw,.int .i64 t.ak,.int .i64 t.vo,.int .i64 t.lo,.int .i64 t.n,.string t.s,.slice DT t.qw.length DJ,.string t.d,.slice D_ t.pool.length D8,.slice co t.tab.length cc,.slice Gg t.AU.length GQ,.int .i64 t.su,.slice oe t.held.length ce]:=hw8▸P.set 9 _ rfl;replace O:=O.kp kN (by omega);replace oA:=oA.kp kN (fun j hj e=>by have:=toA j hj;omega);replace oD:=oD.kp kN (fun j hj e=>by have:=Ku j hj;omega);replace oB:=oB.kp kN (fun j hj e=>by have:=BU j hj;omega);replace oC:=oC.kp kN (fun j h1 h2 e=>by omega);replace oE:=oE.kp kN (fun j h1 h2 e=>by omega);have Ra:=Below.kp Ll kN Ll.size (fun k hk=>by omega);have vP:=kN.size;clear hw8 kN Ll;refine BD (i:=11) (d:=21) (v:=?_) rfl rfl (by kernel_rfl) (by kernel_rfl) (by kernel_rfl) (fun _ _ _ h=>h) (Or.inl ⟨by rfl,?_⟩) ?_
 rotate_left
 ·intro w hSw
  try dsimp only at hSw
  go_simp
  try with_reducible rfl
 simp only[Act.put,List.setIfInBounds_toArray,List.set_cons_zero,List.set_cons_succ];refine A7 (i:=12) rfl (by kernel_rfl) (fun KK AA=>?_);have q0:=P.cell 10 rfl;have FG:=P.frozen;go_simp;refine AA.out _ _ (fun h=>absurd h (by decide)) ?_;clear AA KK q0 FG;obtain⟨w9,ZR⟩:∃y,w8.setCell ⟨w.heap.size,10,none⟩ (.slice El t.tab.length Ej)=y:=⟨_,rfl⟩
 rw[ZR];have kN:Kp w8 w9 (fun k=>k=w.heap.size):=ZR▸AB _ _ _ _;replace P:Loc w9 (w.heap.size) #[.int .i64 t.id,.int .i64 t.vw,.int .i64 t.ak,.int .i64 t.vo,.int .i64 t.lo,.int .i64 t.n,.string t.s,.slice DT t.qw.length DJ,.string t.d,.slice D_ t.pool.length D8,.slice El t.tab.length Ej,.slice Gg t.AU.length GQ,.int .i64 t.su,.slice oe t.held.length ce]:=ZR▸P.set 10 _ rfl;replace O:=O.kp kN (by omega);replace oA:=oA.kp kN (fun j hj e=>by have:=toA j hj;omega);replace oD:=oD.kp kN (fun j hj e=>by have:=Ku j hj;omega);replace oB:=oB.kp kN (fun j hj e=>by have:=BU j hj;omega);replace oC:=oC.kp kN (fun j h1 h2 e=>by omega);replace oE:=oE.kp kN (fun j h1 h2 e=>by omega);have Zg:=Below.kp Ra kN Ra.size (fun k hk=>by omega);have sw9:=kN.size;clear ZR kN Ra;refine BD (i:=13) (d:=22) (v:=?_) rfl rfl (by kernel_rfl) (by kernel_rfl) (by kernel_rfl) (fun _ _ _ h=>h) (Or.inl ⟨by rfl,?_⟩) ?_
 rotate_left
 ·intro w hSw
  try dsimp only at hSw
  go_simp
  try with_reducible rfl
 simp only[Act.put,List.setIfInBounds_toArray,List.set_cons_zero,List.set_cons_succ];refine A7 (i:=14) rfl (by kernel_rfl) (fun KK AA=>?_);have q0:=P.cell 13 rfl;have FG:=P.frozen;go_simp;refine AA.out _ _ (fun h=>absurd h (by decide)) ?_;clear AA KK q0 FG;obtain⟨Tx,mr⟩:∃y,w9.setCell ⟨w.heap.size,13,none⟩ (.slice Ie t.held.length Ia)=y:=⟨_,rfl⟩
 rw[mr];have kN:Kp w9 Tx (fun k=>k=w.heap.size):=mr▸AB _ _ _ _;replace P:Loc Tx (w.heap.size) #[.int .i64 t.id,.int .i64 t.vw,.int .i64 t.ak,.int .i64 t.vo,.int .i64 t.lo,.int .i64 t.n,.string t.s,.slice DT t.qw.length DJ,.string t.d,.slice D_ t.pool.length D8,.slice El t.tab.length Ej,.slice Gg t.AU.length GQ,.int .i64 t.su,.slice Ie t.held.length Ia]:=mr▸P.set 13 _ rfl;replace O:=O.kp kN (by omega);replace oA:=oA.kp kN (fun j hj e=>by have:=toA j hj;omega);replace oD:=oD.kp kN (fun j hj e=>by have:=Ku j hj;omega);replace oB:=oB.kp kN (fun j hj e=>by have:=BU j hj;omega);replace oC:=oC.kp kN (fun j h1 h2 e=>by omega);replace oE:=oE.kp kN (fun j h1 h2 e=>by omega);have J6:=Below.kp Zg kN Zg.size (fun k hk=>by omega);have qg:=kN.size;clear mr kN Zg;refine JE (by kernel_rfl) ?_ _;refine NoPanic.normal ?_;clear K Fq;go_wp2_with (first|(refine Ap P 46 _ rfl _ rfl rfl Tryz.underlying46 rfl (by kernel_rfl) ?_)|(refine BH O 46 #[.int .i64 t.id,.int .i64 t.vw,.int .i64 t.ak,.int .i64 t.vo,.int .i64 t.lo,.int .i64 t.n,.string t.s,.slice DT t.qw.length DJ,.string t.d,.slice D_ t.pool.length D8,.slice El t.tab.length Ej,.slice Gg t.AU.length GQ,.int .i64 t.su,.slice Ie t.held.length Ia] rfl _ _ rfl rfl rfl (by kernel_rfl) rfl (by simp[Value.oneCell']) ?_))
 obtain⟨wE,Bf⟩:∃Ck,Tx.setRow (w.heap.size+1) #[.int .i64 t.id,.int .i64 t.vw,.int .i64 t.ak,.int .i64 t.vo,.int .i64 t.lo,.int .i64 t.n,.string t.s,.slice DT t.qw.length DJ,.string t.d,.slice D_ t.pool.length D8,.slice El t.tab.length Ej,.slice Gg t.AU.length GQ,.int .i64 t.su,.slice Ie t.held.length Ia]=Ck:=⟨_,rfl⟩
 have kN:Kp Tx wE (fun k=>k=w.heap.size+1):=Bf▸Bu _ _ _;replace O:Loc wE (w.heap.size+1) #[.int .i64 t.id,.int .i64 t.vw,.int .i64 t.ak,.int .i64 t.vo,.int .i64 t.lo,.int .i64 t.n,.string t.s,.slice DT t.qw.length DJ,.string t.d,.slice D_ t.pool.length D8,.slice El t.tab.length Ej,.slice Gg t.AU.length GQ,.int .i64 t.su,.slice Ie t.held.length Ia]:=Bf▸O.row;replace P:=P.kp kN (by omega);replace oA:=oA.kp kN (fun j hj e=>by have:=toA j hj;omega);replace oD:=oD.kp kN (fun j hj e=>by have:=Ku j hj;omega);replace oB:=oB.kp kN (fun j hj e=>by have:=BU j hj;omega);replace oC:=oC.kp kN (fun j h1 h2 e=>by omega);replace oE:=oE.kp kN (fun j h1 h2 e=>by omega);have Fh:=Below.kp J6 kN J6.size (fun k hk=>by omega);have Pp:=kN.size;rw[Bf];clear Bf kN J6;refine bodyPost_ret (v:=Dz t (.slice DT t.qw.length DJ) (.slice D_ t.pool.length D8) (.slice El t.tab.length Ej) (.slice Gg t.AU.length GQ) (.slice Ie t.held.length Ia)) (Ch Tryz.results40 _ O rfl Tryz.underlying46 rfl (by kernel_rfl)) rfl ?_;exact⟨_,_,_,_,_,rfl,⟨w1.heap.size,w4.heap.size,w5.heap.size,m1,w1.heap.size,w2.heap.size,w6.heap.size,kD,by omega,⟨oA.mono (by omega),fun j hj=>(toA j hj).2⟩,⟨oB,fun j hj=>(BU j hj).2⟩,oC,⟨oD.mono (by omega),fun j hj=>(Ku j hj).2⟩,oE.mono (by omega) (by omega)⟩,Fh⟩
end
section
open Go.RowKit Go.Extern
def fQ(w:World):Prop:=w.cell? ⟨0,0,none⟩=some (.iface 304 (.agg #[.pointer (some ⟨8,195,none⟩)]))
theorem fQ.below{w w':World}(h:fQ w)(hb:Below w.heap.size w w'):fQ w':=(hb.cell (AQ h)).trans h
theorem fQ.kp{w w':World}{X:Nat→Prop}(h:fQ w)(k:Kp w w' X)(hx:¬X 0):fQ w':=k.cell h hx
end
section
open Go.RowKit
variable [∀(a b c d:Int),Decidable (BG a b c d)] [∀(a b c d:Nat),Decidable (DZ a b c d)] [∀(last:Int)(s:St),Decidable (Aq last s)] [∀(x:T4),Decidable (Du x)] [∀(n:Int)(s:List Int),Decidable (Dv n s)] [∀(n f:Int),Decidable (A_ n f)]
def WL(xs:List Int)(p q:Int):Prop:=q=p∨(0≤q∧q≤xs.length)
theorem WL.trans{xs:List Int}{p q r:Int}(h:WL xs p q)(k:WL xs q r):WL xs p r:=by unfold WL at *; omega
theorem Kp.over{a b c:World}{X Y:Nat→Prop}(h:Kp a b X)(k:Kp b c Y)(hy:∀j,Y j→a.heap.size≤j∨X j):Kp a c X:=
 ⟨k.os.trans h.os,k.tape.trans h.tape,k.output.trans h.output,Nat.le_trans h.size k.size,fun i hi hx=>(k.block i (Nat.lt_of_lt_of_le hi h.size) (fun hj=>by rcases hy i hj with h1|h1<;>first|omega|exact hx h1)).trans (h.block i hi hx)⟩
end
section
open Go.RowKit
theorem OI.more{B:Nat}{w1:World}{v':Value}{xs:List Int}{c:Int}(ho':w1.ownsRow B 3 1 v' (xs.length+1) (xs.map (Value.int .i64)++[.int .i64 c])):OI w1 B v' (xs++[c]):=by
 unfold OI;rw[List.length_append,List.map_append];exact ho'
end
section
variable [∀(a b c d:Int),Decidable (BG a b c d)] [∀(a b c d:Nat),Decidable (DZ a b c d)] [∀(last:Int)(s:St),Decidable (Aq last s)] [∀(x:T4),Decidable (Du x)] [∀(n:Int)(s:List Int),Decidable (Dv n s)] [∀(n f:Int),Decidable (A_ n f)]
theorem Jw.piece{xs:List Int}(hb:Jw xs)(k m:Nat):Jw ((xs.drop k).take m):=fun y hy=>hb y (List.mem_of_mem_drop (List.mem_of_mem_take hy))
end
section
open Go.RowKit
theorem qy{w:World}{ao:Option Addr}{n ca:Nat}{xs:List Int}(h:RB w (.slice ao n ca) xs):n=xs.length∧n≤ca:=by
 obtain⟨_,a,c,e,hc,_⟩:=h;injection e with e1 e2 e3
 subst e1 e2 e3;exact⟨rfl,hc.1⟩
theorem Ui(ao:Option Addr)(n ca:Nat)(s:Int)(xs:List Int)(w:World)(hr:RB w (.slice ao n ca) xs)(hl:xs.length≤4194304):
 Calls Tryz.prog 89 #[dv (.slice ao n ca) s] w fun e w'=>∃u,e= .returned (dv u s)∧OB w' w.heap.size u xs∧Below w.heap.size w w':=by
 have hn:xs.length=n:=(qy hr).1.symm;obtain⟨w1,hw1⟩:∃y,(w.alloc (.cells #[.slice ao n ca,.int .i64 s] 43)).alloc (.cells #[.slice none 0 0,.int .i64 0] 43)=y:=⟨_,rfl⟩
 have b1:Below w.heap.size w w1:=hw1▸Bj _ _ _;have L1:Loc w1 w.heap.size #[.slice ao n ca,.int .i64 s]:=hw1▸Loc.alloc (AJ w _ _ rfl) _;have R1:Loc w1 (w.heap.size+1) #[.slice none 0 0,.int .i64 0]:=hw1▸AJ (w.alloc _) _ _ (by simp);have P1:PB w1 (.slice ao n ca) xs:=(hr.below b1).pb;have z1:w.heap.size+1+1≤w1.heap.size:=hw1▸(by simp);have HN:=hide hn;have HW:=hide hw1;clear hr hw1 hn;go_enter Tryz.func89,Tryz.ntmps89
 go_upto_region 1 with fail
 rw[HW.out];clear HW;have hn:=HN.out;have K:Hid (∀w',Kp w1 w' (fun k=>k=w.heap.size+1)→(fun w'=>w'.cell? ⟨w.heap.size,0,none⟩=some (.slice ao n ca)∧w'.cell? ⟨w.heap.size,1,none⟩=some (.int .i64 s)) w'):=hide fun w' hk'=>⟨hk'.cell (L1.cell 0 rfl) (by simp),hk'.cell (L1.cell 1 rfl) (by simp)⟩
 obtain⟨wd,hwd⟩:∃y,w1.drew=y:=⟨_,rfl⟩
 have bd:Below w1.heap.size w1 wd:=hwd▸Below.drew (Below.refl _ _);have uX:=bd.size;have PD:=P1.below bd;refine wp_region_noPanic ?_;refine wp_region_held_drew (S:=fun w'=>w'.cell? ⟨w.heap.size,0,none⟩=some (.slice ao n ca)∧w'.cell? ⟨w.heap.size,1,none⟩=some (.int .i64 s)) (by kernel_rfl) (hwd▸K.out _ (Below.BJ bd _)) (fun hHeld=>?_);rw[hwd]at hHeld⊢;clear hwd;refine tx 1 4 ?_;refine tx 2 5 ?_;refine tx 4 7 ?_;refine tx 5 8 ?_;refine rd 0 rfl (fun KK AA=>?_);go_simp;obtain⟨wb,hq⟩:∃y,wd.alloc (.cells #[] 5)=y:=⟨_,rfl⟩
 have bl:Below wd.heap.size wd wb:=hq▸Aj _ _;have bb:Below w1.heap.size w1 wb:=bu bd bl;have O0:OB wb wd.heap.size (.slice (some ⟨wd.heap.size,0,none⟩) 0 0) []:=hq▸World.ownsRow_lit wd #[] 0 Ak (by unfold maxLen;omega) rfl;have zq:wb.heap.size=wd.heap.size+1:=by rw[←hq];simp
 rw[hq];clear hq hHeld;refine AA.out _ _ (K.out _ (Below.BJ bb _)) (fun hHeld=>?_);clear AA KK;refine rd 3 rfl (fun KK AA=>?_);refine GJ rfl (.tmp 3) (.tmp 5) rfl wd.heap.size (.slice (some ⟨wd.heap.size,0,none⟩) 0 0) (.slice ao n ca) [] xs rfl rfl O0 (PD.below bl) (by simp;omega) (by omega) ?_;intro u wa O g7 hown;have ba:Below w1.heap.size w1 wa:=bb.grown g7 bb.size (fun j hj=>by simp[Value.ownBlock]at hj;omega);rw[List.nil_append]at O;have q7:=g7.size;have tO:=World.ownsRow.lt O;obtain⟨ua,uc,rfl⟩:=O.form;rw[hn]at O tO hown⊢;clear hHeld;refine AA.out _ _ (K.out _ (Below.BJ ba _)) (fun hHeld=>?_);clear AA KK;refine tz 6 9 ?_;simp only[Act.put,List.setIfInBounds_toArray];have Rq:=R1.up ba;have q0:=Rq.cell 0 rfl;have q1:=Rq.cell 1 rfl;have FG:=Rq.frozen;refine rd 7 rfl (fun KK AA=>?_);go_simp;obtain⟨w5,MC⟩:∃y,(wa.setCell ⟨w.heap.size+1,0,none⟩ (.slice ua n uc)).setCell ⟨w.heap.size+1,1,none⟩ (.int .i64 s)=y:=⟨_,rfl⟩
 have k5:Kp wa w5 (fun k=>k=w.heap.size+1):=MC▸(AB _ _ _ _).trans (AB _ _ _ _);have R5:Loc w5 (w.heap.size+1) #[.slice ua n uc,.int .i64 s]:=MC▸(Rq.set 0 _ rfl).set 1 _ rfl;have bs:Kp w1 w5 (fun k=>k=w.heap.size+1):=(Below.BJ ba _).trans k5;rw[MC];clear MC q0 q1 FG hHeld;refine AA.out _ _ (K.out _ bs) (fun hHeld=>?_);clear AA KK hHeld;refine Bw ?_;have O5:OB w5 w1.heap.size (.slice ua n uc) xs:=(O.kp k5 (fun j hj e=>by have:=(tO j hj).1;omega)).mono bd.size;have r0:=R5.cell 0 rfl;have r1:=R5.cell 1 rfl;have sz5:=bs.size;clear K O Rq tO hown g7 bl bb ba PD P1 L1 R1;go_wp2;refine bodyPost_ret (v:=dv (.slice ua n uc) s) (by simp[results,Tryz.results89,go_sem,r0,r1]) rfl ?_;exact⟨_,rfl,O5.mono (by omega),Below.kp b1 bs b1.size (fun k hk=>by omega)⟩
theorem OI.one{w:World}{base:Nat}{u:Value}{xs:List Int}(h:OI w base u xs):u.oneCell'=true:=by
 obtain⟨a,c,rfl⟩:=h.form;rfl
theorem WK{ops:Array Oper}{rest:List Oper}{o:Oper}{a:Act}{Q:Exit→Act→World→Prop}{w:World}(hgd:o.guard=none)(s x:Operand)
 (ho:o.op= .call { callee:= .builtin .append,args:= #[s,x],argTypes:= #[42,42] }) (base N:Nat) (v:Value) (ps:List Pt) (vs:List Value) (g cp:Nat) (m:Int) (nm:ByteArray) (u:Value) (xs:List Int) (hs:a.eval s=v) (hx:a.eval x= .slice (some ⟨g,0,none⟩) 1 cp)
 (htab:C_ w base v ps vs) (c0:w.cell? ⟨g,0,none⟩=some (.int .i64 m)) (c1:w.cell? ⟨g,1,none⟩=some (.string nm)) (c2:w.cell? ⟨g,2,none⟩=some u) (hu:OI w N u xs)
 (hN:∀k,k<ps.length→∀b,(vs.getD k (.slice none 0 0)).ownBlock=some b→b<N) (hbN:base≤N) (hl:ps.length≤4194304) (hbase:base≤w.heap.size)
 (h:∀v' w',C_ w' base v' (ps++[(m,nm,xs)]) (vs++[u])→w.grownBy w' v.ownBlock→(v'.ownBlock=v.ownBlock∨v'.ownBlock=some w.heap.size)→wpList Tryz.prog ops Q rest (a.put o.dst v') w'):
 wpList Tryz.prog ops Q (o :: rest) a w:=by
 obtain⟨i0,hi,hz0,hz1,hz2⟩:=info_parts Tryz.infoPt
 have hn:∀j y,(FJ ((m,nm),u))[j]? =some y→w.cell? ((⟨g,0,none⟩:Addr).add j)=some y:=by
  intro j y hj
  match j,hj with
  |0,hj=>simp[FJ]at hj;subst hj;simpa[Addr.add]using c0
  |1,hj=>simp[FJ]at hj;subst hj;simpa[Addr.add]using c1
  |2,hj=>simp[FJ]at hj;subst hj;simpa[Addr.add]using c2
  |j+3,hj=>simp[FJ]at hj
 have hp:∀y ∈ FJ ((m,nm),u),y.oneCell'=true:=by
  intro y hy;simp[FJ]at hy;rcases hy with rfl|rfl|rfl
  ·rfl
  ·rfl
  exact hu.one
 refine wpList_append_own_at _ hgd s x 42 ho base 72 i0 (qv 0 ⟨#[]⟩ (.slice none 0 0)) 3 48 Tryz.underlying42 hi hz0 hz1 hz2 rfl (by decide) v ps.length (Bn ((ps.map Om).zip vs)) hs htab.row ⟨g,0,none⟩ 1 cp (FJ ((m,nm),u)) hx (by simp[FJ]) hn hp (by unfold maxLen;omega) (by omega) hbase ?_;intro v' w' ho' hg' _ hb';exact h v' w' (iM htab hu hN hbN ho' hg') hg' hb'
theorem bI(w:World):C_ (w.alloc (.cells #[] 72)) w.heap.size (.slice (some ⟨w.heap.size,0,none⟩) 0 0) [] []:=by
 refine⟨rfl,?_,fun k hk=>by simp at hk,fun i j _ hj=>by simp at hj⟩;have:=World.ownsRow_lit (base:=w.heap.size) (e:=72) (size:=3) w #[] 0 Ak (by unfold maxLen;omega) (by simp);simpa[Bn]using this
theorem l8{ps:List Pt}{k:Nat}(hk:k<ps.length):ps.take (k+1)=ps.take k++[ps.getD k BI]:=by
 rw[List.take_succ_eq_append_getElem hk];simp[List.getElem?_eq_getElem hk]

theorem Kc(v:Value)(ps:List Pt)(w:World)(hl:ps.length≤4194304)(h:NY w v ps):
 Calls Tryz.prog 88 #[v] w fun e w'=>∃u,e= .returned u∧Kq w' w.heap.size u ps∧Below w.heap.size w w':=by
 obtain⟨ao,ca,rfl⟩:=h.form;obtain⟨n,hn⟩:∃n,ps.length=n:=⟨_,rfl⟩
 have Hn:=hide hn;obtain⟨w0,hw0⟩:∃y,w.alloc (.cells #[] 72)=y:=⟨_,rfl⟩
 have B0:Below w.heap.size w w0:=hw0▸Aj _ _;have T0:C_ w0 w.heap.size (.slice (some ⟨w.heap.size,0,none⟩) 0 0) [] []:=hw0▸bI w;have H:=hide h;rw[hn]at hl H⊢;clear h hn;go_enter Tryz.func88,Tryz.ntmps88
 go_wp2
 go_loopw [3,4] (fun t i wr=>∃(k:Nat)(vs:List Value)(ta:Option Addr)(tc:Nat),k≤n∧i= .int .i64 k∧t= .slice ta k tc∧C_ wr w.heap.size (.slice ta k tc) (ps.take k) vs∧Below w.heap.size w wr) (fun _ i _=>n-(intOf i).toNat)
 case atStart=>exact⟨0,_,_,_,Nat.zero_le _,rfl,rfl,T0,B0⟩
 case round=>
  clear T0 B0 hw0;obtain⟨k,vs,ta,tc,hk,rfl,rfl,T,br⟩:=hrel;by_cases hlt:k<n
  ·have hkx:k<ps.length:=by have:=Hn.out;omega
   have HT:=hide (l8 hkx);obtain⟨g,off,u,rfl,c0,c1,c2,ru⟩:=(H.out.below br).at k hkx;obtain⟨x,hx⟩:∃x,ps.getD k BI=x:=⟨_,rfl⟩
   rw[hx]at c0 c1 ru HT;clear hx;obtain⟨m,s,xs⟩:=x;simp only at c0 c1 ru;have CP:=hide fun w h=>L6 m s u xs w h;obtain⟨ua,uc,rfl⟩:=ru.form;have RU:=hide ru;have TT:=hide T;have hlk:(ps.take k).length=k:=by simp;omega
   clear ru T H;generalize xs.length=xl at *;go_wp2_with fail
   refine(CP.out _ RU.out).mono ?_;rintro e w2 ⟨u2,rfl,o2,b2⟩;have T2:=TT.out.below b2;have B2:=bu br b2;obtain⟨w3,hw3⟩:∃y,w2.alloc (.cells #[.int .i64 m,.string s,u2] 72)=y:=⟨_,rfl⟩
   have t3:Below w2.heap.size w2 w3:=hw3▸Aj _ _;have L3:Loc w3 w2.heap.size #[.int .i64 m,.string s,u2]:=hw3▸AJ w2 _ _ rfl;have T3:=hide (T2.below t3);have O3:=hide (o2.below t3);have B3:=bu B2 t3;have hN:Hid (∀j,j<(ps.take k).length→∀b,(vs.getD j (.slice none 0 0)).ownBlock=some b→b<wr.heap.size):=hide fun j hj b hb=>(World.ownsRow.lt (TT.out.each j hj) b hb).2;have d0:=L3.cell 0 rfl;have d1:=L3.cell 1 rfl;have d2:=L3.cell 2 rfl;obtain⟨xa,xc,rfl⟩:=o2.form;have sr:=br.size;have s3:=B3.size;clear T2 B2 o2 b2 TT CP RU c0 c1 c2 t3 L3
   go_wp2_with (first
    | (at_builtin;clear hw3;refine WK rfl _ _ rfl w.heap.size wr.heap.size (.slice ta k tc) (ps.take k) vs w2.heap.size 1 m s _ xs rfl rfl T3.out d0 d1 d2 O3.out hN.out sr (by omega) s3 ?_;intro v4 w4 jE hg4 _
       have r4:=World.ownsRow.lt T3.out.row;have B4:=B3.grown hg4 s3 (fun j e=>(r4 j e).1);obtain⟨a4,c4,hv4⟩:=Kq.form ⟨_,jE⟩;rw[←HT.out]at hv4 jE;rw[show(ps.take (k+1)).length=k+1 by simp;omega]at hv4;subst hv4;have O4:=hide jE;clear T3 O3 B3 jE hg4 r4 d0 d1 d2 hN))
   go_roundw
   case rel=>exact⟨k+1,_,a4,c4,by omega,by go_num,by go_num,O4.out,B4⟩
   case measure=>simp[intOf];omega
  have hkn:ps.take k=ps:=List.take_of_length_le (by have:=Hn.out;omega);rw[hkn]at T;have T':=hide T;clear T hkn H;go_wp2;go_ret;exact⟨_,rfl,⟨_,T'.out⟩,br⟩
end
section
open Go Go.RowKit
variable [∀(a b c d:Int),Decidable (BG a b c d)] [∀(n f:Int),Decidable (A_ n f)]
theorem OG.more{T:TypeId}{m:Nat}{w w':World}{base:Nat}{v v':Value}{rows:List (List Value)}(h:OG T m w base v rows)(r:List Value)(hr:r.length=m)(ho:w'.ownsRow base T m v' (rows.length+1) (rows.flatten++r)):OG T m w' base v' (rows++[r]):=by
 refine⟨fun c hc=>?_,by simpa using ho⟩;rcases List.mem_append.1 hc with h1|h1
 ·exact h.each c h1
 rw[List.mem_singleton.1 h1];exact hr
theorem Ph(b o j:Nat):((⟨b,o,none⟩:Addr).add j)=⟨b,o+j,none⟩:=by unfold Addr.add;split<;>simp_all
theorem Gx{ops:Array Oper}{o:Oper}{a:Act}{w:World}{K:Act→World→Prop}{Q:Exit→Act→World→Prop}{E:Prop}(hgd:o.guard=none)(s x:Operand)
 (ho:o.op= .call { callee:= .builtin .append,args:= #[s,x],argTypes:= #[44,44] }) (base:Nat) (v:Value) (rows:List (List Value)) (g cp:Nat) (cs:Array Value) (hs:a.eval s=v) (hx:a.eval x= .slice (some ⟨g,0,none⟩) 1 cp)
 (hog:OG 138 18 w base v rows) (L:Loc w g cs) (hc:cs.toList.length=18) (h1:∀u ∈ cs.toList,u.oneCell'=true) (hl:rows.length≤1048577) (hbase:base≤w.heap.size)
 (h:∀v' w',OG 138 18 w' base v' (rows++[cs.toList])→w.grownBy w' v.ownBlock→(v'.ownBlock=v.ownBlock∨v'.ownBlock=some w.heap.size)→K (a.put o.dst v') w'):
 if Region.wanted o (yielded ops a.tmps)=true then Oper.wp Tryz.prog o a w K Q else E:=by
 have hw:Region.wanted o (yielded ops a.tmps)=true:=by simp[Region.wanted,hgd]
 rw[if_pos hw];obtain⟨i0,hi,hz0,hz1,hz2⟩:=info_parts Tryz.infoPo
 have hn:∀j y,cs.toList[j]? =some y→w.cell? ((⟨g,0,none⟩:Addr).add j)=some y:=by
  intro j y hj;rw[Ph,Nat.zero_add];exact L.cell j (by simpa using hj)
 obtain⟨v',w',hrun,r1,r2,_,r4⟩:=run_append_own_at (P:=Tryz.prog) w base 44 o.type 138 i0 (Ma 0 FZ (.slice none 0 0) (.slice none 0 0) (.slice none 0 0)) 18 224 Tryz.underlying44 hi hz0 hz1 hz2 rfl (by decide) v rows.length rows.flatten hog.row ⟨g,0,none⟩ 1 cp cs.toList (by rw[hc]) hn h1 (by unfold maxLen;omega) (by omega) hbase;unfold Oper.wp;simp[execOp,ho,resolve,invoke,builtin,hs,hx,hrun,Result.andThen];exact h v' w' (hog.more _ hc r1) r2 r4
end
section
open Go.RowKit
theorem Xw(m:ByteArray)(v:Int)(s:ByteArray)(ao:Option Addr)(ca:Nat)(xs:List Int)(w:World)(ha:RI w (.slice ao xs.length ca) xs):
 Calls Tryz.prog 162 #[bv m v s (.slice ao xs.length ca)] w fun e w'=>∃u,e= .returned (bv m v s u)∧OI w' w.heap.size u xs∧Below w.heap.size w w':=by
 have CP:=hide fun w h=>Jk v s (.slice ao xs.length ca) xs w h;obtain⟨w0,hw0,AO,LB,LZ,_⟩:=Gb w #[.string m,.int .i64 v,.string s,.slice ao xs.length ca] 71 #[.string ⟨#[]⟩,.int .i64 0,.string ⟨#[]⟩,.slice none 0 0] 71;have s0:w.heap.size+1+1≤w0.heap.size:=by rw[←hw0];simp
 have HA:=hide (ha.below AO);clear ha;go_enter Tryz.func162,Tryz.ntmps162
 go_upto_region 1 with fail
 clear hw0;have bA:Below w0.heap.size w0 w0.drew:=Below.drew (Below.refl _ _);refine wp_region_noPanic ?_;refine wp_region_held_drew (S:=fun w'=>w'.cell? ⟨w.heap.size,0,none⟩=some (.string m)∧w'.cell? ⟨w.heap.size,1,none⟩=some (.int .i64 v)∧w'.cell? ⟨w.heap.size,2,none⟩=some (.string s)∧w'.cell? ⟨w.heap.size,3,none⟩=some (.slice ao xs.length ca)) (by kernel_rfl) ⟨LB.cell 0 rfl,LB.cell 1 rfl,LB.cell 2 rfl,LB.cell 3 rfl⟩ (fun hHeld=>?_);refine tx 0 3 ?_;refine tx 2 5 ?_;refine tx 1 4 ?_;refine tx 3 6 ?_;refine rd 4 rfl (fun KK AA=>?_);go_simp;refine(CP.out _ (HA.out.below bA)).mono ?_;rintro e w1 ⟨u,rfl,o1,bb⟩;have b1:Below w0.heap.size w0 w1:=bu bA bb;have xS:=LB.up b1;have xP:=LZ.up b1;have zz1:=b1.size;have t1:=World.ownsRow.lt o1;obtain⟨ua,uc,rfl⟩:=o1.form;have zd:=bA.size;clear hHeld bb bA;refine AA.out _ _ ⟨xS.cell 0 rfl,xS.cell 1 rfl,xS.cell 2 rfl,xS.cell 3 rfl⟩ (fun hHeld=>?_);clear AA KK;refine tx 5 8 ?_;have k4:=kp4 w1 (w.heap.size+1) (.string m) (.int .i64 v) (.string s) (.slice ua xs.length uc);have t_:=xS.kp k4 (by omega);have z0:=xP.cell 0 rfl;have z1:=xP.cell 1 rfl;have z2:=xP.cell 2 rfl;have z3:=xP.cell 3 rfl;have fz:=xP.frozen;refine rd 6 rfl (fun KK AA=>?_);go_simp;clear hHeld;refine AA.out _ _ ⟨t_.cell 0 rfl,t_.cell 1 rfl,t_.cell 2 rfl,t_.cell 3 rfl⟩ (fun hHeld=>?_);clear AA KK hHeld;refine Bw ?_;go_wp2;refine bodyPost_ret (v:=bv m v s (.slice ua xs.length uc)) (by simp[results,Tryz.results162,go_sem,z0,z1,z2,z3]) rfl ?_;exact⟨_,rfl,(o1.kp k4 (fun j hj e=>by have:=t1 j hj;simp at this;omega)).mono (by simp;omega),Below.kp (bu AO b1) k4 (by have:=AO.size;omega) (fun k hk=>by omega)⟩
end
section
open Go Go.RowKit
variable [∀(a b c d:Int),Decidable (BG a b c d)]
theorem Lv(t:MT)(ao bo co:Option Addr)(ca cb cc:Nat)(w:World)(ha:RI w (.slice ao t.bw.length ca) t.bw)(hb:RI w (.slice bo t.pw.length cb) t.pw)(hc:RI w (.slice co t.qw.length cc) t.qw):
 Calls Tryz.prog 122 #[Dw t (.slice ao t.bw.length ca) (.slice bo t.pw.length cb) (.slice co t.qw.length cc)] w fun e w'=>∃u v x,e= .returned (Dw t u v x)∧OM w' w.heap.size u v x t.bw t.pw t.qw∧Below w.heap.size w w':=by
 have T1:=hide fun w' h=>Xw t.bn t.bv t.bs ao ca t.bw w' h;have T2:=hide fun w' h=>L6 t.pv t.ps (.slice bo t.pw.length cb) t.pw w' h;have T3:=hide fun w' h=>Jk t.qv t.qs (.slice co t.qw.length cc) t.qw w' h;have HA:=hide ha;have HB:=hide hb;have HC:=hide hc;clear ha hb hc;obtain⟨w0,hw0,AO,P,O,DC⟩:=Gb w #[.int .i64 t.k,.int .i64 t.vw,.string t.bn,.int .i64 t.bv,.string t.bs,.slice ao t.bw.length ca,.int .i64 t.pv,.string t.ps,.slice bo t.pw.length cb,.int .i64 t.qv,.string t.qs,.slice co t.qw.length cc,.int .i64 t.wh,.int .i64 t.fr,.int .i64 t.tu,.int .i64 t.am,.int .i64 t.no] 75 #[.int .i64 0,.int .i64 0,.string ⟨#[]⟩,.int .i64 0,.string ⟨#[]⟩,.slice none 0 0,.int .i64 0,.string ⟨#[]⟩,.slice none 0 0,.int .i64 0,.string ⟨#[]⟩,.slice none 0 0,.int .i64 0,.int .i64 0,.int .i64 0,.int .i64 0,.int .i64 0] 75;go_enter Tryz.func122,Tryz.ntmps122
 go_wp2_with (first|(refine A9 [.string t.bn,.int .i64 t.bv,.string t.bs,.slice ao t.bw.length ca] (P.range 2 4 rfl) 71 _ rfl _ rfl rfl Tryz.underlying71 rfl (by kernel_rfl) ?_))
 clear hw0;refine(T1.out _ (HA.out.below AO)).mono ?_;rintro _ w1 ⟨u,rfl,oA,bb⟩;have AZ:=bu AO bb;have Cx:=bb.size;replace P:=P.up bb;replace O:=O.up bb;clear AO bb;have toA:=World.ownsRow.lt oA;obtain⟨DT,DJ,rfl⟩:=oA.form;go_upto_region 2 with(first|(refine Fa #[.string t.bn,.int .i64 t.bv,.string t.bs,.slice DT t.bw.length DJ] (P.there 2 4 (by simp)) 71 rfl _ _ rfl rfl rfl (by kernel_rfl) (by simp[Value.oneCell']) ?_))
 obtain⟨w2,hw2⟩:∃y,(w1.setCells (w.heap.size) 2 [.string t.bn,.int .i64 t.bv,.string t.bs,.slice DT t.bw.length DJ])=y:=⟨_,rfl⟩
 rw[hw2];have kN:Kp w1 w2 (fun k=>k=w.heap.size):=hw2▸Ad _ _ _ _;replace P:Loc w2 (w.heap.size) #[.int .i64 t.k,.int .i64 t.vw,.string t.bn,.int .i64 t.bv,.string t.bs,.slice DT t.bw.length DJ,.int .i64 t.pv,.string t.ps,.slice bo t.pw.length cb,.int .i64 t.qv,.string t.qs,.slice co t.qw.length cc,.int .i64 t.wh,.int .i64 t.fr,.int .i64 t.tu,.int .i64 t.am,.int .i64 t.no]:=hw2▸(Loc.setCells (cs':=#[.int .i64 t.k,.int .i64 t.vw,.string t.bn,.int .i64 t.bv,.string t.bs,.slice DT t.bw.length DJ,.int .i64 t.pv,.string t.ps,.slice bo t.pw.length cb,.int .i64 t.qv,.string t.qs,.slice co t.qw.length cc,.int .i64 t.wh,.int .i64 t.fr,.int .i64 t.tu,.int .i64 t.am,.int .i64 t.no]) [.string t.bn,.int .i64 t.bv,.string t.bs,.slice DT t.bw.length DJ] 2 P rfl);replace O:=O.kp kN (by omega);replace oA:=oA.kp kN (fun j hj e=>by have:=toA j hj;omega);have Ao:=Below.kp AZ kN AZ.size (fun k hk=>by omega);have Ex:=kN.size;clear hw2 kN AZ;go_wp2_with (first|(refine A9 [.int .i64 t.pv,.string t.ps,.slice bo t.pw.length cb] (P.range 6 3 rfl) 72 _ rfl _ rfl rfl Tryz.underlying72 rfl (by kernel_rfl) ?_))
 refine(T2.out _ (HB.out.below Ao)).mono ?_;rintro _ w3 ⟨u,rfl,oB,bb⟩;have BK:=bu Ao bb;have IW:=bb.size;replace P:=P.up bb;replace O:=O.up bb;replace oA:=oA.below bb;clear Ao bb;have BU:=World.ownsRow.lt oB;obtain⟨D_,D8,rfl⟩:=oB.form;go_upto_region 3 with(first|(refine Fa #[.int .i64 t.pv,.string t.ps,.slice D_ t.pw.length D8] (P.there 6 3 (by simp)) 72 rfl _ _ rfl rfl rfl (by kernel_rfl) (by simp[Value.oneCell']) ?_))
 obtain⟨w4,hw4⟩:∃y,(w3.setCells (w.heap.size) 6 [.int .i64 t.pv,.string t.ps,.slice D_ t.pw.length D8])=y:=⟨_,rfl⟩
 rw[hw4];have kN:Kp w3 w4 (fun k=>k=w.heap.size):=hw4▸Ad _ _ _ _;replace P:Loc w4 (w.heap.size) #[.int .i64 t.k,.int .i64 t.vw,.string t.bn,.int .i64 t.bv,.string t.bs,.slice DT t.bw.length DJ,.int .i64 t.pv,.string t.ps,.slice D_ t.pw.length D8,.int .i64 t.qv,.string t.qs,.slice co t.qw.length cc,.int .i64 t.wh,.int .i64 t.fr,.int .i64 t.tu,.int .i64 t.am,.int .i64 t.no]:=hw4▸(Loc.setCells (cs':=#[.int .i64 t.k,.int .i64 t.vw,.string t.bn,.int .i64 t.bv,.string t.bs,.slice DT t.bw.length DJ,.int .i64 t.pv,.string t.ps,.slice D_ t.pw.length D8,.int .i64 t.qv,.string t.qs,.slice co t.qw.length cc,.int .i64 t.wh,.int .i64 t.fr,.int .i64 t.tu,.int .i64 t.am,.int .i64 t.no]) [.int .i64 t.pv,.string t.ps,.slice D_ t.pw.length D8] 6 P rfl);replace O:=O.kp kN (by omega);replace oA:=oA.kp kN (fun j hj e=>by have:=toA j hj;omega);replace oB:=oB.kp kN (fun j hj e=>by have:=BU j hj;omega);have Co:=Below.kp BK kN BK.size (fun k hk=>by omega);have OJ:=kN.size;clear hw4 kN BK;go_wp2_with (first|(refine A9 [.int .i64 t.qv,.string t.qs,.slice co t.qw.length cc] (P.range 9 3 rfl) 38 _ rfl _ rfl rfl Tryz.underlying38 rfl (by kernel_rfl) ?_))
 refine(T3.out _ (HC.out.below Co)).mono ?_;rintro _ w5 ⟨u,rfl,oC,bb⟩;have FT:=bu Co bb;have Z8:=bb.size;replace P:=P.up bb;replace O:=O.up bb;replace oA:=oA.below bb;replace oB:=oB.below bb;clear Co bb;have toC:=World.ownsRow.lt oC;obtain⟨El,Ej,rfl⟩:=oC.form;go_upto_region 4 with(first|(refine Fa #[.int .i64 t.qv,.string t.qs,.slice El t.qw.length Ej] (P.there 9 3 (by simp)) 38 rfl _ _ rfl rfl rfl (by kernel_rfl) (by simp[Value.oneCell']) ?_))
 obtain⟨w6,ZT⟩:∃y,(w5.setCells (w.heap.size) 9 [.int .i64 t.qv,.string t.qs,.slice El t.qw.length Ej])=y:=⟨_,rfl⟩
 rw[ZT];have kN:Kp w5 w6 (fun k=>k=w.heap.size):=ZT▸Ad _ _ _ _;replace P:Loc w6 (w.heap.size) #[.int .i64 t.k,.int .i64 t.vw,.string t.bn,.int .i64 t.bv,.string t.bs,.slice DT t.bw.length DJ,.int .i64 t.pv,.string t.ps,.slice D_ t.pw.length D8,.int .i64 t.qv,.string t.qs,.slice El t.qw.length Ej,.int .i64 t.wh,.int .i64 t.fr,.int .i64 t.tu,.int .i64 t.am,.int .i64 t.no]:=ZT▸(Loc.setCells (cs':=#[.int .i64 t.k,.int .i64 t.vw,.string t.bn,.int .i64 t.bv,.string t.bs,.slice DT t.bw.length DJ,.int .i64 t.pv,.string t.ps,.slice D_ t.pw.length D8,.int .i64 t.qv,.string t.qs,.slice El t.qw.length Ej,.int .i64 t.wh,.int .i64 t.fr,.int .i64 t.tu,.int .i64 t.am,.int .i64 t.no]) [.int .i64 t.qv,.string t.qs,.slice El t.qw.length Ej] 9 P rfl);replace O:=O.kp kN (by omega);replace oA:=oA.kp kN (fun j hj e=>by have:=toA j hj;omega);replace oB:=oB.kp kN (fun j hj e=>by have:=BU j hj;omega);replace oC:=oC.kp kN (fun j hj e=>by have:=toC j hj;omega);have I8:=Below.kp FT kN FT.size (fun k hk=>by omega);have lW:=kN.size;clear ZT kN FT;go_wp2_with (first|(refine Ap P 75 _ rfl _ rfl rfl Tryz.underlying75 rfl (by kernel_rfl) ?_)|(refine BH O 75 #[.int .i64 t.k,.int .i64 t.vw,.string t.bn,.int .i64 t.bv,.string t.bs,.slice DT t.bw.length DJ,.int .i64 t.pv,.string t.ps,.slice D_ t.pw.length D8,.int .i64 t.qv,.string t.qs,.slice El t.qw.length Ej,.int .i64 t.wh,.int .i64 t.fr,.int .i64 t.tu,.int .i64 t.am,.int .i64 t.no] rfl _ _ rfl rfl rfl (by kernel_rfl) rfl (by simp[Value.oneCell']) ?_))
 obtain⟨wE,Bf⟩:∃Ck,w6.setRow (w.heap.size+1) #[.int .i64 t.k,.int .i64 t.vw,.string t.bn,.int .i64 t.bv,.string t.bs,.slice DT t.bw.length DJ,.int .i64 t.pv,.string t.ps,.slice D_ t.pw.length D8,.int .i64 t.qv,.string t.qs,.slice El t.qw.length Ej,.int .i64 t.wh,.int .i64 t.fr,.int .i64 t.tu,.int .i64 t.am,.int .i64 t.no]=Ck:=⟨_,rfl⟩
 have kN:Kp w6 wE (fun k=>k=w.heap.size+1):=Bf▸Bu _ _ _;replace O:Loc wE (w.heap.size+1) #[.int .i64 t.k,.int .i64 t.vw,.string t.bn,.int .i64 t.bv,.string t.bs,.slice DT t.bw.length DJ,.int .i64 t.pv,.string t.ps,.slice D_ t.pw.length D8,.int .i64 t.qv,.string t.qs,.slice El t.qw.length Ej,.int .i64 t.wh,.int .i64 t.fr,.int .i64 t.tu,.int .i64 t.am,.int .i64 t.no]:=Bf▸O.row;replace P:=P.kp kN (by omega);replace oA:=oA.kp kN (fun j hj e=>by have:=toA j hj;omega);replace oB:=oB.kp kN (fun j hj e=>by have:=BU j hj;omega);replace oC:=oC.kp kN (fun j hj e=>by have:=toC j hj;omega);have Fh:=Below.kp I8 kN I8.size (fun k hk=>by omega);have Pp:=kN.size;rw[Bf];clear Bf kN I8;refine bodyPost_ret (v:=Dw t (.slice DT t.bw.length DJ) (.slice D_ t.pw.length D8) (.slice El t.qw.length Ej)) (Ch Tryz.results122 _ O rfl Tryz.underlying75 rfl (by kernel_rfl)) rfl ?_;exact⟨_,_,_,rfl,⟨w1.heap.size,w3.heap.size,oA.mono (by omega),fun j hj=>(toA j hj).2,oB.mono (by omega),fun j hj=>(BU j hj).2,oC.mono (by omega),by omega,by omega⟩,Fh⟩
end
end Go.Proofs.YtcjmcgolgbkknaaGreatDoor
