/- Lemmas; their conditions stand in each statement. -/
import Derived.Test.YtcjmcgolgbkknaaGreatDoorWRAO
set_option maxRecDepth 100000
set_option maxHeartbeats 16000000
set_option linter.unusedSectionVars false
set_option linter.unusedSimpArgs false
namespace Go.Proofs.YtcjmcgolgbkknaaGreatDoor
section
open Go Go.RowKit
variable [∀(a b c d:Int),Decidable (BK a b c d)] [∀(n f:Int),Decidable (A9 n f)] [∀(a b c d:Nat),Decidable (Dc a b c d)] [∀(x:T4),Decidable (Dv x)]
theorem kK(m:ByteArray)(v:Int)(s:ByteArray)(ao:Option Addr)(ca:Nat)(xs:List Int)(w:World)(hm:m.size≤281474976710656)(hs:s.size≤281474976710656)(ha:RI w (.slice ao xs.length ca) xs):
 Calls Tryz.prog 345 #[bv m v s (.slice ao xs.length ca)] w fun e w'=>∃u,e= .returned (bv m v s u)∧OI w' w.heap.size u xs∧Below w.heap.size w w':=by
 have CL:=hide fun w'=>Eg m w' hm;have TO:=hide fun g w'(hg:w'.rangeAt g 1 [.int .i64 v,.string s,.slice ao xs.length ca]) h=>WW g 1 v s ao ca xs w' hg h hs;have HA:=hide ha;clear ha hm hs;obtain⟨w0,hw0,AO,P,O,Cm⟩:=El w #[.string m,.int .i64 v,.string s,.slice ao xs.length ca] 71 #[.string ⟨#[]⟩,.int .i64 0,.string ⟨#[]⟩,.slice none 0 0] 71;go_enter Tryz.func345,Tryz.ntmps345
 have Me:=P.cell 0 rfl;go_wp2_with fail
 clear hw0;refine(CL.out _).mono ?_;rintro _ w1 ⟨rfl,bb⟩;clear Me;have AL:=bu AO bb;have Cj:=bb.size;replace P:=P.up bb;replace O:=O.up bb;clear AO bb;go_wp2_with fail
 refine(TO.out _ _ (P.range 1 3 rfl) (HA.out.below AL)).mono ?_;rintro _ w2 ⟨u,rfl,oA,bb⟩;have Ah:=bu AL bb;have Ej:=bb.size;replace P:=P.up bb;replace O:=O.up bb;clear AL bb;have toA:=World.ownsRow.lt oA;obtain⟨EG,D_,rfl⟩:=oA.form;go_wp2_with (first|(refine BL O 71 #[.string m,.int .i64 v,.string s,.slice EG xs.length D_] rfl _ _ rfl rfl rfl (by kernel_rfl) rfl (by simp[Value.oneCell']) ?_))
 obtain⟨wE,Bh⟩:∃Co,w2.setRow (w.heap.size+1) #[.string m,.int .i64 v,.string s,.slice EG xs.length D_]=Co:=⟨_,rfl⟩
 have kN:Kp w2 wE (fun k=>k=w.heap.size+1):=Bh▸CG _ _ _;replace O:Loc wE (w.heap.size+1) #[.string m,.int .i64 v,.string s,.slice EG xs.length D_]:=Bh▸O.row;replace P:=P.kp kN (by omega);replace oA:=oA.kp kN (fun j hj e=>by have:=toA j hj;omega);have FC:=Below.kp Ah kN Ah.size (fun k hk=>by omega);have Oa:=kN.size;rw[Bh];clear Bh kN Ah;refine bodyPost_ret (v:=bv m v s (.slice EG xs.length D_)) (DL Tryz.results345 _ O rfl Tryz.underlying71 rfl (by kernel_rfl)) rfl ?_;exact⟨_,rfl,oA.mono (by omega),FC⟩
structure MZ(t:MT):Prop where
 bn:t.bn.size≤281474976710656
 bs:t.bs.size≤281474976710656
 ps:t.ps.size≤281474976710656
 qs:t.qs.size≤281474976710656
theorem jC(t:MT)(ao bo co:Option Addr)(ca cb cc:Nat)(w:World)(hs:MZ t)(ha:RI w (.slice ao t.bw.length ca) t.bw)(hb:RI w (.slice bo t.pw.length cb) t.pw)(hc:RI w (.slice co t.qw.length cc) t.qw):
 Calls Tryz.prog 348 #[F8 t (.slice ao t.bw.length ca) (.slice bo t.pw.length cb) (.slice co t.qw.length cc)] w fun e w'=>∃u v x,e= .returned (F8 t u v x)∧OM w' w.heap.size u v x t.bw t.pw t.qw∧Below w.heap.size w w':=by
 have T1:=hide fun w' h=>kK t.bn t.bv t.bs ao ca t.bw w' hs.bn hs.bs h;have T2:=hide fun w' h=>Sm t.pv t.ps (.slice bo t.pw.length cb) t.pw w' h hs.ps;have T3:=hide fun g w'(hg:w'.rangeAt g 9 [.int .i64 t.qv,.string t.qs,.slice co t.qw.length cc]) h=>WW g 9 t.qv t.qs co cc t.qw w' hg h hs.qs;have HA:=hide ha;have HB:=hide hb;have HC:=hide hc;clear ha hb hc hs;obtain⟨w0,hw0,AO,P,O,Cm⟩:=El w #[.int .i64 t.k,.int .i64 t.vw,.string t.bn,.int .i64 t.bv,.string t.bs,.slice ao t.bw.length ca,.int .i64 t.pv,.string t.ps,.slice bo t.pw.length cb,.int .i64 t.qv,.string t.qs,.slice co t.qw.length cc,.int .i64 t.wh,.int .i64 t.fr,.int .i64 t.tu,.int .i64 t.am,.int .i64 t.no] 75 #[.int .i64 0,.int .i64 0,.string ⟨#[]⟩,.int .i64 0,.string ⟨#[]⟩,.slice none 0 0,.int .i64 0,.string ⟨#[]⟩,.slice none 0 0,.int .i64 0,.string ⟨#[]⟩,.slice none 0 0,.int .i64 0,.int .i64 0,.int .i64 0,.int .i64 0,.int .i64 0] 75;go_enter Tryz.func348,Tryz.ntmps348
 have K:=kw (kL P);go_upto_region 1 with fail
 clear hw0;have bA:Below w0.heap.size w0 w0.drew:=Below.drew (Below.refl _ _);refine wp_region_noPanic ?_;refine Kc (S:=fun w'=>Below w0.heap.size w0 w'∧Loc w' (w.heap.size) #[.int .i64 t.k,.int .i64 t.vw,.string t.bn,.int .i64 t.bv,.string t.bs,.slice ao t.bw.length ca,.int .i64 t.pv,.string t.ps,.slice bo t.pw.length cb,.int .i64 t.qv,.string t.qs,.slice co t.qw.length cc,.int .i64 t.wh,.int .i64 t.fr,.int .i64 t.tu,.int .i64 t.am,.int .i64 t.no]) (fun j=>j==9||j==11||j==13) (by kernel_rfl) ?_;obtain⟨kg,hwd⟩:∃y,w0.drew=y:=⟨_,rfl⟩
 rw[hwd]at bA⊢;clear hwd;have bb:=bA;have GY:=bu AO bb;have mQ:=bb.size;replace P:=P.up bb;replace O:=O.up bb;clear AO bb;refine Bq (i:=0) (d:=3) (v:=?_) rfl rfl (by kernel_rfl) (by kernel_rfl) (by kernel_rfl) (fun _ _ _ h=>h) (Or.inl ⟨by rfl,?_⟩) ?_
 rotate_left
 ·intro w hSw
  try dsimp only at hSw
  go_simp
  try with_reducible rfl
 simp only[Act.put,List.setIfInBounds_toArray,List.set_cons_zero,List.set_cons_succ];refine Bq (i:=3) (d:=6) (v:=?_) rfl rfl (by kernel_rfl) (by kernel_rfl) (by kernel_rfl) (fun _ _ _ h=>h) (Or.inl ⟨by rfl,?_⟩) ?_
 rotate_left
 ·intro w hSw
  try dsimp only at hSw
  go_simp
  try with_reducible rfl
 simp only[Act.put,List.setIfInBounds_toArray,List.set_cons_zero,List.set_cons_succ];refine Bq (i:=6) (d:=9) (v:=?_) rfl rfl (by kernel_rfl) (by kernel_rfl) (by kernel_rfl) (fun _ _ _ h=>h) (Or.inl ⟨by rfl,?_⟩) ?_
 rotate_left
 ·intro w hSw
  try dsimp only at hSw
  go_simp
  try with_reducible rfl
 simp only[Act.put,List.setIfInBounds_toArray,List.set_cons_zero,List.set_cons_succ];refine Fb (i:=1) (d:=4) (v:= .agg #[.string t.bn,.int .i64 t.bv,.string t.bs,.slice ao t.bw.length ca]) rfl rfl (by kernel_rfl) (by kernel_rfl) (by kernel_rfl) (by kernel_rfl) (fun _ _ _ h=>h) ?_ (K.out _ bA) ?_
 ·exact BA rfl 71 _ rfl rfl [.string t.bn,.int .i64 t.bv,.string t.bs,.slice ao t.bw.length ca] _ (fun w h=>(h.2).range 2 4 rfl) Tryz.underlying71 rfl (by kernel_rfl)
 simp only[Act.put,List.setIfInBounds_toArray,List.set_cons_zero,List.set_cons_succ];refine Fb (i:=4) (d:=7) (v:= .agg #[.int .i64 t.pv,.string t.ps,.slice bo t.pw.length cb]) rfl rfl (by kernel_rfl) (by kernel_rfl) (by kernel_rfl) (by kernel_rfl) (fun _ _ _ h=>h) ?_ (K.out _ bA) ?_
 ·exact BA rfl 72 _ rfl rfl [.int .i64 t.pv,.string t.ps,.slice bo t.pw.length cb] _ (fun w h=>(h.2).range 6 3 rfl) Tryz.underlying72 rfl (by kernel_rfl)
 simp only[Act.put,List.setIfInBounds_toArray,List.set_cons_zero,List.set_cons_succ];refine BU (i:=2) rfl (by kernel_rfl) (fun KK AA=>?_);go_simp;refine(T1.out _ (HA.out.below GY)).mono ?_;rintro e w1 ⟨u,rfl,oA,bb⟩;have Am:Below w0.heap.size w0 w1:=bu bA bb;refine AA.out _ _ (fun _ _=>K.out _ Am) ?_;clear AA KK bA;have AL:=bu GY bb;have Cj:=bb.size;replace P:=P.up bb;replace O:=O.up bb;clear GY bb;have toA:=World.ownsRow.lt oA;obtain⟨EG,D_,rfl⟩:=oA.form;refine BU (i:=5) rfl (by kernel_rfl) (fun KK AA=>?_);go_simp;refine(T2.out _ (HB.out.below AL)).mono ?_;rintro e w2 ⟨u,rfl,oB,bb⟩;have BG:Below w0.heap.size w0 w2:=bu Am bb;refine AA.out _ _ (fun _ _=>K.out _ BG) ?_;clear AA KK Am;have Ah:=bu AL bb;have Ej:=bb.size;replace P:=P.up bb;replace O:=O.up bb;replace oA:=oA.below bb;clear AL bb;have Bj:=World.ownsRow.lt oB;obtain⟨GD,F9,rfl⟩:=oB.form;refine BU (i:=7) rfl (by kernel_rfl) (fun KK AA=>?_);go_simp;refine(T3.out _ _ (P.range 9 3 rfl) (HC.out.below Ah)).mono ?_;rintro e w3 ⟨u,rfl,oC,bb⟩;have EY:Below w0.heap.size w0 w3:=bu BG bb;refine AA.out _ _ (fun _ _=>K.out _ EY) ?_;clear AA KK BG;have BH:=bu Ah bb;have IL:=bb.size;replace P:=P.up bb;replace O:=O.up bb;replace oA:=oA.below bb;replace oB:=oB.below bb;clear Ah bb;have toC:=World.ownsRow.lt oC;obtain⟨FI,FH,rfl⟩:=oC.form;refine Bq (i:=8) (d:=11) (v:=?_) rfl rfl (by kernel_rfl) (by kernel_rfl) (by kernel_rfl) (fun _ _ _ h=>h) (Or.inl ⟨by rfl,?_⟩) ?_
 rotate_left
 ·intro w hSw
  try dsimp only at hSw
  go_simp
  try with_reducible rfl
 simp only[Act.put,List.setIfInBounds_toArray,List.set_cons_zero,List.set_cons_succ];refine BU (i:=9) rfl (by kernel_rfl) (fun KK AA=>?_);rw[if_pos (by rfl)];refine wp_store_mid 71 (.tmp 11) (.tmp 5) rfl (w.heap.size) 2 #[.string t.bn,.int .i64 t.bv,.string t.bs,.slice EG t.bw.length D_] rfl rfl (P.there 2 4 (by simp)) (by kernel_rfl) (by simp[Value.oneCell']) ?_;refine AA.out _ _ (fun h=>absurd h (by decide)) ?_;clear AA KK;obtain⟨w4,hw4⟩:∃y,w3.setCells (w.heap.size) 2 [.string t.bn,.int .i64 t.bv,.string t.bs,.slice EG t.bw.length D_]=y:=⟨_,rfl⟩
 rw[hw4];have kN:Kp w3 w4 (fun k=>k=w.heap.size):=hw4▸AQ _ _ _ _;replace P:Loc w4 (w.heap.size) #[.int .i64 t.k,.int .i64 t.vw,.string t.bn,.int .i64 t.bv,.string t.bs,.slice EG t.bw.length D_,.int .i64 t.pv,.string t.ps,.slice bo t.pw.length cb,.int .i64 t.qv,.string t.qs,.slice co t.qw.length cc,.int .i64 t.wh,.int .i64 t.fr,.int .i64 t.tu,.int .i64 t.am,.int .i64 t.no]:=hw4▸P.setCells _ _ rfl;replace O:=O.kp kN (by omega);replace oA:=oA.kp kN (fun j hj e=>by have:=toA j hj;omega);replace oB:=oB.kp kN (fun j hj e=>by have:=Bj j hj;omega);replace oC:=oC.kp kN (fun j hj e=>by have:=toC j hj;omega);have Cr:=Below.kp BH kN BH.size (fun k hk=>by omega);have Nq:=kN.size;clear hw4 kN BH;refine Bq (i:=10) (d:=12) (v:=?_) rfl rfl (by kernel_rfl) (by kernel_rfl) (by kernel_rfl) (fun _ _ _ h=>h) (Or.inl ⟨by rfl,?_⟩) ?_
 rotate_left
 ·intro w hSw
  try dsimp only at hSw
  go_simp
  try with_reducible rfl
 simp only[Act.put,List.setIfInBounds_toArray,List.set_cons_zero,List.set_cons_succ];refine BU (i:=11) rfl (by kernel_rfl) (fun KK AA=>?_);rw[if_pos (by rfl)];refine wp_store_mid 72 (.tmp 12) (.tmp 8) rfl (w.heap.size) 6 #[.int .i64 t.pv,.string t.ps,.slice GD t.pw.length F9] rfl rfl (P.there 6 3 (by simp)) (by kernel_rfl) (by simp[Value.oneCell']) ?_;refine AA.out _ _ (fun h=>absurd h (by decide)) ?_;clear AA KK;obtain⟨w5,N8⟩:∃y,w4.setCells (w.heap.size) 6 [.int .i64 t.pv,.string t.ps,.slice GD t.pw.length F9]=y:=⟨_,rfl⟩
 rw[N8];have kN:Kp w4 w5 (fun k=>k=w.heap.size):=N8▸AQ _ _ _ _;replace P:Loc w5 (w.heap.size) #[.int .i64 t.k,.int .i64 t.vw,.string t.bn,.int .i64 t.bv,.string t.bs,.slice EG t.bw.length D_,.int .i64 t.pv,.string t.ps,.slice GD t.pw.length F9,.int .i64 t.qv,.string t.qs,.slice co t.qw.length cc,.int .i64 t.wh,.int .i64 t.fr,.int .i64 t.tu,.int .i64 t.am,.int .i64 t.no]:=N8▸P.setCells _ _ rfl;replace O:=O.kp kN (by omega);replace oA:=oA.kp kN (fun j hj e=>by have:=toA j hj;omega);replace oB:=oB.kp kN (fun j hj e=>by have:=Bj j hj;omega);replace oC:=oC.kp kN (fun j hj e=>by have:=toC j hj;omega);have Fj:=Below.kp Cr kN Cr.size (fun k hk=>by omega);have Yt:=kN.size;clear N8 kN Cr;refine Bq (i:=12) (d:=13) (v:=?_) rfl rfl (by kernel_rfl) (by kernel_rfl) (by kernel_rfl) (fun _ _ _ h=>h) (Or.inl ⟨by rfl,?_⟩) ?_
 rotate_left
 ·intro w hSw
  try dsimp only at hSw
  go_simp
  try with_reducible rfl
 simp only[Act.put,List.setIfInBounds_toArray,List.set_cons_zero,List.set_cons_succ];refine BU (i:=13) rfl (by kernel_rfl) (fun KK AA=>?_);rw[if_pos (by rfl)];refine wp_store_mid 38 (.tmp 13) (.tmp 10) rfl (w.heap.size) 9 #[.int .i64 t.qv,.string t.qs,.slice FI t.qw.length FH] rfl rfl (P.there 9 3 (by simp)) (by kernel_rfl) (by simp[Value.oneCell']) ?_;refine AA.out _ _ (fun h=>absurd h (by decide)) ?_;clear AA KK;obtain⟨w6,Oi⟩:∃y,w5.setCells (w.heap.size) 9 [.int .i64 t.qv,.string t.qs,.slice FI t.qw.length FH]=y:=⟨_,rfl⟩
 rw[Oi];have kN:Kp w5 w6 (fun k=>k=w.heap.size):=Oi▸AQ _ _ _ _;replace P:Loc w6 (w.heap.size) #[.int .i64 t.k,.int .i64 t.vw,.string t.bn,.int .i64 t.bv,.string t.bs,.slice EG t.bw.length D_,.int .i64 t.pv,.string t.ps,.slice GD t.pw.length F9,.int .i64 t.qv,.string t.qs,.slice FI t.qw.length FH,.int .i64 t.wh,.int .i64 t.fr,.int .i64 t.tu,.int .i64 t.am,.int .i64 t.no]:=Oi▸P.setCells _ _ rfl;replace O:=O.kp kN (by omega);replace oA:=oA.kp kN (fun j hj e=>by have:=toA j hj;omega);replace oB:=oB.kp kN (fun j hj e=>by have:=Bj j hj;omega);replace oC:=oC.kp kN (fun j hj e=>by have:=toC j hj;omega);have JD:=Below.kp Fj kN Fj.size (fun k hk=>by omega);have rz:=kN.size;clear Oi kN Fj;refine Mv (by kernel_rfl) ?_ _;refine NoPanic.normal ?_;clear K EY;go_wp2_with (first|(refine Al P 75 _ rfl _ rfl rfl Tryz.underlying75 rfl (by kernel_rfl) ?_)|(refine BL O 75 #[.int .i64 t.k,.int .i64 t.vw,.string t.bn,.int .i64 t.bv,.string t.bs,.slice EG t.bw.length D_,.int .i64 t.pv,.string t.ps,.slice GD t.pw.length F9,.int .i64 t.qv,.string t.qs,.slice FI t.qw.length FH,.int .i64 t.wh,.int .i64 t.fr,.int .i64 t.tu,.int .i64 t.am,.int .i64 t.no] rfl _ _ rfl rfl rfl (by kernel_rfl) rfl (by simp[Value.oneCell']) ?_))
 obtain⟨wE,Bh⟩:∃Co,w6.setRow (w.heap.size+1) #[.int .i64 t.k,.int .i64 t.vw,.string t.bn,.int .i64 t.bv,.string t.bs,.slice EG t.bw.length D_,.int .i64 t.pv,.string t.ps,.slice GD t.pw.length F9,.int .i64 t.qv,.string t.qs,.slice FI t.qw.length FH,.int .i64 t.wh,.int .i64 t.fr,.int .i64 t.tu,.int .i64 t.am,.int .i64 t.no]=Co:=⟨_,rfl⟩
 have kN:Kp w6 wE (fun k=>k=w.heap.size+1):=Bh▸CG _ _ _;replace O:Loc wE (w.heap.size+1) #[.int .i64 t.k,.int .i64 t.vw,.string t.bn,.int .i64 t.bv,.string t.bs,.slice EG t.bw.length D_,.int .i64 t.pv,.string t.ps,.slice GD t.pw.length F9,.int .i64 t.qv,.string t.qs,.slice FI t.qw.length FH,.int .i64 t.wh,.int .i64 t.fr,.int .i64 t.tu,.int .i64 t.am,.int .i64 t.no]:=Bh▸O.row;replace P:=P.kp kN (by omega);replace oA:=oA.kp kN (fun j hj e=>by have:=toA j hj;omega);replace oB:=oB.kp kN (fun j hj e=>by have:=Bj j hj;omega);replace oC:=oC.kp kN (fun j hj e=>by have:=toC j hj;omega);have FC:=Below.kp JD kN JD.size (fun k hk=>by omega);have Oa:=kN.size;rw[Bh];clear Bh kN JD;refine bodyPost_ret (v:=F8 t (.slice EG t.bw.length D_) (.slice GD t.pw.length F9) (.slice FI t.qw.length FH)) (DL Tryz.results348 _ O rfl Tryz.underlying75 rfl (by kernel_rfl)) rfl ?_;exact⟨_,_,_,rfl,⟨w1.heap.size,w2.heap.size,oA.mono (by omega),fun j hj=>(toA j hj).2,oB.mono (by omega),fun j hj=>(Bj j hj).2,oC.mono (by omega),by omega,by omega⟩,FC⟩
theorem ZI(n:Int)(t:MT)(ao bo co:Option Addr)(ca cb cc:Nat)(w:World)(hs:MZ t)(ha:RI w (.slice ao t.bw.length ca) t.bw)(hb:RI w (.slice bo t.pw.length cb) t.pw)(hc:RI w (.slice co t.qw.length cc) t.qw):
 Calls Tryz.prog 349 #[ZH n t (.slice ao t.bw.length ca) (.slice bo t.pw.length cb) (.slice co t.qw.length cc)] w fun e w'=>∃u v x,e= .returned (ZH n t u v x)∧OM w' w.heap.size u v x t.bw t.pw t.qw∧Below w.heap.size w w':=by
 have T1:=hide fun w' h1 h2 h3=>jC t ao bo co ca cb cc w' hs h1 h2 h3;have HA:=hide ha;have HB:=hide hb;have HC:=hide hc;clear ha hb hc hs;obtain⟨w0,hw0,AO,P,O,Cm⟩:=El w #[.int .i64 n,.int .i64 t.k,.int .i64 t.vw,.string t.bn,.int .i64 t.bv,.string t.bs,.slice ao t.bw.length ca,.int .i64 t.pv,.string t.ps,.slice bo t.pw.length cb,.int .i64 t.qv,.string t.qs,.slice co t.qw.length cc,.int .i64 t.wh,.int .i64 t.fr,.int .i64 t.tu,.int .i64 t.am,.int .i64 t.no] 138 #[.int .i64 0,.int .i64 0,.int .i64 0,.string ⟨#[]⟩,.int .i64 0,.string ⟨#[]⟩,.slice none 0 0,.int .i64 0,.string ⟨#[]⟩,.slice none 0 0,.int .i64 0,.string ⟨#[]⟩,.slice none 0 0,.int .i64 0,.int .i64 0,.int .i64 0,.int .i64 0,.int .i64 0] 138;go_enter Tryz.func349,Tryz.ntmps349
 go_wp2_with (first|(refine A7 [.int .i64 t.k,.int .i64 t.vw,.string t.bn,.int .i64 t.bv,.string t.bs,.slice ao t.bw.length ca,.int .i64 t.pv,.string t.ps,.slice bo t.pw.length cb,.int .i64 t.qv,.string t.qs,.slice co t.qw.length cc,.int .i64 t.wh,.int .i64 t.fr,.int .i64 t.tu,.int .i64 t.am,.int .i64 t.no] (P.range 1 17 rfl) 75 _ rfl _ rfl rfl Tryz.underlying75 rfl (by kernel_rfl) ?_))
 clear hw0;refine(T1.out _ (HA.out.below AO) (HB.out.below AO) (HC.out.below AO)).mono ?_;rintro _ w1 ⟨u,v,x,rfl,m1,bb⟩;have AL:=bu AO bb;have Cj:=bb.size;replace P:=P.up bb;replace O:=O.up bb;clear AO bb;obtain⟨a1,k1,b1,l1,c1,n1,rfl,rfl,rfl⟩:=m1.form;go_upto_region 2 with(first|(refine En #[.int .i64 t.k,.int .i64 t.vw,.string t.bn,.int .i64 t.bv,.string t.bs,.slice a1 t.bw.length k1,.int .i64 t.pv,.string t.ps,.slice b1 t.pw.length l1,.int .i64 t.qv,.string t.qs,.slice c1 t.qw.length n1,.int .i64 t.wh,.int .i64 t.fr,.int .i64 t.tu,.int .i64 t.am,.int .i64 t.no] (P.there 1 17 (by simp)) 75 rfl _ _ rfl rfl rfl (by kernel_rfl) (by simp[Value.oneCell']) ?_))
 obtain⟨w2,hw2⟩:∃y,(w1.setCells (w.heap.size) 1 [.int .i64 t.k,.int .i64 t.vw,.string t.bn,.int .i64 t.bv,.string t.bs,.slice a1 t.bw.length k1,.int .i64 t.pv,.string t.ps,.slice b1 t.pw.length l1,.int .i64 t.qv,.string t.qs,.slice c1 t.qw.length n1,.int .i64 t.wh,.int .i64 t.fr,.int .i64 t.tu,.int .i64 t.am,.int .i64 t.no])=y:=⟨_,rfl⟩
 rw[hw2];have kN:Kp w1 w2 (fun k=>k=w.heap.size):=hw2▸AQ _ _ _ _;replace P:Loc w2 (w.heap.size) #[.int .i64 n,.int .i64 t.k,.int .i64 t.vw,.string t.bn,.int .i64 t.bv,.string t.bs,.slice a1 t.bw.length k1,.int .i64 t.pv,.string t.ps,.slice b1 t.pw.length l1,.int .i64 t.qv,.string t.qs,.slice c1 t.qw.length n1,.int .i64 t.wh,.int .i64 t.fr,.int .i64 t.tu,.int .i64 t.am,.int .i64 t.no]:=hw2▸(Loc.setCells (cs':=#[.int .i64 n,.int .i64 t.k,.int .i64 t.vw,.string t.bn,.int .i64 t.bv,.string t.bs,.slice a1 t.bw.length k1,.int .i64 t.pv,.string t.ps,.slice b1 t.pw.length l1,.int .i64 t.qv,.string t.qs,.slice c1 t.qw.length n1,.int .i64 t.wh,.int .i64 t.fr,.int .i64 t.tu,.int .i64 t.am,.int .i64 t.no]) [.int .i64 t.k,.int .i64 t.vw,.string t.bn,.int .i64 t.bv,.string t.bs,.slice a1 t.bw.length k1,.int .i64 t.pv,.string t.ps,.slice b1 t.pw.length l1,.int .i64 t.qv,.string t.qs,.slice c1 t.qw.length n1,.int .i64 t.wh,.int .i64 t.fr,.int .i64 t.tu,.int .i64 t.am,.int .i64 t.no] 1 P rfl);replace O:=O.kp kN (by omega);replace m1:=m1.kp kN (fun j h1 h2 h3 e=>by omega);have Ah:=Below.kp AL kN AL.size (fun k hk=>by omega);have Ej:=kN.size;clear hw2 kN AL;go_wp2_with (first|(refine Al P 138 _ rfl _ rfl rfl Tryz.underlying138 rfl (by kernel_rfl) ?_)|(refine BL O 138 #[.int .i64 n,.int .i64 t.k,.int .i64 t.vw,.string t.bn,.int .i64 t.bv,.string t.bs,.slice a1 t.bw.length k1,.int .i64 t.pv,.string t.ps,.slice b1 t.pw.length l1,.int .i64 t.qv,.string t.qs,.slice c1 t.qw.length n1,.int .i64 t.wh,.int .i64 t.fr,.int .i64 t.tu,.int .i64 t.am,.int .i64 t.no] rfl _ _ rfl rfl rfl (by kernel_rfl) rfl (by simp[Value.oneCell']) ?_))
 obtain⟨wE,Bh⟩:∃Co,w2.setRow (w.heap.size+1) #[.int .i64 n,.int .i64 t.k,.int .i64 t.vw,.string t.bn,.int .i64 t.bv,.string t.bs,.slice a1 t.bw.length k1,.int .i64 t.pv,.string t.ps,.slice b1 t.pw.length l1,.int .i64 t.qv,.string t.qs,.slice c1 t.qw.length n1,.int .i64 t.wh,.int .i64 t.fr,.int .i64 t.tu,.int .i64 t.am,.int .i64 t.no]=Co:=⟨_,rfl⟩
 have kN:Kp w2 wE (fun k=>k=w.heap.size+1):=Bh▸CG _ _ _;replace O:Loc wE (w.heap.size+1) #[.int .i64 n,.int .i64 t.k,.int .i64 t.vw,.string t.bn,.int .i64 t.bv,.string t.bs,.slice a1 t.bw.length k1,.int .i64 t.pv,.string t.ps,.slice b1 t.pw.length l1,.int .i64 t.qv,.string t.qs,.slice c1 t.qw.length n1,.int .i64 t.wh,.int .i64 t.fr,.int .i64 t.tu,.int .i64 t.am,.int .i64 t.no]:=Bh▸O.row;replace P:=P.kp kN (by omega);replace m1:=m1.kp kN (fun j h1 h2 h3 e=>by omega);have FC:=Below.kp Ah kN Ah.size (fun k hk=>by omega);have Oa:=kN.size;rw[Bh];clear Bh kN Ah;refine bodyPost_ret (v:=ZH n t (.slice a1 t.bw.length k1) (.slice b1 t.pw.length l1) (.slice c1 t.qw.length n1)) (DL Tryz.results349 _ O rfl Tryz.underlying138 rfl (by kernel_rfl)) rfl ?_;exact⟨_,_,_,rfl,m1.mono (by omega),FC⟩
end
section
open Go.RowKit
variable [∀(a b c d:Int),Decidable (BK a b c d)] [∀(n f:Int),Decidable (A9 n f)] [∀(a b c d:Nat),Decidable (Dc a b c d)] [∀(x:T4),Decidable (Dv x)]
theorem Rh(v:Value)(ps:List Pt)(w:World)(hl:ps.length≤4194305)(hs:∀p ∈ ps,p.2.1.size≤281474976710656)(h:PL w v ps):
 Calls Tryz.prog 104 #[v] w fun e w'=>∃u,e= .returned u∧NK w' w.heap.size u ps∧Below w.heap.size w w':=by
 obtain⟨i0,hi,hz0,hz1,hz2⟩:=info_parts Tryz.infoPt;obtain⟨ao,ca,rfl⟩:=h.form;have HS0:=hide hs;have H:=hide h;clear hs;obtain⟨n,hn⟩:∃n,ps.length=n:=⟨_,rfl⟩
 have Hn:=hide hn;rw[hn]at hl H⊢;clear h hn;go_enter Tryz.func104,Tryz.ntmps104
 go_wp2_with (first|(at_make;refine wpList_make_full _ rfl _ _ 42 rfl w.heap.size 72 i0 (qv 0 ⟨#[]⟩ (.slice none 0 0)) 3 Tryz.underlying42 hi hz0 hz1 .i64 .i64 _ _ n rfl rfl rfl rfl (by rw[hz2];omega) (by unfold maxLen;omega) Af ?_;intro w0 ho0 hg0))
 have T0:De w0 w.heap.size (.slice (some ⟨w.heap.size,0,none⟩) n n) (Ci ps 0) (List.replicate n (.slice none 0 0)):=by
  rw[NY]at ho0;have:=Ws ho0;simpa[Ci,Hn.out]using this
 have B0:Below w.heap.size w w0:=(Below.refl _ _).grown hg0 Af (by simp);clear ho0 hg0 hz0 hz1 hz2 hi
 go_loopw [11] (fun i wr=>∃(k:Nat)(vs:List Value),k≤n∧i= .int .i64 k∧De wr w.heap.size (.slice (some ⟨w.heap.size,0,none⟩) n n) (Ci ps k) vs∧Below w.heap.size w wr) (fun i _=>n-(intOf i).toNat)
 case atStart=>exact⟨0,_,Nat.zero_le _,rfl,T0,B0⟩
 case round=>
  clear T0;obtain⟨k,vs,hk,rfl,T,br⟩:=hrel;by_cases hlt:k<n
  ·have hkx:k<ps.length:=by have:=Hn.out;omega
   have hlen:=QV ps k (by omega);have HR:=H.out.below br;obtain⟨g,off,u,rfl,c0,c1,c2,ru⟩:=HR.at k hkx;have HS:=hide (QT ps k hkx);have hsz:=HS0.out _ (KZ hkx);obtain⟨x,hx⟩:∃x,ps.getD k BQ=x:=⟨_,rfl⟩
   rw[hx]at c0 c1 ru HS hsz;clear hx;obtain⟨m,s,xs⟩:=x;simp only at c0 c1 ru hsz;have TP:=hide fun w h=>Sm m s u xs w h hsz;obtain⟨ua,uc,rfl⟩:=ru.form;have RU:=hide ru;have HT:=hide T;generalize xs.length=xl at *;obtain⟨w1,hw1⟩:∃y,wr.alloc (.cells #[.int .i64 m,.string s,.slice ua xl uc] 72)=y:=⟨_,rfl⟩
   have b1:Below wr.heap.size wr w1:=hw1▸Ac _ _;have L1:Loc w1 wr.heap.size #[.int .i64 m,.string s,.slice ua xl uc]:=hw1▸AB wr _ _ rfl;have p0:=L1.cell 0 rfl;have p1:=L1.cell 1 rfl;have p2:=L1.cell 2 rfl;have s1:=b1.size;replace RU:=hide (RU.out.below b1);replace HT:=hide (HT.out.below b1);replace br:=bu br b1;clear HR H ru T b1 hsz;go_wp2_with fail
   clear hw1 p0 p1 p2 L1;refine(TP.out _ RU.out).mono ?_;rintro e w2 ⟨u2,rfl,o2,b2⟩;have T2:=HT.out.below b2;have B2:=bu br b2;have MC:=World.ownsRow.lt o2;have hrow:=T2.row;rw[hlen,Hn.out]at hrow;have J6:(Bw (((Ci ps k).map QZ).zip vs)).length=n*3:=by rw[Ib];simp[T2.len,hlen,Hn.out]
   have gt:∀j,j<n*3→∃u,w2.cell? ⟨w.heap.size,j,none⟩=some u:=fun j hj=>⟨_,(hrow.cellAt j hj).trans (List.getElem?_eq_getElem (by rw[J6];exact hj))⟩
   obtain⟨y0,d0⟩:=gt (k*3) (by omega);obtain⟨y1,d1⟩:=gt (k*3+1) (by omega);obtain⟨y2,d2⟩:=gt (k*3+2) (by omega);have f0:=hrow.frozenAt (k*3);have f1:=hrow.frozenAt (k*3+1);have f2:=hrow.frozenAt (k*3+2)
   have R:=hide (show De (((w2.setCell ⟨w.heap.size,k*3,none⟩ (.int .i64 m)).setCell ⟨w.heap.size,k*3+1,none⟩ (.string s)).setCell ⟨w.heap.size,k*3+2,none⟩ u2) w.heap.size (.slice (some ⟨w.heap.size,0,none⟩) n n) (Ci ps (k+1)) (vs.set k u2) by
    have T3:=T2;have en:n=(Ci ps k).length:=by rw[hlen,Hn.out]
    rw[←HS.out]
    have:=dm (m:=m) (s:=s) (u:=u2) (xs:=xs) (k:=k) (cap:=n) (g:=w.heap.size) (w:=w2) (base:=w.heap.size) (ps:=Ci ps k) (vs:=vs) (by rw[←en];exact T3) (by rw[hlen];exact hkx) (OI.mono o2 br.size) (fun j hj _ b hb e=>by
     have h1:=World.ownsRow.lt (HT.out.each j hj) b hb;have h2:=MC b e;omega)
    rw[←en]at this;exact this)
   have BR:=hide (((B2.setCell (p:=⟨w.heap.size,k*3,none⟩) Af (.int .i64 m)).setCell (p:=⟨w.heap.size,k*3+1,none⟩) Af (.string s)).setCell (p:=⟨w.heap.size,k*3+2,none⟩) Af u2);obtain⟨va,vc,rfl⟩:=o2.form;generalize xs.length=zl at *;clear T2 B2 hrow J6 gt o2 MC HT TP RU c0 c1 c2;go_wp2
   go_roundw
   case rel=>exact⟨k+1,_,by omega,by go_num,R.out,BR.out⟩
   case measure=>simp[intOf];omega
  have hkn:Ci ps k=ps:=by
   have:=Hn.out;unfold Ci;rw[List.take_of_length_le (by omega),show ps.length-k=0 by omega];simp
  rw[hkn]at T;have T':=hide T;clear T hkn H;go_wp2;go_ret;exact⟨_,rfl,⟨_,T'.out⟩,br⟩
end
section
open Go Go.RowKit
variable [∀(a b c d:Int),Decidable (BK a b c d)] [∀(n f:Int),Decidable (A9 n f)] [∀(a b c d:Nat),Decidable (Dc a b c d)] [∀(x:T4),Decidable (Dv x)]
def Jy(w:World)(ps:List Ck)(rows:List (List Value))(cut:Nat→Nat)(k:Nat):Prop:=∀j,j<k→cut j≤cut (j+1)∧∃a b c,rows.getD j []=Hd (ps.getD j AX).1 (ps.getD j AX).2 a b c∧OM w (cut j) a b c (ps.getD j AX).2.bw (ps.getD j AX).2.pw (ps.getD j AX).2.qw∧∀i,(a.ownBlock=some i∨b.ownBlock=some i∨c.ownBlock=some i)→i<cut (j+1)
theorem Jy.cuts{w:World}{ps:List Ck}{rows:List (List Value)}{cut:Nat→Nat}{k:Nat}(h:Jy w ps rows cut k):∀j,j≤k→cut 0≤cut j
 |0,_=>Nat.le_refl _
 |j+1,hj=>Nat.le_trans (h.cuts j (by omega)) (h j (by omega)).1
theorem Jy.ends{w:World}{ps:List Ck}{rows:List (List Value)}{cut:Nat→Nat}{k:Nat}(h:Jy w ps rows cut k)(d:Nat):∀j,j+d=k→cut j≤cut k:=by
 induction d with
 |zero=>intro j e;rw[show j=k by omega];exact Nat.le_refl _
 |succ d ih=>intro j e;exact Nat.le_trans (h j (by omega)).1 (ih (j+1) (by omega))
theorem Jy.below{w w':World}{ps:List Ck}{rows:List (List Value)}{cut:Nat→Nat}{k:Nat}(h:Jy w ps rows cut k)(hb:Below w.heap.size w w'):Jy w' ps rows cut k:=fun j hj=>by
 obtain⟨c0,a,b,c,e,m,l⟩:=h j hj;exact⟨c0,a,b,c,e,m.below hb,l⟩
theorem Jy.kp{w w':World}{X:Nat→Prop}{ps:List Ck}{rows:List (List Value)}{cut:Nat→Nat}{k:Nat}(h:Jy w ps rows cut k)(hk:Kp w w' X)(hX:∀j,cut 0≤j→j<cut k→¬X j):Jy w' ps rows cut k:=fun j hj=>by
 obtain⟨c0,a,b,c,e,m,l⟩:=h j hj;have h1:=h.cuts j (by omega);have h2:=h.ends (k-(j+1)) (j+1) (by omega);exact⟨c0,a,b,c,e,m.kp hk (fun i hi _ ho=>hX i (by omega) (Nat.lt_of_lt_of_le (l i ho) h2)),l⟩
def Q9(w:World)(base hi:Nat)(v:Value)(ps:List Ck):Prop:=∃rows cut,OG 138 18 w base v rows∧rows.length=ps.length∧(∀j,v.ownBlock=some j→j<cut 0)∧base≤cut 0∧cut ps.length≤hi∧Jy w ps rows cut ps.length
theorem Q9.below{w w':World}{base hi:Nat}{v:Value}{ps:List Ck}(h:Q9 w base hi v ps)(hb:Below w.heap.size w w'):Q9 w' base hi v ps:=by
 obtain⟨rows,cut,g,l,t,c0,c1,a⟩:=h;exact⟨rows,cut,g.below hb,l,t,c0,c1,a.below hb⟩
theorem Q9.kp{w w':World}{X:Nat→Prop}{base hi:Nat}{v:Value}{ps:List Ck}(h:Q9 w base hi v ps)(k:Kp w w' X)(hX:∀j,base≤j→j<hi→¬X j):Q9 w' base hi v ps:=by
 obtain⟨rows,cut,g,l,t,c0,c1,a⟩:=h;have h1:=a.cuts _ Af;exact⟨rows,cut,g.kp k (fun j e=>hX j (g.lt j e).1 (by have:=t j e;omega)),l,t,c0,c1,a.kp k (fun j h2 h3=>hX j (by omega) (by omega))⟩
theorem Q9.mono{w:World}{base base' hi hi':Nat}{v:Value}{ps:List Ck}(h:Q9 w base hi v ps)(hb:base'≤base)(hh:hi≤hi'):Q9 w base' hi' v ps:=by
 obtain⟨rows,cut,g,l,t,c0,c1,a⟩:=h;exact⟨rows,cut,g.mono hb,l,t,by omega,by omega,a⟩
theorem Q9.y8{w:World}{base hi:Nat}{v:Value}{ps:List Ck}(h:Q9 w base hi v ps):VX w base v ps:=by
 obtain⟨rows,cut,g,l,t,c0,c1,a⟩:=h;exact⟨rows,g,l,fun j hj=>by obtain⟨_,x,y,z,e,m,_⟩:=a j hj;exact⟨x,y,z,e,m.mono (by have:=a.cuts j (by omega);omega)⟩⟩
theorem Q9.form{w:World}{base hi:Nat}{v:Value}{ps:List Ck}(h:Q9 w base hi v ps):∃ao ca,v= .slice ao ps.length ca:=h.y8.form
theorem Q9.none(w:World)(base hi:Nat)(h:base≤hi):Q9 w base hi (.slice none 0 0) []:=⟨[],fun _=>base,OG.nil w base,rfl,fun j e=>(by cases e),Nat.le_refl _,h,fun j hj=>absurd hj (Nat.not_lt_zero j)⟩
theorem Vu(v:Value)(ps:List Ck)(w:World)(hl:ps.length≤1048577)(h:K8 w v ps):
 Calls Tryz.prog 38 #[v] w fun e w'=>∃u,e= .returned u∧Q9 w' w.heap.size w'.heap.size u ps∧Below w.heap.size w w':=by
 obtain⟨i0,hi,hz0,hz1,hz2⟩:=info_parts Tryz.infoPo;obtain⟨ao,ca,rfl⟩:=h.form;have H:=hide h;obtain⟨n,hn⟩:∃n,ps.length=n:=⟨_,rfl⟩
 have Hn:=hide hn;rw[hn]at hl H⊢;clear h hn;go_enter Tryz.func38,Tryz.ntmps38
 go_wp2_with (first|(at_make;refine wpList_make_full _ rfl _ _ 44 rfl w.heap.size 138 i0 (ZH 0 IQ (.slice none 0 0) (.slice none 0 0) (.slice none 0 0)) 18 Tryz.underlying44 hi hz0 hz1 .i64 .i64 _ _ n rfl rfl rfl rfl (by rw[hz2];omega) (by unfold maxLen;omega) Af ?_;intro w0 ho0 hg0))
 have T0:OG 138 18 w0 w.heap.size (.slice (some ⟨w.heap.size,0,none⟩) n n) ([]++List.replicate (n-0) (Hd 0 IQ (.slice none 0 0) (.slice none 0 0) (.slice none 0 0))):=OG.made (z:=#[.int .i64 0,.int .i64 IQ.k,.int .i64 IQ.vw,.string IQ.bn,.int .i64 IQ.bv,.string IQ.bs,.slice none 0 0,.int .i64 IQ.pv,.string IQ.ps,.slice none 0 0,.int .i64 IQ.qv,.string IQ.qs,.slice none 0 0,.int .i64 IQ.wh,.int .i64 IQ.fr,.int .i64 IQ.tu,.int .i64 IQ.am,.int .i64 IQ.no]) (by decide) ho0;have B0:Below w.heap.size w w0:=(Below.refl _ _).grown hg0 Af (by simp);have z0:w.heap.size+1≤w0.heap.size:=(T0.lt w.heap.size rfl).2;clear ho0 hg0 hz0 hz1 hz2 hi
 go_loopw [4] (fun i wr=>∃(k:Nat)(R:List (List Value))(cut:Nat→Nat),k≤n∧i= .int .i64 k∧R.length=k∧OG 138 18 wr w.heap.size (.slice (some ⟨w.heap.size,0,none⟩) n n) (R++List.replicate (n-k) (Hd 0 IQ (.slice none 0 0) (.slice none 0 0) (.slice none 0 0)))∧(cut 0=w.heap.size+1∧cut k≤wr.heap.size∧Jy wr ps R cut k)∧Below w.heap.size w wr∧w.heap.size+1≤wr.heap.size) (fun i _=>n-(intOf i).toNat)
 case atStart=>exact⟨0,[],fun _=>w.heap.size+1,Nat.zero_le _,rfl,rfl,T0,⟨rfl,z0,fun j hj=>by omega⟩,B0,z0⟩
 case round=>
  clear T0 B0 z0;obtain⟨k,R,cut,hk,rfl,hR,T,⟨cz,ck,A⟩,br,zr⟩:=hrel;have CZ:=hide cz;have CK:=hide ck;clear cz ck;by_cases hlt:k<n
  ·have hkx:k<ps.length:=by have:=Hn.out;omega
   have HR:=H.out.below br;obtain⟨g,off,cs,rfl,_,c1,a,b,c,e,ra,rb,rc⟩:=RG.at HR k hkx;subst e;obtain⟨x,hx⟩:∃x,ps.getD k AX=x:=⟨_,rfl⟩
   have Hx:=hide hx;rw[hx]at c1 ra rb rc;clear hx;obtain⟨m,t⟩:=x;simp only at c1 ra rb rc;have TP:=hide fun w h1 h2 h3=>YS m t a b c t.bw t.pw t.qw w h1 h2 h3;obtain⟨oa,ka,rfl⟩:=ra.form;obtain⟨ob,kb,rfl⟩:=rb.form;obtain⟨oc,kc,rfl⟩:=rc.form;have RA:=hide ra;have RB:=hide rb;have RC:=hide rc;have HT:=hide T;have HA:=hide A;have kV:=hide hR;generalize t.bw.length=xl at *;generalize t.pw.length=yl at *;generalize t.qw.length=zl at *;clear HR H ra rb rc T A hR;go_wp2_with (first|(refine A7 _ c1 129 _ rfl _ rfl rfl Tryz.underlying129 rfl (by kernel_rfl) ?_))
   refine(TP.out _ RA.out RB.out RC.out).mono ?_;rintro e w2 ⟨u,v,x,rfl,m2,b2⟩;obtain⟨aX,kX,bX,lX,cX,nX,rfl,rfl,rfl⟩:=m2.form;have T2:=HT.out.below b2;have A2:=HA.out.below b2;have B2:=bu br b2;have z2:=b2.size;have hlen:(R++List.replicate (n-k) (Hd 0 IQ (.slice none 0 0) (.slice none 0 0) (.slice none 0 0))).length=n:=by have:=kV.out;simp;omega
   obtain⟨_,th⟩:=OG.at (g:=w.heap.size) (cap:=n) (by rw[hlen];exact T2) k (by rw[hlen];exact hlt);have ST:=hide (OG.set (m:=18) (g:=w.heap.size) (cap:=n) (by rw[hlen];exact T2) (by decide) k (by rw[hlen];exact hlt) (Hd m t (.slice aX t.bw.length kX) (.slice bX t.pw.length lX) (.slice cX t.qw.length nX)) rfl);have M2:=hide m2;have A2h:=hide A2;have BR:=hide B2;clear T2 HT HA A2 B2 m2 RA RB RC TP c1 b2;generalize t.bw.length=xl at *;generalize t.pw.length=yl at *;generalize t.qw.length=zl at *;go_upto_region 4 with(refine En #[.int .i64 m,.int .i64 t.k,.int .i64 t.vw,.string t.bn,.int .i64 t.bv,.string t.bs,.slice aX xl kX,.int .i64 t.pv,.string t.ps,.slice bX yl lX,.int .i64 t.qv,.string t.qs,.slice cX zl nX,.int .i64 t.wh,.int .i64 t.fr,.int .i64 t.tu,.int .i64 t.am,.int .i64 t.no] th 138 rfl _ _ rfl rfl rfl (by kernel_rfl) (by simp[Value.oneCell']) ?_)
   obtain⟨w3,h3⟩:∃y,w2.setCells w.heap.size (k*18) ([.int .i64 m,.int .i64 t.k,.int .i64 t.vw,.string t.bn,.int .i64 t.bv,.string t.bs,.slice aX xl kX,.int .i64 t.pv,.string t.ps,.slice bX yl lX,.int .i64 t.qv,.string t.qs,.slice cX zl nX,.int .i64 t.wh,.int .i64 t.fr,.int .i64 t.tu,.int .i64 t.am,.int .i64 t.no])=y:=⟨_,rfl⟩
   rw[h3];rw[show Hd m t (.slice aX xl kX) (.slice bX yl lX) (.slice cX zl nX)=[.int .i64 m,.int .i64 t.k,.int .i64 t.vw,.string t.bn,.int .i64 t.bv,.string t.bs,.slice aX xl kX,.int .i64 t.pv,.string t.ps,.slice bX yl lX,.int .i64 t.qv,.string t.qs,.slice cX zl nX,.int .i64 t.wh,.int .i64 t.fr,.int .i64 t.tu,.int .i64 t.am,.int .i64 t.no] from rfl,h3]at ST;clear h3;go_wp2
   go_roundw
   case rel=>
    obtain⟨S1,KS⟩:=ST.out;rw[Sj kV.out hlt]at S1;rw[hlen]at S1;have hR:=kV.out;have cz:=CZ.out;have ck:=CK.out;have A2:=A2h.out;have M2:=M2.out;have MC:=M2.lt;have k3:=KS.size;obtain⟨yJ,hcl,hch⟩:∃c2:Nat→Nat,(∀j,j≤k→c2 j=cut j)∧c2 (k+1)=w2.heap.size:=⟨fun j=>if j≤k then cut j else w2.heap.size,fun j hj=>if_pos hj,if_neg (by omega)⟩
    refine⟨k+1,_,yJ,by omega,by go_num,by simp[hR],S1,⟨(hcl 0 (by omega)).trans cz,by rw[hch];exact k3,fun j hj=>?_⟩,Below.kp BR.out KS BR.out.size (fun i hi=>by omega),by have:=KS.size;omega⟩;by_cases e:j<k
    ·obtain⟨c0,x,y,z,e1,e2,e3⟩:=A2 j e;have h0:=A2.cuts j (by omega);rw[hcl j (by omega),hcl (j+1) (by omega)];refine⟨c0,x,y,z,?_,e2.kp KS (fun i h1 _ _=>by omega),e3⟩;rw[List.getD_eq_getElem?_getD,List.getElem?_append_left (by omega),←List.getD_eq_getElem?_getD];exact e1
    obtain rfl:j=k:=by omega
    have h0:=A2.cuts j Af;rw[hcl j Af,hch];refine⟨by omega,_,_,_,?_,(by rw[Hx.out];exact(M2.mono (by omega)).kp KS (fun i h1 _ _=>by omega)),fun i hi=>?_⟩
    ·rw[Hx.out,List.getD_eq_getElem?_getD,List.getElem?_append_right (by omega),hR,Nat.sub_self];rfl
    rcases hi with hi|hi|hi
    ·exact(MC.1 i hi).2
    ·exact(MC.2.1 i hi).2
    exact(MC.2.2 i hi).2
   case measure=>simp[intOf];omega
  obtain rfl:k=n:=by omega
  have T':=hide T;have A':=hide A;clear T A H;go_wp2;go_ret;have A2:=A'.out;have cz:=CZ.out;have ck:=CK.out;have hn2:=Hn.out;refine⟨_,rfl,⟨R,cut,?_,by rw[hR,Hn.out],fun j hj=>?_,by omega,by rw[hn2];exact ck,by rw[hn2];exact A2⟩,br⟩
  ·have:=T'.out;rw[Nat.sub_self,List.replicate_zero,List.append_nil]at this;exact this
  have h1:some w.heap.size=some j:=hj;cases h1
  omega
theorem Ri(v:Value)(ps:List Ck)(w:World)(hl:ps.length≤1048577)(hs:∀j,j<ps.length→MZ (ps.getD j AX).2)(h:K8 w v ps):
 Calls Tryz.prog 105 #[v] w fun e w'=>∃u,e= .returned u∧Q9 w' w.heap.size w'.heap.size u ps∧Below w.heap.size w w':=by
 obtain⟨i0,hi,hz0,hz1,hz2⟩:=info_parts Tryz.infoPo;obtain⟨ao,ca,rfl⟩:=h.form;have H:=hide h;have HS:=hide hs;clear hs;obtain⟨n,hn⟩:∃n,ps.length=n:=⟨_,rfl⟩
 have Hn:=hide hn;rw[hn]at hl H⊢;clear h hn;go_enter Tryz.func105,Tryz.ntmps105
 go_wp2_with (first|(at_make;refine wpList_make_full _ rfl _ _ 44 rfl w.heap.size 138 i0 (ZH 0 IQ (.slice none 0 0) (.slice none 0 0) (.slice none 0 0)) 18 Tryz.underlying44 hi hz0 hz1 .i64 .i64 _ _ n rfl rfl rfl rfl (by rw[hz2];omega) (by unfold maxLen;omega) Af ?_;intro w0 ho0 hg0))
 have T0:OG 138 18 w0 w.heap.size (.slice (some ⟨w.heap.size,0,none⟩) n n) ([]++List.replicate (n-0) (Hd 0 IQ (.slice none 0 0) (.slice none 0 0) (.slice none 0 0))):=OG.made (z:=#[.int .i64 0,.int .i64 IQ.k,.int .i64 IQ.vw,.string IQ.bn,.int .i64 IQ.bv,.string IQ.bs,.slice none 0 0,.int .i64 IQ.pv,.string IQ.ps,.slice none 0 0,.int .i64 IQ.qv,.string IQ.qs,.slice none 0 0,.int .i64 IQ.wh,.int .i64 IQ.fr,.int .i64 IQ.tu,.int .i64 IQ.am,.int .i64 IQ.no]) (by decide) ho0;have B0:Below w.heap.size w w0:=(Below.refl _ _).grown hg0 Af (by simp);have z0:w.heap.size+1≤w0.heap.size:=(T0.lt w.heap.size rfl).2;clear ho0 hg0 hz0 hz1 hz2 hi
 go_loopw [11] (fun i wr=>∃(k:Nat)(R:List (List Value))(cut:Nat→Nat),k≤n∧i= .int .i64 k∧R.length=k∧OG 138 18 wr w.heap.size (.slice (some ⟨w.heap.size,0,none⟩) n n) (R++List.replicate (n-k) (Hd 0 IQ (.slice none 0 0) (.slice none 0 0) (.slice none 0 0)))∧(cut 0=w.heap.size+1∧cut k≤wr.heap.size∧Jy wr ps R cut k)∧Below w.heap.size w wr∧w.heap.size+1≤wr.heap.size) (fun i _=>n-(intOf i).toNat)
 case atStart=>exact⟨0,[],fun _=>w.heap.size+1,Nat.zero_le _,rfl,rfl,T0,⟨rfl,z0,fun j hj=>by omega⟩,B0,z0⟩
 case round=>
  clear T0 B0 z0;obtain⟨k,R,cut,hk,rfl,hR,T,⟨cz,ck,A⟩,br,zr⟩:=hrel;have CZ:=hide cz;have CK:=hide ck;clear cz ck;by_cases hlt:k<n
  ·have hkx:k<ps.length:=by have:=Hn.out;omega
   have HR:=H.out.below br;obtain⟨g,off,cs,rfl,_,c1,a,b,c,e,ra,rb,rc⟩:=RG.at HR k hkx;subst e;obtain⟨x,hx⟩:∃x,ps.getD k AX=x:=⟨_,rfl⟩
   have Hx:=hide hx;rw[hx]at c1 ra rb rc;clear hx;obtain⟨m,t⟩:=x;simp only at c1 ra rb rc;have hz:=HS.out k hkx;rw[Hx.out]at hz;obtain⟨oa,ka,rfl⟩:=ra.form;obtain⟨ob,kb,rfl⟩:=rb.form;obtain⟨oc,kc,rfl⟩:=rc.form;have TP:=hide fun w h1 h2 h3=>ZI m t oa ob oc ka kb kc w hz h1 h2 h3;clear hz;have RA:=hide ra;have RB:=hide rb;have RC:=hide rc;have HT:=hide T;have HA:=hide A;have kV:=hide hR;generalize t.bw.length=xl at *;generalize t.pw.length=yl at *;generalize t.qw.length=zl at *;clear HR H ra rb rc T A hR;go_upto_region 5 with(first|(refine A7 _ c1 138 _ rfl _ rfl rfl Tryz.underlying138 rfl (by kernel_rfl) ?_)|(refine BL (AB wr #[.int .i64 0,.int .i64 0,.int .i64 0,.string ⟨#[]⟩,.int .i64 0,.string ⟨#[]⟩,.slice none 0 0,.int .i64 0,.string ⟨#[]⟩,.slice none 0 0,.int .i64 0,.string ⟨#[]⟩,.slice none 0 0,.int .i64 0,.int .i64 0,.int .i64 0,.int .i64 0,.int .i64 0] 138 rfl) 138 #[.int .i64 m,.int .i64 t.k,.int .i64 t.vw,.string t.bn,.int .i64 t.bv,.string t.bs,.slice oa xl ka,.int .i64 t.pv,.string t.ps,.slice ob yl kb,.int .i64 t.qv,.string t.qs,.slice oc zl kc,.int .i64 t.wh,.int .i64 t.fr,.int .i64 t.tu,.int .i64 t.am,.int .i64 t.no] rfl _ _ rfl rfl rfl (by kernel_rfl) rfl (by simp[Value.oneCell']) ?_))
   obtain⟨w1,hw1⟩:∃y,(wr.alloc (.cells #[.int .i64 0,.int .i64 0,.int .i64 0,.string ⟨#[]⟩,.int .i64 0,.string ⟨#[]⟩,.slice none 0 0,.int .i64 0,.string ⟨#[]⟩,.slice none 0 0,.int .i64 0,.string ⟨#[]⟩,.slice none 0 0,.int .i64 0,.int .i64 0,.int .i64 0,.int .i64 0,.int .i64 0] 138)).setRow wr.heap.size #[.int .i64 m,.int .i64 t.k,.int .i64 t.vw,.string t.bn,.int .i64 t.bv,.string t.bs,.slice oa xl ka,.int .i64 t.pv,.string t.ps,.slice ob yl kb,.int .i64 t.qv,.string t.qs,.slice oc zl kc,.int .i64 t.wh,.int .i64 t.fr,.int .i64 t.tu,.int .i64 t.am,.int .i64 t.no]=y:=⟨_,rfl⟩
   rw[hw1];have b1:Below wr.heap.size wr w1:=hw1▸Da _ _ _ _;have X:Loc w1 wr.heap.size #[.int .i64 m,.int .i64 t.k,.int .i64 t.vw,.string t.bn,.int .i64 t.bv,.string t.bs,.slice oa xl ka,.int .i64 t.pv,.string t.ps,.slice ob yl kb,.int .i64 t.qv,.string t.qs,.slice oc zl kc,.int .i64 t.wh,.int .i64 t.fr,.int .i64 t.tu,.int .i64 t.am,.int .i64 t.no]:=hw1▸Fh _ _ _ _;clear hw1;have s1:=b1.size;replace RA:=hide (RA.out.below b1);replace RB:=hide (RB.out.below b1);replace RC:=hide (RC.out.below b1);replace HT:=hide (HT.out.below b1);replace HA:=hide (HA.out.below b1);replace br:=bu br b1;go_wp2_with (first|(refine Al X 138 _ rfl _ rfl rfl Tryz.underlying138 rfl (by kernel_rfl) ?_))
   clear b1 X c1;refine(TP.out _ RA.out RB.out RC.out).mono ?_;rintro e w2 ⟨u,v,x,rfl,m2,b2⟩;obtain⟨aX,kX,bX,lX,cX,nX,rfl,rfl,rfl⟩:=m2.form;have T2:=HT.out.below b2;have A2:=HA.out.below b2;have B2:=bu br b2;have z2:=b2.size;have hlen:(R++List.replicate (n-k) (Hd 0 IQ (.slice none 0 0) (.slice none 0 0) (.slice none 0 0))).length=n:=by have:=kV.out;simp;omega
   obtain⟨_,th⟩:=OG.at (g:=w.heap.size) (cap:=n) (by rw[hlen];exact T2) k (by rw[hlen];exact hlt);have ST:=hide (OG.set (m:=18) (g:=w.heap.size) (cap:=n) (by rw[hlen];exact T2) (by decide) k (by rw[hlen];exact hlt) (Hd m t (.slice aX t.bw.length kX) (.slice bX t.pw.length lX) (.slice cX t.qw.length nX)) rfl);have M2:=hide m2;have A2h:=hide A2;have BR:=hide B2;clear T2 HT HA A2 B2 m2 RA RB RC TP b2 HS;generalize t.bw.length=xl at *;generalize t.pw.length=yl at *;generalize t.qw.length=zl at *;go_upto_region 6 with(refine En #[.int .i64 m,.int .i64 t.k,.int .i64 t.vw,.string t.bn,.int .i64 t.bv,.string t.bs,.slice aX xl kX,.int .i64 t.pv,.string t.ps,.slice bX yl lX,.int .i64 t.qv,.string t.qs,.slice cX zl nX,.int .i64 t.wh,.int .i64 t.fr,.int .i64 t.tu,.int .i64 t.am,.int .i64 t.no] th 138 rfl _ _ rfl rfl rfl (by kernel_rfl) (by simp[Value.oneCell']) ?_)
   obtain⟨w3,h3⟩:∃y,w2.setCells w.heap.size (k*18) ([.int .i64 m,.int .i64 t.k,.int .i64 t.vw,.string t.bn,.int .i64 t.bv,.string t.bs,.slice aX xl kX,.int .i64 t.pv,.string t.ps,.slice bX yl lX,.int .i64 t.qv,.string t.qs,.slice cX zl nX,.int .i64 t.wh,.int .i64 t.fr,.int .i64 t.tu,.int .i64 t.am,.int .i64 t.no])=y:=⟨_,rfl⟩
   rw[h3];rw[show Hd m t (.slice aX xl kX) (.slice bX yl lX) (.slice cX zl nX)=[.int .i64 m,.int .i64 t.k,.int .i64 t.vw,.string t.bn,.int .i64 t.bv,.string t.bs,.slice aX xl kX,.int .i64 t.pv,.string t.ps,.slice bX yl lX,.int .i64 t.qv,.string t.qs,.slice cX zl nX,.int .i64 t.wh,.int .i64 t.fr,.int .i64 t.tu,.int .i64 t.am,.int .i64 t.no] from rfl,h3]at ST;clear h3;go_wp2
   go_roundw
   case rel=>
    obtain⟨S1,KS⟩:=ST.out;rw[Sj kV.out hlt]at S1;rw[hlen]at S1;have hR:=kV.out;have cz:=CZ.out;have ck:=CK.out;have A2:=A2h.out;have M2:=M2.out;have MC:=M2.lt;have k3:=KS.size;obtain⟨yJ,hcl,hch⟩:∃c2:Nat→Nat,(∀j,j≤k→c2 j=cut j)∧c2 (k+1)=w2.heap.size:=⟨fun j=>if j≤k then cut j else w2.heap.size,fun j hj=>if_pos hj,if_neg (by omega)⟩
    refine⟨k+1,_,yJ,by omega,by go_num,by simp[hR],S1,⟨(hcl 0 (by omega)).trans cz,by rw[hch];exact k3,fun j hj=>?_⟩,Below.kp BR.out KS BR.out.size (fun i hi=>by omega),by have:=KS.size;omega⟩;by_cases e:j<k
    ·obtain⟨c0,x,y,z,e1,e2,e3⟩:=A2 j e;have h0:=A2.cuts j (by omega);rw[hcl j (by omega),hcl (j+1) (by omega)];refine⟨c0,x,y,z,?_,e2.kp KS (fun i h1 _ _=>by omega),e3⟩;rw[List.getD_eq_getElem?_getD,List.getElem?_append_left (by omega),←List.getD_eq_getElem?_getD];exact e1
    obtain rfl:j=k:=by omega
    have h0:=A2.cuts j Af;rw[hcl j Af,hch];refine⟨by omega,_,_,_,?_,(by rw[Hx.out];exact(M2.mono (by omega)).kp KS (fun i h1 _ _=>by omega)),fun i hi=>?_⟩
    ·rw[Hx.out,List.getD_eq_getElem?_getD,List.getElem?_append_right (by omega),hR,Nat.sub_self];rfl
    rcases hi with hi|hi|hi
    ·exact(MC.1 i hi).2
    ·exact(MC.2.1 i hi).2
    exact(MC.2.2 i hi).2
   case measure=>simp[intOf];omega
  obtain rfl:k=n:=by omega
  have T':=hide T;have A':=hide A;clear T A H;go_wp2;go_ret;have A2:=A'.out;have cz:=CZ.out;have ck:=CK.out;have hn2:=Hn.out;refine⟨_,rfl,⟨R,cut,?_,by rw[hR,Hn.out],fun j hj=>?_,by omega,by rw[hn2];exact ck,by rw[hn2];exact A2⟩,br⟩
  ·have:=T'.out;rw[Nat.sub_self,List.replicate_zero,List.append_nil]at this;exact this
  have h1:some w.heap.size=some j:=hj;cases h1
  omega
end
end Go.Proofs.YtcjmcgolgbkknaaGreatDoor
