/- Lemmas; their conditions stand in each statement. -/
import Derived.Test.YtcjmcgolgbkknaaGreatDoorWRBF
set_option maxRecDepth 100000
set_option maxHeartbeats 16000000
set_option linter.unusedSectionVars false
set_option linter.unusedSimpArgs false
namespace Go.Proofs.YtcjmcgolgbkknaaGreatDoor
section
open Go Go.RowKit
variable [∀(a b c d:Int),Decidable (BK a b c d)] [∀(n f:Int),Decidable (A9 n f)] [∀(a b c d:Nat),Decidable (Dc a b c d)] [∀(x:T4),Decidable (Dv x)] [∀(last:Int)(s:St),Decidable (Ak last s)] [∀(n:Int)(s:List Int),Decidable (Dw n s)]
theorem Kp.cut{w w':World}{X:Nat→Prop}(k:Kp w w' X):Kp w w' (fun j=>X j∧j<w.heap.size):=⟨k.os,k.tape,k.output,k.size,fun j hj hx=>k.block j hj (fun e=>hx ⟨e,hj⟩)⟩
def Fz(w:World)(lo hi:Nat)(t:Bv)(a b c d e:Value):Prop:=hi≤w.heap.size∧∀(w':World)(X:Nat→Prop),Kp w w' X→(∀j,lo≤j→j<hi→¬X j)→EI w' t a b c d e
theorem Fz.kp{w w':World}{lo hi:Nat}{t:Bv}{a b c d e:Value}{X:Nat→Prop}(h:Fz w lo hi t a b c d e)(k:Kp w w' X)(hx:∀j,lo≤j→j<hi→¬X j):Fz w' lo hi t a b c d e:=
 ⟨Nat.le_trans h.1 k.size,fun w'' Y k' hy=>h.2 w'' (fun j=>X j∨Y j) ((k.mono (fun _=>Or.inl)).trans (k'.mono (fun _=>Or.inr))) (fun j h1 h2 e=>e.elim (hx j h1 h2) (hy j h1 h2))⟩
theorem Fz.below{w w':World}{lo hi:Nat}{t:Bv}{a b c d e:Value}(h:Fz w lo hi t a b c d e)(b':Below w.heap.size w w'):Fz w' lo hi t a b c d e:=h.kp (Below.Bf b' (fun _=>False)) (fun _ _ _ h=>h)
theorem Fz.mono{w:World}{lo lo' hi hi':Nat}{t:Bv}{a b c d e:Value}(h:Fz w lo hi t a b c d e)(h1:lo'≤lo)(h2:hi≤hi')(h3:hi'≤w.heap.size):Fz w lo' hi' t a b c d e:=
 ⟨h3,fun w' X k hx=>h.2 w' X k (fun j a b=>hx j (Nat.le_trans h1 a) (Nat.lt_of_lt_of_le b h2))⟩
theorem Fz.Aq{w:World}{lo hi:Nat}{t:Bv}{a b c d e:Value}(h:Fz w lo hi t a b c d e):EI w t a b c d e:=h.2 w (fun _=>False) (Kp.refl _ _) (fun _ _ _ h=>h)
theorem Wo(w:World):OT (w.alloc (.cells #[] 73)) w.heap.size (.slice (some ⟨w.heap.size,0,none⟩) 0 0) []:=by
 have:=World.ownsRow_lit (base:=w.heap.size) (e:=73) (size:=4) w #[] 0 Af (by unfold maxLen;omega) (by simp);simpa[OT,Au]using this
theorem XF(t:Bv)(ao bo co od oe:Option Addr)(ca cb cc cd ce:Nat)(w:World)(hm:J8 t)(h:EI w t (.slice ao t.qw.length ca) (.slice bo t.pool.length cb) (.slice co t.tab.length cc) (.slice od t.AY.length cd) (.slice oe t.held.length ce)):
 Calls Tryz.prog 31 #[FX t (.slice ao t.qw.length ca) (.slice bo t.pool.length cb) (.slice co t.tab.length cc) (.slice od t.AY.length cd) (.slice oe t.held.length ce)] w fun e w'=>∃a' b' c' d' e',e= .returned (FX t a' b' c' d' e')∧Fz w' w.heap.size w'.heap.size t a' b' c' d' e'∧Below w.heap.size w w':=by
 have T1:=hide fun w' h=>NZ t.vo t.lo t.n t.s ao ca t.qw t.d w' h;have T2:=hide fun w' h=>Lg od t.AY.length cd t.su t.AY w' h (by have:=hm.d;omega);have T3:=hide fun v w' h=>Ue v t.tab w' (by have:=hm.tb;omega) h;have wO:=hide fun v w' h=>Ud v t.held w' hm.h h;have HR:=hide h;have HM:=hide hm;have hpl:=hm.p;clear h hm;obtain⟨w0,hw0,AO,P,O,Cm⟩:=El w #[.int .i64 t.id,.int .i64 t.vw,.int .i64 t.ak,.int .i64 t.vo,.int .i64 t.lo,.int .i64 t.n,.string t.s,.slice ao t.qw.length ca,.string t.d,.slice bo t.pool.length cb,.slice co t.tab.length cc,.slice od t.AY.length cd,.int .i64 t.su,.slice oe t.held.length ce] 46 #[.int .i64 0,.int .i64 0,.int .i64 0,.int .i64 0,.int .i64 0,.int .i64 0,.string ⟨#[]⟩,.slice none 0 0,.string ⟨#[]⟩,.slice none 0 0,.slice none 0 0,.slice none 0 0,.int .i64 0,.slice none 0 0] 46;go_enter Tryz.func31,Tryz.ntmps31
 have K:Hid (∀w',Kp w0 w' (fun k=>k=w.heap.size+1)→(fun w'=>Kp w0 w' (fun k=>k=w.heap.size+1)∧Loc w' (w.heap.size) #[.int .i64 t.id,.int .i64 t.vw,.int .i64 t.ak,.int .i64 t.vo,.int .i64 t.lo,.int .i64 t.n,.string t.s,.slice ao t.qw.length ca,.string t.d,.slice bo t.pool.length cb,.slice co t.tab.length cc,.slice od t.AY.length cd,.int .i64 t.su,.slice oe t.held.length ce]) w'):=hide fun w' hk'=>⟨hk',P.kp hk' (by omega)⟩
 go_upto_region 1 with fail
 clear hw0;refine zU K (fun kg bA bb hHeld=>?_);have GY:=bu AO bb;have mQ:=bb.size;replace P:=P.up bb;replace O:=O.up bb;clear AO bb;refine tx 0 3 ?_;refine tx 2 5 ?_;refine tx 4 7 ?_;refine tx 6 9 ?_;refine tx 10 13 ?_;refine tx 13 16 ?_;refine tx 16 19 ?_;refine tx 19 22 ?_;refine take_at (i:=1) (d:=4) (v:=?_) rfl rfl (by kernel_rfl) (by kernel_rfl) (by kernel_rfl) (fun _ _ _ h=>h) (Or.inl ⟨by rfl,?_⟩) (by assumption) ?_
 rotate_left
 ·intro w hSw
  try dsimp only at hSw
  have h:=hSw;have hc0:=(h.2).cell 0 rfl;clear h hSw;go_simp
  try with_reducible rfl
 simp only[pU];refine take_at (i:=3) (d:=6) (v:=?_) rfl rfl (by kernel_rfl) (by kernel_rfl) (by kernel_rfl) (fun _ _ _ h=>h) (Or.inl ⟨by rfl,?_⟩) (by assumption) ?_
 rotate_left
 ·intro w hSw
  try dsimp only at hSw
  have h:=hSw;have hc1:=(h.2).cell 1 rfl;clear h hSw;go_simp
  try with_reducible rfl
 simp only[pU];refine take_at (i:=5) (d:=8) (v:=?_) rfl rfl (by kernel_rfl) (by kernel_rfl) (by kernel_rfl) (fun _ _ _ h=>h) (Or.inl ⟨by rfl,?_⟩) (by assumption) ?_
 rotate_left
 ·intro w hSw
  try dsimp only at hSw
  have h:=hSw;have hc2:=(h.2).cell 2 rfl;clear h hSw;go_simp
  try with_reducible rfl
 simp only[pU];refine take_at (i:=7) (d:=10) (v:= .agg #[.int .i64 t.vo,.int .i64 t.lo,.int .i64 t.n,.string t.s,.slice ao t.qw.length ca,.string t.d]) rfl rfl (by kernel_rfl) (by kernel_rfl) (by kernel_rfl) (fun _ _ _ h=>h) ?_ (by assumption) ?_
 ·exact BA rfl 40 _ rfl rfl [.int .i64 t.vo,.int .i64 t.lo,.int .i64 t.n,.string t.s,.slice ao t.qw.length ca,.string t.d] _ (fun w h=>(h.2).range 3 6 rfl) Tryz.underlying40 rfl (by kernel_rfl)
 simp only[pU];refine take_at (i:=11) (d:=14) (v:=?_) rfl rfl (by kernel_rfl) (by kernel_rfl) (by kernel_rfl) (fun _ _ _ h=>h) (Or.inl ⟨by rfl,?_⟩) (by assumption) ?_
 rotate_left
 ·intro w hSw
  try dsimp only at hSw
  have h:=hSw;have hc9:=(h.2).cell 9 rfl;clear h hSw;go_simp
  try with_reducible rfl
 simp only[pU];refine take_at (i:=14) (d:=17) (v:=?_) rfl rfl (by kernel_rfl) (by kernel_rfl) (by kernel_rfl) (fun _ _ _ h=>h) (Or.inl ⟨by rfl,?_⟩) (by assumption) ?_
 rotate_left
 ·intro w hSw
  try dsimp only at hSw
  have h:=hSw;have ADV:=(h.2).cell 10 rfl;clear h hSw;go_simp
  try with_reducible rfl
 simp only[pU];refine take_at (i:=17) (d:=20) (v:= .agg #[.slice od t.AY.length cd,.int .i64 t.su]) rfl rfl (by kernel_rfl) (by kernel_rfl) (by kernel_rfl) (fun _ _ _ h=>h) ?_ (by assumption) ?_
 ·exact BA rfl 43 _ rfl rfl [.slice od t.AY.length cd,.int .i64 t.su] _ (fun w h=>(h.2).range 11 2 rfl) Tryz.underlying43 rfl (by kernel_rfl)
 simp only[pU];refine take_at (i:=20) (d:=23) (v:=?_) rfl rfl (by kernel_rfl) (by kernel_rfl) (by kernel_rfl) (fun _ _ _ h=>h) (Or.inl ⟨by rfl,?_⟩) (by assumption) ?_
 rotate_left
 ·intro w hSw
  try dsimp only at hSw
  have h:=hSw;have ADU:=(h.2).cell 13 rfl;clear h hSw;go_simp
  try with_reducible rfl
 simp only[pU];refine wpAnyH_ready (rs:=[8,9]) (by kernel_rfl) (by simp) (AllReadyH.cons rfl (fun KK AA=>?_) (AllReadyH.cons rfl (fun KK AA=>?_) AllReadyH.nil))
 ·go_simp;refine(T1.out _ (HR.out.q.below GY)).mono ?_;rintro e CE ⟨u,rfl,oA,bb⟩;have JW:Kp w0 CE (fun k=>k=w.heap.size+1):=bA.trans (Below.Bf bb _);clear hHeld;refine AA.out _ _ (K.out _ JW) (fun hHeld=>?_);clear AA KK bA;have DU:=bu GY bb;have mO:=bb.size;replace P:=P.up bb;replace O:=O.up bb;clear GY bb;have toA:=World.ownsRow.lt oA;obtain⟨EG,D_,rfl⟩:=oA.form;refine rd 9 rfl (fun KK AA=>?_);go_simp;obtain⟨NP,hq⟩:∃y,CE.alloc (.cells #[] 73)=y:=⟨_,rfl⟩
  rw[hq];have bb:Below CE.heap.size CE NP:=hq▸Ac _ _;have Tf:Kp w0 NP (fun k=>k=w.heap.size+1):=JW.trans (Below.Bf bb _);obtain⟨h9,og⟩:∃m,CE.heap.size=m:=⟨_,rfl⟩
  have oN:OT NP h9 (.slice (some ⟨h9,0,none⟩) 0 0) []:=og▸hq▸Wo CE;rw[og];have h91:=Nat.le_of_eq og;have h92:=Nat.le_of_eq og.symm;clear hHeld hq og;refine AA.out _ _ (K.out _ Tf) (fun hHeld=>?_);clear AA KK JW;have NL:=bu DU bb;have xJ:=bb.size;replace P:=P.up bb;replace O:=O.up bb;replace oA:=oA.below bb;clear DU bb;have toN:=World.ownsRow.lt oN;have h93:=(toN h9 rfl).2;refine rd 12 rfl (fun KK AA=>?_);refine F6 rfl (.tmp 12) (.tmp 14) rfl h9 (.slice (some ⟨h9,0,none⟩) 0 0) (.slice bo t.pool.length cb) [] t.pool rfl rfl oN (RT.below HR.out.p NL).pt (by simp;omega) (by omega) ?_;intro u zT oB g7 hu;rw[List.nil_append]at oB;have kN:=Bo g7;have oW:∀j,(Value.slice (some ⟨h9,0,none⟩) 0 0).ownBlock=some j→j=h9:=fun j e=>by cases e;rfl
  replace P:=P.kp kN (fun e=>by have:=oW _ e;omega);replace O:=O.kp kN (fun e=>by have:=oW _ e;omega);replace oA:=oA.kp kN (fun j hj e=>by have:=toA j hj;have:=oW _ e;omega);have qD:Kp w0 zT (fun k=>k=w.heap.size+1):=Kp.over Tf kN (fun j e=>Or.inl (by have:=oW _ e;omega));have dA:=Below.kp NL kN NL.size (fun j e=>by have:=oW _ e;omega);have ADB:=kN.size;clear hHeld g7 kN oN toN hu NL;refine AA.out _ _ (K.out _ qD) (fun hHeld=>?_);clear AA KK Tf;change wpAnyH _ _ _ _ _ _ _ (Act.put _ (some 15) _) _;simp only[pU];obtain⟨GD,F9,rfl⟩:=OT.Bi oB;have Bj:=World.ownsRow.lt oB;refine rd 15 rfl (fun KK AA=>?_);go_simp;refine(T3.out _ _ (HR.out.tb.below dA)).mono ?_;rintro e vK ⟨u,rfl,oC,bb⟩;have qC:Kp w0 vK (fun k=>k=w.heap.size+1):=qD.trans (Below.Bf bb _);clear hHeld;refine AA.out _ _ (K.out _ qC) (fun hHeld=>?_);clear AA KK qD;have cu:=bu dA bb;have ADA:=bb.size;replace P:=P.up bb;replace O:=O.up bb;replace oA:=oA.below bb;replace oB:=oB.below bb;clear dA bb;obtain⟨yx,oC⟩:=oC;obtain⟨FI,FH,rfl⟩:=NK.form ⟨yx,oC⟩;obtain⟨m1,hm1⟩:∃m,vK.heap.size=m:=⟨_,rfl⟩
  have oC:=De.opr oC;rw[hm1]at oC;have hm2:=Nat.le_of_eq hm1;have hm3:=Nat.le_of_eq hm1.symm;clear hm1;refine rd 18 rfl (fun KK AA=>?_);go_simp;refine(T2.out _ (HR.out.d.below cu)).mono ?_;rintro e zS ⟨u,rfl,oD,bb⟩;have bL:Kp w0 zS (fun k=>k=w.heap.size+1):=qC.trans (Below.Bf bb _);clear hHeld;refine AA.out _ _ (K.out _ bL) (fun hHeld=>?_);clear AA KK qC;have cZ:=bu cu bb;have AC_:=bb.size;replace P:=P.up bb;replace O:=O.up bb;replace oA:=oA.below bb;replace oB:=oB.below bb;clear cu;replace oC:=oC.below bb;clear bb;have GZ:=World.ownsRow.lt oD;obtain⟨Cu,Cs,rfl⟩:=oD.form;refine rd 21 rfl (fun KK AA=>?_);go_simp;refine(wO.out _ _ (HR.out.h.below cZ)).mono ?_;rintro e Tz ⟨u,rfl,oE,bb⟩;have bK:Kp w0 Tz (fun k=>k=w.heap.size+1):=bL.trans (Below.Bf bb _);clear hHeld;refine AA.out _ _ (K.out _ bK) (fun hHeld=>?_);clear AA KK bL;have Vh:=bu cZ bb;have ACD:=bb.size;replace P:=P.up bb;replace O:=O.up bb;replace oA:=oA.below bb;replace oB:=oB.below bb;replace oD:=oD.below bb;clear cZ;replace oC:=oC.below bb;clear bb;obtain⟨N_,Nv,rfl⟩:=oE.form;refine tx 22 25 ?_;refine rd 23 rfl (fun KK AA=>?_);rw[if_pos (by rfl)];refine wp_store_mid 46 (.tmp 2) (.tmp 25) rfl (w.heap.size+1) 0 #[.int .i64 t.id,.int .i64 t.vw,.int .i64 t.ak,.int .i64 t.vo,.int .i64 t.lo,.int .i64 t.n,.string t.s,.slice EG t.qw.length D_,.string t.d,.slice GD t.pool.length F9,.slice FI t.tab.length FH,.slice Cu t.AY.length Cs,.int .i64 t.su,.slice N_ t.held.length Nv] rfl rfl (O.there 0 14 (by simp)) (by kernel_rfl) (by simp[Value.oneCell']) ?_;obtain⟨Ty,hq⟩:∃y,Tz.setCells (w.heap.size+1) 0 [.int .i64 t.id,.int .i64 t.vw,.int .i64 t.ak,.int .i64 t.vo,.int .i64 t.lo,.int .i64 t.n,.string t.s,.slice EG t.qw.length D_,.string t.d,.slice GD t.pool.length F9,.slice FI t.tab.length FH,.slice Cu t.AY.length Cs,.int .i64 t.su,.slice N_ t.held.length Nv]=y:=⟨_,rfl⟩
  have kN:Kp Tz Ty (fun k=>k=w.heap.size+1):=hq▸AQ _ _ _ _;have qF:Kp w0 Ty (fun k=>k=w.heap.size+1):=bK.trans (kN.mono (fun k e=>e));replace O:Loc Ty (w.heap.size+1) #[.int .i64 t.id,.int .i64 t.vw,.int .i64 t.ak,.int .i64 t.vo,.int .i64 t.lo,.int .i64 t.n,.string t.s,.slice EG t.qw.length D_,.string t.d,.slice GD t.pool.length F9,.slice FI t.tab.length FH,.slice Cu t.AY.length Cs,.int .i64 t.su,.slice N_ t.held.length Nv]:=hq▸O.setCells _ _ rfl;rw[show Tz.setCells (w.heap.size+1) 0 (Array.toList #[.int .i64 t.id,.int .i64 t.vw,.int .i64 t.ak,.int .i64 t.vo,.int .i64 t.lo,.int .i64 t.n,.string t.s,.slice EG t.qw.length D_,.string t.d,.slice GD t.pool.length F9,.slice FI t.tab.length FH,.slice Cu t.AY.length Cs,.int .i64 t.su,.slice N_ t.held.length Nv])=Ty from hq];clear hHeld;refine AA.out _ _ (K.out _ qF) (fun hHeld=>?_);clear AA KK bK;replace P:=P.kp kN (by omega);replace oA:=oA.kp kN (fun j hj e=>by have:=toA j hj;omega);replace oB:=oB.kp kN (fun j hj e=>by have:=Bj j hj;omega);replace oD:=oD.kp kN (fun j hj e=>by have:=GZ j hj;omega);replace oC:=oC.kp kN (fun j h1 h2 e=>by omega);replace oE:=oE.kp kN (fun j h1 e=>by omega);have vE:=Below.kp Vh kN Vh.size (fun k hk=>by omega);have ACC:=kN.size;clear hq kN Vh hHeld;refine Bu ?_;clear K qF;go_wp2;refine bodyPost_ret (v:=FX t (.slice EG t.qw.length D_) (.slice GD t.pool.length F9) (.slice FI t.tab.length FH) (.slice Cu t.AY.length Cs) (.slice N_ t.held.length Nv)) (DL Tryz.results31 _ O rfl Tryz.underlying46 rfl (by kernel_rfl)) rfl ?_;refine⟨_,_,_,_,_,rfl,⟨Nat.le_refl _,fun v X k hx=>?_⟩,vE⟩;have hm:=HM.out;refine⟨(oA.kp k (fun j hj=>hx j (by have:=toA j hj;omega) (by have:=toA j hj;omega))).ri (by have:=hm.q;omega),(oB.kp k (fun j hj=>hx j (by have:=Bj j hj;omega) (by have:=Bj j hj;omega))).rt (by omega),(oC.kp k (fun j h1 h2=>hx j (by omega) (by omega))).vQ hm.tt,(oD.kp k (fun j hj=>hx j (by have:=GZ j hj;omega) (by have:=GZ j hj;omega))).rb (by have:=hm.d;omega),?_⟩;exact(oE.kp k.cut (fun j h1 h2=>hx j (by omega) h2.2 h2.1)).vR hm.hh
 go_simp;obtain⟨YN,hq⟩:∃y,kg.alloc (.cells #[] 73)=y:=⟨_,rfl⟩
 rw[hq];have bb:Below kg.heap.size kg YN:=hq▸Ac _ _;have bJ:Kp w0 YN (fun k=>k=w.heap.size+1):=bA.trans (Below.Bf bb _);obtain⟨h9,og⟩:∃m,kg.heap.size=m:=⟨_,rfl⟩
 have oN:OT YN h9 (.slice (some ⟨h9,0,none⟩) 0 0) []:=og▸hq▸Wo kg;rw[og];have h91:=Nat.le_of_eq og;have h92:=Nat.le_of_eq og.symm;clear hHeld hq og;refine AA.out _ _ (K.out _ bJ) (fun hHeld=>?_);clear AA KK bA;have Vg:=bu GY bb;have ACB:=bb.size;replace P:=P.up bb;replace O:=O.up bb;clear GY bb;have toN:=World.ownsRow.lt oN;have h93:=(toN h9 rfl).2;refine rd 8 rfl (fun KK AA=>?_);go_simp;refine(T1.out _ (HR.out.q.below Vg)).mono ?_;rintro e wo ⟨u,rfl,oA,bb⟩;have bI:Kp w0 wo (fun k=>k=w.heap.size+1):=bJ.trans (Below.Bf bb _);clear hHeld;refine AA.out _ _ (K.out _ bI) (fun hHeld=>?_);clear AA KK bJ;have PQ:=bu Vg bb;have ACA:=bb.size;replace P:=P.up bb;replace O:=O.up bb;replace oN:=oN.below bb;clear Vg bb;have toA:=World.ownsRow.lt oA;obtain⟨EG,D_,rfl⟩:=oA.form;refine rd 12 rfl (fun KK AA=>?_);refine F6 rfl (.tmp 12) (.tmp 14) rfl h9 (.slice (some ⟨h9,0,none⟩) 0 0) (.slice bo t.pool.length cb) [] t.pool rfl rfl oN (RT.below HR.out.p PQ).pt (by simp;omega) (by omega) ?_;intro u wm oB g7 hu;rw[List.nil_append]at oB;have kN:=Bo g7;have oW:∀j,(Value.slice (some ⟨h9,0,none⟩) 0 0).ownBlock=some j→j=h9:=fun j e=>by cases e;rfl
 replace P:=P.kp kN (fun e=>by have:=oW _ e;omega);replace O:=O.kp kN (fun e=>by have:=oW _ e;omega);replace oA:=oA.kp kN (fun j hj e=>by have:=toA j hj;have:=oW _ e;omega);have a_:Kp w0 wm (fun k=>k=w.heap.size+1):=Kp.over bI kN (fun j e=>Or.inl (by have:=oW _ e;omega));have Vf:=Below.kp PQ kN PQ.size (fun j e=>by have:=oW _ e;omega);have AB_:=kN.size;clear hHeld g7 kN oN toN hu PQ;refine AA.out _ _ (K.out _ a_) (fun hHeld=>?_);clear AA KK bI;change wpAnyH _ _ _ _ _ _ _ (Act.put _ (some 15) _) _;simp only[pU];obtain⟨GD,F9,rfl⟩:=OT.Bi oB;have Bj:=World.ownsRow.lt oB;refine rd 15 rfl (fun KK AA=>?_);go_simp;refine(T3.out _ _ (HR.out.tb.below Vf)).mono ?_;rintro e lL ⟨u,rfl,oC,bb⟩;have az:Kp w0 lL (fun k=>k=w.heap.size+1):=a_.trans (Below.Bf bb _);clear hHeld;refine AA.out _ _ (K.out _ az) (fun hHeld=>?_);clear AA KK a_;have Ve:=bu Vf bb;have AB9:=bb.size;replace P:=P.up bb;replace O:=O.up bb;replace oA:=oA.below bb;replace oB:=oB.below bb;clear Vf bb;obtain⟨yx,oC⟩:=oC;obtain⟨FI,FH,rfl⟩:=NK.form ⟨yx,oC⟩;obtain⟨m1,hm1⟩:∃m,lL.heap.size=m:=⟨_,rfl⟩
 have oC:=De.opr oC;rw[hm1]at oC;have hm2:=Nat.le_of_eq hm1;have hm3:=Nat.le_of_eq hm1.symm;clear hm1;refine rd 18 rfl (fun KK AA=>?_);go_simp;refine(T2.out _ (HR.out.d.below Ve)).mono ?_;rintro e wZ ⟨u,rfl,oD,bb⟩;have av:Kp w0 wZ (fun k=>k=w.heap.size+1):=az.trans (Below.Bf bb _);clear hHeld;refine AA.out _ _ (K.out _ av) (fun hHeld=>?_);clear AA KK az;have Vd:=bu Ve bb;have AB8:=bb.size;replace P:=P.up bb;replace O:=O.up bb;replace oA:=oA.below bb;replace oB:=oB.below bb;clear Ve;replace oC:=oC.below bb;clear bb;have GZ:=World.ownsRow.lt oD;obtain⟨Cu,Cs,rfl⟩:=oD.form;refine rd 21 rfl (fun KK AA=>?_);go_simp;refine(wO.out _ _ (HR.out.h.below Vd)).mono ?_;rintro e Tx ⟨u,rfl,oE,bb⟩;have au:Kp w0 Tx (fun k=>k=w.heap.size+1):=av.trans (Below.Bf bb _);clear hHeld;refine AA.out _ _ (K.out _ au) (fun hHeld=>?_);clear AA KK av;have Vb:=bu Vd bb;have AB7:=bb.size;replace P:=P.up bb;replace O:=O.up bb;replace oA:=oA.below bb;replace oB:=oB.below bb;replace oD:=oD.below bb;clear Vd;replace oC:=oC.below bb;clear bb;obtain⟨N_,Nv,rfl⟩:=oE.form;refine tx 22 25 ?_;refine rd 23 rfl (fun KK AA=>?_);rw[if_pos (by rfl)];refine wp_store_mid 46 (.tmp 2) (.tmp 25) rfl (w.heap.size+1) 0 #[.int .i64 t.id,.int .i64 t.vw,.int .i64 t.ak,.int .i64 t.vo,.int .i64 t.lo,.int .i64 t.n,.string t.s,.slice EG t.qw.length D_,.string t.d,.slice GD t.pool.length F9,.slice FI t.tab.length FH,.slice Cu t.AY.length Cs,.int .i64 t.su,.slice N_ t.held.length Nv] rfl rfl (O.there 0 14 (by simp)) (by kernel_rfl) (by simp[Value.oneCell']) ?_;obtain⟨Tw,hq⟩:∃y,Tx.setCells (w.heap.size+1) 0 [.int .i64 t.id,.int .i64 t.vw,.int .i64 t.ak,.int .i64 t.vo,.int .i64 t.lo,.int .i64 t.n,.string t.s,.slice EG t.qw.length D_,.string t.d,.slice GD t.pool.length F9,.slice FI t.tab.length FH,.slice Cu t.AY.length Cs,.int .i64 t.su,.slice N_ t.held.length Nv]=y:=⟨_,rfl⟩
 have kN:Kp Tx Tw (fun k=>k=w.heap.size+1):=hq▸AQ _ _ _ _;have qE:Kp w0 Tw (fun k=>k=w.heap.size+1):=au.trans (kN.mono (fun k e=>e));replace O:Loc Tw (w.heap.size+1) #[.int .i64 t.id,.int .i64 t.vw,.int .i64 t.ak,.int .i64 t.vo,.int .i64 t.lo,.int .i64 t.n,.string t.s,.slice EG t.qw.length D_,.string t.d,.slice GD t.pool.length F9,.slice FI t.tab.length FH,.slice Cu t.AY.length Cs,.int .i64 t.su,.slice N_ t.held.length Nv]:=hq▸O.setCells _ _ rfl;rw[show Tx.setCells (w.heap.size+1) 0 (Array.toList #[.int .i64 t.id,.int .i64 t.vw,.int .i64 t.ak,.int .i64 t.vo,.int .i64 t.lo,.int .i64 t.n,.string t.s,.slice EG t.qw.length D_,.string t.d,.slice GD t.pool.length F9,.slice FI t.tab.length FH,.slice Cu t.AY.length Cs,.int .i64 t.su,.slice N_ t.held.length Nv])=Tw from hq];clear hHeld;refine AA.out _ _ (K.out _ qE) (fun hHeld=>?_);clear AA KK au;replace P:=P.kp kN (by omega);replace oA:=oA.kp kN (fun j hj e=>by have:=toA j hj;omega);replace oB:=oB.kp kN (fun j hj e=>by have:=Bj j hj;omega);replace oD:=oD.kp kN (fun j hj e=>by have:=GZ j hj;omega);replace oC:=oC.kp kN (fun j h1 h2 e=>by omega);replace oE:=oE.kp kN (fun j h1 e=>by omega);have vD:=Below.kp Vb kN Vb.size (fun k hk=>by omega);have AB6:=kN.size;clear hq kN Vb hHeld;refine Bu ?_;clear K qE;go_wp2;refine bodyPost_ret (v:=FX t (.slice EG t.qw.length D_) (.slice GD t.pool.length F9) (.slice FI t.tab.length FH) (.slice Cu t.AY.length Cs) (.slice N_ t.held.length Nv)) (DL Tryz.results31 _ O rfl Tryz.underlying46 rfl (by kernel_rfl)) rfl ?_;refine⟨_,_,_,_,_,rfl,⟨Nat.le_refl _,fun v X k hx=>?_⟩,vD⟩;have hm:=HM.out;refine⟨(oA.kp k (fun j hj=>hx j (by have:=toA j hj;omega) (by have:=toA j hj;omega))).ri (by have:=hm.q;omega),(oB.kp k (fun j hj=>hx j (by have:=Bj j hj;omega) (by have:=Bj j hj;omega))).rt (by omega),(oC.kp k (fun j h1 h2=>hx j (by omega) (by omega))).vQ hm.tt,(oD.kp k (fun j hj=>hx j (by have:=GZ j hj;omega) (by have:=GZ j hj;omega))).rb (by have:=hm.d;omega),?_⟩;exact(oE.kp k.cut (fun j h1 h2=>hx j (by omega) h2.2 h2.1)).vR hm.hh
end
section
open Go Go.RowKit
variable [∀(a b c d:Int),Decidable (BK a b c d)] [∀(n f:Int),Decidable (A9 n f)] [∀(a b c d:Nat),Decidable (Dc a b c d)] [∀(x:T4),Decidable (Dv x)] [∀(last:Int)(s:St),Decidable (Ak last s)] [∀(n:Int)(s:List Int),Decidable (Dw n s)] [∀(x y:T4),Decidable (Hu x y)] [∀(ts:List T4),Decidable (Asc ts)] [∀(ts:List T4),Decidable (Dh ts)] [∀(ts:List T4),Decidable (J9 ts)]
def Ih(id:Int):Bv:=⟨id,1,0,0,0,0,⟨#[]⟩,[],⟨#[]⟩,[],[],[],0,[]⟩
def Hw:Bv:=⟨0,0,0,0,0,0,⟨#[]⟩,[],⟨#[]⟩,[],[],[],0,[]⟩
theorem EI.new(w:World)(id:Int):EI w (Ih id) (.slice none 0 0) (.slice none 0 0) (.slice none 0 0) (.slice none 0 0) (.slice none 0 0):=
 ⟨⟨by simp[Ih],none,0,rfl,.inl rfl⟩,⟨by simp[Ih],none,0,rfl,.inl rfl⟩,⟨none,0,rfl,.inl rfl⟩,⟨by simp[Ih],none,0,rfl,⟨by simp[Ih],by unfold maxLen;omega⟩,.inl rfl⟩,K8.nil w⟩
theorem J8.new(id:Int):J8 (Ih id):=⟨by simp[Ih],by simp[Ih],by simp[Ih],by simp[Ih],by simp[Ih],fun p hp=>by simp[Ih]at hp,fun j hj=>by simp[Ih]at hj⟩
theorem RS.new(id:Int):RS (Ih id):=⟨(Nat.zero_le _:0≤1048576),(Nat.zero_le _:0≤1048576),fun p hp=>by simp[Ih]at hp,fun j hj=>by simp[Ih]at hj⟩
theorem C_{P:Program}{fn:Func}{p u:Tmp}{ty:TypeId}(h:fn.results= #[.cell p ty,.tmp u]){tmps:Array Value}{w:World}{g:Nat}{cs:Array Value}(d:TypeDesc)(L:Loc w g cs)(hp:tmps.getD p undef= .pointer (some ⟨g,0,none⟩))
 (hu:P.underlying ty=some d) (hd:isRow d=true) (hi:(P.info? ty).map (·.size)=some cs.size):(results fn tmps).run P w= .ok (.tuple #[.agg cs,tmps.getD u undef]) w:=by
 rw[results_cell_tmp h,hp];have:=XA L ty d hu hd hi;simp[asAddr,this,Result.andThen]
end
section
open Go.RowKit
variable [∀(a b c d:Int),Decidable (BK a b c d)] [∀(a b c d:Nat),Decidable (Dc a b c d)] [∀(last:Int)(s:St),Decidable (Ak last s)] [∀(x:T4),Decidable (Dv x)] [∀(n:Int)(s:List Int),Decidable (Dw n s)] [∀(n f:Int),Decidable (A9 n f)]
theorem RB.sub{w:World}{b off n ca:Nat}{xs:List Int}(h:RB w (.slice (some ⟨b,off,none⟩) n ca) xs)(q m:Nat)(hq:q+m≤xs.length):RB w (.slice (some ⟨b,off+q,none⟩) m (ca-q)) ((xs.drop q).take m):=by
 obtain⟨hl,ao,cap,e,hc,h⟩:=h;cases e
 have hw:=rT xs q m hq;refine⟨by omega,_,_,by rw[hw],⟨by omega,by unfold maxLen at *; omega⟩,?_⟩;rcases h with rfl|⟨b',off',e,h⟩
 ·left;simp
 cases e
 right
 refine⟨b,off+q,rfl,fun k hk=>?_⟩;rw[hw]at hk;exact fI h hq k hk
theorem RB.at{w:World}{ao:Option Addr}{n ca:Nat}{xs:List Int}(h:RB w (.slice ao n ca) xs)(hx:0<xs.length):(n=xs.length∧n≤ca)∧∃b off,ao=some ⟨b,off,none⟩∧∀k,k<xs.length→w.cell? ⟨b,off+k,none⟩=some (.int .u8 (xs.getD k 0)):=by
 obtain⟨hl,SF,Xw,e,hc,h⟩:=h;cases e
 rcases h with rfl|⟨b,off,rfl,h⟩
 ·simp at hx
 exact⟨⟨rfl,hc.1⟩,b,off,rfl,h⟩
end
section
open Go Go.RowKit
variable [∀(a b c d:Int),Decidable (BK a b c d)] [∀(n f:Int),Decidable (A9 n f)] [∀(a b c d:Nat),Decidable (Dc a b c d)] [∀(x:T4),Decidable (Dv x)] [∀(last:Int)(s:St),Decidable (Ak last s)] [∀(n:Int)(s:List Int),Decidable (Dw n s)] [∀(x y:T4),Decidable (Hu x y)] [∀(ts:List T4),Decidable (Asc ts)] [∀(ts:List T4),Decidable (Dh ts)] [∀(ts:List T4),Decidable (J9 ts)]
theorem EI.below{w w':World}{t:Bv}{a b c d e:Value}(h:EI w t a b c d e)(hb:Below w.heap.size w w'):EI w' t a b c d e:=
 ⟨h.q.below hb,h.p.below hb,h.tb.below hb,h.d.below hb,h.h.below hb⟩
theorem ZL{k:Nat}{ps:List Ck}(hs:∀j,j<ps.length→(ps.getD j AX).2.bw.length≤4194304∧(ps.getD j AX).2.pw.length≤4194304∧(ps.getD j AX).2.qw.length≤4194304)(j:Nat)(hj:j<(Fu k ps).length):((Fu k ps).getD j AX).2.bw.length≤4194304∧((Fu k ps).getD j AX).2.pw.length≤4194304∧((Fu k ps).getD j AX).2.qw.length≤4194304:=by
 rw[Dq]at hj;rw[We _ _ _ hj];have:=hs j hj;simp only[IC,CV];exact this
theorem J8.marked{t:Bv}(h:J8 t):J8 (xQ 1 t):=
 ⟨by show(BP 1 t.qw.length).length≤_;rw[CV];exact h.q,by show(Cy (iB 1 t) t.pool.length).length≤_;rw[EP];exact h.p,by show(Oc (dW 1 t) t.tab).length≤_;rw[Ia];exact h.tb,by show(marks (iA 1 t) t.AY.length).length≤_;rw[Ed];exact h.d,by show(Fu (YB 1 t) t.held).length≤_;rw[Dq];exact h.h,iO _ _ h.tt,ZL h.hh⟩
end
section
open Go.RowKit
variable [∀(a b c d:Int),Decidable (BK a b c d)] [∀(n f:Int),Decidable (A9 n f)] [∀(a b c d:Nat),Decidable (Dc a b c d)] [∀(x:T4),Decidable (Dv x)]
theorem Sk{t:Bv}{rs:List Pr}(ht:t.tab=rs.map YC)(g:(t.s.size:Int)+t.qw.length+t.d.size+t.pool.length+rs.length+Bt rs+t.AY.length+t.held.length+BJ t.held≤1048576):J8 t∧(t.s.size≤1048576∧t.d.size≤1048576)∧(∀p ∈ t.tab,p.2.1.size≤1048576∧p.2.2.length≤1048576)∧∀j,j<t.held.length→ku (t.held.getD j AX).2≤1048576:=by
 have hl:t.tab.length=rs.length:=by rw[ht];simp
 have h1:∀p ∈ t.tab,p.2.1.size≤1048576∧p.2.2.length≤1048576:=fun p hp=>by
  have:=sI (p:=p) (by rw[←ht];exact hp);omega
 have h2:∀j,j<t.held.length→ku (t.held.getD j AX).2≤1048576:=fun j hj=>by
  have:=ZK (rs:=t.held) (r:=t.held.getD j AX) (by rw[List.getD_eq_getElem?_getD,List.getElem?_eq_getElem hj];exact List.getElem_mem hj);omega
 exact⟨⟨by omega,by omega,by omega,by omega,by omega,fun p hp=>by have:=h1 p hp;omega,fun j hj=>by have:=h2 j hj;unfold ku at this;omega⟩,⟨by omega,by omega⟩,h1,h2⟩
end
section
open Go.ChangeShapes Go.WideShapes Go.ChangeAt Go.RowKit
open Go.Joins
variable [∀(a b c d:Int),Decidable (BK a b c d)] [∀(n f:Int),Decidable (A9 n f)]
theorem Dy:Tryz.prog.cellsOf 28=6:=by kernel_rfl
theorem yV{cs:Array Value}(h:cs.size=6):∃a b c d e f,cs= #[a,b,c,d,e,f]:=by
 obtain⟨l⟩:=cs
 match l,h with
 | [a,b,c,d,e,f],_=>exact⟨a,b,c,d,e,f,rfl⟩
theorem ib{H:Type}{enc:TypeId×Value→H}{W:World}{base:Nat}{v:Value}{d:DataW H}{p:List MemPlace}(hv:Value.okWide Tryz.prog W .any base 28 v)
 (h:DataW.Trod enc Tryz.prog W 0 (fun _=>true) true 28 v d p):
 ∃vo lo n s ao ca m,∃xs:List Int,v=sv vo lo n s (.slice ao xs.length ca) m∧s.size≤maxLen∧xs.length≤maxLen∧m.size≤maxLen∧RD W ao xs∧J7 xs:=by
 obtain⟨cs,rfl,hsz⟩:=okWide_struct Tryz.underlying28 hv;obtain⟨c0,c1,c2,c3,c4,c5,rfl⟩:=yV (hsz.trans Dy);obtain⟨fuel,hf⟩:=h;obtain⟨y0,y1,y2,y3,k,_,_,h0,h1,h2,h3⟩:=trod_struct4 Tryz.underlying28 hf;have h0':DataW.trod enc Tryz.prog W 0 (fun _=>true) true k 3 [c0]=some y0:=by simpa[Value.cells,Ag,A_,Ai]using h0
 have h1':DataW.trod enc Tryz.prog W 0 (fun _=>true) true k 3 [c1]=some y1:=by simpa[Value.cells,Ag,A_,Ai]using h1
 have h2':DataW.trod enc Tryz.prog W 0 (fun _=>true) true k 26 [c2,c3,c4]=some y2:=by simpa[Value.cells,Ag,A_,Ai]using h2
 have h3':DataW.trod enc Tryz.prog W 0 (fun _=>true) true k 9 [c5]=some y3:=by simpa[Value.cells,Ag,A_,Ai]using h3
 obtain⟨z0,z1,z2,j,_,_,g0,g1,g2⟩:=Go.Deep.trod_struct3 Tryz.underlying26 h2';have g0':DataW.trod enc Tryz.prog W 0 (fun _=>true) true j 3 [c2]=some z0:=by simpa[Ag]using g0
 have g1':DataW.trod enc Tryz.prog W 0 (fun _=>true) true j 9 [c3]=some z1:=by simpa[Ai]using g1
 have g2':DataW.trod enc Tryz.prog W 0 (fun _=>true) true j 24 [c4]=some z2:=by simpa[A8]using g2
 obtain⟨a,e0,_,_⟩:=DataW.trod_int Tryz.underlying3 h0';obtain⟨b,e1,_,_⟩:=DataW.trod_int Tryz.underlying3 h1';obtain⟨n,e2,_,_⟩:=DataW.trod_int Tryz.underlying3 g0';obtain⟨s,e3,_,hs⟩:=DataW.trod_string Tryz.underlying9 g1';obtain⟨ao,ca,xs,rfl,hx,ax,wx⟩:=FY g2';obtain⟨m,e5,_,hm⟩:=DataW.trod_string Tryz.underlying9 h3';simp at e0 e1 e2 e3 e5;exact⟨a,b,n,s,ao,ca,m,xs,by rw[e0,e1,e2,e3,e5],hs,hx,hm,ax,wx⟩
theorem cellsD:Tryz.prog.cellsOf 33=2:=by kernel_rfl
def zF(W:World)(ao:Option Addr)(ca:Nat)(zs:List Int):Prop:=zs.length≤ca∧ca≤maxLen∧(zs=[]∨∃b off,ao=some ⟨b,off,none⟩∧∀k,k<zs.length→W.cell? ⟨b,off+k,none⟩=some (.int .u8 (zs.getD k 0)))
theorem zF.rb{W:World}{ao:Option Addr}{ca:Nat}{zs:List Int}(h:zF W ao ca zs)(hl:zs.length≤1048576):RB W (.slice ao zs.length ca) zs:=⟨by omega,ao,ca,rfl,⟨h.1,h.2.1⟩,h.2.2⟩
theorem ZP{H:Type}{enc:TypeId×Value→H}{W:World}{n:Nat}{c:Value}{y:DataW H×List MemPlace}(h:DataW.trod enc Tryz.prog W 0 (fun _=>true) true n 31 [c]=some y):
 ∃ao ca,∃zs:List Int,c= .slice ao zs.length ca∧zs.length≤maxLen∧zF W ao ca zs∧∀k,k<zs.length→0≤zs.getD k 0∧zs.getD k 0≤255:=by
 rcases open_ints Tryz.underlying31 Tryz.underlying5 (by kernel_rfl) h with⟨hcs,_⟩|⟨x,len,cap,zs,hcs,_,hl,hm,hz,_,hcell,hwz⟩
 ·simp at hcs;exact⟨none,0,[],hcs,by simp,⟨by simp,by unfold maxLen;omega,.inl rfl⟩,fun k hk=>by simp at hk⟩
 simp at hcs;have hz':zs.length=cap:=by simpa using hz
 have e:(zs.take len).length=len:=by simp;omega
 have hm':cap≤maxLen:=by first|exact hm|omega
 refine⟨some x,cap,zs.take len,by rw[hcs,e],by rw[e];omega,⟨by omega,hm',?_⟩,?_⟩
 ·by_cases h0:len=0
  ·left;simp[h0]
  right
  obtain⟨b,off,spot⟩:=x;have hc:=hcell 0 (by omega);have hspot:spot=none:=by simpa[Addr.add]using World.cell?_spot hc
  subst hspot;refine⟨b,off,rfl,fun k hk=>?_⟩;rw[e]at hk;have hk':=hcell k (by omega);rw[show((⟨b,off,none⟩:Addr).add k)=⟨b,off+k,none⟩ from by unfold Addr.add;split<;>simp_all]at hk';rw[hk'];simp[hk]
 intro k hk
 have hm2:(zs.take len).getD k 0 ∈ zs:=by
  rw[List.getD_eq_getElem?_getD,List.getElem?_eq_getElem hk];exact List.mem_of_mem_take (List.getElem_mem hk)
 have:=bounds_u8 (hwz _ hm2);omega
end
section
open Go.ChangeShapes Go.WideShapes Go.ChangeAt Go.RowKit
open Go.Joins
variable [∀(a b c d:Int),Decidable (BK a b c d)] [∀(n f:Int),Decidable (A9 n f)] [∀(a b c d:Nat),Decidable (Dc a b c d)] [∀(x:T4),Decidable (Dv x)]
theorem uT:Tryz.prog.cellsOf 65=4:=by kernel_rfl
theorem Jk{H:Type}{enc:TypeId×Value→H}{W:World}{n:Nat}{c:Value}{y:DataW H×List MemPlace}(h:DataW.trod enc Tryz.prog W 0 (fun _=>true) true n 3 [c]=some y):∃a:Int,c= .int .i64 a:=by
 obtain⟨a,e0,_,_⟩:=DataW.trod_int Tryz.underlying3 h;simp at e0;exact⟨a,e0⟩
theorem jo{α:Type}{l:List α}(h:l.length=4):∃a b c d,l=[a,b,c,d]:=by
 match l,h with
 | [a,b,c,d],_=>exact⟨a,b,c,d,rfl⟩
theorem iY{H:Type}{enc:TypeId×Value→H}{W:World}{fuel:Nat}{a:Option Addr}{len cap:Nat}{x:DataW H×List MemPlace}(h:DataW.trod enc Tryz.prog W 0 (fun _=>true) true fuel 29 (Value.slice a len cap).cells.toList=some x):
 ∃xs:List T4,len=xs.length∧xs.length≤maxLen∧AR W a xs:=by
 rcases Go.Deep.open_slice Tryz.underlying29 h with⟨hcs,_⟩|⟨ad,l,c,m,n,D,Pl,hcs,_,hl,hm,hmm,_,hx⟩
 ·simp[Value.cells]at hcs;obtain⟨rfl,rfl,rfl⟩:=hcs;exact⟨[],rfl,by simp,.inl rfl⟩
 simp[Value.cells]at hcs;obtain⟨rfl,rfl,rfl⟩:=hcs;have hm':m=cap:=by simpa using hmm
 have each:∀i,∃q:T4,i<len→W.cell? (ad.add (i*4))=some (.int .i64 q.1)∧W.cell? (ad.add (i*4+1))=some (.int .i64 q.2.1)∧W.cell? (ad.add (i*4+2))=some (.int .i64 q.2.2.1)∧W.cell? (ad.add (i*4+3))=some (.int .i64 q.2.2.2):=by
  intro i;by_cases hi:i<len
  ·obtain⟨cs',h1,h2⟩:=hx i (by omega);rw[uT]at h1;obtain⟨_,hlen,hcell⟩:=World.cells?_some h1;obtain⟨y0,y1,y2,y3,k,_,_,g0,g1,g2,g3⟩:=trod_struct4 Tryz.underlying65 h2;obtain⟨v0,v1,v2,v3,rfl⟩:=jo hlen;have e0:=hcell 0 (by omega);have e1:=hcell 1 (by omega);have e2:=hcell 2 (by omega);have e3:=hcell 3 (by omega);rw[Go.Deep.add_add]at e0 e1 e2 e3;have ci:Tryz.prog.cellsOf 3=1:=by kernel_rfl
   simp[ci]at g0 g1 g2 g3;obtain⟨a0,rfl⟩:=Jk g0;obtain⟨a1,rfl⟩:=Jk g1;obtain⟨a2,rfl⟩:=Jk g2;obtain⟨a3,rfl⟩:=Jk g3;exact⟨(a0,a1,a2,a3),fun _=>⟨by simpa using e0,by simpa using e1,by simpa using e2,by simpa using e3⟩⟩
  exact⟨(0,0,0,0),fun h=>absurd h hi⟩
 obtain⟨q,hq⟩:=Classical.axiomOfChoice each;refine⟨(List.range len).map q,by simp,by simp;omega,?_⟩;by_cases h0:len=0
 ·left;simp[h0]
 right
 obtain⟨b,off,spot⟩:=ad;have hc:=(hq 0 (by omega)).1;have hspot:spot=none:=by simpa[Addr.add]using World.cell?_spot hc
 subst hspot;refine⟨b,off,rfl,fun k hk=>?_⟩;rw[List.length_map,List.length_range]at hk;have:=hq k hk;have ea:∀j,((⟨b,off,none⟩:Addr).add j)=⟨b,off+j,none⟩:=fun j=>by unfold Addr.add;split<;>simp_all
 rw[ea,ea,ea,ea]at this;have eg:((List.range len).map q).getD k (0,0,0,0)=q k:=by simp[hk]
 rw[eg];simpa[Nat.add_assoc]using this
end
section
open Go.ChangeShapes Go.WideShapes Go.ChangeAt Go.RowKit
open Go.Joins
variable [∀(a b c d:Int),Decidable (BK a b c d)] [∀(n f:Int),Decidable (A9 n f)] [∀(a b c d:Nat),Decidable (Dc a b c d)] [∀(x:T4),Decidable (Dv x)]
section
variable {H:Type} {enc:TypeId×Value→H} {P:Program} {w:World} {base:Nat} {spare:Bool}
theorem UE{held:TypeId→Bool}{t:TypeId}{f0 f1 f2 f3 f4 f5 f6 f7:Field}{fuel:Nat}{cs:List Value}{x:DataW H×List MemPlace}(ht:P.underlying t=some (.struct #[f0,f1,f2,f3,f4,f5,f6,f7]))(h:DataW.trod enc P w base held spare fuel t cs=some x):
 ∃y0 y1 y2 y3 y4 y5 y6 y7 n,DataW.trod enc P w base held spare n f0.type ((cs.drop f0.offset).take (P.cellsOf f0.type))=some y0∧DataW.trod enc P w base held spare n f1.type ((cs.drop f1.offset).take (P.cellsOf f1.type))=some y1∧DataW.trod enc P w base held spare n f2.type ((cs.drop f2.offset).take (P.cellsOf f2.type))=some y2∧DataW.trod enc P w base held spare n f3.type ((cs.drop f3.offset).take (P.cellsOf f3.type))=some y3∧DataW.trod enc P w base held spare n f4.type ((cs.drop f4.offset).take (P.cellsOf f4.type))=some y4∧DataW.trod enc P w base held spare n f5.type ((cs.drop f5.offset).take (P.cellsOf f5.type))=some y5∧DataW.trod enc P w base held spare n f6.type ((cs.drop f6.offset).take (P.cellsOf f6.type))=some y6∧DataW.trod enc P w base held spare n f7.type ((cs.drop f7.offset).take (P.cellsOf f7.type))=some y7:=by
 obtain⟨xs,n,_,rfl,hl,hlen,hf⟩:=DataW.trod_struct ht h
 match xs,hlen with
 | [y0,y1,y2,y3,y4,y5,y6,y7],_=>exact⟨y0,y1,y2,y3,y4,y5,y6,y7,n,by simpa using hf 0 f0 rfl,by simpa using hf 1 f1 rfl,by simpa using hf 2 f2 rfl,by simpa using hf 3 f3 rfl,by simpa using hf 4 f4 rfl,by simpa using hf 5 f5 rfl,by simpa using hf 6 f6 rfl,by simpa using hf 7 f7 rfl⟩
end
theorem uk{cs:Array Value}(h:cs.size=14):∃c0 c1 c2 c3 c4 c5 c6 c7 c8 c9 c10 c11 c12 c13,cs= #[c0,c1,c2,c3,c4,c5,c6,c7,c8,c9,c10,c11,c12,c13]:=by
 obtain⟨l⟩:=cs
 match l,h with
 | [c0,c1,c2,c3,c4,c5,c6,c7,c8,c9,c10,c11,c12,c13],_=>exact⟨c0,c1,c2,c3,c4,c5,c6,c7,c8,c9,c10,c11,c12,c13,rfl⟩
theorem p8:Tryz.prog.cellsOf 36=14:=by kernel_rfl
theorem Eh:Tryz.prog.cellsOf 29=1:=by kernel_rfl
theorem DF:Tryz.prog.cellsOf 30=1:=by kernel_rfl
theorem DD:Tryz.prog.cellsOf 34=1:=by kernel_rfl
theorem ZO{H:Type}{enc:TypeId×Value→H}{W:World}{fuel:Nat}{c0 c1 c2 c3 c4 c5:Value}{x:DataW H×List MemPlace}(hf:DataW.trod enc Tryz.prog W 0 (fun _=>true) true fuel 28 [c0,c1,c2,c3,c4,c5]=some x):
 ∃vo lo n s ao ca m,∃xs:List Int,[c0,c1,c2,c3,c4,c5]=[.int .i64 vo,.int .i64 lo,.int .i64 n,.string s,.slice ao xs.length ca,.string m]∧s.size≤maxLen∧xs.length≤maxLen∧m.size≤maxLen∧RD W ao xs∧J7 xs:=by
 obtain⟨y0,y1,y2,y3,k,_,_,h0,h1,h2,h3⟩:=trod_struct4 Tryz.underlying28 hf;have h0':DataW.trod enc Tryz.prog W 0 (fun _=>true) true k 3 [c0]=some y0:=by simpa[Ag,A_,Ai]using h0
 have h1':DataW.trod enc Tryz.prog W 0 (fun _=>true) true k 3 [c1]=some y1:=by simpa[Ag,A_,Ai]using h1
 have h2':DataW.trod enc Tryz.prog W 0 (fun _=>true) true k 26 [c2,c3,c4]=some y2:=by simpa[Ag,A_,Ai]using h2
 have h3':DataW.trod enc Tryz.prog W 0 (fun _=>true) true k 9 [c5]=some y3:=by simpa[Ag,A_,Ai]using h3
 obtain⟨z0,z1,z2,j,_,_,g0,g1,g2⟩:=Go.Deep.trod_struct3 Tryz.underlying26 h2';have g0':DataW.trod enc Tryz.prog W 0 (fun _=>true) true j 3 [c2]=some z0:=by simpa[Ag]using g0
 have g1':DataW.trod enc Tryz.prog W 0 (fun _=>true) true j 9 [c3]=some z1:=by simpa[Ai]using g1
 have g2':DataW.trod enc Tryz.prog W 0 (fun _=>true) true j 24 [c4]=some z2:=by simpa[A8]using g2
 obtain⟨a,e0,_,_⟩:=DataW.trod_int Tryz.underlying3 h0';obtain⟨b,e1,_,_⟩:=DataW.trod_int Tryz.underlying3 h1';obtain⟨n,e2,_,_⟩:=DataW.trod_int Tryz.underlying3 g0';obtain⟨s,e3,_,hs⟩:=DataW.trod_string Tryz.underlying9 g1';obtain⟨ao,ca,xs,rfl,hx,ax,wx⟩:=FY g2';obtain⟨m,e5,_,hm⟩:=DataW.trod_string Tryz.underlying9 h3';simp at e0 e1 e2 e3 e5;exact⟨a,b,n,s,ao,ca,m,xs,by rw[e0,e1,e2,e3,e5],hs,hx,hm,ax,wx⟩
theorem KU{H:Type}{enc:TypeId×Value→H}{P:Program}{W:World}{t e:TypeId}{fuel:Nat}{c:Value}{x:DataW H×List MemPlace}(ht:P.underlying t=some (.slice e))(h:DataW.trod enc P W 0 (fun _=>true) true fuel t [c]=some x):∃a l k,c= .slice a l k:=by
 rcases Go.Deep.open_slice ht h with⟨hcs,_⟩|⟨ad,l,k,m,n,D,Pl,hcs,_⟩
 ·exact⟨_,_,_,by simpa using hcs⟩
 exact⟨_,_,_,by simpa using hcs⟩
theorem nU{H:Type}{enc:TypeId×Value→H}{W:World}{base:Nat}{v:Value}{d:DataW H}{p:List MemPlace}(hv:Value.okWide Tryz.prog W .any base 36 v)
 (h:DataW.Trod enc Tryz.prog W 0 (fun _=>true) true 36 v d p):
 ∃(t:Bv)(ao bo co od oe:Option Addr)(ca cb cc cd ce:Nat)(rs:List Pr),t.tab=rs.map YC∧v=FX t (.slice ao t.qw.length ca) (.slice bo t.pool.length cb) (.slice co rs.length cc) (.slice od t.AY.length cd) (.slice oe t.held.length ce)∧uz t rs∧RD W ao t.qw∧J7 t.qw∧AR W bo t.pool∧E_ W co rs∧(∀r ∈ rs,RD W r.2.2.1 r.2.2.2.2∧J7 r.2.2.2.2)∧(zF W od cd t.AY∧∀k,k<t.AY.length→0≤t.AY.getD k 0∧t.AY.getD k 0≤255)∧RG (OH t.held) 18 W (.slice oe t.held.length ce) t.held.length∧∀p ∈ t.held,(J7 p.2.bw∧J7 p.2.pw∧J7 p.2.qw)∧MI p.2:=by
 obtain⟨cs,rfl,hsz⟩:=okWide_struct Tryz.underlying36 hv;obtain⟨c0,c1,c2,c3,c4,c5,c6,c7,c8,c9,c10,c11,c12,c13,rfl⟩:=uk (hsz.trans p8);obtain⟨fuel,hf⟩:=h;obtain⟨y0,y1,y2,y3,y4,y5,y6,y7,k,h0,h1,h2,h3,h4,h5,h6,h7⟩:=UE Tryz.underlying36 hf;have g0:DataW.trod enc Tryz.prog W 0 (fun _=>true) true k 3 [c0]=some y0:=by simpa[Value.cells,Ag,Ai,Dy,Eh,DF,cellsD,DD]using h0
 have g1:DataW.trod enc Tryz.prog W 0 (fun _=>true) true k 3 [c1]=some y1:=by simpa[Value.cells,Ag,Ai,Dy,Eh,DF,cellsD,DD]using h1
 have g2:DataW.trod enc Tryz.prog W 0 (fun _=>true) true k 3 [c2]=some y2:=by simpa[Value.cells,Ag,Ai,Dy,Eh,DF,cellsD,DD]using h2
 have g3:DataW.trod enc Tryz.prog W 0 (fun _=>true) true k 28 [c3,c4,c5,c6,c7,c8]=some y3:=by simpa[Value.cells,Ag,Ai,Dy,Eh,DF,cellsD,DD]using h3
 have g4:DataW.trod enc Tryz.prog W 0 (fun _=>true) true k 29 [c9]=some y4:=by simpa[Value.cells,Ag,Ai,Dy,Eh,DF,cellsD,DD]using h4
 have g5:DataW.trod enc Tryz.prog W 0 (fun _=>true) true k 30 [c10]=some y5:=by simpa[Value.cells,Ag,Ai,Dy,Eh,DF,cellsD,DD]using h5
 have g6:DataW.trod enc Tryz.prog W 0 (fun _=>true) true k 33 [c11,c12]=some y6:=by simpa[Value.cells,Ag,Ai,Dy,Eh,DF,cellsD,DD]using h6
 have g7:DataW.trod enc Tryz.prog W 0 (fun _=>true) true k 34 [c13]=some y7:=by simpa[Value.cells,Ag,Ai,Dy,Eh,DF,cellsD,DD]using h7
 obtain⟨id,e0,_,_⟩:=DataW.trod_int Tryz.underlying3 g0;obtain⟨vw,e1,_,_⟩:=DataW.trod_int Tryz.underlying3 g1;obtain⟨ak,e2,_,_⟩:=DataW.trod_int Tryz.underlying3 g2;obtain⟨vo,lo,n,s,ao,ca,m,qw,e3,l1,l2,l3,aq,fq⟩:=ZO g3;obtain⟨bo,pl,cb,rfl⟩:=KU Tryz.underlying29 g4;obtain⟨pool,rfl,l4,ap⟩:=iY (a:=bo) (len:=pl) (cap:=cb) g4;obtain⟨co,tl,cc,rfl⟩:=KU Tryz.underlying30 g5;obtain⟨rs,rfl,l5,at_,he⟩:=Wu (a:=co) (len:=tl) (cap:=cc) g5;obtain⟨z0,z1,kd,_,_,d0,d1⟩:=trod_struct2 Tryz.underlying33 g6;have cB:Tryz.prog.cellsOf 31=1:=by kernel_rfl
 have d0':DataW.trod enc Tryz.prog W 0 (fun _=>true) true kd 31 [c11]=some z0:=by simpa[Ag,cB]using d0
 have d1':DataW.trod enc Tryz.prog W 0 (fun _=>true) true kd 3 [c12]=some z1:=by simpa[Ag,cB]using d1
 obtain⟨od,cd,zs,rfl,l6,ad,fd⟩:=ZP d0';obtain⟨su,e12,_,_⟩:=DataW.trod_int Tryz.underlying3 d1';obtain⟨oe,hl,ce,rfl⟩:=KU Tryz.underlying34 g7;obtain⟨ps,rfl,l7,ah,hp⟩:=Wt (a:=oe) (len:=hl) (cap:=ce) g7;simp at e0 e1 e2 e3 e12;obtain⟨e3,e4,e5,e6,e7,e8⟩:=e3;exact⟨⟨id,vw,ak,vo,lo,n,s,qw,m,pool,rs.map YC,zs,su,ps⟩,ao,bo,co,od,oe,ca,cb,cc,cd,ce,rs,rfl,by rw[e0,e1,e2,e3,e4,e5,e6,e7,e8,e12],⟨l1,l2,l3,l4,l5,fun r hr=>⟨(he r hr).1,(he r hr).2.1⟩,l6,l7,fun p hp'=>(hp p hp').1⟩,aq,fq,ap,at_,fun r hr=>(he r hr).2.2,⟨ad,fd⟩,ah,fun p hp'=>(hp p hp').2⟩
end
end Go.Proofs.YtcjmcgolgbkknaaGreatDoor
