/- Lemmas; their conditions stand in each statement. -/
import Derived.Test.YtcjmcgolgbkknaaGreatDoorRSBI
set_option maxRecDepth 100000
set_option maxHeartbeats 16000000
set_option linter.unusedSectionVars false
set_option linter.unusedSimpArgs false
namespace Go.Proofs.YtcjmcgolgbkknaaGreatDoor
section
open Go Go.RowKit
variable [∀(a b c d:Int),Decidable (BD a b c d)] [∀(n f:Int),Decidable (A_ n f)] [∀(a b c d:Nat),Decidable (Dg a b c d)] [∀(x:T4),Decidable (Dt x)] [∀(last:Int)(s:St),Decidable (Ak last s)] [∀(n:Int)(s:List Int),Decidable (Du n s)]
theorem Kp.cut{w w':World}{X:Nat→Prop}(k:Kp w w' X):Kp w w' (fun j=>X j∧j<w.heap.size):=⟨k.os,k.tape,k.output,k.size,fun j hj hx=>k.block j hj (fun e=>hx ⟨e,hj⟩)⟩
def GQ(w:World)(lo hi:Nat)(t:Cu)(a b c d e:Value):Prop:=hi≤w.heap.size∧∀(w':World)(X:Nat→Prop),Kp w w' X→(∀j,lo≤j→j<hi→¬X j)→FK w' t a b c d e
theorem GQ.kp{w w':World}{lo hi:Nat}{t:Cu}{a b c d e:Value}{X:Nat→Prop}(h:GQ w lo hi t a b c d e)(k:Kp w w' X)(hx:∀j,lo≤j→j<hi→¬X j):GQ w' lo hi t a b c d e:=
 ⟨Nat.le_trans h.1 k.size,fun w'' Y k' hy=>h.2 w'' (fun j=>X j∨Y j) ((k.mono (fun _=>Or.inl)).trans (k'.mono (fun _=>Or.inr))) (fun j h1 h2 e=>e.elim (hx j h1 h2) (hy j h1 h2))⟩
theorem GQ.below{w w':World}{lo hi:Nat}{t:Cu}{a b c d e:Value}(h:GQ w lo hi t a b c d e)(b':Below w.heap.size w w'):GQ w' lo hi t a b c d e:=h.kp (Below.Bo b' (fun _=>False)) (fun _ _ _ h=>h)
theorem GQ.mono{w:World}{lo lo' hi hi':Nat}{t:Cu}{a b c d e:Value}(h:GQ w lo hi t a b c d e)(h1:lo'≤lo)(h2:hi≤hi')(h3:hi'≤w.heap.size):GQ w lo' hi' t a b c d e:=
 ⟨h3,fun w' X k hx=>h.2 w' X k (fun j a b=>hx j (Nat.le_trans h1 a) (Nat.lt_of_lt_of_le b h2))⟩
theorem GQ.Cf{w:World}{lo hi:Nat}{t:Cu}{a b c d e:Value}(h:GQ w lo hi t a b c d e):FK w t a b c d e:=h.2 w (fun _=>False) (Kp.refl _ _) (fun _ _ _ h=>h)
theorem WR(w:World):OT (w.alloc (.cells #[] 73)) w.heap.size (.slice (some ⟨w.heap.size,0,none⟩) 0 0) []:=by
 have:=World.ownsRow_lit (base:=w.heap.size) (e:=73) (size:=4) w #[] 0 Ae (by unfold maxLen;omega) (by simp);simpa[OT,Aq]using this
theorem Wu(t:Cu)(ao bo co od oe:Option Addr)(ca cb cc cd ce:Nat)(w:World)(hm:Mw t)(h:FK w t (.slice ao t.qw.length ca) (.slice bo t.pool.length cb) (.slice co t.tab.length cc) (.slice od t.Ad.length cd) (.slice oe t.held.length ce)):
 Calls Tryz.prog 31 #[I_ t (.slice ao t.qw.length ca) (.slice bo t.pool.length cb) (.slice co t.tab.length cc) (.slice od t.Ad.length cd) (.slice oe t.held.length ce)] w fun e w'=>∃a' b' c' d' e',e= .returned (I_ t a' b' c' d' e')∧GQ w' w.heap.size w'.heap.size t a' b' c' d' e'∧Below w.heap.size w w':=by
 have T1:=hide fun w' h=>Wx t.vo t.lo t.n t.s ao ca t.qw t.d w' h;have T2:=hide fun w' h=>nI od t.Ad.length cd t.su t.Ad w' h (by have:=hm.d;omega);have T3:=hide fun v w' h=>UD v t.tab w' (by have:=hm.tb;omega) h;have wV:=hide fun v w' h=>UB v t.held w' hm.h h;have HR:=hide h;have HM:=hide hm;have hpl:=hm.p;clear h hm;obtain⟨w0,hw0,AP,P,O,De⟩:=Gf w #[.int .i64 t.id,.int .i64 t.vw,.int .i64 t.ak,.int .i64 t.vo,.int .i64 t.lo,.int .i64 t.n,.string t.s,.slice ao t.qw.length ca,.string t.d,.slice bo t.pool.length cb,.slice co t.tab.length cc,.slice od t.Ad.length cd,.int .i64 t.su,.slice oe t.held.length ce] 46 #[.int .i64 0,.int .i64 0,.int .i64 0,.int .i64 0,.int .i64 0,.int .i64 0,.string ⟨#[]⟩,.slice none 0 0,.string ⟨#[]⟩,.slice none 0 0,.slice none 0 0,.slice none 0 0,.int .i64 0,.slice none 0 0] 46;go_enter Tryz.func31,Tryz.ntmps31
 have K:Hid (∀w',Kp w0 w' (fun k=>k=w.heap.size+1)→(fun w'=>Kp w0 w' (fun k=>k=w.heap.size+1)∧Loc w' (w.heap.size) #[.int .i64 t.id,.int .i64 t.vw,.int .i64 t.ak,.int .i64 t.vo,.int .i64 t.lo,.int .i64 t.n,.string t.s,.slice ao t.qw.length ca,.string t.d,.slice bo t.pool.length cb,.slice co t.tab.length cc,.slice od t.Ad.length cd,.int .i64 t.su,.slice oe t.held.length ce]) w'):=hide fun w' hk'=>⟨hk',P.kp hk' (by omega)⟩
 go_upto_region 1 with fail
 clear hw0;refine wrk K (fun mM bA bb hHeld=>?_);have Ic:=bu AP bb;have r_:=bb.size;replace P:=P.up bb;replace O:=O.up bb;clear AP bb;refine tx 0 3 ?_;refine tx 2 5 ?_;refine tx 4 7 ?_;refine tx 6 9 ?_;refine tx 10 13 ?_;refine tx 13 16 ?_;refine tx 16 19 ?_;refine tx 19 22 ?_;refine take_at (i:=1) (d:=4) (v:=?_) rfl rfl (by kernel_rfl) (by kernel_rfl) (by kernel_rfl) (fun _ _ _ h=>h) (Or.inl ⟨by rfl,?_⟩) (by assumption) ?_
 rotate_left
 ·intro w hSw
  try dsimp only at hSw
  have h:=hSw;have hc0:=(h.2).cell 0 rfl;clear h hSw;go_simp
  try with_reducible rfl
 simp only[pU];refine take_at (i:=3) (d:=6) (v:=?_) rfl rfl (by kernel_rfl) (by kernel_rfl) (by kernel_rfl) (fun _ _ _ h=>h) (Or.inl ⟨by rfl,?_⟩) (by assumption) ?_
 rotate_left
 ·intro w hSw
  try dsimp only at hSw
  have h:=hSw;have hc1:=(h.2).cell 1 rfl;clear h hSw;go_simp
  try with_reducible rfl
 simp only[pU];refine take_at (i:=5) (d:=8) (v:=?_) rfl rfl (by kernel_rfl) (by kernel_rfl) (by kernel_rfl) (fun _ _ _ h=>h) (Or.inl ⟨by rfl,?_⟩) (by assumption) ?_
 rotate_left
 ·intro w hSw
  try dsimp only at hSw
  have h:=hSw;have hc2:=(h.2).cell 2 rfl;clear h hSw;go_simp
  try with_reducible rfl
 simp only[pU];refine take_at (i:=7) (d:=10) (v:= .agg #[.int .i64 t.vo,.int .i64 t.lo,.int .i64 t.n,.string t.s,.slice ao t.qw.length ca,.string t.d]) rfl rfl (by kernel_rfl) (by kernel_rfl) (by kernel_rfl) (fun _ _ _ h=>h) ?_ (by assumption) ?_
 ·exact Be rfl 40 _ rfl rfl [.int .i64 t.vo,.int .i64 t.lo,.int .i64 t.n,.string t.s,.slice ao t.qw.length ca,.string t.d] _ (fun w h=>(h.2).range 3 6 rfl) Tryz.underlying40 rfl (by kernel_rfl)
 simp only[pU];refine take_at (i:=11) (d:=14) (v:=?_) rfl rfl (by kernel_rfl) (by kernel_rfl) (by kernel_rfl) (fun _ _ _ h=>h) (Or.inl ⟨by rfl,?_⟩) (by assumption) ?_
 rotate_left
 ·intro w hSw
  try dsimp only at hSw
  have h:=hSw;have hc9:=(h.2).cell 9 rfl;clear h hSw;go_simp
  try with_reducible rfl
 simp only[pU];refine take_at (i:=14) (d:=17) (v:=?_) rfl rfl (by kernel_rfl) (by kernel_rfl) (by kernel_rfl) (fun _ _ _ h=>h) (Or.inl ⟨by rfl,?_⟩) (by assumption) ?_
 rotate_left
 ·intro w hSw
  try dsimp only at hSw
  have h:=hSw;have ADQ:=(h.2).cell 10 rfl;clear h hSw;go_simp
  try with_reducible rfl
 simp only[pU];refine take_at (i:=17) (d:=20) (v:= .agg #[.slice od t.Ad.length cd,.int .i64 t.su]) rfl rfl (by kernel_rfl) (by kernel_rfl) (by kernel_rfl) (fun _ _ _ h=>h) ?_ (by assumption) ?_
 ·exact Be rfl 43 _ rfl rfl [.slice od t.Ad.length cd,.int .i64 t.su] _ (fun w h=>(h.2).range 11 2 rfl) Tryz.underlying43 rfl (by kernel_rfl)
 simp only[pU];refine take_at (i:=20) (d:=23) (v:=?_) rfl rfl (by kernel_rfl) (by kernel_rfl) (by kernel_rfl) (fun _ _ _ h=>h) (Or.inl ⟨by rfl,?_⟩) (by assumption) ?_
 rotate_left
 ·intro w hSw
  try dsimp only at hSw
  have h:=hSw;have ADP:=(h.2).cell 13 rfl;clear h hSw;go_simp
  try with_reducible rfl
 simp only[pU];refine wpAnyH_ready (rs:=[8,9]) (by kernel_rfl) (by simp) (AllReadyH.cons rfl (fun KK AA=>?_) (AllReadyH.cons rfl (fun KK AA=>?_) AllReadyH.nil))
 ·go_simp;refine(T1.out _ (HR.out.q.below Ic)).mono ?_;rintro e Ig ⟨u,rfl,oA,bb⟩;have QQ:Kp w0 Ig (fun k=>k=w.heap.size+1):=bA.trans (Below.Bo bb _);clear hHeld;refine AA.out _ _ (K.out _ QQ) (fun hHeld=>?_);clear AA KK bA;have MX:=bu Ic bb;have xP:=bb.size;replace P:=P.up bb;replace O:=O.up bb;clear Ic bb;have toA:=World.ownsRow.lt oA;obtain⟨ED,D8,rfl⟩:=oA.form;refine rd 9 rfl (fun KK AA=>?_);go_simp;obtain⟨Ma,hq⟩:∃y,Ig.alloc (.cells #[] 73)=y:=⟨_,rfl⟩
  rw[hq];have bb:Below Ig.heap.size Ig Ma:=hq▸Af _ _;have Sj:Kp w0 Ma (fun k=>k=w.heap.size+1):=QQ.trans (Below.Bo bb _);obtain⟨h9,XO⟩:∃m,Ig.heap.size=m:=⟨_,rfl⟩
  have oN:OT Ma h9 (.slice (some ⟨h9,0,none⟩) 0 0) []:=XO▸hq▸WR Ig;rw[XO];have h91:=Nat.le_of_eq XO;have h92:=Nat.le_of_eq XO.symm;clear hHeld hq XO;refine AA.out _ _ (K.out _ Sj) (fun hHeld=>?_);clear AA KK QQ;have MW:=bu MX bb;have xO:=bb.size;replace P:=P.up bb;replace O:=O.up bb;replace oA:=oA.below bb;clear MX bb;have toN:=World.ownsRow.lt oN;have h93:=(toN h9 rfl).2;refine rd 12 rfl (fun KK AA=>?_);refine FY rfl (.tmp 12) (.tmp 14) rfl h9 (.slice (some ⟨h9,0,none⟩) 0 0) (.slice bo t.pool.length cb) [] t.pool rfl rfl oN (RT.below HR.out.p MW).pt (by simp;omega) (by omega) ?_;intro u zX oB g7 hu;rw[List.nil_append]at oB;have kN:=Ck g7;have UW:∀j,(Value.slice (some ⟨h9,0,none⟩) 0 0).ownBlock=some j→j=h9:=fun j e=>by cases e;rfl
  replace P:=P.kp kN (fun e=>by have:=UW _ e;omega);replace O:=O.kp kN (fun e=>by have:=UW _ e;omega);replace oA:=oA.kp kN (fun j hj e=>by have:=toA j hj;have:=UW _ e;omega);have qb:Kp w0 zX (fun k=>k=w.heap.size+1):=Kp.over Sj kN (fun j e=>Or.inl (by have:=UW _ e;omega));have dC:=Below.kp MW kN MW.size (fun j e=>by have:=UW _ e;omega);have AC5:=kN.size;clear hHeld g7 kN oN toN hu MW;refine AA.out _ _ (K.out _ qb) (fun hHeld=>?_);clear AA KK Sj;change wpAnyH _ _ _ _ _ _ _ (Act.put _ (some 15) _) _;simp only[pU];obtain⟨Fg,Fe,rfl⟩:=OT.DD oB;have Bj:=World.ownsRow.lt oB;refine rd 15 rfl (fun KK AA=>?_);go_simp;refine(T3.out _ _ (HR.out.tb.below dC)).mono ?_;rintro e vO ⟨u,rfl,oC,bb⟩;have qZ:Kp w0 vO (fun k=>k=w.heap.size+1):=qb.trans (Below.Bo bb _);clear hHeld;refine AA.out _ _ (K.out _ qZ) (fun hHeld=>?_);clear AA KK qb;have dB:=bu dC bb;have AC4:=bb.size;replace P:=P.up bb;replace O:=O.up bb;replace oA:=oA.below bb;replace oB:=oB.below bb;clear dC bb;obtain⟨zF,oC⟩:=oC;obtain⟨GZ,GX,rfl⟩:=MV.form ⟨zF,oC⟩;obtain⟨m1,hm1⟩:∃m,vO.heap.size=m:=⟨_,rfl⟩
  have oC:=Da.opr oC;rw[hm1]at oC;have hm2:=Nat.le_of_eq hm1;have hm3:=Nat.le_of_eq hm1.symm;clear hm1;refine rd 18 rfl (fun KK AA=>?_);go_simp;refine(T2.out _ (HR.out.d.below dB)).mono ?_;rintro e zV ⟨u,rfl,oD,bb⟩;have bg:Kp w0 zV (fun k=>k=w.heap.size+1):=qZ.trans (Below.Bo bb _);clear hHeld;refine AA.out _ _ (K.out _ bg) (fun hHeld=>?_);clear AA KK qZ;have dA:=bu dB bb;have AC3:=bb.size;replace P:=P.up bb;replace O:=O.up bb;replace oA:=oA.below bb;replace oB:=oB.below bb;clear dB;replace oC:=oC.below bb;clear bb;have NP:=World.ownsRow.lt oD;obtain⟨Il,Ii,rfl⟩:=oD.form;refine rd 21 rfl (fun KK AA=>?_);go_simp;refine(wV.out _ _ (HR.out.h.below dA)).mono ?_;rintro e S_ ⟨u,rfl,oE,bb⟩;have bf:Kp w0 S_ (fun k=>k=w.heap.size+1):=bg.trans (Below.Bo bb _);clear hHeld;refine AA.out _ _ (K.out _ bf) (fun hHeld=>?_);clear AA KK bg;have VJ:=bu dA bb;have AB1:=bb.size;replace P:=P.up bb;replace O:=O.up bb;replace oA:=oA.below bb;replace oB:=oB.below bb;replace oD:=oD.below bb;clear dA;replace oC:=oC.below bb;clear bb;obtain⟨NH,M_,rfl⟩:=oE.form;refine tx 22 25 ?_;refine rd 23 rfl (fun KK AA=>?_);rw[if_pos (by rfl)];refine wp_store_mid 46 (.tmp 2) (.tmp 25) rfl (w.heap.size+1) 0 #[.int .i64 t.id,.int .i64 t.vw,.int .i64 t.ak,.int .i64 t.vo,.int .i64 t.lo,.int .i64 t.n,.string t.s,.slice ED t.qw.length D8,.string t.d,.slice Fg t.pool.length Fe,.slice GZ t.tab.length GX,.slice Il t.Ad.length Ii,.int .i64 t.su,.slice NH t.held.length M_] rfl rfl (O.there 0 14 (by simp)) (by kernel_rfl) (by simp[Value.oneCell']) ?_;obtain⟨S9,hq⟩:∃y,S_.setCells (w.heap.size+1) 0 [.int .i64 t.id,.int .i64 t.vw,.int .i64 t.ak,.int .i64 t.vo,.int .i64 t.lo,.int .i64 t.n,.string t.s,.slice ED t.qw.length D8,.string t.d,.slice Fg t.pool.length Fe,.slice GZ t.tab.length GX,.slice Il t.Ad.length Ii,.int .i64 t.su,.slice NH t.held.length M_]=y:=⟨_,rfl⟩
  have kN:Kp S_ S9 (fun k=>k=w.heap.size+1):=hq▸AY _ _ _ _;have qf:Kp w0 S9 (fun k=>k=w.heap.size+1):=bf.trans (kN.mono (fun k e=>e));replace O:Loc S9 (w.heap.size+1) #[.int .i64 t.id,.int .i64 t.vw,.int .i64 t.ak,.int .i64 t.vo,.int .i64 t.lo,.int .i64 t.n,.string t.s,.slice ED t.qw.length D8,.string t.d,.slice Fg t.pool.length Fe,.slice GZ t.tab.length GX,.slice Il t.Ad.length Ii,.int .i64 t.su,.slice NH t.held.length M_]:=hq▸O.setCells _ _ rfl;rw[show S_.setCells (w.heap.size+1) 0 (Array.toList #[.int .i64 t.id,.int .i64 t.vw,.int .i64 t.ak,.int .i64 t.vo,.int .i64 t.lo,.int .i64 t.n,.string t.s,.slice ED t.qw.length D8,.string t.d,.slice Fg t.pool.length Fe,.slice GZ t.tab.length GX,.slice Il t.Ad.length Ii,.int .i64 t.su,.slice NH t.held.length M_])=S9 from hq];clear hHeld;refine AA.out _ _ (K.out _ qf) (fun hHeld=>?_);clear AA KK bf;replace P:=P.kp kN (by omega);replace oA:=oA.kp kN (fun j hj e=>by have:=toA j hj;omega);replace oB:=oB.kp kN (fun j hj e=>by have:=Bj j hj;omega);replace oD:=oD.kp kN (fun j hj e=>by have:=NP j hj;omega);replace oC:=oC.kp kN (fun j h1 h2 e=>by omega);replace oE:=oE.kp kN (fun j h1 e=>by omega);have vH:=Below.kp VJ kN VJ.size (fun k hk=>by omega);have AB0:=kN.size;clear hq kN VJ hHeld;refine Bq ?_;clear K qf;go_wp2;refine bodyPost_ret (v:=I_ t (.slice ED t.qw.length D8) (.slice Fg t.pool.length Fe) (.slice GZ t.tab.length GX) (.slice Il t.Ad.length Ii) (.slice NH t.held.length M_)) (CG Tryz.results31 _ O rfl Tryz.underlying46 rfl (by kernel_rfl)) rfl ?_;refine⟨_,_,_,_,_,rfl,⟨Nat.le_refl _,fun v X k hx=>?_⟩,vH⟩;have hm:=HM.out;refine⟨(oA.kp k (fun j hj=>hx j (by have:=toA j hj;omega) (by have:=toA j hj;omega))).ri (by have:=hm.q;omega),(oB.kp k (fun j hj=>hx j (by have:=Bj j hj;omega) (by have:=Bj j hj;omega))).rt (by omega),(oC.kp k (fun j h1 h2=>hx j (by omega) (by omega))).vY hm.tt,(oD.kp k (fun j hj=>hx j (by have:=NP j hj;omega) (by have:=NP j hj;omega))).rb (by have:=hm.d;omega),?_⟩;exact(oE.kp k.cut (fun j h1 h2=>hx j (by omega) h2.2 h2.1)).zI hm.hh
 go_simp;obtain⟨YI,hq⟩:∃y,mM.alloc (.cells #[] 73)=y:=⟨_,rfl⟩
 rw[hq];have bb:Below mM.heap.size mM YI:=hq▸Af _ _;have bV:Kp w0 YI (fun k=>k=w.heap.size+1):=bA.trans (Below.Bo bb _);obtain⟨h9,XO⟩:∃m,mM.heap.size=m:=⟨_,rfl⟩
 have oN:OT YI h9 (.slice (some ⟨h9,0,none⟩) 0 0) []:=XO▸hq▸WR mM;rw[XO];have h91:=Nat.le_of_eq XO;have h92:=Nat.le_of_eq XO.symm;clear hHeld hq XO;refine AA.out _ _ (K.out _ bV) (fun hHeld=>?_);clear AA KK bA;have VI:=bu Ic bb;have ABz:=bb.size;replace P:=P.up bb;replace O:=O.up bb;clear Ic bb;have toN:=World.ownsRow.lt oN;have h93:=(toN h9 rfl).2;refine rd 8 rfl (fun KK AA=>?_);go_simp;refine(T1.out _ (HR.out.q.below VI)).mono ?_;rintro e wy ⟨u,rfl,oA,bb⟩;have bT:Kp w0 wy (fun k=>k=w.heap.size+1):=bV.trans (Below.Bo bb _);clear hHeld;refine AA.out _ _ (K.out _ bT) (fun hHeld=>?_);clear AA KK bV;have Ns:=bu VI bb;have ABy:=bb.size;replace P:=P.up bb;replace O:=O.up bb;replace oN:=oN.below bb;clear VI bb;have toA:=World.ownsRow.lt oA;obtain⟨ED,D8,rfl⟩:=oA.form;refine rd 12 rfl (fun KK AA=>?_);refine FY rfl (.tmp 12) (.tmp 14) rfl h9 (.slice (some ⟨h9,0,none⟩) 0 0) (.slice bo t.pool.length cb) [] t.pool rfl rfl oN (RT.below HR.out.p Ns).pt (by simp;omega) (by omega) ?_;intro u wu oB g7 hu;rw[List.nil_append]at oB;have kN:=Ck g7;have UW:∀j,(Value.slice (some ⟨h9,0,none⟩) 0 0).ownBlock=some j→j=h9:=fun j e=>by cases e;rfl
 replace P:=P.kp kN (fun e=>by have:=UW _ e;omega);replace O:=O.kp kN (fun e=>by have:=UW _ e;omega);replace oA:=oA.kp kN (fun j hj e=>by have:=toA j hj;have:=UW _ e;omega);have bS:Kp w0 wu (fun k=>k=w.heap.size+1):=Kp.over bT kN (fun j e=>Or.inl (by have:=UW _ e;omega));have VH:=Below.kp Ns kN Ns.size (fun j e=>by have:=UW _ e;omega);have ABx:=kN.size;clear hHeld g7 kN oN toN hu Ns;refine AA.out _ _ (K.out _ bS) (fun hHeld=>?_);clear AA KK bT;change wpAnyH _ _ _ _ _ _ _ (Act.put _ (some 15) _) _;simp only[pU];obtain⟨Fg,Fe,rfl⟩:=OT.DD oB;have Bj:=World.ownsRow.lt oB;refine rd 15 rfl (fun KK AA=>?_);go_simp;refine(T3.out _ _ (HR.out.tb.below VH)).mono ?_;rintro e mF ⟨u,rfl,oC,bb⟩;have bQ:Kp w0 mF (fun k=>k=w.heap.size+1):=bS.trans (Below.Bo bb _);clear hHeld;refine AA.out _ _ (K.out _ bQ) (fun hHeld=>?_);clear AA KK bS;have VG:=bu VH bb;have ABw:=bb.size;replace P:=P.up bb;replace O:=O.up bb;replace oA:=oA.below bb;replace oB:=oB.below bb;clear VH bb;obtain⟨zF,oC⟩:=oC;obtain⟨GZ,GX,rfl⟩:=MV.form ⟨zF,oC⟩;obtain⟨m1,hm1⟩:∃m,mF.heap.size=m:=⟨_,rfl⟩
 have oC:=Da.opr oC;rw[hm1]at oC;have hm2:=Nat.le_of_eq hm1;have hm3:=Nat.le_of_eq hm1.symm;clear hm1;refine rd 18 rfl (fun KK AA=>?_);go_simp;refine(T2.out _ (HR.out.d.below VG)).mono ?_;rintro e wo ⟨u,rfl,oD,bb⟩;have bP:Kp w0 wo (fun k=>k=w.heap.size+1):=bQ.trans (Below.Bo bb _);clear hHeld;refine AA.out _ _ (K.out _ bP) (fun hHeld=>?_);clear AA KK bQ;have VE:=bu VG bb;have ABv:=bb.size;replace P:=P.up bb;replace O:=O.up bb;replace oA:=oA.below bb;replace oB:=oB.below bb;clear VG;replace oC:=oC.below bb;clear bb;have NP:=World.ownsRow.lt oD;obtain⟨Il,Ii,rfl⟩:=oD.form;refine rd 21 rfl (fun KK AA=>?_);go_simp;refine(wV.out _ _ (HR.out.h.below VE)).mono ?_;rintro e Sz ⟨u,rfl,oE,bb⟩;have bO:Kp w0 Sz (fun k=>k=w.heap.size+1):=bP.trans (Below.Bo bb _);clear hHeld;refine AA.out _ _ (K.out _ bO) (fun hHeld=>?_);clear AA KK bP;have VD:=bu VE bb;have ABu:=bb.size;replace P:=P.up bb;replace O:=O.up bb;replace oA:=oA.below bb;replace oB:=oB.below bb;replace oD:=oD.below bb;clear VE;replace oC:=oC.below bb;clear bb;obtain⟨NH,M_,rfl⟩:=oE.form;refine tx 22 25 ?_;refine rd 23 rfl (fun KK AA=>?_);rw[if_pos (by rfl)];refine wp_store_mid 46 (.tmp 2) (.tmp 25) rfl (w.heap.size+1) 0 #[.int .i64 t.id,.int .i64 t.vw,.int .i64 t.ak,.int .i64 t.vo,.int .i64 t.lo,.int .i64 t.n,.string t.s,.slice ED t.qw.length D8,.string t.d,.slice Fg t.pool.length Fe,.slice GZ t.tab.length GX,.slice Il t.Ad.length Ii,.int .i64 t.su,.slice NH t.held.length M_] rfl rfl (O.there 0 14 (by simp)) (by kernel_rfl) (by simp[Value.oneCell']) ?_;obtain⟨Sy,hq⟩:∃y,Sz.setCells (w.heap.size+1) 0 [.int .i64 t.id,.int .i64 t.vw,.int .i64 t.ak,.int .i64 t.vo,.int .i64 t.lo,.int .i64 t.n,.string t.s,.slice ED t.qw.length D8,.string t.d,.slice Fg t.pool.length Fe,.slice GZ t.tab.length GX,.slice Il t.Ad.length Ii,.int .i64 t.su,.slice NH t.held.length M_]=y:=⟨_,rfl⟩
 have kN:Kp Sz Sy (fun k=>k=w.heap.size+1):=hq▸AY _ _ _ _;have qd:Kp w0 Sy (fun k=>k=w.heap.size+1):=bO.trans (kN.mono (fun k e=>e));replace O:Loc Sy (w.heap.size+1) #[.int .i64 t.id,.int .i64 t.vw,.int .i64 t.ak,.int .i64 t.vo,.int .i64 t.lo,.int .i64 t.n,.string t.s,.slice ED t.qw.length D8,.string t.d,.slice Fg t.pool.length Fe,.slice GZ t.tab.length GX,.slice Il t.Ad.length Ii,.int .i64 t.su,.slice NH t.held.length M_]:=hq▸O.setCells _ _ rfl;rw[show Sz.setCells (w.heap.size+1) 0 (Array.toList #[.int .i64 t.id,.int .i64 t.vw,.int .i64 t.ak,.int .i64 t.vo,.int .i64 t.lo,.int .i64 t.n,.string t.s,.slice ED t.qw.length D8,.string t.d,.slice Fg t.pool.length Fe,.slice GZ t.tab.length GX,.slice Il t.Ad.length Ii,.int .i64 t.su,.slice NH t.held.length M_])=Sy from hq];clear hHeld;refine AA.out _ _ (K.out _ qd) (fun hHeld=>?_);clear AA KK bO;replace P:=P.kp kN (by omega);replace oA:=oA.kp kN (fun j hj e=>by have:=toA j hj;omega);replace oB:=oB.kp kN (fun j hj e=>by have:=Bj j hj;omega);replace oD:=oD.kp kN (fun j hj e=>by have:=NP j hj;omega);replace oC:=oC.kp kN (fun j h1 h2 e=>by omega);replace oE:=oE.kp kN (fun j h1 e=>by omega);have vG:=Below.kp VD kN VD.size (fun k hk=>by omega);have ABt:=kN.size;clear hq kN VD hHeld;refine Bq ?_;clear K qd;go_wp2;refine bodyPost_ret (v:=I_ t (.slice ED t.qw.length D8) (.slice Fg t.pool.length Fe) (.slice GZ t.tab.length GX) (.slice Il t.Ad.length Ii) (.slice NH t.held.length M_)) (CG Tryz.results31 _ O rfl Tryz.underlying46 rfl (by kernel_rfl)) rfl ?_;refine⟨_,_,_,_,_,rfl,⟨Nat.le_refl _,fun v X k hx=>?_⟩,vG⟩;have hm:=HM.out;refine⟨(oA.kp k (fun j hj=>hx j (by have:=toA j hj;omega) (by have:=toA j hj;omega))).ri (by have:=hm.q;omega),(oB.kp k (fun j hj=>hx j (by have:=Bj j hj;omega) (by have:=Bj j hj;omega))).rt (by omega),(oC.kp k (fun j h1 h2=>hx j (by omega) (by omega))).vY hm.tt,(oD.kp k (fun j hj=>hx j (by have:=NP j hj;omega) (by have:=NP j hj;omega))).rb (by have:=hm.d;omega),?_⟩;exact(oE.kp k.cut (fun j h1 h2=>hx j (by omega) h2.2 h2.1)).zI hm.hh
end
section
open Go Go.RowKit
variable [∀(a b c d:Int),Decidable (BD a b c d)] [∀(n f:Int),Decidable (A_ n f)] [∀(a b c d:Nat),Decidable (Dg a b c d)] [∀(x:T4),Decidable (Dt x)] [∀(last:Int)(s:St),Decidable (Ak last s)] [∀(n:Int)(s:List Int),Decidable (Du n s)] [∀(x y:T4),Decidable (Io x y)] [∀(ts:List T4),Decidable (Asc ts)] [∀(ts:List T4),Decidable (Eh ts)] [∀(ts:List T4),Decidable (Le ts)]
def IJ(id:Int):Cu:=⟨id,1,0,0,0,0,⟨#[]⟩,[],⟨#[]⟩,[],[],[],0,[]⟩
def G8:Cu:=⟨0,0,0,0,0,0,⟨#[]⟩,[],⟨#[]⟩,[],[],[],0,[]⟩
theorem FK.new(w:World)(id:Int):FK w (IJ id) (.slice none 0 0) (.slice none 0 0) (.slice none 0 0) (.slice none 0 0) (.slice none 0 0):=
 ⟨⟨by simp[IJ],none,0,rfl,.inl rfl⟩,⟨by simp[IJ],none,0,rfl,.inl rfl⟩,⟨none,0,rfl,.inl rfl⟩,⟨by simp[IJ],none,0,rfl,⟨by simp[IJ],by unfold maxLen;omega⟩,.inl rfl⟩,La.nil w⟩
theorem Mw.new(id:Int):Mw (IJ id):=⟨by simp[IJ],by simp[IJ],by simp[IJ],by simp[IJ],by simp[IJ],fun p hp=>by simp[IJ]at hp,fun j hj=>by simp[IJ]at hj⟩
theorem RS.new(id:Int):RS (IJ id):=⟨(Nat.zero_le _:0≤1048576),(Nat.zero_le _:0≤1048576),fun p hp=>by simp[IJ]at hp,fun j hj=>by simp[IJ]at hj⟩
end
section
open Go.RowKit
def rE(r:Option (Int×Int))(e:Ending):Prop:=
 (∃n q,r=some (n,q)∧e= .returned (.tuple #[.int .i64 n,.int .i64 q,.bool true]))∨(r=none∧e= .returned (.tuple #[.int .i64 0,.int .i64 0,.bool false]))

theorem Vz(b off ca:Nat)(xs:List Int)(p:Nat)(w:World)(hl:xs.length≤140737488355328)(h:∀k,k<xs.length→w.cell? ⟨b,off+k,none⟩=some (.int .u8 (xs.getD k 0)))(hb:∀k,k<xs.length→0≤xs.getD k 0∧xs.getD k 0≤255):
 Calls Tryz.prog 92 #[.slice (some ⟨b,off,none⟩) xs.length ca,.int .i64 p] w fun e w'=>rE (Az xs 5 0 p 0) e∧w'=w:=by
 have hd0:decide ((p:Int)<0)=false:=by simp
 go_enter Tryz.func92,Tryz.ntmps92
 go_wp2
 go_loop [7,8] (fun y z=>∃(i:Nat)(n:Int),i≤5∧y= .int .i64 n∧z= .int .i64 i∧0≤n∧n<128 ^ i∧Hid (Az xs 5 0 p 0=Az xs (5-i) i (p+i) n)) (fun _ z=>5-(intOf z).toNat)
 case atStart=>exact⟨0,0,by omega,rfl,rfl,by omega,by simp,rfl⟩
 case round=>
  obtain⟨i,n,hi,rfl,rfl,hn0,hn,HR⟩:=hrel;obtain rfl|rfl|rfl|rfl|rfl|rfl:i=0∨i=1∨i=2∨i=3∨i=4∨i=5:=by omega
  case inr.inr.inr.inr.inr=>
   go_wp2
   go_ret3
   exact⟨.inr ⟨by rw[HR.out];rfl,rfl⟩,rfl⟩
  case inl=>
   simp only[Int.reducePow]at hn;by_cases hq:p<xs.length
   ·have hx:=hb (p) hq;have hc:=h (p) hq;obtain⟨d,hd⟩:∃d,xs.getD (p) 0=d:=⟨_,rfl⟩
    have HD:Hid (xs.getD (p) 0=d):=hd;rw[hd]at hx hc;clear hd h hb;have hge:decide ((xs.length:Int)≤(p:Int))=false:=by simp;omega
    have hor:=PZ n (d%128) 1 0 (by decide) (by decide) hn0 hn (by omega) (by omega);simp only[Int.natCast_one,Int.mul_one]at hor;by_cases h1:128≤d
    ·have HS:Hid (Az xs 5 0 p 0=Az xs 4 1 (p+1) (n+d%128*1)):=DZ (by decide) HR.out hq HD.out h1;go_wp2
     go_round
     case rel=>exact⟨1,_,by omega,by go_num,rfl,by omega,by simp only[Int.reducePow];omega,HS⟩
     case measure=>simp[intOf]
    by_cases h3:d=0
    ·have HY:Hid (Az xs 5 0 p 0=some (n+d%128*1,(p:Int)+1)):=DV (by decide) HR.out hq HD.out h1 (by omega);clear h3;go_wp2
     go_ret3
     exact⟨.inl ⟨_,_,HY.out,by simp⟩,rfl⟩
    have h3':(d==0)=false:=by simp[h3]
    by_cases h2:2147483647<n+d%128*1
    ·omega
    have h2':n+d%128*1≤2147483647:=by omega
    have HY:Hid (Az xs 5 0 p 0=some (n+d%128*1,((p:Nat):Int)+1)):=DV (by decide) HR.out hq HD.out h1 (by omega);go_wp2
    go_ret3
    exact⟨.inl ⟨_,_,HY.out,by simp⟩,rfl⟩
   have HN:Hid (Az xs 5 0 p 0=none):=HR.out.trans (Cn _ _ _ _ _ hq);have hge:decide ((xs.length:Int)≤(p:Int))=true:=by simp;omega
   go_wp2
   go_ret3
   exact⟨.inr ⟨HN.out,rfl⟩,rfl⟩
  case inr.inl=>
   simp only[Int.reducePow]at hn;by_cases hq:p+1<xs.length
   ·have hx:=hb (p+1) hq;have hc:=h (p+1) hq;obtain⟨d,hd⟩:∃d,xs.getD (p+1) 0=d:=⟨_,rfl⟩
    have HD:Hid (xs.getD (p+1) 0=d):=hd;rw[hd]at hx hc;clear hd h hb;have hge:decide ((xs.length:Int)-1≤(p:Int))=false:=by simp;omega
    have hor:=PZ n (d%128) 128 7 (by decide) (by decide) hn0 hn (by omega) (by omega);rw[show((128:Nat):Int)=128 from rfl]at hor;by_cases h1:128≤d
    ·have HS:Hid (Az xs 5 0 p 0=Az xs 3 2 (p+1+1) (n+d%128*128)):=DZ (by decide) HR.out hq HD.out h1;go_wp2
     go_round
     case rel=>exact⟨2,_,by omega,rfl,rfl,by omega,by simp only[Int.reducePow];omega,HS⟩
     case measure=>simp[intOf]
    by_cases h3:d=0
    ·have HN:Hid (Az xs 5 0 p 0=none):=Dc rfl HR.out hq HD.out h1 (.inr ⟨h3,by omega⟩);have h3':(d==0)=true:=by simp[h3]
     clear h3;go_wp2
     go_ret3
     exact⟨.inr ⟨HN.out,rfl⟩,rfl⟩
    have h3':(d==0)=false:=by simp[h3]
    by_cases h2:2147483647<n+d%128*128
    ·omega
    have h2':n+d%128*128≤2147483647:=by omega
    have HY:Hid (Az xs 5 0 p 0=some (n+d%128*128,((p+1:Nat):Int)+1)):=DV (by decide) HR.out hq HD.out h1 (by omega);go_wp2
    go_ret3
    exact⟨.inl ⟨_,_,HY.out,by simp⟩,rfl⟩
   have HN:Hid (Az xs 5 0 p 0=none):=HR.out.trans (Cn _ _ _ _ _ hq);have hge:decide ((xs.length:Int)-1≤(p:Int))=true:=by simp;omega
   go_wp2
   go_ret3
   exact⟨.inr ⟨HN.out,rfl⟩,rfl⟩
  case inr.inr.inl=>
   simp only[Int.reducePow]at hn;by_cases hq:p+2<xs.length
   ·have hx:=hb (p+2) hq;have hc:=h (p+2) hq;obtain⟨d,hd⟩:∃d,xs.getD (p+2) 0=d:=⟨_,rfl⟩
    have HD:Hid (xs.getD (p+2) 0=d):=hd;rw[hd]at hx hc;clear hd h hb;have hge:decide ((xs.length:Int)-2≤(p:Int))=false:=by simp;omega
    have hor:=PZ n (d%128) 16384 14 (by decide) (by decide) hn0 hn (by omega) (by omega);rw[show((16384:Nat):Int)=16384 from rfl]at hor;by_cases h1:128≤d
    ·have HS:Hid (Az xs 5 0 p 0=Az xs 2 3 (p+2+1) (n+d%128*16384)):=DZ (by decide) HR.out hq HD.out h1;go_wp2
     go_round
     case rel=>exact⟨3,_,by omega,rfl,rfl,by omega,by simp only[Int.reducePow];omega,HS⟩
     case measure=>simp[intOf]
    by_cases h3:d=0
    ·have HN:Hid (Az xs 5 0 p 0=none):=Dc rfl HR.out hq HD.out h1 (.inr ⟨h3,by omega⟩);have h3':(d==0)=true:=by simp[h3]
     clear h3;go_wp2
     go_ret3
     exact⟨.inr ⟨HN.out,rfl⟩,rfl⟩
    have h3':(d==0)=false:=by simp[h3]
    by_cases h2:2147483647<n+d%128*16384
    ·omega
    have h2':n+d%128*16384≤2147483647:=by omega
    have HY:Hid (Az xs 5 0 p 0=some (n+d%128*16384,((p+2:Nat):Int)+1)):=DV (by decide) HR.out hq HD.out h1 (by omega);go_wp2
    go_ret3
    exact⟨.inl ⟨_,_,HY.out,by simp⟩,rfl⟩
   have HN:Hid (Az xs 5 0 p 0=none):=HR.out.trans (Cn _ _ _ _ _ hq);have hge:decide ((xs.length:Int)-2≤(p:Int))=true:=by simp;omega
   go_wp2
   go_ret3
   exact⟨.inr ⟨HN.out,rfl⟩,rfl⟩
  case inr.inr.inr.inl=>
   simp only[Int.reducePow]at hn;by_cases hq:p+3<xs.length
   ·have hx:=hb (p+3) hq;have hc:=h (p+3) hq;obtain⟨d,hd⟩:∃d,xs.getD (p+3) 0=d:=⟨_,rfl⟩
    have HD:Hid (xs.getD (p+3) 0=d):=hd;rw[hd]at hx hc;clear hd h hb;have hge:decide ((xs.length:Int)-3≤(p:Int))=false:=by simp;omega
    have hor:=PZ n (d%128) 2097152 21 (by decide) (by decide) hn0 hn (by omega) (by omega);rw[show((2097152:Nat):Int)=2097152 from rfl]at hor;by_cases h1:128≤d
    ·have HS:Hid (Az xs 5 0 p 0=Az xs 1 4 (p+3+1) (n+d%128*2097152)):=DZ (by decide) HR.out hq HD.out h1;go_wp2
     go_round
     case rel=>exact⟨4,_,by omega,rfl,rfl,by omega,by simp only[Int.reducePow];omega,HS⟩
     case measure=>simp[intOf]
    by_cases h3:d=0
    ·have HN:Hid (Az xs 5 0 p 0=none):=Dc rfl HR.out hq HD.out h1 (.inr ⟨h3,by omega⟩);have h3':(d==0)=true:=by simp[h3]
     clear h3;go_wp2
     go_ret3
     exact⟨.inr ⟨HN.out,rfl⟩,rfl⟩
    have h3':(d==0)=false:=by simp[h3]
    by_cases h2:2147483647<n+d%128*2097152
    ·omega
    have h2':n+d%128*2097152≤2147483647:=by omega
    have HY:Hid (Az xs 5 0 p 0=some (n+d%128*2097152,((p+3:Nat):Int)+1)):=DV (by decide) HR.out hq HD.out h1 (by omega);go_wp2
    go_ret3
    exact⟨.inl ⟨_,_,HY.out,by simp⟩,rfl⟩
   have HN:Hid (Az xs 5 0 p 0=none):=HR.out.trans (Cn _ _ _ _ _ hq);have hge:decide ((xs.length:Int)-3≤(p:Int))=true:=by simp;omega
   go_wp2
   go_ret3
   exact⟨.inr ⟨HN.out,rfl⟩,rfl⟩
  case inr.inr.inr.inr.inl=>
   simp only[Int.reducePow]at hn;by_cases hq:p+4<xs.length
   ·have hx:=hb (p+4) hq;have hc:=h (p+4) hq;obtain⟨d,hd⟩:∃d,xs.getD (p+4) 0=d:=⟨_,rfl⟩
    have HD:Hid (xs.getD (p+4) 0=d):=hd;rw[hd]at hx hc;clear hd h hb;have hge:decide ((xs.length:Int)-4≤(p:Int))=false:=by simp;omega
    have hor:=PZ n (d%128) 268435456 28 (by decide) (by decide) hn0 hn (by omega) (by omega);rw[show((268435456:Nat):Int)=268435456 from rfl]at hor;by_cases h1:128≤d
    ·have HS:Hid (Az xs 5 0 p 0=Az xs 0 5 (p+4+1) (n+d%128*268435456)):=DZ (by decide) HR.out hq HD.out h1;go_wp2
     go_round
     case rel=>exact⟨5,_,by omega,rfl,rfl,by omega,by simp only[Int.reducePow];omega,HS⟩
     case measure=>simp[intOf]
    by_cases h3:d=0
    ·have HN:Hid (Az xs 5 0 p 0=none):=Dc rfl HR.out hq HD.out h1 (.inr ⟨h3,by omega⟩);have h3':(d==0)=true:=by simp[h3]
     clear h3;go_wp2
     go_ret3
     exact⟨.inr ⟨HN.out,rfl⟩,rfl⟩
    have h3':(d==0)=false:=by simp[h3]
    by_cases h2:2147483647<n+d%128*268435456
    ·have HN:Hid (Az xs 5 0 p 0=none):=Dc (by decide) HR.out hq HD.out h1 (.inl h2);go_wp2
     go_ret3
     exact⟨.inr ⟨HN.out,rfl⟩,rfl⟩
    have h2':n+d%128*268435456≤2147483647:=by omega
    have HY:Hid (Az xs 5 0 p 0=some (n+d%128*268435456,((p+4:Nat):Int)+1)):=DV (by decide) HR.out hq HD.out h1 (by omega);go_wp2
    go_ret3
    exact⟨.inl ⟨_,_,HY.out,by simp⟩,rfl⟩
   have HN:Hid (Az xs 5 0 p 0=none):=HR.out.trans (Cn _ _ _ _ _ hq);have hge:decide ((xs.length:Int)-4≤(p:Int))=true:=by simp;omega
   go_wp2
   go_ret3
   exact⟨.inr ⟨HN.out,rfl⟩,rfl⟩

theorem Mf(ao:Option Addr)(ca len:Nat)(p:Int)(w:World)(hl:len≤140737488355328)(hp:p<0∨(len:Int)≤p):
 Calls Tryz.prog 92 #[.slice ao len ca,.int .i64 p] w fun e w'=>e= .returned (.tuple #[.int .i64 0,.int .i64 0,.bool false])∧w'=w:=by
 by_cases hn:p<0
 ·clear hp;go_enter Tryz.func92,Tryz.ntmps92
  go_wp2;refine wp_loop_rounds 1 ?_;rw[rounds_succ];go_wp2
  go_ret3
  exact⟨rfl,rfl⟩
 have hd:decide (p<0)=false:=by simpa using hn
 have hp2:(len:Int)≤p:=by omega
 have hd2:decide ((len:Int)≤p)=true:=by simpa using hp2
 clear hp;go_enter Tryz.func92,Tryz.ntmps92
 go_wp2;refine wp_loop_rounds 1 ?_;rw[rounds_succ];go_wp2
 go_ret3
 exact⟨rfl,rfl⟩

theorem V3(v:Value)(xs:List Int)(p:Int)(w:World)(h:RB w v xs)(hb:∀k,k<xs.length→0≤xs.getD k 0∧xs.getD k 0≤255):
 Calls Tryz.prog 92 #[v,.int .i64 p] w fun e w'=>rE (AV xs p) e∧w'=w:=by
 obtain⟨hl,ao,ca,rfl,_,h⟩:=h;by_cases hp:p<0
 ·refine(Mf ao ca xs.length p w hl (.inl hp)).mono ?_;rintro e w' ⟨rfl,rfl⟩;exact⟨.inr ⟨GH xs p hp,rfl⟩,rfl⟩
 obtain⟨m,rfl⟩:=Int.eq_ofNat_of_zero_le (Int.not_lt.1 hp);rw[IQ];rcases h with rfl|⟨b,off,rfl,h⟩
 ·refine(Mf ao ca 0 m w (by omega) (.inr (by omega))).mono ?_;rintro e w' ⟨rfl,rfl⟩;exact⟨.inr ⟨Cn _ _ _ _ _ (by simp),rfl⟩,rfl⟩
 exact Vz b off ca xs m w hl h hb
theorem JI(v:Value)(xs:List Int)(p:Int)(w:World)(h:RB w v xs)(hb:Bytes xs):
 Calls Tryz.prog 92 #[v,.int .i64 p] w fun e w'=>e= .returned (.tuple #[.int .i64 (AA0 (AV xs p)),.int .i64 (AAz (AV xs p)),.bool (AV xs p).isSome])∧w'=w:=by
 refine(V3 v xs p w h hb).mono ?_;rintro e w' ⟨h1,rfl⟩;rcases h1 with⟨n,q,h2,rfl⟩|⟨h2,rfl⟩<;>exact⟨by rw[h2];rfl,rfl⟩
theorem Ke(v:Value)(xs:List Int)(p n q:Int)(w:World)(h:RB w v xs)(hb:Bytes xs)(hr:AV xs p=some (n,q)):
 Calls Tryz.prog 92 #[v,.int .i64 p] w fun e w'=>e= .returned (.tuple #[.int .i64 n,.int .i64 q,.bool true])∧w'=w:=by
 have:=JI v xs p w h hb;rw[hr]at this;exact this
theorem TZ(v:Value)(xs:List Int)(p:Int)(w:World)(h:RB w v xs)(hb:Bytes xs)(hr:AV xs p=none):
 Calls Tryz.prog 92 #[v,.int .i64 p] w fun e w'=>e= .returned (.tuple #[.int .i64 0,.int .i64 0,.bool false])∧w'=w:=by
 have:=JI v xs p w h hb;rw[hr]at this;exact this

theorem Ql(v:Value)(xs:List Int)(p:Int)(n q:Nat)(w:World)(h:RB w v xs)(hb:Bytes xs)(hr:Hid (AV xs p=some ((n:Int),(q:Int))))(hn:n≤2147483647)(hq:0<q)(hl:q+n≤xs.length):
 Calls Tryz.prog 171 #[v,.int .i64 p] w fun e w'=>e= .returned (.tuple #[.string (F7 xs q n),.int .i64 ((q:Int)+n),.bool true])∧w'=w:=by
 have hr1:=fun w(h:RB w v xs)=>Ke v xs p n q w h hb hr.out;have HR:=hide hr1;clear hr1;have h':=h;obtain⟨hlen,ao,ca,rfl,⟨hcap,hcm⟩,hc⟩:=h';unfold maxLen at hcm;rcases hc with rfl|⟨b,off,rfl,hc⟩
 ·simp at hl;omega
 have hd:decide ((xs.length:Int)-(q:Int)<(n:Int))=false:=by simp;omega
 by_cases hcq:ca=q
 ·obtain rfl:n=0:=by omega
  have hcv:=run_convert_bytes_arg (P:=Tryz.prog) w 31 5 Tryz.underlying31 Tryz.underlying5 b off 0 0 [] rfl (fun i hi=>by omega) 9 Tryz.underlying9;clear hc;subst hcq;go_enter Tryz.func171,Tryz.ntmps171
  go_wp2_with fail
  refine(HR.out _ h).mono ?_;rintro e w' ⟨rfl,rfl⟩;go_wp2
  go_ret3
  exact⟨by simp[F7],rfl⟩
 have hcv:=run_convert_bytes_arg (P:=Tryz.prog) w 31 5 Tryz.underlying31 Tryz.underlying5 b (off+q) n (ca-q) ((xs.drop q).take n) (Hy xs q n hl) (Lf hc hl) 9 Tryz.underlying9;clear hc;go_enter Tryz.func171,Tryz.ntmps171
 go_wp2_with fail
 refine(HR.out _ h).mono ?_;rintro e w' ⟨rfl,rfl⟩;go_wp2
 go_ret3
 exact⟨rfl,rfl⟩

theorem TW(v:Value)(xs:List Int)(p:Int)(n q:Nat)(w:World)(h:RB w v xs)(hb:Bytes xs)(hr:Hid (AV xs p=some ((n:Int),(q:Int))))(hn:n≤2147483647)(hq:q≤xs.length)(hl:xs.length<q+n):
 Calls Tryz.prog 171 #[v,.int .i64 p] w fun e w'=>e= .returned (.tuple #[.string ⟨#[]⟩,.int .i64 0,.bool false])∧w'=w:=by
 have hr1:=fun w(h:RB w v xs)=>Ke v xs p n q w h hb hr.out;have HR:=hide hr1;clear hr1;have h':=h;obtain⟨hlen,ao,ca,rfl,_,hc⟩:=h';clear hc;have hd:decide ((xs.length:Int)-(q:Int)<(n:Int))=true:=by simp;omega
 go_enter Tryz.func171,Tryz.ntmps171
 go_wp2_with fail
 refine(HR.out _ h).mono ?_;rintro e w' ⟨rfl,rfl⟩;go_wp2
 go_ret3
 exact⟨rfl,rfl⟩

theorem Qm(v:Value)(xs:List Int)(p:Int)(w:World)(h:RB w v xs)(hb:Bytes xs)(hr:Hid (AV xs p=none)):
 Calls Tryz.prog 171 #[v,.int .i64 p] w fun e w'=>e= .returned (.tuple #[.string ⟨#[]⟩,.int .i64 0,.bool false])∧w'=w:=by
 have hr1:=fun w(h:RB w v xs)=>TZ v xs p w h hb hr.out;have HR:=hide hr1;clear hr1;have h':=h;obtain⟨hlen,ao,ca,rfl,_,hc⟩:=h';clear hc;go_enter Tryz.func171,Tryz.ntmps171
 go_wp2_with fail
 refine(HR.out _ h).mono ?_;rintro e w' ⟨rfl,rfl⟩;go_wp2
 go_ret3
 exact⟨rfl,rfl⟩

theorem TY(v:Value)(xs:List Int)(p:Int)(w:World)(h:RB w v xs)(hb:Bytes xs):
 Calls Tryz.prog 171 #[v,.int .i64 p] w fun e w'=>e= .returned (.tuple #[.string (vU (Ap xs p)),.int .i64 (vT (Ap xs p)),.bool (Ap xs p).isSome])∧w'=w:=by
 unfold Ap;cases hg:AV xs p with
 |none=>exact Qm v xs p w h hb hg
 | some x=>
  obtain⟨n,q⟩:=x;have bd:=Ec xs hb p n q hg;obtain⟨n,rfl⟩:=Int.eq_ofNat_of_zero_le bd.1;obtain⟨q,rfl⟩:=Int.eq_ofNat_of_zero_le (show 0≤q by omega);by_cases hl:(n:Int)≤(xs.length:Int)-(q:Int)
  ·simp only[if_pos hl];exact Ql v xs p n q w h hb hg (by omega) (by omega) (by omega)
  simp only[if_neg hl];exact TW v xs p n q w h hb hg (by omega) (by omega) (by omega)
end
end Go.Proofs.YtcjmcgolgbkknaaGreatDoor
