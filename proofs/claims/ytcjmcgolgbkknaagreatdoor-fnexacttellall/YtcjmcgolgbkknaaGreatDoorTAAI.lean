/- Lemmas, as stated. -/
import Derived.Test.YtcjmcgolgbkknaaGreatDoorTAAH
set_option maxRecDepth 100000
set_option maxHeartbeats 16000000
set_option linter.unusedSectionVars false
namespace Go.Proofs.YtcjmcgolgbkknaaGreatDoor
section
open Go.RowKit
variable [∀(a b c d:Int),Decidable (BG a b c d)] [∀(n f:Int),Decidable (A_ n f)]
abbrev Ma(n:Int)(t:MT)(a b c:Value):Value:= .agg #[.int .i64 n,.int .i64 t.k,.int .i64 t.vw,.string t.bn,.int .i64 t.bv,.string t.bs,a,.int .i64 t.pv,.string t.ps,b,.int .i64 t.qv,.string t.qs,c,.int .i64 t.wh,.int .i64 t.fr,.int .i64 t.tu,.int .i64 t.am,.int .i64 t.no]
abbrev FR(n:Int)(t:MT)(a b c:Value):List Value:=[.int .i64 n,.int .i64 t.k,.int .i64 t.vw,.string t.bn,.int .i64 t.bv,.string t.bs,a,.int .i64 t.pv,.string t.ps,b,.int .i64 t.qv,.string t.qs,c,.int .i64 t.wh,.int .i64 t.fr,.int .i64 t.tu,.int .i64 t.am,.int .i64 t.no]
theorem Wn(n:Int)(t:MT)(a b c:Value)(xs ys zs:List Int)(w:World)(ha:RI w a xs)(hb:RI w b ys)(hc:RI w c zs):
 Calls Tryz.prog 95 #[Ma n t a b c] w fun e w'=>∃u v x,e= .returned (Ma n t u v x)∧OM w' w.heap.size u v x xs ys zs∧Below w.heap.size w w':=by
 have TM:=hide fun w h1 h2 h3=>Qa t a b c xs ys zs w h1 h2 h3;have HA:=hide ha;have HB:=hide hb;have HC:=hide hc;obtain⟨oa,ka,rfl⟩:=ha.form;obtain⟨ob,kb,rfl⟩:=hb.form;obtain⟨oc,kc,rfl⟩:=hc.form;clear ha hb hc;obtain⟨w0,hw0,AO,P,R,O,DC⟩:=oJ w #[.int .i64 n,.int .i64 t.k,.int .i64 t.vw,.string t.bn,.int .i64 t.bv,.string t.bs,.slice oa xs.length ka,.int .i64 t.pv,.string t.ps,.slice ob ys.length kb,.int .i64 t.qv,.string t.qs,.slice oc zs.length kc,.int .i64 t.wh,.int .i64 t.fr,.int .i64 t.tu,.int .i64 t.am,.int .i64 t.no] 129 #[.int .i64 0,.int .i64 0,.int .i64 0,.string ⟨#[]⟩,.int .i64 0,.string ⟨#[]⟩,.slice none 0 0,.int .i64 0,.string ⟨#[]⟩,.slice none 0 0,.int .i64 0,.string ⟨#[]⟩,.slice none 0 0,.int .i64 0,.int .i64 0,.int .i64 0,.int .i64 0,.int .i64 0] 138 #[.int .i64 0,.int .i64 0,.int .i64 0,.string ⟨#[]⟩,.int .i64 0,.string ⟨#[]⟩,.slice none 0 0,.int .i64 0,.string ⟨#[]⟩,.slice none 0 0,.int .i64 0,.string ⟨#[]⟩,.slice none 0 0,.int .i64 0,.int .i64 0,.int .i64 0,.int .i64 0,.int .i64 0] 138;go_enter Tryz.func95,Tryz.ntmps95
 have fV:=P.cell 0 rfl;have xJ:=O.cell 0 rfl;have fO:=O.frozen;go_upto_region 3 with fail
 clear hw0 fV xJ fO;obtain⟨w1,hw1⟩:∃Ck,(w0.setCell ⟨w.heap.size+1+1,0,none⟩ (.int .i64 n))=Ck:=⟨_,rfl⟩
 have kN:Kp w0 w1 (fun k=>k=w.heap.size+1+1):=hw1▸AB _ _ _ _;replace O:Loc w1 (w.heap.size+1+1) #[.int .i64 n,.int .i64 0,.int .i64 0,.string ⟨#[]⟩,.int .i64 0,.string ⟨#[]⟩,.slice none 0 0,.int .i64 0,.string ⟨#[]⟩,.slice none 0 0,.int .i64 0,.string ⟨#[]⟩,.slice none 0 0,.int .i64 0,.int .i64 0,.int .i64 0,.int .i64 0,.int .i64 0]:=hw1▸(O.set 0 _ rfl);replace P:=P.kp kN (by omega);replace R:=R.kp kN (by omega);have AZ:=Below.kp AO kN AO.size (fun k hk=>by omega);have Cx:=kN.size;rw[hw1];clear hw1 kN AO;go_wp2_with (first|(refine A9 [.int .i64 t.k,.int .i64 t.vw,.string t.bn,.int .i64 t.bv,.string t.bs,.slice oa xs.length ka,.int .i64 t.pv,.string t.ps,.slice ob ys.length kb,.int .i64 t.qv,.string t.qs,.slice oc zs.length kc,.int .i64 t.wh,.int .i64 t.fr,.int .i64 t.tu,.int .i64 t.am,.int .i64 t.no] (P.range 1 17 rfl) 67 _ rfl _ rfl rfl Tryz.underlying67 rfl (by kernel_rfl) ?_))
 refine(TM.out _ (HA.out.below AZ) (HB.out.below AZ) (HC.out.below AZ)).mono ?_;rintro _ w2 ⟨u1,u2,u3,rfl,mo,bb⟩;have Ao:=bu AZ bb;have Ex:=bb.size;replace P:=P.up bb;replace R:=R.up bb;replace O:=O.up bb;clear AZ bb;obtain⟨aX,kX,bX,lX,cX,nX,rfl,rfl,rfl⟩:=mo.form;have mlt:=mo.lt;go_upto_region 4 with(refine Fa #[.int .i64 t.k,.int .i64 t.vw,.string t.bn,.int .i64 t.bv,.string t.bs,.slice aX xs.length kX,.int .i64 t.pv,.string t.ps,.slice bX ys.length lX,.int .i64 t.qv,.string t.qs,.slice cX zs.length nX,.int .i64 t.wh,.int .i64 t.fr,.int .i64 t.tu,.int .i64 t.am,.int .i64 t.no] (O.there 1 17 (by simp)) 75 rfl _ _ rfl rfl rfl (by kernel_rfl) (by simp[Value.oneCell']) ?_)
 obtain⟨w3,hw3⟩:∃y,w2.setCells (w.heap.size+1+1) 1 [.int .i64 t.k,.int .i64 t.vw,.string t.bn,.int .i64 t.bv,.string t.bs,.slice aX xs.length kX,.int .i64 t.pv,.string t.ps,.slice bX ys.length lX,.int .i64 t.qv,.string t.qs,.slice cX zs.length nX,.int .i64 t.wh,.int .i64 t.fr,.int .i64 t.tu,.int .i64 t.am,.int .i64 t.no]=y:=⟨_,rfl⟩
 rw[hw3];have kN:Kp w2 w3 (fun k=>k=w.heap.size+1+1):=hw3▸Ad _ _ _ _;replace O:Loc w3 (w.heap.size+1+1) #[.int .i64 n,.int .i64 t.k,.int .i64 t.vw,.string t.bn,.int .i64 t.bv,.string t.bs,.slice aX xs.length kX,.int .i64 t.pv,.string t.ps,.slice bX ys.length lX,.int .i64 t.qv,.string t.qs,.slice cX zs.length nX,.int .i64 t.wh,.int .i64 t.fr,.int .i64 t.tu,.int .i64 t.am,.int .i64 t.no]:=hw3▸O.setCells _ _ rfl;replace P:=P.kp kN (by omega);replace R:=R.kp kN (by omega);replace mo:=mo.kp kN (fun j h1 h2 h3 e=>by omega);have BK:=Below.kp Ao kN Ao.size (fun k hk=>by omega);have IW:=kN.size;clear hw3 kN Ao;go_wp2_with (first|(refine Ap O 138 _ rfl _ rfl rfl Tryz.underlying138 rfl (by kernel_rfl) ?_)|(refine BH R 138 #[.int .i64 n,.int .i64 t.k,.int .i64 t.vw,.string t.bn,.int .i64 t.bv,.string t.bs,.slice aX xs.length kX,.int .i64 t.pv,.string t.ps,.slice bX ys.length lX,.int .i64 t.qv,.string t.qs,.slice cX zs.length nX,.int .i64 t.wh,.int .i64 t.fr,.int .i64 t.tu,.int .i64 t.am,.int .i64 t.no] rfl _ _ rfl rfl rfl (by kernel_rfl) rfl (by simp[Value.oneCell']) ?_))
 obtain⟨wE,Bf⟩:∃Ck,w3.setRow (w.heap.size+1) #[.int .i64 n,.int .i64 t.k,.int .i64 t.vw,.string t.bn,.int .i64 t.bv,.string t.bs,.slice aX xs.length kX,.int .i64 t.pv,.string t.ps,.slice bX ys.length lX,.int .i64 t.qv,.string t.qs,.slice cX zs.length nX,.int .i64 t.wh,.int .i64 t.fr,.int .i64 t.tu,.int .i64 t.am,.int .i64 t.no]=Ck:=⟨_,rfl⟩
 have kN:Kp w3 wE (fun k=>k=w.heap.size+1):=Bf▸Bu _ _ _;replace R:Loc wE (w.heap.size+1) #[.int .i64 n,.int .i64 t.k,.int .i64 t.vw,.string t.bn,.int .i64 t.bv,.string t.bs,.slice aX xs.length kX,.int .i64 t.pv,.string t.ps,.slice bX ys.length lX,.int .i64 t.qv,.string t.qs,.slice cX zs.length nX,.int .i64 t.wh,.int .i64 t.fr,.int .i64 t.tu,.int .i64 t.am,.int .i64 t.no]:=Bf▸R.row;replace P:=P.kp kN (by omega);replace O:=O.kp kN (by omega);replace mo:=mo.kp kN (fun j h1 h2 h3 e=>by omega);have Fh:=Below.kp BK kN BK.size (fun k hk=>by omega);have Pp:=kN.size;rw[Bf];clear Bf kN BK;refine bodyPost_ret (v:=Ma n t (.slice aX xs.length kX) (.slice bX ys.length lX) (.slice cX zs.length nX)) (Ch Tryz.results95 _ R rfl Tryz.underlying138 rfl (by kernel_rfl)) rfl ?_;exact⟨_,_,_,rfl,mo.mono (by omega),Fh⟩
theorem N8(n:Int)(t:MT)(ao bo co:Option Addr)(ca cb cc:Nat)(left:Int)(w:World)(h:(t.bn.size:Int)+t.bs.size+t.bw.length+t.ps.size+t.pw.length+t.qs.size+t.qw.length≤left)(hl:left≤1048576):
 Calls Tryz.prog 79 #[Ma n t (.slice ao t.bw.length ca) (.slice bo t.pw.length cb) (.slice co t.qw.length cc),.int .i64 left] w fun e w'=>e= .returned (.int .i64 (left-t.bn.size-t.bs.size-t.bw.length-t.ps.size-t.pw.length-t.qs.size-t.qw.length))∧Below w.heap.size w w':=by
 have Z:=hide fun w=>Qd t ao bo co t.bw.length ca t.pw.length cb t.qw.length cc left w h hl;have d1:decide (left-t.bn.size-t.bs.size-t.bw.length-t.ps.size-t.pw.length-t.qs.size-t.qw.length<0)=false:=by simp;omega
 clear h hl;obtain⟨w0,hw0,AO,P,DC⟩:=bx1 w #[.int .i64 n,.int .i64 t.k,.int .i64 t.vw,.string t.bn,.int .i64 t.bv,.string t.bs,.slice ao t.bw.length ca,.int .i64 t.pv,.string t.ps,.slice bo t.pw.length cb,.int .i64 t.qv,.string t.qs,.slice co t.qw.length cc,.int .i64 t.wh,.int .i64 t.fr,.int .i64 t.tu,.int .i64 t.am,.int .i64 t.no] 129;go_enter Tryz.func79,Tryz.ntmps79
 go_wp2_with (first|(refine A9 [.int .i64 t.k,.int .i64 t.vw,.string t.bn,.int .i64 t.bv,.string t.bs,.slice ao t.bw.length ca,.int .i64 t.pv,.string t.ps,.slice bo t.pw.length cb,.int .i64 t.qv,.string t.qs,.slice co t.qw.length cc,.int .i64 t.wh,.int .i64 t.fr,.int .i64 t.tu,.int .i64 t.am,.int .i64 t.no] (P.range 1 17 rfl) 67 _ rfl _ rfl rfl Tryz.underlying67 rfl (by kernel_rfl) ?_))
 clear hw0;refine(Z.out _).mono ?_;rintro _ w1 ⟨rfl,bb⟩;have AZ:=bu AO bb;have Cx:=bb.size;replace P:=P.up bb;clear AO bb;go_wp2;go_ret;exact⟨rfl,AZ⟩
theorem Zx(n:Int)(t:MT)(ao bo co:Option Addr)(ca cb cc:Nat)(left:Int)(w:World)(h0:0≤left)(hl:left≤1048576)(hm:MB t)(h:left<(t.bn.size:Int)+t.bs.size+t.bw.length+t.ps.size+t.pw.length+t.qs.size+t.qw.length):
 Calls Tryz.prog 79 #[Ma n t (.slice ao t.bw.length ca) (.slice bo t.pw.length cb) (.slice co t.qw.length cc),.int .i64 left] w fun e w'=>e= .returned (.int .i64 (-1))∧Below w.heap.size w w':=by
 have Z:=hide fun w=>UT t ao bo co ca cb cc left w h0 hl hm h;clear h0 h hl hm;obtain⟨w0,hw0,AO,P,DC⟩:=bx1 w #[.int .i64 n,.int .i64 t.k,.int .i64 t.vw,.string t.bn,.int .i64 t.bv,.string t.bs,.slice ao t.bw.length ca,.int .i64 t.pv,.string t.ps,.slice bo t.pw.length cb,.int .i64 t.qv,.string t.qs,.slice co t.qw.length cc,.int .i64 t.wh,.int .i64 t.fr,.int .i64 t.tu,.int .i64 t.am,.int .i64 t.no] 129;go_enter Tryz.func79,Tryz.ntmps79
 go_wp2_with (first|(refine A9 [.int .i64 t.k,.int .i64 t.vw,.string t.bn,.int .i64 t.bv,.string t.bs,.slice ao t.bw.length ca,.int .i64 t.pv,.string t.ps,.slice bo t.pw.length cb,.int .i64 t.qv,.string t.qs,.slice co t.qw.length cc,.int .i64 t.wh,.int .i64 t.fr,.int .i64 t.tu,.int .i64 t.am,.int .i64 t.no] (P.range 1 17 rfl) 67 _ rfl _ rfl rfl Tryz.underlying67 rfl (by kernel_rfl) ?_))
 clear hw0;refine(Z.out _).mono ?_;rintro _ w1 ⟨rfl,bb⟩;have AZ:=bu AO bb;have Cx:=bb.size;replace P:=P.up bb;clear AO bb;go_wp2;go_ret;exact⟨rfl,AZ⟩
theorem YW(n:Int)(t:MT)(a b c a' b' c':Value)(xs ys zs:List Int)(w:World)(ha:RI w a xs)(hb:RI w b ys)(hc:RI w c zs)(ha':RI w a' xs)(hb':RI w b' ys)(hc':RI w c' zs):
 Calls Tryz.prog 108 #[Ma n t a b c,Ma n t a' b' c'] w fun e w'=>e= .returned (.bool true)∧Below w.heap.size w w':=by
 have EM:=hide fun w h1 h2 h3 h4 h5 h6=>Q5 t a b c a' b' c' xs ys zs w h1 h2 h3 h4 h5 h6;have hA:=hide ha;have hB:=hide hb;have hC:=hide hc;have hA':=hide ha';have hB':=hide hb';have hC':=hide hc';obtain⟨oa,ka,rfl⟩:=ha.form;obtain⟨ob,kb,rfl⟩:=hb.form;obtain⟨oc,kc,rfl⟩:=hc.form;obtain⟨mI,mU,rfl⟩:=ha'.form;obtain⟨o8,pM,rfl⟩:=hb'.form;obtain⟨o7,pK,rfl⟩:=hc'.form;clear ha hb hc ha' hb' hc';obtain⟨w0,hw0,AO,A,B,DC⟩:=Gb w #[.int .i64 n,.int .i64 t.k,.int .i64 t.vw,.string t.bn,.int .i64 t.bv,.string t.bs,.slice oa xs.length ka,.int .i64 t.pv,.string t.ps,.slice ob ys.length kb,.int .i64 t.qv,.string t.qs,.slice oc zs.length kc,.int .i64 t.wh,.int .i64 t.fr,.int .i64 t.tu,.int .i64 t.am,.int .i64 t.no] 138 #[.int .i64 n,.int .i64 t.k,.int .i64 t.vw,.string t.bn,.int .i64 t.bv,.string t.bs,.slice mI xs.length mU,.int .i64 t.pv,.string t.ps,.slice o8 ys.length pM,.int .i64 t.qv,.string t.qs,.slice o7 zs.length pK,.int .i64 t.wh,.int .i64 t.fr,.int .i64 t.tu,.int .i64 t.am,.int .i64 t.no] 138;go_enter Tryz.func108,Tryz.ntmps108
 have Bi:=A.cell 0 rfl;have cB0:=B.cell 0 rfl;go_wp2_with (first|(refine A9 [.int .i64 t.k,.int .i64 t.vw,.string t.bn,.int .i64 t.bv,.string t.bs,.slice oa xs.length ka,.int .i64 t.pv,.string t.ps,.slice ob ys.length kb,.int .i64 t.qv,.string t.qs,.slice oc zs.length kc,.int .i64 t.wh,.int .i64 t.fr,.int .i64 t.tu,.int .i64 t.am,.int .i64 t.no] (A.range 1 17 rfl) 75 _ rfl _ rfl rfl Tryz.underlying75 rfl (by kernel_rfl) ?_)|(refine A9 [.int .i64 t.k,.int .i64 t.vw,.string t.bn,.int .i64 t.bv,.string t.bs,.slice mI xs.length mU,.int .i64 t.pv,.string t.ps,.slice o8 ys.length pM,.int .i64 t.qv,.string t.qs,.slice o7 zs.length pK,.int .i64 t.wh,.int .i64 t.fr,.int .i64 t.tu,.int .i64 t.am,.int .i64 t.no] (B.range 1 17 rfl) 75 _ rfl _ rfl rfl Tryz.underlying75 rfl (by kernel_rfl) ?_))
 clear hw0;refine(EM.out _ (hA.out.below AO) (hB.out.below AO) (hC.out.below AO) (hA'.out.below AO) (hB'.out.below AO) (hC'.out.below AO)).mono ?_;rintro _ w1 ⟨rfl,bb⟩;clear Bi cB0;have AZ:=bu AO bb;have Cx:=bb.size;replace A:=A.up bb;replace B:=B.up bb;clear AO bb;go_wp2;go_ret;exact⟨rfl,AZ⟩
end
section
open Go Go.RowKit
variable [∀(a b c d:Int),Decidable (BG a b c d)] [∀(n f:Int),Decidable (A_ n f)]
abbrev Ba:=Int×MT
def FZ:MT:=⟨0,0,⟨#[]⟩,0,⟨#[]⟩,[],0,⟨#[]⟩,[],0,⟨#[]⟩,[],0,0,0,0,0⟩
def AL:Ba:=(0,FZ)
def Pj(ps:List Ba)(w:World)(k:Nat)(cs:List Value):Prop:=∃a b c,cs=FR (ps.getD k AL).1 (ps.getD k AL).2 a b c∧RI w a (ps.getD k AL).2.bw∧RI w b (ps.getD k AL).2.pw∧RI w c (ps.getD k AL).2.qw
def Ih(w:World)(v:Value)(ps:List Ba):Prop:=RG (Pj ps) 18 w v ps.length
theorem Ih.below{w w':World}{B:Nat}{v:Value}{ps:List Ba}(h:Ih w v ps)(hb:Below B w w')(hB:w.heap.size≤B:=by exact Nat.le_refl _):Ih w' v ps:=
 RG.below h (by decide) hb hB (fun _ _ ⟨a,b,c,e,h1,h2,h3⟩=>⟨a,b,c,e,h1.below hb hB,h2.below hb hB,h3.below hb hB⟩)
theorem Ih.form{w:World}{v:Value}{ps:List Ba}(h:Ih w v ps):∃ao ca,v= .slice ao ps.length ca:=RG.form h
theorem Ih.nil(w:World):Ih w (.slice none 0 0) []:=⟨none,0,rfl,.inl rfl⟩
def Yu(w:World)(lo:Nat)(ps:List Ba)(rows:List (List Value))(k:Nat):Prop:=∀j,j<k→∃a b c,rows.getD j []=FR (ps.getD j AL).1 (ps.getD j AL).2 a b c∧OM w lo a b c (ps.getD j AL).2.bw (ps.getD j AL).2.pw (ps.getD j AL).2.qw
theorem Yu.below{w w':World}{lo k:Nat}{ps:List Ba}{rows:List (List Value)}(h:Yu w lo ps rows k)(hb:Below w.heap.size w w'):Yu w' lo ps rows k:=fun j hj=>by
 obtain⟨a,b,c,e,m⟩:=h j hj;exact⟨a,b,c,e,m.below hb⟩
theorem Yu.kp{w w':World}{X:Nat→Prop}{lo k:Nat}{ps:List Ba}{rows:List (List Value)}(h:Yu w lo ps rows k)(hk:Kp w w' X)(hX:∀j,lo≤j→¬X j):Yu w' lo ps rows k:=fun j hj=>by
 obtain⟨a,b,c,e,m⟩:=h j hj;exact⟨a,b,c,e,m.kp hk (fun i h1 _ _=>hX i h1)⟩
def Tq(w:World)(base:Nat)(v:Value)(ps:List Ba):Prop:=∃rows,OG 138 18 w base v rows∧rows.length=ps.length∧Yu w base ps rows ps.length
theorem Tq.below{w w':World}{base:Nat}{v:Value}{ps:List Ba}(h:Tq w base v ps)(hb:Below w.heap.size w w'):Tq w' base v ps:=by
 obtain⟨rows,g,l,a⟩:=h;exact⟨rows,g.below hb,l,a.below hb⟩
theorem Tq.kp{w w':World}{X:Nat→Prop}{base:Nat}{v:Value}{ps:List Ba}(h:Tq w base v ps)(k:Kp w w' X)(hX:∀j,base≤j→¬X j):Tq w' base v ps:=by
 obtain⟨rows,g,l,a⟩:=h;exact⟨rows,g.kp k (fun j e=>hX j (g.lt j e).1),l,a.kp k hX⟩
theorem Tq.mono{w:World}{base base':Nat}{v:Value}{ps:List Ba}(h:Tq w base v ps)(hb:base'≤base):Tq w base' v ps:=by
 obtain⟨rows,g,l,a⟩:=h;exact⟨rows,g.mono hb,l,fun j hj=>by obtain⟨x,y,z,e,m⟩:=a j hj;exact⟨x,y,z,e,m.mono hb⟩⟩
theorem Tq.form{w:World}{base:Nat}{v:Value}{ps:List Ba}(h:Tq w base v ps):∃ao ca,v= .slice ao ps.length ca:=by obtain⟨rows,g,l,_⟩:=h;rw[←l];exact g.form
theorem Tq.ZF{w:World}{base:Nat}{v:Value}{ps:List Ba}(h:Tq w base v ps)(hs:∀j,j<ps.length→(ps.getD j AL).2.bw.length≤4194304∧(ps.getD j AL).2.pw.length≤4194304∧(ps.getD j AL).2.qw.length≤4194304):Ih w v ps:=by
 obtain⟨rows,g,l,a⟩:=h
 have:=g.rg (R:=Pj ps) (fun k hk=>by
  obtain⟨x,y,z,e,m⟩:=a k (by omega);obtain⟨r1,r2,r3⟩:=m.Gh (hs k (by omega));exact⟨x,y,z,e,r1,r2,r3⟩)
 rw[l]at this;exact this
theorem Ih.small{w:World}{v:Value}{ps:List Ba}(h:Ih w v ps)(j:Nat)(hj:j<ps.length):(ps.getD j AL).2.bw.length≤4194304∧(ps.getD j AL).2.pw.length≤4194304∧(ps.getD j AL).2.qw.length≤4194304:=by
 obtain⟨ao,ca,rfl⟩:=h.form;obtain⟨g,off,cs,_,_,_,a,b,c,_,r1,r2,r3⟩:=RG.at h j hj;exact⟨r1.1,r2.1,r3.1⟩
theorem Tryz.infoPo:(Tryz.prog.info? 138).map (fun i=>(i.zero,i.size,i.bytes))=some (some (Ma 0 FZ (.slice none 0 0) (.slice none 0 0) (.slice none 0 0)),18,224):=by kernel_rfl
theorem Qj{R:List (List Value)}{n k:Nat}{z cs:List Value}(hR:R.length=k)(hk:k<n):(R++List.replicate (n-k) z).set k cs=(R++[cs])++List.replicate (n-(k+1)) z:=by
 subst hR;rw[List.set_append_right _ _ Ak,Nat.sub_self,show n-R.length=(n-(R.length+1))+1 by omega,List.replicate_succ,List.set_cons_zero,List.append_assoc];rfl
end
section
open Go.ChangeShapes Go.WideShapes Go.ChangeAt Go.RowKit
open Go.Joins
variable [∀(a b c d:Int),Decidable (BG a b c d)] [∀(n f:Int),Decidable (A_ n f)]
theorem bK{H:Type}{enc:TypeId×Value→H}{W:World}{fuel:Nat}{cs:List Value}{x:DataW H×List MemPlace}(hlen:cs.length=17)(hf:DataW.trod enc Tryz.prog W 0 (fun _=>true) true fuel 67 cs=some x):
 ∃(t:MT)(ao bo co:Option Addr)(ca cb cc:Nat),cs=[.int .i64 t.k,.int .i64 t.vw,.string t.bn,.int .i64 t.bv,.string t.bs,.slice ao t.bw.length ca,.int .i64 t.pv,.string t.ps,.slice bo t.pw.length cb,.int .i64 t.qv,.string t.qs,.slice co t.qw.length cc,.int .i64 t.wh,.int .i64 t.fr,.int .i64 t.tu,.int .i64 t.am,.int .i64 t.no]∧MB t∧(Lm W ao t.bw∧Lm W bo t.pw∧Lm W co t.qw)∧(JK t.bw∧JK t.pw∧JK t.qw)∧MI t:=by
 obtain⟨c0,c1,c2,c3,c4,c5,c6,c7,c8,c9,c10,c11,c12,c13,c14,c15,c16,e⟩:=Zc (cs:=⟨cs⟩) hlen;have e':cs=[c0,c1,c2,c3,c4,c5,c6,c7,c8,c9,c10,c11,c12,c13,c14,c15,c16]:=congrArg Array.toList e;subst e';clear e hlen;obtain⟨y0,y1,y2,y3,y4,y5,y6,k,h0,h1,h2,h3,h4,h5,h6⟩:=KG Tryz.underlying67 hf;have g0:DataW.trod enc Tryz.prog W 0 (fun _=>true) true k 3 [c0]=some y0:=by simpa[AX,Aa,Am,AY,AV,Ah,Ab]using h0
 have g1:DataW.trod enc Tryz.prog W 0 (fun _=>true) true k 3 [c1]=some y1:=by simpa[AX,Aa,Am,AY,AV,Ah,Ab]using h1
 have g2:DataW.trod enc Tryz.prog W 0 (fun _=>true) true k 62 [c2,c3,c4,c5]=some y2:=by simpa[AX,Aa,Am,AY,AV,Ah,Ab]using h2
 have g3:DataW.trod enc Tryz.prog W 0 (fun _=>true) true k 63 [c6,c7,c8]=some y3:=by simpa[AX,Aa,Am,AY,AV,Ah,Ab]using h3
 have g4:DataW.trod enc Tryz.prog W 0 (fun _=>true) true k 26 [c9,c10,c11]=some y4:=by simpa[AX,Aa,Am,AY,AV,Ah,Ab]using h4
 have g5:DataW.trod enc Tryz.prog W 0 (fun _=>true) true k 3 [c12]=some y5:=by simpa[AX,Aa,Am,AY,AV,Ah,Ab]using h5
 have g6:DataW.trod enc Tryz.prog W 0 (fun _=>true) true k 65 [c13,c14,c15,c16]=some y6:=by simpa[AX,Aa,Am,AY,AV,Ah,Ab]using h6
 obtain⟨b0,b1,kb,_,_,hb0,hb1⟩:=trod_struct2 Tryz.underlying62 g2;have gb0:DataW.trod enc Tryz.prog W 0 (fun _=>true) true kb 9 [c2]=some b0:=by simpa[AX,Aa,Am,AY,AV,Ah,Ab]using hb0
 have gb1:DataW.trod enc Tryz.prog W 0 (fun _=>true) true kb 26 [c3,c4,c5]=some b1:=by simpa[AX,Aa,Am,AY,AV,Ah,Ab]using hb1
 obtain⟨q0,q1,q2,kq,_,_,hq0,hq1,hq2⟩:=Go.Deep.trod_struct3 Tryz.underlying26 gb1;have gq0:DataW.trod enc Tryz.prog W 0 (fun _=>true) true kq 3 [c3]=some q0:=by simpa[AX,Aa,Am,AY,AV,Ah,Ab]using hq0
 have gq1:DataW.trod enc Tryz.prog W 0 (fun _=>true) true kq 9 [c4]=some q1:=by simpa[AX,Aa,Am,AY,AV,Ah,Ab]using hq1
 have gq2:DataW.trod enc Tryz.prog W 0 (fun _=>true) true kq 24 [c5]=some q2:=by simpa[AX,Aa,Am,AY,AV,Ah,Ab]using hq2
 obtain⟨r0,r1,r2,kr,_,_,hr0,hr1,hr2⟩:=Go.Deep.trod_struct3 Tryz.underlying63 g3;have gr0:DataW.trod enc Tryz.prog W 0 (fun _=>true) true kr 3 [c6]=some r0:=by simpa[AX,Aa,Am,AY,AV,Ah,Ab]using hr0
 have gr1:DataW.trod enc Tryz.prog W 0 (fun _=>true) true kr 9 [c7]=some r1:=by simpa[AX,Aa,Am,AY,AV,Ah,Ab]using hr1
 have gr2:DataW.trod enc Tryz.prog W 0 (fun _=>true) true kr 24 [c8]=some r2:=by simpa[AX,Aa,Am,AY,AV,Ah,Ab]using hr2
 obtain⟨s0,s1,s2,ks,_,_,hs0,hs1,hs2⟩:=Go.Deep.trod_struct3 Tryz.underlying26 g4;have gs0:DataW.trod enc Tryz.prog W 0 (fun _=>true) true ks 3 [c9]=some s0:=by simpa[AX,Aa,Am,AY,AV,Ah,Ab]using hs0
 have gs1:DataW.trod enc Tryz.prog W 0 (fun _=>true) true ks 9 [c10]=some s1:=by simpa[AX,Aa,Am,AY,AV,Ah,Ab]using hs1
 have gs2:DataW.trod enc Tryz.prog W 0 (fun _=>true) true ks 24 [c11]=some s2:=by simpa[AX,Aa,Am,AY,AV,Ah,Ab]using hs2
 obtain⟨x0,x1,x2,x3,kx,_,_,hx0,hx1,hx2,hx3⟩:=trod_struct4 Tryz.underlying65 g6;have gx0:DataW.trod enc Tryz.prog W 0 (fun _=>true) true kx 3 [c13]=some x0:=by simpa[AX,Aa,Am,AY,AV,Ah,Ab]using hx0
 have gx1:DataW.trod enc Tryz.prog W 0 (fun _=>true) true kx 3 [c14]=some x1:=by simpa[AX,Aa,Am,AY,AV,Ah,Ab]using hx1
 have gx2:DataW.trod enc Tryz.prog W 0 (fun _=>true) true kx 3 [c15]=some x2:=by simpa[AX,Aa,Am,AY,AV,Ah,Ab]using hx2
 have gx3:DataW.trod enc Tryz.prog W 0 (fun _=>true) true kx 3 [c16]=some x3:=by simpa[AX,Aa,Am,AY,AV,Ah,Ab]using hx3
 obtain⟨vk,e0,_,_⟩:=DataW.trod_int Tryz.underlying3 g0;obtain⟨vv,e1,_,_⟩:=DataW.trod_int Tryz.underlying3 g1;obtain⟨bn,e2,_,l1⟩:=DataW.trod_string Tryz.underlying9 gb0;obtain⟨nq,e3,_,wq⟩:=DataW.trod_int Tryz.underlying3 gq0;obtain⟨sq,e4,_,zq⟩:=DataW.trod_string Tryz.underlying9 gq1;obtain⟨oQ,jq,qs,rfl,uq,aq,fq⟩:=Dj gq2;obtain⟨nr,e6,_,wr⟩:=DataW.trod_int Tryz.underlying3 gr0;obtain⟨sr,e7,_,zr⟩:=DataW.trod_string Tryz.underlying9 gr1;obtain⟨oR,jr,rs,rfl,ur,ar,fr⟩:=Dj gr2;obtain⟨ns,e9,_,ws⟩:=DataW.trod_int Tryz.underlying3 gs0;obtain⟨ss,e10,_,zs⟩:=DataW.trod_string Tryz.underlying9 gs1;obtain⟨oS,js,lS,rfl,us,aS,fs⟩:=Dj gs2;obtain⟨vh,e12,_,_⟩:=DataW.trod_int Tryz.underlying3 g5;obtain⟨t0,e13,_,_⟩:=DataW.trod_int Tryz.underlying3 gx0;obtain⟨t1,e14,_,_⟩:=DataW.trod_int Tryz.underlying3 gx1;obtain⟨t2,e15,_,_⟩:=DataW.trod_int Tryz.underlying3 gx2;obtain⟨t3,e16,_,_⟩:=DataW.trod_int Tryz.underlying3 gx3;simp at e0 e1 e2 e3 e4 e6 e7 e9 e10 e12 e13 e14 e15 e16;refine⟨⟨vk,vv,bn,nq,sq,qs,nr,sr,rs,ns,ss,lS,vh,t0,t1,t2,t3⟩,oQ,oR,oS,jq,jr,js,by rw[e0,e1,e2,e3,e4,e6,e7,e9,e10,e12,e13,e14,e15,e16],⟨l1,zq,uq,zr,ur,zs,us⟩,⟨aq,ar,aS⟩,⟨fq,fr,fs⟩,bounds_i64 wq,fun x hx=>bounds_i64 (fq x hx)⟩
theorem fC:Tryz.prog.cellsOf 129=18:=by kernel_rfl
def Ml(ps:List Ba)(w:World)(k:Nat)(cs:List Value):Prop:=∃(ao bo co:Option Addr)(ca cb cc:Nat),cs=FR (ps.getD k AL).1 (ps.getD k AL).2 (.slice ao (ps.getD k AL).2.bw.length ca) (.slice bo (ps.getD k AL).2.pw.length cb) (.slice co (ps.getD k AL).2.qw.length cc)∧Lm w ao (ps.getD k AL).2.bw∧Lm w bo (ps.getD k AL).2.pw∧Lm w co (ps.getD k AL).2.qw
theorem RG.imp{R R':World→Nat→List Value→Prop}{m n:Nat}{w:World}{v:Value}(h:RG R m w v n)(hi:∀k cs,k<n→R w k cs→R' w k cs):RG R' m w v n:=by
 obtain⟨ao,cap,e,h⟩:=h;refine⟨ao,cap,e,?_⟩;rcases h with h|⟨g,off,e',h⟩
 ·exact .inl h
 exact .inr ⟨g,off,e',fun k hk=>by obtain⟨cs,a,b,c⟩:=h k hk;exact⟨cs,a,b,hi k cs hk c⟩⟩
theorem Ml.ZF{w:World}{v:Value}{ps:List Ba}(h:RG (Ml ps) 18 w v ps.length)(hs:∀j,j<ps.length→(ps.getD j AL).2.bw.length≤4194304∧(ps.getD j AL).2.pw.length≤4194304∧(ps.getD j AL).2.qw.length≤4194304):Ih w v ps:=
 RG.imp h (fun k _ hk ⟨_,_,_,_,_,_,e,a,b,c⟩=>⟨_,_,_,e,a.ri (hs k hk).1,b.ri (hs k hk).2.1,c.ri (hs k hk).2.2⟩)
theorem U8{H:Type}{enc:TypeId×Value→H}{W:World}{fuel:Nat}{a:Option Addr}{len cap:Nat}{x:DataW H×List MemPlace}(h:DataW.trod enc Tryz.prog W 0 (fun _=>true) true fuel 34 (Value.slice a len cap).cells.toList=some x):
 ∃ps:List Ba,len=ps.length∧ps.length≤maxLen∧RG (Ml ps) 18 W (.slice a len cap) ps.length∧∀p ∈ ps,MB p.2∧(JK p.2.bw∧JK p.2.pw∧JK p.2.qw)∧MI p.2:=by
 rcases Go.Deep.open_slice Tryz.underlying34 h with⟨hcs,_⟩|⟨ad,l,c,m,n,D,Pl,hcs,_,hl,hm,hmm,_,hx⟩
 ·simp[Value.cells]at hcs;obtain⟨rfl,rfl,rfl⟩:=hcs;exact⟨[],rfl,by simp,⟨none,0,rfl,.inl rfl⟩,fun r hr=>by simp at hr⟩
 simp[Value.cells]at hcs;obtain⟨rfl,rfl,rfl⟩:=hcs;have hm':m=cap:=by simpa using hmm
 have each:∀i,∃q:Ba,i<len→(∃(ao bo co:Option Addr)(ca cb cc:Nat),(∀j v,(FR q.1 q.2 (.slice ao q.2.bw.length ca) (.slice bo q.2.pw.length cb) (.slice co q.2.qw.length cc))[j]? =some v→W.cell? (ad.add (i*18+j))=some v)∧Lm W ao q.2.bw∧Lm W bo q.2.pw∧Lm W co q.2.qw)∧MB q.2∧(JK q.2.bw∧JK q.2.pw∧JK q.2.qw)∧MI q.2:=by
  intro i;by_cases hi:i<len
  ·obtain⟨cs',h1,h2⟩:=hx i (by omega);rw[fC]at h1;obtain⟨_,hlen,hcell⟩:=World.cells?_some h1;obtain⟨y0,y1,k,_,_,g0,g1⟩:=trod_struct2 Tryz.underlying129 h2
   match cs',hlen with
   | v0 :: r,hlen=>
    have ci:Tryz.prog.cellsOf 3=1:=by kernel_rfl
    have hr:r.length=17:=by simpa using hlen
    simp only[ci,V7]at g0 g1;have g0':DataW.trod enc Tryz.prog W 0 (fun _=>true) true k 3 [v0]=some y0:=g0
    have g1':DataW.trod enc Tryz.prog W 0 (fun _=>true) true k 67 r=some y1:=by
     have:r.take 17=r:=List.take_of_length_le (by omega);rw[←this];exact g1
    obtain⟨a0,xD,_,_⟩:=DataW.trod_int Tryz.underlying3 g0';simp at xD;subst xD;obtain⟨t,ao,bo,co,ca,cb,cc,rfl,m1,m2,m3,m4⟩:=bK hr g1';refine⟨(a0,t),fun _=>⟨⟨ao,bo,co,ca,cb,cc,fun j v hj=>?_,m2⟩,m1,m3,m4⟩⟩;have hj':j<18:=by have:=(List.getElem?_eq_some_iff.1 hj).1;simpa using this
    have:=hcell j (by omega);rw[Go.Deep.add_add]at this;rw[this];simpa[List.getElem?_eq_some_iff]using hj
  exact⟨AL,fun h=>absurd h hi⟩
 obtain⟨q,hq⟩:=Classical.axiomOfChoice each;have eg:∀k,k<len→((List.range len).map q).getD k AL=q k:=fun k hk=>by simp[hk]
 refine⟨(List.range len).map q,by simp,by simp;omega,⟨some ad,cap,by simp,?_⟩,fun r hr=>?_⟩
 ·by_cases h0:len=0
  ·left;simp[h0]
  right
  obtain⟨b,off,spot⟩:=ad;obtain⟨⟨ao,bo,co,ca,cb,cc,hc,_⟩,_⟩:=hq 0 (by omega);have hspot:spot=none:=by simpa[Addr.add]using World.cell?_spot (hc 0 _ rfl)
  subst hspot;refine⟨b,off,rfl,fun k hk=>?_⟩;rw[List.length_map,List.length_range]at hk;obtain⟨⟨ao,bo,co,ca,cb,cc,hc,ai⟩,_⟩:=hq k hk;have ea:∀j,((⟨b,off,none⟩:Addr).add j)=⟨b,off+j,none⟩:=fun j=>by unfold Addr.add;split<;>simp_all
  refine⟨FR (q k).1 (q k).2 (.slice ao (q k).2.bw.length ca) (.slice bo (q k).2.pw.length cb) (.slice co (q k).2.qw.length cc),rfl,fun j v hv=>?_,?_⟩
  ·have:=hc j v hv;rw[ea,←Nat.add_assoc]at this;exact this
  refine⟨ao,bo,co,ca,cb,cc,?_,?_⟩
  ·rw[eg k hk]
  rw[eg k hk];exact ai
 obtain⟨j,hj,rfl⟩:=List.mem_map.1 hr;exact(hq j (List.mem_range.1 hj)).2
end
section
open Go Go.RowKit
variable [∀(a b c d:Int),Decidable (BG a b c d)] [∀(n f:Int),Decidable (A_ n f)]
theorem Vt(u v:Value)(ps:List Ba)(w:World)(hl:ps.length≤4194304)(hu:Ih w u ps)(hv:Ih w v ps):
 Calls Tryz.prog 46 #[u,v] w fun e w'=>e= .returned (.bool true)∧Below w.heap.size w w':=by
 obtain⟨ao,ca,rfl⟩:=hu.form;obtain⟨bo,cb,rfl⟩:=hv.form;have HU:=hide hu;have HV:=hide hv;obtain⟨n,hn⟩:∃n,ps.length=n:=⟨_,rfl⟩
 have Hn:=hide hn;rw[hn]at hl HU HV⊢;clear hn hu hv;go_enter Tryz.func46,Tryz.ntmps46
 go_wp2
 go_loopw [5] (fun i wr=>∃k:Nat,k≤n∧i= .int .i64 k∧Below w.heap.size w wr) (fun i _=>n-(intOf i).toNat)
 case atStart=>exact⟨0,Nat.zero_le _,rfl,Below.refl _ _⟩
 case round=>
  obtain⟨k,hk,rfl,br⟩:=hrel;by_cases hlt:k<n
  ·have hkx:k<ps.length:=by have:=Hn.out;omega
   have h1:=HU.out.below br;have h2:=HV.out.below br;obtain⟨g,off,cs,rfl,_,c1,a,b,c,e,ra,rb,rc⟩:=RG.at h1 k hkx;subst e;obtain⟨g',off',cs',rfl,_,c2,a',b',c',e,ra',rb',rc'⟩:=RG.at h2 k hkx;subst e;clear h1 h2 HU HV;generalize (ps.getD k AL).1=m at *;generalize (ps.getD k AL).2=t at *;have EQ:=hide fun w h1 h2 h3 h4 h5 h6=>YW m t a b c a' b' c' t.bw t.pw t.qw w h1 h2 h3 h4 h5 h6;have R1:=hide ra;have R2:=hide rb;have R3:=hide rc;have R4:=hide ra';have R5:=hide rb';have R6:=hide rc';obtain⟨oa,ka,rfl⟩:=ra.form;obtain⟨ob,kb,rfl⟩:=rb.form;obtain⟨oc,kc,rfl⟩:=rc.form;obtain⟨mI,mU,rfl⟩:=ra'.form;obtain⟨o8,pM,rfl⟩:=rb'.form;obtain⟨o7,pK,rfl⟩:=rc'.form;generalize t.bw.length=xl at *;generalize t.pw.length=yl at *;generalize t.qw.length=zl at *;clear ra rb rc ra' rb' rc';have K:Hid (∀w',Below wr.heap.size wr w'→(fun w'=>Below wr.heap.size wr w'∧w'.rangeAt g (off+k*18) [.int .i64 m,.int .i64 t.k,.int .i64 t.vw,.string t.bn,.int .i64 t.bv,.string t.bs,.slice oa xl ka,.int .i64 t.pv,.string t.ps,.slice ob yl kb,.int .i64 t.qv,.string t.qs,.slice oc zl kc,.int .i64 t.wh,.int .i64 t.fr,.int .i64 t.tu,.int .i64 t.am,.int .i64 t.no]∧w'.rangeAt g' (off'+k*18) [.int .i64 m,.int .i64 t.k,.int .i64 t.vw,.string t.bn,.int .i64 t.bv,.string t.bs,.slice mI xl mU,.int .i64 t.pv,.string t.ps,.slice o8 yl pM,.int .i64 t.qv,.string t.qs,.slice o7 zl pK,.int .i64 t.wh,.int .i64 t.fr,.int .i64 t.tu,.int .i64 t.am,.int .i64 t.no]) w'):=hide fun w' hb'=>⟨hb',Ac c1 hb' (Ca c1 (by simp)),Ac c2 hb' (Ca c2 (by simp))⟩
   clear c1 c2;go_upto_region 6 with fail
   refine FC K (fun bA hHeld=>?_);refine tx 0 17 ?_;refine tx 1 18 ?_;refine tx 4 21 ?_;refine tx 5 22 ?_;refine tx 2 19 ?_;refine tx 6 23 ?_;refine take_at (i:=3) (d:=20) (v:= .agg #[.int .i64 m,.int .i64 t.k,.int .i64 t.vw,.string t.bn,.int .i64 t.bv,.string t.bs,.slice oa xl ka,.int .i64 t.pv,.string t.ps,.slice ob yl kb,.int .i64 t.qv,.string t.qs,.slice oc zl kc,.int .i64 t.wh,.int .i64 t.fr,.int .i64 t.tu,.int .i64 t.am,.int .i64 t.no]) rfl rfl (by kernel_rfl) (by kernel_rfl) (by kernel_rfl) (fun _ _ _ h=>h) ?_ (by assumption) ?_
   ·exact Bb rfl 138 _ rfl rfl [.int .i64 m,.int .i64 t.k,.int .i64 t.vw,.string t.bn,.int .i64 t.bv,.string t.bs,.slice oa xl ka,.int .i64 t.pv,.string t.ps,.slice ob yl kb,.int .i64 t.qv,.string t.qs,.slice oc zl kc,.int .i64 t.wh,.int .i64 t.fr,.int .i64 t.tu,.int .i64 t.am,.int .i64 t.no] _ (fun w h=>h.2.1) Tryz.underlying138 rfl (by kernel_rfl)
   simp only[pU];refine take_at (i:=7) (d:=24) (v:= .agg #[.int .i64 m,.int .i64 t.k,.int .i64 t.vw,.string t.bn,.int .i64 t.bv,.string t.bs,.slice mI xl mU,.int .i64 t.pv,.string t.ps,.slice o8 yl pM,.int .i64 t.qv,.string t.qs,.slice o7 zl pK,.int .i64 t.wh,.int .i64 t.fr,.int .i64 t.tu,.int .i64 t.am,.int .i64 t.no]) rfl rfl (by kernel_rfl) (by kernel_rfl) (by kernel_rfl) (fun _ _ _ h=>h) ?_ (by assumption) ?_
   ·exact Bb rfl 138 _ rfl rfl [.int .i64 m,.int .i64 t.k,.int .i64 t.vw,.string t.bn,.int .i64 t.bv,.string t.bs,.slice mI xl mU,.int .i64 t.pv,.string t.ps,.slice o8 yl pM,.int .i64 t.qv,.string t.qs,.slice o7 zl pK,.int .i64 t.wh,.int .i64 t.fr,.int .i64 t.tu,.int .i64 t.am,.int .i64 t.no] _ (fun w h=>h.2.2) Tryz.underlying138 rfl (by kernel_rfl)
   simp only[pU];refine rd 8 rfl (fun KK AA=>?_);go_simp;have hgo:=bA;refine(EQ.out _ (R1.out.below bA) (R2.out.below bA) (R3.out.below bA) (R4.out.below bA) (R5.out.below bA) (R6.out.below bA)).mono ?_;rintro e w2 ⟨rfl,bb⟩;have bz:Below wr.heap.size wr w2:=bu bA bb;clear bA hgo bb hHeld;refine AA.out _ _ (K.out _ bz) (fun hHeld=>?_);clear AA KK;refine tx 9 26 ?_;clear hHeld;refine Bw ?_;have B2:=bu br bz;clear EQ bz K;go_wp2
   go_roundw
   case rel=>exact⟨k+1,by omega,by go_num,B2⟩
   case measure=>simp[intOf];omega
  obtain rfl:k=n:=by omega
  go_wp2;go_ret;exact⟨rfl,br⟩

def SE(t:MT):Nat:=t.bn.size+t.bs.size+t.bw.length+t.ps.size+t.pw.length+t.qs.size+t.qw.length
def BC:List Ba→Nat
 | []=>0
 |r :: rs=>SE r.2+BC rs
theorem Oj(rs:List Ba)(r:Ba):BC (rs++[r])=BC rs+SE r.2:=by
 induction rs with
 |nil=>simp[BC]
 |cons x rs ih=>simp only[List.cons_append,BC,ih];omega
theorem Oi(rs:List Ba)(k:Nat)(hk:k<rs.length):BC (rs.take (k+1))=BC (rs.take k)+SE (rs.getD k AL).2:=by
 rw[List.take_succ_eq_append_getElem hk,Oj];simp[List.getElem?_eq_getElem hk]
theorem Ur(rs:List Ba)(k:Nat):BC (rs.take k)≤BC rs:=by
 induction rs generalizing k with
 |nil=>simp[BC]
 |cons r rs ih=>
  cases k with
  |zero=>simp[BC]
  |succ k=>simp only[List.take_succ_cons,BC];have:=ih k;omega
theorem Xg         {rs:List Ba}{r:Ba}(h:r ∈ rs):SE r.2≤BC rs:=by
 induction rs with
 |nil=>simp at h
 | cons x rs ih => rcases List.mem_cons.1 h with rfl|h
                   ·simp only[BC];omega
                   have:=ih h;simp only[BC];omega

def ABN(ps:List Ba)(_:World)(k:Nat)(cs:List Value):Prop:=∃(ao bo co:Option Addr)(ca cb cc:Nat),cs=FR (ps.getD k AL).1 (ps.getD k AL).2 (.slice ao (ps.getD k AL).2.bw.length ca) (.slice bo (ps.getD k AL).2.pw.length cb) (.slice co (ps.getD k AL).2.qw.length cc)
def F7(w:World)(v:Value)(ps:List Ba):Prop:=RG (ABN ps) 18 w v ps.length
theorem Ml.low{w:World}{v:Value}{ps:List Ba}(h:RG (Ml ps) 18 w v ps.length):F7 w v ps:=
 RG.imp h (fun _ _ _ ⟨_,_,_,_,_,_,e,_⟩=>⟨_,_,_,_,_,_,e⟩)
theorem F7.below{w w':World}{v:Value}{ps:List Ba}(h:F7 w v ps)(hb:Below w.heap.size w w'):F7 w' v ps:=RG.below h (by decide) hb Ak (fun _ _ h=>h)

theorem UR(v:Value)(ps:List Ba)(left:Int)(w:World)(h:F7 w v ps)(hs:(ps.length:Int)+BC ps≤left)(hl:left≤1048576):
 Calls Tryz.prog 29 #[v,.int .i64 left] w fun e w'=>e= .returned (.int .i64 (left-ps.length-BC ps))∧Below w.heap.size w w':=by
 obtain⟨al,cl,rfl⟩:=RG.form h;have H:=hide h;obtain⟨n,hn⟩:∃n,ps.length=n:=⟨_,rfl⟩
 have Hn:=hide hn;unfold F7 at H;rw[hn]at hs H⊢;clear hn h;have hd0:decide (left-(n:Int)<0)=false:=by simp;omega
 go_enter Tryz.func29,Tryz.ntmps29
 go_wp2
 go_loopw [1,5] (fun a i wr=>∃k:Nat,k≤n∧i= .int .i64 k∧a= .int .i64 (left-n-(BC (ps.take k):Nat))∧Below w.heap.size w wr) (fun _ i _=>n-(intOf i).toNat)
 case atStart=>exact⟨0,Nat.zero_le _,rfl,by simp[BC],Below.refl _ _⟩
 case round=>
  obtain⟨k,hk,rfl,rfl,br⟩:=hrel;have hp:=Ur ps k;by_cases hlt:k<n
  ·have hkx:k<ps.length:=by have:=Hn.out;omega
   have hp1:=Ur ps (k+1);have hps:=Oi ps k hkx;have j4:=hide hps;rw[hps]at hp1;clear hps;have h1:=RG.below H.out (by decide) br Ak (fun _ _ h=>h);obtain⟨g,off,cs,rfl,_,c1,ao,bo,co,ca,cb,cc,e⟩:=RG.at h1 k hlt;subst e;clear H h1;generalize (ps.getD k AL).1=m at *;generalize (ps.getD k AL).2=t at *;unfold SE at hp1 j4;generalize BC (ps.take k)=q at *;have SZ:=hide fun w=>N8 m t ao bo co ca cb cc (left-n-q) w (by omega) (by omega);have hd1:decide (left-(n:Int)-(q:Int)-t.bn.size-t.bs.size-t.bw.length-t.ps.size-t.pw.length-t.qs.size-t.qw.length<0)=false:=by simp;omega
   go_wp2_with (first|(refine A9 _ c1 129 _ rfl _ rfl rfl Tryz.underlying129 rfl (by kernel_rfl) ?_))
   refine(SZ.out _).mono ?_;rintro e w1 ⟨rfl,b1⟩;have B1:=bu br b1;clear c1 SZ b1;go_wp2
   go_roundw
   case rel=>exact⟨k+1,by omega,by go_num,by rw[j4.out];simp;omega,B1⟩
   case measure=>simp[intOf];omega
  have hkn:ps.take k=ps:=List.take_of_length_le (by have:=Hn.out;omega);rw[hkn];clear hp;go_wp2;go_ret;exact⟨rfl,br⟩

theorem W_(v:Value)(ps:List Ba)(left:Int)(w:World)(h:F7 w v ps)(hb:∀p ∈ ps,MB p.2)(h0:0≤left)(hm:ps.length≤maxLen)(hs:left<(ps.length:Int)+BC ps)(hl:left≤1048576):
 Calls Tryz.prog 29 #[v,.int .i64 left] w fun e w'=>e= .returned (.int .i64 (-1))∧Below w.heap.size w w':=by
 obtain⟨al,cl,rfl⟩:=RG.form h;have H:=hide h;have HB:=hide hb;obtain⟨n,hn⟩:∃n,ps.length=n:=⟨_,rfl⟩
 have Hn:=hide hn;unfold F7 at H;unfold maxLen at hm;rw[hn]at hs hm H⊢;clear hn h hb;by_cases h1:left<n
 ·have hd0:decide (left-(n:Int)<0)=true:=by simp;omega
  clear H HB;go_enter Tryz.func29,Tryz.ntmps29
  go_wp2;go_ret;exact⟨rfl,Below.refl _ _⟩
 have hd0:decide (left-(n:Int)<0)=false:=by simp;omega
 go_enter Tryz.func29,Tryz.ntmps29
 go_wp2
 go_loopw [1,5] (fun a i wr=>∃k:Nat,k≤n∧i= .int .i64 k∧a= .int .i64 (left-n-(BC (ps.take k):Nat))∧(BC (ps.take k):Int)≤left-n∧Below w.heap.size w wr) (fun _ i _=>n-(intOf i).toNat)
 case atStart=>exact⟨0,Nat.zero_le _,rfl,by simp[BC],by simp[BC];omega,Below.refl _ _⟩
 case round=>
  obtain⟨k,hk,rfl,rfl,hp,br⟩:=hrel;by_cases hlt:k<n
  ·have hkx:k<ps.length:=by have:=Hn.out;omega
   have j4:=hide (Oi ps k hkx);have hbk:=HB.out (ps.getD k AL) (by rw[List.getD_eq_getElem?_getD,List.getElem?_eq_getElem hkx];exact List.getElem_mem hkx);have h1:=RG.below H.out (by decide) br Ak (fun _ _ h=>h);obtain⟨g,off,cs,rfl,_,c1,ao,bo,co,ca,cb,cc,e⟩:=RG.at h1 k hlt;subst e;clear H h1 HB;generalize (ps.getD k AL).1=m at *;generalize (ps.getD k AL).2=t at *;unfold SE at j4;generalize BC (ps.take k)=q at *;have hbh:=hide hbk;obtain⟨hb1,hb2,hb3,hb4,hb5,hb6,hb7⟩:=hbk;unfold maxLen at hb1 hb2 hb3 hb4 hb5 hb6 hb7;by_cases hfit:(t.bn.size:Int)+t.bs.size+t.bw.length+t.ps.size+t.pw.length+t.qs.size+t.qw.length≤left-n-q
   ·have SZ:=hide fun w=>N8 m t ao bo co ca cb cc (left-n-q) w hfit (by omega);have hd1:decide (left-(n:Int)-(q:Int)-t.bn.size-t.bs.size-t.bw.length-t.ps.size-t.pw.length-t.qs.size-t.qw.length<0)=false:=by simp;omega
    go_wp2_with (first|(refine A9 _ c1 129 _ rfl _ rfl rfl Tryz.underlying129 rfl (by kernel_rfl) ?_))
    refine(SZ.out _).mono ?_;rintro e w1 ⟨rfl,b1⟩;have B1:=bu br b1;clear c1 SZ b1;go_wp2
    go_roundw
    case rel=>exact⟨k+1,by omega,by go_num,by rw[j4.out];simp;omega,by rw[j4.out];simp;omega,B1⟩
    case measure=>simp[intOf];omega
   have SZ:=hide fun w=>Zx m t ao bo co ca cb cc (left-n-q) w (by omega) (by omega) hbh.out (by omega);go_wp2_with (first|(refine A9 _ c1 129 _ rfl _ rfl rfl Tryz.underlying129 rfl (by kernel_rfl) ?_))
   refine(SZ.out _).mono ?_;rintro e w1 ⟨rfl,b1⟩;have B1:=bu br b1;clear c1 SZ b1;go_wp2;go_ret;exact⟨rfl,B1⟩
  have hkn:ps.take k=ps:=List.take_of_length_le (by have:=Hn.out;omega);rw[hkn]at hp;omega
end
end Go.Proofs.YtcjmcgolgbkknaaGreatDoor
