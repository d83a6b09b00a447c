/- Lemmas; their conditions stand in each statement. -/
import Derived.Test.YtcjmcgolgbkknaaGreatDoorRSBN
import Derived.Test.YtcjmcgolgbkknaaGreatDoorRSAD
set_option maxRecDepth 100000
set_option maxHeartbeats 16000000
set_option linter.unusedSectionVars false
set_option linter.unusedSimpArgs false
namespace Go.Proofs.YtcjmcgolgbkknaaGreatDoor
section
open Go.RowKit
variable [∀(a b c d:Int),Decidable (BD a b c d)] [∀(n f:Int),Decidable (A_ n f)] [∀(a b c d:Nat),Decidable (Dg a b c d)] [∀(x:T4),Decidable (Dt x)]
theorem Rj{t:Cu}{rs:List Pr}(ht:t.tab=rs.map Y_)(g:(t.s.size:Int)+t.qw.length+t.d.size+t.pool.length+rs.length+Bv rs+t.Ad.length+t.held.length+BU t.held≤1048576):Mw t∧(t.s.size≤1048576∧t.d.size≤1048576)∧(∀p ∈ t.tab,p.2.1.size≤1048576∧p.2.2.length≤1048576)∧∀j,j<t.held.length→lU (t.held.getD j AQ).2≤1048576:=by
 have hl:t.tab.length=rs.length:=by rw[ht];simp
 have h1:∀p ∈ t.tab,p.2.1.size≤1048576∧p.2.2.length≤1048576:=fun p hp=>by
  have:=sO (p:=p) (by rw[←ht];exact hp);omega
 have h2:∀j,j<t.held.length→lU (t.held.getD j AQ).2≤1048576:=fun j hj=>by
  have:=ZG (rs:=t.held) (r:=t.held.getD j AQ) (by rw[List.getD_eq_getElem?_getD,List.getElem?_eq_getElem hj];exact List.getElem_mem hj);omega
 exact⟨⟨by omega,by omega,by omega,by omega,by omega,fun p hp=>by have:=h1 p hp;omega,fun j hj=>by have:=h2 j hj;unfold lU at this;omega⟩,⟨by omega,by omega⟩,h1,h2⟩
end
section
open Go.ChangeShapes Go.WideShapes Go.ChangeAt Go.RowKit
open Go.Joins
variable [∀(a b c d:Int),Decidable (BD a b c d)] [∀(n f:Int),Decidable (A_ n f)]
theorem Ef:Tryz.prog.cellsOf 28=6:=by kernel_rfl
theorem cellsD:Tryz.prog.cellsOf 33=2:=by kernel_rfl
def zP(W:World)(ao:Option Addr)(ca:Nat)(zs:List Int):Prop:=zs.length≤ca∧ca≤maxLen∧(zs=[]∨∃b off,ao=some ⟨b,off,none⟩∧∀k,k<zs.length→W.cell? ⟨b,off+k,none⟩=some (.int .u8 (zs.getD k 0)))
theorem zP.rb{W:World}{ao:Option Addr}{ca:Nat}{zs:List Int}(h:zP W ao ca zs)(hl:zs.length≤1048576):RB W (.slice ao zs.length ca) zs:=⟨by omega,ao,ca,rfl,⟨h.1,h.2.1⟩,h.2.2⟩
theorem ZL{H:Type}{enc:TypeId×Value→H}{W:World}{n:Nat}{c:Value}{y:DataW H×List MemPlace}(h:DataW.trod enc Tryz.prog W 0 (fun _=>true) true n 31 [c]=some y):
 ∃ao ca,∃zs:List Int,c= .slice ao zs.length ca∧zs.length≤maxLen∧zP W ao ca zs∧∀k,k<zs.length→0≤zs.getD k 0∧zs.getD k 0≤255:=by
 rcases open_ints Tryz.underlying31 Tryz.underlying5 (by kernel_rfl) h with⟨hcs,_⟩|⟨x,len,cap,zs,hcs,_,hl,hm,hz,_,hcell,hwz⟩
 ·simp at hcs;exact⟨none,0,[],hcs,by simp,⟨by simp,by unfold maxLen;omega,.inl rfl⟩,fun k hk=>by simp at hk⟩
 simp at hcs;have hz':zs.length=cap:=by simpa using hz
 have e:(zs.take len).length=len:=by simp;omega
 have hm':cap≤maxLen:=by first|exact hm|omega
 refine⟨some x,cap,zs.take len,by rw[hcs,e],by rw[e];omega,⟨by omega,hm',?_⟩,?_⟩
 ·by_cases h0:len=0
  ·left;simp[h0]
  right
  obtain⟨b,off,spot⟩:=x;have hc:=hcell 0 (by omega);have hspot:spot=none:=by simpa[Addr.add]using World.cell?_spot hc
  subst hspot;refine⟨b,off,rfl,fun k hk=>?_⟩;rw[e]at hk;have hk':=hcell k (by omega);rw[show((⟨b,off,none⟩:Addr).add k)=⟨b,off+k,none⟩ from by unfold Addr.add;split<;>simp_all]at hk';rw[hk'];simp[hk]
 intro k hk
 have hm2:(zs.take len).getD k 0 ∈ zs:=by
  rw[List.getD_eq_getElem?_getD,List.getElem?_eq_getElem hk];exact List.mem_of_mem_take (List.getElem_mem hk)
 have:=bounds_u8 (hwz _ hm2);omega
end
section
open Go.ChangeShapes Go.WideShapes Go.ChangeAt Go.RowKit
open Go.Joins
variable [∀(a b c d:Int),Decidable (BD a b c d)] [∀(n f:Int),Decidable (A_ n f)] [∀(a b c d:Nat),Decidable (Dg a b c d)] [∀(x:T4),Decidable (Dt x)]
theorem uZ:Tryz.prog.cellsOf 65=4:=by kernel_rfl
theorem Ji{H:Type}{enc:TypeId×Value→H}{W:World}{n:Nat}{c:Value}{y:DataW H×List MemPlace}(h:DataW.trod enc Tryz.prog W 0 (fun _=>true) true n 3 [c]=some y):∃a:Int,c= .int .i64 a:=by
 obtain⟨a,e0,_,_⟩:=DataW.trod_int Tryz.underlying3 h;simp at e0;exact⟨a,e0⟩
theorem kD{α:Type}{l:List α}(h:l.length=4):∃a b c d,l=[a,b,c,d]:=by
 match l,h with
 | [a,b,c,d],_=>exact⟨a,b,c,d,rfl⟩
theorem ib{H:Type}{enc:TypeId×Value→H}{W:World}{fuel:Nat}{a:Option Addr}{len cap:Nat}{x:DataW H×List MemPlace}(h:DataW.trod enc Tryz.prog W 0 (fun _=>true) true fuel 29 (Value.slice a len cap).cells.toList=some x):
 ∃xs:List T4,len=xs.length∧xs.length≤maxLen∧AR W a xs:=by
 rcases Go.Deep.open_slice Tryz.underlying29 h with⟨hcs,_⟩|⟨ad,l,c,m,n,D,Pl,hcs,_,hl,hm,hmm,_,hx⟩
 ·simp[Value.cells]at hcs;obtain⟨rfl,rfl,rfl⟩:=hcs;exact⟨[],rfl,by simp,.inl rfl⟩
 simp[Value.cells]at hcs;obtain⟨rfl,rfl,rfl⟩:=hcs;have hm':m=cap:=by simpa using hmm
 have each:∀i,∃q:T4,i<len→W.cell? (ad.add (i*4))=some (.int .i64 q.1)∧W.cell? (ad.add (i*4+1))=some (.int .i64 q.2.1)∧W.cell? (ad.add (i*4+2))=some (.int .i64 q.2.2.1)∧W.cell? (ad.add (i*4+3))=some (.int .i64 q.2.2.2):=by
  intro i;by_cases hi:i<len
  ·obtain⟨cs',h1,h2⟩:=hx i (by omega);rw[uZ]at h1;obtain⟨_,hlen,hcell⟩:=World.cells?_some h1;obtain⟨y0,y1,y2,y3,k,_,_,g0,g1,g2,g3⟩:=trod_struct4 Tryz.underlying65 h2;obtain⟨v0,v1,v2,v3,rfl⟩:=kD hlen;have e0:=hcell 0 (by omega);have e1:=hcell 1 (by omega);have e2:=hcell 2 (by omega);have e3:=hcell 3 (by omega);rw[Go.Deep.add_add]at e0 e1 e2 e3;have ci:Tryz.prog.cellsOf 3=1:=by kernel_rfl
   simp[ci]at g0 g1 g2 g3;obtain⟨a0,rfl⟩:=Ji g0;obtain⟨a1,rfl⟩:=Ji g1;obtain⟨a2,rfl⟩:=Ji g2;obtain⟨a3,rfl⟩:=Ji g3;exact⟨(a0,a1,a2,a3),fun _=>⟨by simpa using e0,by simpa using e1,by simpa using e2,by simpa using e3⟩⟩
  exact⟨(0,0,0,0),fun h=>absurd h hi⟩
 obtain⟨q,hq⟩:=Classical.axiomOfChoice each;refine⟨(List.range len).map q,by simp,by simp;omega,?_⟩;by_cases h0:len=0
 ·left;simp[h0]
 right
 obtain⟨b,off,spot⟩:=ad;have hc:=(hq 0 (by omega)).1;have hspot:spot=none:=by simpa[Addr.add]using World.cell?_spot hc
 subst hspot;refine⟨b,off,rfl,fun k hk=>?_⟩;rw[List.length_map,List.length_range]at hk;have:=hq k hk;have ea:∀j,((⟨b,off,none⟩:Addr).add j)=⟨b,off+j,none⟩:=fun j=>by unfold Addr.add;split<;>simp_all
 rw[ea,ea,ea,ea]at this;have eg:((List.range len).map q).getD k (0,0,0,0)=q k:=by simp[hk]
 rw[eg];simpa[Nat.add_assoc]using this
end
section
open Go.ChangeShapes Go.WideShapes Go.ChangeAt Go.RowKit
open Go.Joins
variable [∀(a b c d:Int),Decidable (BD a b c d)] [∀(n f:Int),Decidable (A_ n f)] [∀(a b c d:Nat),Decidable (Dg a b c d)] [∀(x:T4),Decidable (Dt x)]
section
variable {H:Type} {enc:TypeId×Value→H} {P:Program} {w:World} {base:Nat} {spare:Bool}
theorem TG{held:TypeId→Bool}{t:TypeId}{f0 f1 f2 f3 f4 f5 f6 f7:Field}{fuel:Nat}{cs:List Value}{x:DataW H×List MemPlace}(ht:P.underlying t=some (.struct #[f0,f1,f2,f3,f4,f5,f6,f7]))(h:DataW.trod enc P w base held spare fuel t cs=some x):
 ∃y0 y1 y2 y3 y4 y5 y6 y7 n,DataW.trod enc P w base held spare n f0.type ((cs.drop f0.offset).take (P.cellsOf f0.type))=some y0∧DataW.trod enc P w base held spare n f1.type ((cs.drop f1.offset).take (P.cellsOf f1.type))=some y1∧DataW.trod enc P w base held spare n f2.type ((cs.drop f2.offset).take (P.cellsOf f2.type))=some y2∧DataW.trod enc P w base held spare n f3.type ((cs.drop f3.offset).take (P.cellsOf f3.type))=some y3∧DataW.trod enc P w base held spare n f4.type ((cs.drop f4.offset).take (P.cellsOf f4.type))=some y4∧DataW.trod enc P w base held spare n f5.type ((cs.drop f5.offset).take (P.cellsOf f5.type))=some y5∧DataW.trod enc P w base held spare n f6.type ((cs.drop f6.offset).take (P.cellsOf f6.type))=some y6∧DataW.trod enc P w base held spare n f7.type ((cs.drop f7.offset).take (P.cellsOf f7.type))=some y7:=by
 obtain⟨xs,n,_,rfl,hl,hlen,hf⟩:=DataW.trod_struct ht h
 match xs,hlen with
 | [y0,y1,y2,y3,y4,y5,y6,y7],_=>exact⟨y0,y1,y2,y3,y4,y5,y6,y7,n,by simpa using hf 0 f0 rfl,by simpa using hf 1 f1 rfl,by simpa using hf 2 f2 rfl,by simpa using hf 3 f3 rfl,by simpa using hf 4 f4 rfl,by simpa using hf 5 f5 rfl,by simpa using hf 6 f6 rfl,by simpa using hf 7 f7 rfl⟩
end
theorem uz{cs:Array Value}(h:cs.size=14):∃c0 c1 c2 c3 c4 c5 c6 c7 c8 c9 c10 c11 c12 c13,cs= #[c0,c1,c2,c3,c4,c5,c6,c7,c8,c9,c10,c11,c12,c13]:=by
 obtain⟨l⟩:=cs
 match l,h with
 | [c0,c1,c2,c3,c4,c5,c6,c7,c8,c9,c10,c11,c12,c13],_=>exact⟨c0,c1,c2,c3,c4,c5,c6,c7,c8,c9,c10,c11,c12,c13,rfl⟩
theorem qJ:Tryz.prog.cellsOf 36=14:=by kernel_rfl
theorem Ee:Tryz.prog.cellsOf 29=1:=by kernel_rfl
theorem DJ:Tryz.prog.cellsOf 30=1:=by kernel_rfl
theorem DF:Tryz.prog.cellsOf 34=1:=by kernel_rfl
theorem ZK{H:Type}{enc:TypeId×Value→H}{W:World}{fuel:Nat}{c0 c1 c2 c3 c4 c5:Value}{x:DataW H×List MemPlace}(hf:DataW.trod enc Tryz.prog W 0 (fun _=>true) true fuel 28 [c0,c1,c2,c3,c4,c5]=some x):
 ∃vo lo n s ao ca m,∃xs:List Int,[c0,c1,c2,c3,c4,c5]=[.int .i64 vo,.int .i64 lo,.int .i64 n,.string s,.slice ao xs.length ca,.string m]∧s.size≤maxLen∧xs.length≤maxLen∧m.size≤maxLen∧Q_ W ao xs∧KM xs:=by
 obtain⟨y0,y1,y2,y3,k,_,_,h0,h1,h2,h3⟩:=trod_struct4 Tryz.underlying28 hf;have h0':DataW.trod enc Tryz.prog W 0 (fun _=>true) true k 3 [c0]=some y0:=by simpa[Ah,BM,Aj]using h0
 have h1':DataW.trod enc Tryz.prog W 0 (fun _=>true) true k 3 [c1]=some y1:=by simpa[Ah,BM,Aj]using h1
 have h2':DataW.trod enc Tryz.prog W 0 (fun _=>true) true k 26 [c2,c3,c4]=some y2:=by simpa[Ah,BM,Aj]using h2
 have h3':DataW.trod enc Tryz.prog W 0 (fun _=>true) true k 9 [c5]=some y3:=by simpa[Ah,BM,Aj]using h3
 obtain⟨z0,z1,z2,j,_,_,g0,g1,g2⟩:=Go.Deep.trod_struct3 Tryz.underlying26 h2';have g0':DataW.trod enc Tryz.prog W 0 (fun _=>true) true j 3 [c2]=some z0:=by simpa[Ah]using g0
 have g1':DataW.trod enc Tryz.prog W 0 (fun _=>true) true j 9 [c3]=some z1:=by simpa[Aj]using g1
 have g2':DataW.trod enc Tryz.prog W 0 (fun _=>true) true j 24 [c4]=some z2:=by simpa[A7]using g2
 obtain⟨a,e0,_,_⟩:=DataW.trod_int Tryz.underlying3 h0';obtain⟨b,e1,_,_⟩:=DataW.trod_int Tryz.underlying3 h1';obtain⟨n,e2,_,_⟩:=DataW.trod_int Tryz.underlying3 g0';obtain⟨s,e3,_,hs⟩:=DataW.trod_string Tryz.underlying9 g1';obtain⟨ao,ca,xs,rfl,hx,ax,wx⟩:=GD g2';obtain⟨m,e5,_,hm⟩:=DataW.trod_string Tryz.underlying9 h3';simp at e0 e1 e2 e3 e5;exact⟨a,b,n,s,ao,ca,m,xs,by rw[e0,e1,e2,e3,e5],hs,hx,hm,ax,wx⟩
theorem J6{H:Type}{enc:TypeId×Value→H}{P:Program}{W:World}{t e:TypeId}{fuel:Nat}{c:Value}{x:DataW H×List MemPlace}(ht:P.underlying t=some (.slice e))(h:DataW.trod enc P W 0 (fun _=>true) true fuel t [c]=some x):∃a l k,c= .slice a l k:=by
 rcases Go.Deep.open_slice ht h with⟨hcs,_⟩|⟨ad,l,k,m,n,D,Pl,hcs,_⟩
 ·exact⟨_,_,_,by simpa using hcs⟩
 exact⟨_,_,_,by simpa using hcs⟩
theorem oH{H:Type}{enc:TypeId×Value→H}{W:World}{base:Nat}{v:Value}{d:DataW H}{p:List MemPlace}(hv:Value.okWide Tryz.prog W .any base 36 v)
 (h:DataW.Trod enc Tryz.prog W 0 (fun _=>true) true 36 v d p):
 ∃(t:Cu)(ao bo co od oe:Option Addr)(ca cb cc cd ce:Nat)(rs:List Pr),t.tab=rs.map Y_∧v=I_ t (.slice ao t.qw.length ca) (.slice bo t.pool.length cb) (.slice co rs.length cc) (.slice od t.Ad.length cd) (.slice oe t.held.length ce)∧vE t rs∧Q_ W ao t.qw∧KM t.qw∧AR W bo t.pool∧FL W co rs∧(∀r ∈ rs,Q_ W r.2.2.1 r.2.2.2.2∧KM r.2.2.2.2)∧(zP W od cd t.Ad∧∀k,k<t.Ad.length→0≤t.Ad.getD k 0∧t.Ad.getD k 0≤255)∧RG (QV t.held) 18 W (.slice oe t.held.length ce) t.held.length∧∀p ∈ t.held,(KM p.2.bw∧KM p.2.pw∧KM p.2.qw)∧MI p.2:=by
 obtain⟨cs,rfl,hsz⟩:=okWide_struct Tryz.underlying36 hv;obtain⟨c0,c1,c2,c3,c4,c5,c6,c7,c8,c9,c10,c11,c12,c13,rfl⟩:=uz (hsz.trans qJ);obtain⟨fuel,hf⟩:=h;obtain⟨y0,y1,y2,y3,y4,y5,y6,y7,k,h0,h1,h2,h3,h4,h5,h6,h7⟩:=TG Tryz.underlying36 hf;have g0:DataW.trod enc Tryz.prog W 0 (fun _=>true) true k 3 [c0]=some y0:=by simpa[Value.cells,Ah,Aj,Ef,Ee,DJ,cellsD,DF]using h0
 have g1:DataW.trod enc Tryz.prog W 0 (fun _=>true) true k 3 [c1]=some y1:=by simpa[Value.cells,Ah,Aj,Ef,Ee,DJ,cellsD,DF]using h1
 have g2:DataW.trod enc Tryz.prog W 0 (fun _=>true) true k 3 [c2]=some y2:=by simpa[Value.cells,Ah,Aj,Ef,Ee,DJ,cellsD,DF]using h2
 have g3:DataW.trod enc Tryz.prog W 0 (fun _=>true) true k 28 [c3,c4,c5,c6,c7,c8]=some y3:=by simpa[Value.cells,Ah,Aj,Ef,Ee,DJ,cellsD,DF]using h3
 have g4:DataW.trod enc Tryz.prog W 0 (fun _=>true) true k 29 [c9]=some y4:=by simpa[Value.cells,Ah,Aj,Ef,Ee,DJ,cellsD,DF]using h4
 have g5:DataW.trod enc Tryz.prog W 0 (fun _=>true) true k 30 [c10]=some y5:=by simpa[Value.cells,Ah,Aj,Ef,Ee,DJ,cellsD,DF]using h5
 have g6:DataW.trod enc Tryz.prog W 0 (fun _=>true) true k 33 [c11,c12]=some y6:=by simpa[Value.cells,Ah,Aj,Ef,Ee,DJ,cellsD,DF]using h6
 have g7:DataW.trod enc Tryz.prog W 0 (fun _=>true) true k 34 [c13]=some y7:=by simpa[Value.cells,Ah,Aj,Ef,Ee,DJ,cellsD,DF]using h7
 obtain⟨id,e0,_,_⟩:=DataW.trod_int Tryz.underlying3 g0;obtain⟨vw,e1,_,_⟩:=DataW.trod_int Tryz.underlying3 g1;obtain⟨ak,e2,_,_⟩:=DataW.trod_int Tryz.underlying3 g2;obtain⟨vo,lo,n,s,ao,ca,m,qw,e3,l1,l2,l3,aq,fq⟩:=ZK g3;obtain⟨bo,pl,cb,rfl⟩:=J6 Tryz.underlying29 g4;obtain⟨pool,rfl,l4,ap⟩:=ib (a:=bo) (len:=pl) (cap:=cb) g4;obtain⟨co,tl,cc,rfl⟩:=J6 Tryz.underlying30 g5;obtain⟨rs,rfl,l5,at_,he⟩:=WW (a:=co) (len:=tl) (cap:=cc) g5;obtain⟨z0,z1,kd,_,_,d0,d1⟩:=trod_struct2 Tryz.underlying33 g6;have cB:Tryz.prog.cellsOf 31=1:=by kernel_rfl
 have d0':DataW.trod enc Tryz.prog W 0 (fun _=>true) true kd 31 [c11]=some z0:=by simpa[Ah,cB]using d0
 have d1':DataW.trod enc Tryz.prog W 0 (fun _=>true) true kd 3 [c12]=some z1:=by simpa[Ah,cB]using d1
 obtain⟨od,cd,zs,rfl,l6,ad,fd⟩:=ZL d0';obtain⟨su,e12,_,_⟩:=DataW.trod_int Tryz.underlying3 d1';obtain⟨oe,hl,ce,rfl⟩:=J6 Tryz.underlying34 g7;obtain⟨ps,rfl,l7,ah,hp⟩:=WV (a:=oe) (len:=hl) (cap:=ce) g7;simp at e0 e1 e2 e3 e12;obtain⟨e3,e4,e5,e6,e7,e8⟩:=e3;exact⟨⟨id,vw,ak,vo,lo,n,s,qw,m,pool,rs.map Y_,zs,su,ps⟩,ao,bo,co,od,oe,ca,cb,cc,cd,ce,rs,rfl,by rw[e0,e1,e2,e3,e4,e5,e6,e7,e8,e12],⟨l1,l2,l3,l4,l5,fun r hr=>⟨(he r hr).1,(he r hr).2.1⟩,l6,l7,fun p hp'=>(hp p hp').1⟩,aq,fq,ap,at_,fun r hr=>(he r hr).2.2,⟨ad,fd⟩,ah,fun p hp'=>(hp p hp').2⟩
end
section
open Go Go.RowKit
variable [∀(a b c d:Int),Decidable (BD a b c d)] [∀(n f:Int),Decidable (A_ n f)] [∀(a b c d:Nat),Decidable (Dg a b c d)] [∀(x:T4),Decidable (Dt x)] [∀(last:Int)(s:St),Decidable (Ak last s)] [∀(n:Int)(s:List Int),Decidable (Du n s)] [∀(x y:T4),Decidable (Io x y)] [∀(ts:List T4),Decidable (Asc ts)] [∀(ts:List T4),Decidable (Eh ts)] [∀(ts:List T4),Decidable (Le ts)]
theorem nS{W:World}{t:Cu}{ao bo co od oe:Option Addr}{ca cc cd ce:Nat}{rs:List Pr}(ht:t.tab=rs.map Y_)(g:(t.s.size:Int)+t.qw.length+t.d.size+t.pool.length+rs.length+Bv rs+t.Ad.length+t.held.length+BU t.held≤1048576)(aq:Q_ W ao t.qw)(ap:AR W bo t.pool)(at_:FL W co rs)(he:∀r ∈ rs,Q_ W r.2.2.1 r.2.2.2.2∧KM r.2.2.2.2)(ad:zP W od cd t.Ad)(ah:RG (QV t.held) 18 W (.slice oe t.held.length ce) t.held.length):
 Mw t∧RS t∧lJ W t (.slice ao t.qw.length ca) bo (.slice co t.tab.length cc) (.slice od t.Ad.length cd) (.slice oe t.held.length ce):=by
 obtain⟨hsm,⟨s1,s2⟩,h1,h2⟩:=Rj ht g;refine⟨hsm,⟨s1,s2,fun p hp=>(h1 p hp).1,fun j hj=>?_⟩,⟨aq.ri (by have:=hsm.q;omega),ap,?_,ad.rb (by omega),QV.zI ah hsm.hh⟩⟩
 ·have:=h2 j hj;unfold lU at this;exact⟨by omega,by omega,by omega,by omega⟩
 have h3:∀r ∈ rs,r.2.2.2.2.length≤4194304:=fun r hr=>by have:=Ro hr;omega
 have:=FL.vY (ca:=cc) at_ (fun r hr=>(he r hr).1) h3;rw[show rs.length=t.tab.length by rw[ht];simp]at this;rw[←ht]at this;exact this
theorem RI_.new(id:Int):RI_ (IJ id):=⟨(Nat.zero_le _:0≤33554432),(Nat.zero_le _:0≤33554432),fun p hp=>by simp[IJ]at hp,fun j hj=>by simp[IJ]at hj⟩
end
section
open Go.RowKit
variable [∀(a b c d:Int),Decidable (BD a b c d)] [∀(a b c d:Nat),Decidable (Dg a b c d)] [∀(last:Int)(s:St),Decidable (Ak last s)] [∀(x:T4),Decidable (Dt x)] [∀(n:Int)(s:List Int),Decidable (Du n s)] [∀(n f:Int),Decidable (A_ n f)]
theorem OB.nil(w:World)(base:Nat):OB w base (.slice none 0 0) []:=World.ownsRow_nil _ _ _ _
end
section
open Go Go.RowKit
variable [∀(a b c d:Int),Decidable (BD a b c d)] [∀(n f:Int),Decidable (A_ n f)] [∀(a b c d:Nat),Decidable (Dg a b c d)] [∀(x:T4),Decidable (Dt x)] [∀(last:Int)(s:St),Decidable (Ak last s)] [∀(n:Int)(s:List Int),Decidable (Du n s)] [∀(x y:T4),Decidable (Io x y)] [∀(ts:List T4),Decidable (Asc ts)] [∀(ts:List T4),Decidable (Eh ts)] [∀(ts:List T4),Decidable (Le ts)]
theorem FK.zero(w:World):FK w G8 (.slice none 0 0) (.slice none 0 0) (.slice none 0 0) (.slice none 0 0) (.slice none 0 0):=
 ⟨⟨by simp[G8],none,0,rfl,.inl rfl⟩,⟨by simp[G8],none,0,rfl,.inl rfl⟩,⟨none,0,rfl,.inl rfl⟩,⟨by simp[G8],none,0,rfl,⟨by simp[G8],by unfold maxLen;omega⟩,.inl rfl⟩,La.nil w⟩
theorem Mw.zero:Mw G8:=⟨by simp[G8],by simp[G8],by simp[G8],by simp[G8],by simp[G8],fun p hp=>by simp[G8]at hp,fun j hj=>by simp[G8]at hj⟩
theorem xY{t:Cu}{rs:List Pr}(ht:t.tab=rs.map Y_)(g:(t.s.size:Int)+t.qw.length+t.d.size+t.pool.length+rs.length+Bv rs+t.Ad.length+t.held.length+BU t.held≤1048576)(hh:∀p ∈ t.held,(KM p.2.bw∧KM p.2.pw∧KM p.2.qw)∧MI p.2):RI_ t:=by
 obtain⟨_,⟨s1,s2⟩,h1,h2⟩:=Rj ht g;refine⟨by omega,by omega,fun p hp=>by have:=(h1 p hp).1;omega,fun j hj=>⟨?_,(hh _ (by rw[List.getD_eq_getElem?_getD,List.getElem?_eq_getElem hj];exact List.getElem_mem hj)).2⟩⟩;have:=h2 j hj;unfold lU at this;exact⟨by omega,by omega,by omega,by omega⟩
theorem qO{xs:List Int}(h:∀k,k<xs.length→0≤xs.getD k 0∧xs.getD k 0≤255):Aw xs:=fun y hy=>by
 obtain⟨k,hk,rfl⟩:=List.mem_iff_getElem.1 hy;have:=h k hk
 rwa [List.getD_eq_getElem?_getD,List.getElem?_eq_getElem hk]at this
theorem RD:∀rs:List Pr,VR (rs.map Y_)≤Bv rs
 | []=>Nat.le_refl _
 |r :: rs=>by have:=RD rs;simp only[List.map_cons,VR,Bv,Y_];omega
theorem Rt:∀(k:Nat)(ps:List Cs),Bz k ps≤k+15*ps.length+BU ps
 |k,[]=>by simp[Bz]
 |k,p :: ps=>by
  have:=Rt (k+rM p) ps;simp only[Bz,BU,List.length_cons];unfold rM at this⊢;unfold lU;omega
theorem h_{t:Cu}{rs:List Pr}(ht:t.tab=rs.map Y_)(g:(t.s.size:Int)+t.qw.length+t.d.size+t.pool.length+rs.length+Bv rs+t.Ad.length+t.held.length+BU t.held≤1048576)(k:Nat)(hk:k≤20000000):Ta k t≤100000000:=by
 unfold Ta;have h1:=Rt (V4 k t) t.held
 have h2:V4 k t=k+t.qw.length+t.pool.length*4+2*t.tab.length+VR t.tab+t.Ad.length:=by
  unfold V4 dZ Y5 df;rw[nu]
 have h3:VR t.tab≤Bv rs:=by rw[ht];exact RD rs
 have h4:t.tab.length=rs.length:=by rw[ht];simp
 omega
theorem Xc(n f:Int)(t:Cu)(ao bo co od oe:Option Addr)(ca cb cc cd ce:Nat)(rs:List Pr)(w:World)(ht:t.tab=rs.map Y_)(g:1048576<(t.s.size:Int)+t.qw.length+t.d.size+t.pool.length+rs.length+Bv rs+t.Ad.length+t.held.length+BU t.held)(hc:FL w co rs)(hh:Gy w (.slice oe t.held.length ce) t.held)(m:vE t rs):
 Calls Tryz.prog 3 #[cv n f,I_ t (.slice ao t.qw.length ca) (.slice bo t.pool.length cb) (.slice co t.tab.length cc) (.slice od t.Ad.length cd) (.slice oe t.held.length ce)] w fun e w'=>e= .returned (.bool true)∧Below w.heap.size w w':=by
 have hrl:rs.length=t.tab.length:=by rw[ht];simp
 have ZA:=hide fun w(h:FL w co rs)(h':Gy w (.slice oe t.held.length ce) t.held)=>mh t ao bo co od oe ca cb cc cd ce rs 1048576 w h h' (by omega) m (by omega) g;rw[hrl]at ZA;have d1:decide ((-1:Int)<0)=true:=by decide
 have HC:=hide hc;have HH:=hide hh;clear hc hh g hrl ht m;obtain⟨w0,hw0,AP,LC,LA,De⟩:=Gf w #[.int .i64 n,.int .i64 f] 23 #[.int .i64 t.id,.int .i64 t.vw,.int .i64 t.ak,.int .i64 t.vo,.int .i64 t.lo,.int .i64 t.n,.string t.s,.slice ao t.qw.length ca,.string t.d,.slice bo t.pool.length cb,.slice co t.tab.length cc,.slice od t.Ad.length cd,.int .i64 t.su,.slice oe t.held.length ce] 36;go_enter Tryz.func3,Tryz.ntmps3
 go_wp2_with (first|(refine BA LA 36 _ rfl _ rfl rfl Tryz.underlying36 rfl (by kernel_rfl) ?_))
 clear hw0;refine(ZA.out _ (HC.out.below AP) (HH.out.below AP)).mono ?_;rintro _ w1 ⟨rfl,bb⟩;have AU:=bu AP bb;have DU:=bb.size;replace LC:=LC.up bb;replace LA:=LA.up bb;clear AP bb;go_wp2;go_ret;exact⟨rfl,AU⟩
theorem xX{t:Cu}(h:RS t):RZ t:=⟨by have:=h.s;omega,by have:=h.d;omega,fun p hp=>by have:=h.tb p hp;omega,fun j hj=>by obtain⟨h1,h2,h3,h4⟩:=h.h j hj;exact⟨by omega,by omega,by omega,by omega⟩⟩
theorem iB(n f:Int){t:Cu}(h:Mw t)(hb:Aw t.Ad)(hq:Ta 1 t≤100000000):Mw (Js n f t)∧Ta 1 (Js n f t)≤100000000:=by
 unfold Js;by_cases hr:Tc n f t=true
 ·rw[if_pos hr];have lf:=IK hb n f;obtain⟨x,hx⟩:∃x,Fs n f t.Ad=x:=⟨_,rfl⟩
  rw[hx]at lf⊢;have h1:=lf.q;have h2:=h.d;unfold riT;have h3:(t.Ad.take x.2.toNat).length≤t.Ad.length:=by rw[List.length_take];omega
  refine⟨⟨by simp only;omega,by simp,by simp,by simp only;omega,by simp,fun p hp=>by simp at hp,fun j hj=>by simp at hj⟩,?_⟩;unfold Ta V4 dZ Y5 df;simp only[List.length_nil,pend,Bz];omega
 rw[if_neg hr];exact⟨h,hq⟩
theorem Xb(n f:Int)(t:Cu)(ao bo co od oe:Option Addr)(ca cb cc cd ce:Nat)(rs:List Pr)(w:World)(ht:t.tab=rs.map Y_)(hm:vE t rs)(aq:Q_ w ao t.qw)(ap:AR w bo t.pool)(at_:FL w co rs)(he:∀r ∈ rs,Q_ w r.2.2.1 r.2.2.2.2∧KM r.2.2.2.2)(ad:zP w od cd t.Ad∧∀k,k<t.Ad.length→0≤t.Ad.getD k 0∧t.Ad.getD k 0≤255)(ah:RG (QV t.held) 18 w (.slice oe t.held.length ce) t.held.length)(hh:∀p ∈ t.held,(KM p.2.bw∧KM p.2.pw∧KM p.2.qw)∧MI p.2)(hE:Env w)(hT:JW w):
 Calls Tryz.prog 3 #[cv n f,I_ t (.slice ao t.qw.length ca) (.slice bo t.pool.length cb) (.slice co rs.length cc) (.slice od t.Ad.length cd) (.slice oe t.held.length ce)] w fun e w'=>e= .returned (.bool true)∧Below w.heap.size w w':=by
 have hrl:rs.length=t.tab.length:=by rw[ht];simp
 rw[hrl];by_cases g:(t.s.size:Int)+t.qw.length+t.d.size+t.pool.length+rs.length+Bv rs+t.Ad.length+t.held.length+BU t.held≤1048576
 ·obtain⟨hsm,hrs,hI⟩:=nS ht g aq ap at_ he ad.1 ah;have hri:=xY ht g hh;have hrz:=xX hrs;have hd:t.Ad.length≤1048576:=by omega
  have hb:=qO ad.2;have hq:=h_ ht g 1 (by omega);obtain⟨f1,f2⟩:=iB n f hsm hb hq;exact Ud (fun w=>Env w∧JW w) (fun _ _ h b=>⟨h.1.below b,h.2.below b⟩) n f t ao bo co od oe ca cb cc cd ce rs w (Js n f t) f1 hq f2 ht g at_ (QV.low ah) hsm hI ⟨hE,hT⟩ (fun ao bo co od oe ca cb cc cd ce w h=>nE n f t ao bo co od oe ca cb cc cd ce w hsm hd hrs hb h) (fun ao bo co od oe ca cb cc cd ce w he h=>o6 n f t ao bo co od oe ca cb cc cd ce w hsm hri hrz hb he.1 he.2 h)
 exact Xc n f t ao bo co od oe ca cb cc cd ce rs w ht (by omega) at_ (QV.low ah) hm
end
section
open Go.ChangeShapes Go.WideShapes Go.ChangeAt Go.RowKit
variable [∀(a b c d:Int),Decidable (BD a b c d)] [∀(n f:Int),Decidable (A_ n f)]
theorem yS : Tryz.prog.globalNamed "errors.errorType" = some 0 := by kernel_rfl
theorem AAm : (Tryz.prog.cutTypes.find? (·.1 == "internal/reflectlite.rtype")).map (·.2) = some 304 := by kernel_rfl
theorem AAn:((List.range 420).filter fun t=>Tryz.prog.rowNamed t [101,114,114,111,114])=[195]:=by kernel_rfl
theorem yR:Tryz.prog.types.size=420:=by kernel_rfl
theorem P7 {W : World} (h : handlesMet Tryz.prog [("errors.errorType", Rows.laid_errors_errorType)] W) : JW W := by
 obtain⟨name,u,ty,e1,e2,e3,e4,e5⟩:=h _ (List.mem_singleton.2 rfl);have en:name=[101,114,114,111,114]:=(Option.some.inj e1).symm;subst en;obtain rfl:=Option.some.inj (AAm.symm.trans e2);have hm:ty ∈ (List.range 420).filter fun t=>Tryz.prog.rowNamed t [101,114,114,111,114]:=List.mem_filter.2 ⟨List.mem_range.2 (by rw[←yR];exact e3),e4⟩;rw[AAn]at hm;obtain rfl:=List.mem_singleton.1 hm;have hh:typeHandle Tryz.prog 195= .pointer (some ⟨8,195,none⟩):=by kernel_rfl
 rw[hh]at e5;unfold JW;simpa using World.var?_cell yS e5 0
end
end Go.Proofs.YtcjmcgolgbkknaaGreatDoor
