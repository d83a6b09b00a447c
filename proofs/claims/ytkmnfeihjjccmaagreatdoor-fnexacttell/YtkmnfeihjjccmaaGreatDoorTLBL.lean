/- Lemmas; their conditions stand in each statement. -/
import Derived.Test.YtkmnfeihjjccmaaGreatDoorTLBK
set_option maxRecDepth 100000
set_option maxHeartbeats 16000000
set_option linter.unusedSectionVars false
set_option linter.unusedSimpArgs false
namespace Go.Proofs.YtkmnfeihjjccmaaGreatDoor
section
open Go.RowKit
variable [∀(a b c d:Int),Decidable (BD a b c d)]
variable [∀(n f:Int),Decidable (A8 n f)]
variable [∀(a b c d:Nat),Decidable (Dj a b c d)]
variable [∀(x:T4),Decidable (Dr x)]
theorem Qc{t:Bu}{rs:List Pr}(ht:t.tab=rs.map WL)(g:(t.s.size:Int)+t.qw.length+t.d.size+t.pool.length+rs.length+Bg rs+t.AZ.length+t.held.length+BA t.held≤1048576):JF t∧(t.s.size≤1048576∧t.d.size≤1048576)∧(∀p ∈ t.tab,p.2.1.size≤1048576∧p.2.2.length≤1048576)∧∀j,j<t.held.length→fU (t.held.getD j AL).2≤1048576:=by
 have hl:t.tab.length=rs.length:=by rw[ht];simp
 have h1:∀p ∈ t.tab,p.2.1.size≤1048576∧p.2.2.length≤1048576:=fun p hp=>by
  have:=mH (p:=p) (by rw[←ht];exact hp);omega
 have h2:∀j,j<t.held.length→fU (t.held.getD j AL).2≤1048576:=fun j hj=>by
  have:=Xf (rs:=t.held) (r:=t.held.getD j AL) (by rw[List.getD_eq_getElem?_getD,List.getElem?_eq_getElem hj];exact List.getElem_mem hj)
  omega
 exact⟨⟨by omega,by omega,by omega,by omega,by omega,fun p hp=>by have:=h1 p hp;omega,fun j hj=>by have:=h2 j hj;unfold fU at this;omega⟩,⟨by omega,by omega⟩,h1,h2⟩
end
section
open Go.ChangeShapes Go.WideShapes Go.ChangeAt Go.RowKit
open Go.Joins
variable [∀(a b c d:Int),Decidable (BD a b c d)]
variable [∀(n f:Int),Decidable (A8 n f)]
theorem ED:Tryz.prog.cellsOf 28=6:=by kernel_rfl
theorem cellsD:Tryz.prog.cellsOf 33=2:=by kernel_rfl
def uN(W:World)(ao:Option Addr)(ca:Nat)(zs:List Int):Prop:=zs.length≤ca∧ca≤maxLen∧(zs=[]∨∃b off,ao=some ⟨b,off,none⟩∧∀k,k<zs.length→W.cell? ⟨b,off+k,none⟩=some (.int .u8 (zs.getD k 0)))
theorem uN.rb{W:World}{ao:Option Addr}{ca:Nat}{zs:List Int}(h:uN W ao ca zs)(hl:zs.length≤1048576):RB W (.slice ao zs.length ca) zs:=⟨by omega,ao,ca,rfl,⟨h.1,h.2.1⟩,h.2.2⟩
theorem Xm{H:Type}{enc:TypeId×Value→H}{W:World}{n:Nat}{c:Value}{y:DataW H×List MemPlace}(h:DataW.trod enc Tryz.prog W 0 (fun _=>true) true n 31 [c]=some y):
 ∃ao ca,∃zs:List Int,c= .slice ao zs.length ca∧zs.length≤maxLen∧uN W ao ca zs∧∀k,k<zs.length→0≤zs.getD k 0∧zs.getD k 0≤255:=by
 rcases open_ints Tryz.underlying31 Tryz.underlying5 (by kernel_rfl) h with⟨hcs,_⟩|⟨x,len,cap,zs,hcs,_,hl,hm,hz,_,hcell,hwz⟩
 ·simp at hcs
  exact⟨none,0,[],hcs,by simp,⟨by simp,by unfold maxLen;omega,.inl rfl⟩,fun k hk=>by simp at hk⟩
 simp at hcs
 have hz':zs.length=cap:=by simpa using hz
 have e:(zs.take len).length=len:=by simp;omega
 have hm':cap≤maxLen:=by first|exact hm|omega
 refine⟨some x,cap,zs.take len,by rw[hcs,e],by rw[e];omega,⟨by omega,hm',?_⟩,?_⟩
 ·by_cases h0:len=0
  ·left;simp[h0]
  right
  obtain⟨b,off,spot⟩:=x
  have hc:=hcell 0 (by omega)
  have hspot:spot=none:=by simpa[Addr.add]using World.cell?_spot hc
  subst hspot
  refine⟨b,off,rfl,fun k hk=>?_⟩
  rw[e]at hk
  have hk':=hcell k (by omega)
  rw[show((⟨b,off,none⟩:Addr).add k)=⟨b,off+k,none⟩ from by unfold Addr.add;split<;>simp_all]at hk'
  rw[hk']
  simp[hk]
 intro k hk
 have hm2:(zs.take len).getD k 0 ∈ zs:=by
  rw[List.getD_eq_getElem?_getD,List.getElem?_eq_getElem hk]
  exact List.mem_of_mem_take (List.getElem_mem hk)
 have:=bounds_u8 (hwz _ hm2)
 omega
end
section
open Go.ChangeShapes Go.WideShapes Go.ChangeAt Go.RowKit
open Go.Joins
variable [∀(a b c d:Int),Decidable (BD a b c d)]
variable [∀(n f:Int),Decidable (A8 n f)]
variable [∀(a b c d:Nat),Decidable (Dj a b c d)]
variable [∀(x:T4),Decidable (Dr x)]
theorem oH:Tryz.prog.cellsOf 41=4:=by kernel_rfl
theorem I9{H:Type}{enc:TypeId×Value→H}{W:World}{n:Nat}{c:Value}{y:DataW H×List MemPlace}(h:DataW.trod enc Tryz.prog W 0 (fun _=>true) true n 3 [c]=some y):∃a:Int,c= .int .i64 a:=by
 obtain⟨a,e0,_,_⟩:=DataW.trod_int Tryz.underlying3 h
 simp at e0
 exact⟨a,e0⟩
theorem d_{α:Type}{l:List α}(h:l.length=4):∃a b c d,l=[a,b,c,d]:=by
 match l,h with
 | [a,b,c,d],_=>exact⟨a,b,c,d,rfl⟩
theorem bJ{H:Type}{enc:TypeId×Value→H}{W:World}{fuel:Nat}{a:Option Addr}{len cap:Nat}{x:DataW H×List MemPlace}(h:DataW.trod enc Tryz.prog W 0 (fun _=>true) true fuel 29 (Value.slice a len cap).cells.toList=some x):
 ∃xs:List T4,len=xs.length∧xs.length≤maxLen∧AR W a xs:=by
 rcases Go.Deep.open_slice Tryz.underlying29 h with⟨hcs,_⟩|⟨ad,l,c,m,n,D,Pl,hcs,_,hl,hm,hmm,_,hx⟩
 ·simp[Value.cells]at hcs
  obtain⟨rfl,rfl,rfl⟩:=hcs
  exact⟨[],rfl,by simp,.inl rfl⟩
 simp[Value.cells]at hcs
 obtain⟨rfl,rfl,rfl⟩:=hcs
 have hm':m=cap:=by simpa using hmm
 have each:∀i,∃q:T4,i<len→W.cell? (ad.add (i*4))=some (.int .i64 q.1)∧W.cell? (ad.add (i*4+1))=some (.int .i64 q.2.1)∧W.cell? (ad.add (i*4+2))=some (.int .i64 q.2.2.1)∧W.cell? (ad.add (i*4+3))=some (.int .i64 q.2.2.2):=by
  intro i
  by_cases hi:i<len
  ·obtain⟨cs',h1,h2⟩:=hx i (by omega)
   rw[oH]at h1
   obtain⟨_,hlen,hcell⟩:=World.cells?_some h1
   obtain⟨y0,y1,y2,y3,k,_,_,g0,g1,g2,g3⟩:=trod_struct4 Tryz.underlying41 h2
   obtain⟨v0,v1,v2,v3,rfl⟩:=d_ hlen
   have e0:=hcell 0 (by omega)
   have e1:=hcell 1 (by omega)
   have e2:=hcell 2 (by omega)
   have e3:=hcell 3 (by omega)
   rw[Go.Deep.add_add]at e0 e1 e2 e3
   have ci:Tryz.prog.cellsOf 3=1:=by kernel_rfl
   simp[ci]at g0 g1 g2 g3
   obtain⟨a0,rfl⟩:=I9 g0
   obtain⟨a1,rfl⟩:=I9 g1
   obtain⟨a2,rfl⟩:=I9 g2
   obtain⟨a3,rfl⟩:=I9 g3
   exact⟨(a0,a1,a2,a3),fun _=>⟨by simpa using e0,by simpa using e1,by simpa using e2,by simpa using e3⟩⟩
  exact⟨(0,0,0,0),fun h=>absurd h hi⟩
 obtain⟨q,hq⟩:=Classical.axiomOfChoice each
 refine⟨(List.range len).map q,by simp,by simp;omega,?_⟩
 by_cases h0:len=0
 ·left;simp[h0]
 right
 obtain⟨b,off,spot⟩:=ad
 have hc:=(hq 0 (by omega)).1
 have hspot:spot=none:=by simpa[Addr.add]using World.cell?_spot hc
 subst hspot
 refine⟨b,off,rfl,fun k hk=>?_⟩
 rw[List.length_map,List.length_range]at hk
 have:=hq k hk
 have ea:∀j,((⟨b,off,none⟩:Addr).add j)=⟨b,off+j,none⟩:=fun j=>by unfold Addr.add;split<;>simp_all
 rw[ea,ea,ea,ea]at this
 have eg:((List.range len).map q).getD k (0,0,0,0)=q k:=by simp[hk]
 rw[eg]
 simpa[Nat.add_assoc]using this
end
section
open Go.ChangeShapes Go.WideShapes Go.ChangeAt Go.RowKit
open Go.Joins
variable [∀(a b c d:Int),Decidable (BD a b c d)]
variable [∀(n f:Int),Decidable (A8 n f)]
variable [∀(a b c d:Nat),Decidable (Dj a b c d)]
variable [∀(x:T4),Decidable (Dr x)]
section
variable {H:Type} {enc:TypeId×Value→H} {P:Program} {w:World} {base:Nat} {spare:Bool}
theorem Rj{held:TypeId→Bool}{t:TypeId}{f0 f1 f2 f3 f4 f5 f6 f7:Field}{fuel:Nat}{cs:List Value}{x:DataW H×List MemPlace}(ht:P.underlying t=some (.struct #[f0,f1,f2,f3,f4,f5,f6,f7]))(h:DataW.trod enc P w base held spare fuel t cs=some x):
 ∃y0 y1 y2 y3 y4 y5 y6 y7 n,DataW.trod enc P w base held spare n f0.type ((cs.drop f0.offset).take (P.cellsOf f0.type))=some y0∧DataW.trod enc P w base held spare n f1.type ((cs.drop f1.offset).take (P.cellsOf f1.type))=some y1∧DataW.trod enc P w base held spare n f2.type ((cs.drop f2.offset).take (P.cellsOf f2.type))=some y2∧DataW.trod enc P w base held spare n f3.type ((cs.drop f3.offset).take (P.cellsOf f3.type))=some y3∧DataW.trod enc P w base held spare n f4.type ((cs.drop f4.offset).take (P.cellsOf f4.type))=some y4∧DataW.trod enc P w base held spare n f5.type ((cs.drop f5.offset).take (P.cellsOf f5.type))=some y5∧DataW.trod enc P w base held spare n f6.type ((cs.drop f6.offset).take (P.cellsOf f6.type))=some y6∧DataW.trod enc P w base held spare n f7.type ((cs.drop f7.offset).take (P.cellsOf f7.type))=some y7:=by
 obtain⟨xs,n,_,rfl,hl,hlen,hf⟩:=DataW.trod_struct ht h
 match xs,hlen with
 | [y0,y1,y2,y3,y4,y5,y6,y7],_=>exact⟨y0,y1,y2,y3,y4,y5,y6,y7,n,by simpa using hf 0 f0 rfl,by simpa using hf 1 f1 rfl,by simpa using hf 2 f2 rfl,by simpa using hf 3 f3 rfl,by simpa using hf 4 f4 rfl,by simpa using hf 5 f5 rfl,by simpa using hf 6 f6 rfl,by simpa using hf 7 f7 rfl⟩
end
theorem oW{cs:Array Value}(h:cs.size=14):∃c0 c1 c2 c3 c4 c5 c6 c7 c8 c9 c10 c11 c12 c13,cs= #[c0,c1,c2,c3,c4,c5,c6,c7,c8,c9,c10,c11,c12,c13]:=by
 obtain⟨l⟩:=cs
 match l,h with
 | [c0,c1,c2,c3,c4,c5,c6,c7,c8,c9,c10,c11,c12,c13],_=>exact⟨c0,c1,c2,c3,c4,c5,c6,c7,c8,c9,c10,c11,c12,c13,rfl⟩
theorem jh:Tryz.prog.cellsOf 36=14:=by kernel_rfl
theorem EC:Tryz.prog.cellsOf 29=1:=by kernel_rfl
theorem Cv:Tryz.prog.cellsOf 30=1:=by kernel_rfl
theorem Cu:Tryz.prog.cellsOf 34=1:=by kernel_rfl
theorem Xl{H:Type}{enc:TypeId×Value→H}{W:World}{fuel:Nat}{c0 c1 c2 c3 c4 c5:Value}{x:DataW H×List MemPlace}(hf:DataW.trod enc Tryz.prog W 0 (fun _=>true) true fuel 28 [c0,c1,c2,c3,c4,c5]=some x):
 ∃vo lo n s ao ca m,∃xs:List Int,[c0,c1,c2,c3,c4,c5]=[.int .i64 vo,.int .i64 lo,.int .i64 n,.string s,.slice ao xs.length ca,.string m]∧s.size≤maxLen∧xs.length≤maxLen∧m.size≤maxLen∧Lj W ao xs∧JE xs:=by
 obtain⟨y0,y1,y2,y3,k,_,_,h0,h1,h2,h3⟩:=trod_struct4 Tryz.underlying28 hf
 have h0':DataW.trod enc Tryz.prog W 0 (fun _=>true) true k 3 [c0]=some y0:=by simpa[AV,Al,Aa]using h0
 have h1':DataW.trod enc Tryz.prog W 0 (fun _=>true) true k 3 [c1]=some y1:=by simpa[AV,Al,Aa]using h1
 have h2':DataW.trod enc Tryz.prog W 0 (fun _=>true) true k 26 [c2,c3,c4]=some y2:=by simpa[AV,Al,Aa]using h2
 have h3':DataW.trod enc Tryz.prog W 0 (fun _=>true) true k 9 [c5]=some y3:=by simpa[AV,Al,Aa]using h3
 obtain⟨z0,z1,z2,j,_,_,g0,g1,g2⟩:=Go.Deep.trod_struct3 Tryz.underlying26 h2'
 have g0':DataW.trod enc Tryz.prog W 0 (fun _=>true) true j 3 [c2]=some z0:=by simpa[AV]using g0
 have g1':DataW.trod enc Tryz.prog W 0 (fun _=>true) true j 9 [c3]=some z1:=by simpa[Aa]using g1
 have g2':DataW.trod enc Tryz.prog W 0 (fun _=>true) true j 24 [c4]=some z2:=by simpa[Ac]using g2
 obtain⟨a,e0,_,_⟩:=DataW.trod_int Tryz.underlying3 h0'
 obtain⟨b,e1,_,_⟩:=DataW.trod_int Tryz.underlying3 h1'
 obtain⟨n,e2,_,_⟩:=DataW.trod_int Tryz.underlying3 g0'
 obtain⟨s,e3,_,hs⟩:=DataW.trod_string Tryz.underlying9 g1'
 obtain⟨ao,ca,xs,rfl,hx,ax,wx⟩:=Df g2'
 obtain⟨m,e5,_,hm⟩:=DataW.trod_string Tryz.underlying9 h3'
 simp at e0 e1 e2 e3 e5
 exact⟨a,b,n,s,ao,ca,m,xs,by rw[e0,e1,e2,e3,e5],hs,hx,hm,ax,wx⟩
theorem JZ{H:Type}{enc:TypeId×Value→H}{P:Program}{W:World}{t e:TypeId}{fuel:Nat}{c:Value}{x:DataW H×List MemPlace}(ht:P.underlying t=some (.slice e))(h:DataW.trod enc P W 0 (fun _=>true) true fuel t [c]=some x):∃a l k,c= .slice a l k:=by
 rcases Go.Deep.open_slice ht h with⟨hcs,_⟩|⟨ad,l,k,m,n,D,Pl,hcs,_⟩
 ·exact⟨_,_,_,by simpa using hcs⟩
 exact⟨_,_,_,by simpa using hcs⟩
theorem iW{H:Type}{enc:TypeId×Value→H}{W:World}{base:Nat}{v:Value}{d:DataW H}{p:List MemPlace}(hv:Value.okWide Tryz.prog W .any base 36 v)
 (h:DataW.Trod enc Tryz.prog W 0 (fun _=>true) true 36 v d p):
 ∃(t:Bu)(ao bo co od oe:Option Addr)(ca cb cc cd ce:Nat)(rs:List Pr),t.tab=rs.map WL∧v=ES t (.slice ao t.qw.length ca) (.slice bo t.pool.length cb) (.slice co rs.length cc) (.slice od t.AZ.length cd) (.slice oe t.held.length ce)∧om t rs∧Lj W ao t.qw∧JE t.qw∧AR W bo t.pool∧Ed W co rs∧(∀r ∈ rs,Lj W r.2.2.1 r.2.2.2.2∧JE r.2.2.2.2)∧(uN W od cd t.AZ∧∀k,k<t.AZ.length→0≤t.AZ.getD k 0∧t.AZ.getD k 0≤255)∧RG (Mh t.held) 18 W (.slice oe t.held.length ce) t.held.length∧∀p ∈ t.held,(JE p.2.bw∧JE p.2.pw∧JE p.2.qw)∧MI p.2:=by
 obtain⟨cs,rfl,hsz⟩:=okWide_struct Tryz.underlying36 hv
 obtain⟨c0,c1,c2,c3,c4,c5,c6,c7,c8,c9,c10,c11,c12,c13,rfl⟩:=oW (hsz.trans jh)
 obtain⟨fuel,hf⟩:=h
 obtain⟨y0,y1,y2,y3,y4,y5,y6,y7,k,h0,h1,h2,h3,h4,h5,h6,h7⟩:=Rj Tryz.underlying36 hf
 have g0:DataW.trod enc Tryz.prog W 0 (fun _=>true) true k 3 [c0]=some y0:=by simpa[Value.cells,AV,Aa,ED,EC,Cv,cellsD,Cu]using h0
 have g1:DataW.trod enc Tryz.prog W 0 (fun _=>true) true k 3 [c1]=some y1:=by simpa[Value.cells,AV,Aa,ED,EC,Cv,cellsD,Cu]using h1
 have g2:DataW.trod enc Tryz.prog W 0 (fun _=>true) true k 3 [c2]=some y2:=by simpa[Value.cells,AV,Aa,ED,EC,Cv,cellsD,Cu]using h2
 have g3:DataW.trod enc Tryz.prog W 0 (fun _=>true) true k 28 [c3,c4,c5,c6,c7,c8]=some y3:=by simpa[Value.cells,AV,Aa,ED,EC,Cv,cellsD,Cu]using h3
 have g4:DataW.trod enc Tryz.prog W 0 (fun _=>true) true k 29 [c9]=some y4:=by simpa[Value.cells,AV,Aa,ED,EC,Cv,cellsD,Cu]using h4
 have g5:DataW.trod enc Tryz.prog W 0 (fun _=>true) true k 30 [c10]=some y5:=by simpa[Value.cells,AV,Aa,ED,EC,Cv,cellsD,Cu]using h5
 have g6:DataW.trod enc Tryz.prog W 0 (fun _=>true) true k 33 [c11,c12]=some y6:=by simpa[Value.cells,AV,Aa,ED,EC,Cv,cellsD,Cu]using h6
 have g7:DataW.trod enc Tryz.prog W 0 (fun _=>true) true k 34 [c13]=some y7:=by simpa[Value.cells,AV,Aa,ED,EC,Cv,cellsD,Cu]using h7
 obtain⟨id,e0,_,_⟩:=DataW.trod_int Tryz.underlying3 g0
 obtain⟨vw,e1,_,_⟩:=DataW.trod_int Tryz.underlying3 g1
 obtain⟨ak,e2,_,_⟩:=DataW.trod_int Tryz.underlying3 g2
 obtain⟨vo,lo,n,s,ao,ca,m,qw,e3,l1,l2,l3,aq,fq⟩:=Xl g3
 obtain⟨bo,pl,cb,rfl⟩:=JZ Tryz.underlying29 g4
 obtain⟨pool,rfl,l4,ap⟩:=bJ (a:=bo) (len:=pl) (cap:=cb) g4
 obtain⟨co,tl,cc,rfl⟩:=JZ Tryz.underlying30 g5
 obtain⟨rs,rfl,l5,at_,he⟩:=U5 (a:=co) (len:=tl) (cap:=cc) g5
 obtain⟨z0,z1,kd,_,_,d0,d1⟩:=trod_struct2 Tryz.underlying33 g6
 have cB:Tryz.prog.cellsOf 31=1:=by kernel_rfl
 have d0':DataW.trod enc Tryz.prog W 0 (fun _=>true) true kd 31 [c11]=some z0:=by simpa[AV,cB]using d0
 have d1':DataW.trod enc Tryz.prog W 0 (fun _=>true) true kd 3 [c12]=some z1:=by simpa[AV,cB]using d1
 obtain⟨od,cd,zs,rfl,l6,ad,fd⟩:=Xm d0'
 obtain⟨su,e12,_,_⟩:=DataW.trod_int Tryz.underlying3 d1'
 obtain⟨oe,hl,ce,rfl⟩:=JZ Tryz.underlying34 g7
 obtain⟨ps,rfl,l7,ah,hp⟩:=Uz (a:=oe) (len:=hl) (cap:=ce) g7
 simp at e0 e1 e2 e3 e12
 obtain⟨e3,e4,e5,e6,e7,e8⟩:=e3
 exact⟨⟨id,vw,ak,vo,lo,n,s,qw,m,pool,rs.map WL,zs,su,ps⟩,ao,bo,co,od,oe,ca,cb,cc,cd,ce,rs,rfl,by rw[e0,e1,e2,e3,e4,e5,e6,e7,e8,e12],⟨l1,l2,l3,l4,l5,fun r hr=>⟨(he r hr).1,(he r hr).2.1⟩,l6,l7,fun p hp'=>(hp p hp').1⟩,aq,fq,ap,at_,fun r hr=>(he r hr).2.2,⟨ad,fd⟩,ah,fun p hp'=>(hp p hp').2⟩
end
section
open Go Go.RowKit
variable [∀(a b c d:Int),Decidable (BD a b c d)]
variable [∀(n f:Int),Decidable (A8 n f)]
variable [∀(a b c d:Nat),Decidable (Dj a b c d)]
variable [∀(x:T4),Decidable (Dr x)]
variable [∀(last:Int)(s:St),Decidable (Au last s)]
variable [∀(n:Int)(s:List Int),Decidable (Dt n s)]
variable [∀(x y:T4),Decidable (Gm x y)]
variable [∀(ts:List T4),Decidable (Asc ts)]
variable [∀(ts:List T4),Decidable (DU ts)]
variable [∀(ts:List T4),Decidable (JP ts)]
theorem iH{W:World}{t:Bu}{ao bo co od oe:Option Addr}{ca cc cd ce:Nat}{rs:List Pr}(ht:t.tab=rs.map WL)(g:(t.s.size:Int)+t.qw.length+t.d.size+t.pool.length+rs.length+Bg rs+t.AZ.length+t.held.length+BA t.held≤1048576)(aq:Lj W ao t.qw)(ap:AR W bo t.pool)(at_:Ed W co rs)(he:∀r ∈ rs,Lj W r.2.2.1 r.2.2.2.2∧JE r.2.2.2.2)(ad:uN W od cd t.AZ)(ah:RG (Mh t.held) 18 W (.slice oe t.held.length ce) t.held.length):
 JF t∧RS t∧fI W t (.slice ao t.qw.length ca) bo (.slice co t.tab.length cc) (.slice od t.AZ.length cd) (.slice oe t.held.length ce):=by
 obtain⟨hsm,⟨s1,s2⟩,h1,h2⟩:=Qc ht g
 refine⟨hsm,⟨s1,s2,fun p hp=>(h1 p hp).1,fun j hj=>?_⟩,⟨aq.ri (by have:=hsm.q;omega),ap,?_,ad.rb (by omega),Mh.fT ah hsm.hh⟩⟩
 ·have:=h2 j hj;unfold fU at this;exact⟨by omega,by omega,by omega,by omega⟩
 have h3:∀r ∈ rs,r.2.2.2.2.length≤4194304:=fun r hr=>by have:=Qf hr;omega
 have:=Ed.kP (ca:=cc) at_ (fun r hr=>(he r hr).1) h3
 rw[show rs.length=t.tab.length by rw[ht];simp]at this
 rw[←ht]at this
 exact this
theorem uK.new(id:Int):uK (Ho id):=⟨(Nat.zero_le _:0≤33554432),(Nat.zero_le _:0≤33554432),fun p hp=>by simp[Ho]at hp,fun j hj=>by simp[Ho]at hj⟩
end
section
open Go.RowKit
variable [∀(a b c d:Int),Decidable (BD a b c d)]
variable [∀(a b c d:Nat),Decidable (Dj a b c d)]
variable [∀(last:Int)(s:St),Decidable (Au last s)]
variable [∀(x:T4),Decidable (Dr x)]
variable [∀(n:Int)(s:List Int),Decidable (Dt n s)]
variable [∀(n f:Int),Decidable (A8 n f)]
theorem OB.nil(w:World)(base:Nat):OB w base (.slice none 0 0) []:=World.ownsRow_nil _ _ _ _
end
section
open Go Go.RowKit
variable [∀(a b c d:Int),Decidable (BD a b c d)]
variable [∀(n f:Int),Decidable (A8 n f)]
variable [∀(a b c d:Nat),Decidable (Dj a b c d)]
variable [∀(x:T4),Decidable (Dr x)]
variable [∀(last:Int)(s:St),Decidable (Au last s)]
variable [∀(n:Int)(s:List Int),Decidable (Dt n s)]
variable [∀(x y:T4),Decidable (Gm x y)]
variable [∀(ts:List T4),Decidable (Asc ts)]
variable [∀(ts:List T4),Decidable (DU ts)]
variable [∀(ts:List T4),Decidable (JP ts)]
theorem Ei.zero(w:World):Ei w Gn (.slice none 0 0) (.slice none 0 0) (.slice none 0 0) (.slice none 0 0) (.slice none 0 0):=
 ⟨⟨by simp[Gn],none,0,rfl,.inl rfl⟩,⟨by simp[Gn],none,0,rfl,.inl rfl⟩,⟨none,0,rfl,.inl rfl⟩,⟨by simp[Gn],none,0,rfl,⟨by simp[Gn],by unfold maxLen;omega⟩,.inl rfl⟩,Ib.nil w⟩
theorem JF.zero:JF Gn:=⟨by simp[Gn],by simp[Gn],by simp[Gn],by simp[Gn],by simp[Gn],fun p hp=>by simp[Gn]at hp,fun j hj=>by simp[Gn]at hj⟩
theorem rJ{t:Bu}{rs:List Pr}(ht:t.tab=rs.map WL)(g:(t.s.size:Int)+t.qw.length+t.d.size+t.pool.length+rs.length+Bg rs+t.AZ.length+t.held.length+BA t.held≤1048576)(hh:∀p ∈ t.held,(JE p.2.bw∧JE p.2.pw∧JE p.2.qw)∧MI p.2):uK t:=by
 obtain⟨_,⟨s1,s2⟩,h1,h2⟩:=Qc ht g
 refine⟨by omega,by omega,fun p hp=>by have:=(h1 p hp).1;omega,fun j hj=>⟨?_,(hh _ (by rw[List.getD_eq_getElem?_getD,List.getElem?_eq_getElem hj];exact List.getElem_mem hj)).2⟩⟩
 have:=h2 j hj
 unfold fU at this
 exact⟨by omega,by omega,by omega,by omega⟩
theorem QK:∀rs:List Pr,Tt (rs.map WL)≤Bg rs
 | []=>Nat.le_refl _
 |r :: rs=>by have:=QK rs;simp only[List.map_cons,Tt,Bg,WL];omega
theorem Qi:∀(k:Nat)(ps:List Bf),Bp k ps≤k+15*ps.length+BA ps
 |k,[]=>by simp[Bp]
 |k,p :: ps=>by
  have:=Qi (k+ZJ p) ps
  simp only[Bp,BA,List.length_cons]
  unfold ZJ at this⊢
  unfold fU
  omega
theorem Sa(n f:Int)(t:Bu)(ao bo co od oe:Option Addr)(ca cb cc cd ce:Nat)(rs:List Pr)(w:World)(td:Int)(m:MT)(am bm cm:Option Addr)(km lm nm:Nat)(ht:t.tab=rs.map WL)(g:1048576<(t.s.size:Int)+t.qw.length+t.d.size+t.pool.length+rs.length+Bg rs+t.AZ.length+t.held.length+BA t.held)(hc:Ed w co rs)(hh:Fw w (.slice oe t.held.length ce) t.held)(mx:om t rs):
 Calls Tryz.prog 3 #[cv n f,ES t (.slice ao t.qw.length ca) (.slice bo t.pool.length cb) (.slice co t.tab.length cc) (.slice od t.AZ.length cd) (.slice oe t.held.length ce),.int .i64 td,Dp m (.slice am m.bw.length km) (.slice bm m.pw.length lm) (.slice cm m.qw.length nm)] w fun e w'=>e= .returned (.bool true)∧Below w.heap.size w w':=by
 have hrl:rs.length=t.tab.length:=by rw[ht];simp
 have ZA:=hide fun w(h:Ed w co rs)(h':Fw w (.slice oe t.held.length ce) t.held)=>gV t ao bo co od oe ca cb cc cd ce rs 1048576 w h h' (by omega) mx (by omega) g
 rw[hrl]at ZA
 have d1:decide ((-1:Int)<0)=true:=by decide
 have HC:=hide hc
 have HH:=hide hh
 clear hc hh g hrl ht mx
 obtain⟨w0,hw0,AO,LC,LA,LM,DN⟩:=qI w #[.int .i64 n,.int .i64 f] 23 #[.int .i64 t.id,.int .i64 t.vw,.int .i64 t.ak,.int .i64 t.vo,.int .i64 t.lo,.int .i64 t.n,.string t.s,.slice ao t.qw.length ca,.string t.d,.slice bo t.pool.length cb,.slice co t.tab.length cc,.slice od t.AZ.length cd,.int .i64 t.su,.slice oe t.held.length ce] 36 #[.int .i64 m.k,.int .i64 m.vw,.string m.bn,.int .i64 m.bv,.string m.bs,.slice am m.bw.length km,.int .i64 m.pv,.string m.ps,.slice bm m.pw.length lm,.int .i64 m.qv,.string m.qs,.slice cm m.qw.length nm,.int .i64 m.wh,.int .i64 m.fr,.int .i64 m.tu,.int .i64 m.am,.int .i64 m.no] 43
 go_enter Tryz.func3,Tryz.ntmps3
 go_wp2_with (first|(refine Ap LA 36 _ rfl _ rfl rfl Tryz.underlying36 rfl (by kernel_rfl) ?_))
 clear hw0
 refine(ZA.out _ (HC.out.below AO) (HH.out.below AO)).mono ?_
 rintro _ w1 ⟨rfl,bb⟩
 have AP:=bu AO bb
 have Ct:=bb.size
 replace LC:=LC.up bb
 replace LA:=LA.up bb
 replace LM:=LM.up bb
 clear AO bb
 go_wp2
 go_ret
 exact⟨rfl,AP⟩
theorem SY(n f:Int)(t:Bu)(ao bo co od oe:Option Addr)(ca cb cc cd ce:Nat)(rs:List Pr)(w:World)(td:Int)(m:MT)(am bm cm:Option Addr)(km lm nm:Nat)(ht:t.tab=rs.map WL)(g:(t.s.size:Int)+t.qw.length+t.d.size+t.pool.length+rs.length+Bg rs+t.AZ.length+t.held.length+BA t.held≤1048576)(gm:1048576<(t.s.size:Int)+t.qw.length+t.d.size+t.pool.length+rs.length+Bg rs+t.AZ.length+t.held.length+BA t.held+((m.bn.size:Int)+m.bs.size+m.bw.length+m.ps.size+m.pw.length+m.qs.size+m.qw.length))(hc:Ed w co rs)(hh:Fw w (.slice oe t.held.length ce) t.held)(mb:MB m):
 Calls Tryz.prog 3 #[cv n f,ES t (.slice ao t.qw.length ca) (.slice bo t.pool.length cb) (.slice co t.tab.length cc) (.slice od t.AZ.length cd) (.slice oe t.held.length ce),.int .i64 td,Dp m (.slice am m.bw.length km) (.slice bm m.pw.length lm) (.slice cm m.qw.length nm)] w fun e w'=>e= .returned (.bool true)∧Below w.heap.size w w':=by
 have hrl:rs.length=t.tab.length:=by rw[ht];simp
 have ZA:=hide fun w(h:Ed w co rs)(h':Fw w (.slice oe t.held.length ce) t.held)=>QR t ao bo co od oe ca cb cc cd ce rs 1048576 w h h' (by omega) g
 rw[hrl]at ZA
 have hz:∃z:Int,(1048576:Int)-((t.s.size:Int)+t.qw.length+t.d.size+t.pool.length+t.tab.length+Bg rs+t.AZ.length+t.held.length+BA t.held)=z∧0≤z∧z<(m.bn.size:Int)+m.bs.size+m.bw.length+m.ps.size+m.pw.length+m.qs.size+m.qw.length∧z≤1048576:=⟨_,rfl,by omega,by omega,by omega⟩
 obtain⟨z,hz,hz0,zI,zH⟩:=hz
 rw[hz]at ZA
 have d1:decide (z<0)=false:=by simp;omega
 have ZB:=hide fun w=>UR m am bm cm km lm nm z w hz0 zH mb zI
 have d2:decide ((-1:Int)<0)=true:=by decide
 have HC:=hide hc
 have HH:=hide hh
 clear hc hh g gm hrl ht mb hz hz0 zI zH
 obtain⟨w0,hw0,AO,LC,LA,LM,DN⟩:=qI w #[.int .i64 n,.int .i64 f] 23 #[.int .i64 t.id,.int .i64 t.vw,.int .i64 t.ak,.int .i64 t.vo,.int .i64 t.lo,.int .i64 t.n,.string t.s,.slice ao t.qw.length ca,.string t.d,.slice bo t.pool.length cb,.slice co t.tab.length cc,.slice od t.AZ.length cd,.int .i64 t.su,.slice oe t.held.length ce] 36 #[.int .i64 m.k,.int .i64 m.vw,.string m.bn,.int .i64 m.bv,.string m.bs,.slice am m.bw.length km,.int .i64 m.pv,.string m.ps,.slice bm m.pw.length lm,.int .i64 m.qv,.string m.qs,.slice cm m.qw.length nm,.int .i64 m.wh,.int .i64 m.fr,.int .i64 m.tu,.int .i64 m.am,.int .i64 m.no] 43
 go_enter Tryz.func3,Tryz.ntmps3
 go_wp2_with (first|(refine Ap LA 36 _ rfl _ rfl rfl Tryz.underlying36 rfl (by kernel_rfl) ?_))
 clear hw0
 refine(ZA.out _ (HC.out.below AO) (HH.out.below AO)).mono ?_
 rintro _ w1 ⟨rfl,bb⟩
 have AP:=bu AO bb
 have Ct:=bb.size
 replace LC:=LC.up bb
 replace LA:=LA.up bb
 replace LM:=LM.up bb
 clear AO bb
 go_wp2_with (first|(refine Ap LM 43 _ rfl _ rfl rfl Tryz.underlying43 rfl (by kernel_rfl) ?_))
 refine(ZB.out _).mono ?_
 rintro _ w2 ⟨rfl,bb⟩
 have Am:=bu AP bb
 have El:=bb.size
 replace LC:=LC.up bb
 replace LA:=LA.up bb
 replace LM:=LM.up bb
 clear AP bb
 go_wp2
 go_ret
 exact⟨rfl,Am⟩
theorem rH{t:Bu}(h:RS t):RZ t:=⟨by have:=h.s;omega,by have:=h.d;omega,fun p hp=>by have:=h.tb p hp;omega,fun j hj=>by obtain⟨h1,h2,h3,h4⟩:=h.h j hj;exact⟨by omega,by omega,by omega,by omega⟩⟩
theorem LK{P:Bf→Prop}{ps:List Bf}{p:Bf}(h:∀j,j<ps.length→P (ps.getD j AL))(hp:P p)(j:Nat)(hj:j<(ps++[p]).length):P ((ps++[p]).getD j AL):=by
 rw[List.length_append]at hj
 by_cases e:j<ps.length
 ·rw[show(ps++[p]).getD j AL=ps.getD j AL by rw[List.getD_eq_getElem?_getD,List.getElem?_append_left e,←List.getD_eq_getElem?_getD]];exact h j e
 obtain rfl:j=ps.length:=by simp at hj;omega
 rw[show(ps++[p]).getD ps.length AL=p by rw[List.getD_eq_getElem?_getD,List.getElem?_append_right (Nat.le_refl _),Nat.sub_self];rfl];exact hp
theorem rE{t:Bu}{rs:List Pr}(ht:t.tab=rs.map WL)(g:(t.s.size:Int)+t.qw.length+t.d.size+t.pool.length+rs.length+Bg rs+t.AZ.length+t.held.length+BA t.held≤1048576):Pj 1 t≤90000000:=by
 unfold Pj
 have h1:=Qi (Qa 1 t) t.held
 have h2:Qa 1 t=1+t.qw.length+t.pool.length*4+2*t.tab.length+Tt t.tab+t.AZ.length:=by
  unfold Qa aL ZG aM;rw[iO]
 have h3:Tt t.tab≤Bg rs:=by rw[ht];exact QK rs
 have h4:t.tab.length=rs.length:=by rw[ht];simp
 omega
theorem mD(t:Bu)(p:Bf):Pj 1 (A_ t [p])=Pj 1 t+ZJ p:=by
 have e:Qa 1 (A_ t [p])=Qa 1 t:=rfl
 unfold Pj
 rw[e]
 show Bp (Qa 1 t) (t.held++[p])=_
 generalize Qa 1 t=k
 induction t.held generalizing k with
 |nil=>rfl
 |cons x xs ih=>exact ih _
theorem iE(n f:Int)(t:Bu)(td:Int)(m:MT):Pj 1 (JJ n f t td m)≤Pj 1 t+ZJ (td,m):=by
 unfold JJ
 split
 ·rw[mD];exact Nat.le_refl _
 exact Nat.le_add_right _ _
theorem Tq{n f:Int}{t:Bu}(h:Eg n f t=true):IntKind.i64.wrap (n-1)=n-1:=by
 unfold Eg at h
 simp only[Bool.and_eq_true,decide_eq_true_eq]at h
 obtain⟨⟨⟨h1,h2⟩,_⟩,_⟩:=h
 rw[IntKind.wrap_i64];omega
theorem JF.put{t:Bu}{p:Bf}(h:JF t)(hl:t.held.length+1≤1048577)(hp:p.2.bw.length≤4194304∧p.2.pw.length≤4194304∧p.2.qw.length≤4194304):JF (A_ t [p]):=
 ⟨h.q,h.p,h.tb,h.d,by show(t.held++[p]).length≤_;simp;omega,h.tt,LK (P:=fun p=>p.2.bw.length≤4194304∧p.2.pw.length≤4194304∧p.2.qw.length≤4194304) h.hh hp⟩
theorem RZ.put{t:Bu}{p:Bf}(h:RZ t)(hp:MZ p.2):RZ (A_ t [p]):=⟨h.s,h.d,h.tt,LK (P:=fun p=>MZ p.2) h.hh hp⟩
theorem Vo(n f:Int)(t:Bu)(ao bo co od oe:Option Addr)(ca cb cc cd ce:Nat)(rs:List Pr)(td:Int)(m:MT)(am bm cm:Option Addr)(km lm nm:Nat)(w:World)(ht:t.tab=rs.map WL)(hm:om t rs)(aq:Lj w ao t.qw)(ap:AR w bo t.pool)(at_:Ed w co rs)(he:∀r ∈ rs,Lj w r.2.2.1 r.2.2.2.2∧JE r.2.2.2.2)(ad:uN w od cd t.AZ∧∀k,k<t.AZ.length→0≤t.AZ.getD k 0∧t.AZ.getD k 0≤255)(ah:RG (Mh t.held) 18 w (.slice oe t.held.length ce) t.held.length)(hh:∀p ∈ t.held,(JE p.2.bw∧JE p.2.pw∧JE p.2.qw)∧MI p.2)(mb:MB m)(ma:Lj w am m.bw∧Lj w bm m.pw∧Lj w cm m.qw)(mi:MI m)(hE:Env w):
 Calls Tryz.prog 3 #[cv n f,ES t (.slice ao t.qw.length ca) (.slice bo t.pool.length cb) (.slice co rs.length cc) (.slice od t.AZ.length cd) (.slice oe t.held.length ce),.int .i64 td,Dp m (.slice am m.bw.length km) (.slice bm m.pw.length lm) (.slice cm m.qw.length nm)] w fun e w'=>e= .returned (.bool true)∧Below w.heap.size w w':=by
 have hrl:rs.length=t.tab.length:=by rw[ht];simp
 rw[hrl]
 by_cases g:(t.s.size:Int)+t.qw.length+t.d.size+t.pool.length+rs.length+Bg rs+t.AZ.length+t.held.length+BA t.held≤1048576
 ·by_cases gm:(t.s.size:Int)+t.qw.length+t.d.size+t.pool.length+rs.length+Bg rs+t.AZ.length+t.held.length+BA t.held+((m.bn.size:Int)+m.bs.size+m.bw.length+m.ps.size+m.pw.length+m.qs.size+m.qw.length)≤1048576
  ·obtain⟨hsm,hrs,hI⟩:=iH ht g aq ap at_ he ad.1 ah
   have hri:=rJ ht g hh
   have hrz:=rH hrs
   have hl:t.held.length+1≤1048577:=by omega
   have ml:m.bw.length≤4194304∧m.pw.length≤4194304∧m.qw.length≤4194304:=⟨by omega,by omega,by omega⟩
   have ms:MS m:=⟨by omega,by omega,by omega,by omega⟩
   have mh:MH m:=⟨by omega,by omega,by omega,by omega⟩
   have mz:MZ m:=⟨by omega,by omega,by omega,by omega⟩
   have hm2:=hsm.put (p:=(td,m)) hl ml
   have hz2:=hrz.put (p:=(td,m)) mz
   have hq:=rE ht g
   have qA:JF (JJ n f t td m):=by unfold JJ;split;exact hm2;exact hsm
   have wY:Pj 1 (JJ n f t td m)≤100000000:=by
    have h1:=iE n f t td m
    have h2:ZJ (td,m)≤3145743:=by unfold ZJ;simp only;omega
    omega
   exact SV Env (fun _ _ h b=>h.below b) n f t ao bo co od oe ca cb cc cd ce rs w td m am bm cm km lm nm (JJ n f t td m) (UI n f t td m) qA hq wY ht g gm at_ (Mh.low ah) hsm hI hE (ma.1.ri ml.1) (ma.2.1.ri ml.2.1) (ma.2.2.ri ml.2.2)
    (fun ao bo co od oe am bm cm ca cb cc cd ce km lm nm w h h1 h2 h3=>by
     rw[Wx,QQ]
     exact iB n f t td m ao bo co od oe am bm cm ca cb cc cd ce km lm nm w Tq hsm (by omega) hrs ms ml h h1 h2 h3)
    (fun ao bo co od oe am bm cm ca cb cc cd ce km lm nm w he h h1 h2 h3=>jG n f t td m ao bo co od oe am bm cm ca cb cc cd ce km lm nm w hsm hri hrz hm2 hz2 hl (LK (P:=fun p=>MH p.2∧MI p.2) hri.h ⟨mh,mi⟩) Tq he h h1 h2 h3)
  exact SY n f t ao bo co od oe ca cb cc cd ce rs w td m am bm cm km lm nm ht g (by omega) at_ (Mh.low ah) mb
 exact Sa n f t ao bo co od oe ca cb cc cd ce rs w td m am bm cm km lm nm ht (by omega) at_ (Mh.low ah) hm
end
end Go.Proofs.YtkmnfeihjjccmaaGreatDoor
