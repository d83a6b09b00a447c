/- Lemmas, as stated. -/
import Derived.Test.YtcjmcgolgbkknaaGreatDoorTABF
set_option maxRecDepth 100000
set_option maxHeartbeats 4000000
set_option linter.unusedSectionVars false
namespace Go.Proofs.YtcjmcgolgbkknaaGreatDoor
section
open Go.ChangeShapes Go.WideShapes Go.ChangeAt Go.RowKit
open Go.Joins
variable [∀(a b c d:Int),Decidable (BG a b c d)] [∀(n f:Int),Decidable (A_ n f)] [∀(a b c d:Nat),Decidable (DZ a b c d)] [∀(x:T4),Decidable (Du x)]
section
variable {H:Type} {enc:TypeId×Value→H} {P:Program} {w:World} {base:Nat} {spare:Bool}
theorem Rs{held:TypeId→Bool}{t:TypeId}{f0 f1 f2 f3 f4 f5 f6 f7:Field}{fuel:Nat}{cs:List Value}{x:DataW H×List MemPlace}(ht:P.underlying t=some (.struct #[f0,f1,f2,f3,f4,f5,f6,f7]))(h:DataW.trod enc P w base held spare fuel t cs=some x):
 ∃y0 y1 y2 y3 y4 y5 y6 y7 n,DataW.trod enc P w base held spare n f0.type ((cs.drop f0.offset).take (P.cellsOf f0.type))=some y0∧DataW.trod enc P w base held spare n f1.type ((cs.drop f1.offset).take (P.cellsOf f1.type))=some y1∧DataW.trod enc P w base held spare n f2.type ((cs.drop f2.offset).take (P.cellsOf f2.type))=some y2∧DataW.trod enc P w base held spare n f3.type ((cs.drop f3.offset).take (P.cellsOf f3.type))=some y3∧DataW.trod enc P w base held spare n f4.type ((cs.drop f4.offset).take (P.cellsOf f4.type))=some y4∧DataW.trod enc P w base held spare n f5.type ((cs.drop f5.offset).take (P.cellsOf f5.type))=some y5∧DataW.trod enc P w base held spare n f6.type ((cs.drop f6.offset).take (P.cellsOf f6.type))=some y6∧DataW.trod enc P w base held spare n f7.type ((cs.drop f7.offset).take (P.cellsOf f7.type))=some y7:=by
 obtain⟨xs,n,_,rfl,hl,hlen,hf⟩:=DataW.trod_struct ht h
 match xs,hlen with
 | [y0,y1,y2,y3,y4,y5,y6,y7],_=>exact⟨y0,y1,y2,y3,y4,y5,y6,y7,n,by simpa using hf 0 f0 rfl,by simpa using hf 1 f1 rfl,by simpa using hf 2 f2 rfl,by simpa using hf 3 f3 rfl,by simpa using hf 4 f4 rfl,by simpa using hf 5 f5 rfl,by simpa using hf 6 f6 rfl,by simpa using hf 7 f7 rfl⟩
end
theorem oM{cs:Array Value}(h:cs.size=14):∃c0 c1 c2 c3 c4 c5 c6 c7 c8 c9 c10 c11 c12 c13,cs= #[c0,c1,c2,c3,c4,c5,c6,c7,c8,c9,c10,c11,c12,c13]:=by
 obtain⟨l⟩:=cs
 match l,h with
 | [c0,c1,c2,c3,c4,c5,c6,c7,c8,c9,c10,c11,c12,c13],_=>exact⟨c0,c1,c2,c3,c4,c5,c6,c7,c8,c9,c10,c11,c12,c13,rfl⟩
theorem jc:Tryz.prog.cellsOf 36=14:=by kernel_rfl
theorem EL:Tryz.prog.cellsOf 29=1:=by kernel_rfl
theorem Cw:Tryz.prog.cellsOf 30=1:=by kernel_rfl
theorem Cv:Tryz.prog.cellsOf 34=1:=by kernel_rfl
theorem Xm{H:Type}{enc:TypeId×Value→H}{W:World}{fuel:Nat}{c0 c1 c2 c3 c4 c5:Value}{x:DataW H×List MemPlace}(hf:DataW.trod enc Tryz.prog W 0 (fun _=>true) true fuel 28 [c0,c1,c2,c3,c4,c5]=some x):
 ∃vo lo n s ao ca m,∃xs:List Int,[c0,c1,c2,c3,c4,c5]=[.int .i64 vo,.int .i64 lo,.int .i64 n,.string s,.slice ao xs.length ca,.string m]∧s.size≤maxLen∧xs.length≤maxLen∧m.size≤maxLen∧Lm W ao xs∧JK xs:=by
 obtain⟨y0,y1,y2,y3,k,_,_,h0,h1,h2,h3⟩:=trod_struct4 Tryz.underlying28 hf;have h0':DataW.trod enc Tryz.prog W 0 (fun _=>true) true k 3 [c0]=some y0:=by simpa[AX,Am,Aa]using h0
 have h1':DataW.trod enc Tryz.prog W 0 (fun _=>true) true k 3 [c1]=some y1:=by simpa[AX,Am,Aa]using h1
 have h2':DataW.trod enc Tryz.prog W 0 (fun _=>true) true k 26 [c2,c3,c4]=some y2:=by simpa[AX,Am,Aa]using h2
 have h3':DataW.trod enc Tryz.prog W 0 (fun _=>true) true k 9 [c5]=some y3:=by simpa[AX,Am,Aa]using h3
 obtain⟨z0,z1,z2,j,_,_,g0,g1,g2⟩:=Go.Deep.trod_struct3 Tryz.underlying26 h2';have g0':DataW.trod enc Tryz.prog W 0 (fun _=>true) true j 3 [c2]=some z0:=by simpa[AX]using g0
 have g1':DataW.trod enc Tryz.prog W 0 (fun _=>true) true j 9 [c3]=some z1:=by simpa[Aa]using g1
 have g2':DataW.trod enc Tryz.prog W 0 (fun _=>true) true j 24 [c4]=some z2:=by simpa[Ab]using g2
 obtain⟨a,e0,_,_⟩:=DataW.trod_int Tryz.underlying3 h0';obtain⟨b,e1,_,_⟩:=DataW.trod_int Tryz.underlying3 h1';obtain⟨n,e2,_,_⟩:=DataW.trod_int Tryz.underlying3 g0';obtain⟨s,e3,_,hs⟩:=DataW.trod_string Tryz.underlying9 g1';obtain⟨ao,ca,xs,rfl,hx,ax,wx⟩:=Dj g2';obtain⟨m,e5,_,hm⟩:=DataW.trod_string Tryz.underlying9 h3';simp at e0 e1 e2 e3 e5;exact⟨a,b,n,s,ao,ca,m,xs,by rw[e0,e1,e2,e3,e5],hs,hx,hm,ax,wx⟩
theorem Je{H:Type}{enc:TypeId×Value→H}{P:Program}{W:World}{t e:TypeId}{fuel:Nat}{c:Value}{x:DataW H×List MemPlace}(ht:P.underlying t=some (.slice e))(h:DataW.trod enc P W 0 (fun _=>true) true fuel t [c]=some x):∃a l k,c= .slice a l k:=by
 rcases Go.Deep.open_slice ht h with⟨hcs,_⟩|⟨ad,l,k,m,n,D,Pl,hcs,_⟩
 ·exact⟨_,_,_,by simpa using hcs⟩
 exact⟨_,_,_,by simpa using hcs⟩
theorem iO{H:Type}{enc:TypeId×Value→H}{W:World}{base:Nat}{v:Value}{d:DataW H}{p:List MemPlace}(hv:Value.okWide Tryz.prog W .any base 36 v)
 (h:DataW.Trod enc Tryz.prog W 0 (fun _=>true) true 36 v d p):
 ∃(t:Bt)(ao bo co od oe:Option Addr)(ca cb cc cd ce:Nat)(rs:List Pr),t.tab=rs.map WR∧v=Dz t (.slice ao t.qw.length ca) (.slice bo t.pool.length cb) (.slice co rs.length cc) (.slice od t.AU.length cd) (.slice oe t.held.length ce)∧oP t rs∧Lm W ao t.qw∧JK t.qw∧AR W bo t.pool∧Ei W co rs∧(∀r ∈ rs,Lm W r.2.2.1 r.2.2.2.2∧JK r.2.2.2.2)∧(uF W od cd t.AU∧∀k,k<t.AU.length→0≤t.AU.getD k 0∧t.AU.getD k 0≤255)∧RG (Ml t.held) 18 W (.slice oe t.held.length ce) t.held.length∧∀p ∈ t.held,(JK p.2.bw∧JK p.2.pw∧JK p.2.qw)∧MI p.2:=by
 obtain⟨cs,rfl,hsz⟩:=okWide_struct Tryz.underlying36 hv;obtain⟨c0,c1,c2,c3,c4,c5,c6,c7,c8,c9,c10,c11,c12,c13,rfl⟩:=oM (hsz.trans jc);obtain⟨fuel,hf⟩:=h;obtain⟨y0,y1,y2,y3,y4,y5,y6,y7,k,h0,h1,h2,h3,h4,h5,h6,h7⟩:=Rs Tryz.underlying36 hf;have g0:DataW.trod enc Tryz.prog W 0 (fun _=>true) true k 3 [c0]=some y0:=by simpa[Value.cells,AX,Aa,EO,EL,Cw,cellsD,Cv]using h0
 have g1:DataW.trod enc Tryz.prog W 0 (fun _=>true) true k 3 [c1]=some y1:=by simpa[Value.cells,AX,Aa,EO,EL,Cw,cellsD,Cv]using h1
 have g2:DataW.trod enc Tryz.prog W 0 (fun _=>true) true k 3 [c2]=some y2:=by simpa[Value.cells,AX,Aa,EO,EL,Cw,cellsD,Cv]using h2
 have g3:DataW.trod enc Tryz.prog W 0 (fun _=>true) true k 28 [c3,c4,c5,c6,c7,c8]=some y3:=by simpa[Value.cells,AX,Aa,EO,EL,Cw,cellsD,Cv]using h3
 have g4:DataW.trod enc Tryz.prog W 0 (fun _=>true) true k 29 [c9]=some y4:=by simpa[Value.cells,AX,Aa,EO,EL,Cw,cellsD,Cv]using h4
 have g5:DataW.trod enc Tryz.prog W 0 (fun _=>true) true k 30 [c10]=some y5:=by simpa[Value.cells,AX,Aa,EO,EL,Cw,cellsD,Cv]using h5
 have g6:DataW.trod enc Tryz.prog W 0 (fun _=>true) true k 33 [c11,c12]=some y6:=by simpa[Value.cells,AX,Aa,EO,EL,Cw,cellsD,Cv]using h6
 have g7:DataW.trod enc Tryz.prog W 0 (fun _=>true) true k 34 [c13]=some y7:=by simpa[Value.cells,AX,Aa,EO,EL,Cw,cellsD,Cv]using h7
 obtain⟨id,e0,_,_⟩:=DataW.trod_int Tryz.underlying3 g0;obtain⟨vw,e1,_,_⟩:=DataW.trod_int Tryz.underlying3 g1;obtain⟨ak,e2,_,_⟩:=DataW.trod_int Tryz.underlying3 g2;obtain⟨vo,lo,n,s,ao,ca,m,qw,e3,l1,l2,l3,aq,fq⟩:=Xm g3;obtain⟨bo,pl,cb,rfl⟩:=Je Tryz.underlying29 g4;obtain⟨pool,rfl,l4,ap⟩:=bJ (a:=bo) (len:=pl) (cap:=cb) g4;obtain⟨co,tl,cc,rfl⟩:=Je Tryz.underlying30 g5;obtain⟨rs,rfl,l5,at_,he⟩:=U9 (a:=co) (len:=tl) (cap:=cc) g5;obtain⟨z0,z1,kd,_,_,d0,d1⟩:=trod_struct2 Tryz.underlying33 g6;have cB:Tryz.prog.cellsOf 31=1:=by kernel_rfl
 have d0':DataW.trod enc Tryz.prog W 0 (fun _=>true) true kd 31 [c11]=some z0:=by simpa[AX,cB]using d0
 have d1':DataW.trod enc Tryz.prog W 0 (fun _=>true) true kd 3 [c12]=some z1:=by simpa[AX,cB]using d1
 obtain⟨od,cd,zs,rfl,l6,ad,fd⟩:=Xn d0';obtain⟨su,e12,_,_⟩:=DataW.trod_int Tryz.underlying3 d1';obtain⟨oe,hl,ce,rfl⟩:=Je Tryz.underlying34 g7;obtain⟨ps,rfl,l7,ah,hp⟩:=U8 (a:=oe) (len:=hl) (cap:=ce) g7;simp at e0 e1 e2 e3 e12;obtain⟨e3,e4,e5,e6,e7,e8⟩:=e3;exact⟨⟨id,vw,ak,vo,lo,n,s,qw,m,pool,rs.map WR,zs,su,ps⟩,ao,bo,co,od,oe,ca,cb,cc,cd,ce,rs,rfl,by rw[e0,e1,e2,e3,e4,e5,e6,e7,e8,e12],⟨l1,l2,l3,l4,l5,fun r hr=>⟨(he r hr).1,(he r hr).2.1⟩,l6,l7,fun p hp'=>(hp p hp').1⟩,aq,fq,ap,at_,fun r hr=>(he r hr).2.2,⟨ad,fd⟩,ah,fun p hp'=>(hp p hp').2⟩
end
section
open Go Go.RowKit
variable [∀(a b c d:Int),Decidable (BG a b c d)] [∀(n f:Int),Decidable (A_ n f)] [∀(a b c d:Nat),Decidable (DZ a b c d)] [∀(x:T4),Decidable (Du x)] [∀(last:Int)(s:St),Decidable (Aq last s)] [∀(n:Int)(s:List Int),Decidable (Dv n s)] [∀(x y:T4),Decidable (Gs x y)] [∀(ts:List T4),Decidable (Asc ts)] [∀(ts:List T4),Decidable (DU ts)] [∀(ts:List T4),Decidable (JM ts)]
theorem iB{W:World}{t:Bt}{ao bo co od oe:Option Addr}{ca cc cd ce:Nat}{rs:List Pr}(ht:t.tab=rs.map WR)(g:(t.s.size:Int)+t.qw.length+t.d.size+t.pool.length+rs.length+Bh rs+t.AU.length+t.held.length+BC t.held≤1048576)(aq:Lm W ao t.qw)(ap:AR W bo t.pool)(at_:Ei W co rs)(he:∀r ∈ rs,Lm W r.2.2.1 r.2.2.2.2∧JK r.2.2.2.2)(ad:uF W od cd t.AU)(ah:RG (Ml t.held) 18 W (.slice oe t.held.length ce) t.held.length):
 I7 t∧RS t∧fK W t (.slice ao t.qw.length ca) bo (.slice co t.tab.length cc) (.slice od t.AU.length cd) (.slice oe t.held.length ce):=by
 obtain⟨hsm,⟨s1,s2⟩,h1,h2⟩:=Qk ht g;refine⟨hsm,⟨s1,s2,fun p hp=>(h1 p hp).1,fun j hj=>?_⟩,⟨aq.ri (by have:=hsm.q;omega),ap,?_,ad.rb (by omega),Ml.ZF ah hsm.hh⟩⟩
 ·have:=h2 j hj;unfold SE at this;exact⟨by omega,by omega,by omega,by omega⟩
 have h3:∀r ∈ rs,r.2.2.2.2.length≤4194304:=fun r hr=>by have:=Qn hr;omega
 have:=Ei.kE (ca:=cc) at_ (fun r hr=>(he r hr).1) h3;rw[show rs.length=t.tab.length by rw[ht];simp]at this;rw[←ht]at this;exact this
theorem tq.new(id:Int):tq (Hz id):=⟨(Nat.zero_le _:0≤33554432),(Nat.zero_le _:0≤33554432),fun p hp=>by simp[Hz]at hp,fun j hj=>by simp[Hz]at hj⟩
end
section
open Go.RowKit
variable [∀(a b c d:Int),Decidable (BG a b c d)] [∀(a b c d:Nat),Decidable (DZ a b c d)] [∀(last:Int)(s:St),Decidable (Aq last s)] [∀(x:T4),Decidable (Du x)] [∀(n:Int)(s:List Int),Decidable (Dv n s)] [∀(n f:Int),Decidable (A_ n f)]
theorem OB.nil(w:World)(base:Nat):OB w base (.slice none 0 0) []:=World.ownsRow_nil _ _ _ _
end
section
open Go Go.RowKit
variable [∀(a b c d:Int),Decidable (BG a b c d)] [∀(n f:Int),Decidable (A_ n f)] [∀(a b c d:Nat),Decidable (DZ a b c d)] [∀(x:T4),Decidable (Du x)] [∀(last:Int)(s:St),Decidable (Aq last s)] [∀(n:Int)(s:List Int),Decidable (Dv n s)] [∀(x y:T4),Decidable (Gs x y)] [∀(ts:List T4),Decidable (Asc ts)] [∀(ts:List T4),Decidable (DU ts)] [∀(ts:List T4),Decidable (JM ts)]
theorem En.zero(w:World):En w Gu (.slice none 0 0) (.slice none 0 0) (.slice none 0 0) (.slice none 0 0) (.slice none 0 0):=
 ⟨⟨by simp[Gu],none,0,rfl,.inl rfl⟩,⟨by simp[Gu],none,0,rfl,.inl rfl⟩,⟨none,0,rfl,.inl rfl⟩,⟨by simp[Gu],none,0,rfl,⟨by simp[Gu],by unfold maxLen;omega⟩,.inl rfl⟩,Ih.nil w⟩
theorem I7.zero:I7 Gu:=⟨by simp[Gu],by simp[Gu],by simp[Gu],by simp[Gu],by simp[Gu],fun p hp=>by simp[Gu]at hp,fun j hj=>by simp[Gu]at hj⟩
theorem qx{t:Bt}{rs:List Pr}(ht:t.tab=rs.map WR)(g:(t.s.size:Int)+t.qw.length+t.d.size+t.pool.length+rs.length+Bh rs+t.AU.length+t.held.length+BC t.held≤1048576)(hh:∀p ∈ t.held,(JK p.2.bw∧JK p.2.pw∧JK p.2.qw)∧MI p.2):tq t:=by
 obtain⟨_,⟨s1,s2⟩,h1,h2⟩:=Qk ht g;refine⟨by omega,by omega,fun p hp=>by have:=(h1 p hp).1;omega,fun j hj=>⟨?_,(hh _ (by rw[List.getD_eq_getElem?_getD,List.getElem?_eq_getElem hj];exact List.getElem_mem hj)).2⟩⟩;have:=h2 j hj;unfold SE at this;exact⟨by omega,by omega,by omega,by omega⟩
theorem QW:∀rs:List Pr,Tv (rs.map WR)≤Bh rs
 | []=>Nat.le_refl _
 |r :: rs=>by have:=QW rs;simp only[List.map_cons,Tv,Bh,WR];omega
theorem LJ:∀(k:Nat)(ps:List Ba),Bp k ps≤k+15*ps.length+BC ps
 |k,[]=>by simp[Bp]
 |k,p :: ps=>by
  have:=LJ (k+kF p) ps;simp only[Bp,BC,List.length_cons];unfold kF at this⊢;unfold SE;omega
theorem qp{t:Bt}(h:RS t):RZ t:=⟨by have:=h.s;omega,by have:=h.d;omega,fun p hp=>by have:=h.tb p hp;omega,fun j hj=>by obtain⟨h1,h2,h3,h4⟩:=h.h j hj;exact⟨by omega,by omega,by omega,by omega⟩⟩
end
section
open Go.RowKit
def uY(n:Nat)(s:Int):Int:=if Jn n s then(n:Int)else s
end
section
open Go Go.RowKit
variable [∀(a b c d:Int),Decidable (BG a b c d)] [∀(n f:Int),Decidable (A_ n f)] [∀(a b c d:Nat),Decidable (DZ a b c d)] [∀(x:T4),Decidable (Du x)] [∀(last:Int)(s:St),Decidable (Aq last s)] [∀(n:Int)(s:List Int),Decidable (Dv n s)] [∀(x y:T4),Decidable (Gs x y)] [∀(ts:List T4),Decidable (Asc ts)] [∀(ts:List T4),Decidable (DU ts)] [∀(ts:List T4),Decidable (JM ts)]
def vU(t:Bt):Bt:={ t with su:=uY t.AU.length t.su,held:=[] }
theorem I7.sr{t:Bt}(h:I7 t):I7 (vU t):=⟨h.q,h.p,h.tb,h.d,by simp[vU],h.tt,fun j hj=>by simp[vU]at hj⟩
theorem RZ.sr{t:Bt}(h:RZ t):RZ (vU t):=⟨h.s,h.d,h.tt,fun j hj=>by simp[vU]at hj⟩
def F6(w:World)(lo hi:Nat)(v:Value)(ps:List Ba):Prop:=hi≤w.heap.size∧∀(w':World)(X:Nat→Prop),Kp w w' X→(∀j,lo≤j→j<hi→¬X j)→Ih w' v ps
theorem F6.kp{w w':World}{lo hi:Nat}{v:Value}{ps:List Ba}{X:Nat→Prop}(h:F6 w lo hi v ps)(k:Kp w w' X)(hx:∀j,lo≤j→j<hi→¬X j):F6 w' lo hi v ps:=
 ⟨Nat.le_trans h.1 k.size,fun w'' Y k' hy=>h.2 w'' (fun j=>X j∨Y j) ((k.mono (fun _=>Or.inl)).trans (k'.mono (fun _=>Or.inr))) (fun j h1 h2 e=>e.elim (hx j h1 h2) (hy j h1 h2))⟩
theorem F6.below{w w':World}{lo hi:Nat}{v:Value}{ps:List Ba}(h:F6 w lo hi v ps)(b':Below w.heap.size w w'):F6 w' lo hi v ps:=h.kp (Below.BJ b' (fun _=>False)) (fun _ _ _ h=>h)
theorem F6.ZF{w:World}{lo hi:Nat}{v:Value}{ps:List Ba}(h:F6 w lo hi v ps):Ih w v ps:=h.2 w (fun _=>False) (Kp.refl _ _) (fun _ _ _ h=>h)
theorem F6.nil(w:World)(lo hi:Nat)(h:hi≤w.heap.size):F6 w lo hi (.slice none 0 0) []:=⟨h,fun w' _ _ _=>Ih.nil w'⟩
theorem F6.mono{w:World}{lo lo' hi hi':Nat}{v:Value}{ps:List Ba}(h:F6 w lo hi v ps)(h1:lo'≤lo)(h2:hi≤hi')(h3:hi'≤w.heap.size):F6 w lo' hi' v ps:=
 ⟨h3,fun w' X k hx=>h.2 w' X k (fun j a b=>hx j (Nat.le_trans h1 a) (Nat.lt_of_lt_of_le b h2))⟩
theorem F6.none(w:World)(lo hi:Nat)(ao:Option Addr)(ca:Nat)(h:hi≤w.heap.size):F6 w lo hi (.slice ao 0 ca) []:=⟨h,fun _ _ _ _=>⟨ao,ca,rfl,.inl rfl⟩⟩
end
end Go.Proofs.YtcjmcgolgbkknaaGreatDoor
