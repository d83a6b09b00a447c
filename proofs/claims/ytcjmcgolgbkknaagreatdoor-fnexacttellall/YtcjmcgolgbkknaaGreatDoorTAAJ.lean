/- Lemmas, as stated. -/
import Derived.Test.YtcjmcgolgbkknaaGreatDoorTAAE
set_option maxRecDepth 100000
set_option maxHeartbeats 4000000
set_option linter.unusedSectionVars false
namespace Go.Proofs.YtcjmcgolgbkknaaGreatDoor
section
open Go.RowKit
abbrev Pt:=Int×ByteArray×List Int
def BI:Pt:=(0,⟨#[]⟩,[])
def Om(p:Pt):Int×ByteArray:=(p.1,p.2.1)
theorem Tryz.infoPt:(Tryz.prog.info? 72).map (fun i=>(i.zero,i.size,i.bytes))=some (some (.agg #[.int .i64 0,.string ⟨#[]⟩,.slice none 0 0]),3,48):=by kernel_rfl
def FJ(p:(Int×ByteArray)×Value):List Value:=[.int .i64 p.1.1,.string p.1.2,p.2]
def Bn(ps:List ((Int×ByteArray)×Value)):List Value:=ps.flatMap FJ
theorem Di(p:(Int×ByteArray)×Value)(ps:List ((Int×ByteArray)×Value)):Bn (p :: ps)= .int .i64 p.1.1 :: .string p.1.2 :: p.2 :: Bn ps:=by simp[Bn,FJ]
theorem Hr(ps:List ((Int×ByteArray)×Value)):(Bn ps).length=ps.length*3:=by
 induction ps with
 |nil=>rfl
 |cons p ps ih=>rw[Di];simp only[List.length_cons,ih];omega
theorem QA(ps qs:List ((Int×ByteArray)×Value)):Bn (ps++qs)=Bn ps++Bn qs:=by simp[Bn]
theorem Ji(ps:List ((Int×ByteArray)×Value))(k j:Nat)(hk:k<ps.length)(hj:j<3):(Bn ps)[k*3+j]? =(FJ (ps.getD k ((0,⟨#[]⟩),.slice none 0 0)))[j]?:=by
 induction ps generalizing k with
 |nil=>simp at hk
 | cons p ps ih=>
  have e:Bn (p :: ps)=FJ p++Bn ps:=by simp[Bn]
  rw[e];cases k with
  |zero=>rw[Nat.zero_mul,Nat.zero_add,List.getElem?_append_left (by simp[FJ];exact hj)];rfl
  |succ k=>
   rw[List.getElem?_append_right (by simp[FJ];omega),show(FJ p).length=3 from rfl,show(k+1)*3+j-3=k*3+j from by omega,ih k (by simpa using hk)];rfl
structure C_(w:World)(base:Nat)(v:Value)(ps:List Pt)(vs:List Value):Prop where
 len:vs.length=ps.length
 row:w.ownsRow base 72 3 v ps.length (Bn ((ps.map Om).zip vs))
 each:∀k,k<ps.length→OI w base (vs.getD k (.slice none 0 0)) (ps.getD k BI).2.2
 apart:∀i j,i<j→j<ps.length→∀b,(vs.getD i (.slice none 0 0)).ownBlock=some b→(vs.getD j (.slice none 0 0)).ownBlock≠some b
def Kq(w:World)(base:Nat)(v:Value)(ps:List Pt):Prop:=∃vs,C_ w base v ps vs
theorem Uq{w:World}{B B' n:Nat}{v u:Value}{cs:List Value}{ys:List Int}(h:w.ownsRow B 72 3 v n cs)(h':OI w B' u ys)(b:Nat)(hv:v.ownBlock=some b):u.ownBlock≠some b:=by
 rcases h.2 with⟨rfl,_⟩|⟨g,cap,cur,rfl,_,hg,_⟩
 ·simp[Value.ownBlock]at hv
 rcases h'.2 with⟨rfl,_⟩|⟨g',cap',cur',rfl,_,hg',_⟩
 ·simp[Value.ownBlock]
 intro e;simp[Value.ownBlock]at e hv;subst hv;rw[e,hg]at hg';simp at hg'
theorem C_.below{w w':World}{base:Nat}{v:Value}{ps:List Pt}{vs:List Value}(h:C_ w base v ps vs)(hb:Below w.heap.size w w'):C_ w' base v ps vs:=
 ⟨h.len,World.ownsRow.kept (row:=none) h.row ⟨hb.os,hb.tape,hb.output,hb.size,fun k hk _=>hb.block k hk⟩ (by cases v.ownBlock<;>simp),fun k hk=>(h.each k hk).below hb,h.apart⟩
theorem Kq.below{w w':World}{base:Nat}{v:Value}{ps:List Pt}(h:Kq w base v ps)(hb:Below w.heap.size w w'):Kq w' base v ps:=by
 obtain⟨vs,h⟩:=h;exact⟨vs,h.below hb⟩
theorem C_.kp{w w':World}{base:Nat}{X:Nat→Prop}{v:Value}{ps:List Pt}{vs:List Value}(h:C_ w base v ps vs)(k:Kp w w' X)(hX:∀j,base≤j→j<w.heap.size→¬X j):C_ w' base v ps vs:=by
 have rl:=World.ownsRow.lt h.row;refine⟨h.len,?_,fun j hj=>(h.each j hj).kp k (fun b hb=>by have:=World.ownsRow.lt (h.each j hj) b hb;exact hX b this.1 this.2),h.apart⟩;rcases h.row with⟨h1,⟨e,h0⟩|⟨g,cap,cur,e,hg,hrow,rest⟩⟩
 ·exact⟨h1,.inl ⟨e,h0⟩⟩
 have hlt:=rl g (by rw[e];rfl);exact⟨h1,.inr ⟨g,cap,cur,e,hg,(k.block g hlt.2 (hX g hlt.1 hlt.2)).trans hrow,rest⟩⟩
theorem Kq.kp{w w':World}{base:Nat}{X:Nat→Prop}{v:Value}{ps:List Pt}(h:Kq w base v ps)(k:Kp w w' X)(hX:∀j,base≤j→j<w.heap.size→¬X j):Kq w' base v ps:=by
 obtain⟨vs,h⟩:=h;exact⟨vs,h.kp k hX⟩
theorem C_.mono{w:World}{base base':Nat}{v:Value}{ps:List Pt}{vs:List Value}(h:C_ w base v ps vs)(hb:base'≤base):C_ w base' v ps vs:=by
 refine⟨h.len,?_,fun k hk=>OI.mono (h.each k hk) hb,h.apart⟩;obtain⟨h1,h2⟩:=h.row;refine⟨h1,?_⟩;rcases h2 with h2|⟨g,cap,cur,e,hg,rest⟩
 ·exact .inl h2
 exact .inr ⟨g,cap,cur,e,Nat.le_trans hb hg,rest⟩
theorem Kq.mono{w:World}{base base':Nat}{v:Value}{ps:List Pt}(h:Kq w base v ps)(hb:base'≤base):Kq w base' v ps:=by
 obtain⟨vs,h⟩:=h;exact⟨vs,h.mono hb⟩
theorem Kq.form{w:World}{base:Nat}{v:Value}{ps:List Pt}(h:Kq w base v ps):∃ao ca,v= .slice ao ps.length ca:=by
 obtain⟨vs,h⟩:=h;rcases h.row.2 with⟨rfl,h0⟩|⟨g,cap,cur,rfl,_⟩
 ·exact⟨none,0,by rw[h0]⟩
 exact⟨_,_,rfl⟩
def NY(w:World)(v:Value)(ps:List Pt):Prop:=
 ∃ao cap,v= .slice ao ps.length cap∧(ps=[]∨∃g off,ao=some ⟨g,off,none⟩∧∀k,k<ps.length→∃u,w.cell? ⟨g,off+k*3,none⟩=some (.int .i64 (ps.getD k BI).1)∧w.cell? ⟨g,off+k*3+1,none⟩=some (.string (ps.getD k BI).2.1)∧w.cell? ⟨g,off+k*3+2,none⟩=some u∧RI w u (ps.getD k BI).2.2)
theorem Od(ps:List Pt)(vs:List Value)(hl:vs.length=ps.length)(k:Nat)(hk:k<ps.length):((ps.map Om).zip vs).getD k ((0,⟨#[]⟩),.slice none 0 0)=(Om (ps.getD k BI),vs.getD k (.slice none 0 0)):=by
 rw[List.getD_eq_getElem?_getD,List.getElem?_eq_getElem (by simp;omega)];simp[List.getElem?_eq_getElem hk,List.getElem?_eq_getElem (show k<vs.length by omega)]
theorem Jg{ps:List Pt}{k:Nat}(hk:k<ps.length):ps.getD k BI ∈ ps:=by
 rw[List.getD_eq_getElem?_getD,List.getElem?_eq_getElem hk];exact List.getElem_mem hk
theorem Kq.kE{w:World}{base:Nat}{v:Value}{ps:List Pt}(h:Kq w base v ps)(hs:∀p ∈ ps,p.2.2.length≤4194304):NY w v ps:=by
 obtain⟨vs,h⟩:=h;have hz:((ps.map Om).zip vs).length=ps.length:=by simp[h.len]
 rcases h.row.2 with⟨rfl,h0⟩|⟨g,cap,cur,rfl,_⟩
 ·exact⟨none,0,by rw[h0],.inl (List.length_eq_zero_iff.1 h0)⟩
 refine⟨_,cap,rfl,.inr ⟨g,0,rfl,fun k hk=>?_⟩⟩;have c0:=World.ownsRow.cellAt h.row (k*3+0) (by omega);have c1:=World.ownsRow.cellAt h.row (k*3+1) (by omega);have c2:=World.ownsRow.cellAt h.row (k*3+2) (by omega);rw[Ji _ k _ (by omega) (by omega),Od ps vs h.len k hk]at c0 c1 c2;refine⟨_,?_,?_,?_,(h.each k hk).ri (hs _ (Jg hk))⟩
 ·rw[Nat.zero_add];exact c0
 ·rw[Nat.zero_add];exact c1
 rw[Nat.zero_add];exact c2
theorem NY.below{w w':World}{B:Nat}{v:Value}{ps:List Pt}(h:NY w v ps)(hb:Below B w w')(hB:w.heap.size≤B:=by exact Nat.le_refl _):NY w' v ps:=by
 obtain⟨ao,cap,rfl,h⟩:=h;refine⟨ao,cap,rfl,?_⟩;rcases h with h|⟨g,off,rfl,h⟩
 ·exact .inl h
 refine .inr ⟨g,off,rfl,fun k hk=>?_⟩;obtain⟨u,c0,c1,c2,r⟩:=h k hk;have hg:g<B:=Nat.lt_of_lt_of_le (AQ c0) hB;exact⟨u,(hb.cell (p:=⟨g,off+k*3,none⟩) hg).trans c0,(hb.cell (p:=⟨g,off+k*3+1,none⟩) hg).trans c1,(hb.cell (p:=⟨g,off+k*3+2,none⟩) hg).trans c2,r.below hb hB⟩
theorem NY.form{w:World}{v:Value}{ps:List Pt}(h:NY w v ps):∃ao ca,v= .slice ao ps.length ca:=by obtain⟨ao,ca,e,_⟩:=h;exact⟨ao,ca,e⟩
theorem NY.at{w:World}{ao:Option Addr}{n ca:Nat}{ps:List Pt}(h:NY w (.slice ao n ca) ps)(k:Nat)(hk:k<ps.length):∃g off u,ao=some ⟨g,off,none⟩∧w.cell? ⟨g,off+k*3,none⟩=some (.int .i64 (ps.getD k BI).1)∧w.cell? ⟨g,off+k*3+1,none⟩=some (.string (ps.getD k BI).2.1)∧w.cell? ⟨g,off+k*3+2,none⟩=some u∧RI w u (ps.getD k BI).2.2:=by
 obtain⟨QR,V8,e,h⟩:=h;cases e
 rcases h with rfl|⟨g,off,rfl,h⟩
 ·simp at hk
 obtain⟨u,h⟩:=h k hk;exact⟨g,off,u,rfl,h⟩
structure RL(w:World)(lo hi:Nat)(v:Value)(ps:List Pt)(vs:List Value):Prop where
 tab:C_ w lo v ps vs
 top:hi≤w.heap.size
 ZG:∀b,v.ownBlock=some b→b<hi
 Si:∀k,k<ps.length→∀b,(vs.getD k (.slice none 0 0)).ownBlock=some b→b<hi
theorem C_.tL{w:World}{base:Nat}{v:Value}{ps:List Pt}{vs:List Value}(h:C_ w base v ps vs):RL w base w.heap.size v ps vs:=
 ⟨h,Nat.le_refl _,fun b hb=>(World.ownsRow.lt h.row b hb).2,fun k hk b hb=>(World.ownsRow.lt (h.each k hk) b hb).2⟩
theorem RL.kp{w w':World}{lo hi:Nat}{X:Nat→Prop}{v:Value}{ps:List Pt}{vs:List Value}(h:RL w lo hi v ps vs)(k:Kp w w' X)(hX:∀j,lo≤j→j<hi→¬X j):RL w' lo hi v ps vs:=by
 refine⟨?_,Nat.le_trans h.top k.size,h.ZG,h.Si⟩;refine⟨h.tab.len,?_,fun j hj=>(h.tab.each j hj).kp k (fun b hb=>hX b (World.ownsRow.lt (h.tab.each j hj) b hb).1 (h.Si j hj b hb)),h.tab.apart⟩;have rl:=World.ownsRow.lt h.tab.row;rcases h.tab.row with⟨h1,⟨e,h0⟩|⟨g,cap,cur,e,hg,hrow,rest⟩⟩
 ·exact⟨h1,.inl ⟨e,h0⟩⟩
 have eo:v.ownBlock=some g:=by rw[e];rfl
 exact⟨h1,.inr ⟨g,cap,cur,e,hg,(k.block g (rl g eo).2 (hX g (rl g eo).1 (h.ZG g eo))).trans hrow,rest⟩⟩
theorem RL.below{w w':World}{lo hi:Nat}{v:Value}{ps:List Pt}{vs:List Value}(h:RL w lo hi v ps vs)(hb:Below w.heap.size w w'):RL w' lo hi v ps vs:=
 h.kp (Below.BJ hb (fun _=>False)) (fun _ _ _ h=>h)
theorem RL.kE{w:World}{lo hi:Nat}{v:Value}{ps:List Pt}{vs:List Value}(h:RL w lo hi v ps vs)(hs:∀p ∈ ps,p.2.2.length≤4194304):NY w v ps:=Kq.kE ⟨vs,h.tab⟩ hs
def sj(v:Value):Prop:=∃ao n cap,v= .slice ao n cap∧n≤cap∧cap≤maxLen
theorem C_.cap{w:World}{base:Nat}{v:Value}{ps:List Pt}{vs:List Value}(h:C_ w base v ps vs):sj v:=by
 rcases h.row.2 with⟨rfl,h0⟩|⟨g,cap,cur,rfl,_,_,tV,hcm,_⟩
 ·exact⟨none,0,0,rfl,Nat.le_refl _,by unfold maxLen;omega⟩
 exact⟨_,_,cap,rfl,tV,hcm⟩
theorem Kq.cap{w:World}{base:Nat}{v:Value}{ps:List Pt}(h:Kq w base v ps):sj v:=by obtain⟨vs,h⟩:=h;exact h.cap
theorem RL.cap{w:World}{lo hi:Nat}{v:Value}{ps:List Pt}{vs:List Value}(h:RL w lo hi v ps vs):sj v:=h.tab.cap
theorem iM{w w':World}{base N:Nat}{v v':Value}{ps:List Pt}{vs:List Value}{n:Int}{s:ByteArray}{u:Value}{xs:List Int}(h:C_ w base v ps vs)(hu:OI w N u xs)(hN:∀k,k<ps.length→∀b,(vs.getD k (.slice none 0 0)).ownBlock=some b→b<N)(hbN:base≤N)
 (hr:w'.ownsRow base 72 3 v' (ps.length+1) (Bn ((ps.map Om).zip vs)++FJ ((n,s),u))) (hg:w.grownBy w' v.ownBlock):C_ w' base v' (ps++[(n,s,xs)]) (vs++[u]):=by
 have keep:∀(x:Value)(zs:List Int)(B:Nat),OI w B x zs→OI w' B x zs:=fun x zs B hx=>World.ownsRow.kept hx hg (by
  cases hxo:x.ownBlock with
  |none=>exact .inl rfl
  |some b=>exact .inr fun e=>Uq h.row hx b e.symm hxo)
 refine⟨by simp[h.len],?_,fun k hk=>?_,fun i j hij hj b hb=>?_⟩
 ·have e:((ps++[(n,s,xs)]).map Om).zip (vs++[u])=(ps.map Om).zip vs++[((n,s),u)]:=by
   rw[List.map_append,List.zip_append (by simp[h.len])];rfl
  rw[e,QA,List.length_append];simpa[Bn]using hr
 ·rw[List.length_append,List.length_singleton]at hk;by_cases e:k<ps.length
  ·rw[List.getD_eq_getElem?_getD,List.getElem?_append_left (by rw[h.len];exact e),←List.getD_eq_getElem?_getD,List.getD_eq_getElem?_getD (l:=ps++_),List.getElem?_append_left e,←List.getD_eq_getElem?_getD];exact keep _ _ _ (h.each k e)
  obtain rfl:k=ps.length:=by omega
  have e1:(vs++[u]).getD ps.length (.slice none 0 0)=u:=by rw[←h.len];simp
  have e2:(ps++[(n,s,xs)]).getD ps.length BI=(n,s,xs):=by simp
  rw[e1,e2];exact OI.mono (keep _ _ _ hu) hbN
 rw[List.length_append,List.length_singleton]at hj;have hi:i<ps.length:=by omega
 rw[List.getD_eq_getElem?_getD,List.getElem?_append_left (by rw[h.len];exact hi),←List.getD_eq_getElem?_getD]at hb;by_cases e:j<ps.length
 ·rw[List.getD_eq_getElem?_getD,List.getElem?_append_left (by rw[h.len];exact e),←List.getD_eq_getElem?_getD];exact h.apart i j hij e b hb
 obtain rfl:j=ps.length:=by omega
 have e1:(vs++[u]).getD ps.length (.slice none 0 0)=u:=by rw[←h.len];simp
 rw[e1];intro e3;have:=hN i hi b hb;have:=(World.ownsRow.lt hu b e3).1;omega
end
section
open Go.ChangeShapes Go.WideShapes Go.ChangeAt Go.RowKit
open Go.Joins
variable [∀(a b c d:Int),Decidable (BG a b c d)] [∀(n f:Int),Decidable (A_ n f)]
theorem fD:Tryz.prog.cellsOf 63=3:=by kernel_rfl
abbrev Pr:=Int×ByteArray×Option Addr×Nat×List Int
def Pq:Pr:=(0,⟨#[]⟩,none,0,[])
def WR(r:Pr):Pt:=(r.1,r.2.1,r.2.2.2.2)
def Ei(W:World)(ao:Option Addr)(rs:List Pr):Prop:=
 rs=[]∨∃g off,ao=some ⟨g,off,none⟩∧∀k,k<rs.length→W.cell? ⟨g,off+k*3,none⟩=some (.int .i64 (rs.getD k Pq).1)∧W.cell? ⟨g,off+k*3+1,none⟩=some (.string (rs.getD k Pq).2.1)∧W.cell? ⟨g,off+k*3+2,none⟩=some (.slice (rs.getD k Pq).2.2.1 (rs.getD k Pq).2.2.2.2.length (rs.getD k Pq).2.2.2.1)
theorem Wx{α:Type}{l:List α}(h:l.length=3):∃a b c,l=[a,b,c]:=by
 match l,h with
 | [a,b,c],_=>exact⟨a,b,c,rfl⟩
theorem U9{H:Type}{enc:TypeId×Value→H}{W:World}{fuel:Nat}{a:Option Addr}{len cap:Nat}{x:DataW H×List MemPlace}(h:DataW.trod enc Tryz.prog W 0 (fun _=>true) true fuel 30 (Value.slice a len cap).cells.toList=some x):
 ∃rs:List Pr,len=rs.length∧rs.length≤maxLen∧Ei W a rs∧∀r ∈ rs,r.2.1.size≤maxLen∧r.2.2.2.2.length≤maxLen∧Lm W r.2.2.1 r.2.2.2.2∧JK r.2.2.2.2:=by
 rcases Go.Deep.open_slice Tryz.underlying30 h with⟨hcs,_⟩|⟨ad,l,c,m,n,D,Pl,hcs,_,hl,hm,hmm,_,hx⟩
 ·simp[Value.cells]at hcs;obtain⟨rfl,rfl,rfl⟩:=hcs;exact⟨[],rfl,by simp,.inl rfl,fun r hr=>by simp at hr⟩
 simp[Value.cells]at hcs;obtain⟨rfl,rfl,rfl⟩:=hcs;have hm':m=cap:=by simpa using hmm
 have each:∀i,∃q:Pr,i<len→(W.cell? (ad.add (i*3))=some (.int .i64 q.1)∧W.cell? (ad.add (i*3+1))=some (.string q.2.1)∧W.cell? (ad.add (i*3+2))=some (.slice q.2.2.1 q.2.2.2.2.length q.2.2.2.1))∧q.2.1.size≤maxLen∧q.2.2.2.2.length≤maxLen∧Lm W q.2.2.1 q.2.2.2.2∧JK q.2.2.2.2:=by
  intro i;by_cases hi:i<len
  ·obtain⟨cs',h1,h2⟩:=hx i (by omega);rw[fD]at h1;obtain⟨_,hlen,hcell⟩:=World.cells?_some h1;obtain⟨y0,y1,y2,k,_,_,g0,g1,g2⟩:=Go.Deep.trod_struct3 Tryz.underlying63 h2;obtain⟨v0,v1,v2,rfl⟩:=Wx hlen;have e0:=hcell 0 (by omega);have e1:=hcell 1 (by omega);have e2:=hcell 2 (by omega);rw[Go.Deep.add_add]at e0 e1 e2;have ci:Tryz.prog.cellsOf 3=1:=by kernel_rfl
   have cs:Tryz.prog.cellsOf 9=1:=by kernel_rfl
   simp[ci,cs]at g0 g1 g2;obtain⟨a0,xD,_,_⟩:=DataW.trod_int Tryz.underlying3 g0;obtain⟨a1,e1',_,hs1⟩:=DataW.trod_string Tryz.underlying9 g1;obtain⟨ao,ca,xs,rfl,hxl,hxc,hxw⟩:=Dj g2;simp at xD e1';subst xD e1';exact⟨(a0,a1,ao,ca,xs),fun _=>⟨⟨by simpa using e0,by simpa using e1,by simpa using e2⟩,hs1,hxl,hxc,hxw⟩⟩
  exact⟨Pq,fun h=>absurd h hi⟩
 obtain⟨q,hq⟩:=Classical.axiomOfChoice each;refine⟨(List.range len).map q,by simp,by simp;omega,?_,fun r hr=>?_⟩
 ·by_cases h0:len=0
  ·left;simp[h0]
  right
  obtain⟨b,off,spot⟩:=ad;have hc:=(hq 0 (by omega)).1.1;have hspot:spot=none:=by simpa[Addr.add]using World.cell?_spot hc
  subst hspot;refine⟨b,off,rfl,fun k hk=>?_⟩;rw[List.length_map,List.length_range]at hk;have:=(hq k hk).1;have ea:∀j,((⟨b,off,none⟩:Addr).add j)=⟨b,off+j,none⟩:=fun j=>by unfold Addr.add;split<;>simp_all
  rw[ea,ea,ea]at this;have eg:((List.range len).map q).getD k Pq=q k:=by simp[hk]
  rw[eg];simpa[Nat.add_assoc]using this
 obtain⟨j,hj,rfl⟩:=List.mem_map.1 hr;exact(hq j (List.mem_range.1 hj)).2
theorem Ei.kE{W:World}{ao:Option Addr}{ca:Nat}{rs:List Pr}(h:Ei W ao rs)(he:∀r ∈ rs,Lm W r.2.2.1 r.2.2.2.2)(hl:∀r ∈ rs,r.2.2.2.2.length≤4194304):NY W (.slice ao rs.length ca) (rs.map WR):=by
 refine⟨ao,ca,by simp,?_⟩;rcases h with rfl|⟨g,off,rfl,h⟩
 ·exact .inl rfl
 refine .inr ⟨g,off,rfl,fun k hk=>?_⟩;rw[List.length_map]at hk;have hm:rs.getD k Pq ∈ rs:=by rw[List.getD_eq_getElem?_getD,List.getElem?_eq_getElem hk];exact List.getElem_mem hk
 have e:(rs.map WR).getD k BI=WR (rs.getD k Pq):=by simp[List.getElem?_eq_getElem hk]
 obtain⟨c0,c1,c2⟩:=h k hk;rw[e];exact⟨_,c0,c1,c2,(he _ hm).ri (hl _ hm)⟩
end
section
open Go.RowKit
variable [∀(a b c d:Int),Decidable (BG a b c d)] [∀(n f:Int),Decidable (A_ n f)]
theorem Vu(v u:Value)(ps:List Pt)(w:World)(hl:ps.length≤4194304)(hv:NY w v ps)(hu:NY w u ps):
 Calls Tryz.prog 44 #[v,u] w fun e w'=>e= .returned (.bool true)∧Below w.heap.size w w':=by
 obtain⟨ao,ca,rfl,ha⟩:=hv;obtain⟨bo,cb,rfl,hb⟩:=hu;obtain⟨n,hn⟩:∃n,ps.length=n:=⟨_,rfl⟩
 have Hn:=hide hn;rw[hn]at hl ha hb⊢;clear hn;go_enter Tryz.func44,Tryz.ntmps44
 go_wp2
 go_loopw [5] (fun i wr=>∃k:Nat,k≤n∧i= .int .i64 k∧Below w.heap.size w wr) (fun i _=>n-(intOf i).toNat)
 case atStart=>exact⟨0,Nat.zero_le _,rfl,Below.refl _ _⟩
 case round=>
  obtain⟨k,hk,rfl,br⟩:=hrel;have pQ:=br.size;by_cases hlt:k<n
  ·rcases ha with ha|⟨g,o,rfl,ha⟩
   ·subst ha;have:=Hn.out;simp at this;omega
   rcases hb with hb|⟨g',o',rfl,hb⟩
   ·subst hb;have:=Hn.out;simp at this;omega
   obtain⟨p,a0,a1,a2,ra⟩:=ha k hlt;obtain⟨q,b0,b1,b2,rb⟩:=hb k hlt;have hg:g<w.heap.size:=AQ a0;have hg':g'<w.heap.size:=AQ b0;generalize (ps.getD k BI).1=m at *;generalize (ps.getD k BI).2.1=s at *;generalize (ps.getD k BI).2.2=xs at *
   have K:Hid (∀w',Below wr.heap.size wr w'→Below wr.heap.size wr w'∧(w'.cell? ⟨g,o+k*3,none⟩=some (.int .i64 m)∧w'.cell? ⟨g,o+k*3+1,none⟩=some (.string s)∧w'.cell? ⟨g,o+k*3+2,none⟩=some p)∧(w'.cell? ⟨g',o'+k*3,none⟩=some (.int .i64 m)∧w'.cell? ⟨g',o'+k*3+1,none⟩=some (.string s)∧w'.cell? ⟨g',o'+k*3+2,none⟩=some q)):=fun w' hb'=>by
    have hw:=br.trans (hb'.mono pQ);exact⟨hb',⟨(hw.cell (p:=⟨g,o+k*3,none⟩) hg).trans a0,(hw.cell (p:=⟨g,o+k*3+1,none⟩) hg).trans a1,(hw.cell (p:=⟨g,o+k*3+2,none⟩) hg).trans a2⟩,⟨(hw.cell (p:=⟨g',o'+k*3,none⟩) hg').trans b0,(hw.cell (p:=⟨g',o'+k*3+1,none⟩) hg').trans b1,(hw.cell (p:=⟨g',o'+k*3+2,none⟩) hg').trans b2⟩⟩
   have EQ:Hid (∀w',Below wr.heap.size wr w'→Calls Tryz.prog 74 #[qv m s p,qv m s q] w' fun e w''=>e= .returned (.bool true)∧Below w'.heap.size w' w''):=hide fun w' hb'=>by
    have hw:=br.trans (hb'.mono pQ);exact PS m s p q xs w' (ra.below hw) (rb.below hw)
   obtain⟨pa,pc,rfl⟩:=ra.form;obtain⟨qa,qc,rfl⟩:=rb.form;have bA:Below wr.heap.size wr wr.drew:=Below.drew (Below.refl _ _);have Dk:=K.out _ bA;clear ha hb a0 a1 a2 b0 b1 b2 ra rb;generalize xs.length=xl at *;go_wp2_with fail
   first|go_region_held3 (fun w'=>Below wr.heap.size wr w'∧(w'.cell? ⟨g,o+k*3,none⟩=some (.int .i64 m)∧w'.cell? ⟨g,o+k*3+1,none⟩=some (.string s)∧w'.cell? ⟨g,o+k*3+2,none⟩=some (.slice pa xl pc))∧(w'.cell? ⟨g',o'+k*3,none⟩=some (.int .i64 m)∧w'.cell? ⟨g',o'+k*3+1,none⟩=some (.string s)∧w'.cell? ⟨g',o'+k*3+2,none⟩=some (.slice qa xl qc))) (exact Dk) (first
    | (go_at_call 74;have hgo:=bA;refine(EQ.out _ bA).mono ?_;rintro e wa ⟨rfl,ba⟩
       have bB:Below wr.heap.size wr wa:=bA.trans ba;have Dk:=K.out _ bB;clear bA hgo))|fail
   all_goals
    go_wp2
    go_roundw
    case rel=>exact⟨k+1,by omega,by go_num,br.trans (bB.mono pQ)⟩
    case measure=>simp[intOf];omega
  have hkn:k=n:=by omega
  subst hkn;clear ha hb;go_wp2;go_ret;exact⟨rfl,br⟩

def Bh:List Pr→Nat
 | []=>0
 |r :: rs=>r.2.1.size+r.2.2.2.2.length+Bh rs
theorem aZ(rs:List Pr)(r:Pr):Bh (rs++[r])=Bh rs+(r.2.1.size+r.2.2.2.2.length):=by
 induction rs with
 |nil=>simp[Bh]
 |cons x rs ih=>simp only[List.cons_append,Bh,ih];omega
theorem Qm(rs:List Pr)(k:Nat)(hk:k<rs.length):Bh (rs.take (k+1))=Bh (rs.take k)+((rs.getD k Pq).2.1.size+(rs.getD k Pq).2.2.2.2.length):=by
 rw[List.take_succ_eq_append_getElem hk,aZ];simp[List.getElem?_eq_getElem hk]
theorem ZH(rs:List Pr)(k:Nat):Bh (rs.take k)≤Bh rs:=by
 induction rs generalizing k with
 |nil=>simp[Bh]
 |cons r rs ih=>
  cases k with
  |zero=>simp[Bh]
  |succ k=>simp only[List.take_succ_cons,Bh];have:=ih k;omega

theorem Ij(al:Option Addr)(cl:Nat)(rs:List Pr)(left:Int)(w:World)(h:Ei w al rs)(hs:(rs.length:Int)+Bh rs≤left)(hl:left≤1048576):
 Calls Tryz.prog 27 #[.slice al rs.length cl,.int .i64 left] w fun e w'=>e= .returned (.int .i64 (left-rs.length-Bh rs))∧Below w.heap.size w w':=by
 obtain⟨n,hn⟩:∃n,rs.length=n:=⟨_,rfl⟩
 have Hn:=hide hn;have H:=hide h;rw[hn]at hs⊢;clear hn h;have hd0:decide (left-(n:Int)<0)=false:=by simp;omega
 go_enter Tryz.func27,Tryz.ntmps27
 go_wp2
 go_loopw [1,5] (fun a i wr=>∃k:Nat,k≤n∧i= .int .i64 k∧a= .int .i64 (left-n-(Bh (rs.take k):Nat))∧Below w.heap.size w wr) (fun _ i _=>n-(intOf i).toNat)
 case atStart=>exact⟨0,Nat.zero_le _,rfl,by simp[Bh],Below.refl _ _⟩
 case round=>
  obtain⟨k,hk,rfl,rfl,br⟩:=hrel;have hp:=ZH rs k;by_cases hlt:k<n
  ·have hkx:k<rs.length:=by have:=Hn.out;omega
   have hp1:=ZH rs (k+1);have hps:=Qm rs k hkx;have j4:=hide hps;rw[hps]at hp1;clear hps;rcases H.out with h|⟨g,off,rfl,h⟩
   ·subst h;simp at hkx
   obtain⟨c0,c1,c2⟩:=h k hkx;have hg:g<w.heap.size:=AQ c0;replace c0:=(br.cell (p:=⟨g,off+k*3,none⟩) hg).trans c0;replace c1:=(br.cell (p:=⟨g,off+k*3+1,none⟩) hg).trans c1;replace c2:=(br.cell (p:=⟨g,off+k*3+2,none⟩) hg).trans c2;clear h H;generalize (rs.getD k Pq).1=m at *;generalize (rs.getD k Pq).2.1=s at *;generalize (rs.getD k Pq).2.2.2.2.length=x at *;generalize (rs.getD k Pq).2.2.1=ao at *;generalize (rs.getD k Pq).2.2.2.1=ca at *;generalize Bh (rs.take k)=q at *;have SZ:=hide fun w=>Hl m s ao x ca (left-n-q) w (by omega) (by omega);have hd1:decide (left-(n:Int)-(q:Int)-(s.size:Int)-(x:Int)<0)=false:=by simp;omega
   go_wp2_with fail
   refine(SZ.out _).mono ?_;rintro e w1 ⟨rfl,b1⟩;have B1:=bu br b1;clear c0 c1 c2 SZ b1;go_wp2
   go_roundw
   case rel=>exact⟨k+1,by omega,by go_num,by rw[j4.out];simp;omega,B1⟩
   case measure=>simp[intOf];omega
  have hkn:rs.take k=rs:=List.take_of_length_le (by have:=Hn.out;omega);rw[hkn];clear hp;go_wp2;go_ret;exact⟨rfl,br⟩
end
section
open Go.RowKit
theorem Uw(l:List ((Int×ByteArray)×Value))(k:Nat)(m:Int)(s:ByteArray)(u:Value)(hk:k<l.length):(((Bn l).set (k*3) (.int .i64 m)).set (k*3+1) (.string s)).set (k*3+2) u=Bn (l.set k ((m,s),u)):=by
 induction l generalizing k with
 |nil=>simp at hk
 | cons p l ih=>
  cases k with
  |zero=>simp[Di]
  |succ k=>
   rw[List.set_cons_succ,Di,Di,show(k+1)*3=k*3+1+1+1 by omega,show k*3+1+1+1+1=(k*3+1)+1+1+1 by omega,show k*3+1+1+1+2=(k*3+2)+1+1+1 by omega];simp only[List.set_cons_succ];rw[ih k (by simpa using hk)]
theorem Ux(l:List ((Int×ByteArray)×Value))(k:Nat)(m:Int)(s:ByteArray)(hk:k<l.length):((Bn l).set (k*3) (.int .i64 m)).set (k*3+1) (.string s)=Bn (l.set k ((m,s),(l.getD k ((0,⟨#[]⟩),.slice none 0 0)).2)):=by
 induction l generalizing k with
 |nil=>simp at hk
 | cons p l ih=>
  cases k with
  |zero=>simp[Di]
  |succ k=>
   rw[List.set_cons_succ,Di,Di,show(k+1)*3=k*3+1+1+1 by omega,show k*3+1+1+1+1=(k*3+1)+1+1+1 by omega];simp only[List.set_cons_succ];rw[ih k (by simpa using hk)];simp
theorem Un(ps:List Pt)(vs:List Value)(k:Nat)(x:Pt)(u:Value)(hl:vs.length=ps.length):((ps.set k x).map Om).zip (vs.set k u)=((ps.map Om).zip vs).set k (Om x,u):=by
 apply List.ext_getElem?
 intro j;by_cases hj:j<ps.length
 ·rw[List.getElem?_eq_getElem (by simp;omega),List.getElem?_eq_getElem (by simp;omega)];rw[List.getElem_set];by_cases e:k=j
  ·subst e;simp
  simp[e]
 rw[List.getElem?_eq_none (by simp;omega),List.getElem?_eq_none (by simp;omega)]
theorem Zi(vs:List Value)(k:Nat)(hk:k<vs.length):vs.set k (vs.getD k (.slice none 0 0))=vs:=by
 apply List.ext_getElem?
 intro j;rw[List.getElem?_set]
 split
 ·rename_i e;subst e;simp[hk]
 rfl
theorem ZM{w:World}{base g cap k:Nat}{ps:List Pt}{vs:List Value}{m:Int}{s:ByteArray}{u:Value}{xs:List Int}(h:C_ w base (.slice (some ⟨g,0,none⟩) ps.length cap) ps vs)(hk:k<ps.length)(hu:OI w base u xs)
 (hap:∀j,j<ps.length→j≠k→∀b,(vs.getD j (.slice none 0 0)).ownBlock=some b→u.ownBlock≠some b):
 C_ (((w.setCell ⟨g,k*3,none⟩ (.int .i64 m)).setCell ⟨g,k*3+1,none⟩ (.string s)).setCell ⟨g,k*3+2,none⟩ u) base (.slice (some ⟨g,0,none⟩) ps.length cap) (ps.set k (m,s,xs)) (vs.set k u):=by
 have hz:((ps.map Om).zip vs).length=ps.length:=by simp[h.len]
 have K:Kp w (((w.setCell ⟨g,k*3,none⟩ (.int .i64 m)).setCell ⟨g,k*3+1,none⟩ (.string s)).setCell ⟨g,k*3+2,none⟩ u) (fun b=>b=g):=((AB _ _ _ _).trans (AB _ _ _ _)).trans (AB _ _ _ _)
 have keep:∀(x:Value)(zs:List Int),OI w base x zs→OI (((w.setCell ⟨g,k*3,none⟩ (.int .i64 m)).setCell ⟨g,k*3+1,none⟩ (.string s)).setCell ⟨g,k*3+2,none⟩ u) base x zs:=fun x zs hx=>
  hx.kp K (fun b hb e=>Uq h.row hx g rfl (by rw[←e];exact hb))
 refine⟨by simp[h.len],?_,fun j hj=>?_,fun i j hij hj b hb=>?_⟩
 ·rw[List.length_set,Un ps vs k _ u h.len,show Om (m,s,xs)=(m,s) from rfl,←Uw _ k m s u (by omega)];exact(((h.row.stored (k*3) _).1.stored (k*3+1) _).1.stored (k*3+2) _).1
 ·rw[List.length_set]at hj;by_cases e:k=j
  ·subst e;have e1:(ps.set k (m,s,xs)).getD k BI=(m,s,xs):=by simp[hk]
   have e2:(vs.set k u).getD k (.slice none 0 0)=u:=by simp[h.len,hk]
   rw[e1,e2];exact keep _ _ hu
  have e1:(ps.set k (m,s,xs)).getD j BI=ps.getD j BI:=by simp[e]
  have e2:(vs.set k u).getD j (.slice none 0 0)=vs.getD j (.slice none 0 0):=by simp[e]
  rw[e1,e2];exact keep _ _ (h.each j hj)
 rw[List.length_set]at hj;by_cases e:k=i
 ·subst e;have e1:(vs.set k u).getD k (.slice none 0 0)=u:=by simp[h.len,hk]
  have e2:(vs.set k u).getD j (.slice none 0 0)=vs.getD j (.slice none 0 0):=by simp[show k≠j by omega]
  rw[e1]at hb;rw[e2];intro e3;exact hap j hj (by omega) b e3 hb
 by_cases e':k=j
 ·subst e';have e1:(vs.set k u).getD k (.slice none 0 0)=u:=by simp[h.len,hk]
  have e2:(vs.set k u).getD i (.slice none 0 0)=vs.getD i (.slice none 0 0):=by simp[e]
  rw[e2]at hb;rw[e1];exact hap i (by omega) (by omega) b hb
 have e1:(vs.set k u).getD i (.slice none 0 0)=vs.getD i (.slice none 0 0):=by simp[e]
 have e2:(vs.set k u).getD j (.slice none 0 0)=vs.getD j (.slice none 0 0):=by simp[e']
 rw[e1]at hb;rw[e2];exact h.apart i j hij hj b hb
theorem iN{w w1 w2:World}{base g n cap k:Nat}{ps:List Pt}{vs:List Value}{m:Int}{s:ByteArray}{xs:List Int}(h:C_ w base (.slice (some ⟨g,0,none⟩) n cap) ps vs)(hk:k<ps.length)
 (t:w1.ownsRow base 72 3 (.slice (some ⟨g,0,none⟩) n cap) ps.length (((Bn ((ps.map Om).zip vs)).set (k*3) (.int .i64 m)).set (k*3+1) (.string s))) (g1:Kp w w1 (fun b=>b=g))
 (o2:OI w2 base (vs.getD k (.slice none 0 0)) xs) (g2:w1.grownBy w2 (vs.getD k (.slice none 0 0)).ownBlock):C_ w2 base (.slice (some ⟨g,0,none⟩) n cap) (ps.set k (m,s,xs)) vs:=by
 have hz:((ps.map Om).zip vs).length=ps.length:=by simp[h.len]
 have wQ:∀j,j<ps.length→OI w1 base (vs.getD j (.slice none 0 0)) (ps.getD j BI).2.2:=fun j hj=>
  (h.each j hj).kp g1 (fun b hb e=>Uq h.row (h.each j hj) g rfl (by rw[←e];exact hb))
 refine⟨by simp[h.len],?_,fun j hj=>?_,fun i j hij hj=>h.apart i j hij (by simpa using hj)⟩
 ·have ev:vs=vs.set k (vs.getD k (.slice none 0 0)):=(Zi vs k (by rw[h.len];exact hk)).symm;rw[List.length_set]
  have e:((ps.set k (m,s,xs)).map Om).zip vs=((ps.map Om).zip vs).set k ((m,s),vs.getD k (.slice none 0 0)):=by
   conv=>lhs;rw[ev]
   exact Un ps vs k _ _ h.len
  have e2:(((ps.map Om).zip vs).getD k ((0,⟨#[]⟩),.slice none 0 0)).2=vs.getD k (.slice none 0 0):=by rw[Od ps vs h.len k hk]
  rw[e,←e2,←Ux _ k m s (by omega)];refine World.ownsRow.kept t g2 (.inr fun e=>?_);exact Uq t (wQ k hk) g rfl (by rw[←e];rfl)
 rw[List.length_set]at hj;by_cases e:k=j
 ·subst e;have:(ps.set k (m,s,xs)).getD k BI=(m,s,xs):=by simp[hk]
  rw[this];exact o2
 have:(ps.set k (m,s,xs)).getD j BI=ps.getD j BI:=by simp[e]
 rw[this];refine World.ownsRow.kept (wQ j hj) g2 ?_;cases hv:(vs.getD j (.slice none 0 0)).ownBlock with
 |none=>exact .inl rfl
 |some b=>
  refine .inr fun e2=>?_;rcases Nat.lt_or_ge k j with h3|h3
  ·exact h.apart k j h3 hj b e2.symm hv
  exact h.apart j k (by omega) hk b hv e2.symm
end
section
open Go.RowKit
variable [∀(a b c d:Int),Decidable (BG a b c d)] [∀(n f:Int),Decidable (A_ n f)]
theorem Lu(n:Nat):(madeCells (qv 0 ⟨#[]⟩ (.slice none 0 0)).cells (n*3)).toList=Bn (List.replicate n ((0,⟨#[]⟩),.slice none 0 0)):=by
 apply List.ext_getElem?
 intro i;by_cases hi:i<n*3
 ·have h:=Ji (List.replicate n ((0,⟨#[]⟩),.slice none 0 0)) (i/3) (i%3) (by simp;omega) (by omega);rw[show i/3*3+i%3=i by omega]at h;have hr:(List.replicate n (((0:Int),(⟨#[]⟩:ByteArray)),Value.slice none 0 0)).getD (i/3) ((0,⟨#[]⟩),.slice none 0 0)=((0,⟨#[]⟩),.slice none 0 0):=by simp[show i/3<n by omega]
  rw[h,hr];have hc:(qv 0 ⟨#[]⟩ (.slice none 0 0)).cells= #[.int .i64 0,.string ⟨#[]⟩,.slice none 0 0]:=by rfl
  rw[hc];have h3:i%3=0∨i%3=1∨i%3=2:=by omega
  have he:(madeCells #[Value.int .i64 0,.string ⟨#[]⟩,.slice none 0 0] (n*3)).toList[i]? =some (#[Value.int .i64 0,.string ⟨#[]⟩,.slice none 0 0][i%3]!):=by
   simp[madeCells,hi]
  rw[he];rcases h3 with e|e|e<;>rw[e]<;>rfl
 rw[List.getElem?_eq_none (by rw[Array.length_toList,size_madeCells];omega),List.getElem?_eq_none (by rw[Hr];simp;omega)]
theorem U7{w:World}{base n:Nat}{v:Value}(h:w.ownsRow base 72 3 v n (Bn (List.replicate n ((0,⟨#[]⟩),.slice none 0 0)))):C_ w base v (List.replicate n BI) (List.replicate n (.slice none 0 0)):=by
 refine⟨by simp,?_,fun k hk=>?_,fun i j hij hj b hb=>?_⟩
 ·rw[List.length_replicate,List.map_replicate,List.zip_replicate'];exact h
 ·rw[List.length_replicate]at hk;have e1:(List.replicate n (Value.slice none 0 0)).getD k (.slice none 0 0)= .slice none 0 0:=by simp[hk]
  have e2:(List.replicate n BI).getD k BI=BI:=by simp[hk]
  rw[e1,e2];exact World.ownsRow_nil _ _ _ _
 rw[List.length_replicate]at hj;have e1:(List.replicate n (Value.slice none 0 0)).getD i (.slice none 0 0)= .slice none 0 0:=by simp[show i<n by omega]
 rw[e1]at hb;simp[Value.ownBlock]at hb
def Cb(ps:List Pt)(k:Nat):List Pt:=ps.take k++List.replicate (ps.length-k) BI
theorem Oh(ps:List Pt)(k:Nat)(h:k≤ps.length):(Cb ps k).length=ps.length:=by simp[Cb];omega
theorem Og(ps:List Pt)(k:Nat)(h:k<ps.length):(Cb ps k).set k (ps.getD k BI)=Cb ps (k+1):=by
 have e:ps.length-k=(ps.length-(k+1))+1:=by omega
 have hk:(ps.take k).length=k:=by simp;omega
 unfold Cb;rw[List.take_succ_eq_append_getElem h,e,List.replicate_succ,List.set_append_right _ _ (by omega),hk,Nat.sub_self,List.set_cons_zero,List.append_assoc,List.getD_eq_getElem?_getD,List.getElem?_eq_getElem h];rfl

theorem UD(v:Value)(ps:List Pt)(w:World)(hl:ps.length≤1048577)(h:NY w v ps):
 Calls Tryz.prog 36 #[v] w fun e w'=>∃u,e= .returned u∧Kq w' w.heap.size u ps∧Below w.heap.size w w':=by
 obtain⟨i0,hi,hz0,hz1,hz2⟩:=info_parts Tryz.infoPt;obtain⟨ao,ca,rfl⟩:=h.form;have H:=hide h;obtain⟨n,hn⟩:∃n,ps.length=n:=⟨_,rfl⟩
 have Hn:=hide hn;rw[hn]at hl H⊢;clear h hn;go_enter Tryz.func36,Tryz.ntmps36
 go_wp2_with (first|(at_make;refine wpList_make_full _ rfl _ _ 42 rfl w.heap.size 72 i0 (qv 0 ⟨#[]⟩ (.slice none 0 0)) 3 Tryz.underlying42 hi hz0 hz1 .i64 .i64 _ _ n rfl rfl rfl rfl (by rw[hz2];omega) (by unfold maxLen;omega) Ak ?_;intro w0 ho0 hg0))
 have T0:C_ w0 w.heap.size (.slice (some ⟨w.heap.size,0,none⟩) n n) (Cb ps 0) (List.replicate n (.slice none 0 0)):=by
  rw[Lu]at ho0;have:=U7 ho0;simpa[Cb,Hn.out]using this
 have B0:Below w.heap.size w w0:=(Below.refl _ _).grown hg0 Ak (by simp);clear ho0 hg0 hz0 hz1 hz2 hi
 go_loopw [4] (fun i wr=>∃(k:Nat)(vs:List Value),k≤n∧i= .int .i64 k∧C_ wr w.heap.size (.slice (some ⟨w.heap.size,0,none⟩) n n) (Cb ps k) vs∧Below w.heap.size w wr) (fun i _=>n-(intOf i).toNat)
 case atStart=>exact⟨0,_,Nat.zero_le _,rfl,T0,B0⟩
 case round=>
  clear T0;obtain⟨k,vs,hk,rfl,T,br⟩:=hrel;by_cases hlt:k<n
  ·have hkx:k<ps.length:=by have:=Hn.out;omega
   have hlen:=Oh ps k (by omega);have HR:=H.out.below br;obtain⟨g,off,u,rfl,c0,c1,c2,ru⟩:=HR.at k hkx;have HS:=hide (Og ps k hkx);obtain⟨x,hx⟩:∃x,ps.getD k BI=x:=⟨_,rfl⟩
   rw[hx]at c0 c1 ru HS;clear hx;obtain⟨m,s,xs⟩:=x;simp only at c0 c1 ru;have TP:=hide fun w h=>Nv m s u xs w h;obtain⟨ua,uc,rfl⟩:=ru.form;have RU:=hide ru;have HT:=hide T;generalize xs.length=xl at *;clear HR H ru T;go_wp2_with fail
   refine(TP.out _ RU.out).mono ?_;rintro e w2 ⟨u2,rfl,o2,b2⟩;have T2:=HT.out.below b2;have B2:=bu br b2;have QG:=World.ownsRow.lt o2;have hrow:=T2.row;rw[hlen,Hn.out]at hrow;have JU:(Bn (((Cb ps k).map Om).zip vs)).length=n*3:=by rw[Hr];simp[T2.len,hlen,Hn.out]
   have gt:∀j,j<n*3→∃u,w2.cell? ⟨w.heap.size,j,none⟩=some u:=fun j hj=>⟨_,(hrow.cellAt j hj).trans (List.getElem?_eq_getElem (by rw[JU];exact hj))⟩
   obtain⟨y0,d0⟩:=gt (k*3) (by omega);obtain⟨y1,d1⟩:=gt (k*3+1) (by omega);obtain⟨y2,d2⟩:=gt (k*3+2) (by omega);have f0:=hrow.frozenAt (k*3);have f1:=hrow.frozenAt (k*3+1);have f2:=hrow.frozenAt (k*3+2)
   have R:=hide (show C_ (((w2.setCell ⟨w.heap.size,k*3,none⟩ (.int .i64 m)).setCell ⟨w.heap.size,k*3+1,none⟩ (.string s)).setCell ⟨w.heap.size,k*3+2,none⟩ u2) w.heap.size (.slice (some ⟨w.heap.size,0,none⟩) n n) (Cb ps (k+1)) (vs.set k u2) by
    have T3:=T2;have en:n=(Cb ps k).length:=by rw[hlen,Hn.out]
    rw[←HS.out]
    have:=ZM (m:=m) (s:=s) (u:=u2) (xs:=xs) (k:=k) (cap:=n) (g:=w.heap.size) (w:=w2) (base:=w.heap.size) (ps:=Cb ps k) (vs:=vs) (by rw[←en];exact T3) (by rw[hlen];exact hkx) (OI.mono o2 br.size) (fun j hj _ b hb e=>by
     have h1:=World.ownsRow.lt (HT.out.each j hj) b hb;have h2:=QG b e;omega)
    rw[←en]at this;exact this)
   have BR:=hide (((B2.setCell (p:=⟨w.heap.size,k*3,none⟩) Ak (.int .i64 m)).setCell (p:=⟨w.heap.size,k*3+1,none⟩) Ak (.string s)).setCell (p:=⟨w.heap.size,k*3+2,none⟩) Ak u2);obtain⟨va,vc,rfl⟩:=o2.form;generalize xs.length=zl at *;clear T2 B2 hrow JU gt o2 QG HT TP RU c0 c1 c2;go_wp2
   go_roundw
   case rel=>exact⟨k+1,_,by omega,by go_num,R.out,BR.out⟩
   case measure=>simp[intOf];omega
  have hkn:Cb ps k=ps:=by
   have:=Hn.out;unfold Cb;rw[List.take_of_length_le (by omega),show ps.length-k=0 by omega];simp
  rw[hkn]at T;have T':=hide T;clear T hkn H;go_wp2;go_ret;exact⟨_,rfl,⟨_,T'.out⟩,br⟩
end
section
open Go.RowKit
abbrev sv(vo lo n:Int)(s:ByteArray)(v:Value)(d:ByteArray):Value:= .agg #[.int .i64 vo,.int .i64 lo,.int .i64 n,.string s,v,.string d]

theorem YU(vo lo n:Int)(s:ByteArray)(a b:Value)(xs:List Int)(d:ByteArray)(w:World)(ha:RI w a xs)(hb:RI w b xs):
 Calls Tryz.prog 18 #[sv vo lo n s a d,sv vo lo n s b d] w fun e w'=>e= .returned (.bool true)∧Below w.heap.size w w':=by
 obtain⟨w0,hw0⟩:∃w0,(w.alloc (.cells #[.int .i64 vo,.int .i64 lo,.int .i64 n,.string s,a,.string d] 40)).alloc (.cells #[.int .i64 vo,.int .i64 lo,.int .i64 n,.string s,b,.string d] 40)=w0:=⟨_,rfl⟩
 have B0:Below w.heap.size w w0:=hw0▸Bj _ _ _;have LA:Loc w0 w.heap.size #[.int .i64 vo,.int .i64 lo,.int .i64 n,.string s,a,.string d]:=hw0▸(AJ w _ _ rfl).alloc _;have LB:Loc w0 (w.heap.size+1) #[.int .i64 vo,.int .i64 lo,.int .i64 n,.string s,b,.string d]:=hw0▸AJ (w.alloc _) _ _ (by simp);have EQ:=hide (PR n s a b xs w0 (ha.below B0) (hb.below B0));have HA:=hide LA;have HB:=hide LB;have x0:=LA.cell 0 rfl;have x1:=LA.cell 1 rfl;have x2:=LA.cell 2 rfl;have x3:=LA.cell 3 rfl;have x4:=LA.cell 4 rfl;have x5:=LA.cell 5 rfl;have y0:=LB.cell 0 rfl;have y1:=LB.cell 1 rfl;have y2:=LB.cell 2 rfl;have y3:=LB.cell 3 rfl;have y4:=LB.cell 4 rfl;have y5:=LB.cell 5 rfl;clear ha hb LA LB;go_enter Tryz.func18,Tryz.ntmps18
 go_wp2_with fail
 clear hw0;refine EQ.out.mono ?_;rintro e w1 ⟨rfl,b1⟩;have A1:=(HA.out.below b1 HA.out.lt).cell 5 rfl;have C1:=(HB.out.below b1 HB.out.lt).cell 5 rfl;have B1:=bu B0 b1;clear b1 x0 y0 x1 y1 x2 y2 x3 y3 x4 y4 x5 y5 EQ HA HB;go_wp2;go_ret;exact⟨rfl,B1⟩

theorem SF(vo lo n:Int)(s:ByteArray)(base:Nat)(v:Value)(d:ByteArray)(xs:List Int)(k0:Nat)(w:World)(hl:xs.length≤4194304)(hk:k0≤100000000)(h:OI w base v xs):
 Calls Tryz.prog 19 #[sv vo lo n s v d,.int .i64 k0] w fun e w'=>e= .returned (.int .i64 (k0+xs.length))∧OI w' base v (A8 k0 xs.length)∧Kp w w' (fun k=>v.ownBlock=some k):=by
 have B:=hide (Aj w (.cells #[.int .i64 vo,.int .i64 lo,.int .i64 n,.string s,v,.string d] 40));have H:=hide (h.below B.out);have MK:=hide fun w h=>Jj n s base v xs k0 w hl hk h;clear h;go_enter Tryz.func19,Tryz.ntmps19
 go_wp2_with fail
 refine(MK.out _ H.out).mono ?_;rintro e w1 ⟨rfl,o1,k1⟩;have K:=(Below.BJ B.out (fun k=>v.ownBlock=some k)).trans k1;go_wp2;go_ret;exact⟨rfl,o1,K⟩

theorem Fu(vo lo n:Int)(s:ByteArray)(ao:Option Addr)(k ca:Nat)(d:ByteArray)(left:Int)(w:World)(h:(s.size:Int)+k+d.size≤left)(hl:left≤1048576):
 Calls Tryz.prog 14 #[sv vo lo n s (.slice ao k ca) d,.int .i64 left] w fun e w'=>e= .returned (.int .i64 (left-s.size-k-d.size))∧Below w.heap.size w w':=by
 have h2:decide ((left:Int)-(s.size:Int)-(k:Int)<0)=false:=by simp;omega
 have h1:decide ((left:Int)-(s.size:Int)-(k:Int)-(d.size:Int)<0)=false:=by simp;omega
 have ZQ:=hide fun w=>KJ n s ao k ca left w (by omega) (by omega);obtain⟨w0,hw0⟩:∃w0,w.alloc (.cells #[.int .i64 vo,.int .i64 lo,.int .i64 n,.string s,.slice ao k ca,.string d] 28)=w0:=⟨_,rfl⟩
 have B0:Below w.heap.size w w0:=hw0▸Aj _ _;have LA:Loc w0 w.heap.size #[.int .i64 vo,.int .i64 lo,.int .i64 n,.string s,.slice ao k ca,.string d]:=hw0▸AJ w _ _ rfl;have HA:=hide LA;have x0:=LA.cell 0 rfl;have x1:=LA.cell 1 rfl;have x2:=LA.cell 2 rfl;have x3:=LA.cell 3 rfl;have x4:=LA.cell 4 rfl;have x5:=LA.cell 5 rfl;clear LA;go_enter Tryz.func14,Tryz.ntmps14
 go_wp2_with fail
 clear hw0;refine(ZQ.out _).mono ?_;rintro e w1 ⟨rfl,b1⟩;have A1:=(HA.out.below b1 HA.out.lt).cell 5 rfl;have B1:=bu B0 b1;clear b1 x0 x1 x2 x3 x4 x5 HA;go_wp2;go_ret;exact⟨rfl,B1⟩
theorem W9(vo lo n:Int)(s:ByteArray)(ao:Option Addr)(k ca:Nat)(d:ByteArray)(left:Int)(w:World)(h0:0≤left)(h:left<s.size+k)(hs:s.size≤9223372036854775807)(hk:k≤9223372036854775807)(hl:left≤1048576):
 Calls Tryz.prog 14 #[sv vo lo n s (.slice ao k ca) d,.int .i64 left] w fun e w'=>e= .returned (.int .i64 (-1))∧Below w.heap.size w w':=by
 have ZQ:=hide fun w=>Rv n s ao k ca left w (by omega) (by omega) hs hk (by omega);obtain⟨w0,hw0⟩:∃w0,w.alloc (.cells #[.int .i64 vo,.int .i64 lo,.int .i64 n,.string s,.slice ao k ca,.string d] 28)=w0:=⟨_,rfl⟩
 have B0:Below w.heap.size w w0:=hw0▸Aj _ _;have LA:Loc w0 w.heap.size #[.int .i64 vo,.int .i64 lo,.int .i64 n,.string s,.slice ao k ca,.string d]:=hw0▸AJ w _ _ rfl;have HA:=hide LA;have x0:=LA.cell 0 rfl;have x1:=LA.cell 1 rfl;have x2:=LA.cell 2 rfl;have x3:=LA.cell 3 rfl;have x4:=LA.cell 4 rfl;have x5:=LA.cell 5 rfl;clear LA;go_enter Tryz.func14,Tryz.ntmps14
 go_wp2_with fail
 clear hw0;refine(ZQ.out _).mono ?_;rintro e w1 ⟨rfl,b1⟩;have A1:=(HA.out.below b1 HA.out.lt).cell 5 rfl;have B1:=bu B0 b1;clear b1 x0 x1 x2 x3 x4 x5 HA;go_wp2;go_ret;exact⟨rfl,B1⟩
theorem Wz(vo lo n:Int)(s:ByteArray)(ao:Option Addr)(k ca:Nat)(d:ByteArray)(left:Int)(w:World)(h0:(s.size:Int)+k≤left)(h:left<s.size+k+d.size)(hd:d.size≤9223372036854775807)(hl:left≤1048576):
 Calls Tryz.prog 14 #[sv vo lo n s (.slice ao k ca) d,.int .i64 left] w fun e w'=>e= .returned (.int .i64 (-1))∧Below w.heap.size w w':=by
 have h2:decide ((left:Int)-(s.size:Int)-(k:Int)<0)=false:=by simp;omega
 have h1:decide ((left:Int)-(s.size:Int)-(k:Int)-(d.size:Int)<0)=true:=by simp;omega
 have ZQ:=hide fun w=>KJ n s ao k ca left w (by omega) (by omega);obtain⟨w0,hw0⟩:∃w0,w.alloc (.cells #[.int .i64 vo,.int .i64 lo,.int .i64 n,.string s,.slice ao k ca,.string d] 28)=w0:=⟨_,rfl⟩
 have B0:Below w.heap.size w w0:=hw0▸Aj _ _;have LA:Loc w0 w.heap.size #[.int .i64 vo,.int .i64 lo,.int .i64 n,.string s,.slice ao k ca,.string d]:=hw0▸AJ w _ _ rfl;have HA:=hide LA;have x0:=LA.cell 0 rfl;have x1:=LA.cell 1 rfl;have x2:=LA.cell 2 rfl;have x3:=LA.cell 3 rfl;have x4:=LA.cell 4 rfl;have x5:=LA.cell 5 rfl;clear LA;go_enter Tryz.func14,Tryz.ntmps14
 go_wp2_with fail
 clear hw0;refine(ZQ.out _).mono ?_;rintro e w1 ⟨rfl,b1⟩;have A1:=(HA.out.below b1 HA.out.lt).cell 5 rfl;have B1:=bu B0 b1;clear b1 x0 x1 x2 x3 x4 x5 HA;go_wp2;go_ret;exact⟨rfl,B1⟩
theorem Zq(vo lo n:Int)(s:ByteArray)(ao:Option Addr)(k ca:Nat)(d:ByteArray)(left:Int)(w:World)(h0:0≤left)(h:left<s.size+k+d.size)(hs:s.size≤9223372036854775807)(hk:k≤9223372036854775807)(hd:d.size≤9223372036854775807)(hl:left≤1048576):
 Calls Tryz.prog 14 #[sv vo lo n s (.slice ao k ca) d,.int .i64 left] w fun e w'=>e= .returned (.int .i64 (-1))∧Below w.heap.size w w':=by
 by_cases h1:left<(s.size:Int)+k
 ·exact W9 vo lo n s ao k ca d left w h0 h1 hs hk hl
 exact Wz vo lo n s ao k ca d left w (by omega) h hd hl

abbrev zs6:Array Value:= #[.int .i64 0,.int .i64 0,.int .i64 0,.string ⟨#[]⟩,.slice none 0 0,.string ⟨#[]⟩]
theorem kp6(w:World)(g:Nat)(a b c d e f:Value):Kp w ((((((w.setCell ⟨g,0,none⟩ a).setCell ⟨g,1,none⟩ b).setCell ⟨g,2,none⟩ c).setCell ⟨g,3,none⟩ d).setCell ⟨g,4,none⟩ e).setCell ⟨g,5,none⟩ f) (fun k=>k=g):=
 (((((AB _ _ _ _).trans (AB _ _ _ _)).trans (AB _ _ _ _)).trans (AB _ _ _ _)).trans (AB _ _ _ _)).trans (AB _ _ _ _)
theorem Wl(vo lo n:Int)(s:ByteArray)(a:Value)(xs:List Int)(d:ByteArray)(w:World)(ha:RI w a xs):
 Calls Tryz.prog 16 #[sv vo lo n s a d] w fun e w'=>∃u,e= .returned (sv vo lo n s u d)∧OI w' w.heap.size u xs∧Below w.heap.size w w':=by
 obtain⟨w0,hw0⟩:∃w0,((w.alloc (.cells #[.int .i64 vo,.int .i64 lo,.int .i64 n,.string s,a,.string d] 28)).alloc (.cells zs6 40)).alloc (.cells #[.int .i64 vo,.int .i64 lo,.int .i64 0,.string ⟨#[]⟩,.slice none 0 0,.string ⟨#[]⟩] 40)=w0:=⟨_,rfl⟩
 have B0:Below w.heap.size w w0:=hw0▸((Bj _ _ _).alloc (by simp;omega) _);have LZ:Loc w0 (w.heap.size+1) zs6:=hw0▸(AJ (w.alloc _) _ _ (by simp)).alloc _;have LO:Loc w0 (w.heap.size+1+1) #[.int .i64 vo,.int .i64 lo,.int .i64 0,.string ⟨#[]⟩,.slice none 0 0,.string ⟨#[]⟩]:=hw0▸AJ ((w.alloc _).alloc _) _ _ (by simp);have s0:w0.heap.size=w.heap.size+1+1+1:=by rw[←hw0];simp
 have LA:Loc w0 w.heap.size #[.int .i64 vo,.int .i64 lo,.int .i64 n,.string s,a,.string d]:=hw0▸((AJ w _ _ rfl).alloc _).alloc _;have p0:=LA.cell 0 rfl;have p1:=LA.cell 1 rfl;have p2:=LA.cell 2 rfl;have p3:=LA.cell 3 rfl;have p4:=LA.cell 4 rfl;have p5:=LA.cell 5 rfl;have TQ:=hide (Nu n s a xs w0 (ha.below B0));have HZ:=hide LZ;have HO:=hide LO;have HA:=hide LA;clear ha LZ LO LA;go_enter Tryz.func16,Tryz.ntmps16
 go_wp2_with fail
 clear hw0;refine TQ.out.mono ?_;rintro e w1 ⟨u,rfl,o1,b1⟩;have B1:Below w.heap.size w w1:=bu B0 b1;have Z1:=HZ.out.below b1 HZ.out.lt;have O1:=HO.out.below b1 HO.out.lt;have A1:=HA.out.below b1 HA.out.lt;have y0:=Z1.cell 0 rfl;have y1:=Z1.cell 1 rfl;have y2:=Z1.cell 2 rfl;have y3:=Z1.cell 3 rfl;have y4:=Z1.cell 4 rfl;have y5:=Z1.cell 5 rfl;have fy:=Z1.frozen;have x0:=O1.cell 0 rfl;have x1:=O1.cell 1 rfl;have x2:=O1.cell 2 rfl;have x3:=O1.cell 3 rfl;have x4:=O1.cell 4 rfl;have x5:=O1.cell 5 rfl;have fx:=O1.frozen;have a5:=A1.cell 5 rfl;have ZO:=World.ownsRow.lt o1;obtain⟨ua,uc,rfl⟩:=o1.form;have H1:=hide o1;clear o1 b1 Z1 O1 A1 HZ HO HA TQ p0 p1 p2 p3 p4 p5;go_wp2;refine bodyPost_ret (v:=sv vo lo n s (.slice ua xs.length uc) d) (by simp[results,Tryz.results16,go_sem,y0,y1,y2,y3,y4,y5]) rfl ?_;have K:Kp w1 _ (fun k=>k=w.heap.size+1∨k=w.heap.size+1+1):=(((((((((((Kp.same w1 _).put (g:=w.heap.size+1+1) (.inr rfl) 2 (.int .i64 n)).put (g:=w.heap.size+1+1) (.inr rfl) 3 (.string s)).put (g:=w.heap.size+1+1) (.inr rfl) 4 (.slice ua xs.length uc)).put (g:=w.heap.size+1+1) (.inr rfl) 5 (.string d)).put (g:=w.heap.size+1) (.inl rfl) 0 (.int .i64 vo)).put (g:=w.heap.size+1) (.inl rfl) 1 (.int .i64 lo)).put (g:=w.heap.size+1) (.inl rfl) 2 (.int .i64 n)).put (g:=w.heap.size+1) (.inl rfl) 3 (.string s)).put (g:=w.heap.size+1) (.inl rfl) 4 (.slice ua xs.length uc)).put (g:=w.heap.size+1) (.inl rfl) 5 (.string d))
 exact⟨_,rfl,(H1.out.kp K (fun k hk=>by have:=ZO k hk;omega)).mono (by omega),Below.kp B1 K B1.size (fun k hk=>by omega)⟩
theorem r_(va vb:Value)(xs:List Int)(w:World)(ha:RB w va xs)(hb:RB w vb xs):
 Calls Tryz.prog 107 #[va,vb] w fun e w'=>e= .returned (.bool true)∧∃n,w'=w.drewN n:=by
 obtain⟨hl,ao,ca,rfl,_,ha⟩:=ha;obtain⟨_,bo,cb,rfl,_,hb⟩:=hb;generalize hn:xs.length=n at *;have Hn:Hid (xs.length=n):=hn;clear hn;go_enter Tryz.func107,Tryz.ntmps107
 go_wp2
 go_loopw [5] (fun i wr=>∃k:Nat,k≤n∧i= .int .i64 k∧∃m,wr=w.drewN m) (fun i _=>n-(intOf i).toNat)
 case atStart=>exact⟨0,Nat.zero_le _,rfl,0,rfl⟩
 case round=>
  obtain⟨k,hk,rfl,m,rfl⟩:=hrel;by_cases hlt:k<n
  ·rcases ha with ha|⟨b,off,rfl,ha⟩
   ·subst ha;have:=Hn.out;simp at this;omega
   rcases hb with hb|⟨b',off',rfl,hb⟩
   ·subst hb;have:=Hn.out;simp at this;omega
   have ha':=ha k hlt;have hb':=hb k hlt;clear ha hb;go_wp2_with fail
   go_quiet (fail)
   go_wp2
   go_roundw
   case rel=>exact⟨k+1,by omega,by go_num,_,rfl⟩
   case measure=>simp[intOf];omega
  clear ha hb;go_wp2;go_ret;exact⟨rfl,_,rfl⟩
end
end Go.Proofs.YtcjmcgolgbkknaaGreatDoor
