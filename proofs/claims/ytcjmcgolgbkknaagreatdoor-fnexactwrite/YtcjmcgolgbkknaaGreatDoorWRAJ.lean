/- Lemmas; their conditions stand in each statement. -/
import Derived.Test.YtcjmcgolgbkknaaGreatDoorWRAE
set_option maxRecDepth 100000
set_option maxHeartbeats 4000000
set_option linter.unusedSectionVars false
namespace Go.Proofs.YtcjmcgolgbkknaaGreatDoor
section
open Go.RowKit
abbrev Pt:=Int×ByteArray×List Int
def BQ:Pt:=(0,⟨#[]⟩,[])
def QZ(p:Pt):Int×ByteArray:=(p.1,p.2.1)
theorem Tryz.infoPt:(Tryz.prog.info? 72).map (fun i=>(i.zero,i.size,i.bytes))=some (some (.agg #[.int .i64 0,.string ⟨#[]⟩,.slice none 0 0]),3,48):=by kernel_rfl
def Fv(p:(Int×ByteArray)×Value):List Value:=[.int .i64 p.1.1,.string p.1.2,p.2]
def Bw(ps:List ((Int×ByteArray)×Value)):List Value:=ps.flatMap Fv
theorem Dr(p:(Int×ByteArray)×Value)(ps:List ((Int×ByteArray)×Value)):Bw (p :: ps)= .int .i64 p.1.1 :: .string p.1.2 :: p.2 :: Bw ps:=by simp[Bw,Fv]
theorem Ib(ps:List ((Int×ByteArray)×Value)):(Bw ps).length=ps.length*3:=by
 induction ps with
 |nil=>rfl
 |cons p ps ih=>rw[Dr];simp only[List.length_cons,ih];omega
theorem Ro(ps qs:List ((Int×ByteArray)×Value)):Bw (ps++qs)=Bw ps++Bw qs:=by simp[Bw]
theorem Kb(ps:List ((Int×ByteArray)×Value))(k j:Nat)(hk:k<ps.length)(hj:j<3):(Bw ps)[k*3+j]? =(Fv (ps.getD k ((0,⟨#[]⟩),.slice none 0 0)))[j]?:=by
 induction ps generalizing k with
 |nil=>simp at hk
 | cons p ps ih=>
  have e:Bw (p :: ps)=Fv p++Bw ps:=by simp[Bw]
  rw[e];cases k with
  |zero=>rw[Nat.zero_mul,Nat.zero_add,List.getElem?_append_left (by simp[Fv];exact hj)];rfl
  |succ k=>
   rw[List.getElem?_append_right (by simp[Fv];omega),show(Fv p).length=3 from rfl,show(k+1)*3+j-3=k*3+j from by omega,ih k (by simpa using hk)];rfl
structure De(w:World)(base:Nat)(v:Value)(ps:List Pt)(vs:List Value):Prop where
 len:vs.length=ps.length
 row:w.ownsRow base 72 3 v ps.length (Bw ((ps.map QZ).zip vs))
 each:∀k,k<ps.length→OI w base (vs.getD k (.slice none 0 0)) (ps.getD k BQ).2.2
 apart:∀i j,i<j→j<ps.length→∀b,(vs.getD i (.slice none 0 0)).ownBlock=some b→(vs.getD j (.slice none 0 0)).ownBlock≠some b
def NK(w:World)(base:Nat)(v:Value)(ps:List Pt):Prop:=∃vs,De w base v ps vs
theorem WZ{w:World}{B B' n:Nat}{v u:Value}{cs:List Value}{ys:List Int}(h:w.ownsRow B 72 3 v n cs)(h':OI w B' u ys)(b:Nat)(hv:v.ownBlock=some b):u.ownBlock≠some b:=by
 rcases h.2 with⟨rfl,_⟩|⟨g,cap,cur,rfl,_,hg,_⟩
 ·simp[Value.ownBlock]at hv
 rcases h'.2 with⟨rfl,_⟩|⟨g',cap',cur',rfl,_,hg',_⟩
 ·simp[Value.ownBlock]
 intro e;simp[Value.ownBlock]at e hv;subst hv;rw[e,hg]at hg';simp at hg'
theorem De.below{w w':World}{base:Nat}{v:Value}{ps:List Pt}{vs:List Value}(h:De w base v ps vs)(hb:Below w.heap.size w w'):De w' base v ps vs:=
 ⟨h.len,World.ownsRow.kept (row:=none) h.row ⟨hb.os,hb.tape,hb.output,hb.size,fun k hk _=>hb.block k hk⟩ (by cases v.ownBlock<;>simp),fun k hk=>(h.each k hk).below hb,h.apart⟩
theorem NK.below{w w':World}{base:Nat}{v:Value}{ps:List Pt}(h:NK w base v ps)(hb:Below w.heap.size w w'):NK w' base v ps:=by
 obtain⟨vs,h⟩:=h;exact⟨vs,h.below hb⟩
theorem De.kp{w w':World}{base:Nat}{X:Nat→Prop}{v:Value}{ps:List Pt}{vs:List Value}(h:De w base v ps vs)(k:Kp w w' X)(hX:∀j,base≤j→j<w.heap.size→¬X j):De w' base v ps vs:=by
 have rl:=World.ownsRow.lt h.row;refine⟨h.len,?_,fun j hj=>(h.each j hj).kp k (fun b hb=>by have:=World.ownsRow.lt (h.each j hj) b hb;exact hX b this.1 this.2),h.apart⟩;rcases h.row with⟨h1,⟨e,h0⟩|⟨g,cap,cur,e,hg,hrow,rest⟩⟩
 ·exact⟨h1,.inl ⟨e,h0⟩⟩
 have hlt:=rl g (by rw[e];rfl);exact⟨h1,.inr ⟨g,cap,cur,e,hg,(k.block g hlt.2 (hX g hlt.1 hlt.2)).trans hrow,rest⟩⟩
theorem NK.kp{w w':World}{base:Nat}{X:Nat→Prop}{v:Value}{ps:List Pt}(h:NK w base v ps)(k:Kp w w' X)(hX:∀j,base≤j→j<w.heap.size→¬X j):NK w' base v ps:=by
 obtain⟨vs,h⟩:=h;exact⟨vs,h.kp k hX⟩
theorem De.mono{w:World}{base base':Nat}{v:Value}{ps:List Pt}{vs:List Value}(h:De w base v ps vs)(hb:base'≤base):De w base' v ps vs:=by
 refine⟨h.len,?_,fun k hk=>OI.mono (h.each k hk) hb,h.apart⟩;obtain⟨h1,h2⟩:=h.row;refine⟨h1,?_⟩;rcases h2 with h2|⟨g,cap,cur,e,hg,rest⟩
 ·exact .inl h2
 exact .inr ⟨g,cap,cur,e,Nat.le_trans hb hg,rest⟩
theorem NK.mono{w:World}{base base':Nat}{v:Value}{ps:List Pt}(h:NK w base v ps)(hb:base'≤base):NK w base' v ps:=by
 obtain⟨vs,h⟩:=h;exact⟨vs,h.mono hb⟩
theorem NK.form{w:World}{base:Nat}{v:Value}{ps:List Pt}(h:NK w base v ps):∃ao ca,v= .slice ao ps.length ca:=by
 obtain⟨vs,h⟩:=h;rcases h.row.2 with⟨rfl,h0⟩|⟨g,cap,cur,rfl,_⟩
 ·exact⟨none,0,by rw[h0]⟩
 exact⟨_,_,rfl⟩
def PL(w:World)(v:Value)(ps:List Pt):Prop:=
 ∃ao cap,v= .slice ao ps.length cap∧(ps=[]∨∃g off,ao=some ⟨g,off,none⟩∧∀k,k<ps.length→∃u,w.cell? ⟨g,off+k*3,none⟩=some (.int .i64 (ps.getD k BQ).1)∧w.cell? ⟨g,off+k*3+1,none⟩=some (.string (ps.getD k BQ).2.1)∧w.cell? ⟨g,off+k*3+2,none⟩=some u∧RI w u (ps.getD k BQ).2.2)
theorem QQ(ps:List Pt)(vs:List Value)(hl:vs.length=ps.length)(k:Nat)(hk:k<ps.length):((ps.map QZ).zip vs).getD k ((0,⟨#[]⟩),.slice none 0 0)=(QZ (ps.getD k BQ),vs.getD k (.slice none 0 0)):=by
 rw[List.getD_eq_getElem?_getD,List.getElem?_eq_getElem (by simp;omega)];simp[List.getElem?_eq_getElem hk,List.getElem?_eq_getElem (show k<vs.length by omega)]
theorem KZ{ps:List Pt}{k:Nat}(hk:k<ps.length):ps.getD k BQ ∈ ps:=by
 rw[List.getD_eq_getElem?_getD,List.getElem?_eq_getElem hk];exact List.getElem_mem hk
theorem NK.vQ{w:World}{base:Nat}{v:Value}{ps:List Pt}(h:NK w base v ps)(hs:∀p ∈ ps,p.2.2.length≤4194304):PL w v ps:=by
 obtain⟨vs,h⟩:=h;have hz:((ps.map QZ).zip vs).length=ps.length:=by simp[h.len]
 rcases h.row.2 with⟨rfl,h0⟩|⟨g,cap,cur,rfl,_⟩
 ·exact⟨none,0,by rw[h0],.inl (List.length_eq_zero_iff.1 h0)⟩
 refine⟨_,cap,rfl,.inr ⟨g,0,rfl,fun k hk=>?_⟩⟩;have c0:=World.ownsRow.cellAt h.row (k*3+0) (by omega);have c1:=World.ownsRow.cellAt h.row (k*3+1) (by omega);have c2:=World.ownsRow.cellAt h.row (k*3+2) (by omega);rw[Kb _ k _ (by omega) (by omega),QQ ps vs h.len k hk]at c0 c1 c2;refine⟨_,?_,?_,?_,(h.each k hk).ri (hs _ (KZ hk))⟩
 ·rw[Nat.zero_add];exact c0
 ·rw[Nat.zero_add];exact c1
 rw[Nat.zero_add];exact c2
theorem PL.below{w w':World}{B:Nat}{v:Value}{ps:List Pt}(h:PL w v ps)(hb:Below B w w')(hB:w.heap.size≤B:=by exact Nat.le_refl _):PL w' v ps:=by
 obtain⟨ao,cap,rfl,h⟩:=h;refine⟨ao,cap,rfl,?_⟩;rcases h with h|⟨g,off,rfl,h⟩
 ·exact .inl h
 refine .inr ⟨g,off,rfl,fun k hk=>?_⟩;obtain⟨u,c0,c1,c2,r⟩:=h k hk;have hg:g<B:=Nat.lt_of_lt_of_le (AU c0) hB;exact⟨u,(hb.cell (p:=⟨g,off+k*3,none⟩) hg).trans c0,(hb.cell (p:=⟨g,off+k*3+1,none⟩) hg).trans c1,(hb.cell (p:=⟨g,off+k*3+2,none⟩) hg).trans c2,r.below hb hB⟩
theorem PL.form{w:World}{v:Value}{ps:List Pt}(h:PL w v ps):∃ao ca,v= .slice ao ps.length ca:=by obtain⟨ao,ca,e,_⟩:=h;exact⟨ao,ca,e⟩
theorem PL.at{w:World}{ao:Option Addr}{n ca:Nat}{ps:List Pt}(h:PL w (.slice ao n ca) ps)(k:Nat)(hk:k<ps.length):∃g off u,ao=some ⟨g,off,none⟩∧w.cell? ⟨g,off+k*3,none⟩=some (.int .i64 (ps.getD k BQ).1)∧w.cell? ⟨g,off+k*3+1,none⟩=some (.string (ps.getD k BQ).2.1)∧w.cell? ⟨g,off+k*3+2,none⟩=some u∧RI w u (ps.getD k BQ).2.2:=by
 obtain⟨SF,Xw,e,h⟩:=h;cases e
 rcases h with rfl|⟨g,off,rfl,h⟩
 ·simp at hk
 obtain⟨u,h⟩:=h k hk;exact⟨g,off,u,rfl,h⟩
structure Tg(w:World)(lo hi:Nat)(v:Value)(ps:List Pt)(vs:List Value):Prop where
 tab:De w lo v ps vs
 top:hi≤w.heap.size
 dZ:∀b,v.ownBlock=some b→b<hi
 Uu:∀k,k<ps.length→∀b,(vs.getD k (.slice none 0 0)).ownBlock=some b→b<hi
theorem De.opr{w:World}{base:Nat}{v:Value}{ps:List Pt}{vs:List Value}(h:De w base v ps vs):Tg w base w.heap.size v ps vs:=
 ⟨h,Nat.le_refl _,fun b hb=>(World.ownsRow.lt h.row b hb).2,fun k hk b hb=>(World.ownsRow.lt (h.each k hk) b hb).2⟩
theorem Tg.kp{w w':World}{lo hi:Nat}{X:Nat→Prop}{v:Value}{ps:List Pt}{vs:List Value}(h:Tg w lo hi v ps vs)(k:Kp w w' X)(hX:∀j,lo≤j→j<hi→¬X j):Tg w' lo hi v ps vs:=by
 refine⟨?_,Nat.le_trans h.top k.size,h.dZ,h.Uu⟩;refine⟨h.tab.len,?_,fun j hj=>(h.tab.each j hj).kp k (fun b hb=>hX b (World.ownsRow.lt (h.tab.each j hj) b hb).1 (h.Uu j hj b hb)),h.tab.apart⟩;have rl:=World.ownsRow.lt h.tab.row;rcases h.tab.row with⟨h1,⟨e,h0⟩|⟨g,cap,cur,e,hg,hrow,rest⟩⟩
 ·exact⟨h1,.inl ⟨e,h0⟩⟩
 have eo:v.ownBlock=some g:=by rw[e];rfl
 exact⟨h1,.inr ⟨g,cap,cur,e,hg,(k.block g (rl g eo).2 (hX g (rl g eo).1 (h.dZ g eo))).trans hrow,rest⟩⟩
theorem Tg.below{w w':World}{lo hi:Nat}{v:Value}{ps:List Pt}{vs:List Value}(h:Tg w lo hi v ps vs)(hb:Below w.heap.size w w'):Tg w' lo hi v ps vs:=
 h.kp (Below.Bf hb (fun _=>False)) (fun _ _ _ h=>h)
theorem Tg.vQ{w:World}{lo hi:Nat}{v:Value}{ps:List Pt}{vs:List Value}(h:Tg w lo hi v ps vs)(hs:∀p ∈ ps,p.2.2.length≤4194304):PL w v ps:=NK.vQ ⟨vs,h.tab⟩ hs
def yh(v:Value):Prop:=∃ao n cap,v= .slice ao n cap∧n≤cap∧cap≤maxLen
theorem De.cap{w:World}{base:Nat}{v:Value}{ps:List Pt}{vs:List Value}(h:De w base v ps vs):yh v:=by
 rcases h.row.2 with⟨rfl,h0⟩|⟨g,cap,cur,rfl,_,_,oq,hcm,_⟩
 ·exact⟨none,0,0,rfl,Nat.le_refl _,by unfold maxLen;omega⟩
 exact⟨_,_,cap,rfl,oq,hcm⟩
theorem NK.cap{w:World}{base:Nat}{v:Value}{ps:List Pt}(h:NK w base v ps):yh v:=by obtain⟨vs,h⟩:=h;exact h.cap
theorem Tg.cap{w:World}{lo hi:Nat}{v:Value}{ps:List Pt}{vs:List Value}(h:Tg w lo hi v ps vs):yh v:=h.tab.cap
theorem nS{w w':World}{base N:Nat}{v v':Value}{ps:List Pt}{vs:List Value}{n:Int}{s:ByteArray}{u:Value}{xs:List Int}(h:De w base v ps vs)(hu:OI w N u xs)(hN:∀k,k<ps.length→∀b,(vs.getD k (.slice none 0 0)).ownBlock=some b→b<N)(hbN:base≤N)
 (hr:w'.ownsRow base 72 3 v' (ps.length+1) (Bw ((ps.map QZ).zip vs)++Fv ((n,s),u))) (hg:w.grownBy w' v.ownBlock):De w' base v' (ps++[(n,s,xs)]) (vs++[u]):=by
 have keep:∀(x:Value)(zs:List Int)(B:Nat),OI w B x zs→OI w' B x zs:=fun x zs B hx=>World.ownsRow.kept hx hg (by
  cases hxo:x.ownBlock with
  |none=>exact .inl rfl
  |some b=>exact .inr fun e=>WZ h.row hx b e.symm hxo)
 refine⟨by simp[h.len],?_,fun k hk=>?_,fun i j hij hj b hb=>?_⟩
 ·have e:((ps++[(n,s,xs)]).map QZ).zip (vs++[u])=(ps.map QZ).zip vs++[((n,s),u)]:=by
   rw[List.map_append,List.zip_append (by simp[h.len])];rfl
  rw[e,Ro,List.length_append];simpa[Bw]using hr
 ·rw[List.length_append,List.length_singleton]at hk;by_cases e:k<ps.length
  ·rw[List.getD_eq_getElem?_getD,List.getElem?_append_left (by rw[h.len];exact e),←List.getD_eq_getElem?_getD,List.getD_eq_getElem?_getD (l:=ps++_),List.getElem?_append_left e,←List.getD_eq_getElem?_getD];exact keep _ _ _ (h.each k e)
  obtain rfl:k=ps.length:=by omega
  have e1:(vs++[u]).getD ps.length (.slice none 0 0)=u:=by rw[←h.len];simp
  have e2:(ps++[(n,s,xs)]).getD ps.length BQ=(n,s,xs):=by simp
  rw[e1,e2];exact OI.mono (keep _ _ _ hu) hbN
 rw[List.length_append,List.length_singleton]at hj;have hi:i<ps.length:=by omega
 rw[List.getD_eq_getElem?_getD,List.getElem?_append_left (by rw[h.len];exact hi),←List.getD_eq_getElem?_getD]at hb;by_cases e:j<ps.length
 ·rw[List.getD_eq_getElem?_getD,List.getElem?_append_left (by rw[h.len];exact e),←List.getD_eq_getElem?_getD];exact h.apart i j hij e b hb
 obtain rfl:j=ps.length:=by omega
 have e1:(vs++[u]).getD ps.length (.slice none 0 0)=u:=by rw[←h.len];simp
 rw[e1];intro e3;have:=hN i hi b hb;have:=(World.ownsRow.lt hu b e3).1;omega
end
section
open Go.ChangeShapes Go.WideShapes Go.ChangeAt Go.RowKit
open Go.Joins
variable [∀(a b c d:Int),Decidable (BK a b c d)] [∀(n f:Int),Decidable (A9 n f)]
theorem kF:Tryz.prog.cellsOf 63=3:=by kernel_rfl
abbrev Pr:=Int×ByteArray×Option Addr×Nat×List Int
def RL:Pr:=(0,⟨#[]⟩,none,0,[])
def YC(r:Pr):Pt:=(r.1,r.2.1,r.2.2.2.2)
def E_(W:World)(ao:Option Addr)(rs:List Pr):Prop:=
 rs=[]∨∃g off,ao=some ⟨g,off,none⟩∧∀k,k<rs.length→W.cell? ⟨g,off+k*3,none⟩=some (.int .i64 (rs.getD k RL).1)∧W.cell? ⟨g,off+k*3+1,none⟩=some (.string (rs.getD k RL).2.1)∧W.cell? ⟨g,off+k*3+2,none⟩=some (.slice (rs.getD k RL).2.2.1 (rs.getD k RL).2.2.2.2.length (rs.getD k RL).2.2.2.1)
theorem Yc{α:Type}{l:List α}(h:l.length=3):∃a b c,l=[a,b,c]:=by
 match l,h with
 | [a,b,c],_=>exact⟨a,b,c,rfl⟩
theorem Wu{H:Type}{enc:TypeId×Value→H}{W:World}{fuel:Nat}{a:Option Addr}{len cap:Nat}{x:DataW H×List MemPlace}(h:DataW.trod enc Tryz.prog W 0 (fun _=>true) true fuel 30 (Value.slice a len cap).cells.toList=some x):
 ∃rs:List Pr,len=rs.length∧rs.length≤maxLen∧E_ W a rs∧∀r ∈ rs,r.2.1.size≤maxLen∧r.2.2.2.2.length≤maxLen∧RD W r.2.2.1 r.2.2.2.2∧J7 r.2.2.2.2:=by
 rcases Go.Deep.open_slice Tryz.underlying30 h with⟨hcs,_⟩|⟨ad,l,c,m,n,D,Pl,hcs,_,hl,hm,hmm,_,hx⟩
 ·simp[Value.cells]at hcs;obtain⟨rfl,rfl,rfl⟩:=hcs;exact⟨[],rfl,by simp,.inl rfl,fun r hr=>by simp at hr⟩
 simp[Value.cells]at hcs;obtain⟨rfl,rfl,rfl⟩:=hcs;have hm':m=cap:=by simpa using hmm
 have each:∀i,∃q:Pr,i<len→(W.cell? (ad.add (i*3))=some (.int .i64 q.1)∧W.cell? (ad.add (i*3+1))=some (.string q.2.1)∧W.cell? (ad.add (i*3+2))=some (.slice q.2.2.1 q.2.2.2.2.length q.2.2.2.1))∧q.2.1.size≤maxLen∧q.2.2.2.2.length≤maxLen∧RD W q.2.2.1 q.2.2.2.2∧J7 q.2.2.2.2:=by
  intro i;by_cases hi:i<len
  ·obtain⟨cs',h1,h2⟩:=hx i (by omega);rw[kF]at h1;obtain⟨_,hlen,hcell⟩:=World.cells?_some h1;obtain⟨y0,y1,y2,k,_,_,g0,g1,g2⟩:=Go.Deep.trod_struct3 Tryz.underlying63 h2;obtain⟨v0,v1,v2,rfl⟩:=Yc hlen;have e0:=hcell 0 (by omega);have e1:=hcell 1 (by omega);have e2:=hcell 2 (by omega);rw[Go.Deep.add_add]at e0 e1 e2;have ci:Tryz.prog.cellsOf 3=1:=by kernel_rfl
   have cs:Tryz.prog.cellsOf 9=1:=by kernel_rfl
   simp[ci,cs]at g0 g1 g2;obtain⟨a0,e0',_,_⟩:=DataW.trod_int Tryz.underlying3 g0;obtain⟨a1,e1',_,hs1⟩:=DataW.trod_string Tryz.underlying9 g1;obtain⟨ao,ca,xs,rfl,hxl,hxc,hxw⟩:=FY g2;simp at e0' e1';subst e0' e1';exact⟨(a0,a1,ao,ca,xs),fun _=>⟨⟨by simpa using e0,by simpa using e1,by simpa using e2⟩,hs1,hxl,hxc,hxw⟩⟩
  exact⟨RL,fun h=>absurd h hi⟩
 obtain⟨q,hq⟩:=Classical.axiomOfChoice each;refine⟨(List.range len).map q,by simp,by simp;omega,?_,fun r hr=>?_⟩
 ·by_cases h0:len=0
  ·left;simp[h0]
  right
  obtain⟨b,off,spot⟩:=ad;have hc:=(hq 0 (by omega)).1.1;have hspot:spot=none:=by simpa[Addr.add]using World.cell?_spot hc
  subst hspot;refine⟨b,off,rfl,fun k hk=>?_⟩;rw[List.length_map,List.length_range]at hk;have:=(hq k hk).1;have ea:∀j,((⟨b,off,none⟩:Addr).add j)=⟨b,off+j,none⟩:=fun j=>by unfold Addr.add;split<;>simp_all
  rw[ea,ea,ea]at this;have eg:((List.range len).map q).getD k RL=q k:=by simp[hk]
  rw[eg];simpa[Nat.add_assoc]using this
 obtain⟨j,hj,rfl⟩:=List.mem_map.1 hr;exact(hq j (List.mem_range.1 hj)).2
theorem E_.vQ{W:World}{ao:Option Addr}{ca:Nat}{rs:List Pr}(h:E_ W ao rs)(he:∀r ∈ rs,RD W r.2.2.1 r.2.2.2.2)(hl:∀r ∈ rs,r.2.2.2.2.length≤4194304):PL W (.slice ao rs.length ca) (rs.map YC):=by
 refine⟨ao,ca,by simp,?_⟩;rcases h with rfl|⟨g,off,rfl,h⟩
 ·exact .inl rfl
 refine .inr ⟨g,off,rfl,fun k hk=>?_⟩;rw[List.length_map]at hk;have hm:rs.getD k RL ∈ rs:=by rw[List.getD_eq_getElem?_getD,List.getElem?_eq_getElem hk];exact List.getElem_mem hk
 have e:(rs.map YC).getD k BQ=YC (rs.getD k RL):=by simp[List.getElem?_eq_getElem hk]
 obtain⟨c0,c1,c2⟩:=h k hk;rw[e];exact⟨_,c0,c1,c2,(he _ hm).ri (hl _ hm)⟩
end
section
open Go.RowKit
variable [∀(a b c d:Int),Decidable (BK a b c d)] [∀(n f:Int),Decidable (A9 n f)]
theorem Xk(v u:Value)(ps:List Pt)(w:World)(hl:ps.length≤4194304)(hv:PL w v ps)(hu:PL w u ps):
 Calls Tryz.prog 44 #[v,u] w fun e w'=>e= .returned (.bool true)∧Below w.heap.size w w':=by
 obtain⟨ao,ca,rfl,ha⟩:=hv;obtain⟨bo,cb,rfl,hb⟩:=hu;obtain⟨n,hn⟩:∃n,ps.length=n:=⟨_,rfl⟩
 have Hn:=hide hn;rw[hn]at hl ha hb⊢;clear hn;go_enter Tryz.func44,Tryz.ntmps44
 go_wp2
 go_loopw [5] (fun i wr=>∃k:Nat,k≤n∧i= .int .i64 k∧Below w.heap.size w wr) (fun i _=>n-(intOf i).toNat)
 case atStart=>exact⟨0,Nat.zero_le _,rfl,Below.refl _ _⟩
 case round=>
  obtain⟨k,hk,rfl,br⟩:=hrel;have wF:=br.size;by_cases hlt:k<n
  ·rcases ha with ha|⟨g,o,rfl,ha⟩
   ·subst ha;have:=Hn.out;simp at this;omega
   rcases hb with hb|⟨g',o',rfl,hb⟩
   ·subst hb;have:=Hn.out;simp at this;omega
   obtain⟨p,a0,a1,a2,ra⟩:=ha k hlt;obtain⟨q,b0,b1,b2,rb⟩:=hb k hlt;have hg:g<w.heap.size:=AU a0;have hg':g'<w.heap.size:=AU b0;generalize (ps.getD k BQ).1=m at *;generalize (ps.getD k BQ).2.1=s at *;generalize (ps.getD k BQ).2.2=xs at *
   have K:Hid (∀w',Below wr.heap.size wr w'→Below wr.heap.size wr w'∧(w'.cell? ⟨g,o+k*3,none⟩=some (.int .i64 m)∧w'.cell? ⟨g,o+k*3+1,none⟩=some (.string s)∧w'.cell? ⟨g,o+k*3+2,none⟩=some p)∧(w'.cell? ⟨g',o'+k*3,none⟩=some (.int .i64 m)∧w'.cell? ⟨g',o'+k*3+1,none⟩=some (.string s)∧w'.cell? ⟨g',o'+k*3+2,none⟩=some q)):=fun w' hb'=>by
    have hw:=br.trans (hb'.mono wF);exact⟨hb',⟨(hw.cell (p:=⟨g,o+k*3,none⟩) hg).trans a0,(hw.cell (p:=⟨g,o+k*3+1,none⟩) hg).trans a1,(hw.cell (p:=⟨g,o+k*3+2,none⟩) hg).trans a2⟩,⟨(hw.cell (p:=⟨g',o'+k*3,none⟩) hg').trans b0,(hw.cell (p:=⟨g',o'+k*3+1,none⟩) hg').trans b1,(hw.cell (p:=⟨g',o'+k*3+2,none⟩) hg').trans b2⟩⟩
   have EQ:Hid (∀w',Below wr.heap.size wr w'→Calls Tryz.prog 74 #[qv m s p,qv m s q] w' fun e w''=>e= .returned (.bool true)∧Below w'.heap.size w' w''):=hide fun w' hb'=>by
    have hw:=br.trans (hb'.mono wF);exact Qw m s p q xs w' (ra.below hw) (rb.below hw)
   obtain⟨pa,pc,rfl⟩:=ra.form;obtain⟨qa,qc,rfl⟩:=rb.form;have bA:Below wr.heap.size wr wr.drew:=Below.drew (Below.refl _ _);have Dt:=K.out _ bA;clear ha hb a0 a1 a2 b0 b1 b2 ra rb;generalize xs.length=xl at *;go_wp2_with fail
   first|go_region_held3 (fun w'=>Below wr.heap.size wr w'∧(w'.cell? ⟨g,o+k*3,none⟩=some (.int .i64 m)∧w'.cell? ⟨g,o+k*3+1,none⟩=some (.string s)∧w'.cell? ⟨g,o+k*3+2,none⟩=some (.slice pa xl pc))∧(w'.cell? ⟨g',o'+k*3,none⟩=some (.int .i64 m)∧w'.cell? ⟨g',o'+k*3+1,none⟩=some (.string s)∧w'.cell? ⟨g',o'+k*3+2,none⟩=some (.slice qa xl qc))) (exact Dt) (first
    | (go_at_call 74;have hgo:=bA;refine(EQ.out _ bA).mono ?_;rintro e wa ⟨rfl,ba⟩
       have bB:Below wr.heap.size wr wa:=bA.trans ba;have Dt:=K.out _ bB;clear bA hgo))|fail
   all_goals
    go_wp2
    go_roundw
    case rel=>exact⟨k+1,by omega,by go_num,br.trans (bB.mono wF)⟩
    case measure=>simp[intOf];omega
  have hkn:k=n:=by omega
  subst hkn;clear ha hb;go_wp2;go_ret;exact⟨rfl,br⟩

def Bt:List Pr→Nat
 | []=>0
 |r :: rs=>r.2.1.size+r.2.2.2.2.length+Bt rs
theorem iL(rs:List Pr)(r:Pr):Bt (rs++[r])=Bt rs+(r.2.1.size+r.2.2.2.2.length):=by
 induction rs with
 |nil=>simp[Bt]
 |cons x rs ih=>simp only[List.cons_append,Bt,ih];omega
theorem Sn(rs:List Pr)(k:Nat)(hk:k<rs.length):Bt (rs.take (k+1))=Bt (rs.take k)+((rs.getD k RL).2.1.size+(rs.getD k RL).2.2.2.2.length):=by
 rw[List.take_succ_eq_append_getElem hk,iL];simp[List.getElem?_eq_getElem hk]
theorem df(rs:List Pr)(k:Nat):Bt (rs.take k)≤Bt rs:=by
 induction rs generalizing k with
 |nil=>simp[Bt]
 |cons r rs ih=>
  cases k with
  |zero=>simp[Bt]
  |succ k=>simp only[List.take_succ_cons,Bt];have:=ih k;omega

theorem JI(al:Option Addr)(cl:Nat)(rs:List Pr)(left:Int)(w:World)(h:E_ w al rs)(hs:(rs.length:Int)+Bt rs≤left)(hl:left≤1048576):
 Calls Tryz.prog 27 #[.slice al rs.length cl,.int .i64 left] w fun e w'=>e= .returned (.int .i64 (left-rs.length-Bt rs))∧Below w.heap.size w w':=by
 obtain⟨n,hn⟩:∃n,rs.length=n:=⟨_,rfl⟩
 have Hn:=hide hn;have H:=hide h;rw[hn]at hs⊢;clear hn h;have hd0:decide (left-(n:Int)<0)=false:=by simp;omega
 go_enter Tryz.func27,Tryz.ntmps27
 go_wp2
 go_loopw [1,5] (fun a i wr=>∃k:Nat,k≤n∧i= .int .i64 k∧a= .int .i64 (left-n-(Bt (rs.take k):Nat))∧Below w.heap.size w wr) (fun _ i _=>n-(intOf i).toNat)
 case atStart=>exact⟨0,Nat.zero_le _,rfl,by simp[Bt],Below.refl _ _⟩
 case round=>
  obtain⟨k,hk,rfl,rfl,br⟩:=hrel;have hp:=df rs k;by_cases hlt:k<n
  ·have hkx:k<rs.length:=by have:=Hn.out;omega
   have hp1:=df rs (k+1);have hps:=Sn rs k hkx;have qd:=hide hps;rw[hps]at hp1;clear hps;rcases H.out with h|⟨g,off,rfl,h⟩
   ·subst h;simp at hkx
   obtain⟨c0,c1,c2⟩:=h k hkx;have hg:g<w.heap.size:=AU c0;replace c0:=(br.cell (p:=⟨g,off+k*3,none⟩) hg).trans c0;replace c1:=(br.cell (p:=⟨g,off+k*3+1,none⟩) hg).trans c1;replace c2:=(br.cell (p:=⟨g,off+k*3+2,none⟩) hg).trans c2;clear h H;generalize (rs.getD k RL).1=m at *;generalize (rs.getD k RL).2.1=s at *;generalize (rs.getD k RL).2.2.2.2.length=x at *;generalize (rs.getD k RL).2.2.1=ao at *;generalize (rs.getD k RL).2.2.2.1=ca at *;generalize Bt (rs.take k)=q at *;have SZ:=hide fun w=>IW m s ao x ca (left-n-q) w (by omega) (by omega);have hd1:decide (left-(n:Int)-(q:Int)-(s.size:Int)-(x:Int)<0)=false:=by simp;omega
   go_wp2_with fail
   refine(SZ.out _).mono ?_;rintro e w1 ⟨rfl,b1⟩;have B1:=bu br b1;clear c0 c1 c2 SZ b1;go_wp2
   go_roundw
   case rel=>exact⟨k+1,by omega,by go_num,by rw[qd.out];simp;omega,B1⟩
   case measure=>simp[intOf];omega
  have hkn:rs.take k=rs:=List.take_of_length_le (by have:=Hn.out;omega);rw[hkn];clear hp;go_wp2;go_ret;exact⟨rfl,br⟩
end
section
open Go.RowKit
theorem Wl(l:List ((Int×ByteArray)×Value))(k:Nat)(m:Int)(s:ByteArray)(u:Value)(hk:k<l.length):(((Bw l).set (k*3) (.int .i64 m)).set (k*3+1) (.string s)).set (k*3+2) u=Bw (l.set k ((m,s),u)):=by
 induction l generalizing k with
 |nil=>simp at hk
 | cons p l ih=>
  cases k with
  |zero=>simp[Dr]
  |succ k=>
   rw[List.set_cons_succ,Dr,Dr,show(k+1)*3=k*3+1+1+1 by omega,show k*3+1+1+1+1=(k*3+1)+1+1+1 by omega,show k*3+1+1+1+2=(k*3+2)+1+1+1 by omega];simp only[List.set_cons_succ];rw[ih k (by simpa using hk)]
theorem Wm(l:List ((Int×ByteArray)×Value))(k:Nat)(m:Int)(s:ByteArray)(hk:k<l.length):((Bw l).set (k*3) (.int .i64 m)).set (k*3+1) (.string s)=Bw (l.set k ((m,s),(l.getD k ((0,⟨#[]⟩),.slice none 0 0)).2)):=by
 induction l generalizing k with
 |nil=>simp at hk
 | cons p l ih=>
  cases k with
  |zero=>simp[Dr]
  |succ k=>
   rw[List.set_cons_succ,Dr,Dr,show(k+1)*3=k*3+1+1+1 by omega,show k*3+1+1+1+1=(k*3+1)+1+1+1 by omega];simp only[List.set_cons_succ];rw[ih k (by simpa using hk)];simp
theorem WY(ps:List Pt)(vs:List Value)(k:Nat)(x:Pt)(u:Value)(hl:vs.length=ps.length):((ps.set k x).map QZ).zip (vs.set k u)=((ps.map QZ).zip vs).set k (QZ x,u):=by
 apply List.ext_getElem?
 intro j;by_cases hj:j<ps.length
 ·rw[List.getElem?_eq_getElem (by simp;omega),List.getElem?_eq_getElem (by simp;omega)];rw[List.getElem_set];by_cases e:k=j
  ·subst e;simp
  simp[e]
 rw[List.getElem?_eq_none (by simp;omega),List.getElem?_eq_none (by simp;omega)]
theorem fJ(vs:List Value)(k:Nat)(hk:k<vs.length):vs.set k (vs.getD k (.slice none 0 0))=vs:=by
 apply List.ext_getElem?
 intro j;rw[List.getElem?_set]
 split
 ·rename_i e;subst e;simp[hk]
 rfl
theorem dm{w:World}{base g cap k:Nat}{ps:List Pt}{vs:List Value}{m:Int}{s:ByteArray}{u:Value}{xs:List Int}(h:De w base (.slice (some ⟨g,0,none⟩) ps.length cap) ps vs)(hk:k<ps.length)(hu:OI w base u xs)
 (hap:∀j,j<ps.length→j≠k→∀b,(vs.getD j (.slice none 0 0)).ownBlock=some b→u.ownBlock≠some b):
 De (((w.setCell ⟨g,k*3,none⟩ (.int .i64 m)).setCell ⟨g,k*3+1,none⟩ (.string s)).setCell ⟨g,k*3+2,none⟩ u) base (.slice (some ⟨g,0,none⟩) ps.length cap) (ps.set k (m,s,xs)) (vs.set k u):=by
 have hz:((ps.map QZ).zip vs).length=ps.length:=by simp[h.len]
 have K:Kp w (((w.setCell ⟨g,k*3,none⟩ (.int .i64 m)).setCell ⟨g,k*3+1,none⟩ (.string s)).setCell ⟨g,k*3+2,none⟩ u) (fun b=>b=g):=((AJ _ _ _ _).trans (AJ _ _ _ _)).trans (AJ _ _ _ _)
 have keep:∀(x:Value)(zs:List Int),OI w base x zs→OI (((w.setCell ⟨g,k*3,none⟩ (.int .i64 m)).setCell ⟨g,k*3+1,none⟩ (.string s)).setCell ⟨g,k*3+2,none⟩ u) base x zs:=fun x zs hx=>
  hx.kp K (fun b hb e=>WZ h.row hx g rfl (by rw[←e];exact hb))
 refine⟨by simp[h.len],?_,fun j hj=>?_,fun i j hij hj b hb=>?_⟩
 ·rw[List.length_set,WY ps vs k _ u h.len,show QZ (m,s,xs)=(m,s) from rfl,←Wl _ k m s u (by omega)];exact(((h.row.stored (k*3) _).1.stored (k*3+1) _).1.stored (k*3+2) _).1
 ·rw[List.length_set]at hj;by_cases e:k=j
  ·subst e;have e1:(ps.set k (m,s,xs)).getD k BQ=(m,s,xs):=by simp[hk]
   have e2:(vs.set k u).getD k (.slice none 0 0)=u:=by simp[h.len,hk]
   rw[e1,e2];exact keep _ _ hu
  have e1:(ps.set k (m,s,xs)).getD j BQ=ps.getD j BQ:=by simp[e]
  have e2:(vs.set k u).getD j (.slice none 0 0)=vs.getD j (.slice none 0 0):=by simp[e]
  rw[e1,e2];exact keep _ _ (h.each j hj)
 rw[List.length_set]at hj;by_cases e:k=i
 ·subst e;have e1:(vs.set k u).getD k (.slice none 0 0)=u:=by simp[h.len,hk]
  have e2:(vs.set k u).getD j (.slice none 0 0)=vs.getD j (.slice none 0 0):=by simp[show k≠j by omega]
  rw[e1]at hb;rw[e2];intro e3;exact hap j hj (by omega) b e3 hb
 by_cases e':k=j
 ·subst e';have e1:(vs.set k u).getD k (.slice none 0 0)=u:=by simp[h.len,hk]
  have e2:(vs.set k u).getD i (.slice none 0 0)=vs.getD i (.slice none 0 0):=by simp[e]
  rw[e2]at hb;rw[e1];exact hap i (by omega) (by omega) b hb
 have e1:(vs.set k u).getD i (.slice none 0 0)=vs.getD i (.slice none 0 0):=by simp[e]
 have e2:(vs.set k u).getD j (.slice none 0 0)=vs.getD j (.slice none 0 0):=by simp[e']
 rw[e1]at hb;rw[e2];exact h.apart i j hij hj b hb
theorem nT{w w1 w2:World}{base g n cap k:Nat}{ps:List Pt}{vs:List Value}{m:Int}{s:ByteArray}{xs:List Int}(h:De w base (.slice (some ⟨g,0,none⟩) n cap) ps vs)(hk:k<ps.length)
 (t:w1.ownsRow base 72 3 (.slice (some ⟨g,0,none⟩) n cap) ps.length (((Bw ((ps.map QZ).zip vs)).set (k*3) (.int .i64 m)).set (k*3+1) (.string s))) (g1:Kp w w1 (fun b=>b=g))
 (o2:OI w2 base (vs.getD k (.slice none 0 0)) xs) (g2:w1.grownBy w2 (vs.getD k (.slice none 0 0)).ownBlock):De w2 base (.slice (some ⟨g,0,none⟩) n cap) (ps.set k (m,s,xs)) vs:=by
 have hz:((ps.map QZ).zip vs).length=ps.length:=by simp[h.len]
 have AAq:∀j,j<ps.length→OI w1 base (vs.getD j (.slice none 0 0)) (ps.getD j BQ).2.2:=fun j hj=>
  (h.each j hj).kp g1 (fun b hb e=>WZ h.row (h.each j hj) g rfl (by rw[←e];exact hb))
 refine⟨by simp[h.len],?_,fun j hj=>?_,fun i j hij hj=>h.apart i j hij (by simpa using hj)⟩
 ·have ev:vs=vs.set k (vs.getD k (.slice none 0 0)):=(fJ vs k (by rw[h.len];exact hk)).symm;rw[List.length_set]
  have e:((ps.set k (m,s,xs)).map QZ).zip vs=((ps.map QZ).zip vs).set k ((m,s),vs.getD k (.slice none 0 0)):=by
   conv=>lhs;rw[ev]
   exact WY ps vs k _ _ h.len
  have e2:(((ps.map QZ).zip vs).getD k ((0,⟨#[]⟩),.slice none 0 0)).2=vs.getD k (.slice none 0 0):=by rw[QQ ps vs h.len k hk]
  rw[e,←e2,←Wm _ k m s (by omega)];refine World.ownsRow.kept t g2 (.inr fun e=>?_);exact WZ t (AAq k hk) g rfl (by rw[←e];rfl)
 rw[List.length_set]at hj;by_cases e:k=j
 ·subst e;have:(ps.set k (m,s,xs)).getD k BQ=(m,s,xs):=by simp[hk]
  rw[this];exact o2
 have:(ps.set k (m,s,xs)).getD j BQ=ps.getD j BQ:=by simp[e]
 rw[this];refine World.ownsRow.kept (AAq j hj) g2 ?_;cases hv:(vs.getD j (.slice none 0 0)).ownBlock with
 |none=>exact .inl rfl
 |some b=>
  refine .inr fun e2=>?_;rcases Nat.lt_or_ge k j with h3|h3
  ·exact h.apart k j h3 hj b e2.symm hv
  exact h.apart j k (by omega) hk b hv e2.symm
end
section
open Go.RowKit
variable [∀(a b c d:Int),Decidable (BK a b c d)] [∀(n f:Int),Decidable (A9 n f)]
theorem NY(n:Nat):(madeCells (qv 0 ⟨#[]⟩ (.slice none 0 0)).cells (n*3)).toList=Bw (List.replicate n ((0,⟨#[]⟩),.slice none 0 0)):=by
 apply List.ext_getElem?
 intro i;by_cases hi:i<n*3
 ·have h:=Kb (List.replicate n ((0,⟨#[]⟩),.slice none 0 0)) (i/3) (i%3) (by simp;omega) (by omega);rw[show i/3*3+i%3=i by omega]at h;have hr:(List.replicate n (((0:Int),(⟨#[]⟩:ByteArray)),Value.slice none 0 0)).getD (i/3) ((0,⟨#[]⟩),.slice none 0 0)=((0,⟨#[]⟩),.slice none 0 0):=by simp[show i/3<n by omega]
  rw[h,hr];have hc:(qv 0 ⟨#[]⟩ (.slice none 0 0)).cells= #[.int .i64 0,.string ⟨#[]⟩,.slice none 0 0]:=by rfl
  rw[hc];have h3:i%3=0∨i%3=1∨i%3=2:=by omega
  have he:(madeCells #[Value.int .i64 0,.string ⟨#[]⟩,.slice none 0 0] (n*3)).toList[i]? =some (#[Value.int .i64 0,.string ⟨#[]⟩,.slice none 0 0][i%3]!):=by
   simp[madeCells,hi]
  rw[he];rcases h3 with e|e|e<;>rw[e]<;>rfl
 rw[List.getElem?_eq_none (by rw[Array.length_toList,size_madeCells];omega),List.getElem?_eq_none (by rw[Ib];simp;omega)]
theorem Ws{w:World}{base n:Nat}{v:Value}(h:w.ownsRow base 72 3 v n (Bw (List.replicate n ((0,⟨#[]⟩),.slice none 0 0)))):De w base v (List.replicate n BQ) (List.replicate n (.slice none 0 0)):=by
 refine⟨by simp,?_,fun k hk=>?_,fun i j hij hj b hb=>?_⟩
 ·rw[List.length_replicate,List.map_replicate,List.zip_replicate'];exact h
 ·rw[List.length_replicate]at hk;have e1:(List.replicate n (Value.slice none 0 0)).getD k (.slice none 0 0)= .slice none 0 0:=by simp[hk]
  have e2:(List.replicate n BQ).getD k BQ=BQ:=by simp[hk]
  rw[e1,e2];exact World.ownsRow_nil _ _ _ _
 rw[List.length_replicate]at hj;have e1:(List.replicate n (Value.slice none 0 0)).getD i (.slice none 0 0)= .slice none 0 0:=by simp[show i<n by omega]
 rw[e1]at hb;simp[Value.ownBlock]at hb
def Ci(ps:List Pt)(k:Nat):List Pt:=ps.take k++List.replicate (ps.length-k) BQ
theorem QV(ps:List Pt)(k:Nat)(h:k≤ps.length):(Ci ps k).length=ps.length:=by simp[Ci];omega
theorem QT(ps:List Pt)(k:Nat)(h:k<ps.length):(Ci ps k).set k (ps.getD k BQ)=Ci ps (k+1):=by
 have e:ps.length-k=(ps.length-(k+1))+1:=by omega
 have hk:(ps.take k).length=k:=by simp;omega
 unfold Ci;rw[List.take_succ_eq_append_getElem h,e,List.replicate_succ,List.set_append_right _ _ (by omega),hk,Nat.sub_self,List.set_cons_zero,List.append_assoc,List.getD_eq_getElem?_getD,List.getElem?_eq_getElem h];rfl

theorem Vv(v:Value)(ps:List Pt)(w:World)(hl:ps.length≤1048577)(h:PL w v ps):
 Calls Tryz.prog 36 #[v] w fun e w'=>∃u,e= .returned u∧NK w' w.heap.size u ps∧Below w.heap.size w w':=by
 obtain⟨i0,hi,hz0,hz1,hz2⟩:=info_parts Tryz.infoPt;obtain⟨ao,ca,rfl⟩:=h.form;have H:=hide h;obtain⟨n,hn⟩:∃n,ps.length=n:=⟨_,rfl⟩
 have Hn:=hide hn;rw[hn]at hl H⊢;clear h hn;go_enter Tryz.func36,Tryz.ntmps36
 go_wp2_with (first|(at_make;refine wpList_make_full _ rfl _ _ 42 rfl w.heap.size 72 i0 (qv 0 ⟨#[]⟩ (.slice none 0 0)) 3 Tryz.underlying42 hi hz0 hz1 .i64 .i64 _ _ n rfl rfl rfl rfl (by rw[hz2];omega) (by unfold maxLen;omega) Af ?_;intro w0 ho0 hg0))
 have T0:De w0 w.heap.size (.slice (some ⟨w.heap.size,0,none⟩) n n) (Ci ps 0) (List.replicate n (.slice none 0 0)):=by
  rw[NY]at ho0;have:=Ws ho0;simpa[Ci,Hn.out]using this
 have B0:Below w.heap.size w w0:=(Below.refl _ _).grown hg0 Af (by simp);clear ho0 hg0 hz0 hz1 hz2 hi
 go_loopw [4] (fun i wr=>∃(k:Nat)(vs:List Value),k≤n∧i= .int .i64 k∧De wr w.heap.size (.slice (some ⟨w.heap.size,0,none⟩) n n) (Ci ps k) vs∧Below w.heap.size w wr) (fun i _=>n-(intOf i).toNat)
 case atStart=>exact⟨0,_,Nat.zero_le _,rfl,T0,B0⟩
 case round=>
  clear T0;obtain⟨k,vs,hk,rfl,T,br⟩:=hrel;by_cases hlt:k<n
  ·have hkx:k<ps.length:=by have:=Hn.out;omega
   have hlen:=QV ps k (by omega);have HR:=H.out.below br;obtain⟨g,off,u,rfl,c0,c1,c2,ru⟩:=HR.at k hkx;have HS:=hide (QT ps k hkx);obtain⟨x,hx⟩:∃x,ps.getD k BQ=x:=⟨_,rfl⟩
   rw[hx]at c0 c1 ru HS;clear hx;obtain⟨m,s,xs⟩:=x;simp only at c0 c1 ru;have TP:=hide fun w h=>Pv m s u xs w h;obtain⟨ua,uc,rfl⟩:=ru.form;have RU:=hide ru;have HT:=hide T;generalize xs.length=xl at *;clear HR H ru T;go_wp2_with fail
   refine(TP.out _ RU.out).mono ?_;rintro e w2 ⟨u2,rfl,o2,b2⟩;have T2:=HT.out.below b2;have B2:=bu br b2;have MC:=World.ownsRow.lt o2;have hrow:=T2.row;rw[hlen,Hn.out]at hrow;have J6:(Bw (((Ci ps k).map QZ).zip vs)).length=n*3:=by rw[Ib];simp[T2.len,hlen,Hn.out]
   have gt:∀j,j<n*3→∃u,w2.cell? ⟨w.heap.size,j,none⟩=some u:=fun j hj=>⟨_,(hrow.cellAt j hj).trans (List.getElem?_eq_getElem (by rw[J6];exact hj))⟩
   obtain⟨y0,d0⟩:=gt (k*3) (by omega);obtain⟨y1,d1⟩:=gt (k*3+1) (by omega);obtain⟨y2,d2⟩:=gt (k*3+2) (by omega);have f0:=hrow.frozenAt (k*3);have f1:=hrow.frozenAt (k*3+1);have f2:=hrow.frozenAt (k*3+2)
   have R:=hide (show De (((w2.setCell ⟨w.heap.size,k*3,none⟩ (.int .i64 m)).setCell ⟨w.heap.size,k*3+1,none⟩ (.string s)).setCell ⟨w.heap.size,k*3+2,none⟩ u2) w.heap.size (.slice (some ⟨w.heap.size,0,none⟩) n n) (Ci ps (k+1)) (vs.set k u2) by
    have T3:=T2;have en:n=(Ci ps k).length:=by rw[hlen,Hn.out]
    rw[←HS.out]
    have:=dm (m:=m) (s:=s) (u:=u2) (xs:=xs) (k:=k) (cap:=n) (g:=w.heap.size) (w:=w2) (base:=w.heap.size) (ps:=Ci ps k) (vs:=vs) (by rw[←en];exact T3) (by rw[hlen];exact hkx) (OI.mono o2 br.size) (fun j hj _ b hb e=>by
     have h1:=World.ownsRow.lt (HT.out.each j hj) b hb;have h2:=MC b e;omega)
    rw[←en]at this;exact this)
   have BR:=hide (((B2.setCell (p:=⟨w.heap.size,k*3,none⟩) Af (.int .i64 m)).setCell (p:=⟨w.heap.size,k*3+1,none⟩) Af (.string s)).setCell (p:=⟨w.heap.size,k*3+2,none⟩) Af u2);obtain⟨va,vc,rfl⟩:=o2.form;generalize xs.length=zl at *;clear T2 B2 hrow J6 gt o2 MC HT TP RU c0 c1 c2;go_wp2
   go_roundw
   case rel=>exact⟨k+1,_,by omega,by go_num,R.out,BR.out⟩
   case measure=>simp[intOf];omega
  have hkn:Ci ps k=ps:=by
   have:=Hn.out;unfold Ci;rw[List.take_of_length_le (by omega),show ps.length-k=0 by omega];simp
  rw[hkn]at T;have T':=hide T;clear T hkn H;go_wp2;go_ret;exact⟨_,rfl,⟨_,T'.out⟩,br⟩
end
section
open Go.RowKit
abbrev sv(vo lo n:Int)(s:ByteArray)(v:Value)(d:ByteArray):Value:= .agg #[.int .i64 vo,.int .i64 lo,.int .i64 n,.string s,v,.string d]

theorem Qu(vo lo n:Int)(s:ByteArray)(a b:Value)(xs:List Int)(d:ByteArray)(w:World)(ha:RI w a xs)(hb:RI w b xs):
 Calls Tryz.prog 18 #[sv vo lo n s a d,sv vo lo n s b d] w fun e w'=>e= .returned (.bool true)∧Below w.heap.size w w':=by
 obtain⟨w0,hw0⟩:∃w0,(w.alloc (.cells #[.int .i64 vo,.int .i64 lo,.int .i64 n,.string s,a,.string d] 40)).alloc (.cells #[.int .i64 vo,.int .i64 lo,.int .i64 n,.string s,b,.string d] 40)=w0:=⟨_,rfl⟩
 have B0:Below w.heap.size w w0:=hw0▸Bn _ _ _;have LA:Loc w0 w.heap.size #[.int .i64 vo,.int .i64 lo,.int .i64 n,.string s,a,.string d]:=hw0▸(AB w _ _ rfl).alloc _;have LB:Loc w0 (w.heap.size+1) #[.int .i64 vo,.int .i64 lo,.int .i64 n,.string s,b,.string d]:=hw0▸AB (w.alloc _) _ _ (by simp);have EQ:=hide (Qv n s a b xs w0 (ha.below B0) (hb.below B0));have HA:=hide LA;have HB:=hide LB;have x0:=LA.cell 0 rfl;have x1:=LA.cell 1 rfl;have x2:=LA.cell 2 rfl;have x3:=LA.cell 3 rfl;have x4:=LA.cell 4 rfl;have x5:=LA.cell 5 rfl;have y0:=LB.cell 0 rfl;have y1:=LB.cell 1 rfl;have y2:=LB.cell 2 rfl;have y3:=LB.cell 3 rfl;have y4:=LB.cell 4 rfl;have y5:=LB.cell 5 rfl;clear ha hb LA LB;go_enter Tryz.func18,Tryz.ntmps18
 go_wp2_with fail
 clear hw0;refine EQ.out.mono ?_;rintro e w1 ⟨rfl,b1⟩;have A1:=(HA.out.below b1 HA.out.lt).cell 5 rfl;have C1:=(HB.out.below b1 HB.out.lt).cell 5 rfl;have B1:=bu B0 b1;clear b1 x0 y0 x1 y1 x2 y2 x3 y3 x4 y4 x5 y5 EQ HA HB;go_wp2;go_ret;exact⟨rfl,B1⟩

theorem L9(vo lo n:Int)(s:ByteArray)(base:Nat)(v:Value)(d:ByteArray)(xs:List Int)(k0:Nat)(w:World)(hl:xs.length≤4194304)(hk:k0≤100000000)(h:OI w base v xs):
 Calls Tryz.prog 19 #[sv vo lo n s v d,.int .i64 k0] w fun e w'=>e= .returned (.int .i64 (k0+xs.length))∧OI w' base v (BP k0 xs.length)∧Kp w w' (fun k=>v.ownBlock=some k):=by
 have B:=hide (Ac w (.cells #[.int .i64 vo,.int .i64 lo,.int .i64 n,.string s,v,.string d] 40));have H:=hide (h.below B.out);have MK:=hide fun w h=>ZZ n s base v xs k0 w hl hk h;clear h;go_enter Tryz.func19,Tryz.ntmps19
 go_wp2_with fail
 refine(MK.out _ H.out).mono ?_;rintro e w1 ⟨rfl,o1,k1⟩;have K:=(Below.Bf B.out (fun k=>v.ownBlock=some k)).trans k1;go_wp2;go_ret;exact⟨rfl,o1,K⟩

theorem FV(vo lo n:Int)(s:ByteArray)(ao:Option Addr)(k ca:Nat)(d:ByteArray)(left:Int)(w:World)(h:(s.size:Int)+k+d.size≤left)(hl:left≤1048576):
 Calls Tryz.prog 14 #[sv vo lo n s (.slice ao k ca) d,.int .i64 left] w fun e w'=>e= .returned (.int .i64 (left-s.size-k-d.size))∧Below w.heap.size w w':=by
 have h2:decide ((left:Int)-(s.size:Int)-(k:Int)<0)=false:=by simp;omega
 have h1:decide ((left:Int)-(s.size:Int)-(k:Int)-(d.size:Int)<0)=false:=by simp;omega
 have ZQ:=hide fun w=>Le n s ao k ca left w (by omega) (by omega);obtain⟨w0,hw0⟩:∃w0,w.alloc (.cells #[.int .i64 vo,.int .i64 lo,.int .i64 n,.string s,.slice ao k ca,.string d] 28)=w0:=⟨_,rfl⟩
 have B0:Below w.heap.size w w0:=hw0▸Ac _ _;have LA:Loc w0 w.heap.size #[.int .i64 vo,.int .i64 lo,.int .i64 n,.string s,.slice ao k ca,.string d]:=hw0▸AB w _ _ rfl;have HA:=hide LA;have x0:=LA.cell 0 rfl;have x1:=LA.cell 1 rfl;have x2:=LA.cell 2 rfl;have x3:=LA.cell 3 rfl;have x4:=LA.cell 4 rfl;have x5:=LA.cell 5 rfl;clear LA;go_enter Tryz.func14,Tryz.ntmps14
 go_wp2_with fail
 clear hw0;refine(ZQ.out _).mono ?_;rintro e w1 ⟨rfl,b1⟩;have A1:=(HA.out.below b1 HA.out.lt).cell 5 rfl;have B1:=bu B0 b1;clear b1 x0 x1 x2 x3 x4 x5 HA;go_wp2;go_ret;exact⟨rfl,B1⟩
theorem Yf(vo lo n:Int)(s:ByteArray)(ao:Option Addr)(k ca:Nat)(d:ByteArray)(left:Int)(w:World)(h0:0≤left)(h:left<s.size+k)(hs:s.size≤9223372036854775807)(hk:k≤9223372036854775807)(hl:left≤1048576):
 Calls Tryz.prog 14 #[sv vo lo n s (.slice ao k ca) d,.int .i64 left] w fun e w'=>e= .returned (.int .i64 (-1))∧Below w.heap.size w w':=by
 have ZQ:=hide fun w=>UH n s ao k ca left w (by omega) (by omega) hs hk (by omega);obtain⟨w0,hw0⟩:∃w0,w.alloc (.cells #[.int .i64 vo,.int .i64 lo,.int .i64 n,.string s,.slice ao k ca,.string d] 28)=w0:=⟨_,rfl⟩
 have B0:Below w.heap.size w w0:=hw0▸Ac _ _;have LA:Loc w0 w.heap.size #[.int .i64 vo,.int .i64 lo,.int .i64 n,.string s,.slice ao k ca,.string d]:=hw0▸AB w _ _ rfl;have HA:=hide LA;have x0:=LA.cell 0 rfl;have x1:=LA.cell 1 rfl;have x2:=LA.cell 2 rfl;have x3:=LA.cell 3 rfl;have x4:=LA.cell 4 rfl;have x5:=LA.cell 5 rfl;clear LA;go_enter Tryz.func14,Tryz.ntmps14
 go_wp2_with fail
 clear hw0;refine(ZQ.out _).mono ?_;rintro e w1 ⟨rfl,b1⟩;have A1:=(HA.out.below b1 HA.out.lt).cell 5 rfl;have B1:=bu B0 b1;clear b1 x0 x1 x2 x3 x4 x5 HA;go_wp2;go_ret;exact⟨rfl,B1⟩
theorem Ye(vo lo n:Int)(s:ByteArray)(ao:Option Addr)(k ca:Nat)(d:ByteArray)(left:Int)(w:World)(h0:(s.size:Int)+k≤left)(h:left<s.size+k+d.size)(hd:d.size≤9223372036854775807)(hl:left≤1048576):
 Calls Tryz.prog 14 #[sv vo lo n s (.slice ao k ca) d,.int .i64 left] w fun e w'=>e= .returned (.int .i64 (-1))∧Below w.heap.size w w':=by
 have h2:decide ((left:Int)-(s.size:Int)-(k:Int)<0)=false:=by simp;omega
 have h1:decide ((left:Int)-(s.size:Int)-(k:Int)-(d.size:Int)<0)=true:=by simp;omega
 have ZQ:=hide fun w=>Le n s ao k ca left w (by omega) (by omega);obtain⟨w0,hw0⟩:∃w0,w.alloc (.cells #[.int .i64 vo,.int .i64 lo,.int .i64 n,.string s,.slice ao k ca,.string d] 28)=w0:=⟨_,rfl⟩
 have B0:Below w.heap.size w w0:=hw0▸Ac _ _;have LA:Loc w0 w.heap.size #[.int .i64 vo,.int .i64 lo,.int .i64 n,.string s,.slice ao k ca,.string d]:=hw0▸AB w _ _ rfl;have HA:=hide LA;have x0:=LA.cell 0 rfl;have x1:=LA.cell 1 rfl;have x2:=LA.cell 2 rfl;have x3:=LA.cell 3 rfl;have x4:=LA.cell 4 rfl;have x5:=LA.cell 5 rfl;clear LA;go_enter Tryz.func14,Tryz.ntmps14
 go_wp2_with fail
 clear hw0;refine(ZQ.out _).mono ?_;rintro e w1 ⟨rfl,b1⟩;have A1:=(HA.out.below b1 HA.out.lt).cell 5 rfl;have B1:=bu B0 b1;clear b1 x0 x1 x2 x3 x4 x5 HA;go_wp2;go_ret;exact⟨rfl,B1⟩
theorem SY(vo lo n:Int)(s:ByteArray)(ao:Option Addr)(k ca:Nat)(d:ByteArray)(left:Int)(w:World)(h0:0≤left)(h:left<s.size+k+d.size)(hs:s.size≤9223372036854775807)(hk:k≤9223372036854775807)(hd:d.size≤9223372036854775807)(hl:left≤1048576):
 Calls Tryz.prog 14 #[sv vo lo n s (.slice ao k ca) d,.int .i64 left] w fun e w'=>e= .returned (.int .i64 (-1))∧Below w.heap.size w w':=by
 by_cases h1:left<(s.size:Int)+k
 ·exact Yf vo lo n s ao k ca d left w h0 h1 hs hk hl
 exact Ye vo lo n s ao k ca d left w (by omega) h hd hl

abbrev zs6:Array Value:= #[.int .i64 0,.int .i64 0,.int .i64 0,.string ⟨#[]⟩,.slice none 0 0,.string ⟨#[]⟩]
theorem kp6(w:World)(g:Nat)(a b c d e f:Value):Kp w ((((((w.setCell ⟨g,0,none⟩ a).setCell ⟨g,1,none⟩ b).setCell ⟨g,2,none⟩ c).setCell ⟨g,3,none⟩ d).setCell ⟨g,4,none⟩ e).setCell ⟨g,5,none⟩ f) (fun k=>k=g):=
 (((((AJ _ _ _ _).trans (AJ _ _ _ _)).trans (AJ _ _ _ _)).trans (AJ _ _ _ _)).trans (AJ _ _ _ _)).trans (AJ _ _ _ _)
theorem Pq(vo lo n:Int)(s:ByteArray)(a:Value)(xs:List Int)(d:ByteArray)(w:World)(ha:RI w a xs):
 Calls Tryz.prog 16 #[sv vo lo n s a d] w fun e w'=>∃u,e= .returned (sv vo lo n s u d)∧OI w' w.heap.size u xs∧Below w.heap.size w w':=by
 obtain⟨w0,hw0⟩:∃w0,((w.alloc (.cells #[.int .i64 vo,.int .i64 lo,.int .i64 n,.string s,a,.string d] 28)).alloc (.cells zs6 40)).alloc (.cells #[.int .i64 vo,.int .i64 lo,.int .i64 0,.string ⟨#[]⟩,.slice none 0 0,.string ⟨#[]⟩] 40)=w0:=⟨_,rfl⟩
 have B0:Below w.heap.size w w0:=hw0▸((Bn _ _ _).alloc (by simp;omega) _);have LZ:Loc w0 (w.heap.size+1) zs6:=hw0▸(AB (w.alloc _) _ _ (by simp)).alloc _;have LO:Loc w0 (w.heap.size+1+1) #[.int .i64 vo,.int .i64 lo,.int .i64 0,.string ⟨#[]⟩,.slice none 0 0,.string ⟨#[]⟩]:=hw0▸AB ((w.alloc _).alloc _) _ _ (by simp);have s0:w0.heap.size=w.heap.size+1+1+1:=by rw[←hw0];simp
 have LA:Loc w0 w.heap.size #[.int .i64 vo,.int .i64 lo,.int .i64 n,.string s,a,.string d]:=hw0▸((AB w _ _ rfl).alloc _).alloc _;have p0:=LA.cell 0 rfl;have p1:=LA.cell 1 rfl;have p2:=LA.cell 2 rfl;have p3:=LA.cell 3 rfl;have p4:=LA.cell 4 rfl;have p5:=LA.cell 5 rfl;have TQ:=hide (Ps n s a xs w0 (ha.below B0));have HZ:=hide LZ;have HO:=hide LO;have HA:=hide LA;clear ha LZ LO LA;go_enter Tryz.func16,Tryz.ntmps16
 go_wp2_with fail
 clear hw0;refine TQ.out.mono ?_;rintro e w1 ⟨u,rfl,o1,b1⟩;have B1:Below w.heap.size w w1:=bu B0 b1;have Z1:=HZ.out.below b1 HZ.out.lt;have O1:=HO.out.below b1 HO.out.lt;have A1:=HA.out.below b1 HA.out.lt;have y0:=Z1.cell 0 rfl;have y1:=Z1.cell 1 rfl;have y2:=Z1.cell 2 rfl;have y3:=Z1.cell 3 rfl;have y4:=Z1.cell 4 rfl;have y5:=Z1.cell 5 rfl;have fy:=Z1.frozen;have x0:=O1.cell 0 rfl;have x1:=O1.cell 1 rfl;have x2:=O1.cell 2 rfl;have x3:=O1.cell 3 rfl;have x4:=O1.cell 4 rfl;have x5:=O1.cell 5 rfl;have fx:=O1.frozen;have a5:=A1.cell 5 rfl;have dw:=World.ownsRow.lt o1;obtain⟨ua,uc,rfl⟩:=o1.form;have H1:=hide o1;clear o1 b1 Z1 O1 A1 HZ HO HA TQ p0 p1 p2 p3 p4 p5;go_wp2;refine bodyPost_ret (v:=sv vo lo n s (.slice ua xs.length uc) d) (by simp[results,Tryz.results16,go_sem,y0,y1,y2,y3,y4,y5]) rfl ?_;have K:Kp w1 _ (fun k=>k=w.heap.size+1∨k=w.heap.size+1+1):=(((((((((((Kp.same w1 _).put (g:=w.heap.size+1+1) (.inr rfl) 2 (.int .i64 n)).put (g:=w.heap.size+1+1) (.inr rfl) 3 (.string s)).put (g:=w.heap.size+1+1) (.inr rfl) 4 (.slice ua xs.length uc)).put (g:=w.heap.size+1+1) (.inr rfl) 5 (.string d)).put (g:=w.heap.size+1) (.inl rfl) 0 (.int .i64 vo)).put (g:=w.heap.size+1) (.inl rfl) 1 (.int .i64 lo)).put (g:=w.heap.size+1) (.inl rfl) 2 (.int .i64 n)).put (g:=w.heap.size+1) (.inl rfl) 3 (.string s)).put (g:=w.heap.size+1) (.inl rfl) 4 (.slice ua xs.length uc)).put (g:=w.heap.size+1) (.inl rfl) 5 (.string d))
 exact⟨_,rfl,(H1.out.kp K (fun k hk=>by have:=dw k hk;omega)).mono (by omega),Below.kp B1 K B1.size (fun k hk=>by omega)⟩
theorem yG(va vb:Value)(xs:List Int)(w:World)(ha:RB w va xs)(hb:RB w vb xs):
 Calls Tryz.prog 107 #[va,vb] w fun e w'=>e= .returned (.bool true)∧∃n,w'=w.drewN n:=by
 obtain⟨hl,ao,ca,rfl,_,ha⟩:=ha;obtain⟨_,bo,cb,rfl,_,hb⟩:=hb;generalize hn:xs.length=n at *;have Hn:Hid (xs.length=n):=hn;clear hn;go_enter Tryz.func107,Tryz.ntmps107
 go_wp2
 go_loopw [5] (fun i wr=>∃k:Nat,k≤n∧i= .int .i64 k∧∃m,wr=w.drewN m) (fun i _=>n-(intOf i).toNat)
 case atStart=>exact⟨0,Nat.zero_le _,rfl,0,rfl⟩
 case round=>
  obtain⟨k,hk,rfl,m,rfl⟩:=hrel;by_cases hlt:k<n
  ·rcases ha with ha|⟨b,off,rfl,ha⟩
   ·subst ha;have:=Hn.out;simp at this;omega
   rcases hb with hb|⟨b',off',rfl,hb⟩
   ·subst hb;have:=Hn.out;simp at this;omega
   have ha':=ha k hlt;have hb':=hb k hlt;clear ha hb;go_wp2_with fail
   go_quiet (fail)
   go_wp2
   go_roundw
   case rel=>exact⟨k+1,by omega,by go_num,_,rfl⟩
   case measure=>simp[intOf];omega
  clear ha hb;go_wp2;go_ret;exact⟨rfl,_,rfl⟩
end
end Go.Proofs.YtcjmcgolgbkknaaGreatDoor
