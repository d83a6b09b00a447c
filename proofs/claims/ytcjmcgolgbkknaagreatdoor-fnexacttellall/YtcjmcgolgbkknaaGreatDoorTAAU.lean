/- Lemmas, as stated. -/
import Derived.Test.YtcjmcgolgbkknaaGreatDoorTAAT
import Derived.Shelf.RegionOpen
import Derived.OwnWalkIn
import Derived.LoopNIn
import Derived.LoopIn
import Derived.Laws.AppendOwnNone
set_option maxRecDepth 100000
set_option maxHeartbeats 8000000
set_option linter.unusedSectionVars false
namespace Go.Proofs.YtcjmcgolgbkknaaGreatDoor
section
open Go.RowKit
variable [∀(a b c d:Int),Decidable (BG a b c d)] [∀(a b c d:Nat),Decidable (DZ a b c d)] [∀(last:Int)(s:St),Decidable (Aq last s)] [∀(x:T4),Decidable (Du x)]
theorem UF(s:ByteArray):BU s.data.toList=s:=Tf (BA _)
theorem Y8(p:UInt8→Bool)(t:List UInt8):t.take (t.takeWhile p).length=t.takeWhile p∧t.drop (t.takeWhile p).length=t.dropWhile p:=by
 have h:=List.takeWhile_append_dropWhile (p:=p) (l:=t);generalize t.takeWhile p=x at *;generalize t.dropWhile p=y at *;rw[←h];simp
theorem qQ(p:UInt8→Bool)(t:List UInt8)(h:∀y ∈ t,p y=true):t.takeWhile p=t:=by
 induction t with
 |nil=>rfl
 |cons c t ih=>rw[List.takeWhile_cons,if_pos (h c (by simp)),ih fun y hy=>h y (by simp[hy])]
theorem jX{s:ByteArray}(h:s.data.toList≠[])(h2:(47:UInt8) ∈ (s.extract 1 s.size).data.toList):∃k:Nat,k+1<s.size∧((s.extract 1 s.size).data.toList.takeWhile (·!= 47)).length=k∧s.extract 0 (k+1)=BU (pc s.data.toList)∧s.extract (k+1) s.size=BU (rs s.data.toList):=by
 have hl:s.data.toList.length=s.size:=by simp
 rw[KM,BA]at h2⊢;generalize hll:s.data.toList=l at *;cases l with
 |nil=>exact absurd rfl h
 | cons c t=>
  simp only[List.drop_succ_cons,List.drop_zero]at h2⊢;have h1:=List.takeWhile_append_dropWhile (p:=(·!= (47:UInt8))) (l:=t);have h3:=congrArg List.length h1;rw[List.length_append]at h3
  have h4:t.dropWhile (·!= 47)≠[]:=fun e=>by
   rw[e,List.append_nil]at h1;have:=(List.all_takeWhile (p:=(·!= (47:UInt8))) (l:=t))
   rw[h1]at this;have:=List.all_eq_true.1 this 47 h2;simp at this
  have h5:0<(t.dropWhile (·!= 47)).length:=List.length_pos_iff.2 h4;simp only[List.length_cons]at hl;refine⟨_,by omega,rfl,?_,?_⟩
  ·rw[Kl,hll]
   congr 1
   simp only[pc,Nat.sub_zero,List.drop_zero,List.take_succ_cons];rw[(Y8 _ t).1]
  rw[KM,hll]
  congr 1
  simp only[rs,List.drop_succ_cons];exact(Y8 _ t).2

theorem V3(s:ByteArray)(w:World)(hs:s.size≤33554432)(hne:s.data.toList≠[]):
 Calls Tryz.prog 235 #[.string s] w fun e w'=>e= .returned (.tuple #[.string (BU (pc s.data.toList)),.string (BU (rs s.data.toList))])∧Below w.heap.size w w':=by
 have IX:=hide fun w=>X3 47 (s.extract 1 s.size) w
 have h1:1≤s.size:=by
  have hl:s.data.toList.length=s.size:=by simp
  have:=List.length_pos_iff.2 hne;omega
 rcases Vl 47 (s.extract 1 s.size).data.toList with⟨h2,h3⟩|⟨h2,h3⟩
 ·rw [h3]at IX
  have e1:BU (pc s.data.toList)=s∧rs s.data.toList=[]:=by
   rw[KM,BA]at h2;generalize hll:s.data.toList=l at *;cases l with
   |nil=>exact absurd rfl hne
   | cons c t=>
    simp only[List.drop_succ_cons,List.drop_zero]at h2;have hw:∀y ∈ t,(y != (47:UInt8))=true:=fun y hy=>by simp;intro e;subst e;exact h2 hy
    have ew:t.takeWhile (·!= 47)=t:=qQ _ t hw;refine⟨?_,?_⟩
    ·show BU (c :: t.takeWhile _)=s;rw[ew,←hll,UF]
    show t.dropWhile _=[]
    have:=List.takeWhile_append_dropWhile (p:=(·!= (47:UInt8))) (l:=t);rw[ew]at this;simpa using this
  rw[e1.1,e1.2];clear h2 h3 e1 hne;go_enter Tryz.func235,Tryz.ntmps235
  go_wp2_with (first|(go_at_call 253;refine(IX.out _).mono ?_;rintro e w' ⟨rfl,rfl⟩))
  go_ret2
  exact⟨rfl,Below.refl _ _⟩
 obtain⟨k,hk,hkl,e1,e2⟩:=jX hne h2;rw[h3,hkl]at IX;rw[←e1,←e2];clear h2 h3 e1 e2 hne hkl;have mixed:Tryz.prog.follows .mixedOrders=true:=by kernel_rfl
 go_enter Tryz.func235,Tryz.ntmps235
 go_wp2_with (first|(go_at_call 253;refine(IX.out _).mono ?_;rintro e w' ⟨rfl,rfl⟩))
 go_region_o
 go_wp2
 go_ret2
 exact⟨rfl,(Below.refl _ _).drew⟩
theorem Z_(l:List UInt8):Cs l=if Lib.hasPrefix l [47]=true∧decide ((124:UInt8) ∈ Lib.trimPrefix l [47])=true∧(numOf (Ic 124 (BU (Lib.trimPrefix l [47]))).1.data.toList).isSome=true∧(Ce (Ic 124 (BU (Lib.trimPrefix l [47]))).2).isSome=true
 then some (Gj (numOf (Ic 124 (BU (Lib.trimPrefix l [47]))).1.data.toList),(Ce (Ic 124 (BU (Lib.trimPrefix l [47]))).2).getD [])else none:=by
 unfold Cs;cases l with
 |nil=>rfl
 | cons c t=>
  by_cases hc:c=47
  ·subst hc;have h1:Lib.hasPrefix (47 :: t) [47]=true:=by simp[Lib.hasPrefix]
   have h2:Lib.trimPrefix (47 :: t) [47]=t:=by simp[Lib.trimPrefix,h1]
   rw[h1,h2];refine(if_pos rfl).trans ?_;show stepOf (BU t)=_;unfold stepOf Ic;rw[BA];by_cases hm:(124:UInt8) ∈ t
   ·rw[if_pos hm,if_pos hm,decide_eq_true hm];simp only[BA];cases hn:numOf (hd 124 t)with
    |none=>simp
    |some n=>
     cases ht:Ce (BU (tl 124 t))with
     |none=>simp
     |some ts=>simp[Gj]
   rw[if_neg hm,decide_eq_false hm];simp
  have h1:Lib.hasPrefix (c :: t) [47]=false:=by
   show((47==c)&&_)=false;rw[show((47:UInt8)==c)=false from by simpa using Ne.symm hc];rfl
  rw[if_neg (by simp;exact hc),if_neg (by rw[h1];simp)]
theorem Jf{w:World}{B B':Nat}{v:Value}{xs:List T4}(h:OT w B v xs)(hb:B'≤B):OT w B' v xs:=by
 refine⟨h.1,?_⟩;rcases h.2 with h|⟨g,cap,cur,h1,h2,h3⟩
 ·exact .inl h
 exact .inr ⟨g,cap,cur,h1,by omega,h3⟩
def Two(w:World)(g:Nat)(n:Int)(v:Value):Prop:=w.cell? ⟨g,0,none⟩=some (.int .i64 n)∧w.cell? ⟨g,1,none⟩=some v
theorem Y7(w:World)(n:Int)(v:Value)(t:TypeId):Two (w.alloc (.cells #[.int .i64 n,v] t)) w.heap.size n v:=by
 refine⟨?_,?_⟩<;>simp
theorem Two.below{w w':World}{g B:Nat}{n:Int}{v:Value}(h:Two w g n v)(hb:Below B w w')(hg:g<B):Two w' g n v:=
 ⟨(hb.cell (p:=⟨g,0,none⟩) hg).trans h.1,(hb.cell (p:=⟨g,1,none⟩) hg).trans h.2⟩
theorem Qy(W:World)(a:Addr)(v:Value):W.grownBy (W.setCell a v) (some a.block):=
 ⟨rfl,rfl,rfl,(KeepsWalks.setCell W a v).size,fun k _ hk=>Below.heap_setCell _ _ _ k (fun e=>hk (by rw[e]))⟩
theorem iK{W:World}{B:Nat}{v:Value}{xs:List T4}(h:OT W B v xs)(a:Addr)(u:Value)(ha:a.block<B):OT (W.setCell a u) B v xs:=by
 refine World.ownsRow.kept h (Qy W a u) ?_;cases hv:v.ownBlock with
 |none=>exact .inl rfl
 |some b=>
  refine .inr fun e=>?_;have:=(World.ownsRow.lt h b hv).1;have e2:b=a.block:=by simpa using e
  omega
abbrev Im(o:Option St)(v:Value):Value:= .agg #[.int .i64 ((o.map (·.1)).getD 0),v]
abbrev stepT(o:Option St):List T4:=(o.map (·.2)).getD []

theorem XM(s:ByteArray)(w:World)(hs:s.size≤33554432)(hE:Env w):
 Calls Tryz.prog 236 #[.string s] w fun e w'=>∃v,e= .returned (.tuple #[Im (Cs s.data.toList) v,.bool (Cs s.data.toList).isSome])∧OT w' w.heap.size v (stepT (Cs s.data.toList))∧Below w.heap.size w w':=by
 have CP:=hide fun w=>Tryz.strings_CutPrefix s ⟨#[47]⟩ w;have HO:=hide (Z_ s.data.toList)
 have hz:(Lib.trimPrefix s.data.toList [47]).length≤s.size:=by
  have hl:s.data.toList.length=s.size:=by simp
  unfold Lib.trimPrefix
  split<;>simp
 have e1:(⟨#[47]⟩:ByteArray).data.toList=[47]:=rfl;rw[e1]at CP;have e2:(⟨(Lib.trimPrefix s.data.toList [47]).toArray⟩:ByteArray)=BU (Lib.trimPrefix s.data.toList [47]):=rfl;rw[e2]at CP;obtain⟨mk,hmk⟩:∃b,Lib.hasPrefix s.data.toList [47]=b:=⟨_,rfl⟩
 obtain⟨tp,htp⟩:∃b,Lib.trimPrefix s.data.toList [47]=b:=⟨_,rfl⟩
 rw[hmk]at CP HO;rw[htp]at CP HO hz;obtain⟨tx,htx⟩:∃b,BU tp=b:=⟨_,rfl⟩
 have hts:tx.size≤33554432:=by rw[←htx,Df];omega
 have e3:tx.data.toList=tp:=by rw[←htx,BA]
 have CT:=hide fun w=>jY 124 tx w hts;rw[htx]at CP HO;rw[e3]at CT;have hc:=eT 124 tx;obtain⟨pt,hpt⟩:∃b,decide ((124:UInt8) ∈ tp)=b:=⟨_,rfl⟩
 rw[hpt]at CT HO;obtain⟨ca,tV⟩:∃b,Ic 124 tx=b:=⟨_,rfl⟩
 rw[tV]at CT HO hc;have NU:=hide fun w hE=>Ot ca.1 (by omega) w hE;have TX:=hide fun w hE=>df ca.2 w (by omega) hE;obtain⟨cn,hcn⟩:∃x,numOf ca.1.data.toList=x:=⟨_,rfl⟩
 obtain⟨ct,hct⟩:∃x,Ce ca.2=x:=⟨_,rfl⟩
 rw[hcn]at NU HO;rw[hct]at TX HO;obtain⟨o,ho⟩:∃o,Cs s.data.toList=o:=⟨_,rfl⟩
 rw[ho]at HO⊢;obtain⟨n,hn⟩:∃n,Gj cn=n:=⟨_,rfl⟩
 obtain⟨bn,hbn⟩:∃b,cn.isSome=b:=⟨_,rfl⟩
 obtain⟨bt,hbt⟩:∃b,ct.isSome=b:=⟨_,rfl⟩
 obtain⟨ts,wR⟩:∃b,ct.getD []=b:=⟨_,rfl⟩
 rw[hn]at NU HO;rw[hbn]at NU HO;rw[hbt]at TX HO;rw[wR]at TX HO;have HE:=hide hE;clear hE hmk htp htx hts e1 e2 e3 hc hpt tV hcn hct ho hn hbn hbt wR hz hs;obtain⟨c1,c2⟩:=ca;go_enter Tryz.func236,Tryz.ntmps236
 go_wp2_with fail
 refine(CP.out _).mono ?_;rintro _ w1 ⟨rfl,rfl⟩;go_wp2_with fail
 refine(CT.out _).mono ?_;rintro _ w2 ⟨rfl,b2⟩;have b0:Below w.heap.size w (w.alloc (.cells #[.int .i64 0,.slice none 0 0] 248)):=(Below.refl _ _).alloc Ak _;have T0:=Y7 w 0 (.slice none 0 0) 248;have F0:∀j,(w.alloc (.cells #[.int .i64 0,.slice none 0 0] 248)).frozen? ⟨w.heap.size,j,none⟩=false:=fun j=>by simp[go_sem]
 have z0:(w.alloc (.cells #[.int .i64 0,.slice none 0 0] 248)).heap.size=w.heap.size+1:=by simp
 generalize (w.alloc (.cells #[.int .i64 0,.slice none 0 0] 248))=w0 at *;have HE:=hide (HE.out.below b0);go_wp2_with fail
 refine(NU.out _ (HE.out.below b2)).mono ?_;rintro _ w3 ⟨rfl,b3⟩;have sW:=bu b2 b3;go_wp2_with fail
 refine(TX.out _ (HE.out.below sW)).mono ?_;rintro _ w4 ⟨vt,rfl,ot,b4⟩;have Zb:=bu sW b4
 obtain⟨ta,tc,rfl⟩:∃ta tc,vt= .slice ta ts.length tc:=by
  rcases ot.2 with⟨rfl,h0⟩|⟨g,cap,cur,rfl,_⟩
  ·exact⟨none,0,by rw[h0]⟩
  exact⟨_,_,rfl⟩
 clear CP CT NU TX b3 b4;have s23:=sW.size;have OTT:=hide (Jf (B':=w.heap.size+1) ot (by omega));obtain⟨t0,t1⟩:=T0.below Zb (by omega);have F4:=Af Zb (by omega) F0;have B4:=b0.trans (Zb.mono (by omega));clear ot F0 T0 Zb sW b0;cases mk with
 |false=>
  have HO:=HO.out.trans (if_neg (by simp));subst HO;go_wp2;refine bodyPost_ret (v:= .tuple #[Im none (.slice none 0 0),.bool false]) (by simp[results,Tryz.results236,go_sem,t0,t1]) rfl ?_;exact⟨_,rfl,World.ownsRow_nil _ _ _ _,(B4.setCell Ak _).setCell Ak _⟩
 |true=>
 cases pt with
 |false=>
  have HO:=HO.out.trans (if_neg (by simp));subst HO;go_wp2;refine bodyPost_ret (v:= .tuple #[Im none (.slice none 0 0),.bool false]) (by simp[results,Tryz.results236,go_sem,t0,t1]) rfl ?_;exact⟨_,rfl,World.ownsRow_nil _ _ _ _,(B4.setCell Ak _).setCell Ak _⟩
 |true=>
 cases bn with
 |false=>
  have HO:=HO.out.trans (if_neg (by simp));subst HO;go_wp2;refine bodyPost_ret (v:= .tuple #[Im none (.slice none 0 0),.bool false]) (by simp[results,Tryz.results236,go_sem,t0,t1]) rfl ?_;exact⟨_,rfl,World.ownsRow_nil _ _ _ _,(B4.setCell Ak _).setCell Ak _⟩
 |true=>
 cases bt with
 |false=>
  have HO:=HO.out.trans (if_neg (by simp));subst HO;go_wp2;refine bodyPost_ret (v:= .tuple #[Im none (.slice none 0 0),.bool false]) (by simp[results,Tryz.results236,go_sem,t0,t1]) rfl ?_;exact⟨_,rfl,World.ownsRow_nil _ _ _ _,(B4.setCell Ak _).setCell Ak _⟩
 |true=>
  have HO:=HO.out.trans (if_pos (by simp));subst HO;go_wp2;refine bodyPost_ret (v:= .tuple #[Im (some (n,ts)) (.slice ta ts.length tc),.bool true]) (by simp[results,Tryz.results236,go_sem,t0,t1]) rfl ?_;exact⟨_,rfl,Jf (iK (iK OTT.out _ _ (by show w.heap.size<_;omega)) _ _ (by show w.heap.size<_;omega)) (by omega),(B4.setCell Ak _).setCell Ak _⟩
end
section
open Go.RowKit Go.Shelf
variable [∀(a b c d:Int),Decidable (BG a b c d)] [∀(a b c d:Nat),Decidable (DZ a b c d)] [∀(last:Int)(s:St),Decidable (Aq last s)] [∀(x:T4),Decidable (Du x)]
attribute [local go_sem] Oper.semAt_some

def Hands(s:ByteArray)(k:Nat)(vs:Array Value)(U V:World):Prop:=∃v,vs= #[Im (Cs (pc (FX s.data.toList k))) v,.bool (Cs (pc (FX s.data.toList k))).isSome]∧OT V U.heap.size v (stepT (Cs (pc (FX s.data.toList k))))

theorem Xz(s:ByteArray)(hs:s.size≤33554432)(m Bs n:Nat)(hm:FX s.data.toList m=[]∧∀k,k<m→FX s.data.toList k≠[])(wb w:World)(hE:Env wb)(hb:Below wb.heap.size wb w)(hc:w.cell? ⟨Bs,0,none⟩=some (.string s)):
 qC Fence.wide n Tryz.prog 234 #[.pointer (some ⟨Bs,0,none⟩)] wb.heap.size m (Hands s) w:=fun l J X W hW hJ hX hY h0=>by
 have hcW:W.cell? ⟨Bs,0,none⟩=some (.string s):=(hW.cell (p:=⟨Bs,0,none⟩) (AQ hc)).trans hc;have HB:=hide (bu hb hW);have HE:=hide hE;have HY:=hide hY;have HJ:=hide hJ;have HM:=hide hm;clear hc hW hE hY hJ hX hb hm;refine callsIn_of_wp Tryz.func234 rfl trivial ?_ rfl;simp only[Tryz.ntmps234,List.size_toArray,List.length_cons,List.length_nil,Nat.reduceAdd,Nat.reduceSub,Array.replicate_succ,Array.replicate_zero,List.push_toArray,List.append_toArray,List.nil_append,List.cons_append]
 gi_wp2
 gi_loopw [3] (fun r wr=>∃k:Nat,k≤m∧r= .string (BU (FX s.data.toList k))∧Hid (J k wr)∧Hid (Below wb.heap.size wb wr)) (fun r _=>match r with| .string x=>x.size|_=>0)
 case atStart=>exact⟨0,Nat.zero_le _,by show _=Value.string (BU s.data.toList);rw[UF],h0,HB⟩
 case round=>
  obtain⟨k,hk,rfl,HJk,zS⟩:=hrel;by_cases hz:FX s.data.toList k=[]
  ·have ez:BU (FX s.data.toList k)=⟨#[]⟩:=by rw[hz];rfl
   rw[ez]
   have wW:k=m:=by
    by_cases e:k<m
    ·exact absurd hz (HM.out.2 k e)
    omega
   subst wW;have ABd:=HJk.out
   gi_wp2
   go_end0
   exact⟨⟨_,rfl⟩,.inl ABd⟩
  have wW:k<m:=by
   by_cases e:k=m
   ·subst e;exact absurd HM.out.1 hz
   omega
  have hsz:(BU (FX s.data.toList k)).size≤33554432:=by
   have:=qi s.data.toList k;have hl:s.data.toList.length=s.size:=by simp
   rw[Df];omega
  have hsp:(BU (pc (FX s.data.toList k))).size≤33554432:=by
   have:=congrArg List.length (o5 (FX s.data.toList k));rw[List.length_append]at this;rw[Df]at hsz⊢;omega
  have CS:=hide fun w=>V3 (BU (FX s.data.toList k)) w hsz (by rw[BA];exact hz);have SO:=hide fun w hE=>XM (BU (pc (FX s.data.toList k))) w hsp hE;rw[BA]at CS SO;have HZ:Hid ((BU (rs (FX s.data.toList k))).size<(BU (FX s.data.toList k)).size):=hide (by rw[Df,Df];exact gy hz)
  have hne2:((BU (FX s.data.toList k)).toList==[])=false:=by
   rw[beq_eq_false_iff_ne,ByteArray.toList_eq,BA];exact hz
  have hne:=EX (qU hz);have YV:=hide fun V v h hv=>HY.out k #[Im (Cs (pc (FX s.data.toList k))) v,.bool (Cs (pc (FX s.data.toList k))).isSome] wr V HJk.out h wW ⟨v,rfl,hv⟩;have e2:rs (FX s.data.toList k)=FX s.data.toList (k+1):=rfl;rw[e2]at HZ CS;obtain⟨x,hx⟩:∃x,BU (FX s.data.toList k)=x:=⟨_,rfl⟩
  obtain⟨x',hx'⟩:∃x,BU (FX s.data.toList (k+1))=x:=⟨_,rfl⟩
  obtain⟨p,hp⟩:∃x,BU (pc (FX s.data.toList k))=x:=⟨_,rfl⟩
  obtain⟨o,ho⟩:∃x,Cs (pc (FX s.data.toList k))=x:=⟨_,rfl⟩
  rw[hx]at CS HZ hne hne2⊢;rw[hx']at CS HZ;rw[hp]at CS SO;rw[ho]at SO YV;clear hx hp ho hsz hsp e2 hz
  gi_wp2_with fail
  refine⟨trivial,fun h=>(by cases h),(callsIn_wide.2 (CS.out _)).mono ?_⟩;rintro _ w1 ⟨rfl,b1⟩
  gi_wp2_with fail
  refine⟨trivial,fun h=>(by cases h),(callsIn_wide.2 (SO.out _ (HE.out.below (zS.out.trans (b1.mono zS.out.size))))).mono ?_⟩;rintro _ w2 ⟨v,rfl,ot,b2⟩;have b12:=bu b1 b2;obtain⟨fn,tmps,assign,body,hy,hR⟩:=YV.out w2 v b12 (Jf ot b1.size);clear CS SO YV
  gi_wp2
  refine⟨fun h=>(by cases h),hR.mono ?_⟩;rintro e w3 (⟨rfl,hJ3,hk3⟩|⟨rfl,hX3⟩)
  ·have HB3:=hide ((zS.out.trans (b12.mono zS.out.size)).trans hk3);have HJ3:=hide hJ3;clear hR hy hJ3 ot b1 b2 b12 hk3
   gi_wp2
   go_roundw
   case rel=>exact⟨k+1,wW,by rw[hx'],HJ3,HB3⟩
   case measure=>exact HZ.out
  clear hR hy ot b1 b2 b12
  gi_wp2
  refine bodyPost_ret (results_none rfl _ _ _) rfl ?_;exact⟨⟨_,rfl⟩,.inr ⟨k,wW,hX3⟩⟩
theorem UY(s:ByteArray)(w:World):
 Calls Tryz.prog 210 #[.string s] w fun e w'=>e= .returned (.func (.func 234) #[] #[.pointer (some ⟨w.heap.size,0,none⟩)])∧w'=w.alloc (.cells #[.string s] 9):=by
 have y8:∀(fn:Fn)(first cap:Array Value)(w:World),(Instr.makeFunc fn first cap).run Tryz.prog w= .ok (.func fn first cap) w:=fun _ _ _ _=>rfl;go_enter Tryz.func210,Tryz.ntmps210
 go_wp2;go_ret;exact⟨rfl,rfl⟩
end
section
open Go.RowKit
variable [∀(a b c d:Int),Decidable (BG a b c d)] [∀(a b c d:Nat),Decidable (DZ a b c d)]
theorem mF{w:World}{B B':Nat}{v:Value}{xs:List ByteArray}(h:OS w B v xs)(hB:B'≤B):OS w B' v xs:=by
 refine⟨h.1,?_⟩;rcases h.2 with h|⟨g,cap,cur,h1,h2,h3⟩
 ·exact .inl h
 exact .inr ⟨g,cap,cur,h1,by omega,h3⟩

theorem aC(s:ByteArray)(w:World)(hs:s.size≤33554432):
 Calls Tryz.prog 204 #[.string s] w fun e w'=>∃v,e= .returned (.tuple #[v,.bool (Ce s).isSome])∧OT w' w.heap.size v ((Ce s).getD [])∧Below w.heap.size w w':=by
 obtain⟨i0,hi,hz0,hz1,hz2⟩:=info_parts Tryz.infoTx;unfold Ce;by_cases hz:s=⟨#[]⟩
 ·rw[if_pos hz];subst hz;go_enter Tryz.func204,Tryz.ntmps204
  go_wp2
  go_ret2
  exact⟨_,rfl,World.ownsRow_lit w #[] 0 Ak (by unfold maxLen;omega) rfl,(Below.refl _ _).alloc Ak _⟩
 rw[if_neg hz];have hne:=EX hz
 have hne2:(s.toList==[])=false:=by
  rw[beq_eq_false_iff_ne];intro e;apply hz;apply ByteArray.ext;apply Array.toList_inj.1;rw[ByteArray.toList_eq]at e;exact e
 have SP:=hide fun w=>JR s 44 w hs;have hpn:0<(Ag s 44).length:=by simp[Ag]
 have hpl:=Ho s 44;have hpz:Hid (∀p ∈ Ag s 44,p.size≤33554432):=fun p hp=>Nat.le_trans (Jc s 44 p hp) hs;generalize Ag s 44=ps at *;clear hz;go_enter Tryz.func204,Tryz.ntmps204
 go_wp2_with fail
 refine(SP.out _).mono ?_;rintro e w1 ⟨vp,rfl,op',b1'⟩;have b1:Below w.heap.size w w1:=((Below.refl _ _).alloc Ak _).trans (b1'.mono (by simp));have op:OS w1 w.heap.size vp ps:=mF op' (by simp);have OL:=hide (OT.below (show OT _ w.heap.size _ [] from World.ownsRow_lit w #[] 0 Ak (by unfold maxLen;omega) rfl) b1');clear op' b1';rcases op.2 with⟨_,h0⟩|⟨gp,pc,wB,rfl,_⟩
 ·omega
 have OP:=hide op;clear op SP;go_wp2
 go_loopw [4,6] (fun v i wr=>∃(k:Nat)(ys:List T4),k≤ps.length∧i= .int .i64 k∧ys.length=k∧Hid (CJ (ps.take k)=some ys)∧OT wr w.heap.size v ys∧OS wr w.heap.size (.slice (some ⟨gp,0,none⟩) ps.length pc) ps∧Below w.heap.size w wr) (fun _ i _=>ps.length-(intOf i).toNat)
 case atStart=>exact⟨0,[],by omega,rfl,rfl,rfl,OL.out,OP.out,b1⟩
 case round=>
  obtain⟨k,ys,hk,rfl,hyl,HA,ho,hp,hb⟩:=hrel;have hsz:=hb.size;by_cases hlt:k<ps.length
  ·have hc:=M7 hp rfl k hlt;have hm:=hpz.out _ (PL hlt);have HT:=hide (I_ ps k hlt);have CT:=hide fun w=>gq (ps.getD k ByteArray.empty) w hm;have HB:=hide (And.intro ho (And.intro hp hb));clear ho hp hb hm;generalize ps.getD k ByteArray.empty=p at *;cases ht:DD p.data.toList with
   |none=>
    have HN:Hid (CJ ps=none):=Pg (k+1) (by rw[HT.out,IC,ht];cases CJ (ps.take k)<;>rfl);rw[ht]at CT;clear ht HT HA;go_wp2_with fail
    refine(CT.out _).mono ?_;rintro e w2 ⟨rfl,b2⟩;have hw:Below w.heap.size w (w2.alloc (.cells #[.int .i64 0,.int .i64 0,.int .i64 0,.int .i64 0] 73)):=(HB.out.2.2.trans (b2.mono hsz)).alloc (by have:=b2.size;omega) _;unfold QY;go_wp2
    go_ret2
    exact⟨_,by rw[HN.out];rfl,by rw[HN.out];have hq:=World.ownsRow_lit (base:=w.heap.size) (e:=73) (size:=4) (w2.alloc (.cells #[.int .i64 0,.int .i64 0,.int .i64 0,.int .i64 0] 73)) #[] 0 hw.size (by unfold maxLen;omega) (by simp);simpa[OT,Ay]using hq,hw.alloc hw.size _⟩
   | some q=>
    obtain⟨a,b,c,d⟩:=q
    have HN:Hid (CJ (ps.take (k+1))=some (ys++[((a:Int),(b:Int),(c:Int),(d:Int))])):=by
     show CJ _=_;rw[HT.out,IC,HA.out,ht];rfl
    rw[ht]at CT;clear ht HT HA;go_wp2_with fail
    refine(CT.out _).mono ?_;rintro e w2 ⟨rfl,b2⟩;obtain⟨ho,hp,hb⟩:=HB.out;have s2:=b2.size;have ho2:=KV (KV (ho.below b2) (.cells #[.int .i64 a,.int .i64 b,.int .i64 c,.int .i64 d] 73)) (.cells #[.int .i64 a,.int .i64 b,.int .i64 c,.int .i64 d] 73);have hp2:=os_alloc (os_alloc (hp.below b2) (.cells #[.int .i64 a,.int .i64 b,.int .i64 c,.int .i64 d] 73)) (.cells #[.int .i64 a,.int .i64 b,.int .i64 c,.int .i64 d] 73);have hb2:Below w.heap.size w ((w2.alloc (.cells #[.int .i64 a,.int .i64 b,.int .i64 c,.int .i64 d] 73)).alloc (.cells #[.int .i64 a,.int .i64 b,.int .i64 c,.int .i64 d] 73)):=((hb.trans (b2.mono hsz)).alloc (by omega) _).alloc (by simp;omega) _;have jH:=o6 hp2 ho2;clear ho hp hb HB b2 hc;unfold QY
    go_wp2_with (first
     |(at_builtin;refine wpList_append_own _ rfl _ _ 41 rfl w.heap.size 73 i0 (Hg 0 0 0 0) 4 32 Tryz.underlying41 hi hz0 hz1 hz2 rfl (by decide) _ _ _ rfl ho2 ⟨w2.heap.size+1,0,none⟩ 1 1 (EW ((a:Int),(b:Int),(c:Int),(d:Int))) rfl rfl (by have:=Q0 (w2.alloc (.cells #[.int .i64 a,.int .i64 b,.int .i64 c,.int .i64 d] 73)) ((a:Int),(b:Int),(c:Int),(d:Int)) 73;simpa using this) (PM _) (by unfold maxLen;omega) (by omega) (by simp;omega) ?_;intro v' w3 ho' hg' _;have R:=ZL (by simp;omega) ho2 hb2 ho' hg';have RP:OS w3 w.heap.size (.slice (some ⟨gp,0,none⟩) ps.length pc) ps:=World.ownsRow.kept hp2 hg' jH;clear ho2 ho' hg' hb2 hp2 jH))
    go_roundw
    case rel=>exact⟨k+1,_,by omega,by go_num,by simp[hyl],HN,R.1,RP,R.2⟩
    case measure=>simp[intOf];omega
  have hkn:k=ps.length:=by omega
  have HN:Hid (CJ ps=some ys):=by
   have:=HA.out;rw[hkn,List.take_of_length_le Ak]at this;exact this
  have HO:=hide ho;clear ho hp HA;go_wp2
  go_ret2
  exact⟨_,by rw[HN.out];rfl,by rw[HN.out];exact HO.out,hb⟩
end
section
open Go.RowKit
variable [∀(a b c d:Int),Decidable (BG a b c d)] [∀(a b c d:Nat),Decidable (DZ a b c d)] [∀(last:Int)(s:St),Decidable (Aq last s)]
theorem az{w:World}{B B' n n' s s':Nat}{e e':TypeId}{v u:Value}{xs ys:List Value}(h:w.ownsRow B e s v n xs)(h':w.ownsRow B' e' s' u n' ys)(he:e≠e'):v.ownBlock=none∨v.ownBlock≠u.ownBlock:=by
 rcases h.2 with⟨rfl,_⟩|⟨g,cap,cur,rfl,_,hg,_⟩
 ·exact .inl rfl
 rcases h'.2 with⟨rfl,_⟩|⟨g',cap',cur',rfl,_,hg',_⟩
 ·exact .inr (by simp[Value.ownBlock])
 refine .inr fun e2=>?_;simp[Value.ownBlock]at e2;rw[e2,hg']at hg;simp at hg;exact he hg.2.symm
theorem Xo{w:World}{B n s:Nat}{e:TypeId}{v:Value}{xs:List Value}{c:Nat}(h:w.ownsRow (B+1) e s v n xs):(Value.slice (some ⟨B,0,none⟩) 0 c).ownBlock=none∨(Value.slice (some ⟨B,0,none⟩) 0 c).ownBlock≠v.ownBlock:= .inr fun e=>by
 have:=(World.ownsRow.lt h B (by rw[←e];rfl)).1;omega
theorem JB{w:World}{B B' n s:Nat}{e:TypeId}{v:Value}{xs:List Value}(h:w.ownsRow B e s v n xs)(hb:B'≤B):w.ownsRow B' e s v n xs:=by
 refine⟨h.1,?_⟩;rcases h.2 with h|⟨g,cap,cur,h1,h2,h3⟩
 ·exact .inl h
 exact .inr ⟨g,cap,cur,h1,by omega,h3⟩
theorem QZ(n:Int)(a:Option Addr)(l c:Nat):∀u ∈ FW (n,.slice a l c),u.oneCell'=true:=by
 intro u hu;simp[FW]at hu;rcases hu with rfl|rfl<;>rfl
theorem Tz(w:World)(p:Int×Value)(t:TypeId)(j:Nat)(u:Value)(h:(FW p)[j]? =some u):(w.alloc (.cells #[.int .i64 p.1,p.2] t)).cell? ((⟨w.heap.size,0,none⟩:Addr).add j)=some u:=by
 match j,h with
 |0,h=>simp[FW]at h;subst h;simp[Addr.add]
 |1,h=>simp[FW]at h;subst h;simp[Addr.add]
 |j+2,h=>simp[FW]at h
theorem XL(p:ByteArray):stepOf p=if(CR 124 p.data.toList).2.2=true∧(numOf (CR 124 p.data.toList).1).isSome=true∧(Ce (BU (CR 124 p.data.toList).2.1)).isSome=true then some (Gj (numOf (CR 124 p.data.toList).1),(Ce (BU (CR 124 p.data.toList).2.1)).getD [])else none:=by
 unfold stepOf CR;by_cases hm:(124:UInt8) ∈ p.data.toList
 ·rw[if_pos hm,if_pos hm];cases hn:numOf (hd 124 p.data.toList)with
  |none=>simp
  |some n=>
   cases ht:Ce (BU (tl 124 p.data.toList))with
   |none=>simp
   |some ts=>simp[Gj]
 rw[if_neg hm,if_neg hm];simp
theorem gP(ps:List ByteArray)(k:Nat)(h:k+1<ps.length):ps.tail.take (k+1)=ps.tail.take k++[ps.getD (k+1) ByteArray.empty]:=by
 cases ps with
 |nil=>simp at h
 |cons p ps=>
  simp only[List.tail_cons];simp at h;rw[List.take_succ_eq_append_getElem h];simp[List.getD_eq_getElem?_getD,List.getElem?_eq_getElem h]

theorem Qf(s:ByteArray)(w:World)(hs:s.size≤33554432):
 Calls Tryz.prog 167 #[.string s] w fun e w'=>∃v,e= .returned (.tuple #[v,.bool (AP s).isSome])∧Zf w' w.heap.size v ((AP s).getD [])∧Below w.heap.size w w':=by
 obtain⟨i0,hi,hz0,hz1,hz2⟩:=info_parts Tryz.infoSt;obtain⟨w0,hw0⟩:∃w0,(w.alloc (.cells #[] 248)).alloc (.cells #[] 248)=w0:=⟨_,rfl⟩
 have z0:w0.heap.size=w.heap.size+1+1:=by rw[←hw0];simp
 have B0:Below w.heap.size w w0:=hw0▸((Below.refl _ _).alloc Ak _).alloc (by simp) _;have R1:(w.alloc (.cells #[] 248)).ownsRow w.heap.size 248 2 (.slice (some ⟨w.heap.size,0,none⟩) 0 0) 0 []:=World.ownsRow_lit w #[] 0 Ak (by unfold maxLen;omega) rfl;have N0:w0.ownsRow w.heap.size 248 2 (.slice (some ⟨w.heap.size,0,none⟩) 0 0) 0 []:=hw0▸R1.alloc _
 have O0:w0.ownsRow (w.heap.size+1) 248 2 (.slice (some ⟨w.heap.size+1,0,none⟩) 0 0) 0 []:=by
  have:=World.ownsRow_lit (base:=w.heap.size+1) (e:=248) (size:=2) (w.alloc (.cells #[] 248)) #[] 0 (by simp) (by unfold maxLen;omega) rfl;rw[hw0]at this;have e:(w.alloc (.cells #[] 248)).heap.size=w.heap.size+1:=by simp
  rw[e]at this;exact this
 clear R1;unfold AP;by_cases hz:s=⟨#[]⟩
 ·rw[if_pos hz];subst hz;go_enter Tryz.func167,Tryz.ntmps167
  go_wp2
  go_ret2
  refine⟨_,rfl,⟨[],rfl,?_,fun k hk=>by simp at hk,fun i j _ hj=>by simp at hj⟩,B0⟩;refine⟨O0.1,?_⟩;rcases O0.2 with h|⟨g,cap,cur,h1,h2,h3⟩
  ·exact .inl h
  exact .inr ⟨g,cap,cur,h1,by omega,h3⟩
 rw[if_neg hz];have hne:=EX hz
 have hne2:(s.toList==[])=false:=by
  rw[beq_eq_false_iff_ne];intro e;apply hz;apply ByteArray.ext;apply Array.toList_inj.1;rw[ByteArray.toList_eq]at e;exact e
 have SP:=hide fun w=>JR s 47 w hs;have hpn:0<(Ag s 47).length:=by simp[Ag]
 have hpz:Hid (∀p ∈ Ag s 47,p.size≤33554432):=fun p hp=>Nat.le_trans (Jc s 47 p hp) hs;have hpl:=Ho s 47;have NONE:Hid (∀w',Below w.heap.size w w'→w'.ownsRow w.heap.size 248 2 (.slice (some ⟨w.heap.size,0,none⟩) 0 0) 0 []→Zf w' w.heap.size (.slice (some ⟨w.heap.size,0,none⟩) 0 0) []):=hide fun w' _ h=>⟨[],rfl,h,fun k hk=>by simp at hk,fun i j _ hj=>by simp at hj⟩
 generalize Ag s 47=ps at *;generalize hA:(if ps.getD 0 ByteArray.empty=⟨#[]⟩∧ps.length≤31 then(BL ps.tail).map (·.2)else none)=A;have HA:=hide hA;clear hz hA;go_enter Tryz.func167,Tryz.ntmps167
 go_wp2_with fail
 clear hw0;refine(SP.out _).mono ?_;rintro e w1 ⟨vp,rfl,op,b1⟩;have s1:=b1.size;have B1:=bu B0 b1;have k1:w0.grownBy w1 none:=⟨b1.os,b1.tape,b1.output,b1.size,fun k hk _=>b1.block k hk⟩
 have N1:=N0.kept k1 (by simp[Value.ownBlock]);have O1:=O0.kept k1 (by simp[Value.ownBlock]);rcases op.2 with⟨_,h0⟩|⟨gp,pc,wB,rfl,_⟩
 ·omega
 have c0:=M7 op rfl 0 hpn;have OP:=hide op;have N1:=hide N1;clear op SP k1 b1 N0 O0 B0;by_cases h0:ps.getD 0 ByteArray.empty=⟨#[]⟩
 ·rw [h0]at c0;by_cases h31:ps.length≤31
  ·have E:Hid (A=(BL ps.tail).map (·.2)):=hide (HA.out.symm.trans (if_pos ⟨h0,h31⟩));have AAX:decide ((31:Int)<(ps.length:Int))=false:=by simp;omega
   go_wp2;clear c0
   go_loopw [5,7,8] (fun out last i wr=>∃(k:Nat)(l:Int)(ss:List St)(vs:List Value),k+1≤ps.length∧i= .int .i64 ((k+1:Nat):Int)∧last= .int .i64 l∧Hid (BL (ps.tail.take k)=some (l,ss))∧ss.length=k∧Ii wr (w.heap.size+1) out ss vs∧OS wr w0.heap.size (.slice (some ⟨gp,0,none⟩) ps.length pc) ps∧wr.ownsRow w.heap.size 248 2 (.slice (some ⟨w.heap.size,0,none⟩) 0 0) 0 []∧Below w.heap.size w wr∧w.heap.size+1≤wr.heap.size) (fun _ _ i _=>ps.length-(intOf i).toNat)
   case atStart=>exact⟨0,0,[],[],by omega,by go_num,rfl,hide (by rw[List.take_zero];rfl),rfl,⟨rfl,O1,fun k hk=>by simp at hk,fun i j _ hj=>by simp at hj⟩,OP.out,N1.out,B1,by omega⟩
   case round=>
    clear O1 N1 OP B1;obtain⟨k,l,ss,vs,hk,rfl,rfl,HR,hsl,q9,hp,nr,br,sz⟩:=hrel;subst hsl;obtain⟨oa,oc,rfl⟩:=Zf.form ⟨vs,q9⟩;have RO1:=(Il _ _ HR.out).2.1;by_cases hlt:ss.length+1<ps.length
    ·have hc:=M7 hp rfl (ss.length+1) hlt;have hm:=hpz.out _ (PL hlt);have HT:=hide (gP ps ss.length hlt);have HC:=hide (XL (ps.getD (ss.length+1) ByteArray.empty));have CUT:=hide fun w=>Qu 124 124 rfl (ps.getD (ss.length+1) ByteArray.empty) w hm;generalize ps.getD (ss.length+1) ByteArray.empty=p at *
     have hc1:(CR 124 p.data.toList).1.length≤33554432∧(CR 124 p.data.toList).2.1.length≤33554432:=by
      have h1:=Km 124 p.data.toList;have h2:p.data.toList.length=p.size:=by simp
      omega
     obtain⟨c,hcc⟩:∃c,CR 124 p.data.toList=c:=⟨_,rfl⟩
     rw[hcc]at CUT HC hc1;clear hcc;have NU:=hide fun w=>Io (BU c.1) w (by rw[Df];unfold maxLen;omega);have TX:=hide fun w=>aC (BU c.2.1) w (by rw[Df];omega);rw[BA]at NU;obtain⟨cn,hcn⟩:∃x,numOf c.1=x:=⟨_,rfl⟩
     obtain⟨ct,hct⟩:∃x,Ce (BU c.2.1)=x:=⟨_,rfl⟩
     rw[hcn]at NU HC;rw[hct]at TX HC
     have hn0:0≤Gj cn∧Gj cn≤999999:=by
      cases cn with
      |none=>simp[Gj]
      |some m=>have:=Cy hcn;simp[Gj];omega
     clear hcn hct;obtain⟨n,hn⟩:∃n,Gj cn=n:=⟨_,rfl⟩
     obtain⟨bn,hbn⟩:∃b,cn.isSome=b:=⟨_,rfl⟩
     obtain⟨bt,hbt⟩:∃b,ct.isSome=b:=⟨_,rfl⟩
     obtain⟨ts,hts⟩:∃b,ct.getD []=b:=⟨_,rfl⟩
     rw[hn]at NU HC hn0;rw[hbn]at NU HC;rw[hbt]at TX HC;rw[hts]at TX HC;clear hn hbn hbt hts;have OST:=hide q9;have NR:=hide nr;have HP:=hide hp;clear q9 nr hp;go_wp2_with fail
     refine(CUT.out _).mono ?_;rintro _ w2 ⟨rfl,b2⟩;go_wp2_with fail
     refine(NU.out _).mono ?_;rintro _ w3 ⟨rfl,b3⟩;have sW:Below wr.heap.size wr w3:=bu b2 b3;go_wp2_with fail
     refine(TX.out _).mono ?_;rintro _ w4 ⟨vt,rfl,ot,b4⟩;have Zb:Below wr.heap.size wr w4:=bu sW b4;have B4:=bu br Zb;have s24:=Zb.size;have s23:=sW.size;have wD:=OST.out.below Zb;have k24:wr.grownBy w4 none:=⟨Zb.os,Zb.tape,Zb.output,Zb.size,fun k hk _=>Zb.block k hk⟩
     have o9:=World.ownsRow.kept NR.out k24 (by simp[Value.ownBlock]);have yz:=HP.out.below Zb
     obtain⟨ta,tc,rfl⟩:∃ta tc,vt= .slice ta ts.length tc:=by
      rcases ot.2 with⟨rfl,h0⟩|⟨g,cap,cur,rfl,_⟩
      ·exact⟨none,0,by rw[h0]⟩
      exact⟨_,_,rfl⟩
     clear CUT NU TX b2 b3 b4;have RN:Hid (stepOf p=none→BL ps.tail=none):=hide fun h=>JQ (ss.length+1) (by rw[HT.out,DV,HR.out];unfold E9;rw[h];rfl);obtain⟨c1,c2,cb⟩:=c;cases cb with
     |false=>
      have F:=hide (RN.out (by rw[HC.out,if_neg (by simp)]));go_wp2
      go_ret2
      rw[E.out,F.out];exact⟨_,rfl,NONE.out _ B4 o9,B4⟩
     |true=>
     cases bn with
     |false=>
      have F:=hide (RN.out (by rw[HC.out,if_neg (by simp)]));go_wp2
      go_ret2
      rw[E.out,F.out];exact⟨_,rfl,NONE.out _ B4 o9,B4⟩
     |true=>
     cases bt with
     |false=>
      have F:=hide (RN.out (by rw[HC.out,if_neg (by simp)]));go_wp2
      go_ret2
      rw[E.out,F.out];exact⟨_,rfl,NONE.out _ B4 o9,B4⟩
     |true=>
     have HS:Hid (stepOf p=some (n,ts)):=hide (by rw[HC.out,if_pos (by simp)]);have RG:Hid (¬Aq l (n,ts)→BL ps.tail=none):=hide fun h=>JQ (ss.length+1) (by rw[HT.out,DV,HR.out];unfold E9;rw[HS.out];exact if_neg h);clear RN HC;by_cases g1:n≤l
     ·have F:=hide (RG.out fun h=>by have:=h.1;simp only at this;omega);have g1':decide (n≤l)=true:=by simp;omega
      go_wp2
      go_ret2
      rw[E.out,F.out];exact⟨_,rfl,NONE.out _ B4 o9,B4⟩
     have g1':decide (n≤l)=false:=by simp;omega
     by_cases g2:60<n
     ·have F:=hide (RG.out fun h=>by have:=h.2.1;simp only at this;omega);have g2':decide (60<n)=true:=by simp;omega
      go_wp2
      go_ret2
      rw[E.out,F.out];exact⟨_,rfl,NONE.out _ B4 o9,B4⟩
     have g2':decide (60<n)=false:=by simp;omega
     by_cases g3:2<ts.length
     ·have F:=hide (RG.out fun h=>by have:=h.2.2;simp only at this;omega);have g3':decide ((2:Int)<(ts.length:Int))=true:=by simp;omega
      go_wp2
      go_ret2
      rw[E.out,F.out];exact⟨_,rfl,NONE.out _ B4 o9,B4⟩
     have g3':decide ((2:Int)<(ts.length:Int))=false:=by simp;omega
     have HN:Hid (BL (ps.tail.take (ss.length+1))=some (n,ss++[(n,ts)])):=hide (by
      rw[HT.out,DV,HR.out];unfold E9;rw[HS.out];exact if_pos ⟨by omega,by omega,by show ts.length≤2;omega⟩)
     have bX:Below w4.heap.size w4 (w4.alloc (.cells #[.int .i64 n,.slice ta ts.length tc] 248)):=(Below.refl _ _).alloc Ak _;have R7:=wD.below bX;have wC:=ot.below bX;have hpX:=yz.below bX;have nrX:=World.ownsRow.alloc o9 (.cells #[.int .i64 n,.slice ta ts.length tc] 248);have BX:=bu B4 bX
     have hN:∀k,k<ss.length→∀b,(vs.getD k (.slice none 0 0)).ownBlock=some b→b<w3.heap.size:=fun k hk b hb=>by
      have:=(World.ownsRow.lt (OST.out.each k hk) b hb).2;omega
     have ACs:ss.length≤31:=by omega
     clear RG wD ot yz o9 B4
     go_wp2_with (first
      |(at_builtin;refine wpList_append_own _ rfl _ _ 210 rfl (w.heap.size+1) 248 i0 (.agg #[.int .i64 0,.slice none 0 0]) 2 32 Tryz.underlying210 hi hz0 hz1 hz2 rfl (by decide) _ _ _ rfl R7.row ⟨w4.heap.size,0,none⟩ 1 1 (FW (n,.slice ta ts.length tc)) rfl rfl (Tz w4 (n,.slice ta ts.length tc) 248) (QZ _ _ _ _) (by unfold maxLen;omega) (by omega) (by simp;omega) ?_;intro v' w5 ho' hg' _;have R:=U5 R7 wC hN (by omega) ho' hg';have RP:=World.ownsRow.kept hpX hg' (az hpX R7.row (by decide));have RN:=World.ownsRow.kept nrX hg' (Xo R7.row);have RB:=BX.grown hg' BX.size (fun k hk=>by have:=(World.ownsRow.lt R7.row k hk).1;omega);have SZ:w4.heap.size≤w5.heap.size:=(by have:=hg'.size;simp at this;omega);clear ho' hg' R7 wC hpX nrX BX bX))
     go_roundw
     case rel=>exact⟨ss.length+1,n,_,_,by omega,by go_num,rfl,HN,by simp,R,RP,RN,RB,by omega⟩
     case measure=>simp[intOf];omega
    have hk2:ps.tail.take ss.length=ps.tail:=List.take_of_length_le (by simp;omega);rw[hk2]at HR;have hlt':decide (((ss.length+1:Nat):Int)<(ps.length:Int))=false:=by simp;omega
    go_wp2
    go_ret2
    rw[E.out,HR.out];refine⟨_,rfl,⟨vs,q9.len,?_,fun k hk=>?_,q9.apart⟩,br⟩
    ·exact JB q9.row (by omega)
    exact JB (q9.each k hk) (by omega)
  have E:A=none:=HA.out.symm.trans (if_neg fun h=>h31 h.2);have AAX:decide ((31:Int)<(ps.length:Int))=true:=by simp;omega
  go_wp2
  go_ret2
  rw[E];exact⟨_,rfl,NONE.out _ B1 N1.out,B1⟩
 have E:A=none:=HA.out.symm.trans (if_neg fun h=>h0 h.1);have hn0:=EX h0;have hn1:((ps.getD 0 ByteArray.empty).toList=[])=False:=eq_false fun e=>h0 (by apply ByteArray.ext;apply Array.toList_inj.1;rw[ByteArray.toList_eq]at e;exact e);generalize ps.getD 0 ByteArray.empty=p0 at *;go_wp2
 go_ret2
 rw[E];exact⟨_,rfl,NONE.out _ B1 N1.out,B1⟩
end
section
open Go.RowKit
variable [∀(a b c d:Int),Decidable (BG a b c d)] [∀(a b c d:Nat),Decidable (DZ a b c d)] [∀(last:Int)(s:St),Decidable (Aq last s)] [∀(x:T4),Decidable (Du x)]
theorem CW(s:ByteArray)(w:World)(hs:s.size≤33554432):
 Calls Tryz.prog 125 #[.string s] w fun e w'=>e= .returned (.bool (AP s).isSome)∧Below w.heap.size w w':=by
 have ST:=hide fun w=>Qf s w hs;generalize AP s=A at *;go_enter Tryz.func125,Tryz.ntmps125
 go_wp2_with fail
 refine(ST.out _).mono ?_;rintro e w1 ⟨v,rfl,_,b1⟩;go_wp2;go_ret;exact⟨rfl,b1⟩

theorem Dg(s:ByteArray)(w:World)(hs:s.size≤33554432):
 Calls Tryz.prog 164 #[.string s] w fun e w'=>e= .returned (.int .i64 (Av s))∧Below w.heap.size w w':=by
 have ST:=hide fun w=>Qf s w hs;have hl:∀ss,AP s=some ss→ss.length≤30∧∀x ∈ ss,Lj x:=fun ss h=>⟨((Cf _ _).1 h).2.1,((Cf _ _).1 h).2.2.1⟩
 unfold Av;generalize AP s=A at *;go_enter Tryz.func164,Tryz.ntmps164
 go_wp2_with fail
 refine(ST.out _).mono ?_;rintro e w1 ⟨v,rfl,o1,b1⟩;cases A with
 |none=>
  obtain⟨ao,ca,rfl⟩:=o1.form;clear o1 ST hl;go_wp2;go_ret;exact⟨rfl,b1⟩
 | some ss=>
  obtain⟨hl,hok⟩:=hl ss rfl;obtain⟨ao,ca,hv,r⟩:=o1.WQ (fun x hx=>by have:=(hok x hx).2.1;omega);subst hv;clear o1 ST hok;simp only[Option.getD_some]at *;rcases r with rfl|⟨g,rfl,r⟩
  ·go_wp2;go_ret;exact⟨rfl,b1⟩
  by_cases h0:ss.length=0
  ·obtain rfl:=List.length_eq_zero_iff.1 h0;go_wp2;go_ret;exact⟨rfl,b1⟩
  obtain⟨n,hn⟩:∃n,ss.length=n+1:=⟨ss.length-1,by omega⟩
  obtain⟨u,c0,c1,_⟩:=r n (by omega)
  have hlast:=hide (show(ss.getLast?.map (·.1)).getD 0=(ss.getD n kI).1 by
   rw[List.getLast?_eq_getElem?,List.getD_eq_getElem?_getD,List.getElem?_eq_getElem (show ss.length-1<ss.length by omega),List.getElem?_eq_getElem (show n<ss.length by omega)];simp[hn])
  have hi:((n+1:Nat):Int)-1=n:=by omega
  generalize (ss.getD n kI).1=x at *;clear r h0;go_wp2;go_ret;exact⟨by rw[show((some ss).getD [])=ss from rfl,hlast.out];rfl,b1⟩

theorem gZ(s:ByteArray)(w:World)(hs:s.size≤33554432):
 Calls Tryz.prog 169 #[.string s] w fun e w'=>e= .returned (.string (FV s))∧Below w.heap.size w w':=by
 have NS:=hide fun w=>CW s w hs;have UC:=hide fun(ss:List St)(h:AP s=some ss)(k:Nat)(hk:k≤s.data.toList.length) h1 h2=>gJ h k hk h1 h2;have UN:AP s=none→FV s=⟨#[]⟩:=fun h=>by unfold FV;rw[h];rfl
 generalize FV s=x at *;generalize AP s=A at *;go_enter Tryz.func169,Tryz.ntmps169
 go_wp2_with fail
 refine(NS.out _).mono ?_;rintro e w1 ⟨rfl,b1⟩;clear NS;cases A with
 |none=>
  have UN:=UN rfl;subst UN;go_wp2;go_ret;exact⟨rfl,b1⟩
 |some ss=>
 clear UN;have UC:=hide (UC.out ss rfl);go_wp2
 go_loop [3] (fun kv=>∃k:Nat,k≤s.size∧kv= .int .i64 k∧Hid ((47:UInt8) ∉ s.data.toList.drop k)) (fun kv=>(intOf kv).toNat)
 case atStart=>exact⟨s.size,Nat.le_refl _,rfl,hide (by rw[List.drop_eq_nil_of_le (by simp)];simp)⟩
 case round=>
  obtain⟨k,hk,rfl,HM⟩:=hrel;have hlen:s.data.toList.length=s.size:=by simp
  have DONE:Hid (∀h2:k=0∨s.data.toList[k-1]? =some 47,s.extract 0 (k-1)=x):=hide fun h2=>by
   rw[←UC.out k (by omega) HM.out h2]
   apply Tf;rw[BA];simp[ByteArray.data_extract]
  have HL:=hide hlen;clear UC hlen;go_wp2
  ·rename_i h2;have hp:0<k:=by assumption
   have hb:((s[k-1].toNat:Int) != 47)=true:=by assumption
   have HM':Hid ((47:UInt8) ∉ s.data.toList.drop (k-1)):=hide (by
    rw[List.drop_eq_getElem_cons (show k-1<s.data.toList.length by rw[HL.out];omega),show k-1+1=k by omega];intro h;rcases List.mem_cons.1 h with h|h
    ·have e:s[k-1]=47:=h.symm;rw[e]at hb
     revert hb;decide
    exact HM.out h)
   go_round
   case rel=>exact⟨k-1,by omega,by rw[show((k-1:Nat):Int)=(k:Int)-1 by omega],HM'⟩
   case measure=>simp[intOf];omega
  ·have h2:((s[k-1].toNat:Int) != 47)=false:=by assumption
   have D:=DONE.out (.inr (by
    rw[List.getElem?_eq_getElem (by rw[HL.out];omega)];refine congrArg some (UInt8.toNat_inj.1 (show s[k-1].toNat=47 from ?_));have h2:=of_decide_eq_true (p:=(s[k-1].toNat:Int)=47) (by simpa using h2);omega))
   go_ret;exact⟨by rw[←D];rfl,b1⟩
  ·have h2:((s[k-1].toNat:Int) != 47)=false:=by assumption
   have D:=DONE.out (.inr (by
    rw[List.getElem?_eq_getElem (by rw[HL.out];omega)];refine congrArg some (UInt8.toNat_inj.1 (show s[k-1].toNat=47 from ?_));have h2:=of_decide_eq_true (p:=(s[k-1].toNat:Int)=47) (by simpa using h2);omega))
   have D':ByteArray.empty=x:=by rw[←D,show k-1=0 by omega];simp
   go_ret;exact⟨by rw[←D'];rfl,b1⟩
  have D:=DONE.out (.inl (by omega));have D':ByteArray.empty=x:=by rw[←D,show k-1=0 by omega];simp
  go_ret;exact⟨by rw[←D'];rfl,b1⟩
theorem Vs(xs:List T4)(u:Value)(h:u ∈ Ay xs):u.oneCell'=true:=by
 obtain⟨x,_,hx⟩:=List.mem_flatMap.1 h;simp[EW]at hx;rcases hx with rfl|rfl|rfl|rfl<;>rfl
theorem Ii.kept{w w':World}{B:Nat}{v:Value}{ss:List St}{vs:List Value}{row:Option Nat}(h:Ii w B v ss vs)(hg:w.grownBy w' row)(hv:v.ownBlock=none∨v.ownBlock≠row)(hs:∀k,k<ss.length→(vs.getD k (.slice none 0 0)).ownBlock=none∨(vs.getD k (.slice none 0 0)).ownBlock≠row):Ii w' B v ss vs:=
 ⟨h.len,World.ownsRow.kept h.row hg hv,fun k hk=>World.ownsRow.kept (h.each k hk) hg (hs k hk),h.apart⟩
end
end Go.Proofs.YtcjmcgolgbkknaaGreatDoor
