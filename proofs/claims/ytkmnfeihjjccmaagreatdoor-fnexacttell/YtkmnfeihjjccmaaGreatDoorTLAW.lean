/- Lemmas; their conditions stand in each statement. -/
import Derived.Test.YtkmnfeihjjccmaaGreatDoorTLAV
import Derived.Shelf.RegionOpen
import Derived.OwnWalkIn
import Derived.LoopNIn
import Derived.LoopIn
set_option maxRecDepth 100000
set_option maxHeartbeats 8000000
set_option linter.unusedSectionVars false
namespace Go.Proofs.YtkmnfeihjjccmaaGreatDoor
section
open Go.RowKit
variable [∀(a b c d:Int),Decidable (BD a b c d)]
variable [∀(a b c d:Nat),Decidable (Dj a b c d)]
variable [∀(last:Int)(s:St),Decidable (Au last s)]
variable [∀(x:T4),Decidable (Dr x)]
theorem UD(s:ByteArray):BQ s.data.toList=s:=Tc (A9 _)
theorem Y_(p:UInt8→Bool)(t:List UInt8):t.take (t.takeWhile p).length=t.takeWhile p∧t.drop (t.takeWhile p).length=t.dropWhile p:=by
 have h:=List.takeWhile_append_dropWhile (p:=p) (l:=t)
 generalize t.takeWhile p=x at *
 generalize t.dropWhile p=y at *
 rw[←h];simp
theorem qh(p:UInt8→Bool)(t:List UInt8)(h:∀y ∈ t,p y=true):t.takeWhile p=t:=by
 induction t with
 |nil=>rfl
 |cons c t ih=>rw[List.takeWhile_cons,if_pos (h c (by simp)),ih fun y hy=>h y (by simp[hy])]
theorem jd{s:ByteArray}(h:s.data.toList≠[])(h2:(47:UInt8) ∈ (s.extract 1 s.size).data.toList):∃k:Nat,k+1<s.size∧((s.extract 1 s.size).data.toList.takeWhile (·!= 47)).length=k∧s.extract 0 (k+1)=BQ (pc s.data.toList)∧s.extract (k+1) s.size=BQ (rs s.data.toList):=by
 have hl:s.data.toList.length=s.size:=by simp
 rw[KL,A9]at h2⊢
 generalize hll:s.data.toList=l at *
 cases l with
 |nil=>exact absurd rfl h
 | cons c t=>
  simp only[List.drop_succ_cons,List.drop_zero]at h2⊢
  have h1:=List.takeWhile_append_dropWhile (p:=(·!= (47:UInt8))) (l:=t)
  have h3:=congrArg List.length h1
  rw[List.length_append]at h3
  have h4:t.dropWhile (·!= 47)≠[]:=fun e=>by
   rw[e,List.append_nil]at h1
   have:=(List.all_takeWhile (p:=(·!= (47:UInt8))) (l:=t))
   rw[h1]at this
   have:=List.all_eq_true.1 this 47 h2
   simp at this
  have h5:0<(t.dropWhile (·!= 47)).length:=List.length_pos_iff.2 h4
  simp only[List.length_cons]at hl
  refine⟨_,by omega,rfl,?_,?_⟩
  ·rw[Kh,hll]
   congr 1
   simp only[pc,Nat.sub_zero,List.drop_zero,List.take_succ_cons]
   rw[(Y_ _ t).1]
  rw[KL,hll]
  congr 1
  simp only[rs,List.drop_succ_cons]
  exact(Y_ _ t).2

theorem Vw(s:ByteArray)(w:World)(hs:s.size≤33554432)(hne:s.data.toList≠[]):
 Calls Tryz.prog 177 #[.string s] w fun e w'=>e= .returned (.tuple #[.string (BQ (pc s.data.toList)),.string (BQ (rs s.data.toList))])∧Below w.heap.size w w':=by
 have IX:=hide fun w=>Xz 47 (s.extract 1 s.size) w
 have h1:1≤s.size:=by
  have hl:s.data.toList.length=s.size:=by simp
  have:=List.length_pos_iff.2 hne
  omega
 rcases Vg 47 (s.extract 1 s.size).data.toList with⟨h2,h3⟩|⟨h2,h3⟩
 ·rw [h3]at IX
  have e1:BQ (pc s.data.toList)=s∧rs s.data.toList=[]:=by
   rw[KL,A9]at h2
   generalize hll:s.data.toList=l at *
   cases l with
   |nil=>exact absurd rfl hne
   | cons c t=>
    simp only[List.drop_succ_cons,List.drop_zero]at h2
    have hw:∀y ∈ t,(y != (47:UInt8))=true:=fun y hy=>by simp;intro e;subst e;exact h2 hy
    have ew:t.takeWhile (·!= 47)=t:=qh _ t hw
    refine⟨?_,?_⟩
    ·show BQ (c :: t.takeWhile _)=s
     rw[ew,←hll,UD]
    show t.dropWhile _=[]
    have:=List.takeWhile_append_dropWhile (p:=(·!= (47:UInt8))) (l:=t)
    rw[ew]at this
    simpa using this
  rw[e1.1,e1.2]
  clear h2 h3 e1 hne
  go_enter Tryz.func177,Tryz.ntmps177
  go_wp2_with (first|(go_at_call 183;refine(IX.out _).mono ?_;rintro e w' ⟨rfl,rfl⟩))
  go_ret2
  exact⟨rfl,Below.refl _ _⟩
 obtain⟨k,hk,hkl,e1,e2⟩:=jd hne h2
 rw[h3,hkl]at IX
 rw[←e1,←e2]
 clear h2 h3 e1 e2 hne hkl
 have mixed:Tryz.prog.follows .mixedOrders=true:=by kernel_rfl
 go_enter Tryz.func177,Tryz.ntmps177
 go_wp2_with (first|(go_at_call 183;refine(IX.out _).mono ?_;rintro e w' ⟨rfl,rfl⟩))
 go_region_o
 go_wp2
 go_ret2
 exact⟨rfl,(Below.refl _ _).drew⟩
theorem Z_(l:List UInt8):Cm l=if Lib.hasPrefix l [47]=true∧decide ((124:UInt8) ∈ Lib.trimPrefix l [47])=true∧(numOf (IU 124 (BQ (Lib.trimPrefix l [47]))).1.data.toList).isSome=true∧(Cb (IU 124 (BQ (Lib.trimPrefix l [47]))).2).isSome=true
 then some (Gb (numOf (IU 124 (BQ (Lib.trimPrefix l [47]))).1.data.toList),(Cb (IU 124 (BQ (Lib.trimPrefix l [47]))).2).getD [])else none:=by
 unfold Cm
 cases l with
 |nil=>rfl
 | cons c t=>
  by_cases hc:c=47
  ·subst hc
   have h1:Lib.hasPrefix (47 :: t) [47]=true:=by simp[Lib.hasPrefix]
   have h2:Lib.trimPrefix (47 :: t) [47]=t:=by simp[Lib.trimPrefix,h1]
   rw[h1,h2]
   refine(if_pos rfl).trans ?_
   show stepOf (BQ t)=_
   unfold stepOf IU
   rw[A9]
   by_cases hm:(124:UInt8) ∈ t
   ·rw[if_pos hm,if_pos hm,decide_eq_true hm]
    simp only[A9]
    cases hn:numOf (hd 124 t)with
    |none=>simp
    |some n=>
     cases ht:Cb (BQ (tl 124 t))with
     |none=>simp
     |some ts=>simp[Gb]
   rw[if_neg hm,decide_eq_false hm];simp
  have h1:Lib.hasPrefix (c :: t) [47]=false:=by
   show((47==c)&&_)=false
   rw[show((47:UInt8)==c)=false from by simpa using Ne.symm hc];rfl
  rw[if_neg (by simp;exact hc),if_neg (by rw[h1];simp)]
theorem Ja{w:World}{B B':Nat}{v:Value}{xs:List T4}(h:OT w B v xs)(hb:B'≤B):OT w B' v xs:=by
 refine⟨h.1,?_⟩
 rcases h.2 with h|⟨g,cap,cur,h1,h2,h3⟩
 ·exact .inl h
 exact .inr ⟨g,cap,cur,h1,by omega,h3⟩
def Two(w:World)(g:Nat)(n:Int)(v:Value):Prop:=w.cell? ⟨g,0,none⟩=some (.int .i64 n)∧w.cell? ⟨g,1,none⟩=some v
theorem Y9(w:World)(n:Int)(v:Value)(t:TypeId):Two (w.alloc (.cells #[.int .i64 n,v] t)) w.heap.size n v:=by
 refine⟨?_,?_⟩<;>simp
theorem Two.below{w w':World}{g B:Nat}{n:Int}{v:Value}(h:Two w g n v)(hb:Below B w w')(hg:g<B):Two w' g n v:=
 ⟨(hb.cell (p:=⟨g,0,none⟩) hg).trans h.1,(hb.cell (p:=⟨g,1,none⟩) hg).trans h.2⟩
theorem Qs(W:World)(a:Addr)(v:Value):W.grownBy (W.setCell a v) (some a.block):=
 ⟨rfl,rfl,rfl,(KeepsWalks.setCell W a v).size,fun k _ hk=>Below.heap_setCell _ _ _ k (fun e=>hk (by rw[e]))⟩
theorem iQ{W:World}{B:Nat}{v:Value}{xs:List T4}(h:OT W B v xs)(a:Addr)(u:Value)(ha:a.block<B):OT (W.setCell a u) B v xs:=by
 refine World.ownsRow.kept h (Qs W a u) ?_
 cases hv:v.ownBlock with
 |none=>exact .inl rfl
 |some b=>
  refine .inr fun e=>?_
  have:=(World.ownsRow.lt h b hv).1
  have e2:b=a.block:=by simpa using e
  omega
abbrev Ih(o:Option St)(v:Value):Value:= .agg #[.int .i64 ((o.map (·.1)).getD 0),v]
abbrev stepT(o:Option St):List T4:=(o.map (·.2)).getD []

theorem XK(s:ByteArray)(w:World)(hs:s.size≤33554432)(hE:Env w):
 Calls Tryz.prog 178 #[.string s] w fun e w'=>∃v,e= .returned (.tuple #[Ih (Cm s.data.toList) v,.bool (Cm s.data.toList).isSome])∧OT w' w.heap.size v (stepT (Cm s.data.toList))∧Below w.heap.size w w':=by
 have CP:=hide fun w=>Tryz.strings_CutPrefix s ⟨#[47]⟩ w
 have HO:=hide (Z_ s.data.toList)
 have hz:(Lib.trimPrefix s.data.toList [47]).length≤s.size:=by
  have hl:s.data.toList.length=s.size:=by simp
  unfold Lib.trimPrefix
  split<;>simp
 have e1:(⟨#[47]⟩:ByteArray).data.toList=[47]:=rfl
 rw[e1]at CP
 have e2:(⟨(Lib.trimPrefix s.data.toList [47]).toArray⟩:ByteArray)=BQ (Lib.trimPrefix s.data.toList [47]):=rfl
 rw[e2]at CP
 obtain⟨mk,hmk⟩:∃b,Lib.hasPrefix s.data.toList [47]=b:=⟨_,rfl⟩
 obtain⟨tp,htp⟩:∃b,Lib.trimPrefix s.data.toList [47]=b:=⟨_,rfl⟩
 rw[hmk]at CP HO
 rw[htp]at CP HO hz
 obtain⟨tx,htx⟩:∃b,BQ tp=b:=⟨_,rfl⟩
 have hts:tx.size≤33554432:=by rw[←htx,Da];omega
 have e3:tx.data.toList=tp:=by rw[←htx,A9]
 have CT:=hide fun w=>je 124 tx w hts
 rw[htx]at CP HO
 rw[e3]at CT
 have hc:=eP 124 tx
 obtain⟨pt,hpt⟩:∃b,decide ((124:UInt8) ∈ tp)=b:=⟨_,rfl⟩
 rw[hpt]at CT HO
 obtain⟨ca,uI⟩:∃b,IU 124 tx=b:=⟨_,rfl⟩
 rw[uI]at CT HO hc
 have NU:=hide fun w hE=>Oj ca.1 (by omega) w hE
 have TX:=hide fun w hE=>dV ca.2 w (by omega) hE
 obtain⟨cn,hcn⟩:∃x,numOf ca.1.data.toList=x:=⟨_,rfl⟩
 obtain⟨ct,hct⟩:∃x,Cb ca.2=x:=⟨_,rfl⟩
 rw[hcn]at NU HO
 rw[hct]at TX HO
 obtain⟨o,ho⟩:∃o,Cm s.data.toList=o:=⟨_,rfl⟩
 rw[ho]at HO⊢
 obtain⟨n,hn⟩:∃n,Gb cn=n:=⟨_,rfl⟩
 obtain⟨bn,hbn⟩:∃b,cn.isSome=b:=⟨_,rfl⟩
 obtain⟨bt,hbt⟩:∃b,ct.isSome=b:=⟨_,rfl⟩
 obtain⟨ts,wX⟩:∃b,ct.getD []=b:=⟨_,rfl⟩
 rw[hn]at NU HO
 rw[hbn]at NU HO
 rw[hbt]at TX HO
 rw[wX]at TX HO
 have HE:=hide hE
 clear hE hmk htp htx hts e1 e2 e3 hc hpt uI hcn hct ho hn hbn hbt wX hz hs
 obtain⟨c1,c2⟩:=ca
 go_enter Tryz.func178,Tryz.ntmps178
 go_wp2_with fail
 refine(CP.out _).mono ?_
 rintro _ w1 ⟨rfl,rfl⟩
 go_wp2_with fail
 refine(CT.out _).mono ?_
 rintro _ w2 ⟨rfl,b2⟩
 have b0:Below w.heap.size w (w.alloc (.cells #[.int .i64 0,.slice none 0 0] 182)):=(Below.refl _ _).alloc (Nat.le_refl _) _
 have T0:=Y9 w 0 (.slice none 0 0) 182
 have F0:∀j,(w.alloc (.cells #[.int .i64 0,.slice none 0 0] 182)).frozen? ⟨w.heap.size,j,none⟩=false:=fun j=>by simp[go_sem]
 have z0:(w.alloc (.cells #[.int .i64 0,.slice none 0 0] 182)).heap.size=w.heap.size+1:=by simp
 generalize (w.alloc (.cells #[.int .i64 0,.slice none 0 0] 182))=w0 at *
 have HE:=hide (HE.out.below b0)
 go_wp2_with fail
 refine(NU.out _ (HE.out.below b2)).mono ?_
 rintro _ w3 ⟨rfl,b3⟩
 have tH:=bu b2 b3
 go_wp2_with fail
 refine(TX.out _ (HE.out.below tH)).mono ?_
 rintro _ w4 ⟨vt,rfl,ot,b4⟩
 have Zd:=bu tH b4
 obtain⟨ta,tc,rfl⟩:∃ta tc,vt= .slice ta ts.length tc:=by
  rcases ot.2 with⟨rfl,h0⟩|⟨g,cap,cur,rfl,_⟩
  ·exact⟨none,0,by rw[h0]⟩
  exact⟨_,_,rfl⟩
 clear CP CT NU TX b3 b4
 have s23:=tH.size
 have OTT:=hide (Ja (B':=w.heap.size+1) ot (by omega))
 obtain⟨t0,t1⟩:=T0.below Zd (by omega)
 have F4:=Af Zd (by omega) F0
 have B4:=b0.trans (Zd.mono (by omega))
 clear ot F0 T0 Zd tH b0
 cases mk with
 |false=>
  have HO:=HO.out.trans (if_neg (by simp));subst HO
  go_wp2
  refine bodyPost_ret (v:= .tuple #[Ih none (.slice none 0 0),.bool false]) (by simp[results,Tryz.results178,go_sem,t0,t1]) rfl ?_
  exact⟨_,rfl,World.ownsRow_nil _ _ _ _,(B4.setCell (Nat.le_refl _) _).setCell (Nat.le_refl _) _⟩
 |true=>
 cases pt with
 |false=>
  have HO:=HO.out.trans (if_neg (by simp));subst HO
  go_wp2
  refine bodyPost_ret (v:= .tuple #[Ih none (.slice none 0 0),.bool false]) (by simp[results,Tryz.results178,go_sem,t0,t1]) rfl ?_
  exact⟨_,rfl,World.ownsRow_nil _ _ _ _,(B4.setCell (Nat.le_refl _) _).setCell (Nat.le_refl _) _⟩
 |true=>
 cases bn with
 |false=>
  have HO:=HO.out.trans (if_neg (by simp));subst HO
  go_wp2
  refine bodyPost_ret (v:= .tuple #[Ih none (.slice none 0 0),.bool false]) (by simp[results,Tryz.results178,go_sem,t0,t1]) rfl ?_
  exact⟨_,rfl,World.ownsRow_nil _ _ _ _,(B4.setCell (Nat.le_refl _) _).setCell (Nat.le_refl _) _⟩
 |true=>
 cases bt with
 |false=>
  have HO:=HO.out.trans (if_neg (by simp));subst HO
  go_wp2
  refine bodyPost_ret (v:= .tuple #[Ih none (.slice none 0 0),.bool false]) (by simp[results,Tryz.results178,go_sem,t0,t1]) rfl ?_
  exact⟨_,rfl,World.ownsRow_nil _ _ _ _,(B4.setCell (Nat.le_refl _) _).setCell (Nat.le_refl _) _⟩
 |true=>
  have HO:=HO.out.trans (if_pos (by simp));subst HO
  go_wp2
  refine bodyPost_ret (v:= .tuple #[Ih (some (n,ts)) (.slice ta ts.length tc),.bool true]) (by simp[results,Tryz.results178,go_sem,t0,t1]) rfl ?_
  exact⟨_,rfl,Ja (iQ (iQ OTT.out _ _ (by show w.heap.size<_;omega)) _ _ (by show w.heap.size<_;omega)) (by omega),(B4.setCell (Nat.le_refl _) _).setCell (Nat.le_refl _) _⟩
end
section
open Go.RowKit Go.Shelf
variable [∀(a b c d:Int),Decidable (BD a b c d)]
variable [∀(a b c d:Nat),Decidable (Dj a b c d)]
variable [∀(last:Int)(s:St),Decidable (Au last s)]
variable [∀(x:T4),Decidable (Dr x)]
attribute [local go_sem] Oper.semAt_some

def Hands(s:ByteArray)(k:Nat)(vs:Array Value)(U V:World):Prop:=∃v,vs= #[Ih (Cm (pc (FO s.data.toList k))) v,.bool (Cm (pc (FO s.data.toList k))).isSome]∧OT V U.heap.size v (stepT (Cm (pc (FO s.data.toList k))))

theorem Xy(s:ByteArray)(hs:s.size≤33554432)(m Bs n:Nat)(hm:FO s.data.toList m=[]∧∀k,k<m→FO s.data.toList k≠[])(wb w:World)(hE:Env wb)(hb:Below wb.heap.size wb w)(hc:w.cell? ⟨Bs,0,none⟩=some (.string s)):
 qO Fence.wide n Tryz.prog 176 #[.pointer (some ⟨Bs,0,none⟩)] wb.heap.size m (Hands s) w:=fun l J X W hW hJ hX hY h0=>by
 have hcW:W.cell? ⟨Bs,0,none⟩=some (.string s):=(hW.cell (p:=⟨Bs,0,none⟩) (AY hc)).trans hc
 have HB:=hide (bu hb hW)
 have HE:=hide hE
 have HY:=hide hY
 have HJ:=hide hJ
 have HM:=hide hm
 clear hc hW hE hY hJ hX hb hm
 refine callsIn_of_wp Tryz.func176 rfl trivial ?_ rfl
 simp only[Tryz.ntmps176,List.size_toArray,List.length_cons,List.length_nil,Nat.reduceAdd,Nat.reduceSub,Array.replicate_succ,Array.replicate_zero,List.push_toArray,List.append_toArray,List.nil_append,List.cons_append]
 gi_wp2
 gi_loopw [3] (fun r wr=>∃k:Nat,k≤m∧r= .string (BQ (FO s.data.toList k))∧Hid (J k wr)∧Hid (Below wb.heap.size wb wr)) (fun r _=>match r with| .string x=>x.size|_=>0)
 case atStart=>exact⟨0,Nat.zero_le _,by show _=Value.string (BQ s.data.toList);rw[UD],h0,HB⟩
 case round=>
  obtain⟨k,hk,rfl,HJk,zg⟩:=hrel
  by_cases hz:FO s.data.toList k=[]
  ·have ez:BQ (FO s.data.toList k)=⟨#[]⟩:=by rw[hz];rfl
   rw[ez]
   have wo:k=m:=by
    by_cases e:k<m
    ·exact absurd hz (HM.out.2 k e)
    omega
   subst wo
   have ABs:=HJk.out
   gi_wp2
   go_end0
   exact⟨⟨_,rfl⟩,.inl ABs⟩
  have wo:k<m:=by
   by_cases e:k=m
   ·subst e;exact absurd HM.out.1 hz
   omega
  have hsz:(BQ (FO s.data.toList k)).size≤33554432:=by
   have:=rC s.data.toList k
   have hl:s.data.toList.length=s.size:=by simp
   rw[Da];omega
  have hsp:(BQ (pc (FO s.data.toList k))).size≤33554432:=by
   have:=congrArg List.length (pJ (FO s.data.toList k))
   rw[List.length_append]at this
   rw[Da]at hsz⊢;omega
  have CS:=hide fun w=>Vw (BQ (FO s.data.toList k)) w hsz (by rw[A9];exact hz)
  have SO:=hide fun w hE=>XK (BQ (pc (FO s.data.toList k))) w hsp hE
  rw[A9]at CS SO
  have HZ:Hid ((BQ (rs (FO s.data.toList k))).size<(BQ (FO s.data.toList k)).size):=hide (by rw[Da,Da];exact iD hz)
  have hne2:((BQ (FO s.data.toList k)).toList==[])=false:=by
   rw[beq_eq_false_iff_ne,ByteArray.toList_eq,A9];exact hz
  have hne:=EO (qi hz)
  have YV:=hide fun V v h hv=>HY.out k #[Ih (Cm (pc (FO s.data.toList k))) v,.bool (Cm (pc (FO s.data.toList k))).isSome] wr V HJk.out h wo ⟨v,rfl,hv⟩
  have e2:rs (FO s.data.toList k)=FO s.data.toList (k+1):=rfl
  rw[e2]at HZ CS
  obtain⟨x,hx⟩:∃x,BQ (FO s.data.toList k)=x:=⟨_,rfl⟩
  obtain⟨x',hx'⟩:∃x,BQ (FO s.data.toList (k+1))=x:=⟨_,rfl⟩
  obtain⟨p,hp⟩:∃x,BQ (pc (FO s.data.toList k))=x:=⟨_,rfl⟩
  obtain⟨o,ho⟩:∃x,Cm (pc (FO s.data.toList k))=x:=⟨_,rfl⟩
  rw[hx]at CS HZ hne hne2⊢
  rw[hx']at CS HZ
  rw[hp]at CS SO
  rw[ho]at SO YV
  clear hx hp ho hsz hsp e2 hz
  gi_wp2_with fail
  refine⟨trivial,fun h=>(by cases h),(callsIn_wide.2 (CS.out _)).mono ?_⟩
  rintro _ w1 ⟨rfl,b1⟩
  gi_wp2_with fail
  refine⟨trivial,fun h=>(by cases h),(callsIn_wide.2 (SO.out _ (HE.out.below (zg.out.trans (b1.mono zg.out.size))))).mono ?_⟩
  rintro _ w2 ⟨v,rfl,ot,b2⟩
  have b12:=bu b1 b2
  obtain⟨fn,tmps,assign,body,hy,hR⟩:=YV.out w2 v b12 (Ja ot b1.size)
  clear CS SO YV
  gi_wp2
  refine⟨fun h=>(by cases h),hR.mono ?_⟩
  rintro e w3 (⟨rfl,hJ3,hk3⟩|⟨rfl,hX3⟩)
  ·have HB3:=hide ((zg.out.trans (b12.mono zg.out.size)).trans hk3)
   have HJ3:=hide hJ3
   clear hR hy hJ3 ot b1 b2 b12 hk3
   gi_wp2
   go_roundw
   case rel=>exact⟨k+1,wo,by rw[hx'],HJ3,HB3⟩
   case measure=>exact HZ.out
  clear hR hy ot b1 b2 b12
  gi_wp2
  refine bodyPost_ret (results_none rfl _ _ _) rfl ?_
  exact⟨⟨_,rfl⟩,.inr ⟨k,wo,hX3⟩⟩
theorem UX(s:ByteArray)(w:World):
 Calls Tryz.prog 167 #[.string s] w fun e w'=>e= .returned (.func (.func 176) #[] #[.pointer (some ⟨w.heap.size,0,none⟩)])∧w'=w.alloc (.cells #[.string s] 9):=by
 have zK:∀(fn:Fn)(first cap:Array Value)(w:World),(Instr.makeFunc fn first cap).run Tryz.prog w= .ok (.func fn first cap) w:=fun _ _ _ _=>rfl
 go_enter Tryz.func167,Tryz.ntmps167
 go_wp2
 go_ret
 exact⟨rfl,rfl⟩
end
section
open Go.RowKit Go.Shelf
variable [∀(a b c d:Int),Decidable (BD a b c d)]
variable [∀(a b c d:Nat),Decidable (Dj a b c d)]
variable [∀(last:Int)(s:St),Decidable (Au last s)]
variable [∀(x:T4),Decidable (Dr x)]
attribute [local go_sem] Oper.semAt_some

section keeps
variable {W W':World} {row:Option Nat} {B:Nat}
theorem OX{base e size n:Nat}{v:Value}{xs:List Value}(h:W.ownsRow base e size v n xs)(hg:W.grownBy W' row)(hr:∀r,row=some r→B≤r∧∃o:Obj,W.heap[r]? =some o∧o.isCells=false):W'.ownsRow base e size v n xs:=by
 refine h.kept hg ?_
 rcases h.2 with⟨rfl,_⟩|⟨g,cap,cur,rfl,_,hgb,_⟩
 ·exact .inl rfl
 refine .inr fun e'=>?_
 obtain⟨_,o,ho,hc⟩:=hr g (by simpa[Value.ownBlock]using e'.symm)
 rw[hgb]at ho;cases ho;cases hc
theorem Gz{b:Nat}{t:TypeId}{v:Value}(h:Boxed W b t v)(hg:W.grownBy W' row)(hr:∀r,row=some r→B≤r∧∃o:Obj,W.heap[r]? =some o∧o.isCells=false):Boxed W' b t v:=by
 refine h.kept hg fun e=>?_
 obtain⟨_,o,ho,hc⟩:=hr b e.symm
 rw[show W.heap[b]? =_ from h]at ho;cases ho;cases hc
theorem Ux{base:Nat}{v:Value}{ss:List St}{vs:List Value}(h:IY W base v ss vs)(hg:W.grownBy W' row)(hr:∀r,row=some r→B≤r∧∃o:Obj,W.heap[r]? =some o∧o.isCells=false):IY W' base v ss vs:=
 ⟨h.len,OX h.row hg hr,fun k hk=>OX (h.each k hk) hg hr,h.apart⟩
end keeps
structure Mem(w W:World)(ss:List St)(vs:List Value)(v:Value):Prop where
 r0:Boxed W w.heap.size 157 (.slice none 0 0)
 r1:Boxed W (w.heap.size+1) 4 (.bool false)
 st:Boxed W (w.heap.size+1+1) 157 v
 la:Boxed W (w.heap.size+1+1+1) 3 (.int .i64 (D8 ss))
 own:IY W (w.heap.size+5) v ss vs
 below:Below w.heap.size w W
 size:w.heap.size+5≤W.heap.size
theorem Mem.keep{w W W':World}{ss:List St}{vs:List Value}{v:Value}{row:Option Nat}{B:Nat}(h:Mem w W ss vs v)(hB:w.heap.size≤B)(hg:W.grownBy W' row)(hr:∀r,row=some r→B≤r∧∃o:Obj,W.heap[r]? =some o∧o.isCells=false):Mem w W' ss vs v:=
 ⟨Gz h.r0 hg hr,Gz h.r1 hg hr,Gz h.st hg hr,Gz h.la hg hr,Ux h.own hg hr,h.below.grown hg h.below.size (fun k e=>Nat.le_trans hB (hr k e).1),Nat.le_trans h.size hg.size⟩
theorem Qm{w W w1:World}{ss:List St}{vs:List Value}{v:Value}{tmp:Obj}(me:Mem w W ss vs v)(hg:(W.alloc tmp).grownBy w1 v.ownBlock):
 Boxed w1 w.heap.size 157 (.slice none 0 0)∧Boxed w1 (w.heap.size+1) 4 (.bool false)∧Boxed w1 (w.heap.size+1+1) 157 v∧Boxed w1 (w.heap.size+1+1+1) 3 (.int .i64 (D8 ss))∧KeepsOthers W w1∧Below w.heap.size W w1∧W.heap.size≤w1.heap.size:=by
 have hne:∀b,b<w.heap.size+5→some b≠v.ownBlock:=fun b hb e=>by
  have:=(World.ownsRow.lt me.own.row b e.symm).1
  omega
 have hz:=hg.size
 simp only[World.size_alloc]at hz
 refine⟨(me.r0.alloc tmp).kept hg (hne _ (by omega)),(me.r1.alloc tmp).kept hg (hne _ (by omega)),(me.st.alloc tmp).kept hg (hne _ (by omega)),(me.la.alloc tmp).kept hg (hne _ (by omega)),?_,?_,by omega⟩
 ·refine(KeepsOthers.alloc W tmp).trans (KeepsOthers.of_grownBy hg fun j o ej hj=>?_)
  rcases(me.own.row.alloc tmp).2 with⟨rfl,_⟩|⟨g,cap,cur,rfl,_,hgb,_⟩
  ·simp[Value.ownBlock]at ej
  obtain rfl:g=j:=by simpa[Value.ownBlock]using ej
  rw[hgb]at hj;cases hj;rfl
 have hsz:=me.below.size
 refine((Below.refl w.heap.size W).alloc hsz tmp).grown hg (by simp;omega) fun j ej=>?_
 have:=(World.ownsRow.lt me.own.row j ej).1
 omega
theorem Rp{V:World}{B:Nat}{v:Value}{ss:List St}{vs:List Value}(h:IY V B v ss vs)(b:Nat)(y:Value)(hb:b<B):IY (V.setCell ⟨b,0,none⟩ y) B v ss vs:=by
 refine h.kept (Qs V ⟨b,0,none⟩ y) ?_ fun k hk=>?_
 ·cases hv:v.ownBlock with
  |none=>exact .inl rfl
  |some g=>
   refine .inr fun e=>?_
   have:=(World.ownsRow.lt h.row g hv).1
   have e2:g=b:=by simpa using e
   omega
 cases hv:(vs.getD k (.slice none 0 0)).ownBlock with
 |none=>exact .inl rfl
 |some g=>
  refine .inr fun e=>?_
  have:=(World.ownsRow.lt (h.each k hk) g hv).1
  have e2:g=b:=by simpa using e
  omega
theorem ic{w W w1:World}{ss:List St}{vs:List Value}{v v' u:Value}{x:St}{tmp:Obj}(me:Mem w W ss vs v)(hg:(W.alloc tmp).grownBy w1 v.ownBlock)(rP:IY w1 (w.heap.size+5) v' (ss++[x]) (vs++[u])):
 Mem w ((w1.setCell ⟨w.heap.size+1+1,0,none⟩ v').setCell ⟨w.heap.size+1+1+1,0,none⟩ (.int .i64 x.1)) (ss++[x]) (vs++[u]) v'∧KeepsOthers W ((w1.setCell ⟨w.heap.size+1+1,0,none⟩ v').setCell ⟨w.heap.size+1+1+1,0,none⟩ (.int .i64 x.1))∧Below w.heap.size W ((w1.setCell ⟨w.heap.size+1+1,0,none⟩ v').setCell ⟨w.heap.size+1+1+1,0,none⟩ (.int .i64 x.1)):=by
 obtain⟨b0,b1,b2,b3,k1,bl,z⟩:=Qm me hg
 have hset:∀(V:World)(b:Nat)(y:Value),b<w.heap.size+5→IY V (w.heap.size+5) v' (ss++[x]) (vs++[u])→IY (V.setCell ⟨b,0,none⟩ y) (w.heap.size+5) v' (ss++[x]) (vs++[u]):=fun V b y hb h=>Rp h b y hb
 have bb:Below w.heap.size W ((w1.setCell ⟨w.heap.size+1+1,0,none⟩ v').setCell ⟨w.heap.size+1+1+1,0,none⟩ (.int .i64 x.1)):=(bl.setCell (p:=⟨w.heap.size+1+1,0,none⟩) (by show w.heap.size≤w.heap.size+1+1;omega) _).setCell (p:=⟨w.heap.size+1+1+1,0,none⟩) (by show w.heap.size≤w.heap.size+1+1+1;omega) _
 refine⟨⟨(b0.other (by omega) _).other (by omega) _,(b1.other (by omega) _).other (by omega) _,(b2.set _).other (by omega) _,?_,hset _ _ _ (by omega) (hset _ _ _ (by omega) rP),me.below.trans bb,?_⟩,(k1.trans (KeepsOthers.setCell _ _ _)).trans (KeepsOthers.setCell _ _ _),bb⟩
 ·rw[Ou];exact(b3.other (by omega) _).set _
 have:=bb.size
 have:=me.size
 omega
theorem l9{w W w1:World}{ss:List St}{vs:List Value}{va ta:Option Addr}{vc tc N Q:Nat}{n:Int}{ts:List T4}{v':Value}(me:Mem w W ss vs (.slice va ss.length vc))(hN:∀j,j<ss.length→∀b,(vs.getD j (.slice none 0 0)).ownBlock=some b→b<N)(hbN:w.heap.size+5≤N)
 (ot:OT (W.alloc (.cells #[.int .i64 n,.slice ta ts.length tc] 182)) N (.slice ta ts.length tc) ts) (q0:W.cell? ⟨Q,0,none⟩=some (.int .i64 n)) (hvq:∀b,(Value.slice va ss.length vc).ownBlock=some b→b≠Q) (hQ:w.heap.size+5≤Q)
 (ho:w1.ownsRow (w.heap.size+5) 182 2 v' (ss.length+1) (FJ ((ss.map (·.1)).zip vs)++FN (n,.slice ta ts.length tc))) (hg:(W.alloc (.cells #[.int .i64 n,.slice ta ts.length tc] 182)).grownBy w1 (Value.slice va ss.length vc).ownBlock):
 ∃g' cap',v'= .slice (some ⟨g',0,none⟩) (ss.length+1) cap'∧w1.cell? ⟨w.heap.size+1+1,0,none⟩=some (.slice va ss.length vc)∧w1.frozen? ⟨w.heap.size+1+1,0,none⟩=false∧
  (w1.setCell ⟨w.heap.size+1+1,0,none⟩ v').cell? ⟨w.heap.size+1+1+1,0,none⟩=some (.int .i64 (D8 ss))∧(w1.setCell ⟨w.heap.size+1+1,0,none⟩ v').frozen? ⟨w.heap.size+1+1+1,0,none⟩=false∧(w1.setCell ⟨w.heap.size+1+1,0,none⟩ v').cell? ⟨Q,0,none⟩=some (.int .i64 n)∧
  Hid (Mem w ((w1.setCell ⟨w.heap.size+1+1,0,none⟩ v').setCell ⟨w.heap.size+1+1+1,0,none⟩ (.int .i64 n)) (ss++[(n,ts)]) (vs++[.slice ta ts.length tc]) v'∧KeepsOthers W ((w1.setCell ⟨w.heap.size+1+1,0,none⟩ v').setCell ⟨w.heap.size+1+1+1,0,none⟩ (.int .i64 n))∧Below w.heap.size W ((w1.setCell ⟨w.heap.size+1+1,0,none⟩ v').setCell ⟨w.heap.size+1+1+1,0,none⟩ (.int .i64 n))):=by
 have bX:Below W.heap.size W (W.alloc (.cells #[.int .i64 n,.slice ta ts.length tc] 182)):=(Below.refl _ _).alloc (Nat.le_refl _) _
 have rP:=Uw (me.own.below bX) ot hN hbN ho hg
 obtain⟨g',cap',e⟩:=ownsRow_succ ho
 obtain⟨_,_,b2,b3,_,_,_⟩:=Qm me hg
 have b3':=b3.other (B':=w.heap.size+1+1) (by omega) v'
 have hq1:w1.heap[Q]? =W.heap[Q]?:=(hg.block Q (by have:=AY q0;simp at *; omega) (fun e=>hvq Q e.symm rfl)).trans (Below.heap_alloc _ _ _ (AY q0))
 have p0:w1.cell? ⟨Q,0,none⟩=some (.int .i64 n):=(World.cell?_of_block (w:=W) (w':=w1) hq1).trans q0
 exact⟨g',cap',e,b2.cell,b2.frozen,b3'.cell,b3'.frozen,(World.cell?_setCell_other _ _ _ _ (fun e=>by have:=congrArg Addr.block e;simp only at this;omega)).trans p0,hide (ic (x:=(n,ts)) me hg rP)⟩
def j6(s:ByteArray)(k:Nat)(ss:List St):Prop:=ss.length=k∧s.data.toList=nm ss++FO s.data.toList k∧IJ ss
def SI(s:ByteArray)(w:World)(k:Nat)(W:World):Prop:=∃ss vs v,j6 s k ss∧Mem w W ss vs v
def SX(s:ByteArray)(w:World)(_:Nat)(W:World):Prop:=AQ s=none∧Boxed W w.heap.size 157 (.slice none 0 0)∧Boxed W (w.heap.size+1) 4 (.bool false)∧Below w.heap.size w W
abbrev AAz(w:World):Value:= .func (.func 176) #[] #[.pointer (some ⟨w.heap.size+1+1+1+1,0,none⟩)]
def SA(s:ByteArray)(w:World)(k:Nat)(a':Act)(W:World):Prop:=∃(ss:List St)(vs:List Value)(v u:Value)(N Q:Nat),j6 s k ss∧Mem w W ss vs v∧(∀j,j<ss.length→∀b,(vs.getD j (.slice none 0 0)).ownBlock=some b→b<N)∧w.heap.size+5≤N∧OT W N u (stepT (Cm (pc (FO s.data.toList k))))∧
 w.heap.size+5≤Q∧Two W Q (((Cm (pc (FO s.data.toList k))).map (·.1)).getD 0) u∧(∀b,v.ownBlock=some b→b≠Q)∧
 a'={ tmps:= #[.string s,undef,.pointer (some ⟨w.heap.size,0,none⟩),.pointer (some ⟨w.heap.size+1,0,none⟩),.pointer (some ⟨w.heap.size+1+1,0,none⟩),.pointer (some ⟨w.heap.size+1+1+1,0,none⟩),.pointer (some ⟨Q,0,none⟩),.bool (Cm (pc (FO s.data.toList k))).isSome,.string s,AAz w,Ih (Cm (pc (FO s.data.toList k))) u,.bool (Cm (pc (FO s.data.toList k))).isSome,undef,undef,undef,undef,undef,undef,undef,undef,undef,undef,undef,undef,undef,undef,undef,undef,undef,undef,undef,undef,undef,undef,undef,undef,undef,undef,undef,undef],defers:=[] }

theorem LF(s:ByteArray)(w:World)(hs:s.size≤33554432)(hE:Env w):
 Calls Tryz.prog 151 #[.string s] w fun e w'=>∃v,e= .returned (.tuple #[v,.bool (AQ s).isSome])∧Zh w' w.heap.size v ((AQ s).getD [])∧Below w.heap.size w w':=by
 obtain⟨m,hm⟩:=rounds s.data.toList
 have SO:=hide fun w=>UX s w
 refine(callsIn_wide (n:=5)).1 ?_
 refine callsIn_of_wp_marks Tryz.func151 rfl trivial ?_ rfl
 simp only[Tryz.ntmps151,List.size_toArray,List.length_cons,List.length_nil,Nat.reduceAdd,Nat.reduceSub,Array.replicate_succ,Array.replicate_zero,List.push_toArray,List.append_toArray,List.nil_append,List.cons_append]
 gi_wp2_with fail
 refine⟨trivial,(callsIn_wide.2 (SO.out _)).mono ?_⟩
 rintro _ w1 ⟨rfl,rfl⟩
 gi_wp2
 obtain⟨wl,hwl⟩:∃wl,((((w.alloc (.cells #[.slice none 0 0] 157)).alloc (.cells #[.bool false] 4)).alloc (.cells #[.slice none 0 0] 157)).alloc (.cells #[.int .i64 0] 3)).alloc (.cells #[.string s] 9)=wl:=⟨_,rfl⟩
 have zl:wl.heap.size=w.heap.size+5:=by rw[←hwl];simp
 have bl:Below w.heap.size w wl:=hwl▸(((((Below.refl _ _).alloc (Nat.le_refl _) _).alloc (by simp) _).alloc (by simp;omega) _).alloc (by simp;omega) _).alloc (by simp;omega) _
 have m0:Mem w wl [] [] (.slice none 0 0):=by
  refine⟨?_,?_,?_,?_,⟨rfl,World.ownsRow_nil _ _ _ _,fun k hk=>by simp at hk,fun i j _ hj=>by simp at hj⟩,bl,by omega⟩
  ·rw[←hwl];exact((((Boxed.new w _ _).alloc _).alloc _).alloc _).alloc _
  ·rw[←hwl];have:=(((Boxed.new (w.alloc (.cells #[.slice none 0 0] 157)) 4 (.bool false)).alloc (.cells #[.slice none 0 0] 157)).alloc (.cells #[.int .i64 0] 3)).alloc (.cells #[.string s] 9);simpa using this
  ·rw[←hwl];have:=((Boxed.new ((w.alloc (.cells #[.slice none 0 0] 157)).alloc (.cells #[.bool false] 4)) 157 (.slice none 0 0)).alloc (.cells #[.int .i64 0] 3)).alloc (.cells #[.string s] 9);simpa using this
  rw[←hwl];have:=(Boxed.new (((w.alloc (.cells #[.slice none 0 0] 157)).alloc (.cells #[.bool false] 4)).alloc (.cells #[.slice none 0 0] 157)) 3 (.int .i64 0)).alloc (.cells #[.string s] 9);simpa[D8]using this
 have cl:wl.cell? ⟨w.heap.size+4,0,none⟩=some (.string s):=by
  have:=(Boxed.new ((((w.alloc (.cells #[.slice none 0 0] 157)).alloc (.cells #[.bool false] 4)).alloc (.cells #[.slice none 0 0] 157)).alloc (.cells #[.int .i64 0] 3)) 9 (.string s)).cell
  rw[hwl]at this
  simpa using this
 have hzz:((((w.alloc (.cells #[.slice none 0 0] 157)).alloc (.cells #[.bool false] 4)).alloc (.cells #[.slice none 0 0] 157)).alloc (.cells #[.int .i64 0] 3)).heap.size=w.heap.size+4:=by simp
 have FE:=Xy s hs m (w.heap.size+4) 4 hm w wl hE bl cl
 rw[hwl]
 try simp only[hzz]
 clear hwl hzz
 refine aU rfl (by omega) (gf:=176) (lb:= #[.pointer (some ⟨w.heap.size+4,0,none⟩)]) rfl trivial (enters_of Tryz.func176 (by kernel_rfl) rfl) (hn₀:=by omega) (fun k vs U W h=>by obtain⟨v,rfl,_⟩:=h;rfl) FE
  (SI s w) (SX s w) ?hI ?hX ?h0 (SA s w) ?hAx ?hassign ?hbody ?hdone ?hstop
 case hI=>
  rintro k W W' row ⟨ss,vs,v,so,me⟩ hg hr
  exact⟨ss,vs,v,so,me.keep (by omega) hg hr⟩
 case hX=>
  rintro k W W' row ⟨h1,h2,h3,h4⟩ hg hr
  exact⟨h1,Gz h2 hg hr,Gz h3 hg hr,h4.grown hg h4.size (fun k e=>by have:=(hr k e).1;omega)⟩
 case h0=>exact⟨[],[],_,⟨rfl,rfl,by simp[IJ]⟩,m0⟩
 case hAx=>
  rintro a' k W W' row ⟨ss,vs,v,u,N,Q,so,me,h1,h2,h3,h4,h5,h7,h8⟩ hg hr
  exact⟨ss,vs,v,u,N,Q,so,me.keep (by omega) hg hr,h1,h2,OX h3 hg hr,h4,⟨cell_kept h5.1 hg (fun r e=>(hr r e).2),cell_kept h5.2 hg (fun r e=>(hr r e).2)⟩,h7,h8⟩
 case hassign=>
  intro l k vs U W K hk hi bU hh hK
  obtain⟨ss,ws,v,so,me⟩:=hi
  obtain⟨u,rfl,ot⟩:=hh
  have hN:∀j,j<ss.length→∀b,(ws.getD j (.slice none 0 0)).ownBlock=some b→b<U.heap.size:=fun j hj b hb=>(World.ownsRow.lt (me.own.each j hj) b hb).2
  have hV:∀b,v.ownBlock=some b→b<U.heap.size:=fun b hb=>(World.ownsRow.lt me.own.row b hb).2
  have hU:=me.size
  have hUW:=bU.size
  have meW:=me.keep (B:=w.heap.size) (Nat.le_refl _) (grown_of bU) (fun r e=>by cases e)
  obtain⟨ta,tl,tc,rfl⟩:∃ta tl tc,u= .slice ta tl tc:=by
   rcases ot.2 with⟨rfl,h0⟩|⟨g,cap,cur,rfl,_⟩
   ·exact⟨none,0,0,rfl⟩
   exact⟨_,_,_,rfl⟩
  have SAK:∀a',a'=_→SA s w k a' (W.alloc (.cells #[.int .i64 (((Cm (pc (FO s.data.toList k))).map (·.1)).getD 0),.slice ta tl tc] 182)):=fun a' ha=>⟨ss,ws,v,.slice ta tl tc,U.heap.size,W.heap.size,so,meW.keep (B:=w.heap.size) (Nat.le_refl _) (World.grownBy_alloc W _ none) (fun r e=>by cases e),hN,hU,World.ownsRow.alloc ot _,by omega,Y9 W _ _ _,fun b hb=>by have:=hV b hb;omega,ha⟩
  have bA:Below w.heap.size W (W.alloc (.cells #[.int .i64 (((Cm (pc (FO s.data.toList k))).map (·.1)).getD 0),.slice ta tl tc] 182)):=(Below.refl _ _).alloc (by omega) _
  have kA:KeepsFrom wl.heap.size W (W.alloc (.cells #[.int .i64 (((Cm (pc (FO s.data.toList k))).map (·.1)).getD 0),.slice ta tl tc] 182)):=(KeepsOthers.alloc _ _).from _
  clear hN hV meW me ot so FE hE
  gi_wp2
  exact hK _ _ kA bA (SAK _ rfl)
 case hbody=>
  rintro l k a' W hk ⟨ss,vs,v,u,N,Q,so,me,hN,hbN,ot,hQ,two,hvq,rfl⟩
  have c0:=me.r0.cell
  have f0:=me.r0.frozen
  have c1:=me.r1.cell
  have f1:=me.r1.frozen
  have c2:=me.st.cell
  have c3:=me.la.cell
  have hl0:=VI so.2.2
  have ADA:=so.2.2.1
  have NO:Hid ((∀x,Cm (pc (FO s.data.toList k))=some x→Au (D8 ss) x→ss.length<30→False)→AQ s=none):=hide fun h=>by
   refine iN so.2.1 (hm.2 k hk) so.2.2 ?_ h
   cases k with
   |zero=>exact .inl (List.length_eq_zero_iff.1 so.1)
   |succ k=>exact .inr ((l_ (FO s.data.toList k)).resolve_left (hm.2 (k+1) hk))
  have OUT:Hid (AQ s=none→SX s w k ((W.setCell ⟨w.heap.size,0,none⟩ (.slice none 0 0)).setCell ⟨w.heap.size+1,0,none⟩ (.bool false))∧KeepsFrom wl.heap.size W ((W.setCell ⟨w.heap.size,0,none⟩ (.slice none 0 0)).setCell ⟨w.heap.size+1,0,none⟩ (.bool false))):=hide fun h=>⟨⟨h,(me.r0.set _).other (by omega) _,(me.r1.other (by omega) _).set _,(me.below.setCell (p:=⟨w.heap.size,0,none⟩) (Nat.le_refl _) _).setCell (p:=⟨w.heap.size+1,0,none⟩) (by show w.heap.size≤w.heap.size+1;omega) _⟩,((KeepsOthers.setCell _ _ _).trans (KeepsOthers.setCell _ _ _)).from _⟩
  obtain⟨va,vc,rfl⟩:=Zh.form ⟨vs,me.own⟩
  obtain⟨q0,q1⟩:=two
  have ON:Hid (∀x,Cm (pc (FO s.data.toList k))=some x→Au (D8 ss) x→ss.length<30→j6 s (k+1) (ss++[x])):=hide fun x hx hg h30=>by
   obtain⟨h1,h2⟩:=iM so.2.1 so.2.2 hx hg h30
   exact⟨by simp[so.1],h1,h2⟩
  obtain⟨o,ho⟩:∃o,Cm (pc (FO s.data.toList k))=o:=⟨_,rfl⟩
  rw[ho]at NO ON ot q0⊢
  have ME:=hide me
  clear FE hm so me ho hE cl m0 bl
  cases o with
  |none=>
   have OUT:=hide (OUT.out (NO.out fun x hx=>by cases hx))
   clear NO ON
   simp only[Option.isSome_none,Option.map_none,Option.getD_none,Ih]at *
   gi_wp2_with fail
   refine⟨trivial,?_⟩
   gi_wp2
   exact⟨OUT.out.2,OUT.out.1⟩
  | some x=>
   obtain⟨n,ts⟩:=x
   simp only[Option.isSome_some,Option.map_some,Option.getD_some,Ih,stepT]at *
   obtain⟨ta,tc,rfl⟩:∃ta tc,u= .slice ta ts.length tc:=by
    rcases ot.2 with⟨rfl,h0⟩|⟨g,cap,cur,rfl,_⟩
    ·exact⟨none,0,by rw[h0]⟩
    exact⟨_,_,rfl⟩
   have OT':=hide ot
   clear ot
   by_cases g0:ss.length=30
   ·have OUT:=hide (OUT.out (NO.out fun x _ _ h=>by omega))
    clear NO ON
    have g0':decide ((ss.length:Int)=30)=true:=by simp;omega
    gi_wp2_with fail
    refine⟨trivial,?_⟩
    gi_wp2
    exact⟨OUT.out.2,OUT.out.1⟩
   have g0':decide ((ss.length:Int)=30)=false:=by simp;omega
   have g0b:(((ss.length:Nat):Int)==30)=false:=by rw[beq_eq_false_iff_ne];omega
   by_cases g3:2<ts.length
   ·have OUT:=hide (OUT.out (NO.out fun x hx h _=>by cases hx;have:=h.2.2;simp only at this;omega))
    clear NO ON
    have g3':decide ((2:Int)<(ts.length:Int))=true:=by simp;omega
    gi_wp2_with fail
    refine⟨trivial,?_⟩
    gi_wp2
    exact⟨OUT.out.2,OUT.out.1⟩
   have g3':decide ((2:Int)<(ts.length:Int))=false:=by simp;omega
   by_cases g1:D8 ss+1≤n∧n≤60
   ·have WI:=hide fun w=>Cf n (D8 ss+1) 60 w g1.1 g1.2
    have ON:=hide (ON.out (n,ts) rfl ⟨by show D8 ss<n;omega,g1.2,by show ts.length≤2;omega⟩ (by omega))
    clear NO OUT
    obtain⟨i0,hi,hz0,hz1,hz2⟩:=info_parts Tryz.infoSt
    have me:=ME.out
    have sz:=me.size
    have bX:Below W.heap.size W (W.alloc (.cells #[.int .i64 n,.slice ta ts.length tc] 182)):=(Below.refl _ _).alloc (Nat.le_refl _) _
    have Rs:=me.own.below bX
    have wK:=OT'.out.below bX
    clear OT' me
    gi_wp2_with fail
    refine⟨trivial,(CallsIn.inRound l (callsIn_wide.2 (WI.out _))).mono ?_⟩
    rintro _ w2 ⟨rfl,rfl⟩
    gi_wp2_with (gi_at_builtin;refine wpListIn_append_own _ rfl _ _ 157 rfl (w.heap.size+5) 182 i0 (.agg #[.int .i64 0,.slice none 0 0]) 2 32 Tryz.underlying157 hi hz0 hz1 hz2 rfl (by decide) _ _ _ rfl Rs.row ⟨w2.heap.size,0,none⟩ 1 1 (FN (n,.slice ta ts.length tc)) rfl rfl (Ty w2 (n,.slice ta ts.length tc) 182) (QN _ _ _ _) (by unfold maxLen;omega) (by omega) (by simp;omega) ?_;intro v' w1 hown' hgrow _;obtain⟨g',cap',rfl,d2,e2,d3,e3,p1,MM⟩:=l9 ME.out hN hbN wK q0 hvq hQ hown' hgrow;clear hgrow hown' Rs wK ME q0 q1 c0 c1 c2 c3 f0 f1 bX)
    exact⟨MM.out.2.1.from _,MM.out.2.2,⟨_,_,_,ON.out,MM.out.1⟩⟩
   have OUT:=hide (OUT.out (NO.out fun x hx h _=>by cases hx;have h1:=h.1;have h2:=h.2.1;simp only at h1 h2;omega))
   have WI:=hide fun w=>Di n (D8 ss+1) 60 w (by omega)
   clear NO ON
   gi_wp2_with fail
   refine⟨trivial,(CallsIn.inRound l (callsIn_wide.2 (WI.out _))).mono ?_⟩
   rintro _ w2 ⟨rfl,rfl⟩
   gi_wp2
   exact⟨OUT.out.2,OUT.out.1⟩
 case hdone=>
  rintro D W hD ⟨ss,vs,v,so,me⟩ hK
  have HA:=hide (ag (by have:=so.2.1;rwa [hm.1]at this) so.2.2)
  obtain⟨va,vc,rfl⟩:=Zh.form ⟨vs,me.own⟩
  have c0:=me.r0.cell
  have f0:=me.r0.frozen
  have b1:=me.r1.other (B':=w.heap.size) (by omega) (.slice va ss.length vc)
  have c1:=b1.cell
  have f1:=b1.frozen
  have c2:=me.st.cell
  have ME:=hide me
  have B0:=(((me.r0.set (.slice va ss.length vc)).other (B':=w.heap.size+1) (by omega) (.bool true)).kept (grownBy_putObj' _ D (.deferred none)) (fun e=>by cases e;omega)).cell
  have B1:=((b1.set (.bool true)).kept (grownBy_putObj' _ D (.deferred none)) (fun e=>by cases e;omega)).cell
  have hK':=(KeepsOthers.setCell (W.setCell ⟨w.heap.size,0,none⟩ (.slice va ss.length vc)) ⟨w.heap.size+1,0,none⟩ (.bool true)).same D _ ((KeepsOthers.setCell W ⟨w.heap.size,0,none⟩ (.slice va ss.length vc)).same D _ hK rfl) rfl
  clear FE hm so me hE cl m0 bl b1
  gi_wp2
  refine⟨by simp,.inl ⟨_,_,rfl,run_takeDeferred hK',?_⟩⟩
  refine⟨.tuple #[.slice va ss.length vc,.bool true],by simp[results,Tryz.results151,go_sem,B0,B1],.slice va ss.length vc,by rw[HA.out];rfl,?_,?_⟩
  ·rw[HA.out]
   have h1:=Rp (Rp ME.out.own w.heap.size (.slice va ss.length vc) (by omega)) (w.heap.size+1) (.bool true) (by omega)
   have h2:=Ux (B:=0) h1 (grownBy_putObj' _ D (.deferred none)) (fun r e=>by cases e;exact⟨Nat.zero_le _,_,hK',rfl⟩)
   exact⟨vs,h2.len,I5 h2.row (by omega),fun k hk=>I5 (h2.each k hk) (by omega),h2.apart⟩
  exact((ME.out.below.setCell (p:=⟨w.heap.size,0,none⟩) (Nat.le_refl _) _).setCell (p:=⟨w.heap.size+1,0,none⟩) (by show w.heap.size≤w.heap.size+1;omega) _).trans (belowK_b (w:=w) (Nat.le_refl _) _ D _ _ (by omega) hK' rfl rfl)
 case hstop=>
  rintro D k W hD hk ⟨hn,b0,b1,fF⟩ hK
  have B0:=(b0.kept (grownBy_putObj' _ D (.deferred none)) (fun e=>by cases e;omega)).cell
  have B1:=(b1.kept (grownBy_putObj' _ D (.deferred none)) (fun e=>by cases e;omega)).cell
  clear FE hm hE cl m0 bl
  gi_wp2
  refine⟨by simp,.inl ⟨_,_,rfl,run_takeDeferred hK,?_⟩⟩
  refine⟨.tuple #[.slice none 0 0,.bool false],by simp[results,Tryz.results151,go_sem,B0,B1],.slice none 0 0,by rw[hn];rfl,by rw[hn];exact mK _ _,?_⟩
  exact fF.trans (belowK_b (w:=w) (Nat.le_refl _) _ D _ _ (by omega) hK rfl rfl)
end
section
open Go.RowKit
variable [∀(a b c d:Int),Decidable (BD a b c d)]
variable [∀(a b c d:Nat),Decidable (Dj a b c d)]
variable [∀(last:Int)(s:St),Decidable (Au last s)]
variable [∀(x:T4),Decidable (Dr x)]
theorem X_(s:ByteArray)(w:World)(hs:s.size≤33554432)(hE:Env w):
 Calls Tryz.prog 123 #[.string s] w fun e w'=>e= .returned (.bool (AQ s).isSome)∧Below w.heap.size w w':=by
 have ST:=hide fun w hE=>LF s w hs hE
 generalize AQ s=A at *
 go_enter Tryz.func123,Tryz.ntmps123
 go_wp2_with fail
 refine(ST.out _ hE).mono ?_
 rintro e w1 ⟨v,rfl,_,b1⟩
 go_wp2
 go_ret
 exact⟨rfl,b1⟩


theorem O6(s:ByteArray)(w:World)(hs:s.size≤33554432)(hE:Env w):
 Calls Tryz.prog 262 #[.string s] w fun e w'=>e= .returned (.int .i64 (Be s))∧Below w.heap.size w w':=by
 have ST:=hide fun w hE=>LF s w hs hE
 have hl:∀ss,AQ s=some ss→ss.length≤30:=fun ss h=>((Cc _ _).1 h).2.1
 unfold Be
 generalize AQ s=A at *
 go_enter Tryz.func262,Tryz.ntmps262
 go_wp2_with fail
 refine(ST.out _ hE).mono ?_
 rintro e w1 ⟨v,rfl,o1,b1⟩
 obtain⟨ao,ca,rfl⟩:=o1.form
 clear o1 ST hE
 cases A with
 |none=>
  go_wp2
  go_ret
  exact⟨rfl,b1⟩
 |some ss=>
  have hl:=hl ss rfl
  go_wp2
  go_ret
  exact⟨rfl,b1⟩


theorem Ox(s:ByteArray)(w:World)(hs:s.size≤33554432)(hE:Env w):
 Calls Tryz.prog 165 #[.string s] w fun e w'=>e= .returned (.int .i64 (Aq s))∧Below w.heap.size w w':=by
 have ST:=hide fun w hE=>LF s w hs hE
 have hl:∀ss,AQ s=some ss→ss.length≤30∧∀x ∈ ss,Lg x:=fun ss h=>⟨((Cc _ _).1 h).2.1,((Cc _ _).1 h).2.2.1⟩
 unfold Aq
 generalize AQ s=A at *
 go_enter Tryz.func165,Tryz.ntmps165
 go_wp2_with fail
 refine(ST.out _ hE).mono ?_
 rintro e w1 ⟨v,rfl,o1,b1⟩
 cases A with
 |none=>
  obtain⟨ao,ca,rfl⟩:=o1.form
  clear o1 ST hl
  go_wp2
  go_ret
  exact⟨rfl,b1⟩
 | some ss=>
  obtain⟨hl,hok⟩:=hl ss rfl
  obtain⟨ao,ca,hv,r⟩:=o1.WK (fun x hx=>by have:=(hok x hx).2.1;omega)
  subst hv
  clear o1 ST hok
  simp only[Option.getD_some]at *
  rcases r with rfl|⟨g,rfl,r⟩
  ·go_wp2
   go_ret
   exact⟨rfl,b1⟩
  by_cases h0:ss.length=0
  ·obtain rfl:=List.length_eq_zero_iff.1 h0
   go_wp2
   go_ret
   exact⟨rfl,b1⟩
  obtain⟨n,hn⟩:∃n,ss.length=n+1:=⟨ss.length-1,by omega⟩
  obtain⟨u,c0,c1,_⟩:=r n (by omega)
  have hlast:=hide (show(ss.getLast?.map (·.1)).getD 0=(ss.getD n kT).1 by
   rw[List.getLast?_eq_getElem?,List.getD_eq_getElem?_getD,List.getElem?_eq_getElem (show ss.length-1<ss.length by omega),List.getElem?_eq_getElem (show n<ss.length by omega)]
   simp[hn])
  have hi:((n+1:Nat):Int)-1=n:=by omega
  generalize (ss.getD n kT).1=x at *
  clear r h0
  go_wp2
  go_ret
  exact⟨by rw[show((some ss).getD [])=ss from rfl,hlast.out];rfl,b1⟩


theorem mq{s:ByteArray}{ss:List St}(h:AQ s=some ss)(h1:1≤ss.length):∃k:Nat,k<s.size∧Lib.lastIndexByte s 47=k∧s.extract 0 k=FM s:=by
 have hat:∀j,j<s.size→s.data.toList[j]? =some s.data[j]!:=fun j hj=>by
  rw[getElem!_pos s.data j (by simpa using hj)];simp
 have hl:s.data.toList.length=s.size:=by simp
 rcases Lib.lastIndexByte_spec s 47 with⟨_,h2⟩|⟨i,hi,e,hx,hn⟩
 ·exfalso
  obtain⟨h3,_⟩:=(Cc _ _).1 h
  cases ss with
  |nil=>simp at h1
  | cons x ss=>
   have h0:s.data.toList[0]? =some 47:=by rw[h3];rfl
   have hz:0<s.size:=by
    have:=(List.getElem?_eq_some_iff.1 h0).1
    omega
   have:=h2 0 hz
   rw[hat 0 hz]at h0
   rw[Option.some.inj h0]at this
   exact this rfl
 refine⟨i,hi,e,?_⟩
 have hi':s.data.toList[i]? =some 47:=by
  rw[hat i hi];congr 1
  exact UInt8.toNat_inj.1 (by show s.data[i]!.toNat=47;omega)
 have hd:(47:UInt8) ∉ s.data.toList.drop (i+1):=fun hm=>by
  obtain⟨j,hj,e2⟩:=List.getElem_of_mem hm
  rw[List.length_drop]at hj
  rw[List.getElem_drop]at e2
  have hj2:i+1+j<s.size:=by omega
  have h4:=hat _ hj2
  rw[List.getElem?_eq_getElem (by omega),e2]at h4
  have:=hn (i+1+j) (by omega) hj2
  rw[←Option.some.inj h4]at this
  exact this rfl
 have:=gM h (i+1) (by omega) hd (.inr hi')
 rw[←this,Kh];simp

theorem jE(s:ByteArray)(w:World)(hs:s.size≤33554432)(hE:Env w):
 Calls Tryz.prog 263 #[.string s] w fun e w'=>e= .returned (.string (FM s))∧Below w.heap.size w w':=by
 have HT:=hide fun w hE=>O6 s w hs hE
 have LM:=hide fun w=>dD 47 s w hs
 have hc:Be s<1→FM s=⟨#[]⟩:=fun h=>by
  unfold Be at h
  unfold FM
  cases e:AQ s with
  |none=>rfl
  |some ss=>
   rw[e]at h
   have:ss=[]:=List.length_eq_zero_iff.1 (by simp only at h;omega)
   subst this;rfl
 have hh:¬Be s<1→∃k:Nat,k<s.size∧Lib.lastIndexByte s 47=k∧s.extract 0 k=FM s:=fun h=>by
  unfold Be at h
  cases e:AQ s with
  |none=>rw[e]at h;simp at h
  |some ss=>rw[e]at h;exact mq e (by simp only at h;omega)
 have e47:(((47:UInt8).toNat:Nat):Int)=47:=rfl
 rw[e47]at LM
 generalize Be s=n at *
 by_cases hn:n<1
 ·rw[hc hn]
  clear LM hc hh
  have hn':decide (n<1)=true:=by simpa using hn
  go_enter Tryz.func263,Tryz.ntmps263
  go_wp2_with fail
  refine(HT.out _ hE).mono ?_
  rintro _ w1 ⟨rfl,b1⟩
  clear HT hE
  go_wp2
  go_ret
  exact⟨rfl,b1⟩
 obtain⟨k,hk,e1,e2⟩:=hh hn
 rw[e1]at LM
 rw[←e2]
 have CL:=hide fun w=>D_ (s.extract 0 k) w (by rw[ByteArray.size_extract];omega)
 clear hc hh e1 e2
 have hn':decide (n<1)=false:=by simpa using hn
 go_enter Tryz.func263,Tryz.ntmps263
 go_wp2_with fail
 refine(HT.out _ hE).mono ?_
 rintro _ w1 ⟨rfl,b1⟩
 clear HT hE
 go_wp2_with fail
 refine(LM.out _).mono ?_
 rintro _ w2 ⟨rfl,rfl⟩
 go_wp2_with fail
 refine(CL.out _).mono ?_
 rintro _ w3 ⟨rfl,b3⟩
 go_wp2
 go_ret
 exact⟨rfl,bu b1 b3⟩
end
section
open Go.RowKit
theorem Ow(xs:List Int)(k:Nat)(h:k<xs.length):xs.take (k+1)=xs.take k++[xs.getD k 0]:=by
 rw[List.take_succ_eq_append_getElem h,List.getD_eq_getElem?_getD,List.getElem?_eq_getElem h];rfl
theorem SS{xs:List Int}{k:Nat}(h:k<xs.length):xs.getD k 0 ∈ xs:=by
 rw[List.getD_eq_getElem?_getD,List.getElem?_eq_getElem h];exact List.getElem_mem h
end
end Go.Proofs.YtkmnfeihjjccmaaGreatDoor
