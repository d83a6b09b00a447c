/- Lemmas, as stated. -/
import Derived.Test.YtcjmcgolgbkknaaGreatDoorTAAS
import Derived.RangeFuncNested
import Derived.RangeFuncBound
set_option maxRecDepth 100000
set_option maxHeartbeats 1000000
set_option linter.unusedSectionVars false
namespace Go.Proofs.YtcjmcgolgbkknaaGreatDoor
section
open Go.RowKit
variable [∀(a b c d:Int),Decidable (BG a b c d)] [∀(a b c d:Nat),Decidable (DZ a b c d)] [∀(last:Int)(s:St),Decidable (Aq last s)] [∀(x:T4),Decidable (Du x)]
def jb(b:UInt8):List (List UInt8)→List UInt8
 | []=>[]
 | [p]=>p
 |p :: q :: r=>p++b :: jb b (q :: r)
theorem SN(b:UInt8)(p:List UInt8)(ps:List (List UInt8)):jb b (p :: ps)=p++ps.flatMap (fun t=>b :: t):=by
 induction ps generalizing p with
 |nil=>simp[jb]
 |cons q ps ih=>rw[jb,ih];simp
theorem mW(b:UInt8)(ps:List (List UInt8))(p:List UInt8):jb b (ps++[p])=(if 0<ps.length then jb b ps++[b]else jb b ps)++p:=by
 cases ps with
 |nil=>simp[jb]
 |cons x ps=>rw[List.cons_append,SN,SN];simp
theorem dU(b:UInt8)(ps qs:List (List UInt8))(hp:∀p ∈ ps,b ∉ p)(hq:∀q ∈ qs,b ∉ q)(hn:ps≠[])(hm:qs≠[])(h:jb b ps=jb b qs):ps=qs:=by
 induction ps generalizing qs with
 |nil=>exact absurd rfl hn
 | cons p ps ih=>
  cases qs with
  |nil=>exact absurd rfl hm
  | cons q qs=>
   have hp0:=hp p (by simp);have hq0:=hq q (by simp);cases ps with
   |nil=>
    cases qs with
    |nil=>simp[jb]at h;rw[h]
    |cons q' qs=>simp only[jb]at h;rw[h]at hp0;simp at hp0
   | cons p' ps=>
    cases qs with
    |nil=>simp only[jb]at h;rw[←h]at hq0;simp at hq0
    |cons q' qs=>
     simp only[jb]at h;have e1:p=q:=by rw[←D5 (y:=jb b (p' :: ps)) hp0,h,D5 hq0]
     have e2:jb b (p' :: ps)=jb b (q' :: qs):=by rw[←ET (x:=p) (y:=jb b (p' :: ps)) hp0,h,ET hq0]
     rw[e1,ih (q' :: qs) (fun x hx=>hp x (by simp at hx⊢;exact .inr hx)) (fun x hx=>hq x (by simp at hx⊢;exact .inr hx)) (by simp) (by simp) e2]
theorem dP(b:UInt8)(ps:List ByteArray)(k:Nat)(hk:k≤ps.length):Cu b ps k=jb b ((ps.take k).map fun s=>s.data.toList):=by
 induction k with
 |zero=>simp[Cu,jb]
 |succ k ih=>
  rw[Cu,ih (by omega),I_ ps k (by omega),List.map_append,List.map_singleton,mW];simp only[List.length_map,List.length_take];rw[show min k ps.length=k from by omega]
theorem Xk(s:ByteArray)(b:UInt8)(k:Nat)(hk:k≤s.size):(∀p ∈ (Gt s b.toNat k).1,b ∉ p.data.toList)∧b ∉ (s.data.toList.drop (Gt s b.toNat k).2).take (k-(Gt s b.toNat k).2):=by
 induction k with
 |zero=>simp[Gt]
 | succ k ih=>
  obtain⟨h1,h2⟩:=ih (by omega);have hle:=(Jh s b.toNat k).1;by_cases hb:(s[k].toNat:Int)=b.toNat
  ·rw[KQ s b.toNat k (by omega) hb];refine⟨fun p hp=>?_,by simp⟩;rw[List.mem_append]at hp;rcases hp with hp|hp
   ·exact h1 p hp
   simp at hp;rw[hp,ext_list];exact h2
  rw[Iq s b.toNat k (by omega) hb];refine⟨h1,?_⟩
  exact Hw (m:=b) (l:=s.data.toList) (n:=(Gt s b.toNat k).2) (pos:=k) (v:=1) hle h2 (fun j hj=>by
   obtain rfl:j=0:=by omega
   rw[Nat.add_zero,List.getElem?_eq_getElem (by simp;omega)];intro e;have e':s[k]=b:=Option.some.inj e;rw[e']at hb;exact hb rfl)
theorem Rw(s:ByteArray)(b:UInt8):∀p ∈ Ag s b.toNat,b ∉ p.data.toList:=by
 intro p hp;obtain⟨h1,h2⟩:=Xk s b s.size Ak;unfold Ag at hp;rw[List.mem_append]at hp;rcases hp with hp|hp
 ·exact h1 p hp
 simp at hp;rw[hp,ext_list];exact h2
theorem UZ(s:ByteArray)(b:UInt8):jb b ((Ag s b.toNat).map fun s=>s.data.toList)=s.data.toList:=by
 have:=Jd s b;rw[dP b _ _ Ak,List.take_of_length_le Ak]at this;exact this
theorem K7(s:ByteArray)(b:Int):Ag s b≠[]:=by unfold Ag;simp
theorem gX(s:ByteArray)(b:UInt8)(ps:List (List UInt8))(hn:ps≠[])(hp:∀p ∈ ps,b ∉ p)(h:s.data.toList=jb b ps):(Ag s b.toNat).map (fun s=>s.data.toList)=ps:=by
 refine dU b _ _ (fun p hp'=>?_) hp (by simp[K7]) hn ((UZ s b).trans h);obtain⟨q,hq,rfl⟩:=List.mem_map.1 hp';exact Rw s b q hq

def Bl(s:St):List UInt8:=Lib.decDigits s.1.toNat++124 :: (KF s.2).data.toList
def nm(ss:List St):List UInt8:=ss.flatMap fun s=>47 :: Bl s
def Lj(s:St):Prop:=(1≤s.1∧s.1≤60)∧s.2.length≤2∧∀x ∈ s.2,Du x
def IV(ss:List St):Prop:=ss.length≤30∧(∀s ∈ ss,Lj s)∧ss.Pairwise (fun a b=>a.1<b.1)
theorem Wj(x:T4)(m:UInt8)(h:m.toNat<48∨57<m.toNat)(h1:m≠62)(h2:m≠58)(h3:m≠35):m ∉ (WO x).data.toList:=by
 unfold WO txt;obtain⟨a,b,c,d⟩:=x;by_cases ho:BG a b c d
 ·show m ∉ (if BG a b c d then fU a b c d else(⟨#[]⟩:ByteArray)).data.toList;rw[if_pos ho];obtain⟨a',b',c',d',rfl,rfl,rfl,rfl⟩:=R9 ho;rw[I9,BA];unfold ku;have n:=fun n=>Hy n m h;simp[n,h1,h2,h3]
 show m ∉ (if BG a b c d then fU a b c d else(⟨#[]⟩:ByteArray)).data.toList;rw[if_neg ho];simp
theorem Wi(ts:List T4)(m:UInt8)(h:m.toNat<48∨57<m.toNat)(h1:m≠62)(h2:m≠58)(h3:m≠35)(h4:m≠44):m ∉ (KF ts).data.toList:=by
 unfold KF
 split
 ·rw[BA]
  have:∀k,k≤ts.length→m ∉ QT ts k:=by
   intro k
   induction k with
   |zero=>intro _;simp[QT]
   |succ k ih=>
    intro hk;have:=ih (by omega);have c:=Wj (ts.getD k (0,0,0,0)) m h h1 h2 h3;rw[QT]
    split<;>simp[this,h4]<;>simpa using c
  exact this ts.length Ak
 simp
theorem EY(s:St):(47:UInt8) ∉ Bl s:=by
 unfold Bl;have h1:=Hy s.1.toNat 47 (by decide);have h2:=Wi s.2 47 (by decide) (by decide) (by decide) (by decide) (by decide);simp[h1,h2]
theorem Lr{p:ByteArray}{s:St}(h:stepOf p=some s):p.data.toList=Bl s∧(0≤s.1)∧∀x ∈ s.2,Du x:=by
 unfold stepOf at h
 split at h
 ·rename_i hm;cases hn:numOf (hd 124 p.data.toList)with
  |none=>rw[hn]at h;cases h
  | some n=>
   rw[hn]at h;cases ht:Ce (BU (tl 124 p.data.toList))with
   |none=>rw[ht]at h;cases h
   | some ts=>
    rw[ht]at h;cases h
    obtain⟨_,h2⟩:=Cy hn;have h3:=Ty ht
    have e:p.data.toList=hd 124 p.data.toList++124 :: tl 124 p.data.toList:=by
     unfold hd tl;generalize p.data.toList=l at hm
     induction l with
     |nil=>simp at hm
     |cons y l ih=>
      by_cases hy:y=124
      ·subst hy;simp
      have hm':(124:UInt8) ∈ l:=by rcases List.mem_cons.1 hm with e|e;exact absurd e.symm hy;exact e
      have:=ih hm';simp only[List.takeWhile_cons,List.dropWhile_cons,bne_iff_ne,ne_eq,hy,not_false_eq_true,if_true];rw[List.cons_append,←this]
    refine⟨?_,by simp,?_⟩
    ·rw[e,←h2];unfold Bl;rw[h3];simp[BA]
    unfold Ce at ht
    split at ht
    ·cases ht;simp
    exact(MP ht).2
 cases h
theorem GK{p:ByteArray}{s:St}(h:Lj s)(hp:p.data.toList=Bl s):stepOf p=some s:=by
 obtain⟨⟨h1,h2⟩,_,h3⟩:=h;have c:=Hy s.1.toNat 124 (by decide);unfold stepOf;rw[hp];have hm:(124:UInt8) ∈ Bl s:=by unfold Bl;simp
 rw[if_pos hm];have e1:hd 124 (Bl s)=Lib.decDigits s.1.toNat:=by unfold Bl;exact D5 c
 have e2:tl 124 (Bl s)=(KF s.2).data.toList:=by unfold Bl;exact ET c
 rw[e1,e2,G6 (by omega),KI,Zj s.2 h3];obtain⟨v,ts⟩:=s;simp at h1⊢;omega
theorem aK(ps:List ByteArray)(q:Int×List St)(h:BL ps=some q):ps.map (fun p=>p.data.toList)=q.2.map Bl∧(∀s ∈ q.2,Lj s∧s.1≤q.1)∧q.2.Pairwise (fun a b=>a.1<b.1):=by
 generalize hn:ps.length=n
 induction n generalizing ps q with
 |zero=>
  have:ps=[]:=List.length_eq_zero_iff.1 hn;subst this;cases h
  simp
 | succ n ih=>
  obtain⟨ps',p,rfl⟩:∃ps' p,ps=ps'++[p]:=⟨ps.dropLast,ps.getLast (fun e=>by rw[e]at hn;simp at hn),(List.dropLast_concat_getLast _).symm⟩
  rw[DV]at h;unfold E9 at h;cases hr:BL ps' with
  |none=>rw[hr]at h;cases h
  | some q'=>
   rw[hr]at h;cases hs:stepOf p with
   |none=>rw[hs]at h;simp at h
   | some s=>
    rw[hs]at h;simp only[Option.bind_some]at h
    split at h
    ·rename_i hg;cases h
     obtain⟨i1,i2,i3⟩:=ih ps' q' hr (by simpa using hn);obtain⟨_,o2,_,_⟩:=Il ps' q' hr;obtain⟨g1,g2,g3⟩:=hg;obtain⟨t1,t2,t3⟩:=Lr hs;refine⟨by simp[i1,t1],fun y hy=>?_,?_⟩
     ·rcases List.mem_append.1 hy with hy|hy
      ·exact⟨(i2 y hy).1,by have:=(i2 y hy).2;show y.1≤s.1;omega⟩
      simp at hy;subst hy;exact⟨⟨⟨by omega,g2⟩,g3,t3⟩,Int.le_refl _⟩
     rw[List.pairwise_append];refine⟨i3,by simp,fun a ha b hb=>?_⟩;simp at hb;subst hb;have:=(i2 a ha).2;omega
    cases h
theorem qh(ss:List St)(hok:∀s ∈ ss,Lj s)(hpw:ss.Pairwise (fun a b=>a.1<b.1))(ps:List ByteArray)(hp:ps.map (fun p=>p.data.toList)=ss.map Bl):∃l,BL ps=some (l,ss)∧∀x,(∀s ∈ ss,s.1<x)→0<x→l<x:=by
 generalize hn:ss.length=n
 induction n generalizing ss ps with
 |zero=>
  have:ss=[]:=List.length_eq_zero_iff.1 hn;subst this;have:ps=[]:=by simpa using hp
  subst this;exact⟨0,rfl,fun x _ h=>h⟩
 |succ n ih=>
  obtain⟨ss',s,rfl⟩:∃ss' s,ss=ss'++[s]:=⟨ss.dropLast,ss.getLast (fun e=>by rw[e]at hn;simp at hn),(List.dropLast_concat_getLast _).symm⟩
  have hpl:ps.length=(ss'++[s]).length:=by have:=congrArg List.length hp;simpa using this
  obtain⟨ps',p,rfl⟩:∃ps' p,ps=ps'++[p]:=⟨ps.dropLast,ps.getLast (fun e=>by rw[e]at hpl;simp at hpl),(List.dropLast_concat_getLast _).symm⟩
  rw[List.map_append,List.map_append]at hp;obtain⟨hp1,hp2⟩:=List.append_inj hp (by simp at hpl⊢;exact hpl);rw[List.pairwise_append]at hpw;obtain⟨l,hl,hx⟩:=ih ss' (fun y hy=>hok y (by simp[hy])) hpw.1 ps' hp1 (by simpa using hn);have hs:=hok s (by simp);have hst:=GK hs (p:=p) (by simpa using hp2);have hlt:l<s.1:=hx s.1 (fun y hy=>hpw.2.2 y hy s (by simp)) (by have:=hs.1;omega);refine⟨s.1,?_,fun x h1 _=>h1 s (by simp)⟩;rw[DV,hl];unfold E9;simp only[Option.bind_some,hst];rw[if_pos (show Aq l s from⟨hlt,hs.1.2,hs.2.1⟩)]
theorem o_(ss:List St):nm ss=jb 47 ([] :: ss.map Bl):=by
 rw[SN];unfold nm;simp[List.flatMap_map]
theorem Cf(s:ByteArray)(ss:List St):AP s=some ss↔s.data.toList=nm ss∧IV ss:=by
 unfold AP;by_cases hz:s=⟨#[]⟩
 ·rw[if_pos hz];subst hz
  constructor
  ·intro h;cases h;exact⟨rfl,by simp,by simp,by simp⟩
  rintro⟨h,_⟩;cases ss with
  |nil=>rfl
  |cons x ss=>simp[nm]at h
 rw[if_neg hz];have hj:=UZ s 47;have e47:((47:UInt8).toNat:Int)=47:=rfl;rw[e47]at hj
 constructor
 ·intro h
  split at h
  ·rename_i hc;cases hr:BL (Ag s 47).tail with
   |none=>rw[hr]at h;cases h
   | some q=>
    rw[hr]at h;cases h
    obtain⟨h1,h2,h3⟩:=aK _ q hr;have hlen:=(Il _ q hr).1;cases hp:Ag s 47 with
    |nil=>exact absurd hp (K7 s 47)
    | cons p ps=>
     rw[hp]at hc h1 hj hlen;simp at hc;refine⟨?_,?_,fun y hy=>(h2 y hy).1,h3⟩
     ·rw[←hj,o_,List.map_cons,hc.1];simp only[List.tail_cons]at h1;rw[h1]
     show q.2.length≤30;simp at hlen;omega
  cases h
 rintro⟨h1,h2,h3,h4⟩
 have hne:ss≠[]:=by
  rintro rfl
  apply hz
  apply ByteArray.ext
  apply Array.toList_inj.1
  rw[h1];rfl
 have hsp:=gX s 47 ([] :: ss.map Bl) (by simp) (fun p hp=>by
  rcases List.mem_cons.1 hp with rfl|hp
  ·simp
  obtain⟨y,_,rfl⟩:=List.mem_map.1 hp;exact EY y) (by rw[h1,o_])
 rw[e47]at hsp;cases hp:Ag s 47 with
 |nil=>exact absurd hp (K7 s 47)
 |cons p ps=>
  rw[hp]at hsp;simp only[List.map_cons,List.cons.injEq]at hsp;obtain⟨l,hl,_⟩:=qh ss h3 h4 ps hsp.2;have hpl:ps.length=ss.length:=by have:=congrArg List.length hsp.2;simpa using this
  have hp0:p=⟨#[]⟩:=ByteArray.ext (Array.toList_inj.1 hsp.1);rw[if_pos ⟨by simpa using hp0,by simp;omega⟩,List.tail_cons,hl];rfl
theorem bQ(ss tt:List St):nm (ss++tt)=nm ss++nm tt:=by simp[nm]
theorem ZN(ss:List St)(x:St):nm (ss++[x])=nm ss++47 :: Bl x:=by simp[nm]
theorem IV.pre{ss tt:List St}(h:IV (ss++tt)):IV ss:=by
 obtain⟨h1,h2,h3⟩:=h;refine⟨by simp at h1;omega,fun s hs=>h2 s (by simp[hs]),?_⟩;rw[List.pairwise_append]at h3;exact h3.1
theorem Tf{s t:ByteArray}(h:s.data.toList=t.data.toList):s=t:=ByteArray.ext (Array.toList_inj.1 h)
theorem Xv{a b x y:List UInt8}(hx:(47:UInt8) ∉ x)(hy:(47:UInt8) ∉ y)(h:a++47 :: x=b++47 :: y):a=b∧x=y:=by
 have hr:=congrArg List.reverse h;simp only[List.reverse_append,List.reverse_cons,List.append_assoc,List.singleton_append]at hr;have hx':(47:UInt8) ∉ x.reverse:=by simpa using hx
 have hy':(47:UInt8) ∉ y.reverse:=by simpa using hy
 have e1:x.reverse=y.reverse:=by rw[←D5 (y:=a.reverse) hx',hr,D5 hy']
 have e2:a.reverse=b.reverse:=by rw[←ET (x:=x.reverse) (y:=a.reverse) hx',hr,ET hy']
 exact⟨List.reverse_inj.1 e2,List.reverse_inj.1 e1⟩
theorem XN{x y:St}(hx:Lj x)(hy:Lj y)(h:Bl x=Bl y):x=y:=by
 have h1:=GK hx (p:=BU (Bl x)) (BA _);have h2:=GK hy (p:=BU (Bl x)) ((BA _).trans h);rw[h1]at h2;exact Option.some.inj h2

theorem qU{l:List UInt8}(h:l≠[]):BU l≠⟨#[]⟩:=fun e=>h (by have:=congrArg (fun s:ByteArray=>s.data.toList) e;simpa[BA]using this)
def FV(s:ByteArray):ByteArray:=BU (nm ((AP s).getD []).dropLast)
def Av(s:ByteArray):Int:=(((AP s).getD []).getLast?.map (·.1)).getD 0
def Bg(s:ByteArray):Int:=match AP s with|some ss=>(ss.length:Int)|none=> -1
theorem Vq{s:ByteArray}:Bg s≤Av s∧Bg s≤30∧Av s≤60:=by
 unfold Bg Av;cases h:AP s with
 |none=>simp
 | some ss=>
  have ok:=((Cf _ _).1 h).2;simp only[Option.getD_some];refine⟨?_,by have:=ok.1;omega,?_⟩
  ·have key:∀ss:List St,(∀s ∈ ss,Lj s)→ss.Pairwise (fun a b=>a.1<b.1)→(ss.length:Int)≤(ss.getLast?.map (·.1)).getD 0:=by
    intro ss;generalize hn:ss.length=n
    induction n generalizing ss with
    |zero=>intro _ _;have:ss=[]:=List.length_eq_zero_iff.1 hn;subst this;simp
    | succ n ih=>
     intro h1 h2;obtain⟨ss',x,rfl⟩:∃ss' x,ss=ss'++[x]:=⟨ss.dropLast,ss.getLast (fun e=>by rw[e]at hn;simp at hn),(List.dropLast_concat_getLast _).symm⟩
     rw[List.pairwise_append]at h2;have:=ih ss' (by simpa using hn) (fun s hs=>h1 s (by simp[hs])) h2.1;have hx:=(h1 x (by simp)).1;simp only[List.getLast?_append,List.getLast?_singleton,Option.some_or,Option.map_some,Option.getD_some];cases hl:ss'.getLast? with
     |none=>rw[hl]at this;simp at this;omega
     |some y=>
      rw[hl]at this;simp at this;have:=h2.2.2 y (List.mem_of_getLast? hl) x (by simp);omega
   exact key ss ok.2.1 ok.2.2
  cases hl:ss.getLast? with
  |none=>simp
  |some y=>simp;exact(ok.2.1 y (List.mem_of_getLast? hl)).1.2
theorem gJ{s:ByteArray}{ss:List St}(h:AP s=some ss)(k:Nat)(hk:k≤s.data.toList.length)(h1:(47:UInt8) ∉ s.data.toList.drop k)(h2:k=0∨s.data.toList[k-1]? =some 47):BU (s.data.toList.take (k-1))=FV s:=by
 have hs:=(Cf _ _).1 h;unfold FV;rw[h,Option.getD_some];by_cases hne:ss=[]
 ·subst hne;have:s.data.toList=[]:=hs.1;rw[this];simp[nm]
 obtain⟨ss',x,rfl⟩:∃ss' x,ss=ss'++[x]:=⟨ss.dropLast,ss.getLast hne,(List.dropLast_concat_getLast _).symm⟩
 rw[List.dropLast_concat];have e:=hs.1;rw[ZN]at e;rcases h2 with rfl|h2
 ·rw[List.drop_zero,e]at h1;simp at h1
 have hk0:0<k:=by
  cases k with
  |zero=>
   rw[List.drop_zero,e]at h1;simp at h1
  |succ k=>omega
 have hlt:k-1<s.data.toList.length:=by omega
 have e3:s.data.toList=s.data.toList.take (k-1)++47 :: s.data.toList.drop k:=by
  conv=>lhs;rw[←List.take_append_drop (k-1) s.data.toList]
  congr 1
  rw[List.drop_eq_getElem_cons hlt,show k-1+1=k from by omega]
  congr 1
  rw[List.getElem?_eq_getElem hlt]at h2;exact Option.some.inj h2
 have e4:=e3.symm.trans e;rw[(Xv h1 (EY x) e4).1]
theorem rE:∀(tt ss:List St),(∀x ∈ tt,Lj x)→(∀x ∈ ss,Lj x)→∀r,nm ss=nm tt++r→(r=[]∨∃q,r=47 :: q)→tt <+: ss:=by
 intro tt
 induction tt with
 |nil=>intro ss _ _ r _ _;exact List.nil_prefix
 | cons x tt ih=>
  intro ss ht hs r h hr;cases ss with
  |nil=>simp[nm]at h
  | cons y ss=>
   have e:∀(z:St)(zs:List St),nm (z :: zs)=47 :: (Bl z++nm zs):=fun z zs=>by simp[nm]
   rw[e,e,List.cons_append,List.append_assoc]at h;have h':=List.tail_eq_of_cons_eq h
   have lead:∀(zs:List St)(q:List UInt8),(q=[]∨∃p,q=47 :: p)→nm zs++q=[]∨∃p,nm zs++q=47 :: p:=fun zs q hq=>by
    cases zs with
    |nil=>simpa[nm]using hq
    |cons z zs=>right;rw[e];exact⟨_,rfl⟩
   have cutAt:∀(a b p q:List UInt8),(47:UInt8) ∉ a→(47:UInt8) ∉ b→(p=[]∨∃p',p=47 :: p')→(q=[]∨∃q',q=47 :: q')→a++p=b++q→a=b∧p=q:=by
    intro a b p q ha hb hp hq hab
    have f:∀(a p:List UInt8),(47:UInt8) ∉ a→(p=[]∨∃p',p=47 :: p')→hd 47 (a++p)=a:=by
     intro a p ha hp;rcases hp with rfl|⟨p',rfl⟩
     ·rw[List.append_nil];exact ZW ha
     exact D5 ha
    have e1:a=b:=by rw[←f a p ha hp,hab,f b q hb hq]
    subst e1;exact⟨rfl,List.append_cancel_left hab⟩
   have l1:=lead ss [] (.inl rfl);rw[List.append_nil]at l1;obtain⟨e1,e2⟩:=cutAt _ _ _ _ (EY y) (EY x) l1 (lead tt r hr) h';have exy:y=x:=XN (hs y (by simp)) (ht x (by simp)) e1;subst exy;exact(List.cons_prefix_cons).2 ⟨rfl,ih ss (fun z hz=>ht z (by simp[hz])) (fun z hz=>hs z (by simp[hz])) r e2 hr⟩
def pc:List UInt8→List UInt8
 | []=>[]
 |c :: t=>c :: t.takeWhile (·!= 47)
def rs:List UInt8→List UInt8
 | []=>[]
 |_ :: t=>t.dropWhile (·!= 47)
theorem o5(r:List UInt8):pc r++rs r=r:=by
 cases r with
 |nil=>rfl
 |cons c t=>simp[pc,rs,List.takeWhile_append_dropWhile]
theorem gy{r:List UInt8}(h:r≠[]):(rs r).length<r.length:=by
 cases r with
 |nil=>exact absurd rfl h
 |cons c t=>
  have:=congrArg List.length (List.takeWhile_append_dropWhile (p:=(·!= (47:UInt8))) (l:=t));rw[List.length_append]at this;simp only[rs,List.length_cons];omega
theorem lh(r:List UInt8):rs r=[]∨∃q,rs r=47 :: q:=by
 cases r with
 |nil=>exact .inl rfl
 | cons c t=>
  show t.dropWhile _=[]∨∃q,t.dropWhile _=47 :: q;cases h:t.dropWhile (·!= (47:UInt8))with
  |nil=>exact .inl rfl
  |cons x q=>
   have hx:=List.head_dropWhile_not (p:=(·!= (47:UInt8))) (l:=t) (by rw[h];simp);simp only[h,List.head_cons]at hx;exact .inr ⟨q,by rw[show x=47 by simpa using hx]⟩
def FX(l:List UInt8):Nat→List UInt8
 |0=>l
 |k+1=>rs (FX l k)
theorem qi(l:List UInt8)(k:Nat):(FX l k).length≤l.length:=by
 induction k with
 |zero=>exact Nat.le_refl _
 |succ k ih=>
  by_cases h:FX l k=[]
  ·show(rs (FX l k)).length≤_;rw[h];exact Nat.zero_le _
  have:=gy h;show(rs (FX l k)).length≤_;omega
theorem rounds(l:List UInt8):∃m,FX l m=[]∧∀k,k<m→FX l k≠[]:=by
 have key:∀n k,(FX l k).length≤n→(∀j,j<k→FX l j≠[])→∃m,FX l m=[]∧∀k,k<m→FX l k≠[]:=by
  intro n
  induction n with
  |zero=>exact fun k h hk=>⟨k,List.length_eq_zero_iff.1 (Nat.le_zero.1 h),hk⟩
  | succ n ih=>
   intro k h hk;by_cases e:FX l k=[]
   ·exact⟨k,e,hk⟩
   have:=gy e
   exact ih (k+1) (by show(rs (FX l k)).length≤n;omega) fun j hj=>by
    by_cases e2:j=k
    ·subst e2;exact e
    exact hk j (by omega)
 exact key _ 0 Ak fun j hj=>by omega
def Cs(p:List UInt8):Option St:=if p.head? =some 47 then stepOf (BU p.tail)else none
def EI(ss:List St):Int:=(ss.getLast?.map (·.1)).getD 0
theorem O6(ss:List St)(x:St):EI (ss++[x])=x.1:=by simp[EI]
theorem VM{ss:List St}(h:IV ss):0≤EI ss∧EI ss≤60:=by
 unfold EI;cases e:ss.getLast? with
 |none=>simp
 |some x=>
  have:=(h.2.1 x (List.mem_of_getLast? e)).1;simp;omega
theorem gG{ss:List St}(h:IV ss):∀s ∈ ss,s.1≤EI ss:=by
 intro s hs;obtain⟨ss',x,rfl⟩:∃ss' x,ss=ss'++[x]:=⟨ss.dropLast,ss.getLast (List.ne_nil_of_mem hs),(List.dropLast_concat_getLast _).symm⟩
 rw[O6];rcases List.mem_append.1 hs with h1|h1
 ·have:=(List.pairwise_append.1 h.2.2).2.2 s h1 x (by simp);omega
 simp at h1;subst h1;exact Int.le_refl _
theorem iG{l r:List UInt8}{ss:List St}{x:St}(h:l=nm ss++r)(hk:IV ss)(hx:Cs (pc r)=some x)(hg:Aq (EI ss) x)(hl:ss.length<30):l=nm (ss++[x])++rs r∧IV (ss++[x]):=by
 unfold Cs at hx
 split at hx
 ·rename_i hh;obtain⟨h1,h2,h3⟩:=Lr hx;rw[BA]at h1
  have hp:pc r=47 :: Bl x:=by
   rw[←h1];cases hpc:pc r with
   |nil=>rw[hpc]at hh;simp at hh
   |cons c t=>rw[hpc]at hh;simp at hh;rw[hh];rfl
  obtain⟨g1,g2,g3⟩:=hg;have hz:=VM hk;have hx:Lj x:=⟨⟨by omega,g2⟩,g3,h3⟩
  refine⟨?_,by simp;omega,fun s hs=>?_,?_⟩
  ·rw[ZN,←hp,List.append_assoc,o5];exact h
  ·rcases List.mem_append.1 hs with h4|h4
   ·exact hk.2.1 s h4
   simp at h4;subst h4;exact hx
  refine List.pairwise_append.2 ⟨hk.2.2,by simp,fun s hs t ht=>?_⟩;simp at ht;subst ht;have:=gG hk s hs;omega
 cases hx
theorem mK:∀ss:List St,nm ss=[]∨∃q,nm ss=47 :: q:=fun ss=>by
 cases ss with
 |nil=>exact .inl rfl
 |cons s ss=>exact .inr ⟨_,rfl⟩
theorem iH{s:ByteArray}{r:List UInt8}{ss:List St}(h:s.data.toList=nm ss++r)(hr:r≠[])(hk:IV ss)(hh:ss=[]∨∃q,r=47 :: q)
 (hn:∀x,Cs (pc r)=some x→Aq (EI ss) x→ss.length<30→False):AP s=none:=by
 cases hs:AP s with
 |none=>rfl
 | some tt=>
  exfalso;obtain⟨h1,h2⟩:=(Cf _ _).1 hs
  have hpre:ss <+: tt:=by
   rcases hh with rfl|hh
   ·exact List.nil_prefix
   exact rE ss tt hk.2.1 h2.2.1 r (h1.symm.trans h) (.inr hh)
  obtain⟨uu,rfl⟩:=hpre;rw[h,bQ]at h1;have h1:=List.append_cancel_left h1;cases uu with
  |nil=>exact hr h1
  | cons x uu=>
   have hx:Lj x:=h2.2.1 x (by simp);have e1:r=47 :: (Bl x++nm uu):=by rw[h1];simp[nm]
   have hc:∀y ∈ Bl x,(y != (47:UInt8))=true:=fun y hy=>by
    have:=EY x;simp;intro e;subst e;exact this hy
   have e2:pc r=47 :: Bl x:=by
    rw[e1];show 47 :: (Bl x++nm uu).takeWhile _=_;rw[List.takeWhile_append_of_pos hc];rcases mK uu with e|⟨q,e⟩
    ·rw[e];simp
    rw[e];simp
   refine hn x ?_ ?_ ?_
   ·unfold Cs;rw[e2];refine(if_pos rfl).trans ?_;exact GK hx (BA _)
   ·have hv:EI ss<x.1:=by
     unfold EI;cases e:ss.getLast? with
     |none=>have:=hx.1;simp;omega
     |some y=>
      have:=(List.pairwise_append.1 h2.2.2).2.2 y (List.mem_of_getLast? e) x (by simp);simpa using this
    exact⟨hv,hx.1.2,hx.2.1⟩
   have:=h2.1;simp at this;omega
theorem ag{s:ByteArray}{ss:List St}(h:s.data.toList=nm ss++[])(hk:IV ss):AP s=some ss:=(Cf _ _).2 ⟨by simpa using h,hk⟩
theorem Vl(m:UInt8)(l:List UInt8):(m ∉ l∧Lib.indexByte l m= -1)∨(m ∈ l∧Lib.indexByte l m=((l.takeWhile (·!= m)).length:Int)):=by
 induction l with
 |nil=>exact .inl ⟨by simp,rfl⟩
 |cons b l ih=>
  unfold Lib.indexByte;by_cases h:b=m
  ·subst h;exact .inr ⟨by simp,by simp⟩
  have hb:(b==m)=false:=by simpa using h
  have hn:(b != m)=true:=by simpa using h
  rw[if_neg (by simpa using h)];rcases ih with⟨h1,h2⟩|⟨h1,h2⟩
  ·rw[h2];exact .inl ⟨by simp[h1,Ne.symm h],rfl⟩
  rw[h2,if_neg (by simp)];refine .inr ⟨by simp[h1],?_⟩;rw[List.takeWhile_cons,if_pos hn];simp

theorem Oy(m:UInt8)(s:ByteArray)(w:World):
 Calls Tryz.prog 272 #[.string s,.string ⟨#[m]⟩] w fun e w'=>e= .returned (.int .i64 (Lib.indexByte s.data.toList m))∧w'=w:=by
 have IB:=hide fun w=>Tryz.stringslite_IndexByte s (m.toNat:Int) w;have e1:((m.toNat:Nat):Int).toNat.toUInt8=m:=by simp
 rw[e1]at IB;have hz:(⟨#[m]⟩:ByteArray).size=1:=rfl;have hi:(⟨#[m]⟩:ByteArray)[0]'(by rw[hz];omega)=m:=rfl
 have hne:([m]==s.toList)=true→Lib.indexByte s.data.toList m=0:=fun h=>by
  have h1:s.toList=[m]:=(by simpa using h:[m]=s.toList).symm;rw[ByteArray.toList_eq]at h1;rw[h1];simp[Lib.indexByte]
 cases hb:([m]==s.toList)with
 |true=>
  rw[hne hb];clear IB hne;go_enter Tryz.func272,Tryz.ntmps272
  go_wp2;go_ret;exact⟨rfl,rfl⟩
 |false=>
  clear hne;generalize Lib.indexByte s.data.toList m=r at *;go_enter Tryz.func272,Tryz.ntmps272
  go_wp2_with (first|(go_at_call 288;refine(IB.out _).mono ?_;rintro e w' ⟨rfl,rfl⟩))
  go_ret;exact⟨rfl,rfl⟩
theorem X3(m:UInt8)(s:ByteArray)(w:World):
 Calls Tryz.prog 253 #[.string s,.string ⟨#[m]⟩] w fun e w'=>e= .returned (.int .i64 (Lib.indexByte s.data.toList m))∧w'=w:=by
 have IB:=hide fun w=>Oy m s w;generalize Lib.indexByte s.data.toList m=r at *;generalize (⟨#[m]⟩:ByteArray)=q at *;go_enter Tryz.func253,Tryz.ntmps253
 go_wp2_with (first|(go_at_call 272;refine(IB.out _).mono ?_;rintro e w' ⟨rfl,rfl⟩))
 go_ret;exact⟨rfl,rfl⟩
def Ic(m:UInt8)(s:ByteArray):ByteArray×ByteArray:=if m ∈ s.data.toList then(BU (hd m s.data.toList),BU (tl m s.data.toList))else(s,⟨#[]⟩)
theorem eT(m:UInt8)(s:ByteArray):(Ic m s).1.size≤s.size∧(Ic m s).2.size≤s.size:=by
 unfold Ic
 split
 ·have h:=congrArg List.length (List.takeWhile_append_dropWhile (p:=(·!= m)) (l:=s.data.toList));rw[List.length_append]at h;have h2:s.data.toList.length=s.size:=by simp
  simp only[Df,hd,tl,List.length_tail];omega
 exact⟨Nat.le_refl _,Nat.zero_le _⟩
theorem nM{m:UInt8}{s:ByteArray}(h:m ∈ s.data.toList):∃k:Nat,k<s.size∧(s.data.toList.takeWhile (·!= m)).length=k∧s.extract 0 k=(Ic m s).1∧s.extract (k+1) s.size=(Ic m s).2:=by
 have h1:=List.takeWhile_append_dropWhile (p:=(·!= m)) (l:=s.data.toList);have h3:=congrArg List.length h1;rw[List.length_append]at h3;have h2:s.data.toList.length=s.size:=by simp
 have h4:s.data.toList.dropWhile (·!= m)≠[]:=fun e=>by
  rw[e,List.append_nil]at h1;have:=(List.all_takeWhile (p:=(·!= m)) (l:=s.data.toList))
  rw[h1]at this;have:=List.all_eq_true.1 this m h;simp at this
 have h5:0<(s.data.toList.dropWhile (·!= m)).length:=List.length_pos_iff.2 h4;have e1:hd m s.data.toList=s.data.toList.takeWhile (·!= m):=rfl;have e2:tl m s.data.toList=(s.data.toList.dropWhile (·!= m)).tail:=rfl;unfold Ic;rw[if_pos h,e1,e2];generalize s.data.toList.takeWhile (·!= m)=x at *;generalize s.data.toList.dropWhile (·!= m)=y at *;refine⟨_,by omega,rfl,?_,?_⟩
 ·rw[Kl,←h1];simp
 rw[KM,←h1];simp

theorem iX(m:UInt8)(s:ByteArray)(w:World)(hs:s.size≤33554432):
 Calls Tryz.prog 274 #[.string s,.string ⟨#[m]⟩] w fun e w'=>e= .returned (.tuple #[.string (Ic m s).1,.string (Ic m s).2,.bool (decide (m ∈ s.data.toList))])∧Below w.heap.size w w':=by
 have IX:=hide fun w=>Oy m s w;have hz:(⟨#[m]⟩:ByteArray).size=1:=rfl;rcases Vl m s.data.toList with⟨h1,h2⟩|⟨h1,h2⟩
 ·rw[h2]at IX;have e1:Ic m s=(s,⟨#[]⟩):=if_neg h1;rw[e1,decide_eq_false h1];clear h1 h2 e1;generalize (⟨#[m]⟩:ByteArray)=q at *;go_enter Tryz.func274,Tryz.ntmps274
  go_wp2_with (first|(go_at_call 272;refine(IX.out _).mono ?_;rintro e w' ⟨rfl,rfl⟩))
  go_ret3
  exact⟨rfl,Below.refl _ _⟩
 obtain⟨k,hk,hkl,e1,e2⟩:=nM h1;rw[h2,hkl]at IX;rw[←e1,←e2,decide_eq_true h1];clear h1 h2 e1 e2 hkl;have mixed:Tryz.prog.follows .mixedOrders=true:=by kernel_rfl
 generalize (⟨#[m]⟩:ByteArray)=q at *;go_enter Tryz.func274,Tryz.ntmps274
 go_wp2_with (first|(go_at_call 272;refine(IX.out _).mono ?_;rintro e w' ⟨rfl,rfl⟩))
 go_region_o
 go_wp2
 go_ret3
 exact⟨rfl,(Below.refl _ _).drew⟩
theorem jY(m:UInt8)(s:ByteArray)(w:World)(hs:s.size≤33554432):
 Calls Tryz.prog 255 #[.string s,.string ⟨#[m]⟩] w fun e w'=>e= .returned (.tuple #[.string (Ic m s).1,.string (Ic m s).2,.bool (decide (m ∈ s.data.toList))])∧Below w.heap.size w w':=by
 have IX:=hide fun w=>iX m s w hs;generalize decide (m ∈ s.data.toList)=r at *;generalize Ic m s=r at *;generalize (⟨#[m]⟩:ByteArray)=q at *;go_enter Tryz.func255,Tryz.ntmps255
 go_wp2_with (first|(go_at_call 274;refine(IX.out _).mono ?_;rintro e w' ⟨rfl,bb⟩))
 go_ret3
 exact⟨rfl,bb⟩
theorem dF(m:UInt8)(s:ByteArray)(w:World)(hs:s.size≤33554432):
 Calls Tryz.prog 356 #[.string s,.string ⟨#[m]⟩] w fun e w'=>e= .returned (.int .i64 (Lib.lastIndexByte s (m.toNat:Int)))∧w'=w:=by
 have IX:=hide fun w=>Tryz.bytealg_LastIndexByteString_nm s (m.toNat:Int) (by omega) w;have hz:(⟨#[m]⟩:ByteArray).size=1:=rfl;have hi:(⟨#[m]⟩:ByteArray)[0]'(by rw[hz];omega)=m:=rfl;generalize Lib.lastIndexByte s (m.toNat:Int)=r at *;go_enter Tryz.func356,Tryz.ntmps356
 go_wp2_with (first|(go_at_call 357;refine(IX.out _).mono ?_;rintro e w' ⟨rfl,rfl⟩))
 go_ret;exact⟨rfl,rfl⟩
end
section
open Go.RowKit
variable [∀(a b c d:Int),Decidable (BG a b c d)] [∀(a b c d:Nat),Decidable (DZ a b c d)] [∀(last:Int)(s:St),Decidable (Aq last s)]
theorem Tryz.infoSt:(Tryz.prog.info? 248).map (fun i=>(i.zero,i.size,i.bytes))=some (some (.agg #[.int .i64 0,.slice none 0 0]),2,32):=by kernel_rfl
def FW(p:Int×Value):List Value:=[.int .i64 p.1,p.2]
def FQ(ps:List (Int×Value)):List Value:=ps.flatMap FW
theorem P9(ps qs:List (Int×Value)):FQ (ps++qs)=FQ ps++FQ qs:=by simp[FQ]
theorem Xb(ps:List (Int×Value))(k j:Nat)(hk:k<ps.length)(hj:j<2):(FQ ps)[k*2+j]? =(FW (ps.getD k (0,.slice none 0 0)))[j]?:=by
 induction ps generalizing k with
 |nil=>simp at hk
 | cons p ps ih=>
  have e:FQ (p :: ps)=FW p++FQ ps:=by simp[FQ]
  rw[e];cases k with
  |zero=>rw[Nat.zero_mul,Nat.zero_add,List.getElem?_append_left (by simp[FW];exact hj)];rfl
  |succ k=>
   rw[List.getElem?_append_right (by simp[FW];omega),show(FW p).length=2 from rfl,show(k+1)*2+j-2=k*2+j from by omega,ih k (by simpa using hk)];rfl
structure Ii(w:World)(base:Nat)(v:Value)(ss:List St)(vs:List Value):Prop where
 len:vs.length=ss.length
 row:w.ownsRow base 248 2 v ss.length (FQ ((ss.map (·.1)).zip vs))
 each:∀k,k<ss.length→OT w base (vs.getD k (.slice none 0 0)) (ss.getD k kI).2
 apart:∀i j,i<j→j<ss.length→∀b,(vs.getD i (.slice none 0 0)).ownBlock=some b→(vs.getD j (.slice none 0 0)).ownBlock≠some b
def Zf(w:World)(base:Nat)(v:Value)(ss:List St):Prop:=∃vs,Ii w base v ss vs
theorem vT{w:World}{B B' n:Nat}{v u:Value}{cs:List Value}{ys:List T4}(h:w.ownsRow B 248 2 v n cs)(h':OT w B' u ys)(b:Nat)(hv:v.ownBlock=some b):u.ownBlock≠some b:=by
 rcases h.2 with⟨rfl,_⟩|⟨g,cap,cur,rfl,_,hg,_⟩
 ·simp[Value.ownBlock]at hv
 rcases h'.2 with⟨rfl,_⟩|⟨g',cap',cur',rfl,_,hg',_⟩
 ·simp[Value.ownBlock]
 intro e;simp[Value.ownBlock]at e hv;subst hv;rw[e,hg]at hg';simp at hg'
theorem Ii.below{w w':World}{base:Nat}{v:Value}{ss:List St}{vs:List Value}(h:Ii w base v ss vs)(hb:Below w.heap.size w w'):Ii w' base v ss vs:=
 ⟨h.len,World.ownsRow.kept (row:=none) h.row ⟨hb.os,hb.tape,hb.output,hb.size,fun k hk _=>hb.block k hk⟩ (by cases v.ownBlock<;>simp),fun k hk=>(h.each k hk).below hb,h.apart⟩
theorem Zf.below{w w':World}{base:Nat}{v:Value}{ss:List St}(h:Zf w base v ss)(hb:Below w.heap.size w w'):Zf w' base v ss:=by
 obtain⟨vs,h⟩:=h;exact⟨vs,h.below hb⟩
theorem mE(w:World)(base:Nat):Zf w base (.slice none 0 0) []:=⟨[],rfl,World.ownsRow_nil _ _ _ _,fun k hk=>by simp at hk,fun i j _ hj=>by simp at hj⟩
theorem Zf.form{w:World}{base:Nat}{v:Value}{ss:List St}(h:Zf w base v ss):∃ao ca,v= .slice ao ss.length ca:=by
 obtain⟨vs,h⟩:=h;rcases h.row.2 with⟨rfl,h0⟩|⟨g,cap,cur,rfl,_⟩
 ·exact⟨none,0,by rw[h0]⟩
 exact⟨_,_,rfl⟩
def zI(w:World)(v:Value)(ss:List St):Prop:=
 ∃ao cap,v= .slice ao ss.length cap∧(ss=[]∨∃g,ao=some ⟨g,0,none⟩∧∀k,k<ss.length→∃u,w.cell? ⟨g,k*2,none⟩=some (.int .i64 (ss.getD k kI).1)∧w.cell? ⟨g,k*2+1,none⟩=some u∧RT w u (ss.getD k kI).2)
theorem kJ(ss:List St)(vs:List Value)(hl:vs.length=ss.length)(k:Nat)(hk:k<ss.length):((ss.map (·.1)).zip vs).getD k (0,.slice none 0 0)=((ss.getD k kI).1,vs.getD k (.slice none 0 0)):=by
 rw[List.getD_eq_getElem?_getD,List.getElem?_eq_getElem (by simp;omega)];simp[List.getElem?_eq_getElem hk,List.getElem?_eq_getElem (show k<vs.length by omega)]
theorem Zf.WQ{w:World}{base:Nat}{v:Value}{ss:List St}(h:Zf w base v ss)(hs:∀s ∈ ss,s.2.length≤35184372088832):zI w v ss:=by
 obtain⟨vs,h⟩:=h;have hz:((ss.map (·.1)).zip vs).length=ss.length:=by simp[h.len]
 rcases h.row.2 with⟨rfl,h0⟩|⟨g,cap,cur,rfl,_⟩
 ·exact⟨none,0,by rw[h0],.inl (List.length_eq_zero_iff.1 h0)⟩
 refine⟨_,cap,rfl,.inr ⟨g,rfl,fun k hk=>?_⟩⟩;have c0:=World.ownsRow.cellAt h.row (k*2+0) (by omega);have c1:=World.ownsRow.cellAt h.row (k*2+1) (by omega);rw[Xb _ k _ (by omega) (by omega),kJ ss vs h.len k hk]at c0 c1;exact⟨_,c0,c1,(h.each k hk).rt (hs _ (by rw[List.getD_eq_getElem?_getD,List.getElem?_eq_getElem hk];exact List.getElem_mem hk))⟩
theorem zI.below{w w':World}{v:Value}{ss:List St}(h:zI w v ss)(hb:Below w.heap.size w w'):zI w' v ss:=by
 obtain⟨ao,cap,rfl,h⟩:=h;refine⟨ao,cap,rfl,?_⟩;rcases h with h|⟨g,rfl,h⟩
 ·exact .inl h
 refine .inr ⟨g,rfl,fun k hk=>?_⟩;obtain⟨u,c0,c1,r⟩:=h k hk;have hg:g<w.heap.size:=AQ c0;exact⟨u,(hb.cell (p:=⟨g,k*2,none⟩) hg).trans c0,(hb.cell (p:=⟨g,k*2+1,none⟩) hg).trans c1,r.below hb⟩
theorem U5{w w':World}{base N:Nat}{v v':Value}{ss:List St}{vs:List Value}{n:Int}{u:Value}{ts:List T4}(h:Ii w base v ss vs)(hu:OT w N u ts)(hN:∀k,k<ss.length→∀b,(vs.getD k (.slice none 0 0)).ownBlock=some b→b<N)(hbN:base≤N)
 (hr:w'.ownsRow base 248 2 v' (ss.length+1) (FQ ((ss.map (·.1)).zip vs)++FW (n,u))) (hg:w.grownBy w' v.ownBlock):Ii w' base v' (ss++[(n,ts)]) (vs++[u]):=by
 have keep:∀(x:Value)(zs:List T4)(B:Nat),OT w B x zs→OT w' B x zs:=fun x zs B hx=>World.ownsRow.kept hx hg (by
  cases hxo:x.ownBlock with
  |none=>exact .inl rfl
  |some b=>exact .inr fun e=>vT h.row hx b e.symm hxo)
 refine⟨by simp[h.len],?_,fun k hk=>?_,fun i j hij hj b hb=>?_⟩
 ·have e:((ss++[(n,ts)]).map (·.1)).zip (vs++[u])=(ss.map (·.1)).zip vs++[(n,u)]:=by
   rw[List.map_append,List.zip_append (by simp[h.len])];rfl
  rw[e,P9,List.length_append];simpa[FQ]using hr
 ·rw[List.length_append,List.length_singleton]at hk;by_cases e:k<ss.length
  ·rw[List.getD_eq_getElem?_getD,List.getElem?_append_left (by rw[h.len];exact e),←List.getD_eq_getElem?_getD,List.getD_eq_getElem?_getD (l:=ss++_),List.getElem?_append_left e,←List.getD_eq_getElem?_getD];exact keep _ _ _ (h.each k e)
  obtain rfl:k=ss.length:=by omega
  have e1:(vs++[u]).getD ss.length (.slice none 0 0)=u:=by rw[←h.len];simp
  have e2:(ss++[(n,ts)]).getD ss.length kI=(n,ts):=by simp
  rw[e1,e2];have hk':=keep _ _ _ hu;refine⟨hk'.1,?_⟩;rcases hk'.2 with hn|⟨g,cap,cur,rfl,hgN,rest⟩
  ·exact .inl hn
  exact .inr ⟨g,cap,cur,rfl,Nat.le_trans hbN hgN,rest⟩
 rw[List.length_append,List.length_singleton]at hj;have hi:i<ss.length:=by omega
 rw[List.getD_eq_getElem?_getD,List.getElem?_append_left (by rw[h.len];exact hi),←List.getD_eq_getElem?_getD]at hb;by_cases e:j<ss.length
 ·rw[List.getD_eq_getElem?_getD,List.getElem?_append_left (by rw[h.len];exact e),←List.getD_eq_getElem?_getD];exact h.apart i j hij e b hb
 obtain rfl:j=ss.length:=by omega
 have e1:(vs++[u]).getD ss.length (.slice none 0 0)=u:=by rw[←h.len];simp
 rw[e1];intro e3;have:=hN i hi b hb;have:=(World.ownsRow.lt hu b e3).1;omega
end
section
open Go Go.RowKit
theorem grown_of{w w':World}(h:Below w.heap.size w w'):w.grownBy w' none:=⟨h.os,h.tape,h.output,h.size,fun k hk _=>h.block k hk⟩
def nA(B n₀:Nat)(G X:World→Prop)(W:World):Exit→Act→World→Prop
 | .normal,_,W'=>KeepsFrom B W W'∧Below n₀ W W'∧G W'
 | .ret,_,W'=>KeepsFrom B W W'∧X W'
 |_,_,_=>False
def qC(F:Fence)(n:Nat)(P:Program)(gf:Nat)(lb:Array Value)(n₀ m:Nat)(hand:Nat→Array Value→World→World→Prop)(w:World):Prop:=
 ∀(l:Nat)(J X:Nat→World→Prop)(W:World),Below w.heap.size w W→(∀k A A',J k A→Below A.heap.size A A'→J k A')→(∀k A A',X k A→Below A.heap.size A A'→X k A')→
  (∀k vs U V,J k U→Below U.heap.size U V→k<m→hand k vs U V→YieldAt F (n-1) P l vs V fun e V'=>(e= .returned (.bool true)∧J (k+1) V'∧Below n₀ V V')∨(e= .returned (.bool false)∧X k V'))→
  J 0 W→CallsIn F n P gf (#[.func (.yield l) #[] #[]]++lb) W fun e W'=>(∃v,e= .returned v)∧(J m W'∨∃k,k<m∧X k W')

variable {F:Fence} {n:Nat} {P:Program}
theorem aU{g:Operand}{ps:Array Tmp}{assign body:Code}{R:Exit→Act→World→Prop}{a:Act}{w:World}
 (hro:F.round=none) (h1:1≤n) {gf:Nat} {lb:Array Value} (hg:a.eval g= .func (.func gf) #[] lb) (hFg:F.fn gf) (eg:∀args w,(callFunc gf args).run P w= .ok (.enter gf args) w)
 {n₀ m:Nat} {hand:Nat→Array Value→World→World→Prop} (hn₀:n₀≤w.heap.size) (hps:∀k vs U W,hand k vs U W→vs.size=ps.size) (hseq:qC F (n-1) P gf lb n₀ m hand w)
 (I X:Nat→World→Prop) (hI:OwnFrom w.heap.size I) (hX:OwnFrom w.heap.size X) (h0:I 0 w)
 (Ax:Nat→Act→World→Prop) (hAx:∀a',OwnFrom w.heap.size (fun k W=>Ax k a' W))
 (hassign:∀(l k:Nat)(vs:Array Value)(U W:World)(K:Act→World→Prop),k<m→I k U→Below U.heap.size U W→hand k vs U W→(∀a' W',KeepsFrom w.heap.size W W'→Below n₀ W W'→Ax k a' W'→K a' W')→
  assign.wpIn (F.inRound l) (n-1-1) P (Exit.then K (fun _ _ _=>False)) { tmps:=(ps.zip vs).foldl (fun t(p,v)=>t.setIfInBounds p v) a.tmps,defers:=[] } W)
 (hbody:∀(l k:Nat)(a':Act)(W:World),k<m→Ax k a' W→body.wpIn (F.inRound l) (n-1-1) P (nA w.heap.size n₀ (I (k+1)) (X k) W) a' W)
 (hdone:∀(D:Nat)(W:World),w.heap.size≤D→I m W→W.heap[D]? =some (.deferred (some []))→R .normal { a with defers:={ target:= .collected D,args:= #[] } :: a.defers } W)
 (hstop:∀(D k:Nat)(W:World),w.heap.size≤D→k<m→X k W→W.heap[D]? =some (.deferred (some []))→Code.ret.wpIn F n P R { a with defers:={ target:= .collected D,args:= #[] } :: a.defers } W):
 (Code.rangeFunc g ps assign body).wpIn F n P R a w:=by
 refine wpIn_rangeFunc fun fn hfn=>?_;rw[hro]
 -- the two blocks that the statement lays: where deferred calls are kept, and the loop's record
 let D:=w.heap.size
 let L:=w.heap.size+1
 let book:LoopState→Option Code→Loop:=fun st j=>{ state:=st,pending:=j,fn,tmps:=a.tmps,params:=ps,assign,body,defers:=D }
 let W0:=(w.alloc (.deferred (some []))).alloc (.loop (book .ready none))
 have zW0:W0.heap.size=w.heap.size+2:=by simp[W0]
 have bW0:Below w.heap.size w W0:=((Below.refl _ w).alloc Ak _).alloc (by simp) _
 have AAF:W0.heap[L]? =some (.loop (book .ready none)):=by
  have:=World.alloc_heap_new (w.alloc (.deferred (some []))) (.loop (book .ready none))
  rwa [World.size_alloc]at this
 have AAr:W0.heap[D]? =some (.deferred (some [])):=(Below.heap_alloc _ _ _ (by simp[D])).trans (World.alloc_heap_new w _);have iW0:I 0 W0:=hI.alloc _ (hI.alloc _ h0);refine⟨L,[{ target:= .collected D,args:= #[] }],W0,{ target:= .fn (.func gf) lb,args:= #[.func (.yield L) #[] #[]] },W0,gf,#[.func (.yield L) #[] #[]]++lb,W0,run_enterLoop_outer _ _ _ _ _,?_,?_,?_,fun _=>h1,?_⟩
 ·simp only[resolve,hg];simp[go_sem]
 ·intro f' hf';simp[Target.leads]at hf';subst hf';exact hFg
 ·simp[invoke,go_sem,eg]
 -- what the caller keeps between rounds: its own word, and both blocks
 refine(hseq L (fun k W=>I k W∧W.heap[L]? =some (.loop (book .ready none))∧W.heap[D]? =some (.deferred (some []))) (fun k W=>X k W∧W.heap[L]? =some (.loop (book .done (some .ret)))∧W.heap[D]? =some (.deferred (some [])))
  W0 bW0 (fun k A A' h hb=>?_) (fun k A A' h hb=>?_) ?_ ⟨iW0,AAF,AAr⟩).mono ?_
 ·exact⟨hI k A A' none h.1 (grown_of hb) (fun r e=>by cases e),(hb.block L (Array.getElem?_eq_some_iff.1 h.2.1).1).trans h.2.1,(hb.block D (Array.getElem?_eq_some_iff.1 h.2.2).1).trans h.2.2⟩
 ·exact⟨hX k A A' none h.1 (grown_of hb) (fun r e=>by cases e),(hb.block L (Array.getElem?_eq_some_iff.1 h.2.1).1).trans h.2.1,(hb.block D (Array.getElem?_eq_some_iff.1 h.2.2).1).trans h.2.2⟩
 ·rintro k vs U V ⟨iU,vz,xG⟩ bU hk hh;have vg:=(bU.block L (Array.getElem?_eq_some_iff.1 vz).1).trans vz;have AAp:=(bU.block D (Array.getElem?_eq_some_iff.1 xG).1).trans xG;refine⟨fn,_,assign,body,run_yield (P:=P) (args:=vs) vg (hps k vs U V hh),roundIn_of_wpIn hfn (hassign L k vs U V _ hk iU bU hh ?_)⟩;intro a' A kA bA xA;have lv:=kA.same L _ (by simp[L]) vg rfl;have AAq:=kA.same D _ Ak AAp rfl;have ltA:=(Array.getElem?_eq_some_iff.1 lv).1;refine⟨_,run_beginRound lv rfl,?_⟩;generalize hM:A.putObj L (.loop { book .ready none with state:= .busy })=M;have v_:M.heap[L]? =some (.loop { book .ready none with state:=.busy }):=hM▸World.putObj_heap_same ltA;have xH:M.heap[D]? =some (.deferred (some [])):=hM▸(World.putObj_heap_other (by simp[L,D])).trans AAq;have bM:Below n₀ A M:=hM▸belowK_b (w:=w) hn₀ A L _ _ (by simp[L]) lv rfl rfl;have xM:Ax k a' M:=hM▸(hAx a').putObj _ xA (by simp[L]) lv rfl;refine wpIn_mono (hbody L k a' M hk xM) ?_;intro e a3 Z hZ;cases e with
  |normal=>
   obtain⟨kZ,bZ,iZ⟩:=hZ;have KO:=kZ.same L _ (by simp[L]) v_ rfl;have YY:=kZ.same D _ Ak xH rfl;refine⟨_,_,run_endRound (P:=P) none KO,.inl ⟨rfl,⟨hI.putObj _ iZ (by simp[L]) KO rfl,World.putObj_heap_same (Array.getElem?_eq_some_iff.1 KO).1,(World.putObj_heap_other (by simp[L,D])).trans YY⟩,?_⟩⟩;exact bA.trans (bM.trans (bZ.trans (belowK_b (w:=w) hn₀ Z L _ _ (by simp[L]) KO rfl rfl)))
  |ret=>
   obtain⟨kZ,iZ⟩:=hZ;have KO:=kZ.same L _ (by simp[L]) v_ rfl;have YY:=kZ.same D _ Ak xH rfl;exact⟨_,_,run_endRound (P:=P) (some .ret) KO,.inr ⟨rfl,hX.putObj _ iZ (by simp[L]) KO rfl,World.putObj_heap_same (Array.getElem?_eq_some_iff.1 KO).1,(World.putObj_heap_other (by simp[L,D])).trans YY⟩⟩
  |exit id=>exact hZ.elim
  |goto t=>exact hZ.elim
  |panic c=>exact hZ.elim
  |outgrown=>exact hZ.elim
 rintro e Z ⟨⟨v,rfl⟩,(⟨iZ,KO,YY⟩|⟨k,hk,iZ,KO,YY⟩)⟩
 ·exact⟨none,_,run_endLoop (P:=P) KO (by simp[book]),hdone D _ Ak (hI.putObj _ iZ (by simp[L]) KO rfl) ((World.putObj_heap_other (by simp[L,D])).trans YY)⟩
 exact⟨some .ret,_,run_endLoop (P:=P) KO (by simp[book]),hstop D k _ Ak hk (hX.putObj _ iZ (by simp[L]) KO rfl) ((World.putObj_heap_other (by simp[L,D])).trans YY)⟩
end
end Go.Proofs.YtcjmcgolgbkknaaGreatDoor
