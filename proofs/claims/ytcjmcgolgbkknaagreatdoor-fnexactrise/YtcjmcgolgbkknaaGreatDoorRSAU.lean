/- Lemmas; their conditions stand in each statement. -/
import Derived.Test.YtcjmcgolgbkknaaGreatDoorRSAT
import Derived.RangeFuncNested
import Derived.RangeFuncBound
set_option maxRecDepth 100000
set_option maxHeartbeats 2000000
set_option linter.unusedSectionVars false
namespace Go.Proofs.YtcjmcgolgbkknaaGreatDoor
section
open Go.RowKit
variable [∀(a b c d:Int),Decidable (BD a b c d)] [∀(a b c d:Nat),Decidable (Dg a b c d)] [∀(last:Int)(s:St),Decidable (Ak last s)] [∀(x:T4),Decidable (Dt x)]
theorem jB(ss tt:List St):nm (ss++tt)=nm ss++nm tt:=by simp[nm]
theorem eB(ss:List St)(x:St):nm (ss++[x])=nm ss++47 :: Bl x:=by simp[nm]
theorem Im.pre{ss tt:List St}(h:Im (ss++tt)):Im ss:=by
 obtain⟨h1,h2,h3⟩:=h;refine⟨by simp at h1;omega,fun s hs=>h2 s (by simp[hs]),?_⟩;rw[List.pairwise_append]at h3;exact h3.1
theorem U9{s t:ByteArray}(h:s.data.toList=t.data.toList):s=t:=ByteArray.ext (Array.toList_inj.1 h)
theorem ZW{a b x y:List UInt8}(hx:(47:UInt8) ∉ x)(hy:(47:UInt8) ∉ y)(h:a++47 :: x=b++47 :: y):a=b∧x=y:=by
 have hr:=congrArg List.reverse h;simp only[List.reverse_append,List.reverse_cons,List.append_assoc,List.singleton_append]at hr;have hx':(47:UInt8) ∉ x.reverse:=by simpa using hx
 have hy':(47:UInt8) ∉ y.reverse:=by simpa using hy
 have e1:x.reverse=y.reverse:=by rw[←EF (y:=a.reverse) hx',hr,EF hy']
 have e2:a.reverse=b.reverse:=by rw[←Ej (x:=x.reverse) (y:=a.reverse) hx',hr,Ej hy']
 exact⟨List.reverse_inj.1 e2,List.reverse_inj.1 e1⟩
theorem Yp{x y:St}(hx:Lb x)(hy:Lb y)(h:Bl x=Bl y):x=y:=by
 have h1:=Gi hx (p:=Bj (Bl x)) (BC _);have h2:=Gi hy (p:=Bj (Bl x)) ((BC _).trans h);rw[h1]at h2;exact Option.some.inj h2

theorem xE{l:List UInt8}(h:l≠[]):Bj l≠⟨#[]⟩:=fun e=>h (by have:=congrArg (fun s:ByteArray=>s.data.toList) e;simpa[BC]using this)
def Fj(s:ByteArray):ByteArray:=Bj (nm ((AO s).getD []).dropLast)
def Am(s:ByteArray):Int:=(((AO s).getD []).getLast?.map (·.1)).getD 0
def Bh(s:ByteArray):Int:=match AO s with|some ss=>(ss.length:Int)|none=> -1
theorem JP{s:ByteArray}:Bh s≤Am s∧Bh s≤30∧Am s≤60:=by
 unfold Bh Am;cases h:AO s with
 |none=>simp
 | some ss=>
  have ok:=((Cg _ _).1 h).2;simp only[Option.getD_some];refine⟨?_,by have:=ok.1;omega,?_⟩
  ·have key:∀ss:List St,(∀s ∈ ss,Lb s)→ss.Pairwise (fun a b=>a.1<b.1)→(ss.length:Int)≤(ss.getLast?.map (·.1)).getD 0:=by
    intro ss;generalize hn:ss.length=n
    induction n generalizing ss with
    |zero=>intro _ _;have:ss=[]:=List.length_eq_zero_iff.1 hn;subst this;simp
    | succ n ih=>
     intro h1 h2;obtain⟨ss',x,rfl⟩:∃ss' x,ss=ss'++[x]:=⟨ss.dropLast,ss.getLast (fun e=>by rw[e]at hn;simp at hn),(List.dropLast_concat_getLast _).symm⟩
     rw[List.pairwise_append]at h2;have:=ih ss' (by simpa using hn) (fun s hs=>h1 s (by simp[hs])) h2.1;have hx:=(h1 x (by simp)).1;simp only[List.getLast?_append,List.getLast?_singleton,Option.some_or,Option.map_some,Option.getD_some];cases hl:ss'.getLast? with
     |none=>rw[hl]at this;simp at this;omega
     |some y=>
      rw[hl]at this;simp at this;have:=h2.2.2 y (List.mem_of_getLast? hl) x (by simp);omega
   exact key ss ok.2.1 ok.2.2
  cases hl:ss.getLast? with
  |none=>simp
  |some y=>simp;exact(ok.2.1 y (List.mem_of_getLast? hl)).1.2
theorem mU{s:ByteArray}{ss:List St}(h:AO s=some ss)(k:Nat)(hk:k≤s.data.toList.length)(h1:(47:UInt8) ∉ s.data.toList.drop k)(h2:k=0∨s.data.toList[k-1]? =some 47):Bj (s.data.toList.take (k-1))=Fj s:=by
 have hs:=(Cg _ _).1 h;unfold Fj;rw[h,Option.getD_some];by_cases hne:ss=[]
 ·subst hne;have:s.data.toList=[]:=hs.1;rw[this];simp[nm]
 obtain⟨ss',x,rfl⟩:∃ss' x,ss=ss'++[x]:=⟨ss.dropLast,ss.getLast hne,(List.dropLast_concat_getLast _).symm⟩
 rw[List.dropLast_concat];have e:=hs.1;rw[eB]at e;rcases h2 with rfl|h2
 ·rw[List.drop_zero,e]at h1;simp at h1
 have hk0:0<k:=by
  cases k with
  |zero=>
   rw[List.drop_zero,e]at h1;simp at h1
  |succ k=>omega
 have hlt:k-1<s.data.toList.length:=by omega
 have e3:s.data.toList=s.data.toList.take (k-1)++47 :: s.data.toList.drop k:=by
  conv=>lhs;rw[←List.take_append_drop (k-1) s.data.toList]
  congr 1
  rw[List.drop_eq_getElem_cons hlt,show k-1+1=k from by omega]
  congr 1
  rw[List.getElem?_eq_getElem hlt]at h2;exact Option.some.inj h2
 have e4:=e3.symm.trans e;rw[(ZW h1 (Eo x) e4).1]
theorem xq:∀(tt ss:List St),(∀x ∈ tt,Lb x)→(∀x ∈ ss,Lb x)→∀r,nm ss=nm tt++r→(r=[]∨∃q,r=47 :: q)→tt <+: ss:=by
 intro tt
 induction tt with
 |nil=>intro ss _ _ r _ _;exact List.nil_prefix
 | cons x tt ih=>
  intro ss ht hs r h hr;cases ss with
  |nil=>simp[nm]at h
  | cons y ss=>
   have e:∀(z:St)(zs:List St),nm (z :: zs)=47 :: (Bl z++nm zs):=fun z zs=>by simp[nm]
   rw[e,e,List.cons_append,List.append_assoc]at h;have h':=List.tail_eq_of_cons_eq h
   have lead:∀(zs:List St)(q:List UInt8),(q=[]∨∃p,q=47 :: p)→nm zs++q=[]∨∃p,nm zs++q=47 :: p:=fun zs q hq=>by
    cases zs with
    |nil=>simpa[nm]using hq
    |cons z zs=>right;rw[e];exact⟨_,rfl⟩
   have cutAt:∀(a b p q:List UInt8),(47:UInt8) ∉ a→(47:UInt8) ∉ b→(p=[]∨∃p',p=47 :: p')→(q=[]∨∃q',q=47 :: q')→a++p=b++q→a=b∧p=q:=by
    intro a b p q ha hb hp hq hab
    have f:∀(a p:List UInt8),(47:UInt8) ∉ a→(p=[]∨∃p',p=47 :: p')→hd 47 (a++p)=a:=by
     intro a p ha hp;rcases hp with rfl|⟨p',rfl⟩
     ·rw[List.append_nil];exact eU ha
     exact EF ha
    have e1:a=b:=by rw[←f a p ha hp,hab,f b q hb hq]
    subst e1;exact⟨rfl,List.append_cancel_left hab⟩
   have l1:=lead ss [] (.inl rfl);rw[List.append_nil]at l1;obtain⟨e1,e2⟩:=cutAt _ _ _ _ (Eo y) (Eo x) l1 (lead tt r hr) h';have exy:y=x:=Yp (hs y (by simp)) (ht x (by simp)) e1;subst exy;exact(List.cons_prefix_cons).2 ⟨rfl,ih ss (fun z hz=>ht z (by simp[hz])) (fun z hz=>hs z (by simp[hz])) r e2 hr⟩
theorem fM(ts:List T4)(h:ts.length≤2):(Iq ts).size≤56:=by
 unfold Iq
 split
 ·rw[DT];have:=qx ts ts.length;omega
 exact Nat.zero_le _
def pc:List UInt8→List UInt8
 | []=>[]
 |c :: t=>c :: t.takeWhile (·!= 47)
def rs:List UInt8→List UInt8
 | []=>[]
 |_ :: t=>t.dropWhile (·!= 47)
theorem vZ(r:List UInt8):pc r++rs r=r:=by
 cases r with
 |nil=>rfl
 |cons c t=>simp[pc,rs,List.takeWhile_append_dropWhile]
theorem nO{r:List UInt8}(h:r≠[]):(rs r).length<r.length:=by
 cases r with
 |nil=>exact absurd rfl h
 |cons c t=>
  have:=congrArg List.length (List.takeWhile_append_dropWhile (p:=(·!= (47:UInt8))) (l:=t));rw[List.length_append]at this;simp only[rs,List.length_cons];omega
theorem sG(r:List UInt8):rs r=[]∨∃q,rs r=47 :: q:=by
 cases r with
 |nil=>exact .inl rfl
 | cons c t=>
  show t.dropWhile _=[]∨∃q,t.dropWhile _=47 :: q;cases h:t.dropWhile (·!= (47:UInt8))with
  |nil=>exact .inl rfl
  |cons x q=>
   have hx:=List.head_dropWhile_not (p:=(·!= (47:UInt8))) (l:=t) (by rw[h];simp);simp only[h,List.head_cons]at hx;exact .inr ⟨q,by rw[show x=47 by simpa using hx]⟩
def Fq(l:List UInt8):Nat→List UInt8
 |0=>l
 |k+1=>rs (Fq l k)
theorem xU(l:List UInt8)(k:Nat):(Fq l k).length≤l.length:=by
 induction k with
 |zero=>exact Nat.le_refl _
 |succ k ih=>
  by_cases h:Fq l k=[]
  ·show(rs (Fq l k)).length≤_;rw[h];exact Nat.zero_le _
  have:=nO h;show(rs (Fq l k)).length≤_;omega
theorem rounds(l:List UInt8):∃m,Fq l m=[]∧∀k,k<m→Fq l k≠[]:=by
 have key:∀n k,(Fq l k).length≤n→(∀j,j<k→Fq l j≠[])→∃m,Fq l m=[]∧∀k,k<m→Fq l k≠[]:=by
  intro n
  induction n with
  |zero=>exact fun k h hk=>⟨k,List.length_eq_zero_iff.1 (Nat.le_zero.1 h),hk⟩
  | succ n ih=>
   intro k h hk;by_cases e:Fq l k=[]
   ·exact⟨k,e,hk⟩
   have:=nO e
   exact ih (k+1) (by show(rs (Fq l k)).length≤n;omega) fun j hj=>by
    by_cases e2:j=k
    ·subst e2;exact e
    exact hk j (by omega)
 exact key _ 0 Ae fun j hj=>by omega
def Cz(p:List UInt8):Option St:=if p.head? =some 47 then stepOf (Bj p.tail)else none
def EZ(ss:List St):Int:=(ss.getLast?.map (·.1)).getD 0
theorem Po(ss:List St)(x:St):EZ (ss++[x])=x.1:=by simp[EZ]
theorem Ws{ss:List St}(h:Im ss):0≤EZ ss∧EZ ss≤60:=by
 unfold EZ;cases e:ss.getLast? with
 |none=>simp
 |some x=>
  have:=(h.2.1 x (List.mem_of_getLast? e)).1;simp;omega
theorem mO{ss:List St}(h:Im ss):∀s ∈ ss,s.1≤EZ ss:=by
 intro s hs;obtain⟨ss',x,rfl⟩:∃ss' x,ss=ss'++[x]:=⟨ss.dropLast,ss.getLast (List.ne_nil_of_mem hs),(List.dropLast_concat_getLast _).symm⟩
 rw[Po];rcases List.mem_append.1 hs with h1|h1
 ·have:=(List.pairwise_append.1 h.2.2).2.2 s h1 x (by simp);omega
 simp at h1;subst h1;exact Int.le_refl _
theorem ng{l r:List UInt8}{ss:List St}{x:St}(h:l=nm ss++r)(hk:Im ss)(hx:Cz (pc r)=some x)(hg:Ak (EZ ss) x)(hl:ss.length<30):l=nm (ss++[x])++rs r∧Im (ss++[x]):=by
 unfold Cz at hx
 split at hx
 ·rename_i hh;obtain⟨h1,h2,h3⟩:=Md hx;rw[BC]at h1
  have hp:pc r=47 :: Bl x:=by
   rw[←h1];cases hpc:pc r with
   |nil=>rw[hpc]at hh;simp at hh
   |cons c t=>rw[hpc]at hh;simp at hh;rw[hh];rfl
  obtain⟨g1,g2,g3⟩:=hg;have hz:=Ws hk;have hx:Lb x:=⟨⟨by omega,g2⟩,g3,h3⟩
  refine⟨?_,by simp;omega,fun s hs=>?_,?_⟩
  ·rw[eB,←hp,List.append_assoc,vZ];exact h
  ·rcases List.mem_append.1 hs with h4|h4
   ·exact hk.2.1 s h4
   simp at h4;subst h4;exact hx
  refine List.pairwise_append.2 ⟨hk.2.2,by simp,fun s hs t ht=>?_⟩;simp at ht;subst ht;have:=mO hk s hs;omega
 cases hx
theorem tH:∀ss:List St,nm ss=[]∨∃q,nm ss=47 :: q:=fun ss=>by
 cases ss with
 |nil=>exact .inl rfl
 |cons s ss=>exact .inr ⟨_,rfl⟩
theorem ni{s:ByteArray}{r:List UInt8}{ss:List St}(h:s.data.toList=nm ss++r)(hr:r≠[])(hk:Im ss)(hh:ss=[]∨∃q,r=47 :: q)
 (hn:∀x,Cz (pc r)=some x→Ak (EZ ss) x→ss.length<30→False):AO s=none:=by
 cases hs:AO s with
 |none=>rfl
 | some tt=>
  exfalso;obtain⟨h1,h2⟩:=(Cg _ _).1 hs
  have hpre:ss <+: tt:=by
   rcases hh with rfl|hh
   ·exact List.nil_prefix
   exact xq ss tt hk.2.1 h2.2.1 r (h1.symm.trans h) (.inr hh)
  obtain⟨uu,rfl⟩:=hpre;rw[h,jB]at h1;have h1:=List.append_cancel_left h1;cases uu with
  |nil=>exact hr h1
  | cons x uu=>
   have hx:Lb x:=h2.2.1 x (by simp);have e1:r=47 :: (Bl x++nm uu):=by rw[h1];simp[nm]
   have hc:∀y ∈ Bl x,(y != (47:UInt8))=true:=fun y hy=>by
    have:=Eo x;simp;intro e;subst e;exact this hy
   have e2:pc r=47 :: Bl x:=by
    rw[e1];show 47 :: (Bl x++nm uu).takeWhile _=_;rw[List.takeWhile_append_of_pos hc];rcases tH uu with e|⟨q,e⟩
    ·rw[e];simp
    rw[e];simp
   refine hn x ?_ ?_ ?_
   ·unfold Cz;rw[e2];refine(if_pos rfl).trans ?_;exact Gi hx (BC _)
   ·have hv:EZ ss<x.1:=by
     unfold EZ;cases e:ss.getLast? with
     |none=>have:=hx.1;simp;omega
     |some y=>
      have:=(List.pairwise_append.1 h2.2.2).2.2 y (List.mem_of_getLast? e) x (by simp);simpa using this
    exact⟨hv,hx.1.2,hx.2.1⟩
   have:=h2.1;simp at this;omega
theorem iQ{s:ByteArray}{ss:List St}(h:s.data.toList=nm ss++[])(hk:Im ss):AO s=some ss:=(Cg _ _).2 ⟨by simpa using h,hk⟩
theorem XM(m:UInt8)(l:List UInt8):(m ∉ l∧Lib.indexByte l m= -1)∨(m ∈ l∧Lib.indexByte l m=((l.takeWhile (·!= m)).length:Int)):=by
 induction l with
 |nil=>exact .inl ⟨by simp,rfl⟩
 |cons b l ih=>
  unfold Lib.indexByte;by_cases h:b=m
  ·subst h;exact .inr ⟨by simp,by simp⟩
  have hb:(b==m)=false:=by simpa using h
  have hn:(b != m)=true:=by simpa using h
  rw[if_neg (by simpa using h)];rcases ih with⟨h1,h2⟩|⟨h1,h2⟩
  ·rw[h2];exact .inl ⟨by simp[h1,Ne.symm h],rfl⟩
  rw[h2,if_neg (by simp)];refine .inr ⟨by simp[h1],?_⟩;rw[List.takeWhile_cons,if_pos hn];simp

theorem Pm(m:UInt8)(s:ByteArray)(w:World):
 Calls Tryz.prog 272 #[.string s,.string ⟨#[m]⟩] w fun e w'=>e= .returned (.int .i64 (Lib.indexByte s.data.toList m))∧w'=w:=by
 have IB:=hide fun w=>Tryz.stringslite_IndexByte s (m.toNat:Int) w;have e1:((m.toNat:Nat):Int).toNat.toUInt8=m:=by simp
 rw[e1]at IB;have hz:(⟨#[m]⟩:ByteArray).size=1:=rfl;have hi:(⟨#[m]⟩:ByteArray)[0]'(by rw[hz];omega)=m:=rfl
 have hne:([m]==s.toList)=true→Lib.indexByte s.data.toList m=0:=fun h=>by
  have h1:s.toList=[m]:=(by simpa using h:[m]=s.toList).symm;rw[ByteArray.toList_eq]at h1;rw[h1];simp[Lib.indexByte]
 cases hb:([m]==s.toList)with
 |true=>
  rw[hne hb];clear IB hne;go_enter Tryz.func272,Tryz.ntmps272
  go_wp2;go_ret;exact⟨rfl,rfl⟩
 |false=>
  clear hne;generalize Lib.indexByte s.data.toList m=r at *;go_enter Tryz.func272,Tryz.ntmps272
  go_wp2_with (first|(go_at_call 288;refine(IB.out _).mono ?_;rintro e w' ⟨rfl,rfl⟩))
  go_ret;exact⟨rfl,rfl⟩
theorem Zb(m:UInt8)(s:ByteArray)(w:World):
 Calls Tryz.prog 253 #[.string s,.string ⟨#[m]⟩] w fun e w'=>e= .returned (.int .i64 (Lib.indexByte s.data.toList m))∧w'=w:=by
 have IB:=hide fun w=>Pm m s w;generalize Lib.indexByte s.data.toList m=r at *;generalize (⟨#[m]⟩:ByteArray)=q at *;go_enter Tryz.func253,Tryz.ntmps253
 go_wp2_with (first|(go_at_call 272;refine(IB.out _).mono ?_;rintro e w' ⟨rfl,rfl⟩))
 go_ret;exact⟨rfl,rfl⟩
def Iz(m:UInt8)(s:ByteArray):ByteArray×ByteArray:=if m ∈ s.data.toList then(Bj (hd m s.data.toList),Bj (tl m s.data.toList))else(s,⟨#[]⟩)
theorem kQ(m:UInt8)(s:ByteArray):(Iz m s).1.size≤s.size∧(Iz m s).2.size≤s.size:=by
 unfold Iz
 split
 ·have h:=congrArg List.length (List.takeWhile_append_dropWhile (p:=(·!= m)) (l:=s.data.toList));rw[List.length_append]at h;have h2:s.data.toList.length=s.size:=by simp
  simp only[DT,hd,tl,List.length_tail];omega
 exact⟨Nat.le_refl _,Nat.zero_le _⟩
theorem uO{m:UInt8}{s:ByteArray}(h:m ∈ s.data.toList):∃k:Nat,k<s.size∧(s.data.toList.takeWhile (·!= m)).length=k∧s.extract 0 k=(Iz m s).1∧s.extract (k+1) s.size=(Iz m s).2:=by
 have h1:=List.takeWhile_append_dropWhile (p:=(·!= m)) (l:=s.data.toList);have h3:=congrArg List.length h1;rw[List.length_append]at h3;have h2:s.data.toList.length=s.size:=by simp
 have h4:s.data.toList.dropWhile (·!= m)≠[]:=fun e=>by
  rw[e,List.append_nil]at h1;have:=(List.all_takeWhile (p:=(·!= m)) (l:=s.data.toList))
  rw[h1]at this;have:=List.all_eq_true.1 this m h;simp at this
 have h5:0<(s.data.toList.dropWhile (·!= m)).length:=List.length_pos_iff.2 h4;have e1:hd m s.data.toList=s.data.toList.takeWhile (·!= m):=rfl;have e2:tl m s.data.toList=(s.data.toList.dropWhile (·!= m)).tail:=rfl;unfold Iz;rw[if_pos h,e1,e2];generalize s.data.toList.takeWhile (·!= m)=x at *;generalize s.data.toList.dropWhile (·!= m)=y at *;refine⟨_,by omega,rfl,?_,?_⟩
 ·rw[LD,←h1];simp
 rw[Kh,←h1];simp

theorem oV(m:UInt8)(s:ByteArray)(w:World)(hs:s.size≤33554432):
 Calls Tryz.prog 274 #[.string s,.string ⟨#[m]⟩] w fun e w'=>e= .returned (.tuple #[.string (Iz m s).1,.string (Iz m s).2,.bool (decide (m ∈ s.data.toList))])∧Below w.heap.size w w':=by
 have IX:=hide fun w=>Pm m s w;have hz:(⟨#[m]⟩:ByteArray).size=1:=rfl;rcases XM m s.data.toList with⟨h1,h2⟩|⟨h1,h2⟩
 ·rw[h2]at IX;have e1:Iz m s=(s,⟨#[]⟩):=if_neg h1;rw[e1,decide_eq_false h1];clear h1 h2 e1;generalize (⟨#[m]⟩:ByteArray)=q at *;go_enter Tryz.func274,Tryz.ntmps274
  go_wp2_with (first|(go_at_call 272;refine(IX.out _).mono ?_;rintro e w' ⟨rfl,rfl⟩))
  go_ret3
  exact⟨rfl,Below.refl _ _⟩
 obtain⟨k,hk,hkl,e1,e2⟩:=uO h1;rw[h2,hkl]at IX;rw[←e1,←e2,decide_eq_true h1];clear h1 h2 e1 e2 hkl;have mixed:Tryz.prog.follows .mixedOrders=true:=by kernel_rfl
 generalize (⟨#[m]⟩:ByteArray)=q at *;go_enter Tryz.func274,Tryz.ntmps274
 go_wp2_with (first|(go_at_call 272;refine(IX.out _).mono ?_;rintro e w' ⟨rfl,rfl⟩))
 go_region_o
 go_wp2
 go_ret3
 exact⟨rfl,(Below.refl _ _).drew⟩
theorem qF(m:UInt8)(s:ByteArray)(w:World)(hs:s.size≤33554432):
 Calls Tryz.prog 255 #[.string s,.string ⟨#[m]⟩] w fun e w'=>e= .returned (.tuple #[.string (Iz m s).1,.string (Iz m s).2,.bool (decide (m ∈ s.data.toList))])∧Below w.heap.size w w':=by
 have IX:=hide fun w=>oV m s w hs;generalize decide (m ∈ s.data.toList)=r at *;generalize Iz m s=r at *;generalize (⟨#[m]⟩:ByteArray)=q at *;go_enter Tryz.func255,Tryz.ntmps255
 go_wp2_with (first|(go_at_call 274;refine(IX.out _).mono ?_;rintro e w' ⟨rfl,bb⟩))
 go_ret3
 exact⟨rfl,bb⟩
theorem jQ(m:UInt8)(s:ByteArray)(w:World)(hs:s.size≤33554432):
 Calls Tryz.prog 356 #[.string s,.string ⟨#[m]⟩] w fun e w'=>e= .returned (.int .i64 (Lib.lastIndexByte s (m.toNat:Int)))∧w'=w:=by
 have IX:=hide fun w=>Tryz.bytealg_LastIndexByteString_nm s (m.toNat:Int) (by omega) w;have hz:(⟨#[m]⟩:ByteArray).size=1:=rfl;have hi:(⟨#[m]⟩:ByteArray)[0]'(by rw[hz];omega)=m:=rfl;generalize Lib.lastIndexByte s (m.toNat:Int)=r at *;go_enter Tryz.func356,Tryz.ntmps356
 go_wp2_with (first|(go_at_call 357;refine(IX.out _).mono ?_;rintro e w' ⟨rfl,rfl⟩))
 go_ret;exact⟨rfl,rfl⟩
end
section
open Go.RowKit
variable [∀(a b c d:Int),Decidable (BD a b c d)] [∀(a b c d:Nat),Decidable (Dg a b c d)] [∀(last:Int)(s:St),Decidable (Ak last s)]
theorem Tryz.infoSt:(Tryz.prog.info? 248).map (fun i=>(i.zero,i.size,i.bytes))=some (some (.agg #[.int .i64 0,.slice none 0 0]),2,32):=by kernel_rfl
def Fp(p:Int×Value):List Value:=[.int .i64 p.1,p.2]
def FZ(ps:List (Int×Value)):List Value:=ps.flatMap Fp
theorem Qo(ps qs:List (Int×Value)):FZ (ps++qs)=FZ ps++FZ qs:=by simp[FZ]
theorem Y3(ps:List (Int×Value))(k j:Nat)(hk:k<ps.length)(hj:j<2):(FZ ps)[k*2+j]? =(Fp (ps.getD k (0,.slice none 0 0)))[j]?:=by
 induction ps generalizing k with
 |nil=>simp at hk
 | cons p ps ih=>
  have e:FZ (p :: ps)=Fp p++FZ ps:=by simp[FZ]
  rw[e];cases k with
  |zero=>rw[Nat.zero_mul,Nat.zero_add,List.getElem?_append_left (by simp[Fp];exact hj)];rfl
  |succ k=>
   rw[List.getElem?_append_right (by simp[Fp];omega),show(Fp p).length=2 from rfl,show(k+1)*2+j-2=k*2+j from by omega,ih k (by simpa using hk)];rfl
structure I8(w:World)(base:Nat)(v:Value)(ss:List St)(vs:List Value):Prop where
 len:vs.length=ss.length
 row:w.ownsRow base 248 2 v ss.length (FZ ((ss.map (·.1)).zip vs))
 each:∀k,k<ss.length→OT w base (vs.getD k (.slice none 0 0)) (ss.getD k rO).2
 apart:∀i j,i<j→j<ss.length→∀b,(vs.getD i (.slice none 0 0)).ownBlock=some b→(vs.getD j (.slice none 0 0)).ownBlock≠some b
def fJ(w:World)(base:Nat)(v:Value)(ss:List St):Prop:=∃vs,I8 w base v ss vs
theorem AAG{w:World}{B B' n:Nat}{v u:Value}{cs:List Value}{ys:List T4}(h:w.ownsRow B 248 2 v n cs)(h':OT w B' u ys)(b:Nat)(hv:v.ownBlock=some b):u.ownBlock≠some b:=by
 rcases h.2 with⟨rfl,_⟩|⟨g,cap,cur,rfl,_,hg,_⟩
 ·simp[Value.ownBlock]at hv
 rcases h'.2 with⟨rfl,_⟩|⟨g',cap',cur',rfl,_,hg',_⟩
 ·simp[Value.ownBlock]
 intro e;simp[Value.ownBlock]at e hv;subst hv;rw[e,hg]at hg';simp at hg'
theorem I8.below{w w':World}{base:Nat}{v:Value}{ss:List St}{vs:List Value}(h:I8 w base v ss vs)(hb:Below w.heap.size w w'):I8 w' base v ss vs:=
 ⟨h.len,World.ownsRow.kept (row:=none) h.row ⟨hb.os,hb.tape,hb.output,hb.size,fun k hk _=>hb.block k hk⟩ (by cases v.ownBlock<;>simp),fun k hk=>(h.each k hk).below hb,h.apart⟩
theorem fJ.below{w w':World}{base:Nat}{v:Value}{ss:List St}(h:fJ w base v ss)(hb:Below w.heap.size w w'):fJ w' base v ss:=by
 obtain⟨vs,h⟩:=h;exact⟨vs,h.below hb⟩
theorem sU(w:World)(base:Nat):fJ w base (.slice none 0 0) []:=⟨[],rfl,World.ownsRow_nil _ _ _ _,fun k hk=>by simp at hk,fun i j _ hj=>by simp at hj⟩
theorem fJ.form{w:World}{base:Nat}{v:Value}{ss:List St}(h:fJ w base v ss):∃ao ca,v= .slice ao ss.length ca:=by
 obtain⟨vs,h⟩:=h;rcases h.row.2 with⟨rfl,h0⟩|⟨g,cap,cur,rfl,_⟩
 ·exact⟨none,0,by rw[h0]⟩
 exact⟨_,_,rfl⟩
def RSt(w:World)(v:Value)(ss:List St):Prop:=
 ∃ao cap,v= .slice ao ss.length cap∧(ss=[]∨∃g,ao=some ⟨g,0,none⟩∧∀k,k<ss.length→∃u,w.cell? ⟨g,k*2,none⟩=some (.int .i64 (ss.getD k rO).1)∧w.cell? ⟨g,k*2+1,none⟩=some u∧RT w u (ss.getD k rO).2)
theorem rP(ss:List St)(vs:List Value)(hl:vs.length=ss.length)(k:Nat)(hk:k<ss.length):((ss.map (·.1)).zip vs).getD k (0,.slice none 0 0)=((ss.getD k rO).1,vs.getD k (.slice none 0 0)):=by
 rw[List.getD_eq_getElem?_getD,List.getElem?_eq_getElem (by simp;omega)];simp[List.getElem?_eq_getElem hk,List.getElem?_eq_getElem (show k<vs.length by omega)]
theorem fJ.X6{w:World}{base:Nat}{v:Value}{ss:List St}(h:fJ w base v ss)(hs:∀s ∈ ss,s.2.length≤35184372088832):RSt w v ss:=by
 obtain⟨vs,h⟩:=h;have hz:((ss.map (·.1)).zip vs).length=ss.length:=by simp[h.len]
 rcases h.row.2 with⟨rfl,h0⟩|⟨g,cap,cur,rfl,_⟩
 ·exact⟨none,0,by rw[h0],.inl (List.length_eq_zero_iff.1 h0)⟩
 refine⟨_,cap,rfl,.inr ⟨g,rfl,fun k hk=>?_⟩⟩;have c0:=World.ownsRow.cellAt h.row (k*2+0) (by omega);have c1:=World.ownsRow.cellAt h.row (k*2+1) (by omega);rw[Y3 _ k _ (by omega) (by omega),rP ss vs h.len k hk]at c0 c1;exact⟨_,c0,c1,(h.each k hk).rt (hs _ (by rw[List.getD_eq_getElem?_getD,List.getElem?_eq_getElem hk];exact List.getElem_mem hk))⟩
theorem RSt.below{w w':World}{v:Value}{ss:List St}(h:RSt w v ss)(hb:Below w.heap.size w w'):RSt w' v ss:=by
 obtain⟨ao,cap,rfl,h⟩:=h;refine⟨ao,cap,rfl,?_⟩;rcases h with h|⟨g,rfl,h⟩
 ·exact .inl h
 refine .inr ⟨g,rfl,fun k hk=>?_⟩;obtain⟨u,c0,c1,r⟩:=h k hk;have hg:g<w.heap.size:=AL c0;exact⟨u,(hb.cell (p:=⟨g,k*2,none⟩) hg).trans c0,(hb.cell (p:=⟨g,k*2+1,none⟩) hg).trans c1,r.below hb⟩
theorem WS{w w':World}{base N:Nat}{v v':Value}{ss:List St}{vs:List Value}{n:Int}{u:Value}{ts:List T4}(h:I8 w base v ss vs)(hu:OT w N u ts)(hN:∀k,k<ss.length→∀b,(vs.getD k (.slice none 0 0)).ownBlock=some b→b<N)(hbN:base≤N)
 (hr:w'.ownsRow base 248 2 v' (ss.length+1) (FZ ((ss.map (·.1)).zip vs)++Fp (n,u))) (hg:w.grownBy w' v.ownBlock):I8 w' base v' (ss++[(n,ts)]) (vs++[u]):=by
 have keep:∀(x:Value)(zs:List T4)(B:Nat),OT w B x zs→OT w' B x zs:=fun x zs B hx=>World.ownsRow.kept hx hg (by
  cases hxo:x.ownBlock with
  |none=>exact .inl rfl
  |some b=>exact .inr fun e=>AAG h.row hx b e.symm hxo)
 refine⟨by simp[h.len],?_,fun k hk=>?_,fun i j hij hj b hb=>?_⟩
 ·have e:((ss++[(n,ts)]).map (·.1)).zip (vs++[u])=(ss.map (·.1)).zip vs++[(n,u)]:=by
   rw[List.map_append,List.zip_append (by simp[h.len])];rfl
  rw[e,Qo,List.length_append];simpa[FZ]using hr
 ·rw[List.length_append,List.length_singleton]at hk;by_cases e:k<ss.length
  ·rw[List.getD_eq_getElem?_getD,List.getElem?_append_left (by rw[h.len];exact e),←List.getD_eq_getElem?_getD,List.getD_eq_getElem?_getD (l:=ss++_),List.getElem?_append_left e,←List.getD_eq_getElem?_getD];exact keep _ _ _ (h.each k e)
  obtain rfl:k=ss.length:=by omega
  have e1:(vs++[u]).getD ss.length (.slice none 0 0)=u:=by rw[←h.len];simp
  have e2:(ss++[(n,ts)]).getD ss.length rO=(n,ts):=by simp
  rw[e1,e2];have hk':=keep _ _ _ hu;refine⟨hk'.1,?_⟩;rcases hk'.2 with hn|⟨g,cap,cur,rfl,hgN,rest⟩
  ·exact .inl hn
  exact .inr ⟨g,cap,cur,rfl,Nat.le_trans hbN hgN,rest⟩
 rw[List.length_append,List.length_singleton]at hj;have hi:i<ss.length:=by omega
 rw[List.getD_eq_getElem?_getD,List.getElem?_append_left (by rw[h.len];exact hi),←List.getD_eq_getElem?_getD]at hb;by_cases e:j<ss.length
 ·rw[List.getD_eq_getElem?_getD,List.getElem?_append_left (by rw[h.len];exact e),←List.getD_eq_getElem?_getD];exact h.apart i j hij e b hb
 obtain rfl:j=ss.length:=by omega
 have e1:(vs++[u]).getD ss.length (.slice none 0 0)=u:=by rw[←h.len];simp
 rw[e1];intro e3;have:=hN i hi b hb;have:=(World.ownsRow.lt hu b e3).1;omega
end
section
open Go Go.RowKit
theorem grown_of{w w':World}(h:Below w.heap.size w w'):w.grownBy w' none:=⟨h.os,h.tape,h.output,h.size,fun k hk _=>h.block k hk⟩
def uG(B n₀:Nat)(G X:World→Prop)(W:World):Exit→Act→World→Prop
 | .normal,_,W'=>KeepsFrom B W W'∧Below n₀ W W'∧G W'
 | .ret,_,W'=>KeepsFrom B W W'∧X W'
 |_,_,_=>False
def wW(F:Fence)(n:Nat)(P:Program)(gf:Nat)(lb:Array Value)(n₀ m:Nat)(hand:Nat→Array Value→World→World→Prop)(w:World):Prop:=
 ∀(l:Nat)(J X:Nat→World→Prop)(W:World),Below w.heap.size w W→(∀k A A',J k A→Below A.heap.size A A'→J k A')→(∀k A A',X k A→Below A.heap.size A A'→X k A')→
  (∀k vs U V,J k U→Below U.heap.size U V→k<m→hand k vs U V→YieldAt F (n-1) P l vs V fun e V'=>(e= .returned (.bool true)∧J (k+1) V'∧Below n₀ V V')∨(e= .returned (.bool false)∧X k V'))→
  J 0 W→CallsIn F n P gf (#[.func (.yield l) #[] #[]]++lb) W fun e W'=>(∃v,e= .returned v)∧(J m W'∨∃k,k<m∧X k W')

variable {F:Fence} {n:Nat} {P:Program}
theorem iG{g:Operand}{ps:Array Tmp}{assign body:Code}{R:Exit→Act→World→Prop}{a:Act}{w:World}
 (hro:F.round=none) (h1:1≤n) {gf:Nat} {lb:Array Value} (hg:a.eval g= .func (.func gf) #[] lb) (hFg:F.fn gf) (eg:∀args w,(callFunc gf args).run P w= .ok (.enter gf args) w)
 {n₀ m:Nat} {hand:Nat→Array Value→World→World→Prop} (hn₀:n₀≤w.heap.size) (hps:∀k vs U W,hand k vs U W→vs.size=ps.size) (hseq:wW F (n-1) P gf lb n₀ m hand w)
 (I X:Nat→World→Prop) (hI:OwnFrom w.heap.size I) (hX:OwnFrom w.heap.size X) (h0:I 0 w)
 (Ax:Nat→Act→World→Prop) (hAx:∀a',OwnFrom w.heap.size (fun k W=>Ax k a' W))
 (hassign:∀(l k:Nat)(vs:Array Value)(U W:World)(K:Act→World→Prop),k<m→I k U→Below U.heap.size U W→hand k vs U W→(∀a' W',KeepsFrom w.heap.size W W'→Below n₀ W W'→Ax k a' W'→K a' W')→
  assign.wpIn (F.inRound l) (n-1-1) P (Exit.then K (fun _ _ _=>False)) { tmps:=(ps.zip vs).foldl (fun t(p,v)=>t.setIfInBounds p v) a.tmps,defers:=[] } W)
 (hbody:∀(l k:Nat)(a':Act)(W:World),k<m→Ax k a' W→body.wpIn (F.inRound l) (n-1-1) P (uG w.heap.size n₀ (I (k+1)) (X k) W) a' W)
 (hdone:∀(D:Nat)(W:World),w.heap.size≤D→I m W→W.heap[D]? =some (.deferred (some []))→R .normal { a with defers:={ target:= .collected D,args:= #[] } :: a.defers } W)
 (hstop:∀(D k:Nat)(W:World),w.heap.size≤D→k<m→X k W→W.heap[D]? =some (.deferred (some []))→Code.ret.wpIn F n P R { a with defers:={ target:= .collected D,args:= #[] } :: a.defers } W):
 (Code.rangeFunc g ps assign body).wpIn F n P R a w:=by
 refine wpIn_rangeFunc fun fn hfn=>?_;rw[hro]
 -- the two blocks that the statement lays: where deferred calls are kept, and the loop's record
 let D:=w.heap.size
 let L:=w.heap.size+1
 let book:LoopState→Option Code→Loop:=fun st j=>{ state:=st,pending:=j,fn,tmps:=a.tmps,params:=ps,assign,body,defers:=D }
 let W0:=(w.alloc (.deferred (some []))).alloc (.loop (book .ready none))
 have zW0:W0.heap.size=w.heap.size+2:=by simp[W0]
 have bW0:Below w.heap.size w W0:=((Below.refl _ w).alloc Ae _).alloc (by simp) _
 have AC_:W0.heap[L]? =some (.loop (book .ready none)):=by
  have:=World.alloc_heap_new (w.alloc (.deferred (some []))) (.loop (book .ready none))
  rwa [World.size_alloc]at this
 have ADa:W0.heap[D]? =some (.deferred (some [])):=(Below.heap_alloc _ _ _ (by simp[D])).trans (World.alloc_heap_new w _);have iW0:I 0 W0:=hI.alloc _ (hI.alloc _ h0);refine⟨L,[{ target:= .collected D,args:= #[] }],W0,{ target:= .fn (.func gf) lb,args:= #[.func (.yield L) #[] #[]] },W0,gf,#[.func (.yield L) #[] #[]]++lb,W0,run_enterLoop_outer _ _ _ _ _,?_,?_,?_,fun _=>h1,?_⟩
 ·simp only[resolve,hg];simp[go_sem]
 ·intro f' hf';simp[Target.leads]at hf';subst hf';exact hFg
 ·simp[invoke,go_sem,eg]
 -- what the caller keeps between rounds: its own word, and both blocks
 refine(hseq L (fun k W=>I k W∧W.heap[L]? =some (.loop (book .ready none))∧W.heap[D]? =some (.deferred (some []))) (fun k W=>X k W∧W.heap[L]? =some (.loop (book .done (some .ret)))∧W.heap[D]? =some (.deferred (some [])))
  W0 bW0 (fun k A A' h hb=>?_) (fun k A A' h hb=>?_) ?_ ⟨iW0,AC_,ADa⟩).mono ?_
 ·exact⟨hI k A A' none h.1 (grown_of hb) (fun r e=>by cases e),(hb.block L (Array.getElem?_eq_some_iff.1 h.2.1).1).trans h.2.1,(hb.block D (Array.getElem?_eq_some_iff.1 h.2.2).1).trans h.2.2⟩
 ·exact⟨hX k A A' none h.1 (grown_of hb) (fun r e=>by cases e),(hb.block L (Array.getElem?_eq_some_iff.1 h.2.1).1).trans h.2.1,(hb.block D (Array.getElem?_eq_some_iff.1 h.2.2).1).trans h.2.2⟩
 ·rintro k vs U V ⟨iU,AAN,AAt⟩ bU hk hh;have AAM:=(bU.block L (Array.getElem?_eq_some_iff.1 AAN).1).trans AAN;have ADY:=(bU.block D (Array.getElem?_eq_some_iff.1 AAt).1).trans AAt;refine⟨fn,_,assign,body,run_yield (P:=P) (args:=vs) AAM (hps k vs U V hh),roundIn_of_wpIn hfn (hassign L k vs U V _ hk iU bU hh ?_)⟩;intro a' A kA bA xA;have sK:=kA.same L _ (by simp[L]) AAM rfl;have ADZ:=kA.same D _ Ae ADY rfl;have ltA:=(Array.getElem?_eq_some_iff.1 sK).1;refine⟨_,run_beginRound sK rfl,?_⟩;generalize hM:A.putObj L (.loop { book .ready none with state:= .busy })=M;have AAO:M.heap[L]? =some (.loop { book .ready none with state:=.busy }):=hM▸World.putObj_heap_same ltA;have AAu:M.heap[D]? =some (.deferred (some [])):=hM▸(World.putObj_heap_other (by simp[L,D])).trans ADZ;have bM:Below n₀ A M:=hM▸belowK_b (w:=w) hn₀ A L _ _ (by simp[L]) sK rfl rfl;have xM:Ax k a' M:=hM▸(hAx a').putObj _ xA (by simp[L]) sK rfl;refine wpIn_mono (hbody L k a' M hk xM) ?_;intro e a3 Z hZ;cases e with
  |normal=>
   obtain⟨kZ,bZ,iZ⟩:=hZ;have Kk:=kZ.same L _ (by simp[L]) AAO rfl;have aC:=kZ.same D _ Ae AAu rfl;refine⟨_,_,run_endRound (P:=P) none Kk,.inl ⟨rfl,⟨hI.putObj _ iZ (by simp[L]) Kk rfl,World.putObj_heap_same (Array.getElem?_eq_some_iff.1 Kk).1,(World.putObj_heap_other (by simp[L,D])).trans aC⟩,?_⟩⟩;exact bA.trans (bM.trans (bZ.trans (belowK_b (w:=w) hn₀ Z L _ _ (by simp[L]) Kk rfl rfl)))
  |ret=>
   obtain⟨kZ,iZ⟩:=hZ;have Kk:=kZ.same L _ (by simp[L]) AAO rfl;have aC:=kZ.same D _ Ae AAu rfl;exact⟨_,_,run_endRound (P:=P) (some .ret) Kk,.inr ⟨rfl,hX.putObj _ iZ (by simp[L]) Kk rfl,World.putObj_heap_same (Array.getElem?_eq_some_iff.1 Kk).1,(World.putObj_heap_other (by simp[L,D])).trans aC⟩⟩
  |exit id=>exact hZ.elim
  |goto t=>exact hZ.elim
  |panic c=>exact hZ.elim
  |outgrown=>exact hZ.elim
 rintro e Z ⟨⟨v,rfl⟩,(⟨iZ,Kk,aC⟩|⟨k,hk,iZ,Kk,aC⟩)⟩
 ·exact⟨none,_,run_endLoop (P:=P) Kk (by simp[book]),hdone D _ Ae (hI.putObj _ iZ (by simp[L]) Kk rfl) ((World.putObj_heap_other (by simp[L,D])).trans aC)⟩
 exact⟨some .ret,_,run_endLoop (P:=P) Kk (by simp[book]),hstop D k _ Ae hk (hX.putObj _ iZ (by simp[L]) Kk rfl) ((World.putObj_heap_other (by simp[L,D])).trans aC)⟩
end
section
open Go.RowKit
variable [∀(a b c d:Int),Decidable (BD a b c d)] [∀(a b c d:Nat),Decidable (Dg a b c d)] [∀(last:Int)(s:St),Decidable (Ak last s)] [∀(x:T4),Decidable (Dt x)]
theorem Vd(s:ByteArray):Bj s.data.toList=s:=U9 (BC _)
theorem dS(p:UInt8→Bool)(t:List UInt8):t.take (t.takeWhile p).length=t.takeWhile p∧t.drop (t.takeWhile p).length=t.dropWhile p:=by
 have h:=List.takeWhile_append_dropWhile (p:=p) (l:=t);generalize t.takeWhile p=x at *;generalize t.dropWhile p=y at *;rw[←h];simp
theorem xD(p:UInt8→Bool)(t:List UInt8)(h:∀y ∈ t,p y=true):t.takeWhile p=t:=by
 induction t with
 |nil=>rfl
 |cons c t ih=>rw[List.takeWhile_cons,if_pos (h c (by simp)),ih fun y hy=>h y (by simp[hy])]
theorem qE{s:ByteArray}(h:s.data.toList≠[])(h2:(47:UInt8) ∈ (s.extract 1 s.size).data.toList):∃k:Nat,k+1<s.size∧((s.extract 1 s.size).data.toList.takeWhile (·!= 47)).length=k∧s.extract 0 (k+1)=Bj (pc s.data.toList)∧s.extract (k+1) s.size=Bj (rs s.data.toList):=by
 have hl:s.data.toList.length=s.size:=by simp
 rw[Kh,BC]at h2⊢;generalize hll:s.data.toList=l at *;cases l with
 |nil=>exact absurd rfl h
 | cons c t=>
  simp only[List.drop_succ_cons,List.drop_zero]at h2⊢;have h1:=List.takeWhile_append_dropWhile (p:=(·!= (47:UInt8))) (l:=t);have h3:=congrArg List.length h1;rw[List.length_append]at h3
  have h4:t.dropWhile (·!= 47)≠[]:=fun e=>by
   rw[e,List.append_nil]at h1;have:=(List.all_takeWhile (p:=(·!= (47:UInt8))) (l:=t))
   rw[h1]at this;have:=List.all_eq_true.1 this 47 h2;simp at this
  have h5:0<(t.dropWhile (·!= 47)).length:=List.length_pos_iff.2 h4;simp only[List.length_cons]at hl;refine⟨_,by omega,rfl,?_,?_⟩
  ·rw[LD,hll]
   congr 1
   simp only[pc,Nat.sub_zero,List.drop_zero,List.take_succ_cons];rw[(dS _ t).1]
  rw[Kh,hll]
  congr 1
  simp only[rs,List.drop_succ_cons];exact(dS _ t).2

theorem Xk(s:ByteArray)(w:World)(hs:s.size≤33554432)(hne:s.data.toList≠[]):
 Calls Tryz.prog 235 #[.string s] w fun e w'=>e= .returned (.tuple #[.string (Bj (pc s.data.toList)),.string (Bj (rs s.data.toList))])∧Below w.heap.size w w':=by
 have IX:=hide fun w=>Zb 47 (s.extract 1 s.size) w
 have h1:1≤s.size:=by
  have hl:s.data.toList.length=s.size:=by simp
  have:=List.length_pos_iff.2 hne;omega
 rcases XM 47 (s.extract 1 s.size).data.toList with⟨h2,h3⟩|⟨h2,h3⟩
 ·rw [h3]at IX
  have e1:Bj (pc s.data.toList)=s∧rs s.data.toList=[]:=by
   rw[Kh,BC]at h2;generalize hll:s.data.toList=l at *;cases l with
   |nil=>exact absurd rfl hne
   | cons c t=>
    simp only[List.drop_succ_cons,List.drop_zero]at h2;have hw:∀y ∈ t,(y != (47:UInt8))=true:=fun y hy=>by simp;intro e;subst e;exact h2 hy
    have ew:t.takeWhile (·!= 47)=t:=xD _ t hw;refine⟨?_,?_⟩
    ·show Bj (c :: t.takeWhile _)=s;rw[ew,←hll,Vd]
    show t.dropWhile _=[]
    have:=List.takeWhile_append_dropWhile (p:=(·!= (47:UInt8))) (l:=t);rw[ew]at this;simpa using this
  rw[e1.1,e1.2];clear h2 h3 e1 hne;go_enter Tryz.func235,Tryz.ntmps235
  go_wp2_with (first|(go_at_call 253;refine(IX.out _).mono ?_;rintro e w' ⟨rfl,rfl⟩))
  go_ret2
  exact⟨rfl,Below.refl _ _⟩
 obtain⟨k,hk,hkl,e1,e2⟩:=qE hne h2;rw[h3,hkl]at IX;rw[←e1,←e2];clear h2 h3 e1 e2 hne hkl;have mixed:Tryz.prog.follows .mixedOrders=true:=by kernel_rfl
 go_enter Tryz.func235,Tryz.ntmps235
 go_wp2_with (first|(go_at_call 253;refine(IX.out _).mono ?_;rintro e w' ⟨rfl,rfl⟩))
 go_region_o
 go_wp2
 go_ret2
 exact⟨rfl,(Below.refl _ _).drew⟩
theorem gT(l:List UInt8):Cz l=if Lib.hasPrefix l [47]=true∧decide ((124:UInt8) ∈ Lib.trimPrefix l [47])=true∧(numOf (Iz 124 (Bj (Lib.trimPrefix l [47]))).1.data.toList).isSome=true∧(Cm (Iz 124 (Bj (Lib.trimPrefix l [47]))).2).isSome=true
 then some (Gu (numOf (Iz 124 (Bj (Lib.trimPrefix l [47]))).1.data.toList),(Cm (Iz 124 (Bj (Lib.trimPrefix l [47]))).2).getD [])else none:=by
 unfold Cz;cases l with
 |nil=>rfl
 | cons c t=>
  by_cases hc:c=47
  ·subst hc;have h1:Lib.hasPrefix (47 :: t) [47]=true:=by simp[Lib.hasPrefix]
   have h2:Lib.trimPrefix (47 :: t) [47]=t:=by simp[Lib.trimPrefix,h1]
   rw[h1,h2];refine(if_pos rfl).trans ?_;show stepOf (Bj t)=_;unfold stepOf Iz;rw[BC];by_cases hm:(124:UInt8) ∈ t
   ·rw[if_pos hm,if_pos hm,decide_eq_true hm];simp only[BC];cases hn:numOf (hd 124 t)with
    |none=>simp
    |some n=>
     cases ht:Cm (Bj (tl 124 t))with
     |none=>simp
     |some ts=>simp[Gu]
   rw[if_neg hm,decide_eq_false hm];simp
  have h1:Lib.hasPrefix (c :: t) [47]=false:=by
   show((47==c)&&_)=false;rw[show((47:UInt8)==c)=false from by simpa using Ne.symm hc];rfl
  rw[if_neg (by simp;exact hc),if_neg (by rw[h1];simp)]
theorem J7{w:World}{B B':Nat}{v:Value}{xs:List T4}(h:OT w B v xs)(hb:B'≤B):OT w B' v xs:=by
 refine⟨h.1,?_⟩;rcases h.2 with h|⟨g,cap,cur,h1,h2,h3⟩
 ·exact .inl h
 exact .inr ⟨g,cap,cur,h1,by omega,h3⟩
def Two(w:World)(g:Nat)(n:Int)(v:Value):Prop:=w.cell? ⟨g,0,none⟩=some (.int .i64 n)∧w.cell? ⟨g,1,none⟩=some v
theorem dQ(w:World)(n:Int)(v:Value)(t:TypeId):Two (w.alloc (.cells #[.int .i64 n,v] t)) w.heap.size n v:=by
 refine⟨?_,?_⟩<;>simp
theorem Two.below{w w':World}{g B:Nat}{n:Int}{v:Value}(h:Two w g n v)(hb:Below B w w')(hg:g<B):Two w' g n v:=
 ⟨(hb.cell (p:=⟨g,0,none⟩) hg).trans h.1,(hb.cell (p:=⟨g,1,none⟩) hg).trans h.2⟩
theorem SF(W:World)(a:Addr)(v:Value):W.grownBy (W.setCell a v) (some a.block):=
 ⟨rfl,rfl,rfl,(KeepsWalks.setCell W a v).size,fun k _ hk=>Below.heap_setCell _ _ _ k (fun e=>hk (by rw[e]))⟩
theorem nz{W:World}{B:Nat}{v:Value}{xs:List T4}(h:OT W B v xs)(a:Addr)(u:Value)(ha:a.block<B):OT (W.setCell a u) B v xs:=by
 refine World.ownsRow.kept h (SF W a u) ?_;cases hv:v.ownBlock with
 |none=>exact .inl rfl
 |some b=>
  refine .inr fun e=>?_;have:=(World.ownsRow.lt h b hv).1;have e2:b=a.block:=by simpa using e
  omega
abbrev JG(o:Option St)(v:Value):Value:= .agg #[.int .i64 ((o.map (·.1)).getD 0),v]
abbrev stepT(o:Option St):List T4:=(o.map (·.2)).getD []

theorem Yn(s:ByteArray)(w:World)(hs:s.size≤33554432)(hE:Env w):
 Calls Tryz.prog 236 #[.string s] w fun e w'=>∃v,e= .returned (.tuple #[JG (Cz s.data.toList) v,.bool (Cz s.data.toList).isSome])∧OT w' w.heap.size v (stepT (Cz s.data.toList))∧Below w.heap.size w w':=by
 have CP:=hide fun w=>Tryz.strings_CutPrefix s ⟨#[47]⟩ w;have HO:=hide (gT s.data.toList)
 have hz:(Lib.trimPrefix s.data.toList [47]).length≤s.size:=by
  have hl:s.data.toList.length=s.size:=by simp
  unfold Lib.trimPrefix
  split<;>simp
 have e1:(⟨#[47]⟩:ByteArray).data.toList=[47]:=rfl;rw[e1]at CP;have e2:(⟨(Lib.trimPrefix s.data.toList [47]).toArray⟩:ByteArray)=Bj (Lib.trimPrefix s.data.toList [47]):=rfl;rw[e2]at CP;obtain⟨mk,hmk⟩:∃b,Lib.hasPrefix s.data.toList [47]=b:=⟨_,rfl⟩
 obtain⟨tp,htp⟩:∃b,Lib.trimPrefix s.data.toList [47]=b:=⟨_,rfl⟩
 rw[hmk]at CP HO;rw[htp]at CP HO hz;obtain⟨tx,htx⟩:∃b,Bj tp=b:=⟨_,rfl⟩
 have hts:tx.size≤33554432:=by rw[←htx,DT];omega
 have e3:tx.data.toList=tp:=by rw[←htx,BC]
 have CT:=hide fun w=>qF 124 tx w hts;rw[htx]at CP HO;rw[e3]at CT;have hc:=kQ 124 tx;obtain⟨pt,hpt⟩:∃b,decide ((124:UInt8) ∈ tp)=b:=⟨_,rfl⟩
 rw[hpt]at CT HO;obtain⟨ca,j3⟩:∃b,Iz 124 tx=b:=⟨_,rfl⟩
 rw[j3]at CT HO hc;have NU:=hide fun w hE=>Pf ca.1 (by omega) w hE;have TX:=hide fun w hE=>jh ca.2 w (by omega) hE;obtain⟨cn,hcn⟩:∃x,numOf ca.1.data.toList=x:=⟨_,rfl⟩
 obtain⟨ct,hct⟩:∃x,Cm ca.2=x:=⟨_,rfl⟩
 rw[hcn]at NU HO;rw[hct]at TX HO;obtain⟨o,ho⟩:∃o,Cz s.data.toList=o:=⟨_,rfl⟩
 rw[ho]at HO⊢;obtain⟨n,hn⟩:∃n,Gu cn=n:=⟨_,rfl⟩
 obtain⟨bn,hbn⟩:∃b,cn.isSome=b:=⟨_,rfl⟩
 obtain⟨bt,hbt⟩:∃b,ct.isSome=b:=⟨_,rfl⟩
 obtain⟨ts,AAd⟩:∃b,ct.getD []=b:=⟨_,rfl⟩
 rw[hn]at NU HO;rw[hbn]at NU HO;rw[hbt]at TX HO;rw[AAd]at TX HO;have HE:=hide hE;clear hE hmk htp htx hts e1 e2 e3 hc hpt j3 hcn hct ho hn hbn hbt AAd hz hs;obtain⟨c1,c2⟩:=ca;go_enter Tryz.func236,Tryz.ntmps236
 go_wp2_with fail
 refine(CP.out _).mono ?_;rintro _ w1 ⟨rfl,rfl⟩;go_wp2_with fail
 refine(CT.out _).mono ?_;rintro _ w2 ⟨rfl,b2⟩;have b0:Below w.heap.size w (w.alloc (.cells #[.int .i64 0,.slice none 0 0] 248)):=(Below.refl _ _).alloc Ae _;have T0:=dQ w 0 (.slice none 0 0) 248;have F0:∀j,(w.alloc (.cells #[.int .i64 0,.slice none 0 0] 248)).frozen? ⟨w.heap.size,j,none⟩=false:=fun j=>by simp[go_sem]
 have z0:(w.alloc (.cells #[.int .i64 0,.slice none 0 0] 248)).heap.size=w.heap.size+1:=by simp
 generalize (w.alloc (.cells #[.int .i64 0,.slice none 0 0] 248))=w0 at *;have HE:=hide (HE.out.below b0);go_wp2_with fail
 refine(NU.out _ (HE.out.below b2)).mono ?_;rintro _ w3 ⟨rfl,b3⟩;have yj:=bu b2 b3;go_wp2_with fail
 refine(TX.out _ (HE.out.below yj)).mono ?_;rintro _ w4 ⟨vt,rfl,ot,b4⟩;have fF:=bu yj b4
 obtain⟨ta,tc,rfl⟩:∃ta tc,vt= .slice ta ts.length tc:=by
  rcases ot.2 with⟨rfl,h0⟩|⟨g,cap,cur,rfl,_⟩
  ·exact⟨none,0,by rw[h0]⟩
  exact⟨_,_,rfl⟩
 clear CP CT NU TX b3 b4;have s23:=yj.size;have OTT:=hide (J7 (B':=w.heap.size+1) ot (by omega));obtain⟨t0,t1⟩:=T0.below fF (by omega);have F4:=Aa fF (by omega) F0;have B4:=b0.trans (fF.mono (by omega));clear ot F0 T0 fF yj b0;cases mk with
 |false=>
  have HO:=HO.out.trans (if_neg (by simp));subst HO;go_wp2;refine bodyPost_ret (v:= .tuple #[JG none (.slice none 0 0),.bool false]) (by simp[results,Tryz.results236,go_sem,t0,t1]) rfl ?_;exact⟨_,rfl,World.ownsRow_nil _ _ _ _,(B4.setCell Ae _).setCell Ae _⟩
 |true=>
 cases pt with
 |false=>
  have HO:=HO.out.trans (if_neg (by simp));subst HO;go_wp2;refine bodyPost_ret (v:= .tuple #[JG none (.slice none 0 0),.bool false]) (by simp[results,Tryz.results236,go_sem,t0,t1]) rfl ?_;exact⟨_,rfl,World.ownsRow_nil _ _ _ _,(B4.setCell Ae _).setCell Ae _⟩
 |true=>
 cases bn with
 |false=>
  have HO:=HO.out.trans (if_neg (by simp));subst HO;go_wp2;refine bodyPost_ret (v:= .tuple #[JG none (.slice none 0 0),.bool false]) (by simp[results,Tryz.results236,go_sem,t0,t1]) rfl ?_;exact⟨_,rfl,World.ownsRow_nil _ _ _ _,(B4.setCell Ae _).setCell Ae _⟩
 |true=>
 cases bt with
 |false=>
  have HO:=HO.out.trans (if_neg (by simp));subst HO;go_wp2;refine bodyPost_ret (v:= .tuple #[JG none (.slice none 0 0),.bool false]) (by simp[results,Tryz.results236,go_sem,t0,t1]) rfl ?_;exact⟨_,rfl,World.ownsRow_nil _ _ _ _,(B4.setCell Ae _).setCell Ae _⟩
 |true=>
  have HO:=HO.out.trans (if_pos (by simp));subst HO;go_wp2;refine bodyPost_ret (v:= .tuple #[JG (some (n,ts)) (.slice ta ts.length tc),.bool true]) (by simp[results,Tryz.results236,go_sem,t0,t1]) rfl ?_;exact⟨_,rfl,J7 (nz (nz OTT.out _ _ (by show w.heap.size<_;omega)) _ _ (by show w.heap.size<_;omega)) (by omega),(B4.setCell Ae _).setCell Ae _⟩
end
end Go.Proofs.YtcjmcgolgbkknaaGreatDoor
