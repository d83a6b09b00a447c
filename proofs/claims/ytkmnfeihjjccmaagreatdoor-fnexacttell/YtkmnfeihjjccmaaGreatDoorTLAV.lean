/- Lemmas; their conditions stand in each statement. -/
import Derived.Test.YtkmnfeihjjccmaaGreatDoorTLAU
import Derived.Laws.AppendOwnNone
import Derived.RangeFuncNested
import Derived.RangeFuncBound
set_option maxRecDepth 100000
set_option maxHeartbeats 8000000
set_option linter.unusedSectionVars false
namespace Go.Proofs.YtkmnfeihjjccmaaGreatDoor
section
open Go.RowKit
variable [∀(a b c d:Int),Decidable (BD a b c d)]
variable [∀(a b c d:Nat),Decidable (Dj a b c d)]
variable [∀(last:Int)(s:St),Decidable (Au last s)]
variable [∀(x:T4),Decidable (Dr x)]
theorem gM{s:ByteArray}{ss:List St}(h:AQ s=some ss)(k:Nat)(hk:k≤s.data.toList.length)(h1:(47:UInt8) ∉ s.data.toList.drop k)(h2:k=0∨s.data.toList[k-1]? =some 47):BQ (s.data.toList.take (k-1))=FM s:=by
 have hs:=(Cc _ _).1 h
 unfold FM
 rw[h,Option.getD_some]
 by_cases hne:ss=[]
 ·subst hne
  have:s.data.toList=[]:=hs.1
  rw[this];simp[nm]
 obtain⟨ss',x,rfl⟩:∃ss' x,ss=ss'++[x]:=⟨ss.dropLast,ss.getLast hne,(List.dropLast_concat_getLast _).symm⟩
 rw[List.dropLast_concat]
 have e:=hs.1
 rw[ZO]at e
 rcases h2 with rfl|h2
 ·rw[List.drop_zero,e]at h1
  simp at h1
 have hk0:0<k:=by
  cases k with
  |zero=>
   rw[List.drop_zero,e]at h1
   simp at h1
  |succ k=>omega
 have hlt:k-1<s.data.toList.length:=by omega
 have e3:s.data.toList=s.data.toList.take (k-1)++47 :: s.data.toList.drop k:=by
  conv=>lhs;rw[←List.take_append_drop (k-1) s.data.toList]
  congr 1
  rw[List.drop_eq_getElem_cons hlt,show k-1+1=k from by omega]
  congr 1
  rw[List.getElem?_eq_getElem hlt]at h2
  exact Option.some.inj h2
 have e4:=e3.symm.trans e
 rw[(Xu h1 (EP x) e4).1]
theorem rT:∀(tt ss:List St),(∀x ∈ tt,Lg x)→(∀x ∈ ss,Lg x)→∀r,nm ss=nm tt++r→(r=[]∨∃q,r=47 :: q)→tt <+: ss:=by
 intro tt
 induction tt with
 |nil=>intro ss _ _ r _ _;exact List.nil_prefix
 | cons x tt ih=>
  intro ss ht hs r h hr
  cases ss with
  |nil=>simp[nm]at h
  | cons y ss=>
   have e:∀(z:St)(zs:List St),nm (z :: zs)=47 :: (Bi z++nm zs):=fun z zs=>by simp[nm]
   rw[e,e,List.cons_append,List.append_assoc]at h
   have h':=List.tail_eq_of_cons_eq h
   have lead:∀(zs:List St)(q:List UInt8),(q=[]∨∃p,q=47 :: p)→nm zs++q=[]∨∃p,nm zs++q=47 :: p:=fun zs q hq=>by
    cases zs with
    |nil=>simpa[nm]using hq
    |cons z zs=>right;rw[e];exact⟨_,rfl⟩
   have cutAt:∀(a b p q:List UInt8),(47:UInt8) ∉ a→(47:UInt8) ∉ b→(p=[]∨∃p',p=47 :: p')→(q=[]∨∃q',q=47 :: q')→a++p=b++q→a=b∧p=q:=by
    intro a b p q ha hb hp hq hab
    have f:∀(a p:List UInt8),(47:UInt8) ∉ a→(p=[]∨∃p',p=47 :: p')→hd 47 (a++p)=a:=by
     intro a p ha hp
     rcases hp with rfl|⟨p',rfl⟩
     ·rw[List.append_nil];exact ZX ha
     exact Dq ha
    have e1:a=b:=by rw[←f a p ha hp,hab,f b q hb hq]
    subst e1
    exact⟨rfl,List.append_cancel_left hab⟩
   have l1:=lead ss [] (.inl rfl)
   rw[List.append_nil]at l1
   obtain⟨e1,e2⟩:=cutAt _ _ _ _ (EP y) (EP x) l1 (lead tt r hr) h'
   have exy:y=x:=XL (hs y (by simp)) (ht x (by simp)) e1
   subst exy
   exact(List.cons_prefix_cons).2 ⟨rfl,ih ss (fun z hz=>ht z (by simp[hz])) (fun z hz=>hs z (by simp[hz])) r e2 hr⟩
theorem CV(s:ByteArray)(w:World)(hs:s.size≤33554432):
 Calls Tryz.prog 93 #[.string s] w fun e w'=>e= .returned (.bool (AQ s).isSome)∧Below w.heap.size w w':=by
 have ST:=hide fun w=>QX s w hs
 generalize AQ s=A at *
 go_enter Tryz.func93,Tryz.ntmps93
 go_wp2_with fail
 refine(ST.out _).mono ?_
 rintro e w1 ⟨v,rfl,_,b1⟩
 go_wp2
 go_ret
 exact⟨rfl,b1⟩

theorem Db(s:ByteArray)(w:World)(hs:s.size≤33554432):
 Calls Tryz.prog 116 #[.string s] w fun e w'=>e= .returned (.int .i64 (Aq s))∧Below w.heap.size w w':=by
 have ST:=hide fun w=>QX s w hs
 have hl:∀ss,AQ s=some ss→ss.length≤30∧∀x ∈ ss,Lg x:=fun ss h=>⟨((Cc _ _).1 h).2.1,((Cc _ _).1 h).2.2.1⟩
 unfold Aq
 generalize AQ s=A at *
 go_enter Tryz.func116,Tryz.ntmps116
 go_wp2_with fail
 refine(ST.out _).mono ?_
 rintro e w1 ⟨v,rfl,o1,b1⟩
 cases A with
 |none=>
  obtain⟨ao,ca,rfl⟩:=o1.form
  clear o1 ST hl
  go_wp2
  go_ret
  exact⟨rfl,b1⟩
 | some ss=>
  obtain⟨hl,hok⟩:=hl ss rfl
  obtain⟨ao,ca,hv,r⟩:=o1.WK (fun x hx=>by have:=(hok x hx).2.1;omega)
  subst hv
  clear o1 ST hok
  simp only[Option.getD_some]at *
  rcases r with rfl|⟨g,rfl,r⟩
  ·go_wp2
   go_ret
   exact⟨rfl,b1⟩
  by_cases h0:ss.length=0
  ·obtain rfl:=List.length_eq_zero_iff.1 h0
   go_wp2
   go_ret
   exact⟨rfl,b1⟩
  obtain⟨n,hn⟩:∃n,ss.length=n+1:=⟨ss.length-1,by omega⟩
  obtain⟨u,c0,c1,_⟩:=r n (by omega)
  have hlast:=hide (show(ss.getLast?.map (·.1)).getD 0=(ss.getD n kT).1 by
   rw[List.getLast?_eq_getElem?,List.getD_eq_getElem?_getD,List.getElem?_eq_getElem (show ss.length-1<ss.length by omega),List.getElem?_eq_getElem (show n<ss.length by omega)]
   simp[hn])
  have hi:((n+1:Nat):Int)-1=n:=by omega
  generalize (ss.getD n kT).1=x at *
  clear r h0
  go_wp2
  go_ret
  exact⟨by rw[show((some ss).getD [])=ss from rfl,hlast.out];rfl,b1⟩

theorem h_(s:ByteArray)(w:World)(hs:s.size≤33554432):
 Calls Tryz.prog 121 #[.string s] w fun e w'=>e= .returned (.string (FM s))∧Below w.heap.size w w':=by
 have NS:=hide fun w=>CV s w hs
 have UC:=hide fun(ss:List St)(h:AQ s=some ss)(k:Nat)(hk:k≤s.data.toList.length) h1 h2=>gM h k hk h1 h2
 have UN:AQ s=none→FM s=⟨#[]⟩:=fun h=>by unfold FM;rw[h];rfl
 generalize FM s=x at *
 generalize AQ s=A at *
 go_enter Tryz.func121,Tryz.ntmps121
 go_wp2_with fail
 refine(NS.out _).mono ?_
 rintro e w1 ⟨rfl,b1⟩
 clear NS
 cases A with
 |none=>
  have UN:=UN rfl
  subst UN
  go_wp2
  go_ret
  exact⟨rfl,b1⟩
 |some ss=>
 clear UN
 have UC:=hide (UC.out ss rfl)
 go_wp2
 go_loop [3] (fun kv=>∃k:Nat,k≤s.size∧kv= .int .i64 k∧Hid ((47:UInt8) ∉ s.data.toList.drop k)) (fun kv=>(intOf kv).toNat)
 case atStart=>exact⟨s.size,Nat.le_refl _,rfl,hide (by rw[List.drop_eq_nil_of_le (by simp)];simp)⟩
 case round=>
  obtain⟨k,hk,rfl,HM⟩:=hrel
  have hlen:s.data.toList.length=s.size:=by simp
  have DONE:Hid (∀h2:k=0∨s.data.toList[k-1]? =some 47,s.extract 0 (k-1)=x):=hide fun h2=>by
   rw[←UC.out k (by omega) HM.out h2]
   apply Tc;rw[A9];simp[ByteArray.data_extract]
  have HL:=hide hlen
  clear UC hlen
  go_wp2
  ·rename_i h2
   have hp:0<k:=by assumption
   have hb:((s[k-1].toNat:Int) != 47)=true:=by assumption
   have HM':Hid ((47:UInt8) ∉ s.data.toList.drop (k-1)):=hide (by
    rw[List.drop_eq_getElem_cons (show k-1<s.data.toList.length by rw[HL.out];omega),show k-1+1=k by omega]
    intro h
    rcases List.mem_cons.1 h with h|h
    ·have e:s[k-1]=47:=h.symm
     rw[e]at hb
     revert hb;decide
    exact HM.out h)
   go_round
   case rel=>exact⟨k-1,by omega,by rw[show((k-1:Nat):Int)=(k:Int)-1 by omega],HM'⟩
   case measure=>simp[intOf];omega
  ·have h2:((s[k-1].toNat:Int) != 47)=false:=by assumption
   have D:=DONE.out (.inr (by
    rw[List.getElem?_eq_getElem (by rw[HL.out];omega)]
    refine congrArg some (UInt8.toNat_inj.1 (show s[k-1].toNat=47 from ?_))
    have h2:=of_decide_eq_true (p:=(s[k-1].toNat:Int)=47) (by simpa using h2)
    omega))
   go_ret
   exact⟨by rw[←D];rfl,b1⟩
  ·have h2:((s[k-1].toNat:Int) != 47)=false:=by assumption
   have D:=DONE.out (.inr (by
    rw[List.getElem?_eq_getElem (by rw[HL.out];omega)]
    refine congrArg some (UInt8.toNat_inj.1 (show s[k-1].toNat=47 from ?_))
    have h2:=of_decide_eq_true (p:=(s[k-1].toNat:Int)=47) (by simpa using h2)
    omega))
   have D':ByteArray.empty=x:=by rw[←D,show k-1=0 by omega];simp
   go_ret
   exact⟨by rw[←D'];rfl,b1⟩
  have D:=DONE.out (.inl (by omega))
  have D':ByteArray.empty=x:=by rw[←D,show k-1=0 by omega];simp
  go_ret
  exact⟨by rw[←D'];rfl,b1⟩
theorem Vn(xs:List T4)(u:Value)(h:u ∈ Av xs):u.oneCell'=true:=by
 obtain⟨x,_,hx⟩:=List.mem_flatMap.1 h
 simp[EL]at hx;rcases hx with rfl|rfl|rfl|rfl<;>rfl
theorem IY.kept{w w':World}{B:Nat}{v:Value}{ss:List St}{vs:List Value}{row:Option Nat}(h:IY w B v ss vs)(hg:w.grownBy w' row)(hv:v.ownBlock=none∨v.ownBlock≠row)(hs:∀k,k<ss.length→(vs.getD k (.slice none 0 0)).ownBlock=none∨(vs.getD k (.slice none 0 0)).ownBlock≠row):IY w' B v ss vs:=
 ⟨h.len,World.ownsRow.kept h.row hg hv,fun k hk=>World.ownsRow.kept (h.each k hk) hg (hs k hk),h.apart⟩
end
section
open Go.RowKit
variable [∀(a b c d:Int),Decidable (BD a b c d)]
variable [∀(a b c d:Nat),Decidable (Dj a b c d)]
variable [∀(x:T4),Decidable (Dr x)]
variable [∀(last:Int)(s:St),Decidable (Au last s)]
def PT(w:World)(v:Value)(xs:List T4):Prop:=
 ∃ao cap,v= .slice ao xs.length cap∧(xs=[]∨∃ad:Addr,ao=some ad∧∀j u,(Av xs)[j]? =some u→w.cell? (ad.add j)=some u)
theorem PT.below{w w':World}{v:Value}{xs:List T4}(h:PT w v xs)(hb:Below w.heap.size w w'):PT w' v xs:=by
 obtain⟨ao,cap,rfl,h⟩:=h
 refine⟨ao,cap,rfl,?_⟩
 rcases h with h|⟨ad,rfl,h⟩
 ·exact .inl h
 exact .inr ⟨ad,rfl,fun j u hj=>(hb.cell (AY (h j u hj))).trans (h j u hj)⟩
theorem fG(b o j:Nat):((⟨b,o,none⟩:Addr).add j)=⟨b,o+j,none⟩:=by unfold Addr.add;split<;>simp_all
theorem OT.pt{w:World}{base:Nat}{v:Value}{xs:List T4}(h:OT w base v xs):PT w v xs:=by
 rcases h.2 with⟨rfl,h0⟩|⟨g,cap,cur,rfl,_⟩
 ·exact⟨none,0,by rw[h0],.inl (List.length_eq_zero_iff.1 h0)⟩
 exact⟨_,cap,rfl,.inr ⟨_,rfl,World.ownsRow.cells h rfl⟩⟩
theorem RT.pt{w:World}{v:Value}{xs:List T4}(h:RT w v xs):PT w v xs:=by
 obtain⟨hl,ao,cap,rfl,h⟩:=h
 refine⟨ao,cap,rfl,?_⟩
 rcases h with h|⟨g,rfl,h⟩
 ·exact .inl h
 refine .inr ⟨_,rfl,fun j u hj=>?_⟩
 have hlt:j<xs.length*4:=by rw[←Es];exact(List.getElem?_eq_some_iff.1 hj).1
 obtain⟨k,r,hr,rfl⟩:∃k r,r<4∧j=k*4+r:=⟨j/4,j%4,by omega,by omega⟩
 have hk:k<xs.length:=by omega
 rw[Ny xs k r hk hr]at hj
 obtain⟨c0,c1,c2,c3⟩:=h k hk
 rw[fG,Nat.zero_add]
 match r,hr with
 |0,_=>exact c0.trans hj
 |1,_=>exact c1.trans hj
 |2,_=>exact c2.trans hj
 |3,_=>exact c3.trans hj
theorem UJ(xs:List T4)(k j:Nat)(u:Value)(h:(Av (xs.take k))[j]? =some u):(Av xs)[j]? =some u:=by
 have e:Av xs=Av (xs.take k)++Av (xs.drop k):=by rw[←Dn,List.take_append_drop]
 rw[e,List.getElem?_append_left (List.getElem?_eq_some_iff.1 h).1]
 exact h
theorem UL(xs:List T4)(k j:Nat)(u:Value)(hk:k≤xs.length)(h:(Av (xs.drop k))[j]? =some u):(Av xs)[k*4+j]? =some u:=by
 have e:Av xs=Av (xs.take k)++Av (xs.drop k):=by rw[←Dn,List.take_append_drop]
 have hl:(Av (xs.take k)).length=k*4:=by rw[Es,List.length_take];omega
 rw[e,List.getElem?_append_right (by omega),hl,show k*4+j-k*4=j from by omega]
 exact h
theorem PT.take{w:World}{ao:Option Addr}{n cap:Nat}{xs:List T4}(h:PT w (.slice ao n cap) xs)(k:Nat)(hk:k≤n)(cap':Nat):PT w (.slice ao k cap') (xs.take k):=by
 obtain⟨QH,cap2,e,h⟩:=h
 cases e
 refine⟨ao,cap',by rw[List.length_take];congr 1;omega,?_⟩
 rcases h with rfl|⟨ad,rfl,h⟩
 ·left;simp
 exact .inr ⟨ad,rfl,fun j u hj=>h j u (UJ _ _ _ _ hj)⟩
theorem PT.drop{w:World}{ao:Option Addr}{n cap:Nat}{xs:List T4}(h:PT w (.slice ao n cap) xs)(k:Nat)(hk:k≤n)(cap':Nat){bo:Option Addr}(hb:k<n→bo=ao.map (·.add (k*4))):PT w (.slice bo (n-k) cap') (xs.drop k):=by
 obtain⟨QH,cap2,e,h⟩:=h
 cases e
 refine⟨bo,cap',by rw[List.length_drop],?_⟩
 by_cases hlt:k<xs.length
 ·rcases h with rfl|⟨ad,rfl,h⟩
  ·simp at hlt
  refine .inr ⟨ad.add (k*4),hb hlt,fun j u hj=>?_⟩
  have:=h _ u (UL xs k j u hk hj)
  rw[←this]
  congr 1
  obtain⟨b,o,s⟩:=ad
  unfold Addr.add
  split<;>split<;>simp_all<;>omega
 left;rw[List.drop_of_length_le (by omega)]
theorem JG(ty:TypeId)(base cap:Nat)(v:Value)(n:Nat)(xs:List Value)(w:World)(hown:w.ownsRow base 63 4 v n xs):
 (Builtin.append_ #[49,49] ty #[v,.slice none 0 cap]).run Tryz.prog w= .ok v w:=by
 obtain⟨i0,hi,hz0,hz1,hz2⟩:=info_parts Tryz.infoTx
 rcases hown.2 with⟨rfl,rfl⟩|⟨g,cp,cur,rfl,_,_,hnc,_⟩
 ·simp[Builtin.append_,run_underlying Tryz.underlying49,sizeOf,typeInfo,hi,Builtin.lenOf,Builtin.firstCells]
 simp[Builtin.append_,run_underlying Tryz.underlying49,sizeOf,typeInfo,hi,Builtin.lenOf,Builtin.firstCells,hnc,storeCells]
end
section
open Go Go.RowKit
variable [∀(a b c d:Int),Decidable (BD a b c d)]
variable [∀(a b c d:Nat),Decidable (Dj a b c d)]
variable [∀(x:T4),Decidable (Dr x)]
variable [∀(last:Int)(s:St),Decidable (Au last s)]
theorem C_{ops:Array Oper}{o:Oper}{a:Act}{w:World}{K:Act→World→Prop}{Q:Exit→Act→World→Prop}{E:Prop}(hgd:o.guard=none)(s x:Operand)
 (ho:o.op= .call { callee:= .builtin .append,args:= #[s,x],argTypes:= #[49,49] }) (base:Nat) (v u:Value) (xs ys:List T4) (hs:a.eval s=v) (hx:a.eval x=u)
 (hown:OT w base v xs) (hp:PT w u ys) (hl:xs.length+ys.length≤4194304) (hbase:base≤w.heap.size)
 (h:∀v' w',OT w' base v' (xs++ys)→w.grownBy w' v.ownBlock→(v'.ownBlock=v.ownBlock∨v'.ownBlock=some w.heap.size)→K (a.put o.dst v') w'):
 if Region.wanted o (yielded ops a.tmps)=true then Oper.wp Tryz.prog o a w K Q else E:=by
 have hw:Region.wanted o (yielded ops a.tmps)=true:=by simp[Region.wanted,hgd]
 rw[if_pos hw]
 obtain⟨i0,hi,hz0,hz1,hz2⟩:=info_parts Tryz.infoTx
 obtain⟨ao,cap,rfl,hp⟩:=hp
 match ao,hx with
 |none,hx=>
  have hy:ys=[]:=by rcases hp with h|⟨ad,e,_⟩;exact h;cases e
  subst hy
  have hrun:=JG o.type base cap v xs.length (Av xs) w hown
  unfold Oper.wp
  simp only[List.length_nil]at hx
  simp[execOp,ho,resolve,invoke,builtin,hs,hx,hrun,Result.andThen]
  exact h v w (by simpa using hown) (Dx _ _) (.inl rfl)
 | some ad,hx=>
  have hn:∀j u,(Av ys)[j]? =some u→w.cell? (ad.add j)=some u:=by
   rcases hp with rfl|⟨ad',e,h⟩
   ·intro j u hj;simp[Av]at hj
   cases e;exact h
  obtain⟨v',w',hrun,r1,r2,_,r4⟩:=run_append_own_at (P:=Tryz.prog) w base 49 o.type 63 i0 (G9 0 0 0 0) 4 32 Tryz.underlying49 hi hz0 hz1 hz2 rfl (by decide) v xs.length (Av xs) hown ad ys.length cap (Av ys) (Es ys) hn (Vn ys) (by unfold maxLen;omega) (by omega) hbase
  unfold Oper.wp
  simp[execOp,ho,resolve,invoke,builtin,hs,hx,hrun,Result.andThen]
  refine h v' w' ?_ r2 r4
  unfold OT
  rw[Dn,List.length_append]
  exact r1
end
end Go.Proofs.YtkmnfeihjjccmaaGreatDoor
namespace Go.Proofs
open Go.Shelf
def Tryz.lays217_ren:Go.Shelf.Ren:=⟨fun|217=>202|266=>213|n=>n,fun|9=>9|5=>5|3=>3|n=>n,fun|n=>n⟩
theorem Tryz.lays217:Go.Proofs.Lays.n217 Tryz.prog Tryz.lays217_ren:={
 mixed:=by kernel_rfl
 f217:=Tryz.func202.trans (congrArg some (by kernel_rfl))
 f266:=Tryz.func213.trans (congrArg some (by kernel_rfl))
 t3:=Tryz.underlying3
 a3:=Tryz.isAgg3
 z3:=Tryz.sizeOf3
 v3:=Tryz.zeroValue3
 t5:=Tryz.underlying5
 a5:=Tryz.isAgg5
 z5:=Tryz.sizeOf5
 v5:=Tryz.zeroValue5
 t9:=Tryz.underlying9
 a9:=Tryz.isAgg9
 z9:=Tryz.sizeOf9
 v9:=Tryz.zeroValue9 }
open Go.RowKit Go.Lib in
theorem Tryz.stringslite_IndexByte(s:ByteArray)(c:Int)(w:World):
 Calls Tryz.prog 202 #[.string s,.int .u8 c] w fun e w'=>e= .returned (.int .i64 (Lib.indexByte s.data.toList c.toNat.toUInt8))∧w'=w:=Any.stringslite_IndexByte Tryz.lays217 s c w
def Tryz.lays222_ren:Go.Shelf.Ren:=⟨fun|222=>265|n=>n,fun|9=>9|5=>5|3=>3|4=>4|n=>n,fun|n=>n⟩
theorem Tryz.lays222:Go.Proofs.Lays.n222 Tryz.prog Tryz.lays222_ren:={
 mixed:=by kernel_rfl
 f222:=Tryz.func265.trans (congrArg some (by kernel_rfl))
 t3:=Tryz.underlying3
 a3:=Tryz.isAgg3
 z3:=Tryz.sizeOf3
 v3:=Tryz.zeroValue3
 t4:=Tryz.underlying4
 a4:=Tryz.isAgg4
 z4:=Tryz.sizeOf4
 v4:=Tryz.zeroValue4
 t5:=Tryz.underlying5
 a5:=Tryz.isAgg5
 z5:=Tryz.sizeOf5
 v5:=Tryz.zeroValue5
 t9:=Tryz.underlying9
 a9:=Tryz.isAgg9
 z9:=Tryz.sizeOf9
 v9:=Tryz.zeroValue9 }
open Go.RowKit Go.Lib in
theorem Tryz.bytealg_LastIndexByteString_nm(s:ByteArray)(c:Int)(hs:s.size<4611686018427387904)(w:World):
 Calls Tryz.prog 265 #[.string s,.int .u8 c] w fun e w'=>e= .returned (.int .i64 (Lib.lastIndexByte s c))∧w'=w:=Any.bytealg_LastIndexByteString_nm Tryz.lays222 s c hs w
def Tryz.lays103_ren:Go.Shelf.Ren:=⟨fun|103=>184|210=>191|206=>206|n=>n,fun|9=>9|4=>4|24=>222|3=>3|n=>n,fun|n=>n⟩
theorem Tryz.lays103:Go.Proofs.Lays.n103 Tryz.prog Tryz.lays103_ren:={
 mixed:=by kernel_rfl
 f103:=Tryz.func184.trans (congrArg some (by kernel_rfl))
 f206:=Tryz.func206.trans (congrArg some (by kernel_rfl))
 f210:=Tryz.func191.trans (congrArg some (by kernel_rfl))
 t3:=Tryz.underlying3
 a3:=Tryz.isAgg3
 z3:=Tryz.sizeOf3
 v3:=Tryz.zeroValue3
 t4:=Tryz.underlying4
 a4:=Tryz.isAgg4
 z4:=Tryz.sizeOf4
 v4:=Tryz.zeroValue4
 t9:=Tryz.underlying9
 a9:=Tryz.isAgg9
 z9:=Tryz.sizeOf9
 v9:=Tryz.zeroValue9
 t24:=Tryz.underlying222
 a24:=Tryz.isAgg222
 z24:=Tryz.sizeOf222
 v24:=Tryz.zeroValue222 }
open Go.RowKit in
theorem Tryz.strings_CutPrefix(s p:ByteArray)(w:World):
 Calls Tryz.prog 184 #[.string s,.string p] w fun e w'=>e= .returned (.tuple #[.string ⟨(Lib.trimPrefix s.data.toList p.data.toList).toArray⟩,.bool (Lib.hasPrefix s.data.toList p.data.toList)])∧w'=w:=Any.strings_CutPrefix Tryz.lays103 s p w
end Go.Proofs
namespace Go.Proofs.YtkmnfeihjjccmaaGreatDoor
section
open Go.RowKit
variable [∀(a b c d:Int),Decidable (BD a b c d)]
variable [∀(a b c d:Nat),Decidable (Dj a b c d)]
variable [∀(last:Int)(s:St),Decidable (Au last s)]
variable [∀(x:T4),Decidable (Dr x)]
def pc:List UInt8→List UInt8
 | []=>[]
 |c :: t=>c :: t.takeWhile (·!= 47)
def rs:List UInt8→List UInt8
 | []=>[]
 |_ :: t=>t.dropWhile (·!= 47)
theorem pJ(r:List UInt8):pc r++rs r=r:=by
 cases r with
 |nil=>rfl
 |cons c t=>simp[pc,rs,List.takeWhile_append_dropWhile]
theorem iD{r:List UInt8}(h:r≠[]):(rs r).length<r.length:=by
 cases r with
 |nil=>exact absurd rfl h
 |cons c t=>
  have:=congrArg List.length (List.takeWhile_append_dropWhile (p:=(·!= (47:UInt8))) (l:=t))
  rw[List.length_append]at this
  simp only[rs,List.length_cons];omega
theorem l_(r:List UInt8):rs r=[]∨∃q,rs r=47 :: q:=by
 cases r with
 |nil=>exact .inl rfl
 | cons c t=>
  show t.dropWhile _=[]∨∃q,t.dropWhile _=47 :: q
  cases h:t.dropWhile (·!= (47:UInt8))with
  |nil=>exact .inl rfl
  |cons x q=>
   have hx:=List.head_dropWhile_not (p:=(·!= (47:UInt8))) (l:=t) (by rw[h];simp)
   simp only[h,List.head_cons]at hx
   exact .inr ⟨q,by rw[show x=47 by simpa using hx]⟩
def FO(l:List UInt8):Nat→List UInt8
 |0=>l
 |k+1=>rs (FO l k)
theorem rC(l:List UInt8)(k:Nat):(FO l k).length≤l.length:=by
 induction k with
 |zero=>exact Nat.le_refl _
 |succ k ih=>
  by_cases h:FO l k=[]
  ·show(rs (FO l k)).length≤_;rw[h];exact Nat.zero_le _
  have:=iD h;show(rs (FO l k)).length≤_;omega
theorem rounds(l:List UInt8):∃m,FO l m=[]∧∀k,k<m→FO l k≠[]:=by
 have key:∀n k,(FO l k).length≤n→(∀j,j<k→FO l j≠[])→∃m,FO l m=[]∧∀k,k<m→FO l k≠[]:=by
  intro n
  induction n with
  |zero=>exact fun k h hk=>⟨k,List.length_eq_zero_iff.1 (Nat.le_zero.1 h),hk⟩
  | succ n ih=>
   intro k h hk
   by_cases e:FO l k=[]
   ·exact⟨k,e,hk⟩
   have:=iD e
   exact ih (k+1) (by show(rs (FO l k)).length≤n;omega) fun j hj=>by
    by_cases e2:j=k
    ·subst e2;exact e
    exact hk j (by omega)
 exact key _ 0 (Nat.le_refl _) fun j hj=>by omega
def Cm(p:List UInt8):Option St:=if p.head? =some 47 then stepOf (BQ p.tail)else none
def D8(ss:List St):Int:=(ss.getLast?.map (·.1)).getD 0
theorem Ou(ss:List St)(x:St):D8 (ss++[x])=x.1:=by simp[D8]
theorem VI{ss:List St}(h:IJ ss):0≤D8 ss∧D8 ss≤60:=by
 unfold D8
 cases e:ss.getLast? with
 |none=>simp
 |some x=>
  have:=(h.2.1 x (List.mem_of_getLast? e)).1
  simp;omega
theorem gJ{ss:List St}(h:IJ ss):∀s ∈ ss,s.1≤D8 ss:=by
 intro s hs
 obtain⟨ss',x,rfl⟩:∃ss' x,ss=ss'++[x]:=⟨ss.dropLast,ss.getLast (List.ne_nil_of_mem hs),(List.dropLast_concat_getLast _).symm⟩
 rw[Ou]
 rcases List.mem_append.1 hs with h1|h1
 ·have:=(List.pairwise_append.1 h.2.2).2.2 s h1 x (by simp)
  omega
 simp at h1;subst h1;exact Int.le_refl _
theorem iM{l r:List UInt8}{ss:List St}{x:St}(h:l=nm ss++r)(hk:IJ ss)(hx:Cm (pc r)=some x)(hg:Au (D8 ss) x)(hl:ss.length<30):l=nm (ss++[x])++rs r∧IJ (ss++[x]):=by
 unfold Cm at hx
 split at hx
 ·rename_i hh
  obtain⟨h1,h2,h3⟩:=Ll hx
  rw[A9]at h1
  have hp:pc r=47 :: Bi x:=by
   rw[←h1]
   cases hpc:pc r with
   |nil=>rw[hpc]at hh;simp at hh
   |cons c t=>rw[hpc]at hh;simp at hh;rw[hh];rfl
  obtain⟨g1,g2,g3⟩:=hg
  have hz:=VI hk
  have hx:Lg x:=⟨⟨by omega,g2⟩,g3,h3⟩
  refine⟨?_,by simp;omega,fun s hs=>?_,?_⟩
  ·rw[ZO,←hp,List.append_assoc,pJ];exact h
  ·rcases List.mem_append.1 hs with h4|h4
   ·exact hk.2.1 s h4
   simp at h4;subst h4;exact hx
  refine List.pairwise_append.2 ⟨hk.2.2,by simp,fun s hs t ht=>?_⟩
  simp at ht;subst ht
  have:=gJ hk s hs
  omega
 cases hx
theorem mW:∀ss:List St,nm ss=[]∨∃q,nm ss=47 :: q:=fun ss=>by
 cases ss with
 |nil=>exact .inl rfl
 |cons s ss=>exact .inr ⟨_,rfl⟩
theorem iN{s:ByteArray}{r:List UInt8}{ss:List St}(h:s.data.toList=nm ss++r)(hr:r≠[])(hk:IJ ss)(hh:ss=[]∨∃q,r=47 :: q)
 (hn:∀x,Cm (pc r)=some x→Au (D8 ss) x→ss.length<30→False):AQ s=none:=by
 cases hs:AQ s with
 |none=>rfl
 | some tt=>
  exfalso
  obtain⟨h1,h2⟩:=(Cc _ _).1 hs
  have hpre:ss <+: tt:=by
   rcases hh with rfl|hh
   ·exact List.nil_prefix
   exact rT ss tt hk.2.1 h2.2.1 r (h1.symm.trans h) (.inr hh)
  obtain⟨uu,rfl⟩:=hpre
  rw[h,bQ]at h1
  have h1:=List.append_cancel_left h1
  cases uu with
  |nil=>exact hr h1
  | cons x uu=>
   have hx:Lg x:=h2.2.1 x (by simp)
   have e1:r=47 :: (Bi x++nm uu):=by rw[h1];simp[nm]
   have hc:∀y ∈ Bi x,(y != (47:UInt8))=true:=fun y hy=>by
    have:=EP x
    simp;intro e;subst e;exact this hy
   have e2:pc r=47 :: Bi x:=by
    rw[e1]
    show 47 :: (Bi x++nm uu).takeWhile _=_
    rw[List.takeWhile_append_of_pos hc]
    rcases mW uu with e|⟨q,e⟩
    ·rw[e];simp
    rw[e];simp
   refine hn x ?_ ?_ ?_
   ·unfold Cm
    rw[e2]
    refine(if_pos rfl).trans ?_
    exact F_ hx (A9 _)
   ·have hv:D8 ss<x.1:=by
     unfold D8
     cases e:ss.getLast? with
     |none=>have:=hx.1;simp;omega
     |some y=>
      have:=(List.pairwise_append.1 h2.2.2).2.2 y (List.mem_of_getLast? e) x (by simp)
      simpa using this
    exact⟨hv,hx.1.2,hx.2.1⟩
   have:=h2.1;simp at this;omega
theorem ag{s:ByteArray}{ss:List St}(h:s.data.toList=nm ss++[])(hk:IJ ss):AQ s=some ss:=(Cc _ _).2 ⟨by simpa using h,hk⟩
theorem Vg(m:UInt8)(l:List UInt8):(m ∉ l∧Lib.indexByte l m= -1)∨(m ∈ l∧Lib.indexByte l m=((l.takeWhile (·!= m)).length:Int)):=by
 induction l with
 |nil=>exact .inl ⟨by simp,rfl⟩
 |cons b l ih=>
  unfold Lib.indexByte
  by_cases h:b=m
  ·subst h;exact .inr ⟨by simp,by simp⟩
  have hb:(b==m)=false:=by simpa using h
  have hn:(b != m)=true:=by simpa using h
  rw[if_neg (by simpa using h)]
  rcases ih with⟨h1,h2⟩|⟨h1,h2⟩
  ·rw[h2];exact .inl ⟨by simp[h1,Ne.symm h],rfl⟩
  rw[h2,if_neg (by simp)]
  refine .inr ⟨by simp[h1],?_⟩
  rw[List.takeWhile_cons,if_pos hn];simp

theorem Oq(m:UInt8)(s:ByteArray)(w:World):
 Calls Tryz.prog 190 #[.string s,.string ⟨#[m]⟩] w fun e w'=>e= .returned (.int .i64 (Lib.indexByte s.data.toList m))∧w'=w:=by
 have IB:=hide fun w=>Tryz.stringslite_IndexByte s (m.toNat:Int) w
 have e1:((m.toNat:Nat):Int).toNat.toUInt8=m:=by simp
 rw[e1]at IB
 have hz:(⟨#[m]⟩:ByteArray).size=1:=rfl
 have hi:(⟨#[m]⟩:ByteArray)[0]'(by rw[hz];omega)=m:=rfl
 have hne:([m]==s.toList)=true→Lib.indexByte s.data.toList m=0:=fun h=>by
  have h1:s.toList=[m]:=(by simpa using h:[m]=s.toList).symm
  rw[ByteArray.toList_eq]at h1
  rw[h1];simp[Lib.indexByte]
 cases hb:([m]==s.toList)with
 |true=>
  rw[hne hb]
  clear IB hne
  go_enter Tryz.func190,Tryz.ntmps190
  go_wp2
  go_ret
  exact⟨rfl,rfl⟩
 |false=>
  clear hne
  generalize Lib.indexByte s.data.toList m=r at *
  go_enter Tryz.func190,Tryz.ntmps190
  go_wp2_with (first|(go_at_call 202;refine(IB.out _).mono ?_;rintro e w' ⟨rfl,rfl⟩))
  go_ret
  exact⟨rfl,rfl⟩
theorem Xz(m:UInt8)(s:ByteArray)(w:World):
 Calls Tryz.prog 183 #[.string s,.string ⟨#[m]⟩] w fun e w'=>e= .returned (.int .i64 (Lib.indexByte s.data.toList m))∧w'=w:=by
 have IB:=hide fun w=>Oq m s w
 generalize Lib.indexByte s.data.toList m=r at *
 generalize (⟨#[m]⟩:ByteArray)=q at *
 go_enter Tryz.func183,Tryz.ntmps183
 go_wp2_with (first|(go_at_call 190;refine(IB.out _).mono ?_;rintro e w' ⟨rfl,rfl⟩))
 go_ret
 exact⟨rfl,rfl⟩
def IU(m:UInt8)(s:ByteArray):ByteArray×ByteArray:=if m ∈ s.data.toList then(BQ (hd m s.data.toList),BQ (tl m s.data.toList))else(s,⟨#[]⟩)
theorem eP(m:UInt8)(s:ByteArray):(IU m s).1.size≤s.size∧(IU m s).2.size≤s.size:=by
 unfold IU
 split
 ·have h:=congrArg List.length (List.takeWhile_append_dropWhile (p:=(·!= m)) (l:=s.data.toList))
  rw[List.length_append]at h
  have h2:s.data.toList.length=s.size:=by simp
  simp only[Da,hd,tl,List.length_tail]
  omega
 exact⟨Nat.le_refl _,Nat.zero_le _⟩
theorem nU{m:UInt8}{s:ByteArray}(h:m ∈ s.data.toList):∃k:Nat,k<s.size∧(s.data.toList.takeWhile (·!= m)).length=k∧s.extract 0 k=(IU m s).1∧s.extract (k+1) s.size=(IU m s).2:=by
 have h1:=List.takeWhile_append_dropWhile (p:=(·!= m)) (l:=s.data.toList)
 have h3:=congrArg List.length h1
 rw[List.length_append]at h3
 have h2:s.data.toList.length=s.size:=by simp
 have h4:s.data.toList.dropWhile (·!= m)≠[]:=fun e=>by
  rw[e,List.append_nil]at h1
  have:=(List.all_takeWhile (p:=(·!= m)) (l:=s.data.toList))
  rw[h1]at this
  have:=List.all_eq_true.1 this m h
  simp at this
 have h5:0<(s.data.toList.dropWhile (·!= m)).length:=List.length_pos_iff.2 h4
 have e1:hd m s.data.toList=s.data.toList.takeWhile (·!= m):=rfl
 have e2:tl m s.data.toList=(s.data.toList.dropWhile (·!= m)).tail:=rfl
 unfold IU
 rw[if_pos h,e1,e2]
 generalize s.data.toList.takeWhile (·!= m)=x at *
 generalize s.data.toList.dropWhile (·!= m)=y at *
 refine⟨_,by omega,rfl,?_,?_⟩
 ·rw[Kh,←h1];simp
 rw[KL,←h1];simp

theorem il(m:UInt8)(s:ByteArray)(w:World)(hs:s.size≤33554432):
 Calls Tryz.prog 192 #[.string s,.string ⟨#[m]⟩] w fun e w'=>e= .returned (.tuple #[.string (IU m s).1,.string (IU m s).2,.bool (decide (m ∈ s.data.toList))])∧Below w.heap.size w w':=by
 have IX:=hide fun w=>Oq m s w
 have hz:(⟨#[m]⟩:ByteArray).size=1:=rfl
 rcases Vg m s.data.toList with⟨h1,h2⟩|⟨h1,h2⟩
 ·rw[h2]at IX
  have e1:IU m s=(s,⟨#[]⟩):=if_neg h1
  rw[e1,decide_eq_false h1]
  clear h1 h2 e1
  generalize (⟨#[m]⟩:ByteArray)=q at *
  go_enter Tryz.func192,Tryz.ntmps192
  go_wp2_with (first|(go_at_call 190;refine(IX.out _).mono ?_;rintro e w' ⟨rfl,rfl⟩))
  go_ret3
  exact⟨rfl,Below.refl _ _⟩
 obtain⟨k,hk,hkl,e1,e2⟩:=nU h1
 rw[h2,hkl]at IX
 rw[←e1,←e2,decide_eq_true h1]
 clear h1 h2 e1 e2 hkl
 have mixed:Tryz.prog.follows .mixedOrders=true:=by kernel_rfl
 generalize (⟨#[m]⟩:ByteArray)=q at *
 go_enter Tryz.func192,Tryz.ntmps192
 go_wp2_with (first|(go_at_call 190;refine(IX.out _).mono ?_;rintro e w' ⟨rfl,rfl⟩))
 go_region_o
 go_wp2
 go_ret3
 exact⟨rfl,(Below.refl _ _).drew⟩
theorem je(m:UInt8)(s:ByteArray)(w:World)(hs:s.size≤33554432):
 Calls Tryz.prog 185 #[.string s,.string ⟨#[m]⟩] w fun e w'=>e= .returned (.tuple #[.string (IU m s).1,.string (IU m s).2,.bool (decide (m ∈ s.data.toList))])∧Below w.heap.size w w':=by
 have IX:=hide fun w=>il m s w hs
 generalize decide (m ∈ s.data.toList)=r at *
 generalize IU m s=r at *
 generalize (⟨#[m]⟩:ByteArray)=q at *
 go_enter Tryz.func185,Tryz.ntmps185
 go_wp2_with (first|(go_at_call 192;refine(IX.out _).mono ?_;rintro e w' ⟨rfl,bb⟩))
 go_ret3
 exact⟨rfl,bb⟩
theorem dD(m:UInt8)(s:ByteArray)(w:World)(hs:s.size≤33554432):
 Calls Tryz.prog 264 #[.string s,.string ⟨#[m]⟩] w fun e w'=>e= .returned (.int .i64 (Lib.lastIndexByte s (m.toNat:Int)))∧w'=w:=by
 have IX:=hide fun w=>Tryz.bytealg_LastIndexByteString_nm s (m.toNat:Int) (by omega) w
 have hz:(⟨#[m]⟩:ByteArray).size=1:=rfl
 have hi:(⟨#[m]⟩:ByteArray)[0]'(by rw[hz];omega)=m:=rfl
 generalize Lib.lastIndexByte s (m.toNat:Int)=r at *
 go_enter Tryz.func264,Tryz.ntmps264
 go_wp2_with (first|(go_at_call 265;refine(IX.out _).mono ?_;rintro e w' ⟨rfl,rfl⟩))
 go_ret
 exact⟨rfl,rfl⟩
end
section
open Go Go.RowKit
theorem grown_of{w w':World}(h:Below w.heap.size w w'):w.grownBy w' none:=⟨h.os,h.tape,h.output,h.size,fun k hk _=>h.block k hk⟩
def nK(B n₀:Nat)(G X:World→Prop)(W:World):Exit→Act→World→Prop
 | .normal,_,W'=>KeepsFrom B W W'∧Below n₀ W W'∧G W'
 | .ret,_,W'=>KeepsFrom B W W'∧X W'
 |_,_,_=>False
def qO(F:Fence)(n:Nat)(P:Program)(gf:Nat)(lb:Array Value)(n₀ m:Nat)(hand:Nat→Array Value→World→World→Prop)(w:World):Prop:=
 ∀(l:Nat)(J X:Nat→World→Prop)(W:World),Below w.heap.size w W→(∀k A A',J k A→Below A.heap.size A A'→J k A')→(∀k A A',X k A→Below A.heap.size A A'→X k A')→
  (∀k vs U V,J k U→Below U.heap.size U V→k<m→hand k vs U V→YieldAt F (n-1) P l vs V fun e V'=>(e= .returned (.bool true)∧J (k+1) V'∧Below n₀ V V')∨(e= .returned (.bool false)∧X k V'))→
  J 0 W→CallsIn F n P gf (#[.func (.yield l) #[] #[]]++lb) W fun e W'=>(∃v,e= .returned v)∧(J m W'∨∃k,k<m∧X k W')

variable {F:Fence} {n:Nat} {P:Program}
theorem aU{g:Operand}{ps:Array Tmp}{assign body:Code}{R:Exit→Act→World→Prop}{a:Act}{w:World}
 (hro:F.round=none) (h1:1≤n) {gf:Nat} {lb:Array Value} (hg:a.eval g= .func (.func gf) #[] lb) (hFg:F.fn gf) (eg:∀args w,(callFunc gf args).run P w= .ok (.enter gf args) w)
 {n₀ m:Nat} {hand:Nat→Array Value→World→World→Prop} (hn₀:n₀≤w.heap.size) (hps:∀k vs U W,hand k vs U W→vs.size=ps.size) (hseq:qO F (n-1) P gf lb n₀ m hand w)
 (I X:Nat→World→Prop) (hI:OwnFrom w.heap.size I) (hX:OwnFrom w.heap.size X) (h0:I 0 w)
 (Ax:Nat→Act→World→Prop) (hAx:∀a',OwnFrom w.heap.size (fun k W=>Ax k a' W))
 (hassign:∀(l k:Nat)(vs:Array Value)(U W:World)(K:Act→World→Prop),k<m→I k U→Below U.heap.size U W→hand k vs U W→(∀a' W',KeepsFrom w.heap.size W W'→Below n₀ W W'→Ax k a' W'→K a' W')→
  assign.wpIn (F.inRound l) (n-1-1) P (Exit.then K (fun _ _ _=>False)) { tmps:=(ps.zip vs).foldl (fun t(p,v)=>t.setIfInBounds p v) a.tmps,defers:=[] } W)
 (hbody:∀(l k:Nat)(a':Act)(W:World),k<m→Ax k a' W→body.wpIn (F.inRound l) (n-1-1) P (nK w.heap.size n₀ (I (k+1)) (X k) W) a' W)
 (hdone:∀(D:Nat)(W:World),w.heap.size≤D→I m W→W.heap[D]? =some (.deferred (some []))→R .normal { a with defers:={ target:= .collected D,args:= #[] } :: a.defers } W)
 (hstop:∀(D k:Nat)(W:World),w.heap.size≤D→k<m→X k W→W.heap[D]? =some (.deferred (some []))→Code.ret.wpIn F n P R { a with defers:={ target:= .collected D,args:= #[] } :: a.defers } W):
 (Code.rangeFunc g ps assign body).wpIn F n P R a w:=by
 refine wpIn_rangeFunc fun fn hfn=>?_
 rw[hro]
 -- the two blocks that the statement lays: where deferred calls are kept, and the loop's record
 let D:=w.heap.size
 let L:=w.heap.size+1
 let book:LoopState→Option Code→Loop:=fun st j=>{ state:=st,pending:=j,fn,tmps:=a.tmps,params:=ps,assign,body,defers:=D }
 let W0:=(w.alloc (.deferred (some []))).alloc (.loop (book .ready none))
 have zW0:W0.heap.size=w.heap.size+2:=by simp[W0]
 have bW0:Below w.heap.size w W0:=((Below.refl _ w).alloc (Nat.le_refl _) _).alloc (by simp) _
 have AAT:W0.heap[L]? =some (.loop (book .ready none)):=by
  have:=World.alloc_heap_new (w.alloc (.deferred (some []))) (.loop (book .ready none))
  rwa [World.size_alloc]at this
 have AA5:W0.heap[D]? =some (.deferred (some [])):=(Below.heap_alloc _ _ _ (by simp[D])).trans (World.alloc_heap_new w _)
 have iW0:I 0 W0:=hI.alloc _ (hI.alloc _ h0)
 refine⟨L,[{ target:= .collected D,args:= #[] }],W0,{ target:= .fn (.func gf) lb,args:= #[.func (.yield L) #[] #[]] },W0,gf,#[.func (.yield L) #[] #[]]++lb,W0,run_enterLoop_outer _ _ _ _ _,?_,?_,?_,fun _=>h1,?_⟩
 ·simp only[resolve,hg]
  simp[go_sem]
 ·intro f' hf';simp[Target.leads]at hf';subst hf';exact hFg
 ·simp[invoke,go_sem,eg]
 -- what the caller keeps between rounds: its own word, and both blocks
 refine(hseq L (fun k W=>I k W∧W.heap[L]? =some (.loop (book .ready none))∧W.heap[D]? =some (.deferred (some []))) (fun k W=>X k W∧W.heap[L]? =some (.loop (book .done (some .ret)))∧W.heap[D]? =some (.deferred (some [])))
  W0 bW0 (fun k A A' h hb=>?_) (fun k A A' h hb=>?_) ?_ ⟨iW0,AAT,AA5⟩).mono ?_
 ·exact⟨hI k A A' none h.1 (grown_of hb) (fun r e=>by cases e),(hb.block L (Array.getElem?_eq_some_iff.1 h.2.1).1).trans h.2.1,(hb.block D (Array.getElem?_eq_some_iff.1 h.2.2).1).trans h.2.2⟩
 ·exact⟨hX k A A' none h.1 (grown_of hb) (fun r e=>by cases e),(hb.block L (Array.getElem?_eq_some_iff.1 h.2.1).1).trans h.2.1,(hb.block D (Array.getElem?_eq_some_iff.1 h.2.2).1).trans h.2.2⟩
 ·rintro k vs U V ⟨iU,wH,xK⟩ bU hk hh
  have wG:=(bU.block L (Array.getElem?_eq_some_iff.1 wH).1).trans wH
  have AA3:=(bU.block D (Array.getElem?_eq_some_iff.1 xK).1).trans xK
  refine⟨fn,_,assign,body,run_yield (P:=P) (args:=vs) wG (hps k vs U V hh),roundIn_of_wpIn hfn (hassign L k vs U V _ hk iU bU hh ?_)⟩
  intro a' A kA bA xA
  have mF:=kA.same L _ (by simp[L]) wG rfl
  have AA4:=kA.same D _ (Nat.le_refl _) AA3 rfl
  have ltA:=(Array.getElem?_eq_some_iff.1 mF).1
  refine⟨_,run_beginRound mF rfl,?_⟩
  generalize hM:A.putObj L (.loop { book .ready none with state:= .busy })=M
  have wI:M.heap[L]? =some (.loop { book .ready none with state:=.busy }):=hM▸World.putObj_heap_same ltA
  have xL:M.heap[D]? =some (.deferred (some [])):=hM▸(World.putObj_heap_other (by simp[L,D])).trans AA4
  have bM:Below n₀ A M:=hM▸belowK_b (w:=w) hn₀ A L _ _ (by simp[L]) mF rfl rfl
  have xM:Ax k a' M:=hM▸(hAx a').putObj _ xA (by simp[L]) mF rfl
  refine wpIn_mono (hbody L k a' M hk xM) ?_
  intro e a3 Z hZ
  cases e with
  |normal=>
   obtain⟨kZ,bZ,iZ⟩:=hZ
   have KN:=kZ.same L _ (by simp[L]) wI rfl
   have YY:=kZ.same D _ (Nat.le_refl _) xL rfl
   refine⟨_,_,run_endRound (P:=P) none KN,.inl ⟨rfl,⟨hI.putObj _ iZ (by simp[L]) KN rfl,World.putObj_heap_same (Array.getElem?_eq_some_iff.1 KN).1,(World.putObj_heap_other (by simp[L,D])).trans YY⟩,?_⟩⟩
   exact bA.trans (bM.trans (bZ.trans (belowK_b (w:=w) hn₀ Z L _ _ (by simp[L]) KN rfl rfl)))
  |ret=>
   obtain⟨kZ,iZ⟩:=hZ
   have KN:=kZ.same L _ (by simp[L]) wI rfl
   have YY:=kZ.same D _ (Nat.le_refl _) xL rfl
   exact⟨_,_,run_endRound (P:=P) (some .ret) KN,.inr ⟨rfl,hX.putObj _ iZ (by simp[L]) KN rfl,World.putObj_heap_same (Array.getElem?_eq_some_iff.1 KN).1,(World.putObj_heap_other (by simp[L,D])).trans YY⟩⟩
  |exit id=>exact hZ.elim
  |goto t=>exact hZ.elim
  |panic c=>exact hZ.elim
  |outgrown=>exact hZ.elim
 rintro e Z ⟨⟨v,rfl⟩,(⟨iZ,KN,YY⟩|⟨k,hk,iZ,KN,YY⟩)⟩
 ·exact⟨none,_,run_endLoop (P:=P) KN (by simp[book]),hdone D _ (Nat.le_refl _) (hI.putObj _ iZ (by simp[L]) KN rfl) ((World.putObj_heap_other (by simp[L,D])).trans YY)⟩
 exact⟨some .ret,_,run_endLoop (P:=P) KN (by simp[book]),hstop D k _ (Nat.le_refl _) hk (hX.putObj _ iZ (by simp[L]) KN rfl) ((World.putObj_heap_other (by simp[L,D])).trans YY)⟩
end
end Go.Proofs.YtkmnfeihjjccmaaGreatDoor
