/- Lemmas; their conditions stand in each statement. -/
import Derived.Test.YtcjmcgolgbkknaaGreatDoorRSBF
set_option maxRecDepth 100000
set_option maxHeartbeats 16000000
set_option linter.unusedSectionVars false
namespace Go.Proofs.YtcjmcgolgbkknaaGreatDoor
section
variable [∀(a b c d:Int),Decidable (BD a b c d)] [∀(a b c d:Nat),Decidable (Dg a b c d)] [∀(last:Int)(s:St),Decidable (Ak last s)] [∀(x:T4),Decidable (Dt x)] [∀(n:Int)(s:List Int),Decidable (Du n s)] [∀(n f:Int),Decidable (A_ n f)]
def Bp(xs:List Int)(p:Int)(ys:List Int)(q:Int):Prop:=∃pre post,xs=pre++ys++post∧p=(pre.length:Int)∧q=(pre.length:Int)+ys.length
theorem CE{xs:List Int}{p:Int}{a:List Int}{q:Int}(h:Bp xs p a q):0≤p∧q=p+a.length∧q≤xs.length:=by
 obtain⟨pre,post,rfl,rfl,rfl⟩:=h;refine⟨by omega,by omega,?_⟩;simp only[List.length_append];omega
theorem Oq{xs:List Int}{p q:Int}:Bp xs p [] q↔q=p∧0≤p∧p≤xs.length:=by
 constructor
 ·intro h;have:=CE h;simp at this;omega
 rintro⟨rfl,h0,h1⟩;obtain⟨k,rfl⟩:=Int.eq_ofNat_of_zero_le h0;refine⟨xs.take k,xs.drop k,by simp,?_,?_⟩<;>simp<;>omega
theorem A8{xs:List Int}{p:Int}{a b:List Int}{q:Int}:Bp xs p (a++b) q↔∃r,Bp xs p a r∧Bp xs r b q:=by
 constructor
 ·rintro⟨pre,post,rfl,rfl,rfl⟩;refine⟨(pre.length:Int)+a.length,⟨pre,b++post,by simp,rfl,rfl⟩,⟨pre++a,post,by simp,by simp,by simp;omega⟩⟩
 rintro⟨r,⟨pre,post,h,rfl,rfl⟩,⟨pre',post',h',hr,rfl⟩⟩;have hl:(pre++a).length=pre'.length:=by simp;omega
 have e:(pre++a)++post=pre'++(b++post'):=by rw[←h,h',List.append_assoc]
 obtain⟨e1,e2⟩:=List.append_inj e hl;refine⟨pre,post',?_,rfl,?_⟩
 ·rw[h,e2];simp
 rw[←hl];simp;omega
theorem J3{xs:List Int}{p:Int}{a:List Int}{q:Int}(h:Bp xs p a q):∃k:Nat,p=k∧q=((k+a.length:Nat):Int)∧k+a.length≤xs.length∧(xs.drop k).take a.length=a:=by
 obtain⟨pre,post,rfl,rfl,rfl⟩:=h;exact⟨pre.length,rfl,by omega,by simp,by simp⟩
theorem Ja{xs:List Int}{k e:Nat}{a:List Int}(hl:k+e≤xs.length)(h:(xs.drop k).take e=a):Bp xs k a ((k:Int)+e):=by
 have hal:a.length=e:=by rw[←h];simp;omega
 refine⟨xs.take k,xs.drop (k+e),?_,?_,?_⟩
 ·rw[←h,List.append_assoc,←List.drop_drop,List.take_append_drop,List.take_append_drop]
 ·simp;omega
 rw[hal];simp;omega
theorem Yo{xs:List Int}{k:Nat}{c:Int}(hk:k<xs.length)(h:xs.getD k 0=c):Bp xs k [c] ((k:Int)+1):=by
 refine Ja (e:=1) (by omega) ?_;rw[List.drop_eq_getElem_cons hk,List.take_succ_cons,List.take_zero];rw[List.getD_eq_getElem?_getD,List.getElem?_eq_getElem hk]at h;simpa using h

theorem A9{xs:List Int}(hb:Aw xs)(p m q:Int):AV xs p=some (m,q)↔(0≤m∧m≤2147483647)∧Bp xs p (EJ m) q:=by
 constructor
 ·intro h;obtain⟨k,e,rfl,rfl,h5,h0,h1,h6⟩:=XY xs hb p m q h;exact⟨⟨h0,h1⟩,Ja h5 h6⟩
 rintro⟨⟨h0,h1⟩,pre,post,rfl,rfl,rfl⟩;obtain⟨n,rfl⟩:=Int.eq_ofNat_of_zero_le h0;rw[F_ n (by omega),IQ];have:=pW pre post 4 n 0 0 (by omega) (by omega) (by omega) (by simp;omega);simpa using this
theorem FV{xs:List Int}(hb:Aw xs)(p:Int)(s:ByteArray)(q:Int):Ap xs p=some (s,q)↔s.size≤2147483647∧Bp xs p (H7 s) q:=by
 unfold H7
 constructor
 ·intro h;unfold Ap at h;cases hg:AV xs p with
  |none=>rw[hg]at h;cases h
  | some x=>
   obtain⟨n,r⟩:=x;rw[hg]at h;obtain⟨⟨h0,h1⟩,hs⟩:=(A9 hb p n r).1 hg;have hle:=CE hs;obtain⟨n,rfl⟩:=Int.eq_ofNat_of_zero_le h0;obtain⟨r,rfl⟩:=Int.eq_ofNat_of_zero_le (show 0≤r by omega);by_cases hn:(n:Int)≤(xs.length:Int)-r
   ·simp only[if_pos hn,Option.some.injEq,Prod.mk.injEq]at h;obtain⟨rfl,rfl⟩:=h;have hw:((xs.drop r).take n).length=n:=Hy xs r n (by omega);have hbw:Aw ((xs.drop r).take n):=fun y hy=>hb y (List.mem_of_mem_drop (List.mem_of_mem_take hy))
    have hsz:(F7 xs ((r:Int)).toNat ((n:Int)).toNat).size=n:=by
     unfold F7;rw[strOfNums_size,Int.toNat_natCast,Int.toNat_natCast,hw]
    refine⟨by omega,?_⟩;rw[A8];refine⟨r,?_,?_⟩
    ·rw[hsz,←F_ n (by omega)];exact hs
    refine Ja (by omega) ?_;unfold F7;rw[Int.toNat_natCast,Int.toNat_natCast,yh _ hbw]
   simp[if_neg hn]at h
 rintro⟨hs,h⟩;rw[A8]at h;obtain⟨r,h1,h2⟩:=h;rw[←F_ s.size (by omega)]at h1;have hg:=(A9 hb p s.size r).2 ⟨⟨by omega,by omega⟩,h1⟩;obtain⟨k,rfl,rfl,hk,ht⟩:=J3 h2;rw[qh]at hk ht⊢;unfold Ap;rw[hg];simp only;rw[if_pos (by omega)]
 congr 1
 refine Prod.ext ?_ (by show(k:Int)+_=_;omega);show F7 _ _ _=s;unfold F7;rw[Int.toNat_natCast,Int.toNat_natCast,ht,xR]

def JR(xs:List Int):Nat→Int→Option (List Int×Int)
 |0,p=>some ([],p)
 | k+1,p=>match AV xs p with
  |none=>none
  |some x=>match JR xs k x.2 with
   |none=>none
   |some y=>some (x.1 :: y.1,y.2)
def lI(ys:List Int):Prop:=∀y ∈ ys,0≤y∧y≤2147483647
def SQ(ys:List Int):List Int:=(ys.map EJ).flatten
theorem KL(y:Int)(ys:List Int):SQ (y :: ys)=EJ y++SQ ys:=rfl
theorem kE(ys:List Int):(SQ ys).length≤5*ys.length:=by
 induction ys with
 |nil=>simp[SQ]
 |cons y ys ih=>rw[KL,List.length_append,List.length_cons];have:=GA y;omega
theorem XZ{xs:List Int}(hb:Aw xs)(k:Nat)(p:Int)(h0:0≤p)(h1:p≤xs.length)(ys:List Int)(q:Int):JR xs k p=some (ys,q)↔ys.length=k∧lI ys∧Bp xs p (SQ ys) q:=by
 induction k generalizing p ys with
 | zero=>
  constructor
  ·intro h;simp only[JR,Option.some.injEq,Prod.mk.injEq]at h;obtain⟨rfl,rfl⟩:=h;exact⟨rfl,(fun y hy=>by cases hy),Oq.2 ⟨rfl,h0,h1⟩⟩
  ·rintro⟨hl,_,hs⟩;obtain rfl:=List.length_eq_zero_iff.1 hl;have:=(Oq.1 hs).1;subst this;rfl
 | succ k ih=>
  constructor
  ·intro h;rw[JR]at h;cases hg:AV xs p with
   |none=>rw[hg]at h;cases h
   | some x=>
    rw[hg]at h;simp only at h;obtain⟨m,r⟩:=x;obtain⟨hm,hs⟩:=(A9 hb p m r).1 hg;have hle:=CE hs;cases hg2:JR xs k r with
    |none=>rw[hg2]at h;cases h
    |some y=>
     rw[hg2]at h;obtain⟨zs,t⟩:=y;simp only[Option.some.injEq,Prod.mk.injEq]at h;obtain⟨rfl,rfl⟩:=h;obtain⟨hl,hn,hz⟩:=(ih r (by omega) (by omega) zs).1 hg2;refine⟨by simp[hl],fun y hy=>?_,by rw[KL,A8];exact⟨_,hs,hz⟩⟩;rcases List.mem_cons.1 hy with rfl|hy
     ·exact hm
     exact hn y hy
  rintro⟨hl,hn,hs⟩
  obtain⟨m,zs,rfl⟩:∃m zs,ys=m :: zs:=by
   cases ys with
   |nil=>simp at hl
   |cons m zs=>exact⟨m,zs,rfl⟩
  rw[KL,A8]at hs;obtain⟨r,hs,hz⟩:=hs;have hle:=CE hs;have hg:=(A9 hb p m r).2 ⟨hn m (by simp),hs⟩;have hg2:=(ih r (by omega) (by omega) zs).2 ⟨by simpa using hl,fun y hy=>hn y (by simp[hy]),hz⟩;rw[JR,hg];simp only;rw[hg2]
theorem j6(xs:List Int)(k:Nat)(p:Int){m r:Int}(h:AV xs p=some (m,r)):JR xs (k+1) p=(JR xs k r).map fun y=>(m :: y.1,y.2):=by
 rw[JR,h];simp only;cases JR xs k r<;>rfl
theorem j5(xs:List Int)(k:Nat)(p:Int)(h:AV xs p=none):JR xs (k+1) p=none:=by rw[JR,h]

def EK(L:Int)(xs:List Int)(p:Int):Option (List Int×Int):=match AV xs p with
 |none=>none
 |some x=>if x.1≤L then JR xs x.1.toNat x.2 else none
def OV(ys:List Int):List Int:=EJ ys.length++SQ ys
theorem YJ(ys:List Int):(OV ys).length≤5+5*ys.length:=by
 unfold OV;rw[List.length_append];have:=GA ys.length;have:=kE ys;omega
theorem P9{xs:List Int}(hb:Aw xs)(L:Int)(hL:L≤2147483647)(p:Int)(ys:List Int)(q:Int):EK L xs p=some (ys,q)↔(ys.length:Int)≤L∧lI ys∧Bp xs p (OV ys) q:=by
 unfold OV;rw[A8]
 constructor
 ·intro h;unfold EK at h;cases hg:AV xs p with
  |none=>rw[hg]at h;cases h
  | some x=>
   obtain⟨m,r⟩:=x;rw[hg]at h;simp only at h;obtain⟨hm,hs⟩:=(A9 hb p m r).1 hg;have hle:=CE hs;by_cases hl:m≤L
   ·rw[if_pos hl]at h;obtain⟨e,hn,hz⟩:=(XZ hb m.toNat r (by omega) (by omega) ys q).1 h;refine⟨by omega,hn,r,?_,hz⟩;rw[show((ys.length:Nat):Int)=m from by omega];exact hs
   rw[if_neg hl]at h;cases h
 rintro⟨hl,hn,r,hs,hz⟩;have hle:=CE hs;have hg:=(A9 hb p ys.length r).2 ⟨by omega,hs⟩;unfold EK;rw[hg];simp only;rw[if_pos hl];exact(XZ hb _ r (by omega) (by omega) ys q).2 ⟨by simp,hn,hz⟩

abbrev QcT:=Int×ByteArray×List Int
abbrev Dx:=Int×Int×QcT×ByteArray
def Hq(L:Int)(xs:List Int)(p:Int):Option (QcT×Int):=match AV xs p with
 |none=>none
 | some x=>match Ap xs x.2 with
  |none=>none
  |some y=>match EK L xs y.2 with
   |none=>none
   |some z=>some ((x.1,y.1,z.1),z.2)
def WB(v:Int)(s:ByteArray)(ys:List Int):List Int:=EJ v++H7 s++OV ys
theorem SG{xs:List Int}(hb:Aw xs)(L:Int)(hL:L≤2147483647)(p v:Int)(s:ByteArray)(ys:List Int)(q:Int):Hq L xs p=some ((v,s,ys),q)↔(0≤v∧v≤2147483647)∧s.size≤2147483647∧(ys.length:Int)≤L∧lI ys∧Bp xs p (WB v s ys) q:=by
 unfold WB;rw[A8]
 constructor
 ·intro h;unfold Hq at h;cases hg:AV xs p with
  |none=>rw[hg]at h;cases h
  | some x=>
   rw[hg]at h;obtain⟨m,r⟩:=x;simp only at h;obtain⟨hm,hs⟩:=(A9 hb p m r).1 hg;cases hg2:Ap xs r with
   |none=>rw[hg2]at h;cases h
   | some y=>
    rw[hg2]at h;obtain⟨t,r2⟩:=y;simp only at h;obtain⟨ht,hs2⟩:=(FV hb r t r2).1 hg2;cases hg3:EK L xs r2 with
    |none=>rw[hg3]at h;cases h
    |some z=>
     rw[hg3]at h;obtain⟨zs,r3⟩:=z;obtain⟨hl,hn,hs3⟩:=(P9 hb L hL r2 zs r3).1 hg3;simp only[Option.some.injEq,Prod.mk.injEq]at h;obtain⟨⟨rfl,rfl,rfl⟩,rfl⟩:=h;exact⟨hm,ht,hl,hn,r2,A8.2 ⟨r,hs,hs2⟩,hs3⟩
 rintro⟨hm,ht,hl,hn,r2,h12,hs3⟩;obtain⟨r,hs,hs2⟩:=A8.1 h12;unfold Hq;rw[(A9 hb p v r).2 ⟨hm,hs⟩];simp only;rw[(FV hb r s r2).2 ⟨ht,hs2⟩];simp only;rw[(P9 hb L hL r2 ys q).2 ⟨hl,hn,hs3⟩]
def Cv(L:Int)(xs:List Int)(p:Int):Option (Dx×Int):=match AV xs p with
 |none=>none
 | some x=>match AV xs x.2 with
  |none=>none
  | some y=>match Hq L xs y.2 with
   |none=>none
   |some z=>match Ap xs z.2 with
    |none=>none
    |some t=>some ((x.1,y.1,z.1,t.1),t.2)
def O_(vo lo v:Int)(s:ByteArray)(ys:List Int)(d:ByteArray):List Int:=EJ vo++EJ lo++WB v s ys++H7 d
theorem XV{xs:List Int}(hb:Aw xs)(L:Int)(hL:L≤2147483647)(p vo lo v:Int)(s:ByteArray)(ys:List Int)(d:ByteArray)(q:Int):
 Cv L xs p=some ((vo,lo,(v,s,ys),d),q)↔(0≤vo∧vo≤2147483647)∧(0≤lo∧lo≤2147483647)∧((0≤v∧v≤2147483647)∧s.size≤2147483647∧(ys.length:Int)≤L∧lI ys)∧d.size≤2147483647∧Bp xs p (O_ vo lo v s ys d) q:=by
 unfold O_;rw[A8]
 constructor
 ·intro h;unfold Cv at h;cases hg:AV xs p with
  |none=>rw[hg]at h;cases h
  | some x=>
   rw[hg]at h;obtain⟨m,r⟩:=x;simp only at h;obtain⟨hm,hs⟩:=(A9 hb p m r).1 hg;cases hg1:AV xs r with
   |none=>rw[hg1]at h;cases h
   | some x1=>
    rw[hg1]at h;obtain⟨m1,r1⟩:=x1;simp only at h;obtain⟨hm1,hs1⟩:=(A9 hb r m1 r1).1 hg1;cases hg2:Hq L xs r1 with
    |none=>rw[hg2]at h;cases h
    | some y=>
     rw[hg2]at h;obtain⟨⟨a,b,c⟩,r2⟩:=y;simp only at h;obtain⟨ha,hb2,hc,hn,hs2⟩:=(SG hb L hL r1 a b c r2).1 hg2;cases hg3:Ap xs r2 with
     |none=>rw[hg3]at h;cases h
     |some z=>
      rw[hg3]at h;obtain⟨t,r3⟩:=z;obtain⟨ht,hs3⟩:=(FV hb r2 t r3).1 hg3;simp only[Option.some.injEq,Prod.mk.injEq]at h;obtain⟨⟨rfl,rfl,⟨rfl,rfl,rfl⟩,rfl⟩,rfl⟩:=h;exact⟨hm,hm1,⟨ha,hb2,hc,hn⟩,ht,r2,A8.2 ⟨r1,A8.2 ⟨r,hs,hs1⟩,hs2⟩,hs3⟩
 rintro⟨hm,hm1,⟨ha,hb2,hc,hn⟩,ht,r2,h12,hs3⟩;obtain⟨r1,h01,hs2⟩:=A8.1 h12;obtain⟨r,hs,hs1⟩:=A8.1 h01;unfold Cv;rw[(A9 hb p vo r).2 ⟨hm,hs⟩];simp only;rw[(A9 hb r lo r1).2 ⟨hm1,hs1⟩];simp only;rw[(SG hb L hL r1 v s ys r2).2 ⟨ha,hb2,hc,hn,hs2⟩];simp only;rw[(FV hb r2 d q).2 ⟨ht,hs3⟩]

theorem sZ{n:Int}{l:List Int}(hn:0≤n)(ho:Du n l):(l.length:Int)≤n:=by
 generalize hk:l.length=k
 induction k generalizing l n with
 |zero=>simpa using hn
 |succ k ih=>
  obtain⟨l',x,rfl⟩:∃l' x,l=l'++[x]:=⟨l.dropLast,l.getLast (fun e=>by rw[e]at hk;simp at hk),(List.dropLast_concat_getLast _).symm⟩
  have hx:=ho.1 x (by simp);have hp:=ho.2;rw[List.pairwise_append]at hp;have:=ih hx.1 (l:=l') ⟨fun y hy=>⟨(ho.1 y (by simp[hy])).1,hp.2.2 y hy x (by simp)⟩,hp.1⟩ (by simpa using hk)
  push_cast
  omega
theorem iJ{n f v:Int}{s:ByteArray}{ys:List Int}(h:Fa n f v s ys=true):(0≤v∧v≤60)∧s.size≤1920∧ys.length≤7∧lI ys:=by
 have h':=h;unfold Fa at h';simp only[Bool.and_eq_true,decide_eq_true_eq,beq_iff_eq]at h';obtain⟨⟨⟨hc,hs⟩,hv⟩,hw⟩:=h';have hv2:=rY s;refine⟨by omega,Wm hs,?_⟩;by_cases he:s=⟨#[]⟩
 ·rw[if_pos he]at hw;have:ys=[]:=by simpa using hw
  subst this;exact⟨by simp,(fun y hy=>by cases hy)⟩
 obtain⟨hc,ho,_⟩:=sM h he;have:=sZ (by have:=hc.1;omega) ho;have hc1:=hc.1;exact⟨by omega,fun y hy=>by have:=ho.1 y hy;omega⟩
def Jl(n f:Int)(t:Dx):Bool:=Ir n f t.1 t.2.1 t.2.2.1.1 t.2.2.1.2.1 t.2.2.1.2.2 t.2.2.2
def PH(t:Dx):List Int:=O_ t.1 t.2.1 t.2.2.1.1 t.2.2.1.2.1 t.2.2.1.2.2 t.2.2.2
theorem Jb{n f:Int}{t:Dx}(h:Jl n f t=true):(0≤t.1∧t.1≤60)∧(0≤t.2.1∧t.2.1≤60)∧((0≤t.2.2.1.1∧t.2.2.1.1≤60)∧t.2.2.1.2.1.size≤1920∧t.2.2.1.2.2.length≤7∧lI t.2.2.1.2.2)∧t.2.2.2.size≤1920:=by
 obtain⟨h1,h2,h3,h4⟩:=O9 h;exact⟨h1,h2,iJ h3,Wm h4⟩
theorem Oe(s:ByteArray):(H7 s).length≤5+s.size:=by rw[Mc];have:=(NW 4 s.size).1;omega
theorem iK(v:Int)(s:ByteArray)(ys:List Int):(WB v s ys).length≤15+s.size+5*ys.length:=by
 unfold WB;rw[List.length_append,List.length_append];have:=GA v;have:=Oe s;have:=YJ ys;omega
theorem V_{n f:Int}{t:Dx}(h:Jl n f t=true):(PH t).length≤4000:=by
 obtain⟨_,_,⟨_,h1,h2,_⟩,h3⟩:=Jb h;unfold PH O_;rw[List.length_append,List.length_append,List.length_append];have:=GA t.1;have:=GA t.2.1;have:=iK t.2.2.1.1 t.2.2.1.2.1 t.2.2.1.2.2;have:=Oe t.2.2.2;omega
theorem PQ(m:Int)(h0:0≤m)(h1:m≤2147483647):0<(EJ m).length:=by
 obtain⟨n,rfl⟩:=Int.eq_ofNat_of_zero_le h0;rw[F_ n (by omega)];exact(NW 4 n).2
theorem nU{n f:Int}{t:Dx}(h:Jl n f t=true):0<(PH t).length:=by
 obtain⟨h0,_⟩:=Jb h;unfold PH O_;rw[List.length_append,List.length_append,List.length_append];have:=PQ t.1 (by omega) (by omega);omega
theorem Gq{xs:List Int}(hb:Aw xs)(L:Int)(h7:7≤L)(hL:L≤2147483647)(n f p:Int)(t:Dx)(q:Int)(ht:Jl n f t=true):Cv L xs p=some (t,q)↔Bp xs p (PH t) q:=by
 obtain⟨h1,h2,⟨h3,h4,h5,h6⟩,h8⟩:=Jb ht;obtain⟨vo,lo,⟨v,s,ys⟩,d⟩:=t;rw[XV hb L hL];simp only at h1 h2 h3 h4 h5 h6 h8
 constructor
 ·intro h;exact h.2.2.2.2
 intro h;exact⟨by omega,by omega,⟨by omega,by omega,by omega,h6⟩,by omega,h⟩
def C_(L n f:Int)(xs:List Int):Option Dx:=match Cv L xs 0 with
 |none=>none
 |some x=>if(Jl n f x.1&&(x.2==(xs.length:Int)))=true then some x.1 else none
theorem Ot{xs a:List Int}:Bp xs 0 a xs.length↔xs=a:=by
 constructor
 ·rintro⟨pre,post,h,hp,hq⟩;have e:pre=[]:=List.length_eq_zero_iff.1 (by omega);subst e;have hl:=congrArg List.length h;simp only[List.nil_append,List.length_append,List.length_nil]at hl hq h;have e2:post=[]:=List.length_eq_zero_iff.1 (by omega);subst e2;simpa using h
 rintro rfl;exact⟨[],[],by simp,rfl,by simp⟩
theorem Jc{xs:List Int}(hb:Aw xs)(L:Int)(h7:7≤L)(hL:L≤2147483647)(n f:Int)(t:Dx):C_ L n f xs=some t↔Jl n f t=true∧xs=PH t:=by
 constructor
 ·intro h;unfold C_ at h;cases hg:Cv L xs 0 with
  |none=>rw[hg]at h;cases h
  | some x=>
   rw[hg]at h;obtain⟨u,r⟩:=x;simp only at h;by_cases hq:(Jl n f u&&(r==(xs.length:Int)))=true
   ·rw[if_pos hq]at h;simp only[Option.some.injEq]at h;subst h;simp only[Bool.and_eq_true,beq_iff_eq]at hq;obtain⟨h1,rfl⟩:=hq;exact⟨h1,Ot.1 ((Gq hb L h7 hL n f 0 u _ h1).1 hg)⟩
   rw[if_neg hq]at h;cases h
 rintro⟨hq,hx⟩;have:=(Gq hb L h7 hL n f 0 t xs.length hq).2 (Ot.2 hx);unfold C_;rw[this];simp only;rw[if_pos (by simp[hq])]
theorem gu{xs:List Int}(hb:Aw xs)(n f:Int):C_ 2147483647 n f xs=C_ 7 n f xs:=by
 apply Option.ext
 intro t;rw[Jc hb 2147483647 (by omega) (by omega),Jc hb 7 (by omega) (by omega)]
end
section
open Go.RowKit
theorem TK(B:Nat)(v:Value)(xs:List Int)(p:Int)(s:ByteArray)(q:Int)(x y:Value)(u:TypeId)(pv:Value)(w:World)(h:RB w v xs)(hb:Bytes xs)(he:w.cell? ⟨1,0,none⟩=some (.iface u pv))(hr:Hid (Ap xs p=some (s,q)))
 (h0:w.cell? ⟨B,0,none⟩=some v) (h1:w.cell? ⟨B+1,0,none⟩=some (.int .i64 p)) (h2:w.cell? ⟨B+2,0,none⟩=some x) (h3:w.cell? ⟨B+3,0,none⟩=some y)
 (f2:w.frozen? ⟨B+2,0,none⟩=false) (f3:w.frozen? ⟨B+3,0,none⟩=false):
 Calls Tryz.prog 262 #[.pointer (some ⟨B,0,none⟩),.pointer (some ⟨B+1,0,none⟩),.pointer (some ⟨B+2,0,none⟩),.pointer (some ⟨B+3,0,none⟩)] w fun e w'=>
  e= .returned (.tuple #[])∧w'=(w.setCell ⟨B+2,0,none⟩ (.string s)).setCell ⟨B+3,0,none⟩ (.int .i64 q):=by
 go_enter Tryz.func262,Tryz.ntmps262
 go_wp2_with fail
 refine(Td v xs p s q u pv _ h hb he hr.out).mono ?_;rintro e w' ⟨rfl,rfl⟩;go_wp2
 go_end0
 exact⟨rfl,rfl⟩

theorem TN(B:Nat)(v:Value)(xs:List Int)(p:Int)(u:TypeId)(pv:Value)(w:World)(h:RB w v xs)(hb:Bytes xs)(he:w.cell? ⟨1,0,none⟩=some (.iface u pv))(hr:Hid (Ap xs p=none))
 (h0:w.cell? ⟨B,0,none⟩=some v) (h1:w.cell? ⟨B+1,0,none⟩=some (.int .i64 p)):
 Calls Tryz.prog 262 #[.pointer (some ⟨B,0,none⟩),.pointer (some ⟨B+1,0,none⟩),.pointer (some ⟨B+2,0,none⟩),.pointer (some ⟨B+3,0,none⟩)] w fun e w'=>
  e= .panicked [{ v:= .iface u pv,recovered:=false }]∧w'=w:=by
 go_enter Tryz.func262,Tryz.ntmps262
 go_wp2_with fail
 refine(V5 v xs p u pv _ h hb he hr.out).mono ?_;rintro e w' ⟨rfl,rfl⟩;go_wp2;exact⟨rfl,rfl,rfl⟩

abbrev Di(w:World)(v:Value)(p:Int):World:=(((w.alloc (.cells #[v] 31)).alloc (.cells #[.int .i64 p] 3)).alloc (.cells #[.string ⟨#[]⟩] 9)).alloc (.cells #[.int .i64 0] 3)
theorem Ka(w:World)(v:Value)(p:Int):Below w.heap.size w (Di w v p):=
 ((((Below.refl _ _).alloc Ae _).alloc (by simp) _).alloc (by simp;omega) _).alloc (by simp;omega) _
theorem Gh(w:World)(v:Value)(p:Int):(Di w v p).heap.size=w.heap.size+4:=by simp
theorem RV(w:World)(v:Value)(p:Int)(o:Obj):
 ((Di w v p).alloc o).cell? ⟨w.heap.size,0,none⟩=some v∧((Di w v p).alloc o).cell? ⟨w.heap.size+1,0,none⟩=some (.int .i64 p)∧((Di w v p).alloc o).cell? ⟨w.heap.size+2,0,none⟩=some (.string ⟨#[]⟩)∧((Di w v p).alloc o).cell? ⟨w.heap.size+3,0,none⟩=some (.int .i64 0)∧
 ((Di w v p).alloc o).frozen? ⟨w.heap.size+2,0,none⟩=false∧((Di w v p).alloc o).frozen? ⟨w.heap.size+3,0,none⟩=false:=by
 simp[Di,go_sem]

theorem V8(v:Value)(xs:List Int)(p:Int)(s:ByteArray)(q:Int)(u:TypeId)(pv:Value)(w:World)(h:RB w v xs)(hb:Bytes xs)(he:w.cell? ⟨1,0,none⟩=some (.iface u pv))(hr:Hid (Ap xs p=some (s,q))):
 Calls Tryz.prog 240 #[.func (.func 262) #[] #[.pointer (some ⟨w.heap.size,0,none⟩),.pointer (some ⟨w.heap.size+1,0,none⟩),.pointer (some ⟨w.heap.size+1+1,0,none⟩),.pointer (some ⟨w.heap.size+1+1+1,0,none⟩)]] (Di w v p) fun e w'=>
  e= .returned (.bool true)∧w'.cell? ⟨w.heap.size+1+1,0,none⟩=some (.string s)∧w'.cell? ⟨w.heap.size+1+1+1,0,none⟩=some (.int .i64 q)∧Below w.heap.size w w':=by
 have hlt:=AL he;obtain⟨c0,c1,c2,c3,f2,f3⟩:=RV w v p (.cells #[.bool false] 4);have hbl:Below w.heap.size w ((Di w v p).alloc (.cells #[.bool false] 4)):=(Ka w v p).alloc (by rw[Gh];omega) _;have hbs:=Gh w v p;refine(JJ 262 _ (Di w v p) (fun w1=>w1=(((Di w v p).alloc (.cells #[.bool false] 4)).setCell ⟨w.heap.size+2,0,none⟩ (.string s)).setCell ⟨w.heap.size+3,0,none⟩ (.int .i64 q)) (fun _=>by simp[go_sem]) ?_).mono ?_
 ·refine(TK w.heap.size v xs p s q _ _ u pv _ (h.below hbl) hb ((hbl.cell hlt).trans he) hr c0 c1 c2 c3 f2 f3).mono ?_;rintro e w' ⟨rfl,rfl⟩;refine⟨rfl,rfl,?_,?_⟩
  ·rw[World.cell?_setCell_other _ _ _ _ (by simp),World.cell?_setCell_other _ _ _ _ (by simp)];exact Jk _ _ _
  rw[World.frozen?_setCell,World.frozen?_setCell];exact IZ _ _ _
 rintro e w' ⟨rfl,w1,rfl,rfl⟩;refine⟨rfl,?_,?_,?_⟩
 ·rw[World.cell?_setCell_other _ _ _ _ (by simp),World.cell?_setCell_other _ _ _ _ (by simp),World.cell?_setCell_same _ _ _ c2]
 ·rw[World.cell?_setCell_other _ _ _ _ (by simp)];exact World.cell?_setCell_same _ _ _ ((World.cell?_setCell_other _ _ _ _ (by simp)).trans c3)
 exact((hbl.setCell (by simp) _).setCell (by simp) _).setCell (by rw[hbs];simp) _

theorem Q0(v:Value)(xs:List Int)(p:Int)(s:ByteArray)(q:Int)(u:TypeId)(pv:Value)(w:World)(h:RB w v xs)(hb:Bytes xs)(he:w.cell? ⟨1,0,none⟩=some (.iface u pv))(hr:Hid (Ap xs p=some (s,q))):
 Calls Tryz.prog 244 #[v,.int .i64 p] w fun e w'=>e= .returned (.tuple #[.string s,.int .i64 q,.bool true])∧Below w.heap.size w w':=by
 have wK:∀(fn:Fn)(first cap:Array Value)(w:World),(Instr.makeFunc fn first cap).run Tryz.prog w= .ok (.func fn first cap) w:=fun _ _ _ _=>rfl;have hrd:=V8 v xs p s q u pv w h hb he hr;obtain⟨hl,ao,ca,rfl,_,h'⟩:=h;clear h';go_enter Tryz.func244,Tryz.ntmps244
 go_wp2_with fail
 refine hrd.mono ?_;rintro e w' ⟨rfl,c2,c3,Sk⟩;go_wp2_with fail
 go_quiet (fail)
 go_wp2
 go_ret3
 exact⟨rfl,below_drewN Sk _⟩

theorem V9(v:Value)(xs:List Int)(p:Int)(u:TypeId)(pv:Value)(w:World)(h:RB w v xs)(hb:Bytes xs)(he:w.cell? ⟨1,0,none⟩=some (.iface u pv))(hr:Hid (Ap xs p=none)):
 Calls Tryz.prog 240 #[.func (.func 262) #[] #[.pointer (some ⟨w.heap.size,0,none⟩),.pointer (some ⟨w.heap.size+1,0,none⟩),.pointer (some ⟨w.heap.size+1+1,0,none⟩),.pointer (some ⟨w.heap.size+1+1+1,0,none⟩)]] (Di w v p) fun e w'=>
  e= .returned (.bool false)∧w'.cell? ⟨w.heap.size+1+1,0,none⟩=some (.string ⟨#[]⟩)∧w'.cell? ⟨w.heap.size+1+1+1,0,none⟩=some (.int .i64 0)∧Below w.heap.size w w':=by
 have hlt:=AL he;obtain⟨c0,c1,c2,c3,f2,f3⟩:=RV w v p (.cells #[.bool false] 4);have hbl:Below w.heap.size w ((Di w v p).alloc (.cells #[.bool false] 4)):=(Ka w v p).alloc (by rw[Gh];omega) _;have hbs:=Gh w v p;refine(JK 262 _ (Di w v p) (fun w1=>w1=(Di w v p).alloc (.cells #[.bool false] 4)) u pv (fun _=>by simp[go_sem]) ?_).mono ?_
 ·refine(TN w.heap.size v xs p u pv _ (h.below hbl) hb ((hbl.cell hlt).trans he) hr c0 c1).mono ?_;rintro e w' ⟨rfl,rfl⟩;exact⟨rfl,rfl,Jk _ _ _,IZ _ _ _⟩
 rintro e w' ⟨rfl,w1,rfl,rfl⟩;refine⟨rfl,?_,?_,?_⟩
 ·rw[World.cell?_setCell_other _ _ _ _ (by simp)];exact c2
 ·rw[World.cell?_setCell_other _ _ _ _ (by simp)];exact c3
 exact hbl.setCell (by rw[hbs];simp) _

theorem Q3(v:Value)(xs:List Int)(p:Int)(u:TypeId)(pv:Value)(w:World)(h:RB w v xs)(hb:Bytes xs)(he:w.cell? ⟨1,0,none⟩=some (.iface u pv))(hr:Hid (Ap xs p=none)):
 Calls Tryz.prog 244 #[v,.int .i64 p] w fun e w'=>e= .returned (.tuple #[.string ⟨#[]⟩,.int .i64 0,.bool false])∧Below w.heap.size w w':=by
 have wK:∀(fn:Fn)(first cap:Array Value)(w:World),(Instr.makeFunc fn first cap).run Tryz.prog w= .ok (.func fn first cap) w:=fun _ _ _ _=>rfl;have hrd:=V9 v xs p u pv w h hb he hr;obtain⟨hl,ao,ca,rfl,_,h'⟩:=h;clear h';go_enter Tryz.func244,Tryz.ntmps244
 go_wp2_with fail
 refine hrd.mono ?_;rintro e w' ⟨rfl,c2,c3,Sk⟩;go_wp2_with fail
 go_quiet (fail)
 go_wp2
 go_ret3
 exact⟨rfl,below_drewN Sk _⟩

def vU(r:Option (ByteArray×Int)):ByteArray:=match r with|some x=>x.1|none=>⟨#[]⟩
def vT(r:Option (ByteArray×Int)):Int:=match r with|some x=>x.2|none=>0
end
section
open Go.RowKit
variable [∀(a b c d:Int),Decidable (BD a b c d)] [∀(a b c d:Nat),Decidable (Dg a b c d)] [∀(last:Int)(s:St),Decidable (Ak last s)] [∀(x:T4),Decidable (Dt x)] [∀(n:Int)(s:List Int),Decidable (Du n s)] [∀(n f:Int),Decidable (A_ n f)]
def Gb:Bool→Int→Value
 |true,_=> .nilIface
 |false,n=>Wt n
def Jw{α:Type}(ok:Bool)(r:Option (α×Int))(ok':Bool)(x:α)(q:Int):Prop:=ok'=(ok&&r.isSome)∧(ok'=true→r=some (x,q))
def Eg(xs:List Int)(p q:Int):Prop:=q=p∨(0≤q∧q≤xs.length)
theorem Eg.trans{xs:List Int}{p q r:Int}(h:Eg xs p q)(k:Eg xs q r):Eg xs p r:=by unfold Eg at *; omega

theorem P8(g:Nat)(v:Value)(fr p next:Int)(ev:Value)(w:World)(hl:Loc w g #[v,.int .i64 fr,.int .i64 p,ev]):
 Calls Tryz.prog 217 #[.pointer (some ⟨g,0,none⟩),.int .i64 next,.bool true] w fun e w'=>e= .returned (.tuple #[])∧Loc w' g #[v,.int .i64 fr,.int .i64 next,ev]∧Kp w w' (fun k=>k=g):=by
 have c2:=hl.cell 2 rfl;have f2:=hl.frozen 2;have HL:=hide hl;clear hl;go_enter Tryz.func217,Tryz.ntmps217
 go_wp2
 go_end0
 exact⟨rfl,HL.out.set 2 _ rfl,AB _ _ _ _⟩

theorem Ua(g:Nat)(v:Value)(fr p next:Int)(ev:Value)(w:World)(hl:Loc w g #[v,.int .i64 fr,.int .i64 p,ev]):
 Calls Tryz.prog 217 #[.pointer (some ⟨g,0,none⟩),.int .i64 next,.bool false] w fun e w'=>e= .returned (.tuple #[])∧Loc w' g #[v,.int .i64 fr,.int .i64 p,Wt fr]∧Kp w w' (fun k=>k=g):=by
 have c1:=hl.cell 1 rfl;have c3:=hl.cell 3 rfl;have f3:=hl.frozen 3;have HL:=hide hl;clear hl;go_enter Tryz.func217,Tryz.ntmps217
 go_wp2;refine bodyPost_ret (v:= .tuple #[]) (by simp[results,Tryz.results217,go_sem]) rfl ?_;exact⟨rfl,HL.out.set 3 _ rfl,AB _ _ _ _⟩

theorem JN(g:Nat)(v:Value)(fr p:Int)(ok right:Bool)(w:World)(hl:Loc w g #[v,.int .i64 fr,.int .i64 p,Gb ok fr]):
 Calls Tryz.prog 191 #[.pointer (some ⟨g,0,none⟩),.bool right] w fun e w'=>e= .returned (.tuple #[])∧Loc w' g #[v,.int .i64 fr,.int .i64 p,Gb (ok&&right) fr]∧Kp w w' (fun k=>k=g):=by
 have c2:=hl.cell 2 rfl;cases right with
 |true=>
  rw[Bool.and_true];have GO:=hide (P8 g v fr p p (Gb ok fr) w hl);clear hl;go_enter Tryz.func191,Tryz.ntmps191
  go_wp2_with fail
  refine GO.out.mono ?_;rintro e w' ⟨rfl,L1,K1⟩;go_wp2
  go_end0
  exact⟨rfl,L1,K1⟩
 |false=>
  rw[Bool.and_false];have GO:=hide (Ua g v fr p p (Gb ok fr) w hl);clear hl;go_enter Tryz.func191,Tryz.ntmps191
  go_wp2_with fail
  refine GO.out.mono ?_;rintro e w' ⟨rfl,L1,K1⟩;go_wp2
  go_end0
  exact⟨rfl,L1,K1⟩

theorem oW(g:Nat)(v:Value)(fr p:Int)(w:World)(hl:Loc w g #[v,.int .i64 fr,.int .i64 p,.nilIface]):
 Calls Tryz.prog 155 #[.pointer (some ⟨g,0,none⟩)] w fun e w'=>e= .returned (.tuple #[.int .i64 0,.bool false])∧Below w.heap.size w w':=by
 obtain⟨w0,hw0⟩:∃y,w.alloc (.cells #[.int .i64 0] 227)=y:=⟨_,rfl⟩
 have B0:Below w.heap.size w w0:=hw0▸Ao _ _;have c3:=(hl.up B0).cell 3 rfl;have L0:Loc w0 w.heap.size #[.int .i64 0]:=hw0▸AJ w _ _ rfl;have d0:=L0.cell 0 rfl;clear hl L0;go_enter Tryz.func155,Tryz.ntmps155
 go_wp2_with fail
 clear hw0;refine(ym _ _).mono ?_;rintro e w' ⟨rfl,rfl⟩;go_wp2
 go_ret2
 exact⟨rfl,B0⟩

theorem jS(g:Nat)(v:Value)(fr p:Int)(w:World)(hg:JW w)(hl:Loc w g #[v,.int .i64 fr,.int .i64 p,Wt fr]):
 Calls Tryz.prog 155 #[.pointer (some ⟨g,0,none⟩)] w fun e w'=>e= .returned (.tuple #[.int .i64 fr,.bool true])∧Below w.heap.size w w':=by
 obtain⟨w0,hw0⟩:∃y,w.alloc (.cells #[.int .i64 0] 227)=y:=⟨_,rfl⟩
 have B0:Below w.heap.size w w0:=hw0▸Ao _ _;have c3:=(hl.up B0).cell 3 rfl;have L0:Loc w0 w.heap.size #[.int .i64 0]:=hw0▸AJ w _ _ rfl;have AS:=hide (yn fr w.heap.size (.int .i64 0) w0 (hg.below B0) L0);clear hl L0;go_enter Tryz.func155,Tryz.ntmps155
 go_wp2_with fail
 clear hw0;refine AS.out.mono ?_;rintro e w1 ⟨rfl,L1,K1⟩;have d0:=L1.cell 0 rfl;have B1:Below w.heap.size w w1:=Below.kp B0 K1 B0.size (fun k hk=>by omega);clear L1 K1 AS;go_wp2
 go_ret2
 exact⟨rfl,B1⟩
theorem jT(g:Nat)(v:Value)(fr p:Int)(ok:Bool)(w:World)(hg:JW w)(hl:Loc w g #[v,.int .i64 fr,.int .i64 p,Gb ok fr]):
 Calls Tryz.prog 155 #[.pointer (some ⟨g,0,none⟩)] w fun e w'=>e= .returned (.tuple #[.int .i64 (if ok then 0 else fr),.bool (!ok)])∧Below w.heap.size w w':=by
 cases ok with
 |true=>exact oW g v fr p w hl
 |false=>exact jS g v fr p w hg hl

theorem Kj(W0:World)(g:Nat)(ao:Option Addr)(ca:Nat)(xs:List Int)(fr p:Int)(ok:Bool)(w:World)(hr:RB W0 (.slice ao xs.length ca) xs)(hb:Bytes xs)(hE:Env W0)(hB:Below W0.heap.size W0 w)(hl:Loc w g #[.slice ao xs.length ca,.int .i64 fr,.int .i64 p,Gb ok fr]):
 Calls Tryz.prog 189 #[.pointer (some ⟨g,0,none⟩)] w fun e w'=>∃(x:Int)(q:Int)(ok':Bool),e= .returned (.int .i64 x)∧Jw ok (AV xs p) ok' x q∧(0≤x∧x≤2147483647)∧Eg xs p q∧Loc w' g #[.slice ao xs.length ca,.int .i64 fr,.int .i64 q,Gb ok' fr]∧Kp w w' (fun k=>k=g):=by
 obtain⟨u,pv,he⟩:=hE.no;cases hgn:AV xs p with
 |none=>
  have GN:=hide fun w'(b:Below w.heap.size w w')=>XX (.slice ao xs.length ca) xs p u pv w' (hr.below (bu hB b)) hb (((bu hB b).cell (AL he)).trans he) (hide hgn);have HL:=hide hl;clear hr hE he hB;have LG:=HL.out;clear hl HL;have Bw:Below w.heap.size w w:=Below.refl _ _;go_enter Tryz.func189,Tryz.ntmps189
  have K:=kw (ZY LG 0 1 2 3);go_upto_region 1 with fail
  refine Ei K (fun bA hHeld=>?_);refine tx 0 7 ?_;refine tx 4 11 ?_;refine tx 1 8 ?_;refine tx 5 12 ?_;refine tx 2 9 ?_;refine tx 6 13 ?_;refine tx 3 10 ?_;refine tx 7 14 ?_;refine rd 8 rfl (fun KK AA=>?_);go_simp;have hgo:=bA;refine(GN.out _ hgo).mono ?_;rintro e BN ⟨rfl,bb⟩;have Ai:Below w.heap.size w BN:=bu bA bb;clear bA hgo bb hHeld;refine AA.out _ _ (K.out _ Ai) (fun hHeld=>?_);clear AA KK;refine tx 9 6 ?_;refine tx 10 16 ?_;refine tx 11 17 ?_;refine tx 12 18 ?_;refine tx 13 3 ?_;refine tx 14 4 ?_;refine tx 15 5 ?_;clear hHeld;refine Bq ?_;have bb:=Ai;have Ct:=bu Bw bb;have Gs:=bb.size;replace LG:=LG.up bb;clear Bw bb Ai K GN;have GO:=hide (Ua g (.slice ao xs.length ca) fr p 0 (Gb ok fr) BN LG);clear LG;go_wp2_with fail
  refine GO.out.mono ?_;rintro e w2 ⟨rfl,L2,K2⟩;clear GO;have K3:=(Below.Bo Ct (fun k=>k=g)).trans K2;go_wp2;go_ret;exact⟨0,p,false,rfl,⟨by simp,by simp⟩,by simp,.inl rfl,L2,K3⟩
 |some z=>
  obtain⟨n,q⟩:=z;have GN:=hide fun w'(b:Below w.heap.size w w')=>XW (.slice ao xs.length ca) xs p n q u pv w' (hr.below (bu hB b)) hb (((bu hB b).cell (AL he)).trans he) (hide hgn);have bd:=Ec xs hb p n q hgn;have HL:=hide hl;clear hr hE he hB;have LG:=HL.out;clear hl HL;have Bw:Below w.heap.size w w:=Below.refl _ _;go_enter Tryz.func189,Tryz.ntmps189
  have K:=kw (ZY LG 0 1 2 3);go_upto_region 1 with fail
  refine Ei K (fun bA hHeld=>?_);refine tx 0 7 ?_;refine tx 4 11 ?_;refine tx 1 8 ?_;refine tx 5 12 ?_;refine tx 2 9 ?_;refine tx 6 13 ?_;refine tx 3 10 ?_;refine tx 7 14 ?_;refine rd 8 rfl (fun KK AA=>?_);go_simp;have hgo:=bA;refine(GN.out _ hgo).mono ?_;rintro e BN ⟨rfl,bb⟩;have Ai:Below w.heap.size w BN:=bu bA bb;clear bA hgo bb hHeld;refine AA.out _ _ (K.out _ Ai) (fun hHeld=>?_);clear AA KK;refine tx 9 6 ?_;refine tx 10 16 ?_;refine tx 11 17 ?_;refine tx 12 18 ?_;refine tx 13 3 ?_;refine tx 14 4 ?_;refine tx 15 5 ?_;clear hHeld;refine Bq ?_;have bb:=Ai;have Ct:=bu Bw bb;have Gs:=bb.size;replace LG:=LG.up bb;clear Bw bb Ai K GN;have GO:=hide (P8 g (.slice ao xs.length ca) fr p q (Gb ok fr) BN LG);clear LG;go_wp2_with fail
  refine GO.out.mono ?_;rintro e w2 ⟨rfl,L2,K2⟩;clear GO;have K3:=(Below.Bo Ct (fun k=>k=g)).trans K2;go_wp2;go_ret;exact⟨n,q,ok,rfl,⟨by simp,fun _=>rfl⟩,by omega,.inr (by omega),L2,K3⟩

theorem P_(xs:List Int)(hb:Bytes xs)(p:Int)(s:ByteArray)(q:Int)(h:Ap xs p=some (s,q)):s.size≤xs.length∧0<q∧q≤xs.length:=by
 unfold Ap at h;cases hg:AV xs p with
 |none=>rw[hg]at h;cases h
 | some x=>
  obtain⟨n,r⟩:=x;have bd:=Ec xs hb p n r hg;rw[hg]at h;by_cases hl:n≤(xs.length:Int)-r
  ·simp only[if_pos hl,Option.some.injEq,Prod.mk.injEq]at h;obtain⟨rfl,rfl⟩:=h;refine⟨?_,by omega,by omega⟩;unfold F7;rw[strOfNums_size,Hy _ _ _ (by omega)];omega
  simp[if_neg hl]at h
theorem Rh(W0:World)(g:Nat)(ao:Option Addr)(ca:Nat)(xs:List Int)(fr p:Int)(ok:Bool)(w:World)(hr:RB W0 (.slice ao xs.length ca) xs)(hb:Bytes xs)(hE:Env W0)(hB:Below W0.heap.size W0 w)(hl:Loc w g #[.slice ao xs.length ca,.int .i64 fr,.int .i64 p,Gb ok fr]):
 Calls Tryz.prog 219 #[.pointer (some ⟨g,0,none⟩)] w fun e w'=>∃(x:ByteArray)(q:Int)(ok':Bool),e= .returned (.string x)∧Jw ok (Ap xs p) ok' x q∧x.size≤xs.length∧Eg xs p q∧Loc w' g #[.slice ao xs.length ca,.int .i64 fr,.int .i64 q,Gb ok' fr]∧Kp w w' (fun k=>k=g):=by
 obtain⟨u,pv,he⟩:=hE.no;cases hgn:Ap xs p with
 |none=>
  have GN:=hide fun w'(b:Below w.heap.size w w')=>Q3 (.slice ao xs.length ca) xs p u pv w' (hr.below (bu hB b)) hb (((bu hB b).cell (AL he)).trans he) (hide hgn);have HL:=hide hl;clear hr hE he hB;have LG:=HL.out;clear hl HL;have Bw:Below w.heap.size w w:=Below.refl _ _;go_enter Tryz.func219,Tryz.ntmps219
  have K:=kw (ZY LG 0 1 2 3);go_upto_region 1 with fail
  refine Ei K (fun bA hHeld=>?_);refine tx 0 7 ?_;refine tx 4 11 ?_;refine tx 1 8 ?_;refine tx 5 12 ?_;refine tx 2 9 ?_;refine tx 6 13 ?_;refine tx 3 10 ?_;refine tx 7 14 ?_;refine rd 8 rfl (fun KK AA=>?_);go_simp;have hgo:=bA;refine(GN.out _ hgo).mono ?_;rintro e BN ⟨rfl,bb⟩;have Ai:Below w.heap.size w BN:=bu bA bb;clear bA hgo bb hHeld;refine AA.out _ _ (K.out _ Ai) (fun hHeld=>?_);clear AA KK;refine tx 9 6 ?_;refine tx 10 16 ?_;refine tx 11 17 ?_;refine tx 12 18 ?_;refine tx 13 3 ?_;refine tx 14 4 ?_;refine tx 15 5 ?_;clear hHeld;refine Bq ?_;have bb:=Ai;have Ct:=bu Bw bb;have Gs:=bb.size;replace LG:=LG.up bb;clear Bw bb Ai K GN;have GO:=hide (Ua g (.slice ao xs.length ca) fr p 0 (Gb ok fr) BN LG);clear LG;go_wp2_with fail
  refine GO.out.mono ?_;rintro e w2 ⟨rfl,L2,K2⟩;clear GO;have K3:=(Below.Bo Ct (fun k=>k=g)).trans K2;go_wp2;go_ret;exact⟨⟨#[]⟩,p,false,rfl,⟨by simp,by simp⟩,Nat.zero_le _,.inl rfl,L2,K3⟩
 |some z=>
  obtain⟨n,q⟩:=z;have GN:=hide fun w'(b:Below w.heap.size w w')=>Q0 (.slice ao xs.length ca) xs p n q u pv w' (hr.below (bu hB b)) hb (((bu hB b).cell (AL he)).trans he) (hide hgn);have bd:=P_ xs hb p n q hgn;have HL:=hide hl;clear hr hE he hB;have LG:=HL.out;clear hl HL;have Bw:Below w.heap.size w w:=Below.refl _ _;go_enter Tryz.func219,Tryz.ntmps219
  have K:=kw (ZY LG 0 1 2 3);go_upto_region 1 with fail
  refine Ei K (fun bA hHeld=>?_);refine tx 0 7 ?_;refine tx 4 11 ?_;refine tx 1 8 ?_;refine tx 5 12 ?_;refine tx 2 9 ?_;refine tx 6 13 ?_;refine tx 3 10 ?_;refine tx 7 14 ?_;refine rd 8 rfl (fun KK AA=>?_);go_simp;have hgo:=bA;refine(GN.out _ hgo).mono ?_;rintro e BN ⟨rfl,bb⟩;have Ai:Below w.heap.size w BN:=bu bA bb;clear bA hgo bb hHeld;refine AA.out _ _ (K.out _ Ai) (fun hHeld=>?_);clear AA KK;refine tx 9 6 ?_;refine tx 10 16 ?_;refine tx 11 17 ?_;refine tx 12 18 ?_;refine tx 13 3 ?_;refine tx 14 4 ?_;refine tx 15 5 ?_;clear hHeld;refine Bq ?_;have bb:=Ai;have Ct:=bu Bw bb;have Gs:=bb.size;replace LG:=LG.up bb;clear Bw bb Ai K GN;have GO:=hide (P8 g (.slice ao xs.length ca) fr p q (Gb ok fr) BN LG);clear LG;go_wp2_with fail
  refine GO.out.mono ?_;rintro e w2 ⟨rfl,L2,K2⟩;clear GO;have K3:=(Below.Bo Ct (fun k=>k=g)).trans K2;go_wp2;go_ret;exact⟨n,q,ok,rfl,⟨by simp,fun _=>rfl⟩,by omega,.inr (by omega),L2,K3⟩
theorem Kp.over{a b c:World}{X Y:Nat→Prop}(h:Kp a b X)(k:Kp b c Y)(hy:∀j,Y j→a.heap.size≤j∨X j):Kp a c X:=
 ⟨k.os.trans h.os,k.tape.trans h.tape,k.output.trans h.output,Nat.le_trans h.size k.size,fun i hi hx=>(k.block i (Nat.lt_of_lt_of_le hi h.size) (fun hj=>by rcases hy i hj with h1|h1<;>first|omega|exact hx h1)).trans (h.block i hi hx)⟩
def AAY:Value→Nat
 | .slice _ n _=>n
 |_=>0

def JV(L:Int)(ok:Bool)(xs:List Int)(p:Int)(m:Int)(ys:List Int)(q:Int)(Tn:Bool):Prop:=
 (Tn=false→(ok&&(EK L xs p).isSome)=false)∧(Tn=true→ok=true∧(ys.length:Int)≤m∧m≤L∧EK L xs p=(JR xs (m.toNat-ys.length) q).map fun z=>(ys++z.1,z.2))
theorem RJ{L:Int}{ok:Bool}{xs:List Int}{p m q:Int}{ok1:Bool}(h:Jw ok (AV xs p) ok1 m q)(hm:0≤m):JV L ok xs p m [] q (ok1&&decide (m≤L)):=by
 obtain⟨h1,h2⟩:=h;unfold JV EK
 constructor
 ·intro hf;cases hg:AV xs p with
  |none=>simp
  | some z=>
   rw[hg]at h1 h2;simp only[Option.isSome_some,Bool.and_true]at h1;subst h1;cases ok1 with
   |false=>simp
   |true=>
    obtain rfl:=Option.some.inj (h2 rfl);simp only[Bool.true_and,decide_eq_false_iff_not]at hf;simp[if_neg hf]
 intro ht;simp only[Bool.and_eq_true,decide_eq_true_eq]at ht;obtain⟨rfl,hl⟩:=ht;have e:=h2 rfl
 have hk:ok=true:=by
  cases ok with
  |true=>rfl
  |false=>simp at h1
 refine⟨hk,by simpa using hm,hl,?_⟩;rw[e];simp only[if_pos hl,List.length_nil,Nat.sub_zero,List.nil_append];cases JR xs m.toNat q<;>rfl
theorem VS{L:Int}{ok:Bool}{xs:List Int}{p m:Int}{ys:List Int}{q:Int}(h:JV L ok xs p m ys q true)(hl:(ys.length:Int)<m){x q2:Int}{KT:Bool}(g:Jw true (AV xs q) KT x q2):JV L ok xs p m (ys++[x]) q2 KT:=by
 obtain⟨hk,h1,h2,h3⟩:=h.2 rfl;obtain⟨g1,g2⟩:=g;rw[show m.toNat-ys.length=(m.toNat-(ys++[x]).length)+1 from by simp;omega]at h3
 constructor
 ·intro hf;rw[hf]at g1
  have hn:AV xs q=none:=by
   cases hg:AV xs q with
   |none=>rfl
   |some z=>rw[hg]at g1;simp at g1
  rw[j5 xs _ q hn]at h3;rw[h3];simp
 intro ht;refine⟨hk,by simp;omega,h2,?_⟩;rw[h3,j6 xs _ q (g2 ht)];cases JR xs (m.toNat-(ys++[x]).length) q2 with
 |none=>rfl
 |some z=>simp
theorem NM{L:Int}{ok:Bool}{xs:List Int}{p m:Int}{ys:List Int}{q:Int}{Tn:Bool}(h:JV L ok xs p m ys q Tn)(hl:Tn=false∨¬(ys.length:Int)<m):Jw ok (EK L xs p) Tn ys q:=by
 cases Tn with
 |false=>exact⟨(h.1 rfl).symm,by simp⟩
 |true=>
  obtain⟨hk,h1,h2,h3⟩:=h.2 rfl;have hn:¬(ys.length:Int)<m:=by rcases hl with h|h;cases h;exact h
  rw[show m.toNat-ys.length=0 from by omega]at h3;simp only[JR,Option.map_some,List.append_nil]at h3;exact⟨by rw[h3,hk];rfl,fun _=>h3⟩
def Jp{α β γ:Type}(r:Option (α×Int))(f:α→Int→Option (β×Int))(c:α→β→γ):Option (γ×Int):=match r with
 |none=>none
 |some z=>match f z.1 z.2 with
  |none=>none
  |some t=>some (c z.1 t.1,t.2)
theorem JQ{α β γ:Type}{ok ok1 KT:Bool}{r:Option (α×Int)}{x:α}{q:Int}{f:α→Int→Option (β×Int)}{y:β}{q2:Int}(c:α→β→γ)(h:Jw ok r ok1 x q)(k:Jw ok1 (f x q) KT y q2):
 Jw ok (Jp r f c) KT (c x y) q2:=by
 obtain⟨h1,h2⟩:=h;obtain⟨k1,k2⟩:=k;cases r with
 |none=>
  simp only[Option.isSome_none,Bool.and_false]at h1;subst h1;simp only[Bool.false_and]at k1;subst k1;exact⟨by simp[Jp],by simp⟩
 | some z=>
  simp only[Option.isSome_some,Bool.and_true]at h1;subst h1;cases ok1 with
  |false=>
   simp only[Bool.false_and]at k1;subst k1;exact⟨by simp,by simp⟩
  | true=>
   obtain rfl:=Option.some.inj (h2 rfl);simp only[Bool.true_and]at k1;subst k1;unfold Jp;simp only;generalize f x q=r2 at *;cases r2 with
   |none=>exact⟨rfl,fun h=>by cases h⟩
   |some t=>
    obtain rfl:=Option.some.inj (k2 rfl);exact⟨rfl,fun _=>rfl⟩
theorem Z8(L:Int)(xs:List Int)(p:Int):Hq L xs p=Jp (AV xs p) (fun _ q=>Jp (Ap xs q) (fun _ q=>EK L xs q) Prod.mk) Prod.mk:=by
 unfold Hq Jp;cases AV xs p with
 |none=>rfl
 | some z=>
  simp only;cases Ap xs z.2 with
  |none=>rfl
  |some t=>
   simp only;cases EK L xs t.2<;>rfl
theorem Ub(L:Int)(xs:List Int)(p:Int):Cv L xs p=Jp (AV xs p) (fun _ q=>Jp (AV xs q) (fun _ q=>Jp (Hq L xs q) (fun _ q=>Ap xs q) Prod.mk) Prod.mk) Prod.mk:=by
 unfold Cv Jp;cases AV xs p with
 |none=>rfl
 | some z=>
  simp only;cases AV xs z.2 with
  |none=>rfl
  | some t=>
   simp only;cases Hq L xs t.2 with
   |none=>rfl
   |some u=>
    simp only;cases Ap xs u.2<;>rfl
theorem pQ{L:Int}{ok:Bool}{xs:List Int}{p:Int}{ok1 KT ik:Bool}{v q1:Int}{s:ByteArray}{q2:Int}{ys:List Int}{q3:Int}(h1:Jw ok (AV xs p) ok1 v q1)(h2:Jw ok1 (Ap xs q1) KT s q2)(h3:Jw KT (EK L xs q2) ik ys q3):Jw ok (Hq L xs p) ik (v,s,ys) q3:=by
 rw[Z8];exact JQ Prod.mk h1 (JQ (f:=fun _ q=>EK L xs q) Prod.mk h2 h3)
theorem XU{L:Int}{ok:Bool}{xs:List Int}{p:Int}{ok1 KT ik Tq:Bool}{vo q1 lo q2:Int}{c:QcT}{q3:Int}{d:ByteArray}{q4:Int}(h1:Jw ok (AV xs p) ok1 vo q1)(h2:Jw ok1 (AV xs q1) KT lo q2)(h3:Jw KT (Hq L xs q2) ik c q3)(h4:Jw ik (Ap xs q3) Tq d q4):Jw ok (Cv L xs p) Tq (vo,lo,c,d) q4:=by
 rw[Ub];exact JQ Prod.mk h1 (JQ Prod.mk h2 (JQ (f:=fun _ q=>Ap xs q) Prod.mk h3 h4))
end
section
open Go.RowKit
theorem OI.more{B:Nat}{w1:World}{v':Value}{xs:List Int}{c:Int}(ho':w1.ownsRow B 3 1 v' (xs.length+1) (xs.map (Value.int .i64)++[.int .i64 c])):OI w1 B v' (xs++[c]):=by
 unfold OI;rw[List.length_append,List.map_append];exact ho'
end
end Go.Proofs.YtcjmcgolgbkknaaGreatDoor
