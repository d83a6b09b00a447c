/- Lemmas; their conditions stand in each statement. -/
import Derived.Test.YtcjmcgolgbkknaaGreatDoorWRAK
import Derived.Test.YtcjmcgolgbkknaaGreatDoorWRAG
set_option maxRecDepth 100000
set_option maxHeartbeats 4000000
namespace Go.Proofs.YtcjmcgolgbkknaaGreatDoor
section

def hd(m:UInt8)(l:List UInt8):List UInt8:=l.takeWhile (·!= m)
def tl(m:UInt8)(l:List UInt8):List UInt8:=(l.dropWhile (·!= m)).tail
theorem eO{m:UInt8}{l:List UInt8}(h:m ∉ l):hd m l=l:=by
 unfold hd
 induction l with
 |nil=>rfl
 |cons b l ih=>
  simp at h;rw[List.takeWhile_cons_of_pos (by simp;exact fun e=>h.1 e.symm),ih h.2]
theorem rq{m:UInt8}{l:List UInt8}(h:m ∉ l):tl m l=[]:=by
 unfold tl
 induction l with
 |nil=>rfl
 |cons b l ih=>
  simp at h;rw[List.dropWhile_cons_of_pos (by simp;exact fun e=>h.1 e.symm)];exact ih h.2
theorem EJ{m:UInt8}{x y:List UInt8}(h:m ∉ x):hd m (x++m :: y)=x:=by
 unfold hd
 induction x with
 |nil=>simp
 |cons b x ih=>
  simp at h;rw[List.cons_append,List.takeWhile_cons_of_pos (by simp;exact fun e=>h.1 e.symm),ih h.2]
theorem Eo{m:UInt8}{x y:List UInt8}(h:m ∉ x):tl m (x++m :: y)=y:=by
 unfold tl
 induction x with
 |nil=>simp
 |cons b x ih=>
  simp at h;rw[List.cons_append,List.dropWhile_cons_of_pos (by simp;exact fun e=>h.1 e.symm)];exact ih h.2
theorem eF{m:UInt8}{l:List UInt8}(h:tl m l≠[]):l=hd m l++m :: tl m l:=by
 unfold hd tl at *
 induction l with
 |nil=>simp at h
 |cons b l ih=>
  by_cases hb:b=m
  ·subst hb;simp
  rw[List.takeWhile_cons_of_pos (by simpa using hb),List.dropWhile_cons_of_pos (by simpa using hb),List.cons_append];rw[List.dropWhile_cons_of_pos (by simpa using hb)]at h;rw[←ih h]

def f0(l:List UInt8):List UInt8:=hd 62 l
def f1(l:List UInt8):List UInt8:=hd 58 (tl 62 l)
def f2(l:List UInt8):List UInt8:=hd 35 (tl 58 (tl 62 l))
def f3(l:List UInt8):List UInt8:=tl 35 (tl 58 (tl 62 l))

def Dc(a b c d:Nat):Prop:=a≤3∧b≤3∧c≤1000∧d≤99
def rV(a b c d:Nat):List UInt8:=Lib.decDigits a++62 :: (Lib.decDigits b++58 :: (Lib.decDigits c++35 :: Lib.decDigits d))
def VY(l:List UInt8)(a b c d:Nat):Prop:=Dc a b c d∧rV a b c d=l

theorem jy{n:Nat}{x:UInt8}(h:x ∈ Lib.decDigits n):48≤x.toNat∧x.toNat≤57:=by
 obtain⟨k,hk,e⟩:=List.mem_iff_getElem.1 h;obtain⟨d,hd⟩:=Lib.digit_of_decFrom (Lib.decDigits n) 0 n (Gj n) k x (by rw[List.getElem?_eq_getElem hk,e]);have:=Lib.digitVal_eq hd;omega
theorem Ig(n:Nat)(m:UInt8)(h:m.toNat<48∨57<m.toNat):m ∉ Lib.decDigits n:=fun hm=>by
 have:=jy hm;omega

theorem fields_of{l:List UInt8}{a b c d:Nat}(h:VY l a b c d):f0 l=Lib.decDigits a∧f1 l=Lib.decDigits b∧f2 l=Lib.decDigits c∧f3 l=Lib.decDigits d:=by
 obtain⟨_,rfl⟩:=h;have h0:(62:UInt8) ∉ Lib.decDigits a:=Ig a 62 (by decide);have h1:(58:UInt8) ∉ Lib.decDigits b:=Ig b 58 (by decide);have h2:(35:UInt8) ∉ Lib.decDigits c:=Ig c 35 (by decide);unfold f0 f1 f2 f3 rV;rw[EJ h0,Eo h0,EJ h1,Eo h1,EJ h2,Eo h2];exact⟨rfl,rfl,rfl,rfl⟩
theorem UW{l:List UInt8}{a b c d:Nat}(h:VY l a b c d):numOf (f0 l)=some a∧numOf (f1 l)=some b∧numOf (f2 l)=some c∧numOf (f3 l)=some d:=by
 obtain⟨e0,e1,e2,e3⟩:=fields_of h;obtain⟨⟨h0,h1,h2,h3⟩,_⟩:=h;rw[e0,e1,e2,e3];exact⟨IE (by omega),IE (by omega),IE (by omega),IE (by omega)⟩
theorem l9(m:UInt8):tl m []=[]:=rfl
theorem Mx(m:UInt8):hd m []=[]:=rfl
theorem tJ{l:List UInt8}{a b c d:Nat}(h0:numOf (f0 l)=some a)(h1:numOf (f1 l)=some b)(h2:numOf (f2 l)=some c)(h3:numOf (f3 l)=some d)(hk:Dc a b c d):VY l a b c d:=by
 refine⟨hk,?_⟩;obtain⟨_,e0⟩:=DN h0;obtain⟨_,e1⟩:=DN h1;obtain⟨_,e2⟩:=DN h2;obtain⟨_,e3⟩:=DN h3;have n1:=Fe b;have n2:=Fe c;have n3:=Fe d;unfold rV;rw[e0,e1,e2,e3];rw[e1]at n1;rw[e2]at n2;rw[e3]at n3;unfold f0 f1 f2 f3 at *;have t0:tl 62 l≠[]:=fun e=>n1 (by rw[e,Mx]);have t1:tl 58 (tl 62 l)≠[]:=fun e=>n2 (by rw[e,Mx]);rw[←eF n3,←eF t1,←eF t0]
end
section
open Go
theorem oZ{m:UInt8}{r:List UInt8}{j:Nat}(h:m ∉ r.take j)(hj:r[j]? =some m):hd m r=r.take j∧tl m r=r.drop (j+1):=by
 have hl:j<r.length:=(List.getElem?_eq_some_iff.1 hj).1;have hm:r[j]=m:=(List.getElem?_eq_some_iff.1 hj).2
 have e:r=r.take j++m :: r.drop (j+1):=by
  rw[←hm,List.getElem_cons_drop,List.take_append_drop]
 constructor
 ·conv=>lhs;rw[e]
  exact EJ h
 conv=>lhs;rw[e]
 exact Eo h
def YA(l:List UInt8):Nat→List UInt8
 |0=>l
 |1=>tl 62 l
 |2=>tl 58 (tl 62 l)
 |_=>tl 35 (tl 58 (tl 62 l))
def YD:Nat→UInt8
 |0=>62
 |1=>58
 |_=>35
def Bj(l:List UInt8):ByteArray:=⟨l.toArray⟩
theorem ext_list(s:ByteArray)(n p:Nat):(s.extract n p).data.toList=(s.data.toList.drop n).take (p-n):=by
 rw[ByteArray.data_extract,Array.toList_extract]
theorem MQ(s:ByteArray)(n p:Nat):s.extract n p=Bj ((s.data.toList.drop n).take (p-n)):=by
 apply ByteArray.ext
 apply Array.toList_inj.1
 rw[ext_list s n p];rfl
def yj(s:ByteArray)(pos k n:Nat):Prop:=n≤pos∧n≤s.size∧s.data.toList.drop n=YA s.data.toList k∧(k<3→YD k ∉ (s.data.toList.drop n).take (pos-n))
theorem kJ(s:ByteArray):yj s 0 0 0:=⟨by omega,by omega,rfl,by simp⟩
theorem U7{s:ByteArray}{pos k n:Nat}(h:yj s pos k n)(hp:pos<s.size)(hk:k<3)(hb:s[pos]=YD k):
 s.extract n pos=Bj (hd (YD k) (YA s.data.toList k))∧yj s (pos+1) (k+1) (pos+1):=by
 obtain⟨h1,h2,h3,h4⟩:=h
 have hj:(s.data.toList.drop n)[pos-n]? =some (YD k):=by
  rw[List.getElem?_drop,show n+(pos-n)=pos from by omega,List.getElem?_eq_getElem (by simpa using hp),←hb];rfl
 obtain⟨e1,e2⟩:=oZ (h4 hk) hj;refine⟨?_,by omega,by omega,?_,by simp⟩
 ·rw[MQ s n pos,←h3,e1]
 rw[List.drop_drop,show n+(pos-n+1)=pos+1 from by omega]at e2;rw[←e2,h3]
 match k,hk with
 |0,_=>rfl
 |1,_=>rfl
 |2,_=>rfl
theorem Ie{m:UInt8}{l:List UInt8}{n pos v:Nat}(hn:n≤pos)(h:m ∉ (l.drop n).take (pos-n))(hv:∀j,j<v→l[pos+j]?≠some m):m ∉ (l.drop n).take (pos+v-n):=by
 induction v with
 |zero=>exact h
 |succ v ih=>
  have h':=ih (fun j hj=>hv j (by omega));rw[show pos+(v+1)-n=(pos+v-n)+1 from by omega,List.take_add_one];intro hm;rw[List.mem_append]at hm;rcases hm with hm|hm
  ·exact h' hm
  rw[List.getElem?_drop,show n+(pos+v-n)=pos+v from by omega]at hm;have:=hv v (by omega);cases hq:l[pos+v]? with
  |none=>rw[hq]at hm;simp at hm
  |some x=>rw[hq]at hm;simp at hm;rw[hq,hm]at this;exact this rfl
theorem jD(k:Nat):(YD k).toNat<128:=by unfold YD;split<;>decide
theorem Xp(s:ByteArray)(pos j:Nat)(hj:1≤j)(h:j<(Utf8.decode s pos).2):128≤(s.get! (pos+j)).toNat:=by
 unfold Utf8.decode at h;simp only at h
 split at h
 ·simp at h;omega
 split at h
 ·rename_i hc;simp only[Bool.and_eq_true,beq_iff_eq,decide_eq_true_eq]at hc
  split at h
  ·simp at h;obtain rfl:j=1:=by omega
   omega
  simp at h;omega
 split at h
 ·rename_i hc;simp only[Bool.and_eq_true,beq_iff_eq,decide_eq_true_eq]at hc
  split at h
  ·simp at h;have:j=1∨j=2:=by omega
   rcases this with rfl|rfl<;>omega
  simp at h;omega
 split at h
 ·rename_i hc;simp only[Bool.and_eq_true,beq_iff_eq,decide_eq_true_eq]at hc
  split at h
  ·simp at h;have:j=1∨j=2∨j=3:=by omega
   rcases this with rfl|rfl|rfl<;>omega
  simp at h;omega
 simp at h;omega
theorem yD{s:ByteArray}{i:Nat}{x:UInt8}(h:s.data.toList[i]? =some x):s.get! i=x:=by
 rw[Array.getElem?_toList]at h;unfold ByteArray.get!;cases s
 simp only at *;obtain⟨hi,e⟩:=Array.getElem?_eq_some_iff.1 h;simp[hi,e]
theorem MW{s:ByteArray}{pos k n:Nat}(h:yj s pos k n)(hp:pos<s.size)(hb:k<3→s[pos]≠YD k):
 yj s (pos+(Utf8.decode s pos).2) k n:=by
 obtain⟨h1,h2,h3,h4⟩:=h;refine⟨by omega,h2,h3,fun hk=>?_⟩;refine Ie h1 (h4 hk) fun j hj e=>?_;by_cases h0:j=0
 ·subst h0;rw[Nat.add_zero,List.getElem?_eq_getElem (by simpa using hp)]at e;exact hb hk (Option.some.inj e)
 have:=Xp s pos j (by omega) hj;rw[yD e]at this;have:=jD k;omega
theorem Lh(s:ByteArray)(n:Nat):s.extract n s.size=Bj (s.data.toList.drop n):=by
 rw[MQ s n s.size,List.take_of_length_le (by simp)]
theorem uV{s:ByteArray}{pos k n:Nat}(h:yj s pos k n)(hp:¬pos<s.size):s.extract n s.size=Bj (YA s.data.toList k)∧(k<3→hd (YD k) (YA s.data.toList k)=YA s.data.toList k∧tl (YD k) (YA s.data.toList k)=[]):=by
 obtain⟨h1,h2,h3,h4⟩:=h;refine⟨by rw[Lh s n,h3],fun hk=>?_⟩
 have hm:YD k ∉ YA s.data.toList k:=by
  have:=h4 hk;rw[List.take_of_length_le (by simp;omega),h3]at this;exact this
 exact⟨eO hm,rq hm⟩
end
section
open Go.RowKit
def cw(w:World)(s g0 g1 g2 g3:ByteArray)(pos:Nat):World:=
 (((w.alloc (.cells #[.string ⟨#[]⟩,.string ⟨#[]⟩,.string ⟨#[]⟩,.string ⟨#[]⟩] 346)).alloc (.cells #[.int .i32 62,.int .i32 58,.int .i32 35] 355)).alloc (.cells #[.string g0,.string g1,.string g2,.string g3] 346)).iter s pos
theorem Q0(w:World)(s g0 g1 g2 g3:ByteArray)(pos:Nat):(cw w s g0 g1 g2 g3 pos).cell? ⟨w.heap.size+1,0,none⟩=some (.int .i32 62)∧(cw w s g0 g1 g2 g3 pos).cell? ⟨w.heap.size+1,1,none⟩=some (.int .i32 58)∧(cw w s g0 g1 g2 g3 pos).cell? ⟨w.heap.size+1,2,none⟩=some (.int .i32 35):=by
 unfold cw World.iter;simp[go_sem]
theorem Q3(w:World)(s g0 g1 g2 g3:ByteArray)(pos:Nat):(cw w s g0 g1 g2 g3 pos).cell? ⟨w.heap.size+1+1,0,none⟩=some (.string g0)∧(cw w s g0 g1 g2 g3 pos).cell? ⟨w.heap.size+1+1,1,none⟩=some (.string g1)∧(cw w s g0 g1 g2 g3 pos).cell? ⟨w.heap.size+1+1,2,none⟩=some (.string g2)∧(cw w s g0 g1 g2 g3 pos).cell? ⟨w.heap.size+1+1,3,none⟩=some (.string g3):=by
 unfold cw World.iter;simp[go_sem]
theorem uG(w:World)(s g0 g1 g2 g3:ByteArray)(pos j:Nat):(cw w s g0 g1 g2 g3 pos).frozen? ⟨w.heap.size+1+1,j,none⟩=false:=by
 unfold cw World.iter;simp[go_sem]
theorem uF(w:World)(s g0 g1 g2 g3 x:ByteArray)(pos:Nat):(cw w s g0 g1 g2 g3 pos).setCell ⟨w.heap.size+1+1,0,none⟩ (.string x)=cw w s x g1 g2 g3 pos:=by
 unfold cw World.iter;simp[go_sem]
theorem t_(w:World)(s g0 g1 g2 g3 x:ByteArray)(pos:Nat):(cw w s g0 g1 g2 g3 pos).setCell ⟨w.heap.size+1+1,1,none⟩ (.string x)=cw w s g0 x g2 g3 pos:=by
 unfold cw World.iter;simp[go_sem]
theorem tq(w:World)(s g0 g1 g2 g3 x:ByteArray)(pos:Nat):(cw w s g0 g1 g2 g3 pos).setCell ⟨w.heap.size+1+1,2,none⟩ (.string x)=cw w s g0 g1 x g3 pos:=by
 unfold cw World.iter;simp[go_sem]
theorem Uy(w:World)(g0 g1 g2 g3:ByteArray):(((w.alloc (.cells #[.string ⟨#[]⟩,.string ⟨#[]⟩,.string ⟨#[]⟩,.string ⟨#[]⟩] 346)).alloc (.cells #[.int .i32 62,.int .i32 58,.int .i32 35] 355)).alloc (.cells #[.string g0,.string g1,.string g2,.string g3] 346)).heap.size=w.heap.size+1+1+1:=by simp
theorem Im(w:World)(s g0 g1 g2 g3:ByteArray)(pos:Nat)(h:pos<s.size)(ty:TypeId):(Instr.next (.pointer (some ⟨w.heap.size+1+1+1,0,none⟩)) true ty).run Tryz.prog (cw w s g0 g1 g2 g3 pos)= .ok (.tuple #[.bool true,.int .i64 pos,.int .i32 (Utf8.decode s pos).1]) (cw w s g0 g1 g2 g3 (pos+(Utf8.decode s pos).2)):=by
 have:=run_next_any (P:=Tryz.prog) (((w.alloc (.cells #[.string ⟨#[]⟩,.string ⟨#[]⟩,.string ⟨#[]⟩,.string ⟨#[]⟩] 346)).alloc (.cells #[.int .i32 62,.int .i32 58,.int .i32 35] 355)).alloc (.cells #[.string g0,.string g1,.string g2,.string g3] 346)) s pos ty h;rw[Uy]at this;exact this
theorem yI(w:World)(s g0 g1 g2 g3:ByteArray)(pos:Nat)(h:¬pos<s.size)(ty:TypeId):(Instr.next (.pointer (some ⟨w.heap.size+1+1+1,0,none⟩)) true ty).run Tryz.prog (cw w s g0 g1 g2 g3 pos)= .ok (.tuple #[.bool false]) (cw w s g0 g1 g2 g3 pos):=by
 have:=run_next_end (P:=Tryz.prog) (((w.alloc (.cells #[.string ⟨#[]⟩,.string ⟨#[]⟩,.string ⟨#[]⟩,.string ⟨#[]⟩] 346)).alloc (.cells #[.int .i32 62,.int .i32 58,.int .i32 35] 355)).alloc (.cells #[.string g0,.string g1,.string g2,.string g3] 346)) s pos ty h;rw[Uy]at this;exact this
theorem yH(w:World)(s g0 g1 g2 g3:ByteArray)(pos:Nat):(cw w s g0 g1 g2 g3 pos).iterPos (w.heap.size+1+1+1)=pos:=by
 rw[←Uy w g0 g1 g2 g3];exact World.iterPos_iter _ _ _
def gs(l:List UInt8):Nat→ByteArray×ByteArray×ByteArray×ByteArray
 |0=>(⟨#[]⟩,⟨#[]⟩,⟨#[]⟩,⟨#[]⟩)
 |1=>(Bj (f0 l),⟨#[]⟩,⟨#[]⟩,⟨#[]⟩)
 |2=>(Bj (f0 l),Bj (f1 l),⟨#[]⟩,⟨#[]⟩)
 |_=>(Bj (f0 l),Bj (f1 l),Bj (f2 l),⟨#[]⟩)
def AEU(s:ByteArray)(w:World)(a f:Value)(wr:World):Prop:=∃pos k n:Nat,k≤3∧n≤pos∧n≤s.size∧a= .int .i64 k∧f= .int .i64 n∧yj s pos k n∧wr=cw w s (gs s.data.toList k).1 (gs s.data.toList k).2.1 (gs s.data.toList k).2.2.1 (gs s.data.toList k).2.2.2 pos
theorem uJ(s:ByteArray)(w:World)(hs:s.size≤33554432):
 Calls Tryz.prog 294 #[.string s] w fun e w'=>e= .returned (.agg #[.string (Bj (f0 s.data.toList)),.string (Bj (f1 s.data.toList)),.string (Bj (f2 s.data.toList)),.string (Bj (f3 s.data.toList))])∧Below w.heap.size w w':=by
 go_enter Tryz.func294,Tryz.ntmps294
 go_wp2
 go_loopw [5,6] (fun a f wr=>AEU s w a f wr) (fun _ _ wr=>s.size-wr.iterPos (w.heap.size+1+1+1))
 case atStart=>exact⟨0,0,0,by omega,by omega,by omega,rfl,rfl,kJ s,rfl⟩
 case round=>
  obtain⟨pos,k,n,hk,hnp,hns,rfl,rfl,hc,rfl⟩:=hrel;by_cases hp:pos<s.size
  ·have hps:pos≤s.size:=by omega
   have hwd:1≤(Utf8.decode s pos).2:=by
    by_cases ha:s[pos].toNat<128
    ·rw[decode_ascii s pos hp ha];exact Nat.le_refl _
    exact(decode_high s pos hp (by omega)).2
   have hm0:=fun g0 g1 g2 g3 p=>(Q0 w s g0 g1 g2 g3 p).1;have hm1:=fun g0 g1 g2 g3 p=>(Q0 w s g0 g1 g2 g3 p).2.1;have hm2:=fun g0 g1 g2 g3 p=>(Q0 w s g0 g1 g2 g3 p).2.2;have hc0:=fun g0 g1 g2 g3 p=>(Q3 w s g0 g1 g2 g3 p).1;have hc1:=fun g0 g1 g2 g3 p=>(Q3 w s g0 g1 g2 g3 p).2.1;have hc2:=fun g0 g1 g2 g3 p=>(Q3 w s g0 g1 g2 g3 p).2.2.1;have hz:=uG w s;have hs0:=uF w s;have hs1:=t_ w s;have hs2:=tq w s;have hmp:=yH w s;have hcase:k=0∨k=1∨k=2∨k=3:=by omega
   rcases hcase with rfl|rfl|rfl|rfl
   ·by_cases hb:s[pos]=YD 0
    ·have hnx:=fun g0 g1 g2 g3 ty=>Im w s g0 g1 g2 g3 pos hp ty;have hde:Utf8.decode s pos=(62,1):=by rw[decode_ascii s pos hp (by rw[hb];decide),hb];rfl
     rw[hde]at hnx;have HH:=hide (U7 hc hp (by omega) hb);have hint:((62:Nat):Int)=62:=rfl;simp only[hint]at hnx;simp only[gs];clear hc hb hde hwd;go_wp2
     go_roundw
     case rel=>
      refine⟨pos+1,1,pos+1,by omega,by omega,by omega,by go_num,by go_num,HH.out.2,?_⟩;rw[HH.out.1];rfl
     case measure=>rw[hmp,hmp];omega
    have hnx:=fun g0 g1 g2 g3 ty=>Im w s g0 g1 g2 g3 pos hp ty;have HM:=hide (MW hc hp (fun _=>hb))
    have hne:(((Utf8.decode s pos).1:Int)==62)=false:=by
     by_cases ha:s[pos].toNat<128
     ·rw[decode_ascii s pos hp ha];have:s[pos].toNat≠62:=fun e=>hb (UInt8.toNat_inj.1 e);simp;omega
     have:=(decode_high s pos hp (by omega)).1;simp;omega
    have hle:(Utf8.decode s pos).1≤2147483647:=decode_le s pos;simp only[gs];generalize (Utf8.decode s pos).1=r at *;generalize (Utf8.decode s pos).2=v at *;clear hc hb;go_wp2
    go_roundw
    case rel=>exact⟨pos+v,0,n,by omega,by omega,by omega,by go_num,rfl,HM.out,rfl⟩
    case measure=>rw[hmp,hmp];omega
   ·by_cases hb:s[pos]=YD 1
    ·have hnx:=fun g0 g1 g2 g3 ty=>Im w s g0 g1 g2 g3 pos hp ty;have hde:Utf8.decode s pos=(58,1):=by rw[decode_ascii s pos hp (by rw[hb];decide),hb];rfl
     rw[hde]at hnx;have HH:=hide (U7 hc hp (by omega) hb);have hint:((58:Nat):Int)=58:=rfl;simp only[hint]at hnx;simp only[gs];clear hc hb hde hwd;go_wp2
     go_roundw
     case rel=>
      refine⟨pos+1,2,pos+1,by omega,by omega,by omega,by go_num,by go_num,HH.out.2,?_⟩;rw[HH.out.1];rfl
     case measure=>rw[hmp,hmp];omega
    have hnx:=fun g0 g1 g2 g3 ty=>Im w s g0 g1 g2 g3 pos hp ty;have HM:=hide (MW hc hp (fun _=>hb))
    have hne:(((Utf8.decode s pos).1:Int)==58)=false:=by
     by_cases ha:s[pos].toNat<128
     ·rw[decode_ascii s pos hp ha];have:s[pos].toNat≠58:=fun e=>hb (UInt8.toNat_inj.1 e);simp;omega
     have:=(decode_high s pos hp (by omega)).1;simp;omega
    have hle:(Utf8.decode s pos).1≤2147483647:=decode_le s pos;simp only[gs];generalize (Utf8.decode s pos).1=r at *;generalize (Utf8.decode s pos).2=v at *;clear hc hb;go_wp2
    go_roundw
    case rel=>exact⟨pos+v,1,n,by omega,by omega,by omega,by go_num,rfl,HM.out,rfl⟩
    case measure=>rw[hmp,hmp];omega
   ·by_cases hb:s[pos]=YD 2
    ·have hnx:=fun g0 g1 g2 g3 ty=>Im w s g0 g1 g2 g3 pos hp ty;have hde:Utf8.decode s pos=(35,1):=by rw[decode_ascii s pos hp (by rw[hb];decide),hb];rfl
     rw[hde]at hnx;have HH:=hide (U7 hc hp (by omega) hb);have hint:((35:Nat):Int)=35:=rfl;simp only[hint]at hnx;simp only[gs];clear hc hb hde hwd;go_wp2
     go_roundw
     case rel=>
      refine⟨pos+1,3,pos+1,by omega,by omega,by omega,by go_num,by go_num,HH.out.2,?_⟩;rw[HH.out.1];rfl
     case measure=>rw[hmp,hmp];omega
    have hnx:=fun g0 g1 g2 g3 ty=>Im w s g0 g1 g2 g3 pos hp ty;have HM:=hide (MW hc hp (fun _=>hb))
    have hne:(((Utf8.decode s pos).1:Int)==35)=false:=by
     by_cases ha:s[pos].toNat<128
     ·rw[decode_ascii s pos hp ha];have:s[pos].toNat≠35:=fun e=>hb (UInt8.toNat_inj.1 e);simp;omega
     have:=(decode_high s pos hp (by omega)).1;simp;omega
    have hle:(Utf8.decode s pos).1≤2147483647:=decode_le s pos;simp only[gs];generalize (Utf8.decode s pos).1=r at *;generalize (Utf8.decode s pos).2=v at *;clear hc hb;go_wp2
    go_roundw
    case rel=>exact⟨pos+v,2,n,by omega,by omega,by omega,by go_num,rfl,HM.out,rfl⟩
    case measure=>rw[hmp,hmp];omega
   have hnx:=fun g0 g1 g2 g3 ty=>Im w s g0 g1 g2 g3 pos hp ty;have HM:=hide (MW hc hp (fun h=>by omega));simp only[gs];generalize (Utf8.decode s pos).1=r at *;generalize (Utf8.decode s pos).2=v at *;clear hc;go_wp2
   go_roundw
   case rel=>exact⟨pos+v,3,n,by omega,by omega,by omega,by go_num,rfl,HM.out,rfl⟩
   case measure=>rw[hmp,hmp];omega
  have HE:=hide (uV hc hp);have hnx:=fun g0 g1 g2 g3 ty=>yI w s g0 g1 g2 g3 pos hp ty;have hcase:k=0∨k=1∨k=2∨k=3:=by omega
  rcases hcase with rfl|rfl|rfl|rfl
  ·simp only[gs];unfold cw World.iter;unfold cw World.iter at hnx;clear hc;go_wp2;refine bodyPost_ret (v:= .agg #[.string (s.extract n s.size),.string ⟨#[]⟩,.string ⟨#[]⟩,.string ⟨#[]⟩]) (by simp[results,Tryz.results294,go_sem]) rfl ?_;refine⟨?_,((((Below.refl _ _).alloc Af _).alloc (by simp) _).alloc (by simp;omega) _).alloc (by simp;omega) _⟩;obtain⟨x0,x1⟩:=HE.out;rw[x0];obtain⟨x2,x3⟩:=x1 (by omega);simp only[YA,YD]at x2 x3;simp only[YA,f0,f1,f2,f3,x2,x3,l9,Mx];rfl
  ·simp only[gs];unfold cw World.iter;unfold cw World.iter at hnx;clear hc;go_wp2;refine bodyPost_ret (v:= .agg #[.string (Bj (f0 s.data.toList)),.string (s.extract n s.size),.string ⟨#[]⟩,.string ⟨#[]⟩]) (by simp[results,Tryz.results294,go_sem]) rfl ?_;refine⟨?_,((((Below.refl _ _).alloc Af _).alloc (by simp) _).alloc (by simp;omega) _).alloc (by simp;omega) _⟩;obtain⟨x0,x1⟩:=HE.out;rw[x0];obtain⟨x2,x3⟩:=x1 (by omega);simp only[YA,YD]at x2 x3;simp only[YA,f0,f1,f2,f3,x2,x3,l9,Mx];rfl
  ·simp only[gs];unfold cw World.iter;unfold cw World.iter at hnx;clear hc;go_wp2;refine bodyPost_ret (v:= .agg #[.string (Bj (f0 s.data.toList)),.string (Bj (f1 s.data.toList)),.string (s.extract n s.size),.string ⟨#[]⟩]) (by simp[results,Tryz.results294,go_sem]) rfl ?_;refine⟨?_,((((Below.refl _ _).alloc Af _).alloc (by simp) _).alloc (by simp;omega) _).alloc (by simp;omega) _⟩;obtain⟨x0,x1⟩:=HE.out;rw[x0];obtain⟨x2,x3⟩:=x1 (by omega);simp only[YA,YD]at x2 x3;simp only[YA,f0,f1,f2,f3,x2,x3];rfl
  simp only[gs];unfold cw World.iter;unfold cw World.iter at hnx;clear hc;go_wp2;refine bodyPost_ret (v:= .agg #[.string (Bj (f0 s.data.toList)),.string (Bj (f1 s.data.toList)),.string (Bj (f2 s.data.toList)),.string (s.extract n s.size)]) (by simp[results,Tryz.results294,go_sem]) rfl ?_;refine⟨?_,((((Below.refl _ _).alloc Af _).alloc (by simp) _).alloc (by simp;omega) _).alloc (by simp;omega) _⟩;obtain⟨x0,x1⟩:=HE.out;rw[x0];clear x1;rfl
end
end Go.Proofs.YtcjmcgolgbkknaaGreatDoor
namespace Go.Proofs
open Go.Shelf
def Tryz.lays172_ren:Go.Shelf.Ren:=⟨fun|172=>293|244=>301|245=>302|247=>306|279=>307|280=>308|281=>309|282=>310|287=>317|316=>188|171=>279|205=>318|321=>324|322=>325|243=>295|246=>303|283=>311|284=>312|285=>313|286=>314|129=>320|317=>319|318=>321|319=>322|320=>323|337=>326|338=>327|n=>n,fun|9=>9|3=>3|75=>195|76=>343|4=>4|5=>5|167=>357|37=>31|0=>0|85=>358|2=>2|168=>360|53=>364|175=>370|46=>336|210=>373|127=>269|145=>382|143=>380|21=>21|171=>363|173=>367|212=>376|51=>234|20=>20|213=>377|232=>384|233=>385|80=>271|n=>n,fun|15=>3|16=>4|17=>5|18=>6|19=>7|n=>n⟩
theorem Tryz.lays172:Go.Proofs.Lays.n172 Tryz.prog Tryz.lays172_ren:={
 mixed:=by kernel_rfl
 f129:=Tryz.func320.trans (congrArg some (by kernel_rfl))
 f171:=Tryz.func279.trans (congrArg some (by kernel_rfl))
 f172:=Tryz.func293.trans (congrArg some (by kernel_rfl))
 f205:=Tryz.func318.trans (congrArg some (by kernel_rfl))
 f243:=Tryz.func295.trans (congrArg some (by kernel_rfl))
 f244:=Tryz.func301.trans (congrArg some (by kernel_rfl))
 f245:=Tryz.func302.trans (congrArg some (by kernel_rfl))
 f246:=Tryz.func303.trans (congrArg some (by kernel_rfl))
 f247:=Tryz.func306.trans (congrArg some (by kernel_rfl))
 f279:=Tryz.func307.trans (congrArg some (by kernel_rfl))
 f280:=Tryz.func308.trans (congrArg some (by kernel_rfl))
 f281:=Tryz.func309.trans (congrArg some (by kernel_rfl))
 f282:=Tryz.func310.trans (congrArg some (by kernel_rfl))
 f283:=Tryz.func311.trans (congrArg some (by kernel_rfl))
 f284:=Tryz.func312.trans (congrArg some (by kernel_rfl))
 f285:=Tryz.func313.trans (congrArg some (by kernel_rfl))
 f286:=Tryz.func314.trans (congrArg some (by kernel_rfl))
 f287:=Tryz.func317.trans (congrArg some (by kernel_rfl))
 f316:=Tryz.func188.trans (congrArg some (by kernel_rfl))
 f317:=Tryz.func319.trans (congrArg some (by kernel_rfl))
 f318:=Tryz.func321.trans (congrArg some (by kernel_rfl))
 f319:=Tryz.func322.trans (congrArg some (by kernel_rfl))
 f320:=Tryz.func323.trans (congrArg some (by kernel_rfl))
 f321:=Tryz.func324.trans (congrArg some (by kernel_rfl))
 f322:=Tryz.func325.trans (congrArg some (by kernel_rfl))
 f337:=Tryz.func326.trans (congrArg some (by kernel_rfl))
 f338:=Tryz.func327.trans (congrArg some (by kernel_rfl))
 t0:=Tryz.underlying0
 a0:=Tryz.isAgg0
 z0:=Tryz.sizeOf0
 v0:=Tryz.zeroValue0
 t2:=Tryz.underlying2
 a2:=Tryz.isAgg2
 z2:=Tryz.sizeOf2
 v2:=Tryz.zeroValue2
 t3:=Tryz.underlying3
 a3:=Tryz.isAgg3
 z3:=Tryz.sizeOf3
 v3:=Tryz.zeroValue3
 t4:=Tryz.underlying4
 a4:=Tryz.isAgg4
 z4:=Tryz.sizeOf4
 v4:=Tryz.zeroValue4
 t5:=Tryz.underlying5
 a5:=Tryz.isAgg5
 z5:=Tryz.sizeOf5
 v5:=Tryz.zeroValue5
 t9:=Tryz.underlying9
 a9:=Tryz.isAgg9
 z9:=Tryz.sizeOf9
 v9:=Tryz.zeroValue9
 t20:=Tryz.underlying20
 a20:=Tryz.isAgg20
 z20:=Tryz.sizeOf20
 v20:=Tryz.zeroValue20
 t21:=Tryz.underlying21
 a21:=Tryz.isAgg21
 z21:=Tryz.sizeOf21
 v21:=Tryz.zeroValue21
 t37:=Tryz.underlying31
 a37:=Tryz.isAgg31
 z37:=Tryz.sizeOf31
 v37:=Tryz.zeroValue31
 t46:=Tryz.underlying336
 a46:=Tryz.isAgg336
 z46:=Tryz.sizeOf336
 v46:=Tryz.zeroValue336
 t51:=Tryz.underlying234
 a51:=Tryz.isAgg234
 z51:=Tryz.sizeOf234
 v51:=Tryz.zeroValue234
 t53:=Tryz.underlying364
 a53:=Tryz.isAgg364
 z53:=Tryz.sizeOf364
 v53:=Tryz.zeroValue364
 t75:=Tryz.underlying195
 a75:=Tryz.isAgg195
 z75:=Tryz.sizeOf195
 v75:=Tryz.zeroValue195
 t76:=Tryz.underlying343
 a76:=Tryz.isAgg343
 z76:=Tryz.sizeOf343
 v76:=Tryz.zeroValue343
 t85:=Tryz.underlying358
 a85:=Tryz.isAgg358
 z85:=Tryz.sizeOf358
 v85:=Tryz.zeroValue358
 t127:=Tryz.underlying269
 a127:=Tryz.isAgg269
 z127:=Tryz.sizeOf269
 v127:=Tryz.zeroValue269
 t143:=Tryz.underlying380
 a143:=Tryz.isAgg380
 z143:=Tryz.sizeOf380
 v143:=Tryz.zeroValue380
 t145:=Tryz.underlying382
 a145:=Tryz.isAgg382
 z145:=Tryz.sizeOf382
 v145:=Tryz.zeroValue382
 t167:=Tryz.underlying357
 a167:=Tryz.isAgg357
 z167:=Tryz.sizeOf357
 v167:=Tryz.zeroValue357
 t168:=Tryz.underlying360
 a168:=Tryz.isAgg360
 z168:=Tryz.sizeOf360
 v168:=Tryz.zeroValue360
 t171:=Tryz.underlying363
 a171:=Tryz.isAgg363
 z171:=Tryz.sizeOf363
 v171:=Tryz.zeroValue363
 t173:=Tryz.underlying367
 a173:=Tryz.isAgg367
 z173:=Tryz.sizeOf367
 v173:=Tryz.zeroValue367
 t175:=Tryz.underlying370
 a175:=Tryz.isAgg370
 z175:=Tryz.sizeOf370
 v175:=Tryz.zeroValue370
 t210:=Tryz.underlying373
 a210:=Tryz.isAgg373
 z210:=Tryz.sizeOf373
 v210:=Tryz.zeroValue373
 t212:=Tryz.underlying376
 a212:=Tryz.isAgg376
 z212:=Tryz.sizeOf376
 v212:=Tryz.zeroValue376
 t213:=Tryz.underlying377
 a213:=Tryz.isAgg377
 z213:=Tryz.sizeOf377
 t232:=Tryz.underlying384
 a232:=Tryz.isAgg384
 z232:=Tryz.sizeOf384
 v232:=Tryz.zeroValue384
 t233:=Tryz.underlying385
 a233:=Tryz.isAgg385
 z233:=Tryz.sizeOf385
 v233:=Tryz.zeroValue385
 g15:=by kernel_rfl
 g16:=by kernel_rfl
 g17:=by kernel_rfl
 g18:=by kernel_rfl
 g19:=by kernel_rfl }
open Go.RowKit in
theorem Tryz.strconv_Atoi(s:ByteArray)(n:Int)(hl:s.size≤18)(h:Lib.atoi s.data.toList=some n)(w:World):
 Calls Tryz.prog 293 #[.string s] w fun e w'=>e= .returned (.tuple #[.int .i64 n,.nilIface])∧∃t,w'=Lib.bytesWorld w 5 t:=Any.strconv_Atoi Tryz.lays172 s n hl h w
def Tryz.laysC172_ren:Go.Shelf.Ren:=⟨fun|172=>293|244=>301|245=>302|247=>306|279=>307|280=>308|281=>309|282=>310|287=>317|316=>188|171=>279|205=>318|321=>324|322=>325|243=>295|246=>303|283=>311|284=>312|285=>313|286=>314|129=>320|317=>319|318=>321|319=>322|320=>323|337=>326|338=>327|n=>n,fun|9=>9|3=>3|75=>195|76=>343|4=>4|5=>5|167=>357|37=>31|0=>0|85=>358|2=>2|168=>360|53=>364|175=>370|46=>336|210=>373|127=>269|145=>382|143=>380|21=>21|171=>363|173=>367|212=>376|51=>234|20=>20|213=>377|232=>384|233=>385|80=>271|n=>n,fun|15=>3|16=>4|17=>5|18=>6|19=>7|n=>n⟩
theorem Tryz.laysC172:Go.Proofs.LaysC.n172 Tryz.prog Tryz.laysC172_ren:={
 mixed:=by kernel_rfl
 f129:=Tryz.func320.trans (congrArg some (by kernel_rfl))
 f171:=Tryz.func279.trans (congrArg some (by kernel_rfl))
 f172:=Tryz.func293.trans (congrArg some (by kernel_rfl))
 f205:=Tryz.func318.trans (congrArg some (by kernel_rfl))
 f243:=Tryz.func295.trans (congrArg some (by kernel_rfl))
 f244:=Tryz.func301.trans (congrArg some (by kernel_rfl))
 f245:=Tryz.func302.trans (congrArg some (by kernel_rfl))
 f246:=Tryz.func303.trans (congrArg some (by kernel_rfl))
 f247:=Tryz.func306.trans (congrArg some (by kernel_rfl))
 f279:=Tryz.func307.trans (congrArg some (by kernel_rfl))
 f280:=Tryz.func308.trans (congrArg some (by kernel_rfl))
 f281:=Tryz.func309.trans (congrArg some (by kernel_rfl))
 f282:=Tryz.func310.trans (congrArg some (by kernel_rfl))
 f283:=Tryz.func311.trans (congrArg some (by kernel_rfl))
 f284:=Tryz.func312.trans (congrArg some (by kernel_rfl))
 f285:=Tryz.func313.trans (congrArg some (by kernel_rfl))
 f286:=Tryz.func314.trans (congrArg some (by kernel_rfl))
 f287:=Tryz.func317.trans (congrArg some (by kernel_rfl))
 f316:=Tryz.func188.trans (congrArg some (by kernel_rfl))
 f317:=Tryz.func319.trans (congrArg some (by kernel_rfl))
 f318:=Tryz.func321.trans (congrArg some (by kernel_rfl))
 f319:=Tryz.func322.trans (congrArg some (by kernel_rfl))
 f320:=Tryz.func323.trans (congrArg some (by kernel_rfl))
 f321:=Tryz.func324.trans (congrArg some (by kernel_rfl))
 f322:=Tryz.func325.trans (congrArg some (by kernel_rfl))
 f337:=Tryz.func326.trans (congrArg some (by kernel_rfl))
 f338:=Tryz.func327.trans (congrArg some (by kernel_rfl))
 t0:=Tryz.underlying0
 a0:=Tryz.isAgg0
 z0:=Tryz.sizeOf0
 v0:=Tryz.zeroValue0
 t2:=Tryz.underlying2
 a2:=Tryz.isAgg2
 z2:=Tryz.sizeOf2
 v2:=Tryz.zeroValue2
 t3:=Tryz.underlying3
 a3:=Tryz.isAgg3
 z3:=Tryz.sizeOf3
 v3:=Tryz.zeroValue3
 t4:=Tryz.underlying4
 a4:=Tryz.isAgg4
 z4:=Tryz.sizeOf4
 v4:=Tryz.zeroValue4
 t5:=Tryz.underlying5
 a5:=Tryz.isAgg5
 z5:=Tryz.sizeOf5
 v5:=Tryz.zeroValue5
 t9:=Tryz.underlying9
 a9:=Tryz.isAgg9
 z9:=Tryz.sizeOf9
 v9:=Tryz.zeroValue9
 t20:=Tryz.underlying20
 a20:=Tryz.isAgg20
 z20:=Tryz.sizeOf20
 v20:=Tryz.zeroValue20
 t21:=Tryz.underlying21
 a21:=Tryz.isAgg21
 z21:=Tryz.sizeOf21
 v21:=Tryz.zeroValue21
 t37:=Tryz.underlying31
 a37:=Tryz.isAgg31
 z37:=Tryz.sizeOf31
 v37:=Tryz.zeroValue31
 t46:=Tryz.underlying336
 a46:=Tryz.isAgg336
 z46:=Tryz.sizeOf336
 v46:=Tryz.zeroValue336
 t51:=Tryz.underlying234
 a51:=Tryz.isAgg234
 z51:=Tryz.sizeOf234
 v51:=Tryz.zeroValue234
 t53:=Tryz.underlying364
 a53:=Tryz.isAgg364
 z53:=Tryz.sizeOf364
 v53:=Tryz.zeroValue364
 t75:=Tryz.underlying195
 a75:=Tryz.isAgg195
 z75:=Tryz.sizeOf195
 v75:=Tryz.zeroValue195
 t76:=Tryz.underlying343
 a76:=Tryz.isAgg343
 z76:=Tryz.sizeOf343
 v76:=Tryz.zeroValue343
 t85:=Tryz.underlying358
 a85:=Tryz.isAgg358
 z85:=Tryz.sizeOf358
 v85:=Tryz.zeroValue358
 t127:=Tryz.underlying269
 a127:=Tryz.isAgg269
 z127:=Tryz.sizeOf269
 v127:=Tryz.zeroValue269
 t143:=Tryz.underlying380
 a143:=Tryz.isAgg380
 z143:=Tryz.sizeOf380
 v143:=Tryz.zeroValue380
 t145:=Tryz.underlying382
 a145:=Tryz.isAgg382
 z145:=Tryz.sizeOf382
 v145:=Tryz.zeroValue382
 t167:=Tryz.underlying357
 a167:=Tryz.isAgg357
 z167:=Tryz.sizeOf357
 v167:=Tryz.zeroValue357
 t168:=Tryz.underlying360
 a168:=Tryz.isAgg360
 z168:=Tryz.sizeOf360
 v168:=Tryz.zeroValue360
 t171:=Tryz.underlying363
 a171:=Tryz.isAgg363
 z171:=Tryz.sizeOf363
 v171:=Tryz.zeroValue363
 t173:=Tryz.underlying367
 a173:=Tryz.isAgg367
 z173:=Tryz.sizeOf367
 v173:=Tryz.zeroValue367
 t175:=Tryz.underlying370
 a175:=Tryz.isAgg370
 z175:=Tryz.sizeOf370
 v175:=Tryz.zeroValue370
 t210:=Tryz.underlying373
 a210:=Tryz.isAgg373
 z210:=Tryz.sizeOf373
 v210:=Tryz.zeroValue373
 t212:=Tryz.underlying376
 a212:=Tryz.isAgg376
 z212:=Tryz.sizeOf376
 v212:=Tryz.zeroValue376
 t213:=Tryz.underlying377
 a213:=Tryz.isAgg377
 z213:=Tryz.sizeOf377
 t232:=Tryz.underlying384
 a232:=Tryz.isAgg384
 z232:=Tryz.sizeOf384
 v232:=Tryz.zeroValue384
 t233:=Tryz.underlying385
 a233:=Tryz.isAgg385
 z233:=Tryz.sizeOf385
 v233:=Tryz.zeroValue385
 g15:=by kernel_rfl
 g16:=by kernel_rfl
 g17:=by kernel_rfl
 g18:=by kernel_rfl
 g19:=by kernel_rfl
 t80:=Tryz.underlying271
 a80:=Tryz.isAgg271
 z80:=Tryz.sizeOf271
 v80:=Tryz.zeroValue271
 i0:=by kernel_rfl
 i2:=by kernel_rfl
 i3:=by kernel_rfl
 i4:=by kernel_rfl
 i5:=by kernel_rfl
 i9:=by kernel_rfl
 i20:=by kernel_rfl
 i21:=by kernel_rfl
 i37:=by kernel_rfl
 i46:=by kernel_rfl
 i51:=by kernel_rfl
 i53:=by kernel_rfl
 i75:=by kernel_rfl
 i76:=by kernel_rfl
 i80:=by kernel_rfl
 i85:=by kernel_rfl
 i127:=by kernel_rfl
 i143:=by kernel_rfl
 i145:=by kernel_rfl
 i167:=by kernel_rfl
 i168:=by kernel_rfl
 i171:=by kernel_rfl
 i173:=by kernel_rfl
 i175:=by kernel_rfl
 i210:=by kernel_rfl
 i212:=by kernel_rfl
 i232:=by kernel_rfl
 i233:=by kernel_rfl
 m15:=by kernel_rfl
 m16:=by kernel_rfl
 m17:=by kernel_rfl
 m18:=by kernel_rfl
 m19:=by kernel_rfl
 c0:=by kernel_rfl
 c2:=by kernel_rfl
 c3:=by kernel_rfl
 c4:=by kernel_rfl
 c5:=by kernel_rfl
 c9:=by kernel_rfl
 c20:=by kernel_rfl
 c21:=by kernel_rfl
 c37:=by kernel_rfl
 c46:=by kernel_rfl
 c51:=by kernel_rfl
 c53:=by kernel_rfl
 c75:=by kernel_rfl
 c76:=by kernel_rfl
 c80:=by kernel_rfl
 c85:=by kernel_rfl
 c127:=by kernel_rfl
 c143:=by kernel_rfl
 c145:=by kernel_rfl
 c167:=by kernel_rfl
 c168:=by kernel_rfl
 c171:=by kernel_rfl
 c173:=by kernel_rfl
 c175:=by kernel_rfl
 c210:=by kernel_rfl
 c212:=by kernel_rfl
 c213:=by kernel_rfl
 c232:=by kernel_rfl
 c233:=by kernel_rfl }
open Go.RowKit in
theorem Tryz.strconv_Atoi_ok(s:ByteArray)(hmax:s.size≤9223372036854775806)(v:Int)(h:Lib.atoiAll s.data.toList= .ok v)(w:World):
 Calls Tryz.prog 293 #[.string s] w fun e w'=>e= .returned (.tuple #[.int .i64 v,.nilIface])∧(w'=w∨∃t,w'=Lib.bytesWorld w 5 t):=Any.strconv_Atoi_ok Tryz.laysC172 s hmax v h w
end Go.Proofs
namespace Go.Proofs.YtcjmcgolgbkknaaGreatDoor
section
open Go.RowKit
theorem Nj(w:World)(e:TypeId)(t:ByteArray):Below w.heap.size w (Lib.bytesWorld w e t):=Lib.bytesWorld_below w e t

theorem qL(s:ByteArray)(n:Nat)(w:World)(h:Hid (numOf s.data.toList=some n)):
 Calls Tryz.prog 293 #[.string s] w fun e w'=>e= .returned (.tuple #[.int .i64 n,.nilIface])∧Below w.heap.size w w':=by
 obtain⟨h1,h2⟩:=DN h.out;have hl:=Sy h.out;have hs:s.size≤18:=by simp at hl;omega
 refine(Tryz.strconv_Atoi s (n:Int) hs (by rw[←h2];exact X3 n) w).mono ?_;rintro e w' ⟨rfl,t,rfl⟩;exact⟨rfl,Nj _ _ _⟩

def vG(e:Ending):Prop:=(∃v:Int,e= .returned (.tuple #[.int .i64 v,.nilIface]))∨∃(v:Int)(t:TypeId)(x:Value),e= .returned (.tuple #[.int .i64 v,.iface t x])
theorem qM(s:ByteArray)(hs:s.size≤33554432)(w:World)(u1 u2:TypeId)(p1 p2:Value)(hy:w.cell? ⟨3,0,none⟩=some (.iface u1 p1))(hr:w.cell? ⟨4,0,none⟩=some (.iface u2 p2)):
 Calls Tryz.prog 293 #[.string s] w fun e w'=>vG e∧Below w.heap.size w w':=by
 cases h:Lib.atoiAll s.data.toList
 ·refine(Tryz.strconv_Atoi_ok s (by omega) _ h w).mono ?_;rintro e w' ⟨rfl,h1⟩;refine⟨.inl ⟨_,rfl⟩,?_⟩;rcases h1 with rfl|⟨t,rfl⟩
  ·exact Below.refl _ _
  exact Nj _ _ _
 ·refine Calls.mono (Any.strconv_Atoi_syntax Tryz.laysC172 s (by omega) h _ w hy (.inr ⟨_,_,rfl⟩)) ?_;rintro e w' ⟨N,rfl,_,_,hb⟩;exact⟨.inr ⟨_,_,_,rfl⟩,hb⟩
 refine Calls.mono (Any.strconv_Atoi_range Tryz.laysC172 s (by omega) h _ w hr (.inr ⟨_,_,rfl⟩)) ?_;rintro e w' ⟨N,rfl,_,_,hb⟩;exact⟨.inr ⟨_,_,_,rfl⟩,hb⟩
theorem gB(s:ByteArray)(k:Nat)(h:k<s.size):s.data.toList.take (k+1)=s.data.toList.take k++[s[k]]:=by
 rw[List.take_succ_eq_append_getElem (by simpa using h)];rfl
theorem Xx(s:ByteArray)(k:Nat)(h:k<s.size):s.data.toList[k]? =some s[k]:=by
 rw[List.getElem?_eq_getElem (by simpa using h)];rfl
theorem pO(s:ByteArray)(k n:Nat)(h:k<s.size)(hd:Lib.decFrom 0 (s.data.toList.take k)=some n)(h1:48≤s[k].toNat)(h2:s[k].toNat≤57):
 Lib.decFrom 0 (s.data.toList.take (k+1))=some (n*10+(s[k].toNat-48)):=
 Lib.decFrom_take s.data.toList k 0 n s[k] _ hd (Xx s k h) (by rw[Lib.digitVal,if_pos ⟨h1,h2⟩])
theorem Qh(s:ByteArray):s.data.toList.length=s.size:=by simp

theorem QE(s:ByteArray)(w:World)(hm:s.size≤maxLen)(h:s.size<1∨6<s.size):
 Calls Tryz.prog 203 #[.string s] w fun e w'=>e= .returned (.tuple #[.int .i64 0,.bool false])∧w'=w:=by
 unfold maxLen at hm;by_cases h1:s.size<1
 ·clear h;go_enter Tryz.func203,Tryz.ntmps203
  go_wp2
  go_ret2
  exact⟨rfl,rfl⟩
 have hd:decide ((s.size:Int)<1)=false:=by simp;omega
 have h2:6<s.size:=by omega
 clear h;go_enter Tryz.func203,Tryz.ntmps203
 go_wp2
 go_ret2
 exact⟨rfl,rfl⟩

theorem QD(s:ByteArray)(w:World)(h1:1≤s.size)(h6:s.size≤6):
 Calls Tryz.prog 203 #[.string s] w fun e w'=>e= .returned (.tuple #[.int .i64 (He (numOf s.data.toList)),.bool (numOf s.data.toList).isSome])∧Below w.heap.size w w':=by
 have hd:decide ((s.size:Int)<1)=false:=by simp;omega
 go_enter Tryz.func203,Tryz.ntmps203
 go_wp2
 go_loop [4,5] (fun y i=>∃k n:Nat,k≤s.size∧y= .int .i64 n∧i= .int .i64 k∧n<10 ^ k∧Hid (Lib.decFrom 0 (s.data.toList.take k)=some n)) (fun _ i=>s.size-(intOf i).toNat)
 case atStart=>exact⟨0,0,by omega,rfl,rfl,by simp,rfl⟩
 case round=>
  obtain⟨k,n,hk,rfl,rfl,hn,HD⟩:=hrel
  have hn6:n≤999999:=by
   have:10 ^ k≤10 ^ 6:=Nat.pow_le_pow_right (by omega) (by omega);omega
  by_cases hlt:k<s.size
  ·by_cases hb:48≤s[k].toNat∧s[k].toNat≤57
   ·have HS:=hide (pO s k n hlt HD.out hb.1 hb.2);have hb1:=hb.1;have hb2:=hb.2;have ADP:n*10+(s[k].toNat-48)<10 ^ (k+1):=by rw[Nat.pow_succ];omega
    clear hb;go_wp2
    go_round
    case rel=>exact⟨k+1,n*10+(s[k].toNat-48),by omega,by go_num,by go_num,ADP,HS⟩
    case measure=>simp[intOf];omega
   have HN:=hide (Nu (Xx s k hlt) (by omega));by_cases hb1:s[k].toNat<48
   ·clear hb;go_wp2
    go_ret2
    exact⟨by rw[HN.out];rfl,Below.refl _ _⟩
   have hb2:57<s[k].toNat:=by omega
   clear hb;go_wp2
   go_ret2
   exact⟨by rw[HN.out];rfl,Below.refl _ _⟩
  have hks:k=s.size:=by omega
  have HD':Hid (Lib.decFrom 0 s.data.toList=some n):=by
   have:=HD.out;rw[hks,List.take_of_length_le (by rw[Qh];omega)]at this;exact this
  clear HD;by_cases he:Lib.decDigits n=s.data.toList
  ·have HY:=hide (ik HD'.out hn6 he);have hs:(⟨(Lib.itoa (n:Int)).toArray⟩:ByteArray)=s:=by rw[IG,he]
   have HC:=hide fun w=>C9 (n:Int) w (by omega) (by omega);rw[hs]at HC;clear hs he;go_wp2_with fail
   refine(HC.out _).mono ?_;rintro e w1 ⟨rfl,b1⟩;go_wp2
   go_ret2
   exact⟨by rw[HY.out];rfl,b1⟩
  have HN:=hide (nW HD'.out he);have HC:=hide fun w=>C9 (n:Int) w (by omega) (by omega);obtain⟨t,ht⟩:∃t:ByteArray,t=⟨(Lib.itoa (n:Int)).toArray⟩:=⟨_,rfl⟩
  rw[←ht]at HC;have hne:t≠s:=by intro e;rw[ht,IG]at e;apply he;rw[←e]
  have hne':=D5 hne;clear ht he;go_wp2_with fail
  refine(HC.out _).mono ?_;rintro e w1 ⟨rfl,b1⟩;go_wp2
  go_ret2
  exact⟨by rw[HN.out];rfl,b1⟩

theorem JM(s:ByteArray)(w:World)(hm:s.size≤maxLen):
 Calls Tryz.prog 203 #[.string s] w fun e w'=>e= .returned (.tuple #[.int .i64 (He (numOf s.data.toList)),.bool (numOf s.data.toList).isSome])∧Below w.heap.size w w':=by
 by_cases h:s.size<1∨6<s.size
 ·refine(QE s w hm h).mono ?_;rintro e w' ⟨rfl,rfl⟩;exact⟨by rw[Qd (by rw[Qh];exact h)];rfl,Below.refl _ _⟩
 exact QD s w (by omega) (by omega)
theorem N9(p:Addr)(x:Bool)(u:TypeId)(pv:Value)(older:List PanicEntry)(w:World)(hc:w.cell? p=some (.bool x))(hz:w.frozen? p=false):
 CallsD Tryz.prog 260 #[.pointer (some p)] (.panicking ({ v:= .iface u pv,recovered:=false } :: older)) w fun e u' w'=>
  e= .returned (.tuple #[])∧u'= .panicking ({ v:= .iface u pv,recovered:=true } :: older)∧w'=w.setCell p (.bool false):=by
 refine callsD_of_wpS Tryz.func260 rfl fun c₀ cs hu=>?_
 apply wpS_seq
 apply wpS_region
 simp[wpOpsS,go_sem,recoverD,hu,Tryz.ntmps260,Exit.thenS];refine wpS_cond (t:=true) (by simp[Act.eval,Array.replicate]) ?_;simp only[if_true]
 apply wpS_region
 simp[wpOpsS,go_sem,hc,hz,bodyPostS,results,Tryz.results260]

theorem aO(p:Addr)(w:World):
 CallsD Tryz.prog 260 #[.pointer (some p)] .returning w fun e u' w'=>e= .returned (.tuple #[])∧u'= .returning∧w'=w:=by
 refine callsD_of_wpS Tryz.func260 rfl fun c₀ cs hu=>?_
 apply wpS_seq
 apply wpS_region
 simp[wpOpsS,go_sem,recoverD,hu,Tryz.ntmps260,Exit.thenS];refine wpS_cond (t:=false) (by simp[Act.eval,Array.replicate]) ?_;simp only[Bool.false_eq_true,if_false];refine wpS_of_wp (wp_skip ?_);cases c₀
 simp_all[bodyPostS,results,Tryz.results260]

theorem WU(g:FuncId)(cap:Array Value)(w:World)(R:World→Prop)(hcf:∀w,(callFunc g cap).run Tryz.prog w= .ok (.enter g cap) w)
 (h:Calls Tryz.prog g cap (w.alloc (.cells #[.bool false] 4)) fun e w'=>e= .returned (.tuple #[])∧R w'∧w'.cell? ⟨w.heap.size,0,none⟩=some (.bool false)∧w'.frozen? ⟨w.heap.size,0,none⟩=false):
 Calls Tryz.prog 240 #[.func (.func g) #[] cap] w fun e w'=>e= .returned (.bool true)∧∃w1,R w1∧w'=w1.setCell ⟨w.heap.size,0,none⟩ (.bool true):=by
 have hmf:∀(fn:Fn)(first cap:Array Value)(w:World),(Instr.makeFunc fn first cap).run Tryz.prog w= .ok (.func fn first cap) w:=fun _ _ _ _=>rfl
 go_enter_defers Tryz.func240,Tryz.ntmps240
 go_wp2_with fail
 refine h.mono ?_;rintro e w1 ⟨rfl,hR,hc,hz⟩;go_wp2;refine leaves_cons (f:=260) (args:= #[.pointer (some ⟨w.heap.size,0,none⟩)]) (by simp) (by simp[go_sem]) ?_;refine(aO ⟨w.heap.size,0,none⟩ _).mono ?_;rintro e u' w'' ⟨rfl,rfl,rfl⟩;simp[Leaves,settle,results,Tryz.results240,go_sem];exact⟨_,by rw[World.cell?_setCell_same _ _ _ hc],rfl,w1,hR,rfl⟩

theorem WV(g:FuncId)(cap:Array Value)(w:World)(R:World→Prop)(u:TypeId)(pv:Value)(hcf:∀w,(callFunc g cap).run Tryz.prog w= .ok (.enter g cap) w)
 (h:Calls Tryz.prog g cap (w.alloc (.cells #[.bool false] 4)) fun e w'=>e= .panicked [{ v:= .iface u pv,recovered:=false }]∧R w'∧w'.cell? ⟨w.heap.size,0,none⟩=some (.bool false)∧w'.frozen? ⟨w.heap.size,0,none⟩=false):
 Calls Tryz.prog 240 #[.func (.func g) #[] cap] w fun e w'=>e= .returned (.bool false)∧∃w1,R w1∧w'=w1.setCell ⟨w.heap.size,0,none⟩ (.bool false):=by
 have hmf:∀(fn:Fn)(first cap:Array Value)(w:World),(Instr.makeFunc fn first cap).run Tryz.prog w= .ok (.func fn first cap) w:=fun _ _ _ _=>rfl
 go_enter_defers Tryz.func240,Tryz.ntmps240
 go_wp2_with fail
 refine h.mono ?_;rintro e w1 ⟨rfl,hR,hc,hz⟩;go_wp2;refine leaves_cons (f:=260) (args:= #[.pointer (some ⟨w.heap.size,0,none⟩)]) (by simp) (by simp[go_sem]) ?_;refine(N9 ⟨w.heap.size,0,none⟩ false u pv [] _ hc hz).mono ?_;rintro e u' w'' ⟨rfl,rfl,rfl⟩;simp[Leaves,settle,results,Tryz.results240,go_sem];exact⟨_,by rw[World.cell?_setCell_same _ _ _ hc],rfl,w1,hR,rfl⟩
theorem Ns(s:ByteArray)(n:Nat)(w:World)(ht:Pow w)(h:Hid (numOf s.data.toList=some n)):
 Calls Tryz.prog 276 #[.string s] w fun e w'=>e= .returned (.int .i64 n)∧Below w.heap.size w w':=by
 obtain⟨h1,h2⟩:=DN h.out;have hs:(⟨(Lib.itoa (n:Int)).toArray⟩:ByteArray)=s:=by rw[IG,h2]
 have HA:=hide (qL s n w h);have HC:=hide fun w ht=>Es (n:Int) w (by omega) (by omega) ht;rw[hs]at HC;have HT:=hide ht;clear hs h2 ht;go_enter Tryz.func276,Tryz.ntmps276
 go_wp2_with fail
 refine HA.out.mono ?_;rintro e w1 ⟨rfl,b1⟩;have s1:=b1.size;have H1:=hide (HT.out.below b1);go_wp2_with fail
 refine(HC.out _ H1.out).mono ?_;rintro e w2 ⟨rfl,b2⟩;go_wp2;go_ret;exact⟨rfl,b1.trans (b2.mono s1)⟩

structure Env(w:World):Prop where
 pow:Pow w
 no:∃u pv,w.cell? ⟨1,0,none⟩=some (.iface u pv)
 syn:∃u pv,w.cell? ⟨3,0,none⟩=some (.iface u pv)
 ran:∃u pv,w.cell? ⟨4,0,none⟩=some (.iface u pv)
theorem Env.below{w w':World}(h:Env w)(hb:Below w.heap.size w w'):Env w':=by
 refine⟨h.pow.below hb,?_,?_,?_⟩
 ·obtain⟨u,pv,e⟩:=h.no;exact⟨u,pv,(hb.cell (AU e)).trans e⟩
 ·obtain⟨u,pv,e⟩:=h.syn;exact⟨u,pv,(hb.cell (AU e)).trans e⟩
 obtain⟨u,pv,e⟩:=h.ran;exact⟨u,pv,(hb.cell (AU e)).trans e⟩

theorem Nt(s:ByteArray)(hs:s.size≤33554432)(u:TypeId)(pv:Value)(w:World)(hE:Env w)(he:w.cell? ⟨1,0,none⟩=some (.iface u pv))(h:Hid (numOf s.data.toList=none)):
 Calls Tryz.prog 276 #[.string s] w fun e w'=>e= .panicked [{ v:= .iface u pv,recovered:=false }]∧Below w.heap.size w w':=by
 obtain⟨u1,p1,hy⟩:=hE.syn;obtain⟨u2,p2,hr⟩:=hE.ran;have HA:=hide (qM s hs w u1 u2 p1 p2 hy hr);have hlt:1<w.heap.size:=AU he;have HE:=hide hE;clear hE hy hr;go_enter Tryz.func276,Tryz.ntmps276
 go_wp2_with fail
 refine HA.out.mono ?_;rintro e w1 ⟨h1,b1⟩;have s1:=b1.size;have e1:=(b1.cell hlt).trans he;rcases h1 with⟨v,rfl⟩|⟨v,t,x,rfl⟩
 ·by_cases h0:v<0
  ·go_wp2;exact⟨rfl,rfl,b1⟩
  have hd0:decide (v<0)=false:=by simpa using h0
  by_cases h9:999999<v
  ·go_wp2;exact⟨rfl,rfl,b1⟩
  have hd9:decide (999999<v)=false:=by simpa using h9
  have H1:=hide (HE.out.below b1).pow;obtain⟨n,rfl⟩:=Int.eq_ofNat_of_zero_le (Int.not_lt.1 h0);obtain⟨r,hr⟩:∃r:ByteArray,r=⟨(Lib.itoa (n:Int)).toArray⟩:=⟨_,rfl⟩
  have hne:r≠s:=by
   intro e;rw[hr,IG]at e;have:=h.out;rw[←e]at this;rw[IE (by omega)]at this;cases this
  have hne':=D5 hne;have HC:=hide fun w ht=>Es (n:Int) w (by omega) (by omega) ht;rw[←hr]at HC;clear hr hne;go_wp2_with fail
  refine(HC.out _ H1.out).mono ?_;rintro e w2 ⟨rfl,b2⟩;have e2:=(b2.cell (Nat.lt_of_lt_of_le hlt s1)).trans e1;go_wp2;exact⟨rfl,rfl,b1.trans (b2.mono s1)⟩
 go_wp2;exact⟨rfl,rfl,b1⟩
end
end Go.Proofs.YtcjmcgolgbkknaaGreatDoor
