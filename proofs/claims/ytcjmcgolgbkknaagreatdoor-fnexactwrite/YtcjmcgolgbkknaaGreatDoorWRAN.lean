/- Lemmas; their conditions stand in each statement. -/
import Derived.Test.YtcjmcgolgbkknaaGreatDoorWRAM
import Derived.Test.YtcjmcgolgbkknaaGreatDoorWRAI
set_option maxRecDepth 100000
set_option maxHeartbeats 4000000
set_option linter.unusedSectionVars false
namespace Go.Proofs.YtcjmcgolgbkknaaGreatDoor
section
open Go.RowKit
variable [∀(a b c d:Int),Decidable (BK a b c d)] [∀(a b c d:Nat),Decidable (Dc a b c d)]
def Dv(x:T4):Prop:=BK x.1 x.2.1 x.2.2.1 x.2.2.2
variable [∀(x:T4),Decidable (Dv x)]
def UD(x:T4):ByteArray:=txt x.1 x.2.1 x.2.2.1 x.2.2.2
def NJ(xs:List T4):Nat→List UInt8
 |0=>[]
 |k+1=>(if 0<k then NJ xs k++[44]else NJ xs k)++(UD (xs.getD k (0,0,0,0))).data.toList
def Iz(xs:List T4):ByteArray:=if∀x ∈ xs,Dv x then Bj (NJ xs xs.length)else⟨#[]⟩
theorem UU{a b c d:Int}(h:BK a b c d):∃a' b' c' d':Nat,a=a'∧b=b'∧c=c'∧d=d':=by
 obtain⟨⟨a1,_⟩,⟨b1,_⟩,⟨c1,_⟩,⟨d1,_⟩⟩:=h;exact⟨a.toNat,b.toNat,c.toNat,d.toNat,by omega,by omega,by omega,by omega⟩
theorem lv(x:T4):(UD x).size≤27:=by
 unfold UD txt
 split
 ·rename_i h;obtain⟨a,b,c,d⟩:=x;obtain⟨⟨a1,a2⟩,⟨b1,b2⟩,⟨c1,c2⟩,⟨d1,d2⟩⟩:=h;simp only at *;have za:=G8 a (by omega) (by omega);have zb:=G8 b (by omega) (by omega);have zc:=G8 c (by omega) (by omega);have zd:=G8 d (by omega) (by omega);have o:∀c:UInt8,(⟨#[c]⟩:ByteArray).size=1:=fun _=>rfl;unfold fT dg;rw[ByteArray.size_append,ByteArray.size_append,ByteArray.size_append,ByteArray.size_append,ByteArray.size_append,ByteArray.size_append,o,o,o];omega
 exact Nat.zero_le _
theorem w_{x:T4}(h:Dv x):UD x≠⟨#[]⟩:=by
 unfold UD txt;obtain⟨a,b,c,d⟩:=x;show(if BK a b c d then fT a b c d else(⟨#[]⟩:ByteArray))≠_;rw[if_pos (show BK a b c d from h)];obtain⟨a',b',c',d',rfl,rfl,rfl,rfl⟩:=UU h;rw[Jb];intro e;have:=congrArg (fun s:ByteArray=>s.data.toList) e;exact lq a' b' c' d' this
theorem mg(s:ByteArray):s.data.toList.length=s.size:=by simp
theorem qV(xs:List T4)(k:Nat):(NJ xs k).length≤k*28:=by
 induction k with
 |zero=>simp[NJ]
 |succ k ih=>
  have:=lv (xs.getD k (0,0,0,0));have e:=mg (UD (xs.getD k (0,0,0,0)));rw[NJ]
  split<;>simp only[List.length_append,List.length_cons,List.length_nil,e]<;>omega
theorem y9{s:ByteArray}(hz:s≠⟨#[]⟩):(s.toList==[])=false:=by
 rw[beq_eq_false_iff_ne];intro e;apply hz;apply ByteArray.ext;apply Array.toList_inj.1;rw[ByteArray.toList_eq]at e;exact e
end
section

def Hq(s:ByteArray)(b:Int):Nat→List ByteArray×Nat
 |0=>([],0)
 |k+1=>if((s.data.toList.getD k 0).toNat:Int)=b then((Hq s b k).1++[s.extract (Hq s b k).2 k],k+1)else Hq s b k
theorem Ka(s:ByteArray)(b:Int)(k:Nat):(Hq s b k).2≤k∧(Hq s b k).1.length≤k:=by
 induction k with
 |zero=>simp[Hq]
 |succ k ih=>
  rw[Hq];split
  ·simp;omega
  omega
def Ae(s:ByteArray)(b:Int):List ByteArray:=(Hq s b s.size).1++[s.extract (Hq s b s.size).2 s.size]
theorem IY(s:ByteArray)(b:Int):(Ae s b).length≤s.size+1:=by
 have:=(Ka s b s.size).2;simp[Ae];omega
theorem Lp(s:ByteArray)(b:Int)(k:Nat)(h:k<s.size)(hb:(s[k].toNat:Int)=b):Hq s b (k+1)=((Hq s b k).1++[s.extract (Hq s b k).2 k],k+1):=by
 rw[Hq,if_pos];rw[←hb];have:s.data.toList.getD k 0=s[k]:=by rw[List.getD_eq_getElem?_getD,List.getElem?_eq_getElem (by simpa using h)];rfl
 rw[this]
theorem JO(s:ByteArray)(b:Int)(k:Nat)(h:k<s.size)(hb:(s[k].toNat:Int)≠b):Hq s b (k+1)=Hq s b k:=by
 rw[Hq,if_neg];have:s.data.toList.getD k 0=s[k]:=by rw[List.getD_eq_getElem?_getD,List.getElem?_eq_getElem (by simpa using h)];rfl
 rw[this];exact hb
end
section
open Go.RowKit
theorem Oe{B:Nat}{w wr w1:World}{v v':Value}{o:Obj}{xs:List ByteArray}{c:ByteArray}(hB:B≤wr.heap.size)(ho:OS wr B v xs)(hb:Below B w wr)
 (ho':w1.ownsRow B 9 1 v' (xs.length+1) (xs.map Value.string++[.string c])) (hg:(wr.alloc o).grownBy w1 v.ownBlock):
 OS w1 B v' (xs++[c])∧Below B w w1:=
 ⟨by unfold OS;simpa using ho',(hb.alloc hB o).grown hg (by simp;omega) (fun j hj=>(ho.lt j hj).1)⟩

theorem ext_size(s:ByteArray)(n k:Nat):(s.extract n k).size≤s.size:=by rw[ByteArray.size_extract];omega

theorem gX(s:ByteArray)(b:Int)(w:World)(hs:s.size≤33554432):
 Calls Tryz.prog 277 #[.string s,.int .u8 b] w fun e w'=>∃v,e= .returned v∧OS w' w.heap.size v (Ae s b)∧Below w.heap.size w w':=by
 obtain⟨i0,hi,hz0,hz1,hz2⟩:=info_parts Tryz.info9;go_enter Tryz.func277,Tryz.ntmps277
 go_wp2
 go_loopw [5,6,7] (fun v f i wr=>∃k n:Nat,k≤s.size∧n≤k∧i= .int .i64 k∧f= .int .i64 n∧Hid (n=(Hq s b k).2)∧OS wr w.heap.size v (Hq s b k).1∧Below w.heap.size w wr) (fun _ _ i _=>s.size-(intOf i).toNat)
 case atStart=>exact⟨0,0,by omega,by omega,rfl,rfl,rfl,World.ownsRow_nil _ _ _ _,Below.refl _ _⟩
 case round=>
  obtain⟨k,n,hk,hnk,rfl,rfl,HN,ho,hb⟩:=hrel;have hsz:=hb.size;have hpl:=(Ka s b k).2;by_cases hlt:k<s.size
  ·by_cases hbk:(s[k].toNat:Int)=b
   ·have hbk':((s[k].toNat:Int)==b)=true:=by simp[hbk]
    have HP:=hide (Lp s b k hlt hbk);clear hbk;go_wp2_with fail
    refine(Eg _ _ (by have:=ext_size s n k;omega)).mono ?_;rintro e w1 ⟨rfl,b1⟩;have s1:=b1.size;have ho1:=ho.below b1;have hb1:=hb.trans (b1.mono hsz);clear ho hb
    go_wp2_with (first
     |(at_builtin;refine wpList_append_own _ rfl _ _ 249 rfl w.heap.size 9 i0 (.string ⟨#[]⟩) 1 16 Tryz.underlying249 hi hz0 hz1 hz2 rfl (by decide) _ _ _ rfl (World.ownsRow.alloc ho1 _) ⟨w1.heap.size,0,none⟩ 1 1 [.string (s.extract n k)] rfl rfl (one_cell _ _ _) (Lt _) (by unfold maxLen;omega) (by omega) (by simp;omega) ?_;intro v' w2 ho' hg' _;have R:=Oe (by omega) ho1 hb1 ho' hg';clear ho1 ho' hg' hb1))
    go_roundw
    case rel=>exact⟨k+1,k+1,by omega,by omega,by go_num,by go_num,by rw[HP.out];rfl,by rw[HP.out,←HN.out];exact R.1,R.2⟩
    case measure=>simp[intOf];omega
   have hbk':((s[k].toNat:Int)==b)=false:=by simp[hbk]
   have HP:=hide (JO s b k hlt hbk);clear hbk;have HO:=hide ho;clear ho;go_wp2
   go_roundw
   case rel=>exact⟨k+1,n,by omega,by omega,by go_num,rfl,by rw[HP.out];exact HN,by rw[HP.out];exact HO.out,hb⟩
   case measure=>simp[intOf];omega
  have hks:k=s.size:=by omega
  have HA:Hid (Ae s b=(Hq s b k).1++[s.extract n s.size]):=by unfold Ae;rw[HN.out,hks];rfl
  clear hks;go_wp2_with fail
  refine(Eg _ _ (by have:=ext_size s n s.size;omega)).mono ?_;rintro e w1 ⟨rfl,b1⟩;have s1:=b1.size;have ho1:=ho.below b1;have hb1:=hb.trans (b1.mono hsz);clear ho hb
  go_wp2_with (first
   |(at_builtin;refine wpList_append_own _ rfl _ _ 249 rfl w.heap.size 9 i0 (.string ⟨#[]⟩) 1 16 Tryz.underlying249 hi hz0 hz1 hz2 rfl (by decide) _ _ _ rfl (World.ownsRow.alloc ho1 _) ⟨w1.heap.size,0,none⟩ 1 1 [.string (s.extract n s.size)] rfl rfl (one_cell _ _ _) (Lt _) (by unfold maxLen;omega) (by omega) (by simp;omega) ?_;intro v' w2 ho' hg' _;have R:=Oe (by omega) ho1 hb1 ho' hg';clear ho1 ho' hg' hb1))
  go_ret;exact⟨_,rfl,by rw[HA.out];exact R.1,R.2⟩
theorem J4(s:ByteArray)(b:Int)(w:World)(hs:s.size≤33554432):
 Calls Tryz.prog 201 #[.string s,.int .u8 b] w fun e w'=>∃v,e= .returned v∧OS w' w.heap.size v (Ae s b)∧Below w.heap.size w w':=by
 obtain⟨i0,hi,hz0,hz1,hz2⟩:=info_parts Tryz.info9;go_enter Tryz.func201,Tryz.ntmps201
 go_wp2
 go_loopw [5,6,7] (fun v f i wr=>∃k:Nat,k≤s.size+1∧i= .int .i64 k∧Below w.heap.size w wr∧((k≤s.size∧∃n:Nat,n≤k∧f= .int .i64 n∧Hid (n=(Hq s b k).2)∧OS wr w.heap.size v (Hq s b k).1)∨(k=s.size+1∧OS wr w.heap.size v (Ae s b)))) (fun _ _ i _=>s.size+1-(intOf i).toNat)
 case atStart=>exact⟨0,by omega,rfl,(Below.refl _ _).alloc Af _,.inl ⟨by omega,0,by omega,rfl,rfl,World.ownsRow_lit w #[] 0 Af (by unfold maxLen;omega) rfl⟩⟩
 case round=>
  obtain⟨k,hk,rfl,hb,hcase⟩:=hrel;have hsz:=hb.size;rcases hcase with⟨hks,n,hnk,rfl,HN,ho⟩|⟨rfl,ho⟩
  ·have hpl:=(Ka s b k).2;by_cases hlt:k<s.size
   ·have hke:((k:Int)==(s.size:Int))=false:=by simp;omega
    by_cases hbk:(s[k].toNat:Int)=b
    ·have hbk':((s[k].toNat:Int)==b)=true:=by simp[hbk]
     have HP:=hide (Lp s b k hlt hbk);clear hbk
     go_wp2_with (first
      |(at_builtin;refine wpList_append_own _ rfl _ _ 249 rfl w.heap.size 9 i0 (.string ⟨#[]⟩) 1 16 Tryz.underlying249 hi hz0 hz1 hz2 rfl (by decide) _ _ _ rfl (World.ownsRow.alloc ho _) ⟨wr.heap.size,0,none⟩ 1 1 [.string (s.extract n k)] rfl rfl (one_cell _ _ _) (Lt _) (by unfold maxLen;omega) (by omega) (by simp;omega) ?_;intro v' w2 ho' hg' _;have R:=Oe hsz ho hb ho' hg';clear ho ho' hg' hb))
     go_roundw
     case rel=>exact⟨k+1,by omega,by go_num,R.2,.inl ⟨by omega,k+1,by omega,by go_num,by rw[HP.out];rfl,by rw[HP.out,←HN.out];exact R.1⟩⟩
     case measure=>simp[intOf];omega
    have hbk':((s[k].toNat:Int)==b)=false:=by simp[hbk]
    have HP:=hide (JO s b k hlt hbk);clear hbk;have HO:=hide ho;clear ho;go_wp2
    go_roundw
    case rel=>exact⟨k+1,by omega,by go_num,hb,.inl ⟨by omega,n,by omega,rfl,by rw[HP.out];exact HN,by rw[HP.out];exact HO.out⟩⟩
    case measure=>simp[intOf];omega
   have yC:k=s.size:=by omega
   have hke:((k:Int)==(s.size:Int))=true:=by simp;omega
   have HA:Hid (Ae s b=(Hq s b k).1++[s.extract n k]):=by unfold Ae;rw[HN.out,yC];rfl
   have HK:=hide yC;clear yC
   go_wp2_with (first
    |(at_builtin;refine wpList_append_own _ rfl _ _ 249 rfl w.heap.size 9 i0 (.string ⟨#[]⟩) 1 16 Tryz.underlying249 hi hz0 hz1 hz2 rfl (by decide) _ _ _ rfl (World.ownsRow.alloc ho _) ⟨wr.heap.size,0,none⟩ 1 1 [.string (s.extract n k)] rfl rfl (one_cell _ _ _) (Lt _) (by unfold maxLen;omega) (by omega) (by simp;omega) ?_;intro v' w2 ho' hg' _;have R:=Oe hsz ho hb ho' hg';clear ho ho' hg' hb))
   go_roundw
   case rel=>exact⟨k+1,by omega,by go_num,R.2,.inr ⟨by rw[HK.out],by rw[HA.out];exact R.1⟩⟩
   case measure=>simp[intOf];omega
  have HO:=hide ho;clear ho;go_wp2;go_ret;exact⟨_,rfl,HO.out,hb⟩
end
section
open Go.RowKit
variable [∀(a b c d:Int),Decidable (BK a b c d)] [∀(a b c d:Nat),Decidable (Dc a b c d)]
def zg(q:Nat×Nat×Nat×Nat):T4:=(q.1,q.2.1,q.2.2.1,q.2.2.2)
def Cb:List ByteArray→Option (List T4)
 | []=>some []
 |p :: ps=>match DV p.data.toList with
  |some q=>(Cb ps).map (zg q :: ·)
  |none=>none
theorem Ip(ps:List ByteArray)(p:ByteArray):Cb (ps++[p])=(Cb ps).bind fun ys=>(DV p.data.toList).map fun q=>ys++[zg q]:=by
 induction ps with
 |nil=>rw[List.nil_append,Cb,Cb];cases DV p.data.toList<;>simp[Cb]
 |cons r ps ih=>
  rw[List.cons_append,Cb,Cb];cases DV r.data.toList with
  |none=>rfl
  |some q=>simp only[ih];cases Cb ps<;>cases DV p.data.toList<;>simp
theorem Q6{ps:List ByteArray}(k:Nat)(h:Cb (ps.take k)=none):Cb ps=none:=by
 rw[←List.take_append_drop k ps];generalize ps.drop k=r;generalize ps.take k=l at h
 induction l with
 |nil=>simp[Cb]at h
 |cons x l ih=>
  rw[List.cons_append,Cb];rw[Cb]at h;cases hx:DV x.data.toList with
  |none=>rfl
  |some q=>rw[hx]at h;simp at h;simp[ih h]
theorem Jc(ps:List ByteArray)(k:Nat)(hk:k<ps.length):ps.take (k+1)=ps.take k++[ps.getD k ByteArray.empty]:=by
 rw[List.take_succ_eq_append_getElem hk,List.getD_eq_getElem?_getD,List.getElem?_eq_getElem hk];rfl
def Cq(s:ByteArray):Option (List T4):=if s=⟨#[]⟩then some []else Cb (Ae s 44)
theorem nO(s:ByteArray)(b:Int)(k:Nat):∀p ∈ (Hq s b k).1,p.size≤s.size:=by
 induction k with
 |zero=>simp[Hq]
 | succ k ih=>
  rw[Hq];split
  ·intro p hp;rw[List.mem_append]at hp;rcases hp with hp|hp
   ·exact ih p hp
   simp at hp;rw[hp];exact ext_size s _ _
  exact ih
theorem KL(s:ByteArray)(b:Int):∀p ∈ Ae s b,p.size≤s.size:=by
 intro p hp;unfold Ae at hp;rw[List.mem_append]at hp;rcases hp with hp|hp
 ·exact nO s b _ p hp
 simp at hp;rw[hp];exact ext_size s _ _
theorem Qr{ps:List ByteArray}{k:Nat}(hk:k<ps.length):ps.getD k ByteArray.empty ∈ ps:=by
 rw[List.getD_eq_getElem?_getD,List.getElem?_eq_getElem hk];exact List.getElem_mem hk

theorem Tryz.infoTx:(Tryz.prog.info? 73).map (fun i=>(i.zero,i.size,i.bytes))=some (some (IV 0 0 0 0),4,32):=by kernel_rfl
theorem TJ(w:World)(x:T4)(t:TypeId)(j:Nat)(u:Value)(h:(Ep x)[j]? =some u):(w.alloc (.cells #[.int .i64 x.1,.int .i64 x.2.1,.int .i64 x.2.2.1,.int .i64 x.2.2.2] t)).cell? ((⟨w.heap.size,0,none⟩:Addr).add j)=some u:=by
 match j,h with
 |0,h=>simp[Ep]at h;subst h;simp[Addr.add]
 |1,h=>simp[Ep]at h;subst h;simp[Addr.add]
 |2,h=>simp[Ep]at h;subst h;simp[Addr.add]
 |3,h=>simp[Ep]at h;subst h;simp[Addr.add]
 |j+4,h=>simp[Ep]at h
theorem Qs(x:T4)(u:Value)(h:u ∈ Ep x):u.oneCell'=true:=by
 simp[Ep]at h;rcases h with rfl|rfl|rfl|rfl<;>rfl
theorem vT{w:World}{B B':Nat}{v u:Value}{ps:List ByteArray}{ys:List T4}(h:OS w B v ps)(h':OT w B' u ys):v.ownBlock=none∨v.ownBlock≠u.ownBlock:=by
 rcases h.2 with⟨rfl,_⟩|⟨g,cap,cur,rfl,_,hg,_⟩
 ·exact .inl rfl
 rcases h'.2 with⟨rfl,_⟩|⟨g',cap',cur',rfl,_,hg',_⟩
 ·exact .inr (by simp[Value.ownBlock])
 refine .inr fun e=>?_;simp[Value.ownBlock]at e;rw[e,hg']at hg;simp at hg
theorem di{B:Nat}{w wr w1:World}{v v':Value}{xs:List T4}{x:T4}(hB:B≤wr.heap.size)(ho:OT wr B v xs)(hb:Below B w wr)
 (ho':w1.ownsRow B 73 4 v' (xs.length+1) (Au xs++Ep x)) (hg:wr.grownBy w1 v.ownBlock):
 OT w1 B v' (xs++[x])∧Below B w w1:=
 ⟨by unfold OT;rw[D8,List.length_append];simpa[Au]using ho',hb.grown hg hB (fun j hj=>(ho.lt j hj).1)⟩
theorem os_alloc{w:World}{B:Nat}{v:Value}{xs:List ByteArray}(h:OS w B v xs)(o:Obj):OS (w.alloc o) B v xs:=World.ownsRow.alloc h o
theorem Ls{w:World}{B:Nat}{v:Value}{xs:List T4}(h:OT w B v xs)(o:Obj):OT (w.alloc o) B v xs:=World.ownsRow.alloc h o
theorem Og{w:World}{B g n cap:Nat}{ps:List ByteArray}(h:OS w B (.slice (some ⟨g,0,none⟩) n cap) ps)(hn:n=ps.length)(k:Nat)(hk:k<ps.length):w.cell? ⟨g,k,none⟩=some (.string (ps.getD k ByteArray.empty)):=by
 subst hn;rw[World.ownsRow.cellAt h k (by omega)];simp[List.getElem?_eq_getElem hk]

theorem jZ(s:ByteArray)(w:World)(hs:s.size≤33554432)(hE:Env w):
 Calls Tryz.prog 257 #[.string s] w fun e w'=>∃v,e= .returned (.tuple #[v,.bool (Cq s).isSome])∧OT w' w.heap.size v ((Cq s).getD [])∧Below w.heap.size w w':=by
 obtain⟨i0,hi,hz0,hz1,hz2⟩:=info_parts Tryz.infoTx;unfold Cq;by_cases hz:s=⟨#[]⟩
 ·rw[if_pos hz];subst hz;go_enter Tryz.func257,Tryz.ntmps257
  go_wp2
  go_ret2
  exact⟨_,rfl,World.ownsRow_nil _ _ _ _,Below.refl _ _⟩
 rw[if_neg hz];have hne:=D5 hz
 have hne2:(s.toList==[])=false:=by
  rw[beq_eq_false_iff_ne];intro e;apply hz;apply ByteArray.ext;apply Array.toList_inj.1;rw[ByteArray.toList_eq]at e;exact e
 have SP:=hide fun w=>gX s 44 w hs;have hpn:0<(Ae s 44).length:=by simp[Ae]
 have hpl:=IY s 44;have hpz:Hid (∀p ∈ Ae s 44,p.size≤33554432):=fun p hp=>Nat.le_trans (KL s 44 p hp) hs;generalize Ae s 44=ps at *;have HE:=hide hE;clear hE hz;go_enter Tryz.func257,Tryz.ntmps257
 go_wp2_with fail
 refine(SP.out _).mono ?_;rintro e w1 ⟨vp,rfl,op,b1⟩;rcases op.2 with⟨_,h0⟩|⟨gp,pc,AAb,rfl,_⟩
 ·omega
 have OP:=hide op;clear op SP;go_wp2
 go_loopw [4,14] (fun v i wr=>∃(k:Nat)(ys:List T4),k≤ps.length∧i= .int .i64 k∧ys.length=k∧Hid (Cb (ps.take k)=some ys)∧OT wr w.heap.size v ys∧OS wr w.heap.size (.slice (some ⟨gp,0,none⟩) ps.length pc) ps∧Below w.heap.size w wr) (fun _ i _=>ps.length-(intOf i).toNat)
 case atStart=>exact⟨0,[],by omega,rfl,rfl,rfl,World.ownsRow_nil _ _ _ _,OP.out,b1⟩
 case round=>
  obtain⟨k,ys,hk,rfl,hyl,HA,ho,hp,hb⟩:=hrel;have hsz:=hb.size;by_cases hlt:k<ps.length
  ·have hc:=Og hp rfl k hlt;have hm:=hpz.out _ (Qr hlt);have HT:=hide (Jc ps k hlt);have CT:=hide fun w hE=>oO (ps.getD k ByteArray.empty) w hm hE;have HB:=hide (And.intro ho (And.intro hp hb));clear ho hp hb hm;generalize ps.getD k ByteArray.empty=p at *;cases ht:DV p.data.toList with
   |none=>
    have HN:Hid (Cb ps=none):=Q6 (k+1) (by rw[HT.out,Ip,ht];cases Cb (ps.take k)<;>rfl);rw[ht]at CT;clear ht HT HA;go_wp2_with fail
    refine(CT.out _ (HE.out.below HB.out.2.2)).mono ?_;rintro e w2 ⟨rfl,b2⟩;have hw:Below w.heap.size w (w2.alloc (.cells #[.int .i64 0,.int .i64 0,.int .i64 0,.int .i64 0] 73)):=(HB.out.2.2.trans (b2.mono hsz)).alloc (by have:=b2.size;omega) _;unfold SL;go_wp2
    go_ret2
    exact⟨_,by rw[HN.out];rfl,by rw[HN.out];exact World.ownsRow_nil _ _ _ _,hw⟩
   | some q=>
    obtain⟨a,b,c,d⟩:=q
    have HN:Hid (Cb (ps.take (k+1))=some (ys++[((a:Int),(b:Int),(c:Int),(d:Int))])):=by
     show Cb _=_;rw[HT.out,Ip,HA.out,ht];rfl
    rw[ht]at CT;clear ht HT HA;go_wp2_with fail
    refine(CT.out _ (HE.out.below HB.out.2.2)).mono ?_;rintro e w2 ⟨rfl,b2⟩;obtain⟨ho,hp,hb⟩:=HB.out;have s2:=b2.size;have ho2:=Ls (Ls (ho.below b2) (.cells #[.int .i64 a,.int .i64 b,.int .i64 c,.int .i64 d] 73)) (.cells #[.int .i64 a,.int .i64 b,.int .i64 c,.int .i64 d] 73);have hp2:=os_alloc (os_alloc (hp.below b2) (.cells #[.int .i64 a,.int .i64 b,.int .i64 c,.int .i64 d] 73)) (.cells #[.int .i64 a,.int .i64 b,.int .i64 c,.int .i64 d] 73);have hb2:Below w.heap.size w ((w2.alloc (.cells #[.int .i64 a,.int .i64 b,.int .i64 c,.int .i64 d] 73)).alloc (.cells #[.int .i64 a,.int .i64 b,.int .i64 c,.int .i64 d] 73)):=((hb.trans (b2.mono hsz)).alloc (by omega) _).alloc (by simp;omega) _;have om:=vT hp2 ho2;clear ho hp hb HB b2 hc;unfold SL
    go_wp2_with (first
     |(at_builtin;refine wpList_append_own _ rfl _ _ 41 rfl w.heap.size 73 i0 (IV 0 0 0 0) 4 32 Tryz.underlying41 hi hz0 hz1 hz2 rfl (by decide) _ _ _ rfl ho2 ⟨w2.heap.size+1,0,none⟩ 1 1 (Ep ((a:Int),(b:Int),(c:Int),(d:Int))) rfl rfl (by have:=TJ (w2.alloc (.cells #[.int .i64 a,.int .i64 b,.int .i64 c,.int .i64 d] 73)) ((a:Int),(b:Int),(c:Int),(d:Int)) 73;simpa using this) (Qs _) (by unfold maxLen;omega) (by omega) (by simp;omega) ?_;intro v' w3 ho' hg' _;have R:=di (by simp;omega) ho2 hb2 ho' hg';have RP:OS w3 w.heap.size (.slice (some ⟨gp,0,none⟩) ps.length pc) ps:=World.ownsRow.kept hp2 hg' om;clear ho2 ho' hg' hb2 hp2 om))
    go_roundw
    case rel=>exact⟨k+1,_,by omega,by go_num,by simp[hyl],HN,R.1,RP,R.2⟩
    case measure=>simp[intOf];omega
  have hkn:k=ps.length:=by omega
  have HN:Hid (Cb ps=some ys):=by
   have:=HA.out;rw[hkn,List.take_of_length_le Af]at this;exact this
  have HO:=hide ho;clear ho hp HA;go_wp2
  go_ret2
  exact⟨_,by rw[HN.out];rfl,by rw[HN.out];exact HO.out,hb⟩
end
section
open Go.RowKit
variable [∀(a b c d:Int),Decidable (BK a b c d)] [∀(a b c d:Nat),Decidable (Dc a b c d)] [∀(x:T4),Decidable (Dv x)]
def AR(w:World)(ao:Option Addr)(xs:List T4):Prop:=
 xs=[]∨∃b off,ao=some ⟨b,off,none⟩∧∀k,k<xs.length→w.cell? ⟨b,off+k*4,none⟩=some (.int .i64 (xs.getD k (0,0,0,0)).1)∧w.cell? ⟨b,off+k*4+1,none⟩=some (.int .i64 (xs.getD k (0,0,0,0)).2.1)∧w.cell? ⟨b,off+k*4+2,none⟩=some (.int .i64 (xs.getD k (0,0,0,0)).2.2.1)∧w.cell? ⟨b,off+k*4+3,none⟩=some (.int .i64 (xs.getD k (0,0,0,0)).2.2.2)
theorem AR.below{w w':World}{ao:Option Addr}{xs:List T4}(h:AR w ao xs)(hb:Below w.heap.size w w'):AR w' ao xs:=by
 rcases h with h|⟨b,off,rfl,h⟩
 ·exact .inl h
 refine .inr ⟨b,off,rfl,fun k hk=>?_⟩;obtain⟨c0,c1,c2,c3⟩:=h k hk;have hg:b<w.heap.size:=AU c0;exact⟨(hb.cell (p:=⟨b,off+k*4,none⟩) hg).trans c0,(hb.cell (p:=⟨b,off+k*4+1,none⟩) hg).trans c1,(hb.cell (p:=⟨b,off+k*4+2,none⟩) hg).trans c2,(hb.cell (p:=⟨b,off+k*4+3,none⟩) hg).trans c3⟩
def J5(xs:List T4)(cs:List Value)(k:Nat):List Value:=Au (xs.take k)++cs.drop (k*4)
theorem iR(xs:List T4)(cs:List Value)(k:Nat)(hk:k<xs.length)(hc:cs.length=xs.length*4)(x:T4)(hx:xs.getD k (0,0,0,0)=x):
 ((((J5 xs cs k).set (k*4) (.int .i64 x.1)).set (k*4+1) (.int .i64 x.2.1)).set (k*4+2) (.int .i64 x.2.2.1)).set (k*4+3) (.int .i64 x.2.2.2)=J5 xs cs (k+1):=by
 unfold J5;have hp:(Au (xs.take k)).length=k*4:=by rw[FR,List.length_take];omega
 have ht:xs.take (k+1)=xs.take k++[x]:=by
  rw[List.take_succ_eq_append_getElem hk,←hx,List.getD_eq_getElem?_getD,List.getElem?_eq_getElem hk];rfl
 rw[ht,D8];generalize Au (xs.take k)=P at *;have hr:4≤(cs.drop (k*4)).length:=by rw[List.length_drop];omega
 have hd:cs.drop ((k+1)*4)=(cs.drop (k*4)).drop 4:=by rw[List.drop_drop];congr 1;omega
 rw[hd]
 match cs.drop (k*4),hr with
 |r0 :: r1 :: r2 :: r3 :: R,_=>
  rw[←hp];simp[List.set_append_right,Au,Ep]
theorem ZN(xs:List T4)(cs:List Value):J5 xs cs 0=cs:=by simp[J5,Au]
theorem iT(xs:List T4)(cs:List Value)(hc:cs.length=xs.length*4):J5 xs cs xs.length=Au xs:=by
 unfold J5;rw[List.take_of_length_le Af,List.drop_of_length_le (by omega)];simp

theorem fZ(ao:Option Addr)(ca:Nat)(xs:List T4)(w:World)(hl:xs.length≤1048577)(h:AR w ao xs):
 Calls Tryz.prog 35 #[.slice ao xs.length ca] w fun e w'=>∃v,e= .returned v∧OT w' w.heap.size v xs∧Below w.heap.size w w':=by
 obtain⟨i0,hi,hz0,hz1,hz2⟩:=info_parts Tryz.infoTx;go_enter Tryz.func35,Tryz.ntmps35
 go_wp2_with (first|(at_make;refine wpList_make_full _ rfl _ _ 41 rfl w.heap.size 73 i0 (IV 0 0 0 0) 4 Tryz.underlying41 hi hz0 hz1 .i64 .i64 _ _ xs.length rfl rfl rfl rfl (by rw[hz2];omega) (by unfold maxLen;omega) Af ?_;intro w0 ho0 hg0))
 have hcs:(madeCells (IV 0 0 0 0).cells (xs.length*4)).toList.length=xs.length*4:=by rw[Array.length_toList,size_madeCells]
 generalize (madeCells (IV 0 0 0 0).cells (xs.length*4)).toList=cs at *
 go_loopw [4] (fun i wr=>∃k:Nat,k≤xs.length∧i= .int .i64 k∧wr.ownsRow w.heap.size 73 4 (.slice (some ⟨w.heap.size,0,none⟩) xs.length xs.length) xs.length (J5 xs cs k)∧Below w.heap.size w wr) (fun i _=>xs.length-(intOf i).toNat)
 case atStart=>exact⟨0,Nat.zero_le _,rfl,by rw[ZN];exact ho0,(Below.refl _ _).grown hg0 Af (by simp)⟩
 case round=>
  clear ho0 hg0;obtain⟨k,hk,rfl,ho,br⟩:=hrel;by_cases hlt:k<xs.length
  ·rcases h with h|⟨b,off,rfl,h⟩
   ·subst h;simp at hlt
   obtain⟨a0,a1,a2,a3⟩:=h k hlt;have hg:b<w.heap.size:=AU a0;have c0:=(br.cell (p:=⟨b,off+k*4,none⟩) hg).trans a0;have c1:=(br.cell (p:=⟨b,off+k*4+1,none⟩) hg).trans a1;have c2:=(br.cell (p:=⟨b,off+k*4+2,none⟩) hg).trans a2;have c3:=(br.cell (p:=⟨b,off+k*4+3,none⟩) hg).trans a3;clear a0 a1 a2 a3 h;have wF:=br.size;obtain⟨x,hxk⟩:∃x,xs.getD k (0,0,0,0)=x:=⟨_,rfl⟩
   rw[hxk]at c0 c1 c2 c3;have HP:=hide (iR xs cs k hlt hcs x hxk);clear hxk;obtain⟨xa,xb,xc,xd⟩:=x;simp only at c0 c1 c2 c3
   have J6:(J5 xs cs k).length=xs.length*4:=by
    unfold J5;rw[List.length_append,FR,List.length_take,List.length_drop,hcs];omega
   have HO:=hide ho;clear ho;go_wp2_with fail
   refine(Vt xa xb xc xd _).mono ?_;rintro e w2 ⟨rfl,b2⟩;have s2:=b2.size;have ho2:=World.ownsRow.kept (row:=none) HO.out ⟨b2.os,b2.tape,b2.output,b2.size,fun k hk _=>b2.block k hk⟩ (by simp[Value.ownBlock]);have bw2:=br.trans (b2.mono wF)
   obtain⟨y0,y1,y2,y3⟩:(∃u,w2.cell? ⟨w.heap.size,k*4,none⟩=some u)∧(∃u,w2.cell? ⟨w.heap.size,k*4+1,none⟩=some u)∧(∃u,w2.cell? ⟨w.heap.size,k*4+2,none⟩=some u)∧(∃u,w2.cell? ⟨w.heap.size,k*4+3,none⟩=some u):=by
    have gt:∀j,j<xs.length*4→∃u,w2.cell? ⟨w.heap.size,j,none⟩=some u:=fun j hj=>⟨_,(ho2.cellAt j hj).trans (List.getElem?_eq_getElem (by rw[J6];exact hj))⟩
    exact⟨gt _ (by omega),gt _ (by omega),gt _ (by omega),gt _ (by omega)⟩
   obtain⟨u0,y0⟩:=y0;obtain⟨u1,y1⟩:=y1;obtain⟨u2,y2⟩:=y2;obtain⟨u3,y3⟩:=y3;have hfr:=ho2.frozenAt;have t0:=ho2.stored (k*4) (.int .i64 xa);have t1:=t0.1.stored (k*4+1) (.int .i64 xb);have t2:=t1.1.stored (k*4+2) (.int .i64 xc);have t3:=t2.1.stored (k*4+3) (.int .i64 xd);have H3:=hide t3.1;clear t0 t1 t2 t3 ho2 c0 c1 c2 c3;go_wp2
   go_roundw
   case rel=>exact⟨k+1,by omega,by go_num,by rw[←HP.out];exact H3.out,(((bw2.setCell Af _).setCell Af _).setCell Af _).setCell Af _⟩
   case measure=>simp[intOf];omega
  have hkn:k=xs.length:=by omega
  have HO:Hid (OT wr w.heap.size (.slice (some ⟨w.heap.size,0,none⟩) xs.length xs.length) xs):=by
   show OT _ _ _ _;unfold OT;rw[←iT xs cs hcs,←hkn];rw[←hkn]at ho;exact ho
  clear ho h;go_wp2;go_ret;exact⟨_,rfl,HO.out,br⟩
end
section
open Go.RowKit
variable [∀(a b c d:Int),Decidable (BK a b c d)]
def V3(k0 i:Nat):T4:=((k0:Int)+(i:Int)*4,(k0:Int)+(i:Int)*4+1,(k0:Int)+(i:Int)*4+2,(k0:Int)+(i:Int)*4+3)
def Cy(k0 n:Nat):List T4:=(List.range n).map (V3 k0)
theorem EP(k0 n:Nat):(Cy k0 n).length=n:=by simp[Cy]
theorem YZ(k0 n i:Nat)(h:i<n):(Cy k0 n).getD i (0,0,0,0)=V3 k0 i:=by simp[Cy,h]
theorem Vz(k0 n:Nat):Cy k0 (n+1)=Cy k0 n++[V3 k0 n]:=by simp[Cy,List.range_succ]
def FP(k0 k:Nat)(vs:List T4):List T4:=Cy k0 k++vs.drop k
theorem Vy(k0:Nat)(vs:List T4):FP k0 0 vs=vs:=by simp[FP,Cy]
theorem YY(k0:Nat)(vs:List T4):FP k0 vs.length vs=Cy k0 vs.length:=by simp[FP]
theorem Px(k0 k:Nat)(vs:List T4)(h:k≤vs.length):(FP k0 k vs).length=vs.length:=by simp[FP,EP];omega
theorem Yd(xs:List T4)(k:Nat)(x:T4)(hk:k<xs.length):((((Au xs).set (k*4) (.int .i64 x.1)).set (k*4+1) (.int .i64 x.2.1)).set (k*4+2) (.int .i64 x.2.2.1)).set (k*4+3) (.int .i64 x.2.2.2)=Au (xs.set k x):=by
 induction xs generalizing k with
 |nil=>simp at hk
 | cons y ys ih=>
  have e:∀z:T4,∀zs,Au (z :: zs)= .int .i64 z.1 :: .int .i64 z.2.1 :: .int .i64 z.2.2.1 :: .int .i64 z.2.2.2 :: Au zs:=fun z zs=>by simp[Au,Ep]
  cases k with
  |zero=>rw[e];simp[e]
  |succ k=>
   rw[e,List.set_cons_succ,e,←ih k (by simpa using hk)];rw[show(k+1)*4=k*4+1+1+1+1 from by omega];simp only[List.set_cons_succ]
theorem YX(k0 k:Nat)(vs:List T4)(h:k<vs.length):(FP k0 k vs).set k (V3 k0 k)=FP k0 (k+1) vs:=by
 unfold FP;rw[Vz,List.set_append_right _ _ (by simp[EP]),EP,Nat.sub_self,List.drop_eq_getElem_cons h,List.set_cons_zero];simp

theorem fu(base g n cap k0:Nat)(vs:List T4)(w:World)(hn:n≤4194304)(hk1:k0≤100000000)(hv:vs.length=n)(h:OT w base (.slice (some ⟨g,0,none⟩) n cap) vs):
 Calls Tryz.prog 47 #[.slice (some ⟨g,0,none⟩) n cap,.int .i64 k0] w fun e w'=>e= .returned (.int .i64 (k0+n*4))∧
  OT w' base (.slice (some ⟨g,0,none⟩) n cap) (Cy k0 n)∧w.grownBy w' (some g):=by
 have Hv:=hide hv;clear hv;go_enter Tryz.func47,Tryz.ntmps47
 go_wp2
 go_loopw [1,5] (fun c i wr=>∃k:Nat,k≤n∧i= .int .i64 k∧c= .int .i64 ((k0:Int)+(k:Int)*4)∧OT wr base (.slice (some ⟨g,0,none⟩) n cap) (FP k0 k vs)∧w.grownBy wr (some g)) (fun _ i _=>n-(intOf i).toNat)
 case atStart=>exact⟨0,Nat.zero_le _,rfl,by go_num,by rw[Vy];exact h,⟨rfl,rfl,rfl,Nat.le_refl _,fun _ _ _=>rfl⟩⟩
 case round=>
  obtain⟨k,hk,rfl,rfl,ho,hg⟩:=hrel;by_cases hlt:k<n
  ·have yB:k<vs.length:=by rw[Hv.out];exact hlt
   have hlen:(FP k0 k vs).length=n:=by rw[Px k0 k vs (by omega),Hv.out]
   have ho0:wr.ownsRow base 73 4 (.slice (some ⟨g,0,none⟩) n cap) n (Au (FP k0 k vs)):=by have:=ho;unfold OT at this;rw[hlen]at this;exact this
   obtain⟨y0,y1,y2,y3⟩:(∃u,wr.cell? ⟨g,k*4,none⟩=some u)∧(∃u,wr.cell? ⟨g,k*4+1,none⟩=some u)∧(∃u,wr.cell? ⟨g,k*4+2,none⟩=some u)∧(∃u,wr.cell? ⟨g,k*4+3,none⟩=some u):=by
    have gt:∀j,j<n*4→∃u,wr.cell? ⟨g,j,none⟩=some u:=fun j hj=>⟨_,(ho0.cellAt j hj).trans (List.getElem?_eq_getElem (by rw[FR,hlen];exact hj))⟩
    exact⟨gt _ (by omega),gt _ (by omega),gt _ (by omega),gt _ (by omega)⟩
   obtain⟨u0,y0⟩:=y0;obtain⟨u1,y1⟩:=y1;obtain⟨u2,y2⟩:=y2;obtain⟨u3,y3⟩:=y3;have hfr:=ho0.frozenAt;have t0:=ho0.stored (k*4) (.int .i64 ((k0:Int)+(k:Int)*4));have t1:=t0.1.stored (k*4+1) (.int .i64 ((k0:Int)+(k:Int)*4+1));have t2:=t1.1.stored (k*4+2) (.int .i64 ((k0:Int)+(k:Int)*4+2));have t3:=t2.1.stored (k*4+3) (.int .i64 ((k0:Int)+(k:Int)*4+3));have HO:=hide t3.1;have HG:=hide (Ef hg (Ef t0.2 (Ef t1.2 (Ef t2.2 t3.2))));have hlen':(FP k0 (k+1) vs).length=n:=by rw[Px k0 (k+1) vs (by omega),Hv.out]
   clear t0 t1 t2 t3 ho ho0 hg;go_wp2
   go_roundw
   case rel=>
    refine⟨k+1,by omega,by go_num,by go_num,?_,?_⟩
    ·unfold OT;rw[hlen',←YX k0 k vs yB,←Yd _ _ _ (by rw[hlen];exact hlt)];exact HO.out
    exact HG.out
   case measure=>simp[intOf];omega
  have hkn:k=n:=by omega
  have HO:Hid (OT wr base (.slice (some ⟨g,0,none⟩) n cap) (Cy k0 n)):=by
   have:=YY k0 vs;rw[Hv.out]at this;rw[←this,←hkn];rw[←hkn]at ho;exact ho
  clear ho;subst hkn;go_wp2;go_ret;exact⟨rfl,HO.out,hg⟩

theorem fw(v:Value)(n k0:Nat)(w:World)(hn:n≤4194304)(hk1:k0≤100000000)(h:RT w v (Cy k0 n)):
 Calls Tryz.prog 52 #[v,.int .i64 k0] w fun e w'=>e= .returned (.int .i64 (k0+n*4))∧Below w.heap.size w w':=by
 obtain⟨hl,ao,ca,rfl,ha⟩:=h;rw[EP]at hl ha⊢;go_enter Tryz.func52,Tryz.ntmps52
 go_wp2
 go_loopw [1,5] (fun c i wr=>∃k:Nat,k≤n∧i= .int .i64 k∧c= .int .i64 ((k0:Int)+(k:Int)*4)∧Below w.heap.size w wr) (fun _ i _=>n-(intOf i).toNat)
 case atStart=>exact⟨0,Nat.zero_le _,rfl,by go_num,Below.refl _ _⟩
 case round=>
  obtain⟨k,hk,rfl,rfl,hb⟩:=hrel;by_cases hlt:k<n
  ·rcases ha with ha|⟨b,rfl,ha⟩
   ·have:=congrArg List.length ha;rw[EP]at this;simp at this;omega
   obtain⟨a0,a1,a2,a3⟩:=ha k hlt;rw[YZ k0 n k hlt]at a0 a1 a2 a3;simp only[V3]at a0 a1 a2 a3;have hlb:b<w.heap.size:=AU a0;have c0:=(hb.cell (p:=⟨b,k*4,none⟩) hlb).trans a0;have c1:=(hb.cell (p:=⟨b,k*4+1,none⟩) hlb).trans a1;have c2:=(hb.cell (p:=⟨b,k*4+2,none⟩) hlb).trans a2;have c3:=(hb.cell (p:=⟨b,k*4+3,none⟩) hlb).trans a3;clear ha a0 a1 a2 a3;go_wp2
   go_roundw
   case rel=>exact⟨k+1,by omega,by go_num,by go_num,hb⟩
   case measure=>simp[intOf];omega
  have hkn:k=n:=by omega
  subst hkn;clear ha;go_wp2;go_ret;exact⟨rfl,hb⟩
end
section
open Go.RowKit
variable [∀(a b c d:Int),Decidable (BK a b c d)] [∀(a b c d:Nat),Decidable (Dc a b c d)] [∀(x:T4),Decidable (Dv x)]
theorem OT.kp{w w':World}{base:Nat}{X:Nat→Prop}{v:Value}{xs:List T4}(h:OT w base v xs)(k:Kp w w' X)(hv:∀k,v.ownBlock=some k→¬X k):OT w' base v xs:=by
 refine⟨h.1,?_⟩;rcases h.2 with hn|⟨g,cap,cur,rfl,hb,hgg,rest⟩
 ·exact .inl hn
 refine .inr ⟨g,cap,cur,rfl,hb,?_,rest⟩;rw[k.block g (Array.getElem?_eq_some_iff.1 hgg).1 (hv g rfl)];exact hgg
theorem OY(ao:Option Addr)(n ca:Nat)(left:Int)(w:World)(hn:(n:Int)≤left)(hl:left≤1048576):
 Calls Tryz.prog 26 #[.slice ao n ca,.int .i64 left] w fun e w'=>e= .returned (.int .i64 (left-n))∧w'=w:=by
 have hd:decide ((left:Int)-(n:Int)<0)=false:=by simp;omega
 go_enter Tryz.func26,Tryz.ntmps26
 go_wp2;go_ret;exact⟨rfl,rfl⟩
theorem xD(ao:Option Addr)(n ca:Nat)(left:Int)(w:World)(h0:0≤left)(hn:left<(n:Int))(hm:n≤9223372036854775807)(hl:left≤1048576):
 Calls Tryz.prog 26 #[.slice ao n ca,.int .i64 left] w fun e w'=>e= .returned (.int .i64 (-1))∧w'=w:=by
 have hd:decide ((left:Int)-(n:Int)<0)=true:=by simp;omega
 go_enter Tryz.func26,Tryz.ntmps26
 go_wp2;go_ret;exact⟨rfl,rfl⟩
theorem Yb(k0:Int)(w:World):
 Calls Tryz.prog 47 #[.slice none 0 0,.int .i64 k0] w fun e w'=>e= .returned (.int .i64 k0)∧w'=w:=by
 go_enter Tryz.func47,Tryz.ntmps47
 go_wp2;refine wp_loop_rounds 1 ?_;rw[rounds_succ];go_wp2;go_ret;exact⟨rfl,rfl⟩
end
section
open Go.RowKit
variable [∀(a b c d:Int),Decidable (BK a b c d)] [∀(n f:Int),Decidable (A9 n f)] [∀(a b c d:Nat),Decidable (Dc a b c d)] [∀(x:T4),Decidable (Dv x)]
structure Bv where
 id:Int
 vw:Int
 ak:Int
 vo:Int
 lo:Int
 n:Int
 s:ByteArray
 qw:List Int
 d:ByteArray
 pool:List T4
 tab:List Pt
 AY:List Int
 su:Int
 held:List Ck
abbrev FX(t:Bv)(a b c d e:Value):Value:= .agg #[.int .i64 t.id,.int .i64 t.vw,.int .i64 t.ak,.int .i64 t.vo,.int .i64 t.lo,.int .i64 t.n,.string t.s,a,.string t.d,b,c,d,.int .i64 t.su,e]
structure EI(w:World)(t:Bv)(a b c d e:Value):Prop where
 q:RI w a t.qw
 p:RT w b t.pool
 tb:PL w c t.tab
 d:RB w d t.AY
 h:K8 w e t.held
structure kT(w:World)(t:Bv)(a:Value)(bo:Option Addr)(c d e:Value):Prop where
 q:RI w a t.qw
 p:AR w bo t.pool
 tb:PL w c t.tab
 d:RB w d t.AY
 h:K8 w e t.held
theorem kT.below{w w':World}{t:Bv}{a:Value}{bo:Option Addr}{c d e:Value}(h:kT w t a bo c d e)(hb:Below w.heap.size w w'):kT w' t a bo c d e:=
 ⟨h.q.below hb,h.p.below hb,h.tb.below hb,h.d.below hb,h.h.below hb⟩
def Q7(w:World)(lo:Nat)(t:Bv)(a b c d e:Value):Prop:=∃s1 s2 s3 s4 vs,(lo≤s1∧s1≤s2∧s2≤s3∧s3≤s4∧s4≤w.heap.size)∧(OI w lo a t.qw∧∀j,a.ownBlock=some j→j<s1)∧(OT w s1 b t.pool∧∀j,b.ownBlock=some j→j<s2)∧Tg w s2 s3 c t.tab vs∧(OB w s3 d t.AY∧∀j,d.ownBlock=some j→j<s4)∧VX w s4 e t.held
theorem Q7.below{w w':World}{lo:Nat}{t:Bv}{a b c d e:Value}(h:Q7 w lo t a b c d e)(hb:Below w.heap.size w w'):Q7 w' lo t a b c d e:=by
 obtain⟨s1,s2,s3,s4,vs,hs,⟨a1,a2⟩,⟨b1,b2⟩,c1,⟨d1,d2⟩,e1⟩:=h;have:=hb.size;exact⟨s1,s2,s3,s4,vs,by omega,⟨a1.below hb,a2⟩,⟨b1.below hb,b2⟩,c1.below hb,⟨d1.below hb,d2⟩,e1.below hb⟩
theorem Q7.mono{w:World}{lo lo':Nat}{t:Bv}{a b c d e:Value}(h:Q7 w lo t a b c d e)(hl:lo'≤lo):Q7 w lo' t a b c d e:=by
 obtain⟨s1,s2,s3,s4,vs,hs,⟨a1,a2⟩,r⟩:=h;exact⟨s1,s2,s3,s4,vs,by omega,⟨a1.mono hl,a2⟩,r⟩
theorem OT.Bi{w:World}{base:Nat}{v:Value}{xs:List T4}(h:OT w base v xs):∃ao ca,v= .slice ao xs.length ca:=by
 rcases h.2 with⟨rfl,h0⟩|⟨g,cap,cur,rfl,_⟩
 ·exact⟨none,0,by rw[h0]⟩
 exact⟨_,_,rfl⟩
theorem Q7.form{w:World}{lo:Nat}{t:Bv}{a b c d e:Value}(h:Q7 w lo t a b c d e):∃ao ca bo cb co cc od cd oe ce,a= .slice ao t.qw.length ca∧b= .slice bo t.pool.length cb∧c= .slice co t.tab.length cc∧d= .slice od t.AY.length cd∧e= .slice oe t.held.length ce:=by
 obtain⟨s1,s2,s3,s4,vs,hs,⟨a1,a2⟩,⟨b1,b2⟩,c1,⟨d1,d2⟩,e1⟩:=h;obtain⟨ao,ca,rfl⟩:=a1.form;obtain⟨bo,cb,rfl⟩:=OT.Bi b1;obtain⟨co,cc,rfl⟩:=NK.form ⟨vs,c1.tab⟩;obtain⟨od,cd,rfl⟩:=d1.form;obtain⟨oe,ce,rfl⟩:=e1.form;exact⟨_,_,_,_,_,_,_,_,_,_,rfl,rfl,rfl,rfl,rfl⟩
structure J8(t:Bv):Prop where
 q:t.qw.length≤1048577
 p:t.pool.length≤1048577
 tb:t.tab.length≤1048577
 d:t.AY.length≤1048577
 h:t.held.length≤1048577
 tt:∀p ∈ t.tab,p.2.2.length≤4194304
 hh:∀j,j<t.held.length→(t.held.getD j AX).2.bw.length≤4194304∧(t.held.getD j AX).2.pw.length≤4194304∧(t.held.getD j AX).2.qw.length≤4194304
theorem Q7.Aq{w:World}{lo:Nat}{t:Bv}{a b c d e:Value}(h:Q7 w lo t a b c d e)(hs:J8 t):EI w t a b c d e:=by
 obtain⟨s1,s2,s3,s4,vs,_,⟨a1,_⟩,⟨b1,_⟩,c1,⟨d1,_⟩,e1⟩:=h;exact⟨a1.ri (by have:=hs.q;omega),b1.rt (by have:=hs.p;omega),c1.vQ hs.tt,d1.rb (by have:=hs.d;omega),e1.vR hs.hh⟩
theorem RB.Bi{w:World}{v:Value}{xs:List Int}(h:RB w v xs):∃ao ca,v= .slice ao xs.length ca:=by obtain⟨_,ao,ca,e,_⟩:=h;exact⟨ao,ca,e⟩
end
section
open Go.RowKit
def markT(k:Nat):ByteArray:=⟨(109 :: Lib.decDigits k).toArray⟩

theorem Bz(n:Nat)(w:World)(hn:0<n)(hm:n≤9223372036854775807):
 Calls Tryz.prog 109 #[.int .i64 n] w fun e w'=>e= .returned (.string (markT n))∧Below w.heap.size w w':=by
 have hcv:=UT;have hsz:=Qa;go_enter Tryz.func109,Tryz.ntmps109
 go_wp2
 go_loopw [0,3] (fun x s wr=>∃(m:Nat)(t:List UInt8),m≤9223372036854775807∧yg n m t∧x= .int .i64 m∧s= .string ⟨t.toArray⟩∧Below w.heap.size w wr) (fun x _ _=>(intOf x).toNat)
 case atStart=>exact⟨n,[],hm,M7 n (by omega),rfl,rfl,Below.refl _ _⟩
 case round=>
  obtain⟨m,t,hm',hd,rfl,rfl,hb⟩:=hrel;have AFs:=hd.2.1;by_cases h0:m=0
  ·subst h0;have HE:=hide (Ux hd (by omega));clear hd;go_wp2;go_ret;have HE':=HE.out;subst HE';exact⟨by apply congrArg Ending.returned;apply congrArg Value.string;apply ByteArray.ext;apply Array.toList_inj.1;simp[markT],hb⟩
  have hpos:0<m:=by omega
  obtain⟨hd',hl⟩:=Qz hd h0;have HD:=hide hd';clear hd hd';have hs0:=hb.size;have hmo:=Qb (m%10) t (by omega);have hbl:Below w.heap.size w (wr.alloc (.cells #[.int .u8 (48+(m:Int)%10)] 5)):=hb.alloc hs0 _;go_wp2
  go_roundw
  case rel=>exact⟨m/10,_,by omega,HD.out,by go_num,by rw[←hmo];rfl,hbl⟩
  case measure=>simp[intOf];omega
end
end Go.Proofs.YtcjmcgolgbkknaaGreatDoor
