/- Lemmas, as stated. -/
import Derived.Test.YtcjmcgolgbkknaaGreatDoorTAAM
import Derived.Test.YtcjmcgolgbkknaaGreatDoorTAAI
set_option maxRecDepth 100000
set_option maxHeartbeats 8000000
set_option linter.unusedSectionVars false
namespace Go.Proofs.YtcjmcgolgbkknaaGreatDoor
section
open Go.RowKit
theorem JR(s:ByteArray)(b:Int)(w:World)(hs:s.size≤33554432):
 Calls Tryz.prog 201 #[.string s,.int .u8 b] w fun e w'=>∃v,e= .returned v∧OS w' w.heap.size v (Ag s b)∧Below w.heap.size w w':=by
 obtain⟨i0,hi,hz0,hz1,hz2⟩:=info_parts Tryz.info9;go_enter Tryz.func201,Tryz.ntmps201
 go_wp2
 go_loopw [5,6,7] (fun v f i wr=>∃k:Nat,k≤s.size+1∧i= .int .i64 k∧Below w.heap.size w wr∧((k≤s.size∧∃n:Nat,n≤k∧f= .int .i64 n∧Hid (n=(Gt s b k).2)∧OS wr w.heap.size v (Gt s b k).1)∨(k=s.size+1∧OS wr w.heap.size v (Ag s b)))) (fun _ _ i _=>s.size+1-(intOf i).toNat)
 case atStart=>exact⟨0,by omega,rfl,(Below.refl _ _).alloc Ak _,.inl ⟨by omega,0,by omega,rfl,rfl,World.ownsRow_lit w #[] 0 Ak (by unfold maxLen;omega) rfl⟩⟩
 case round=>
  obtain⟨k,hk,rfl,hb,hcase⟩:=hrel;have hsz:=hb.size;rcases hcase with⟨hks,n,hnk,rfl,HN,ho⟩|⟨rfl,ho⟩
  ·have hpl:=(Jh s b k).2;by_cases hlt:k<s.size
   ·have hke:((k:Int)==(s.size:Int))=false:=by simp;omega
    by_cases hbk:(s[k].toNat:Int)=b
    ·have hbk':((s[k].toNat:Int)==b)=true:=by simp[hbk]
     have HP:=hide (KQ s b k hlt hbk);clear hbk
     go_wp2_with (first
      |(at_builtin;refine wpList_append_own _ rfl _ _ 249 rfl w.heap.size 9 i0 (.string ⟨#[]⟩) 1 16 Tryz.underlying249 hi hz0 hz1 hz2 rfl (by decide) _ _ _ rfl (World.ownsRow.alloc ho _) ⟨wr.heap.size,0,none⟩ 1 1 [.string (s.extract n k)] rfl rfl (one_cell _ _ _) (KX _) (by unfold maxLen;omega) (by omega) (by simp;omega) ?_;intro v' w2 ho' hg' _;have R:=M6 hsz ho hb ho' hg';clear ho ho' hg' hb))
     go_roundw
     case rel=>exact⟨k+1,by omega,by go_num,R.2,.inl ⟨by omega,k+1,by omega,by go_num,by rw[HP.out];rfl,by rw[HP.out,←HN.out];exact R.1⟩⟩
     case measure=>simp[intOf];omega
    have hbk':((s[k].toNat:Int)==b)=false:=by simp[hbk]
    have HP:=hide (Iq s b k hlt hbk);clear hbk;have HO:=hide ho;clear ho;go_wp2
    go_roundw
    case rel=>exact⟨k+1,by omega,by go_num,hb,.inl ⟨by omega,n,by omega,rfl,by rw[HP.out];exact HN,by rw[HP.out];exact HO.out⟩⟩
    case measure=>simp[intOf];omega
   have rX:k=s.size:=by omega
   have hke:((k:Int)==(s.size:Int))=true:=by simp;omega
   have HA:Hid (Ag s b=(Gt s b k).1++[s.extract n k]):=by unfold Ag;rw[HN.out,rX];rfl
   have HK:=hide rX;clear rX
   go_wp2_with (first
    |(at_builtin;refine wpList_append_own _ rfl _ _ 249 rfl w.heap.size 9 i0 (.string ⟨#[]⟩) 1 16 Tryz.underlying249 hi hz0 hz1 hz2 rfl (by decide) _ _ _ rfl (World.ownsRow.alloc ho _) ⟨wr.heap.size,0,none⟩ 1 1 [.string (s.extract n k)] rfl rfl (one_cell _ _ _) (KX _) (by unfold maxLen;omega) (by omega) (by simp;omega) ?_;intro v' w2 ho' hg' _;have R:=M6 hsz ho hb ho' hg';clear ho ho' hg' hb))
   go_roundw
   case rel=>exact⟨k+1,by omega,by go_num,R.2,.inr ⟨by rw[HK.out],by rw[HA.out];exact R.1⟩⟩
   case measure=>simp[intOf];omega
  have HO:=hide ho;clear ho;go_wp2;go_ret;exact⟨_,rfl,HO.out,hb⟩
end
section
open Go.RowKit
variable [∀(a b c d:Int),Decidable (BG a b c d)] [∀(a b c d:Nat),Decidable (DZ a b c d)]
def uU(q:Nat×Nat×Nat×Nat):T4:=(q.1,q.2.1,q.2.2.1,q.2.2.2)
def CJ:List ByteArray→Option (List T4)
 | []=>some []
 |p :: ps=>match DD p.data.toList with
  |some q=>(CJ ps).map (uU q :: ·)
  |none=>none
theorem IC(ps:List ByteArray)(p:ByteArray):CJ (ps++[p])=(CJ ps).bind fun ys=>(DD p.data.toList).map fun q=>ys++[uU q]:=by
 induction ps with
 |nil=>rw[List.nil_append,CJ,CJ];cases DD p.data.toList<;>simp[CJ]
 |cons r ps ih=>
  rw[List.cons_append,CJ,CJ];cases DD r.data.toList with
  |none=>rfl
  |some q=>simp only[ih];cases CJ ps<;>cases DD p.data.toList<;>simp
theorem Pg{ps:List ByteArray}(k:Nat)(h:CJ (ps.take k)=none):CJ ps=none:=by
 rw[←List.take_append_drop k ps];generalize ps.drop k=r;generalize ps.take k=l at h
 induction l with
 |nil=>simp[CJ]at h
 |cons x l ih=>
  rw[List.cons_append,CJ];rw[CJ]at h;cases hx:DD x.data.toList with
  |none=>rfl
  |some q=>rw[hx]at h;simp at h;simp[ih h]
theorem I_(ps:List ByteArray)(k:Nat)(hk:k<ps.length):ps.take (k+1)=ps.take k++[ps.getD k ByteArray.empty]:=by
 rw[List.take_succ_eq_append_getElem hk,List.getD_eq_getElem?_getD,List.getElem?_eq_getElem hk];rfl
def Ce(s:ByteArray):Option (List T4):=if s=⟨#[]⟩then some []else CJ (Ag s 44)
theorem iJ(s:ByteArray)(b:Int)(k:Nat):∀p ∈ (Gt s b k).1,p.size≤s.size:=by
 induction k with
 |zero=>simp[Gt]
 | succ k ih=>
  rw[Gt];split
  ·intro p hp;rw[List.mem_append]at hp;rcases hp with hp|hp
   ·exact ih p hp
   simp at hp;rw[hp];exact ext_size s _ _
  exact ih
theorem Jc(s:ByteArray)(b:Int):∀p ∈ Ag s b,p.size≤s.size:=by
 intro p hp;unfold Ag at hp;rw[List.mem_append]at hp;rcases hp with hp|hp
 ·exact iJ s b _ p hp
 simp at hp;rw[hp];exact ext_size s _ _
theorem PL{ps:List ByteArray}{k:Nat}(hk:k<ps.length):ps.getD k ByteArray.empty ∈ ps:=by
 rw[List.getD_eq_getElem?_getD,List.getElem?_eq_getElem hk];exact List.getElem_mem hk

theorem Tryz.infoTx:(Tryz.prog.info? 73).map (fun i=>(i.zero,i.size,i.bytes))=some (some (Hg 0 0 0 0),4,32):=by kernel_rfl
theorem Q0(w:World)(x:T4)(t:TypeId)(j:Nat)(u:Value)(h:(EW x)[j]? =some u):(w.alloc (.cells #[.int .i64 x.1,.int .i64 x.2.1,.int .i64 x.2.2.1,.int .i64 x.2.2.2] t)).cell? ((⟨w.heap.size,0,none⟩:Addr).add j)=some u:=by
 match j,h with
 |0,h=>simp[EW]at h;subst h;simp[Addr.add]
 |1,h=>simp[EW]at h;subst h;simp[Addr.add]
 |2,h=>simp[EW]at h;subst h;simp[Addr.add]
 |3,h=>simp[EW]at h;subst h;simp[Addr.add]
 |j+4,h=>simp[EW]at h
theorem PM(x:T4)(u:Value)(h:u ∈ EW x):u.oneCell'=true:=by
 simp[EW]at h;rcases h with rfl|rfl|rfl|rfl<;>rfl
theorem o6{w:World}{B B':Nat}{v u:Value}{ps:List ByteArray}{ys:List T4}(h:OS w B v ps)(h':OT w B' u ys):v.ownBlock=none∨v.ownBlock≠u.ownBlock:=by
 rcases h.2 with⟨rfl,_⟩|⟨g,cap,cur,rfl,_,hg,_⟩
 ·exact .inl rfl
 rcases h'.2 with⟨rfl,_⟩|⟨g',cap',cur',rfl,_,hg',_⟩
 ·exact .inr (by simp[Value.ownBlock])
 refine .inr fun e=>?_;simp[Value.ownBlock]at e;rw[e,hg']at hg;simp at hg
theorem ZL{B:Nat}{w wr w1:World}{v v':Value}{xs:List T4}{x:T4}(hB:B≤wr.heap.size)(ho:OT wr B v xs)(hb:Below B w wr)
 (ho':w1.ownsRow B 73 4 v' (xs.length+1) (Ay xs++EW x)) (hg:wr.grownBy w1 v.ownBlock):
 OT w1 B v' (xs++[x])∧Below B w w1:=
 ⟨by unfold OT;rw[Dy,List.length_append];simpa[Ay]using ho',hb.grown hg hB (fun j hj=>(ho.lt j hj).1)⟩
theorem os_alloc{w:World}{B:Nat}{v:Value}{xs:List ByteArray}(h:OS w B v xs)(o:Obj):OS (w.alloc o) B v xs:=World.ownsRow.alloc h o
theorem KV{w:World}{B:Nat}{v:Value}{xs:List T4}(h:OT w B v xs)(o:Obj):OT (w.alloc o) B v xs:=World.ownsRow.alloc h o
theorem M7{w:World}{B g n cap:Nat}{ps:List ByteArray}(h:OS w B (.slice (some ⟨g,0,none⟩) n cap) ps)(hn:n=ps.length)(k:Nat)(hk:k<ps.length):w.cell? ⟨g,k,none⟩=some (.string (ps.getD k ByteArray.empty)):=by
 subst hn;rw[World.ownsRow.cellAt h k (by omega)];simp[List.getElem?_eq_getElem hk]

theorem df(s:ByteArray)(w:World)(hs:s.size≤33554432)(hE:Env w):
 Calls Tryz.prog 257 #[.string s] w fun e w'=>∃v,e= .returned (.tuple #[v,.bool (Ce s).isSome])∧OT w' w.heap.size v ((Ce s).getD [])∧Below w.heap.size w w':=by
 obtain⟨i0,hi,hz0,hz1,hz2⟩:=info_parts Tryz.infoTx;unfold Ce;by_cases hz:s=⟨#[]⟩
 ·rw[if_pos hz];subst hz;go_enter Tryz.func257,Tryz.ntmps257
  go_wp2
  go_ret2
  exact⟨_,rfl,World.ownsRow_nil _ _ _ _,Below.refl _ _⟩
 rw[if_neg hz];have hne:=EX hz
 have hne2:(s.toList==[])=false:=by
  rw[beq_eq_false_iff_ne];intro e;apply hz;apply ByteArray.ext;apply Array.toList_inj.1;rw[ByteArray.toList_eq]at e;exact e
 have SP:=hide fun w=>aB s 44 w hs;have hpn:0<(Ag s 44).length:=by simp[Ag]
 have hpl:=Ho s 44;have hpz:Hid (∀p ∈ Ag s 44,p.size≤33554432):=fun p hp=>Nat.le_trans (Jc s 44 p hp) hs;generalize Ag s 44=ps at *;have HE:=hide hE;clear hE hz;go_enter Tryz.func257,Tryz.ntmps257
 go_wp2_with fail
 refine(SP.out _).mono ?_;rintro e w1 ⟨vp,rfl,op,b1⟩;rcases op.2 with⟨_,h0⟩|⟨gp,pc,wB,rfl,_⟩
 ·omega
 have OP:=hide op;clear op SP;go_wp2
 go_loopw [4,14] (fun v i wr=>∃(k:Nat)(ys:List T4),k≤ps.length∧i= .int .i64 k∧ys.length=k∧Hid (CJ (ps.take k)=some ys)∧OT wr w.heap.size v ys∧OS wr w.heap.size (.slice (some ⟨gp,0,none⟩) ps.length pc) ps∧Below w.heap.size w wr) (fun _ i _=>ps.length-(intOf i).toNat)
 case atStart=>exact⟨0,[],by omega,rfl,rfl,rfl,World.ownsRow_nil _ _ _ _,OP.out,b1⟩
 case round=>
  obtain⟨k,ys,hk,rfl,hyl,HA,ho,hp,hb⟩:=hrel;have hsz:=hb.size;by_cases hlt:k<ps.length
  ·have hc:=M7 hp rfl k hlt;have hm:=hpz.out _ (PL hlt);have HT:=hide (I_ ps k hlt);have CT:=hide fun w hE=>jB (ps.getD k ByteArray.empty) w hm hE;have HB:=hide (And.intro ho (And.intro hp hb));clear ho hp hb hm;generalize ps.getD k ByteArray.empty=p at *;cases ht:DD p.data.toList with
   |none=>
    have HN:Hid (CJ ps=none):=Pg (k+1) (by rw[HT.out,IC,ht];cases CJ (ps.take k)<;>rfl);rw[ht]at CT;clear ht HT HA;go_wp2_with fail
    refine(CT.out _ (HE.out.below HB.out.2.2)).mono ?_;rintro e w2 ⟨rfl,b2⟩;have hw:Below w.heap.size w (w2.alloc (.cells #[.int .i64 0,.int .i64 0,.int .i64 0,.int .i64 0] 73)):=(HB.out.2.2.trans (b2.mono hsz)).alloc (by have:=b2.size;omega) _;unfold QY;go_wp2
    go_ret2
    exact⟨_,by rw[HN.out];rfl,by rw[HN.out];exact World.ownsRow_nil _ _ _ _,hw⟩
   | some q=>
    obtain⟨a,b,c,d⟩:=q
    have HN:Hid (CJ (ps.take (k+1))=some (ys++[((a:Int),(b:Int),(c:Int),(d:Int))])):=by
     show CJ _=_;rw[HT.out,IC,HA.out,ht];rfl
    rw[ht]at CT;clear ht HT HA;go_wp2_with fail
    refine(CT.out _ (HE.out.below HB.out.2.2)).mono ?_;rintro e w2 ⟨rfl,b2⟩;obtain⟨ho,hp,hb⟩:=HB.out;have s2:=b2.size;have ho2:=KV (KV (ho.below b2) (.cells #[.int .i64 a,.int .i64 b,.int .i64 c,.int .i64 d] 73)) (.cells #[.int .i64 a,.int .i64 b,.int .i64 c,.int .i64 d] 73);have hp2:=os_alloc (os_alloc (hp.below b2) (.cells #[.int .i64 a,.int .i64 b,.int .i64 c,.int .i64 d] 73)) (.cells #[.int .i64 a,.int .i64 b,.int .i64 c,.int .i64 d] 73);have hb2:Below w.heap.size w ((w2.alloc (.cells #[.int .i64 a,.int .i64 b,.int .i64 c,.int .i64 d] 73)).alloc (.cells #[.int .i64 a,.int .i64 b,.int .i64 c,.int .i64 d] 73)):=((hb.trans (b2.mono hsz)).alloc (by omega) _).alloc (by simp;omega) _;have jH:=o6 hp2 ho2;clear ho hp hb HB b2 hc;unfold QY
    go_wp2_with (first
     |(at_builtin;refine wpList_append_own _ rfl _ _ 41 rfl w.heap.size 73 i0 (Hg 0 0 0 0) 4 32 Tryz.underlying41 hi hz0 hz1 hz2 rfl (by decide) _ _ _ rfl ho2 ⟨w2.heap.size+1,0,none⟩ 1 1 (EW ((a:Int),(b:Int),(c:Int),(d:Int))) rfl rfl (by have:=Q0 (w2.alloc (.cells #[.int .i64 a,.int .i64 b,.int .i64 c,.int .i64 d] 73)) ((a:Int),(b:Int),(c:Int),(d:Int)) 73;simpa using this) (PM _) (by unfold maxLen;omega) (by omega) (by simp;omega) ?_;intro v' w3 ho' hg' _;have R:=ZL (by simp;omega) ho2 hb2 ho' hg';have RP:OS w3 w.heap.size (.slice (some ⟨gp,0,none⟩) ps.length pc) ps:=World.ownsRow.kept hp2 hg' jH;clear ho2 ho' hg' hb2 hp2 jH))
    go_roundw
    case rel=>exact⟨k+1,_,by omega,by go_num,by simp[hyl],HN,R.1,RP,R.2⟩
    case measure=>simp[intOf];omega
  have hkn:k=ps.length:=by omega
  have HN:Hid (CJ ps=some ys):=by
   have:=HA.out;rw[hkn,List.take_of_length_le Ak]at this;exact this
  have HO:=hide ho;clear ho hp HA;go_wp2
  go_ret2
  exact⟨_,by rw[HN.out];rfl,by rw[HN.out];exact HO.out,hb⟩
end
section
open Go.RowKit
variable [∀(a b c d:Int),Decidable (BG a b c d)] [∀(a b c d:Nat),Decidable (DZ a b c d)] [∀(x:T4),Decidable (Du x)]
def AR(w:World)(ao:Option Addr)(xs:List T4):Prop:=
 xs=[]∨∃b off,ao=some ⟨b,off,none⟩∧∀k,k<xs.length→w.cell? ⟨b,off+k*4,none⟩=some (.int .i64 (xs.getD k (0,0,0,0)).1)∧w.cell? ⟨b,off+k*4+1,none⟩=some (.int .i64 (xs.getD k (0,0,0,0)).2.1)∧w.cell? ⟨b,off+k*4+2,none⟩=some (.int .i64 (xs.getD k (0,0,0,0)).2.2.1)∧w.cell? ⟨b,off+k*4+3,none⟩=some (.int .i64 (xs.getD k (0,0,0,0)).2.2.2)
theorem AR.below{w w':World}{ao:Option Addr}{xs:List T4}(h:AR w ao xs)(hb:Below w.heap.size w w'):AR w' ao xs:=by
 rcases h with h|⟨b,off,rfl,h⟩
 ·exact .inl h
 refine .inr ⟨b,off,rfl,fun k hk=>?_⟩;obtain⟨c0,c1,c2,c3⟩:=h k hk;have hg:b<w.heap.size:=AQ c0;exact⟨(hb.cell (p:=⟨b,off+k*4,none⟩) hg).trans c0,(hb.cell (p:=⟨b,off+k*4+1,none⟩) hg).trans c1,(hb.cell (p:=⟨b,off+k*4+2,none⟩) hg).trans c2,(hb.cell (p:=⟨b,off+k*4+3,none⟩) hg).trans c3⟩
def JS(xs:List T4)(cs:List Value)(k:Nat):List Value:=Ay (xs.take k)++cs.drop (k*4)
theorem au(xs:List T4)(cs:List Value)(k:Nat)(hk:k<xs.length)(hc:cs.length=xs.length*4)(x:T4)(hx:xs.getD k (0,0,0,0)=x):
 ((((JS xs cs k).set (k*4) (.int .i64 x.1)).set (k*4+1) (.int .i64 x.2.1)).set (k*4+2) (.int .i64 x.2.2.1)).set (k*4+3) (.int .i64 x.2.2.2)=JS xs cs (k+1):=by
 unfold JS;have hp:(Ay (xs.take k)).length=k*4:=by rw[Ew,List.length_take];omega
 have ht:xs.take (k+1)=xs.take k++[x]:=by
  rw[List.take_succ_eq_append_getElem hk,←hx,List.getD_eq_getElem?_getD,List.getElem?_eq_getElem hk];rfl
 rw[ht,Dy];generalize Ay (xs.take k)=P at *;have hr:4≤(cs.drop (k*4)).length:=by rw[List.length_drop];omega
 have hd:cs.drop ((k+1)*4)=(cs.drop (k*4)).drop 4:=by rw[List.drop_drop];congr 1;omega
 rw[hd]
 match cs.drop (k*4),hr with
 |r0 :: r1 :: r2 :: r3 :: R,_=>
  rw[←hp];simp[List.set_append_right,Ay,EW]
theorem Xl(xs:List T4)(cs:List Value):JS xs cs 0=cs:=by simp[JS,Ay]
theorem av(xs:List T4)(cs:List Value)(hc:cs.length=xs.length*4):JS xs cs xs.length=Ay xs:=by
 unfold JS;rw[List.take_of_length_le Ak,List.drop_of_length_le (by omega)];simp

theorem Zl(ao:Option Addr)(ca:Nat)(xs:List T4)(w:World)(hl:xs.length≤1048577)(h:AR w ao xs):
 Calls Tryz.prog 35 #[.slice ao xs.length ca] w fun e w'=>∃v,e= .returned v∧OT w' w.heap.size v xs∧Below w.heap.size w w':=by
 obtain⟨i0,hi,hz0,hz1,hz2⟩:=info_parts Tryz.infoTx;go_enter Tryz.func35,Tryz.ntmps35
 go_wp2_with (first|(at_make;refine wpList_make_full _ rfl _ _ 41 rfl w.heap.size 73 i0 (Hg 0 0 0 0) 4 Tryz.underlying41 hi hz0 hz1 .i64 .i64 _ _ xs.length rfl rfl rfl rfl (by rw[hz2];omega) (by unfold maxLen;omega) Ak ?_;intro w0 ho0 hg0))
 have hcs:(madeCells (Hg 0 0 0 0).cells (xs.length*4)).toList.length=xs.length*4:=by rw[Array.length_toList,size_madeCells]
 generalize (madeCells (Hg 0 0 0 0).cells (xs.length*4)).toList=cs at *
 go_loopw [4] (fun i wr=>∃k:Nat,k≤xs.length∧i= .int .i64 k∧wr.ownsRow w.heap.size 73 4 (.slice (some ⟨w.heap.size,0,none⟩) xs.length xs.length) xs.length (JS xs cs k)∧Below w.heap.size w wr) (fun i _=>xs.length-(intOf i).toNat)
 case atStart=>exact⟨0,Nat.zero_le _,rfl,by rw[Xl];exact ho0,(Below.refl _ _).grown hg0 Ak (by simp)⟩
 case round=>
  clear ho0 hg0;obtain⟨k,hk,rfl,ho,br⟩:=hrel;by_cases hlt:k<xs.length
  ·rcases h with h|⟨b,off,rfl,h⟩
   ·subst h;simp at hlt
   obtain⟨a0,a1,a2,a3⟩:=h k hlt;have hg:b<w.heap.size:=AQ a0;have c0:=(br.cell (p:=⟨b,off+k*4,none⟩) hg).trans a0;have c1:=(br.cell (p:=⟨b,off+k*4+1,none⟩) hg).trans a1;have c2:=(br.cell (p:=⟨b,off+k*4+2,none⟩) hg).trans a2;have c3:=(br.cell (p:=⟨b,off+k*4+3,none⟩) hg).trans a3;clear a0 a1 a2 a3 h;have pQ:=br.size;obtain⟨x,hxk⟩:∃x,xs.getD k (0,0,0,0)=x:=⟨_,rfl⟩
   rw[hxk]at c0 c1 c2 c3;have HP:=hide (au xs cs k hlt hcs x hxk);clear hxk;obtain⟨xa,xb,xc,xd⟩:=x;simp only at c0 c1 c2 c3
   have JU:(JS xs cs k).length=xs.length*4:=by
    unfold JS;rw[List.length_append,Ew,List.length_take,List.length_drop,hcs];omega
   have HO:=hide ho;clear ho;go_wp2_with fail
   refine(UA xa xb xc xd _).mono ?_;rintro e w2 ⟨rfl,b2⟩;have s2:=b2.size;have ho2:=World.ownsRow.kept (row:=none) HO.out ⟨b2.os,b2.tape,b2.output,b2.size,fun k hk _=>b2.block k hk⟩ (by simp[Value.ownBlock]);have bw2:=br.trans (b2.mono pQ)
   obtain⟨y0,y1,y2,y3⟩:(∃u,w2.cell? ⟨w.heap.size,k*4,none⟩=some u)∧(∃u,w2.cell? ⟨w.heap.size,k*4+1,none⟩=some u)∧(∃u,w2.cell? ⟨w.heap.size,k*4+2,none⟩=some u)∧(∃u,w2.cell? ⟨w.heap.size,k*4+3,none⟩=some u):=by
    have gt:∀j,j<xs.length*4→∃u,w2.cell? ⟨w.heap.size,j,none⟩=some u:=fun j hj=>⟨_,(ho2.cellAt j hj).trans (List.getElem?_eq_getElem (by rw[JU];exact hj))⟩
    exact⟨gt _ (by omega),gt _ (by omega),gt _ (by omega),gt _ (by omega)⟩
   obtain⟨u0,y0⟩:=y0;obtain⟨u1,y1⟩:=y1;obtain⟨u2,y2⟩:=y2;obtain⟨u3,y3⟩:=y3;have hfr:=ho2.frozenAt;have t0:=ho2.stored (k*4) (.int .i64 xa);have t1:=t0.1.stored (k*4+1) (.int .i64 xb);have t2:=t1.1.stored (k*4+2) (.int .i64 xc);have t3:=t2.1.stored (k*4+3) (.int .i64 xd);have H3:=hide t3.1;clear t0 t1 t2 t3 ho2 c0 c1 c2 c3;go_wp2
   go_roundw
   case rel=>exact⟨k+1,by omega,by go_num,by rw[←HP.out];exact H3.out,(((bw2.setCell Ak _).setCell Ak _).setCell Ak _).setCell Ak _⟩
   case measure=>simp[intOf];omega
  have hkn:k=xs.length:=by omega
  have HO:Hid (OT wr w.heap.size (.slice (some ⟨w.heap.size,0,none⟩) xs.length xs.length) xs):=by
   show OT _ _ _ _;unfold OT;rw[←av xs cs hcs,←hkn];rw[←hkn]at ho;exact ho
  clear ho h;go_wp2;go_ret;exact⟨_,rfl,HO.out,br⟩
end
section
open Go.RowKit
variable [∀(a b c d:Int),Decidable (BG a b c d)]
def UI(k0 i:Nat):T4:=((k0:Int)+(i:Int)*4,(k0:Int)+(i:Int)*4+1,(k0:Int)+(i:Int)*4+2,(k0:Int)+(i:Int)*4+3)
def Cr(k0 n:Nat):List T4:=(List.range n).map (UI k0)
theorem D6(k0 n:Nat):(Cr k0 n).length=n:=by simp[Cr]
theorem Wu(k0 n i:Nat)(h:i<n):(Cr k0 n).getD i (0,0,0,0)=UI k0 i:=by simp[Cr,h]
theorem UH(k0 n:Nat):Cr k0 (n+1)=Cr k0 n++[UI k0 n]:=by simp[Cr,List.range_succ]
def Ev(k0 k:Nat)(vs:List T4):List T4:=Cr k0 k++vs.drop k
theorem UG(k0:Nat)(vs:List T4):Ev k0 0 vs=vs:=by simp[Ev,Cr]
theorem Wt(k0:Nat)(vs:List T4):Ev k0 vs.length vs=Cr k0 vs.length:=by simp[Ev]
theorem Ny(k0 k:Nat)(vs:List T4)(h:k≤vs.length):(Ev k0 k vs).length=vs.length:=by simp[Ev,D6];omega
theorem Wy(xs:List T4)(k:Nat)(x:T4)(hk:k<xs.length):((((Ay xs).set (k*4) (.int .i64 x.1)).set (k*4+1) (.int .i64 x.2.1)).set (k*4+2) (.int .i64 x.2.2.1)).set (k*4+3) (.int .i64 x.2.2.2)=Ay (xs.set k x):=by
 induction xs generalizing k with
 |nil=>simp at hk
 | cons y ys ih=>
  have e:∀z:T4,∀zs,Ay (z :: zs)= .int .i64 z.1 :: .int .i64 z.2.1 :: .int .i64 z.2.2.1 :: .int .i64 z.2.2.2 :: Ay zs:=fun z zs=>by simp[Ay,EW]
  cases k with
  |zero=>rw[e];simp[e]
  |succ k=>
   rw[e,List.set_cons_succ,e,←ih k (by simpa using hk)];rw[show(k+1)*4=k*4+1+1+1+1 from by omega];simp only[List.set_cons_succ]
theorem Ws(k0 k:Nat)(vs:List T4)(h:k<vs.length):(Ev k0 k vs).set k (UI k0 k)=Ev k0 (k+1) vs:=by
 unfold Ev;rw[UH,List.set_append_right _ _ (by simp[D6]),D6,Nat.sub_self,List.drop_eq_getElem_cons h,List.set_cons_zero];simp

theorem Zm(base g n cap k0:Nat)(vs:List T4)(w:World)(hn:n≤4194304)(hk1:k0≤100000000)(hv:vs.length=n)(h:OT w base (.slice (some ⟨g,0,none⟩) n cap) vs):
 Calls Tryz.prog 47 #[.slice (some ⟨g,0,none⟩) n cap,.int .i64 k0] w fun e w'=>e= .returned (.int .i64 (k0+n*4))∧
  OT w' base (.slice (some ⟨g,0,none⟩) n cap) (Cr k0 n)∧w.grownBy w' (some g):=by
 have Hv:=hide hv;clear hv;go_enter Tryz.func47,Tryz.ntmps47
 go_wp2
 go_loopw [1,5] (fun c i wr=>∃k:Nat,k≤n∧i= .int .i64 k∧c= .int .i64 ((k0:Int)+(k:Int)*4)∧OT wr base (.slice (some ⟨g,0,none⟩) n cap) (Ev k0 k vs)∧w.grownBy wr (some g)) (fun _ i _=>n-(intOf i).toNat)
 case atStart=>exact⟨0,Nat.zero_le _,rfl,by go_num,by rw[UG];exact h,⟨rfl,rfl,rfl,Nat.le_refl _,fun _ _ _=>rfl⟩⟩
 case round=>
  obtain⟨k,hk,rfl,rfl,ho,hg⟩:=hrel;by_cases hlt:k<n
  ·have rW:k<vs.length:=by rw[Hv.out];exact hlt
   have hlen:(Ev k0 k vs).length=n:=by rw[Ny k0 k vs (by omega),Hv.out]
   have ho0:wr.ownsRow base 73 4 (.slice (some ⟨g,0,none⟩) n cap) n (Ay (Ev k0 k vs)):=by have:=ho;unfold OT at this;rw[hlen]at this;exact this
   obtain⟨y0,y1,y2,y3⟩:(∃u,wr.cell? ⟨g,k*4,none⟩=some u)∧(∃u,wr.cell? ⟨g,k*4+1,none⟩=some u)∧(∃u,wr.cell? ⟨g,k*4+2,none⟩=some u)∧(∃u,wr.cell? ⟨g,k*4+3,none⟩=some u):=by
    have gt:∀j,j<n*4→∃u,wr.cell? ⟨g,j,none⟩=some u:=fun j hj=>⟨_,(ho0.cellAt j hj).trans (List.getElem?_eq_getElem (by rw[Ew,hlen];exact hj))⟩
    exact⟨gt _ (by omega),gt _ (by omega),gt _ (by omega),gt _ (by omega)⟩
   obtain⟨u0,y0⟩:=y0;obtain⟨u1,y1⟩:=y1;obtain⟨u2,y2⟩:=y2;obtain⟨u3,y3⟩:=y3;have hfr:=ho0.frozenAt;have t0:=ho0.stored (k*4) (.int .i64 ((k0:Int)+(k:Int)*4));have t1:=t0.1.stored (k*4+1) (.int .i64 ((k0:Int)+(k:Int)*4+1));have t2:=t1.1.stored (k*4+2) (.int .i64 ((k0:Int)+(k:Int)*4+2));have t3:=t2.1.stored (k*4+3) (.int .i64 ((k0:Int)+(k:Int)*4+3));have HO:=hide t3.1;have HG:=hide (EJ hg (EJ t0.2 (EJ t1.2 (EJ t2.2 t3.2))));have hlen':(Ev k0 (k+1) vs).length=n:=by rw[Ny k0 (k+1) vs (by omega),Hv.out]
   clear t0 t1 t2 t3 ho ho0 hg;go_wp2
   go_roundw
   case rel=>
    refine⟨k+1,by omega,by go_num,by go_num,?_,?_⟩
    ·unfold OT;rw[hlen',←Ws k0 k vs rW,←Wy _ _ _ (by rw[hlen];exact hlt)];exact HO.out
    exact HG.out
   case measure=>simp[intOf];omega
  have hkn:k=n:=by omega
  have HO:Hid (OT wr base (.slice (some ⟨g,0,none⟩) n cap) (Cr k0 n)):=by
   have:=Wt k0 vs;rw[Hv.out]at this;rw[←this,←hkn];rw[←hkn]at ho;exact ho
  clear ho;subst hkn;go_wp2;go_ret;exact⟨rfl,HO.out,hg⟩

theorem Zn(v:Value)(n k0:Nat)(w:World)(hn:n≤4194304)(hk1:k0≤100000000)(h:RT w v (Cr k0 n)):
 Calls Tryz.prog 52 #[v,.int .i64 k0] w fun e w'=>e= .returned (.int .i64 (k0+n*4))∧Below w.heap.size w w':=by
 obtain⟨hl,ao,ca,rfl,ha⟩:=h;rw[D6]at hl ha⊢;go_enter Tryz.func52,Tryz.ntmps52
 go_wp2
 go_loopw [1,5] (fun c i wr=>∃k:Nat,k≤n∧i= .int .i64 k∧c= .int .i64 ((k0:Int)+(k:Int)*4)∧Below w.heap.size w wr) (fun _ i _=>n-(intOf i).toNat)
 case atStart=>exact⟨0,Nat.zero_le _,rfl,by go_num,Below.refl _ _⟩
 case round=>
  obtain⟨k,hk,rfl,rfl,hb⟩:=hrel;by_cases hlt:k<n
  ·rcases ha with ha|⟨b,rfl,ha⟩
   ·have:=congrArg List.length ha;rw[D6]at this;simp at this;omega
   obtain⟨a0,a1,a2,a3⟩:=ha k hlt;rw[Wu k0 n k hlt]at a0 a1 a2 a3;simp only[UI]at a0 a1 a2 a3;have hlb:b<w.heap.size:=AQ a0;have c0:=(hb.cell (p:=⟨b,k*4,none⟩) hlb).trans a0;have c1:=(hb.cell (p:=⟨b,k*4+1,none⟩) hlb).trans a1;have c2:=(hb.cell (p:=⟨b,k*4+2,none⟩) hlb).trans a2;have c3:=(hb.cell (p:=⟨b,k*4+3,none⟩) hlb).trans a3;clear ha a0 a1 a2 a3;go_wp2
   go_roundw
   case rel=>exact⟨k+1,by omega,by go_num,by go_num,hb⟩
   case measure=>simp[intOf];omega
  have hkn:k=n:=by omega
  subst hkn;clear ha;go_wp2;go_ret;exact⟨rfl,hb⟩
end
section
open Go.RowKit
variable [∀(a b c d:Int),Decidable (BG a b c d)] [∀(a b c d:Nat),Decidable (DZ a b c d)] [∀(x:T4),Decidable (Du x)]
theorem OT.kp{w w':World}{base:Nat}{X:Nat→Prop}{v:Value}{xs:List T4}(h:OT w base v xs)(k:Kp w w' X)(hv:∀k,v.ownBlock=some k→¬X k):OT w' base v xs:=by
 refine⟨h.1,?_⟩;rcases h.2 with hn|⟨g,cap,cur,rfl,hb,hgg,rest⟩
 ·exact .inl hn
 refine .inr ⟨g,cap,cur,rfl,hb,?_,rest⟩;rw[k.block g (Array.getElem?_eq_some_iff.1 hgg).1 (hv g rfl)];exact hgg
theorem Mt(ao:Option Addr)(n ca:Nat)(left:Int)(w:World)(hn:(n:Int)≤left)(hl:left≤1048576):
 Calls Tryz.prog 26 #[.slice ao n ca,.int .i64 left] w fun e w'=>e= .returned (.int .i64 (left-n))∧w'=w:=by
 have hd:decide ((left:Int)-(n:Int)<0)=false:=by simp;omega
 go_enter Tryz.func26,Tryz.ntmps26
 go_wp2;go_ret;exact⟨rfl,rfl⟩
theorem qV(ao:Option Addr)(n ca:Nat)(left:Int)(w:World)(h0:0≤left)(hn:left<(n:Int))(hm:n≤9223372036854775807)(hl:left≤1048576):
 Calls Tryz.prog 26 #[.slice ao n ca,.int .i64 left] w fun e w'=>e= .returned (.int .i64 (-1))∧w'=w:=by
 have hd:decide ((left:Int)-(n:Int)<0)=true:=by simp;omega
 go_enter Tryz.func26,Tryz.ntmps26
 go_wp2;go_ret;exact⟨rfl,rfl⟩
theorem Ww(k0:Int)(w:World):
 Calls Tryz.prog 47 #[.slice none 0 0,.int .i64 k0] w fun e w'=>e= .returned (.int .i64 k0)∧w'=w:=by
 go_enter Tryz.func47,Tryz.ntmps47
 go_wp2;refine wp_loop_rounds 1 ?_;rw[rounds_succ];go_wp2;go_ret;exact⟨rfl,rfl⟩
end
section
open Go.RowKit
variable [∀(a b c d:Int),Decidable (BG a b c d)] [∀(n f:Int),Decidable (A_ n f)] [∀(a b c d:Nat),Decidable (DZ a b c d)] [∀(x:T4),Decidable (Du x)]
structure Bt where
 id:Int
 vw:Int
 ak:Int
 vo:Int
 lo:Int
 n:Int
 s:ByteArray
 qw:List Int
 d:ByteArray
 pool:List T4
 tab:List Pt
 AU:List Int
 su:Int
 held:List Ba
abbrev Dz(t:Bt)(a b c d e:Value):Value:= .agg #[.int .i64 t.id,.int .i64 t.vw,.int .i64 t.ak,.int .i64 t.vo,.int .i64 t.lo,.int .i64 t.n,.string t.s,a,.string t.d,b,c,d,.int .i64 t.su,e]
structure En(w:World)(t:Bt)(a b c d e:Value):Prop where
 q:RI w a t.qw
 p:RT w b t.pool
 tb:NY w c t.tab
 d:RB w d t.AU
 h:Ih w e t.held
structure fK(w:World)(t:Bt)(a:Value)(bo:Option Addr)(c d e:Value):Prop where
 q:RI w a t.qw
 p:AR w bo t.pool
 tb:NY w c t.tab
 d:RB w d t.AU
 h:Ih w e t.held
theorem fK.below{w w':World}{t:Bt}{a:Value}{bo:Option Addr}{c d e:Value}(h:fK w t a bo c d e)(hb:Below w.heap.size w w'):fK w' t a bo c d e:=
 ⟨h.q.below hb,h.p.below hb,h.tb.below hb,h.d.below hb,h.h.below hb⟩
def Pm(w:World)(lo:Nat)(t:Bt)(a b c d e:Value):Prop:=∃s1 s2 s3 s4 vs,(lo≤s1∧s1≤s2∧s2≤s3∧s3≤s4∧s4≤w.heap.size)∧(OI w lo a t.qw∧∀j,a.ownBlock=some j→j<s1)∧(OT w s1 b t.pool∧∀j,b.ownBlock=some j→j<s2)∧RL w s2 s3 c t.tab vs∧(OB w s3 d t.AU∧∀j,d.ownBlock=some j→j<s4)∧Tq w s4 e t.held
theorem Pm.below{w w':World}{lo:Nat}{t:Bt}{a b c d e:Value}(h:Pm w lo t a b c d e)(hb:Below w.heap.size w w'):Pm w' lo t a b c d e:=by
 obtain⟨s1,s2,s3,s4,vs,hs,⟨a1,a2⟩,⟨b1,b2⟩,c1,⟨d1,d2⟩,e1⟩:=h;have:=hb.size;exact⟨s1,s2,s3,s4,vs,by omega,⟨a1.below hb,a2⟩,⟨b1.below hb,b2⟩,c1.below hb,⟨d1.below hb,d2⟩,e1.below hb⟩
theorem Pm.mono{w:World}{lo lo':Nat}{t:Bt}{a b c d e:Value}(h:Pm w lo t a b c d e)(hl:lo'≤lo):Pm w lo' t a b c d e:=by
 obtain⟨s1,s2,s3,s4,vs,hs,⟨a1,a2⟩,r⟩:=h;exact⟨s1,s2,s3,s4,vs,by omega,⟨a1.mono hl,a2⟩,r⟩
theorem OT.CV{w:World}{base:Nat}{v:Value}{xs:List T4}(h:OT w base v xs):∃ao ca,v= .slice ao xs.length ca:=by
 rcases h.2 with⟨rfl,h0⟩|⟨g,cap,cur,rfl,_⟩
 ·exact⟨none,0,by rw[h0]⟩
 exact⟨_,_,rfl⟩
theorem Pm.form{w:World}{lo:Nat}{t:Bt}{a b c d e:Value}(h:Pm w lo t a b c d e):∃ao ca bo cb co cc od cd oe ce,a= .slice ao t.qw.length ca∧b= .slice bo t.pool.length cb∧c= .slice co t.tab.length cc∧d= .slice od t.AU.length cd∧e= .slice oe t.held.length ce:=by
 obtain⟨s1,s2,s3,s4,vs,hs,⟨a1,a2⟩,⟨b1,b2⟩,c1,⟨d1,d2⟩,e1⟩:=h;obtain⟨ao,ca,rfl⟩:=a1.form;obtain⟨bo,cb,rfl⟩:=OT.CV b1;obtain⟨co,cc,rfl⟩:=Kq.form ⟨vs,c1.tab⟩;obtain⟨od,cd,rfl⟩:=d1.form;obtain⟨oe,ce,rfl⟩:=e1.form;exact⟨_,_,_,_,_,_,_,_,_,_,rfl,rfl,rfl,rfl,rfl⟩
structure I7(t:Bt):Prop where
 q:t.qw.length≤1048577
 p:t.pool.length≤1048577
 tb:t.tab.length≤1048577
 d:t.AU.length≤1048577
 h:t.held.length≤1048577
 tt:∀p ∈ t.tab,p.2.2.length≤4194304
 hh:∀j,j<t.held.length→(t.held.getD j AL).2.bw.length≤4194304∧(t.held.getD j AL).2.pw.length≤4194304∧(t.held.getD j AL).2.qw.length≤4194304
theorem Pm.Be{w:World}{lo:Nat}{t:Bt}{a b c d e:Value}(h:Pm w lo t a b c d e)(hs:I7 t):En w t a b c d e:=by
 obtain⟨s1,s2,s3,s4,vs,_,⟨a1,_⟩,⟨b1,_⟩,c1,⟨d1,_⟩,e1⟩:=h;exact⟨a1.ri (by have:=hs.q;omega),b1.rt (by have:=hs.p;omega),c1.kE hs.tt,d1.rb (by have:=hs.d;omega),e1.ZF hs.hh⟩
theorem RB.CV{w:World}{v:Value}{xs:List Int}(h:RB w v xs):∃ao ca,v= .slice ao xs.length ca:=by obtain⟨_,ao,ca,e,_⟩:=h;exact⟨ao,ca,e⟩
end
section
open Go.RowKit
def markT(k:Nat):ByteArray:=⟨(109 :: Lib.decDigits k).toArray⟩

theorem Bq(n:Nat)(w:World)(hn:0<n)(hm:n≤9223372036854775807):
 Calls Tryz.prog 109 #[.int .i64 n] w fun e w'=>e= .returned (.string (markT n))∧Below w.heap.size w w':=by
 have hcv:=R8;have hsz:=Oo;go_enter Tryz.func109,Tryz.ntmps109
 go_wp2
 go_loopw [0,3] (fun x s wr=>∃(m:Nat)(t:List UInt8),m≤9223372036854775807∧si n m t∧x= .int .i64 m∧s= .string ⟨t.toArray⟩∧Below w.heap.size w wr) (fun x _ _=>(intOf x).toNat)
 case atStart=>exact⟨n,[],hm,La n (by omega),rfl,rfl,Below.refl _ _⟩
 case round=>
  obtain⟨m,t,hm',hd,rfl,rfl,hb⟩:=hrel;have ACp:=hd.2.1;by_cases h0:m=0
  ·subst h0;have HE:=hide (Sl hd (by omega));clear hd;go_wp2;go_ret;have xY:=HE.out;subst xY;exact⟨by apply congrArg Ending.returned;apply congrArg Value.string;apply ByteArray.ext;apply Array.toList_inj.1;simp[markT],hb⟩
  have hpos:0<m:=by omega
  obtain⟨hd',hl⟩:=PW hd h0;have HD:=hide hd';clear hd hd';have hs0:=hb.size;have hmo:=Oq (m%10) t (by omega);have hbl:Below w.heap.size w (wr.alloc (.cells #[.int .u8 (48+(m:Int)%10)] 5)):=hb.alloc hs0 _;go_wp2
  go_roundw
  case rel=>exact⟨m/10,_,by omega,HD.out,by go_num,by rw[←hmo];rfl,hbl⟩
  case measure=>simp[intOf];omega
end
section
open Go.RowKit
variable [∀(a b c d:Int),Decidable (BG a b c d)] [∀(n f:Int),Decidable (A_ n f)]
def Mw:Nat→List Pt→List Pt
 |_,[]=>[]
 |k,p :: ps=>((k:Int),markT (k+1),A8 (k+2) p.2.2.length) :: Mw (k+2+p.2.2.length) ps
def pend:Nat→List Pt→Nat
 |k,[]=>k
 |k,p :: ps=>pend (k+2+p.2.2.length) ps
theorem Hq(k:Nat)(ps:List Pt):(Mw k ps).length=ps.length:=by
 induction ps generalizing k with
 |nil=>rfl
 |cons p ps ih=>simp[Mw,ih]
theorem Uu(k:Nat)(ps:List Pt)(p:Pt):Mw k (ps++[p])=Mw k ps++[((pend k ps:Int),markT (pend k ps+1),A8 (pend k ps+2) p.2.2.length)]∧pend k (ps++[p])=pend k ps+2+p.2.2.length:=by
 induction ps generalizing k with
 |nil=>exact⟨rfl,rfl⟩
 |cons x ps ih=>simp only[List.cons_append,Mw,pend,(ih _).1,(ih _).2];exact⟨trivial,trivial⟩
theorem Qq(k0:Nat)(ps:List Pt)(k:Nat)(hk:k<ps.length):pend k0 (ps.take (k+1))=pend k0 (ps.take k)+2+(ps.getD k BI).2.2.length:=by
 rw[List.take_succ_eq_append_getElem hk,(Uu _ _ _).2];simp[List.getElem?_eq_getElem hk]
theorem ZI(k0:Nat)(ps:List Pt):k0≤pend k0 ps:=by
 induction ps generalizing k0 with
 |nil=>exact Nat.le_refl _
 |cons p ps ih=>have:=ih (k0+2+p.2.2.length);simp only[pend];omega
theorem Mx(k0:Nat)(ps:List Pt)(k:Nat):pend k0 (ps.take k)≤pend k0 ps:=by
 induction ps generalizing k0 k with
 |nil=>simp[pend]
 |cons p ps ih=>
  cases k with
  |zero=>simp only[List.take_zero,pend];have:=ZI (k0+2+p.2.2.length) ps;omega
  |succ k=>simp only[List.take_succ_cons,pend];exact ih _ _
def IY(k0 k:Nat)(ps:List Pt):List Pt:=Mw k0 (ps.take k)++ps.drop k
theorem Uv(k0 k:Nat)(ps:List Pt)(h:k≤ps.length):(IY k0 k ps).length=ps.length:=by
 simp[IY,Hq];omega
theorem iF(k0 k:Nat)(ps:List Pt)(h:k<ps.length):(IY k0 k ps).getD k BI=ps.getD k BI:=by
 have hl:(Mw k0 (ps.take k)).length=k:=by rw[Hq];simp;omega
 unfold IY;rw[List.getD_eq_getElem?_getD,List.getElem?_append_right (by omega),hl,Nat.sub_self,List.getElem?_drop,Nat.add_zero,←List.getD_eq_getElem?_getD]
theorem iE(k0 k:Nat)(ps:List Pt)(h:k<ps.length):(IY k0 k ps).set k ((pend k0 (ps.take k):Int),markT (pend k0 (ps.take k)+1),A8 (pend k0 (ps.take k)+2) (ps.getD k BI).2.2.length)=IY k0 (k+1) ps:=by
 have hl:(Mw k0 (ps.take k)).length=k:=by rw[Hq];simp;omega
 unfold IY;rw[List.set_append_right _ _ (by omega),hl,Nat.sub_self,List.drop_eq_getElem_cons h,List.set_cons_zero,List.take_succ_eq_append_getElem h,(Uu _ _ _).1,List.append_assoc];simp[List.getElem?_eq_getElem h]

theorem QD(lo hi:Nat)(v:Value)(ps:List Pt)(vs:List Value)(k0:Nat)(w:World)(hn:ps.length≤4194304)(hw:∀p ∈ ps,p.2.2.length≤4194304)(hp:pend k0 ps≤100000000)(h:RL w lo hi v ps vs):
 Calls Tryz.prog 48 #[v,.int .i64 k0] w fun e w'=>e= .returned (.int .i64 (pend k0 ps))∧RL w' lo hi v (Mw k0 ps) vs∧Kp w w' (fun b=>lo≤b∧b<hi):=by
 obtain⟨va,vc,rfl⟩:=Kq.form ⟨vs,h.tab⟩;obtain⟨n,hn'⟩:∃n,ps.length=n:=⟨_,rfl⟩
 have Hn:=hide hn';have HW:=hide hw;rw[hn']at hn h⊢;have HS:=hide h;clear hw h hn';go_enter Tryz.func48,Tryz.ntmps48
 go_wp2
 go_loopw [1,5] (fun c i wr=>∃k:Nat,k≤n∧i= .int .i64 k∧c= .int .i64 ((pend k0 (ps.take k):Nat):Int)∧RL wr lo hi (.slice va n vc) (IY k0 k ps) vs∧Kp w wr (fun b=>lo≤b∧b<hi)) (fun _ i _=>n-(intOf i).toNat)
 case atStart=>exact⟨0,Nat.zero_le _,rfl,by simp[pend],by simpa[IY,Mw]using HS.out,Kp.refl _ _⟩
 case round=>
  clear HS;obtain⟨k,hk,rfl,rfl,os,kr⟩:=hrel;have hpk:=Mx k0 ps k;by_cases hlt:k<n
  ·have hkx:k<ps.length:=by have:=Hn.out;omega
   have hlen:(IY k0 k ps).length=n:=by rw[Uv k0 k ps (by omega)];exact Hn.out
   have hge:=iF k0 k ps hkx;have hse:=iE k0 k ps hkx;have hpt:=Qq k0 ps k hkx;have dz:=Mx k0 ps (k+1);have hxl:=HW.out _ (Jg hkx);have hkl:k<(IY k0 k ps).length:=by omega
   obtain⟨g,rfl⟩:∃g,va=some ⟨g,0,none⟩:=by
    rcases os.tab.row.2 with⟨e,h0⟩|⟨g,cap,cur,e,_⟩
    ·omega
    injection e with e1 e2 e3;exact⟨g,e1⟩
   have hrow:=os.tab.row;rw[hlen]at hrow;have wZ:=(World.ownsRow.lt hrow g rfl).1;have AAS:=os.ZG g rfl;have JU:(Bn (((IY k0 k ps).map Om).zip vs)).length=n*3:=by rw[Hr];simp[os.tab.len,hlen]
   have hou:=os.tab.each k hkl;have huh:=os.Si k hkl;have hne:(vs.getD k (.slice none 0 0)).ownBlock≠some g:=Uq os.tab.row hou g rfl;have hzl:((IY k0 k ps).map Om).zip vs=((IY k0 k ps).map Om).zip vs:=rfl
   have c2:wr.cell? ⟨g,k*3+2,none⟩=some (vs.getD k (.slice none 0 0)):=by
    have:=hrow.cellAt (k*3+2) (by omega);rw[Ji _ k _ (by simp[os.tab.len];omega) (by omega),Od _ vs os.tab.len k hkl]at this;exact this
   rw[hge]at hou;generalize (ps.getD k BI).2.2=xs at *;generalize hqe:pend k0 (ps.take k)=q at *;obtain⟨u,hu⟩:∃u,vs.getD k (.slice none 0 0)=u:=⟨_,rfl⟩
   have HU:=hide hu;rw[hu]at hou huh hne c2;obtain⟨y0,d0⟩:∃y,wr.cell? ⟨g,k*3,none⟩=some y:=⟨_,(hrow.cellAt (k*3) (by omega)).trans (List.getElem?_eq_getElem (by rw[JU];omega))⟩
   have f0:=hrow.frozenAt (k*3);obtain⟨w1,hw1⟩:∃y,wr.setCell ⟨g,k*3,none⟩ (.int .i64 (q:Int))=y:=⟨_,rfl⟩
   have k1:Kp wr w1 (fun b=>b=g):=hw1▸AB _ _ _ _;have r1:=hw1▸(hrow.stored (k*3) (.int .i64 (q:Int))).1;have MT:=hide fun w=>Bq (q+1) w (by omega) (by omega);have xU:=hide hse;have zP:=hide hpt;have T:=hide os.tab;have TOP:=os.top;have RH:=hide os.ZG;have EH:=hide os.Si;have MK:=hide fun w h=>Fj lo (q+2) u xs w hxl (by omega) h;clear hzl hge hu hse hpt os;go_wp2_with fail
   refine(MT.out _).mono ?_;rintro e w2 ⟨rfl,b2⟩;have r2:=World.ownsRow.kept (row:=none) r1 ⟨b2.os,b2.tape,b2.output,b2.size,fun k hk _=>b2.block k hk⟩ (by simp[Value.ownBlock]);obtain⟨y1,d1⟩:∃y,w2.cell? ⟨g,k*3+1,none⟩=some y:=⟨_,(r2.cellAt (k*3+1) (by omega)).trans (List.getElem?_eq_getElem (by rw[List.length_set,JU];omega))⟩
   have f1:=r2.frozenAt (k*3+1)
   have c2':w2.cell? ⟨g,k*3+2,none⟩=some u:=by
    have h1:w1.cell? ⟨g,k*3+2,none⟩=some u:=hw1▸(World.cell?_setCell_other _ _ _ _ (by simp)).trans c2;exact(b2.cell (p:=⟨g,k*3+2,none⟩) (AQ h1)).trans h1
   obtain⟨mt,hmt⟩:∃t,markT (q+1)=t:=⟨_,rfl⟩
   rw[hmt]at xU⊢;clear hmt;obtain⟨w3,hw3⟩:∃y,w2.setCell ⟨g,k*3+1,none⟩ (.string mt)=y:=⟨_,rfl⟩
   have r3:=hw3▸(r2.stored (k*3+1) (.string mt)).1;have k3:Kp wr w3 (fun b=>b=g):=(k1.trans (Below.BJ b2 _)).trans (hw3▸AB _ _ _ _);have c3:w3.cell? ⟨g,k*3+2,none⟩=some u:=hw3▸(World.cell?_setCell_other _ _ _ _ (by simp)).trans c2';have o3:OI w3 lo u xs:=hou.kp k3 (fun b hb e=>hne (by rw[←e];exact hb));have lu:=World.ownsRow.lt hou;obtain⟨ua,uc,rfl⟩:=o3.form;have O3:=hide o3;have R3:=hide r3;clear c2 c2' d0 f0 r1 r2 b2 k1 MT hou hrow r3 o3 hw1;go_wp2_with fail
   refine(MK.out _ O3.out).mono ?_;rintro e w4 ⟨rfl,o4,g4⟩
   have T4:C_ w4 lo (.slice (some ⟨g,0,none⟩) n vc) (IY k0 (k+1) ps) vs:=by
    rw[←xU.out];refine iN T.out hkl (by rw[hlen];exact R3.out) k3 (by rw[HU.out];exact o4) (by rw[HU.out];exact g4)
   have K4:Kp w w4 (fun b=>lo≤b∧b<hi):=(kr.trans (k3.mono fun b e=>e▸⟨wZ,AAS⟩)).trans ((CE g4).mono fun b e=>⟨(lu b e).1,huh b e⟩);have OP:Hid (RL w4 lo hi (.slice (some ⟨g,0,none⟩) n vc) (IY k0 (k+1) ps) vs):=hide ⟨T4,by have:=k3.size;have:=g4.size;omega,RH.out,fun j hj=>EH.out j (by rw[hlen];rw[Uv k0 (k+1) ps (by omega),Hn.out]at hj;exact hj)⟩;clear T4 o4 g4 c3 d1 f1 k3 lu O3 R3 T RH EH huh hne kr hw3;go_wp2
   go_roundw
   case rel=>exact⟨k+1,by omega,by go_num,by rw[zP.out];simp,OP.out,K4⟩
   case measure=>simp[intOf];omega
  have hkn:ps.take k=ps:=List.take_of_length_le (by have:=Hn.out;omega);have hpm:IY k0 k ps=Mw k0 ps:=by unfold IY;rw[hkn,List.drop_of_length_le (by have:=Hn.out;omega),List.append_nil]
  rw[hpm]at os;rw[hkn];have OS:=hide os;clear os hpm hpk;go_wp2;go_ret;exact⟨rfl,OS.out,kr⟩
theorem mD(k0:Nat)(ps:List Pt)(k:Nat)(hk:k<ps.length):(Mw k0 ps).getD k BI=((pend k0 (ps.take k):Int),markT (pend k0 (ps.take k)+1),A8 (pend k0 (ps.take k)+2) (ps.getD k BI).2.2.length):=by
 induction ps generalizing k0 k with
 |nil=>simp at hk
 | cons p ps ih=>
  cases k with
  |zero=>rfl
  |succ k=>
   have:=ih (k0+2+p.2.2.length) k (by simpa using hk);simpa[Mw,pend]using this

theorem QM(v:Value)(ps:List Pt)(k0:Nat)(w:World)(hn:ps.length≤4194304)(hp:pend k0 ps≤100000000)(h:NY w v (Mw k0 ps)):
 Calls Tryz.prog 53 #[v,.int .i64 k0] w fun e w'=>e= .returned (.int .i64 (pend k0 ps))∧Below w.heap.size w w':=by
 obtain⟨ao,ca,rfl⟩:=h.form;rw[Hq]at h⊢;obtain⟨n,hn'⟩:∃n,ps.length=n:=⟨_,rfl⟩
 have Hn:=hide hn';rw[hn']at hn h⊢;have H:=hide h;clear h hn';go_enter Tryz.func53,Tryz.ntmps53
 go_wp2
 go_loopw [1,5] (fun c i wr=>∃k:Nat,k≤n∧i= .int .i64 k∧c= .int .i64 ((pend k0 (ps.take k):Nat):Int)∧Below w.heap.size w wr) (fun _ i _=>n-(intOf i).toNat)
 case atStart=>exact⟨0,Nat.zero_le _,rfl,by simp[pend],Below.refl _ _⟩
 case round=>
  obtain⟨k,hk,rfl,rfl,br⟩:=hrel;have hpk:=Mx k0 ps k;by_cases hlt:k<n
  ·have hkx:k<ps.length:=by have:=Hn.out;omega
   have hge:=mD k0 ps k hkx;have zP:=hide (Qq k0 ps k hkx);have dz:=Mx k0 ps (k+1);rw[zP.out]at dz;obtain⟨g,o,u,rfl,c0,c1,c2,ru⟩:=(H.out.below br).at k (by rw[Hq];exact hkx);rw[hge]at c0 c1 ru;simp only at c0 c1 ru;generalize (ps.getD k BI).2.2.length=xl at *;generalize pend k0 (ps.take k)=q at *;have MT:=hide fun w=>Bq (q+1) w (by omega) (by omega);generalize markT (q+1)=mt at *
   have K:Hid (∀w',Below wr.heap.size wr w'→Below wr.heap.size wr w'∧w'.cell? ⟨g,o+k*3,none⟩=some (.int .i64 q)∧w'.cell? ⟨g,o+k*3+1,none⟩=some (.string mt)∧w'.cell? ⟨g,o+k*3+2,none⟩=some u):=hide fun w' hb'=>
    ⟨hb',(hb'.cell (p:=⟨g,o+k*3,none⟩) (AQ c0)).trans c0,(hb'.cell (p:=⟨g,o+k*3+1,none⟩) (AQ c1)).trans c1,(hb'.cell (p:=⟨g,o+k*3+2,none⟩) (AQ c2)).trans c2⟩
   have RU:=hide fun w'(hb':Below wr.heap.size wr w')=>ru.below hb';obtain⟨ua,uc,rfl⟩:=ru.form;rw[Bz]at K RU c2;have HE:=hide fun w h=>G8 (.slice ua xl uc) xl (q+2) w (by omega) h;have bA:Below wr.heap.size wr wr.drew:=Below.drew (Below.refl _ _);have Dk:=K.out _ bA;clear hge ru H;go_upto_region 7 with fail
   first|go_region_held3 (fun w'=>Below wr.heap.size wr w'∧w'.cell? ⟨g,o+k*3,none⟩=some (.int .i64 q)∧w'.cell? ⟨g,o+k*3+1,none⟩=some (.string mt)∧w'.cell? ⟨g,o+k*3+2,none⟩=some (.slice ua xl uc)) (exact Dk) (first
    | (go_at_call 109;have hgo:=bA;refine(MT.out _).mono ?_;rintro e wa ⟨rfl,ba⟩
       have bB:Below wr.heap.size wr wa:=bu bA ba;have Dk:=K.out _ bB;clear bA hgo ba))|fail
   all_goals
    have e2:=Dk.2.2.2;have hd1:decide ((q:Int)+1+1+(xl:Int)<0)=false:=by simp;omega
    clear Dk c0 c1 c2;go_wp2_with fail
    refine(HE.out _ (RU.out _ bB)).mono ?_;rintro e w4 ⟨rfl,rfl⟩;clear e2 RU HE K;go_wp2
    go_roundw
    case rel=>exact⟨k+1,by omega,by go_num,by rw[zP.out];simp,bu br bB⟩
    case measure=>simp[intOf];omega
  have hkn:ps.take k=ps:=List.take_of_length_le (by have:=Hn.out;omega);rw[hkn];clear hpk H;go_wp2;go_ret;exact⟨rfl,br⟩

theorem XC(al:Option Addr)(cl:Nat)(rs:List Pr)(left:Int)(w:World)(h:Ei w al rs)(hb:∀r ∈ rs,r.2.1.size≤maxLen∧r.2.2.2.2.length≤maxLen)(h0:0≤left)(hm:rs.length≤maxLen)(hs:left<(rs.length:Int)+Bh rs)(hl:left≤1048576):
 Calls Tryz.prog 27 #[.slice al rs.length cl,.int .i64 left] w fun e w'=>e= .returned (.int .i64 (-1))∧Below w.heap.size w w':=by
 obtain⟨n,hn⟩:∃n,rs.length=n:=⟨_,rfl⟩
 have Hn:=hide hn;have H:=hide h;have HB:=hide hb;unfold maxLen at hm;rw[hn]at hs hm⊢;clear hn h hb;by_cases h1:left<n
 ·have hd0:decide (left-(n:Int)<0)=true:=by simp;omega
  clear H HB;go_enter Tryz.func27,Tryz.ntmps27
  go_wp2;go_ret;exact⟨rfl,Below.refl _ _⟩
 have hd0:decide (left-(n:Int)<0)=false:=by simp;omega
 go_enter Tryz.func27,Tryz.ntmps27
 go_wp2
 go_loopw [1,5] (fun a i wr=>∃k:Nat,k≤n∧i= .int .i64 k∧a= .int .i64 (left-n-(Bh (rs.take k):Nat))∧(Bh (rs.take k):Int)≤left-n∧Below w.heap.size w wr) (fun _ i _=>n-(intOf i).toNat)
 case atStart=>exact⟨0,Nat.zero_le _,rfl,by simp[Bh],by simp[Bh];omega,Below.refl _ _⟩
 case round=>
  obtain⟨k,hk,rfl,rfl,hp,br⟩:=hrel;by_cases hlt:k<n
  ·have hkx:k<rs.length:=by have:=Hn.out;omega
   have j4:=hide (Qm rs k hkx);have hbk:=HB.out (rs.getD k Pq) (by rw[List.getD_eq_getElem?_getD,List.getElem?_eq_getElem hkx];exact List.getElem_mem hkx);rcases H.out with h|⟨g,off,rfl,h⟩
   ·subst h;simp at hkx
   obtain⟨c0,c1,c2⟩:=h k hkx;have hg:g<w.heap.size:=AQ c0;replace c0:=(br.cell (p:=⟨g,off+k*3,none⟩) hg).trans c0;replace c1:=(br.cell (p:=⟨g,off+k*3+1,none⟩) hg).trans c1;replace c2:=(br.cell (p:=⟨g,off+k*3+2,none⟩) hg).trans c2;clear h H HB;generalize (rs.getD k Pq).1=m at *;generalize (rs.getD k Pq).2.1=s at *;generalize (rs.getD k Pq).2.2.2.2.length=x at *;generalize (rs.getD k Pq).2.2.1=ao at *;generalize (rs.getD k Pq).2.2.2.1=ca at *;generalize Bh (rs.take k)=q at *;obtain⟨hb1,hb2⟩:=hbk;unfold maxLen at hb1 hb2;by_cases hfit:(s.size:Int)+x≤left-n-q
   ·have SZ:=hide fun w=>Hl m s ao x ca (left-n-q) w hfit (by omega);have hd1:decide (left-(n:Int)-(q:Int)-(s.size:Int)-(x:Int)<0)=false:=by simp;omega
    go_wp2_with fail
    refine(SZ.out _).mono ?_;rintro e w1 ⟨rfl,b1⟩;have B1:=bu br b1;clear c0 c1 c2 SZ b1;go_wp2
    go_roundw
    case rel=>exact⟨k+1,by omega,by go_num,by rw[j4.out];simp;omega,by rw[j4.out];simp;omega,B1⟩
    case measure=>simp[intOf];omega
   have SZ:=hide fun w=>Qc m s ao x ca (left-n-q) w (by omega) (by omega) (by omega) (by omega) (by omega);go_wp2_with fail
   refine(SZ.out _).mono ?_;rintro e w1 ⟨rfl,b1⟩;have B1:=bu br b1;clear c0 c1 c2 SZ b1;go_wp2;go_ret;exact⟨rfl,B1⟩
  have hkn:rs.take k=rs:=List.take_of_length_le (by have:=Hn.out;omega);rw[hkn]at hp;omega
end
end Go.Proofs.YtcjmcgolgbkknaaGreatDoor
