/- Lemmas, as stated. -/
import Derived.Test.YtcjmcgolgbkknaaGreatDoorTAAW
import Derived.Laws.Cover1
set_option maxRecDepth 100000
set_option maxHeartbeats 16000000
set_option linter.unusedSectionVars false
namespace Go.Proofs.YtcjmcgolgbkknaaGreatDoor
section
open Go.RowKit
variable [∀(a b c d:Int),Decidable (BG a b c d)] [∀(a b c d:Nat),Decidable (DZ a b c d)] [∀(last:Int)(s:St),Decidable (Aq last s)] [∀(x:T4),Decidable (Du x)] [∀(n:Int)(s:List Int),Decidable (Dv n s)] [∀(n f:Int),Decidable (A_ n f)]
def VW(x:Int):Bool:=decide (0≤x)&&decide (x≤60)
def K8(n f vo lo v:Int)(s:ByteArray)(xs:List Int)(d:ByteArray):Bool:=VW vo&&VW lo&&Gi n f v s xs&&(AP d).isSome
theorem Uj{n f vo lo v:Int}{s:ByteArray}{xs:List Int}{d:ByteArray}(h:K8 n f vo lo v s xs d=true):(0≤vo∧vo≤60)∧(0≤lo∧lo≤60)∧Gi n f v s xs=true∧(AP d).isSome=true:=by
 unfold K8 VW at h;simp only[Bool.and_eq_true,decide_eq_true_eq]at h;obtain⟨⟨⟨⟨a,b⟩,⟨c,e⟩⟩,q⟩,g⟩:=h;exact⟨⟨a,b⟩,⟨c,e⟩,q,g⟩
end
section
open Go.RowKit
theorem Jk(n:Int)(s:ByteArray)(v:Value)(xs:List Int)(w:World)(h:RI w v xs):
 Calls Tryz.prog 132 #[qv n s v] w fun e w'=>∃u,e= .returned (qv n s u)∧OI w' w.heap.size u xs∧Below w.heap.size w w':=by
 obtain⟨ao,ca,rfl⟩:=h.form;have hl:=h.1;obtain⟨w0,hw0⟩:∃w0,((w.alloc (.cells #[.int .i64 n,.string s,.slice ao xs.length ca] 38)).alloc zq).alloc (.cells #[] 3)=w0:=⟨_,rfl⟩
 have B0:Below w.heap.size w w0:=hw0▸((Bj _ _ _).alloc (by simp;omega) _);have LA:Loc w0 w.heap.size #[.int .i64 n,.string s,.slice ao xs.length ca]:=hw0▸((AJ w _ _ rfl).alloc _).alloc _;have LZ:Loc w0 (w.heap.size+1) #[.int .i64 0,.string ⟨#[]⟩,.slice none 0 0]:=hw0▸(AJ (w.alloc _) _ _ (by simp)).alloc _;have s0:w0.heap.size=w.heap.size+1+1+1:=by rw[←hw0];simp
 have O0:OI w0 (w.heap.size+1+1) (.slice (some ⟨w.heap.size+1+1,0,none⟩) 0 0) []:=by
  have:=World.ownsRow_lit (base:=w.heap.size+1+1) (e:=3) (size:=1) ((w.alloc (.cells #[.int .i64 n,.string s,.slice ao xs.length ca] 38)).alloc zq) #[] 0 (by simp) (by unfold maxLen;omega) (by simp);rw[hw0]at this;simpa[OI]using this
 have P0:=hide (h.pi.below B0);have x2:=LA.cell 2 rfl;have HL:=hide LA;have HZ:=hide LZ;clear h LA LZ;go_enter Tryz.func132,Tryz.ntmps132
 go_wp2_with (first | (at_builtin;clear hw0;refine MN rfl _ _ rfl (w.heap.size+1+1) (.slice (some ⟨w.heap.size+1+1,0,none⟩) 0 0) (.slice ao xs.length ca) [] xs rfl rfl O0 P0.out (by simp;omega) (by omega) ?_;intro v' w2 ho2 hg2 _
                       have k2:=CE hg2;have L2:=HL.out.kp k2 (by simp[Value.ownBlock];omega);have Z2:=HZ.out.kp k2 (by simp[Value.ownBlock]);have B2:=Below.kp B0 k2 B0.size (fun k hk=>by simp[Value.ownBlock]at hk;omega);have QG:=World.ownsRow.lt ho2;have p0:=L2.cell 0 rfl;have p1:=L2.cell 1 rfl;have p2:=L2.cell 2 rfl;have fp:=L2.frozen;have y0:=Z2.cell 0 rfl;have y1:=Z2.cell 1 rfl;have y2:=Z2.cell 2 rfl;have fy:=Z2.frozen;obtain⟨ua,uc,rfl⟩:=ho2.form;have O2:=hide ho2;clear ho2 hg2 k2 L2 Z2))
 refine bodyPost_ret (v:=qv n s (.slice ua ([]++xs).length uc)) (by simp[results,Tryz.results132,go_sem,y0,y1,y2]) rfl ?_
 have K5:Kp w2 ((((w2.setCell ⟨w.heap.size,2,none⟩ (.slice ua ([]++xs).length uc)).setCell ⟨w.heap.size+1,0,none⟩ (.int .i64 n)).setCell ⟨w.heap.size+1,1,none⟩ (.string s)).setCell ⟨w.heap.size+1,2,none⟩ (.slice ua ([]++xs).length uc)) (fun k=>k=w.heap.size∨k=w.heap.size+1):=
  (((((AB _ _ _ _).mono (fun k h=> .inl h))).trans ((AB _ _ _ _).mono (fun k h=> .inr h))).trans ((AB _ _ _ _).mono (fun k h=> .inr h))).trans ((AB _ _ _ _).mono (fun k h=> .inr h))
 exact⟨_,rfl,(O2.out.kp K5 (fun k hk=>by have:=QG k hk;omega)).mono (by omega),Below.kp B2 K5 B2.size (fun k hk=>by omega)⟩
end
section
open Go.RowKit
variable [∀(a b c d:Int),Decidable (BG a b c d)] [∀(a b c d:Nat),Decidable (DZ a b c d)] [∀(last:Int)(s:St),Decidable (Aq last s)] [∀(x:T4),Decidable (Du x)] [∀(n:Int)(s:List Int),Decidable (Dv n s)] [∀(n f:Int),Decidable (A_ n f)]
theorem Y6(x:Int)(w:World):Calls Tryz.prog 96 #[.int .i64 x,.int .i64 0,.int .i64 60] w fun e w'=>e= .returned (.bool (VW x))∧Below w.heap.size w w':=by
 by_cases h:0≤x∧x≤60
 ·have e:VW x=true:=by simp[VW,h]
  rw[e];refine(Ci x 0 60 w h.1 h.2).mono ?_;rintro e w' ⟨rfl,rfl⟩;exact⟨rfl,Below.refl _ _⟩
 have e:VW x=false:=by simp[VW];omega
 rw[e];refine(Dm x 0 60 w (by omega)).mono ?_;rintro e w' ⟨rfl,rfl⟩;exact⟨rfl,Below.refl _ _⟩
theorem pI(x:Int)(w:World):Calls Tryz.prog 81 #[.int .i64 x,.int .i64 0,.int .i64 60] w fun e w'=>e= .returned (.bool (VW x))∧Below w.heap.size w w':=by
 by_cases h:0≤x∧x≤60
 ·have e:VW x=true:=by simp[VW,h]
  rw[e];refine(H7 x 0 60 w h.1 h.2).mono ?_;rintro e w' ⟨rfl,rfl⟩;exact⟨rfl,Below.refl _ _⟩
 have e:VW x=false:=by simp[VW];omega
 rw[e];refine(L9 x 0 60 w (by omega)).mono ?_;rintro e w' ⟨rfl,rfl⟩;exact⟨rfl,Below.refl _ _⟩
theorem X4(n f:Int)(vo lo v:Int)(s:ByteArray)(ao:Option Addr)(ca:Nat)(xs:List Int)(d:ByteArray)(w:World)(hs:s.size≤33554432)(hd:d.size≤33554432)(hE:Env w)(ha:RI w (.slice ao xs.length ca) xs):
 Calls Tryz.prog 97 #[cv n f,sv vo lo v s (.slice ao xs.length ca) d] w fun e w'=>e= .returned (.bool (K8 n f vo lo v s xs d))∧Below w.heap.size w w':=by
 have QO:=hide fun w'(b:Below w.heap.size w w')=>O_ n f v s ao ca xs w' hs (hE.below b) (ha.below b);have NO:=hide fun w'(b:Below w.heap.size w w')=>YA d w' hd (hE.below b);have I1:=hide fun w'=>Y6 vo w';have I2:=hide fun w'=>Y6 lo w';unfold K8;generalize VW vo=b1 at *;generalize VW lo=b2 at *;generalize Gi n f v s xs=b3 at *;generalize (AP d).isSome=b4 at *;clear ha hE;obtain⟨w0,hw0,AO,LC,LS,DC⟩:=Gb w #[.int .i64 n,.int .i64 f] 48 #[.int .i64 vo,.int .i64 lo,.int .i64 v,.string s,.slice ao xs.length ca,.string d] 40;go_enter Tryz.func97,Tryz.ntmps97
 obtain⟨Ef,Ee,Ed,Ec,Eb,Ea⟩:=QQ LS 0 1 2 3 4 5;go_wp2_with fail
 clear hw0;refine(I1.out _).mono ?_;rintro _ w1 ⟨rfl,bb⟩;clear Ef Ee Ed Ec Eb Ea;have AZ:=bu AO bb;have Cx:=bb.size;replace LC:=LC.up bb;replace LS:=LS.up bb;clear AO bb;cases b1
 ·go_wp2;go_ret;exact⟨rfl,AZ⟩
 obtain⟨Ef,Ee,Ed,Ec,Eb,Ea⟩:=QQ LS 0 1 2 3 4 5;go_wp2_with fail
 refine(I2.out _).mono ?_;rintro _ w2 ⟨rfl,bb⟩;clear Ef Ee Ed Ec Eb Ea;have Ao:=bu AZ bb;have Ex:=bb.size;replace LC:=LC.up bb;replace LS:=LS.up bb;clear AZ bb;cases b2
 ·go_wp2;go_ret;exact⟨rfl,Ao⟩
 obtain⟨Ae,Ai⟩:=Cn LC 0 1;obtain⟨Ef,Ee,Ed,Ec,Eb,Ea⟩:=QQ LS 0 1 2 3 4 5;go_wp2_with fail
 refine(QO.out _ Ao).mono ?_;rintro _ w3 ⟨rfl,bb⟩;clear Ae Ai Ef Ee Ed Ec Eb Ea;have BK:=bu Ao bb;have IW:=bb.size;replace LC:=LC.up bb;replace LS:=LS.up bb;clear Ao bb;cases b3
 ·go_wp2;go_ret;exact⟨rfl,BK⟩
 obtain⟨Ef,Ee,Ed,Ec,Eb,Ea⟩:=QQ LS 0 1 2 3 4 5;go_wp2_with fail
 refine(NO.out _ BK).mono ?_;rintro _ w4 ⟨rfl,bb⟩;clear Ef Ee Ed Ec Eb Ea;have Co:=bu BK bb;have OJ:=bb.size;replace LC:=LC.up bb;replace LS:=LS.up bb;clear BK bb;go_wp2;go_ret;exact⟨rfl,Co⟩

theorem XP(n f:Int)(vo lo v:Int)(s:ByteArray)(ao:Option Addr)(ca:Nat)(xs:List Int)(d:ByteArray)(w:World)(hs:s.size≤1048576)(hd:d.size≤1048576)(ha:RI w (.slice ao xs.length ca) xs):
 Calls Tryz.prog 82 #[cv n f,sv vo lo v s (.slice ao xs.length ca) d] w fun e w'=>e= .returned (.bool (K8 n f vo lo v s xs d))∧Below w.heap.size w w':=by
 have QO:=hide fun w'(b:Below w.heap.size w w')=>Fv n f v s ao ca xs w' hs (ha.below b);have NO:=hide fun w'(b:Below w.heap.size w w')=>CW d w' (by omega);have I1:=hide fun w'=>pI vo w';have I2:=hide fun w'=>pI lo w';unfold K8;generalize VW vo=b1 at *;generalize VW lo=b2 at *;generalize Gi n f v s xs=b3 at *;generalize (AP d).isSome=b4 at *;clear ha;obtain⟨w0,hw0,AO,LC,LS,DC⟩:=Gb w #[.int .i64 n,.int .i64 f] 48 #[.int .i64 vo,.int .i64 lo,.int .i64 v,.string s,.slice ao xs.length ca,.string d] 40;go_enter Tryz.func82,Tryz.ntmps82
 obtain⟨Ef,Ee,Ed,Ec,Eb,Ea⟩:=QQ LS 0 1 2 3 4 5;go_wp2_with fail
 clear hw0;refine(I1.out _).mono ?_;rintro _ w1 ⟨rfl,bb⟩;clear Ef Ee Ed Ec Eb Ea;have AZ:=bu AO bb;have Cx:=bb.size;replace LC:=LC.up bb;replace LS:=LS.up bb;clear AO bb;cases b1
 ·go_wp2;go_ret;exact⟨rfl,AZ⟩
 obtain⟨Ef,Ee,Ed,Ec,Eb,Ea⟩:=QQ LS 0 1 2 3 4 5;go_wp2_with fail
 refine(I2.out _).mono ?_;rintro _ w2 ⟨rfl,bb⟩;clear Ef Ee Ed Ec Eb Ea;have Ao:=bu AZ bb;have Ex:=bb.size;replace LC:=LC.up bb;replace LS:=LS.up bb;clear AZ bb;cases b2
 ·go_wp2;go_ret;exact⟨rfl,Ao⟩
 obtain⟨Ae,Ai⟩:=Cn LC 0 1;obtain⟨Ef,Ee,Ed,Ec,Eb,Ea⟩:=QQ LS 0 1 2 3 4 5;go_wp2_with fail
 refine(QO.out _ Ao).mono ?_;rintro _ w3 ⟨rfl,bb⟩;clear Ae Ai Ef Ee Ed Ec Eb Ea;have BK:=bu Ao bb;have IW:=bb.size;replace LC:=LC.up bb;replace LS:=LS.up bb;clear Ao bb;cases b3
 ·go_wp2;go_ret;exact⟨rfl,BK⟩
 obtain⟨Ef,Ee,Ed,Ec,Eb,Ea⟩:=QQ LS 0 1 2 3 4 5;go_wp2_with fail
 refine(NO.out _ BK).mono ?_;rintro _ w4 ⟨rfl,bb⟩;clear Ef Ee Ed Ec Eb Ea;have Co:=bu BK bb;have OJ:=bb.size;replace LC:=LC.up bb;replace LS:=LS.up bb;clear BK bb;go_wp2;go_ret;exact⟨rfl,Co⟩
end
section
open Go.RowKit
def GG(a b:Pt):Bool:=decide (a.1<b.1)||(decide (a.1=b.1)&&Op.bytesLess a.2.1.toList b.2.1.toList)
def rowP:List Pt→Bool
 | []=>true
 | [_]=>true
 |a :: b :: t=>GG a b&&rowP (b :: t)

theorem VL(x:List UInt8):Op.bytesLess x x=false:=by
 induction x with
 |nil=>rfl
 |cons a x ih=>simp[Op.bytesLess,ih]
theorem Xt{x y:List UInt8}(h:Op.bytesLess x y=false)(hn:x≠y):Op.bytesLess y x=true:=by
 induction x generalizing y with
 |nil=>
  cases y with
  |nil=>exact absurd rfl hn
  |cons b y=>simp[Op.bytesLess]at h
 | cons a x ih=>
  cases y with
  |nil=>rfl
  | cons b y=>
   simp only[Op.bytesLess,Bool.or_eq_false_iff,decide_eq_false_iff_not,Bool.and_eq_false_imp,beq_iff_eq]at h;simp only[Op.bytesLess,Bool.or_eq_true,decide_eq_true_eq,Bool.and_eq_true,beq_iff_eq];by_cases e:a=b
   ·subst e;exact .inr ⟨rfl,ih (h.2 rfl) (fun e=>hn (by rw[e]))⟩
   left
   have h1:=h.1;rw[UInt8.lt_iff_toNat_lt]at h1⊢;have:a.toNat≠b.toNat:=fun e'=>e (UInt8.toNat_inj.1 e');omega
end
section
open Go.RowKit
variable [∀(n:Int)(s:List Int),Decidable (Dv n s)]
def QP(s t:ByteArray):Int:=if Op.bytesLess s.toList t.toList=true then -1 else if Op.bytesLess t.toList s.toList=true then 1 else 0
def V6(a b:Pt):Int:=if E8 a.1 b.1≠0 then E8 a.1 b.1 else QP a.2.1 b.2.1
theorem nT(s t:ByteArray):QP s t<0↔Op.bytesLess s.toList t.toList=true:=by
 unfold QP
 split
 ·simp_all
 split<;>simp_all
theorem nU(a b:Pt):V6 a b<0↔GG a b=true:=by
 have hs:=nT a.2.1 b.2.1;unfold V6 E8;simp only[GG,Bool.or_eq_true,decide_eq_true_eq,Bool.and_eq_true];rcases Int.lt_trichotomy a.1 b.1 with h|h|h
 ·simp[h]
 ·simp[h,hs]
 have h1:¬a.1<b.1:=by omega
 have h2:¬a.1=b.1:=by omega
 simp[h,h1,h2]
theorem mq(x:Int)(w:World):Calls Tryz.prog 237 #[.int .i64 x] w fun e w'=>e= .returned (.bool false)∧w'=w:=by
 go_enter Tryz.func237,Tryz.ntmps237
 go_wp2;go_ret;exact⟨by simp,rfl⟩

theorem eZ(x y:Int)(w:World):Calls Tryz.prog 212 #[.int .i64 x,.int .i64 y] w fun e w'=>e= .returned (.int .i64 (E8 x y))∧w'=w:=by
 have NN:=hide mq;unfold E8;by_cases h1:x<y
 ·rw[if_pos h1];go_enter Tryz.func212,Tryz.ntmps212
  go_wp2_with (first|(go_at_call 237;refine(NN.out _ _).mono ?_;rintro e w' ⟨rfl,rfl⟩))
  go_ret;exact⟨rfl,rfl⟩
 rw[if_neg h1];by_cases h2:y<x
 ·rw[if_pos h2];go_enter Tryz.func212,Tryz.ntmps212
  go_wp2_with (first|(go_at_call 237;refine(NN.out _ _).mono ?_;rintro e w' ⟨rfl,rfl⟩))
  go_ret;exact⟨rfl,rfl⟩
 rw[if_neg h2];go_enter Tryz.func212,Tryz.ntmps212
 go_wp2_with (first|(go_at_call 237;refine(NN.out _ _).mono ?_;rintro e w' ⟨rfl,rfl⟩))
 go_ret;exact⟨rfl,rfl⟩

theorem mg(s:ByteArray)(w:World):Calls Tryz.prog 238 #[.string s] w fun e w'=>e= .returned (.bool false)∧w'=w:=by
 go_enter Tryz.func238,Tryz.ntmps238
 go_wp2;go_ret;exact⟨by simp,rfl⟩

theorem eU(s t:ByteArray)(w:World):Calls Tryz.prog 214 #[.string s,.string t] w fun e w'=>e= .returned (.int .i64 (QP s t))∧w'=w:=by
 have NN:=hide mg;unfold QP;by_cases h1:Op.bytesLess s.toList t.toList=true
 ·rw[if_pos h1];go_enter Tryz.func214,Tryz.ntmps214
  go_wp2_with (first|(go_at_call 238;refine(NN.out _ _).mono ?_;rintro e w' ⟨rfl,rfl⟩))
  go_ret;exact⟨rfl,rfl⟩
 rw[if_neg h1];have h1:Op.bytesLess s.toList t.toList=false:=by simpa using h1
 by_cases h2:Op.bytesLess t.toList s.toList=true
 ·rw[if_pos h2]
  have h3:(s.toList==t.toList)=false:=by
   simp only[beq_eq_false_iff_ne];intro e;rw[e,VL]at h2;cases h2
  go_enter Tryz.func214,Tryz.ntmps214
  go_wp2_with (first|(go_at_call 238;refine(NN.out _ _).mono ?_;rintro e w' ⟨rfl,rfl⟩))
  go_ret;exact⟨rfl,rfl⟩
 rw[if_neg h2];have h2:Op.bytesLess t.toList s.toList=false:=by simpa using h2
 have h3:(s.toList==t.toList)=true:=by
  rw[beq_iff_eq];exact Classical.byContradiction fun e=>by have:=Xt h1 e;rw[h2]at this;cases this
 go_enter Tryz.func214,Tryz.ntmps214
 go_wp2_with (first|(go_at_call 238;refine(NN.out _ _).mono ?_;rintro e w' ⟨rfl,rfl⟩))
 go_ret;exact⟨rfl,rfl⟩

theorem iL(a b:Int)(g:Nat)(w:World)(h0:w.cell? ⟨g,0,none⟩=some (.int .i64 a))(h1:w.cell? ⟨g,1,none⟩=some (.int .i64 b)):
 Calls Tryz.prog 211 #[.slice (some ⟨g,0,none⟩) 2 2] w fun e w'=>e= .returned (.int .i64 (if a≠0 then a else b))∧w'=w:=by
 by_cases ha:a=0
 ·have e:(if a≠0 then a else b)=b:=by simp[ha]
  rw[e];subst ha;clear e;by_cases hb:b=0
  ·subst hb;go_enter Tryz.func211,Tryz.ntmps211
   go_wp2;refine wp_loop_rounds 3 ?_;rw[rounds_succ];go_wp2;rw[rounds_succ];go_wp2;rw[rounds_succ];go_wp2;go_ret;exact⟨rfl,rfl⟩
  go_enter Tryz.func211,Tryz.ntmps211
  go_wp2;refine wp_loop_rounds 2 ?_;rw[rounds_succ];go_wp2;rw[rounds_succ];go_wp2;go_ret;exact⟨rfl,rfl⟩
 have e:(if a≠0 then a else b)=a:=by simp[ha]
 rw[e];clear e;go_enter Tryz.func211,Tryz.ntmps211
 go_wp2;refine wp_loop_rounds 1 ?_;rw[rounds_succ];go_wp2;go_ret;exact⟨rfl,rfl⟩
end
section
open Go.RowKit
variable [∀(a b c d:Int),Decidable (BG a b c d)]
def NZ(w:World)(g k:Nat)(t:T4):Prop:=w.cell? ⟨g,k*4,none⟩=some (.int .i64 t.1)∧w.cell? ⟨g,k*4+1,none⟩=some (.int .i64 t.2.1)∧w.cell? ⟨g,k*4+2,none⟩=some (.int .i64 t.2.2.1)∧w.cell? ⟨g,k*4+3,none⟩=some (.int .i64 t.2.2.2)
end
section
open Go.RowKit
variable [∀(n:Int)(s:List Int),Decidable (Dv n s)] [∀(a b c d:Int),Decidable (BG a b c d)]
def Gs(x y:T4):Prop:=x.1<y.1∨(x.1=y.1∧x.2.2.2<y.2.2.2)
variable [∀(x y:T4),Decidable (Gs x y)]
def eu(x y:T4):Int:=if E8 x.1 y.1≠0 then E8 x.1 y.1 else E8 x.2.2.2 y.2.2.2
theorem nQ(x y:T4):eu x y<0↔Gs x y:=by
 unfold eu E8 Gs
 repeat' split
 all_goals omega
theorem Gs.trans{x y z:T4}(h:Gs x y)(k:Gs y z):Gs x z:=by unfold Gs at *; omega
theorem iw(x:Int)(w:World):Calls Tryz.prog 237 #[.int .i64 x] w fun e w'=>e= .returned (.bool false)∧w'=w:=by
 go_enter Tryz.func237,Tryz.ntmps237
 go_wp2;go_ret;exact⟨by simp,rfl⟩

theorem MG(x y:Int)(w:World):Calls Tryz.prog 212 #[.int .i64 x,.int .i64 y] w fun e w'=>e= .returned (.int .i64 (E8 x y))∧w'=w:=by
 have NN:=hide iw;unfold E8;by_cases h1:x<y
 ·rw[if_pos h1];go_enter Tryz.func212,Tryz.ntmps212
  go_wp2_with (first|(go_at_call 237;refine(NN.out _ _).mono ?_;rintro e w' ⟨rfl,rfl⟩))
  go_ret;exact⟨rfl,rfl⟩
 rw[if_neg h1];by_cases h2:y<x
 ·rw[if_pos h2];go_enter Tryz.func212,Tryz.ntmps212
  go_wp2_with (first|(go_at_call 237;refine(NN.out _ _).mono ?_;rintro e w' ⟨rfl,rfl⟩))
  go_ret;exact⟨rfl,rfl⟩
 rw[if_neg h2];go_enter Tryz.func212,Tryz.ntmps212
 go_wp2_with (first|(go_at_call 237;refine(NN.out _ _).mono ?_;rintro e w' ⟨rfl,rfl⟩))
 go_ret;exact⟨rfl,rfl⟩

theorem QN(x y:T4)(w:World):
 Calls Tryz.prog 179 #[Hg x.1 x.2.1 x.2.2.1 x.2.2.2,Hg y.1 y.2.1 y.2.2.1 y.2.2.2] w fun e w'=>e= .returned (.int .i64 (eu x y))∧Below w.heap.size w w':=by
 have OR:Hid (∀g w,w.cell? ⟨g,0,none⟩=some (.int .i64 (E8 x.1 y.1))→w.cell? ⟨g,1,none⟩=some (.int .i64 (E8 x.2.2.2 y.2.2.2))→Calls Tryz.prog 211 #[.slice (some ⟨g,0,none⟩) 2 2] w fun e w'=>e= .returned (.int .i64 (eu x y))∧w'=w):=hide fun g w h0 h1=>iL _ _ g w h0 h1;generalize eu x y=q at *;obtain⟨xa,xb,xc,xd⟩:=x;obtain⟨ya,yb,yc,yd⟩:=y;dsimp only at OR⊢;obtain⟨w0,hw0⟩:∃w0,(w.alloc (.cells (r4 xa xb xc xd) 73)).alloc (.cells (r4 ya yb yc yd) 73)=w0:=⟨_,rfl⟩
 have B0:Below w.heap.size w w0:=hw0▸((Below.refl _ _).alloc Ak _).alloc (by simp) _;have LX:Loc w0 w.heap.size (r4 xa xb xc xd):=hw0▸(AJ w _ _ rfl).alloc _;have LY:Loc w0 (w.heap.size+1) (r4 ya yb yc yd):=hw0▸AJ _ _ _ (by simp)
 have K:Hid (∀w',Below w0.heap.size w0 w'→(w'.cell? ⟨w.heap.size,0,none⟩=some (.int .i64 xa)∧w'.cell? ⟨w.heap.size,3,none⟩=some (.int .i64 xd))∧(w'.cell? ⟨w.heap.size+1,0,none⟩=some (.int .i64 ya)∧w'.cell? ⟨w.heap.size+1,3,none⟩=some (.int .i64 yd))):=hide fun w' hb=>by
  have l:=LX.up hb;have m:=LY.up hb;exact⟨⟨l.cell 0 rfl,l.cell 3 rfl⟩,⟨m.cell 0 rfl,m.cell 3 rfl⟩⟩
 go_enter Tryz.func179,Tryz.ntmps179
 go_wp2_with fail
 clear hw0;refine kC K (Below.drew (Below.refl _ _)) (fun hHeld=>?_);obtain⟨wd,hd⟩:∃wd,w0.drew=wd:=⟨_,rfl⟩
 have bd:Below w0.heap.size w0 wd:=hd▸Below.drew (Below.refl _ _);have uX:=bd.size;rw[hd]at hHeld⊢;clear hd;refine tx 0 5 ?_;refine tx 1 6 ?_;refine tx 2 7 ?_;refine tx 3 8 ?_;refine tx 5 10 ?_;refine tx 6 11 ?_;refine tx 7 12 ?_;refine tx 8 13 ?_;refine rd 4 rfl (fun KK AA=>?_);go_simp;refine(MG xa ya _).mono ?_;rintro _ w9 ⟨rfl,e9⟩;rw[e9];clear e9 hHeld;refine AA.out _ _ (K.out _ bd) (fun hHeld=>?_);clear AA KK;refine rd 9 rfl (fun KK AA=>?_);go_simp;refine(MG xd yd _).mono ?_;rintro _ w9 ⟨rfl,e9⟩;rw[e9];clear e9 hHeld;refine AA.out _ _ (K.out _ bd) (fun hHeld=>?_);clear AA KK;refine rd 10 rfl (fun KK AA=>?_);go_simp;obtain⟨we,he⟩:∃x,wd.alloc (.cells #[.int .i64 (E8 xa ya),.int .i64 (E8 xd yd)] 3)=x:=⟨_,rfl⟩
 have be:Below w0.heap.size w0 we:=he▸bd.alloc uX _;have LE:Loc we wd.heap.size #[.int .i64 (E8 xa ya),.int .i64 (E8 xd yd)]:=he▸AJ wd _ _ rfl;rw[he];clear hHeld;refine AA.out _ _ (K.out _ be) (fun hHeld=>?_);clear AA KK;refine rd 11 rfl (fun KK AA=>?_);go_simp;refine(OR.out _ _ (LE.cell 0 rfl) (LE.cell 1 rfl)).mono ?_;rintro _ w9 ⟨rfl,e9⟩;rw[e9];clear e9 hHeld;refine AA.out _ _ (K.out _ be) (fun hHeld=>?_);clear AA KK;refine tx 12 4 ?_;clear hHeld;refine Bw ?_;go_wp2;go_ret;exact⟨rfl,bu B0 be⟩

theorem Yt(x y:T4)(w:World):
 Calls Tryz.prog 127 #[Hg x.1 x.2.1 x.2.2.1 x.2.2.2,Hg y.1 y.2.1 y.2.2.1 y.2.2.2] w fun e w'=>e= .returned (.bool (decide (Gs x y)))∧Below w.heap.size w w':=by
 obtain⟨xa,xb,xc,xd⟩:=x;obtain⟨ya,yb,yc,yd⟩:=y;dsimp only;by_cases h1:xa<ya
 ·rw[show decide (Gs (xa,xb,xc,xd) (ya,yb,yc,yd))=true from decide_eq_true (Or.inl h1)];go_enter Tryz.func127,Tryz.ntmps127
  go_wp2;go_ret;exact⟨rfl,((Below.refl _ _).alloc Ak _).alloc (by simp) _⟩
 by_cases h2:xa=ya
 ·have e:decide (Gs (xa,xb,xc,xd) (ya,yb,yc,yd))=decide (xd<yd):=by
   have:Gs (xa,xb,xc,xd) (ya,yb,yc,yd)↔xd<yd:=by unfold Gs;dsimp only;omega
   simp only[this]
  rw[e];clear e;subst h2;go_enter Tryz.func127,Tryz.ntmps127
  go_wp2;go_ret;exact⟨rfl,((Below.refl _ _).alloc Ak _).alloc (by simp) _⟩
 rw[show decide (Gs (xa,xb,xc,xd) (ya,yb,yc,yd))=false from decide_eq_false (by unfold Gs;dsimp only;omega)];have h2:(xa==ya)=false:=by simpa using h2
 go_enter Tryz.func127,Tryz.ntmps127
 go_wp2;go_ret;exact⟨rfl,((Below.refl _ _).alloc Ak _).alloc (by simp) _⟩
end
section
open Go.RowKit
variable [∀(n:Int)(s:List Int),Decidable (Dv n s)] [∀(a b c d:Int),Decidable (BG a b c d)] [∀(x y:T4),Decidable (Gs x y)]
abbrev z4:T4:=(0,0,0,0)
def Asc(ts:List T4):Prop:=∀k,k<ts.length-1→Gs (ts.getD k z4) (ts.getD (k+1) z4)
def DU(ts:List T4):Prop:=∀k,k<ts.length→BG (ts.getD k z4).1 (ts.getD k z4).2.1 (ts.getD k z4).2.2.1 (ts.getD k z4).2.2.2
variable [∀(ts:List T4),Decidable (Asc ts)] [∀(ts:List T4),Decidable (DU ts)]
def JM(ts:List T4):Prop:=ts.length≤12∧DU ts∧Asc ts
variable [∀(ts:List T4),Decidable (JM ts)]
theorem RT.at{w:World}{ao:Option Addr}{n ca:Nat}{xs:List T4}(h:RT w (.slice ao n ca) xs)(k:Nat)(hk:k<xs.length):∃g,ao=some ⟨g,0,none⟩∧NZ w g k (xs.getD k z4):=by
 obtain⟨_,QR,V8,e,h⟩:=h;cases e
 rcases h with rfl|⟨g,rfl,h⟩
 ·simp at hk
 exact⟨g,rfl,h k hk⟩
theorem RT.form{w:World}{v:Value}{xs:List T4}(h:RT w v xs):∃ao ca,v= .slice ao xs.length ca:=by obtain⟨_,ao,ca,e,_⟩:=h;exact⟨ao,ca,e⟩
theorem NZ.below{w w':World}{B g k:Nat}{t:T4}(h:NZ w g k t)(hb:Below B w w')(hg:w.heap.size≤B:=by exact Nat.le_refl _):NZ w' g k t:=by
 have hl:g<B:=Nat.lt_of_lt_of_le (AQ h.1) hg;exact⟨(hb.cell (p:=⟨g,k*4,none⟩) hl).trans h.1,(hb.cell (p:=⟨g,k*4+1,none⟩) hl).trans h.2.1,(hb.cell (p:=⟨g,k*4+2,none⟩) hl).trans h.2.2.1,(hb.cell (p:=⟨g,k*4+3,none⟩) hl).trans h.2.2.2⟩

theorem bP(a b c d:Int)(w:World):
 Calls Tryz.prog 140 #[Hg a b c d] w fun e w'=>e= .returned (.bool (!decide (BG a b c d)))∧Below w.heap.size w w':=by
 have TO:=hide fun w=>VX a b c d w;go_enter Tryz.func140,Tryz.ntmps140
 go_wp2_with (first|(go_at_call 178;refine(TO.out _).mono ?_;rintro e w' ⟨rfl,bb⟩))
 go_ret;exact⟨rfl,((Below.refl _ _).alloc Ak _).trans (bb.mono (by simp))⟩

theorem dW(v:Value)(ts:List T4)(w:World)(h:RT w v ts):
 Calls Tryz.prog 177 #[v,.func (.func 140) #[] #[]] w fun e w'=>∃i:Int,e= .returned (.int .i64 i)∧(0≤i↔¬DU ts)∧Below w.heap.size w w':=by
 obtain⟨ao,ca,rfl⟩:=h.form;have hl:=h.1;have H:=hide h;obtain⟨n,hn⟩:∃n,ts.length=n:=⟨_,rfl⟩
 have Hn:=hide hn;rw[hn]at hl H⊢;clear h hn;go_enter Tryz.func177,Tryz.ntmps177
 go_wp2
 go_loopw [8] (fun i wr=>∃k:Nat,k≤n∧i= .int .i64 k∧Hid (∀j,j<k→BG (ts.getD j z4).1 (ts.getD j z4).2.1 (ts.getD j z4).2.2.1 (ts.getD j z4).2.2.2)∧Below w.heap.size w wr) (fun i _=>n-(intOf i).toNat)
 case atStart=>exact⟨0,Nat.zero_le _,rfl,hide (fun j hj=>absurd hj (Nat.not_lt_zero j)),Below.refl _ _⟩
 case round=>
  obtain⟨k,hk,rfl,HA,br⟩:=hrel;by_cases hlt:k<n
  ·obtain⟨g,rfl,hc⟩:=H.out.at k (by rw[Hn.out];exact hlt);obtain⟨c0,c1,c2,c3⟩:=hc.below br;have NT:=hide fun w=>bP (ts.getD k z4).1 (ts.getD k z4).2.1 (ts.getD k z4).2.2.1 (ts.getD k z4).2.2.2 w
   have HS:=hide fun(h:BG (ts.getD k z4).1 (ts.getD k z4).2.1 (ts.getD k z4).2.2.1 (ts.getD k z4).2.2.2)=>(show∀j,j<k+1→BG (ts.getD j z4).1 (ts.getD j z4).2.1 (ts.getD j z4).2.2.1 (ts.getD j z4).2.2.2 from fun j hj=>by
    by_cases e:j=k
    ·rw[e];exact h
    exact HA.out j (by omega))
   have HN:Hid (¬BG (ts.getD k z4).1 (ts.getD k z4).2.1 (ts.getD k z4).2.2.1 (ts.getD k z4).2.2.2→¬DU ts):=hide fun h ha=>h (ha k (by rw[Hn.out];exact hlt));clear HA hc;generalize ts.getD k z4=x at *;obtain⟨xa,xb,xc,xd⟩:=x;dsimp only at c0 c1 c2 c3 NT HS HN;by_cases ho:BG xa xb xc xd
   ·rw[decide_eq_true ho]at NT;have HS:=hide (HS.out ho);clear HN ho;go_wp2_with (first|(go_at_call 140;refine(NT.out _).mono ?_;rintro e w2 ⟨rfl,b2⟩))
    go_roundw
    case rel=>exact⟨k+1,by omega,by go_num,HS,bu br b2⟩
    case measure=>simp[intOf];omega
   rw[decide_eq_false ho]at NT;have HN:=hide (HN.out ho);clear HS ho;go_wp2_with (first|(go_at_call 140;refine(NT.out _).mono ?_;rintro e w2 ⟨rfl,b2⟩))
   go_ret;exact⟨k,rfl,by simp[HN.out],bu br b2⟩
  have hkn:k=n:=by omega
  have HN:Hid (DU ts):=hide fun j hj=>HA.out j (by have:=Hn.out;omega);clear HA;subst hkn;go_wp2;go_ret;exact⟨-1,rfl,by simp[HN.out],br⟩

theorem Sn(v:Value)(ts:List T4)(w:World)(h:RT w v ts):
 Calls Tryz.prog 139 #[v,.func (.func 140) #[] #[]] w fun e w'=>e= .returned (.bool (!decide (DU ts)))∧Below w.heap.size w w':=by
 have IX:=hide fun w h=>dW v ts w h;have H:=hide h;obtain⟨ao,ca,rfl⟩:=h.form;clear h;go_enter Tryz.func139,Tryz.ntmps139
 go_wp2_with fail
 refine(IX.out _ H.out).mono ?_;rintro e w2 ⟨i,rfl,hi,b2⟩;go_wp2;go_ret;refine⟨?_,b2⟩;by_cases hA:DU ts
 ·rw[decide_eq_true hA];have:¬0≤i:=fun h=>hi.1 h hA;simp
 rw[decide_eq_false hA];have:0≤i:=hi.2 hA;simp

theorem Tw(ao:Option Addr)(n ca:Nat)(w:World):
 Calls Tryz.prog 141 #[.slice ao n ca] w fun e w'=>e= .returned (.agg #[.slice ao n ca,.func (.func 179) #[] #[]])∧Below w.heap.size w w':=by
 go_enter Tryz.func141,Tryz.ntmps141
 go_wp2;refine bodyPost_ret (v:= .agg #[.slice ao n ca,.func (.func 179) #[] #[]]) (by simp[results,Tryz.results141,go_sem]) rfl ?_;exact⟨rfl,(Below.refl _ _).alloc Ak _⟩

theorem WH(v:Value)(ts:List T4)(w:World)(h:RT w v ts):
 Calls Tryz.prog 142 #[.agg #[v,.func (.func 179) #[] #[]]] w fun e w'=>e= .returned (.bool (decide (Asc ts)))∧Below w.heap.size w w':=by
 obtain⟨ao,ca,rfl⟩:=h.form;have hl:=h.1;have H:=hide h;obtain⟨n,hn⟩:∃n,ts.length=n:=⟨_,rfl⟩
 have Hn:=hide hn;rw[hn]at hl H⊢;clear h hn;obtain⟨w0,hw0⟩:∃w0,w.alloc (.cells #[.slice ao n ca,.func (.func 179) #[] #[]] 179)=w0:=⟨_,rfl⟩
 have B0:Below w.heap.size w w0:=hw0▸(Below.refl _ _).alloc Ak _;have L0:Loc w0 w.heap.size #[.slice ao n ca,.func (.func 179) #[] #[]]:=hw0▸AJ w _ _ rfl;go_enter Tryz.func142,Tryz.ntmps142
 go_wp2;clear hw0
 go_loopw [3] (fun i wr=>∃m:Nat,1≤m∧m≤n+1∧i= .int .i64 m∧Hid (∀j,j+1<m→j<n-1→Gs (ts.getD j z4) (ts.getD (j+1) z4))∧Loc wr w.heap.size #[.slice ao n ca,.func (.func 179) #[] #[]]∧Below w.heap.size w wr) (fun i _=>n+1-(intOf i).toNat)
 case atStart=>exact⟨1,Nat.le_refl _,by omega,by go_num,hide (fun j hj=>absurd hj (by omega)),L0,B0⟩
 case round=>
  clear L0 B0;obtain⟨m,hm1,hm,rfl,HA,L,br⟩:=hrel;have q0:=L.cell 0 rfl;have q1:=L.cell 1 rfl;by_cases hlt:m<n
  ·obtain⟨k,hk⟩:∃k,m=k+1:=⟨m-1,by omega⟩
   have hk1:(m:Int)-1=(k:Int):=by omega
   have hwk:IntKind.i64.wrap (k:Int)=(k:Int):=by rw[IntKind.wrap_i64];omega
   have hkn:k<n:=by omega
   obtain⟨g,rfl,hx⟩:=H.out.at k (by rw[Hn.out];omega);obtain⟨g',e,hy⟩:=H.out.at m (by rw[Hn.out];omega);cases e
   have CX:=hide (hx.below br);have CY:=hide (hy.below br);have CT:=hide fun w=>QN (ts.getD k z4) (ts.getD m z4) w
   have HS:=hide fun(h:Gs (ts.getD k z4) (ts.getD m z4))=>(show∀j,j+1<m+1→j<n-1→Gs (ts.getD j z4) (ts.getD (j+1) z4) from fun j hj hj2=>by
    by_cases e:j=k
    ·rw[e,←hk];exact h
    exact HA.out j (by omega) hj2)
   have HN:Hid (¬Gs (ts.getD k z4) (ts.getD m z4)→¬Asc ts):=hide fun h ha=>h (by have:=ha k (by rw[Hn.out];omega);rwa [←hk]at this);have hcm:=hide (nQ (ts.getD k z4) (ts.getD m z4));clear HA hx hy;generalize eu (ts.getD k z4) (ts.getD m z4)=q at *;generalize Gs (ts.getD k z4) (ts.getD m z4)=BF at *;generalize ts.getD k z4=x at *;generalize ts.getD m z4=y at *;obtain⟨xa,xb,xc,xd⟩:=x;obtain⟨ya,yb,yc,yd⟩:=y;dsimp only at CT
   have K:Hid (∀w',Below wr.heap.size wr w'→(w'.cell? ⟨w.heap.size,0,none⟩=some (.slice (some ⟨g,0,none⟩) n ca)∧w'.cell? ⟨w.heap.size,1,none⟩=some (.func (.func 179) #[] #[]))∧(w'.cell? ⟨g,k*4,none⟩=some (.int .i64 xa)∧w'.cell? ⟨g,k*4+1,none⟩=some (.int .i64 xb)∧w'.cell? ⟨g,k*4+2,none⟩=some (.int .i64 xc)∧w'.cell? ⟨g,k*4+3,none⟩=some (.int .i64 xd))∧(w'.cell? ⟨g,m*4,none⟩=some (.int .i64 ya)∧w'.cell? ⟨g,m*4+1,none⟩=some (.int .i64 yb)∧w'.cell? ⟨g,m*4+2,none⟩=some (.int .i64 yc)∧w'.cell? ⟨g,m*4+3,none⟩=some (.int .i64 yd))):=hide fun w' hb=>by
    have l:=L.up hb;have x:=CX.out.below hb;have y:=CY.out.below hb;exact⟨⟨l.cell 0 rfl,l.cell 1 rfl⟩,x,y⟩
   have bA:Below wr.heap.size wr wr.drew:=Below.drew (Below.refl _ _);have Dk:=K.out _ bA;replace hk:=hide hk;clear CX CY;go_wp2_with fail
   refine wp_region_noPanic ?_;refine wp_region_held_drew (S:=(fun w'=>(w'.cell? ⟨w.heap.size,0,none⟩=some (.slice (some ⟨g,0,none⟩) n ca)∧w'.cell? ⟨w.heap.size,1,none⟩=some (.func (.func 179) #[] #[]))∧(w'.cell? ⟨g,k*4,none⟩=some (.int .i64 xa)∧w'.cell? ⟨g,k*4+1,none⟩=some (.int .i64 xb)∧w'.cell? ⟨g,k*4+2,none⟩=some (.int .i64 xc)∧w'.cell? ⟨g,k*4+3,none⟩=some (.int .i64 xd))∧(w'.cell? ⟨g,m*4,none⟩=some (.int .i64 ya)∧w'.cell? ⟨g,m*4+1,none⟩=some (.int .i64 yb)∧w'.cell? ⟨g,m*4+2,none⟩=some (.int .i64 yc)∧w'.cell? ⟨g,m*4+3,none⟩=some (.int .i64 yd)))) (by kernel_rfl) Dk (fun hHeld=>?_);refine tx 0 11 ?_;refine tx 1 12 ?_;refine tx 2 13 ?_;refine tx 3 14 ?_;refine tx 4 15 ?_;refine tx 5 16 ?_;refine tx 6 17 ?_;refine tx 7 18 ?_;refine tx 8 19 ?_;refine tx 9 20 ?_;refine tx 10 21 ?_;refine tx 11 22 ?_;refine tx 12 23 ?_;refine rd 13 rfl (fun KK AA=>?_);go_simp;refine(CT.out _).mono ?_;rintro _ wa ⟨rfl,ba⟩;have bB:Below wr.heap.size wr wa:=bA.trans ba;clear hHeld;refine AA.out _ _ (K.out _ bB) (fun hHeld=>?_);clear AA KK;refine tx 14 25 ?_;clear hHeld;refine Bw ?_;have LB:=L.up bB;have BB:=bu br bB;by_cases hq:q<0
   ·have HS:=hide (HS.out (hcm.out.1 hq));have hq0:¬0≤q:=by omega
    clear hcm HN;go_wp2
    go_roundw
    case rel=>exact⟨m+1,by omega,by omega,by go_num,HS,LB,BB⟩
    case measure=>simp[intOf];omega
   have hno:decide (Asc ts)=false:=decide_eq_false (HN.out (fun h=>hq (hcm.out.2 h)));have hq0:0≤q:=by omega
   clear hcm HS HN;go_wp2;go_ret;exact⟨by first|rfl|(rw[hno];rfl),BB⟩
  have rV:decide (Asc ts)=true:=decide_eq_true fun j hj=>HA.out j (by have:=Hn.out;omega) (by have:=Hn.out;omega);clear HA;go_wp2;go_ret;exact⟨by first|rfl|(rw[rV];rfl),br⟩
end
section
open Go.RowKit
variable [∀(n:Int)(s:List Int),Decidable (Dv n s)] [∀(a b c d:Int),Decidable (BG a b c d)] [∀(x y:T4),Decidable (Gs x y)] [∀(ts:List T4),Decidable (Asc ts)] [∀(ts:List T4),Decidable (DU ts)] [∀(ts:List T4),Decidable (JM ts)]
theorem X_(v:Value)(ts:List T4)(w:World)(h:RT w v ts):
 Calls Tryz.prog 98 #[v] w fun e w'=>e= .returned (.bool (decide (JM ts)))∧Below w.heap.size w w':=by
 have CF:=hide fun w h=>Sn v ts w h;have AS:=hide fun w h=>WH v ts w h;have H:=hide h;have hl:=h.1;obtain⟨ao,ca,rfl⟩:=h.form;clear h;by_cases h1:ts.length≤12
 ·by_cases h2:DU ts
  ·rw[decide_eq_true h2]at CF
   have e:decide (JM ts)=decide (Asc ts):=by
    by_cases h3:Asc ts
    ·rw[decide_eq_true h3,decide_eq_true (show JM ts from⟨h1,h2,h3⟩)]
    rw[decide_eq_false h3,decide_eq_false (fun h:JM ts=>h3 h.2.2)]
   rw[e];clear e h2;go_enter Tryz.func98,Tryz.ntmps98
   go_wp2_with fail
   refine(CF.out _ H.out).mono ?_;rintro _ w1 ⟨rfl,b1⟩;go_wp2_with fail
   refine(Tw _ _ _ _).mono ?_;rintro _ w2 ⟨rfl,b2⟩;have B2:=bu b1 b2;go_wp2_with fail
   refine(AS.out _ (H.out.below B2)).mono ?_;rintro _ w3 ⟨rfl,b3⟩;have B3:=bu B2 b3;go_wp2;go_ret;exact⟨rfl,B3⟩
  rw[decide_eq_false h2]at CF;rw[decide_eq_false (fun h:JM ts=>h2 h.2.1)];clear h2 AS;go_enter Tryz.func98,Tryz.ntmps98
  go_wp2_with fail
  refine(CF.out _ H.out).mono ?_;rintro _ w1 ⟨rfl,b1⟩;go_wp2;go_ret;exact⟨rfl,b1⟩
 rw[decide_eq_false (fun h:JM ts=>h1 h.1)];have h1:decide ((ts.length:Int)≤12)=false:=by simp;omega
 clear CF AS;go_enter Tryz.func98,Tryz.ntmps98
 go_wp2;go_ret;exact⟨rfl,Below.refl _ _⟩

def fJ(ts:List T4)(m:Nat):Prop:=∀j,j<m→BG (ts.getD j z4).1 (ts.getD j z4).2.1 (ts.getD j z4).2.2.1 (ts.getD j z4).2.2.2∧(∀i,j=i+1→Gs (ts.getD i z4) (ts.getD j z4))
theorem fJ.succ{ts:List T4}{m:Nat}(h:fJ ts m)(h1:BG (ts.getD m z4).1 (ts.getD m z4).2.1 (ts.getD m z4).2.2.1 (ts.getD m z4).2.2.2)(h2:∀i,m=i+1→Gs (ts.getD i z4) (ts.getD m z4)):fJ ts (m+1):=fun j hj=>by
 by_cases e:j=m
 ·subst e;exact⟨h1,h2⟩
 exact h j (by omega)
theorem fJ.all{ts:List T4}(h:fJ ts ts.length):DU ts∧Asc ts:=⟨fun k hk=>(h k hk).1,fun k hk=>(h (k+1) (by omega)).2 k rfl⟩

theorem XY(v:Value)(ts:List T4)(w:World)(h:RT w v ts):
 Calls Tryz.prog 83 #[v] w fun e w'=>e= .returned (.bool (decide (JM ts)))∧Below w.heap.size w w':=by
 obtain⟨ao,ca,rfl⟩:=h.form;have hl:=h.1;have H:=hide h;obtain⟨n,hn⟩:∃n,ts.length=n:=⟨_,rfl⟩
 have Hn:=hide hn;rw[hn]at hl H⊢;clear h hn;go_enter Tryz.func83,Tryz.ntmps83
 go_wp2
 go_loopw [3] (fun i wr=>∃m:Nat,m≤n∧i= .int .i64 m∧Hid (fJ ts m)∧Below w.heap.size w wr) (fun i _=>n-(intOf i).toNat)
 case atStart=>exact⟨0,Nat.zero_le _,rfl,hide (fun j hj=>absurd hj (Nat.not_lt_zero j)),Below.refl _ _⟩
 case round=>
  obtain⟨m,hm,rfl,HA,br⟩:=hrel;by_cases hlt:m<n
  ·obtain⟨g,rfl,hy⟩:=H.out.at m (by rw[Hn.out];exact hlt);have CY:=hide (hy.below br);have TO:=hide fun w=>Gy (ts.getD m z4).1 (ts.getD m z4).2.1 (ts.getD m z4).2.2.1 (ts.getD m z4).2.2.2 w;have bA:Below wr.heap.size wr wr.drew:=Below.drew (Below.refl _ _);by_cases ho:BG (ts.getD m z4).1 (ts.getD m z4).2.1 (ts.getD m z4).2.2.1 (ts.getD m z4).2.2.2
   ·rw[decide_eq_true ho]at TO;by_cases h0:m=0
    ·have HS:=hide (HA.out.succ ho (fun i hi=>by omega));subst h0;clear ho HA hy;generalize ts.getD 0 z4=y at *;obtain⟨ya,yb,yc,yd⟩:=y;dsimp only at TO;have K:Hid (∀w',Below wr.heap.size wr w'→(w'.cell? ⟨g,0*4,none⟩=some (.int .i64 ya)∧w'.cell? ⟨g,0*4+1,none⟩=some (.int .i64 yb)∧w'.cell? ⟨g,0*4+2,none⟩=some (.int .i64 yc)∧w'.cell? ⟨g,0*4+3,none⟩=some (.int .i64 yd))):=hide fun w' hb=>CY.out.below hb;clear CY;go_wp2_with fail
     refine kC K bA (fun hHeld=>?_);refine tx 0 10 ?_;refine tx 1 11 ?_;refine tx 2 12 ?_;refine tx 3 13 ?_;refine rd 4 rfl (fun KK AA=>?_);go_simp;refine(TO.out _).mono ?_;rintro _ wa ⟨rfl,ba⟩;have bB:Below wr.heap.size wr wa:=bA.trans ba;clear hHeld;refine AA.out _ _ (K.out _ bB) (fun hHeld=>?_);clear AA KK;refine tx 5 15 ?_;refine tx 6 16 ?_;refine tx 7 17 ?_;refine tx 8 18 ?_;refine tx 9 19 ?_;refine sx 10 20 ?_;refine sx 11 21 ?_;refine sx 12 22 ?_;refine sx 13 23 ?_;refine sx 14 24 ?_;refine sx 15 25 ?_;refine sx 16 26 ?_;refine sx 17 27 ?_;refine sx 18 28 ?_;refine sx 19 29 ?_;refine sx 20 30 ?_;refine tx 21 31 ?_;refine tx 22 32 ?_;clear hHeld;refine Bw ?_;have BB:=bu br bB;go_wp2
     go_roundw
     case rel=>exact⟨1,by omega,by go_num,HS,BB⟩
     case measure=>simp[intOf];omega
    obtain⟨k,hk⟩:∃k,m=k+1:=⟨m-1,by omega⟩
    have hk1:(m:Int)-1=(k:Int):=by omega
    have hwk:IntKind.i64.wrap (k:Int)=(k:Int):=by rw[IntKind.wrap_i64];omega
    have hkn:k<n:=by omega
    have hm0:0<m:=by omega
    have hmd:decide ((0:Int)<(m:Int))=true:=by simp;omega
    obtain⟨g',e,hx⟩:=H.out.at k (by rw[Hn.out];exact hkn);cases e
    have CX:=hide (hx.below br);have BF:=hide fun w=>Yt (ts.getD k z4) (ts.getD m z4) w;have HS:=hide fun(hb:Gs (ts.getD k z4) (ts.getD m z4))=>HA.out.succ ho (fun i hi=>by rw[show i=k from by omega];exact hb);have HN:Hid (¬Gs (ts.getD k z4) (ts.getD m z4)→¬JM ts):=hide fun h ha=>h (by have:=ha.2.2 k (by rw[Hn.out];omega);rwa [←hk]at this);replace hk:=hide hk;clear ho HA hy hx h0;by_cases hb:Gs (ts.getD k z4) (ts.getD m z4)
    ·rw[decide_eq_true hb]at BF;replace HS:=hide (HS.out hb);clear HN hb;generalize ts.getD m z4=y at *;generalize ts.getD k z4=x at *;obtain⟨ya,yb,yc,yd⟩:=y;obtain⟨xa,xb,xc,xd⟩:=x;dsimp only at TO BF;have K:Hid (∀w',Below wr.heap.size wr w'→(w'.cell? ⟨g,k*4,none⟩=some (.int .i64 xa)∧w'.cell? ⟨g,k*4+1,none⟩=some (.int .i64 xb)∧w'.cell? ⟨g,k*4+2,none⟩=some (.int .i64 xc)∧w'.cell? ⟨g,k*4+3,none⟩=some (.int .i64 xd))∧(w'.cell? ⟨g,m*4,none⟩=some (.int .i64 ya)∧w'.cell? ⟨g,m*4+1,none⟩=some (.int .i64 yb)∧w'.cell? ⟨g,m*4+2,none⟩=some (.int .i64 yc)∧w'.cell? ⟨g,m*4+3,none⟩=some (.int .i64 yd))):=hide fun w' hb=>⟨CX.out.below hb,CY.out.below hb⟩
     clear CX CY;go_wp2_with fail
     refine kC K bA (fun hHeld=>?_);refine tx 0 10 ?_;refine tx 1 11 ?_;refine tx 2 12 ?_;refine tx 3 13 ?_;refine rd 4 rfl (fun KK AA=>?_);go_simp;refine(TO.out _).mono ?_;rintro _ wa ⟨rfl,ba⟩;have bB:Below wr.heap.size wr wa:=bA.trans ba;clear hHeld;refine AA.out _ _ (K.out _ bB) (fun hHeld=>?_);clear AA KK;refine tx 5 15 ?_;refine tx 6 16 ?_;refine tx 7 17 ?_;refine tx 8 18 ?_;refine tx 9 19 ?_;refine tx 10 20 ?_;refine tx 11 21 ?_;refine tx 12 22 ?_;refine tx 13 23 ?_;refine tx 14 24 ?_;refine tx 15 25 ?_;refine tx 16 26 ?_;refine tx 17 27 ?_;refine tx 18 28 ?_;refine rd 19 rfl (fun KK AA=>?_);go_simp;refine(BF.out _).mono ?_;rintro _ wb ⟨rfl,bb⟩;have bC:Below wr.heap.size wr wb:=bu bB bb;clear hHeld;refine AA.out _ _ (K.out _ bC) (fun hHeld=>?_);clear AA KK;refine tx 20 30 ?_;refine tx 21 31 ?_;refine tx 22 32 ?_;clear hHeld;refine Bw ?_;have BB:=bu br bC;go_wp2
     go_roundw
     case rel=>exact⟨m+1,by omega,by go_num,HS,BB⟩
     case measure=>simp[intOf];omega
    rw[decide_eq_false hb]at BF;have hno:=decide_eq_false (HN.out hb);clear HN hb HS;generalize ts.getD m z4=y at *;generalize ts.getD k z4=x at *;obtain⟨ya,yb,yc,yd⟩:=y;obtain⟨xa,xb,xc,xd⟩:=x;dsimp only at TO BF;have K:Hid (∀w',Below wr.heap.size wr w'→(w'.cell? ⟨g,k*4,none⟩=some (.int .i64 xa)∧w'.cell? ⟨g,k*4+1,none⟩=some (.int .i64 xb)∧w'.cell? ⟨g,k*4+2,none⟩=some (.int .i64 xc)∧w'.cell? ⟨g,k*4+3,none⟩=some (.int .i64 xd))∧(w'.cell? ⟨g,m*4,none⟩=some (.int .i64 ya)∧w'.cell? ⟨g,m*4+1,none⟩=some (.int .i64 yb)∧w'.cell? ⟨g,m*4+2,none⟩=some (.int .i64 yc)∧w'.cell? ⟨g,m*4+3,none⟩=some (.int .i64 yd))):=hide fun w' hb=>⟨CX.out.below hb,CY.out.below hb⟩
    clear CX CY;go_wp2_with fail
    refine kC K bA (fun hHeld=>?_);refine tx 0 10 ?_;refine tx 1 11 ?_;refine tx 2 12 ?_;refine tx 3 13 ?_;refine rd 4 rfl (fun KK AA=>?_);go_simp;refine(TO.out _).mono ?_;rintro _ wa ⟨rfl,ba⟩;have bB:Below wr.heap.size wr wa:=bA.trans ba;clear hHeld;refine AA.out _ _ (K.out _ bB) (fun hHeld=>?_);clear AA KK;refine tx 5 15 ?_;refine tx 6 16 ?_;refine tx 7 17 ?_;refine tx 8 18 ?_;refine tx 9 19 ?_;refine tx 10 20 ?_;refine tx 11 21 ?_;refine tx 12 22 ?_;refine tx 13 23 ?_;refine tx 14 24 ?_;refine tx 15 25 ?_;refine tx 16 26 ?_;refine tx 17 27 ?_;refine tx 18 28 ?_;refine rd 19 rfl (fun KK AA=>?_);go_simp;refine(BF.out _).mono ?_;rintro _ wb ⟨rfl,bb⟩;have bC:Below wr.heap.size wr wb:=bu bB bb;clear hHeld;refine AA.out _ _ (K.out _ bC) (fun hHeld=>?_);clear AA KK;refine tx 20 30 ?_;refine tx 21 31 ?_;refine tx 22 32 ?_;clear hHeld;refine Bw ?_;have BB:=bu br bC;go_wp2;go_ret;exact⟨by first|rfl|(rw[hno];rfl),BB⟩
   rw[decide_eq_false ho]at TO;have hno:=decide_eq_false (fun h:JM ts=>ho (h.2.1 m (by rw[Hn.out];exact hlt)));clear ho HA hy;generalize ts.getD m z4=y at *;obtain⟨ya,yb,yc,yd⟩:=y;dsimp only at TO;have K:Hid (∀w',Below wr.heap.size wr w'→(w'.cell? ⟨g,m*4,none⟩=some (.int .i64 ya)∧w'.cell? ⟨g,m*4+1,none⟩=some (.int .i64 yb)∧w'.cell? ⟨g,m*4+2,none⟩=some (.int .i64 yc)∧w'.cell? ⟨g,m*4+3,none⟩=some (.int .i64 yd))):=hide fun w' hb=>CY.out.below hb;clear CY;go_wp2_with fail
   refine kC K bA (fun hHeld=>?_);refine tx 0 10 ?_;refine tx 1 11 ?_;refine tx 2 12 ?_;refine tx 3 13 ?_;refine rd 4 rfl (fun KK AA=>?_);go_simp;refine(TO.out _).mono ?_;rintro _ wa ⟨rfl,ba⟩;have bB:Below wr.heap.size wr wa:=bA.trans ba;clear hHeld;refine AA.out _ _ (K.out _ bB) (fun hHeld=>?_);clear AA KK;refine tx 5 15 ?_;refine tx 6 16 ?_;refine sx 7 17 ?_;refine sx 8 18 ?_;refine sx 9 19 ?_;refine sx 10 20 ?_;refine sx 11 21 ?_;refine sx 12 22 ?_;refine sx 13 23 ?_;refine sx 14 24 ?_;refine sx 15 25 ?_;refine sx 16 26 ?_;refine sx 17 27 ?_;refine sx 18 28 ?_;refine sx 19 29 ?_;refine sx 20 30 ?_;refine sx 21 31 ?_;refine tx 22 32 ?_;clear hHeld;refine Bw ?_;have BB:=bu br bB;go_wp2;go_ret;exact⟨by first|rfl|(rw[hno];rfl),BB⟩
  have hmn:m=n:=by omega
  have e:decide (JM ts)=decide ((n:Int)≤12):=by
   have hA:=HA.out;rw[hmn,←Hn.out]at hA;have:=hA.all;by_cases h12:n≤12
   ·rw[decide_eq_true (show JM ts from⟨by rw[Hn.out];exact h12,this.1,this.2⟩)];simp;omega
   rw[decide_eq_false (fun h:JM ts=>h12 (by rw[←Hn.out];exact h.1))];simp;omega
  clear HA;subst hmn;replace e:=hide e;go_wp2;go_ret;exact⟨by rw[e.out];rfl,br⟩
end
end Go.Proofs.YtcjmcgolgbkknaaGreatDoor
