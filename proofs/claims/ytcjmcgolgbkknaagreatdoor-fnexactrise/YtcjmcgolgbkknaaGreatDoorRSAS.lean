/- Lemmas; their conditions stand in each statement. -/
import Derived.Test.YtcjmcgolgbkknaaGreatDoorRSAO
set_option maxRecDepth 100000
set_option maxHeartbeats 16000000
set_option linter.unusedSectionVars false
namespace Go.Proofs.YtcjmcgolgbkknaaGreatDoor
section
open Go.RowKit
variable [∀(a b c d:Int),Decidable (BD a b c d)] [∀(n f:Int),Decidable (A_ n f)] [∀(a b c d:Nat),Decidable (Dg a b c d)] [∀(x:T4),Decidable (Dt x)]
structure vE(t:Cu)(rs:List Pr):Prop where
 s:t.s.size≤maxLen
 q:t.qw.length≤maxLen
 d:t.d.size≤maxLen
 p:t.pool.length≤maxLen
 tb:rs.length≤maxLen
 tt:∀r ∈ rs,r.2.1.size≤maxLen∧r.2.2.2.2.length≤maxLen
 k:t.Ad.length≤maxLen
 h:t.held.length≤maxLen
 hh:∀p ∈ t.held,MB p.2
abbrev xV(t:Cu)(a b c d e:Value):Value:=I_ t a b c d e
theorem f_(t:Cu)(ao bo co od oe:Option Addr)(ca cb cc cd ce:Nat)(rs:List Pr)(left:Int)(w:World)(hc:FL w co rs)(hh:Gy w (.slice oe t.held.length ce) t.held)(hl:left≤1048576)(g:(t.s.size:Int)+t.qw.length+t.d.size+t.pool.length+rs.length+Bv rs+t.Ad.length+t.held.length+BU t.held≤left):
 Calls Tryz.prog 6 #[xV t (.slice ao t.qw.length ca) (.slice bo t.pool.length cb) (.slice co rs.length cc) (.slice od t.Ad.length cd) (.slice oe t.held.length ce),.int .i64 left] w fun r w'=>r= .returned (.int .i64 (left-((t.s.size:Int)+t.qw.length+t.d.size+t.pool.length+rs.length+Bv rs+t.Ad.length+t.held.length+BU t.held)))∧Below w.heap.size w w':=by
 have HC:=hide hc;have HH:=hide hh;obtain⟨L1,hL1⟩:∃x:Int,left-t.s.size-t.qw.length-t.d.size=x:=⟨_,rfl⟩
 have T1:=hide fun w  =>F8 t.vo t.lo t.n t.s ao t.qw.length ca t.d left w (by omega) (by omega);rw[hL1]at T1;have d1:decide (L1<0)=false:=by simp;omega
 obtain⟨L2,hL2⟩:∃x:Int,L1-t.pool.length=x:=⟨_,rfl⟩
 have T2:=hide fun w  =>NQ bo t.pool.length cb L1 w (by omega) (by omega);rw[hL2]at T2;have d2:decide (L2<0)=false:=by simp;omega
 obtain⟨L3,hL3⟩:∃x:Int,L2-rs.length-Bv rs=x:=⟨_,rfl⟩
 have T3:=hide fun w(h:FL w co rs)=>JD co cc rs L2 w h (by omega) (by omega);rw[hL3]at T3;have d3:decide (L3<0)=false:=by simp;omega
 obtain⟨L4,hL4⟩:∃x:Int,L3-t.Ad.length=x:=⟨_,rfl⟩
 have T4:=hide fun w  =>Oj od t.Ad.length cd t.su L3 w (by omega) (by omega);rw[hL4]at T4;have d4:decide (L4<0)=false:=by simp;omega
 obtain⟨L5,hL5⟩:∃x:Int,L4-t.held.length-BU t.held=x:=⟨_,rfl⟩
 have T5:=hide fun w(h:Gy w (.slice oe t.held.length ce) t.held)=>Vl _ t.held L4 w h (by omega) (by omega);rw[hL5]at T5;have d5:decide (L5<0)=false:=by simp;omega
 rw[show left-((t.s.size:Int)+t.qw.length+t.d.size+t.pool.length+rs.length+Bv rs+t.Ad.length+t.held.length+BU t.held)=L5 by omega];clear hc hh hl g hL1 hL2 hL3 hL4 hL5;obtain⟨w0,hw0,AP,P,De⟩:=bx1 w #[.int .i64 t.id,.int .i64 t.vw,.int .i64 t.ak,.int .i64 t.vo,.int .i64 t.lo,.int .i64 t.n,.string t.s,.slice ao t.qw.length ca,.string t.d,.slice bo t.pool.length cb,.slice co rs.length cc,.slice od t.Ad.length cd,.int .i64 t.su,.slice oe t.held.length ce] 36;go_enter Tryz.func6,Tryz.ntmps6
 go_wp2_with (first|(refine Ay [.int .i64 t.vo,.int .i64 t.lo,.int .i64 t.n,.string t.s,.slice ao t.qw.length ca,.string t.d] (P.range 3 6 rfl) 28 _ rfl _ rfl rfl Tryz.underlying28 rfl (by kernel_rfl) ?_))
 clear hw0;refine(T1.out _).mono ?_;rintro _ w1 ⟨rfl,bb⟩;have AU:=bu AP bb;have DU:=bb.size;replace P:=P.up bb;clear AP bb;have aO:=P.cell 9 rfl;go_wp2_with fail
 refine(T2.out _).mono ?_;rintro _ w9 ⟨rfl,e9⟩;rw[e9];clear e9 aO;have MG:=P.cell 10 rfl;go_wp2_with fail
 refine(T3.out _ (HC.out.below (AU.mono Ae))).mono ?_;rintro _ w2 ⟨rfl,bb⟩;clear MG;have Al:=bu AU bb;have FM:=bb.size;replace P:=P.up bb;clear AU bb;go_wp2_with (first|(refine Ay [.slice od t.Ad.length cd,.int .i64 t.su] (P.range 11 2 rfl) 33 _ rfl _ rfl rfl Tryz.underlying33 rfl (by kernel_rfl) ?_))
 refine(T4.out _).mono ?_;rintro _ w3 ⟨rfl,bb⟩;have Bg:=bu Al bb;have I9:=bb.size;replace P:=P.up bb;clear Al bb;have Un:=P.cell 13 rfl;go_wp2_with fail
 refine(T5.out _ (HH.out.below Bg)).mono ?_;rintro _ w4 ⟨rfl,bb⟩;clear Un;have DN:=bu Bg bb;have Qj:=bb.size;replace P:=P.up bb;clear Bg bb;go_wp2;go_ret;exact⟨rfl,DN⟩
theorem gH(t:Cu)(ao bo co od oe:Option Addr)(ca cb cc cd ce:Nat)(rs:List Pr)(left:Int)(w:World)(hc:FL w co rs)(hh:Gy w (.slice oe t.held.length ce) t.held)(hl:left≤1048576)(m:vE t rs)(g:0≤left∧(0:Int)≤left∧left<((t.s.size:Int)+t.qw.length+t.d.size)):
 Calls Tryz.prog 6 #[xV t (.slice ao t.qw.length ca) (.slice bo t.pool.length cb) (.slice co rs.length cc) (.slice od t.Ad.length cd) (.slice oe t.held.length ce),.int .i64 left] w fun r w'=>r= .returned (.int .i64 (-1))∧Below w.heap.size w w':=by
 have HC:=hide hc;have HH:=hide hh;have p0:0≤left:=by omega
 have T1:=hide fun w  =>fw t.vo t.lo t.n t.s ao t.qw.length ca t.d left w (by omega) (by omega) (by have:=m.s;unfold maxLen at this;omega) (by have:=m.q;unfold maxLen at this;omega) (by have:=m.d;unfold maxLen at this;omega) (by omega);have d1:decide ((-1:Int)<0)=true:=by decide
 clear hc hh hl g m p0;obtain⟨w0,hw0,AP,P,De⟩:=bx1 w #[.int .i64 t.id,.int .i64 t.vw,.int .i64 t.ak,.int .i64 t.vo,.int .i64 t.lo,.int .i64 t.n,.string t.s,.slice ao t.qw.length ca,.string t.d,.slice bo t.pool.length cb,.slice co rs.length cc,.slice od t.Ad.length cd,.int .i64 t.su,.slice oe t.held.length ce] 36;go_enter Tryz.func6,Tryz.ntmps6
 go_wp2_with (first|(refine Ay [.int .i64 t.vo,.int .i64 t.lo,.int .i64 t.n,.string t.s,.slice ao t.qw.length ca,.string t.d] (P.range 3 6 rfl) 28 _ rfl _ rfl rfl Tryz.underlying28 rfl (by kernel_rfl) ?_))
 clear hw0;refine(T1.out _).mono ?_;rintro _ w1 ⟨rfl,bb⟩;have AU:=bu AP bb;have DU:=bb.size;replace P:=P.up bb;clear AP bb;go_wp2;go_ret;exact⟨rfl,AU⟩
theorem gG(t:Cu)(ao bo co od oe:Option Addr)(ca cb cc cd ce:Nat)(rs:List Pr)(left:Int)(w:World)(hc:FL w co rs)(hh:Gy w (.slice oe t.held.length ce) t.held)(hl:left≤1048576)(m:vE t rs)(g:0≤left∧(0:Int)+((t.s.size:Int)+t.qw.length+t.d.size)≤left∧left<((t.s.size:Int)+t.qw.length+t.d.size)+((t.pool.length:Int))):
 Calls Tryz.prog 6 #[xV t (.slice ao t.qw.length ca) (.slice bo t.pool.length cb) (.slice co rs.length cc) (.slice od t.Ad.length cd) (.slice oe t.held.length ce),.int .i64 left] w fun r w'=>r= .returned (.int .i64 (-1))∧Below w.heap.size w w':=by
 have HC:=hide hc;have HH:=hide hh;have p0:0≤left:=by omega
 obtain⟨L1,hL1⟩:∃x:Int,left-t.s.size-t.qw.length-t.d.size=x:=⟨_,rfl⟩
 have T1:=hide fun w  =>F8 t.vo t.lo t.n t.s ao t.qw.length ca t.d left w (by omega) (by omega);rw[hL1]at T1;have d1:decide (L1<0)=false:=by simp;omega
 have T2:=hide fun w  =>xG bo t.pool.length cb L1 w (by omega) (by omega) (by have:=m.p;unfold maxLen at this;omega) (by omega);have d2:decide ((-1:Int)<0)=true:=by decide
 clear hc hh hl g hL1 m p0;obtain⟨w0,hw0,AP,P,De⟩:=bx1 w #[.int .i64 t.id,.int .i64 t.vw,.int .i64 t.ak,.int .i64 t.vo,.int .i64 t.lo,.int .i64 t.n,.string t.s,.slice ao t.qw.length ca,.string t.d,.slice bo t.pool.length cb,.slice co rs.length cc,.slice od t.Ad.length cd,.int .i64 t.su,.slice oe t.held.length ce] 36;go_enter Tryz.func6,Tryz.ntmps6
 go_wp2_with (first|(refine Ay [.int .i64 t.vo,.int .i64 t.lo,.int .i64 t.n,.string t.s,.slice ao t.qw.length ca,.string t.d] (P.range 3 6 rfl) 28 _ rfl _ rfl rfl Tryz.underlying28 rfl (by kernel_rfl) ?_))
 clear hw0;refine(T1.out _).mono ?_;rintro _ w1 ⟨rfl,bb⟩;have AU:=bu AP bb;have DU:=bb.size;replace P:=P.up bb;clear AP bb;have aO:=P.cell 9 rfl;go_wp2_with fail
 refine(T2.out _).mono ?_;rintro _ w9 ⟨rfl,e9⟩;rw[e9];clear e9 aO;go_wp2;go_ret;exact⟨rfl,AU⟩
theorem gF(t:Cu)(ao bo co od oe:Option Addr)(ca cb cc cd ce:Nat)(rs:List Pr)(left:Int)(w:World)(hc:FL w co rs)(hh:Gy w (.slice oe t.held.length ce) t.held)(hl:left≤1048576)(m:vE t rs)(g:0≤left∧(0:Int)+((t.s.size:Int)+t.qw.length+t.d.size)+((t.pool.length:Int))≤left∧left<((t.s.size:Int)+t.qw.length+t.d.size)+((t.pool.length:Int))+((rs.length:Int)+Bv rs)):
 Calls Tryz.prog 6 #[xV t (.slice ao t.qw.length ca) (.slice bo t.pool.length cb) (.slice co rs.length cc) (.slice od t.Ad.length cd) (.slice oe t.held.length ce),.int .i64 left] w fun r w'=>r= .returned (.int .i64 (-1))∧Below w.heap.size w w':=by
 have HC:=hide hc;have HH:=hide hh;have p0:0≤left:=by omega
 obtain⟨L1,hL1⟩:∃x:Int,left-t.s.size-t.qw.length-t.d.size=x:=⟨_,rfl⟩
 have T1:=hide fun w  =>F8 t.vo t.lo t.n t.s ao t.qw.length ca t.d left w (by omega) (by omega);rw[hL1]at T1;have d1:decide (L1<0)=false:=by simp;omega
 obtain⟨L2,hL2⟩:∃x:Int,L1-t.pool.length=x:=⟨_,rfl⟩
 have T2:=hide fun w  =>NQ bo t.pool.length cb L1 w (by omega) (by omega);rw[hL2]at T2;have d2:decide (L2<0)=false:=by simp;omega
 have T3:=hide fun w(h:FL w co rs)=>Yf co cc rs L2 w h m.tt (by omega) m.tb (by omega) (by omega);have d3:decide ((-1:Int)<0)=true:=by decide
 clear hc hh hl g hL1 hL2 m p0;obtain⟨w0,hw0,AP,P,De⟩:=bx1 w #[.int .i64 t.id,.int .i64 t.vw,.int .i64 t.ak,.int .i64 t.vo,.int .i64 t.lo,.int .i64 t.n,.string t.s,.slice ao t.qw.length ca,.string t.d,.slice bo t.pool.length cb,.slice co rs.length cc,.slice od t.Ad.length cd,.int .i64 t.su,.slice oe t.held.length ce] 36;go_enter Tryz.func6,Tryz.ntmps6
 go_wp2_with (first|(refine Ay [.int .i64 t.vo,.int .i64 t.lo,.int .i64 t.n,.string t.s,.slice ao t.qw.length ca,.string t.d] (P.range 3 6 rfl) 28 _ rfl _ rfl rfl Tryz.underlying28 rfl (by kernel_rfl) ?_))
 clear hw0;refine(T1.out _).mono ?_;rintro _ w1 ⟨rfl,bb⟩;have AU:=bu AP bb;have DU:=bb.size;replace P:=P.up bb;clear AP bb;have aO:=P.cell 9 rfl;go_wp2_with fail
 refine(T2.out _).mono ?_;rintro _ w9 ⟨rfl,e9⟩;rw[e9];clear e9 aO;have MG:=P.cell 10 rfl;go_wp2_with fail
 refine(T3.out _ (HC.out.below (AU.mono Ae))).mono ?_;rintro _ w2 ⟨rfl,bb⟩;clear MG;have Al:=bu AU bb;have FM:=bb.size;replace P:=P.up bb;clear AU bb;go_wp2;go_ret;exact⟨rfl,Al⟩
theorem gD(t:Cu)(ao bo co od oe:Option Addr)(ca cb cc cd ce:Nat)(rs:List Pr)(left:Int)(w:World)(hc:FL w co rs)(hh:Gy w (.slice oe t.held.length ce) t.held)(hl:left≤1048576)(m:vE t rs)(g:0≤left∧(0:Int)+((t.s.size:Int)+t.qw.length+t.d.size)+((t.pool.length:Int))+((rs.length:Int)+Bv rs)≤left∧left<((t.s.size:Int)+t.qw.length+t.d.size)+((t.pool.length:Int))+((rs.length:Int)+Bv rs)+((t.Ad.length:Int))):
 Calls Tryz.prog 6 #[xV t (.slice ao t.qw.length ca) (.slice bo t.pool.length cb) (.slice co rs.length cc) (.slice od t.Ad.length cd) (.slice oe t.held.length ce),.int .i64 left] w fun r w'=>r= .returned (.int .i64 (-1))∧Below w.heap.size w w':=by
 have HC:=hide hc;have HH:=hide hh;have p0:0≤left:=by omega
 obtain⟨L1,hL1⟩:∃x:Int,left-t.s.size-t.qw.length-t.d.size=x:=⟨_,rfl⟩
 have T1:=hide fun w  =>F8 t.vo t.lo t.n t.s ao t.qw.length ca t.d left w (by omega) (by omega);rw[hL1]at T1;have d1:decide (L1<0)=false:=by simp;omega
 obtain⟨L2,hL2⟩:∃x:Int,L1-t.pool.length=x:=⟨_,rfl⟩
 have T2:=hide fun w  =>NQ bo t.pool.length cb L1 w (by omega) (by omega);rw[hL2]at T2;have d2:decide (L2<0)=false:=by simp;omega
 obtain⟨L3,hL3⟩:∃x:Int,L2-rs.length-Bv rs=x:=⟨_,rfl⟩
 have T3:=hide fun w(h:FL w co rs)=>JD co cc rs L2 w h (by omega) (by omega);rw[hL3]at T3;have d3:decide (L3<0)=false:=by simp;omega
 have T4:=hide fun w  =>gN od t.Ad.length cd t.su L3 w (by omega) (by omega) (by omega) (by have:=m.k;unfold maxLen at this;omega);have d4:decide ((-1:Int)<0)=true:=by decide
 clear hc hh hl g hL1 hL2 hL3 m p0;obtain⟨w0,hw0,AP,P,De⟩:=bx1 w #[.int .i64 t.id,.int .i64 t.vw,.int .i64 t.ak,.int .i64 t.vo,.int .i64 t.lo,.int .i64 t.n,.string t.s,.slice ao t.qw.length ca,.string t.d,.slice bo t.pool.length cb,.slice co rs.length cc,.slice od t.Ad.length cd,.int .i64 t.su,.slice oe t.held.length ce] 36;go_enter Tryz.func6,Tryz.ntmps6
 go_wp2_with (first|(refine Ay [.int .i64 t.vo,.int .i64 t.lo,.int .i64 t.n,.string t.s,.slice ao t.qw.length ca,.string t.d] (P.range 3 6 rfl) 28 _ rfl _ rfl rfl Tryz.underlying28 rfl (by kernel_rfl) ?_))
 clear hw0;refine(T1.out _).mono ?_;rintro _ w1 ⟨rfl,bb⟩;have AU:=bu AP bb;have DU:=bb.size;replace P:=P.up bb;clear AP bb;have aO:=P.cell 9 rfl;go_wp2_with fail
 refine(T2.out _).mono ?_;rintro _ w9 ⟨rfl,e9⟩;rw[e9];clear e9 aO;have MG:=P.cell 10 rfl;go_wp2_with fail
 refine(T3.out _ (HC.out.below (AU.mono Ae))).mono ?_;rintro _ w2 ⟨rfl,bb⟩;clear MG;have Al:=bu AU bb;have FM:=bb.size;replace P:=P.up bb;clear AU bb;go_wp2_with (first|(refine Ay [.slice od t.Ad.length cd,.int .i64 t.su] (P.range 11 2 rfl) 33 _ rfl _ rfl rfl Tryz.underlying33 rfl (by kernel_rfl) ?_))
 refine(T4.out _).mono ?_;rintro _ w3 ⟨rfl,bb⟩;have Bg:=bu Al bb;have I9:=bb.size;replace P:=P.up bb;clear Al bb;go_wp2;go_ret;exact⟨rfl,Bg⟩
theorem gB(t:Cu)(ao bo co od oe:Option Addr)(ca cb cc cd ce:Nat)(rs:List Pr)(left:Int)(w:World)(hc:FL w co rs)(hh:Gy w (.slice oe t.held.length ce) t.held)(hl:left≤1048576)(m:vE t rs)(g:0≤left∧(0:Int)+((t.s.size:Int)+t.qw.length+t.d.size)+((t.pool.length:Int))+((rs.length:Int)+Bv rs)+((t.Ad.length:Int))≤left∧left<((t.s.size:Int)+t.qw.length+t.d.size)+((t.pool.length:Int))+((rs.length:Int)+Bv rs)+((t.Ad.length:Int))+((t.held.length:Int)+BU t.held)):
 Calls Tryz.prog 6 #[xV t (.slice ao t.qw.length ca) (.slice bo t.pool.length cb) (.slice co rs.length cc) (.slice od t.Ad.length cd) (.slice oe t.held.length ce),.int .i64 left] w fun r w'=>r= .returned (.int .i64 (-1))∧Below w.heap.size w w':=by
 have HC:=hide hc;have HH:=hide hh;have p0:0≤left:=by omega
 obtain⟨L1,hL1⟩:∃x:Int,left-t.s.size-t.qw.length-t.d.size=x:=⟨_,rfl⟩
 have T1:=hide fun w  =>F8 t.vo t.lo t.n t.s ao t.qw.length ca t.d left w (by omega) (by omega);rw[hL1]at T1;have d1:decide (L1<0)=false:=by simp;omega
 obtain⟨L2,hL2⟩:∃x:Int,L1-t.pool.length=x:=⟨_,rfl⟩
 have T2:=hide fun w  =>NQ bo t.pool.length cb L1 w (by omega) (by omega);rw[hL2]at T2;have d2:decide (L2<0)=false:=by simp;omega
 obtain⟨L3,hL3⟩:∃x:Int,L2-rs.length-Bv rs=x:=⟨_,rfl⟩
 have T3:=hide fun w(h:FL w co rs)=>JD co cc rs L2 w h (by omega) (by omega);rw[hL3]at T3;have d3:decide (L3<0)=false:=by simp;omega
 obtain⟨L4,hL4⟩:∃x:Int,L3-t.Ad.length=x:=⟨_,rfl⟩
 have T4:=hide fun w  =>Oj od t.Ad.length cd t.su L3 w (by omega) (by omega);rw[hL4]at T4;have d4:decide (L4<0)=false:=by simp;omega
 have T5:=hide fun w(h:Gy w (.slice oe t.held.length ce) t.held)=>Yc _ t.held L4 w h m.hh (by omega) m.h (by omega) (by omega);have d5:decide ((-1:Int)<0)=true:=by decide
 clear hc hh hl g hL1 hL2 hL3 hL4 m p0;obtain⟨w0,hw0,AP,P,De⟩:=bx1 w #[.int .i64 t.id,.int .i64 t.vw,.int .i64 t.ak,.int .i64 t.vo,.int .i64 t.lo,.int .i64 t.n,.string t.s,.slice ao t.qw.length ca,.string t.d,.slice bo t.pool.length cb,.slice co rs.length cc,.slice od t.Ad.length cd,.int .i64 t.su,.slice oe t.held.length ce] 36;go_enter Tryz.func6,Tryz.ntmps6
 go_wp2_with (first|(refine Ay [.int .i64 t.vo,.int .i64 t.lo,.int .i64 t.n,.string t.s,.slice ao t.qw.length ca,.string t.d] (P.range 3 6 rfl) 28 _ rfl _ rfl rfl Tryz.underlying28 rfl (by kernel_rfl) ?_))
 clear hw0;refine(T1.out _).mono ?_;rintro _ w1 ⟨rfl,bb⟩;have AU:=bu AP bb;have DU:=bb.size;replace P:=P.up bb;clear AP bb;have aO:=P.cell 9 rfl;go_wp2_with fail
 refine(T2.out _).mono ?_;rintro _ w9 ⟨rfl,e9⟩;rw[e9];clear e9 aO;have MG:=P.cell 10 rfl;go_wp2_with fail
 refine(T3.out _ (HC.out.below (AU.mono Ae))).mono ?_;rintro _ w2 ⟨rfl,bb⟩;clear MG;have Al:=bu AU bb;have FM:=bb.size;replace P:=P.up bb;clear AU bb;go_wp2_with (first|(refine Ay [.slice od t.Ad.length cd,.int .i64 t.su] (P.range 11 2 rfl) 33 _ rfl _ rfl rfl Tryz.underlying33 rfl (by kernel_rfl) ?_))
 refine(T4.out _).mono ?_;rintro _ w3 ⟨rfl,bb⟩;have Bg:=bu Al bb;have I9:=bb.size;replace P:=P.up bb;clear Al bb;have Un:=P.cell 13 rfl;go_wp2_with fail
 refine(T5.out _ (HH.out.below Bg)).mono ?_;rintro _ w4 ⟨rfl,bb⟩;clear Un;have DN:=bu Bg bb;have Qj:=bb.size;replace P:=P.up bb;clear Bg bb;go_wp2;go_ret;exact⟨rfl,DN⟩
theorem mh(t:Cu)(ao bo co od oe:Option Addr)(ca cb cc cd ce:Nat)(rs:List Pr)(left:Int)(w:World)(hc:FL w co rs)(hh:Gy w (.slice oe t.held.length ce) t.held)(hl:left≤1048576)(m:vE t rs)(h0:0≤left)(g:left<(t.s.size:Int)+t.qw.length+t.d.size+t.pool.length+rs.length+Bv rs+t.Ad.length+t.held.length+BU t.held):
 Calls Tryz.prog 6 #[xV t (.slice ao t.qw.length ca) (.slice bo t.pool.length cb) (.slice co rs.length cc) (.slice od t.Ad.length cd) (.slice oe t.held.length ce),.int .i64 left] w fun r w'=>r= .returned (.int .i64 (-1))∧Below w.heap.size w w':=by
 by_cases g0:left<((t.s.size:Int)+t.qw.length+t.d.size)
 ·exact gH t ao bo co od oe ca cb cc cd ce rs left w hc hh hl m ⟨h0,by omega,g0⟩
 by_cases g1:left<((t.s.size:Int)+t.qw.length+t.d.size)+((t.pool.length:Int))
 ·exact gG t ao bo co od oe ca cb cc cd ce rs left w hc hh hl m ⟨h0,by omega,g1⟩
 by_cases g2:left<((t.s.size:Int)+t.qw.length+t.d.size)+((t.pool.length:Int))+((rs.length:Int)+Bv rs)
 ·exact gF t ao bo co od oe ca cb cc cd ce rs left w hc hh hl m ⟨h0,by omega,g2⟩
 by_cases g3:left<((t.s.size:Int)+t.qw.length+t.d.size)+((t.pool.length:Int))+((rs.length:Int)+Bv rs)+((t.Ad.length:Int))
 ·exact gD t ao bo co od oe ca cb cc cd ce rs left w hc hh hl m ⟨h0,by omega,g3⟩
 by_cases g4:left<((t.s.size:Int)+t.qw.length+t.d.size)+((t.pool.length:Int))+((rs.length:Int)+Bv rs)+((t.Ad.length:Int))+((t.held.length:Int)+BU t.held)
 ·exact gB t ao bo co od oe ca cb cc cd ce rs left w hc hh hl m ⟨h0,by omega,g4⟩
 omega
end
end Go.Proofs.YtcjmcgolgbkknaaGreatDoor
namespace Go.Proofs
open Go.Shelf
def Tryz.lays217_ren:Go.Shelf.Ren:=⟨fun|217=>288|266=>299|n=>n,fun|9=>9|5=>5|3=>3|n=>n,fun|n=>n⟩
theorem Tryz.lays217:Go.Proofs.Lays.n217 Tryz.prog Tryz.lays217_ren:={
 mixed:=by kernel_rfl
 f217:=Tryz.func288.trans (congrArg some (by kernel_rfl))
 f266:=Tryz.func299.trans (congrArg some (by kernel_rfl))
 t3:=Tryz.underlying3
 a3:=Tryz.isAgg3
 z3:=Tryz.sizeOf3
 v3:=Tryz.zeroValue3
 t5:=Tryz.underlying5
 a5:=Tryz.isAgg5
 z5:=Tryz.sizeOf5
 v5:=Tryz.zeroValue5
 t9:=Tryz.underlying9
 a9:=Tryz.isAgg9
 z9:=Tryz.sizeOf9
 v9:=Tryz.zeroValue9 }
open Go.RowKit Go.Lib in
theorem Tryz.stringslite_IndexByte(s:ByteArray)(c:Int)(w:World):
 Calls Tryz.prog 288 #[.string s,.int .u8 c] w fun e w'=>e= .returned (.int .i64 (Lib.indexByte s.data.toList c.toNat.toUInt8))∧w'=w:=Any.stringslite_IndexByte Tryz.lays217 s c w
def Tryz.lays222_ren:Go.Shelf.Ren:=⟨fun|222=>357|n=>n,fun|9=>9|5=>5|3=>3|4=>4|n=>n,fun|n=>n⟩
theorem Tryz.lays222:Go.Proofs.Lays.n222 Tryz.prog Tryz.lays222_ren:={
 mixed:=by kernel_rfl
 f222:=Tryz.func357.trans (congrArg some (by kernel_rfl))
 t3:=Tryz.underlying3
 a3:=Tryz.isAgg3
 z3:=Tryz.sizeOf3
 v3:=Tryz.zeroValue3
 t4:=Tryz.underlying4
 a4:=Tryz.isAgg4
 z4:=Tryz.sizeOf4
 v4:=Tryz.zeroValue4
 t5:=Tryz.underlying5
 a5:=Tryz.isAgg5
 z5:=Tryz.sizeOf5
 v5:=Tryz.zeroValue5
 t9:=Tryz.underlying9
 a9:=Tryz.isAgg9
 z9:=Tryz.sizeOf9
 v9:=Tryz.zeroValue9 }
open Go.RowKit Go.Lib in
theorem Tryz.bytealg_LastIndexByteString_nm(s:ByteArray)(c:Int)(hs:s.size<4611686018427387904)(w:World):
 Calls Tryz.prog 357 #[.string s,.int .u8 c] w fun e w'=>e= .returned (.int .i64 (Lib.lastIndexByte s c))∧w'=w:=Any.bytealg_LastIndexByteString_nm Tryz.lays222 s c hs w
def Tryz.lays103_ren:Go.Shelf.Ren:=⟨fun|103=>254|210=>273|206=>292|n=>n,fun|9=>9|4=>4|24=>323|3=>3|n=>n,fun|n=>n⟩
theorem Tryz.lays103:Go.Proofs.Lays.n103 Tryz.prog Tryz.lays103_ren:={
 mixed:=by kernel_rfl
 f103:=Tryz.func254.trans (congrArg some (by kernel_rfl))
 f206:=Tryz.func292.trans (congrArg some (by kernel_rfl))
 f210:=Tryz.func273.trans (congrArg some (by kernel_rfl))
 t3:=Tryz.underlying3
 a3:=Tryz.isAgg3
 z3:=Tryz.sizeOf3
 v3:=Tryz.zeroValue3
 t4:=Tryz.underlying4
 a4:=Tryz.isAgg4
 z4:=Tryz.sizeOf4
 v4:=Tryz.zeroValue4
 t9:=Tryz.underlying9
 a9:=Tryz.isAgg9
 z9:=Tryz.sizeOf9
 v9:=Tryz.zeroValue9
 t24:=Tryz.underlying323
 a24:=Tryz.isAgg323
 z24:=Tryz.sizeOf323
 v24:=Tryz.zeroValue323 }
open Go.RowKit in
theorem Tryz.strings_CutPrefix(s p:ByteArray)(w:World):
 Calls Tryz.prog 254 #[.string s,.string p] w fun e w'=>e= .returned (.tuple #[.string ⟨(Lib.trimPrefix s.data.toList p.data.toList).toArray⟩,.bool (Lib.hasPrefix s.data.toList p.data.toList)])∧w'=w:=Any.strings_CutPrefix Tryz.lays103 s p w
end Go.Proofs
namespace Go.Proofs.YtcjmcgolgbkknaaGreatDoor
section
open Go.RowKit
variable [∀(a b c d:Int),Decidable (BD a b c d)] [∀(a b c d:Nat),Decidable (Dg a b c d)]
abbrev St:=Int×List T4
abbrev rO:St:=(0,[])
def stepOf(p:ByteArray):Option St:=
 if(124:UInt8) ∈ p.data.toList then(numOf (hd 124 p.data.toList)).bind fun n=>(Cm (Bj (tl 124 p.data.toList))).map fun ts=>((n:Int),ts)else none
def Ak(last:Int)(s:St):Prop:=last<s.1∧s.1≤60∧s.2.length≤2
variable [∀(last:Int)(s:St),Decidable (Ak last s)]
def FN(o:Option (Int×List St))(p:ByteArray):Option (Int×List St):=o.bind fun q=>(stepOf p).bind fun s=>if Ak q.1 s then some (s.1,q.2++[s])else none
def BP(ps:List ByteArray):Option (Int×List St):=ps.foldl FN (some (0,[]))
def AO(s:ByteArray):Option (List St):=
 if s=⟨#[]⟩then some []
 else if(Ab s 47).getD 0 ByteArray.empty=⟨#[]⟩∧(Ab s 47).length≤31 then(BP (Ab s 47).tail).map (·.2)else none
theorem DY(ps:List ByteArray)(p:ByteArray):BP (ps++[p])=FN (BP ps) p:=by
 unfold BP;rw[List.foldl_append];rfl
theorem qp(ps:List ByteArray):ps.foldl FN none=none:=by
 induction ps with
 |nil=>rfl
 |cons p ps ih=>rw[List.foldl_cons];exact ih
theorem Jq{ps:List ByteArray}(k:Nat)(h:BP (ps.take k)=none):BP ps=none:=by
 have e:BP ps=(ps.drop k).foldl FN (BP (ps.take k)):=by
  unfold BP;rw[←List.foldl_append,List.take_append_drop]
 rw[e,h];exact qp _
theorem JF(ps:List ByteArray)(q:Int×List St)(h:BP ps=some q):q.2.length=ps.length∧(0≤q.1∧q.1≤60)∧(ps.length:Int)≤q.1∧∀s ∈ q.2,(1≤s.1∧s.1≤q.1)∧s.2.length≤2:=by
 generalize hn:ps.length=n
 induction n generalizing ps q with
 |zero=>
  have:ps=[]:=List.length_eq_zero_iff.1 hn;subst this;cases h
  exact⟨rfl,by simp,by simp,fun s hs=>by simp at hs⟩
 | succ n ih=>
  obtain⟨ps',p,rfl⟩:∃ps' p,ps=ps'++[p]:=⟨ps.dropLast,ps.getLast (fun e=>by rw[e]at hn;simp at hn),(List.dropLast_concat_getLast _).symm⟩
  rw[DY]at h;unfold FN at h;cases hr:BP ps' with
  |none=>rw[hr]at h;cases h
  | some q'=>
   rw[hr]at h;cases hs:stepOf p with
   |none=>rw[hs]at h;simp at h
   | some s=>
    rw[hs]at h;simp only[Option.bind_some]at h
    split at h
    ·rename_i hg;cases h
     obtain⟨h1,h2,h3,h4⟩:=ih ps' q' hr (by simpa using hn);obtain⟨g1,g2,g3⟩:=hg;refine⟨by simp[h1],⟨by show 0≤s.1;omega,g2⟩,by show(((n+1:Nat)):Int)≤s.1;omega,fun y hy=>?_⟩;rcases List.mem_append.1 hy with hy|hy
     ·obtain⟨⟨a1,a2⟩,a3⟩:=h4 y hy;exact⟨⟨a1,by show y.1≤s.1;omega⟩,a3⟩
     simp at hy;subst hy;exact⟨⟨by omega,Int.le_refl _⟩,g3⟩
    cases h
end
section

def Az(xs:List Int):Nat→Nat→Nat→Int→Option (Int×Int)
 |0,_,_,_=>none
 | f+1,i,p,n=>
  if p<xs.length then
   (if 128≤xs.getD p 0 then Az xs f (i+1) (p+1) (n+xs.getD p 0%128*128 ^ i)
    else if 2147483647<n+xs.getD p 0%128*128 ^ i∨(xs.getD p 0=0∧0<i)then none
    else some (n+xs.getD p 0%128*128 ^ i,(p:Int)+1))
  else none
def AV(xs:List Int)(p:Int):Option (Int×Int):=if p<0 then none else Az xs 5 0 p.toNat 0

theorem Cn(xs:List Int)(f i p:Nat)(n:Int)(h:¬p<xs.length):Az xs f i p n=none:=by cases f<;>simp[Az,h]
theorem Hr(xs:List Int)(f i p:Nat)(n:Int)(h:p<xs.length)(hd:128≤xs.getD p 0):Az xs (f+1) i p n=Az xs f (i+1) (p+1) (n+xs.getD p 0%128*128 ^ i):=by
 rw[Az,if_pos h,if_pos hd]
theorem K_(xs:List Int)(f i p:Nat)(n:Int)(h:p<xs.length)(hd:¬128≤xs.getD p 0)(hb:2147483647<n+xs.getD p 0%128*128 ^ i∨(xs.getD p 0=0∧0<i)):Az xs (f+1) i p n=none:=by
 rw[Az,if_pos h,if_neg hd,if_pos hb]
theorem Ht(xs:List Int)(f i p:Nat)(n:Int)(h:p<xs.length)(hd:¬128≤xs.getD p 0)(hb:¬(2147483647<n+xs.getD p 0%128*128 ^ i∨(xs.getD p 0=0∧0<i))):Az xs (f+1) i p n=some (n+xs.getD p 0%128*128 ^ i,(p:Int)+1):=by
 rw[Az,if_pos h,if_neg hd,if_neg hb]
theorem DZ{xs:List Int}{f i q:Nat}{n d c:Int}{r:Option (Int×Int)}(hc:(128:Int) ^ i=c)(hr:r=Az xs (f+1) i q n)(hq:q<xs.length)(hd:xs.getD q 0=d)(h1:128≤d):r=Az xs f (i+1) (q+1) (n+d%128*c):=by
 subst hc;subst hd;rw[hr];exact Hr xs f i q n hq h1
theorem Dc{xs:List Int}{f i q:Nat}{n d c:Int}{r:Option (Int×Int)}(hc:(128:Int) ^ i=c)(hr:r=Az xs (f+1) i q n)(hq:q<xs.length)(hd:xs.getD q 0=d)(h1:¬128≤d)(hb:2147483647<n+d%128*c∨(d=0∧0<i)):r=none:=by
 subst hc;subst hd;rw[hr];exact K_ xs f i q n hq h1 hb
theorem DV{xs:List Int}{f i q:Nat}{n d c:Int}{r:Option (Int×Int)}(hc:(128:Int) ^ i=c)(hr:r=Az xs (f+1) i q n)(hq:q<xs.length)(hd:xs.getD q 0=d)(h1:¬128≤d)(hb:¬(2147483647<n+d%128*c∨(d=0∧0<i))):r=some (n+d%128*c,(q:Int)+1):=by
 subst hc;subst hd;rw[hr];exact Ht xs f i q n hq h1 hb
theorem GH(xs:List Int)(p:Int)(h:p<0):AV xs p=none:=by simp[AV,h]
theorem IQ(xs:List Int)(p:Nat):AV xs p=Az xs 5 0 p 0:=by rw[AV,if_neg (by omega),Int.toNat_natCast]
theorem xm(a b i m:Nat)(hm:m=2 ^ i)(h:a<m):a ||| (b*m)=b*m+a:=by
 subst hm;rw[Nat.or_comm,←Nat.shiftLeft_eq,Nat.shiftLeft_add_eq_or_of_lt h]
theorem Zr(a b:Nat)(ha:a<9223372036854775808)(hb:b<9223372036854775808):bits .or .i64 (a:Int) (b:Int)=((a ||| b:Nat):Int):=by
 have hx:a ||| b<2 ^ 63:=Nat.or_lt_two_pow (by omega) (by omega)
 show IntKind.i64.wrap ((BitVec.ofInt 64 (a:Int) ||| BitVec.ofInt 64 (b:Int)).toNat:Int)=_;rw[BitVec.toNat_or,ofInt_u64 a (by omega),ofInt_u64 b (by omega),IntKind.wrap_i64];omega
theorem PZ(n d:Int)(m i:Nat)(hm:m=2 ^ i)(hs:m≤268435456)(a0:0≤n)(b0:n<m)(a1:0≤d)(b1:d<128):bits BinOp.or IntKind.i64 n (d*(m:Int))=n+d*(m:Int):=by
 obtain⟨a,rfl⟩:=Int.eq_ofNat_of_zero_le a0;obtain⟨b,rfl⟩:=Int.eq_ofNat_of_zero_le a1;have hbm:b*m≤127*268435456:=Nat.mul_le_mul (by omega) hs;rw[←Int.natCast_mul,Zr a (b*m) (by omega) (by omega),xm a b i m hm (by omega)];rw[Int.natCast_add,Int.add_comm]
end
section
open Go.RowKit
theorem Tf(v:Value)(xs:List Int)(p:Nat)(w:World)(h:RB w v xs)(hp:p<xs.length)(hx:0≤xs.getD p 0∧xs.getD p 0≤255):
 Calls Tryz.prog 261 #[v,.int .i64 p] w fun e w'=>e= .returned (.int .i64 (xs.getD p 0))∧w'=w:=by
 obtain⟨hl,ao,ca,rfl,_,h⟩:=h;rcases h with rfl|⟨b,off,rfl,h⟩
 ·simp at hp
 have hc:=h p hp;have hd:decide ((p:Int)<0)=false:=by simp
 have hd2:decide ((xs.length:Int)≤(p:Int))=false:=by simp;omega
 generalize xs.getD p 0=c at *;clear h;go_enter Tryz.func261,Tryz.ntmps261
 go_wp2;go_ret;exact⟨rfl,rfl⟩

theorem EW(v:Value)(xs:List Int)(p:Int)(u:TypeId)(pv:Value)(w:World)(h:RB w v xs)(hp:p<0∨(xs.length:Int)≤p)(he:w.cell? ⟨1,0,none⟩=some (.iface u pv)):
 Calls Tryz.prog 261 #[v,.int .i64 p] w fun e w'=>e= .panicked [{ v:= .iface u pv,recovered:=false }]∧w'=w:=by
 obtain⟨hl,ao,ca,rfl,_,h⟩:=h;clear h;by_cases hn:p<0
 ·clear hp;go_enter Tryz.func261,Tryz.ntmps261
  go_wp2;exact⟨rfl,rfl,rfl⟩
 have hd:decide (p<0)=false:=by simpa using hn
 have hp2:(xs.length:Int)≤p:=by omega
 clear hp;go_enter Tryz.func261,Tryz.ntmps261
 go_wp2;exact⟨rfl,rfl,rfl⟩

def Bytes(xs:List Int):Prop:=∀k,k<xs.length→0≤xs.getD k 0∧xs.getD k 0≤255

def fI(r:Option (Int×Int))(pn:List PanicEntry)(e:Ending):Prop:=
 (∃n q,r=some (n,q)∧e= .returned (.tuple #[.int .i64 n,.int .i64 q]))∨(r=none∧e= .panicked pn)

theorem V6(v:Value)(xs:List Int)(p:Int)(u:TypeId)(pv:Value)(w:World)(h:RB w v xs)(hp:p<0)(he:w.cell? ⟨1,0,none⟩=some (.iface u pv)):
 Calls Tryz.prog 242 #[v,.int .i64 p] w fun e w'=>e= .panicked [{ v:= .iface u pv,recovered:=false }]∧w'=w:=by
 go_enter Tryz.func242,Tryz.ntmps242
 go_wp2;refine wp_loop_rounds 1 ?_;rw[rounds_succ];go_wp2_with (go_at_call 261;refine(EW v xs p u pv _ h (.inl hp) he).mono ?_;rintro e w' ⟨rfl,rfl⟩)
 exact⟨rfl,rfl,rfl⟩

theorem BK(v:Value)(xs:List Int)(p:Nat)(d:Int)(w:World)(h:RB w v xs)(hp:p<xs.length)(hd:Hid (xs.getD p 0=d))(hx:0≤d∧d≤255):
 Calls Tryz.prog 261 #[v,.int .i64 p] w fun e w'=>e= .returned (.int .i64 d)∧w'=w:=by
 have:=hd.out;subst this;exact Tf v xs p w h hp hx

theorem V7(v:Value)(xs:List Int)(p:Nat)(u:TypeId)(pv:Value)(w:World)(h:RB w v xs)(hb:Bytes xs)(he:w.cell? ⟨1,0,none⟩=some (.iface u pv)):
 Calls Tryz.prog 242 #[v,.int .i64 p] w fun e w'=>fI (Az xs 5 0 p 0) [{ v:= .iface u pv,recovered:=false }] e∧w'=w:=by
 have hl:=h.1;go_enter Tryz.func242,Tryz.ntmps242
 go_wp2
 go_loop [1,6,9] (fun x y z=>∃(i q:Nat)(n:Int),i≤5∧x= .int .i64 q∧y= .int .i64 n∧z= .int .i64 i∧0≤n∧n<128 ^ i∧Hid (Az xs 5 0 p 0=Az xs (5-i) i q n)) (fun _ _ z=>5-(intOf z).toNat)
 case atStart=>exact⟨0,p,0,by omega,rfl,rfl,rfl,by omega,by simp,rfl⟩
 case round=>
  obtain⟨i,q,n,hi,rfl,rfl,rfl,hn0,hn,HR⟩:=hrel;obtain rfl|rfl|rfl|rfl|rfl|rfl:i=0∨i=1∨i=2∨i=3∨i=4∨i=5:=by omega
  case inr.inr.inr.inr.inr=>
   go_wp2;refine⟨rfl,.inr ⟨?_,rfl⟩,rfl⟩;rw[HR.out];rfl
  case inl=>
   simp only[Int.reducePow]at hn;by_cases hq:q<xs.length
   ·have hx:=hb q hq;obtain⟨d,hd⟩:∃d,xs.getD q 0=d:=⟨_,rfl⟩
    have HD:Hid (xs.getD q 0=d):=hd;rw[hd]at hx;clear hd;by_cases h1:128≤d
    ·have HS:Hid (Az xs 5 0 p 0=Az xs 4 1 (q+1) (n+d%128*1)):=DZ (by decide) HR.out hq HD.out h1;go_wp2_with (go_at_call 261;refine(BK v xs q d _ h hq HD hx).mono ?_;rintro e w' ⟨rfl,rfl⟩)
     go_round
     case rel=>exact⟨1,q+1,_,by omega,by go_num,by go_num,rfl,by omega,by simp only[Int.reducePow];omega,HS⟩
     case measure=>simp[intOf]
    by_cases h2:2147483647<n+d%128*1
    ·have HN:Hid (Az xs 5 0 p 0=none):=Dc (by decide) HR.out hq HD.out h1 (.inl h2);omega
    have h2':n+d%128*1≤2147483647:=by omega
    by_cases h3:d=0
    ·have HY:Hid (Az xs 5 0 p 0=some (n+d%128*1,(q:Int)+1)):=DV (by decide) HR.out hq HD.out h1 (by omega);subst h3;go_wp2_with (go_at_call 261;refine(BK v xs q 0 _ h hq HD hx).mono ?_;rintro e w' ⟨rfl,rfl⟩)
     go_ret2
     exact⟨.inl ⟨_,_,HY.out,by simp⟩,rfl⟩
    have HY:Hid (Az xs 5 0 p 0=some (n+d%128*1,(q:Int)+1)):=DV (by decide) HR.out hq HD.out h1 (by omega);have h3':(d==0)=false:=by simp[h3]
    go_wp2_with (go_at_call 261;refine(BK v xs q d _ h hq HD hx).mono ?_;rintro e w' ⟨rfl,rfl⟩)
    go_ret2
    exact⟨.inl ⟨_,_,HY.out,by simp⟩,rfl⟩
   have HN:Hid (Az xs 5 0 p 0=none):=by have:=HR.out;rw[Cn _ _ _ _ _ hq]at this;exact this
   go_wp2_with (go_at_call 261;refine(EW v xs q u pv _ h (.inr (by omega)) he).mono ?_;rintro e w' ⟨rfl,rfl⟩)
   exact⟨rfl,.inr ⟨HN.out,rfl⟩,rfl⟩
  case inr.inl=>
   simp only[Int.reducePow]at hn;by_cases hq:q<xs.length
   ·have hx:=hb q hq;obtain⟨d,hd⟩:∃d,xs.getD q 0=d:=⟨_,rfl⟩
    have HD:Hid (xs.getD q 0=d):=hd;rw[hd]at hx;clear hd;by_cases h1:128≤d
    ·have HS:Hid (Az xs 5 0 p 0=Az xs 3 2 (q+1) (n+d%128*128)):=DZ (by decide) HR.out hq HD.out h1;go_wp2_with (go_at_call 261;refine(BK v xs q d _ h hq HD hx).mono ?_;rintro e w' ⟨rfl,rfl⟩)
     go_round
     case rel=>exact⟨2,q+1,_,by omega,by go_num,rfl,rfl,by omega,by simp only[Int.reducePow];omega,HS⟩
     case measure=>simp[intOf]
    by_cases h2:2147483647<n+d%128*128
    ·have HN:Hid (Az xs 5 0 p 0=none):=Dc (by decide) HR.out hq HD.out h1 (.inl h2);omega
    have h2':n+d%128*128≤2147483647:=by omega
    by_cases h3:d=0
    ·have HN:Hid (Az xs 5 0 p 0=none):=Dc rfl HR.out hq HD.out h1 (.inr ⟨h3,by omega⟩);subst h3;go_wp2_with (go_at_call 261;refine(BK v xs q 0 _ h hq HD hx).mono ?_;rintro e w' ⟨rfl,rfl⟩)
     exact⟨rfl,.inr ⟨HN.out,rfl⟩,rfl⟩
    have HY:Hid (Az xs 5 0 p 0=some (n+d%128*128,(q:Int)+1)):=DV (by decide) HR.out hq HD.out h1 (by omega);have h3':(d==0)=false:=by simp[h3]
    go_wp2_with (go_at_call 261;refine(BK v xs q d _ h hq HD hx).mono ?_;rintro e w' ⟨rfl,rfl⟩)
    go_ret2
    exact⟨.inl ⟨_,_,HY.out,rfl⟩,rfl⟩
   have HN:Hid (Az xs 5 0 p 0=none):=by have:=HR.out;rw[Cn _ _ _ _ _ hq]at this;exact this
   go_wp2_with (go_at_call 261;refine(EW v xs q u pv _ h (.inr (by omega)) he).mono ?_;rintro e w' ⟨rfl,rfl⟩)
   exact⟨rfl,.inr ⟨HN.out,rfl⟩,rfl⟩
  case inr.inr.inl=>
   simp only[Int.reducePow]at hn;by_cases hq:q<xs.length
   ·have hx:=hb q hq;obtain⟨d,hd⟩:∃d,xs.getD q 0=d:=⟨_,rfl⟩
    have HD:Hid (xs.getD q 0=d):=hd;rw[hd]at hx;clear hd;by_cases h1:128≤d
    ·have HS:Hid (Az xs 5 0 p 0=Az xs 2 3 (q+1) (n+d%128*16384)):=DZ (by decide) HR.out hq HD.out h1;go_wp2_with (go_at_call 261;refine(BK v xs q d _ h hq HD hx).mono ?_;rintro e w' ⟨rfl,rfl⟩)
     go_round
     case rel=>exact⟨3,q+1,_,by omega,by go_num,rfl,rfl,by omega,by simp only[Int.reducePow];omega,HS⟩
     case measure=>simp[intOf]
    by_cases h2:2147483647<n+d%128*16384
    ·have HN:Hid (Az xs 5 0 p 0=none):=Dc (by decide) HR.out hq HD.out h1 (.inl h2);omega
    have h2':n+d%128*16384≤2147483647:=by omega
    by_cases h3:d=0
    ·have HN:Hid (Az xs 5 0 p 0=none):=Dc rfl HR.out hq HD.out h1 (.inr ⟨h3,by omega⟩);subst h3;go_wp2_with (go_at_call 261;refine(BK v xs q 0 _ h hq HD hx).mono ?_;rintro e w' ⟨rfl,rfl⟩)
     exact⟨rfl,.inr ⟨HN.out,rfl⟩,rfl⟩
    have HY:Hid (Az xs 5 0 p 0=some (n+d%128*16384,(q:Int)+1)):=DV (by decide) HR.out hq HD.out h1 (by omega);have h3':(d==0)=false:=by simp[h3]
    go_wp2_with (go_at_call 261;refine(BK v xs q d _ h hq HD hx).mono ?_;rintro e w' ⟨rfl,rfl⟩)
    go_ret2
    exact⟨.inl ⟨_,_,HY.out,rfl⟩,rfl⟩
   have HN:Hid (Az xs 5 0 p 0=none):=by have:=HR.out;rw[Cn _ _ _ _ _ hq]at this;exact this
   go_wp2_with (go_at_call 261;refine(EW v xs q u pv _ h (.inr (by omega)) he).mono ?_;rintro e w' ⟨rfl,rfl⟩)
   exact⟨rfl,.inr ⟨HN.out,rfl⟩,rfl⟩
  case inr.inr.inr.inl=>
   simp only[Int.reducePow]at hn;by_cases hq:q<xs.length
   ·have hx:=hb q hq;obtain⟨d,hd⟩:∃d,xs.getD q 0=d:=⟨_,rfl⟩
    have HD:Hid (xs.getD q 0=d):=hd;rw[hd]at hx;clear hd;by_cases h1:128≤d
    ·have HS:Hid (Az xs 5 0 p 0=Az xs 1 4 (q+1) (n+d%128*2097152)):=DZ (by decide) HR.out hq HD.out h1;go_wp2_with (go_at_call 261;refine(BK v xs q d _ h hq HD hx).mono ?_;rintro e w' ⟨rfl,rfl⟩)
     go_round
     case rel=>exact⟨4,q+1,_,by omega,by go_num,rfl,rfl,by omega,by simp only[Int.reducePow];omega,HS⟩
     case measure=>simp[intOf]
    by_cases h2:2147483647<n+d%128*2097152
    ·have HN:Hid (Az xs 5 0 p 0=none):=Dc (by decide) HR.out hq HD.out h1 (.inl h2);omega
    have h2':n+d%128*2097152≤2147483647:=by omega
    by_cases h3:d=0
    ·have HN:Hid (Az xs 5 0 p 0=none):=Dc rfl HR.out hq HD.out h1 (.inr ⟨h3,by omega⟩);subst h3;go_wp2_with (go_at_call 261;refine(BK v xs q 0 _ h hq HD hx).mono ?_;rintro e w' ⟨rfl,rfl⟩)
     exact⟨rfl,.inr ⟨HN.out,rfl⟩,rfl⟩
    have HY:Hid (Az xs 5 0 p 0=some (n+d%128*2097152,(q:Int)+1)):=DV (by decide) HR.out hq HD.out h1 (by omega);have h3':(d==0)=false:=by simp[h3]
    go_wp2_with (go_at_call 261;refine(BK v xs q d _ h hq HD hx).mono ?_;rintro e w' ⟨rfl,rfl⟩)
    go_ret2
    exact⟨.inl ⟨_,_,HY.out,rfl⟩,rfl⟩
   have HN:Hid (Az xs 5 0 p 0=none):=by have:=HR.out;rw[Cn _ _ _ _ _ hq]at this;exact this
   go_wp2_with (go_at_call 261;refine(EW v xs q u pv _ h (.inr (by omega)) he).mono ?_;rintro e w' ⟨rfl,rfl⟩)
   exact⟨rfl,.inr ⟨HN.out,rfl⟩,rfl⟩
  case inr.inr.inr.inr.inl=>
   simp only[Int.reducePow]at hn;by_cases hq:q<xs.length
   ·have hx:=hb q hq;obtain⟨d,hd⟩:∃d,xs.getD q 0=d:=⟨_,rfl⟩
    have HD:Hid (xs.getD q 0=d):=hd;rw[hd]at hx;clear hd;by_cases h1:128≤d
    ·have HS:Hid (Az xs 5 0 p 0=Az xs 0 5 (q+1) (n+d%128*268435456)):=DZ (by decide) HR.out hq HD.out h1;go_wp2_with (go_at_call 261;refine(BK v xs q d _ h hq HD hx).mono ?_;rintro e w' ⟨rfl,rfl⟩)
     go_round
     case rel=>exact⟨5,q+1,_,by omega,by go_num,rfl,rfl,by omega,by simp only[Int.reducePow];omega,HS⟩
     case measure=>simp[intOf]
    by_cases h2:2147483647<n+d%128*268435456
    ·have HN:Hid (Az xs 5 0 p 0=none):=Dc (by decide) HR.out hq HD.out h1 (.inl h2);go_wp2_with (go_at_call 261;refine(BK v xs q d _ h hq HD hx).mono ?_;rintro e w' ⟨rfl,rfl⟩)
     exact⟨rfl,.inr ⟨HN.out,rfl⟩,rfl⟩
    have h2':n+d%128*268435456≤2147483647:=by omega
    by_cases h3:d=0
    ·have HN:Hid (Az xs 5 0 p 0=none):=Dc rfl HR.out hq HD.out h1 (.inr ⟨h3,by omega⟩);subst h3;go_wp2_with (go_at_call 261;refine(BK v xs q 0 _ h hq HD hx).mono ?_;rintro e w' ⟨rfl,rfl⟩)
     exact⟨rfl,.inr ⟨HN.out,rfl⟩,rfl⟩
    have HY:Hid (Az xs 5 0 p 0=some (n+d%128*268435456,(q:Int)+1)):=DV (by decide) HR.out hq HD.out h1 (by omega);have h3':(d==0)=false:=by simp[h3]
    go_wp2_with (go_at_call 261;refine(BK v xs q d _ h hq HD hx).mono ?_;rintro e w' ⟨rfl,rfl⟩)
    go_ret2
    exact⟨.inl ⟨_,_,HY.out,rfl⟩,rfl⟩
   have HN:Hid (Az xs 5 0 p 0=none):=by have:=HR.out;rw[Cn _ _ _ _ _ hq]at this;exact this
   go_wp2_with (go_at_call 261;refine(EW v xs q u pv _ h (.inr (by omega)) he).mono ?_;rintro e w' ⟨rfl,rfl⟩)
   exact⟨rfl,.inr ⟨HN.out,rfl⟩,rfl⟩
end
end Go.Proofs.YtcjmcgolgbkknaaGreatDoor
