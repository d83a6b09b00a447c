/- Lemmas, as stated. -/
import Derived.Test.YtcjmcgolgbkknaaGreatDoorTAAO
set_option maxRecDepth 100000
set_option maxHeartbeats 16000000
set_option linter.unusedSectionVars false
namespace Go.Proofs.YtcjmcgolgbkknaaGreatDoor
section
open Go.RowKit
variable [∀(a b c d:Int),Decidable (BG a b c d)] [∀(n f:Int),Decidable (A_ n f)] [∀(a b c d:Nat),Decidable (DZ a b c d)] [∀(x:T4),Decidable (Du x)]
structure oP(t:Bt)(rs:List Pr):Prop where
 s:t.s.size≤maxLen
 q:t.qw.length≤maxLen
 d:t.d.size≤maxLen
 p:t.pool.length≤maxLen
 tb:rs.length≤maxLen
 tt:∀r ∈ rs,r.2.1.size≤maxLen∧r.2.2.2.2.length≤maxLen
 k:t.AU.length≤maxLen
 h:t.held.length≤maxLen
 hh:∀p ∈ t.held,MB p.2
abbrev ql(t:Bt)(a b c d e:Value):Value:=Dz t a b c d e
theorem Qb(t:Bt)(ao bo co od oe:Option Addr)(ca cb cc cd ce:Nat)(rs:List Pr)(left:Int)(w:World)(hc:Ei w co rs)(hh:F7 w (.slice oe t.held.length ce) t.held)(hl:left≤1048576)(g:(t.s.size:Int)+t.qw.length+t.d.size+t.pool.length+rs.length+Bh rs+t.AU.length+t.held.length+BC t.held≤left):
 Calls Tryz.prog 6 #[ql t (.slice ao t.qw.length ca) (.slice bo t.pool.length cb) (.slice co rs.length cc) (.slice od t.AU.length cd) (.slice oe t.held.length ce),.int .i64 left] w fun r w'=>r= .returned (.int .i64 (left-((t.s.size:Int)+t.qw.length+t.d.size+t.pool.length+rs.length+Bh rs+t.AU.length+t.held.length+BC t.held)))∧Below w.heap.size w w':=by
 have HC:=hide hc;have HH:=hide hh;obtain⟨L1,hL1⟩:∃x:Int,left-t.s.size-t.qw.length-t.d.size=x:=⟨_,rfl⟩
 have T1:=hide fun w  =>Fu t.vo t.lo t.n t.s ao t.qw.length ca t.d left w (by omega) (by omega);rw[hL1]at T1;have d1:decide (L1<0)=false:=by simp;omega
 obtain⟨L2,hL2⟩:∃x:Int,L1-t.pool.length=x:=⟨_,rfl⟩
 have T2:=hide fun w  =>Mt bo t.pool.length cb L1 w (by omega) (by omega);rw[hL2]at T2;have d2:decide (L2<0)=false:=by simp;omega
 obtain⟨L3,hL3⟩:∃x:Int,L2-rs.length-Bh rs=x:=⟨_,rfl⟩
 have T3:=hide fun w(h:Ei w co rs)=>Ij co cc rs L2 w h (by omega) (by omega);rw[hL3]at T3;have d3:decide (L3<0)=false:=by simp;omega
 obtain⟨L4,hL4⟩:∃x:Int,L3-t.AU.length=x:=⟨_,rfl⟩
 have T4:=hide fun w  =>N_ od t.AU.length cd t.su L3 w (by omega) (by omega);rw[hL4]at T4;have d4:decide (L4<0)=false:=by simp;omega
 obtain⟨L5,hL5⟩:∃x:Int,L4-t.held.length-BC t.held=x:=⟨_,rfl⟩
 have T5:=hide fun w(h:F7 w (.slice oe t.held.length ce) t.held)=>UR _ t.held L4 w h (by omega) (by omega);rw[hL5]at T5;have d5:decide (L5<0)=false:=by simp;omega
 rw[show left-((t.s.size:Int)+t.qw.length+t.d.size+t.pool.length+rs.length+Bh rs+t.AU.length+t.held.length+BC t.held)=L5 by omega];clear hc hh hl g hL1 hL2 hL3 hL4 hL5;obtain⟨w0,hw0,AO,P,DC⟩:=bx1 w #[.int .i64 t.id,.int .i64 t.vw,.int .i64 t.ak,.int .i64 t.vo,.int .i64 t.lo,.int .i64 t.n,.string t.s,.slice ao t.qw.length ca,.string t.d,.slice bo t.pool.length cb,.slice co rs.length cc,.slice od t.AU.length cd,.int .i64 t.su,.slice oe t.held.length ce] 36;go_enter Tryz.func6,Tryz.ntmps6
 go_wp2_with (first|(refine A9 [.int .i64 t.vo,.int .i64 t.lo,.int .i64 t.n,.string t.s,.slice ao t.qw.length ca,.string t.d] (P.range 3 6 rfl) 28 _ rfl _ rfl rfl Tryz.underlying28 rfl (by kernel_rfl) ?_))
 clear hw0;refine(T1.out _).mono ?_;rintro _ w1 ⟨rfl,bb⟩;have AZ:=bu AO bb;have Cx:=bb.size;replace P:=P.up bb;clear AO bb;have Ye:=P.cell 9 rfl;go_wp2_with fail
 refine(T2.out _).mono ?_;rintro _ w9 ⟨rfl,e9⟩;rw[e9];clear e9 Ye;have Lc:=P.cell 10 rfl;go_wp2_with fail
 refine(T3.out _ (HC.out.below (AZ.mono Ak))).mono ?_;rintro _ w2 ⟨rfl,bb⟩;clear Lc;have Ao:=bu AZ bb;have Ex:=bb.size;replace P:=P.up bb;clear AZ bb;go_wp2_with (first|(refine A9 [.slice od t.AU.length cd,.int .i64 t.su] (P.range 11 2 rfl) 33 _ rfl _ rfl rfl Tryz.underlying33 rfl (by kernel_rfl) ?_))
 refine(T4.out _).mono ?_;rintro _ w3 ⟨rfl,bb⟩;have BK:=bu Ao bb;have IW:=bb.size;replace P:=P.up bb;clear Ao bb;have Sw:=P.cell 13 rfl;go_wp2_with fail
 refine(T5.out _ (HH.out.below BK)).mono ?_;rintro _ w4 ⟨rfl,bb⟩;clear Sw;have Co:=bu BK bb;have OJ:=bb.size;replace P:=P.up bb;clear BK bb;go_wp2;go_ret;exact⟨rfl,Co⟩
theorem Zw(t:Bt)(ao bo co od oe:Option Addr)(ca cb cc cd ce:Nat)(rs:List Pr)(left:Int)(w:World)(hc:Ei w co rs)(hh:F7 w (.slice oe t.held.length ce) t.held)(hl:left≤1048576)(m:oP t rs)(g:0≤left∧(0:Int)≤left∧left<((t.s.size:Int)+t.qw.length+t.d.size)):
 Calls Tryz.prog 6 #[ql t (.slice ao t.qw.length ca) (.slice bo t.pool.length cb) (.slice co rs.length cc) (.slice od t.AU.length cd) (.slice oe t.held.length ce),.int .i64 left] w fun r w'=>r= .returned (.int .i64 (-1))∧Below w.heap.size w w':=by
 have HC:=hide hc;have HH:=hide hh;have p0:0≤left:=by omega
 have T1:=hide fun w  =>Zq t.vo t.lo t.n t.s ao t.qw.length ca t.d left w (by omega) (by omega) (by have:=m.s;unfold maxLen at this;omega) (by have:=m.q;unfold maxLen at this;omega) (by have:=m.d;unfold maxLen at this;omega) (by omega);have d1:decide ((-1:Int)<0)=true:=by decide
 clear hc hh hl g m p0;obtain⟨w0,hw0,AO,P,DC⟩:=bx1 w #[.int .i64 t.id,.int .i64 t.vw,.int .i64 t.ak,.int .i64 t.vo,.int .i64 t.lo,.int .i64 t.n,.string t.s,.slice ao t.qw.length ca,.string t.d,.slice bo t.pool.length cb,.slice co rs.length cc,.slice od t.AU.length cd,.int .i64 t.su,.slice oe t.held.length ce] 36;go_enter Tryz.func6,Tryz.ntmps6
 go_wp2_with (first|(refine A9 [.int .i64 t.vo,.int .i64 t.lo,.int .i64 t.n,.string t.s,.slice ao t.qw.length ca,.string t.d] (P.range 3 6 rfl) 28 _ rfl _ rfl rfl Tryz.underlying28 rfl (by kernel_rfl) ?_))
 clear hw0;refine(T1.out _).mono ?_;rintro _ w1 ⟨rfl,bb⟩;have AZ:=bu AO bb;have Cx:=bb.size;replace P:=P.up bb;clear AO bb;go_wp2;go_ret;exact⟨rfl,AZ⟩
theorem Zv(t:Bt)(ao bo co od oe:Option Addr)(ca cb cc cd ce:Nat)(rs:List Pr)(left:Int)(w:World)(hc:Ei w co rs)(hh:F7 w (.slice oe t.held.length ce) t.held)(hl:left≤1048576)(m:oP t rs)(g:0≤left∧(0:Int)+((t.s.size:Int)+t.qw.length+t.d.size)≤left∧left<((t.s.size:Int)+t.qw.length+t.d.size)+((t.pool.length:Int))):
 Calls Tryz.prog 6 #[ql t (.slice ao t.qw.length ca) (.slice bo t.pool.length cb) (.slice co rs.length cc) (.slice od t.AU.length cd) (.slice oe t.held.length ce),.int .i64 left] w fun r w'=>r= .returned (.int .i64 (-1))∧Below w.heap.size w w':=by
 have HC:=hide hc;have HH:=hide hh;have p0:0≤left:=by omega
 obtain⟨L1,hL1⟩:∃x:Int,left-t.s.size-t.qw.length-t.d.size=x:=⟨_,rfl⟩
 have T1:=hide fun w  =>Fu t.vo t.lo t.n t.s ao t.qw.length ca t.d left w (by omega) (by omega);rw[hL1]at T1;have d1:decide (L1<0)=false:=by simp;omega
 have T2:=hide fun w  =>qV bo t.pool.length cb L1 w (by omega) (by omega) (by have:=m.p;unfold maxLen at this;omega) (by omega);have d2:decide ((-1:Int)<0)=true:=by decide
 clear hc hh hl g hL1 m p0;obtain⟨w0,hw0,AO,P,DC⟩:=bx1 w #[.int .i64 t.id,.int .i64 t.vw,.int .i64 t.ak,.int .i64 t.vo,.int .i64 t.lo,.int .i64 t.n,.string t.s,.slice ao t.qw.length ca,.string t.d,.slice bo t.pool.length cb,.slice co rs.length cc,.slice od t.AU.length cd,.int .i64 t.su,.slice oe t.held.length ce] 36;go_enter Tryz.func6,Tryz.ntmps6
 go_wp2_with (first|(refine A9 [.int .i64 t.vo,.int .i64 t.lo,.int .i64 t.n,.string t.s,.slice ao t.qw.length ca,.string t.d] (P.range 3 6 rfl) 28 _ rfl _ rfl rfl Tryz.underlying28 rfl (by kernel_rfl) ?_))
 clear hw0;refine(T1.out _).mono ?_;rintro _ w1 ⟨rfl,bb⟩;have AZ:=bu AO bb;have Cx:=bb.size;replace P:=P.up bb;clear AO bb;have Ye:=P.cell 9 rfl;go_wp2_with fail
 refine(T2.out _).mono ?_;rintro _ w9 ⟨rfl,e9⟩;rw[e9];clear e9 Ye;go_wp2;go_ret;exact⟨rfl,AZ⟩
theorem Zu(t:Bt)(ao bo co od oe:Option Addr)(ca cb cc cd ce:Nat)(rs:List Pr)(left:Int)(w:World)(hc:Ei w co rs)(hh:F7 w (.slice oe t.held.length ce) t.held)(hl:left≤1048576)(m:oP t rs)(g:0≤left∧(0:Int)+((t.s.size:Int)+t.qw.length+t.d.size)+((t.pool.length:Int))≤left∧left<((t.s.size:Int)+t.qw.length+t.d.size)+((t.pool.length:Int))+((rs.length:Int)+Bh rs)):
 Calls Tryz.prog 6 #[ql t (.slice ao t.qw.length ca) (.slice bo t.pool.length cb) (.slice co rs.length cc) (.slice od t.AU.length cd) (.slice oe t.held.length ce),.int .i64 left] w fun r w'=>r= .returned (.int .i64 (-1))∧Below w.heap.size w w':=by
 have HC:=hide hc;have HH:=hide hh;have p0:0≤left:=by omega
 obtain⟨L1,hL1⟩:∃x:Int,left-t.s.size-t.qw.length-t.d.size=x:=⟨_,rfl⟩
 have T1:=hide fun w  =>Fu t.vo t.lo t.n t.s ao t.qw.length ca t.d left w (by omega) (by omega);rw[hL1]at T1;have d1:decide (L1<0)=false:=by simp;omega
 obtain⟨L2,hL2⟩:∃x:Int,L1-t.pool.length=x:=⟨_,rfl⟩
 have T2:=hide fun w  =>Mt bo t.pool.length cb L1 w (by omega) (by omega);rw[hL2]at T2;have d2:decide (L2<0)=false:=by simp;omega
 have T3:=hide fun w(h:Ei w co rs)=>XC co cc rs L2 w h m.tt (by omega) m.tb (by omega) (by omega);have d3:decide ((-1:Int)<0)=true:=by decide
 clear hc hh hl g hL1 hL2 m p0;obtain⟨w0,hw0,AO,P,DC⟩:=bx1 w #[.int .i64 t.id,.int .i64 t.vw,.int .i64 t.ak,.int .i64 t.vo,.int .i64 t.lo,.int .i64 t.n,.string t.s,.slice ao t.qw.length ca,.string t.d,.slice bo t.pool.length cb,.slice co rs.length cc,.slice od t.AU.length cd,.int .i64 t.su,.slice oe t.held.length ce] 36;go_enter Tryz.func6,Tryz.ntmps6
 go_wp2_with (first|(refine A9 [.int .i64 t.vo,.int .i64 t.lo,.int .i64 t.n,.string t.s,.slice ao t.qw.length ca,.string t.d] (P.range 3 6 rfl) 28 _ rfl _ rfl rfl Tryz.underlying28 rfl (by kernel_rfl) ?_))
 clear hw0;refine(T1.out _).mono ?_;rintro _ w1 ⟨rfl,bb⟩;have AZ:=bu AO bb;have Cx:=bb.size;replace P:=P.up bb;clear AO bb;have Ye:=P.cell 9 rfl;go_wp2_with fail
 refine(T2.out _).mono ?_;rintro _ w9 ⟨rfl,e9⟩;rw[e9];clear e9 Ye;have Lc:=P.cell 10 rfl;go_wp2_with fail
 refine(T3.out _ (HC.out.below (AZ.mono Ak))).mono ?_;rintro _ w2 ⟨rfl,bb⟩;clear Lc;have Ao:=bu AZ bb;have Ex:=bb.size;replace P:=P.up bb;clear AZ bb;go_wp2;go_ret;exact⟨rfl,Ao⟩
theorem Zt(t:Bt)(ao bo co od oe:Option Addr)(ca cb cc cd ce:Nat)(rs:List Pr)(left:Int)(w:World)(hc:Ei w co rs)(hh:F7 w (.slice oe t.held.length ce) t.held)(hl:left≤1048576)(m:oP t rs)(g:0≤left∧(0:Int)+((t.s.size:Int)+t.qw.length+t.d.size)+((t.pool.length:Int))+((rs.length:Int)+Bh rs)≤left∧left<((t.s.size:Int)+t.qw.length+t.d.size)+((t.pool.length:Int))+((rs.length:Int)+Bh rs)+((t.AU.length:Int))):
 Calls Tryz.prog 6 #[ql t (.slice ao t.qw.length ca) (.slice bo t.pool.length cb) (.slice co rs.length cc) (.slice od t.AU.length cd) (.slice oe t.held.length ce),.int .i64 left] w fun r w'=>r= .returned (.int .i64 (-1))∧Below w.heap.size w w':=by
 have HC:=hide hc;have HH:=hide hh;have p0:0≤left:=by omega
 obtain⟨L1,hL1⟩:∃x:Int,left-t.s.size-t.qw.length-t.d.size=x:=⟨_,rfl⟩
 have T1:=hide fun w  =>Fu t.vo t.lo t.n t.s ao t.qw.length ca t.d left w (by omega) (by omega);rw[hL1]at T1;have d1:decide (L1<0)=false:=by simp;omega
 obtain⟨L2,hL2⟩:∃x:Int,L1-t.pool.length=x:=⟨_,rfl⟩
 have T2:=hide fun w  =>Mt bo t.pool.length cb L1 w (by omega) (by omega);rw[hL2]at T2;have d2:decide (L2<0)=false:=by simp;omega
 obtain⟨L3,hL3⟩:∃x:Int,L2-rs.length-Bh rs=x:=⟨_,rfl⟩
 have T3:=hide fun w(h:Ei w co rs)=>Ij co cc rs L2 w h (by omega) (by omega);rw[hL3]at T3;have d3:decide (L3<0)=false:=by simp;omega
 have T4:=hide fun w  =>Z6 od t.AU.length cd t.su L3 w (by omega) (by omega) (by omega) (by have:=m.k;unfold maxLen at this;omega);have d4:decide ((-1:Int)<0)=true:=by decide
 clear hc hh hl g hL1 hL2 hL3 m p0;obtain⟨w0,hw0,AO,P,DC⟩:=bx1 w #[.int .i64 t.id,.int .i64 t.vw,.int .i64 t.ak,.int .i64 t.vo,.int .i64 t.lo,.int .i64 t.n,.string t.s,.slice ao t.qw.length ca,.string t.d,.slice bo t.pool.length cb,.slice co rs.length cc,.slice od t.AU.length cd,.int .i64 t.su,.slice oe t.held.length ce] 36;go_enter Tryz.func6,Tryz.ntmps6
 go_wp2_with (first|(refine A9 [.int .i64 t.vo,.int .i64 t.lo,.int .i64 t.n,.string t.s,.slice ao t.qw.length ca,.string t.d] (P.range 3 6 rfl) 28 _ rfl _ rfl rfl Tryz.underlying28 rfl (by kernel_rfl) ?_))
 clear hw0;refine(T1.out _).mono ?_;rintro _ w1 ⟨rfl,bb⟩;have AZ:=bu AO bb;have Cx:=bb.size;replace P:=P.up bb;clear AO bb;have Ye:=P.cell 9 rfl;go_wp2_with fail
 refine(T2.out _).mono ?_;rintro _ w9 ⟨rfl,e9⟩;rw[e9];clear e9 Ye;have Lc:=P.cell 10 rfl;go_wp2_with fail
 refine(T3.out _ (HC.out.below (AZ.mono Ak))).mono ?_;rintro _ w2 ⟨rfl,bb⟩;clear Lc;have Ao:=bu AZ bb;have Ex:=bb.size;replace P:=P.up bb;clear AZ bb;go_wp2_with (first|(refine A9 [.slice od t.AU.length cd,.int .i64 t.su] (P.range 11 2 rfl) 33 _ rfl _ rfl rfl Tryz.underlying33 rfl (by kernel_rfl) ?_))
 refine(T4.out _).mono ?_;rintro _ w3 ⟨rfl,bb⟩;have BK:=bu Ao bb;have IW:=bb.size;replace P:=P.up bb;clear Ao bb;go_wp2;go_ret;exact⟨rfl,BK⟩
theorem Zr(t:Bt)(ao bo co od oe:Option Addr)(ca cb cc cd ce:Nat)(rs:List Pr)(left:Int)(w:World)(hc:Ei w co rs)(hh:F7 w (.slice oe t.held.length ce) t.held)(hl:left≤1048576)(m:oP t rs)(g:0≤left∧(0:Int)+((t.s.size:Int)+t.qw.length+t.d.size)+((t.pool.length:Int))+((rs.length:Int)+Bh rs)+((t.AU.length:Int))≤left∧left<((t.s.size:Int)+t.qw.length+t.d.size)+((t.pool.length:Int))+((rs.length:Int)+Bh rs)+((t.AU.length:Int))+((t.held.length:Int)+BC t.held)):
 Calls Tryz.prog 6 #[ql t (.slice ao t.qw.length ca) (.slice bo t.pool.length cb) (.slice co rs.length cc) (.slice od t.AU.length cd) (.slice oe t.held.length ce),.int .i64 left] w fun r w'=>r= .returned (.int .i64 (-1))∧Below w.heap.size w w':=by
 have HC:=hide hc;have HH:=hide hh;have p0:0≤left:=by omega
 obtain⟨L1,hL1⟩:∃x:Int,left-t.s.size-t.qw.length-t.d.size=x:=⟨_,rfl⟩
 have T1:=hide fun w  =>Fu t.vo t.lo t.n t.s ao t.qw.length ca t.d left w (by omega) (by omega);rw[hL1]at T1;have d1:decide (L1<0)=false:=by simp;omega
 obtain⟨L2,hL2⟩:∃x:Int,L1-t.pool.length=x:=⟨_,rfl⟩
 have T2:=hide fun w  =>Mt bo t.pool.length cb L1 w (by omega) (by omega);rw[hL2]at T2;have d2:decide (L2<0)=false:=by simp;omega
 obtain⟨L3,hL3⟩:∃x:Int,L2-rs.length-Bh rs=x:=⟨_,rfl⟩
 have T3:=hide fun w(h:Ei w co rs)=>Ij co cc rs L2 w h (by omega) (by omega);rw[hL3]at T3;have d3:decide (L3<0)=false:=by simp;omega
 obtain⟨L4,hL4⟩:∃x:Int,L3-t.AU.length=x:=⟨_,rfl⟩
 have T4:=hide fun w  =>N_ od t.AU.length cd t.su L3 w (by omega) (by omega);rw[hL4]at T4;have d4:decide (L4<0)=false:=by simp;omega
 have T5:=hide fun w(h:F7 w (.slice oe t.held.length ce) t.held)=>W_ _ t.held L4 w h m.hh (by omega) m.h (by omega) (by omega);have d5:decide ((-1:Int)<0)=true:=by decide
 clear hc hh hl g hL1 hL2 hL3 hL4 m p0;obtain⟨w0,hw0,AO,P,DC⟩:=bx1 w #[.int .i64 t.id,.int .i64 t.vw,.int .i64 t.ak,.int .i64 t.vo,.int .i64 t.lo,.int .i64 t.n,.string t.s,.slice ao t.qw.length ca,.string t.d,.slice bo t.pool.length cb,.slice co rs.length cc,.slice od t.AU.length cd,.int .i64 t.su,.slice oe t.held.length ce] 36;go_enter Tryz.func6,Tryz.ntmps6
 go_wp2_with (first|(refine A9 [.int .i64 t.vo,.int .i64 t.lo,.int .i64 t.n,.string t.s,.slice ao t.qw.length ca,.string t.d] (P.range 3 6 rfl) 28 _ rfl _ rfl rfl Tryz.underlying28 rfl (by kernel_rfl) ?_))
 clear hw0;refine(T1.out _).mono ?_;rintro _ w1 ⟨rfl,bb⟩;have AZ:=bu AO bb;have Cx:=bb.size;replace P:=P.up bb;clear AO bb;have Ye:=P.cell 9 rfl;go_wp2_with fail
 refine(T2.out _).mono ?_;rintro _ w9 ⟨rfl,e9⟩;rw[e9];clear e9 Ye;have Lc:=P.cell 10 rfl;go_wp2_with fail
 refine(T3.out _ (HC.out.below (AZ.mono Ak))).mono ?_;rintro _ w2 ⟨rfl,bb⟩;clear Lc;have Ao:=bu AZ bb;have Ex:=bb.size;replace P:=P.up bb;clear AZ bb;go_wp2_with (first|(refine A9 [.slice od t.AU.length cd,.int .i64 t.su] (P.range 11 2 rfl) 33 _ rfl _ rfl rfl Tryz.underlying33 rfl (by kernel_rfl) ?_))
 refine(T4.out _).mono ?_;rintro _ w3 ⟨rfl,bb⟩;have BK:=bu Ao bb;have IW:=bb.size;replace P:=P.up bb;clear Ao bb;have Sw:=P.cell 13 rfl;go_wp2_with fail
 refine(T5.out _ (HH.out.below BK)).mono ?_;rintro _ w4 ⟨rfl,bb⟩;clear Sw;have Co:=bu BK bb;have OJ:=bb.size;replace P:=P.up bb;clear BK bb;go_wp2;go_ret;exact⟨rfl,Co⟩
theorem gQ(t:Bt)(ao bo co od oe:Option Addr)(ca cb cc cd ce:Nat)(rs:List Pr)(left:Int)(w:World)(hc:Ei w co rs)(hh:F7 w (.slice oe t.held.length ce) t.held)(hl:left≤1048576)(m:oP t rs)(h0:0≤left)(g:left<(t.s.size:Int)+t.qw.length+t.d.size+t.pool.length+rs.length+Bh rs+t.AU.length+t.held.length+BC t.held):
 Calls Tryz.prog 6 #[ql t (.slice ao t.qw.length ca) (.slice bo t.pool.length cb) (.slice co rs.length cc) (.slice od t.AU.length cd) (.slice oe t.held.length ce),.int .i64 left] w fun r w'=>r= .returned (.int .i64 (-1))∧Below w.heap.size w w':=by
 by_cases g0:left<((t.s.size:Int)+t.qw.length+t.d.size)
 ·exact Zw t ao bo co od oe ca cb cc cd ce rs left w hc hh hl m ⟨h0,by omega,g0⟩
 by_cases g1:left<((t.s.size:Int)+t.qw.length+t.d.size)+((t.pool.length:Int))
 ·exact Zv t ao bo co od oe ca cb cc cd ce rs left w hc hh hl m ⟨h0,by omega,g1⟩
 by_cases g2:left<((t.s.size:Int)+t.qw.length+t.d.size)+((t.pool.length:Int))+((rs.length:Int)+Bh rs)
 ·exact Zu t ao bo co od oe ca cb cc cd ce rs left w hc hh hl m ⟨h0,by omega,g2⟩
 by_cases g3:left<((t.s.size:Int)+t.qw.length+t.d.size)+((t.pool.length:Int))+((rs.length:Int)+Bh rs)+((t.AU.length:Int))
 ·exact Zt t ao bo co od oe ca cb cc cd ce rs left w hc hh hl m ⟨h0,by omega,g3⟩
 by_cases g4:left<((t.s.size:Int)+t.qw.length+t.d.size)+((t.pool.length:Int))+((rs.length:Int)+Bh rs)+((t.AU.length:Int))+((t.held.length:Int)+BC t.held)
 ·exact Zr t ao bo co od oe ca cb cc cd ce rs left w hc hh hl m ⟨h0,by omega,g4⟩
 omega
end
end Go.Proofs.YtcjmcgolgbkknaaGreatDoor
namespace Go.Proofs
open Go.Shelf
def Tryz.lays217_ren:Go.Shelf.Ren:=⟨fun|217=>288|266=>299|n=>n,fun|9=>9|5=>5|3=>3|n=>n,fun|n=>n⟩
theorem Tryz.lays217:Go.Proofs.Lays.n217 Tryz.prog Tryz.lays217_ren:={
 mixed:=by kernel_rfl
 f217:=Tryz.func288.trans (congrArg some (by kernel_rfl))
 f266:=Tryz.func299.trans (congrArg some (by kernel_rfl))
 t3:=Tryz.underlying3
 a3:=Tryz.isAgg3
 z3:=Tryz.sizeOf3
 v3:=Tryz.zeroValue3
 t5:=Tryz.underlying5
 a5:=Tryz.isAgg5
 z5:=Tryz.sizeOf5
 v5:=Tryz.zeroValue5
 t9:=Tryz.underlying9
 a9:=Tryz.isAgg9
 z9:=Tryz.sizeOf9
 v9:=Tryz.zeroValue9 }
open Go.RowKit Go.Lib in
theorem Tryz.stringslite_IndexByte(s:ByteArray)(c:Int)(w:World):
 Calls Tryz.prog 288 #[.string s,.int .u8 c] w fun e w'=>e= .returned (.int .i64 (Lib.indexByte s.data.toList c.toNat.toUInt8))∧w'=w:=Any.stringslite_IndexByte Tryz.lays217 s c w
def Tryz.lays222_ren:Go.Shelf.Ren:=⟨fun|222=>357|n=>n,fun|9=>9|5=>5|3=>3|4=>4|n=>n,fun|n=>n⟩
theorem Tryz.lays222:Go.Proofs.Lays.n222 Tryz.prog Tryz.lays222_ren:={
 mixed:=by kernel_rfl
 f222:=Tryz.func357.trans (congrArg some (by kernel_rfl))
 t3:=Tryz.underlying3
 a3:=Tryz.isAgg3
 z3:=Tryz.sizeOf3
 v3:=Tryz.zeroValue3
 t4:=Tryz.underlying4
 a4:=Tryz.isAgg4
 z4:=Tryz.sizeOf4
 v4:=Tryz.zeroValue4
 t5:=Tryz.underlying5
 a5:=Tryz.isAgg5
 z5:=Tryz.sizeOf5
 v5:=Tryz.zeroValue5
 t9:=Tryz.underlying9
 a9:=Tryz.isAgg9
 z9:=Tryz.sizeOf9
 v9:=Tryz.zeroValue9 }
open Go.RowKit Go.Lib in
theorem Tryz.bytealg_LastIndexByteString_nm(s:ByteArray)(c:Int)(hs:s.size<4611686018427387904)(w:World):
 Calls Tryz.prog 357 #[.string s,.int .u8 c] w fun e w'=>e= .returned (.int .i64 (Lib.lastIndexByte s c))∧w'=w:=Any.bytealg_LastIndexByteString_nm Tryz.lays222 s c hs w
def Tryz.lays103_ren:Go.Shelf.Ren:=⟨fun|103=>254|210=>273|206=>292|n=>n,fun|9=>9|4=>4|24=>323|3=>3|n=>n,fun|n=>n⟩
theorem Tryz.lays103:Go.Proofs.Lays.n103 Tryz.prog Tryz.lays103_ren:={
 mixed:=by kernel_rfl
 f103:=Tryz.func254.trans (congrArg some (by kernel_rfl))
 f206:=Tryz.func292.trans (congrArg some (by kernel_rfl))
 f210:=Tryz.func273.trans (congrArg some (by kernel_rfl))
 t3:=Tryz.underlying3
 a3:=Tryz.isAgg3
 z3:=Tryz.sizeOf3
 v3:=Tryz.zeroValue3
 t4:=Tryz.underlying4
 a4:=Tryz.isAgg4
 z4:=Tryz.sizeOf4
 v4:=Tryz.zeroValue4
 t9:=Tryz.underlying9
 a9:=Tryz.isAgg9
 z9:=Tryz.sizeOf9
 v9:=Tryz.zeroValue9
 t24:=Tryz.underlying323
 a24:=Tryz.isAgg323
 z24:=Tryz.sizeOf323
 v24:=Tryz.zeroValue323 }
open Go.RowKit in
theorem Tryz.strings_CutPrefix(s p:ByteArray)(w:World):
 Calls Tryz.prog 254 #[.string s,.string p] w fun e w'=>e= .returned (.tuple #[.string ⟨(Lib.trimPrefix s.data.toList p.data.toList).toArray⟩,.bool (Lib.hasPrefix s.data.toList p.data.toList)])∧w'=w:=Any.strings_CutPrefix Tryz.lays103 s p w
end Go.Proofs
namespace Go.Proofs.YtcjmcgolgbkknaaGreatDoor
section
open Go.RowKit
variable [∀(a b c d:Int),Decidable (BG a b c d)] [∀(a b c d:Nat),Decidable (DZ a b c d)]
abbrev St:=Int×List T4
abbrev kI:St:=(0,[])
def stepOf(p:ByteArray):Option St:=
 if(124:UInt8) ∈ p.data.toList then(numOf (hd 124 p.data.toList)).bind fun n=>(Ce (BU (tl 124 p.data.toList))).map fun ts=>((n:Int),ts)else none
def Aq(last:Int)(s:St):Prop:=last<s.1∧s.1≤60∧s.2.length≤2
variable [∀(last:Int)(s:St),Decidable (Aq last s)]
def E9(o:Option (Int×List St))(p:ByteArray):Option (Int×List St):=o.bind fun q=>(stepOf p).bind fun s=>if Aq q.1 s then some (s.1,q.2++[s])else none
def BL(ps:List ByteArray):Option (Int×List St):=ps.foldl E9 (some (0,[]))
def AP(s:ByteArray):Option (List St):=
 if s=⟨#[]⟩then some []
 else if(Ag s 47).getD 0 ByteArray.empty=⟨#[]⟩∧(Ag s 47).length≤31 then(BL (Ag s 47).tail).map (·.2)else none
theorem DV(ps:List ByteArray)(p:ByteArray):BL (ps++[p])=E9 (BL ps) p:=by
 unfold BL;rw[List.foldl_append];rfl
theorem jm(ps:List ByteArray):ps.foldl E9 none=none:=by
 induction ps with
 |nil=>rfl
 |cons p ps ih=>rw[List.foldl_cons];exact ih
theorem JQ{ps:List ByteArray}(k:Nat)(h:BL (ps.take k)=none):BL ps=none:=by
 have e:BL ps=(ps.drop k).foldl E9 (BL (ps.take k)):=by
  unfold BL;rw[←List.foldl_append,List.take_append_drop]
 rw[e,h];exact jm _
theorem Il(ps:List ByteArray)(q:Int×List St)(h:BL ps=some q):q.2.length=ps.length∧(0≤q.1∧q.1≤60)∧(ps.length:Int)≤q.1∧∀s ∈ q.2,(1≤s.1∧s.1≤q.1)∧s.2.length≤2:=by
 generalize hn:ps.length=n
 induction n generalizing ps q with
 |zero=>
  have:ps=[]:=List.length_eq_zero_iff.1 hn;subst this;cases h
  exact⟨rfl,by simp,by simp,fun s hs=>by simp at hs⟩
 | succ n ih=>
  obtain⟨ps',p,rfl⟩:∃ps' p,ps=ps'++[p]:=⟨ps.dropLast,ps.getLast (fun e=>by rw[e]at hn;simp at hn),(List.dropLast_concat_getLast _).symm⟩
  rw[DV]at h;unfold E9 at h;cases hr:BL ps' with
  |none=>rw[hr]at h;cases h
  | some q'=>
   rw[hr]at h;cases hs:stepOf p with
   |none=>rw[hs]at h;simp at h
   | some s=>
    rw[hs]at h;simp only[Option.bind_some]at h
    split at h
    ·rename_i hg;cases h
     obtain⟨h1,h2,h3,h4⟩:=ih ps' q' hr (by simpa using hn);obtain⟨g1,g2,g3⟩:=hg;refine⟨by simp[h1],⟨by show 0≤s.1;omega,g2⟩,by show(((n+1:Nat)):Int)≤s.1;omega,fun y hy=>?_⟩;rcases List.mem_append.1 hy with hy|hy
     ·obtain⟨⟨a1,a2⟩,a3⟩:=h4 y hy;exact⟨⟨a1,by show y.1≤s.1;omega⟩,a3⟩
     simp at hy;subst hy;exact⟨⟨by omega,Int.le_refl _⟩,g3⟩
    cases h
end
section
open Go.RowKit
def Bytes(xs:List Int):Prop:=∀k,k<xs.length→0≤xs.getD k 0∧xs.getD k 0≤255
theorem Zh{w:World}{b off q n:Nat}{xs:List Int}(h:∀k,k<xs.length→w.cell? ⟨b,off+k,none⟩=some (.int .u8 (xs.getD k 0)))(hq:q+n≤xs.length):
 ∀i,i<n→w.cell? ⟨b,off+q+i,none⟩=some (.int .u8 (((xs.drop q).take n).getD i 0)):=by
 intro i hi;rw[Nat.add_assoc,h (q+i) (by omega)];simp[List.getD_eq_getElem?_getD,List.getElem?_drop,hi]
theorem ko(xs:List Int)(q n:Nat)(hq:q+n≤xs.length):((xs.drop q).take n).length=n:=by simp;omega
end
section

def Cu(b:UInt8)(ps:List ByteArray):Nat→List UInt8
 |0=>[]
 |j+1=>(if 0<j then Cu b ps j++[b]else Cu b ps j)++(ps.getD j ByteArray.empty).data.toList
theorem Xy(b:UInt8)(ps qs:List ByteArray)(j:Nat)(h:j≤ps.length):Cu b (ps++qs) j=Cu b ps j:=by
 induction j with
 |zero=>rfl
 | succ j ih=>
  have e:(ps++qs).getD j ByteArray.empty=ps.getD j ByteArray.empty:=by
   rw[List.getD_eq_getElem?_getD,List.getD_eq_getElem?_getD,List.getElem?_append_left (by omega)]
  rw[Cu,Cu,ih (by omega),e]
theorem L8(b:UInt8)(ps:List ByteArray)(x:ByteArray):Cu b (ps++[x]) (ps.length+1)=(if 0<ps.length then Cu b ps ps.length++[b]else Cu b ps ps.length)++x.data.toList:=by
 have e:(ps++[x]).getD ps.length ByteArray.empty=x:=by simp
 rw[Cu,Xy b ps [x] ps.length Ak,e]
theorem ZX(s:ByteArray)(i j:Nat):(s.extract i j).data.toList=(s.data.toList.drop i).take (j-i):=by
 rw[ByteArray.data_extract,Array.toList_extract]
theorem aA(s:ByteArray)(b:UInt8)(k:Nat)(hk:k≤s.size):
 ((Gt s b.toNat k).1=[]∧(Gt s b.toNat k).2=0)∨(0<(Gt s b.toNat k).1.length∧Cu b (Gt s b.toNat k).1 (Gt s b.toNat k).1.length++[b]=s.data.toList.take (Gt s b.toNat k).2):=by
 induction k with
 |zero=>left;simp[Gt]
 | succ k ih=>
  have ih:=ih (by omega);have hks:k<s.size:=by omega
  by_cases hb:(s[k].toNat:Int)=b.toNat
  ·rw[KQ s _ k hks hb]
   right
   have hle:=(Jh s b.toNat k).1
   have hbb:s[k]=b:=by
    apply UInt8.toNat_inj.1;omega
   have htk:s.data.toList.take (k+1)=s.data.toList.take k++[b]:=by
    rw[List.take_succ_eq_append_getElem (by simpa using hks)]
    congr 1
    rw[←hbb];rfl
   refine⟨by simp,?_⟩;simp only[List.length_append,List.length_cons,List.length_nil,Nat.zero_add];rw[L8,ZX,htk]
   congr 1
   rcases ih with⟨h1,h2⟩|⟨h1,h2⟩
   ·rw[h1,h2];simp[Cu]
   rw[if_pos h1,h2];rw[←List.take_add]
   congr 1;omega
  rw[Iq s _ k hks hb];exact ih
theorem Jd(s:ByteArray)(b:UInt8):Cu b (Ag s b.toNat) (Ag s b.toNat).length=s.data.toList:=by
 have hle:=(Jh s b.toNat s.size).1;have hinv:=aA s b s.size Ak;have hlen:s.data.toList.length=s.size:=by simp
 unfold Ag;simp only[List.length_append,List.length_cons,List.length_nil,Nat.zero_add];rw[L8,ZX];rcases hinv with⟨h1,h2⟩|⟨h1,h2⟩
 ·rw[h1,h2];simp only[List.length_nil,Cu,List.drop_zero,Nat.sub_zero];rw[List.take_of_length_le (by omega)];simp
 rw[if_pos h1,h2,←List.take_add,List.take_of_length_le (by omega)]
end
section
variable [∀(a b c d:Int),Decidable (BG a b c d)] [∀(a b c d:Nat),Decidable (DZ a b c d)] [∀(x:T4),Decidable (Du x)]
def jn:List (List UInt8)→List UInt8
 | []=>[]
 | [p]=>p
 |p :: q :: r=>p++44 :: jn (q :: r)
theorem ZP(ps:List (List UInt8))(p:List UInt8):jn (ps++[p])=(if 0<ps.length then jn ps++[44]else jn ps)++p:=by
 induction ps with
 |nil=>simp[jn]
 | cons x ps ih=>
  cases ps with
  |nil=>simp[jn]
  |cons y ps=>
   rw[List.cons_append]at ih;rw[List.cons_append,List.cons_append,jn,jn,ih];simp
theorem dQ(ps qs:List (List UInt8))(hp:∀p ∈ ps,44 ∉ p)(hq:∀q ∈ qs,44 ∉ q)(hn:ps≠[])(hm:qs≠[])(h:jn ps=jn qs):ps=qs:=by
 induction ps generalizing qs with
 |nil=>exact absurd rfl hn
 | cons p ps ih=>
  cases qs with
  |nil=>exact absurd rfl hm
  | cons q qs=>
   have hp0:=hp p (by simp);have hq0:=hq q (by simp);cases ps with
   |nil=>
    cases qs with
    |nil=>simp[jn]at h;rw[h]
    |cons q' qs=>simp only[jn]at h;rw[h]at hp0;simp at hp0
   | cons p' ps=>
    cases qs with
    |nil=>simp only[jn]at h;rw[←h]at hq0;simp at hq0
    |cons q' qs=>
     simp only[jn]at h;have e1:p=q:=by rw[←D5 (y:=jn (p' :: ps)) hp0,h,D5 hq0]
     have e2:jn (p' :: ps)=jn (q' :: qs):=by rw[←ET (x:=p) (y:=jn (p' :: ps)) hp0,h,ET hq0]
     rw[e1,ih (q' :: qs) (fun x hx=>hp x (by simp at hx⊢;exact .inr hx)) (fun x hx=>hq x (by simp at hx⊢;exact .inr hx)) (by simp) (by simp) e2]
theorem Qv(ps:List ByteArray)(k:Nat)(hk:k≤ps.length):Cu 44 ps k=jn ((ps.take k).map fun s=>s.data.toList):=by
 induction k with
 |zero=>simp[Cu,jn]
 |succ k ih=>
  rw[Cu,ih (by omega),I_ ps k (by omega),List.map_append,List.map_singleton,ZP];simp only[List.length_map,List.length_take];rw[show min k ps.length=k from by omega]
theorem Zd(xs:List T4)(k:Nat)(hk:k≤xs.length):QT xs k=jn ((xs.take k).map fun x=>(WO x).data.toList):=by
 induction k with
 |zero=>simp[QT,jn]
 | succ k ih=>
  have e:xs.take (k+1)=xs.take k++[xs.getD k (0,0,0,0)]:=by
   rw[List.take_succ_eq_append_getElem (by omega),List.getD_eq_getElem?_getD,List.getElem?_eq_getElem (by omega)];rfl
  rw[QT,ih (by omega),e,List.map_append,List.map_singleton,ZP];simp only[List.length_map,List.length_take];rw[show min k xs.length=k from by omega]
theorem aj(s:ByteArray)(k:Nat)(hk:k≤s.size):(∀p ∈ (Gt s 44 k).1,(44:UInt8) ∉ p.data.toList)∧(44:UInt8) ∉ (s.data.toList.drop (Gt s 44 k).2).take (k-(Gt s 44 k).2):=by
 induction k with
 |zero=>simp[Gt]
 | succ k ih=>
  obtain⟨h1,h2⟩:=ih (by omega);have hle:=(Jh s 44 k).1;by_cases hb:(s[k].toNat:Int)=44
  ·rw[KQ s 44 k (by omega) hb];refine⟨fun p hp=>?_,by simp⟩;rw[List.mem_append]at hp;rcases hp with hp|hp
   ·exact h1 p hp
   simp at hp;rw[hp,ext_list];exact h2
  rw[Iq s 44 k (by omega) hb];refine⟨h1,?_⟩
  have e:=Hw (m:=44) (l:=s.data.toList) (n:=(Gt s 44 k).2) (pos:=k) (v:=1) hle h2 (fun j hj=>by
   obtain rfl:j=0:=by omega
   rw[Nat.add_zero,List.getElem?_eq_getElem (by simp;omega)];intro e;have e':s[k]=44:=Option.some.inj e;rw[e']at hb;exact hb rfl)
  exact e
theorem Ua(s:ByteArray):∀p ∈ Ag s 44,(44:UInt8) ∉ p.data.toList:=by
 intro p hp;obtain⟨h1,h2⟩:=aj s s.size Ak;unfold Ag at hp;rw[List.mem_append]at hp;rcases hp with hp|hp
 ·exact h1 p hp
 simp at hp;rw[hp,ext_list];exact h2
theorem gY(s:ByteArray):Ag s 44≠[]:=by unfold Ag;simp
theorem Zk(x:T4):(44:UInt8) ∉ (WO x).data.toList:=by
 unfold WO txt;obtain⟨a,b,c,d⟩:=x;by_cases h:BG a b c d
 ·show(44:UInt8) ∉ (if BG a b c d then fU a b c d else(⟨#[]⟩:ByteArray)).data.toList;rw[if_pos h];obtain⟨a',b',c',d',rfl,rfl,rfl,rfl⟩:=R9 h;rw[I9,BA];unfold ku;have n:=fun n=>Hy n 44 (by decide);simp[n]
 show(44:UInt8) ∉ (if BG a b c d then fU a b c d else(⟨#[]⟩:ByteArray)).data.toList;rw[if_neg h];simp
theorem rR{s:ByteArray}{q:Nat×Nat×Nat×Nat}(h:DD s.data.toList=some q):WO (uU q)=s∧Du (uU q):=by
 obtain⟨a,b,c,d⟩:=q;have hi:=Nt h;exact⟨VV hi,JD.2 hi.1⟩
theorem AAI{x:T4}(h:Du x):∃q,uU q=x∧DD (WO x).data.toList=some q:=by
 obtain⟨a,b,c,d⟩:=x;obtain⟨a',b',c',d',rfl,rfl,rfl,rfl⟩:=R9 h;refine⟨(a',b',c',d'),rfl,Ns ⟨JD.1 h,?_⟩⟩;show _=(if BG (a':Int) b' c' d' then fU a' b' c' d' else(⟨#[]⟩:ByteArray)).data.toList;rw[if_pos (show BG (a':Int) b' c' d' from h),I9,BA]
theorem MP{ps:List ByteArray}{ys:List T4}(h:CJ ps=some ys):ys.map WO=ps∧∀y ∈ ys,Du y:=by
 induction ps generalizing ys with
 |nil=>simp[CJ]at h;subst h;simp
 | cons p ps ih=>
  rw[CJ]at h;cases hp:DD p.data.toList with
  |none=>rw[hp]at h;cases h
  | some q=>
   rw[hp]at h;cases hq:CJ ps with
   |none=>rw[hq]at h;cases h
   |some zs=>
    rw[hq]at h;simp at h;subst h;obtain⟨i1,i2⟩:=ih hq;obtain⟨j1,j2⟩:=rR hp;refine⟨by simp[i1,j1],fun y hy=>?_⟩;simp at hy;rcases hy with rfl|hy
    ·exact j2
    exact i2 y hy
theorem jl(ys:List T4)(h:∀y ∈ ys,Du y):CJ (ys.map WO)=some ys:=by
 induction ys with
 |nil=>rfl
 |cons y ys ih=>
  obtain⟨q,e,hq⟩:=AAI (h y (by simp));rw[List.map_cons,CJ,hq,ih (fun z hz=>h z (by simp[hz]))];simp[e]
theorem Ty{s:ByteArray}{ys:List T4}(h:Ce s=some ys):KF ys=s:=by
 unfold Ce at h
 split at h
 ·rename_i hz;simp at h;subst h;unfold KF;simp[QT,BU,hz]
 obtain⟨h1,h2⟩:=MP h;unfold KF;rw[if_pos h2,Zd ys ys.length Ak,List.take_of_length_le Ak];have hj:=Jd s 44;have e44:(((44:UInt8).toNat:Nat):Int)=44:=rfl;rw[e44,Qv _ _ Ak,List.take_of_length_le Ak,←h1,List.map_map]at hj;have hj':jn (ys.map fun x=>(WO x).data.toList)=s.data.toList:=hj;rw[hj',KI]
theorem Zj(ys:List T4)(h:∀y ∈ ys,Du y):Ce (KF ys)=some ys:=by
 have e:KF ys=BU (jn (ys.map fun x=>(WO x).data.toList)):=by
  unfold KF;rw[if_pos h,Zd ys ys.length Ak,List.take_of_length_le Ak]
 cases ys with
 |nil=>rw[e];unfold Ce;simp[jn,BU]
 | cons y ys=>
  have hne:KF (y :: ys)≠⟨#[]⟩:=by
   rw[e];intro hz;have hz':=congrArg (fun s:ByteArray=>s.data.toList) hz;have hy:=qP (h y (by simp));cases ys with
   |nil=>simp[jn,BU]at hz';exact hy (ByteArray.ext hz')
   |cons y' ys=>simp[jn,BU]at hz'
  unfold Ce;rw[if_neg hne];have hj:=Jd (KF (y :: ys)) 44;have e44:(((44:UInt8).toNat:Nat):Int)=44:=rfl;rw[e44,Qv _ _ Ak,List.take_of_length_le Ak]at hj;have hl:(KF (y :: ys)).data.toList=jn ((y :: ys).map fun x=>(WO x).data.toList):=by rw[e];rfl
  rw[hl]at hj
  have hu:=dQ _ _ (fun p hp=>by
   obtain⟨z,hz,rfl⟩:=List.mem_map.1 hp;exact Ua _ z hz) (fun q hq=>by
   obtain⟨z,_,rfl⟩:=List.mem_map.1 hq;exact Zk z) (by simp[gY]) (by simp) hj
  have hs:Ag (KF (y :: ys)) 44=(y :: ys).map WO:=by
   have inj:∀(a b:List ByteArray),a.map (fun s=>s.data.toList)=b.map (fun s=>s.data.toList)→a=b:=by
    intro a
    induction a with
    |nil=>intro b hb;cases b with
     |nil=>rfl
     |cons=>simp at hb
    | cons x a ih=>
     intro b hb;cases b with
     |nil=>simp at hb
     |cons z b=>
      simp at hb;rw[ih b hb.2,ByteArray.ext hb.1]
   apply inj
   rw[hu,List.map_map];rfl
  rw[hs];exact jl _ h
end
end Go.Proofs.YtcjmcgolgbkknaaGreatDoor
