/- Lemmas; their conditions stand in each statement. -/
import Derived.Test.YtkmnfeihjjccmaaGreatDoorTLAO
import Derived.Conc.MuLone
set_option maxRecDepth 100000
set_option maxHeartbeats 16000000
set_option linter.unusedSectionVars false
set_option linter.unusedSimpArgs false
namespace Go.Proofs.YtkmnfeihjjccmaaGreatDoor
section
open Go.RowKit
variable [∀(a b c d:Int),Decidable (BD a b c d)]
variable [∀(n f:Int),Decidable (A8 n f)]
variable [∀(a b c d:Nat),Decidable (Dj a b c d)]
variable [∀(x:T4),Decidable (Dr x)]
structure om(t:Bu)(rs:List Pr):Prop where
 s:t.s.size≤maxLen
 q:t.qw.length≤maxLen
 d:t.d.size≤maxLen
 p:t.pool.length≤maxLen
 tb:rs.length≤maxLen
 tt:∀r ∈ rs,r.2.1.size≤maxLen∧r.2.2.2.2.length≤maxLen
 k:t.AZ.length≤maxLen
 h:t.held.length≤maxLen
 hh:∀p ∈ t.held,MB p.2
abbrev rF(t:Bu)(a b c d e:Value):Value:=ES t a b c d e
theorem QR(t:Bu)(ao bo co od oe:Option Addr)(ca cb cc cd ce:Nat)(rs:List Pr)(left:Int)(w:World)(hc:Ed w co rs)(hh:Fw w (.slice oe t.held.length ce) t.held)(hl:left≤1048576)(g:(t.s.size:Int)+t.qw.length+t.d.size+t.pool.length+rs.length+Bg rs+t.AZ.length+t.held.length+BA t.held≤left):
 Calls Tryz.prog 4 #[rF t (.slice ao t.qw.length ca) (.slice bo t.pool.length cb) (.slice co rs.length cc) (.slice od t.AZ.length cd) (.slice oe t.held.length ce),.int .i64 left] w fun r w'=>r= .returned (.int .i64 (left-((t.s.size:Int)+t.qw.length+t.d.size+t.pool.length+rs.length+Bg rs+t.AZ.length+t.held.length+BA t.held)))∧Below w.heap.size w w':=by
 have HC:=hide hc
 have HH:=hide hh
 obtain⟨L1,hL1⟩:∃x:Int,left-t.s.size-t.qw.length-t.d.size=x:=⟨_,rfl⟩
 have T1:=hide fun w  =>Fg t.vo t.lo t.n t.s ao t.qw.length ca t.d left w (by omega) (by omega)
 rw[hL1]at T1
 have d1:decide (L1<0)=false:=by simp;omega
 obtain⟨L2,hL2⟩:∃x:Int,L1-t.pool.length=x:=⟨_,rfl⟩
 have T2:=hide fun w  =>Mm bo t.pool.length cb L1 w (by omega) (by omega)
 rw[hL2]at T2
 have d2:decide (L2<0)=false:=by simp;omega
 obtain⟨L3,hL3⟩:∃x:Int,L2-rs.length-Bg rs=x:=⟨_,rfl⟩
 have T3:=hide fun w(h:Ed w co rs)=>Ic co cc rs L2 w h (by omega) (by omega)
 rw[hL3]at T3
 have d3:decide (L3<0)=false:=by simp;omega
 obtain⟨L4,hL4⟩:∃x:Int,L3-t.AZ.length=x:=⟨_,rfl⟩
 have T4:=hide fun w  =>N8 od t.AZ.length cd t.su L3 w (by omega) (by omega)
 rw[hL4]at T4
 have d4:decide (L4<0)=false:=by simp;omega
 obtain⟨L5,hL5⟩:∃x:Int,L4-t.held.length-BA t.held=x:=⟨_,rfl⟩
 have T5:=hide fun w(h:Fw w (.slice oe t.held.length ce) t.held)=>UQ _ t.held L4 w h (by omega) (by omega)
 rw[hL5]at T5
 have d5:decide (L5<0)=false:=by simp;omega
 rw[show left-((t.s.size:Int)+t.qw.length+t.d.size+t.pool.length+rs.length+Bg rs+t.AZ.length+t.held.length+BA t.held)=L5 by omega]
 clear hc hh hl g hL1 hL2 hL3 hL4 hL5
 obtain⟨w0,hw0,AO,P,DN⟩:=bx1 w #[.int .i64 t.id,.int .i64 t.vw,.int .i64 t.ak,.int .i64 t.vo,.int .i64 t.lo,.int .i64 t.n,.string t.s,.slice ao t.qw.length ca,.string t.d,.slice bo t.pool.length cb,.slice co rs.length cc,.slice od t.AZ.length cd,.int .i64 t.su,.slice oe t.held.length ce] 36
 go_enter Tryz.func4,Tryz.ntmps4
 go_wp2_with (first|(refine Az [.int .i64 t.vo,.int .i64 t.lo,.int .i64 t.n,.string t.s,.slice ao t.qw.length ca,.string t.d] (P.range 3 6 rfl) 28 _ rfl _ rfl rfl Tryz.underlying28 rfl (by kernel_rfl) ?_))
 clear hw0
 refine(T1.out _).mono ?_
 rintro _ w1 ⟨rfl,bb⟩
 have AP:=bu AO bb
 have Ct:=bb.size
 replace P:=P.up bb
 clear AO bb
 have Ye:=P.cell 9 rfl
 go_wp2_with fail
 refine(T2.out _).mono ?_
 rintro _ w9 ⟨rfl,e9⟩
 rw[e9]
 clear e9 Ye
 have LW:=P.cell 10 rfl
 go_wp2_with fail
 refine(T3.out _ (HC.out.below (AP.mono (Nat.le_refl _)))).mono ?_
 rintro _ w2 ⟨rfl,bb⟩
 clear LW
 have Am:=bu AP bb
 have El:=bb.size
 replace P:=P.up bb
 clear AP bb
 go_wp2_with (first|(refine Az [.slice od t.AZ.length cd,.int .i64 t.su] (P.range 11 2 rfl) 33 _ rfl _ rfl rfl Tryz.underlying33 rfl (by kernel_rfl) ?_))
 refine(T4.out _).mono ?_
 rintro _ w3 ⟨rfl,bb⟩
 have BP:=bu Am bb
 have IZ:=bb.size
 replace P:=P.up bb
 clear Am bb
 have Sn:=P.cell 13 rfl
 go_wp2_with fail
 refine(T5.out _ (HH.out.below BP)).mono ?_
 rintro _ w4 ⟨rfl,bb⟩
 clear Sn
 have Cs:=bu BP bb
 have Ph:=bb.size
 replace P:=P.up bb
 clear BP bb
 go_wp2
 go_ret
 exact⟨rfl,Cs⟩
theorem Zy(t:Bu)(ao bo co od oe:Option Addr)(ca cb cc cd ce:Nat)(rs:List Pr)(left:Int)(w:World)(hc:Ed w co rs)(hh:Fw w (.slice oe t.held.length ce) t.held)(hl:left≤1048576)(m:om t rs)(g:0≤left∧(0:Int)≤left∧left<((t.s.size:Int)+t.qw.length+t.d.size)):
 Calls Tryz.prog 4 #[rF t (.slice ao t.qw.length ca) (.slice bo t.pool.length cb) (.slice co rs.length cc) (.slice od t.AZ.length cd) (.slice oe t.held.length ce),.int .i64 left] w fun r w'=>r= .returned (.int .i64 (-1))∧Below w.heap.size w w':=by
 have HC:=hide hc
 have HH:=hide hh
 have p0:0≤left:=by omega
 have T1:=hide fun w  =>Zt t.vo t.lo t.n t.s ao t.qw.length ca t.d left w (by omega) (by omega) (by have:=m.s;unfold maxLen at this;omega) (by have:=m.q;unfold maxLen at this;omega) (by have:=m.d;unfold maxLen at this;omega) (by omega)
 have d1:decide ((-1:Int)<0)=true:=by decide
 clear hc hh hl g m p0
 obtain⟨w0,hw0,AO,P,DN⟩:=bx1 w #[.int .i64 t.id,.int .i64 t.vw,.int .i64 t.ak,.int .i64 t.vo,.int .i64 t.lo,.int .i64 t.n,.string t.s,.slice ao t.qw.length ca,.string t.d,.slice bo t.pool.length cb,.slice co rs.length cc,.slice od t.AZ.length cd,.int .i64 t.su,.slice oe t.held.length ce] 36
 go_enter Tryz.func4,Tryz.ntmps4
 go_wp2_with (first|(refine Az [.int .i64 t.vo,.int .i64 t.lo,.int .i64 t.n,.string t.s,.slice ao t.qw.length ca,.string t.d] (P.range 3 6 rfl) 28 _ rfl _ rfl rfl Tryz.underlying28 rfl (by kernel_rfl) ?_))
 clear hw0
 refine(T1.out _).mono ?_
 rintro _ w1 ⟨rfl,bb⟩
 have AP:=bu AO bb
 have Ct:=bb.size
 replace P:=P.up bb
 clear AO bb
 go_wp2
 go_ret
 exact⟨rfl,AP⟩
theorem Zx(t:Bu)(ao bo co od oe:Option Addr)(ca cb cc cd ce:Nat)(rs:List Pr)(left:Int)(w:World)(hc:Ed w co rs)(hh:Fw w (.slice oe t.held.length ce) t.held)(hl:left≤1048576)(m:om t rs)(g:0≤left∧(0:Int)+((t.s.size:Int)+t.qw.length+t.d.size)≤left∧left<((t.s.size:Int)+t.qw.length+t.d.size)+((t.pool.length:Int))):
 Calls Tryz.prog 4 #[rF t (.slice ao t.qw.length ca) (.slice bo t.pool.length cb) (.slice co rs.length cc) (.slice od t.AZ.length cd) (.slice oe t.held.length ce),.int .i64 left] w fun r w'=>r= .returned (.int .i64 (-1))∧Below w.heap.size w w':=by
 have HC:=hide hc
 have HH:=hide hh
 have p0:0≤left:=by omega
 obtain⟨L1,hL1⟩:∃x:Int,left-t.s.size-t.qw.length-t.d.size=x:=⟨_,rfl⟩
 have T1:=hide fun w  =>Fg t.vo t.lo t.n t.s ao t.qw.length ca t.d left w (by omega) (by omega)
 rw[hL1]at T1
 have d1:decide (L1<0)=false:=by simp;omega
 have T2:=hide fun w  =>qj bo t.pool.length cb L1 w (by omega) (by omega) (by have:=m.p;unfold maxLen at this;omega) (by omega)
 have d2:decide ((-1:Int)<0)=true:=by decide
 clear hc hh hl g hL1 m p0
 obtain⟨w0,hw0,AO,P,DN⟩:=bx1 w #[.int .i64 t.id,.int .i64 t.vw,.int .i64 t.ak,.int .i64 t.vo,.int .i64 t.lo,.int .i64 t.n,.string t.s,.slice ao t.qw.length ca,.string t.d,.slice bo t.pool.length cb,.slice co rs.length cc,.slice od t.AZ.length cd,.int .i64 t.su,.slice oe t.held.length ce] 36
 go_enter Tryz.func4,Tryz.ntmps4
 go_wp2_with (first|(refine Az [.int .i64 t.vo,.int .i64 t.lo,.int .i64 t.n,.string t.s,.slice ao t.qw.length ca,.string t.d] (P.range 3 6 rfl) 28 _ rfl _ rfl rfl Tryz.underlying28 rfl (by kernel_rfl) ?_))
 clear hw0
 refine(T1.out _).mono ?_
 rintro _ w1 ⟨rfl,bb⟩
 have AP:=bu AO bb
 have Ct:=bb.size
 replace P:=P.up bb
 clear AO bb
 have Ye:=P.cell 9 rfl
 go_wp2_with fail
 refine(T2.out _).mono ?_
 rintro _ w9 ⟨rfl,e9⟩
 rw[e9]
 clear e9 Ye
 go_wp2
 go_ret
 exact⟨rfl,AP⟩
theorem Zw(t:Bu)(ao bo co od oe:Option Addr)(ca cb cc cd ce:Nat)(rs:List Pr)(left:Int)(w:World)(hc:Ed w co rs)(hh:Fw w (.slice oe t.held.length ce) t.held)(hl:left≤1048576)(m:om t rs)(g:0≤left∧(0:Int)+((t.s.size:Int)+t.qw.length+t.d.size)+((t.pool.length:Int))≤left∧left<((t.s.size:Int)+t.qw.length+t.d.size)+((t.pool.length:Int))+((rs.length:Int)+Bg rs)):
 Calls Tryz.prog 4 #[rF t (.slice ao t.qw.length ca) (.slice bo t.pool.length cb) (.slice co rs.length cc) (.slice od t.AZ.length cd) (.slice oe t.held.length ce),.int .i64 left] w fun r w'=>r= .returned (.int .i64 (-1))∧Below w.heap.size w w':=by
 have HC:=hide hc
 have HH:=hide hh
 have p0:0≤left:=by omega
 obtain⟨L1,hL1⟩:∃x:Int,left-t.s.size-t.qw.length-t.d.size=x:=⟨_,rfl⟩
 have T1:=hide fun w  =>Fg t.vo t.lo t.n t.s ao t.qw.length ca t.d left w (by omega) (by omega)
 rw[hL1]at T1
 have d1:decide (L1<0)=false:=by simp;omega
 obtain⟨L2,hL2⟩:∃x:Int,L1-t.pool.length=x:=⟨_,rfl⟩
 have T2:=hide fun w  =>Mm bo t.pool.length cb L1 w (by omega) (by omega)
 rw[hL2]at T2
 have d2:decide (L2<0)=false:=by simp;omega
 have T3:=hide fun w(h:Ed w co rs)=>XC co cc rs L2 w h m.tt (by omega) m.tb (by omega) (by omega)
 have d3:decide ((-1:Int)<0)=true:=by decide
 clear hc hh hl g hL1 hL2 m p0
 obtain⟨w0,hw0,AO,P,DN⟩:=bx1 w #[.int .i64 t.id,.int .i64 t.vw,.int .i64 t.ak,.int .i64 t.vo,.int .i64 t.lo,.int .i64 t.n,.string t.s,.slice ao t.qw.length ca,.string t.d,.slice bo t.pool.length cb,.slice co rs.length cc,.slice od t.AZ.length cd,.int .i64 t.su,.slice oe t.held.length ce] 36
 go_enter Tryz.func4,Tryz.ntmps4
 go_wp2_with (first|(refine Az [.int .i64 t.vo,.int .i64 t.lo,.int .i64 t.n,.string t.s,.slice ao t.qw.length ca,.string t.d] (P.range 3 6 rfl) 28 _ rfl _ rfl rfl Tryz.underlying28 rfl (by kernel_rfl) ?_))
 clear hw0
 refine(T1.out _).mono ?_
 rintro _ w1 ⟨rfl,bb⟩
 have AP:=bu AO bb
 have Ct:=bb.size
 replace P:=P.up bb
 clear AO bb
 have Ye:=P.cell 9 rfl
 go_wp2_with fail
 refine(T2.out _).mono ?_
 rintro _ w9 ⟨rfl,e9⟩
 rw[e9]
 clear e9 Ye
 have LW:=P.cell 10 rfl
 go_wp2_with fail
 refine(T3.out _ (HC.out.below (AP.mono (Nat.le_refl _)))).mono ?_
 rintro _ w2 ⟨rfl,bb⟩
 clear LW
 have Am:=bu AP bb
 have El:=bb.size
 replace P:=P.up bb
 clear AP bb
 go_wp2
 go_ret
 exact⟨rfl,Am⟩
theorem Zv(t:Bu)(ao bo co od oe:Option Addr)(ca cb cc cd ce:Nat)(rs:List Pr)(left:Int)(w:World)(hc:Ed w co rs)(hh:Fw w (.slice oe t.held.length ce) t.held)(hl:left≤1048576)(m:om t rs)(g:0≤left∧(0:Int)+((t.s.size:Int)+t.qw.length+t.d.size)+((t.pool.length:Int))+((rs.length:Int)+Bg rs)≤left∧left<((t.s.size:Int)+t.qw.length+t.d.size)+((t.pool.length:Int))+((rs.length:Int)+Bg rs)+((t.AZ.length:Int))):
 Calls Tryz.prog 4 #[rF t (.slice ao t.qw.length ca) (.slice bo t.pool.length cb) (.slice co rs.length cc) (.slice od t.AZ.length cd) (.slice oe t.held.length ce),.int .i64 left] w fun r w'=>r= .returned (.int .i64 (-1))∧Below w.heap.size w w':=by
 have HC:=hide hc
 have HH:=hide hh
 have p0:0≤left:=by omega
 obtain⟨L1,hL1⟩:∃x:Int,left-t.s.size-t.qw.length-t.d.size=x:=⟨_,rfl⟩
 have T1:=hide fun w  =>Fg t.vo t.lo t.n t.s ao t.qw.length ca t.d left w (by omega) (by omega)
 rw[hL1]at T1
 have d1:decide (L1<0)=false:=by simp;omega
 obtain⟨L2,hL2⟩:∃x:Int,L1-t.pool.length=x:=⟨_,rfl⟩
 have T2:=hide fun w  =>Mm bo t.pool.length cb L1 w (by omega) (by omega)
 rw[hL2]at T2
 have d2:decide (L2<0)=false:=by simp;omega
 obtain⟨L3,hL3⟩:∃x:Int,L2-rs.length-Bg rs=x:=⟨_,rfl⟩
 have T3:=hide fun w(h:Ed w co rs)=>Ic co cc rs L2 w h (by omega) (by omega)
 rw[hL3]at T3
 have d3:decide (L3<0)=false:=by simp;omega
 have T4:=hide fun w  =>Z8 od t.AZ.length cd t.su L3 w (by omega) (by omega) (by omega) (by have:=m.k;unfold maxLen at this;omega)
 have d4:decide ((-1:Int)<0)=true:=by decide
 clear hc hh hl g hL1 hL2 hL3 m p0
 obtain⟨w0,hw0,AO,P,DN⟩:=bx1 w #[.int .i64 t.id,.int .i64 t.vw,.int .i64 t.ak,.int .i64 t.vo,.int .i64 t.lo,.int .i64 t.n,.string t.s,.slice ao t.qw.length ca,.string t.d,.slice bo t.pool.length cb,.slice co rs.length cc,.slice od t.AZ.length cd,.int .i64 t.su,.slice oe t.held.length ce] 36
 go_enter Tryz.func4,Tryz.ntmps4
 go_wp2_with (first|(refine Az [.int .i64 t.vo,.int .i64 t.lo,.int .i64 t.n,.string t.s,.slice ao t.qw.length ca,.string t.d] (P.range 3 6 rfl) 28 _ rfl _ rfl rfl Tryz.underlying28 rfl (by kernel_rfl) ?_))
 clear hw0
 refine(T1.out _).mono ?_
 rintro _ w1 ⟨rfl,bb⟩
 have AP:=bu AO bb
 have Ct:=bb.size
 replace P:=P.up bb
 clear AO bb
 have Ye:=P.cell 9 rfl
 go_wp2_with fail
 refine(T2.out _).mono ?_
 rintro _ w9 ⟨rfl,e9⟩
 rw[e9]
 clear e9 Ye
 have LW:=P.cell 10 rfl
 go_wp2_with fail
 refine(T3.out _ (HC.out.below (AP.mono (Nat.le_refl _)))).mono ?_
 rintro _ w2 ⟨rfl,bb⟩
 clear LW
 have Am:=bu AP bb
 have El:=bb.size
 replace P:=P.up bb
 clear AP bb
 go_wp2_with (first|(refine Az [.slice od t.AZ.length cd,.int .i64 t.su] (P.range 11 2 rfl) 33 _ rfl _ rfl rfl Tryz.underlying33 rfl (by kernel_rfl) ?_))
 refine(T4.out _).mono ?_
 rintro _ w3 ⟨rfl,bb⟩
 have BP:=bu Am bb
 have IZ:=bb.size
 replace P:=P.up bb
 clear Am bb
 go_wp2
 go_ret
 exact⟨rfl,BP⟩
theorem Zu(t:Bu)(ao bo co od oe:Option Addr)(ca cb cc cd ce:Nat)(rs:List Pr)(left:Int)(w:World)(hc:Ed w co rs)(hh:Fw w (.slice oe t.held.length ce) t.held)(hl:left≤1048576)(m:om t rs)(g:0≤left∧(0:Int)+((t.s.size:Int)+t.qw.length+t.d.size)+((t.pool.length:Int))+((rs.length:Int)+Bg rs)+((t.AZ.length:Int))≤left∧left<((t.s.size:Int)+t.qw.length+t.d.size)+((t.pool.length:Int))+((rs.length:Int)+Bg rs)+((t.AZ.length:Int))+((t.held.length:Int)+BA t.held)):
 Calls Tryz.prog 4 #[rF t (.slice ao t.qw.length ca) (.slice bo t.pool.length cb) (.slice co rs.length cc) (.slice od t.AZ.length cd) (.slice oe t.held.length ce),.int .i64 left] w fun r w'=>r= .returned (.int .i64 (-1))∧Below w.heap.size w w':=by
 have HC:=hide hc
 have HH:=hide hh
 have p0:0≤left:=by omega
 obtain⟨L1,hL1⟩:∃x:Int,left-t.s.size-t.qw.length-t.d.size=x:=⟨_,rfl⟩
 have T1:=hide fun w  =>Fg t.vo t.lo t.n t.s ao t.qw.length ca t.d left w (by omega) (by omega)
 rw[hL1]at T1
 have d1:decide (L1<0)=false:=by simp;omega
 obtain⟨L2,hL2⟩:∃x:Int,L1-t.pool.length=x:=⟨_,rfl⟩
 have T2:=hide fun w  =>Mm bo t.pool.length cb L1 w (by omega) (by omega)
 rw[hL2]at T2
 have d2:decide (L2<0)=false:=by simp;omega
 obtain⟨L3,hL3⟩:∃x:Int,L2-rs.length-Bg rs=x:=⟨_,rfl⟩
 have T3:=hide fun w(h:Ed w co rs)=>Ic co cc rs L2 w h (by omega) (by omega)
 rw[hL3]at T3
 have d3:decide (L3<0)=false:=by simp;omega
 obtain⟨L4,hL4⟩:∃x:Int,L3-t.AZ.length=x:=⟨_,rfl⟩
 have T4:=hide fun w  =>N8 od t.AZ.length cd t.su L3 w (by omega) (by omega)
 rw[hL4]at T4
 have d4:decide (L4<0)=false:=by simp;omega
 have T5:=hide fun w(h:Fw w (.slice oe t.held.length ce) t.held)=>W_ _ t.held L4 w h m.hh (by omega) m.h (by omega) (by omega)
 have d5:decide ((-1:Int)<0)=true:=by decide
 clear hc hh hl g hL1 hL2 hL3 hL4 m p0
 obtain⟨w0,hw0,AO,P,DN⟩:=bx1 w #[.int .i64 t.id,.int .i64 t.vw,.int .i64 t.ak,.int .i64 t.vo,.int .i64 t.lo,.int .i64 t.n,.string t.s,.slice ao t.qw.length ca,.string t.d,.slice bo t.pool.length cb,.slice co rs.length cc,.slice od t.AZ.length cd,.int .i64 t.su,.slice oe t.held.length ce] 36
 go_enter Tryz.func4,Tryz.ntmps4
 go_wp2_with (first|(refine Az [.int .i64 t.vo,.int .i64 t.lo,.int .i64 t.n,.string t.s,.slice ao t.qw.length ca,.string t.d] (P.range 3 6 rfl) 28 _ rfl _ rfl rfl Tryz.underlying28 rfl (by kernel_rfl) ?_))
 clear hw0
 refine(T1.out _).mono ?_
 rintro _ w1 ⟨rfl,bb⟩
 have AP:=bu AO bb
 have Ct:=bb.size
 replace P:=P.up bb
 clear AO bb
 have Ye:=P.cell 9 rfl
 go_wp2_with fail
 refine(T2.out _).mono ?_
 rintro _ w9 ⟨rfl,e9⟩
 rw[e9]
 clear e9 Ye
 have LW:=P.cell 10 rfl
 go_wp2_with fail
 refine(T3.out _ (HC.out.below (AP.mono (Nat.le_refl _)))).mono ?_
 rintro _ w2 ⟨rfl,bb⟩
 clear LW
 have Am:=bu AP bb
 have El:=bb.size
 replace P:=P.up bb
 clear AP bb
 go_wp2_with (first|(refine Az [.slice od t.AZ.length cd,.int .i64 t.su] (P.range 11 2 rfl) 33 _ rfl _ rfl rfl Tryz.underlying33 rfl (by kernel_rfl) ?_))
 refine(T4.out _).mono ?_
 rintro _ w3 ⟨rfl,bb⟩
 have BP:=bu Am bb
 have IZ:=bb.size
 replace P:=P.up bb
 clear Am bb
 have Sn:=P.cell 13 rfl
 go_wp2_with fail
 refine(T5.out _ (HH.out.below BP)).mono ?_
 rintro _ w4 ⟨rfl,bb⟩
 clear Sn
 have Cs:=bu BP bb
 have Ph:=bb.size
 replace P:=P.up bb
 clear BP bb
 go_wp2
 go_ret
 exact⟨rfl,Cs⟩
theorem gV(t:Bu)(ao bo co od oe:Option Addr)(ca cb cc cd ce:Nat)(rs:List Pr)(left:Int)(w:World)(hc:Ed w co rs)(hh:Fw w (.slice oe t.held.length ce) t.held)(hl:left≤1048576)(m:om t rs)(h0:0≤left)(g:left<(t.s.size:Int)+t.qw.length+t.d.size+t.pool.length+rs.length+Bg rs+t.AZ.length+t.held.length+BA t.held):
 Calls Tryz.prog 4 #[rF t (.slice ao t.qw.length ca) (.slice bo t.pool.length cb) (.slice co rs.length cc) (.slice od t.AZ.length cd) (.slice oe t.held.length ce),.int .i64 left] w fun r w'=>r= .returned (.int .i64 (-1))∧Below w.heap.size w w':=by
 by_cases g0:left<((t.s.size:Int)+t.qw.length+t.d.size)
 ·exact Zy t ao bo co od oe ca cb cc cd ce rs left w hc hh hl m ⟨h0,by omega,g0⟩
 by_cases g1:left<((t.s.size:Int)+t.qw.length+t.d.size)+((t.pool.length:Int))
 ·exact Zx t ao bo co od oe ca cb cc cd ce rs left w hc hh hl m ⟨h0,by omega,g1⟩
 by_cases g2:left<((t.s.size:Int)+t.qw.length+t.d.size)+((t.pool.length:Int))+((rs.length:Int)+Bg rs)
 ·exact Zw t ao bo co od oe ca cb cc cd ce rs left w hc hh hl m ⟨h0,by omega,g2⟩
 by_cases g3:left<((t.s.size:Int)+t.qw.length+t.d.size)+((t.pool.length:Int))+((rs.length:Int)+Bg rs)+((t.AZ.length:Int))
 ·exact Zv t ao bo co od oe ca cb cc cd ce rs left w hc hh hl m ⟨h0,by omega,g3⟩
 by_cases g4:left<((t.s.size:Int)+t.qw.length+t.d.size)+((t.pool.length:Int))+((rs.length:Int)+Bg rs)+((t.AZ.length:Int))+((t.held.length:Int)+BA t.held)
 ·exact Zu t ao bo co od oe ca cb cc cd ce rs left w hc hh hl m ⟨h0,by omega,g4⟩
 omega
end
section
open Go.RowKit
theorem iJ(g:Nat)(x0 x1:Value)(n:Int)(s:ByteArray)(ao:Option Addr)(ca:Nat)(xs:List Int)(w:World)(x5:Value)(hg:Loc w g #[x0,x1,.int .i64 n,.string s,.slice ao xs.length ca,x5])(ha:RI w (.slice ao xs.length ca) xs)(hs:s.size≤281474976710656):
 Calls Tryz.prog 133 #[.pointer (some ⟨g,2,none⟩)] w fun e w'=>∃u,e= .returned (qv n s u)∧OI w' w.heap.size u xs∧Below w.heap.size w w':=by
 have CL:=hide fun w=>D_ s w hs
 have hgl:=hg.lt
 obtain⟨w0,hw0⟩:∃w0,w.alloc zq=w0:=⟨_,rfl⟩
 have B0:Below w.heap.size w w0:=hw0▸Ag _ _
 have Z0:Loc w0 w.heap.size #[.int .i64 0,.string ⟨#[]⟩,.slice none 0 0]:=hw0▸AB w _ _ rfl
 have s0:w0.heap.size=w.heap.size+1:=by rw[←hw0];simp
 have G0:=hg.below B0 hgl
 have K:Hid (∀w',Below w0.heap.size w0 w'→Below w0.heap.size w0 w'∧w'.cell? ⟨g,2,none⟩=some (.int .i64 n)∧w'.cell? ⟨g,3,none⟩=some (.string s)):=hide fun w' hb=>
  ⟨hb,(G0.up hb).cell 2 rfl,(G0.up hb).cell 3 rfl⟩
 have RA:=hide ha
 have HZ:=hide Z0
 have HG:=hide G0
 clear ha hg Z0 G0
 go_enter Tryz.func133,Tryz.ntmps133
 go_upto_region 1 with fail
 clear hw0
 go_cut [3] (fun c wx=>∃h,c= .pointer (some ⟨h,0,none⟩)∧w0.heap.size≤h∧Loc wx h #[.int .i64 n,.string s,.slice none 0 0]∧Below w0.heap.size w0 wx)
 case first=>
  clear HZ HG RA
  refine kJ K (Below.drew (Below.refl _ _)) (fun hHeld=>?_)
  obtain⟨wd,hd⟩:∃wd,w0.drew=wd:=⟨_,rfl⟩
  have bd:Below w0.heap.size w0 wd:=hd▸Below.drew (Below.refl _ _)
  have uj:=bd.size
  rw[hd]at hHeld⊢
  clear hd
  refine tx 0 4 ?_
  refine tx 1 5 ?_
  refine tx 2 6 ?_
  refine tx 3 7 ?_
  refine tx 4 8 ?_
  refine tx 5 9 ?_
  refine tx 6 10 ?_
  refine tx 7 11 ?_
  refine wpAnyH_ready (rs:=[8,10]) (by kernel_rfl) (by simp) (AllReadyH.cons rfl (fun KK AA=>?_) (AllReadyH.cons rfl (fun KK AA=>?_) AllReadyH.nil))
  ·go_simp
   refine(CL.out _).mono ?_
   rintro e Nq ⟨rfl,FD⟩
   have bc1:Below w0.heap.size w0 Nq:=bu bd FD
   have o5:=FD.size
   clear hHeld FD
   refine AA.out _ _ (K.out _ bc1) (fun hHeld=>?_)
   clear AA KK
   refine tx 9 13 ?_
   refine rd 10 rfl (fun KK AA=>?_)
   go_simp
   obtain⟨gH,Kg⟩:∃x,Nq.alloc (.cells #[.int .i64 0,.string ⟨#[]⟩,.slice none 0 0] 46)=x:=⟨_,rfl⟩
   have qL:Below w0.heap.size w0 gH:=Kg▸bc1.alloc bc1.size _
   have lg:Loc gH Nq.heap.size #[.int .i64 0,.string ⟨#[]⟩,.slice none 0 0]:=Kg▸AB Nq _ _ rfl
   rw[Kg]
   clear hHeld Kg
   refine AA.out _ _ (K.out _ qL) (fun hHeld=>?_)
   clear AA KK
   have q0:=lg.cell 0 rfl
   have q1:=lg.cell 1 rfl
   have q2:=lg.cell 2 rfl
   have FG:=lg.frozen
   refine rd 11 rfl (fun KK AA=>?_)
   go_simp
   have bs:Below w0.heap.size w0 (((gH.setCell ⟨Nq.heap.size,0,none⟩ (.int .i64 n)).setCell ⟨Nq.heap.size,1,none⟩ (.string s)).setCell ⟨Nq.heap.size,2,none⟩ (.slice none 0 0)):=Below.set (Below.set (Below.set qL _ _ (by omega)) _ _ (by omega)) _ _ (by omega)
   clear hHeld
   refine AA.out _ _ (K.out _ bs) (fun hHeld=>?_)
   clear AA KK hHeld
   refine Bt ?_
   go_wp2_with fail
   go_meet
   exact⟨_,rfl,by omega,((lg.set 0 _ rfl).set 1 _ rfl).set 2 _ rfl,bs⟩
  go_simp
  obtain⟨o8,Ke⟩:∃x,wd.alloc (.cells #[.int .i64 0,.string ⟨#[]⟩,.slice none 0 0] 46)=x:=⟨_,rfl⟩
  have qK:Below w0.heap.size w0 o8:=Ke▸bd.alloc bd.size _
  have lg:Loc o8 wd.heap.size #[.int .i64 0,.string ⟨#[]⟩,.slice none 0 0]:=Ke▸AB wd _ _ rfl
  rw[Ke]
  clear hHeld Ke
  refine AA.out _ _ (K.out _ qK) (fun hHeld=>?_)
  clear AA KK
  refine rd 8 rfl (fun KK AA=>?_)
  go_simp
  refine(CL.out _).mono ?_
  rintro e o9 ⟨rfl,FD⟩
  have qM:Below w0.heap.size w0 o9:=bu qK FD
  have oz:=FD.size
  have lg:=lg.up FD
  clear hHeld FD
  refine AA.out _ _ (K.out _ qM) (fun hHeld=>?_)
  clear AA KK
  refine tx 9 13 ?_
  have q0:=lg.cell 0 rfl
  have q1:=lg.cell 1 rfl
  have q2:=lg.cell 2 rfl
  have FG:=lg.frozen
  refine rd 11 rfl (fun KK AA=>?_)
  go_simp
  have bs:Below w0.heap.size w0 (((o9.setCell ⟨wd.heap.size,0,none⟩ (.int .i64 n)).setCell ⟨wd.heap.size,1,none⟩ (.string s)).setCell ⟨wd.heap.size,2,none⟩ (.slice none 0 0)):=Below.set (Below.set (Below.set qM _ _ (by omega)) _ _ (by omega)) _ _ (by omega)
  clear hHeld
  refine AA.out _ _ (K.out _ bs) (fun hHeld=>?_)
  clear AA KK hHeld
  refine Bt ?_
  go_wp2_with fail
  go_meet
  exact⟨_,rfl,by omega,((lg.set 0 _ rfl).set 1 _ rfl).set 2 _ rfl,bs⟩
 case rest=>
 obtain⟨h,rfl,hh,LH,bw⟩:=hcut
 have G1:=HG.out.below bw HG.out.lt
 have Z1:=HZ.out.below bw HZ.out.lt
 have R1:=RA.out
 have B1:Below w.heap.size w wc:=bu B0 bw
 have s1:=bw.size
 have l1:=LH.lt
 have x2:=G1.cell 4 rfl
 have y0:=Z1.cell 0 rfl
 have y1:=Z1.cell 1 rfl
 have y2:=Z1.cell 2 rfl
 have fy:=Z1.frozen
 have h0:=LH.cell 0 rfl
 have h1:=LH.cell 1 rfl
 have h2:=LH.cell 2 rfl
 have fh:=LH.frozen
 have hl:=R1.1
 clear HG HZ RA K CL bw B0
 by_cases hx:xs=[]
 ·subst hx
  go_wp2
  refine bodyPost_ret (v:=qv n s (.slice none 0 0)) (by simp[results,Tryz.results133,go_sem,y0,y1,y2]) rfl ?_
  exact⟨_,rfl,World.ownsRow_nil _ _ _ _,Below.set (Below.set (Below.set B1 _ _ (Nat.le_refl _)) _ _ (Nat.le_refl _)) _ _ (Nat.le_refl _)⟩
 have hp:0<xs.length:=List.length_pos_iff.2 hx
 obtain⟨cs,hcs⟩:∃cs,xs.map (Value.int .i64)=cs:=⟨_,rfl⟩
 have hcl:cs.length=xs.length:=by rw[←hcs];simp
 have hone:∀v ∈ cs,v.oneCell'=true:=by rw[←hcs];exact FX xs
 obtain⟨ad,rfl,hcells⟩:∃ad,ao=some ad∧∀j u,cs[j]? =some u→w.cell? (ad.add j)=some u:=by
  obtain⟨_,QH,V4,e,hr⟩:=R1
  cases e
  rcases hr with rfl|⟨b,off,rfl,hr⟩
  ·exact absurd rfl hx
  exact⟨_,rfl,hcs▸GH hr⟩
 have hrows:∀w',Below w.heap.size w w'→∀j u,cs[j]? =some u→w'.cell? (ad.add j)=some u:=fun w' hb j u hj=>(hb.cell (AY (hcells j u hj))).trans (hcells j u hj)
 have HR:=hide hrows
 have HC:=hide hcs
 obtain⟨i0,hi,hz0,hz1,hz2⟩:=info_parts Tryz.info3
 obtain⟨m,hm⟩:∃m,xs.length=m:=⟨_,rfl⟩
 rw[hm]at hl hcl hp x2 G1
 have Hm:=hide hm
 clear R1 hcells hrows hcs hm hx
 have hgt:decide ((0:Int)<(m:Int))=true:=by simpa using hp
 go_upto_region 4 with (first | (at_make;refine wpList_make_full _ rfl _ _ 24 rfl wc.heap.size 3 i0 (.int .i64 0) 1 Tryz.underlying24 hi hz0 hz1 .i64 .i64 m m m rfl rfl rfl rfl (by rw[hz2];omega) (by unfold maxLen;omega) (Nat.le_refl _) ?_;intro w2 ho2 hg2
                                 have b2:Below wc.heap.size wc w2:=(Below.refl _ _).grown hg2 (Nat.le_refl _) (by simp)
                                 have L2:=LH.up b2
                                 have k2:=L2.cell 2 rfl
                                 have f2:=L2.frozen))
 obtain⟨hlen,hrow⟩:=ho2
 rcases hrow with⟨e,_⟩|⟨row,cap,cur,e,hrb,jH,_,hcm,hcz,hct⟩
 ·cases e
 cases e
 have hlt2:wc.heap.size<w2.heap.size:=(Array.getElem?_eq_some_iff.1 jH).1
 obtain⟨w3,hw3⟩:∃w3,w2.setCell ⟨h,2,none⟩ (.slice (some ⟨wc.heap.size,0,none⟩) m m)=w3:=⟨_,rfl⟩
 have B3:Below w.heap.size w w3:=hw3▸Below.set (bu B1 b2) (g:=h) 2 _ (by omega)
 have K3:Kp w2 w3 (fun k=>k=h):=hw3▸AJ w2 h 2 _
 have L3:Loc w3 h #[.int .i64 n,.string s,.slice (some ⟨wc.heap.size,0,none⟩) m m]:=hw3▸L2.set 2 _ rfl
 have Z3:=(Z1.up b2).kp K3 (by omega)
 have G3:=(G1.up b2).kp K3 (by omega)
 have H3:w3.heap[wc.heap.size]? =some (.cells cur.toList.toArray 3 (0,0)):=by rw[K3.block _ hlt2 (by omega)];simpa using jH
 have c3:=HR.out w3 B3
 have z3:=K3.size
 have p2:=L3.cell 2 rfl
 have q2:=G3.cell 4 rfl
 have jN:cur.toList.length=m:=by simpa using hcz
 rw[hw3]
 clear hw3 k2 f2 h0 h1 h2 fh y0 y1 y2 fy x2
 have xn:=hide H3
 have C3:=hide c3
 go_region_law (refine step_copy_splice rfl (.tmp 28) (.tmp 32) 24 24 rfl 3 Tryz.underlying24 (by rw[hi];simp[hz1]) (some ⟨wc.heap.size,0,none⟩) (some ad) m m m ca (by simp[Act.eval]) (by simp[Act.eval]) wc.heap.size 0 cur.toList 3 xn.out cs (by rw[hcl];simp) (fun _=>⟨rfl,_,rfl,C3.out⟩) (by omega) hone wc.heap.size w3 ⟨rfl,rfl,rfl,Nat.le_refl _,fun _ _=>rfl⟩ (Nat.le_refl _) ?_;intro w4 hg4 hb4)
 all_goals
  have L4:=L3.below hb4 l1
  have Z4:=Z3.below hb4 (by omega)
  have B4:Below w.heap.size w w4:=B3.trans (hb4.mono (by omega))
  have h0:=L4.cell 0 rfl
  have h1:=L4.cell 1 rfl
  have h2:=L4.cell 2 rfl
  have y0:=Z4.cell 0 rfl
  have y1:=Z4.cell 1 rfl
  have y2:=Z4.cell 2 rfl
  have fy:=Z4.frozen
  have O4:OI w4 w.heap.size (.slice (some ⟨wc.heap.size,0,none⟩) m m) xs:=by
   refine⟨by rw[Hm.out];simp[Hm.out],.inr ⟨wc.heap.size,m,_,by rw[Hm.out],by omega,hg4.out,by rw[Hm.out];exact Nat.le_refl _,hcm,?_,?_⟩⟩
   ·rw[List.size_toArray,length_splice _ _ _ (by omega),jN,Nat.mul_one]
   rw[HC.out];simp[splice,Hm.out,hcl]
  have HO:=hide O4
  clear L3 Z3 G3 H3 c3 p2 q2 K3 L4 Z4 O4 hg4 hb4 LH Z1 G1 b2 L2 hlen hct hcz jH
  go_wp2
  refine bodyPost_ret (v:=qv n s (.slice (some ⟨wc.heap.size,0,none⟩) m m)) (by simp[results,Tryz.results133,go_sem,y0,y1,y2]) rfl ?_
  have K5:Kp w4 (((w4.setCell ⟨w.heap.size,0,none⟩ (.int .i64 n)).setCell ⟨w.heap.size,1,none⟩ (.string s)).setCell ⟨w.heap.size,2,none⟩ (.slice (some ⟨wc.heap.size,0,none⟩) m m)) (fun k=>k=w.heap.size):=((AJ _ _ _ _).trans (AJ _ _ _ _)).trans (AJ _ _ _ _)
  exact⟨_,rfl,HO.out.kp K5 (fun k hk=>by simp[Value.ownBlock]at hk;omega),Below.set (Below.set (Below.set B4 _ _ (Nat.le_refl _)) _ _ (Nat.le_refl _)) _ _ (Nat.le_refl _)⟩
theorem Jf(n:Int)(s:ByteArray)(v:Value)(xs:List Int)(w:World)(h:RI w v xs):
 Calls Tryz.prog 100 #[qv n s v] w fun e w'=>∃u,e= .returned (qv n s u)∧OI w' w.heap.size u xs∧Below w.heap.size w w':=by
 obtain⟨ao,ca,rfl⟩:=h.form
 have hl:=h.1
 obtain⟨w0,hw0⟩:∃w0,((w.alloc (.cells #[.int .i64 n,.string s,.slice ao xs.length ca] 46)).alloc zq).alloc (.cells #[] 3)=w0:=⟨_,rfl⟩
 have B0:Below w.heap.size w w0:=hw0▸((Bh _ _ _).alloc (by simp;omega) _)
 have LA:Loc w0 w.heap.size #[.int .i64 n,.string s,.slice ao xs.length ca]:=hw0▸((AB w _ _ rfl).alloc _).alloc _
 have LZ:Loc w0 (w.heap.size+1) #[.int .i64 0,.string ⟨#[]⟩,.slice none 0 0]:=hw0▸(AB (w.alloc _) _ _ (by simp)).alloc _
 have s0:w0.heap.size=w.heap.size+1+1+1:=by rw[←hw0];simp
 have O0:OI w0 (w.heap.size+1+1) (.slice (some ⟨w.heap.size+1+1,0,none⟩) 0 0) []:=by
  have:=World.ownsRow_lit (base:=w.heap.size+1+1) (e:=3) (size:=1) ((w.alloc (.cells #[.int .i64 n,.string s,.slice ao xs.length ca] 46)).alloc zq) #[] 0 (by simp) (by unfold maxLen;omega) (by simp)
  rw[hw0]at this
  simpa[OI]using this
 have P0:=hide (h.pi.below B0)
 have x2:=LA.cell 2 rfl
 have HL:=hide LA
 have HZ:=hide LZ
 clear h LA LZ
 go_enter Tryz.func100,Tryz.ntmps100
 go_wp2_with (first | (at_builtin;clear hw0;refine MF rfl _ _ rfl (w.heap.size+1+1) (.slice (some ⟨w.heap.size+1+1,0,none⟩) 0 0) (.slice ao xs.length ca) [] xs rfl rfl O0 P0.out (by simp;omega) (by omega) ?_;intro v' w2 ho2 hg2 _
                       have k2:=CE hg2
                       have L2:=HL.out.kp k2 (by simp[Value.ownBlock];omega)
                       have Z2:=HZ.out.kp k2 (by simp[Value.ownBlock])
                       have B2:=Below.kp B0 k2 B0.size (fun k hk=>by simp[Value.ownBlock]at hk;omega)
                       have Qn:=World.ownsRow.lt ho2
                       have p0:=L2.cell 0 rfl
                       have p1:=L2.cell 1 rfl
                       have p2:=L2.cell 2 rfl
                       have fp:=L2.frozen
                       have y0:=Z2.cell 0 rfl
                       have y1:=Z2.cell 1 rfl
                       have y2:=Z2.cell 2 rfl
                       have fy:=Z2.frozen
                       obtain⟨ua,uc,rfl⟩:=ho2.form
                       have O2:=hide ho2
                       clear ho2 hg2 k2 L2 Z2))
 refine bodyPost_ret (v:=qv n s (.slice ua ([]++xs).length uc)) (by simp[results,Tryz.results100,go_sem,y0,y1,y2]) rfl ?_
 have K5:Kp w2 ((((w2.setCell ⟨w.heap.size,2,none⟩ (.slice ua ([]++xs).length uc)).setCell ⟨w.heap.size+1,0,none⟩ (.int .i64 n)).setCell ⟨w.heap.size+1,1,none⟩ (.string s)).setCell ⟨w.heap.size+1,2,none⟩ (.slice ua ([]++xs).length uc)) (fun k=>k=w.heap.size∨k=w.heap.size+1):=
  (((((AJ _ _ _ _).mono (fun k h=> .inl h))).trans ((AJ _ _ _ _).mono (fun k h=> .inr h))).trans ((AJ _ _ _ _).mono (fun k h=> .inr h))).trans ((AJ _ _ _ _).mono (fun k h=> .inr h))
 exact⟨_,rfl,(O2.out.kp K5 (fun k hk=>by have:=Qn k hk;omega)).mono (by omega),Below.kp B2 K5 B2.size (fun k hk=>by omega)⟩
theorem Z9(vo lo v:Int)(s:ByteArray)(ao:Option Addr)(ca:Nat)(xs:List Int)(d:ByteArray)(w:World)(hs:s.size≤281474976710656)(hd:d.size≤281474976710656)(ha:RI w (.slice ao xs.length ca) xs):
 Calls Tryz.prog 108 #[sv vo lo v s (.slice ao xs.length ca) d] w fun e w'=>∃u,e= .returned (sv vo lo v s u d)∧OI w' w.heap.size u xs∧Below w.heap.size w w':=by
 have TO:=hide fun g x0 x1 x5 w'(b:Below w.heap.size w w')(h:Loc w' g #[x0,x1,.int .i64 v,.string s,.slice ao xs.length ca,x5])=>iJ g x0 x1 v s ao ca xs w' x5 h (ha.below b) hs
 have CL:=hide fun w'=>D_ d w' hd
 clear ha
 obtain⟨w0,hw0,AO,LS,LZ,DN⟩:=GM w #[.int .i64 vo,.int .i64 lo,.int .i64 v,.string s,.slice ao xs.length ca,.string d] 48 #[.int .i64 0,.int .i64 0,.int .i64 0,.string ⟨#[]⟩,.slice none 0 0,.string ⟨#[]⟩] 48
 go_enter Tryz.func108,Tryz.ntmps108
 obtain⟨Eb,Ea,EZ,EY,EX,EW⟩:=QG LS 0 1 2 3 4 5
 go_wp2_with fail
 clear hw0
 refine(TO.out _ _ _ _ _ AO LS).mono ?_
 rintro _ w1 ⟨u1,rfl,o1,bb⟩
 clear Eb Ea EZ EY EX EW
 have AP:=bu AO bb
 have Ct:=bb.size
 replace LS:=LS.up bb
 replace LZ:=LZ.up bb
 clear AO bb
 have ZC:=World.ownsRow.lt o1
 obtain⟨PW,P_,rfl⟩:=o1.form
 obtain⟨Eb,Ea,EZ,EY,EX,EW⟩:=QG LS 0 1 2 3 4 5
 have xE:=LS.frozen
 go_upto_region 2 with fail
 clear Eb Ea EZ EY EX EW xE
 obtain⟨w2,hw2⟩:∃y,(((w1.setCell ⟨w.heap.size,2,none⟩ (.int .i64 v)).setCell ⟨w.heap.size,3,none⟩ (.string s)).setCell ⟨w.heap.size,4,none⟩ (.slice PW xs.length P_))=y:=⟨_,rfl⟩
 have kN:Kp w1 w2 (fun k=>k=w.heap.size):=hw2▸((AJ _ _ _ _).trans (AJ _ _ _ _)).trans (AJ _ _ _ _)
 replace LS:Loc w2 (w.heap.size) #[.int .i64 vo,.int .i64 lo,.int .i64 v,.string s,.slice PW xs.length P_,.string d]:=hw2▸(((LS.set 2 _ rfl).set 3 _ rfl).set 4 _ rfl)
 replace LZ:=LZ.kp kN (by omega)
 replace o1:=o1.kp kN (fun j hj e=>by have:=ZC j hj;omega)
 have Am:=Below.kp AP kN AP.size (fun k hk=>by omega)
 have El:=kN.size
 rw[hw2]
 clear hw2 kN AP
 obtain⟨Eb,Ea,EZ,EY,EX,EW⟩:=QG LS 0 1 2 3 4 5
 go_wp2_with fail
 refine(CL.out _).mono ?_
 rintro _ w3 ⟨rfl,bb⟩
 clear Eb Ea EZ EY EX EW
 have BP:=bu Am bb
 have IZ:=bb.size
 replace LS:=LS.up bb
 replace LZ:=LZ.up bb
 replace o1:=o1.below bb
 clear Am bb
 obtain⟨Eb,Ea,EZ,EY,EX,EW⟩:=QG LS 0 1 2 3 4 5
 have xE:=LS.frozen
 go_upto_region 3 with fail
 clear Eb Ea EZ EY EX EW xE
 obtain⟨w4,hw4⟩:∃y,(w3.setCell ⟨w.heap.size,5,none⟩ (.string d))=y:=⟨_,rfl⟩
 have kN:Kp w3 w4 (fun k=>k=w.heap.size):=hw4▸AJ _ _ _ _
 replace LS:Loc w4 (w.heap.size) #[.int .i64 vo,.int .i64 lo,.int .i64 v,.string s,.slice PW xs.length P_,.string d]:=hw4▸(LS.set 5 _ rfl)
 replace LZ:=LZ.kp kN (by omega)
 replace o1:=o1.kp kN (fun j hj e=>by have:=ZC j hj;omega)
 have Cs:=Below.kp BP kN BP.size (fun k hk=>by omega)
 have Ph:=kN.size
 rw[hw4]
 clear hw4 kN BP
 have K6:=kp6 w4 (w.heap.size+1) (.int .i64 vo) (.int .i64 lo) (.int .i64 v) (.string s) (.slice PW xs.length P_) (.string d)
 obtain⟨tC,sw,sj,si,sZ,sW⟩:=QG LZ 0 1 2 3 4 5
 obtain⟨Eb,Ea,EZ,EY,EX,EW⟩:=QG LS 0 1 2 3 4 5
 have fLZ:=LZ.frozen
 go_wp2
 refine bodyPost_ret (v:=sv (vo) (lo) (v) (s) (.slice PW xs.length P_) (d)) (by simp[results,Tryz.results108,go_sem,tC,sw,sj,si,sZ,sW]) rfl ?_
 exact⟨_,rfl,(o1.kp K6 (fun j hj e=>by have:=ZC j hj;omega)).mono (by omega),Below.kp Cs K6 Cs.size (fun k hk=>by omega)⟩

theorem Lt(vo lo v:Int)(s:ByteArray)(ao:Option Addr)(ca:Nat)(xs:List Int)(d:ByteArray)(w:World)(ha:RI w (.slice ao xs.length ca) xs):
 Calls Tryz.prog 71 #[sv vo lo v s (.slice ao xs.length ca) d] w fun e w'=>∃u,e= .returned (sv vo lo v s u d)∧OI w' w.heap.size u xs∧Below w.heap.size w w':=by
 have CP:=hide fun w'(b:Below w.heap.size w w')=>Jf v s (.slice ao xs.length ca) xs w' (ha.below b)
 clear ha
 obtain⟨w0,hw0,AO,LS,LZ,DN⟩:=GM w #[.int .i64 vo,.int .i64 lo,.int .i64 v,.string s,.slice ao xs.length ca,.string d] 48 #[.int .i64 0,.int .i64 0,.int .i64 0,.string ⟨#[]⟩,.slice none 0 0,.string ⟨#[]⟩] 48
 go_enter Tryz.func71,Tryz.ntmps71
 obtain⟨Eb,Ea,EZ,EY,EX,EW⟩:=QG LS 0 1 2 3 4 5
 go_wp2_with fail
 clear hw0
 refine(CP.out _ AO).mono ?_
 rintro _ w1 ⟨u1,rfl,o1,bb⟩
 clear Eb Ea EZ EY EX EW
 have AP:=bu AO bb
 have Ct:=bb.size
 replace LS:=LS.up bb
 replace LZ:=LZ.up bb
 clear AO bb
 have ZC:=World.ownsRow.lt o1
 obtain⟨PW,P_,rfl⟩:=o1.form
 obtain⟨Eb,Ea,EZ,EY,EX,EW⟩:=QG LS 0 1 2 3 4 5
 have xE:=LS.frozen
 go_upto_region 2 with fail
 clear Eb Ea EZ EY EX EW xE
 obtain⟨w2,hw2⟩:∃y,(((w1.setCell ⟨w.heap.size,2,none⟩ (.int .i64 v)).setCell ⟨w.heap.size,3,none⟩ (.string s)).setCell ⟨w.heap.size,4,none⟩ (.slice PW xs.length P_))=y:=⟨_,rfl⟩
 have kN:Kp w1 w2 (fun k=>k=w.heap.size):=hw2▸((AJ _ _ _ _).trans (AJ _ _ _ _)).trans (AJ _ _ _ _)
 replace LS:Loc w2 (w.heap.size) #[.int .i64 vo,.int .i64 lo,.int .i64 v,.string s,.slice PW xs.length P_,.string d]:=hw2▸(((LS.set 2 _ rfl).set 3 _ rfl).set 4 _ rfl)
 replace LZ:=LZ.kp kN (by omega)
 replace o1:=o1.kp kN (fun j hj e=>by have:=ZC j hj;omega)
 have Am:=Below.kp AP kN AP.size (fun k hk=>by omega)
 have El:=kN.size
 rw[hw2]
 clear hw2 kN AP
 have K6:=kp6 w2 (w.heap.size+1) (.int .i64 vo) (.int .i64 lo) (.int .i64 v) (.string s) (.slice PW xs.length P_) (.string d)
 obtain⟨tC,sw,sj,si,sZ,sW⟩:=QG LZ 0 1 2 3 4 5
 obtain⟨Eb,Ea,EZ,EY,EX,EW⟩:=QG LS 0 1 2 3 4 5
 have fLZ:=LZ.frozen
 go_wp2
 refine bodyPost_ret (v:=sv (vo) (lo) (v) (s) (.slice PW xs.length P_) (d)) (by simp[results,Tryz.results71,go_sem,tC,sw,sj,si,sZ,sW]) rfl ?_
 exact⟨_,rfl,(o1.kp K6 (fun j hj e=>by have:=ZC j hj;omega)).mono (by omega),Below.kp Am K6 Am.size (fun k hk=>by omega)⟩
def Ji(n:Nat)(s:Int):Bool:=decide (n≤100000)&&(decide (0≤s)&&decide (s≤(n:Int)))
theorem lD(x lo hi:Int)(w:World):Calls Tryz.prog 103 #[.int .i64 x,.int .i64 lo,.int .i64 hi] w fun e w'=>e= .returned (.bool (decide (lo≤x)&&decide (x≤hi)))∧w'=w:=by
 by_cases h1:lo≤x<;>by_cases h2:x≤hi<;>simp only[h1,h2,decide_true,decide_false,Bool.and_true,Bool.and_false]
 all_goals
  go_enter Tryz.func103,Tryz.ntmps103
  go_wp2
  go_ret
  exact⟨rfl,rfl⟩
theorem wU(x lo hi:Int)(w:World):Calls Tryz.prog 65 #[.int .i64 x,.int .i64 lo,.int .i64 hi] w fun e w'=>e= .returned (.bool (decide (lo≤x)&&decide (x≤hi)))∧w'=w:=by
 by_cases h1:lo≤x<;>by_cases h2:x≤hi<;>simp only[h1,h2,decide_true,decide_false,Bool.and_true,Bool.and_false]
 all_goals
  go_enter Tryz.func65,Tryz.ntmps65
  go_wp2
  go_ret
  exact⟨rfl,rfl⟩
theorem YB(ao:Option Addr)(n ca:Nat)(s:Int)(w:World):
 Calls Tryz.prog 107 #[dv (.slice ao n ca) s] w fun e w'=>e= .returned (.bool (Ji n s))∧Below w.heap.size w w':=by
 have WI:=hide fun w=>lD s 0 (n:Int) w
 by_cases h1:n≤100000
 ·have hd:Ji n s=(decide (0≤s)&&decide (s≤(n:Int))):=by simp[Ji,h1]
  have h2:((n:Int)≤100000):=by omega
  rw[hd]
  generalize (decide (0≤s)&&decide (s≤(n:Int)))=b at *
  clear hd
  go_enter Tryz.func107,Tryz.ntmps107
  go_wp2_with fail
  refine(WI.out _).mono ?_
  rintro e w1 ⟨rfl,rfl⟩
  go_wp2
  go_ret
  exact⟨rfl,Ag _ _⟩
 have hd:Ji n s=false:=by simp[Ji,h1]
 have h2:¬((n:Int)≤100000):=by omega
 rw[hd]
 clear hd
 go_enter Tryz.func107,Tryz.ntmps107
 go_wp2
 go_ret
 exact⟨rfl,Ag _ _⟩
theorem XX(ao:Option Addr)(n ca:Nat)(s:Int)(w:World):
 Calls Tryz.prog 69 #[dv (.slice ao n ca) s] w fun e w'=>e= .returned (.bool (Ji n s))∧Below w.heap.size w w':=by
 have WI:=hide fun w=>wU s 0 (n:Int) w
 by_cases h1:n≤100000
 ·have hd:Ji n s=(decide (0≤s)&&decide (s≤(n:Int))):=by simp[Ji,h1]
  have h2:((n:Int)≤100000):=by omega
  rw[hd]
  generalize (decide (0≤s)&&decide (s≤(n:Int)))=b at *
  clear hd
  go_enter Tryz.func69,Tryz.ntmps69
  go_wp2_with fail
  refine(WI.out _).mono ?_
  rintro e w1 ⟨rfl,rfl⟩
  go_wp2
  go_ret
  exact⟨rfl,Ag _ _⟩
 have hd:Ji n s=false:=by simp[Ji,h1]
 have h2:¬((n:Int)≤100000):=by omega
 rw[hd]
 clear hd
 go_enter Tryz.func69,Tryz.ntmps69
 go_wp2
 go_ret
 exact⟨rfl,Ag _ _⟩

def RF(w:World)(g:Nat)(v:Value)(xs:List Int):Prop:=
 xs.length≤4194304∧∃ao cap,v= .slice ao xs.length cap∧(xs.length≤cap∧cap≤maxLen)∧(xs=[]∨∃b off,ao=some ⟨b,off,none⟩∧b≠g∧∀k,k<xs.length→w.cell? ⟨b,off+k,none⟩=some (.int .u8 (xs.getD k 0)))
theorem RF.rb{w:World}{g:Nat}{v:Value}{xs:List Int}(h:RF w g v xs):RB w v xs:=by
 obtain⟨hl,ao,cap,e,hc,h⟩:=h
 refine⟨by omega,ao,cap,e,hc,?_⟩
 rcases h with h|⟨b,off,e,_,h⟩
 ·exact .inl h
 exact .inr ⟨b,off,e,h⟩
theorem RF.kp{w w':World}{g:Nat}{v:Value}{xs:List Int}(h:RF w g v xs)(k:Kp w w' (fun k=>k=g)):RF w' g v xs:=by
 obtain⟨hl,ao,cap,e,hc,h⟩:=h
 refine⟨hl,ao,cap,e,hc,?_⟩
 rcases h with h|⟨b,off,e,hb,h⟩
 ·exact .inl h
 exact .inr ⟨b,off,e,hb,fun j hj=>k.cell (h j hj) hb⟩
theorem RF.below{w w':World}{g:Nat}{v:Value}{xs:List Int}(h:RF w g v xs)(b:Below w.heap.size w w'):RF w' g v xs:=h.kp (Below.Bb b _)
theorem RF.form{w:World}{g:Nat}{v:Value}{xs:List Int}(h:RF w g v xs):∃ao ca,v= .slice ao xs.length ca:=by
 obtain⟨_,ao,cap,e,_⟩:=h
 exact⟨ao,cap,e⟩
end
section
open Go Go.RowKit
theorem eD(ao:Option Addr)(ca:Nat)(s:Int)(xs:List Int)(w:World)(hl:xs.length≤16777216)(hr:RB w (.slice ao xs.length ca) xs):
 Calls Tryz.prog 109 #[dv (.slice ao xs.length ca) s] w fun e w'=>∃u,e= .returned (dv u s)∧OB w' w.heap.size u xs∧Below w.heap.size w w':=by
 have HR:=hide hr
 clear hr
 obtain⟨w0,hw0,AO,P,O,DN⟩:=GM w #[.slice ao xs.length ca,.int .i64 s] 51 #[.slice none 0 0,.int .i64 0] 51
 go_enter Tryz.func109,Tryz.ntmps109
 have K:Hid (∀w',Kp w0 w' (fun k=>k=w.heap.size+1)→(fun w'=>Kp w0 w' (fun k=>k=w.heap.size+1)∧(w'.cell? ⟨w.heap.size,0,none⟩=some (.slice ao xs.length ca)∧w'.cell? ⟨w.heap.size,1,none⟩=some (.int .i64 s))) w'):=hide fun w' hk'=>⟨hk',⟨(P.kp hk' (by omega)).cell 0 rfl,(P.kp hk' (by omega)).cell 1 rfl⟩⟩
 go_upto_region 1 with fail
 clear hw0
 refine yE K (fun Tu bA bb hHeld=>?_)
 have FK:=bu AO bb
 have gu:=bb.size
 replace P:=P.up bb
 replace O:=O.up bb
 clear AO bb
 refine tx 0 3 ?_
 refine tx 3 6 ?_
 refine tx 1 4 ?_
 refine tx 4 7 ?_
 refine rd 2 rfl (fun KK AA=>?_)
 refine F9 rfl (.const (.slice none 0 0)) (.tmp 4) rfl w0.heap.size (.slice none 0 0) (.slice ao xs.length ca) [] (xs) rfl rfl (World.ownsRow_nil _ _ _ _) ((HR.out.below FK).pb) (by simp;omega) bA.size ?_
 intro u EJ oU g7 _
 have bb:Below Tu.heap.size Tu EJ:=(Below.refl _ _).grown g7 (Nat.le_refl _) (fun j hj=>by simp[Value.ownBlock]at hj)
 rw[List.nil_append]at oU
 have Ir:Kp w0 EJ (fun k=>k=w.heap.size+1):=bA.trans (Below.Bb bb _)
 clear hHeld g7
 refine AA.out _ _ (K.out _ Ir) (fun hHeld=>?_)
 clear AA KK bA
 have IC:=bu FK bb
 have gq:=bb.size
 replace P:=P.up bb
 replace O:=O.up bb
 clear FK bb
 change wpAnyH _ _ _ _ _ _ _ (Act.put _ (some 5) _) _
 have toU:=World.ownsRow.lt oU
 obtain⟨xQ,wV,rfl⟩:=oU.form
 simp only[pU]
 refine tx 5 8 ?_
 refine rd 6 rfl (fun KK AA=>?_)
 rw[if_pos (by rfl)]
 refine wp_store_mid 51 (.tmp 2) (.tmp 8) rfl (w.heap.size+1) 0 #[.slice xQ xs.length wV,.int .i64 s] rfl rfl (O.there 0 2 (by simp)) (by kernel_rfl) (by simp[Value.oneCell']) ?_
 obtain⟨II,hq⟩:∃y,EJ.setCells (w.heap.size+1) 0 [.slice xQ xs.length wV,.int .i64 s]=y:=⟨_,rfl⟩
 have kN:Kp EJ II (fun k=>k=w.heap.size+1):=hq▸Ab _ _ _ _
 have JO:Kp w0 II (fun k=>k=w.heap.size+1):=Ir.trans (kN.mono (fun k e=>e))
 replace O:Loc II (w.heap.size+1) #[.slice xQ xs.length wV,.int .i64 s]:=hq▸O.setCells _ _ rfl
 rw[show EJ.setCells (w.heap.size+1) 0 (Array.toList #[.slice xQ xs.length wV,.int .i64 s])=II from hq]
 clear hHeld
 refine AA.out _ _ (K.out _ JO) (fun hHeld=>?_)
 clear AA KK Ir
 replace P:=P.kp kN (by omega)
 replace oU:=oU.kp kN (fun j hj e=>by have:=toU j hj;omega)
 have Fy:=Below.kp IC kN IC.size (fun k hk=>by omega)
 have gZ:=kN.size
 clear hq kN IC hHeld
 refine Bt ?_
 clear K JO
 go_wp2
 refine bodyPost_ret (v:=dv (.slice xQ xs.length wV) s) (Ce Tryz.results109 _ O rfl Tryz.underlying51 rfl (by kernel_rfl)) rfl ?_
 exact⟨_,rfl,oU.mono (by omega),Fy⟩
end
section
open Go.RowKit
theorem rM{w:World}{ao:Option Addr}{n ca:Nat}{xs:List Int}(h:RB w (.slice ao n ca) xs):n=xs.length∧n≤ca:=by
 obtain⟨_,a,c,e,hc,_⟩:=h
 injection e with e1 e2 e3
 subst e1 e2 e3
 exact⟨rfl,hc.1⟩
end
end Go.Proofs.YtkmnfeihjjccmaaGreatDoor
