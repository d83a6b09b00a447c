/- Lemmas; their conditions stand in each statement. -/
import Derived.Test.YtkmnfeihjjccmaaGreatDoorTLBD
set_option maxRecDepth 100000
set_option maxHeartbeats 16000000
set_option linter.unusedSectionVars false
set_option linter.unusedVariables false
namespace Go.Proofs.YtkmnfeihjjccmaaGreatDoor
section
open Go.RowKit
variable [∀(a b c d:Int),Decidable (BD a b c d)]
variable [∀(a b c d:Nat),Decidable (Dj a b c d)]
variable [∀(last:Int)(s:St),Decidable (Au last s)]
variable [∀(x:T4),Decidable (Dr x)]
variable [∀(n:Int)(s:List Int),Decidable (Dt n s)]
variable [∀(n f:Int),Decidable (A8 n f)]
theorem Me(bn:ByteArray)(bv:Int)(bs:ByteArray)(xs:List Int)(u:Value)(hu:∃uo un uc,u= .slice uo un uc)(w:World):
 Calls Tryz.prog 138 #[.iface 195 (sB bn bv bs u)] w fun e w'=>e= .returned (Dp (mB bn bv bs xs) u IL IL)∧Below w.heap.size w w':=by
 have ta1:=AAB
 obtain⟨uo,un,uc,rfl⟩:∃uo un uc,u= .slice uo un uc:=hu
 obtain⟨w0,hw0,AO,R,DN⟩:=bx1 w #[.int .i64 0,.int .i64 0,.string ⟨#[]⟩,.int .i64 0,.string ⟨#[]⟩,.slice none 0 0,.int .i64 0,.string ⟨#[]⟩,.slice none 0 0,.int .i64 0,.string ⟨#[]⟩,.slice none 0 0,.int .i64 0,.int .i64 0,.int .i64 0,.int .i64 0,.int .i64 0] 65
 go_enter Tryz.func138,Tryz.ntmps138
 go_upto_region 4 with(refine BH (AB w0 #[.string ⟨#[]⟩,.int .i64 0,.string ⟨#[]⟩,.slice none 0 0] 195 rfl) 195 #[.string bn,.int .i64 bv,.string bs,.slice uo un uc] rfl _ _ rfl rfl rfl (by kernel_rfl) rfl (by simp[Value.oneCell']) ?_)
 clear hw0
 obtain⟨w1,hw1⟩:∃y,(w0.alloc (.cells #[.string ⟨#[]⟩,.int .i64 0,.string ⟨#[]⟩,.slice none 0 0] 195)).setRow w0.heap.size #[.string bn,.int .i64 bv,.string bs,.slice uo un uc]=y:=⟨_,rfl⟩
 rw[hw1]
 have bb:Below w0.heap.size w0 w1:=hw1▸EE _ _ _ _
 have X:Loc w1 w0.heap.size #[.string bn,.int .i64 bv,.string bs,.slice uo un uc]:=hw1▸GX _ _ _ _
 have o6:w1.heap.size=w0.heap.size+1:=by rw[←hw1];exact Fv _ _ _ _
 clear hw1
 have AP:=bu AO bb
 have Ct:=bb.size
 replace R:=R.up bb
 clear AO bb
 go_wp2_with (first|(refine Ap X 195 _ rfl _ rfl rfl Tryz.underlying195 rfl (by kernel_rfl) ?_)|(refine BH R 65 #[.int .i64 1,.int .i64 0,.string bn,.int .i64 bv,.string bs,.slice uo un uc,.int .i64 0,.string ⟨#[]⟩,.slice none 0 0,.int .i64 0,.string ⟨#[]⟩,.slice none 0 0,.int .i64 0,.int .i64 0,.int .i64 0,.int .i64 0,.int .i64 0] rfl _ _ rfl rfl rfl (by kernel_rfl) rfl (by simp[Value.oneCell']) ?_))
 obtain⟨wE,Bd⟩:∃Cj,w1.setRow (w.heap.size) #[.int .i64 1,.int .i64 0,.string bn,.int .i64 bv,.string bs,.slice uo un uc,.int .i64 0,.string ⟨#[]⟩,.slice none 0 0,.int .i64 0,.string ⟨#[]⟩,.slice none 0 0,.int .i64 0,.int .i64 0,.int .i64 0,.int .i64 0,.int .i64 0]=Cj:=⟨_,rfl⟩
 have kN:Kp w1 wE (fun k=>k=w.heap.size):=Bd▸Bz _ _ _
 replace R:Loc wE (w.heap.size) #[.int .i64 1,.int .i64 0,.string bn,.int .i64 bv,.string bs,.slice uo un uc,.int .i64 0,.string ⟨#[]⟩,.slice none 0 0,.int .i64 0,.string ⟨#[]⟩,.slice none 0 0,.int .i64 0,.int .i64 0,.int .i64 0,.int .i64 0,.int .i64 0]:=Bd▸R.row
 replace X:=X.kp kN (by omega)
 have FL:=Below.kp AP kN AP.size (fun k hk=>by omega)
 have Pg:=kN.size
 rw[Bd]
 clear Bd kN AP
 refine bodyPost_ret (v:=Dp (mB bn bv bs xs) (.slice uo un uc) IL IL) (Ce Tryz.results138 _ R rfl Tryz.underlying65 rfl (by kernel_rfl)) rfl ?_
 exact⟨rfl,FL⟩
theorem Md(v:Int)(s:ByteArray)(xs:List Int)(u:Value)(hu:∃uo un uc,u= .slice uo un uc)(w:World):
 Calls Tryz.prog 138 #[.iface 196 (sP v s u)] w fun e w'=>e= .returned (Dp (mP v s xs) IL u IL)∧Below w.heap.size w w':=by
 have ta1:=AAA
 have ta2:=z_
 obtain⟨uo,un,uc,rfl⟩:∃uo un uc,u= .slice uo un uc:=hu
 obtain⟨w0,hw0,AO,R,DN⟩:=bx1 w #[.int .i64 0,.int .i64 0,.string ⟨#[]⟩,.int .i64 0,.string ⟨#[]⟩,.slice none 0 0,.int .i64 0,.string ⟨#[]⟩,.slice none 0 0,.int .i64 0,.string ⟨#[]⟩,.slice none 0 0,.int .i64 0,.int .i64 0,.int .i64 0,.int .i64 0,.int .i64 0] 65
 go_enter Tryz.func138,Tryz.ntmps138
 go_upto_region 7 with(refine BH (AB w0 #[.int .i64 0,.string ⟨#[]⟩,.slice none 0 0] 196 rfl) 196 #[.int .i64 v,.string s,.slice uo un uc] rfl _ _ rfl rfl rfl (by kernel_rfl) rfl (by simp[Value.oneCell']) ?_)
 clear hw0
 obtain⟨w1,hw1⟩:∃y,(w0.alloc (.cells #[.int .i64 0,.string ⟨#[]⟩,.slice none 0 0] 196)).setRow w0.heap.size #[.int .i64 v,.string s,.slice uo un uc]=y:=⟨_,rfl⟩
 rw[hw1]
 have bb:Below w0.heap.size w0 w1:=hw1▸EE _ _ _ _
 have X:Loc w1 w0.heap.size #[.int .i64 v,.string s,.slice uo un uc]:=hw1▸GX _ _ _ _
 have o6:w1.heap.size=w0.heap.size+1:=by rw[←hw1];exact Fv _ _ _ _
 clear hw1
 have AP:=bu AO bb
 have Ct:=bb.size
 replace R:=R.up bb
 clear AO bb
 go_wp2_with (first|(refine Ap X 196 _ rfl _ rfl rfl Tryz.underlying196 rfl (by kernel_rfl) ?_)|(refine BH R 65 #[.int .i64 2,.int .i64 0,.string ⟨#[]⟩,.int .i64 0,.string ⟨#[]⟩,.slice none 0 0,.int .i64 v,.string s,.slice uo un uc,.int .i64 0,.string ⟨#[]⟩,.slice none 0 0,.int .i64 0,.int .i64 0,.int .i64 0,.int .i64 0,.int .i64 0] rfl _ _ rfl rfl rfl (by kernel_rfl) rfl (by simp[Value.oneCell']) ?_))
 obtain⟨wE,Bd⟩:∃Cj,w1.setRow (w.heap.size) #[.int .i64 2,.int .i64 0,.string ⟨#[]⟩,.int .i64 0,.string ⟨#[]⟩,.slice none 0 0,.int .i64 v,.string s,.slice uo un uc,.int .i64 0,.string ⟨#[]⟩,.slice none 0 0,.int .i64 0,.int .i64 0,.int .i64 0,.int .i64 0,.int .i64 0]=Cj:=⟨_,rfl⟩
 have kN:Kp w1 wE (fun k=>k=w.heap.size):=Bd▸Bz _ _ _
 replace R:Loc wE (w.heap.size) #[.int .i64 2,.int .i64 0,.string ⟨#[]⟩,.int .i64 0,.string ⟨#[]⟩,.slice none 0 0,.int .i64 v,.string s,.slice uo un uc,.int .i64 0,.string ⟨#[]⟩,.slice none 0 0,.int .i64 0,.int .i64 0,.int .i64 0,.int .i64 0,.int .i64 0]:=Bd▸R.row
 replace X:=X.kp kN (by omega)
 have FL:=Below.kp AP kN AP.size (fun k hk=>by omega)
 have Pg:=kN.size
 rw[Bd]
 clear Bd kN AP
 refine bodyPost_ret (v:=Dp (mP v s xs) IL (.slice uo un uc) IL) (Ce Tryz.results138 _ R rfl Tryz.underlying65 rfl (by kernel_rfl)) rfl ?_
 exact⟨rfl,FL⟩
theorem Mc(v h q:Int)(s:ByteArray)(xs:List Int)(u:Value)(hu:∃uo un uc,u= .slice uo un uc)(w:World):
 Calls Tryz.prog 138 #[.iface 198 (sV v h q s u)] w fun e w'=>e= .returned (Dp (mV v h q s xs) IL IL u)∧Below w.heap.size w w':=by
 have ta1:=z8
 have ta2:=zz
 have ta3:=zy
 obtain⟨uo,un,uc,rfl⟩:∃uo un uc,u= .slice uo un uc:=hu
 obtain⟨w0,hw0,AO,R,DN⟩:=bx1 w #[.int .i64 0,.int .i64 0,.string ⟨#[]⟩,.int .i64 0,.string ⟨#[]⟩,.slice none 0 0,.int .i64 0,.string ⟨#[]⟩,.slice none 0 0,.int .i64 0,.string ⟨#[]⟩,.slice none 0 0,.int .i64 0,.int .i64 0,.int .i64 0,.int .i64 0,.int .i64 0] 65
 go_enter Tryz.func138,Tryz.ntmps138
 go_upto_region 10 with(refine BH (AB w0 #[.int .i64 0,.int .i64 0,.int .i64 0,.string ⟨#[]⟩,.slice none 0 0] 198 rfl) 198 #[.int .i64 v,.int .i64 h,.int .i64 q,.string s,.slice uo un uc] rfl _ _ rfl rfl rfl (by kernel_rfl) rfl (by simp[Value.oneCell']) ?_)
 clear hw0
 obtain⟨w1,hw1⟩:∃y,(w0.alloc (.cells #[.int .i64 0,.int .i64 0,.int .i64 0,.string ⟨#[]⟩,.slice none 0 0] 198)).setRow w0.heap.size #[.int .i64 v,.int .i64 h,.int .i64 q,.string s,.slice uo un uc]=y:=⟨_,rfl⟩
 rw[hw1]
 have bb:Below w0.heap.size w0 w1:=hw1▸EE _ _ _ _
 have X:Loc w1 w0.heap.size #[.int .i64 v,.int .i64 h,.int .i64 q,.string s,.slice uo un uc]:=hw1▸GX _ _ _ _
 have o6:w1.heap.size=w0.heap.size+1:=by rw[←hw1];exact Fv _ _ _ _
 clear hw1
 have AP:=bu AO bb
 have Ct:=bb.size
 replace R:=R.up bb
 clear AO bb
 obtain⟨cX0,cX1,cX2,cX3,cX4⟩:=Zb X 0 1 2 3 4
 go_wp2_with (first|(refine BH R 65 #[.int .i64 3,.int .i64 v,.string ⟨#[]⟩,.int .i64 0,.string ⟨#[]⟩,.slice none 0 0,.int .i64 0,.string ⟨#[]⟩,.slice none 0 0,.int .i64 q,.string s,.slice uo un uc,.int .i64 h,.int .i64 0,.int .i64 0,.int .i64 0,.int .i64 0] rfl _ _ rfl rfl rfl (by kernel_rfl) rfl (by simp[Value.oneCell']) ?_))
 clear cX0 cX1 cX2 cX3 cX4
 obtain⟨wE,Bd⟩:∃Cj,w1.setRow (w.heap.size) #[.int .i64 3,.int .i64 v,.string ⟨#[]⟩,.int .i64 0,.string ⟨#[]⟩,.slice none 0 0,.int .i64 0,.string ⟨#[]⟩,.slice none 0 0,.int .i64 q,.string s,.slice uo un uc,.int .i64 h,.int .i64 0,.int .i64 0,.int .i64 0,.int .i64 0]=Cj:=⟨_,rfl⟩
 have kN:Kp w1 wE (fun k=>k=w.heap.size):=Bd▸Bz _ _ _
 replace R:Loc wE (w.heap.size) #[.int .i64 3,.int .i64 v,.string ⟨#[]⟩,.int .i64 0,.string ⟨#[]⟩,.slice none 0 0,.int .i64 0,.string ⟨#[]⟩,.slice none 0 0,.int .i64 q,.string s,.slice uo un uc,.int .i64 h,.int .i64 0,.int .i64 0,.int .i64 0,.int .i64 0]:=Bd▸R.row
 replace X:=X.kp kN (by omega)
 have FL:=Below.kp AP kN AP.size (fun k hk=>by omega)
 have Pg:=kN.size
 rw[Bd]
 clear Bd kN AP
 refine bodyPost_ret (v:=Dp (mV v h q s xs) IL IL (.slice uo un uc)) (Ce Tryz.results138 _ R rfl Tryz.underlying65 rfl (by kernel_rfl)) rfl ?_
 exact⟨rfl,FL⟩
theorem Ma(a b c d:Int)(w:World):
 Calls Tryz.prog 138 #[.iface 199 (sX a b c d)] w fun e w'=>e= .returned (Dp (mX a b c d) IL IL IL)∧Below w.heap.size w w':=by
 have ta1:=zx
 have ta2:=zw
 have ta3:=zu
 have ta4:=zt
 obtain⟨w0,hw0,AO,R,DN⟩:=bx1 w #[.int .i64 0,.int .i64 0,.string ⟨#[]⟩,.int .i64 0,.string ⟨#[]⟩,.slice none 0 0,.int .i64 0,.string ⟨#[]⟩,.slice none 0 0,.int .i64 0,.string ⟨#[]⟩,.slice none 0 0,.int .i64 0,.int .i64 0,.int .i64 0,.int .i64 0,.int .i64 0] 65
 go_enter Tryz.func138,Tryz.ntmps138
 go_upto_region 13 with(refine BH (AB w0 #[.int .i64 0,.int .i64 0,.int .i64 0,.int .i64 0] 199 rfl) 199 #[.int .i64 a,.int .i64 b,.int .i64 c,.int .i64 d] rfl _ _ rfl rfl rfl (by kernel_rfl) rfl (by simp[Value.oneCell']) ?_)
 clear hw0
 obtain⟨w1,hw1⟩:∃y,(w0.alloc (.cells #[.int .i64 0,.int .i64 0,.int .i64 0,.int .i64 0] 199)).setRow w0.heap.size #[.int .i64 a,.int .i64 b,.int .i64 c,.int .i64 d]=y:=⟨_,rfl⟩
 rw[hw1]
 have bb:Below w0.heap.size w0 w1:=hw1▸EE _ _ _ _
 have X:Loc w1 w0.heap.size #[.int .i64 a,.int .i64 b,.int .i64 c,.int .i64 d]:=hw1▸GX _ _ _ _
 have o6:w1.heap.size=w0.heap.size+1:=by rw[←hw1];exact Fv _ _ _ _
 clear hw1
 have AP:=bu AO bb
 have Ct:=bb.size
 replace R:=R.up bb
 clear AO bb
 go_wp2_with (first|(refine Ap X 199 _ rfl _ rfl rfl Tryz.underlying199 rfl (by kernel_rfl) ?_)|(refine BH R 65 #[.int .i64 4,.int .i64 0,.string ⟨#[]⟩,.int .i64 0,.string ⟨#[]⟩,.slice none 0 0,.int .i64 0,.string ⟨#[]⟩,.slice none 0 0,.int .i64 0,.string ⟨#[]⟩,.slice none 0 0,.int .i64 0,.int .i64 a,.int .i64 b,.int .i64 c,.int .i64 d] rfl _ _ rfl rfl rfl (by kernel_rfl) rfl (by simp[Value.oneCell']) ?_))
 obtain⟨wE,Bd⟩:∃Cj,w1.setRow (w.heap.size) #[.int .i64 4,.int .i64 0,.string ⟨#[]⟩,.int .i64 0,.string ⟨#[]⟩,.slice none 0 0,.int .i64 0,.string ⟨#[]⟩,.slice none 0 0,.int .i64 0,.string ⟨#[]⟩,.slice none 0 0,.int .i64 0,.int .i64 a,.int .i64 b,.int .i64 c,.int .i64 d]=Cj:=⟨_,rfl⟩
 have kN:Kp w1 wE (fun k=>k=w.heap.size):=Bd▸Bz _ _ _
 replace R:Loc wE (w.heap.size) #[.int .i64 4,.int .i64 0,.string ⟨#[]⟩,.int .i64 0,.string ⟨#[]⟩,.slice none 0 0,.int .i64 0,.string ⟨#[]⟩,.slice none 0 0,.int .i64 0,.string ⟨#[]⟩,.slice none 0 0,.int .i64 0,.int .i64 a,.int .i64 b,.int .i64 c,.int .i64 d]:=Bd▸R.row
 replace X:=X.kp kN (by omega)
 have FL:=Below.kp AP kN AP.size (fun k hk=>by omega)
 have Pg:=kN.size
 rw[Bd]
 clear Bd kN AP
 refine bodyPost_ret (v:=Dp (mX a b c d) IL IL IL) (Ce Tryz.results138 _ R rfl Tryz.underlying65 rfl (by kernel_rfl)) rfl ?_
 exact⟨rfl,FL⟩
theorem X7(n f:Int)(bn:ByteArray)(bv:Int)(bs:ByteArray)(ao:Option Addr)(ca:Nat)(xs:List Int)(w:World)(h1:bn.size≤33554432)(h2:bs.size≤33554432)(hE:Env w)(ha:RI w (.slice ao xs.length ca) xs):
 Calls Tryz.prog 260 #[sB bn bv bs (.slice ao xs.length ca),cv n f] w fun e w'=>e= .returned (.bool (V8 n f bn bv bs xs))∧Below w.heap.size w w':=by
 have BO:=hide fun w hE h=>Vd n f bn bv bs ao ca xs w h1 h2 hE h
 have HE:=hide hE
 have HA:=hide ha
 clear hE ha h1 h2
 obtain⟨w0,hw0,AO,A,LC,DN⟩:=GM w #[.string bn,.int .i64 bv,.string bs,.slice ao xs.length ca] 195 #[.int .i64 n,.int .i64 f] 57
 go_enter Tryz.func260,Tryz.ntmps260
 obtain⟨Bn,DX,DW,Eh⟩:=WO A 0 1 2 3
 obtain⟨Ae,Aj⟩:=Cr LC 0 1
 go_wp2_with fail
 clear hw0
 refine(BO.out _ (HE.out.below AO) (HA.out.below AO)).mono ?_
 rintro _ w1 ⟨rfl,bb⟩
 clear Bn DX DW Eh Ae Aj
 have AP:=bu AO bb
 have Ct:=bb.size
 replace A:=A.up bb
 replace LC:=LC.up bb
 clear AO bb
 go_wp2
 go_ret
 exact⟨rfl,AP⟩
theorem X6(n f v:Int)(s:ByteArray)(ao:Option Addr)(ca:Nat)(xs:List Int)(w:World)(h1:s.size≤33554432)(hE:Env w)(ha:RI w (.slice ao xs.length ca) xs):
 Calls Tryz.prog 269 #[sP v s (.slice ao xs.length ca),cv n f] w fun e w'=>e= .returned (.bool (DV n f v s xs&&!(s.toList==[])))∧Below w.heap.size w w':=by
 have PO:=hide fun w hE h=>Oz n f v s (.slice ao xs.length ca) xs w h1 hE h
 have HE:=hide hE
 have HA:=hide ha
 clear hE ha h1
 generalize DV n f v s xs=r at *
 obtain⟨z,hz⟩:∃z,(s.toList==[])=z:=⟨_,rfl⟩
 rw[hz]
 obtain⟨w0,hw0,AO,A,LC,DN⟩:=GM w #[.int .i64 v,.string s,.slice ao xs.length ca] 196 #[.int .i64 n,.int .i64 f] 57
 go_enter Tryz.func269,Tryz.ntmps269
 cases z
 ·obtain⟨Bn,DX,DW⟩:=Bv A 0 1 2
  obtain⟨Ae,Aj⟩:=Cr LC 0 1
  go_wp2_with fail
  clear hw0
  refine(PO.out _ (HE.out.below AO) (HA.out.below AO)).mono ?_
  rintro _ w1 ⟨rfl,bb⟩
  clear Bn DX DW Ae Aj
  have AP:=bu AO bb
  have Ct:=bb.size
  replace A:=A.up bb
  replace LC:=LC.up bb
  clear AO bb
  go_wp2
  go_ret
  exact⟨by simp,AP⟩
 obtain⟨Bn,DX,DW⟩:=Bv A 0 1 2
 obtain⟨Ae,Aj⟩:=Cr LC 0 1
 go_wp2
 clear hw0
 go_ret
 exact⟨by simp,AO⟩
theorem X5(n f v h q:Int)(s:ByteArray)(ao:Option Addr)(ca:Nat)(xs:List Int)(w:World)(hn:IntKind.i64.wrap (n-1)=n-1)(h1:s.size≤33554432)(hE:Env w)(ha:RI w (.slice ao xs.length ca) xs):
 Calls Tryz.prog 271 #[sV v h q s (.slice ao xs.length ca),cv n f] w fun e w'=>e= .returned (.bool (decide (1≤v∧v≤60)&&(Ga n f q s xs&&decide (0≤h∧h≤n-1))))∧Below w.heap.size w w':=by
 have QO:=hide fun w hE h=>Oy n f q s ao ca xs w h1 hE h
 have HE:=hide hE
 have HA:=hide ha
 have i1:=hide fun w=>DZ v 1 60 w
 have i2:=hide fun w=>DZ h 0 (n-1) w
 clear hE ha h1
 generalize decide (1≤v∧v≤60)=r1 at *
 generalize decide (0≤h∧h≤n-1)=r3 at *
 generalize Ga n f q s xs=r2 at *
 obtain⟨w0,hw0,AO,A,LC,DN⟩:=GM w #[.int .i64 v,.int .i64 h,.int .i64 q,.string s,.slice ao xs.length ca] 198 #[.int .i64 n,.int .i64 f] 57
 go_enter Tryz.func271,Tryz.ntmps271
 obtain⟨Bn,DX,DW,Eh,FC⟩:=Zb A 0 1 2 3 4
 obtain⟨Ae,Aj⟩:=Cr LC 0 1
 go_wp2_with fail
 clear hw0
 refine(i1.out _).mono ?_
 rintro _ w1 ⟨rfl,bb⟩
 clear Bn DX DW Eh FC Ae Aj
 have AP:=bu AO bb
 have Ct:=bb.size
 replace A:=A.up bb
 replace LC:=LC.up bb
 clear AO bb
 cases r1
 ·obtain⟨Bn,DX,DW,Eh,FC⟩:=Zb A 0 1 2 3 4
  obtain⟨Ae,Aj⟩:=Cr LC 0 1
  go_wp2
  go_ret
  exact⟨by simp,AP⟩
 obtain⟨Bn,DX,DW,Eh,FC⟩:=Zb A 0 1 2 3 4
 obtain⟨Ae,Aj⟩:=Cr LC 0 1
 go_wp2_with fail
 refine(i2.out _).mono ?_
 rintro _ w2 ⟨rfl,bb⟩
 clear Bn DX DW Eh FC Ae Aj
 have Am:=bu AP bb
 have El:=bb.size
 replace A:=A.up bb
 replace LC:=LC.up bb
 clear AP bb
 cases r3
 ·obtain⟨Bn,DX,DW,Eh,FC⟩:=Zb A 0 1 2 3 4
  obtain⟨Ae,Aj⟩:=Cr LC 0 1
  go_wp2
  go_ret
  exact⟨by simp,Am⟩
 obtain⟨Bn,DX,DW,Eh,FC⟩:=Zb A 0 1 2 3 4
 obtain⟨Ae,Aj⟩:=Cr LC 0 1
 go_wp2_with fail
 refine(QO.out _ (HE.out.below Am) (HA.out.below Am)).mono ?_
 rintro _ w3 ⟨rfl,bb⟩
 clear Bn DX DW Eh FC Ae Aj
 have BP:=bu Am bb
 have IZ:=bb.size
 replace A:=A.up bb
 replace LC:=LC.up bb
 clear Am bb
 go_wp2
 go_ret
 exact⟨by simp,BP⟩
theorem X4(n f a b c d:Int)(w:World):
 Calls Tryz.prog 273 #[sX a b c d,cv n f] w fun e w'=>e= .returned (.bool (decide (BD a b c d)))∧Below w.heap.size w w':=by
 have TO:=hide fun w=>VT a b c d w
 generalize decide (BD a b c d)=r at *
 obtain⟨w0,hw0,AO,A,LC,DN⟩:=GM w #[.int .i64 a,.int .i64 b,.int .i64 c,.int .i64 d] 199 #[.int .i64 n,.int .i64 f] 57
 go_enter Tryz.func273,Tryz.ntmps273
 obtain⟨Bn,DX,DW,Eh⟩:=WO A 0 1 2 3
 go_wp2_with fail
 clear hw0
 refine(TO.out _).mono ?_
 rintro _ w1 ⟨rfl,bb⟩
 clear Bn DX DW Eh
 have AP:=bu AO bb
 have Ct:=bb.size
 replace A:=A.up bb
 replace LC:=LC.up bb
 clear AO bb
 go_wp2
 go_ret
 exact⟨rfl,AP⟩
def MH(t:MT):Prop:=t.bn.size≤33554432∧t.bs.size≤33554432∧t.ps.size≤33554432∧t.qs.size≤33554432
theorem MI.nul{t:MT}(h1:t.bv=0)(h2:t.bw=[]):MI t:=⟨by rw[h1];omega,by rw[h2];intro x hx;simp at hx⟩
theorem Va(n f:Int)(t:MT)(ao bo co:Option Addr)(ca cb cc:Nat)(w:World)(hk:t.k=1)(hs:MH t)(hm:MI t)(hE:Env w)(ha:RI w (.slice ao t.bw.length ca) t.bw)(hb:RI w (.slice bo t.pw.length cb) t.pw)(hc:RI w (.slice co t.qw.length cc) t.qw):
 Calls Tryz.prog 114 #[cv n f,Dp t (.slice ao t.bw.length ca) (.slice bo t.pw.length cb) (.slice co t.qw.length cc)] w fun e w'=>e= .returned (.bool (decide (A8 n f)&&(aT n f t&&Dm (mB t.bn t.bv t.bs t.bw) t)))∧Below w.heap.size w w':=by
 obtain⟨s1,s2,s3,s4⟩:=hs
 have SA:=hide fun w=>SG t (.slice ao t.bw.length ca) (.slice bo t.pw.length cb) (.slice co t.qw.length cc) w hk
 have CO:=hide fun w=>Cx n f w
 have HN:Hid (decide (A8 n f)=true→IntKind.i64.wrap (n-1)=n-1):=hide fun h=>by rw[IntKind.wrap_i64]<;>(have:=of_decide_eq_true h;unfold A8 at this;omega)
 have RT:=hide fun w(hE:Env w) ha=>X7 n f t.bn t.bv t.bs ao ca t.bw w s1 s2 hE ha
 have MO:=hide fun w=>Me t.bn t.bv t.bs t.bw (.slice ao t.bw.length ca) ⟨_,_,_,rfl⟩ w
 have SM:=hide fun w hP h1 h2 h3 h4 h5 h6=>GJ (mB t.bn t.bv t.bs t.bw) t ao .none .none ao bo co ca 0 0 ca cb cc w ⟨hm.1,hm.2⟩ hm hP h1 h2 h3 h4 h5 h6
 have HE:=hide hE
 have ha1:=hide ha
 have hb1:=hide hb
 have hc1:=hide hc
 clear hE ha hb hc hm s1 s2 s3 s4 hk
 unfold aT
 generalize Dm (mB t.bn t.bv t.bs t.bw) t=r2 at *
 generalize V8 n f t.bn t.bv t.bs t.bw=r1 at *
 generalize decide (A8 n f)=b1 at *
 obtain⟨w0,hw0,AO,LC,A,DN⟩:=GM w #[.int .i64 n,.int .i64 f] 57 #[.int .i64 t.k,.int .i64 t.vw,.string t.bn,.int .i64 t.bv,.string t.bs,.slice ao t.bw.length ca,.int .i64 t.pv,.string t.ps,.slice bo t.pw.length cb,.int .i64 t.qv,.string t.qs,.slice co t.qw.length cc,.int .i64 t.wh,.int .i64 t.fr,.int .i64 t.tu,.int .i64 t.am,.int .i64 t.no] 65
 go_enter Tryz.func114,Tryz.ntmps114
 go_wp2_with (first|(refine Ap A 65 _ rfl _ rfl rfl Tryz.underlying65 rfl (by kernel_rfl) ?_))
 clear hw0
 refine(SA.out _).mono ?_
 rintro _ w1 ⟨rfl,bb⟩
 have AP:=bu AO bb
 have Ct:=bb.size
 replace LC:=LC.up bb
 replace A:=A.up bb
 clear AO bb SA
 cases b1
 ·have K:=kw (ka (Ia LC 0 1) (kL A))
  go_upto_region 2 with fail
  refine Ey K (fun bA hHeld=>?_)
  refine tx 0 8 ?_
  refine rd 1 rfl (fun KK AA=>?_)
  go_simp
  have hgo:=bA
  refine(CO.out _).mono ?_
  rintro e Ci ⟨rfl,bb⟩
  have Ao:Below w1.heap.size w1 Ci:=bu bA bb
  clear bA hgo bb hHeld
  refine AA.out _ _ (K.out _ Ao) (fun hHeld=>?_)
  clear AA KK
  refine tx 2 10 ?_
  refine sx 3 11 ?_
  refine sx 4 12 ?_
  refine tx 5 13 ?_
  refine tx 6 14 ?_
  refine sx 7 15 ?_
  refine sx 8 16 ?_
  refine sx 9 17 ?_
  refine tx 10 18 ?_
  refine tx 11 19 ?_
  refine sx 12 20 ?_
  refine sx 14 22 ?_
  refine sx 13 21 ?_
  refine sx 15 23 ?_
  refine tx 16 24 ?_
  refine tx 17 4 ?_
  clear hHeld
  refine Bt ?_
  have bb:=Ao
  have Fx:=bu AP bb
  have N9:=bb.size
  replace LC:=LC.up bb
  replace A:=A.up bb
  clear AP bb Ao K
  go_wp2
  go_ret
  exact⟨by simp,Fx⟩
 cases r1
 ·have K:=kw (ka (Ia LC 0 1) (kL A))
  go_upto_region 2 with fail
  refine Ey K (fun bA hHeld=>?_)
  refine tx 0 8 ?_
  refine rd 1 rfl (fun KK AA=>?_)
  go_simp
  have hgo:=bA
  refine(CO.out _).mono ?_
  rintro e Ci ⟨rfl,bb⟩
  have Ao:Below w1.heap.size w1 Ci:=bu bA bb
  clear bA hgo bb hHeld
  refine AA.out _ _ (K.out _ Ao) (fun hHeld=>?_)
  clear AA KK
  refine tx 2 10 ?_
  refine tx 3 11 ?_
  refine tx 4 12 ?_
  refine tx 5 13 ?_
  refine tx 6 14 ?_
  refine tx 7 15 ?_
  refine tx 8 16 ?_
  refine rd 9 rfl (fun KK AA=>?_)
  go_simp
  have hgo:=Ao
  refine(RT.out _ (HE.out.below (bu AP hgo)) (ha1.out.below (bu AP hgo))).mono ?_
  rintro e Ff ⟨rfl,bb⟩
  have BN:Below w1.heap.size w1 Ff:=bu Ao bb
  clear Ao hgo bb hHeld
  refine AA.out _ _ (K.out _ BN) (fun hHeld=>?_)
  clear AA KK
  refine tx 10 18 ?_
  refine tx 11 19 ?_
  refine sx 12 20 ?_
  refine sx 14 22 ?_
  refine sx 13 21 ?_
  refine sx 15 23 ?_
  refine tx 16 24 ?_
  refine tx 17 4 ?_
  clear hHeld
  refine Bt ?_
  have bb:=BN
  have Jv:=bu AP bb
  have XG:=bb.size
  replace LC:=LC.up bb
  replace A:=A.up bb
  clear AP bb BN K
  go_wp2
  go_ret
  exact⟨by simp,Jv⟩
 have K:=kw (ka (Ia LC 0 1) (kL A))
 go_upto_region 2 with fail
 refine Ey K (fun bA hHeld=>?_)
 refine tx 0 8 ?_
 refine rd 1 rfl (fun KK AA=>?_)
 go_simp
 have hgo:=bA
 refine(CO.out _).mono ?_
 rintro e Ci ⟨rfl,bb⟩
 have Ao:Below w1.heap.size w1 Ci:=bu bA bb
 clear bA hgo bb hHeld
 refine AA.out _ _ (K.out _ Ao) (fun hHeld=>?_)
 clear AA KK
 refine tx 2 10 ?_
 refine tx 3 11 ?_
 refine tx 4 12 ?_
 refine tx 5 13 ?_
 refine tx 6 14 ?_
 refine tx 7 15 ?_
 refine tx 8 16 ?_
 refine rd 9 rfl (fun KK AA=>?_)
 go_simp
 have hgo:=Ao
 refine(RT.out _ (HE.out.below (bu AP hgo)) (ha1.out.below (bu AP hgo))).mono ?_
 rintro e Ff ⟨rfl,bb⟩
 have BN:Below w1.heap.size w1 Ff:=bu Ao bb
 clear Ao hgo bb hHeld
 refine AA.out _ _ (K.out _ BN) (fun hHeld=>?_)
 clear AA KK
 refine tx 10 18 ?_
 refine tx 11 19 ?_
 refine tx 12 20 ?_
 refine take_at (i:=14) (d:=22) (v:= .agg #[.int .i64 t.k,.int .i64 t.vw,.string t.bn,.int .i64 t.bv,.string t.bs,.slice ao t.bw.length ca,.int .i64 t.pv,.string t.ps,.slice bo t.pw.length cb,.int .i64 t.qv,.string t.qs,.slice co t.qw.length cc,.int .i64 t.wh,.int .i64 t.fr,.int .i64 t.tu,.int .i64 t.am,.int .i64 t.no]) rfl rfl (by kernel_rfl) (by kernel_rfl) (by kernel_rfl) (fun _ _ _ h=>h) ?_ (by assumption) ?_
 ·exact A7 rfl 65 _ rfl rfl _ (fun w h=>h.2.2) Tryz.underlying65 rfl (by kernel_rfl)
 simp only[pU]
 refine rd 13 rfl (fun KK AA=>?_)
 go_simp
 have hgo:=BN
 refine(MO.out _).mono ?_
 rintro e NY ⟨rfl,bb⟩
 have Fe:Below w1.heap.size w1 NY:=bu BN bb
 clear BN hgo bb hHeld
 refine AA.out _ _ (K.out _ Fe) (fun hHeld=>?_)
 clear AA KK
 refine rd 15 rfl (fun KK AA=>?_)
 go_simp
 have hgo:=Fe
 refine(SM.out _ (HE.out.below (bu AP hgo)).pow (ha1.out.below (bu AP hgo)) (Cg _) (Cg _) (ha1.out.below (bu AP hgo)) (hb1.out.below (bu AP hgo)) (hc1.out.below (bu AP hgo))).mono ?_
 rintro e NW ⟨rfl,bb⟩
 have Sq:Below w1.heap.size w1 NW:=bu Fe bb
 clear Fe hgo bb hHeld
 refine AA.out _ _ (K.out _ Sq) (fun hHeld=>?_)
 clear AA KK
 refine tx 16 24 ?_
 refine tx 17 4 ?_
 clear hHeld
 refine Bt ?_
 have bb:=Sq
 have Ju:=bu AP bb
 have XF:=bb.size
 replace LC:=LC.up bb
 replace A:=A.up bb
 clear AP bb Sq K
 go_wp2
 go_ret
 exact⟨by simp,Ju⟩
theorem VZ(n f:Int)(t:MT)(ao bo co:Option Addr)(ca cb cc:Nat)(w:World)(hk:t.k=2)(hs:MH t)(hm:MI t)(hE:Env w)(ha:RI w (.slice ao t.bw.length ca) t.bw)(hb:RI w (.slice bo t.pw.length cb) t.pw)(hc:RI w (.slice co t.qw.length cc) t.qw):
 Calls Tryz.prog 114 #[cv n f,Dp t (.slice ao t.bw.length ca) (.slice bo t.pw.length cb) (.slice co t.qw.length cc)] w fun e w'=>e= .returned (.bool (decide (A8 n f)&&(aQ n f t&&Dm (mP t.pv t.ps t.pw) t)))∧Below w.heap.size w w':=by
 obtain⟨s1,s2,s3,s4⟩:=hs
 have SA:=hide fun w=>SF t (.slice ao t.bw.length ca) (.slice bo t.pw.length cb) (.slice co t.qw.length cc) w hk
 have CO:=hide fun w=>Cx n f w
 have HN:Hid (decide (A8 n f)=true→IntKind.i64.wrap (n-1)=n-1):=hide fun h=>by rw[IntKind.wrap_i64]<;>(have:=of_decide_eq_true h;unfold A8 at this;omega)
 have RT:=hide fun w(hE:Env w) ha=>X6 n f t.pv t.ps bo cb t.pw w s3 hE ha
 have MO:=hide fun w=>Md t.pv t.ps t.pw (.slice bo t.pw.length cb) ⟨_,_,_,rfl⟩ w
 have SM:=hide fun w hP h1 h2 h3 h4 h5 h6=>GJ (mP t.pv t.ps t.pw) t .none bo .none ao bo co 0 cb 0 ca cb cc w (MI.nul rfl rfl) hm hP h1 h2 h3 h4 h5 h6
 have HE:=hide hE
 have ha1:=hide ha
 have hb1:=hide hb
 have hc1:=hide hc
 clear hE ha hb hc hm s1 s2 s3 s4 hk
 unfold aQ
 generalize Dm (mP t.pv t.ps t.pw) t=r2 at *
 generalize (DV n f t.pv t.ps t.pw&&!(t.ps.toList==[]))=r1 at *
 generalize decide (A8 n f)=b1 at *
 obtain⟨w0,hw0,AO,LC,A,DN⟩:=GM w #[.int .i64 n,.int .i64 f] 57 #[.int .i64 t.k,.int .i64 t.vw,.string t.bn,.int .i64 t.bv,.string t.bs,.slice ao t.bw.length ca,.int .i64 t.pv,.string t.ps,.slice bo t.pw.length cb,.int .i64 t.qv,.string t.qs,.slice co t.qw.length cc,.int .i64 t.wh,.int .i64 t.fr,.int .i64 t.tu,.int .i64 t.am,.int .i64 t.no] 65
 go_enter Tryz.func114,Tryz.ntmps114
 go_wp2_with (first|(refine Ap A 65 _ rfl _ rfl rfl Tryz.underlying65 rfl (by kernel_rfl) ?_))
 clear hw0
 refine(SA.out _).mono ?_
 rintro _ w1 ⟨rfl,bb⟩
 have AP:=bu AO bb
 have Ct:=bb.size
 replace LC:=LC.up bb
 replace A:=A.up bb
 clear AO bb SA
 cases b1
 ·have K:=kw (ka (Ia LC 0 1) (kL A))
  go_upto_region 2 with fail
  refine Ey K (fun bA hHeld=>?_)
  refine tx 0 8 ?_
  refine rd 1 rfl (fun KK AA=>?_)
  go_simp
  have hgo:=bA
  refine(CO.out _).mono ?_
  rintro e Ci ⟨rfl,bb⟩
  have Ao:Below w1.heap.size w1 Ci:=bu bA bb
  clear bA hgo bb hHeld
  refine AA.out _ _ (K.out _ Ao) (fun hHeld=>?_)
  clear AA KK
  refine tx 2 10 ?_
  refine sx 3 11 ?_
  refine sx 4 12 ?_
  refine tx 5 13 ?_
  refine tx 6 14 ?_
  refine sx 7 15 ?_
  refine sx 8 16 ?_
  refine sx 9 17 ?_
  refine tx 10 18 ?_
  refine tx 11 19 ?_
  refine sx 12 20 ?_
  refine sx 14 22 ?_
  refine sx 13 21 ?_
  refine sx 15 23 ?_
  refine tx 16 24 ?_
  refine tx 17 4 ?_
  clear hHeld
  refine Bt ?_
  have bb:=Ao
  have Fx:=bu AP bb
  have N9:=bb.size
  replace LC:=LC.up bb
  replace A:=A.up bb
  clear AP bb Ao K
  go_wp2
  go_ret
  exact⟨by simp,Fx⟩
 cases r1
 ·have K:=kw (ka (Ia LC 0 1) (kL A))
  go_upto_region 2 with fail
  refine Ey K (fun bA hHeld=>?_)
  refine tx 0 8 ?_
  refine rd 1 rfl (fun KK AA=>?_)
  go_simp
  have hgo:=bA
  refine(CO.out _).mono ?_
  rintro e Ci ⟨rfl,bb⟩
  have Ao:Below w1.heap.size w1 Ci:=bu bA bb
  clear bA hgo bb hHeld
  refine AA.out _ _ (K.out _ Ao) (fun hHeld=>?_)
  clear AA KK
  refine tx 2 10 ?_
  refine tx 3 11 ?_
  refine tx 4 12 ?_
  refine tx 5 13 ?_
  refine tx 6 14 ?_
  refine tx 7 15 ?_
  refine tx 8 16 ?_
  refine rd 9 rfl (fun KK AA=>?_)
  go_simp
  have hgo:=Ao
  refine(RT.out _ (HE.out.below (bu AP hgo)) (hb1.out.below (bu AP hgo))).mono ?_
  rintro e Ff ⟨rfl,bb⟩
  have BN:Below w1.heap.size w1 Ff:=bu Ao bb
  clear Ao hgo bb hHeld
  refine AA.out _ _ (K.out _ BN) (fun hHeld=>?_)
  clear AA KK
  refine tx 10 18 ?_
  refine tx 11 19 ?_
  refine sx 12 20 ?_
  refine sx 14 22 ?_
  refine sx 13 21 ?_
  refine sx 15 23 ?_
  refine tx 16 24 ?_
  refine tx 17 4 ?_
  clear hHeld
  refine Bt ?_
  have bb:=BN
  have Jv:=bu AP bb
  have XG:=bb.size
  replace LC:=LC.up bb
  replace A:=A.up bb
  clear AP bb BN K
  go_wp2
  go_ret
  exact⟨by simp,Jv⟩
 have K:=kw (ka (Ia LC 0 1) (kL A))
 go_upto_region 2 with fail
 refine Ey K (fun bA hHeld=>?_)
 refine tx 0 8 ?_
 refine rd 1 rfl (fun KK AA=>?_)
 go_simp
 have hgo:=bA
 refine(CO.out _).mono ?_
 rintro e Ci ⟨rfl,bb⟩
 have Ao:Below w1.heap.size w1 Ci:=bu bA bb
 clear bA hgo bb hHeld
 refine AA.out _ _ (K.out _ Ao) (fun hHeld=>?_)
 clear AA KK
 refine tx 2 10 ?_
 refine tx 3 11 ?_
 refine tx 4 12 ?_
 refine tx 5 13 ?_
 refine tx 6 14 ?_
 refine tx 7 15 ?_
 refine tx 8 16 ?_
 refine rd 9 rfl (fun KK AA=>?_)
 go_simp
 have hgo:=Ao
 refine(RT.out _ (HE.out.below (bu AP hgo)) (hb1.out.below (bu AP hgo))).mono ?_
 rintro e Ff ⟨rfl,bb⟩
 have BN:Below w1.heap.size w1 Ff:=bu Ao bb
 clear Ao hgo bb hHeld
 refine AA.out _ _ (K.out _ BN) (fun hHeld=>?_)
 clear AA KK
 refine tx 10 18 ?_
 refine tx 11 19 ?_
 refine tx 12 20 ?_
 refine take_at (i:=14) (d:=22) (v:= .agg #[.int .i64 t.k,.int .i64 t.vw,.string t.bn,.int .i64 t.bv,.string t.bs,.slice ao t.bw.length ca,.int .i64 t.pv,.string t.ps,.slice bo t.pw.length cb,.int .i64 t.qv,.string t.qs,.slice co t.qw.length cc,.int .i64 t.wh,.int .i64 t.fr,.int .i64 t.tu,.int .i64 t.am,.int .i64 t.no]) rfl rfl (by kernel_rfl) (by kernel_rfl) (by kernel_rfl) (fun _ _ _ h=>h) ?_ (by assumption) ?_
 ·exact A7 rfl 65 _ rfl rfl _ (fun w h=>h.2.2) Tryz.underlying65 rfl (by kernel_rfl)
 simp only[pU]
 refine rd 13 rfl (fun KK AA=>?_)
 go_simp
 have hgo:=BN
 refine(MO.out _).mono ?_
 rintro e NY ⟨rfl,bb⟩
 have Fe:Below w1.heap.size w1 NY:=bu BN bb
 clear BN hgo bb hHeld
 refine AA.out _ _ (K.out _ Fe) (fun hHeld=>?_)
 clear AA KK
 refine rd 15 rfl (fun KK AA=>?_)
 go_simp
 have hgo:=Fe
 refine(SM.out _ (HE.out.below (bu AP hgo)).pow (Cg _) (hb1.out.below (bu AP hgo)) (Cg _) (ha1.out.below (bu AP hgo)) (hb1.out.below (bu AP hgo)) (hc1.out.below (bu AP hgo))).mono ?_
 rintro e NW ⟨rfl,bb⟩
 have Sq:Below w1.heap.size w1 NW:=bu Fe bb
 clear Fe hgo bb hHeld
 refine AA.out _ _ (K.out _ Sq) (fun hHeld=>?_)
 clear AA KK
 refine tx 16 24 ?_
 refine tx 17 4 ?_
 clear hHeld
 refine Bt ?_
 have bb:=Sq
 have Ju:=bu AP bb
 have XF:=bb.size
 replace LC:=LC.up bb
 replace A:=A.up bb
 clear AP bb Sq K
 go_wp2
 go_ret
 exact⟨by simp,Ju⟩
theorem VY(n f:Int)(t:MT)(ao bo co:Option Addr)(ca cb cc:Nat)(w:World)(hk:t.k=3)(hs:MH t)(hm:MI t)(hE:Env w)(ha:RI w (.slice ao t.bw.length ca) t.bw)(hb:RI w (.slice bo t.pw.length cb) t.pw)(hc:RI w (.slice co t.qw.length cc) t.qw):
 Calls Tryz.prog 114 #[cv n f,Dp t (.slice ao t.bw.length ca) (.slice bo t.pw.length cb) (.slice co t.qw.length cc)] w fun e w'=>e= .returned (.bool (decide (A8 n f)&&(aP n f t&&Dm (mV t.vw t.wh t.qv t.qs t.qw) t)))∧Below w.heap.size w w':=by
 obtain⟨s1,s2,s3,s4⟩:=hs
 have SA:=hide fun w=>SE t (.slice ao t.bw.length ca) (.slice bo t.pw.length cb) (.slice co t.qw.length cc) w hk
 have CO:=hide fun w=>Cx n f w
 have HN:Hid (decide (A8 n f)=true→IntKind.i64.wrap (n-1)=n-1):=hide fun h=>by rw[IntKind.wrap_i64]<;>(have:=of_decide_eq_true h;unfold A8 at this;omega)
 have RT:=hide fun w(hn:IntKind.i64.wrap (n-1)=n-1)(hE:Env w) ha=>X5 n f t.vw t.wh t.qv t.qs co cc t.qw w hn s4 hE ha
 have MO:=hide fun w=>Mc t.vw t.wh t.qv t.qs t.qw (.slice co t.qw.length cc) ⟨_,_,_,rfl⟩ w
 have SM:=hide fun w hP h1 h2 h3 h4 h5 h6=>GJ (mV t.vw t.wh t.qv t.qs t.qw) t .none .none co ao bo co 0 0 cc ca cb cc w (MI.nul rfl rfl) hm hP h1 h2 h3 h4 h5 h6
 have HE:=hide hE
 have ha1:=hide ha
 have hb1:=hide hb
 have hc1:=hide hc
 clear hE ha hb hc hm s1 s2 s3 s4 hk
 unfold aP
 generalize Dm (mV t.vw t.wh t.qv t.qs t.qw) t=r2 at *
 generalize (decide (1≤t.vw∧t.vw≤60)&&(Ga n f t.qv t.qs t.qw&&decide (0≤t.wh∧t.wh≤n-1)))=r1 at *
 generalize decide (A8 n f)=b1 at *
 obtain⟨w0,hw0,AO,LC,A,DN⟩:=GM w #[.int .i64 n,.int .i64 f] 57 #[.int .i64 t.k,.int .i64 t.vw,.string t.bn,.int .i64 t.bv,.string t.bs,.slice ao t.bw.length ca,.int .i64 t.pv,.string t.ps,.slice bo t.pw.length cb,.int .i64 t.qv,.string t.qs,.slice co t.qw.length cc,.int .i64 t.wh,.int .i64 t.fr,.int .i64 t.tu,.int .i64 t.am,.int .i64 t.no] 65
 go_enter Tryz.func114,Tryz.ntmps114
 go_wp2_with (first|(refine Ap A 65 _ rfl _ rfl rfl Tryz.underlying65 rfl (by kernel_rfl) ?_))
 clear hw0
 refine(SA.out _).mono ?_
 rintro _ w1 ⟨rfl,bb⟩
 have AP:=bu AO bb
 have Ct:=bb.size
 replace LC:=LC.up bb
 replace A:=A.up bb
 clear AO bb SA
 cases b1
 ·have K:=kw (ka (Ia LC 0 1) (kL A))
  go_upto_region 2 with fail
  refine Ey K (fun bA hHeld=>?_)
  refine tx 0 8 ?_
  refine rd 1 rfl (fun KK AA=>?_)
  go_simp
  have hgo:=bA
  refine(CO.out _).mono ?_
  rintro e Ci ⟨rfl,bb⟩
  have Ao:Below w1.heap.size w1 Ci:=bu bA bb
  clear bA hgo bb hHeld
  refine AA.out _ _ (K.out _ Ao) (fun hHeld=>?_)
  clear AA KK
  refine tx 2 10 ?_
  refine sx 3 11 ?_
  refine sx 4 12 ?_
  refine tx 5 13 ?_
  refine tx 6 14 ?_
  refine sx 7 15 ?_
  refine sx 8 16 ?_
  refine sx 9 17 ?_
  refine tx 10 18 ?_
  refine tx 11 19 ?_
  refine sx 12 20 ?_
  refine sx 14 22 ?_
  refine sx 13 21 ?_
  refine sx 15 23 ?_
  refine tx 16 24 ?_
  refine tx 17 4 ?_
  clear hHeld
  refine Bt ?_
  have bb:=Ao
  have Fx:=bu AP bb
  have N9:=bb.size
  replace LC:=LC.up bb
  replace A:=A.up bb
  clear AP bb Ao K
  go_wp2
  go_ret
  exact⟨by simp,Fx⟩
 cases r1
 ·have K:=kw (ka (Ia LC 0 1) (kL A))
  go_upto_region 2 with fail
  refine Ey K (fun bA hHeld=>?_)
  refine tx 0 8 ?_
  refine rd 1 rfl (fun KK AA=>?_)
  go_simp
  have hgo:=bA
  refine(CO.out _).mono ?_
  rintro e Ci ⟨rfl,bb⟩
  have Ao:Below w1.heap.size w1 Ci:=bu bA bb
  clear bA hgo bb hHeld
  refine AA.out _ _ (K.out _ Ao) (fun hHeld=>?_)
  clear AA KK
  refine tx 2 10 ?_
  refine tx 3 11 ?_
  refine tx 4 12 ?_
  refine tx 5 13 ?_
  refine tx 6 14 ?_
  refine tx 7 15 ?_
  refine tx 8 16 ?_
  refine rd 9 rfl (fun KK AA=>?_)
  go_simp
  have hgo:=Ao
  refine(RT.out _ (HN.out (by trivial)) (HE.out.below (bu AP hgo)) (hc1.out.below (bu AP hgo))).mono ?_
  rintro e Ff ⟨rfl,bb⟩
  have BN:Below w1.heap.size w1 Ff:=bu Ao bb
  clear Ao hgo bb hHeld
  refine AA.out _ _ (K.out _ BN) (fun hHeld=>?_)
  clear AA KK
  refine tx 10 18 ?_
  refine tx 11 19 ?_
  refine sx 12 20 ?_
  refine sx 14 22 ?_
  refine sx 13 21 ?_
  refine sx 15 23 ?_
  refine tx 16 24 ?_
  refine tx 17 4 ?_
  clear hHeld
  refine Bt ?_
  have bb:=BN
  have Jv:=bu AP bb
  have XG:=bb.size
  replace LC:=LC.up bb
  replace A:=A.up bb
  clear AP bb BN K
  go_wp2
  go_ret
  exact⟨by simp,Jv⟩
 have K:=kw (ka (Ia LC 0 1) (kL A))
 go_upto_region 2 with fail
 refine Ey K (fun bA hHeld=>?_)
 refine tx 0 8 ?_
 refine rd 1 rfl (fun KK AA=>?_)
 go_simp
 have hgo:=bA
 refine(CO.out _).mono ?_
 rintro e Ci ⟨rfl,bb⟩
 have Ao:Below w1.heap.size w1 Ci:=bu bA bb
 clear bA hgo bb hHeld
 refine AA.out _ _ (K.out _ Ao) (fun hHeld=>?_)
 clear AA KK
 refine tx 2 10 ?_
 refine tx 3 11 ?_
 refine tx 4 12 ?_
 refine tx 5 13 ?_
 refine tx 6 14 ?_
 refine tx 7 15 ?_
 refine tx 8 16 ?_
 refine rd 9 rfl (fun KK AA=>?_)
 go_simp
 have hgo:=Ao
 refine(RT.out _ (HN.out (by trivial)) (HE.out.below (bu AP hgo)) (hc1.out.below (bu AP hgo))).mono ?_
 rintro e Ff ⟨rfl,bb⟩
 have BN:Below w1.heap.size w1 Ff:=bu Ao bb
 clear Ao hgo bb hHeld
 refine AA.out _ _ (K.out _ BN) (fun hHeld=>?_)
 clear AA KK
 refine tx 10 18 ?_
 refine tx 11 19 ?_
 refine tx 12 20 ?_
 refine take_at (i:=14) (d:=22) (v:= .agg #[.int .i64 t.k,.int .i64 t.vw,.string t.bn,.int .i64 t.bv,.string t.bs,.slice ao t.bw.length ca,.int .i64 t.pv,.string t.ps,.slice bo t.pw.length cb,.int .i64 t.qv,.string t.qs,.slice co t.qw.length cc,.int .i64 t.wh,.int .i64 t.fr,.int .i64 t.tu,.int .i64 t.am,.int .i64 t.no]) rfl rfl (by kernel_rfl) (by kernel_rfl) (by kernel_rfl) (fun _ _ _ h=>h) ?_ (by assumption) ?_
 ·exact A7 rfl 65 _ rfl rfl _ (fun w h=>h.2.2) Tryz.underlying65 rfl (by kernel_rfl)
 simp only[pU]
 refine rd 13 rfl (fun KK AA=>?_)
 go_simp
 have hgo:=BN
 refine(MO.out _).mono ?_
 rintro e NY ⟨rfl,bb⟩
 have Fe:Below w1.heap.size w1 NY:=bu BN bb
 clear BN hgo bb hHeld
 refine AA.out _ _ (K.out _ Fe) (fun hHeld=>?_)
 clear AA KK
 refine rd 15 rfl (fun KK AA=>?_)
 go_simp
 have hgo:=Fe
 refine(SM.out _ (HE.out.below (bu AP hgo)).pow (Cg _) (Cg _) (hc1.out.below (bu AP hgo)) (ha1.out.below (bu AP hgo)) (hb1.out.below (bu AP hgo)) (hc1.out.below (bu AP hgo))).mono ?_
 rintro e NW ⟨rfl,bb⟩
 have Sq:Below w1.heap.size w1 NW:=bu Fe bb
 clear Fe hgo bb hHeld
 refine AA.out _ _ (K.out _ Sq) (fun hHeld=>?_)
 clear AA KK
 refine tx 16 24 ?_
 refine tx 17 4 ?_
 clear hHeld
 refine Bt ?_
 have bb:=Sq
 have Ju:=bu AP bb
 have XF:=bb.size
 replace LC:=LC.up bb
 replace A:=A.up bb
 clear AP bb Sq K
 go_wp2
 go_ret
 exact⟨by simp,Ju⟩
theorem VX(n f:Int)(t:MT)(ao bo co:Option Addr)(ca cb cc:Nat)(w:World)(hk:t.k=4)(hs:MH t)(hm:MI t)(hE:Env w)(ha:RI w (.slice ao t.bw.length ca) t.bw)(hb:RI w (.slice bo t.pw.length cb) t.pw)(hc:RI w (.slice co t.qw.length cc) t.qw):
 Calls Tryz.prog 114 #[cv n f,Dp t (.slice ao t.bw.length ca) (.slice bo t.pw.length cb) (.slice co t.qw.length cc)] w fun e w'=>e= .returned (.bool (decide (A8 n f)&&(aO t&&Dm (mX t.fr t.tu t.am t.no) t)))∧Below w.heap.size w w':=by
 obtain⟨s1,s2,s3,s4⟩:=hs
 have SA:=hide fun w=>SC t (.slice ao t.bw.length ca) (.slice bo t.pw.length cb) (.slice co t.qw.length cc) w hk
 have CO:=hide fun w=>Cx n f w
 have HN:Hid (decide (A8 n f)=true→IntKind.i64.wrap (n-1)=n-1):=hide fun h=>by rw[IntKind.wrap_i64]<;>(have:=of_decide_eq_true h;unfold A8 at this;omega)
 have RT:=hide fun w=>X4 n f t.fr t.tu t.am t.no w
 have MO:=hide fun w=>Ma t.fr t.tu t.am t.no w
 have SM:=hide fun w hP h1 h2 h3 h4 h5 h6=>GJ (mX t.fr t.tu t.am t.no) t .none .none .none ao bo co 0 0 0 ca cb cc w (MI.nul rfl rfl) hm hP h1 h2 h3 h4 h5 h6
 have HE:=hide hE
 have ha1:=hide ha
 have hb1:=hide hb
 have hc1:=hide hc
 clear hE ha hb hc hm s1 s2 s3 s4 hk
 unfold aO
 generalize Dm (mX t.fr t.tu t.am t.no) t=r2 at *
 generalize decide (BD t.fr t.tu t.am t.no)=r1 at *
 generalize decide (A8 n f)=b1 at *
 obtain⟨w0,hw0,AO,LC,A,DN⟩:=GM w #[.int .i64 n,.int .i64 f] 57 #[.int .i64 t.k,.int .i64 t.vw,.string t.bn,.int .i64 t.bv,.string t.bs,.slice ao t.bw.length ca,.int .i64 t.pv,.string t.ps,.slice bo t.pw.length cb,.int .i64 t.qv,.string t.qs,.slice co t.qw.length cc,.int .i64 t.wh,.int .i64 t.fr,.int .i64 t.tu,.int .i64 t.am,.int .i64 t.no] 65
 go_enter Tryz.func114,Tryz.ntmps114
 go_wp2_with (first|(refine Ap A 65 _ rfl _ rfl rfl Tryz.underlying65 rfl (by kernel_rfl) ?_))
 clear hw0
 refine(SA.out _).mono ?_
 rintro _ w1 ⟨rfl,bb⟩
 have AP:=bu AO bb
 have Ct:=bb.size
 replace LC:=LC.up bb
 replace A:=A.up bb
 clear AO bb SA
 cases b1
 ·have K:=kw (ka (Ia LC 0 1) (kL A))
  go_upto_region 2 with fail
  refine Ey K (fun bA hHeld=>?_)
  refine tx 0 8 ?_
  refine rd 1 rfl (fun KK AA=>?_)
  go_simp
  have hgo:=bA
  refine(CO.out _).mono ?_
  rintro e Ci ⟨rfl,bb⟩
  have Ao:Below w1.heap.size w1 Ci:=bu bA bb
  clear bA hgo bb hHeld
  refine AA.out _ _ (K.out _ Ao) (fun hHeld=>?_)
  clear AA KK
  refine tx 2 10 ?_
  refine sx 3 11 ?_
  refine sx 4 12 ?_
  refine tx 5 13 ?_
  refine tx 6 14 ?_
  refine sx 7 15 ?_
  refine sx 8 16 ?_
  refine sx 9 17 ?_
  refine tx 10 18 ?_
  refine tx 11 19 ?_
  refine sx 12 20 ?_
  refine sx 14 22 ?_
  refine sx 13 21 ?_
  refine sx 15 23 ?_
  refine tx 16 24 ?_
  refine tx 17 4 ?_
  clear hHeld
  refine Bt ?_
  have bb:=Ao
  have Fx:=bu AP bb
  have N9:=bb.size
  replace LC:=LC.up bb
  replace A:=A.up bb
  clear AP bb Ao K
  go_wp2
  go_ret
  exact⟨by simp,Fx⟩
 cases r1
 ·have K:=kw (ka (Ia LC 0 1) (kL A))
  go_upto_region 2 with fail
  refine Ey K (fun bA hHeld=>?_)
  refine tx 0 8 ?_
  refine rd 1 rfl (fun KK AA=>?_)
  go_simp
  have hgo:=bA
  refine(CO.out _).mono ?_
  rintro e Ci ⟨rfl,bb⟩
  have Ao:Below w1.heap.size w1 Ci:=bu bA bb
  clear bA hgo bb hHeld
  refine AA.out _ _ (K.out _ Ao) (fun hHeld=>?_)
  clear AA KK
  refine tx 2 10 ?_
  refine tx 3 11 ?_
  refine tx 4 12 ?_
  refine tx 5 13 ?_
  refine tx 6 14 ?_
  refine tx 7 15 ?_
  refine tx 8 16 ?_
  refine rd 9 rfl (fun KK AA=>?_)
  go_simp
  have hgo:=Ao
  refine(RT.out _).mono ?_
  rintro e Ff ⟨rfl,bb⟩
  have BN:Below w1.heap.size w1 Ff:=bu Ao bb
  clear Ao hgo bb hHeld
  refine AA.out _ _ (K.out _ BN) (fun hHeld=>?_)
  clear AA KK
  refine tx 10 18 ?_
  refine tx 11 19 ?_
  refine sx 12 20 ?_
  refine sx 14 22 ?_
  refine sx 13 21 ?_
  refine sx 15 23 ?_
  refine tx 16 24 ?_
  refine tx 17 4 ?_
  clear hHeld
  refine Bt ?_
  have bb:=BN
  have Jv:=bu AP bb
  have XG:=bb.size
  replace LC:=LC.up bb
  replace A:=A.up bb
  clear AP bb BN K
  go_wp2
  go_ret
  exact⟨by simp,Jv⟩
 have K:=kw (ka (Ia LC 0 1) (kL A))
 go_upto_region 2 with fail
 refine Ey K (fun bA hHeld=>?_)
 refine tx 0 8 ?_
 refine rd 1 rfl (fun KK AA=>?_)
 go_simp
 have hgo:=bA
 refine(CO.out _).mono ?_
 rintro e Ci ⟨rfl,bb⟩
 have Ao:Below w1.heap.size w1 Ci:=bu bA bb
 clear bA hgo bb hHeld
 refine AA.out _ _ (K.out _ Ao) (fun hHeld=>?_)
 clear AA KK
 refine tx 2 10 ?_
 refine tx 3 11 ?_
 refine tx 4 12 ?_
 refine tx 5 13 ?_
 refine tx 6 14 ?_
 refine tx 7 15 ?_
 refine tx 8 16 ?_
 refine rd 9 rfl (fun KK AA=>?_)
 go_simp
 have hgo:=Ao
 refine(RT.out _).mono ?_
 rintro e Ff ⟨rfl,bb⟩
 have BN:Below w1.heap.size w1 Ff:=bu Ao bb
 clear Ao hgo bb hHeld
 refine AA.out _ _ (K.out _ BN) (fun hHeld=>?_)
 clear AA KK
 refine tx 10 18 ?_
 refine tx 11 19 ?_
 refine tx 12 20 ?_
 refine take_at (i:=14) (d:=22) (v:= .agg #[.int .i64 t.k,.int .i64 t.vw,.string t.bn,.int .i64 t.bv,.string t.bs,.slice ao t.bw.length ca,.int .i64 t.pv,.string t.ps,.slice bo t.pw.length cb,.int .i64 t.qv,.string t.qs,.slice co t.qw.length cc,.int .i64 t.wh,.int .i64 t.fr,.int .i64 t.tu,.int .i64 t.am,.int .i64 t.no]) rfl rfl (by kernel_rfl) (by kernel_rfl) (by kernel_rfl) (fun _ _ _ h=>h) ?_ (by assumption) ?_
 ·exact A7 rfl 65 _ rfl rfl _ (fun w h=>h.2.2) Tryz.underlying65 rfl (by kernel_rfl)
 simp only[pU]
 refine rd 13 rfl (fun KK AA=>?_)
 go_simp
 have hgo:=BN
 refine(MO.out _).mono ?_
 rintro e NY ⟨rfl,bb⟩
 have Fe:Below w1.heap.size w1 NY:=bu BN bb
 clear BN hgo bb hHeld
 refine AA.out _ _ (K.out _ Fe) (fun hHeld=>?_)
 clear AA KK
 refine rd 15 rfl (fun KK AA=>?_)
 go_simp
 have hgo:=Fe
 refine(SM.out _ (HE.out.below (bu AP hgo)).pow (Cg _) (Cg _) (Cg _) (ha1.out.below (bu AP hgo)) (hb1.out.below (bu AP hgo)) (hc1.out.below (bu AP hgo))).mono ?_
 rintro e NW ⟨rfl,bb⟩
 have Sq:Below w1.heap.size w1 NW:=bu Fe bb
 clear Fe hgo bb hHeld
 refine AA.out _ _ (K.out _ Sq) (fun hHeld=>?_)
 clear AA KK
 refine tx 16 24 ?_
 refine tx 17 4 ?_
 clear hHeld
 refine Bt ?_
 have bb:=Sq
 have Ju:=bu AP bb
 have XF:=bb.size
 replace LC:=LC.up bb
 replace A:=A.up bb
 clear AP bb Sq K
 go_wp2
 go_ret
 exact⟨by simp,Ju⟩
theorem Vb(n f:Int)(t:MT)(ao bo co:Option Addr)(ca cb cc:Nat)(w:World)(h1:¬t.k=1)(h2:¬t.k=2)(h3:¬t.k=3)(h4:¬t.k=4)(hs:MH t)(hm:MI t)(hE:Env w)(ha:RI w (.slice ao t.bw.length ca) t.bw)(hb:RI w (.slice bo t.pw.length cb) t.pw)(hc:RI w (.slice co t.qw.length cc) t.qw):
 Calls Tryz.prog 114 #[cv n f,Dp t (.slice ao t.bw.length ca) (.slice bo t.pw.length cb) (.slice co t.qw.length cc)] w fun e w'=>e= .returned (.bool (decide (A8 n f)&&false))∧Below w.heap.size w w':=by
 obtain⟨s1,s2,s3,s4⟩:=hs
 have SA:=hide fun w=>SH t (.slice ao t.bw.length ca) (.slice bo t.pw.length cb) (.slice co t.qw.length cc) w h1 h2 h3 h4
 have CO:=hide fun w=>Cx n f w
 have HE:=hide hE
 have ha1:=hide ha
 have hb1:=hide hb
 have hc1:=hide hc
 clear hE ha hb hc hm s1 s2 s3 s4
 generalize decide (A8 n f)=b1 at *
 obtain⟨w0,hw0,AO,LC,A,DN⟩:=GM w #[.int .i64 n,.int .i64 f] 57 #[.int .i64 t.k,.int .i64 t.vw,.string t.bn,.int .i64 t.bv,.string t.bs,.slice ao t.bw.length ca,.int .i64 t.pv,.string t.ps,.slice bo t.pw.length cb,.int .i64 t.qv,.string t.qs,.slice co t.qw.length cc,.int .i64 t.wh,.int .i64 t.fr,.int .i64 t.tu,.int .i64 t.am,.int .i64 t.no] 65
 go_enter Tryz.func114,Tryz.ntmps114
 go_wp2_with (first|(refine Ap A 65 _ rfl _ rfl rfl Tryz.underlying65 rfl (by kernel_rfl) ?_))
 clear hw0
 refine(SA.out _).mono ?_
 rintro _ w1 ⟨rfl,bb⟩
 have AP:=bu AO bb
 have Ct:=bb.size
 replace LC:=LC.up bb
 replace A:=A.up bb
 clear AO bb SA
 cases b1
 ·have K:=kw (ka (Ia LC 0 1) (kL A))
  go_upto_region 2 with fail
  refine Ey K (fun bA hHeld=>?_)
  refine tx 0 8 ?_
  refine rd 1 rfl (fun KK AA=>?_)
  go_simp
  have hgo:=bA
  refine(CO.out _).mono ?_
  rintro e Ci ⟨rfl,bb⟩
  have Ao:Below w1.heap.size w1 Ci:=bu bA bb
  clear bA hgo bb hHeld
  refine AA.out _ _ (K.out _ Ao) (fun hHeld=>?_)
  clear AA KK
  refine tx 2 10 ?_
  refine sx 3 11 ?_
  refine sx 4 12 ?_
  refine tx 5 13 ?_
  refine tx 6 14 ?_
  refine sx 7 15 ?_
  refine sx 8 16 ?_
  refine sx 9 17 ?_
  refine tx 10 18 ?_
  refine tx 11 19 ?_
  refine sx 12 20 ?_
  refine sx 14 22 ?_
  refine sx 13 21 ?_
  refine sx 15 23 ?_
  refine tx 16 24 ?_
  refine tx 17 4 ?_
  clear hHeld
  refine Bt ?_
  have bb:=Ao
  have Fx:=bu AP bb
  have N9:=bb.size
  replace LC:=LC.up bb
  replace A:=A.up bb
  clear AP bb Ao K
  go_wp2
  go_ret
  exact⟨by simp,Fx⟩
 have K:=kw (ka (Ia LC 0 1) (kL A))
 go_upto_region 2 with fail
 refine Ey K (fun bA hHeld=>?_)
 refine tx 0 8 ?_
 refine rd 1 rfl (fun KK AA=>?_)
 go_simp
 have hgo:=bA
 refine(CO.out _).mono ?_
 rintro e Ci ⟨rfl,bb⟩
 have Ao:Below w1.heap.size w1 Ci:=bu bA bb
 clear bA hgo bb hHeld
 refine AA.out _ _ (K.out _ Ao) (fun hHeld=>?_)
 clear AA KK
 refine tx 2 10 ?_
 refine tx 3 11 ?_
 refine tx 4 12 ?_
 refine tx 5 13 ?_
 refine tx 6 14 ?_
 refine sx 7 15 ?_
 refine sx 8 16 ?_
 refine sx 9 17 ?_
 refine tx 10 18 ?_
 refine tx 11 19 ?_
 refine sx 12 20 ?_
 refine sx 14 22 ?_
 refine sx 13 21 ?_
 refine sx 15 23 ?_
 refine tx 16 24 ?_
 refine tx 17 4 ?_
 clear hHeld
 refine Bt ?_
 have bb:=Ao
 have Fx:=bu AP bb
 have N9:=bb.size
 replace LC:=LC.up bb
 replace A:=A.up bb
 clear AP bb Ao K
 go_wp2
 go_ret
 exact⟨by simp,Fx⟩
theorem dZ(n f:Int)(t:MT)(ao bo co:Option Addr)(ca cb cc:Nat)(w:World)(hs:MH t)(hm:MI t)(hE:Env w)(ha:RI w (.slice ao t.bw.length ca) t.bw)(hb:RI w (.slice bo t.pw.length cb) t.pw)(hc:RI w (.slice co t.qw.length cc) t.qw):
 Calls Tryz.prog 114 #[cv n f,Dp t (.slice ao t.bw.length ca) (.slice bo t.pw.length cb) (.slice co t.qw.length cc)] w fun e w'=>e= .returned (.bool (Ry n f t))∧Below w.heap.size w w':=by
 unfold Ry J6
 rcases kinds t.k with h|h|h|h|⟨h1,h2,h3,h4⟩
 ·rw[wD h,wQ h,rX h,Bool.and_comm (Dm _ _)];exact Va n f t ao bo co ca cb cc w h hs hm hE ha hb hc
 ·rw[wC h,wP h,rW h,Bool.and_comm (Dm _ _)];exact VZ n f t ao bo co ca cb cc w h hs hm hE ha hb hc
 ·rw[wB h,wO h,rV h,Bool.and_comm (Dm _ _)];exact VY n f t ao bo co ca cb cc w h hs hm hE ha hb hc
 ·rw[v_ h,wN h,rU h,Bool.and_comm (Dm _ _)];exact VX n f t ao bo co ca cb cc w h hs hm hE ha hb hc
 rw[wF h1 h2 h3 h4,Bool.and_false];exact Vb n f t ao bo co ca cb cc w h1 h2 h3 h4 hs hm hE ha hb hc
end
end Go.Proofs.YtkmnfeihjjccmaaGreatDoor
