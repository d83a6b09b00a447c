/- Lemmas, as stated. -/
import Derived.Test.YtcjmcgolgbkknaaGreatDoorTABA
set_option maxRecDepth 100000
set_option maxHeartbeats 16000000
set_option linter.unusedSectionVars false
namespace Go.Proofs.YtcjmcgolgbkknaaGreatDoor
section
open Go.RowKit
variable [∀(a b c d:Int),Decidable (BG a b c d)] [∀(a b c d:Nat),Decidable (DZ a b c d)] [∀(last:Int)(s:St),Decidable (Aq last s)] [∀(x:T4),Decidable (Du x)] [∀(n:Int)(s:List Int),Decidable (Dv n s)] [∀(n f:Int),Decidable (A_ n f)]
abbrev sB(bn:ByteArray)(bv:Int)(bs:ByteArray)(a:Value):Value:= .agg #[.string bn,.int .i64 bv,.string bs,a]
abbrev sP(v:Int)(s:ByteArray)(a:Value):Value:= .agg #[.int .i64 v,.string s,a]
abbrev sV(v h:Int)(q:Int)(s:ByteArray)(a:Value):Value:= .agg #[.int .i64 v,.int .i64 h,.int .i64 q,.string s,a]
abbrev sX(a b c d:Int):Value:= .agg #[.int .i64 a,.int .i64 b,.int .i64 c,.int .i64 d]
def mB(bn:ByteArray)(bv:Int)(bs:ByteArray)(bw:List Int):MT:=⟨1,0,bn,bv,bs,bw,0,⟨#[]⟩,[],0,⟨#[]⟩,[],0,0,0,0,0⟩
def mP(v:Int)(s:ByteArray)(xs:List Int):MT:=⟨2,0,⟨#[]⟩,0,⟨#[]⟩,[],v,s,xs,0,⟨#[]⟩,[],0,0,0,0,0⟩
def mV(v h q:Int)(s:ByteArray)(xs:List Int):MT:=⟨3,v,⟨#[]⟩,0,⟨#[]⟩,[],0,⟨#[]⟩,[],q,s,xs,h,0,0,0,0⟩
def mX(a b c d:Int):MT:=⟨4,0,⟨#[]⟩,0,⟨#[]⟩,[],0,⟨#[]⟩,[],0,⟨#[]⟩,[],0,a,b,c,d⟩
theorem rJ{t:MT}(h:t.k=1):bg t=mB t.bn t.bv t.bs t.bw:=by unfold bg mB;rw[h]
theorem rH{t:MT}(h:t.k=2):bf t=mP t.pv t.ps t.pw:=by unfold bf mP;rw[h]
theorem rG{t:MT}(h:t.k=3):bV t=mV t.vw t.wh t.qv t.qs t.qw:=by unfold bV mV;rw[h]
theorem rF{t:MT}(h:t.k=4):bT t=mX t.fr t.tu t.am t.no:=by unfold bT mX;rw[h]
abbrev IZ:Value:= .slice none 0 0
theorem zo(v:Value)(w:World):(Instr.typeAssert (.iface 264 v) 219 264 true).run Tryz.prog w= .ok (.tuple #[v,.bool true]) w:=by kernel_rfl
theorem zn(v:Value)(w:World):(Instr.typeAssert (.iface 265 v) 219 264 true).run Tryz.prog w= .ok (.tuple #[.agg #[.string ⟨#[]⟩,.int .i64 0,.string ⟨#[]⟩,.slice none 0 0],.bool false]) w:=by kernel_rfl
theorem zm(v:Value)(w:World):(Instr.typeAssert (.iface 265 v) 219 265 true).run Tryz.prog w= .ok (.tuple #[v,.bool true]) w:=by kernel_rfl
theorem zk(v:Value)(w:World):(Instr.typeAssert (.iface 267 v) 219 264 true).run Tryz.prog w= .ok (.tuple #[.agg #[.string ⟨#[]⟩,.int .i64 0,.string ⟨#[]⟩,.slice none 0 0],.bool false]) w:=by kernel_rfl
theorem zi(v:Value)(w:World):(Instr.typeAssert (.iface 267 v) 219 265 true).run Tryz.prog w= .ok (.tuple #[.agg #[.int .i64 0,.string ⟨#[]⟩,.slice none 0 0],.bool false]) w:=by kernel_rfl
theorem zh(v:Value)(w:World):(Instr.typeAssert (.iface 267 v) 219 267 true).run Tryz.prog w= .ok (.tuple #[v,.bool true]) w:=by kernel_rfl
theorem zg(v:Value)(w:World):(Instr.typeAssert (.iface 268 v) 219 264 true).run Tryz.prog w= .ok (.tuple #[.agg #[.string ⟨#[]⟩,.int .i64 0,.string ⟨#[]⟩,.slice none 0 0],.bool false]) w:=by kernel_rfl
theorem ze(v:Value)(w:World):(Instr.typeAssert (.iface 268 v) 219 265 true).run Tryz.prog w= .ok (.tuple #[.agg #[.int .i64 0,.string ⟨#[]⟩,.slice none 0 0],.bool false]) w:=by kernel_rfl
theorem zZ(v:Value)(w:World):(Instr.typeAssert (.iface 268 v) 219 267 true).run Tryz.prog w= .ok (.tuple #[.agg #[.int .i64 0,.int .i64 0,.int .i64 0,.string ⟨#[]⟩,.slice none 0 0],.bool false]) w:=by kernel_rfl
theorem zY(v:Value)(w:World):(Instr.typeAssert (.iface 268 v) 219 268 true).run Tryz.prog w= .ok (.tuple #[v,.bool true]) w:=by kernel_rfl
theorem SY(t:MT)(a b c:Value)(w:World)(hk:t.k=1):
 Calls Tryz.prog 184 #[Dw t a b c] w fun e w'=>e= .returned (.iface 264 (sB t.bn t.bv t.bs a))∧Below w.heap.size w w':=by
 have dk1:decide (t.k=1)=true:=by simpa using hk
 have ZY:(t.k==1)=true:=by simpa using hk
 clear hk;obtain⟨w0,hw0,AO,A,DC⟩:=bx1 w #[.int .i64 t.k,.int .i64 t.vw,.string t.bn,.int .i64 t.bv,.string t.bs,a,.int .i64 t.pv,.string t.ps,b,.int .i64 t.qv,.string t.qs,c,.int .i64 t.wh,.int .i64 t.fr,.int .i64 t.tu,.int .i64 t.am,.int .i64 t.no] 75;go_enter Tryz.func184,Tryz.ntmps184
 obtain⟨Bi,Da,Em,FL,GD⟩:=Za A 0 2 3 4 5;go_wp2;clear hw0;go_ret;exact⟨rfl,AO⟩
theorem SV(t:MT)(a b c:Value)(w:World)(hk:t.k=2):
 Calls Tryz.prog 184 #[Dw t a b c] w fun e w'=>e= .returned (.iface 265 (sP t.pv t.ps b))∧Below w.heap.size w w':=by
 have dk1:decide (t.k=1)=false:=by simp;omega
 have ZY:(t.k==1)=false:=by simp;omega
 have dk2:decide (t.k=2)=true:=by simpa using hk
 have jR:(t.k==2)=true:=by simpa using hk
 clear hk;obtain⟨w0,hw0,AO,A,DC⟩:=bx1 w #[.int .i64 t.k,.int .i64 t.vw,.string t.bn,.int .i64 t.bv,.string t.bs,a,.int .i64 t.pv,.string t.ps,b,.int .i64 t.qv,.string t.qs,c,.int .i64 t.wh,.int .i64 t.fr,.int .i64 t.tu,.int .i64 t.am,.int .i64 t.no] 75;go_enter Tryz.func184,Tryz.ntmps184
 obtain⟨Bi,Gq,Ga,Gp⟩:=WT A 0 6 7 8;go_wp2;clear hw0;go_ret;exact⟨rfl,AO⟩
theorem SS(t:MT)(a b c:Value)(w:World)(hk:t.k=3):
 Calls Tryz.prog 184 #[Dw t a b c] w fun e w'=>e= .returned (.iface 267 (sV t.vw t.wh t.qv t.qs c))∧Below w.heap.size w w':=by
 have dk1:decide (t.k=1)=false:=by simp;omega
 have ZY:(t.k==1)=false:=by simp;omega
 have dk2:decide (t.k=2)=false:=by simp;omega
 have jR:(t.k==2)=false:=by simp;omega
 have dk3:decide (t.k=3)=true:=by simpa using hk
 have pq:(t.k==3)=true:=by simpa using hk
 clear hk;obtain⟨w0,hw0,AO,A,DC⟩:=bx1 w #[.int .i64 t.k,.int .i64 t.vw,.string t.bn,.int .i64 t.bv,.string t.bs,a,.int .i64 t.pv,.string t.ps,b,.int .i64 t.qv,.string t.qs,c,.int .i64 t.wh,.int .i64 t.fr,.int .i64 t.tu,.int .i64 t.am,.int .i64 t.no] 75;go_enter Tryz.func184,Tryz.ntmps184
 obtain⟨Bi,Db,Fp,CG,Cm,C9⟩:=QQ A 0 1 9 10 11 12;go_wp2;clear hw0;go_ret;exact⟨rfl,AO⟩
theorem SQ(t:MT)(a b c:Value)(w:World)(hk:t.k=4):
 Calls Tryz.prog 184 #[Dw t a b c] w fun e w'=>e= .returned (.iface 268 (sX t.fr t.tu t.am t.no))∧Below w.heap.size w w':=by
 have dk1:decide (t.k=1)=false:=by simp;omega
 have ZY:(t.k==1)=false:=by simp;omega
 have dk2:decide (t.k=2)=false:=by simp;omega
 have jR:(t.k==2)=false:=by simp;omega
 have dk3:decide (t.k=3)=false:=by simp;omega
 have pq:(t.k==3)=false:=by simp;omega
 have xE:decide (t.k=4)=true:=by simpa using hk
 have xB:(t.k==4)=true:=by simpa using hk
 clear hk;obtain⟨w0,hw0,AO,A,DC⟩:=bx1 w #[.int .i64 t.k,.int .i64 t.vw,.string t.bn,.int .i64 t.bv,.string t.bs,a,.int .i64 t.pv,.string t.ps,b,.int .i64 t.qv,.string t.qs,c,.int .i64 t.wh,.int .i64 t.fr,.int .i64 t.tu,.int .i64 t.am,.int .i64 t.no] 75;go_enter Tryz.func184,Tryz.ntmps184
 obtain⟨Bi,BV,DR,DN,DL⟩:=Za A 0 13 14 15 16;go_wp2;clear hw0;go_ret;exact⟨rfl,AO⟩
theorem Sa(t:MT)(a b c:Value)(w:World)(h1:¬t.k=1)(h2:¬t.k=2)(h3:¬t.k=3)(h4:¬t.k=4):
 Calls Tryz.prog 184 #[Dw t a b c] w fun e w'=>e= .returned (.nilIface)∧Below w.heap.size w w':=by
 have dk1:decide (t.k=1)=false:=by simp;omega
 have ZY:(t.k==1)=false:=by simp;omega
 have dk2:decide (t.k=2)=false:=by simp;omega
 have jR:(t.k==2)=false:=by simp;omega
 have dk3:decide (t.k=3)=false:=by simp;omega
 have pq:(t.k==3)=false:=by simp;omega
 have xE:decide (t.k=4)=false:=by simp;omega
 have xB:(t.k==4)=false:=by simp;omega
 obtain⟨w0,hw0,AO,A,DC⟩:=bx1 w #[.int .i64 t.k,.int .i64 t.vw,.string t.bn,.int .i64 t.bv,.string t.bs,a,.int .i64 t.pv,.string t.ps,b,.int .i64 t.qv,.string t.qs,c,.int .i64 t.wh,.int .i64 t.fr,.int .i64 t.tu,.int .i64 t.am,.int .i64 t.no] 75;go_enter Tryz.func184,Tryz.ntmps184
 have Bi:=A.cell 0 rfl;go_wp2;clear hw0;go_ret;exact⟨rfl,AO⟩
theorem Mg(bn:ByteArray)(bv:Int)(bs:ByteArray)(xs:List Int)(u:Value)(hu:∃uo un uc,u= .slice uo un uc)(w:World):
 Calls Tryz.prog 186 #[.iface 264 (sB bn bv bs u)] w fun e w'=>e= .returned (Dw (mB bn bv bs xs) u IZ IZ)∧Below w.heap.size w w':=by
 have zt:=zo;obtain⟨uo,un,uc,rfl⟩:∃uo un uc,u= .slice uo un uc:=hu;obtain⟨w0,hw0,AO,R,DC⟩:=bx1 w #[.int .i64 0,.int .i64 0,.string ⟨#[]⟩,.int .i64 0,.string ⟨#[]⟩,.slice none 0 0,.int .i64 0,.string ⟨#[]⟩,.slice none 0 0,.int .i64 0,.string ⟨#[]⟩,.slice none 0 0,.int .i64 0,.int .i64 0,.int .i64 0,.int .i64 0,.int .i64 0] 75;go_enter Tryz.func186,Tryz.ntmps186
 go_upto_region 4 with(refine BH (AJ w0 #[.string ⟨#[]⟩,.int .i64 0,.string ⟨#[]⟩,.slice none 0 0] 264 rfl) 264 #[.string bn,.int .i64 bv,.string bs,.slice uo un uc] rfl _ _ rfl rfl rfl (by kernel_rfl) rfl (by simp[Value.oneCell']) ?_)
 clear hw0;obtain⟨w1,hw1⟩:∃y,(w0.alloc (.cells #[.string ⟨#[]⟩,.int .i64 0,.string ⟨#[]⟩,.slice none 0 0] 264)).setRow w0.heap.size #[.string bn,.int .i64 bv,.string bs,.slice uo un uc]=y:=⟨_,rfl⟩
 rw[hw1];have bb:Below w0.heap.size w0 w1:=hw1▸DW _ _ _ _;have X:Loc w1 w0.heap.size #[.string bn,.int .i64 bv,.string bs,.slice uo un uc]:=hw1▸E_ _ _ _ _;have oh:w1.heap.size=w0.heap.size+1:=by rw[←hw1];exact Eg _ _ _ _
 clear hw1;have AZ:=bu AO bb;have Cx:=bb.size;replace R:=R.up bb;clear AO bb;go_wp2_with (first|(refine Ap X 264 _ rfl _ rfl rfl Tryz.underlying264 rfl (by kernel_rfl) ?_)|(refine BH R 75 #[.int .i64 1,.int .i64 0,.string bn,.int .i64 bv,.string bs,.slice uo un uc,.int .i64 0,.string ⟨#[]⟩,.slice none 0 0,.int .i64 0,.string ⟨#[]⟩,.slice none 0 0,.int .i64 0,.int .i64 0,.int .i64 0,.int .i64 0,.int .i64 0] rfl _ _ rfl rfl rfl (by kernel_rfl) rfl (by simp[Value.oneCell']) ?_))
 obtain⟨wE,Bf⟩:∃Ck,w1.setRow (w.heap.size) #[.int .i64 1,.int .i64 0,.string bn,.int .i64 bv,.string bs,.slice uo un uc,.int .i64 0,.string ⟨#[]⟩,.slice none 0 0,.int .i64 0,.string ⟨#[]⟩,.slice none 0 0,.int .i64 0,.int .i64 0,.int .i64 0,.int .i64 0,.int .i64 0]=Ck:=⟨_,rfl⟩
 have kN:Kp w1 wE (fun k=>k=w.heap.size):=Bf▸Bu _ _ _;replace R:Loc wE (w.heap.size) #[.int .i64 1,.int .i64 0,.string bn,.int .i64 bv,.string bs,.slice uo un uc,.int .i64 0,.string ⟨#[]⟩,.slice none 0 0,.int .i64 0,.string ⟨#[]⟩,.slice none 0 0,.int .i64 0,.int .i64 0,.int .i64 0,.int .i64 0,.int .i64 0]:=Bf▸R.row;replace X:=X.kp kN (by omega);have Fh:=Below.kp AZ kN AZ.size (fun k hk=>by omega);have Pp:=kN.size;rw[Bf];clear Bf kN AZ;refine bodyPost_ret (v:=Dw (mB bn bv bs xs) (.slice uo un uc) IZ IZ) (Ch Tryz.results186 _ R rfl Tryz.underlying75 rfl (by kernel_rfl)) rfl ?_;exact⟨rfl,Fh⟩
theorem Mf(v:Int)(s:ByteArray)(xs:List Int)(u:Value)(hu:∃uo un uc,u= .slice uo un uc)(w:World):
 Calls Tryz.prog 186 #[.iface 265 (sP v s u)] w fun e w'=>e= .returned (Dw (mP v s xs) IZ u IZ)∧Below w.heap.size w w':=by
 have zt:=zn;have ta2:=zm;obtain⟨uo,un,uc,rfl⟩:∃uo un uc,u= .slice uo un uc:=hu;obtain⟨w0,hw0,AO,R,DC⟩:=bx1 w #[.int .i64 0,.int .i64 0,.string ⟨#[]⟩,.int .i64 0,.string ⟨#[]⟩,.slice none 0 0,.int .i64 0,.string ⟨#[]⟩,.slice none 0 0,.int .i64 0,.string ⟨#[]⟩,.slice none 0 0,.int .i64 0,.int .i64 0,.int .i64 0,.int .i64 0,.int .i64 0] 75;go_enter Tryz.func186,Tryz.ntmps186
 go_upto_region 7 with(refine BH (AJ w0 #[.int .i64 0,.string ⟨#[]⟩,.slice none 0 0] 265 rfl) 265 #[.int .i64 v,.string s,.slice uo un uc] rfl _ _ rfl rfl rfl (by kernel_rfl) rfl (by simp[Value.oneCell']) ?_)
 clear hw0;obtain⟨w1,hw1⟩:∃y,(w0.alloc (.cells #[.int .i64 0,.string ⟨#[]⟩,.slice none 0 0] 265)).setRow w0.heap.size #[.int .i64 v,.string s,.slice uo un uc]=y:=⟨_,rfl⟩
 rw[hw1];have bb:Below w0.heap.size w0 w1:=hw1▸DW _ _ _ _;have X:Loc w1 w0.heap.size #[.int .i64 v,.string s,.slice uo un uc]:=hw1▸E_ _ _ _ _;have oh:w1.heap.size=w0.heap.size+1:=by rw[←hw1];exact Eg _ _ _ _
 clear hw1;have AZ:=bu AO bb;have Cx:=bb.size;replace R:=R.up bb;clear AO bb;go_wp2_with (first|(refine Ap X 265 _ rfl _ rfl rfl Tryz.underlying265 rfl (by kernel_rfl) ?_)|(refine BH R 75 #[.int .i64 2,.int .i64 0,.string ⟨#[]⟩,.int .i64 0,.string ⟨#[]⟩,.slice none 0 0,.int .i64 v,.string s,.slice uo un uc,.int .i64 0,.string ⟨#[]⟩,.slice none 0 0,.int .i64 0,.int .i64 0,.int .i64 0,.int .i64 0,.int .i64 0] rfl _ _ rfl rfl rfl (by kernel_rfl) rfl (by simp[Value.oneCell']) ?_))
 obtain⟨wE,Bf⟩:∃Ck,w1.setRow (w.heap.size) #[.int .i64 2,.int .i64 0,.string ⟨#[]⟩,.int .i64 0,.string ⟨#[]⟩,.slice none 0 0,.int .i64 v,.string s,.slice uo un uc,.int .i64 0,.string ⟨#[]⟩,.slice none 0 0,.int .i64 0,.int .i64 0,.int .i64 0,.int .i64 0,.int .i64 0]=Ck:=⟨_,rfl⟩
 have kN:Kp w1 wE (fun k=>k=w.heap.size):=Bf▸Bu _ _ _;replace R:Loc wE (w.heap.size) #[.int .i64 2,.int .i64 0,.string ⟨#[]⟩,.int .i64 0,.string ⟨#[]⟩,.slice none 0 0,.int .i64 v,.string s,.slice uo un uc,.int .i64 0,.string ⟨#[]⟩,.slice none 0 0,.int .i64 0,.int .i64 0,.int .i64 0,.int .i64 0,.int .i64 0]:=Bf▸R.row;replace X:=X.kp kN (by omega);have Fh:=Below.kp AZ kN AZ.size (fun k hk=>by omega);have Pp:=kN.size;rw[Bf];clear Bf kN AZ;refine bodyPost_ret (v:=Dw (mP v s xs) IZ (.slice uo un uc) IZ) (Ch Tryz.results186 _ R rfl Tryz.underlying75 rfl (by kernel_rfl)) rfl ?_;exact⟨rfl,Fh⟩
theorem Me(v h q:Int)(s:ByteArray)(xs:List Int)(u:Value)(hu:∃uo un uc,u= .slice uo un uc)(w:World):
 Calls Tryz.prog 186 #[.iface 267 (sV v h q s u)] w fun e w'=>e= .returned (Dw (mV v h q s xs) IZ IZ u)∧Below w.heap.size w w':=by
 have zt:=zk;have ta2:=zi;have ta3:=zh;obtain⟨uo,un,uc,rfl⟩:∃uo un uc,u= .slice uo un uc:=hu;obtain⟨w0,hw0,AO,R,DC⟩:=bx1 w #[.int .i64 0,.int .i64 0,.string ⟨#[]⟩,.int .i64 0,.string ⟨#[]⟩,.slice none 0 0,.int .i64 0,.string ⟨#[]⟩,.slice none 0 0,.int .i64 0,.string ⟨#[]⟩,.slice none 0 0,.int .i64 0,.int .i64 0,.int .i64 0,.int .i64 0,.int .i64 0] 75;go_enter Tryz.func186,Tryz.ntmps186
 go_upto_region 10 with(refine BH (AJ w0 #[.int .i64 0,.int .i64 0,.int .i64 0,.string ⟨#[]⟩,.slice none 0 0] 267 rfl) 267 #[.int .i64 v,.int .i64 h,.int .i64 q,.string s,.slice uo un uc] rfl _ _ rfl rfl rfl (by kernel_rfl) rfl (by simp[Value.oneCell']) ?_)
 clear hw0;obtain⟨w1,hw1⟩:∃y,(w0.alloc (.cells #[.int .i64 0,.int .i64 0,.int .i64 0,.string ⟨#[]⟩,.slice none 0 0] 267)).setRow w0.heap.size #[.int .i64 v,.int .i64 h,.int .i64 q,.string s,.slice uo un uc]=y:=⟨_,rfl⟩
 rw[hw1];have bb:Below w0.heap.size w0 w1:=hw1▸DW _ _ _ _;have X:Loc w1 w0.heap.size #[.int .i64 v,.int .i64 h,.int .i64 q,.string s,.slice uo un uc]:=hw1▸E_ _ _ _ _;have oh:w1.heap.size=w0.heap.size+1:=by rw[←hw1];exact Eg _ _ _ _
 clear hw1;have AZ:=bu AO bb;have Cx:=bb.size;replace R:=R.up bb;clear AO bb;obtain⟨cX0,cX1,cX2,cX3,cX4⟩:=Za X 0 1 2 3 4;go_wp2_with (first|(refine BH R 75 #[.int .i64 3,.int .i64 v,.string ⟨#[]⟩,.int .i64 0,.string ⟨#[]⟩,.slice none 0 0,.int .i64 0,.string ⟨#[]⟩,.slice none 0 0,.int .i64 q,.string s,.slice uo un uc,.int .i64 h,.int .i64 0,.int .i64 0,.int .i64 0,.int .i64 0] rfl _ _ rfl rfl rfl (by kernel_rfl) rfl (by simp[Value.oneCell']) ?_))
 clear cX0 cX1 cX2 cX3 cX4;obtain⟨wE,Bf⟩:∃Ck,w1.setRow (w.heap.size) #[.int .i64 3,.int .i64 v,.string ⟨#[]⟩,.int .i64 0,.string ⟨#[]⟩,.slice none 0 0,.int .i64 0,.string ⟨#[]⟩,.slice none 0 0,.int .i64 q,.string s,.slice uo un uc,.int .i64 h,.int .i64 0,.int .i64 0,.int .i64 0,.int .i64 0]=Ck:=⟨_,rfl⟩
 have kN:Kp w1 wE (fun k=>k=w.heap.size):=Bf▸Bu _ _ _;replace R:Loc wE (w.heap.size) #[.int .i64 3,.int .i64 v,.string ⟨#[]⟩,.int .i64 0,.string ⟨#[]⟩,.slice none 0 0,.int .i64 0,.string ⟨#[]⟩,.slice none 0 0,.int .i64 q,.string s,.slice uo un uc,.int .i64 h,.int .i64 0,.int .i64 0,.int .i64 0,.int .i64 0]:=Bf▸R.row;replace X:=X.kp kN (by omega);have Fh:=Below.kp AZ kN AZ.size (fun k hk=>by omega);have Pp:=kN.size;rw[Bf];clear Bf kN AZ;refine bodyPost_ret (v:=Dw (mV v h q s xs) IZ IZ (.slice uo un uc)) (Ch Tryz.results186 _ R rfl Tryz.underlying75 rfl (by kernel_rfl)) rfl ?_;exact⟨rfl,Fh⟩
theorem Md(a b c d:Int)(w:World):
 Calls Tryz.prog 186 #[.iface 268 (sX a b c d)] w fun e w'=>e= .returned (Dw (mX a b c d) IZ IZ IZ)∧Below w.heap.size w w':=by
 have zt:=zg;have ta2:=ze;have ta3:=zZ;have ta4:=zY;obtain⟨w0,hw0,AO,R,DC⟩:=bx1 w #[.int .i64 0,.int .i64 0,.string ⟨#[]⟩,.int .i64 0,.string ⟨#[]⟩,.slice none 0 0,.int .i64 0,.string ⟨#[]⟩,.slice none 0 0,.int .i64 0,.string ⟨#[]⟩,.slice none 0 0,.int .i64 0,.int .i64 0,.int .i64 0,.int .i64 0,.int .i64 0] 75;go_enter Tryz.func186,Tryz.ntmps186
 go_upto_region 13 with(refine BH (AJ w0 #[.int .i64 0,.int .i64 0,.int .i64 0,.int .i64 0] 268 rfl) 268 #[.int .i64 a,.int .i64 b,.int .i64 c,.int .i64 d] rfl _ _ rfl rfl rfl (by kernel_rfl) rfl (by simp[Value.oneCell']) ?_)
 clear hw0;obtain⟨w1,hw1⟩:∃y,(w0.alloc (.cells #[.int .i64 0,.int .i64 0,.int .i64 0,.int .i64 0] 268)).setRow w0.heap.size #[.int .i64 a,.int .i64 b,.int .i64 c,.int .i64 d]=y:=⟨_,rfl⟩
 rw[hw1];have bb:Below w0.heap.size w0 w1:=hw1▸DW _ _ _ _;have X:Loc w1 w0.heap.size #[.int .i64 a,.int .i64 b,.int .i64 c,.int .i64 d]:=hw1▸E_ _ _ _ _;have oh:w1.heap.size=w0.heap.size+1:=by rw[←hw1];exact Eg _ _ _ _
 clear hw1;have AZ:=bu AO bb;have Cx:=bb.size;replace R:=R.up bb;clear AO bb;go_wp2_with (first|(refine Ap X 268 _ rfl _ rfl rfl Tryz.underlying268 rfl (by kernel_rfl) ?_)|(refine BH R 75 #[.int .i64 4,.int .i64 0,.string ⟨#[]⟩,.int .i64 0,.string ⟨#[]⟩,.slice none 0 0,.int .i64 0,.string ⟨#[]⟩,.slice none 0 0,.int .i64 0,.string ⟨#[]⟩,.slice none 0 0,.int .i64 0,.int .i64 a,.int .i64 b,.int .i64 c,.int .i64 d] rfl _ _ rfl rfl rfl (by kernel_rfl) rfl (by simp[Value.oneCell']) ?_))
 obtain⟨wE,Bf⟩:∃Ck,w1.setRow (w.heap.size) #[.int .i64 4,.int .i64 0,.string ⟨#[]⟩,.int .i64 0,.string ⟨#[]⟩,.slice none 0 0,.int .i64 0,.string ⟨#[]⟩,.slice none 0 0,.int .i64 0,.string ⟨#[]⟩,.slice none 0 0,.int .i64 0,.int .i64 a,.int .i64 b,.int .i64 c,.int .i64 d]=Ck:=⟨_,rfl⟩
 have kN:Kp w1 wE (fun k=>k=w.heap.size):=Bf▸Bu _ _ _;replace R:Loc wE (w.heap.size) #[.int .i64 4,.int .i64 0,.string ⟨#[]⟩,.int .i64 0,.string ⟨#[]⟩,.slice none 0 0,.int .i64 0,.string ⟨#[]⟩,.slice none 0 0,.int .i64 0,.string ⟨#[]⟩,.slice none 0 0,.int .i64 0,.int .i64 a,.int .i64 b,.int .i64 c,.int .i64 d]:=Bf▸R.row;replace X:=X.kp kN (by omega);have Fh:=Below.kp AZ kN AZ.size (fun k hk=>by omega);have Pp:=kN.size;rw[Bf];clear Bf kN AZ;refine bodyPost_ret (v:=Dw (mX a b c d) IZ IZ IZ) (Ch Tryz.results186 _ R rfl Tryz.underlying75 rfl (by kernel_rfl)) rfl ?_;exact⟨rfl,Fh⟩
theorem X8(n f:Int)(bn:ByteArray)(bv:Int)(bs:ByteArray)(ao:Option Addr)(ca:Nat)(xs:List Int)(w:World)(h1:bn.size≤33554432)(h2:bs.size≤33554432)(hE:Env w)(ha:RI w (.slice ao xs.length ca) xs):
 Calls Tryz.prog 352 #[sB bn bv bs (.slice ao xs.length ca),cv n f] w fun e w'=>e= .returned (.bool (WB n f bn bv bs xs))∧Below w.heap.size w w':=by
 have BO:=hide fun w hE h=>Vi n f bn bv bs ao ca xs w h1 h2 hE h;have HE:=hide hE;have HA:=hide ha;clear hE ha h1 h2;obtain⟨w0,hw0,AO,A,LC,DC⟩:=Gb w #[.string bn,.int .i64 bv,.string bs,.slice ao xs.length ca] 264 #[.int .i64 n,.int .i64 f] 48;go_enter Tryz.func352,Tryz.ntmps352
 obtain⟨Bi,Db,Da,Em⟩:=WT A 0 1 2 3;obtain⟨Ae,Ai⟩:=Cn LC 0 1;go_wp2_with fail
 clear hw0;refine(BO.out _ (HE.out.below AO) (HA.out.below AO)).mono ?_;rintro _ w1 ⟨rfl,bb⟩;clear Bi Db Da Em Ae Ai;have AZ:=bu AO bb;have Cx:=bb.size;replace A:=A.up bb;replace LC:=LC.up bb;clear AO bb;go_wp2;go_ret;exact⟨rfl,AZ⟩
theorem X7(n f v:Int)(s:ByteArray)(ao:Option Addr)(ca:Nat)(xs:List Int)(w:World)(h1:s.size≤33554432)(hE:Env w)(ha:RI w (.slice ao xs.length ca) xs):
 Calls Tryz.prog 361 #[sP v s (.slice ao xs.length ca),cv n f] w fun e w'=>e= .returned (.bool (DY n f v s xs&&!(s.toList==[])))∧Below w.heap.size w w':=by
 have PO:=hide fun w hE h=>PE n f v s (.slice ao xs.length ca) xs w h1 hE h;have HE:=hide hE;have HA:=hide ha;clear hE ha h1;generalize DY n f v s xs=r at *;obtain⟨z,hz⟩:∃z,(s.toList==[])=z:=⟨_,rfl⟩
 rw[hz];obtain⟨w0,hw0,AO,A,LC,DC⟩:=Gb w #[.int .i64 v,.string s,.slice ao xs.length ca] 265 #[.int .i64 n,.int .i64 f] 48;go_enter Tryz.func361,Tryz.ntmps361
 cases z
 ·obtain⟨Bi,Db,Da⟩:=B_ A 0 1 2;obtain⟨Ae,Ai⟩:=Cn LC 0 1;go_wp2_with fail
  clear hw0;refine(PO.out _ (HE.out.below AO) (HA.out.below AO)).mono ?_;rintro _ w1 ⟨rfl,bb⟩;clear Bi Db Da Ae Ai;have AZ:=bu AO bb;have Cx:=bb.size;replace A:=A.up bb;replace LC:=LC.up bb;clear AO bb;go_wp2;go_ret;exact⟨by simp,AZ⟩
 obtain⟨Bi,Db,Da⟩:=B_ A 0 1 2;obtain⟨Ae,Ai⟩:=Cn LC 0 1;go_wp2;clear hw0;go_ret;exact⟨by simp,AO⟩
theorem X6(n f v h q:Int)(s:ByteArray)(ao:Option Addr)(ca:Nat)(xs:List Int)(w:World)(hn:IntKind.i64.wrap (n-1)=n-1)(h1:s.size≤33554432)(hE:Env w)(ha:RI w (.slice ao xs.length ca) xs):
 Calls Tryz.prog 363 #[sV v h q s (.slice ao xs.length ca),cv n f] w fun e w'=>e= .returned (.bool (decide (1≤v∧v≤60)&&(Gi n f q s xs&&decide (0≤h∧h≤n-1))))∧Below w.heap.size w w':=by
 have QO:=hide fun w hE h=>O_ n f q s ao ca xs w h1 hE h;have HE:=hide hE;have HA:=hide ha;have i1:=hide fun w=>De v 1 60 w;have i2:=hide fun w=>De h 0 (n-1) w;clear hE ha h1;generalize decide (1≤v∧v≤60)=r1 at *;generalize decide (0≤h∧h≤n-1)=r3 at *;generalize Gi n f q s xs=r2 at *;obtain⟨w0,hw0,AO,A,LC,DC⟩:=Gb w #[.int .i64 v,.int .i64 h,.int .i64 q,.string s,.slice ao xs.length ca] 267 #[.int .i64 n,.int .i64 f] 48;go_enter Tryz.func363,Tryz.ntmps363
 obtain⟨Bi,Db,Da,Em,FL⟩:=Za A 0 1 2 3 4;obtain⟨Ae,Ai⟩:=Cn LC 0 1;go_wp2_with fail
 clear hw0;refine(i1.out _).mono ?_;rintro _ w1 ⟨rfl,bb⟩;clear Bi Db Da Em FL Ae Ai;have AZ:=bu AO bb;have Cx:=bb.size;replace A:=A.up bb;replace LC:=LC.up bb;clear AO bb;cases r1
 ·obtain⟨Bi,Db,Da,Em,FL⟩:=Za A 0 1 2 3 4;obtain⟨Ae,Ai⟩:=Cn LC 0 1;go_wp2;go_ret;exact⟨by simp,AZ⟩
 obtain⟨Bi,Db,Da,Em,FL⟩:=Za A 0 1 2 3 4;obtain⟨Ae,Ai⟩:=Cn LC 0 1;go_wp2_with fail
 refine(i2.out _).mono ?_;rintro _ w2 ⟨rfl,bb⟩;clear Bi Db Da Em FL Ae Ai;have Ao:=bu AZ bb;have Ex:=bb.size;replace A:=A.up bb;replace LC:=LC.up bb;clear AZ bb;cases r3
 ·obtain⟨Bi,Db,Da,Em,FL⟩:=Za A 0 1 2 3 4;obtain⟨Ae,Ai⟩:=Cn LC 0 1;go_wp2;go_ret;exact⟨by simp,Ao⟩
 obtain⟨Bi,Db,Da,Em,FL⟩:=Za A 0 1 2 3 4;obtain⟨Ae,Ai⟩:=Cn LC 0 1;go_wp2_with fail
 refine(QO.out _ (HE.out.below Ao) (HA.out.below Ao)).mono ?_;rintro _ w3 ⟨rfl,bb⟩;clear Bi Db Da Em FL Ae Ai;have BK:=bu Ao bb;have IW:=bb.size;replace A:=A.up bb;replace LC:=LC.up bb;clear Ao bb;go_wp2;go_ret;exact⟨by simp,BK⟩
theorem X5(n f a b c d:Int)(w:World):
 Calls Tryz.prog 365 #[sX a b c d,cv n f] w fun e w'=>e= .returned (.bool (decide (BG a b c d)))∧Below w.heap.size w w':=by
 have TO:=hide fun w=>VX a b c d w;generalize decide (BG a b c d)=r at *;obtain⟨w0,hw0,AO,A,LC,DC⟩:=Gb w #[.int .i64 a,.int .i64 b,.int .i64 c,.int .i64 d] 268 #[.int .i64 n,.int .i64 f] 48;go_enter Tryz.func365,Tryz.ntmps365
 obtain⟨Bi,Db,Da,Em⟩:=WT A 0 1 2 3;go_wp2_with fail
 clear hw0;refine(TO.out _).mono ?_;rintro _ w1 ⟨rfl,bb⟩;clear Bi Db Da Em;have AZ:=bu AO bb;have Cx:=bb.size;replace A:=A.up bb;replace LC:=LC.up bb;clear AO bb;go_wp2;go_ret;exact⟨rfl,AZ⟩
end
end Go.Proofs.YtcjmcgolgbkknaaGreatDoor
