/- Lemmas; their conditions stand in each statement. -/
import Derived.Test.YtcjmcgolgbkknaaGreatDoorWRBA
set_option maxRecDepth 100000
set_option maxHeartbeats 16000000
set_option linter.unusedSectionVars false
namespace Go.Proofs.YtcjmcgolgbkknaaGreatDoor
section
open Go.RowKit
variable [∀(a b c d:Int),Decidable (BK a b c d)] [∀(a b c d:Nat),Decidable (Dc a b c d)] [∀(last:Int)(s:St),Decidable (Ak last s)] [∀(x:T4),Decidable (Dv x)] [∀(n:Int)(s:List Int),Decidable (Dw n s)] [∀(n f:Int),Decidable (A9 n f)]
abbrev sB(bn:ByteArray)(bv:Int)(bs:ByteArray)(a:Value):Value:= .agg #[.string bn,.int .i64 bv,.string bs,a]
abbrev sP(v:Int)(s:ByteArray)(a:Value):Value:= .agg #[.int .i64 v,.string s,a]
abbrev sV(v h:Int)(q:Int)(s:ByteArray)(a:Value):Value:= .agg #[.int .i64 v,.int .i64 h,.int .i64 q,.string s,a]
abbrev sX(a b c d:Int):Value:= .agg #[.int .i64 a,.int .i64 b,.int .i64 c,.int .i64 d]
def mB(bn:ByteArray)(bv:Int)(bs:ByteArray)(bw:List Int):MT:=⟨1,0,bn,bv,bs,bw,0,⟨#[]⟩,[],0,⟨#[]⟩,[],0,0,0,0,0⟩
def mP(v:Int)(s:ByteArray)(xs:List Int):MT:=⟨2,0,⟨#[]⟩,0,⟨#[]⟩,[],v,s,xs,0,⟨#[]⟩,[],0,0,0,0,0⟩
def mV(v h q:Int)(s:ByteArray)(xs:List Int):MT:=⟨3,v,⟨#[]⟩,0,⟨#[]⟩,[],0,⟨#[]⟩,[],q,s,xs,h,0,0,0,0⟩
def mX(a b c d:Int):MT:=⟨4,0,⟨#[]⟩,0,⟨#[]⟩,[],0,⟨#[]⟩,[],0,⟨#[]⟩,[],0,a,b,c,d⟩
theorem xm{t:MT}(h:t.k=1):jB t=mB t.bn t.bv t.bs t.bw:=by unfold jB mB;rw[h]
theorem xk{t:MT}(h:t.k=2):jA t=mP t.pv t.ps t.pw:=by unfold jA mP;rw[h]
theorem xh{t:MT}(h:t.k=3):iy t=mV t.vw t.wh t.qv t.qs t.qw:=by unfold iy mV;rw[h]
theorem xg{t:MT}(h:t.k=4):iw t=mX t.fr t.tu t.am t.no:=by unfold iw mX;rw[h]
abbrev I6:Value:= .slice none 0 0
theorem ACz(v:Value)(w:World):(Instr.typeAssert (.iface 264 v) 219 264 true).run Tryz.prog w= .ok (.tuple #[v,.bool true]) w:=by kernel_rfl
theorem ACy(v:Value)(w:World):(Instr.typeAssert (.iface 265 v) 219 264 true).run Tryz.prog w= .ok (.tuple #[.agg #[.string ⟨#[]⟩,.int .i64 0,.string ⟨#[]⟩,.slice none 0 0],.bool false]) w:=by kernel_rfl
theorem ACx(v:Value)(w:World):(Instr.typeAssert (.iface 265 v) 219 265 true).run Tryz.prog w= .ok (.tuple #[v,.bool true]) w:=by kernel_rfl
theorem ACw(v:Value)(w:World):(Instr.typeAssert (.iface 267 v) 219 264 true).run Tryz.prog w= .ok (.tuple #[.agg #[.string ⟨#[]⟩,.int .i64 0,.string ⟨#[]⟩,.slice none 0 0],.bool false]) w:=by kernel_rfl
theorem ACv(v:Value)(w:World):(Instr.typeAssert (.iface 267 v) 219 265 true).run Tryz.prog w= .ok (.tuple #[.agg #[.int .i64 0,.string ⟨#[]⟩,.slice none 0 0],.bool false]) w:=by kernel_rfl
theorem ACu(v:Value)(w:World):(Instr.typeAssert (.iface 267 v) 219 267 true).run Tryz.prog w= .ok (.tuple #[v,.bool true]) w:=by kernel_rfl
theorem ACt(v:Value)(w:World):(Instr.typeAssert (.iface 268 v) 219 264 true).run Tryz.prog w= .ok (.tuple #[.agg #[.string ⟨#[]⟩,.int .i64 0,.string ⟨#[]⟩,.slice none 0 0],.bool false]) w:=by kernel_rfl
theorem ACs(v:Value)(w:World):(Instr.typeAssert (.iface 268 v) 219 265 true).run Tryz.prog w= .ok (.tuple #[.agg #[.int .i64 0,.string ⟨#[]⟩,.slice none 0 0],.bool false]) w:=by kernel_rfl
theorem ACr(v:Value)(w:World):(Instr.typeAssert (.iface 268 v) 219 267 true).run Tryz.prog w= .ok (.tuple #[.agg #[.int .i64 0,.int .i64 0,.int .i64 0,.string ⟨#[]⟩,.slice none 0 0],.bool false]) w:=by kernel_rfl
theorem ACq(v:Value)(w:World):(Instr.typeAssert (.iface 268 v) 219 268 true).run Tryz.prog w= .ok (.tuple #[v,.bool true]) w:=by kernel_rfl
theorem Uk(t:MT)(a b c:Value)(w:World)(hk:t.k=1):
 Calls Tryz.prog 184 #[F8 t a b c] w fun e w'=>e= .returned (.iface 264 (sB t.bn t.bv t.bs a))∧Below w.heap.size w w':=by
 have dk1:decide (t.k=1)=true:=by simpa using hk
 have eQ:(t.k==1)=true:=by simpa using hk
 clear hk;obtain⟨w0,hw0,AO,A,Cm⟩:=bx1 w #[.int .i64 t.k,.int .i64 t.vw,.string t.bn,.int .i64 t.bv,.string t.bs,a,.int .i64 t.pv,.string t.ps,b,.int .i64 t.qv,.string t.qs,c,.int .i64 t.wh,.int .i64 t.fr,.int .i64 t.tu,.int .i64 t.am,.int .i64 t.no] 75;go_enter Tryz.func184,Tryz.ntmps184
 obtain⟨CJ,D7,GA,Gn,Io⟩:=eZ A 0 2 3 4 5;go_wp2;clear hw0;go_ret;exact⟨rfl,AO⟩
theorem Uj(t:MT)(a b c:Value)(w:World)(hk:t.k=2):
 Calls Tryz.prog 184 #[F8 t a b c] w fun e w'=>e= .returned (.iface 265 (sP t.pv t.ps b))∧Below w.heap.size w w':=by
 have dk1:decide (t.k=1)=false:=by simp;omega
 have eQ:(t.k==1)=false:=by simp;omega
 have dk2:decide (t.k=2)=true:=by simpa using hk
 have pF:(t.k==2)=true:=by simpa using hk
 clear hk;obtain⟨w0,hw0,AO,A,Cm⟩:=bx1 w #[.int .i64 t.k,.int .i64 t.vw,.string t.bn,.int .i64 t.bv,.string t.bs,a,.int .i64 t.pv,.string t.ps,b,.int .i64 t.qv,.string t.qs,c,.int .i64 t.wh,.int .i64 t.fr,.int .i64 t.tu,.int .i64 t.am,.int .i64 t.no] 75;go_enter Tryz.func184,Tryz.ntmps184
 obtain⟨CJ,I_,Iw,I9⟩:=YF A 0 6 7 8;go_wp2;clear hw0;go_ret;exact⟨rfl,AO⟩
theorem Ui(t:MT)(a b c:Value)(w:World)(hk:t.k=3):
 Calls Tryz.prog 184 #[F8 t a b c] w fun e w'=>e= .returned (.iface 267 (sV t.vw t.wh t.qv t.qs c))∧Below w.heap.size w w':=by
 have dk1:decide (t.k=1)=false:=by simp;omega
 have eQ:(t.k==1)=false:=by simp;omega
 have dk2:decide (t.k=2)=false:=by simp;omega
 have pF:(t.k==2)=false:=by simp;omega
 have dk3:decide (t.k=3)=true:=by simpa using hk
 have wJ:(t.k==3)=true:=by simpa using hk
 clear hk;obtain⟨w0,hw0,AO,A,Cm⟩:=bx1 w #[.int .i64 t.k,.int .i64 t.vw,.string t.bn,.int .i64 t.bv,.string t.bs,a,.int .i64 t.pv,.string t.ps,b,.int .i64 t.qv,.string t.qs,c,.int .i64 t.wh,.int .i64 t.fr,.int .i64 t.tu,.int .i64 t.am,.int .i64 t.no] 75;go_enter Tryz.func184,Tryz.ntmps184
 obtain⟨CJ,Dk,Ht,Ct,Dj,D6⟩:=F_ A 0 1 9 10 11 12;go_wp2;clear hw0;go_ret;exact⟨rfl,AO⟩
theorem Uh(t:MT)(a b c:Value)(w:World)(hk:t.k=4):
 Calls Tryz.prog 184 #[F8 t a b c] w fun e w'=>e= .returned (.iface 268 (sX t.fr t.tu t.am t.no))∧Below w.heap.size w w':=by
 have dk1:decide (t.k=1)=false:=by simp;omega
 have eQ:(t.k==1)=false:=by simp;omega
 have dk2:decide (t.k=2)=false:=by simp;omega
 have pF:(t.k==2)=false:=by simp;omega
 have dk3:decide (t.k=3)=false:=by simp;omega
 have wJ:(t.k==3)=false:=by simp;omega
 have dk4:decide (t.k=4)=true:=by simpa using hk
 have ek4:(t.k==4)=true:=by simpa using hk
 clear hk;obtain⟨w0,hw0,AO,A,Cm⟩:=bx1 w #[.int .i64 t.k,.int .i64 t.vw,.string t.bn,.int .i64 t.bv,.string t.bs,a,.int .i64 t.pv,.string t.ps,b,.int .i64 t.qv,.string t.qs,c,.int .i64 t.wh,.int .i64 t.fr,.int .i64 t.tu,.int .i64 t.am,.int .i64 t.no] 75;go_enter Tryz.func184,Tryz.ntmps184
 obtain⟨CJ,Ca,EF,EE,ED⟩:=eZ A 0 13 14 15 16;go_wp2;clear hw0;go_ret;exact⟨rfl,AO⟩
theorem Ul(t:MT)(a b c:Value)(w:World)(h1:¬t.k=1)(h2:¬t.k=2)(h3:¬t.k=3)(h4:¬t.k=4):
 Calls Tryz.prog 184 #[F8 t a b c] w fun e w'=>e= .returned (.nilIface)∧Below w.heap.size w w':=by
 have dk1:decide (t.k=1)=false:=by simp;omega
 have eQ:(t.k==1)=false:=by simp;omega
 have dk2:decide (t.k=2)=false:=by simp;omega
 have pF:(t.k==2)=false:=by simp;omega
 have dk3:decide (t.k=3)=false:=by simp;omega
 have wJ:(t.k==3)=false:=by simp;omega
 have dk4:decide (t.k=4)=false:=by simp;omega
 have ek4:(t.k==4)=false:=by simp;omega
 obtain⟨w0,hw0,AO,A,Cm⟩:=bx1 w #[.int .i64 t.k,.int .i64 t.vw,.string t.bn,.int .i64 t.bv,.string t.bs,a,.int .i64 t.pv,.string t.ps,b,.int .i64 t.qv,.string t.qs,c,.int .i64 t.wh,.int .i64 t.fr,.int .i64 t.tu,.int .i64 t.am,.int .i64 t.no] 75;go_enter Tryz.func184,Tryz.ntmps184
 have CJ:=A.cell 0 rfl;go_wp2;clear hw0;go_ret;exact⟨rfl,AO⟩
theorem N7(bn:ByteArray)(bv:Int)(bs:ByteArray)(xs:List Int)(u:Value)(hu:∃uo un uc,u= .slice uo un uc)(w:World):
 Calls Tryz.prog 186 #[.iface 264 (sB bn bv bs u)] w fun e w'=>e= .returned (F8 (mB bn bv bs xs) u I6 I6)∧Below w.heap.size w w':=by
 have ta1:=ACz;obtain⟨uo,un,uc,rfl⟩:∃uo un uc,u= .slice uo un uc:=hu;obtain⟨w0,hw0,AO,R,Cm⟩:=bx1 w #[.int .i64 0,.int .i64 0,.string ⟨#[]⟩,.int .i64 0,.string ⟨#[]⟩,.slice none 0 0,.int .i64 0,.string ⟨#[]⟩,.slice none 0 0,.int .i64 0,.string ⟨#[]⟩,.slice none 0 0,.int .i64 0,.int .i64 0,.int .i64 0,.int .i64 0,.int .i64 0] 75;go_enter Tryz.func186,Tryz.ntmps186
 go_upto_region 4 with(refine BL (AB w0 #[.string ⟨#[]⟩,.int .i64 0,.string ⟨#[]⟩,.slice none 0 0] 264 rfl) 264 #[.string bn,.int .i64 bv,.string bs,.slice uo un uc] rfl _ _ rfl rfl rfl (by kernel_rfl) rfl (by simp[Value.oneCell']) ?_)
 clear hw0;obtain⟨w1,hw1⟩:∃y,(w0.alloc (.cells #[.string ⟨#[]⟩,.int .i64 0,.string ⟨#[]⟩,.slice none 0 0] 264)).setRow w0.heap.size #[.string bn,.int .i64 bv,.string bs,.slice uo un uc]=y:=⟨_,rfl⟩
 rw[hw1];have bb:Below w0.heap.size w0 w1:=hw1▸Da _ _ _ _;have X:Loc w1 w0.heap.size #[.string bn,.int .i64 bv,.string bs,.slice uo un uc]:=hw1▸Fh _ _ _ _;have q8:w1.heap.size=w0.heap.size+1:=by rw[←hw1];exact Fx _ _ _ _
 clear hw1;have AL:=bu AO bb;have Cj:=bb.size;replace R:=R.up bb;clear AO bb;go_wp2_with (first|(refine Al X 264 _ rfl _ rfl rfl Tryz.underlying264 rfl (by kernel_rfl) ?_)|(refine BL R 75 #[.int .i64 1,.int .i64 0,.string bn,.int .i64 bv,.string bs,.slice uo un uc,.int .i64 0,.string ⟨#[]⟩,.slice none 0 0,.int .i64 0,.string ⟨#[]⟩,.slice none 0 0,.int .i64 0,.int .i64 0,.int .i64 0,.int .i64 0,.int .i64 0] rfl _ _ rfl rfl rfl (by kernel_rfl) rfl (by simp[Value.oneCell']) ?_))
 obtain⟨wE,Bh⟩:∃Co,w1.setRow (w.heap.size) #[.int .i64 1,.int .i64 0,.string bn,.int .i64 bv,.string bs,.slice uo un uc,.int .i64 0,.string ⟨#[]⟩,.slice none 0 0,.int .i64 0,.string ⟨#[]⟩,.slice none 0 0,.int .i64 0,.int .i64 0,.int .i64 0,.int .i64 0,.int .i64 0]=Co:=⟨_,rfl⟩
 have kN:Kp w1 wE (fun k=>k=w.heap.size):=Bh▸CG _ _ _;replace R:Loc wE (w.heap.size) #[.int .i64 1,.int .i64 0,.string bn,.int .i64 bv,.string bs,.slice uo un uc,.int .i64 0,.string ⟨#[]⟩,.slice none 0 0,.int .i64 0,.string ⟨#[]⟩,.slice none 0 0,.int .i64 0,.int .i64 0,.int .i64 0,.int .i64 0,.int .i64 0]:=Bh▸R.row;replace X:=X.kp kN (by omega);have FC:=Below.kp AL kN AL.size (fun k hk=>by omega);have Oa:=kN.size;rw[Bh];clear Bh kN AL;refine bodyPost_ret (v:=F8 (mB bn bv bs xs) (.slice uo un uc) I6 I6) (DL Tryz.results186 _ R rfl Tryz.underlying75 rfl (by kernel_rfl)) rfl ?_;exact⟨rfl,FC⟩
theorem Nz(v:Int)(s:ByteArray)(xs:List Int)(u:Value)(hu:∃uo un uc,u= .slice uo un uc)(w:World):
 Calls Tryz.prog 186 #[.iface 265 (sP v s u)] w fun e w'=>e= .returned (F8 (mP v s xs) I6 u I6)∧Below w.heap.size w w':=by
 have ta1:=ACy;have ta2:=ACx;obtain⟨uo,un,uc,rfl⟩:∃uo un uc,u= .slice uo un uc:=hu;obtain⟨w0,hw0,AO,R,Cm⟩:=bx1 w #[.int .i64 0,.int .i64 0,.string ⟨#[]⟩,.int .i64 0,.string ⟨#[]⟩,.slice none 0 0,.int .i64 0,.string ⟨#[]⟩,.slice none 0 0,.int .i64 0,.string ⟨#[]⟩,.slice none 0 0,.int .i64 0,.int .i64 0,.int .i64 0,.int .i64 0,.int .i64 0] 75;go_enter Tryz.func186,Tryz.ntmps186
 go_upto_region 7 with(refine BL (AB w0 #[.int .i64 0,.string ⟨#[]⟩,.slice none 0 0] 265 rfl) 265 #[.int .i64 v,.string s,.slice uo un uc] rfl _ _ rfl rfl rfl (by kernel_rfl) rfl (by simp[Value.oneCell']) ?_)
 clear hw0;obtain⟨w1,hw1⟩:∃y,(w0.alloc (.cells #[.int .i64 0,.string ⟨#[]⟩,.slice none 0 0] 265)).setRow w0.heap.size #[.int .i64 v,.string s,.slice uo un uc]=y:=⟨_,rfl⟩
 rw[hw1];have bb:Below w0.heap.size w0 w1:=hw1▸Da _ _ _ _;have X:Loc w1 w0.heap.size #[.int .i64 v,.string s,.slice uo un uc]:=hw1▸Fh _ _ _ _;have q8:w1.heap.size=w0.heap.size+1:=by rw[←hw1];exact Fx _ _ _ _
 clear hw1;have AL:=bu AO bb;have Cj:=bb.size;replace R:=R.up bb;clear AO bb;go_wp2_with (first|(refine Al X 265 _ rfl _ rfl rfl Tryz.underlying265 rfl (by kernel_rfl) ?_)|(refine BL R 75 #[.int .i64 2,.int .i64 0,.string ⟨#[]⟩,.int .i64 0,.string ⟨#[]⟩,.slice none 0 0,.int .i64 v,.string s,.slice uo un uc,.int .i64 0,.string ⟨#[]⟩,.slice none 0 0,.int .i64 0,.int .i64 0,.int .i64 0,.int .i64 0,.int .i64 0] rfl _ _ rfl rfl rfl (by kernel_rfl) rfl (by simp[Value.oneCell']) ?_))
 obtain⟨wE,Bh⟩:∃Co,w1.setRow (w.heap.size) #[.int .i64 2,.int .i64 0,.string ⟨#[]⟩,.int .i64 0,.string ⟨#[]⟩,.slice none 0 0,.int .i64 v,.string s,.slice uo un uc,.int .i64 0,.string ⟨#[]⟩,.slice none 0 0,.int .i64 0,.int .i64 0,.int .i64 0,.int .i64 0,.int .i64 0]=Co:=⟨_,rfl⟩
 have kN:Kp w1 wE (fun k=>k=w.heap.size):=Bh▸CG _ _ _;replace R:Loc wE (w.heap.size) #[.int .i64 2,.int .i64 0,.string ⟨#[]⟩,.int .i64 0,.string ⟨#[]⟩,.slice none 0 0,.int .i64 v,.string s,.slice uo un uc,.int .i64 0,.string ⟨#[]⟩,.slice none 0 0,.int .i64 0,.int .i64 0,.int .i64 0,.int .i64 0,.int .i64 0]:=Bh▸R.row;replace X:=X.kp kN (by omega);have FC:=Below.kp AL kN AL.size (fun k hk=>by omega);have Oa:=kN.size;rw[Bh];clear Bh kN AL;refine bodyPost_ret (v:=F8 (mP v s xs) I6 (.slice uo un uc) I6) (DL Tryz.results186 _ R rfl Tryz.underlying75 rfl (by kernel_rfl)) rfl ?_;exact⟨rfl,FC⟩
theorem Ny(v h q:Int)(s:ByteArray)(xs:List Int)(u:Value)(hu:∃uo un uc,u= .slice uo un uc)(w:World):
 Calls Tryz.prog 186 #[.iface 267 (sV v h q s u)] w fun e w'=>e= .returned (F8 (mV v h q s xs) I6 I6 u)∧Below w.heap.size w w':=by
 have ta1:=ACw;have ta2:=ACv;have ta3:=ACu;obtain⟨uo,un,uc,rfl⟩:∃uo un uc,u= .slice uo un uc:=hu;obtain⟨w0,hw0,AO,R,Cm⟩:=bx1 w #[.int .i64 0,.int .i64 0,.string ⟨#[]⟩,.int .i64 0,.string ⟨#[]⟩,.slice none 0 0,.int .i64 0,.string ⟨#[]⟩,.slice none 0 0,.int .i64 0,.string ⟨#[]⟩,.slice none 0 0,.int .i64 0,.int .i64 0,.int .i64 0,.int .i64 0,.int .i64 0] 75;go_enter Tryz.func186,Tryz.ntmps186
 go_upto_region 10 with(refine BL (AB w0 #[.int .i64 0,.int .i64 0,.int .i64 0,.string ⟨#[]⟩,.slice none 0 0] 267 rfl) 267 #[.int .i64 v,.int .i64 h,.int .i64 q,.string s,.slice uo un uc] rfl _ _ rfl rfl rfl (by kernel_rfl) rfl (by simp[Value.oneCell']) ?_)
 clear hw0;obtain⟨w1,hw1⟩:∃y,(w0.alloc (.cells #[.int .i64 0,.int .i64 0,.int .i64 0,.string ⟨#[]⟩,.slice none 0 0] 267)).setRow w0.heap.size #[.int .i64 v,.int .i64 h,.int .i64 q,.string s,.slice uo un uc]=y:=⟨_,rfl⟩
 rw[hw1];have bb:Below w0.heap.size w0 w1:=hw1▸Da _ _ _ _;have X:Loc w1 w0.heap.size #[.int .i64 v,.int .i64 h,.int .i64 q,.string s,.slice uo un uc]:=hw1▸Fh _ _ _ _;have q8:w1.heap.size=w0.heap.size+1:=by rw[←hw1];exact Fx _ _ _ _
 clear hw1;have AL:=bu AO bb;have Cj:=bb.size;replace R:=R.up bb;clear AO bb;obtain⟨cX0,cX1,cX2,cX3,cX4⟩:=eZ X 0 1 2 3 4;go_wp2_with (first|(refine BL R 75 #[.int .i64 3,.int .i64 v,.string ⟨#[]⟩,.int .i64 0,.string ⟨#[]⟩,.slice none 0 0,.int .i64 0,.string ⟨#[]⟩,.slice none 0 0,.int .i64 q,.string s,.slice uo un uc,.int .i64 h,.int .i64 0,.int .i64 0,.int .i64 0,.int .i64 0] rfl _ _ rfl rfl rfl (by kernel_rfl) rfl (by simp[Value.oneCell']) ?_))
 clear cX0 cX1 cX2 cX3 cX4;obtain⟨wE,Bh⟩:∃Co,w1.setRow (w.heap.size) #[.int .i64 3,.int .i64 v,.string ⟨#[]⟩,.int .i64 0,.string ⟨#[]⟩,.slice none 0 0,.int .i64 0,.string ⟨#[]⟩,.slice none 0 0,.int .i64 q,.string s,.slice uo un uc,.int .i64 h,.int .i64 0,.int .i64 0,.int .i64 0,.int .i64 0]=Co:=⟨_,rfl⟩
 have kN:Kp w1 wE (fun k=>k=w.heap.size):=Bh▸CG _ _ _;replace R:Loc wE (w.heap.size) #[.int .i64 3,.int .i64 v,.string ⟨#[]⟩,.int .i64 0,.string ⟨#[]⟩,.slice none 0 0,.int .i64 0,.string ⟨#[]⟩,.slice none 0 0,.int .i64 q,.string s,.slice uo un uc,.int .i64 h,.int .i64 0,.int .i64 0,.int .i64 0,.int .i64 0]:=Bh▸R.row;replace X:=X.kp kN (by omega);have FC:=Below.kp AL kN AL.size (fun k hk=>by omega);have Oa:=kN.size;rw[Bh];clear Bh kN AL;refine bodyPost_ret (v:=F8 (mV v h q s xs) I6 I6 (.slice uo un uc)) (DL Tryz.results186 _ R rfl Tryz.underlying75 rfl (by kernel_rfl)) rfl ?_;exact⟨rfl,FC⟩
theorem Nw(a b c d:Int)(w:World):
 Calls Tryz.prog 186 #[.iface 268 (sX a b c d)] w fun e w'=>e= .returned (F8 (mX a b c d) I6 I6 I6)∧Below w.heap.size w w':=by
 have ta1:=ACt;have ta2:=ACs;have ta3:=ACr;have ta4:=ACq;obtain⟨w0,hw0,AO,R,Cm⟩:=bx1 w #[.int .i64 0,.int .i64 0,.string ⟨#[]⟩,.int .i64 0,.string ⟨#[]⟩,.slice none 0 0,.int .i64 0,.string ⟨#[]⟩,.slice none 0 0,.int .i64 0,.string ⟨#[]⟩,.slice none 0 0,.int .i64 0,.int .i64 0,.int .i64 0,.int .i64 0,.int .i64 0] 75;go_enter Tryz.func186,Tryz.ntmps186
 go_upto_region 13 with(refine BL (AB w0 #[.int .i64 0,.int .i64 0,.int .i64 0,.int .i64 0] 268 rfl) 268 #[.int .i64 a,.int .i64 b,.int .i64 c,.int .i64 d] rfl _ _ rfl rfl rfl (by kernel_rfl) rfl (by simp[Value.oneCell']) ?_)
 clear hw0;obtain⟨w1,hw1⟩:∃y,(w0.alloc (.cells #[.int .i64 0,.int .i64 0,.int .i64 0,.int .i64 0] 268)).setRow w0.heap.size #[.int .i64 a,.int .i64 b,.int .i64 c,.int .i64 d]=y:=⟨_,rfl⟩
 rw[hw1];have bb:Below w0.heap.size w0 w1:=hw1▸Da _ _ _ _;have X:Loc w1 w0.heap.size #[.int .i64 a,.int .i64 b,.int .i64 c,.int .i64 d]:=hw1▸Fh _ _ _ _;have q8:w1.heap.size=w0.heap.size+1:=by rw[←hw1];exact Fx _ _ _ _
 clear hw1;have AL:=bu AO bb;have Cj:=bb.size;replace R:=R.up bb;clear AO bb;go_wp2_with (first|(refine Al X 268 _ rfl _ rfl rfl Tryz.underlying268 rfl (by kernel_rfl) ?_)|(refine BL R 75 #[.int .i64 4,.int .i64 0,.string ⟨#[]⟩,.int .i64 0,.string ⟨#[]⟩,.slice none 0 0,.int .i64 0,.string ⟨#[]⟩,.slice none 0 0,.int .i64 0,.string ⟨#[]⟩,.slice none 0 0,.int .i64 0,.int .i64 a,.int .i64 b,.int .i64 c,.int .i64 d] rfl _ _ rfl rfl rfl (by kernel_rfl) rfl (by simp[Value.oneCell']) ?_))
 obtain⟨wE,Bh⟩:∃Co,w1.setRow (w.heap.size) #[.int .i64 4,.int .i64 0,.string ⟨#[]⟩,.int .i64 0,.string ⟨#[]⟩,.slice none 0 0,.int .i64 0,.string ⟨#[]⟩,.slice none 0 0,.int .i64 0,.string ⟨#[]⟩,.slice none 0 0,.int .i64 0,.int .i64 a,.int .i64 b,.int .i64 c,.int .i64 d]=Co:=⟨_,rfl⟩
 have kN:Kp w1 wE (fun k=>k=w.heap.size):=Bh▸CG _ _ _;replace R:Loc wE (w.heap.size) #[.int .i64 4,.int .i64 0,.string ⟨#[]⟩,.int .i64 0,.string ⟨#[]⟩,.slice none 0 0,.int .i64 0,.string ⟨#[]⟩,.slice none 0 0,.int .i64 0,.string ⟨#[]⟩,.slice none 0 0,.int .i64 0,.int .i64 a,.int .i64 b,.int .i64 c,.int .i64 d]:=Bh▸R.row;replace X:=X.kp kN (by omega);have FC:=Below.kp AL kN AL.size (fun k hk=>by omega);have Oa:=kN.size;rw[Bh];clear Bh kN AL;refine bodyPost_ret (v:=F8 (mX a b c d) I6 I6 I6) (DL Tryz.results186 _ R rfl Tryz.underlying75 rfl (by kernel_rfl)) rfl ?_;exact⟨rfl,FC⟩
theorem Zk(n f:Int)(bn:ByteArray)(bv:Int)(bs:ByteArray)(ao:Option Addr)(ca:Nat)(xs:List Int)(w:World)(h1:bn.size≤33554432)(h2:bs.size≤33554432)(hE:Env w)(ha:RI w (.slice ao xs.length ca) xs):
 Calls Tryz.prog 352 #[sB bn bv bs (.slice ao xs.length ca),cv n f] w fun e w'=>e= .returned (.bool (Xz n f bn bv bs xs))∧Below w.heap.size w w':=by
 have BO:=hide fun w hE h=>XY n f bn bv bs ao ca xs w h1 h2 hE h;have HE:=hide hE;have HA:=hide ha;clear hE ha h1 h2;obtain⟨w0,hw0,AO,A,LC,Cm⟩:=El w #[.string bn,.int .i64 bv,.string bs,.slice ao xs.length ca] 264 #[.int .i64 n,.int .i64 f] 48;go_enter Tryz.func352,Tryz.ntmps352
 obtain⟨CJ,Dk,D7,GA⟩:=YF A 0 1 2 3;obtain⟨AZ,Ab⟩:=B_ LC 0 1;go_wp2_with fail
 clear hw0;refine(BO.out _ (HE.out.below AO) (HA.out.below AO)).mono ?_;rintro _ w1 ⟨rfl,bb⟩;clear CJ Dk D7 GA AZ Ab;have AL:=bu AO bb;have Cj:=bb.size;replace A:=A.up bb;replace LC:=LC.up bb;clear AO bb;go_wp2;go_ret;exact⟨rfl,AL⟩
theorem Zj(n f v:Int)(s:ByteArray)(ao:Option Addr)(ca:Nat)(xs:List Int)(w:World)(h1:s.size≤33554432)(hE:Env w)(ha:RI w (.slice ao xs.length ca) xs):
 Calls Tryz.prog 361 #[sP v s (.slice ao xs.length ca),cv n f] w fun e w'=>e= .returned (.bool (Di n f v s xs&&!(s.toList==[])))∧Below w.heap.size w w':=by
 have PO:=hide fun w hE h=>Qm n f v s (.slice ao xs.length ca) xs w h1 hE h;have HE:=hide hE;have HA:=hide ha;clear hE ha h1;generalize Di n f v s xs=r at *;obtain⟨z,hz⟩:∃z,(s.toList==[])=z:=⟨_,rfl⟩
 rw[hz];obtain⟨w0,hw0,AO,A,LC,Cm⟩:=El w #[.int .i64 v,.string s,.slice ao xs.length ca] 265 #[.int .i64 n,.int .i64 f] 48;go_enter Tryz.func361,Tryz.ntmps361
 cases z
 ·obtain⟨CJ,Dk,D7⟩:=CW A 0 1 2;obtain⟨AZ,Ab⟩:=B_ LC 0 1;go_wp2_with fail
  clear hw0;refine(PO.out _ (HE.out.below AO) (HA.out.below AO)).mono ?_;rintro _ w1 ⟨rfl,bb⟩;clear CJ Dk D7 AZ Ab;have AL:=bu AO bb;have Cj:=bb.size;replace A:=A.up bb;replace LC:=LC.up bb;clear AO bb;go_wp2;go_ret;exact⟨by simp,AL⟩
 obtain⟨CJ,Dk,D7⟩:=CW A 0 1 2;obtain⟨AZ,Ab⟩:=B_ LC 0 1;go_wp2;clear hw0;go_ret;exact⟨by simp,AO⟩
theorem Zi(n f v h q:Int)(s:ByteArray)(ao:Option Addr)(ca:Nat)(xs:List Int)(w:World)(hn:IntKind.i64.wrap (n-1)=n-1)(h1:s.size≤33554432)(hE:Env w)(ha:RI w (.slice ao xs.length ca) xs):
 Calls Tryz.prog 363 #[sV v h q s (.slice ao xs.length ca),cv n f] w fun e w'=>e= .returned (.bool (decide (1≤v∧v≤60)&&(D9 n f q s xs&&decide (0≤h∧h≤n-1))))∧Below w.heap.size w w':=by
 have QO:=hide fun w hE h=>ML n f q s ao ca xs w h1 hE h;have HE:=hide hE;have HA:=hide ha;have i1:=hide fun w=>Dn v 1 60 w;have i2:=hide fun w=>Dn h 0 (n-1) w;clear hE ha h1;generalize decide (1≤v∧v≤60)=r1 at *;generalize decide (0≤h∧h≤n-1)=r3 at *;generalize D9 n f q s xs=r2 at *;obtain⟨w0,hw0,AO,A,LC,Cm⟩:=El w #[.int .i64 v,.int .i64 h,.int .i64 q,.string s,.slice ao xs.length ca] 267 #[.int .i64 n,.int .i64 f] 48;go_enter Tryz.func363,Tryz.ntmps363
 obtain⟨CJ,Dk,D7,GA,Gn⟩:=eZ A 0 1 2 3 4;obtain⟨AZ,Ab⟩:=B_ LC 0 1;go_wp2_with fail
 clear hw0;refine(i1.out _).mono ?_;rintro _ w1 ⟨rfl,bb⟩;clear CJ Dk D7 GA Gn AZ Ab;have AL:=bu AO bb;have Cj:=bb.size;replace A:=A.up bb;replace LC:=LC.up bb;clear AO bb;cases r1
 ·obtain⟨CJ,Dk,D7,GA,Gn⟩:=eZ A 0 1 2 3 4;obtain⟨AZ,Ab⟩:=B_ LC 0 1;go_wp2;go_ret;exact⟨by simp,AL⟩
 obtain⟨CJ,Dk,D7,GA,Gn⟩:=eZ A 0 1 2 3 4;obtain⟨AZ,Ab⟩:=B_ LC 0 1;go_wp2_with fail
 refine(i2.out _).mono ?_;rintro _ w2 ⟨rfl,bb⟩;clear CJ Dk D7 GA Gn AZ Ab;have Ah:=bu AL bb;have Ej:=bb.size;replace A:=A.up bb;replace LC:=LC.up bb;clear AL bb;cases r3
 ·obtain⟨CJ,Dk,D7,GA,Gn⟩:=eZ A 0 1 2 3 4;obtain⟨AZ,Ab⟩:=B_ LC 0 1;go_wp2;go_ret;exact⟨by simp,Ah⟩
 obtain⟨CJ,Dk,D7,GA,Gn⟩:=eZ A 0 1 2 3 4;obtain⟨AZ,Ab⟩:=B_ LC 0 1;go_wp2_with fail
 refine(QO.out _ (HE.out.below Ah) (HA.out.below Ah)).mono ?_;rintro _ w3 ⟨rfl,bb⟩;clear CJ Dk D7 GA Gn AZ Ab;have BH:=bu Ah bb;have IL:=bb.size;replace A:=A.up bb;replace LC:=LC.up bb;clear Ah bb;go_wp2;go_ret;exact⟨by simp,BH⟩
theorem Zh(n f a b c d:Int)(w:World):
 Calls Tryz.prog 365 #[sX a b c d,cv n f] w fun e w'=>e= .returned (.bool (decide (BK a b c d)))∧Below w.heap.size w w':=by
 have TO:=hide fun w=>XM a b c d w;generalize decide (BK a b c d)=r at *;obtain⟨w0,hw0,AO,A,LC,Cm⟩:=El w #[.int .i64 a,.int .i64 b,.int .i64 c,.int .i64 d] 268 #[.int .i64 n,.int .i64 f] 48;go_enter Tryz.func365,Tryz.ntmps365
 obtain⟨CJ,Dk,D7,GA⟩:=YF A 0 1 2 3;go_wp2_with fail
 clear hw0;refine(TO.out _).mono ?_;rintro _ w1 ⟨rfl,bb⟩;clear CJ Dk D7 GA;have AL:=bu AO bb;have Cj:=bb.size;replace A:=A.up bb;replace LC:=LC.up bb;clear AO bb;go_wp2;go_ret;exact⟨rfl,AL⟩
end
end Go.Proofs.YtcjmcgolgbkknaaGreatDoor
