/- Lemmas, as stated. -/
import Derived.Test.YtcjmcgolgbkknaaGreatDoorTAAZ
import Derived.Test.YtcjmcgolgbkknaaGreatDoorTAAY
set_option maxRecDepth 100000
set_option maxHeartbeats 16000000
set_option linter.unusedSectionVars false
namespace Go.Proofs.YtcjmcgolgbkknaaGreatDoor
section
open Go.RowKit
variable [∀(a b c d:Int),Decidable (BG a b c d)] [∀(a b c d:Nat),Decidable (DZ a b c d)] [∀(last:Int)(s:St),Decidable (Aq last s)] [∀(x:T4),Decidable (Du x)] [∀(n:Int)(s:List Int),Decidable (Dv n s)] [∀(n f:Int),Decidable (A_ n f)]
def aO(t:MT):Bool:=decide (BG t.fr t.tu t.am t.no)
def aT(n f:Int)(t:MT):Bool:=WB n f t.bn t.bv t.bs t.bw
def aQ(n f:Int)(t:MT):Bool:=DY n f t.pv t.ps t.pw&&!(t.ps.toList==[])
def aP(n f:Int)(t:MT):Bool:=decide (1≤t.vw∧t.vw≤60)&&(Gi n f t.qv t.qs t.qw&&decide (0≤t.wh∧t.wh≤n-1))
def h_(n f:Int)(t:MT):Bool:=if t.k=1 then aT n f t else if t.k=2 then aQ n f t else if t.k=3 then aP n f t else if t.k=4 then aO t else false
theorem vZ{n f:Int}{t:MT}(h:t.k=1):h_ n f t=aT n f t:=by unfold h_;rw[if_pos h]
theorem vY{n f:Int}{t:MT}(h:t.k=2):h_ n f t=aQ n f t:=by unfold h_;rw[if_neg (by omega),if_pos h]
theorem vX{n f:Int}{t:MT}(h:t.k=3):h_ n f t=aP n f t:=by unfold h_;rw[if_neg (by omega),if_neg (by omega),if_pos h]
theorem vW{n f:Int}{t:MT}(h:t.k=4):h_ n f t=aO t:=by unfold h_;rw[if_neg (by omega),if_neg (by omega),if_neg (by omega),if_pos h]
theorem ve{n f:Int}{t:MT}(h1:¬t.k=1)(h2:¬t.k=2)(h3:¬t.k=3)(h4:¬t.k=4):h_ n f t=false:=by unfold h_;rw[if_neg h1,if_neg h2,if_neg h3,if_neg h4]
def Ox(n f:Int)(t:MT):Bool:=decide (A_ n f)&&(J7 t&&h_ n f t)
def MS(t:MT):Prop:=t.bn.size≤1048576∧t.bs.size≤1048576∧t.ps.size≤1048576∧t.qs.size≤1048576
theorem Ug(n f:Int)(t:MT)(ao bo co:Option Addr)(ca cb cc:Nat)(w:World)(hk:t.k=1)(hs:MS t)(ha:RI w (.slice ao t.bw.length ca) t.bw)(hb:RI w (.slice bo t.pw.length cb) t.pw)(hc:RI w (.slice co t.qw.length cc) t.qw):
 Calls Tryz.prog 86 #[cv n f,Dw t (.slice ao t.bw.length ca) (.slice bo t.pw.length cb) (.slice co t.qw.length cc)] w fun e w'=>e= .returned (.bool (decide (A_ n f)&&(J7 t&&aT n f t)))∧Below w.heap.size w w':=by
 have dk1:decide (t.k=1)=true:=by simpa using hk
 have ZY:(t.k==1)=true:=by simpa using hk
 obtain⟨s1,s2,s3,s4⟩:=hs;have IN:Hid (∀(x lo hi:Int)(w:World),Calls Tryz.prog 81 #[.int .i64 x,.int .i64 lo,.int .i64 hi] w fun e w'=>e= .returned (.bool (decide (lo≤x∧x≤hi)))∧Below w.heap.size w w'):=hide fun x lo hi w=>(GX x lo hi w).mono (by rintro e w' ⟨h,rfl⟩;exact⟨h,Below.refl _ _⟩);have CO:=hide fun w=>Bc n f w;have ZE:=hide fun w h1 h2 h3=>FK t ao bo co ca cb cc w h1 h2 h3;have BO:=hide fun w h=>FH n f t.bn t.bv t.bs ao ca t.bw w s1 s2 h;have PO:=hide fun w h=>Ey n f t.pv t.ps (.slice bo t.pw.length cb) t.pw w s3 h;have QO:=hide fun w h=>Fv n f t.qv t.qs co cc t.qw w s4 h;have TO:=hide fun w=>Gy t.fr t.tu t.am t.no w;have ha1:=hide ha;have hb1:=hide hb;have hc1:=hide hc;clear ha hb hc s1 s2 s3 s4 hk;unfold aT;generalize WB n f t.bn t.bv t.bs t.bw=r1 at *;have sZ:Hid (decide (A_ n f)=true→A_ n f):=hide fun h=>of_decide_eq_true h;generalize decide (A_ n f)=b1 at *;generalize J7 t=b2 at *;obtain⟨w0,hw0,AO,LC,A,DC⟩:=Gb w #[.int .i64 n,.int .i64 f] 48 #[.int .i64 t.k,.int .i64 t.vw,.string t.bn,.int .i64 t.bv,.string t.bs,.slice ao t.bw.length ca,.int .i64 t.pv,.string t.ps,.slice bo t.pw.length cb,.int .i64 t.qv,.string t.qs,.slice co t.qw.length cc,.int .i64 t.wh,.int .i64 t.fr,.int .i64 t.tu,.int .i64 t.am,.int .i64 t.no] 75;go_enter Tryz.func86,Tryz.ntmps86
 obtain⟨Ae,Ai⟩:=Cn LC 0 1;go_wp2_with fail
 clear hw0;refine(CO.out _).mono ?_;rintro _ w1 ⟨rfl,bb⟩;clear Ae Ai;have AZ:=bu AO bb;have Cx:=bb.size;replace LC:=LC.up bb;replace A:=A.up bb;clear AO bb;cases b1
 ·go_wp2;go_ret;exact⟨by simp,AZ⟩
 go_wp2_with (first|(refine Ap A 75 _ rfl _ rfl rfl Tryz.underlying75 rfl (by kernel_rfl) ?_))
 refine(ZE.out _ (ha1.out.below AZ) (hb1.out.below AZ) (hc1.out.below AZ)).mono ?_;rintro _ w2 ⟨rfl,bb⟩;have Ao:=bu AZ bb;have Ex:=bb.size;replace LC:=LC.up bb;replace A:=A.up bb;clear AZ bb;cases b2
 ·go_wp2;go_ret;exact⟨by simp,Ao⟩
 obtain⟨Ae,Ai⟩:=Cn LC 0 1;obtain⟨Bi,Da,Em,FL,GD⟩:=Za A 0 2 3 4 5;go_wp2_with fail
 refine(BO.out _ (ha1.out.below Ao)).mono ?_;rintro _ w3 ⟨rfl,bb⟩;clear Ae Ai Bi Da Em FL GD;have BK:=bu Ao bb;have IW:=bb.size;replace LC:=LC.up bb;replace A:=A.up bb;clear Ao bb;go_wp2;go_ret;exact⟨by simp,BK⟩
theorem Uf(n f:Int)(t:MT)(ao bo co:Option Addr)(ca cb cc:Nat)(w:World)(hk:t.k=2)(hs:MS t)(ha:RI w (.slice ao t.bw.length ca) t.bw)(hb:RI w (.slice bo t.pw.length cb) t.pw)(hc:RI w (.slice co t.qw.length cc) t.qw):
 Calls Tryz.prog 86 #[cv n f,Dw t (.slice ao t.bw.length ca) (.slice bo t.pw.length cb) (.slice co t.qw.length cc)] w fun e w'=>e= .returned (.bool (decide (A_ n f)&&(J7 t&&aQ n f t)))∧Below w.heap.size w w':=by
 have dk1:decide (t.k=1)=false:=by simp;omega
 have ZY:(t.k==1)=false:=by simp;omega
 have dk2:decide (t.k=2)=true:=by simpa using hk
 have jR:(t.k==2)=true:=by simpa using hk
 obtain⟨s1,s2,s3,s4⟩:=hs;have IN:Hid (∀(x lo hi:Int)(w:World),Calls Tryz.prog 81 #[.int .i64 x,.int .i64 lo,.int .i64 hi] w fun e w'=>e= .returned (.bool (decide (lo≤x∧x≤hi)))∧Below w.heap.size w w'):=hide fun x lo hi w=>(GX x lo hi w).mono (by rintro e w' ⟨h,rfl⟩;exact⟨h,Below.refl _ _⟩);have CO:=hide fun w=>Bc n f w;have ZE:=hide fun w h1 h2 h3=>FK t ao bo co ca cb cc w h1 h2 h3;have BO:=hide fun w h=>FH n f t.bn t.bv t.bs ao ca t.bw w s1 s2 h;have PO:=hide fun w h=>Ey n f t.pv t.ps (.slice bo t.pw.length cb) t.pw w s3 h;have QO:=hide fun w h=>Fv n f t.qv t.qs co cc t.qw w s4 h;have TO:=hide fun w=>Gy t.fr t.tu t.am t.no w;have ha1:=hide ha;have hb1:=hide hb;have hc1:=hide hc;clear ha hb hc s1 s2 s3 s4 hk;unfold aQ;generalize DY n f t.pv t.ps t.pw=r1 at *;have sZ:Hid (decide (A_ n f)=true→A_ n f):=hide fun h=>of_decide_eq_true h;generalize decide (A_ n f)=b1 at *;generalize J7 t=b2 at *;obtain⟨w0,hw0,AO,LC,A,DC⟩:=Gb w #[.int .i64 n,.int .i64 f] 48 #[.int .i64 t.k,.int .i64 t.vw,.string t.bn,.int .i64 t.bv,.string t.bs,.slice ao t.bw.length ca,.int .i64 t.pv,.string t.ps,.slice bo t.pw.length cb,.int .i64 t.qv,.string t.qs,.slice co t.qw.length cc,.int .i64 t.wh,.int .i64 t.fr,.int .i64 t.tu,.int .i64 t.am,.int .i64 t.no] 75;go_enter Tryz.func86,Tryz.ntmps86
 obtain⟨Ae,Ai⟩:=Cn LC 0 1;go_wp2_with fail
 clear hw0;refine(CO.out _).mono ?_;rintro _ w1 ⟨rfl,bb⟩;clear Ae Ai;have AZ:=bu AO bb;have Cx:=bb.size;replace LC:=LC.up bb;replace A:=A.up bb;clear AO bb;cases b1
 ·go_wp2;go_ret;exact⟨by simp,AZ⟩
 go_wp2_with (first|(refine Ap A 75 _ rfl _ rfl rfl Tryz.underlying75 rfl (by kernel_rfl) ?_))
 refine(ZE.out _ (ha1.out.below AZ) (hb1.out.below AZ) (hc1.out.below AZ)).mono ?_;rintro _ w2 ⟨rfl,bb⟩;have Ao:=bu AZ bb;have Ex:=bb.size;replace LC:=LC.up bb;replace A:=A.up bb;clear AZ bb;cases b2
 ·go_wp2;go_ret;exact⟨by simp,Ao⟩
 obtain⟨Ae,Ai⟩:=Cn LC 0 1;obtain⟨Bi,Gq,Ga,Gp⟩:=WT A 0 6 7 8;go_wp2_with fail
 refine(PO.out _ (hb1.out.below Ao)).mono ?_;rintro _ w3 ⟨rfl,bb⟩;clear Ae Ai Bi Gq Ga Gp;have BK:=bu Ao bb;have IW:=bb.size;replace LC:=LC.up bb;replace A:=A.up bb;clear Ao bb;cases r1
 ·go_wp2;go_ret;exact⟨by simp,BK⟩
 have Ga:=A.cell 7 rfl;go_wp2;go_ret;exact⟨by simp,BK⟩
theorem Ue(n f:Int)(t:MT)(ao bo co:Option Addr)(ca cb cc:Nat)(w:World)(hk:t.k=3)(hs:MS t)(ha:RI w (.slice ao t.bw.length ca) t.bw)(hb:RI w (.slice bo t.pw.length cb) t.pw)(hc:RI w (.slice co t.qw.length cc) t.qw):
 Calls Tryz.prog 86 #[cv n f,Dw t (.slice ao t.bw.length ca) (.slice bo t.pw.length cb) (.slice co t.qw.length cc)] w fun e w'=>e= .returned (.bool (decide (A_ n f)&&(J7 t&&aP n f t)))∧Below w.heap.size w w':=by
 have dk1:decide (t.k=1)=false:=by simp;omega
 have ZY:(t.k==1)=false:=by simp;omega
 have dk2:decide (t.k=2)=false:=by simp;omega
 have jR:(t.k==2)=false:=by simp;omega
 have dk3:decide (t.k=3)=true:=by simpa using hk
 have pq:(t.k==3)=true:=by simpa using hk
 obtain⟨s1,s2,s3,s4⟩:=hs;have IN:Hid (∀(x lo hi:Int)(w:World),Calls Tryz.prog 81 #[.int .i64 x,.int .i64 lo,.int .i64 hi] w fun e w'=>e= .returned (.bool (decide (lo≤x∧x≤hi)))∧Below w.heap.size w w'):=hide fun x lo hi w=>(GX x lo hi w).mono (by rintro e w' ⟨h,rfl⟩;exact⟨h,Below.refl _ _⟩);have CO:=hide fun w=>Bc n f w;have ZE:=hide fun w h1 h2 h3=>FK t ao bo co ca cb cc w h1 h2 h3;have BO:=hide fun w h=>FH n f t.bn t.bv t.bs ao ca t.bw w s1 s2 h;have PO:=hide fun w h=>Ey n f t.pv t.ps (.slice bo t.pw.length cb) t.pw w s3 h;have QO:=hide fun w h=>Fv n f t.qv t.qs co cc t.qw w s4 h;have TO:=hide fun w=>Gy t.fr t.tu t.am t.no w;have ha1:=hide ha;have hb1:=hide hb;have hc1:=hide hc;clear ha hb hc s1 s2 s3 s4 hk;unfold aP;generalize Gi n f t.qv t.qs t.qw=r2 at *;have i1:=hide fun w=>IN.out t.vw 1 60 w;have i2:=hide fun w=>IN.out t.wh 0 (n-1) w;generalize decide (1≤t.vw∧t.vw≤60)=r1 at *;generalize decide (0≤t.wh∧t.wh≤n-1)=r3 at *;have wn0:Hid (A_ n f→IntKind.i64.wrap (n-1)=n-1):=hide fun h=>by rw[IntKind.wrap_i64]<;>(unfold A_ at h;omega)
 have sZ:Hid (decide (A_ n f)=true→A_ n f):=hide fun h=>of_decide_eq_true h;generalize decide (A_ n f)=b1 at *;generalize J7 t=b2 at *;obtain⟨w0,hw0,AO,LC,A,DC⟩:=Gb w #[.int .i64 n,.int .i64 f] 48 #[.int .i64 t.k,.int .i64 t.vw,.string t.bn,.int .i64 t.bv,.string t.bs,.slice ao t.bw.length ca,.int .i64 t.pv,.string t.ps,.slice bo t.pw.length cb,.int .i64 t.qv,.string t.qs,.slice co t.qw.length cc,.int .i64 t.wh,.int .i64 t.fr,.int .i64 t.tu,.int .i64 t.am,.int .i64 t.no] 75;go_enter Tryz.func86,Tryz.ntmps86
 obtain⟨Ae,Ai⟩:=Cn LC 0 1;go_wp2_with fail
 clear hw0;refine(CO.out _).mono ?_;rintro _ w1 ⟨rfl,bb⟩;clear Ae Ai;have AZ:=bu AO bb;have Cx:=bb.size;replace LC:=LC.up bb;replace A:=A.up bb;clear AO bb;cases b1
 ·go_wp2;go_ret;exact⟨by simp,AZ⟩
 have wn:=wn0.out (sZ.out rfl);go_wp2_with (first|(refine Ap A 75 _ rfl _ rfl rfl Tryz.underlying75 rfl (by kernel_rfl) ?_))
 refine(ZE.out _ (ha1.out.below AZ) (hb1.out.below AZ) (hc1.out.below AZ)).mono ?_;rintro _ w2 ⟨rfl,bb⟩;have Ao:=bu AZ bb;have Ex:=bb.size;replace LC:=LC.up bb;replace A:=A.up bb;clear AZ bb;cases b2
 ·go_wp2;go_ret;exact⟨by simp,Ao⟩
 obtain⟨Bi,Db⟩:=Cn A 0 1;go_wp2_with fail
 refine(i1.out _).mono ?_;rintro _ w3 ⟨rfl,bb⟩;clear Bi Db;have BK:=bu Ao bb;have IW:=bb.size;replace LC:=LC.up bb;replace A:=A.up bb;clear Ao bb;cases r1
 ·obtain⟨Ae,Ai⟩:=Cn LC 0 1;have Db:=A.cell 1 rfl;go_wp2;go_ret;exact⟨by simp,BK⟩
 obtain⟨Ae,Ai⟩:=Cn LC 0 1;obtain⟨Fp,CG,Cm⟩:=B_ A 9 10 11;go_wp2_with fail
 refine(QO.out _ (hc1.out.below BK)).mono ?_;rintro _ w4 ⟨rfl,bb⟩;clear Ae Ai Fp CG Cm;have Co:=bu BK bb;have OJ:=bb.size;replace LC:=LC.up bb;replace A:=A.up bb;clear BK bb;cases r2
 ·obtain⟨Ae,Ai⟩:=Cn LC 0 1;obtain⟨Fp,CG,Cm⟩:=B_ A 9 10 11;go_wp2;go_ret;exact⟨by simp,Co⟩
 obtain⟨Ae,Ai⟩:=Cn LC 0 1;have C9:=A.cell 12 rfl;go_wp2_with fail
 refine(i2.out _).mono ?_;rintro _ w5 ⟨rfl,bb⟩;clear Ae Ai C9;have FT:=bu Co bb;have Z8:=bb.size;replace LC:=LC.up bb;replace A:=A.up bb;clear Co bb;go_wp2;go_ret;exact⟨by simp,FT⟩
theorem Ud(n f:Int)(t:MT)(ao bo co:Option Addr)(ca cb cc:Nat)(w:World)(hk:t.k=4)(hs:MS t)(ha:RI w (.slice ao t.bw.length ca) t.bw)(hb:RI w (.slice bo t.pw.length cb) t.pw)(hc:RI w (.slice co t.qw.length cc) t.qw):
 Calls Tryz.prog 86 #[cv n f,Dw t (.slice ao t.bw.length ca) (.slice bo t.pw.length cb) (.slice co t.qw.length cc)] w fun e w'=>e= .returned (.bool (decide (A_ n f)&&(J7 t&&aO t)))∧Below w.heap.size w w':=by
 have dk1:decide (t.k=1)=false:=by simp;omega
 have ZY:(t.k==1)=false:=by simp;omega
 have dk2:decide (t.k=2)=false:=by simp;omega
 have jR:(t.k==2)=false:=by simp;omega
 have dk3:decide (t.k=3)=false:=by simp;omega
 have pq:(t.k==3)=false:=by simp;omega
 have xE:decide (t.k=4)=true:=by simpa using hk
 have xB:(t.k==4)=true:=by simpa using hk
 obtain⟨s1,s2,s3,s4⟩:=hs;have IN:Hid (∀(x lo hi:Int)(w:World),Calls Tryz.prog 81 #[.int .i64 x,.int .i64 lo,.int .i64 hi] w fun e w'=>e= .returned (.bool (decide (lo≤x∧x≤hi)))∧Below w.heap.size w w'):=hide fun x lo hi w=>(GX x lo hi w).mono (by rintro e w' ⟨h,rfl⟩;exact⟨h,Below.refl _ _⟩);have CO:=hide fun w=>Bc n f w;have ZE:=hide fun w h1 h2 h3=>FK t ao bo co ca cb cc w h1 h2 h3;have BO:=hide fun w h=>FH n f t.bn t.bv t.bs ao ca t.bw w s1 s2 h;have PO:=hide fun w h=>Ey n f t.pv t.ps (.slice bo t.pw.length cb) t.pw w s3 h;have QO:=hide fun w h=>Fv n f t.qv t.qs co cc t.qw w s4 h;have TO:=hide fun w=>Gy t.fr t.tu t.am t.no w;have ha1:=hide ha;have hb1:=hide hb;have hc1:=hide hc;clear ha hb hc s1 s2 s3 s4 hk;unfold aO;generalize decide (BG t.fr t.tu t.am t.no)=r1 at *;have sZ:Hid (decide (A_ n f)=true→A_ n f):=hide fun h=>of_decide_eq_true h;generalize decide (A_ n f)=b1 at *;generalize J7 t=b2 at *;obtain⟨w0,hw0,AO,LC,A,DC⟩:=Gb w #[.int .i64 n,.int .i64 f] 48 #[.int .i64 t.k,.int .i64 t.vw,.string t.bn,.int .i64 t.bv,.string t.bs,.slice ao t.bw.length ca,.int .i64 t.pv,.string t.ps,.slice bo t.pw.length cb,.int .i64 t.qv,.string t.qs,.slice co t.qw.length cc,.int .i64 t.wh,.int .i64 t.fr,.int .i64 t.tu,.int .i64 t.am,.int .i64 t.no] 75;go_enter Tryz.func86,Tryz.ntmps86
 obtain⟨Ae,Ai⟩:=Cn LC 0 1;go_wp2_with fail
 clear hw0;refine(CO.out _).mono ?_;rintro _ w1 ⟨rfl,bb⟩;clear Ae Ai;have AZ:=bu AO bb;have Cx:=bb.size;replace LC:=LC.up bb;replace A:=A.up bb;clear AO bb;cases b1
 ·go_wp2;go_ret;exact⟨by simp,AZ⟩
 go_wp2_with (first|(refine Ap A 75 _ rfl _ rfl rfl Tryz.underlying75 rfl (by kernel_rfl) ?_))
 refine(ZE.out _ (ha1.out.below AZ) (hb1.out.below AZ) (hc1.out.below AZ)).mono ?_;rintro _ w2 ⟨rfl,bb⟩;have Ao:=bu AZ bb;have Ex:=bb.size;replace LC:=LC.up bb;replace A:=A.up bb;clear AZ bb;cases b2
 ·go_wp2;go_ret;exact⟨by simp,Ao⟩
 obtain⟨Bi,BV,DR,DN,DL⟩:=Za A 0 13 14 15 16;go_wp2_with fail
 refine(TO.out _).mono ?_;rintro _ w3 ⟨rfl,bb⟩;clear Bi BV DR DN DL;have BK:=bu Ao bb;have IW:=bb.size;replace LC:=LC.up bb;replace A:=A.up bb;clear Ao bb;go_wp2;go_ret;exact⟨by simp,BK⟩
theorem Uh(n f:Int)(t:MT)(ao bo co:Option Addr)(ca cb cc:Nat)(w:World)(h1:¬t.k=1)(h2:¬t.k=2)(h3:¬t.k=3)(h4:¬t.k=4)(hs:MS t)(ha:RI w (.slice ao t.bw.length ca) t.bw)(hb:RI w (.slice bo t.pw.length cb) t.pw)(hc:RI w (.slice co t.qw.length cc) t.qw):
 Calls Tryz.prog 86 #[cv n f,Dw t (.slice ao t.bw.length ca) (.slice bo t.pw.length cb) (.slice co t.qw.length cc)] w fun e w'=>e= .returned (.bool (decide (A_ n f)&&(J7 t&&false)))∧Below w.heap.size w w':=by
 have dk1:decide (t.k=1)=false:=by simp;omega
 have ZY:(t.k==1)=false:=by simp;omega
 have dk2:decide (t.k=2)=false:=by simp;omega
 have jR:(t.k==2)=false:=by simp;omega
 have dk3:decide (t.k=3)=false:=by simp;omega
 have pq:(t.k==3)=false:=by simp;omega
 have xE:decide (t.k=4)=false:=by simp;omega
 have xB:(t.k==4)=false:=by simp;omega
 obtain⟨s1,s2,s3,s4⟩:=hs;have IN:Hid (∀(x lo hi:Int)(w:World),Calls Tryz.prog 81 #[.int .i64 x,.int .i64 lo,.int .i64 hi] w fun e w'=>e= .returned (.bool (decide (lo≤x∧x≤hi)))∧Below w.heap.size w w'):=hide fun x lo hi w=>(GX x lo hi w).mono (by rintro e w' ⟨h,rfl⟩;exact⟨h,Below.refl _ _⟩);have CO:=hide fun w=>Bc n f w;have ZE:=hide fun w h1 h2 h3=>FK t ao bo co ca cb cc w h1 h2 h3;have BO:=hide fun w h=>FH n f t.bn t.bv t.bs ao ca t.bw w s1 s2 h;have PO:=hide fun w h=>Ey n f t.pv t.ps (.slice bo t.pw.length cb) t.pw w s3 h;have QO:=hide fun w h=>Fv n f t.qv t.qs co cc t.qw w s4 h;have TO:=hide fun w=>Gy t.fr t.tu t.am t.no w;have ha1:=hide ha;have hb1:=hide hb;have hc1:=hide hc;clear ha hb hc s1 s2 s3 s4;have sZ:Hid (decide (A_ n f)=true→A_ n f):=hide fun h=>of_decide_eq_true h;generalize decide (A_ n f)=b1 at *;generalize J7 t=b2 at *;obtain⟨w0,hw0,AO,LC,A,DC⟩:=Gb w #[.int .i64 n,.int .i64 f] 48 #[.int .i64 t.k,.int .i64 t.vw,.string t.bn,.int .i64 t.bv,.string t.bs,.slice ao t.bw.length ca,.int .i64 t.pv,.string t.ps,.slice bo t.pw.length cb,.int .i64 t.qv,.string t.qs,.slice co t.qw.length cc,.int .i64 t.wh,.int .i64 t.fr,.int .i64 t.tu,.int .i64 t.am,.int .i64 t.no] 75;go_enter Tryz.func86,Tryz.ntmps86
 obtain⟨Ae,Ai⟩:=Cn LC 0 1;go_wp2_with fail
 clear hw0;refine(CO.out _).mono ?_;rintro _ w1 ⟨rfl,bb⟩;clear Ae Ai;have AZ:=bu AO bb;have Cx:=bb.size;replace LC:=LC.up bb;replace A:=A.up bb;clear AO bb;cases b1
 ·go_wp2;go_ret;exact⟨by simp,AZ⟩
 go_wp2_with (first|(refine Ap A 75 _ rfl _ rfl rfl Tryz.underlying75 rfl (by kernel_rfl) ?_))
 refine(ZE.out _ (ha1.out.below AZ) (hb1.out.below AZ) (hc1.out.below AZ)).mono ?_;rintro _ w2 ⟨rfl,bb⟩;have Ao:=bu AZ bb;have Ex:=bb.size;replace LC:=LC.up bb;replace A:=A.up bb;clear AZ bb;cases b2
 ·go_wp2;go_ret;exact⟨by simp,Ao⟩
 have Bi:=A.cell 0 rfl;go_wp2;go_ret;exact⟨by simp,Ao⟩
theorem Qg(n f:Int)(t:MT)(ao bo co:Option Addr)(ca cb cc:Nat)(w:World)(hs:MS t)(ha:RI w (.slice ao t.bw.length ca) t.bw)(hb:RI w (.slice bo t.pw.length cb) t.pw)(hc:RI w (.slice co t.qw.length cc) t.qw):
 Calls Tryz.prog 86 #[cv n f,Dw t (.slice ao t.bw.length ca) (.slice bo t.pw.length cb) (.slice co t.qw.length cc)] w fun e w'=>e= .returned (.bool (Ox n f t))∧Below w.heap.size w w':=by
 unfold Ox;rcases kinds t.k with h|h|h|h|⟨h1,h2,h3,h4⟩
 ·rw[vZ h];exact Ug n f t ao bo co ca cb cc w h hs ha hb hc
 ·rw[vY h];exact Uf n f t ao bo co ca cb cc w h hs ha hb hc
 ·rw[vX h];exact Ue n f t ao bo co ca cb cc w h hs ha hb hc
 ·rw[vW h];exact Ud n f t ao bo co ca cb cc w h hs ha hb hc
 rw[ve h1 h2 h3 h4];exact Uh n f t ao bo co ca cb cc w h1 h2 h3 h4 hs ha hb hc
end
section
open Go Go.RowKit
variable [∀(a b c d:Int),Decidable (BG a b c d)] [∀(n f:Int),Decidable (A_ n f)] [∀(a b c d:Nat),Decidable (DZ a b c d)] [∀(x:T4),Decidable (Du x)] [∀(last:Int)(s:St),Decidable (Aq last s)] [∀(n:Int)(s:List Int),Decidable (Dv n s)] [∀(x y:T4),Decidable (Gs x y)] [∀(ts:List T4),Decidable (Asc ts)] [∀(ts:List T4),Decidable (DU ts)] [∀(ts:List T4),Decidable (JM ts)]
def LF(n f id:Int)(p:Ba):Bool:=Ox n f p.2&&(decide (0≤p.1∧p.1≤n-1)&&!(decide (p.1=id)))
def Ez(n f id:Int)(ps:List Ba):Bool:=ps.all (LF n f id)
def Dt(n f:Int)(t:Bt):Bool:=decide (A_ n f)&&(decide (0≤t.id∧t.id≤n-1)&&(decide (1≤t.vw∧t.vw≤60)&&(decide (0≤t.ak∧t.ak≤60)&&(K8 n f t.vo t.lo t.n t.s t.qw t.d&&(decide (JM t.pool)&&(Jb n f t.tab&&(Jn t.AU.length t.su&&(decide (t.held.length≤30)&&Ez n f t.id t.held))))))))
theorem jD{n f id:Int}{ps:List Ba}{k:Nat}(hk:k<ps.length)(h:LF n f id (ps.getD k AL)=false):Ez n f id ps=false:=by
 unfold Ez;rw[List.all_eq_false];exact⟨ps.getD k AL,by rw[List.getD_eq_getElem?_getD,List.getElem?_eq_getElem hk];exact List.getElem_mem hk,by rw[h];simp⟩
theorem Vm{n f id:Int}{ps:List Ba}{k:Nat}(hk:k<ps.length)(h0:Ez n f id (ps.take k)=true)(h:LF n f id (ps.getD k AL)=true):Ez n f id (ps.take (k+1))=true:=by
 unfold Ez at h0⊢;rw[List.take_succ_eq_append_getElem hk,List.all_append,h0];have:ps.getD k AL=ps[k]:=by simp[List.getElem?_eq_getElem hk]
 rw[←this];simp only[List.all_cons,List.all_nil,h,Bool.and_true]
theorem Rx{w:World}{b o:Nat}{c:Value}{cs:List Value}(h:w.rangeAt b o (c :: cs)):w.rangeAt b (o+1) cs:=fun j v hv=>by
 have:=h (j+1) v (by simpa using hv);rw[show o+1+j=o+(j+1) by omega];exact this
structure RS(t:Bt):Prop where
 s:t.s.size≤1048576
 d:t.d.size≤1048576
 tb:∀p ∈ t.tab,p.2.1.size≤1048576
 h:∀j,j<t.held.length→MS (t.held.getD j AL).2
theorem aD(n f:Int)(t:Bt)(ao bo co od oe:Option Addr)(ca cb cc cd ce:Nat)(w:World)(hm:I7 t)(hs:RS t)(h:En w t (.slice ao t.qw.length ca) (.slice bo t.pool.length cb) (.slice co t.tab.length cc) (.slice od t.AU.length cd) (.slice oe t.held.length ce)):
 Calls Tryz.prog 30 #[cv n f,Dz t (.slice ao t.qw.length ca) (.slice bo t.pool.length cb) (.slice co t.tab.length cc) (.slice od t.AU.length cd) (.slice oe t.held.length ce)] w fun e w'=>e= .returned (.bool (Dt n f t))∧Below w.heap.size w w':=by
 have IN:Hid (∀(x lo hi:Int)(w:World),Calls Tryz.prog 81 #[.int .i64 x,.int .i64 lo,.int .i64 hi] w fun e w'=>e= .returned (.bool (decide (lo≤x∧x≤hi)))∧Below w.heap.size w w'):=hide fun x lo hi w=>(GX x lo hi w).mono (by rintro e w' ⟨h,rfl⟩;exact⟨h,Below.refl _ _⟩);have CO:=hide fun w=>Bc n f w;have SO:=hide fun w h=>XP n f t.vo t.lo t.n t.s ao ca t.qw t.d w hs.s hs.d h;have PO:=hide fun w h=>XY (.slice bo t.pool.length cb) t.pool w h;have TO:=hide fun w h=>Uc n f (.slice co t.tab.length cc) t.tab w (by have:=hm.tb;omega) hs.tb h;have DO:=hide fun w=>XZ od t.AU.length cd t.su w;have MO:=hide fun j hj a b c ka kb kc w h1 h2 h3=>Qg n f (t.held.getD j AL).2 a b c ka kb kc w (hs.h j hj) h1 h2 h3;have HR:=hide h;have sZ:Hid (decide (A_ n f)=true→IntKind.i64.wrap (n-1)=n-1):=hide fun h=>by have:=of_decide_eq_true h;rw[IntKind.wrap_i64]<;>(unfold A_ at this;omega)
 clear h hs;have i1:=hide fun w=>IN.out t.id 0 (n-1) w;have i2:=hide fun w=>IN.out t.vw 1 60 w;have i3:=hide fun w=>IN.out t.ak 0 60 w;have i4:=hide fun x w=>IN.out x 0 (n-1) w;unfold Dt;have NX:=hide fun k(hk:k<t.held.length)(h0:Ez n f t.id (t.held.take k)=true)(h:LF n f t.id (t.held.getD k AL)=true)=>Vm hk h0 h;have NO:=hide fun k(hk:k<t.held.length)(h:LF n f t.id (t.held.getD k AL)=false)=>jD hk h;have FU:Hid (Ez n f t.id (t.held.take t.held.length)=true→Ez n f t.id t.held=true):=hide fun h=>by rwa [List.take_of_length_le Ak]at h
 have hb5:decide ((t.held.length:Int)>30)=!decide (t.held.length≤30):=by by_cases h:t.held.length≤30<;>simp[h]<;>omega
 generalize decide (A_ n f)=b0 at *;generalize decide (0≤t.id∧t.id≤n-1)=b1 at *;generalize decide (1≤t.vw∧t.vw≤60)=b2 at *;generalize decide (0≤t.ak∧t.ak≤60)=b3 at *;generalize K8 n f t.vo t.lo t.n t.s t.qw t.d=b4 at *;generalize decide (JM t.pool)=b5 at *;generalize Jb n f t.tab=b6 at *;generalize Jn t.AU.length t.su=b7 at *;generalize decide (t.held.length≤30)=b8 at *;obtain⟨w0,hw0,AO,LC,A,DC⟩:=Gb w #[.int .i64 n,.int .i64 f] 48 #[.int .i64 t.id,.int .i64 t.vw,.int .i64 t.ak,.int .i64 t.vo,.int .i64 t.lo,.int .i64 t.n,.string t.s,.slice ao t.qw.length ca,.string t.d,.slice bo t.pool.length cb,.slice co t.tab.length cc,.slice od t.AU.length cd,.int .i64 t.su,.slice oe t.held.length ce] 46;go_enter Tryz.func30,Tryz.ntmps30
 obtain⟨Ae,Ai⟩:=Cn LC 0 1;go_wp2_with fail
 clear hw0;refine(CO.out _).mono ?_;rintro _ w1 ⟨rfl,bb⟩;clear Ae Ai;have AZ:=bu AO bb;have Cx:=bb.size;replace LC:=LC.up bb;replace A:=A.up bb;clear AO bb;cases b0
 ·have BV:=A.cell 13 rfl;go_wp2;go_ret;exact⟨by simp,AZ⟩
 have wn:=sZ.out rfl;obtain⟨Ae,Ai⟩:=Cn LC 0 1;have Bi:=A.cell 0 rfl;go_wp2_with fail
 refine(i1.out _).mono ?_;rintro _ w2 ⟨rfl,bb⟩;clear Ae Ai Bi;have Ao:=bu AZ bb;have Ex:=bb.size;replace LC:=LC.up bb;replace A:=A.up bb;clear AZ bb;cases b1
 ·have BV:=A.cell 13 rfl;go_wp2;go_ret;exact⟨by simp,Ao⟩
 have Ae:=LC.cell 0 rfl;obtain⟨Bi,Db⟩:=Cn A 0 1;go_wp2_with fail
 refine(i2.out _).mono ?_;rintro _ w3 ⟨rfl,bb⟩;clear Ae Bi Db;have BK:=bu Ao bb;have IW:=bb.size;replace LC:=LC.up bb;replace A:=A.up bb;clear Ao bb;cases b2
 ·have BV:=A.cell 13 rfl;go_wp2;go_ret;exact⟨by simp,BK⟩
 have Ae:=LC.cell 0 rfl;obtain⟨Bi,Db,Da⟩:=B_ A 0 1 2;go_wp2_with fail
 refine(i3.out _).mono ?_;rintro _ w4 ⟨rfl,bb⟩;clear Ae Bi Db Da;have Co:=bu BK bb;have OJ:=bb.size;replace LC:=LC.up bb;replace A:=A.up bb;clear BK bb;cases b3
 ·have BV:=A.cell 13 rfl;go_wp2;go_ret;exact⟨by simp,Co⟩
 obtain⟨Ae,Ai⟩:=Cn LC 0 1;obtain⟨Bi,Db,Da⟩:=B_ A 0 1 2;go_wp2_with (first|(refine A9 [.int .i64 t.vo,.int .i64 t.lo,.int .i64 t.n,.string t.s,.slice ao t.qw.length ca,.string t.d] (A.range 3 6 rfl) 40 _ rfl _ rfl rfl Tryz.underlying40 rfl (by kernel_rfl) ?_))
 refine(SO.out _ (HR.out.q.below Co)).mono ?_;rintro _ w5 ⟨rfl,bb⟩;clear Ae Ai Bi Db Da;have FT:=bu Co bb;have Z8:=bb.size;replace LC:=LC.up bb;replace A:=A.up bb;clear Co bb;cases b4
 ·have BV:=A.cell 13 rfl;go_wp2;go_ret;exact⟨by simp,FT⟩
 obtain⟨Ae,Ai⟩:=Cn LC 0 1;have Fp:=A.cell 9 rfl;go_wp2_with fail
 refine(PO.out _ (HR.out.p.below FT)).mono ?_;rintro _ w6 ⟨rfl,bb⟩;clear Ae Ai Fp;have I8:=bu FT bb;have lW:=bb.size;replace LC:=LC.up bb;replace A:=A.up bb;clear FT bb;cases b5
 ·have BV:=A.cell 13 rfl;go_wp2;go_ret;exact⟨by simp,I8⟩
 obtain⟨Ae,Ai⟩:=Cn LC 0 1;have CG:=A.cell 10 rfl;go_wp2_with fail
 refine(TO.out _ (HR.out.tb.below I8)).mono ?_;rintro _ w7 ⟨rfl,bb⟩;clear Ae Ai CG;have Ll:=bu I8 bb;have vQ:=bb.size;replace LC:=LC.up bb;replace A:=A.up bb;clear I8 bb;cases b6
 ·have BV:=A.cell 13 rfl;go_wp2;go_ret;exact⟨by simp,Ll⟩
 obtain⟨Ae,Ai⟩:=Cn LC 0 1;have CG:=A.cell 10 rfl;go_wp2_with (first|(refine A9 [.slice od t.AU.length cd,.int .i64 t.su] (A.range 11 2 rfl) 43 _ rfl _ rfl rfl Tryz.underlying43 rfl (by kernel_rfl) ?_))
 refine(DO.out _).mono ?_;rintro _ w8 ⟨rfl,bb⟩;clear Ae Ai CG;have Ra:=bu Ll bb;have vP:=bb.size;replace LC:=LC.up bb;replace A:=A.up bb;clear Ll bb;cases b7
 ·have BV:=A.cell 13 rfl;go_wp2;go_ret;exact⟨by simp,Ra⟩
 have BV:=A.cell 13 rfl;cases b8
 ·clear BV;have BV:=A.cell 13 rfl;go_wp2;go_ret;exact⟨by simp,Ra⟩
 clear BV;have BV:=A.cell 13 rfl;obtain⟨Ae,Ai⟩:=Cn LC 0 1;have hlen:(t.held.length:Int)≤1048577:=by have:=hm.h;omega
 go_wp2;clear BV Ae Ai
 go_loopw [5] (fun i wr=>∃k:Nat,k≤t.held.length∧i= .int .i64 k∧Below w8.heap.size w8 wr∧Ez n f t.id (t.held.take k)=true) (fun i _=>t.held.length-(intOf i).toNat)
 case atStart=>exact⟨0,Nat.zero_le _,rfl,Below.refl _ _,rfl⟩
 case round=>
  obtain⟨k,hk,rfl,br,ho⟩:=hrel;have zN:=LC.up br;have Ar:=A.up br;have BR:=bu Ra br;have a13:=Ar.cell 13 rfl;have lc0:=zN.cell 0 rfl;have lc1:=zN.cell 1 rfl;have a0:=Ar.cell 0 rfl;by_cases hlt:k<t.held.length
  ·have hr:=HR.out.h.below BR;obtain⟨g,off,cs,rfl,_,c1,a,b,c,e,ra,rb,rc⟩:=RG.at hr k hlt;subst e;have PN:Hid (LF n f t.id (t.held.getD k AL)=false→Ez n f t.id t.held=false):=hide fun h=>NO.out k hlt h;have PY:Hid (LF n f t.id (t.held.getD k AL)=true→Ez n f t.id (t.held.take (k+1))=true):=hide fun h=>NX.out k hlt ho h;have zM:=hide fun a b c ka kb kc w h1 h2 h3=>MO.out k hlt a b c ka kb kc w h1 h2 h3;clear hr NO NX MO ho;unfold LF at PN PY;generalize (t.held.getD k AL).1=m at *;generalize (t.held.getD k AL).2=u at *;have I4:=hide fun w=>i4.out m w;have hq3:(m==t.id)=decide (m=t.id):=by by_cases h:m=t.id<;>simp[h]
   generalize Ox n f u=p1 at *;generalize decide (0≤m∧m≤n-1)=p2 at *;generalize hp3:decide (m=t.id)=p3 at *;clear i4 IN hp3;have c0:wr.cell? ⟨g,off+k*18,none⟩=some (.int .i64 m):=c1 0 _ rfl;have c17:=Rx c1;clear c1;have R1:=hide ra;have R2:=hide rb;have R3:=hide rc;obtain⟨oa,ka,rfl⟩:=ra.form;obtain⟨ob,kb,rfl⟩:=rb.form;obtain⟨oc,kc,rfl⟩:=rc.form;clear ra rb rc;have g0:g<wr.heap.size:=AQ c0;have K:Hid (∀w',Below wr.heap.size wr w'→(fun w'=>Below wr.heap.size wr w'∧w'.cell? ⟨w.heap.size,0,none⟩=some (.int .i64 n)∧w'.cell? ⟨w.heap.size,1,none⟩=some (.int .i64 f)∧w'.cell? ⟨w.heap.size+1,13,none⟩=some (.slice (some ⟨g,off,none⟩) t.held.length ce)∧w'.cell? ⟨w.heap.size+1,0,none⟩=some (.int .i64 t.id)∧w'.cell? ⟨g,off+k*18,none⟩=some (.int .i64 m)∧w'.rangeAt g (off+k*18+1) [.int .i64 u.k,.int .i64 u.vw,.string u.bn,.int .i64 u.bv,.string u.bs,.slice oa u.bw.length ka,.int .i64 u.pv,.string u.ps,.slice ob u.pw.length kb,.int .i64 u.qv,.string u.qs,.slice oc u.qw.length kc,.int .i64 u.wh,.int .i64 u.fr,.int .i64 u.tu,.int .i64 u.am,.int .i64 u.no]) w'):=hide fun w' hb'=>⟨hb',(zN.up hb').cell 0 rfl,(zN.up hb').cell 1 rfl,(Ar.up hb').cell 13 rfl,(Ar.up hb').cell 0 rfl,(hb'.cell (p:=⟨g,off+k*18,none⟩) g0).trans c0,Ac c17 hb' (Ca c17 (by simp))⟩
   clear c17 c0 g0;cases p1
   ·go_upto_region 6 with fail
    refine FC K (fun bA hHeld=>?_);refine tx 0 69 ?_;refine tx 1 70 ?_;refine tx 3 72 ?_;refine tx 2 71 ?_;refine tx 4 73 ?_;refine tx 5 74 ?_;refine take_at (i:=6) (d:=75) (v:= .agg #[.int .i64 u.k,.int .i64 u.vw,.string u.bn,.int .i64 u.bv,.string u.bs,.slice oa u.bw.length ka,.int .i64 u.pv,.string u.ps,.slice ob u.pw.length kb,.int .i64 u.qv,.string u.qs,.slice oc u.qw.length kc,.int .i64 u.wh,.int .i64 u.fr,.int .i64 u.tu,.int .i64 u.am,.int .i64 u.no]) rfl rfl (by kernel_rfl) (by kernel_rfl) (by kernel_rfl) (fun _ _ _ h=>h) ?_ (by assumption) ?_
    ·exact Bb rfl 75 _ rfl rfl [.int .i64 u.k,.int .i64 u.vw,.string u.bn,.int .i64 u.bv,.string u.bs,.slice oa u.bw.length ka,.int .i64 u.pv,.string u.ps,.slice ob u.pw.length kb,.int .i64 u.qv,.string u.qs,.slice oc u.qw.length kc,.int .i64 u.wh,.int .i64 u.fr,.int .i64 u.tu,.int .i64 u.am,.int .i64 u.no] _ (fun w h=>h.2.2.2.2.2.2) Tryz.underlying75 rfl (by kernel_rfl)
    simp only[pU];refine rd 7 rfl (fun KK AA=>?_);go_simp;have hgo:=bA;refine(zM.out _ _ _ _ _ _ _ (R1.out.below bA) (R2.out.below bA) (R3.out.below bA)).mono ?_;rintro e kT ⟨rfl,bb⟩;have Au:Below wr.heap.size wr kT:=bu bA bb;clear bA hgo bb hHeld;refine AA.out _ _ (K.out _ Au) (fun hHeld=>?_);clear AA KK;refine tx 8 77 ?_;refine tx 9 78 ?_;refine sx 10 79 ?_;refine sx 12 81 ?_;refine sx 16 85 ?_;refine sx 11 80 ?_;refine sx 17 86 ?_;refine sx 13 82 ?_;refine sx 18 87 ?_;refine sx 14 83 ?_;refine sx 15 84 ?_;refine sx 19 88 ?_;refine sx 20 89 ?_;refine tx 21 90 ?_;refine tx 22 91 ?_;refine sx 23 92 ?_;refine sx 25 94 ?_;refine sx 29 98 ?_;refine sx 24 93 ?_;refine sx 30 99 ?_;refine sx 26 95 ?_;refine sx 27 96 ?_;refine sx 28 97 ?_;refine sx 31 100 ?_;refine tx 32 101 ?_;clear hHeld;refine Bw ?_;have BZ:=bu BR Au;have FA:=PN.out (by simp);clear PN PY K;go_wp2;go_ret;exact⟨by rw[FA];simp,BZ⟩
   cases p2
   ·go_upto_region 6 with fail
    refine FC K (fun bA hHeld=>?_);refine tx 0 69 ?_;refine tx 1 70 ?_;refine tx 3 72 ?_;refine tx 2 71 ?_;refine tx 4 73 ?_;refine tx 5 74 ?_;refine take_at (i:=6) (d:=75) (v:= .agg #[.int .i64 u.k,.int .i64 u.vw,.string u.bn,.int .i64 u.bv,.string u.bs,.slice oa u.bw.length ka,.int .i64 u.pv,.string u.ps,.slice ob u.pw.length kb,.int .i64 u.qv,.string u.qs,.slice oc u.qw.length kc,.int .i64 u.wh,.int .i64 u.fr,.int .i64 u.tu,.int .i64 u.am,.int .i64 u.no]) rfl rfl (by kernel_rfl) (by kernel_rfl) (by kernel_rfl) (fun _ _ _ h=>h) ?_ (by assumption) ?_
    ·exact Bb rfl 75 _ rfl rfl [.int .i64 u.k,.int .i64 u.vw,.string u.bn,.int .i64 u.bv,.string u.bs,.slice oa u.bw.length ka,.int .i64 u.pv,.string u.ps,.slice ob u.pw.length kb,.int .i64 u.qv,.string u.qs,.slice oc u.qw.length kc,.int .i64 u.wh,.int .i64 u.fr,.int .i64 u.tu,.int .i64 u.am,.int .i64 u.no] _ (fun w h=>h.2.2.2.2.2.2) Tryz.underlying75 rfl (by kernel_rfl)
    simp only[pU];refine rd 7 rfl (fun KK AA=>?_);go_simp;have hgo:=bA;refine(zM.out _ _ _ _ _ _ _ (R1.out.below bA) (R2.out.below bA) (R3.out.below bA)).mono ?_;rintro e kT ⟨rfl,bb⟩;have Au:Below wr.heap.size wr kT:=bu bA bb;clear bA hgo bb hHeld;refine AA.out _ _ (K.out _ Au) (fun hHeld=>?_);clear AA KK;refine tx 8 77 ?_;refine tx 9 78 ?_;refine tx 10 79 ?_;refine tx 12 81 ?_;refine tx 16 85 ?_;refine tx 11 80 ?_;refine tx 17 86 ?_;refine tx 13 82 ?_;refine tx 18 87 ?_;refine tx 14 83 ?_;refine tx 15 84 ?_;refine rd 19 rfl (fun KK AA=>?_);go_simp;have hgo:=Au;refine(I4.out _).mono ?_;rintro e om ⟨rfl,bb⟩;have BS:Below wr.heap.size wr om:=bu Au bb;clear Au hgo bb hHeld;refine AA.out _ _ (K.out _ BS) (fun hHeld=>?_);clear AA KK;refine tx 20 89 ?_;refine tx 21 90 ?_;refine tx 22 91 ?_;refine sx 23 92 ?_;refine sx 25 94 ?_;refine sx 29 98 ?_;refine sx 24 93 ?_;refine sx 30 99 ?_;refine sx 26 95 ?_;refine sx 27 96 ?_;refine sx 28 97 ?_;refine sx 31 100 ?_;refine tx 32 101 ?_;clear hHeld;refine Bw ?_;have BZ:=bu BR BS;have FA:=PN.out (by simp);clear PN PY K;go_wp2;go_ret;exact⟨by rw[FA];simp,BZ⟩
   cases p3
   ·go_upto_region 6 with fail
    refine FC K (fun bA hHeld=>?_);refine tx 0 69 ?_;refine tx 1 70 ?_;refine tx 3 72 ?_;refine tx 2 71 ?_;refine tx 4 73 ?_;refine tx 5 74 ?_;refine take_at (i:=6) (d:=75) (v:= .agg #[.int .i64 u.k,.int .i64 u.vw,.string u.bn,.int .i64 u.bv,.string u.bs,.slice oa u.bw.length ka,.int .i64 u.pv,.string u.ps,.slice ob u.pw.length kb,.int .i64 u.qv,.string u.qs,.slice oc u.qw.length kc,.int .i64 u.wh,.int .i64 u.fr,.int .i64 u.tu,.int .i64 u.am,.int .i64 u.no]) rfl rfl (by kernel_rfl) (by kernel_rfl) (by kernel_rfl) (fun _ _ _ h=>h) ?_ (by assumption) ?_
    ·exact Bb rfl 75 _ rfl rfl [.int .i64 u.k,.int .i64 u.vw,.string u.bn,.int .i64 u.bv,.string u.bs,.slice oa u.bw.length ka,.int .i64 u.pv,.string u.ps,.slice ob u.pw.length kb,.int .i64 u.qv,.string u.qs,.slice oc u.qw.length kc,.int .i64 u.wh,.int .i64 u.fr,.int .i64 u.tu,.int .i64 u.am,.int .i64 u.no] _ (fun w h=>h.2.2.2.2.2.2) Tryz.underlying75 rfl (by kernel_rfl)
    simp only[pU];refine rd 7 rfl (fun KK AA=>?_);go_simp;have hgo:=bA;refine(zM.out _ _ _ _ _ _ _ (R1.out.below bA) (R2.out.below bA) (R3.out.below bA)).mono ?_;rintro e kT ⟨rfl,bb⟩;have Au:Below wr.heap.size wr kT:=bu bA bb;clear bA hgo bb hHeld;refine AA.out _ _ (K.out _ Au) (fun hHeld=>?_);clear AA KK;refine tx 8 77 ?_;refine tx 9 78 ?_;refine tx 10 79 ?_;refine tx 12 81 ?_;refine tx 16 85 ?_;refine tx 11 80 ?_;refine tx 17 86 ?_;refine tx 13 82 ?_;refine tx 18 87 ?_;refine tx 14 83 ?_;refine tx 15 84 ?_;refine rd 19 rfl (fun KK AA=>?_);go_simp;have hgo:=Au;refine(I4.out _).mono ?_;rintro e om ⟨rfl,bb⟩;have BS:Below wr.heap.size wr om:=bu Au bb;clear Au hgo bb hHeld;refine AA.out _ _ (K.out _ BS) (fun hHeld=>?_);clear AA KK;refine tx 20 89 ?_;refine tx 21 90 ?_;refine tx 22 91 ?_;refine tx 23 92 ?_;refine tx 25 94 ?_;refine tx 29 98 ?_;refine tx 24 93 ?_;refine tx 30 99 ?_;refine tx 26 95 ?_;refine tx 27 96 ?_;refine tx 28 97 ?_;refine tx 31 100 ?_;refine tx 32 101 ?_;clear hHeld;refine Bw ?_;have BZ:=bu br BS;have TR:=PY.out (by simp);clear PN PY K;go_wp2
    go_roundw
    case rel=>exact⟨k+1,by omega,by go_num,BZ,TR⟩
    case measure=>simp[intOf];omega
   go_upto_region 6 with fail
   refine FC K (fun bA hHeld=>?_);refine tx 0 69 ?_;refine tx 1 70 ?_;refine tx 3 72 ?_;refine tx 2 71 ?_;refine tx 4 73 ?_;refine tx 5 74 ?_;refine take_at (i:=6) (d:=75) (v:= .agg #[.int .i64 u.k,.int .i64 u.vw,.string u.bn,.int .i64 u.bv,.string u.bs,.slice oa u.bw.length ka,.int .i64 u.pv,.string u.ps,.slice ob u.pw.length kb,.int .i64 u.qv,.string u.qs,.slice oc u.qw.length kc,.int .i64 u.wh,.int .i64 u.fr,.int .i64 u.tu,.int .i64 u.am,.int .i64 u.no]) rfl rfl (by kernel_rfl) (by kernel_rfl) (by kernel_rfl) (fun _ _ _ h=>h) ?_ (by assumption) ?_
   ·exact Bb rfl 75 _ rfl rfl [.int .i64 u.k,.int .i64 u.vw,.string u.bn,.int .i64 u.bv,.string u.bs,.slice oa u.bw.length ka,.int .i64 u.pv,.string u.ps,.slice ob u.pw.length kb,.int .i64 u.qv,.string u.qs,.slice oc u.qw.length kc,.int .i64 u.wh,.int .i64 u.fr,.int .i64 u.tu,.int .i64 u.am,.int .i64 u.no] _ (fun w h=>h.2.2.2.2.2.2) Tryz.underlying75 rfl (by kernel_rfl)
   simp only[pU];refine rd 7 rfl (fun KK AA=>?_);go_simp;have hgo:=bA;refine(zM.out _ _ _ _ _ _ _ (R1.out.below bA) (R2.out.below bA) (R3.out.below bA)).mono ?_;rintro e kT ⟨rfl,bb⟩;have Au:Below wr.heap.size wr kT:=bu bA bb;clear bA hgo bb hHeld;refine AA.out _ _ (K.out _ Au) (fun hHeld=>?_);clear AA KK;refine tx 8 77 ?_;refine tx 9 78 ?_;refine tx 10 79 ?_;refine tx 12 81 ?_;refine tx 16 85 ?_;refine tx 11 80 ?_;refine tx 17 86 ?_;refine tx 13 82 ?_;refine tx 18 87 ?_;refine tx 14 83 ?_;refine tx 15 84 ?_;refine rd 19 rfl (fun KK AA=>?_);go_simp;have hgo:=Au;refine(I4.out _).mono ?_;rintro e om ⟨rfl,bb⟩;have BS:Below wr.heap.size wr om:=bu Au bb;clear Au hgo bb hHeld;refine AA.out _ _ (K.out _ BS) (fun hHeld=>?_);clear AA KK;refine tx 20 89 ?_;refine tx 21 90 ?_;refine tx 22 91 ?_;refine tx 23 92 ?_;refine tx 25 94 ?_;refine tx 29 98 ?_;refine tx 24 93 ?_;refine tx 30 99 ?_;refine tx 26 95 ?_;refine tx 27 96 ?_;refine tx 28 97 ?_;refine tx 31 100 ?_;refine tx 32 101 ?_;clear hHeld;refine Bw ?_;have BZ:=bu BR BS;have FA:=PN.out (by simp);clear PN PY K;go_wp2;go_ret;exact⟨by rw[FA];simp,BZ⟩
  have hkn:k=t.held.length:=by omega
  rw[hkn]at ho;have FA:=FU.out ho;subst hkn;clear NO NX MO FU ho;go_wp2;go_ret;exact⟨by rw[FA];simp,BR⟩
end
section
open Go.RowKit
variable [∀(a b c d:Int),Decidable (BG a b c d)] [∀(a b c d:Nat),Decidable (DZ a b c d)] [∀(last:Int)(s:St),Decidable (Aq last s)] [∀(x:T4),Decidable (Du x)] [∀(n:Int)(s:List Int),Decidable (Dv n s)] [∀(n f:Int),Decidable (A_ n f)]
theorem l_(n f m:Int)(s:ByteArray)(xs:List Int):DY n f m s xs=(decide (A_ n f)&&(decide (1≤m∧m≤60)&&((decide (s=⟨#[]⟩)||(Av s==m))&&(decide ((0:Int)<(xs.length:Int))&&decide (Dv n xs))))):=by
 have hx:decide (xs≠[])=decide ((0:Int)<(xs.length:Int)):=by cases xs with|nil=>rfl|cons a l=>simp<;>omega
 have hv:(Av s==m)=decide (Av s=m):=by rw[Bool.eq_iff_iff,beq_iff_eq,decide_eq_true_iff]
 unfold DY;rw[hx,hv];by_cases hm:1≤m∧m≤60
 ·cases hk:(AP s).isSome with
  |true=>simp only[Bool.true_and];cases decide (A_ n f)<;>cases decide (1≤m∧m≤60)<;>cases decide (Dv n xs)<;>cases decide ((0:Int)<(xs.length:Int))<;>simp
  |false=>
   have h0:=QX hk;have:decide (Av s=m)=false:=by simp;omega
   rw[this];cases decide (A_ n f)<;>cases decide (1≤m∧m≤60)<;>cases decide (Dv n xs)<;>cases decide ((0:Int)<(xs.length:Int))<;>simp
 rw[decide_eq_false hm];simp
theorem De(x lo hi:Int)(w:World):Calls Tryz.prog 96 #[.int .i64 x,.int .i64 lo,.int .i64 hi] w fun e w'=>e= .returned (.bool (decide (lo≤x∧x≤hi)))∧Below w.heap.size w w':=by
 by_cases h:lo≤x∧x≤hi
 ·rw[decide_eq_true h];exact(Ci x lo hi w h.1 h.2).mono fun _ _ h=>⟨h.1,h.2▸Below.refl _ _⟩
 rw[decide_eq_false h];exact(Dm x lo hi w (by omega)).mono fun _ _ h=>⟨h.1,h.2▸Below.refl _ _⟩

theorem SB(m:Int)(s:ByteArray)(u:Value)(w:World)(hs:s.size≤33554432)(hE:Env w):
 Calls Tryz.prog 180 #[qv m s u] w fun e w'=>e= .returned (.bool (decide (s=⟨#[]⟩)||(Av s==m)))∧Below w.heap.size w w':=by
 obtain⟨w0,hw0,AO,LP,_⟩:=bx1 w #[.int .i64 m,.string s,u] 72;have HE:=hide (hE.below AO);have VO:=hide fun w hE=>O9 s w hs hE;generalize Av s=vw at *;clear hE;by_cases he:s=⟨#[]⟩
 ·have hd:decide (s=⟨#[]⟩)=true:=by simpa using he
  have hy:(s.toList==[])=true:=by rw[he,ByteArray.toList_eq];rfl
  rw[hd,Bool.true_or];clear he hd;go_enter Tryz.func180,Tryz.ntmps180
  have K:=kw (VS LP 0 1 2);go_upto_region 1 with fail
  clear hw0;refine FC K (fun bA hHeld=>?_);refine tx 0 3 ?_;refine tx 1 4 ?_;refine tx 2 5 ?_;refine tx 3 6 ?_;refine sx 4 7 ?_;refine sx 7 10 ?_;refine sx 5 8 ?_;refine sx 8 11 ?_;refine sx 6 9 ?_;refine sx 9 12 ?_;refine tx 10 13 ?_;refine tx 11 2 ?_;clear hHeld;refine Bw ?_;obtain⟨Tn,hwd⟩:∃y,w0.drew=y:=⟨_,rfl⟩
  rw[hwd]at bA⊢;clear hwd;have bb:=bA;have Eo:=bu AO bb;have Z7:=bb.size;replace LP:=LP.up bb;clear AO bb bA K;go_wp2;go_ret;exact⟨rfl,Eo⟩
 have hd:decide (s=⟨#[]⟩)=false:=by simpa using he
 have hne:=tQ he;rw[hd,Bool.false_or];clear he hd;go_enter Tryz.func180,Tryz.ntmps180
 have K:=kw (VS LP 0 1 2);go_upto_region 1 with fail
 clear hw0;refine FC K (fun bA hHeld=>?_);refine tx 0 3 ?_;refine tx 1 4 ?_;refine tx 2 5 ?_;refine tx 3 6 ?_;refine tx 4 7 ?_;refine tx 7 10 ?_;refine tx 5 8 ?_;refine tx 8 11 ?_;refine rd 6 rfl (fun KK AA=>?_);go_simp;have hgo:=bA;refine(VO.out _ (HE.out.below hgo)).mono ?_;rintro e Dc ⟨rfl,bb⟩;have Au:Below w0.heap.size w0 Dc:=bu bA bb;clear bA hgo bb hHeld;refine AA.out _ _ (K.out _ Au) (fun hHeld=>?_);clear AA KK;refine tx 9 12 ?_;refine tx 10 13 ?_;refine tx 11 2 ?_;clear hHeld;refine Bw ?_;have bb:=Au;have Po:=bu AO bb;have gV:=bb.size;replace LP:=LP.up bb;clear AO bb Au K;go_wp2;go_ret;exact⟨rfl,Po⟩

theorem PE(n f m:Int)(s:ByteArray)(u:Value)(xs:List Int)(w:World)(hs:s.size≤33554432)(hE:Env w)(hu:RI w u xs):
 Calls Tryz.prog 144 #[cv n f,qv m s u] w fun e w'=>e= .returned (.bool (DY n f m s xs))∧Below w.heap.size w w':=by
 obtain⟨ua,uc,rfl⟩:=hu.form;rw[l_];obtain⟨k,hk⟩:∃k,xs.length=k:=⟨_,rfl⟩
 have CO:=hide fun w=>Cz n f w;have IN:=hide fun w=>De m 1 60 w;have NI:=hide fun w hE=>SB m s (.slice ua xs.length uc) w hs hE;have SO:=hide fun w h=>Qw n (.slice ua xs.length uc) xs w h;obtain⟨w0,hw0,AO,LC,LP,_⟩:=Gb w #[.int .i64 n,.int .i64 f] 48 #[.int .i64 m,.string s,.slice ua xs.length uc] 72;have zR:=hide fun w'(hb:Below w.heap.size w w')=>hE.below hb;have RU:=hide fun w'(hb:Below w.heap.size w w')=>hu.below hb;rw[hk]at NI SO LP RU hw0⊢;clear hu hE hk;generalize decide (A_ n f)=c at *;generalize decide (1≤m∧m≤60)=r at *;generalize (decide (s=⟨#[]⟩)||(Av s==m))=v at *;generalize decide (Dv n xs)=o at *;cases c
 ·simp only[Bool.false_and];go_enter Tryz.func144,Tryz.ntmps144
  obtain⟨Ae,Ai⟩:=Cn LC 0 1;go_wp2_with fail
  clear hw0;refine(CO.out _).mono ?_;rintro _ w1 ⟨rfl,bb⟩;clear Ae Ai;have AZ:=bu AO bb;have Cx:=bb.size;replace LC:=LC.up bb;replace LP:=LP.up bb;clear AO bb;obtain⟨Ae,Ai⟩:=Cn LC 0 1;obtain⟨BP,BN,BM⟩:=B_ LP 0 1 2;go_wp2;go_ret;exact⟨rfl,AZ⟩
 simp only[Bool.true_and];cases r
 ·simp only[Bool.false_and];go_enter Tryz.func144,Tryz.ntmps144
  obtain⟨Ae,Ai⟩:=Cn LC 0 1;go_wp2_with fail
  clear hw0;refine(CO.out _).mono ?_;rintro _ w1 ⟨rfl,bb⟩;clear Ae Ai;have AZ:=bu AO bb;have Cx:=bb.size;replace LC:=LC.up bb;replace LP:=LP.up bb;clear AO bb;obtain⟨BP,BN,BM⟩:=B_ LP 0 1 2;go_wp2_with fail
  refine(IN.out _).mono ?_;rintro _ w2 ⟨rfl,bb⟩;clear BP BN BM;have Ao:=bu AZ bb;have Ex:=bb.size;replace LC:=LC.up bb;replace LP:=LP.up bb;clear AZ bb;obtain⟨Ae,Ai⟩:=Cn LC 0 1;obtain⟨BP,BN,BM⟩:=B_ LP 0 1 2;go_wp2;go_ret;exact⟨rfl,Ao⟩
 simp only[Bool.true_and];cases v
 ·simp only[Bool.false_and];go_enter Tryz.func144,Tryz.ntmps144
  obtain⟨Ae,Ai⟩:=Cn LC 0 1;go_wp2_with fail
  clear hw0;refine(CO.out _).mono ?_;rintro _ w1 ⟨rfl,bb⟩;clear Ae Ai;have AZ:=bu AO bb;have Cx:=bb.size;replace LC:=LC.up bb;replace LP:=LP.up bb;clear AO bb;obtain⟨BP,BN,BM⟩:=B_ LP 0 1 2;go_wp2_with fail
  refine(IN.out _).mono ?_;rintro _ w2 ⟨rfl,bb⟩;clear BP BN BM;have Ao:=bu AZ bb;have Ex:=bb.size;replace LC:=LC.up bb;replace LP:=LP.up bb;clear AZ bb;obtain⟨BP,BN,BM⟩:=B_ LP 0 1 2;go_wp2_with fail
  refine(NI.out _ (zR.out _ Ao)).mono ?_;rintro _ w3 ⟨rfl,bb⟩;clear BP BN BM;have BK:=bu Ao bb;have IW:=bb.size;replace LC:=LC.up bb;replace LP:=LP.up bb;clear Ao bb;obtain⟨Ae,Ai⟩:=Cn LC 0 1;obtain⟨BP,BN,BM⟩:=B_ LP 0 1 2;go_wp2;go_ret;exact⟨rfl,BK⟩
 simp only[Bool.true_and];by_cases hk:k=0
 ·subst hk;have hd0:decide ((0:Int)<((0:Nat):Int))=false:=rfl;rw[hd0];simp only[Bool.false_and];go_enter Tryz.func144,Tryz.ntmps144
  obtain⟨Ae,Ai⟩:=Cn LC 0 1;go_wp2_with fail
  clear hw0;refine(CO.out _).mono ?_;rintro _ w1 ⟨rfl,bb⟩;clear Ae Ai;have AZ:=bu AO bb;have Cx:=bb.size;replace LC:=LC.up bb;replace LP:=LP.up bb;clear AO bb;obtain⟨BP,BN,BM⟩:=B_ LP 0 1 2;go_wp2_with fail
  refine(IN.out _).mono ?_;rintro _ w2 ⟨rfl,bb⟩;clear BP BN BM;have Ao:=bu AZ bb;have Ex:=bb.size;replace LC:=LC.up bb;replace LP:=LP.up bb;clear AZ bb;obtain⟨BP,BN,BM⟩:=B_ LP 0 1 2;go_wp2_with fail
  refine(NI.out _ (zR.out _ Ao)).mono ?_;rintro _ w3 ⟨rfl,bb⟩;clear BP BN BM;have BK:=bu Ao bb;have IW:=bb.size;replace LC:=LC.up bb;replace LP:=LP.up bb;clear Ao bb;obtain⟨Ae,Ai⟩:=Cn LC 0 1;obtain⟨BP,BN,BM⟩:=B_ LP 0 1 2;go_wp2;go_ret;exact⟨rfl,BK⟩
 have hd0:decide ((0:Int)<(k:Int))=true:=by simp;omega
 rw[hd0];simp only[Bool.true_and];cases o
 ·go_enter Tryz.func144,Tryz.ntmps144
  obtain⟨Ae,Ai⟩:=Cn LC 0 1;go_wp2_with fail
  clear hw0;refine(CO.out _).mono ?_;rintro _ w1 ⟨rfl,bb⟩;clear Ae Ai;have AZ:=bu AO bb;have Cx:=bb.size;replace LC:=LC.up bb;replace LP:=LP.up bb;clear AO bb;obtain⟨BP,BN,BM⟩:=B_ LP 0 1 2;go_wp2_with fail
  refine(IN.out _).mono ?_;rintro _ w2 ⟨rfl,bb⟩;clear BP BN BM;have Ao:=bu AZ bb;have Ex:=bb.size;replace LC:=LC.up bb;replace LP:=LP.up bb;clear AZ bb;obtain⟨BP,BN,BM⟩:=B_ LP 0 1 2;go_wp2_with fail
  refine(NI.out _ (zR.out _ Ao)).mono ?_;rintro _ w3 ⟨rfl,bb⟩;clear BP BN BM;have BK:=bu Ao bb;have IW:=bb.size;replace LC:=LC.up bb;replace LP:=LP.up bb;clear Ao bb;obtain⟨Ae,Ai⟩:=Cn LC 0 1;obtain⟨BP,BN,BM⟩:=B_ LP 0 1 2;go_wp2_with fail
  refine(SO.out _ (RU.out _ BK)).mono ?_;rintro _ w4 ⟨rfl,bb⟩;clear Ae Ai BP BN BM;have Co:=bu BK bb;have OJ:=bb.size;replace LC:=LC.up bb;replace LP:=LP.up bb;clear BK bb;obtain⟨Ae,Ai⟩:=Cn LC 0 1;obtain⟨BP,BN,BM⟩:=B_ LP 0 1 2;go_wp2;go_ret;exact⟨rfl,Co⟩
 go_enter Tryz.func144,Tryz.ntmps144
 obtain⟨Ae,Ai⟩:=Cn LC 0 1;go_wp2_with fail
 clear hw0;refine(CO.out _).mono ?_;rintro _ w1 ⟨rfl,bb⟩;clear Ae Ai;have AZ:=bu AO bb;have Cx:=bb.size;replace LC:=LC.up bb;replace LP:=LP.up bb;clear AO bb;obtain⟨BP,BN,BM⟩:=B_ LP 0 1 2;go_wp2_with fail
 refine(IN.out _).mono ?_;rintro _ w2 ⟨rfl,bb⟩;clear BP BN BM;have Ao:=bu AZ bb;have Ex:=bb.size;replace LC:=LC.up bb;replace LP:=LP.up bb;clear AZ bb;obtain⟨BP,BN,BM⟩:=B_ LP 0 1 2;go_wp2_with fail
 refine(NI.out _ (zR.out _ Ao)).mono ?_;rintro _ w3 ⟨rfl,bb⟩;clear BP BN BM;have BK:=bu Ao bb;have IW:=bb.size;replace LC:=LC.up bb;replace LP:=LP.up bb;clear Ao bb;obtain⟨Ae,Ai⟩:=Cn LC 0 1;obtain⟨BP,BN,BM⟩:=B_ LP 0 1 2;go_wp2_with fail
 refine(SO.out _ (RU.out _ BK)).mono ?_;rintro _ w4 ⟨rfl,bb⟩;clear Ae Ai BP BN BM;have Co:=bu BK bb;have OJ:=bb.size;replace LC:=LC.up bb;replace LP:=LP.up bb;clear BK bb;obtain⟨Ae,Ai⟩:=Cn LC 0 1;obtain⟨BP,BN,BM⟩:=B_ LP 0 1 2;go_wp2;go_ret;exact⟨rfl,Co⟩
end
end Go.Proofs.YtcjmcgolgbkknaaGreatDoor
