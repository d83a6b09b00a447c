/- Lemmas; their conditions stand in each statement. -/
import Derived.Test.YtcjmcgolgbkknaaGreatDoorWRAZ
set_option maxRecDepth 100000
set_option maxHeartbeats 16000000
set_option linter.unusedSectionVars false
namespace Go.Proofs.YtcjmcgolgbkknaaGreatDoor
section
open Go.RowKit
variable [∀(a b c d:Int),Decidable (BK a b c d)] [∀(a b c d:Nat),Decidable (Dc a b c d)] [∀(last:Int)(s:St),Decidable (Ak last s)] [∀(x:T4),Decidable (Dv x)] [∀(n:Int)(s:List Int),Decidable (Dw n s)] [∀(n f:Int),Decidable (A9 n f)]
def iC(t:MT):Bool:=decide (BK t.fr t.tu t.am t.no)
def iF(n f:Int)(t:MT):Bool:=Xz n f t.bn t.bv t.bs t.bw
def iE(n f:Int)(t:MT):Bool:=Di n f t.pv t.ps t.pw&&!(t.ps.toList==[])
def iD(n f:Int)(t:MT):Bool:=decide (1≤t.vw∧t.vw≤60)&&(D9 n f t.qv t.qs t.qw&&decide (0≤t.wh∧t.wh≤n-1))
def m_(n f:Int)(t:MT):Bool:=if t.k=1 then iF n f t else if t.k=2 then iE n f t else if t.k=3 then iD n f t else if t.k=4 then iC t else false
theorem AAW{n f:Int}{t:MT}(h:t.k=1):m_ n f t=iF n f t:=by unfold m_;rw[if_pos h]
theorem AAV{n f:Int}{t:MT}(h:t.k=2):m_ n f t=iE n f t:=by unfold m_;rw[if_neg (by omega),if_pos h]
theorem AAU{n f:Int}{t:MT}(h:t.k=3):m_ n f t=iD n f t:=by unfold m_;rw[if_neg (by omega),if_neg (by omega),if_pos h]
theorem AAT{n f:Int}{t:MT}(h:t.k=4):m_ n f t=iC t:=by unfold m_;rw[if_neg (by omega),if_neg (by omega),if_neg (by omega),if_pos h]
theorem AAX{n f:Int}{t:MT}(h1:¬t.k=1)(h2:¬t.k=2)(h3:¬t.k=3)(h4:¬t.k=4):m_ n f t=false:=by unfold m_;rw[if_neg h1,if_neg h2,if_neg h3,if_neg h4]
def ZW(n f:Int)(t:MT):Bool:=decide (A9 n f)&&(K9 t&&m_ n f t)
def MS(t:MT):Prop:=t.bn.size≤1048576∧t.bs.size≤1048576∧t.ps.size≤1048576∧t.qs.size≤1048576
theorem WR(n f:Int)(t:MT)(ao bo co:Option Addr)(ca cb cc:Nat)(w:World)(hk:t.k=1)(hs:MS t)(ha:RI w (.slice ao t.bw.length ca) t.bw)(hb:RI w (.slice bo t.pw.length cb) t.pw)(hc:RI w (.slice co t.qw.length cc) t.qw):
 Calls Tryz.prog 86 #[cv n f,F8 t (.slice ao t.bw.length ca) (.slice bo t.pw.length cb) (.slice co t.qw.length cc)] w fun e w'=>e= .returned (.bool (decide (A9 n f)&&(K9 t&&iF n f t)))∧Below w.heap.size w w':=by
 have dk1:decide (t.k=1)=true:=by simpa using hk
 have eQ:(t.k==1)=true:=by simpa using hk
 obtain⟨s1,s2,s3,s4⟩:=hs;have IN:Hid (∀(x lo hi:Int)(w:World),Calls Tryz.prog 81 #[.int .i64 x,.int .i64 lo,.int .i64 hi] w fun e w'=>e= .returned (.bool (decide (lo≤x∧x≤hi)))∧Below w.heap.size w w'):=hide fun x lo hi w=>(Ii x lo hi w).mono (by rintro e w' ⟨h,rfl⟩;exact⟨h,Below.refl _ _⟩);have CO:=hide fun w=>Be n f w;have ZE:=hide fun w h1 h2 h3=>Fw t ao bo co ca cb cc w h1 h2 h3;have BO:=hide fun w h=>Fs n f t.bn t.bv t.bs ao ca t.bw w s1 s2 h;have PO:=hide fun w h=>FW n f t.pv t.ps (.slice bo t.pw.length cb) t.pw w s3 h;have QO:=hide fun w h=>Fp n f t.qv t.qs co cc t.qw w s4 h;have TO:=hide fun w=>H8 t.fr t.tu t.am t.no w;have ha1:=hide ha;have hb1:=hide hb;have hc1:=hide hc;clear ha hb hc s1 s2 s3 s4 hk;unfold iF;generalize Xz n f t.bn t.bv t.bs t.bw=r1 at *;have yZ:Hid (decide (A9 n f)=true→A9 n f):=hide fun h=>of_decide_eq_true h;generalize decide (A9 n f)=b1 at *;generalize K9 t=b2 at *;obtain⟨w0,hw0,AO,LC,A,Cm⟩:=El w #[.int .i64 n,.int .i64 f] 48 #[.int .i64 t.k,.int .i64 t.vw,.string t.bn,.int .i64 t.bv,.string t.bs,.slice ao t.bw.length ca,.int .i64 t.pv,.string t.ps,.slice bo t.pw.length cb,.int .i64 t.qv,.string t.qs,.slice co t.qw.length cc,.int .i64 t.wh,.int .i64 t.fr,.int .i64 t.tu,.int .i64 t.am,.int .i64 t.no] 75;go_enter Tryz.func86,Tryz.ntmps86
 obtain⟨AZ,Ab⟩:=B_ LC 0 1;go_wp2_with fail
 clear hw0;refine(CO.out _).mono ?_;rintro _ w1 ⟨rfl,bb⟩;clear AZ Ab;have AL:=bu AO bb;have Cj:=bb.size;replace LC:=LC.up bb;replace A:=A.up bb;clear AO bb;cases b1
 ·go_wp2;go_ret;exact⟨by simp,AL⟩
 go_wp2_with (first|(refine Al A 75 _ rfl _ rfl rfl Tryz.underlying75 rfl (by kernel_rfl) ?_))
 refine(ZE.out _ (ha1.out.below AL) (hb1.out.below AL) (hc1.out.below AL)).mono ?_;rintro _ w2 ⟨rfl,bb⟩;have Ah:=bu AL bb;have Ej:=bb.size;replace LC:=LC.up bb;replace A:=A.up bb;clear AL bb;cases b2
 ·go_wp2;go_ret;exact⟨by simp,Ah⟩
 obtain⟨AZ,Ab⟩:=B_ LC 0 1;obtain⟨CJ,D7,GA,Gn,Io⟩:=eZ A 0 2 3 4 5;go_wp2_with fail
 refine(BO.out _ (ha1.out.below Ah)).mono ?_;rintro _ w3 ⟨rfl,bb⟩;clear AZ Ab CJ D7 GA Gn Io;have BH:=bu Ah bb;have IL:=bb.size;replace LC:=LC.up bb;replace A:=A.up bb;clear Ah bb;go_wp2;go_ret;exact⟨by simp,BH⟩
theorem WQ(n f:Int)(t:MT)(ao bo co:Option Addr)(ca cb cc:Nat)(w:World)(hk:t.k=2)(hs:MS t)(ha:RI w (.slice ao t.bw.length ca) t.bw)(hb:RI w (.slice bo t.pw.length cb) t.pw)(hc:RI w (.slice co t.qw.length cc) t.qw):
 Calls Tryz.prog 86 #[cv n f,F8 t (.slice ao t.bw.length ca) (.slice bo t.pw.length cb) (.slice co t.qw.length cc)] w fun e w'=>e= .returned (.bool (decide (A9 n f)&&(K9 t&&iE n f t)))∧Below w.heap.size w w':=by
 have dk1:decide (t.k=1)=false:=by simp;omega
 have eQ:(t.k==1)=false:=by simp;omega
 have dk2:decide (t.k=2)=true:=by simpa using hk
 have pF:(t.k==2)=true:=by simpa using hk
 obtain⟨s1,s2,s3,s4⟩:=hs;have IN:Hid (∀(x lo hi:Int)(w:World),Calls Tryz.prog 81 #[.int .i64 x,.int .i64 lo,.int .i64 hi] w fun e w'=>e= .returned (.bool (decide (lo≤x∧x≤hi)))∧Below w.heap.size w w'):=hide fun x lo hi w=>(Ii x lo hi w).mono (by rintro e w' ⟨h,rfl⟩;exact⟨h,Below.refl _ _⟩);have CO:=hide fun w=>Be n f w;have ZE:=hide fun w h1 h2 h3=>Fw t ao bo co ca cb cc w h1 h2 h3;have BO:=hide fun w h=>Fs n f t.bn t.bv t.bs ao ca t.bw w s1 s2 h;have PO:=hide fun w h=>FW n f t.pv t.ps (.slice bo t.pw.length cb) t.pw w s3 h;have QO:=hide fun w h=>Fp n f t.qv t.qs co cc t.qw w s4 h;have TO:=hide fun w=>H8 t.fr t.tu t.am t.no w;have ha1:=hide ha;have hb1:=hide hb;have hc1:=hide hc;clear ha hb hc s1 s2 s3 s4 hk;unfold iE;generalize Di n f t.pv t.ps t.pw=r1 at *;have yZ:Hid (decide (A9 n f)=true→A9 n f):=hide fun h=>of_decide_eq_true h;generalize decide (A9 n f)=b1 at *;generalize K9 t=b2 at *;obtain⟨w0,hw0,AO,LC,A,Cm⟩:=El w #[.int .i64 n,.int .i64 f] 48 #[.int .i64 t.k,.int .i64 t.vw,.string t.bn,.int .i64 t.bv,.string t.bs,.slice ao t.bw.length ca,.int .i64 t.pv,.string t.ps,.slice bo t.pw.length cb,.int .i64 t.qv,.string t.qs,.slice co t.qw.length cc,.int .i64 t.wh,.int .i64 t.fr,.int .i64 t.tu,.int .i64 t.am,.int .i64 t.no] 75;go_enter Tryz.func86,Tryz.ntmps86
 obtain⟨AZ,Ab⟩:=B_ LC 0 1;go_wp2_with fail
 clear hw0;refine(CO.out _).mono ?_;rintro _ w1 ⟨rfl,bb⟩;clear AZ Ab;have AL:=bu AO bb;have Cj:=bb.size;replace LC:=LC.up bb;replace A:=A.up bb;clear AO bb;cases b1
 ·go_wp2;go_ret;exact⟨by simp,AL⟩
 go_wp2_with (first|(refine Al A 75 _ rfl _ rfl rfl Tryz.underlying75 rfl (by kernel_rfl) ?_))
 refine(ZE.out _ (ha1.out.below AL) (hb1.out.below AL) (hc1.out.below AL)).mono ?_;rintro _ w2 ⟨rfl,bb⟩;have Ah:=bu AL bb;have Ej:=bb.size;replace LC:=LC.up bb;replace A:=A.up bb;clear AL bb;cases b2
 ·go_wp2;go_ret;exact⟨by simp,Ah⟩
 obtain⟨AZ,Ab⟩:=B_ LC 0 1;obtain⟨CJ,I_,Iw,I9⟩:=YF A 0 6 7 8;go_wp2_with fail
 refine(PO.out _ (hb1.out.below Ah)).mono ?_;rintro _ w3 ⟨rfl,bb⟩;clear AZ Ab CJ I_ Iw I9;have BH:=bu Ah bb;have IL:=bb.size;replace LC:=LC.up bb;replace A:=A.up bb;clear Ah bb;cases r1
 ·go_wp2;go_ret;exact⟨by simp,BH⟩
 have Iw:=A.cell 7 rfl;go_wp2;go_ret;exact⟨by simp,BH⟩
theorem WO(n f:Int)(t:MT)(ao bo co:Option Addr)(ca cb cc:Nat)(w:World)(hk:t.k=3)(hs:MS t)(ha:RI w (.slice ao t.bw.length ca) t.bw)(hb:RI w (.slice bo t.pw.length cb) t.pw)(hc:RI w (.slice co t.qw.length cc) t.qw):
 Calls Tryz.prog 86 #[cv n f,F8 t (.slice ao t.bw.length ca) (.slice bo t.pw.length cb) (.slice co t.qw.length cc)] w fun e w'=>e= .returned (.bool (decide (A9 n f)&&(K9 t&&iD n f t)))∧Below w.heap.size w w':=by
 have dk1:decide (t.k=1)=false:=by simp;omega
 have eQ:(t.k==1)=false:=by simp;omega
 have dk2:decide (t.k=2)=false:=by simp;omega
 have pF:(t.k==2)=false:=by simp;omega
 have dk3:decide (t.k=3)=true:=by simpa using hk
 have wJ:(t.k==3)=true:=by simpa using hk
 obtain⟨s1,s2,s3,s4⟩:=hs;have IN:Hid (∀(x lo hi:Int)(w:World),Calls Tryz.prog 81 #[.int .i64 x,.int .i64 lo,.int .i64 hi] w fun e w'=>e= .returned (.bool (decide (lo≤x∧x≤hi)))∧Below w.heap.size w w'):=hide fun x lo hi w=>(Ii x lo hi w).mono (by rintro e w' ⟨h,rfl⟩;exact⟨h,Below.refl _ _⟩);have CO:=hide fun w=>Be n f w;have ZE:=hide fun w h1 h2 h3=>Fw t ao bo co ca cb cc w h1 h2 h3;have BO:=hide fun w h=>Fs n f t.bn t.bv t.bs ao ca t.bw w s1 s2 h;have PO:=hide fun w h=>FW n f t.pv t.ps (.slice bo t.pw.length cb) t.pw w s3 h;have QO:=hide fun w h=>Fp n f t.qv t.qs co cc t.qw w s4 h;have TO:=hide fun w=>H8 t.fr t.tu t.am t.no w;have ha1:=hide ha;have hb1:=hide hb;have hc1:=hide hc;clear ha hb hc s1 s2 s3 s4 hk;unfold iD;generalize D9 n f t.qv t.qs t.qw=r2 at *;have i1:=hide fun w=>IN.out t.vw 1 60 w;have i2:=hide fun w=>IN.out t.wh 0 (n-1) w;generalize decide (1≤t.vw∧t.vw≤60)=r1 at *;generalize decide (0≤t.wh∧t.wh≤n-1)=r3 at *;have wn0:Hid (A9 n f→IntKind.i64.wrap (n-1)=n-1):=hide fun h=>by rw[IntKind.wrap_i64]<;>(unfold A9 at h;omega)
 have yZ:Hid (decide (A9 n f)=true→A9 n f):=hide fun h=>of_decide_eq_true h;generalize decide (A9 n f)=b1 at *;generalize K9 t=b2 at *;obtain⟨w0,hw0,AO,LC,A,Cm⟩:=El w #[.int .i64 n,.int .i64 f] 48 #[.int .i64 t.k,.int .i64 t.vw,.string t.bn,.int .i64 t.bv,.string t.bs,.slice ao t.bw.length ca,.int .i64 t.pv,.string t.ps,.slice bo t.pw.length cb,.int .i64 t.qv,.string t.qs,.slice co t.qw.length cc,.int .i64 t.wh,.int .i64 t.fr,.int .i64 t.tu,.int .i64 t.am,.int .i64 t.no] 75;go_enter Tryz.func86,Tryz.ntmps86
 obtain⟨AZ,Ab⟩:=B_ LC 0 1;go_wp2_with fail
 clear hw0;refine(CO.out _).mono ?_;rintro _ w1 ⟨rfl,bb⟩;clear AZ Ab;have AL:=bu AO bb;have Cj:=bb.size;replace LC:=LC.up bb;replace A:=A.up bb;clear AO bb;cases b1
 ·go_wp2;go_ret;exact⟨by simp,AL⟩
 have wn:=wn0.out (yZ.out rfl);go_wp2_with (first|(refine Al A 75 _ rfl _ rfl rfl Tryz.underlying75 rfl (by kernel_rfl) ?_))
 refine(ZE.out _ (ha1.out.below AL) (hb1.out.below AL) (hc1.out.below AL)).mono ?_;rintro _ w2 ⟨rfl,bb⟩;have Ah:=bu AL bb;have Ej:=bb.size;replace LC:=LC.up bb;replace A:=A.up bb;clear AL bb;cases b2
 ·go_wp2;go_ret;exact⟨by simp,Ah⟩
 obtain⟨CJ,Dk⟩:=B_ A 0 1;go_wp2_with fail
 refine(i1.out _).mono ?_;rintro _ w3 ⟨rfl,bb⟩;clear CJ Dk;have BH:=bu Ah bb;have IL:=bb.size;replace LC:=LC.up bb;replace A:=A.up bb;clear Ah bb;cases r1
 ·obtain⟨AZ,Ab⟩:=B_ LC 0 1;have Dk:=A.cell 1 rfl;go_wp2;go_ret;exact⟨by simp,BH⟩
 obtain⟨AZ,Ab⟩:=B_ LC 0 1;obtain⟨Ht,Ct,Dj⟩:=CW A 9 10 11;go_wp2_with fail
 refine(QO.out _ (hc1.out.below BH)).mono ?_;rintro _ w4 ⟨rfl,bb⟩;clear AZ Ab Ht Ct Dj;have Cr:=bu BH bb;have Nq:=bb.size;replace LC:=LC.up bb;replace A:=A.up bb;clear BH bb;cases r2
 ·obtain⟨AZ,Ab⟩:=B_ LC 0 1;obtain⟨Ht,Ct,Dj⟩:=CW A 9 10 11;go_wp2;go_ret;exact⟨by simp,Cr⟩
 obtain⟨AZ,Ab⟩:=B_ LC 0 1;have D6:=A.cell 12 rfl;go_wp2_with fail
 refine(i2.out _).mono ?_;rintro _ w5 ⟨rfl,bb⟩;clear AZ Ab D6;have Fj:=bu Cr bb;have Yt:=bb.size;replace LC:=LC.up bb;replace A:=A.up bb;clear Cr bb;go_wp2;go_ret;exact⟨by simp,Fj⟩
theorem WM(n f:Int)(t:MT)(ao bo co:Option Addr)(ca cb cc:Nat)(w:World)(hk:t.k=4)(hs:MS t)(ha:RI w (.slice ao t.bw.length ca) t.bw)(hb:RI w (.slice bo t.pw.length cb) t.pw)(hc:RI w (.slice co t.qw.length cc) t.qw):
 Calls Tryz.prog 86 #[cv n f,F8 t (.slice ao t.bw.length ca) (.slice bo t.pw.length cb) (.slice co t.qw.length cc)] w fun e w'=>e= .returned (.bool (decide (A9 n f)&&(K9 t&&iC t)))∧Below w.heap.size w w':=by
 have dk1:decide (t.k=1)=false:=by simp;omega
 have eQ:(t.k==1)=false:=by simp;omega
 have dk2:decide (t.k=2)=false:=by simp;omega
 have pF:(t.k==2)=false:=by simp;omega
 have dk3:decide (t.k=3)=false:=by simp;omega
 have wJ:(t.k==3)=false:=by simp;omega
 have dk4:decide (t.k=4)=true:=by simpa using hk
 have ek4:(t.k==4)=true:=by simpa using hk
 obtain⟨s1,s2,s3,s4⟩:=hs;have IN:Hid (∀(x lo hi:Int)(w:World),Calls Tryz.prog 81 #[.int .i64 x,.int .i64 lo,.int .i64 hi] w fun e w'=>e= .returned (.bool (decide (lo≤x∧x≤hi)))∧Below w.heap.size w w'):=hide fun x lo hi w=>(Ii x lo hi w).mono (by rintro e w' ⟨h,rfl⟩;exact⟨h,Below.refl _ _⟩);have CO:=hide fun w=>Be n f w;have ZE:=hide fun w h1 h2 h3=>Fw t ao bo co ca cb cc w h1 h2 h3;have BO:=hide fun w h=>Fs n f t.bn t.bv t.bs ao ca t.bw w s1 s2 h;have PO:=hide fun w h=>FW n f t.pv t.ps (.slice bo t.pw.length cb) t.pw w s3 h;have QO:=hide fun w h=>Fp n f t.qv t.qs co cc t.qw w s4 h;have TO:=hide fun w=>H8 t.fr t.tu t.am t.no w;have ha1:=hide ha;have hb1:=hide hb;have hc1:=hide hc;clear ha hb hc s1 s2 s3 s4 hk;unfold iC;generalize decide (BK t.fr t.tu t.am t.no)=r1 at *;have yZ:Hid (decide (A9 n f)=true→A9 n f):=hide fun h=>of_decide_eq_true h;generalize decide (A9 n f)=b1 at *;generalize K9 t=b2 at *;obtain⟨w0,hw0,AO,LC,A,Cm⟩:=El w #[.int .i64 n,.int .i64 f] 48 #[.int .i64 t.k,.int .i64 t.vw,.string t.bn,.int .i64 t.bv,.string t.bs,.slice ao t.bw.length ca,.int .i64 t.pv,.string t.ps,.slice bo t.pw.length cb,.int .i64 t.qv,.string t.qs,.slice co t.qw.length cc,.int .i64 t.wh,.int .i64 t.fr,.int .i64 t.tu,.int .i64 t.am,.int .i64 t.no] 75;go_enter Tryz.func86,Tryz.ntmps86
 obtain⟨AZ,Ab⟩:=B_ LC 0 1;go_wp2_with fail
 clear hw0;refine(CO.out _).mono ?_;rintro _ w1 ⟨rfl,bb⟩;clear AZ Ab;have AL:=bu AO bb;have Cj:=bb.size;replace LC:=LC.up bb;replace A:=A.up bb;clear AO bb;cases b1
 ·go_wp2;go_ret;exact⟨by simp,AL⟩
 go_wp2_with (first|(refine Al A 75 _ rfl _ rfl rfl Tryz.underlying75 rfl (by kernel_rfl) ?_))
 refine(ZE.out _ (ha1.out.below AL) (hb1.out.below AL) (hc1.out.below AL)).mono ?_;rintro _ w2 ⟨rfl,bb⟩;have Ah:=bu AL bb;have Ej:=bb.size;replace LC:=LC.up bb;replace A:=A.up bb;clear AL bb;cases b2
 ·go_wp2;go_ret;exact⟨by simp,Ah⟩
 obtain⟨CJ,Ca,EF,EE,ED⟩:=eZ A 0 13 14 15 16;go_wp2_with fail
 refine(TO.out _).mono ?_;rintro _ w3 ⟨rfl,bb⟩;clear CJ Ca EF EE ED;have BH:=bu Ah bb;have IL:=bb.size;replace LC:=LC.up bb;replace A:=A.up bb;clear Ah bb;go_wp2;go_ret;exact⟨by simp,BH⟩
theorem WS(n f:Int)(t:MT)(ao bo co:Option Addr)(ca cb cc:Nat)(w:World)(h1:¬t.k=1)(h2:¬t.k=2)(h3:¬t.k=3)(h4:¬t.k=4)(hs:MS t)(ha:RI w (.slice ao t.bw.length ca) t.bw)(hb:RI w (.slice bo t.pw.length cb) t.pw)(hc:RI w (.slice co t.qw.length cc) t.qw):
 Calls Tryz.prog 86 #[cv n f,F8 t (.slice ao t.bw.length ca) (.slice bo t.pw.length cb) (.slice co t.qw.length cc)] w fun e w'=>e= .returned (.bool (decide (A9 n f)&&(K9 t&&false)))∧Below w.heap.size w w':=by
 have dk1:decide (t.k=1)=false:=by simp;omega
 have eQ:(t.k==1)=false:=by simp;omega
 have dk2:decide (t.k=2)=false:=by simp;omega
 have pF:(t.k==2)=false:=by simp;omega
 have dk3:decide (t.k=3)=false:=by simp;omega
 have wJ:(t.k==3)=false:=by simp;omega
 have dk4:decide (t.k=4)=false:=by simp;omega
 have ek4:(t.k==4)=false:=by simp;omega
 obtain⟨s1,s2,s3,s4⟩:=hs;have IN:Hid (∀(x lo hi:Int)(w:World),Calls Tryz.prog 81 #[.int .i64 x,.int .i64 lo,.int .i64 hi] w fun e w'=>e= .returned (.bool (decide (lo≤x∧x≤hi)))∧Below w.heap.size w w'):=hide fun x lo hi w=>(Ii x lo hi w).mono (by rintro e w' ⟨h,rfl⟩;exact⟨h,Below.refl _ _⟩);have CO:=hide fun w=>Be n f w;have ZE:=hide fun w h1 h2 h3=>Fw t ao bo co ca cb cc w h1 h2 h3;have BO:=hide fun w h=>Fs n f t.bn t.bv t.bs ao ca t.bw w s1 s2 h;have PO:=hide fun w h=>FW n f t.pv t.ps (.slice bo t.pw.length cb) t.pw w s3 h;have QO:=hide fun w h=>Fp n f t.qv t.qs co cc t.qw w s4 h;have TO:=hide fun w=>H8 t.fr t.tu t.am t.no w;have ha1:=hide ha;have hb1:=hide hb;have hc1:=hide hc;clear ha hb hc s1 s2 s3 s4;have yZ:Hid (decide (A9 n f)=true→A9 n f):=hide fun h=>of_decide_eq_true h;generalize decide (A9 n f)=b1 at *;generalize K9 t=b2 at *;obtain⟨w0,hw0,AO,LC,A,Cm⟩:=El w #[.int .i64 n,.int .i64 f] 48 #[.int .i64 t.k,.int .i64 t.vw,.string t.bn,.int .i64 t.bv,.string t.bs,.slice ao t.bw.length ca,.int .i64 t.pv,.string t.ps,.slice bo t.pw.length cb,.int .i64 t.qv,.string t.qs,.slice co t.qw.length cc,.int .i64 t.wh,.int .i64 t.fr,.int .i64 t.tu,.int .i64 t.am,.int .i64 t.no] 75;go_enter Tryz.func86,Tryz.ntmps86
 obtain⟨AZ,Ab⟩:=B_ LC 0 1;go_wp2_with fail
 clear hw0;refine(CO.out _).mono ?_;rintro _ w1 ⟨rfl,bb⟩;clear AZ Ab;have AL:=bu AO bb;have Cj:=bb.size;replace LC:=LC.up bb;replace A:=A.up bb;clear AO bb;cases b1
 ·go_wp2;go_ret;exact⟨by simp,AL⟩
 go_wp2_with (first|(refine Al A 75 _ rfl _ rfl rfl Tryz.underlying75 rfl (by kernel_rfl) ?_))
 refine(ZE.out _ (ha1.out.below AL) (hb1.out.below AL) (hc1.out.below AL)).mono ?_;rintro _ w2 ⟨rfl,bb⟩;have Ah:=bu AL bb;have Ej:=bb.size;replace LC:=LC.up bb;replace A:=A.up bb;clear AL bb;cases b2
 ·go_wp2;go_ret;exact⟨by simp,Ah⟩
 have CJ:=A.cell 0 rfl;go_wp2;go_ret;exact⟨by simp,Ah⟩
theorem gu(n f:Int)(t:MT)(ao bo co:Option Addr)(ca cb cc:Nat)(w:World)(hs:MS t)(ha:RI w (.slice ao t.bw.length ca) t.bw)(hb:RI w (.slice bo t.pw.length cb) t.pw)(hc:RI w (.slice co t.qw.length cc) t.qw):
 Calls Tryz.prog 86 #[cv n f,F8 t (.slice ao t.bw.length ca) (.slice bo t.pw.length cb) (.slice co t.qw.length cc)] w fun e w'=>e= .returned (.bool (ZW n f t))∧Below w.heap.size w w':=by
 unfold ZW;rcases kinds t.k with h|h|h|h|⟨h1,h2,h3,h4⟩
 ·rw[AAW h];exact WR n f t ao bo co ca cb cc w h hs ha hb hc
 ·rw[AAV h];exact WQ n f t ao bo co ca cb cc w h hs ha hb hc
 ·rw[AAU h];exact WO n f t ao bo co ca cb cc w h hs ha hb hc
 ·rw[AAT h];exact WM n f t ao bo co ca cb cc w h hs ha hb hc
 rw[AAX h1 h2 h3 h4];exact WS n f t ao bo co ca cb cc w h1 h2 h3 h4 hs ha hb hc
end
section
open Go Go.RowKit
variable [∀(a b c d:Int),Decidable (BK a b c d)] [∀(n f:Int),Decidable (A9 n f)] [∀(a b c d:Nat),Decidable (Dc a b c d)] [∀(x:T4),Decidable (Dv x)] [∀(last:Int)(s:St),Decidable (Ak last s)] [∀(n:Int)(s:List Int),Decidable (Dw n s)] [∀(x y:T4),Decidable (Hu x y)] [∀(ts:List T4),Decidable (Asc ts)] [∀(ts:List T4),Decidable (Dh ts)] [∀(ts:List T4),Decidable (J9 ts)]
def QW(n f id:Int)(p:Ck):Bool:=ZW n f p.2&&(decide (0≤p.1∧p.1≤n-1)&&!(decide (p.1=id)))
def Gt(n f id:Int)(ps:List Ck):Bool:=ps.all (QW n f id)
def JN(n f:Int)(t:Bv):Bool:=decide (A9 n f)&&(decide (0≤t.id∧t.id≤n-1)&&(decide (1≤t.vw∧t.vw≤60)&&(decide (0≤t.ak∧t.ak≤60)&&(Db n f t.vo t.lo t.n t.s t.qw t.d&&(decide (J9 t.pool)&&(KJ n f t.tab&&(EC t.AY.length t.su&&(decide (t.held.length≤30)&&Gt n f t.id t.held))))))))
theorem oV{n f id:Int}{ps:List Ck}{k:Nat}(hk:k<ps.length)(h:QW n f id (ps.getD k AX)=false):Gt n f id ps=false:=by
 unfold Gt;rw[List.all_eq_false];exact⟨ps.getD k AX,by rw[List.getD_eq_getElem?_getD,List.getElem?_eq_getElem hk];exact List.getElem_mem hk,by rw[h];simp⟩
theorem Xd{n f id:Int}{ps:List Ck}{k:Nat}(hk:k<ps.length)(h0:Gt n f id (ps.take k)=true)(h:QW n f id (ps.getD k AX)=true):Gt n f id (ps.take (k+1))=true:=by
 unfold Gt at h0⊢;rw[List.take_succ_eq_append_getElem hk,List.all_append,h0];have:ps.getD k AX=ps[k]:=by simp[List.getElem?_eq_getElem hk]
 rw[←this];simp only[List.all_cons,List.all_nil,h,Bool.and_true]
theorem UL{w:World}{b o:Nat}{c:Value}{cs:List Value}(h:w.rangeAt b o (c :: cs)):w.rangeAt b (o+1) cs:=fun j v hv=>by
 have:=h (j+1) v (by simpa using hv);rw[show o+1+j=o+(j+1) by omega];exact this
structure RS(t:Bv):Prop where
 s:t.s.size≤1048576
 d:t.d.size≤1048576
 tb:∀p ∈ t.tab,p.2.1.size≤1048576
 h:∀j,j<t.held.length→MS (t.held.getD j AX).2
theorem gq(n f:Int)(t:Bv)(ao bo co od oe:Option Addr)(ca cb cc cd ce:Nat)(w:World)(hm:J8 t)(hs:RS t)(h:EI w t (.slice ao t.qw.length ca) (.slice bo t.pool.length cb) (.slice co t.tab.length cc) (.slice od t.AY.length cd) (.slice oe t.held.length ce)):
 Calls Tryz.prog 30 #[cv n f,FX t (.slice ao t.qw.length ca) (.slice bo t.pool.length cb) (.slice co t.tab.length cc) (.slice od t.AY.length cd) (.slice oe t.held.length ce)] w fun e w'=>e= .returned (.bool (JN n f t))∧Below w.heap.size w w':=by
 have IN:Hid (∀(x lo hi:Int)(w:World),Calls Tryz.prog 81 #[.int .i64 x,.int .i64 lo,.int .i64 hi] w fun e w'=>e= .returned (.bool (decide (lo≤x∧x≤hi)))∧Below w.heap.size w w'):=hide fun x lo hi w=>(Ii x lo hi w).mono (by rintro e w' ⟨h,rfl⟩;exact⟨h,Below.refl _ _⟩);have CO:=hide fun w=>Be n f w;have SO:=hide fun w h=>KO n f t.vo t.lo t.n t.s ao ca t.qw t.d w hs.s hs.d h;have PO:=hide fun w h=>Y7 (.slice bo t.pool.length cb) t.pool w h;have TO:=hide fun w h=>WK n f (.slice co t.tab.length cc) t.tab w (by have:=hm.tb;omega) hs.tb h;have DO:=hide fun w=>ET od t.AY.length cd t.su w;have MO:=hide fun j hj a b c ka kb kc w h1 h2 h3=>gu n f (t.held.getD j AX).2 a b c ka kb kc w (hs.h j hj) h1 h2 h3;have HR:=hide h;have yZ:Hid (decide (A9 n f)=true→IntKind.i64.wrap (n-1)=n-1):=hide fun h=>by have:=of_decide_eq_true h;rw[IntKind.wrap_i64]<;>(unfold A9 at this;omega)
 clear h hs;have i1:=hide fun w=>IN.out t.id 0 (n-1) w;have i2:=hide fun w=>IN.out t.vw 1 60 w;have i3:=hide fun w=>IN.out t.ak 0 60 w;have i4:=hide fun x w=>IN.out x 0 (n-1) w;unfold JN;have NX:=hide fun k(hk:k<t.held.length)(h0:Gt n f t.id (t.held.take k)=true)(h:QW n f t.id (t.held.getD k AX)=true)=>Xd hk h0 h;have NO:=hide fun k(hk:k<t.held.length)(h:QW n f t.id (t.held.getD k AX)=false)=>oV hk h;have FU:Hid (Gt n f t.id (t.held.take t.held.length)=true→Gt n f t.id t.held=true):=hide fun h=>by rwa [List.take_of_length_le Af]at h
 have hb5:decide ((t.held.length:Int)>30)=!decide (t.held.length≤30):=by by_cases h:t.held.length≤30<;>simp[h]<;>omega
 generalize decide (A9 n f)=b0 at *;generalize decide (0≤t.id∧t.id≤n-1)=b1 at *;generalize decide (1≤t.vw∧t.vw≤60)=b2 at *;generalize decide (0≤t.ak∧t.ak≤60)=b3 at *;generalize Db n f t.vo t.lo t.n t.s t.qw t.d=b4 at *;generalize decide (J9 t.pool)=b5 at *;generalize KJ n f t.tab=b6 at *;generalize EC t.AY.length t.su=b7 at *;generalize decide (t.held.length≤30)=b8 at *;obtain⟨w0,hw0,AO,LC,A,Cm⟩:=El w #[.int .i64 n,.int .i64 f] 48 #[.int .i64 t.id,.int .i64 t.vw,.int .i64 t.ak,.int .i64 t.vo,.int .i64 t.lo,.int .i64 t.n,.string t.s,.slice ao t.qw.length ca,.string t.d,.slice bo t.pool.length cb,.slice co t.tab.length cc,.slice od t.AY.length cd,.int .i64 t.su,.slice oe t.held.length ce] 46;go_enter Tryz.func30,Tryz.ntmps30
 obtain⟨AZ,Ab⟩:=B_ LC 0 1;go_wp2_with fail
 clear hw0;refine(CO.out _).mono ?_;rintro _ w1 ⟨rfl,bb⟩;clear AZ Ab;have AL:=bu AO bb;have Cj:=bb.size;replace LC:=LC.up bb;replace A:=A.up bb;clear AO bb;cases b0
 ·have Ca:=A.cell 13 rfl;go_wp2;go_ret;exact⟨by simp,AL⟩
 have wn:=yZ.out rfl;obtain⟨AZ,Ab⟩:=B_ LC 0 1;have CJ:=A.cell 0 rfl;go_wp2_with fail
 refine(i1.out _).mono ?_;rintro _ w2 ⟨rfl,bb⟩;clear AZ Ab CJ;have Ah:=bu AL bb;have Ej:=bb.size;replace LC:=LC.up bb;replace A:=A.up bb;clear AL bb;cases b1
 ·have Ca:=A.cell 13 rfl;go_wp2;go_ret;exact⟨by simp,Ah⟩
 have AZ:=LC.cell 0 rfl;obtain⟨CJ,Dk⟩:=B_ A 0 1;go_wp2_with fail
 refine(i2.out _).mono ?_;rintro _ w3 ⟨rfl,bb⟩;clear AZ CJ Dk;have BH:=bu Ah bb;have IL:=bb.size;replace LC:=LC.up bb;replace A:=A.up bb;clear Ah bb;cases b2
 ·have Ca:=A.cell 13 rfl;go_wp2;go_ret;exact⟨by simp,BH⟩
 have AZ:=LC.cell 0 rfl;obtain⟨CJ,Dk,D7⟩:=CW A 0 1 2;go_wp2_with fail
 refine(i3.out _).mono ?_;rintro _ w4 ⟨rfl,bb⟩;clear AZ CJ Dk D7;have Cr:=bu BH bb;have Nq:=bb.size;replace LC:=LC.up bb;replace A:=A.up bb;clear BH bb;cases b3
 ·have Ca:=A.cell 13 rfl;go_wp2;go_ret;exact⟨by simp,Cr⟩
 obtain⟨AZ,Ab⟩:=B_ LC 0 1;obtain⟨CJ,Dk,D7⟩:=CW A 0 1 2;go_wp2_with (first|(refine A7 [.int .i64 t.vo,.int .i64 t.lo,.int .i64 t.n,.string t.s,.slice ao t.qw.length ca,.string t.d] (A.range 3 6 rfl) 40 _ rfl _ rfl rfl Tryz.underlying40 rfl (by kernel_rfl) ?_))
 refine(SO.out _ (HR.out.q.below Cr)).mono ?_;rintro _ w5 ⟨rfl,bb⟩;clear AZ Ab CJ Dk D7;have Fj:=bu Cr bb;have Yt:=bb.size;replace LC:=LC.up bb;replace A:=A.up bb;clear Cr bb;cases b4
 ·have Ca:=A.cell 13 rfl;go_wp2;go_ret;exact⟨by simp,Fj⟩
 obtain⟨AZ,Ab⟩:=B_ LC 0 1;have Ht:=A.cell 9 rfl;go_wp2_with fail
 refine(PO.out _ (HR.out.p.below Fj)).mono ?_;rintro _ w6 ⟨rfl,bb⟩;clear AZ Ab Ht;have JD:=bu Fj bb;have rz:=bb.size;replace LC:=LC.up bb;replace A:=A.up bb;clear Fj bb;cases b5
 ·have Ca:=A.cell 13 rfl;go_wp2;go_ret;exact⟨by simp,JD⟩
 obtain⟨AZ,Ab⟩:=B_ LC 0 1;have Ct:=A.cell 10 rfl;go_wp2_with fail
 refine(TO.out _ (HR.out.tb.below JD)).mono ?_;rintro _ w7 ⟨rfl,bb⟩;clear AZ Ab Ct;have NM:=bu JD bb;have sw7:=bb.size;replace LC:=LC.up bb;replace A:=A.up bb;clear JD bb;cases b6
 ·have Ca:=A.cell 13 rfl;go_wp2;go_ret;exact⟨by simp,NM⟩
 obtain⟨AZ,Ab⟩:=B_ LC 0 1;have Ct:=A.cell 10 rfl;go_wp2_with (first|(refine A7 [.slice od t.AY.length cd,.int .i64 t.su] (A.range 11 2 rfl) 43 _ rfl _ rfl rfl Tryz.underlying43 rfl (by kernel_rfl) ?_))
 refine(DO.out _).mono ?_;rintro _ w8 ⟨rfl,bb⟩;clear AZ Ab Ct;have Ti:=bu NM bb;have sw8:=bb.size;replace LC:=LC.up bb;replace A:=A.up bb;clear NM bb;cases b7
 ·have Ca:=A.cell 13 rfl;go_wp2;go_ret;exact⟨by simp,Ti⟩
 have Ca:=A.cell 13 rfl;cases b8
 ·clear Ca;have Ca:=A.cell 13 rfl;go_wp2;go_ret;exact⟨by simp,Ti⟩
 clear Ca;have Ca:=A.cell 13 rfl;obtain⟨AZ,Ab⟩:=B_ LC 0 1;have hlen:(t.held.length:Int)≤1048577:=by have:=hm.h;omega
 go_wp2;clear Ca AZ Ab
 go_loopw [5] (fun i wr=>∃k:Nat,k≤t.held.length∧i= .int .i64 k∧Below w8.heap.size w8 wr∧Gt n f t.id (t.held.take k)=true) (fun i _=>t.held.length-(intOf i).toNat)
 case atStart=>exact⟨0,Nat.zero_le _,rfl,Below.refl _ _,rfl⟩
 case round=>
  obtain⟨k,hk,rfl,br,ho⟩:=hrel;have LCr:=LC.up br;have Ar:=A.up br;have BR:=bu Ti br;have a13:=Ar.cell 13 rfl;have lc0:=LCr.cell 0 rfl;have lc1:=LCr.cell 1 rfl;have a0:=Ar.cell 0 rfl;by_cases hlt:k<t.held.length
  ·have hr:=HR.out.h.below BR;obtain⟨g,off,cs,rfl,_,c1,a,b,c,e,ra,rb,rc⟩:=RG.at hr k hlt;subst e;have PN:Hid (QW n f t.id (t.held.getD k AX)=false→Gt n f t.id t.held=false):=hide fun h=>NO.out k hlt h;have PY:Hid (QW n f t.id (t.held.getD k AX)=true→Gt n f t.id (t.held.take (k+1))=true):=hide fun h=>NX.out k hlt ho h;have MOk:=hide fun a b c ka kb kc w h1 h2 h3=>MO.out k hlt a b c ka kb kc w h1 h2 h3;clear hr NO NX MO ho;unfold QW at PN PY;generalize (t.held.getD k AX).1=m at *;generalize (t.held.getD k AX).2=u at *;have I4:=hide fun w=>i4.out m w;have hq3:(m==t.id)=decide (m=t.id):=by by_cases h:m=t.id<;>simp[h]
   generalize ZW n f u=p1 at *;generalize decide (0≤m∧m≤n-1)=p2 at *;generalize hp3:decide (m=t.id)=p3 at *;clear i4 IN hp3;have c0:wr.cell? ⟨g,off+k*18,none⟩=some (.int .i64 m):=c1 0 _ rfl;have c17:=UL c1;clear c1;have R1:=hide ra;have R2:=hide rb;have R3:=hide rc;obtain⟨oa,ka,rfl⟩:=ra.form;obtain⟨ob,kb,rfl⟩:=rb.form;obtain⟨oc,kc,rfl⟩:=rc.form;clear ra rb rc;have g0:g<wr.heap.size:=AU c0;have K:Hid (∀w',Below wr.heap.size wr w'→(fun w'=>Below wr.heap.size wr w'∧w'.cell? ⟨w.heap.size,0,none⟩=some (.int .i64 n)∧w'.cell? ⟨w.heap.size,1,none⟩=some (.int .i64 f)∧w'.cell? ⟨w.heap.size+1,13,none⟩=some (.slice (some ⟨g,off,none⟩) t.held.length ce)∧w'.cell? ⟨w.heap.size+1,0,none⟩=some (.int .i64 t.id)∧w'.cell? ⟨g,off+k*18,none⟩=some (.int .i64 m)∧w'.rangeAt g (off+k*18+1) [.int .i64 u.k,.int .i64 u.vw,.string u.bn,.int .i64 u.bv,.string u.bs,.slice oa u.bw.length ka,.int .i64 u.pv,.string u.ps,.slice ob u.pw.length kb,.int .i64 u.qv,.string u.qs,.slice oc u.qw.length kc,.int .i64 u.wh,.int .i64 u.fr,.int .i64 u.tu,.int .i64 u.am,.int .i64 u.no]) w'):=hide fun w' hb'=>⟨hb',(LCr.up hb').cell 0 rfl,(LCr.up hb').cell 1 rfl,(Ar.up hb').cell 13 rfl,(Ar.up hb').cell 0 rfl,(hb'.cell (p:=⟨g,off+k*18,none⟩) g0).trans c0,Aa c17 hb' (Ch c17 (by simp))⟩
   clear c17 c0 g0;cases p1
   ·go_upto_region 6 with fail
    refine Em K (fun bA hHeld=>?_);refine tx 0 69 ?_;refine tx 1 70 ?_;refine tx 3 72 ?_;refine tx 2 71 ?_;refine tx 4 73 ?_;refine tx 5 74 ?_;refine take_at (i:=6) (d:=75) (v:= .agg #[.int .i64 u.k,.int .i64 u.vw,.string u.bn,.int .i64 u.bv,.string u.bs,.slice oa u.bw.length ka,.int .i64 u.pv,.string u.ps,.slice ob u.pw.length kb,.int .i64 u.qv,.string u.qs,.slice oc u.qw.length kc,.int .i64 u.wh,.int .i64 u.fr,.int .i64 u.tu,.int .i64 u.am,.int .i64 u.no]) rfl rfl (by kernel_rfl) (by kernel_rfl) (by kernel_rfl) (fun _ _ _ h=>h) ?_ (by assumption) ?_
    ·exact BA rfl 75 _ rfl rfl [.int .i64 u.k,.int .i64 u.vw,.string u.bn,.int .i64 u.bv,.string u.bs,.slice oa u.bw.length ka,.int .i64 u.pv,.string u.ps,.slice ob u.pw.length kb,.int .i64 u.qv,.string u.qs,.slice oc u.qw.length kc,.int .i64 u.wh,.int .i64 u.fr,.int .i64 u.tu,.int .i64 u.am,.int .i64 u.no] _ (fun w h=>h.2.2.2.2.2.2) Tryz.underlying75 rfl (by kernel_rfl)
    simp only[pU];refine rd 7 rfl (fun KK AA=>?_);go_simp;have hgo:=bA;refine(MOk.out _ _ _ _ _ _ _ (R1.out.below bA) (R2.out.below bA) (R3.out.below bA)).mono ?_;rintro e rH ⟨rfl,bb⟩;have Am:Below wr.heap.size wr rH:=bu bA bb;clear bA hgo bb hHeld;refine AA.out _ _ (K.out _ Am) (fun hHeld=>?_);clear AA KK;refine tx 8 77 ?_;refine tx 9 78 ?_;refine sx 10 79 ?_;refine sx 12 81 ?_;refine sx 16 85 ?_;refine sx 11 80 ?_;refine sx 17 86 ?_;refine sx 13 82 ?_;refine sx 18 87 ?_;refine sx 14 83 ?_;refine sx 15 84 ?_;refine sx 19 88 ?_;refine sx 20 89 ?_;refine tx 21 90 ?_;refine tx 22 91 ?_;refine sx 23 92 ?_;refine sx 25 94 ?_;refine sx 29 98 ?_;refine sx 24 93 ?_;refine sx 30 99 ?_;refine sx 26 95 ?_;refine sx 27 96 ?_;refine sx 28 97 ?_;refine sx 31 100 ?_;refine tx 32 101 ?_;clear hHeld;refine Bu ?_;have BZ:=bu BR Am;have FA:=PN.out (by simp);clear PN PY K;go_wp2;go_ret;exact⟨by rw[FA];simp,BZ⟩
   cases p2
   ·go_upto_region 6 with fail
    refine Em K (fun bA hHeld=>?_);refine tx 0 69 ?_;refine tx 1 70 ?_;refine tx 3 72 ?_;refine tx 2 71 ?_;refine tx 4 73 ?_;refine tx 5 74 ?_;refine take_at (i:=6) (d:=75) (v:= .agg #[.int .i64 u.k,.int .i64 u.vw,.string u.bn,.int .i64 u.bv,.string u.bs,.slice oa u.bw.length ka,.int .i64 u.pv,.string u.ps,.slice ob u.pw.length kb,.int .i64 u.qv,.string u.qs,.slice oc u.qw.length kc,.int .i64 u.wh,.int .i64 u.fr,.int .i64 u.tu,.int .i64 u.am,.int .i64 u.no]) rfl rfl (by kernel_rfl) (by kernel_rfl) (by kernel_rfl) (fun _ _ _ h=>h) ?_ (by assumption) ?_
    ·exact BA rfl 75 _ rfl rfl [.int .i64 u.k,.int .i64 u.vw,.string u.bn,.int .i64 u.bv,.string u.bs,.slice oa u.bw.length ka,.int .i64 u.pv,.string u.ps,.slice ob u.pw.length kb,.int .i64 u.qv,.string u.qs,.slice oc u.qw.length kc,.int .i64 u.wh,.int .i64 u.fr,.int .i64 u.tu,.int .i64 u.am,.int .i64 u.no] _ (fun w h=>h.2.2.2.2.2.2) Tryz.underlying75 rfl (by kernel_rfl)
    simp only[pU];refine rd 7 rfl (fun KK AA=>?_);go_simp;have hgo:=bA;refine(MOk.out _ _ _ _ _ _ _ (R1.out.below bA) (R2.out.below bA) (R3.out.below bA)).mono ?_;rintro e rH ⟨rfl,bb⟩;have Am:Below wr.heap.size wr rH:=bu bA bb;clear bA hgo bb hHeld;refine AA.out _ _ (K.out _ Am) (fun hHeld=>?_);clear AA KK;refine tx 8 77 ?_;refine tx 9 78 ?_;refine tx 10 79 ?_;refine tx 12 81 ?_;refine tx 16 85 ?_;refine tx 11 80 ?_;refine tx 17 86 ?_;refine tx 13 82 ?_;refine tx 18 87 ?_;refine tx 14 83 ?_;refine tx 15 84 ?_;refine rd 19 rfl (fun KK AA=>?_);go_simp;have hgo:=Am;refine(I4.out _).mono ?_;rintro e vJ ⟨rfl,bb⟩;have BG:Below wr.heap.size wr vJ:=bu Am bb;clear Am hgo bb hHeld;refine AA.out _ _ (K.out _ BG) (fun hHeld=>?_);clear AA KK;refine tx 20 89 ?_;refine tx 21 90 ?_;refine tx 22 91 ?_;refine sx 23 92 ?_;refine sx 25 94 ?_;refine sx 29 98 ?_;refine sx 24 93 ?_;refine sx 30 99 ?_;refine sx 26 95 ?_;refine sx 27 96 ?_;refine sx 28 97 ?_;refine sx 31 100 ?_;refine tx 32 101 ?_;clear hHeld;refine Bu ?_;have BZ:=bu BR BG;have FA:=PN.out (by simp);clear PN PY K;go_wp2;go_ret;exact⟨by rw[FA];simp,BZ⟩
   cases p3
   ·go_upto_region 6 with fail
    refine Em K (fun bA hHeld=>?_);refine tx 0 69 ?_;refine tx 1 70 ?_;refine tx 3 72 ?_;refine tx 2 71 ?_;refine tx 4 73 ?_;refine tx 5 74 ?_;refine take_at (i:=6) (d:=75) (v:= .agg #[.int .i64 u.k,.int .i64 u.vw,.string u.bn,.int .i64 u.bv,.string u.bs,.slice oa u.bw.length ka,.int .i64 u.pv,.string u.ps,.slice ob u.pw.length kb,.int .i64 u.qv,.string u.qs,.slice oc u.qw.length kc,.int .i64 u.wh,.int .i64 u.fr,.int .i64 u.tu,.int .i64 u.am,.int .i64 u.no]) rfl rfl (by kernel_rfl) (by kernel_rfl) (by kernel_rfl) (fun _ _ _ h=>h) ?_ (by assumption) ?_
    ·exact BA rfl 75 _ rfl rfl [.int .i64 u.k,.int .i64 u.vw,.string u.bn,.int .i64 u.bv,.string u.bs,.slice oa u.bw.length ka,.int .i64 u.pv,.string u.ps,.slice ob u.pw.length kb,.int .i64 u.qv,.string u.qs,.slice oc u.qw.length kc,.int .i64 u.wh,.int .i64 u.fr,.int .i64 u.tu,.int .i64 u.am,.int .i64 u.no] _ (fun w h=>h.2.2.2.2.2.2) Tryz.underlying75 rfl (by kernel_rfl)
    simp only[pU];refine rd 7 rfl (fun KK AA=>?_);go_simp;have hgo:=bA;refine(MOk.out _ _ _ _ _ _ _ (R1.out.below bA) (R2.out.below bA) (R3.out.below bA)).mono ?_;rintro e rH ⟨rfl,bb⟩;have Am:Below wr.heap.size wr rH:=bu bA bb;clear bA hgo bb hHeld;refine AA.out _ _ (K.out _ Am) (fun hHeld=>?_);clear AA KK;refine tx 8 77 ?_;refine tx 9 78 ?_;refine tx 10 79 ?_;refine tx 12 81 ?_;refine tx 16 85 ?_;refine tx 11 80 ?_;refine tx 17 86 ?_;refine tx 13 82 ?_;refine tx 18 87 ?_;refine tx 14 83 ?_;refine tx 15 84 ?_;refine rd 19 rfl (fun KK AA=>?_);go_simp;have hgo:=Am;refine(I4.out _).mono ?_;rintro e vJ ⟨rfl,bb⟩;have BG:Below wr.heap.size wr vJ:=bu Am bb;clear Am hgo bb hHeld;refine AA.out _ _ (K.out _ BG) (fun hHeld=>?_);clear AA KK;refine tx 20 89 ?_;refine tx 21 90 ?_;refine tx 22 91 ?_;refine tx 23 92 ?_;refine tx 25 94 ?_;refine tx 29 98 ?_;refine tx 24 93 ?_;refine tx 30 99 ?_;refine tx 26 95 ?_;refine tx 27 96 ?_;refine tx 28 97 ?_;refine tx 31 100 ?_;refine tx 32 101 ?_;clear hHeld;refine Bu ?_;have BZ:=bu br BG;have TR:=PY.out (by simp);clear PN PY K;go_wp2
    go_roundw
    case rel=>exact⟨k+1,by omega,by go_num,BZ,TR⟩
    case measure=>simp[intOf];omega
   go_upto_region 6 with fail
   refine Em K (fun bA hHeld=>?_);refine tx 0 69 ?_;refine tx 1 70 ?_;refine tx 3 72 ?_;refine tx 2 71 ?_;refine tx 4 73 ?_;refine tx 5 74 ?_;refine take_at (i:=6) (d:=75) (v:= .agg #[.int .i64 u.k,.int .i64 u.vw,.string u.bn,.int .i64 u.bv,.string u.bs,.slice oa u.bw.length ka,.int .i64 u.pv,.string u.ps,.slice ob u.pw.length kb,.int .i64 u.qv,.string u.qs,.slice oc u.qw.length kc,.int .i64 u.wh,.int .i64 u.fr,.int .i64 u.tu,.int .i64 u.am,.int .i64 u.no]) rfl rfl (by kernel_rfl) (by kernel_rfl) (by kernel_rfl) (fun _ _ _ h=>h) ?_ (by assumption) ?_
   ·exact BA rfl 75 _ rfl rfl [.int .i64 u.k,.int .i64 u.vw,.string u.bn,.int .i64 u.bv,.string u.bs,.slice oa u.bw.length ka,.int .i64 u.pv,.string u.ps,.slice ob u.pw.length kb,.int .i64 u.qv,.string u.qs,.slice oc u.qw.length kc,.int .i64 u.wh,.int .i64 u.fr,.int .i64 u.tu,.int .i64 u.am,.int .i64 u.no] _ (fun w h=>h.2.2.2.2.2.2) Tryz.underlying75 rfl (by kernel_rfl)
   simp only[pU];refine rd 7 rfl (fun KK AA=>?_);go_simp;have hgo:=bA;refine(MOk.out _ _ _ _ _ _ _ (R1.out.below bA) (R2.out.below bA) (R3.out.below bA)).mono ?_;rintro e rH ⟨rfl,bb⟩;have Am:Below wr.heap.size wr rH:=bu bA bb;clear bA hgo bb hHeld;refine AA.out _ _ (K.out _ Am) (fun hHeld=>?_);clear AA KK;refine tx 8 77 ?_;refine tx 9 78 ?_;refine tx 10 79 ?_;refine tx 12 81 ?_;refine tx 16 85 ?_;refine tx 11 80 ?_;refine tx 17 86 ?_;refine tx 13 82 ?_;refine tx 18 87 ?_;refine tx 14 83 ?_;refine tx 15 84 ?_;refine rd 19 rfl (fun KK AA=>?_);go_simp;have hgo:=Am;refine(I4.out _).mono ?_;rintro e vJ ⟨rfl,bb⟩;have BG:Below wr.heap.size wr vJ:=bu Am bb;clear Am hgo bb hHeld;refine AA.out _ _ (K.out _ BG) (fun hHeld=>?_);clear AA KK;refine tx 20 89 ?_;refine tx 21 90 ?_;refine tx 22 91 ?_;refine tx 23 92 ?_;refine tx 25 94 ?_;refine tx 29 98 ?_;refine tx 24 93 ?_;refine tx 30 99 ?_;refine tx 26 95 ?_;refine tx 27 96 ?_;refine tx 28 97 ?_;refine tx 31 100 ?_;refine tx 32 101 ?_;clear hHeld;refine Bu ?_;have BZ:=bu BR BG;have FA:=PN.out (by simp);clear PN PY K;go_wp2;go_ret;exact⟨by rw[FA];simp,BZ⟩
  have hkn:k=t.held.length:=by omega
  rw[hkn]at ho;have FA:=FU.out ho;subst hkn;clear NO NX MO FU ho;go_wp2;go_ret;exact⟨by rw[FA];simp,BR⟩
end
section
open Go.RowKit
variable [∀(a b c d:Int),Decidable (BK a b c d)] [∀(a b c d:Nat),Decidable (Dc a b c d)] [∀(last:Int)(s:St),Decidable (Ak last s)] [∀(x:T4),Decidable (Dv x)] [∀(n:Int)(s:List Int),Decidable (Dw n s)] [∀(n f:Int),Decidable (A9 n f)]
theorem sJ(n f m:Int)(s:ByteArray)(xs:List Int):Di n f m s xs=(decide (A9 n f)&&(decide (1≤m∧m≤60)&&((decide (s=⟨#[]⟩)||(Ao s==m))&&(decide ((0:Int)<(xs.length:Int))&&decide (Dw n xs))))):=by
 have hx:decide (xs≠[])=decide ((0:Int)<(xs.length:Int)):=by cases xs with|nil=>rfl|cons a l=>simp<;>omega
 have hv:(Ao s==m)=decide (Ao s=m):=by rw[Bool.eq_iff_iff,beq_iff_eq,decide_eq_true_iff]
 unfold Di;rw[hx,hv];by_cases hm:1≤m∧m≤60
 ·cases hk:(AV s).isSome with
  |true=>simp only[Bool.true_and];cases decide (A9 n f)<;>cases decide (1≤m∧m≤60)<;>cases decide (Dw n xs)<;>cases decide ((0:Int)<(xs.length:Int))<;>simp
  |false=>
   have h0:=Mg hk;have:decide (Ao s=m)=false:=by simp;omega
   rw[this];cases decide (A9 n f)<;>cases decide (1≤m∧m≤60)<;>cases decide (Dw n xs)<;>cases decide ((0:Int)<(xs.length:Int))<;>simp
 rw[decide_eq_false hm];simp
theorem Dn(x lo hi:Int)(w:World):Calls Tryz.prog 96 #[.int .i64 x,.int .i64 lo,.int .i64 hi] w fun e w'=>e= .returned (.bool (decide (lo≤x∧x≤hi)))∧Below w.heap.size w w':=by
 by_cases h:lo≤x∧x≤hi
 ·rw[decide_eq_true h];exact(Cv x lo hi w h.1 h.2).mono fun _ _ h=>⟨h.1,h.2▸Below.refl _ _⟩
 rw[decide_eq_false h];exact(Dx x lo hi w (by omega)).mono fun _ _ h=>⟨h.1,h.2▸Below.refl _ _⟩

theorem UX(m:Int)(s:ByteArray)(u:Value)(w:World)(hs:s.size≤33554432)(hE:Env w):
 Calls Tryz.prog 180 #[qv m s u] w fun e w'=>e= .returned (.bool (decide (s=⟨#[]⟩)||(Ao s==m)))∧Below w.heap.size w w':=by
 obtain⟨w0,hw0,AO,LP,_⟩:=bx1 w #[.int .i64 m,.string s,u] 72;have HE:=hide (hE.below AO);have VO:=hide fun w hE=>Ql s w hs hE;generalize Ao s=vw at *;clear hE;by_cases he:s=⟨#[]⟩
 ·have hd:decide (s=⟨#[]⟩)=true:=by simpa using he
  have hy:(s.toList==[])=true:=by rw[he,ByteArray.toList_eq];rfl
  rw[hd,Bool.true_or];clear he hd;go_enter Tryz.func180,Tryz.ntmps180
  have K:=kw (Uf LP 0 1 2);go_upto_region 1 with fail
  clear hw0;refine Em K (fun bA hHeld=>?_);refine tx 0 3 ?_;refine tx 1 4 ?_;refine tx 2 5 ?_;refine tx 3 6 ?_;refine sx 4 7 ?_;refine sx 7 10 ?_;refine sx 5 8 ?_;refine sx 8 11 ?_;refine sx 6 9 ?_;refine sx 9 12 ?_;refine tx 10 13 ?_;refine tx 11 2 ?_;clear hHeld;refine Bu ?_;obtain⟨kg,hwd⟩:∃y,w0.drew=y:=⟨_,rfl⟩
  rw[hwd]at bA⊢;clear hwd;have bb:=bA;have GY:=bu AO bb;have mQ:=bb.size;replace LP:=LP.up bb;clear AO bb bA K;go_wp2;go_ret;exact⟨rfl,GY⟩
 have hd:decide (s=⟨#[]⟩)=false:=by simpa using he
 have hne:=y9 he;rw[hd,Bool.false_or];clear he hd;go_enter Tryz.func180,Tryz.ntmps180
 have K:=kw (Uf LP 0 1 2);go_upto_region 1 with fail
 clear hw0;refine Em K (fun bA hHeld=>?_);refine tx 0 3 ?_;refine tx 1 4 ?_;refine tx 2 5 ?_;refine tx 3 6 ?_;refine tx 4 7 ?_;refine tx 7 10 ?_;refine tx 5 8 ?_;refine tx 8 11 ?_;refine rd 6 rfl (fun KK AA=>?_);go_simp;have hgo:=bA;refine(VO.out _ (HE.out.below hgo)).mono ?_;rintro e Dl ⟨rfl,bb⟩;have Am:Below w0.heap.size w0 Dl:=bu bA bb;clear bA hgo bb hHeld;refine AA.out _ _ (K.out _ Am) (fun hHeld=>?_);clear AA KK;refine tx 9 12 ?_;refine tx 10 13 ?_;refine tx 11 2 ?_;clear hHeld;refine Bu ?_;have bb:=Am;have Q_:=bu AO bb;have mI:=bb.size;replace LP:=LP.up bb;clear AO bb Am K;go_wp2;go_ret;exact⟨rfl,Q_⟩

theorem Qm(n f m:Int)(s:ByteArray)(u:Value)(xs:List Int)(w:World)(hs:s.size≤33554432)(hE:Env w)(hu:RI w u xs):
 Calls Tryz.prog 144 #[cv n f,qv m s u] w fun e w'=>e= .returned (.bool (Di n f m s xs))∧Below w.heap.size w w':=by
 obtain⟨ua,uc,rfl⟩:=hu.form;rw[sJ];obtain⟨k,hk⟩:∃k,xs.length=k:=⟨_,rfl⟩
 have CO:=hide fun w=>DR n f w;have IN:=hide fun w=>Dn m 1 60 w;have NI:=hide fun w hE=>UX m s (.slice ua xs.length uc) w hs hE;have SO:=hide fun w h=>TF n (.slice ua xs.length uc) xs w h;obtain⟨w0,hw0,AO,LC,LP,_⟩:=El w #[.int .i64 n,.int .i64 f] 48 #[.int .i64 m,.string s,.slice ua xs.length uc] 72;have HEw:=hide fun w'(hb:Below w.heap.size w w')=>hE.below hb;have RU:=hide fun w'(hb:Below w.heap.size w w')=>hu.below hb;rw[hk]at NI SO LP RU hw0⊢;clear hu hE hk;generalize decide (A9 n f)=c at *;generalize decide (1≤m∧m≤60)=r at *;generalize (decide (s=⟨#[]⟩)||(Ao s==m))=v at *;generalize decide (Dw n xs)=o at *;cases c
 ·simp only[Bool.false_and];go_enter Tryz.func144,Tryz.ntmps144
  obtain⟨AZ,Ab⟩:=B_ LC 0 1;go_wp2_with fail
  clear hw0;refine(CO.out _).mono ?_;rintro _ w1 ⟨rfl,bb⟩;clear AZ Ab;have AL:=bu AO bb;have Cj:=bb.size;replace LC:=LC.up bb;replace LP:=LP.up bb;clear AO bb;obtain⟨AZ,Ab⟩:=B_ LC 0 1;obtain⟨Bd,Bc,Bb⟩:=CW LP 0 1 2;go_wp2;go_ret;exact⟨rfl,AL⟩
 simp only[Bool.true_and];cases r
 ·simp only[Bool.false_and];go_enter Tryz.func144,Tryz.ntmps144
  obtain⟨AZ,Ab⟩:=B_ LC 0 1;go_wp2_with fail
  clear hw0;refine(CO.out _).mono ?_;rintro _ w1 ⟨rfl,bb⟩;clear AZ Ab;have AL:=bu AO bb;have Cj:=bb.size;replace LC:=LC.up bb;replace LP:=LP.up bb;clear AO bb;obtain⟨Bd,Bc,Bb⟩:=CW LP 0 1 2;go_wp2_with fail
  refine(IN.out _).mono ?_;rintro _ w2 ⟨rfl,bb⟩;clear Bd Bc Bb;have Ah:=bu AL bb;have Ej:=bb.size;replace LC:=LC.up bb;replace LP:=LP.up bb;clear AL bb;obtain⟨AZ,Ab⟩:=B_ LC 0 1;obtain⟨Bd,Bc,Bb⟩:=CW LP 0 1 2;go_wp2;go_ret;exact⟨rfl,Ah⟩
 simp only[Bool.true_and];cases v
 ·simp only[Bool.false_and];go_enter Tryz.func144,Tryz.ntmps144
  obtain⟨AZ,Ab⟩:=B_ LC 0 1;go_wp2_with fail
  clear hw0;refine(CO.out _).mono ?_;rintro _ w1 ⟨rfl,bb⟩;clear AZ Ab;have AL:=bu AO bb;have Cj:=bb.size;replace LC:=LC.up bb;replace LP:=LP.up bb;clear AO bb;obtain⟨Bd,Bc,Bb⟩:=CW LP 0 1 2;go_wp2_with fail
  refine(IN.out _).mono ?_;rintro _ w2 ⟨rfl,bb⟩;clear Bd Bc Bb;have Ah:=bu AL bb;have Ej:=bb.size;replace LC:=LC.up bb;replace LP:=LP.up bb;clear AL bb;obtain⟨Bd,Bc,Bb⟩:=CW LP 0 1 2;go_wp2_with fail
  refine(NI.out _ (HEw.out _ Ah)).mono ?_;rintro _ w3 ⟨rfl,bb⟩;clear Bd Bc Bb;have BH:=bu Ah bb;have IL:=bb.size;replace LC:=LC.up bb;replace LP:=LP.up bb;clear Ah bb;obtain⟨AZ,Ab⟩:=B_ LC 0 1;obtain⟨Bd,Bc,Bb⟩:=CW LP 0 1 2;go_wp2;go_ret;exact⟨rfl,BH⟩
 simp only[Bool.true_and];by_cases hk:k=0
 ·subst hk;have hd0:decide ((0:Int)<((0:Nat):Int))=false:=rfl;rw[hd0];simp only[Bool.false_and];go_enter Tryz.func144,Tryz.ntmps144
  obtain⟨AZ,Ab⟩:=B_ LC 0 1;go_wp2_with fail
  clear hw0;refine(CO.out _).mono ?_;rintro _ w1 ⟨rfl,bb⟩;clear AZ Ab;have AL:=bu AO bb;have Cj:=bb.size;replace LC:=LC.up bb;replace LP:=LP.up bb;clear AO bb;obtain⟨Bd,Bc,Bb⟩:=CW LP 0 1 2;go_wp2_with fail
  refine(IN.out _).mono ?_;rintro _ w2 ⟨rfl,bb⟩;clear Bd Bc Bb;have Ah:=bu AL bb;have Ej:=bb.size;replace LC:=LC.up bb;replace LP:=LP.up bb;clear AL bb;obtain⟨Bd,Bc,Bb⟩:=CW LP 0 1 2;go_wp2_with fail
  refine(NI.out _ (HEw.out _ Ah)).mono ?_;rintro _ w3 ⟨rfl,bb⟩;clear Bd Bc Bb;have BH:=bu Ah bb;have IL:=bb.size;replace LC:=LC.up bb;replace LP:=LP.up bb;clear Ah bb;obtain⟨AZ,Ab⟩:=B_ LC 0 1;obtain⟨Bd,Bc,Bb⟩:=CW LP 0 1 2;go_wp2;go_ret;exact⟨rfl,BH⟩
 have hd0:decide ((0:Int)<(k:Int))=true:=by simp;omega
 rw[hd0];simp only[Bool.true_and];cases o
 ·go_enter Tryz.func144,Tryz.ntmps144
  obtain⟨AZ,Ab⟩:=B_ LC 0 1;go_wp2_with fail
  clear hw0;refine(CO.out _).mono ?_;rintro _ w1 ⟨rfl,bb⟩;clear AZ Ab;have AL:=bu AO bb;have Cj:=bb.size;replace LC:=LC.up bb;replace LP:=LP.up bb;clear AO bb;obtain⟨Bd,Bc,Bb⟩:=CW LP 0 1 2;go_wp2_with fail
  refine(IN.out _).mono ?_;rintro _ w2 ⟨rfl,bb⟩;clear Bd Bc Bb;have Ah:=bu AL bb;have Ej:=bb.size;replace LC:=LC.up bb;replace LP:=LP.up bb;clear AL bb;obtain⟨Bd,Bc,Bb⟩:=CW LP 0 1 2;go_wp2_with fail
  refine(NI.out _ (HEw.out _ Ah)).mono ?_;rintro _ w3 ⟨rfl,bb⟩;clear Bd Bc Bb;have BH:=bu Ah bb;have IL:=bb.size;replace LC:=LC.up bb;replace LP:=LP.up bb;clear Ah bb;obtain⟨AZ,Ab⟩:=B_ LC 0 1;obtain⟨Bd,Bc,Bb⟩:=CW LP 0 1 2;go_wp2_with fail
  refine(SO.out _ (RU.out _ BH)).mono ?_;rintro _ w4 ⟨rfl,bb⟩;clear AZ Ab Bd Bc Bb;have Cr:=bu BH bb;have Nq:=bb.size;replace LC:=LC.up bb;replace LP:=LP.up bb;clear BH bb;obtain⟨AZ,Ab⟩:=B_ LC 0 1;obtain⟨Bd,Bc,Bb⟩:=CW LP 0 1 2;go_wp2;go_ret;exact⟨rfl,Cr⟩
 go_enter Tryz.func144,Tryz.ntmps144
 obtain⟨AZ,Ab⟩:=B_ LC 0 1;go_wp2_with fail
 clear hw0;refine(CO.out _).mono ?_;rintro _ w1 ⟨rfl,bb⟩;clear AZ Ab;have AL:=bu AO bb;have Cj:=bb.size;replace LC:=LC.up bb;replace LP:=LP.up bb;clear AO bb;obtain⟨Bd,Bc,Bb⟩:=CW LP 0 1 2;go_wp2_with fail
 refine(IN.out _).mono ?_;rintro _ w2 ⟨rfl,bb⟩;clear Bd Bc Bb;have Ah:=bu AL bb;have Ej:=bb.size;replace LC:=LC.up bb;replace LP:=LP.up bb;clear AL bb;obtain⟨Bd,Bc,Bb⟩:=CW LP 0 1 2;go_wp2_with fail
 refine(NI.out _ (HEw.out _ Ah)).mono ?_;rintro _ w3 ⟨rfl,bb⟩;clear Bd Bc Bb;have BH:=bu Ah bb;have IL:=bb.size;replace LC:=LC.up bb;replace LP:=LP.up bb;clear Ah bb;obtain⟨AZ,Ab⟩:=B_ LC 0 1;obtain⟨Bd,Bc,Bb⟩:=CW LP 0 1 2;go_wp2_with fail
 refine(SO.out _ (RU.out _ BH)).mono ?_;rintro _ w4 ⟨rfl,bb⟩;clear AZ Ab Bd Bc Bb;have Cr:=bu BH bb;have Nq:=bb.size;replace LC:=LC.up bb;replace LP:=LP.up bb;clear BH bb;obtain⟨AZ,Ab⟩:=B_ LC 0 1;obtain⟨Bd,Bc,Bb⟩:=CW LP 0 1 2;go_wp2;go_ret;exact⟨rfl,Cr⟩
end
end Go.Proofs.YtcjmcgolgbkknaaGreatDoor
