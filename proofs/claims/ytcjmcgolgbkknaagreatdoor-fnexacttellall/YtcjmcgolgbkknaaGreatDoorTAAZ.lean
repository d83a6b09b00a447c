/- Lemmas, as stated. -/
import Derived.Test.YtcjmcgolgbkknaaGreatDoorTAAW
set_option maxRecDepth 100000
set_option maxHeartbeats 16000000
set_option linter.unusedSectionVars false
namespace Go.Proofs.YtcjmcgolgbkknaaGreatDoor
section
open Go.RowKit
variable [∀(a b c d:Int),Decidable (BG a b c d)]
def bg(t:MT):MT:=⟨t.k,0,t.bn,t.bv,t.bs,t.bw,0,⟨#[]⟩,[],0,⟨#[]⟩,[],0,0,0,0,0⟩
def bf(t:MT):MT:=⟨t.k,0,⟨#[]⟩,0,⟨#[]⟩,[],t.pv,t.ps,t.pw,0,⟨#[]⟩,[],0,0,0,0,0⟩
def bV(t:MT):MT:=⟨t.k,t.vw,⟨#[]⟩,0,⟨#[]⟩,[],0,⟨#[]⟩,[],t.qv,t.qs,t.qw,t.wh,0,0,0,0⟩
def bT(t:MT):MT:=⟨t.k,0,⟨#[]⟩,0,⟨#[]⟩,[],0,⟨#[]⟩,[],0,⟨#[]⟩,[],0,t.fr,t.tu,t.am,t.no⟩
def mO(t:MT):MT:=⟨t.k,0,⟨#[]⟩,0,⟨#[]⟩,[],0,⟨#[]⟩,[],0,⟨#[]⟩,[],0,0,0,0,0⟩
def Ow(t:MT):MT:=if t.k=1 then bg t else if t.k=2 then bf t else if t.k=3 then bV t else if t.k=4 then bT t else mO t
theorem wK{t:MT}(h:t.k=1):Ow t=bg t:=by unfold Ow;rw[if_pos h]
theorem wJ{t:MT}(h:t.k=2):Ow t=bf t:=by unfold Ow;rw[if_neg (by omega),if_pos h]
theorem wI{t:MT}(h:t.k=3):Ow t=bV t:=by unfold Ow;rw[if_neg (by omega),if_neg (by omega),if_pos h]
theorem wH{t:MT}(h:t.k=4):Ow t=bT t:=by unfold Ow;rw[if_neg (by omega),if_neg (by omega),if_neg (by omega),if_pos h]
theorem AAL{t:MT}(h1:¬t.k=1)(h2:¬t.k=2)(h3:¬t.k=3)(h4:¬t.k=4):Ow t=mO t:=by unfold Ow;rw[if_neg h1,if_neg h2,if_neg h3,if_neg h4]
def J7(t:MT):Bool:=Dq (Ow t) t
theorem Cj(w:World):RI w (.slice none 0 0) []:=⟨by simp,.none,0,rfl,.inl rfl⟩
theorem kinds(k:Int):k=1∨k=2∨k=3∨k=4∨(¬k=1∧¬k=2∧¬k=3∧¬k=4):=by omega
theorem dL(t:MT)(ao bo co:Option Addr)(ca cb cc:Nat)(w:World)(hk:t.k=1)(ha:RI w (.slice ao t.bw.length ca) t.bw)(hb:RI w (.slice bo t.pw.length cb) t.pw)(hc:RI w (.slice co t.qw.length cc) t.qw):
 Calls Tryz.prog 130 #[Dw t (.slice ao t.bw.length ca) (.slice bo t.pw.length cb) (.slice co t.qw.length cc)] w fun e w'=>e= .returned (.bool (Dq (bg t) t))∧Below w.heap.size w w':=by
 have dk1:decide (t.k=1)=true:=by simpa using hk
 have ZY:(t.k==1)=true:=by simpa using hk
 have SM:=hide fun w h1 h2 h3 h4 h5 h6=>FD (bg t) t ao .none .none ao bo co ca 0 0 ca cb cc w h1 h2 h3 h4 h5 h6;have HK:=hide hk;clear hk;have ha1:=hide ha;have hb1:=hide hb;have hc1:=hide hc;clear ha hb hc;obtain⟨w0,hw0,AO,A,DC⟩:=bx1 w #[.int .i64 t.k,.int .i64 t.vw,.string t.bn,.int .i64 t.bv,.string t.bs,.slice ao t.bw.length ca,.int .i64 t.pv,.string t.ps,.slice bo t.pw.length cb,.int .i64 t.qv,.string t.qs,.slice co t.qw.length cc,.int .i64 t.wh,.int .i64 t.fr,.int .i64 t.tu,.int .i64 t.am,.int .i64 t.no] 75;go_enter Tryz.func130,Tryz.ntmps130
 have Bi:=A.cell 0 rfl;go_upto_region 2 with fail
 clear hw0 Bi;obtain⟨w1,hw1⟩:∃y,w0.alloc (.cells #[.int .i64 t.k,.int .i64 0,.string ⟨#[]⟩,.int .i64 0,.string ⟨#[]⟩,.slice none 0 0,.int .i64 0,.string ⟨#[]⟩,.slice none 0 0,.int .i64 0,.string ⟨#[]⟩,.slice none 0 0,.int .i64 0,.int .i64 0,.int .i64 0,.int .i64 0,.int .i64 0] 75)=y:=⟨_,rfl⟩
 have bb:Below w0.heap.size w0 w1:=hw1▸Aj _ _;have X:Loc w1 w0.heap.size #[.int .i64 t.k,.int .i64 0,.string ⟨#[]⟩,.int .i64 0,.string ⟨#[]⟩,.slice none 0 0,.int .i64 0,.string ⟨#[]⟩,.slice none 0 0,.int .i64 0,.string ⟨#[]⟩,.slice none 0 0,.int .i64 0,.int .i64 0,.int .i64 0,.int .i64 0,.int .i64 0]:=hw1▸AJ w0 _ _ rfl;have oh:w0.heap.size+1≤w1.heap.size:=by rw[←hw1];simp
 rw[hw1];clear hw1;have AZ:=bu AO bb;have Cx:=bb.size;replace A:=A.up bb;clear AO bb;obtain⟨Bi,Da,Em,FL,GD⟩:=Za A 0 2 3 4 5;obtain⟨cX2,cX3,cX4,cX5⟩:=WT X 2 3 4 5;have fX:=X.frozen;go_upto_region 13 with fail
 clear Bi Da Em FL GD cX2 cX3 cX4 cX5 fX;obtain⟨w2,hw2⟩:∃Ck,((((w1.setCell ⟨w0.heap.size,2,none⟩ (.string t.bn)).setCell ⟨w0.heap.size,3,none⟩ (.int .i64 t.bv)).setCell ⟨w0.heap.size,4,none⟩ (.string t.bs)).setCell ⟨w0.heap.size,5,none⟩ (.slice ao t.bw.length ca))=Ck:=⟨_,rfl⟩
 have kN:Kp w1 w2 (fun k=>k=w0.heap.size):=hw2▸(((AB _ _ _ _).trans (AB _ _ _ _)).trans (AB _ _ _ _)).trans (AB _ _ _ _);replace X:Loc w2 (w0.heap.size) #[.int .i64 t.k,.int .i64 0,.string t.bn,.int .i64 t.bv,.string t.bs,.slice ao t.bw.length ca,.int .i64 0,.string ⟨#[]⟩,.slice none 0 0,.int .i64 0,.string ⟨#[]⟩,.slice none 0 0,.int .i64 0,.int .i64 0,.int .i64 0,.int .i64 0,.int .i64 0]:=hw2▸((((X.set 2 _ rfl).set 3 _ rfl).set 4 _ rfl).set 5 _ rfl);replace A:=A.kp kN (by omega);have Ao:=Below.kp AZ kN AZ.size (fun k hk=>by omega);have Ex:=kN.size;rw[hw2];clear hw2 kN AZ;have Ze:=SM.out _ (ha1.out.below Ao) (Cj _) (Cj _) (ha1.out.below Ao) (hb1.out.below Ao) (hc1.out.below Ao);clear SM ha1 hb1 hc1;have H5:=hide Ze;clear Ze;go_wp2_with (first|(refine Ap X 75 _ rfl _ rfl rfl Tryz.underlying75 rfl (by kernel_rfl) ?_)|(refine Ap A 75 _ rfl _ rfl rfl Tryz.underlying75 rfl (by kernel_rfl) ?_))
 refine H5.out.mono ?_;rintro _ w3 ⟨rfl,bb⟩;have BK:=bu Ao bb;have IW:=bb.size;replace A:=A.up bb;replace X:=X.up bb;clear Ao bb;go_wp2;go_ret;exact⟨rfl,BK⟩

theorem dK(t:MT)(ao bo co:Option Addr)(ca cb cc:Nat)(w:World)(hk:t.k=2)(ha:RI w (.slice ao t.bw.length ca) t.bw)(hb:RI w (.slice bo t.pw.length cb) t.pw)(hc:RI w (.slice co t.qw.length cc) t.qw):
 Calls Tryz.prog 130 #[Dw t (.slice ao t.bw.length ca) (.slice bo t.pw.length cb) (.slice co t.qw.length cc)] w fun e w'=>e= .returned (.bool (Dq (bf t) t))∧Below w.heap.size w w':=by
 have dk1:decide (t.k=1)=false:=by simp;omega
 have ZY:(t.k==1)=false:=by simp;omega
 have dk2:decide (t.k=2)=true:=by simpa using hk
 have jR:(t.k==2)=true:=by simpa using hk
 have SM:=hide fun w h1 h2 h3 h4 h5 h6=>FD (bf t) t .none bo .none ao bo co 0 cb 0 ca cb cc w h1 h2 h3 h4 h5 h6;have HK:=hide hk;clear hk;have ha1:=hide ha;have hb1:=hide hb;have hc1:=hide hc;clear ha hb hc;obtain⟨w0,hw0,AO,A,DC⟩:=bx1 w #[.int .i64 t.k,.int .i64 t.vw,.string t.bn,.int .i64 t.bv,.string t.bs,.slice ao t.bw.length ca,.int .i64 t.pv,.string t.ps,.slice bo t.pw.length cb,.int .i64 t.qv,.string t.qs,.slice co t.qw.length cc,.int .i64 t.wh,.int .i64 t.fr,.int .i64 t.tu,.int .i64 t.am,.int .i64 t.no] 75;go_enter Tryz.func130,Tryz.ntmps130
 have Bi:=A.cell 0 rfl;go_upto_region 2 with fail
 clear hw0 Bi;obtain⟨w1,hw1⟩:∃y,w0.alloc (.cells #[.int .i64 t.k,.int .i64 0,.string ⟨#[]⟩,.int .i64 0,.string ⟨#[]⟩,.slice none 0 0,.int .i64 0,.string ⟨#[]⟩,.slice none 0 0,.int .i64 0,.string ⟨#[]⟩,.slice none 0 0,.int .i64 0,.int .i64 0,.int .i64 0,.int .i64 0,.int .i64 0] 75)=y:=⟨_,rfl⟩
 have bb:Below w0.heap.size w0 w1:=hw1▸Aj _ _;have X:Loc w1 w0.heap.size #[.int .i64 t.k,.int .i64 0,.string ⟨#[]⟩,.int .i64 0,.string ⟨#[]⟩,.slice none 0 0,.int .i64 0,.string ⟨#[]⟩,.slice none 0 0,.int .i64 0,.string ⟨#[]⟩,.slice none 0 0,.int .i64 0,.int .i64 0,.int .i64 0,.int .i64 0,.int .i64 0]:=hw1▸AJ w0 _ _ rfl;have oh:w0.heap.size+1≤w1.heap.size:=by rw[←hw1];simp
 rw[hw1];clear hw1;have AZ:=bu AO bb;have Cx:=bb.size;replace A:=A.up bb;clear AO bb;obtain⟨Bi,Gq,Ga,Gp⟩:=WT A 0 6 7 8;obtain⟨cX6,cX7,cX8⟩:=B_ X 6 7 8;have fX:=X.frozen;go_upto_region 13 with fail
 clear Bi Gq Ga Gp cX6 cX7 cX8 fX;obtain⟨w2,hw2⟩:∃Ck,(((w1.setCell ⟨w0.heap.size,6,none⟩ (.int .i64 t.pv)).setCell ⟨w0.heap.size,7,none⟩ (.string t.ps)).setCell ⟨w0.heap.size,8,none⟩ (.slice bo t.pw.length cb))=Ck:=⟨_,rfl⟩
 have kN:Kp w1 w2 (fun k=>k=w0.heap.size):=hw2▸((AB _ _ _ _).trans (AB _ _ _ _)).trans (AB _ _ _ _);replace X:Loc w2 (w0.heap.size) #[.int .i64 t.k,.int .i64 0,.string ⟨#[]⟩,.int .i64 0,.string ⟨#[]⟩,.slice none 0 0,.int .i64 t.pv,.string t.ps,.slice bo t.pw.length cb,.int .i64 0,.string ⟨#[]⟩,.slice none 0 0,.int .i64 0,.int .i64 0,.int .i64 0,.int .i64 0,.int .i64 0]:=hw2▸(((X.set 6 _ rfl).set 7 _ rfl).set 8 _ rfl);replace A:=A.kp kN (by omega);have Ao:=Below.kp AZ kN AZ.size (fun k hk=>by omega);have Ex:=kN.size;rw[hw2];clear hw2 kN AZ;have Ze:=SM.out _ (Cj _) (hb1.out.below Ao) (Cj _) (ha1.out.below Ao) (hb1.out.below Ao) (hc1.out.below Ao);clear SM ha1 hb1 hc1;have H5:=hide Ze;clear Ze;go_wp2_with (first|(refine Ap X 75 _ rfl _ rfl rfl Tryz.underlying75 rfl (by kernel_rfl) ?_)|(refine Ap A 75 _ rfl _ rfl rfl Tryz.underlying75 rfl (by kernel_rfl) ?_))
 refine H5.out.mono ?_;rintro _ w3 ⟨rfl,bb⟩;have BK:=bu Ao bb;have IW:=bb.size;replace A:=A.up bb;replace X:=X.up bb;clear Ao bb;go_wp2;go_ret;exact⟨rfl,BK⟩

theorem dJ(t:MT)(ao bo co:Option Addr)(ca cb cc:Nat)(w:World)(hk:t.k=3)(ha:RI w (.slice ao t.bw.length ca) t.bw)(hb:RI w (.slice bo t.pw.length cb) t.pw)(hc:RI w (.slice co t.qw.length cc) t.qw):
 Calls Tryz.prog 130 #[Dw t (.slice ao t.bw.length ca) (.slice bo t.pw.length cb) (.slice co t.qw.length cc)] w fun e w'=>e= .returned (.bool (Dq (bV t) t))∧Below w.heap.size w w':=by
 have dk1:decide (t.k=1)=false:=by simp;omega
 have ZY:(t.k==1)=false:=by simp;omega
 have dk2:decide (t.k=2)=false:=by simp;omega
 have jR:(t.k==2)=false:=by simp;omega
 have dk3:decide (t.k=3)=true:=by simpa using hk
 have pq:(t.k==3)=true:=by simpa using hk
 have SM:=hide fun w h1 h2 h3 h4 h5 h6=>FD (bV t) t .none .none co ao bo co 0 0 cc ca cb cc w h1 h2 h3 h4 h5 h6;have HK:=hide hk;clear hk;have ha1:=hide ha;have hb1:=hide hb;have hc1:=hide hc;clear ha hb hc;obtain⟨w0,hw0,AO,A,DC⟩:=bx1 w #[.int .i64 t.k,.int .i64 t.vw,.string t.bn,.int .i64 t.bv,.string t.bs,.slice ao t.bw.length ca,.int .i64 t.pv,.string t.ps,.slice bo t.pw.length cb,.int .i64 t.qv,.string t.qs,.slice co t.qw.length cc,.int .i64 t.wh,.int .i64 t.fr,.int .i64 t.tu,.int .i64 t.am,.int .i64 t.no] 75;go_enter Tryz.func130,Tryz.ntmps130
 have Bi:=A.cell 0 rfl;go_upto_region 2 with fail
 clear hw0 Bi;obtain⟨w1,hw1⟩:∃y,w0.alloc (.cells #[.int .i64 t.k,.int .i64 0,.string ⟨#[]⟩,.int .i64 0,.string ⟨#[]⟩,.slice none 0 0,.int .i64 0,.string ⟨#[]⟩,.slice none 0 0,.int .i64 0,.string ⟨#[]⟩,.slice none 0 0,.int .i64 0,.int .i64 0,.int .i64 0,.int .i64 0,.int .i64 0] 75)=y:=⟨_,rfl⟩
 have bb:Below w0.heap.size w0 w1:=hw1▸Aj _ _;have X:Loc w1 w0.heap.size #[.int .i64 t.k,.int .i64 0,.string ⟨#[]⟩,.int .i64 0,.string ⟨#[]⟩,.slice none 0 0,.int .i64 0,.string ⟨#[]⟩,.slice none 0 0,.int .i64 0,.string ⟨#[]⟩,.slice none 0 0,.int .i64 0,.int .i64 0,.int .i64 0,.int .i64 0,.int .i64 0]:=hw1▸AJ w0 _ _ rfl;have oh:w0.heap.size+1≤w1.heap.size:=by rw[←hw1];simp
 rw[hw1];clear hw1;have AZ:=bu AO bb;have Cx:=bb.size;replace A:=A.up bb;clear AO bb;obtain⟨Bi,Db⟩:=Cn A 0 1;have cX1:=X.cell 1 rfl;have fX:=X.frozen;go_upto_region 9 with fail
 clear Bi Db cX1 fX;obtain⟨w2,hw2⟩:∃Ck,(w1.setCell ⟨w0.heap.size,1,none⟩ (.int .i64 t.vw))=Ck:=⟨_,rfl⟩
 have kN:Kp w1 w2 (fun k=>k=w0.heap.size):=hw2▸AB _ _ _ _;replace X:Loc w2 (w0.heap.size) #[.int .i64 t.k,.int .i64 t.vw,.string ⟨#[]⟩,.int .i64 0,.string ⟨#[]⟩,.slice none 0 0,.int .i64 0,.string ⟨#[]⟩,.slice none 0 0,.int .i64 0,.string ⟨#[]⟩,.slice none 0 0,.int .i64 0,.int .i64 0,.int .i64 0,.int .i64 0,.int .i64 0]:=hw2▸(X.set 1 _ rfl);replace A:=A.kp kN (by omega);have Ao:=Below.kp AZ kN AZ.size (fun k hk=>by omega);have Ex:=kN.size;rw[hw2];clear hw2 kN AZ;obtain⟨Fp,CG,Cm⟩:=B_ A 9 10 11;obtain⟨cX9,AA3,AA2⟩:=B_ X 9 10 11;have fX:=X.frozen;go_upto_region 10 with fail
 clear Fp CG Cm cX9 AA3 AA2 fX;obtain⟨w3,hw3⟩:∃Ck,(((w2.setCell ⟨w0.heap.size,9,none⟩ (.int .i64 t.qv)).setCell ⟨w0.heap.size,10,none⟩ (.string t.qs)).setCell ⟨w0.heap.size,11,none⟩ (.slice co t.qw.length cc))=Ck:=⟨_,rfl⟩
 have kN:Kp w2 w3 (fun k=>k=w0.heap.size):=hw3▸((AB _ _ _ _).trans (AB _ _ _ _)).trans (AB _ _ _ _);replace X:Loc w3 (w0.heap.size) #[.int .i64 t.k,.int .i64 t.vw,.string ⟨#[]⟩,.int .i64 0,.string ⟨#[]⟩,.slice none 0 0,.int .i64 0,.string ⟨#[]⟩,.slice none 0 0,.int .i64 t.qv,.string t.qs,.slice co t.qw.length cc,.int .i64 0,.int .i64 0,.int .i64 0,.int .i64 0,.int .i64 0]:=hw3▸(((X.set 9 _ rfl).set 10 _ rfl).set 11 _ rfl);replace A:=A.kp kN (by omega);have BK:=Below.kp Ao kN Ao.size (fun k hk=>by omega);have IW:=kN.size;rw[hw3];clear hw3 kN Ao;have C9:=A.cell 12 rfl;have AA1:=X.cell 12 rfl;have fX:=X.frozen;go_upto_region 13 with fail
 clear C9 AA1 fX;obtain⟨w4,hw4⟩:∃Ck,(w3.setCell ⟨w0.heap.size,12,none⟩ (.int .i64 t.wh))=Ck:=⟨_,rfl⟩
 have kN:Kp w3 w4 (fun k=>k=w0.heap.size):=hw4▸AB _ _ _ _;replace X:Loc w4 (w0.heap.size) #[.int .i64 t.k,.int .i64 t.vw,.string ⟨#[]⟩,.int .i64 0,.string ⟨#[]⟩,.slice none 0 0,.int .i64 0,.string ⟨#[]⟩,.slice none 0 0,.int .i64 t.qv,.string t.qs,.slice co t.qw.length cc,.int .i64 t.wh,.int .i64 0,.int .i64 0,.int .i64 0,.int .i64 0]:=hw4▸(X.set 12 _ rfl);replace A:=A.kp kN (by omega);have Co:=Below.kp BK kN BK.size (fun k hk=>by omega);have OJ:=kN.size;rw[hw4];clear hw4 kN BK;have Ze:=SM.out _ (Cj _) (Cj _) (hc1.out.below Co) (ha1.out.below Co) (hb1.out.below Co) (hc1.out.below Co);clear SM ha1 hb1 hc1;have H5:=hide Ze;clear Ze;go_wp2_with (first|(refine Ap X 75 _ rfl _ rfl rfl Tryz.underlying75 rfl (by kernel_rfl) ?_)|(refine Ap A 75 _ rfl _ rfl rfl Tryz.underlying75 rfl (by kernel_rfl) ?_))
 refine H5.out.mono ?_;rintro _ w5 ⟨rfl,bb⟩;have FT:=bu Co bb;have Z8:=bb.size;replace A:=A.up bb;replace X:=X.up bb;clear Co bb;go_wp2;go_ret;exact⟨rfl,FT⟩

theorem dI(t:MT)(ao bo co:Option Addr)(ca cb cc:Nat)(w:World)(hk:t.k=4)(ha:RI w (.slice ao t.bw.length ca) t.bw)(hb:RI w (.slice bo t.pw.length cb) t.pw)(hc:RI w (.slice co t.qw.length cc) t.qw):
 Calls Tryz.prog 130 #[Dw t (.slice ao t.bw.length ca) (.slice bo t.pw.length cb) (.slice co t.qw.length cc)] w fun e w'=>e= .returned (.bool (Dq (bT t) t))∧Below w.heap.size w w':=by
 have dk1:decide (t.k=1)=false:=by simp;omega
 have ZY:(t.k==1)=false:=by simp;omega
 have dk2:decide (t.k=2)=false:=by simp;omega
 have jR:(t.k==2)=false:=by simp;omega
 have dk3:decide (t.k=3)=false:=by simp;omega
 have pq:(t.k==3)=false:=by simp;omega
 have xE:decide (t.k=4)=true:=by simpa using hk
 have xB:(t.k==4)=true:=by simpa using hk
 have SM:=hide fun w h1 h2 h3 h4 h5 h6=>FD (bT t) t .none .none .none ao bo co 0 0 0 ca cb cc w h1 h2 h3 h4 h5 h6;have HK:=hide hk;clear hk;have ha1:=hide ha;have hb1:=hide hb;have hc1:=hide hc;clear ha hb hc;obtain⟨w0,hw0,AO,A,DC⟩:=bx1 w #[.int .i64 t.k,.int .i64 t.vw,.string t.bn,.int .i64 t.bv,.string t.bs,.slice ao t.bw.length ca,.int .i64 t.pv,.string t.ps,.slice bo t.pw.length cb,.int .i64 t.qv,.string t.qs,.slice co t.qw.length cc,.int .i64 t.wh,.int .i64 t.fr,.int .i64 t.tu,.int .i64 t.am,.int .i64 t.no] 75;go_enter Tryz.func130,Tryz.ntmps130
 have Bi:=A.cell 0 rfl;go_upto_region 2 with fail
 clear hw0 Bi;obtain⟨w1,hw1⟩:∃y,w0.alloc (.cells #[.int .i64 t.k,.int .i64 0,.string ⟨#[]⟩,.int .i64 0,.string ⟨#[]⟩,.slice none 0 0,.int .i64 0,.string ⟨#[]⟩,.slice none 0 0,.int .i64 0,.string ⟨#[]⟩,.slice none 0 0,.int .i64 0,.int .i64 0,.int .i64 0,.int .i64 0,.int .i64 0] 75)=y:=⟨_,rfl⟩
 have bb:Below w0.heap.size w0 w1:=hw1▸Aj _ _;have X:Loc w1 w0.heap.size #[.int .i64 t.k,.int .i64 0,.string ⟨#[]⟩,.int .i64 0,.string ⟨#[]⟩,.slice none 0 0,.int .i64 0,.string ⟨#[]⟩,.slice none 0 0,.int .i64 0,.string ⟨#[]⟩,.slice none 0 0,.int .i64 0,.int .i64 0,.int .i64 0,.int .i64 0,.int .i64 0]:=hw1▸AJ w0 _ _ rfl;have oh:w0.heap.size+1≤w1.heap.size:=by rw[←hw1];simp
 rw[hw1];clear hw1;have AZ:=bu AO bb;have Cx:=bb.size;replace A:=A.up bb;clear AO bb;obtain⟨Bi,BV,DR,DN,DL⟩:=Za A 0 13 14 15 16;obtain⟨AA0,AAz,AAy,AAx⟩:=WT X 13 14 15 16;have fX:=X.frozen;go_upto_region 13 with fail
 clear Bi BV DR DN DL AA0 AAz AAy AAx fX;obtain⟨w2,hw2⟩:∃Ck,((((w1.setCell ⟨w0.heap.size,13,none⟩ (.int .i64 t.fr)).setCell ⟨w0.heap.size,14,none⟩ (.int .i64 t.tu)).setCell ⟨w0.heap.size,15,none⟩ (.int .i64 t.am)).setCell ⟨w0.heap.size,16,none⟩ (.int .i64 t.no))=Ck:=⟨_,rfl⟩
 have kN:Kp w1 w2 (fun k=>k=w0.heap.size):=hw2▸(((AB _ _ _ _).trans (AB _ _ _ _)).trans (AB _ _ _ _)).trans (AB _ _ _ _);replace X:Loc w2 (w0.heap.size) #[.int .i64 t.k,.int .i64 0,.string ⟨#[]⟩,.int .i64 0,.string ⟨#[]⟩,.slice none 0 0,.int .i64 0,.string ⟨#[]⟩,.slice none 0 0,.int .i64 0,.string ⟨#[]⟩,.slice none 0 0,.int .i64 0,.int .i64 t.fr,.int .i64 t.tu,.int .i64 t.am,.int .i64 t.no]:=hw2▸((((X.set 13 _ rfl).set 14 _ rfl).set 15 _ rfl).set 16 _ rfl);replace A:=A.kp kN (by omega);have Ao:=Below.kp AZ kN AZ.size (fun k hk=>by omega);have Ex:=kN.size;rw[hw2];clear hw2 kN AZ;have Ze:=SM.out _ (Cj _) (Cj _) (Cj _) (ha1.out.below Ao) (hb1.out.below Ao) (hc1.out.below Ao);clear SM ha1 hb1 hc1;have H5:=hide Ze;clear Ze;go_wp2_with (first|(refine Ap X 75 _ rfl _ rfl rfl Tryz.underlying75 rfl (by kernel_rfl) ?_)|(refine Ap A 75 _ rfl _ rfl rfl Tryz.underlying75 rfl (by kernel_rfl) ?_))
 refine H5.out.mono ?_;rintro _ w3 ⟨rfl,bb⟩;have BK:=bu Ao bb;have IW:=bb.size;replace A:=A.up bb;replace X:=X.up bb;clear Ao bb;go_wp2;go_ret;exact⟨rfl,BK⟩

theorem dM(t:MT)(ao bo co:Option Addr)(ca cb cc:Nat)(w:World)(h1:¬t.k=1)(h2:¬t.k=2)(h3:¬t.k=3)(h4:¬t.k=4)(ha:RI w (.slice ao t.bw.length ca) t.bw)(hb:RI w (.slice bo t.pw.length cb) t.pw)(hc:RI w (.slice co t.qw.length cc) t.qw):
 Calls Tryz.prog 130 #[Dw t (.slice ao t.bw.length ca) (.slice bo t.pw.length cb) (.slice co t.qw.length cc)] w fun e w'=>e= .returned (.bool (Dq (mO t) t))∧Below w.heap.size w w':=by
 have dk1:decide (t.k=1)=false:=by simp;omega
 have ZY:(t.k==1)=false:=by simp;omega
 have dk2:decide (t.k=2)=false:=by simp;omega
 have jR:(t.k==2)=false:=by simp;omega
 have dk3:decide (t.k=3)=false:=by simp;omega
 have pq:(t.k==3)=false:=by simp;omega
 have xE:decide (t.k=4)=false:=by simp;omega
 have xB:(t.k==4)=false:=by simp;omega
 have SM:=hide fun w h1 h2 h3 h4 h5 h6=>FD (mO t) t .none .none .none ao bo co 0 0 0 ca cb cc w h1 h2 h3 h4 h5 h6;have HK:=hide True.intro;have ha1:=hide ha;have hb1:=hide hb;have hc1:=hide hc;clear ha hb hc;obtain⟨w0,hw0,AO,A,DC⟩:=bx1 w #[.int .i64 t.k,.int .i64 t.vw,.string t.bn,.int .i64 t.bv,.string t.bs,.slice ao t.bw.length ca,.int .i64 t.pv,.string t.ps,.slice bo t.pw.length cb,.int .i64 t.qv,.string t.qs,.slice co t.qw.length cc,.int .i64 t.wh,.int .i64 t.fr,.int .i64 t.tu,.int .i64 t.am,.int .i64 t.no] 75;go_enter Tryz.func130,Tryz.ntmps130
 have Bi:=A.cell 0 rfl;go_upto_region 2 with fail
 clear hw0 Bi;obtain⟨w1,hw1⟩:∃y,w0.alloc (.cells #[.int .i64 t.k,.int .i64 0,.string ⟨#[]⟩,.int .i64 0,.string ⟨#[]⟩,.slice none 0 0,.int .i64 0,.string ⟨#[]⟩,.slice none 0 0,.int .i64 0,.string ⟨#[]⟩,.slice none 0 0,.int .i64 0,.int .i64 0,.int .i64 0,.int .i64 0,.int .i64 0] 75)=y:=⟨_,rfl⟩
 have bb:Below w0.heap.size w0 w1:=hw1▸Aj _ _;have X:Loc w1 w0.heap.size #[.int .i64 t.k,.int .i64 0,.string ⟨#[]⟩,.int .i64 0,.string ⟨#[]⟩,.slice none 0 0,.int .i64 0,.string ⟨#[]⟩,.slice none 0 0,.int .i64 0,.string ⟨#[]⟩,.slice none 0 0,.int .i64 0,.int .i64 0,.int .i64 0,.int .i64 0,.int .i64 0]:=hw1▸AJ w0 _ _ rfl;have oh:w0.heap.size+1≤w1.heap.size:=by rw[←hw1];simp
 rw[hw1];clear hw1;have AZ:=bu AO bb;have Cx:=bb.size;replace A:=A.up bb;clear AO bb;have Ze:=SM.out _ (Cj _) (Cj _) (Cj _) (ha1.out.below AZ) (hb1.out.below AZ) (hc1.out.below AZ);clear SM ha1 hb1 hc1;have H5:=hide Ze;clear Ze;have Bi:=A.cell 0 rfl;go_wp2_with (first|(refine Ap X 75 _ rfl _ rfl rfl Tryz.underlying75 rfl (by kernel_rfl) ?_)|(refine Ap A 75 _ rfl _ rfl rfl Tryz.underlying75 rfl (by kernel_rfl) ?_))
 refine H5.out.mono ?_;rintro _ w2 ⟨rfl,bb⟩;clear Bi;have Ao:=bu AZ bb;have Ex:=bb.size;replace A:=A.up bb;replace X:=X.up bb;clear AZ bb;go_wp2;go_ret;exact⟨rfl,Ao⟩

theorem FK(t:MT)(ao bo co:Option Addr)(ca cb cc:Nat)(w:World)(ha:RI w (.slice ao t.bw.length ca) t.bw)(hb:RI w (.slice bo t.pw.length cb) t.pw)(hc:RI w (.slice co t.qw.length cc) t.qw):
 Calls Tryz.prog 130 #[Dw t (.slice ao t.bw.length ca) (.slice bo t.pw.length cb) (.slice co t.qw.length cc)] w fun e w'=>e= .returned (.bool (J7 t))∧Below w.heap.size w w':=by
 unfold J7;rcases kinds t.k with h|h|h|h|⟨h1,h2,h3,h4⟩
 ·rw[wK h];exact dL t ao bo co ca cb cc w h ha hb hc
 ·rw[wJ h];exact dK t ao bo co ca cb cc w h ha hb hc
 ·rw[wI h];exact dJ t ao bo co ca cb cc w h ha hb hc
 ·rw[wH h];exact dI t ao bo co ca cb cc w h ha hb hc
 rw[AAL h1 h2 h3 h4];exact dM t ao bo co ca cb cc w h1 h2 h3 h4 ha hb hc
end
section
open Go.RowKit
variable [∀(a b c d:Int),Decidable (BG a b c d)] [∀(a b c d:Nat),Decidable (DZ a b c d)] [∀(last:Int)(s:St),Decidable (Aq last s)] [∀(x:T4),Decidable (Du x)] [∀(n:Int)(s:List Int),Decidable (Dv n s)] [∀(n f:Int),Decidable (A_ n f)]
theorem Y_{s t:ByteArray}(h:s=t):(s.toList==t.toList)=true:=by simp[h]
theorem Vi(n f:Int)(m:ByteArray)(v:Int)(s:ByteArray)(ao:Option Addr)(ca:Nat)(xs:List Int)(w:World)(hm:m.size≤33554432)(hs:s.size≤33554432)(hE:Env w)(ha:RI w (.slice ao xs.length ca) xs):
 Calls Tryz.prog 353 #[cv n f,bv m v s (.slice ao xs.length ca)] w fun e w'=>e= .returned (.bool (WB n f m v s xs))∧Below w.heap.size w w':=by
 obtain⟨w0,hw0,AO,LC,LB,_⟩:=Gb w #[.int .i64 n,.int .i64 f] 48 #[.string m,.int .i64 v,.string s,.slice ao xs.length ca] 71;have OK:=hide fun w'(b:Below w0.heap.size w0 w')=>O_ n f v s ao ca xs w' hs ((hE.below AO).below b) ((ha.below AO).below b);have HT:=hide fun w'(b:Below w0.heap.size w0 w')=>PG m w' hm ((hE.below AO).below b);have UP:=hide fun w'(b:Below w0.heap.size w0 w')=>jA m w' hm ((hE.below AO).below b);have hB:WB n f m v s xs=(Gi n f v s xs&&decide (0<Bg m)&&decide (FV m=s)):=rfl;rw[hB];clear hB ha hE;generalize Gi n f v s xs=q at *;generalize Bg m=k at *;generalize FV m=u at *;cases q
 ·simp only[Bool.false_and];go_enter Tryz.func353,Tryz.ntmps353
  have K:=kw (ka (Iu LC 0 1) (ic LB 0 1 2 3));go_upto_region 1 with fail
  clear hw0;refine FC K (fun bA hHeld=>?_);refine tx 0 5 ?_;refine tx 1 6 ?_;refine tx 2 7 ?_;refine rd 3 rfl (fun KK AA=>?_);go_simp;have hgo:=bA;refine(OK.out _ hgo).mono ?_;rintro e Dc ⟨rfl,bb⟩;have Au:Below w0.heap.size w0 Dc:=bu bA bb;clear bA hgo bb hHeld;refine AA.out _ _ (K.out _ Au) (fun hHeld=>?_);clear AA KK;refine tx 4 9 ?_;refine sx 5 10 ?_;refine sx 6 11 ?_;refine sx 7 12 ?_;refine sx 8 13 ?_;refine tx 9 14 ?_;refine tx 10 15 ?_;refine sx 11 16 ?_;refine sx 14 19 ?_;refine sx 12 17 ?_;refine sx 15 20 ?_;refine sx 13 18 ?_;refine sx 16 21 ?_;refine sx 17 22 ?_;refine tx 18 23 ?_;refine tx 19 4 ?_;clear hHeld;refine Bw ?_;have bb:=Au;have Po:=bu AO bb;have gV:=bb.size;replace LC:=LC.up bb;replace LB:=LB.up bb;clear AO bb Au K;go_wp2;go_ret;exact⟨rfl,Po⟩
 simp only[Bool.true_and];by_cases hk:0<k
 ·have hd:decide (0<k)=true:=by simpa using hk
  rw[hd,Bool.true_and];by_cases hu:u=s
  ·have hv:decide (u=s)=true:=by simpa using hu
   have hy:=Y_ hu;rw[hv];clear hu hv;go_enter Tryz.func353,Tryz.ntmps353
   have K:=kw (ka (Iu LC 0 1) (ic LB 0 1 2 3));go_upto_region 1 with fail
   clear hw0;refine FC K (fun bA hHeld=>?_);refine tx 0 5 ?_;refine tx 1 6 ?_;refine tx 2 7 ?_;refine rd 3 rfl (fun KK AA=>?_);go_simp;have hgo:=bA;refine(OK.out _ hgo).mono ?_;rintro e Dc ⟨rfl,bb⟩;have Au:Below w0.heap.size w0 Dc:=bu bA bb;clear bA hgo bb hHeld;refine AA.out _ _ (K.out _ Au) (fun hHeld=>?_);clear AA KK;refine tx 4 9 ?_;refine tx 5 10 ?_;refine tx 6 11 ?_;refine rd 7 rfl (fun KK AA=>?_);go_simp;have hgo:=Au;refine(HT.out _ hgo).mono ?_;rintro e ED ⟨rfl,bb⟩;have BS:Below w0.heap.size w0 ED:=bu Au bb;clear Au hgo bb hHeld;refine AA.out _ _ (K.out _ BS) (fun hHeld=>?_);clear AA KK;refine tx 8 13 ?_;refine tx 9 14 ?_;refine tx 10 15 ?_;refine tx 11 16 ?_;refine tx 14 19 ?_;refine tx 12 17 ?_;refine tx 15 20 ?_;refine tx 16 21 ?_;refine rd 13 rfl (fun KK AA=>?_);go_simp;have hgo:=BS;refine(UP.out _ hgo).mono ?_;rintro e JO ⟨rfl,bb⟩;have Fq:Below w0.heap.size w0 JO:=bu BS bb;clear BS hgo bb hHeld;refine AA.out _ _ (K.out _ Fq) (fun hHeld=>?_);clear AA KK;refine tx 17 22 ?_;refine tx 18 23 ?_;refine tx 19 4 ?_;clear hHeld;refine Bw ?_;have bb:=Fq;have J2:=bu AO bb;have XH:=bb.size;replace LC:=LC.up bb;replace LB:=LB.up bb;clear AO bb Fq K;go_wp2;go_ret;exact⟨rfl,J2⟩
  have hv:decide (u=s)=false:=by simpa using hu
  have hy:=EX hu;rw[hv];clear hu hv;go_enter Tryz.func353,Tryz.ntmps353
  have K:=kw (ka (Iu LC 0 1) (ic LB 0 1 2 3));go_upto_region 1 with fail
  clear hw0;refine FC K (fun bA hHeld=>?_);refine tx 0 5 ?_;refine tx 1 6 ?_;refine tx 2 7 ?_;refine rd 3 rfl (fun KK AA=>?_);go_simp;have hgo:=bA;refine(OK.out _ hgo).mono ?_;rintro e Dc ⟨rfl,bb⟩;have Au:Below w0.heap.size w0 Dc:=bu bA bb;clear bA hgo bb hHeld;refine AA.out _ _ (K.out _ Au) (fun hHeld=>?_);clear AA KK;refine tx 4 9 ?_;refine tx 5 10 ?_;refine tx 6 11 ?_;refine rd 7 rfl (fun KK AA=>?_);go_simp;have hgo:=Au;refine(HT.out _ hgo).mono ?_;rintro e ED ⟨rfl,bb⟩;have BS:Below w0.heap.size w0 ED:=bu Au bb;clear Au hgo bb hHeld;refine AA.out _ _ (K.out _ BS) (fun hHeld=>?_);clear AA KK;refine tx 8 13 ?_;refine tx 9 14 ?_;refine tx 10 15 ?_;refine tx 11 16 ?_;refine tx 14 19 ?_;refine tx 12 17 ?_;refine tx 15 20 ?_;refine tx 16 21 ?_;refine rd 13 rfl (fun KK AA=>?_);go_simp;have hgo:=BS;refine(UP.out _ hgo).mono ?_;rintro e JO ⟨rfl,bb⟩;have Fq:Below w0.heap.size w0 JO:=bu BS bb;clear BS hgo bb hHeld;refine AA.out _ _ (K.out _ Fq) (fun hHeld=>?_);clear AA KK;refine tx 17 22 ?_;refine tx 18 23 ?_;refine tx 19 4 ?_;clear hHeld;refine Bw ?_;have bb:=Fq;have J2:=bu AO bb;have XH:=bb.size;replace LC:=LC.up bb;replace LB:=LB.up bb;clear AO bb Fq K;go_wp2;go_ret;exact⟨rfl,J2⟩
 have hd:decide (0<k)=false:=by simpa using hk
 rw[hd,Bool.false_and];go_enter Tryz.func353,Tryz.ntmps353
 have K:=kw (ka (Iu LC 0 1) (ic LB 0 1 2 3));go_upto_region 1 with fail
 clear hw0;refine FC K (fun bA hHeld=>?_);refine tx 0 5 ?_;refine tx 1 6 ?_;refine tx 2 7 ?_;refine rd 3 rfl (fun KK AA=>?_);go_simp;have hgo:=bA;refine(OK.out _ hgo).mono ?_;rintro e Dc ⟨rfl,bb⟩;have Au:Below w0.heap.size w0 Dc:=bu bA bb;clear bA hgo bb hHeld;refine AA.out _ _ (K.out _ Au) (fun hHeld=>?_);clear AA KK;refine tx 4 9 ?_;refine tx 5 10 ?_;refine tx 6 11 ?_;refine rd 7 rfl (fun KK AA=>?_);go_simp;have hgo:=Au;refine(HT.out _ hgo).mono ?_;rintro e ED ⟨rfl,bb⟩;have BS:Below w0.heap.size w0 ED:=bu Au bb;clear Au hgo bb hHeld;refine AA.out _ _ (K.out _ BS) (fun hHeld=>?_);clear AA KK;refine tx 8 13 ?_;refine tx 9 14 ?_;refine tx 10 15 ?_;refine sx 11 16 ?_;refine sx 14 19 ?_;refine sx 12 17 ?_;refine sx 15 20 ?_;refine sx 13 18 ?_;refine sx 16 21 ?_;refine sx 17 22 ?_;refine tx 18 23 ?_;refine tx 19 4 ?_;clear hHeld;refine Bw ?_;have bb:=BS;have J3:=bu AO bb;have XI:=bb.size;replace LC:=LC.up bb;replace LB:=LB.up bb;clear AO bb BS K;go_wp2;go_ret;exact⟨rfl,J3⟩

theorem FH(n f:Int)(m:ByteArray)(v:Int)(s:ByteArray)(ao:Option Addr)(ca:Nat)(xs:List Int)(w:World)(hm:m.size≤1048576)(hs:s.size≤1048576)(ha:RI w (.slice ao xs.length ca) xs):
 Calls Tryz.prog 131 #[cv n f,bv m v s (.slice ao xs.length ca)] w fun e w'=>e= .returned (.bool (WB n f m v s xs))∧Below w.heap.size w w':=by
 obtain⟨w0,hw0,AO,LC,LB,_⟩:=Gb w #[.int .i64 n,.int .i64 f] 48 #[.string m,.int .i64 v,.string s,.slice ao xs.length ca] 71;have OK:=hide fun w'(b:Below w0.heap.size w0 w')=>Fv n f v s ao ca xs w' (by omega) ((ha.below AO).below b);have NO:=hide fun w'=>CW m w' (by omega);have UP:=hide fun w'=>gZ m w' (by omega);have hB:WB n f m v s xs=(Gi n f v s xs&&((AP m).isSome&&decide (m≠⟨#[]⟩))&&decide (FV m=s)):=by rw[←YO];rfl
 rw[hB];clear hB ha;generalize Gi n f v s xs=q at *;generalize (AP m).isSome=k at *;generalize FV m=u at *;cases q
 ·simp only[Bool.false_and];go_enter Tryz.func131,Tryz.ntmps131
  have K:=kw (ka (Iu LC 0 1) (ic LB 0 1 2 3));go_upto_region 1 with fail
  clear hw0;refine FC K (fun bA hHeld=>?_);refine tx 0 5 ?_;refine tx 1 6 ?_;refine tx 2 7 ?_;refine rd 3 rfl (fun KK AA=>?_);go_simp;have hgo:=bA;refine(OK.out _ hgo).mono ?_;rintro e Dc ⟨rfl,bb⟩;have Au:Below w0.heap.size w0 Dc:=bu bA bb;clear bA hgo bb hHeld;refine AA.out _ _ (K.out _ Au) (fun hHeld=>?_);clear AA KK;refine tx 4 9 ?_;refine sx 5 10 ?_;refine sx 6 11 ?_;refine sx 7 12 ?_;refine tx 8 13 ?_;refine tx 9 14 ?_;refine sx 10 15 ?_;refine sx 11 16 ?_;refine sx 12 17 ?_;refine tx 13 18 ?_;refine tx 14 19 ?_;refine sx 15 20 ?_;refine sx 18 23 ?_;refine sx 16 21 ?_;refine sx 19 24 ?_;refine sx 17 22 ?_;refine sx 20 25 ?_;refine sx 21 26 ?_;refine tx 22 27 ?_;refine tx 23 4 ?_;clear hHeld;refine Bw ?_;have bb:=Au;have Po:=bu AO bb;have gV:=bb.size;replace LC:=LC.up bb;replace LB:=LB.up bb;clear AO bb Au K;go_wp2;go_ret;exact⟨rfl,Po⟩
 simp only[Bool.true_and];cases k
 ·simp only[Bool.false_and];go_enter Tryz.func131,Tryz.ntmps131
  have K:=kw (ka (Iu LC 0 1) (ic LB 0 1 2 3));go_upto_region 1 with fail
  clear hw0;refine FC K (fun bA hHeld=>?_);refine tx 0 5 ?_;refine tx 1 6 ?_;refine tx 2 7 ?_;refine rd 3 rfl (fun KK AA=>?_);go_simp;have hgo:=bA;refine(OK.out _ hgo).mono ?_;rintro e Dc ⟨rfl,bb⟩;have Au:Below w0.heap.size w0 Dc:=bu bA bb;clear bA hgo bb hHeld;refine AA.out _ _ (K.out _ Au) (fun hHeld=>?_);clear AA KK;refine tx 4 9 ?_;refine tx 5 10 ?_;refine tx 6 11 ?_;refine rd 7 rfl (fun KK AA=>?_);go_simp;have hgo:=Au;refine(NO.out _).mono ?_;rintro e ED ⟨rfl,bb⟩;have BS:Below w0.heap.size w0 ED:=bu Au bb;clear Au hgo bb hHeld;refine AA.out _ _ (K.out _ BS) (fun hHeld=>?_);clear AA KK;refine tx 8 13 ?_;refine tx 9 14 ?_;refine sx 10 15 ?_;refine sx 11 16 ?_;refine sx 12 17 ?_;refine tx 13 18 ?_;refine tx 14 19 ?_;refine sx 15 20 ?_;refine sx 18 23 ?_;refine sx 16 21 ?_;refine sx 19 24 ?_;refine sx 17 22 ?_;refine sx 20 25 ?_;refine sx 21 26 ?_;refine tx 22 27 ?_;refine tx 23 4 ?_;clear hHeld;refine Bw ?_;have bb:=BS;have J3:=bu AO bb;have XI:=bb.size;replace LC:=LC.up bb;replace LB:=LB.up bb;clear AO bb BS K;go_wp2;go_ret;exact⟨rfl,J3⟩
 simp only[Bool.true_and];by_cases he:m=⟨#[]⟩
 ·have hd:decide (m≠⟨#[]⟩)=false:=by simpa using he
  have hy:(m.toList==[])=true:=by rw[he,ByteArray.toList_eq];rfl
  rw[hd,Bool.false_and];clear he hd;go_enter Tryz.func131,Tryz.ntmps131
  have K:=kw (ka (Iu LC 0 1) (ic LB 0 1 2 3));go_upto_region 1 with fail
  clear hw0;refine FC K (fun bA hHeld=>?_);refine tx 0 5 ?_;refine tx 1 6 ?_;refine tx 2 7 ?_;refine rd 3 rfl (fun KK AA=>?_);go_simp;have hgo:=bA;refine(OK.out _ hgo).mono ?_;rintro e Dc ⟨rfl,bb⟩;have Au:Below w0.heap.size w0 Dc:=bu bA bb;clear bA hgo bb hHeld;refine AA.out _ _ (K.out _ Au) (fun hHeld=>?_);clear AA KK;refine tx 4 9 ?_;refine tx 5 10 ?_;refine tx 6 11 ?_;refine rd 7 rfl (fun KK AA=>?_);go_simp;have hgo:=Au;refine(NO.out _).mono ?_;rintro e ED ⟨rfl,bb⟩;have BS:Below w0.heap.size w0 ED:=bu Au bb;clear Au hgo bb hHeld;refine AA.out _ _ (K.out _ BS) (fun hHeld=>?_);clear AA KK;refine tx 8 13 ?_;refine tx 9 14 ?_;refine tx 10 15 ?_;refine tx 11 16 ?_;refine tx 12 17 ?_;refine tx 13 18 ?_;refine tx 14 19 ?_;refine sx 15 20 ?_;refine sx 18 23 ?_;refine sx 16 21 ?_;refine sx 19 24 ?_;refine sx 17 22 ?_;refine sx 20 25 ?_;refine sx 21 26 ?_;refine tx 22 27 ?_;refine tx 23 4 ?_;clear hHeld;refine Bw ?_;have bb:=BS;have J3:=bu AO bb;have XI:=bb.size;replace LC:=LC.up bb;replace LB:=LB.up bb;clear AO bb BS K;go_wp2;go_ret;exact⟨rfl,J3⟩
 have hd:decide (m≠⟨#[]⟩)=true:=by simpa using he
 have hne:=tQ he;rw[hd,Bool.true_and];clear he hd;by_cases hu:u=s
 ·have hv:decide (u=s)=true:=by simpa using hu
  have hy:=Y_ hu;rw[hv];clear hu hv;go_enter Tryz.func131,Tryz.ntmps131
  have K:=kw (ka (Iu LC 0 1) (ic LB 0 1 2 3));go_upto_region 1 with fail
  clear hw0;refine FC K (fun bA hHeld=>?_);refine tx 0 5 ?_;refine tx 1 6 ?_;refine tx 2 7 ?_;refine rd 3 rfl (fun KK AA=>?_);go_simp;have hgo:=bA;refine(OK.out _ hgo).mono ?_;rintro e Dc ⟨rfl,bb⟩;have Au:Below w0.heap.size w0 Dc:=bu bA bb;clear bA hgo bb hHeld;refine AA.out _ _ (K.out _ Au) (fun hHeld=>?_);clear AA KK;refine tx 4 9 ?_;refine tx 5 10 ?_;refine tx 6 11 ?_;refine rd 7 rfl (fun KK AA=>?_);go_simp;have hgo:=Au;refine(NO.out _).mono ?_;rintro e ED ⟨rfl,bb⟩;have BS:Below w0.heap.size w0 ED:=bu Au bb;clear Au hgo bb hHeld;refine AA.out _ _ (K.out _ BS) (fun hHeld=>?_);clear AA KK;refine tx 8 13 ?_;refine tx 9 14 ?_;refine tx 10 15 ?_;refine tx 11 16 ?_;refine tx 12 17 ?_;refine tx 13 18 ?_;refine tx 14 19 ?_;refine tx 15 20 ?_;refine tx 18 23 ?_;refine tx 16 21 ?_;refine tx 19 24 ?_;refine tx 20 25 ?_;refine rd 17 rfl (fun KK AA=>?_);go_simp;have hgo:=BS;refine(UP.out _).mono ?_;rintro e JO ⟨rfl,bb⟩;have Fq:Below w0.heap.size w0 JO:=bu BS bb;clear BS hgo bb hHeld;refine AA.out _ _ (K.out _ Fq) (fun hHeld=>?_);clear AA KK;refine tx 21 26 ?_;refine tx 22 27 ?_;refine tx 23 4 ?_;clear hHeld;refine Bw ?_;have bb:=Fq;have J2:=bu AO bb;have XH:=bb.size;replace LC:=LC.up bb;replace LB:=LB.up bb;clear AO bb Fq K;go_wp2;go_ret;exact⟨rfl,J2⟩
 have hv:decide (u=s)=false:=by simpa using hu
 have hy:=EX hu;rw[hv];clear hu hv;go_enter Tryz.func131,Tryz.ntmps131
 have K:=kw (ka (Iu LC 0 1) (ic LB 0 1 2 3));go_upto_region 1 with fail
 clear hw0;refine FC K (fun bA hHeld=>?_);refine tx 0 5 ?_;refine tx 1 6 ?_;refine tx 2 7 ?_;refine rd 3 rfl (fun KK AA=>?_);go_simp;have hgo:=bA;refine(OK.out _ hgo).mono ?_;rintro e Dc ⟨rfl,bb⟩;have Au:Below w0.heap.size w0 Dc:=bu bA bb;clear bA hgo bb hHeld;refine AA.out _ _ (K.out _ Au) (fun hHeld=>?_);clear AA KK;refine tx 4 9 ?_;refine tx 5 10 ?_;refine tx 6 11 ?_;refine rd 7 rfl (fun KK AA=>?_);go_simp;have hgo:=Au;refine(NO.out _).mono ?_;rintro e ED ⟨rfl,bb⟩;have BS:Below w0.heap.size w0 ED:=bu Au bb;clear Au hgo bb hHeld;refine AA.out _ _ (K.out _ BS) (fun hHeld=>?_);clear AA KK;refine tx 8 13 ?_;refine tx 9 14 ?_;refine tx 10 15 ?_;refine tx 11 16 ?_;refine tx 12 17 ?_;refine tx 13 18 ?_;refine tx 14 19 ?_;refine tx 15 20 ?_;refine tx 18 23 ?_;refine tx 16 21 ?_;refine tx 19 24 ?_;refine tx 20 25 ?_;refine rd 17 rfl (fun KK AA=>?_);go_simp;have hgo:=BS;refine(UP.out _).mono ?_;rintro e JO ⟨rfl,bb⟩;have Fq:Below w0.heap.size w0 JO:=bu BS bb;clear BS hgo bb hHeld;refine AA.out _ _ (K.out _ Fq) (fun hHeld=>?_);clear AA KK;refine tx 21 26 ?_;refine tx 22 27 ?_;refine tx 23 4 ?_;clear hHeld;refine Bw ?_;have bb:=Fq;have J2:=bu AO bb;have XH:=bb.size;replace LC:=LC.up bb;replace LB:=LB.up bb;clear AO bb Fq K;go_wp2;go_ret;exact⟨rfl,J2⟩
end
end Go.Proofs.YtcjmcgolgbkknaaGreatDoor
