/- Lemmas; their conditions stand in each statement. -/
import Derived.Test.YtcjmcgolgbkknaaGreatDoorRSAX
set_option maxRecDepth 100000
set_option maxHeartbeats 16000000
set_option linter.unusedSectionVars false
namespace Go.Proofs.YtcjmcgolgbkknaaGreatDoor
section
open Go.RowKit
variable [∀(a b c d:Int),Decidable (BD a b c d)]
def jG(t:MT):MT:=⟨t.k,0,t.bn,t.bv,t.bs,t.bw,0,⟨#[]⟩,[],0,⟨#[]⟩,[],0,0,0,0,0⟩
def jF(t:MT):MT:=⟨t.k,0,⟨#[]⟩,0,⟨#[]⟩,[],t.pv,t.ps,t.pw,0,⟨#[]⟩,[],0,0,0,0,0⟩
def jE(t:MT):MT:=⟨t.k,t.vw,⟨#[]⟩,0,⟨#[]⟩,[],0,⟨#[]⟩,[],t.qv,t.qs,t.qw,t.wh,0,0,0,0⟩
def jD(t:MT):MT:=⟨t.k,0,⟨#[]⟩,0,⟨#[]⟩,[],0,⟨#[]⟩,[],0,⟨#[]⟩,[],0,t.fr,t.tu,t.am,t.no⟩
def tK(t:MT):MT:=⟨t.k,0,⟨#[]⟩,0,⟨#[]⟩,[],0,⟨#[]⟩,[],0,⟨#[]⟩,[],0,0,0,0,0⟩
def Pk(t:MT):MT:=if t.k=1 then jG t else if t.k=2 then jF t else if t.k=3 then jE t else if t.k=4 then jD t else tK t
theorem AAW{t:MT}(h:t.k=1):Pk t=jG t:=by unfold Pk;rw[if_pos h]
theorem AAV{t:MT}(h:t.k=2):Pk t=jF t:=by unfold Pk;rw[if_neg (by omega),if_pos h]
theorem AAU{t:MT}(h:t.k=3):Pk t=jE t:=by unfold Pk;rw[if_neg (by omega),if_neg (by omega),if_pos h]
theorem AAT{t:MT}(h:t.k=4):Pk t=jD t:=by unfold Pk;rw[if_neg (by omega),if_neg (by omega),if_neg (by omega),if_pos h]
theorem ADG{t:MT}(h1:¬t.k=1)(h2:¬t.k=2)(h3:¬t.k=3)(h4:¬t.k=4):Pk t=tK t:=by unfold Pk;rw[if_neg h1,if_neg h2,if_neg h3,if_neg h4]
def KU(t:MT):Bool:=Dr (Pk t) t
theorem Cr(w:World):RI w (.slice none 0 0) []:=⟨by simp,.none,0,rfl,.inl rfl⟩
theorem kinds(k:Int):k=1∨k=2∨k=3∨k=4∨(¬k=1∧¬k=2∧¬k=3∧¬k=4):=by omega
theorem jX(t:MT)(ao bo co:Option Addr)(ca cb cc:Nat)(w:World)(hk:t.k=1)(ha:RI w (.slice ao t.bw.length ca) t.bw)(hb:RI w (.slice bo t.pw.length cb) t.pw)(hc:RI w (.slice co t.qw.length cc) t.qw):
 Calls Tryz.prog 130 #[Fb t (.slice ao t.bw.length ca) (.slice bo t.pw.length cb) (.slice co t.qw.length cc)] w fun e w'=>e= .returned (.bool (Dr (jG t) t))∧Below w.heap.size w w':=by
 have dk1:decide (t.k=1)=true:=by simpa using hk
 have ek:(t.k==1)=true:=by simpa using hk
 have SM:=hide fun w h1 h2 h3 h4 h5 h6=>FO (jG t) t ao .none .none ao bo co ca 0 0 ca cb cc w h1 h2 h3 h4 h5 h6;have HK:=hide hk;clear hk;have ha1:=hide ha;have hb1:=hide hb;have hc1:=hide hc;clear ha hb hc;obtain⟨w0,hw0,AP,A,De⟩:=bx1 w #[.int .i64 t.k,.int .i64 t.vw,.string t.bn,.int .i64 t.bv,.string t.bs,.slice ao t.bw.length ca,.int .i64 t.pv,.string t.ps,.slice bo t.pw.length cb,.int .i64 t.qv,.string t.qs,.slice co t.qw.length cc,.int .i64 t.wh,.int .i64 t.fr,.int .i64 t.tu,.int .i64 t.am,.int .i64 t.no] 75;go_enter Tryz.func130,Tryz.ntmps130
 have CV:=A.cell 0 rfl;go_upto_region 2 with fail
 clear hw0 CV;obtain⟨w1,hw1⟩:∃y,w0.alloc (.cells #[.int .i64 t.k,.int .i64 0,.string ⟨#[]⟩,.int .i64 0,.string ⟨#[]⟩,.slice none 0 0,.int .i64 0,.string ⟨#[]⟩,.slice none 0 0,.int .i64 0,.string ⟨#[]⟩,.slice none 0 0,.int .i64 0,.int .i64 0,.int .i64 0,.int .i64 0,.int .i64 0] 75)=y:=⟨_,rfl⟩
 have bb:Below w0.heap.size w0 w1:=hw1▸Af _ _;have X:Loc w1 w0.heap.size #[.int .i64 t.k,.int .i64 0,.string ⟨#[]⟩,.int .i64 0,.string ⟨#[]⟩,.slice none 0 0,.int .i64 0,.string ⟨#[]⟩,.slice none 0 0,.int .i64 0,.string ⟨#[]⟩,.slice none 0 0,.int .i64 0,.int .i64 0,.int .i64 0,.int .i64 0,.int .i64 0]:=hw1▸AJ w0 _ _ rfl;have rJ:w0.heap.size+1≤w1.heap.size:=by rw[←hw1];simp
 rw[hw1];clear hw1;have AU:=bu AP bb;have DU:=bb.size;replace A:=A.up bb;clear AP bb;obtain⟨CV,Dy,Ff,GM,IW⟩:=fB A 0 2 3 4 5;obtain⟨cX2,cX3,cX4,cX5⟩:=X8 X 2 3 4 5;have fX:=X.frozen;go_upto_region 13 with fail
 clear CV Dy Ff GM IW cX2 cX3 cX4 cX5 fX;obtain⟨w2,hw2⟩:∃D5,((((w1.setCell ⟨w0.heap.size,2,none⟩ (.string t.bn)).setCell ⟨w0.heap.size,3,none⟩ (.int .i64 t.bv)).setCell ⟨w0.heap.size,4,none⟩ (.string t.bs)).setCell ⟨w0.heap.size,5,none⟩ (.slice ao t.bw.length ca))=D5:=⟨_,rfl⟩
 have kN:Kp w1 w2 (fun k=>k=w0.heap.size):=hw2▸(((AB _ _ _ _).trans (AB _ _ _ _)).trans (AB _ _ _ _)).trans (AB _ _ _ _);replace X:Loc w2 (w0.heap.size) #[.int .i64 t.k,.int .i64 0,.string t.bn,.int .i64 t.bv,.string t.bs,.slice ao t.bw.length ca,.int .i64 0,.string ⟨#[]⟩,.slice none 0 0,.int .i64 0,.string ⟨#[]⟩,.slice none 0 0,.int .i64 0,.int .i64 0,.int .i64 0,.int .i64 0,.int .i64 0]:=hw2▸((((X.set 2 _ rfl).set 3 _ rfl).set 4 _ rfl).set 5 _ rfl);replace A:=A.kp kN (by omega);have Al:=Below.kp AU kN AU.size (fun k hk=>by omega);have FM:=kN.size;rw[hw2];clear hw2 kN AU;have fH:=SM.out _ (ha1.out.below Al) (Cr _) (Cr _) (ha1.out.below Al) (hb1.out.below Al) (hc1.out.below Al);clear SM ha1 hb1 hc1;have H5:=hide fH;clear fH;go_wp2_with (first|(refine BA X 75 _ rfl _ rfl rfl Tryz.underlying75 rfl (by kernel_rfl) ?_)|(refine BA A 75 _ rfl _ rfl rfl Tryz.underlying75 rfl (by kernel_rfl) ?_))
 refine H5.out.mono ?_;rintro _ w3 ⟨rfl,bb⟩;have Bg:=bu Al bb;have I9:=bb.size;replace A:=A.up bb;replace X:=X.up bb;clear Al bb;go_wp2;go_ret;exact⟨rfl,Bg⟩

theorem jW(t:MT)(ao bo co:Option Addr)(ca cb cc:Nat)(w:World)(hk:t.k=2)(ha:RI w (.slice ao t.bw.length ca) t.bw)(hb:RI w (.slice bo t.pw.length cb) t.pw)(hc:RI w (.slice co t.qw.length cc) t.qw):
 Calls Tryz.prog 130 #[Fb t (.slice ao t.bw.length ca) (.slice bo t.pw.length cb) (.slice co t.qw.length cc)] w fun e w'=>e= .returned (.bool (Dr (jF t) t))∧Below w.heap.size w w':=by
 have dk1:decide (t.k=1)=false:=by simp;omega
 have ek:(t.k==1)=false:=by simp;omega
 have dk2:decide (t.k=2)=true:=by simpa using hk
 have p9:(t.k==2)=true:=by simpa using hk
 have SM:=hide fun w h1 h2 h3 h4 h5 h6=>FO (jF t) t .none bo .none ao bo co 0 cb 0 ca cb cc w h1 h2 h3 h4 h5 h6;have HK:=hide hk;clear hk;have ha1:=hide ha;have hb1:=hide hb;have hc1:=hide hc;clear ha hb hc;obtain⟨w0,hw0,AP,A,De⟩:=bx1 w #[.int .i64 t.k,.int .i64 t.vw,.string t.bn,.int .i64 t.bv,.string t.bs,.slice ao t.bw.length ca,.int .i64 t.pv,.string t.ps,.slice bo t.pw.length cb,.int .i64 t.qv,.string t.qs,.slice co t.qw.length cc,.int .i64 t.wh,.int .i64 t.fr,.int .i64 t.tu,.int .i64 t.am,.int .i64 t.no] 75;go_enter Tryz.func130,Tryz.ntmps130
 have CV:=A.cell 0 rfl;go_upto_region 2 with fail
 clear hw0 CV;obtain⟨w1,hw1⟩:∃y,w0.alloc (.cells #[.int .i64 t.k,.int .i64 0,.string ⟨#[]⟩,.int .i64 0,.string ⟨#[]⟩,.slice none 0 0,.int .i64 0,.string ⟨#[]⟩,.slice none 0 0,.int .i64 0,.string ⟨#[]⟩,.slice none 0 0,.int .i64 0,.int .i64 0,.int .i64 0,.int .i64 0,.int .i64 0] 75)=y:=⟨_,rfl⟩
 have bb:Below w0.heap.size w0 w1:=hw1▸Af _ _;have X:Loc w1 w0.heap.size #[.int .i64 t.k,.int .i64 0,.string ⟨#[]⟩,.int .i64 0,.string ⟨#[]⟩,.slice none 0 0,.int .i64 0,.string ⟨#[]⟩,.slice none 0 0,.int .i64 0,.string ⟨#[]⟩,.slice none 0 0,.int .i64 0,.int .i64 0,.int .i64 0,.int .i64 0,.int .i64 0]:=hw1▸AJ w0 _ _ rfl;have rJ:w0.heap.size+1≤w1.heap.size:=by rw[←hw1];simp
 rw[hw1];clear hw1;have AU:=bu AP bb;have DU:=bb.size;replace A:=A.up bb;clear AP bb;obtain⟨CV,I6,Ij,I5⟩:=X8 A 0 6 7 8;obtain⟨cX6,cX7,cX8⟩:=Ca X 6 7 8;have fX:=X.frozen;go_upto_region 13 with fail
 clear CV I6 Ij I5 cX6 cX7 cX8 fX;obtain⟨w2,hw2⟩:∃D5,(((w1.setCell ⟨w0.heap.size,6,none⟩ (.int .i64 t.pv)).setCell ⟨w0.heap.size,7,none⟩ (.string t.ps)).setCell ⟨w0.heap.size,8,none⟩ (.slice bo t.pw.length cb))=D5:=⟨_,rfl⟩
 have kN:Kp w1 w2 (fun k=>k=w0.heap.size):=hw2▸((AB _ _ _ _).trans (AB _ _ _ _)).trans (AB _ _ _ _);replace X:Loc w2 (w0.heap.size) #[.int .i64 t.k,.int .i64 0,.string ⟨#[]⟩,.int .i64 0,.string ⟨#[]⟩,.slice none 0 0,.int .i64 t.pv,.string t.ps,.slice bo t.pw.length cb,.int .i64 0,.string ⟨#[]⟩,.slice none 0 0,.int .i64 0,.int .i64 0,.int .i64 0,.int .i64 0,.int .i64 0]:=hw2▸(((X.set 6 _ rfl).set 7 _ rfl).set 8 _ rfl);replace A:=A.kp kN (by omega);have Al:=Below.kp AU kN AU.size (fun k hk=>by omega);have FM:=kN.size;rw[hw2];clear hw2 kN AU;have fH:=SM.out _ (Cr _) (hb1.out.below Al) (Cr _) (ha1.out.below Al) (hb1.out.below Al) (hc1.out.below Al);clear SM ha1 hb1 hc1;have H5:=hide fH;clear fH;go_wp2_with (first|(refine BA X 75 _ rfl _ rfl rfl Tryz.underlying75 rfl (by kernel_rfl) ?_)|(refine BA A 75 _ rfl _ rfl rfl Tryz.underlying75 rfl (by kernel_rfl) ?_))
 refine H5.out.mono ?_;rintro _ w3 ⟨rfl,bb⟩;have Bg:=bu Al bb;have I9:=bb.size;replace A:=A.up bb;replace X:=X.up bb;clear Al bb;go_wp2;go_ret;exact⟨rfl,Bg⟩

theorem jV(t:MT)(ao bo co:Option Addr)(ca cb cc:Nat)(w:World)(hk:t.k=3)(ha:RI w (.slice ao t.bw.length ca) t.bw)(hb:RI w (.slice bo t.pw.length cb) t.pw)(hc:RI w (.slice co t.qw.length cc) t.qw):
 Calls Tryz.prog 130 #[Fb t (.slice ao t.bw.length ca) (.slice bo t.pw.length cb) (.slice co t.qw.length cc)] w fun e w'=>e= .returned (.bool (Dr (jE t) t))∧Below w.heap.size w w':=by
 have dk1:decide (t.k=1)=false:=by simp;omega
 have ek:(t.k==1)=false:=by simp;omega
 have dk2:decide (t.k=2)=false:=by simp;omega
 have p9:(t.k==2)=false:=by simp;omega
 have dk3:decide (t.k=3)=true:=by simpa using hk
 have wM:(t.k==3)=true:=by simpa using hk
 have SM:=hide fun w h1 h2 h3 h4 h5 h6=>FO (jE t) t .none .none co ao bo co 0 0 cc ca cb cc w h1 h2 h3 h4 h5 h6;have HK:=hide hk;clear hk;have ha1:=hide ha;have hb1:=hide hb;have hc1:=hide hc;clear ha hb hc;obtain⟨w0,hw0,AP,A,De⟩:=bx1 w #[.int .i64 t.k,.int .i64 t.vw,.string t.bn,.int .i64 t.bv,.string t.bs,.slice ao t.bw.length ca,.int .i64 t.pv,.string t.ps,.slice bo t.pw.length cb,.int .i64 t.qv,.string t.qs,.slice co t.qw.length cc,.int .i64 t.wh,.int .i64 t.fr,.int .i64 t.tu,.int .i64 t.am,.int .i64 t.no] 75;go_enter Tryz.func130,Tryz.ntmps130
 have CV:=A.cell 0 rfl;go_upto_region 2 with fail
 clear hw0 CV;obtain⟨w1,hw1⟩:∃y,w0.alloc (.cells #[.int .i64 t.k,.int .i64 0,.string ⟨#[]⟩,.int .i64 0,.string ⟨#[]⟩,.slice none 0 0,.int .i64 0,.string ⟨#[]⟩,.slice none 0 0,.int .i64 0,.string ⟨#[]⟩,.slice none 0 0,.int .i64 0,.int .i64 0,.int .i64 0,.int .i64 0,.int .i64 0] 75)=y:=⟨_,rfl⟩
 have bb:Below w0.heap.size w0 w1:=hw1▸Af _ _;have X:Loc w1 w0.heap.size #[.int .i64 t.k,.int .i64 0,.string ⟨#[]⟩,.int .i64 0,.string ⟨#[]⟩,.slice none 0 0,.int .i64 0,.string ⟨#[]⟩,.slice none 0 0,.int .i64 0,.string ⟨#[]⟩,.slice none 0 0,.int .i64 0,.int .i64 0,.int .i64 0,.int .i64 0,.int .i64 0]:=hw1▸AJ w0 _ _ rfl;have rJ:w0.heap.size+1≤w1.heap.size:=by rw[←hw1];simp
 rw[hw1];clear hw1;have AU:=bu AP bb;have DU:=bb.size;replace A:=A.up bb;clear AP bb;obtain⟨CV,Dz⟩:=Cw A 0 1;have cX1:=X.cell 1 rfl;have fX:=X.frozen;go_upto_region 9 with fail
 clear CV Dz cX1 fX;obtain⟨w2,hw2⟩:∃D5,(w1.setCell ⟨w0.heap.size,1,none⟩ (.int .i64 t.vw))=D5:=⟨_,rfl⟩
 have kN:Kp w1 w2 (fun k=>k=w0.heap.size):=hw2▸AB _ _ _ _;replace X:Loc w2 (w0.heap.size) #[.int .i64 t.k,.int .i64 t.vw,.string ⟨#[]⟩,.int .i64 0,.string ⟨#[]⟩,.slice none 0 0,.int .i64 0,.string ⟨#[]⟩,.slice none 0 0,.int .i64 0,.string ⟨#[]⟩,.slice none 0 0,.int .i64 0,.int .i64 0,.int .i64 0,.int .i64 0,.int .i64 0]:=hw2▸(X.set 1 _ rfl);replace A:=A.kp kN (by omega);have Al:=Below.kp AU kN AU.size (fun k hk=>by omega);have FM:=kN.size;rw[hw2];clear hw2 kN AU;obtain⟨G7,Co,DX⟩:=Ca A 9 10 11;obtain⟨cX9,ADm,ADl⟩:=Ca X 9 10 11;have fX:=X.frozen;go_upto_region 10 with fail
 clear G7 Co DX cX9 ADm ADl fX;obtain⟨w3,hw3⟩:∃D5,(((w2.setCell ⟨w0.heap.size,9,none⟩ (.int .i64 t.qv)).setCell ⟨w0.heap.size,10,none⟩ (.string t.qs)).setCell ⟨w0.heap.size,11,none⟩ (.slice co t.qw.length cc))=D5:=⟨_,rfl⟩
 have kN:Kp w2 w3 (fun k=>k=w0.heap.size):=hw3▸((AB _ _ _ _).trans (AB _ _ _ _)).trans (AB _ _ _ _);replace X:Loc w3 (w0.heap.size) #[.int .i64 t.k,.int .i64 t.vw,.string ⟨#[]⟩,.int .i64 0,.string ⟨#[]⟩,.slice none 0 0,.int .i64 0,.string ⟨#[]⟩,.slice none 0 0,.int .i64 t.qv,.string t.qs,.slice co t.qw.length cc,.int .i64 0,.int .i64 0,.int .i64 0,.int .i64 0,.int .i64 0]:=hw3▸(((X.set 9 _ rfl).set 10 _ rfl).set 11 _ rfl);replace A:=A.kp kN (by omega);have Bg:=Below.kp Al kN Al.size (fun k hk=>by omega);have I9:=kN.size;rw[hw3];clear hw3 kN Al;have Dw:=A.cell 12 rfl;have ADk:=X.cell 12 rfl;have fX:=X.frozen;go_upto_region 13 with fail
 clear Dw ADk fX;obtain⟨w4,hw4⟩:∃D5,(w3.setCell ⟨w0.heap.size,12,none⟩ (.int .i64 t.wh))=D5:=⟨_,rfl⟩
 have kN:Kp w3 w4 (fun k=>k=w0.heap.size):=hw4▸AB _ _ _ _;replace X:Loc w4 (w0.heap.size) #[.int .i64 t.k,.int .i64 t.vw,.string ⟨#[]⟩,.int .i64 0,.string ⟨#[]⟩,.slice none 0 0,.int .i64 0,.string ⟨#[]⟩,.slice none 0 0,.int .i64 t.qv,.string t.qs,.slice co t.qw.length cc,.int .i64 t.wh,.int .i64 0,.int .i64 0,.int .i64 0,.int .i64 0]:=hw4▸(X.set 12 _ rfl);replace A:=A.kp kN (by omega);have DN:=Below.kp Bg kN Bg.size (fun k hk=>by omega);have Qj:=kN.size;rw[hw4];clear hw4 kN Bg;have fH:=SM.out _ (Cr _) (Cr _) (hc1.out.below DN) (ha1.out.below DN) (hb1.out.below DN) (hc1.out.below DN);clear SM ha1 hb1 hc1;have H5:=hide fH;clear fH;go_wp2_with (first|(refine BA X 75 _ rfl _ rfl rfl Tryz.underlying75 rfl (by kernel_rfl) ?_)|(refine BA A 75 _ rfl _ rfl rfl Tryz.underlying75 rfl (by kernel_rfl) ?_))
 refine H5.out.mono ?_;rintro _ w5 ⟨rfl,bb⟩;have F5:=bu DN bb;have gP:=bb.size;replace A:=A.up bb;replace X:=X.up bb;clear DN bb;go_wp2;go_ret;exact⟨rfl,F5⟩

theorem jU(t:MT)(ao bo co:Option Addr)(ca cb cc:Nat)(w:World)(hk:t.k=4)(ha:RI w (.slice ao t.bw.length ca) t.bw)(hb:RI w (.slice bo t.pw.length cb) t.pw)(hc:RI w (.slice co t.qw.length cc) t.qw):
 Calls Tryz.prog 130 #[Fb t (.slice ao t.bw.length ca) (.slice bo t.pw.length cb) (.slice co t.qw.length cc)] w fun e w'=>e= .returned (.bool (Dr (jD t) t))∧Below w.heap.size w w':=by
 have dk1:decide (t.k=1)=false:=by simp;omega
 have ek:(t.k==1)=false:=by simp;omega
 have dk2:decide (t.k=2)=false:=by simp;omega
 have p9:(t.k==2)=false:=by simp;omega
 have dk3:decide (t.k=3)=false:=by simp;omega
 have wM:(t.k==3)=false:=by simp;omega
 have dk4:decide (t.k=4)=true:=by simpa using hk
 have ek4:(t.k==4)=true:=by simpa using hk
 have SM:=hide fun w h1 h2 h3 h4 h5 h6=>FO (jD t) t .none .none .none ao bo co 0 0 0 ca cb cc w h1 h2 h3 h4 h5 h6;have HK:=hide hk;clear hk;have ha1:=hide ha;have hb1:=hide hb;have hc1:=hide hc;clear ha hb hc;obtain⟨w0,hw0,AP,A,De⟩:=bx1 w #[.int .i64 t.k,.int .i64 t.vw,.string t.bn,.int .i64 t.bv,.string t.bs,.slice ao t.bw.length ca,.int .i64 t.pv,.string t.ps,.slice bo t.pw.length cb,.int .i64 t.qv,.string t.qs,.slice co t.qw.length cc,.int .i64 t.wh,.int .i64 t.fr,.int .i64 t.tu,.int .i64 t.am,.int .i64 t.no] 75;go_enter Tryz.func130,Tryz.ntmps130
 have CV:=A.cell 0 rfl;go_upto_region 2 with fail
 clear hw0 CV;obtain⟨w1,hw1⟩:∃y,w0.alloc (.cells #[.int .i64 t.k,.int .i64 0,.string ⟨#[]⟩,.int .i64 0,.string ⟨#[]⟩,.slice none 0 0,.int .i64 0,.string ⟨#[]⟩,.slice none 0 0,.int .i64 0,.string ⟨#[]⟩,.slice none 0 0,.int .i64 0,.int .i64 0,.int .i64 0,.int .i64 0,.int .i64 0] 75)=y:=⟨_,rfl⟩
 have bb:Below w0.heap.size w0 w1:=hw1▸Af _ _;have X:Loc w1 w0.heap.size #[.int .i64 t.k,.int .i64 0,.string ⟨#[]⟩,.int .i64 0,.string ⟨#[]⟩,.slice none 0 0,.int .i64 0,.string ⟨#[]⟩,.slice none 0 0,.int .i64 0,.string ⟨#[]⟩,.slice none 0 0,.int .i64 0,.int .i64 0,.int .i64 0,.int .i64 0,.int .i64 0]:=hw1▸AJ w0 _ _ rfl;have rJ:w0.heap.size+1≤w1.heap.size:=by rw[←hw1];simp
 rw[hw1];clear hw1;have AU:=bu AP bb;have DU:=bb.size;replace A:=A.up bb;clear AP bb;obtain⟨CV,CR,EC,D_,D9⟩:=fB A 0 13 14 15 16;obtain⟨ADj,ADi,ADh,ADg⟩:=X8 X 13 14 15 16;have fX:=X.frozen;go_upto_region 13 with fail
 clear CV CR EC D_ D9 ADj ADi ADh ADg fX;obtain⟨w2,hw2⟩:∃D5,((((w1.setCell ⟨w0.heap.size,13,none⟩ (.int .i64 t.fr)).setCell ⟨w0.heap.size,14,none⟩ (.int .i64 t.tu)).setCell ⟨w0.heap.size,15,none⟩ (.int .i64 t.am)).setCell ⟨w0.heap.size,16,none⟩ (.int .i64 t.no))=D5:=⟨_,rfl⟩
 have kN:Kp w1 w2 (fun k=>k=w0.heap.size):=hw2▸(((AB _ _ _ _).trans (AB _ _ _ _)).trans (AB _ _ _ _)).trans (AB _ _ _ _);replace X:Loc w2 (w0.heap.size) #[.int .i64 t.k,.int .i64 0,.string ⟨#[]⟩,.int .i64 0,.string ⟨#[]⟩,.slice none 0 0,.int .i64 0,.string ⟨#[]⟩,.slice none 0 0,.int .i64 0,.string ⟨#[]⟩,.slice none 0 0,.int .i64 0,.int .i64 t.fr,.int .i64 t.tu,.int .i64 t.am,.int .i64 t.no]:=hw2▸((((X.set 13 _ rfl).set 14 _ rfl).set 15 _ rfl).set 16 _ rfl);replace A:=A.kp kN (by omega);have Al:=Below.kp AU kN AU.size (fun k hk=>by omega);have FM:=kN.size;rw[hw2];clear hw2 kN AU;have fH:=SM.out _ (Cr _) (Cr _) (Cr _) (ha1.out.below Al) (hb1.out.below Al) (hc1.out.below Al);clear SM ha1 hb1 hc1;have H5:=hide fH;clear fH;go_wp2_with (first|(refine BA X 75 _ rfl _ rfl rfl Tryz.underlying75 rfl (by kernel_rfl) ?_)|(refine BA A 75 _ rfl _ rfl rfl Tryz.underlying75 rfl (by kernel_rfl) ?_))
 refine H5.out.mono ?_;rintro _ w3 ⟨rfl,bb⟩;have Bg:=bu Al bb;have I9:=bb.size;replace A:=A.up bb;replace X:=X.up bb;clear Al bb;go_wp2;go_ret;exact⟨rfl,Bg⟩

theorem jY(t:MT)(ao bo co:Option Addr)(ca cb cc:Nat)(w:World)(h1:¬t.k=1)(h2:¬t.k=2)(h3:¬t.k=3)(h4:¬t.k=4)(ha:RI w (.slice ao t.bw.length ca) t.bw)(hb:RI w (.slice bo t.pw.length cb) t.pw)(hc:RI w (.slice co t.qw.length cc) t.qw):
 Calls Tryz.prog 130 #[Fb t (.slice ao t.bw.length ca) (.slice bo t.pw.length cb) (.slice co t.qw.length cc)] w fun e w'=>e= .returned (.bool (Dr (tK t) t))∧Below w.heap.size w w':=by
 have dk1:decide (t.k=1)=false:=by simp;omega
 have ek:(t.k==1)=false:=by simp;omega
 have dk2:decide (t.k=2)=false:=by simp;omega
 have p9:(t.k==2)=false:=by simp;omega
 have dk3:decide (t.k=3)=false:=by simp;omega
 have wM:(t.k==3)=false:=by simp;omega
 have dk4:decide (t.k=4)=false:=by simp;omega
 have ek4:(t.k==4)=false:=by simp;omega
 have SM:=hide fun w h1 h2 h3 h4 h5 h6=>FO (tK t) t .none .none .none ao bo co 0 0 0 ca cb cc w h1 h2 h3 h4 h5 h6;have HK:=hide True.intro;have ha1:=hide ha;have hb1:=hide hb;have hc1:=hide hc;clear ha hb hc;obtain⟨w0,hw0,AP,A,De⟩:=bx1 w #[.int .i64 t.k,.int .i64 t.vw,.string t.bn,.int .i64 t.bv,.string t.bs,.slice ao t.bw.length ca,.int .i64 t.pv,.string t.ps,.slice bo t.pw.length cb,.int .i64 t.qv,.string t.qs,.slice co t.qw.length cc,.int .i64 t.wh,.int .i64 t.fr,.int .i64 t.tu,.int .i64 t.am,.int .i64 t.no] 75;go_enter Tryz.func130,Tryz.ntmps130
 have CV:=A.cell 0 rfl;go_upto_region 2 with fail
 clear hw0 CV;obtain⟨w1,hw1⟩:∃y,w0.alloc (.cells #[.int .i64 t.k,.int .i64 0,.string ⟨#[]⟩,.int .i64 0,.string ⟨#[]⟩,.slice none 0 0,.int .i64 0,.string ⟨#[]⟩,.slice none 0 0,.int .i64 0,.string ⟨#[]⟩,.slice none 0 0,.int .i64 0,.int .i64 0,.int .i64 0,.int .i64 0,.int .i64 0] 75)=y:=⟨_,rfl⟩
 have bb:Below w0.heap.size w0 w1:=hw1▸Af _ _;have X:Loc w1 w0.heap.size #[.int .i64 t.k,.int .i64 0,.string ⟨#[]⟩,.int .i64 0,.string ⟨#[]⟩,.slice none 0 0,.int .i64 0,.string ⟨#[]⟩,.slice none 0 0,.int .i64 0,.string ⟨#[]⟩,.slice none 0 0,.int .i64 0,.int .i64 0,.int .i64 0,.int .i64 0,.int .i64 0]:=hw1▸AJ w0 _ _ rfl;have rJ:w0.heap.size+1≤w1.heap.size:=by rw[←hw1];simp
 rw[hw1];clear hw1;have AU:=bu AP bb;have DU:=bb.size;replace A:=A.up bb;clear AP bb;have fH:=SM.out _ (Cr _) (Cr _) (Cr _) (ha1.out.below AU) (hb1.out.below AU) (hc1.out.below AU);clear SM ha1 hb1 hc1;have H5:=hide fH;clear fH;have CV:=A.cell 0 rfl;go_wp2_with (first|(refine BA X 75 _ rfl _ rfl rfl Tryz.underlying75 rfl (by kernel_rfl) ?_)|(refine BA A 75 _ rfl _ rfl rfl Tryz.underlying75 rfl (by kernel_rfl) ?_))
 refine H5.out.mono ?_;rintro _ w2 ⟨rfl,bb⟩;clear CV;have Al:=bu AU bb;have FM:=bb.size;replace A:=A.up bb;replace X:=X.up bb;clear AU bb;go_wp2;go_ret;exact⟨rfl,Al⟩

theorem FT(t:MT)(ao bo co:Option Addr)(ca cb cc:Nat)(w:World)(ha:RI w (.slice ao t.bw.length ca) t.bw)(hb:RI w (.slice bo t.pw.length cb) t.pw)(hc:RI w (.slice co t.qw.length cc) t.qw):
 Calls Tryz.prog 130 #[Fb t (.slice ao t.bw.length ca) (.slice bo t.pw.length cb) (.slice co t.qw.length cc)] w fun e w'=>e= .returned (.bool (KU t))∧Below w.heap.size w w':=by
 unfold KU;rcases kinds t.k with h|h|h|h|⟨h1,h2,h3,h4⟩
 ·rw[AAW h];exact jX t ao bo co ca cb cc w h ha hb hc
 ·rw[AAV h];exact jW t ao bo co ca cb cc w h ha hb hc
 ·rw[AAU h];exact jV t ao bo co ca cb cc w h ha hb hc
 ·rw[AAT h];exact jU t ao bo co ca cb cc w h ha hb hc
 rw[ADG h1 h2 h3 h4];exact jY t ao bo co ca cb cc w h1 h2 h3 h4 ha hb hc
end
section
open Go.RowKit
variable [∀(a b c d:Int),Decidable (BD a b c d)] [∀(a b c d:Nat),Decidable (Dg a b c d)] [∀(last:Int)(s:St),Decidable (Ak last s)] [∀(x:T4),Decidable (Dt x)] [∀(n:Int)(s:List Int),Decidable (Du n s)] [∀(n f:Int),Decidable (A_ n f)]
theorem dW{s t:ByteArray}(h:s=t):(s.toList==t.toList)=true:=by simp[h]
theorem XJ(n f:Int)(m:ByteArray)(v:Int)(s:ByteArray)(ao:Option Addr)(ca:Nat)(xs:List Int)(w:World)(hm:m.size≤33554432)(hs:s.size≤33554432)(hE:Env w)(ha:RI w (.slice ao xs.length ca) xs):
 Calls Tryz.prog 353 #[cv n f,bv m v s (.slice ao xs.length ca)] w fun e w'=>e= .returned (.bool (Xu n f m v s xs))∧Below w.heap.size w w':=by
 obtain⟨w0,hw0,AP,LC,LB,_⟩:=Gf w #[.int .i64 n,.int .i64 f] 48 #[.string m,.int .i64 v,.string s,.slice ao xs.length ca] 71;have OK:=hide fun w'(b:Below w0.heap.size w0 w')=>Pw n f v s ao ca xs w' hs ((hE.below AP).below b) ((ha.below AP).below b);have HT:=hide fun w'(b:Below w0.heap.size w0 w')=>Py m w' hm ((hE.below AP).below b);have UP:=hide fun w'(b:Below w0.heap.size w0 w')=>ow m w' hm ((hE.below AP).below b);have hB:Xu n f m v s xs=(Fa n f v s xs&&decide (0<Bh m)&&decide (Fj m=s)):=rfl;rw[hB];clear hB ha hE;generalize Fa n f v s xs=q at *;generalize Bh m=k at *;generalize Fj m=u at *;cases q
 ·simp only[Bool.false_and];go_enter Tryz.func353,Tryz.ntmps353
  have K:=kw (ka (JB LC 0 1) (ZY LB 0 1 2 3));go_upto_region 1 with fail
  clear hw0;refine Ei K (fun bA hHeld=>?_);refine tx 0 5 ?_;refine tx 1 6 ?_;refine tx 2 7 ?_;refine rd 3 rfl (fun KK AA=>?_);go_simp;have hgo:=bA;refine(OK.out _ hgo).mono ?_;rintro e BN ⟨rfl,bb⟩;have Ai:Below w0.heap.size w0 BN:=bu bA bb;clear bA hgo bb hHeld;refine AA.out _ _ (K.out _ Ai) (fun hHeld=>?_);clear AA KK;refine tx 4 9 ?_;refine sx 5 10 ?_;refine sx 6 11 ?_;refine sx 7 12 ?_;refine sx 8 13 ?_;refine tx 9 14 ?_;refine tx 10 15 ?_;refine sx 11 16 ?_;refine sx 14 19 ?_;refine sx 12 17 ?_;refine sx 15 20 ?_;refine sx 13 18 ?_;refine sx 16 21 ?_;refine sx 17 22 ?_;refine tx 18 23 ?_;refine tx 19 4 ?_;clear hHeld;refine Bq ?_;have bb:=Ai;have Ct:=bu AP bb;have Gs:=bb.size;replace LC:=LC.up bb;replace LB:=LB.up bb;clear AP bb Ai K;go_wp2;go_ret;exact⟨rfl,Ct⟩
 simp only[Bool.true_and];by_cases hk:0<k
 ·have hd:decide (0<k)=true:=by simpa using hk
  rw[hd,Bool.true_and];by_cases hu:u=s
  ·have hv:decide (u=s)=true:=by simpa using hu
   have hy:=dW hu;rw[hv];clear hu hv;go_enter Tryz.func353,Tryz.ntmps353
   have K:=kw (ka (JB LC 0 1) (ZY LB 0 1 2 3));go_upto_region 1 with fail
   clear hw0;refine Ei K (fun bA hHeld=>?_);refine tx 0 5 ?_;refine tx 1 6 ?_;refine tx 2 7 ?_;refine rd 3 rfl (fun KK AA=>?_);go_simp;have hgo:=bA;refine(OK.out _ hgo).mono ?_;rintro e BN ⟨rfl,bb⟩;have Ai:Below w0.heap.size w0 BN:=bu bA bb;clear bA hgo bb hHeld;refine AA.out _ _ (K.out _ Ai) (fun hHeld=>?_);clear AA KK;refine tx 4 9 ?_;refine tx 5 10 ?_;refine tx 6 11 ?_;refine rd 7 rfl (fun KK AA=>?_);go_simp;have hgo:=Ai;refine(HT.out _ hgo).mono ?_;rintro e EO ⟨rfl,bb⟩;have Bi:Below w0.heap.size w0 EO:=bu Ai bb;clear Ai hgo bb hHeld;refine AA.out _ _ (K.out _ Bi) (fun hHeld=>?_);clear AA KK;refine tx 8 13 ?_;refine tx 9 14 ?_;refine tx 10 15 ?_;refine tx 11 16 ?_;refine tx 14 19 ?_;refine tx 12 17 ?_;refine tx 15 20 ?_;refine tx 16 21 ?_;refine rd 13 rfl (fun KK AA=>?_);go_simp;have hgo:=Bi;refine(UP.out _ hgo).mono ?_;rintro e Jo ⟨rfl,bb⟩;have GY:Below w0.heap.size w0 Jo:=bu Bi bb;clear Bi hgo bb hHeld;refine AA.out _ _ (K.out _ GY) (fun hHeld=>?_);clear AA KK;refine tx 17 22 ?_;refine tx 18 23 ?_;refine tx 19 4 ?_;clear hHeld;refine Bq ?_;have bb:=GY;have KP:=bu AP bb;have Yk:=bb.size;replace LC:=LC.up bb;replace LB:=LB.up bb;clear AP bb GY K;go_wp2;go_ret;exact⟨rfl,KP⟩
  have hv:decide (u=s)=false:=by simpa using hu
  have hy:=Em hu;rw[hv];clear hu hv;go_enter Tryz.func353,Tryz.ntmps353
  have K:=kw (ka (JB LC 0 1) (ZY LB 0 1 2 3));go_upto_region 1 with fail
  clear hw0;refine Ei K (fun bA hHeld=>?_);refine tx 0 5 ?_;refine tx 1 6 ?_;refine tx 2 7 ?_;refine rd 3 rfl (fun KK AA=>?_);go_simp;have hgo:=bA;refine(OK.out _ hgo).mono ?_;rintro e BN ⟨rfl,bb⟩;have Ai:Below w0.heap.size w0 BN:=bu bA bb;clear bA hgo bb hHeld;refine AA.out _ _ (K.out _ Ai) (fun hHeld=>?_);clear AA KK;refine tx 4 9 ?_;refine tx 5 10 ?_;refine tx 6 11 ?_;refine rd 7 rfl (fun KK AA=>?_);go_simp;have hgo:=Ai;refine(HT.out _ hgo).mono ?_;rintro e EO ⟨rfl,bb⟩;have Bi:Below w0.heap.size w0 EO:=bu Ai bb;clear Ai hgo bb hHeld;refine AA.out _ _ (K.out _ Bi) (fun hHeld=>?_);clear AA KK;refine tx 8 13 ?_;refine tx 9 14 ?_;refine tx 10 15 ?_;refine tx 11 16 ?_;refine tx 14 19 ?_;refine tx 12 17 ?_;refine tx 15 20 ?_;refine tx 16 21 ?_;refine rd 13 rfl (fun KK AA=>?_);go_simp;have hgo:=Bi;refine(UP.out _ hgo).mono ?_;rintro e Jo ⟨rfl,bb⟩;have GY:Below w0.heap.size w0 Jo:=bu Bi bb;clear Bi hgo bb hHeld;refine AA.out _ _ (K.out _ GY) (fun hHeld=>?_);clear AA KK;refine tx 17 22 ?_;refine tx 18 23 ?_;refine tx 19 4 ?_;clear hHeld;refine Bq ?_;have bb:=GY;have KP:=bu AP bb;have Yk:=bb.size;replace LC:=LC.up bb;replace LB:=LB.up bb;clear AP bb GY K;go_wp2;go_ret;exact⟨rfl,KP⟩
 have hd:decide (0<k)=false:=by simpa using hk
 rw[hd,Bool.false_and];go_enter Tryz.func353,Tryz.ntmps353
 have K:=kw (ka (JB LC 0 1) (ZY LB 0 1 2 3));go_upto_region 1 with fail
 clear hw0;refine Ei K (fun bA hHeld=>?_);refine tx 0 5 ?_;refine tx 1 6 ?_;refine tx 2 7 ?_;refine rd 3 rfl (fun KK AA=>?_);go_simp;have hgo:=bA;refine(OK.out _ hgo).mono ?_;rintro e BN ⟨rfl,bb⟩;have Ai:Below w0.heap.size w0 BN:=bu bA bb;clear bA hgo bb hHeld;refine AA.out _ _ (K.out _ Ai) (fun hHeld=>?_);clear AA KK;refine tx 4 9 ?_;refine tx 5 10 ?_;refine tx 6 11 ?_;refine rd 7 rfl (fun KK AA=>?_);go_simp;have hgo:=Ai;refine(HT.out _ hgo).mono ?_;rintro e EO ⟨rfl,bb⟩;have Bi:Below w0.heap.size w0 EO:=bu Ai bb;clear Ai hgo bb hHeld;refine AA.out _ _ (K.out _ Bi) (fun hHeld=>?_);clear AA KK;refine tx 8 13 ?_;refine tx 9 14 ?_;refine tx 10 15 ?_;refine sx 11 16 ?_;refine sx 14 19 ?_;refine sx 12 17 ?_;refine sx 15 20 ?_;refine sx 13 18 ?_;refine sx 16 21 ?_;refine sx 17 22 ?_;refine tx 18 23 ?_;refine tx 19 4 ?_;clear hHeld;refine Bq ?_;have bb:=Bi;have KQ:=bu AP bb;have Yl:=bb.size;replace LC:=LC.up bb;replace LB:=LB.up bb;clear AP bb Bi K;go_wp2;go_ret;exact⟨rfl,KQ⟩

theorem FP(n f:Int)(m:ByteArray)(v:Int)(s:ByteArray)(ao:Option Addr)(ca:Nat)(xs:List Int)(w:World)(hm:m.size≤1048576)(hs:s.size≤1048576)(ha:RI w (.slice ao xs.length ca) xs):
 Calls Tryz.prog 131 #[cv n f,bv m v s (.slice ao xs.length ca)] w fun e w'=>e= .returned (.bool (Xu n f m v s xs))∧Below w.heap.size w w':=by
 obtain⟨w0,hw0,AP,LC,LB,_⟩:=Gf w #[.int .i64 n,.int .i64 f] 48 #[.string m,.int .i64 v,.string s,.slice ao xs.length ca] 71;have OK:=hide fun w'(b:Below w0.heap.size w0 w')=>F9 n f v s ao ca xs w' (by omega) ((ha.below AP).below b);have NO:=hide fun w'=>Ch m w' (by omega);have UP:=hide fun w'=>nC m w' (by omega);have hB:Xu n f m v s xs=(Fa n f v s xs&&((AO m).isSome&&decide (m≠⟨#[]⟩))&&decide (Fj m=s)):=by rw[←Zy];rfl
 rw[hB];clear hB ha;generalize Fa n f v s xs=q at *;generalize (AO m).isSome=k at *;generalize Fj m=u at *;cases q
 ·simp only[Bool.false_and];go_enter Tryz.func131,Tryz.ntmps131
  have K:=kw (ka (JB LC 0 1) (ZY LB 0 1 2 3));go_upto_region 1 with fail
  clear hw0;refine Ei K (fun bA hHeld=>?_);refine tx 0 5 ?_;refine tx 1 6 ?_;refine tx 2 7 ?_;refine rd 3 rfl (fun KK AA=>?_);go_simp;have hgo:=bA;refine(OK.out _ hgo).mono ?_;rintro e BN ⟨rfl,bb⟩;have Ai:Below w0.heap.size w0 BN:=bu bA bb;clear bA hgo bb hHeld;refine AA.out _ _ (K.out _ Ai) (fun hHeld=>?_);clear AA KK;refine tx 4 9 ?_;refine sx 5 10 ?_;refine sx 6 11 ?_;refine sx 7 12 ?_;refine tx 8 13 ?_;refine tx 9 14 ?_;refine sx 10 15 ?_;refine sx 11 16 ?_;refine sx 12 17 ?_;refine tx 13 18 ?_;refine tx 14 19 ?_;refine sx 15 20 ?_;refine sx 18 23 ?_;refine sx 16 21 ?_;refine sx 19 24 ?_;refine sx 17 22 ?_;refine sx 20 25 ?_;refine sx 21 26 ?_;refine tx 22 27 ?_;refine tx 23 4 ?_;clear hHeld;refine Bq ?_;have bb:=Ai;have Ct:=bu AP bb;have Gs:=bb.size;replace LC:=LC.up bb;replace LB:=LB.up bb;clear AP bb Ai K;go_wp2;go_ret;exact⟨rfl,Ct⟩
 simp only[Bool.true_and];cases k
 ·simp only[Bool.false_and];go_enter Tryz.func131,Tryz.ntmps131
  have K:=kw (ka (JB LC 0 1) (ZY LB 0 1 2 3));go_upto_region 1 with fail
  clear hw0;refine Ei K (fun bA hHeld=>?_);refine tx 0 5 ?_;refine tx 1 6 ?_;refine tx 2 7 ?_;refine rd 3 rfl (fun KK AA=>?_);go_simp;have hgo:=bA;refine(OK.out _ hgo).mono ?_;rintro e BN ⟨rfl,bb⟩;have Ai:Below w0.heap.size w0 BN:=bu bA bb;clear bA hgo bb hHeld;refine AA.out _ _ (K.out _ Ai) (fun hHeld=>?_);clear AA KK;refine tx 4 9 ?_;refine tx 5 10 ?_;refine tx 6 11 ?_;refine rd 7 rfl (fun KK AA=>?_);go_simp;have hgo:=Ai;refine(NO.out _).mono ?_;rintro e EO ⟨rfl,bb⟩;have Bi:Below w0.heap.size w0 EO:=bu Ai bb;clear Ai hgo bb hHeld;refine AA.out _ _ (K.out _ Bi) (fun hHeld=>?_);clear AA KK;refine tx 8 13 ?_;refine tx 9 14 ?_;refine sx 10 15 ?_;refine sx 11 16 ?_;refine sx 12 17 ?_;refine tx 13 18 ?_;refine tx 14 19 ?_;refine sx 15 20 ?_;refine sx 18 23 ?_;refine sx 16 21 ?_;refine sx 19 24 ?_;refine sx 17 22 ?_;refine sx 20 25 ?_;refine sx 21 26 ?_;refine tx 22 27 ?_;refine tx 23 4 ?_;clear hHeld;refine Bq ?_;have bb:=Bi;have KQ:=bu AP bb;have Yl:=bb.size;replace LC:=LC.up bb;replace LB:=LB.up bb;clear AP bb Bi K;go_wp2;go_ret;exact⟨rfl,KQ⟩
 simp only[Bool.true_and];by_cases he:m=⟨#[]⟩
 ·have hd:decide (m≠⟨#[]⟩)=false:=by simpa using he
  have hy:(m.toList==[])=true:=by rw[he,ByteArray.toList_eq];rfl
  rw[hd,Bool.false_and];clear he hd;go_enter Tryz.func131,Tryz.ntmps131
  have K:=kw (ka (JB LC 0 1) (ZY LB 0 1 2 3));go_upto_region 1 with fail
  clear hw0;refine Ei K (fun bA hHeld=>?_);refine tx 0 5 ?_;refine tx 1 6 ?_;refine tx 2 7 ?_;refine rd 3 rfl (fun KK AA=>?_);go_simp;have hgo:=bA;refine(OK.out _ hgo).mono ?_;rintro e BN ⟨rfl,bb⟩;have Ai:Below w0.heap.size w0 BN:=bu bA bb;clear bA hgo bb hHeld;refine AA.out _ _ (K.out _ Ai) (fun hHeld=>?_);clear AA KK;refine tx 4 9 ?_;refine tx 5 10 ?_;refine tx 6 11 ?_;refine rd 7 rfl (fun KK AA=>?_);go_simp;have hgo:=Ai;refine(NO.out _).mono ?_;rintro e EO ⟨rfl,bb⟩;have Bi:Below w0.heap.size w0 EO:=bu Ai bb;clear Ai hgo bb hHeld;refine AA.out _ _ (K.out _ Bi) (fun hHeld=>?_);clear AA KK;refine tx 8 13 ?_;refine tx 9 14 ?_;refine tx 10 15 ?_;refine tx 11 16 ?_;refine tx 12 17 ?_;refine tx 13 18 ?_;refine tx 14 19 ?_;refine sx 15 20 ?_;refine sx 18 23 ?_;refine sx 16 21 ?_;refine sx 19 24 ?_;refine sx 17 22 ?_;refine sx 20 25 ?_;refine sx 21 26 ?_;refine tx 22 27 ?_;refine tx 23 4 ?_;clear hHeld;refine Bq ?_;have bb:=Bi;have KQ:=bu AP bb;have Yl:=bb.size;replace LC:=LC.up bb;replace LB:=LB.up bb;clear AP bb Bi K;go_wp2;go_ret;exact⟨rfl,KQ⟩
 have hd:decide (m≠⟨#[]⟩)=true:=by simpa using he
 have hne:=zK he;rw[hd,Bool.true_and];clear he hd;by_cases hu:u=s
 ·have hv:decide (u=s)=true:=by simpa using hu
  have hy:=dW hu;rw[hv];clear hu hv;go_enter Tryz.func131,Tryz.ntmps131
  have K:=kw (ka (JB LC 0 1) (ZY LB 0 1 2 3));go_upto_region 1 with fail
  clear hw0;refine Ei K (fun bA hHeld=>?_);refine tx 0 5 ?_;refine tx 1 6 ?_;refine tx 2 7 ?_;refine rd 3 rfl (fun KK AA=>?_);go_simp;have hgo:=bA;refine(OK.out _ hgo).mono ?_;rintro e BN ⟨rfl,bb⟩;have Ai:Below w0.heap.size w0 BN:=bu bA bb;clear bA hgo bb hHeld;refine AA.out _ _ (K.out _ Ai) (fun hHeld=>?_);clear AA KK;refine tx 4 9 ?_;refine tx 5 10 ?_;refine tx 6 11 ?_;refine rd 7 rfl (fun KK AA=>?_);go_simp;have hgo:=Ai;refine(NO.out _).mono ?_;rintro e EO ⟨rfl,bb⟩;have Bi:Below w0.heap.size w0 EO:=bu Ai bb;clear Ai hgo bb hHeld;refine AA.out _ _ (K.out _ Bi) (fun hHeld=>?_);clear AA KK;refine tx 8 13 ?_;refine tx 9 14 ?_;refine tx 10 15 ?_;refine tx 11 16 ?_;refine tx 12 17 ?_;refine tx 13 18 ?_;refine tx 14 19 ?_;refine tx 15 20 ?_;refine tx 18 23 ?_;refine tx 16 21 ?_;refine tx 19 24 ?_;refine tx 20 25 ?_;refine rd 17 rfl (fun KK AA=>?_);go_simp;have hgo:=Bi;refine(UP.out _).mono ?_;rintro e Jo ⟨rfl,bb⟩;have GY:Below w0.heap.size w0 Jo:=bu Bi bb;clear Bi hgo bb hHeld;refine AA.out _ _ (K.out _ GY) (fun hHeld=>?_);clear AA KK;refine tx 21 26 ?_;refine tx 22 27 ?_;refine tx 23 4 ?_;clear hHeld;refine Bq ?_;have bb:=GY;have KP:=bu AP bb;have Yk:=bb.size;replace LC:=LC.up bb;replace LB:=LB.up bb;clear AP bb GY K;go_wp2;go_ret;exact⟨rfl,KP⟩
 have hv:decide (u=s)=false:=by simpa using hu
 have hy:=Em hu;rw[hv];clear hu hv;go_enter Tryz.func131,Tryz.ntmps131
 have K:=kw (ka (JB LC 0 1) (ZY LB 0 1 2 3));go_upto_region 1 with fail
 clear hw0;refine Ei K (fun bA hHeld=>?_);refine tx 0 5 ?_;refine tx 1 6 ?_;refine tx 2 7 ?_;refine rd 3 rfl (fun KK AA=>?_);go_simp;have hgo:=bA;refine(OK.out _ hgo).mono ?_;rintro e BN ⟨rfl,bb⟩;have Ai:Below w0.heap.size w0 BN:=bu bA bb;clear bA hgo bb hHeld;refine AA.out _ _ (K.out _ Ai) (fun hHeld=>?_);clear AA KK;refine tx 4 9 ?_;refine tx 5 10 ?_;refine tx 6 11 ?_;refine rd 7 rfl (fun KK AA=>?_);go_simp;have hgo:=Ai;refine(NO.out _).mono ?_;rintro e EO ⟨rfl,bb⟩;have Bi:Below w0.heap.size w0 EO:=bu Ai bb;clear Ai hgo bb hHeld;refine AA.out _ _ (K.out _ Bi) (fun hHeld=>?_);clear AA KK;refine tx 8 13 ?_;refine tx 9 14 ?_;refine tx 10 15 ?_;refine tx 11 16 ?_;refine tx 12 17 ?_;refine tx 13 18 ?_;refine tx 14 19 ?_;refine tx 15 20 ?_;refine tx 18 23 ?_;refine tx 16 21 ?_;refine tx 19 24 ?_;refine tx 20 25 ?_;refine rd 17 rfl (fun KK AA=>?_);go_simp;have hgo:=Bi;refine(UP.out _).mono ?_;rintro e Jo ⟨rfl,bb⟩;have GY:Below w0.heap.size w0 Jo:=bu Bi bb;clear Bi hgo bb hHeld;refine AA.out _ _ (K.out _ GY) (fun hHeld=>?_);clear AA KK;refine tx 21 26 ?_;refine tx 22 27 ?_;refine tx 23 4 ?_;clear hHeld;refine Bq ?_;have bb:=GY;have KP:=bu AP bb;have Yk:=bb.size;replace LC:=LC.up bb;replace LB:=LB.up bb;clear AP bb GY K;go_wp2;go_ret;exact⟨rfl,KP⟩
end
end Go.Proofs.YtcjmcgolgbkknaaGreatDoor
