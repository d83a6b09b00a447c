/- Lemmas, as stated. -/
import Derived.Test.YtcjmcgolgbkknaaGreatDoorTABB
set_option maxRecDepth 100000
set_option maxHeartbeats 16000000
set_option linter.unusedSectionVars false
set_option linter.unusedVariables false
namespace Go.Proofs.YtcjmcgolgbkknaaGreatDoor
section
open Go.RowKit
variable [∀(a b c d:Int),Decidable (BG a b c d)] [∀(a b c d:Nat),Decidable (DZ a b c d)] [∀(last:Int)(s:St),Decidable (Aq last s)] [∀(x:T4),Decidable (Du x)] [∀(n:Int)(s:List Int),Decidable (Dv n s)] [∀(n f:Int),Decidable (A_ n f)]
def MH(t:MT):Prop:=t.bn.size≤33554432∧t.bs.size≤33554432∧t.ps.size≤33554432∧t.qs.size≤33554432
theorem MI.nul{t:MT}(h1:t.bv=0)(h2:t.bw=[]):MI t:=⟨by rw[h1];omega,by rw[h2];intro x hx;simp at hx⟩
theorem Vg(n f:Int)(t:MT)(ao bo co:Option Addr)(ca cb cc:Nat)(w:World)(hk:t.k=1)(hs:MH t)(hm:MI t)(hE:Env w)(ha:RI w (.slice ao t.bw.length ca) t.bw)(hb:RI w (.slice bo t.pw.length cb) t.pw)(hc:RI w (.slice co t.qw.length cc) t.qw):
 Calls Tryz.prog 149 #[cv n f,Dw t (.slice ao t.bw.length ca) (.slice bo t.pw.length cb) (.slice co t.qw.length cc)] w fun e w'=>e= .returned (.bool (decide (A_ n f)&&(aT n f t&&Dq (mB t.bn t.bv t.bs t.bw) t)))∧Below w.heap.size w w':=by
 obtain⟨s1,s2,s3,s4⟩:=hs;have SA:=hide fun w=>SY t (.slice ao t.bw.length ca) (.slice bo t.pw.length cb) (.slice co t.qw.length cc) w hk;have CO:=hide fun w=>Cz n f w;have HN:Hid (decide (A_ n f)=true→IntKind.i64.wrap (n-1)=n-1):=hide fun h=>by rw[IntKind.wrap_i64]<;>(have:=of_decide_eq_true h;unfold A_ at this;omega)
 have RT:=hide fun w(hE:Env w) ha=>X8 n f t.bn t.bv t.bs ao ca t.bw w s1 s2 hE ha;have MO:=hide fun w=>Mg t.bn t.bv t.bs t.bw (.slice ao t.bw.length ca) ⟨_,_,_,rfl⟩ w;have SM:=hide fun w hP h1 h2 h3 h4 h5 h6=>GY (mB t.bn t.bv t.bs t.bw) t ao .none .none ao bo co ca 0 0 ca cb cc w ⟨hm.1,hm.2⟩ hm hP h1 h2 h3 h4 h5 h6;have HE:=hide hE;have ha1:=hide ha;have hb1:=hide hb;have hc1:=hide hc;clear hE ha hb hc hm s1 s2 s3 s4 hk;unfold aT;generalize Dq (mB t.bn t.bv t.bs t.bw) t=r2 at *;generalize WB n f t.bn t.bv t.bs t.bw=r1 at *;generalize decide (A_ n f)=b1 at *;obtain⟨w0,hw0,AO,LC,A,DC⟩:=Gb w #[.int .i64 n,.int .i64 f] 48 #[.int .i64 t.k,.int .i64 t.vw,.string t.bn,.int .i64 t.bv,.string t.bs,.slice ao t.bw.length ca,.int .i64 t.pv,.string t.ps,.slice bo t.pw.length cb,.int .i64 t.qv,.string t.qs,.slice co t.qw.length cc,.int .i64 t.wh,.int .i64 t.fr,.int .i64 t.tu,.int .i64 t.am,.int .i64 t.no] 75;go_enter Tryz.func149,Tryz.ntmps149
 go_wp2_with (first|(refine Ap A 75 _ rfl _ rfl rfl Tryz.underlying75 rfl (by kernel_rfl) ?_))
 clear hw0;refine(SA.out _).mono ?_;rintro _ w1 ⟨rfl,bb⟩;have AZ:=bu AO bb;have Cx:=bb.size;replace LC:=LC.up bb;replace A:=A.up bb;clear AO bb SA;cases b1
 ·have K:=kw (ka (Iu LC 0 1) (kL A));go_upto_region 2 with fail
  refine FC K (fun bA hHeld=>?_);refine tx 0 8 ?_;refine rd 1 rfl (fun KK AA=>?_);go_simp;have hgo:=bA;refine(CO.out _).mono ?_;rintro e Cq ⟨rfl,bb⟩;have Au:Below w1.heap.size w1 Cq:=bu bA bb;clear bA hgo bb hHeld;refine AA.out _ _ (K.out _ Au) (fun hHeld=>?_);clear AA KK;refine tx 2 10 ?_;refine sx 3 11 ?_;refine sx 4 12 ?_;refine tx 5 13 ?_;refine tx 6 14 ?_;refine sx 7 15 ?_;refine sx 8 16 ?_;refine sx 9 17 ?_;refine tx 10 18 ?_;refine tx 11 19 ?_;refine sx 12 20 ?_;refine sx 14 22 ?_;refine sx 13 21 ?_;refine sx 15 23 ?_;refine tx 16 24 ?_;refine tx 17 4 ?_;clear hHeld;refine Bw ?_;have bb:=Au;have F8:=bu AZ bb;have OH:=bb.size;replace LC:=LC.up bb;replace A:=A.up bb;clear AZ bb Au K;go_wp2;go_ret;exact⟨by simp,F8⟩
 cases r1
 ·have K:=kw (ka (Iu LC 0 1) (kL A));go_upto_region 2 with fail
  refine FC K (fun bA hHeld=>?_);refine tx 0 8 ?_;refine rd 1 rfl (fun KK AA=>?_);go_simp;have hgo:=bA;refine(CO.out _).mono ?_;rintro e Cq ⟨rfl,bb⟩;have Au:Below w1.heap.size w1 Cq:=bu bA bb;clear bA hgo bb hHeld;refine AA.out _ _ (K.out _ Au) (fun hHeld=>?_);clear AA KK;refine tx 2 10 ?_;refine tx 3 11 ?_;refine tx 4 12 ?_;refine tx 5 13 ?_;refine tx 6 14 ?_;refine tx 7 15 ?_;refine tx 8 16 ?_;refine rd 9 rfl (fun KK AA=>?_);go_simp;have hgo:=Au;refine(RT.out _ (HE.out.below (bu AZ hgo)) (ha1.out.below (bu AZ hgo))).mono ?_;rintro e Fs ⟨rfl,bb⟩;have BS:Below w1.heap.size w1 Fs:=bu Au bb;clear Au hgo bb hHeld;refine AA.out _ _ (K.out _ BS) (fun hHeld=>?_);clear AA KK;refine tx 10 18 ?_;refine tx 11 19 ?_;refine sx 12 20 ?_;refine sx 14 22 ?_;refine sx 13 21 ?_;refine sx 15 23 ?_;refine tx 16 24 ?_;refine tx 17 4 ?_;clear hHeld;refine Bw ?_;have bb:=BS;have Jz:=bu AZ bb;have XG:=bb.size;replace LC:=LC.up bb;replace A:=A.up bb;clear AZ bb BS K;go_wp2;go_ret;exact⟨by simp,Jz⟩
 have K:=kw (ka (Iu LC 0 1) (kL A));go_upto_region 2 with fail
 refine FC K (fun bA hHeld=>?_);refine tx 0 8 ?_;refine rd 1 rfl (fun KK AA=>?_);go_simp;have hgo:=bA;refine(CO.out _).mono ?_;rintro e Cq ⟨rfl,bb⟩;have Au:Below w1.heap.size w1 Cq:=bu bA bb;clear bA hgo bb hHeld;refine AA.out _ _ (K.out _ Au) (fun hHeld=>?_);clear AA KK;refine tx 2 10 ?_;refine tx 3 11 ?_;refine tx 4 12 ?_;refine tx 5 13 ?_;refine tx 6 14 ?_;refine tx 7 15 ?_;refine tx 8 16 ?_;refine rd 9 rfl (fun KK AA=>?_);go_simp;have hgo:=Au;refine(RT.out _ (HE.out.below (bu AZ hgo)) (ha1.out.below (bu AZ hgo))).mono ?_;rintro e Fs ⟨rfl,bb⟩;have BS:Below w1.heap.size w1 Fs:=bu Au bb;clear Au hgo bb hHeld;refine AA.out _ _ (K.out _ BS) (fun hHeld=>?_);clear AA KK;refine tx 10 18 ?_;refine tx 11 19 ?_;refine tx 12 20 ?_;refine take_at (i:=14) (d:=22) (v:= .agg #[.int .i64 t.k,.int .i64 t.vw,.string t.bn,.int .i64 t.bv,.string t.bs,.slice ao t.bw.length ca,.int .i64 t.pv,.string t.ps,.slice bo t.pw.length cb,.int .i64 t.qv,.string t.qs,.slice co t.qw.length cc,.int .i64 t.wh,.int .i64 t.fr,.int .i64 t.tu,.int .i64 t.am,.int .i64 t.no]) rfl rfl (by kernel_rfl) (by kernel_rfl) (by kernel_rfl) (fun _ _ _ h=>h) ?_ (by assumption) ?_
 ·exact Az rfl 75 _ rfl rfl _ (fun w h=>h.2.2) Tryz.underlying75 rfl (by kernel_rfl)
 simp only[pU];refine rd 13 rfl (fun KK AA=>?_);go_simp;have hgo:=BS;refine(MO.out _).mono ?_;rintro e Nc ⟨rfl,bb⟩;have Fq:Below w1.heap.size w1 Nc:=bu BS bb;clear BS hgo bb hHeld;refine AA.out _ _ (K.out _ Fq) (fun hHeld=>?_);clear AA KK;refine rd 15 rfl (fun KK AA=>?_);go_simp;have hgo:=Fq;refine(SM.out _ (HE.out.below (bu AZ hgo)).pow (ha1.out.below (bu AZ hgo)) (Cj _) (Cj _) (ha1.out.below (bu AZ hgo)) (hb1.out.below (bu AZ hgo)) (hc1.out.below (bu AZ hgo))).mono ?_;rintro e Nb ⟨rfl,bb⟩;have Sy:Below w1.heap.size w1 Nb:=bu Fq bb;clear Fq hgo bb hHeld;refine AA.out _ _ (K.out _ Sy) (fun hHeld=>?_);clear AA KK;refine tx 16 24 ?_;refine tx 17 4 ?_;clear hHeld;refine Bw ?_;have bb:=Sy;have Jy:=bu AZ bb;have XF:=bb.size;replace LC:=LC.up bb;replace A:=A.up bb;clear AZ bb Sy K;go_wp2;go_ret;exact⟨by simp,Jy⟩
theorem Vf(n f:Int)(t:MT)(ao bo co:Option Addr)(ca cb cc:Nat)(w:World)(hk:t.k=2)(hs:MH t)(hm:MI t)(hE:Env w)(ha:RI w (.slice ao t.bw.length ca) t.bw)(hb:RI w (.slice bo t.pw.length cb) t.pw)(hc:RI w (.slice co t.qw.length cc) t.qw):
 Calls Tryz.prog 149 #[cv n f,Dw t (.slice ao t.bw.length ca) (.slice bo t.pw.length cb) (.slice co t.qw.length cc)] w fun e w'=>e= .returned (.bool (decide (A_ n f)&&(aQ n f t&&Dq (mP t.pv t.ps t.pw) t)))∧Below w.heap.size w w':=by
 obtain⟨s1,s2,s3,s4⟩:=hs;have SA:=hide fun w=>SV t (.slice ao t.bw.length ca) (.slice bo t.pw.length cb) (.slice co t.qw.length cc) w hk;have CO:=hide fun w=>Cz n f w;have HN:Hid (decide (A_ n f)=true→IntKind.i64.wrap (n-1)=n-1):=hide fun h=>by rw[IntKind.wrap_i64]<;>(have:=of_decide_eq_true h;unfold A_ at this;omega)
 have RT:=hide fun w(hE:Env w) ha=>X7 n f t.pv t.ps bo cb t.pw w s3 hE ha;have MO:=hide fun w=>Mf t.pv t.ps t.pw (.slice bo t.pw.length cb) ⟨_,_,_,rfl⟩ w;have SM:=hide fun w hP h1 h2 h3 h4 h5 h6=>GY (mP t.pv t.ps t.pw) t .none bo .none ao bo co 0 cb 0 ca cb cc w (MI.nul rfl rfl) hm hP h1 h2 h3 h4 h5 h6;have HE:=hide hE;have ha1:=hide ha;have hb1:=hide hb;have hc1:=hide hc;clear hE ha hb hc hm s1 s2 s3 s4 hk;unfold aQ;generalize Dq (mP t.pv t.ps t.pw) t=r2 at *;generalize (DY n f t.pv t.ps t.pw&&!(t.ps.toList==[]))=r1 at *;generalize decide (A_ n f)=b1 at *;obtain⟨w0,hw0,AO,LC,A,DC⟩:=Gb w #[.int .i64 n,.int .i64 f] 48 #[.int .i64 t.k,.int .i64 t.vw,.string t.bn,.int .i64 t.bv,.string t.bs,.slice ao t.bw.length ca,.int .i64 t.pv,.string t.ps,.slice bo t.pw.length cb,.int .i64 t.qv,.string t.qs,.slice co t.qw.length cc,.int .i64 t.wh,.int .i64 t.fr,.int .i64 t.tu,.int .i64 t.am,.int .i64 t.no] 75;go_enter Tryz.func149,Tryz.ntmps149
 go_wp2_with (first|(refine Ap A 75 _ rfl _ rfl rfl Tryz.underlying75 rfl (by kernel_rfl) ?_))
 clear hw0;refine(SA.out _).mono ?_;rintro _ w1 ⟨rfl,bb⟩;have AZ:=bu AO bb;have Cx:=bb.size;replace LC:=LC.up bb;replace A:=A.up bb;clear AO bb SA;cases b1
 ·have K:=kw (ka (Iu LC 0 1) (kL A));go_upto_region 2 with fail
  refine FC K (fun bA hHeld=>?_);refine tx 0 8 ?_;refine rd 1 rfl (fun KK AA=>?_);go_simp;have hgo:=bA;refine(CO.out _).mono ?_;rintro e Cq ⟨rfl,bb⟩;have Au:Below w1.heap.size w1 Cq:=bu bA bb;clear bA hgo bb hHeld;refine AA.out _ _ (K.out _ Au) (fun hHeld=>?_);clear AA KK;refine tx 2 10 ?_;refine sx 3 11 ?_;refine sx 4 12 ?_;refine tx 5 13 ?_;refine tx 6 14 ?_;refine sx 7 15 ?_;refine sx 8 16 ?_;refine sx 9 17 ?_;refine tx 10 18 ?_;refine tx 11 19 ?_;refine sx 12 20 ?_;refine sx 14 22 ?_;refine sx 13 21 ?_;refine sx 15 23 ?_;refine tx 16 24 ?_;refine tx 17 4 ?_;clear hHeld;refine Bw ?_;have bb:=Au;have F8:=bu AZ bb;have OH:=bb.size;replace LC:=LC.up bb;replace A:=A.up bb;clear AZ bb Au K;go_wp2;go_ret;exact⟨by simp,F8⟩
 cases r1
 ·have K:=kw (ka (Iu LC 0 1) (kL A));go_upto_region 2 with fail
  refine FC K (fun bA hHeld=>?_);refine tx 0 8 ?_;refine rd 1 rfl (fun KK AA=>?_);go_simp;have hgo:=bA;refine(CO.out _).mono ?_;rintro e Cq ⟨rfl,bb⟩;have Au:Below w1.heap.size w1 Cq:=bu bA bb;clear bA hgo bb hHeld;refine AA.out _ _ (K.out _ Au) (fun hHeld=>?_);clear AA KK;refine tx 2 10 ?_;refine tx 3 11 ?_;refine tx 4 12 ?_;refine tx 5 13 ?_;refine tx 6 14 ?_;refine tx 7 15 ?_;refine tx 8 16 ?_;refine rd 9 rfl (fun KK AA=>?_);go_simp;have hgo:=Au;refine(RT.out _ (HE.out.below (bu AZ hgo)) (hb1.out.below (bu AZ hgo))).mono ?_;rintro e Fs ⟨rfl,bb⟩;have BS:Below w1.heap.size w1 Fs:=bu Au bb;clear Au hgo bb hHeld;refine AA.out _ _ (K.out _ BS) (fun hHeld=>?_);clear AA KK;refine tx 10 18 ?_;refine tx 11 19 ?_;refine sx 12 20 ?_;refine sx 14 22 ?_;refine sx 13 21 ?_;refine sx 15 23 ?_;refine tx 16 24 ?_;refine tx 17 4 ?_;clear hHeld;refine Bw ?_;have bb:=BS;have Jz:=bu AZ bb;have XG:=bb.size;replace LC:=LC.up bb;replace A:=A.up bb;clear AZ bb BS K;go_wp2;go_ret;exact⟨by simp,Jz⟩
 have K:=kw (ka (Iu LC 0 1) (kL A));go_upto_region 2 with fail
 refine FC K (fun bA hHeld=>?_);refine tx 0 8 ?_;refine rd 1 rfl (fun KK AA=>?_);go_simp;have hgo:=bA;refine(CO.out _).mono ?_;rintro e Cq ⟨rfl,bb⟩;have Au:Below w1.heap.size w1 Cq:=bu bA bb;clear bA hgo bb hHeld;refine AA.out _ _ (K.out _ Au) (fun hHeld=>?_);clear AA KK;refine tx 2 10 ?_;refine tx 3 11 ?_;refine tx 4 12 ?_;refine tx 5 13 ?_;refine tx 6 14 ?_;refine tx 7 15 ?_;refine tx 8 16 ?_;refine rd 9 rfl (fun KK AA=>?_);go_simp;have hgo:=Au;refine(RT.out _ (HE.out.below (bu AZ hgo)) (hb1.out.below (bu AZ hgo))).mono ?_;rintro e Fs ⟨rfl,bb⟩;have BS:Below w1.heap.size w1 Fs:=bu Au bb;clear Au hgo bb hHeld;refine AA.out _ _ (K.out _ BS) (fun hHeld=>?_);clear AA KK;refine tx 10 18 ?_;refine tx 11 19 ?_;refine tx 12 20 ?_;refine take_at (i:=14) (d:=22) (v:= .agg #[.int .i64 t.k,.int .i64 t.vw,.string t.bn,.int .i64 t.bv,.string t.bs,.slice ao t.bw.length ca,.int .i64 t.pv,.string t.ps,.slice bo t.pw.length cb,.int .i64 t.qv,.string t.qs,.slice co t.qw.length cc,.int .i64 t.wh,.int .i64 t.fr,.int .i64 t.tu,.int .i64 t.am,.int .i64 t.no]) rfl rfl (by kernel_rfl) (by kernel_rfl) (by kernel_rfl) (fun _ _ _ h=>h) ?_ (by assumption) ?_
 ·exact Az rfl 75 _ rfl rfl _ (fun w h=>h.2.2) Tryz.underlying75 rfl (by kernel_rfl)
 simp only[pU];refine rd 13 rfl (fun KK AA=>?_);go_simp;have hgo:=BS;refine(MO.out _).mono ?_;rintro e Nc ⟨rfl,bb⟩;have Fq:Below w1.heap.size w1 Nc:=bu BS bb;clear BS hgo bb hHeld;refine AA.out _ _ (K.out _ Fq) (fun hHeld=>?_);clear AA KK;refine rd 15 rfl (fun KK AA=>?_);go_simp;have hgo:=Fq;refine(SM.out _ (HE.out.below (bu AZ hgo)).pow (Cj _) (hb1.out.below (bu AZ hgo)) (Cj _) (ha1.out.below (bu AZ hgo)) (hb1.out.below (bu AZ hgo)) (hc1.out.below (bu AZ hgo))).mono ?_;rintro e Nb ⟨rfl,bb⟩;have Sy:Below w1.heap.size w1 Nb:=bu Fq bb;clear Fq hgo bb hHeld;refine AA.out _ _ (K.out _ Sy) (fun hHeld=>?_);clear AA KK;refine tx 16 24 ?_;refine tx 17 4 ?_;clear hHeld;refine Bw ?_;have bb:=Sy;have Jy:=bu AZ bb;have XF:=bb.size;replace LC:=LC.up bb;replace A:=A.up bb;clear AZ bb Sy K;go_wp2;go_ret;exact⟨by simp,Jy⟩
theorem Ve(n f:Int)(t:MT)(ao bo co:Option Addr)(ca cb cc:Nat)(w:World)(hk:t.k=3)(hs:MH t)(hm:MI t)(hE:Env w)(ha:RI w (.slice ao t.bw.length ca) t.bw)(hb:RI w (.slice bo t.pw.length cb) t.pw)(hc:RI w (.slice co t.qw.length cc) t.qw):
 Calls Tryz.prog 149 #[cv n f,Dw t (.slice ao t.bw.length ca) (.slice bo t.pw.length cb) (.slice co t.qw.length cc)] w fun e w'=>e= .returned (.bool (decide (A_ n f)&&(aP n f t&&Dq (mV t.vw t.wh t.qv t.qs t.qw) t)))∧Below w.heap.size w w':=by
 obtain⟨s1,s2,s3,s4⟩:=hs;have SA:=hide fun w=>SS t (.slice ao t.bw.length ca) (.slice bo t.pw.length cb) (.slice co t.qw.length cc) w hk;have CO:=hide fun w=>Cz n f w;have HN:Hid (decide (A_ n f)=true→IntKind.i64.wrap (n-1)=n-1):=hide fun h=>by rw[IntKind.wrap_i64]<;>(have:=of_decide_eq_true h;unfold A_ at this;omega)
 have RT:=hide fun w(hn:IntKind.i64.wrap (n-1)=n-1)(hE:Env w) ha=>X6 n f t.vw t.wh t.qv t.qs co cc t.qw w hn s4 hE ha;have MO:=hide fun w=>Me t.vw t.wh t.qv t.qs t.qw (.slice co t.qw.length cc) ⟨_,_,_,rfl⟩ w;have SM:=hide fun w hP h1 h2 h3 h4 h5 h6=>GY (mV t.vw t.wh t.qv t.qs t.qw) t .none .none co ao bo co 0 0 cc ca cb cc w (MI.nul rfl rfl) hm hP h1 h2 h3 h4 h5 h6;have HE:=hide hE;have ha1:=hide ha;have hb1:=hide hb;have hc1:=hide hc;clear hE ha hb hc hm s1 s2 s3 s4 hk;unfold aP;generalize Dq (mV t.vw t.wh t.qv t.qs t.qw) t=r2 at *;generalize (decide (1≤t.vw∧t.vw≤60)&&(Gi n f t.qv t.qs t.qw&&decide (0≤t.wh∧t.wh≤n-1)))=r1 at *;generalize decide (A_ n f)=b1 at *;obtain⟨w0,hw0,AO,LC,A,DC⟩:=Gb w #[.int .i64 n,.int .i64 f] 48 #[.int .i64 t.k,.int .i64 t.vw,.string t.bn,.int .i64 t.bv,.string t.bs,.slice ao t.bw.length ca,.int .i64 t.pv,.string t.ps,.slice bo t.pw.length cb,.int .i64 t.qv,.string t.qs,.slice co t.qw.length cc,.int .i64 t.wh,.int .i64 t.fr,.int .i64 t.tu,.int .i64 t.am,.int .i64 t.no] 75;go_enter Tryz.func149,Tryz.ntmps149
 go_wp2_with (first|(refine Ap A 75 _ rfl _ rfl rfl Tryz.underlying75 rfl (by kernel_rfl) ?_))
 clear hw0;refine(SA.out _).mono ?_;rintro _ w1 ⟨rfl,bb⟩;have AZ:=bu AO bb;have Cx:=bb.size;replace LC:=LC.up bb;replace A:=A.up bb;clear AO bb SA;cases b1
 ·have K:=kw (ka (Iu LC 0 1) (kL A));go_upto_region 2 with fail
  refine FC K (fun bA hHeld=>?_);refine tx 0 8 ?_;refine rd 1 rfl (fun KK AA=>?_);go_simp;have hgo:=bA;refine(CO.out _).mono ?_;rintro e Cq ⟨rfl,bb⟩;have Au:Below w1.heap.size w1 Cq:=bu bA bb;clear bA hgo bb hHeld;refine AA.out _ _ (K.out _ Au) (fun hHeld=>?_);clear AA KK;refine tx 2 10 ?_;refine sx 3 11 ?_;refine sx 4 12 ?_;refine tx 5 13 ?_;refine tx 6 14 ?_;refine sx 7 15 ?_;refine sx 8 16 ?_;refine sx 9 17 ?_;refine tx 10 18 ?_;refine tx 11 19 ?_;refine sx 12 20 ?_;refine sx 14 22 ?_;refine sx 13 21 ?_;refine sx 15 23 ?_;refine tx 16 24 ?_;refine tx 17 4 ?_;clear hHeld;refine Bw ?_;have bb:=Au;have F8:=bu AZ bb;have OH:=bb.size;replace LC:=LC.up bb;replace A:=A.up bb;clear AZ bb Au K;go_wp2;go_ret;exact⟨by simp,F8⟩
 cases r1
 ·have K:=kw (ka (Iu LC 0 1) (kL A));go_upto_region 2 with fail
  refine FC K (fun bA hHeld=>?_);refine tx 0 8 ?_;refine rd 1 rfl (fun KK AA=>?_);go_simp;have hgo:=bA;refine(CO.out _).mono ?_;rintro e Cq ⟨rfl,bb⟩;have Au:Below w1.heap.size w1 Cq:=bu bA bb;clear bA hgo bb hHeld;refine AA.out _ _ (K.out _ Au) (fun hHeld=>?_);clear AA KK;refine tx 2 10 ?_;refine tx 3 11 ?_;refine tx 4 12 ?_;refine tx 5 13 ?_;refine tx 6 14 ?_;refine tx 7 15 ?_;refine tx 8 16 ?_;refine rd 9 rfl (fun KK AA=>?_);go_simp;have hgo:=Au;refine(RT.out _ (HN.out (by trivial)) (HE.out.below (bu AZ hgo)) (hc1.out.below (bu AZ hgo))).mono ?_;rintro e Fs ⟨rfl,bb⟩;have BS:Below w1.heap.size w1 Fs:=bu Au bb;clear Au hgo bb hHeld;refine AA.out _ _ (K.out _ BS) (fun hHeld=>?_);clear AA KK;refine tx 10 18 ?_;refine tx 11 19 ?_;refine sx 12 20 ?_;refine sx 14 22 ?_;refine sx 13 21 ?_;refine sx 15 23 ?_;refine tx 16 24 ?_;refine tx 17 4 ?_;clear hHeld;refine Bw ?_;have bb:=BS;have Jz:=bu AZ bb;have XG:=bb.size;replace LC:=LC.up bb;replace A:=A.up bb;clear AZ bb BS K;go_wp2;go_ret;exact⟨by simp,Jz⟩
 have K:=kw (ka (Iu LC 0 1) (kL A));go_upto_region 2 with fail
 refine FC K (fun bA hHeld=>?_);refine tx 0 8 ?_;refine rd 1 rfl (fun KK AA=>?_);go_simp;have hgo:=bA;refine(CO.out _).mono ?_;rintro e Cq ⟨rfl,bb⟩;have Au:Below w1.heap.size w1 Cq:=bu bA bb;clear bA hgo bb hHeld;refine AA.out _ _ (K.out _ Au) (fun hHeld=>?_);clear AA KK;refine tx 2 10 ?_;refine tx 3 11 ?_;refine tx 4 12 ?_;refine tx 5 13 ?_;refine tx 6 14 ?_;refine tx 7 15 ?_;refine tx 8 16 ?_;refine rd 9 rfl (fun KK AA=>?_);go_simp;have hgo:=Au;refine(RT.out _ (HN.out (by trivial)) (HE.out.below (bu AZ hgo)) (hc1.out.below (bu AZ hgo))).mono ?_;rintro e Fs ⟨rfl,bb⟩;have BS:Below w1.heap.size w1 Fs:=bu Au bb;clear Au hgo bb hHeld;refine AA.out _ _ (K.out _ BS) (fun hHeld=>?_);clear AA KK;refine tx 10 18 ?_;refine tx 11 19 ?_;refine tx 12 20 ?_;refine take_at (i:=14) (d:=22) (v:= .agg #[.int .i64 t.k,.int .i64 t.vw,.string t.bn,.int .i64 t.bv,.string t.bs,.slice ao t.bw.length ca,.int .i64 t.pv,.string t.ps,.slice bo t.pw.length cb,.int .i64 t.qv,.string t.qs,.slice co t.qw.length cc,.int .i64 t.wh,.int .i64 t.fr,.int .i64 t.tu,.int .i64 t.am,.int .i64 t.no]) rfl rfl (by kernel_rfl) (by kernel_rfl) (by kernel_rfl) (fun _ _ _ h=>h) ?_ (by assumption) ?_
 ·exact Az rfl 75 _ rfl rfl _ (fun w h=>h.2.2) Tryz.underlying75 rfl (by kernel_rfl)
 simp only[pU];refine rd 13 rfl (fun KK AA=>?_);go_simp;have hgo:=BS;refine(MO.out _).mono ?_;rintro e Nc ⟨rfl,bb⟩;have Fq:Below w1.heap.size w1 Nc:=bu BS bb;clear BS hgo bb hHeld;refine AA.out _ _ (K.out _ Fq) (fun hHeld=>?_);clear AA KK;refine rd 15 rfl (fun KK AA=>?_);go_simp;have hgo:=Fq;refine(SM.out _ (HE.out.below (bu AZ hgo)).pow (Cj _) (Cj _) (hc1.out.below (bu AZ hgo)) (ha1.out.below (bu AZ hgo)) (hb1.out.below (bu AZ hgo)) (hc1.out.below (bu AZ hgo))).mono ?_;rintro e Nb ⟨rfl,bb⟩;have Sy:Below w1.heap.size w1 Nb:=bu Fq bb;clear Fq hgo bb hHeld;refine AA.out _ _ (K.out _ Sy) (fun hHeld=>?_);clear AA KK;refine tx 16 24 ?_;refine tx 17 4 ?_;clear hHeld;refine Bw ?_;have bb:=Sy;have Jy:=bu AZ bb;have XF:=bb.size;replace LC:=LC.up bb;replace A:=A.up bb;clear AZ bb Sy K;go_wp2;go_ret;exact⟨by simp,Jy⟩
theorem Vd(n f:Int)(t:MT)(ao bo co:Option Addr)(ca cb cc:Nat)(w:World)(hk:t.k=4)(hs:MH t)(hm:MI t)(hE:Env w)(ha:RI w (.slice ao t.bw.length ca) t.bw)(hb:RI w (.slice bo t.pw.length cb) t.pw)(hc:RI w (.slice co t.qw.length cc) t.qw):
 Calls Tryz.prog 149 #[cv n f,Dw t (.slice ao t.bw.length ca) (.slice bo t.pw.length cb) (.slice co t.qw.length cc)] w fun e w'=>e= .returned (.bool (decide (A_ n f)&&(aO t&&Dq (mX t.fr t.tu t.am t.no) t)))∧Below w.heap.size w w':=by
 obtain⟨s1,s2,s3,s4⟩:=hs;have SA:=hide fun w=>SQ t (.slice ao t.bw.length ca) (.slice bo t.pw.length cb) (.slice co t.qw.length cc) w hk;have CO:=hide fun w=>Cz n f w;have HN:Hid (decide (A_ n f)=true→IntKind.i64.wrap (n-1)=n-1):=hide fun h=>by rw[IntKind.wrap_i64]<;>(have:=of_decide_eq_true h;unfold A_ at this;omega)
 have RT:=hide fun w=>X5 n f t.fr t.tu t.am t.no w;have MO:=hide fun w=>Md t.fr t.tu t.am t.no w;have SM:=hide fun w hP h1 h2 h3 h4 h5 h6=>GY (mX t.fr t.tu t.am t.no) t .none .none .none ao bo co 0 0 0 ca cb cc w (MI.nul rfl rfl) hm hP h1 h2 h3 h4 h5 h6;have HE:=hide hE;have ha1:=hide ha;have hb1:=hide hb;have hc1:=hide hc;clear hE ha hb hc hm s1 s2 s3 s4 hk;unfold aO;generalize Dq (mX t.fr t.tu t.am t.no) t=r2 at *;generalize decide (BG t.fr t.tu t.am t.no)=r1 at *;generalize decide (A_ n f)=b1 at *;obtain⟨w0,hw0,AO,LC,A,DC⟩:=Gb w #[.int .i64 n,.int .i64 f] 48 #[.int .i64 t.k,.int .i64 t.vw,.string t.bn,.int .i64 t.bv,.string t.bs,.slice ao t.bw.length ca,.int .i64 t.pv,.string t.ps,.slice bo t.pw.length cb,.int .i64 t.qv,.string t.qs,.slice co t.qw.length cc,.int .i64 t.wh,.int .i64 t.fr,.int .i64 t.tu,.int .i64 t.am,.int .i64 t.no] 75;go_enter Tryz.func149,Tryz.ntmps149
 go_wp2_with (first|(refine Ap A 75 _ rfl _ rfl rfl Tryz.underlying75 rfl (by kernel_rfl) ?_))
 clear hw0;refine(SA.out _).mono ?_;rintro _ w1 ⟨rfl,bb⟩;have AZ:=bu AO bb;have Cx:=bb.size;replace LC:=LC.up bb;replace A:=A.up bb;clear AO bb SA;cases b1
 ·have K:=kw (ka (Iu LC 0 1) (kL A));go_upto_region 2 with fail
  refine FC K (fun bA hHeld=>?_);refine tx 0 8 ?_;refine rd 1 rfl (fun KK AA=>?_);go_simp;have hgo:=bA;refine(CO.out _).mono ?_;rintro e Cq ⟨rfl,bb⟩;have Au:Below w1.heap.size w1 Cq:=bu bA bb;clear bA hgo bb hHeld;refine AA.out _ _ (K.out _ Au) (fun hHeld=>?_);clear AA KK;refine tx 2 10 ?_;refine sx 3 11 ?_;refine sx 4 12 ?_;refine tx 5 13 ?_;refine tx 6 14 ?_;refine sx 7 15 ?_;refine sx 8 16 ?_;refine sx 9 17 ?_;refine tx 10 18 ?_;refine tx 11 19 ?_;refine sx 12 20 ?_;refine sx 14 22 ?_;refine sx 13 21 ?_;refine sx 15 23 ?_;refine tx 16 24 ?_;refine tx 17 4 ?_;clear hHeld;refine Bw ?_;have bb:=Au;have F8:=bu AZ bb;have OH:=bb.size;replace LC:=LC.up bb;replace A:=A.up bb;clear AZ bb Au K;go_wp2;go_ret;exact⟨by simp,F8⟩
 cases r1
 ·have K:=kw (ka (Iu LC 0 1) (kL A));go_upto_region 2 with fail
  refine FC K (fun bA hHeld=>?_);refine tx 0 8 ?_;refine rd 1 rfl (fun KK AA=>?_);go_simp;have hgo:=bA;refine(CO.out _).mono ?_;rintro e Cq ⟨rfl,bb⟩;have Au:Below w1.heap.size w1 Cq:=bu bA bb;clear bA hgo bb hHeld;refine AA.out _ _ (K.out _ Au) (fun hHeld=>?_);clear AA KK;refine tx 2 10 ?_;refine tx 3 11 ?_;refine tx 4 12 ?_;refine tx 5 13 ?_;refine tx 6 14 ?_;refine tx 7 15 ?_;refine tx 8 16 ?_;refine rd 9 rfl (fun KK AA=>?_);go_simp;have hgo:=Au;refine(RT.out _).mono ?_;rintro e Fs ⟨rfl,bb⟩;have BS:Below w1.heap.size w1 Fs:=bu Au bb;clear Au hgo bb hHeld;refine AA.out _ _ (K.out _ BS) (fun hHeld=>?_);clear AA KK;refine tx 10 18 ?_;refine tx 11 19 ?_;refine sx 12 20 ?_;refine sx 14 22 ?_;refine sx 13 21 ?_;refine sx 15 23 ?_;refine tx 16 24 ?_;refine tx 17 4 ?_;clear hHeld;refine Bw ?_;have bb:=BS;have Jz:=bu AZ bb;have XG:=bb.size;replace LC:=LC.up bb;replace A:=A.up bb;clear AZ bb BS K;go_wp2;go_ret;exact⟨by simp,Jz⟩
 have K:=kw (ka (Iu LC 0 1) (kL A));go_upto_region 2 with fail
 refine FC K (fun bA hHeld=>?_);refine tx 0 8 ?_;refine rd 1 rfl (fun KK AA=>?_);go_simp;have hgo:=bA;refine(CO.out _).mono ?_;rintro e Cq ⟨rfl,bb⟩;have Au:Below w1.heap.size w1 Cq:=bu bA bb;clear bA hgo bb hHeld;refine AA.out _ _ (K.out _ Au) (fun hHeld=>?_);clear AA KK;refine tx 2 10 ?_;refine tx 3 11 ?_;refine tx 4 12 ?_;refine tx 5 13 ?_;refine tx 6 14 ?_;refine tx 7 15 ?_;refine tx 8 16 ?_;refine rd 9 rfl (fun KK AA=>?_);go_simp;have hgo:=Au;refine(RT.out _).mono ?_;rintro e Fs ⟨rfl,bb⟩;have BS:Below w1.heap.size w1 Fs:=bu Au bb;clear Au hgo bb hHeld;refine AA.out _ _ (K.out _ BS) (fun hHeld=>?_);clear AA KK;refine tx 10 18 ?_;refine tx 11 19 ?_;refine tx 12 20 ?_;refine take_at (i:=14) (d:=22) (v:= .agg #[.int .i64 t.k,.int .i64 t.vw,.string t.bn,.int .i64 t.bv,.string t.bs,.slice ao t.bw.length ca,.int .i64 t.pv,.string t.ps,.slice bo t.pw.length cb,.int .i64 t.qv,.string t.qs,.slice co t.qw.length cc,.int .i64 t.wh,.int .i64 t.fr,.int .i64 t.tu,.int .i64 t.am,.int .i64 t.no]) rfl rfl (by kernel_rfl) (by kernel_rfl) (by kernel_rfl) (fun _ _ _ h=>h) ?_ (by assumption) ?_
 ·exact Az rfl 75 _ rfl rfl _ (fun w h=>h.2.2) Tryz.underlying75 rfl (by kernel_rfl)
 simp only[pU];refine rd 13 rfl (fun KK AA=>?_);go_simp;have hgo:=BS;refine(MO.out _).mono ?_;rintro e Nc ⟨rfl,bb⟩;have Fq:Below w1.heap.size w1 Nc:=bu BS bb;clear BS hgo bb hHeld;refine AA.out _ _ (K.out _ Fq) (fun hHeld=>?_);clear AA KK;refine rd 15 rfl (fun KK AA=>?_);go_simp;have hgo:=Fq;refine(SM.out _ (HE.out.below (bu AZ hgo)).pow (Cj _) (Cj _) (Cj _) (ha1.out.below (bu AZ hgo)) (hb1.out.below (bu AZ hgo)) (hc1.out.below (bu AZ hgo))).mono ?_;rintro e Nb ⟨rfl,bb⟩;have Sy:Below w1.heap.size w1 Nb:=bu Fq bb;clear Fq hgo bb hHeld;refine AA.out _ _ (K.out _ Sy) (fun hHeld=>?_);clear AA KK;refine tx 16 24 ?_;refine tx 17 4 ?_;clear hHeld;refine Bw ?_;have bb:=Sy;have Jy:=bu AZ bb;have XF:=bb.size;replace LC:=LC.up bb;replace A:=A.up bb;clear AZ bb Sy K;go_wp2;go_ret;exact⟨by simp,Jy⟩
theorem Vh(n f:Int)(t:MT)(ao bo co:Option Addr)(ca cb cc:Nat)(w:World)(h1:¬t.k=1)(h2:¬t.k=2)(h3:¬t.k=3)(h4:¬t.k=4)(hs:MH t)(hm:MI t)(hE:Env w)(ha:RI w (.slice ao t.bw.length ca) t.bw)(hb:RI w (.slice bo t.pw.length cb) t.pw)(hc:RI w (.slice co t.qw.length cc) t.qw):
 Calls Tryz.prog 149 #[cv n f,Dw t (.slice ao t.bw.length ca) (.slice bo t.pw.length cb) (.slice co t.qw.length cc)] w fun e w'=>e= .returned (.bool (decide (A_ n f)&&false))∧Below w.heap.size w w':=by
 obtain⟨s1,s2,s3,s4⟩:=hs;have SA:=hide fun w=>Sa t (.slice ao t.bw.length ca) (.slice bo t.pw.length cb) (.slice co t.qw.length cc) w h1 h2 h3 h4;have CO:=hide fun w=>Cz n f w;have HE:=hide hE;have ha1:=hide ha;have hb1:=hide hb;have hc1:=hide hc;clear hE ha hb hc hm s1 s2 s3 s4;generalize decide (A_ n f)=b1 at *;obtain⟨w0,hw0,AO,LC,A,DC⟩:=Gb w #[.int .i64 n,.int .i64 f] 48 #[.int .i64 t.k,.int .i64 t.vw,.string t.bn,.int .i64 t.bv,.string t.bs,.slice ao t.bw.length ca,.int .i64 t.pv,.string t.ps,.slice bo t.pw.length cb,.int .i64 t.qv,.string t.qs,.slice co t.qw.length cc,.int .i64 t.wh,.int .i64 t.fr,.int .i64 t.tu,.int .i64 t.am,.int .i64 t.no] 75;go_enter Tryz.func149,Tryz.ntmps149
 go_wp2_with (first|(refine Ap A 75 _ rfl _ rfl rfl Tryz.underlying75 rfl (by kernel_rfl) ?_))
 clear hw0;refine(SA.out _).mono ?_;rintro _ w1 ⟨rfl,bb⟩;have AZ:=bu AO bb;have Cx:=bb.size;replace LC:=LC.up bb;replace A:=A.up bb;clear AO bb SA;cases b1
 ·have K:=kw (ka (Iu LC 0 1) (kL A));go_upto_region 2 with fail
  refine FC K (fun bA hHeld=>?_);refine tx 0 8 ?_;refine rd 1 rfl (fun KK AA=>?_);go_simp;have hgo:=bA;refine(CO.out _).mono ?_;rintro e Cq ⟨rfl,bb⟩;have Au:Below w1.heap.size w1 Cq:=bu bA bb;clear bA hgo bb hHeld;refine AA.out _ _ (K.out _ Au) (fun hHeld=>?_);clear AA KK;refine tx 2 10 ?_;refine sx 3 11 ?_;refine sx 4 12 ?_;refine tx 5 13 ?_;refine tx 6 14 ?_;refine sx 7 15 ?_;refine sx 8 16 ?_;refine sx 9 17 ?_;refine tx 10 18 ?_;refine tx 11 19 ?_;refine sx 12 20 ?_;refine sx 14 22 ?_;refine sx 13 21 ?_;refine sx 15 23 ?_;refine tx 16 24 ?_;refine tx 17 4 ?_;clear hHeld;refine Bw ?_;have bb:=Au;have F8:=bu AZ bb;have OH:=bb.size;replace LC:=LC.up bb;replace A:=A.up bb;clear AZ bb Au K;go_wp2;go_ret;exact⟨by simp,F8⟩
 have K:=kw (ka (Iu LC 0 1) (kL A));go_upto_region 2 with fail
 refine FC K (fun bA hHeld=>?_);refine tx 0 8 ?_;refine rd 1 rfl (fun KK AA=>?_);go_simp;have hgo:=bA;refine(CO.out _).mono ?_;rintro e Cq ⟨rfl,bb⟩;have Au:Below w1.heap.size w1 Cq:=bu bA bb;clear bA hgo bb hHeld;refine AA.out _ _ (K.out _ Au) (fun hHeld=>?_);clear AA KK;refine tx 2 10 ?_;refine tx 3 11 ?_;refine tx 4 12 ?_;refine tx 5 13 ?_;refine tx 6 14 ?_;refine sx 7 15 ?_;refine sx 8 16 ?_;refine sx 9 17 ?_;refine tx 10 18 ?_;refine tx 11 19 ?_;refine sx 12 20 ?_;refine sx 14 22 ?_;refine sx 13 21 ?_;refine sx 15 23 ?_;refine tx 16 24 ?_;refine tx 17 4 ?_;clear hHeld;refine Bw ?_;have bb:=Au;have F8:=bu AZ bb;have OH:=bb.size;replace LC:=LC.up bb;replace A:=A.up bb;clear AZ bb Au K;go_wp2;go_ret;exact⟨by simp,F8⟩
theorem di(n f:Int)(t:MT)(ao bo co:Option Addr)(ca cb cc:Nat)(w:World)(hs:MH t)(hm:MI t)(hE:Env w)(ha:RI w (.slice ao t.bw.length ca) t.bw)(hb:RI w (.slice bo t.pw.length cb) t.pw)(hc:RI w (.slice co t.qw.length cc) t.qw):
 Calls Tryz.prog 149 #[cv n f,Dw t (.slice ao t.bw.length ca) (.slice bo t.pw.length cb) (.slice co t.qw.length cc)] w fun e w'=>e= .returned (.bool (Ox n f t))∧Below w.heap.size w w':=by
 unfold Ox J7;rcases kinds t.k with h|h|h|h|⟨h1,h2,h3,h4⟩
 ·rw[vZ h,wK h,rJ h,Bool.and_comm (Dq _ _)];exact Vg n f t ao bo co ca cb cc w h hs hm hE ha hb hc
 ·rw[vY h,wJ h,rH h,Bool.and_comm (Dq _ _)];exact Vf n f t ao bo co ca cb cc w h hs hm hE ha hb hc
 ·rw[vX h,wI h,rG h,Bool.and_comm (Dq _ _)];exact Ve n f t ao bo co ca cb cc w h hs hm hE ha hb hc
 ·rw[vW h,wH h,rF h,Bool.and_comm (Dq _ _)];exact Vd n f t ao bo co ca cb cc w h hs hm hE ha hb hc
 rw[ve h1 h2 h3 h4,Bool.and_false];exact Vh n f t ao bo co ca cb cc w h1 h2 h3 h4 hs hm hE ha hb hc
end
section
open Go.RowKit
variable [∀(n:Int)(s:List Int),Decidable (Dv n s)]
theorem Yb(x y:Int)(w:World):Calls Tryz.prog 212 #[.int .i64 x,.int .i64 y] w fun e w'=>e= .returned (.int .i64 (E8 x y))∧Below w.heap.size w w':=
 (eZ x y w).mono fun _ _ h=>⟨h.1,h.2▸Below.refl _ _⟩
theorem Ya(s t:ByteArray)(w:World):Calls Tryz.prog 214 #[.string s,.string t] w fun e w'=>e= .returned (.int .i64 (QP s t))∧Below w.heap.size w w':=
 (eU s t w).mono fun _ _ h=>⟨h.1,h.2▸Below.refl _ _⟩
theorem Lb(m n:Int)(s t:ByteArray)(u v:Value)(xs ys:List Int)(w:World):
 Calls Tryz.prog 183 #[qv m s u,qv n t v] w fun e w'=>e= .returned (.int .i64 (V6 (m,s,xs) (n,t,ys)))∧Below w.heap.size w w':=by
 have OR:Hid (∀g w,w.cell? ⟨g,0,none⟩=some (.int .i64 (E8 m n))→w.cell? ⟨g,1,none⟩=some (.int .i64 (QP s t))→Calls Tryz.prog 211 #[.slice (some ⟨g,0,none⟩) 2 2] w fun e w'=>e= .returned (.int .i64 (V6 (m,s,xs) (n,t,ys)))∧Below w.heap.size w w'):=
  hide fun g w h0 h1=>(iL (E8 m n) (QP s t) g w h0 h1).mono fun _ _ h=>⟨h.1,h.2▸Below.refl _ _⟩
 generalize V6 (m,s,xs) (n,t,ys)=q at *;obtain⟨w0,hw0,AO,LX,LY,_⟩:=Gb w #[.int .i64 m,.string s,u] 72 #[.int .i64 n,.string t,v] 72;go_enter Tryz.func183,Tryz.ntmps183
 have K:=kw (ka (VS LX 0 1 2) (VS LY 0 1 2));go_upto_region 1 with fail
 clear hw0;refine FC K (fun bA hHeld=>?_);refine tx 0 5 ?_;refine tx 2 7 ?_;refine tx 5 10 ?_;refine tx 7 12 ?_;refine tx 1 6 ?_;refine tx 3 8 ?_;refine tx 6 11 ?_;refine tx 8 13 ?_;refine rd 4 rfl (fun KK AA=>?_);go_simp;have hgo:=bA;refine(Yb m n _).mono ?_;rintro e Dc ⟨rfl,bb⟩;have Au:Below w0.heap.size w0 Dc:=bu bA bb;clear bA hgo bb hHeld;refine AA.out _ _ (K.out _ Au) (fun hHeld=>?_);clear AA KK;refine rd 9 rfl (fun KK AA=>?_);go_simp;have hgo:=Au;refine(Ya s t _).mono ?_;rintro e ED ⟨rfl,bb⟩;have BS:Below w0.heap.size w0 ED:=bu Au bb;clear Au hgo bb hHeld;refine AA.out _ _ (K.out _ BS) (fun hHeld=>?_);clear AA KK;refine rd 10 rfl (fun KK AA=>?_);go_simp;obtain⟨JO,Sb⟩:∃x,(ED).alloc (.cells #[.int .i64 (E8 m n),.int .i64 (QP s t)] 3)=x:=⟨_,rfl⟩
 have Fq:Below w0.heap.size w0 JO:=Sb▸BS.alloc BS.size _;have LE:Loc JO (ED).heap.size #[.int .i64 (E8 m n),.int .i64 (QP s t)]:=Sb▸AJ (ED) _ _ rfl;rw[Sb];clear BS Sb hHeld;refine AA.out _ _ (K.out _ Fq) (fun hHeld=>?_);clear AA KK;refine rd 11 rfl (fun KK AA=>?_);go_simp;have hgo:=Fq;refine(OR.out _ _ (LE.cell 0 rfl) (LE.cell 1 rfl)).mono ?_;rintro e uL ⟨rfl,bb⟩;have Sy:Below w0.heap.size w0 uL:=bu Fq bb;replace LE:=LE.up bb;clear Fq hgo bb hHeld;refine AA.out _ _ (K.out _ Sy) (fun hHeld=>?_);clear AA KK;refine tx 12 4 ?_;clear hHeld;refine Bw ?_;have bb:=Sy;have tF:=bu AO bb;have zw:=bb.size;replace LX:=LX.up bb;replace LY:=LY.up bb;clear AO bb Sy K;go_wp2;go_ret;exact⟨rfl,tF⟩
end
section
open Go.RowKit
variable [∀(n:Int)(s:List Int),Decidable (Dv n s)] [∀(a b c d:Int),Decidable (BG a b c d)] [∀(n f:Int),Decidable (A_ n f)] [∀(a b c d:Nat),Decidable (DZ a b c d)] [∀(last:Int)(s:St),Decidable (Aq last s)] [∀(x:T4),Decidable (Du x)]
theorem Tg(v:Value)(ps:List Pt)(w:World)(hl:ps.length≤4194304)(h:NY w v ps):
 Calls Tryz.prog 147 #[.agg #[v,.func (.func 183) #[] #[]]] w fun e w'=>e= .returned (.bool (rowP ps))∧Below w.heap.size w w':=by
 obtain⟨ao,ca,rfl⟩:=h.form;have H:=hide h;obtain⟨n,hn⟩:∃n,ps.length=n:=⟨_,rfl⟩
 have Hn:=hide hn;have HI:=hide (row_iff ps);rw[hn]at hl H⊢;clear h hn;generalize rowP ps=rb at *;obtain⟨w0,hw0⟩:∃y,w.alloc (.cells #[.slice ao n ca,.func (.func 183) #[] #[]] 186)=y:=⟨_,rfl⟩
 have B0:Below w.heap.size w w0:=hw0▸Aj _ _;have L0:Loc w0 w.heap.size #[.slice ao n ca,.func (.func 183) #[] #[]]:=hw0▸AJ w _ _ rfl;go_enter Tryz.func147,Tryz.ntmps147
 go_wp2;clear hw0
 go_loopw [3] (fun i wr=>∃m:Nat,1≤m∧m≤n+1∧i= .int .i64 m∧Hid (∀j,j+1<m→j+1<n→GG (ps.getD j BI) (ps.getD (j+1) BI)=true)∧Loc wr w.heap.size #[.slice ao n ca,.func (.func 183) #[] #[]]∧Below w.heap.size w wr) (fun i _=>n+1-(intOf i).toNat)
 case atStart=>exact⟨1,Nat.le_refl _,by omega,by go_num,hide (fun j hj=>absurd hj (by omega)),L0,B0⟩
 case round=>
  clear L0 B0;obtain⟨m,hm1,hm,rfl,HA,L,br⟩:=hrel;have q0:=L.cell 0 rfl;have q1:=L.cell 1 rfl;by_cases hlt:m<n
  ·obtain⟨k,hk⟩:∃k,m=k+1:=⟨m-1,by omega⟩
   have hk1:(m:Int)-1=(k:Int):=by omega
   have hwk:IntKind.i64.wrap (k:Int)=(k:Int):=by rw[IntKind.wrap_i64];omega
   have hkn:k<n:=by omega
   have HR:=H.out.below br;obtain⟨g,off,u,rfl,c0,c1,c2,ru⟩:=HR.at k (by rw[Hn.out];omega);obtain⟨g',off',u',e,d0,d1,d2,ow⟩:=HR.at m (by rw[Hn.out];omega);cases e
   obtain⟨xc,xe,rfl⟩:=ru.form;obtain⟨yc,ye,rfl⟩:=ow.form;have CT:=hide fun w=>Lb (ps.getD k BI).1 (ps.getD m BI).1 (ps.getD k BI).2.1 (ps.getD m BI).2.1 (.slice xc (ps.getD k BI).2.2.length xe) (.slice yc (ps.getD m BI).2.2.length ye) (ps.getD k BI).2.2 (ps.getD m BI).2.2 w
   have HS:=hide fun(h:GG (ps.getD k BI) (ps.getD m BI)=true)=>(show∀j,j+1<m+1→j+1<n→GG (ps.getD j BI) (ps.getD (j+1) BI)=true from fun j hj hj2=>by
    by_cases e:j=k
    ·rw[e,←hk];exact h
    exact HA.out j (by omega) hj2)
   have HN:Hid (¬GG (ps.getD k BI) (ps.getD m BI)=true→rb=false):=hide fun h=>by
    cases hrb:rb with
    |false=>rfl
    |true=>exact absurd (by have:=HI.out.1 hrb k (by rw[Hn.out];omega);rwa [←hk]at this) h
   have hcm:=hide (nU (ps.getD k BI) (ps.getD m BI));have xC:V6 ((ps.getD k BI).1,(ps.getD k BI).2.1,(ps.getD k BI).2.2) ((ps.getD m BI).1,(ps.getD m BI).2.1,(ps.getD m BI).2.2)=V6 (ps.getD k BI) (ps.getD m BI):=rfl;rw[xC]at CT;clear HA HR ru ow xC;generalize V6 (ps.getD k BI) (ps.getD m BI)=q at *;generalize GG (ps.getD k BI) (ps.getD m BI)=BF at *;generalize (ps.getD k BI).1=xa at *;generalize (ps.getD k BI).2.1=xb at *;generalize (ps.getD k BI).2.2.length=xd at *;generalize (ps.getD m BI).1=ya at *;generalize (ps.getD m BI).2.1=yb at *;generalize (ps.getD m BI).2.2.length=yd at *;have lg:=AQ c0
   have K:Hid (∀w',Below wr.heap.size wr w'→(fun w'=>(w'.cell? ⟨w.heap.size,0,none⟩=some (.slice (some ⟨g,off,none⟩) n ca)∧w'.cell? ⟨w.heap.size,1,none⟩=some (.func (.func 183) #[] #[]))∧(w'.cell? ⟨g,off+k*3,none⟩=some (.int .i64 xa)∧w'.cell? ⟨g,off+k*3+1,none⟩=some (.string xb)∧w'.cell? ⟨g,off+k*3+2,none⟩=some (.slice xc xd xe))∧(w'.cell? ⟨g,off+m*3,none⟩=some (.int .i64 ya)∧w'.cell? ⟨g,off+m*3+1,none⟩=some (.string yb)∧w'.cell? ⟨g,off+m*3+2,none⟩=some (.slice yc yd ye))) w'):=hide fun w' hb=>by
    have l:=L.up hb;exact⟨⟨l.cell 0 rfl,l.cell 1 rfl⟩,⟨(hb.cell (p:=⟨g,off+k*3,none⟩) lg).trans c0,(hb.cell (p:=⟨g,off+k*3+1,none⟩) lg).trans c1,(hb.cell (p:=⟨g,off+k*3+2,none⟩) lg).trans c2⟩,⟨(hb.cell (p:=⟨g,off+m*3,none⟩) lg).trans d0,(hb.cell (p:=⟨g,off+m*3+1,none⟩) lg).trans d1,(hb.cell (p:=⟨g,off+m*3+2,none⟩) lg).trans d2⟩⟩
   have bA:Below wr.heap.size wr wr.drew:=Below.drew (Below.refl _ _);replace hk:=hide hk;clear c0 c1 c2 d0 d1 d2;go_upto_region 4 with fail
   refine kC K bA (fun hHeld=>?_);refine tx 0 11 ?_;refine tx 1 12 ?_;refine tx 2 13 ?_;refine tx 3 14 ?_;refine tx 4 15 ?_;refine tx 5 16 ?_;refine tx 6 17 ?_;refine tx 7 18 ?_;refine tx 8 19 ?_;refine tx 9 20 ?_;refine tx 10 21 ?_;refine tx 11 22 ?_;refine tx 12 23 ?_;refine rd 13 rfl (fun KK AA=>?_);go_simp;refine(CT.out _).mono ?_;rintro _ wa ⟨rfl,ba⟩;have bB:Below wr.heap.size wr wa:=bu bA ba;clear hHeld;refine AA.out _ _ (K.out _ bB) (fun hHeld=>?_);clear AA KK;refine tx 14 25 ?_;clear hHeld;refine Bw ?_;have LB:=L.up bB;have BB:=bu br bB;by_cases hq:q<0
   ·have HM:=hide (HS.out (hcm.out.1 hq));have hqd:decide (q≥0)=false:=by simp;omega
    clear HS HN hcm;go_wp2
    go_roundw
    case rel=>exact⟨m+1,by omega,by omega,by go_num,HM,LB,BB⟩
    case measure=>simp[intOf];omega
   have HM:=HN.out (fun h=>hq (hcm.out.2 h));have hqd:decide (q≥0)=true:=by simp;omega
   clear HS HN hcm;go_wp2;go_ret;exact⟨rfl,BB⟩
  have HM:rb=true:=HI.out.2 (fun j hj=>by have:=Hn.out;exact HA.out j (by omega) (by omega));have hd2:decide ((m:Int)<(n:Int))=false:=by simp;omega
  clear HA H;go_wp2;go_ret;exact⟨by rw[HM];rfl,br⟩
theorem VC(n f m:Int)(s:ByteArray)(u:Value)(xs:List Int)(g:Nat)(w:World)(hs:s.size≤33554432)(hE:Env w)(hu:RI w u xs)(hg:Loc w g #[.int .i64 n,.int .i64 f]):
 Calls Tryz.prog 143 #[qv m s u,.pointer (some ⟨g,0,none⟩)] w fun e w'=>e= .returned (.bool (!DY n f m s xs))∧Below w.heap.size w w':=by
 obtain⟨ua,uc,rfl⟩:=hu.form;obtain⟨ul,hul⟩:∃l,xs.length=l:=⟨_,rfl⟩
 obtain⟨w0,hw0⟩:∃y,w.alloc (.cells #[.int .i64 m,.string s,.slice ua xs.length uc] 72)=y:=⟨_,rfl⟩
 have B0:Below w.heap.size w w0:=hw0▸Aj _ _;have L0:Loc w0 w.heap.size #[.int .i64 m,.string s,.slice ua xs.length uc]:=hw0▸AJ w _ _ rfl;have LG:=hg.up B0;have PO:=hide (PE n f m s (.slice ua xs.length uc) xs w0 hs (hE.below B0) (hu.below B0));rw[hul]at L0 PO hw0⊢;have a0:=L0.cell 0 rfl;have a1:=L0.cell 1 rfl;have a2:=L0.cell 2 rfl;have c0:=LG.cell 0 rfl;have c1:=LG.cell 1 rfl;generalize DY n f m s xs=b at *;clear L0 LG hg hu hE hul;go_enter Tryz.func143,Tryz.ntmps143
 go_wp2_with fail
 clear hw0;refine PO.out.mono ?_;rintro e w2 ⟨rfl,b2⟩;have B2:=bu B0 b2;go_wp2;go_ret;exact⟨rfl,B2⟩

theorem jk{n f:Int}{ps:List Pt}{k:Nat}(hk:k<ps.length)(h:(ps.take k).all (fun p=>DY n f p.1 p.2.1 p.2.2)=true)(h1:DY n f (ps.getD k BI).1 (ps.getD k BI).2.1 (ps.getD k BI).2.2=true):(ps.take (k+1)).all (fun p=>DY n f p.1 p.2.1 p.2.2)=true:=by
 have e:ps.take (k+1)=ps.take k++[ps.getD k BI]:=by
  rw[List.take_succ_eq_append_getElem hk];simp[List.getElem?_eq_getElem hk]
 rw[e,List.all_append,h,List.all_cons,h1];rfl
theorem oO{n f:Int}{ps:List Pt}{k:Nat}(hk:k<ps.length)(h1:DY n f (ps.getD k BI).1 (ps.getD k BI).2.1 (ps.getD k BI).2.2=false):ps.all (fun p=>DY n f p.1 p.2.1 p.2.2)=false:=by
 cases e:ps.all (fun p=>DY n f p.1 p.2.1 p.2.2)with
 |false=>rfl
 |true=>rw[List.all_eq_true]at e;have:=e _ (Jg hk);rw[h1]at this;cases this

theorem iy(n f:Int)(v:Value)(ps:List Pt)(g:Nat)(w:World)(hl:ps.length≤4194304)(hs:∀p ∈ ps,p.2.1.size≤33554432)(hE:Env w)(h:NY w v ps)(hg:Loc w g #[.int .i64 n,.int .i64 f]):
 Calls Tryz.prog 182 #[v,.func (.func 143) #[] #[.pointer (some ⟨g,0,none⟩)]] w fun e w'=>∃q:Int,e= .returned (.int .i64 q)∧decide (q≥0)=!(ps.all fun p=>DY n f p.1 p.2.1 p.2.2)∧Below w.heap.size w w':=by
 obtain⟨ao,ca,rfl⟩:=h.form;obtain⟨len,hn⟩:∃n,ps.length=n:=⟨_,rfl⟩
 have Hn:=hide hn;have H:=hide h;rw[hn]at hl H⊢;have HS:=hide hs;have HG:=hide hg;have HE:=hide hE;clear h hn hg hs hE;go_enter Tryz.func182,Tryz.ntmps182
 go_wp2
 go_loopw [8] (fun j wr=>∃k:Nat,k≤len∧j= .int .i64 k∧Hid ((ps.take k).all (fun p=>DY n f p.1 p.2.1 p.2.2)=true)∧Below w.heap.size w wr) (fun j _=>len-(intOf j).toNat)
 case atStart=>exact⟨0,Nat.zero_le _,rfl,hide (by simp),Below.refl _ _⟩
 case round=>
  obtain⟨k,hk,rfl,HK,br⟩:=hrel;by_cases hlt:k<len
  ·have hkx:k<ps.length:=by rw[Hn.out];exact hlt
   obtain⟨b,off,u,rfl,c0,c1,c2,ru⟩:=(H.out.below br).at k hkx;have GC:=hide (VC n f (ps.getD k BI).1 (ps.getD k BI).2.1 u (ps.getD k BI).2.2 g wr (HS.out _ (Jg hkx)) (HE.out.below br) ru (HG.out.below br HG.out.lt));have HF:=hide fun h1=>oO (n:=n) (f:=f) hkx h1;have HM:=hide fun h1=>jk (n:=n) (f:=f) hkx HK.out h1;obtain⟨ua,uc,rfl⟩:=ru.form;clear ru HK H;generalize DY n f (ps.getD k BI).1 (ps.getD k BI).2.1 (ps.getD k BI).2.2=pb at *;generalize (ps.getD k BI).1=m at *;generalize (ps.getD k BI).2.1=s at *;generalize (ps.getD k BI).2.2.length=xl at *;cases pb with
   |false=>
    have F:=hide (HF.out rfl);clear HF HM;go_wp2_with fail
    refine GC.out.mono ?_;rintro _ w2 ⟨rfl,b2⟩;go_wp2;go_ret;exact⟨k,rfl,by rw[F.out];simp,bu br b2⟩
   |true=>
    have F:=hide (HM.out rfl);clear HF HM;go_wp2_with fail
    refine GC.out.mono ?_;rintro _ w2 ⟨rfl,b2⟩;go_wp2
    go_roundw
    case rel=>exact⟨k+1,by omega,by go_num,F,bu br b2⟩
    case measure=>simp[intOf];omega
  have hkn:ps.take k=ps:=List.take_of_length_le (by have:=Hn.out;omega);have h0:=HK.out;rw[hkn]at h0;have F:=hide h0;have hd2:decide ((k:Int)<(len:Int))=false:=by simp;omega
  clear HK h0 hkn H;go_wp2;go_ret;exact⟨-1,rfl,by rw[F.out];simp,br⟩

theorem V4(n f:Int)(v:Value)(ps:List Pt)(g:Nat)(w:World)(hl:ps.length≤4194304)(hs:∀p ∈ ps,p.2.1.size≤33554432)(hE:Env w)(h:NY w v ps)(hg:Loc w g #[.int .i64 n,.int .i64 f]):
 Calls Tryz.prog 145 #[v,.func (.func 143) #[] #[.pointer (some ⟨g,0,none⟩)]] w fun e w'=>e= .returned (.bool (!(ps.all fun p=>DY n f p.1 p.2.1 p.2.2)))∧Below w.heap.size w w':=by
 have IX:=hide (iy n f v ps g w hl hs hE h hg);obtain⟨ao,ca,rfl⟩:=h.form;generalize ps.length=len at *;generalize (ps.all fun p=>DY n f p.1 p.2.1 p.2.2)=b at *;clear h hg hE hs;go_enter Tryz.func145,Tryz.ntmps145
 go_wp2_with fail
 refine IX.out.mono ?_;rintro e w2 ⟨q,rfl,hq,b2⟩;go_wp2;go_ret;exact⟨by rw[←hq];rfl,b2⟩

theorem lD(n f:Int)(ps:List Pt):Jb n f ps=(decide ((ps.length:Int)≤20)&&((ps.all fun p=>DY n f p.1 p.2.1 p.2.2)&&rowP ps)):=by
 unfold Jb;have:decide (ps.length≤20)=decide ((ps.length:Int)≤20):=by rw[decide_eq_decide];omega
 rw[this,Bool.and_comm]

theorem VZ(n f:Int)(v:Value)(ps:List Pt)(w:World)(hl:ps.length≤4194304)(hs:∀p ∈ ps,p.2.1.size≤33554432)(hE:Env w)(h:NY w v ps):
 Calls Tryz.prog 99 #[cv n f,v] w fun e w'=>e= .returned (.bool (Jb n f ps))∧Below w.heap.size w w':=by
 rw[lD];obtain⟨ao,ca,rfl⟩:=h.form;obtain⟨w0,hw0⟩:∃y,w.alloc (.cells #[.int .i64 n,.int .i64 f] 48)=y:=⟨_,rfl⟩
 have B0:Below w.heap.size w w0:=hw0▸Aj _ _;have L0:Loc w0 w.heap.size #[.int .i64 n,.int .i64 f]:=hw0▸AJ w _ _ rfl;have CN:=hide (V4 n f (.slice ao ps.length ca) ps w.heap.size w0 hl hs (hE.below B0) (h.below B0) L0);have AS:=hide fun w h=>Tg (.slice ao ps.length ca) ps w hl h;have TO:=hide fun w=>UQ ao ps.length ca w;have HR:=hide fun w'(hb:Below w.heap.size w w')=>h.below hb;generalize ps.length=len at *;generalize (ps.all fun p=>DY n f p.1 p.2.1 p.2.2)=b at *;generalize rowP ps=r at *;clear h hE hs L0;by_cases h20:(len:Int)≤20
 ·have hd:decide ((len:Int)≤20)=true:=by simpa using h20
  rw[hd,Bool.true_and];cases b with
  |false=>
   rw[Bool.false_and];go_enter Tryz.func99,Tryz.ntmps99
   go_wp2_with fail
   clear hw0;refine CN.out.mono ?_;rintro e w1 ⟨rfl,b1⟩;have B1:=bu B0 b1;go_wp2;go_ret;exact⟨rfl,B1⟩
  |true=>
   rw[Bool.true_and];go_enter Tryz.func99,Tryz.ntmps99
   go_wp2_with fail
   clear hw0;refine CN.out.mono ?_;rintro e w1 ⟨rfl,b1⟩;have B1:=bu B0 b1;clear b1 CN;go_wp2_with fail
   refine(TO.out _).mono ?_;rintro e w2 ⟨rfl,b2⟩;have B2:=bu B1 b2;clear b2 TO;go_wp2_with fail
   refine(AS.out _ (HR.out _ B2)).mono ?_;rintro e w3 ⟨rfl,b3⟩;have B3:=bu B2 b3;go_wp2;go_ret;exact⟨rfl,B3⟩
 have hd:decide ((len:Int)≤20)=false:=by simpa using h20
 rw[hd,Bool.false_and];go_enter Tryz.func99,Tryz.ntmps99
 go_wp2;go_ret;exact⟨rfl,B0⟩
end
end Go.Proofs.YtcjmcgolgbkknaaGreatDoor
