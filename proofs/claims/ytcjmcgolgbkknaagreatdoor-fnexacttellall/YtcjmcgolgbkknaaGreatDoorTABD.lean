/- Lemmas, as stated. -/
import Derived.Test.YtcjmcgolgbkknaaGreatDoorTABC
set_option maxRecDepth 100000
set_option maxHeartbeats 16000000
set_option linter.unusedSectionVars false
set_option linter.unusedSimpArgs false
namespace Go.Proofs.YtcjmcgolgbkknaaGreatDoor
section
open Go Go.RowKit
variable [∀(a b c d:Int),Decidable (BG a b c d)] [∀(n f:Int),Decidable (A_ n f)] [∀(a b c d:Nat),Decidable (DZ a b c d)] [∀(x:T4),Decidable (Du x)] [∀(last:Int)(s:St),Decidable (Aq last s)] [∀(n:Int)(s:List Int),Decidable (Dv n s)] [∀(x y:T4),Decidable (Gs x y)] [∀(ts:List T4),Decidable (Asc ts)] [∀(ts:List T4),Decidable (DU ts)] [∀(ts:List T4),Decidable (JM ts)]
theorem VB(n f id m:Int)(u:MT)(oa ob oc:Option Addr)(ka kb kc gc gr:Nat)(x1 x2 x3 x4 x5 x6 x7 x8 x9 kQ kP kM kK:Value)(w:World)(hs:MH u)(hi:MI u)(ES:IntKind.i64.wrap (n-1)=n-1)(hE:Env w)(ra:RI w (.slice oa u.bw.length ka) u.bw)(rb:RI w (.slice ob u.pw.length kb) u.pw)(rc:RI w (.slice oc u.qw.length kc) u.qw)(hg:Loc w gc #[.int .i64 n,.int .i64 f])(hr:Loc w gr #[.int .i64 id,x1,x2,x3,x4,x5,x6,x7,x8,x9,kQ,kP,kM,kK]):
 Calls Tryz.prog 148 #[Ma m u (.slice oa u.bw.length ka) (.slice ob u.pw.length kb) (.slice oc u.qw.length kc),.pointer (some ⟨gc,0,none⟩),.pointer (some ⟨gr,0,none⟩)] w fun e w'=>e= .returned (.bool (!LF n f id (m,u)))∧Below w.heap.size w w':=by
 have I4:=hide fun w=>De m 0 (n-1) w;have MO:=hide fun w he h1 h2 h3=>di n f u oa ob oc ka kb kc w hs hi he h1 h2 h3;have HE:=hide hE;have H1:=hide ra;have H2:=hide rb;have H3:=hide rc;have wn:=ES;have hq3:(m==id)=decide (m=id):=by by_cases h:m=id<;>simp[h]
 unfold LF;generalize Ox n f u=p1 at *;generalize decide (0≤m∧m≤n-1)=p2 at *;generalize hp3:decide (m=id)=p3 at *;clear hE ra rb rc hs hi ES hp3;have gl:=hg.lt;have rl:=hr.lt;obtain⟨w0,hw0,AO,P,DC⟩:=bx1 w #[.int .i64 m,.int .i64 u.k,.int .i64 u.vw,.string u.bn,.int .i64 u.bv,.string u.bs,.slice oa u.bw.length ka,.int .i64 u.pv,.string u.ps,.slice ob u.pw.length kb,.int .i64 u.qv,.string u.qs,.slice oc u.qw.length kc,.int .i64 u.wh,.int .i64 u.fr,.int .i64 u.tu,.int .i64 u.am,.int .i64 u.no] 138;go_enter Tryz.func148,Tryz.ntmps148
 have GC:=hg.below AO gl;have GR:=hr.below AO rl;clear hg hr gl rl;have fV:=P.cell 0 rfl;have sU:=GC.cell 0 rfl;go_wp2_with fail
 clear hw0;refine(I4.out _).mono ?_;rintro _ w1 ⟨rfl,bb⟩;clear fV sU;have AZ:=bu AO bb;have Cx:=bb.size;replace P:=P.up bb;replace GC:=GC.up bb;replace GR:=GR.up bb;clear AO bb;cases p2
 ·go_wp2;go_ret;exact⟨by simp,AZ⟩
 cases p3
 ·have fV:=P.cell 0 rfl;have xK:=GR.cell 0 rfl;obtain⟨sU,ABK⟩:=Cn GC 0 1;go_wp2_with (first|(refine A9 [.int .i64 u.k,.int .i64 u.vw,.string u.bn,.int .i64 u.bv,.string u.bs,.slice oa u.bw.length ka,.int .i64 u.pv,.string u.ps,.slice ob u.pw.length kb,.int .i64 u.qv,.string u.qs,.slice oc u.qw.length kc,.int .i64 u.wh,.int .i64 u.fr,.int .i64 u.tu,.int .i64 u.am,.int .i64 u.no] (P.range 1 17 rfl) 75 _ rfl _ rfl rfl Tryz.underlying75 rfl (by kernel_rfl) ?_))
  refine(MO.out _ (HE.out.below AZ) (H1.out.below AZ) (H2.out.below AZ) (H3.out.below AZ)).mono ?_;rintro _ w2 ⟨rfl,bb⟩;clear fV xK sU ABK;have Ao:=bu AZ bb;have Ex:=bb.size;replace P:=P.up bb;replace GC:=GC.up bb;replace GR:=GR.up bb;clear AZ bb;go_wp2;go_ret;exact⟨by simp,Ao⟩
 have fV:=P.cell 0 rfl;have xK:=GR.cell 0 rfl;go_wp2;go_ret;exact⟨by simp,AZ⟩
theorem dZ(n f id:Int)(ao:Option Addr)(ca:Nat)(ps:List Ba)(gc gr:Nat)(x1 x2 x3 x4 x5 x6 x7 x8 x9 kQ kP kM kK:Value)(w:World)(hl:ps.length≤1048577)(hs:∀j,j<ps.length→MH (ps.getD j AL).2∧MI (ps.getD j AL).2)(ES:IntKind.i64.wrap (n-1)=n-1)(hE:Env w)(h:Ih w (.slice ao ps.length ca) ps)(hg:Loc w gc #[.int .i64 n,.int .i64 f])(hr:Loc w gr #[.int .i64 id,x1,x2,x3,x4,x5,x6,x7,x8,x9,kQ,kP,kM,kK]):
 Calls Tryz.prog 187 #[.slice ao ps.length ca,(.func (.func 148) #[] #[.pointer (some ⟨gc,0,none⟩),.pointer (some ⟨gr,0,none⟩)])] w fun e w'=>∃q:Int,e= .returned (.int .i64 q)∧decide (q≥0)=!(Ez n f id ps)∧Below w.heap.size w w':=by
 obtain⟨len,hn⟩:∃n,ps.length=n:=⟨_,rfl⟩
 have Hn:=hide hn;have H:=hide h;rw[hn]at hl H⊢;have HS:=hide hs;have HG:=hide hg;have HR:=hide hr;have HE:=hide hE;have WN:=hide ES;clear h hn hg hr hs hE ES;go_enter Tryz.func187,Tryz.ntmps187
 go_wp2
 go_loopw [8] (fun j wr=>∃k:Nat,k≤len∧j= .int .i64 k∧Hid (Ez n f id (ps.take k)=true)∧Below w.heap.size w wr) (fun j _=>len-(intOf j).toNat)
 case atStart=>exact⟨0,Nat.zero_le _,rfl,hide (by simp[Ez]),Below.refl _ _⟩
 case round=>
  obtain⟨k,hk,rfl,HK,br⟩:=hrel;by_cases hlt:k<len
  ·have hkx:k<ps.length:=by rw[Hn.out];exact hlt
   have RP:=H.out.below br;obtain⟨g,off,cs,rfl,_,c1,a,b,c,e,ra,rb,rc⟩:=RG.at RP k hkx;subst e;obtain⟨oa,ka,rfl⟩:=ra.form;obtain⟨ob,kb,rfl⟩:=rb.form;obtain⟨oc,kc,rfl⟩:=rc.form;have GC:=hide (VB n f id (ps.getD k AL).1 (ps.getD k AL).2 oa ob oc ka kb kc gc gr x1 x2 x3 x4 x5 x6 x7 x8 x9 kQ kP kM kK wr (HS.out _ hkx).1 (HS.out _ hkx).2 WN.out (HE.out.below br) ra rb rc (HG.out.below br HG.out.lt) (HR.out.below br HR.out.lt));have HF:=hide fun h1=>jD (n:=n) (f:=f) (id:=id) hkx h1;have HM:=hide fun h1=>Vm (n:=n) (f:=f) (id:=id) hkx HK.out h1;have ep:((ps.getD k AL).1,(ps.getD k AL).2)=ps.getD k AL:=rfl;rw[ep]at GC;clear ra rb rc HK H RP ep;generalize LF n f id (ps.getD k AL)=pb at *;generalize (ps.getD k AL).1=m at *;generalize (ps.getD k AL).2=u at *;cases pb with
   |false=>
    have F:=hide (HF.out rfl);clear HF HM;go_wp2_with (first|(refine A9 _ c1 138 _ rfl _ rfl rfl Tryz.underlying138 rfl (by kernel_rfl) ?_))
    refine GC.out.mono ?_;rintro _ w2 ⟨rfl,b2⟩;go_wp2;go_ret;exact⟨k,rfl,by rw[F.out];simp,bu br b2⟩
   |true=>
    have F:=hide (HM.out rfl);clear HF HM;go_wp2_with (first|(refine A9 _ c1 138 _ rfl _ rfl rfl Tryz.underlying138 rfl (by kernel_rfl) ?_))
    refine GC.out.mono ?_;rintro _ w2 ⟨rfl,b2⟩;go_wp2
    go_roundw
    case rel=>exact⟨k+1,by omega,by go_num,F,bu br b2⟩
    case measure=>simp[intOf];omega
  have hkn:ps.take k=ps:=List.take_of_length_le (by have:=Hn.out;omega);have h0:=HK.out;rw[hkn]at h0;have F:=hide h0;have hd2:decide ((k:Int)<(len:Int))=false:=by simp;omega
  clear HK h0 hkn H;go_wp2;go_ret;exact⟨-1,rfl,by rw[F.out];simp,br⟩
theorem Sq(n f id:Int)(ao:Option Addr)(ca:Nat)(ps:List Ba)(gc gr:Nat)(x1 x2 x3 x4 x5 x6 x7 x8 x9 kQ kP kM kK:Value)(w:World)(hl:ps.length≤1048577)(hs:∀j,j<ps.length→MH (ps.getD j AL).2∧MI (ps.getD j AL).2)(ES:IntKind.i64.wrap (n-1)=n-1)(hE:Env w)(h:Ih w (.slice ao ps.length ca) ps)(hg:Loc w gc #[.int .i64 n,.int .i64 f])(hr:Loc w gr #[.int .i64 id,x1,x2,x3,x4,x5,x6,x7,x8,x9,kQ,kP,kM,kK]):
 Calls Tryz.prog 150 #[.slice ao ps.length ca,(.func (.func 148) #[] #[.pointer (some ⟨gc,0,none⟩),.pointer (some ⟨gr,0,none⟩)])] w fun e w'=>e= .returned (.bool (!(Ez n f id ps)))∧Below w.heap.size w w':=by
 have IX:=hide (dZ n f id ao ca ps gc gr x1 x2 x3 x4 x5 x6 x7 x8 x9 kQ kP kM kK w hl hs ES hE h hg hr);generalize ps.length=len at *;generalize Ez n f id ps=b at *;clear h hg hE hs hr ES;go_enter Tryz.func150,Tryz.ntmps150
 go_wp2_with fail
 refine IX.out.mono ?_;rintro e w2 ⟨q,rfl,hq,b2⟩;go_wp2;go_ret;exact⟨by rw[←hq];rfl,b2⟩
theorem Iw(n f:Int)(t:Bt)(ao bo co od oe:Option Addr)(ca cb cc cd ce:Nat)(w:World)(hl:t.held.length≤1048577)(hh:∀j,j<t.held.length→MH (t.held.getD j AL).2∧MI (t.held.getD j AL).2)(ES:IntKind.i64.wrap (n-1)=n-1)(hE:Env w)(h:Ih w (.slice oe t.held.length ce) t.held):
 Calls Tryz.prog 101 #[Dz t (.slice ao t.qw.length ca) (.slice bo t.pool.length cb) (.slice co t.tab.length cc) (.slice od t.AU.length cd) (.slice oe t.held.length ce),cv n f] w fun e w'=>e= .returned (.bool (decide (t.held.length≤30)&&Ez n f t.id t.held))∧Below w.heap.size w w':=by
 have CP:=hide fun gc gr x1 x2 x3 x4 x5 x6 x7 x8 x9 kQ kP kM kK w he h hg hr=>Sq n f t.id oe ce t.held gc gr x1 x2 x3 x4 x5 x6 x7 x8 x9 kQ kP kM kK w hl hh ES he h hg hr;have HE:=hide hE;have HR:=hide h;clear hE h hh ES;have hb5:decide ((t.held.length:Int)≤30)=decide (t.held.length≤30):=by rw[decide_eq_decide];omega
 generalize Ez n f t.id t.held=b1 at *;generalize decide (t.held.length≤30)=b0 at *;generalize t.held.length=hn at *;obtain⟨w0,hw0,AO,A,LC,DC⟩:=Gb w #[.int .i64 t.id,.int .i64 t.vw,.int .i64 t.ak,.int .i64 t.vo,.int .i64 t.lo,.int .i64 t.n,.string t.s,.slice ao t.qw.length ca,.string t.d,.slice bo t.pool.length cb,.slice co t.tab.length cc,.slice od t.AU.length cd,.int .i64 t.su,.slice oe hn ce] 46 #[.int .i64 n,.int .i64 f] 48;go_enter Tryz.func101,Tryz.ntmps101
 have BV:=A.cell 13 rfl;cases b0
 ·go_wp2;go_ret;exact⟨by simp,AO⟩
 go_wp2_with fail
 clear hw0;refine(CP.out _ _ _ _ _ _ _ _ _ _ _ _ _ _ _ _ (HE.out.below AO) (HR.out.below AO) LC A).mono ?_;rintro _ w1 ⟨rfl,bb⟩;clear BV;have AZ:=bu AO bb;have Cx:=bb.size;replace A:=A.up bb;replace LC:=LC.up bb;clear AO bb;go_wp2;go_ret;exact⟨by simp,AZ⟩
theorem lq(n f:Int)(t:Bt):Dt n f t=(decide (0≤t.id∧t.id≤IntKind.i64.wrap (n-1))&&(decide (1≤t.vw∧t.vw≤60)&&(decide (0≤t.ak∧t.ak≤60)&&(K8 n f t.vo t.lo t.n t.s t.qw t.d&&(decide (JM t.pool)&&(Jb n f t.tab&&(Jn t.AU.length t.su&&(decide (t.held.length≤30)&&Ez n f t.id t.held)))))))):=by
 unfold Dt;by_cases h:A_ n f
 ·have:IntKind.i64.wrap (n-1)=n-1:=by unfold A_ at h;rw[IntKind.wrap_i64]<;>omega
  rw[this,decide_eq_true h,Bool.true_and]
 have:K8 n f t.vo t.lo t.n t.s t.qw t.d=false:=by
  cases e:K8 n f t.vo t.lo t.n t.s t.qw t.d with
  |false=>rfl
  |true=>
   have:=(Uj e).2.2.1;unfold Gi at this;rw[decide_eq_false h]at this;simp at this
 rw[decide_eq_false h,this];simp
structure tq(t:Bt):Prop where
 s:t.s.size≤33554432
 d:t.d.size≤33554432
 tb:∀p ∈ t.tab,p.2.1.size≤33554432
 h:∀j,j<t.held.length→MH (t.held.getD j AL).2∧MI (t.held.getD j AL).2
theorem dh(n f:Int)(t:Bt)(ao bo co od oe:Option Addr)(ca cb cc cd ce:Nat)(w:World)(hm:I7 t)(hs:tq t)(hE:Env w)(h:En w t (.slice ao t.qw.length ca) (.slice bo t.pool.length cb) (.slice co t.tab.length cc) (.slice od t.AU.length cd) (.slice oe t.held.length ce)):
 Calls Tryz.prog 39 #[cv n f,Dz t (.slice ao t.qw.length ca) (.slice bo t.pool.length cb) (.slice co t.tab.length cc) (.slice od t.AU.length cd) (.slice oe t.held.length ce)] w fun e w'=>e= .returned (.bool (Dt n f t))∧Below w.heap.size w w':=by
 rw[lq];obtain⟨nm,wn⟩:∃m,IntKind.i64.wrap (n-1)=m:=⟨_,rfl⟩
 rw[wn];have i1:=hide fun w=>De t.id 0 nm w;have i2:=hide fun w=>De t.vw 1 60 w;have i3:=hide fun w=>De t.ak 0 60 w;have SO:=hide fun w he h=>X4 n f t.vo t.lo t.n t.s ao ca t.qw t.d w hs.s hs.d he h;have PO:=hide fun w h=>X_ (.slice bo t.pool.length cb) t.pool w h;have TO:=hide fun w he h=>VZ n f (.slice co t.tab.length cc) t.tab w (by have:=hm.tb;omega) hs.tb he h;have DO:=hide fun w=>YC od t.AU.length cd t.su w
 have HO:Hid (K8 n f t.vo t.lo t.n t.s t.qw t.d=true→∀w,Env w→Ih w (.slice oe t.held.length ce) t.held→Calls Tryz.prog 101 #[Dz t (.slice ao t.qw.length ca) (.slice bo t.pool.length cb) (.slice co t.tab.length cc) (.slice od t.AU.length cd) (.slice oe t.held.length ce),cv n f] w fun e w'=>e= .returned (.bool (decide (t.held.length≤30)&&Ez n f t.id t.held))∧Below w.heap.size w w'):=hide fun hb w he h=>Iw n f t ao bo co od oe ca cb cc cd ce w hm.h hs.h (by
  have h1:=(Uj hb).2.2.1
  have h2:A_ n f:=by
   unfold Gi at h1;simp only[Bool.and_eq_true,decide_eq_true_eq]at h1;exact h1.1.1.1
  unfold A_ at h2;rw[IntKind.wrap_i64]<;>omega) he h
 have HR:=hide h;have HE:=hide hE;clear h hs hm hE;generalize decide (0≤t.id∧t.id≤nm)=b1 at *;generalize decide (1≤t.vw∧t.vw≤60)=b2 at *;generalize decide (0≤t.ak∧t.ak≤60)=b3 at *;generalize K8 n f t.vo t.lo t.n t.s t.qw t.d=b4 at *;generalize decide (JM t.pool)=b5 at *;generalize Jb n f t.tab=b6 at *;generalize Jn t.AU.length t.su=b7 at *;generalize (decide (t.held.length≤30)&&Ez n f t.id t.held)=b8 at *;obtain⟨w0,hw0,AO,LC,A,DC⟩:=Gb w #[.int .i64 n,.int .i64 f] 48 #[.int .i64 t.id,.int .i64 t.vw,.int .i64 t.ak,.int .i64 t.vo,.int .i64 t.lo,.int .i64 t.n,.string t.s,.slice ao t.qw.length ca,.string t.d,.slice bo t.pool.length cb,.slice co t.tab.length cc,.slice od t.AU.length cd,.int .i64 t.su,.slice oe t.held.length ce] 46;go_enter Tryz.func39,Tryz.ntmps39
 obtain⟨Ae,Ai⟩:=Cn LC 0 1;have Bi:=A.cell 0 rfl;go_wp2_with fail
 clear hw0;refine(i1.out _).mono ?_;rintro _ w1 ⟨rfl,bb⟩;clear Ae Ai Bi;have AZ:=bu AO bb;have Cx:=bb.size;replace LC:=LC.up bb;replace A:=A.up bb;clear AO bb;cases b1
 ·go_wp2;go_ret;exact⟨by simp,AZ⟩
 have Ae:=LC.cell 0 rfl;obtain⟨Bi,Db⟩:=Cn A 0 1;go_wp2_with fail
 refine(i2.out _).mono ?_;rintro _ w2 ⟨rfl,bb⟩;clear Ae Bi Db;have Ao:=bu AZ bb;have Ex:=bb.size;replace LC:=LC.up bb;replace A:=A.up bb;clear AZ bb;cases b2
 ·go_wp2;go_ret;exact⟨by simp,Ao⟩
 have Ae:=LC.cell 0 rfl;obtain⟨Bi,Db,Da⟩:=B_ A 0 1 2;go_wp2_with fail
 refine(i3.out _).mono ?_;rintro _ w3 ⟨rfl,bb⟩;clear Ae Bi Db Da;have BK:=bu Ao bb;have IW:=bb.size;replace LC:=LC.up bb;replace A:=A.up bb;clear Ao bb;cases b3
 ·go_wp2;go_ret;exact⟨by simp,BK⟩
 obtain⟨Ae,Ai⟩:=Cn LC 0 1;go_wp2_with (first|(refine A9 [.int .i64 t.vo,.int .i64 t.lo,.int .i64 t.n,.string t.s,.slice ao t.qw.length ca,.string t.d] (A.range 3 6 rfl) 40 _ rfl _ rfl rfl Tryz.underlying40 rfl (by kernel_rfl) ?_))
 refine(SO.out _ (HE.out.below BK) (HR.out.q.below BK)).mono ?_;rintro _ w4 ⟨rfl,bb⟩;clear Ae Ai;have Co:=bu BK bb;have OJ:=bb.size;replace LC:=LC.up bb;replace A:=A.up bb;clear BK bb;cases b4
 ·go_wp2;go_ret;exact⟨by simp,Co⟩
 have xW:=HO.out rfl;replace xW:=hide xW;clear HO;obtain⟨Ae,Ai⟩:=Cn LC 0 1;have Fp:=A.cell 9 rfl;go_wp2_with fail
 refine(PO.out _ (HR.out.p.below Co)).mono ?_;rintro _ w5 ⟨rfl,bb⟩;clear Ae Ai Fp;have FT:=bu Co bb;have Z8:=bb.size;replace LC:=LC.up bb;replace A:=A.up bb;clear Co bb;cases b5
 ·go_wp2;go_ret;exact⟨by simp,FT⟩
 obtain⟨Ae,Ai⟩:=Cn LC 0 1;have CG:=A.cell 10 rfl;go_wp2_with fail
 refine(TO.out _ (HE.out.below FT) (HR.out.tb.below FT)).mono ?_;rintro _ w6 ⟨rfl,bb⟩;clear Ae Ai CG;have I8:=bu FT bb;have lW:=bb.size;replace LC:=LC.up bb;replace A:=A.up bb;clear FT bb;cases b6
 ·go_wp2;go_ret;exact⟨by simp,I8⟩
 obtain⟨Ae,Ai⟩:=Cn LC 0 1;go_wp2_with (first|(refine A9 [.slice od t.AU.length cd,.int .i64 t.su] (A.range 11 2 rfl) 43 _ rfl _ rfl rfl Tryz.underlying43 rfl (by kernel_rfl) ?_))
 refine(DO.out _).mono ?_;rintro _ w7 ⟨rfl,bb⟩;clear Ae Ai;have Ll:=bu I8 bb;have vQ:=bb.size;replace LC:=LC.up bb;replace A:=A.up bb;clear I8 bb;cases b7
 ·go_wp2;go_ret;exact⟨by simp,Ll⟩
 obtain⟨Ae,Ai⟩:=Cn LC 0 1;go_wp2_with (first|(refine Ap A 46 _ rfl _ rfl rfl Tryz.underlying46 rfl (by kernel_rfl) ?_))
 refine(xW.out _ (HE.out.below Ll) (HR.out.h.below Ll)).mono ?_;rintro _ w8 ⟨rfl,bb⟩;clear Ae Ai;have Ra:=bu Ll bb;have vP:=bb.size;replace LC:=LC.up bb;replace A:=A.up bb;clear Ll bb;go_wp2;go_ret;exact⟨by simp,Ra⟩
end
section
open Go.RowKit
theorem iD(g:Nat)(x0 x1:Value)(n:Int)(s:ByteArray)(ao:Option Addr)(ca:Nat)(xs:List Int)(w:World)(x5:Value)(hg:Loc w g #[x0,x1,.int .i64 n,.string s,.slice ao xs.length ca,x5])(ha:RI w (.slice ao xs.length ca) xs)(hs:s.size≤281474976710656):
 Calls Tryz.prog 151 #[.pointer (some ⟨g,2,none⟩)] w fun e w'=>∃u,e= .returned (qv n s u)∧OI w' w.heap.size u xs∧Below w.heap.size w w':=by
 have CL:=hide fun w=>EK s w hs;have hgl:=hg.lt;obtain⟨w0,hw0⟩:∃w0,w.alloc zq=w0:=⟨_,rfl⟩
 have B0:Below w.heap.size w w0:=hw0▸Aj _ _;have Z0:Loc w0 w.heap.size #[.int .i64 0,.string ⟨#[]⟩,.slice none 0 0]:=hw0▸AJ w _ _ rfl;have s0:w0.heap.size=w.heap.size+1:=by rw[←hw0];simp
 have G0:=hg.below B0 hgl
 have K:Hid (∀w',Below w0.heap.size w0 w'→Below w0.heap.size w0 w'∧w'.cell? ⟨g,2,none⟩=some (.int .i64 n)∧w'.cell? ⟨g,3,none⟩=some (.string s)):=hide fun w' hb=>
  ⟨hb,(G0.up hb).cell 2 rfl,(G0.up hb).cell 3 rfl⟩
 have RA:=hide ha;have HZ:=hide Z0;have HG:=hide G0;clear ha hg Z0 G0;go_enter Tryz.func151,Tryz.ntmps151
 go_upto_region 1 with fail
 clear hw0
 go_cut [3] (fun c wx=>∃h,c= .pointer (some ⟨h,0,none⟩)∧w0.heap.size≤h∧Loc wx h #[.int .i64 n,.string s,.slice none 0 0]∧Below w0.heap.size w0 wx)
 case first=>
  clear HZ HG RA;refine kC K (Below.drew (Below.refl _ _)) (fun hHeld=>?_);obtain⟨wd,hd⟩:∃wd,w0.drew=wd:=⟨_,rfl⟩
  have bd:Below w0.heap.size w0 wd:=hd▸Below.drew (Below.refl _ _);have uX:=bd.size;rw[hd]at hHeld⊢;clear hd;refine tx 0 4 ?_;refine tx 1 5 ?_;refine tx 2 6 ?_;refine tx 3 7 ?_;refine tx 4 8 ?_;refine tx 5 9 ?_;refine tx 6 10 ?_;refine tx 7 11 ?_;refine wpAnyH_ready (rs:=[8,10]) (by kernel_rfl) (by simp) (AllReadyH.cons rfl (fun KK AA=>?_) (AllReadyH.cons rfl (fun KK AA=>?_) AllReadyH.nil))
  ·go_simp;refine(CL.out _).mono ?_;rintro e Nr ⟨rfl,FM⟩;have bc1:Below w0.heap.size w0 Nr:=bu bd FM;have og:=FM.size;clear hHeld FM;refine AA.out _ _ (K.out _ bc1) (fun hHeld=>?_);clear AA KK;refine tx 9 13 ?_;refine rd 10 rfl (fun KK AA=>?_);go_simp;obtain⟨gD,Ki⟩:∃x,Nr.alloc (.cells #[.int .i64 0,.string ⟨#[]⟩,.slice none 0 0] 38)=x:=⟨_,rfl⟩
   have p9:Below w0.heap.size w0 gD:=Ki▸bc1.alloc bc1.size _;have lg:Loc gD Nr.heap.size #[.int .i64 0,.string ⟨#[]⟩,.slice none 0 0]:=Ki▸AJ Nr _ _ rfl;rw[Ki];clear hHeld Ki;refine AA.out _ _ (K.out _ p9) (fun hHeld=>?_);clear AA KK;have q0:=lg.cell 0 rfl;have q1:=lg.cell 1 rfl;have q2:=lg.cell 2 rfl;have FG:=lg.frozen;refine rd 11 rfl (fun KK AA=>?_);go_simp;have bs:Below w0.heap.size w0 (((gD.setCell ⟨Nr.heap.size,0,none⟩ (.int .i64 n)).setCell ⟨Nr.heap.size,1,none⟩ (.string s)).setCell ⟨Nr.heap.size,2,none⟩ (.slice none 0 0)):=Below.set (Below.set (Below.set p9 _ _ (by omega)) _ _ (by omega)) _ _ (by omega);clear hHeld;refine AA.out _ _ (K.out _ bs) (fun hHeld=>?_);clear AA KK hHeld;refine Bw ?_;go_wp2_with fail
   go_meet
   exact⟨_,rfl,by omega,((lg.set 0 _ rfl).set 1 _ rfl).set 2 _ rfl,bs⟩
  go_simp;obtain⟨oo,Kh⟩:∃x,wd.alloc (.cells #[.int .i64 0,.string ⟨#[]⟩,.slice none 0 0] 38)=x:=⟨_,rfl⟩
  have p8:Below w0.heap.size w0 oo:=Kh▸bd.alloc bd.size _;have lg:Loc oo wd.heap.size #[.int .i64 0,.string ⟨#[]⟩,.slice none 0 0]:=Kh▸AJ wd _ _ rfl;rw[Kh];clear hHeld Kh;refine AA.out _ _ (K.out _ p8) (fun hHeld=>?_);clear AA KK;refine rd 8 rfl (fun KK AA=>?_);go_simp;refine(CL.out _).mono ?_;rintro e oq ⟨rfl,FM⟩;have p_:Below w0.heap.size w0 oq:=bu p8 FM;have oZ:=FM.size;have lg:=lg.up FM;clear hHeld FM;refine AA.out _ _ (K.out _ p_) (fun hHeld=>?_);clear AA KK;refine tx 9 13 ?_;have q0:=lg.cell 0 rfl;have q1:=lg.cell 1 rfl;have q2:=lg.cell 2 rfl;have FG:=lg.frozen;refine rd 11 rfl (fun KK AA=>?_);go_simp;have bs:Below w0.heap.size w0 (((oq.setCell ⟨wd.heap.size,0,none⟩ (.int .i64 n)).setCell ⟨wd.heap.size,1,none⟩ (.string s)).setCell ⟨wd.heap.size,2,none⟩ (.slice none 0 0)):=Below.set (Below.set (Below.set p_ _ _ (by omega)) _ _ (by omega)) _ _ (by omega);clear hHeld;refine AA.out _ _ (K.out _ bs) (fun hHeld=>?_);clear AA KK hHeld;refine Bw ?_;go_wp2_with fail
  go_meet
  exact⟨_,rfl,by omega,((lg.set 0 _ rfl).set 1 _ rfl).set 2 _ rfl,bs⟩
 case rest=>
 obtain⟨h,rfl,hh,LH,bw⟩:=hcut;have G1:=HG.out.below bw HG.out.lt;have Z1:=HZ.out.below bw HZ.out.lt;have R1:=RA.out;have B1:Below w.heap.size w wc:=bu B0 bw;have s1:=bw.size;have l1:=LH.lt;have x2:=G1.cell 4 rfl;have y0:=Z1.cell 0 rfl;have y1:=Z1.cell 1 rfl;have y2:=Z1.cell 2 rfl;have fy:=Z1.frozen;have h0:=LH.cell 0 rfl;have h1:=LH.cell 1 rfl;have h2:=LH.cell 2 rfl;have fh:=LH.frozen;have hl:=R1.1;clear HG HZ RA K CL bw B0;by_cases hx:xs=[]
 ·subst hx;go_wp2;refine bodyPost_ret (v:=qv n s (.slice none 0 0)) (by simp[results,Tryz.results151,go_sem,y0,y1,y2]) rfl ?_;exact⟨_,rfl,World.ownsRow_nil _ _ _ _,Below.set (Below.set (Below.set B1 _ _ Ak) _ _ Ak) _ _ Ak⟩
 have hp:0<xs.length:=List.length_pos_iff.2 hx;obtain⟨cs,hcs⟩:∃cs,xs.map (Value.int .i64)=cs:=⟨_,rfl⟩
 have hcl:cs.length=xs.length:=by rw[←hcs];simp
 have hone:∀v ∈ cs,v.oneCell'=true:=by rw[←hcs];exact Fe xs
 obtain⟨ad,rfl,hcells⟩:∃ad,ao=some ad∧∀j u,cs[j]? =some u→w.cell? (ad.add j)=some u:=by
  obtain⟨_,QR,V8,e,hr⟩:=R1;cases e
  rcases hr with rfl|⟨b,off,rfl,hr⟩
  ·exact absurd rfl hx
  exact⟨_,rfl,hcs▸GV hr⟩
 have hrows:∀w',Below w.heap.size w w'→∀j u,cs[j]? =some u→w'.cell? (ad.add j)=some u:=fun w' hb j u hj=>(hb.cell (AQ (hcells j u hj))).trans (hcells j u hj);have HR:=hide hrows;have HC:=hide hcs;obtain⟨i0,hi,hz0,hz1,hz2⟩:=info_parts Tryz.info3;obtain⟨m,hm⟩:∃m,xs.length=m:=⟨_,rfl⟩
 rw[hm]at hl hcl hp x2 G1;have Hm:=hide hm;clear R1 hcells hrows hcs hm hx;have hgt:decide ((0:Int)<(m:Int))=true:=by simpa using hp
 go_upto_region 4 with (first | (at_make;refine wpList_make_full _ rfl _ _ 24 rfl wc.heap.size 3 i0 (.int .i64 0) 1 Tryz.underlying24 hi hz0 hz1 .i64 .i64 m m m rfl rfl rfl rfl (by rw[hz2];omega) (by unfold maxLen;omega) Ak ?_;intro w2 ho2 hg2
                                 have b2:Below wc.heap.size wc w2:=(Below.refl _ _).grown hg2 Ak (by simp);have L2:=LH.up b2;have k2:=L2.cell 2 rfl;have f2:=L2.frozen))
 obtain⟨hlen,hrow⟩:=ho2;rcases hrow with⟨e,_⟩|⟨row,cap,cur,e,hrb,jC,_,hcm,hcz,hct⟩
 ·cases e
 cases e
 have hlt2:wc.heap.size<w2.heap.size:=(Array.getElem?_eq_some_iff.1 jC).1;obtain⟨w3,hw3⟩:∃w3,w2.setCell ⟨h,2,none⟩ (.slice (some ⟨wc.heap.size,0,none⟩) m m)=w3:=⟨_,rfl⟩
 have B3:Below w.heap.size w w3:=hw3▸Below.set (bu B1 b2) (g:=h) 2 _ (by omega);have K3:Kp w2 w3 (fun k=>k=h):=hw3▸AB w2 h 2 _;have L3:Loc w3 h #[.int .i64 n,.string s,.slice (some ⟨wc.heap.size,0,none⟩) m m]:=hw3▸L2.set 2 _ rfl;have Z3:=(Z1.up b2).kp K3 (by omega);have G3:=(G1.up b2).kp K3 (by omega);have H3:w3.heap[wc.heap.size]? =some (.cells cur.toList.toArray 3 (0,0)):=by rw[K3.block _ hlt2 (by omega)];simpa using jC
 have c3:=HR.out w3 B3;have z3:=K3.size;have p2:=L3.cell 2 rfl;have q2:=G3.cell 4 rfl;have jI:cur.toList.length=m:=by simpa using hcz
 rw[hw3];clear hw3 k2 f2 h0 h1 h2 fh y0 y1 y2 fy x2;have xg:=hide H3;have C3:=hide c3
 go_region_law (refine step_copy_splice rfl (.tmp 28) (.tmp 32) 24 24 rfl 3 Tryz.underlying24 (by rw[hi];simp[hz1]) (some ⟨wc.heap.size,0,none⟩) (some ad) m m m ca (by simp[Act.eval]) (by simp[Act.eval]) wc.heap.size 0 cur.toList 3 xg.out cs (by rw[hcl];simp) (fun _=>⟨rfl,_,rfl,C3.out⟩) (by omega) hone wc.heap.size w3 ⟨rfl,rfl,rfl,Nat.le_refl _,fun _ _=>rfl⟩ Ak ?_;intro w4 hg4 hb4)
 all_goals
  have L4:=L3.below hb4 l1;have Z4:=Z3.below hb4 (by omega);have B4:Below w.heap.size w w4:=B3.trans (hb4.mono (by omega));have h0:=L4.cell 0 rfl;have h1:=L4.cell 1 rfl;have h2:=L4.cell 2 rfl;have y0:=Z4.cell 0 rfl;have y1:=Z4.cell 1 rfl;have y2:=Z4.cell 2 rfl;have fy:=Z4.frozen
  have O4:OI w4 w.heap.size (.slice (some ⟨wc.heap.size,0,none⟩) m m) xs:=by
   refine⟨by rw[Hm.out];simp[Hm.out],.inr ⟨wc.heap.size,m,_,by rw[Hm.out],by omega,hg4.out,by rw[Hm.out];exact Nat.le_refl _,hcm,?_,?_⟩⟩
   ·rw[List.size_toArray,length_splice _ _ _ (by omega),jI,Nat.mul_one]
   rw[HC.out];simp[splice,Hm.out,hcl]
  have HO:=hide O4;clear L3 Z3 G3 H3 c3 p2 q2 K3 L4 Z4 O4 hg4 hb4 LH Z1 G1 b2 L2 hlen hct hcz jC;go_wp2;refine bodyPost_ret (v:=qv n s (.slice (some ⟨wc.heap.size,0,none⟩) m m)) (by simp[results,Tryz.results151,go_sem,y0,y1,y2]) rfl ?_;have K5:Kp w4 (((w4.setCell ⟨w.heap.size,0,none⟩ (.int .i64 n)).setCell ⟨w.heap.size,1,none⟩ (.string s)).setCell ⟨w.heap.size,2,none⟩ (.slice (some ⟨wc.heap.size,0,none⟩) m m)) (fun k=>k=w.heap.size):=((AB _ _ _ _).trans (AB _ _ _ _)).trans (AB _ _ _ _);exact⟨_,rfl,HO.out.kp K5 (fun k hk=>by simp[Value.ownBlock]at hk;omega),Below.set (Below.set (Below.set B4 _ _ Ak) _ _ Ak) _ _ Ak⟩
theorem Z9(vo lo v:Int)(s:ByteArray)(ao:Option Addr)(ca:Nat)(xs:List Int)(d:ByteArray)(w:World)(hs:s.size≤281474976710656)(hd:d.size≤281474976710656)(ha:RI w (.slice ao xs.length ca) xs):
 Calls Tryz.prog 102 #[sv vo lo v s (.slice ao xs.length ca) d] w fun e w'=>∃u,e= .returned (sv vo lo v s u d)∧OI w' w.heap.size u xs∧Below w.heap.size w w':=by
 have TO:=hide fun g x0 x1 x5 w'(b:Below w.heap.size w w')(h:Loc w' g #[x0,x1,.int .i64 v,.string s,.slice ao xs.length ca,x5])=>iD g x0 x1 v s ao ca xs w' x5 h (ha.below b) hs;have CL:=hide fun w'=>EK d w' hd;clear ha;obtain⟨w0,hw0,AO,LS,LZ,DC⟩:=Gb w #[.int .i64 vo,.int .i64 lo,.int .i64 v,.string s,.slice ao xs.length ca,.string d] 40 #[.int .i64 0,.int .i64 0,.int .i64 0,.string ⟨#[]⟩,.slice none 0 0,.string ⟨#[]⟩] 40;go_enter Tryz.func102,Tryz.ntmps102
 obtain⟨Ef,Ee,Ed,Ec,Eb,Ea⟩:=QQ LS 0 1 2 3 4 5;go_wp2_with fail
 clear hw0;refine(TO.out _ _ _ _ _ AO LS).mono ?_;rintro _ w1 ⟨u1,rfl,o1,bb⟩;clear Ef Ee Ed Ec Eb Ea;have AZ:=bu AO bb;have Cx:=bb.size;replace LS:=LS.up bb;replace LZ:=LZ.up bb;clear AO bb;have Y9:=World.ownsRow.lt o1;obtain⟨Pf,QJ,rfl⟩:=o1.form;obtain⟨Ef,Ee,Ed,Ec,Eb,Ea⟩:=QQ LS 0 1 2 3 4 5;have w_:=LS.frozen;go_upto_region 2 with fail
 clear Ef Ee Ed Ec Eb Ea w_;obtain⟨w2,hw2⟩:∃y,(((w1.setCell ⟨w.heap.size,2,none⟩ (.int .i64 v)).setCell ⟨w.heap.size,3,none⟩ (.string s)).setCell ⟨w.heap.size,4,none⟩ (.slice Pf xs.length QJ))=y:=⟨_,rfl⟩
 have kN:Kp w1 w2 (fun k=>k=w.heap.size):=hw2▸((AB _ _ _ _).trans (AB _ _ _ _)).trans (AB _ _ _ _);replace LS:Loc w2 (w.heap.size) #[.int .i64 vo,.int .i64 lo,.int .i64 v,.string s,.slice Pf xs.length QJ,.string d]:=hw2▸(((LS.set 2 _ rfl).set 3 _ rfl).set 4 _ rfl);replace LZ:=LZ.kp kN (by omega);replace o1:=o1.kp kN (fun j hj e=>by have:=Y9 j hj;omega);have Ao:=Below.kp AZ kN AZ.size (fun k hk=>by omega);have Ex:=kN.size;rw[hw2];clear hw2 kN AZ;obtain⟨Ef,Ee,Ed,Ec,Eb,Ea⟩:=QQ LS 0 1 2 3 4 5;go_wp2_with fail
 refine(CL.out _).mono ?_;rintro _ w3 ⟨rfl,bb⟩;clear Ef Ee Ed Ec Eb Ea;have BK:=bu Ao bb;have IW:=bb.size;replace LS:=LS.up bb;replace LZ:=LZ.up bb;replace o1:=o1.below bb;clear Ao bb;obtain⟨Ef,Ee,Ed,Ec,Eb,Ea⟩:=QQ LS 0 1 2 3 4 5;have w_:=LS.frozen;go_upto_region 3 with fail
 clear Ef Ee Ed Ec Eb Ea w_;obtain⟨w4,hw4⟩:∃y,(w3.setCell ⟨w.heap.size,5,none⟩ (.string d))=y:=⟨_,rfl⟩
 have kN:Kp w3 w4 (fun k=>k=w.heap.size):=hw4▸AB _ _ _ _;replace LS:Loc w4 (w.heap.size) #[.int .i64 vo,.int .i64 lo,.int .i64 v,.string s,.slice Pf xs.length QJ,.string d]:=hw4▸(LS.set 5 _ rfl);replace LZ:=LZ.kp kN (by omega);replace o1:=o1.kp kN (fun j hj e=>by have:=Y9 j hj;omega);have Co:=Below.kp BK kN BK.size (fun k hk=>by omega);have OJ:=kN.size;rw[hw4];clear hw4 kN BK;have K6:=kp6 w4 (w.heap.size+1) (.int .i64 vo) (.int .i64 lo) (.int .i64 v) (.string s) (.slice Pf xs.length QJ) (.string d);obtain⟨sS,sQ,sO,sN,sM,sK⟩:=QQ LZ 0 1 2 3 4 5;obtain⟨Ef,Ee,Ed,Ec,Eb,Ea⟩:=QQ LS 0 1 2 3 4 5;have fLZ:=LZ.frozen;go_wp2;refine bodyPost_ret (v:=sv (vo) (lo) (v) (s) (.slice Pf xs.length QJ) (d)) (by simp[results,Tryz.results102,go_sem,sS,sQ,sO,sN,sM,sK]) rfl ?_;exact⟨_,rfl,(o1.kp K6 (fun j hj e=>by have:=Y9 j hj;omega)).mono (by omega),Below.kp Co K6 Co.size (fun k hk=>by omega)⟩

theorem Lx(vo lo v:Int)(s:ByteArray)(ao:Option Addr)(ca:Nat)(xs:List Int)(d:ByteArray)(w:World)(ha:RI w (.slice ao xs.length ca) xs):
 Calls Tryz.prog 87 #[sv vo lo v s (.slice ao xs.length ca) d] w fun e w'=>∃u,e= .returned (sv vo lo v s u d)∧OI w' w.heap.size u xs∧Below w.heap.size w w':=by
 have CP:=hide fun w'(b:Below w.heap.size w w')=>Jk v s (.slice ao xs.length ca) xs w' (ha.below b);clear ha;obtain⟨w0,hw0,AO,LS,LZ,DC⟩:=Gb w #[.int .i64 vo,.int .i64 lo,.int .i64 v,.string s,.slice ao xs.length ca,.string d] 40 #[.int .i64 0,.int .i64 0,.int .i64 0,.string ⟨#[]⟩,.slice none 0 0,.string ⟨#[]⟩] 40;go_enter Tryz.func87,Tryz.ntmps87
 obtain⟨Ef,Ee,Ed,Ec,Eb,Ea⟩:=QQ LS 0 1 2 3 4 5;go_wp2_with fail
 clear hw0;refine(CP.out _ AO).mono ?_;rintro _ w1 ⟨u1,rfl,o1,bb⟩;clear Ef Ee Ed Ec Eb Ea;have AZ:=bu AO bb;have Cx:=bb.size;replace LS:=LS.up bb;replace LZ:=LZ.up bb;clear AO bb;have Y9:=World.ownsRow.lt o1;obtain⟨Pf,QJ,rfl⟩:=o1.form;obtain⟨Ef,Ee,Ed,Ec,Eb,Ea⟩:=QQ LS 0 1 2 3 4 5;have w_:=LS.frozen;go_upto_region 2 with fail
 clear Ef Ee Ed Ec Eb Ea w_;obtain⟨w2,hw2⟩:∃y,(((w1.setCell ⟨w.heap.size,2,none⟩ (.int .i64 v)).setCell ⟨w.heap.size,3,none⟩ (.string s)).setCell ⟨w.heap.size,4,none⟩ (.slice Pf xs.length QJ))=y:=⟨_,rfl⟩
 have kN:Kp w1 w2 (fun k=>k=w.heap.size):=hw2▸((AB _ _ _ _).trans (AB _ _ _ _)).trans (AB _ _ _ _);replace LS:Loc w2 (w.heap.size) #[.int .i64 vo,.int .i64 lo,.int .i64 v,.string s,.slice Pf xs.length QJ,.string d]:=hw2▸(((LS.set 2 _ rfl).set 3 _ rfl).set 4 _ rfl);replace LZ:=LZ.kp kN (by omega);replace o1:=o1.kp kN (fun j hj e=>by have:=Y9 j hj;omega);have Ao:=Below.kp AZ kN AZ.size (fun k hk=>by omega);have Ex:=kN.size;rw[hw2];clear hw2 kN AZ;have K6:=kp6 w2 (w.heap.size+1) (.int .i64 vo) (.int .i64 lo) (.int .i64 v) (.string s) (.slice Pf xs.length QJ) (.string d);obtain⟨sS,sQ,sO,sN,sM,sK⟩:=QQ LZ 0 1 2 3 4 5;obtain⟨Ef,Ee,Ed,Ec,Eb,Ea⟩:=QQ LS 0 1 2 3 4 5;have fLZ:=LZ.frozen;go_wp2;refine bodyPost_ret (v:=sv (vo) (lo) (v) (s) (.slice Pf xs.length QJ) (d)) (by simp[results,Tryz.results87,go_sem,sS,sQ,sO,sN,sM,sK]) rfl ?_;exact⟨_,rfl,(o1.kp K6 (fun j hj e=>by have:=Y9 j hj;omega)).mono (by omega),Below.kp Ao K6 Ao.size (fun k hk=>by omega)⟩
end
section
open Go Go.RowKit
theorem eO(ao:Option Addr)(ca:Nat)(s:Int)(xs:List Int)(w:World)(hl:xs.length≤16777216)(hr:RB w (.slice ao xs.length ca) xs):
 Calls Tryz.prog 103 #[dv (.slice ao xs.length ca) s] w fun e w'=>∃u,e= .returned (dv u s)∧OB w' w.heap.size u xs∧Below w.heap.size w w':=by
 have HR:=hide hr;clear hr;obtain⟨w0,hw0,AO,P,O,DC⟩:=Gb w #[.slice ao xs.length ca,.int .i64 s] 43 #[.slice none 0 0,.int .i64 0] 43;go_enter Tryz.func103,Tryz.ntmps103
 have K:Hid (∀w',Kp w0 w' (fun k=>k=w.heap.size+1)→(fun w'=>Kp w0 w' (fun k=>k=w.heap.size+1)∧(w'.cell? ⟨w.heap.size,0,none⟩=some (.slice ao xs.length ca)∧w'.cell? ⟨w.heap.size,1,none⟩=some (.int .i64 s))) w'):=hide fun w' hk'=>⟨hk',⟨(P.kp hk' (by omega)).cell 0 rfl,(P.kp hk' (by omega)).cell 1 rfl⟩⟩
 go_upto_region 1 with fail
 clear hw0;refine uN K (fun Tn bA bb hHeld=>?_);have Eo:=bu AO bb;have Z7:=bb.size;replace P:=P.up bb;replace O:=O.up bb;clear AO bb;refine tx 0 3 ?_;refine tx 3 6 ?_;refine tx 1 4 ?_;refine tx 4 7 ?_;refine rd 2 rfl (fun KK AA=>?_);refine GJ rfl (.const (.slice none 0 0)) (.tmp 4) rfl w0.heap.size (.slice none 0 0) (.slice ao xs.length ca) [] (xs) rfl rfl (World.ownsRow_nil _ _ _ _) ((HR.out.below Eo).pb) (by simp;omega) bA.size ?_;intro u Dx oU g7 _;have bb:Below Tn.heap.size Tn Dx:=(Below.refl _ _).grown g7 Ak (fun j hj=>by simp[Value.ownBlock]at hj);rw[List.nil_append]at oU;have F5:Kp w0 Dx (fun k=>k=w.heap.size+1):=bA.trans (Below.BJ bb _);clear hHeld g7;refine AA.out _ _ (K.out _ F5) (fun hHeld=>?_);clear AA KK bA;have Eh:=bu Eo bb;have XK:=bb.size;replace P:=P.up bb;replace O:=O.up bb;clear Eo bb;change wpAnyH _ _ _ _ _ _ _ (Act.put _ (some 5) _) _;have toU:=World.ownsRow.lt oU;obtain⟨xL,wP,rfl⟩:=oU.form;simp only[pU];refine tx 5 8 ?_;refine rd 6 rfl (fun KK AA=>?_);rw[if_pos (by rfl)];refine wp_store_mid 43 (.tmp 2) (.tmp 8) rfl (w.heap.size+1) 0 #[.slice xL xs.length wP,.int .i64 s] rfl rfl (O.there 0 2 (by simp)) (by kernel_rfl) (by simp[Value.oneCell']) ?_;obtain⟨FB,hq⟩:∃y,Dx.setCells (w.heap.size+1) 0 [.slice xL xs.length wP,.int .i64 s]=y:=⟨_,rfl⟩
 have kN:Kp Dx FB (fun k=>k=w.heap.size+1):=hq▸Ad _ _ _ _;have Gc:Kp w0 FB (fun k=>k=w.heap.size+1):=F5.trans (kN.mono (fun k e=>e));replace O:Loc FB (w.heap.size+1) #[.slice xL xs.length wP,.int .i64 s]:=hq▸O.setCells _ _ rfl;rw[show Dx.setCells (w.heap.size+1) 0 (Array.toList #[.slice xL xs.length wP,.int .i64 s])=FB from hq];clear hHeld;refine AA.out _ _ (K.out _ Gc) (fun hHeld=>?_);clear AA KK F5;replace P:=P.kp kN (by omega);replace oU:=oU.kp kN (fun j hj e=>by have:=toU j hj;omega);have EC:=Below.kp Eh kN Eh.size (fun k hk=>by omega);have XJ:=kN.size;clear hq kN Eh hHeld;refine Bw ?_;clear K Gc;go_wp2;refine bodyPost_ret (v:=dv (.slice xL xs.length wP) s) (Ch Tryz.results103 _ O rfl Tryz.underlying43 rfl (by kernel_rfl)) rfl ?_;exact⟨_,rfl,oU.mono (by omega),EC⟩
end
section
open Go.RowKit
variable [∀(a b c d:Int),Decidable (BG a b c d)] [∀(a b c d:Nat),Decidable (DZ a b c d)] [∀(x:T4),Decidable (Du x)] [∀(last:Int)(s:St),Decidable (Aq last s)]
def PT(w:World)(v:Value)(xs:List T4):Prop:=
 ∃ao cap,v= .slice ao xs.length cap∧(xs=[]∨∃ad:Addr,ao=some ad∧∀j u,(Ay xs)[j]? =some u→w.cell? (ad.add j)=some u)
theorem PT.below{w w':World}{v:Value}{xs:List T4}(h:PT w v xs)(hb:Below w.heap.size w w'):PT w' v xs:=by
 obtain⟨ao,cap,rfl,h⟩:=h;refine⟨ao,cap,rfl,?_⟩;rcases h with h|⟨ad,rfl,h⟩
 ·exact .inl h
 exact .inr ⟨ad,rfl,fun j u hj=>(hb.cell (AQ (h j u hj))).trans (h j u hj)⟩
theorem fI(b o j:Nat):((⟨b,o,none⟩:Addr).add j)=⟨b,o+j,none⟩:=by unfold Addr.add;split<;>simp_all
theorem OT.pt{w:World}{base:Nat}{v:Value}{xs:List T4}(h:OT w base v xs):PT w v xs:=by
 rcases h.2 with⟨rfl,h0⟩|⟨g,cap,cur,rfl,_⟩
 ·exact⟨none,0,by rw[h0],.inl (List.length_eq_zero_iff.1 h0)⟩
 exact⟨_,cap,rfl,.inr ⟨_,rfl,World.ownsRow.cells h rfl⟩⟩
theorem RT.pt{w:World}{v:Value}{xs:List T4}(h:RT w v xs):PT w v xs:=by
 obtain⟨hl,ao,cap,rfl,h⟩:=h;refine⟨ao,cap,rfl,?_⟩;rcases h with h|⟨g,rfl,h⟩
 ·exact .inl h
 refine .inr ⟨_,rfl,fun j u hj=>?_⟩;have hlt:j<xs.length*4:=by rw[←Ew];exact(List.getElem?_eq_some_iff.1 hj).1
 obtain⟨k,r,hr,rfl⟩:∃k r,r<4∧j=k*4+r:=⟨j/4,j%4,by omega,by omega⟩
 have hk:k<xs.length:=by omega
 rw[Nz xs k r hk hr]at hj;obtain⟨c0,c1,c2,c3⟩:=h k hk;rw[fI,Nat.zero_add]
 match r,hr with
 |0,_=>exact c0.trans hj
 |1,_=>exact c1.trans hj
 |2,_=>exact c2.trans hj
 |3,_=>exact c3.trans hj
theorem UL(xs:List T4)(k j:Nat)(u:Value)(h:(Ay (xs.take k))[j]? =some u):(Ay xs)[j]? =some u:=by
 have e:Ay xs=Ay (xs.take k)++Ay (xs.drop k):=by rw[←Dy,List.take_append_drop]
 rw[e,List.getElem?_append_left (List.getElem?_eq_some_iff.1 h).1];exact h
theorem UO(xs:List T4)(k j:Nat)(u:Value)(hk:k≤xs.length)(h:(Ay (xs.drop k))[j]? =some u):(Ay xs)[k*4+j]? =some u:=by
 have e:Ay xs=Ay (xs.take k)++Ay (xs.drop k):=by rw[←Dy,List.take_append_drop]
 have hl:(Ay (xs.take k)).length=k*4:=by rw[Ew,List.length_take];omega
 rw[e,List.getElem?_append_right (by omega),hl,show k*4+j-k*4=j from by omega];exact h
theorem PT.take{w:World}{ao:Option Addr}{n cap:Nat}{xs:List T4}(h:PT w (.slice ao n cap) xs)(k:Nat)(hk:k≤n)(cap':Nat):PT w (.slice ao k cap') (xs.take k):=by
 obtain⟨QR,cap2,e,h⟩:=h;cases e
 refine⟨ao,cap',by rw[List.length_take];congr 1;omega,?_⟩;rcases h with rfl|⟨ad,rfl,h⟩
 ·left;simp
 exact .inr ⟨ad,rfl,fun j u hj=>h j u (UL _ _ _ _ hj)⟩
theorem PT.drop{w:World}{ao:Option Addr}{n cap:Nat}{xs:List T4}(h:PT w (.slice ao n cap) xs)(k:Nat)(hk:k≤n)(cap':Nat){bo:Option Addr}(hb:k<n→bo=ao.map (·.add (k*4))):PT w (.slice bo (n-k) cap') (xs.drop k):=by
 obtain⟨QR,cap2,e,h⟩:=h;cases e
 refine⟨bo,cap',by rw[List.length_drop],?_⟩;by_cases hlt:k<xs.length
 ·rcases h with rfl|⟨ad,rfl,h⟩
  ·simp at hlt
  refine .inr ⟨ad.add (k*4),hb hlt,fun j u hj=>?_⟩;have:=h _ u (UO xs k j u hk hj);rw[←this]
  congr 1
  obtain⟨b,o,s⟩:=ad;unfold Addr.add
  split<;>split<;>simp_all<;>omega
 left;rw[List.drop_of_length_le (by omega)]
theorem JL(ty:TypeId)(base cap:Nat)(v:Value)(n:Nat)(xs:List Value)(w:World)(hown:w.ownsRow base 73 4 v n xs):
 (Builtin.append_ #[41,41] ty #[v,.slice none 0 cap]).run Tryz.prog w= .ok v w:=by
 obtain⟨i0,hi,hz0,hz1,hz2⟩:=info_parts Tryz.infoTx;rcases hown.2 with⟨rfl,rfl⟩|⟨g,cp,cur,rfl,_,_,hnc,_⟩
 ·simp[Builtin.append_,run_underlying Tryz.underlying41,sizeOf,typeInfo,hi,Builtin.lenOf,Builtin.firstCells]
 simp[Builtin.append_,run_underlying Tryz.underlying41,sizeOf,typeInfo,hi,Builtin.lenOf,Builtin.firstCells,hnc,storeCells]
end
section
open Go Go.RowKit
variable [∀(a b c d:Int),Decidable (BG a b c d)] [∀(a b c d:Nat),Decidable (DZ a b c d)] [∀(x:T4),Decidable (Du x)] [∀(last:Int)(s:St),Decidable (Aq last s)]
theorem DF{ops:Array Oper}{o:Oper}{a:Act}{w:World}{K:Act→World→Prop}{Q:Exit→Act→World→Prop}{E:Prop}(hgd:o.guard=none)(s x:Operand)
 (ho:o.op= .call { callee:= .builtin .append,args:= #[s,x],argTypes:= #[41,41] }) (base:Nat) (v u:Value) (xs ys:List T4) (hs:a.eval s=v) (hx:a.eval x=u)
 (hown:OT w base v xs) (hp:PT w u ys) (hl:xs.length+ys.length≤4194304) (hbase:base≤w.heap.size)
 (h:∀v' w',OT w' base v' (xs++ys)→w.grownBy w' v.ownBlock→(v'.ownBlock=v.ownBlock∨v'.ownBlock=some w.heap.size)→K (a.put o.dst v') w'):
 if Region.wanted o (yielded ops a.tmps)=true then Oper.wp Tryz.prog o a w K Q else E:=by
 have hw:Region.wanted o (yielded ops a.tmps)=true:=by simp[Region.wanted,hgd]
 rw[if_pos hw];obtain⟨i0,hi,hz0,hz1,hz2⟩:=info_parts Tryz.infoTx;obtain⟨ao,cap,rfl,hp⟩:=hp
 match ao,hx with
 |none,hx=>
  have hy:ys=[]:=by rcases hp with h|⟨ad,e,_⟩;exact h;cases e
  subst hy;have hrun:=JL o.type base cap v xs.length (Ay xs) w hown;unfold Oper.wp;simp only[List.length_nil]at hx;simp[execOp,ho,resolve,invoke,builtin,hs,hx,hrun,Result.andThen];exact h v w (by simpa using hown) (D9 _ _) (.inl rfl)
 | some ad,hx=>
  have hn:∀j u,(Ay ys)[j]? =some u→w.cell? (ad.add j)=some u:=by
   rcases hp with rfl|⟨ad',e,h⟩
   ·intro j u hj;simp[Ay]at hj
   cases e;exact h
  obtain⟨v',w',hrun,r1,r2,_,r4⟩:=run_append_own_at (P:=Tryz.prog) w base 41 o.type 73 i0 (Hg 0 0 0 0) 4 32 Tryz.underlying41 hi hz0 hz1 hz2 rfl (by decide) v xs.length (Ay xs) hown ad ys.length cap (Ay ys) (Ew ys) hn (Vs ys) (by unfold maxLen;omega) (by omega) hbase;unfold Oper.wp;simp[execOp,ho,resolve,invoke,builtin,hs,hx,hrun,Result.andThen];refine h v' w' ?_ r2 r4;unfold OT;rw[Dy,List.length_append];exact r1
end
end Go.Proofs.YtcjmcgolgbkknaaGreatDoor
