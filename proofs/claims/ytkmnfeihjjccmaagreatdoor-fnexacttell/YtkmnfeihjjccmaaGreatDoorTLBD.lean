/- Lemmas; their conditions stand in each statement. -/
import Derived.Test.YtkmnfeihjjccmaaGreatDoorTLBC
set_option maxRecDepth 100000
set_option maxHeartbeats 16000000
set_option linter.unusedSectionVars false
namespace Go.Proofs.YtkmnfeihjjccmaaGreatDoor
section
open Go Go.RowKit
variable [∀(a b c d:Int),Decidable (BD a b c d)]
variable [∀(n f:Int),Decidable (A8 n f)]
variable [∀(a b c d:Nat),Decidable (Dj a b c d)]
variable [∀(x:T4),Decidable (Dr x)]
variable [∀(last:Int)(s:St),Decidable (Au last s)]
variable [∀(n:Int)(s:List Int),Decidable (Dt n s)]
variable [∀(x y:T4),Decidable (Gm x y)]
variable [∀(ts:List T4),Decidable (Asc ts)]
variable [∀(ts:List T4),Decidable (DU ts)]
variable [∀(ts:List T4),Decidable (JP ts)]
def MQ(n f id:Int)(p:Bf):Bool:=Ry n f p.2&&(decide (0≤p.1∧p.1≤n-1)&&!(decide (p.1=id)))
def Ev(n f id:Int)(ps:List Bf):Bool:=ps.all (MQ n f id)
def Eg(n f:Int)(t:Bu):Bool:=decide (A8 n f)&&(decide (0≤t.id∧t.id≤n-1)&&(decide (1≤t.vw∧t.vw≤60)&&(decide (0≤t.ak∧t.ak≤60)&&(Kz n f t.vo t.lo t.n t.s t.qw t.d&&(decide (JP t.pool)&&(JW n f t.tab&&(Ji t.AZ.length t.su&&(decide (t.held.length≤30)&&Ev n f t.id t.held))))))))
theorem jI{n f id:Int}{ps:List Bf}{k:Nat}(hk:k<ps.length)(h:MQ n f id (ps.getD k AL)=false):Ev n f id ps=false:=by
 unfold Ev
 rw[List.all_eq_false]
 exact⟨ps.getD k AL,by rw[List.getD_eq_getElem?_getD,List.getElem?_eq_getElem hk];exact List.getElem_mem hk,by rw[h];simp⟩
theorem Vh{n f id:Int}{ps:List Bf}{k:Nat}(hk:k<ps.length)(h0:Ev n f id (ps.take k)=true)(h:MQ n f id (ps.getD k AL)=true):Ev n f id (ps.take (k+1))=true:=by
 unfold Ev at h0⊢
 rw[List.take_succ_eq_append_getElem hk,List.all_append,h0]
 have:ps.getD k AL=ps[k]:=by simp[List.getElem?_eq_getElem hk]
 rw[←this]
 simp only[List.all_cons,List.all_nil,h,Bool.and_true]
theorem Rn{w:World}{b o:Nat}{c:Value}{cs:List Value}(h:w.rangeAt b o (c :: cs)):w.rangeAt b (o+1) cs:=fun j v hv=>by
 have:=h (j+1) v (by simpa using hv)
 rw[show o+1+j=o+(j+1) by omega];exact this
structure RS(t:Bu):Prop where
 s:t.s.size≤1048576
 d:t.d.size≤1048576
 tb:∀p ∈ t.tab,p.2.1.size≤1048576
 h:∀j,j<t.held.length→MS (t.held.getD j AL).2
theorem aD(n f:Int)(t:Bu)(ao bo co od oe:Option Addr)(ca cb cc cd ce:Nat)(w:World)(hm:JF t)(hs:RS t)(h:Ei w t (.slice ao t.qw.length ca) (.slice bo t.pool.length cb) (.slice co t.tab.length cc) (.slice od t.AZ.length cd) (.slice oe t.held.length ce)):
 Calls Tryz.prog 24 #[cv n f,ES t (.slice ao t.qw.length ca) (.slice bo t.pool.length cb) (.slice co t.tab.length cc) (.slice od t.AZ.length cd) (.slice oe t.held.length ce)] w fun e w'=>e= .returned (.bool (Eg n f t))∧Below w.heap.size w w':=by
 have IN:Hid (∀(x lo hi:Int)(w:World),Calls Tryz.prog 65 #[.int .i64 x,.int .i64 lo,.int .i64 hi] w fun e w'=>e= .returned (.bool (decide (lo≤x∧x≤hi)))∧Below w.heap.size w w'):=hide fun x lo hi w=>(GI x lo hi w).mono (by rintro e w' ⟨h,rfl⟩;exact⟨h,Below.refl _ _⟩)
 have CO:=hide fun w=>Ba n f w
 have SO:=hide fun w h=>XN n f t.vo t.lo t.n t.s ao ca t.qw t.d w hs.s hs.d h
 have PO:=hide fun w h=>XW (.slice bo t.pool.length cb) t.pool w h
 have TO:=hide fun w h=>Ua n f (.slice co t.tab.length cc) t.tab w (by have:=hm.tb;omega) hs.tb h
 have DO:=hide fun w=>XX od t.AZ.length cd t.su w
 have MO:=hide fun j hj a b c ka kb kc w h1 h2 h3=>QY n f (t.held.getD j AL).2 a b c ka kb kc w (hs.h j hj) h1 h2 h3
 have HR:=hide h
 have tL:Hid (decide (A8 n f)=true→IntKind.i64.wrap (n-1)=n-1):=hide fun h=>by have:=of_decide_eq_true h;rw[IntKind.wrap_i64]<;>(unfold A8 at this;omega)
 clear h hs
 have i1:=hide fun w=>IN.out t.id 0 (n-1) w
 have i2:=hide fun w=>IN.out t.vw 1 60 w
 have i3:=hide fun w=>IN.out t.ak 0 60 w
 have i4:=hide fun x w=>IN.out x 0 (n-1) w
 unfold Eg
 have NX:=hide fun k(hk:k<t.held.length)(h0:Ev n f t.id (t.held.take k)=true)(h:MQ n f t.id (t.held.getD k AL)=true)=>Vh hk h0 h
 have NO:=hide fun k(hk:k<t.held.length)(h:MQ n f t.id (t.held.getD k AL)=false)=>jI hk h
 have FU:Hid (Ev n f t.id (t.held.take t.held.length)=true→Ev n f t.id t.held=true):=hide fun h=>by rwa [List.take_of_length_le (Nat.le_refl _)]at h
 have hb5:decide ((t.held.length:Int)>30)=!decide (t.held.length≤30):=by by_cases h:t.held.length≤30<;>simp[h]<;>omega
 generalize decide (A8 n f)=b0 at *
 generalize decide (0≤t.id∧t.id≤n-1)=b1 at *
 generalize decide (1≤t.vw∧t.vw≤60)=b2 at *
 generalize decide (0≤t.ak∧t.ak≤60)=b3 at *
 generalize Kz n f t.vo t.lo t.n t.s t.qw t.d=b4 at *
 generalize decide (JP t.pool)=b5 at *
 generalize JW n f t.tab=b6 at *
 generalize Ji t.AZ.length t.su=b7 at *
 generalize decide (t.held.length≤30)=b8 at *
 obtain⟨w0,hw0,AO,LC,A,DN⟩:=GM w #[.int .i64 n,.int .i64 f] 57 #[.int .i64 t.id,.int .i64 t.vw,.int .i64 t.ak,.int .i64 t.vo,.int .i64 t.lo,.int .i64 t.n,.string t.s,.slice ao t.qw.length ca,.string t.d,.slice bo t.pool.length cb,.slice co t.tab.length cc,.slice od t.AZ.length cd,.int .i64 t.su,.slice oe t.held.length ce] 54
 go_enter Tryz.func24,Tryz.ntmps24
 obtain⟨Ae,Aj⟩:=Cr LC 0 1
 go_wp2_with fail
 clear hw0
 refine(CO.out _).mono ?_
 rintro _ w1 ⟨rfl,bb⟩
 clear Ae Aj
 have AP:=bu AO bb
 have Ct:=bb.size
 replace LC:=LC.up bb
 replace A:=A.up bb
 clear AO bb
 cases b0
 ·have BU:=A.cell 13 rfl
  go_wp2
  go_ret
  exact⟨by simp,AP⟩
 have wn:=tL.out rfl
 obtain⟨Ae,Aj⟩:=Cr LC 0 1
 have Bn:=A.cell 0 rfl
 go_wp2_with fail
 refine(i1.out _).mono ?_
 rintro _ w2 ⟨rfl,bb⟩
 clear Ae Aj Bn
 have Am:=bu AP bb
 have El:=bb.size
 replace LC:=LC.up bb
 replace A:=A.up bb
 clear AP bb
 cases b1
 ·have BU:=A.cell 13 rfl
  go_wp2
  go_ret
  exact⟨by simp,Am⟩
 have Ae:=LC.cell 0 rfl
 obtain⟨Bn,DX⟩:=Cr A 0 1
 go_wp2_with fail
 refine(i2.out _).mono ?_
 rintro _ w3 ⟨rfl,bb⟩
 clear Ae Bn DX
 have BP:=bu Am bb
 have IZ:=bb.size
 replace LC:=LC.up bb
 replace A:=A.up bb
 clear Am bb
 cases b2
 ·have BU:=A.cell 13 rfl
  go_wp2
  go_ret
  exact⟨by simp,BP⟩
 have Ae:=LC.cell 0 rfl
 obtain⟨Bn,DX,DW⟩:=Bv A 0 1 2
 go_wp2_with fail
 refine(i3.out _).mono ?_
 rintro _ w4 ⟨rfl,bb⟩
 clear Ae Bn DX DW
 have Cs:=bu BP bb
 have Ph:=bb.size
 replace LC:=LC.up bb
 replace A:=A.up bb
 clear BP bb
 cases b3
 ·have BU:=A.cell 13 rfl
  go_wp2
  go_ret
  exact⟨by simp,Cs⟩
 obtain⟨Ae,Aj⟩:=Cr LC 0 1
 obtain⟨Bn,DX,DW⟩:=Bv A 0 1 2
 go_wp2_with (first|(refine Az [.int .i64 t.vo,.int .i64 t.lo,.int .i64 t.n,.string t.s,.slice ao t.qw.length ca,.string t.d] (A.range 3 6 rfl) 48 _ rfl _ rfl rfl Tryz.underlying48 rfl (by kernel_rfl) ?_))
 refine(SO.out _ (HR.out.q.below Cs)).mono ?_
 rintro _ w5 ⟨rfl,bb⟩
 clear Ae Aj Bn DX DW
 have GZ:=bu Cs bb
 have fQ:=bb.size
 replace LC:=LC.up bb
 replace A:=A.up bb
 clear Cs bb
 cases b4
 ·have BU:=A.cell 13 rfl
  go_wp2
  go_ret
  exact⟨by simp,GZ⟩
 obtain⟨Ae,Aj⟩:=Cr LC 0 1
 have Fb:=A.cell 9 rfl
 go_wp2_with fail
 refine(PO.out _ (HR.out.p.below GZ)).mono ?_
 rintro _ w6 ⟨rfl,bb⟩
 clear Ae Aj Fb
 have J4:=bu GZ bb
 have pE:=bb.size
 replace LC:=LC.up bb
 replace A:=A.up bb
 clear GZ bb
 cases b5
 ·have BU:=A.cell 13 rfl
  go_wp2
  go_ret
  exact⟨by simp,J4⟩
 obtain⟨Ae,Aj⟩:=Cr LC 0 1
 have CG:=A.cell 10 rfl
 go_wp2_with fail
 refine(TO.out _ (HR.out.tb.below J4)).mono ?_
 rintro _ w7 ⟨rfl,bb⟩
 clear Ae Aj CG
 have Li:=bu J4 bb
 have vX:=bb.size
 replace LC:=LC.up bb
 replace A:=A.up bb
 clear J4 bb
 cases b6
 ·have BU:=A.cell 13 rfl
  go_wp2
  go_ret
  exact⟨by simp,Li⟩
 obtain⟨Ae,Aj⟩:=Cr LC 0 1
 have CG:=A.cell 10 rfl
 go_wp2_with (first|(refine Az [.slice od t.AZ.length cd,.int .i64 t.su] (A.range 11 2 rfl) 51 _ rfl _ rfl rfl Tryz.underlying51 rfl (by kernel_rfl) ?_))
 refine(DO.out _).mono ?_
 rintro _ w8 ⟨rfl,bb⟩
 clear Ae Aj CG
 have Q7:=bu Li bb
 have vW:=bb.size
 replace LC:=LC.up bb
 replace A:=A.up bb
 clear Li bb
 cases b7
 ·have BU:=A.cell 13 rfl
  go_wp2
  go_ret
  exact⟨by simp,Q7⟩
 have BU:=A.cell 13 rfl
 cases b8
 ·clear BU
  have BU:=A.cell 13 rfl
  go_wp2
  go_ret
  exact⟨by simp,Q7⟩
 clear BU
 have BU:=A.cell 13 rfl
 obtain⟨Ae,Aj⟩:=Cr LC 0 1
 have hlen:(t.held.length:Int)≤1048577:=by have:=hm.h;omega
 go_wp2
 clear BU Ae Aj
 go_loopw [5] (fun i wr=>∃k:Nat,k≤t.held.length∧i= .int .i64 k∧Below w8.heap.size w8 wr∧Ev n f t.id (t.held.take k)=true) (fun i _=>t.held.length-(intOf i).toNat)
 case atStart=>exact⟨0,Nat.zero_le _,rfl,Below.refl _ _,rfl⟩
 case round=>
  obtain⟨k,hk,rfl,br,ho⟩:=hrel
  have zX:=LC.up br
  have Ar:=A.up br
  have BR:=bu Q7 br
  have a13:=Ar.cell 13 rfl
  have lc0:=zX.cell 0 rfl
  have lc1:=zX.cell 1 rfl
  have a0:=Ar.cell 0 rfl
  by_cases hlt:k<t.held.length
  ·have hr:=HR.out.h.below BR
   obtain⟨g,off,cs,rfl,_,c1,a,b,c,e,ra,rb,rc⟩:=RG.at hr k hlt
   subst e
   have PN:Hid (MQ n f t.id (t.held.getD k AL)=false→Ev n f t.id t.held=false):=hide fun h=>NO.out k hlt h
   have PY:Hid (MQ n f t.id (t.held.getD k AL)=true→Ev n f t.id (t.held.take (k+1))=true):=hide fun h=>NX.out k hlt ho h
   have zW:=hide fun a b c ka kb kc w h1 h2 h3=>MO.out k hlt a b c ka kb kc w h1 h2 h3
   clear hr NO NX MO ho
   unfold MQ at PN PY
   generalize (t.held.getD k AL).1=m at *
   generalize (t.held.getD k AL).2=u at *
   have I4:=hide fun w=>i4.out m w
   have hq3:(m==t.id)=decide (m=t.id):=by by_cases h:m=t.id<;>simp[h]
   generalize Ry n f u=p1 at *
   generalize decide (0≤m∧m≤n-1)=p2 at *
   generalize hp3:decide (m=t.id)=p3 at *
   clear i4 IN hp3
   have c0:wr.cell? ⟨g,off+k*18,none⟩=some (.int .i64 m):=c1 0 _ rfl
   have c17:=Rn c1
   clear c1
   have R1:=hide ra
   have R2:=hide rb
   have R3:=hide rc
   obtain⟨oa,ka,rfl⟩:=ra.form
   obtain⟨ob,kb,rfl⟩:=rb.form
   obtain⟨oc,kc,rfl⟩:=rc.form
   clear ra rb rc
   have g0:g<wr.heap.size:=AY c0
   have K:Hid (∀w',Below wr.heap.size wr w'→(fun w'=>Below wr.heap.size wr w'∧w'.cell? ⟨w.heap.size,0,none⟩=some (.int .i64 n)∧w'.cell? ⟨w.heap.size,1,none⟩=some (.int .i64 f)∧w'.cell? ⟨w.heap.size+1,13,none⟩=some (.slice (some ⟨g,off,none⟩) t.held.length ce)∧w'.cell? ⟨w.heap.size+1,0,none⟩=some (.int .i64 t.id)∧w'.cell? ⟨g,off+k*18,none⟩=some (.int .i64 m)∧w'.rangeAt g (off+k*18+1) [.int .i64 u.k,.int .i64 u.vw,.string u.bn,.int .i64 u.bv,.string u.bs,.slice oa u.bw.length ka,.int .i64 u.pv,.string u.ps,.slice ob u.pw.length kb,.int .i64 u.qv,.string u.qs,.slice oc u.qw.length kc,.int .i64 u.wh,.int .i64 u.fr,.int .i64 u.tu,.int .i64 u.am,.int .i64 u.no]) w'):=hide fun w' hb'=>⟨hb',(zX.up hb').cell 0 rfl,(zX.up hb').cell 1 rfl,(Ar.up hb').cell 13 rfl,(Ar.up hb').cell 0 rfl,(hb'.cell (p:=⟨g,off+k*18,none⟩) g0).trans c0,Ad c17 hb' (CW c17 (by simp))⟩
   clear c17 c0 g0
   cases p1
   ·go_upto_region 6 with fail
    refine Ey K (fun bA hHeld=>?_)
    refine tx 0 69 ?_
    refine tx 1 70 ?_
    refine tx 3 72 ?_
    refine tx 2 71 ?_
    refine tx 4 73 ?_
    refine tx 5 74 ?_
    refine take_at (i:=6) (d:=75) (v:= .agg #[.int .i64 u.k,.int .i64 u.vw,.string u.bn,.int .i64 u.bv,.string u.bs,.slice oa u.bw.length ka,.int .i64 u.pv,.string u.ps,.slice ob u.pw.length kb,.int .i64 u.qv,.string u.qs,.slice oc u.qw.length kc,.int .i64 u.wh,.int .i64 u.fr,.int .i64 u.tu,.int .i64 u.am,.int .i64 u.no]) rfl rfl (by kernel_rfl) (by kernel_rfl) (by kernel_rfl) (fun _ _ _ h=>h) ?_ (by assumption) ?_
    ·exact BV rfl 65 _ rfl rfl [.int .i64 u.k,.int .i64 u.vw,.string u.bn,.int .i64 u.bv,.string u.bs,.slice oa u.bw.length ka,.int .i64 u.pv,.string u.ps,.slice ob u.pw.length kb,.int .i64 u.qv,.string u.qs,.slice oc u.qw.length kc,.int .i64 u.wh,.int .i64 u.fr,.int .i64 u.tu,.int .i64 u.am,.int .i64 u.no] _ (fun w h=>h.2.2.2.2.2.2) Tryz.underlying65 rfl (by kernel_rfl)
    simp only[pU]
    refine rd 7 rfl (fun KK AA=>?_)
    go_simp
    have hgo:=bA
    refine(zW.out _ _ _ _ _ _ _ (R1.out.below bA) (R2.out.below bA) (R3.out.below bA)).mono ?_
    rintro e ku ⟨rfl,bb⟩
    have Ao:Below wr.heap.size wr ku:=bu bA bb
    clear bA hgo bb hHeld
    refine AA.out _ _ (K.out _ Ao) (fun hHeld=>?_)
    clear AA KK
    refine tx 8 77 ?_
    refine tx 9 78 ?_
    refine sx 10 79 ?_
    refine sx 12 81 ?_
    refine sx 16 85 ?_
    refine sx 11 80 ?_
    refine sx 17 86 ?_
    refine sx 13 82 ?_
    refine sx 18 87 ?_
    refine sx 14 83 ?_
    refine sx 15 84 ?_
    refine sx 19 88 ?_
    refine sx 20 89 ?_
    refine tx 21 90 ?_
    refine tx 22 91 ?_
    refine sx 23 92 ?_
    refine sx 25 94 ?_
    refine sx 29 98 ?_
    refine sx 24 93 ?_
    refine sx 30 99 ?_
    refine sx 26 95 ?_
    refine sx 27 96 ?_
    refine sx 28 97 ?_
    refine sx 31 100 ?_
    refine tx 32 101 ?_
    clear hHeld
    refine Bt ?_
    have BZ:=bu BR Ao
    have FA:=PN.out (by simp)
    clear PN PY K
    go_wp2
    go_ret
    exact⟨by rw[FA];simp,BZ⟩
   cases p2
   ·go_upto_region 6 with fail
    refine Ey K (fun bA hHeld=>?_)
    refine tx 0 69 ?_
    refine tx 1 70 ?_
    refine tx 3 72 ?_
    refine tx 2 71 ?_
    refine tx 4 73 ?_
    refine tx 5 74 ?_
    refine take_at (i:=6) (d:=75) (v:= .agg #[.int .i64 u.k,.int .i64 u.vw,.string u.bn,.int .i64 u.bv,.string u.bs,.slice oa u.bw.length ka,.int .i64 u.pv,.string u.ps,.slice ob u.pw.length kb,.int .i64 u.qv,.string u.qs,.slice oc u.qw.length kc,.int .i64 u.wh,.int .i64 u.fr,.int .i64 u.tu,.int .i64 u.am,.int .i64 u.no]) rfl rfl (by kernel_rfl) (by kernel_rfl) (by kernel_rfl) (fun _ _ _ h=>h) ?_ (by assumption) ?_
    ·exact BV rfl 65 _ rfl rfl [.int .i64 u.k,.int .i64 u.vw,.string u.bn,.int .i64 u.bv,.string u.bs,.slice oa u.bw.length ka,.int .i64 u.pv,.string u.ps,.slice ob u.pw.length kb,.int .i64 u.qv,.string u.qs,.slice oc u.qw.length kc,.int .i64 u.wh,.int .i64 u.fr,.int .i64 u.tu,.int .i64 u.am,.int .i64 u.no] _ (fun w h=>h.2.2.2.2.2.2) Tryz.underlying65 rfl (by kernel_rfl)
    simp only[pU]
    refine rd 7 rfl (fun KK AA=>?_)
    go_simp
    have hgo:=bA
    refine(zW.out _ _ _ _ _ _ _ (R1.out.below bA) (R2.out.below bA) (R3.out.below bA)).mono ?_
    rintro e ku ⟨rfl,bb⟩
    have Ao:Below wr.heap.size wr ku:=bu bA bb
    clear bA hgo bb hHeld
    refine AA.out _ _ (K.out _ Ao) (fun hHeld=>?_)
    clear AA KK
    refine tx 8 77 ?_
    refine tx 9 78 ?_
    refine tx 10 79 ?_
    refine tx 12 81 ?_
    refine tx 16 85 ?_
    refine tx 11 80 ?_
    refine tx 17 86 ?_
    refine tx 13 82 ?_
    refine tx 18 87 ?_
    refine tx 14 83 ?_
    refine tx 15 84 ?_
    refine rd 19 rfl (fun KK AA=>?_)
    go_simp
    have hgo:=Ao
    refine(I4.out _).mono ?_
    rintro e o7 ⟨rfl,bb⟩
    have BN:Below wr.heap.size wr o7:=bu Ao bb
    clear Ao hgo bb hHeld
    refine AA.out _ _ (K.out _ BN) (fun hHeld=>?_)
    clear AA KK
    refine tx 20 89 ?_
    refine tx 21 90 ?_
    refine tx 22 91 ?_
    refine sx 23 92 ?_
    refine sx 25 94 ?_
    refine sx 29 98 ?_
    refine sx 24 93 ?_
    refine sx 30 99 ?_
    refine sx 26 95 ?_
    refine sx 27 96 ?_
    refine sx 28 97 ?_
    refine sx 31 100 ?_
    refine tx 32 101 ?_
    clear hHeld
    refine Bt ?_
    have BZ:=bu BR BN
    have FA:=PN.out (by simp)
    clear PN PY K
    go_wp2
    go_ret
    exact⟨by rw[FA];simp,BZ⟩
   cases p3
   ·go_upto_region 6 with fail
    refine Ey K (fun bA hHeld=>?_)
    refine tx 0 69 ?_
    refine tx 1 70 ?_
    refine tx 3 72 ?_
    refine tx 2 71 ?_
    refine tx 4 73 ?_
    refine tx 5 74 ?_
    refine take_at (i:=6) (d:=75) (v:= .agg #[.int .i64 u.k,.int .i64 u.vw,.string u.bn,.int .i64 u.bv,.string u.bs,.slice oa u.bw.length ka,.int .i64 u.pv,.string u.ps,.slice ob u.pw.length kb,.int .i64 u.qv,.string u.qs,.slice oc u.qw.length kc,.int .i64 u.wh,.int .i64 u.fr,.int .i64 u.tu,.int .i64 u.am,.int .i64 u.no]) rfl rfl (by kernel_rfl) (by kernel_rfl) (by kernel_rfl) (fun _ _ _ h=>h) ?_ (by assumption) ?_
    ·exact BV rfl 65 _ rfl rfl [.int .i64 u.k,.int .i64 u.vw,.string u.bn,.int .i64 u.bv,.string u.bs,.slice oa u.bw.length ka,.int .i64 u.pv,.string u.ps,.slice ob u.pw.length kb,.int .i64 u.qv,.string u.qs,.slice oc u.qw.length kc,.int .i64 u.wh,.int .i64 u.fr,.int .i64 u.tu,.int .i64 u.am,.int .i64 u.no] _ (fun w h=>h.2.2.2.2.2.2) Tryz.underlying65 rfl (by kernel_rfl)
    simp only[pU]
    refine rd 7 rfl (fun KK AA=>?_)
    go_simp
    have hgo:=bA
    refine(zW.out _ _ _ _ _ _ _ (R1.out.below bA) (R2.out.below bA) (R3.out.below bA)).mono ?_
    rintro e ku ⟨rfl,bb⟩
    have Ao:Below wr.heap.size wr ku:=bu bA bb
    clear bA hgo bb hHeld
    refine AA.out _ _ (K.out _ Ao) (fun hHeld=>?_)
    clear AA KK
    refine tx 8 77 ?_
    refine tx 9 78 ?_
    refine tx 10 79 ?_
    refine tx 12 81 ?_
    refine tx 16 85 ?_
    refine tx 11 80 ?_
    refine tx 17 86 ?_
    refine tx 13 82 ?_
    refine tx 18 87 ?_
    refine tx 14 83 ?_
    refine tx 15 84 ?_
    refine rd 19 rfl (fun KK AA=>?_)
    go_simp
    have hgo:=Ao
    refine(I4.out _).mono ?_
    rintro e o7 ⟨rfl,bb⟩
    have BN:Below wr.heap.size wr o7:=bu Ao bb
    clear Ao hgo bb hHeld
    refine AA.out _ _ (K.out _ BN) (fun hHeld=>?_)
    clear AA KK
    refine tx 20 89 ?_
    refine tx 21 90 ?_
    refine tx 22 91 ?_
    refine tx 23 92 ?_
    refine tx 25 94 ?_
    refine tx 29 98 ?_
    refine tx 24 93 ?_
    refine tx 30 99 ?_
    refine tx 26 95 ?_
    refine tx 27 96 ?_
    refine tx 28 97 ?_
    refine tx 31 100 ?_
    refine tx 32 101 ?_
    clear hHeld
    refine Bt ?_
    have BZ:=bu br BN
    have TR:=PY.out (by simp)
    clear PN PY K
    go_wp2
    go_roundw
    case rel=>exact⟨k+1,by omega,by go_num,BZ,TR⟩
    case measure=>simp[intOf];omega
   go_upto_region 6 with fail
   refine Ey K (fun bA hHeld=>?_)
   refine tx 0 69 ?_
   refine tx 1 70 ?_
   refine tx 3 72 ?_
   refine tx 2 71 ?_
   refine tx 4 73 ?_
   refine tx 5 74 ?_
   refine take_at (i:=6) (d:=75) (v:= .agg #[.int .i64 u.k,.int .i64 u.vw,.string u.bn,.int .i64 u.bv,.string u.bs,.slice oa u.bw.length ka,.int .i64 u.pv,.string u.ps,.slice ob u.pw.length kb,.int .i64 u.qv,.string u.qs,.slice oc u.qw.length kc,.int .i64 u.wh,.int .i64 u.fr,.int .i64 u.tu,.int .i64 u.am,.int .i64 u.no]) rfl rfl (by kernel_rfl) (by kernel_rfl) (by kernel_rfl) (fun _ _ _ h=>h) ?_ (by assumption) ?_
   ·exact BV rfl 65 _ rfl rfl [.int .i64 u.k,.int .i64 u.vw,.string u.bn,.int .i64 u.bv,.string u.bs,.slice oa u.bw.length ka,.int .i64 u.pv,.string u.ps,.slice ob u.pw.length kb,.int .i64 u.qv,.string u.qs,.slice oc u.qw.length kc,.int .i64 u.wh,.int .i64 u.fr,.int .i64 u.tu,.int .i64 u.am,.int .i64 u.no] _ (fun w h=>h.2.2.2.2.2.2) Tryz.underlying65 rfl (by kernel_rfl)
   simp only[pU]
   refine rd 7 rfl (fun KK AA=>?_)
   go_simp
   have hgo:=bA
   refine(zW.out _ _ _ _ _ _ _ (R1.out.below bA) (R2.out.below bA) (R3.out.below bA)).mono ?_
   rintro e ku ⟨rfl,bb⟩
   have Ao:Below wr.heap.size wr ku:=bu bA bb
   clear bA hgo bb hHeld
   refine AA.out _ _ (K.out _ Ao) (fun hHeld=>?_)
   clear AA KK
   refine tx 8 77 ?_
   refine tx 9 78 ?_
   refine tx 10 79 ?_
   refine tx 12 81 ?_
   refine tx 16 85 ?_
   refine tx 11 80 ?_
   refine tx 17 86 ?_
   refine tx 13 82 ?_
   refine tx 18 87 ?_
   refine tx 14 83 ?_
   refine tx 15 84 ?_
   refine rd 19 rfl (fun KK AA=>?_)
   go_simp
   have hgo:=Ao
   refine(I4.out _).mono ?_
   rintro e o7 ⟨rfl,bb⟩
   have BN:Below wr.heap.size wr o7:=bu Ao bb
   clear Ao hgo bb hHeld
   refine AA.out _ _ (K.out _ BN) (fun hHeld=>?_)
   clear AA KK
   refine tx 20 89 ?_
   refine tx 21 90 ?_
   refine tx 22 91 ?_
   refine tx 23 92 ?_
   refine tx 25 94 ?_
   refine tx 29 98 ?_
   refine tx 24 93 ?_
   refine tx 30 99 ?_
   refine tx 26 95 ?_
   refine tx 27 96 ?_
   refine tx 28 97 ?_
   refine tx 31 100 ?_
   refine tx 32 101 ?_
   clear hHeld
   refine Bt ?_
   have BZ:=bu BR BN
   have FA:=PN.out (by simp)
   clear PN PY K
   go_wp2
   go_ret
   exact⟨by rw[FA];simp,BZ⟩
  have hkn:k=t.held.length:=by omega
  rw[hkn]at ho
  have FA:=FU.out ho
  subst hkn
  clear NO NX MO FU ho
  go_wp2
  go_ret
  exact⟨by rw[FA];simp,BR⟩
end
section
open Go.RowKit
variable [∀(a b c d:Int),Decidable (BD a b c d)]
variable [∀(a b c d:Nat),Decidable (Dj a b c d)]
variable [∀(last:Int)(s:St),Decidable (Au last s)]
variable [∀(x:T4),Decidable (Dr x)]
variable [∀(n:Int)(s:List Int),Decidable (Dt n s)]
variable [∀(n f:Int),Decidable (A8 n f)]
theorem mI(n f m:Int)(s:ByteArray)(xs:List Int):DV n f m s xs=(decide (A8 n f)&&(decide (1≤m∧m≤60)&&((decide (s=⟨#[]⟩)||(Aq s==m))&&(decide ((0:Int)<(xs.length:Int))&&decide (Dt n xs))))):=by
 have hx:decide (xs≠[])=decide ((0:Int)<(xs.length:Int)):=by cases xs with|nil=>rfl|cons a l=>simp<;>omega
 have hv:(Aq s==m)=decide (Aq s=m):=by rw[Bool.eq_iff_iff,beq_iff_eq,decide_eq_true_iff]
 unfold DV
 rw[hx,hv]
 by_cases hm:1≤m∧m≤60
 ·cases hk:(AQ s).isSome with
  |true=>simp only[Bool.true_and];cases decide (A8 n f)<;>cases decide (1≤m∧m≤60)<;>cases decide (Dt n xs)<;>cases decide ((0:Int)<(xs.length:Int))<;>simp
  |false=>
   have h0:=QL hk
   have:decide (Aq s=m)=false:=by simp;omega
   rw[this]
   cases decide (A8 n f)<;>cases decide (1≤m∧m≤60)<;>cases decide (Dt n xs)<;>cases decide ((0:Int)<(xs.length:Int))<;>simp
 rw[decide_eq_false hm];simp
theorem DZ(x lo hi:Int)(w:World):Calls Tryz.prog 103 #[.int .i64 x,.int .i64 lo,.int .i64 hi] w fun e w'=>e= .returned (.bool (decide (lo≤x∧x≤hi)))∧Below w.heap.size w w':=by
 by_cases h:lo≤x∧x≤hi
 ·rw[decide_eq_true h];exact(Cf x lo hi w h.1 h.2).mono fun _ _ h=>⟨h.1,h.2▸Below.refl _ _⟩
 rw[decide_eq_false h];exact(Di x lo hi w (by omega)).mono fun _ _ h=>⟨h.1,h.2▸Below.refl _ _⟩

theorem Rw(m:Int)(s:ByteArray)(u:Value)(w:World)(hs:s.size≤33554432)(hE:Env w):
 Calls Tryz.prog 155 #[qv m s u] w fun e w'=>e= .returned (.bool (decide (s=⟨#[]⟩)||(Aq s==m)))∧Below w.heap.size w w':=by
 obtain⟨w0,hw0,AO,LP,_⟩:=bx1 w #[.int .i64 m,.string s,u] 62
 have HE:=hide (hE.below AO)
 have VO:=hide fun w hE=>Ox s w hs hE
 generalize Aq s=vw at *
 clear hE
 by_cases he:s=⟨#[]⟩
 ·have hd:decide (s=⟨#[]⟩)=true:=by simpa using he
  have hy:(s.toList==[])=true:=by rw[he,ByteArray.toList_eq];rfl
  rw[hd,Bool.true_or]
  clear he hd
  go_enter Tryz.func155,Tryz.ntmps155
  have K:=kw (VN LP 0 1 2)
  go_upto_region 1 with fail
  clear hw0
  refine Ey K (fun bA hHeld=>?_)
  refine tx 0 3 ?_
  refine tx 1 4 ?_
  refine tx 2 5 ?_
  refine tx 3 6 ?_
  refine sx 4 7 ?_
  refine sx 7 10 ?_
  refine sx 5 8 ?_
  refine sx 8 11 ?_
  refine sx 6 9 ?_
  refine sx 9 12 ?_
  refine tx 10 13 ?_
  refine tx 11 2 ?_
  clear hHeld
  refine Bt ?_
  obtain⟨Tu,hwd⟩:∃y,w0.drew=y:=⟨_,rfl⟩
  rw[hwd]at bA⊢
  clear hwd
  have bb:=bA
  have FK:=bu AO bb
  have gu:=bb.size
  replace LP:=LP.up bb
  clear AO bb bA K
  go_wp2
  go_ret
  exact⟨rfl,FK⟩
 have hd:decide (s=⟨#[]⟩)=false:=by simpa using he
 have hne:=uH he
 rw[hd,Bool.false_or]
 clear he hd
 go_enter Tryz.func155,Tryz.ntmps155
 have K:=kw (VN LP 0 1 2)
 go_upto_region 1 with fail
 clear hw0
 refine Ey K (fun bA hHeld=>?_)
 refine tx 0 3 ?_
 refine tx 1 4 ?_
 refine tx 2 5 ?_
 refine tx 3 6 ?_
 refine tx 4 7 ?_
 refine tx 7 10 ?_
 refine tx 5 8 ?_
 refine tx 8 11 ?_
 refine rd 6 rfl (fun KK AA=>?_)
 go_simp
 have hgo:=bA
 refine(VO.out _ (HE.out.below hgo)).mono ?_
 rintro e DY ⟨rfl,bb⟩
 have Ao:Below w0.heap.size w0 DY:=bu bA bb
 clear bA hgo bb hHeld
 refine AA.out _ _ (K.out _ Ao) (fun hHeld=>?_)
 clear AA KK
 refine tx 9 12 ?_
 refine tx 10 13 ?_
 refine tx 11 2 ?_
 clear hHeld
 refine Bt ?_
 have bb:=Ao
 have Pf:=bu AO bb
 have gY:=bb.size
 replace LP:=LP.up bb
 clear AO bb Ao K
 go_wp2
 go_ret
 exact⟨rfl,Pf⟩

theorem Oz(n f m:Int)(s:ByteArray)(u:Value)(xs:List Int)(w:World)(hs:s.size≤33554432)(hE:Env w)(hu:RI w u xs):
 Calls Tryz.prog 129 #[cv n f,qv m s u] w fun e w'=>e= .returned (.bool (DV n f m s xs))∧Below w.heap.size w w':=by
 obtain⟨ua,uc,rfl⟩:=hu.form
 rw[mI]
 obtain⟨k,hk⟩:∃k,xs.length=k:=⟨_,rfl⟩
 have CO:=hide fun w=>Cx n f w
 have IN:=hide fun w=>DZ m 1 60 w
 have NI:=hide fun w hE=>Rw m s (.slice ua xs.length uc) w hs hE
 have SO:=hide fun w h=>Qq n (.slice ua xs.length uc) xs w h
 obtain⟨w0,hw0,AO,LC,LP,_⟩:=GM w #[.int .i64 n,.int .i64 f] 57 #[.int .i64 m,.string s,.slice ua xs.length uc] 62
 have ze:=hide fun w'(hb:Below w.heap.size w w')=>hE.below hb
 have RU:=hide fun w'(hb:Below w.heap.size w w')=>hu.below hb
 rw[hk]at NI SO LP RU hw0⊢
 clear hu hE hk
 generalize decide (A8 n f)=c at *
 generalize decide (1≤m∧m≤60)=r at *
 generalize (decide (s=⟨#[]⟩)||(Aq s==m))=v at *
 generalize decide (Dt n xs)=o at *
 cases c
 ·simp only[Bool.false_and]
  go_enter Tryz.func129,Tryz.ntmps129
  obtain⟨Ae,Aj⟩:=Cr LC 0 1
  go_wp2_with fail
  clear hw0
  refine(CO.out _).mono ?_
  rintro _ w1 ⟨rfl,bb⟩
  clear Ae Aj
  have AP:=bu AO bb
  have Ct:=bb.size
  replace LC:=LC.up bb
  replace LP:=LP.up bb
  clear AO bb
  obtain⟨Ae,Aj⟩:=Cr LC 0 1
  obtain⟨BL,BK,BJ⟩:=Bv LP 0 1 2
  go_wp2
  go_ret
  exact⟨rfl,AP⟩
 simp only[Bool.true_and]
 cases r
 ·simp only[Bool.false_and]
  go_enter Tryz.func129,Tryz.ntmps129
  obtain⟨Ae,Aj⟩:=Cr LC 0 1
  go_wp2_with fail
  clear hw0
  refine(CO.out _).mono ?_
  rintro _ w1 ⟨rfl,bb⟩
  clear Ae Aj
  have AP:=bu AO bb
  have Ct:=bb.size
  replace LC:=LC.up bb
  replace LP:=LP.up bb
  clear AO bb
  obtain⟨BL,BK,BJ⟩:=Bv LP 0 1 2
  go_wp2_with fail
  refine(IN.out _).mono ?_
  rintro _ w2 ⟨rfl,bb⟩
  clear BL BK BJ
  have Am:=bu AP bb
  have El:=bb.size
  replace LC:=LC.up bb
  replace LP:=LP.up bb
  clear AP bb
  obtain⟨Ae,Aj⟩:=Cr LC 0 1
  obtain⟨BL,BK,BJ⟩:=Bv LP 0 1 2
  go_wp2
  go_ret
  exact⟨rfl,Am⟩
 simp only[Bool.true_and]
 cases v
 ·simp only[Bool.false_and]
  go_enter Tryz.func129,Tryz.ntmps129
  obtain⟨Ae,Aj⟩:=Cr LC 0 1
  go_wp2_with fail
  clear hw0
  refine(CO.out _).mono ?_
  rintro _ w1 ⟨rfl,bb⟩
  clear Ae Aj
  have AP:=bu AO bb
  have Ct:=bb.size
  replace LC:=LC.up bb
  replace LP:=LP.up bb
  clear AO bb
  obtain⟨BL,BK,BJ⟩:=Bv LP 0 1 2
  go_wp2_with fail
  refine(IN.out _).mono ?_
  rintro _ w2 ⟨rfl,bb⟩
  clear BL BK BJ
  have Am:=bu AP bb
  have El:=bb.size
  replace LC:=LC.up bb
  replace LP:=LP.up bb
  clear AP bb
  obtain⟨BL,BK,BJ⟩:=Bv LP 0 1 2
  go_wp2_with fail
  refine(NI.out _ (ze.out _ Am)).mono ?_
  rintro _ w3 ⟨rfl,bb⟩
  clear BL BK BJ
  have BP:=bu Am bb
  have IZ:=bb.size
  replace LC:=LC.up bb
  replace LP:=LP.up bb
  clear Am bb
  obtain⟨Ae,Aj⟩:=Cr LC 0 1
  obtain⟨BL,BK,BJ⟩:=Bv LP 0 1 2
  go_wp2
  go_ret
  exact⟨rfl,BP⟩
 simp only[Bool.true_and]
 by_cases hk:k=0
 ·subst hk
  have hd0:decide ((0:Int)<((0:Nat):Int))=false:=rfl
  rw[hd0]
  simp only[Bool.false_and]
  go_enter Tryz.func129,Tryz.ntmps129
  obtain⟨Ae,Aj⟩:=Cr LC 0 1
  go_wp2_with fail
  clear hw0
  refine(CO.out _).mono ?_
  rintro _ w1 ⟨rfl,bb⟩
  clear Ae Aj
  have AP:=bu AO bb
  have Ct:=bb.size
  replace LC:=LC.up bb
  replace LP:=LP.up bb
  clear AO bb
  obtain⟨BL,BK,BJ⟩:=Bv LP 0 1 2
  go_wp2_with fail
  refine(IN.out _).mono ?_
  rintro _ w2 ⟨rfl,bb⟩
  clear BL BK BJ
  have Am:=bu AP bb
  have El:=bb.size
  replace LC:=LC.up bb
  replace LP:=LP.up bb
  clear AP bb
  obtain⟨BL,BK,BJ⟩:=Bv LP 0 1 2
  go_wp2_with fail
  refine(NI.out _ (ze.out _ Am)).mono ?_
  rintro _ w3 ⟨rfl,bb⟩
  clear BL BK BJ
  have BP:=bu Am bb
  have IZ:=bb.size
  replace LC:=LC.up bb
  replace LP:=LP.up bb
  clear Am bb
  obtain⟨Ae,Aj⟩:=Cr LC 0 1
  obtain⟨BL,BK,BJ⟩:=Bv LP 0 1 2
  go_wp2
  go_ret
  exact⟨rfl,BP⟩
 have hd0:decide ((0:Int)<(k:Int))=true:=by simp;omega
 rw[hd0]
 simp only[Bool.true_and]
 cases o
 ·go_enter Tryz.func129,Tryz.ntmps129
  obtain⟨Ae,Aj⟩:=Cr LC 0 1
  go_wp2_with fail
  clear hw0
  refine(CO.out _).mono ?_
  rintro _ w1 ⟨rfl,bb⟩
  clear Ae Aj
  have AP:=bu AO bb
  have Ct:=bb.size
  replace LC:=LC.up bb
  replace LP:=LP.up bb
  clear AO bb
  obtain⟨BL,BK,BJ⟩:=Bv LP 0 1 2
  go_wp2_with fail
  refine(IN.out _).mono ?_
  rintro _ w2 ⟨rfl,bb⟩
  clear BL BK BJ
  have Am:=bu AP bb
  have El:=bb.size
  replace LC:=LC.up bb
  replace LP:=LP.up bb
  clear AP bb
  obtain⟨BL,BK,BJ⟩:=Bv LP 0 1 2
  go_wp2_with fail
  refine(NI.out _ (ze.out _ Am)).mono ?_
  rintro _ w3 ⟨rfl,bb⟩
  clear BL BK BJ
  have BP:=bu Am bb
  have IZ:=bb.size
  replace LC:=LC.up bb
  replace LP:=LP.up bb
  clear Am bb
  obtain⟨Ae,Aj⟩:=Cr LC 0 1
  obtain⟨BL,BK,BJ⟩:=Bv LP 0 1 2
  go_wp2_with fail
  refine(SO.out _ (RU.out _ BP)).mono ?_
  rintro _ w4 ⟨rfl,bb⟩
  clear Ae Aj BL BK BJ
  have Cs:=bu BP bb
  have Ph:=bb.size
  replace LC:=LC.up bb
  replace LP:=LP.up bb
  clear BP bb
  obtain⟨Ae,Aj⟩:=Cr LC 0 1
  obtain⟨BL,BK,BJ⟩:=Bv LP 0 1 2
  go_wp2
  go_ret
  exact⟨rfl,Cs⟩
 go_enter Tryz.func129,Tryz.ntmps129
 obtain⟨Ae,Aj⟩:=Cr LC 0 1
 go_wp2_with fail
 clear hw0
 refine(CO.out _).mono ?_
 rintro _ w1 ⟨rfl,bb⟩
 clear Ae Aj
 have AP:=bu AO bb
 have Ct:=bb.size
 replace LC:=LC.up bb
 replace LP:=LP.up bb
 clear AO bb
 obtain⟨BL,BK,BJ⟩:=Bv LP 0 1 2
 go_wp2_with fail
 refine(IN.out _).mono ?_
 rintro _ w2 ⟨rfl,bb⟩
 clear BL BK BJ
 have Am:=bu AP bb
 have El:=bb.size
 replace LC:=LC.up bb
 replace LP:=LP.up bb
 clear AP bb
 obtain⟨BL,BK,BJ⟩:=Bv LP 0 1 2
 go_wp2_with fail
 refine(NI.out _ (ze.out _ Am)).mono ?_
 rintro _ w3 ⟨rfl,bb⟩
 clear BL BK BJ
 have BP:=bu Am bb
 have IZ:=bb.size
 replace LC:=LC.up bb
 replace LP:=LP.up bb
 clear Am bb
 obtain⟨Ae,Aj⟩:=Cr LC 0 1
 obtain⟨BL,BK,BJ⟩:=Bv LP 0 1 2
 go_wp2_with fail
 refine(SO.out _ (RU.out _ BP)).mono ?_
 rintro _ w4 ⟨rfl,bb⟩
 clear Ae Aj BL BK BJ
 have Cs:=bu BP bb
 have Ph:=bb.size
 replace LC:=LC.up bb
 replace LP:=LP.up bb
 clear BP bb
 obtain⟨Ae,Aj⟩:=Cr LC 0 1
 obtain⟨BL,BK,BJ⟩:=Bv LP 0 1 2
 go_wp2
 go_ret
 exact⟨rfl,Cs⟩
abbrev sB(bn:ByteArray)(bv:Int)(bs:ByteArray)(a:Value):Value:= .agg #[.string bn,.int .i64 bv,.string bs,a]
abbrev sP(v:Int)(s:ByteArray)(a:Value):Value:= .agg #[.int .i64 v,.string s,a]
abbrev sV(v h:Int)(q:Int)(s:ByteArray)(a:Value):Value:= .agg #[.int .i64 v,.int .i64 h,.int .i64 q,.string s,a]
abbrev sX(a b c d:Int):Value:= .agg #[.int .i64 a,.int .i64 b,.int .i64 c,.int .i64 d]
def mB(bn:ByteArray)(bv:Int)(bs:ByteArray)(bw:List Int):MT:=⟨1,0,bn,bv,bs,bw,0,⟨#[]⟩,[],0,⟨#[]⟩,[],0,0,0,0,0⟩
def mP(v:Int)(s:ByteArray)(xs:List Int):MT:=⟨2,0,⟨#[]⟩,0,⟨#[]⟩,[],v,s,xs,0,⟨#[]⟩,[],0,0,0,0,0⟩
def mV(v h q:Int)(s:ByteArray)(xs:List Int):MT:=⟨3,v,⟨#[]⟩,0,⟨#[]⟩,[],0,⟨#[]⟩,[],q,s,xs,h,0,0,0,0⟩
def mX(a b c d:Int):MT:=⟨4,0,⟨#[]⟩,0,⟨#[]⟩,[],0,⟨#[]⟩,[],0,⟨#[]⟩,[],0,a,b,c,d⟩
theorem rX{t:MT}(h:t.k=1):bf t=mB t.bn t.bv t.bs t.bw:=by unfold bf mB;rw[h]
theorem rW{t:MT}(h:t.k=2):bV t=mP t.pv t.ps t.pw:=by unfold bV mP;rw[h]
theorem rV{t:MT}(h:t.k=3):bT t=mV t.vw t.wh t.qv t.qs t.qw:=by unfold bT mV;rw[h]
theorem rU{t:MT}(h:t.k=4):bS t=mX t.fr t.tu t.am t.no:=by unfold bS mX;rw[h]
abbrev IL:Value:= .slice none 0 0
theorem AAB(v:Value)(w:World):(Instr.typeAssert (.iface 195 v) 177 195 true).run Tryz.prog w= .ok (.tuple #[v,.bool true]) w:=by kernel_rfl
theorem AAA(v:Value)(w:World):(Instr.typeAssert (.iface 196 v) 177 195 true).run Tryz.prog w= .ok (.tuple #[.agg #[.string ⟨#[]⟩,.int .i64 0,.string ⟨#[]⟩,.slice none 0 0],.bool false]) w:=by kernel_rfl
theorem z_(v:Value)(w:World):(Instr.typeAssert (.iface 196 v) 177 196 true).run Tryz.prog w= .ok (.tuple #[v,.bool true]) w:=by kernel_rfl
theorem z8(v:Value)(w:World):(Instr.typeAssert (.iface 198 v) 177 195 true).run Tryz.prog w= .ok (.tuple #[.agg #[.string ⟨#[]⟩,.int .i64 0,.string ⟨#[]⟩,.slice none 0 0],.bool false]) w:=by kernel_rfl
theorem zz(v:Value)(w:World):(Instr.typeAssert (.iface 198 v) 177 196 true).run Tryz.prog w= .ok (.tuple #[.agg #[.int .i64 0,.string ⟨#[]⟩,.slice none 0 0],.bool false]) w:=by kernel_rfl
theorem zy(v:Value)(w:World):(Instr.typeAssert (.iface 198 v) 177 198 true).run Tryz.prog w= .ok (.tuple #[v,.bool true]) w:=by kernel_rfl
theorem zx(v:Value)(w:World):(Instr.typeAssert (.iface 199 v) 177 195 true).run Tryz.prog w= .ok (.tuple #[.agg #[.string ⟨#[]⟩,.int .i64 0,.string ⟨#[]⟩,.slice none 0 0],.bool false]) w:=by kernel_rfl
theorem zw(v:Value)(w:World):(Instr.typeAssert (.iface 199 v) 177 196 true).run Tryz.prog w= .ok (.tuple #[.agg #[.int .i64 0,.string ⟨#[]⟩,.slice none 0 0],.bool false]) w:=by kernel_rfl
theorem zu(v:Value)(w:World):(Instr.typeAssert (.iface 199 v) 177 198 true).run Tryz.prog w= .ok (.tuple #[.agg #[.int .i64 0,.int .i64 0,.int .i64 0,.string ⟨#[]⟩,.slice none 0 0],.bool false]) w:=by kernel_rfl
theorem zt(v:Value)(w:World):(Instr.typeAssert (.iface 199 v) 177 199 true).run Tryz.prog w= .ok (.tuple #[v,.bool true]) w:=by kernel_rfl
theorem SG(t:MT)(a b c:Value)(w:World)(hk:t.k=1):
 Calls Tryz.prog 135 #[Dp t a b c] w fun e w'=>e= .returned (.iface 195 (sB t.bn t.bv t.bs a))∧Below w.heap.size w w':=by
 have dk1:decide (t.k=1)=true:=by simpa using hk
 have ZZ:(t.k==1)=true:=by simpa using hk
 clear hk
 obtain⟨w0,hw0,AO,A,DN⟩:=bx1 w #[.int .i64 t.k,.int .i64 t.vw,.string t.bn,.int .i64 t.bv,.string t.bs,a,.int .i64 t.pv,.string t.ps,b,.int .i64 t.qv,.string t.qs,c,.int .i64 t.wh,.int .i64 t.fr,.int .i64 t.tu,.int .i64 t.am,.int .i64 t.no] 65
 go_enter Tryz.func135,Tryz.ntmps135
 obtain⟨Bn,DW,Eh,FC,F6⟩:=Zb A 0 2 3 4 5
 go_wp2
 clear hw0
 go_ret
 exact⟨rfl,AO⟩
theorem SF(t:MT)(a b c:Value)(w:World)(hk:t.k=2):
 Calls Tryz.prog 135 #[Dp t a b c] w fun e w'=>e= .returned (.iface 196 (sP t.pv t.ps b))∧Below w.heap.size w w':=by
 have dk1:decide (t.k=1)=false:=by simp;omega
 have ZZ:(t.k==1)=false:=by simp;omega
 have dk2:decide (t.k=2)=true:=by simpa using hk
 have jW:(t.k==2)=true:=by simpa using hk
 clear hk
 obtain⟨w0,hw0,AO,A,DN⟩:=bx1 w #[.int .i64 t.k,.int .i64 t.vw,.string t.bn,.int .i64 t.bv,.string t.bs,a,.int .i64 t.pv,.string t.ps,b,.int .i64 t.qv,.string t.qs,c,.int .i64 t.wh,.int .i64 t.fr,.int .i64 t.tu,.int .i64 t.am,.int .i64 t.no] 65
 go_enter Tryz.func135,Tryz.ntmps135
 obtain⟨Bn,Gh,GL,Gg⟩:=WO A 0 6 7 8
 go_wp2
 clear hw0
 go_ret
 exact⟨rfl,AO⟩
theorem SE(t:MT)(a b c:Value)(w:World)(hk:t.k=3):
 Calls Tryz.prog 135 #[Dp t a b c] w fun e w'=>e= .returned (.iface 198 (sV t.vw t.wh t.qv t.qs c))∧Below w.heap.size w w':=by
 have dk1:decide (t.k=1)=false:=by simp;omega
 have ZZ:(t.k==1)=false:=by simp;omega
 have dk2:decide (t.k=2)=false:=by simp;omega
 have jW:(t.k==2)=false:=by simp;omega
 have dk3:decide (t.k=3)=true:=by simpa using hk
 have qF:(t.k==3)=true:=by simpa using hk
 clear hk
 obtain⟨w0,hw0,AO,A,DN⟩:=bx1 w #[.int .i64 t.k,.int .i64 t.vw,.string t.bn,.int .i64 t.bv,.string t.bs,a,.int .i64 t.pv,.string t.ps,b,.int .i64 t.qv,.string t.qs,c,.int .i64 t.wh,.int .i64 t.fr,.int .i64 t.tu,.int .i64 t.am,.int .i64 t.no] 65
 go_enter Tryz.func135,Tryz.ntmps135
 obtain⟨Bn,DX,Fb,CG,Ch,Cy⟩:=QG A 0 1 9 10 11 12
 go_wp2
 clear hw0
 go_ret
 exact⟨rfl,AO⟩
theorem SC(t:MT)(a b c:Value)(w:World)(hk:t.k=4):
 Calls Tryz.prog 135 #[Dp t a b c] w fun e w'=>e= .returned (.iface 199 (sX t.fr t.tu t.am t.no))∧Below w.heap.size w w':=by
 have dk1:decide (t.k=1)=false:=by simp;omega
 have ZZ:(t.k==1)=false:=by simp;omega
 have dk2:decide (t.k=2)=false:=by simp;omega
 have jW:(t.k==2)=false:=by simp;omega
 have dk3:decide (t.k=3)=false:=by simp;omega
 have qF:(t.k==3)=false:=by simp;omega
 have xJ:decide (t.k=4)=true:=by simpa using hk
 have xG:(t.k==4)=true:=by simpa using hk
 clear hk
 obtain⟨w0,hw0,AO,A,DN⟩:=bx1 w #[.int .i64 t.k,.int .i64 t.vw,.string t.bn,.int .i64 t.bv,.string t.bs,a,.int .i64 t.pv,.string t.ps,b,.int .i64 t.qv,.string t.qs,c,.int .i64 t.wh,.int .i64 t.fr,.int .i64 t.tu,.int .i64 t.am,.int .i64 t.no] 65
 go_enter Tryz.func135,Tryz.ntmps135
 obtain⟨Bn,BU,DK,DJ,DF⟩:=Zb A 0 13 14 15 16
 go_wp2
 clear hw0
 go_ret
 exact⟨rfl,AO⟩
theorem SH(t:MT)(a b c:Value)(w:World)(h1:¬t.k=1)(h2:¬t.k=2)(h3:¬t.k=3)(h4:¬t.k=4):
 Calls Tryz.prog 135 #[Dp t a b c] w fun e w'=>e= .returned (.nilIface)∧Below w.heap.size w w':=by
 have dk1:decide (t.k=1)=false:=by simp;omega
 have ZZ:(t.k==1)=false:=by simp;omega
 have dk2:decide (t.k=2)=false:=by simp;omega
 have jW:(t.k==2)=false:=by simp;omega
 have dk3:decide (t.k=3)=false:=by simp;omega
 have qF:(t.k==3)=false:=by simp;omega
 have xJ:decide (t.k=4)=false:=by simp;omega
 have xG:(t.k==4)=false:=by simp;omega
 obtain⟨w0,hw0,AO,A,DN⟩:=bx1 w #[.int .i64 t.k,.int .i64 t.vw,.string t.bn,.int .i64 t.bv,.string t.bs,a,.int .i64 t.pv,.string t.ps,b,.int .i64 t.qv,.string t.qs,c,.int .i64 t.wh,.int .i64 t.fr,.int .i64 t.tu,.int .i64 t.am,.int .i64 t.no] 65
 go_enter Tryz.func135,Tryz.ntmps135
 have Bn:=A.cell 0 rfl
 go_wp2
 clear hw0
 go_ret
 exact⟨rfl,AO⟩
end
end Go.Proofs.YtkmnfeihjjccmaaGreatDoor
