/- RepTellW: the walk of laws.FnExactTell -/
import Derived.Test.YtkmnfeihjjccmaaGreatDoorTLBJ
set_option linter.unusedSectionVars false
set_option linter.unusedSimpArgs false
namespace Go.Proofs.YtkmnfeihjjccmaaGreatDoor
section
open Go Go.RowKit
variable [∀(a b c d:Int),Decidable (BD a b c d)]
variable [∀(n f:Int),Decidable (A8 n f)]
variable [∀(a b c d:Nat),Decidable (Dj a b c d)]
variable [∀(x:T4),Decidable (Dr x)]
variable [∀(last:Int)(s:St),Decidable (Au last s)]
variable [∀(n:Int)(s:List Int),Decidable (Dt n s)]
variable [∀(x y:T4),Decidable (Gm x y)]
variable [∀(ts:List T4),Decidable (Asc ts)]
variable [∀(ts:List T4),Decidable (DU ts)]
variable [∀(ts:List T4),Decidable (JP ts)]
theorem Xg{k:Nat}{ps:List Bf}(hs:∀j,j<ps.length→(ps.getD j AL).2.bw.length≤4194304∧(ps.getD j AL).2.pw.length≤4194304∧(ps.getD j AL).2.qw.length≤4194304)(j:Nat)(hj:j<(E9 k ps).length):((E9 k ps).getD j AL).2.bw.length≤4194304∧((E9 k ps).getD j AL).2.pw.length≤4194304∧((E9 k ps).getD j AL).2.qw.length≤4194304:=by
 rw[Dc]at hj
 rw[Uq _ _ _ hj]
 have:=hs j hj
 simp only[Gv,B_]
 exact this
theorem JF.marked{t:Bu}(h:JF t):JF (rG 1 t):=
 ⟨by show(Ay 1 t.qw.length).length≤_;rw[B_];exact h.q,by show(Ck (aM 1 t) t.pool.length).length≤_;rw[Du];exact h.p,by show(Mq (ZG 1 t) t.tab).length≤_;rw[Hd];exact h.tb,by show(marks (aL 1 t) t.AZ.length).length≤_;rw[D7];exact h.d,by show(E9 (Qa 1 t) t.held).length≤_;rw[Dc];exact h.h,af _ _ h.tt,Xg h.hh⟩
set_option maxHeartbeats 16000000 in
set_option maxRecDepth 100000 in
theorem SV(E:World→Prop)(hE:∀w w',E w→Below w.heap.size w w'→E w')(n f:Int)(t:Bu)(ao bo co od oe:Option Addr)(ca cb cc cd ce:Nat)(rs:List Pr)(w:World)(td:Int)(m:MT)(am bm cm:Option Addr)(km lm nm:Nat)(u:Bu)(vB:Bool)(qA:JF u)(hq:Pj 1 t≤90000000)(wY:Pj 1 u≤100000000)(ht:t.tab=rs.map WL)(g:(t.s.size:Int)+t.qw.length+t.d.size+t.pool.length+rs.length+Bg rs+t.AZ.length+t.held.length+BA t.held≤1048576)(gm:(t.s.size:Int)+t.qw.length+t.d.size+t.pool.length+rs.length+Bg rs+t.AZ.length+t.held.length+BA t.held+((m.bn.size:Int)+m.bs.size+m.bw.length+m.ps.size+m.pw.length+m.qs.size+m.qw.length)≤1048576)(hc:Ed w co rs)(hh:Fw w (.slice oe t.held.length ce) t.held)(hsm:JF t)(hI:fI w t (.slice ao t.qw.length ca) bo (.slice co t.tab.length cc) (.slice od t.AZ.length cd) (.slice oe t.held.length ce))(he:E w)(YN:RI w (.slice am m.bw.length km) m.bw)(hmb:RI w (.slice bm m.pw.length lm) m.pw)(hmc:RI w (.slice cm m.qw.length nm) m.qw)(SP0:(∀(ao bo co od oe am bm cm:Option Addr)(ca cb cc cd ce km lm nm:Nat)(w:World),Ei w t (.slice ao t.qw.length ca) (.slice bo t.pool.length cb) (.slice co t.tab.length cc) (.slice od t.AZ.length cd) (.slice oe t.held.length ce)→RI w (.slice am m.bw.length km) m.bw→RI w (.slice bm m.pw.length lm) m.pw→RI w (.slice cm m.qw.length nm) m.qw→Calls Tryz.prog 6 #[cv n f,ES t (.slice ao t.qw.length ca) (.slice bo t.pool.length cb) (.slice co t.tab.length cc) (.slice od t.AZ.length cd) (.slice oe t.held.length ce),.int .i64 td,Dp m (.slice am m.bw.length km) (.slice bm m.pw.length lm) (.slice cm m.qw.length nm)] w fun r w'=>∃a b c d e,r= .returned (.tuple #[ES u a b c d e,.bool vB])∧EF w' w.heap.size w'.heap.size u a b c d e∧Below w.heap.size w w'))(IM0:(∀(ao bo co od oe am bm cm:Option Addr)(ca cb cc cd ce km lm nm:Nat)(w:World),E w→Ei w t (.slice ao t.qw.length ca) (.slice bo t.pool.length cb) (.slice co t.tab.length cc) (.slice od t.AZ.length cd) (.slice oe t.held.length ce)→RI w (.slice am m.bw.length km) m.bw→RI w (.slice bm m.pw.length lm) m.pw→RI w (.slice cm m.qw.length nm) m.qw→Calls Tryz.prog 10 #[cv n f,ES t (.slice ao t.qw.length ca) (.slice bo t.pool.length cb) (.slice co t.tab.length cc) (.slice od t.AZ.length cd) (.slice oe t.held.length ce),.int .i64 td,Dp m (.slice am m.bw.length km) (.slice bm m.pw.length lm) (.slice cm m.qw.length nm)] w fun r w'=>∃a b c d e,r= .returned (.tuple #[ES u a b c d e,.bool vB])∧Dh w' w.heap.size w'.heap.size u a b c d e∧Below w.heap.size w w')):
 Calls Tryz.prog 3 #[cv n f,ES t (.slice ao t.qw.length ca) (.slice bo t.pool.length cb) (.slice co t.tab.length cc) (.slice od t.AZ.length cd) (.slice oe t.held.length ce),.int .i64 td,Dp m (.slice am m.bw.length km) (.slice bm m.pw.length lm) (.slice cm m.qw.length nm)] w fun e w'=>e= .returned (.bool true)∧Below w.heap.size w w':=by
 have HI:=hide hI
 have HE:=hide he
 have HX:=hide YN
 have HY:=hide hmb
 have HZ:=hide hmc
 have hrl:rs.length=t.tab.length:=by rw[ht];simp
 have ZA:=hide fun w(h:Ed w co rs)(h':Fw w (.slice oe t.held.length ce) t.held)=>QR t ao bo co od oe ca cb cc cd ce rs 1048576 w h h' (by omega) g
 rw[hrl]at ZA
 have TA:=hide fun w h=>Wj t (.slice ao t.qw.length ca) bo cb (.slice co t.tab.length cc) (.slice od t.AZ.length cd) (.slice oe t.held.length ce) w hsm h
 have TC:=hide fun w=>Wn n f w
 have TM:=hide fun w h1 h2 h3=>QP m (.slice am m.bw.length km) (.slice bm m.pw.length lm) (.slice cm m.qw.length nm) m.bw m.pw m.qw w h1 h2 h3
 have hz:∃z:Int,(1048576:Int)-((t.s.size:Int)+t.qw.length+t.d.size+t.pool.length+t.tab.length+Bg rs+t.AZ.length+t.held.length+BA t.held)=z∧0≤z∧(m.bn.size:Int)+m.bs.size+m.bw.length+m.ps.size+m.pw.length+m.qs.size+m.qw.length≤z∧z≤1048576:=⟨_,rfl,by omega,by omega,by omega⟩
 obtain⟨z,hz,hz0,zI,zH⟩:=hz
 rw[hz]at ZA
 have d1:decide (z<0)=false:=by simp;omega
 have ZB:=hide fun w=>QV m am bm cm m.bw.length km m.pw.length lm m.qw.length nm z w (by omega) (by omega)
 obtain⟨z2,hz2,hz3⟩:∃x:Int,z-m.bn.size-m.bs.size-m.bw.length-m.ps.size-m.pw.length-m.qs.size-m.qw.length=x∧0≤x:=⟨_,rfl,by omega⟩
 rw[hz2]at ZB
 have d5:decide (z2<0)=false:=by simp;omega
 have lx:m.bw.length≤4194304∧m.pw.length≤4194304∧m.qw.length≤4194304:=⟨by omega,by omega,by omega⟩
 have lx:=hide lx
 have SP:=hide SP0
 have IM:=hide IM0
 have EB:=hide hE
 have SM:=hide hsm
 have UM:=hide qA
 have EQ:=hide fun a b c d e a' b' c' d' e' w h h'=>Qw t a b c d e a' b' c' d' e' w hsm h h'
 have EU:=hide fun a b c d e a' b' c' d' e' w h h'=>Qw u a b c d e a' b' c' d' e' w qA h h'
 have EM:=hide fun a b c a' b' c' w h1 h2 h3 h4 h5 h6=>Qx m a b c a' b' c' m.bw m.pw m.qw w h1 h2 h3 h4 h5 h6
 have MR:=hide fun lo hi a b c d e w h=>KY lo hi t a b c d e 1 w hsm (by omega) h
 have MU:=hide fun lo hi a b c d e w h=>KY lo hi u a b c d e 1 w qA wY h
 have HU:=hide fun a b c d e w h=>Vj u a b c d e 1 w qA (by omega) wY h
 obtain⟨qe,hqe⟩:∃x,Pj 1 t=x:=⟨_,rfl⟩
 rw[hqe]at MR
 obtain⟨qu,wZ⟩:∃x,Pj 1 u=x:=⟨_,rfl⟩
 rw[wZ]at MU HU
 obtain⟨qm,hqm,AAc⟩:∃x:Int,(qe:Int)+m.bw.length+m.pw.length+m.qw.length=x∧0≤x:=⟨_,rfl,by omega⟩
 have MM:Hid (∀(lo hi:Nat)(a b c:Value)(w:World),OM w lo a b c m.bw m.pw m.qw→(∀k,(a.ownBlock=some k∨b.ownBlock=some k∨c.ownBlock=some k)→lo≤k∧k<hi)→Calls Tryz.prog 14 #[Dp m a b c,.int .i64 qe] w fun e w'=>e= .returned (.int .i64 qm)∧Kp w w' (fun k=>lo≤k∧k<hi)):=hide fun lo hi a b c w h tt=>(VC m a b c m.bw m.pw m.qw lo qe w (by omega) (by omega) (by omega) (by omega) h).mono fun e w' ⟨e1,_,k⟩=>⟨by rw[e1,hqm],k.mono tt⟩
 have hd2:decide (qm<0)=false:=by simp;omega
 have hd3:decide ((qu:Int)<0)=false:=by simp
 have hbb:(vB != vB)=false:=by simp
 have UK:=hide qA.marked
 have HC:=hide hc
 have HH:=hide hh
 clear hI he SP0 IM0 hE hsm qA hc hh hz hz0 zI zH hz2 hz3 g gm hrl ht hq wY hqe wZ hqm AAc YN hmb hmc
 obtain⟨w0,hw0,AO,LC,LA,LM,DN⟩:=qI w #[.int .i64 n,.int .i64 f] 23 #[.int .i64 t.id,.int .i64 t.vw,.int .i64 t.ak,.int .i64 t.vo,.int .i64 t.lo,.int .i64 t.n,.string t.s,.slice ao t.qw.length ca,.string t.d,.slice bo t.pool.length cb,.slice co t.tab.length cc,.slice od t.AZ.length cd,.int .i64 t.su,.slice oe t.held.length ce] 36 #[.int .i64 m.k,.int .i64 m.vw,.string m.bn,.int .i64 m.bv,.string m.bs,.slice am m.bw.length km,.int .i64 m.pv,.string m.ps,.slice bm m.pw.length lm,.int .i64 m.qv,.string m.qs,.slice cm m.qw.length nm,.int .i64 m.wh,.int .i64 m.fr,.int .i64 m.tu,.int .i64 m.am,.int .i64 m.no] 43
 go_enter Tryz.func3,Tryz.ntmps3
 go_wp2_with (first|(refine Ap LA 36 _ rfl _ rfl rfl Tryz.underlying36 rfl (by kernel_rfl) ?_))
 clear hw0
 refine(ZA.out _ (HC.out.below AO) (HH.out.below AO)).mono ?_
 rintro _ w1 ⟨rfl,bb⟩
 have AP:=bu AO bb
 have Ct:=bb.size
 replace LC:=LC.up bb
 replace LA:=LA.up bb
 replace LM:=LM.up bb
 clear AO bb ZA HC HH
 go_wp2_with (first|(refine Ap LM 43 _ rfl _ rfl rfl Tryz.underlying43 rfl (by kernel_rfl) ?_))
 refine(ZB.out _).mono ?_
 rintro _ w2 ⟨rfl,bb⟩
 have Am:=bu AP bb
 have El:=bb.size
 replace LC:=LC.up bb
 replace LA:=LA.up bb
 replace LM:=LM.up bb
 clear AP bb ZB
 go_upto_region 8 with fail
 try simp only[Act.put,List.setIfInBounds_toArray,List.set_cons_zero,List.set_cons_succ]
 go_cut [10,11] (fun c d1 wx=>∃(h lo hi:Nat)(aY:Option Addr)(kY:Nat)(bY:Option Addr)(lY:Nat)(cY:Option Addr)(nY:Nat)(dY:Option Addr)(pY:Nat)(eY:Option Addr)(qY:Nat),c= .pointer (some ⟨h,0,none⟩)∧d1= .bool vB∧w2.heap.size≤h∧h<wx.heap.size∧Loc wx h #[.int .i64 u.id,.int .i64 u.vw,.int .i64 u.ak,.int .i64 u.vo,.int .i64 u.lo,.int .i64 u.n,.string u.s,.slice aY u.qw.length kY,.string u.d,.slice bY u.pool.length lY,.slice cY u.tab.length nY,.slice dY u.AZ.length pY,.int .i64 u.su,.slice eY u.held.length qY]∧(w2.heap.size≤lo∧hi≤wx.heap.size∧(h<lo∨hi≤h))∧EF wx lo hi u (.slice aY u.qw.length kY) (.slice bY u.pool.length lY) (.slice cY u.tab.length nY) (.slice dY u.AZ.length pY) (.slice eY u.held.length qY)∧Below w2.heap.size w2 wx)
 case first=>
  have K:=kw (ka (Ia LC 0 1) (ka (kL LA) (kL LM)))
  refine Ey K (fun bA hHeld=>?_)
  obtain⟨gI,hwd⟩:∃y,w2.drew=y:=⟨_,rfl⟩
  rw[hwd]at bA hHeld⊢
  clear hwd
  have ACk:=bA.size
  refine tx 0 32 ?_
  refine take_at (i:=2) (d:=34) (v:= .agg #[.int .i64 t.id,.int .i64 t.vw,.int .i64 t.ak,.int .i64 t.vo,.int .i64 t.lo,.int .i64 t.n,.string t.s,.slice ao t.qw.length ca,.string t.d,.slice bo t.pool.length cb,.slice co t.tab.length cc,.slice od t.AZ.length cd,.int .i64 t.su,.slice oe t.held.length ce]) rfl rfl (by kernel_rfl) (by kernel_rfl) (by kernel_rfl) (fun _ _ _ h=>h) ?_ (by assumption) ?_
  ·exact A7 rfl 36 _ rfl rfl _ (fun w h=>h.2.2.1) Tryz.underlying36 rfl (by kernel_rfl)
  simp only[pU]
  refine tx 4 36 ?_
  refine take_at (i:=5) (d:=37) (v:= .agg #[.int .i64 m.k,.int .i64 m.vw,.string m.bn,.int .i64 m.bv,.string m.bs,.slice am m.bw.length km,.int .i64 m.pv,.string m.ps,.slice bm m.pw.length lm,.int .i64 m.qv,.string m.qs,.slice cm m.qw.length nm,.int .i64 m.wh,.int .i64 m.fr,.int .i64 m.tu,.int .i64 m.am,.int .i64 m.no]) rfl rfl (by kernel_rfl) (by kernel_rfl) (by kernel_rfl) (fun _ _ _ h=>h) ?_ (by assumption) ?_
  ·exact A7 rfl 43 _ rfl rfl _ (fun w h=>h.2.2.2) Tryz.underlying43 rfl (by kernel_rfl)
  simp only[pU]
  refine wpAnyH_ready (rs:=[1,11]) (by kernel_rfl) (by simp) (AllReadyH.cons rfl (fun KK AA=>?_) (AllReadyH.cons rfl (fun KK AA=>?_) AllReadyH.nil))
  ·go_simp
   refine(TC.out _).mono ?_
   rintro e IG ⟨rfl,bb⟩
   have Q5:Below w2.heap.size w2 IG:=bu bA bb
   clear hHeld
   refine AA.out _ _ (K.out _ Q5) (fun hHeld=>?_)
   clear AA KK bA
   have AAJ:=bb.size
   clear bb
   refine wpAnyH_ready (rs:=[3,11]) (by kernel_rfl) (by simp) (AllReadyH.cons rfl (fun KK AA=>?_) (AllReadyH.cons rfl (fun KK AA=>?_) AllReadyH.nil))
   ·go_simp
    refine(TA.out _ (HI.out.below (bu Am Q5))).mono ?_
    rintro e IE ⟨u1,u2,u3,u4,u5,rfl,m1,bb⟩
    have MC:Below w2.heap.size w2 IE:=bu Q5 bb
    clear hHeld
    refine AA.out _ _ (K.out _ MC) (fun hHeld=>?_)
    clear AA KK Q5
    have AAI:=bb.size
    clear bb
    obtain⟨a1,k1,b1,l1,c1,n1,xN,p1,e1,q1,rfl,rfl,rfl,rfl,rfl⟩:=m1.form
    refine wpAnyH_ready (rs:=[6,11]) (by kernel_rfl) (by simp) (AllReadyH.cons rfl (fun KK AA=>?_) (AllReadyH.cons rfl (fun KK AA=>?_) AllReadyH.nil))
    ·go_simp
     refine(TM.out _ (HX.out.below (bu Am MC)) (HY.out.below (bu Am MC)) (HZ.out.below (bu Am MC))).mono ?_
     rintro e Gq ⟨u6,u7,u8,rfl,m2,bb⟩
     have V7:Below w2.heap.size w2 Gq:=bu MC bb
     clear hHeld
     refine AA.out _ _ (K.out _ V7) (fun hHeld=>?_)
     clear AA KK MC
     have AAH:=bb.size
     replace m1:=m1.below bb
     clear bb
     obtain⟨aN,rZ,bN,lN,cN,nN,rfl,rfl,rfl⟩:=m2.form
     refine wpAnyH_ready (rs:=[7,11]) (by kernel_rfl) (by simp) (AllReadyH.cons rfl (fun KK AA=>?_) (AllReadyH.cons rfl (fun KK AA=>?_) AllReadyH.nil))
     ·go_simp
      refine(SP.out _ _ _ _ _ _ _ _ _ _ _ _ _ _ _ _ _ (m1.Il.BS SM.out) (m2.Fz lx.out).1 (m2.Fz lx.out).2.1 (m2.Fz lx.out).2.2).mono ?_
      rintro e Gp ⟨y1,y2,y3,y4,y5,rfl,sR,bb⟩
      have ji:Below w2.heap.size w2 Gp:=bu V7 bb
      clear hHeld
      refine AA.out _ _ (K.out _ ji) (fun hHeld=>?_)
      clear AA KK V7
      have AAG:=bb.size
      replace m1:=m1.below bb
      replace m2:=m2.below bb
      clear bb m1 m2
      obtain⟨aG,kG,rfl⟩:=sR.BS.q.form
      obtain⟨bG,lG,rfl⟩:=RT.Bw sR.BS.p
      obtain⟨cG,nG,rfl⟩:=sR.BS.tb.form
      obtain⟨dG,pG,rfl⟩:=RB.Bw sR.BS.d
      obtain⟨eG,qG,rfl⟩:=sR.BS.h.form
      obtain⟨wS,Mv⟩:∃m,Gq.heap.size=m:=⟨_,rfl⟩
      obtain⟨wy,Mw⟩:∃m,Gp.heap.size=m:=⟨_,rfl⟩
      rw[Mv,Mw]at sR
      have g1:=Nat.le_of_eq Mv
      have g2:=Nat.le_of_eq Mv.symm
      have g3:=Nat.le_of_eq Mw
      have g4:=Nat.le_of_eq Mw.symm
      clear Mv Mw
      refine tx 8 31 ?_
      refine tx 9 40 ?_
      refine tx 10 41 ?_
      refine rd 11 rfl (fun KK AA=>?_)
      go_simp
      obtain⟨NZ,hq⟩:∃y,Gp.alloc (.cells #[.int .i64 0,.int .i64 0,.int .i64 0,.int .i64 0,.int .i64 0,.int .i64 0,.string ⟨#[]⟩,.slice none 0 0,.string ⟨#[]⟩,.slice none 0 0,.slice none 0 0,.slice none 0 0,.int .i64 0,.slice none 0 0] 54)=y:=⟨_,rfl⟩
      have bb:Below Gp.heap.size Gp NZ:=hq▸Ag _ _
      have S9:Below w2.heap.size w2 NZ:=bu ji bb
      have G:Loc NZ Gp.heap.size #[.int .i64 0,.int .i64 0,.int .i64 0,.int .i64 0,.int .i64 0,.int .i64 0,.string ⟨#[]⟩,.slice none 0 0,.string ⟨#[]⟩,.slice none 0 0,.slice none 0 0,.slice none 0 0,.int .i64 0,.slice none 0 0]:=hq▸AB Gp _ _ rfl
      have zh:NZ.heap.size=Gp.heap.size+1:=by rw[←hq];simp
      rw[hq]
      clear hHeld hq
      refine AA.out _ _ (K.out _ S9) (fun hHeld=>?_)
      clear AA KK ji
      have AAF:=bb.size
      replace sR:=sR.below bb
      clear bb
      refine rd 12 rfl (fun KK AA=>?_)
      rw[if_pos (by rfl)]
      refine wp_store_mid 54 (.tmp 10) (.tmp 40) rfl (Gp.heap.size) 0 #[.int .i64 u.id,.int .i64 u.vw,.int .i64 u.ak,.int .i64 u.vo,.int .i64 u.lo,.int .i64 u.n,.string u.s,.slice aG u.qw.length kG,.string u.d,.slice bG u.pool.length lG,.slice cG u.tab.length nG,.slice dG u.AZ.length pG,.int .i64 u.su,.slice eG u.held.length qG] rfl rfl (G.there 0 14 (by simp)) (by kernel_rfl) (by simp[Value.oneCell']) ?_
      obtain⟨WV,hq⟩:∃y,NZ.setCells (Gp.heap.size) 0 [.int .i64 u.id,.int .i64 u.vw,.int .i64 u.ak,.int .i64 u.vo,.int .i64 u.lo,.int .i64 u.n,.string u.s,.slice aG u.qw.length kG,.string u.d,.slice bG u.pool.length lG,.slice cG u.tab.length nG,.slice dG u.AZ.length pG,.int .i64 u.su,.slice eG u.held.length qG]=y:=⟨_,rfl⟩
      have kN:Kp NZ WV (fun k=>k=Gp.heap.size):=hq▸Ab _ _ _ _
      have Yo:=Below.kp S9 kN S9.size (fun j e=>by omega)
      replace G:Loc WV (Gp.heap.size) #[.int .i64 u.id,.int .i64 u.vw,.int .i64 u.ak,.int .i64 u.vo,.int .i64 u.lo,.int .i64 u.n,.string u.s,.slice aG u.qw.length kG,.string u.d,.slice bG u.pool.length lG,.slice cG u.tab.length nG,.slice dG u.AZ.length pG,.int .i64 u.su,.slice eG u.held.length qG]:=hq▸G.setCells _ _ rfl
      rw[show NZ.setCells (Gp.heap.size) 0 (Array.toList #[.int .i64 u.id,.int .i64 u.vw,.int .i64 u.ak,.int .i64 u.vo,.int .i64 u.lo,.int .i64 u.n,.string u.s,.slice aG u.qw.length kG,.string u.d,.slice bG u.pool.length lG,.slice cG u.tab.length nG,.slice dG u.AZ.length pG,.int .i64 u.su,.slice eG u.held.length qG])=WV from hq]
      clear hHeld
      refine AA.out _ _ (K.out _ Yo) (fun hHeld=>?_)
      clear AA KK S9
      replace sR:=sR.kp kN (fun j h1 h2 e=>by omega)
      have yh:=kN.size
      clear hq kN
      refine tx 13 11 ?_
      clear hHeld
      refine Bt ?_
      have bW:=Yo
      clear K Yo
      go_wp2_with fail
      go_meet
      refine⟨_,_,_,_,_,_,_,_,_,_,_,_,_,rfl,rfl,?_,G.lt,G,⟨?_,?_,?_⟩,sR,bW⟩<;>omega
     go_simp
     obtain⟨Ng,hq⟩:∃y,Gq.alloc (.cells #[.int .i64 0,.int .i64 0,.int .i64 0,.int .i64 0,.int .i64 0,.int .i64 0,.string ⟨#[]⟩,.slice none 0 0,.string ⟨#[]⟩,.slice none 0 0,.slice none 0 0,.slice none 0 0,.int .i64 0,.slice none 0 0] 54)=y:=⟨_,rfl⟩
     have bb:Below Gq.heap.size Gq Ng:=hq▸Ag _ _
     have Yn:Below w2.heap.size w2 Ng:=bu V7 bb
     have G:Loc Ng Gq.heap.size #[.int .i64 0,.int .i64 0,.int .i64 0,.int .i64 0,.int .i64 0,.int .i64 0,.string ⟨#[]⟩,.slice none 0 0,.string ⟨#[]⟩,.slice none 0 0,.slice none 0 0,.slice none 0 0,.int .i64 0,.slice none 0 0]:=hq▸AB Gq _ _ rfl
     have x_:Ng.heap.size=Gq.heap.size+1:=by rw[←hq];simp
     rw[hq]
     clear hHeld hq
     refine AA.out _ _ (K.out _ Yn) (fun hHeld=>?_)
     clear AA KK V7
     have yg:=bb.size
     replace m1:=m1.below bb
     replace m2:=m2.below bb
     clear bb
     refine rd 7 rfl (fun KK AA=>?_)
     go_simp
     refine(SP.out _ _ _ _ _ _ _ _ _ _ _ _ _ _ _ _ _ (m1.Il.BS SM.out) (m2.Fz lx.out).1 (m2.Fz lx.out).2.1 (m2.Fz lx.out).2.2).mono ?_
     rintro e Nf ⟨y1,y2,y3,y4,y5,rfl,sR,bb⟩
     have Sz:Below w2.heap.size w2 Nf:=bu Yn bb
     clear hHeld
     refine AA.out _ _ (K.out _ Sz) (fun hHeld=>?_)
     clear AA KK Yn
     have yZ:=bb.size
     replace G:=G.up bb
     replace m1:=m1.below bb
     replace m2:=m2.below bb
     clear bb m1 m2
     obtain⟨aG,kG,rfl⟩:=sR.BS.q.form
     obtain⟨bG,lG,rfl⟩:=RT.Bw sR.BS.p
     obtain⟨cG,nG,rfl⟩:=sR.BS.tb.form
     obtain⟨dG,pG,rfl⟩:=RB.Bw sR.BS.d
     obtain⟨eG,qG,rfl⟩:=sR.BS.h.form
     obtain⟨wS,Mv⟩:∃m,Ng.heap.size=m:=⟨_,rfl⟩
     obtain⟨wy,Mw⟩:∃m,Nf.heap.size=m:=⟨_,rfl⟩
     rw[Mv,Mw]at sR
     have g1:=Nat.le_of_eq Mv
     have g2:=Nat.le_of_eq Mv.symm
     have g3:=Nat.le_of_eq Mw
     have g4:=Nat.le_of_eq Mw.symm
     clear Mv Mw
     refine tx 8 31 ?_
     refine tx 9 40 ?_
     refine tx 10 41 ?_
     refine rd 12 rfl (fun KK AA=>?_)
     rw[if_pos (by rfl)]
     refine wp_store_mid 54 (.tmp 10) (.tmp 40) rfl (Gq.heap.size) 0 #[.int .i64 u.id,.int .i64 u.vw,.int .i64 u.ak,.int .i64 u.vo,.int .i64 u.lo,.int .i64 u.n,.string u.s,.slice aG u.qw.length kG,.string u.d,.slice bG u.pool.length lG,.slice cG u.tab.length nG,.slice dG u.AZ.length pG,.int .i64 u.su,.slice eG u.held.length qG] rfl rfl (G.there 0 14 (by simp)) (by kernel_rfl) (by simp[Value.oneCell']) ?_
     obtain⟨WU,hq⟩:∃y,Nf.setCells (Gq.heap.size) 0 [.int .i64 u.id,.int .i64 u.vw,.int .i64 u.ak,.int .i64 u.vo,.int .i64 u.lo,.int .i64 u.n,.string u.s,.slice aG u.qw.length kG,.string u.d,.slice bG u.pool.length lG,.slice cG u.tab.length nG,.slice dG u.AZ.length pG,.int .i64 u.su,.slice eG u.held.length qG]=y:=⟨_,rfl⟩
     have kN:Kp Nf WU (fun k=>k=Gq.heap.size):=hq▸Ab _ _ _ _
     have Ym:=Below.kp Sz kN Sz.size (fun j e=>by omega)
     replace G:Loc WU (Gq.heap.size) #[.int .i64 u.id,.int .i64 u.vw,.int .i64 u.ak,.int .i64 u.vo,.int .i64 u.lo,.int .i64 u.n,.string u.s,.slice aG u.qw.length kG,.string u.d,.slice bG u.pool.length lG,.slice cG u.tab.length nG,.slice dG u.AZ.length pG,.int .i64 u.su,.slice eG u.held.length qG]:=hq▸G.setCells _ _ rfl
     rw[show Nf.setCells (Gq.heap.size) 0 (Array.toList #[.int .i64 u.id,.int .i64 u.vw,.int .i64 u.ak,.int .i64 u.vo,.int .i64 u.lo,.int .i64 u.n,.string u.s,.slice aG u.qw.length kG,.string u.d,.slice bG u.pool.length lG,.slice cG u.tab.length nG,.slice dG u.AZ.length pG,.int .i64 u.su,.slice eG u.held.length qG])=WU from hq]
     clear hHeld
     refine AA.out _ _ (K.out _ Ym) (fun hHeld=>?_)
     clear AA KK Sz
     replace sR:=sR.kp kN (fun j h1 h2 e=>by omega)
     have yY:=kN.size
     clear hq kN
     refine tx 13 11 ?_
     clear hHeld
     refine Bt ?_
     have bW:=Ym
     clear K Ym
     go_wp2_with fail
     go_meet
     refine⟨_,_,_,_,_,_,_,_,_,_,_,_,_,rfl,rfl,?_,G.lt,G,⟨?_,?_,?_⟩,sR,bW⟩<;>omega
    go_simp
    obtain⟨RD,hq⟩:∃y,IE.alloc (.cells #[.int .i64 0,.int .i64 0,.int .i64 0,.int .i64 0,.int .i64 0,.int .i64 0,.string ⟨#[]⟩,.slice none 0 0,.string ⟨#[]⟩,.slice none 0 0,.slice none 0 0,.slice none 0 0,.int .i64 0,.slice none 0 0] 54)=y:=⟨_,rfl⟩
    have bb:Below IE.heap.size IE RD:=hq▸Ag _ _
    have Ld:Below w2.heap.size w2 RD:=bu MC bb
    have G:Loc RD IE.heap.size #[.int .i64 0,.int .i64 0,.int .i64 0,.int .i64 0,.int .i64 0,.int .i64 0,.string ⟨#[]⟩,.slice none 0 0,.string ⟨#[]⟩,.slice none 0 0,.slice none 0 0,.slice none 0 0,.int .i64 0,.slice none 0 0]:=hq▸AB IE _ _ rfl
    have xz:RD.heap.size=IE.heap.size+1:=by rw[←hq];simp
    rw[hq]
    clear hHeld hq
    refine AA.out _ _ (K.out _ Ld) (fun hHeld=>?_)
    clear AA KK MC
    have yX:=bb.size
    replace m1:=m1.below bb
    clear bb
    refine rd 6 rfl (fun KK AA=>?_)
    go_simp
    refine(TM.out _ (HX.out.below (bu Am Ld)) (HY.out.below (bu Am Ld)) (HZ.out.below (bu Am Ld))).mono ?_
    rintro e gD ⟨u6,u7,u8,rfl,m2,bb⟩
    have Yl:Below w2.heap.size w2 gD:=bu Ld bb
    clear hHeld
    refine AA.out _ _ (K.out _ Yl) (fun hHeld=>?_)
    clear AA KK Ld
    have yV:=bb.size
    replace G:=G.up bb
    replace m1:=m1.below bb
    clear bb
    obtain⟨aN,rZ,bN,lN,cN,nN,rfl,rfl,rfl⟩:=m2.form
    refine rd 7 rfl (fun KK AA=>?_)
    go_simp
    refine(SP.out _ _ _ _ _ _ _ _ _ _ _ _ _ _ _ _ _ (m1.Il.BS SM.out) (m2.Fz lx.out).1 (m2.Fz lx.out).2.1 (m2.Fz lx.out).2.2).mono ?_
    rintro e Nc ⟨y1,y2,y3,y4,y5,rfl,sR,bb⟩
    have Sy:Below w2.heap.size w2 Nc:=bu Yl bb
    clear hHeld
    refine AA.out _ _ (K.out _ Sy) (fun hHeld=>?_)
    clear AA KK Yl
    have yU:=bb.size
    replace G:=G.up bb
    replace m1:=m1.below bb
    replace m2:=m2.below bb
    clear bb m1 m2
    obtain⟨aG,kG,rfl⟩:=sR.BS.q.form
    obtain⟨bG,lG,rfl⟩:=RT.Bw sR.BS.p
    obtain⟨cG,nG,rfl⟩:=sR.BS.tb.form
    obtain⟨dG,pG,rfl⟩:=RB.Bw sR.BS.d
    obtain⟨eG,qG,rfl⟩:=sR.BS.h.form
    obtain⟨wS,Mv⟩:∃m,gD.heap.size=m:=⟨_,rfl⟩
    obtain⟨wy,Mw⟩:∃m,Nc.heap.size=m:=⟨_,rfl⟩
    rw[Mv,Mw]at sR
    have g1:=Nat.le_of_eq Mv
    have g2:=Nat.le_of_eq Mv.symm
    have g3:=Nat.le_of_eq Mw
    have g4:=Nat.le_of_eq Mw.symm
    clear Mv Mw
    refine tx 8 31 ?_
    refine tx 9 40 ?_
    refine tx 10 41 ?_
    refine rd 12 rfl (fun KK AA=>?_)
    rw[if_pos (by rfl)]
    refine wp_store_mid 54 (.tmp 10) (.tmp 40) rfl (IE.heap.size) 0 #[.int .i64 u.id,.int .i64 u.vw,.int .i64 u.ak,.int .i64 u.vo,.int .i64 u.lo,.int .i64 u.n,.string u.s,.slice aG u.qw.length kG,.string u.d,.slice bG u.pool.length lG,.slice cG u.tab.length nG,.slice dG u.AZ.length pG,.int .i64 u.su,.slice eG u.held.length qG] rfl rfl (G.there 0 14 (by simp)) (by kernel_rfl) (by simp[Value.oneCell']) ?_
    obtain⟨WT,hq⟩:∃y,Nc.setCells (IE.heap.size) 0 [.int .i64 u.id,.int .i64 u.vw,.int .i64 u.ak,.int .i64 u.vo,.int .i64 u.lo,.int .i64 u.n,.string u.s,.slice aG u.qw.length kG,.string u.d,.slice bG u.pool.length lG,.slice cG u.tab.length nG,.slice dG u.AZ.length pG,.int .i64 u.su,.slice eG u.held.length qG]=y:=⟨_,rfl⟩
    have kN:Kp Nc WT (fun k=>k=IE.heap.size):=hq▸Ab _ _ _ _
    have Yk:=Below.kp Sy kN Sy.size (fun j e=>by omega)
    replace G:Loc WT (IE.heap.size) #[.int .i64 u.id,.int .i64 u.vw,.int .i64 u.ak,.int .i64 u.vo,.int .i64 u.lo,.int .i64 u.n,.string u.s,.slice aG u.qw.length kG,.string u.d,.slice bG u.pool.length lG,.slice cG u.tab.length nG,.slice dG u.AZ.length pG,.int .i64 u.su,.slice eG u.held.length qG]:=hq▸G.setCells _ _ rfl
    rw[show Nc.setCells (IE.heap.size) 0 (Array.toList #[.int .i64 u.id,.int .i64 u.vw,.int .i64 u.ak,.int .i64 u.vo,.int .i64 u.lo,.int .i64 u.n,.string u.s,.slice aG u.qw.length kG,.string u.d,.slice bG u.pool.length lG,.slice cG u.tab.length nG,.slice dG u.AZ.length pG,.int .i64 u.su,.slice eG u.held.length qG])=WT from hq]
    clear hHeld
    refine AA.out _ _ (K.out _ Yk) (fun hHeld=>?_)
    clear AA KK Sy
    replace sR:=sR.kp kN (fun j h1 h2 e=>by omega)
    have yT:=kN.size
    clear hq kN
    refine tx 13 11 ?_
    clear hHeld
    refine Bt ?_
    have bW:=Yk
    clear K Yk
    go_wp2_with fail
    go_meet
    refine⟨_,_,_,_,_,_,_,_,_,_,_,_,_,rfl,rfl,?_,G.lt,G,⟨?_,?_,?_⟩,sR,bW⟩<;>omega
   go_simp
   obtain⟨Q_,hq⟩:∃y,IG.alloc (.cells #[.int .i64 0,.int .i64 0,.int .i64 0,.int .i64 0,.int .i64 0,.int .i64 0,.string ⟨#[]⟩,.slice none 0 0,.string ⟨#[]⟩,.slice none 0 0,.slice none 0 0,.slice none 0 0,.int .i64 0,.slice none 0 0] 54)=y:=⟨_,rfl⟩
   have bb:Below IG.heap.size IG Q_:=hq▸Ag _ _
   have Sw:Below w2.heap.size w2 Q_:=bu Q5 bb
   have G:Loc Q_ IG.heap.size #[.int .i64 0,.int .i64 0,.int .i64 0,.int .i64 0,.int .i64 0,.int .i64 0,.string ⟨#[]⟩,.slice none 0 0,.string ⟨#[]⟩,.slice none 0 0,.slice none 0 0,.slice none 0 0,.int .i64 0,.slice none 0 0]:=hq▸AB IG _ _ rfl
   have xy:Q_.heap.size=IG.heap.size+1:=by rw[←hq];simp
   rw[hq]
   clear hHeld hq
   refine AA.out _ _ (K.out _ Sw) (fun hHeld=>?_)
   clear AA KK Q5
   have yS:=bb.size
   clear bb
   refine rd 3 rfl (fun KK AA=>?_)
   go_simp
   refine(TA.out _ (HI.out.below (bu Am Sw))).mono ?_
   rintro e qb ⟨u1,u2,u3,u4,u5,rfl,m1,bb⟩
   have Lc:Below w2.heap.size w2 qb:=bu Sw bb
   clear hHeld
   refine AA.out _ _ (K.out _ Lc) (fun hHeld=>?_)
   clear AA KK Sw
   have yR:=bb.size
   replace G:=G.up bb
   clear bb
   obtain⟨a1,k1,b1,l1,c1,n1,xN,p1,e1,q1,rfl,rfl,rfl,rfl,rfl⟩:=m1.form
   refine rd 6 rfl (fun KK AA=>?_)
   go_simp
   refine(TM.out _ (HX.out.below (bu Am Lc)) (HY.out.below (bu Am Lc)) (HZ.out.below (bu Am Lc))).mono ?_
   rintro e gB ⟨u6,u7,u8,rfl,m2,bb⟩
   have Yj:Below w2.heap.size w2 gB:=bu Lc bb
   clear hHeld
   refine AA.out _ _ (K.out _ Yj) (fun hHeld=>?_)
   clear AA KK Lc
   have yQ:=bb.size
   replace G:=G.up bb
   replace m1:=m1.below bb
   clear bb
   obtain⟨aN,rZ,bN,lN,cN,nN,rfl,rfl,rfl⟩:=m2.form
   refine rd 7 rfl (fun KK AA=>?_)
   go_simp
   refine(SP.out _ _ _ _ _ _ _ _ _ _ _ _ _ _ _ _ _ (m1.Il.BS SM.out) (m2.Fz lx.out).1 (m2.Fz lx.out).2.1 (m2.Fz lx.out).2.2).mono ?_
   rintro e Nb ⟨y1,y2,y3,y4,y5,rfl,sR,bb⟩
   have Sv:Below w2.heap.size w2 Nb:=bu Yj bb
   clear hHeld
   refine AA.out _ _ (K.out _ Sv) (fun hHeld=>?_)
   clear AA KK Yj
   have yP:=bb.size
   replace G:=G.up bb
   replace m1:=m1.below bb
   replace m2:=m2.below bb
   clear bb m1 m2
   obtain⟨aG,kG,rfl⟩:=sR.BS.q.form
   obtain⟨bG,lG,rfl⟩:=RT.Bw sR.BS.p
   obtain⟨cG,nG,rfl⟩:=sR.BS.tb.form
   obtain⟨dG,pG,rfl⟩:=RB.Bw sR.BS.d
   obtain⟨eG,qG,rfl⟩:=sR.BS.h.form
   obtain⟨wS,Mv⟩:∃m,gB.heap.size=m:=⟨_,rfl⟩
   obtain⟨wy,Mw⟩:∃m,Nb.heap.size=m:=⟨_,rfl⟩
   rw[Mv,Mw]at sR
   have g1:=Nat.le_of_eq Mv
   have g2:=Nat.le_of_eq Mv.symm
   have g3:=Nat.le_of_eq Mw
   have g4:=Nat.le_of_eq Mw.symm
   clear Mv Mw
   refine tx 8 31 ?_
   refine tx 9 40 ?_
   refine tx 10 41 ?_
   refine rd 12 rfl (fun KK AA=>?_)
   rw[if_pos (by rfl)]
   refine wp_store_mid 54 (.tmp 10) (.tmp 40) rfl (IG.heap.size) 0 #[.int .i64 u.id,.int .i64 u.vw,.int .i64 u.ak,.int .i64 u.vo,.int .i64 u.lo,.int .i64 u.n,.string u.s,.slice aG u.qw.length kG,.string u.d,.slice bG u.pool.length lG,.slice cG u.tab.length nG,.slice dG u.AZ.length pG,.int .i64 u.su,.slice eG u.held.length qG] rfl rfl (G.there 0 14 (by simp)) (by kernel_rfl) (by simp[Value.oneCell']) ?_
   obtain⟨WS,hq⟩:∃y,Nb.setCells (IG.heap.size) 0 [.int .i64 u.id,.int .i64 u.vw,.int .i64 u.ak,.int .i64 u.vo,.int .i64 u.lo,.int .i64 u.n,.string u.s,.slice aG u.qw.length kG,.string u.d,.slice bG u.pool.length lG,.slice cG u.tab.length nG,.slice dG u.AZ.length pG,.int .i64 u.su,.slice eG u.held.length qG]=y:=⟨_,rfl⟩
   have kN:Kp Nb WS (fun k=>k=IG.heap.size):=hq▸Ab _ _ _ _
   have Yi:=Below.kp Sv kN Sv.size (fun j e=>by omega)
   replace G:Loc WS (IG.heap.size) #[.int .i64 u.id,.int .i64 u.vw,.int .i64 u.ak,.int .i64 u.vo,.int .i64 u.lo,.int .i64 u.n,.string u.s,.slice aG u.qw.length kG,.string u.d,.slice bG u.pool.length lG,.slice cG u.tab.length nG,.slice dG u.AZ.length pG,.int .i64 u.su,.slice eG u.held.length qG]:=hq▸G.setCells _ _ rfl
   rw[show Nb.setCells (IG.heap.size) 0 (Array.toList #[.int .i64 u.id,.int .i64 u.vw,.int .i64 u.ak,.int .i64 u.vo,.int .i64 u.lo,.int .i64 u.n,.string u.s,.slice aG u.qw.length kG,.string u.d,.slice bG u.pool.length lG,.slice cG u.tab.length nG,.slice dG u.AZ.length pG,.int .i64 u.su,.slice eG u.held.length qG])=WS from hq]
   clear hHeld
   refine AA.out _ _ (K.out _ Yi) (fun hHeld=>?_)
   clear AA KK Sv
   replace sR:=sR.kp kN (fun j h1 h2 e=>by omega)
   have yO:=kN.size
   clear hq kN
   refine tx 13 11 ?_
   clear hHeld
   refine Bt ?_
   have bW:=Yi
   clear K Yi
   go_wp2_with fail
   go_meet
   refine⟨_,_,_,_,_,_,_,_,_,_,_,_,_,rfl,rfl,?_,G.lt,G,⟨?_,?_,?_⟩,sR,bW⟩<;>omega
  go_simp
  obtain⟨Q9,hq⟩:∃y,gI.alloc (.cells #[.int .i64 0,.int .i64 0,.int .i64 0,.int .i64 0,.int .i64 0,.int .i64 0,.string ⟨#[]⟩,.slice none 0 0,.string ⟨#[]⟩,.slice none 0 0,.slice none 0 0,.slice none 0 0,.int .i64 0,.slice none 0 0] 54)=y:=⟨_,rfl⟩
  have bb:Below gI.heap.size gI Q9:=hq▸Ag _ _
  have Yh:Below w2.heap.size w2 Q9:=bu bA bb
  have G:Loc Q9 gI.heap.size #[.int .i64 0,.int .i64 0,.int .i64 0,.int .i64 0,.int .i64 0,.int .i64 0,.string ⟨#[]⟩,.slice none 0 0,.string ⟨#[]⟩,.slice none 0 0,.slice none 0 0,.slice none 0 0,.int .i64 0,.slice none 0 0]:=hq▸AB gI _ _ rfl
  have xx:Q9.heap.size=gI.heap.size+1:=by rw[←hq];simp
  rw[hq]
  clear hHeld hq
  refine AA.out _ _ (K.out _ Yh) (fun hHeld=>?_)
  clear AA KK bA
  have yN:=bb.size
  clear bb
  refine rd 1 rfl (fun KK AA=>?_)
  go_simp
  refine(TC.out _).mono ?_
  rintro e qZ ⟨rfl,bb⟩
  have Su:Below w2.heap.size w2 qZ:=bu Yh bb
  clear hHeld
  refine AA.out _ _ (K.out _ Su) (fun hHeld=>?_)
  clear AA KK Yh
  have yM:=bb.size
  replace G:=G.up bb
  clear bb
  refine rd 3 rfl (fun KK AA=>?_)
  go_simp
  refine(TA.out _ (HI.out.below (bu Am Su))).mono ?_
  rintro e qW ⟨u1,u2,u3,u4,u5,rfl,m1,bb⟩
  have Lb:Below w2.heap.size w2 qW:=bu Su bb
  clear hHeld
  refine AA.out _ _ (K.out _ Lb) (fun hHeld=>?_)
  clear AA KK Su
  have yL:=bb.size
  replace G:=G.up bb
  clear bb
  obtain⟨a1,k1,b1,l1,c1,n1,xN,p1,e1,q1,rfl,rfl,rfl,rfl,rfl⟩:=m1.form
  refine rd 6 rfl (fun KK AA=>?_)
  go_simp
  refine(TM.out _ (HX.out.below (bu Am Lb)) (HY.out.below (bu Am Lb)) (HZ.out.below (bu Am Lb))).mono ?_
  rintro e f_ ⟨u6,u7,u8,rfl,m2,bb⟩
  have Yg:Below w2.heap.size w2 f_:=bu Lb bb
  clear hHeld
  refine AA.out _ _ (K.out _ Yg) (fun hHeld=>?_)
  clear AA KK Lb
  have yK:=bb.size
  replace G:=G.up bb
  replace m1:=m1.below bb
  clear bb
  obtain⟨aN,rZ,bN,lN,cN,nN,rfl,rfl,rfl⟩:=m2.form
  refine rd 7 rfl (fun KK AA=>?_)
  go_simp
  refine(SP.out _ _ _ _ _ _ _ _ _ _ _ _ _ _ _ _ _ (m1.Il.BS SM.out) (m2.Fz lx.out).1 (m2.Fz lx.out).2.1 (m2.Fz lx.out).2.2).mono ?_
  rintro e Na ⟨y1,y2,y3,y4,y5,rfl,sR,bb⟩
  have Sr:Below w2.heap.size w2 Na:=bu Yg bb
  clear hHeld
  refine AA.out _ _ (K.out _ Sr) (fun hHeld=>?_)
  clear AA KK Yg
  have yJ:=bb.size
  replace G:=G.up bb
  replace m1:=m1.below bb
  replace m2:=m2.below bb
  clear bb m1 m2
  obtain⟨aG,kG,rfl⟩:=sR.BS.q.form
  obtain⟨bG,lG,rfl⟩:=RT.Bw sR.BS.p
  obtain⟨cG,nG,rfl⟩:=sR.BS.tb.form
  obtain⟨dG,pG,rfl⟩:=RB.Bw sR.BS.d
  obtain⟨eG,qG,rfl⟩:=sR.BS.h.form
  obtain⟨wS,Mv⟩:∃m,f_.heap.size=m:=⟨_,rfl⟩
  obtain⟨wy,Mw⟩:∃m,Na.heap.size=m:=⟨_,rfl⟩
  rw[Mv,Mw]at sR
  have g1:=Nat.le_of_eq Mv
  have g2:=Nat.le_of_eq Mv.symm
  have g3:=Nat.le_of_eq Mw
  have g4:=Nat.le_of_eq Mw.symm
  clear Mv Mw
  refine tx 8 31 ?_
  refine tx 9 40 ?_
  refine tx 10 41 ?_
  refine rd 12 rfl (fun KK AA=>?_)
  rw[if_pos (by rfl)]
  refine wp_store_mid 54 (.tmp 10) (.tmp 40) rfl (gI.heap.size) 0 #[.int .i64 u.id,.int .i64 u.vw,.int .i64 u.ak,.int .i64 u.vo,.int .i64 u.lo,.int .i64 u.n,.string u.s,.slice aG u.qw.length kG,.string u.d,.slice bG u.pool.length lG,.slice cG u.tab.length nG,.slice dG u.AZ.length pG,.int .i64 u.su,.slice eG u.held.length qG] rfl rfl (G.there 0 14 (by simp)) (by kernel_rfl) (by simp[Value.oneCell']) ?_
  obtain⟨WR,hq⟩:∃y,Na.setCells (gI.heap.size) 0 [.int .i64 u.id,.int .i64 u.vw,.int .i64 u.ak,.int .i64 u.vo,.int .i64 u.lo,.int .i64 u.n,.string u.s,.slice aG u.qw.length kG,.string u.d,.slice bG u.pool.length lG,.slice cG u.tab.length nG,.slice dG u.AZ.length pG,.int .i64 u.su,.slice eG u.held.length qG]=y:=⟨_,rfl⟩
  have kN:Kp Na WR (fun k=>k=gI.heap.size):=hq▸Ab _ _ _ _
  have Yf:=Below.kp Sr kN Sr.size (fun j e=>by omega)
  replace G:Loc WR (gI.heap.size) #[.int .i64 u.id,.int .i64 u.vw,.int .i64 u.ak,.int .i64 u.vo,.int .i64 u.lo,.int .i64 u.n,.string u.s,.slice aG u.qw.length kG,.string u.d,.slice bG u.pool.length lG,.slice cG u.tab.length nG,.slice dG u.AZ.length pG,.int .i64 u.su,.slice eG u.held.length qG]:=hq▸G.setCells _ _ rfl
  rw[show Na.setCells (gI.heap.size) 0 (Array.toList #[.int .i64 u.id,.int .i64 u.vw,.int .i64 u.ak,.int .i64 u.vo,.int .i64 u.lo,.int .i64 u.n,.string u.s,.slice aG u.qw.length kG,.string u.d,.slice bG u.pool.length lG,.slice cG u.tab.length nG,.slice dG u.AZ.length pG,.int .i64 u.su,.slice eG u.held.length qG])=WR from hq]
  clear hHeld
  refine AA.out _ _ (K.out _ Yf) (fun hHeld=>?_)
  clear AA KK Sr
  replace sR:=sR.kp kN (fun j h1 h2 e=>by omega)
  have yI:=kN.size
  clear hq kN
  refine tx 13 11 ?_
  clear hHeld
  refine Bt ?_
  have bW:=Yf
  clear K Yf
  go_wp2_with fail
  go_meet
  refine⟨_,_,_,_,_,_,_,_,_,_,_,_,_,rfl,rfl,?_,G.lt,G,⟨?_,?_,?_⟩,sR,bW⟩<;>omega
 case rest=>
 obtain⟨w3,hwq⟩:∃x,x=wc:=⟨_,rfl⟩
 subst hwq
 obtain⟨hG,wS,wy,aG,kG,bG,lG,cG,nG,dG,pG,eG,qG,rfl,rfl,hG1,hG2,G,⟨rG1,rG2,rG3⟩,sR,bb⟩:=hcut
 have BP:=bu Am bb
 have IZ:=bb.size
 replace LC:=LC.up bb
 replace LA:=LA.up bb
 replace LM:=LM.up bb
 clear Am bb SP
 go_wp2_with (first|(refine Ap LA 36 _ rfl _ rfl rfl Tryz.underlying36 rfl (by kernel_rfl) ?_))
 refine(TA.out _ (HI.out.below BP)).mono ?_
 rintro _ w4 ⟨u1,u2,u3,u4,u5,rfl,mX,bb⟩
 have Cs:=bu BP bb
 have Ph:=bb.size
 replace LC:=LC.up bb
 replace LA:=LA.up bb
 replace LM:=LM.up bb
 replace G:=G.up bb
 clear BP
 replace sR:=sR.below bb
 clear bb
 obtain⟨aX,kX,bX,lX,cX,nX,dX,pX,eX,qX,rfl,rfl,rfl,rfl,rfl⟩:=mX.form
 obtain⟨loX,zM⟩:∃m,w3.heap.size=m:=⟨_,rfl⟩
 obtain⟨hiX,zO⟩:∃m,w4.heap.size=m:=⟨_,rfl⟩
 rw[zM,zO]at mX
 have g1:=Nat.le_of_eq zM
 have g2:=Nat.le_of_eq zM.symm
 have g3:=Nat.le_of_eq zO
 have g4:=Nat.le_of_eq zO.symm
 clear zM zO
 go_upto_region 10 with(refine BH (AB w4 #[.int .i64 0,.int .i64 0,.int .i64 0,.int .i64 0,.int .i64 0,.int .i64 0,.string ⟨#[]⟩,.slice none 0 0,.string ⟨#[]⟩,.slice none 0 0,.slice none 0 0,.slice none 0 0,.int .i64 0,.slice none 0 0] 54 rfl) 54 #[.int .i64 t.id,.int .i64 t.vw,.int .i64 t.ak,.int .i64 t.vo,.int .i64 t.lo,.int .i64 t.n,.string t.s,.slice aX t.qw.length kX,.string t.d,.slice bX t.pool.length lX,.slice cX t.tab.length nX,.slice dX t.AZ.length pX,.int .i64 t.su,.slice eX t.held.length qX] rfl _ _ rfl rfl rfl (by kernel_rfl) rfl (by simp[Value.oneCell']) ?_)
 obtain⟨w5,Qr⟩:∃y,(w4.alloc (.cells #[.int .i64 0,.int .i64 0,.int .i64 0,.int .i64 0,.int .i64 0,.int .i64 0,.string ⟨#[]⟩,.slice none 0 0,.string ⟨#[]⟩,.slice none 0 0,.slice none 0 0,.slice none 0 0,.int .i64 0,.slice none 0 0] 54)).setRow w4.heap.size #[.int .i64 t.id,.int .i64 t.vw,.int .i64 t.ak,.int .i64 t.vo,.int .i64 t.lo,.int .i64 t.n,.string t.s,.slice aX t.qw.length kX,.string t.d,.slice bX t.pool.length lX,.slice cX t.tab.length nX,.slice dX t.AZ.length pX,.int .i64 t.su,.slice eX t.held.length qX]=y:=⟨_,rfl⟩
 rw[Qr]
 have bb:Below w4.heap.size w4 w5:=Qr▸EE _ _ _ _
 have X:Loc w5 w4.heap.size #[.int .i64 t.id,.int .i64 t.vw,.int .i64 t.ak,.int .i64 t.vo,.int .i64 t.lo,.int .i64 t.n,.string t.s,.slice aX t.qw.length kX,.string t.d,.slice bX t.pool.length lX,.slice cX t.tab.length nX,.slice dX t.AZ.length pX,.int .i64 t.su,.slice eX t.held.length qX]:=Qr▸GX _ _ _ _
 have zw5:w5.heap.size=w4.heap.size+1:=by rw[←Qr];exact Fv _ _ _ _
 clear Qr
 have GZ:=bu Cs bb
 have fQ:=bb.size
 replace LC:=LC.up bb
 replace LA:=LA.up bb
 replace LM:=LM.up bb
 replace G:=G.up bb
 clear Cs
 replace sR:=sR.below bb
 replace mX:=mX.below bb
 clear bb
 go_wp2_with (first|(refine Ap LM 43 _ rfl _ rfl rfl Tryz.underlying43 rfl (by kernel_rfl) ?_))
 refine(TM.out _ (HX.out.below GZ) (HY.out.below GZ) (HZ.out.below GZ)).mono ?_
 rintro _ w6 ⟨u6,u7,u8,rfl,mY,bb⟩
 have J4:=bu GZ bb
 have pE:=bb.size
 replace LC:=LC.up bb
 replace LA:=LA.up bb
 replace LM:=LM.up bb
 replace G:=G.up bb
 replace X:=X.up bb
 clear GZ
 replace sR:=sR.below bb
 replace mX:=mX.below bb
 clear bb
 obtain⟨aY,kY,bY,lY,cY,nY,rfl,rfl,rfl⟩:=mY.form
 have tY:=mY.lt
 obtain⟨loY,wm⟩:∃m,w5.heap.size=m:=⟨_,rfl⟩
 obtain⟨hiY,zN⟩:∃m,w6.heap.size=m:=⟨_,rfl⟩
 rw[wm,zN]at tY
 rw[wm]at mY
 have g5:=Nat.le_of_eq wm
 have g6:=Nat.le_of_eq wm.symm
 have g7:=Nat.le_of_eq zN
 have g8:=Nat.le_of_eq zN.symm
 clear wm zN
 have TY:=hide (fun k(e:(Value.slice aY m.bw.length kY).ownBlock=some k∨(Value.slice bY m.pw.length lY).ownBlock=some k∨(Value.slice cY m.qw.length nY).ownBlock=some k)=>e.elim (tY.1 k) (fun e=>e.elim (tY.2.1 k) (tY.2.2 k)))
 clear tY
 go_upto_region 11 with(refine BH (AB w6 #[.int .i64 0,.int .i64 0,.string ⟨#[]⟩,.int .i64 0,.string ⟨#[]⟩,.slice none 0 0,.int .i64 0,.string ⟨#[]⟩,.slice none 0 0,.int .i64 0,.string ⟨#[]⟩,.slice none 0 0,.int .i64 0,.int .i64 0,.int .i64 0,.int .i64 0,.int .i64 0] 65 rfl) 65 #[.int .i64 m.k,.int .i64 m.vw,.string m.bn,.int .i64 m.bv,.string m.bs,.slice aY m.bw.length kY,.int .i64 m.pv,.string m.ps,.slice bY m.pw.length lY,.int .i64 m.qv,.string m.qs,.slice cY m.qw.length nY,.int .i64 m.wh,.int .i64 m.fr,.int .i64 m.tu,.int .i64 m.am,.int .i64 m.no] rfl _ _ rfl rfl rfl (by kernel_rfl) rfl (by simp[Value.oneCell']) ?_)
 obtain⟨w7,hw7⟩:∃y,(w6.alloc (.cells #[.int .i64 0,.int .i64 0,.string ⟨#[]⟩,.int .i64 0,.string ⟨#[]⟩,.slice none 0 0,.int .i64 0,.string ⟨#[]⟩,.slice none 0 0,.int .i64 0,.string ⟨#[]⟩,.slice none 0 0,.int .i64 0,.int .i64 0,.int .i64 0,.int .i64 0,.int .i64 0] 65)).setRow w6.heap.size #[.int .i64 m.k,.int .i64 m.vw,.string m.bn,.int .i64 m.bv,.string m.bs,.slice aY m.bw.length kY,.int .i64 m.pv,.string m.ps,.slice bY m.pw.length lY,.int .i64 m.qv,.string m.qs,.slice cY m.qw.length nY,.int .i64 m.wh,.int .i64 m.fr,.int .i64 m.tu,.int .i64 m.am,.int .i64 m.no]=y:=⟨_,rfl⟩
 rw[hw7]
 have bb:Below w6.heap.size w6 w7:=hw7▸EE _ _ _ _
 have Y:Loc w7 w6.heap.size #[.int .i64 m.k,.int .i64 m.vw,.string m.bn,.int .i64 m.bv,.string m.bs,.slice aY m.bw.length kY,.int .i64 m.pv,.string m.ps,.slice bY m.pw.length lY,.int .i64 m.qv,.string m.qs,.slice cY m.qw.length nY,.int .i64 m.wh,.int .i64 m.fr,.int .i64 m.tu,.int .i64 m.am,.int .i64 m.no]:=hw7▸GX _ _ _ _
 have zw7:w7.heap.size=w6.heap.size+1:=by rw[←hw7];exact Fv _ _ _ _
 clear hw7
 have Li:=bu J4 bb
 have vX:=bb.size
 replace LC:=LC.up bb
 replace LA:=LA.up bb
 replace LM:=LM.up bb
 replace G:=G.up bb
 replace X:=X.up bb
 clear J4
 replace sR:=sR.below bb
 replace mX:=mX.below bb
 replace mY:=mY.below bb
 clear bb
 have RX:=hide fun w'(hb':Below w7.heap.size w7 w')=>(mX.below hb').Il.BS SM.out
 have RY:=hide fun w'(hb':Below w7.heap.size w7 w')=>(mY.below hb').Fz lx.out
 clear RX RY
 go_upto_region 11 with fail
 try simp only[Act.put,List.setIfInBounds_toArray,List.set_cons_zero,List.set_cons_succ]
 go_cut [14,15] (fun c d1 wx=>∃(h lo hi:Nat)(aY:Option Addr)(kY:Nat)(bY:Option Addr)(lY:Nat)(cY:Option Addr)(nY:Nat)(dY:Option Addr)(pY:Nat)(eY:Option Addr)(qY:Nat),c= .pointer (some ⟨h,0,none⟩)∧d1= .bool vB∧w7.heap.size≤h∧h<wx.heap.size∧Loc wx h #[.int .i64 u.id,.int .i64 u.vw,.int .i64 u.ak,.int .i64 u.vo,.int .i64 u.lo,.int .i64 u.n,.string u.s,.slice aY u.qw.length kY,.string u.d,.slice bY u.pool.length lY,.slice cY u.tab.length nY,.slice dY u.AZ.length pY,.int .i64 u.su,.slice eY u.held.length qY]∧(w7.heap.size≤lo∧hi≤wx.heap.size∧(h<lo∨hi≤h))∧Dh wx lo hi u (.slice aY u.qw.length kY) (.slice bY u.pool.length lY) (.slice cY u.tab.length nY) (.slice dY u.AZ.length pY) (.slice eY u.held.length qY)∧Below w7.heap.size w7 wx)
 case first=>
  have K:=kw (ka (Ia LC 0 1) (ka (kL X) (kL Y)))
  refine Ey K (fun bA hHeld=>?_)
  obtain⟨Np,hwd⟩:∃y,w7.drew=y:=⟨_,rfl⟩
  rw[hwd]at bA hHeld⊢
  clear hwd
  have AB4:=bA.size
  refine tx 0 47 ?_
  refine take_at (i:=2) (d:=49) (v:= .agg #[.int .i64 t.id,.int .i64 t.vw,.int .i64 t.ak,.int .i64 t.vo,.int .i64 t.lo,.int .i64 t.n,.string t.s,.slice aX t.qw.length kX,.string t.d,.slice bX t.pool.length lX,.slice cX t.tab.length nX,.slice dX t.AZ.length pX,.int .i64 t.su,.slice eX t.held.length qX]) rfl rfl (by kernel_rfl) (by kernel_rfl) (by kernel_rfl) (fun _ _ _ h=>h) ?_ (by assumption) ?_
  ·exact A7 rfl 54 _ rfl rfl _ (fun w h=>h.2.2.1) Tryz.underlying54 rfl (by kernel_rfl)
  simp only[pU]
  refine tx 3 50 ?_
  refine take_at (i:=4) (d:=51) (v:= .agg #[.int .i64 m.k,.int .i64 m.vw,.string m.bn,.int .i64 m.bv,.string m.bs,.slice aY m.bw.length kY,.int .i64 m.pv,.string m.ps,.slice bY m.pw.length lY,.int .i64 m.qv,.string m.qs,.slice cY m.qw.length nY,.int .i64 m.wh,.int .i64 m.fr,.int .i64 m.tu,.int .i64 m.am,.int .i64 m.no]) rfl rfl (by kernel_rfl) (by kernel_rfl) (by kernel_rfl) (fun _ _ _ h=>h) ?_ (by assumption) ?_
  ·exact A7 rfl 65 _ rfl rfl _ (fun w h=>h.2.2.2) Tryz.underlying65 rfl (by kernel_rfl)
  simp only[pU]
  refine wpAnyH_ready (rs:=[1,9]) (by kernel_rfl) (by simp) (AllReadyH.cons rfl (fun KK AA=>?_) (AllReadyH.cons rfl (fun KK AA=>?_) AllReadyH.nil))
  ·go_simp
   refine(TC.out _).mono ?_
   rintro e Ep ⟨rfl,bb⟩
   have Gi:Below w7.heap.size w7 Ep:=bu bA bb
   clear hHeld
   refine AA.out _ _ (K.out _ Gi) (fun hHeld=>?_)
   clear AA KK bA
   have zD:=bb.size
   clear bb
   refine wpAnyH_ready (rs:=[5,9]) (by kernel_rfl) (by simp) (AllReadyH.cons rfl (fun KK AA=>?_) (AllReadyH.cons rfl (fun KK AA=>?_) AllReadyH.nil))
   ·go_simp
    refine(IM.out _ _ _ _ _ _ _ _ _ _ _ _ _ _ _ _ _ (EB.out _ _ HE.out (bu Li Gi)) ((mX.below Gi).Il.BS SM.out) ((mY.below Gi).Fz lx.out).1 ((mY.below Gi).Fz lx.out).2.1 ((mY.below Gi).Fz lx.out).2.2).mono ?_
    rintro e Eo ⟨y1,y2,y3,y4,y5,rfl,oR,bb⟩
    have Yu:Below w7.heap.size w7 Eo:=bu Gi bb
    clear hHeld
    refine AA.out _ _ (K.out _ Yu) (fun hHeld=>?_)
    clear AA KK Gi
    have zC:=bb.size
    clear bb
    obtain⟨aH,kH,bH,lH,cH,nH,dH,pH,eH,qH,rfl,rfl,rfl,rfl,rfl⟩:=oR.form
    obtain⟨pW,Ht⟩:∃m,Ep.heap.size=m:=⟨_,rfl⟩
    obtain⟨qD,Hu⟩:∃m,Eo.heap.size=m:=⟨_,rfl⟩
    rw[Ht,Hu]at oR
    have g1:=Nat.le_of_eq Ht
    have g2:=Nat.le_of_eq Ht.symm
    have g3:=Nat.le_of_eq Hu
    have g4:=Nat.le_of_eq Hu.symm
    clear Ht Hu
    refine tx 6 46 ?_
    refine tx 7 53 ?_
    refine tx 8 54 ?_
    refine rd 9 rfl (fun KK AA=>?_)
    go_simp
    obtain⟨JU,hq⟩:∃y,Eo.alloc (.cells #[.int .i64 0,.int .i64 0,.int .i64 0,.int .i64 0,.int .i64 0,.int .i64 0,.string ⟨#[]⟩,.slice none 0 0,.string ⟨#[]⟩,.slice none 0 0,.slice none 0 0,.slice none 0 0,.int .i64 0,.slice none 0 0] 54)=y:=⟨_,rfl⟩
    have bb:Below Eo.heap.size Eo JU:=hq▸Ag _ _
    have TV:Below w7.heap.size w7 JU:=bu Yu bb
    have H:Loc JU Eo.heap.size #[.int .i64 0,.int .i64 0,.int .i64 0,.int .i64 0,.int .i64 0,.int .i64 0,.string ⟨#[]⟩,.slice none 0 0,.string ⟨#[]⟩,.slice none 0 0,.slice none 0 0,.slice none 0 0,.int .i64 0,.slice none 0 0]:=hq▸AB Eo _ _ rfl
    have yD:JU.heap.size=Eo.heap.size+1:=by rw[←hq];simp
    rw[hq]
    clear hHeld hq
    refine AA.out _ _ (K.out _ TV) (fun hHeld=>?_)
    clear AA KK Yu
    have zB:=bb.size
    replace oR:=oR.below bb
    clear bb
    refine rd 10 rfl (fun KK AA=>?_)
    rw[if_pos (by rfl)]
    refine wp_store_mid 54 (.tmp 14) (.tmp 53) rfl (Eo.heap.size) 0 #[.int .i64 u.id,.int .i64 u.vw,.int .i64 u.ak,.int .i64 u.vo,.int .i64 u.lo,.int .i64 u.n,.string u.s,.slice aH u.qw.length kH,.string u.d,.slice bH u.pool.length lH,.slice cH u.tab.length nH,.slice dH u.AZ.length pH,.int .i64 u.su,.slice eH u.held.length qH] rfl rfl (H.there 0 14 (by simp)) (by kernel_rfl) (by simp[Value.oneCell']) ?_
    obtain⟨Wd,hq⟩:∃y,JU.setCells (Eo.heap.size) 0 [.int .i64 u.id,.int .i64 u.vw,.int .i64 u.ak,.int .i64 u.vo,.int .i64 u.lo,.int .i64 u.n,.string u.s,.slice aH u.qw.length kH,.string u.d,.slice bH u.pool.length lH,.slice cH u.tab.length nH,.slice dH u.AZ.length pH,.int .i64 u.su,.slice eH u.held.length qH]=y:=⟨_,rfl⟩
    have kN:Kp JU Wd (fun k=>k=Eo.heap.size):=hq▸Ab _ _ _ _
    have Yt:=Below.kp TV kN TV.size (fun j e=>by omega)
    replace H:Loc Wd (Eo.heap.size) #[.int .i64 u.id,.int .i64 u.vw,.int .i64 u.ak,.int .i64 u.vo,.int .i64 u.lo,.int .i64 u.n,.string u.s,.slice aH u.qw.length kH,.string u.d,.slice bH u.pool.length lH,.slice cH u.tab.length nH,.slice dH u.AZ.length pH,.int .i64 u.su,.slice eH u.held.length qH]:=hq▸H.setCells _ _ rfl
    rw[show JU.setCells (Eo.heap.size) 0 (Array.toList #[.int .i64 u.id,.int .i64 u.vw,.int .i64 u.ak,.int .i64 u.vo,.int .i64 u.lo,.int .i64 u.n,.string u.s,.slice aH u.qw.length kH,.string u.d,.slice bH u.pool.length lH,.slice cH u.tab.length nH,.slice dH u.AZ.length pH,.int .i64 u.su,.slice eH u.held.length qH])=Wd from hq]
    clear hHeld
    refine AA.out _ _ (K.out _ Yt) (fun hHeld=>?_)
    clear AA KK TV
    replace oR:=oR.kp kN (fun j h1 h2 e=>by omega)
    have zA:=kN.size
    clear hq kN
    refine tx 11 15 ?_
    clear hHeld
    refine Bt ?_
    have bW:=Yt
    clear K Yt
    go_wp2_with fail
    go_meet
    refine⟨_,_,_,_,_,_,_,_,_,_,_,_,_,rfl,rfl,?_,H.lt,H,⟨?_,?_,?_⟩,oR,bW⟩<;>omega
   go_simp
   obtain⟨Nl,hq⟩:∃y,Ep.alloc (.cells #[.int .i64 0,.int .i64 0,.int .i64 0,.int .i64 0,.int .i64 0,.int .i64 0,.string ⟨#[]⟩,.slice none 0 0,.string ⟨#[]⟩,.slice none 0 0,.slice none 0 0,.slice none 0 0,.int .i64 0,.slice none 0 0] 54)=y:=⟨_,rfl⟩
   have bb:Below Ep.heap.size Ep Nl:=hq▸Ag _ _
   have GV:Below w7.heap.size w7 Nl:=bu Gi bb
   have H:Loc Nl Ep.heap.size #[.int .i64 0,.int .i64 0,.int .i64 0,.int .i64 0,.int .i64 0,.int .i64 0,.string ⟨#[]⟩,.slice none 0 0,.string ⟨#[]⟩,.slice none 0 0,.slice none 0 0,.slice none 0 0,.int .i64 0,.slice none 0 0]:=hq▸AB Ep _ _ rfl
   have yC:Nl.heap.size=Ep.heap.size+1:=by rw[←hq];simp
   rw[hq]
   clear hHeld hq
   refine AA.out _ _ (K.out _ GV) (fun hHeld=>?_)
   clear AA KK Gi
   have y_:=bb.size
   clear bb
   refine rd 5 rfl (fun KK AA=>?_)
   go_simp
   refine(IM.out _ _ _ _ _ _ _ _ _ _ _ _ _ _ _ _ _ (EB.out _ _ HE.out (bu Li GV)) ((mX.below GV).Il.BS SM.out) ((mY.below GV).Fz lx.out).1 ((mY.below GV).Fz lx.out).2.1 ((mY.below GV).Fz lx.out).2.2).mono ?_
   rintro e KD ⟨y1,y2,y3,y4,y5,rfl,oR,bb⟩
   have NM:Below w7.heap.size w7 KD:=bu GV bb
   clear hHeld
   refine AA.out _ _ (K.out _ NM) (fun hHeld=>?_)
   clear AA KK GV
   have vU:=bb.size
   replace H:=H.up bb
   clear bb
   obtain⟨aH,kH,bH,lH,cH,nH,dH,pH,eH,qH,rfl,rfl,rfl,rfl,rfl⟩:=oR.form
   obtain⟨pW,Ht⟩:∃m,Nl.heap.size=m:=⟨_,rfl⟩
   obtain⟨qD,Hu⟩:∃m,KD.heap.size=m:=⟨_,rfl⟩
   rw[Ht,Hu]at oR
   have g1:=Nat.le_of_eq Ht
   have g2:=Nat.le_of_eq Ht.symm
   have g3:=Nat.le_of_eq Hu
   have g4:=Nat.le_of_eq Hu.symm
   clear Ht Hu
   refine tx 6 46 ?_
   refine tx 7 53 ?_
   refine tx 8 54 ?_
   refine rd 10 rfl (fun KK AA=>?_)
   rw[if_pos (by rfl)]
   refine wp_store_mid 54 (.tmp 14) (.tmp 53) rfl (Ep.heap.size) 0 #[.int .i64 u.id,.int .i64 u.vw,.int .i64 u.ak,.int .i64 u.vo,.int .i64 u.lo,.int .i64 u.n,.string u.s,.slice aH u.qw.length kH,.string u.d,.slice bH u.pool.length lH,.slice cH u.tab.length nH,.slice dH u.AZ.length pH,.int .i64 u.su,.slice eH u.held.length qH] rfl rfl (H.there 0 14 (by simp)) (by kernel_rfl) (by simp[Value.oneCell']) ?_
   obtain⟨Rh,hq⟩:∃y,KD.setCells (Ep.heap.size) 0 [.int .i64 u.id,.int .i64 u.vw,.int .i64 u.ak,.int .i64 u.vo,.int .i64 u.lo,.int .i64 u.n,.string u.s,.slice aH u.qw.length kH,.string u.d,.slice bH u.pool.length lH,.slice cH u.tab.length nH,.slice dH u.AZ.length pH,.int .i64 u.su,.slice eH u.held.length qH]=y:=⟨_,rfl⟩
   have kN:Kp KD Rh (fun k=>k=Ep.heap.size):=hq▸Ab _ _ _ _
   have Ta:=Below.kp NM kN NM.size (fun j e=>by omega)
   replace H:Loc Rh (Ep.heap.size) #[.int .i64 u.id,.int .i64 u.vw,.int .i64 u.ak,.int .i64 u.vo,.int .i64 u.lo,.int .i64 u.n,.string u.s,.slice aH u.qw.length kH,.string u.d,.slice bH u.pool.length lH,.slice cH u.tab.length nH,.slice dH u.AZ.length pH,.int .i64 u.su,.slice eH u.held.length qH]:=hq▸H.setCells _ _ rfl
   rw[show KD.setCells (Ep.heap.size) 0 (Array.toList #[.int .i64 u.id,.int .i64 u.vw,.int .i64 u.ak,.int .i64 u.vo,.int .i64 u.lo,.int .i64 u.n,.string u.s,.slice aH u.qw.length kH,.string u.d,.slice bH u.pool.length lH,.slice cH u.tab.length nH,.slice dH u.AZ.length pH,.int .i64 u.su,.slice eH u.held.length qH])=Rh from hq]
   clear hHeld
   refine AA.out _ _ (K.out _ Ta) (fun hHeld=>?_)
   clear AA KK NM
   replace oR:=oR.kp kN (fun j h1 h2 e=>by omega)
   have vT:=kN.size
   clear hq kN
   refine tx 11 15 ?_
   clear hHeld
   refine Bt ?_
   have bW:=Ta
   clear K Ta
   go_wp2_with fail
   go_meet
   refine⟨_,_,_,_,_,_,_,_,_,_,_,_,_,rfl,rfl,?_,H.lt,H,⟨?_,?_,?_⟩,oR,bW⟩<;>omega
  go_simp
  obtain⟨Ml,hq⟩:∃y,Np.alloc (.cells #[.int .i64 0,.int .i64 0,.int .i64 0,.int .i64 0,.int .i64 0,.int .i64 0,.string ⟨#[]⟩,.slice none 0 0,.string ⟨#[]⟩,.slice none 0 0,.slice none 0 0,.slice none 0 0,.int .i64 0,.slice none 0 0] 54)=y:=⟨_,rfl⟩
  have bb:Below Np.heap.size Np Ml:=hq▸Ag _ _
  have TZ:Below w7.heap.size w7 Ml:=bu bA bb
  have H:Loc Ml Np.heap.size #[.int .i64 0,.int .i64 0,.int .i64 0,.int .i64 0,.int .i64 0,.int .i64 0,.string ⟨#[]⟩,.slice none 0 0,.string ⟨#[]⟩,.slice none 0 0,.slice none 0 0,.slice none 0 0,.int .i64 0,.slice none 0 0]:=hq▸AB Np _ _ rfl
  have uS:Ml.heap.size=Np.heap.size+1:=by rw[←hq];simp
  rw[hq]
  clear hHeld hq
  refine AA.out _ _ (K.out _ TZ) (fun hHeld=>?_)
  clear AA KK bA
  have vS:=bb.size
  clear bb
  refine rd 1 rfl (fun KK AA=>?_)
  go_simp
  refine(TC.out _).mono ?_
  rintro e Y7 ⟨rfl,bb⟩
  have GQ:Below w7.heap.size w7 Y7:=bu TZ bb
  clear hHeld
  refine AA.out _ _ (K.out _ GQ) (fun hHeld=>?_)
  clear AA KK TZ
  have vR:=bb.size
  replace H:=H.up bb
  clear bb
  refine rd 5 rfl (fun KK AA=>?_)
  go_simp
  refine(IM.out _ _ _ _ _ _ _ _ _ _ _ _ _ _ _ _ _ (EB.out _ _ HE.out (bu Li GQ)) ((mX.below GQ).Il.BS SM.out) ((mY.below GQ).Fz lx.out).1 ((mY.below GQ).Fz lx.out).2.1 ((mY.below GQ).Fz lx.out).2.2).mono ?_
  rintro e KC ⟨y1,y2,y3,y4,y5,rfl,oR,bb⟩
  have NL:Below w7.heap.size w7 KC:=bu GQ bb
  clear hHeld
  refine AA.out _ _ (K.out _ NL) (fun hHeld=>?_)
  clear AA KK GQ
  have vQ:=bb.size
  replace H:=H.up bb
  clear bb
  obtain⟨aH,kH,bH,lH,cH,nH,dH,pH,eH,qH,rfl,rfl,rfl,rfl,rfl⟩:=oR.form
  obtain⟨pW,Ht⟩:∃m,Y7.heap.size=m:=⟨_,rfl⟩
  obtain⟨qD,Hu⟩:∃m,KC.heap.size=m:=⟨_,rfl⟩
  rw[Ht,Hu]at oR
  have g1:=Nat.le_of_eq Ht
  have g2:=Nat.le_of_eq Ht.symm
  have g3:=Nat.le_of_eq Hu
  have g4:=Nat.le_of_eq Hu.symm
  clear Ht Hu
  refine tx 6 46 ?_
  refine tx 7 53 ?_
  refine tx 8 54 ?_
  refine rd 10 rfl (fun KK AA=>?_)
  rw[if_pos (by rfl)]
  refine wp_store_mid 54 (.tmp 14) (.tmp 53) rfl (Np.heap.size) 0 #[.int .i64 u.id,.int .i64 u.vw,.int .i64 u.ak,.int .i64 u.vo,.int .i64 u.lo,.int .i64 u.n,.string u.s,.slice aH u.qw.length kH,.string u.d,.slice bH u.pool.length lH,.slice cH u.tab.length nH,.slice dH u.AZ.length pH,.int .i64 u.su,.slice eH u.held.length qH] rfl rfl (H.there 0 14 (by simp)) (by kernel_rfl) (by simp[Value.oneCell']) ?_
  obtain⟨Rf,hq⟩:∃y,KC.setCells (Np.heap.size) 0 [.int .i64 u.id,.int .i64 u.vw,.int .i64 u.ak,.int .i64 u.vo,.int .i64 u.lo,.int .i64 u.n,.string u.s,.slice aH u.qw.length kH,.string u.d,.slice bH u.pool.length lH,.slice cH u.tab.length nH,.slice dH u.AZ.length pH,.int .i64 u.su,.slice eH u.held.length qH]=y:=⟨_,rfl⟩
  have kN:Kp KC Rf (fun k=>k=Np.heap.size):=hq▸Ab _ _ _ _
  have TW:=Below.kp NL kN NL.size (fun j e=>by omega)
  replace H:Loc Rf (Np.heap.size) #[.int .i64 u.id,.int .i64 u.vw,.int .i64 u.ak,.int .i64 u.vo,.int .i64 u.lo,.int .i64 u.n,.string u.s,.slice aH u.qw.length kH,.string u.d,.slice bH u.pool.length lH,.slice cH u.tab.length nH,.slice dH u.AZ.length pH,.int .i64 u.su,.slice eH u.held.length qH]:=hq▸H.setCells _ _ rfl
  rw[show KC.setCells (Np.heap.size) 0 (Array.toList #[.int .i64 u.id,.int .i64 u.vw,.int .i64 u.ak,.int .i64 u.vo,.int .i64 u.lo,.int .i64 u.n,.string u.s,.slice aH u.qw.length kH,.string u.d,.slice bH u.pool.length lH,.slice cH u.tab.length nH,.slice dH u.AZ.length pH,.int .i64 u.su,.slice eH u.held.length qH])=Rf from hq]
  clear hHeld
  refine AA.out _ _ (K.out _ TW) (fun hHeld=>?_)
  clear AA KK NL
  replace oR:=oR.kp kN (fun j h1 h2 e=>by omega)
  have vP:=kN.size
  clear hq kN
  refine tx 11 15 ?_
  clear hHeld
  refine Bt ?_
  have bW:=TW
  clear K TW
  go_wp2_with fail
  go_meet
  refine⟨_,_,_,_,_,_,_,_,_,_,_,_,_,rfl,rfl,?_,H.lt,H,⟨?_,?_,?_⟩,oR,bW⟩<;>omega
 case rest=>
 obtain⟨w8,hwq⟩:∃x,x=wc:=⟨_,rfl⟩
 subst hwq
 obtain⟨hH,pW,qD,aH,kH,bH,lH,cH,nH,dH,pH,eH,qH,rfl,rfl,hH1,hH2,H,⟨rH1,rH2,rH3⟩,K_,bb⟩:=hcut
 have Q7:=bu Li bb
 have vW:=bb.size
 replace LC:=LC.up bb
 replace LA:=LA.up bb
 replace LM:=LM.up bb
 replace G:=G.up bb
 replace X:=X.up bb
 replace Y:=Y.up bb
 clear Li
 replace sR:=sR.below bb
 replace mX:=mX.below bb
 replace mY:=mY.below bb
 clear bb
 go_wp2_with (first|(refine Ap H 54 _ rfl _ rfl rfl Tryz.underlying54 rfl (by kernel_rfl) ?_)|(refine Ap G 54 _ rfl _ rfl rfl Tryz.underlying54 rfl (by kernel_rfl) ?_))
 refine(EU.out _ _ _ _ _ _ _ _ _ _ _ (K_.BS UM.out) sR.BS).mono ?_
 rintro _ w9 ⟨rfl,bb⟩
 have Zi:=bu Q7 bb
 have sw9:=bb.size
 replace LC:=LC.up bb
 replace LA:=LA.up bb
 replace LM:=LM.up bb
 replace G:=G.up bb
 replace X:=X.up bb
 replace Y:=Y.up bb
 replace H:=H.up bb
 clear Q7
 replace sR:=sR.below bb
 replace mX:=mX.below bb
 replace mY:=mY.below bb
 replace K_:=K_.below bb
 clear bb
 have RX:=hide fun w'(hb':Below w9.heap.size w9 w')=>(mX.below hb').Il.BS SM.out
 have K:=kw (ka (kL LA) (kL X))
 go_upto_region 14 with fail
 refine Ey K (fun bA hHeld=>?_)
 refine take_at (i:=0) (d:=64) (v:= .agg #[.int .i64 t.id,.int .i64 t.vw,.int .i64 t.ak,.int .i64 t.vo,.int .i64 t.lo,.int .i64 t.n,.string t.s,.slice aX t.qw.length kX,.string t.d,.slice bX t.pool.length lX,.slice cX t.tab.length nX,.slice dX t.AZ.length pX,.int .i64 t.su,.slice eX t.held.length qX]) rfl rfl (by kernel_rfl) (by kernel_rfl) (by kernel_rfl) (fun _ _ _ h=>h) ?_ (by assumption) ?_
 ·exact A7 rfl 54 _ rfl rfl _ (fun w h=>h.2.2) Tryz.underlying54 rfl (by kernel_rfl)
 simp only[pU]
 refine take_at (i:=1) (d:=65) (v:= .agg #[.int .i64 t.id,.int .i64 t.vw,.int .i64 t.ak,.int .i64 t.vo,.int .i64 t.lo,.int .i64 t.n,.string t.s,.slice ao t.qw.length ca,.string t.d,.slice bo t.pool.length cb,.slice co t.tab.length cc,.slice od t.AZ.length cd,.int .i64 t.su,.slice oe t.held.length ce]) rfl rfl (by kernel_rfl) (by kernel_rfl) (by kernel_rfl) (fun _ _ _ h=>h) ?_ (by assumption) ?_
 ·exact A7 rfl 36 _ rfl rfl _ (fun w h=>h.2.1) Tryz.underlying36 rfl (by kernel_rfl)
 simp only[pU]
 refine rd 2 rfl (fun KK AA=>?_)
 go_simp
 have hgo:=bA
 refine(TA.out _ (HI.out.below (bu Zi hgo))).mono ?_
 rintro e qV ⟨u1,u2,u3,u4,u5,rfl,m1,bb⟩
 have Ao:Below w9.heap.size w9 qV:=bu bA bb
 have R1:=hide (m1.Il.BS SM.out)
 clear m1 bA hgo bb hHeld
 refine AA.out _ _ (K.out _ Ao) (fun hHeld=>?_)
 clear AA KK
 refine rd 3 rfl (fun KK AA=>?_)
 go_simp
 have hgo:=Ao
 refine(EQ.out _ _ _ _ _ _ _ _ _ _ _ (RX.out _ hgo) R1.out).mono ?_
 rintro e JQ ⟨rfl,bb⟩
 have BN:Below w9.heap.size w9 JQ:=bu Ao bb
 clear R1 RX Ao hgo bb hHeld
 refine AA.out _ _ (K.out _ BN) (fun hHeld=>?_)
 clear AA KK
 refine tx 4 68 ?_
 clear hHeld
 refine Bt ?_
 have bb:=BN
 have Ko:=bu Zi bb
 have yH:=bb.size
 replace LC:=LC.up bb
 replace LA:=LA.up bb
 replace LM:=LM.up bb
 replace G:=G.up bb
 replace X:=X.up bb
 replace Y:=Y.up bb
 replace H:=H.up bb
 clear Zi
 replace sR:=sR.below bb
 replace mX:=mX.below bb
 replace mY:=mY.below bb
 replace K_:=K_.below bb
 clear bb BN K
 have RY:=hide fun w'(hb':Below JQ.heap.size JQ w')=>(mY.below hb').Fz lx.out
 have K:=kw (ka (kL LM) (kL Y))
 go_upto_region 16 with fail
 refine Ey K (fun bA hHeld=>?_)
 refine take_at (i:=0) (d:=69) (v:= .agg #[.int .i64 m.k,.int .i64 m.vw,.string m.bn,.int .i64 m.bv,.string m.bs,.slice aY m.bw.length kY,.int .i64 m.pv,.string m.ps,.slice bY m.pw.length lY,.int .i64 m.qv,.string m.qs,.slice cY m.qw.length nY,.int .i64 m.wh,.int .i64 m.fr,.int .i64 m.tu,.int .i64 m.am,.int .i64 m.no]) rfl rfl (by kernel_rfl) (by kernel_rfl) (by kernel_rfl) (fun _ _ _ h=>h) ?_ (by assumption) ?_
 ·exact A7 rfl 65 _ rfl rfl _ (fun w h=>h.2.2) Tryz.underlying65 rfl (by kernel_rfl)
 simp only[pU]
 refine take_at (i:=1) (d:=70) (v:= .agg #[.int .i64 m.k,.int .i64 m.vw,.string m.bn,.int .i64 m.bv,.string m.bs,.slice am m.bw.length km,.int .i64 m.pv,.string m.ps,.slice bm m.pw.length lm,.int .i64 m.qv,.string m.qs,.slice cm m.qw.length nm,.int .i64 m.wh,.int .i64 m.fr,.int .i64 m.tu,.int .i64 m.am,.int .i64 m.no]) rfl rfl (by kernel_rfl) (by kernel_rfl) (by kernel_rfl) (fun _ _ _ h=>h) ?_ (by assumption) ?_
 ·exact A7 rfl 43 _ rfl rfl _ (fun w h=>h.2.1) Tryz.underlying43 rfl (by kernel_rfl)
 simp only[pU]
 refine rd 2 rfl (fun KK AA=>?_)
 go_simp
 have hgo:=bA
 refine(TM.out _ (HX.out.below (bu Ko hgo)) (HY.out.below (bu Ko hgo)) (HZ.out.below (bu Ko hgo))).mono ?_
 rintro e qU ⟨u6,u7,u8,rfl,m2,bb⟩
 have Ao:Below JQ.heap.size JQ qU:=bu bA bb
 have R1:=hide (m2.Fz lx.out)
 clear m2 bA hgo bb hHeld
 refine AA.out _ _ (K.out _ Ao) (fun hHeld=>?_)
 clear AA KK
 refine rd 3 rfl (fun KK AA=>?_)
 go_simp
 have hgo:=Ao
 refine(EM.out _ _ _ _ _ _ _ (RY.out _ hgo).1 (RY.out _ hgo).2.1 (RY.out _ hgo).2.2 R1.out.1 R1.out.2.1 R1.out.2.2).mono ?_
 rintro e qQ ⟨rfl,bb⟩
 have BN:Below JQ.heap.size JQ qQ:=bu Ao bb
 clear R1 RY Ao hgo bb hHeld
 refine AA.out _ _ (K.out _ BN) (fun hHeld=>?_)
 clear AA KK
 refine tx 4 73 ?_
 clear hHeld
 refine Bt ?_
 have bb:=BN
 have Tg:=bu Ko bb
 have yG:=bb.size
 replace LC:=LC.up bb
 replace LA:=LA.up bb
 replace LM:=LM.up bb
 replace G:=G.up bb
 replace X:=X.up bb
 replace Y:=Y.up bb
 replace H:=H.up bb
 clear Ko
 replace sR:=sR.below bb
 replace mX:=mX.below bb
 replace mY:=mY.below bb
 replace K_:=K_.below bb
 clear bb BN K
 have mX2:=hide mX.gen
 clear mX
 go_wp2_with (first|(refine Ap X 54 _ rfl _ rfl rfl Tryz.underlying54 rfl (by kernel_rfl) ?_))
 refine(MR.out _ _ _ _ _ _ _ _ mX2.out).mono ?_
 rintro _ Tw ⟨rfl,_,kN⟩
 replace LC:=LC.kp kN (fun e=>by obtain⟨h5,h6⟩:=e;omega)
 replace LA:=LA.kp kN (fun e=>by obtain⟨h5,h6⟩:=e;omega)
 replace LM:=LM.kp kN (fun e=>by obtain⟨h5,h6⟩:=e;omega)
 replace G:=G.kp kN (fun e=>by obtain⟨h5,h6⟩:=e;omega)
 replace X:=X.kp kN (fun e=>by obtain⟨h5,h6⟩:=e;omega)
 replace Y:=Y.kp kN (fun e=>by obtain⟨h5,h6⟩:=e;omega)
 replace H:=H.kp kN (fun e=>by obtain⟨h5,h6⟩:=e;omega)
 replace sR:=sR.kp kN (fun j h1 h2 e=>by obtain⟨h5,h6⟩:=e;omega)
 replace mY:=mY.kp kN (fun j h1 h2 h3 e=>by obtain⟨h5,h6⟩:=e;omega)
 replace K_:=K_.kp kN (fun j h1 h2 e=>by obtain⟨h5,h6⟩:=e;omega)
 have J5:=Below.kp Tg kN Tg.size (fun j e=>by obtain⟨h5,h6⟩:=e;omega)
 have q8:=kN.size
 clear kN Tg mX2 MR
 have mY2:=hide mY
 clear mY
 go_wp2_with (first|(refine Ap Y 65 _ rfl _ rfl rfl Tryz.underlying65 rfl (by kernel_rfl) ?_))
 refine(MM.out _ _ _ _ _ _ mY2.out TY.out).mono ?_
 rintro _ fM ⟨rfl,kN⟩
 replace LC:=LC.kp kN (fun e=>by obtain⟨h5,h6⟩:=e;omega)
 replace LA:=LA.kp kN (fun e=>by obtain⟨h5,h6⟩:=e;omega)
 replace LM:=LM.kp kN (fun e=>by obtain⟨h5,h6⟩:=e;omega)
 replace G:=G.kp kN (fun e=>by obtain⟨h5,h6⟩:=e;omega)
 replace X:=X.kp kN (fun e=>by obtain⟨h5,h6⟩:=e;omega)
 replace Y:=Y.kp kN (fun e=>by obtain⟨h5,h6⟩:=e;omega)
 replace H:=H.kp kN (fun e=>by obtain⟨h5,h6⟩:=e;omega)
 replace sR:=sR.kp kN (fun j h1 h2 e=>by obtain⟨h5,h6⟩:=e;omega)
 replace K_:=K_.kp kN (fun j h1 h2 e=>by obtain⟨h5,h6⟩:=e;omega)
 have QJ:=Below.kp J5 kN J5.size (fun j e=>by obtain⟨h5,h6⟩:=e;omega)
 have vY:=kN.size
 clear kN J5 mY2 MM TY
 go_wp2_with (first|(refine Ap H 54 _ rfl _ rfl rfl Tryz.underlying54 rfl (by kernel_rfl) ?_)|(refine Ap G 54 _ rfl _ rfl rfl Tryz.underlying54 rfl (by kernel_rfl) ?_))
 refine(EU.out _ _ _ _ _ _ _ _ _ _ _ (K_.BS UM.out) sR.BS).mono ?_
 rintro _ o_ ⟨rfl,bb⟩
 have tq:=bu QJ bb
 have ACr:=bb.size
 replace LC:=LC.up bb
 replace LA:=LA.up bb
 replace LM:=LM.up bb
 replace G:=G.up bb
 replace X:=X.up bb
 replace Y:=Y.up bb
 replace H:=H.up bb
 clear QJ
 replace sR:=sR.below bb
 replace K_:=K_.below bb
 clear bb
 have o2:=hide K_
 clear K_
 go_wp2_with (first|(refine Ap H 54 _ rfl _ rfl rfl Tryz.underlying54 rfl (by kernel_rfl) ?_))
 refine(MU.out _ _ _ _ _ _ _ _ o2.out).mono ?_
 rintro _ w13 ⟨rfl,K_,kN⟩
 replace LC:=LC.kp kN (fun e=>by obtain⟨h5,h6⟩:=e;omega)
 replace LA:=LA.kp kN (fun e=>by obtain⟨h5,h6⟩:=e;omega)
 replace LM:=LM.kp kN (fun e=>by obtain⟨h5,h6⟩:=e;omega)
 replace G:=G.kp kN (fun e=>by obtain⟨h5,h6⟩:=e;omega)
 replace X:=X.kp kN (fun e=>by obtain⟨h5,h6⟩:=e;omega)
 replace Y:=Y.kp kN (fun e=>by obtain⟨h5,h6⟩:=e;omega)
 replace H:=H.kp kN (fun e=>by obtain⟨h5,h6⟩:=e;omega)
 replace sR:=sR.kp kN (fun j h1 h2 e=>by obtain⟨h5,h6⟩:=e;omega)
 have xw:=Below.kp tq kN tq.size (fun j e=>by obtain⟨h5,h6⟩:=e;omega)
 have ACq:=kN.size
 clear kN tq o2 MU
 go_wp2_with (first|(refine Ap H 54 _ rfl _ rfl rfl Tryz.underlying54 rfl (by kernel_rfl) ?_))
 refine(HU.out _ _ _ _ _ _ (K_.BS UK.out)).mono ?_
 rintro _ EG ⟨rfl,bb⟩
 have F8:=bu xw bb
 have ACp:=bb.size
 replace LC:=LC.up bb
 replace LA:=LA.up bb
 replace LM:=LM.up bb
 replace G:=G.up bb
 replace X:=X.up bb
 replace Y:=Y.up bb
 replace H:=H.up bb
 clear xw
 replace sR:=sR.below bb
 replace K_:=K_.below bb
 clear bb
 go_upto_region 31 with fail
 try simp only[Act.put,List.setIfInBounds_toArray,List.set_cons_zero,List.set_cons_succ]
 go_cut [19,20] (fun c d1 wx=>∃(h lo hi:Nat)(aY:Option Addr)(kY:Nat)(bY:Option Addr)(lY:Nat)(cY:Option Addr)(nY:Nat)(dY:Option Addr)(pY:Nat)(eY:Option Addr)(qY:Nat),c= .pointer (some ⟨h,0,none⟩)∧d1= .bool vB∧EG.heap.size≤h∧h<wx.heap.size∧Loc wx h #[.int .i64 u.id,.int .i64 u.vw,.int .i64 u.ak,.int .i64 u.vo,.int .i64 u.lo,.int .i64 u.n,.string u.s,.slice aY u.qw.length kY,.string u.d,.slice bY u.pool.length lY,.slice cY u.tab.length nY,.slice dY u.AZ.length pY,.int .i64 u.su,.slice eY u.held.length qY]∧(EG.heap.size≤lo∧hi≤wx.heap.size∧(h<lo∨hi≤h))∧Dh wx lo hi u (.slice aY u.qw.length kY) (.slice bY u.pool.length lY) (.slice cY u.tab.length nY) (.slice dY u.AZ.length pY) (.slice eY u.held.length qY)∧Below EG.heap.size EG wx)
 case first=>
  have K:=kw (ka (Ia LC 0 1) (ka (kL LA) (kL LM)))
  refine Ey K (fun bA hHeld=>?_)
  obtain⟨Nn,hwd⟩:∃y,EG.drew=y:=⟨_,rfl⟩
  rw[hwd]at bA hHeld⊢
  clear hwd
  have AB3:=bA.size
  refine tx 0 105 ?_
  refine take_at (i:=2) (d:=107) (v:= .agg #[.int .i64 t.id,.int .i64 t.vw,.int .i64 t.ak,.int .i64 t.vo,.int .i64 t.lo,.int .i64 t.n,.string t.s,.slice ao t.qw.length ca,.string t.d,.slice bo t.pool.length cb,.slice co t.tab.length cc,.slice od t.AZ.length cd,.int .i64 t.su,.slice oe t.held.length ce]) rfl rfl (by kernel_rfl) (by kernel_rfl) (by kernel_rfl) (fun _ _ _ h=>h) ?_ (by assumption) ?_
  ·exact A7 rfl 36 _ rfl rfl _ (fun w h=>h.2.2.1) Tryz.underlying36 rfl (by kernel_rfl)
  simp only[pU]
  refine tx 4 109 ?_
  refine take_at (i:=5) (d:=110) (v:= .agg #[.int .i64 m.k,.int .i64 m.vw,.string m.bn,.int .i64 m.bv,.string m.bs,.slice am m.bw.length km,.int .i64 m.pv,.string m.ps,.slice bm m.pw.length lm,.int .i64 m.qv,.string m.qs,.slice cm m.qw.length nm,.int .i64 m.wh,.int .i64 m.fr,.int .i64 m.tu,.int .i64 m.am,.int .i64 m.no]) rfl rfl (by kernel_rfl) (by kernel_rfl) (by kernel_rfl) (fun _ _ _ h=>h) ?_ (by assumption) ?_
  ·exact A7 rfl 43 _ rfl rfl _ (fun w h=>h.2.2.2) Tryz.underlying43 rfl (by kernel_rfl)
  simp only[pU]
  refine wpAnyH_ready (rs:=[1,11]) (by kernel_rfl) (by simp) (AllReadyH.cons rfl (fun KK AA=>?_) (AllReadyH.cons rfl (fun KK AA=>?_) AllReadyH.nil))
  ·go_simp
   refine(TC.out _).mono ?_
   rintro e FI ⟨rfl,bb⟩
   have Lf:Below EG.heap.size EG FI:=bu bA bb
   clear hHeld
   refine AA.out _ _ (K.out _ Lf) (fun hHeld=>?_)
   clear AA KK bA
   have y9:=bb.size
   clear bb
   refine wpAnyH_ready (rs:=[3,11]) (by kernel_rfl) (by simp) (AllReadyH.cons rfl (fun KK AA=>?_) (AllReadyH.cons rfl (fun KK AA=>?_) AllReadyH.nil))
   ·go_simp
    refine(TA.out _ (HI.out.below (bu F8 Lf))).mono ?_
    rintro e FH ⟨u1,u2,u3,u4,u5,rfl,m1,bb⟩
    have Iq:Below EG.heap.size EG FH:=bu Lf bb
    clear hHeld
    refine AA.out _ _ (K.out _ Iq) (fun hHeld=>?_)
    clear AA KK Lf
    have y8:=bb.size
    clear bb
    obtain⟨a1,k1,b1,l1,c1,n1,xN,p1,e1,q1,rfl,rfl,rfl,rfl,rfl⟩:=m1.form
    refine wpAnyH_ready (rs:=[6,11]) (by kernel_rfl) (by simp) (AllReadyH.cons rfl (fun KK AA=>?_) (AllReadyH.cons rfl (fun KK AA=>?_) AllReadyH.nil))
    ·go_simp
     refine(TM.out _ (HX.out.below (bu F8 Iq)) (HY.out.below (bu F8 Iq)) (HZ.out.below (bu F8 Iq))).mono ?_
     rintro e En ⟨u6,u7,u8,rfl,m2,bb⟩
     have Le:Below EG.heap.size EG En:=bu Iq bb
     clear hHeld
     refine AA.out _ _ (K.out _ Le) (fun hHeld=>?_)
     clear AA KK Iq
     have yz:=bb.size
     replace m1:=m1.below bb
     clear bb
     obtain⟨aN,rZ,bN,lN,cN,nN,rfl,rfl,rfl⟩:=m2.form
     refine wpAnyH_ready (rs:=[7,11]) (by kernel_rfl) (by simp) (AllReadyH.cons rfl (fun KK AA=>?_) (AllReadyH.cons rfl (fun KK AA=>?_) AllReadyH.nil))
     ·go_simp
      refine(IM.out _ _ _ _ _ _ _ _ _ _ _ _ _ _ _ _ _ (EB.out _ _ HE.out (bu F8 Le)) (m1.Il.BS SM.out) (m2.Fz lx.out).1 (m2.Fz lx.out).2.1 (m2.Fz lx.out).2.2).mono ?_
      rintro e Em ⟨y1,y2,y3,y4,y5,rfl,oR,bb⟩
      have Yr:Below EG.heap.size EG Em:=bu Le bb
      clear hHeld
      refine AA.out _ _ (K.out _ Yr) (fun hHeld=>?_)
      clear AA KK Le
      have yx:=bb.size
      replace m1:=m1.below bb
      replace m2:=m2.below bb
      clear bb m1 m2
      obtain⟨aH,kH,bH,lH,cH,nH,dH,pH,eH,qH,rfl,rfl,rfl,rfl,rfl⟩:=oR.form
      obtain⟨pW,Ht⟩:∃m,En.heap.size=m:=⟨_,rfl⟩
      obtain⟨qD,Hu⟩:∃m,Em.heap.size=m:=⟨_,rfl⟩
      rw[Ht,Hu]at oR
      have g1:=Nat.le_of_eq Ht
      have g2:=Nat.le_of_eq Ht.symm
      have g3:=Nat.le_of_eq Hu
      have g4:=Nat.le_of_eq Hu.symm
      clear Ht Hu
      refine tx 8 104 ?_
      refine tx 9 113 ?_
      refine tx 10 114 ?_
      refine rd 11 rfl (fun KK AA=>?_)
      go_simp
      obtain⟨JR,hq⟩:∃y,Em.alloc (.cells #[.int .i64 0,.int .i64 0,.int .i64 0,.int .i64 0,.int .i64 0,.int .i64 0,.string ⟨#[]⟩,.slice none 0 0,.string ⟨#[]⟩,.slice none 0 0,.slice none 0 0,.slice none 0 0,.int .i64 0,.slice none 0 0] 54)=y:=⟨_,rfl⟩
      have bb:Below Em.heap.size Em JR:=hq▸Ag _ _
      have NK:Below EG.heap.size EG JR:=bu Yr bb
      have N:Loc JR Em.heap.size #[.int .i64 0,.int .i64 0,.int .i64 0,.int .i64 0,.int .i64 0,.int .i64 0,.string ⟨#[]⟩,.slice none 0 0,.string ⟨#[]⟩,.slice none 0 0,.slice none 0 0,.slice none 0 0,.int .i64 0,.slice none 0 0]:=hq▸AB Em _ _ rfl
      have yB:JR.heap.size=Em.heap.size+1:=by rw[←hq];simp
      rw[hq]
      clear hHeld hq
      refine AA.out _ _ (K.out _ NK) (fun hHeld=>?_)
      clear AA KK Yr
      have yw:=bb.size
      replace oR:=oR.below bb
      clear bb
      refine rd 12 rfl (fun KK AA=>?_)
      rw[if_pos (by rfl)]
      refine wp_store_mid 54 (.tmp 19) (.tmp 113) rfl (Em.heap.size) 0 #[.int .i64 u.id,.int .i64 u.vw,.int .i64 u.ak,.int .i64 u.vo,.int .i64 u.lo,.int .i64 u.n,.string u.s,.slice aH u.qw.length kH,.string u.d,.slice bH u.pool.length lH,.slice cH u.tab.length nH,.slice dH u.AZ.length pH,.int .i64 u.su,.slice eH u.held.length qH] rfl rfl (N.there 0 14 (by simp)) (by kernel_rfl) (by simp[Value.oneCell']) ?_
      obtain⟨Rc,hq⟩:∃y,JR.setCells (Em.heap.size) 0 [.int .i64 u.id,.int .i64 u.vw,.int .i64 u.ak,.int .i64 u.vo,.int .i64 u.lo,.int .i64 u.n,.string u.s,.slice aH u.qw.length kH,.string u.d,.slice bH u.pool.length lH,.slice cH u.tab.length nH,.slice dH u.AZ.length pH,.int .i64 u.su,.slice eH u.held.length qH]=y:=⟨_,rfl⟩
      have kN:Kp JR Rc (fun k=>k=Em.heap.size):=hq▸Ab _ _ _ _
      have TU:=Below.kp NK kN NK.size (fun j e=>by omega)
      replace N:Loc Rc (Em.heap.size) #[.int .i64 u.id,.int .i64 u.vw,.int .i64 u.ak,.int .i64 u.vo,.int .i64 u.lo,.int .i64 u.n,.string u.s,.slice aH u.qw.length kH,.string u.d,.slice bH u.pool.length lH,.slice cH u.tab.length nH,.slice dH u.AZ.length pH,.int .i64 u.su,.slice eH u.held.length qH]:=hq▸N.setCells _ _ rfl
      rw[show JR.setCells (Em.heap.size) 0 (Array.toList #[.int .i64 u.id,.int .i64 u.vw,.int .i64 u.ak,.int .i64 u.vo,.int .i64 u.lo,.int .i64 u.n,.string u.s,.slice aH u.qw.length kH,.string u.d,.slice bH u.pool.length lH,.slice cH u.tab.length nH,.slice dH u.AZ.length pH,.int .i64 u.su,.slice eH u.held.length qH])=Rc from hq]
      clear hHeld
      refine AA.out _ _ (K.out _ TU) (fun hHeld=>?_)
      clear AA KK NK
      replace oR:=oR.kp kN (fun j h1 h2 e=>by omega)
      have vO:=kN.size
      clear hq kN
      refine tx 13 20 ?_
      clear hHeld
      refine Bt ?_
      have bW:=TU
      clear K TU
      go_wp2_with fail
      go_meet
      refine⟨_,_,_,_,_,_,_,_,_,_,_,_,_,rfl,rfl,?_,N.lt,N,⟨?_,?_,?_⟩,oR,bW⟩<;>omega
     go_simp
     obtain⟨KA,hq⟩:∃y,En.alloc (.cells #[.int .i64 0,.int .i64 0,.int .i64 0,.int .i64 0,.int .i64 0,.int .i64 0,.string ⟨#[]⟩,.slice none 0 0,.string ⟨#[]⟩,.slice none 0 0,.slice none 0 0,.slice none 0 0,.int .i64 0,.slice none 0 0] 54)=y:=⟨_,rfl⟩
     have bb:Below En.heap.size En KA:=hq▸Ag _ _
     have NJ:Below EG.heap.size EG KA:=bu Le bb
     have N:Loc KA En.heap.size #[.int .i64 0,.int .i64 0,.int .i64 0,.int .i64 0,.int .i64 0,.int .i64 0,.string ⟨#[]⟩,.slice none 0 0,.string ⟨#[]⟩,.slice none 0 0,.slice none 0 0,.slice none 0 0,.int .i64 0,.slice none 0 0]:=hq▸AB En _ _ rfl
     have uR:KA.heap.size=En.heap.size+1:=by rw[←hq];simp
     rw[hq]
     clear hHeld hq
     refine AA.out _ _ (K.out _ NJ) (fun hHeld=>?_)
     clear AA KK Le
     have vN:=bb.size
     replace m1:=m1.below bb
     replace m2:=m2.below bb
     clear bb
     refine rd 7 rfl (fun KK AA=>?_)
     go_simp
     refine(IM.out _ _ _ _ _ _ _ _ _ _ _ _ _ _ _ _ _ (EB.out _ _ HE.out (bu F8 NJ)) (m1.Il.BS SM.out) (m2.Fz lx.out).1 (m2.Fz lx.out).2.1 (m2.Fz lx.out).2.2).mono ?_
     rintro e J_ ⟨y1,y2,y3,y4,y5,rfl,oR,bb⟩
     have NH:Below EG.heap.size EG J_:=bu NJ bb
     clear hHeld
     refine AA.out _ _ (K.out _ NH) (fun hHeld=>?_)
     clear AA KK NJ
     have vM:=bb.size
     replace N:=N.up bb
     replace m1:=m1.below bb
     replace m2:=m2.below bb
     clear bb m1 m2
     obtain⟨aH,kH,bH,lH,cH,nH,dH,pH,eH,qH,rfl,rfl,rfl,rfl,rfl⟩:=oR.form
     obtain⟨pW,Ht⟩:∃m,KA.heap.size=m:=⟨_,rfl⟩
     obtain⟨qD,Hu⟩:∃m,J_.heap.size=m:=⟨_,rfl⟩
     rw[Ht,Hu]at oR
     have g1:=Nat.le_of_eq Ht
     have g2:=Nat.le_of_eq Ht.symm
     have g3:=Nat.le_of_eq Hu
     have g4:=Nat.le_of_eq Hu.symm
     clear Ht Hu
     refine tx 8 104 ?_
     refine tx 9 113 ?_
     refine tx 10 114 ?_
     refine rd 12 rfl (fun KK AA=>?_)
     rw[if_pos (by rfl)]
     refine wp_store_mid 54 (.tmp 19) (.tmp 113) rfl (En.heap.size) 0 #[.int .i64 u.id,.int .i64 u.vw,.int .i64 u.ak,.int .i64 u.vo,.int .i64 u.lo,.int .i64 u.n,.string u.s,.slice aH u.qw.length kH,.string u.d,.slice bH u.pool.length lH,.slice cH u.tab.length nH,.slice dH u.AZ.length pH,.int .i64 u.su,.slice eH u.held.length qH] rfl rfl (N.there 0 14 (by simp)) (by kernel_rfl) (by simp[Value.oneCell']) ?_
     obtain⟨Rb,hq⟩:∃y,J_.setCells (En.heap.size) 0 [.int .i64 u.id,.int .i64 u.vw,.int .i64 u.ak,.int .i64 u.vo,.int .i64 u.lo,.int .i64 u.n,.string u.s,.slice aH u.qw.length kH,.string u.d,.slice bH u.pool.length lH,.slice cH u.tab.length nH,.slice dH u.AZ.length pH,.int .i64 u.su,.slice eH u.held.length qH]=y:=⟨_,rfl⟩
     have kN:Kp J_ Rb (fun k=>k=En.heap.size):=hq▸Ab _ _ _ _
     have TS:=Below.kp NH kN NH.size (fun j e=>by omega)
     replace N:Loc Rb (En.heap.size) #[.int .i64 u.id,.int .i64 u.vw,.int .i64 u.ak,.int .i64 u.vo,.int .i64 u.lo,.int .i64 u.n,.string u.s,.slice aH u.qw.length kH,.string u.d,.slice bH u.pool.length lH,.slice cH u.tab.length nH,.slice dH u.AZ.length pH,.int .i64 u.su,.slice eH u.held.length qH]:=hq▸N.setCells _ _ rfl
     rw[show J_.setCells (En.heap.size) 0 (Array.toList #[.int .i64 u.id,.int .i64 u.vw,.int .i64 u.ak,.int .i64 u.vo,.int .i64 u.lo,.int .i64 u.n,.string u.s,.slice aH u.qw.length kH,.string u.d,.slice bH u.pool.length lH,.slice cH u.tab.length nH,.slice dH u.AZ.length pH,.int .i64 u.su,.slice eH u.held.length qH])=Rb from hq]
     clear hHeld
     refine AA.out _ _ (K.out _ TS) (fun hHeld=>?_)
     clear AA KK NH
     replace oR:=oR.kp kN (fun j h1 h2 e=>by omega)
     have vL:=kN.size
     clear hq kN
     refine tx 13 20 ?_
     clear hHeld
     refine Bt ?_
     have bW:=TS
     clear K TS
     go_wp2_with fail
     go_meet
     refine⟨_,_,_,_,_,_,_,_,_,_,_,_,_,rfl,rfl,?_,N.lt,N,⟨?_,?_,?_⟩,oR,bW⟩<;>omega
    go_simp
    obtain⟨Mk,hq⟩:∃y,FH.alloc (.cells #[.int .i64 0,.int .i64 0,.int .i64 0,.int .i64 0,.int .i64 0,.int .i64 0,.string ⟨#[]⟩,.slice none 0 0,.string ⟨#[]⟩,.slice none 0 0,.slice none 0 0,.slice none 0 0,.int .i64 0,.slice none 0 0] 54)=y:=⟨_,rfl⟩
    have bb:Below FH.heap.size FH Mk:=hq▸Ag _ _
    have JD:Below EG.heap.size EG Mk:=bu Iq bb
    have N:Loc Mk FH.heap.size #[.int .i64 0,.int .i64 0,.int .i64 0,.int .i64 0,.int .i64 0,.int .i64 0,.string ⟨#[]⟩,.slice none 0 0,.string ⟨#[]⟩,.slice none 0 0,.slice none 0 0,.slice none 0 0,.int .i64 0,.slice none 0 0]:=hq▸AB FH _ _ rfl
    have uQ:Mk.heap.size=FH.heap.size+1:=by rw[←hq];simp
    rw[hq]
    clear hHeld hq
    refine AA.out _ _ (K.out _ JD) (fun hHeld=>?_)
    clear AA KK Iq
    have vK:=bb.size
    replace m1:=m1.below bb
    clear bb
    refine rd 6 rfl (fun KK AA=>?_)
    go_simp
    refine(TM.out _ (HX.out.below (bu F8 JD)) (HY.out.below (bu F8 JD)) (HZ.out.below (bu F8 JD))).mono ?_
    rintro e Y3 ⟨u6,u7,u8,rfl,m2,bb⟩
    have NG:Below EG.heap.size EG Y3:=bu JD bb
    clear hHeld
    refine AA.out _ _ (K.out _ NG) (fun hHeld=>?_)
    clear AA KK JD
    have vJ:=bb.size
    replace N:=N.up bb
    replace m1:=m1.below bb
    clear bb
    obtain⟨aN,rZ,bN,lN,cN,nN,rfl,rfl,rfl⟩:=m2.form
    refine rd 7 rfl (fun KK AA=>?_)
    go_simp
    refine(IM.out _ _ _ _ _ _ _ _ _ _ _ _ _ _ _ _ _ (EB.out _ _ HE.out (bu F8 NG)) (m1.Il.BS SM.out) (m2.Fz lx.out).1 (m2.Fz lx.out).2.1 (m2.Fz lx.out).2.2).mono ?_
    rintro e J9 ⟨y1,y2,y3,y4,y5,rfl,oR,bb⟩
    have NF:Below EG.heap.size EG J9:=bu NG bb
    clear hHeld
    refine AA.out _ _ (K.out _ NF) (fun hHeld=>?_)
    clear AA KK NG
    have vI:=bb.size
    replace N:=N.up bb
    replace m1:=m1.below bb
    replace m2:=m2.below bb
    clear bb m1 m2
    obtain⟨aH,kH,bH,lH,cH,nH,dH,pH,eH,qH,rfl,rfl,rfl,rfl,rfl⟩:=oR.form
    obtain⟨pW,Ht⟩:∃m,Y3.heap.size=m:=⟨_,rfl⟩
    obtain⟨qD,Hu⟩:∃m,J9.heap.size=m:=⟨_,rfl⟩
    rw[Ht,Hu]at oR
    have g1:=Nat.le_of_eq Ht
    have g2:=Nat.le_of_eq Ht.symm
    have g3:=Nat.le_of_eq Hu
    have g4:=Nat.le_of_eq Hu.symm
    clear Ht Hu
    refine tx 8 104 ?_
    refine tx 9 113 ?_
    refine tx 10 114 ?_
    refine rd 12 rfl (fun KK AA=>?_)
    rw[if_pos (by rfl)]
    refine wp_store_mid 54 (.tmp 19) (.tmp 113) rfl (FH.heap.size) 0 #[.int .i64 u.id,.int .i64 u.vw,.int .i64 u.ak,.int .i64 u.vo,.int .i64 u.lo,.int .i64 u.n,.string u.s,.slice aH u.qw.length kH,.string u.d,.slice bH u.pool.length lH,.slice cH u.tab.length nH,.slice dH u.AZ.length pH,.int .i64 u.su,.slice eH u.held.length qH] rfl rfl (N.there 0 14 (by simp)) (by kernel_rfl) (by simp[Value.oneCell']) ?_
    obtain⟨Ra,hq⟩:∃y,J9.setCells (FH.heap.size) 0 [.int .i64 u.id,.int .i64 u.vw,.int .i64 u.ak,.int .i64 u.vo,.int .i64 u.lo,.int .i64 u.n,.string u.s,.slice aH u.qw.length kH,.string u.d,.slice bH u.pool.length lH,.slice cH u.tab.length nH,.slice dH u.AZ.length pH,.int .i64 u.su,.slice eH u.held.length qH]=y:=⟨_,rfl⟩
    have kN:Kp J9 Ra (fun k=>k=FH.heap.size):=hq▸Ab _ _ _ _
    have TK:=Below.kp NF kN NF.size (fun j e=>by omega)
    replace N:Loc Ra (FH.heap.size) #[.int .i64 u.id,.int .i64 u.vw,.int .i64 u.ak,.int .i64 u.vo,.int .i64 u.lo,.int .i64 u.n,.string u.s,.slice aH u.qw.length kH,.string u.d,.slice bH u.pool.length lH,.slice cH u.tab.length nH,.slice dH u.AZ.length pH,.int .i64 u.su,.slice eH u.held.length qH]:=hq▸N.setCells _ _ rfl
    rw[show J9.setCells (FH.heap.size) 0 (Array.toList #[.int .i64 u.id,.int .i64 u.vw,.int .i64 u.ak,.int .i64 u.vo,.int .i64 u.lo,.int .i64 u.n,.string u.s,.slice aH u.qw.length kH,.string u.d,.slice bH u.pool.length lH,.slice cH u.tab.length nH,.slice dH u.AZ.length pH,.int .i64 u.su,.slice eH u.held.length qH])=Ra from hq]
    clear hHeld
    refine AA.out _ _ (K.out _ TK) (fun hHeld=>?_)
    clear AA KK NF
    replace oR:=oR.kp kN (fun j h1 h2 e=>by omega)
    have vH:=kN.size
    clear hq kN
    refine tx 13 20 ?_
    clear hHeld
    refine Bt ?_
    have bW:=TK
    clear K TK
    go_wp2_with fail
    go_meet
    refine⟨_,_,_,_,_,_,_,_,_,_,_,_,_,rfl,rfl,?_,N.lt,N,⟨?_,?_,?_⟩,oR,bW⟩<;>omega
   go_simp
   obtain⟨Mj,hq⟩:∃y,FI.alloc (.cells #[.int .i64 0,.int .i64 0,.int .i64 0,.int .i64 0,.int .i64 0,.int .i64 0,.string ⟨#[]⟩,.slice none 0 0,.string ⟨#[]⟩,.slice none 0 0,.slice none 0 0,.slice none 0 0,.int .i64 0,.slice none 0 0] 54)=y:=⟨_,rfl⟩
   have bb:Below FI.heap.size FI Mj:=hq▸Ag _ _
   have ND:Below EG.heap.size EG Mj:=bu Lf bb
   have N:Loc Mj FI.heap.size #[.int .i64 0,.int .i64 0,.int .i64 0,.int .i64 0,.int .i64 0,.int .i64 0,.string ⟨#[]⟩,.slice none 0 0,.string ⟨#[]⟩,.slice none 0 0,.slice none 0 0,.slice none 0 0,.int .i64 0,.slice none 0 0]:=hq▸AB FI _ _ rfl
   have uP:Mj.heap.size=FI.heap.size+1:=by rw[←hq];simp
   rw[hq]
   clear hHeld hq
   refine AA.out _ _ (K.out _ ND) (fun hHeld=>?_)
   clear AA KK Lf
   have vG:=bb.size
   clear bb
   refine rd 3 rfl (fun KK AA=>?_)
   go_simp
   refine(TA.out _ (HI.out.below (bu F8 ND))).mono ?_
   rintro e lC ⟨u1,u2,u3,u4,u5,rfl,m1,bb⟩
   have JC:Below EG.heap.size EG lC:=bu ND bb
   clear hHeld
   refine AA.out _ _ (K.out _ JC) (fun hHeld=>?_)
   clear AA KK ND
   have vF:=bb.size
   replace N:=N.up bb
   clear bb
   obtain⟨a1,k1,b1,l1,c1,n1,xN,p1,e1,q1,rfl,rfl,rfl,rfl,rfl⟩:=m1.form
   refine rd 6 rfl (fun KK AA=>?_)
   go_simp
   refine(TM.out _ (HX.out.below (bu F8 JC)) (HY.out.below (bu F8 JC)) (HZ.out.below (bu F8 JC))).mono ?_
   rintro e Y2 ⟨u6,u7,u8,rfl,m2,bb⟩
   have NC:Below EG.heap.size EG Y2:=bu JC bb
   clear hHeld
   refine AA.out _ _ (K.out _ NC) (fun hHeld=>?_)
   clear AA KK JC
   have vE:=bb.size
   replace N:=N.up bb
   replace m1:=m1.below bb
   clear bb
   obtain⟨aN,rZ,bN,lN,cN,nN,rfl,rfl,rfl⟩:=m2.form
   refine rd 7 rfl (fun KK AA=>?_)
   go_simp
   refine(IM.out _ _ _ _ _ _ _ _ _ _ _ _ _ _ _ _ _ (EB.out _ _ HE.out (bu F8 NC)) (m1.Il.BS SM.out) (m2.Fz lx.out).1 (m2.Fz lx.out).2.1 (m2.Fz lx.out).2.2).mono ?_
   rintro e J8 ⟨y1,y2,y3,y4,y5,rfl,oR,bb⟩
   have NB:Below EG.heap.size EG J8:=bu NC bb
   clear hHeld
   refine AA.out _ _ (K.out _ NB) (fun hHeld=>?_)
   clear AA KK NC
   have vD:=bb.size
   replace N:=N.up bb
   replace m1:=m1.below bb
   replace m2:=m2.below bb
   clear bb m1 m2
   obtain⟨aH,kH,bH,lH,cH,nH,dH,pH,eH,qH,rfl,rfl,rfl,rfl,rfl⟩:=oR.form
   obtain⟨pW,Ht⟩:∃m,Y2.heap.size=m:=⟨_,rfl⟩
   obtain⟨qD,Hu⟩:∃m,J8.heap.size=m:=⟨_,rfl⟩
   rw[Ht,Hu]at oR
   have g1:=Nat.le_of_eq Ht
   have g2:=Nat.le_of_eq Ht.symm
   have g3:=Nat.le_of_eq Hu
   have g4:=Nat.le_of_eq Hu.symm
   clear Ht Hu
   refine tx 8 104 ?_
   refine tx 9 113 ?_
   refine tx 10 114 ?_
   refine rd 12 rfl (fun KK AA=>?_)
   rw[if_pos (by rfl)]
   refine wp_store_mid 54 (.tmp 19) (.tmp 113) rfl (FI.heap.size) 0 #[.int .i64 u.id,.int .i64 u.vw,.int .i64 u.ak,.int .i64 u.vo,.int .i64 u.lo,.int .i64 u.n,.string u.s,.slice aH u.qw.length kH,.string u.d,.slice bH u.pool.length lH,.slice cH u.tab.length nH,.slice dH u.AZ.length pH,.int .i64 u.su,.slice eH u.held.length qH] rfl rfl (N.there 0 14 (by simp)) (by kernel_rfl) (by simp[Value.oneCell']) ?_
   obtain⟨RQ,hq⟩:∃y,J8.setCells (FI.heap.size) 0 [.int .i64 u.id,.int .i64 u.vw,.int .i64 u.ak,.int .i64 u.vo,.int .i64 u.lo,.int .i64 u.n,.string u.s,.slice aH u.qw.length kH,.string u.d,.slice bH u.pool.length lH,.slice cH u.tab.length nH,.slice dH u.AZ.length pH,.int .i64 u.su,.slice eH u.held.length qH]=y:=⟨_,rfl⟩
   have kN:Kp J8 RQ (fun k=>k=FI.heap.size):=hq▸Ab _ _ _ _
   have TJ:=Below.kp NB kN NB.size (fun j e=>by omega)
   replace N:Loc RQ (FI.heap.size) #[.int .i64 u.id,.int .i64 u.vw,.int .i64 u.ak,.int .i64 u.vo,.int .i64 u.lo,.int .i64 u.n,.string u.s,.slice aH u.qw.length kH,.string u.d,.slice bH u.pool.length lH,.slice cH u.tab.length nH,.slice dH u.AZ.length pH,.int .i64 u.su,.slice eH u.held.length qH]:=hq▸N.setCells _ _ rfl
   rw[show J8.setCells (FI.heap.size) 0 (Array.toList #[.int .i64 u.id,.int .i64 u.vw,.int .i64 u.ak,.int .i64 u.vo,.int .i64 u.lo,.int .i64 u.n,.string u.s,.slice aH u.qw.length kH,.string u.d,.slice bH u.pool.length lH,.slice cH u.tab.length nH,.slice dH u.AZ.length pH,.int .i64 u.su,.slice eH u.held.length qH])=RQ from hq]
   clear hHeld
   refine AA.out _ _ (K.out _ TJ) (fun hHeld=>?_)
   clear AA KK NB
   replace oR:=oR.kp kN (fun j h1 h2 e=>by omega)
   have vC:=kN.size
   clear hq kN
   refine tx 13 20 ?_
   clear hHeld
   refine Bt ?_
   have bW:=TJ
   clear K TJ
   go_wp2_with fail
   go_meet
   refine⟨_,_,_,_,_,_,_,_,_,_,_,_,_,rfl,rfl,?_,N.lt,N,⟨?_,?_,?_⟩,oR,bW⟩<;>omega
  go_simp
  obtain⟨Mi,hq⟩:∃y,Nn.alloc (.cells #[.int .i64 0,.int .i64 0,.int .i64 0,.int .i64 0,.int .i64 0,.int .i64 0,.string ⟨#[]⟩,.slice none 0 0,.string ⟨#[]⟩,.slice none 0 0,.slice none 0 0,.slice none 0 0,.int .i64 0,.slice none 0 0] 54)=y:=⟨_,rfl⟩
  have bb:Below Nn.heap.size Nn Mi:=hq▸Ag _ _
  have TI:Below EG.heap.size EG Mi:=bu bA bb
  have N:Loc Mi Nn.heap.size #[.int .i64 0,.int .i64 0,.int .i64 0,.int .i64 0,.int .i64 0,.int .i64 0,.string ⟨#[]⟩,.slice none 0 0,.string ⟨#[]⟩,.slice none 0 0,.slice none 0 0,.slice none 0 0,.int .i64 0,.slice none 0 0]:=hq▸AB Nn _ _ rfl
  have uO:Mi.heap.size=Nn.heap.size+1:=by rw[←hq];simp
  rw[hq]
  clear hHeld hq
  refine AA.out _ _ (K.out _ TI) (fun hHeld=>?_)
  clear AA KK bA
  have vB:=bb.size
  clear bb
  refine rd 1 rfl (fun KK AA=>?_)
  go_simp
  refine(TC.out _).mono ?_
  rintro e kz ⟨rfl,bb⟩
  have M_:Below EG.heap.size EG kz:=bu TI bb
  clear hHeld
  refine AA.out _ _ (K.out _ M_) (fun hHeld=>?_)
  clear AA KK TI
  have u_:=bb.size
  replace N:=N.up bb
  clear bb
  refine rd 3 rfl (fun KK AA=>?_)
  go_simp
  refine(TA.out _ (HI.out.below (bu F8 M_))).mono ?_
  rintro e ky ⟨u1,u2,u3,u4,u5,rfl,m1,bb⟩
  have JB:Below EG.heap.size EG ky:=bu M_ bb
  clear hHeld
  refine AA.out _ _ (K.out _ JB) (fun hHeld=>?_)
  clear AA KK M_
  have uz:=bb.size
  replace N:=N.up bb
  clear bb
  obtain⟨a1,k1,b1,l1,c1,n1,xN,p1,e1,q1,rfl,rfl,rfl,rfl,rfl⟩:=m1.form
  refine rd 6 rfl (fun KK AA=>?_)
  go_simp
  refine(TM.out _ (HX.out.below (bu F8 JB)) (HY.out.below (bu F8 JB)) (HZ.out.below (bu F8 JB))).mono ?_
  rintro e Y1 ⟨u6,u7,u8,rfl,m2,bb⟩
  have M9:Below EG.heap.size EG Y1:=bu JB bb
  clear hHeld
  refine AA.out _ _ (K.out _ M9) (fun hHeld=>?_)
  clear AA KK JB
  have uy:=bb.size
  replace N:=N.up bb
  replace m1:=m1.below bb
  clear bb
  obtain⟨aN,rZ,bN,lN,cN,nN,rfl,rfl,rfl⟩:=m2.form
  refine rd 7 rfl (fun KK AA=>?_)
  go_simp
  refine(IM.out _ _ _ _ _ _ _ _ _ _ _ _ _ _ _ _ _ (EB.out _ _ HE.out (bu F8 M9)) (m1.Il.BS SM.out) (m2.Fz lx.out).1 (m2.Fz lx.out).2.1 (m2.Fz lx.out).2.2).mono ?_
  rintro e J7 ⟨y1,y2,y3,y4,y5,rfl,oR,bb⟩
  have M8:Below EG.heap.size EG J7:=bu M9 bb
  clear hHeld
  refine AA.out _ _ (K.out _ M8) (fun hHeld=>?_)
  clear AA KK M9
  have uw:=bb.size
  replace N:=N.up bb
  replace m1:=m1.below bb
  replace m2:=m2.below bb
  clear bb m1 m2
  obtain⟨aH,kH,bH,lH,cH,nH,dH,pH,eH,qH,rfl,rfl,rfl,rfl,rfl⟩:=oR.form
  obtain⟨pW,Ht⟩:∃m,Y1.heap.size=m:=⟨_,rfl⟩
  obtain⟨qD,Hu⟩:∃m,J7.heap.size=m:=⟨_,rfl⟩
  rw[Ht,Hu]at oR
  have g1:=Nat.le_of_eq Ht
  have g2:=Nat.le_of_eq Ht.symm
  have g3:=Nat.le_of_eq Hu
  have g4:=Nat.le_of_eq Hu.symm
  clear Ht Hu
  refine tx 8 104 ?_
  refine tx 9 113 ?_
  refine tx 10 114 ?_
  refine rd 12 rfl (fun KK AA=>?_)
  rw[if_pos (by rfl)]
  refine wp_store_mid 54 (.tmp 19) (.tmp 113) rfl (Nn.heap.size) 0 #[.int .i64 u.id,.int .i64 u.vw,.int .i64 u.ak,.int .i64 u.vo,.int .i64 u.lo,.int .i64 u.n,.string u.s,.slice aH u.qw.length kH,.string u.d,.slice bH u.pool.length lH,.slice cH u.tab.length nH,.slice dH u.AZ.length pH,.int .i64 u.su,.slice eH u.held.length qH] rfl rfl (N.there 0 14 (by simp)) (by kernel_rfl) (by simp[Value.oneCell']) ?_
  obtain⟨RL,hq⟩:∃y,J7.setCells (Nn.heap.size) 0 [.int .i64 u.id,.int .i64 u.vw,.int .i64 u.ak,.int .i64 u.vo,.int .i64 u.lo,.int .i64 u.n,.string u.s,.slice aH u.qw.length kH,.string u.d,.slice bH u.pool.length lH,.slice cH u.tab.length nH,.slice dH u.AZ.length pH,.int .i64 u.su,.slice eH u.held.length qH]=y:=⟨_,rfl⟩
  have kN:Kp J7 RL (fun k=>k=Nn.heap.size):=hq▸Ab _ _ _ _
  have TG:=Below.kp M8 kN M8.size (fun j e=>by omega)
  replace N:Loc RL (Nn.heap.size) #[.int .i64 u.id,.int .i64 u.vw,.int .i64 u.ak,.int .i64 u.vo,.int .i64 u.lo,.int .i64 u.n,.string u.s,.slice aH u.qw.length kH,.string u.d,.slice bH u.pool.length lH,.slice cH u.tab.length nH,.slice dH u.AZ.length pH,.int .i64 u.su,.slice eH u.held.length qH]:=hq▸N.setCells _ _ rfl
  rw[show J7.setCells (Nn.heap.size) 0 (Array.toList #[.int .i64 u.id,.int .i64 u.vw,.int .i64 u.ak,.int .i64 u.vo,.int .i64 u.lo,.int .i64 u.n,.string u.s,.slice aH u.qw.length kH,.string u.d,.slice bH u.pool.length lH,.slice cH u.tab.length nH,.slice dH u.AZ.length pH,.int .i64 u.su,.slice eH u.held.length qH])=RL from hq]
  clear hHeld
  refine AA.out _ _ (K.out _ TG) (fun hHeld=>?_)
  clear AA KK M8
  replace oR:=oR.kp kN (fun j h1 h2 e=>by omega)
  have um:=kN.size
  clear hq kN
  refine tx 13 20 ?_
  clear hHeld
  refine Bt ?_
  have bW:=TG
  clear K TG
  go_wp2_with fail
  go_meet
  refine⟨_,_,_,_,_,_,_,_,_,_,_,_,_,rfl,rfl,?_,N.lt,N,⟨?_,?_,?_⟩,oR,bW⟩<;>omega
 case rest=>
 obtain⟨w15,hwq⟩:∃x,x=wc:=⟨_,rfl⟩
 subst hwq
 obtain⟨hN,loN,hiN,aN,kN,bN,lN,cN,nN,dN,pN,eN,qN,rfl,rfl,hN1,hN2,N,⟨rN1,rN2,rN3⟩,wM,bb⟩:=hcut
 have xu:=bu F8 bb
 have ACo:=bb.size
 replace LC:=LC.up bb
 replace LA:=LA.up bb
 replace LM:=LM.up bb
 replace G:=G.up bb
 replace X:=X.up bb
 replace Y:=Y.up bb
 replace H:=H.up bb
 clear F8
 replace sR:=sR.below bb
 replace K_:=K_.below bb
 clear bb
 go_wp2_with (first|(refine Ap N 54 _ rfl _ rfl rfl Tryz.underlying54 rfl (by kernel_rfl) ?_)|(refine Ap G 54 _ rfl _ rfl rfl Tryz.underlying54 rfl (by kernel_rfl) ?_))
 refine(EU.out _ _ _ _ _ _ _ _ _ _ _ (wM.BS UM.out) sR.BS).mono ?_
 rintro _ w16 ⟨rfl,bb⟩
 have xq:=bu xu bb
 have ACn:=bb.size
 replace LC:=LC.up bb
 replace LA:=LA.up bb
 replace LM:=LM.up bb
 replace G:=G.up bb
 replace X:=X.up bb
 replace Y:=Y.up bb
 replace H:=H.up bb
 replace N:=N.up bb
 clear xu
 replace sR:=sR.below bb
 replace K_:=K_.below bb
 replace wM:=wM.below bb
 clear bb
 go_wp2_with (first|(refine Ap H 54 _ rfl _ rfl rfl Tryz.underlying54 rfl (by kernel_rfl) ?_))
 refine(HU.out _ _ _ _ _ _ (K_.BS UK.out)).mono ?_
 rintro _ w17 ⟨rfl,bb⟩
 have ABw:=bu xq bb
 have ACm:=bb.size
 replace LC:=LC.up bb
 replace LA:=LA.up bb
 replace LM:=LM.up bb
 replace G:=G.up bb
 replace X:=X.up bb
 replace Y:=Y.up bb
 replace H:=H.up bb
 replace N:=N.up bb
 clear xq
 replace sR:=sR.below bb
 replace K_:=K_.below bb
 replace wM:=wM.below bb
 clear bb
 go_wp2
 go_ret
 exact⟨rfl,ABw⟩
end
end Go.Proofs.YtkmnfeihjjccmaaGreatDoor
