/- Lemmas; their conditions stand in each statement. -/
import Derived.Test.YtkmnfeihjjccmaaGreatDoorTLAQ
set_option maxRecDepth 100000
set_option maxHeartbeats 16000000
set_option linter.unusedSectionVars false
set_option linter.unusedSimpArgs false
namespace Go.Proofs.YtkmnfeihjjccmaaGreatDoor
section
open Go Go.RowKit
variable [∀(a b c d:Int),Decidable (BD a b c d)]
variable [∀(n f:Int),Decidable (A8 n f)]
variable [∀(a b c d:Nat),Decidable (Dj a b c d)]
variable [∀(x:T4),Decidable (Dr x)]
def FQ(w:World)(lo hi:Nat)(t:Bu)(a b c d e:Value):Prop:=∃s1 s2 s3 s4 vs,(lo≤s1∧s1≤s2∧s2≤s3∧s3≤s4∧s4≤hi∧hi≤w.heap.size)∧(OI w lo a t.qw∧∀j,a.ownBlock=some j→j<s1)∧(OT w s1 b t.pool∧∀j,b.ownBlock=some j→j<s2)∧Q6 w s2 s3 c t.tab vs∧(OB w s3 d t.AZ∧∀j,d.ownBlock=some j→j<s4)∧Pe w s4 hi e t.held
theorem FQ.kp{w w':World}{lo hi:Nat}{X:Nat→Prop}{t:Bu}{a b c d e:Value}(h:FQ w lo hi t a b c d e)(k:Kp w w' X)(hX:∀j,lo≤j→j<hi→¬X j):FQ w' lo hi t a b c d e:=by
 obtain⟨s1,s2,s3,s4,vs,hs,⟨a1,a2⟩,⟨b1,b2⟩,c1,⟨d1,d2⟩,e1⟩:=h
 have z:=k.size
 have la:=World.ownsRow.lt a1
 have lb:=World.ownsRow.lt b1
 have ld:=World.ownsRow.lt d1
 exact⟨s1,s2,s3,s4,vs,by omega,⟨a1.kp k (fun j hj=>hX j (la j hj).1 (by have:=a2 j hj;omega)),a2⟩,⟨b1.kp k (fun j hj=>hX j (by have:=lb j hj;omega) (by have:=b2 j hj;omega)),b2⟩,c1.kp k (fun j h1 h2=>hX j (by omega) (by omega)),⟨d1.kp k (fun j hj=>hX j (by have:=ld j hj;omega) (by have:=d2 j hj;omega)),d2⟩,e1.kp k (fun j h1 h2=>hX j (by omega) h2)⟩
theorem FQ.below{w w':World}{lo hi:Nat}{t:Bu}{a b c d e:Value}(h:FQ w lo hi t a b c d e)(hb:Below w.heap.size w w'):FQ w' lo hi t a b c d e:=h.kp (Below.Bb hb (fun _=>False)) (fun _ _ _ h=>h)
theorem FQ.Il{w:World}{lo hi:Nat}{t:Bu}{a b c d e:Value}(h:FQ w lo hi t a b c d e):Pb w lo t a b c d e:=by
 obtain⟨s1,s2,s3,s4,vs,hs,a1,b1,c1,d1,e1⟩:=h
 exact⟨s1,s2,s3,s4,vs,by omega,a1,b1,c1,d1,e1.kQ⟩
theorem FQ.mono{w:World}{lo lo' hi hi':Nat}{t:Bu}{a b c d e:Value}(h:FQ w lo hi t a b c d e)(h1:lo'≤lo)(h2:hi≤hi')(h3:hi'≤w.heap.size):FQ w lo' hi' t a b c d e:=by
 obtain⟨s1,s2,s3,s4,vs,hs,⟨a1,a2⟩,b1,c1,d1,e1⟩:=h
 exact⟨s1,s2,s3,s4,vs,by omega,⟨a1.mono h1,a2⟩,b1,c1,d1,e1.mono (Nat.le_refl _) h2⟩
theorem FQ.form{w:World}{lo hi:Nat}{t:Bu}{a b c d e:Value}(h:FQ w lo hi t a b c d e):∃ao ca bo cb co cc od cd oe ce,a= .slice ao t.qw.length ca∧b= .slice bo t.pool.length cb∧c= .slice co t.tab.length cc∧d= .slice od t.AZ.length cd∧e= .slice oe t.held.length ce:=h.Il.form
def aM(k:Nat)(t:Bu):Nat:=k+t.qw.length
def ZG(k:Nat)(t:Bu):Nat:=aM k t+t.pool.length*4
def aL(k:Nat)(t:Bu):Nat:=pend (ZG k t) t.tab
def Qa(k:Nat)(t:Bu):Nat:=aL k t+t.AZ.length
def Pj(k:Nat)(t:Bu):Nat:=Bp (Qa k t) t.held
def rG(k:Nat)(t:Bu):Bu:={ t with qw:=Ay k t.qw.length,pool:=Ck (aM k t) t.pool.length,tab:=Mq (ZG k t) t.tab,AZ:=marks (aL k t) t.AZ.length,held:=E9 (Qa k t) t.held }
theorem pI(k:Nat)(t:Bu):k≤aM k t∧aM k t≤ZG k t∧ZG k t≤aL k t∧aL k t≤Qa k t∧Qa k t≤Pj k t:=by
 have h1:=ZK (ZG k t) t.tab
 have h2:=Ur (Qa k t) t.held
 refine⟨by unfold aM;omega,by unfold ZG;omega,by unfold aL;exact h1,by unfold Qa;omega,by unfold Pj;exact h2⟩
theorem Wt(base k0:Nat)(v:Value)(xs:List T4)(w:World)(hl:xs.length≤4194304)(hk0:k0≤100000000)(h:OT w base v xs):
 Calls Tryz.prog 49 #[v,.int .i64 k0] w fun e w'=>e= .returned (.int .i64 (k0+xs.length*4))∧OT w' base v (Ck k0 xs.length)∧Kp w w' (fun k=>v.ownBlock=some k):=by
 have h':=h
 rcases h.2 with⟨rfl,h0⟩|⟨g,cap,cur,rfl,_⟩
 ·refine(Wu k0 w).mono ?_
  rintro e w' ⟨rfl,rfl⟩
  have hx:xs=[]:=List.length_eq_zero_iff.1 h0
  subst hx
  exact⟨by simp,World.ownsRow_nil _ _ _ _,Kp.refl _ _⟩
 refine(Zp base g xs.length cap k0 xs w hl hk0 rfl h').mono ?_
 rintro e w' ⟨rfl,ho,hg⟩
 exact⟨rfl,ho,CE hg⟩
theorem Wj(t:Bu)(a:Value)(bo:Option Addr)(cb:Nat)(c d e:Value)(w:World)(hs:JF t)(h:fI w t a bo c d e):
 Calls Tryz.prog 8 #[ES t a (.slice bo t.pool.length cb) c d e] w fun r w'=>∃a' b' c' d' e',r= .returned (ES t a' b' c' d' e')∧FQ w' w.heap.size w'.heap.size t a' b' c' d' e'∧Below w.heap.size w w':=by
 have HI:=hide h
 have T1:=hide fun w h=>Wi t.vo t.lo t.n t.s a t.qw t.d w h
 have T2:=hide fun w h=>Zo bo cb t.pool w hs.p h
 have T3:=hide fun v w h=>UA v t.tab w hs.tb h
 have j5:=hide fun v w h=>Wm v t.AZ t.su w h
 have T5:=hide fun v w h=>T_ v t.held w hs.h h
 obtain⟨oa,ka,rfl⟩:=h.q.form
 obtain⟨oc,kc,rfl⟩:=h.tb.form
 obtain⟨od,kd,rfl⟩:=RB.Bw h.d
 obtain⟨oe,ke,rfl⟩:=h.h.form
 clear h hs
 obtain⟨w0,hw0,AO,P,R,O,DN⟩:=qI w #[.int .i64 t.id,.int .i64 t.vw,.int .i64 t.ak,.int .i64 t.vo,.int .i64 t.lo,.int .i64 t.n,.string t.s,.slice oa t.qw.length ka,.string t.d,.slice bo t.pool.length cb,.slice oc t.tab.length kc,.slice od t.AZ.length kd,.int .i64 t.su,.slice oe t.held.length ke] 36 #[.int .i64 0,.int .i64 0,.int .i64 0,.int .i64 0,.int .i64 0,.int .i64 0,.string ⟨#[]⟩,.slice none 0 0,.string ⟨#[]⟩,.slice none 0 0,.slice none 0 0,.slice none 0 0,.int .i64 0,.slice none 0 0] 54 #[.int .i64 0,.int .i64 0,.int .i64 0,.int .i64 0,.int .i64 0,.int .i64 0,.string ⟨#[]⟩,.slice none 0 0,.string ⟨#[]⟩,.slice none 0 0,.slice none 0 0,.slice none 0 0,.int .i64 0,.slice none 0 0] 54
 go_enter Tryz.func8,Tryz.ntmps8
 obtain⟨fZ,cP1,cP2⟩:=Bv P 0 1 2
 obtain⟨xO,cO1,cO2⟩:=Bv O 0 1 2
 have fO:=O.frozen
 go_upto_region 5 with fail
 clear hw0 fZ cP1 cP2 xO cO1 cO2 fO
 obtain⟨w1,hw1⟩:∃Cj,(((w0.setCell ⟨w.heap.size+1+1,0,none⟩ (.int .i64 t.id)).setCell ⟨w.heap.size+1+1,1,none⟩ (.int .i64 t.vw)).setCell ⟨w.heap.size+1+1,2,none⟩ (.int .i64 t.ak))=Cj:=⟨_,rfl⟩
 have kN:Kp w0 w1 (fun k=>k=w.heap.size+1+1):=hw1▸((AJ _ _ _ _).trans (AJ _ _ _ _)).trans (AJ _ _ _ _)
 replace O:Loc w1 (w.heap.size+1+1) #[.int .i64 t.id,.int .i64 t.vw,.int .i64 t.ak,.int .i64 0,.int .i64 0,.int .i64 0,.string ⟨#[]⟩,.slice none 0 0,.string ⟨#[]⟩,.slice none 0 0,.slice none 0 0,.slice none 0 0,.int .i64 0,.slice none 0 0]:=hw1▸(((O.set 0 _ rfl).set 1 _ rfl).set 2 _ rfl)
 replace P:=P.kp kN (by omega)
 replace R:=R.kp kN (by omega)
 have AP:=Below.kp AO kN AO.size (fun k hk=>by omega)
 have Ct:=kN.size
 rw[hw1]
 clear hw1 kN AO
 go_wp2_with (first|(refine Az [.int .i64 t.vo,.int .i64 t.lo,.int .i64 t.n,.string t.s,.slice oa t.qw.length ka,.string t.d] (P.range 3 6 rfl) 28 _ rfl _ rfl rfl Tryz.underlying28 rfl (by kernel_rfl) ?_))
 refine(T1.out _ (HI.out.q.below AP)).mono ?_
 rintro _ w2 ⟨uA,rfl,oA,bb⟩
 have Am:=bu AP bb
 have El:=bb.size
 replace P:=P.up bb
 replace R:=R.up bb
 replace O:=O.up bb
 clear AP bb
 have toA:=World.ownsRow.lt oA
 obtain⟨DL,DC,rfl⟩:=oA.form
 go_upto_region 6 with(refine FT #[.int .i64 t.vo,.int .i64 t.lo,.int .i64 t.n,.string t.s,.slice DL t.qw.length DC,.string t.d] (O.there 3 6 (by simp)) 48 rfl _ _ rfl rfl rfl (by kernel_rfl) (by simp[Value.oneCell']) ?_)
 obtain⟨w3,hw3⟩:∃y,w2.setCells (w.heap.size+1+1) 3 [.int .i64 t.vo,.int .i64 t.lo,.int .i64 t.n,.string t.s,.slice DL t.qw.length DC,.string t.d]=y:=⟨_,rfl⟩
 rw[hw3]
 have kN:Kp w2 w3 (fun k=>k=w.heap.size+1+1):=hw3▸Ab _ _ _ _
 replace O:Loc w3 (w.heap.size+1+1) #[.int .i64 t.id,.int .i64 t.vw,.int .i64 t.ak,.int .i64 t.vo,.int .i64 t.lo,.int .i64 t.n,.string t.s,.slice DL t.qw.length DC,.string t.d,.slice none 0 0,.slice none 0 0,.slice none 0 0,.int .i64 0,.slice none 0 0]:=hw3▸O.setCells _ _ rfl
 replace P:=P.kp kN (by omega)
 replace R:=R.kp kN (by omega)
 replace oA:=oA.kp kN (fun j hj e=>by have:=toA j hj;omega)
 have BP:=Below.kp Am kN Am.size (fun k hk=>by omega)
 have IZ:=kN.size
 clear hw3 kN Am
 have Ye:=P.cell 9 rfl
 go_wp2_with fail
 refine(T2.out _ (HI.out.p.below BP)).mono ?_
 rintro _ w4 ⟨uB,rfl,oB,bb⟩
 clear Ye
 have Cs:=bu BP bb
 have Ph:=bb.size
 replace P:=P.up bb
 replace R:=R.up bb
 replace O:=O.up bb
 replace oA:=oA.below bb
 clear BP bb
 have BQ:=World.ownsRow.lt oB
 obtain⟨Dy,Dw,rfl⟩:=OT.Bw oB
 have cO9:=O.cell 9 rfl
 have fO:=O.frozen
 go_upto_region 7 with fail
 clear cO9 fO
 obtain⟨w5,Qr⟩:∃Cj,(w4.setCell ⟨w.heap.size+1+1,9,none⟩ (.slice Dy t.pool.length Dw))=Cj:=⟨_,rfl⟩
 have kN:Kp w4 w5 (fun k=>k=w.heap.size+1+1):=Qr▸AJ _ _ _ _
 replace O:Loc w5 (w.heap.size+1+1) #[.int .i64 t.id,.int .i64 t.vw,.int .i64 t.ak,.int .i64 t.vo,.int .i64 t.lo,.int .i64 t.n,.string t.s,.slice DL t.qw.length DC,.string t.d,.slice Dy t.pool.length Dw,.slice none 0 0,.slice none 0 0,.int .i64 0,.slice none 0 0]:=Qr▸(O.set 9 _ rfl)
 replace P:=P.kp kN (by omega)
 replace R:=R.kp kN (by omega)
 replace oA:=oA.kp kN (fun j hj e=>by have:=toA j hj;omega)
 replace oB:=oB.kp kN (fun j hj e=>by have:=BQ j hj;omega)
 have GZ:=Below.kp Cs kN Cs.size (fun k hk=>by omega)
 have fQ:=kN.size
 rw[Qr]
 clear Qr kN Cs
 have LW:=P.cell 10 rfl
 go_wp2_with fail
 refine(T3.out _ _ (HI.out.tb.below GZ)).mono ?_
 rintro _ w6 ⟨uC,rfl,oC,bb⟩
 clear LW
 have J4:=bu GZ bb
 have pE:=bb.size
 replace P:=P.up bb
 replace R:=R.up bb
 replace O:=O.up bb
 replace oA:=oA.below bb
 replace oB:=oB.below bb
 clear GZ bb
 obtain⟨Ef,Ee,rfl⟩:=oC.form
 obtain⟨vs,oC⟩:=oC
 replace oC:=oC.uG
 obtain⟨s3,hs3⟩:∃x,w6.heap.size=x:=⟨_,rfl⟩
 rw[hs3]at oC
 have sU:=O.cell 10 rfl
 have fO:=O.frozen
 go_upto_region 8 with fail
 clear sU fO
 obtain⟨w7,hw7⟩:∃Cj,(w6.setCell ⟨w.heap.size+1+1,10,none⟩ (.slice Ef t.tab.length Ee))=Cj:=⟨_,rfl⟩
 have kN:Kp w6 w7 (fun k=>k=w.heap.size+1+1):=hw7▸AJ _ _ _ _
 replace O:Loc w7 (w.heap.size+1+1) #[.int .i64 t.id,.int .i64 t.vw,.int .i64 t.ak,.int .i64 t.vo,.int .i64 t.lo,.int .i64 t.n,.string t.s,.slice DL t.qw.length DC,.string t.d,.slice Dy t.pool.length Dw,.slice Ef t.tab.length Ee,.slice none 0 0,.int .i64 0,.slice none 0 0]:=hw7▸(O.set 10 _ rfl)
 replace P:=P.kp kN (by omega)
 replace R:=R.kp kN (by omega)
 replace oA:=oA.kp kN (fun j hj e=>by have:=toA j hj;omega)
 replace oB:=oB.kp kN (fun j hj e=>by have:=BQ j hj;omega)
 replace oC:=oC.kp kN (fun j h1 h2 e=>by omega)
 have Li:=Below.kp J4 kN J4.size (fun k hk=>by omega)
 have vX:=kN.size
 rw[hw7]
 clear hw7 kN J4
 go_wp2_with (first|(refine Az [.slice od t.AZ.length kd,.int .i64 t.su] (P.range 11 2 rfl) 33 _ rfl _ rfl rfl Tryz.underlying33 rfl (by kernel_rfl) ?_))
 refine(j5.out _ _ (HI.out.d.below Li)).mono ?_
 rintro _ w8 ⟨uD,rfl,oD,bb⟩
 have Q7:=bu Li bb
 have vW:=bb.size
 replace P:=P.up bb
 replace R:=R.up bb
 replace O:=O.up bb
 replace oA:=oA.below bb
 replace oB:=oB.below bb
 clear Li
 replace oC:=oC.below bb
 clear bb
 have Kq:=World.ownsRow.lt oD
 obtain⟨GY,GG,rfl⟩:=oD.form
 go_upto_region 9 with(refine FT #[.slice GY t.AZ.length GG,.int .i64 t.su] (O.there 11 2 (by simp)) 51 rfl _ _ rfl rfl rfl (by kernel_rfl) (by simp[Value.oneCell']) ?_)
 obtain⟨w9,ZT⟩:∃y,w8.setCells (w.heap.size+1+1) 11 [.slice GY t.AZ.length GG,.int .i64 t.su]=y:=⟨_,rfl⟩
 rw[ZT]
 have kN:Kp w8 w9 (fun k=>k=w.heap.size+1+1):=ZT▸Ab _ _ _ _
 replace O:Loc w9 (w.heap.size+1+1) #[.int .i64 t.id,.int .i64 t.vw,.int .i64 t.ak,.int .i64 t.vo,.int .i64 t.lo,.int .i64 t.n,.string t.s,.slice DL t.qw.length DC,.string t.d,.slice Dy t.pool.length Dw,.slice Ef t.tab.length Ee,.slice GY t.AZ.length GG,.int .i64 t.su,.slice none 0 0]:=ZT▸O.setCells _ _ rfl
 replace P:=P.kp kN (by omega)
 replace R:=R.kp kN (by omega)
 replace oA:=oA.kp kN (fun j hj e=>by have:=toA j hj;omega)
 replace oB:=oB.kp kN (fun j hj e=>by have:=BQ j hj;omega)
 replace oD:=oD.kp kN (fun j hj e=>by have:=Kq j hj;omega)
 replace oC:=oC.kp kN (fun j h1 h2 e=>by omega)
 have Zi:=Below.kp Q7 kN Q7.size (fun k hk=>by omega)
 have sw9:=kN.size
 clear ZT kN Q7
 have Sn:=P.cell 13 rfl
 go_wp2_with fail
 refine(T5.out _ _ (HI.out.h.below Zi)).mono ?_
 rintro _ Tw ⟨uE,rfl,oE,bb⟩
 clear Sn
 have J5:=bu Zi bb
 have q8:=bb.size
 replace P:=P.up bb
 replace R:=R.up bb
 replace O:=O.up bb
 replace oA:=oA.below bb
 replace oB:=oB.below bb
 replace oD:=oD.below bb
 clear Zi
 replace oC:=oC.below bb
 clear bb
 obtain⟨IV,IP,rfl⟩:=oE.form
 have sS:=O.cell 13 rfl
 have fO:=O.frozen
 go_upto_region 10 with fail
 clear sS fO
 obtain⟨fM,SN⟩:∃Cj,(Tw.setCell ⟨w.heap.size+1+1,13,none⟩ (.slice IV t.held.length IP))=Cj:=⟨_,rfl⟩
 have kN:Kp Tw fM (fun k=>k=w.heap.size+1+1):=SN▸AJ _ _ _ _
 replace O:Loc fM (w.heap.size+1+1) #[.int .i64 t.id,.int .i64 t.vw,.int .i64 t.ak,.int .i64 t.vo,.int .i64 t.lo,.int .i64 t.n,.string t.s,.slice DL t.qw.length DC,.string t.d,.slice Dy t.pool.length Dw,.slice Ef t.tab.length Ee,.slice GY t.AZ.length GG,.int .i64 t.su,.slice IV t.held.length IP]:=SN▸(O.set 13 _ rfl)
 replace P:=P.kp kN (by omega)
 replace R:=R.kp kN (by omega)
 replace oA:=oA.kp kN (fun j hj e=>by have:=toA j hj;omega)
 replace oB:=oB.kp kN (fun j hj e=>by have:=BQ j hj;omega)
 replace oD:=oD.kp kN (fun j hj e=>by have:=Kq j hj;omega)
 replace oC:=oC.kp kN (fun j h1 h2 e=>by omega)
 replace oE:=oE.kp kN (fun j h1 e=>by omega)
 have QJ:=Below.kp J5 kN J5.size (fun k hk=>by omega)
 have vY:=kN.size
 rw[SN]
 clear SN kN J5
 go_wp2_with (first|(refine Ap O 54 _ rfl _ rfl rfl Tryz.underlying54 rfl (by kernel_rfl) ?_)|(refine BH R 54 #[.int .i64 t.id,.int .i64 t.vw,.int .i64 t.ak,.int .i64 t.vo,.int .i64 t.lo,.int .i64 t.n,.string t.s,.slice DL t.qw.length DC,.string t.d,.slice Dy t.pool.length Dw,.slice Ef t.tab.length Ee,.slice GY t.AZ.length GG,.int .i64 t.su,.slice IV t.held.length IP] rfl _ _ rfl rfl rfl (by kernel_rfl) rfl (by simp[Value.oneCell']) ?_))
 obtain⟨wE,Bd⟩:∃Cj,fM.setRow (w.heap.size+1) #[.int .i64 t.id,.int .i64 t.vw,.int .i64 t.ak,.int .i64 t.vo,.int .i64 t.lo,.int .i64 t.n,.string t.s,.slice DL t.qw.length DC,.string t.d,.slice Dy t.pool.length Dw,.slice Ef t.tab.length Ee,.slice GY t.AZ.length GG,.int .i64 t.su,.slice IV t.held.length IP]=Cj:=⟨_,rfl⟩
 have kN:Kp fM wE (fun k=>k=w.heap.size+1):=Bd▸Bz _ _ _
 replace R:Loc wE (w.heap.size+1) #[.int .i64 t.id,.int .i64 t.vw,.int .i64 t.ak,.int .i64 t.vo,.int .i64 t.lo,.int .i64 t.n,.string t.s,.slice DL t.qw.length DC,.string t.d,.slice Dy t.pool.length Dw,.slice Ef t.tab.length Ee,.slice GY t.AZ.length GG,.int .i64 t.su,.slice IV t.held.length IP]:=Bd▸R.row
 replace P:=P.kp kN (by omega)
 replace O:=O.kp kN (by omega)
 replace oA:=oA.kp kN (fun j hj e=>by have:=toA j hj;omega)
 replace oB:=oB.kp kN (fun j hj e=>by have:=BQ j hj;omega)
 replace oD:=oD.kp kN (fun j hj e=>by have:=Kq j hj;omega)
 replace oC:=oC.kp kN (fun j h1 h2 e=>by omega)
 replace oE:=oE.kp kN (fun j h1 e=>by omega)
 have FL:=Below.kp QJ kN QJ.size (fun k hk=>by omega)
 have Pg:=kN.size
 rw[Bd]
 clear Bd kN QJ
 refine bodyPost_ret (v:=ES t (.slice DL t.qw.length DC) (.slice Dy t.pool.length Dw) (.slice Ef t.tab.length Ee) (.slice GY t.AZ.length GG) (.slice IV t.held.length IP)) (Ce Tryz.results8 _ R rfl Tryz.underlying54 rfl (by kernel_rfl)) rfl ?_
 exact⟨_,_,_,_,_,rfl,⟨w3.heap.size,w5.heap.size,s3,w9.heap.size,vs,by omega,⟨oA.mono (by omega),fun j hj=>by have:=toA j hj;omega⟩,⟨oB,fun j hj=>by have:=BQ j hj;omega⟩,oC,⟨oD.mono (by omega),fun j hj=>by have:=Kq j hj;omega⟩,oE.mono (Nat.le_refl _) (by omega)⟩,FL⟩
theorem Vj(t:Bu)(a b c d e:Value)(k0:Nat)(w:World)(hs:JF t)(hk:k0≤10000000)(hb:Pj k0 t≤100000000)(h:Ei w (rG k0 t) a b c d e):
 Calls Tryz.prog 15 #[ES t a b c d e,.int .i64 k0] w fun r w'=>r= .returned (.int .i64 (Pj k0 t))∧Below w.heap.size w w':=by
 obtain⟨q1,hq1⟩:∃x,aM k0 t=x:=⟨_,rfl⟩
 obtain⟨q2,hq2⟩:∃x,ZG k0 t=x:=⟨_,rfl⟩
 obtain⟨q3,hq3⟩:∃x,aL k0 t=x:=⟨_,rfl⟩
 obtain⟨q4,hq4⟩:∃x,Qa k0 t=x:=⟨_,rfl⟩
 obtain⟨q5,ZV⟩:∃x,Pj k0 t=x:=⟨_,rfl⟩
 have hle:=pI k0 t
 rw[hq1,hq2,hq3,hq4,ZV]at hle
 rw[ZV]at hb⊢
 have hr:rG k0 t={ t with qw:=Ay k0 t.qw.length,pool:=Ck q1 t.pool.length,tab:=Mq q2 t.tab,AZ:=marks q3 t.AZ.length,held:=E9 q4 t.held }:=by unfold rG;rw[hq1,hq2,hq3,hq4]
 rw[hr]at h
 clear hr
 unfold aM at hq1
 unfold ZG at hq2
 unfold aL at hq3
 unfold Qa at hq4
 unfold Pj at ZV
 have e1:aM k0 t=q1:=hq1
 have e2:ZG k0 t=q2:=hq2
 have e3:aL k0 t=q3:=hq3
 have e4:Qa k0 t=q4:=hq4
 rw[e1]at hq2
 rw[e2]at hq3
 rw[e3]at hq4
 rw[e4]at ZV
 clear e1 e2 e3 e4
 have M1:Hid (∀w,RI w a (Ay k0 t.qw.length)→Calls Tryz.prog 56 #[sv t.vo t.lo t.n t.s a t.d,.int .i64 k0] w fun e w'=>e= .returned (.int .i64 q1)∧Below w.heap.size w w'):=hide fun w h=>by
  have:=Vi t.vo t.lo t.n t.s a t.d t.qw.length k0 w (by omega) (by have:=hs.q;omega) h
  rw[←hq1];simpa using this
 have M2:Hid (∀w,RT w b (Ck q1 t.pool.length)→Calls Tryz.prog 57 #[b,.int .i64 q1] w fun e w'=>e= .returned (.int .i64 q2)∧Below w.heap.size w w'):=hide fun w h=>by
  have:=Zq b t.pool.length q1 w (by have:=hs.p;omega) (by omega) h
  rw[←hq2];simpa using this
 have M3:Hid (∀w,NP w c (Mq q2 t.tab)→Calls Tryz.prog 58 #[c,.int .i64 q2] w fun e w'=>e= .returned (.int .i64 q3)∧Below w.heap.size w w'):=hide fun w h=>by
  have:=QC c t.tab q2 w (by have:=hs.tb;omega) (by omega) h
  rw[←hq3];exact this
 have M4:Hid (∀w,RB w d (marks q3 t.AZ.length)→Calls Tryz.prog 59 #[dv d t.su,.int .i64 q3] w fun e w'=>e= .returned (.int .i64 q4)∧Below w.heap.size w w'):=hide fun w h=>by
  have:=Vk d t.su t.AZ.length q3 w (by omega) h
  rw[←hq4];simpa using this
 have M5:Hid (∀w,Ib w e (E9 q4 t.held)→Calls Tryz.prog 60 #[e,.int .i64 q4] w fun e' w'=>e'= .returned (.int .i64 q5)∧Below w.heap.size w w'):=hide fun w h=>by
  have:=QB e t.held q4 w (by have:=hs.h;omega) (by omega) h
  rw[←ZV];exact this
 clear hb hq1 hq2 hq3 hq4 ZV hs
 have HR:=hide h
 have fa:=h.q.form
 have fb:=RT.Bw h.p
 have fc:=h.tb.form
 have fd:=RB.Bw h.d
 have fe:=h.h.form
 simp only[B_,Du,Hd,D7,Dc]at fa fb fc fd fe
 clear h
 obtain⟨oa,ka,rfl⟩:=fa
 obtain⟨ob,kb,rfl⟩:=fb
 obtain⟨oc,kc,rfl⟩:=fc
 obtain⟨od,kd,rfl⟩:=fd
 obtain⟨oe,ke,rfl⟩:=fe
 have hd1:decide ((q1:Int)<0)=false:=by simp
 have hd2:decide ((q2:Int)<0)=false:=by simp
 have hd3:decide ((q3:Int)<0)=false:=by simp
 have hd4:decide ((q4:Int)<0)=false:=by simp
 have hd5:decide ((q5:Int)<0)=false:=by simp
 obtain⟨w0,hw0,AO,P,DN⟩:=bx1 w #[.int .i64 t.id,.int .i64 t.vw,.int .i64 t.ak,.int .i64 t.vo,.int .i64 t.lo,.int .i64 t.n,.string t.s,.slice oa t.qw.length ka,.string t.d,.slice ob t.pool.length kb,.slice oc t.tab.length kc,.slice od t.AZ.length kd,.int .i64 t.su,.slice oe t.held.length ke] 54
 go_enter Tryz.func15,Tryz.ntmps15
 go_wp2_with (first|(refine Az [.int .i64 t.vo,.int .i64 t.lo,.int .i64 t.n,.string t.s,.slice oa t.qw.length ka,.string t.d] (P.range 3 6 rfl) 48 _ rfl _ rfl rfl Tryz.underlying48 rfl (by kernel_rfl) ?_))
 clear hw0
 refine(M1.out _ (HR.out.q.below AO)).mono ?_
 rintro _ w1 ⟨rfl,bb⟩
 have AP:=bu AO bb
 have Ct:=bb.size
 replace P:=P.up bb
 clear AO bb
 have Ye:=P.cell 9 rfl
 go_wp2_with fail
 refine(M2.out _ (HR.out.p.below AP)).mono ?_
 rintro _ w2 ⟨rfl,bb⟩
 clear Ye
 have Am:=bu AP bb
 have El:=bb.size
 replace P:=P.up bb
 clear AP bb
 have LW:=P.cell 10 rfl
 go_wp2_with fail
 refine(M3.out _ (HR.out.tb.below Am)).mono ?_
 rintro _ w3 ⟨rfl,bb⟩
 clear LW
 have BP:=bu Am bb
 have IZ:=bb.size
 replace P:=P.up bb
 clear Am bb
 go_wp2_with (first|(refine Az [.slice od t.AZ.length kd,.int .i64 t.su] (P.range 11 2 rfl) 51 _ rfl _ rfl rfl Tryz.underlying51 rfl (by kernel_rfl) ?_))
 refine(M4.out _ (HR.out.d.below BP)).mono ?_
 rintro _ w4 ⟨rfl,bb⟩
 have Cs:=bu BP bb
 have Ph:=bb.size
 replace P:=P.up bb
 clear BP bb
 have Sn:=P.cell 13 rfl
 go_wp2_with fail
 refine(M5.out _ (HR.out.h.below Cs)).mono ?_
 rintro _ w5 ⟨rfl,bb⟩
 clear Sn
 have GZ:=bu Cs bb
 have fQ:=bb.size
 replace P:=P.up bb
 clear Cs bb
 go_wp2
 go_ret
 exact⟨rfl,GZ⟩
def Dh(w:World)(lo hi:Nat)(t:Bu)(a b c d e:Value):Prop:=∃s1 t1 s2 s3 u0 u1 s4 vs,(lo≤s1∧s1≤t1∧t1≤s2∧s2≤s3∧s3≤s4∧s4≤hi∧hi≤w.heap.size∧s1≤u0∧u0≤u1∧u1≤s4∧(u1≤t1∨s3≤u0))∧(OI w lo a t.qw∧∀j,a.ownBlock=some j→j<s1)∧(OT w t1 b t.pool∧∀j,b.ownBlock=some j→j<s2)∧Q6 w s2 s3 c t.tab vs∧(OB w u0 d t.AZ∧∀j,d.ownBlock=some j→j<u1)∧Pe w s4 hi e t.held
theorem FQ.gen{w:World}{lo hi:Nat}{t:Bu}{a b c d e:Value}(h:FQ w lo hi t a b c d e):Dh w lo hi t a b c d e:=by
 obtain⟨s1,s2,s3,s4,vs,hs,a1,b1,c1,d1,e1⟩:=h
 exact⟨s1,s1,s2,s3,s3,s4,s4,vs,by omega,a1,b1,c1,d1,e1⟩
theorem Dh.kp{w w':World}{lo hi:Nat}{X:Nat→Prop}{t:Bu}{a b c d e:Value}(h:Dh w lo hi t a b c d e)(k:Kp w w' X)(hX:∀j,lo≤j→j<hi→¬X j):Dh w' lo hi t a b c d e:=by
 obtain⟨s1,t1,s2,s3,u0,u1,s4,vs,hs,⟨a1,a2⟩,⟨b1,b2⟩,c1,⟨d1,d2⟩,e1⟩:=h
 have z:=k.size
 have la:=World.ownsRow.lt a1
 have lb:=World.ownsRow.lt b1
 have ld:=World.ownsRow.lt d1
 exact⟨s1,t1,s2,s3,u0,u1,s4,vs,by omega,⟨a1.kp k (fun j hj=>hX j (la j hj).1 (by have:=a2 j hj;omega)),a2⟩,⟨b1.kp k (fun j hj=>hX j (by have:=lb j hj;omega) (by have:=b2 j hj;omega)),b2⟩,c1.kp k (fun j h1 h2=>hX j (by omega) (by omega)),⟨d1.kp k (fun j hj=>hX j (by have:=ld j hj;omega) (by have:=d2 j hj;omega)),d2⟩,e1.kp k (fun j h1 h2=>hX j (by omega) h2)⟩
theorem Dh.below{w w':World}{lo hi:Nat}{t:Bu}{a b c d e:Value}(h:Dh w lo hi t a b c d e)(hb:Below w.heap.size w w'):Dh w' lo hi t a b c d e:=h.kp (Below.Bb hb (fun _=>False)) (fun _ _ _ h=>h)
theorem Dh.mono{w:World}{lo lo' hi hi':Nat}{t:Bu}{a b c d e:Value}(h:Dh w lo hi t a b c d e)(h1:lo'≤lo)(h2:hi≤hi')(h3:hi'≤w.heap.size):Dh w lo' hi' t a b c d e:=by
 obtain⟨s1,t1,s2,s3,u0,u1,s4,vs,hs,⟨a1,a2⟩,b1,c1,d1,e1⟩:=h
 exact⟨s1,t1,s2,s3,u0,u1,s4,vs,by omega,⟨a1.mono h1,a2⟩,b1,c1,d1,e1.mono (Nat.le_refl _) h2⟩
theorem Dh.form{w:World}{lo hi:Nat}{t:Bu}{a b c d e:Value}(h:Dh w lo hi t a b c d e):∃ao ca bo cb co cc od cd oe ce,a= .slice ao t.qw.length ca∧b= .slice bo t.pool.length cb∧c= .slice co t.tab.length cc∧d= .slice od t.AZ.length cd∧e= .slice oe t.held.length ce:=by
 obtain⟨s1,t1,s2,s3,u0,u1,s4,vs,hs,⟨a1,a2⟩,⟨b1,b2⟩,c1,⟨d1,d2⟩,e1⟩:=h
 obtain⟨ao,ca,rfl⟩:=a1.form
 obtain⟨bo,cb,rfl⟩:=OT.Bw b1
 obtain⟨co,cc,rfl⟩:=Kn.form ⟨vs,c1.tab⟩
 obtain⟨od,cd,rfl⟩:=d1.form
 obtain⟨oe,ce,rfl⟩:=e1.form
 exact⟨_,_,_,_,_,_,_,_,_,_,rfl,rfl,rfl,rfl,rfl⟩
theorem Dh.BS{w:World}{lo hi:Nat}{t:Bu}{a b c d e:Value}(h:Dh w lo hi t a b c d e)(hs:JF t):Ei w t a b c d e:=by
 obtain⟨s1,t1,s2,s3,u0,u1,s4,vs,_,⟨a1,_⟩,⟨b1,_⟩,c1,⟨d1,_⟩,e1⟩:=h
 exact⟨a1.ri (by have:=hs.q;omega),b1.rt (by have:=hs.p;omega),c1.kP hs.tt,d1.rb (by have:=hs.d;omega),e1.kQ.fT hs.hh⟩
theorem KY(lo hi:Nat)(t:Bu)(a b c d e:Value)(k0:Nat)(w:World)(hs:JF t)(hb:Pj k0 t≤100000000)(h:Dh w lo hi t a b c d e):
 Calls Tryz.prog 13 #[ES t a b c d e,.int .i64 k0] w fun r w'=>r= .returned (.int .i64 (Pj k0 t))∧Dh w' lo hi (rG k0 t) a b c d e∧Kp w w' (fun b=>lo≤b∧b<hi):=by
 obtain⟨s1,t1,s2,s3,u0,u1,s4,vs,hs0,⟨oA,tA⟩,⟨oB,tB⟩,oC,⟨oD,tD⟩,oE⟩:=h
 have rA:∀j,a.ownBlock=some j→lo≤j∧j<s1:=fun j hj=>⟨(World.ownsRow.lt oA j hj).1,tA j hj⟩
 have rB:∀j,b.ownBlock=some j→t1≤j∧j<s2:=fun j hj=>⟨(World.ownsRow.lt oB j hj).1,tB j hj⟩
 have rD:∀j,d.ownBlock=some j→u0≤j∧j<u1:=fun j hj=>⟨(World.ownsRow.lt oD j hj).1,tD j hj⟩
 obtain⟨q1,hq1⟩:∃x,aM k0 t=x:=⟨_,rfl⟩
 obtain⟨q2,hq2⟩:∃x,ZG k0 t=x:=⟨_,rfl⟩
 obtain⟨q3,hq3⟩:∃x,aL k0 t=x:=⟨_,rfl⟩
 obtain⟨q4,hq4⟩:∃x,Qa k0 t=x:=⟨_,rfl⟩
 obtain⟨q5,ZV⟩:∃x,Pj k0 t=x:=⟨_,rfl⟩
 have hle:=pI k0 t
 rw[hq1,hq2,hq3,hq4,ZV]at hle
 rw[ZV]at hb
 have hr:rG k0 t={ t with qw:=Ay k0 t.qw.length,pool:=Ck q1 t.pool.length,tab:=Mq q2 t.tab,AZ:=marks q3 t.AZ.length,held:=E9 q4 t.held }:=by unfold rG;rw[hq1,hq2,hq3,hq4]
 rw[hr,ZV]
 clear hr
 unfold aM at hq1
 unfold ZG at hq2
 unfold aL at hq3
 unfold Qa at hq4
 unfold Pj at ZV
 have e1:aM k0 t=q1:=hq1
 have e2:ZG k0 t=q2:=hq2
 have e3:aL k0 t=q3:=hq3
 have e4:Qa k0 t=q4:=hq4
 rw[e1]at hq2
 rw[e2]at hq3
 rw[e3]at hq4
 rw[e4]at ZV
 clear e1 e2 e3 e4
 have M1:Hid (∀w,OI w lo a t.qw→Calls Tryz.prog 48 #[sv t.vo t.lo t.n t.s a t.d,.int .i64 k0] w fun e w'=>e= .returned (.int .i64 q1)∧OI w' lo a (Ay k0 t.qw.length)∧Kp w w' (fun k=>a.ownBlock=some k)):=hide fun w h=>by
  have:=Rz t.vo t.lo t.n t.s lo a t.d t.qw k0 w (by have:=hs.q;omega) (by omega) h
  rw[←hq1];simpa using this
 have M2:Hid (∀w,OT w t1 b t.pool→Calls Tryz.prog 49 #[b,.int .i64 q1] w fun e w'=>e= .returned (.int .i64 q2)∧OT w' t1 b (Ck q1 t.pool.length)∧Kp w w' (fun k=>b.ownBlock=some k)):=hide fun w h=>by
  have:=Wt t1 q1 b t.pool w (by have:=hs.p;omega) (by omega) h
  rw[←hq2];simpa using this
 have M3:Hid (∀w,Q6 w s2 s3 c t.tab vs→Calls Tryz.prog 50 #[c,.int .i64 q2] w fun e w'=>e= .returned (.int .i64 q3)∧Q6 w' s2 s3 c (Mq q2 t.tab) vs∧Kp w w' (fun b=>s2≤b∧b<s3)):=hide fun w h=>by
  have:=P7 s2 s3 c t.tab vs q2 w (by have:=hs.tb;omega) hs.tt (by omega) h
  rw[←hq3];exact this
 have M4:Hid (∀w,OB w u0 d t.AZ→Calls Tryz.prog 51 #[dv d t.su,.int .i64 q3] w fun e w'=>e= .returned (.int .i64 q4)∧OB w' u0 d (marks q3 t.AZ.length)∧Kp w w' (fun k=>d.ownBlock=some k)):=hide fun w h=>by
  have:=R8 t.su u0 d t.AZ q3 w (by have:=hs.d;omega) (by omega) h
  rw[←hq4];simpa using this
 have M5:Hid (∀w,Pe w s4 hi e t.held→Calls Tryz.prog 52 #[e,.int .i64 q4] w fun e' w'=>e'= .returned (.int .i64 q5)∧Pe w' s4 hi e (E9 q4 t.held)∧Kp w w' (fun b=>s4≤b∧b<hi)):=hide fun w h=>by
  have:=P6 s4 hi e t.held q4 w (by have:=hs.h;omega) hs.hh (by omega) h
  rw[←ZV];exact this
 clear hb hq1 hq2 hq3 hq4 ZV hs tA tB tD
 obtain⟨oa,ka,rfl⟩:=oA.form
 obtain⟨ob,kb,rfl⟩:=OT.Bw oB
 obtain⟨oc,kc,rfl⟩:=Kn.form ⟨vs,oC.tab⟩
 obtain⟨od,kd,rfl⟩:=oD.form
 obtain⟨oe,ke,rfl⟩:=oE.form
 obtain⟨w0,hw0,AO,P,DN⟩:=bx1 w #[.int .i64 t.id,.int .i64 t.vw,.int .i64 t.ak,.int .i64 t.vo,.int .i64 t.lo,.int .i64 t.n,.string t.s,.slice oa t.qw.length ka,.string t.d,.slice ob t.pool.length kb,.slice oc t.tab.length kc,.slice od t.AZ.length kd,.int .i64 t.su,.slice oe t.held.length ke] 54
 go_enter Tryz.func13,Tryz.ntmps13
 replace oA:=oA.below AO
 replace oB:=oB.below AO
 replace oC:=oC.below AO
 replace oD:=oD.below AO
 replace oE:=oE.below AO
 have KR:Kp w w0 (fun b=>lo≤b∧b<hi):=Below.Bb AO _
 clear AO
 go_wp2_with (first|(refine Az [.int .i64 t.vo,.int .i64 t.lo,.int .i64 t.n,.string t.s,.slice oa t.qw.length ka,.string t.d] (P.range 3 6 rfl) 48 _ rfl _ rfl rfl Tryz.underlying48 rfl (by kernel_rfl) ?_))
 clear hw0
 refine(M1.out _ oA).mono ?_
 rintro _ v0 ⟨rfl,o2,kG⟩
 replace oB:=oB.kp kG (fun j hj e=>by have h4:=rB j hj;have h5:=rA j e;omega)
 replace oC:=oC.kp kG (fun j h1 h2 e=>by have h5:=rA j e;omega)
 replace oD:=oD.kp kG (fun j hj e=>by have h4:=rD j hj;have h5:=rA j e;omega)
 replace oE:=oE.kp kG (fun j h1 h2 e=>by have h5:=rA j e;omega)
 replace oA:=o2
 replace P:=P.kp kG (fun e=>by have h5:=rA _ e;omega)
 replace KR:=KR.trans (kG.mono (fun j e=>by have h5:=rA j e;omega))
 have zv0:=kG.size
 clear kG
 have c:=P.cell 9 rfl
 go_wp2_with fail
 refine(M2.out _ oB).mono ?_
 rintro _ v1 ⟨rfl,o2,kG⟩
 clear c
 replace oA:=oA.kp kG (fun j hj e=>by have h4:=rA j hj;have h5:=rB j e;omega)
 replace oC:=oC.kp kG (fun j h1 h2 e=>by have h5:=rB j e;omega)
 replace oD:=oD.kp kG (fun j hj e=>by have h4:=rD j hj;have h5:=rB j e;omega)
 replace oE:=oE.kp kG (fun j h1 h2 e=>by have h5:=rB j e;omega)
 replace oB:=o2
 replace P:=P.kp kG (fun e=>by have h5:=rB _ e;omega)
 replace KR:=KR.trans (kG.mono (fun j e=>by have h5:=rB j e;omega))
 have zv1:=kG.size
 clear kG
 have c:=P.cell 10 rfl
 go_wp2_with fail
 refine(M3.out _ oC).mono ?_
 rintro _ v2 ⟨rfl,o2,kG⟩
 clear c
 replace oA:=oA.kp kG (fun j hj e=>by have h4:=rA j hj;obtain⟨h5,h6⟩:=e;omega)
 replace oB:=oB.kp kG (fun j hj e=>by have h4:=rB j hj;obtain⟨h5,h6⟩:=e;omega)
 replace oD:=oD.kp kG (fun j hj e=>by have h4:=rD j hj;obtain⟨h5,h6⟩:=e;omega)
 replace oE:=oE.kp kG (fun j h1 h2 e=>by obtain⟨h5,h6⟩:=e;omega)
 replace oC:=o2
 replace P:=P.kp kG (fun e=>by obtain⟨h5,h6⟩:=e;omega)
 replace KR:=KR.trans (kG.mono (fun j e=>by obtain⟨h5,h6⟩:=e;omega))
 have zv2:=kG.size
 clear kG
 go_wp2_with (first|(refine Az [.slice od t.AZ.length kd,.int .i64 t.su] (P.range 11 2 rfl) 51 _ rfl _ rfl rfl Tryz.underlying51 rfl (by kernel_rfl) ?_))
 refine(M4.out _ oD).mono ?_
 rintro _ v3 ⟨rfl,o2,kG⟩
 replace oA:=oA.kp kG (fun j hj e=>by have h4:=rA j hj;have h5:=rD j e;omega)
 replace oB:=oB.kp kG (fun j hj e=>by have h4:=rB j hj;have h5:=rD j e;omega)
 replace oC:=oC.kp kG (fun j h1 h2 e=>by have h5:=rD j e;omega)
 replace oE:=oE.kp kG (fun j h1 h2 e=>by have h5:=rD j e;omega)
 replace oD:=o2
 replace P:=P.kp kG (fun e=>by have h5:=rD _ e;omega)
 replace KR:=KR.trans (kG.mono (fun j e=>by have h5:=rD j e;omega))
 have zv3:=kG.size
 clear kG
 have c:=P.cell 13 rfl
 go_wp2_with fail
 refine(M5.out _ oE).mono ?_
 rintro _ v4 ⟨rfl,o2,kG⟩
 clear c
 replace oA:=oA.kp kG (fun j hj e=>by have h4:=rA j hj;obtain⟨h5,h6⟩:=e;omega)
 replace oB:=oB.kp kG (fun j hj e=>by have h4:=rB j hj;obtain⟨h5,h6⟩:=e;omega)
 replace oC:=oC.kp kG (fun j h1 h2 e=>by obtain⟨h5,h6⟩:=e;omega)
 replace oD:=oD.kp kG (fun j hj e=>by have h4:=rD j hj;obtain⟨h5,h6⟩:=e;omega)
 replace oE:=o2
 replace P:=P.kp kG (fun e=>by obtain⟨h5,h6⟩:=e;omega)
 replace KR:=KR.trans (kG.mono (fun j e=>by obtain⟨h5,h6⟩:=e;omega))
 have zv4:=kG.size
 clear kG
 have OA:=hide oA
 have OB_:=hide oB
 have OC:=hide oC
 have OD:=hide oD
 have OE:=hide oE
 have KH:=hide KR
 clear oA oB oC oD oE KR
 go_wp2
 go_ret
 exact⟨rfl,⟨s1,t1,s2,s3,u0,u1,s4,vs,by omega,⟨OA.out,fun j hj=>(rA j hj).2⟩,⟨OB_.out,fun j hj=>(rB j hj).2⟩,OC.out,⟨OD.out,fun j hj=>(rD j hj).2⟩,OE.out⟩,KH.out⟩
end
end Go.Proofs.YtkmnfeihjjccmaaGreatDoor
