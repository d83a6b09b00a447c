/- Lemmas; their conditions stand in each statement. -/
import Derived.Test.YtkmnfeihjjccmaaGreatDoorTLBF
set_option maxRecDepth 100000
set_option maxHeartbeats 16000000
set_option linter.unusedSectionVars false
set_option linter.unusedSimpArgs false
namespace Go.Proofs.YtkmnfeihjjccmaaGreatDoor
section
open Go Go.RowKit
variable [∀(a b c d:Int),Decidable (BD a b c d)]
variable [∀(n f:Int),Decidable (A8 n f)]
variable [∀(a b c d:Nat),Decidable (Dj a b c d)]
variable [∀(x:T4),Decidable (Dr x)]
variable [∀(last:Int)(s:St),Decidable (Au last s)]
variable [∀(n:Int)(s:List Int),Decidable (Dt n s)]
variable [∀(x y:T4),Decidable (Gm x y)]
variable [∀(ts:List T4),Decidable (Asc ts)]
variable [∀(ts:List T4),Decidable (DU ts)]
variable [∀(ts:List T4),Decidable (JP ts)]
def A_(t:Bu)(qs:List Bf):Bu:={ t with held:=t.held++qs }
def Eu(n f:Int)(t:Bu):Bool:=decide (t.held.length≤30)&&Ev n f t.id t.held
theorem Um(n f:Int)(t:Bu)(qs:List Bf)(ao bo co od oe:Option Addr)(ca cb cc cd ce:Nat)(aq:Option Addr)(kq:Nat)(w:World)(hq:0<qs.length)(hl:t.held.length+qs.length≤1048577)(hh:∀j,j<(A_ t qs).held.length→MH ((A_ t qs).held.getD j AL).2∧MI ((A_ t qs).held.getD j AL).2)(DT:IntKind.i64.wrap (n-1)=n-1)(hE:Env w)(W0:World)(hb0:Below W0.heap.size W0 w)(h:Ei W0 t (.slice ao t.qw.length ca) (.slice bo t.pool.length cb) (.slice co t.tab.length cc) (.slice od t.AZ.length cd) (.slice oe t.held.length ce))(hv:Te W0 w (.slice aq qs.length kq) qs):
 Calls Tryz.prog 38 #[ES t (.slice ao t.qw.length ca) (.slice bo t.pool.length cb) (.slice co t.tab.length cc) (.slice od t.AZ.length cd) (.slice oe t.held.length ce),cv n f,.slice aq qs.length kq] w fun r w'=>∃(ZN:Option Addr)(fV:Nat),r= .returned (.tuple #[ES (A_ t qs) (.slice ao t.qw.length ca) (.slice bo t.pool.length cb) (.slice co t.tab.length cc) (.slice od t.AZ.length cd) (.slice ZN (A_ t qs).held.length fV),.bool (Eu n f (A_ t qs))])∧∃rows:List (List Value),OG 94 18 w' w.heap.size (.slice ZN (A_ t qs).held.length fV) rows∧Ec W0 (A_ t qs).held rows∧Below w.heap.size w w':=by
 have CC:=hide fun g w h0 h1 p1 p2=>jf g (.slice oe t.held.length ce) (.slice aq qs.length kq) t.held qs w h0 h1 W0 p1 p2 hq (by omega)
 have HO:=hide fun(od' ZN:Option Addr)(fV:Nat) w he h=>Im n f (A_ t qs) ao bo co od ZN ca cb cc cd fV w (by show(t.held++qs).length≤_;rw[List.length_append];exact hl) hh DT he h
 have HB:=hide hb0
 have HR:=hide h
 have HV:=hide hv
 have HE:=hide hE
 clear h hv hE hb0 hh hq hl DT
 unfold Eu at *
 generalize (decide ((A_ t qs).held.length≤30)&&Ev n f (A_ t qs).id (A_ t qs).held)=b0 at *
 obtain⟨w0,hw0,AO,A,LC,O,DN⟩:=qI w #[.int .i64 t.id,.int .i64 t.vw,.int .i64 t.ak,.int .i64 t.vo,.int .i64 t.lo,.int .i64 t.n,.string t.s,.slice ao t.qw.length ca,.string t.d,.slice bo t.pool.length cb,.slice co t.tab.length cc,.slice od t.AZ.length cd,.int .i64 t.su,.slice oe t.held.length ce] 54 #[.int .i64 n,.int .i64 f] 57 #[.int .i64 0,.int .i64 0,.int .i64 0,.int .i64 0,.int .i64 0,.int .i64 0,.string ⟨#[]⟩,.slice none 0 0,.string ⟨#[]⟩,.slice none 0 0,.slice none 0 0,.slice none 0 0,.int .i64 0,.slice none 0 0] 54
 go_enter Tryz.func38,Tryz.ntmps38
 have BU:=A.cell 13 rfl
 obtain⟨wb,hwb⟩:∃y,w0.alloc (.cells #[.slice oe t.held.length ce,.slice aq qs.length kq] 52)=y:=⟨_,rfl⟩
 have bb:Below w0.heap.size w0 wb:=hwb▸Ag _ _
 have LB:Loc wb w0.heap.size #[.slice oe t.held.length ce,.slice aq qs.length kq]:=hwb▸AB w0 _ _ rfl
 go_wp2_with fail
 clear hw0 BU
 have ou:=bu AO bb
 have swb:=bb.size
 replace A:=A.up bb
 replace LC:=LC.up bb
 replace O:=O.up bb
 clear AO bb hwb
 refine(CC.out _ _ (LB.cell 0 rfl) (LB.cell 1 rfl) (HR.out.h.b (HB.out.trans (ou.mono HB.out.size))) (HV.out.below ou)).mono ?_
 rintro _ w1 ⟨v,rows,rfl,oG,hR,bb⟩
 clear LB
 have AP:=bu ou bb
 have Ct:=bb.size
 replace A:=A.up bb
 replace LC:=LC.up bb
 replace O:=O.up bb
 clear ou bb
 have uh:=OG.lt oG
 have xg:=hide hR
 clear hR
 obtain⟨aG,kG,rfl⟩:=oG.form
 have hlen:rows.length=(A_ t qs).held.length:=xg.out.1
 rw[hlen]at uh oG⊢
 have BU:=A.cell 13 rfl
 have fA:=A.frozen
 go_upto_region 2 with fail
 clear BU fA
 obtain⟨w2,hw2⟩:∃Cj,(w1.setCell ⟨w.heap.size,13,none⟩ (.slice aG (A_ t qs).held.length kG))=Cj:=⟨_,rfl⟩
 have kN:Kp w1 w2 (fun k=>k=w.heap.size):=hw2▸AJ _ _ _ _
 replace A:Loc w2 (w.heap.size) #[.int .i64 t.id,.int .i64 t.vw,.int .i64 t.ak,.int .i64 t.vo,.int .i64 t.lo,.int .i64 t.n,.string t.s,.slice ao t.qw.length ca,.string t.d,.slice bo t.pool.length cb,.slice co t.tab.length cc,.slice od t.AZ.length cd,.int .i64 t.su,.slice aG (A_ t qs).held.length kG]:=hw2▸(A.set 13 _ rfl)
 replace LC:=LC.kp kN (by omega)
 replace O:=O.kp kN (by omega)
 replace oG:=oG.kp kN (fun j hj e=>by have:=uh j hj;omega)
 have Am:=Below.kp AP kN AP.size (fun k hk=>by omega)
 have El:=kN.size
 rw[hw2]
 clear hw2 kN AP
 have K:Hid (∀w',Kp w2 w' (fun k=>k=w.heap.size+1+1)→(fun w'=>Kp w2 w' (fun k=>k=w.heap.size+1+1)∧Loc w' (w.heap.size) #[.int .i64 t.id,.int .i64 t.vw,.int .i64 t.ak,.int .i64 t.vo,.int .i64 t.lo,.int .i64 t.n,.string t.s,.slice ao t.qw.length ca,.string t.d,.slice bo t.pool.length cb,.slice co t.tab.length cc,.slice od t.AZ.length cd,.int .i64 t.su,.slice aG (A_ t qs).held.length kG]∧(w'.cell? ⟨w.heap.size+1,0,none⟩=some (.int .i64 n)∧w'.cell? ⟨w.heap.size+1,1,none⟩=some (.int .i64 f))) w'):=hide fun w' hk'=>⟨hk',A.kp hk' (by omega),⟨(LC.kp hk' (by omega)).cell 0 rfl,(LC.kp hk' (by omega)).cell 1 rfl⟩⟩
 refine yE K (fun wd2 bA bb hHeld=>?_)
 have WH:=bu Am bb
 have AAR:=bb.size
 replace A:=A.up bb
 replace LC:=LC.up bb
 replace O:=O.up bb
 replace oG:=oG.below bb
 clear Am bb
 refine take_at (i:=0) (d:=14) (v:= .agg #[.int .i64 t.id,.int .i64 t.vw,.int .i64 t.ak,.int .i64 t.vo,.int .i64 t.lo,.int .i64 t.n,.string t.s,.slice ao t.qw.length ca,.string t.d,.slice bo t.pool.length cb,.slice co t.tab.length cc,.slice od t.AZ.length cd,.int .i64 t.su,.slice aG (A_ t qs).held.length kG]) rfl rfl (by kernel_rfl) (by kernel_rfl) (by kernel_rfl) (fun _ _ _ h=>h) ?_ (by assumption) ?_
 ·exact A7 rfl 54 _ rfl rfl _ (fun w h=>h.2.1) Tryz.underlying54 rfl (by kernel_rfl)
 simp only[pU]
 refine take_at (i:=1) (d:=15) (v:= .agg #[.int .i64 t.id,.int .i64 t.vw,.int .i64 t.ak,.int .i64 t.vo,.int .i64 t.lo,.int .i64 t.n,.string t.s,.slice ao t.qw.length ca,.string t.d,.slice bo t.pool.length cb,.slice co t.tab.length cc,.slice od t.AZ.length cd,.int .i64 t.su,.slice aG (A_ t qs).held.length kG]) rfl rfl (by kernel_rfl) (by kernel_rfl) (by kernel_rfl) (fun _ _ _ h=>h) ?_ (by assumption) ?_
 ·exact A7 rfl 54 _ rfl rfl _ (fun w h=>h.2.1) Tryz.underlying54 rfl (by kernel_rfl)
 simp only[pU]
 refine tx 2 16 ?_
 refine rd 3 rfl (fun KK AA=>?_)
 go_simp
 refine(HO.out none aG kG _ (HE.out.below WH) (OG.fT oG (Ec.below xg.out (HB.out.trans (WH.mono HB.out.size)) (Nat.le_refl _)))).mono ?_
 rintro e Y5 ⟨rfl,bb⟩
 have jm:Kp w2 Y5 (fun k=>k=w.heap.size+1+1):=bA.trans (Below.Bb bb _)
 clear hHeld
 refine AA.out _ _ (K.out _ jm) (fun hHeld=>?_)
 clear AA KK bA
 have Yy:=bu WH bb
 have AAQ:=bb.size
 replace A:=A.up bb
 replace LC:=LC.up bb
 replace O:=O.up bb
 replace oG:=oG.below bb
 clear WH bb
 refine rd 4 rfl (fun KK AA=>?_)
 rw[if_pos (by rfl)]
 refine wp_store_mid 54 (.tmp 6) (.tmp 14) rfl (w.heap.size+1+1) 0 #[.int .i64 t.id,.int .i64 t.vw,.int .i64 t.ak,.int .i64 t.vo,.int .i64 t.lo,.int .i64 t.n,.string t.s,.slice ao t.qw.length ca,.string t.d,.slice bo t.pool.length cb,.slice co t.tab.length cc,.slice od t.AZ.length cd,.int .i64 t.su,.slice aG (A_ t qs).held.length kG] rfl rfl (O.there 0 14 (by simp)) (by kernel_rfl) (by simp[Value.oneCell']) ?_
 obtain⟨Y4,hq⟩:∃y,Y5.setCells (w.heap.size+1+1) 0 [.int .i64 t.id,.int .i64 t.vw,.int .i64 t.ak,.int .i64 t.vo,.int .i64 t.lo,.int .i64 t.n,.string t.s,.slice ao t.qw.length ca,.string t.d,.slice bo t.pool.length cb,.slice co t.tab.length cc,.slice od t.AZ.length cd,.int .i64 t.su,.slice aG (A_ t qs).held.length kG]=y:=⟨_,rfl⟩
 have kN:Kp Y5 Y4 (fun k=>k=w.heap.size+1+1):=hq▸Ab _ _ _ _
 have qJ:Kp w2 Y4 (fun k=>k=w.heap.size+1+1):=jm.trans (kN.mono (fun k e=>e))
 replace O:Loc Y4 (w.heap.size+1+1) #[.int .i64 t.id,.int .i64 t.vw,.int .i64 t.ak,.int .i64 t.vo,.int .i64 t.lo,.int .i64 t.n,.string t.s,.slice ao t.qw.length ca,.string t.d,.slice bo t.pool.length cb,.slice co t.tab.length cc,.slice od t.AZ.length cd,.int .i64 t.su,.slice aG (A_ t qs).held.length kG]:=hq▸O.setCells _ _ rfl
 rw[show Y5.setCells (w.heap.size+1+1) 0 (Array.toList #[.int .i64 t.id,.int .i64 t.vw,.int .i64 t.ak,.int .i64 t.vo,.int .i64 t.lo,.int .i64 t.n,.string t.s,.slice ao t.qw.length ca,.string t.d,.slice bo t.pool.length cb,.slice co t.tab.length cc,.slice od t.AZ.length cd,.int .i64 t.su,.slice aG (A_ t qs).held.length kG])=Y4 from hq]
 clear hHeld
 refine AA.out _ _ (K.out _ qJ) (fun hHeld=>?_)
 clear AA KK jm
 replace A:=A.kp kN (by omega)
 replace LC:=LC.kp kN (by omega)
 replace oG:=oG.kp kN (fun j hj e=>by have:=uh j hj;omega)
 have tZ:=Below.kp Yy kN Yy.size (fun k hk=>by omega)
 have AAP:=kN.size
 clear hq kN Yy
 refine tx 5 7 ?_
 clear hHeld
 refine Bt ?_
 clear K qJ
 go_wp2
 refine bodyPost_ret (v:= .tuple #[ES (A_ t qs) (.slice ao t.qw.length ca) (.slice bo t.pool.length cb) (.slice co t.tab.length cc) (.slice od t.AZ.length cd) (.slice aG (A_ t qs).held.length kG),.bool b0]) (Co Tryz.results38 _ O rfl Tryz.underlying54 rfl (by kernel_rfl)) rfl ?_
 exact⟨_,_,rfl,_,oG.mono (by omega),xg.out,tZ⟩
end
section
open Go Go.RowKit
variable [∀(a b c d:Int),Decidable (BD a b c d)]
variable [∀(n f:Int),Decidable (A8 n f)]
variable [∀(a b c d:Nat),Decidable (Dj a b c d)]
variable [∀(x:T4),Decidable (Dr x)]
variable [∀(last:Int)(s:St),Decidable (Au last s)]
structure RZ(t:Bu):Prop where
 s:t.s.size≤281474976710656
 d:t.d.size≤281474976710656
 tt:∀p ∈ t.tab,p.2.1.size≤281474976710656
 hh:∀j,j<t.held.length→MZ (t.held.getD j AL).2
theorem QZ(t:Bu)(ao bo co od oe:Option Addr)(ca cb cc cd ce:Nat)(w:World)(hm:JF t)(hz:RZ t)(h:Ei w t (.slice ao t.qw.length ca) (.slice bo t.pool.length cb) (.slice co t.tab.length cc) (.slice od t.AZ.length cd) (.slice oe t.held.length ce)):
 Calls Tryz.prog 80 #[ES t (.slice ao t.qw.length ca) (.slice bo t.pool.length cb) (.slice co t.tab.length cc) (.slice od t.AZ.length cd) (.slice oe t.held.length ce)] w fun e w'=>∃a' b' c' d' e',e= .returned (ES t a' b' c' d' e')∧Dh w' w.heap.size w'.heap.size t a' b' c' d' e'∧Below w.heap.size w w':=by
 have T1:=hide fun w' h=>Z9 t.vo t.lo t.n t.s ao ca t.qw t.d w' hz.s hz.d h
 have T2:=hide fun w' h=>eD od cd t.su t.AZ w' (by have:=hm.d;omega) h
 have T3:=hide fun v w' h=>Pv v t.tab w' (by have:=hm.tb;omega) hz.tt h
 have j5:=hide fun v w' h=>Pw v t.held w' hm.h hz.hh h
 have HR:=hide h
 have hpl:=hm.p
 clear h hm hz
 obtain⟨w0,hw0,AO,P,O,DN⟩:=GM w #[.int .i64 t.id,.int .i64 t.vw,.int .i64 t.ak,.int .i64 t.vo,.int .i64 t.lo,.int .i64 t.n,.string t.s,.slice ao t.qw.length ca,.string t.d,.slice bo t.pool.length cb,.slice co t.tab.length cc,.slice od t.AZ.length cd,.int .i64 t.su,.slice oe t.held.length ce] 54 #[.int .i64 0,.int .i64 0,.int .i64 0,.int .i64 0,.int .i64 0,.int .i64 0,.string ⟨#[]⟩,.slice none 0 0,.string ⟨#[]⟩,.slice none 0 0,.slice none 0 0,.slice none 0 0,.int .i64 0,.slice none 0 0] 54
 go_enter Tryz.func80,Tryz.ntmps80
 have K:=kw (kL P)
 go_upto_region 1 with fail
 clear hw0
 have bA:Below w0.heap.size w0 w0.drew:=Below.drew (Below.refl _ _)
 refine wp_region_noPanic ?_
 refine Hq (S:=fun w'=>Below w0.heap.size w0 w'∧Loc w' (w.heap.size) #[.int .i64 t.id,.int .i64 t.vw,.int .i64 t.ak,.int .i64 t.vo,.int .i64 t.lo,.int .i64 t.n,.string t.s,.slice ao t.qw.length ca,.string t.d,.slice bo t.pool.length cb,.slice co t.tab.length cc,.slice od t.AZ.length cd,.int .i64 t.su,.slice oe t.held.length ce]) (fun j=>j==7||j==9) (by kernel_rfl) ?_
 obtain⟨Tu,hwd⟩:∃y,w0.drew=y:=⟨_,rfl⟩
 rw[hwd]at bA⊢
 clear hwd
 have bb:=bA
 have FK:=bu AO bb
 have gu:=bb.size
 replace P:=P.up bb
 replace O:=O.up bb
 clear AO bb
 refine BC (i:=0) (d:=3) (v:=?_) rfl rfl (by kernel_rfl) (by kernel_rfl) (by kernel_rfl) (fun _ _ _ h=>h) (Or.inl ⟨by rfl,?_⟩) ?_
 rotate_left
 ·intro w hSw
  try dsimp only at hSw
  go_simp
  try with_reducible rfl
 simp only[Act.put,List.setIfInBounds_toArray,List.set_cons_zero,List.set_cons_succ]
 refine BC (i:=3) (d:=6) (v:=?_) rfl rfl (by kernel_rfl) (by kernel_rfl) (by kernel_rfl) (fun _ _ _ h=>h) (Or.inl ⟨by rfl,?_⟩) ?_
 rotate_left
 ·intro w hSw
  try dsimp only at hSw
  go_simp
  try with_reducible rfl
 simp only[Act.put,List.setIfInBounds_toArray,List.set_cons_zero,List.set_cons_succ]
 refine Dk (i:=1) (d:=4) (v:= .agg #[.int .i64 t.vo,.int .i64 t.lo,.int .i64 t.n,.string t.s,.slice ao t.qw.length ca,.string t.d]) rfl rfl (by kernel_rfl) (by kernel_rfl) (by kernel_rfl) (by kernel_rfl) (fun _ _ _ h=>h) ?_ (K.out _ bA) ?_
 ·exact BV rfl 48 _ rfl rfl [.int .i64 t.vo,.int .i64 t.lo,.int .i64 t.n,.string t.s,.slice ao t.qw.length ca,.string t.d] _ (fun w h=>(h.2).range 3 6 rfl) Tryz.underlying48 rfl (by kernel_rfl)
 simp only[Act.put,List.setIfInBounds_toArray,List.set_cons_zero,List.set_cons_succ]
 refine Dk (i:=4) (d:=7) (v:= .agg #[.slice od t.AZ.length cd,.int .i64 t.su]) rfl rfl (by kernel_rfl) (by kernel_rfl) (by kernel_rfl) (by kernel_rfl) (fun _ _ _ h=>h) ?_ (K.out _ bA) ?_
 ·exact BV rfl 51 _ rfl rfl [.slice od t.AZ.length cd,.int .i64 t.su] _ (fun w h=>(h.2).range 11 2 rfl) Tryz.underlying51 rfl (by kernel_rfl)
 simp only[Act.put,List.setIfInBounds_toArray,List.set_cons_zero,List.set_cons_succ]
 refine Aw (i:=2) rfl (by kernel_rfl) (fun KK AA=>?_)
 go_simp
 refine(T1.out _ (HR.out.q.below FK)).mono ?_
 rintro e w1 ⟨u,rfl,oA,bb⟩
 have Ao:Below w0.heap.size w0 w1:=bu bA bb
 refine AA.out _ _ (fun _ _=>K.out _ Ao) ?_
 clear AA KK bA
 have AP:=bu FK bb
 have Ct:=bb.size
 replace P:=P.up bb
 replace O:=O.up bb
 clear FK bb
 have toA:=World.ownsRow.lt oA
 obtain⟨DL,DC,rfl⟩:=oA.form
 refine BC (i:=6) (d:=9) (v:=?_) rfl rfl (by kernel_rfl) (by kernel_rfl) (by kernel_rfl) (fun _ _ _ h=>h) (Or.inl ⟨by rfl,?_⟩) ?_
 rotate_left
 ·intro w hSw
  try dsimp only at hSw
  go_simp
  try with_reducible rfl
 simp only[Act.put,List.setIfInBounds_toArray,List.set_cons_zero,List.set_cons_succ]
 refine Aw (i:=5) rfl (by kernel_rfl) (fun KK AA=>?_)
 go_simp
 refine(T2.out _ (HR.out.d.below AP)).mono ?_
 rintro e w2 ⟨u,rfl,oD,bb⟩
 have BN:Below w0.heap.size w0 w2:=bu Ao bb
 refine AA.out _ _ (fun _ _=>K.out _ BN) ?_
 clear AA KK Ao
 have Am:=bu AP bb
 have El:=bb.size
 replace P:=P.up bb
 replace O:=O.up bb
 replace oA:=oA.below bb
 clear AP bb
 have Kq:=World.ownsRow.lt oD
 obtain⟨GY,GG,rfl⟩:=oD.form
 refine Aw (i:=7) rfl (by kernel_rfl) (fun KK AA=>?_)
 rw[if_pos (by rfl)]
 refine wp_store_mid 48 (.tmp 9) (.tmp 5) rfl (w.heap.size) 3 #[.int .i64 t.vo,.int .i64 t.lo,.int .i64 t.n,.string t.s,.slice DL t.qw.length DC,.string t.d] rfl rfl (P.there 3 6 (by simp)) (by kernel_rfl) (by simp[Value.oneCell']) ?_
 refine AA.out _ _ (fun h=>absurd h (by decide)) ?_
 clear AA KK
 obtain⟨w3,hw3⟩:∃y,w2.setCells (w.heap.size) 3 [.int .i64 t.vo,.int .i64 t.lo,.int .i64 t.n,.string t.s,.slice DL t.qw.length DC,.string t.d]=y:=⟨_,rfl⟩
 rw[hw3]
 have kN:Kp w2 w3 (fun k=>k=w.heap.size):=hw3▸Ab _ _ _ _
 replace P:Loc w3 (w.heap.size) #[.int .i64 t.id,.int .i64 t.vw,.int .i64 t.ak,.int .i64 t.vo,.int .i64 t.lo,.int .i64 t.n,.string t.s,.slice DL t.qw.length DC,.string t.d,.slice bo t.pool.length cb,.slice co t.tab.length cc,.slice od t.AZ.length cd,.int .i64 t.su,.slice oe t.held.length ce]:=hw3▸P.setCells _ _ rfl
 replace O:=O.kp kN (by omega)
 replace oA:=oA.kp kN (fun j hj e=>by have:=toA j hj;omega)
 replace oD:=oD.kp kN (fun j hj e=>by have:=Kq j hj;omega)
 have BP:=Below.kp Am kN Am.size (fun k hk=>by omega)
 have IZ:=kN.size
 clear hw3 kN Am
 refine BC (i:=8) (d:=10) (v:=?_) rfl rfl (by kernel_rfl) (by kernel_rfl) (by kernel_rfl) (fun _ _ _ h=>h) (Or.inl ⟨by rfl,?_⟩) ?_
 rotate_left
 ·intro w hSw
  try dsimp only at hSw
  go_simp
  try with_reducible rfl
 simp only[Act.put,List.setIfInBounds_toArray,List.set_cons_zero,List.set_cons_succ]
 refine Aw (i:=9) rfl (by kernel_rfl) (fun KK AA=>?_)
 rw[if_pos (by rfl)]
 refine wp_store_mid 51 (.tmp 10) (.tmp 8) rfl (w.heap.size) 11 #[.slice GY t.AZ.length GG,.int .i64 t.su] rfl rfl (P.there 11 2 (by simp)) (by kernel_rfl) (by simp[Value.oneCell']) ?_
 refine AA.out _ _ (fun h=>absurd h (by decide)) ?_
 clear AA KK
 obtain⟨w4,hw4⟩:∃y,w3.setCells (w.heap.size) 11 [.slice GY t.AZ.length GG,.int .i64 t.su]=y:=⟨_,rfl⟩
 rw[hw4]
 have kN:Kp w3 w4 (fun k=>k=w.heap.size):=hw4▸Ab _ _ _ _
 replace P:Loc w4 (w.heap.size) #[.int .i64 t.id,.int .i64 t.vw,.int .i64 t.ak,.int .i64 t.vo,.int .i64 t.lo,.int .i64 t.n,.string t.s,.slice DL t.qw.length DC,.string t.d,.slice bo t.pool.length cb,.slice co t.tab.length cc,.slice GY t.AZ.length GG,.int .i64 t.su,.slice oe t.held.length ce]:=hw4▸P.setCells _ _ rfl
 replace O:=O.kp kN (by omega)
 replace oA:=oA.kp kN (fun j hj e=>by have:=toA j hj;omega)
 replace oD:=oD.kp kN (fun j hj e=>by have:=Kq j hj;omega)
 have Cs:=Below.kp BP kN BP.size (fun k hk=>by omega)
 have Ph:=kN.size
 clear hw4 kN BP
 refine I8 (by kernel_rfl) ?_ _
 refine NoPanic.normal ?_
 clear K BN
 have K:=kw (kL P)
 go_upto_region 2 with fail
 have bA:Below w4.heap.size w4 w4.drew:=Below.drew (Below.refl _ _)
 refine wp_region_noPanic ?_
 refine Hq (S:=fun w'=>Below w4.heap.size w4 w'∧Loc w' (w.heap.size) #[.int .i64 t.id,.int .i64 t.vw,.int .i64 t.ak,.int .i64 t.vo,.int .i64 t.lo,.int .i64 t.n,.string t.s,.slice DL t.qw.length DC,.string t.d,.slice bo t.pool.length cb,.slice co t.tab.length cc,.slice GY t.AZ.length GG,.int .i64 t.su,.slice oe t.held.length ce]) (fun j=>j==10||j==12||j==14) (by kernel_rfl) ?_
 obtain⟨wd2,hwd⟩:∃y,w4.drew=y:=⟨_,rfl⟩
 rw[hwd]at bA⊢
 clear hwd
 have bb:=bA
 have WH:=bu Cs bb
 have AAR:=bb.size
 replace P:=P.up bb
 replace O:=O.up bb
 replace oA:=oA.below bb
 replace oD:=oD.below bb
 clear Cs bb
 refine BC (i:=0) (d:=11) (v:=?_) rfl rfl (by kernel_rfl) (by kernel_rfl) (by kernel_rfl) (fun _ _ _ h=>h) (Or.inl ⟨by rfl,?_⟩) ?_
 rotate_left
 ·intro w hSw
  try dsimp only at hSw
  go_simp
  try with_reducible rfl
 simp only[Act.put,List.setIfInBounds_toArray,List.set_cons_zero,List.set_cons_succ]
 refine BC (i:=3) (d:=14) (v:=?_) rfl rfl (by kernel_rfl) (by kernel_rfl) (by kernel_rfl) (fun _ _ _ h=>h) (Or.inl ⟨by rfl,?_⟩) ?_
 rotate_left
 ·intro w hSw
  try dsimp only at hSw
  go_simp
  try with_reducible rfl
 simp only[Act.put,List.setIfInBounds_toArray,List.set_cons_zero,List.set_cons_succ]
 refine BC (i:=6) (d:=17) (v:=?_) rfl rfl (by kernel_rfl) (by kernel_rfl) (by kernel_rfl) (fun _ _ _ h=>h) (Or.inl ⟨by rfl,?_⟩) ?_
 rotate_left
 ·intro w hSw
  try dsimp only at hSw
  go_simp
  try with_reducible rfl
 simp only[Act.put,List.setIfInBounds_toArray,List.set_cons_zero,List.set_cons_succ]
 refine Dk (i:=1) (d:=12) (v:=?_) rfl rfl (by kernel_rfl) (by kernel_rfl) (by kernel_rfl) (by kernel_rfl) (fun _ _ _ h=>h) (Or.inl ⟨by rfl,?_⟩) (K.out _ bA) ?_
 rotate_left
 ·intro w hSw
  try dsimp only at hSw
  have h:=hSw
  have hc9:=(h.2).cell 9 rfl
  clear h hSw
  go_simp
  try with_reducible rfl
 simp only[Act.put,List.setIfInBounds_toArray,List.set_cons_zero,List.set_cons_succ]
 refine Dk (i:=4) (d:=15) (v:=?_) rfl rfl (by kernel_rfl) (by kernel_rfl) (by kernel_rfl) (by kernel_rfl) (fun _ _ _ h=>h) (Or.inl ⟨by rfl,?_⟩) (K.out _ bA) ?_
 rotate_left
 ·intro w hSw
  try dsimp only at hSw
  have h:=hSw
  have w_:=(h.2).cell 10 rfl
  clear h hSw
  go_simp
  try with_reducible rfl
 simp only[Act.put,List.setIfInBounds_toArray,List.set_cons_zero,List.set_cons_succ]
 refine Dk (i:=7) (d:=18) (v:=?_) rfl rfl (by kernel_rfl) (by kernel_rfl) (by kernel_rfl) (by kernel_rfl) (fun _ _ _ h=>h) (Or.inl ⟨by rfl,?_⟩) (K.out _ bA) ?_
 rotate_left
 ·intro w hSw
  try dsimp only at hSw
  have h:=hSw
  have sH:=(h.2).cell 13 rfl
  clear h hSw
  go_simp
  try with_reducible rfl
 simp only[Act.put,List.setIfInBounds_toArray,List.set_cons_zero,List.set_cons_succ]
 refine Aw (i:=2) rfl (by kernel_rfl) (fun KK AA=>?_)
 refine C_ rfl (.const (.slice none 0 0)) (.tmp 12) rfl w4.heap.size (.slice none 0 0) (.slice bo t.pool.length cb) [] (t.pool) rfl rfl (World.ownsRow_nil _ _ _ _) ((RT.below HR.out.p WH).pt) (by simp;omega) bA.size ?_
 intro u w5 oB g7 _
 have bb:Below wd2.heap.size wd2 w5:=(Below.refl _ _).grown g7 (Nat.le_refl _) (fun j hj=>by simp[Value.ownBlock]at hj)
 rw[List.nil_append]at oB
 have Ao:Below w4.heap.size w4 w5:=bu bA bb
 refine AA.out _ _ (fun _ _=>K.out _ Ao) ?_
 clear AA KK g7 bA
 simp only[Act.put,List.setIfInBounds_toArray,List.set_cons_zero,List.set_cons_succ]
 have GZ:=bu WH bb
 have fQ:=bb.size
 replace P:=P.up bb
 replace O:=O.up bb
 replace oA:=oA.below bb
 replace oD:=oD.below bb
 clear WH bb
 obtain⟨Dy,Dw,rfl⟩:=OT.Bw oB
 have BQ:=World.ownsRow.lt oB
 refine BC (i:=9) (d:=20) (v:=?_) rfl rfl (by kernel_rfl) (by kernel_rfl) (by kernel_rfl) (fun _ _ _ h=>h) (Or.inl ⟨by rfl,?_⟩) ?_
 rotate_left
 ·intro w hSw
  try dsimp only at hSw
  go_simp
  try with_reducible rfl
 simp only[Act.put,List.setIfInBounds_toArray,List.set_cons_zero,List.set_cons_succ]
 refine Aw (i:=5) rfl (by kernel_rfl) (fun KK AA=>?_)
 go_simp
 refine(T3.out _ _ (HR.out.tb.below GZ)).mono ?_
 rintro e w6 ⟨u,rfl,oC,bb⟩
 have BN:Below w4.heap.size w4 w6:=bu Ao bb
 refine AA.out _ _ (fun _ _=>K.out _ BN) ?_
 clear AA KK Ao
 have J4:=bu GZ bb
 have pE:=bb.size
 replace P:=P.up bb
 replace O:=O.up bb
 replace oA:=oA.below bb
 replace oD:=oD.below bb
 replace oB:=oB.below bb
 clear GZ bb
 obtain⟨kM,oC⟩:=oC
 obtain⟨Ef,Ee,rfl⟩:=Kn.form ⟨kM,oC⟩
 obtain⟨m1,hm1⟩:∃m,w6.heap.size=m:=⟨_,rfl⟩
 have oC:=Cz.uG oC
 rw[hm1]at oC
 have hm2:=Nat.le_of_eq hm1
 have qC:=Nat.le_of_eq hm1.symm
 clear hm1
 refine Aw (i:=8) rfl (by kernel_rfl) (fun KK AA=>?_)
 go_simp
 refine(j5.out _ _ (HR.out.h.below J4)).mono ?_
 rintro e w7 ⟨u,rfl,oE,bb⟩
 have Fe:Below w4.heap.size w4 w7:=bu BN bb
 refine AA.out _ _ (fun _ _=>K.out _ Fe) ?_
 clear AA KK BN
 have Li:=bu J4 bb
 have vX:=bb.size
 replace P:=P.up bb
 replace O:=O.up bb
 replace oA:=oA.below bb
 replace oD:=oD.below bb
 replace oB:=oB.below bb
 clear J4
 replace oC:=oC.below bb
 clear bb
 obtain⟨IV,IP,rfl⟩:=oE.form
 obtain⟨m5,zL⟩:∃m,w7.heap.size=m:=⟨_,rfl⟩
 rw[zL]at oE
 have hm6:=Nat.le_of_eq zL
 have hm7:=Nat.le_of_eq zL.symm
 clear zL
 refine Aw (i:=10) rfl (by kernel_rfl) (fun KK AA=>?_)
 have q0:=P.cell 9 rfl
 have FG:=P.frozen
 go_simp
 refine AA.out _ _ (fun h=>absurd h (by decide)) ?_
 clear AA KK q0 FG
 obtain⟨w8,hw8⟩:∃y,w7.setCell ⟨w.heap.size,9,none⟩ (.slice Dy t.pool.length Dw)=y:=⟨_,rfl⟩
 rw[hw8]
 have kN:Kp w7 w8 (fun k=>k=w.heap.size):=hw8▸AJ _ _ _ _
 replace P:Loc w8 (w.heap.size) #[.int .i64 t.id,.int .i64 t.vw,.int .i64 t.ak,.int .i64 t.vo,.int .i64 t.lo,.int .i64 t.n,.string t.s,.slice DL t.qw.length DC,.string t.d,.slice Dy t.pool.length Dw,.slice co t.tab.length cc,.slice GY t.AZ.length GG,.int .i64 t.su,.slice oe t.held.length ce]:=hw8▸P.set 9 _ rfl
 replace O:=O.kp kN (by omega)
 replace oA:=oA.kp kN (fun j hj e=>by have:=toA j hj;omega)
 replace oD:=oD.kp kN (fun j hj e=>by have:=Kq j hj;omega)
 replace oB:=oB.kp kN (fun j hj e=>by have:=BQ j hj;omega)
 replace oC:=oC.kp kN (fun j h1 h2 e=>by omega)
 replace oE:=oE.kp kN (fun j h1 h2 e=>by omega)
 have Q7:=Below.kp Li kN Li.size (fun k hk=>by omega)
 have vW:=kN.size
 clear hw8 kN Li
 refine BC (i:=11) (d:=21) (v:=?_) rfl rfl (by kernel_rfl) (by kernel_rfl) (by kernel_rfl) (fun _ _ _ h=>h) (Or.inl ⟨by rfl,?_⟩) ?_
 rotate_left
 ·intro w hSw
  try dsimp only at hSw
  go_simp
  try with_reducible rfl
 simp only[Act.put,List.setIfInBounds_toArray,List.set_cons_zero,List.set_cons_succ]
 refine Aw (i:=12) rfl (by kernel_rfl) (fun KK AA=>?_)
 have q0:=P.cell 10 rfl
 have FG:=P.frozen
 go_simp
 refine AA.out _ _ (fun h=>absurd h (by decide)) ?_
 clear AA KK q0 FG
 obtain⟨w9,ZT⟩:∃y,w8.setCell ⟨w.heap.size,10,none⟩ (.slice Ef t.tab.length Ee)=y:=⟨_,rfl⟩
 rw[ZT]
 have kN:Kp w8 w9 (fun k=>k=w.heap.size):=ZT▸AJ _ _ _ _
 replace P:Loc w9 (w.heap.size) #[.int .i64 t.id,.int .i64 t.vw,.int .i64 t.ak,.int .i64 t.vo,.int .i64 t.lo,.int .i64 t.n,.string t.s,.slice DL t.qw.length DC,.string t.d,.slice Dy t.pool.length Dw,.slice Ef t.tab.length Ee,.slice GY t.AZ.length GG,.int .i64 t.su,.slice oe t.held.length ce]:=ZT▸P.set 10 _ rfl
 replace O:=O.kp kN (by omega)
 replace oA:=oA.kp kN (fun j hj e=>by have:=toA j hj;omega)
 replace oD:=oD.kp kN (fun j hj e=>by have:=Kq j hj;omega)
 replace oB:=oB.kp kN (fun j hj e=>by have:=BQ j hj;omega)
 replace oC:=oC.kp kN (fun j h1 h2 e=>by omega)
 replace oE:=oE.kp kN (fun j h1 h2 e=>by omega)
 have Zi:=Below.kp Q7 kN Q7.size (fun k hk=>by omega)
 have sw9:=kN.size
 clear ZT kN Q7
 refine BC (i:=13) (d:=22) (v:=?_) rfl rfl (by kernel_rfl) (by kernel_rfl) (by kernel_rfl) (fun _ _ _ h=>h) (Or.inl ⟨by rfl,?_⟩) ?_
 rotate_left
 ·intro w hSw
  try dsimp only at hSw
  go_simp
  try with_reducible rfl
 simp only[Act.put,List.setIfInBounds_toArray,List.set_cons_zero,List.set_cons_succ]
 refine Aw (i:=14) rfl (by kernel_rfl) (fun KK AA=>?_)
 have q0:=P.cell 13 rfl
 have FG:=P.frozen
 go_simp
 refine AA.out _ _ (fun h=>absurd h (by decide)) ?_
 clear AA KK q0 FG
 obtain⟨Tw,nI⟩:∃y,w9.setCell ⟨w.heap.size,13,none⟩ (.slice IV t.held.length IP)=y:=⟨_,rfl⟩
 rw[nI]
 have kN:Kp w9 Tw (fun k=>k=w.heap.size):=nI▸AJ _ _ _ _
 replace P:Loc Tw (w.heap.size) #[.int .i64 t.id,.int .i64 t.vw,.int .i64 t.ak,.int .i64 t.vo,.int .i64 t.lo,.int .i64 t.n,.string t.s,.slice DL t.qw.length DC,.string t.d,.slice Dy t.pool.length Dw,.slice Ef t.tab.length Ee,.slice GY t.AZ.length GG,.int .i64 t.su,.slice IV t.held.length IP]:=nI▸P.set 13 _ rfl
 replace O:=O.kp kN (by omega)
 replace oA:=oA.kp kN (fun j hj e=>by have:=toA j hj;omega)
 replace oD:=oD.kp kN (fun j hj e=>by have:=Kq j hj;omega)
 replace oB:=oB.kp kN (fun j hj e=>by have:=BQ j hj;omega)
 replace oC:=oC.kp kN (fun j h1 h2 e=>by omega)
 replace oE:=oE.kp kN (fun j h1 h2 e=>by omega)
 have J5:=Below.kp Zi kN Zi.size (fun k hk=>by omega)
 have q8:=kN.size
 clear nI kN Zi
 refine I8 (by kernel_rfl) ?_ _
 refine NoPanic.normal ?_
 clear K Fe
 go_wp2_with (first|(refine Ap P 54 _ rfl _ rfl rfl Tryz.underlying54 rfl (by kernel_rfl) ?_)|(refine BH O 54 #[.int .i64 t.id,.int .i64 t.vw,.int .i64 t.ak,.int .i64 t.vo,.int .i64 t.lo,.int .i64 t.n,.string t.s,.slice DL t.qw.length DC,.string t.d,.slice Dy t.pool.length Dw,.slice Ef t.tab.length Ee,.slice GY t.AZ.length GG,.int .i64 t.su,.slice IV t.held.length IP] rfl _ _ rfl rfl rfl (by kernel_rfl) rfl (by simp[Value.oneCell']) ?_))
 obtain⟨wE,Bd⟩:∃Cj,Tw.setRow (w.heap.size+1) #[.int .i64 t.id,.int .i64 t.vw,.int .i64 t.ak,.int .i64 t.vo,.int .i64 t.lo,.int .i64 t.n,.string t.s,.slice DL t.qw.length DC,.string t.d,.slice Dy t.pool.length Dw,.slice Ef t.tab.length Ee,.slice GY t.AZ.length GG,.int .i64 t.su,.slice IV t.held.length IP]=Cj:=⟨_,rfl⟩
 have kN:Kp Tw wE (fun k=>k=w.heap.size+1):=Bd▸Bz _ _ _
 replace O:Loc wE (w.heap.size+1) #[.int .i64 t.id,.int .i64 t.vw,.int .i64 t.ak,.int .i64 t.vo,.int .i64 t.lo,.int .i64 t.n,.string t.s,.slice DL t.qw.length DC,.string t.d,.slice Dy t.pool.length Dw,.slice Ef t.tab.length Ee,.slice GY t.AZ.length GG,.int .i64 t.su,.slice IV t.held.length IP]:=Bd▸O.row
 replace P:=P.kp kN (by omega)
 replace oA:=oA.kp kN (fun j hj e=>by have:=toA j hj;omega)
 replace oD:=oD.kp kN (fun j hj e=>by have:=Kq j hj;omega)
 replace oB:=oB.kp kN (fun j hj e=>by have:=BQ j hj;omega)
 replace oC:=oC.kp kN (fun j h1 h2 e=>by omega)
 replace oE:=oE.kp kN (fun j h1 h2 e=>by omega)
 have FL:=Below.kp J5 kN J5.size (fun k hk=>by omega)
 have Pg:=kN.size
 rw[Bd]
 clear Bd kN J5
 refine bodyPost_ret (v:=ES t (.slice DL t.qw.length DC) (.slice Dy t.pool.length Dw) (.slice Ef t.tab.length Ee) (.slice GY t.AZ.length GG) (.slice IV t.held.length IP)) (Ce Tryz.results80 _ O rfl Tryz.underlying54 rfl (by kernel_rfl)) rfl ?_
 exact⟨_,_,_,_,_,rfl,⟨w1.heap.size,w4.heap.size,w5.heap.size,m1,w1.heap.size,w2.heap.size,w6.heap.size,kM,by omega,⟨oA.mono (by omega),fun j hj=>(toA j hj).2⟩,⟨oB,fun j hj=>(BQ j hj).2⟩,oC,⟨oD.mono (by omega),fun j hj=>(Kq j hj).2⟩,oE.mono (by omega) (by omega)⟩,FL⟩
end
section
open Go.RowKit
theorem OI.more{B:Nat}{w1:World}{v':Value}{xs:List Int}{c:Int}(ho':w1.ownsRow B 3 1 v' (xs.length+1) (xs.map (Value.int .i64)++[.int .i64 c])):OI w1 B v' (xs++[c]):=by
 unfold OI
 rw[List.length_append,List.map_append]
 exact ho'
end
section
variable [∀(a b c d:Int),Decidable (BD a b c d)]
variable [∀(a b c d:Nat),Decidable (Dj a b c d)]
variable [∀(last:Int)(s:St),Decidable (Au last s)]
variable [∀(x:T4),Decidable (Dr x)]
variable [∀(n:Int)(s:List Int),Decidable (Dt n s)]
variable [∀(n f:Int),Decidable (A8 n f)]
theorem Jt.piece{xs:List Int}(hb:Jt xs)(k m:Nat):Jt ((xs.drop k).take m):=fun y hy=>hb y (List.mem_of_mem_drop (List.mem_of_mem_take hy))
end
section
open Go.RowKit
variable [∀(a b c d:Int),Decidable (BD a b c d)]
variable [∀(a b c d:Nat),Decidable (Dj a b c d)]
variable [∀(last:Int)(s:St),Decidable (Au last s)]
variable [∀(x:T4),Decidable (Dr x)]
variable [∀(n:Int)(s:List Int),Decidable (Dt n s)]
variable [∀(n f:Int),Decidable (A8 n f)]
theorem RB.sub{w:World}{b off n ca:Nat}{xs:List Int}(h:RB w (.slice (some ⟨b,off,none⟩) n ca) xs)(q m:Nat)(hq:q+m≤xs.length):RB w (.slice (some ⟨b,off+q,none⟩) m (ca-q)) ((xs.drop q).take m):=by
 obtain⟨hl,ao,cap,e,hc,h⟩:=h
 cases e
 have hw:=lF xs q m hq
 refine⟨by omega,_,_,by rw[hw],⟨by omega,by unfold maxLen at *; omega⟩,?_⟩
 rcases h with rfl|⟨b',off',e,h⟩
 ·left;simp
 cases e
 right
 refine⟨b,off+q,rfl,fun k hk=>?_⟩
 rw[hw]at hk
 exact Zj h hq k hk
theorem RB.at{w:World}{ao:Option Addr}{n ca:Nat}{xs:List Int}(h:RB w (.slice ao n ca) xs)(hx:0<xs.length):(n=xs.length∧n≤ca)∧∃b off,ao=some ⟨b,off,none⟩∧∀k,k<xs.length→w.cell? ⟨b,off+k,none⟩=some (.int .u8 (xs.getD k 0)):=by
 obtain⟨hl,QH,V4,e,hc,h⟩:=h
 cases e
 rcases h with rfl|⟨b,off,rfl,h⟩
 ·simp at hx
 exact⟨⟨rfl,hc.1⟩,b,off,rfl,h⟩
end
section
open Go Go.RowKit
variable [∀(a b c d:Int),Decidable (BD a b c d)]
variable [∀(n f:Int),Decidable (A8 n f)]
variable [∀(a b c d:Nat),Decidable (Dj a b c d)]
variable [∀(x:T4),Decidable (Dr x)]
variable [∀(last:Int)(s:St),Decidable (Au last s)]
variable [∀(n:Int)(s:List Int),Decidable (Dt n s)]
variable [∀(x y:T4),Decidable (Gm x y)]
variable [∀(ts:List T4),Decidable (Asc ts)]
variable [∀(ts:List T4),Decidable (DU ts)]
variable [∀(ts:List T4),Decidable (JP ts)]
theorem Ei.below{w w':World}{t:Bu}{a b c d e:Value}(h:Ei w t a b c d e)(hb:Below w.heap.size w w'):Ei w' t a b c d e:=
 ⟨h.q.below hb,h.p.below hb,h.tb.below hb,h.d.below hb,h.h.below hb⟩
end
section
open Go.RowKit
def uk(n:Nat)(s:Int):Int:=if Ji n s then(n:Int)else s
end
section
open Go Go.RowKit
variable [∀(a b c d:Int),Decidable (BD a b c d)]
variable [∀(n f:Int),Decidable (A8 n f)]
variable [∀(a b c d:Nat),Decidable (Dj a b c d)]
variable [∀(x:T4),Decidable (Dr x)]
variable [∀(last:Int)(s:St),Decidable (Au last s)]
variable [∀(n:Int)(s:List Int),Decidable (Dt n s)]
variable [∀(x y:T4),Decidable (Gm x y)]
variable [∀(ts:List T4),Decidable (Asc ts)]
variable [∀(ts:List T4),Decidable (DU ts)]
variable [∀(ts:List T4),Decidable (JP ts)]
def ve(t:Bu):Bu:={ t with su:=uk t.AZ.length t.su,held:=[] }
theorem JF.sr{t:Bu}(h:JF t):JF (ve t):=⟨h.q,h.p,h.tb,h.d,by simp[ve],h.tt,fun j hj=>by simp[ve]at hj⟩
theorem RZ.sr{t:Bu}(h:RZ t):RZ (ve t):=⟨h.s,h.d,h.tt,fun j hj=>by simp[ve]at hj⟩
def FP(w:World)(lo hi:Nat)(v:Value)(ps:List Bf):Prop:=hi≤w.heap.size∧∀(w':World)(X:Nat→Prop),Kp w w' X→(∀j,lo≤j→j<hi→¬X j)→Ib w' v ps
theorem FP.kp{w w':World}{lo hi:Nat}{v:Value}{ps:List Bf}{X:Nat→Prop}(h:FP w lo hi v ps)(k:Kp w w' X)(hx:∀j,lo≤j→j<hi→¬X j):FP w' lo hi v ps:=
 ⟨Nat.le_trans h.1 k.size,fun w'' Y k' hy=>h.2 w'' (fun j=>X j∨Y j) ((k.mono (fun _=>Or.inl)).trans (k'.mono (fun _=>Or.inr))) (fun j h1 h2 e=>e.elim (hx j h1 h2) (hy j h1 h2))⟩
theorem FP.below{w w':World}{lo hi:Nat}{v:Value}{ps:List Bf}(h:FP w lo hi v ps)(b':Below w.heap.size w w'):FP w' lo hi v ps:=h.kp (Below.Bb b' (fun _=>False)) (fun _ _ _ h=>h)
theorem FP.fT{w:World}{lo hi:Nat}{v:Value}{ps:List Bf}(h:FP w lo hi v ps):Ib w v ps:=h.2 w (fun _=>False) (Kp.refl _ _) (fun _ _ _ h=>h)
theorem FP.nil(w:World)(lo hi:Nat)(h:hi≤w.heap.size):FP w lo hi (.slice none 0 0) []:=⟨h,fun w' _ _ _=>Ib.nil w'⟩
theorem FP.mono{w:World}{lo lo' hi hi':Nat}{v:Value}{ps:List Bf}(h:FP w lo hi v ps)(h1:lo'≤lo)(h2:hi≤hi')(h3:hi'≤w.heap.size):FP w lo' hi' v ps:=
 ⟨h3,fun w' X k hx=>h.2 w' X k (fun j a b=>hx j (Nat.le_trans h1 a) (Nat.lt_of_lt_of_le b h2))⟩
theorem FP.none(w:World)(lo hi:Nat)(ao:Option Addr)(ca:Nat)(h:hi≤w.heap.size):FP w lo hi (.slice ao 0 ca) []:=⟨h,fun _ _ _ _=>⟨ao,ca,rfl,.inl rfl⟩⟩
theorem Pd.stay{w:World}{base:Nat}{v:Value}{ps:List Bf}(h:Pd w base v ps)(hs:∀j,j<ps.length→(ps.getD j AL).2.bw.length≤4194304∧(ps.getD j AL).2.pw.length≤4194304∧(ps.getD j AL).2.qw.length≤4194304):FP w base w.heap.size v ps:=
 ⟨Nat.le_refl _,fun _ _ k hx=>(h.kp k.cut (fun j h1 h2=>hx j h1 h2.2 h2.1)).fT hs⟩
end
end Go.Proofs.YtkmnfeihjjccmaaGreatDoor
