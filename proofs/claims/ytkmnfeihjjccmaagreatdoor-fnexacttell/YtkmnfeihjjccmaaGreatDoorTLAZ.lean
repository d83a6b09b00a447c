/- Lemmas; their conditions stand in each statement. -/
import Derived.Test.YtkmnfeihjjccmaaGreatDoorTLAR
import Derived.Test.YtkmnfeihjjccmaaGreatDoorTLAY
set_option maxRecDepth 100000
set_option maxHeartbeats 16000000
set_option linter.unusedSectionVars false
set_option linter.unusedSimpArgs false
namespace Go.Proofs.YtkmnfeihjjccmaaGreatDoor
section
open Go Go.RowKit
variable [∀(a b c d:Int),Decidable (BD a b c d)]
variable [∀(n f:Int),Decidable (A8 n f)]
variable [∀(a b c d:Nat),Decidable (Dj a b c d)]
variable [∀(x:T4),Decidable (Dr x)]
variable [∀(last:Int)(s:St),Decidable (Au last s)]
variable [∀(n:Int)(s:List Int),Decidable (Dt n s)]
theorem Kp.cut{w w':World}{X:Nat→Prop}(k:Kp w w' X):Kp w w' (fun j=>X j∧j<w.heap.size):=⟨k.os,k.tape,k.output,k.size,fun j hj hx=>k.block j hj (fun e=>hx ⟨e,hj⟩)⟩
def EF(w:World)(lo hi:Nat)(t:Bu)(a b c d e:Value):Prop:=hi≤w.heap.size∧∀(w':World)(X:Nat→Prop),Kp w w' X→(∀j,lo≤j→j<hi→¬X j)→Ei w' t a b c d e
theorem EF.kp{w w':World}{lo hi:Nat}{t:Bu}{a b c d e:Value}{X:Nat→Prop}(h:EF w lo hi t a b c d e)(k:Kp w w' X)(hx:∀j,lo≤j→j<hi→¬X j):EF w' lo hi t a b c d e:=
 ⟨Nat.le_trans h.1 k.size,fun w'' Y k' hy=>h.2 w'' (fun j=>X j∨Y j) ((k.mono (fun _=>Or.inl)).trans (k'.mono (fun _=>Or.inr))) (fun j h1 h2 e=>e.elim (hx j h1 h2) (hy j h1 h2))⟩
theorem EF.below{w w':World}{lo hi:Nat}{t:Bu}{a b c d e:Value}(h:EF w lo hi t a b c d e)(b':Below w.heap.size w w'):EF w' lo hi t a b c d e:=h.kp (Below.Bb b' (fun _=>False)) (fun _ _ _ h=>h)
theorem EF.mono{w:World}{lo lo' hi hi':Nat}{t:Bu}{a b c d e:Value}(h:EF w lo hi t a b c d e)(h1:lo'≤lo)(h2:hi≤hi')(h3:hi'≤w.heap.size):EF w lo' hi' t a b c d e:=
 ⟨h3,fun w' X k hx=>h.2 w' X k (fun j a b=>hx j (Nat.le_trans h1 a) (Nat.lt_of_lt_of_le b h2))⟩
theorem EF.BS{w:World}{lo hi:Nat}{t:Bu}{a b c d e:Value}(h:EF w lo hi t a b c d e):Ei w t a b c d e:=h.2 w (fun _=>False) (Kp.refl _ _) (fun _ _ _ h=>h)
theorem KQ(w:World):OT (w.alloc (.cells #[] 63)) w.heap.size (.slice (some ⟨w.heap.size,0,none⟩) 0 0) []:=by
 have:=World.ownsRow_lit (base:=w.heap.size) (e:=63) (size:=4) w #[] 0 (Nat.le_refl _) (by unfold maxLen;omega) (by simp)
 simpa[OT,Av]using this
theorem VL(t:Bu)(ao bo co od oe:Option Addr)(ca cb cc cd ce:Nat)(w:World)(hm:JF t)(h:Ei w t (.slice ao t.qw.length ca) (.slice bo t.pool.length cb) (.slice co t.tab.length cc) (.slice od t.AZ.length cd) (.slice oe t.held.length ce)):
 Calls Tryz.prog 25 #[ES t (.slice ao t.qw.length ca) (.slice bo t.pool.length cb) (.slice co t.tab.length cc) (.slice od t.AZ.length cd) (.slice oe t.held.length ce)] w fun e w'=>∃a' b' c' d' e',e= .returned (ES t a' b' c' d' e')∧EF w' w.heap.size w'.heap.size t a' b' c' d' e'∧Below w.heap.size w w':=by
 have T1:=hide fun w' h=>Lt t.vo t.lo t.n t.s ao ca t.qw t.d w' h
 have T2:=hide fun w' h=>Ug od t.AZ.length cd t.su t.AZ w' h (by have:=hm.d;omega)
 have T3:=hide fun v w' h=>Ka v t.tab w' (by have:=hm.tb;omega) h
 have j5:=hide fun v w' h=>R_ v t.held w' hm.h h
 have HR:=hide h
 have HM:=hide hm
 have hpl:=hm.p
 clear h hm
 obtain⟨w0,hw0,AO,P,O,DN⟩:=GM w #[.int .i64 t.id,.int .i64 t.vw,.int .i64 t.ak,.int .i64 t.vo,.int .i64 t.lo,.int .i64 t.n,.string t.s,.slice ao t.qw.length ca,.string t.d,.slice bo t.pool.length cb,.slice co t.tab.length cc,.slice od t.AZ.length cd,.int .i64 t.su,.slice oe t.held.length ce] 54 #[.int .i64 0,.int .i64 0,.int .i64 0,.int .i64 0,.int .i64 0,.int .i64 0,.string ⟨#[]⟩,.slice none 0 0,.string ⟨#[]⟩,.slice none 0 0,.slice none 0 0,.slice none 0 0,.int .i64 0,.slice none 0 0] 54
 go_enter Tryz.func25,Tryz.ntmps25
 have K:Hid (∀w',Kp w0 w' (fun k=>k=w.heap.size+1)→(fun w'=>Kp w0 w' (fun k=>k=w.heap.size+1)∧Loc w' (w.heap.size) #[.int .i64 t.id,.int .i64 t.vw,.int .i64 t.ak,.int .i64 t.vo,.int .i64 t.lo,.int .i64 t.n,.string t.s,.slice ao t.qw.length ca,.string t.d,.slice bo t.pool.length cb,.slice co t.tab.length cc,.slice od t.AZ.length cd,.int .i64 t.su,.slice oe t.held.length ce]) w'):=hide fun w' hk'=>⟨hk',P.kp hk' (by omega)⟩
 go_upto_region 1 with fail
 clear hw0
 refine yE K (fun Tu bA bb hHeld=>?_)
 have FK:=bu AO bb
 have gu:=bb.size
 replace P:=P.up bb
 replace O:=O.up bb
 clear AO bb
 refine tx 0 3 ?_
 refine tx 2 5 ?_
 refine tx 4 7 ?_
 refine tx 6 9 ?_
 refine tx 10 13 ?_
 refine tx 13 16 ?_
 refine tx 16 19 ?_
 refine tx 19 22 ?_
 refine take_at (i:=1) (d:=4) (v:=?_) rfl rfl (by kernel_rfl) (by kernel_rfl) (by kernel_rfl) (fun _ _ _ h=>h) (Or.inl ⟨by rfl,?_⟩) (by assumption) ?_
 rotate_left
 ·intro w hSw
  try dsimp only at hSw
  have h:=hSw
  have hc0:=(h.2).cell 0 rfl
  clear h hSw
  go_simp
  try with_reducible rfl
 simp only[pU]
 refine take_at (i:=3) (d:=6) (v:=?_) rfl rfl (by kernel_rfl) (by kernel_rfl) (by kernel_rfl) (fun _ _ _ h=>h) (Or.inl ⟨by rfl,?_⟩) (by assumption) ?_
 rotate_left
 ·intro w hSw
  try dsimp only at hSw
  have h:=hSw
  have hc1:=(h.2).cell 1 rfl
  clear h hSw
  go_simp
  try with_reducible rfl
 simp only[pU]
 refine take_at (i:=5) (d:=8) (v:=?_) rfl rfl (by kernel_rfl) (by kernel_rfl) (by kernel_rfl) (fun _ _ _ h=>h) (Or.inl ⟨by rfl,?_⟩) (by assumption) ?_
 rotate_left
 ·intro w hSw
  try dsimp only at hSw
  have h:=hSw
  have hc2:=(h.2).cell 2 rfl
  clear h hSw
  go_simp
  try with_reducible rfl
 simp only[pU]
 refine take_at (i:=7) (d:=10) (v:= .agg #[.int .i64 t.vo,.int .i64 t.lo,.int .i64 t.n,.string t.s,.slice ao t.qw.length ca,.string t.d]) rfl rfl (by kernel_rfl) (by kernel_rfl) (by kernel_rfl) (fun _ _ _ h=>h) ?_ (by assumption) ?_
 ·exact BV rfl 48 _ rfl rfl [.int .i64 t.vo,.int .i64 t.lo,.int .i64 t.n,.string t.s,.slice ao t.qw.length ca,.string t.d] _ (fun w h=>(h.2).range 3 6 rfl) Tryz.underlying48 rfl (by kernel_rfl)
 simp only[pU]
 refine take_at (i:=11) (d:=14) (v:=?_) rfl rfl (by kernel_rfl) (by kernel_rfl) (by kernel_rfl) (fun _ _ _ h=>h) (Or.inl ⟨by rfl,?_⟩) (by assumption) ?_
 rotate_left
 ·intro w hSw
  try dsimp only at hSw
  have h:=hSw
  have hc9:=(h.2).cell 9 rfl
  clear h hSw
  go_simp
  try with_reducible rfl
 simp only[pU]
 refine take_at (i:=14) (d:=17) (v:=?_) rfl rfl (by kernel_rfl) (by kernel_rfl) (by kernel_rfl) (fun _ _ _ h=>h) (Or.inl ⟨by rfl,?_⟩) (by assumption) ?_
 rotate_left
 ·intro w hSw
  try dsimp only at hSw
  have h:=hSw
  have w_:=(h.2).cell 10 rfl
  clear h hSw
  go_simp
  try with_reducible rfl
 simp only[pU]
 refine take_at (i:=17) (d:=20) (v:= .agg #[.slice od t.AZ.length cd,.int .i64 t.su]) rfl rfl (by kernel_rfl) (by kernel_rfl) (by kernel_rfl) (fun _ _ _ h=>h) ?_ (by assumption) ?_
 ·exact BV rfl 51 _ rfl rfl [.slice od t.AZ.length cd,.int .i64 t.su] _ (fun w h=>(h.2).range 11 2 rfl) Tryz.underlying51 rfl (by kernel_rfl)
 simp only[pU]
 refine take_at (i:=20) (d:=23) (v:=?_) rfl rfl (by kernel_rfl) (by kernel_rfl) (by kernel_rfl) (fun _ _ _ h=>h) (Or.inl ⟨by rfl,?_⟩) (by assumption) ?_
 rotate_left
 ·intro w hSw
  try dsimp only at hSw
  have h:=hSw
  have sH:=(h.2).cell 13 rfl
  clear h hSw
  go_simp
  try with_reducible rfl
 simp only[pU]
 refine wpAnyH_ready (rs:=[8,9]) (by kernel_rfl) (by simp) (AllReadyH.cons rfl (fun KK AA=>?_) (AllReadyH.cons rfl (fun KK AA=>?_) AllReadyH.nil))
 ·go_simp
  refine(T1.out _ (HR.out.q.below FK)).mono ?_
  rintro e EJ ⟨u,rfl,oA,bb⟩
  have Ir:Kp w0 EJ (fun k=>k=w.heap.size+1):=bA.trans (Below.Bb bb _)
  clear hHeld
  refine AA.out _ _ (K.out _ Ir) (fun hHeld=>?_)
  clear AA KK bA
  have IC:=bu FK bb
  have gq:=bb.size
  replace P:=P.up bb
  replace O:=O.up bb
  clear FK bb
  have toA:=World.ownsRow.lt oA
  obtain⟨DL,DC,rfl⟩:=oA.form
  refine rd 9 rfl (fun KK AA=>?_)
  go_simp
  obtain⟨II,hq⟩:∃y,EJ.alloc (.cells #[] 63)=y:=⟨_,rfl⟩
  rw[hq]
  have bb:Below EJ.heap.size EJ II:=hq▸Ag _ _
  have JO:Kp w0 II (fun k=>k=w.heap.size+1):=Ir.trans (Below.Bb bb _)
  obtain⟨h9,O8⟩:∃m,EJ.heap.size=m:=⟨_,rfl⟩
  have oN:OT II h9 (.slice (some ⟨h9,0,none⟩) 0 0) []:=O8▸hq▸KQ EJ
  rw[O8]
  have h91:=Nat.le_of_eq O8
  have h92:=Nat.le_of_eq O8.symm
  clear hHeld hq O8
  refine AA.out _ _ (K.out _ JO) (fun hHeld=>?_)
  clear AA KK Ir
  have Fy:=bu IC bb
  have gZ:=bb.size
  replace P:=P.up bb
  replace O:=O.up bb
  replace oA:=oA.below bb
  clear IC bb
  have toN:=World.ownsRow.lt oN
  have h93:=(toN h9 rfl).2
  refine rd 12 rfl (fun KK AA=>?_)
  refine C_ rfl (.tmp 12) (.tmp 14) rfl h9 (.slice (some ⟨h9,0,none⟩) 0 0) (.slice bo t.pool.length cb) [] t.pool rfl rfl oN (RT.below HR.out.p Fy).pt (by simp;omega) (by omega) ?_
  intro u gG oB g7 hu
  rw[List.nil_append]at oB
  have kN:=CE g7
  have O7:∀j,(Value.slice (some ⟨h9,0,none⟩) 0 0).ownBlock=some j→j=h9:=fun j e=>by cases e;rfl
  replace P:=P.kp kN (fun e=>by have:=O7 _ e;omega)
  replace O:=O.kp kN (fun e=>by have:=O7 _ e;omega)
  replace oA:=oA.kp kN (fun j hj e=>by have:=toA j hj;have:=O7 _ e;omega)
  have PS:Kp w0 gG (fun k=>k=w.heap.size+1):=Kp.over JO kN (fun j e=>Or.inl (by have:=O7 _ e;omega))
  have J3:=Below.kp Fy kN Fy.size (fun j e=>by have:=O7 _ e;omega)
  have qz:=kN.size
  clear hHeld g7 kN oN toN hu Fy
  refine AA.out _ _ (K.out _ PS) (fun hHeld=>?_)
  clear AA KK JO
  change wpAnyH _ _ _ _ _ _ _ (Act.put _ (some 15) _) _
  simp only[pU]
  obtain⟨Dy,Dw,rfl⟩:=OT.Bw oB
  have BQ:=World.ownsRow.lt oB
  refine rd 15 rfl (fun KK AA=>?_)
  go_simp
  refine(T3.out _ _ (HR.out.tb.below J3)).mono ?_
  rintro e Tp ⟨u,rfl,oC,bb⟩
  have PR:Kp w0 Tp (fun k=>k=w.heap.size+1):=PS.trans (Below.Bb bb _)
  clear hHeld
  refine AA.out _ _ (K.out _ PR) (fun hHeld=>?_)
  clear AA KK PS
  have J2:=bu J3 bb
  have qy:=bb.size
  replace P:=P.up bb
  replace O:=O.up bb
  replace oA:=oA.below bb
  replace oB:=oB.below bb
  clear J3 bb
  obtain⟨kM,oC⟩:=oC
  obtain⟨Ef,Ee,rfl⟩:=Kn.form ⟨kM,oC⟩
  obtain⟨m1,hm1⟩:∃m,Tp.heap.size=m:=⟨_,rfl⟩
  have oC:=Cz.uG oC
  rw[hm1]at oC
  have hm2:=Nat.le_of_eq hm1
  have qC:=Nat.le_of_eq hm1.symm
  clear hm1
  refine rd 18 rfl (fun KK AA=>?_)
  go_simp
  refine(T2.out _ (HR.out.d.below J2)).mono ?_
  rintro e Y6 ⟨u,rfl,oD,bb⟩
  have Js:Kp w0 Y6 (fun k=>k=w.heap.size+1):=PR.trans (Below.Bb bb _)
  clear hHeld
  refine AA.out _ _ (K.out _ Js) (fun hHeld=>?_)
  clear AA KK PR
  have Jz:=bu J2 bb
  have qx:=bb.size
  replace P:=P.up bb
  replace O:=O.up bb
  replace oA:=oA.below bb
  replace oB:=oB.below bb
  clear J2
  replace oC:=oC.below bb
  clear bb
  have Kq:=World.ownsRow.lt oD
  obtain⟨GY,GG,rfl⟩:=oD.form
  refine rd 21 rfl (fun KK AA=>?_)
  go_simp
  refine(j5.out _ _ (HR.out.h.below Jz)).mono ?_
  rintro e G8 ⟨u,rfl,oE,bb⟩
  have Jr:Kp w0 G8 (fun k=>k=w.heap.size+1):=Js.trans (Below.Bb bb _)
  clear hHeld
  refine AA.out _ _ (K.out _ Jr) (fun hHeld=>?_)
  clear AA KK Js
  have IA:=bu Jz bb
  have l8:=bb.size
  replace P:=P.up bb
  replace O:=O.up bb
  replace oA:=oA.below bb
  replace oB:=oB.below bb
  replace oD:=oD.below bb
  clear Jz
  replace oC:=oC.below bb
  clear bb
  obtain⟨IV,IP,rfl⟩:=oE.form
  refine tx 22 25 ?_
  refine rd 23 rfl (fun KK AA=>?_)
  rw[if_pos (by rfl)]
  refine wp_store_mid 54 (.tmp 2) (.tmp 25) rfl (w.heap.size+1) 0 #[.int .i64 t.id,.int .i64 t.vw,.int .i64 t.ak,.int .i64 t.vo,.int .i64 t.lo,.int .i64 t.n,.string t.s,.slice DL t.qw.length DC,.string t.d,.slice Dy t.pool.length Dw,.slice Ef t.tab.length Ee,.slice GY t.AZ.length GG,.int .i64 t.su,.slice IV t.held.length IP] rfl rfl (O.there 0 14 (by simp)) (by kernel_rfl) (by simp[Value.oneCell']) ?_
  obtain⟨G7,hq⟩:∃y,G8.setCells (w.heap.size+1) 0 [.int .i64 t.id,.int .i64 t.vw,.int .i64 t.ak,.int .i64 t.vo,.int .i64 t.lo,.int .i64 t.n,.string t.s,.slice DL t.qw.length DC,.string t.d,.slice Dy t.pool.length Dw,.slice Ef t.tab.length Ee,.slice GY t.AZ.length GG,.int .i64 t.su,.slice IV t.held.length IP]=y:=⟨_,rfl⟩
  have kN:Kp G8 G7 (fun k=>k=w.heap.size+1):=hq▸Ab _ _ _ _
  have PV:Kp w0 G7 (fun k=>k=w.heap.size+1):=Jr.trans (kN.mono (fun k e=>e))
  replace O:Loc G7 (w.heap.size+1) #[.int .i64 t.id,.int .i64 t.vw,.int .i64 t.ak,.int .i64 t.vo,.int .i64 t.lo,.int .i64 t.n,.string t.s,.slice DL t.qw.length DC,.string t.d,.slice Dy t.pool.length Dw,.slice Ef t.tab.length Ee,.slice GY t.AZ.length GG,.int .i64 t.su,.slice IV t.held.length IP]:=hq▸O.setCells _ _ rfl
  rw[show G8.setCells (w.heap.size+1) 0 (Array.toList #[.int .i64 t.id,.int .i64 t.vw,.int .i64 t.ak,.int .i64 t.vo,.int .i64 t.lo,.int .i64 t.n,.string t.s,.slice DL t.qw.length DC,.string t.d,.slice Dy t.pool.length Dw,.slice Ef t.tab.length Ee,.slice GY t.AZ.length GG,.int .i64 t.su,.slice IV t.held.length IP])=G7 from hq]
  clear hHeld
  refine AA.out _ _ (K.out _ PV) (fun hHeld=>?_)
  clear AA KK Jr
  replace P:=P.kp kN (by omega)
  replace oA:=oA.kp kN (fun j hj e=>by have:=toA j hj;omega)
  replace oB:=oB.kp kN (fun j hj e=>by have:=BQ j hj;omega)
  replace oD:=oD.kp kN (fun j hj e=>by have:=Kq j hj;omega)
  replace oC:=oC.kp kN (fun j h1 h2 e=>by omega)
  replace oE:=oE.kp kN (fun j h1 e=>by omega)
  have Tj:=Below.kp IA kN IA.size (fun k hk=>by omega)
  have lv:=kN.size
  clear hq kN IA hHeld
  refine Bt ?_
  clear K PV
  go_wp2
  refine bodyPost_ret (v:=ES t (.slice DL t.qw.length DC) (.slice Dy t.pool.length Dw) (.slice Ef t.tab.length Ee) (.slice GY t.AZ.length GG) (.slice IV t.held.length IP)) (Ce Tryz.results25 _ O rfl Tryz.underlying54 rfl (by kernel_rfl)) rfl ?_
  refine⟨_,_,_,_,_,rfl,⟨Nat.le_refl _,fun v X k hx=>?_⟩,Tj⟩
  have hm:=HM.out
  refine⟨(oA.kp k (fun j hj=>hx j (by have:=toA j hj;omega) (by have:=toA j hj;omega))).ri (by have:=hm.q;omega),(oB.kp k (fun j hj=>hx j (by have:=BQ j hj;omega) (by have:=BQ j hj;omega))).rt (by omega),(oC.kp k (fun j h1 h2=>hx j (by omega) (by omega))).kP hm.tt,(oD.kp k (fun j hj=>hx j (by have:=Kq j hj;omega) (by have:=Kq j hj;omega))).rb (by have:=hm.d;omega),?_⟩
  exact(oE.kp k.cut (fun j h1 h2=>hx j (by omega) h2.2 h2.1)).fT hm.hh
 go_simp
 obtain⟨JS,hq⟩:∃y,Tu.alloc (.cells #[] 63)=y:=⟨_,rfl⟩
 rw[hq]
 have bb:Below Tu.heap.size Tu JS:=hq▸Ag _ _
 have Jq:Kp w0 JS (fun k=>k=w.heap.size+1):=bA.trans (Below.Bb bb _)
 obtain⟨h9,O8⟩:∃m,Tu.heap.size=m:=⟨_,rfl⟩
 have oN:OT JS h9 (.slice (some ⟨h9,0,none⟩) 0 0) []:=O8▸hq▸KQ Tu
 rw[O8]
 have h91:=Nat.le_of_eq O8
 have h92:=Nat.le_of_eq O8.symm
 clear hHeld hq O8
 refine AA.out _ _ (K.out _ Jq) (fun hHeld=>?_)
 clear AA KK bA
 have H_:=bu FK bb
 have lq:=bb.size
 replace P:=P.up bb
 replace O:=O.up bb
 clear FK bb
 have toN:=World.ownsRow.lt oN
 have h93:=(toN h9 rfl).2
 refine rd 8 rfl (fun KK AA=>?_)
 go_simp
 refine(T1.out _ (HR.out.q.below H_)).mono ?_
 rintro e WZ ⟨u,rfl,oA,bb⟩
 have Jp:Kp w0 WZ (fun k=>k=w.heap.size+1):=Jq.trans (Below.Bb bb _)
 clear hHeld
 refine AA.out _ _ (K.out _ Jp) (fun hHeld=>?_)
 clear AA KK Jq
 have FZ:=bu H_ bb
 have lh:=bb.size
 replace P:=P.up bb
 replace O:=O.up bb
 replace oN:=oN.below bb
 clear H_ bb
 have toA:=World.ownsRow.lt oA
 obtain⟨DL,DC,rfl⟩:=oA.form
 refine rd 12 rfl (fun KK AA=>?_)
 refine C_ rfl (.tmp 12) (.tmp 14) rfl h9 (.slice (some ⟨h9,0,none⟩) 0 0) (.slice bo t.pool.length cb) [] t.pool rfl rfl oN (RT.below HR.out.p FZ).pt (by simp;omega) (by omega) ?_
 intro u WY oB g7 hu
 rw[List.nil_append]at oB
 have kN:=CE g7
 have O7:∀j,(Value.slice (some ⟨h9,0,none⟩) 0 0).ownBlock=some j→j=h9:=fun j e=>by cases e;rfl
 replace P:=P.kp kN (fun e=>by have:=O7 _ e;omega)
 replace O:=O.kp kN (fun e=>by have:=O7 _ e;omega)
 replace oA:=oA.kp kN (fun j hj e=>by have:=toA j hj;have:=O7 _ e;omega)
 have Jo:Kp w0 WY (fun k=>k=w.heap.size+1):=Kp.over Jp kN (fun j e=>Or.inl (by have:=O7 _ e;omega))
 have H9:=Below.kp FZ kN FZ.size (fun j e=>by have:=O7 _ e;omega)
 have lZ:=kN.size
 clear hHeld g7 kN oN toN hu FZ
 refine AA.out _ _ (K.out _ Jo) (fun hHeld=>?_)
 clear AA KK Jp
 change wpAnyH _ _ _ _ _ _ _ (Act.put _ (some 15) _) _
 simp only[pU]
 obtain⟨Dy,Dw,rfl⟩:=OT.Bw oB
 have BQ:=World.ownsRow.lt oB
 refine rd 15 rfl (fun KK AA=>?_)
 go_simp
 refine(T3.out _ _ (HR.out.tb.below H9)).mono ?_
 rintro e Nk ⟨u,rfl,oC,bb⟩
 have Jn:Kp w0 Nk (fun k=>k=w.heap.size+1):=Jo.trans (Below.Bb bb _)
 clear hHeld
 refine AA.out _ _ (K.out _ Jn) (fun hHeld=>?_)
 clear AA KK Jo
 have H8:=bu H9 bb
 have lW:=bb.size
 replace P:=P.up bb
 replace O:=O.up bb
 replace oA:=oA.below bb
 replace oB:=oB.below bb
 clear H9 bb
 obtain⟨kM,oC⟩:=oC
 obtain⟨Ef,Ee,rfl⟩:=Kn.form ⟨kM,oC⟩
 obtain⟨m1,hm1⟩:∃m,Nk.heap.size=m:=⟨_,rfl⟩
 have oC:=Cz.uG oC
 rw[hm1]at oC
 have hm2:=Nat.le_of_eq hm1
 have qC:=Nat.le_of_eq hm1.symm
 clear hm1
 refine rd 18 rfl (fun KK AA=>?_)
 go_simp
 refine(T2.out _ (HR.out.d.below H8)).mono ?_
 rintro e Re ⟨u,rfl,oD,bb⟩
 have Jm:Kp w0 Re (fun k=>k=w.heap.size+1):=Jn.trans (Below.Bb bb _)
 clear hHeld
 refine AA.out _ _ (K.out _ Jm) (fun hHeld=>?_)
 clear AA KK Jn
 have H7:=bu H8 bb
 have lV:=bb.size
 replace P:=P.up bb
 replace O:=O.up bb
 replace oA:=oA.below bb
 replace oB:=oB.below bb
 clear H8
 replace oC:=oC.below bb
 clear bb
 have Kq:=World.ownsRow.lt oD
 obtain⟨GY,GG,rfl⟩:=oD.form
 refine rd 21 rfl (fun KK AA=>?_)
 go_simp
 refine(j5.out _ _ (HR.out.h.below H7)).mono ?_
 rintro e G6 ⟨u,rfl,oE,bb⟩
 have Jl:Kp w0 G6 (fun k=>k=w.heap.size+1):=Jm.trans (Below.Bb bb _)
 clear hHeld
 refine AA.out _ _ (K.out _ Jl) (fun hHeld=>?_)
 clear AA KK Jm
 have H6:=bu H7 bb
 have lU:=bb.size
 replace P:=P.up bb
 replace O:=O.up bb
 replace oA:=oA.below bb
 replace oB:=oB.below bb
 replace oD:=oD.below bb
 clear H7
 replace oC:=oC.below bb
 clear bb
 obtain⟨IV,IP,rfl⟩:=oE.form
 refine tx 22 25 ?_
 refine rd 23 rfl (fun KK AA=>?_)
 rw[if_pos (by rfl)]
 refine wp_store_mid 54 (.tmp 2) (.tmp 25) rfl (w.heap.size+1) 0 #[.int .i64 t.id,.int .i64 t.vw,.int .i64 t.ak,.int .i64 t.vo,.int .i64 t.lo,.int .i64 t.n,.string t.s,.slice DL t.qw.length DC,.string t.d,.slice Dy t.pool.length Dw,.slice Ef t.tab.length Ee,.slice GY t.AZ.length GG,.int .i64 t.su,.slice IV t.held.length IP] rfl rfl (O.there 0 14 (by simp)) (by kernel_rfl) (by simp[Value.oneCell']) ?_
 obtain⟨G5,hq⟩:∃y,G6.setCells (w.heap.size+1) 0 [.int .i64 t.id,.int .i64 t.vw,.int .i64 t.ak,.int .i64 t.vo,.int .i64 t.lo,.int .i64 t.n,.string t.s,.slice DL t.qw.length DC,.string t.d,.slice Dy t.pool.length Dw,.slice Ef t.tab.length Ee,.slice GY t.AZ.length GG,.int .i64 t.su,.slice IV t.held.length IP]=y:=⟨_,rfl⟩
 have kN:Kp G6 G5 (fun k=>k=w.heap.size+1):=hq▸Ab _ _ _ _
 have PU:Kp w0 G5 (fun k=>k=w.heap.size+1):=Jl.trans (kN.mono (fun k e=>e))
 replace O:Loc G5 (w.heap.size+1) #[.int .i64 t.id,.int .i64 t.vw,.int .i64 t.ak,.int .i64 t.vo,.int .i64 t.lo,.int .i64 t.n,.string t.s,.slice DL t.qw.length DC,.string t.d,.slice Dy t.pool.length Dw,.slice Ef t.tab.length Ee,.slice GY t.AZ.length GG,.int .i64 t.su,.slice IV t.held.length IP]:=hq▸O.setCells _ _ rfl
 rw[show G6.setCells (w.heap.size+1) 0 (Array.toList #[.int .i64 t.id,.int .i64 t.vw,.int .i64 t.ak,.int .i64 t.vo,.int .i64 t.lo,.int .i64 t.n,.string t.s,.slice DL t.qw.length DC,.string t.d,.slice Dy t.pool.length Dw,.slice Ef t.tab.length Ee,.slice GY t.AZ.length GG,.int .i64 t.su,.slice IV t.held.length IP])=G5 from hq]
 clear hHeld
 refine AA.out _ _ (K.out _ PU) (fun hHeld=>?_)
 clear AA KK Jl
 replace P:=P.kp kN (by omega)
 replace oA:=oA.kp kN (fun j hj e=>by have:=toA j hj;omega)
 replace oB:=oB.kp kN (fun j hj e=>by have:=BQ j hj;omega)
 replace oD:=oD.kp kN (fun j hj e=>by have:=Kq j hj;omega)
 replace oC:=oC.kp kN (fun j h1 h2 e=>by omega)
 replace oE:=oE.kp kN (fun j h1 e=>by omega)
 have Ti:=Below.kp H6 kN H6.size (fun k hk=>by omega)
 have lT:=kN.size
 clear hq kN H6 hHeld
 refine Bt ?_
 clear K PU
 go_wp2
 refine bodyPost_ret (v:=ES t (.slice DL t.qw.length DC) (.slice Dy t.pool.length Dw) (.slice Ef t.tab.length Ee) (.slice GY t.AZ.length GG) (.slice IV t.held.length IP)) (Ce Tryz.results25 _ O rfl Tryz.underlying54 rfl (by kernel_rfl)) rfl ?_
 refine⟨_,_,_,_,_,rfl,⟨Nat.le_refl _,fun v X k hx=>?_⟩,Ti⟩
 have hm:=HM.out
 refine⟨(oA.kp k (fun j hj=>hx j (by have:=toA j hj;omega) (by have:=toA j hj;omega))).ri (by have:=hm.q;omega),(oB.kp k (fun j hj=>hx j (by have:=BQ j hj;omega) (by have:=BQ j hj;omega))).rt (by omega),(oC.kp k (fun j h1 h2=>hx j (by omega) (by omega))).kP hm.tt,(oD.kp k (fun j hj=>hx j (by have:=Kq j hj;omega) (by have:=Kq j hj;omega))).rb (by have:=hm.d;omega),?_⟩
 exact(oE.kp k.cut (fun j h1 h2=>hx j (by omega) h2.2 h2.1)).fT hm.hh
theorem VK(t:Bu)(ao bo co od oe:Option Addr)(ca cb cc cd ce:Nat)(w:World)(hm:JF t)(h:Ei w t (.slice ao t.qw.length ca) (.slice bo t.pool.length cb) (.slice co t.tab.length cc) (.slice od t.AZ.length cd) (.slice oe t.held.length ce)):
 Calls Tryz.prog 25 #[ES t (.slice ao t.qw.length ca) (.slice bo t.pool.length cb) (.slice co t.tab.length cc) (.slice od t.AZ.length cd) (.slice oe t.held.length ce)] w fun e w'=>∃a' b' c' d' e',e= .returned (ES t a' b' c' d' e')∧∃lo,w.heap.size≤lo∧lo≤w'.heap.size∧EF w' w.heap.size lo { t with held:=[] } a' b' c' d' (.slice none 0 0)∧Gj w' lo e' t.held∧Below w.heap.size w w':=by
 have T1:=hide fun w' h=>Lt t.vo t.lo t.n t.s ao ca t.qw t.d w' h
 have T2:=hide fun w' h=>Ug od t.AZ.length cd t.su t.AZ w' h (by have:=hm.d;omega)
 have T3:=hide fun v w' h=>Ka v t.tab w' (by have:=hm.tb;omega) h
 have j5:=hide fun v w' h=>KZ v t.held w' hm.h h
 have HR:=hide h
 have HM:=hide hm
 have hpl:=hm.p
 clear h hm
 obtain⟨w0,hw0,AO,P,O,DN⟩:=GM w #[.int .i64 t.id,.int .i64 t.vw,.int .i64 t.ak,.int .i64 t.vo,.int .i64 t.lo,.int .i64 t.n,.string t.s,.slice ao t.qw.length ca,.string t.d,.slice bo t.pool.length cb,.slice co t.tab.length cc,.slice od t.AZ.length cd,.int .i64 t.su,.slice oe t.held.length ce] 54 #[.int .i64 0,.int .i64 0,.int .i64 0,.int .i64 0,.int .i64 0,.int .i64 0,.string ⟨#[]⟩,.slice none 0 0,.string ⟨#[]⟩,.slice none 0 0,.slice none 0 0,.slice none 0 0,.int .i64 0,.slice none 0 0] 54
 go_enter Tryz.func25,Tryz.ntmps25
 have K:Hid (∀w',Kp w0 w' (fun k=>k=w.heap.size+1)→(fun w'=>Kp w0 w' (fun k=>k=w.heap.size+1)∧Loc w' (w.heap.size) #[.int .i64 t.id,.int .i64 t.vw,.int .i64 t.ak,.int .i64 t.vo,.int .i64 t.lo,.int .i64 t.n,.string t.s,.slice ao t.qw.length ca,.string t.d,.slice bo t.pool.length cb,.slice co t.tab.length cc,.slice od t.AZ.length cd,.int .i64 t.su,.slice oe t.held.length ce]) w'):=hide fun w' hk'=>⟨hk',P.kp hk' (by omega)⟩
 go_upto_region 1 with fail
 clear hw0
 refine yE K (fun Tu bA bb hHeld=>?_)
 have FK:=bu AO bb
 have gu:=bb.size
 replace P:=P.up bb
 replace O:=O.up bb
 clear AO bb
 refine tx 0 3 ?_
 refine tx 2 5 ?_
 refine tx 4 7 ?_
 refine tx 6 9 ?_
 refine tx 10 13 ?_
 refine tx 13 16 ?_
 refine tx 16 19 ?_
 refine tx 19 22 ?_
 refine take_at (i:=1) (d:=4) (v:=?_) rfl rfl (by kernel_rfl) (by kernel_rfl) (by kernel_rfl) (fun _ _ _ h=>h) (Or.inl ⟨by rfl,?_⟩) (by assumption) ?_
 rotate_left
 ·intro w hSw
  try dsimp only at hSw
  have h:=hSw
  have hc0:=(h.2).cell 0 rfl
  clear h hSw
  go_simp
  try with_reducible rfl
 simp only[pU]
 refine take_at (i:=3) (d:=6) (v:=?_) rfl rfl (by kernel_rfl) (by kernel_rfl) (by kernel_rfl) (fun _ _ _ h=>h) (Or.inl ⟨by rfl,?_⟩) (by assumption) ?_
 rotate_left
 ·intro w hSw
  try dsimp only at hSw
  have h:=hSw
  have hc1:=(h.2).cell 1 rfl
  clear h hSw
  go_simp
  try with_reducible rfl
 simp only[pU]
 refine take_at (i:=5) (d:=8) (v:=?_) rfl rfl (by kernel_rfl) (by kernel_rfl) (by kernel_rfl) (fun _ _ _ h=>h) (Or.inl ⟨by rfl,?_⟩) (by assumption) ?_
 rotate_left
 ·intro w hSw
  try dsimp only at hSw
  have h:=hSw
  have hc2:=(h.2).cell 2 rfl
  clear h hSw
  go_simp
  try with_reducible rfl
 simp only[pU]
 refine take_at (i:=7) (d:=10) (v:= .agg #[.int .i64 t.vo,.int .i64 t.lo,.int .i64 t.n,.string t.s,.slice ao t.qw.length ca,.string t.d]) rfl rfl (by kernel_rfl) (by kernel_rfl) (by kernel_rfl) (fun _ _ _ h=>h) ?_ (by assumption) ?_
 ·exact BV rfl 48 _ rfl rfl [.int .i64 t.vo,.int .i64 t.lo,.int .i64 t.n,.string t.s,.slice ao t.qw.length ca,.string t.d] _ (fun w h=>(h.2).range 3 6 rfl) Tryz.underlying48 rfl (by kernel_rfl)
 simp only[pU]
 refine take_at (i:=11) (d:=14) (v:=?_) rfl rfl (by kernel_rfl) (by kernel_rfl) (by kernel_rfl) (fun _ _ _ h=>h) (Or.inl ⟨by rfl,?_⟩) (by assumption) ?_
 rotate_left
 ·intro w hSw
  try dsimp only at hSw
  have h:=hSw
  have hc9:=(h.2).cell 9 rfl
  clear h hSw
  go_simp
  try with_reducible rfl
 simp only[pU]
 refine take_at (i:=14) (d:=17) (v:=?_) rfl rfl (by kernel_rfl) (by kernel_rfl) (by kernel_rfl) (fun _ _ _ h=>h) (Or.inl ⟨by rfl,?_⟩) (by assumption) ?_
 rotate_left
 ·intro w hSw
  try dsimp only at hSw
  have h:=hSw
  have w_:=(h.2).cell 10 rfl
  clear h hSw
  go_simp
  try with_reducible rfl
 simp only[pU]
 refine take_at (i:=17) (d:=20) (v:= .agg #[.slice od t.AZ.length cd,.int .i64 t.su]) rfl rfl (by kernel_rfl) (by kernel_rfl) (by kernel_rfl) (fun _ _ _ h=>h) ?_ (by assumption) ?_
 ·exact BV rfl 51 _ rfl rfl [.slice od t.AZ.length cd,.int .i64 t.su] _ (fun w h=>(h.2).range 11 2 rfl) Tryz.underlying51 rfl (by kernel_rfl)
 simp only[pU]
 refine take_at (i:=20) (d:=23) (v:=?_) rfl rfl (by kernel_rfl) (by kernel_rfl) (by kernel_rfl) (fun _ _ _ h=>h) (Or.inl ⟨by rfl,?_⟩) (by assumption) ?_
 rotate_left
 ·intro w hSw
  try dsimp only at hSw
  have h:=hSw
  have sH:=(h.2).cell 13 rfl
  clear h hSw
  go_simp
  try with_reducible rfl
 simp only[pU]
 refine wpAnyH_ready (rs:=[8,9]) (by kernel_rfl) (by simp) (AllReadyH.cons rfl (fun KK AA=>?_) (AllReadyH.cons rfl (fun KK AA=>?_) AllReadyH.nil))
 ·go_simp
  refine(T1.out _ (HR.out.q.below FK)).mono ?_
  rintro e EJ ⟨u,rfl,oA,bb⟩
  have Ir:Kp w0 EJ (fun k=>k=w.heap.size+1):=bA.trans (Below.Bb bb _)
  clear hHeld
  refine AA.out _ _ (K.out _ Ir) (fun hHeld=>?_)
  clear AA KK bA
  have IC:=bu FK bb
  have gq:=bb.size
  replace P:=P.up bb
  replace O:=O.up bb
  clear FK bb
  have toA:=World.ownsRow.lt oA
  obtain⟨DL,DC,rfl⟩:=oA.form
  refine rd 9 rfl (fun KK AA=>?_)
  go_simp
  obtain⟨II,hq⟩:∃y,EJ.alloc (.cells #[] 63)=y:=⟨_,rfl⟩
  rw[hq]
  have bb:Below EJ.heap.size EJ II:=hq▸Ag _ _
  have JO:Kp w0 II (fun k=>k=w.heap.size+1):=Ir.trans (Below.Bb bb _)
  obtain⟨h9,O8⟩:∃m,EJ.heap.size=m:=⟨_,rfl⟩
  have oN:OT II h9 (.slice (some ⟨h9,0,none⟩) 0 0) []:=O8▸hq▸KQ EJ
  rw[O8]
  have h91:=Nat.le_of_eq O8
  have h92:=Nat.le_of_eq O8.symm
  clear hHeld hq O8
  refine AA.out _ _ (K.out _ JO) (fun hHeld=>?_)
  clear AA KK Ir
  have Fy:=bu IC bb
  have gZ:=bb.size
  replace P:=P.up bb
  replace O:=O.up bb
  replace oA:=oA.below bb
  clear IC bb
  have toN:=World.ownsRow.lt oN
  have h93:=(toN h9 rfl).2
  refine rd 12 rfl (fun KK AA=>?_)
  refine C_ rfl (.tmp 12) (.tmp 14) rfl h9 (.slice (some ⟨h9,0,none⟩) 0 0) (.slice bo t.pool.length cb) [] t.pool rfl rfl oN (RT.below HR.out.p Fy).pt (by simp;omega) (by omega) ?_
  intro u gG oB g7 hu
  rw[List.nil_append]at oB
  have kN:=CE g7
  have O7:∀j,(Value.slice (some ⟨h9,0,none⟩) 0 0).ownBlock=some j→j=h9:=fun j e=>by cases e;rfl
  replace P:=P.kp kN (fun e=>by have:=O7 _ e;omega)
  replace O:=O.kp kN (fun e=>by have:=O7 _ e;omega)
  replace oA:=oA.kp kN (fun j hj e=>by have:=toA j hj;have:=O7 _ e;omega)
  have PS:Kp w0 gG (fun k=>k=w.heap.size+1):=Kp.over JO kN (fun j e=>Or.inl (by have:=O7 _ e;omega))
  have J3:=Below.kp Fy kN Fy.size (fun j e=>by have:=O7 _ e;omega)
  have qz:=kN.size
  clear hHeld g7 kN oN toN hu Fy
  refine AA.out _ _ (K.out _ PS) (fun hHeld=>?_)
  clear AA KK JO
  change wpAnyH _ _ _ _ _ _ _ (Act.put _ (some 15) _) _
  simp only[pU]
  obtain⟨Dy,Dw,rfl⟩:=OT.Bw oB
  have BQ:=World.ownsRow.lt oB
  refine rd 15 rfl (fun KK AA=>?_)
  go_simp
  refine(T3.out _ _ (HR.out.tb.below J3)).mono ?_
  rintro e Tp ⟨u,rfl,oC,bb⟩
  have PR:Kp w0 Tp (fun k=>k=w.heap.size+1):=PS.trans (Below.Bb bb _)
  clear hHeld
  refine AA.out _ _ (K.out _ PR) (fun hHeld=>?_)
  clear AA KK PS
  have J2:=bu J3 bb
  have qy:=bb.size
  replace P:=P.up bb
  replace O:=O.up bb
  replace oA:=oA.below bb
  replace oB:=oB.below bb
  clear J3 bb
  obtain⟨kM,oC⟩:=oC
  obtain⟨Ef,Ee,rfl⟩:=Kn.form ⟨kM,oC⟩
  obtain⟨m1,hm1⟩:∃m,Tp.heap.size=m:=⟨_,rfl⟩
  have oC:=Cz.uG oC
  rw[hm1]at oC
  have hm2:=Nat.le_of_eq hm1
  have qC:=Nat.le_of_eq hm1.symm
  clear hm1
  refine rd 18 rfl (fun KK AA=>?_)
  go_simp
  refine(T2.out _ (HR.out.d.below J2)).mono ?_
  rintro e Y6 ⟨u,rfl,oD,bb⟩
  have Js:Kp w0 Y6 (fun k=>k=w.heap.size+1):=PR.trans (Below.Bb bb _)
  clear hHeld
  refine AA.out _ _ (K.out _ Js) (fun hHeld=>?_)
  clear AA KK PR
  have Jz:=bu J2 bb
  have qx:=bb.size
  replace P:=P.up bb
  replace O:=O.up bb
  replace oA:=oA.below bb
  replace oB:=oB.below bb
  clear J2
  replace oC:=oC.below bb
  clear bb
  have Kq:=World.ownsRow.lt oD
  obtain⟨GY,GG,rfl⟩:=oD.form
  refine rd 21 rfl (fun KK AA=>?_)
  go_simp
  refine(j5.out _ _ (HR.out.h.below Jz)).mono ?_
  rintro e G8 ⟨u,rfl,oE,bb⟩
  have Jr:Kp w0 G8 (fun k=>k=w.heap.size+1):=Js.trans (Below.Bb bb _)
  clear hHeld
  refine AA.out _ _ (K.out _ Jr) (fun hHeld=>?_)
  clear AA KK Js
  have IA:=bu Jz bb
  have l8:=bb.size
  replace P:=P.up bb
  replace O:=O.up bb
  replace oA:=oA.below bb
  replace oB:=oB.below bb
  replace oD:=oD.below bb
  clear Jz
  replace oC:=oC.below bb
  clear bb
  obtain⟨IV,IP,rfl⟩:=oE.form
  refine tx 22 25 ?_
  refine rd 23 rfl (fun KK AA=>?_)
  rw[if_pos (by rfl)]
  refine wp_store_mid 54 (.tmp 2) (.tmp 25) rfl (w.heap.size+1) 0 #[.int .i64 t.id,.int .i64 t.vw,.int .i64 t.ak,.int .i64 t.vo,.int .i64 t.lo,.int .i64 t.n,.string t.s,.slice DL t.qw.length DC,.string t.d,.slice Dy t.pool.length Dw,.slice Ef t.tab.length Ee,.slice GY t.AZ.length GG,.int .i64 t.su,.slice IV t.held.length IP] rfl rfl (O.there 0 14 (by simp)) (by kernel_rfl) (by simp[Value.oneCell']) ?_
  obtain⟨G7,hq⟩:∃y,G8.setCells (w.heap.size+1) 0 [.int .i64 t.id,.int .i64 t.vw,.int .i64 t.ak,.int .i64 t.vo,.int .i64 t.lo,.int .i64 t.n,.string t.s,.slice DL t.qw.length DC,.string t.d,.slice Dy t.pool.length Dw,.slice Ef t.tab.length Ee,.slice GY t.AZ.length GG,.int .i64 t.su,.slice IV t.held.length IP]=y:=⟨_,rfl⟩
  have kN:Kp G8 G7 (fun k=>k=w.heap.size+1):=hq▸Ab _ _ _ _
  have PV:Kp w0 G7 (fun k=>k=w.heap.size+1):=Jr.trans (kN.mono (fun k e=>e))
  replace O:Loc G7 (w.heap.size+1) #[.int .i64 t.id,.int .i64 t.vw,.int .i64 t.ak,.int .i64 t.vo,.int .i64 t.lo,.int .i64 t.n,.string t.s,.slice DL t.qw.length DC,.string t.d,.slice Dy t.pool.length Dw,.slice Ef t.tab.length Ee,.slice GY t.AZ.length GG,.int .i64 t.su,.slice IV t.held.length IP]:=hq▸O.setCells _ _ rfl
  rw[show G8.setCells (w.heap.size+1) 0 (Array.toList #[.int .i64 t.id,.int .i64 t.vw,.int .i64 t.ak,.int .i64 t.vo,.int .i64 t.lo,.int .i64 t.n,.string t.s,.slice DL t.qw.length DC,.string t.d,.slice Dy t.pool.length Dw,.slice Ef t.tab.length Ee,.slice GY t.AZ.length GG,.int .i64 t.su,.slice IV t.held.length IP])=G7 from hq]
  clear hHeld
  refine AA.out _ _ (K.out _ PV) (fun hHeld=>?_)
  clear AA KK Jr
  replace P:=P.kp kN (by omega)
  replace oA:=oA.kp kN (fun j hj e=>by have:=toA j hj;omega)
  replace oB:=oB.kp kN (fun j hj e=>by have:=BQ j hj;omega)
  replace oD:=oD.kp kN (fun j hj e=>by have:=Kq j hj;omega)
  replace oC:=oC.kp kN (fun j h1 h2 e=>by omega)
  replace oE:=oE.kp kN (fun j h1 e=>by omega)
  have Tj:=Below.kp IA kN IA.size (fun k hk=>by omega)
  have lv:=kN.size
  clear hq kN IA hHeld
  refine Bt ?_
  clear K PV
  go_wp2
  refine bodyPost_ret (v:=ES t (.slice DL t.qw.length DC) (.slice Dy t.pool.length Dw) (.slice Ef t.tab.length Ee) (.slice GY t.AZ.length GG) (.slice IV t.held.length IP)) (Ce Tryz.results25 _ O rfl Tryz.underlying54 rfl (by kernel_rfl)) rfl ?_
  have hm:=HM.out
  refine⟨_,_,_,_,_,rfl,Y6.heap.size,by omega,by omega,⟨by omega,fun v X k hx=>⟨(oA.kp k (fun j hj=>hx j (by have:=toA j hj;omega) (by have:=toA j hj;omega))).ri (by have:=hm.q;omega),(oB.kp k (fun j hj=>hx j (by have:=BQ j hj;omega) (by have:=BQ j hj;omega))).rt (by omega),(oC.kp k (fun j h1 h2=>hx j (by omega) (by omega))).kP hm.tt,(oD.kp k (fun j hj=>hx j (by have:=Kq j hj;omega) (by have:=Kq j hj;omega))).rb (by have:=hm.d;omega),Ib.nil _⟩⟩,oE,Tj⟩
 go_simp
 obtain⟨JS,hq⟩:∃y,Tu.alloc (.cells #[] 63)=y:=⟨_,rfl⟩
 rw[hq]
 have bb:Below Tu.heap.size Tu JS:=hq▸Ag _ _
 have Jq:Kp w0 JS (fun k=>k=w.heap.size+1):=bA.trans (Below.Bb bb _)
 obtain⟨h9,O8⟩:∃m,Tu.heap.size=m:=⟨_,rfl⟩
 have oN:OT JS h9 (.slice (some ⟨h9,0,none⟩) 0 0) []:=O8▸hq▸KQ Tu
 rw[O8]
 have h91:=Nat.le_of_eq O8
 have h92:=Nat.le_of_eq O8.symm
 clear hHeld hq O8
 refine AA.out _ _ (K.out _ Jq) (fun hHeld=>?_)
 clear AA KK bA
 have H_:=bu FK bb
 have lq:=bb.size
 replace P:=P.up bb
 replace O:=O.up bb
 clear FK bb
 have toN:=World.ownsRow.lt oN
 have h93:=(toN h9 rfl).2
 refine rd 8 rfl (fun KK AA=>?_)
 go_simp
 refine(T1.out _ (HR.out.q.below H_)).mono ?_
 rintro e WZ ⟨u,rfl,oA,bb⟩
 have Jp:Kp w0 WZ (fun k=>k=w.heap.size+1):=Jq.trans (Below.Bb bb _)
 clear hHeld
 refine AA.out _ _ (K.out _ Jp) (fun hHeld=>?_)
 clear AA KK Jq
 have FZ:=bu H_ bb
 have lh:=bb.size
 replace P:=P.up bb
 replace O:=O.up bb
 replace oN:=oN.below bb
 clear H_ bb
 have toA:=World.ownsRow.lt oA
 obtain⟨DL,DC,rfl⟩:=oA.form
 refine rd 12 rfl (fun KK AA=>?_)
 refine C_ rfl (.tmp 12) (.tmp 14) rfl h9 (.slice (some ⟨h9,0,none⟩) 0 0) (.slice bo t.pool.length cb) [] t.pool rfl rfl oN (RT.below HR.out.p FZ).pt (by simp;omega) (by omega) ?_
 intro u WY oB g7 hu
 rw[List.nil_append]at oB
 have kN:=CE g7
 have O7:∀j,(Value.slice (some ⟨h9,0,none⟩) 0 0).ownBlock=some j→j=h9:=fun j e=>by cases e;rfl
 replace P:=P.kp kN (fun e=>by have:=O7 _ e;omega)
 replace O:=O.kp kN (fun e=>by have:=O7 _ e;omega)
 replace oA:=oA.kp kN (fun j hj e=>by have:=toA j hj;have:=O7 _ e;omega)
 have Jo:Kp w0 WY (fun k=>k=w.heap.size+1):=Kp.over Jp kN (fun j e=>Or.inl (by have:=O7 _ e;omega))
 have H9:=Below.kp FZ kN FZ.size (fun j e=>by have:=O7 _ e;omega)
 have lZ:=kN.size
 clear hHeld g7 kN oN toN hu FZ
 refine AA.out _ _ (K.out _ Jo) (fun hHeld=>?_)
 clear AA KK Jp
 change wpAnyH _ _ _ _ _ _ _ (Act.put _ (some 15) _) _
 simp only[pU]
 obtain⟨Dy,Dw,rfl⟩:=OT.Bw oB
 have BQ:=World.ownsRow.lt oB
 refine rd 15 rfl (fun KK AA=>?_)
 go_simp
 refine(T3.out _ _ (HR.out.tb.below H9)).mono ?_
 rintro e Nk ⟨u,rfl,oC,bb⟩
 have Jn:Kp w0 Nk (fun k=>k=w.heap.size+1):=Jo.trans (Below.Bb bb _)
 clear hHeld
 refine AA.out _ _ (K.out _ Jn) (fun hHeld=>?_)
 clear AA KK Jo
 have H8:=bu H9 bb
 have lW:=bb.size
 replace P:=P.up bb
 replace O:=O.up bb
 replace oA:=oA.below bb
 replace oB:=oB.below bb
 clear H9 bb
 obtain⟨kM,oC⟩:=oC
 obtain⟨Ef,Ee,rfl⟩:=Kn.form ⟨kM,oC⟩
 obtain⟨m1,hm1⟩:∃m,Nk.heap.size=m:=⟨_,rfl⟩
 have oC:=Cz.uG oC
 rw[hm1]at oC
 have hm2:=Nat.le_of_eq hm1
 have qC:=Nat.le_of_eq hm1.symm
 clear hm1
 refine rd 18 rfl (fun KK AA=>?_)
 go_simp
 refine(T2.out _ (HR.out.d.below H8)).mono ?_
 rintro e Re ⟨u,rfl,oD,bb⟩
 have Jm:Kp w0 Re (fun k=>k=w.heap.size+1):=Jn.trans (Below.Bb bb _)
 clear hHeld
 refine AA.out _ _ (K.out _ Jm) (fun hHeld=>?_)
 clear AA KK Jn
 have H7:=bu H8 bb
 have lV:=bb.size
 replace P:=P.up bb
 replace O:=O.up bb
 replace oA:=oA.below bb
 replace oB:=oB.below bb
 clear H8
 replace oC:=oC.below bb
 clear bb
 have Kq:=World.ownsRow.lt oD
 obtain⟨GY,GG,rfl⟩:=oD.form
 refine rd 21 rfl (fun KK AA=>?_)
 go_simp
 refine(j5.out _ _ (HR.out.h.below H7)).mono ?_
 rintro e G6 ⟨u,rfl,oE,bb⟩
 have Jl:Kp w0 G6 (fun k=>k=w.heap.size+1):=Jm.trans (Below.Bb bb _)
 clear hHeld
 refine AA.out _ _ (K.out _ Jl) (fun hHeld=>?_)
 clear AA KK Jm
 have H6:=bu H7 bb
 have lU:=bb.size
 replace P:=P.up bb
 replace O:=O.up bb
 replace oA:=oA.below bb
 replace oB:=oB.below bb
 replace oD:=oD.below bb
 clear H7
 replace oC:=oC.below bb
 clear bb
 obtain⟨IV,IP,rfl⟩:=oE.form
 refine tx 22 25 ?_
 refine rd 23 rfl (fun KK AA=>?_)
 rw[if_pos (by rfl)]
 refine wp_store_mid 54 (.tmp 2) (.tmp 25) rfl (w.heap.size+1) 0 #[.int .i64 t.id,.int .i64 t.vw,.int .i64 t.ak,.int .i64 t.vo,.int .i64 t.lo,.int .i64 t.n,.string t.s,.slice DL t.qw.length DC,.string t.d,.slice Dy t.pool.length Dw,.slice Ef t.tab.length Ee,.slice GY t.AZ.length GG,.int .i64 t.su,.slice IV t.held.length IP] rfl rfl (O.there 0 14 (by simp)) (by kernel_rfl) (by simp[Value.oneCell']) ?_
 obtain⟨G5,hq⟩:∃y,G6.setCells (w.heap.size+1) 0 [.int .i64 t.id,.int .i64 t.vw,.int .i64 t.ak,.int .i64 t.vo,.int .i64 t.lo,.int .i64 t.n,.string t.s,.slice DL t.qw.length DC,.string t.d,.slice Dy t.pool.length Dw,.slice Ef t.tab.length Ee,.slice GY t.AZ.length GG,.int .i64 t.su,.slice IV t.held.length IP]=y:=⟨_,rfl⟩
 have kN:Kp G6 G5 (fun k=>k=w.heap.size+1):=hq▸Ab _ _ _ _
 have PU:Kp w0 G5 (fun k=>k=w.heap.size+1):=Jl.trans (kN.mono (fun k e=>e))
 replace O:Loc G5 (w.heap.size+1) #[.int .i64 t.id,.int .i64 t.vw,.int .i64 t.ak,.int .i64 t.vo,.int .i64 t.lo,.int .i64 t.n,.string t.s,.slice DL t.qw.length DC,.string t.d,.slice Dy t.pool.length Dw,.slice Ef t.tab.length Ee,.slice GY t.AZ.length GG,.int .i64 t.su,.slice IV t.held.length IP]:=hq▸O.setCells _ _ rfl
 rw[show G6.setCells (w.heap.size+1) 0 (Array.toList #[.int .i64 t.id,.int .i64 t.vw,.int .i64 t.ak,.int .i64 t.vo,.int .i64 t.lo,.int .i64 t.n,.string t.s,.slice DL t.qw.length DC,.string t.d,.slice Dy t.pool.length Dw,.slice Ef t.tab.length Ee,.slice GY t.AZ.length GG,.int .i64 t.su,.slice IV t.held.length IP])=G5 from hq]
 clear hHeld
 refine AA.out _ _ (K.out _ PU) (fun hHeld=>?_)
 clear AA KK Jl
 replace P:=P.kp kN (by omega)
 replace oA:=oA.kp kN (fun j hj e=>by have:=toA j hj;omega)
 replace oB:=oB.kp kN (fun j hj e=>by have:=BQ j hj;omega)
 replace oD:=oD.kp kN (fun j hj e=>by have:=Kq j hj;omega)
 replace oC:=oC.kp kN (fun j h1 h2 e=>by omega)
 replace oE:=oE.kp kN (fun j h1 e=>by omega)
 have Ti:=Below.kp H6 kN H6.size (fun k hk=>by omega)
 have lT:=kN.size
 clear hq kN H6 hHeld
 refine Bt ?_
 clear K PU
 go_wp2
 refine bodyPost_ret (v:=ES t (.slice DL t.qw.length DC) (.slice Dy t.pool.length Dw) (.slice Ef t.tab.length Ee) (.slice GY t.AZ.length GG) (.slice IV t.held.length IP)) (Ce Tryz.results25 _ O rfl Tryz.underlying54 rfl (by kernel_rfl)) rfl ?_
 have hm:=HM.out
 refine⟨_,_,_,_,_,rfl,Re.heap.size,by omega,by omega,⟨by omega,fun v X k hx=>⟨(oA.kp k (fun j hj=>hx j (by have:=toA j hj;omega) (by have:=toA j hj;omega))).ri (by have:=hm.q;omega),(oB.kp k (fun j hj=>hx j (by have:=BQ j hj;omega) (by have:=BQ j hj;omega))).rt (by omega),(oC.kp k (fun j h1 h2=>hx j (by omega) (by omega))).kP hm.tt,(oD.kp k (fun j hj=>hx j (by have:=Kq j hj;omega) (by have:=Kq j hj;omega))).rb (by have:=hm.d;omega),Ib.nil _⟩⟩,oE,Ti⟩
end
section
open Go.RowKit
variable [∀(a b c d:Int),Decidable (BD a b c d)]
variable [∀(a b c d:Nat),Decidable (Dj a b c d)]
variable [∀(last:Int)(s:St),Decidable (Au last s)]
variable [∀(x:T4),Decidable (Dr x)]
variable [∀(n:Int)(s:List Int),Decidable (Dt n s)]
variable [∀(n f:Int),Decidable (A8 n f)]
theorem Y8(x:Int)(w:World):Calls Tryz.prog 103 #[.int .i64 x,.int .i64 0,.int .i64 60] w fun e w'=>e= .returned (.bool (VS x))∧Below w.heap.size w w':=by
 by_cases h:0≤x∧x≤60
 ·have e:VS x=true:=by simp[VS,h]
  rw[e]
  refine(Cf x 0 60 w h.1 h.2).mono ?_
  rintro e w' ⟨rfl,rfl⟩
  exact⟨rfl,Below.refl _ _⟩
 have e:VS x=false:=by simp[VS];omega
 rw[e]
 refine(Di x 0 60 w (by omega)).mono ?_
 rintro e w' ⟨rfl,rfl⟩
 exact⟨rfl,Below.refl _ _⟩
theorem pz(x:Int)(w:World):Calls Tryz.prog 65 #[.int .i64 x,.int .i64 0,.int .i64 60] w fun e w'=>e= .returned (.bool (VS x))∧Below w.heap.size w w':=by
 by_cases h:0≤x∧x≤60
 ·have e:VS x=true:=by simp[VS,h]
  rw[e]
  refine(Hr x 0 60 w h.1 h.2).mono ?_
  rintro e w' ⟨rfl,rfl⟩
  exact⟨rfl,Below.refl _ _⟩
 have e:VS x=false:=by simp[VS];omega
 rw[e]
 refine(Lx x 0 60 w (by omega)).mono ?_
 rintro e w' ⟨rfl,rfl⟩
 exact⟨rfl,Below.refl _ _⟩
theorem X3(n f:Int)(vo lo v:Int)(s:ByteArray)(ao:Option Addr)(ca:Nat)(xs:List Int)(d:ByteArray)(w:World)(hs:s.size≤33554432)(hd:d.size≤33554432)(hE:Env w)(ha:RI w (.slice ao xs.length ca) xs):
 Calls Tryz.prog 104 #[cv n f,sv vo lo v s (.slice ao xs.length ca) d] w fun e w'=>e= .returned (.bool (Kz n f vo lo v s xs d))∧Below w.heap.size w w':=by
 have QO:=hide fun w'(b:Below w.heap.size w w')=>Oy n f v s ao ca xs w' hs (hE.below b) (ha.below b)
 have NO:=hide fun w'(b:Below w.heap.size w w')=>X_ d w' hd (hE.below b)
 have I1:=hide fun w'=>Y8 vo w'
 have I2:=hide fun w'=>Y8 lo w'
 unfold Kz
 generalize VS vo=b1 at *
 generalize VS lo=b2 at *
 generalize Ga n f v s xs=b3 at *
 generalize (AQ d).isSome=b4 at *
 clear ha hE
 obtain⟨w0,hw0,AO,LC,LS,DN⟩:=GM w #[.int .i64 n,.int .i64 f] 57 #[.int .i64 vo,.int .i64 lo,.int .i64 v,.string s,.slice ao xs.length ca,.string d] 48
 go_enter Tryz.func104,Tryz.ntmps104
 obtain⟨Eb,Ea,EZ,EY,EX,EW⟩:=QG LS 0 1 2 3 4 5
 go_wp2_with fail
 clear hw0
 refine(I1.out _).mono ?_
 rintro _ w1 ⟨rfl,bb⟩
 clear Eb Ea EZ EY EX EW
 have AP:=bu AO bb
 have Ct:=bb.size
 replace LC:=LC.up bb
 replace LS:=LS.up bb
 clear AO bb
 cases b1
 ·go_wp2
  go_ret
  exact⟨rfl,AP⟩
 obtain⟨Eb,Ea,EZ,EY,EX,EW⟩:=QG LS 0 1 2 3 4 5
 go_wp2_with fail
 refine(I2.out _).mono ?_
 rintro _ w2 ⟨rfl,bb⟩
 clear Eb Ea EZ EY EX EW
 have Am:=bu AP bb
 have El:=bb.size
 replace LC:=LC.up bb
 replace LS:=LS.up bb
 clear AP bb
 cases b2
 ·go_wp2
  go_ret
  exact⟨rfl,Am⟩
 obtain⟨Ae,Aj⟩:=Cr LC 0 1
 obtain⟨Eb,Ea,EZ,EY,EX,EW⟩:=QG LS 0 1 2 3 4 5
 go_wp2_with fail
 refine(QO.out _ Am).mono ?_
 rintro _ w3 ⟨rfl,bb⟩
 clear Ae Aj Eb Ea EZ EY EX EW
 have BP:=bu Am bb
 have IZ:=bb.size
 replace LC:=LC.up bb
 replace LS:=LS.up bb
 clear Am bb
 cases b3
 ·go_wp2
  go_ret
  exact⟨rfl,BP⟩
 obtain⟨Eb,Ea,EZ,EY,EX,EW⟩:=QG LS 0 1 2 3 4 5
 go_wp2_with fail
 refine(NO.out _ BP).mono ?_
 rintro _ w4 ⟨rfl,bb⟩
 clear Eb Ea EZ EY EX EW
 have Cs:=bu BP bb
 have Ph:=bb.size
 replace LC:=LC.up bb
 replace LS:=LS.up bb
 clear BP bb
 go_wp2
 go_ret
 exact⟨rfl,Cs⟩

theorem XN(n f:Int)(vo lo v:Int)(s:ByteArray)(ao:Option Addr)(ca:Nat)(xs:List Int)(d:ByteArray)(w:World)(hs:s.size≤1048576)(hd:d.size≤1048576)(ha:RI w (.slice ao xs.length ca) xs):
 Calls Tryz.prog 66 #[cv n f,sv vo lo v s (.slice ao xs.length ca) d] w fun e w'=>e= .returned (.bool (Kz n f vo lo v s xs d))∧Below w.heap.size w w':=by
 have QO:=hide fun w'(b:Below w.heap.size w w')=>Fh n f v s ao ca xs w' hs (ha.below b)
 have NO:=hide fun w'(b:Below w.heap.size w w')=>CV d w' (by omega)
 have I1:=hide fun w'=>pz vo w'
 have I2:=hide fun w'=>pz lo w'
 unfold Kz
 generalize VS vo=b1 at *
 generalize VS lo=b2 at *
 generalize Ga n f v s xs=b3 at *
 generalize (AQ d).isSome=b4 at *
 clear ha
 obtain⟨w0,hw0,AO,LC,LS,DN⟩:=GM w #[.int .i64 n,.int .i64 f] 57 #[.int .i64 vo,.int .i64 lo,.int .i64 v,.string s,.slice ao xs.length ca,.string d] 48
 go_enter Tryz.func66,Tryz.ntmps66
 obtain⟨Eb,Ea,EZ,EY,EX,EW⟩:=QG LS 0 1 2 3 4 5
 go_wp2_with fail
 clear hw0
 refine(I1.out _).mono ?_
 rintro _ w1 ⟨rfl,bb⟩
 clear Eb Ea EZ EY EX EW
 have AP:=bu AO bb
 have Ct:=bb.size
 replace LC:=LC.up bb
 replace LS:=LS.up bb
 clear AO bb
 cases b1
 ·go_wp2
  go_ret
  exact⟨rfl,AP⟩
 obtain⟨Eb,Ea,EZ,EY,EX,EW⟩:=QG LS 0 1 2 3 4 5
 go_wp2_with fail
 refine(I2.out _).mono ?_
 rintro _ w2 ⟨rfl,bb⟩
 clear Eb Ea EZ EY EX EW
 have Am:=bu AP bb
 have El:=bb.size
 replace LC:=LC.up bb
 replace LS:=LS.up bb
 clear AP bb
 cases b2
 ·go_wp2
  go_ret
  exact⟨rfl,Am⟩
 obtain⟨Ae,Aj⟩:=Cr LC 0 1
 obtain⟨Eb,Ea,EZ,EY,EX,EW⟩:=QG LS 0 1 2 3 4 5
 go_wp2_with fail
 refine(QO.out _ Am).mono ?_
 rintro _ w3 ⟨rfl,bb⟩
 clear Ae Aj Eb Ea EZ EY EX EW
 have BP:=bu Am bb
 have IZ:=bb.size
 replace LC:=LC.up bb
 replace LS:=LS.up bb
 clear Am bb
 cases b3
 ·go_wp2
  go_ret
  exact⟨rfl,BP⟩
 obtain⟨Eb,Ea,EZ,EY,EX,EW⟩:=QG LS 0 1 2 3 4 5
 go_wp2_with fail
 refine(NO.out _ BP).mono ?_
 rintro _ w4 ⟨rfl,bb⟩
 clear Eb Ea EZ EY EX EW
 have Cs:=bu BP bb
 have Ph:=bb.size
 replace LC:=LC.up bb
 replace LS:=LS.up bb
 clear BP bb
 go_wp2
 go_ret
 exact⟨rfl,Cs⟩
end
section
open Go.RowKit
def F7(a b:Pt):Bool:=decide (a.1<b.1)||(decide (a.1=b.1)&&Op.bytesLess a.2.1.toList b.2.1.toList)
def rowP:List Pt→Bool
 | []=>true
 | [_]=>true
 |a :: b :: t=>F7 a b&&rowP (b :: t)

theorem VH(x:List UInt8):Op.bytesLess x x=false:=by
 induction x with
 |nil=>rfl
 |cons a x ih=>simp[Op.bytesLess,ih]
theorem Xr{x y:List UInt8}(h:Op.bytesLess x y=false)(hn:x≠y):Op.bytesLess y x=true:=by
 induction x generalizing y with
 |nil=>
  cases y with
  |nil=>exact absurd rfl hn
  |cons b y=>simp[Op.bytesLess]at h
 | cons a x ih=>
  cases y with
  |nil=>rfl
  | cons b y=>
   simp only[Op.bytesLess,Bool.or_eq_false_iff,decide_eq_false_iff_not,Bool.and_eq_false_imp,beq_iff_eq]at h
   simp only[Op.bytesLess,Bool.or_eq_true,decide_eq_true_eq,Bool.and_eq_true,beq_iff_eq]
   by_cases e:a=b
   ·subst e
    exact .inr ⟨rfl,ih (h.2 rfl) (fun e=>hn (by rw[e]))⟩
   left
   have h1:=h.1
   rw[UInt8.lt_iff_toNat_lt]at h1⊢
   have:a.toNat≠b.toNat:=fun e'=>e (UInt8.toNat_inj.1 e')
   omega
end
section
open Go.RowKit
variable [∀(n:Int)(s:List Int),Decidable (Dt n s)]
def QE(s t:ByteArray):Int:=if Op.bytesLess s.toList t.toList=true then -1 else if Op.bytesLess t.toList s.toList=true then 1 else 0
def Vz(a b:Pt):Int:=if Ex a.1 b.1≠0 then Ex a.1 b.1 else QE a.2.1 b.2.1
theorem ng(s t:ByteArray):QE s t<0↔Op.bytesLess s.toList t.toList=true:=by
 unfold QE
 split
 ·simp_all
 split<;>simp_all
theorem ni(a b:Pt):Vz a b<0↔F7 a b=true:=by
 have hs:=ng a.2.1 b.2.1
 unfold Vz Ex
 simp only[F7,Bool.or_eq_true,decide_eq_true_eq,Bool.and_eq_true]
 rcases Int.lt_trichotomy a.1 b.1 with h|h|h
 ·simp[h]
 ·simp[h,hs]
 have h1:¬a.1<b.1:=by omega
 have h2:¬a.1=b.1:=by omega
 simp[h,h1,h2]
end
end Go.Proofs.YtkmnfeihjjccmaaGreatDoor
