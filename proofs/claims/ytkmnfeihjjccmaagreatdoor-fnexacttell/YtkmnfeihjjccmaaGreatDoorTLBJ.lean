/- Lemmas; their conditions stand in each statement. -/
import Derived.Test.YtkmnfeihjjccmaaGreatDoorTLBI
set_option maxRecDepth 100000
set_option maxHeartbeats 16000000
set_option linter.unusedSectionVars false
set_option linter.unusedSimpArgs false
namespace Go.Proofs.YtkmnfeihjjccmaaGreatDoor
section
open Go Go.RowKit
variable [∀(a b c d:Int),Decidable (BD a b c d)]
variable [∀(n f:Int),Decidable (A8 n f)]
variable [∀(a b c d:Nat),Decidable (Dj a b c d)]
variable [∀(x:T4),Decidable (Dr x)]
variable [∀(last:Int)(s:St),Decidable (Au last s)]
variable [∀(n:Int)(s:List Int),Decidable (Dt n s)]
variable [∀(x y:T4),Decidable (Gm x y)]
variable [∀(ts:List T4),Decidable (Asc ts)]
variable [∀(ts:List T4),Decidable (DU ts)]
variable [∀(ts:List T4),Decidable (JP ts)]
def UI(n f:Int)(t:Bu)(td:Int)(m:MT):Bool:=Eg n f t&&Eu n f (A_ t [(td,m)])
def JJ(n f:Int)(t:Bu)(td:Int)(m:MT):Bu:=if UI n f t td m=true then A_ t [(td,m)]else t
theorem ui(n f:Int)(t:Bu)(td:Int)(m:MT)(g0 g1 g2 g3:Nat)(ao bo co od oe am bm cm:Option Addr)(ca cb cc cd ce km lm nm:Nat)(w:World)(hl:t.held.length+1≤1048577)(hh:∀j,j<(A_ t [(td,m)]).held.length→MH ((A_ t [(td,m)]).held.getD j AL).2∧MI ((A_ t [(td,m)]).held.getD j AL).2)(DT:IntKind.i64.wrap (n-1)=n-1)(hE:Env w)(h:Ei w t (.slice ao t.qw.length ca) (.slice bo t.pool.length cb) (.slice co t.tab.length cc) (.slice od t.AZ.length cd) (.slice oe t.held.length ce))(YN:RI w (.slice am m.bw.length km) m.bw)(hmb:RI w (.slice bm m.pw.length lm) m.pw)(hmc:RI w (.slice cm m.qw.length nm) m.qw)
 (L0:Loc w g0 #[.int .i64 t.id,.int .i64 t.vw,.int .i64 t.ak,.int .i64 t.vo,.int .i64 t.lo,.int .i64 t.n,.string t.s,.slice ao t.qw.length ca,.string t.d,.slice bo t.pool.length cb,.slice co t.tab.length cc,.slice od t.AZ.length cd,.int .i64 t.su,.slice oe t.held.length ce]) (L1:Loc w g1 #[.int .i64 n,.int .i64 f]) (L2:Loc w g2 #[.int .i64 td]) (L3:Loc w g3 #[.int .i64 m.k,.int .i64 m.vw,.string m.bn,.int .i64 m.bv,.string m.bs,.slice am m.bw.length km,.int .i64 m.pv,.string m.ps,.slice bm m.pw.length lm,.int .i64 m.qv,.string m.qs,.slice cm m.qw.length nm,.int .i64 m.wh,.int .i64 m.fr,.int .i64 m.tu,.int .i64 m.am,.int .i64 m.no]):
 Calls Tryz.prog 37 #[.pointer (some ⟨g0,0,none⟩),.pointer (some ⟨g1,0,none⟩),.pointer (some ⟨g2,0,none⟩),.pointer (some ⟨g3,0,none⟩)] w fun r w'=>∃(a2:Option Addr)(k2:Nat)(b2:Option Addr)(l2:Nat)(c2:Option Addr)(n2:Nat)(d2:Option Addr)(p2:Nat)(e2:Option Addr)(q2:Nat),r= .returned (.tuple #[ES (A_ t [(td,m)]) (.slice a2 (A_ t [(td,m)]).qw.length k2) (.slice b2 (A_ t [(td,m)]).pool.length l2) (.slice c2 (A_ t [(td,m)]).tab.length n2) (.slice d2 (A_ t [(td,m)]).AZ.length p2) (.slice e2 (A_ t [(td,m)]).held.length q2),.bool (Eu n f (A_ t [(td,m)]))])∧Ei w' (A_ t [(td,m)]) (.slice a2 (A_ t [(td,m)]).qw.length k2) (.slice b2 (A_ t [(td,m)]).pool.length l2) (.slice c2 (A_ t [(td,m)]).tab.length n2) (.slice d2 (A_ t [(td,m)]).AZ.length p2) (.slice e2 (A_ t [(td,m)]).held.length q2)∧Below w.heap.size w w':=by
 have PT:=hide fun aq kq w he h hv=>Um n f t [(td,m)] ao bo co od oe ca cb cc cd ce aq kq w (by simp) (by simpa using hl) hh DT he h hv
 have HR:=hide h
 have HE:=hide hE
 have HX:=hide YN
 have HY:=hide hmb
 have HZ:=hide hmc
 clear h hE hl hh DT YN hmb hmc
 generalize Eu n f (A_ t [(td,m)])=b0 at *
 have hl0:=L0.lt
 have hl1:=L1.lt
 have hl2:=L2.lt
 have hl3:=L3.lt
 obtain⟨w0,hw0,AO,O,DN⟩:=bx1 w #[.int .i64 0,.int .i64 0,.int .i64 0,.int .i64 0,.int .i64 0,.int .i64 0,.string ⟨#[]⟩,.slice none 0 0,.string ⟨#[]⟩,.slice none 0 0,.slice none 0 0,.slice none 0 0,.int .i64 0,.slice none 0 0] 54
 go_enter Tryz.func37,Tryz.ntmps37
 replace L0:=L0.up AO
 replace L1:=L1.up AO
 replace L2:=L2.up AO
 replace L3:=L3.up AO
 obtain⟨ABb,ABa⟩:=Cr L1 0 1
 have ABZ:=L2.cell 0 rfl
 obtain⟨wb,hwb⟩:∃y,w0.alloc (.cells #[.int .i64 td,.int .i64 m.k,.int .i64 m.vw,.string m.bn,.int .i64 m.bv,.string m.bs,.slice am m.bw.length km,.int .i64 m.pv,.string m.ps,.slice bm m.pw.length lm,.int .i64 m.qv,.string m.qs,.slice cm m.qw.length nm,.int .i64 m.wh,.int .i64 m.fr,.int .i64 m.tu,.int .i64 m.am,.int .i64 m.no] 94)=y:=⟨_,rfl⟩
 have bb:Below w0.heap.size w0 wb:=hwb▸Ag _ _
 have LB:Loc wb w0.heap.size #[.int .i64 td,.int .i64 m.k,.int .i64 m.vw,.string m.bn,.int .i64 m.bv,.string m.bs,.slice am m.bw.length km,.int .i64 m.pv,.string m.ps,.slice bm m.pw.length lm,.int .i64 m.qv,.string m.qs,.slice cm m.qw.length nm,.int .i64 m.wh,.int .i64 m.fr,.int .i64 m.tu,.int .i64 m.am,.int .i64 m.no]:=hwb▸AB w0 _ _ rfl
 go_wp2_with (first|(refine Ap L0 54 _ rfl _ rfl rfl Tryz.underlying54 rfl (by kernel_rfl) ?_)|(refine Ap L3 65 _ rfl _ rfl rfl Tryz.underlying65 rfl (by kernel_rfl) ?_))
 clear hw0 ABb ABa ABZ
 have ou:=bu AO bb
 have swb:=bb.size
 replace O:=O.up bb
 replace L0:=L0.up bb
 replace L1:=L1.up bb
 replace L2:=L2.up bb
 replace L3:=L3.up bb
 clear AO bb hwb
 have RV:Te w wb (.slice (some ⟨w0.heap.size,0,none⟩) [(td,m)].length 1) [(td,m)]:=⟨_,_,rfl,.inr ⟨_,0,rfl,fun k hk=>by obtain rfl:k=0:=Nat.lt_one_iff.1 hk;exact⟨_,rfl,LB.range 0 18 rfl,_,_,_,rfl,HX.out,HY.out,HZ.out⟩⟩⟩
 refine(PT.out _ _ _ (HE.out.below ou) w ou HR.out RV).mono ?_
 rintro _ w1 ⟨ZN,fV,rfl,rows,oG,hR,bb⟩
 clear LB RV
 have AP:=bu ou bb
 have Ct:=bb.size
 replace O:=O.up bb
 replace L0:=L0.up bb
 replace L1:=L1.up bb
 replace L2:=L2.up bb
 replace L3:=L3.up bb
 clear ou bb
 have xg:=hide hR
 clear hR
 have uh:=OG.lt oG
 go_wp2_with (first|(refine BH O 54 #[.int .i64 t.id,.int .i64 t.vw,.int .i64 t.ak,.int .i64 t.vo,.int .i64 t.lo,.int .i64 t.n,.string t.s,.slice ao t.qw.length ca,.string t.d,.slice bo t.pool.length cb,.slice co t.tab.length cc,.slice od t.AZ.length cd,.int .i64 t.su,.slice ZN (A_ t [(td,m)]).held.length fV] rfl _ _ rfl rfl rfl (by kernel_rfl) rfl (by simp[Value.oneCell']) ?_))
 obtain⟨wE,Bd⟩:∃Cj,w1.setRow (w.heap.size) #[.int .i64 t.id,.int .i64 t.vw,.int .i64 t.ak,.int .i64 t.vo,.int .i64 t.lo,.int .i64 t.n,.string t.s,.slice ao t.qw.length ca,.string t.d,.slice bo t.pool.length cb,.slice co t.tab.length cc,.slice od t.AZ.length cd,.int .i64 t.su,.slice ZN (A_ t [(td,m)]).held.length fV]=Cj:=⟨_,rfl⟩
 have kN:Kp w1 wE (fun k=>k=w.heap.size):=Bd▸Bz _ _ _
 replace O:Loc wE (w.heap.size) #[.int .i64 t.id,.int .i64 t.vw,.int .i64 t.ak,.int .i64 t.vo,.int .i64 t.lo,.int .i64 t.n,.string t.s,.slice ao t.qw.length ca,.string t.d,.slice bo t.pool.length cb,.slice co t.tab.length cc,.slice od t.AZ.length cd,.int .i64 t.su,.slice ZN (A_ t [(td,m)]).held.length fV]:=Bd▸O.row
 replace L0:=L0.kp kN (by omega)
 replace L1:=L1.kp kN (by omega)
 replace L2:=L2.kp kN (by omega)
 replace L3:=L3.kp kN (by omega)
 replace oG:=oG.kp kN (fun j hj e=>by have:=uh j hj;omega)
 have FL:=Below.kp AP kN AP.size (fun k hk=>by omega)
 have Pg:=kN.size
 rw[Bd]
 clear Bd kN AP
 refine bodyPost_ret (v:= .tuple #[ES (A_ t [(td,m)]) (.slice ao t.qw.length ca) (.slice bo t.pool.length cb) (.slice co t.tab.length cc) (.slice od t.AZ.length cd) (.slice ZN (A_ t [(td,m)]).held.length fV),.bool b0]) (Co Tryz.results37 _ O rfl Tryz.underlying54 rfl (by kernel_rfl)) rfl ?_
 have h5:=HR.out.below FL
 exact⟨_,_,_,_,_,_,_,_,_,_,rfl,⟨h5.q,h5.p,h5.tb,h5.d,OG.fT oG (Ec.below xg.out FL (Nat.le_refl _))⟩,FL⟩
theorem jG(n f:Int)(t:Bu)(td:Int)(m:MT)(ao bo co od oe am bm cm:Option Addr)(ca cb cc cd ce km lm nm:Nat)(w:World)(hm:JF t)(hs:uK t)(hz:RZ t)(hm2:JF (A_ t [(td,m)]))(hz2:RZ (A_ t [(td,m)]))(hl:t.held.length+1≤1048577)(hh:∀j,j<(A_ t [(td,m)]).held.length→MH ((A_ t [(td,m)]).held.getD j AL).2∧MI ((A_ t [(td,m)]).held.getD j AL).2)(DT:Eg n f t=true→IntKind.i64.wrap (n-1)=n-1)(hE:Env w)(h:Ei w t (.slice ao t.qw.length ca) (.slice bo t.pool.length cb) (.slice co t.tab.length cc) (.slice od t.AZ.length cd) (.slice oe t.held.length ce))(YN:RI w (.slice am m.bw.length km) m.bw)(hmb:RI w (.slice bm m.pw.length lm) m.pw)(hmc:RI w (.slice cm m.qw.length nm) m.qw):
 Calls Tryz.prog 10 #[cv n f,ES t (.slice ao t.qw.length ca) (.slice bo t.pool.length cb) (.slice co t.tab.length cc) (.slice od t.AZ.length cd) (.slice oe t.held.length ce),.int .i64 td,Dp m (.slice am m.bw.length km) (.slice bm m.pw.length lm) (.slice cm m.qw.length nm)] w fun r w'=>∃a b c d e,r= .returned (.tuple #[ES (JJ n f t td m) a b c d e,.bool (UI n f t td m)])∧Dh w' w.heap.size w'.heap.size (JJ n f t td m) a b c d e∧Below w.heap.size w w':=by
 have HR:=hide h
 have HE:=hide hE
 have HX:=hide YN
 have HY:=hide hmb
 have HZ:=hide hmc
 have TN:=hide fun(gc ga gi gm:Nat)(w':World)(b':Below w.heap.size w w')(L1:Loc w' gc #[.int .i64 n,.int .i64 f])(L0:Loc w' ga #[.int .i64 t.id,.int .i64 t.vw,.int .i64 t.ak,.int .i64 t.vo,.int .i64 t.lo,.int .i64 t.n,.string t.s,.slice ao t.qw.length ca,.string t.d,.slice bo t.pool.length cb,.slice co t.tab.length cc,.slice od t.AZ.length cd,.int .i64 t.su,.slice oe t.held.length ce])(L2:Loc w' gi #[.int .i64 td])(L3:Loc w' gm #[.int .i64 m.k,.int .i64 m.vw,.string m.bn,.int .i64 m.bv,.string m.bs,.slice am m.bw.length km,.int .i64 m.pv,.string m.ps,.slice bm m.pw.length lm,.int .i64 m.qv,.string m.qs,.slice cm m.qw.length nm,.int .i64 m.wh,.int .i64 m.fr,.int .i64 m.tu,.int .i64 m.am,.int .i64 m.no])=>gQ n f t (A_ t [(td,m)]) (Eu n f (A_ t [(td,m)])) ga gc gi gm ao bo co od oe ca cb cc cd ce w' hm hs hz hm2 hz2 (hE.below b') (h.below b') (fun hb w2 b2=>ui n f t td m ga gc gi gm ao bo co od oe am bm cm ca cb cc cd ce km lm nm w2 hl hh (DT hb) ((hE.below b').below b2) ((h.below b').below b2) ((YN.below b').below b2) ((hmb.below b').below b2) ((hmc.below b').below b2) (L0.up b2) (L1.up b2) (L2.up b2) (L3.up b2))
 clear h hE YN hmb hmc hm hs hz hm2 hz2 hl hh DT
 change Calls _ _ _ _ (fun r w'=>∃a b c d e,r= .returned (.tuple #[ES (if(Eg n f t&&Eu n f (A_ t [(td,m)]))=true then A_ t [(td,m)]else t) a b c d e,.bool (Eg n f t&&Eu n f (A_ t [(td,m)]))])∧Dh w' w.heap.size w'.heap.size (if(Eg n f t&&Eu n f (A_ t [(td,m)]))=true then A_ t [(td,m)]else t) a b c d e∧Below w.heap.size w w')
 generalize (if(Eg n f t&&Eu n f (A_ t [(td,m)]))=true then A_ t [(td,m)]else t)=u at *
 generalize (Eg n f t&&Eu n f (A_ t [(td,m)]))=b0 at *
 obtain⟨w0,hw0⟩:∃w0,(((((w.alloc (.cells #[.int .i64 n,.int .i64 f] 57)).alloc (.cells #[.int .i64 t.id,.int .i64 t.vw,.int .i64 t.ak,.int .i64 t.vo,.int .i64 t.lo,.int .i64 t.n,.string t.s,.slice ao t.qw.length ca,.string t.d,.slice bo t.pool.length cb,.slice co t.tab.length cc,.slice od t.AZ.length cd,.int .i64 t.su,.slice oe t.held.length ce] 54)).alloc (.cells #[.int .i64 td] 3)).alloc (.cells #[.int .i64 m.k,.int .i64 m.vw,.string m.bn,.int .i64 m.bv,.string m.bs,.slice am m.bw.length km,.int .i64 m.pv,.string m.ps,.slice bm m.pw.length lm,.int .i64 m.qv,.string m.qs,.slice cm m.qw.length nm,.int .i64 m.wh,.int .i64 m.fr,.int .i64 m.tu,.int .i64 m.am,.int .i64 m.no] 65)).alloc (.cells #[.int .i64 0,.int .i64 0,.int .i64 0,.int .i64 0,.int .i64 0,.int .i64 0,.string ⟨#[]⟩,.slice none 0 0,.string ⟨#[]⟩,.slice none 0 0,.slice none 0 0,.slice none 0 0,.int .i64 0,.slice none 0 0] 54))=w0:=⟨_,rfl⟩
 have AO:Below w.heap.size w w0:=hw0▸(((((Below.refl _ _).alloc (Nat.le_refl _) _).alloc (by simp) _).alloc (by simp;omega) _).alloc (by simp;omega) _).alloc (by simp;omega) _
 have LC:Loc w0 (w.heap.size) #[.int .i64 n,.int .i64 f]:=hw0▸((((AB (w) _ _ rfl).alloc _).alloc _).alloc _).alloc _
 have A:Loc w0 (w.heap.size+1) #[.int .i64 t.id,.int .i64 t.vw,.int .i64 t.ak,.int .i64 t.vo,.int .i64 t.lo,.int .i64 t.n,.string t.s,.slice ao t.qw.length ca,.string t.d,.slice bo t.pool.length cb,.slice co t.tab.length cc,.slice od t.AZ.length cd,.int .i64 t.su,.slice oe t.held.length ce]:=hw0▸(((AB (w.alloc _) _ _ (by simp)).alloc _).alloc _).alloc _
 have I:Loc w0 (w.heap.size+1+1) #[.int .i64 td]:=hw0▸((AB ((w.alloc _).alloc _) _ _ (by simp)).alloc _).alloc _
 have MM:Loc w0 (w.heap.size+1+1+1) #[.int .i64 m.k,.int .i64 m.vw,.string m.bn,.int .i64 m.bv,.string m.bs,.slice am m.bw.length km,.int .i64 m.pv,.string m.ps,.slice bm m.pw.length lm,.int .i64 m.qv,.string m.qs,.slice cm m.qw.length nm,.int .i64 m.wh,.int .i64 m.fr,.int .i64 m.tu,.int .i64 m.am,.int .i64 m.no]:=hw0▸(AB (((w.alloc _).alloc _).alloc _) _ _ (by simp)).alloc _
 have O:Loc w0 (w.heap.size+1+1+1+1) #[.int .i64 0,.int .i64 0,.int .i64 0,.int .i64 0,.int .i64 0,.int .i64 0,.string ⟨#[]⟩,.slice none 0 0,.string ⟨#[]⟩,.slice none 0 0,.slice none 0 0,.slice none 0 0,.int .i64 0,.slice none 0 0]:=hw0▸AB ((((w.alloc _).alloc _).alloc _).alloc _) _ _ (by simp)
 have DN:w.heap.size+1+1+1+1+1≤w0.heap.size:=by rw[←hw0];simp
 go_enter Tryz.func10,Tryz.ntmps10
 obtain⟨Ae,Aj⟩:=Cr LC 0 1
 go_wp2_with (first|(refine Ap A 54 _ rfl _ rfl rfl Tryz.underlying54 rfl (by kernel_rfl) ?_))
 clear hw0
 refine(TN.out _ _ _ _ _ AO LC A I MM).mono ?_
 rintro _ w1 ⟨a1,b1,c1,d1,e1,rfl,oR,bb⟩
 clear Ae Aj
 have AP:=bu AO bb
 have Ct:=bb.size
 replace LC:=LC.up bb
 replace A:=A.up bb
 replace I:=I.up bb
 replace MM:=MM.up bb
 replace O:=O.up bb
 clear AO bb
 obtain⟨aR,kR,bR,lR,cR,nR,dR,pR,eR,qR,rfl,rfl,rfl,rfl,rfl⟩:=oR.form
 go_wp2_with (first|(refine BH O 54 #[.int .i64 u.id,.int .i64 u.vw,.int .i64 u.ak,.int .i64 u.vo,.int .i64 u.lo,.int .i64 u.n,.string u.s,.slice aR u.qw.length kR,.string u.d,.slice bR u.pool.length lR,.slice cR u.tab.length nR,.slice dR u.AZ.length pR,.int .i64 u.su,.slice eR u.held.length qR] rfl _ _ rfl rfl rfl (by kernel_rfl) rfl (by simp[Value.oneCell']) ?_))
 obtain⟨wE,Bd⟩:∃Cj,w1.setRow (w.heap.size+1+1+1+1) #[.int .i64 u.id,.int .i64 u.vw,.int .i64 u.ak,.int .i64 u.vo,.int .i64 u.lo,.int .i64 u.n,.string u.s,.slice aR u.qw.length kR,.string u.d,.slice bR u.pool.length lR,.slice cR u.tab.length nR,.slice dR u.AZ.length pR,.int .i64 u.su,.slice eR u.held.length qR]=Cj:=⟨_,rfl⟩
 have kN:Kp w1 wE (fun k=>k=w.heap.size+1+1+1+1):=Bd▸Bz _ _ _
 replace O:Loc wE (w.heap.size+1+1+1+1) #[.int .i64 u.id,.int .i64 u.vw,.int .i64 u.ak,.int .i64 u.vo,.int .i64 u.lo,.int .i64 u.n,.string u.s,.slice aR u.qw.length kR,.string u.d,.slice bR u.pool.length lR,.slice cR u.tab.length nR,.slice dR u.AZ.length pR,.int .i64 u.su,.slice eR u.held.length qR]:=Bd▸O.row
 replace LC:=LC.kp kN (by omega)
 replace A:=A.kp kN (by omega)
 replace I:=I.kp kN (by omega)
 replace MM:=MM.kp kN (by omega)
 replace oR:=oR.kp kN (fun j h1 h2 e=>by omega)
 have FL:=Below.kp AP kN AP.size (fun k hk=>by omega)
 have Pg:=kN.size
 rw[Bd]
 clear Bd kN AP
 refine bodyPost_ret (v:= .tuple #[ES u (.slice aR u.qw.length kR) (.slice bR u.pool.length lR) (.slice cR u.tab.length nR) (.slice dR u.AZ.length pR) (.slice eR u.held.length qR),.bool b0]) (Co Tryz.results10 _ O rfl Tryz.underlying54 rfl (by kernel_rfl)) rfl ?_
 exact⟨_,_,_,_,_,rfl,oR.mono (by omega) (by omega) (Nat.le_refl _),FL⟩
theorem Ww{n f:Int}{t:Bu}{td:Int}{m:MT}(hb:Eg n f t=true):Eu n f (A_ t [(td,m)])=Xw n f t td m:=by
 have hh:Ev n f t.id t.held=true:=by
  unfold Eg at hb
  simp only[Bool.and_eq_true]at hb
  exact hb.2.2.2.2.2.2.2.2.2
 have e1:(A_ t [(td,m)]).held=t.held++[(td,m)]:=rfl
 have e2:(A_ t [(td,m)]).id=t.id:=rfl
 have e3:Ev n f t.id (t.held++[(td,m)])=MQ n f t.id (td,m):=by
  unfold Ev at hh⊢
  rw[List.all_append,hh]
  simp
 have e4:decide ((t.held++[(td,m)]).length≤30)=!(decide ((30:Int)≤(t.held.length:Int))):=by
  rw[List.length_append]
  by_cases h:t.held.length+1≤30
  ·rw[decide_eq_true (by simpa using h),decide_eq_false (by omega)];rfl
  rw[decide_eq_false (by simpa using h),decide_eq_true (by omega)];rfl
 unfold Eu Xw
 rw[e1,e2,e3,e4]
 rfl
theorem QQ(n f:Int)(t:Bu)(td:Int)(m:MT):UI n f t td m=vz n f t td m:=by
 unfold UI vz
 cases hb:Eg n f t with
 |false=>rfl
 |true=>rw[Ww hb]
theorem Wx(n f:Int)(t:Bu)(td:Int)(m:MT):JJ n f t td m=vg n f t td m:=by
 unfold JJ vg MX
 rw[QQ]
 unfold vz
 cases hb:Eg n f t with
 |false=>rfl
 |true=>simp only[Bool.true_and,if_true]
end
end Go.Proofs.YtkmnfeihjjccmaaGreatDoor
