/- RepTellS: spec.l16Tell -/
import Derived.Test.YtkmnfeihjjccmaaGreatDoorTLBG
set_option linter.unusedSectionVars false
set_option linter.unusedSimpArgs false
namespace Go.Proofs.YtkmnfeihjjccmaaGreatDoor
section
open Go Go.RowKit
variable [∀(a b c d:Int),Decidable (BD a b c d)]
variable [∀(n f:Int),Decidable (A8 n f)]
variable [∀(a b c d:Nat),Decidable (Dj a b c d)]
variable [∀(x:T4),Decidable (Dr x)]
variable [∀(last:Int)(s:St),Decidable (Au last s)]
variable [∀(n:Int)(s:List Int),Decidable (Dt n s)]
variable [∀(x y:T4),Decidable (Gm x y)]
variable [∀(ts:List T4),Decidable (Asc ts)]
variable [∀(ts:List T4),Decidable (DU ts)]
variable [∀(ts:List T4),Decidable (JP ts)]
def Iw(w:World)(G:Nat→Prop)(v:Value)(ps:List Bf):Prop:=∀(w':World)(X:Nat→Prop),Kp w w' X→(∀j,G j→¬X j)→Ib w' v ps
theorem Iw.kp{w w':World}{G X:Nat→Prop}{v:Value}{ps:List Bf}(h:Iw w G v ps)(k:Kp w w' X)(hx:∀j,G j→¬X j):Iw w' G v ps:=
 fun w'' Y k' hy=>h w'' (fun j=>X j∨Y j) ((k.mono (fun _=>Or.inl)).trans (k'.mono (fun _=>Or.inr))) (fun j h1 e=>e.elim (hx j h1) (hy j h1))
theorem Iw.below{w w':World}{G:Nat→Prop}{v:Value}{ps:List Bf}(h:Iw w G v ps)(b:Below w.heap.size w w'):Iw w' G v ps:=h.kp (Below.Bb b (fun _=>False)) (fun _ _ h=>h)
theorem Zn{w V V2:World}{lo W1:Nat}{ps:List Bf}{p:Bf}{e v4 a b' c:Value}{RW:List (List Value)}(gR:OG 94 18 w lo e RW)(lR:RW.length=ps.length)(xR:Lh w lo ps RW e.ownBlock ps.length)(b:Below w.heap.size w V)(hW:w.heap.size≤W1)(hV:W1≤V.heap.size)
 (m2:OM V W1 a b' c p.2.bw p.2.pw p.2.qw) (ho:OG 94 18 V2 lo v4 (RW++[FW p.1 p.2 a b' c])) (kN:Kp V V2 (fun k=>e.ownBlock=some k)) (hu:v4.ownBlock=e.ownBlock∨v4.ownBlock=some V.heap.size)
 (hs:∀j,j<(ps++[p]).length→((ps++[p]).getD j AL).2.bw.length≤4194304∧((ps++[p]).getD j AL).2.pw.length≤4194304∧((ps++[p]).getD j AL).2.qw.length≤4194304):
 Iw V2 (fun j=>lo≤j∧j<w.heap.size∨W1≤j) v4 (ps++[p]):=by
 intro w' X k hx
 have og:=ho.kp k (fun j e1=>hx j (by
  rcases hu with hu|hu
  ·rw[hu]at e1;exact Or.inl (gR.lt j e1)
  rw[hu]at e1;cases e1;exact Or.inr hV))
 refine og.fT ⟨by simp[lR],fun j hj=>?_⟩
 have hsj:=hs j hj
 rw[List.length_append]at hj
 by_cases h:j<ps.length
 ·obtain⟨a1,b1,c1,e1,o1,x1⟩:=xR j h
  have lt:=o1.lt
  have o3:=((o1.below b).kp kN (fun i _ _ h3=>x1 i h3)).kp k (fun i h1 _ h3=>hx i (Or.inl ⟨h1,by rcases h3 with h3|h3|h3;exact(lt.1 i h3).2;exact(lt.2.1 i h3).2;exact(lt.2.2 i h3).2⟩))
  have ep:(ps++[p]).getD j AL=ps.getD j AL:=by rw[List.getD_eq_getElem?_getD,List.getElem?_append_left h,←List.getD_eq_getElem?_getD]
  unfold Mg
  rw[ep]at hsj⊢
  obtain⟨r1,r2,r3⟩:=o3.Fz hsj
  exact⟨a1,b1,c1,by rw[List.getD_eq_getElem?_getD,List.getElem?_append_left (by omega),←List.getD_eq_getElem?_getD];exact e1,r1,r2,r3⟩
 obtain rfl:j=ps.length:=by simp at hj;omega
 have gl:=gR.lt
 have o3:=(m2.kp kN (fun i h1 _ _ e2=>by have:=(gl i e2).2;omega)).kp k (fun i h1 _ _=>hx i (Or.inr h1))
 have ep:(ps++[p]).getD ps.length AL=p:=by rw[List.getD_eq_getElem?_getD,List.getElem?_append_right (Nat.le_refl _),Nat.sub_self];rfl
 unfold Mg
 rw[ep]at hsj⊢
 obtain⟨r1,r2,r3⟩:=o3.Fz hsj
 exact⟨a,b',c,by rw[List.getD_eq_getElem?_getD,List.getElem?_append_right (by omega),lR,Nat.sub_self];rfl,r1,r2,r3⟩
theorem dw{ps:List Bf}{p:Bf}(h:∀j,j<ps.length→(ps.getD j AL).2.bw.length≤4194304∧(ps.getD j AL).2.pw.length≤4194304∧(ps.getD j AL).2.qw.length≤4194304)(hp:p.2.bw.length≤4194304∧p.2.pw.length≤4194304∧p.2.qw.length≤4194304):∀j,j<(ps++[p]).length→((ps++[p]).getD j AL).2.bw.length≤4194304∧((ps++[p]).getD j AL).2.pw.length≤4194304∧((ps++[p]).getD j AL).2.qw.length≤4194304:=fun j hj=>by
 rw[List.length_append]at hj
 by_cases e:j<ps.length
 ·rw[show(ps++[p]).getD j AL=ps.getD j AL by rw[List.getD_eq_getElem?_getD,List.getElem?_append_left e,←List.getD_eq_getElem?_getD]];exact h j e
 obtain rfl:j=ps.length:=by simp at hj;omega
 rw[show(ps++[p]).getD ps.length AL=p by rw[List.getD_eq_getElem?_getD,List.getElem?_append_right (Nat.le_refl _),Nat.sub_self];rfl];exact hp
def Xw(n f:Int)(t:Bu)(td:Int)(m:MT):Bool:=!(decide ((30:Int)≤(t.held.length:Int)))&&(Ry n f m&&(decide (0≤td∧td≤n-1)&&!(decide (td=t.id))))
def MX(n f:Int)(t:Bu)(td:Int)(m:MT):Bu:=if Xw n f t td m=true then A_ t [(td,m)]else t
set_option maxHeartbeats 16000000 in
set_option maxRecDepth 100000 in
theorem VJ(n f:Int)(t:Bu)(td:Int)(m:MT)(ao bo co od oe am bm cm:Option Addr)(ca cb cc cd ce km lm nm:Nat)(lo:Nat)(wl w:World)(hwl:Below wl.heap.size wl w)(DT:IntKind.i64.wrap (n-1)=n-1)(hl:t.held.length≤1048576)(hs:MS m)(hlo:lo≤wl.heap.size)(hss:∀j,j<t.held.length→(t.held.getD j AL).2.bw.length≤4194304∧(t.held.getD j AL).2.pw.length≤4194304∧(t.held.getD j AL).2.qw.length≤4194304)(hsm:m.bw.length≤4194304∧m.pw.length≤4194304∧m.qw.length≤4194304)(YN:RI w (.slice am m.bw.length km) m.bw)(hmb:RI w (.slice bm m.pw.length lm) m.pw)(hmc:RI w (.slice cm m.qw.length nm) m.qw)(hP:Gj wl lo (Value.slice oe t.held.length ce) t.held):
 Calls Tryz.prog 26 #[cv n f,ES t (.slice ao t.qw.length ca) (.slice bo t.pool.length cb) (.slice co t.tab.length cc) (.slice od t.AZ.length cd) (.slice oe t.held.length ce),.int .i64 td,Dp m (.slice am m.bw.length km) (.slice bm m.pw.length lm) (.slice cm m.qw.length nm)] w fun r w'=>∃(ZN:Option Addr)(fV:Nat),r= .returned (.tuple #[ES (MX n f t td m) (.slice ao t.qw.length ca) (.slice bo t.pool.length cb) (.slice co t.tab.length cc) (.slice od t.AZ.length cd) (.slice ZN (MX n f t td m).held.length fV),.bool (Xw n f t td m)])∧Iw w' (fun j=>lo≤j∧j<wl.heap.size∨w.heap.size≤j∧j<w'.heap.size) (.slice ZN (MX n f t td m).held.length fV) (MX n f t td m).held∧Kp w w' (fun j=>(Value.slice oe t.held.length ce).ownBlock=some j):=by
 obtain⟨RW,gR,lR,xR⟩:=hP
 have hlt:=gR.lt
 have MO:=hide fun w h1 h2 h3=>QY n f m am bm cm km lm nm w hs h1 h2 h3
 have CP:=hide fun w h1 h2 h3=>Ls m am bm cm km lm nm w h1 h2 h3
 have IN:=hide fun(w:World)=>(GI td 0 (n-1) w).mono (fun _ w'(h:_∧w'=w)=>(⟨h.1,h.2▸Below.refl _ _⟩:_∧Below w.heap.size w w'))
 have HX:=hide YN
 have HY:=hide hmb
 have HZ:=hide hmc
 have HG:=hide gR
 have xY:=hide xR
 have tK:=hide lR
 have HS:=hide hss
 have uM:=hide hwl
 have uF:=hwl.size
 have HLT:Hid (∀j,(Value.slice oe t.held.length ce).ownBlock=some j→lo≤j∧j<w.heap.size):=hide fun j e=>⟨(hlt j e).1,Nat.lt_of_lt_of_le (hlt j e).2 hwl.size⟩
 have HSM:=hide hsm
 have HL:=hide hl
 have HW:=hide hlo
 clear hs YN hmb hmc gR xR lR hss hlt hl hlo hsm hwl
 unfold MX Xw
 generalize hp1:decide ((30:Int)≤(t.held.length:Int))=p1 at *
 generalize Ry n f m=p2 at *
 generalize decide (0≤td∧td≤n-1)=p3 at *
 generalize zJ:decide (td=t.id)=p4 at *
 have hq4:(td==t.id)=p4:=by rw[←zJ];by_cases h:td=t.id<;>simp[h]
 obtain⟨w0,hw0⟩:∃w0,((((w.alloc (.cells #[.int .i64 n,.int .i64 f] 57)).alloc (.cells #[.int .i64 t.id,.int .i64 t.vw,.int .i64 t.ak,.int .i64 t.vo,.int .i64 t.lo,.int .i64 t.n,.string t.s,.slice ao t.qw.length ca,.string t.d,.slice bo t.pool.length cb,.slice co t.tab.length cc,.slice od t.AZ.length cd,.int .i64 t.su,.slice oe t.held.length ce] 54)).alloc (.cells #[.int .i64 m.k,.int .i64 m.vw,.string m.bn,.int .i64 m.bv,.string m.bs,.slice am m.bw.length km,.int .i64 m.pv,.string m.ps,.slice bm m.pw.length lm,.int .i64 m.qv,.string m.qs,.slice cm m.qw.length nm,.int .i64 m.wh,.int .i64 m.fr,.int .i64 m.tu,.int .i64 m.am,.int .i64 m.no] 65)).alloc (.cells #[.int .i64 0,.int .i64 0,.int .i64 0,.int .i64 0,.int .i64 0,.int .i64 0,.string ⟨#[]⟩,.slice none 0 0,.string ⟨#[]⟩,.slice none 0 0,.slice none 0 0,.slice none 0 0,.int .i64 0,.slice none 0 0] 54))=w0:=⟨_,rfl⟩
 have AO:Below w.heap.size w w0:=hw0▸((((Below.refl _ _).alloc (Nat.le_refl _) _).alloc (by simp) _).alloc (by simp;omega) _).alloc (by simp;omega) _
 have LC:Loc w0 (w.heap.size) #[.int .i64 n,.int .i64 f]:=hw0▸(((AB (w) _ _ rfl).alloc _).alloc _).alloc _
 have A:Loc w0 (w.heap.size+1) #[.int .i64 t.id,.int .i64 t.vw,.int .i64 t.ak,.int .i64 t.vo,.int .i64 t.lo,.int .i64 t.n,.string t.s,.slice ao t.qw.length ca,.string t.d,.slice bo t.pool.length cb,.slice co t.tab.length cc,.slice od t.AZ.length cd,.int .i64 t.su,.slice oe t.held.length ce]:=hw0▸((AB (w.alloc _) _ _ (by simp)).alloc _).alloc _
 have MM:Loc w0 (w.heap.size+1+1) #[.int .i64 m.k,.int .i64 m.vw,.string m.bn,.int .i64 m.bv,.string m.bs,.slice am m.bw.length km,.int .i64 m.pv,.string m.ps,.slice bm m.pw.length lm,.int .i64 m.qv,.string m.qs,.slice cm m.qw.length nm,.int .i64 m.wh,.int .i64 m.fr,.int .i64 m.tu,.int .i64 m.am,.int .i64 m.no]:=hw0▸(AB ((w.alloc _).alloc _) _ _ (by simp)).alloc _
 have O:Loc w0 (w.heap.size+1+1+1) #[.int .i64 0,.int .i64 0,.int .i64 0,.int .i64 0,.int .i64 0,.int .i64 0,.string ⟨#[]⟩,.slice none 0 0,.string ⟨#[]⟩,.slice none 0 0,.slice none 0 0,.slice none 0 0,.int .i64 0,.slice none 0 0]:=hw0▸AB (((w.alloc _).alloc _).alloc _) _ _ (by simp)
 have DN:w.heap.size+1+1+1+1≤w0.heap.size:=by rw[←hw0];simp
 go_enter Tryz.func26,Tryz.ntmps26
 cases p1
 ·have BU:=A.cell 13 rfl
  obtain⟨Ae,Aj⟩:=Cr LC 0 1
  go_wp2_with (first|(refine Ap MM 65 _ rfl _ rfl rfl Tryz.underlying65 rfl (by kernel_rfl) ?_))
  clear hw0
  refine(MO.out _ (HX.out.below AO) (HY.out.below AO) (HZ.out.below AO)).mono ?_
  rintro _ w1 ⟨rfl,bb⟩
  clear BU Ae Aj
  have AP:=bu AO bb
  have Ct:=bb.size
  replace LC:=LC.up bb
  replace A:=A.up bb
  replace MM:=MM.up bb
  replace O:=O.up bb
  clear AO bb
  cases p2
  ·have oy:=hide (Pd.stay (Gj.kQ (⟨RW,HG.out,tK.out,xY.out⟩:Gj wl lo (.slice oe t.held.length ce) t.held)) HS.out)
   go_wp2_with (first|(refine Ap A 54 _ rfl _ rfl rfl Tryz.underlying54 rfl (by kernel_rfl) ?_)|(refine BH O 54 #[.int .i64 t.id,.int .i64 t.vw,.int .i64 t.ak,.int .i64 t.vo,.int .i64 t.lo,.int .i64 t.n,.string t.s,.slice ao t.qw.length ca,.string t.d,.slice bo t.pool.length cb,.slice co t.tab.length cc,.slice od t.AZ.length cd,.int .i64 t.su,.slice oe t.held.length ce] rfl _ _ rfl rfl rfl (by kernel_rfl) rfl (by simp[Value.oneCell']) ?_))
   obtain⟨wE,Bd⟩:∃Cj,w1.setRow (w.heap.size+1+1+1) #[.int .i64 t.id,.int .i64 t.vw,.int .i64 t.ak,.int .i64 t.vo,.int .i64 t.lo,.int .i64 t.n,.string t.s,.slice ao t.qw.length ca,.string t.d,.slice bo t.pool.length cb,.slice co t.tab.length cc,.slice od t.AZ.length cd,.int .i64 t.su,.slice oe t.held.length ce]=Cj:=⟨_,rfl⟩
   have kN:Kp w1 wE (fun k=>k=w.heap.size+1+1+1):=Bd▸Bz _ _ _
   replace O:Loc wE (w.heap.size+1+1+1) #[.int .i64 t.id,.int .i64 t.vw,.int .i64 t.ak,.int .i64 t.vo,.int .i64 t.lo,.int .i64 t.n,.string t.s,.slice ao t.qw.length ca,.string t.d,.slice bo t.pool.length cb,.slice co t.tab.length cc,.slice od t.AZ.length cd,.int .i64 t.su,.slice oe t.held.length ce]:=Bd▸O.row
   replace LC:=LC.kp kN (by omega)
   replace A:=A.kp kN (by omega)
   replace MM:=MM.kp kN (by omega)
   have FL:=Below.kp AP kN AP.size (fun k hk=>by omega)
   have Pg:=kN.size
   rw[Bd]
   clear Bd kN AP
   refine bodyPost_ret (v:= .tuple #[ES t (.slice ao t.qw.length ca) (.slice bo t.pool.length cb) (.slice co t.tab.length cc) (.slice od t.AZ.length cd) (Value.slice oe t.held.length ce),.bool false]) (Co Tryz.results26 _ O rfl Tryz.underlying54 rfl (by kernel_rfl)) rfl ?_
   exact⟨_,_,rfl,(fun v X k hx=>(oy.out.below (uM.out.trans (FL.mono uF))).2 v X k (fun j a b=>hx j (Or.inl ⟨a,b⟩))),Below.Bb FL _⟩
  have Ae:=LC.cell 0 rfl
  go_wp2_with fail
  refine(IN.out _).mono ?_
  rintro _ w2 ⟨rfl,bb⟩
  clear Ae
  have Am:=bu AP bb
  have El:=bb.size
  replace LC:=LC.up bb
  replace A:=A.up bb
  replace MM:=MM.up bb
  replace O:=O.up bb
  clear AP bb
  cases p3
  ·have oy:=hide (Pd.stay (Gj.kQ (⟨RW,HG.out,tK.out,xY.out⟩:Gj wl lo (.slice oe t.held.length ce) t.held)) HS.out)
   go_wp2_with (first|(refine Ap A 54 _ rfl _ rfl rfl Tryz.underlying54 rfl (by kernel_rfl) ?_)|(refine BH O 54 #[.int .i64 t.id,.int .i64 t.vw,.int .i64 t.ak,.int .i64 t.vo,.int .i64 t.lo,.int .i64 t.n,.string t.s,.slice ao t.qw.length ca,.string t.d,.slice bo t.pool.length cb,.slice co t.tab.length cc,.slice od t.AZ.length cd,.int .i64 t.su,.slice oe t.held.length ce] rfl _ _ rfl rfl rfl (by kernel_rfl) rfl (by simp[Value.oneCell']) ?_))
   obtain⟨wE,Bd⟩:∃Cj,w2.setRow (w.heap.size+1+1+1) #[.int .i64 t.id,.int .i64 t.vw,.int .i64 t.ak,.int .i64 t.vo,.int .i64 t.lo,.int .i64 t.n,.string t.s,.slice ao t.qw.length ca,.string t.d,.slice bo t.pool.length cb,.slice co t.tab.length cc,.slice od t.AZ.length cd,.int .i64 t.su,.slice oe t.held.length ce]=Cj:=⟨_,rfl⟩
   have kN:Kp w2 wE (fun k=>k=w.heap.size+1+1+1):=Bd▸Bz _ _ _
   replace O:Loc wE (w.heap.size+1+1+1) #[.int .i64 t.id,.int .i64 t.vw,.int .i64 t.ak,.int .i64 t.vo,.int .i64 t.lo,.int .i64 t.n,.string t.s,.slice ao t.qw.length ca,.string t.d,.slice bo t.pool.length cb,.slice co t.tab.length cc,.slice od t.AZ.length cd,.int .i64 t.su,.slice oe t.held.length ce]:=Bd▸O.row
   replace LC:=LC.kp kN (by omega)
   replace A:=A.kp kN (by omega)
   replace MM:=MM.kp kN (by omega)
   have FL:=Below.kp Am kN Am.size (fun k hk=>by omega)
   have Pg:=kN.size
   rw[Bd]
   clear Bd kN Am
   refine bodyPost_ret (v:= .tuple #[ES t (.slice ao t.qw.length ca) (.slice bo t.pool.length cb) (.slice co t.tab.length cc) (.slice od t.AZ.length cd) (Value.slice oe t.held.length ce),.bool false]) (Co Tryz.results26 _ O rfl Tryz.underlying54 rfl (by kernel_rfl)) rfl ?_
   exact⟨_,_,rfl,(fun v X k hx=>(oy.out.below (uM.out.trans (FL.mono uF))).2 v X k (fun j a b=>hx j (Or.inl ⟨a,b⟩))),Below.Bb FL _⟩
  cases p4
  ·have Bn:=A.cell 0 rfl
   go_upto_region 3 with fail
   clear Bn
   have K:Hid (∀w',Kp w2 w' (fun k=>(Value.slice oe t.held.length ce).ownBlock=some k)→(fun w'=>Loc w' (w.heap.size+1) #[.int .i64 t.id,.int .i64 t.vw,.int .i64 t.ak,.int .i64 t.vo,.int .i64 t.lo,.int .i64 t.n,.string t.s,.slice ao t.qw.length ca,.string t.d,.slice bo t.pool.length cb,.slice co t.tab.length cc,.slice od t.AZ.length cd,.int .i64 t.su,.slice oe t.held.length ce]∧Loc w' (w.heap.size+1+1) #[.int .i64 m.k,.int .i64 m.vw,.string m.bn,.int .i64 m.bv,.string m.bs,.slice am m.bw.length km,.int .i64 m.pv,.string m.ps,.slice bm m.pw.length lm,.int .i64 m.qv,.string m.qs,.slice cm m.qw.length nm,.int .i64 m.wh,.int .i64 m.fr,.int .i64 m.tu,.int .i64 m.am,.int .i64 m.no]) w'):=hide fun w' hk'=>⟨A.kp hk' (fun e=>by have h5:=(HLT.out _ e).2;omega),MM.kp hk' (fun e=>by have h5:=(HLT.out _ e).2;omega)⟩
   have bA:Kp w2 w2.drew (fun k=>(Value.slice oe t.held.length ce).ownBlock=some k):=Below.Bb (Below.drew (Below.refl _ _)) _
   have bb:Below w2.heap.size w2 w2.drew:=Below.drew (Below.refl _ _)
   refine wp_region_noPanic ?_
   refine Hq (S:=fun w'=>Loc w' (w.heap.size+1) #[.int .i64 t.id,.int .i64 t.vw,.int .i64 t.ak,.int .i64 t.vo,.int .i64 t.lo,.int .i64 t.n,.string t.s,.slice ao t.qw.length ca,.string t.d,.slice bo t.pool.length cb,.slice co t.tab.length cc,.slice od t.AZ.length cd,.int .i64 t.su,.slice oe t.held.length ce]∧Loc w' (w.heap.size+1+1) #[.int .i64 m.k,.int .i64 m.vw,.string m.bn,.int .i64 m.bv,.string m.bs,.slice am m.bw.length km,.int .i64 m.pv,.string m.ps,.slice bm m.pw.length lm,.int .i64 m.qv,.string m.qs,.slice cm m.qw.length nm,.int .i64 m.wh,.int .i64 m.fr,.int .i64 m.tu,.int .i64 m.am,.int .i64 m.no]) (fun j=>j==9) (by kernel_rfl) ?_
   obtain⟨wd3,hwd⟩:∃y,w2.drew=y:=⟨_,rfl⟩
   rw[hwd]at bA bb⊢
   clear hwd
   have Yz:=bu Am bb
   have vV:=bb.size
   replace LC:=LC.up bb
   replace A:=A.up bb
   replace MM:=MM.up bb
   replace O:=O.up bb
   clear Am bb
   refine BC (i:=0) (d:=35) (v:=?_) rfl rfl (by kernel_rfl) (by kernel_rfl) (by kernel_rfl) (fun _ _ _ h=>h) (Or.inl ⟨by rfl,?_⟩) ?_
   rotate_left
   ·intro w hSw
    try dsimp only at hSw
    go_simp
    try with_reducible rfl
   simp only[Act.put,List.setIfInBounds_toArray,List.set_cons_zero,List.set_cons_succ]
   refine BC (i:=2) (d:=37) (v:=?_) rfl rfl (by kernel_rfl) (by kernel_rfl) (by kernel_rfl) (fun _ _ _ h=>h) (Or.inl ⟨by rfl,?_⟩) ?_
   rotate_left
   ·intro w hSw
    try dsimp only at hSw
    go_simp
    try with_reducible rfl
   simp only[Act.put,List.setIfInBounds_toArray,List.set_cons_zero,List.set_cons_succ]
   refine Dk (i:=3) (d:=38) (v:= .agg #[.int .i64 m.k,.int .i64 m.vw,.string m.bn,.int .i64 m.bv,.string m.bs,.slice am m.bw.length km,.int .i64 m.pv,.string m.ps,.slice bm m.pw.length lm,.int .i64 m.qv,.string m.qs,.slice cm m.qw.length nm,.int .i64 m.wh,.int .i64 m.fr,.int .i64 m.tu,.int .i64 m.am,.int .i64 m.no]) rfl rfl (by kernel_rfl) (by kernel_rfl) (by kernel_rfl) (by kernel_rfl) (fun _ _ _ h=>h) ?_ (K.out _ bA) ?_
   ·exact A7 rfl 65 _ rfl rfl _ (fun w h=>h.2) Tryz.underlying65 rfl (by kernel_rfl)
   simp only[Act.put,List.setIfInBounds_toArray,List.set_cons_zero,List.set_cons_succ]
   refine Dk (i:=1) (d:=36) (v:=?_) rfl rfl (by kernel_rfl) (by kernel_rfl) (by kernel_rfl) (by kernel_rfl) (fun _ _ _ h=>h) (Or.inl ⟨by rfl,?_⟩) (K.out _ bA) ?_
   rotate_left
   ·intro w hSw
    try dsimp only at hSw
    have h:=hSw
    have sH:=(h.1).cell 13 rfl
    clear h hSw
    go_simp
    try with_reducible rfl
   simp only[Act.put,List.setIfInBounds_toArray,List.set_cons_zero,List.set_cons_succ]
   refine Aw (i:=4) rfl (by kernel_rfl) (fun KK AA=>?_)
   go_simp
   refine(CP.out _ (HX.out.below Yz) (HY.out.below Yz) (HZ.out.below Yz)).mono ?_
   rintro e w3 ⟨u,v,x,rfl,m2,bb⟩
   have Ao:Kp w2 w3 (fun k=>(Value.slice oe t.held.length ce).ownBlock=some k):=bA.trans (Below.Bb bb _)
   refine AA.out _ _ (fun _ _=>K.out _ Ao) ?_
   clear AA KK bA
   have BP:=bu Yz bb
   have IZ:=bb.size
   replace LC:=LC.up bb
   replace A:=A.up bb
   replace MM:=MM.up bb
   replace O:=O.up bb
   clear Yz bb
   obtain⟨a2,k2,b2,l2,c2,n2,rfl,rfl,rfl⟩:=m2.form
   obtain⟨W1,hW1⟩:∃x,wd3.heap.size=x:=⟨_,rfl⟩
   rw[hW1]at m2
   have w1a:=Nat.le_of_eq hW1
   have w1b:=Nat.le_of_eq hW1.symm
   clear hW1
   refine BC (i:=5) (d:=40) (v:=?_) rfl rfl (by kernel_rfl) (by kernel_rfl) (by kernel_rfl) (fun _ _ _ h=>h) (Or.inl ⟨by rfl,?_⟩) ?_
   rotate_left
   ·intro w hSw
    try dsimp only at hSw
    go_simp
    try with_reducible rfl
   simp only[Act.put,List.setIfInBounds_toArray,List.set_cons_zero,List.set_cons_succ]
   refine Aw (i:=6) rfl (by kernel_rfl) (fun KK AA=>?_)
   go_simp
   obtain⟨w4,hq⟩:∃y,w3.alloc (.cells #[.int .i64 td,.int .i64 m.k,.int .i64 m.vw,.string m.bn,.int .i64 m.bv,.string m.bs,.slice a2 m.bw.length k2,.int .i64 m.pv,.string m.ps,.slice b2 m.pw.length l2,.int .i64 m.qv,.string m.qs,.slice c2 m.qw.length n2,.int .i64 m.wh,.int .i64 m.fr,.int .i64 m.tu,.int .i64 m.am,.int .i64 m.no] 94)=y:=⟨_,rfl⟩
   rw[hq]
   have bb:Below w3.heap.size w3 w4:=hq▸Ag _ _
   have BN:Kp w2 w4 (fun k=>(Value.slice oe t.held.length ce).ownBlock=some k):=Ao.trans (Below.Bb bb _)
   have LB:Loc w4 w3.heap.size #[.int .i64 td,.int .i64 m.k,.int .i64 m.vw,.string m.bn,.int .i64 m.bv,.string m.bs,.slice a2 m.bw.length k2,.int .i64 m.pv,.string m.ps,.slice b2 m.pw.length l2,.int .i64 m.qv,.string m.qs,.slice c2 m.qw.length n2,.int .i64 m.wh,.int .i64 m.fr,.int .i64 m.tu,.int .i64 m.am,.int .i64 m.no]:=hq▸AB w3 _ _ rfl
   clear hq
   refine AA.out _ _ (fun _ _=>K.out _ BN) ?_
   clear AA KK Ao
   have Cs:=bu BP bb
   have Ph:=bb.size
   replace LC:=LC.up bb
   replace A:=A.up bb
   replace MM:=MM.up bb
   replace O:=O.up bb
   replace m2:=m2.below bb
   clear BP bb
   refine Aw (i:=7) rfl (by kernel_rfl) (fun KK AA=>?_)
   refine Gs rfl (.tmp 36) (.tmp 41) rfl lo (.slice oe t.held.length ce) RW (w3.heap.size) 1 #[.int .i64 td,.int .i64 m.k,.int .i64 m.vw,.string m.bn,.int .i64 m.bv,.string m.bs,.slice a2 m.bw.length k2,.int .i64 m.pv,.string m.ps,.slice b2 m.pw.length l2,.int .i64 m.qv,.string m.qs,.slice c2 m.qw.length n2,.int .i64 m.wh,.int .i64 m.fr,.int .i64 m.tu,.int .i64 m.am,.int .i64 m.no] rfl rfl (HG.out.below (uM.out.trans (Cs.mono uF))) LB rfl (by intro u hu;simp at hu;rcases hu with rfl|rfl|rfl|rfl|rfl|rfl|rfl|rfl|rfl|rfl|rfl|rfl|rfl|rfl|rfl|rfl|rfl|rfl<;>rfl) (by have:=tK.out;have:=HL.out;omega) (by have:=HW.out;have:=Cs.size;omega) ?_
   intro v4 w5 jJ hg4 hb4
   have kN:=CE hg4
   have hlt2:=HLT.out
   have sG:=Zn (p:=(td,m)) HG.out tK.out xY.out (uM.out.trans (Cs.mono uF)) (W1:=W1) (by have:=Cs.size;omega) (by omega) m2 jJ kN hb4 (dw (p:=(td,m)) HS.out HSM.out)
   obtain⟨a4,k4,hv4⟩:=jJ.form
   rw[List.length_append,tK.out]at hv4
   subst hv4
   have hl4:t.held.length+[FW td m (.slice a2 m.bw.length k2) (.slice b2 m.pw.length l2) (.slice c2 m.qw.length n2)].length=(t.held++[(td,m)]).length:=by simp
   replace LC:=LC.kp kN (fun e=>by have:=(hlt2 _ e).2;omega)
   replace A:=A.kp kN (fun e=>by have:=(hlt2 _ e).2;omega)
   replace MM:=MM.kp kN (fun e=>by have:=(hlt2 _ e).2;omega)
   replace O:=O.kp kN (fun e=>by have:=(hlt2 _ e).2;omega)
   have Fe:Kp w2 w5 (fun k=>(Value.slice oe t.held.length ce).ownBlock=some k):=BN.trans kN
   have KW:Kp w w5 (fun k=>(Value.slice oe t.held.length ce).ownBlock=some k):=(Below.Bb Cs _).trans kN
   have fQ:=kN.size
   clear m2 LB jJ hg4 hb4 kN
   refine AA.out _ _ (fun _ _=>K.out _ Fe) ?_
   clear AA KK BN
   simp only[Act.put,List.setIfInBounds_toArray,List.set_cons_zero,List.set_cons_succ]
   refine BC (i:=8) (d:=43) (v:=?_) rfl rfl (by kernel_rfl) (by kernel_rfl) (by kernel_rfl) (fun _ _ _ h=>h) (Or.inl ⟨by rfl,?_⟩) ?_
   rotate_left
   ·intro w hSw
    try dsimp only at hSw
    go_simp
    try with_reducible rfl
   simp only[Act.put,List.setIfInBounds_toArray,List.set_cons_zero,List.set_cons_succ]
   refine Aw (i:=9) rfl (by kernel_rfl) (fun KK AA=>?_)
   have q0:=A.cell 13 rfl
   have FG:=A.frozen
   go_simp
   obtain⟨w6,hq⟩:∃y,w5.setCell ⟨w.heap.size+1,13,none⟩ (.slice a4 (t.held.length+1) k4)=y:=⟨_,rfl⟩
   rw[hq]
   have kN:Kp w5 w6 (fun k=>k=w.heap.size+1):=hq▸AJ _ _ _ _
   replace A:Loc w6 (w.heap.size+1) #[.int .i64 t.id,.int .i64 t.vw,.int .i64 t.ak,.int .i64 t.vo,.int .i64 t.lo,.int .i64 t.n,.string t.s,.slice ao t.qw.length ca,.string t.d,.slice bo t.pool.length cb,.slice co t.tab.length cc,.slice od t.AZ.length cd,.int .i64 t.su,.slice a4 (t.held.length+1) k4]:=hq▸A.set 13 _ rfl
   replace LC:=LC.kp kN (by omega)
   replace MM:=MM.kp kN (by omega)
   replace O:=O.kp kN (by omega)
   replace sG:=sG.kp kN (fun j hj e=>by omega)
   replace KW:=Kp.over KW kN (fun j e=>Or.inl (by omega))
   have pE:=kN.size
   clear q0 FG hq kN
   refine AA.out _ _ (fun h=>absurd h (by decide)) ?_
   clear AA KK
   refine I8 (by kernel_rfl) ?_ _
   refine NoPanic.normal ?_
   clear K
   go_wp2_with (first|(refine Ap A 54 _ rfl _ rfl rfl Tryz.underlying54 rfl (by kernel_rfl) ?_)|(refine BH O 54 #[.int .i64 t.id,.int .i64 t.vw,.int .i64 t.ak,.int .i64 t.vo,.int .i64 t.lo,.int .i64 t.n,.string t.s,.slice ao t.qw.length ca,.string t.d,.slice bo t.pool.length cb,.slice co t.tab.length cc,.slice od t.AZ.length cd,.int .i64 t.su,.slice a4 (t.held.length+1) k4] rfl _ _ rfl rfl rfl (by kernel_rfl) rfl (by simp[Value.oneCell']) ?_))
   obtain⟨wE,Bd⟩:∃y,w6.setRow (w.heap.size+1+1+1) #[.int .i64 t.id,.int .i64 t.vw,.int .i64 t.ak,.int .i64 t.vo,.int .i64 t.lo,.int .i64 t.n,.string t.s,.slice ao t.qw.length ca,.string t.d,.slice bo t.pool.length cb,.slice co t.tab.length cc,.slice od t.AZ.length cd,.int .i64 t.su,.slice a4 (t.held.length+1) k4]=y:=⟨_,rfl⟩
   have kN:Kp w6 wE (fun k=>k=w.heap.size+1+1+1):=Bd▸Bz _ _ _
   replace O:Loc wE (w.heap.size+1+1+1) #[.int .i64 t.id,.int .i64 t.vw,.int .i64 t.ak,.int .i64 t.vo,.int .i64 t.lo,.int .i64 t.n,.string t.s,.slice ao t.qw.length ca,.string t.d,.slice bo t.pool.length cb,.slice co t.tab.length cc,.slice od t.AZ.length cd,.int .i64 t.su,.slice a4 (t.held.length+1) k4]:=Bd▸O.row
   replace sG:=sG.kp kN (fun j hj e=>by omega)
   replace KW:=Kp.over KW kN (fun j e=>Or.inl (by omega))
   have sE:=kN.size
   rw[Bd]
   clear Bd kN
   refine bodyPost_ret (v:= .tuple #[ES (A_ t [(td,m)]) (.slice ao t.qw.length ca) (.slice bo t.pool.length cb) (.slice co t.tab.length cc) (.slice od t.AZ.length cd) (.slice a4 (t.held.length+1) k4),.bool true]) (Co Tryz.results26 _ O rfl Tryz.underlying54 rfl (by kernel_rfl)) rfl ?_
   have e9:(A_ t [(td,m)]).held.length=t.held.length+1:=by simp[A_]
   simp only[e9]
   exact⟨a4,k4,rfl,fun v X k hx=>sG v (fun j=>X j∧j<wE.heap.size) k.cut (fun j hj e=>by rcases hj with hj|hj;exact hx j (Or.inl hj) e.1;exact hx j (Or.inr ⟨by omega,e.2⟩) e.1),KW⟩
  have oy:=hide (Pd.stay (Gj.kQ (⟨RW,HG.out,tK.out,xY.out⟩:Gj wl lo (.slice oe t.held.length ce) t.held)) HS.out)
  have Bn:=A.cell 0 rfl
  go_wp2_with (first|(refine Ap A 54 _ rfl _ rfl rfl Tryz.underlying54 rfl (by kernel_rfl) ?_)|(refine BH O 54 #[.int .i64 t.id,.int .i64 t.vw,.int .i64 t.ak,.int .i64 t.vo,.int .i64 t.lo,.int .i64 t.n,.string t.s,.slice ao t.qw.length ca,.string t.d,.slice bo t.pool.length cb,.slice co t.tab.length cc,.slice od t.AZ.length cd,.int .i64 t.su,.slice oe t.held.length ce] rfl _ _ rfl rfl rfl (by kernel_rfl) rfl (by simp[Value.oneCell']) ?_))
  clear Bn
  obtain⟨wE,Bd⟩:∃Cj,w2.setRow (w.heap.size+1+1+1) #[.int .i64 t.id,.int .i64 t.vw,.int .i64 t.ak,.int .i64 t.vo,.int .i64 t.lo,.int .i64 t.n,.string t.s,.slice ao t.qw.length ca,.string t.d,.slice bo t.pool.length cb,.slice co t.tab.length cc,.slice od t.AZ.length cd,.int .i64 t.su,.slice oe t.held.length ce]=Cj:=⟨_,rfl⟩
  have kN:Kp w2 wE (fun k=>k=w.heap.size+1+1+1):=Bd▸Bz _ _ _
  replace O:Loc wE (w.heap.size+1+1+1) #[.int .i64 t.id,.int .i64 t.vw,.int .i64 t.ak,.int .i64 t.vo,.int .i64 t.lo,.int .i64 t.n,.string t.s,.slice ao t.qw.length ca,.string t.d,.slice bo t.pool.length cb,.slice co t.tab.length cc,.slice od t.AZ.length cd,.int .i64 t.su,.slice oe t.held.length ce]:=Bd▸O.row
  replace LC:=LC.kp kN (by omega)
  replace A:=A.kp kN (by omega)
  replace MM:=MM.kp kN (by omega)
  have FL:=Below.kp Am kN Am.size (fun k hk=>by omega)
  have Pg:=kN.size
  rw[Bd]
  clear Bd kN Am
  refine bodyPost_ret (v:= .tuple #[ES t (.slice ao t.qw.length ca) (.slice bo t.pool.length cb) (.slice co t.tab.length cc) (.slice od t.AZ.length cd) (Value.slice oe t.held.length ce),.bool false]) (Co Tryz.results26 _ O rfl Tryz.underlying54 rfl (by kernel_rfl)) rfl ?_
  exact⟨_,_,rfl,(fun v X k hx=>(oy.out.below (uM.out.trans (FL.mono uF))).2 v X k (fun j a b=>hx j (Or.inl ⟨a,b⟩))),Below.Bb FL _⟩
 have oy:=hide (Pd.stay (Gj.kQ (⟨RW,HG.out,tK.out,xY.out⟩:Gj wl lo (.slice oe t.held.length ce) t.held)) HS.out)
 have BU:=A.cell 13 rfl
 go_wp2_with (first|(refine Ap A 54 _ rfl _ rfl rfl Tryz.underlying54 rfl (by kernel_rfl) ?_)|(refine BH O 54 #[.int .i64 t.id,.int .i64 t.vw,.int .i64 t.ak,.int .i64 t.vo,.int .i64 t.lo,.int .i64 t.n,.string t.s,.slice ao t.qw.length ca,.string t.d,.slice bo t.pool.length cb,.slice co t.tab.length cc,.slice od t.AZ.length cd,.int .i64 t.su,.slice oe t.held.length ce] rfl _ _ rfl rfl rfl (by kernel_rfl) rfl (by simp[Value.oneCell']) ?_))
 clear BU
 obtain⟨wE,Bd⟩:∃Cj,w0.setRow (w.heap.size+1+1+1) #[.int .i64 t.id,.int .i64 t.vw,.int .i64 t.ak,.int .i64 t.vo,.int .i64 t.lo,.int .i64 t.n,.string t.s,.slice ao t.qw.length ca,.string t.d,.slice bo t.pool.length cb,.slice co t.tab.length cc,.slice od t.AZ.length cd,.int .i64 t.su,.slice oe t.held.length ce]=Cj:=⟨_,rfl⟩
 have kN:Kp w0 wE (fun k=>k=w.heap.size+1+1+1):=Bd▸Bz _ _ _
 replace O:Loc wE (w.heap.size+1+1+1) #[.int .i64 t.id,.int .i64 t.vw,.int .i64 t.ak,.int .i64 t.vo,.int .i64 t.lo,.int .i64 t.n,.string t.s,.slice ao t.qw.length ca,.string t.d,.slice bo t.pool.length cb,.slice co t.tab.length cc,.slice od t.AZ.length cd,.int .i64 t.su,.slice oe t.held.length ce]:=Bd▸O.row
 replace LC:=LC.kp kN (by omega)
 replace A:=A.kp kN (by omega)
 replace MM:=MM.kp kN (by omega)
 have FL:=Below.kp AO kN AO.size (fun k hk=>by omega)
 have Pg:=kN.size
 rw[Bd]
 clear Bd kN AO
 refine bodyPost_ret (v:= .tuple #[ES t (.slice ao t.qw.length ca) (.slice bo t.pool.length cb) (.slice co t.tab.length cc) (.slice od t.AZ.length cd) (Value.slice oe t.held.length ce),.bool false]) (Co Tryz.results26 _ O rfl Tryz.underlying54 rfl (by kernel_rfl)) rfl ?_
 exact⟨_,_,rfl,(fun v X k hx=>(oy.out.below (uM.out.trans (FL.mono uF))).2 v X k (fun j a b=>hx j (Or.inl ⟨a,b⟩))),Below.Bb FL _⟩
end
end Go.Proofs.YtkmnfeihjjccmaaGreatDoor
