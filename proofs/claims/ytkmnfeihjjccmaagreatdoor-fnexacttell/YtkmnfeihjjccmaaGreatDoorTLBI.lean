/- Lemmas; their conditions stand in each statement. -/
import Derived.Test.YtkmnfeihjjccmaaGreatDoorTLBH
set_option maxRecDepth 100000
set_option maxHeartbeats 16000000
set_option linter.unusedSectionVars false
set_option linter.unusedSimpArgs false
namespace Go.Proofs.YtkmnfeihjjccmaaGreatDoor
section
open Go Go.RowKit
variable [∀(a b c d:Int),Decidable (BD a b c d)]
variable [∀(n f:Int),Decidable (A8 n f)]
variable [∀(a b c d:Nat),Decidable (Dj a b c d)]
variable [∀(x:T4),Decidable (Dr x)]
variable [∀(last:Int)(s:St),Decidable (Au last s)]
variable [∀(n:Int)(s:List Int),Decidable (Dt n s)]
variable [∀(x y:T4),Decidable (Gm x y)]
variable [∀(ts:List T4),Decidable (Asc ts)]
variable [∀(ts:List T4),Decidable (DU ts)]
variable [∀(ts:List T4),Decidable (JP ts)]
def vz(n f:Int)(t:Bu)(td:Int)(m:MT):Bool:=Eg n f t&&Xw n f t td m
def vg(n f:Int)(t:Bu)(td:Int)(m:MT):Bu:=if Eg n f t=true then MX n f t td m else t
theorem gy{n f:Int}{t:Bu}{td:Int}{m:MT}{w:World}{lo mid hi:Nat}{G:Nat→Prop}{a b c d e:Value}(h:EF w lo mid { t with held:=[] } a b c d (.slice none 0 0))(k:Iw w G e (MX n f t td m).held)(h2:mid≤hi)(h3:hi≤w.heap.size)(hG:∀j,G j→lo≤j∧j<hi):EF w lo hi (MX n f t td m) a b c d e:=by
 refine⟨h3,fun w' X kx hx=>?_⟩
 have r:=h.2 w' X kx (fun j a b=>hx j a (Nat.lt_of_lt_of_le b h2))
 have p:=k w' X kx (fun j g=>hx j (hG j g).1 (hG j g).2)
 unfold MX at p⊢
 split
 ·rename_i hb;rw[if_pos hb]at p;exact⟨r.q,r.p,r.tb,r.d,p⟩
 rename_i hb;rw[if_neg hb]at p;exact⟨r.q,r.p,r.tb,r.d,p⟩
def From(a w:World):Prop:=Below a.heap.size a w
theorem From.below{a w w':World}(h:From a w)(b:Below w.heap.size w w'):From a w':=Below.trans h (b.mono (Below.size h))
theorem iB(n f:Int)(t:Bu)(td:Int)(m:MT)(ao bo co od oe am bm cm:Option Addr)(ca cb cc cd ce km lm nm:Nat)(w:World)(DT:Eg n f t=true→IntKind.i64.wrap (n-1)=n-1)(hm:JF t)(hl:t.held.length≤1048576)(hs:RS t)(hms:MS m)(hsm:m.bw.length≤4194304∧m.pw.length≤4194304∧m.qw.length≤4194304)(h:Ei w t (.slice ao t.qw.length ca) (.slice bo t.pool.length cb) (.slice co t.tab.length cc) (.slice od t.AZ.length cd) (.slice oe t.held.length ce))(YN:RI w (.slice am m.bw.length km) m.bw)(hmb:RI w (.slice bm m.pw.length lm) m.pw)(hmc:RI w (.slice cm m.qw.length nm) m.qw):
 Calls Tryz.prog 6 #[cv n f,ES t (.slice ao t.qw.length ca) (.slice bo t.pool.length cb) (.slice co t.tab.length cc) (.slice od t.AZ.length cd) (.slice oe t.held.length ce),.int .i64 td,Dp m (.slice am m.bw.length km) (.slice bm m.pw.length lm) (.slice cm m.qw.length nm)] w fun r w'=>∃a b c d e,r= .returned (.tuple #[ES (vg n f t td m) a b c d e,.bool (vz n f t td m)])∧EF w' w.heap.size w'.heap.size (vg n f t td m) a b c d e∧Below w.heap.size w w':=by
 have RO:=hide fun w h=>aD n f t ao bo co od oe ca cb cc cd ce w hm hs h
 have CP:=hide fun w h=>VL t ao bo co od oe ca cb cc cd ce w hm h
 have CO:=hide fun w h=>VK t ao bo co od oe ca cb cc cd ce w hm h
 have LT:=hide fun(hb:Eg n f t=true) a b c d e ka kb kc kd ke lo wl w hwl hlo h1 h2 h3 hP=>VJ n f t td m a b c d e am bm cm ka kb kc kd ke km lm nm lo wl w hwl (DT hb) hl hms hlo hm.hh hsm h1 h2 h3 hP
 have HR:=hide h
 have HX:=hide YN
 have HY:=hide hmb
 have HZ:=hide hmc
 have SL:=hide (fun(w:World)(lo mid hi:Nat)(G:Nat→Prop)(a b c d e:Value)(h:EF w lo mid { t with held:=[] } a b c d (.slice none 0 0))(k:Iw w G e (MX n f t td m).held)(h2:mid≤hi)(h3:hi≤w.heap.size)(hG:∀j,G j→lo≤j∧j<hi)=>gy h k h2 h3 hG)
 clear h YN hmb hmc hs hm DT hl hms hsm
 unfold vg vz
 generalize MX n f t td m=u at *
 generalize Xw n f t td m=b1 at *
 generalize Eg n f t=b0 at *
 obtain⟨w0,hw0⟩:∃w0,((((w.alloc (.cells #[.int .i64 n,.int .i64 f] 57)).alloc (.cells #[.int .i64 t.id,.int .i64 t.vw,.int .i64 t.ak,.int .i64 t.vo,.int .i64 t.lo,.int .i64 t.n,.string t.s,.slice ao t.qw.length ca,.string t.d,.slice bo t.pool.length cb,.slice co t.tab.length cc,.slice od t.AZ.length cd,.int .i64 t.su,.slice oe t.held.length ce] 54)).alloc (.cells #[.int .i64 m.k,.int .i64 m.vw,.string m.bn,.int .i64 m.bv,.string m.bs,.slice am m.bw.length km,.int .i64 m.pv,.string m.ps,.slice bm m.pw.length lm,.int .i64 m.qv,.string m.qs,.slice cm m.qw.length nm,.int .i64 m.wh,.int .i64 m.fr,.int .i64 m.tu,.int .i64 m.am,.int .i64 m.no] 65)).alloc (.cells #[.int .i64 0,.int .i64 0,.int .i64 0,.int .i64 0,.int .i64 0,.int .i64 0,.string ⟨#[]⟩,.slice none 0 0,.string ⟨#[]⟩,.slice none 0 0,.slice none 0 0,.slice none 0 0,.int .i64 0,.slice none 0 0] 54))=w0:=⟨_,rfl⟩
 have AO:Below w.heap.size w w0:=hw0▸((((Below.refl _ _).alloc (Nat.le_refl _) _).alloc (by simp) _).alloc (by simp;omega) _).alloc (by simp;omega) _
 have LC:Loc w0 (w.heap.size) #[.int .i64 n,.int .i64 f]:=hw0▸(((AB (w) _ _ rfl).alloc _).alloc _).alloc _
 have A:Loc w0 (w.heap.size+1) #[.int .i64 t.id,.int .i64 t.vw,.int .i64 t.ak,.int .i64 t.vo,.int .i64 t.lo,.int .i64 t.n,.string t.s,.slice ao t.qw.length ca,.string t.d,.slice bo t.pool.length cb,.slice co t.tab.length cc,.slice od t.AZ.length cd,.int .i64 t.su,.slice oe t.held.length ce]:=hw0▸((AB (w.alloc _) _ _ (by simp)).alloc _).alloc _
 have MM:Loc w0 (w.heap.size+1+1) #[.int .i64 m.k,.int .i64 m.vw,.string m.bn,.int .i64 m.bv,.string m.bs,.slice am m.bw.length km,.int .i64 m.pv,.string m.ps,.slice bm m.pw.length lm,.int .i64 m.qv,.string m.qs,.slice cm m.qw.length nm,.int .i64 m.wh,.int .i64 m.fr,.int .i64 m.tu,.int .i64 m.am,.int .i64 m.no]:=hw0▸(AB ((w.alloc _).alloc _) _ _ (by simp)).alloc _
 have O:Loc w0 (w.heap.size+1+1+1) #[.int .i64 0,.int .i64 0,.int .i64 0,.int .i64 0,.int .i64 0,.int .i64 0,.string ⟨#[]⟩,.slice none 0 0,.string ⟨#[]⟩,.slice none 0 0,.slice none 0 0,.slice none 0 0,.int .i64 0,.slice none 0 0]:=hw0▸AB (((w.alloc _).alloc _).alloc _) _ _ (by simp)
 have DN:w.heap.size+1+1+1+1≤w0.heap.size:=by rw[←hw0];simp
 go_enter Tryz.func6,Tryz.ntmps6
 obtain⟨Ae,Aj⟩:=Cr LC 0 1
 go_wp2_with (first|(refine Ap A 54 _ rfl _ rfl rfl Tryz.underlying54 rfl (by kernel_rfl) ?_))
 clear hw0
 refine(RO.out _ (HR.out.below AO)).mono ?_
 rintro _ w1 ⟨rfl,bb⟩
 clear Ae Aj
 have AP:=bu AO bb
 have Ct:=bb.size
 replace LC:=LC.up bb
 replace A:=A.up bb
 replace MM:=MM.up bb
 replace O:=O.up bb
 clear AO bb
 cases b0
 ·go_wp2_with (first|(refine Ap A 54 _ rfl _ rfl rfl Tryz.underlying54 rfl (by kernel_rfl) ?_))
  refine(CP.out _ (HR.out.below AP)).mono ?_
  rintro _ w2 ⟨u1,u2,u3,u4,u5,rfl,sR,bb⟩
  have Am:=bu AP bb
  have El:=bb.size
  replace LC:=LC.up bb
  replace A:=A.up bb
  replace MM:=MM.up bb
  replace O:=O.up bb
  clear AP bb
  obtain⟨aR,kR,rfl⟩:=sR.BS.q.form
  obtain⟨bR,lR,rfl⟩:=RT.Bw sR.BS.p
  obtain⟨cR,nR,rfl⟩:=sR.BS.tb.form
  obtain⟨dR,pR,rfl⟩:=RB.Bw sR.BS.d
  obtain⟨eR,qR,rfl⟩:=sR.BS.h.form
  go_wp2_with (first|(refine BH O 54 #[.int .i64 t.id,.int .i64 t.vw,.int .i64 t.ak,.int .i64 t.vo,.int .i64 t.lo,.int .i64 t.n,.string t.s,.slice aR t.qw.length kR,.string t.d,.slice bR t.pool.length lR,.slice cR t.tab.length nR,.slice dR t.AZ.length pR,.int .i64 t.su,.slice eR t.held.length qR] rfl _ _ rfl rfl rfl (by kernel_rfl) rfl (by simp[Value.oneCell']) ?_))
  obtain⟨wE,Bd⟩:∃Cj,w2.setRow (w.heap.size+1+1+1) #[.int .i64 t.id,.int .i64 t.vw,.int .i64 t.ak,.int .i64 t.vo,.int .i64 t.lo,.int .i64 t.n,.string t.s,.slice aR t.qw.length kR,.string t.d,.slice bR t.pool.length lR,.slice cR t.tab.length nR,.slice dR t.AZ.length pR,.int .i64 t.su,.slice eR t.held.length qR]=Cj:=⟨_,rfl⟩
  have kN:Kp w2 wE (fun k=>k=w.heap.size+1+1+1):=Bd▸Bz _ _ _
  replace O:Loc wE (w.heap.size+1+1+1) #[.int .i64 t.id,.int .i64 t.vw,.int .i64 t.ak,.int .i64 t.vo,.int .i64 t.lo,.int .i64 t.n,.string t.s,.slice aR t.qw.length kR,.string t.d,.slice bR t.pool.length lR,.slice cR t.tab.length nR,.slice dR t.AZ.length pR,.int .i64 t.su,.slice eR t.held.length qR]:=Bd▸O.row
  replace LC:=LC.kp kN (by omega)
  replace A:=A.kp kN (by omega)
  replace MM:=MM.kp kN (by omega)
  replace sR:=sR.kp kN (fun j h1 h2 e=>by omega)
  have FL:=Below.kp Am kN Am.size (fun k hk=>by omega)
  have Pg:=kN.size
  rw[Bd]
  clear Bd kN Am
  refine bodyPost_ret (v:= .tuple #[ES t (.slice aR t.qw.length kR) (.slice bR t.pool.length lR) (.slice cR t.tab.length nR) (.slice dR t.AZ.length pR) (.slice eR t.held.length qR),.bool false]) (Co Tryz.results6 _ O rfl Tryz.underlying54 rfl (by kernel_rfl)) rfl ?_
  exact⟨_,_,_,_,_,rfl,sR.mono (by omega) (by omega) (Nat.le_refl _),FL⟩
 go_upto_region 3 with fail
 try simp only[Act.put,List.setIfInBounds_toArray,List.set_cons_zero,List.set_cons_succ]
 go_cut [10,11] (fun c d1 wx=>∃(h lo lim n1 hi:Nat)(aR:Option Addr)(kR:Nat)(bR:Option Addr)(lR:Nat)(cR:Option Addr)(nR:Nat)(dR:Option Addr)(pR:Nat)(eY:Option Addr)(qY:Nat),c= .pointer (some ⟨h,0,none⟩)∧d1= .bool b1∧w1.heap.size≤h∧h<wx.heap.size∧Loc wx h #[.int .i64 u.id,.int .i64 u.vw,.int .i64 u.ak,.int .i64 u.vo,.int .i64 u.lo,.int .i64 u.n,.string u.s,.slice aR t.qw.length kR,.string u.d,.slice bR t.pool.length lR,.slice cR t.tab.length nR,.slice dR t.AZ.length pR,.int .i64 u.su,.slice eY u.held.length qY]∧(w1.heap.size≤lo∧lo≤lim∧lim≤n1∧n1≤hi∧hi≤wx.heap.size)∧EF wx w1.heap.size lo { t with held:=[] } (.slice aR t.qw.length kR) (.slice bR t.pool.length lR) (.slice cR t.tab.length nR) (.slice dR t.AZ.length pR) (.slice none 0 0)∧Iw wx (fun j=>lo≤j∧j<lim∨n1≤j∧j<hi) (.slice eY u.held.length qY) u.held∧Below w1.heap.size w1 wx)
 case first=>
  have K:=kw (ka (Ia LC 0 1) (ka (kL A) (kL MM)))
  refine Ey K (fun bA hHeld=>?_)
  obtain⟨wd3,hwd⟩:∃y,w1.drew=y:=⟨_,rfl⟩
  rw[hwd]at bA hHeld⊢
  clear hwd
  have vV:=bA.size
  refine tx 0 19 ?_
  refine take_at (i:=1) (d:=20) (v:= .agg #[.int .i64 t.id,.int .i64 t.vw,.int .i64 t.ak,.int .i64 t.vo,.int .i64 t.lo,.int .i64 t.n,.string t.s,.slice ao t.qw.length ca,.string t.d,.slice bo t.pool.length cb,.slice co t.tab.length cc,.slice od t.AZ.length cd,.int .i64 t.su,.slice oe t.held.length ce]) rfl rfl (by kernel_rfl) (by kernel_rfl) (by kernel_rfl) (fun _ _ _ h=>h) ?_ (by assumption) ?_
  ·exact A7 rfl 54 _ rfl rfl _ (fun w h=>h.2.2.1) Tryz.underlying54 rfl (by kernel_rfl)
  simp only[pU]
  refine tx 3 22 ?_
  refine take_at (i:=4) (d:=23) (v:= .agg #[.int .i64 m.k,.int .i64 m.vw,.string m.bn,.int .i64 m.bv,.string m.bs,.slice am m.bw.length km,.int .i64 m.pv,.string m.ps,.slice bm m.pw.length lm,.int .i64 m.qv,.string m.qs,.slice cm m.qw.length nm,.int .i64 m.wh,.int .i64 m.fr,.int .i64 m.tu,.int .i64 m.am,.int .i64 m.no]) rfl rfl (by kernel_rfl) (by kernel_rfl) (by kernel_rfl) (fun _ _ _ h=>h) ?_ (by assumption) ?_
  ·exact A7 rfl 65 _ rfl rfl _ (fun w h=>h.2.2.2) Tryz.underlying65 rfl (by kernel_rfl)
  simp only[pU]
  refine wpAnyH_ready (rs:=[2,9]) (by kernel_rfl) (by simp) (AllReadyH.cons rfl (fun KK AA=>?_) (AllReadyH.cons rfl (fun KK AA=>?_) AllReadyH.nil))
  ·go_simp
   refine(CO.out _ (HR.out.below (bu AP bA))).mono ?_
   rintro e EI ⟨u1,u2,u3,u4,u5,rfl,lo,g1,g2,sT,oY,bb⟩
   have Kl:Below w1.heap.size w1 EI:=bu bA bb
   clear hHeld
   refine AA.out _ _ (K.out _ Kl) (fun hHeld=>?_)
   clear AA KK bA
   have AAO:=bb.size
   clear bb
   obtain⟨aR,kR,rfl⟩:∃ao ca,u1= .slice ao t.qw.length ca:=sT.BS.q.form
   obtain⟨bR,lR,rfl⟩:∃ao ca,u2= .slice ao t.pool.length ca:=RT.Bw sT.BS.p
   obtain⟨cR,nR,rfl⟩:∃ao ca,u3= .slice ao t.tab.length ca:=sT.BS.tb.form
   obtain⟨dR,pR,rfl⟩:∃ao ca,u4= .slice ao t.AZ.length ca:=RB.Bw sT.BS.d
   obtain⟨eR,qR,rfl⟩:=oY.form
   have hel:∀j,(Value.slice eR t.held.length qR).ownBlock=some j→lo≤j∧j<EI.heap.size:=by obtain⟨rows,g,_,_⟩:=oY;exact g.lt
   have tJ:=hide oY
   clear oY
   have bl:From EI EI:=Below.refl _ _
   refine wpAnyH_ready (rs:=[5,9]) (by kernel_rfl) (by simp) (AllReadyH.cons rfl (fun KK AA=>?_) (AllReadyH.cons rfl (fun KK AA=>?_) AllReadyH.nil))
   ·go_simp
    refine(LT.out (by trivial) _ _ _ _ _ _ _ _ _ _ lo EI _ bl (by omega) (HX.out.below (bu AP Kl)) (HY.out.below (bu AP Kl)) (HZ.out.below (bu AP Kl)) tJ.out).mono ?_
    rintro e Gr ⟨eY,qY,rfl,sP,kK⟩
    have jl:Below w1.heap.size w1 Gr:=Below.kp Kl kK Kl.size (fun j e=>by have:=hel j e;omega)
    replace sT:=sT.kp kK (fun j h1 h2 e=>by have:=hel j e;omega)
    have AAN:=kK.size
    have slb:=Below.size bl
    obtain⟨lim,hlim⟩:∃x,EI.heap.size=x:=⟨_,rfl⟩
    obtain⟨hi,hhi⟩:∃x,Gr.heap.size=x:=⟨_,rfl⟩
    rw[hlim,hhi]at sP
    have zP:=Nat.le_of_eq hhi
    have hh2:=Nat.le_of_eq hhi.symm
    have hh3:=Nat.le_of_eq hlim
    have hh4:=Nat.le_of_eq hlim.symm
    clear hhi hlim kK tJ bl hel hHeld
    refine AA.out _ _ (K.out _ jl) (fun hHeld=>?_)
    clear AA KK Kl
    refine tx 6 18 ?_
    refine tx 7 25 ?_
    refine tx 8 26 ?_
    refine rd 9 rfl (fun KK AA=>?_)
    go_simp
    obtain⟨Nh,hq⟩:∃y,Gr.alloc (.cells #[.int .i64 0,.int .i64 0,.int .i64 0,.int .i64 0,.int .i64 0,.int .i64 0,.string ⟨#[]⟩,.slice none 0 0,.string ⟨#[]⟩,.slice none 0 0,.slice none 0 0,.slice none 0 0,.int .i64 0,.slice none 0 0] 54)=y:=⟨_,rfl⟩
    have bb:Below Gr.heap.size Gr Nh:=hq▸Ag _ _
    have Zc:Below w1.heap.size w1 Nh:=bu jl bb
    have G:Loc Nh Gr.heap.size #[.int .i64 0,.int .i64 0,.int .i64 0,.int .i64 0,.int .i64 0,.int .i64 0,.string ⟨#[]⟩,.slice none 0 0,.string ⟨#[]⟩,.slice none 0 0,.slice none 0 0,.slice none 0 0,.int .i64 0,.slice none 0 0]:=hq▸AB Gr _ _ rfl
    have zk:Nh.heap.size=Gr.heap.size+1:=by rw[←hq];simp
    rw[hq]
    clear hHeld hq
    refine AA.out _ _ (K.out _ Zc) (fun hHeld=>?_)
    clear AA KK jl
    have AAM:=bb.size
    replace sT:=sT.below bb
    replace sP:=sP.below bb
    clear bb
    refine rd 10 rfl (fun KK AA=>?_)
    rw[if_pos (by rfl)]
    refine wp_store_mid 54 (.tmp 10) (.tmp 25) rfl (Gr.heap.size) 0 #[.int .i64 u.id,.int .i64 u.vw,.int .i64 u.ak,.int .i64 u.vo,.int .i64 u.lo,.int .i64 u.n,.string u.s,.slice aR t.qw.length kR,.string u.d,.slice bR t.pool.length lR,.slice cR t.tab.length nR,.slice dR t.AZ.length pR,.int .i64 u.su,.slice eY u.held.length qY] rfl rfl (G.there 0 14 (by simp)) (by kernel_rfl) (by simp[Value.oneCell']) ?_
    obtain⟨gF,hq⟩:∃y,Nh.setCells (Gr.heap.size) 0 [.int .i64 u.id,.int .i64 u.vw,.int .i64 u.ak,.int .i64 u.vo,.int .i64 u.lo,.int .i64 u.n,.string u.s,.slice aR t.qw.length kR,.string u.d,.slice bR t.pool.length lR,.slice cR t.tab.length nR,.slice dR t.AZ.length pR,.int .i64 u.su,.slice eY u.held.length qY]=y:=⟨_,rfl⟩
    have kN:Kp Nh gF (fun k=>k=Gr.heap.size):=hq▸Ab _ _ _ _
    have jk:=Below.kp Zc kN Zc.size (fun j e=>by omega)
    replace G:Loc gF (Gr.heap.size) #[.int .i64 u.id,.int .i64 u.vw,.int .i64 u.ak,.int .i64 u.vo,.int .i64 u.lo,.int .i64 u.n,.string u.s,.slice aR t.qw.length kR,.string u.d,.slice bR t.pool.length lR,.slice cR t.tab.length nR,.slice dR t.AZ.length pR,.int .i64 u.su,.slice eY u.held.length qY]:=hq▸G.setCells _ _ rfl
    rw[show Nh.setCells (Gr.heap.size) 0 (Array.toList #[.int .i64 u.id,.int .i64 u.vw,.int .i64 u.ak,.int .i64 u.vo,.int .i64 u.lo,.int .i64 u.n,.string u.s,.slice aR t.qw.length kR,.string u.d,.slice bR t.pool.length lR,.slice cR t.tab.length nR,.slice dR t.AZ.length pR,.int .i64 u.su,.slice eY u.held.length qY])=gF from hq]
    clear hHeld
    refine AA.out _ _ (K.out _ jk) (fun hHeld=>?_)
    clear AA KK Zc
    replace sT:=sT.kp kN (fun j h1 h2 e=>by omega)
    replace sP:=sP.kp kN (fun j hj e=>by omega)
    have AAL:=kN.size
    clear hq kN
    refine tx 11 11 ?_
    clear hHeld
    refine Bt ?_
    have bW:=jk
    clear K jk
    go_wp2_with fail
    go_meet
    refine⟨_,_,_,_,_,_,_,_,_,_,_,_,_,_,_,rfl,rfl,?_,G.lt,G,⟨?_,?_,?_,?_,?_⟩,sT.mono (by omega) (Nat.le_refl _) (by omega),sP,bW⟩<;>omega
   go_simp
   obtain⟨Tn,hq⟩:∃y,EI.alloc (.cells #[.int .i64 0,.int .i64 0,.int .i64 0,.int .i64 0,.int .i64 0,.int .i64 0,.string ⟨#[]⟩,.slice none 0 0,.string ⟨#[]⟩,.slice none 0 0,.slice none 0 0,.slice none 0 0,.int .i64 0,.slice none 0 0] 54)=y:=⟨_,rfl⟩
   have bb:Below EI.heap.size EI Tn:=hq▸Ag _ _
   have Jk:Below w1.heap.size w1 Tn:=bu Kl bb
   have G:Loc Tn EI.heap.size #[.int .i64 0,.int .i64 0,.int .i64 0,.int .i64 0,.int .i64 0,.int .i64 0,.string ⟨#[]⟩,.slice none 0 0,.string ⟨#[]⟩,.slice none 0 0,.slice none 0 0,.slice none 0 0,.int .i64 0,.slice none 0 0]:=hq▸AB EI _ _ rfl
   have zi:Tn.heap.size=EI.heap.size+1:=by rw[←hq];simp
   rw[hq]
   clear hHeld hq
   refine AA.out _ _ (K.out _ Jk) (fun hHeld=>?_)
   clear AA KK Kl
   have AAK:=bb.size
   replace sT:=sT.below bb
   replace bl:=bl.below bb
   clear bb
   refine rd 5 rfl (fun KK AA=>?_)
   go_simp
   refine(LT.out (by trivial) _ _ _ _ _ _ _ _ _ _ lo EI _ bl (by omega) (HX.out.below (bu AP Jk)) (HY.out.below (bu AP Jk)) (HZ.out.below (bu AP Jk)) tJ.out).mono ?_
   rintro e Nj ⟨eY,qY,rfl,sP,kK⟩
   have TF:Below w1.heap.size w1 Nj:=Below.kp Jk kK Jk.size (fun j e=>by have:=hel j e;omega)
   replace G:=G.kp kK (fun e=>by have:=hel _ e;omega)
   replace sT:=sT.kp kK (fun j h1 h2 e=>by have:=hel j e;omega)
   have yu:=kK.size
   have slb:=Below.size bl
   obtain⟨lim,hlim⟩:∃x,EI.heap.size=x:=⟨_,rfl⟩
   obtain⟨n1,hn1⟩:∃x,Tn.heap.size=x:=⟨_,rfl⟩
   obtain⟨hi,hhi⟩:∃x,Nj.heap.size=x:=⟨_,rfl⟩
   rw[hlim,hn1,hhi]at sP
   have zP:=Nat.le_of_eq hhi
   have hh2:=Nat.le_of_eq hhi.symm
   have hh3:=Nat.le_of_eq hlim
   have hh4:=Nat.le_of_eq hlim.symm
   have hh5:=Nat.le_of_eq hn1
   have hh6:=Nat.le_of_eq hn1.symm
   clear hn1 hhi hlim kK tJ bl hel hHeld
   refine AA.out _ _ (K.out _ TF) (fun hHeld=>?_)
   clear AA KK Jk
   refine tx 6 18 ?_
   refine tx 7 25 ?_
   refine tx 8 26 ?_
   refine rd 10 rfl (fun KK AA=>?_)
   rw[if_pos (by rfl)]
   refine wp_store_mid 54 (.tmp 10) (.tmp 25) rfl (EI.heap.size) 0 #[.int .i64 u.id,.int .i64 u.vw,.int .i64 u.ak,.int .i64 u.vo,.int .i64 u.lo,.int .i64 u.n,.string u.s,.slice aR t.qw.length kR,.string u.d,.slice bR t.pool.length lR,.slice cR t.tab.length nR,.slice dR t.AZ.length pR,.int .i64 u.su,.slice eY u.held.length qY] rfl rfl (G.there 0 14 (by simp)) (by kernel_rfl) (by simp[Value.oneCell']) ?_
   obtain⟨WX,hq⟩:∃y,Nj.setCells (EI.heap.size) 0 [.int .i64 u.id,.int .i64 u.vw,.int .i64 u.ak,.int .i64 u.vo,.int .i64 u.lo,.int .i64 u.n,.string u.s,.slice aR t.qw.length kR,.string u.d,.slice bR t.pool.length lR,.slice cR t.tab.length nR,.slice dR t.AZ.length pR,.int .i64 u.su,.slice eY u.held.length qY]=y:=⟨_,rfl⟩
   have kN:Kp Nj WX (fun k=>k=EI.heap.size):=hq▸Ab _ _ _ _
   have Yq:=Below.kp TF kN TF.size (fun j e=>by omega)
   replace G:Loc WX (EI.heap.size) #[.int .i64 u.id,.int .i64 u.vw,.int .i64 u.ak,.int .i64 u.vo,.int .i64 u.lo,.int .i64 u.n,.string u.s,.slice aR t.qw.length kR,.string u.d,.slice bR t.pool.length lR,.slice cR t.tab.length nR,.slice dR t.AZ.length pR,.int .i64 u.su,.slice eY u.held.length qY]:=hq▸G.setCells _ _ rfl
   rw[show Nj.setCells (EI.heap.size) 0 (Array.toList #[.int .i64 u.id,.int .i64 u.vw,.int .i64 u.ak,.int .i64 u.vo,.int .i64 u.lo,.int .i64 u.n,.string u.s,.slice aR t.qw.length kR,.string u.d,.slice bR t.pool.length lR,.slice cR t.tab.length nR,.slice dR t.AZ.length pR,.int .i64 u.su,.slice eY u.held.length qY])=WX from hq]
   clear hHeld
   refine AA.out _ _ (K.out _ Yq) (fun hHeld=>?_)
   clear AA KK TF
   replace sT:=sT.kp kN (fun j h1 h2 e=>by omega)
   replace sP:=sP.kp kN (fun j hj e=>by omega)
   have yt:=kN.size
   clear hq kN
   refine tx 11 11 ?_
   clear hHeld
   refine Bt ?_
   have bW:=Yq
   clear K Yq
   go_wp2_with fail
   go_meet
   refine⟨_,_,_,_,_,_,_,_,_,_,_,_,_,_,_,rfl,rfl,?_,G.lt,G,⟨?_,?_,?_,?_,?_⟩,sT.mono (by omega) (Nat.le_refl _) (by omega),sP,bW⟩<;>omega
  go_simp
  obtain⟨RJ,hq⟩:∃y,wd3.alloc (.cells #[.int .i64 0,.int .i64 0,.int .i64 0,.int .i64 0,.int .i64 0,.int .i64 0,.string ⟨#[]⟩,.slice none 0 0,.string ⟨#[]⟩,.slice none 0 0,.slice none 0 0,.slice none 0 0,.int .i64 0,.slice none 0 0] 54)=y:=⟨_,rfl⟩
  have bb:Below wd3.heap.size wd3 RJ:=hq▸Ag _ _
  have TD:Below w1.heap.size w1 RJ:=bu bA bb
  have G:Loc RJ wd3.heap.size #[.int .i64 0,.int .i64 0,.int .i64 0,.int .i64 0,.int .i64 0,.int .i64 0,.string ⟨#[]⟩,.slice none 0 0,.string ⟨#[]⟩,.slice none 0 0,.slice none 0 0,.slice none 0 0,.int .i64 0,.slice none 0 0]:=hq▸AB wd3 _ _ rfl
  have yA:RJ.heap.size=wd3.heap.size+1:=by rw[←hq];simp
  rw[hq]
  clear hHeld hq
  refine AA.out _ _ (K.out _ TD) (fun hHeld=>?_)
  clear AA KK bA
  have yo:=bb.size
  clear bb
  refine rd 2 rfl (fun KK AA=>?_)
  go_simp
  refine(CO.out _ (HR.out.below (bu AP TD))).mono ?_
  rintro e Kt ⟨u1,u2,u3,u4,u5,rfl,lo,g1,g2,sT,oY,bb⟩
  have Jj:Below w1.heap.size w1 Kt:=bu TD bb
  clear hHeld
  refine AA.out _ _ (K.out _ Jj) (fun hHeld=>?_)
  clear AA KK TD
  have yn:=bb.size
  replace G:=G.up bb
  clear bb
  obtain⟨aR,kR,rfl⟩:∃ao ca,u1= .slice ao t.qw.length ca:=sT.BS.q.form
  obtain⟨bR,lR,rfl⟩:∃ao ca,u2= .slice ao t.pool.length ca:=RT.Bw sT.BS.p
  obtain⟨cR,nR,rfl⟩:∃ao ca,u3= .slice ao t.tab.length ca:=sT.BS.tb.form
  obtain⟨dR,pR,rfl⟩:∃ao ca,u4= .slice ao t.AZ.length ca:=RB.Bw sT.BS.d
  obtain⟨eR,qR,rfl⟩:=oY.form
  have hel:∀j,(Value.slice eR t.held.length qR).ownBlock=some j→lo≤j∧j<Kt.heap.size:=by obtain⟨rows,g,_,_⟩:=oY;exact g.lt
  have tJ:=hide oY
  clear oY
  have bl:From Kt Kt:=Below.refl _ _
  refine rd 5 rfl (fun KK AA=>?_)
  go_simp
  refine(LT.out (by trivial) _ _ _ _ _ _ _ _ _ _ lo Kt _ bl (by omega) (HX.out.below (bu AP Jj)) (HY.out.below (bu AP Jj)) (HZ.out.below (bu AP Jj)) tJ.out).mono ?_
  rintro e Ni ⟨eY,qY,rfl,sP,kK⟩
  have S_:Below w1.heap.size w1 Ni:=Below.kp Jj kK Jj.size (fun j e=>by have:=hel j e;omega)
  replace G:=G.kp kK (fun e=>by have:=hel _ e;omega)
  replace sT:=sT.kp kK (fun j h1 h2 e=>by have:=hel j e;omega)
  have ym:=kK.size
  have slb:=Below.size bl
  obtain⟨lim,hlim⟩:∃x,Kt.heap.size=x:=⟨_,rfl⟩
  obtain⟨hi,hhi⟩:∃x,Ni.heap.size=x:=⟨_,rfl⟩
  rw[hlim,hhi]at sP
  have zP:=Nat.le_of_eq hhi
  have hh2:=Nat.le_of_eq hhi.symm
  have hh3:=Nat.le_of_eq hlim
  have hh4:=Nat.le_of_eq hlim.symm
  clear hhi hlim kK tJ bl hel hHeld
  refine AA.out _ _ (K.out _ S_) (fun hHeld=>?_)
  clear AA KK Jj
  refine tx 6 18 ?_
  refine tx 7 25 ?_
  refine tx 8 26 ?_
  refine rd 10 rfl (fun KK AA=>?_)
  rw[if_pos (by rfl)]
  refine wp_store_mid 54 (.tmp 10) (.tmp 25) rfl (wd3.heap.size) 0 #[.int .i64 u.id,.int .i64 u.vw,.int .i64 u.ak,.int .i64 u.vo,.int .i64 u.lo,.int .i64 u.n,.string u.s,.slice aR t.qw.length kR,.string u.d,.slice bR t.pool.length lR,.slice cR t.tab.length nR,.slice dR t.AZ.length pR,.int .i64 u.su,.slice eY u.held.length qY] rfl rfl (G.there 0 14 (by simp)) (by kernel_rfl) (by simp[Value.oneCell']) ?_
  obtain⟨WW,hq⟩:∃y,Ni.setCells (wd3.heap.size) 0 [.int .i64 u.id,.int .i64 u.vw,.int .i64 u.ak,.int .i64 u.vo,.int .i64 u.lo,.int .i64 u.n,.string u.s,.slice aR t.qw.length kR,.string u.d,.slice bR t.pool.length lR,.slice cR t.tab.length nR,.slice dR t.AZ.length pR,.int .i64 u.su,.slice eY u.held.length qY]=y:=⟨_,rfl⟩
  have kN:Kp Ni WW (fun k=>k=wd3.heap.size):=hq▸Ab _ _ _ _
  have Yp:=Below.kp S_ kN S_.size (fun j e=>by omega)
  replace G:Loc WW (wd3.heap.size) #[.int .i64 u.id,.int .i64 u.vw,.int .i64 u.ak,.int .i64 u.vo,.int .i64 u.lo,.int .i64 u.n,.string u.s,.slice aR t.qw.length kR,.string u.d,.slice bR t.pool.length lR,.slice cR t.tab.length nR,.slice dR t.AZ.length pR,.int .i64 u.su,.slice eY u.held.length qY]:=hq▸G.setCells _ _ rfl
  rw[show Ni.setCells (wd3.heap.size) 0 (Array.toList #[.int .i64 u.id,.int .i64 u.vw,.int .i64 u.ak,.int .i64 u.vo,.int .i64 u.lo,.int .i64 u.n,.string u.s,.slice aR t.qw.length kR,.string u.d,.slice bR t.pool.length lR,.slice cR t.tab.length nR,.slice dR t.AZ.length pR,.int .i64 u.su,.slice eY u.held.length qY])=WW from hq]
  clear hHeld
  refine AA.out _ _ (K.out _ Yp) (fun hHeld=>?_)
  clear AA KK S_
  replace sT:=sT.kp kN (fun j h1 h2 e=>by omega)
  replace sP:=sP.kp kN (fun j hj e=>by omega)
  have yj:=kN.size
  clear hq kN
  refine tx 11 11 ?_
  clear hHeld
  refine Bt ?_
  have bW:=Yp
  clear K Yp
  go_wp2_with fail
  go_meet
  refine⟨_,_,_,_,_,_,_,_,_,_,_,_,_,_,_,rfl,rfl,?_,G.lt,G,⟨?_,?_,?_,?_,?_⟩,sT.mono (by omega) (Nat.le_refl _) (by omega),sP,bW⟩<;>omega
 case rest=>
 obtain⟨w2,hwq⟩:∃x,x=wc:=⟨_,rfl⟩
 subst hwq
 obtain⟨hG,lo,lim,n1,hi,aR,kR,bR,lR,cR,nR,dR,pR,eY,qY,rfl,rfl,hG1,hG2,G,⟨r1,r2,r3,r4,r5⟩,sT,sP,bb⟩:=hcut
 have Am:=bu AP bb
 have El:=bb.size
 replace LC:=LC.up bb
 replace A:=A.up bb
 replace MM:=MM.up bb
 replace O:=O.up bb
 clear AP bb
 go_wp2_with (first|(refine Ap G 54 _ rfl _ rfl rfl Tryz.underlying54 rfl (by kernel_rfl) ?_)|(refine BH O 54 #[.int .i64 u.id,.int .i64 u.vw,.int .i64 u.ak,.int .i64 u.vo,.int .i64 u.lo,.int .i64 u.n,.string u.s,.slice aR t.qw.length kR,.string u.d,.slice bR t.pool.length lR,.slice cR t.tab.length nR,.slice dR t.AZ.length pR,.int .i64 u.su,.slice eY u.held.length qY] rfl _ _ rfl rfl rfl (by kernel_rfl) rfl (by simp[Value.oneCell']) ?_))
 obtain⟨wE,Bd⟩:∃Cj,w2.setRow (w.heap.size+1+1+1) #[.int .i64 u.id,.int .i64 u.vw,.int .i64 u.ak,.int .i64 u.vo,.int .i64 u.lo,.int .i64 u.n,.string u.s,.slice aR t.qw.length kR,.string u.d,.slice bR t.pool.length lR,.slice cR t.tab.length nR,.slice dR t.AZ.length pR,.int .i64 u.su,.slice eY u.held.length qY]=Cj:=⟨_,rfl⟩
 have kN:Kp w2 wE (fun k=>k=w.heap.size+1+1+1):=Bd▸Bz _ _ _
 replace O:Loc wE (w.heap.size+1+1+1) #[.int .i64 u.id,.int .i64 u.vw,.int .i64 u.ak,.int .i64 u.vo,.int .i64 u.lo,.int .i64 u.n,.string u.s,.slice aR t.qw.length kR,.string u.d,.slice bR t.pool.length lR,.slice cR t.tab.length nR,.slice dR t.AZ.length pR,.int .i64 u.su,.slice eY u.held.length qY]:=Bd▸O.row
 replace LC:=LC.kp kN (by omega)
 replace A:=A.kp kN (by omega)
 replace MM:=MM.kp kN (by omega)
 replace G:=G.kp kN (by omega)
 replace sT:=sT.kp kN (fun j h1 h2 e=>by omega)
 replace sP:=sP.kp kN (fun j hj e=>by omega)
 have FL:=Below.kp Am kN Am.size (fun k hk=>by omega)
 have Pg:=kN.size
 rw[Bd]
 clear Bd kN Am
 refine bodyPost_ret (v:= .tuple #[ES u (.slice aR t.qw.length kR) (.slice bR t.pool.length lR) (.slice cR t.tab.length nR) (.slice dR t.AZ.length pR) (.slice eY u.held.length qY),.bool b1]) (Co Tryz.results6 _ O rfl Tryz.underlying54 rfl (by kernel_rfl)) rfl ?_
 exact⟨_,_,_,_,_,rfl,((SL.out _ _ _ wE.heap.size _ _ _ _ _ _ sT sP (by omega) (Nat.le_refl _) (fun j hj=>by omega)).mono (by omega) (Nat.le_refl _) (Nat.le_refl _)),FL⟩
theorem gQ(n f:Int)(t t2:Bu)(b:Bool)(g0 g1 g2 g3:Nat)(ao bo co od oe:Option Addr)(ca cb cc cd ce:Nat)(w:World)(hm:JF t)(hs:uK t)(hz:RZ t)(hm2:JF t2)(hz2:RZ t2)(hE:Env w)(h:Ei w t (.slice ao t.qw.length ca) (.slice bo t.pool.length cb) (.slice co t.tab.length cc) (.slice od t.AZ.length cd) (.slice oe t.held.length ce))
 (step:Eg n f t=true→∀w',Below w.heap.size w w'→Calls Tryz.prog 37 #[.pointer (some ⟨g0,0,none⟩),.pointer (some ⟨g1,0,none⟩),.pointer (some ⟨g2,0,none⟩),.pointer (some ⟨g3,0,none⟩)] w' fun r w''=>∃(a2:Option Addr)(k2:Nat)(b2:Option Addr)(l2:Nat)(c2:Option Addr)(n2:Nat)(d2:Option Addr)(p2:Nat)(e2:Option Addr)(q2:Nat),r= .returned (.tuple #[ES t2 (.slice a2 t2.qw.length k2) (.slice b2 t2.pool.length l2) (.slice c2 t2.tab.length n2) (.slice d2 t2.AZ.length p2) (.slice e2 t2.held.length q2),.bool b])∧Ei w'' t2 (.slice a2 t2.qw.length k2) (.slice b2 t2.pool.length l2) (.slice c2 t2.tab.length n2) (.slice d2 t2.AZ.length p2) (.slice e2 t2.held.length q2)∧Below w'.heap.size w' w''):
 Calls Tryz.prog 36 #[ES t (.slice ao t.qw.length ca) (.slice bo t.pool.length cb) (.slice co t.tab.length cc) (.slice od t.AZ.length cd) (.slice oe t.held.length ce),cv n f,.func (.func 37) #[] #[.pointer (some ⟨g0,0,none⟩),.pointer (some ⟨g1,0,none⟩),.pointer (some ⟨g2,0,none⟩),.pointer (some ⟨g3,0,none⟩)]] w fun r w'=>∃a b_ c d e,r= .returned (.tuple #[ES (if(Eg n f t&&b)=true then t2 else t) a b_ c d e,.bool (Eg n f t&&b)])∧Dh w' w.heap.size w'.heap.size (if(Eg n f t&&b)=true then t2 else t) a b_ c d e∧Below w.heap.size w w':=by
 have RO:=hide fun w he h=>dW n f t ao bo co od oe ca cb cc cd ce w hm hs he h
 have TL:=hide fun w h=>QZ t ao bo co od oe ca cb cc cd ce w hm hz h
 have T2:=hide fun a2 k2 b2 l2 c2 n2 d2 p2 e2 q2 w h=>QZ t2 a2 b2 c2 d2 e2 k2 l2 n2 p2 q2 w hm2 hz2 h
 have ST:=hide step
 have HR:=hide h
 have HE:=hide hE
 clear h hE hs hm hz hm2 hz2 step
 generalize Eg n f t=b0 at *
 obtain⟨w0,hw0,AO,A,LC,O,DN⟩:=qI w #[.int .i64 t.id,.int .i64 t.vw,.int .i64 t.ak,.int .i64 t.vo,.int .i64 t.lo,.int .i64 t.n,.string t.s,.slice ao t.qw.length ca,.string t.d,.slice bo t.pool.length cb,.slice co t.tab.length cc,.slice od t.AZ.length cd,.int .i64 t.su,.slice oe t.held.length ce] 54 #[.int .i64 n,.int .i64 f] 57 #[.int .i64 0,.int .i64 0,.int .i64 0,.int .i64 0,.int .i64 0,.int .i64 0,.string ⟨#[]⟩,.slice none 0 0,.string ⟨#[]⟩,.slice none 0 0,.slice none 0 0,.slice none 0 0,.int .i64 0,.slice none 0 0] 54
 go_enter Tryz.func36,Tryz.ntmps36
 obtain⟨Ae,Aj⟩:=Cr LC 0 1
 go_wp2_with (first|(refine Ap A 54 _ rfl _ rfl rfl Tryz.underlying54 rfl (by kernel_rfl) ?_))
 clear hw0
 refine(RO.out _ (HE.out.below AO) (HR.out.below AO)).mono ?_
 rintro _ w1 ⟨rfl,bb⟩
 clear Ae Aj
 have AP:=bu AO bb
 have Ct:=bb.size
 replace A:=A.up bb
 replace LC:=LC.up bb
 replace O:=O.up bb
 clear AO bb
 cases b0
 ·go_wp2_with (first|(refine Ap A 54 _ rfl _ rfl rfl Tryz.underlying54 rfl (by kernel_rfl) ?_))
  refine(TL.out _ (HR.out.below AP)).mono ?_
  rintro _ w2 ⟨u1,u2,u3,u4,u5,rfl,oR,bb⟩
  have Am:=bu AP bb
  have El:=bb.size
  replace A:=A.up bb
  replace LC:=LC.up bb
  replace O:=O.up bb
  clear AP bb
  obtain⟨aR,kR,bR,lR,cR,nR,dR,pR,eR,qR,rfl,rfl,rfl,rfl,rfl⟩:=oR.form
  go_wp2_with (first|(refine BH O 54 #[.int .i64 t.id,.int .i64 t.vw,.int .i64 t.ak,.int .i64 t.vo,.int .i64 t.lo,.int .i64 t.n,.string t.s,.slice aR t.qw.length kR,.string t.d,.slice bR t.pool.length lR,.slice cR t.tab.length nR,.slice dR t.AZ.length pR,.int .i64 t.su,.slice eR t.held.length qR] rfl _ _ rfl rfl rfl (by kernel_rfl) rfl (by simp[Value.oneCell']) ?_))
  obtain⟨wE,Bd⟩:∃Cj,w2.setRow (w.heap.size+1+1) #[.int .i64 t.id,.int .i64 t.vw,.int .i64 t.ak,.int .i64 t.vo,.int .i64 t.lo,.int .i64 t.n,.string t.s,.slice aR t.qw.length kR,.string t.d,.slice bR t.pool.length lR,.slice cR t.tab.length nR,.slice dR t.AZ.length pR,.int .i64 t.su,.slice eR t.held.length qR]=Cj:=⟨_,rfl⟩
  have kN:Kp w2 wE (fun k=>k=w.heap.size+1+1):=Bd▸Bz _ _ _
  replace O:Loc wE (w.heap.size+1+1) #[.int .i64 t.id,.int .i64 t.vw,.int .i64 t.ak,.int .i64 t.vo,.int .i64 t.lo,.int .i64 t.n,.string t.s,.slice aR t.qw.length kR,.string t.d,.slice bR t.pool.length lR,.slice cR t.tab.length nR,.slice dR t.AZ.length pR,.int .i64 t.su,.slice eR t.held.length qR]:=Bd▸O.row
  replace A:=A.kp kN (by omega)
  replace LC:=LC.kp kN (by omega)
  replace oR:=oR.kp kN (fun j h1 h2 e=>by omega)
  have FL:=Below.kp Am kN Am.size (fun k hk=>by omega)
  have Pg:=kN.size
  rw[Bd]
  clear Bd kN Am
  refine bodyPost_ret (v:= .tuple #[ES t (.slice aR t.qw.length kR) (.slice bR t.pool.length lR) (.slice cR t.tab.length nR) (.slice dR t.AZ.length pR) (.slice eR t.held.length qR),.bool false]) (Co Tryz.results36 _ O rfl Tryz.underlying54 rfl (by kernel_rfl)) rfl ?_
  exact⟨_,_,_,_,_,rfl,oR.mono (by omega) (by omega) (Nat.le_refl _),FL⟩
 go_wp2_with fail
 refine(ST.out (by trivial) _ AP).mono ?_
 rintro _ w2 ⟨a2,k2,b2,l2,c2,n2,d2,p2,e2,q2,rfl,r2,bb⟩
 have Am:=bu AP bb
 have El:=bb.size
 replace A:=A.up bb
 replace LC:=LC.up bb
 replace O:=O.up bb
 clear AP bb
 go_upto_region 3 with(refine BH (AB w2 #[.int .i64 0,.int .i64 0,.int .i64 0,.int .i64 0,.int .i64 0,.int .i64 0,.string ⟨#[]⟩,.slice none 0 0,.string ⟨#[]⟩,.slice none 0 0,.slice none 0 0,.slice none 0 0,.int .i64 0,.slice none 0 0] 54 rfl) 54 #[.int .i64 t2.id,.int .i64 t2.vw,.int .i64 t2.ak,.int .i64 t2.vo,.int .i64 t2.lo,.int .i64 t2.n,.string t2.s,.slice a2 t2.qw.length k2,.string t2.d,.slice b2 t2.pool.length l2,.slice c2 t2.tab.length n2,.slice d2 t2.AZ.length p2,.int .i64 t2.su,.slice e2 t2.held.length q2] rfl _ _ rfl rfl rfl (by kernel_rfl) rfl (by simp[Value.oneCell']) ?_)
 obtain⟨w3,hw3⟩:∃y,(w2.alloc (.cells #[.int .i64 0,.int .i64 0,.int .i64 0,.int .i64 0,.int .i64 0,.int .i64 0,.string ⟨#[]⟩,.slice none 0 0,.string ⟨#[]⟩,.slice none 0 0,.slice none 0 0,.slice none 0 0,.int .i64 0,.slice none 0 0] 54)).setRow w2.heap.size #[.int .i64 t2.id,.int .i64 t2.vw,.int .i64 t2.ak,.int .i64 t2.vo,.int .i64 t2.lo,.int .i64 t2.n,.string t2.s,.slice a2 t2.qw.length k2,.string t2.d,.slice b2 t2.pool.length l2,.slice c2 t2.tab.length n2,.slice d2 t2.AZ.length p2,.int .i64 t2.su,.slice e2 t2.held.length q2]=y:=⟨_,rfl⟩
 rw[hw3]
 have bb:Below w2.heap.size w2 w3:=hw3▸EE _ _ _ _
 have S:Loc w3 w2.heap.size #[.int .i64 t2.id,.int .i64 t2.vw,.int .i64 t2.ak,.int .i64 t2.vo,.int .i64 t2.lo,.int .i64 t2.n,.string t2.s,.slice a2 t2.qw.length k2,.string t2.d,.slice b2 t2.pool.length l2,.slice c2 t2.tab.length n2,.slice d2 t2.AZ.length p2,.int .i64 t2.su,.slice e2 t2.held.length q2]:=hw3▸GX _ _ _ _
 have zw3:w3.heap.size=w2.heap.size+1:=by rw[←hw3];exact Fv _ _ _ _
 clear hw3
 have BP:=bu Am bb
 have IZ:=bb.size
 replace A:=A.up bb
 replace LC:=LC.up bb
 replace O:=O.up bb
 clear Am
 replace r2:=r2.below bb
 clear bb
 cases b
 ·clear r2
  go_wp2_with (first|(refine Ap A 54 _ rfl _ rfl rfl Tryz.underlying54 rfl (by kernel_rfl) ?_))
  refine(TL.out _ (HR.out.below BP)).mono ?_
  rintro _ w4 ⟨u1,u2,u3,u4,u5,rfl,oR,bb⟩
  have Cs:=bu BP bb
  have Ph:=bb.size
  replace A:=A.up bb
  replace LC:=LC.up bb
  replace O:=O.up bb
  replace S:=S.up bb
  clear BP bb
  obtain⟨aR,kR,bR,lR,cR,nR,dR,pR,eR,qR,rfl,rfl,rfl,rfl,rfl⟩:=oR.form
  go_wp2_with (first|(refine BH O 54 #[.int .i64 t.id,.int .i64 t.vw,.int .i64 t.ak,.int .i64 t.vo,.int .i64 t.lo,.int .i64 t.n,.string t.s,.slice aR t.qw.length kR,.string t.d,.slice bR t.pool.length lR,.slice cR t.tab.length nR,.slice dR t.AZ.length pR,.int .i64 t.su,.slice eR t.held.length qR] rfl _ _ rfl rfl rfl (by kernel_rfl) rfl (by simp[Value.oneCell']) ?_))
  obtain⟨wE,Bd⟩:∃Cj,w4.setRow (w.heap.size+1+1) #[.int .i64 t.id,.int .i64 t.vw,.int .i64 t.ak,.int .i64 t.vo,.int .i64 t.lo,.int .i64 t.n,.string t.s,.slice aR t.qw.length kR,.string t.d,.slice bR t.pool.length lR,.slice cR t.tab.length nR,.slice dR t.AZ.length pR,.int .i64 t.su,.slice eR t.held.length qR]=Cj:=⟨_,rfl⟩
  have kN:Kp w4 wE (fun k=>k=w.heap.size+1+1):=Bd▸Bz _ _ _
  replace O:Loc wE (w.heap.size+1+1) #[.int .i64 t.id,.int .i64 t.vw,.int .i64 t.ak,.int .i64 t.vo,.int .i64 t.lo,.int .i64 t.n,.string t.s,.slice aR t.qw.length kR,.string t.d,.slice bR t.pool.length lR,.slice cR t.tab.length nR,.slice dR t.AZ.length pR,.int .i64 t.su,.slice eR t.held.length qR]:=Bd▸O.row
  replace A:=A.kp kN (by omega)
  replace LC:=LC.kp kN (by omega)
  replace S:=S.kp kN (by omega)
  replace oR:=oR.kp kN (fun j h1 h2 e=>by omega)
  have FL:=Below.kp Cs kN Cs.size (fun k hk=>by omega)
  have Pg:=kN.size
  rw[Bd]
  clear Bd kN Cs
  refine bodyPost_ret (v:= .tuple #[ES t (.slice aR t.qw.length kR) (.slice bR t.pool.length lR) (.slice cR t.tab.length nR) (.slice dR t.AZ.length pR) (.slice eR t.held.length qR),.bool false]) (Co Tryz.results36 _ O rfl Tryz.underlying54 rfl (by kernel_rfl)) rfl ?_
  exact⟨_,_,_,_,_,rfl,oR.mono (by omega) (by omega) (Nat.le_refl _),FL⟩
 go_wp2_with (first|(refine Ap S 54 _ rfl _ rfl rfl Tryz.underlying54 rfl (by kernel_rfl) ?_))
 refine(T2.out _ _ _ _ _ _ _ _ _ _ _ r2).mono ?_
 rintro _ w4 ⟨u1,u2,u3,u4,u5,rfl,oR,bb⟩
 have Cs:=bu BP bb
 have Ph:=bb.size
 replace A:=A.up bb
 replace LC:=LC.up bb
 replace O:=O.up bb
 replace S:=S.up bb
 clear BP
 replace r2:=r2.below bb
 clear bb r2
 obtain⟨aR,kR,bR,lR,cR,nR,dR,pR,eR,qR,rfl,rfl,rfl,rfl,rfl⟩:=oR.form
 go_wp2_with (first|(refine BH O 54 #[.int .i64 t2.id,.int .i64 t2.vw,.int .i64 t2.ak,.int .i64 t2.vo,.int .i64 t2.lo,.int .i64 t2.n,.string t2.s,.slice aR t2.qw.length kR,.string t2.d,.slice bR t2.pool.length lR,.slice cR t2.tab.length nR,.slice dR t2.AZ.length pR,.int .i64 t2.su,.slice eR t2.held.length qR] rfl _ _ rfl rfl rfl (by kernel_rfl) rfl (by simp[Value.oneCell']) ?_))
 obtain⟨wE,Bd⟩:∃Cj,w4.setRow (w.heap.size+1+1) #[.int .i64 t2.id,.int .i64 t2.vw,.int .i64 t2.ak,.int .i64 t2.vo,.int .i64 t2.lo,.int .i64 t2.n,.string t2.s,.slice aR t2.qw.length kR,.string t2.d,.slice bR t2.pool.length lR,.slice cR t2.tab.length nR,.slice dR t2.AZ.length pR,.int .i64 t2.su,.slice eR t2.held.length qR]=Cj:=⟨_,rfl⟩
 have kN:Kp w4 wE (fun k=>k=w.heap.size+1+1):=Bd▸Bz _ _ _
 replace O:Loc wE (w.heap.size+1+1) #[.int .i64 t2.id,.int .i64 t2.vw,.int .i64 t2.ak,.int .i64 t2.vo,.int .i64 t2.lo,.int .i64 t2.n,.string t2.s,.slice aR t2.qw.length kR,.string t2.d,.slice bR t2.pool.length lR,.slice cR t2.tab.length nR,.slice dR t2.AZ.length pR,.int .i64 t2.su,.slice eR t2.held.length qR]:=Bd▸O.row
 replace A:=A.kp kN (by omega)
 replace LC:=LC.kp kN (by omega)
 replace S:=S.kp kN (by omega)
 replace oR:=oR.kp kN (fun j h1 h2 e=>by omega)
 have FL:=Below.kp Cs kN Cs.size (fun k hk=>by omega)
 have Pg:=kN.size
 rw[Bd]
 clear Bd kN Cs
 refine bodyPost_ret (v:= .tuple #[ES t2 (.slice aR t2.qw.length kR) (.slice bR t2.pool.length lR) (.slice cR t2.tab.length nR) (.slice dR t2.AZ.length pR) (.slice eR t2.held.length qR),.bool true]) (Co Tryz.results36 _ O rfl Tryz.underlying54 rfl (by kernel_rfl)) rfl ?_
 exact⟨_,_,_,_,_,rfl,oR.mono (by omega) (by omega) (Nat.le_refl _),FL⟩
end
end Go.Proofs.YtkmnfeihjjccmaaGreatDoor
