/- Lemmas; their conditions stand in each statement. -/
import Derived.Test.YtcjmcgolgbkknaaGreatDoorRSAN
set_option maxRecDepth 100000
set_option maxHeartbeats 16000000
set_option linter.unusedSectionVars false
set_option linter.unusedSimpArgs false
namespace Go.Proofs.YtcjmcgolgbkknaaGreatDoor
section
open Go.RowKit
variable [∀(a b c d:Int),Decidable (BD a b c d)] [∀(n f:Int),Decidable (A_ n f)]
theorem Ro{rs:List Pr}{r:Pr}(h:r ∈ rs):r.2.1.size+r.2.2.2.2.length≤Bv rs:=by
 induction rs with
 |nil=>simp at h
 |cons x rs ih=>
  rcases List.mem_cons.1 h with rfl|h
  ·simp only[Bv];omega
  have:=ih h;simp only[Bv];omega
theorem sO{rs:List Pr}{p:Pt}(h:p ∈ rs.map Y_):p.2.1.size+p.2.2.length≤Bv rs:=by
 obtain⟨r,hr,rfl⟩:=List.mem_map.1 h;exact Ro hr
theorem FL.below{W W':World}{ao:Option Addr}{rs:List Pr}(h:FL W ao rs)(hb:Below W.heap.size W W'):FL W' ao rs:=by
 rcases h with h|⟨g,off,rfl,h⟩
 ·exact .inl h
 refine .inr ⟨g,off,rfl,fun k hk=>?_⟩;obtain⟨c0,c1,c2⟩:=h k hk;have hg:=AL c0;exact⟨(hb.cell (p:=⟨g,off+k*3,none⟩) hg).trans c0,(hb.cell (p:=⟨g,off+k*3+1,none⟩) hg).trans c1,(hb.cell (p:=⟨g,off+k*3+2,none⟩) hg).trans c2⟩
def VR:List Pt→Nat
 | []=>0
 |p :: ps=>p.2.2.length+VR ps
theorem nu(k:Nat)(ps:List Pt):pend k ps=k+2*ps.length+VR ps:=by
 induction ps generalizing k with
 |nil=>simp[pend,VR]
 |cons p ps ih=>simp only[pend,VR,ih,List.length_cons];omega
theorem iP(k:Nat)(ps:List Pt)(h:∀p ∈ ps,p.2.2.length≤4194304):∀p ∈ NY k ps,p.2.2.length≤4194304:=by
 induction ps generalizing k with
 |nil=>simp[NY]
 |cons x ps ih=>
  intro p hp;simp only[NY,List.mem_cons]at hp;rcases hp with rfl|hp
  ·simp only[CQ];exact h x (by simp)
  exact ih _ (fun y hy=>h y (by simp[hy])) p hp
end
section
open Go.RowKit
variable [∀(a b c d:Int),Decidable (BD a b c d)] [∀(n f:Int),Decidable (A_ n f)] [∀(a b c d:Nat),Decidable (Dg a b c d)] [∀(x:T4),Decidable (Dt x)]
theorem RT.DD{w:World}{v:Value}{xs:List T4}(h:RT w v xs):∃ao ca,v= .slice ao xs.length ca:=by obtain⟨_,ao,ca,e,_⟩:=h;exact⟨ao,ca,e⟩
theorem SY(t:Cu)(a b c d e a' b' c' d' e':Value)(w:World)(hs:Mw t)(h:FK w t a b c d e)(h':FK w t a' b' c' d' e'):
 Calls Tryz.prog 11 #[I_ t a b c d e,I_ t a' b' c' d' e'] w fun r w'=>r= .returned (.bool true)∧Below w.heap.size w w':=by
 have HX:=hide h;have HY:=hide h';have T1:=hide fun w h h'=>Z_ t.vo t.lo t.n t.s a a' t.qw t.d w h h';have T2:=hide fun w h h'=>kF b b' t.pool w h h';have T3:=hide fun w h h'=>Xe c c' t.tab w (by have:=hs.tb;omega) h h';have wV:=hide fun w h h'=>aB d d' t.Ad t.su w h h';have T5:=hide fun w h h'=>Xd e e' t.held w (by have:=hs.h;omega) h h';obtain⟨oa,ka,rfl⟩:=h.q.form;obtain⟨ob,kb,rfl⟩:=RT.DD h.p;obtain⟨oc,kc,rfl⟩:=h.tb.form;obtain⟨od,kd,rfl⟩:=RB.DD h.d;obtain⟨oe,ke,rfl⟩:=h.h.form;obtain⟨sw,tQ,rfl⟩:=h'.q.form;obtain⟨vz,wI,rfl⟩:=RT.DD h'.p;obtain⟨vg,wH,rfl⟩:=h'.tb.form;obtain⟨od',kd',rfl⟩:=RB.DD h'.d;obtain⟨oe',ke',rfl⟩:=h'.h.form;clear h h' hs;obtain⟨w0,hw0,AP,A,B,De⟩:=Gf w #[.int .i64 t.id,.int .i64 t.vw,.int .i64 t.ak,.int .i64 t.vo,.int .i64 t.lo,.int .i64 t.n,.string t.s,.slice oa t.qw.length ka,.string t.d,.slice ob t.pool.length kb,.slice oc t.tab.length kc,.slice od t.Ad.length kd,.int .i64 t.su,.slice oe t.held.length ke] 46 #[.int .i64 t.id,.int .i64 t.vw,.int .i64 t.ak,.int .i64 t.vo,.int .i64 t.lo,.int .i64 t.n,.string t.s,.slice sw t.qw.length tQ,.string t.d,.slice vz t.pool.length wI,.slice vg t.tab.length wH,.slice od' t.Ad.length kd',.int .i64 t.su,.slice oe' t.held.length ke'] 46;go_enter Tryz.func11,Tryz.ntmps11
 obtain⟨CV,Dz,Dy⟩:=Ca A 0 1 2;obtain⟨cB0,cB1,cB2⟩:=Ca B 0 1 2;go_wp2_with (first|(refine Ay [.int .i64 t.vo,.int .i64 t.lo,.int .i64 t.n,.string t.s,.slice oa t.qw.length ka,.string t.d] (A.range 3 6 rfl) 40 _ rfl _ rfl rfl Tryz.underlying40 rfl (by kernel_rfl) ?_)|(refine Ay [.int .i64 t.vo,.int .i64 t.lo,.int .i64 t.n,.string t.s,.slice sw t.qw.length tQ,.string t.d] (B.range 3 6 rfl) 40 _ rfl _ rfl rfl Tryz.underlying40 rfl (by kernel_rfl) ?_))
 clear hw0;refine(T1.out _ (HX.out.q.below AP) (HY.out.q.below AP)).mono ?_;rintro _ w1 ⟨rfl,bb⟩;clear CV Dz Dy cB0 cB1 cB2;have AU:=bu AP bb;have DU:=bb.size;replace A:=A.up bb;replace B:=B.up bb;clear AP bb;have G7:=A.cell 9 rfl;have Nf:=B.cell 9 rfl;go_wp2_with fail
 refine(T2.out _ (HX.out.p.below AU) (HY.out.p.below AU)).mono ?_;rintro _ w2 ⟨rfl,bb⟩;clear G7 Nf;have Al:=bu AU bb;have FM:=bb.size;replace A:=A.up bb;replace B:=B.up bb;clear AU bb;have Co:=A.cell 10 rfl;have Fy:=B.cell 10 rfl;go_wp2_with fail
 refine(T3.out _ (HX.out.tb.below Al) (HY.out.tb.below Al)).mono ?_;rintro _ w3 ⟨rfl,bb⟩;clear Co Fy;have Bg:=bu Al bb;have I9:=bb.size;replace A:=A.up bb;replace B:=B.up bb;clear Al bb;go_wp2_with (first|(refine Ay [.slice od t.Ad.length kd,.int .i64 t.su] (A.range 11 2 rfl) 43 _ rfl _ rfl rfl Tryz.underlying43 rfl (by kernel_rfl) ?_)|(refine Ay [.slice od' t.Ad.length kd',.int .i64 t.su] (B.range 11 2 rfl) 43 _ rfl _ rfl rfl Tryz.underlying43 rfl (by kernel_rfl) ?_))
 refine(wV.out _ (HX.out.d.below Bg) (HY.out.d.below Bg)).mono ?_;rintro _ w4 ⟨rfl,bb⟩;have DN:=bu Bg bb;have Qj:=bb.size;replace A:=A.up bb;replace B:=B.up bb;clear Bg bb;have CR:=A.cell 13 rfl;have GL:=B.cell 13 rfl;go_wp2_with fail
 refine(T5.out _ (HX.out.h.below DN) (HY.out.h.below DN)).mono ?_;rintro _ w5 ⟨rfl,bb⟩;clear CR GL;have F5:=bu DN bb;have gP:=bb.size;replace A:=A.up bb;replace B:=B.up bb;clear DN bb;go_wp2;go_ret;exact⟨rfl,F5⟩
end
section
open Go.RowKit
theorem Mm(w:World):Calls Tryz.prog 174 #[] w fun e w'=>e= .returned (qv 0 ⟨#[]⟩ (.slice none 0 0))∧Below w.heap.size w w':=by
 go_enter Tryz.func174,Tryz.ntmps174
 go_wp2;refine bodyPost_ret (v:=qv 0 ⟨#[]⟩ (.slice none 0 0)) (by simp[results,Tryz.results174,go_sem]) rfl ?_;exact⟨rfl,Af _ _⟩
theorem WA(g o:Nat)(n:Int)(      s:ByteArray)(ao:Option Addr)(ca:Nat)(xs:List Int)(w:World)(hg:w.rangeAt g o [.int .i64 n,.string s,.slice ao xs.length ca])(ha:RI w (.slice ao xs.length ca) xs)(hs:s.size≤281474976710656):
 Calls Tryz.prog 151 #[.pointer (some ⟨g,o,none⟩)] w fun e w'=>∃u,e= .returned (qv n s u)∧OI w' w.heap.size u xs∧Below w.heap.size w w':=by
 have CL:=hide fun w=>Ed s w hs;have hgl:=Ci hg (by simp);obtain⟨w0,hw0⟩:∃w0,w.alloc zq=w0:=⟨_,rfl⟩
 have B0:Below w.heap.size w w0:=hw0▸Af _ _;have Z0:Loc w0 w.heap.size #[.int .i64 0,.string ⟨#[]⟩,.slice none 0 0]:=hw0▸AJ w _ _ rfl;have s0:w0.heap.size=w.heap.size+1:=by rw[←hw0];simp
 have G0:=AX hg B0 hgl;have G0l:=Ci G0 (by simp)
 have K:Hid (∀w',Below w0.heap.size w0 w'→Below w0.heap.size w0 w'∧w'.cell? ⟨g,o,none⟩=some (.int .i64 n)∧w'.cell? ⟨g,o+1,none⟩=some (.string s)):=hide fun w' hb=>
  ⟨hb,Ag (AX G0 hb G0l) 0 rfl,Ag (AX G0 hb G0l) 1 rfl⟩
 have RA:=hide ha;have HZ:=hide Z0;have HG:=hide G0;clear ha hg Z0 G0 G0l;go_enter Tryz.func151,Tryz.ntmps151
 go_upto_region 1 with fail
 clear hw0
 go_cut [3] (fun c wx=>∃h,c= .pointer (some ⟨h,0,none⟩)∧w0.heap.size≤h∧Loc wx h #[.int .i64 n,.string s,.slice none 0 0]∧Below w0.heap.size w0 wx)
 case first=>
  clear HZ HG RA;refine mG K (Below.drew (Below.refl _ _)) (fun hHeld=>?_);obtain⟨wd,hd⟩:∃wd,w0.drew=wd:=⟨_,rfl⟩
  have bd:Below w0.heap.size w0 wd:=hd▸Below.drew (Below.refl _ _);have zH:=bd.size;rw[hd]at hHeld⊢;clear hd;refine tx 0 4 ?_;refine tx 1 5 ?_;refine tx 2 6 ?_;refine tx 3 7 ?_;refine tx 4 8 ?_;refine tx 5 9 ?_;refine tx 6 10 ?_;refine tx 7 11 ?_;refine wpAnyH_ready (rs:=[8,10]) (by kernel_rfl) (by simp) (AllReadyH.cons rfl (fun KK AA=>?_) (AllReadyH.cons rfl (fun KK AA=>?_) AllReadyH.nil))
  ·go_simp;refine(CL.out _).mono ?_;rintro e OX ⟨rfl,Dn⟩;have bc1:Below w0.heap.size w0 OX:=bu bd Dn;have vM:=Dn.size;clear hHeld Dn;refine AA.out _ _ (K.out _ bc1) (fun hHeld=>?_);clear AA KK;refine tx 9 13 ?_;refine rd 10 rfl (fun KK AA=>?_);go_simp;obtain⟨mH,K9⟩:∃x,OX.alloc (.cells #[.int .i64 0,.string ⟨#[]⟩,.slice none 0 0] 38)=x:=⟨_,rfl⟩
   have wQ:Below w0.heap.size w0 mH:=K9▸bc1.alloc bc1.size _;have lg:Loc mH OX.heap.size #[.int .i64 0,.string ⟨#[]⟩,.slice none 0 0]:=K9▸AJ OX _ _ rfl;rw[K9];clear hHeld K9;refine AA.out _ _ (K.out _ wQ) (fun hHeld=>?_);clear AA KK;have q0:=lg.cell 0 rfl;have q1:=lg.cell 1 rfl;have q2:=lg.cell 2 rfl;have FG:=lg.frozen;refine rd 11 rfl (fun KK AA=>?_);go_simp;have bs:Below w0.heap.size w0 (((mH.setCell ⟨OX.heap.size,0,none⟩ (.int .i64 n)).setCell ⟨OX.heap.size,1,none⟩ (.string s)).setCell ⟨OX.heap.size,2,none⟩ (.slice none 0 0)):=Below.set (Below.set (Below.set wQ _ _ (by omega)) _ _ (by omega)) _ _ (by omega);clear hHeld;refine AA.out _ _ (K.out _ bs) (fun hHeld=>?_);clear AA KK hHeld;refine Bq ?_;go_wp2_with fail
   go_meet
   exact⟨_,rfl,by omega,((lg.set 0 _ rfl).set 1 _ rfl).set 2 _ rfl,bs⟩
  go_simp;obtain⟨vP,Kz⟩:∃x,wd.alloc (.cells #[.int .i64 0,.string ⟨#[]⟩,.slice none 0 0] 38)=x:=⟨_,rfl⟩
  have wP:Below w0.heap.size w0 vP:=Kz▸bd.alloc bd.size _;have lg:Loc vP wd.heap.size #[.int .i64 0,.string ⟨#[]⟩,.slice none 0 0]:=Kz▸AJ wd _ _ rfl;rw[Kz];clear hHeld Kz;refine AA.out _ _ (K.out _ wP) (fun hHeld=>?_);clear AA KK;refine rd 8 rfl (fun KK AA=>?_);go_simp;refine(CL.out _).mono ?_;rintro e vQ ⟨rfl,Dn⟩;have wT:Below w0.heap.size w0 vQ:=bu wP Dn;have vK:=Dn.size;have lg:=lg.up Dn;clear hHeld Dn;refine AA.out _ _ (K.out _ wT) (fun hHeld=>?_);clear AA KK;refine tx 9 13 ?_;have q0:=lg.cell 0 rfl;have q1:=lg.cell 1 rfl;have q2:=lg.cell 2 rfl;have FG:=lg.frozen;refine rd 11 rfl (fun KK AA=>?_);go_simp;have bs:Below w0.heap.size w0 (((vQ.setCell ⟨wd.heap.size,0,none⟩ (.int .i64 n)).setCell ⟨wd.heap.size,1,none⟩ (.string s)).setCell ⟨wd.heap.size,2,none⟩ (.slice none 0 0)):=Below.set (Below.set (Below.set wT _ _ (by omega)) _ _ (by omega)) _ _ (by omega);clear hHeld;refine AA.out _ _ (K.out _ bs) (fun hHeld=>?_);clear AA KK hHeld;refine Bq ?_;go_wp2_with fail
  go_meet
  exact⟨_,rfl,by omega,((lg.set 0 _ rfl).set 1 _ rfl).set 2 _ rfl,bs⟩
 case rest=>
 obtain⟨h,rfl,hh,LH,bw⟩:=hcut;have G1:=AX HG.out bw (Ci HG.out (by simp));have Z1:=HZ.out.below bw HZ.out.lt;have R1:=RA.out;have B1:Below w.heap.size w wc:=bu B0 bw;have s1:=bw.size;have l1:=LH.lt;have x2:=Ag G1 2 rfl;have y0:=Z1.cell 0 rfl;have y1:=Z1.cell 1 rfl;have y2:=Z1.cell 2 rfl;have fy:=Z1.frozen;have h0:=LH.cell 0 rfl;have h1:=LH.cell 1 rfl;have h2:=LH.cell 2 rfl;have fh:=LH.frozen;have hl:=R1.1;clear HG HZ RA K CL bw B0;by_cases hx:xs=[]
 ·subst hx;go_wp2;refine bodyPost_ret (v:=qv n s (.slice none 0 0)) (by simp[results,Tryz.results151,go_sem,y0,y1,y2]) rfl ?_;exact⟨_,rfl,World.ownsRow_nil _ _ _ _,Below.set (Below.set (Below.set B1 _ _ Ae) _ _ Ae) _ _ Ae⟩
 have hp:0<xs.length:=List.length_pos_iff.2 hx;obtain⟨cs,hcs⟩:∃cs,xs.map (Value.int .i64)=cs:=⟨_,rfl⟩
 have hcl:cs.length=xs.length:=by rw[←hcs];simp
 have hone:∀v ∈ cs,v.oneCell'=true:=by rw[←hcs];exact Fx xs
 obtain⟨ad,rfl,hcells⟩:∃ad,ao=some ad∧∀j u,cs[j]? =some u→w.cell? (ad.add j)=some u:=by
  obtain⟨_,Q7,Xp,e,hr⟩:=R1;cases e
  rcases hr with rfl|⟨b,off,rfl,hr⟩
  ·exact absurd rfl hx
  exact⟨_,rfl,hcs▸Gm hr⟩
 have hrows:∀w',Below w.heap.size w w'→∀j u,cs[j]? =some u→w'.cell? (ad.add j)=some u:=fun w' hb j u hj=>(hb.cell (AL (hcells j u hj))).trans (hcells j u hj);have HR:=hide hrows;have HC:=hide hcs;obtain⟨i0,hi,hz0,hz1,hz2⟩:=info_parts Tryz.info3;obtain⟨m,hm⟩:∃m,xs.length=m:=⟨_,rfl⟩
 rw[hm]at hl hcl hp x2 G1;have Hm:=hide hm;clear R1 hcells hrows hcs hm hx;have hgt:decide ((0:Int)<(m:Int))=true:=by simpa using hp
 go_upto_region 4 with (first | (at_make;refine wpList_make_full _ rfl _ _ 24 rfl wc.heap.size 3 i0 (.int .i64 0) 1 Tryz.underlying24 hi hz0 hz1 .i64 .i64 m m m rfl rfl rfl rfl (by rw[hz2];omega) (by unfold maxLen;omega) Ae ?_;intro w2 ho2 hg2
                                 have b2:Below wc.heap.size wc w2:=(Below.refl _ _).grown hg2 Ae (by simp);have L2:=LH.up b2;have k2:=L2.cell 2 rfl;have f2:=L2.frozen))
 obtain⟨hlen,hrow⟩:=ho2;rcases hrow with⟨e,_⟩|⟨row,cap,cur,e,hrb,o7,_,hcm,hcz,hct⟩
 ·cases e
 cases e
 have hlt2:wc.heap.size<w2.heap.size:=(Array.getElem?_eq_some_iff.1 o7).1;obtain⟨w3,hw3⟩:∃w3,w2.setCell ⟨h,2,none⟩ (.slice (some ⟨wc.heap.size,0,none⟩) m m)=w3:=⟨_,rfl⟩
 have B3:Below w.heap.size w w3:=hw3▸Below.set (bu B1 b2) (g:=h) 2 _ (by omega);have K3:Kp w2 w3 (fun k=>k=h):=hw3▸AB w2 h 2 _;have L3:Loc w3 h #[.int .i64 n,.string s,.slice (some ⟨wc.heap.size,0,none⟩) m m]:=hw3▸L2.set 2 _ rfl;have Z3:=(Z1.up b2).kp K3 (by omega);have G1l:=Ci G1 (by simp);have G3:=PK (AX G1 b2 G1l) K3 (by omega);have H3:w3.heap[wc.heap.size]? =some (.cells cur.toList.toArray 3 (0,0)):=by rw[K3.block _ hlt2 (by omega)];simpa using o7
 have c3:=HR.out w3 B3;have z3:=K3.size;have p2:=L3.cell 2 rfl;have q2:=Ag G3 2 rfl;have pF:cur.toList.length=m:=by simpa using hcz
 rw[hw3];clear hw3 k2 f2 h0 h1 h2 fh y0 y1 y2 fy x2;have H3h:=hide H3;have C3:=hide c3
 go_region_law (refine step_copy_splice rfl (.tmp 28) (.tmp 32) 24 24 rfl 3 Tryz.underlying24 (by rw[hi];simp[hz1]) (some ⟨wc.heap.size,0,none⟩) (some ad) m m m ca (by simp[Act.eval]) (by simp[Act.eval]) wc.heap.size 0 cur.toList 3 H3h.out cs (by rw[hcl];simp) (fun _=>⟨rfl,_,rfl,C3.out⟩) (by omega) hone wc.heap.size w3 ⟨rfl,rfl,rfl,Nat.le_refl _,fun _ _=>rfl⟩ Ae ?_;intro w4 hg4 hb4)
 all_goals
  have L4:=L3.below hb4 l1;have Z4:=Z3.below hb4 (by omega);have B4:Below w.heap.size w w4:=B3.trans (hb4.mono (by omega));have h0:=L4.cell 0 rfl;have h1:=L4.cell 1 rfl;have h2:=L4.cell 2 rfl;have y0:=Z4.cell 0 rfl;have y1:=Z4.cell 1 rfl;have y2:=Z4.cell 2 rfl;have fy:=Z4.frozen
  have O4:OI w4 w.heap.size (.slice (some ⟨wc.heap.size,0,none⟩) m m) xs:=by
   refine⟨by rw[Hm.out];simp[Hm.out],.inr ⟨wc.heap.size,m,_,by rw[Hm.out],by omega,hg4.out,by rw[Hm.out];exact Nat.le_refl _,hcm,?_,?_⟩⟩
   ·rw[List.size_toArray,length_splice _ _ _ (by omega),pF,Nat.mul_one]
   rw[HC.out];simp[splice,Hm.out,hcl]
  have HO:=hide O4;clear L3 Z3 G3 H3 c3 p2 q2 K3 L4 Z4 O4 hg4 hb4 LH Z1 G1 G1l b2 L2 hlen hct hcz o7;go_wp2;refine bodyPost_ret (v:=qv n s (.slice (some ⟨wc.heap.size,0,none⟩) m m)) (by simp[results,Tryz.results151,go_sem,y0,y1,y2]) rfl ?_;have K5:Kp w4 (((w4.setCell ⟨w.heap.size,0,none⟩ (.int .i64 n)).setCell ⟨w.heap.size,1,none⟩ (.string s)).setCell ⟨w.heap.size,2,none⟩ (.slice (some ⟨wc.heap.size,0,none⟩) m m)) (fun k=>k=w.heap.size):=((AB _ _ _ _).trans (AB _ _ _ _)).trans (AB _ _ _ _);exact⟨_,rfl,HO.out.kp K5 (fun k hk=>by simp[Value.ownBlock]at hk;omega),Below.set (Below.set (Below.set B4 _ _ Ae) _ _ Ae) _ _ Ae⟩
end
section
open Go.RowKit
variable [∀(a b c d:Int),Decidable (BD a b c d)] [∀(n f:Int),Decidable (A_ n f)]
theorem Rm(n:Int)(s:ByteArray)(v:Value)(xs:List Int)(w:World)(h:RI w v xs)(hs:s.size≤281474976710656):
 Calls Tryz.prog 346 #[qv n s v] w fun e w'=>∃u,e= .returned (qv n s u)∧OI w' w.heap.size u xs∧Below w.heap.size w w':=by
 obtain⟨ao,ca,rfl⟩:=h.form;obtain⟨w0,hw0⟩:∃y,((w.alloc (.cells #[.int .i64 n,.string s,.slice ao xs.length ca] 72)).alloc zpo).alloc (.cells #[.int .i64 n,.string s,.slice ao xs.length ca] 38)=y:=⟨_,rfl⟩
 have B0:Below w.heap.size w w0:=hw0▸((BG _ _ _).alloc (by simp;omega) _);have LZ:Loc w0 (w.heap.size+1) #[.int .i64 0,.string ⟨#[]⟩,.slice none 0 0]:=hw0▸(AJ (w.alloc _) _ _ (by simp)).alloc _;have LQ:Loc w0 (w.heap.size+1+1) #[.int .i64 n,.string s,.slice ao xs.length ca]:=hw0▸(AJ ((w.alloc _).alloc _) _ _ (by simp));have s0:w0.heap.size=w.heap.size+1+1+1:=by rw[←hw0];simp
 have TO:=hide (iH (w.heap.size+1+1) n s ao ca xs w0 LQ (h.below B0) hs);have HZ:=hide LZ;clear h LZ LQ;go_enter Tryz.func346,Tryz.ntmps346
 go_wp2_with fail
 clear hw0;refine TO.out.mono ?_;rintro e w2 ⟨u,rfl,o2,b2⟩;have B2:Below w.heap.size w w2:=bu B0 b2;have Z2:=HZ.out.below b2 HZ.out.lt;have y0:=Z2.cell 0 rfl;have y1:=Z2.cell 1 rfl;have y2:=Z2.cell 2 rfl;have fy:=Z2.frozen;have Tz:=World.ownsRow.lt o2;obtain⟨ua,uc,rfl⟩:=o2.form;have O2:=hide o2;clear o2 b2 Z2 HZ TO;go_wp2;refine bodyPost_ret (v:=qv n s (.slice ua xs.length uc)) (by simp[results,Tryz.results346,go_sem,y0,y1,y2]) rfl ?_;have K5:Kp w2 (((w2.setCell ⟨w.heap.size+1,0,none⟩ (.int .i64 n)).setCell ⟨w.heap.size+1,1,none⟩ (.string s)).setCell ⟨w.heap.size+1,2,none⟩ (.slice ua xs.length uc)) (fun k=>k=w.heap.size+1):=((AB _ _ _ _).trans (AB _ _ _ _)).trans (AB _ _ _ _);exact⟨_,rfl,(O2.out.kp K5 (fun k hk=>by have:=Tz k hk;omega)).mono (by omega),Below.kp B2 K5 B2.size (fun k hk=>by omega)⟩

theorem Vk(ao:Option Addr)(n ca:Nat)(w:World):
 Calls Tryz.prog 146 #[.slice ao n ca] w fun e w'=>e= .returned (.agg #[.slice ao n ca,.func (.func 183) #[] #[]])∧Below w.heap.size w w':=by
 go_enter Tryz.func146,Tryz.ntmps146
 go_wp2;refine bodyPost_ret (v:= .agg #[.slice ao n ca,.func (.func 183) #[] #[]]) (by simp[results,Tryz.results146,go_sem]) rfl ?_;exact⟨rfl,(Below.refl _ _).alloc Ae _⟩
end
section
open Go Go.RowKit
section
variable {P:Program} {ops:Array Oper} {Q:Exit→Act→World→Prop} {md:Region.Mode} {S:World→Prop} {D:Nat→Bool}
def I7(P:Program)(md:Region.Mode)(ops:Array Oper)(Q:Exit→Act→World→Prop)(S:World→Prop)(D:Nat→Bool):Nat→Array Bool→Act→World→Prop
 |0,l,a,w=>Region.ready md ops l=[]∧Q .normal a w
 |n+1,l,a,w=>(Region.ready md ops l=[]→Q .normal a w)∧∀i ∈ Region.ready md ops l,wpOp P ops Q i (fun a' w'=>(D i=false→S w→S w')∧I7 P md ops Q S D n (l.setIfInBounds i true) a' w') a w
theorem I7.any:∀(n:Nat)(l:Array Bool)(a:Act)(w:World),I7 P md ops Q S D n l a w→wpAny P md ops Q n l a w
 |0,_,_,_,h=>h
 |n+1,_,_,_,h=>⟨h.1,fun i hi=>wpOp_mono (fun a' w' h'=>I7.any n _ a' w' h'.2) (h.2 i hi)⟩
def wD(md:Region.Mode)(ops:Array Oper)(D:Nat→Bool)(i:Nat):Bool:=(List.range ops.size).all fun j=>!D j||(match ops[j]? with|some o=>o.after.any (fun e=>Region.binds md e&&e.on==i)|none=>true)
theorem ZV{i j:Nat}{o:Oper}(h:wD md ops D i=true)(ho:ops[j]? =some o)(hd:D j=true):∃e ∈ o.after,Region.binds md e=true∧e.on=i:=by
 have hj:j<ops.size:=(Array.getElem?_eq_some_iff.1 ho).1;have h1:=List.all_eq_true.1 h j (List.mem_range.2 hj);rw[hd,ho]at h1;simp only[Bool.not_true,Bool.false_or,Array.any_eq_true',Bool.and_eq_true,beq_iff_eq]at h1;exact h1
theorem I7.first{S':World→Prop}{i:Nat}{oi:Oper}{v:Value}(hi:ops[i]? =some oi)(hsel:Region.noSelect ops=true)(hD:∀j oj,ops[j]? =some oj→(∀e ∈ oj.after,Region.binds md e=true→e.on≠i)→∀w w',(D j=false→S w→S w')→S' w→S' w')
 (hQ:∀c a w,Q (.panic c) (a.put oi.dst v) w→Q (.panic c) a w):∀(n:Nat)(l:Array Bool)(a:Act)(w:World),
 (∀j oj,ops[j]? =some oj→j≠i→l.getD j true=false→(∀e ∈ oj.after,Region.binds md e=true→e.on≠i)→oi.apart ops oj=true)→i ∈ Region.ready md ops l→YieldsIf P ops S' oi v a→S' w→
 I7 P md ops Q S D n (l.setIfInBounds i true) (a.put oi.dst v) w→I7 P md ops Q S D (n+1) l a w:=by
 intro n
 induction n with
 | zero=>
  intro l a w _ hr hy hS H;refine⟨fun h0=>(by rw[h0]at hr;cases hr),fun j hj=>?_⟩;by_cases e:j=i
  ·rw[e];exact hy.wpOp hi hS ⟨fun _ h=>h,H⟩
  ·have:=ready_mono hj e;rw[H.1]at this;cases this
 | succ n ih=>
  intro l a w hf hr hy hS H;refine⟨fun h0=>(by rw[h0]at hr;cases hr),fun j hj=>?_⟩;by_cases e:j=i
  ·rw[e];exact hy.wpOp hi hS ⟨fun _ h=>h,H⟩
  obtain⟨u1,oj,hoj,u2⟩:=mem_ready.1 hj;have hli:l.getD i true=false:=(mem_ready.1 hr).1
  have un:∀x ∈ oj.after,Region.binds md x=true→x.on≠i:=fun x hx hb hq=>by
   have h1:=u2 x hx hb;rw[hq]at h1;by_cases hs:i<l.size
   ·simp[Array.getD_eq_getD_getElem?,hs]at h1 hli;rw[h1]at hli;cases hli
   simp[Array.getD_eq_getD_getElem?,Array.getElem?_eq_none (Nat.le_of_not_lt hs)]at h1
  have step:=wpOp_putIf hoj (hf j oj hoj e u1 un) (fun cs b=>Region.noSelect_spec hsel i oi cs b hi) (fun cs b=>Region.noSelect_spec hsel j oj cs b hoj) hQ hy (H.2 j (ready_mono hj e));refine wpOp_mono (fun a' w' h3=>⟨h3.2.1,ih _ a' w' (fun k ok hk hki hun hno=>hf k ok hk hki ?_ hno) (ready_mono hr (Ne.symm e)) h3.1 (hD j oj hoj un w w' h3.2.1 hS) ?_⟩) step
  ·by_cases hjk:j=k
   ·rw[←hjk];exact u1
   rw[getD_set_ne true hjk]at hun;exact hun
  rw[Array.setIfInBounds_comm _ _ e];exact h3.2.2
theorem FC{i d:Nat}{oi:Oper}{v:Value}{n:Nat}{l:Array Bool}{a:Act}{w:World}(hi:ops[i]? =some oi)(hd:oi.dst=some d)
 (hs:Region.noSelect ops=true) (hD:wD md ops D i=true) (hf:Region.free md ops l i=true) (hr:(Region.ready md ops l).contains i=true)
 (hQ:∀c a w,Q (.panic c) (a.put (some d) v) w→Q (.panic c) a w) (hy:YieldsIf P ops S oi v a) (hS:S w)
 (h:I7 P md ops Q S D n (l.setIfInBounds i true) (a.put (some d) v) w):I7 P md ops Q S D (n+1) l a w:=
 I7.first hi hs (fun j oj hoj un w w' hw h'=>by
  cases hc:D j with
  |false=>exact hw hc h'
  |true=>obtain⟨x,hx,hb,ho⟩:=ZV hD hoj hc;exact absurd ho (un x hx hb)) (by rw[hd];exact hQ) n l a w (Region.free_spec hi hf) (by simpa using hr) hy hS (by rw[hd];exact h)
theorem Bn{i d:Nat}{oi:Oper}{v:Value}{n:Nat}{l:Array Bool}{a:Act}{w:World}(hi:ops[i]? =some oi)(hd:oi.dst=some d)
 (hs:Region.noSelect ops=true) (hf:Region.free md ops l i=true) (hr:(Region.ready md ops l).contains i=true)
 (hQ:∀c a w,Q (.panic c) (a.put (some d) v) w→Q (.panic c) a w) (hy:YieldsIf P ops (fun _=>True) oi v a)
 (h:I7 P md ops Q S D n (l.setIfInBounds i true) (a.put (some d) v) w):I7 P md ops Q S D (n+1) l a w:=
 I7.first (S':=fun _=>True) hi hs (fun _ _ _ _ _ _ _ _=>trivial) (by rw[hd];exact hQ) n l a w (Region.free_spec hi hf) (by simpa using hr) hy trivial (by rw[hd];exact h)
theorem BL{i:Nat}{o:Oper}{n:Nat}{l:Array Bool}{a:Act}{w:World}(ho:ops[i]? =some o)(hr:Region.ready md ops l=[i])
 (h:∀K':Act→World→Prop,Shut (∀a' w',(D i=false→S w→S w')→I7 P md ops Q S D n (l.setIfInBounds i true) a' w'→K' a' w')→if Region.wanted o (yielded ops a.tmps)=true then Oper.wp P o a w K' Q else K' (a.put o.dst undef) w):
 I7 P md ops Q S D (n+1) l a w:=
 ⟨fun h0=>(by rw[hr]at h0;cases h0),fun j hj=>by
  rw[hr]at hj;obtain rfl:=List.mem_singleton.1 hj;exact wpOp_step ho fun K' hK=>h K' (fun a w h1 h2=>hK a w ⟨h1,h2⟩)⟩
theorem Lv{l:Array Bool}{a:Act}{w:World}(hr:Region.ready md ops l=[])(h:Q .normal a w):∀n,I7 P md ops Q S D n l a w
 |0=>⟨hr,h⟩
 |_+1=>⟨fun _=>h,by rw[hr];simp⟩
theorem KD(D:Nat→Bool){id:Nat}{a:Act}{w:World}(hm:P.follows .mixedOrders=true)(h:I7 P .any ops Q S D ops.size (Array.replicate ops.size false) a w.drew):(Code.region id ops true).wp P Q a w:=
 wp_region_any hm (I7.any _ _ _ _ h)
end
end
section
open Go Go.RowKit
variable [∀(a b c d:Int),Decidable (BD a b c d)] [∀(n f:Int),Decidable (A_ n f)] [∀(a b c d:Nat),Decidable (Dg a b c d)] [∀(x:T4),Decidable (Dt x)]
theorem lC(m:ByteArray)(v:Int)(s:ByteArray)(ao:Option Addr)(ca:Nat)(xs:List Int)(w:World)(hm:m.size≤281474976710656)(hs:s.size≤281474976710656)(ha:RI w (.slice ao xs.length ca) xs):
 Calls Tryz.prog 345 #[bv m v s (.slice ao xs.length ca)] w fun e w'=>∃u,e= .returned (bv m v s u)∧OI w' w.heap.size u xs∧Below w.heap.size w w':=by
 have CL:=hide fun w'=>Ed m w' hm;have TO:=hide fun g w'(hg:w'.rangeAt g 1 [.int .i64 v,.string s,.slice ao xs.length ca]) h=>WA g 1 v s ao ca xs w' hg h hs;have HA:=hide ha;clear ha hm hs;obtain⟨w0,hw0,AP,P,O,De⟩:=Gf w #[.string m,.int .i64 v,.string s,.slice ao xs.length ca] 71 #[.string ⟨#[]⟩,.int .i64 0,.string ⟨#[]⟩,.slice none 0 0] 71;go_enter Tryz.func345,Tryz.ntmps345
 have lV:=P.cell 0 rfl;go_wp2_with fail
 clear hw0;refine(CL.out _).mono ?_;rintro _ w1 ⟨rfl,bb⟩;clear lV;have AU:=bu AP bb;have DU:=bb.size;replace P:=P.up bb;replace O:=O.up bb;clear AP bb;go_wp2_with fail
 refine(TO.out _ _ (P.range 1 3 rfl) (HA.out.below AU)).mono ?_;rintro _ w2 ⟨u,rfl,oA,bb⟩;have Al:=bu AU bb;have FM:=bb.size;replace P:=P.up bb;replace O:=O.up bb;clear AU bb;have toA:=World.ownsRow.lt oA;obtain⟨ED,D8,rfl⟩:=oA.form;go_wp2_with (first|(refine Cb O 71 #[.string m,.int .i64 v,.string s,.slice ED xs.length D8] rfl _ _ rfl rfl rfl (by kernel_rfl) rfl (by simp[Value.oneCell']) ?_))
 obtain⟨wE,Db⟩:∃D5,w2.setRow (w.heap.size+1) #[.string m,.int .i64 v,.string s,.slice ED xs.length D8]=D5:=⟨_,rfl⟩
 have kN:Kp w2 wE (fun k=>k=w.heap.size+1):=Db▸Dv _ _ _;replace O:Loc wE (w.heap.size+1) #[.string m,.int .i64 v,.string s,.slice ED xs.length D8]:=Db▸O.row;replace P:=P.kp kN (by omega);replace oA:=oA.kp kN (fun j hj e=>by have:=toA j hj;omega);have Lc:=Below.kp Al kN Al.size (fun k hk=>by omega);have dV:=kN.size;rw[Db];clear Db kN Al;refine bodyPost_ret (v:=bv m v s (.slice ED xs.length D8)) (CG Tryz.results345 _ O rfl Tryz.underlying71 rfl (by kernel_rfl)) rfl ?_;exact⟨_,rfl,oA.mono (by omega),Lc⟩
structure MZ(t:MT):Prop where
 bn:t.bn.size≤281474976710656
 bs:t.bs.size≤281474976710656
 ps:t.ps.size≤281474976710656
 qs:t.qs.size≤281474976710656
theorem jH(t:MT)(ao bo co:Option Addr)(ca cb cc:Nat)(w:World)(hs:MZ t)(ha:RI w (.slice ao t.bw.length ca) t.bw)(hb:RI w (.slice bo t.pw.length cb) t.pw)(hc:RI w (.slice co t.qw.length cc) t.qw):
 Calls Tryz.prog 348 #[Fb t (.slice ao t.bw.length ca) (.slice bo t.pw.length cb) (.slice co t.qw.length cc)] w fun e w'=>∃u v x,e= .returned (Fb t u v x)∧OM w' w.heap.size u v x t.bw t.pw t.qw∧Below w.heap.size w w':=by
 have T1:=hide fun w' h=>lC t.bn t.bv t.bs ao ca t.bw w' hs.bn hs.bs h;have T2:=hide fun w' h=>Rm t.pv t.ps (.slice bo t.pw.length cb) t.pw w' h hs.ps;have T3:=hide fun g w'(hg:w'.rangeAt g 9 [.int .i64 t.qv,.string t.qs,.slice co t.qw.length cc]) h=>WA g 9 t.qv t.qs co cc t.qw w' hg h hs.qs;have HA:=hide ha;have HB:=hide hb;have HC:=hide hc;clear ha hb hc hs;obtain⟨w0,hw0,AP,P,O,De⟩:=Gf w #[.int .i64 t.k,.int .i64 t.vw,.string t.bn,.int .i64 t.bv,.string t.bs,.slice ao t.bw.length ca,.int .i64 t.pv,.string t.ps,.slice bo t.pw.length cb,.int .i64 t.qv,.string t.qs,.slice co t.qw.length cc,.int .i64 t.wh,.int .i64 t.fr,.int .i64 t.tu,.int .i64 t.am,.int .i64 t.no] 75 #[.int .i64 0,.int .i64 0,.string ⟨#[]⟩,.int .i64 0,.string ⟨#[]⟩,.slice none 0 0,.int .i64 0,.string ⟨#[]⟩,.slice none 0 0,.int .i64 0,.string ⟨#[]⟩,.slice none 0 0,.int .i64 0,.int .i64 0,.int .i64 0,.int .i64 0,.int .i64 0] 75;go_enter Tryz.func348,Tryz.ntmps348
 have K:=kw (kL P);go_upto_region 1 with fail
 clear hw0;have bA:Below w0.heap.size w0 w0.drew:=Below.drew (Below.refl _ _);refine wp_region_noPanic ?_;refine KD (S:=fun w'=>Below w0.heap.size w0 w'∧Loc w' (w.heap.size) #[.int .i64 t.k,.int .i64 t.vw,.string t.bn,.int .i64 t.bv,.string t.bs,.slice ao t.bw.length ca,.int .i64 t.pv,.string t.ps,.slice bo t.pw.length cb,.int .i64 t.qv,.string t.qs,.slice co t.qw.length cc,.int .i64 t.wh,.int .i64 t.fr,.int .i64 t.tu,.int .i64 t.am,.int .i64 t.no]) (fun j=>j==9||j==11||j==13) (by kernel_rfl) ?_;obtain⟨mM,hwd⟩:∃y,w0.drew=y:=⟨_,rfl⟩
 rw[hwd]at bA⊢;clear hwd;have bb:=bA;have Ic:=bu AP bb;have r_:=bb.size;replace P:=P.up bb;replace O:=O.up bb;clear AP bb;refine Bn (i:=0) (d:=3) (v:=?_) rfl rfl (by kernel_rfl) (by kernel_rfl) (by kernel_rfl) (fun _ _ _ h=>h) (Or.inl ⟨by rfl,?_⟩) ?_
 rotate_left
 ·intro w hSw
  try dsimp only at hSw
  go_simp
  try with_reducible rfl
 simp only[Act.put,List.setIfInBounds_toArray,List.set_cons_zero,List.set_cons_succ];refine Bn (i:=3) (d:=6) (v:=?_) rfl rfl (by kernel_rfl) (by kernel_rfl) (by kernel_rfl) (fun _ _ _ h=>h) (Or.inl ⟨by rfl,?_⟩) ?_
 rotate_left
 ·intro w hSw
  try dsimp only at hSw
  go_simp
  try with_reducible rfl
 simp only[Act.put,List.setIfInBounds_toArray,List.set_cons_zero,List.set_cons_succ];refine Bn (i:=6) (d:=9) (v:=?_) rfl rfl (by kernel_rfl) (by kernel_rfl) (by kernel_rfl) (fun _ _ _ h=>h) (Or.inl ⟨by rfl,?_⟩) ?_
 rotate_left
 ·intro w hSw
  try dsimp only at hSw
  go_simp
  try with_reducible rfl
 simp only[Act.put,List.setIfInBounds_toArray,List.set_cons_zero,List.set_cons_succ];refine FC (i:=1) (d:=4) (v:= .agg #[.string t.bn,.int .i64 t.bv,.string t.bs,.slice ao t.bw.length ca]) rfl rfl (by kernel_rfl) (by kernel_rfl) (by kernel_rfl) (by kernel_rfl) (fun _ _ _ h=>h) ?_ (K.out _ bA) ?_
 ·exact Be rfl 71 _ rfl rfl [.string t.bn,.int .i64 t.bv,.string t.bs,.slice ao t.bw.length ca] _ (fun w h=>(h.2).range 2 4 rfl) Tryz.underlying71 rfl (by kernel_rfl)
 simp only[Act.put,List.setIfInBounds_toArray,List.set_cons_zero,List.set_cons_succ];refine FC (i:=4) (d:=7) (v:= .agg #[.int .i64 t.pv,.string t.ps,.slice bo t.pw.length cb]) rfl rfl (by kernel_rfl) (by kernel_rfl) (by kernel_rfl) (by kernel_rfl) (fun _ _ _ h=>h) ?_ (K.out _ bA) ?_
 ·exact Be rfl 72 _ rfl rfl [.int .i64 t.pv,.string t.ps,.slice bo t.pw.length cb] _ (fun w h=>(h.2).range 6 3 rfl) Tryz.underlying72 rfl (by kernel_rfl)
 simp only[Act.put,List.setIfInBounds_toArray,List.set_cons_zero,List.set_cons_succ];refine BL (i:=2) rfl (by kernel_rfl) (fun KK AA=>?_);go_simp;refine(T1.out _ (HA.out.below Ic)).mono ?_;rintro e w1 ⟨u,rfl,oA,bb⟩;have Ai:Below w0.heap.size w0 w1:=bu bA bb;refine AA.out _ _ (fun _ _=>K.out _ Ai) ?_;clear AA KK bA;have AU:=bu Ic bb;have DU:=bb.size;replace P:=P.up bb;replace O:=O.up bb;clear Ic bb;have toA:=World.ownsRow.lt oA;obtain⟨ED,D8,rfl⟩:=oA.form;refine BL (i:=5) rfl (by kernel_rfl) (fun KK AA=>?_);go_simp;refine(T2.out _ (HB.out.below AU)).mono ?_;rintro e w2 ⟨u,rfl,oB,bb⟩;have Bi:Below w0.heap.size w0 w2:=bu Ai bb;refine AA.out _ _ (fun _ _=>K.out _ Bi) ?_;clear AA KK Ai;have Al:=bu AU bb;have FM:=bb.size;replace P:=P.up bb;replace O:=O.up bb;replace oA:=oA.below bb;clear AU bb;have Bj:=World.ownsRow.lt oB;obtain⟨Fg,Fe,rfl⟩:=oB.form;refine BL (i:=7) rfl (by kernel_rfl) (fun KK AA=>?_);go_simp;refine(T3.out _ _ (P.range 9 3 rfl) (HC.out.below Al)).mono ?_;rintro e w3 ⟨u,rfl,oC,bb⟩;have GY:Below w0.heap.size w0 w3:=bu Bi bb;refine AA.out _ _ (fun _ _=>K.out _ GY) ?_;clear AA KK Bi;have Bg:=bu Al bb;have I9:=bb.size;replace P:=P.up bb;replace O:=O.up bb;replace oA:=oA.below bb;replace oB:=oB.below bb;clear Al bb;have toC:=World.ownsRow.lt oC;obtain⟨GZ,GX,rfl⟩:=oC.form;refine Bn (i:=8) (d:=11) (v:=?_) rfl rfl (by kernel_rfl) (by kernel_rfl) (by kernel_rfl) (fun _ _ _ h=>h) (Or.inl ⟨by rfl,?_⟩) ?_
 rotate_left
 ·intro w hSw
  try dsimp only at hSw
  go_simp
  try with_reducible rfl
 simp only[Act.put,List.setIfInBounds_toArray,List.set_cons_zero,List.set_cons_succ];refine BL (i:=9) rfl (by kernel_rfl) (fun KK AA=>?_);rw[if_pos (by rfl)];refine wp_store_mid 71 (.tmp 11) (.tmp 5) rfl (w.heap.size) 2 #[.string t.bn,.int .i64 t.bv,.string t.bs,.slice ED t.bw.length D8] rfl rfl (P.there 2 4 (by simp)) (by kernel_rfl) (by simp[Value.oneCell']) ?_;refine AA.out _ _ (fun h=>absurd h (by decide)) ?_;clear AA KK;obtain⟨w4,hw4⟩:∃y,w3.setCells (w.heap.size) 2 [.string t.bn,.int .i64 t.bv,.string t.bs,.slice ED t.bw.length D8]=y:=⟨_,rfl⟩
 rw[hw4];have kN:Kp w3 w4 (fun k=>k=w.heap.size):=hw4▸AY _ _ _ _;replace P:Loc w4 (w.heap.size) #[.int .i64 t.k,.int .i64 t.vw,.string t.bn,.int .i64 t.bv,.string t.bs,.slice ED t.bw.length D8,.int .i64 t.pv,.string t.ps,.slice bo t.pw.length cb,.int .i64 t.qv,.string t.qs,.slice co t.qw.length cc,.int .i64 t.wh,.int .i64 t.fr,.int .i64 t.tu,.int .i64 t.am,.int .i64 t.no]:=hw4▸P.setCells _ _ rfl;replace O:=O.kp kN (by omega);replace oA:=oA.kp kN (fun j hj e=>by have:=toA j hj;omega);replace oB:=oB.kp kN (fun j hj e=>by have:=Bj j hj;omega);replace oC:=oC.kp kN (fun j hj e=>by have:=toC j hj;omega);have DN:=Below.kp Bg kN Bg.size (fun k hk=>by omega);have Qj:=kN.size;clear hw4 kN Bg;refine Bn (i:=10) (d:=12) (v:=?_) rfl rfl (by kernel_rfl) (by kernel_rfl) (by kernel_rfl) (fun _ _ _ h=>h) (Or.inl ⟨by rfl,?_⟩) ?_
 rotate_left
 ·intro w hSw
  try dsimp only at hSw
  go_simp
  try with_reducible rfl
 simp only[Act.put,List.setIfInBounds_toArray,List.set_cons_zero,List.set_cons_succ];refine BL (i:=11) rfl (by kernel_rfl) (fun KK AA=>?_);rw[if_pos (by rfl)];refine wp_store_mid 72 (.tmp 12) (.tmp 8) rfl (w.heap.size) 6 #[.int .i64 t.pv,.string t.ps,.slice Fg t.pw.length Fe] rfl rfl (P.there 6 3 (by simp)) (by kernel_rfl) (by simp[Value.oneCell']) ?_;refine AA.out _ _ (fun h=>absurd h (by decide)) ?_;clear AA KK;obtain⟨w5,SE⟩:∃y,w4.setCells (w.heap.size) 6 [.int .i64 t.pv,.string t.ps,.slice Fg t.pw.length Fe]=y:=⟨_,rfl⟩
 rw[SE];have kN:Kp w4 w5 (fun k=>k=w.heap.size):=SE▸AY _ _ _ _;replace P:Loc w5 (w.heap.size) #[.int .i64 t.k,.int .i64 t.vw,.string t.bn,.int .i64 t.bv,.string t.bs,.slice ED t.bw.length D8,.int .i64 t.pv,.string t.ps,.slice Fg t.pw.length Fe,.int .i64 t.qv,.string t.qs,.slice co t.qw.length cc,.int .i64 t.wh,.int .i64 t.fr,.int .i64 t.tu,.int .i64 t.am,.int .i64 t.no]:=SE▸P.setCells _ _ rfl;replace O:=O.kp kN (by omega);replace oA:=oA.kp kN (fun j hj e=>by have:=toA j hj;omega);replace oB:=oB.kp kN (fun j hj e=>by have:=Bj j hj;omega);replace oC:=oC.kp kN (fun j hj e=>by have:=toC j hj;omega);have F5:=Below.kp DN kN DN.size (fun k hk=>by omega);have gP:=kN.size;clear SE kN DN;refine Bn (i:=12) (d:=13) (v:=?_) rfl rfl (by kernel_rfl) (by kernel_rfl) (by kernel_rfl) (fun _ _ _ h=>h) (Or.inl ⟨by rfl,?_⟩) ?_
 rotate_left
 ·intro w hSw
  try dsimp only at hSw
  go_simp
  try with_reducible rfl
 simp only[Act.put,List.setIfInBounds_toArray,List.set_cons_zero,List.set_cons_succ];refine BL (i:=13) rfl (by kernel_rfl) (fun KK AA=>?_);rw[if_pos (by rfl)];refine wp_store_mid 38 (.tmp 13) (.tmp 10) rfl (w.heap.size) 9 #[.int .i64 t.qv,.string t.qs,.slice GZ t.qw.length GX] rfl rfl (P.there 9 3 (by simp)) (by kernel_rfl) (by simp[Value.oneCell']) ?_;refine AA.out _ _ (fun h=>absurd h (by decide)) ?_;clear AA KK;obtain⟨w6,eO⟩:∃y,w5.setCells (w.heap.size) 9 [.int .i64 t.qv,.string t.qs,.slice GZ t.qw.length GX]=y:=⟨_,rfl⟩
 rw[eO];have kN:Kp w5 w6 (fun k=>k=w.heap.size):=eO▸AY _ _ _ _;replace P:Loc w6 (w.heap.size) #[.int .i64 t.k,.int .i64 t.vw,.string t.bn,.int .i64 t.bv,.string t.bs,.slice ED t.bw.length D8,.int .i64 t.pv,.string t.ps,.slice Fg t.pw.length Fe,.int .i64 t.qv,.string t.qs,.slice GZ t.qw.length GX,.int .i64 t.wh,.int .i64 t.fr,.int .i64 t.tu,.int .i64 t.am,.int .i64 t.no]:=eO▸P.setCells _ _ rfl;replace O:=O.kp kN (by omega);replace oA:=oA.kp kN (fun j hj e=>by have:=toA j hj;omega);replace oB:=oB.kp kN (fun j hj e=>by have:=Bj j hj;omega);replace oC:=oC.kp kN (fun j hj e=>by have:=toC j hj;omega);have JX:=Below.kp F5 kN F5.size (fun k hk=>by omega);have vV:=kN.size;clear eO kN F5;refine Lv (by kernel_rfl) ?_ _;refine NoPanic.normal ?_;clear K GY;go_wp2_with (first|(refine BA P 75 _ rfl _ rfl rfl Tryz.underlying75 rfl (by kernel_rfl) ?_)|(refine Cb O 75 #[.int .i64 t.k,.int .i64 t.vw,.string t.bn,.int .i64 t.bv,.string t.bs,.slice ED t.bw.length D8,.int .i64 t.pv,.string t.ps,.slice Fg t.pw.length Fe,.int .i64 t.qv,.string t.qs,.slice GZ t.qw.length GX,.int .i64 t.wh,.int .i64 t.fr,.int .i64 t.tu,.int .i64 t.am,.int .i64 t.no] rfl _ _ rfl rfl rfl (by kernel_rfl) rfl (by simp[Value.oneCell']) ?_))
 obtain⟨wE,Db⟩:∃D5,w6.setRow (w.heap.size+1) #[.int .i64 t.k,.int .i64 t.vw,.string t.bn,.int .i64 t.bv,.string t.bs,.slice ED t.bw.length D8,.int .i64 t.pv,.string t.ps,.slice Fg t.pw.length Fe,.int .i64 t.qv,.string t.qs,.slice GZ t.qw.length GX,.int .i64 t.wh,.int .i64 t.fr,.int .i64 t.tu,.int .i64 t.am,.int .i64 t.no]=D5:=⟨_,rfl⟩
 have kN:Kp w6 wE (fun k=>k=w.heap.size+1):=Db▸Dv _ _ _;replace O:Loc wE (w.heap.size+1) #[.int .i64 t.k,.int .i64 t.vw,.string t.bn,.int .i64 t.bv,.string t.bs,.slice ED t.bw.length D8,.int .i64 t.pv,.string t.ps,.slice Fg t.pw.length Fe,.int .i64 t.qv,.string t.qs,.slice GZ t.qw.length GX,.int .i64 t.wh,.int .i64 t.fr,.int .i64 t.tu,.int .i64 t.am,.int .i64 t.no]:=Db▸O.row;replace P:=P.kp kN (by omega);replace oA:=oA.kp kN (fun j hj e=>by have:=toA j hj;omega);replace oB:=oB.kp kN (fun j hj e=>by have:=Bj j hj;omega);replace oC:=oC.kp kN (fun j hj e=>by have:=toC j hj;omega);have Lc:=Below.kp JX kN JX.size (fun k hk=>by omega);have dV:=kN.size;rw[Db];clear Db kN JX;refine bodyPost_ret (v:=Fb t (.slice ED t.bw.length D8) (.slice Fg t.pw.length Fe) (.slice GZ t.qw.length GX)) (CG Tryz.results348 _ O rfl Tryz.underlying75 rfl (by kernel_rfl)) rfl ?_;exact⟨_,_,_,rfl,⟨w1.heap.size,w2.heap.size,oA.mono (by omega),fun j hj=>(toA j hj).2,oB.mono (by omega),fun j hj=>(Bj j hj).2,oC.mono (by omega),by omega,by omega⟩,Lc⟩
theorem ZC(n:Int)(t:MT)(ao bo co:Option Addr)(ca cb cc:Nat)(w:World)(hs:MZ t)(ha:RI w (.slice ao t.bw.length ca) t.bw)(hb:RI w (.slice bo t.pw.length cb) t.pw)(hc:RI w (.slice co t.qw.length cc) t.qw):
 Calls Tryz.prog 349 #[ZB n t (.slice ao t.bw.length ca) (.slice bo t.pw.length cb) (.slice co t.qw.length cc)] w fun e w'=>∃u v x,e= .returned (ZB n t u v x)∧OM w' w.heap.size u v x t.bw t.pw t.qw∧Below w.heap.size w w':=by
 have T1:=hide fun w' h1 h2 h3=>jH t ao bo co ca cb cc w' hs h1 h2 h3;have HA:=hide ha;have HB:=hide hb;have HC:=hide hc;clear ha hb hc hs;obtain⟨w0,hw0,AP,P,O,De⟩:=Gf w #[.int .i64 n,.int .i64 t.k,.int .i64 t.vw,.string t.bn,.int .i64 t.bv,.string t.bs,.slice ao t.bw.length ca,.int .i64 t.pv,.string t.ps,.slice bo t.pw.length cb,.int .i64 t.qv,.string t.qs,.slice co t.qw.length cc,.int .i64 t.wh,.int .i64 t.fr,.int .i64 t.tu,.int .i64 t.am,.int .i64 t.no] 138 #[.int .i64 0,.int .i64 0,.int .i64 0,.string ⟨#[]⟩,.int .i64 0,.string ⟨#[]⟩,.slice none 0 0,.int .i64 0,.string ⟨#[]⟩,.slice none 0 0,.int .i64 0,.string ⟨#[]⟩,.slice none 0 0,.int .i64 0,.int .i64 0,.int .i64 0,.int .i64 0,.int .i64 0] 138;go_enter Tryz.func349,Tryz.ntmps349
 go_wp2_with (first|(refine Ay [.int .i64 t.k,.int .i64 t.vw,.string t.bn,.int .i64 t.bv,.string t.bs,.slice ao t.bw.length ca,.int .i64 t.pv,.string t.ps,.slice bo t.pw.length cb,.int .i64 t.qv,.string t.qs,.slice co t.qw.length cc,.int .i64 t.wh,.int .i64 t.fr,.int .i64 t.tu,.int .i64 t.am,.int .i64 t.no] (P.range 1 17 rfl) 75 _ rfl _ rfl rfl Tryz.underlying75 rfl (by kernel_rfl) ?_))
 clear hw0;refine(T1.out _ (HA.out.below AP) (HB.out.below AP) (HC.out.below AP)).mono ?_;rintro _ w1 ⟨u,v,x,rfl,m1,bb⟩;have AU:=bu AP bb;have DU:=bb.size;replace P:=P.up bb;replace O:=O.up bb;clear AP bb;obtain⟨a1,k1,b1,l1,c1,n1,rfl,rfl,rfl⟩:=m1.form;go_upto_region 2 with(first|(refine Fv #[.int .i64 t.k,.int .i64 t.vw,.string t.bn,.int .i64 t.bv,.string t.bs,.slice a1 t.bw.length k1,.int .i64 t.pv,.string t.ps,.slice b1 t.pw.length l1,.int .i64 t.qv,.string t.qs,.slice c1 t.qw.length n1,.int .i64 t.wh,.int .i64 t.fr,.int .i64 t.tu,.int .i64 t.am,.int .i64 t.no] (P.there 1 17 (by simp)) 75 rfl _ _ rfl rfl rfl (by kernel_rfl) (by simp[Value.oneCell']) ?_))
 obtain⟨w2,hw2⟩:∃y,(w1.setCells (w.heap.size) 1 [.int .i64 t.k,.int .i64 t.vw,.string t.bn,.int .i64 t.bv,.string t.bs,.slice a1 t.bw.length k1,.int .i64 t.pv,.string t.ps,.slice b1 t.pw.length l1,.int .i64 t.qv,.string t.qs,.slice c1 t.qw.length n1,.int .i64 t.wh,.int .i64 t.fr,.int .i64 t.tu,.int .i64 t.am,.int .i64 t.no])=y:=⟨_,rfl⟩
 rw[hw2];have kN:Kp w1 w2 (fun k=>k=w.heap.size):=hw2▸AY _ _ _ _;replace P:Loc w2 (w.heap.size) #[.int .i64 n,.int .i64 t.k,.int .i64 t.vw,.string t.bn,.int .i64 t.bv,.string t.bs,.slice a1 t.bw.length k1,.int .i64 t.pv,.string t.ps,.slice b1 t.pw.length l1,.int .i64 t.qv,.string t.qs,.slice c1 t.qw.length n1,.int .i64 t.wh,.int .i64 t.fr,.int .i64 t.tu,.int .i64 t.am,.int .i64 t.no]:=hw2▸(Loc.setCells (cs':=#[.int .i64 n,.int .i64 t.k,.int .i64 t.vw,.string t.bn,.int .i64 t.bv,.string t.bs,.slice a1 t.bw.length k1,.int .i64 t.pv,.string t.ps,.slice b1 t.pw.length l1,.int .i64 t.qv,.string t.qs,.slice c1 t.qw.length n1,.int .i64 t.wh,.int .i64 t.fr,.int .i64 t.tu,.int .i64 t.am,.int .i64 t.no]) [.int .i64 t.k,.int .i64 t.vw,.string t.bn,.int .i64 t.bv,.string t.bs,.slice a1 t.bw.length k1,.int .i64 t.pv,.string t.ps,.slice b1 t.pw.length l1,.int .i64 t.qv,.string t.qs,.slice c1 t.qw.length n1,.int .i64 t.wh,.int .i64 t.fr,.int .i64 t.tu,.int .i64 t.am,.int .i64 t.no] 1 P rfl);replace O:=O.kp kN (by omega);replace m1:=m1.kp kN (fun j h1 h2 h3 e=>by omega);have Al:=Below.kp AU kN AU.size (fun k hk=>by omega);have FM:=kN.size;clear hw2 kN AU;go_wp2_with (first|(refine BA P 138 _ rfl _ rfl rfl Tryz.underlying138 rfl (by kernel_rfl) ?_)|(refine Cb O 138 #[.int .i64 n,.int .i64 t.k,.int .i64 t.vw,.string t.bn,.int .i64 t.bv,.string t.bs,.slice a1 t.bw.length k1,.int .i64 t.pv,.string t.ps,.slice b1 t.pw.length l1,.int .i64 t.qv,.string t.qs,.slice c1 t.qw.length n1,.int .i64 t.wh,.int .i64 t.fr,.int .i64 t.tu,.int .i64 t.am,.int .i64 t.no] rfl _ _ rfl rfl rfl (by kernel_rfl) rfl (by simp[Value.oneCell']) ?_))
 obtain⟨wE,Db⟩:∃D5,w2.setRow (w.heap.size+1) #[.int .i64 n,.int .i64 t.k,.int .i64 t.vw,.string t.bn,.int .i64 t.bv,.string t.bs,.slice a1 t.bw.length k1,.int .i64 t.pv,.string t.ps,.slice b1 t.pw.length l1,.int .i64 t.qv,.string t.qs,.slice c1 t.qw.length n1,.int .i64 t.wh,.int .i64 t.fr,.int .i64 t.tu,.int .i64 t.am,.int .i64 t.no]=D5:=⟨_,rfl⟩
 have kN:Kp w2 wE (fun k=>k=w.heap.size+1):=Db▸Dv _ _ _;replace O:Loc wE (w.heap.size+1) #[.int .i64 n,.int .i64 t.k,.int .i64 t.vw,.string t.bn,.int .i64 t.bv,.string t.bs,.slice a1 t.bw.length k1,.int .i64 t.pv,.string t.ps,.slice b1 t.pw.length l1,.int .i64 t.qv,.string t.qs,.slice c1 t.qw.length n1,.int .i64 t.wh,.int .i64 t.fr,.int .i64 t.tu,.int .i64 t.am,.int .i64 t.no]:=Db▸O.row;replace P:=P.kp kN (by omega);replace m1:=m1.kp kN (fun j h1 h2 h3 e=>by omega);have Lc:=Below.kp Al kN Al.size (fun k hk=>by omega);have dV:=kN.size;rw[Db];clear Db kN Al;refine bodyPost_ret (v:=ZB n t (.slice a1 t.bw.length k1) (.slice b1 t.pw.length l1) (.slice c1 t.qw.length n1)) (CG Tryz.results349 _ O rfl Tryz.underlying138 rfl (by kernel_rfl)) rfl ?_;exact⟨_,_,_,rfl,m1.mono (by omega),Lc⟩
end
end Go.Proofs.YtcjmcgolgbkknaaGreatDoor
