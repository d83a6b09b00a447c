/- Lemmas, as stated. -/
import Derived.Test.YtcjmcgolgbkknaaGreatDoorTAAN
set_option maxRecDepth 100000
set_option maxHeartbeats 16000000
set_option linter.unusedSectionVars false
set_option linter.unusedSimpArgs false
namespace Go.Proofs.YtcjmcgolgbkknaaGreatDoor
section
open Go.RowKit
variable [∀(a b c d:Int),Decidable (BG a b c d)] [∀(n f:Int),Decidable (A_ n f)]
theorem Qn{rs:List Pr}{r:Pr}(h:r ∈ rs):r.2.1.size+r.2.2.2.2.length≤Bh rs:=by
 induction rs with
 |nil=>simp at h
 |cons x rs ih=>
  rcases List.mem_cons.1 h with rfl|h
  ·simp only[Bh];omega
  have:=ih h;simp only[Bh];omega
theorem l9{rs:List Pr}{p:Pt}(h:p ∈ rs.map WR):p.2.1.size+p.2.2.length≤Bh rs:=by
 obtain⟨r,hr,rfl⟩:=List.mem_map.1 h;exact Qn hr
theorem Ei.below{W W':World}{ao:Option Addr}{rs:List Pr}(h:Ei W ao rs)(hb:Below W.heap.size W W'):Ei W' ao rs:=by
 rcases h with h|⟨g,off,rfl,h⟩
 ·exact .inl h
 refine .inr ⟨g,off,rfl,fun k hk=>?_⟩;obtain⟨c0,c1,c2⟩:=h k hk;have hg:=AQ c0;exact⟨(hb.cell (p:=⟨g,off+k*3,none⟩) hg).trans c0,(hb.cell (p:=⟨g,off+k*3+1,none⟩) hg).trans c1,(hb.cell (p:=⟨g,off+k*3+2,none⟩) hg).trans c2⟩
def Tv:List Pt→Nat
 | []=>0
 |p :: ps=>p.2.2.length+Tv ps
theorem iI(k:Nat)(ps:List Pt):pend k ps=k+2*ps.length+Tv ps:=by
 induction ps generalizing k with
 |nil=>simp[pend,Tv]
 |cons p ps ih=>simp only[pend,Tv,ih,List.length_cons];omega
theorem af(k:Nat)(ps:List Pt)(h:∀p ∈ ps,p.2.2.length≤4194304):∀p ∈ Mw k ps,p.2.2.length≤4194304:=by
 induction ps generalizing k with
 |nil=>simp[Mw]
 |cons x ps ih=>
  intro p hp;simp only[Mw,List.mem_cons]at hp;rcases hp with rfl|hp
  ·simp only[Bz];exact h x (by simp)
  exact ih _ (fun y hy=>h y (by simp[hy])) p hp
end
section
open Go.RowKit
variable [∀(a b c d:Int),Decidable (BG a b c d)] [∀(n f:Int),Decidable (A_ n f)] [∀(a b c d:Nat),Decidable (DZ a b c d)] [∀(x:T4),Decidable (Du x)]
theorem RT.CV{w:World}{v:Value}{xs:List T4}(h:RT w v xs):∃ao ca,v= .slice ao xs.length ca:=by obtain⟨_,ao,ca,e,_⟩:=h;exact⟨ao,ca,e⟩
theorem Q4(t:Bt)(a b c d e a' b' c' d' e':Value)(w:World)(hs:I7 t)(h:En w t a b c d e)(h':En w t a' b' c' d' e'):
 Calls Tryz.prog 11 #[Dz t a b c d e,Dz t a' b' c' d' e'] w fun r w'=>r= .returned (.bool true)∧Below w.heap.size w w':=by
 have HX:=hide h;have HY:=hide h';have T1:=hide fun w h h'=>YU t.vo t.lo t.n t.s a a' t.qw t.d w h h';have T2:=hide fun w h h'=>eF b b' t.pool w h h';have T3:=hide fun w h h'=>Vu c c' t.tab w (by have:=hs.tb;omega) h h';have jo:=hide fun w h h'=>YX d d' t.AU t.su w h h';have T5:=hide fun w h h'=>Vt e e' t.held w (by have:=hs.h;omega) h h';obtain⟨oa,ka,rfl⟩:=h.q.form;obtain⟨ob,kb,rfl⟩:=RT.CV h.p;obtain⟨oc,kc,rfl⟩:=h.tb.form;obtain⟨od,kd,rfl⟩:=RB.CV h.d;obtain⟨oe,ke,rfl⟩:=h.h.form;obtain⟨mI,mU,rfl⟩:=h'.q.form;obtain⟨o8,pM,rfl⟩:=RT.CV h'.p;obtain⟨o7,pK,rfl⟩:=h'.tb.form;obtain⟨od',kd',rfl⟩:=RB.CV h'.d;obtain⟨QB,ke',rfl⟩:=h'.h.form;clear h h' hs;obtain⟨w0,hw0,AO,A,B,DC⟩:=Gb w #[.int .i64 t.id,.int .i64 t.vw,.int .i64 t.ak,.int .i64 t.vo,.int .i64 t.lo,.int .i64 t.n,.string t.s,.slice oa t.qw.length ka,.string t.d,.slice ob t.pool.length kb,.slice oc t.tab.length kc,.slice od t.AU.length kd,.int .i64 t.su,.slice oe t.held.length ke] 46 #[.int .i64 t.id,.int .i64 t.vw,.int .i64 t.ak,.int .i64 t.vo,.int .i64 t.lo,.int .i64 t.n,.string t.s,.slice mI t.qw.length mU,.string t.d,.slice o8 t.pool.length pM,.slice o7 t.tab.length pK,.slice od' t.AU.length kd',.int .i64 t.su,.slice QB t.held.length ke'] 46;go_enter Tryz.func11,Tryz.ntmps11
 obtain⟨Bi,Db,Da⟩:=B_ A 0 1 2;obtain⟨cB0,cB1,cB2⟩:=B_ B 0 1 2;go_wp2_with (first|(refine A9 [.int .i64 t.vo,.int .i64 t.lo,.int .i64 t.n,.string t.s,.slice oa t.qw.length ka,.string t.d] (A.range 3 6 rfl) 40 _ rfl _ rfl rfl Tryz.underlying40 rfl (by kernel_rfl) ?_)|(refine A9 [.int .i64 t.vo,.int .i64 t.lo,.int .i64 t.n,.string t.s,.slice mI t.qw.length mU,.string t.d] (B.range 3 6 rfl) 40 _ rfl _ rfl rfl Tryz.underlying40 rfl (by kernel_rfl) ?_))
 clear hw0;refine(T1.out _ (HX.out.q.below AO) (HY.out.q.below AO)).mono ?_;rintro _ w1 ⟨rfl,bb⟩;clear Bi Db Da cB0 cB1 cB2;have AZ:=bu AO bb;have Cx:=bb.size;replace A:=A.up bb;replace B:=B.up bb;clear AO bb;have Fp:=A.cell 9 rfl;have NB:=B.cell 9 rfl;go_wp2_with fail
 refine(T2.out _ (HX.out.p.below AZ) (HY.out.p.below AZ)).mono ?_;rintro _ w2 ⟨rfl,bb⟩;clear Fp NB;have Ao:=bu AZ bb;have Ex:=bb.size;replace A:=A.up bb;replace B:=B.up bb;clear AZ bb;have CG:=A.cell 10 rfl;have Ff:=B.cell 10 rfl;go_wp2_with fail
 refine(T3.out _ (HX.out.tb.below Ao) (HY.out.tb.below Ao)).mono ?_;rintro _ w3 ⟨rfl,bb⟩;clear CG Ff;have BK:=bu Ao bb;have IW:=bb.size;replace A:=A.up bb;replace B:=B.up bb;clear Ao bb;go_wp2_with (first|(refine A9 [.slice od t.AU.length kd,.int .i64 t.su] (A.range 11 2 rfl) 43 _ rfl _ rfl rfl Tryz.underlying43 rfl (by kernel_rfl) ?_)|(refine A9 [.slice od' t.AU.length kd',.int .i64 t.su] (B.range 11 2 rfl) 43 _ rfl _ rfl rfl Tryz.underlying43 rfl (by kernel_rfl) ?_))
 refine(jo.out _ (HX.out.d.below BK) (HY.out.d.below BK)).mono ?_;rintro _ w4 ⟨rfl,bb⟩;have Co:=bu BK bb;have OJ:=bb.size;replace A:=A.up bb;replace B:=B.up bb;clear BK bb;have BV:=A.cell 13 rfl;have F3:=B.cell 13 rfl;go_wp2_with fail
 refine(T5.out _ (HX.out.h.below Co) (HY.out.h.below Co)).mono ?_;rintro _ w5 ⟨rfl,bb⟩;clear BV F3;have FT:=bu Co bb;have Z8:=bb.size;replace A:=A.up bb;replace B:=B.up bb;clear Co bb;go_wp2;go_ret;exact⟨rfl,FT⟩
end
section
open Go.RowKit
theorem Vb(w:World):Calls Tryz.prog 174 #[] w fun e w'=>e= .returned (qv 0 ⟨#[]⟩ (.slice none 0 0))∧Below w.heap.size w w':=by
 go_enter Tryz.func174,Tryz.ntmps174
 go_wp2;refine bodyPost_ret (v:=qv 0 ⟨#[]⟩ (.slice none 0 0)) (by simp[results,Tryz.results174,go_sem]) rfl ?_;exact⟨rfl,Aj _ _⟩
theorem Um(g o:Nat)(n:Int)(      s:ByteArray)(ao:Option Addr)(ca:Nat)(xs:List Int)(w:World)(hg:w.rangeAt g o [.int .i64 n,.string s,.slice ao xs.length ca])(ha:RI w (.slice ao xs.length ca) xs)(hs:s.size≤281474976710656):
 Calls Tryz.prog 151 #[.pointer (some ⟨g,o,none⟩)] w fun e w'=>∃u,e= .returned (qv n s u)∧OI w' w.heap.size u xs∧Below w.heap.size w w':=by
 have CL:=hide fun w=>EK s w hs;have hgl:=Ca hg (by simp);obtain⟨w0,hw0⟩:∃w0,w.alloc zq=w0:=⟨_,rfl⟩
 have B0:Below w.heap.size w w0:=hw0▸Aj _ _;have Z0:Loc w0 w.heap.size #[.int .i64 0,.string ⟨#[]⟩,.slice none 0 0]:=hw0▸AJ w _ _ rfl;have s0:w0.heap.size=w.heap.size+1:=by rw[←hw0];simp
 have G0:=Ac hg B0 hgl;have G0l:=Ca G0 (by simp)
 have K:Hid (∀w',Below w0.heap.size w0 w'→Below w0.heap.size w0 w'∧w'.cell? ⟨g,o,none⟩=some (.int .i64 n)∧w'.cell? ⟨g,o+1,none⟩=some (.string s)):=hide fun w' hb=>
  ⟨hb,Al (Ac G0 hb G0l) 0 rfl,Al (Ac G0 hb G0l) 1 rfl⟩
 have RA:=hide ha;have HZ:=hide Z0;have HG:=hide G0;clear ha hg Z0 G0 G0l;go_enter Tryz.func151,Tryz.ntmps151
 go_upto_region 1 with fail
 clear hw0
 go_cut [3] (fun c wx=>∃h,c= .pointer (some ⟨h,0,none⟩)∧w0.heap.size≤h∧Loc wx h #[.int .i64 n,.string s,.slice none 0 0]∧Below w0.heap.size w0 wx)
 case first=>
  clear HZ HG RA;refine kC K (Below.drew (Below.refl _ _)) (fun hHeld=>?_);obtain⟨wd,hd⟩:∃wd,w0.drew=wd:=⟨_,rfl⟩
  have bd:Below w0.heap.size w0 wd:=hd▸Below.drew (Below.refl _ _);have uX:=bd.size;rw[hd]at hHeld⊢;clear hd;refine tx 0 4 ?_;refine tx 1 5 ?_;refine tx 2 6 ?_;refine tx 3 7 ?_;refine tx 4 8 ?_;refine tx 5 9 ?_;refine tx 6 10 ?_;refine tx 7 11 ?_;refine wpAnyH_ready (rs:=[8,10]) (by kernel_rfl) (by simp) (AllReadyH.cons rfl (fun KK AA=>?_) (AllReadyH.cons rfl (fun KK AA=>?_) AllReadyH.nil))
  ·go_simp;refine(CL.out _).mono ?_;rintro e Nr ⟨rfl,FM⟩;have bc1:Below w0.heap.size w0 Nr:=bu bd FM;have og:=FM.size;clear hHeld FM;refine AA.out _ _ (K.out _ bc1) (fun hHeld=>?_);clear AA KK;refine tx 9 13 ?_;refine rd 10 rfl (fun KK AA=>?_);go_simp;obtain⟨gD,Ki⟩:∃x,Nr.alloc (.cells #[.int .i64 0,.string ⟨#[]⟩,.slice none 0 0] 38)=x:=⟨_,rfl⟩
   have p9:Below w0.heap.size w0 gD:=Ki▸bc1.alloc bc1.size _;have lg:Loc gD Nr.heap.size #[.int .i64 0,.string ⟨#[]⟩,.slice none 0 0]:=Ki▸AJ Nr _ _ rfl;rw[Ki];clear hHeld Ki;refine AA.out _ _ (K.out _ p9) (fun hHeld=>?_);clear AA KK;have q0:=lg.cell 0 rfl;have q1:=lg.cell 1 rfl;have q2:=lg.cell 2 rfl;have FG:=lg.frozen;refine rd 11 rfl (fun KK AA=>?_);go_simp;have bs:Below w0.heap.size w0 (((gD.setCell ⟨Nr.heap.size,0,none⟩ (.int .i64 n)).setCell ⟨Nr.heap.size,1,none⟩ (.string s)).setCell ⟨Nr.heap.size,2,none⟩ (.slice none 0 0)):=Below.set (Below.set (Below.set p9 _ _ (by omega)) _ _ (by omega)) _ _ (by omega);clear hHeld;refine AA.out _ _ (K.out _ bs) (fun hHeld=>?_);clear AA KK hHeld;refine Bw ?_;go_wp2_with fail
   go_meet
   exact⟨_,rfl,by omega,((lg.set 0 _ rfl).set 1 _ rfl).set 2 _ rfl,bs⟩
  go_simp;obtain⟨oo,Kh⟩:∃x,wd.alloc (.cells #[.int .i64 0,.string ⟨#[]⟩,.slice none 0 0] 38)=x:=⟨_,rfl⟩
  have p8:Below w0.heap.size w0 oo:=Kh▸bd.alloc bd.size _;have lg:Loc oo wd.heap.size #[.int .i64 0,.string ⟨#[]⟩,.slice none 0 0]:=Kh▸AJ wd _ _ rfl;rw[Kh];clear hHeld Kh;refine AA.out _ _ (K.out _ p8) (fun hHeld=>?_);clear AA KK;refine rd 8 rfl (fun KK AA=>?_);go_simp;refine(CL.out _).mono ?_;rintro e oq ⟨rfl,FM⟩;have p_:Below w0.heap.size w0 oq:=bu p8 FM;have oZ:=FM.size;have lg:=lg.up FM;clear hHeld FM;refine AA.out _ _ (K.out _ p_) (fun hHeld=>?_);clear AA KK;refine tx 9 13 ?_;have q0:=lg.cell 0 rfl;have q1:=lg.cell 1 rfl;have q2:=lg.cell 2 rfl;have FG:=lg.frozen;refine rd 11 rfl (fun KK AA=>?_);go_simp;have bs:Below w0.heap.size w0 (((oq.setCell ⟨wd.heap.size,0,none⟩ (.int .i64 n)).setCell ⟨wd.heap.size,1,none⟩ (.string s)).setCell ⟨wd.heap.size,2,none⟩ (.slice none 0 0)):=Below.set (Below.set (Below.set p_ _ _ (by omega)) _ _ (by omega)) _ _ (by omega);clear hHeld;refine AA.out _ _ (K.out _ bs) (fun hHeld=>?_);clear AA KK hHeld;refine Bw ?_;go_wp2_with fail
  go_meet
  exact⟨_,rfl,by omega,((lg.set 0 _ rfl).set 1 _ rfl).set 2 _ rfl,bs⟩
 case rest=>
 obtain⟨h,rfl,hh,LH,bw⟩:=hcut;have G1:=Ac HG.out bw (Ca HG.out (by simp));have Z1:=HZ.out.below bw HZ.out.lt;have R1:=RA.out;have B1:Below w.heap.size w wc:=bu B0 bw;have s1:=bw.size;have l1:=LH.lt;have x2:=Al G1 2 rfl;have y0:=Z1.cell 0 rfl;have y1:=Z1.cell 1 rfl;have y2:=Z1.cell 2 rfl;have fy:=Z1.frozen;have h0:=LH.cell 0 rfl;have h1:=LH.cell 1 rfl;have h2:=LH.cell 2 rfl;have fh:=LH.frozen;have hl:=R1.1;clear HG HZ RA K CL bw B0;by_cases hx:xs=[]
 ·subst hx;go_wp2;refine bodyPost_ret (v:=qv n s (.slice none 0 0)) (by simp[results,Tryz.results151,go_sem,y0,y1,y2]) rfl ?_;exact⟨_,rfl,World.ownsRow_nil _ _ _ _,Below.set (Below.set (Below.set B1 _ _ Ak) _ _ Ak) _ _ Ak⟩
 have hp:0<xs.length:=List.length_pos_iff.2 hx;obtain⟨cs,hcs⟩:∃cs,xs.map (Value.int .i64)=cs:=⟨_,rfl⟩
 have hcl:cs.length=xs.length:=by rw[←hcs];simp
 have hone:∀v ∈ cs,v.oneCell'=true:=by rw[←hcs];exact Fe xs
 obtain⟨ad,rfl,hcells⟩:∃ad,ao=some ad∧∀j u,cs[j]? =some u→w.cell? (ad.add j)=some u:=by
  obtain⟨_,QR,V8,e,hr⟩:=R1;cases e
  rcases hr with rfl|⟨b,off,rfl,hr⟩
  ·exact absurd rfl hx
  exact⟨_,rfl,hcs▸GV hr⟩
 have hrows:∀w',Below w.heap.size w w'→∀j u,cs[j]? =some u→w'.cell? (ad.add j)=some u:=fun w' hb j u hj=>(hb.cell (AQ (hcells j u hj))).trans (hcells j u hj);have HR:=hide hrows;have HC:=hide hcs;obtain⟨i0,hi,hz0,hz1,hz2⟩:=info_parts Tryz.info3;obtain⟨m,hm⟩:∃m,xs.length=m:=⟨_,rfl⟩
 rw[hm]at hl hcl hp x2 G1;have Hm:=hide hm;clear R1 hcells hrows hcs hm hx;have hgt:decide ((0:Int)<(m:Int))=true:=by simpa using hp
 go_upto_region 4 with (first | (at_make;refine wpList_make_full _ rfl _ _ 24 rfl wc.heap.size 3 i0 (.int .i64 0) 1 Tryz.underlying24 hi hz0 hz1 .i64 .i64 m m m rfl rfl rfl rfl (by rw[hz2];omega) (by unfold maxLen;omega) Ak ?_;intro w2 ho2 hg2
                                 have b2:Below wc.heap.size wc w2:=(Below.refl _ _).grown hg2 Ak (by simp);have L2:=LH.up b2;have k2:=L2.cell 2 rfl;have f2:=L2.frozen))
 obtain⟨hlen,hrow⟩:=ho2;rcases hrow with⟨e,_⟩|⟨row,cap,cur,e,hrb,jC,_,hcm,hcz,hct⟩
 ·cases e
 cases e
 have hlt2:wc.heap.size<w2.heap.size:=(Array.getElem?_eq_some_iff.1 jC).1;obtain⟨w3,hw3⟩:∃w3,w2.setCell ⟨h,2,none⟩ (.slice (some ⟨wc.heap.size,0,none⟩) m m)=w3:=⟨_,rfl⟩
 have B3:Below w.heap.size w w3:=hw3▸Below.set (bu B1 b2) (g:=h) 2 _ (by omega);have K3:Kp w2 w3 (fun k=>k=h):=hw3▸AB w2 h 2 _;have L3:Loc w3 h #[.int .i64 n,.string s,.slice (some ⟨wc.heap.size,0,none⟩) m m]:=hw3▸L2.set 2 _ rfl;have Z3:=(Z1.up b2).kp K3 (by omega);have G1l:=Ca G1 (by simp);have G3:=Oc (Ac G1 b2 G1l) K3 (by omega);have H3:w3.heap[wc.heap.size]? =some (.cells cur.toList.toArray 3 (0,0)):=by rw[K3.block _ hlt2 (by omega)];simpa using jC
 have c3:=HR.out w3 B3;have z3:=K3.size;have p2:=L3.cell 2 rfl;have q2:=Al G3 2 rfl;have jI:cur.toList.length=m:=by simpa using hcz
 rw[hw3];clear hw3 k2 f2 h0 h1 h2 fh y0 y1 y2 fy x2;have xg:=hide H3;have C3:=hide c3
 go_region_law (refine step_copy_splice rfl (.tmp 28) (.tmp 32) 24 24 rfl 3 Tryz.underlying24 (by rw[hi];simp[hz1]) (some ⟨wc.heap.size,0,none⟩) (some ad) m m m ca (by simp[Act.eval]) (by simp[Act.eval]) wc.heap.size 0 cur.toList 3 xg.out cs (by rw[hcl];simp) (fun _=>⟨rfl,_,rfl,C3.out⟩) (by omega) hone wc.heap.size w3 ⟨rfl,rfl,rfl,Nat.le_refl _,fun _ _=>rfl⟩ Ak ?_;intro w4 hg4 hb4)
 all_goals
  have L4:=L3.below hb4 l1;have Z4:=Z3.below hb4 (by omega);have B4:Below w.heap.size w w4:=B3.trans (hb4.mono (by omega));have h0:=L4.cell 0 rfl;have h1:=L4.cell 1 rfl;have h2:=L4.cell 2 rfl;have y0:=Z4.cell 0 rfl;have y1:=Z4.cell 1 rfl;have y2:=Z4.cell 2 rfl;have fy:=Z4.frozen
  have O4:OI w4 w.heap.size (.slice (some ⟨wc.heap.size,0,none⟩) m m) xs:=by
   refine⟨by rw[Hm.out];simp[Hm.out],.inr ⟨wc.heap.size,m,_,by rw[Hm.out],by omega,hg4.out,by rw[Hm.out];exact Nat.le_refl _,hcm,?_,?_⟩⟩
   ·rw[List.size_toArray,length_splice _ _ _ (by omega),jI,Nat.mul_one]
   rw[HC.out];simp[splice,Hm.out,hcl]
  have HO:=hide O4;clear L3 Z3 G3 H3 c3 p2 q2 K3 L4 Z4 O4 hg4 hb4 LH Z1 G1 G1l b2 L2 hlen hct hcz jC;go_wp2;refine bodyPost_ret (v:=qv n s (.slice (some ⟨wc.heap.size,0,none⟩) m m)) (by simp[results,Tryz.results151,go_sem,y0,y1,y2]) rfl ?_;have K5:Kp w4 (((w4.setCell ⟨w.heap.size,0,none⟩ (.int .i64 n)).setCell ⟨w.heap.size,1,none⟩ (.string s)).setCell ⟨w.heap.size,2,none⟩ (.slice (some ⟨wc.heap.size,0,none⟩) m m)) (fun k=>k=w.heap.size):=((AB _ _ _ _).trans (AB _ _ _ _)).trans (AB _ _ _ _);exact⟨_,rfl,HO.out.kp K5 (fun k hk=>by simp[Value.ownBlock]at hk;omega),Below.set (Below.set (Below.set B4 _ _ Ak) _ _ Ak) _ _ Ak⟩
end
section
open Go.RowKit
variable [∀(a b c d:Int),Decidable (BG a b c d)] [∀(n f:Int),Decidable (A_ n f)]
theorem Ql(n:Int)(s:ByteArray)(v:Value)(xs:List Int)(w:World)(h:RI w v xs)(hs:s.size≤281474976710656):
 Calls Tryz.prog 346 #[qv n s v] w fun e w'=>∃u,e= .returned (qv n s u)∧OI w' w.heap.size u xs∧Below w.heap.size w w':=by
 obtain⟨ao,ca,rfl⟩:=h.form;obtain⟨w0,hw0⟩:∃y,((w.alloc (.cells #[.int .i64 n,.string s,.slice ao xs.length ca] 72)).alloc zV).alloc (.cells #[.int .i64 n,.string s,.slice ao xs.length ca] 38)=y:=⟨_,rfl⟩
 have B0:Below w.heap.size w w0:=hw0▸((Bj _ _ _).alloc (by simp;omega) _);have LZ:Loc w0 (w.heap.size+1) #[.int .i64 0,.string ⟨#[]⟩,.slice none 0 0]:=hw0▸(AJ (w.alloc _) _ _ (by simp)).alloc _;have LQ:Loc w0 (w.heap.size+1+1) #[.int .i64 n,.string s,.slice ao xs.length ca]:=hw0▸(AJ ((w.alloc _).alloc _) _ _ (by simp));have s0:w0.heap.size=w.heap.size+1+1+1:=by rw[←hw0];simp
 have TO:=hide (aV (w.heap.size+1+1) n s ao ca xs w0 LQ (h.below B0) hs);have HZ:=hide LZ;clear h LZ LQ;go_enter Tryz.func346,Tryz.ntmps346
 go_wp2_with fail
 clear hw0;refine TO.out.mono ?_;rintro e w2 ⟨u,rfl,o2,b2⟩;have B2:Below w.heap.size w w2:=bu B0 b2;have Z2:=HZ.out.below b2 HZ.out.lt;have y0:=Z2.cell 0 rfl;have y1:=Z2.cell 1 rfl;have y2:=Z2.cell 2 rfl;have fy:=Z2.frozen;have QG:=World.ownsRow.lt o2;obtain⟨ua,uc,rfl⟩:=o2.form;have O2:=hide o2;clear o2 b2 Z2 HZ TO;go_wp2;refine bodyPost_ret (v:=qv n s (.slice ua xs.length uc)) (by simp[results,Tryz.results346,go_sem,y0,y1,y2]) rfl ?_;have K5:Kp w2 (((w2.setCell ⟨w.heap.size+1,0,none⟩ (.int .i64 n)).setCell ⟨w.heap.size+1,1,none⟩ (.string s)).setCell ⟨w.heap.size+1,2,none⟩ (.slice ua xs.length uc)) (fun k=>k=w.heap.size+1):=((AB _ _ _ _).trans (AB _ _ _ _)).trans (AB _ _ _ _);exact⟨_,rfl,(O2.out.kp K5 (fun k hk=>by have:=QG k hk;omega)).mono (by omega),Below.kp B2 K5 B2.size (fun k hk=>by omega)⟩

theorem UQ(ao:Option Addr)(n ca:Nat)(w:World):
 Calls Tryz.prog 146 #[.slice ao n ca] w fun e w'=>e= .returned (.agg #[.slice ao n ca,.func (.func 183) #[] #[]])∧Below w.heap.size w w':=by
 go_enter Tryz.func146,Tryz.ntmps146
 go_wp2;refine bodyPost_ret (v:= .agg #[.slice ao n ca,.func (.func 183) #[] #[]]) (by simp[results,Tryz.results146,go_sem]) rfl ?_;exact⟨rfl,(Below.refl _ _).alloc Ak _⟩
end
section
open Go Go.RowKit
section
variable {P:Program} {ops:Array Oper} {Q:Exit→Act→World→Prop} {md:Region.Mode} {S:World→Prop} {D:Nat→Bool}
def Ig(P:Program)(md:Region.Mode)(ops:Array Oper)(Q:Exit→Act→World→Prop)(S:World→Prop)(D:Nat→Bool):Nat→Array Bool→Act→World→Prop
 |0,l,a,w=>Region.ready md ops l=[]∧Q .normal a w
 |n+1,l,a,w=>(Region.ready md ops l=[]→Q .normal a w)∧∀i ∈ Region.ready md ops l,wpOp P ops Q i (fun a' w'=>(D i=false→S w→S w')∧Ig P md ops Q S D n (l.setIfInBounds i true) a' w') a w
theorem Ig.any:∀(n:Nat)(l:Array Bool)(a:Act)(w:World),Ig P md ops Q S D n l a w→wpAny P md ops Q n l a w
 |0,_,_,_,h=>h
 |n+1,_,_,_,h=>⟨h.1,fun i hi=>wpOp_mono (fun a' w' h'=>Ig.any n _ a' w' h'.2) (h.2 i hi)⟩
def pF(md:Region.Mode)(ops:Array Oper)(D:Nat→Bool)(i:Nat):Bool:=(List.range ops.size).all fun j=>!D j||(match ops[j]? with|some o=>o.after.any (fun e=>Region.binds md e&&e.on==i)|none=>true)
theorem Xu{i j:Nat}{o:Oper}(h:pF md ops D i=true)(ho:ops[j]? =some o)(hd:D j=true):∃e ∈ o.after,Region.binds md e=true∧e.on=i:=by
 have hj:j<ops.size:=(Array.getElem?_eq_some_iff.1 ho).1;have h1:=List.all_eq_true.1 h j (List.mem_range.2 hj);rw[hd,ho]at h1;simp only[Bool.not_true,Bool.false_or,Array.any_eq_true',Bool.and_eq_true,beq_iff_eq]at h1;exact h1
theorem Ig.first{S':World→Prop}{i:Nat}{oi:Oper}{v:Value}(hi:ops[i]? =some oi)(hsel:Region.noSelect ops=true)(hD:∀j oj,ops[j]? =some oj→(∀e ∈ oj.after,Region.binds md e=true→e.on≠i)→∀w w',(D j=false→S w→S w')→S' w→S' w')
 (hQ:∀c a w,Q (.panic c) (a.put oi.dst v) w→Q (.panic c) a w):∀(n:Nat)(l:Array Bool)(a:Act)(w:World),
 (∀j oj,ops[j]? =some oj→j≠i→l.getD j true=false→(∀e ∈ oj.after,Region.binds md e=true→e.on≠i)→oi.apart ops oj=true)→i ∈ Region.ready md ops l→YieldsIf P ops S' oi v a→S' w→
 Ig P md ops Q S D n (l.setIfInBounds i true) (a.put oi.dst v) w→Ig P md ops Q S D (n+1) l a w:=by
 intro n
 induction n with
 | zero=>
  intro l a w _ hr hy hS H;refine⟨fun h0=>(by rw[h0]at hr;cases hr),fun j hj=>?_⟩;by_cases e:j=i
  ·rw[e];exact hy.wpOp hi hS ⟨fun _ h=>h,H⟩
  ·have:=ready_mono hj e;rw[H.1]at this;cases this
 | succ n ih=>
  intro l a w hf hr hy hS H;refine⟨fun h0=>(by rw[h0]at hr;cases hr),fun j hj=>?_⟩;by_cases e:j=i
  ·rw[e];exact hy.wpOp hi hS ⟨fun _ h=>h,H⟩
  obtain⟨u1,oj,hoj,u2⟩:=mem_ready.1 hj;have hli:l.getD i true=false:=(mem_ready.1 hr).1
  have un:∀x ∈ oj.after,Region.binds md x=true→x.on≠i:=fun x hx hb hq=>by
   have h1:=u2 x hx hb;rw[hq]at h1;by_cases hs:i<l.size
   ·simp[Array.getD_eq_getD_getElem?,hs]at h1 hli;rw[h1]at hli;cases hli
   simp[Array.getD_eq_getD_getElem?,Array.getElem?_eq_none (Nat.le_of_not_lt hs)]at h1
  have step:=wpOp_putIf hoj (hf j oj hoj e u1 un) (fun cs b=>Region.noSelect_spec hsel i oi cs b hi) (fun cs b=>Region.noSelect_spec hsel j oj cs b hoj) hQ hy (H.2 j (ready_mono hj e));refine wpOp_mono (fun a' w' h3=>⟨h3.2.1,ih _ a' w' (fun k ok hk hki hun hno=>hf k ok hk hki ?_ hno) (ready_mono hr (Ne.symm e)) h3.1 (hD j oj hoj un w w' h3.2.1 hS) ?_⟩) step
  ·by_cases hjk:j=k
   ·rw[←hjk];exact u1
   rw[getD_set_ne true hjk]at hun;exact hun
  rw[Array.setIfInBounds_comm _ _ e];exact h3.2.2
theorem Dn{i d:Nat}{oi:Oper}{v:Value}{n:Nat}{l:Array Bool}{a:Act}{w:World}(hi:ops[i]? =some oi)(hd:oi.dst=some d)
 (hs:Region.noSelect ops=true) (hD:pF md ops D i=true) (hf:Region.free md ops l i=true) (hr:(Region.ready md ops l).contains i=true)
 (hQ:∀c a w,Q (.panic c) (a.put (some d) v) w→Q (.panic c) a w) (hy:YieldsIf P ops S oi v a) (hS:S w)
 (h:Ig P md ops Q S D n (l.setIfInBounds i true) (a.put (some d) v) w):Ig P md ops Q S D (n+1) l a w:=
 Ig.first hi hs (fun j oj hoj un w w' hw h'=>by
  cases hc:D j with
  |false=>exact hw hc h'
  |true=>obtain⟨x,hx,hb,ho⟩:=Xu hD hoj hc;exact absurd ho (un x hx hb)) (by rw[hd];exact hQ) n l a w (Region.free_spec hi hf) (by simpa using hr) hy hS (by rw[hd];exact h)
theorem BD{i d:Nat}{oi:Oper}{v:Value}{n:Nat}{l:Array Bool}{a:Act}{w:World}(hi:ops[i]? =some oi)(hd:oi.dst=some d)
 (hs:Region.noSelect ops=true) (hf:Region.free md ops l i=true) (hr:(Region.ready md ops l).contains i=true)
 (hQ:∀c a w,Q (.panic c) (a.put (some d) v) w→Q (.panic c) a w) (hy:YieldsIf P ops (fun _=>True) oi v a)
 (h:Ig P md ops Q S D n (l.setIfInBounds i true) (a.put (some d) v) w):Ig P md ops Q S D (n+1) l a w:=
 Ig.first (S':=fun _=>True) hi hs (fun _ _ _ _ _ _ _ _=>trivial) (by rw[hd];exact hQ) n l a w (Region.free_spec hi hf) (by simpa using hr) hy trivial (by rw[hd];exact h)
theorem A7{i:Nat}{o:Oper}{n:Nat}{l:Array Bool}{a:Act}{w:World}(ho:ops[i]? =some o)(hr:Region.ready md ops l=[i])
 (h:∀K':Act→World→Prop,Shut (∀a' w',(D i=false→S w→S w')→Ig P md ops Q S D n (l.setIfInBounds i true) a' w'→K' a' w')→if Region.wanted o (yielded ops a.tmps)=true then Oper.wp P o a w K' Q else K' (a.put o.dst undef) w):
 Ig P md ops Q S D (n+1) l a w:=
 ⟨fun h0=>(by rw[hr]at h0;cases h0),fun j hj=>by
  rw[hr]at hj;obtain rfl:=List.mem_singleton.1 hj;exact wpOp_step ho fun K' hK=>h K' (fun a w h1 h2=>hK a w ⟨h1,h2⟩)⟩
theorem JE{l:Array Bool}{a:Act}{w:World}(hr:Region.ready md ops l=[])(h:Q .normal a w):∀n,Ig P md ops Q S D n l a w
 |0=>⟨hr,h⟩
 |_+1=>⟨fun _=>h,by rw[hr];simp⟩
theorem H6(D:Nat→Bool){id:Nat}{a:Act}{w:World}(hm:P.follows .mixedOrders=true)(h:Ig P .any ops Q S D ops.size (Array.replicate ops.size false) a w.drew):(Code.region id ops true).wp P Q a w:=
 wp_region_any hm (Ig.any _ _ _ _ h)
end
end
section
open Go Go.RowKit
variable [∀(a b c d:Int),Decidable (BG a b c d)] [∀(n f:Int),Decidable (A_ n f)] [∀(a b c d:Nat),Decidable (DZ a b c d)] [∀(x:T4),Decidable (Du x)]
theorem fG(m:ByteArray)(v:Int)(s:ByteArray)(ao:Option Addr)(ca:Nat)(xs:List Int)(w:World)(hm:m.size≤281474976710656)(hs:s.size≤281474976710656)(ha:RI w (.slice ao xs.length ca) xs):
 Calls Tryz.prog 345 #[bv m v s (.slice ao xs.length ca)] w fun e w'=>∃u,e= .returned (bv m v s u)∧OI w' w.heap.size u xs∧Below w.heap.size w w':=by
 have CL:=hide fun w'=>EK m w' hm;have TO:=hide fun g w'(hg:w'.rangeAt g 1 [.int .i64 v,.string s,.slice ao xs.length ca]) h=>Um g 1 v s ao ca xs w' hg h hs;have HA:=hide ha;clear ha hm hs;obtain⟨w0,hw0,AO,P,O,DC⟩:=Gb w #[.string m,.int .i64 v,.string s,.slice ao xs.length ca] 71 #[.string ⟨#[]⟩,.int .i64 0,.string ⟨#[]⟩,.slice none 0 0] 71;go_enter Tryz.func345,Tryz.ntmps345
 have fV:=P.cell 0 rfl;go_wp2_with fail
 clear hw0;refine(CL.out _).mono ?_;rintro _ w1 ⟨rfl,bb⟩;clear fV;have AZ:=bu AO bb;have Cx:=bb.size;replace P:=P.up bb;replace O:=O.up bb;clear AO bb;go_wp2_with fail
 refine(TO.out _ _ (P.range 1 3 rfl) (HA.out.below AZ)).mono ?_;rintro _ w2 ⟨u,rfl,oA,bb⟩;have Ao:=bu AZ bb;have Ex:=bb.size;replace P:=P.up bb;replace O:=O.up bb;clear AZ bb;have toA:=World.ownsRow.lt oA;obtain⟨DT,DJ,rfl⟩:=oA.form;go_wp2_with (first|(refine BH O 71 #[.string m,.int .i64 v,.string s,.slice DT xs.length DJ] rfl _ _ rfl rfl rfl (by kernel_rfl) rfl (by simp[Value.oneCell']) ?_))
 obtain⟨wE,Bf⟩:∃Ck,w2.setRow (w.heap.size+1) #[.string m,.int .i64 v,.string s,.slice DT xs.length DJ]=Ck:=⟨_,rfl⟩
 have kN:Kp w2 wE (fun k=>k=w.heap.size+1):=Bf▸Bu _ _ _;replace O:Loc wE (w.heap.size+1) #[.string m,.int .i64 v,.string s,.slice DT xs.length DJ]:=Bf▸O.row;replace P:=P.kp kN (by omega);replace oA:=oA.kp kN (fun j hj e=>by have:=toA j hj;omega);have Fh:=Below.kp Ao kN Ao.size (fun k hk=>by omega);have Pp:=kN.size;rw[Bf];clear Bf kN Ao;refine bodyPost_ret (v:=bv m v s (.slice DT xs.length DJ)) (Ch Tryz.results345 _ O rfl Tryz.underlying71 rfl (by kernel_rfl)) rfl ?_;exact⟨_,rfl,oA.mono (by omega),Fh⟩
structure MZ(t:MT):Prop where
 bn:t.bn.size≤281474976710656
 bs:t.bs.size≤281474976710656
 ps:t.ps.size≤281474976710656
 qs:t.qs.size≤281474976710656
theorem cK(t:MT)(ao bo co:Option Addr)(ca cb cc:Nat)(w:World)(hs:MZ t)(ha:RI w (.slice ao t.bw.length ca) t.bw)(hb:RI w (.slice bo t.pw.length cb) t.pw)(hc:RI w (.slice co t.qw.length cc) t.qw):
 Calls Tryz.prog 348 #[Dw t (.slice ao t.bw.length ca) (.slice bo t.pw.length cb) (.slice co t.qw.length cc)] w fun e w'=>∃u v x,e= .returned (Dw t u v x)∧OM w' w.heap.size u v x t.bw t.pw t.qw∧Below w.heap.size w w':=by
 have T1:=hide fun w' h=>fG t.bn t.bv t.bs ao ca t.bw w' hs.bn hs.bs h;have T2:=hide fun w' h=>Ql t.pv t.ps (.slice bo t.pw.length cb) t.pw w' h hs.ps;have T3:=hide fun g w'(hg:w'.rangeAt g 9 [.int .i64 t.qv,.string t.qs,.slice co t.qw.length cc]) h=>Um g 9 t.qv t.qs co cc t.qw w' hg h hs.qs;have HA:=hide ha;have HB:=hide hb;have HC:=hide hc;clear ha hb hc hs;obtain⟨w0,hw0,AO,P,O,DC⟩:=Gb w #[.int .i64 t.k,.int .i64 t.vw,.string t.bn,.int .i64 t.bv,.string t.bs,.slice ao t.bw.length ca,.int .i64 t.pv,.string t.ps,.slice bo t.pw.length cb,.int .i64 t.qv,.string t.qs,.slice co t.qw.length cc,.int .i64 t.wh,.int .i64 t.fr,.int .i64 t.tu,.int .i64 t.am,.int .i64 t.no] 75 #[.int .i64 0,.int .i64 0,.string ⟨#[]⟩,.int .i64 0,.string ⟨#[]⟩,.slice none 0 0,.int .i64 0,.string ⟨#[]⟩,.slice none 0 0,.int .i64 0,.string ⟨#[]⟩,.slice none 0 0,.int .i64 0,.int .i64 0,.int .i64 0,.int .i64 0,.int .i64 0] 75;go_enter Tryz.func348,Tryz.ntmps348
 have K:=kw (kL P);go_upto_region 1 with fail
 clear hw0;have bA:Below w0.heap.size w0 w0.drew:=Below.drew (Below.refl _ _);refine wp_region_noPanic ?_;refine H6 (S:=fun w'=>Below w0.heap.size w0 w'∧Loc w' (w.heap.size) #[.int .i64 t.k,.int .i64 t.vw,.string t.bn,.int .i64 t.bv,.string t.bs,.slice ao t.bw.length ca,.int .i64 t.pv,.string t.ps,.slice bo t.pw.length cb,.int .i64 t.qv,.string t.qs,.slice co t.qw.length cc,.int .i64 t.wh,.int .i64 t.fr,.int .i64 t.tu,.int .i64 t.am,.int .i64 t.no]) (fun j=>j==9||j==11||j==13) (by kernel_rfl) ?_;obtain⟨Tn,hwd⟩:∃y,w0.drew=y:=⟨_,rfl⟩
 rw[hwd]at bA⊢;clear hwd;have bb:=bA;have Eo:=bu AO bb;have Z7:=bb.size;replace P:=P.up bb;replace O:=O.up bb;clear AO bb;refine BD (i:=0) (d:=3) (v:=?_) rfl rfl (by kernel_rfl) (by kernel_rfl) (by kernel_rfl) (fun _ _ _ h=>h) (Or.inl ⟨by rfl,?_⟩) ?_
 rotate_left
 ·intro w hSw
  try dsimp only at hSw
  go_simp
  try with_reducible rfl
 simp only[Act.put,List.setIfInBounds_toArray,List.set_cons_zero,List.set_cons_succ];refine BD (i:=3) (d:=6) (v:=?_) rfl rfl (by kernel_rfl) (by kernel_rfl) (by kernel_rfl) (fun _ _ _ h=>h) (Or.inl ⟨by rfl,?_⟩) ?_
 rotate_left
 ·intro w hSw
  try dsimp only at hSw
  go_simp
  try with_reducible rfl
 simp only[Act.put,List.setIfInBounds_toArray,List.set_cons_zero,List.set_cons_succ];refine BD (i:=6) (d:=9) (v:=?_) rfl rfl (by kernel_rfl) (by kernel_rfl) (by kernel_rfl) (fun _ _ _ h=>h) (Or.inl ⟨by rfl,?_⟩) ?_
 rotate_left
 ·intro w hSw
  try dsimp only at hSw
  go_simp
  try with_reducible rfl
 simp only[Act.put,List.setIfInBounds_toArray,List.set_cons_zero,List.set_cons_succ];refine Dn (i:=1) (d:=4) (v:= .agg #[.string t.bn,.int .i64 t.bv,.string t.bs,.slice ao t.bw.length ca]) rfl rfl (by kernel_rfl) (by kernel_rfl) (by kernel_rfl) (by kernel_rfl) (fun _ _ _ h=>h) ?_ (K.out _ bA) ?_
 ·exact Bb rfl 71 _ rfl rfl [.string t.bn,.int .i64 t.bv,.string t.bs,.slice ao t.bw.length ca] _ (fun w h=>(h.2).range 2 4 rfl) Tryz.underlying71 rfl (by kernel_rfl)
 simp only[Act.put,List.setIfInBounds_toArray,List.set_cons_zero,List.set_cons_succ];refine Dn (i:=4) (d:=7) (v:= .agg #[.int .i64 t.pv,.string t.ps,.slice bo t.pw.length cb]) rfl rfl (by kernel_rfl) (by kernel_rfl) (by kernel_rfl) (by kernel_rfl) (fun _ _ _ h=>h) ?_ (K.out _ bA) ?_
 ·exact Bb rfl 72 _ rfl rfl [.int .i64 t.pv,.string t.ps,.slice bo t.pw.length cb] _ (fun w h=>(h.2).range 6 3 rfl) Tryz.underlying72 rfl (by kernel_rfl)
 simp only[Act.put,List.setIfInBounds_toArray,List.set_cons_zero,List.set_cons_succ];refine A7 (i:=2) rfl (by kernel_rfl) (fun KK AA=>?_);go_simp;refine(T1.out _ (HA.out.below Eo)).mono ?_;rintro e w1 ⟨u,rfl,oA,bb⟩;have Au:Below w0.heap.size w0 w1:=bu bA bb;refine AA.out _ _ (fun _ _=>K.out _ Au) ?_;clear AA KK bA;have AZ:=bu Eo bb;have Cx:=bb.size;replace P:=P.up bb;replace O:=O.up bb;clear Eo bb;have toA:=World.ownsRow.lt oA;obtain⟨DT,DJ,rfl⟩:=oA.form;refine A7 (i:=5) rfl (by kernel_rfl) (fun KK AA=>?_);go_simp;refine(T2.out _ (HB.out.below AZ)).mono ?_;rintro e w2 ⟨u,rfl,oB,bb⟩;have BS:Below w0.heap.size w0 w2:=bu Au bb;refine AA.out _ _ (fun _ _=>K.out _ BS) ?_;clear AA KK Au;have Ao:=bu AZ bb;have Ex:=bb.size;replace P:=P.up bb;replace O:=O.up bb;replace oA:=oA.below bb;clear AZ bb;have BU:=World.ownsRow.lt oB;obtain⟨D_,D8,rfl⟩:=oB.form;refine A7 (i:=7) rfl (by kernel_rfl) (fun KK AA=>?_);go_simp;refine(T3.out _ _ (P.range 9 3 rfl) (HC.out.below Ao)).mono ?_;rintro e w3 ⟨u,rfl,oC,bb⟩;have Fq:Below w0.heap.size w0 w3:=bu BS bb;refine AA.out _ _ (fun _ _=>K.out _ Fq) ?_;clear AA KK BS;have BK:=bu Ao bb;have IW:=bb.size;replace P:=P.up bb;replace O:=O.up bb;replace oA:=oA.below bb;replace oB:=oB.below bb;clear Ao bb;have toC:=World.ownsRow.lt oC;obtain⟨El,Ej,rfl⟩:=oC.form;refine BD (i:=8) (d:=11) (v:=?_) rfl rfl (by kernel_rfl) (by kernel_rfl) (by kernel_rfl) (fun _ _ _ h=>h) (Or.inl ⟨by rfl,?_⟩) ?_
 rotate_left
 ·intro w hSw
  try dsimp only at hSw
  go_simp
  try with_reducible rfl
 simp only[Act.put,List.setIfInBounds_toArray,List.set_cons_zero,List.set_cons_succ];refine A7 (i:=9) rfl (by kernel_rfl) (fun KK AA=>?_);rw[if_pos (by rfl)];refine wp_store_mid 71 (.tmp 11) (.tmp 5) rfl (w.heap.size) 2 #[.string t.bn,.int .i64 t.bv,.string t.bs,.slice DT t.bw.length DJ] rfl rfl (P.there 2 4 (by simp)) (by kernel_rfl) (by simp[Value.oneCell']) ?_;refine AA.out _ _ (fun h=>absurd h (by decide)) ?_;clear AA KK;obtain⟨w4,hw4⟩:∃y,w3.setCells (w.heap.size) 2 [.string t.bn,.int .i64 t.bv,.string t.bs,.slice DT t.bw.length DJ]=y:=⟨_,rfl⟩
 rw[hw4];have kN:Kp w3 w4 (fun k=>k=w.heap.size):=hw4▸Ad _ _ _ _;replace P:Loc w4 (w.heap.size) #[.int .i64 t.k,.int .i64 t.vw,.string t.bn,.int .i64 t.bv,.string t.bs,.slice DT t.bw.length DJ,.int .i64 t.pv,.string t.ps,.slice bo t.pw.length cb,.int .i64 t.qv,.string t.qs,.slice co t.qw.length cc,.int .i64 t.wh,.int .i64 t.fr,.int .i64 t.tu,.int .i64 t.am,.int .i64 t.no]:=hw4▸P.setCells _ _ rfl;replace O:=O.kp kN (by omega);replace oA:=oA.kp kN (fun j hj e=>by have:=toA j hj;omega);replace oB:=oB.kp kN (fun j hj e=>by have:=BU j hj;omega);replace oC:=oC.kp kN (fun j hj e=>by have:=toC j hj;omega);have Co:=Below.kp BK kN BK.size (fun k hk=>by omega);have OJ:=kN.size;clear hw4 kN BK;refine BD (i:=10) (d:=12) (v:=?_) rfl rfl (by kernel_rfl) (by kernel_rfl) (by kernel_rfl) (fun _ _ _ h=>h) (Or.inl ⟨by rfl,?_⟩) ?_
 rotate_left
 ·intro w hSw
  try dsimp only at hSw
  go_simp
  try with_reducible rfl
 simp only[Act.put,List.setIfInBounds_toArray,List.set_cons_zero,List.set_cons_succ];refine A7 (i:=11) rfl (by kernel_rfl) (fun KK AA=>?_);rw[if_pos (by rfl)];refine wp_store_mid 72 (.tmp 12) (.tmp 8) rfl (w.heap.size) 6 #[.int .i64 t.pv,.string t.ps,.slice D_ t.pw.length D8] rfl rfl (P.there 6 3 (by simp)) (by kernel_rfl) (by simp[Value.oneCell']) ?_;refine AA.out _ _ (fun h=>absurd h (by decide)) ?_;clear AA KK;obtain⟨w5,MC⟩:∃y,w4.setCells (w.heap.size) 6 [.int .i64 t.pv,.string t.ps,.slice D_ t.pw.length D8]=y:=⟨_,rfl⟩
 rw[MC];have kN:Kp w4 w5 (fun k=>k=w.heap.size):=MC▸Ad _ _ _ _;replace P:Loc w5 (w.heap.size) #[.int .i64 t.k,.int .i64 t.vw,.string t.bn,.int .i64 t.bv,.string t.bs,.slice DT t.bw.length DJ,.int .i64 t.pv,.string t.ps,.slice D_ t.pw.length D8,.int .i64 t.qv,.string t.qs,.slice co t.qw.length cc,.int .i64 t.wh,.int .i64 t.fr,.int .i64 t.tu,.int .i64 t.am,.int .i64 t.no]:=MC▸P.setCells _ _ rfl;replace O:=O.kp kN (by omega);replace oA:=oA.kp kN (fun j hj e=>by have:=toA j hj;omega);replace oB:=oB.kp kN (fun j hj e=>by have:=BU j hj;omega);replace oC:=oC.kp kN (fun j hj e=>by have:=toC j hj;omega);have FT:=Below.kp Co kN Co.size (fun k hk=>by omega);have Z8:=kN.size;clear MC kN Co;refine BD (i:=12) (d:=13) (v:=?_) rfl rfl (by kernel_rfl) (by kernel_rfl) (by kernel_rfl) (fun _ _ _ h=>h) (Or.inl ⟨by rfl,?_⟩) ?_
 rotate_left
 ·intro w hSw
  try dsimp only at hSw
  go_simp
  try with_reducible rfl
 simp only[Act.put,List.setIfInBounds_toArray,List.set_cons_zero,List.set_cons_succ];refine A7 (i:=13) rfl (by kernel_rfl) (fun KK AA=>?_);rw[if_pos (by rfl)];refine wp_store_mid 38 (.tmp 13) (.tmp 10) rfl (w.heap.size) 9 #[.int .i64 t.qv,.string t.qs,.slice El t.qw.length Ej] rfl rfl (P.there 9 3 (by simp)) (by kernel_rfl) (by simp[Value.oneCell']) ?_;refine AA.out _ _ (fun h=>absurd h (by decide)) ?_;clear AA KK;obtain⟨w6,ZT⟩:∃y,w5.setCells (w.heap.size) 9 [.int .i64 t.qv,.string t.qs,.slice El t.qw.length Ej]=y:=⟨_,rfl⟩
 rw[ZT];have kN:Kp w5 w6 (fun k=>k=w.heap.size):=ZT▸Ad _ _ _ _;replace P:Loc w6 (w.heap.size) #[.int .i64 t.k,.int .i64 t.vw,.string t.bn,.int .i64 t.bv,.string t.bs,.slice DT t.bw.length DJ,.int .i64 t.pv,.string t.ps,.slice D_ t.pw.length D8,.int .i64 t.qv,.string t.qs,.slice El t.qw.length Ej,.int .i64 t.wh,.int .i64 t.fr,.int .i64 t.tu,.int .i64 t.am,.int .i64 t.no]:=ZT▸P.setCells _ _ rfl;replace O:=O.kp kN (by omega);replace oA:=oA.kp kN (fun j hj e=>by have:=toA j hj;omega);replace oB:=oB.kp kN (fun j hj e=>by have:=BU j hj;omega);replace oC:=oC.kp kN (fun j hj e=>by have:=toC j hj;omega);have I8:=Below.kp FT kN FT.size (fun k hk=>by omega);have lW:=kN.size;clear ZT kN FT;refine JE (by kernel_rfl) ?_ _;refine NoPanic.normal ?_;clear K Fq;go_wp2_with (first|(refine Ap P 75 _ rfl _ rfl rfl Tryz.underlying75 rfl (by kernel_rfl) ?_)|(refine BH O 75 #[.int .i64 t.k,.int .i64 t.vw,.string t.bn,.int .i64 t.bv,.string t.bs,.slice DT t.bw.length DJ,.int .i64 t.pv,.string t.ps,.slice D_ t.pw.length D8,.int .i64 t.qv,.string t.qs,.slice El t.qw.length Ej,.int .i64 t.wh,.int .i64 t.fr,.int .i64 t.tu,.int .i64 t.am,.int .i64 t.no] rfl _ _ rfl rfl rfl (by kernel_rfl) rfl (by simp[Value.oneCell']) ?_))
 obtain⟨wE,Bf⟩:∃Ck,w6.setRow (w.heap.size+1) #[.int .i64 t.k,.int .i64 t.vw,.string t.bn,.int .i64 t.bv,.string t.bs,.slice DT t.bw.length DJ,.int .i64 t.pv,.string t.ps,.slice D_ t.pw.length D8,.int .i64 t.qv,.string t.qs,.slice El t.qw.length Ej,.int .i64 t.wh,.int .i64 t.fr,.int .i64 t.tu,.int .i64 t.am,.int .i64 t.no]=Ck:=⟨_,rfl⟩
 have kN:Kp w6 wE (fun k=>k=w.heap.size+1):=Bf▸Bu _ _ _;replace O:Loc wE (w.heap.size+1) #[.int .i64 t.k,.int .i64 t.vw,.string t.bn,.int .i64 t.bv,.string t.bs,.slice DT t.bw.length DJ,.int .i64 t.pv,.string t.ps,.slice D_ t.pw.length D8,.int .i64 t.qv,.string t.qs,.slice El t.qw.length Ej,.int .i64 t.wh,.int .i64 t.fr,.int .i64 t.tu,.int .i64 t.am,.int .i64 t.no]:=Bf▸O.row;replace P:=P.kp kN (by omega);replace oA:=oA.kp kN (fun j hj e=>by have:=toA j hj;omega);replace oB:=oB.kp kN (fun j hj e=>by have:=BU j hj;omega);replace oC:=oC.kp kN (fun j hj e=>by have:=toC j hj;omega);have Fh:=Below.kp I8 kN I8.size (fun k hk=>by omega);have Pp:=kN.size;rw[Bf];clear Bf kN I8;refine bodyPost_ret (v:=Dw t (.slice DT t.bw.length DJ) (.slice D_ t.pw.length D8) (.slice El t.qw.length Ej)) (Ch Tryz.results348 _ O rfl Tryz.underlying75 rfl (by kernel_rfl)) rfl ?_;exact⟨_,_,_,rfl,⟨w1.heap.size,w2.heap.size,oA.mono (by omega),fun j hj=>(toA j hj).2,oB.mono (by omega),fun j hj=>(BU j hj).2,oC.mono (by omega),by omega,by omega⟩,Fh⟩
theorem Xf(n:Int)(t:MT)(ao bo co:Option Addr)(ca cb cc:Nat)(w:World)(hs:MZ t)(ha:RI w (.slice ao t.bw.length ca) t.bw)(hb:RI w (.slice bo t.pw.length cb) t.pw)(hc:RI w (.slice co t.qw.length cc) t.qw):
 Calls Tryz.prog 349 #[Ma n t (.slice ao t.bw.length ca) (.slice bo t.pw.length cb) (.slice co t.qw.length cc)] w fun e w'=>∃u v x,e= .returned (Ma n t u v x)∧OM w' w.heap.size u v x t.bw t.pw t.qw∧Below w.heap.size w w':=by
 have T1:=hide fun w' h1 h2 h3=>cK t ao bo co ca cb cc w' hs h1 h2 h3;have HA:=hide ha;have HB:=hide hb;have HC:=hide hc;clear ha hb hc hs;obtain⟨w0,hw0,AO,P,O,DC⟩:=Gb w #[.int .i64 n,.int .i64 t.k,.int .i64 t.vw,.string t.bn,.int .i64 t.bv,.string t.bs,.slice ao t.bw.length ca,.int .i64 t.pv,.string t.ps,.slice bo t.pw.length cb,.int .i64 t.qv,.string t.qs,.slice co t.qw.length cc,.int .i64 t.wh,.int .i64 t.fr,.int .i64 t.tu,.int .i64 t.am,.int .i64 t.no] 138 #[.int .i64 0,.int .i64 0,.int .i64 0,.string ⟨#[]⟩,.int .i64 0,.string ⟨#[]⟩,.slice none 0 0,.int .i64 0,.string ⟨#[]⟩,.slice none 0 0,.int .i64 0,.string ⟨#[]⟩,.slice none 0 0,.int .i64 0,.int .i64 0,.int .i64 0,.int .i64 0,.int .i64 0] 138;go_enter Tryz.func349,Tryz.ntmps349
 go_wp2_with (first|(refine A9 [.int .i64 t.k,.int .i64 t.vw,.string t.bn,.int .i64 t.bv,.string t.bs,.slice ao t.bw.length ca,.int .i64 t.pv,.string t.ps,.slice bo t.pw.length cb,.int .i64 t.qv,.string t.qs,.slice co t.qw.length cc,.int .i64 t.wh,.int .i64 t.fr,.int .i64 t.tu,.int .i64 t.am,.int .i64 t.no] (P.range 1 17 rfl) 75 _ rfl _ rfl rfl Tryz.underlying75 rfl (by kernel_rfl) ?_))
 clear hw0;refine(T1.out _ (HA.out.below AO) (HB.out.below AO) (HC.out.below AO)).mono ?_;rintro _ w1 ⟨u,v,x,rfl,m1,bb⟩;have AZ:=bu AO bb;have Cx:=bb.size;replace P:=P.up bb;replace O:=O.up bb;clear AO bb;obtain⟨a1,k1,b1,l1,c1,n1,rfl,rfl,rfl⟩:=m1.form;go_upto_region 2 with(first|(refine Fa #[.int .i64 t.k,.int .i64 t.vw,.string t.bn,.int .i64 t.bv,.string t.bs,.slice a1 t.bw.length k1,.int .i64 t.pv,.string t.ps,.slice b1 t.pw.length l1,.int .i64 t.qv,.string t.qs,.slice c1 t.qw.length n1,.int .i64 t.wh,.int .i64 t.fr,.int .i64 t.tu,.int .i64 t.am,.int .i64 t.no] (P.there 1 17 (by simp)) 75 rfl _ _ rfl rfl rfl (by kernel_rfl) (by simp[Value.oneCell']) ?_))
 obtain⟨w2,hw2⟩:∃y,(w1.setCells (w.heap.size) 1 [.int .i64 t.k,.int .i64 t.vw,.string t.bn,.int .i64 t.bv,.string t.bs,.slice a1 t.bw.length k1,.int .i64 t.pv,.string t.ps,.slice b1 t.pw.length l1,.int .i64 t.qv,.string t.qs,.slice c1 t.qw.length n1,.int .i64 t.wh,.int .i64 t.fr,.int .i64 t.tu,.int .i64 t.am,.int .i64 t.no])=y:=⟨_,rfl⟩
 rw[hw2];have kN:Kp w1 w2 (fun k=>k=w.heap.size):=hw2▸Ad _ _ _ _;replace P:Loc w2 (w.heap.size) #[.int .i64 n,.int .i64 t.k,.int .i64 t.vw,.string t.bn,.int .i64 t.bv,.string t.bs,.slice a1 t.bw.length k1,.int .i64 t.pv,.string t.ps,.slice b1 t.pw.length l1,.int .i64 t.qv,.string t.qs,.slice c1 t.qw.length n1,.int .i64 t.wh,.int .i64 t.fr,.int .i64 t.tu,.int .i64 t.am,.int .i64 t.no]:=hw2▸(Loc.setCells (cs':=#[.int .i64 n,.int .i64 t.k,.int .i64 t.vw,.string t.bn,.int .i64 t.bv,.string t.bs,.slice a1 t.bw.length k1,.int .i64 t.pv,.string t.ps,.slice b1 t.pw.length l1,.int .i64 t.qv,.string t.qs,.slice c1 t.qw.length n1,.int .i64 t.wh,.int .i64 t.fr,.int .i64 t.tu,.int .i64 t.am,.int .i64 t.no]) [.int .i64 t.k,.int .i64 t.vw,.string t.bn,.int .i64 t.bv,.string t.bs,.slice a1 t.bw.length k1,.int .i64 t.pv,.string t.ps,.slice b1 t.pw.length l1,.int .i64 t.qv,.string t.qs,.slice c1 t.qw.length n1,.int .i64 t.wh,.int .i64 t.fr,.int .i64 t.tu,.int .i64 t.am,.int .i64 t.no] 1 P rfl);replace O:=O.kp kN (by omega);replace m1:=m1.kp kN (fun j h1 h2 h3 e=>by omega);have Ao:=Below.kp AZ kN AZ.size (fun k hk=>by omega);have Ex:=kN.size;clear hw2 kN AZ;go_wp2_with (first|(refine Ap P 138 _ rfl _ rfl rfl Tryz.underlying138 rfl (by kernel_rfl) ?_)|(refine BH O 138 #[.int .i64 n,.int .i64 t.k,.int .i64 t.vw,.string t.bn,.int .i64 t.bv,.string t.bs,.slice a1 t.bw.length k1,.int .i64 t.pv,.string t.ps,.slice b1 t.pw.length l1,.int .i64 t.qv,.string t.qs,.slice c1 t.qw.length n1,.int .i64 t.wh,.int .i64 t.fr,.int .i64 t.tu,.int .i64 t.am,.int .i64 t.no] rfl _ _ rfl rfl rfl (by kernel_rfl) rfl (by simp[Value.oneCell']) ?_))
 obtain⟨wE,Bf⟩:∃Ck,w2.setRow (w.heap.size+1) #[.int .i64 n,.int .i64 t.k,.int .i64 t.vw,.string t.bn,.int .i64 t.bv,.string t.bs,.slice a1 t.bw.length k1,.int .i64 t.pv,.string t.ps,.slice b1 t.pw.length l1,.int .i64 t.qv,.string t.qs,.slice c1 t.qw.length n1,.int .i64 t.wh,.int .i64 t.fr,.int .i64 t.tu,.int .i64 t.am,.int .i64 t.no]=Ck:=⟨_,rfl⟩
 have kN:Kp w2 wE (fun k=>k=w.heap.size+1):=Bf▸Bu _ _ _;replace O:Loc wE (w.heap.size+1) #[.int .i64 n,.int .i64 t.k,.int .i64 t.vw,.string t.bn,.int .i64 t.bv,.string t.bs,.slice a1 t.bw.length k1,.int .i64 t.pv,.string t.ps,.slice b1 t.pw.length l1,.int .i64 t.qv,.string t.qs,.slice c1 t.qw.length n1,.int .i64 t.wh,.int .i64 t.fr,.int .i64 t.tu,.int .i64 t.am,.int .i64 t.no]:=Bf▸O.row;replace P:=P.kp kN (by omega);replace m1:=m1.kp kN (fun j h1 h2 h3 e=>by omega);have Fh:=Below.kp Ao kN Ao.size (fun k hk=>by omega);have Pp:=kN.size;rw[Bf];clear Bf kN Ao;refine bodyPost_ret (v:=Ma n t (.slice a1 t.bw.length k1) (.slice b1 t.pw.length l1) (.slice c1 t.qw.length n1)) (Ch Tryz.results349 _ O rfl Tryz.underlying138 rfl (by kernel_rfl)) rfl ?_;exact⟨_,_,_,rfl,m1.mono (by omega),Fh⟩
end
end Go.Proofs.YtcjmcgolgbkknaaGreatDoor
