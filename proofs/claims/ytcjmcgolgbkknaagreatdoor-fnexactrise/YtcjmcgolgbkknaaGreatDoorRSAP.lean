/- Lemmas; their conditions stand in each statement. -/
import Derived.Test.YtcjmcgolgbkknaaGreatDoorRSAO
set_option maxRecDepth 100000
set_option maxHeartbeats 16000000
set_option linter.unusedSectionVars false
namespace Go.Proofs.YtcjmcgolgbkknaaGreatDoor
section
open Go.RowKit
variable [∀(a b c d:Int),Decidable (BD a b c d)] [∀(n f:Int),Decidable (A_ n f)] [∀(a b c d:Nat),Decidable (Dg a b c d)] [∀(x:T4),Decidable (Dt x)]
theorem Qh(v:Value)(ps:List Pt)(w:World)(hl:ps.length≤4194305)(hs:∀p ∈ ps,p.2.1.size≤281474976710656)(h:Nq w v ps):
 Calls Tryz.prog 104 #[v] w fun e w'=>∃u,e= .returned u∧MV w' w.heap.size u ps∧Below w.heap.size w w':=by
 obtain⟨i0,hi,hz0,hz1,hz2⟩:=info_parts Tryz.infoPt;obtain⟨ao,ca,rfl⟩:=h.form;have HS0:=hide hs;have H:=hide h;clear hs;obtain⟨n,hn⟩:∃n,ps.length=n:=⟨_,rfl⟩
 have Hn:=hide hn;rw[hn]at hl H⊢;clear h hn;go_enter Tryz.func104,Tryz.ntmps104
 go_wp2_with (first|(at_make;refine wpList_make_full _ rfl _ _ 42 rfl w.heap.size 72 i0 (qv 0 ⟨#[]⟩ (.slice none 0 0)) 3 Tryz.underlying42 hi hz0 hz1 .i64 .i64 _ _ n rfl rfl rfl rfl (by rw[hz2];omega) (by unfold maxLen;omega) Ae ?_;intro w0 ho0 hg0))
 have T0:Da w0 w.heap.size (.slice (some ⟨w.heap.size,0,none⟩) n n) (Cj ps 0) (List.replicate n (.slice none 0 0)):=by
  rw[Mh]at ho0;have:=WU ho0;simpa[Cj,Hn.out]using this
 have B0:Below w.heap.size w w0:=(Below.refl _ _).grown hg0 Ae (by simp);clear ho0 hg0 hz0 hz1 hz2 hi
 go_loopw [11] (fun i wr=>∃(k:Nat)(vs:List Value),k≤n∧i= .int .i64 k∧Da wr w.heap.size (.slice (some ⟨w.heap.size,0,none⟩) n n) (Cj ps k) vs∧Below w.heap.size w wr) (fun i _=>n-(intOf i).toNat)
 case atStart=>exact⟨0,_,Nat.zero_le _,rfl,T0,B0⟩
 case round=>
  clear T0;obtain⟨k,vs,hk,rfl,T,br⟩:=hrel;by_cases hlt:k<n
  ·have hkx:k<ps.length:=by have:=Hn.out;omega
   have hlen:=PS ps k (by omega);have HR:=H.out.below br;obtain⟨g,off,u,rfl,c0,c1,c2,ru⟩:=HR.at k hkx;have HS:=hide (PR ps k hkx);have hsz:=HS0.out _ (J8 hkx);obtain⟨x,hx⟩:∃x,ps.getD k BI=x:=⟨_,rfl⟩
   rw[hx]at c0 c1 ru HS hsz;clear hx;obtain⟨m,s,xs⟩:=x;simp only at c0 c1 ru hsz;have TP:=hide fun w h=>Rm m s u xs w h hsz;obtain⟨ua,uc,rfl⟩:=ru.form;have RU:=hide ru;have HT:=hide T;generalize xs.length=xl at *;obtain⟨w1,hw1⟩:∃y,wr.alloc (.cells #[.int .i64 m,.string s,.slice ua xl uc] 72)=y:=⟨_,rfl⟩
   have b1:Below wr.heap.size wr w1:=hw1▸Af _ _;have L1:Loc w1 wr.heap.size #[.int .i64 m,.string s,.slice ua xl uc]:=hw1▸AJ wr _ _ rfl;have p0:=L1.cell 0 rfl;have p1:=L1.cell 1 rfl;have p2:=L1.cell 2 rfl;have s1:=b1.size;replace RU:=hide (RU.out.below b1);replace HT:=hide (HT.out.below b1);replace br:=bu br b1;clear HR H ru T b1 hsz;go_wp2_with fail
   clear hw1 p0 p1 p2 L1;refine(TP.out _ RU.out).mono ?_;rintro e w2 ⟨u2,rfl,o2,b2⟩;have T2:=HT.out.below b2;have B2:=bu br b2;have Tz:=World.ownsRow.lt o2;have hrow:=T2.row;rw[hlen,Hn.out]at hrow;have Ju:(Bt (((Cj ps k).map PX).zip vs)).length=n*3:=by rw[IC];simp[T2.len,hlen,Hn.out]
   have gt:∀j,j<n*3→∃u,w2.cell? ⟨w.heap.size,j,none⟩=some u:=fun j hj=>⟨_,(hrow.cellAt j hj).trans (List.getElem?_eq_getElem (by rw[Ju];exact hj))⟩
   obtain⟨y0,d0⟩:=gt (k*3) (by omega);obtain⟨y1,d1⟩:=gt (k*3+1) (by omega);obtain⟨y2,d2⟩:=gt (k*3+2) (by omega);have f0:=hrow.frozenAt (k*3);have f1:=hrow.frozenAt (k*3+1);have f2:=hrow.frozenAt (k*3+2)
   have R:=hide (show Da (((w2.setCell ⟨w.heap.size,k*3,none⟩ (.int .i64 m)).setCell ⟨w.heap.size,k*3+1,none⟩ (.string s)).setCell ⟨w.heap.size,k*3+2,none⟩ u2) w.heap.size (.slice (some ⟨w.heap.size,0,none⟩) n n) (Cj ps (k+1)) (vs.set k u2) by
    have T3:=T2;have en:n=(Cj ps k).length:=by rw[hlen,Hn.out]
    rw[←HS.out]
    have:=d_ (m:=m) (s:=s) (u:=u2) (xs:=xs) (k:=k) (cap:=n) (g:=w.heap.size) (w:=w2) (base:=w.heap.size) (ps:=Cj ps k) (vs:=vs) (by rw[←en];exact T3) (by rw[hlen];exact hkx) (OI.mono o2 br.size) (fun j hj _ b hb e=>by
     have h1:=World.ownsRow.lt (HT.out.each j hj) b hb;have h2:=Tz b e;omega)
    rw[←en]at this;exact this)
   have BR:=hide (((B2.setCell (p:=⟨w.heap.size,k*3,none⟩) Ae (.int .i64 m)).setCell (p:=⟨w.heap.size,k*3+1,none⟩) Ae (.string s)).setCell (p:=⟨w.heap.size,k*3+2,none⟩) Ae u2);obtain⟨va,vc,rfl⟩:=o2.form;generalize xs.length=zl at *;clear T2 B2 hrow Ju gt o2 Tz HT TP RU c0 c1 c2;go_wp2
   go_roundw
   case rel=>exact⟨k+1,_,by omega,by go_num,R.out,BR.out⟩
   case measure=>simp[intOf];omega
  have hkn:Cj ps k=ps:=by
   have:=Hn.out;unfold Cj;rw[List.take_of_length_le (by omega),show ps.length-k=0 by omega];simp
  rw[hkn]at T;have T':=hide T;clear T hkn H;go_wp2;go_ret;exact⟨_,rfl,⟨_,T'.out⟩,br⟩
end
section
open Go Go.RowKit
variable [∀(a b c d:Int),Decidable (BD a b c d)] [∀(n f:Int),Decidable (A_ n f)] [∀(a b c d:Nat),Decidable (Dg a b c d)] [∀(x:T4),Decidable (Dt x)]
def Jn(w:World)(ps:List Cs)(rows:List (List Value))(cut:Nat→Nat)(k:Nat):Prop:=∀j,j<k→cut j≤cut (j+1)∧∃a b c,rows.getD j []=Gt (ps.getD j AQ).1 (ps.getD j AQ).2 a b c∧OM w (cut j) a b c (ps.getD j AQ).2.bw (ps.getD j AQ).2.pw (ps.getD j AQ).2.qw∧∀i,(a.ownBlock=some i∨b.ownBlock=some i∨c.ownBlock=some i)→i<cut (j+1)
theorem Jn.cuts{w:World}{ps:List Cs}{rows:List (List Value)}{cut:Nat→Nat}{k:Nat}(h:Jn w ps rows cut k):∀j,j≤k→cut 0≤cut j
 |0,_=>Nat.le_refl _
 |j+1,hj=>Nat.le_trans (h.cuts j (by omega)) (h j (by omega)).1
theorem Jn.ends{w:World}{ps:List Cs}{rows:List (List Value)}{cut:Nat→Nat}{k:Nat}(h:Jn w ps rows cut k)(d:Nat):∀j,j+d=k→cut j≤cut k:=by
 induction d with
 |zero=>intro j e;rw[show j=k by omega];exact Nat.le_refl _
 |succ d ih=>intro j e;exact Nat.le_trans (h j (by omega)).1 (ih (j+1) (by omega))
theorem Jn.below{w w':World}{ps:List Cs}{rows:List (List Value)}{cut:Nat→Nat}{k:Nat}(h:Jn w ps rows cut k)(hb:Below w.heap.size w w'):Jn w' ps rows cut k:=fun j hj=>by
 obtain⟨c0,a,b,c,e,m,l⟩:=h j hj;exact⟨c0,a,b,c,e,m.below hb,l⟩
theorem Jn.kp{w w':World}{X:Nat→Prop}{ps:List Cs}{rows:List (List Value)}{cut:Nat→Nat}{k:Nat}(h:Jn w ps rows cut k)(hk:Kp w w' X)(hX:∀j,cut 0≤j→j<cut k→¬X j):Jn w' ps rows cut k:=fun j hj=>by
 obtain⟨c0,a,b,c,e,m,l⟩:=h j hj;have h1:=h.cuts j (by omega);have h2:=h.ends (k-(j+1)) (j+1) (by omega);exact⟨c0,a,b,c,e,m.kp hk (fun i hi _ ho=>hX i (by omega) (Nat.lt_of_lt_of_le (l i ho) h2)),l⟩
def QY(w:World)(base hi:Nat)(v:Value)(ps:List Cs):Prop:=∃rows cut,OG 138 18 w base v rows∧rows.length=ps.length∧(∀j,v.ownBlock=some j→j<cut 0)∧base≤cut 0∧cut ps.length≤hi∧Jn w ps rows cut ps.length
theorem QY.below{w w':World}{base hi:Nat}{v:Value}{ps:List Cs}(h:QY w base hi v ps)(hb:Below w.heap.size w w'):QY w' base hi v ps:=by
 obtain⟨rows,cut,g,l,t,c0,c1,a⟩:=h;exact⟨rows,cut,g.below hb,l,t,c0,c1,a.below hb⟩
theorem QY.kp{w w':World}{X:Nat→Prop}{base hi:Nat}{v:Value}{ps:List Cs}(h:QY w base hi v ps)(k:Kp w w' X)(hX:∀j,base≤j→j<hi→¬X j):QY w' base hi v ps:=by
 obtain⟨rows,cut,g,l,t,c0,c1,a⟩:=h;have h1:=a.cuts _ Ae;exact⟨rows,cut,g.kp k (fun j e=>hX j (g.lt j e).1 (by have:=t j e;omega)),l,t,c0,c1,a.kp k (fun j h2 h3=>hX j (by omega) (by omega))⟩
theorem QY.mono{w:World}{base base' hi hi':Nat}{v:Value}{ps:List Cs}(h:QY w base hi v ps)(hb:base'≤base)(hh:hi≤hi'):QY w base' hi' v ps:=by
 obtain⟨rows,cut,g,l,t,c0,c1,a⟩:=h;exact⟨rows,cut,g.mono hb,l,t,by omega,by omega,a⟩
theorem QY.zJ{w:World}{base hi:Nat}{v:Value}{ps:List Cs}(h:QY w base hi v ps):X4 w base v ps:=by
 obtain⟨rows,cut,g,l,t,c0,c1,a⟩:=h;exact⟨rows,g,l,fun j hj=>by obtain⟨_,x,y,z,e,m,_⟩:=a j hj;exact⟨x,y,z,e,m.mono (by have:=a.cuts j (by omega);omega)⟩⟩
theorem QY.form{w:World}{base hi:Nat}{v:Value}{ps:List Cs}(h:QY w base hi v ps):∃ao ca,v= .slice ao ps.length ca:=h.zJ.form
theorem QY.none(w:World)(base hi:Nat)(h:base≤hi):QY w base hi (.slice none 0 0) []:=⟨[],fun _=>base,OG.nil w base,rfl,fun j e=>(by cases e),Nat.le_refl _,h,fun j hj=>absurd hj (Nat.not_lt_zero j)⟩
theorem VZ(v:Value)(ps:List Cs)(w:World)(hl:ps.length≤1048577)(h:La w v ps):
 Calls Tryz.prog 38 #[v] w fun e w'=>∃u,e= .returned u∧QY w' w.heap.size w'.heap.size u ps∧Below w.heap.size w w':=by
 obtain⟨i0,hi,hz0,hz1,hz2⟩:=info_parts Tryz.infoPo;obtain⟨ao,ca,rfl⟩:=h.form;have H:=hide h;obtain⟨n,hn⟩:∃n,ps.length=n:=⟨_,rfl⟩
 have Hn:=hide hn;rw[hn]at hl H⊢;clear h hn;go_enter Tryz.func38,Tryz.ntmps38
 go_wp2_with (first|(at_make;refine wpList_make_full _ rfl _ _ 44 rfl w.heap.size 138 i0 (ZB 0 Hw (.slice none 0 0) (.slice none 0 0) (.slice none 0 0)) 18 Tryz.underlying44 hi hz0 hz1 .i64 .i64 _ _ n rfl rfl rfl rfl (by rw[hz2];omega) (by unfold maxLen;omega) Ae ?_;intro w0 ho0 hg0))
 have T0:OG 138 18 w0 w.heap.size (.slice (some ⟨w.heap.size,0,none⟩) n n) ([]++List.replicate (n-0) (Gt 0 Hw (.slice none 0 0) (.slice none 0 0) (.slice none 0 0))):=OG.made (z:=#[.int .i64 0,.int .i64 Hw.k,.int .i64 Hw.vw,.string Hw.bn,.int .i64 Hw.bv,.string Hw.bs,.slice none 0 0,.int .i64 Hw.pv,.string Hw.ps,.slice none 0 0,.int .i64 Hw.qv,.string Hw.qs,.slice none 0 0,.int .i64 Hw.wh,.int .i64 Hw.fr,.int .i64 Hw.tu,.int .i64 Hw.am,.int .i64 Hw.no]) (by decide) ho0;have B0:Below w.heap.size w w0:=(Below.refl _ _).grown hg0 Ae (by simp);have z0:w.heap.size+1≤w0.heap.size:=(T0.lt w.heap.size rfl).2;clear ho0 hg0 hz0 hz1 hz2 hi
 go_loopw [4] (fun i wr=>∃(k:Nat)(R:List (List Value))(cut:Nat→Nat),k≤n∧i= .int .i64 k∧R.length=k∧OG 138 18 wr w.heap.size (.slice (some ⟨w.heap.size,0,none⟩) n n) (R++List.replicate (n-k) (Gt 0 Hw (.slice none 0 0) (.slice none 0 0) (.slice none 0 0)))∧(cut 0=w.heap.size+1∧cut k≤wr.heap.size∧Jn wr ps R cut k)∧Below w.heap.size w wr∧w.heap.size+1≤wr.heap.size) (fun i _=>n-(intOf i).toNat)
 case atStart=>exact⟨0,[],fun _=>w.heap.size+1,Nat.zero_le _,rfl,rfl,T0,⟨rfl,z0,fun j hj=>by omega⟩,B0,z0⟩
 case round=>
  clear T0 B0 z0;obtain⟨k,R,cut,hk,rfl,hR,T,⟨cz,ck,A⟩,br,zr⟩:=hrel;have CZ:=hide cz;have CK:=hide ck;clear cz ck;by_cases hlt:k<n
  ·have hkx:k<ps.length:=by have:=Hn.out;omega
   have HR:=H.out.below br;obtain⟨g,off,cs,rfl,_,c1,a,b,c,e,ra,rb,rc⟩:=RG.at HR k hkx;subst e;obtain⟨x,hx⟩:∃x,ps.getD k AQ=x:=⟨_,rfl⟩
   have Hx:=hide hx;rw[hx]at c1 ra rb rc;clear hx;obtain⟨m,t⟩:=x;simp only at c1 ra rb rc;have TP:=hide fun w h1 h2 h3=>YO m t a b c t.bw t.pw t.qw w h1 h2 h3;obtain⟨oa,ka,rfl⟩:=ra.form;obtain⟨ob,kb,rfl⟩:=rb.form;obtain⟨oc,kc,rfl⟩:=rc.form;have RA:=hide ra;have RB:=hide rb;have RC:=hide rc;have HT:=hide T;have HA:=hide A;have lL:=hide hR;generalize t.bw.length=xl at *;generalize t.pw.length=yl at *;generalize t.qw.length=zl at *;clear HR H ra rb rc T A hR;go_wp2_with (first|(refine Ay _ c1 129 _ rfl _ rfl rfl Tryz.underlying129 rfl (by kernel_rfl) ?_))
   refine(TP.out _ RA.out RB.out RC.out).mono ?_;rintro e w2 ⟨u,v,x,rfl,m2,b2⟩;obtain⟨aX,kX,bX,lX,cX,nX,rfl,rfl,rfl⟩:=m2.form;have T2:=HT.out.below b2;have A2:=HA.out.below b2;have B2:=bu br b2;have z2:=b2.size;have hlen:(R++List.replicate (n-k) (Gt 0 Hw (.slice none 0 0) (.slice none 0 0) (.slice none 0 0))).length=n:=by have:=lL.out;simp;omega
   obtain⟨_,th⟩:=OG.at (g:=w.heap.size) (cap:=n) (by rw[hlen];exact T2) k (by rw[hlen];exact hlt);have ST:=hide (OG.set (m:=18) (g:=w.heap.size) (cap:=n) (by rw[hlen];exact T2) (by decide) k (by rw[hlen];exact hlt) (Gt m t (.slice aX t.bw.length kX) (.slice bX t.pw.length lX) (.slice cX t.qw.length nX)) rfl);have M2:=hide m2;have A2h:=hide A2;have BR:=hide B2;clear T2 HT HA A2 B2 m2 RA RB RC TP c1 b2;generalize t.bw.length=xl at *;generalize t.pw.length=yl at *;generalize t.qw.length=zl at *;go_upto_region 4 with(refine Fv #[.int .i64 m,.int .i64 t.k,.int .i64 t.vw,.string t.bn,.int .i64 t.bv,.string t.bs,.slice aX xl kX,.int .i64 t.pv,.string t.ps,.slice bX yl lX,.int .i64 t.qv,.string t.qs,.slice cX zl nX,.int .i64 t.wh,.int .i64 t.fr,.int .i64 t.tu,.int .i64 t.am,.int .i64 t.no] th 138 rfl _ _ rfl rfl rfl (by kernel_rfl) (by simp[Value.oneCell']) ?_)
   obtain⟨w3,h3⟩:∃y,w2.setCells w.heap.size (k*18) ([.int .i64 m,.int .i64 t.k,.int .i64 t.vw,.string t.bn,.int .i64 t.bv,.string t.bs,.slice aX xl kX,.int .i64 t.pv,.string t.ps,.slice bX yl lX,.int .i64 t.qv,.string t.qs,.slice cX zl nX,.int .i64 t.wh,.int .i64 t.fr,.int .i64 t.tu,.int .i64 t.am,.int .i64 t.no])=y:=⟨_,rfl⟩
   rw[h3];rw[show Gt m t (.slice aX xl kX) (.slice bX yl lX) (.slice cX zl nX)=[.int .i64 m,.int .i64 t.k,.int .i64 t.vw,.string t.bn,.int .i64 t.bv,.string t.bs,.slice aX xl kX,.int .i64 t.pv,.string t.ps,.slice bX yl lX,.int .i64 t.qv,.string t.qs,.slice cX zl nX,.int .i64 t.wh,.int .i64 t.fr,.int .i64 t.tu,.int .i64 t.am,.int .i64 t.no] from rfl,h3]at ST;clear h3;go_wp2
   go_roundw
   case rel=>
    obtain⟨S1,KS⟩:=ST.out;rw[Ri lL.out hlt]at S1;rw[hlen]at S1;have hR:=lL.out;have cz:=CZ.out;have ck:=CK.out;have A2:=A2h.out;have M2:=M2.out;have Tz:=M2.lt;have k3:=KS.size;obtain⟨yX,hcl,hch⟩:∃c2:Nat→Nat,(∀j,j≤k→c2 j=cut j)∧c2 (k+1)=w2.heap.size:=⟨fun j=>if j≤k then cut j else w2.heap.size,fun j hj=>if_pos hj,if_neg (by omega)⟩
    refine⟨k+1,_,yX,by omega,by go_num,by simp[hR],S1,⟨(hcl 0 (by omega)).trans cz,by rw[hch];exact k3,fun j hj=>?_⟩,Below.kp BR.out KS BR.out.size (fun i hi=>by omega),by have:=KS.size;omega⟩;by_cases e:j<k
    ·obtain⟨c0,x,y,z,e1,e2,e3⟩:=A2 j e;have h0:=A2.cuts j (by omega);rw[hcl j (by omega),hcl (j+1) (by omega)];refine⟨c0,x,y,z,?_,e2.kp KS (fun i h1 _ _=>by omega),e3⟩;rw[List.getD_eq_getElem?_getD,List.getElem?_append_left (by omega),←List.getD_eq_getElem?_getD];exact e1
    obtain rfl:j=k:=by omega
    have h0:=A2.cuts j Ae;rw[hcl j Ae,hch];refine⟨by omega,_,_,_,?_,(by rw[Hx.out];exact(M2.mono (by omega)).kp KS (fun i h1 _ _=>by omega)),fun i hi=>?_⟩
    ·rw[Hx.out,List.getD_eq_getElem?_getD,List.getElem?_append_right (by omega),hR,Nat.sub_self];rfl
    rcases hi with hi|hi|hi
    ·exact(Tz.1 i hi).2
    ·exact(Tz.2.1 i hi).2
    exact(Tz.2.2 i hi).2
   case measure=>simp[intOf];omega
  obtain rfl:k=n:=by omega
  have T':=hide T;have A':=hide A;clear T A H;go_wp2;go_ret;have A2:=A'.out;have cz:=CZ.out;have ck:=CK.out;have hn2:=Hn.out;refine⟨_,rfl,⟨R,cut,?_,by rw[hR,Hn.out],fun j hj=>?_,by omega,by rw[hn2];exact ck,by rw[hn2];exact A2⟩,br⟩
  ·have:=T'.out;rw[Nat.sub_self,List.replicate_zero,List.append_nil]at this;exact this
  have h1:some w.heap.size=some j:=hj;cases h1
  omega
theorem Qi(v:Value)(ps:List Cs)(w:World)(hl:ps.length≤1048577)(hs:∀j,j<ps.length→MZ (ps.getD j AQ).2)(h:La w v ps):
 Calls Tryz.prog 105 #[v] w fun e w'=>∃u,e= .returned u∧QY w' w.heap.size w'.heap.size u ps∧Below w.heap.size w w':=by
 obtain⟨i0,hi,hz0,hz1,hz2⟩:=info_parts Tryz.infoPo;obtain⟨ao,ca,rfl⟩:=h.form;have H:=hide h;have HS:=hide hs;clear hs;obtain⟨n,hn⟩:∃n,ps.length=n:=⟨_,rfl⟩
 have Hn:=hide hn;rw[hn]at hl H⊢;clear h hn;go_enter Tryz.func105,Tryz.ntmps105
 go_wp2_with (first|(at_make;refine wpList_make_full _ rfl _ _ 44 rfl w.heap.size 138 i0 (ZB 0 Hw (.slice none 0 0) (.slice none 0 0) (.slice none 0 0)) 18 Tryz.underlying44 hi hz0 hz1 .i64 .i64 _ _ n rfl rfl rfl rfl (by rw[hz2];omega) (by unfold maxLen;omega) Ae ?_;intro w0 ho0 hg0))
 have T0:OG 138 18 w0 w.heap.size (.slice (some ⟨w.heap.size,0,none⟩) n n) ([]++List.replicate (n-0) (Gt 0 Hw (.slice none 0 0) (.slice none 0 0) (.slice none 0 0))):=OG.made (z:=#[.int .i64 0,.int .i64 Hw.k,.int .i64 Hw.vw,.string Hw.bn,.int .i64 Hw.bv,.string Hw.bs,.slice none 0 0,.int .i64 Hw.pv,.string Hw.ps,.slice none 0 0,.int .i64 Hw.qv,.string Hw.qs,.slice none 0 0,.int .i64 Hw.wh,.int .i64 Hw.fr,.int .i64 Hw.tu,.int .i64 Hw.am,.int .i64 Hw.no]) (by decide) ho0;have B0:Below w.heap.size w w0:=(Below.refl _ _).grown hg0 Ae (by simp);have z0:w.heap.size+1≤w0.heap.size:=(T0.lt w.heap.size rfl).2;clear ho0 hg0 hz0 hz1 hz2 hi
 go_loopw [11] (fun i wr=>∃(k:Nat)(R:List (List Value))(cut:Nat→Nat),k≤n∧i= .int .i64 k∧R.length=k∧OG 138 18 wr w.heap.size (.slice (some ⟨w.heap.size,0,none⟩) n n) (R++List.replicate (n-k) (Gt 0 Hw (.slice none 0 0) (.slice none 0 0) (.slice none 0 0)))∧(cut 0=w.heap.size+1∧cut k≤wr.heap.size∧Jn wr ps R cut k)∧Below w.heap.size w wr∧w.heap.size+1≤wr.heap.size) (fun i _=>n-(intOf i).toNat)
 case atStart=>exact⟨0,[],fun _=>w.heap.size+1,Nat.zero_le _,rfl,rfl,T0,⟨rfl,z0,fun j hj=>by omega⟩,B0,z0⟩
 case round=>
  clear T0 B0 z0;obtain⟨k,R,cut,hk,rfl,hR,T,⟨cz,ck,A⟩,br,zr⟩:=hrel;have CZ:=hide cz;have CK:=hide ck;clear cz ck;by_cases hlt:k<n
  ·have hkx:k<ps.length:=by have:=Hn.out;omega
   have HR:=H.out.below br;obtain⟨g,off,cs,rfl,_,c1,a,b,c,e,ra,rb,rc⟩:=RG.at HR k hkx;subst e;obtain⟨x,hx⟩:∃x,ps.getD k AQ=x:=⟨_,rfl⟩
   have Hx:=hide hx;rw[hx]at c1 ra rb rc;clear hx;obtain⟨m,t⟩:=x;simp only at c1 ra rb rc;have hz:=HS.out k hkx;rw[Hx.out]at hz;obtain⟨oa,ka,rfl⟩:=ra.form;obtain⟨ob,kb,rfl⟩:=rb.form;obtain⟨oc,kc,rfl⟩:=rc.form;have TP:=hide fun w h1 h2 h3=>ZC m t oa ob oc ka kb kc w hz h1 h2 h3;clear hz;have RA:=hide ra;have RB:=hide rb;have RC:=hide rc;have HT:=hide T;have HA:=hide A;have lL:=hide hR;generalize t.bw.length=xl at *;generalize t.pw.length=yl at *;generalize t.qw.length=zl at *;clear HR H ra rb rc T A hR;go_upto_region 5 with(first|(refine Ay _ c1 138 _ rfl _ rfl rfl Tryz.underlying138 rfl (by kernel_rfl) ?_)|(refine Cb (AJ wr #[.int .i64 0,.int .i64 0,.int .i64 0,.string ⟨#[]⟩,.int .i64 0,.string ⟨#[]⟩,.slice none 0 0,.int .i64 0,.string ⟨#[]⟩,.slice none 0 0,.int .i64 0,.string ⟨#[]⟩,.slice none 0 0,.int .i64 0,.int .i64 0,.int .i64 0,.int .i64 0,.int .i64 0] 138 rfl) 138 #[.int .i64 m,.int .i64 t.k,.int .i64 t.vw,.string t.bn,.int .i64 t.bv,.string t.bs,.slice oa xl ka,.int .i64 t.pv,.string t.ps,.slice ob yl kb,.int .i64 t.qv,.string t.qs,.slice oc zl kc,.int .i64 t.wh,.int .i64 t.fr,.int .i64 t.tu,.int .i64 t.am,.int .i64 t.no] rfl _ _ rfl rfl rfl (by kernel_rfl) rfl (by simp[Value.oneCell']) ?_))
   obtain⟨w1,hw1⟩:∃y,(wr.alloc (.cells #[.int .i64 0,.int .i64 0,.int .i64 0,.string ⟨#[]⟩,.int .i64 0,.string ⟨#[]⟩,.slice none 0 0,.int .i64 0,.string ⟨#[]⟩,.slice none 0 0,.int .i64 0,.string ⟨#[]⟩,.slice none 0 0,.int .i64 0,.int .i64 0,.int .i64 0,.int .i64 0,.int .i64 0] 138)).setRow wr.heap.size #[.int .i64 m,.int .i64 t.k,.int .i64 t.vw,.string t.bn,.int .i64 t.bv,.string t.bs,.slice oa xl ka,.int .i64 t.pv,.string t.ps,.slice ob yl kb,.int .i64 t.qv,.string t.qs,.slice oc zl kc,.int .i64 t.wh,.int .i64 t.fr,.int .i64 t.tu,.int .i64 t.am,.int .i64 t.no]=y:=⟨_,rfl⟩
   rw[hw1];have b1:Below wr.heap.size wr w1:=hw1▸Dq _ _ _ _;have X:Loc w1 wr.heap.size #[.int .i64 m,.int .i64 t.k,.int .i64 t.vw,.string t.bn,.int .i64 t.bv,.string t.bs,.slice oa xl ka,.int .i64 t.pv,.string t.ps,.slice ob yl kb,.int .i64 t.qv,.string t.qs,.slice oc zl kc,.int .i64 t.wh,.int .i64 t.fr,.int .i64 t.tu,.int .i64 t.am,.int .i64 t.no]:=hw1▸Fz _ _ _ _;clear hw1;have s1:=b1.size;replace RA:=hide (RA.out.below b1);replace RB:=hide (RB.out.below b1);replace RC:=hide (RC.out.below b1);replace HT:=hide (HT.out.below b1);replace HA:=hide (HA.out.below b1);replace br:=bu br b1;go_wp2_with (first|(refine BA X 138 _ rfl _ rfl rfl Tryz.underlying138 rfl (by kernel_rfl) ?_))
   clear b1 X c1;refine(TP.out _ RA.out RB.out RC.out).mono ?_;rintro e w2 ⟨u,v,x,rfl,m2,b2⟩;obtain⟨aX,kX,bX,lX,cX,nX,rfl,rfl,rfl⟩:=m2.form;have T2:=HT.out.below b2;have A2:=HA.out.below b2;have B2:=bu br b2;have z2:=b2.size;have hlen:(R++List.replicate (n-k) (Gt 0 Hw (.slice none 0 0) (.slice none 0 0) (.slice none 0 0))).length=n:=by have:=lL.out;simp;omega
   obtain⟨_,th⟩:=OG.at (g:=w.heap.size) (cap:=n) (by rw[hlen];exact T2) k (by rw[hlen];exact hlt);have ST:=hide (OG.set (m:=18) (g:=w.heap.size) (cap:=n) (by rw[hlen];exact T2) (by decide) k (by rw[hlen];exact hlt) (Gt m t (.slice aX t.bw.length kX) (.slice bX t.pw.length lX) (.slice cX t.qw.length nX)) rfl);have M2:=hide m2;have A2h:=hide A2;have BR:=hide B2;clear T2 HT HA A2 B2 m2 RA RB RC TP b2 HS;generalize t.bw.length=xl at *;generalize t.pw.length=yl at *;generalize t.qw.length=zl at *;go_upto_region 6 with(refine Fv #[.int .i64 m,.int .i64 t.k,.int .i64 t.vw,.string t.bn,.int .i64 t.bv,.string t.bs,.slice aX xl kX,.int .i64 t.pv,.string t.ps,.slice bX yl lX,.int .i64 t.qv,.string t.qs,.slice cX zl nX,.int .i64 t.wh,.int .i64 t.fr,.int .i64 t.tu,.int .i64 t.am,.int .i64 t.no] th 138 rfl _ _ rfl rfl rfl (by kernel_rfl) (by simp[Value.oneCell']) ?_)
   obtain⟨w3,h3⟩:∃y,w2.setCells w.heap.size (k*18) ([.int .i64 m,.int .i64 t.k,.int .i64 t.vw,.string t.bn,.int .i64 t.bv,.string t.bs,.slice aX xl kX,.int .i64 t.pv,.string t.ps,.slice bX yl lX,.int .i64 t.qv,.string t.qs,.slice cX zl nX,.int .i64 t.wh,.int .i64 t.fr,.int .i64 t.tu,.int .i64 t.am,.int .i64 t.no])=y:=⟨_,rfl⟩
   rw[h3];rw[show Gt m t (.slice aX xl kX) (.slice bX yl lX) (.slice cX zl nX)=[.int .i64 m,.int .i64 t.k,.int .i64 t.vw,.string t.bn,.int .i64 t.bv,.string t.bs,.slice aX xl kX,.int .i64 t.pv,.string t.ps,.slice bX yl lX,.int .i64 t.qv,.string t.qs,.slice cX zl nX,.int .i64 t.wh,.int .i64 t.fr,.int .i64 t.tu,.int .i64 t.am,.int .i64 t.no] from rfl,h3]at ST;clear h3;go_wp2
   go_roundw
   case rel=>
    obtain⟨S1,KS⟩:=ST.out;rw[Ri lL.out hlt]at S1;rw[hlen]at S1;have hR:=lL.out;have cz:=CZ.out;have ck:=CK.out;have A2:=A2h.out;have M2:=M2.out;have Tz:=M2.lt;have k3:=KS.size;obtain⟨yX,hcl,hch⟩:∃c2:Nat→Nat,(∀j,j≤k→c2 j=cut j)∧c2 (k+1)=w2.heap.size:=⟨fun j=>if j≤k then cut j else w2.heap.size,fun j hj=>if_pos hj,if_neg (by omega)⟩
    refine⟨k+1,_,yX,by omega,by go_num,by simp[hR],S1,⟨(hcl 0 (by omega)).trans cz,by rw[hch];exact k3,fun j hj=>?_⟩,Below.kp BR.out KS BR.out.size (fun i hi=>by omega),by have:=KS.size;omega⟩;by_cases e:j<k
    ·obtain⟨c0,x,y,z,e1,e2,e3⟩:=A2 j e;have h0:=A2.cuts j (by omega);rw[hcl j (by omega),hcl (j+1) (by omega)];refine⟨c0,x,y,z,?_,e2.kp KS (fun i h1 _ _=>by omega),e3⟩;rw[List.getD_eq_getElem?_getD,List.getElem?_append_left (by omega),←List.getD_eq_getElem?_getD];exact e1
    obtain rfl:j=k:=by omega
    have h0:=A2.cuts j Ae;rw[hcl j Ae,hch];refine⟨by omega,_,_,_,?_,(by rw[Hx.out];exact(M2.mono (by omega)).kp KS (fun i h1 _ _=>by omega)),fun i hi=>?_⟩
    ·rw[Hx.out,List.getD_eq_getElem?_getD,List.getElem?_append_right (by omega),hR,Nat.sub_self];rfl
    rcases hi with hi|hi|hi
    ·exact(Tz.1 i hi).2
    ·exact(Tz.2.1 i hi).2
    exact(Tz.2.2 i hi).2
   case measure=>simp[intOf];omega
  obtain rfl:k=n:=by omega
  have T':=hide T;have A':=hide A;clear T A H;go_wp2;go_ret;have A2:=A'.out;have cz:=CZ.out;have ck:=CK.out;have hn2:=Hn.out;refine⟨_,rfl,⟨R,cut,?_,by rw[hR,Hn.out],fun j hj=>?_,by omega,by rw[hn2];exact ck,by rw[hn2];exact A2⟩,br⟩
  ·have:=T'.out;rw[Nat.sub_self,List.replicate_zero,List.append_nil]at this;exact this
  have h1:some w.heap.size=some j:=hj;cases h1
  omega
def rM(p:Cs):Nat:=15+p.2.bw.length+p.2.pw.length+p.2.qw.length
def He(q:Nat)(p:Cs):Cs:=((q:Int),⟨q+1,q+2,markT (q+3),q+4,markT (q+5),BH (q+6) p.2.bw.length,((q+6+p.2.bw.length:Nat):Int),markT (q+6+p.2.bw.length+1),BH (q+6+p.2.bw.length+2) p.2.pw.length,((q+8+p.2.bw.length+p.2.pw.length:Nat):Int),markT (q+8+p.2.bw.length+p.2.pw.length+1),BH (q+8+p.2.bw.length+p.2.pw.length+2) p.2.qw.length,((q+10+p.2.bw.length+p.2.pw.length+p.2.qw.length:Nat):Int),((q+11+p.2.bw.length+p.2.pw.length+p.2.qw.length:Nat):Int),((q+12+p.2.bw.length+p.2.pw.length+p.2.qw.length:Nat):Int),((q+13+p.2.bw.length+p.2.pw.length+p.2.qw.length:Nat):Int),((q+14+p.2.bw.length+p.2.pw.length+p.2.qw.length:Nat):Int)⟩)
def FQ:Nat→List Cs→List Cs
 |_,[]=>[]
 |k,p :: ps=>He k p :: FQ (k+rM p) ps
def Bz:Nat→List Cs→Nat
 |k,[]=>k
 |k,p :: ps=>Bz (k+rM p) ps
theorem Dk(k:Nat)(ps:List Cs):(FQ k ps).length=ps.length:=by
 induction ps generalizing k with
 |nil=>rfl
 |cons p ps ih=>simp[FQ,ih]
theorem Rp(k:Nat)(ps:List Cs)(p:Cs):FQ k (ps++[p])=FQ k ps++[He (Bz k ps) p]∧Bz k (ps++[p])=Bz k ps+rM p:=by
 induction ps generalizing k with
 |nil=>exact⟨rfl,rfl⟩
 |cons x ps ih=>simp only[List.cons_append,FQ,Bz,(ih _).1,(ih _).2];exact⟨trivial,trivial⟩
theorem PW(k0:Nat)(ps:List Cs)(k:Nat)(hk:k<ps.length):Bz k0 (ps.take (k+1))=Bz k0 (ps.take k)+rM (ps.getD k AQ):=by
 rw[List.take_succ_eq_append_getElem hk,(Rp _ _ _).2];simp[List.getElem?_eq_getElem hk]
theorem WK(k0:Nat)(ps:List Cs):k0≤Bz k0 ps:=by
 induction ps generalizing k0 with
 |nil=>exact Nat.le_refl _
 |cons p ps ih=>have:=ih (k0+rM p);simp only[Bz];omega
theorem Km(k0:Nat)(ps:List Cs)(k:Nat):Bz k0 (ps.take k)≤Bz k0 ps:=by
 induction ps generalizing k0 k with
 |nil=>simp[Bz]
 |cons p ps ih=>
  cases k with
  |zero=>simp only[List.take_zero,Bz];have:=WK (k0+rM p) ps;omega
  |succ k=>simp only[List.take_succ_cons,Bz];exact ih _ _
def EX(k0 k:Nat)(ps:List Cs):List Cs:=FQ k0 (ps.take k)++ps.drop k
theorem Rs(k0 k:Nat)(ps:List Cs)(h:k≤ps.length):(EX k0 k ps).length=ps.length:=by
 simp[EX,Dk];omega
theorem iN(k0 k:Nat)(ps:List Cs)(h:k<ps.length):(EX k0 k ps).getD k AQ=ps.getD k AQ:=by
 have hl:(FQ k0 (ps.take k)).length=k:=by rw[Dk];simp;omega
 unfold EX;rw[List.getD_eq_getElem?_getD,List.getElem?_append_right (by omega),hl,Nat.sub_self,List.getElem?_drop,Nat.add_zero,←List.getD_eq_getElem?_getD]
theorem Je(k0 k:Nat)(ps:List Cs)(h:k<ps.length):(EX k0 k ps).set k (He (Bz k0 (ps.take k)) (ps.getD k AQ))=EX k0 (k+1) ps:=by
 have hl:(FQ k0 (ps.take k)).length=k:=by rw[Dk];simp;omega
 unfold EX;rw[List.set_append_right _ _ (by omega),hl,Nat.sub_self,List.drop_eq_getElem_cons h,List.set_cons_zero,List.take_succ_eq_append_getElem h,(Rp _ _ _).1,List.append_assoc];simp[List.getElem?_eq_getElem h]
theorem iO(k0:Nat)(ps:List Cs):EX k0 ps.length ps=FQ k0 ps:=by simp[EX]
theorem OG.put{T:TypeId}{m:Nat}{w:World}{base g cap n:Nat}{rows:List (List Value)}{k:Nat}{r:List Value}(h:OG T m w base (.slice (some ⟨g,0,none⟩) n cap) (rows.set k r))(he:∀c ∈ rows,c.length=m)(hn:rows.length=n)(hk:k<rows.length)(j:Nat)(hj:j<m)(v:Value):
 OG T m (w.setCell ⟨g,k*m+j,none⟩ v) base (.slice (some ⟨g,0,none⟩) n cap) (rows.set k (r.set j v)):=by
 have hl:(rows.set k r).length=n:=by rw[List.length_set,hn]
 have hr:r.length=m:=h.each r (List.mem_set hk r);have row:=h.row;rw[hl]at row;have st:=(row.stored (k*m+j) v).1
 have e:(rows.set k r).flatten.set (k*m+j) v=(rows.set k (r.set j v)).flatten:=by
  have hc:(r.set j v).length=m:=by rw[List.length_set,hr]
  have hk2:k<(rows.set k r).length:=by rw[List.length_set];exact hk
  have h1:=PM h.each hk2 hc (by omega);rw[List.set_set]at h1;rw[←h1]
  apply List.ext_getElem?
  intro i;rw[Lt,hc,Ki h.each,List.getElem?_set,Ki h.each,List.length_set];have hlt:k*m+m≤rows.length*m:=by rw[←Nat.succ_mul];exact Nat.mul_le_mul_right m hk
  by_cases hi:k*m+j=i
  ·subst hi;rw[if_pos rfl,if_pos (by omega),if_pos (by omega),show k*m+j-k*m=j by omega,List.getElem?_set_self (by omega)]
  rw[if_neg hi];by_cases h2:k*m≤i∧i<k*m+m∧i<rows.length*m
  ·rw[if_pos h2];have:=Hd h.each k (i-k*m) (by omega);rw[show k*m+(i-k*m)=i by omega,List.getElem?_set_self hk]at this;rw[this,List.getElem?_set_ne (by omega)];rfl
  rw[if_neg h2]
 refine⟨fun c hc=>?_,by rw[List.length_set,hn,←e];exact st⟩;rcases List.mem_or_eq_of_mem_set hc with x|x
 ·exact he c x
 rw[x,List.length_set,hr]
end
end Go.Proofs.YtcjmcgolgbkknaaGreatDoor
