/- Lemmas, as stated. -/
import Derived.Test.YtcjmcgolgbkknaaGreatDoorTAAO
set_option maxRecDepth 100000
set_option maxHeartbeats 16000000
set_option linter.unusedSectionVars false
namespace Go.Proofs.YtcjmcgolgbkknaaGreatDoor
section
open Go.RowKit
variable [∀(a b c d:Int),Decidable (BG a b c d)] [∀(n f:Int),Decidable (A_ n f)] [∀(a b c d:Nat),Decidable (DZ a b c d)] [∀(x:T4),Decidable (Du x)]
theorem P5(v:Value)(ps:List Pt)(w:World)(hl:ps.length≤4194305)(hs:∀p ∈ ps,p.2.1.size≤281474976710656)(h:NY w v ps):
 Calls Tryz.prog 104 #[v] w fun e w'=>∃u,e= .returned u∧Kq w' w.heap.size u ps∧Below w.heap.size w w':=by
 obtain⟨i0,hi,hz0,hz1,hz2⟩:=info_parts Tryz.infoPt;obtain⟨ao,ca,rfl⟩:=h.form;have HS0:=hide hs;have H:=hide h;clear hs;obtain⟨n,hn⟩:∃n,ps.length=n:=⟨_,rfl⟩
 have Hn:=hide hn;rw[hn]at hl H⊢;clear h hn;go_enter Tryz.func104,Tryz.ntmps104
 go_wp2_with (first|(at_make;refine wpList_make_full _ rfl _ _ 42 rfl w.heap.size 72 i0 (qv 0 ⟨#[]⟩ (.slice none 0 0)) 3 Tryz.underlying42 hi hz0 hz1 .i64 .i64 _ _ n rfl rfl rfl rfl (by rw[hz2];omega) (by unfold maxLen;omega) Ak ?_;intro w0 ho0 hg0))
 have T0:C_ w0 w.heap.size (.slice (some ⟨w.heap.size,0,none⟩) n n) (Cb ps 0) (List.replicate n (.slice none 0 0)):=by
  rw[Lu]at ho0;have:=U7 ho0;simpa[Cb,Hn.out]using this
 have B0:Below w.heap.size w w0:=(Below.refl _ _).grown hg0 Ak (by simp);clear ho0 hg0 hz0 hz1 hz2 hi
 go_loopw [11] (fun i wr=>∃(k:Nat)(vs:List Value),k≤n∧i= .int .i64 k∧C_ wr w.heap.size (.slice (some ⟨w.heap.size,0,none⟩) n n) (Cb ps k) vs∧Below w.heap.size w wr) (fun i _=>n-(intOf i).toNat)
 case atStart=>exact⟨0,_,Nat.zero_le _,rfl,T0,B0⟩
 case round=>
  clear T0;obtain⟨k,vs,hk,rfl,T,br⟩:=hrel;by_cases hlt:k<n
  ·have hkx:k<ps.length:=by have:=Hn.out;omega
   have hlen:=Oh ps k (by omega);have HR:=H.out.below br;obtain⟨g,off,u,rfl,c0,c1,c2,ru⟩:=HR.at k hkx;have HS:=hide (Og ps k hkx);have hsz:=HS0.out _ (Jg hkx);obtain⟨x,hx⟩:∃x,ps.getD k BI=x:=⟨_,rfl⟩
   rw[hx]at c0 c1 ru HS hsz;clear hx;obtain⟨m,s,xs⟩:=x;simp only at c0 c1 ru hsz;have TP:=hide fun w h=>Ql m s u xs w h hsz;obtain⟨ua,uc,rfl⟩:=ru.form;have RU:=hide ru;have HT:=hide T;generalize xs.length=xl at *;obtain⟨w1,hw1⟩:∃y,wr.alloc (.cells #[.int .i64 m,.string s,.slice ua xl uc] 72)=y:=⟨_,rfl⟩
   have b1:Below wr.heap.size wr w1:=hw1▸Aj _ _;have L1:Loc w1 wr.heap.size #[.int .i64 m,.string s,.slice ua xl uc]:=hw1▸AJ wr _ _ rfl;have p0:=L1.cell 0 rfl;have p1:=L1.cell 1 rfl;have p2:=L1.cell 2 rfl;have s1:=b1.size;replace RU:=hide (RU.out.below b1);replace HT:=hide (HT.out.below b1);replace br:=bu br b1;clear HR H ru T b1 hsz;go_wp2_with fail
   clear hw1 p0 p1 p2 L1;refine(TP.out _ RU.out).mono ?_;rintro e w2 ⟨u2,rfl,o2,b2⟩;have T2:=HT.out.below b2;have B2:=bu br b2;have QG:=World.ownsRow.lt o2;have hrow:=T2.row;rw[hlen,Hn.out]at hrow;have JU:(Bn (((Cb ps k).map Om).zip vs)).length=n*3:=by rw[Hr];simp[T2.len,hlen,Hn.out]
   have gt:∀j,j<n*3→∃u,w2.cell? ⟨w.heap.size,j,none⟩=some u:=fun j hj=>⟨_,(hrow.cellAt j hj).trans (List.getElem?_eq_getElem (by rw[JU];exact hj))⟩
   obtain⟨y0,d0⟩:=gt (k*3) (by omega);obtain⟨y1,d1⟩:=gt (k*3+1) (by omega);obtain⟨y2,d2⟩:=gt (k*3+2) (by omega);have f0:=hrow.frozenAt (k*3);have f1:=hrow.frozenAt (k*3+1);have f2:=hrow.frozenAt (k*3+2)
   have R:=hide (show C_ (((w2.setCell ⟨w.heap.size,k*3,none⟩ (.int .i64 m)).setCell ⟨w.heap.size,k*3+1,none⟩ (.string s)).setCell ⟨w.heap.size,k*3+2,none⟩ u2) w.heap.size (.slice (some ⟨w.heap.size,0,none⟩) n n) (Cb ps (k+1)) (vs.set k u2) by
    have T3:=T2;have en:n=(Cb ps k).length:=by rw[hlen,Hn.out]
    rw[←HS.out]
    have:=ZM (m:=m) (s:=s) (u:=u2) (xs:=xs) (k:=k) (cap:=n) (g:=w.heap.size) (w:=w2) (base:=w.heap.size) (ps:=Cb ps k) (vs:=vs) (by rw[←en];exact T3) (by rw[hlen];exact hkx) (OI.mono o2 br.size) (fun j hj _ b hb e=>by
     have h1:=World.ownsRow.lt (HT.out.each j hj) b hb;have h2:=QG b e;omega)
    rw[←en]at this;exact this)
   have BR:=hide (((B2.setCell (p:=⟨w.heap.size,k*3,none⟩) Ak (.int .i64 m)).setCell (p:=⟨w.heap.size,k*3+1,none⟩) Ak (.string s)).setCell (p:=⟨w.heap.size,k*3+2,none⟩) Ak u2);obtain⟨va,vc,rfl⟩:=o2.form;generalize xs.length=zl at *;clear T2 B2 hrow JU gt o2 QG HT TP RU c0 c1 c2;go_wp2
   go_roundw
   case rel=>exact⟨k+1,_,by omega,by go_num,R.out,BR.out⟩
   case measure=>simp[intOf];omega
  have hkn:Cb ps k=ps:=by
   have:=Hn.out;unfold Cb;rw[List.take_of_length_le (by omega),show ps.length-k=0 by omega];simp
  rw[hkn]at T;have T':=hide T;clear T hkn H;go_wp2;go_ret;exact⟨_,rfl,⟨_,T'.out⟩,br⟩
end
section
open Go Go.RowKit
variable [∀(a b c d:Int),Decidable (BG a b c d)] [∀(n f:Int),Decidable (A_ n f)] [∀(a b c d:Nat),Decidable (DZ a b c d)] [∀(x:T4),Decidable (Du x)]
def JN(w:World)(ps:List Ba)(rows:List (List Value))(cut:Nat→Nat)(k:Nat):Prop:=∀j,j<k→cut j≤cut (j+1)∧∃a b c,rows.getD j []=FR (ps.getD j AL).1 (ps.getD j AL).2 a b c∧OM w (cut j) a b c (ps.getD j AL).2.bw (ps.getD j AL).2.pw (ps.getD j AL).2.qw∧∀i,(a.ownBlock=some i∨b.ownBlock=some i∨c.ownBlock=some i)→i<cut (j+1)
theorem JN.cuts{w:World}{ps:List Ba}{rows:List (List Value)}{cut:Nat→Nat}{k:Nat}(h:JN w ps rows cut k):∀j,j≤k→cut 0≤cut j
 |0,_=>Nat.le_refl _
 |j+1,hj=>Nat.le_trans (h.cuts j (by omega)) (h j (by omega)).1
theorem JN.ends{w:World}{ps:List Ba}{rows:List (List Value)}{cut:Nat→Nat}{k:Nat}(h:JN w ps rows cut k)(d:Nat):∀j,j+d=k→cut j≤cut k:=by
 induction d with
 |zero=>intro j e;rw[show j=k by omega];exact Nat.le_refl _
 |succ d ih=>intro j e;exact Nat.le_trans (h j (by omega)).1 (ih (j+1) (by omega))
theorem JN.below{w w':World}{ps:List Ba}{rows:List (List Value)}{cut:Nat→Nat}{k:Nat}(h:JN w ps rows cut k)(hb:Below w.heap.size w w'):JN w' ps rows cut k:=fun j hj=>by
 obtain⟨c0,a,b,c,e,m,l⟩:=h j hj;exact⟨c0,a,b,c,e,m.below hb,l⟩
theorem JN.kp{w w':World}{X:Nat→Prop}{ps:List Ba}{rows:List (List Value)}{cut:Nat→Nat}{k:Nat}(h:JN w ps rows cut k)(hk:Kp w w' X)(hX:∀j,cut 0≤j→j<cut k→¬X j):JN w' ps rows cut k:=fun j hj=>by
 obtain⟨c0,a,b,c,e,m,l⟩:=h j hj;have h1:=h.cuts j (by omega);have h2:=h.ends (k-(j+1)) (j+1) (by omega);exact⟨c0,a,b,c,e,m.kp hk (fun i hi _ ho=>hX i (by omega) (Nat.lt_of_lt_of_le (l i ho) h2)),l⟩
def Pn(w:World)(base hi:Nat)(v:Value)(ps:List Ba):Prop:=∃rows cut,OG 138 18 w base v rows∧rows.length=ps.length∧(∀j,v.ownBlock=some j→j<cut 0)∧base≤cut 0∧cut ps.length≤hi∧JN w ps rows cut ps.length
theorem Pn.below{w w':World}{base hi:Nat}{v:Value}{ps:List Ba}(h:Pn w base hi v ps)(hb:Below w.heap.size w w'):Pn w' base hi v ps:=by
 obtain⟨rows,cut,g,l,t,c0,c1,a⟩:=h;exact⟨rows,cut,g.below hb,l,t,c0,c1,a.below hb⟩
theorem Pn.kp{w w':World}{X:Nat→Prop}{base hi:Nat}{v:Value}{ps:List Ba}(h:Pn w base hi v ps)(k:Kp w w' X)(hX:∀j,base≤j→j<hi→¬X j):Pn w' base hi v ps:=by
 obtain⟨rows,cut,g,l,t,c0,c1,a⟩:=h;have h1:=a.cuts _ Ak;exact⟨rows,cut,g.kp k (fun j e=>hX j (g.lt j e).1 (by have:=t j e;omega)),l,t,c0,c1,a.kp k (fun j h2 h3=>hX j (by omega) (by omega))⟩
theorem Pn.mono{w:World}{base base' hi hi':Nat}{v:Value}{ps:List Ba}(h:Pn w base hi v ps)(hb:base'≤base)(hh:hi≤hi'):Pn w base' hi' v ps:=by
 obtain⟨rows,cut,g,l,t,c0,c1,a⟩:=h;exact⟨rows,cut,g.mono hb,l,t,by omega,by omega,a⟩
theorem Pn.tN{w:World}{base hi:Nat}{v:Value}{ps:List Ba}(h:Pn w base hi v ps):Tq w base v ps:=by
 obtain⟨rows,cut,g,l,t,c0,c1,a⟩:=h;exact⟨rows,g,l,fun j hj=>by obtain⟨_,x,y,z,e,m,_⟩:=a j hj;exact⟨x,y,z,e,m.mono (by have:=a.cuts j (by omega);omega)⟩⟩
theorem Pn.form{w:World}{base hi:Nat}{v:Value}{ps:List Ba}(h:Pn w base hi v ps):∃ao ca,v= .slice ao ps.length ca:=h.tN.form
theorem Pn.none(w:World)(base hi:Nat)(h:base≤hi):Pn w base hi (.slice none 0 0) []:=⟨[],fun _=>base,OG.nil w base,rfl,fun j e=>(by cases e),Nat.le_refl _,h,fun j hj=>absurd hj (Nat.not_lt_zero j)⟩
theorem UB(v:Value)(ps:List Ba)(w:World)(hl:ps.length≤1048577)(h:Ih w v ps):
 Calls Tryz.prog 38 #[v] w fun e w'=>∃u,e= .returned u∧Pn w' w.heap.size w'.heap.size u ps∧Below w.heap.size w w':=by
 obtain⟨i0,hi,hz0,hz1,hz2⟩:=info_parts Tryz.infoPo;obtain⟨ao,ca,rfl⟩:=h.form;have H:=hide h;obtain⟨n,hn⟩:∃n,ps.length=n:=⟨_,rfl⟩
 have Hn:=hide hn;rw[hn]at hl H⊢;clear h hn;go_enter Tryz.func38,Tryz.ntmps38
 go_wp2_with (first|(at_make;refine wpList_make_full _ rfl _ _ 44 rfl w.heap.size 138 i0 (Ma 0 FZ (.slice none 0 0) (.slice none 0 0) (.slice none 0 0)) 18 Tryz.underlying44 hi hz0 hz1 .i64 .i64 _ _ n rfl rfl rfl rfl (by rw[hz2];omega) (by unfold maxLen;omega) Ak ?_;intro w0 ho0 hg0))
 have T0:OG 138 18 w0 w.heap.size (.slice (some ⟨w.heap.size,0,none⟩) n n) ([]++List.replicate (n-0) (FR 0 FZ (.slice none 0 0) (.slice none 0 0) (.slice none 0 0))):=OG.made (z:=#[.int .i64 0,.int .i64 FZ.k,.int .i64 FZ.vw,.string FZ.bn,.int .i64 FZ.bv,.string FZ.bs,.slice none 0 0,.int .i64 FZ.pv,.string FZ.ps,.slice none 0 0,.int .i64 FZ.qv,.string FZ.qs,.slice none 0 0,.int .i64 FZ.wh,.int .i64 FZ.fr,.int .i64 FZ.tu,.int .i64 FZ.am,.int .i64 FZ.no]) (by decide) ho0;have B0:Below w.heap.size w w0:=(Below.refl _ _).grown hg0 Ak (by simp);have z0:w.heap.size+1≤w0.heap.size:=(T0.lt w.heap.size rfl).2;clear ho0 hg0 hz0 hz1 hz2 hi
 go_loopw [4] (fun i wr=>∃(k:Nat)(R:List (List Value))(cut:Nat→Nat),k≤n∧i= .int .i64 k∧R.length=k∧OG 138 18 wr w.heap.size (.slice (some ⟨w.heap.size,0,none⟩) n n) (R++List.replicate (n-k) (FR 0 FZ (.slice none 0 0) (.slice none 0 0) (.slice none 0 0)))∧(cut 0=w.heap.size+1∧cut k≤wr.heap.size∧JN wr ps R cut k)∧Below w.heap.size w wr∧w.heap.size+1≤wr.heap.size) (fun i _=>n-(intOf i).toNat)
 case atStart=>exact⟨0,[],fun _=>w.heap.size+1,Nat.zero_le _,rfl,rfl,T0,⟨rfl,z0,fun j hj=>by omega⟩,B0,z0⟩
 case round=>
  clear T0 B0 z0;obtain⟨k,R,cut,hk,rfl,hR,T,⟨cz,ck,A⟩,br,zr⟩:=hrel;have CZ:=hide cz;have CK:=hide ck;clear cz ck;by_cases hlt:k<n
  ·have hkx:k<ps.length:=by have:=Hn.out;omega
   have HR:=H.out.below br;obtain⟨g,off,cs,rfl,_,c1,a,b,c,e,ra,rb,rc⟩:=RG.at HR k hkx;subst e;obtain⟨x,hx⟩:∃x,ps.getD k AL=x:=⟨_,rfl⟩
   have Hx:=hide hx;rw[hx]at c1 ra rb rc;clear hx;obtain⟨m,t⟩:=x;simp only at c1 ra rb rc;have TP:=hide fun w h1 h2 h3=>Wn m t a b c t.bw t.pw t.qw w h1 h2 h3;obtain⟨oa,ka,rfl⟩:=ra.form;obtain⟨ob,kb,rfl⟩:=rb.form;obtain⟨oc,kc,rfl⟩:=rc.form;have RA:=hide ra;have RB:=hide rb;have RC:=hide rc;have HT:=hide T;have HA:=hide A;have fP:=hide hR;generalize t.bw.length=xl at *;generalize t.pw.length=yl at *;generalize t.qw.length=zl at *;clear HR H ra rb rc T A hR;go_wp2_with (first|(refine A9 _ c1 129 _ rfl _ rfl rfl Tryz.underlying129 rfl (by kernel_rfl) ?_))
   refine(TP.out _ RA.out RB.out RC.out).mono ?_;rintro e w2 ⟨u,v,x,rfl,m2,b2⟩;obtain⟨aX,kX,bX,lX,cX,nX,rfl,rfl,rfl⟩:=m2.form;have T2:=HT.out.below b2;have A2:=HA.out.below b2;have B2:=bu br b2;have z2:=b2.size;have hlen:(R++List.replicate (n-k) (FR 0 FZ (.slice none 0 0) (.slice none 0 0) (.slice none 0 0))).length=n:=by have:=fP.out;simp;omega
   obtain⟨_,th⟩:=OG.at (g:=w.heap.size) (cap:=n) (by rw[hlen];exact T2) k (by rw[hlen];exact hlt);have ST:=hide (OG.set (m:=18) (g:=w.heap.size) (cap:=n) (by rw[hlen];exact T2) (by decide) k (by rw[hlen];exact hlt) (FR m t (.slice aX t.bw.length kX) (.slice bX t.pw.length lX) (.slice cX t.qw.length nX)) rfl);have M2:=hide m2;have A2h:=hide A2;have BR:=hide B2;clear T2 HT HA A2 B2 m2 RA RB RC TP c1 b2;generalize t.bw.length=xl at *;generalize t.pw.length=yl at *;generalize t.qw.length=zl at *;go_upto_region 4 with(refine Fa #[.int .i64 m,.int .i64 t.k,.int .i64 t.vw,.string t.bn,.int .i64 t.bv,.string t.bs,.slice aX xl kX,.int .i64 t.pv,.string t.ps,.slice bX yl lX,.int .i64 t.qv,.string t.qs,.slice cX zl nX,.int .i64 t.wh,.int .i64 t.fr,.int .i64 t.tu,.int .i64 t.am,.int .i64 t.no] th 138 rfl _ _ rfl rfl rfl (by kernel_rfl) (by simp[Value.oneCell']) ?_)
   obtain⟨w3,h3⟩:∃y,w2.setCells w.heap.size (k*18) ([.int .i64 m,.int .i64 t.k,.int .i64 t.vw,.string t.bn,.int .i64 t.bv,.string t.bs,.slice aX xl kX,.int .i64 t.pv,.string t.ps,.slice bX yl lX,.int .i64 t.qv,.string t.qs,.slice cX zl nX,.int .i64 t.wh,.int .i64 t.fr,.int .i64 t.tu,.int .i64 t.am,.int .i64 t.no])=y:=⟨_,rfl⟩
   rw[h3];rw[show FR m t (.slice aX xl kX) (.slice bX yl lX) (.slice cX zl nX)=[.int .i64 m,.int .i64 t.k,.int .i64 t.vw,.string t.bn,.int .i64 t.bv,.string t.bs,.slice aX xl kX,.int .i64 t.pv,.string t.ps,.slice bX yl lX,.int .i64 t.qv,.string t.qs,.slice cX zl nX,.int .i64 t.wh,.int .i64 t.fr,.int .i64 t.tu,.int .i64 t.am,.int .i64 t.no] from rfl,h3]at ST;clear h3;go_wp2
   go_roundw
   case rel=>
    obtain⟨S1,KS⟩:=ST.out;rw[Qj fP.out hlt]at S1;rw[hlen]at S1;have hR:=fP.out;have cz:=CZ.out;have ck:=CK.out;have A2:=A2h.out;have M2:=M2.out;have QG:=M2.lt;have k3:=KS.size;obtain⟨sH,hcl,hch⟩:∃c2:Nat→Nat,(∀j,j≤k→c2 j=cut j)∧c2 (k+1)=w2.heap.size:=⟨fun j=>if j≤k then cut j else w2.heap.size,fun j hj=>if_pos hj,if_neg (by omega)⟩
    refine⟨k+1,_,sH,by omega,by go_num,by simp[hR],S1,⟨(hcl 0 (by omega)).trans cz,by rw[hch];exact k3,fun j hj=>?_⟩,Below.kp BR.out KS BR.out.size (fun i hi=>by omega),by have:=KS.size;omega⟩;by_cases e:j<k
    ·obtain⟨c0,x,y,z,e1,e2,e3⟩:=A2 j e;have h0:=A2.cuts j (by omega);rw[hcl j (by omega),hcl (j+1) (by omega)];refine⟨c0,x,y,z,?_,e2.kp KS (fun i h1 _ _=>by omega),e3⟩;rw[List.getD_eq_getElem?_getD,List.getElem?_append_left (by omega),←List.getD_eq_getElem?_getD];exact e1
    obtain rfl:j=k:=by omega
    have h0:=A2.cuts j Ak;rw[hcl j Ak,hch];refine⟨by omega,_,_,_,?_,(by rw[Hx.out];exact(M2.mono (by omega)).kp KS (fun i h1 _ _=>by omega)),fun i hi=>?_⟩
    ·rw[Hx.out,List.getD_eq_getElem?_getD,List.getElem?_append_right (by omega),hR,Nat.sub_self];rfl
    rcases hi with hi|hi|hi
    ·exact(QG.1 i hi).2
    ·exact(QG.2.1 i hi).2
    exact(QG.2.2 i hi).2
   case measure=>simp[intOf];omega
  obtain rfl:k=n:=by omega
  have T':=hide T;have A':=hide A;clear T A H;go_wp2;go_ret;have A2:=A'.out;have cz:=CZ.out;have ck:=CK.out;have hn2:=Hn.out;refine⟨_,rfl,⟨R,cut,?_,by rw[hR,Hn.out],fun j hj=>?_,by omega,by rw[hn2];exact ck,by rw[hn2];exact A2⟩,br⟩
  ·have:=T'.out;rw[Nat.sub_self,List.replicate_zero,List.append_nil]at this;exact this
  have h1:some w.heap.size=some j:=hj;cases h1
  omega
theorem P6(v:Value)(ps:List Ba)(w:World)(hl:ps.length≤1048577)(hs:∀j,j<ps.length→MZ (ps.getD j AL).2)(h:Ih w v ps):
 Calls Tryz.prog 105 #[v] w fun e w'=>∃u,e= .returned u∧Pn w' w.heap.size w'.heap.size u ps∧Below w.heap.size w w':=by
 obtain⟨i0,hi,hz0,hz1,hz2⟩:=info_parts Tryz.infoPo;obtain⟨ao,ca,rfl⟩:=h.form;have H:=hide h;have HS:=hide hs;clear hs;obtain⟨n,hn⟩:∃n,ps.length=n:=⟨_,rfl⟩
 have Hn:=hide hn;rw[hn]at hl H⊢;clear h hn;go_enter Tryz.func105,Tryz.ntmps105
 go_wp2_with (first|(at_make;refine wpList_make_full _ rfl _ _ 44 rfl w.heap.size 138 i0 (Ma 0 FZ (.slice none 0 0) (.slice none 0 0) (.slice none 0 0)) 18 Tryz.underlying44 hi hz0 hz1 .i64 .i64 _ _ n rfl rfl rfl rfl (by rw[hz2];omega) (by unfold maxLen;omega) Ak ?_;intro w0 ho0 hg0))
 have T0:OG 138 18 w0 w.heap.size (.slice (some ⟨w.heap.size,0,none⟩) n n) ([]++List.replicate (n-0) (FR 0 FZ (.slice none 0 0) (.slice none 0 0) (.slice none 0 0))):=OG.made (z:=#[.int .i64 0,.int .i64 FZ.k,.int .i64 FZ.vw,.string FZ.bn,.int .i64 FZ.bv,.string FZ.bs,.slice none 0 0,.int .i64 FZ.pv,.string FZ.ps,.slice none 0 0,.int .i64 FZ.qv,.string FZ.qs,.slice none 0 0,.int .i64 FZ.wh,.int .i64 FZ.fr,.int .i64 FZ.tu,.int .i64 FZ.am,.int .i64 FZ.no]) (by decide) ho0;have B0:Below w.heap.size w w0:=(Below.refl _ _).grown hg0 Ak (by simp);have z0:w.heap.size+1≤w0.heap.size:=(T0.lt w.heap.size rfl).2;clear ho0 hg0 hz0 hz1 hz2 hi
 go_loopw [11] (fun i wr=>∃(k:Nat)(R:List (List Value))(cut:Nat→Nat),k≤n∧i= .int .i64 k∧R.length=k∧OG 138 18 wr w.heap.size (.slice (some ⟨w.heap.size,0,none⟩) n n) (R++List.replicate (n-k) (FR 0 FZ (.slice none 0 0) (.slice none 0 0) (.slice none 0 0)))∧(cut 0=w.heap.size+1∧cut k≤wr.heap.size∧JN wr ps R cut k)∧Below w.heap.size w wr∧w.heap.size+1≤wr.heap.size) (fun i _=>n-(intOf i).toNat)
 case atStart=>exact⟨0,[],fun _=>w.heap.size+1,Nat.zero_le _,rfl,rfl,T0,⟨rfl,z0,fun j hj=>by omega⟩,B0,z0⟩
 case round=>
  clear T0 B0 z0;obtain⟨k,R,cut,hk,rfl,hR,T,⟨cz,ck,A⟩,br,zr⟩:=hrel;have CZ:=hide cz;have CK:=hide ck;clear cz ck;by_cases hlt:k<n
  ·have hkx:k<ps.length:=by have:=Hn.out;omega
   have HR:=H.out.below br;obtain⟨g,off,cs,rfl,_,c1,a,b,c,e,ra,rb,rc⟩:=RG.at HR k hkx;subst e;obtain⟨x,hx⟩:∃x,ps.getD k AL=x:=⟨_,rfl⟩
   have Hx:=hide hx;rw[hx]at c1 ra rb rc;clear hx;obtain⟨m,t⟩:=x;simp only at c1 ra rb rc;have hz:=HS.out k hkx;rw[Hx.out]at hz;obtain⟨oa,ka,rfl⟩:=ra.form;obtain⟨ob,kb,rfl⟩:=rb.form;obtain⟨oc,kc,rfl⟩:=rc.form;have TP:=hide fun w h1 h2 h3=>Xf m t oa ob oc ka kb kc w hz h1 h2 h3;clear hz;have RA:=hide ra;have RB:=hide rb;have RC:=hide rc;have HT:=hide T;have HA:=hide A;have fP:=hide hR;generalize t.bw.length=xl at *;generalize t.pw.length=yl at *;generalize t.qw.length=zl at *;clear HR H ra rb rc T A hR;go_upto_region 5 with(first|(refine A9 _ c1 138 _ rfl _ rfl rfl Tryz.underlying138 rfl (by kernel_rfl) ?_)|(refine BH (AJ wr #[.int .i64 0,.int .i64 0,.int .i64 0,.string ⟨#[]⟩,.int .i64 0,.string ⟨#[]⟩,.slice none 0 0,.int .i64 0,.string ⟨#[]⟩,.slice none 0 0,.int .i64 0,.string ⟨#[]⟩,.slice none 0 0,.int .i64 0,.int .i64 0,.int .i64 0,.int .i64 0,.int .i64 0] 138 rfl) 138 #[.int .i64 m,.int .i64 t.k,.int .i64 t.vw,.string t.bn,.int .i64 t.bv,.string t.bs,.slice oa xl ka,.int .i64 t.pv,.string t.ps,.slice ob yl kb,.int .i64 t.qv,.string t.qs,.slice oc zl kc,.int .i64 t.wh,.int .i64 t.fr,.int .i64 t.tu,.int .i64 t.am,.int .i64 t.no] rfl _ _ rfl rfl rfl (by kernel_rfl) rfl (by simp[Value.oneCell']) ?_))
   obtain⟨w1,hw1⟩:∃y,(wr.alloc (.cells #[.int .i64 0,.int .i64 0,.int .i64 0,.string ⟨#[]⟩,.int .i64 0,.string ⟨#[]⟩,.slice none 0 0,.int .i64 0,.string ⟨#[]⟩,.slice none 0 0,.int .i64 0,.string ⟨#[]⟩,.slice none 0 0,.int .i64 0,.int .i64 0,.int .i64 0,.int .i64 0,.int .i64 0] 138)).setRow wr.heap.size #[.int .i64 m,.int .i64 t.k,.int .i64 t.vw,.string t.bn,.int .i64 t.bv,.string t.bs,.slice oa xl ka,.int .i64 t.pv,.string t.ps,.slice ob yl kb,.int .i64 t.qv,.string t.qs,.slice oc zl kc,.int .i64 t.wh,.int .i64 t.fr,.int .i64 t.tu,.int .i64 t.am,.int .i64 t.no]=y:=⟨_,rfl⟩
   rw[hw1];have b1:Below wr.heap.size wr w1:=hw1▸DW _ _ _ _;have X:Loc w1 wr.heap.size #[.int .i64 m,.int .i64 t.k,.int .i64 t.vw,.string t.bn,.int .i64 t.bv,.string t.bs,.slice oa xl ka,.int .i64 t.pv,.string t.ps,.slice ob yl kb,.int .i64 t.qv,.string t.qs,.slice oc zl kc,.int .i64 t.wh,.int .i64 t.fr,.int .i64 t.tu,.int .i64 t.am,.int .i64 t.no]:=hw1▸E_ _ _ _ _;clear hw1;have s1:=b1.size;replace RA:=hide (RA.out.below b1);replace RB:=hide (RB.out.below b1);replace RC:=hide (RC.out.below b1);replace HT:=hide (HT.out.below b1);replace HA:=hide (HA.out.below b1);replace br:=bu br b1;go_wp2_with (first|(refine Ap X 138 _ rfl _ rfl rfl Tryz.underlying138 rfl (by kernel_rfl) ?_))
   clear b1 X c1;refine(TP.out _ RA.out RB.out RC.out).mono ?_;rintro e w2 ⟨u,v,x,rfl,m2,b2⟩;obtain⟨aX,kX,bX,lX,cX,nX,rfl,rfl,rfl⟩:=m2.form;have T2:=HT.out.below b2;have A2:=HA.out.below b2;have B2:=bu br b2;have z2:=b2.size;have hlen:(R++List.replicate (n-k) (FR 0 FZ (.slice none 0 0) (.slice none 0 0) (.slice none 0 0))).length=n:=by have:=fP.out;simp;omega
   obtain⟨_,th⟩:=OG.at (g:=w.heap.size) (cap:=n) (by rw[hlen];exact T2) k (by rw[hlen];exact hlt);have ST:=hide (OG.set (m:=18) (g:=w.heap.size) (cap:=n) (by rw[hlen];exact T2) (by decide) k (by rw[hlen];exact hlt) (FR m t (.slice aX t.bw.length kX) (.slice bX t.pw.length lX) (.slice cX t.qw.length nX)) rfl);have M2:=hide m2;have A2h:=hide A2;have BR:=hide B2;clear T2 HT HA A2 B2 m2 RA RB RC TP b2 HS;generalize t.bw.length=xl at *;generalize t.pw.length=yl at *;generalize t.qw.length=zl at *;go_upto_region 6 with(refine Fa #[.int .i64 m,.int .i64 t.k,.int .i64 t.vw,.string t.bn,.int .i64 t.bv,.string t.bs,.slice aX xl kX,.int .i64 t.pv,.string t.ps,.slice bX yl lX,.int .i64 t.qv,.string t.qs,.slice cX zl nX,.int .i64 t.wh,.int .i64 t.fr,.int .i64 t.tu,.int .i64 t.am,.int .i64 t.no] th 138 rfl _ _ rfl rfl rfl (by kernel_rfl) (by simp[Value.oneCell']) ?_)
   obtain⟨w3,h3⟩:∃y,w2.setCells w.heap.size (k*18) ([.int .i64 m,.int .i64 t.k,.int .i64 t.vw,.string t.bn,.int .i64 t.bv,.string t.bs,.slice aX xl kX,.int .i64 t.pv,.string t.ps,.slice bX yl lX,.int .i64 t.qv,.string t.qs,.slice cX zl nX,.int .i64 t.wh,.int .i64 t.fr,.int .i64 t.tu,.int .i64 t.am,.int .i64 t.no])=y:=⟨_,rfl⟩
   rw[h3];rw[show FR m t (.slice aX xl kX) (.slice bX yl lX) (.slice cX zl nX)=[.int .i64 m,.int .i64 t.k,.int .i64 t.vw,.string t.bn,.int .i64 t.bv,.string t.bs,.slice aX xl kX,.int .i64 t.pv,.string t.ps,.slice bX yl lX,.int .i64 t.qv,.string t.qs,.slice cX zl nX,.int .i64 t.wh,.int .i64 t.fr,.int .i64 t.tu,.int .i64 t.am,.int .i64 t.no] from rfl,h3]at ST;clear h3;go_wp2
   go_roundw
   case rel=>
    obtain⟨S1,KS⟩:=ST.out;rw[Qj fP.out hlt]at S1;rw[hlen]at S1;have hR:=fP.out;have cz:=CZ.out;have ck:=CK.out;have A2:=A2h.out;have M2:=M2.out;have QG:=M2.lt;have k3:=KS.size;obtain⟨sH,hcl,hch⟩:∃c2:Nat→Nat,(∀j,j≤k→c2 j=cut j)∧c2 (k+1)=w2.heap.size:=⟨fun j=>if j≤k then cut j else w2.heap.size,fun j hj=>if_pos hj,if_neg (by omega)⟩
    refine⟨k+1,_,sH,by omega,by go_num,by simp[hR],S1,⟨(hcl 0 (by omega)).trans cz,by rw[hch];exact k3,fun j hj=>?_⟩,Below.kp BR.out KS BR.out.size (fun i hi=>by omega),by have:=KS.size;omega⟩;by_cases e:j<k
    ·obtain⟨c0,x,y,z,e1,e2,e3⟩:=A2 j e;have h0:=A2.cuts j (by omega);rw[hcl j (by omega),hcl (j+1) (by omega)];refine⟨c0,x,y,z,?_,e2.kp KS (fun i h1 _ _=>by omega),e3⟩;rw[List.getD_eq_getElem?_getD,List.getElem?_append_left (by omega),←List.getD_eq_getElem?_getD];exact e1
    obtain rfl:j=k:=by omega
    have h0:=A2.cuts j Ak;rw[hcl j Ak,hch];refine⟨by omega,_,_,_,?_,(by rw[Hx.out];exact(M2.mono (by omega)).kp KS (fun i h1 _ _=>by omega)),fun i hi=>?_⟩
    ·rw[Hx.out,List.getD_eq_getElem?_getD,List.getElem?_append_right (by omega),hR,Nat.sub_self];rfl
    rcases hi with hi|hi|hi
    ·exact(QG.1 i hi).2
    ·exact(QG.2.1 i hi).2
    exact(QG.2.2 i hi).2
   case measure=>simp[intOf];omega
  obtain rfl:k=n:=by omega
  have T':=hide T;have A':=hide A;clear T A H;go_wp2;go_ret;have A2:=A'.out;have cz:=CZ.out;have ck:=CK.out;have hn2:=Hn.out;refine⟨_,rfl,⟨R,cut,?_,by rw[hR,Hn.out],fun j hj=>?_,by omega,by rw[hn2];exact ck,by rw[hn2];exact A2⟩,br⟩
  ·have:=T'.out;rw[Nat.sub_self,List.replicate_zero,List.append_nil]at this;exact this
  have h1:some w.heap.size=some j:=hj;cases h1
  omega
def kF(p:Ba):Nat:=15+p.2.bw.length+p.2.pw.length+p.2.qw.length
def G5(q:Nat)(p:Ba):Ba:=((q:Int),⟨q+1,q+2,markT (q+3),q+4,markT (q+5),A8 (q+6) p.2.bw.length,((q+6+p.2.bw.length:Nat):Int),markT (q+6+p.2.bw.length+1),A8 (q+6+p.2.bw.length+2) p.2.pw.length,((q+8+p.2.bw.length+p.2.pw.length:Nat):Int),markT (q+8+p.2.bw.length+p.2.pw.length+1),A8 (q+8+p.2.bw.length+p.2.pw.length+2) p.2.qw.length,((q+10+p.2.bw.length+p.2.pw.length+p.2.qw.length:Nat):Int),((q+11+p.2.bw.length+p.2.pw.length+p.2.qw.length:Nat):Int),((q+12+p.2.bw.length+p.2.pw.length+p.2.qw.length:Nat):Int),((q+13+p.2.bw.length+p.2.pw.length+p.2.qw.length:Nat):Int),((q+14+p.2.bw.length+p.2.pw.length+p.2.qw.length:Nat):Int)⟩)
def FI:Nat→List Ba→List Ba
 |_,[]=>[]
 |k,p :: ps=>G5 k p :: FI (k+kF p) ps
def Bp:Nat→List Ba→Nat
 |k,[]=>k
 |k,p :: ps=>Bp (k+kF p) ps
theorem Dh(k:Nat)(ps:List Ba):(FI k ps).length=ps.length:=by
 induction ps generalizing k with
 |nil=>rfl
 |cons p ps ih=>simp[FI,ih]
theorem Qo(k:Nat)(ps:List Ba)(p:Ba):FI k (ps++[p])=FI k ps++[G5 (Bp k ps) p]∧Bp k (ps++[p])=Bp k ps+kF p:=by
 induction ps generalizing k with
 |nil=>exact⟨rfl,rfl⟩
 |cons x ps ih=>simp only[List.cons_append,FI,Bp,(ih _).1,(ih _).2];exact⟨trivial,trivial⟩
theorem Ol(k0:Nat)(ps:List Ba)(k:Nat)(hk:k<ps.length):Bp k0 (ps.take (k+1))=Bp k0 (ps.take k)+kF (ps.getD k AL):=by
 rw[List.take_succ_eq_append_getElem hk,(Qo _ _ _).2];simp[List.getElem?_eq_getElem hk]
theorem Ut(k0:Nat)(ps:List Ba):k0≤Bp k0 ps:=by
 induction ps generalizing k0 with
 |nil=>exact Nat.le_refl _
 |cons p ps ih=>have:=ih (k0+kF p);simp only[Bp];omega
theorem KP(k0:Nat)(ps:List Ba)(k:Nat):Bp k0 (ps.take k)≤Bp k0 ps:=by
 induction ps generalizing k0 k with
 |nil=>simp[Bp]
 |cons p ps ih=>
  cases k with
  |zero=>simp only[List.take_zero,Bp];have:=Ut (k0+kF p) ps;omega
  |succ k=>simp only[List.take_succ_cons,Bp];exact ih _ _
def EF(k0 k:Nat)(ps:List Ba):List Ba:=FI k0 (ps.take k)++ps.drop k
theorem Qp(k0 k:Nat)(ps:List Ba)(h:k≤ps.length):(EF k0 k ps).length=ps.length:=by
 simp[EF,Dh];omega
theorem aa(k0 k:Nat)(ps:List Ba)(h:k<ps.length):(EF k0 k ps).getD k AL=ps.getD k AL:=by
 have hl:(FI k0 (ps.take k)).length=k:=by rw[Dh];simp;omega
 unfold EF;rw[List.getD_eq_getElem?_getD,List.getElem?_append_right (by omega),hl,Nat.sub_self,List.getElem?_drop,Nat.add_zero,←List.getD_eq_getElem?_getD]
theorem JC(k0 k:Nat)(ps:List Ba)(h:k<ps.length):(EF k0 k ps).set k (G5 (Bp k0 (ps.take k)) (ps.getD k AL))=EF k0 (k+1) ps:=by
 have hl:(FI k0 (ps.take k)).length=k:=by rw[Dh];simp;omega
 unfold EF;rw[List.set_append_right _ _ (by omega),hl,Nat.sub_self,List.drop_eq_getElem_cons h,List.set_cons_zero,List.take_succ_eq_append_getElem h,(Qo _ _ _).1,List.append_assoc];simp[List.getElem?_eq_getElem h]
theorem ae(k0:Nat)(ps:List Ba):EF k0 ps.length ps=FI k0 ps:=by simp[EF]
theorem OG.put{T:TypeId}{m:Nat}{w:World}{base g cap n:Nat}{rows:List (List Value)}{k:Nat}{r:List Value}(h:OG T m w base (.slice (some ⟨g,0,none⟩) n cap) (rows.set k r))(he:∀c ∈ rows,c.length=m)(hn:rows.length=n)(hk:k<rows.length)(j:Nat)(hj:j<m)(v:Value):
 OG T m (w.setCell ⟨g,k*m+j,none⟩ v) base (.slice (some ⟨g,0,none⟩) n cap) (rows.set k (r.set j v)):=by
 have hl:(rows.set k r).length=n:=by rw[List.length_set,hn]
 have hr:r.length=m:=h.each r (List.mem_set hk r);have row:=h.row;rw[hl]at row;have st:=(row.stored (k*m+j) v).1
 have e:(rows.set k r).flatten.set (k*m+j) v=(rows.set k (r.set j v)).flatten:=by
  have hc:(r.set j v).length=m:=by rw[List.length_set,hr]
  have hk2:k<(rows.set k r).length:=by rw[List.length_set];exact hk
  have h1:=Oe h.each hk2 hc (by omega);rw[List.set_set]at h1;rw[←h1]
  apply List.ext_getElem?
  intro i;rw[LD,hc,KN h.each,List.getElem?_set,KN h.each,List.length_set];have hlt:k*m+m≤rows.length*m:=by rw[←Nat.succ_mul];exact Nat.mul_le_mul_right m hk
  by_cases hi:k*m+j=i
  ·subst hi;rw[if_pos rfl,if_pos (by omega),if_pos (by omega),show k*m+j-k*m=j by omega,List.getElem?_set_self (by omega)]
  rw[if_neg hi];by_cases h2:k*m≤i∧i<k*m+m∧i<rows.length*m
  ·rw[if_pos h2];have:=Gz h.each k (i-k*m) (by omega);rw[show k*m+(i-k*m)=i by omega,List.getElem?_set_self hk]at this;rw[this,List.getElem?_set_ne (by omega)];rfl
  rw[if_neg h2]
 refine⟨fun c hc=>?_,by rw[List.length_set,hn,←e];exact st⟩;rcases List.mem_or_eq_of_mem_set hc with x|x
 ·exact he c x
 rw[x,List.length_set,hr]
end
end Go.Proofs.YtcjmcgolgbkknaaGreatDoor
