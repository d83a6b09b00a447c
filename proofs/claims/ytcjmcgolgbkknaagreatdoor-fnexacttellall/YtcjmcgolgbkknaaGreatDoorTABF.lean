/- Lemmas, as stated. -/
import Derived.Test.YtcjmcgolgbkknaaGreatDoorTABE
set_option maxRecDepth 100000
set_option maxHeartbeats 16000000
set_option linter.unusedSectionVars false
set_option linter.unusedSimpArgs false
namespace Go.Proofs.YtcjmcgolgbkknaaGreatDoor
section
open Go Go.RowKit
variable [∀(a b c d:Int),Decidable (BG a b c d)] [∀(n f:Int),Decidable (A_ n f)]
def Mm(w:World)(lo:Nat)(ps:List Ba)(rows:List (List Value))(g:Option Nat)(k:Nat):Prop:=∀j,j<k→∃a b c,rows.getD j []=FR (ps.getD j AL).1 (ps.getD j AL).2 a b c∧OM w lo a b c (ps.getD j AL).2.bw (ps.getD j AL).2.pw (ps.getD j AL).2.qw∧∀i,(a.ownBlock=some i∨b.ownBlock=some i∨c.ownBlock=some i)→g≠some i
theorem Mm.below{w w':World}{lo k:Nat}{ps:List Ba}{rows:List (List Value)}{g:Option Nat}(h:Mm w lo ps rows g k)(hb:Below w.heap.size w w'):Mm w' lo ps rows g k:=fun j hj=>by
 obtain⟨a,b,c,e,m,x⟩:=h j hj;exact⟨a,b,c,e,m.below hb,x⟩
theorem Mm.more{w w':World}{lo k:Nat}{ps:List Ba}{rows:List (List Value)}{g g':Option Nat}(h:Mm w lo ps rows g k)(hr:rows.length=k)(hk:Kp w w' (fun i=>g=some i))(hg:g'=g∨g'=some w.heap.size){a b c:Value}
 (m:OM w lo a b c (ps.getD k AL).2.bw (ps.getD k AL).2.pw (ps.getD k AL).2.qw) (x:∀i,(a.ownBlock=some i∨b.ownBlock=some i∨c.ownBlock=some i)→g≠some i):
 Mm w' lo ps (rows++[FR (ps.getD k AL).1 (ps.getD k AL).2 a b c]) g' (k+1):=fun j hj=>by
 have step:∀ {p q r:Value}{xs ys zs:List Int},OM w lo p q r xs ys zs→(∀i,(p.ownBlock=some i∨q.ownBlock=some i∨r.ownBlock=some i)→g≠some i)→OM w' lo p q r xs ys zs∧∀i,(p.ownBlock=some i∨q.ownBlock=some i∨r.ownBlock=some i)→g'≠some i:=by
  intro p q r xs ys zs hm hx;refine⟨hm.kp hk (fun i _ _ h3=>hx i h3),fun i hi=>?_⟩;rcases hg with rfl|rfl
  ·exact hx i hi
  obtain⟨l1,l2,l3⟩:=hm.lt;intro e;cases e
  rcases hi with hi|hi|hi
  ·have:=(l1 _ hi).2;omega
  ·have:=(l2 _ hi).2;omega
  have:=(l3 _ hi).2;omega
 by_cases e:j<k
 ·obtain⟨p,q,r,e1,e2,e3⟩:=h j e;obtain⟨s1,s2⟩:=step e2 e3;exact⟨p,q,r,by rw[List.getD_eq_getElem?_getD,List.getElem?_append_left (by omega),←List.getD_eq_getElem?_getD];exact e1,s1,s2⟩
 obtain rfl:j=k:=by omega
 obtain⟨s1,s2⟩:=step m x;exact⟨a,b,c,by rw[List.getD_eq_getElem?_getD,List.getElem?_append_right (by omega),hr,Nat.sub_self];rfl,s1,s2⟩
theorem Ry{w:World}{b o:Nat}{c:Value}{cs:List Value}(h:w.rangeAt b o (c :: cs)):w.rangeAt b (o+1) cs:=fun j v hv=>by
 have:=h (j+1) v (by simpa using hv)
 rwa [show o+(j+1)=o+1+j by omega]at this
def Kr(w:World)(base:Nat)(v:Value)(ps:List Ba):Prop:=∃rows,OG 138 18 w base v rows∧rows.length=ps.length∧Mm w base ps rows v.ownBlock ps.length
theorem Mm.kp{w w':World}{lo k:Nat}{ps:List Ba}{rows:List (List Value)}{g:Option Nat}{X:Nat→Prop}(h:Mm w lo ps rows g k)(k':Kp w w' X)(hX:∀j,lo≤j→¬X j):Mm w' lo ps rows g k:=fun j hj=>by
 obtain⟨a,b,c,e,m,x⟩:=h j hj;exact⟨a,b,c,e,m.kp k' (fun i h1 _ _=>hX i h1),x⟩
theorem Kr.below{w w':World}{base:Nat}{v:Value}{ps:List Ba}(h:Kr w base v ps)(hb:Below w.heap.size w w'):Kr w' base v ps:=by
 obtain⟨rows,g,l,a⟩:=h;exact⟨rows,g.below hb,l,a.below hb⟩
theorem Kr.kp{w w':World}{base:Nat}{v:Value}{ps:List Ba}{X:Nat→Prop}(h:Kr w base v ps)(k:Kp w w' X)(hX:∀j,base≤j→¬X j):Kr w' base v ps:=by
 obtain⟨rows,g,l,a⟩:=h;exact⟨rows,g.kp k (fun j e=>hX j (g.lt j e).1),l,a.kp k hX⟩
theorem Kr.tN{w:World}{base:Nat}{v:Value}{ps:List Ba}(h:Kr w base v ps):Tq w base v ps:=by
 obtain⟨rows,g,l,a⟩:=h;exact⟨rows,g,l,fun j hj=>by obtain⟨a1,b1,c1,e,m,_⟩:=a j hj;exact⟨a1,b1,c1,e,m⟩⟩
theorem Kr.form{w:World}{base:Nat}{v:Value}{ps:List Ba}(h:Kr w base v ps):∃ao ca,v= .slice ao ps.length ca:=h.tN.form
theorem iQ(w:World):OG 138 18 (w.alloc (.cells #[] 138)) w.heap.size (.slice (some ⟨w.heap.size,0,none⟩) 0 0) []:=by
 refine⟨fun c hc=>by simp at hc,?_⟩;have:=World.ownsRow_lit (base:=w.heap.size) (e:=138) (size:=18) w #[] 0 Ak (by unfold maxLen;omega) (by simp);simpa using this

theorem Kb(v:Value)(ps:List Ba)(w:World)(hl:ps.length≤1048577)(h:Ih w v ps):
 Calls Tryz.prog 90 #[v] w fun e w'=>∃u,e= .returned u∧Kr w' w.heap.size u ps∧Below w.heap.size w w':=by
 obtain⟨ao,ca,rfl⟩:=h.form;obtain⟨n,hn⟩:∃n,ps.length=n:=⟨_,rfl⟩
 have Hn:=hide hn;obtain⟨w0,hw0⟩:∃y,w.alloc (.cells #[] 138)=y:=⟨_,rfl⟩
 have B0:Below w.heap.size w w0:=hw0▸Aj _ _;have T0:OG 138 18 w0 w.heap.size (.slice (some ⟨w.heap.size,0,none⟩) 0 0) []:=hw0▸iQ w;have H:=hide h;rw[hn]at hl H⊢;clear h hn;go_enter Tryz.func90,Tryz.ntmps90
 go_wp2
 go_loopw [3,4] (fun t i wr=>∃(k:Nat)(R:List (List Value))(ta:Option Addr)(tc:Nat),k≤n∧i= .int .i64 k∧t= .slice ta k tc∧R.length=k∧OG 138 18 wr w.heap.size (.slice ta k tc) R∧Mm wr w.heap.size ps R (Value.slice ta k tc).ownBlock k∧Below w.heap.size w wr) (fun _ i _=>n-(intOf i).toNat)
 case atStart=>exact⟨0,[],_,_,Nat.zero_le _,rfl,rfl,rfl,T0,fun j hj=>by omega,B0⟩
 case round=>
  clear T0 B0 hw0;obtain⟨k,R,ta,tc,hk,rfl,rfl,hR,T,A,br⟩:=hrel;by_cases hlt:k<n
  ·have hkx:k<ps.length:=by have:=Hn.out;omega
   obtain⟨g,off,cs,rfl,_,c1,a,b,c,e,ra,rb,rc⟩:=RG.at H.out k hkx;subst e;obtain⟨x,hx⟩:∃x,ps.getD k AL=x:=⟨_,rfl⟩
   have Hx:=hide hx;rw[hx]at c1 ra rb rc;clear hx;obtain⟨m,t⟩:=x;simp only at c1 ra rb rc;have hgX:(Value.slice ta k tc).ownBlock≠some g:=fun e=>by have h1:=(OG.lt T g e).1;have h2:=Ca c1 (by simp);omega
   replace c1:=Ac c1 br (Ca c1 (by simp));replace ra:=ra.below br;replace rb:=rb.below br;replace rc:=rc.below br;obtain⟨oa,ka,rfl⟩:=ra.form;obtain⟨ob,kb,rfl⟩:=rb.form;obtain⟨oc,kc,rfl⟩:=rc.form;have TP:=hide fun w h1 h2 h3=>Lv t oa ob oc ka kb kc w h1 h2 h3;have RA:=hide ra;have RB:=hide rb;have RC:=hide rc;have HT:=hide T;have HA:=hide A;have fP:=hide hR;have c0:=Al c1 0 rfl;have cm:=Ry c1;rw[Nat.add_zero]at c0;generalize t.bw.length=xl at *;generalize t.pw.length=yl at *;generalize t.qw.length=zl at *;clear H ra rb rc T A hR c1;have sr:=br.size;have K:Hid (∀w',Kp wr w' (fun j=>(Value.slice ta k tc).ownBlock=some j)→(fun w'=>w'.cell? ⟨g,off+k*18,none⟩=some (.int .i64 m)∧w'.rangeAt g (off+k*18+1) [.int .i64 t.k,.int .i64 t.vw,.string t.bn,.int .i64 t.bv,.string t.bs,.slice oa xl ka,.int .i64 t.pv,.string t.ps,.slice ob yl kb,.int .i64 t.qv,.string t.qs,.slice oc zl kc,.int .i64 t.wh,.int .i64 t.fr,.int .i64 t.tu,.int .i64 t.am,.int .i64 t.no]) w'):=hide fun w' hk'=>⟨hk'.cell c0 hgX,Oc cm hk' hgX⟩
   clear c0 cm hgX;go_upto_region 5 with fail
   have bA:Below wr.heap.size wr wr.drew:=Below.drew (Below.refl _ _);refine wp_region_noPanic ?_;refine wp_region_held_drew (S:=fun w'=>w'.cell? ⟨g,off+k*18,none⟩=some (.int .i64 m)∧w'.rangeAt g (off+k*18+1) [.int .i64 t.k,.int .i64 t.vw,.string t.bn,.int .i64 t.bv,.string t.bs,.slice oa xl ka,.int .i64 t.pv,.string t.ps,.slice ob yl kb,.int .i64 t.qv,.string t.qs,.slice oc zl kc,.int .i64 t.wh,.int .i64 t.fr,.int .i64 t.tu,.int .i64 t.am,.int .i64 t.no]) (by kernel_rfl) (K.out _ (Below.BJ bA _)) (fun hHeld=>?_);refine tx 0 12 ?_;refine tx 1 13 ?_;refine tx 2 14 ?_;refine tx 6 18 ?_;refine tx 7 19 ?_;refine tx 3 15 ?_;refine tx 8 20 ?_;refine tx 4 16 ?_;refine tx 9 21 ?_;refine tx 5 17 ?_;refine take_at (i:=10) (d:=22) (v:= .agg #[.int .i64 t.k,.int .i64 t.vw,.string t.bn,.int .i64 t.bv,.string t.bs,.slice oa xl ka,.int .i64 t.pv,.string t.ps,.slice ob yl kb,.int .i64 t.qv,.string t.qs,.slice oc zl kc,.int .i64 t.wh,.int .i64 t.fr,.int .i64 t.tu,.int .i64 t.am,.int .i64 t.no]) rfl rfl (by kernel_rfl) (by kernel_rfl) (by kernel_rfl) (fun _ _ _ h=>h) ?_ (by assumption) ?_
   ·exact Bb rfl 75 _ rfl rfl [.int .i64 t.k,.int .i64 t.vw,.string t.bn,.int .i64 t.bv,.string t.bs,.slice oa xl ka,.int .i64 t.pv,.string t.ps,.slice ob yl kb,.int .i64 t.qv,.string t.qs,.slice oc zl kc,.int .i64 t.wh,.int .i64 t.fr,.int .i64 t.tu,.int .i64 t.am,.int .i64 t.no] _ (fun w h=>h.2) Tryz.underlying75 rfl (by kernel_rfl)
   simp only[pU];refine rd 11 rfl (fun KK AA=>?_);go_simp;refine(TP.out _ (RA.out.below bA) (RB.out.below bA) (RC.out.below bA)).mono ?_;rintro e w2 ⟨u,v,x,rfl,m2,bb⟩;have b2:Below wr.heap.size wr w2:=bu bA bb
   have hN:Hid (∀i,(u.ownBlock=some i∨v.ownBlock=some i∨x.ownBlock=some i)→(Value.slice ta k tc).ownBlock≠some i):=hide fun i hi e=>by
    have h1:=(OG.lt HT.out i e).2;have h2:=bA.size;obtain⟨l1,l2,l3⟩:=m2.lt;rcases hi with hi|hi|hi
    ·have:=(l1 _ hi).1;omega
    ·have:=(l2 _ hi).1;omega
    have:=(l3 _ hi).1;omega
   obtain⟨aX,kX,bX,lX,cX,nX,rfl,rfl,rfl⟩:=m2.form;have M2:=hide (m2.mono (Nat.le_trans sr bA.size));clear m2 bb bA hHeld;refine AA.out _ _ (K.out _ (Below.BJ b2 _)) (fun hHeld=>?_);clear AA KK;have s2:=b2.size;refine tx 12 24 ?_;refine rd 13 rfl (fun KK AA=>?_);go_simp;obtain⟨w3,hw3⟩:∃y,w2.alloc (.cells #[.int .i64 m,.int .i64 t.k,.int .i64 t.vw,.string t.bn,.int .i64 t.bv,.string t.bs,.slice aX t.bw.length kX,.int .i64 t.pv,.string t.ps,.slice bX t.pw.length lX,.int .i64 t.qv,.string t.qs,.slice cX t.qw.length nX,.int .i64 t.wh,.int .i64 t.fr,.int .i64 t.tu,.int .i64 t.am,.int .i64 t.no] 138)=y:=⟨_,rfl⟩
   rw[hw3];have t3:Below w2.heap.size w2 w3:=hw3▸Aj _ _;have b3:Below wr.heap.size wr w3:=bu b2 t3;have L3:Hid (Loc w3 w2.heap.size #[.int .i64 m,.int .i64 t.k,.int .i64 t.vw,.string t.bn,.int .i64 t.bv,.string t.bs,.slice aX t.bw.length kX,.int .i64 t.pv,.string t.ps,.slice bX t.pw.length lX,.int .i64 t.qv,.string t.qs,.slice cX t.qw.length nX,.int .i64 t.wh,.int .i64 t.fr,.int .i64 t.tu,.int .i64 t.am,.int .i64 t.no]):=hide (hw3▸AJ w2 _ _ rfl);have M3:=hide (M2.out.below t3);clear M2 hw3 t3 hHeld;refine AA.out _ _ (K.out _ (Below.BJ b3 _)) (fun hHeld=>?_);clear AA KK;have s3:=b3.size;refine rd 14 rfl (fun KK AA=>?_);refine Gx rfl (.tmp 12) (.tmp 25) rfl w.heap.size (.slice ta k tc) R w2.heap.size 1 #[.int .i64 m,.int .i64 t.k,.int .i64 t.vw,.string t.bn,.int .i64 t.bv,.string t.bs,.slice aX t.bw.length kX,.int .i64 t.pv,.string t.ps,.slice bX t.pw.length lX,.int .i64 t.qv,.string t.qs,.slice cX t.qw.length nX,.int .i64 t.wh,.int .i64 t.fr,.int .i64 t.tu,.int .i64 t.am,.int .i64 t.no] rfl rfl (HT.out.below b3) L3.out rfl (by intro u hu;simp at hu;rcases hu with rfl|rfl|rfl|rfl|rfl|rfl|rfl|rfl|rfl|rfl|rfl|rfl|rfl|rfl|rfl|rfl|rfl|rfl<;>rfl) (by have:=fP.out;omega) (by omega) ?_;intro v4 w4 jE hg4 hb4;have r4:=OG.lt HT.out;have K4:=hide (CE hg4);have K4h:=K4;have bb:Below w.heap.size w3 w4:=(Below.refl _ _).grown hg4 (by omega) (fun j e=>(r4 j e).1);have B4:=hide (Below.trans (br.trans (b3.mono sr)) bb);obtain⟨a4,c4,hv4⟩:=jE.form;rw[List.length_append,fP.out]at hv4;subst hv4;have A3:=hide (HA.out.below b3);have O4:=hide jE;have HB4:=hide hb4;have k4:Kp wr w4 (fun j=>(Value.slice ta k tc).ownBlock=some j):=(Below.BJ b3 _).trans K4.out;clear hHeld;refine AA.out _ _ (K.out _ k4) (fun hHeld=>?_);clear AA KK K K4 b2 b3 bb;change wpAnyH _ _ _ _ _ _ _ (Act.put _ (some 26) _) _;simp only[pU];refine tx 15 3 ?_;clear hHeld;refine Bw ?_;go_wp2
   go_roundw
   case rel=>
    have hR:=fP.out;refine⟨k+1,_,a4,c4,by omega,by go_num,by go_num,by simp[hR],O4.out,?_,B4.out⟩;have:=Mm.more A3.out hR K4h.out HB4.out (by rw[Hx.out];exact M3.out) hN.out;rw[Hx.out]at this;exact this
   case measure=>simp[intOf];omega
  have hkn:k=ps.length:=by have:=Hn.out;omega
  have T':=hide T;have A':=hide A;have fP:=hide hR;have Hk:=hide hkn;clear T A H hR hkn;go_wp2;go_ret;exact⟨_,rfl,⟨R,T'.out,by rw[fP.out,Hk.out],by rw[←Hk.out];exact A'.out⟩,br⟩
theorem SL(v:Value)(ps:List Ba)(w:World)(hl:ps.length≤1048577)(h:Ih w v ps):
 Calls Tryz.prog 90 #[v] w fun e w'=>∃u,e= .returned u∧Tq w' w.heap.size u ps∧Below w.heap.size w w':=
 (Kb v ps w hl h).mono fun _ _ ⟨u,e,o,b⟩=>⟨u,e,o.tN,b⟩
end
section
open Go Go.RowKit
variable [∀(a b c d:Int),Decidable (BG a b c d)] [∀(n f:Int),Decidable (A_ n f)] [∀(a b c d:Nat),Decidable (DZ a b c d)] [∀(x:T4),Decidable (Du x)] [∀(last:Int)(s:St),Decidable (Aq last s)] [∀(n:Int)(s:List Int),Decidable (Dv n s)]
theorem Kp.cut{w w':World}{X:Nat→Prop}(k:Kp w w' X):Kp w w' (fun j=>X j∧j<w.heap.size):=⟨k.os,k.tape,k.output,k.size,fun j hj hx=>k.block j hj (fun e=>hx ⟨e,hj⟩)⟩
def FN(w:World)(lo hi:Nat)(t:Bt)(a b c d e:Value):Prop:=hi≤w.heap.size∧∀(w':World)(X:Nat→Prop),Kp w w' X→(∀j,lo≤j→j<hi→¬X j)→En w' t a b c d e
theorem FN.kp{w w':World}{lo hi:Nat}{t:Bt}{a b c d e:Value}{X:Nat→Prop}(h:FN w lo hi t a b c d e)(k:Kp w w' X)(hx:∀j,lo≤j→j<hi→¬X j):FN w' lo hi t a b c d e:=
 ⟨Nat.le_trans h.1 k.size,fun w'' Y k' hy=>h.2 w'' (fun j=>X j∨Y j) ((k.mono (fun _=>Or.inl)).trans (k'.mono (fun _=>Or.inr))) (fun j h1 h2 e=>e.elim (hx j h1 h2) (hy j h1 h2))⟩
theorem FN.below{w w':World}{lo hi:Nat}{t:Bt}{a b c d e:Value}(h:FN w lo hi t a b c d e)(b':Below w.heap.size w w'):FN w' lo hi t a b c d e:=h.kp (Below.BJ b' (fun _=>False)) (fun _ _ _ h=>h)
theorem FN.mono{w:World}{lo lo' hi hi':Nat}{t:Bt}{a b c d e:Value}(h:FN w lo hi t a b c d e)(h1:lo'≤lo)(h2:hi≤hi')(h3:hi'≤w.heap.size):FN w lo' hi' t a b c d e:=
 ⟨h3,fun w' X k hx=>h.2 w' X k (fun j a b=>hx j (Nat.le_trans h1 a) (Nat.lt_of_lt_of_le b h2))⟩
theorem FN.Be{w:World}{lo hi:Nat}{t:Bt}{a b c d e:Value}(h:FN w lo hi t a b c d e):En w t a b c d e:=h.2 w (fun _=>False) (Kp.refl _ _) (fun _ _ _ h=>h)
theorem KU(w:World):OT (w.alloc (.cells #[] 73)) w.heap.size (.slice (some ⟨w.heap.size,0,none⟩) 0 0) []:=by
 have:=World.ownsRow_lit (base:=w.heap.size) (e:=73) (size:=4) w #[] 0 Ak (by unfold maxLen;omega) (by simp);simpa[OT,Ay]using this
theorem VQ(t:Bt)(ao bo co od oe:Option Addr)(ca cb cc cd ce:Nat)(w:World)(hm:I7 t)(h:En w t (.slice ao t.qw.length ca) (.slice bo t.pool.length cb) (.slice co t.tab.length cc) (.slice od t.AU.length cd) (.slice oe t.held.length ce)):
 Calls Tryz.prog 31 #[Dz t (.slice ao t.qw.length ca) (.slice bo t.pool.length cb) (.slice co t.tab.length cc) (.slice od t.AU.length cd) (.slice oe t.held.length ce)] w fun e w'=>∃a' b' c' d' e',e= .returned (Dz t a' b' c' d' e')∧FN w' w.heap.size w'.heap.size t a' b' c' d' e'∧Below w.heap.size w w':=by
 have T1:=hide fun w' h=>Lx t.vo t.lo t.n t.s ao ca t.qw t.d w' h;have T2:=hide fun w' h=>Ui od t.AU.length cd t.su t.AU w' h (by have:=hm.d;omega);have T3:=hide fun v w' h=>Kc v t.tab w' (by have:=hm.tb;omega) h;have jo:=hide fun v w' h=>SL v t.held w' hm.h h;have HR:=hide h;have HM:=hide hm;have hpl:=hm.p;clear h hm;obtain⟨w0,hw0,AO,P,O,DC⟩:=Gb w #[.int .i64 t.id,.int .i64 t.vw,.int .i64 t.ak,.int .i64 t.vo,.int .i64 t.lo,.int .i64 t.n,.string t.s,.slice ao t.qw.length ca,.string t.d,.slice bo t.pool.length cb,.slice co t.tab.length cc,.slice od t.AU.length cd,.int .i64 t.su,.slice oe t.held.length ce] 46 #[.int .i64 0,.int .i64 0,.int .i64 0,.int .i64 0,.int .i64 0,.int .i64 0,.string ⟨#[]⟩,.slice none 0 0,.string ⟨#[]⟩,.slice none 0 0,.slice none 0 0,.slice none 0 0,.int .i64 0,.slice none 0 0] 46;go_enter Tryz.func31,Tryz.ntmps31
 have K:Hid (∀w',Kp w0 w' (fun k=>k=w.heap.size+1)→(fun w'=>Kp w0 w' (fun k=>k=w.heap.size+1)∧Loc w' (w.heap.size) #[.int .i64 t.id,.int .i64 t.vw,.int .i64 t.ak,.int .i64 t.vo,.int .i64 t.lo,.int .i64 t.n,.string t.s,.slice ao t.qw.length ca,.string t.d,.slice bo t.pool.length cb,.slice co t.tab.length cc,.slice od t.AU.length cd,.int .i64 t.su,.slice oe t.held.length ce]) w'):=hide fun w' hk'=>⟨hk',P.kp hk' (by omega)⟩
 go_upto_region 1 with fail
 clear hw0;refine uN K (fun Tn bA bb hHeld=>?_);have Eo:=bu AO bb;have Z7:=bb.size;replace P:=P.up bb;replace O:=O.up bb;clear AO bb;refine tx 0 3 ?_;refine tx 2 5 ?_;refine tx 4 7 ?_;refine tx 6 9 ?_;refine tx 10 13 ?_;refine tx 13 16 ?_;refine tx 16 19 ?_;refine tx 19 22 ?_;refine take_at (i:=1) (d:=4) (v:=?_) rfl rfl (by kernel_rfl) (by kernel_rfl) (by kernel_rfl) (fun _ _ _ h=>h) (Or.inl ⟨by rfl,?_⟩) (by assumption) ?_
 rotate_left
 ·intro w hSw
  try dsimp only at hSw
  have h:=hSw;have hc0:=(h.2).cell 0 rfl;clear h hSw;go_simp
  try with_reducible rfl
 simp only[pU];refine take_at (i:=3) (d:=6) (v:=?_) rfl rfl (by kernel_rfl) (by kernel_rfl) (by kernel_rfl) (fun _ _ _ h=>h) (Or.inl ⟨by rfl,?_⟩) (by assumption) ?_
 rotate_left
 ·intro w hSw
  try dsimp only at hSw
  have h:=hSw;have hc1:=(h.2).cell 1 rfl;clear h hSw;go_simp
  try with_reducible rfl
 simp only[pU];refine take_at (i:=5) (d:=8) (v:=?_) rfl rfl (by kernel_rfl) (by kernel_rfl) (by kernel_rfl) (fun _ _ _ h=>h) (Or.inl ⟨by rfl,?_⟩) (by assumption) ?_
 rotate_left
 ·intro w hSw
  try dsimp only at hSw
  have h:=hSw;have hc2:=(h.2).cell 2 rfl;clear h hSw;go_simp
  try with_reducible rfl
 simp only[pU];refine take_at (i:=7) (d:=10) (v:= .agg #[.int .i64 t.vo,.int .i64 t.lo,.int .i64 t.n,.string t.s,.slice ao t.qw.length ca,.string t.d]) rfl rfl (by kernel_rfl) (by kernel_rfl) (by kernel_rfl) (fun _ _ _ h=>h) ?_ (by assumption) ?_
 ·exact Bb rfl 40 _ rfl rfl [.int .i64 t.vo,.int .i64 t.lo,.int .i64 t.n,.string t.s,.slice ao t.qw.length ca,.string t.d] _ (fun w h=>(h.2).range 3 6 rfl) Tryz.underlying40 rfl (by kernel_rfl)
 simp only[pU];refine take_at (i:=11) (d:=14) (v:=?_) rfl rfl (by kernel_rfl) (by kernel_rfl) (by kernel_rfl) (fun _ _ _ h=>h) (Or.inl ⟨by rfl,?_⟩) (by assumption) ?_
 rotate_left
 ·intro w hSw
  try dsimp only at hSw
  have h:=hSw;have hc9:=(h.2).cell 9 rfl;clear h hSw;go_simp
  try with_reducible rfl
 simp only[pU];refine take_at (i:=14) (d:=17) (v:=?_) rfl rfl (by kernel_rfl) (by kernel_rfl) (by kernel_rfl) (fun _ _ _ h=>h) (Or.inl ⟨by rfl,?_⟩) (by assumption) ?_
 rotate_left
 ·intro w hSw
  try dsimp only at hSw
  have h:=hSw;have wm:=(h.2).cell 10 rfl;clear h hSw;go_simp
  try with_reducible rfl
 simp only[pU];refine take_at (i:=17) (d:=20) (v:= .agg #[.slice od t.AU.length cd,.int .i64 t.su]) rfl rfl (by kernel_rfl) (by kernel_rfl) (by kernel_rfl) (fun _ _ _ h=>h) ?_ (by assumption) ?_
 ·exact Bb rfl 43 _ rfl rfl [.slice od t.AU.length cd,.int .i64 t.su] _ (fun w h=>(h.2).range 11 2 rfl) Tryz.underlying43 rfl (by kernel_rfl)
 simp only[pU];refine take_at (i:=20) (d:=23) (v:=?_) rfl rfl (by kernel_rfl) (by kernel_rfl) (by kernel_rfl) (fun _ _ _ h=>h) (Or.inl ⟨by rfl,?_⟩) (by assumption) ?_
 rotate_left
 ·intro w hSw
  try dsimp only at hSw
  have h:=hSw;have rf:=(h.2).cell 13 rfl;clear h hSw;go_simp
  try with_reducible rfl
 simp only[pU];refine wpAnyH_ready (rs:=[8,9]) (by kernel_rfl) (by simp) (AllReadyH.cons rfl (fun KK AA=>?_) (AllReadyH.cons rfl (fun KK AA=>?_) AllReadyH.nil))
 ·go_simp;refine(T1.out _ (HR.out.q.below Eo)).mono ?_;rintro e Dx ⟨u,rfl,oA,bb⟩;have F5:Kp w0 Dx (fun k=>k=w.heap.size+1):=bA.trans (Below.BJ bb _);clear hHeld;refine AA.out _ _ (K.out _ F5) (fun hHeld=>?_);clear AA KK bA;have Eh:=bu Eo bb;have XK:=bb.size;replace P:=P.up bb;replace O:=O.up bb;clear Eo bb;have toA:=World.ownsRow.lt oA;obtain⟨DT,DJ,rfl⟩:=oA.form;refine rd 9 rfl (fun KK AA=>?_);go_simp;obtain⟨FB,hq⟩:∃y,Dx.alloc (.cells #[] 73)=y:=⟨_,rfl⟩
  rw[hq];have bb:Below Dx.heap.size Dx FB:=hq▸Aj _ _;have Gc:Kp w0 FB (fun k=>k=w.heap.size+1):=F5.trans (Below.BJ bb _);obtain⟨h9,PK⟩:∃m,Dx.heap.size=m:=⟨_,rfl⟩
  have oN:OT FB h9 (.slice (some ⟨h9,0,none⟩) 0 0) []:=PK▸hq▸KU Dx;rw[PK];have h91:=Nat.le_of_eq PK;have h92:=Nat.le_of_eq PK.symm;clear hHeld hq PK;refine AA.out _ _ (K.out _ Gc) (fun hHeld=>?_);clear AA KK F5;have EC:=bu Eh bb;have XJ:=bb.size;replace P:=P.up bb;replace O:=O.up bb;replace oA:=oA.below bb;clear Eh bb;have toN:=World.ownsRow.lt oN;have h93:=(toN h9 rfl).2;refine rd 12 rfl (fun KK AA=>?_);refine DF rfl (.tmp 12) (.tmp 14) rfl h9 (.slice (some ⟨h9,0,none⟩) 0 0) (.slice bo t.pool.length cb) [] t.pool rfl rfl oN (RT.below HR.out.p EC).pt (by simp;omega) (by omega) ?_;intro u Lp oB g7 hu;rw[List.nil_append]at oB;have kN:=CE g7;have PH:∀j,(Value.slice (some ⟨h9,0,none⟩) 0 0).ownBlock=some j→j=h9:=fun j e=>by cases e;rfl
  replace P:=P.kp kN (fun e=>by have:=PH _ e;omega);replace O:=O.kp kN (fun e=>by have:=PH _ e;omega);replace oA:=oA.kp kN (fun j hj e=>by have:=toA j hj;have:=PH _ e;omega);have JV:Kp w0 Lp (fun k=>k=w.heap.size+1):=Kp.over Gc kN (fun j e=>Or.inl (by have:=PH _ e;omega));have F9:=Below.kp EC kN EC.size (fun j e=>by have:=PH _ e;omega);have gW:=kN.size;clear hHeld g7 kN oN toN hu EC;refine AA.out _ _ (K.out _ JV) (fun hHeld=>?_);clear AA KK Gc;change wpAnyH _ _ _ _ _ _ _ (Act.put _ (some 15) _) _;simp only[pU];obtain⟨D_,D8,rfl⟩:=OT.CV oB;have BU:=World.ownsRow.lt oB;refine rd 15 rfl (fun KK AA=>?_);go_simp;refine(T3.out _ _ (HR.out.tb.below F9)).mono ?_;rintro e Tu ⟨u,rfl,oC,bb⟩;have Pb:Kp w0 Tu (fun k=>k=w.heap.size+1):=JV.trans (Below.BJ bb _);clear hHeld;refine AA.out _ _ (K.out _ Pb) (fun hHeld=>?_);clear AA KK JV;have J5:=bu F9 bb;have qf:=bb.size;replace P:=P.up bb;replace O:=O.up bb;replace oA:=oA.below bb;replace oB:=oB.below bb;clear F9 bb;obtain⟨kD,oC⟩:=oC;obtain⟨El,Ej,rfl⟩:=Kq.form ⟨kD,oC⟩;obtain⟨m1,hm1⟩:∃m,Tu.heap.size=m:=⟨_,rfl⟩
  have oC:=C_.tL oC;rw[hm1]at oC;have hm2:=Nat.le_of_eq hm1;have tT:=Nat.le_of_eq hm1.symm;clear hm1;refine rd 18 rfl (fun KK AA=>?_);go_simp;refine(T2.out _ (HR.out.d.below J5)).mono ?_;rintro e Y4 ⟨u,rfl,oD,bb⟩;have Jv:Kp w0 Y4 (fun k=>k=w.heap.size+1):=Pb.trans (Below.BJ bb _);clear hHeld;refine AA.out _ _ (K.out _ Jv) (fun hHeld=>?_);clear AA KK Pb;have J4:=bu J5 bb;have qd:=bb.size;replace P:=P.up bb;replace O:=O.up bb;replace oA:=oA.below bb;replace oB:=oB.below bb;clear J5;replace oC:=oC.below bb;clear bb;have Ku:=World.ownsRow.lt oD;obtain⟨Gg,GQ,rfl⟩:=oD.form;refine rd 21 rfl (fun KK AA=>?_);go_simp;refine(jo.out _ _ (HR.out.h.below J4)).mono ?_;rintro e Hf ⟨u,rfl,oE,bb⟩;have Ju:Kp w0 Hf (fun k=>k=w.heap.size+1):=Jv.trans (Below.BJ bb _);clear hHeld;refine AA.out _ _ (K.out _ Ju) (fun hHeld=>?_);clear AA KK Jv;have IP:=bu J4 bb;have lV:=bb.size;replace P:=P.up bb;replace O:=O.up bb;replace oA:=oA.below bb;replace oB:=oB.below bb;replace oD:=oD.below bb;clear J4;replace oC:=oC.below bb;clear bb;obtain⟨Ie,Ia,rfl⟩:=oE.form;refine tx 22 25 ?_;refine rd 23 rfl (fun KK AA=>?_);rw[if_pos (by rfl)];refine wp_store_mid 46 (.tmp 2) (.tmp 25) rfl (w.heap.size+1) 0 #[.int .i64 t.id,.int .i64 t.vw,.int .i64 t.ak,.int .i64 t.vo,.int .i64 t.lo,.int .i64 t.n,.string t.s,.slice DT t.qw.length DJ,.string t.d,.slice D_ t.pool.length D8,.slice El t.tab.length Ej,.slice Gg t.AU.length GQ,.int .i64 t.su,.slice Ie t.held.length Ia] rfl rfl (O.there 0 14 (by simp)) (by kernel_rfl) (by simp[Value.oneCell']) ?_;obtain⟨He,hq⟩:∃y,Hf.setCells (w.heap.size+1) 0 [.int .i64 t.id,.int .i64 t.vw,.int .i64 t.ak,.int .i64 t.vo,.int .i64 t.lo,.int .i64 t.n,.string t.s,.slice DT t.qw.length DJ,.string t.d,.slice D_ t.pool.length D8,.slice El t.tab.length Ej,.slice Gg t.AU.length GQ,.int .i64 t.su,.slice Ie t.held.length Ia]=y:=⟨_,rfl⟩
  have kN:Kp Hf He (fun k=>k=w.heap.size+1):=hq▸Ad _ _ _ _;have Pe:Kp w0 He (fun k=>k=w.heap.size+1):=Ju.trans (kN.mono (fun k e=>e));replace O:Loc He (w.heap.size+1) #[.int .i64 t.id,.int .i64 t.vw,.int .i64 t.ak,.int .i64 t.vo,.int .i64 t.lo,.int .i64 t.n,.string t.s,.slice DT t.qw.length DJ,.string t.d,.slice D_ t.pool.length D8,.slice El t.tab.length Ej,.slice Gg t.AU.length GQ,.int .i64 t.su,.slice Ie t.held.length Ia]:=hq▸O.setCells _ _ rfl;rw[show Hf.setCells (w.heap.size+1) 0 (Array.toList #[.int .i64 t.id,.int .i64 t.vw,.int .i64 t.ak,.int .i64 t.vo,.int .i64 t.lo,.int .i64 t.n,.string t.s,.slice DT t.qw.length DJ,.string t.d,.slice D_ t.pool.length D8,.slice El t.tab.length Ej,.slice Gg t.AU.length GQ,.int .i64 t.su,.slice Ie t.held.length Ia])=He from hq];clear hHeld;refine AA.out _ _ (K.out _ Pe) (fun hHeld=>?_);clear AA KK Ju;replace P:=P.kp kN (by omega);replace oA:=oA.kp kN (fun j hj e=>by have:=toA j hj;omega);replace oB:=oB.kp kN (fun j hj e=>by have:=BU j hj;omega);replace oD:=oD.kp kN (fun j hj e=>by have:=Ku j hj;omega);replace oC:=oC.kp kN (fun j h1 h2 e=>by omega);replace oE:=oE.kp kN (fun j h1 e=>by omega);have Tm:=Below.kp IP kN IP.size (fun k hk=>by omega);have lU:=kN.size;clear hq kN IP hHeld;refine Bw ?_;clear K Pe;go_wp2;refine bodyPost_ret (v:=Dz t (.slice DT t.qw.length DJ) (.slice D_ t.pool.length D8) (.slice El t.tab.length Ej) (.slice Gg t.AU.length GQ) (.slice Ie t.held.length Ia)) (Ch Tryz.results31 _ O rfl Tryz.underlying46 rfl (by kernel_rfl)) rfl ?_;refine⟨_,_,_,_,_,rfl,⟨Nat.le_refl _,fun v X k hx=>?_⟩,Tm⟩;have hm:=HM.out;refine⟨(oA.kp k (fun j hj=>hx j (by have:=toA j hj;omega) (by have:=toA j hj;omega))).ri (by have:=hm.q;omega),(oB.kp k (fun j hj=>hx j (by have:=BU j hj;omega) (by have:=BU j hj;omega))).rt (by omega),(oC.kp k (fun j h1 h2=>hx j (by omega) (by omega))).kE hm.tt,(oD.kp k (fun j hj=>hx j (by have:=Ku j hj;omega) (by have:=Ku j hj;omega))).rb (by have:=hm.d;omega),?_⟩;exact(oE.kp k.cut (fun j h1 h2=>hx j (by omega) h2.2 h2.1)).ZF hm.hh
 go_simp;obtain⟨JY,hq⟩:∃y,Tn.alloc (.cells #[] 73)=y:=⟨_,rfl⟩
 rw[hq];have bb:Below Tn.heap.size Tn JY:=hq▸Aj _ _;have Jt:Kp w0 JY (fun k=>k=w.heap.size+1):=bA.trans (Below.BJ bb _);obtain⟨h9,PK⟩:∃m,Tn.heap.size=m:=⟨_,rfl⟩
 have oN:OT JY h9 (.slice (some ⟨h9,0,none⟩) 0 0) []:=PK▸hq▸KU Tn;rw[PK];have h91:=Nat.le_of_eq PK;have h92:=Nat.le_of_eq PK.symm;clear hHeld hq PK;refine AA.out _ _ (K.out _ Jt) (fun hHeld=>?_);clear AA KK bA;have IL:=bu Eo bb;have lT:=bb.size;replace P:=P.up bb;replace O:=O.up bb;clear Eo bb;have toN:=World.ownsRow.lt oN;have h93:=(toN h9 rfl).2;refine rd 8 rfl (fun KK AA=>?_);go_simp;refine(T1.out _ (HR.out.q.below IL)).mono ?_;rintro e We ⟨u,rfl,oA,bb⟩;have Js:Kp w0 We (fun k=>k=w.heap.size+1):=Jt.trans (Below.BJ bb _);clear hHeld;refine AA.out _ _ (K.out _ Js) (fun hHeld=>?_);clear AA KK Jt;have Fg:=bu IL bb;have lQ:=bb.size;replace P:=P.up bb;replace O:=O.up bb;replace oN:=oN.below bb;clear IL bb;have toA:=World.ownsRow.lt oA;obtain⟨DT,DJ,rfl⟩:=oA.form;refine rd 12 rfl (fun KK AA=>?_);refine DF rfl (.tmp 12) (.tmp 14) rfl h9 (.slice (some ⟨h9,0,none⟩) 0 0) (.slice bo t.pool.length cb) [] t.pool rfl rfl oN (RT.below HR.out.p Fg).pt (by simp;omega) (by omega) ?_;intro u Wd oB g7 hu;rw[List.nil_append]at oB;have kN:=CE g7;have PH:∀j,(Value.slice (some ⟨h9,0,none⟩) 0 0).ownBlock=some j→j=h9:=fun j e=>by cases e;rfl
 replace P:=P.kp kN (fun e=>by have:=PH _ e;omega);replace O:=O.kp kN (fun e=>by have:=PH _ e;omega);replace oA:=oA.kp kN (fun j hj e=>by have:=toA j hj;have:=PH _ e;omega);have Jr:Kp w0 Wd (fun k=>k=w.heap.size+1):=Kp.over Js kN (fun j e=>Or.inl (by have:=PH _ e;omega));have IK:=Below.kp Fg kN Fg.size (fun j e=>by have:=PH _ e;omega);have lM:=kN.size;clear hHeld g7 kN oN toN hu Fg;refine AA.out _ _ (K.out _ Jr) (fun hHeld=>?_);clear AA KK Js;change wpAnyH _ _ _ _ _ _ _ (Act.put _ (some 15) _) _;simp only[pU];obtain⟨D_,D8,rfl⟩:=OT.CV oB;have BU:=World.ownsRow.lt oB;refine rd 15 rfl (fun KK AA=>?_);go_simp;refine(T3.out _ _ (HR.out.tb.below IK)).mono ?_;rintro e Nl ⟨u,rfl,oC,bb⟩;have Jq:Kp w0 Nl (fun k=>k=w.heap.size+1):=Jr.trans (Below.BJ bb _);clear hHeld;refine AA.out _ _ (K.out _ Jq) (fun hHeld=>?_);clear AA KK Jr;have IJ:=bu IK bb;have lL:=bb.size;replace P:=P.up bb;replace O:=O.up bb;replace oA:=oA.below bb;replace oB:=oB.below bb;clear IK bb;obtain⟨kD,oC⟩:=oC;obtain⟨El,Ej,rfl⟩:=Kq.form ⟨kD,oC⟩;obtain⟨m1,hm1⟩:∃m,Nl.heap.size=m:=⟨_,rfl⟩
 have oC:=C_.tL oC;rw[hm1]at oC;have hm2:=Nat.le_of_eq hm1;have tT:=Nat.le_of_eq hm1.symm;clear hm1;refine rd 18 rfl (fun KK AA=>?_);go_simp;refine(T2.out _ (HR.out.d.below IJ)).mono ?_;rintro e Rm ⟨u,rfl,oD,bb⟩;have Jp:Kp w0 Rm (fun k=>k=w.heap.size+1):=Jq.trans (Below.BJ bb _);clear hHeld;refine AA.out _ _ (K.out _ Jp) (fun hHeld=>?_);clear AA KK Jq;have II:=bu IJ bb;have lK:=bb.size;replace P:=P.up bb;replace O:=O.up bb;replace oA:=oA.below bb;replace oB:=oB.below bb;clear IJ;replace oC:=oC.below bb;clear bb;have Ku:=World.ownsRow.lt oD;obtain⟨Gg,GQ,rfl⟩:=oD.form;refine rd 21 rfl (fun KK AA=>?_);go_simp;refine(jo.out _ _ (HR.out.h.below II)).mono ?_;rintro e Hd ⟨u,rfl,oE,bb⟩;have Jo:Kp w0 Hd (fun k=>k=w.heap.size+1):=Jp.trans (Below.BJ bb _);clear hHeld;refine AA.out _ _ (K.out _ Jo) (fun hHeld=>?_);clear AA KK Jp;have IG:=bu II bb;have lJ:=bb.size;replace P:=P.up bb;replace O:=O.up bb;replace oA:=oA.below bb;replace oB:=oB.below bb;replace oD:=oD.below bb;clear II;replace oC:=oC.below bb;clear bb;obtain⟨Ie,Ia,rfl⟩:=oE.form;refine tx 22 25 ?_;refine rd 23 rfl (fun KK AA=>?_);rw[if_pos (by rfl)];refine wp_store_mid 46 (.tmp 2) (.tmp 25) rfl (w.heap.size+1) 0 #[.int .i64 t.id,.int .i64 t.vw,.int .i64 t.ak,.int .i64 t.vo,.int .i64 t.lo,.int .i64 t.n,.string t.s,.slice DT t.qw.length DJ,.string t.d,.slice D_ t.pool.length D8,.slice El t.tab.length Ej,.slice Gg t.AU.length GQ,.int .i64 t.su,.slice Ie t.held.length Ia] rfl rfl (O.there 0 14 (by simp)) (by kernel_rfl) (by simp[Value.oneCell']) ?_;obtain⟨Ha,hq⟩:∃y,Hd.setCells (w.heap.size+1) 0 [.int .i64 t.id,.int .i64 t.vw,.int .i64 t.ak,.int .i64 t.vo,.int .i64 t.lo,.int .i64 t.n,.string t.s,.slice DT t.qw.length DJ,.string t.d,.slice D_ t.pool.length D8,.slice El t.tab.length Ej,.slice Gg t.AU.length GQ,.int .i64 t.su,.slice Ie t.held.length Ia]=y:=⟨_,rfl⟩
 have kN:Kp Hd Ha (fun k=>k=w.heap.size+1):=hq▸Ad _ _ _ _;have Pd:Kp w0 Ha (fun k=>k=w.heap.size+1):=Jo.trans (kN.mono (fun k e=>e));replace O:Loc Ha (w.heap.size+1) #[.int .i64 t.id,.int .i64 t.vw,.int .i64 t.ak,.int .i64 t.vo,.int .i64 t.lo,.int .i64 t.n,.string t.s,.slice DT t.qw.length DJ,.string t.d,.slice D_ t.pool.length D8,.slice El t.tab.length Ej,.slice Gg t.AU.length GQ,.int .i64 t.su,.slice Ie t.held.length Ia]:=hq▸O.setCells _ _ rfl;rw[show Hd.setCells (w.heap.size+1) 0 (Array.toList #[.int .i64 t.id,.int .i64 t.vw,.int .i64 t.ak,.int .i64 t.vo,.int .i64 t.lo,.int .i64 t.n,.string t.s,.slice DT t.qw.length DJ,.string t.d,.slice D_ t.pool.length D8,.slice El t.tab.length Ej,.slice Gg t.AU.length GQ,.int .i64 t.su,.slice Ie t.held.length Ia])=Ha from hq];clear hHeld;refine AA.out _ _ (K.out _ Pd) (fun hHeld=>?_);clear AA KK Jo;replace P:=P.kp kN (by omega);replace oA:=oA.kp kN (fun j hj e=>by have:=toA j hj;omega);replace oB:=oB.kp kN (fun j hj e=>by have:=BU j hj;omega);replace oD:=oD.kp kN (fun j hj e=>by have:=Ku j hj;omega);replace oC:=oC.kp kN (fun j h1 h2 e=>by omega);replace oE:=oE.kp kN (fun j h1 e=>by omega);have Tk:=Below.kp IG kN IG.size (fun k hk=>by omega);have lI:=kN.size;clear hq kN IG hHeld;refine Bw ?_;clear K Pd;go_wp2;refine bodyPost_ret (v:=Dz t (.slice DT t.qw.length DJ) (.slice D_ t.pool.length D8) (.slice El t.tab.length Ej) (.slice Gg t.AU.length GQ) (.slice Ie t.held.length Ia)) (Ch Tryz.results31 _ O rfl Tryz.underlying46 rfl (by kernel_rfl)) rfl ?_;refine⟨_,_,_,_,_,rfl,⟨Nat.le_refl _,fun v X k hx=>?_⟩,Tk⟩;have hm:=HM.out;refine⟨(oA.kp k (fun j hj=>hx j (by have:=toA j hj;omega) (by have:=toA j hj;omega))).ri (by have:=hm.q;omega),(oB.kp k (fun j hj=>hx j (by have:=BU j hj;omega) (by have:=BU j hj;omega))).rt (by omega),(oC.kp k (fun j h1 h2=>hx j (by omega) (by omega))).kE hm.tt,(oD.kp k (fun j hj=>hx j (by have:=Ku j hj;omega) (by have:=Ku j hj;omega))).rb (by have:=hm.d;omega),?_⟩;exact(oE.kp k.cut (fun j h1 h2=>hx j (by omega) h2.2 h2.1)).ZF hm.hh
end
section
open Go Go.RowKit
variable [∀(a b c d:Int),Decidable (BG a b c d)] [∀(n f:Int),Decidable (A_ n f)] [∀(a b c d:Nat),Decidable (DZ a b c d)] [∀(x:T4),Decidable (Du x)] [∀(last:Int)(s:St),Decidable (Aq last s)] [∀(n:Int)(s:List Int),Decidable (Dv n s)] [∀(x y:T4),Decidable (Gs x y)] [∀(ts:List T4),Decidable (Asc ts)] [∀(ts:List T4),Decidable (DU ts)] [∀(ts:List T4),Decidable (JM ts)]
def Hz(id:Int):Bt:=⟨id,1,0,0,0,0,⟨#[]⟩,[],⟨#[]⟩,[],[],[],0,[]⟩
def Gu:Bt:=⟨0,0,0,0,0,0,⟨#[]⟩,[],⟨#[]⟩,[],[],[],0,[]⟩
theorem En.new(w:World)(id:Int):En w (Hz id) (.slice none 0 0) (.slice none 0 0) (.slice none 0 0) (.slice none 0 0) (.slice none 0 0):=
 ⟨⟨by simp[Hz],none,0,rfl,.inl rfl⟩,⟨by simp[Hz],none,0,rfl,.inl rfl⟩,⟨none,0,rfl,.inl rfl⟩,⟨by simp[Hz],none,0,rfl,⟨by simp[Hz],by unfold maxLen;omega⟩,.inl rfl⟩,Ih.nil w⟩
theorem I7.new(id:Int):I7 (Hz id):=⟨by simp[Hz],by simp[Hz],by simp[Hz],by simp[Hz],by simp[Hz],fun p hp=>by simp[Hz]at hp,fun j hj=>by simp[Hz]at hj⟩
theorem RS.new(id:Int):RS (Hz id):=⟨(Nat.zero_le _:0≤1048576),(Nat.zero_le _:0≤1048576),fun p hp=>by simp[Hz]at hp,fun j hj=>by simp[Hz]at hj⟩
theorem Cg{P:Program}{fn:Func}{p u:Tmp}{ty:TypeId}(h:fn.results= #[.cell p ty,.tmp u]){tmps:Array Value}{w:World}{g:Nat}{cs:Array Value}(d:TypeDesc)(L:Loc w g cs)(hp:tmps.getD p undef= .pointer (some ⟨g,0,none⟩))
 (hu:P.underlying ty=some d) (hd:isRow d=true) (hi:(P.info? ty).map (·.size)=some cs.size):(results fn tmps).run P w= .ok (.tuple #[.agg cs,tmps.getD u undef]) w:=by
 rw[results_cell_tmp h,hp];have:=VI L ty d hu hd hi;simp[asAddr,this,Result.andThen]
end
section
open Go.RowKit
variable [∀(a b c d:Int),Decidable (BG a b c d)] [∀(a b c d:Nat),Decidable (DZ a b c d)] [∀(last:Int)(s:St),Decidable (Aq last s)] [∀(x:T4),Decidable (Du x)] [∀(n:Int)(s:List Int),Decidable (Dv n s)] [∀(n f:Int),Decidable (A_ n f)]
theorem RB.sub{w:World}{b off n ca:Nat}{xs:List Int}(h:RB w (.slice (some ⟨b,off,none⟩) n ca) xs)(q m:Nat)(hq:q+m≤xs.length):RB w (.slice (some ⟨b,off+q,none⟩) m (ca-q)) ((xs.drop q).take m):=by
 obtain⟨hl,ao,cap,e,hc,h⟩:=h;cases e
 have hw:=ko xs q m hq;refine⟨by omega,_,_,by rw[hw],⟨by omega,by unfold maxLen at *; omega⟩,?_⟩;rcases h with rfl|⟨b',off',e,h⟩
 ·left;simp
 cases e
 right
 refine⟨b,off+q,rfl,fun k hk=>?_⟩;rw[hw]at hk;exact Zh h hq k hk
theorem RB.at{w:World}{ao:Option Addr}{n ca:Nat}{xs:List Int}(h:RB w (.slice ao n ca) xs)(hx:0<xs.length):(n=xs.length∧n≤ca)∧∃b off,ao=some ⟨b,off,none⟩∧∀k,k<xs.length→w.cell? ⟨b,off+k,none⟩=some (.int .u8 (xs.getD k 0)):=by
 obtain⟨hl,QR,V8,e,hc,h⟩:=h;cases e
 rcases h with rfl|⟨b,off,rfl,h⟩
 ·simp at hx
 exact⟨⟨rfl,hc.1⟩,b,off,rfl,h⟩
end
section
open Go Go.RowKit
variable [∀(a b c d:Int),Decidable (BG a b c d)] [∀(n f:Int),Decidable (A_ n f)] [∀(a b c d:Nat),Decidable (DZ a b c d)] [∀(x:T4),Decidable (Du x)] [∀(last:Int)(s:St),Decidable (Aq last s)] [∀(n:Int)(s:List Int),Decidable (Dv n s)] [∀(x y:T4),Decidable (Gs x y)] [∀(ts:List T4),Decidable (Asc ts)] [∀(ts:List T4),Decidable (DU ts)] [∀(ts:List T4),Decidable (JM ts)]
theorem En.below{w w':World}{t:Bt}{a b c d e:Value}(h:En w t a b c d e)(hb:Below w.heap.size w w'):En w' t a b c d e:=
 ⟨h.q.below hb,h.p.below hb,h.tb.below hb,h.d.below hb,h.h.below hb⟩
theorem Xh{k:Nat}{ps:List Ba}(hs:∀j,j<ps.length→(ps.getD j AL).2.bw.length≤4194304∧(ps.getD j AL).2.pw.length≤4194304∧(ps.getD j AL).2.qw.length≤4194304)(j:Nat)(hj:j<(FI k ps).length):((FI k ps).getD j AL).2.bw.length≤4194304∧((FI k ps).getD j AL).2.pw.length≤4194304∧((FI k ps).getD j AL).2.qw.length≤4194304:=by
 rw[Dh]at hj;rw[Us _ _ _ hj];have:=hs j hj;simp only[G5,Bz];exact this
theorem I7.marked{t:Bt}(h:I7 t):I7 (qo 1 t):=
 ⟨by show(A8 1 t.qw.length).length≤_;rw[Bz];exact h.q,by show(Cr (aM 1 t) t.pool.length).length≤_;rw[D6];exact h.p,by show(Mw (ZC 1 t) t.tab).length≤_;rw[Hq];exact h.tb,by show(marks (aL 1 t) t.AU.length).length≤_;rw[EG];exact h.d,by show(FI (Qi 1 t) t.held).length≤_;rw[Dh];exact h.h,af _ _ h.tt,Xh h.hh⟩
end
section
open Go.RowKit
variable [∀(a b c d:Int),Decidable (BG a b c d)] [∀(n f:Int),Decidable (A_ n f)] [∀(a b c d:Nat),Decidable (DZ a b c d)] [∀(x:T4),Decidable (Du x)]
theorem Qk{t:Bt}{rs:List Pr}(ht:t.tab=rs.map WR)(g:(t.s.size:Int)+t.qw.length+t.d.size+t.pool.length+rs.length+Bh rs+t.AU.length+t.held.length+BC t.held≤1048576):I7 t∧(t.s.size≤1048576∧t.d.size≤1048576)∧(∀p ∈ t.tab,p.2.1.size≤1048576∧p.2.2.length≤1048576)∧∀j,j<t.held.length→SE (t.held.getD j AL).2≤1048576:=by
 have hl:t.tab.length=rs.length:=by rw[ht];simp
 have h1:∀p ∈ t.tab,p.2.1.size≤1048576∧p.2.2.length≤1048576:=fun p hp=>by
  have:=l9 (p:=p) (by rw[←ht];exact hp);omega
 have h2:∀j,j<t.held.length→SE (t.held.getD j AL).2≤1048576:=fun j hj=>by
  have:=Xg (rs:=t.held) (r:=t.held.getD j AL) (by rw[List.getD_eq_getElem?_getD,List.getElem?_eq_getElem hj];exact List.getElem_mem hj);omega
 exact⟨⟨by omega,by omega,by omega,by omega,by omega,fun p hp=>by have:=h1 p hp;omega,fun j hj=>by have:=h2 j hj;unfold SE at this;omega⟩,⟨by omega,by omega⟩,h1,h2⟩
end
section
open Go.ChangeShapes Go.WideShapes Go.ChangeAt Go.RowKit
open Go.Joins
variable [∀(a b c d:Int),Decidable (BG a b c d)] [∀(n f:Int),Decidable (A_ n f)]
theorem EO:Tryz.prog.cellsOf 28=6:=by kernel_rfl
theorem cellsD:Tryz.prog.cellsOf 33=2:=by kernel_rfl
def uF(W:World)(ao:Option Addr)(ca:Nat)(zs:List Int):Prop:=zs.length≤ca∧ca≤maxLen∧(zs=[]∨∃b off,ao=some ⟨b,off,none⟩∧∀k,k<zs.length→W.cell? ⟨b,off+k,none⟩=some (.int .u8 (zs.getD k 0)))
theorem uF.rb{W:World}{ao:Option Addr}{ca:Nat}{zs:List Int}(h:uF W ao ca zs)(hl:zs.length≤1048576):RB W (.slice ao zs.length ca) zs:=⟨by omega,ao,ca,rfl,⟨h.1,h.2.1⟩,h.2.2⟩
theorem Xn{H:Type}{enc:TypeId×Value→H}{W:World}{n:Nat}{c:Value}{y:DataW H×List MemPlace}(h:DataW.trod enc Tryz.prog W 0 (fun _=>true) true n 31 [c]=some y):
 ∃ao ca,∃zs:List Int,c= .slice ao zs.length ca∧zs.length≤maxLen∧uF W ao ca zs∧∀k,k<zs.length→0≤zs.getD k 0∧zs.getD k 0≤255:=by
 rcases open_ints Tryz.underlying31 Tryz.underlying5 (by kernel_rfl) h with⟨hcs,_⟩|⟨x,len,cap,zs,hcs,_,hl,hm,hz,_,hcell,hwz⟩
 ·simp at hcs;exact⟨none,0,[],hcs,by simp,⟨by simp,by unfold maxLen;omega,.inl rfl⟩,fun k hk=>by simp at hk⟩
 simp at hcs;have hz':zs.length=cap:=by simpa using hz
 have e:(zs.take len).length=len:=by simp;omega
 have hm':cap≤maxLen:=by first|exact hm|omega
 refine⟨some x,cap,zs.take len,by rw[hcs,e],by rw[e];omega,⟨by omega,hm',?_⟩,?_⟩
 ·by_cases h0:len=0
  ·left;simp[h0]
  right
  obtain⟨b,off,spot⟩:=x;have hc:=hcell 0 (by omega);have hspot:spot=none:=by simpa[Addr.add]using World.cell?_spot hc
  subst hspot;refine⟨b,off,rfl,fun k hk=>?_⟩;rw[e]at hk;have hk':=hcell k (by omega);rw[show((⟨b,off,none⟩:Addr).add k)=⟨b,off+k,none⟩ from by unfold Addr.add;split<;>simp_all]at hk';rw[hk'];simp[hk]
 intro k hk
 have hm2:(zs.take len).getD k 0 ∈ zs:=by
  rw[List.getD_eq_getElem?_getD,List.getElem?_eq_getElem hk];exact List.mem_of_mem_take (List.getElem_mem hk)
 have:=bounds_u8 (hwz _ hm2);omega
end
section
open Go.ChangeShapes Go.WideShapes Go.ChangeAt Go.RowKit
open Go.Joins
variable [∀(a b c d:Int),Decidable (BG a b c d)] [∀(n f:Int),Decidable (A_ n f)] [∀(a b c d:Nat),Decidable (DZ a b c d)] [∀(x:T4),Decidable (Du x)]
theorem nu:Tryz.prog.cellsOf 65=4:=by kernel_rfl
theorem JF{H:Type}{enc:TypeId×Value→H}{W:World}{n:Nat}{c:Value}{y:DataW H×List MemPlace}(h:DataW.trod enc Tryz.prog W 0 (fun _=>true) true n 3 [c]=some y):∃a:Int,c= .int .i64 a:=by
 obtain⟨a,e0,_,_⟩:=DataW.trod_int Tryz.underlying3 h;simp at e0;exact⟨a,e0⟩
theorem eD{α:Type}{l:List α}(h:l.length=4):∃a b c d,l=[a,b,c,d]:=by
 match l,h with
 | [a,b,c,d],_=>exact⟨a,b,c,d,rfl⟩
theorem bJ{H:Type}{enc:TypeId×Value→H}{W:World}{fuel:Nat}{a:Option Addr}{len cap:Nat}{x:DataW H×List MemPlace}(h:DataW.trod enc Tryz.prog W 0 (fun _=>true) true fuel 29 (Value.slice a len cap).cells.toList=some x):
 ∃xs:List T4,len=xs.length∧xs.length≤maxLen∧AR W a xs:=by
 rcases Go.Deep.open_slice Tryz.underlying29 h with⟨hcs,_⟩|⟨ad,l,c,m,n,D,Pl,hcs,_,hl,hm,hmm,_,hx⟩
 ·simp[Value.cells]at hcs;obtain⟨rfl,rfl,rfl⟩:=hcs;exact⟨[],rfl,by simp,.inl rfl⟩
 simp[Value.cells]at hcs;obtain⟨rfl,rfl,rfl⟩:=hcs;have hm':m=cap:=by simpa using hmm
 have each:∀i,∃q:T4,i<len→W.cell? (ad.add (i*4))=some (.int .i64 q.1)∧W.cell? (ad.add (i*4+1))=some (.int .i64 q.2.1)∧W.cell? (ad.add (i*4+2))=some (.int .i64 q.2.2.1)∧W.cell? (ad.add (i*4+3))=some (.int .i64 q.2.2.2):=by
  intro i;by_cases hi:i<len
  ·obtain⟨cs',h1,h2⟩:=hx i (by omega);rw[nu]at h1;obtain⟨_,hlen,hcell⟩:=World.cells?_some h1;obtain⟨y0,y1,y2,y3,k,_,_,g0,g1,g2,g3⟩:=trod_struct4 Tryz.underlying65 h2;obtain⟨v0,v1,v2,v3,rfl⟩:=eD hlen;have e0:=hcell 0 (by omega);have e1:=hcell 1 (by omega);have e2:=hcell 2 (by omega);have e3:=hcell 3 (by omega);rw[Go.Deep.add_add]at e0 e1 e2 e3;have ci:Tryz.prog.cellsOf 3=1:=by kernel_rfl
   simp[ci]at g0 g1 g2 g3;obtain⟨a0,rfl⟩:=JF g0;obtain⟨a1,rfl⟩:=JF g1;obtain⟨a2,rfl⟩:=JF g2;obtain⟨a3,rfl⟩:=JF g3;exact⟨(a0,a1,a2,a3),fun _=>⟨by simpa using e0,by simpa using e1,by simpa using e2,by simpa using e3⟩⟩
  exact⟨(0,0,0,0),fun h=>absurd h hi⟩
 obtain⟨q,hq⟩:=Classical.axiomOfChoice each;refine⟨(List.range len).map q,by simp,by simp;omega,?_⟩;by_cases h0:len=0
 ·left;simp[h0]
 right
 obtain⟨b,off,spot⟩:=ad;have hc:=(hq 0 (by omega)).1;have hspot:spot=none:=by simpa[Addr.add]using World.cell?_spot hc
 subst hspot;refine⟨b,off,rfl,fun k hk=>?_⟩;rw[List.length_map,List.length_range]at hk;have:=hq k hk;have ea:∀j,((⟨b,off,none⟩:Addr).add j)=⟨b,off+j,none⟩:=fun j=>by unfold Addr.add;split<;>simp_all
 rw[ea,ea,ea,ea]at this;have eg:((List.range len).map q).getD k (0,0,0,0)=q k:=by simp[hk]
 rw[eg];simpa[Nat.add_assoc]using this
end
end Go.Proofs.YtcjmcgolgbkknaaGreatDoor
