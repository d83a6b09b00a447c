/- Lemmas; their conditions stand in each statement. -/
import Derived.Test.YtcjmcgolgbkknaaGreatDoorWRAP
set_option linter.unusedSectionVars false
set_option linter.unusedSimpArgs false
namespace Go.Proofs.YtcjmcgolgbkknaaGreatDoor
section
open Go Go.RowKit
variable [∀(a b c d:Int),Decidable (BK a b c d)] [∀(n f:Int),Decidable (A9 n f)] [∀(a b c d:Nat),Decidable (Dc a b c d)] [∀(x:T4),Decidable (Dv x)]
def qx(p:Ck):Nat:=15+p.2.bw.length+p.2.pw.length+p.2.qw.length
def IC(q:Nat)(p:Ck):Ck:=((q:Int),⟨q+1,q+2,markT (q+3),q+4,markT (q+5),BP (q+6) p.2.bw.length,((q+6+p.2.bw.length:Nat):Int),markT (q+6+p.2.bw.length+1),BP (q+6+p.2.bw.length+2) p.2.pw.length,((q+8+p.2.bw.length+p.2.pw.length:Nat):Int),markT (q+8+p.2.bw.length+p.2.pw.length+1),BP (q+8+p.2.bw.length+p.2.pw.length+2) p.2.qw.length,((q+10+p.2.bw.length+p.2.pw.length+p.2.qw.length:Nat):Int),((q+11+p.2.bw.length+p.2.pw.length+p.2.qw.length:Nat):Int),((q+12+p.2.bw.length+p.2.pw.length+p.2.qw.length:Nat):Int),((q+13+p.2.bw.length+p.2.pw.length+p.2.qw.length:Nat):Int),((q+14+p.2.bw.length+p.2.pw.length+p.2.qw.length:Nat):Int)⟩)
def Fu:Nat→List Ck→List Ck
 |_,[]=>[]
 |k,p :: ps=>IC k p :: Fu (k+qx p) ps
def CR:Nat→List Ck→Nat
 |k,[]=>k
 |k,p :: ps=>CR (k+qx p) ps
theorem Dq(k:Nat)(ps:List Ck):(Fu k ps).length=ps.length:=by
 induction ps generalizing k with
 |nil=>rfl
 |cons p ps ih=>simp[Fu,ih]
theorem Sr(k:Nat)(ps:List Ck)(p:Ck):Fu k (ps++[p])=Fu k ps++[IC (CR k ps) p]∧CR k (ps++[p])=CR k ps+qx p:=by
 induction ps generalizing k with
 |nil=>exact⟨rfl,rfl⟩
 |cons x ps ih=>simp only[List.cons_append,Fu,CR,(ih _).1,(ih _).2];exact⟨trivial,trivial⟩
theorem QY(k0:Nat)(ps:List Ck)(k:Nat)(hk:k<ps.length):CR k0 (ps.take (k+1))=CR k0 (ps.take k)+qx (ps.getD k AX):=by
 rw[List.take_succ_eq_append_getElem hk,(Sr _ _ _).2];simp[List.getElem?_eq_getElem hk]
theorem Wh(k0:Nat)(ps:List Ck):k0≤CR k0 ps:=by
 induction ps generalizing k0 with
 |nil=>exact Nat.le_refl _
 |cons p ps ih=>have:=ih (k0+qx p);simp only[CR];omega
theorem Lm(k0:Nat)(ps:List Ck)(k:Nat):CR k0 (ps.take k)≤CR k0 ps:=by
 induction ps generalizing k0 k with
 |nil=>simp[CR]
 |cons p ps ih=>
  cases k with
  |zero=>simp only[List.take_zero,CR];have:=Wh (k0+qx p) ps;omega
  |succ k=>simp only[List.take_succ_cons,CR];exact ih _ _
def Ec(k0 k:Nat)(ps:List Ck):List Ck:=Fu k0 (ps.take k)++ps.drop k
theorem Su(k0 k:Nat)(ps:List Ck)(h:k≤ps.length):(Ec k0 k ps).length=ps.length:=by
 simp[Ec,Dq];omega
theorem iM(k0 k:Nat)(ps:List Ck)(h:k<ps.length):(Ec k0 k ps).getD k AX=ps.getD k AX:=by
 have hl:(Fu k0 (ps.take k)).length=k:=by rw[Dq];simp;omega
 unfold Ec;rw[List.getD_eq_getElem?_getD,List.getElem?_append_right (by omega),hl,Nat.sub_self,List.getElem?_drop,Nat.add_zero,←List.getD_eq_getElem?_getD]
theorem Jf(k0 k:Nat)(ps:List Ck)(h:k<ps.length):(Ec k0 k ps).set k (IC (CR k0 (ps.take k)) (ps.getD k AX))=Ec k0 (k+1) ps:=by
 have hl:(Fu k0 (ps.take k)).length=k:=by rw[Dq];simp;omega
 unfold Ec;rw[List.set_append_right _ _ (by omega),hl,Nat.sub_self,List.drop_eq_getElem_cons h,List.set_cons_zero,List.take_succ_eq_append_getElem h,(Sr _ _ _).1,List.append_assoc];simp[List.getElem?_eq_getElem h]
theorem iN(k0:Nat)(ps:List Ck):Ec k0 ps.length ps=Fu k0 ps:=by simp[Ec]
theorem OG.put{T:TypeId}{m:Nat}{w:World}{base g cap n:Nat}{rows:List (List Value)}{k:Nat}{r:List Value}(h:OG T m w base (.slice (some ⟨g,0,none⟩) n cap) (rows.set k r))(he:∀c ∈ rows,c.length=m)(hn:rows.length=n)(hk:k<rows.length)(j:Nat)(hj:j<m)(v:Value):
 OG T m (w.setCell ⟨g,k*m+j,none⟩ v) base (.slice (some ⟨g,0,none⟩) n cap) (rows.set k (r.set j v)):=by
 have hl:(rows.set k r).length=n:=by rw[List.length_set,hn]
 have hr:r.length=m:=h.each r (List.mem_set hk r);have row:=h.row;rw[hl]at row;have st:=(row.stored (k*m+j) v).1
 have e:(rows.set k r).flatten.set (k*m+j) v=(rows.set k (r.set j v)).flatten:=by
  have hc:(r.set j v).length=m:=by rw[List.length_set,hr]
  have hk2:k<(rows.set k r).length:=by rw[List.length_set];exact hk
  have h1:=QR h.each hk2 hc (by omega);rw[List.set_set]at h1;rw[←h1]
  apply List.ext_getElem?
  intro i;rw[Mr,hc,Li h.each,List.getElem?_set,Li h.each,List.length_set];have hlt:k*m+m≤rows.length*m:=by rw[←Nat.succ_mul];exact Nat.mul_le_mul_right m hk
  by_cases hi:k*m+j=i
  ·subst hi;rw[if_pos rfl,if_pos (by omega),if_pos (by omega),show k*m+j-k*m=j by omega,List.getElem?_set_self (by omega)]
  rw[if_neg hi];by_cases h2:k*m≤i∧i<k*m+m∧i<rows.length*m
  ·rw[if_pos h2];have:=H_ h.each k (i-k*m) (by omega);rw[show k*m+(i-k*m)=i by omega,List.getElem?_set_self hk]at this;rw[this,List.getElem?_set_ne (by omega)];rfl
  rw[if_neg h2]
 refine⟨fun c hc=>?_,by rw[List.length_set,hn,←e];exact st⟩;rcases List.mem_or_eq_of_mem_set hc with x|x
 ·exact he c x
 rw[x,List.length_set,hr]
theorem OG.cell{T:TypeId}{m:Nat}{w:World}{base g cap n:Nat}{rows:List (List Value)}{k:Nat}{r:List Value}(h:OG T m w base (.slice (some ⟨g,0,none⟩) n cap) (rows.set k r))(hn:rows.length=n)(hk:k<rows.length)(j:Nat){v:Value}(hv:r[j]? =some v):w.cell? ⟨g,k*m+j,none⟩=some v:=by
 have hl:(rows.set k r).length=n:=by rw[List.length_set,hn]
 have h1:=(OG.at (g:=g) (cap:=cap) (by rw[hl];exact h) k (by rw[List.length_set];exact hk)).1;rw[List.getD_eq_getElem?_getD,List.getElem?_set_self hk]at h1;exact h1 j v hv
theorem OG.Vj{T:TypeId}{m:Nat}{w:World}{base g cap n:Nat}{rows:List (List Value)}{k:Nat}{r:List Value}(h:OG T m w base (.slice (some ⟨g,0,none⟩) n cap) (rows.set k r))(hn:rows.length=n)(j:Nat):w.frozen? ⟨g,j,none⟩=false:=by
 have h1:=h.row;rw[List.length_set,hn]at h1;exact h1.frozenAt j
theorem mh{rows:List (List Value)}{k:Nat}{r:List Value}(h:rows.getD k []=r)(hk:k<rows.length):rows.set k r=rows:=by
 rw[←h,List.getD_eq_getElem?_getD,List.getElem?_eq_getElem hk];simp
set_option maxHeartbeats 16000000 in
set_option maxRecDepth 100000 in
theorem Rp(lo hi:Nat)(v:Value)(ps:List Ck)(k0:Nat)(w:World)(hn:ps.length≤4194304)(hs:∀j,j<ps.length→(ps.getD j AX).2.bw.length≤4194304∧(ps.getD j AX).2.pw.length≤4194304∧(ps.getD j AX).2.qw.length≤4194304)(hp:CR k0 ps≤100000000)(h:Q9 w lo hi v ps):
 Calls Tryz.prog 50 #[v,.int .i64 k0] w fun e w'=>e= .returned (.int .i64 (CR k0 ps))∧Q9 w' lo hi v (Fu k0 ps)∧Kp w w' (fun b=>lo≤b∧b<hi):=by
 obtain⟨va,vc,rfl⟩:=h.form;obtain⟨n,hn'⟩:∃n,ps.length=n:=⟨_,rfl⟩
 have Hn:=hide hn';obtain⟨R0,cut,T00,hR0,hv0,hc0,hc1,A0⟩:=h;rw[hn']at hn T00 hv0 hc1 A0 hR0⊢;have HS:=hide hs;have C0:=hide hc0;have C1:=hide hc1;have V0:=hide hv0;have ABH:=hide T00;have A0h:=hide A0;clear hs hn' hc0 hc1 hv0 T00 A0;go_enter Tryz.func50,Tryz.ntmps50
 go_wp2
 go_loopw [1,5] (fun c i wr=>∃(k:Nat)(R:List (List Value)),k≤n∧i= .int .i64 k∧c= .int .i64 ((CR k0 (ps.take k):Nat):Int)∧OG 138 18 wr lo (.slice va n vc) R∧R.length=n∧Jy wr (Ec k0 k ps) R cut n∧Kp w wr (fun b=>lo≤b∧b<hi)) (fun _ i _=>n-(intOf i).toNat)
 case atStart=>exact⟨0,R0,Nat.zero_le _,rfl,by simp[CR],ABH.out,hR0,by simpa[Ec,Fu]using A0h.out,Kp.refl _ _⟩
 case round=>
  clear ABH A0h hR0;obtain⟨k,R,hk,rfl,rfl,T,hRl,A,kr⟩:=hrel;have hpk:=Lm k0 ps k;by_cases hlt:k<n
  ·have hkx:k<ps.length:=by have:=Hn.out;omega
   have JR:k<R.length:=by omega
   have hpt:=QY k0 ps k hkx;have jh:=Lm k0 ps (k+1);have hsz:=HS.out k hkx;obtain⟨cc,a,b,c,er,m0,lb⟩:=A k hlt;rw[iM k0 k ps hkx]at er m0;have hse:=Jf k0 k ps hkx;obtain⟨x,hx⟩:∃x,ps.getD k AX=x:=⟨_,rfl⟩
   rw[hx]at er m0 hpt hsz hse;have Hx:=hide hx;clear hx;obtain⟨m,t⟩:=x;simp only at er m0 hsz;obtain⟨p,q',oa,ta,ob,tb,oc,hlp,hpq⟩:=m0
   obtain⟨g,rfl⟩:∃g,va=some ⟨g,0,none⟩:=by
    rcases T.row.2 with⟨e,h0⟩|⟨g,cap,cur,e,_⟩
    ·omega
    injection e with e1 e2 e3;exact⟨g,e1⟩
   have hg0:=V0.out g rfl;have AAy:=(T.lt g rfl).1;have T0:OG 138 18 wr lo (.slice (some ⟨g,0,none⟩) n vc) (R.set k (Hd m t a b c)):=by rw[mh er JR];exact T
   have EA:=hide T.each;have hcut:=A.cuts k (by omega);have la:=World.ownsRow.lt oa;have jK:=World.ownsRow.lt ob;have lc:=World.ownsRow.lt oc;obtain⟨ua,uc,rfl⟩:=oa.form;obtain⟨wa,wc,rfl⟩:=ob.form;obtain⟨xa,xc,rfl⟩:=oc.form;obtain⟨xl,hxl⟩:∃l,t.bw.length=l:=⟨_,rfl⟩
   obtain⟨yl,hyl⟩:∃l,t.pw.length=l:=⟨_,rfl⟩
   obtain⟨zl,hzl⟩:∃l,t.qw.length=l:=⟨_,rfl⟩
   have HXL:=hide hxl;have HYL:=hide hyl;have HZL:=hide hzl;rw[hxl]at T0 hsz oa la ta lb;rw[hyl]at T0 hsz ob jK tb lb;rw[hzl]at T0 hsz oc lc lb;have AH:=hide A;have LB:=hide lb;have ER:=hide er;have HSE:=hide hse;have TT:=hide T;clear A T hse er lb hxl hyl hzl;obtain⟨q,hq⟩:∃q,CR k0 (ps.take k)=q:=⟨_,rfl⟩
   rw[hq]at hpk hpt HSE⊢;have HQ:=hide hq;clear hq;unfold qx at hpt;simp only at hpt;rw[HXL.out,HYL.out,HZL.out]at hpt;obtain⟨q1,hq1⟩:∃x,q+6+xl=x:=⟨_,rfl⟩
   obtain⟨q2,hq2⟩:∃x,q1+2+yl=x:=⟨_,rfl⟩
   obtain⟨q3,hq3⟩:∃x,q2+2+zl=x:=⟨_,rfl⟩
   obtain⟨RQ,Z6⟩:∃x,markT (q+3)=x:=⟨_,rfl⟩
   have MT0:Hid (∀w,Calls Tryz.prog 109 #[.int .i64 (((q:Nat):Int)+1+1+1)] w fun e w'=>e= .returned (.string RQ)∧Below w.heap.size w w'):=hide fun w=>by
    have h:=Bz (q+3) w (by omega) (by omega);rw[Z6,show((q+3:Nat):Int)=((q:Nat):Int)+1+1+1 by omega]at h;exact h
   have HM0:=hide Z6;clear Z6;obtain⟨UY,Z5⟩:∃x,markT (q+5)=x:=⟨_,rfl⟩
   have MT1:Hid (∀w,Calls Tryz.prog 109 #[.int .i64 (((q:Nat):Int)+1+1+1+1+1)] w fun e w'=>e= .returned (.string UY)∧Below w.heap.size w w'):=hide fun w=>by
    have h:=Bz (q+5) w (by omega) (by omega);rw[Z5,show((q+5:Nat):Int)=((q:Nat):Int)+1+1+1+1+1 by omega]at h;exact h
   have HM1:=hide Z5;clear Z5;obtain⟨W_,Zz⟩:∃x,markT (q1+1)=x:=⟨_,rfl⟩
   have MT2:Hid (∀w,Calls Tryz.prog 109 #[.int .i64 (((q1:Nat):Int)+1)] w fun e w'=>e= .returned (.string W_)∧Below w.heap.size w w'):=hide fun w=>by
    have h:=Bz (q1+1) w (by omega) (by omega);rw[Zz,show((q1+1:Nat):Int)=((q1:Nat):Int)+1 by omega]at h;exact h
   have HM2:=hide Zz;clear Zz;obtain⟨ZV,Zy⟩:∃x,markT (q2+1)=x:=⟨_,rfl⟩
   have MT3:Hid (∀w,Calls Tryz.prog 109 #[.int .i64 (((q2:Nat):Int)+1)] w fun e w'=>e= .returned (.string ZV)∧Below w.heap.size w w'):=hide fun w=>by
    have h:=Bz (q2+1) w (by omega) (by omega);rw[Zy,show((q2+1:Nat):Int)=((q2:Nat):Int)+1 by omega]at h;exact h
   have HM3:=hide Zy;clear Zy
   have MK0:Hid (∀w,OI w (cut k) (.slice ua xl uc) t.bw→Calls Tryz.prog 110 #[.slice ua xl uc,.int .i64 (((q:Nat):Int)+1+1+1+1+1+1)] w fun e w'=>e= .returned (.int .i64 ((q1:Nat):Int))∧OI w' (cut k) (.slice ua xl uc) (BP (q+6) xl)∧w.grownBy w' (Value.ownBlock (.slice ua xl uc))):=hide fun w h=>by
    have hl:=HXL.out;have h:=II (cut k) (q+6) (.slice ua xl uc) t.bw w (by omega) (by omega) h;rw[hl,show((q+6:Nat):Int)=((q:Nat):Int)+1+1+1+1+1+1 by omega,show((q:Nat):Int)+1+1+1+1+1+1+((xl:Nat):Int)=((q1:Nat):Int) by omega]at h;exact h
   have MK1:Hid (∀w,OI w (p) (.slice wa yl wc) t.pw→Calls Tryz.prog 110 #[.slice wa yl wc,.int .i64 (((q1:Nat):Int)+1+1)] w fun e w'=>e= .returned (.int .i64 ((q2:Nat):Int))∧OI w' (p) (.slice wa yl wc) (BP (q1+2) yl)∧w.grownBy w' (Value.ownBlock (.slice wa yl wc))):=hide fun w h=>by
    have hl:=HYL.out;have h:=II (p) (q1+2) (.slice wa yl wc) t.pw w (by omega) (by omega) h;rw[hl,show((q1+2:Nat):Int)=((q1:Nat):Int)+1+1 by omega,show((q1:Nat):Int)+1+1+((yl:Nat):Int)=((q2:Nat):Int) by omega]at h;exact h
   have MK2:Hid (∀w,OI w (q') (.slice xa zl xc) t.qw→Calls Tryz.prog 110 #[.slice xa zl xc,.int .i64 (((q2:Nat):Int)+1+1)] w fun e w'=>e= .returned (.int .i64 ((q3:Nat):Int))∧OI w' (q') (.slice xa zl xc) (BP (q2+2) zl)∧w.grownBy w' (Value.ownBlock (.slice xa zl xc))):=hide fun w h=>by
    have hl:=HZL.out;have h:=II (q') (q2+2) (.slice xa zl xc) t.qw w (by omega) (by omega) h;rw[hl,show((q2+2:Nat):Int)=((q2:Nat):Int)+1+1 by omega,show((q2:Nat):Int)+1+1+((zl:Nat):Int)=((q3:Nat):Int) by omega]at h;exact h
   have KR:Kp wr wr (fun b=>b=g∨(cut k≤b∧b<cut (k+1))):=Kp.refl _ _;have HB:q3+5=CR k0 (ps.take (k+1)):=by omega
   have HPN:=hide HB;have hb3:q3+5≤100000000:=by omega
   have hb0:q+6≤100000000:=by omega
   have hb1:q1+2≤100000000:=by omega
   have hb2:q2+2≤100000000:=by omega
   have H1:=hide hq1;have H2:=hide hq2;have H3:=hide hq3;have YH:=EA.out;clear HB hpt hq1 hq2 hq3 hpk jh EA;have d0:wr.cell? ⟨g,k*18,none⟩=some (.int .i64 m):=OG.cell T0 hRl JR 0 rfl;have f0:wr.frozen? ⟨g,k*18,none⟩=false:=OG.Vj T0 hRl (k*18+0);have d1:wr.cell? ⟨g,k*18+1,none⟩=some (.int .i64 t.k):=OG.cell T0 hRl JR 1 rfl;have f1:wr.frozen? ⟨g,k*18+1,none⟩=false:=OG.Vj T0 hRl (k*18+1);have d2:wr.cell? ⟨g,k*18+1+1,none⟩=some (.int .i64 t.vw):=OG.cell T0 hRl JR 2 rfl;have f2:wr.frozen? ⟨g,k*18+1+1,none⟩=false:=OG.Vj T0 hRl (k*18+2);go_wp2_with fail
   have U0:OG 138 18 (wr.setCell ⟨g,k*18,none⟩ (.int .i64 (((q:Nat):Int)))) lo (.slice (some ⟨g,0,none⟩) n vc) (R.set k [.int .i64 (((q:Nat):Int)),.int .i64 t.k,.int .i64 t.vw,.string t.bn,.int .i64 t.bv,.string t.bs,.slice ua xl uc,.int .i64 t.pv,.string t.ps,.slice wa yl wc,.int .i64 t.qv,.string t.qs,.slice xa zl xc,.int .i64 t.wh,.int .i64 t.fr,.int .i64 t.tu,.int .i64 t.am,.int .i64 t.no]):=OG.put T0 YH hRl JR 0 (by decide) (.int .i64 (((q:Nat):Int)));have U1:OG 138 18 ((wr.setCell ⟨g,k*18,none⟩ (.int .i64 (((q:Nat):Int)))).setCell ⟨g,k*18+1,none⟩ (.int .i64 (((q:Nat):Int)+1))) lo (.slice (some ⟨g,0,none⟩) n vc) (R.set k [.int .i64 (((q:Nat):Int)),.int .i64 (((q:Nat):Int)+1),.int .i64 t.vw,.string t.bn,.int .i64 t.bv,.string t.bs,.slice ua xl uc,.int .i64 t.pv,.string t.ps,.slice wa yl wc,.int .i64 t.qv,.string t.qs,.slice xa zl xc,.int .i64 t.wh,.int .i64 t.fr,.int .i64 t.tu,.int .i64 t.am,.int .i64 t.no]):=OG.put U0 YH hRl JR 1 (by decide) (.int .i64 (((q:Nat):Int)+1));have U2:OG 138 18 (((wr.setCell ⟨g,k*18,none⟩ (.int .i64 (((q:Nat):Int)))).setCell ⟨g,k*18+1,none⟩ (.int .i64 (((q:Nat):Int)+1))).setCell ⟨g,k*18+1+1,none⟩ (.int .i64 (((q:Nat):Int)+1+1))) lo (.slice (some ⟨g,0,none⟩) n vc) (R.set k [.int .i64 (((q:Nat):Int)),.int .i64 (((q:Nat):Int)+1),.int .i64 (((q:Nat):Int)+1+1),.string t.bn,.int .i64 t.bv,.string t.bs,.slice ua xl uc,.int .i64 t.pv,.string t.ps,.slice wa yl wc,.int .i64 t.qv,.string t.qs,.slice xa zl xc,.int .i64 t.wh,.int .i64 t.fr,.int .i64 t.tu,.int .i64 t.am,.int .i64 t.no]):=OG.put U1 YH hRl JR 2 (by decide) (.int .i64 (((q:Nat):Int)+1+1));obtain⟨w1,hw⟩:∃y,(((wr.setCell ⟨g,k*18,none⟩ (.int .i64 (((q:Nat):Int)))).setCell ⟨g,k*18+1,none⟩ (.int .i64 (((q:Nat):Int)+1))).setCell ⟨g,k*18+1+1,none⟩ (.int .i64 (((q:Nat):Int)+1+1)))=y:=⟨_,rfl⟩
   rw[hw];have T1:=hw▸U2;have kN:Kp wr w1 (fun b=>b=g):=hw▸((AJ _ _ _ _).trans (AJ _ _ _ _)).trans (AJ _ _ _ _);replace oa:=oa.kp kN (fun j hj e=>by have:=la j hj;omega);replace ob:=ob.kp kN (fun j hj e=>by have:=jK j hj;omega);replace oc:=oc.kp kN (fun j hj e=>by have:=lc j hj;omega);replace KR:=KR.trans (kN.mono (fun b e=>Or.inl e));clear kN hw T0 U0 U1 U2 d0 f0 d1 f1 d2 f2;refine(MT0.out _).mono ?_;rintro e w2 ⟨rfl,bb⟩;have T2:=T1.below bb;replace oa:=oa.below bb;replace ob:=ob.below bb;replace oc:=oc.below bb;replace KR:=KR.trans (Below.Bf bb _);clear bb T1;have d3:w2.cell? ⟨g,k*18+1+2,none⟩=some (.string t.bn):=OG.cell T2 hRl JR 3 rfl;have f3:w2.frozen? ⟨g,k*18+1+2,none⟩=false:=OG.Vj T2 hRl (k*18+3);have d4:w2.cell? ⟨g,k*18+1+2+1,none⟩=some (.int .i64 t.bv):=OG.cell T2 hRl JR 4 rfl;have f4:w2.frozen? ⟨g,k*18+1+2+1,none⟩=false:=OG.Vj T2 hRl (k*18+4);go_wp2_with fail
   have U0:OG 138 18 (w2.setCell ⟨g,k*18+1+2,none⟩ (.string RQ)) lo (.slice (some ⟨g,0,none⟩) n vc) (R.set k [.int .i64 (((q:Nat):Int)),.int .i64 (((q:Nat):Int)+1),.int .i64 (((q:Nat):Int)+1+1),.string RQ,.int .i64 t.bv,.string t.bs,.slice ua xl uc,.int .i64 t.pv,.string t.ps,.slice wa yl wc,.int .i64 t.qv,.string t.qs,.slice xa zl xc,.int .i64 t.wh,.int .i64 t.fr,.int .i64 t.tu,.int .i64 t.am,.int .i64 t.no]):=OG.put T2 YH hRl JR 3 (by decide) (.string RQ);have U1:OG 138 18 ((w2.setCell ⟨g,k*18+1+2,none⟩ (.string RQ)).setCell ⟨g,k*18+1+2+1,none⟩ (.int .i64 (((q:Nat):Int)+1+1+1+1))) lo (.slice (some ⟨g,0,none⟩) n vc) (R.set k [.int .i64 (((q:Nat):Int)),.int .i64 (((q:Nat):Int)+1),.int .i64 (((q:Nat):Int)+1+1),.string RQ,.int .i64 (((q:Nat):Int)+1+1+1+1),.string t.bs,.slice ua xl uc,.int .i64 t.pv,.string t.ps,.slice wa yl wc,.int .i64 t.qv,.string t.qs,.slice xa zl xc,.int .i64 t.wh,.int .i64 t.fr,.int .i64 t.tu,.int .i64 t.am,.int .i64 t.no]):=OG.put U0 YH hRl JR 4 (by decide) (.int .i64 (((q:Nat):Int)+1+1+1+1));obtain⟨w3,hw⟩:∃y,((w2.setCell ⟨g,k*18+1+2,none⟩ (.string RQ)).setCell ⟨g,k*18+1+2+1,none⟩ (.int .i64 (((q:Nat):Int)+1+1+1+1)))=y:=⟨_,rfl⟩
   rw[hw];have T3:=hw▸U1;have kN:Kp w2 w3 (fun b=>b=g):=hw▸(AJ _ _ _ _).trans (AJ _ _ _ _);replace oa:=oa.kp kN (fun j hj e=>by have:=la j hj;omega);replace ob:=ob.kp kN (fun j hj e=>by have:=jK j hj;omega);replace oc:=oc.kp kN (fun j hj e=>by have:=lc j hj;omega);replace KR:=KR.trans (kN.mono (fun b e=>Or.inl e));clear kN hw T2 U0 U1 d3 f3 d4 f4;refine(MT1.out _).mono ?_;rintro e w4 ⟨rfl,bb⟩;have T4:=T3.below bb;replace oa:=oa.below bb;replace ob:=ob.below bb;replace oc:=oc.below bb;replace KR:=KR.trans (Below.Bf bb _);clear bb T3;have d5:w4.cell? ⟨g,k*18+1+2+1+1,none⟩=some (.string t.bs):=OG.cell T4 hRl JR 5 rfl;have f5:w4.frozen? ⟨g,k*18+1+2+1+1,none⟩=false:=OG.Vj T4 hRl (k*18+5);have d6:w4.cell? ⟨g,k*18+1+2+1+2,none⟩=some (.slice ua xl uc):=OG.cell T4 hRl JR 6 rfl;have f6:w4.frozen? ⟨g,k*18+1+2+1+2,none⟩=false:=OG.Vj T4 hRl (k*18+6);go_wp2_with fail
   have U0:OG 138 18 (w4.setCell ⟨g,k*18+1+2+1+1,none⟩ (.string UY)) lo (.slice (some ⟨g,0,none⟩) n vc) (R.set k [.int .i64 (((q:Nat):Int)),.int .i64 (((q:Nat):Int)+1),.int .i64 (((q:Nat):Int)+1+1),.string RQ,.int .i64 (((q:Nat):Int)+1+1+1+1),.string UY,.slice ua xl uc,.int .i64 t.pv,.string t.ps,.slice wa yl wc,.int .i64 t.qv,.string t.qs,.slice xa zl xc,.int .i64 t.wh,.int .i64 t.fr,.int .i64 t.tu,.int .i64 t.am,.int .i64 t.no]):=OG.put T4 YH hRl JR 5 (by decide) (.string UY);obtain⟨w5,hw⟩:∃y,(w4.setCell ⟨g,k*18+1+2+1+1,none⟩ (.string UY))=y:=⟨_,rfl⟩
   rw[hw];have T5:=hw▸U0;have kN:Kp w4 w5 (fun b=>b=g):=hw▸AJ _ _ _ _;replace oa:=oa.kp kN (fun j hj e=>by have:=la j hj;omega);replace ob:=ob.kp kN (fun j hj e=>by have:=jK j hj;omega);replace oc:=oc.kp kN (fun j hj e=>by have:=lc j hj;omega);replace KR:=KR.trans (kN.mono (fun b e=>Or.inl e));clear kN hw T4 U0 d5 f5 d6 f6;refine(MK0.out _ oa).mono ?_;rintro e w6 ⟨rfl,o2,hg⟩;have kG:=Bo hg;have T6:=T5.kp kG (fun j hj e=>by have h1:=la j e;have h2:some g=some j:=hj;injection h2 with h2;omega);replace ob:=ob.kp kG (fun j hj e=>by have h1:=ta j e;have h2:=jK j hj;omega);replace oc:=oc.kp kG (fun j hj e=>by have h1:=ta j e;have h2:=lc j hj;omega);replace oa:=o2;replace KR:=KR.trans (kG.mono (fun b e=>Or.inr ⟨by have:=la b e;omega,LB.out b (Or.inl e)⟩));clear kG hg T5;have d7:w6.cell? ⟨g,k*18+1+6,none⟩=some (.int .i64 t.pv):=OG.cell T6 hRl JR 7 rfl;have f7:w6.frozen? ⟨g,k*18+1+6,none⟩=false:=OG.Vj T6 hRl (k*18+7);go_wp2_with fail
   have U0:OG 138 18 (w6.setCell ⟨g,k*18+1+6,none⟩ (.int .i64 (((q1:Nat):Int)))) lo (.slice (some ⟨g,0,none⟩) n vc) (R.set k [.int .i64 (((q:Nat):Int)),.int .i64 (((q:Nat):Int)+1),.int .i64 (((q:Nat):Int)+1+1),.string RQ,.int .i64 (((q:Nat):Int)+1+1+1+1),.string UY,.slice ua xl uc,.int .i64 (((q1:Nat):Int)),.string t.ps,.slice wa yl wc,.int .i64 t.qv,.string t.qs,.slice xa zl xc,.int .i64 t.wh,.int .i64 t.fr,.int .i64 t.tu,.int .i64 t.am,.int .i64 t.no]):=OG.put T6 YH hRl JR 7 (by decide) (.int .i64 (((q1:Nat):Int)));obtain⟨w7,hw⟩:∃y,(w6.setCell ⟨g,k*18+1+6,none⟩ (.int .i64 (((q1:Nat):Int))))=y:=⟨_,rfl⟩
   rw[hw];have T7:=hw▸U0;have kN:Kp w6 w7 (fun b=>b=g):=hw▸AJ _ _ _ _;replace oa:=oa.kp kN (fun j hj e=>by have:=la j hj;omega);replace ob:=ob.kp kN (fun j hj e=>by have:=jK j hj;omega);replace oc:=oc.kp kN (fun j hj e=>by have:=lc j hj;omega);replace KR:=KR.trans (kN.mono (fun b e=>Or.inl e));clear kN hw T6 U0 d7 f7;refine(MT2.out _).mono ?_;rintro e w8 ⟨rfl,bb⟩;have T8:=T7.below bb;replace oa:=oa.below bb;replace ob:=ob.below bb;replace oc:=oc.below bb;replace KR:=KR.trans (Below.Bf bb _);clear bb T7;have d8:w8.cell? ⟨g,k*18+1+6+1,none⟩=some (.string t.ps):=OG.cell T8 hRl JR 8 rfl;have f8:w8.frozen? ⟨g,k*18+1+6+1,none⟩=false:=OG.Vj T8 hRl (k*18+8);have d9:w8.cell? ⟨g,k*18+1+6+2,none⟩=some (.slice wa yl wc):=OG.cell T8 hRl JR 9 rfl;have f9:w8.frozen? ⟨g,k*18+1+6+2,none⟩=false:=OG.Vj T8 hRl (k*18+9);go_wp2_with fail
   have U0:OG 138 18 (w8.setCell ⟨g,k*18+1+6+1,none⟩ (.string W_)) lo (.slice (some ⟨g,0,none⟩) n vc) (R.set k [.int .i64 (((q:Nat):Int)),.int .i64 (((q:Nat):Int)+1),.int .i64 (((q:Nat):Int)+1+1),.string RQ,.int .i64 (((q:Nat):Int)+1+1+1+1),.string UY,.slice ua xl uc,.int .i64 (((q1:Nat):Int)),.string W_,.slice wa yl wc,.int .i64 t.qv,.string t.qs,.slice xa zl xc,.int .i64 t.wh,.int .i64 t.fr,.int .i64 t.tu,.int .i64 t.am,.int .i64 t.no]):=OG.put T8 YH hRl JR 8 (by decide) (.string W_);obtain⟨w9,hw⟩:∃y,(w8.setCell ⟨g,k*18+1+6+1,none⟩ (.string W_))=y:=⟨_,rfl⟩
   rw[hw];have T9:=hw▸U0;have kN:Kp w8 w9 (fun b=>b=g):=hw▸AJ _ _ _ _;replace oa:=oa.kp kN (fun j hj e=>by have:=la j hj;omega);replace ob:=ob.kp kN (fun j hj e=>by have:=jK j hj;omega);replace oc:=oc.kp kN (fun j hj e=>by have:=lc j hj;omega);replace KR:=KR.trans (kN.mono (fun b e=>Or.inl e));clear kN hw T8 U0 d8 f8 d9 f9;refine(MK1.out _ ob).mono ?_;rintro e Vp ⟨rfl,o2,hg⟩;have kG:=Bo hg;have T10:=T9.kp kG (fun j hj e=>by have h1:=jK j e;have h2:some g=some j:=hj;injection h2 with h2;omega);replace oa:=oa.kp kG (fun j hj e=>by have h1:=ta j hj;have h2:=jK j e;omega);replace oc:=oc.kp kG (fun j hj e=>by have h1:=tb j e;have h2:=lc j hj;omega);replace ob:=o2;replace KR:=KR.trans (kG.mono (fun b e=>Or.inr ⟨by have:=jK b e;omega,LB.out b (Or.inr (Or.inl e))⟩));clear kG hg T9;have d10:Vp.cell? ⟨g,k*18+1+9,none⟩=some (.int .i64 t.qv):=OG.cell T10 hRl JR 10 rfl;have f10:Vp.frozen? ⟨g,k*18+1+9,none⟩=false:=OG.Vj T10 hRl (k*18+10);go_wp2_with fail
   have U0:OG 138 18 (Vp.setCell ⟨g,k*18+1+9,none⟩ (.int .i64 (((q2:Nat):Int)))) lo (.slice (some ⟨g,0,none⟩) n vc) (R.set k [.int .i64 (((q:Nat):Int)),.int .i64 (((q:Nat):Int)+1),.int .i64 (((q:Nat):Int)+1+1),.string RQ,.int .i64 (((q:Nat):Int)+1+1+1+1),.string UY,.slice ua xl uc,.int .i64 (((q1:Nat):Int)),.string W_,.slice wa yl wc,.int .i64 (((q2:Nat):Int)),.string t.qs,.slice xa zl xc,.int .i64 t.wh,.int .i64 t.fr,.int .i64 t.tu,.int .i64 t.am,.int .i64 t.no]):=OG.put T10 YH hRl JR 10 (by decide) (.int .i64 (((q2:Nat):Int)));obtain⟨ko,hw⟩:∃y,(Vp.setCell ⟨g,k*18+1+9,none⟩ (.int .i64 (((q2:Nat):Int))))=y:=⟨_,rfl⟩
   rw[hw];have T11:=hw▸U0;have kN:Kp Vp ko (fun b=>b=g):=hw▸AJ _ _ _ _;replace oa:=oa.kp kN (fun j hj e=>by have:=la j hj;omega);replace ob:=ob.kp kN (fun j hj e=>by have:=jK j hj;omega);replace oc:=oc.kp kN (fun j hj e=>by have:=lc j hj;omega);replace KR:=KR.trans (kN.mono (fun b e=>Or.inl e));clear kN hw T10 U0 d10 f10;refine(MT3.out _).mono ?_;rintro e vN ⟨rfl,bb⟩;have y_:=T11.below bb;replace oa:=oa.below bb;replace ob:=ob.below bb;replace oc:=oc.below bb;replace KR:=KR.trans (Below.Bf bb _);clear bb T11;have d11:vN.cell? ⟨g,k*18+1+9+1,none⟩=some (.string t.qs):=OG.cell y_ hRl JR 11 rfl;have f11:vN.frozen? ⟨g,k*18+1+9+1,none⟩=false:=OG.Vj y_ hRl (k*18+11);have d12:vN.cell? ⟨g,k*18+1+9+2,none⟩=some (.slice xa zl xc):=OG.cell y_ hRl JR 12 rfl;have f12:vN.frozen? ⟨g,k*18+1+9+2,none⟩=false:=OG.Vj y_ hRl (k*18+12);go_wp2_with fail
   have U0:OG 138 18 (vN.setCell ⟨g,k*18+1+9+1,none⟩ (.string ZV)) lo (.slice (some ⟨g,0,none⟩) n vc) (R.set k [.int .i64 (((q:Nat):Int)),.int .i64 (((q:Nat):Int)+1),.int .i64 (((q:Nat):Int)+1+1),.string RQ,.int .i64 (((q:Nat):Int)+1+1+1+1),.string UY,.slice ua xl uc,.int .i64 (((q1:Nat):Int)),.string W_,.slice wa yl wc,.int .i64 (((q2:Nat):Int)),.string ZV,.slice xa zl xc,.int .i64 t.wh,.int .i64 t.fr,.int .i64 t.tu,.int .i64 t.am,.int .i64 t.no]):=OG.put y_ YH hRl JR 11 (by decide) (.string ZV);obtain⟨w13,hw⟩:∃y,(vN.setCell ⟨g,k*18+1+9+1,none⟩ (.string ZV))=y:=⟨_,rfl⟩
   rw[hw];have T13:=hw▸U0;have kN:Kp vN w13 (fun b=>b=g):=hw▸AJ _ _ _ _;replace oa:=oa.kp kN (fun j hj e=>by have:=la j hj;omega);replace ob:=ob.kp kN (fun j hj e=>by have:=jK j hj;omega);replace oc:=oc.kp kN (fun j hj e=>by have:=lc j hj;omega);replace KR:=KR.trans (kN.mono (fun b e=>Or.inl e));clear kN hw y_ U0 d11 f11 d12 f12;refine(MK2.out _ oc).mono ?_;rintro e Ei ⟨rfl,o2,hg⟩;have kG:=Bo hg;have ky:=T13.kp kG (fun j hj e=>by have h1:=lc j e;have h2:some g=some j:=hj;injection h2 with h2;omega);replace oa:=oa.kp kG (fun j hj e=>by have h1:=ta j hj;have h2:=lc j e;omega);replace ob:=ob.kp kG (fun j hj e=>by have h1:=tb j hj;have h2:=lc j e;omega);replace oc:=o2;replace KR:=KR.trans (kG.mono (fun b e=>Or.inr ⟨by have:=lc b e;omega,LB.out b (Or.inr (Or.inr e))⟩));clear kG hg T13;have d13:Ei.cell? ⟨g,k*18+1+12,none⟩=some (.int .i64 t.wh):=OG.cell ky hRl JR 13 rfl;have f13:Ei.frozen? ⟨g,k*18+1+12,none⟩=false:=OG.Vj ky hRl (k*18+13);have d14:Ei.cell? ⟨g,k*18+1+13,none⟩=some (.int .i64 t.fr):=OG.cell ky hRl JR 14 rfl;have f14:Ei.frozen? ⟨g,k*18+1+13,none⟩=false:=OG.Vj ky hRl (k*18+14);have d15:Ei.cell? ⟨g,k*18+1+13+1,none⟩=some (.int .i64 t.tu):=OG.cell ky hRl JR 15 rfl;have f15:Ei.frozen? ⟨g,k*18+1+13+1,none⟩=false:=OG.Vj ky hRl (k*18+15);have d16:Ei.cell? ⟨g,k*18+1+13+2,none⟩=some (.int .i64 t.am):=OG.cell ky hRl JR 16 rfl;have f16:Ei.frozen? ⟨g,k*18+1+13+2,none⟩=false:=OG.Vj ky hRl (k*18+16);have d17:Ei.cell? ⟨g,k*18+1+13+3,none⟩=some (.int .i64 t.no):=OG.cell ky hRl JR 17 rfl;have f17:Ei.frozen? ⟨g,k*18+1+13+3,none⟩=false:=OG.Vj ky hRl (k*18+17);have U0:OG 138 18 (Ei.setCell ⟨g,k*18+1+12,none⟩ (.int .i64 (((q3:Nat):Int)))) lo (.slice (some ⟨g,0,none⟩) n vc) (R.set k [.int .i64 (((q:Nat):Int)),.int .i64 (((q:Nat):Int)+1),.int .i64 (((q:Nat):Int)+1+1),.string RQ,.int .i64 (((q:Nat):Int)+1+1+1+1),.string UY,.slice ua xl uc,.int .i64 (((q1:Nat):Int)),.string W_,.slice wa yl wc,.int .i64 (((q2:Nat):Int)),.string ZV,.slice xa zl xc,.int .i64 (((q3:Nat):Int)),.int .i64 t.fr,.int .i64 t.tu,.int .i64 t.am,.int .i64 t.no]):=OG.put ky YH hRl JR 13 (by decide) (.int .i64 (((q3:Nat):Int)));have U1:OG 138 18 ((Ei.setCell ⟨g,k*18+1+12,none⟩ (.int .i64 (((q3:Nat):Int)))).setCell ⟨g,k*18+1+13,none⟩ (.int .i64 (((q3:Nat):Int)+1))) lo (.slice (some ⟨g,0,none⟩) n vc) (R.set k [.int .i64 (((q:Nat):Int)),.int .i64 (((q:Nat):Int)+1),.int .i64 (((q:Nat):Int)+1+1),.string RQ,.int .i64 (((q:Nat):Int)+1+1+1+1),.string UY,.slice ua xl uc,.int .i64 (((q1:Nat):Int)),.string W_,.slice wa yl wc,.int .i64 (((q2:Nat):Int)),.string ZV,.slice xa zl xc,.int .i64 (((q3:Nat):Int)),.int .i64 (((q3:Nat):Int)+1),.int .i64 t.tu,.int .i64 t.am,.int .i64 t.no]):=OG.put U0 YH hRl JR 14 (by decide) (.int .i64 (((q3:Nat):Int)+1));have U2:OG 138 18 (((Ei.setCell ⟨g,k*18+1+12,none⟩ (.int .i64 (((q3:Nat):Int)))).setCell ⟨g,k*18+1+13,none⟩ (.int .i64 (((q3:Nat):Int)+1))).setCell ⟨g,k*18+1+13+1,none⟩ (.int .i64 (((q3:Nat):Int)+1+1))) lo (.slice (some ⟨g,0,none⟩) n vc) (R.set k [.int .i64 (((q:Nat):Int)),.int .i64 (((q:Nat):Int)+1),.int .i64 (((q:Nat):Int)+1+1),.string RQ,.int .i64 (((q:Nat):Int)+1+1+1+1),.string UY,.slice ua xl uc,.int .i64 (((q1:Nat):Int)),.string W_,.slice wa yl wc,.int .i64 (((q2:Nat):Int)),.string ZV,.slice xa zl xc,.int .i64 (((q3:Nat):Int)),.int .i64 (((q3:Nat):Int)+1),.int .i64 (((q3:Nat):Int)+1+1),.int .i64 t.am,.int .i64 t.no]):=OG.put U1 YH hRl JR 15 (by decide) (.int .i64 (((q3:Nat):Int)+1+1));have U3:OG 138 18 ((((Ei.setCell ⟨g,k*18+1+12,none⟩ (.int .i64 (((q3:Nat):Int)))).setCell ⟨g,k*18+1+13,none⟩ (.int .i64 (((q3:Nat):Int)+1))).setCell ⟨g,k*18+1+13+1,none⟩ (.int .i64 (((q3:Nat):Int)+1+1))).setCell ⟨g,k*18+1+13+2,none⟩ (.int .i64 (((q3:Nat):Int)+1+1+1))) lo (.slice (some ⟨g,0,none⟩) n vc) (R.set k [.int .i64 (((q:Nat):Int)),.int .i64 (((q:Nat):Int)+1),.int .i64 (((q:Nat):Int)+1+1),.string RQ,.int .i64 (((q:Nat):Int)+1+1+1+1),.string UY,.slice ua xl uc,.int .i64 (((q1:Nat):Int)),.string W_,.slice wa yl wc,.int .i64 (((q2:Nat):Int)),.string ZV,.slice xa zl xc,.int .i64 (((q3:Nat):Int)),.int .i64 (((q3:Nat):Int)+1),.int .i64 (((q3:Nat):Int)+1+1),.int .i64 (((q3:Nat):Int)+1+1+1),.int .i64 t.no]):=OG.put U2 YH hRl JR 16 (by decide) (.int .i64 (((q3:Nat):Int)+1+1+1));have U4:OG 138 18 (((((Ei.setCell ⟨g,k*18+1+12,none⟩ (.int .i64 (((q3:Nat):Int)))).setCell ⟨g,k*18+1+13,none⟩ (.int .i64 (((q3:Nat):Int)+1))).setCell ⟨g,k*18+1+13+1,none⟩ (.int .i64 (((q3:Nat):Int)+1+1))).setCell ⟨g,k*18+1+13+2,none⟩ (.int .i64 (((q3:Nat):Int)+1+1+1))).setCell ⟨g,k*18+1+13+3,none⟩ (.int .i64 (((q3:Nat):Int)+1+1+1+1))) lo (.slice (some ⟨g,0,none⟩) n vc) (R.set k [.int .i64 (((q:Nat):Int)),.int .i64 (((q:Nat):Int)+1),.int .i64 (((q:Nat):Int)+1+1),.string RQ,.int .i64 (((q:Nat):Int)+1+1+1+1),.string UY,.slice ua xl uc,.int .i64 (((q1:Nat):Int)),.string W_,.slice wa yl wc,.int .i64 (((q2:Nat):Int)),.string ZV,.slice xa zl xc,.int .i64 (((q3:Nat):Int)),.int .i64 (((q3:Nat):Int)+1),.int .i64 (((q3:Nat):Int)+1+1),.int .i64 (((q3:Nat):Int)+1+1+1),.int .i64 (((q3:Nat):Int)+1+1+1+1)]):=OG.put U3 YH hRl JR 17 (by decide) (.int .i64 (((q3:Nat):Int)+1+1+1+1));obtain⟨wE,hw⟩:∃y,(((((Ei.setCell ⟨g,k*18+1+12,none⟩ (.int .i64 (((q3:Nat):Int)))).setCell ⟨g,k*18+1+13,none⟩ (.int .i64 (((q3:Nat):Int)+1))).setCell ⟨g,k*18+1+13+1,none⟩ (.int .i64 (((q3:Nat):Int)+1+1))).setCell ⟨g,k*18+1+13+2,none⟩ (.int .i64 (((q3:Nat):Int)+1+1+1))).setCell ⟨g,k*18+1+13+3,none⟩ (.int .i64 (((q3:Nat):Int)+1+1+1+1)))=y:=⟨_,rfl⟩
   have TE:=hw▸U4;have kN:Kp Ei wE (fun b=>b=g):=hw▸((((AJ _ _ _ _).trans (AJ _ _ _ _)).trans (AJ _ _ _ _)).trans (AJ _ _ _ _)).trans (AJ _ _ _ _);replace oa:=oa.kp kN (fun j hj e=>by have:=la j hj;omega);replace ob:=ob.kp kN (fun j hj e=>by have:=jK j hj;omega);replace oc:=oc.kp kN (fun j hj e=>by have:=lc j hj;omega);replace KR:=KR.trans (kN.mono (fun b e=>Or.inl e));have HW:=hide hw;clear hw kN U0 U1 U2 U3 U4 ky;have TEh:=hide TE;have KRh:=hide KR;have OA:=hide oa;have OB_:=hide ob;have OC:=hide oc;clear TE KR oa ob oc YH;go_wp2
   go_roundw
   case rel=>
    have hw:=HW.out;rw[hw];have pe:=HSE.out;have hps:=Hn.out;have AFe:=Su k0 k ps (by omega);have A:=AH.out;have e1:=H1.out;have e2:=H2.out;have e3:=H3.out;have hxl:=HXL.out;have hyl:=HYL.out;have hzl:=HZL.out;have hm0:=HM0.out;have hm1:=HM1.out;have hm2:=HM2.out;have hm3:=HM3.out;have hpn:=HPN.out;refine⟨k+1,_,by omega,by go_num,?_,TEh.out,by rw[List.length_set];exact hRl,fun j hj=>?_,kr.trans (KRh.out.mono (fun b e=>?_))⟩
    ·rw[show((CR k0 (ps.take (k+1)):Nat):Int)=((q3:Nat):Int)+1+1+1+1+1 by omega]
    ·by_cases e:j=k
     ·have pg:(Ec k0 (k+1) ps).getD j AX=IC q (m,t):=by
       rw[←pe,e,List.getD_eq_getElem?_getD,List.getElem?_set_self (by omega)];rfl
      rw[pg];subst e;refine⟨(A j hj).1,_,_,_,?_,?_,LB.out⟩
      ·rw[List.getD_eq_getElem?_getD,List.getElem?_set_self JR];simp only[IC,Option.getD_some,hxl,hyl,hzl];rw[hm0,hm1,e1,hm2,show q+8+xl+yl=q2 by omega,hm3,show q+10+xl+yl+zl=q3 by omega,show q+11+xl+yl+zl=q3+1 by omega,show q+12+xl+yl+zl=q3+2 by omega,show q+13+xl+yl+zl=q3+3 by omega,show q+14+xl+yl+zl=q3+4 by omega];rfl
      simp only[IC,hxl,hyl,hzl];rw[e1,show q+8+xl+yl=q2 by omega];exact⟨p,q',OA.out,ta,OB_.out,tb,OC.out,hlp,hpq⟩
     obtain⟨c0,x,y,z,f1,f2,f3⟩:=A j hj
     have pg:(Ec k0 (k+1) ps).getD j AX=(Ec k0 k ps).getD j AX:=by
      rw[←pe,List.getD_eq_getElem?_getD,List.getElem?_set_ne (Ne.symm e),←List.getD_eq_getElem?_getD]
     rw[pg];refine⟨c0,x,y,z,?_,f2.kp KRh.out (fun i h1 _ ho hx=>?_),f3⟩
     ·rw[List.getD_eq_getElem?_getD,List.getElem?_set_ne (Ne.symm e),←List.getD_eq_getElem?_getD];exact f1
     have h6:=f3 i ho;have h7:=A.cuts j (by omega);rcases hx with h|⟨h4,h5⟩
     ·omega
     by_cases hjk:j<k
     ·have:=(show Jy wr (Ec k0 k ps) R cut k from fun i hi=>A i (by omega)).ends (k-(j+1)) (j+1) (by omega);omega
     have:=(show Jy wr (Ec k0 k ps) R cut j from fun i hi=>A i (by omega)).ends (j-(k+1)) (k+1) (by omega);omega
    have h8:=A.ends (n-(k+1)) (k+1) (by omega);have h9:=C1.out;have h10:=C0.out;rcases e with h|⟨h4,h5⟩
    ·have:=A.cuts n Af;omega
    omega
   case measure=>simp[intOf];omega
  obtain rfl:k=n:=by omega
  have hps:=Hn.out;have e1:ps.take k=ps:=List.take_of_length_le (by omega);have e2:Ec k0 k ps=Fu k0 ps:=by unfold Ec;rw[e1,List.drop_eq_nil_of_le (by omega),List.append_nil]
  rw[e2]at A;have AH:=hide A;have TH:=hide T;have KH:=hide kr;have e3:=hide e1;have hd2:decide ((k:Int)<(k:Int))=false:=by simp
  clear A T kr e1 e2 hps;go_wp2;go_ret;refine⟨by rw[e3.out];rfl,⟨R,cut,TH.out,by rw[Dq,Hn.out];exact hRl,V0.out,C0.out,by rw[Dq,Hn.out];exact C1.out,by rw[Dq,Hn.out];exact AH.out⟩,KH.out⟩
end
end Go.Proofs.YtcjmcgolgbkknaaGreatDoor
