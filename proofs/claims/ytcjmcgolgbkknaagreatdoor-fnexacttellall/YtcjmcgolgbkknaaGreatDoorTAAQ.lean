/- Lemmas, as stated. -/
import Derived.Test.YtcjmcgolgbkknaaGreatDoorTAAP
set_option maxRecDepth 100000
set_option maxHeartbeats 16000000
set_option linter.unusedSectionVars false
set_option linter.unusedSimpArgs false
namespace Go.Proofs.YtcjmcgolgbkknaaGreatDoor
section
open Go Go.RowKit
variable [∀(a b c d:Int),Decidable (BG a b c d)] [∀(n f:Int),Decidable (A_ n f)] [∀(a b c d:Nat),Decidable (DZ a b c d)] [∀(x:T4),Decidable (Du x)]
theorem OG.cell{T:TypeId}{m:Nat}{w:World}{base g cap n:Nat}{rows:List (List Value)}{k:Nat}{r:List Value}(h:OG T m w base (.slice (some ⟨g,0,none⟩) n cap) (rows.set k r))(hn:rows.length=n)(hk:k<rows.length)(j:Nat){v:Value}(hv:r[j]? =some v):w.cell? ⟨g,k*m+j,none⟩=some v:=by
 have hl:(rows.set k r).length=n:=by rw[List.length_set,hn]
 have h1:=(OG.at (g:=g) (cap:=cap) (by rw[hl];exact h) k (by rw[List.length_set];exact hk)).1;rw[List.getD_eq_getElem?_getD,List.getElem?_set_self hk]at h1;exact h1 j v hv
theorem OG.Tp{T:TypeId}{m:Nat}{w:World}{base g cap n:Nat}{rows:List (List Value)}{k:Nat}{r:List Value}(h:OG T m w base (.slice (some ⟨g,0,none⟩) n cap) (rows.set k r))(hn:rows.length=n)(j:Nat):w.frozen? ⟨g,j,none⟩=false:=by
 have h1:=h.row;rw[List.length_set,hn]at h1;exact h1.frozenAt j
theorem gu{rows:List (List Value)}{k:Nat}{r:List Value}(h:rows.getD k []=r)(hk:k<rows.length):rows.set k r=rows:=by
 rw[←h,List.getD_eq_getElem?_getD,List.getElem?_eq_getElem hk];simp
theorem QC(lo hi:Nat)(v:Value)(ps:List Ba)(k0:Nat)(w:World)(hn:ps.length≤4194304)(hs:∀j,j<ps.length→(ps.getD j AL).2.bw.length≤4194304∧(ps.getD j AL).2.pw.length≤4194304∧(ps.getD j AL).2.qw.length≤4194304)(hp:Bp k0 ps≤100000000)(h:Pn w lo hi v ps):
 Calls Tryz.prog 50 #[v,.int .i64 k0] w fun e w'=>e= .returned (.int .i64 (Bp k0 ps))∧Pn w' lo hi v (FI k0 ps)∧Kp w w' (fun b=>lo≤b∧b<hi):=by
 obtain⟨va,vc,rfl⟩:=h.form;obtain⟨n,hn'⟩:∃n,ps.length=n:=⟨_,rfl⟩
 have Hn:=hide hn';obtain⟨R0,cut,T00,hR0,hv0,hc0,hc1,A0⟩:=h;rw[hn']at hn T00 hv0 hc1 A0 hR0⊢;have HS:=hide hs;have C0:=hide hc0;have C1:=hide hc1;have V0:=hide hv0;have xO:=hide T00;have A0h:=hide A0;clear hs hn' hc0 hc1 hv0 T00 A0;go_enter Tryz.func50,Tryz.ntmps50
 go_wp2
 go_loopw [1,5] (fun c i wr=>∃(k:Nat)(R:List (List Value)),k≤n∧i= .int .i64 k∧c= .int .i64 ((Bp k0 (ps.take k):Nat):Int)∧OG 138 18 wr lo (.slice va n vc) R∧R.length=n∧JN wr (EF k0 k ps) R cut n∧Kp w wr (fun b=>lo≤b∧b<hi)) (fun _ i _=>n-(intOf i).toNat)
 case atStart=>exact⟨0,R0,Nat.zero_le _,rfl,by simp[Bp],xO.out,hR0,by simpa[EF,FI]using A0h.out,Kp.refl _ _⟩
 case round=>
  clear xO A0h hR0;obtain⟨k,R,hk,rfl,rfl,T,hRl,A,kr⟩:=hrel;have hpk:=KP k0 ps k;by_cases hlt:k<n
  ·have hkx:k<ps.length:=by have:=Hn.out;omega
   have Iy:k<R.length:=by omega
   have hpt:=Ol k0 ps k hkx;have dz:=KP k0 ps (k+1);have hsz:=HS.out k hkx;obtain⟨cc,a,b,c,er,m0,lb⟩:=A k hlt;rw[aa k0 k ps hkx]at er m0;have hse:=JC k0 k ps hkx;obtain⟨x,hx⟩:∃x,ps.getD k AL=x:=⟨_,rfl⟩
   rw[hx]at er m0 hpt hsz hse;have Hx:=hide hx;clear hx;obtain⟨m,t⟩:=x;simp only at er m0 hsz;obtain⟨p,q',oa,ta,ob,tb,oc,hlp,hpq⟩:=m0
   obtain⟨g,rfl⟩:∃g,va=some ⟨g,0,none⟩:=by
    rcases T.row.2 with⟨e,h0⟩|⟨g,cap,cur,e,_⟩
    ·omega
    injection e with e1 e2 e3;exact⟨g,e1⟩
   have hg0:=V0.out g rfl;have wZ:=(T.lt g rfl).1;have T0:OG 138 18 wr lo (.slice (some ⟨g,0,none⟩) n vc) (R.set k (FR m t a b c)):=by rw[gu er Iy];exact T
   have EA:=hide T.each;have hcut:=A.cuts k (by omega);have la:=World.ownsRow.lt oa;have dE:=World.ownsRow.lt ob;have lc:=World.ownsRow.lt oc;obtain⟨ua,uc,rfl⟩:=oa.form;obtain⟨wa,wc,rfl⟩:=ob.form;obtain⟨xa,xc,rfl⟩:=oc.form;obtain⟨xl,hxl⟩:∃l,t.bw.length=l:=⟨_,rfl⟩
   obtain⟨yl,hyl⟩:∃l,t.pw.length=l:=⟨_,rfl⟩
   obtain⟨zl,hzl⟩:∃l,t.qw.length=l:=⟨_,rfl⟩
   have HXL:=hide hxl;have HYL:=hide hyl;have HZL:=hide hzl;rw[hxl]at T0 hsz oa la ta lb;rw[hyl]at T0 hsz ob dE tb lb;rw[hzl]at T0 hsz oc lc lb;have AH:=hide A;have LB:=hide lb;have ER:=hide er;have xU:=hide hse;have TT:=hide T;clear A T hse er lb hxl hyl hzl;obtain⟨q,hq⟩:∃q,Bp k0 (ps.take k)=q:=⟨_,rfl⟩
   rw[hq]at hpk hpt xU⊢;have HQ:=hide hq;clear hq;unfold kF at hpt;simp only at hpt;rw[HXL.out,HYL.out,HZL.out]at hpt;obtain⟨q1,hq1⟩:∃x,q+6+xl=x:=⟨_,rfl⟩
   obtain⟨q2,hq2⟩:∃x,q1+2+yl=x:=⟨_,rfl⟩
   obtain⟨q3,hq3⟩:∃x,q2+2+zl=x:=⟨_,rfl⟩
   obtain⟨Ps,YN⟩:∃x,markT (q+3)=x:=⟨_,rfl⟩
   have MT0:Hid (∀w,Calls Tryz.prog 109 #[.int .i64 (((q:Nat):Int)+1+1+1)] w fun e w'=>e= .returned (.string Ps)∧Below w.heap.size w w'):=hide fun w=>by
    have h:=Bq (q+3) w (by omega) (by omega);rw[YN,show((q+3:Nat):Int)=((q:Nat):Int)+1+1+1 by omega]at h;exact h
   have HM0:=hide YN;clear YN;obtain⟨SC,YM⟩:∃x,markT (q+5)=x:=⟨_,rfl⟩
   have MT1:Hid (∀w,Calls Tryz.prog 109 #[.int .i64 (((q:Nat):Int)+1+1+1+1+1)] w fun e w'=>e= .returned (.string SC)∧Below w.heap.size w w'):=hide fun w=>by
    have h:=Bq (q+5) w (by omega) (by omega);rw[YM,show((q+5:Nat):Int)=((q:Nat):Int)+1+1+1+1+1 by omega]at h;exact h
   have HM1:=hide YM;clear YM;obtain⟨VG,YL⟩:∃x,markT (q1+1)=x:=⟨_,rfl⟩
   have MT2:Hid (∀w,Calls Tryz.prog 109 #[.int .i64 (((q1:Nat):Int)+1)] w fun e w'=>e= .returned (.string VG)∧Below w.heap.size w w'):=hide fun w=>by
    have h:=Bq (q1+1) w (by omega) (by omega);rw[YL,show((q1+1:Nat):Int)=((q1:Nat):Int)+1 by omega]at h;exact h
   have HM2:=hide YL;clear YL;obtain⟨Xp,YK⟩:∃x,markT (q2+1)=x:=⟨_,rfl⟩
   have MT3:Hid (∀w,Calls Tryz.prog 109 #[.int .i64 (((q2:Nat):Int)+1)] w fun e w'=>e= .returned (.string Xp)∧Below w.heap.size w w'):=hide fun w=>by
    have h:=Bq (q2+1) w (by omega) (by omega);rw[YK,show((q2+1:Nat):Int)=((q2:Nat):Int)+1 by omega]at h;exact h
   have HM3:=hide YK;clear YK
   have MK0:Hid (∀w,OI w (cut k) (.slice ua xl uc) t.bw→Calls Tryz.prog 110 #[.slice ua xl uc,.int .i64 (((q:Nat):Int)+1+1+1+1+1+1)] w fun e w'=>e= .returned (.int .i64 ((q1:Nat):Int))∧OI w' (cut k) (.slice ua xl uc) (A8 (q+6) xl)∧w.grownBy w' (Value.ownBlock (.slice ua xl uc))):=hide fun w h=>by
    have hl:=HXL.out;have h:=Fj (cut k) (q+6) (.slice ua xl uc) t.bw w (by omega) (by omega) h;rw[hl,show((q+6:Nat):Int)=((q:Nat):Int)+1+1+1+1+1+1 by omega,show((q:Nat):Int)+1+1+1+1+1+1+((xl:Nat):Int)=((q1:Nat):Int) by omega]at h;exact h
   have MK1:Hid (∀w,OI w (p) (.slice wa yl wc) t.pw→Calls Tryz.prog 110 #[.slice wa yl wc,.int .i64 (((q1:Nat):Int)+1+1)] w fun e w'=>e= .returned (.int .i64 ((q2:Nat):Int))∧OI w' (p) (.slice wa yl wc) (A8 (q1+2) yl)∧w.grownBy w' (Value.ownBlock (.slice wa yl wc))):=hide fun w h=>by
    have hl:=HYL.out;have h:=Fj (p) (q1+2) (.slice wa yl wc) t.pw w (by omega) (by omega) h;rw[hl,show((q1+2:Nat):Int)=((q1:Nat):Int)+1+1 by omega,show((q1:Nat):Int)+1+1+((yl:Nat):Int)=((q2:Nat):Int) by omega]at h;exact h
   have MK2:Hid (∀w,OI w (q') (.slice xa zl xc) t.qw→Calls Tryz.prog 110 #[.slice xa zl xc,.int .i64 (((q2:Nat):Int)+1+1)] w fun e w'=>e= .returned (.int .i64 ((q3:Nat):Int))∧OI w' (q') (.slice xa zl xc) (A8 (q2+2) zl)∧w.grownBy w' (Value.ownBlock (.slice xa zl xc))):=hide fun w h=>by
    have hl:=HZL.out;have h:=Fj (q') (q2+2) (.slice xa zl xc) t.qw w (by omega) (by omega) h;rw[hl,show((q2+2:Nat):Int)=((q2:Nat):Int)+1+1 by omega,show((q2:Nat):Int)+1+1+((zl:Nat):Int)=((q3:Nat):Int) by omega]at h;exact h
   have KR:Kp wr wr (fun b=>b=g∨(cut k≤b∧b<cut (k+1))):=Kp.refl _ _;have HB:q3+5=Bp k0 (ps.take (k+1)):=by omega
   have HPN:=hide HB;have hb3:q3+5≤100000000:=by omega
   have hb0:q+6≤100000000:=by omega
   have hb1:q1+2≤100000000:=by omega
   have hb2:q2+2≤100000000:=by omega
   have H1:=hide hq1;have H2:=hide hq2;have H3:=hide hq3;have WU:=EA.out;clear HB hpt hq1 hq2 hq3 hpk dz EA;have d0:wr.cell? ⟨g,k*18,none⟩=some (.int .i64 m):=OG.cell T0 hRl Iy 0 rfl;have f0:wr.frozen? ⟨g,k*18,none⟩=false:=OG.Tp T0 hRl (k*18+0);have d1:wr.cell? ⟨g,k*18+1,none⟩=some (.int .i64 t.k):=OG.cell T0 hRl Iy 1 rfl;have f1:wr.frozen? ⟨g,k*18+1,none⟩=false:=OG.Tp T0 hRl (k*18+1);have d2:wr.cell? ⟨g,k*18+1+1,none⟩=some (.int .i64 t.vw):=OG.cell T0 hRl Iy 2 rfl;have f2:wr.frozen? ⟨g,k*18+1+1,none⟩=false:=OG.Tp T0 hRl (k*18+2);go_wp2_with fail
   have U0:OG 138 18 (wr.setCell ⟨g,k*18,none⟩ (.int .i64 (((q:Nat):Int)))) lo (.slice (some ⟨g,0,none⟩) n vc) (R.set k [.int .i64 (((q:Nat):Int)),.int .i64 t.k,.int .i64 t.vw,.string t.bn,.int .i64 t.bv,.string t.bs,.slice ua xl uc,.int .i64 t.pv,.string t.ps,.slice wa yl wc,.int .i64 t.qv,.string t.qs,.slice xa zl xc,.int .i64 t.wh,.int .i64 t.fr,.int .i64 t.tu,.int .i64 t.am,.int .i64 t.no]):=OG.put T0 WU hRl Iy 0 (by decide) (.int .i64 (((q:Nat):Int)));have U1:OG 138 18 ((wr.setCell ⟨g,k*18,none⟩ (.int .i64 (((q:Nat):Int)))).setCell ⟨g,k*18+1,none⟩ (.int .i64 (((q:Nat):Int)+1))) lo (.slice (some ⟨g,0,none⟩) n vc) (R.set k [.int .i64 (((q:Nat):Int)),.int .i64 (((q:Nat):Int)+1),.int .i64 t.vw,.string t.bn,.int .i64 t.bv,.string t.bs,.slice ua xl uc,.int .i64 t.pv,.string t.ps,.slice wa yl wc,.int .i64 t.qv,.string t.qs,.slice xa zl xc,.int .i64 t.wh,.int .i64 t.fr,.int .i64 t.tu,.int .i64 t.am,.int .i64 t.no]):=OG.put U0 WU hRl Iy 1 (by decide) (.int .i64 (((q:Nat):Int)+1));have U2:OG 138 18 (((wr.setCell ⟨g,k*18,none⟩ (.int .i64 (((q:Nat):Int)))).setCell ⟨g,k*18+1,none⟩ (.int .i64 (((q:Nat):Int)+1))).setCell ⟨g,k*18+1+1,none⟩ (.int .i64 (((q:Nat):Int)+1+1))) lo (.slice (some ⟨g,0,none⟩) n vc) (R.set k [.int .i64 (((q:Nat):Int)),.int .i64 (((q:Nat):Int)+1),.int .i64 (((q:Nat):Int)+1+1),.string t.bn,.int .i64 t.bv,.string t.bs,.slice ua xl uc,.int .i64 t.pv,.string t.ps,.slice wa yl wc,.int .i64 t.qv,.string t.qs,.slice xa zl xc,.int .i64 t.wh,.int .i64 t.fr,.int .i64 t.tu,.int .i64 t.am,.int .i64 t.no]):=OG.put U1 WU hRl Iy 2 (by decide) (.int .i64 (((q:Nat):Int)+1+1));obtain⟨w1,hw⟩:∃y,(((wr.setCell ⟨g,k*18,none⟩ (.int .i64 (((q:Nat):Int)))).setCell ⟨g,k*18+1,none⟩ (.int .i64 (((q:Nat):Int)+1))).setCell ⟨g,k*18+1+1,none⟩ (.int .i64 (((q:Nat):Int)+1+1)))=y:=⟨_,rfl⟩
   rw[hw];have T1:=hw▸U2;have kN:Kp wr w1 (fun b=>b=g):=hw▸((AB _ _ _ _).trans (AB _ _ _ _)).trans (AB _ _ _ _);replace oa:=oa.kp kN (fun j hj e=>by have:=la j hj;omega);replace ob:=ob.kp kN (fun j hj e=>by have:=dE j hj;omega);replace oc:=oc.kp kN (fun j hj e=>by have:=lc j hj;omega);replace KR:=KR.trans (kN.mono (fun b e=>Or.inl e));clear kN hw T0 U0 U1 U2 d0 f0 d1 f1 d2 f2;refine(MT0.out _).mono ?_;rintro e w2 ⟨rfl,bb⟩;have T2:=T1.below bb;replace oa:=oa.below bb;replace ob:=ob.below bb;replace oc:=oc.below bb;replace KR:=KR.trans (Below.BJ bb _);clear bb T1;have d3:w2.cell? ⟨g,k*18+1+2,none⟩=some (.string t.bn):=OG.cell T2 hRl Iy 3 rfl;have f3:w2.frozen? ⟨g,k*18+1+2,none⟩=false:=OG.Tp T2 hRl (k*18+3);have d4:w2.cell? ⟨g,k*18+1+2+1,none⟩=some (.int .i64 t.bv):=OG.cell T2 hRl Iy 4 rfl;have f4:w2.frozen? ⟨g,k*18+1+2+1,none⟩=false:=OG.Tp T2 hRl (k*18+4);go_wp2_with fail
   have U0:OG 138 18 (w2.setCell ⟨g,k*18+1+2,none⟩ (.string Ps)) lo (.slice (some ⟨g,0,none⟩) n vc) (R.set k [.int .i64 (((q:Nat):Int)),.int .i64 (((q:Nat):Int)+1),.int .i64 (((q:Nat):Int)+1+1),.string Ps,.int .i64 t.bv,.string t.bs,.slice ua xl uc,.int .i64 t.pv,.string t.ps,.slice wa yl wc,.int .i64 t.qv,.string t.qs,.slice xa zl xc,.int .i64 t.wh,.int .i64 t.fr,.int .i64 t.tu,.int .i64 t.am,.int .i64 t.no]):=OG.put T2 WU hRl Iy 3 (by decide) (.string Ps);have U1:OG 138 18 ((w2.setCell ⟨g,k*18+1+2,none⟩ (.string Ps)).setCell ⟨g,k*18+1+2+1,none⟩ (.int .i64 (((q:Nat):Int)+1+1+1+1))) lo (.slice (some ⟨g,0,none⟩) n vc) (R.set k [.int .i64 (((q:Nat):Int)),.int .i64 (((q:Nat):Int)+1),.int .i64 (((q:Nat):Int)+1+1),.string Ps,.int .i64 (((q:Nat):Int)+1+1+1+1),.string t.bs,.slice ua xl uc,.int .i64 t.pv,.string t.ps,.slice wa yl wc,.int .i64 t.qv,.string t.qs,.slice xa zl xc,.int .i64 t.wh,.int .i64 t.fr,.int .i64 t.tu,.int .i64 t.am,.int .i64 t.no]):=OG.put U0 WU hRl Iy 4 (by decide) (.int .i64 (((q:Nat):Int)+1+1+1+1));obtain⟨w3,hw⟩:∃y,((w2.setCell ⟨g,k*18+1+2,none⟩ (.string Ps)).setCell ⟨g,k*18+1+2+1,none⟩ (.int .i64 (((q:Nat):Int)+1+1+1+1)))=y:=⟨_,rfl⟩
   rw[hw];have T3:=hw▸U1;have kN:Kp w2 w3 (fun b=>b=g):=hw▸(AB _ _ _ _).trans (AB _ _ _ _);replace oa:=oa.kp kN (fun j hj e=>by have:=la j hj;omega);replace ob:=ob.kp kN (fun j hj e=>by have:=dE j hj;omega);replace oc:=oc.kp kN (fun j hj e=>by have:=lc j hj;omega);replace KR:=KR.trans (kN.mono (fun b e=>Or.inl e));clear kN hw T2 U0 U1 d3 f3 d4 f4;refine(MT1.out _).mono ?_;rintro e w4 ⟨rfl,bb⟩;have T4:=T3.below bb;replace oa:=oa.below bb;replace ob:=ob.below bb;replace oc:=oc.below bb;replace KR:=KR.trans (Below.BJ bb _);clear bb T3;have d5:w4.cell? ⟨g,k*18+1+2+1+1,none⟩=some (.string t.bs):=OG.cell T4 hRl Iy 5 rfl;have f5:w4.frozen? ⟨g,k*18+1+2+1+1,none⟩=false:=OG.Tp T4 hRl (k*18+5);have d6:w4.cell? ⟨g,k*18+1+2+1+2,none⟩=some (.slice ua xl uc):=OG.cell T4 hRl Iy 6 rfl;have f6:w4.frozen? ⟨g,k*18+1+2+1+2,none⟩=false:=OG.Tp T4 hRl (k*18+6);go_wp2_with fail
   have U0:OG 138 18 (w4.setCell ⟨g,k*18+1+2+1+1,none⟩ (.string SC)) lo (.slice (some ⟨g,0,none⟩) n vc) (R.set k [.int .i64 (((q:Nat):Int)),.int .i64 (((q:Nat):Int)+1),.int .i64 (((q:Nat):Int)+1+1),.string Ps,.int .i64 (((q:Nat):Int)+1+1+1+1),.string SC,.slice ua xl uc,.int .i64 t.pv,.string t.ps,.slice wa yl wc,.int .i64 t.qv,.string t.qs,.slice xa zl xc,.int .i64 t.wh,.int .i64 t.fr,.int .i64 t.tu,.int .i64 t.am,.int .i64 t.no]):=OG.put T4 WU hRl Iy 5 (by decide) (.string SC);obtain⟨w5,hw⟩:∃y,(w4.setCell ⟨g,k*18+1+2+1+1,none⟩ (.string SC))=y:=⟨_,rfl⟩
   rw[hw];have T5:=hw▸U0;have kN:Kp w4 w5 (fun b=>b=g):=hw▸AB _ _ _ _;replace oa:=oa.kp kN (fun j hj e=>by have:=la j hj;omega);replace ob:=ob.kp kN (fun j hj e=>by have:=dE j hj;omega);replace oc:=oc.kp kN (fun j hj e=>by have:=lc j hj;omega);replace KR:=KR.trans (kN.mono (fun b e=>Or.inl e));clear kN hw T4 U0 d5 f5 d6 f6;refine(MK0.out _ oa).mono ?_;rintro e w6 ⟨rfl,o2,hg⟩;have kG:=CE hg;have T6:=T5.kp kG (fun j hj e=>by have h1:=la j e;have h2:some g=some j:=hj;injection h2 with h2;omega);replace ob:=ob.kp kG (fun j hj e=>by have h1:=ta j e;have h2:=dE j hj;omega);replace oc:=oc.kp kG (fun j hj e=>by have h1:=ta j e;have h2:=lc j hj;omega);replace oa:=o2;replace KR:=KR.trans (kG.mono (fun b e=>Or.inr ⟨by have:=la b e;omega,LB.out b (Or.inl e)⟩));clear kG hg T5;have d7:w6.cell? ⟨g,k*18+1+6,none⟩=some (.int .i64 t.pv):=OG.cell T6 hRl Iy 7 rfl;have f7:w6.frozen? ⟨g,k*18+1+6,none⟩=false:=OG.Tp T6 hRl (k*18+7);go_wp2_with fail
   have U0:OG 138 18 (w6.setCell ⟨g,k*18+1+6,none⟩ (.int .i64 (((q1:Nat):Int)))) lo (.slice (some ⟨g,0,none⟩) n vc) (R.set k [.int .i64 (((q:Nat):Int)),.int .i64 (((q:Nat):Int)+1),.int .i64 (((q:Nat):Int)+1+1),.string Ps,.int .i64 (((q:Nat):Int)+1+1+1+1),.string SC,.slice ua xl uc,.int .i64 (((q1:Nat):Int)),.string t.ps,.slice wa yl wc,.int .i64 t.qv,.string t.qs,.slice xa zl xc,.int .i64 t.wh,.int .i64 t.fr,.int .i64 t.tu,.int .i64 t.am,.int .i64 t.no]):=OG.put T6 WU hRl Iy 7 (by decide) (.int .i64 (((q1:Nat):Int)));obtain⟨w7,hw⟩:∃y,(w6.setCell ⟨g,k*18+1+6,none⟩ (.int .i64 (((q1:Nat):Int))))=y:=⟨_,rfl⟩
   rw[hw];have T7:=hw▸U0;have kN:Kp w6 w7 (fun b=>b=g):=hw▸AB _ _ _ _;replace oa:=oa.kp kN (fun j hj e=>by have:=la j hj;omega);replace ob:=ob.kp kN (fun j hj e=>by have:=dE j hj;omega);replace oc:=oc.kp kN (fun j hj e=>by have:=lc j hj;omega);replace KR:=KR.trans (kN.mono (fun b e=>Or.inl e));clear kN hw T6 U0 d7 f7;refine(MT2.out _).mono ?_;rintro e w8 ⟨rfl,bb⟩;have T8:=T7.below bb;replace oa:=oa.below bb;replace ob:=ob.below bb;replace oc:=oc.below bb;replace KR:=KR.trans (Below.BJ bb _);clear bb T7;have d8:w8.cell? ⟨g,k*18+1+6+1,none⟩=some (.string t.ps):=OG.cell T8 hRl Iy 8 rfl;have f8:w8.frozen? ⟨g,k*18+1+6+1,none⟩=false:=OG.Tp T8 hRl (k*18+8);have d9:w8.cell? ⟨g,k*18+1+6+2,none⟩=some (.slice wa yl wc):=OG.cell T8 hRl Iy 9 rfl;have f9:w8.frozen? ⟨g,k*18+1+6+2,none⟩=false:=OG.Tp T8 hRl (k*18+9);go_wp2_with fail
   have U0:OG 138 18 (w8.setCell ⟨g,k*18+1+6+1,none⟩ (.string VG)) lo (.slice (some ⟨g,0,none⟩) n vc) (R.set k [.int .i64 (((q:Nat):Int)),.int .i64 (((q:Nat):Int)+1),.int .i64 (((q:Nat):Int)+1+1),.string Ps,.int .i64 (((q:Nat):Int)+1+1+1+1),.string SC,.slice ua xl uc,.int .i64 (((q1:Nat):Int)),.string VG,.slice wa yl wc,.int .i64 t.qv,.string t.qs,.slice xa zl xc,.int .i64 t.wh,.int .i64 t.fr,.int .i64 t.tu,.int .i64 t.am,.int .i64 t.no]):=OG.put T8 WU hRl Iy 8 (by decide) (.string VG);obtain⟨w9,hw⟩:∃y,(w8.setCell ⟨g,k*18+1+6+1,none⟩ (.string VG))=y:=⟨_,rfl⟩
   rw[hw];have T9:=hw▸U0;have kN:Kp w8 w9 (fun b=>b=g):=hw▸AB _ _ _ _;replace oa:=oa.kp kN (fun j hj e=>by have:=la j hj;omega);replace ob:=ob.kp kN (fun j hj e=>by have:=dE j hj;omega);replace oc:=oc.kp kN (fun j hj e=>by have:=lc j hj;omega);replace KR:=KR.trans (kN.mono (fun b e=>Or.inl e));clear kN hw T8 U0 d8 f8 d9 f9;refine(MK1.out _ ob).mono ?_;rintro e Tx ⟨rfl,o2,hg⟩;have kG:=CE hg;have zH:=T9.kp kG (fun j hj e=>by have h1:=dE j e;have h2:some g=some j:=hj;injection h2 with h2;omega);replace oa:=oa.kp kG (fun j hj e=>by have h1:=ta j hj;have h2:=dE j e;omega);replace oc:=oc.kp kG (fun j hj e=>by have h1:=tb j e;have h2:=lc j hj;omega);replace ob:=o2;replace KR:=KR.trans (kG.mono (fun b e=>Or.inr ⟨by have:=dE b e;omega,LB.out b (Or.inr (Or.inl e))⟩));clear kG hg T9;have d10:Tx.cell? ⟨g,k*18+1+9,none⟩=some (.int .i64 t.qv):=OG.cell zH hRl Iy 10 rfl;have f10:Tx.frozen? ⟨g,k*18+1+9,none⟩=false:=OG.Tp zH hRl (k*18+10);go_wp2_with fail
   have U0:OG 138 18 (Tx.setCell ⟨g,k*18+1+9,none⟩ (.int .i64 (((q2:Nat):Int)))) lo (.slice (some ⟨g,0,none⟩) n vc) (R.set k [.int .i64 (((q:Nat):Int)),.int .i64 (((q:Nat):Int)+1),.int .i64 (((q:Nat):Int)+1+1),.string Ps,.int .i64 (((q:Nat):Int)+1+1+1+1),.string SC,.slice ua xl uc,.int .i64 (((q1:Nat):Int)),.string VG,.slice wa yl wc,.int .i64 (((q2:Nat):Int)),.string t.qs,.slice xa zl xc,.int .i64 t.wh,.int .i64 t.fr,.int .i64 t.tu,.int .i64 t.am,.int .i64 t.no]):=OG.put zH WU hRl Iy 10 (by decide) (.int .i64 (((q2:Nat):Int)));obtain⟨fT,hw⟩:∃y,(Tx.setCell ⟨g,k*18+1+9,none⟩ (.int .i64 (((q2:Nat):Int))))=y:=⟨_,rfl⟩
   rw[hw];have T11:=hw▸U0;have kN:Kp Tx fT (fun b=>b=g):=hw▸AB _ _ _ _;replace oa:=oa.kp kN (fun j hj e=>by have:=la j hj;omega);replace ob:=ob.kp kN (fun j hj e=>by have:=dE j hj;omega);replace oc:=oc.kp kN (fun j hj e=>by have:=lc j hj;omega);replace KR:=KR.trans (kN.mono (fun b e=>Or.inl e));clear kN hw zH U0 d10 f10;refine(MT3.out _).mono ?_;rintro e ou ⟨rfl,bb⟩;have tZ:=T11.below bb;replace oa:=oa.below bb;replace ob:=ob.below bb;replace oc:=oc.below bb;replace KR:=KR.trans (Below.BJ bb _);clear bb T11;have d11:ou.cell? ⟨g,k*18+1+9+1,none⟩=some (.string t.qs):=OG.cell tZ hRl Iy 11 rfl;have f11:ou.frozen? ⟨g,k*18+1+9+1,none⟩=false:=OG.Tp tZ hRl (k*18+11);have d12:ou.cell? ⟨g,k*18+1+9+2,none⟩=some (.slice xa zl xc):=OG.cell tZ hRl Iy 12 rfl;have f12:ou.frozen? ⟨g,k*18+1+9+2,none⟩=false:=OG.Tp tZ hRl (k*18+12);go_wp2_with fail
   have U0:OG 138 18 (ou.setCell ⟨g,k*18+1+9+1,none⟩ (.string Xp)) lo (.slice (some ⟨g,0,none⟩) n vc) (R.set k [.int .i64 (((q:Nat):Int)),.int .i64 (((q:Nat):Int)+1),.int .i64 (((q:Nat):Int)+1+1),.string Ps,.int .i64 (((q:Nat):Int)+1+1+1+1),.string SC,.slice ua xl uc,.int .i64 (((q1:Nat):Int)),.string VG,.slice wa yl wc,.int .i64 (((q2:Nat):Int)),.string Xp,.slice xa zl xc,.int .i64 t.wh,.int .i64 t.fr,.int .i64 t.tu,.int .i64 t.am,.int .i64 t.no]):=OG.put tZ WU hRl Iy 11 (by decide) (.string Xp);obtain⟨w13,hw⟩:∃y,(ou.setCell ⟨g,k*18+1+9+1,none⟩ (.string Xp))=y:=⟨_,rfl⟩
   rw[hw];have T13:=hw▸U0;have kN:Kp ou w13 (fun b=>b=g):=hw▸AB _ _ _ _;replace oa:=oa.kp kN (fun j hj e=>by have:=la j hj;omega);replace ob:=ob.kp kN (fun j hj e=>by have:=dE j hj;omega);replace oc:=oc.kp kN (fun j hj e=>by have:=lc j hj;omega);replace KR:=KR.trans (kN.mono (fun b e=>Or.inl e));clear kN hw tZ U0 d11 f11 d12 f12;refine(MK2.out _ oc).mono ?_;rintro e EP ⟨rfl,o2,hg⟩;have kG:=CE hg;have fZ:=T13.kp kG (fun j hj e=>by have h1:=lc j e;have h2:some g=some j:=hj;injection h2 with h2;omega);replace oa:=oa.kp kG (fun j hj e=>by have h1:=ta j hj;have h2:=lc j e;omega);replace ob:=ob.kp kG (fun j hj e=>by have h1:=tb j hj;have h2:=lc j e;omega);replace oc:=o2;replace KR:=KR.trans (kG.mono (fun b e=>Or.inr ⟨by have:=lc b e;omega,LB.out b (Or.inr (Or.inr e))⟩));clear kG hg T13;have d13:EP.cell? ⟨g,k*18+1+12,none⟩=some (.int .i64 t.wh):=OG.cell fZ hRl Iy 13 rfl;have f13:EP.frozen? ⟨g,k*18+1+12,none⟩=false:=OG.Tp fZ hRl (k*18+13);have d14:EP.cell? ⟨g,k*18+1+13,none⟩=some (.int .i64 t.fr):=OG.cell fZ hRl Iy 14 rfl;have f14:EP.frozen? ⟨g,k*18+1+13,none⟩=false:=OG.Tp fZ hRl (k*18+14);have d15:EP.cell? ⟨g,k*18+1+13+1,none⟩=some (.int .i64 t.tu):=OG.cell fZ hRl Iy 15 rfl;have f15:EP.frozen? ⟨g,k*18+1+13+1,none⟩=false:=OG.Tp fZ hRl (k*18+15);have d16:EP.cell? ⟨g,k*18+1+13+2,none⟩=some (.int .i64 t.am):=OG.cell fZ hRl Iy 16 rfl;have f16:EP.frozen? ⟨g,k*18+1+13+2,none⟩=false:=OG.Tp fZ hRl (k*18+16);have d17:EP.cell? ⟨g,k*18+1+13+3,none⟩=some (.int .i64 t.no):=OG.cell fZ hRl Iy 17 rfl;have f17:EP.frozen? ⟨g,k*18+1+13+3,none⟩=false:=OG.Tp fZ hRl (k*18+17);have U0:OG 138 18 (EP.setCell ⟨g,k*18+1+12,none⟩ (.int .i64 (((q3:Nat):Int)))) lo (.slice (some ⟨g,0,none⟩) n vc) (R.set k [.int .i64 (((q:Nat):Int)),.int .i64 (((q:Nat):Int)+1),.int .i64 (((q:Nat):Int)+1+1),.string Ps,.int .i64 (((q:Nat):Int)+1+1+1+1),.string SC,.slice ua xl uc,.int .i64 (((q1:Nat):Int)),.string VG,.slice wa yl wc,.int .i64 (((q2:Nat):Int)),.string Xp,.slice xa zl xc,.int .i64 (((q3:Nat):Int)),.int .i64 t.fr,.int .i64 t.tu,.int .i64 t.am,.int .i64 t.no]):=OG.put fZ WU hRl Iy 13 (by decide) (.int .i64 (((q3:Nat):Int)));have U1:OG 138 18 ((EP.setCell ⟨g,k*18+1+12,none⟩ (.int .i64 (((q3:Nat):Int)))).setCell ⟨g,k*18+1+13,none⟩ (.int .i64 (((q3:Nat):Int)+1))) lo (.slice (some ⟨g,0,none⟩) n vc) (R.set k [.int .i64 (((q:Nat):Int)),.int .i64 (((q:Nat):Int)+1),.int .i64 (((q:Nat):Int)+1+1),.string Ps,.int .i64 (((q:Nat):Int)+1+1+1+1),.string SC,.slice ua xl uc,.int .i64 (((q1:Nat):Int)),.string VG,.slice wa yl wc,.int .i64 (((q2:Nat):Int)),.string Xp,.slice xa zl xc,.int .i64 (((q3:Nat):Int)),.int .i64 (((q3:Nat):Int)+1),.int .i64 t.tu,.int .i64 t.am,.int .i64 t.no]):=OG.put U0 WU hRl Iy 14 (by decide) (.int .i64 (((q3:Nat):Int)+1));have U2:OG 138 18 (((EP.setCell ⟨g,k*18+1+12,none⟩ (.int .i64 (((q3:Nat):Int)))).setCell ⟨g,k*18+1+13,none⟩ (.int .i64 (((q3:Nat):Int)+1))).setCell ⟨g,k*18+1+13+1,none⟩ (.int .i64 (((q3:Nat):Int)+1+1))) lo (.slice (some ⟨g,0,none⟩) n vc) (R.set k [.int .i64 (((q:Nat):Int)),.int .i64 (((q:Nat):Int)+1),.int .i64 (((q:Nat):Int)+1+1),.string Ps,.int .i64 (((q:Nat):Int)+1+1+1+1),.string SC,.slice ua xl uc,.int .i64 (((q1:Nat):Int)),.string VG,.slice wa yl wc,.int .i64 (((q2:Nat):Int)),.string Xp,.slice xa zl xc,.int .i64 (((q3:Nat):Int)),.int .i64 (((q3:Nat):Int)+1),.int .i64 (((q3:Nat):Int)+1+1),.int .i64 t.am,.int .i64 t.no]):=OG.put U1 WU hRl Iy 15 (by decide) (.int .i64 (((q3:Nat):Int)+1+1));have U3:OG 138 18 ((((EP.setCell ⟨g,k*18+1+12,none⟩ (.int .i64 (((q3:Nat):Int)))).setCell ⟨g,k*18+1+13,none⟩ (.int .i64 (((q3:Nat):Int)+1))).setCell ⟨g,k*18+1+13+1,none⟩ (.int .i64 (((q3:Nat):Int)+1+1))).setCell ⟨g,k*18+1+13+2,none⟩ (.int .i64 (((q3:Nat):Int)+1+1+1))) lo (.slice (some ⟨g,0,none⟩) n vc) (R.set k [.int .i64 (((q:Nat):Int)),.int .i64 (((q:Nat):Int)+1),.int .i64 (((q:Nat):Int)+1+1),.string Ps,.int .i64 (((q:Nat):Int)+1+1+1+1),.string SC,.slice ua xl uc,.int .i64 (((q1:Nat):Int)),.string VG,.slice wa yl wc,.int .i64 (((q2:Nat):Int)),.string Xp,.slice xa zl xc,.int .i64 (((q3:Nat):Int)),.int .i64 (((q3:Nat):Int)+1),.int .i64 (((q3:Nat):Int)+1+1),.int .i64 (((q3:Nat):Int)+1+1+1),.int .i64 t.no]):=OG.put U2 WU hRl Iy 16 (by decide) (.int .i64 (((q3:Nat):Int)+1+1+1));have U4:OG 138 18 (((((EP.setCell ⟨g,k*18+1+12,none⟩ (.int .i64 (((q3:Nat):Int)))).setCell ⟨g,k*18+1+13,none⟩ (.int .i64 (((q3:Nat):Int)+1))).setCell ⟨g,k*18+1+13+1,none⟩ (.int .i64 (((q3:Nat):Int)+1+1))).setCell ⟨g,k*18+1+13+2,none⟩ (.int .i64 (((q3:Nat):Int)+1+1+1))).setCell ⟨g,k*18+1+13+3,none⟩ (.int .i64 (((q3:Nat):Int)+1+1+1+1))) lo (.slice (some ⟨g,0,none⟩) n vc) (R.set k [.int .i64 (((q:Nat):Int)),.int .i64 (((q:Nat):Int)+1),.int .i64 (((q:Nat):Int)+1+1),.string Ps,.int .i64 (((q:Nat):Int)+1+1+1+1),.string SC,.slice ua xl uc,.int .i64 (((q1:Nat):Int)),.string VG,.slice wa yl wc,.int .i64 (((q2:Nat):Int)),.string Xp,.slice xa zl xc,.int .i64 (((q3:Nat):Int)),.int .i64 (((q3:Nat):Int)+1),.int .i64 (((q3:Nat):Int)+1+1),.int .i64 (((q3:Nat):Int)+1+1+1),.int .i64 (((q3:Nat):Int)+1+1+1+1)]):=OG.put U3 WU hRl Iy 17 (by decide) (.int .i64 (((q3:Nat):Int)+1+1+1+1));obtain⟨wE,hw⟩:∃y,(((((EP.setCell ⟨g,k*18+1+12,none⟩ (.int .i64 (((q3:Nat):Int)))).setCell ⟨g,k*18+1+13,none⟩ (.int .i64 (((q3:Nat):Int)+1))).setCell ⟨g,k*18+1+13+1,none⟩ (.int .i64 (((q3:Nat):Int)+1+1))).setCell ⟨g,k*18+1+13+2,none⟩ (.int .i64 (((q3:Nat):Int)+1+1+1))).setCell ⟨g,k*18+1+13+3,none⟩ (.int .i64 (((q3:Nat):Int)+1+1+1+1)))=y:=⟨_,rfl⟩
   have TE:=hw▸U4;have kN:Kp EP wE (fun b=>b=g):=hw▸((((AB _ _ _ _).trans (AB _ _ _ _)).trans (AB _ _ _ _)).trans (AB _ _ _ _)).trans (AB _ _ _ _);replace oa:=oa.kp kN (fun j hj e=>by have:=la j hj;omega);replace ob:=ob.kp kN (fun j hj e=>by have:=dE j hj;omega);replace oc:=oc.kp kN (fun j hj e=>by have:=lc j hj;omega);replace KR:=KR.trans (kN.mono (fun b e=>Or.inl e));have HW:=hide hw;clear hw kN U0 U1 U2 U3 U4 fZ;have TEh:=hide TE;have KRh:=hide KR;have OA:=hide oa;have OB_:=hide ob;have OC:=hide oc;clear TE KR oa ob oc WU;go_wp2
   go_roundw
   case rel=>
    have hw:=HW.out;rw[hw];have pe:=xU.out;have hps:=Hn.out;have ACd:=Qp k0 k ps (by omega);have A:=AH.out;have e1:=H1.out;have e2:=H2.out;have e3:=H3.out;have hxl:=HXL.out;have hyl:=HYL.out;have hzl:=HZL.out;have hm0:=HM0.out;have hm1:=HM1.out;have hm2:=HM2.out;have tT:=HM3.out;have hpn:=HPN.out;refine⟨k+1,_,by omega,by go_num,?_,TEh.out,by rw[List.length_set];exact hRl,fun j hj=>?_,kr.trans (KRh.out.mono (fun b e=>?_))⟩
    ·rw[show((Bp k0 (ps.take (k+1)):Nat):Int)=((q3:Nat):Int)+1+1+1+1+1 by omega]
    ·by_cases e:j=k
     ·have pg:(EF k0 (k+1) ps).getD j AL=G5 q (m,t):=by
       rw[←pe,e,List.getD_eq_getElem?_getD,List.getElem?_set_self (by omega)];rfl
      rw[pg];subst e;refine⟨(A j hj).1,_,_,_,?_,?_,LB.out⟩
      ·rw[List.getD_eq_getElem?_getD,List.getElem?_set_self Iy];simp only[G5,Option.getD_some,hxl,hyl,hzl];rw[hm0,hm1,e1,hm2,show q+8+xl+yl=q2 by omega,tT,show q+10+xl+yl+zl=q3 by omega,show q+11+xl+yl+zl=q3+1 by omega,show q+12+xl+yl+zl=q3+2 by omega,show q+13+xl+yl+zl=q3+3 by omega,show q+14+xl+yl+zl=q3+4 by omega];rfl
      simp only[G5,hxl,hyl,hzl];rw[e1,show q+8+xl+yl=q2 by omega];exact⟨p,q',OA.out,ta,OB_.out,tb,OC.out,hlp,hpq⟩
     obtain⟨c0,x,y,z,f1,f2,f3⟩:=A j hj
     have pg:(EF k0 (k+1) ps).getD j AL=(EF k0 k ps).getD j AL:=by
      rw[←pe,List.getD_eq_getElem?_getD,List.getElem?_set_ne (Ne.symm e),←List.getD_eq_getElem?_getD]
     rw[pg];refine⟨c0,x,y,z,?_,f2.kp KRh.out (fun i h1 _ ho hx=>?_),f3⟩
     ·rw[List.getD_eq_getElem?_getD,List.getElem?_set_ne (Ne.symm e),←List.getD_eq_getElem?_getD];exact f1
     have h6:=f3 i ho;have h7:=A.cuts j (by omega);rcases hx with h|⟨h4,h5⟩
     ·omega
     by_cases hjk:j<k
     ·have:=(show JN wr (EF k0 k ps) R cut k from fun i hi=>A i (by omega)).ends (k-(j+1)) (j+1) (by omega);omega
     have:=(show JN wr (EF k0 k ps) R cut j from fun i hi=>A i (by omega)).ends (j-(k+1)) (k+1) (by omega);omega
    have h8:=A.ends (n-(k+1)) (k+1) (by omega);have h9:=C1.out;have h10:=C0.out;rcases e with h|⟨h4,h5⟩
    ·have:=A.cuts n Ak;omega
    omega
   case measure=>simp[intOf];omega
  obtain rfl:k=n:=by omega
  have hps:=Hn.out;have e1:ps.take k=ps:=List.take_of_length_le (by omega);have e2:EF k0 k ps=FI k0 ps:=by unfold EF;rw[e1,List.drop_eq_nil_of_le (by omega),List.append_nil]
  rw[e2]at A;have AH:=hide A;have TH:=hide T;have KH:=hide kr;have e3:=hide e1;have hd2:decide ((k:Int)<(k:Int))=false:=by simp
  clear A T kr e1 e2 hps;go_wp2;go_ret;refine⟨by rw[e3.out];rfl,⟨R,cut,TH.out,by rw[Dh,Hn.out];exact hRl,V0.out,C0.out,by rw[Dh,Hn.out];exact C1.out,by rw[Dh,Hn.out];exact AH.out⟩,KH.out⟩
theorem Us(k0:Nat)(ps:List Ba)(k:Nat)(hk:k<ps.length):(FI k0 ps).getD k AL=G5 (Bp k0 (ps.take k)) (ps.getD k AL):=by
 have h1:=JC k0 k ps hk;have h2:FI k0 ps=EF k0 ps.length ps:=(ae k0 ps).symm
 have e:∀m,k<m→m≤ps.length→(EF k0 m ps).getD k AL=G5 (Bp k0 (ps.take k)) (ps.getD k AL):=by
  intro m
  induction m with
  |zero=>intro h;omega
  | succ m ih=>
   intro h1 h2;by_cases e:k=m
   ·subst e;rw[←JC k0 k ps hk,List.getD_eq_getElem?_getD,List.getElem?_set_self (by rw[Qp k0 k ps (by omega)];exact hk)];rfl
   rw[←JC k0 m ps (by omega),List.getD_eq_getElem?_getD,List.getElem?_set_ne (Ne.symm e),←List.getD_eq_getElem?_getD];exact ih (by omega) (by omega)
 rw[h2];exact e _ hk Ak
theorem QL(v:Value)(ps:List Ba)(k0:Nat)(w:World)(hn:ps.length≤4194304)(hp:Bp k0 ps≤100000000)(h:Ih w v (FI k0 ps)):
 Calls Tryz.prog 55 #[v,.int .i64 k0] w fun e w'=>e= .returned (.int .i64 (Bp k0 ps))∧Below w.heap.size w w':=by
 obtain⟨ao,ca,rfl⟩:=h.form;rw[Dh]at h⊢;obtain⟨n,hn'⟩:∃n,ps.length=n:=⟨_,rfl⟩
 have Hn:=hide hn';rw[hn']at hn h⊢;have H:=hide h;clear h hn';go_enter Tryz.func55,Tryz.ntmps55
 go_wp2
 go_loopw [1,5] (fun c i wr=>∃k:Nat,k≤n∧i= .int .i64 k∧c= .int .i64 ((Bp k0 (ps.take k):Nat):Int)∧Below w.heap.size w wr) (fun _ i _=>n-(intOf i).toNat)
 case atStart=>exact⟨0,Nat.zero_le _,rfl,by simp[Bp],Below.refl _ _⟩
 case round=>
  obtain⟨k,hk,rfl,rfl,br⟩:=hrel;have hpk:=KP k0 ps k;by_cases hlt:k<n
  ·have hkx:k<ps.length:=by have:=Hn.out;omega
   have hpt:=Ol k0 ps k hkx;have dz:=KP k0 ps (k+1);obtain⟨g,off,cs,rfl,_,c1,a,b,c,e,ra,rb,rc⟩:=RG.at (H.out.below br) k (by rw[Dh];exact hkx);subst e;rw[Us k0 ps k hkx]at c1 ra rb rc;obtain⟨x,hx⟩:∃x,ps.getD k AL=x:=⟨_,rfl⟩
   rw[hx]at c1 ra rb rc hpt;clear hx;obtain⟨m,t⟩:=x;obtain⟨q,hq⟩:∃q,Bp k0 (ps.take k)=q:=⟨_,rfl⟩
   rw[hq]at hpk hpt c1 ra rb rc⊢;clear hq;unfold kF at hpt;simp only at hpt;obtain⟨xl,hxl⟩:∃l,t.bw.length=l:=⟨_,rfl⟩
   obtain⟨yl,hyl⟩:∃l,t.pw.length=l:=⟨_,rfl⟩
   obtain⟨zl,hzl⟩:∃l,t.qw.length=l:=⟨_,rfl⟩
   rw[hxl,hyl,hzl]at hpt;obtain⟨q1,hq1⟩:∃x,q+6+xl=x:=⟨_,rfl⟩
   obtain⟨q2,hq2⟩:∃x,q1+2+yl=x:=⟨_,rfl⟩
   obtain⟨q3,hq3⟩:∃x,q2+2+zl=x:=⟨_,rfl⟩
   obtain⟨Ps,YN⟩:∃x,markT (q+3)=x:=⟨_,rfl⟩
   have MT0:Hid (∀w,Calls Tryz.prog 109 #[.int .i64 (((q:Nat):Int)+1+1+1)] w fun e w'=>e= .returned (.string Ps)∧Below w.heap.size w w'):=hide fun w=>by
    have h:=Bq (q+3) w (by omega) (by omega);rw[YN,show((q+3:Nat):Int)=((q:Nat):Int)+1+1+1 by omega]at h;exact h
   obtain⟨SC,YM⟩:∃x,markT (q+5)=x:=⟨_,rfl⟩
   have MT1:Hid (∀w,Calls Tryz.prog 109 #[.int .i64 (((q:Nat):Int)+1+1+1+1+1)] w fun e w'=>e= .returned (.string SC)∧Below w.heap.size w w'):=hide fun w=>by
    have h:=Bq (q+5) w (by omega) (by omega);rw[YM,show((q+5:Nat):Int)=((q:Nat):Int)+1+1+1+1+1 by omega]at h;exact h
   obtain⟨VG,YL⟩:∃x,markT (q1+1)=x:=⟨_,rfl⟩
   have MT2:Hid (∀w,Calls Tryz.prog 109 #[.int .i64 (((q1:Nat):Int)+1)] w fun e w'=>e= .returned (.string VG)∧Below w.heap.size w w'):=hide fun w=>by
    have h:=Bq (q1+1) w (by omega) (by omega);rw[YL,show((q1+1:Nat):Int)=((q1:Nat):Int)+1 by omega]at h;exact h
   obtain⟨Xp,YK⟩:∃x,markT (q2+1)=x:=⟨_,rfl⟩
   have MT3:Hid (∀w,Calls Tryz.prog 109 #[.int .i64 (((q2:Nat):Int)+1)] w fun e w'=>e= .returned (.string Xp)∧Below w.heap.size w w'):=hide fun w=>by
    have h:=Bq (q2+1) w (by omega) (by omega);rw[YK,show((q2+1:Nat):Int)=((q2:Nat):Int)+1 by omega]at h;exact h
   simp only[G5,hxl,hyl,hzl]at ra rb rc;rw[hq1]at rb;rw[show q+8+xl+yl=q2 by omega]at rc;have fa:=ra.form;have fb:=rb.form;have fc:=rc.form;rw[Bz]at fa fb fc;obtain⟨ua,uc,rfl⟩:=fa;obtain⟨wa,wc,rfl⟩:=fb;obtain⟨xa,xc,rfl⟩:=fc
   have c2:wr.rangeAt g (off+k*18) [.int .i64 (((q:Nat):Int)),.int .i64 (((q:Nat):Int)+1),.int .i64 (((q:Nat):Int)+1+1),.string Ps,.int .i64 (((q:Nat):Int)+1+1+1+1),.string SC,.slice ua xl uc,.int .i64 (((q1:Nat):Int)),.string VG,.slice wa yl wc,.int .i64 (((q2:Nat):Int)),.string Xp,.slice xa zl xc,.int .i64 (((q3:Nat):Int)),.int .i64 (((q3:Nat):Int)+1),.int .i64 (((q3:Nat):Int)+1+1),.int .i64 (((q3:Nat):Int)+1+1+1),.int .i64 (((q3:Nat):Int)+1+1+1+1)]:=by
    have el:FR (G5 q (m,t)).1 (G5 q (m,t)).2 (.slice ua xl uc) (.slice wa yl wc) (.slice xa zl xc)=[.int .i64 (((q:Nat):Int)),.int .i64 (((q:Nat):Int)+1),.int .i64 (((q:Nat):Int)+1+1),.string Ps,.int .i64 (((q:Nat):Int)+1+1+1+1),.string SC,.slice ua xl uc,.int .i64 (((q1:Nat):Int)),.string VG,.slice wa yl wc,.int .i64 (((q2:Nat):Int)),.string Xp,.slice xa zl xc,.int .i64 (((q3:Nat):Int)),.int .i64 (((q3:Nat):Int)+1),.int .i64 (((q3:Nat):Int)+1+1),.int .i64 (((q3:Nat):Int)+1+1+1),.int .i64 (((q3:Nat):Int)+1+1+1+1)]:=by
     simp only[G5,hxl,hyl,hzl];rw[YN,YM,hq1,YL,show q+8+xl+yl=q2 by omega,YK,show q+10+xl+yl+zl=q3 by omega,show q+11+xl+yl+zl=q3+1 by omega,show q+12+xl+yl+zl=q3+2 by omega,show q+13+xl+yl+zl=q3+3 by omega,show q+14+xl+yl+zl=q3+4 by omega];rfl
    rw[←el];exact c1
   have HE0:Hid (∀w',Below wr.heap.size wr w'→Calls Tryz.prog 113 #[.slice ua xl uc,.int .i64 (((q:Nat):Int)+1+1+1+1+1+1)] w' fun e w''=>e= .returned (.int .i64 ((q1:Nat):Int))∧w''=w'):=hide fun w' hb=>by
    have h:=G8 (.slice ua xl uc) xl (q+6) w' (by omega) (ra.below hb);rw[show((q+6:Nat):Int)=((q:Nat):Int)+1+1+1+1+1+1 by omega,show((q:Nat):Int)+1+1+1+1+1+1+((xl:Nat):Int)=((q1:Nat):Int) by omega]at h;exact h
   have HE1:Hid (∀w',Below wr.heap.size wr w'→Calls Tryz.prog 113 #[.slice wa yl wc,.int .i64 (((q1:Nat):Int)+1+1)] w' fun e w''=>e= .returned (.int .i64 ((q2:Nat):Int))∧w''=w'):=hide fun w' hb=>by
    have h:=G8 (.slice wa yl wc) yl (q1+2) w' (by omega) (rb.below hb);rw[show((q1+2:Nat):Int)=((q1:Nat):Int)+1+1 by omega,show((q1:Nat):Int)+1+1+((yl:Nat):Int)=((q2:Nat):Int) by omega]at h;exact h
   have HE2:Hid (∀w',Below wr.heap.size wr w'→Calls Tryz.prog 113 #[.slice xa zl xc,.int .i64 (((q2:Nat):Int)+1+1)] w' fun e w''=>e= .returned (.int .i64 ((q3:Nat):Int))∧w''=w'):=hide fun w' hb=>by
    have h:=G8 (.slice xa zl xc) zl (q2+2) w' (by omega) (rc.below hb);rw[show((q2+2:Nat):Int)=((q2:Nat):Int)+1+1 by omega,show((q2:Nat):Int)+1+1+((zl:Nat):Int)=((q3:Nat):Int) by omega]at h;exact h
   have HPN:Hid (q3+5=Bp k0 (ps.take (k+1))):=hide (by omega);have hb3:q3+5≤100000000:=by omega
   have hb0:q+6≤100000000:=by omega
   have hb1:q1+2≤100000000:=by omega
   have hb2:q2+2≤100000000:=by omega
   have hd1:decide ((q1:Int)<0)=false:=by simp
   have hd2:decide ((q2:Int)<0)=false:=by simp
   have hd3:decide ((q3:Int)<0)=false:=by simp
   have bz:Below wr.heap.size wr wr:=Below.refl _ _;have C2:=hide c2;have lg:=Ca c2 (by simp);clear H c1 ra rb rc hpt hq1 hq2 hq3 hpk dz hxl hyl hzl YN YM YL YK c2;have d0:wr.cell? ⟨g,off+k*18,none⟩=some (.int .i64 (((q:Nat):Int))):=Al (Ac C2.out bz lg) 0 rfl;have d1:wr.cell? ⟨g,off+k*18+1,none⟩=some (.int .i64 (((q:Nat):Int)+1)):=Al (Ac C2.out bz lg) 1 rfl;have d2:wr.cell? ⟨g,off+k*18+1+1,none⟩=some (.int .i64 (((q:Nat):Int)+1+1)):=Al (Ac C2.out bz lg) 2 rfl;go_upto_region 13 with fail
   have K:Hid (∀w',Below wr.heap.size wr w'→(fun w'=>Below wr.heap.size wr w'∧w'.cell? ⟨g,off+k*18+1+2,none⟩=some (.string Ps)) w'):=hide fun w' hb'=>⟨hb',Al (Ac C2.out (bz.trans (hb'.mono bz.size)) lg) 3 rfl⟩
   refine FC K (fun bA hHeld=>?_);refine tx 0 41 ?_;refine tx 1 42 ?_;refine tx 7 48 ?_;refine tx 2 43 ?_;refine tx 3 44 ?_;refine tx 4 45 ?_;refine tx 5 46 ?_;refine tx 6 47 ?_;refine rd 8 rfl (fun KK AA=>?_);go_simp;refine(MT0.out _).mono ?_;rintro e w1 ⟨rfl,bb⟩;have bB:Below wr.heap.size wr w1:=bu bA bb;clear bA bb hHeld;refine AA.out _ _ (K.out _ bB) (fun hHeld=>?_);clear AA KK;refine tx 9 50 ?_;clear hHeld;refine Bw ?_;replace bz:=bu bz bB;clear bB K d0 d1 d2;have d4:w1.cell? ⟨g,off+k*18+1+2+1,none⟩=some (.int .i64 (((q:Nat):Int)+1+1+1+1)):=Al (Ac C2.out bz lg) 4 rfl;go_upto_region 19 with fail
   have K:Hid (∀w',Below w1.heap.size w1 w'→(fun w'=>Below w1.heap.size w1 w'∧w'.cell? ⟨g,off+k*18+1+2+1+1,none⟩=some (.string SC)) w'):=hide fun w' hb'=>⟨hb',Al (Ac C2.out (bz.trans (hb'.mono bz.size)) lg) 5 rfl⟩
   refine FC K (fun bA hHeld=>?_);refine tx 0 65 ?_;refine tx 1 66 ?_;refine tx 8 73 ?_;refine tx 2 67 ?_;refine tx 3 68 ?_;refine tx 4 69 ?_;refine tx 5 70 ?_;refine tx 6 71 ?_;refine tx 7 72 ?_;refine rd 9 rfl (fun KK AA=>?_);go_simp;refine(MT1.out _).mono ?_;rintro e w2 ⟨rfl,bb⟩;have bB:Below w1.heap.size w1 w2:=bu bA bb;clear bA bb hHeld;refine AA.out _ _ (K.out _ bB) (fun hHeld=>?_);clear AA KK;refine tx 10 75 ?_;clear hHeld;refine Bw ?_;replace bz:=bu bz bB;clear bB K d4;have d6:w2.cell? ⟨g,off+k*18+1+2+1+2,none⟩=some (.slice ua xl uc):=Al (Ac C2.out bz lg) 6 rfl;go_wp2_with fail
   refine(HE0.out _ bz).mono ?_;rintro e qO ⟨rfl,rfl⟩;clear d6;have d7:qO.cell? ⟨g,off+k*18+1+6,none⟩=some (.int .i64 (((q1:Nat):Int))):=Al (Ac C2.out bz lg) 7 rfl;go_upto_region 28 with fail
   have K:Hid (∀w',Below qO.heap.size qO w'→(fun w'=>Below qO.heap.size qO w'∧w'.cell? ⟨g,off+k*18+1+6+1,none⟩=some (.string VG)) w'):=hide fun w' hb'=>⟨hb',Al (Ac C2.out (bz.trans (hb'.mono bz.size)) lg) 8 rfl⟩
   refine FC K (fun bA hHeld=>?_);refine tx 0 101 ?_;refine tx 1 102 ?_;refine tx 7 108 ?_;refine tx 2 103 ?_;refine tx 3 104 ?_;refine tx 4 105 ?_;refine tx 5 106 ?_;refine tx 6 107 ?_;refine rd 8 rfl (fun KK AA=>?_);go_simp;refine(MT2.out _).mono ?_;rintro e w3 ⟨rfl,bb⟩;have bB:Below qO.heap.size qO w3:=bu bA bb;clear bA bb hHeld;refine AA.out _ _ (K.out _ bB) (fun hHeld=>?_);clear AA KK;refine tx 9 110 ?_;clear hHeld;refine Bw ?_;replace bz:=bu bz bB;clear bB K d7;have d9:w3.cell? ⟨g,off+k*18+1+6+2,none⟩=some (.slice wa yl wc):=Al (Ac C2.out bz lg) 9 rfl;go_wp2_with fail
   refine(HE1.out _ bz).mono ?_;rintro e qM ⟨rfl,rfl⟩;clear d9;have d10:qM.cell? ⟨g,off+k*18+1+9,none⟩=some (.int .i64 (((q2:Nat):Int))):=Al (Ac C2.out bz lg) 10 rfl;go_upto_region 37 with fail
   have K:Hid (∀w',Below qM.heap.size qM w'→(fun w'=>Below qM.heap.size qM w'∧w'.cell? ⟨g,off+k*18+1+9+1,none⟩=some (.string Xp)) w'):=hide fun w' hb'=>⟨hb',Al (Ac C2.out (bz.trans (hb'.mono bz.size)) lg) 11 rfl⟩
   refine FC K (fun bA hHeld=>?_);refine tx 0 135 ?_;refine tx 1 136 ?_;refine tx 7 142 ?_;refine tx 2 137 ?_;refine tx 3 138 ?_;refine tx 4 139 ?_;refine tx 5 140 ?_;refine tx 6 141 ?_;refine rd 8 rfl (fun KK AA=>?_);go_simp;refine(MT3.out _).mono ?_;rintro e w4 ⟨rfl,bb⟩;have bB:Below qM.heap.size qM w4:=bu bA bb;clear bA bb hHeld;refine AA.out _ _ (K.out _ bB) (fun hHeld=>?_);clear AA KK;refine tx 9 144 ?_;clear hHeld;refine Bw ?_;replace bz:=bu bz bB;clear bB K d10;have d12:w4.cell? ⟨g,off+k*18+1+9+2,none⟩=some (.slice xa zl xc):=Al (Ac C2.out bz lg) 12 rfl;go_wp2_with fail
   refine(HE2.out _ bz).mono ?_;rintro e uO ⟨rfl,rfl⟩;clear d12;have d13:uO.cell? ⟨g,off+k*18+1+12,none⟩=some (.int .i64 (((q3:Nat):Int))):=Al (Ac C2.out bz lg) 13 rfl;have d14:uO.cell? ⟨g,off+k*18+1+13,none⟩=some (.int .i64 (((q3:Nat):Int)+1)):=Al (Ac C2.out bz lg) 14 rfl;have d15:uO.cell? ⟨g,off+k*18+1+13+1,none⟩=some (.int .i64 (((q3:Nat):Int)+1+1)):=Al (Ac C2.out bz lg) 15 rfl;have d16:uO.cell? ⟨g,off+k*18+1+13+2,none⟩=some (.int .i64 (((q3:Nat):Int)+1+1+1)):=Al (Ac C2.out bz lg) 16 rfl;have d17:uO.cell? ⟨g,off+k*18+1+13+3,none⟩=some (.int .i64 (((q3:Nat):Int)+1+1+1+1)):=Al (Ac C2.out bz lg) 17 rfl;clear C2;go_wp2
   go_roundw
   case rel=>exact⟨k+1,by omega,by go_num,by rw[←HPN.out,show((q3+5:Nat):Int)=((q3:Nat):Int)+1+1+1+1+1 by omega],bu br bz⟩
   case measure=>simp[intOf];omega
  have hkn:ps.take k=ps:=List.take_of_length_le (by have:=Hn.out;omega);rw[hkn];clear hpk H;go_wp2;go_ret;exact⟨rfl,br⟩
end
section
open Go Go.RowKit
variable [∀(a b c d:Int),Decidable (BG a b c d)]
theorem Vn(vo lo n:Int)(s:ByteArray)(v:Value)(d:ByteArray)(k k0:Nat)(w:World)(hk:k0≤10000000)(hm:k≤10000000)(h:RI w v (A8 k0 k)):
 Calls Tryz.prog 51 #[sv vo lo n s v d,.int .i64 k0] w fun e w'=>e= .returned (.int .i64 (k0+k))∧Below w.heap.size w w':=by
 have R1:=hide h;have B:=hide (Aj w (.cells #[.int .i64 vo,.int .i64 lo,.int .i64 n,.string s,v,.string d] 40));have hd:decide ((k0:Int)+(k:Int)<0)=false:=by simp;omega
 clear h;go_enter Tryz.func51,Tryz.ntmps51
 go_wp2_with fail
 refine(d_ n s v k k0 _ hk hm (R1.out.below B.out Ak)).mono ?_;rintro e w1 ⟨rfl,b1⟩;go_wp2;go_ret;exact⟨rfl,B.out.trans (b1.mono B.out.size)⟩
theorem Vp(v:Value)(s:Int)(m k0:Nat)(w:World)(hk:k0≤100000000)(h:RB w v (marks k0 m)):
 Calls Tryz.prog 54 #[dv v s,.int .i64 k0] w fun e w'=>e= .returned (.int .i64 (k0+m))∧Below w.heap.size w w':=by
 have R1:=hide h;have B:=hide (Aj w (.cells #[v,.int .i64 s] 43));have hd:decide ((k0:Int)+(m:Int)<0)=false:=by simp;omega
 clear h;go_enter Tryz.func54,Tryz.ntmps54
 go_wp2_with fail
 refine(jG v m k0 _ (by omega) (R1.out.below B.out Ak)).mono ?_;rintro e w1 ⟨rfl,rfl⟩;go_wp2;go_ret;exact⟨rfl,B.out⟩
end
end Go.Proofs.YtcjmcgolgbkknaaGreatDoor
