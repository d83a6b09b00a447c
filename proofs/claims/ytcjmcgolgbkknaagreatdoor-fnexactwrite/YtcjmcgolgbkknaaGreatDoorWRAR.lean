/- Lemmas; their conditions stand in each statement. -/
import Derived.Test.YtcjmcgolgbkknaaGreatDoorWRAQ
set_option maxRecDepth 100000
set_option maxHeartbeats 16000000
set_option linter.unusedSectionVars false
set_option linter.unusedSimpArgs false
namespace Go.Proofs.YtcjmcgolgbkknaaGreatDoor
section
open Go Go.RowKit
variable [∀(a b c d:Int),Decidable (BK a b c d)] [∀(n f:Int),Decidable (A9 n f)] [∀(a b c d:Nat),Decidable (Dc a b c d)] [∀(x:T4),Decidable (Dv x)]
theorem We(k0:Nat)(ps:List Ck)(k:Nat)(hk:k<ps.length):(Fu k0 ps).getD k AX=IC (CR k0 (ps.take k)) (ps.getD k AX):=by
 have h1:=Jf k0 k ps hk;have h2:Fu k0 ps=Ec k0 ps.length ps:=(iN k0 ps).symm
 have e:∀m,k<m→m≤ps.length→(Ec k0 m ps).getD k AX=IC (CR k0 (ps.take k)) (ps.getD k AX):=by
  intro m
  induction m with
  |zero=>intro h;omega
  | succ m ih=>
   intro h1 h2;by_cases e:k=m
   ·subst e;rw[←Jf k0 k ps hk,List.getD_eq_getElem?_getD,List.getElem?_set_self (by rw[Su k0 k ps (by omega)];exact hk)];rfl
   rw[←Jf k0 m ps (by omega),List.getD_eq_getElem?_getD,List.getElem?_set_ne (Ne.symm e),←List.getD_eq_getElem?_getD];exact ih (by omega) (by omega)
 rw[h2];exact e _ hk Af
theorem Ry(v:Value)(ps:List Ck)(k0:Nat)(w:World)(hn:ps.length≤4194304)(hp:CR k0 ps≤100000000)(h:K8 w v (Fu k0 ps)):
 Calls Tryz.prog 55 #[v,.int .i64 k0] w fun e w'=>e= .returned (.int .i64 (CR k0 ps))∧Below w.heap.size w w':=by
 obtain⟨ao,ca,rfl⟩:=h.form;rw[Dq]at h⊢;obtain⟨n,hn'⟩:∃n,ps.length=n:=⟨_,rfl⟩
 have Hn:=hide hn';rw[hn']at hn h⊢;have H:=hide h;clear h hn';go_enter Tryz.func55,Tryz.ntmps55
 go_wp2
 go_loopw [1,5] (fun c i wr=>∃k:Nat,k≤n∧i= .int .i64 k∧c= .int .i64 ((CR k0 (ps.take k):Nat):Int)∧Below w.heap.size w wr) (fun _ i _=>n-(intOf i).toNat)
 case atStart=>exact⟨0,Nat.zero_le _,rfl,by simp[CR],Below.refl _ _⟩
 case round=>
  obtain⟨k,hk,rfl,rfl,br⟩:=hrel;have hpk:=Lm k0 ps k;by_cases hlt:k<n
  ·have hkx:k<ps.length:=by have:=Hn.out;omega
   have hpt:=QY k0 ps k hkx;have jh:=Lm k0 ps (k+1);obtain⟨g,off,cs,rfl,_,c1,a,b,c,e,ra,rb,rc⟩:=RG.at (H.out.below br) k (by rw[Dq];exact hkx);subst e;rw[We k0 ps k hkx]at c1 ra rb rc;obtain⟨x,hx⟩:∃x,ps.getD k AX=x:=⟨_,rfl⟩
   rw[hx]at c1 ra rb rc hpt;clear hx;obtain⟨m,t⟩:=x;obtain⟨q,hq⟩:∃q,CR k0 (ps.take k)=q:=⟨_,rfl⟩
   rw[hq]at hpk hpt c1 ra rb rc⊢;clear hq;unfold qx at hpt;simp only at hpt;obtain⟨xl,hxl⟩:∃l,t.bw.length=l:=⟨_,rfl⟩
   obtain⟨yl,hyl⟩:∃l,t.pw.length=l:=⟨_,rfl⟩
   obtain⟨zl,hzl⟩:∃l,t.qw.length=l:=⟨_,rfl⟩
   rw[hxl,hyl,hzl]at hpt;obtain⟨q1,hq1⟩:∃x,q+6+xl=x:=⟨_,rfl⟩
   obtain⟨q2,hq2⟩:∃x,q1+2+yl=x:=⟨_,rfl⟩
   obtain⟨q3,hq3⟩:∃x,q2+2+zl=x:=⟨_,rfl⟩
   obtain⟨RQ,Z6⟩:∃x,markT (q+3)=x:=⟨_,rfl⟩
   have MT0:Hid (∀w,Calls Tryz.prog 109 #[.int .i64 (((q:Nat):Int)+1+1+1)] w fun e w'=>e= .returned (.string RQ)∧Below w.heap.size w w'):=hide fun w=>by
    have h:=Bz (q+3) w (by omega) (by omega);rw[Z6,show((q+3:Nat):Int)=((q:Nat):Int)+1+1+1 by omega]at h;exact h
   obtain⟨UY,Z5⟩:∃x,markT (q+5)=x:=⟨_,rfl⟩
   have MT1:Hid (∀w,Calls Tryz.prog 109 #[.int .i64 (((q:Nat):Int)+1+1+1+1+1)] w fun e w'=>e= .returned (.string UY)∧Below w.heap.size w w'):=hide fun w=>by
    have h:=Bz (q+5) w (by omega) (by omega);rw[Z5,show((q+5:Nat):Int)=((q:Nat):Int)+1+1+1+1+1 by omega]at h;exact h
   obtain⟨W_,Zz⟩:∃x,markT (q1+1)=x:=⟨_,rfl⟩
   have MT2:Hid (∀w,Calls Tryz.prog 109 #[.int .i64 (((q1:Nat):Int)+1)] w fun e w'=>e= .returned (.string W_)∧Below w.heap.size w w'):=hide fun w=>by
    have h:=Bz (q1+1) w (by omega) (by omega);rw[Zz,show((q1+1:Nat):Int)=((q1:Nat):Int)+1 by omega]at h;exact h
   obtain⟨ZV,Zy⟩:∃x,markT (q2+1)=x:=⟨_,rfl⟩
   have MT3:Hid (∀w,Calls Tryz.prog 109 #[.int .i64 (((q2:Nat):Int)+1)] w fun e w'=>e= .returned (.string ZV)∧Below w.heap.size w w'):=hide fun w=>by
    have h:=Bz (q2+1) w (by omega) (by omega);rw[Zy,show((q2+1:Nat):Int)=((q2:Nat):Int)+1 by omega]at h;exact h
   simp only[IC,hxl,hyl,hzl]at ra rb rc;rw[hq1]at rb;rw[show q+8+xl+yl=q2 by omega]at rc;have fa:=ra.form;have fb:=rb.form;have fc:=rc.form;rw[CV]at fa fb fc;obtain⟨ua,uc,rfl⟩:=fa;obtain⟨wa,wc,rfl⟩:=fb;obtain⟨xa,xc,rfl⟩:=fc
   have c2:wr.rangeAt g (off+k*18) [.int .i64 (((q:Nat):Int)),.int .i64 (((q:Nat):Int)+1),.int .i64 (((q:Nat):Int)+1+1),.string RQ,.int .i64 (((q:Nat):Int)+1+1+1+1),.string UY,.slice ua xl uc,.int .i64 (((q1:Nat):Int)),.string W_,.slice wa yl wc,.int .i64 (((q2:Nat):Int)),.string ZV,.slice xa zl xc,.int .i64 (((q3:Nat):Int)),.int .i64 (((q3:Nat):Int)+1),.int .i64 (((q3:Nat):Int)+1+1),.int .i64 (((q3:Nat):Int)+1+1+1),.int .i64 (((q3:Nat):Int)+1+1+1+1)]:=by
    have el:Hd (IC q (m,t)).1 (IC q (m,t)).2 (.slice ua xl uc) (.slice wa yl wc) (.slice xa zl xc)=[.int .i64 (((q:Nat):Int)),.int .i64 (((q:Nat):Int)+1),.int .i64 (((q:Nat):Int)+1+1),.string RQ,.int .i64 (((q:Nat):Int)+1+1+1+1),.string UY,.slice ua xl uc,.int .i64 (((q1:Nat):Int)),.string W_,.slice wa yl wc,.int .i64 (((q2:Nat):Int)),.string ZV,.slice xa zl xc,.int .i64 (((q3:Nat):Int)),.int .i64 (((q3:Nat):Int)+1),.int .i64 (((q3:Nat):Int)+1+1),.int .i64 (((q3:Nat):Int)+1+1+1),.int .i64 (((q3:Nat):Int)+1+1+1+1)]:=by
     simp only[IC,hxl,hyl,hzl];rw[Z6,Z5,hq1,Zz,show q+8+xl+yl=q2 by omega,Zy,show q+10+xl+yl+zl=q3 by omega,show q+11+xl+yl+zl=q3+1 by omega,show q+12+xl+yl+zl=q3+2 by omega,show q+13+xl+yl+zl=q3+3 by omega,show q+14+xl+yl+zl=q3+4 by omega];rfl
    rw[←el];exact c1
   have HE0:Hid (∀w',Below wr.heap.size wr w'→Calls Tryz.prog 113 #[.slice ua xl uc,.int .i64 (((q:Nat):Int)+1+1+1+1+1+1)] w' fun e w''=>e= .returned (.int .i64 ((q1:Nat):Int))∧w''=w'):=hide fun w' hb=>by
    have h:=IJ (.slice ua xl uc) xl (q+6) w' (by omega) (ra.below hb);rw[show((q+6:Nat):Int)=((q:Nat):Int)+1+1+1+1+1+1 by omega,show((q:Nat):Int)+1+1+1+1+1+1+((xl:Nat):Int)=((q1:Nat):Int) by omega]at h;exact h
   have HE1:Hid (∀w',Below wr.heap.size wr w'→Calls Tryz.prog 113 #[.slice wa yl wc,.int .i64 (((q1:Nat):Int)+1+1)] w' fun e w''=>e= .returned (.int .i64 ((q2:Nat):Int))∧w''=w'):=hide fun w' hb=>by
    have h:=IJ (.slice wa yl wc) yl (q1+2) w' (by omega) (rb.below hb);rw[show((q1+2:Nat):Int)=((q1:Nat):Int)+1+1 by omega,show((q1:Nat):Int)+1+1+((yl:Nat):Int)=((q2:Nat):Int) by omega]at h;exact h
   have HE2:Hid (∀w',Below wr.heap.size wr w'→Calls Tryz.prog 113 #[.slice xa zl xc,.int .i64 (((q2:Nat):Int)+1+1)] w' fun e w''=>e= .returned (.int .i64 ((q3:Nat):Int))∧w''=w'):=hide fun w' hb=>by
    have h:=IJ (.slice xa zl xc) zl (q2+2) w' (by omega) (rc.below hb);rw[show((q2+2:Nat):Int)=((q2:Nat):Int)+1+1 by omega,show((q2:Nat):Int)+1+1+((zl:Nat):Int)=((q3:Nat):Int) by omega]at h;exact h
   have HPN:Hid (q3+5=CR k0 (ps.take (k+1))):=hide (by omega);have hb3:q3+5≤100000000:=by omega
   have hb0:q+6≤100000000:=by omega
   have hb1:q1+2≤100000000:=by omega
   have hb2:q2+2≤100000000:=by omega
   have hd1:decide ((q1:Int)<0)=false:=by simp
   have hd2:decide ((q2:Int)<0)=false:=by simp
   have hd3:decide ((q3:Int)<0)=false:=by simp
   have bz:Below wr.heap.size wr wr:=Below.refl _ _;have C2:=hide c2;have lg:=Ch c2 (by simp);clear H c1 ra rb rc hpt hq1 hq2 hq3 hpk jh hxl hyl hzl Z6 Z5 Zz Zy c2;have d0:wr.cell? ⟨g,off+k*18,none⟩=some (.int .i64 (((q:Nat):Int))):=Aj (Aa C2.out bz lg) 0 rfl;have d1:wr.cell? ⟨g,off+k*18+1,none⟩=some (.int .i64 (((q:Nat):Int)+1)):=Aj (Aa C2.out bz lg) 1 rfl;have d2:wr.cell? ⟨g,off+k*18+1+1,none⟩=some (.int .i64 (((q:Nat):Int)+1+1)):=Aj (Aa C2.out bz lg) 2 rfl;go_upto_region 13 with fail
   have K:Hid (∀w',Below wr.heap.size wr w'→(fun w'=>Below wr.heap.size wr w'∧w'.cell? ⟨g,off+k*18+1+2,none⟩=some (.string RQ)) w'):=hide fun w' hb'=>⟨hb',Aj (Aa C2.out (bz.trans (hb'.mono bz.size)) lg) 3 rfl⟩
   refine Em K (fun bA hHeld=>?_);refine tx 0 41 ?_;refine tx 1 42 ?_;refine tx 7 48 ?_;refine tx 2 43 ?_;refine tx 3 44 ?_;refine tx 4 45 ?_;refine tx 5 46 ?_;refine tx 6 47 ?_;refine rd 8 rfl (fun KK AA=>?_);go_simp;refine(MT0.out _).mono ?_;rintro e w1 ⟨rfl,bb⟩;have bB:Below wr.heap.size wr w1:=bu bA bb;clear bA bb hHeld;refine AA.out _ _ (K.out _ bB) (fun hHeld=>?_);clear AA KK;refine tx 9 50 ?_;clear hHeld;refine Bu ?_;replace bz:=bu bz bB;clear bB K d0 d1 d2;have d4:w1.cell? ⟨g,off+k*18+1+2+1,none⟩=some (.int .i64 (((q:Nat):Int)+1+1+1+1)):=Aj (Aa C2.out bz lg) 4 rfl;go_upto_region 19 with fail
   have K:Hid (∀w',Below w1.heap.size w1 w'→(fun w'=>Below w1.heap.size w1 w'∧w'.cell? ⟨g,off+k*18+1+2+1+1,none⟩=some (.string UY)) w'):=hide fun w' hb'=>⟨hb',Aj (Aa C2.out (bz.trans (hb'.mono bz.size)) lg) 5 rfl⟩
   refine Em K (fun bA hHeld=>?_);refine tx 0 65 ?_;refine tx 1 66 ?_;refine tx 8 73 ?_;refine tx 2 67 ?_;refine tx 3 68 ?_;refine tx 4 69 ?_;refine tx 5 70 ?_;refine tx 6 71 ?_;refine tx 7 72 ?_;refine rd 9 rfl (fun KK AA=>?_);go_simp;refine(MT1.out _).mono ?_;rintro e w2 ⟨rfl,bb⟩;have bB:Below w1.heap.size w1 w2:=bu bA bb;clear bA bb hHeld;refine AA.out _ _ (K.out _ bB) (fun hHeld=>?_);clear AA KK;refine tx 10 75 ?_;clear hHeld;refine Bu ?_;replace bz:=bu bz bB;clear bB K d4;have d6:w2.cell? ⟨g,off+k*18+1+2+1+2,none⟩=some (.slice ua xl uc):=Aj (Aa C2.out bz lg) 6 rfl;go_wp2_with fail
   refine(HE0.out _ bz).mono ?_;rintro e wz ⟨rfl,rfl⟩;clear d6;have d7:wz.cell? ⟨g,off+k*18+1+6,none⟩=some (.int .i64 (((q1:Nat):Int))):=Aj (Aa C2.out bz lg) 7 rfl;go_upto_region 28 with fail
   have K:Hid (∀w',Below wz.heap.size wz w'→(fun w'=>Below wz.heap.size wz w'∧w'.cell? ⟨g,off+k*18+1+6+1,none⟩=some (.string W_)) w'):=hide fun w' hb'=>⟨hb',Aj (Aa C2.out (bz.trans (hb'.mono bz.size)) lg) 8 rfl⟩
   refine Em K (fun bA hHeld=>?_);refine tx 0 101 ?_;refine tx 1 102 ?_;refine tx 7 108 ?_;refine tx 2 103 ?_;refine tx 3 104 ?_;refine tx 4 105 ?_;refine tx 5 106 ?_;refine tx 6 107 ?_;refine rd 8 rfl (fun KK AA=>?_);go_simp;refine(MT2.out _).mono ?_;rintro e w3 ⟨rfl,bb⟩;have bB:Below wz.heap.size wz w3:=bu bA bb;clear bA bb hHeld;refine AA.out _ _ (K.out _ bB) (fun hHeld=>?_);clear AA KK;refine tx 9 110 ?_;clear hHeld;refine Bu ?_;replace bz:=bu bz bB;clear bB K d7;have d9:w3.cell? ⟨g,off+k*18+1+6+2,none⟩=some (.slice wa yl wc):=Aj (Aa C2.out bz lg) 9 rfl;go_wp2_with fail
   refine(HE1.out _ bz).mono ?_;rintro e wy ⟨rfl,rfl⟩;clear d9;have d10:wy.cell? ⟨g,off+k*18+1+9,none⟩=some (.int .i64 (((q2:Nat):Int))):=Aj (Aa C2.out bz lg) 10 rfl;go_upto_region 37 with fail
   have K:Hid (∀w',Below wy.heap.size wy w'→(fun w'=>Below wy.heap.size wy w'∧w'.cell? ⟨g,off+k*18+1+9+1,none⟩=some (.string ZV)) w'):=hide fun w' hb'=>⟨hb',Aj (Aa C2.out (bz.trans (hb'.mono bz.size)) lg) 11 rfl⟩
   refine Em K (fun bA hHeld=>?_);refine tx 0 135 ?_;refine tx 1 136 ?_;refine tx 7 142 ?_;refine tx 2 137 ?_;refine tx 3 138 ?_;refine tx 4 139 ?_;refine tx 5 140 ?_;refine tx 6 141 ?_;refine rd 8 rfl (fun KK AA=>?_);go_simp;refine(MT3.out _).mono ?_;rintro e w4 ⟨rfl,bb⟩;have bB:Below wy.heap.size wy w4:=bu bA bb;clear bA bb hHeld;refine AA.out _ _ (K.out _ bB) (fun hHeld=>?_);clear AA KK;refine tx 9 144 ?_;clear hHeld;refine Bu ?_;replace bz:=bu bz bB;clear bB K d10;have d12:w4.cell? ⟨g,off+k*18+1+9+2,none⟩=some (.slice xa zl xc):=Aj (Aa C2.out bz lg) 12 rfl;go_wp2_with fail
   refine(HE2.out _ bz).mono ?_;rintro e zV ⟨rfl,rfl⟩;clear d12;have d13:zV.cell? ⟨g,off+k*18+1+12,none⟩=some (.int .i64 (((q3:Nat):Int))):=Aj (Aa C2.out bz lg) 13 rfl;have d14:zV.cell? ⟨g,off+k*18+1+13,none⟩=some (.int .i64 (((q3:Nat):Int)+1)):=Aj (Aa C2.out bz lg) 14 rfl;have d15:zV.cell? ⟨g,off+k*18+1+13+1,none⟩=some (.int .i64 (((q3:Nat):Int)+1+1)):=Aj (Aa C2.out bz lg) 15 rfl;have d16:zV.cell? ⟨g,off+k*18+1+13+2,none⟩=some (.int .i64 (((q3:Nat):Int)+1+1+1)):=Aj (Aa C2.out bz lg) 16 rfl;have d17:zV.cell? ⟨g,off+k*18+1+13+3,none⟩=some (.int .i64 (((q3:Nat):Int)+1+1+1+1)):=Aj (Aa C2.out bz lg) 17 rfl;clear C2;go_wp2
   go_roundw
   case rel=>exact⟨k+1,by omega,by go_num,by rw[←HPN.out,show((q3+5:Nat):Int)=((q3:Nat):Int)+1+1+1+1+1 by omega],bu br bz⟩
   case measure=>simp[intOf];omega
  have hkn:ps.take k=ps:=List.take_of_length_le (by have:=Hn.out;omega);rw[hkn];clear hpk H;go_wp2;go_ret;exact⟨rfl,br⟩
end
section
open Go Go.RowKit
variable [∀(a b c d:Int),Decidable (BK a b c d)]
theorem Xe(vo lo n:Int)(s:ByteArray)(v:Value)(d:ByteArray)(k k0:Nat)(w:World)(hk:k0≤10000000)(hm:k≤10000000)(h:RI w v (BP k0 k)):
 Calls Tryz.prog 51 #[sv vo lo n s v d,.int .i64 k0] w fun e w'=>e= .returned (.int .i64 (k0+k))∧Below w.heap.size w w':=by
 have R1:=hide h;have B:=hide (Ac w (.cells #[.int .i64 vo,.int .i64 lo,.int .i64 n,.string s,v,.string d] 40));have hd:decide ((k0:Int)+(k:Int)<0)=false:=by simp;omega
 clear h;go_enter Tryz.func51,Tryz.ntmps51
 go_wp2_with fail
 refine(ji n s v k k0 _ hk hm (R1.out.below B.out Af)).mono ?_;rintro e w1 ⟨rfl,b1⟩;go_wp2;go_ret;exact⟨rfl,B.out.trans (b1.mono B.out.size)⟩
theorem Xg(v:Value)(s:Int)(m k0:Nat)(w:World)(hk:k0≤100000000)(h:RB w v (marks k0 m)):
 Calls Tryz.prog 54 #[dv v s,.int .i64 k0] w fun e w'=>e= .returned (.int .i64 (k0+m))∧Below w.heap.size w w':=by
 have R1:=hide h;have B:=hide (Ac w (.cells #[v,.int .i64 s] 43));have hd:decide ((k0:Int)+(m:Int)<0)=false:=by simp;omega
 clear h;go_enter Tryz.func54,Tryz.ntmps54
 go_wp2_with fail
 refine(oh v m k0 _ (by omega) (R1.out.below B.out Af)).mono ?_;rintro e w1 ⟨rfl,rfl⟩;go_wp2;go_ret;exact⟨rfl,B.out⟩
end
section
open Go Go.RowKit
variable [∀(a b c d:Int),Decidable (BK a b c d)] [∀(n f:Int),Decidable (A9 n f)] [∀(a b c d:Nat),Decidable (Dc a b c d)] [∀(x:T4),Decidable (Dv x)]
def GK(w:World)(lo hi:Nat)(t:Bv)(a b c d e:Value):Prop:=∃s1 s2 s3 s4 vs,(lo≤s1∧s1≤s2∧s2≤s3∧s3≤s4∧s4≤hi∧hi≤w.heap.size)∧(OI w lo a t.qw∧∀j,a.ownBlock=some j→j<s1)∧(OT w s1 b t.pool∧∀j,b.ownBlock=some j→j<s2)∧Tg w s2 s3 c t.tab vs∧(OB w s3 d t.AY∧∀j,d.ownBlock=some j→j<s4)∧Q9 w s4 hi e t.held
theorem GK.kp{w w':World}{lo hi:Nat}{X:Nat→Prop}{t:Bv}{a b c d e:Value}(h:GK w lo hi t a b c d e)(k:Kp w w' X)(hX:∀j,lo≤j→j<hi→¬X j):GK w' lo hi t a b c d e:=by
 obtain⟨s1,s2,s3,s4,vs,hs,⟨a1,a2⟩,⟨b1,b2⟩,c1,⟨d1,d2⟩,e1⟩:=h;have z:=k.size;have la:=World.ownsRow.lt a1;have lb:=World.ownsRow.lt b1;have ld:=World.ownsRow.lt d1;exact⟨s1,s2,s3,s4,vs,by omega,⟨a1.kp k (fun j hj=>hX j (la j hj).1 (by have:=a2 j hj;omega)),a2⟩,⟨b1.kp k (fun j hj=>hX j (by have:=lb j hj;omega) (by have:=b2 j hj;omega)),b2⟩,c1.kp k (fun j h1 h2=>hX j (by omega) (by omega)),⟨d1.kp k (fun j hj=>hX j (by have:=ld j hj;omega) (by have:=d2 j hj;omega)),d2⟩,e1.kp k (fun j h1 h2=>hX j (by omega) h2)⟩
theorem GK.below{w w':World}{lo hi:Nat}{t:Bv}{a b c d e:Value}(h:GK w lo hi t a b c d e)(hb:Below w.heap.size w w'):GK w' lo hi t a b c d e:=h.kp (Below.Bf hb (fun _=>False)) (fun _ _ _ h=>h)
theorem GK.JP{w:World}{lo hi:Nat}{t:Bv}{a b c d e:Value}(h:GK w lo hi t a b c d e):Q7 w lo t a b c d e:=by
 obtain⟨s1,s2,s3,s4,vs,hs,a1,b1,c1,d1,e1⟩:=h;exact⟨s1,s2,s3,s4,vs,by omega,a1,b1,c1,d1,e1.y8⟩
theorem GK.mono{w:World}{lo lo' hi hi':Nat}{t:Bv}{a b c d e:Value}(h:GK w lo hi t a b c d e)(h1:lo'≤lo)(h2:hi≤hi')(h3:hi'≤w.heap.size):GK w lo' hi' t a b c d e:=by
 obtain⟨s1,s2,s3,s4,vs,hs,⟨a1,a2⟩,b1,c1,d1,e1⟩:=h;exact⟨s1,s2,s3,s4,vs,by omega,⟨a1.mono h1,a2⟩,b1,c1,d1,e1.mono Af h2⟩
theorem GK.form{w:World}{lo hi:Nat}{t:Bv}{a b c d e:Value}(h:GK w lo hi t a b c d e):∃ao ca bo cb co cc od cd oe ce,a= .slice ao t.qw.length ca∧b= .slice bo t.pool.length cb∧c= .slice co t.tab.length cc∧d= .slice od t.AY.length cd∧e= .slice oe t.held.length ce:=h.JP.form
def iB(k:Nat)(t:Bv):Nat:=k+t.qw.length
def dW(k:Nat)(t:Bv):Nat:=iB k t+t.pool.length*4
def iA(k:Nat)(t:Bv):Nat:=pend (dW k t) t.tab
def YB(k:Nat)(t:Bv):Nat:=iA k t+t.AY.length
def WT(k:Nat)(t:Bv):Nat:=CR (YB k t) t.held
def xQ(k:Nat)(t:Bv):Bv:={ t with qw:=BP k t.qw.length,pool:=Cy (iB k t) t.pool.length,tab:=Oc (dW k t) t.tab,AY:=marks (iA k t) t.AY.length,held:=Fu (YB k t) t.held }
theorem vP(k:Nat)(t:Bv):k≤iB k t∧iB k t≤dW k t∧dW k t≤iA k t∧iA k t≤YB k t∧YB k t≤WT k t:=by
 have h1:=dh (dW k t) t.tab;have h2:=Wh (YB k t) t.held;refine⟨by unfold iB;omega,by unfold dW;omega,by unfold iA;exact h1,by unfold YB;omega,by unfold WT;exact h2⟩
theorem Ya(base k0:Nat)(v:Value)(xs:List T4)(w:World)(hl:xs.length≤4194304)(hk0:k0≤100000000)(h:OT w base v xs):
 Calls Tryz.prog 47 #[v,.int .i64 k0] w fun e w'=>e= .returned (.int .i64 (k0+xs.length*4))∧OT w' base v (Cy k0 xs.length)∧Kp w w' (fun k=>v.ownBlock=some k):=by
 have h':=h;rcases h.2 with⟨rfl,h0⟩|⟨g,cap,cur,rfl,_⟩
 ·refine(Yb k0 w).mono ?_;rintro e w' ⟨rfl,rfl⟩;have hx:xs=[]:=List.length_eq_zero_iff.1 h0;subst hx;exact⟨by simp,World.ownsRow_nil _ _ _ _,Kp.refl _ _⟩
 refine(fu base g xs.length cap k0 xs w hl hk0 rfl h').mono ?_;rintro e w' ⟨rfl,ho,hg⟩;exact⟨rfl,ho,Bo hg⟩
theorem YR(t:Bv)(a:Value)(bo:Option Addr)(cb:Nat)(c d e:Value)(w:World)(hs:J8 t)(h:kT w t a bo c d e):
 Calls Tryz.prog 9 #[FX t a (.slice bo t.pool.length cb) c d e] w fun r w'=>∃a' b' c' d' e',r= .returned (FX t a' b' c' d' e')∧GK w' w.heap.size w'.heap.size t a' b' c' d' e'∧Below w.heap.size w w':=by
 have HI:=hide h;have T1:=hide fun w h=>Pq t.vo t.lo t.n t.s a t.qw t.d w h;have T2:=hide fun w h=>fZ bo cb t.pool w hs.p h;have T3:=hide fun v w h=>Vv v t.tab w hs.tb h;have wO:=hide fun v w h=>YT v t.AY t.su w h;have T5:=hide fun v w h=>Vu v t.held w hs.h h;obtain⟨oa,ka,rfl⟩:=h.q.form;obtain⟨oc,kc,rfl⟩:=h.tb.form;obtain⟨od,kd,rfl⟩:=RB.Bi h.d;obtain⟨oe,ke,rfl⟩:=h.h.form;clear h hs;obtain⟨w0,hw0,AO,P,R,O,Cm⟩:=yT w #[.int .i64 t.id,.int .i64 t.vw,.int .i64 t.ak,.int .i64 t.vo,.int .i64 t.lo,.int .i64 t.n,.string t.s,.slice oa t.qw.length ka,.string t.d,.slice bo t.pool.length cb,.slice oc t.tab.length kc,.slice od t.AY.length kd,.int .i64 t.su,.slice oe t.held.length ke] 36 #[.int .i64 0,.int .i64 0,.int .i64 0,.int .i64 0,.int .i64 0,.int .i64 0,.string ⟨#[]⟩,.slice none 0 0,.string ⟨#[]⟩,.slice none 0 0,.slice none 0 0,.slice none 0 0,.int .i64 0,.slice none 0 0] 46 #[.int .i64 0,.int .i64 0,.int .i64 0,.int .i64 0,.int .i64 0,.int .i64 0,.string ⟨#[]⟩,.slice none 0 0,.string ⟨#[]⟩,.slice none 0 0,.slice none 0 0,.slice none 0 0,.int .i64 0,.slice none 0 0] 46;go_enter Tryz.func9,Tryz.ntmps9
 obtain⟨Me,U9,cP2⟩:=CW P 0 1 2;obtain⟨YG,ek,cO2⟩:=CW O 0 1 2;have fO:=O.frozen;go_upto_region 5 with fail
 clear hw0 Me U9 cP2 YG ek cO2 fO;obtain⟨w1,hw1⟩:∃Co,(((w0.setCell ⟨w.heap.size+1+1,0,none⟩ (.int .i64 t.id)).setCell ⟨w.heap.size+1+1,1,none⟩ (.int .i64 t.vw)).setCell ⟨w.heap.size+1+1,2,none⟩ (.int .i64 t.ak))=Co:=⟨_,rfl⟩
 have kN:Kp w0 w1 (fun k=>k=w.heap.size+1+1):=hw1▸((AJ _ _ _ _).trans (AJ _ _ _ _)).trans (AJ _ _ _ _);replace O:Loc w1 (w.heap.size+1+1) #[.int .i64 t.id,.int .i64 t.vw,.int .i64 t.ak,.int .i64 0,.int .i64 0,.int .i64 0,.string ⟨#[]⟩,.slice none 0 0,.string ⟨#[]⟩,.slice none 0 0,.slice none 0 0,.slice none 0 0,.int .i64 0,.slice none 0 0]:=hw1▸(((O.set 0 _ rfl).set 1 _ rfl).set 2 _ rfl);replace P:=P.kp kN (by omega);replace R:=R.kp kN (by omega);have AL:=Below.kp AO kN AO.size (fun k hk=>by omega);have Cj:=kN.size;rw[hw1];clear hw1 kN AO;go_wp2_with (first|(refine A7 [.int .i64 t.vo,.int .i64 t.lo,.int .i64 t.n,.string t.s,.slice oa t.qw.length ka,.string t.d] (P.range 3 6 rfl) 28 _ rfl _ rfl rfl Tryz.underlying28 rfl (by kernel_rfl) ?_))
 refine(T1.out _ (HI.out.q.below AL)).mono ?_;rintro _ w2 ⟨uA,rfl,oA,bb⟩;have Ah:=bu AL bb;have Ej:=bb.size;replace P:=P.up bb;replace R:=R.up bb;replace O:=O.up bb;clear AL bb;have toA:=World.ownsRow.lt oA;obtain⟨EG,D_,rfl⟩:=oA.form;go_upto_region 6 with(refine En #[.int .i64 t.vo,.int .i64 t.lo,.int .i64 t.n,.string t.s,.slice EG t.qw.length D_,.string t.d] (O.there 3 6 (by simp)) 40 rfl _ _ rfl rfl rfl (by kernel_rfl) (by simp[Value.oneCell']) ?_)
 obtain⟨w3,hw3⟩:∃y,w2.setCells (w.heap.size+1+1) 3 [.int .i64 t.vo,.int .i64 t.lo,.int .i64 t.n,.string t.s,.slice EG t.qw.length D_,.string t.d]=y:=⟨_,rfl⟩
 rw[hw3];have kN:Kp w2 w3 (fun k=>k=w.heap.size+1+1):=hw3▸AQ _ _ _ _;replace O:Loc w3 (w.heap.size+1+1) #[.int .i64 t.id,.int .i64 t.vw,.int .i64 t.ak,.int .i64 t.vo,.int .i64 t.lo,.int .i64 t.n,.string t.s,.slice EG t.qw.length D_,.string t.d,.slice none 0 0,.slice none 0 0,.slice none 0 0,.int .i64 0,.slice none 0 0]:=hw3▸O.setCells _ _ rfl;replace P:=P.kp kN (by omega);replace R:=R.kp kN (by omega);replace oA:=oA.kp kN (fun j hj e=>by have:=toA j hj;omega);have BH:=Below.kp Ah kN Ah.size (fun k hk=>by omega);have IL:=kN.size;clear hw3 kN Ah;have aP:=P.cell 9 rfl;go_wp2_with fail
 refine(T2.out _ (HI.out.p.below BH)).mono ?_;rintro _ w4 ⟨uB,rfl,oB,bb⟩;clear aP;have Cr:=bu BH bb;have Nq:=bb.size;replace P:=P.up bb;replace R:=R.up bb;replace O:=O.up bb;replace oA:=oA.below bb;clear BH bb;have Bj:=World.ownsRow.lt oB;obtain⟨GD,F9,rfl⟩:=OT.Bi oB;have cO9:=O.cell 9 rfl;have fO:=O.frozen;go_upto_region 7 with fail
 clear cO9 fO;obtain⟨w5,N8⟩:∃Co,(w4.setCell ⟨w.heap.size+1+1,9,none⟩ (.slice GD t.pool.length F9))=Co:=⟨_,rfl⟩
 have kN:Kp w4 w5 (fun k=>k=w.heap.size+1+1):=N8▸AJ _ _ _ _;replace O:Loc w5 (w.heap.size+1+1) #[.int .i64 t.id,.int .i64 t.vw,.int .i64 t.ak,.int .i64 t.vo,.int .i64 t.lo,.int .i64 t.n,.string t.s,.slice EG t.qw.length D_,.string t.d,.slice GD t.pool.length F9,.slice none 0 0,.slice none 0 0,.int .i64 0,.slice none 0 0]:=N8▸(O.set 9 _ rfl);replace P:=P.kp kN (by omega);replace R:=R.kp kN (by omega);replace oA:=oA.kp kN (fun j hj e=>by have:=toA j hj;omega);replace oB:=oB.kp kN (fun j hj e=>by have:=Bj j hj;omega);have Fj:=Below.kp Cr kN Cr.size (fun k hk=>by omega);have Yt:=kN.size;rw[N8];clear N8 kN Cr;have M9:=P.cell 10 rfl;go_wp2_with fail
 refine(T3.out _ _ (HI.out.tb.below Fj)).mono ?_;rintro _ w6 ⟨uC,rfl,oC,bb⟩;clear M9;have JD:=bu Fj bb;have rz:=bb.size;replace P:=P.up bb;replace R:=R.up bb;replace O:=O.up bb;replace oA:=oA.below bb;replace oB:=oB.below bb;clear Fj bb;obtain⟨FI,FH,rfl⟩:=oC.form;obtain⟨vs,oC⟩:=oC;replace oC:=oC.opr;obtain⟨s3,hs3⟩:∃x,w6.heap.size=x:=⟨_,rfl⟩
 rw[hs3]at oC;have yL:=O.cell 10 rfl;have fO:=O.frozen;go_upto_region 8 with fail
 clear yL fO;obtain⟨w7,hw7⟩:∃Co,(w6.setCell ⟨w.heap.size+1+1,10,none⟩ (.slice FI t.tab.length FH))=Co:=⟨_,rfl⟩
 have kN:Kp w6 w7 (fun k=>k=w.heap.size+1+1):=hw7▸AJ _ _ _ _;replace O:Loc w7 (w.heap.size+1+1) #[.int .i64 t.id,.int .i64 t.vw,.int .i64 t.ak,.int .i64 t.vo,.int .i64 t.lo,.int .i64 t.n,.string t.s,.slice EG t.qw.length D_,.string t.d,.slice GD t.pool.length F9,.slice FI t.tab.length FH,.slice none 0 0,.int .i64 0,.slice none 0 0]:=hw7▸(O.set 10 _ rfl);replace P:=P.kp kN (by omega);replace R:=R.kp kN (by omega);replace oA:=oA.kp kN (fun j hj e=>by have:=toA j hj;omega);replace oB:=oB.kp kN (fun j hj e=>by have:=Bj j hj;omega);replace oC:=oC.kp kN (fun j h1 h2 e=>by omega);have NM:=Below.kp JD kN JD.size (fun k hk=>by omega);have sw7:=kN.size;rw[hw7];clear hw7 kN JD;go_wp2_with (first|(refine A7 [.slice od t.AY.length kd,.int .i64 t.su] (P.range 11 2 rfl) 33 _ rfl _ rfl rfl Tryz.underlying33 rfl (by kernel_rfl) ?_))
 refine(wO.out _ _ (HI.out.d.below NM)).mono ?_;rintro _ w8 ⟨uD,rfl,oD,bb⟩;have Ti:=bu NM bb;have sw8:=bb.size;replace P:=P.up bb;replace R:=R.up bb;replace O:=O.up bb;replace oA:=oA.below bb;replace oB:=oB.below bb;clear NM;replace oC:=oC.below bb;clear bb;have GZ:=World.ownsRow.lt oD;obtain⟨Cu,Cs,rfl⟩:=oD.form;go_upto_region 9 with(refine En #[.slice Cu t.AY.length Cs,.int .i64 t.su] (O.there 11 2 (by simp)) 43 rfl _ _ rfl rfl rfl (by kernel_rfl) (by simp[Value.oneCell']) ?_)
 obtain⟨w9,eB⟩:∃y,w8.setCells (w.heap.size+1+1) 11 [.slice Cu t.AY.length Cs,.int .i64 t.su]=y:=⟨_,rfl⟩
 rw[eB];have kN:Kp w8 w9 (fun k=>k=w.heap.size+1+1):=eB▸AQ _ _ _ _;replace O:Loc w9 (w.heap.size+1+1) #[.int .i64 t.id,.int .i64 t.vw,.int .i64 t.ak,.int .i64 t.vo,.int .i64 t.lo,.int .i64 t.n,.string t.s,.slice EG t.qw.length D_,.string t.d,.slice GD t.pool.length F9,.slice FI t.tab.length FH,.slice Cu t.AY.length Cs,.int .i64 t.su,.slice none 0 0]:=eB▸O.setCells _ _ rfl;replace P:=P.kp kN (by omega);replace R:=R.kp kN (by omega);replace oA:=oA.kp kN (fun j hj e=>by have:=toA j hj;omega);replace oB:=oB.kp kN (fun j hj e=>by have:=Bj j hj;omega);replace oD:=oD.kp kN (fun j hj e=>by have:=GZ j hj;omega);replace oC:=oC.kp kN (fun j h1 h2 e=>by omega);have fG:=Below.kp Ti kN Ti.size (fun k hk=>by omega);have sw9:=kN.size;clear eB kN Ti;have U8:=P.cell 13 rfl;go_wp2_with fail
 refine(T5.out _ _ (HI.out.h.below fG)).mono ?_;rintro _ Vp ⟨uE,rfl,oE,bb⟩;clear U8;have Kz:=bu fG bb;have xK:=bb.size;replace P:=P.up bb;replace R:=R.up bb;replace O:=O.up bb;replace oA:=oA.below bb;replace oB:=oB.below bb;replace oD:=oD.below bb;clear fG;replace oC:=oC.below bb;clear bb;obtain⟨N_,Nv,rfl⟩:=oE.form;have yK:=O.cell 13 rfl;have fO:=O.frozen;go_upto_region 10 with fail
 clear yK fO;obtain⟨ko,Uq⟩:∃Co,(Vp.setCell ⟨w.heap.size+1+1,13,none⟩ (.slice N_ t.held.length Nv))=Co:=⟨_,rfl⟩
 have kN:Kp Vp ko (fun k=>k=w.heap.size+1+1):=Uq▸AJ _ _ _ _;replace O:Loc ko (w.heap.size+1+1) #[.int .i64 t.id,.int .i64 t.vw,.int .i64 t.ak,.int .i64 t.vo,.int .i64 t.lo,.int .i64 t.n,.string t.s,.slice EG t.qw.length D_,.string t.d,.slice GD t.pool.length F9,.slice FI t.tab.length FH,.slice Cu t.AY.length Cs,.int .i64 t.su,.slice N_ t.held.length Nv]:=Uq▸(O.set 13 _ rfl);replace P:=P.kp kN (by omega);replace R:=R.kp kN (by omega);replace oA:=oA.kp kN (fun j hj e=>by have:=toA j hj;omega);replace oB:=oB.kp kN (fun j hj e=>by have:=Bj j hj;omega);replace oD:=oD.kp kN (fun j hj e=>by have:=GZ j hj;omega);replace oC:=oC.kp kN (fun j h1 h2 e=>by omega);replace oE:=oE.kp kN (fun j h1 e=>by omega);have SH:=Below.kp Kz kN Kz.size (fun k hk=>by omega);have AAQ:=kN.size;rw[Uq];clear Uq kN Kz;go_wp2_with (first|(refine Al O 46 _ rfl _ rfl rfl Tryz.underlying46 rfl (by kernel_rfl) ?_)|(refine BL R 46 #[.int .i64 t.id,.int .i64 t.vw,.int .i64 t.ak,.int .i64 t.vo,.int .i64 t.lo,.int .i64 t.n,.string t.s,.slice EG t.qw.length D_,.string t.d,.slice GD t.pool.length F9,.slice FI t.tab.length FH,.slice Cu t.AY.length Cs,.int .i64 t.su,.slice N_ t.held.length Nv] rfl _ _ rfl rfl rfl (by kernel_rfl) rfl (by simp[Value.oneCell']) ?_))
 obtain⟨wE,Bh⟩:∃Co,ko.setRow (w.heap.size+1) #[.int .i64 t.id,.int .i64 t.vw,.int .i64 t.ak,.int .i64 t.vo,.int .i64 t.lo,.int .i64 t.n,.string t.s,.slice EG t.qw.length D_,.string t.d,.slice GD t.pool.length F9,.slice FI t.tab.length FH,.slice Cu t.AY.length Cs,.int .i64 t.su,.slice N_ t.held.length Nv]=Co:=⟨_,rfl⟩
 have kN:Kp ko wE (fun k=>k=w.heap.size+1):=Bh▸CG _ _ _;replace R:Loc wE (w.heap.size+1) #[.int .i64 t.id,.int .i64 t.vw,.int .i64 t.ak,.int .i64 t.vo,.int .i64 t.lo,.int .i64 t.n,.string t.s,.slice EG t.qw.length D_,.string t.d,.slice GD t.pool.length F9,.slice FI t.tab.length FH,.slice Cu t.AY.length Cs,.int .i64 t.su,.slice N_ t.held.length Nv]:=Bh▸R.row;replace P:=P.kp kN (by omega);replace O:=O.kp kN (by omega);replace oA:=oA.kp kN (fun j hj e=>by have:=toA j hj;omega);replace oB:=oB.kp kN (fun j hj e=>by have:=Bj j hj;omega);replace oD:=oD.kp kN (fun j hj e=>by have:=GZ j hj;omega);replace oC:=oC.kp kN (fun j h1 h2 e=>by omega);replace oE:=oE.kp kN (fun j h1 e=>by omega);have FC:=Below.kp SH kN SH.size (fun k hk=>by omega);have Oa:=kN.size;rw[Bh];clear Bh kN SH;refine bodyPost_ret (v:=FX t (.slice EG t.qw.length D_) (.slice GD t.pool.length F9) (.slice FI t.tab.length FH) (.slice Cu t.AY.length Cs) (.slice N_ t.held.length Nv)) (DL Tryz.results9 _ R rfl Tryz.underlying46 rfl (by kernel_rfl)) rfl ?_;exact⟨_,_,_,_,_,rfl,⟨w3.heap.size,w5.heap.size,s3,w9.heap.size,vs,by omega,⟨oA.mono (by omega),fun j hj=>by have:=toA j hj;omega⟩,⟨oB,fun j hj=>by have:=Bj j hj;omega⟩,oC,⟨oD.mono (by omega),fun j hj=>by have:=GZ j hj;omega⟩,oE.mono Af (by omega)⟩,FC⟩
theorem Xf(t:Bv)(a b c d e:Value)(k0:Nat)(w:World)(hs:J8 t)(hk:k0≤10000000)(hb:WT k0 t≤100000000)(h:EI w (xQ k0 t) a b c d e):
 Calls Tryz.prog 13 #[FX t a b c d e,.int .i64 k0] w fun r w'=>r= .returned (.int .i64 (WT k0 t))∧Below w.heap.size w w':=by
 obtain⟨q1,hq1⟩:∃x,iB k0 t=x:=⟨_,rfl⟩
 obtain⟨q2,hq2⟩:∃x,dW k0 t=x:=⟨_,rfl⟩
 obtain⟨q3,hq3⟩:∃x,iA k0 t=x:=⟨_,rfl⟩
 obtain⟨q4,hq4⟩:∃x,YB k0 t=x:=⟨_,rfl⟩
 obtain⟨q5,eD⟩:∃x,WT k0 t=x:=⟨_,rfl⟩
 have hle:=vP k0 t;rw[hq1,hq2,hq3,hq4,eD]at hle;rw[eD]at hb⊢;have hr:xQ k0 t={ t with qw:=BP k0 t.qw.length,pool:=Cy q1 t.pool.length,tab:=Oc q2 t.tab,AY:=marks q3 t.AY.length,held:=Fu q4 t.held }:=by unfold xQ;rw[hq1,hq2,hq3,hq4]
 rw[hr]at h;clear hr;unfold iB at hq1;unfold dW at hq2;unfold iA at hq3;unfold YB at hq4;unfold WT at eD;have e1:iB k0 t=q1:=hq1;have e2:dW k0 t=q2:=hq2;have e3:iA k0 t=q3:=hq3;have e4:YB k0 t=q4:=hq4;rw[e1]at hq2;rw[e2]at hq3;rw[e3]at hq4;rw[e4]at eD;clear e1 e2 e3 e4
 have M1:Hid (∀w,RI w a (BP k0 t.qw.length)→Calls Tryz.prog 51 #[sv t.vo t.lo t.n t.s a t.d,.int .i64 k0] w fun e w'=>e= .returned (.int .i64 q1)∧Below w.heap.size w w'):=hide fun w h=>by
  have:=Xe t.vo t.lo t.n t.s a t.d t.qw.length k0 w (by omega) (by have:=hs.q;omega) h;rw[←hq1];simpa using this
 have M2:Hid (∀w,RT w b (Cy q1 t.pool.length)→Calls Tryz.prog 52 #[b,.int .i64 q1] w fun e w'=>e= .returned (.int .i64 q2)∧Below w.heap.size w w'):=hide fun w h=>by
  have:=fw b t.pool.length q1 w (by have:=hs.p;omega) (by omega) h;rw[←hq2];simpa using this
 have M3:Hid (∀w,PL w c (Oc q2 t.tab)→Calls Tryz.prog 53 #[c,.int .i64 q2] w fun e w'=>e= .returned (.int .i64 q3)∧Below w.heap.size w w'):=hide fun w h=>by
  have:=Rz c t.tab q2 w (by have:=hs.tb;omega) (by omega) h;rw[←hq3];exact this
 have M4:Hid (∀w,RB w d (marks q3 t.AY.length)→Calls Tryz.prog 54 #[dv d t.su,.int .i64 q3] w fun e w'=>e= .returned (.int .i64 q4)∧Below w.heap.size w w'):=hide fun w h=>by
  have:=Xg d t.su t.AY.length q3 w (by omega) h;rw[←hq4];simpa using this
 have M5:Hid (∀w,K8 w e (Fu q4 t.held)→Calls Tryz.prog 55 #[e,.int .i64 q4] w fun e' w'=>e'= .returned (.int .i64 q5)∧Below w.heap.size w w'):=hide fun w h=>by
  have:=Ry e t.held q4 w (by have:=hs.h;omega) (by omega) h;rw[←eD];exact this
 clear hb hq1 hq2 hq3 hq4 eD hs;have HR:=hide h;have fa:=h.q.form;have fb:=RT.Bi h.p;have fc:=h.tb.form;have fd:=RB.Bi h.d;have fe:=h.h.form;simp only[CV,EP,Ia,Ed,Dq]at fa fb fc fd fe;clear h;obtain⟨oa,ka,rfl⟩:=fa;obtain⟨ob,kb,rfl⟩:=fb;obtain⟨oc,kc,rfl⟩:=fc;obtain⟨od,kd,rfl⟩:=fd;obtain⟨oe,ke,rfl⟩:=fe;have hd1:decide ((q1:Int)<0)=false:=by simp
 have hd2:decide ((q2:Int)<0)=false:=by simp
 have hd3:decide ((q3:Int)<0)=false:=by simp
 have hd4:decide ((q4:Int)<0)=false:=by simp
 have hd5:decide ((q5:Int)<0)=false:=by simp
 obtain⟨w0,hw0,AO,P,Cm⟩:=bx1 w #[.int .i64 t.id,.int .i64 t.vw,.int .i64 t.ak,.int .i64 t.vo,.int .i64 t.lo,.int .i64 t.n,.string t.s,.slice oa t.qw.length ka,.string t.d,.slice ob t.pool.length kb,.slice oc t.tab.length kc,.slice od t.AY.length kd,.int .i64 t.su,.slice oe t.held.length ke] 46;go_enter Tryz.func13,Tryz.ntmps13
 go_wp2_with (first|(refine A7 [.int .i64 t.vo,.int .i64 t.lo,.int .i64 t.n,.string t.s,.slice oa t.qw.length ka,.string t.d] (P.range 3 6 rfl) 40 _ rfl _ rfl rfl Tryz.underlying40 rfl (by kernel_rfl) ?_))
 clear hw0;refine(M1.out _ (HR.out.q.below AO)).mono ?_;rintro _ w1 ⟨rfl,bb⟩;have AL:=bu AO bb;have Cj:=bb.size;replace P:=P.up bb;clear AO bb;have aP:=P.cell 9 rfl;go_wp2_with fail
 refine(M2.out _ (HR.out.p.below AL)).mono ?_;rintro _ w2 ⟨rfl,bb⟩;clear aP;have Ah:=bu AL bb;have Ej:=bb.size;replace P:=P.up bb;clear AL bb;have M9:=P.cell 10 rfl;go_wp2_with fail
 refine(M3.out _ (HR.out.tb.below Ah)).mono ?_;rintro _ w3 ⟨rfl,bb⟩;clear M9;have BH:=bu Ah bb;have IL:=bb.size;replace P:=P.up bb;clear Ah bb;go_wp2_with (first|(refine A7 [.slice od t.AY.length kd,.int .i64 t.su] (P.range 11 2 rfl) 43 _ rfl _ rfl rfl Tryz.underlying43 rfl (by kernel_rfl) ?_))
 refine(M4.out _ (HR.out.d.below BH)).mono ?_;rintro _ w4 ⟨rfl,bb⟩;have Cr:=bu BH bb;have Nq:=bb.size;replace P:=P.up bb;clear BH bb;have U8:=P.cell 13 rfl;go_wp2_with fail
 refine(M5.out _ (HR.out.h.below Cr)).mono ?_;rintro _ w5 ⟨rfl,bb⟩;clear U8;have Fj:=bu Cr bb;have Yt:=bb.size;replace P:=P.up bb;clear Cr bb;go_wp2;go_ret;exact⟨rfl,Fj⟩
def Du(w:World)(lo hi:Nat)(t:Bv)(a b c d e:Value):Prop:=∃s1 t1 s2 s3 u0 u1 s4 vs,(lo≤s1∧s1≤t1∧t1≤s2∧s2≤s3∧s3≤s4∧s4≤hi∧hi≤w.heap.size∧s1≤u0∧u0≤u1∧u1≤s4∧(u1≤t1∨s3≤u0))∧(OI w lo a t.qw∧∀j,a.ownBlock=some j→j<s1)∧(OT w t1 b t.pool∧∀j,b.ownBlock=some j→j<s2)∧Tg w s2 s3 c t.tab vs∧(OB w u0 d t.AY∧∀j,d.ownBlock=some j→j<u1)∧Q9 w s4 hi e t.held
theorem GK.gen{w:World}{lo hi:Nat}{t:Bv}{a b c d e:Value}(h:GK w lo hi t a b c d e):Du w lo hi t a b c d e:=by
 obtain⟨s1,s2,s3,s4,vs,hs,a1,b1,c1,d1,e1⟩:=h;exact⟨s1,s1,s2,s3,s3,s4,s4,vs,by omega,a1,b1,c1,d1,e1⟩
theorem Du.kp{w w':World}{lo hi:Nat}{X:Nat→Prop}{t:Bv}{a b c d e:Value}(h:Du w lo hi t a b c d e)(k:Kp w w' X)(hX:∀j,lo≤j→j<hi→¬X j):Du w' lo hi t a b c d e:=by
 obtain⟨s1,t1,s2,s3,u0,u1,s4,vs,hs,⟨a1,a2⟩,⟨b1,b2⟩,c1,⟨d1,d2⟩,e1⟩:=h;have z:=k.size;have la:=World.ownsRow.lt a1;have lb:=World.ownsRow.lt b1;have ld:=World.ownsRow.lt d1;exact⟨s1,t1,s2,s3,u0,u1,s4,vs,by omega,⟨a1.kp k (fun j hj=>hX j (la j hj).1 (by have:=a2 j hj;omega)),a2⟩,⟨b1.kp k (fun j hj=>hX j (by have:=lb j hj;omega) (by have:=b2 j hj;omega)),b2⟩,c1.kp k (fun j h1 h2=>hX j (by omega) (by omega)),⟨d1.kp k (fun j hj=>hX j (by have:=ld j hj;omega) (by have:=d2 j hj;omega)),d2⟩,e1.kp k (fun j h1 h2=>hX j (by omega) h2)⟩
theorem Du.below{w w':World}{lo hi:Nat}{t:Bv}{a b c d e:Value}(h:Du w lo hi t a b c d e)(hb:Below w.heap.size w w'):Du w' lo hi t a b c d e:=h.kp (Below.Bf hb (fun _=>False)) (fun _ _ _ h=>h)
theorem Du.mono{w:World}{lo lo' hi hi':Nat}{t:Bv}{a b c d e:Value}(h:Du w lo hi t a b c d e)(h1:lo'≤lo)(h2:hi≤hi')(h3:hi'≤w.heap.size):Du w lo' hi' t a b c d e:=by
 obtain⟨s1,t1,s2,s3,u0,u1,s4,vs,hs,⟨a1,a2⟩,b1,c1,d1,e1⟩:=h;exact⟨s1,t1,s2,s3,u0,u1,s4,vs,by omega,⟨a1.mono h1,a2⟩,b1,c1,d1,e1.mono Af h2⟩
theorem Du.form{w:World}{lo hi:Nat}{t:Bv}{a b c d e:Value}(h:Du w lo hi t a b c d e):∃ao ca bo cb co cc od cd oe ce,a= .slice ao t.qw.length ca∧b= .slice bo t.pool.length cb∧c= .slice co t.tab.length cc∧d= .slice od t.AY.length cd∧e= .slice oe t.held.length ce:=by
 obtain⟨s1,t1,s2,s3,u0,u1,s4,vs,hs,⟨a1,a2⟩,⟨b1,b2⟩,c1,⟨d1,d2⟩,e1⟩:=h;obtain⟨ao,ca,rfl⟩:=a1.form;obtain⟨bo,cb,rfl⟩:=OT.Bi b1;obtain⟨co,cc,rfl⟩:=NK.form ⟨vs,c1.tab⟩;obtain⟨od,cd,rfl⟩:=d1.form;obtain⟨oe,ce,rfl⟩:=e1.form;exact⟨_,_,_,_,_,_,_,_,_,_,rfl,rfl,rfl,rfl,rfl⟩
theorem Du.Aq{w:World}{lo hi:Nat}{t:Bv}{a b c d e:Value}(h:Du w lo hi t a b c d e)(hs:J8 t):EI w t a b c d e:=by
 obtain⟨s1,t1,s2,s3,u0,u1,s4,vs,_,⟨a1,_⟩,⟨b1,_⟩,c1,⟨d1,_⟩,e1⟩:=h;exact⟨a1.ri (by have:=hs.q;omega),b1.rt (by have:=hs.p;omega),c1.vQ hs.tt,d1.rb (by have:=hs.d;omega),e1.y8.vR hs.hh⟩
theorem L_(lo hi:Nat)(t:Bv)(a b c d e:Value)(k0:Nat)(w:World)(hs:J8 t)(hb:WT k0 t≤100000000)(h:Du w lo hi t a b c d e):
 Calls Tryz.prog 12 #[FX t a b c d e,.int .i64 k0] w fun r w'=>r= .returned (.int .i64 (WT k0 t))∧Du w' lo hi (xQ k0 t) a b c d e∧Kp w w' (fun b=>lo≤b∧b<hi):=by
 obtain⟨s1,t1,s2,s3,u0,u1,s4,vs,hs0,⟨oA,tA⟩,⟨oB,tB⟩,oC,⟨oD,tD⟩,oE⟩:=h;have rA:∀j,a.ownBlock=some j→lo≤j∧j<s1:=fun j hj=>⟨(World.ownsRow.lt oA j hj).1,tA j hj⟩
 have rB:∀j,b.ownBlock=some j→t1≤j∧j<s2:=fun j hj=>⟨(World.ownsRow.lt oB j hj).1,tB j hj⟩
 have rD:∀j,d.ownBlock=some j→u0≤j∧j<u1:=fun j hj=>⟨(World.ownsRow.lt oD j hj).1,tD j hj⟩
 obtain⟨q1,hq1⟩:∃x,iB k0 t=x:=⟨_,rfl⟩
 obtain⟨q2,hq2⟩:∃x,dW k0 t=x:=⟨_,rfl⟩
 obtain⟨q3,hq3⟩:∃x,iA k0 t=x:=⟨_,rfl⟩
 obtain⟨q4,hq4⟩:∃x,YB k0 t=x:=⟨_,rfl⟩
 obtain⟨q5,eD⟩:∃x,WT k0 t=x:=⟨_,rfl⟩
 have hle:=vP k0 t;rw[hq1,hq2,hq3,hq4,eD]at hle;rw[eD]at hb;have hr:xQ k0 t={ t with qw:=BP k0 t.qw.length,pool:=Cy q1 t.pool.length,tab:=Oc q2 t.tab,AY:=marks q3 t.AY.length,held:=Fu q4 t.held }:=by unfold xQ;rw[hq1,hq2,hq3,hq4]
 rw[hr,eD];clear hr;unfold iB at hq1;unfold dW at hq2;unfold iA at hq3;unfold YB at hq4;unfold WT at eD;have e1:iB k0 t=q1:=hq1;have e2:dW k0 t=q2:=hq2;have e3:iA k0 t=q3:=hq3;have e4:YB k0 t=q4:=hq4;rw[e1]at hq2;rw[e2]at hq3;rw[e3]at hq4;rw[e4]at eD;clear e1 e2 e3 e4
 have M1:Hid (∀w,OI w lo a t.qw→Calls Tryz.prog 19 #[sv t.vo t.lo t.n t.s a t.d,.int .i64 k0] w fun e w'=>e= .returned (.int .i64 q1)∧OI w' lo a (BP k0 t.qw.length)∧Kp w w' (fun k=>a.ownBlock=some k)):=hide fun w h=>by
  have:=L9 t.vo t.lo t.n t.s lo a t.d t.qw k0 w (by have:=hs.q;omega) (by omega) h;rw[←hq1];simpa using this
 have M2:Hid (∀w,OT w t1 b t.pool→Calls Tryz.prog 47 #[b,.int .i64 q1] w fun e w'=>e= .returned (.int .i64 q2)∧OT w' t1 b (Cy q1 t.pool.length)∧Kp w w' (fun k=>b.ownBlock=some k)):=hide fun w h=>by
  have:=Ya t1 q1 b t.pool w (by have:=hs.p;omega) (by omega) h;rw[←hq2];simpa using this
 have M3:Hid (∀w,Tg w s2 s3 c t.tab vs→Calls Tryz.prog 48 #[c,.int .i64 q2] w fun e w'=>e= .returned (.int .i64 q3)∧Tg w' s2 s3 c (Oc q2 t.tab) vs∧Kp w w' (fun b=>s2≤b∧b<s3)):=hide fun w h=>by
  have:=Rs s2 s3 c t.tab vs q2 w (by have:=hs.tb;omega) hs.tt (by omega) h;rw[←hq3];exact this
 have M4:Hid (∀w,OB w u0 d t.AY→Calls Tryz.prog 49 #[dv d t.su,.int .i64 q3] w fun e w'=>e= .returned (.int .i64 q4)∧OB w' u0 d (marks q3 t.AY.length)∧Kp w w' (fun k=>d.ownBlock=some k)):=hide fun w h=>by
  have:=UZ t.su u0 d t.AY q3 w (by have:=hs.d;omega) (by omega) h;rw[←hq4];simpa using this
 have M5:Hid (∀w,Q9 w s4 hi e t.held→Calls Tryz.prog 50 #[e,.int .i64 q4] w fun e' w'=>e'= .returned (.int .i64 q5)∧Q9 w' s4 hi e (Fu q4 t.held)∧Kp w w' (fun b=>s4≤b∧b<hi)):=hide fun w h=>by
  have:=Rp s4 hi e t.held q4 w (by have:=hs.h;omega) hs.hh (by omega) h;rw[←eD];exact this
 clear hb hq1 hq2 hq3 hq4 eD hs tA tB tD;obtain⟨oa,ka,rfl⟩:=oA.form;obtain⟨ob,kb,rfl⟩:=OT.Bi oB;obtain⟨oc,kc,rfl⟩:=NK.form ⟨vs,oC.tab⟩;obtain⟨od,kd,rfl⟩:=oD.form;obtain⟨oe,ke,rfl⟩:=oE.form;obtain⟨w0,hw0,AO,P,Cm⟩:=bx1 w #[.int .i64 t.id,.int .i64 t.vw,.int .i64 t.ak,.int .i64 t.vo,.int .i64 t.lo,.int .i64 t.n,.string t.s,.slice oa t.qw.length ka,.string t.d,.slice ob t.pool.length kb,.slice oc t.tab.length kc,.slice od t.AY.length kd,.int .i64 t.su,.slice oe t.held.length ke] 46;go_enter Tryz.func12,Tryz.ntmps12
 replace oA:=oA.below AO;replace oB:=oB.below AO;replace oC:=oC.below AO;replace oD:=oD.below AO;replace oE:=oE.below AO;have KR:Kp w w0 (fun b=>lo≤b∧b<hi):=Below.Bf AO _;clear AO;go_wp2_with (first|(refine A7 [.int .i64 t.vo,.int .i64 t.lo,.int .i64 t.n,.string t.s,.slice oa t.qw.length ka,.string t.d] (P.range 3 6 rfl) 40 _ rfl _ rfl rfl Tryz.underlying40 rfl (by kernel_rfl) ?_))
 clear hw0;refine(M1.out _ oA).mono ?_;rintro _ v0 ⟨rfl,o2,kG⟩;replace oB:=oB.kp kG (fun j hj e=>by have h4:=rB j hj;have h5:=rA j e;omega);replace oC:=oC.kp kG (fun j h1 h2 e=>by have h5:=rA j e;omega);replace oD:=oD.kp kG (fun j hj e=>by have h4:=rD j hj;have h5:=rA j e;omega);replace oE:=oE.kp kG (fun j h1 h2 e=>by have h5:=rA j e;omega);replace oA:=o2;replace P:=P.kp kG (fun e=>by have h5:=rA _ e;omega);replace KR:=KR.trans (kG.mono (fun j e=>by have h5:=rA j e;omega));have zv0:=kG.size;clear kG;have c:=P.cell 9 rfl;go_wp2_with fail
 refine(M2.out _ oB).mono ?_;rintro _ v1 ⟨rfl,o2,kG⟩;clear c;replace oA:=oA.kp kG (fun j hj e=>by have h4:=rA j hj;have h5:=rB j e;omega);replace oC:=oC.kp kG (fun j h1 h2 e=>by have h5:=rB j e;omega);replace oD:=oD.kp kG (fun j hj e=>by have h4:=rD j hj;have h5:=rB j e;omega);replace oE:=oE.kp kG (fun j h1 h2 e=>by have h5:=rB j e;omega);replace oB:=o2;replace P:=P.kp kG (fun e=>by have h5:=rB _ e;omega);replace KR:=KR.trans (kG.mono (fun j e=>by have h5:=rB j e;omega));have zv1:=kG.size;clear kG;have c:=P.cell 10 rfl;go_wp2_with fail
 refine(M3.out _ oC).mono ?_;rintro _ v2 ⟨rfl,o2,kG⟩;clear c;replace oA:=oA.kp kG (fun j hj e=>by have h4:=rA j hj;obtain⟨h5,h6⟩:=e;omega);replace oB:=oB.kp kG (fun j hj e=>by have h4:=rB j hj;obtain⟨h5,h6⟩:=e;omega);replace oD:=oD.kp kG (fun j hj e=>by have h4:=rD j hj;obtain⟨h5,h6⟩:=e;omega);replace oE:=oE.kp kG (fun j h1 h2 e=>by obtain⟨h5,h6⟩:=e;omega);replace oC:=o2;replace P:=P.kp kG (fun e=>by obtain⟨h5,h6⟩:=e;omega);replace KR:=KR.trans (kG.mono (fun j e=>by obtain⟨h5,h6⟩:=e;omega));have zv2:=kG.size;clear kG;go_wp2_with (first|(refine A7 [.slice od t.AY.length kd,.int .i64 t.su] (P.range 11 2 rfl) 43 _ rfl _ rfl rfl Tryz.underlying43 rfl (by kernel_rfl) ?_))
 refine(M4.out _ oD).mono ?_;rintro _ v3 ⟨rfl,o2,kG⟩;replace oA:=oA.kp kG (fun j hj e=>by have h4:=rA j hj;have h5:=rD j e;omega);replace oB:=oB.kp kG (fun j hj e=>by have h4:=rB j hj;have h5:=rD j e;omega);replace oC:=oC.kp kG (fun j h1 h2 e=>by have h5:=rD j e;omega);replace oE:=oE.kp kG (fun j h1 h2 e=>by have h5:=rD j e;omega);replace oD:=o2;replace P:=P.kp kG (fun e=>by have h5:=rD _ e;omega);replace KR:=KR.trans (kG.mono (fun j e=>by have h5:=rD j e;omega));have zv3:=kG.size;clear kG;have c:=P.cell 13 rfl;go_wp2_with fail
 refine(M5.out _ oE).mono ?_;rintro _ v4 ⟨rfl,o2,kG⟩;clear c;replace oA:=oA.kp kG (fun j hj e=>by have h4:=rA j hj;obtain⟨h5,h6⟩:=e;omega);replace oB:=oB.kp kG (fun j hj e=>by have h4:=rB j hj;obtain⟨h5,h6⟩:=e;omega);replace oC:=oC.kp kG (fun j h1 h2 e=>by obtain⟨h5,h6⟩:=e;omega);replace oD:=oD.kp kG (fun j hj e=>by have h4:=rD j hj;obtain⟨h5,h6⟩:=e;omega);replace oE:=o2;replace P:=P.kp kG (fun e=>by obtain⟨h5,h6⟩:=e;omega);replace KR:=KR.trans (kG.mono (fun j e=>by obtain⟨h5,h6⟩:=e;omega));have zv4:=kG.size;clear kG;have OA:=hide oA;have OB_:=hide oB;have OC:=hide oC;have OD:=hide oD;have OE:=hide oE;have KH:=hide KR;clear oA oB oC oD oE KR;go_wp2;go_ret;exact⟨rfl,⟨s1,t1,s2,s3,u0,u1,s4,vs,by omega,⟨OA.out,fun j hj=>(rA j hj).2⟩,⟨OB_.out,fun j hj=>(rB j hj).2⟩,OC.out,⟨OD.out,fun j hj=>(rD j hj).2⟩,OE.out⟩,KH.out⟩
end
end Go.Proofs.YtcjmcgolgbkknaaGreatDoor
