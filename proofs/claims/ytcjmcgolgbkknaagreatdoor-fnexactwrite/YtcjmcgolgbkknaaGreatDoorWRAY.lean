/- Lemmas; their conditions stand in each statement. -/
import Derived.Test.YtcjmcgolgbkknaaGreatDoorWRAX
import Derived.Conc.MuLone
set_option maxRecDepth 100000
set_option maxHeartbeats 8000000
set_option linter.unusedSectionVars false
namespace Go.Proofs.YtcjmcgolgbkknaaGreatDoor
section
open Go.RowKit
variable [∀(n:Int)(s:List Int),Decidable (Dw n s)] [∀(a b c d:Int),Decidable (BK a b c d)] [∀(x y:T4),Decidable (Hu x y)] [∀(ts:List T4),Decidable (Asc ts)] [∀(ts:List T4),Decidable (Dh ts)] [∀(ts:List T4),Decidable (J9 ts)]
theorem Zo(v:Value)(ts:List T4)(w:World)(h:RT w v ts):
 Calls Tryz.prog 98 #[v] w fun e w'=>e= .returned (.bool (decide (J9 ts)))∧Below w.heap.size w w':=by
 have CF:=hide fun w h=>Uz v ts w h;have AS:=hide fun w h=>X6 v ts w h;have H:=hide h;have hl:=h.1;obtain⟨ao,ca,rfl⟩:=h.form;clear h;by_cases h1:ts.length≤12
 ·by_cases h2:Dh ts
  ·rw[decide_eq_true h2]at CF
   have e:decide (J9 ts)=decide (Asc ts):=by
    by_cases h3:Asc ts
    ·rw[decide_eq_true h3,decide_eq_true (show J9 ts from⟨h1,h2,h3⟩)]
    rw[decide_eq_false h3,decide_eq_false (fun h:J9 ts=>h3 h.2.2)]
   rw[e];clear e h2;go_enter Tryz.func98,Tryz.ntmps98
   go_wp2_with fail
   refine(CF.out _ H.out).mono ?_;rintro _ w1 ⟨rfl,b1⟩;go_wp2_with fail
   refine(Vo _ _ _ _).mono ?_;rintro _ w2 ⟨rfl,b2⟩;have B2:=bu b1 b2;go_wp2_with fail
   refine(AS.out _ (H.out.below B2)).mono ?_;rintro _ w3 ⟨rfl,b3⟩;have B3:=bu B2 b3;go_wp2;go_ret;exact⟨rfl,B3⟩
  rw[decide_eq_false h2]at CF;rw[decide_eq_false (fun h:J9 ts=>h2 h.2.1)];clear h2 AS;go_enter Tryz.func98,Tryz.ntmps98
  go_wp2_with fail
  refine(CF.out _ H.out).mono ?_;rintro _ w1 ⟨rfl,b1⟩;go_wp2;go_ret;exact⟨rfl,b1⟩
 rw[decide_eq_false (fun h:J9 ts=>h1 h.1)];have h1:decide ((ts.length:Int)≤12)=false:=by simp;omega
 clear CF AS;go_enter Tryz.func98,Tryz.ntmps98
 go_wp2;go_ret;exact⟨rfl,Below.refl _ _⟩

def kS(ts:List T4)(m:Nat):Prop:=∀j,j<m→BK (ts.getD j z4).1 (ts.getD j z4).2.1 (ts.getD j z4).2.2.1 (ts.getD j z4).2.2.2∧(∀i,j=i+1→Hu (ts.getD i z4) (ts.getD j z4))
theorem kS.succ{ts:List T4}{m:Nat}(h:kS ts m)(h1:BK (ts.getD m z4).1 (ts.getD m z4).2.1 (ts.getD m z4).2.2.1 (ts.getD m z4).2.2.2)(h2:∀i,m=i+1→Hu (ts.getD i z4) (ts.getD m z4)):kS ts (m+1):=fun j hj=>by
 by_cases e:j=m
 ·subst e;exact⟨h1,h2⟩
 exact h j (by omega)
theorem kS.all{ts:List T4}(h:kS ts ts.length):Dh ts∧Asc ts:=⟨fun k hk=>(h k hk).1,fun k hk=>(h (k+1) (by omega)).2 k rfl⟩

theorem Y7(v:Value)(ts:List T4)(w:World)(h:RT w v ts):
 Calls Tryz.prog 83 #[v] w fun e w'=>e= .returned (.bool (decide (J9 ts)))∧Below w.heap.size w w':=by
 obtain⟨ao,ca,rfl⟩:=h.form;have hl:=h.1;have H:=hide h;obtain⟨n,hn⟩:∃n,ts.length=n:=⟨_,rfl⟩
 have Hn:=hide hn;rw[hn]at hl H⊢;clear h hn;go_enter Tryz.func83,Tryz.ntmps83
 go_wp2
 go_loopw [3] (fun i wr=>∃m:Nat,m≤n∧i= .int .i64 m∧Hid (kS ts m)∧Below w.heap.size w wr) (fun i _=>n-(intOf i).toNat)
 case atStart=>exact⟨0,Nat.zero_le _,rfl,hide (fun j hj=>absurd hj (Nat.not_lt_zero j)),Below.refl _ _⟩
 case round=>
  obtain⟨m,hm,rfl,HA,br⟩:=hrel;by_cases hlt:m<n
  ·obtain⟨g,rfl,hy⟩:=H.out.at m (by rw[Hn.out];exact hlt);have CY:=hide (hy.below br);have TO:=hide fun w=>H8 (ts.getD m z4).1 (ts.getD m z4).2.1 (ts.getD m z4).2.2.1 (ts.getD m z4).2.2.2 w;have bA:Below wr.heap.size wr wr.drew:=Below.drew (Below.refl _ _);by_cases ho:BK (ts.getD m z4).1 (ts.getD m z4).2.1 (ts.getD m z4).2.2.1 (ts.getD m z4).2.2.2
   ·rw[decide_eq_true ho]at TO;by_cases h0:m=0
    ·have HS:=hide (HA.out.succ ho (fun i hi=>by omega));subst h0;clear ho HA hy;generalize ts.getD 0 z4=y at *;obtain⟨ya,yb,yc,yd⟩:=y;dsimp only at TO;have K:Hid (∀w',Below wr.heap.size wr w'→(w'.cell? ⟨g,0*4,none⟩=some (.int .i64 ya)∧w'.cell? ⟨g,0*4+1,none⟩=some (.int .i64 yb)∧w'.cell? ⟨g,0*4+2,none⟩=some (.int .i64 yc)∧w'.cell? ⟨g,0*4+3,none⟩=some (.int .i64 yd))):=hide fun w' hb=>CY.out.below hb;clear CY;go_wp2_with fail
     refine qo K bA (fun hHeld=>?_);refine tx 0 10 ?_;refine tx 1 11 ?_;refine tx 2 12 ?_;refine tx 3 13 ?_;refine rd 4 rfl (fun KK AA=>?_);go_simp;refine(TO.out _).mono ?_;rintro _ wa ⟨rfl,ba⟩;have bB:Below wr.heap.size wr wa:=bA.trans ba;clear hHeld;refine AA.out _ _ (K.out _ bB) (fun hHeld=>?_);clear AA KK;refine tx 5 15 ?_;refine tx 6 16 ?_;refine tx 7 17 ?_;refine tx 8 18 ?_;refine tx 9 19 ?_;refine sx 10 20 ?_;refine sx 11 21 ?_;refine sx 12 22 ?_;refine sx 13 23 ?_;refine sx 14 24 ?_;refine sx 15 25 ?_;refine sx 16 26 ?_;refine sx 17 27 ?_;refine sx 18 28 ?_;refine sx 19 29 ?_;refine sx 20 30 ?_;refine tx 21 31 ?_;refine tx 22 32 ?_;clear hHeld;refine Bu ?_;have BB:=bu br bB;go_wp2
     go_roundw
     case rel=>exact⟨1,by omega,by go_num,HS,BB⟩
     case measure=>simp[intOf];omega
    obtain⟨k,hk⟩:∃k,m=k+1:=⟨m-1,by omega⟩
    have hk1:(m:Int)-1=(k:Int):=by omega
    have hwk:IntKind.i64.wrap (k:Int)=(k:Int):=by rw[IntKind.wrap_i64];omega
    have hkn:k<n:=by omega
    have hm0:0<m:=by omega
    have hmd:decide ((0:Int)<(m:Int))=true:=by simp;omega
    obtain⟨g',e,hx⟩:=H.out.at k (by rw[Hn.out];exact hkn);cases e
    have CX:=hide (hx.below br);have BF:=hide fun w=>bQ (ts.getD k z4) (ts.getD m z4) w;have HS:=hide fun(hb:Hu (ts.getD k z4) (ts.getD m z4))=>HA.out.succ ho (fun i hi=>by rw[show i=k from by omega];exact hb);have HN:Hid (¬Hu (ts.getD k z4) (ts.getD m z4)→¬J9 ts):=hide fun h ha=>h (by have:=ha.2.2 k (by rw[Hn.out];omega);rwa [←hk]at this);replace hk:=hide hk;clear ho HA hy hx h0;by_cases hb:Hu (ts.getD k z4) (ts.getD m z4)
    ·rw[decide_eq_true hb]at BF;replace HS:=hide (HS.out hb);clear HN hb;generalize ts.getD m z4=y at *;generalize ts.getD k z4=x at *;obtain⟨ya,yb,yc,yd⟩:=y;obtain⟨xa,xb,xc,xd⟩:=x;dsimp only at TO BF;have K:Hid (∀w',Below wr.heap.size wr w'→(w'.cell? ⟨g,k*4,none⟩=some (.int .i64 xa)∧w'.cell? ⟨g,k*4+1,none⟩=some (.int .i64 xb)∧w'.cell? ⟨g,k*4+2,none⟩=some (.int .i64 xc)∧w'.cell? ⟨g,k*4+3,none⟩=some (.int .i64 xd))∧(w'.cell? ⟨g,m*4,none⟩=some (.int .i64 ya)∧w'.cell? ⟨g,m*4+1,none⟩=some (.int .i64 yb)∧w'.cell? ⟨g,m*4+2,none⟩=some (.int .i64 yc)∧w'.cell? ⟨g,m*4+3,none⟩=some (.int .i64 yd))):=hide fun w' hb=>⟨CX.out.below hb,CY.out.below hb⟩
     clear CX CY;go_wp2_with fail
     refine qo K bA (fun hHeld=>?_);refine tx 0 10 ?_;refine tx 1 11 ?_;refine tx 2 12 ?_;refine tx 3 13 ?_;refine rd 4 rfl (fun KK AA=>?_);go_simp;refine(TO.out _).mono ?_;rintro _ wa ⟨rfl,ba⟩;have bB:Below wr.heap.size wr wa:=bA.trans ba;clear hHeld;refine AA.out _ _ (K.out _ bB) (fun hHeld=>?_);clear AA KK;refine tx 5 15 ?_;refine tx 6 16 ?_;refine tx 7 17 ?_;refine tx 8 18 ?_;refine tx 9 19 ?_;refine tx 10 20 ?_;refine tx 11 21 ?_;refine tx 12 22 ?_;refine tx 13 23 ?_;refine tx 14 24 ?_;refine tx 15 25 ?_;refine tx 16 26 ?_;refine tx 17 27 ?_;refine tx 18 28 ?_;refine rd 19 rfl (fun KK AA=>?_);go_simp;refine(BF.out _).mono ?_;rintro _ wb ⟨rfl,bb⟩;have bC:Below wr.heap.size wr wb:=bu bB bb;clear hHeld;refine AA.out _ _ (K.out _ bC) (fun hHeld=>?_);clear AA KK;refine tx 20 30 ?_;refine tx 21 31 ?_;refine tx 22 32 ?_;clear hHeld;refine Bu ?_;have BB:=bu br bC;go_wp2
     go_roundw
     case rel=>exact⟨m+1,by omega,by go_num,HS,BB⟩
     case measure=>simp[intOf];omega
    rw[decide_eq_false hb]at BF;have hno:=decide_eq_false (HN.out hb);clear HN hb HS;generalize ts.getD m z4=y at *;generalize ts.getD k z4=x at *;obtain⟨ya,yb,yc,yd⟩:=y;obtain⟨xa,xb,xc,xd⟩:=x;dsimp only at TO BF;have K:Hid (∀w',Below wr.heap.size wr w'→(w'.cell? ⟨g,k*4,none⟩=some (.int .i64 xa)∧w'.cell? ⟨g,k*4+1,none⟩=some (.int .i64 xb)∧w'.cell? ⟨g,k*4+2,none⟩=some (.int .i64 xc)∧w'.cell? ⟨g,k*4+3,none⟩=some (.int .i64 xd))∧(w'.cell? ⟨g,m*4,none⟩=some (.int .i64 ya)∧w'.cell? ⟨g,m*4+1,none⟩=some (.int .i64 yb)∧w'.cell? ⟨g,m*4+2,none⟩=some (.int .i64 yc)∧w'.cell? ⟨g,m*4+3,none⟩=some (.int .i64 yd))):=hide fun w' hb=>⟨CX.out.below hb,CY.out.below hb⟩
    clear CX CY;go_wp2_with fail
    refine qo K bA (fun hHeld=>?_);refine tx 0 10 ?_;refine tx 1 11 ?_;refine tx 2 12 ?_;refine tx 3 13 ?_;refine rd 4 rfl (fun KK AA=>?_);go_simp;refine(TO.out _).mono ?_;rintro _ wa ⟨rfl,ba⟩;have bB:Below wr.heap.size wr wa:=bA.trans ba;clear hHeld;refine AA.out _ _ (K.out _ bB) (fun hHeld=>?_);clear AA KK;refine tx 5 15 ?_;refine tx 6 16 ?_;refine tx 7 17 ?_;refine tx 8 18 ?_;refine tx 9 19 ?_;refine tx 10 20 ?_;refine tx 11 21 ?_;refine tx 12 22 ?_;refine tx 13 23 ?_;refine tx 14 24 ?_;refine tx 15 25 ?_;refine tx 16 26 ?_;refine tx 17 27 ?_;refine tx 18 28 ?_;refine rd 19 rfl (fun KK AA=>?_);go_simp;refine(BF.out _).mono ?_;rintro _ wb ⟨rfl,bb⟩;have bC:Below wr.heap.size wr wb:=bu bB bb;clear hHeld;refine AA.out _ _ (K.out _ bC) (fun hHeld=>?_);clear AA KK;refine tx 20 30 ?_;refine tx 21 31 ?_;refine tx 22 32 ?_;clear hHeld;refine Bu ?_;have BB:=bu br bC;go_wp2;go_ret;exact⟨by first|rfl|(rw[hno];rfl),BB⟩
   rw[decide_eq_false ho]at TO;have hno:=decide_eq_false (fun h:J9 ts=>ho (h.2.1 m (by rw[Hn.out];exact hlt)));clear ho HA hy;generalize ts.getD m z4=y at *;obtain⟨ya,yb,yc,yd⟩:=y;dsimp only at TO;have K:Hid (∀w',Below wr.heap.size wr w'→(w'.cell? ⟨g,m*4,none⟩=some (.int .i64 ya)∧w'.cell? ⟨g,m*4+1,none⟩=some (.int .i64 yb)∧w'.cell? ⟨g,m*4+2,none⟩=some (.int .i64 yc)∧w'.cell? ⟨g,m*4+3,none⟩=some (.int .i64 yd))):=hide fun w' hb=>CY.out.below hb;clear CY;go_wp2_with fail
   refine qo K bA (fun hHeld=>?_);refine tx 0 10 ?_;refine tx 1 11 ?_;refine tx 2 12 ?_;refine tx 3 13 ?_;refine rd 4 rfl (fun KK AA=>?_);go_simp;refine(TO.out _).mono ?_;rintro _ wa ⟨rfl,ba⟩;have bB:Below wr.heap.size wr wa:=bA.trans ba;clear hHeld;refine AA.out _ _ (K.out _ bB) (fun hHeld=>?_);clear AA KK;refine tx 5 15 ?_;refine tx 6 16 ?_;refine sx 7 17 ?_;refine sx 8 18 ?_;refine sx 9 19 ?_;refine sx 10 20 ?_;refine sx 11 21 ?_;refine sx 12 22 ?_;refine sx 13 23 ?_;refine sx 14 24 ?_;refine sx 15 25 ?_;refine sx 16 26 ?_;refine sx 17 27 ?_;refine sx 18 28 ?_;refine sx 19 29 ?_;refine sx 20 30 ?_;refine sx 21 31 ?_;refine tx 22 32 ?_;clear hHeld;refine Bu ?_;have BB:=bu br bB;go_wp2;go_ret;exact⟨by first|rfl|(rw[hno];rfl),BB⟩
  have hmn:m=n:=by omega
  have e:decide (J9 ts)=decide ((n:Int)≤12):=by
   have hA:=HA.out;rw[hmn,←Hn.out]at hA;have:=hA.all;by_cases h12:n≤12
   ·rw[decide_eq_true (show J9 ts from⟨by rw[Hn.out];exact h12,this.1,this.2⟩)];simp;omega
   rw[decide_eq_false (fun h:J9 ts=>h12 (by rw[←Hn.out];exact h.1))];simp;omega
  clear HA;subst hmn;replace e:=hide e;go_wp2;go_ret;exact⟨by rw[e.out];rfl,br⟩
end
section
open Go.RowKit
variable [∀(a b c d:Int),Decidable (BK a b c d)] [∀(n f:Int),Decidable (A9 n f)] [∀(n:Int)(s:List Int),Decidable (Dw n s)] [∀(a b c d:Nat),Decidable (Dc a b c d)] [∀(last:Int)(s:St),Decidable (Ak last s)] [∀(x:T4),Decidable (Dv x)]
def Di(n f m:Int)(s:ByteArray)(xs:List Int):Bool:=decide (A9 n f)&&decide (1≤m∧m≤60)&&decide (Dw n xs)&&decide (xs≠[])&&(decide (s=⟨#[]⟩)||((AV s).isSome&&decide (Ao s=m)))
theorem Ii(x lo hi:Int)(w:World):Calls Tryz.prog 81 #[.int .i64 x,.int .i64 lo,.int .i64 hi] w fun e w'=>e= .returned (.bool (decide (lo≤x∧x≤hi)))∧w'=w:=by
 by_cases h:lo≤x∧x≤hi
 ·rw[decide_eq_true h];exact Hf x lo hi w h.1 h.2
 rw[decide_eq_false h];exact MG x lo hi w (by omega)

theorem FW(n f m:Int)(s:ByteArray)(u:Value)(xs:List Int)(w:World)(hs:s.size≤1048576)(hu:RI w u xs):
 Calls Tryz.prog 128 #[cv n f,qv m s u] w fun e w'=>e= .returned (.bool (Di n f m s xs))∧Below w.heap.size w w':=by
 obtain⟨ua,uc,rfl⟩:=hu.form;obtain⟨w0,hw0,AO,LC,LP,_⟩:=El w #[.int .i64 n,.int .i64 f] 48 #[.int .i64 m,.string s,.slice ua xs.length uc] 72;have RU:=hu.below AO;have CO:=hide fun w=>Be n f w;have IN:=hide fun w=>Ii m 1 60 w;have SO:=hide fun w h=>Eb n (.slice ua xs.length uc) xs w h;have NO:=hide fun w=>Cg s w (by omega);have VO:=hide fun w=>Dp s w (by omega);have hp:Di n f m s xs=(decide (A9 n f)&&decide (1≤m∧m≤60)&&decide (Dw n xs)&&decide (xs≠[])&&(decide (s=⟨#[]⟩)||((AV s).isSome&&decide (Ao s=m)))):=rfl;have hxe:decide (xs≠[])=!((xs.length:Int)==0):=by cases xs with|nil=>rfl|cons a l=>simp;omega
 rw[hp,hxe];obtain⟨k,hk⟩:∃k,xs.length=k:=⟨_,rfl⟩
 rw[hk]at SO LP hw0 RU⊢;clear hp hxe hu hk;generalize decide (A9 n f)=c at *;generalize decide (1≤m∧m≤60)=r at *;generalize decide (Dw n xs)=o at *;generalize (AV s).isSome=nk at *;generalize Ao s=vw at *;cases c
 ·simp only[Bool.false_and];go_enter Tryz.func128,Tryz.ntmps128
  obtain⟨AZ,Ab⟩:=B_ LC 0 1;go_wp2_with fail
  clear hw0;refine(CO.out _).mono ?_;rintro _ w1 ⟨rfl,bb⟩;clear AZ Ab;have AL:=bu AO bb;have Cj:=bb.size;replace LC:=LC.up bb;replace LP:=LP.up bb;clear AO;replace RU:=RU.below bb;clear bb CO;obtain⟨AZ,Ab⟩:=B_ LC 0 1;obtain⟨Bd,Bc,Bb⟩:=CW LP 0 1 2;go_wp2;go_ret;exact⟨rfl,AL⟩
 simp only[Bool.true_and];cases r
 ·simp only[Bool.false_and];go_enter Tryz.func128,Tryz.ntmps128
  obtain⟨AZ,Ab⟩:=B_ LC 0 1;go_wp2_with fail
  clear hw0;refine(CO.out _).mono ?_;rintro _ w1 ⟨rfl,bb⟩;clear AZ Ab;have AL:=bu AO bb;have Cj:=bb.size;replace LC:=LC.up bb;replace LP:=LP.up bb;clear AO;replace RU:=RU.below bb;clear bb CO;obtain⟨Bd,Bc,Bb⟩:=CW LP 0 1 2;go_wp2_with fail
  refine(IN.out _).mono ?_;rintro _ w9 ⟨rfl,e9⟩;rw[e9];clear e9 IN Bd Bc Bb;obtain⟨AZ,Ab⟩:=B_ LC 0 1;obtain⟨Bd,Bc,Bb⟩:=CW LP 0 1 2;go_wp2;go_ret;exact⟨rfl,AL⟩
 simp only[Bool.true_and];cases o
 ·simp only[Bool.false_and];go_enter Tryz.func128,Tryz.ntmps128
  obtain⟨AZ,Ab⟩:=B_ LC 0 1;go_wp2_with fail
  clear hw0;refine(CO.out _).mono ?_;rintro _ w1 ⟨rfl,bb⟩;clear AZ Ab;have AL:=bu AO bb;have Cj:=bb.size;replace LC:=LC.up bb;replace LP:=LP.up bb;clear AO;replace RU:=RU.below bb;clear bb CO;obtain⟨Bd,Bc,Bb⟩:=CW LP 0 1 2;go_wp2_with fail
  refine(IN.out _).mono ?_;rintro _ w9 ⟨rfl,e9⟩;rw[e9];clear e9 IN Bd Bc Bb;obtain⟨AZ,Ab⟩:=B_ LC 0 1;obtain⟨Bd,Bc,Bb⟩:=CW LP 0 1 2;go_wp2_with fail
  refine(SO.out _ RU).mono ?_;rintro _ w2 ⟨rfl,bb⟩;clear AZ Ab Bd Bc Bb;have Ah:=bu AL bb;have Ej:=bb.size;replace LC:=LC.up bb;replace LP:=LP.up bb;clear AL bb SO RU;obtain⟨AZ,Ab⟩:=B_ LC 0 1;obtain⟨Bd,Bc,Bb⟩:=CW LP 0 1 2;go_wp2;go_ret;exact⟨rfl,Ah⟩
 simp only[Bool.true_and];by_cases hk:k=0
 ·subst hk;have hd0:((((0:Nat):Int)==0))=true:=rfl;rw[hd0];simp only[Bool.not_true,Bool.false_and];go_enter Tryz.func128,Tryz.ntmps128
  obtain⟨AZ,Ab⟩:=B_ LC 0 1;go_wp2_with fail
  clear hw0;refine(CO.out _).mono ?_;rintro _ w1 ⟨rfl,bb⟩;clear AZ Ab;have AL:=bu AO bb;have Cj:=bb.size;replace LC:=LC.up bb;replace LP:=LP.up bb;clear AO;replace RU:=RU.below bb;clear bb CO;obtain⟨Bd,Bc,Bb⟩:=CW LP 0 1 2;go_wp2_with fail
  refine(IN.out _).mono ?_;rintro _ w9 ⟨rfl,e9⟩;rw[e9];clear e9 IN Bd Bc Bb;obtain⟨AZ,Ab⟩:=B_ LC 0 1;obtain⟨Bd,Bc,Bb⟩:=CW LP 0 1 2;go_wp2_with fail
  refine(SO.out _ RU).mono ?_;rintro _ w2 ⟨rfl,bb⟩;clear AZ Ab Bd Bc Bb;have Ah:=bu AL bb;have Ej:=bb.size;replace LC:=LC.up bb;replace LP:=LP.up bb;clear AL bb SO RU;obtain⟨AZ,Ab⟩:=B_ LC 0 1;obtain⟨Bd,Bc,Bb⟩:=CW LP 0 1 2;go_wp2;go_ret;exact⟨rfl,Ah⟩
 have hd0:((k:Int)==0)=false:=by simp;omega
 rw[hd0];simp only[Bool.not_false,Bool.true_and];by_cases he:s=⟨#[]⟩
 ·have hd:decide (s=⟨#[]⟩)=true:=by simpa using he
  have hy:(s.toList==[])=true:=by rw[he,ByteArray.toList_eq];rfl
  rw[hd,Bool.true_or];clear he hd;go_enter Tryz.func128,Tryz.ntmps128
  obtain⟨AZ,Ab⟩:=B_ LC 0 1;go_wp2_with fail
  clear hw0;refine(CO.out _).mono ?_;rintro _ w1 ⟨rfl,bb⟩;clear AZ Ab;have AL:=bu AO bb;have Cj:=bb.size;replace LC:=LC.up bb;replace LP:=LP.up bb;clear AO;replace RU:=RU.below bb;clear bb CO;obtain⟨Bd,Bc,Bb⟩:=CW LP 0 1 2;go_wp2_with fail
  refine(IN.out _).mono ?_;rintro _ w9 ⟨rfl,e9⟩;rw[e9];clear e9 IN Bd Bc Bb;obtain⟨AZ,Ab⟩:=B_ LC 0 1;obtain⟨Bd,Bc,Bb⟩:=CW LP 0 1 2;go_wp2_with fail
  refine(SO.out _ RU).mono ?_;rintro _ w2 ⟨rfl,bb⟩;clear AZ Ab Bd Bc Bb;have Ah:=bu AL bb;have Ej:=bb.size;replace LC:=LC.up bb;replace LP:=LP.up bb;clear AL bb SO RU;obtain⟨Bd,Bc,Bb⟩:=CW LP 0 1 2;have K:=kw (Uf LP 0 1 2);go_upto_region 3 with fail
  refine Em K (fun bA hHeld=>?_);refine tx 0 28 ?_;refine tx 1 29 ?_;refine tx 2 30 ?_;refine tx 3 31 ?_;refine sx 4 32 ?_;refine sx 5 33 ?_;refine sx 6 34 ?_;refine sx 7 35 ?_;refine sx 8 36 ?_;refine sx 11 39 ?_;refine sx 9 37 ?_;refine sx 12 40 ?_;refine sx 10 38 ?_;refine sx 13 41 ?_;refine sx 14 42 ?_;refine tx 15 43 ?_;refine tx 16 4 ?_;clear hHeld;refine Bu ?_;obtain⟨wd3,hwd⟩:∃y,w2.drew=y:=⟨_,rfl⟩
  rw[hwd]at bA⊢;clear hwd;have bb:=bA;have qj:=bu Ah bb;have ry:=bb.size;replace LC:=LC.up bb;replace LP:=LP.up bb;clear Ah bb bA K Bd Bc Bb;go_wp2;go_ret;exact⟨rfl,qj⟩
 have hd:decide (s=⟨#[]⟩)=false:=by simpa using he
 have hne:=y9 he;rw[hd,Bool.false_or];clear he hd;cases nk
 ·simp only[Bool.false_and];go_enter Tryz.func128,Tryz.ntmps128
  obtain⟨AZ,Ab⟩:=B_ LC 0 1;go_wp2_with fail
  clear hw0;refine(CO.out _).mono ?_;rintro _ w1 ⟨rfl,bb⟩;clear AZ Ab;have AL:=bu AO bb;have Cj:=bb.size;replace LC:=LC.up bb;replace LP:=LP.up bb;clear AO;replace RU:=RU.below bb;clear bb CO;obtain⟨Bd,Bc,Bb⟩:=CW LP 0 1 2;go_wp2_with fail
  refine(IN.out _).mono ?_;rintro _ w9 ⟨rfl,e9⟩;rw[e9];clear e9 IN Bd Bc Bb;obtain⟨AZ,Ab⟩:=B_ LC 0 1;obtain⟨Bd,Bc,Bb⟩:=CW LP 0 1 2;go_wp2_with fail
  refine(SO.out _ RU).mono ?_;rintro _ w2 ⟨rfl,bb⟩;clear AZ Ab Bd Bc Bb;have Ah:=bu AL bb;have Ej:=bb.size;replace LC:=LC.up bb;replace LP:=LP.up bb;clear AL bb SO RU;obtain⟨Bd,Bc,Bb⟩:=CW LP 0 1 2;have K:=kw (Uf LP 0 1 2);go_upto_region 3 with fail
  refine Em K (fun bA hHeld=>?_);refine tx 0 28 ?_;refine tx 1 29 ?_;refine tx 2 30 ?_;refine tx 3 31 ?_;refine tx 4 32 ?_;refine tx 5 33 ?_;refine rd 6 rfl (fun KK AA=>?_);go_simp;have hgo:=bA;refine(NO.out _).mono ?_;rintro e Hz ⟨rfl,bb⟩;have Am:Below w2.heap.size w2 Hz:=bu bA bb;clear bA hgo bb hHeld;refine AA.out _ _ (K.out _ Am) (fun hHeld=>?_);clear AA KK;refine tx 7 35 ?_;refine sx 8 36 ?_;refine sx 11 39 ?_;refine sx 9 37 ?_;refine sx 12 40 ?_;refine sx 10 38 ?_;refine sx 13 41 ?_;refine tx 14 42 ?_;refine tx 15 43 ?_;refine tx 16 4 ?_;clear hHeld;refine Bu ?_;have bb:=Am;have yo:=bu Ah bb;have AC3:=bb.size;replace LC:=LC.up bb;replace LP:=LP.up bb;clear Ah bb Am K Bd Bc Bb;go_wp2;go_ret;exact⟨rfl,yo⟩
 simp only[Bool.true_and];by_cases hv:vw=m
 ·have hd:decide (vw=m)=true:=by simpa using hv
  rw[hd];clear hd;have hv2:=hv.symm;subst hv2;go_enter Tryz.func128,Tryz.ntmps128
  obtain⟨AZ,Ab⟩:=B_ LC 0 1;go_wp2_with fail
  clear hw0;refine(CO.out _).mono ?_;rintro _ w1 ⟨rfl,bb⟩;clear AZ Ab;have AL:=bu AO bb;have Cj:=bb.size;replace LC:=LC.up bb;replace LP:=LP.up bb;clear AO;replace RU:=RU.below bb;clear bb CO;obtain⟨Bd,Bc,Bb⟩:=CW LP 0 1 2;go_wp2_with fail
  refine(IN.out _).mono ?_;rintro _ w9 ⟨rfl,e9⟩;rw[e9];clear e9 IN Bd Bc Bb;obtain⟨AZ,Ab⟩:=B_ LC 0 1;obtain⟨Bd,Bc,Bb⟩:=CW LP 0 1 2;go_wp2_with fail
  refine(SO.out _ RU).mono ?_;rintro _ w2 ⟨rfl,bb⟩;clear AZ Ab Bd Bc Bb;have Ah:=bu AL bb;have Ej:=bb.size;replace LC:=LC.up bb;replace LP:=LP.up bb;clear AL bb SO RU;obtain⟨Bd,Bc,Bb⟩:=CW LP 0 1 2;have K:=kw (Uf LP 0 1 2);go_upto_region 3 with fail
  refine Em K (fun bA hHeld=>?_);refine tx 0 28 ?_;refine tx 1 29 ?_;refine tx 2 30 ?_;refine tx 3 31 ?_;refine tx 4 32 ?_;refine tx 5 33 ?_;refine rd 6 rfl (fun KK AA=>?_);go_simp;have hgo:=bA;refine(NO.out _).mono ?_;rintro e Hz ⟨rfl,bb⟩;have Am:Below w2.heap.size w2 Hz:=bu bA bb;clear bA hgo bb hHeld;refine AA.out _ _ (K.out _ Am) (fun hHeld=>?_);clear AA KK;refine tx 7 35 ?_;refine tx 8 36 ?_;refine tx 11 39 ?_;refine tx 9 37 ?_;refine tx 12 40 ?_;refine rd 10 rfl (fun KK AA=>?_);go_simp;have hgo:=Am;refine(VO.out _).mono ?_;rintro e JF ⟨rfl,bb⟩;have BG:Below w2.heap.size w2 JF:=bu Am bb;clear Am hgo bb hHeld;refine AA.out _ _ (K.out _ BG) (fun hHeld=>?_);clear AA KK;refine tx 13 41 ?_;refine tx 14 42 ?_;refine tx 15 43 ?_;refine tx 16 4 ?_;clear hHeld;refine Bu ?_;have bb:=BG;have bg:=bu Ah bb;have xI:=bb.size;replace LC:=LC.up bb;replace LP:=LP.up bb;clear Ah bb BG K Bd Bc Bb;go_wp2;go_ret;exact⟨rfl,bg⟩
 have hd:decide (vw=m)=false:=by simpa using hv
 rw[hd];go_enter Tryz.func128,Tryz.ntmps128
 obtain⟨AZ,Ab⟩:=B_ LC 0 1;go_wp2_with fail
 clear hw0;refine(CO.out _).mono ?_;rintro _ w1 ⟨rfl,bb⟩;clear AZ Ab;have AL:=bu AO bb;have Cj:=bb.size;replace LC:=LC.up bb;replace LP:=LP.up bb;clear AO;replace RU:=RU.below bb;clear bb CO;obtain⟨Bd,Bc,Bb⟩:=CW LP 0 1 2;go_wp2_with fail
 refine(IN.out _).mono ?_;rintro _ w9 ⟨rfl,e9⟩;rw[e9];clear e9 IN Bd Bc Bb;obtain⟨AZ,Ab⟩:=B_ LC 0 1;obtain⟨Bd,Bc,Bb⟩:=CW LP 0 1 2;go_wp2_with fail
 refine(SO.out _ RU).mono ?_;rintro _ w2 ⟨rfl,bb⟩;clear AZ Ab Bd Bc Bb;have Ah:=bu AL bb;have Ej:=bb.size;replace LC:=LC.up bb;replace LP:=LP.up bb;clear AL bb SO RU;obtain⟨Bd,Bc,Bb⟩:=CW LP 0 1 2;have K:=kw (Uf LP 0 1 2);go_upto_region 3 with fail
 refine Em K (fun bA hHeld=>?_);refine tx 0 28 ?_;refine tx 1 29 ?_;refine tx 2 30 ?_;refine tx 3 31 ?_;refine tx 4 32 ?_;refine tx 5 33 ?_;refine rd 6 rfl (fun KK AA=>?_);go_simp;have hgo:=bA;refine(NO.out _).mono ?_;rintro e Hz ⟨rfl,bb⟩;have Am:Below w2.heap.size w2 Hz:=bu bA bb;clear bA hgo bb hHeld;refine AA.out _ _ (K.out _ Am) (fun hHeld=>?_);clear AA KK;refine tx 7 35 ?_;refine tx 8 36 ?_;refine tx 11 39 ?_;refine tx 9 37 ?_;refine tx 12 40 ?_;refine rd 10 rfl (fun KK AA=>?_);go_simp;have hgo:=Am;refine(VO.out _).mono ?_;rintro e JF ⟨rfl,bb⟩;have BG:Below w2.heap.size w2 JF:=bu Am bb;clear Am hgo bb hHeld;refine AA.out _ _ (K.out _ BG) (fun hHeld=>?_);clear AA KK;refine tx 13 41 ?_;refine tx 14 42 ?_;refine tx 15 43 ?_;refine tx 16 4 ?_;clear hHeld;refine Bu ?_;have bb:=BG;have bg:=bu Ah bb;have xI:=bb.size;replace LC:=LC.up bb;replace LP:=LP.up bb;clear Ah bb BG K Bd Bc Bb;go_wp2;go_ret;exact⟨by simp[hv],bg⟩
end
section
open Go.RowKit
theorem Rt(m n:Int)(s t:ByteArray)(u v:Value)(xs ys:List Int)(w:World):
 Calls Tryz.prog 129 #[qv m s u,qv n t v] w fun e w'=>e= .returned (.bool (Gw (m,s,xs) (n,t,ys)))∧Below w.heap.size w w':=by
 have B:=hide (Bn w (.cells #[.int .i64 m,.string s,u] 72) (.cells #[.int .i64 n,.string t,v] 72));unfold Gw;simp only;by_cases h1:m<n
 ·rw[decide_eq_true h1,Bool.true_or];go_enter Tryz.func129,Tryz.ntmps129
  go_wp2;go_ret;exact⟨rfl,B.out⟩
 have hd1:=decide_eq_false h1;rw[hd1,Bool.false_or];by_cases h2:m=n
 ·subst h2;rw[decide_eq_true rfl,Bool.true_and];clear hd1;generalize hb:Op.bytesLess s.toList t.toList=q;go_enter Tryz.func129,Tryz.ntmps129
  go_wp2;go_ret;exact⟨rfl,B.out⟩
 have hd2:=decide_eq_false h2;rw[hd2,Bool.false_and];go_enter Tryz.func129,Tryz.ntmps129
 go_wp2;go_ret;exact⟨rfl,B.out⟩
end
section
open Go.RowKit
variable [∀(a b c d:Int),Decidable (BK a b c d)] [∀(n f:Int),Decidable (A9 n f)] [∀(n:Int)(s:List Int),Decidable (Dw n s)] [∀(a b c d:Nat),Decidable (Dc a b c d)] [∀(last:Int)(s:St),Decidable (Ak last s)] [∀(x:T4),Decidable (Dv x)]
def KJ(n f:Int)(ps:List Pt):Bool:=ps.all (fun p=>Di n f p.1 p.2.1 p.2.2)&&rowP ps&&decide (ps.length≤20)
theorem row_iff(ps:List Pt):rowP ps=true↔∀j,j+1<ps.length→Gw (ps.getD j BQ) (ps.getD (j+1) BQ)=true:=by
 induction ps with
 |nil=>simp[rowP]
 | cons a t ih=>
  cases t with
  |nil=>simp[rowP]
  | cons b t=>
   rw[rowP,Bool.and_eq_true,ih]
   constructor
   ·rintro⟨h1,h2⟩ j hj;cases j with
    |zero=>simpa using h1
    |succ j=>simpa using h2 j (by simpa using hj)
   intro h;refine⟨by simpa using h 0 (by simp),fun j hj=>?_⟩;have:=h (j+1) (by simpa using hj);simpa using this
theorem rY{n f:Int}{ps:List Pt}{k:Nat}(hk:k<ps.length)(h:Di n f (ps.getD k BQ).1 (ps.getD k BQ).2.1 (ps.getD k BQ).2.2=false):KJ n f ps=false:=by
 unfold KJ
 have:ps.all (fun p=>Di n f p.1 p.2.1 p.2.2)=false:=by
  rw[List.all_eq_false];exact⟨_,KZ hk,by rw[h];simp⟩
 rw[this];rfl
theorem rX{n f:Int}{ps:List Pt}{j:Nat}(hj:j+1<ps.length)(h:Gw (ps.getD j BQ) (ps.getD (j+1) BQ)=false):KJ n f ps=false:=by
 unfold KJ
 have:rowP ps=false:=by
  rw[Bool.eq_false_iff];intro e;have:=(row_iff ps).1 e j hj;rw[h]at this;cases this
 rw[this];simp
theorem rW{n f:Int}{ps:List Pt}(h1:∀j,j<ps.length→Di n f (ps.getD j BQ).1 (ps.getD j BQ).2.1 (ps.getD j BQ).2.2=true)(h2:∀j,j+1<ps.length→Gw (ps.getD j BQ) (ps.getD (j+1) BQ)=true):KJ n f ps=decide (ps.length≤20):=by
 unfold KJ
 have e1:ps.all (fun p=>Di n f p.1 p.2.1 p.2.2)=true:=by
  rw[List.all_eq_true];intro p hp;obtain⟨j,hj,rfl⟩:=List.getElem_of_mem hp;have:=h1 j hj;simpa[List.getElem?_eq_getElem hj]using this
 rw[e1,(row_iff ps).2 h2];rfl

theorem WK(n f:Int)(v:Value)(ps:List Pt)(w:World)(hl:ps.length≤4194304)(hs:∀p ∈ ps,p.2.1.size≤1048576)(h:PL w v ps):
 Calls Tryz.prog 84 #[cv n f,v] w fun e w'=>e= .returned (.bool (KJ n f ps))∧Below w.heap.size w w':=by
 obtain⟨ao,ca,rfl⟩:=h.form;obtain⟨len,hn⟩:∃len,ps.length=len:=⟨_,rfl⟩
 have Hn:=hide hn;have HSZ:=hide hs;obtain⟨w0,hw0⟩:∃y,w.alloc (.cells #[.int .i64 n,.int .i64 f] 48)=y:=⟨_,rfl⟩
 have B0:Below w.heap.size w w0:=hw0▸Ac _ _;have L0:Loc w0 w.heap.size #[.int .i64 n,.int .i64 f]:=hw0▸AB w _ _ rfl;have H:=hide (h.below B0);obtain⟨r,hr⟩:∃r,KJ n f ps=r:=⟨_,rfl⟩
 have N1:Hid (∀k,k<ps.length→Di n f (ps.getD k BQ).1 (ps.getD k BQ).2.1 (ps.getD k BQ).2.2=false→r=false):=hide fun k hk h=>hr▸rY hk h;have N2:Hid (∀j,j+1<ps.length→Gw (ps.getD j BQ) (ps.getD (j+1) BQ)=false→r=false):=hide fun j hj h=>hr▸rX hj h;have YE:Hid ((∀j,j<ps.length→Di n f (ps.getD j BQ).1 (ps.getD j BQ).2.1 (ps.getD j BQ).2.2=true)→(∀j,j+1<ps.length→Gw (ps.getD j BQ) (ps.getD (j+1) BQ)=true)→r=decide (len≤20)):=hide fun h1 h2=>by rw[←hr,rW h1 h2,hn]
 rw[hn]at hl H⊢;rw[hr];clear h hn hs hr;go_enter Tryz.func84,Tryz.ntmps84
 go_wp2;clear hw0
 go_loopw [5] (fun i wr=>∃k:Nat,k≤len∧i= .int .i64 k∧Hid (∀j,j<k→Di n f (ps.getD j BQ).1 (ps.getD j BQ).2.1 (ps.getD j BQ).2.2=true)∧Hid (∀j,j+1<k→Gw (ps.getD j BQ) (ps.getD (j+1) BQ)=true)∧Below w0.heap.size w0 wr) (fun i _=>len-(intOf i).toNat)
 case atStart=>exact⟨0,Nat.zero_le _,rfl,hide (fun j hj=>by omega),hide (fun j hj=>by omega),Below.refl _ _⟩
 case round=>
  obtain⟨k,hk,rfl,HA,HB,bb⟩:=hrel;have vF:=bu B0 bb;have LC:=L0.up bb;have Br:=bb;have HW:=H.out.below bb;by_cases hlt:k<len
  ·have hkx:k<ps.length:=by have:=Hn.out;omega
   obtain⟨g,off,u,hao,c0,c1,c2,ru⟩:=HW.at k hkx;have hsz:=HSZ.out _ (KZ hkx);have N1k:=hide (N1.out k hkx);have N2k:Hid (∀j,k=j+1→Gw (ps.getD j BQ) (ps.getD k BQ)=false→r=false):=hide fun j hj h=>N2.out j (by omega) (by rw[←hj];exact h);have HA2:Hid (Di n f (ps.getD k BQ).1 (ps.getD k BQ).2.1 (ps.getD k BQ).2.2=true→∀j,j<k+1→Di n f (ps.getD j BQ).1 (ps.getD j BQ).2.1 (ps.getD j BQ).2.2=true):=hide fun h j hj=>by by_cases e:j=k;subst e;exact h;exact HA.out j (by omega)
   have HB2:Hid ((∀j,k=j+1→Gw (ps.getD j BQ) (ps.getD k BQ)=true)→∀j,j+1<k+1→Gw (ps.getD j BQ) (ps.getD (j+1) BQ)=true):=hide fun h j hj=>by by_cases e:k=j+1;have:=h j e;rwa [e]at this;exact HB.out j (by omega)
   have u_:Hid (∀j,k=j+1→∃u',wr.cell? ⟨g,off+j*3,none⟩=some (.int .i64 (ps.getD j BQ).1)∧wr.cell? ⟨g,off+j*3+1,none⟩=some (.string (ps.getD j BQ).2.1)∧wr.cell? ⟨g,off+j*3+2,none⟩=some u'∧RI wr u' (ps.getD j BQ).2.2):=hide fun j hj=>by
    obtain⟨g',off',u',e,d0,d1,d2,vO⟩:=HW.at j (by omega);rw[hao]at e;injection e with e
    injection e with e1 e2
    subst e1 e2;exact⟨u',d0,d1,d2,vO⟩
   subst hao;generalize hx:ps.getD k BQ=x at *;obtain⟨m,s,xs⟩:=x;simp only at c0 c1 ru hsz N1k HA2;have PO:=hide fun w h=>FW n f m s u xs w hsz h;obtain⟨ua,uc,rfl⟩:=ru.form;have RU:=hide fun w'(hb':Below wr.heap.size wr w')=>ru.below hb';generalize Di n f m s xs=pk at *;obtain⟨xl,hxl⟩:∃l,xs.length=l:=⟨_,rfl⟩
   rw[hxl]at PO RU c2;clear ru HW H N1 N2 YE HA HB hx hxl;cases pk
   ·have e:=N1k.out rfl;subst e;clear N1k N2k HA2 HB2 u_;obtain⟨AZ,Ab⟩:=B_ LC 0 1;have K:Hid (∀w',Below wr.heap.size wr w'→(fun w'=>Below wr.heap.size wr w'∧(w'.cell? ⟨w.heap.size,0,none⟩=some (.int .i64 n)∧w'.cell? ⟨w.heap.size,1,none⟩=some (.int .i64 f))∧w'.cell? ⟨g,off+k*3,none⟩=some (.int .i64 m)∧w'.cell? ⟨g,off+k*3+1,none⟩=some (.string s)∧w'.cell? ⟨g,off+k*3+2,none⟩=some (.slice ua xl uc)) w'):=hide fun w' hb'=>⟨hb',⟨(LC.up hb').cell 0 rfl,(LC.up hb').cell 1 rfl⟩,(hb'.cell (p:=⟨g,off+k*3,none⟩) (AU c0)).trans c0,(hb'.cell (p:=⟨g,off+k*3+1,none⟩) (AU c1)).trans c1,(hb'.cell (p:=⟨g,off+k*3+2,none⟩) (AU c2)).trans c2⟩
    go_upto_region 4 with fail
    refine Em K (fun bA hHeld=>?_);refine tx 0 12 ?_;refine tx 1 13 ?_;refine tx 2 14 ?_;refine tx 3 15 ?_;refine tx 4 16 ?_;refine rd 5 rfl (fun KK AA=>?_);go_simp;have hgo:=bA;refine(PO.out _ (RU.out _ hgo)).mono ?_;rintro e PR ⟨rfl,bb⟩;have Am:Below wr.heap.size wr PR:=bu bA bb;clear RU bA hgo bb hHeld;refine AA.out _ _ (K.out _ Am) (fun hHeld=>?_);clear AA KK;refine tx 6 18 ?_;refine tx 7 19 ?_;refine sx 8 20 ?_;refine sx 9 21 ?_;refine sx 10 22 ?_;refine sx 11 23 ?_;refine sx 12 24 ?_;refine sx 16 28 ?_;refine sx 17 29 ?_;refine sx 13 25 ?_;refine sx 18 30 ?_;refine sx 14 26 ?_;refine sx 19 31 ?_;refine sx 15 27 ?_;refine sx 20 32 ?_;refine sx 21 33 ?_;refine sx 22 34 ?_;refine tx 23 35 ?_;clear hHeld;refine Bu ?_;have bb:=Am;have qi:=bu vF bb;have xG:=bb.size;replace LC:=LC.up bb;replace Br:=bu Br bb;clear vF bb Am K AZ Ab;go_wp2;go_ret;exact⟨rfl,qi⟩
   have HA3:=hide (HA2.out rfl);clear N1k HA2;by_cases hk0:k=0
   ·have HB3:=hide (HB2.out (fun j hj=>by omega));clear N2k HB2 u_;subst hk0;simp only[Nat.zero_mul,Nat.add_zero]at c0 c1 c2;obtain⟨AZ,Ab⟩:=B_ LC 0 1;have K:Hid (∀w',Below wr.heap.size wr w'→(fun w'=>Below wr.heap.size wr w'∧(w'.cell? ⟨w.heap.size,0,none⟩=some (.int .i64 n)∧w'.cell? ⟨w.heap.size,1,none⟩=some (.int .i64 f))∧w'.cell? ⟨g,off,none⟩=some (.int .i64 m)∧w'.cell? ⟨g,off+1,none⟩=some (.string s)∧w'.cell? ⟨g,off+2,none⟩=some (.slice ua xl uc)) w'):=hide fun w' hb'=>⟨hb',⟨(LC.up hb').cell 0 rfl,(LC.up hb').cell 1 rfl⟩,(hb'.cell (p:=⟨g,off,none⟩) (AU c0)).trans c0,(hb'.cell (p:=⟨g,off+1,none⟩) (AU c1)).trans c1,(hb'.cell (p:=⟨g,off+2,none⟩) (AU c2)).trans c2⟩
    go_upto_region 4 with fail
    refine Em K (fun bA hHeld=>?_);refine tx 0 12 ?_;refine tx 1 13 ?_;refine tx 2 14 ?_;refine tx 3 15 ?_;refine tx 4 16 ?_;refine rd 5 rfl (fun KK AA=>?_);go_simp;have hgo:=bA;refine(PO.out _ (RU.out _ hgo)).mono ?_;rintro e PR ⟨rfl,bb⟩;have Am:Below wr.heap.size wr PR:=bu bA bb;clear RU bA hgo bb hHeld;refine AA.out _ _ (K.out _ Am) (fun hHeld=>?_);clear AA KK;refine tx 6 18 ?_;refine tx 7 19 ?_;refine tx 8 20 ?_;refine tx 9 21 ?_;refine tx 10 22 ?_;refine sx 11 23 ?_;refine sx 12 24 ?_;refine sx 16 28 ?_;refine sx 17 29 ?_;refine sx 13 25 ?_;refine sx 18 30 ?_;refine sx 14 26 ?_;refine sx 19 31 ?_;refine sx 15 27 ?_;refine sx 20 32 ?_;refine sx 21 33 ?_;refine tx 22 34 ?_;refine tx 23 35 ?_;clear hHeld;refine Bu ?_;have bb:=Am;have qi:=bu vF bb;have xG:=bb.size;replace LC:=LC.up bb;replace Br:=bu Br bb;clear vF bb Am K AZ Ab;go_wp2
    go_roundw
    case rel=>exact⟨0+1,by omega,by go_num,HA3,HB3,Br⟩
    case measure=>simp[intOf];omega
   obtain⟨j,hj⟩:∃j,k=j+1:=⟨k-1,by omega⟩
   have N2j:=hide (N2k.out j hj);obtain⟨u',d0,d1,d2,vO⟩:=u_.out j hj;have HB3:Hid (Gw (ps.getD j BQ) (m,s,xs)=true→∀j,j+1<k+1→Gw (ps.getD j BQ) (ps.getD (j+1) BQ)=true):=hide fun h=>HB2.out (fun i hi=>by obtain rfl:i=j:=(by omega);exact h);clear N2k HB2 u_ hk0;subst hj;generalize ps.getD j BQ=y at *;obtain⟨m',s',xs'⟩:=y;simp only at d0 d1 vO N2j HB3;obtain⟨va,vc,rfl⟩:=vO.form;generalize xs'.length=yl at *;clear vO;have BE:=hide fun w=>Rt m' m s' s (.slice va yl vc) (.slice ua xl uc) xs' xs w;generalize Gw (m',s',xs') (m,s,xs)=be at *;have hg1:decide ((0:Int)<(j:Int)+1)=true:=decide_eq_true (by omega);have hwm:IntKind.i64.wrap (j:Int)=j:=by simp only[IntKind.wrap_i64];omega
   cases be
   ·have e:=N2j.out rfl;subst e;clear N2j HB3;obtain⟨AZ,Ab⟩:=B_ LC 0 1;have K:Hid (∀w',Below wr.heap.size wr w'→(fun w'=>Below wr.heap.size wr w'∧(w'.cell? ⟨w.heap.size,0,none⟩=some (.int .i64 n)∧w'.cell? ⟨w.heap.size,1,none⟩=some (.int .i64 f))∧w'.cell? ⟨g,off+(j+1)*3,none⟩=some (.int .i64 m)∧w'.cell? ⟨g,off+(j+1)*3+1,none⟩=some (.string s)∧w'.cell? ⟨g,off+(j+1)*3+2,none⟩=some (.slice ua xl uc)∧w'.cell? ⟨g,off+j*3,none⟩=some (.int .i64 m')∧w'.cell? ⟨g,off+j*3+1,none⟩=some (.string s')∧w'.cell? ⟨g,off+j*3+2,none⟩=some (.slice va yl vc)) w'):=hide fun w' hb'=>⟨hb',⟨(LC.up hb').cell 0 rfl,(LC.up hb').cell 1 rfl⟩,(hb'.cell (p:=⟨g,off+(j+1)*3,none⟩) (AU c0)).trans c0,(hb'.cell (p:=⟨g,off+(j+1)*3+1,none⟩) (AU c1)).trans c1,(hb'.cell (p:=⟨g,off+(j+1)*3+2,none⟩) (AU c2)).trans c2,(hb'.cell (p:=⟨g,off+j*3,none⟩) (AU d0)).trans d0,(hb'.cell (p:=⟨g,off+j*3+1,none⟩) (AU d1)).trans d1,(hb'.cell (p:=⟨g,off+j*3+2,none⟩) (AU d2)).trans d2⟩
    go_upto_region 4 with fail
    refine Em K (fun bA hHeld=>?_);refine tx 0 12 ?_;refine tx 1 13 ?_;refine tx 2 14 ?_;refine take_at (i:=3) (d:=15) (v:=?_) rfl rfl (by kernel_rfl) (by kernel_rfl) (by kernel_rfl) (fun _ _ _ h=>h) (Or.inl ⟨by rfl,?_⟩) (by assumption) ?_
    rotate_left
    ·intro w hSw
     try dsimp only at hSw
     go_simp
     try rw[if_pos (by omega)]
     try with_reducible rfl
    simp only[pU];refine tx 4 16 ?_;refine rd 5 rfl (fun KK AA=>?_);go_simp;have hgo:=bA;refine(PO.out _ (RU.out _ hgo)).mono ?_;rintro e PR ⟨rfl,bb⟩;have Am:Below wr.heap.size wr PR:=bu bA bb;clear RU bA hgo bb hHeld;refine AA.out _ _ (K.out _ Am) (fun hHeld=>?_);clear AA KK;refine tx 6 18 ?_;refine tx 7 19 ?_;refine tx 8 20 ?_;refine tx 9 21 ?_;refine tx 10 22 ?_;refine tx 11 23 ?_;refine tx 12 24 ?_;refine tx 16 28 ?_;refine tx 17 29 ?_;refine tx 13 25 ?_;refine take_at (i:=18) (d:=30) (v:=?_) rfl rfl (by kernel_rfl) (by kernel_rfl) (by kernel_rfl) (fun _ _ _ h=>h) (Or.inl ⟨by rfl,?_⟩) (by assumption) ?_
    rotate_left
    ·intro w hSw
     try dsimp only at hSw
     go_simp
     try rw[if_pos (by omega)]
     try with_reducible rfl
    simp only[pU];refine take_at (i:=14) (d:=26) (v:=?_) rfl rfl (by kernel_rfl) (by kernel_rfl) (by kernel_rfl) (fun _ _ _ h=>h) (Or.inl ⟨by rfl,?_⟩) (by assumption) ?_
    rotate_left
    ·intro w hSw
     try dsimp only at hSw
     go_simp
     try rw[if_pos (by omega)]
     try with_reducible rfl
    simp only[pU];refine tx 19 31 ?_;refine tx 15 27 ?_;refine rd 20 rfl (fun KK AA=>?_);go_simp;have hgo:=Am;refine(BE.out _).mono ?_;rintro e lD ⟨rfl,bb⟩;have BG:Below wr.heap.size wr lD:=bu Am bb;clear Am hgo bb hHeld;refine AA.out _ _ (K.out _ BG) (fun hHeld=>?_);clear AA KK;refine tx 21 33 ?_;refine tx 22 34 ?_;refine tx 23 35 ?_;clear hHeld;refine Bu ?_;have bb:=BG;have qh:=bu vF bb;have xE:=bb.size;replace LC:=LC.up bb;replace Br:=bu Br bb;clear vF bb BG K AZ Ab;go_wp2;go_ret;exact⟨rfl,qh⟩
   have vC:=hide (HB3.out rfl);clear N2j HB3;obtain⟨AZ,Ab⟩:=B_ LC 0 1;have K:Hid (∀w',Below wr.heap.size wr w'→(fun w'=>Below wr.heap.size wr w'∧(w'.cell? ⟨w.heap.size,0,none⟩=some (.int .i64 n)∧w'.cell? ⟨w.heap.size,1,none⟩=some (.int .i64 f))∧w'.cell? ⟨g,off+(j+1)*3,none⟩=some (.int .i64 m)∧w'.cell? ⟨g,off+(j+1)*3+1,none⟩=some (.string s)∧w'.cell? ⟨g,off+(j+1)*3+2,none⟩=some (.slice ua xl uc)∧w'.cell? ⟨g,off+j*3,none⟩=some (.int .i64 m')∧w'.cell? ⟨g,off+j*3+1,none⟩=some (.string s')∧w'.cell? ⟨g,off+j*3+2,none⟩=some (.slice va yl vc)) w'):=hide fun w' hb'=>⟨hb',⟨(LC.up hb').cell 0 rfl,(LC.up hb').cell 1 rfl⟩,(hb'.cell (p:=⟨g,off+(j+1)*3,none⟩) (AU c0)).trans c0,(hb'.cell (p:=⟨g,off+(j+1)*3+1,none⟩) (AU c1)).trans c1,(hb'.cell (p:=⟨g,off+(j+1)*3+2,none⟩) (AU c2)).trans c2,(hb'.cell (p:=⟨g,off+j*3,none⟩) (AU d0)).trans d0,(hb'.cell (p:=⟨g,off+j*3+1,none⟩) (AU d1)).trans d1,(hb'.cell (p:=⟨g,off+j*3+2,none⟩) (AU d2)).trans d2⟩
   go_upto_region 4 with fail
   refine Em K (fun bA hHeld=>?_);refine tx 0 12 ?_;refine tx 1 13 ?_;refine tx 2 14 ?_;refine take_at (i:=3) (d:=15) (v:=?_) rfl rfl (by kernel_rfl) (by kernel_rfl) (by kernel_rfl) (fun _ _ _ h=>h) (Or.inl ⟨by rfl,?_⟩) (by assumption) ?_
   rotate_left
   ·intro w hSw
    try dsimp only at hSw
    go_simp
    try rw[if_pos (by omega)]
    try with_reducible rfl
   simp only[pU];refine tx 4 16 ?_;refine rd 5 rfl (fun KK AA=>?_);go_simp;have hgo:=bA;refine(PO.out _ (RU.out _ hgo)).mono ?_;rintro e PR ⟨rfl,bb⟩;have Am:Below wr.heap.size wr PR:=bu bA bb;clear RU bA hgo bb hHeld;refine AA.out _ _ (K.out _ Am) (fun hHeld=>?_);clear AA KK;refine tx 6 18 ?_;refine tx 7 19 ?_;refine tx 8 20 ?_;refine tx 9 21 ?_;refine tx 10 22 ?_;refine tx 11 23 ?_;refine tx 12 24 ?_;refine tx 16 28 ?_;refine tx 17 29 ?_;refine tx 13 25 ?_;refine take_at (i:=18) (d:=30) (v:=?_) rfl rfl (by kernel_rfl) (by kernel_rfl) (by kernel_rfl) (fun _ _ _ h=>h) (Or.inl ⟨by rfl,?_⟩) (by assumption) ?_
   rotate_left
   ·intro w hSw
    try dsimp only at hSw
    go_simp
    try rw[if_pos (by omega)]
    try with_reducible rfl
   simp only[pU];refine take_at (i:=14) (d:=26) (v:=?_) rfl rfl (by kernel_rfl) (by kernel_rfl) (by kernel_rfl) (fun _ _ _ h=>h) (Or.inl ⟨by rfl,?_⟩) (by assumption) ?_
   rotate_left
   ·intro w hSw
    try dsimp only at hSw
    go_simp
    try rw[if_pos (by omega)]
    try with_reducible rfl
   simp only[pU];refine tx 19 31 ?_;refine tx 15 27 ?_;refine rd 20 rfl (fun KK AA=>?_);go_simp;have hgo:=Am;refine(BE.out _).mono ?_;rintro e lD ⟨rfl,bb⟩;have BG:Below wr.heap.size wr lD:=bu Am bb;clear Am hgo bb hHeld;refine AA.out _ _ (K.out _ BG) (fun hHeld=>?_);clear AA KK;refine tx 21 33 ?_;refine tx 22 34 ?_;refine tx 23 35 ?_;clear hHeld;refine Bu ?_;have bb:=BG;have qh:=bu vF bb;have xE:=bb.size;replace LC:=LC.up bb;replace Br:=bu Br bb;clear vF bb BG K AZ Ab;go_wp2
   go_roundw
   case rel=>exact⟨j+1+1,by omega,by go_num,HA3,vC,Br⟩
   case measure=>simp[intOf];omega
  have e:=YE.out (fun j hj=>HA.out j (by have:=Hn.out;omega)) (fun j hj=>HB.out j (by have:=Hn.out;omega));have hd:decide ((len:Int)≤20)=decide (len≤20):=by simp;omega
  subst e;clear HA HB HW LC Br bb N1 N2 YE H;go_wp2;go_ret;exact⟨rfl,vF⟩
end
section
open Go.RowKit
abbrev xn:Go.Conc.Locks.MuLink:={ lock:=224,unlock:=225,ilock:=248,iunlock:=249,lockSlow:=268,unlockSlow:=271,disable:=264,enable:=266,acquire:=267,relMerge:=269,cas32:=265,add32:=270,tMutex:=238,tIMutex:=236,tPMutex:=317,tPIMutex:=329,tPI32:=331,tUP:=272,tNoCopy:=233,tU32:=234 }
theorem vZ:Go.Conc.Locks.MuLib Tryz.prog xn:=
 ⟨Tryz.func224,Tryz.func225,Tryz.func248,Tryz.func249,Tryz.func264,Tryz.func266,Tryz.func267,Tryz.func269,Tryz.func265,Tryz.func270,Tryz.underlying236,Tryz.runUnderlying236,Tryz.sizeOf236,Tryz.isAgg236,Tryz.zeroValue236,Tryz.underlying238,Tryz.runUnderlying238,Tryz.sizeOf238,Tryz.isAgg238,Tryz.zeroValue238,Tryz.underlying317,Tryz.runUnderlying317,Tryz.sizeOf317,Tryz.isAgg317,Tryz.zeroValue317,Tryz.underlying329,Tryz.runUnderlying329,Tryz.sizeOf329,Tryz.isAgg329,Tryz.zeroValue329,Tryz.underlying331,Tryz.runUnderlying331,Tryz.sizeOf331,Tryz.isAgg331,Tryz.zeroValue331,Tryz.underlying272,Tryz.runUnderlying272,Tryz.sizeOf272,Tryz.isAgg272,Tryz.zeroValue272,Tryz.underlying233,Tryz.runUnderlying233,Tryz.sizeOf233,Tryz.isAgg233,Tryz.zeroValue233,Tryz.underlying21,Tryz.runUnderlying21,Tryz.sizeOf21,Tryz.isAgg21,Tryz.zeroValue21,(by kernel_rfl)⟩

theorem bS(g j:Nat)(x:Int)(w:World)(hc:w.cell? ⟨g,j,none⟩=some (.int .i64 x)):
 Calls Tryz.prog 226 #[.pointer (some ⟨g,j,none⟩)] w fun e w'=>e= .returned (.int .i64 x)∧w'=w:=by
 have hl:=run_call_load (P:=Tryz.prog) Tryz.func250 (by kernel_rfl) (by kernel_rfl) (by kernel_rfl) .i64 (by kernel_rfl) hc;go_enter Tryz.func226,Tryz.ntmps226
 go_wp2;go_ret;exact⟨rfl,rfl⟩
end
end Go.Proofs.YtcjmcgolgbkknaaGreatDoor
