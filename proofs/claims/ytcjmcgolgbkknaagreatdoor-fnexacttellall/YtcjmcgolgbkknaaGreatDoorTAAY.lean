/- Lemmas, as stated. -/
import Derived.Test.YtcjmcgolgbkknaaGreatDoorTAAX
import Derived.Conc.MuLone
set_option maxRecDepth 100000
set_option maxHeartbeats 8000000
set_option linter.unusedSectionVars false
namespace Go.Proofs.YtcjmcgolgbkknaaGreatDoor
section
open Go.RowKit
variable [∀(a b c d:Int),Decidable (BG a b c d)] [∀(n f:Int),Decidable (A_ n f)] [∀(n:Int)(s:List Int),Decidable (Dv n s)] [∀(a b c d:Nat),Decidable (DZ a b c d)] [∀(last:Int)(s:St),Decidable (Aq last s)] [∀(x:T4),Decidable (Du x)]
def DY(n f m:Int)(s:ByteArray)(xs:List Int):Bool:=decide (A_ n f)&&decide (1≤m∧m≤60)&&decide (Dv n xs)&&decide (xs≠[])&&(decide (s=⟨#[]⟩)||((AP s).isSome&&decide (Av s=m)))
theorem GX(x lo hi:Int)(w:World):Calls Tryz.prog 81 #[.int .i64 x,.int .i64 lo,.int .i64 hi] w fun e w'=>e= .returned (.bool (decide (lo≤x∧x≤hi)))∧w'=w:=by
 by_cases h:lo≤x∧x≤hi
 ·rw[decide_eq_true h];exact H7 x lo hi w h.1 h.2
 rw[decide_eq_false h];exact L9 x lo hi w (by omega)

theorem Ey(n f m:Int)(s:ByteArray)(u:Value)(xs:List Int)(w:World)(hs:s.size≤1048576)(hu:RI w u xs):
 Calls Tryz.prog 128 #[cv n f,qv m s u] w fun e w'=>e= .returned (.bool (DY n f m s xs))∧Below w.heap.size w w':=by
 obtain⟨ua,uc,rfl⟩:=hu.form;obtain⟨w0,hw0,AO,LC,LP,_⟩:=Gb w #[.int .i64 n,.int .i64 f] 48 #[.int .i64 m,.string s,.slice ua xs.length uc] 72;have RU:=hu.below AO;have CO:=hide fun w=>Bc n f w;have IN:=hide fun w=>GX m 1 60 w;have SO:=hide fun w h=>EE n (.slice ua xs.length uc) xs w h;have NO:=hide fun w=>CW s w (by omega);have VO:=hide fun w=>Dg s w (by omega);have hp:DY n f m s xs=(decide (A_ n f)&&decide (1≤m∧m≤60)&&decide (Dv n xs)&&decide (xs≠[])&&(decide (s=⟨#[]⟩)||((AP s).isSome&&decide (Av s=m)))):=rfl;have hxe:decide (xs≠[])=!((xs.length:Int)==0):=by cases xs with|nil=>rfl|cons a l=>simp;omega
 rw[hp,hxe];obtain⟨k,hk⟩:∃k,xs.length=k:=⟨_,rfl⟩
 rw[hk]at SO LP hw0 RU⊢;clear hp hxe hu hk;generalize decide (A_ n f)=c at *;generalize decide (1≤m∧m≤60)=r at *;generalize decide (Dv n xs)=o at *;generalize (AP s).isSome=nk at *;generalize Av s=vw at *;cases c
 ·simp only[Bool.false_and];go_enter Tryz.func128,Tryz.ntmps128
  obtain⟨Ae,Ai⟩:=Cn LC 0 1;go_wp2_with fail
  clear hw0;refine(CO.out _).mono ?_;rintro _ w1 ⟨rfl,bb⟩;clear Ae Ai;have AZ:=bu AO bb;have Cx:=bb.size;replace LC:=LC.up bb;replace LP:=LP.up bb;clear AO;replace RU:=RU.below bb;clear bb CO;obtain⟨Ae,Ai⟩:=Cn LC 0 1;obtain⟨BP,BN,BM⟩:=B_ LP 0 1 2;go_wp2;go_ret;exact⟨rfl,AZ⟩
 simp only[Bool.true_and];cases r
 ·simp only[Bool.false_and];go_enter Tryz.func128,Tryz.ntmps128
  obtain⟨Ae,Ai⟩:=Cn LC 0 1;go_wp2_with fail
  clear hw0;refine(CO.out _).mono ?_;rintro _ w1 ⟨rfl,bb⟩;clear Ae Ai;have AZ:=bu AO bb;have Cx:=bb.size;replace LC:=LC.up bb;replace LP:=LP.up bb;clear AO;replace RU:=RU.below bb;clear bb CO;obtain⟨BP,BN,BM⟩:=B_ LP 0 1 2;go_wp2_with fail
  refine(IN.out _).mono ?_;rintro _ w9 ⟨rfl,e9⟩;rw[e9];clear e9 IN BP BN BM;obtain⟨Ae,Ai⟩:=Cn LC 0 1;obtain⟨BP,BN,BM⟩:=B_ LP 0 1 2;go_wp2;go_ret;exact⟨rfl,AZ⟩
 simp only[Bool.true_and];cases o
 ·simp only[Bool.false_and];go_enter Tryz.func128,Tryz.ntmps128
  obtain⟨Ae,Ai⟩:=Cn LC 0 1;go_wp2_with fail
  clear hw0;refine(CO.out _).mono ?_;rintro _ w1 ⟨rfl,bb⟩;clear Ae Ai;have AZ:=bu AO bb;have Cx:=bb.size;replace LC:=LC.up bb;replace LP:=LP.up bb;clear AO;replace RU:=RU.below bb;clear bb CO;obtain⟨BP,BN,BM⟩:=B_ LP 0 1 2;go_wp2_with fail
  refine(IN.out _).mono ?_;rintro _ w9 ⟨rfl,e9⟩;rw[e9];clear e9 IN BP BN BM;obtain⟨Ae,Ai⟩:=Cn LC 0 1;obtain⟨BP,BN,BM⟩:=B_ LP 0 1 2;go_wp2_with fail
  refine(SO.out _ RU).mono ?_;rintro _ w2 ⟨rfl,bb⟩;clear Ae Ai BP BN BM;have Ao:=bu AZ bb;have Ex:=bb.size;replace LC:=LC.up bb;replace LP:=LP.up bb;clear AZ bb SO RU;obtain⟨Ae,Ai⟩:=Cn LC 0 1;obtain⟨BP,BN,BM⟩:=B_ LP 0 1 2;go_wp2;go_ret;exact⟨rfl,Ao⟩
 simp only[Bool.true_and];by_cases hk:k=0
 ·subst hk;have hd0:((((0:Nat):Int)==0))=true:=rfl;rw[hd0];simp only[Bool.not_true,Bool.false_and];go_enter Tryz.func128,Tryz.ntmps128
  obtain⟨Ae,Ai⟩:=Cn LC 0 1;go_wp2_with fail
  clear hw0;refine(CO.out _).mono ?_;rintro _ w1 ⟨rfl,bb⟩;clear Ae Ai;have AZ:=bu AO bb;have Cx:=bb.size;replace LC:=LC.up bb;replace LP:=LP.up bb;clear AO;replace RU:=RU.below bb;clear bb CO;obtain⟨BP,BN,BM⟩:=B_ LP 0 1 2;go_wp2_with fail
  refine(IN.out _).mono ?_;rintro _ w9 ⟨rfl,e9⟩;rw[e9];clear e9 IN BP BN BM;obtain⟨Ae,Ai⟩:=Cn LC 0 1;obtain⟨BP,BN,BM⟩:=B_ LP 0 1 2;go_wp2_with fail
  refine(SO.out _ RU).mono ?_;rintro _ w2 ⟨rfl,bb⟩;clear Ae Ai BP BN BM;have Ao:=bu AZ bb;have Ex:=bb.size;replace LC:=LC.up bb;replace LP:=LP.up bb;clear AZ bb SO RU;obtain⟨Ae,Ai⟩:=Cn LC 0 1;obtain⟨BP,BN,BM⟩:=B_ LP 0 1 2;go_wp2;go_ret;exact⟨rfl,Ao⟩
 have hd0:((k:Int)==0)=false:=by simp;omega
 rw[hd0];simp only[Bool.not_false,Bool.true_and];by_cases he:s=⟨#[]⟩
 ·have hd:decide (s=⟨#[]⟩)=true:=by simpa using he
  have hy:(s.toList==[])=true:=by rw[he,ByteArray.toList_eq];rfl
  rw[hd,Bool.true_or];clear he hd;go_enter Tryz.func128,Tryz.ntmps128
  obtain⟨Ae,Ai⟩:=Cn LC 0 1;go_wp2_with fail
  clear hw0;refine(CO.out _).mono ?_;rintro _ w1 ⟨rfl,bb⟩;clear Ae Ai;have AZ:=bu AO bb;have Cx:=bb.size;replace LC:=LC.up bb;replace LP:=LP.up bb;clear AO;replace RU:=RU.below bb;clear bb CO;obtain⟨BP,BN,BM⟩:=B_ LP 0 1 2;go_wp2_with fail
  refine(IN.out _).mono ?_;rintro _ w9 ⟨rfl,e9⟩;rw[e9];clear e9 IN BP BN BM;obtain⟨Ae,Ai⟩:=Cn LC 0 1;obtain⟨BP,BN,BM⟩:=B_ LP 0 1 2;go_wp2_with fail
  refine(SO.out _ RU).mono ?_;rintro _ w2 ⟨rfl,bb⟩;clear Ae Ai BP BN BM;have Ao:=bu AZ bb;have Ex:=bb.size;replace LC:=LC.up bb;replace LP:=LP.up bb;clear AZ bb SO RU;obtain⟨BP,BN,BM⟩:=B_ LP 0 1 2;have K:=kw (VS LP 0 1 2);go_upto_region 3 with fail
  refine FC K (fun bA hHeld=>?_);refine tx 0 28 ?_;refine tx 1 29 ?_;refine tx 2 30 ?_;refine tx 3 31 ?_;refine sx 4 32 ?_;refine sx 5 33 ?_;refine sx 6 34 ?_;refine sx 7 35 ?_;refine sx 8 36 ?_;refine sx 11 39 ?_;refine sx 9 37 ?_;refine sx 12 40 ?_;refine sx 10 38 ?_;refine sx 13 41 ?_;refine sx 14 42 ?_;refine tx 15 43 ?_;refine tx 16 4 ?_;clear hHeld;refine Bw ?_;obtain⟨wd3,hwd⟩:∃y,w2.drew=y:=⟨_,rfl⟩
  rw[hwd]at bA⊢;clear hwd;have bb:=bA;have Yx:=bu Ao bb;have AAC:=bb.size;replace LC:=LC.up bb;replace LP:=LP.up bb;clear Ao bb bA K BP BN BM;go_wp2;go_ret;exact⟨rfl,Yx⟩
 have hd:decide (s=⟨#[]⟩)=false:=by simpa using he
 have hne:=tQ he;rw[hd,Bool.false_or];clear he hd;cases nk
 ·simp only[Bool.false_and];go_enter Tryz.func128,Tryz.ntmps128
  obtain⟨Ae,Ai⟩:=Cn LC 0 1;go_wp2_with fail
  clear hw0;refine(CO.out _).mono ?_;rintro _ w1 ⟨rfl,bb⟩;clear Ae Ai;have AZ:=bu AO bb;have Cx:=bb.size;replace LC:=LC.up bb;replace LP:=LP.up bb;clear AO;replace RU:=RU.below bb;clear bb CO;obtain⟨BP,BN,BM⟩:=B_ LP 0 1 2;go_wp2_with fail
  refine(IN.out _).mono ?_;rintro _ w9 ⟨rfl,e9⟩;rw[e9];clear e9 IN BP BN BM;obtain⟨Ae,Ai⟩:=Cn LC 0 1;obtain⟨BP,BN,BM⟩:=B_ LP 0 1 2;go_wp2_with fail
  refine(SO.out _ RU).mono ?_;rintro _ w2 ⟨rfl,bb⟩;clear Ae Ai BP BN BM;have Ao:=bu AZ bb;have Ex:=bb.size;replace LC:=LC.up bb;replace LP:=LP.up bb;clear AZ bb SO RU;obtain⟨BP,BN,BM⟩:=B_ LP 0 1 2;have K:=kw (VS LP 0 1 2);go_upto_region 3 with fail
  refine FC K (fun bA hHeld=>?_);refine tx 0 28 ?_;refine tx 1 29 ?_;refine tx 2 30 ?_;refine tx 3 31 ?_;refine tx 4 32 ?_;refine tx 5 33 ?_;refine rd 6 rfl (fun KK AA=>?_);go_simp;have hgo:=bA;refine(NO.out _).mono ?_;rintro e Tt ⟨rfl,bb⟩;have Au:Below w2.heap.size w2 Tt:=bu bA bb;clear bA hgo bb hHeld;refine AA.out _ _ (K.out _ Au) (fun hHeld=>?_);clear AA KK;refine tx 7 35 ?_;refine sx 8 36 ?_;refine sx 11 39 ?_;refine sx 9 37 ?_;refine sx 12 40 ?_;refine sx 10 38 ?_;refine sx 13 41 ?_;refine tx 14 42 ?_;refine tx 15 43 ?_;refine tx 16 4 ?_;clear hHeld;refine Bw ?_;have bb:=Au;have tC:=bu Ao bb;have zu:=bb.size;replace LC:=LC.up bb;replace LP:=LP.up bb;clear Ao bb Au K BP BN BM;go_wp2;go_ret;exact⟨rfl,tC⟩
 simp only[Bool.true_and];by_cases hv:vw=m
 ·have hd:decide (vw=m)=true:=by simpa using hv
  rw[hd];clear hd;have hv2:=hv.symm;subst hv2;go_enter Tryz.func128,Tryz.ntmps128
  obtain⟨Ae,Ai⟩:=Cn LC 0 1;go_wp2_with fail
  clear hw0;refine(CO.out _).mono ?_;rintro _ w1 ⟨rfl,bb⟩;clear Ae Ai;have AZ:=bu AO bb;have Cx:=bb.size;replace LC:=LC.up bb;replace LP:=LP.up bb;clear AO;replace RU:=RU.below bb;clear bb CO;obtain⟨BP,BN,BM⟩:=B_ LP 0 1 2;go_wp2_with fail
  refine(IN.out _).mono ?_;rintro _ w9 ⟨rfl,e9⟩;rw[e9];clear e9 IN BP BN BM;obtain⟨Ae,Ai⟩:=Cn LC 0 1;obtain⟨BP,BN,BM⟩:=B_ LP 0 1 2;go_wp2_with fail
  refine(SO.out _ RU).mono ?_;rintro _ w2 ⟨rfl,bb⟩;clear Ae Ai BP BN BM;have Ao:=bu AZ bb;have Ex:=bb.size;replace LC:=LC.up bb;replace LP:=LP.up bb;clear AZ bb SO RU;obtain⟨BP,BN,BM⟩:=B_ LP 0 1 2;have K:=kw (VS LP 0 1 2);go_upto_region 3 with fail
  refine FC K (fun bA hHeld=>?_);refine tx 0 28 ?_;refine tx 1 29 ?_;refine tx 2 30 ?_;refine tx 3 31 ?_;refine tx 4 32 ?_;refine tx 5 33 ?_;refine rd 6 rfl (fun KK AA=>?_);go_simp;have hgo:=bA;refine(NO.out _).mono ?_;rintro e Tt ⟨rfl,bb⟩;have Au:Below w2.heap.size w2 Tt:=bu bA bb;clear bA hgo bb hHeld;refine AA.out _ _ (K.out _ Au) (fun hHeld=>?_);clear AA KK;refine tx 7 35 ?_;refine tx 8 36 ?_;refine tx 11 39 ?_;refine tx 9 37 ?_;refine tx 12 40 ?_;refine rd 10 rfl (fun KK AA=>?_);go_simp;have hgo:=Au;refine(VO.out _).mono ?_;rintro e fu ⟨rfl,bb⟩;have BS:Below w2.heap.size w2 fu:=bu Au bb;clear Au hgo bb hHeld;refine AA.out _ _ (K.out _ BS) (fun hHeld=>?_);clear AA KK;refine tx 13 41 ?_;refine tx 14 42 ?_;refine tx 15 43 ?_;refine tx 16 4 ?_;clear hHeld;refine Bw ?_;have bb:=BS;have Yv:=bu Ao bb;have qb:=bb.size;replace LC:=LC.up bb;replace LP:=LP.up bb;clear Ao bb BS K BP BN BM;go_wp2;go_ret;exact⟨rfl,Yv⟩
 have hd:decide (vw=m)=false:=by simpa using hv
 rw[hd];go_enter Tryz.func128,Tryz.ntmps128
 obtain⟨Ae,Ai⟩:=Cn LC 0 1;go_wp2_with fail
 clear hw0;refine(CO.out _).mono ?_;rintro _ w1 ⟨rfl,bb⟩;clear Ae Ai;have AZ:=bu AO bb;have Cx:=bb.size;replace LC:=LC.up bb;replace LP:=LP.up bb;clear AO;replace RU:=RU.below bb;clear bb CO;obtain⟨BP,BN,BM⟩:=B_ LP 0 1 2;go_wp2_with fail
 refine(IN.out _).mono ?_;rintro _ w9 ⟨rfl,e9⟩;rw[e9];clear e9 IN BP BN BM;obtain⟨Ae,Ai⟩:=Cn LC 0 1;obtain⟨BP,BN,BM⟩:=B_ LP 0 1 2;go_wp2_with fail
 refine(SO.out _ RU).mono ?_;rintro _ w2 ⟨rfl,bb⟩;clear Ae Ai BP BN BM;have Ao:=bu AZ bb;have Ex:=bb.size;replace LC:=LC.up bb;replace LP:=LP.up bb;clear AZ bb SO RU;obtain⟨BP,BN,BM⟩:=B_ LP 0 1 2;have K:=kw (VS LP 0 1 2);go_upto_region 3 with fail
 refine FC K (fun bA hHeld=>?_);refine tx 0 28 ?_;refine tx 1 29 ?_;refine tx 2 30 ?_;refine tx 3 31 ?_;refine tx 4 32 ?_;refine tx 5 33 ?_;refine rd 6 rfl (fun KK AA=>?_);go_simp;have hgo:=bA;refine(NO.out _).mono ?_;rintro e Tt ⟨rfl,bb⟩;have Au:Below w2.heap.size w2 Tt:=bu bA bb;clear bA hgo bb hHeld;refine AA.out _ _ (K.out _ Au) (fun hHeld=>?_);clear AA KK;refine tx 7 35 ?_;refine tx 8 36 ?_;refine tx 11 39 ?_;refine tx 9 37 ?_;refine tx 12 40 ?_;refine rd 10 rfl (fun KK AA=>?_);go_simp;have hgo:=Au;refine(VO.out _).mono ?_;rintro e fu ⟨rfl,bb⟩;have BS:Below w2.heap.size w2 fu:=bu Au bb;clear Au hgo bb hHeld;refine AA.out _ _ (K.out _ BS) (fun hHeld=>?_);clear AA KK;refine tx 13 41 ?_;refine tx 14 42 ?_;refine tx 15 43 ?_;refine tx 16 4 ?_;clear hHeld;refine Bw ?_;have bb:=BS;have Yv:=bu Ao bb;have qb:=bb.size;replace LC:=LC.up bb;replace LP:=LP.up bb;clear Ao bb BS K BP BN BM;go_wp2;go_ret;exact⟨by simp[hv],Yv⟩
end
section
open Go.RowKit
theorem QI(m n:Int)(s t:ByteArray)(u v:Value)(xs ys:List Int)(w:World):
 Calls Tryz.prog 129 #[qv m s u,qv n t v] w fun e w'=>e= .returned (.bool (GG (m,s,xs) (n,t,ys)))∧Below w.heap.size w w':=by
 have B:=hide (Bj w (.cells #[.int .i64 m,.string s,u] 72) (.cells #[.int .i64 n,.string t,v] 72));unfold GG;simp only;by_cases h1:m<n
 ·rw[decide_eq_true h1,Bool.true_or];go_enter Tryz.func129,Tryz.ntmps129
  go_wp2;go_ret;exact⟨rfl,B.out⟩
 have hd1:=decide_eq_false h1;rw[hd1,Bool.false_or];by_cases h2:m=n
 ·subst h2;rw[decide_eq_true rfl,Bool.true_and];clear hd1;generalize hb:Op.bytesLess s.toList t.toList=q;go_enter Tryz.func129,Tryz.ntmps129
  go_wp2;go_ret;exact⟨rfl,B.out⟩
 have hd2:=decide_eq_false h2;rw[hd2,Bool.false_and];go_enter Tryz.func129,Tryz.ntmps129
 go_wp2;go_ret;exact⟨rfl,B.out⟩
end
section
open Go.RowKit
variable [∀(a b c d:Int),Decidable (BG a b c d)] [∀(n f:Int),Decidable (A_ n f)] [∀(n:Int)(s:List Int),Decidable (Dv n s)] [∀(a b c d:Nat),Decidable (DZ a b c d)] [∀(last:Int)(s:St),Decidable (Aq last s)] [∀(x:T4),Decidable (Du x)]
def Jb(n f:Int)(ps:List Pt):Bool:=ps.all (fun p=>DY n f p.1 p.2.1 p.2.2)&&rowP ps&&decide (ps.length≤20)
theorem row_iff(ps:List Pt):rowP ps=true↔∀j,j+1<ps.length→GG (ps.getD j BI) (ps.getD (j+1) BI)=true:=by
 induction ps with
 |nil=>simp[rowP]
 | cons a t ih=>
  cases t with
  |nil=>simp[rowP]
  | cons b t=>
   rw[rowP,Bool.and_eq_true,ih]
   constructor
   ·rintro⟨h1,h2⟩ j hj;cases j with
    |zero=>simpa using h1
    |succ j=>simpa using h2 j (by simpa using hj)
   intro h;refine⟨by simpa using h 0 (by simp),fun j hj=>?_⟩;have:=h (j+1) (by simpa using hj);simpa using this
theorem lC{n f:Int}{ps:List Pt}{k:Nat}(hk:k<ps.length)(h:DY n f (ps.getD k BI).1 (ps.getD k BI).2.1 (ps.getD k BI).2.2=false):Jb n f ps=false:=by
 unfold Jb
 have:ps.all (fun p=>DY n f p.1 p.2.1 p.2.2)=false:=by
  rw[List.all_eq_false];exact⟨_,Jg hk,by rw[h];simp⟩
 rw[this];rfl
theorem kz{n f:Int}{ps:List Pt}{j:Nat}(hj:j+1<ps.length)(h:GG (ps.getD j BI) (ps.getD (j+1) BI)=false):Jb n f ps=false:=by
 unfold Jb
 have:rowP ps=false:=by
  rw[Bool.eq_false_iff];intro e;have:=(row_iff ps).1 e j hj;rw[h]at this;cases this
 rw[this];simp
theorem ky{n f:Int}{ps:List Pt}(h1:∀j,j<ps.length→DY n f (ps.getD j BI).1 (ps.getD j BI).2.1 (ps.getD j BI).2.2=true)(h2:∀j,j+1<ps.length→GG (ps.getD j BI) (ps.getD (j+1) BI)=true):Jb n f ps=decide (ps.length≤20):=by
 unfold Jb
 have e1:ps.all (fun p=>DY n f p.1 p.2.1 p.2.2)=true:=by
  rw[List.all_eq_true];intro p hp;obtain⟨j,hj,rfl⟩:=List.getElem_of_mem hp;have:=h1 j hj;simpa[List.getElem?_eq_getElem hj]using this
 rw[e1,(row_iff ps).2 h2];rfl

theorem Uc(n f:Int)(v:Value)(ps:List Pt)(w:World)(hl:ps.length≤4194304)(hs:∀p ∈ ps,p.2.1.size≤1048576)(h:NY w v ps):
 Calls Tryz.prog 84 #[cv n f,v] w fun e w'=>e= .returned (.bool (Jb n f ps))∧Below w.heap.size w w':=by
 obtain⟨ao,ca,rfl⟩:=h.form;obtain⟨len,hn⟩:∃len,ps.length=len:=⟨_,rfl⟩
 have Hn:=hide hn;have HSZ:=hide hs;obtain⟨w0,hw0⟩:∃y,w.alloc (.cells #[.int .i64 n,.int .i64 f] 48)=y:=⟨_,rfl⟩
 have B0:Below w.heap.size w w0:=hw0▸Aj _ _;have L0:Loc w0 w.heap.size #[.int .i64 n,.int .i64 f]:=hw0▸AJ w _ _ rfl;have H:=hide (h.below B0);obtain⟨r,hr⟩:∃r,Jb n f ps=r:=⟨_,rfl⟩
 have N1:Hid (∀k,k<ps.length→DY n f (ps.getD k BI).1 (ps.getD k BI).2.1 (ps.getD k BI).2.2=false→r=false):=hide fun k hk h=>hr▸lC hk h;have N2:Hid (∀j,j+1<ps.length→GG (ps.getD j BI) (ps.getD (j+1) BI)=false→r=false):=hide fun j hj h=>hr▸kz hj h;have YE:Hid ((∀j,j<ps.length→DY n f (ps.getD j BI).1 (ps.getD j BI).2.1 (ps.getD j BI).2.2=true)→(∀j,j+1<ps.length→GG (ps.getD j BI) (ps.getD (j+1) BI)=true)→r=decide (len≤20)):=hide fun h1 h2=>by rw[←hr,ky h1 h2,hn]
 rw[hn]at hl H⊢;rw[hr];clear h hn hs hr;go_enter Tryz.func84,Tryz.ntmps84
 go_wp2;clear hw0
 go_loopw [5] (fun i wr=>∃k:Nat,k≤len∧i= .int .i64 k∧Hid (∀j,j<k→DY n f (ps.getD j BI).1 (ps.getD j BI).2.1 (ps.getD j BI).2.2=true)∧Hid (∀j,j+1<k→GG (ps.getD j BI) (ps.getD (j+1) BI)=true)∧Below w0.heap.size w0 wr) (fun i _=>len-(intOf i).toNat)
 case atStart=>exact⟨0,Nat.zero_le _,rfl,hide (fun j hj=>by omega),hide (fun j hj=>by omega),Below.refl _ _⟩
 case round=>
  obtain⟨k,hk,rfl,HA,HB,bb⟩:=hrel;have RQ:=bu B0 bb;have LC:=L0.up bb;have Br:=bb;have HW:=H.out.below bb;by_cases hlt:k<len
  ·have hkx:k<ps.length:=by have:=Hn.out;omega
   obtain⟨g,off,u,hao,c0,c1,c2,ru⟩:=HW.at k hkx;have hsz:=HSZ.out _ (Jg hkx);have zL:=hide (N1.out k hkx);have zJ:Hid (∀j,k=j+1→GG (ps.getD j BI) (ps.getD k BI)=false→r=false):=hide fun j hj h=>N2.out j (by omega) (by rw[←hj];exact h);have HA2:Hid (DY n f (ps.getD k BI).1 (ps.getD k BI).2.1 (ps.getD k BI).2.2=true→∀j,j<k+1→DY n f (ps.getD j BI).1 (ps.getD j BI).2.1 (ps.getD j BI).2.2=true):=hide fun h j hj=>by by_cases e:j=k;subst e;exact h;exact HA.out j (by omega)
   have HB2:Hid ((∀j,k=j+1→GG (ps.getD j BI) (ps.getD k BI)=true)→∀j,j+1<k+1→GG (ps.getD j BI) (ps.getD (j+1) BI)=true):=hide fun h j hj=>by by_cases e:k=j+1;have:=h j e;rwa [e]at this;exact HB.out j (by omega)
   have oV:Hid (∀j,k=j+1→∃u',wr.cell? ⟨g,off+j*3,none⟩=some (.int .i64 (ps.getD j BI).1)∧wr.cell? ⟨g,off+j*3+1,none⟩=some (.string (ps.getD j BI).2.1)∧wr.cell? ⟨g,off+j*3+2,none⟩=some u'∧RI wr u' (ps.getD j BI).2.2):=hide fun j hj=>by
    obtain⟨g',off',u',e,d0,d1,d2,ow⟩:=HW.at j (by omega);rw[hao]at e;injection e with e
    injection e with e1 e2
    subst e1 e2;exact⟨u',d0,d1,d2,ow⟩
   subst hao;generalize hx:ps.getD k BI=x at *;obtain⟨m,s,xs⟩:=x;simp only at c0 c1 ru hsz zL HA2;have PO:=hide fun w h=>Ey n f m s u xs w hsz h;obtain⟨ua,uc,rfl⟩:=ru.form;have RU:=hide fun w'(hb':Below wr.heap.size wr w')=>ru.below hb';generalize DY n f m s xs=pk at *;obtain⟨xl,hxl⟩:∃l,xs.length=l:=⟨_,rfl⟩
   rw[hxl]at PO RU c2;clear ru HW H N1 N2 YE HA HB hx hxl;cases pk
   ·have e:=zL.out rfl;subst e;clear zL zJ HA2 HB2 oV;obtain⟨Ae,Ai⟩:=Cn LC 0 1;have K:Hid (∀w',Below wr.heap.size wr w'→(fun w'=>Below wr.heap.size wr w'∧(w'.cell? ⟨w.heap.size,0,none⟩=some (.int .i64 n)∧w'.cell? ⟨w.heap.size,1,none⟩=some (.int .i64 f))∧w'.cell? ⟨g,off+k*3,none⟩=some (.int .i64 m)∧w'.cell? ⟨g,off+k*3+1,none⟩=some (.string s)∧w'.cell? ⟨g,off+k*3+2,none⟩=some (.slice ua xl uc)) w'):=hide fun w' hb'=>⟨hb',⟨(LC.up hb').cell 0 rfl,(LC.up hb').cell 1 rfl⟩,(hb'.cell (p:=⟨g,off+k*3,none⟩) (AQ c0)).trans c0,(hb'.cell (p:=⟨g,off+k*3+1,none⟩) (AQ c1)).trans c1,(hb'.cell (p:=⟨g,off+k*3+2,none⟩) (AQ c2)).trans c2⟩
    go_upto_region 4 with fail
    refine FC K (fun bA hHeld=>?_);refine tx 0 12 ?_;refine tx 1 13 ?_;refine tx 2 14 ?_;refine tx 3 15 ?_;refine tx 4 16 ?_;refine rd 5 rfl (fun KK AA=>?_);go_simp;have hgo:=bA;refine(PO.out _ (RU.out _ hgo)).mono ?_;rintro e Na ⟨rfl,bb⟩;have Au:Below wr.heap.size wr Na:=bu bA bb;clear RU bA hgo bb hHeld;refine AA.out _ _ (K.out _ Au) (fun hHeld=>?_);clear AA KK;refine tx 6 18 ?_;refine tx 7 19 ?_;refine sx 8 20 ?_;refine sx 9 21 ?_;refine sx 10 22 ?_;refine sx 11 23 ?_;refine sx 12 24 ?_;refine sx 16 28 ?_;refine sx 17 29 ?_;refine sx 13 25 ?_;refine sx 18 30 ?_;refine sx 14 26 ?_;refine sx 19 31 ?_;refine sx 15 27 ?_;refine sx 20 32 ?_;refine sx 21 33 ?_;refine sx 22 34 ?_;refine tx 23 35 ?_;clear hHeld;refine Bw ?_;have bb:=Au;have j_:=bu RQ bb;have qZ:=bb.size;replace LC:=LC.up bb;replace Br:=bu Br bb;clear RQ bb Au K Ae Ai;go_wp2;go_ret;exact⟨rfl,j_⟩
   have HA3:=hide (HA2.out rfl);clear zL HA2;by_cases hk0:k=0
   ·have HB3:=hide (HB2.out (fun j hj=>by omega));clear zJ HB2 oV;subst hk0;simp only[Nat.zero_mul,Nat.add_zero]at c0 c1 c2;obtain⟨Ae,Ai⟩:=Cn LC 0 1;have K:Hid (∀w',Below wr.heap.size wr w'→(fun w'=>Below wr.heap.size wr w'∧(w'.cell? ⟨w.heap.size,0,none⟩=some (.int .i64 n)∧w'.cell? ⟨w.heap.size,1,none⟩=some (.int .i64 f))∧w'.cell? ⟨g,off,none⟩=some (.int .i64 m)∧w'.cell? ⟨g,off+1,none⟩=some (.string s)∧w'.cell? ⟨g,off+2,none⟩=some (.slice ua xl uc)) w'):=hide fun w' hb'=>⟨hb',⟨(LC.up hb').cell 0 rfl,(LC.up hb').cell 1 rfl⟩,(hb'.cell (p:=⟨g,off,none⟩) (AQ c0)).trans c0,(hb'.cell (p:=⟨g,off+1,none⟩) (AQ c1)).trans c1,(hb'.cell (p:=⟨g,off+2,none⟩) (AQ c2)).trans c2⟩
    go_upto_region 4 with fail
    refine FC K (fun bA hHeld=>?_);refine tx 0 12 ?_;refine tx 1 13 ?_;refine tx 2 14 ?_;refine tx 3 15 ?_;refine tx 4 16 ?_;refine rd 5 rfl (fun KK AA=>?_);go_simp;have hgo:=bA;refine(PO.out _ (RU.out _ hgo)).mono ?_;rintro e Na ⟨rfl,bb⟩;have Au:Below wr.heap.size wr Na:=bu bA bb;clear RU bA hgo bb hHeld;refine AA.out _ _ (K.out _ Au) (fun hHeld=>?_);clear AA KK;refine tx 6 18 ?_;refine tx 7 19 ?_;refine tx 8 20 ?_;refine tx 9 21 ?_;refine tx 10 22 ?_;refine sx 11 23 ?_;refine sx 12 24 ?_;refine sx 16 28 ?_;refine sx 17 29 ?_;refine sx 13 25 ?_;refine sx 18 30 ?_;refine sx 14 26 ?_;refine sx 19 31 ?_;refine sx 15 27 ?_;refine sx 20 32 ?_;refine sx 21 33 ?_;refine tx 22 34 ?_;refine tx 23 35 ?_;clear hHeld;refine Bw ?_;have bb:=Au;have j_:=bu RQ bb;have qZ:=bb.size;replace LC:=LC.up bb;replace Br:=bu Br bb;clear RQ bb Au K Ae Ai;go_wp2
    go_roundw
    case rel=>exact⟨0+1,by omega,by go_num,HA3,HB3,Br⟩
    case measure=>simp[intOf];omega
   obtain⟨j,hj⟩:∃j,k=j+1:=⟨k-1,by omega⟩
   have zK:=hide (zJ.out j hj);obtain⟨u',d0,d1,d2,ow⟩:=oV.out j hj;have HB3:Hid (GG (ps.getD j BI) (m,s,xs)=true→∀j,j+1<k+1→GG (ps.getD j BI) (ps.getD (j+1) BI)=true):=hide fun h=>HB2.out (fun i hi=>by obtain rfl:i=j:=(by omega);exact h);clear zJ HB2 oV hk0;subst hj;generalize ps.getD j BI=y at *;obtain⟨m',s',xs'⟩:=y;simp only at d0 d1 ow zK HB3;obtain⟨va,vc,rfl⟩:=ow.form;generalize xs'.length=yl at *;clear ow;have BE:=hide fun w=>QI m' m s' s (.slice va yl vc) (.slice ua xl uc) xs' xs w;generalize GG (m',s',xs') (m,s,xs)=be at *;have hg1:decide ((0:Int)<(j:Int)+1)=true:=decide_eq_true (by omega);have hwm:IntKind.i64.wrap (j:Int)=j:=by simp only[IntKind.wrap_i64];omega
   cases be
   ·have e:=zK.out rfl;subst e;clear zK HB3;obtain⟨Ae,Ai⟩:=Cn LC 0 1;have K:Hid (∀w',Below wr.heap.size wr w'→(fun w'=>Below wr.heap.size wr w'∧(w'.cell? ⟨w.heap.size,0,none⟩=some (.int .i64 n)∧w'.cell? ⟨w.heap.size,1,none⟩=some (.int .i64 f))∧w'.cell? ⟨g,off+(j+1)*3,none⟩=some (.int .i64 m)∧w'.cell? ⟨g,off+(j+1)*3+1,none⟩=some (.string s)∧w'.cell? ⟨g,off+(j+1)*3+2,none⟩=some (.slice ua xl uc)∧w'.cell? ⟨g,off+j*3,none⟩=some (.int .i64 m')∧w'.cell? ⟨g,off+j*3+1,none⟩=some (.string s')∧w'.cell? ⟨g,off+j*3+2,none⟩=some (.slice va yl vc)) w'):=hide fun w' hb'=>⟨hb',⟨(LC.up hb').cell 0 rfl,(LC.up hb').cell 1 rfl⟩,(hb'.cell (p:=⟨g,off+(j+1)*3,none⟩) (AQ c0)).trans c0,(hb'.cell (p:=⟨g,off+(j+1)*3+1,none⟩) (AQ c1)).trans c1,(hb'.cell (p:=⟨g,off+(j+1)*3+2,none⟩) (AQ c2)).trans c2,(hb'.cell (p:=⟨g,off+j*3,none⟩) (AQ d0)).trans d0,(hb'.cell (p:=⟨g,off+j*3+1,none⟩) (AQ d1)).trans d1,(hb'.cell (p:=⟨g,off+j*3+2,none⟩) (AQ d2)).trans d2⟩
    go_upto_region 4 with fail
    refine FC K (fun bA hHeld=>?_);refine tx 0 12 ?_;refine tx 1 13 ?_;refine tx 2 14 ?_;refine take_at (i:=3) (d:=15) (v:=?_) rfl rfl (by kernel_rfl) (by kernel_rfl) (by kernel_rfl) (fun _ _ _ h=>h) (Or.inl ⟨by rfl,?_⟩) (by assumption) ?_
    rotate_left
    ·intro w hSw
     try dsimp only at hSw
     go_simp
     try rw[if_pos (by omega)]
     try with_reducible rfl
    simp only[pU];refine tx 4 16 ?_;refine rd 5 rfl (fun KK AA=>?_);go_simp;have hgo:=bA;refine(PO.out _ (RU.out _ hgo)).mono ?_;rintro e Na ⟨rfl,bb⟩;have Au:Below wr.heap.size wr Na:=bu bA bb;clear RU bA hgo bb hHeld;refine AA.out _ _ (K.out _ Au) (fun hHeld=>?_);clear AA KK;refine tx 6 18 ?_;refine tx 7 19 ?_;refine tx 8 20 ?_;refine tx 9 21 ?_;refine tx 10 22 ?_;refine tx 11 23 ?_;refine tx 12 24 ?_;refine tx 16 28 ?_;refine tx 17 29 ?_;refine tx 13 25 ?_;refine take_at (i:=18) (d:=30) (v:=?_) rfl rfl (by kernel_rfl) (by kernel_rfl) (by kernel_rfl) (fun _ _ _ h=>h) (Or.inl ⟨by rfl,?_⟩) (by assumption) ?_
    rotate_left
    ·intro w hSw
     try dsimp only at hSw
     go_simp
     try rw[if_pos (by omega)]
     try with_reducible rfl
    simp only[pU];refine take_at (i:=14) (d:=26) (v:=?_) rfl rfl (by kernel_rfl) (by kernel_rfl) (by kernel_rfl) (fun _ _ _ h=>h) (Or.inl ⟨by rfl,?_⟩) (by assumption) ?_
    rotate_left
    ·intro w hSw
     try dsimp only at hSw
     go_simp
     try rw[if_pos (by omega)]
     try with_reducible rfl
    simp only[pU];refine tx 19 31 ?_;refine tx 15 27 ?_;refine rd 20 rfl (fun KK AA=>?_);go_simp;have hgo:=Au;refine(BE.out _).mono ?_;rintro e fo ⟨rfl,bb⟩;have BS:Below wr.heap.size wr fo:=bu Au bb;clear Au hgo bb hHeld;refine AA.out _ _ (K.out _ BS) (fun hHeld=>?_);clear AA KK;refine tx 21 33 ?_;refine tx 22 34 ?_;refine tx 23 35 ?_;clear hHeld;refine Bw ?_;have bb:=BS;have j6:=bu RQ bb;have qW:=bb.size;replace LC:=LC.up bb;replace Br:=bu Br bb;clear RQ bb BS K Ae Ai;go_wp2;go_ret;exact⟨rfl,j6⟩
   have HB4:=hide (HB3.out rfl);clear zK HB3;obtain⟨Ae,Ai⟩:=Cn LC 0 1;have K:Hid (∀w',Below wr.heap.size wr w'→(fun w'=>Below wr.heap.size wr w'∧(w'.cell? ⟨w.heap.size,0,none⟩=some (.int .i64 n)∧w'.cell? ⟨w.heap.size,1,none⟩=some (.int .i64 f))∧w'.cell? ⟨g,off+(j+1)*3,none⟩=some (.int .i64 m)∧w'.cell? ⟨g,off+(j+1)*3+1,none⟩=some (.string s)∧w'.cell? ⟨g,off+(j+1)*3+2,none⟩=some (.slice ua xl uc)∧w'.cell? ⟨g,off+j*3,none⟩=some (.int .i64 m')∧w'.cell? ⟨g,off+j*3+1,none⟩=some (.string s')∧w'.cell? ⟨g,off+j*3+2,none⟩=some (.slice va yl vc)) w'):=hide fun w' hb'=>⟨hb',⟨(LC.up hb').cell 0 rfl,(LC.up hb').cell 1 rfl⟩,(hb'.cell (p:=⟨g,off+(j+1)*3,none⟩) (AQ c0)).trans c0,(hb'.cell (p:=⟨g,off+(j+1)*3+1,none⟩) (AQ c1)).trans c1,(hb'.cell (p:=⟨g,off+(j+1)*3+2,none⟩) (AQ c2)).trans c2,(hb'.cell (p:=⟨g,off+j*3,none⟩) (AQ d0)).trans d0,(hb'.cell (p:=⟨g,off+j*3+1,none⟩) (AQ d1)).trans d1,(hb'.cell (p:=⟨g,off+j*3+2,none⟩) (AQ d2)).trans d2⟩
   go_upto_region 4 with fail
   refine FC K (fun bA hHeld=>?_);refine tx 0 12 ?_;refine tx 1 13 ?_;refine tx 2 14 ?_;refine take_at (i:=3) (d:=15) (v:=?_) rfl rfl (by kernel_rfl) (by kernel_rfl) (by kernel_rfl) (fun _ _ _ h=>h) (Or.inl ⟨by rfl,?_⟩) (by assumption) ?_
   rotate_left
   ·intro w hSw
    try dsimp only at hSw
    go_simp
    try rw[if_pos (by omega)]
    try with_reducible rfl
   simp only[pU];refine tx 4 16 ?_;refine rd 5 rfl (fun KK AA=>?_);go_simp;have hgo:=bA;refine(PO.out _ (RU.out _ hgo)).mono ?_;rintro e Na ⟨rfl,bb⟩;have Au:Below wr.heap.size wr Na:=bu bA bb;clear RU bA hgo bb hHeld;refine AA.out _ _ (K.out _ Au) (fun hHeld=>?_);clear AA KK;refine tx 6 18 ?_;refine tx 7 19 ?_;refine tx 8 20 ?_;refine tx 9 21 ?_;refine tx 10 22 ?_;refine tx 11 23 ?_;refine tx 12 24 ?_;refine tx 16 28 ?_;refine tx 17 29 ?_;refine tx 13 25 ?_;refine take_at (i:=18) (d:=30) (v:=?_) rfl rfl (by kernel_rfl) (by kernel_rfl) (by kernel_rfl) (fun _ _ _ h=>h) (Or.inl ⟨by rfl,?_⟩) (by assumption) ?_
   rotate_left
   ·intro w hSw
    try dsimp only at hSw
    go_simp
    try rw[if_pos (by omega)]
    try with_reducible rfl
   simp only[pU];refine take_at (i:=14) (d:=26) (v:=?_) rfl rfl (by kernel_rfl) (by kernel_rfl) (by kernel_rfl) (fun _ _ _ h=>h) (Or.inl ⟨by rfl,?_⟩) (by assumption) ?_
   rotate_left
   ·intro w hSw
    try dsimp only at hSw
    go_simp
    try rw[if_pos (by omega)]
    try with_reducible rfl
   simp only[pU];refine tx 19 31 ?_;refine tx 15 27 ?_;refine rd 20 rfl (fun KK AA=>?_);go_simp;have hgo:=Au;refine(BE.out _).mono ?_;rintro e fo ⟨rfl,bb⟩;have BS:Below wr.heap.size wr fo:=bu Au bb;clear Au hgo bb hHeld;refine AA.out _ _ (K.out _ BS) (fun hHeld=>?_);clear AA KK;refine tx 21 33 ?_;refine tx 22 34 ?_;refine tx 23 35 ?_;clear hHeld;refine Bw ?_;have bb:=BS;have j6:=bu RQ bb;have qW:=bb.size;replace LC:=LC.up bb;replace Br:=bu Br bb;clear RQ bb BS K Ae Ai;go_wp2
   go_roundw
   case rel=>exact⟨j+1+1,by omega,by go_num,HA3,HB4,Br⟩
   case measure=>simp[intOf];omega
  have e:=YE.out (fun j hj=>HA.out j (by have:=Hn.out;omega)) (fun j hj=>HB.out j (by have:=Hn.out;omega));have hd:decide ((len:Int)≤20)=decide (len≤20):=by simp;omega
  subst e;clear HA HB HW LC Br bb N1 N2 YE H;go_wp2;go_ret;exact⟨rfl,RQ⟩
end
section
open Go.RowKit
def Jn(n:Nat)(s:Int):Bool:=decide (n≤100000)&&(decide (0≤s)&&decide (s≤(n:Int)))
theorem kg(x lo hi:Int)(w:World):Calls Tryz.prog 96 #[.int .i64 x,.int .i64 lo,.int .i64 hi] w fun e w'=>e= .returned (.bool (decide (lo≤x)&&decide (x≤hi)))∧w'=w:=by
 by_cases h1:lo≤x<;>by_cases h2:x≤hi<;>simp only[h1,h2,decide_true,decide_false,Bool.and_true,Bool.and_false]
 all_goals
  go_enter Tryz.func96,Tryz.ntmps96
  go_wp2;go_ret;exact⟨rfl,rfl⟩
theorem wO(x lo hi:Int)(w:World):Calls Tryz.prog 81 #[.int .i64 x,.int .i64 lo,.int .i64 hi] w fun e w'=>e= .returned (.bool (decide (lo≤x)&&decide (x≤hi)))∧w'=w:=by
 by_cases h1:lo≤x<;>by_cases h2:x≤hi<;>simp only[h1,h2,decide_true,decide_false,Bool.and_true,Bool.and_false]
 all_goals
  go_enter Tryz.func81,Tryz.ntmps81
  go_wp2;go_ret;exact⟨rfl,rfl⟩
theorem YC(ao:Option Addr)(n ca:Nat)(s:Int)(w:World):
 Calls Tryz.prog 100 #[dv (.slice ao n ca) s] w fun e w'=>e= .returned (.bool (Jn n s))∧Below w.heap.size w w':=by
 have WI:=hide fun w=>kg s 0 (n:Int) w;by_cases h1:n≤100000
 ·have hd:Jn n s=(decide (0≤s)&&decide (s≤(n:Int))):=by simp[Jn,h1]
  have h2:((n:Int)≤100000):=by omega
  rw[hd];generalize (decide (0≤s)&&decide (s≤(n:Int)))=b at *;clear hd;go_enter Tryz.func100,Tryz.ntmps100
  go_wp2_with fail
  refine(WI.out _).mono ?_;rintro e w1 ⟨rfl,rfl⟩;go_wp2;go_ret;exact⟨rfl,Aj _ _⟩
 have hd:Jn n s=false:=by simp[Jn,h1]
 have h2:¬((n:Int)≤100000):=by omega
 rw[hd];clear hd;go_enter Tryz.func100,Tryz.ntmps100
 go_wp2;go_ret;exact⟨rfl,Aj _ _⟩
theorem XZ(ao:Option Addr)(n ca:Nat)(s:Int)(w:World):
 Calls Tryz.prog 85 #[dv (.slice ao n ca) s] w fun e w'=>e= .returned (.bool (Jn n s))∧Below w.heap.size w w':=by
 have WI:=hide fun w=>wO s 0 (n:Int) w;by_cases h1:n≤100000
 ·have hd:Jn n s=(decide (0≤s)&&decide (s≤(n:Int))):=by simp[Jn,h1]
  have h2:((n:Int)≤100000):=by omega
  rw[hd];generalize (decide (0≤s)&&decide (s≤(n:Int)))=b at *;clear hd;go_enter Tryz.func85,Tryz.ntmps85
  go_wp2_with fail
  refine(WI.out _).mono ?_;rintro e w1 ⟨rfl,rfl⟩;go_wp2;go_ret;exact⟨rfl,Aj _ _⟩
 have hd:Jn n s=false:=by simp[Jn,h1]
 have h2:¬((n:Int)≤100000):=by omega
 rw[hd];clear hd;go_enter Tryz.func85,Tryz.ntmps85
 go_wp2;go_ret;exact⟨rfl,Aj _ _⟩

def RF(w:World)(g:Nat)(v:Value)(xs:List Int):Prop:=
 xs.length≤4194304∧∃ao cap,v= .slice ao xs.length cap∧(xs.length≤cap∧cap≤maxLen)∧(xs=[]∨∃b off,ao=some ⟨b,off,none⟩∧b≠g∧∀k,k<xs.length→w.cell? ⟨b,off+k,none⟩=some (.int .u8 (xs.getD k 0)))
theorem RF.rb{w:World}{g:Nat}{v:Value}{xs:List Int}(h:RF w g v xs):RB w v xs:=by
 obtain⟨hl,ao,cap,e,hc,h⟩:=h;refine⟨by omega,ao,cap,e,hc,?_⟩;rcases h with h|⟨b,off,e,_,h⟩
 ·exact .inl h
 exact .inr ⟨b,off,e,h⟩
theorem RF.kp{w w':World}{g:Nat}{v:Value}{xs:List Int}(h:RF w g v xs)(k:Kp w w' (fun k=>k=g)):RF w' g v xs:=by
 obtain⟨hl,ao,cap,e,hc,h⟩:=h;refine⟨hl,ao,cap,e,hc,?_⟩;rcases h with h|⟨b,off,e,hb,h⟩
 ·exact .inl h
 exact .inr ⟨b,off,e,hb,fun j hj=>k.cell (h j hj) hb⟩
theorem RF.below{w w':World}{g:Nat}{v:Value}{xs:List Int}(h:RF w g v xs)(b:Below w.heap.size w w'):RF w' g v xs:=h.kp (Below.BJ b _)
theorem RF.form{w:World}{g:Nat}{v:Value}{xs:List Int}(h:RF w g v xs):∃ao ca,v= .slice ao xs.length ca:=by
 obtain⟨_,ao,cap,e,_⟩:=h;exact⟨ao,cap,e⟩
end
end Go.Proofs.YtcjmcgolgbkknaaGreatDoor
