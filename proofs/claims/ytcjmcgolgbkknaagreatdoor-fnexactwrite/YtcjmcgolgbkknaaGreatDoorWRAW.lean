/- Lemmas; their conditions stand in each statement. -/
import Derived.Test.YtcjmcgolgbkknaaGreatDoorWRAV
set_option maxRecDepth 100000
set_option maxHeartbeats 8000000
set_option linter.unusedSectionVars false
namespace Go.Proofs.YtcjmcgolgbkknaaGreatDoor
section
open Go.RowKit
variable [∀(a b c d:Int),Decidable (BK a b c d)] [∀(a b c d:Nat),Decidable (Dc a b c d)] [∀(last:Int)(s:St),Decidable (Ak last s)] [∀(x:T4),Decidable (Dv x)] [∀(n:Int)(s:List Int),Decidable (Dw n s)] [∀(n f:Int),Decidable (A9 n f)]
def KG(n f v:Int)(s:ByteArray)(xs:List Int):Bool:=decide (0<v)&&(v==Ao s)&&decide (Ba n f≤(xs.length:Int))&&decide (Dw n xs)

theorem UB(g:Nat)(n f v:Int)(s:ByteArray)(ao:Option Addr)(ca:Nat)(xs:List Int)(w:World)(hs:s.size≤33554432)(hE:Env w)(hg:Loc w g #[.int .i64 v,.string s,.slice ao xs.length ca])(ha:RI w (.slice ao xs.length ca) xs):
 Calls Tryz.prog 175 #[.pointer (some ⟨g,0,none⟩),cv n f] w fun e w'=>e= .returned (.bool (KG n f v s xs))∧Below w.heap.size w w':=by
 have hgl:=hg.lt;have VO:=hide fun w hE=>Ql s w hs hE;have QU:=hide fun w=>Zl n f w;have SO:=hide fun w h=>TF n (.slice ao xs.length ca) xs w h;have hvb:KG n f v s xs=(decide (0<v)&&(v==Ao s)&&decide (Ba n f≤(xs.length:Int))&&decide (Dw n xs)):=rfl;rw[hvb];clear hvb;generalize Ao s=q at *;generalize Ba n f=qu at *;generalize decide (Dw n xs)=ok at *;obtain⟨w0,hw0⟩:∃w0,w.alloc (.cells #[.int .i64 n,.int .i64 f] 48)=w0:=⟨_,rfl⟩
 have B0:Below w.heap.size w w0:=hw0▸Bp _ _;have C0:Loc w0 w.heap.size #[.int .i64 n,.int .i64 f]:=hw0▸AB w _ _ rfl;have G0:=hg.below B0 hgl;have HE:=hide (hE.below B0);have HA:=hide (ha.below B0);have K:=kw (ka (Uf G0 0 1 2) (Hr C0 0 1));obtain⟨m,hm⟩:∃m,xs.length=m:=⟨_,rfl⟩
 rw[hm]at K HA SO⊢;clear hg ha hE G0 C0 hm;by_cases h1:0<v
 ·have d1:decide (0<v)=true:=by simpa using h1
  rw[d1,Bool.true_and];by_cases h2:v=q
  ·have d2:(v==q)=true:=by simpa using h2
   rw[d2,Bool.true_and];clear d2;subst h2;by_cases h3:qu≤(m:Int)
   ·have d3:decide (qu≤(m:Int))=true:=by simpa using h3
    rw[d3,Bool.true_and];go_enter Tryz.func175,Tryz.ntmps175
    go_upto_region 1 with fail
    clear hw0;have bA:Below w0.heap.size w0 w0.drew:=Below.drew (Below.refl _ _);refine wp_region_noPanic ?_;refine wp_region_held_drew (S:=fun w'=>Below w0.heap.size w0 w'∧(w'.cell? ⟨g,0,none⟩=some (.int .i64 v)∧w'.cell? ⟨g,1,none⟩=some (.string s)∧w'.cell? ⟨g,2,none⟩=some (.slice ao m ca))∧(w'.cell? ⟨w.heap.size,0,none⟩=some (.int .i64 n)∧w'.cell? ⟨w.heap.size,1,none⟩=some (.int .i64 f))) (by kernel_rfl) (K.out _ bA) (fun hHeld=>?_);refine tx 0 5 ?_;refine tx 1 6 ?_;refine tx 2 7 ?_;refine tx 3 8 ?_;refine tx 4 9 ?_;refine tx 5 10 ?_;refine tx 6 11 ?_;refine tx 7 12 ?_;refine tx 8 13 ?_;refine tx 9 14 ?_;refine tx 10 15 ?_;refine tx 11 16 ?_;refine tx 12 17 ?_;refine tx 13 18 ?_;refine rd 14 rfl (fun KK AA=>?_);go_simp;have hgo:=bA;refine(VO.out _ (HE.out.below hgo)).mono ?_;rintro e Np ⟨rfl,bb⟩;have bB:Below w0.heap.size w0 Np:=bu bA bb;clear bA hgo bb hHeld;refine AA.out _ _ (K.out _ bB) (fun hHeld=>?_);clear AA KK;refine tx 15 20 ?_;refine tx 16 21 ?_;refine tx 17 22 ?_;refine tx 18 23 ?_;refine tx 19 24 ?_;refine tx 20 25 ?_;refine tx 21 26 ?_;refine tx 22 27 ?_;refine tx 23 28 ?_;refine rd 24 rfl (fun KK AA=>?_);go_simp;have hgo:=bB;refine(QU.out _).mono ?_;rintro e Tj ⟨rfl,bb⟩;have bC:Below w0.heap.size w0 Tj:=bu bB bb;clear bB hgo bb hHeld;refine AA.out _ _ (K.out _ bC) (fun hHeld=>?_);clear AA KK;refine tx 25 30 ?_;refine tx 26 31 ?_;refine tx 27 32 ?_;refine tx 28 33 ?_;refine tx 29 34 ?_;refine tx 30 35 ?_;refine tx 31 36 ?_;refine tx 32 37 ?_;refine tx 33 38 ?_;refine rd 34 rfl (fun KK AA=>?_);go_simp;have hgo:=bC;refine(SO.out _ (HA.out.below hgo)).mono ?_;rintro e FD ⟨rfl,bb⟩;have bD:Below w0.heap.size w0 FD:=bu bC bb;clear bC hgo bb hHeld;refine AA.out _ _ (K.out _ bD) (fun hHeld=>?_);clear AA KK;refine tx 35 40 ?_;refine tx 36 4 ?_;clear hHeld;refine Bu ?_;go_wp2;go_ret;exact⟨rfl,bu B0 bD⟩
   have d3:decide (qu≤(m:Int))=false:=by simpa using h3
   rw[d3,Bool.false_and];go_enter Tryz.func175,Tryz.ntmps175
   go_upto_region 1 with fail
   clear hw0;have bA:Below w0.heap.size w0 w0.drew:=Below.drew (Below.refl _ _);refine wp_region_noPanic ?_;refine wp_region_held_drew (S:=fun w'=>Below w0.heap.size w0 w'∧(w'.cell? ⟨g,0,none⟩=some (.int .i64 v)∧w'.cell? ⟨g,1,none⟩=some (.string s)∧w'.cell? ⟨g,2,none⟩=some (.slice ao m ca))∧(w'.cell? ⟨w.heap.size,0,none⟩=some (.int .i64 n)∧w'.cell? ⟨w.heap.size,1,none⟩=some (.int .i64 f))) (by kernel_rfl) (K.out _ bA) (fun hHeld=>?_);refine tx 0 5 ?_;refine tx 1 6 ?_;refine tx 2 7 ?_;refine tx 3 8 ?_;refine tx 4 9 ?_;refine tx 5 10 ?_;refine tx 6 11 ?_;refine tx 7 12 ?_;refine tx 8 13 ?_;refine tx 9 14 ?_;refine tx 10 15 ?_;refine tx 11 16 ?_;refine tx 12 17 ?_;refine tx 13 18 ?_;refine rd 14 rfl (fun KK AA=>?_);go_simp;have hgo:=bA;refine(VO.out _ (HE.out.below hgo)).mono ?_;rintro e Np ⟨rfl,bb⟩;have bB:Below w0.heap.size w0 Np:=bu bA bb;clear bA hgo bb hHeld;refine AA.out _ _ (K.out _ bB) (fun hHeld=>?_);clear AA KK;refine tx 15 20 ?_;refine tx 16 21 ?_;refine tx 17 22 ?_;refine tx 18 23 ?_;refine tx 19 24 ?_;refine tx 20 25 ?_;refine tx 21 26 ?_;refine tx 22 27 ?_;refine tx 23 28 ?_;refine rd 24 rfl (fun KK AA=>?_);go_simp;have hgo:=bB;refine(QU.out _).mono ?_;rintro e Tj ⟨rfl,bb⟩;have bC:Below w0.heap.size w0 Tj:=bu bB bb;clear bB hgo bb hHeld;refine AA.out _ _ (K.out _ bC) (fun hHeld=>?_);clear AA KK;refine tx 25 30 ?_;refine tx 26 31 ?_;refine tx 27 32 ?_;refine sx 28 33 ?_;refine sx 29 34 ?_;refine sx 30 35 ?_;refine sx 31 36 ?_;refine sx 32 37 ?_;refine sx 33 38 ?_;refine sx 34 39 ?_;refine tx 35 40 ?_;refine tx 36 4 ?_;clear hHeld;refine Bu ?_;go_wp2;go_ret;exact⟨rfl,bu B0 bC⟩
  have d2:(v==q)=false:=by simpa using h2
  rw[d2,Bool.false_and,Bool.false_and];go_enter Tryz.func175,Tryz.ntmps175
  go_upto_region 1 with fail
  clear hw0;have bA:Below w0.heap.size w0 w0.drew:=Below.drew (Below.refl _ _);refine wp_region_noPanic ?_;refine wp_region_held_drew (S:=fun w'=>Below w0.heap.size w0 w'∧(w'.cell? ⟨g,0,none⟩=some (.int .i64 v)∧w'.cell? ⟨g,1,none⟩=some (.string s)∧w'.cell? ⟨g,2,none⟩=some (.slice ao m ca))∧(w'.cell? ⟨w.heap.size,0,none⟩=some (.int .i64 n)∧w'.cell? ⟨w.heap.size,1,none⟩=some (.int .i64 f))) (by kernel_rfl) (K.out _ bA) (fun hHeld=>?_);refine tx 0 5 ?_;refine tx 1 6 ?_;refine tx 2 7 ?_;refine tx 3 8 ?_;refine tx 4 9 ?_;refine tx 5 10 ?_;refine tx 6 11 ?_;refine tx 7 12 ?_;refine tx 8 13 ?_;refine tx 9 14 ?_;refine tx 10 15 ?_;refine tx 11 16 ?_;refine tx 12 17 ?_;refine tx 13 18 ?_;refine rd 14 rfl (fun KK AA=>?_);go_simp;have hgo:=bA;refine(VO.out _ (HE.out.below hgo)).mono ?_;rintro e Np ⟨rfl,bb⟩;have bB:Below w0.heap.size w0 Np:=bu bA bb;clear bA hgo bb hHeld;refine AA.out _ _ (K.out _ bB) (fun hHeld=>?_);clear AA KK;refine tx 15 20 ?_;refine tx 16 21 ?_;refine tx 17 22 ?_;refine sx 18 23 ?_;refine sx 19 24 ?_;refine sx 20 25 ?_;refine sx 21 26 ?_;refine sx 22 27 ?_;refine sx 23 28 ?_;refine sx 24 29 ?_;refine sx 25 30 ?_;refine tx 26 31 ?_;refine tx 27 32 ?_;refine sx 28 33 ?_;refine sx 29 34 ?_;refine sx 30 35 ?_;refine sx 31 36 ?_;refine sx 32 37 ?_;refine sx 33 38 ?_;refine sx 34 39 ?_;refine tx 35 40 ?_;refine tx 36 4 ?_;clear hHeld;refine Bu ?_;go_wp2;go_ret;exact⟨rfl,bu B0 bB⟩
 have d1:decide (0<v)=false:=by simpa using h1
 rw[d1,Bool.false_and,Bool.false_and,Bool.false_and];go_enter Tryz.func175,Tryz.ntmps175
 go_upto_region 1 with fail
 clear hw0;have bA:Below w0.heap.size w0 w0.drew:=Below.drew (Below.refl _ _);refine wp_region_noPanic ?_;refine wp_region_held_drew (S:=fun w'=>Below w0.heap.size w0 w'∧(w'.cell? ⟨g,0,none⟩=some (.int .i64 v)∧w'.cell? ⟨g,1,none⟩=some (.string s)∧w'.cell? ⟨g,2,none⟩=some (.slice ao m ca))∧(w'.cell? ⟨w.heap.size,0,none⟩=some (.int .i64 n)∧w'.cell? ⟨w.heap.size,1,none⟩=some (.int .i64 f))) (by kernel_rfl) (K.out _ bA) (fun hHeld=>?_);refine tx 0 5 ?_;refine tx 1 6 ?_;refine tx 2 7 ?_;refine tx 3 8 ?_;refine tx 4 9 ?_;refine tx 5 10 ?_;refine sx 6 11 ?_;refine sx 7 12 ?_;refine sx 8 13 ?_;refine sx 9 14 ?_;refine sx 10 15 ?_;refine sx 11 16 ?_;refine sx 12 17 ?_;refine sx 13 18 ?_;refine sx 14 19 ?_;refine sx 15 20 ?_;refine tx 16 21 ?_;refine tx 17 22 ?_;refine sx 18 23 ?_;refine sx 19 24 ?_;refine sx 20 25 ?_;refine sx 21 26 ?_;refine sx 22 27 ?_;refine sx 23 28 ?_;refine sx 24 29 ?_;refine sx 25 30 ?_;refine tx 26 31 ?_;refine tx 27 32 ?_;refine sx 28 33 ?_;refine sx 29 34 ?_;refine sx 30 35 ?_;refine sx 31 36 ?_;refine sx 32 37 ?_;refine sx 33 38 ?_;refine sx 34 39 ?_;refine tx 35 40 ?_;refine tx 36 4 ?_;clear hHeld;refine Bu ?_;go_wp2;go_ret;exact⟨rfl,bu B0 bA⟩
theorem XP(n f v:Int)(s:ByteArray)(ao:Option Addr)(ca:Nat)(xs:List Int)(w:World)(hs:s.size≤33554432)(hE:Env w)(ha:RI w (.slice ao xs.length ca) xs):
 Calls Tryz.prog 137 #[cv n f,qv v s (.slice ao xs.length ca)] w fun e w'=>e= .returned (.bool (decide (A9 n f)&&(BM v 0 s ⟨#[]⟩ xs []||KG n f v s xs)))∧Below w.heap.size w w':=by
 have CO:=hide fun w=>DR n f w;have QF:=hide fun w=>XQ w;have QS:=hide fun w h=>Ik v 0 s ⟨#[]⟩ (.slice ao xs.length ca) (.slice none 0 0) xs [] w h ⟨by simp,none,0,rfl,.inl rfl⟩;obtain⟨w0,hw0⟩:∃w0,(w.alloc (.cells #[.int .i64 n,.int .i64 f] 48)).alloc (.cells #[.int .i64 v,.string s,.slice ao xs.length ca] 38)=w0:=⟨_,rfl⟩
 have B0:Below w.heap.size w w0:=hw0▸Bn _ _ _;have C0:Loc w0 w.heap.size #[.int .i64 n,.int .i64 f]:=hw0▸(AB w _ _ rfl).alloc _;have G0:Loc w0 (w.heap.size+1) #[.int .i64 v,.string s,.slice ao xs.length ca]:=hw0▸AB (w.alloc _) _ _ (by simp);have HA:=hide (ha.below B0);have VF:Hid (∀w',Below w0.heap.size w0 w'→Calls Tryz.prog 175 #[.pointer (some ⟨w.heap.size+1,0,none⟩),cv n f] w' fun e w''=>e= .returned (.bool (KG n f v s xs))∧Below w'.heap.size w' w''):=hide fun w' hb'=>UB (w.heap.size+1) n f v s ao ca xs w' hs ((hE.below B0).below hb') (G0.up hb') (HA.out.below hb');have K:=kw (ka (Hr C0 0 1) (Uf G0 0 1 2));generalize decide (A9 n f)=cb at *;generalize BM v 0 s ⟨#[]⟩ xs []=ab at *;generalize KG n f v s xs=vb at *;clear ha hE G0 C0;cases cb
 ·simp only[Bool.false_and];go_enter Tryz.func137,Tryz.ntmps137
  go_upto_region 1 with fail
  clear hw0;refine Em K (fun bA hHeld=>?_);refine tx 0 5 ?_;refine rd 1 rfl (fun KK AA=>?_);go_simp;have hgo:=bA;refine(CO.out _).mono ?_;rintro e Np ⟨rfl,bb⟩;have bB:Below w0.heap.size w0 Np:=bu bA bb;clear bA hgo bb hHeld;refine AA.out _ _ (K.out _ bB) (fun hHeld=>?_);clear AA KK;refine tx 2 7 ?_;refine sx 3 8 ?_;refine sx 4 9 ?_;refine sx 5 10 ?_;refine sx 6 11 ?_;refine sx 7 12 ?_;refine sx 8 13 ?_;refine sx 9 14 ?_;refine tx 10 15 ?_;refine tx 11 4 ?_;clear hHeld;refine Bu ?_;go_wp2;go_ret;exact⟨rfl,bu B0 bB⟩
 simp only[Bool.true_and];cases ab
 ·simp only[Bool.false_or];go_enter Tryz.func137,Tryz.ntmps137
  go_upto_region 1 with fail
  clear hw0;refine Em K (fun bA hHeld=>?_);refine tx 0 5 ?_;refine rd 1 rfl (fun KK AA=>?_);go_simp;have hgo:=bA;refine(CO.out _).mono ?_;rintro e Np ⟨rfl,bb⟩;have bB:Below w0.heap.size w0 Np:=bu bA bb;clear bA hgo bb hHeld;refine AA.out _ _ (K.out _ bB) (fun hHeld=>?_);clear AA KK;refine tx 2 7 ?_;refine tx 3 8 ?_;refine rd 4 rfl (fun KK AA=>?_);go_simp;have hgo:=bB;refine(QF.out _).mono ?_;rintro e Tj ⟨rfl,bb⟩;have bC:Below w0.heap.size w0 Tj:=bu bB bb;clear bB hgo bb hHeld;refine AA.out _ _ (K.out _ bC) (fun hHeld=>?_);clear AA KK;refine rd 5 rfl (fun KK AA=>?_);go_simp;have hgo:=bC;refine(QS.out _ (HA.out.below hgo)).mono ?_;rintro e FD ⟨rfl,bb⟩;have bD:Below w0.heap.size w0 FD:=bu bC bb;clear bC hgo bb hHeld;refine AA.out _ _ (K.out _ bD) (fun hHeld=>?_);clear AA KK;refine tx 6 11 ?_;refine tx 7 12 ?_;refine rd 8 rfl (fun KK AA=>?_);go_simp;have hgo:=bD;refine(VF.out _ hgo).mono ?_;rintro e wy4 ⟨rfl,bb⟩;have bE:Below w0.heap.size w0 wy4:=bu bD bb;clear bD hgo bb hHeld;refine AA.out _ _ (K.out _ bE) (fun hHeld=>?_);clear AA KK;refine tx 9 14 ?_;refine tx 10 15 ?_;refine tx 11 4 ?_;clear hHeld;refine Bu ?_;go_wp2;go_ret;exact⟨rfl,bu B0 bE⟩
 simp only[Bool.true_or];go_enter Tryz.func137,Tryz.ntmps137
 go_upto_region 1 with fail
 clear hw0;refine Em K (fun bA hHeld=>?_);refine tx 0 5 ?_;refine rd 1 rfl (fun KK AA=>?_);go_simp;have hgo:=bA;refine(CO.out _).mono ?_;rintro e Np ⟨rfl,bb⟩;have bB:Below w0.heap.size w0 Np:=bu bA bb;clear bA hgo bb hHeld;refine AA.out _ _ (K.out _ bB) (fun hHeld=>?_);clear AA KK;refine tx 2 7 ?_;refine tx 3 8 ?_;refine rd 4 rfl (fun KK AA=>?_);go_simp;have hgo:=bB;refine(QF.out _).mono ?_;rintro e Tj ⟨rfl,bb⟩;have bC:Below w0.heap.size w0 Tj:=bu bB bb;clear bB hgo bb hHeld;refine AA.out _ _ (K.out _ bC) (fun hHeld=>?_);clear AA KK;refine rd 5 rfl (fun KK AA=>?_);go_simp;have hgo:=bC;refine(QS.out _ (HA.out.below hgo)).mono ?_;rintro e FD ⟨rfl,bb⟩;have bD:Below w0.heap.size w0 FD:=bu bC bb;clear bC hgo bb hHeld;refine AA.out _ _ (K.out _ bD) (fun hHeld=>?_);clear AA KK;refine tx 6 11 ?_;refine sx 7 12 ?_;refine sx 8 13 ?_;refine tx 9 14 ?_;refine tx 10 15 ?_;refine tx 11 4 ?_;clear hHeld;refine Bu ?_;go_wp2;go_ret;exact⟨rfl,bu B0 bD⟩
def D9(n f v:Int)(s:ByteArray)(xs:List Int):Bool:=decide (A9 n f)&&(AV s).isSome&&(Ao s==v)&&(if s=⟨#[]⟩then decide (xs=[])else decide (Dw n xs)&&decide (Ba n f≤(xs.length:Int)))

theorem Y5(n f v:Int)(s:ByteArray)(ao:Option Addr)(ca:Nat)(xs:List Int)(w:World)(hs:s.size≤1048576)(ha:RI w (.slice ao xs.length ca) xs)(hc:decide (A9 n f)=false):
 Calls Tryz.prog 124 #[cv n f,qv v s (.slice ao xs.length ca)] w fun e w'=>e= .returned (.bool (false))∧Below w.heap.size w w':=by
 have CO:=hide fun w=>Be n f w;have NO:=hide fun w=>Cg s w (by omega);have VO:=hide fun w=>Dp s w (by omega);have QU:=hide fun w=>ES n f w;have SO:=hide fun w h=>Eb n (.slice ao xs.length ca) xs w h;obtain⟨w0,hw0⟩:∃w0,(w.alloc (.cells #[.int .i64 n,.int .i64 f] 48)).alloc (.cells #[.int .i64 v,.string s,.slice ao xs.length ca] 38)=w0:=⟨_,rfl⟩
 have B0:Below w.heap.size w w0:=hw0▸Bn _ _ _;have C0:Loc w0 w.heap.size #[.int .i64 n,.int .i64 f]:=hw0▸(AB w _ _ rfl).alloc _;have G0:Loc w0 (w.heap.size+1) #[.int .i64 v,.string s,.slice ao xs.length ca]:=hw0▸AB (w.alloc _) _ _ (by simp);have HA:=hide (ha.below B0);have K:=kw (ka (Hr C0 0 1) (Uf G0 0 1 2));rw[hc]at CO;clear hc NO VO QU SO;obtain⟨m,hm⟩:∃m,xs.length=m:=⟨_,rfl⟩
 rw[hm]at K HA hw0⊢;clear hm ha G0 C0;go_enter Tryz.func124,Tryz.ntmps124
 go_upto_region 1 with fail
 clear hw0;have bA:Below w0.heap.size w0 w0.drew:=Below.drew (Below.refl _ _);refine wp_region_noPanic ?_;refine wp_region_held_drew (S:=fun w'=>Below w0.heap.size w0 w'∧(w'.cell? ⟨w.heap.size,0,none⟩=some (.int .i64 n)∧w'.cell? ⟨w.heap.size,1,none⟩=some (.int .i64 f))∧(w'.cell? ⟨w.heap.size+1,0,none⟩=some (.int .i64 v)∧w'.cell? ⟨w.heap.size+1,1,none⟩=some (.string s)∧w'.cell? ⟨w.heap.size+1,2,none⟩=some (.slice ao m ca))) (by kernel_rfl) (K.out _ bA) (fun hHeld=>?_);refine tx 0 5 ?_;refine rd 1 rfl (fun KK AA=>?_);go_simp;have hgo:=bA;refine(CO.out _).mono ?_;rintro e Np ⟨rfl,bb⟩;have bB:Below w0.heap.size w0 Np:=bu bA bb;clear bA hgo bb hHeld;refine AA.out _ _ (K.out _ bB) (fun hHeld=>?_);clear AA KK;refine tx 2 7 ?_;refine tx 3 8 ?_;refine sx 4 9 ?_;refine sx 5 10 ?_;refine sx 6 11 ?_;refine sx 7 12 ?_;refine tx 8 13 ?_;refine tx 9 14 ?_;refine sx 10 15 ?_;refine sx 11 16 ?_;refine sx 12 17 ?_;refine sx 13 18 ?_;refine sx 14 19 ?_;refine sx 15 20 ?_;refine tx 16 21 ?_;clear hHeld;refine Bu ?_;go_wp2;go_ret;exact⟨rfl,bu B0 bB⟩

theorem Y4(n f v:Int)(s:ByteArray)(ao:Option Addr)(ca:Nat)(xs:List Int)(w:World)(hs:s.size≤1048576)(ha:RI w (.slice ao xs.length ca) xs)(hc:decide (A9 n f)=true)(hn:(AV s).isSome=false):
 Calls Tryz.prog 124 #[cv n f,qv v s (.slice ao xs.length ca)] w fun e w'=>e= .returned (.bool (false))∧Below w.heap.size w w':=by
 have CO:=hide fun w=>Be n f w;have NO:=hide fun w=>Cg s w (by omega);have VO:=hide fun w=>Dp s w (by omega);have QU:=hide fun w=>ES n f w;have SO:=hide fun w h=>Eb n (.slice ao xs.length ca) xs w h;obtain⟨w0,hw0⟩:∃w0,(w.alloc (.cells #[.int .i64 n,.int .i64 f] 48)).alloc (.cells #[.int .i64 v,.string s,.slice ao xs.length ca] 38)=w0:=⟨_,rfl⟩
 have B0:Below w.heap.size w w0:=hw0▸Bn _ _ _;have C0:Loc w0 w.heap.size #[.int .i64 n,.int .i64 f]:=hw0▸(AB w _ _ rfl).alloc _;have G0:Loc w0 (w.heap.size+1) #[.int .i64 v,.string s,.slice ao xs.length ca]:=hw0▸AB (w.alloc _) _ _ (by simp);have HA:=hide (ha.below B0);have K:=kw (ka (Hr C0 0 1) (Uf G0 0 1 2));rw[hc]at CO;rw[hn]at NO;clear hc hn VO QU SO;obtain⟨m,hm⟩:∃m,xs.length=m:=⟨_,rfl⟩
 rw[hm]at K HA hw0⊢;clear hm ha G0 C0;go_enter Tryz.func124,Tryz.ntmps124
 go_upto_region 1 with fail
 clear hw0;have bA:Below w0.heap.size w0 w0.drew:=Below.drew (Below.refl _ _);refine wp_region_noPanic ?_;refine wp_region_held_drew (S:=fun w'=>Below w0.heap.size w0 w'∧(w'.cell? ⟨w.heap.size,0,none⟩=some (.int .i64 n)∧w'.cell? ⟨w.heap.size,1,none⟩=some (.int .i64 f))∧(w'.cell? ⟨w.heap.size+1,0,none⟩=some (.int .i64 v)∧w'.cell? ⟨w.heap.size+1,1,none⟩=some (.string s)∧w'.cell? ⟨w.heap.size+1,2,none⟩=some (.slice ao m ca))) (by kernel_rfl) (K.out _ bA) (fun hHeld=>?_);refine tx 0 5 ?_;refine rd 1 rfl (fun KK AA=>?_);go_simp;have hgo:=bA;refine(CO.out _).mono ?_;rintro e Np ⟨rfl,bb⟩;have bB:Below w0.heap.size w0 Np:=bu bA bb;clear bA hgo bb hHeld;refine AA.out _ _ (K.out _ bB) (fun hHeld=>?_);clear AA KK;refine tx 2 7 ?_;refine tx 3 8 ?_;refine tx 4 9 ?_;refine tx 5 10 ?_;refine rd 6 rfl (fun KK AA=>?_);go_simp;have hgo:=bB;refine(NO.out _).mono ?_;rintro e Tj ⟨rfl,bb⟩;have bC:Below w0.heap.size w0 Tj:=bu bB bb;clear bB hgo bb hHeld;refine AA.out _ _ (K.out _ bC) (fun hHeld=>?_);clear AA KK;refine tx 7 12 ?_;refine tx 8 13 ?_;refine tx 9 14 ?_;refine sx 10 15 ?_;refine sx 11 16 ?_;refine sx 12 17 ?_;refine sx 13 18 ?_;refine sx 14 19 ?_;refine sx 15 20 ?_;refine tx 16 21 ?_;clear hHeld;refine Bu ?_;go_wp2;go_ret;exact⟨rfl,bu B0 bC⟩

theorem Y3(n f v:Int)(s:ByteArray)(ao:Option Addr)(ca:Nat)(xs:List Int)(w:World)(hs:s.size≤1048576)(ha:RI w (.slice ao xs.length ca) xs)(hc:decide (A9 n f)=true)(hn:(AV s).isSome=true)(hv:Ao s≠v):
 Calls Tryz.prog 124 #[cv n f,qv v s (.slice ao xs.length ca)] w fun e w'=>e= .returned (.bool (false))∧Below w.heap.size w w':=by
 have CO:=hide fun w=>Be n f w;have NO:=hide fun w=>Cg s w (by omega);have VO:=hide fun w=>Dp s w (by omega);have QU:=hide fun w=>ES n f w;have SO:=hide fun w h=>Eb n (.slice ao xs.length ca) xs w h;obtain⟨w0,hw0⟩:∃w0,(w.alloc (.cells #[.int .i64 n,.int .i64 f] 48)).alloc (.cells #[.int .i64 v,.string s,.slice ao xs.length ca] 38)=w0:=⟨_,rfl⟩
 have B0:Below w.heap.size w w0:=hw0▸Bn _ _ _;have C0:Loc w0 w.heap.size #[.int .i64 n,.int .i64 f]:=hw0▸(AB w _ _ rfl).alloc _;have G0:Loc w0 (w.heap.size+1) #[.int .i64 v,.string s,.slice ao xs.length ca]:=hw0▸AB (w.alloc _) _ _ (by simp);have HA:=hide (ha.below B0);have K:=kw (ka (Hr C0 0 1) (Uf G0 0 1 2));rw[hc]at CO;rw[hn]at NO;clear hc hn QU SO;generalize Ao s=q at *;have d2:(q==v)=false:=by simpa using hv
 obtain⟨m,hm⟩:∃m,xs.length=m:=⟨_,rfl⟩
 rw[hm]at K HA hw0⊢;clear hm ha G0 C0;go_enter Tryz.func124,Tryz.ntmps124
 go_upto_region 1 with fail
 clear hw0;have bA:Below w0.heap.size w0 w0.drew:=Below.drew (Below.refl _ _);refine wp_region_noPanic ?_;refine wp_region_held_drew (S:=fun w'=>Below w0.heap.size w0 w'∧(w'.cell? ⟨w.heap.size,0,none⟩=some (.int .i64 n)∧w'.cell? ⟨w.heap.size,1,none⟩=some (.int .i64 f))∧(w'.cell? ⟨w.heap.size+1,0,none⟩=some (.int .i64 v)∧w'.cell? ⟨w.heap.size+1,1,none⟩=some (.string s)∧w'.cell? ⟨w.heap.size+1,2,none⟩=some (.slice ao m ca))) (by kernel_rfl) (K.out _ bA) (fun hHeld=>?_);refine tx 0 5 ?_;refine rd 1 rfl (fun KK AA=>?_);go_simp;have hgo:=bA;refine(CO.out _).mono ?_;rintro e Np ⟨rfl,bb⟩;have bB:Below w0.heap.size w0 Np:=bu bA bb;clear bA hgo bb hHeld;refine AA.out _ _ (K.out _ bB) (fun hHeld=>?_);clear AA KK;refine tx 2 7 ?_;refine tx 3 8 ?_;refine tx 4 9 ?_;refine tx 5 10 ?_;refine rd 6 rfl (fun KK AA=>?_);go_simp;have hgo:=bB;refine(NO.out _).mono ?_;rintro e Tj ⟨rfl,bb⟩;have bC:Below w0.heap.size w0 Tj:=bu bB bb;clear bB hgo bb hHeld;refine AA.out _ _ (K.out _ bC) (fun hHeld=>?_);clear AA KK;refine tx 7 12 ?_;refine tx 8 13 ?_;refine tx 9 14 ?_;refine tx 10 15 ?_;refine tx 11 16 ?_;refine tx 13 18 ?_;refine tx 14 19 ?_;refine rd 12 rfl (fun KK AA=>?_);go_simp;have hgo:=bC;refine(VO.out _).mono ?_;rintro e FD ⟨rfl,bb⟩;have bD:Below w0.heap.size w0 FD:=bu bC bb;clear bC hgo bb hHeld;refine AA.out _ _ (K.out _ bD) (fun hHeld=>?_);clear AA KK;refine tx 15 20 ?_;refine tx 16 21 ?_;clear hHeld;refine Bu ?_;go_wp2;go_ret;exact⟨rfl,bu B0 bD⟩

theorem Y2(n f v:Int)(s:ByteArray)(ao:Option Addr)(ca:Nat)(xs:List Int)(w:World)(hs:s.size≤1048576)(ha:RI w (.slice ao xs.length ca) xs)(hc:decide (A9 n f)=true)(hn:(AV s).isSome=true)(hv:Ao s=v)(he:s=⟨#[]⟩):
 Calls Tryz.prog 124 #[cv n f,qv v s (.slice ao xs.length ca)] w fun e w'=>e= .returned (.bool (((xs.length:Int)==0)))∧Below w.heap.size w w':=by
 have CO:=hide fun w=>Be n f w;have NO:=hide fun w=>Cg s w (by omega);have VO:=hide fun w=>Dp s w (by omega);have QU:=hide fun w=>ES n f w;have SO:=hide fun w h=>Eb n (.slice ao xs.length ca) xs w h;obtain⟨w0,hw0⟩:∃w0,(w.alloc (.cells #[.int .i64 n,.int .i64 f] 48)).alloc (.cells #[.int .i64 v,.string s,.slice ao xs.length ca] 38)=w0:=⟨_,rfl⟩
 have B0:Below w.heap.size w w0:=hw0▸Bn _ _ _;have C0:Loc w0 w.heap.size #[.int .i64 n,.int .i64 f]:=hw0▸(AB w _ _ rfl).alloc _;have G0:Loc w0 (w.heap.size+1) #[.int .i64 v,.string s,.slice ao xs.length ca]:=hw0▸AB (w.alloc _) _ _ (by simp);have HA:=hide (ha.below B0);have K:=kw (ka (Hr C0 0 1) (Uf G0 0 1 2));rw[hc]at CO;rw[hn]at NO;rw[hv]at VO;have hE:(s.toList==[])=true:=by rw[he,ByteArray.toList_eq];rfl
 clear hc hn hv he QU SO;obtain⟨m,hm⟩:∃m,xs.length=m:=⟨_,rfl⟩
 rw[hm]at K HA hw0⊢;clear hm ha G0 C0;go_enter Tryz.func124,Tryz.ntmps124
 go_upto_region 1 with fail
 clear hw0;have bA:Below w0.heap.size w0 w0.drew:=Below.drew (Below.refl _ _);refine wp_region_noPanic ?_;refine wp_region_held_drew (S:=fun w'=>Below w0.heap.size w0 w'∧(w'.cell? ⟨w.heap.size,0,none⟩=some (.int .i64 n)∧w'.cell? ⟨w.heap.size,1,none⟩=some (.int .i64 f))∧(w'.cell? ⟨w.heap.size+1,0,none⟩=some (.int .i64 v)∧w'.cell? ⟨w.heap.size+1,1,none⟩=some (.string s)∧w'.cell? ⟨w.heap.size+1,2,none⟩=some (.slice ao m ca))) (by kernel_rfl) (K.out _ bA) (fun hHeld=>?_);refine tx 0 5 ?_;refine rd 1 rfl (fun KK AA=>?_);go_simp;have hgo:=bA;refine(CO.out _).mono ?_;rintro e Np ⟨rfl,bb⟩;have bB:Below w0.heap.size w0 Np:=bu bA bb;clear bA hgo bb hHeld;refine AA.out _ _ (K.out _ bB) (fun hHeld=>?_);clear AA KK;refine tx 2 7 ?_;refine tx 3 8 ?_;refine tx 4 9 ?_;refine tx 5 10 ?_;refine rd 6 rfl (fun KK AA=>?_);go_simp;have hgo:=bB;refine(NO.out _).mono ?_;rintro e Tj ⟨rfl,bb⟩;have bC:Below w0.heap.size w0 Tj:=bu bB bb;clear bB hgo bb hHeld;refine AA.out _ _ (K.out _ bC) (fun hHeld=>?_);clear AA KK;refine tx 7 12 ?_;refine tx 8 13 ?_;refine tx 9 14 ?_;refine tx 10 15 ?_;refine tx 11 16 ?_;refine tx 13 18 ?_;refine tx 14 19 ?_;refine rd 12 rfl (fun KK AA=>?_);go_simp;have hgo:=bC;refine(VO.out _).mono ?_;rintro e FD ⟨rfl,bb⟩;have bD:Below w0.heap.size w0 FD:=bu bC bb;clear bC hgo bb hHeld;refine AA.out _ _ (K.out _ bD) (fun hHeld=>?_);clear AA KK;refine tx 15 20 ?_;refine tx 16 21 ?_;clear hHeld;refine Bu ?_;have B1:Below w.heap.size w FD:=bu B0 bD;have K1:=K.out _ bD
 try dsimp only at K1
 obtain⟨_,⟨c0,c1⟩,⟨g0,g1,g2⟩⟩:=K1;clear K HA NO VO CO;go_wp2;go_ret;exact⟨rfl,B1⟩

theorem Y1(n f v:Int)(s:ByteArray)(ao:Option Addr)(ca:Nat)(xs:List Int)(w:World)(hs:s.size≤1048576)(ha:RI w (.slice ao xs.length ca) xs)(hc:decide (A9 n f)=true)(hn:(AV s).isSome=true)(hv:Ao s=v)(he:s≠⟨#[]⟩)(ho:decide (Dw n xs)=false)  :
 Calls Tryz.prog 124 #[cv n f,qv v s (.slice ao xs.length ca)] w fun e w'=>e= .returned (.bool (false))∧Below w.heap.size w w':=by
 have CO:=hide fun w=>Be n f w;have NO:=hide fun w=>Cg s w (by omega);have VO:=hide fun w=>Dp s w (by omega);have QU:=hide fun w=>ES n f w;have SO:=hide fun w h=>Eb n (.slice ao xs.length ca) xs w h;obtain⟨w0,hw0⟩:∃w0,(w.alloc (.cells #[.int .i64 n,.int .i64 f] 48)).alloc (.cells #[.int .i64 v,.string s,.slice ao xs.length ca] 38)=w0:=⟨_,rfl⟩
 have B0:Below w.heap.size w w0:=hw0▸Bn _ _ _;have C0:Loc w0 w.heap.size #[.int .i64 n,.int .i64 f]:=hw0▸(AB w _ _ rfl).alloc _;have G0:Loc w0 (w.heap.size+1) #[.int .i64 v,.string s,.slice ao xs.length ca]:=hw0▸AB (w.alloc _) _ _ (by simp);have HA:=hide (ha.below B0);have K:=kw (ka (Hr C0 0 1) (Uf G0 0 1 2));rw[hc]at CO;rw[hn]at NO;rw[hv]at VO;rw[ho]at SO;clear hc hn hv ho;generalize Ba n f=qu at *;have hne:=y9 he;obtain⟨m,hm⟩:∃m,xs.length=m:=⟨_,rfl⟩
 rw[hm]at K HA SO hw0⊢;clear hm ha G0 C0;go_enter Tryz.func124,Tryz.ntmps124
 go_upto_region 1 with fail
 clear hw0;have bA:Below w0.heap.size w0 w0.drew:=Below.drew (Below.refl _ _);refine wp_region_noPanic ?_;refine wp_region_held_drew (S:=fun w'=>Below w0.heap.size w0 w'∧(w'.cell? ⟨w.heap.size,0,none⟩=some (.int .i64 n)∧w'.cell? ⟨w.heap.size,1,none⟩=some (.int .i64 f))∧(w'.cell? ⟨w.heap.size+1,0,none⟩=some (.int .i64 v)∧w'.cell? ⟨w.heap.size+1,1,none⟩=some (.string s)∧w'.cell? ⟨w.heap.size+1,2,none⟩=some (.slice ao m ca))) (by kernel_rfl) (K.out _ bA) (fun hHeld=>?_);refine tx 0 5 ?_;refine rd 1 rfl (fun KK AA=>?_);go_simp;have hgo:=bA;refine(CO.out _).mono ?_;rintro e Np ⟨rfl,bb⟩;have bB:Below w0.heap.size w0 Np:=bu bA bb;clear bA hgo bb hHeld;refine AA.out _ _ (K.out _ bB) (fun hHeld=>?_);clear AA KK;refine tx 2 7 ?_;refine tx 3 8 ?_;refine tx 4 9 ?_;refine tx 5 10 ?_;refine rd 6 rfl (fun KK AA=>?_);go_simp;have hgo:=bB;refine(NO.out _).mono ?_;rintro e Tj ⟨rfl,bb⟩;have bC:Below w0.heap.size w0 Tj:=bu bB bb;clear bB hgo bb hHeld;refine AA.out _ _ (K.out _ bC) (fun hHeld=>?_);clear AA KK;refine tx 7 12 ?_;refine tx 8 13 ?_;refine tx 9 14 ?_;refine tx 10 15 ?_;refine tx 11 16 ?_;refine tx 13 18 ?_;refine tx 14 19 ?_;refine rd 12 rfl (fun KK AA=>?_);go_simp;have hgo:=bC;refine(VO.out _).mono ?_;rintro e FD ⟨rfl,bb⟩;have bD:Below w0.heap.size w0 FD:=bu bC bb;clear bC hgo bb hHeld;refine AA.out _ _ (K.out _ bD) (fun hHeld=>?_);clear AA KK;refine tx 15 20 ?_;refine tx 16 21 ?_;clear hHeld;refine Bu ?_;have B1:Below w.heap.size w FD:=bu B0 bD;have K1:=K.out _ bD
 try dsimp only at K1
 obtain⟨_,⟨c0,c1⟩,⟨g0,g1,g2⟩⟩:=K1;have K5:Hid (∀w',Below FD.heap.size FD w'→(fun w'=>Below FD.heap.size FD w'∧(w'.cell? ⟨w.heap.size,0,none⟩=some (.int .i64 n)∧w'.cell? ⟨w.heap.size,1,none⟩=some (.int .i64 f))∧(w'.cell? ⟨w.heap.size+1,0,none⟩=some (.int .i64 v)∧w'.cell? ⟨w.heap.size+1,1,none⟩=some (.string s)∧w'.cell? ⟨w.heap.size+1,2,none⟩=some (.slice ao m ca))) w'):=hide fun w' hb'=>⟨hb',(K.out _ (bD.trans (hb'.mono bD.size))).2⟩
 have HA5:=hide (HA.out.below bD);clear NO VO CO K HA he;go_upto_region 5 with fail
 clear c0 c1 g0 g1 g2;have bA:Below FD.heap.size FD FD.drew:=Below.drew (Below.refl _ _);refine wp_region_noPanic ?_;refine wp_region_held_drew (S:=fun w'=>Below FD.heap.size FD w'∧(w'.cell? ⟨w.heap.size,0,none⟩=some (.int .i64 n)∧w'.cell? ⟨w.heap.size,1,none⟩=some (.int .i64 f))∧(w'.cell? ⟨w.heap.size+1,0,none⟩=some (.int .i64 v)∧w'.cell? ⟨w.heap.size+1,1,none⟩=some (.string s)∧w'.cell? ⟨w.heap.size+1,2,none⟩=some (.slice ao m ca))) (by kernel_rfl) (K5.out _ bA) (fun hHeld=>?_);refine tx 0 29 ?_;refine tx 1 30 ?_;refine tx 2 31 ?_;refine tx 3 32 ?_;refine rd 4 rfl (fun KK AA=>?_);go_simp;have hgo:=bA;refine(SO.out _ (HA5.out.below hgo)).mono ?_;rintro e zR ⟨rfl,bb⟩;have bF:Below FD.heap.size FD zR:=bu bA bb;clear bA hgo bb hHeld;refine AA.out _ _ (K5.out _ bF) (fun hHeld=>?_);clear AA KK;refine tx 5 34 ?_;refine sx 6 35 ?_;refine sx 7 36 ?_;refine sx 8 37 ?_;refine sx 9 38 ?_;refine sx 10 39 ?_;refine sx 11 40 ?_;refine tx 12 41 ?_;refine tx 13 4 ?_;clear hHeld;refine Bu ?_;go_wp2;go_ret;exact⟨rfl,bu B1 bF⟩

theorem Yz(n f v:Int)(s:ByteArray)(ao:Option Addr)(ca:Nat)(xs:List Int)(w:World)(hs:s.size≤1048576)(ha:RI w (.slice ao xs.length ca) xs)(hc:decide (A9 n f)=true)(hn:(AV s).isSome=true)(hv:Ao s=v)(he:s≠⟨#[]⟩)(ho:decide (Dw n xs)=true)(hq:Ba n f≤(xs.length:Int)):
 Calls Tryz.prog 124 #[cv n f,qv v s (.slice ao xs.length ca)] w fun e w'=>e= .returned (.bool (true))∧Below w.heap.size w w':=by
 have CO:=hide fun w=>Be n f w;have NO:=hide fun w=>Cg s w (by omega);have VO:=hide fun w=>Dp s w (by omega);have QU:=hide fun w=>ES n f w;have SO:=hide fun w h=>Eb n (.slice ao xs.length ca) xs w h;obtain⟨w0,hw0⟩:∃w0,(w.alloc (.cells #[.int .i64 n,.int .i64 f] 48)).alloc (.cells #[.int .i64 v,.string s,.slice ao xs.length ca] 38)=w0:=⟨_,rfl⟩
 have B0:Below w.heap.size w w0:=hw0▸Bn _ _ _;have C0:Loc w0 w.heap.size #[.int .i64 n,.int .i64 f]:=hw0▸(AB w _ _ rfl).alloc _;have G0:Loc w0 (w.heap.size+1) #[.int .i64 v,.string s,.slice ao xs.length ca]:=hw0▸AB (w.alloc _) _ _ (by simp);have HA:=hide (ha.below B0);have K:=kw (ka (Hr C0 0 1) (Uf G0 0 1 2));rw[hc]at CO;rw[hn]at NO;rw[hv]at VO;rw[ho]at SO;clear hc hn hv ho;generalize Ba n f=qu at *;have hne:=y9 he;obtain⟨m,hm⟩:∃m,xs.length=m:=⟨_,rfl⟩
 rw[hm]at K HA SO hw0 hq⊢;clear hm;have d4:decide (qu≤(m:Int))=true:=by simpa using hq
 clear ha G0 C0;go_enter Tryz.func124,Tryz.ntmps124
 go_upto_region 1 with fail
 clear hw0;have bA:Below w0.heap.size w0 w0.drew:=Below.drew (Below.refl _ _);refine wp_region_noPanic ?_;refine wp_region_held_drew (S:=fun w'=>Below w0.heap.size w0 w'∧(w'.cell? ⟨w.heap.size,0,none⟩=some (.int .i64 n)∧w'.cell? ⟨w.heap.size,1,none⟩=some (.int .i64 f))∧(w'.cell? ⟨w.heap.size+1,0,none⟩=some (.int .i64 v)∧w'.cell? ⟨w.heap.size+1,1,none⟩=some (.string s)∧w'.cell? ⟨w.heap.size+1,2,none⟩=some (.slice ao m ca))) (by kernel_rfl) (K.out _ bA) (fun hHeld=>?_);refine tx 0 5 ?_;refine rd 1 rfl (fun KK AA=>?_);go_simp;have hgo:=bA;refine(CO.out _).mono ?_;rintro e Np ⟨rfl,bb⟩;have bB:Below w0.heap.size w0 Np:=bu bA bb;clear bA hgo bb hHeld;refine AA.out _ _ (K.out _ bB) (fun hHeld=>?_);clear AA KK;refine tx 2 7 ?_;refine tx 3 8 ?_;refine tx 4 9 ?_;refine tx 5 10 ?_;refine rd 6 rfl (fun KK AA=>?_);go_simp;have hgo:=bB;refine(NO.out _).mono ?_;rintro e Tj ⟨rfl,bb⟩;have bC:Below w0.heap.size w0 Tj:=bu bB bb;clear bB hgo bb hHeld;refine AA.out _ _ (K.out _ bC) (fun hHeld=>?_);clear AA KK;refine tx 7 12 ?_;refine tx 8 13 ?_;refine tx 9 14 ?_;refine tx 10 15 ?_;refine tx 11 16 ?_;refine tx 13 18 ?_;refine tx 14 19 ?_;refine rd 12 rfl (fun KK AA=>?_);go_simp;have hgo:=bC;refine(VO.out _).mono ?_;rintro e FD ⟨rfl,bb⟩;have bD:Below w0.heap.size w0 FD:=bu bC bb;clear bC hgo bb hHeld;refine AA.out _ _ (K.out _ bD) (fun hHeld=>?_);clear AA KK;refine tx 15 20 ?_;refine tx 16 21 ?_;clear hHeld;refine Bu ?_;have B1:Below w.heap.size w FD:=bu B0 bD;have K1:=K.out _ bD
 try dsimp only at K1
 obtain⟨_,⟨c0,c1⟩,⟨g0,g1,g2⟩⟩:=K1;have K5:Hid (∀w',Below FD.heap.size FD w'→(fun w'=>Below FD.heap.size FD w'∧(w'.cell? ⟨w.heap.size,0,none⟩=some (.int .i64 n)∧w'.cell? ⟨w.heap.size,1,none⟩=some (.int .i64 f))∧(w'.cell? ⟨w.heap.size+1,0,none⟩=some (.int .i64 v)∧w'.cell? ⟨w.heap.size+1,1,none⟩=some (.string s)∧w'.cell? ⟨w.heap.size+1,2,none⟩=some (.slice ao m ca))) w'):=hide fun w' hb'=>⟨hb',(K.out _ (bD.trans (hb'.mono bD.size))).2⟩
 have HA5:=hide (HA.out.below bD);clear NO VO CO K HA he;go_upto_region 5 with fail
 clear c0 c1 g0 g1 g2;have bA:Below FD.heap.size FD FD.drew:=Below.drew (Below.refl _ _);refine wp_region_noPanic ?_;refine wp_region_held_drew (S:=fun w'=>Below FD.heap.size FD w'∧(w'.cell? ⟨w.heap.size,0,none⟩=some (.int .i64 n)∧w'.cell? ⟨w.heap.size,1,none⟩=some (.int .i64 f))∧(w'.cell? ⟨w.heap.size+1,0,none⟩=some (.int .i64 v)∧w'.cell? ⟨w.heap.size+1,1,none⟩=some (.string s)∧w'.cell? ⟨w.heap.size+1,2,none⟩=some (.slice ao m ca))) (by kernel_rfl) (K5.out _ bA) (fun hHeld=>?_);refine tx 0 29 ?_;refine tx 1 30 ?_;refine tx 2 31 ?_;refine tx 3 32 ?_;refine rd 4 rfl (fun KK AA=>?_);go_simp;have hgo:=bA;refine(SO.out _ (HA5.out.below hgo)).mono ?_;rintro e zR ⟨rfl,bb⟩;have bF:Below FD.heap.size FD zR:=bu bA bb;clear bA hgo bb hHeld;refine AA.out _ _ (K5.out _ bF) (fun hHeld=>?_);clear AA KK;refine tx 5 34 ?_;refine tx 6 35 ?_;refine tx 7 36 ?_;refine tx 8 37 ?_;refine tx 9 38 ?_;refine rd 10 rfl (fun KK AA=>?_);go_simp;have hgo:=bF;refine(QU.out _).mono ?_;rintro e wy6 ⟨rfl,bb⟩;have bG:Below FD.heap.size FD wy6:=bu bF bb;clear bF hgo bb hHeld;refine AA.out _ _ (K5.out _ bG) (fun hHeld=>?_);clear AA KK;refine tx 11 40 ?_;refine tx 12 41 ?_;refine tx 13 4 ?_;clear hHeld;refine Bu ?_;go_wp2;go_ret;exact⟨rfl,bu B1 bG⟩

theorem Yy(n f v:Int)(s:ByteArray)(ao:Option Addr)(ca:Nat)(xs:List Int)(w:World)(hs:s.size≤1048576)(ha:RI w (.slice ao xs.length ca) xs)(hc:decide (A9 n f)=true)(hn:(AV s).isSome=true)(hv:Ao s=v)(he:s≠⟨#[]⟩)(ho:decide (Dw n xs)=true)(hq:¬Ba n f≤(xs.length:Int)):
 Calls Tryz.prog 124 #[cv n f,qv v s (.slice ao xs.length ca)] w fun e w'=>e= .returned (.bool (false))∧Below w.heap.size w w':=by
 have CO:=hide fun w=>Be n f w;have NO:=hide fun w=>Cg s w (by omega);have VO:=hide fun w=>Dp s w (by omega);have QU:=hide fun w=>ES n f w;have SO:=hide fun w h=>Eb n (.slice ao xs.length ca) xs w h;obtain⟨w0,hw0⟩:∃w0,(w.alloc (.cells #[.int .i64 n,.int .i64 f] 48)).alloc (.cells #[.int .i64 v,.string s,.slice ao xs.length ca] 38)=w0:=⟨_,rfl⟩
 have B0:Below w.heap.size w w0:=hw0▸Bn _ _ _;have C0:Loc w0 w.heap.size #[.int .i64 n,.int .i64 f]:=hw0▸(AB w _ _ rfl).alloc _;have G0:Loc w0 (w.heap.size+1) #[.int .i64 v,.string s,.slice ao xs.length ca]:=hw0▸AB (w.alloc _) _ _ (by simp);have HA:=hide (ha.below B0);have K:=kw (ka (Hr C0 0 1) (Uf G0 0 1 2));rw[hc]at CO;rw[hn]at NO;rw[hv]at VO;rw[ho]at SO;clear hc hn hv ho;generalize Ba n f=qu at *;have hne:=y9 he;obtain⟨m,hm⟩:∃m,xs.length=m:=⟨_,rfl⟩
 rw[hm]at K HA SO hw0 hq⊢;clear hm;have d4:decide (qu≤(m:Int))=false:=by simpa using hq
 clear ha G0 C0;go_enter Tryz.func124,Tryz.ntmps124
 go_upto_region 1 with fail
 clear hw0;have bA:Below w0.heap.size w0 w0.drew:=Below.drew (Below.refl _ _);refine wp_region_noPanic ?_;refine wp_region_held_drew (S:=fun w'=>Below w0.heap.size w0 w'∧(w'.cell? ⟨w.heap.size,0,none⟩=some (.int .i64 n)∧w'.cell? ⟨w.heap.size,1,none⟩=some (.int .i64 f))∧(w'.cell? ⟨w.heap.size+1,0,none⟩=some (.int .i64 v)∧w'.cell? ⟨w.heap.size+1,1,none⟩=some (.string s)∧w'.cell? ⟨w.heap.size+1,2,none⟩=some (.slice ao m ca))) (by kernel_rfl) (K.out _ bA) (fun hHeld=>?_);refine tx 0 5 ?_;refine rd 1 rfl (fun KK AA=>?_);go_simp;have hgo:=bA;refine(CO.out _).mono ?_;rintro e Np ⟨rfl,bb⟩;have bB:Below w0.heap.size w0 Np:=bu bA bb;clear bA hgo bb hHeld;refine AA.out _ _ (K.out _ bB) (fun hHeld=>?_);clear AA KK;refine tx 2 7 ?_;refine tx 3 8 ?_;refine tx 4 9 ?_;refine tx 5 10 ?_;refine rd 6 rfl (fun KK AA=>?_);go_simp;have hgo:=bB;refine(NO.out _).mono ?_;rintro e Tj ⟨rfl,bb⟩;have bC:Below w0.heap.size w0 Tj:=bu bB bb;clear bB hgo bb hHeld;refine AA.out _ _ (K.out _ bC) (fun hHeld=>?_);clear AA KK;refine tx 7 12 ?_;refine tx 8 13 ?_;refine tx 9 14 ?_;refine tx 10 15 ?_;refine tx 11 16 ?_;refine tx 13 18 ?_;refine tx 14 19 ?_;refine rd 12 rfl (fun KK AA=>?_);go_simp;have hgo:=bC;refine(VO.out _).mono ?_;rintro e FD ⟨rfl,bb⟩;have bD:Below w0.heap.size w0 FD:=bu bC bb;clear bC hgo bb hHeld;refine AA.out _ _ (K.out _ bD) (fun hHeld=>?_);clear AA KK;refine tx 15 20 ?_;refine tx 16 21 ?_;clear hHeld;refine Bu ?_;have B1:Below w.heap.size w FD:=bu B0 bD;have K1:=K.out _ bD
 try dsimp only at K1
 obtain⟨_,⟨c0,c1⟩,⟨g0,g1,g2⟩⟩:=K1;have K5:Hid (∀w',Below FD.heap.size FD w'→(fun w'=>Below FD.heap.size FD w'∧(w'.cell? ⟨w.heap.size,0,none⟩=some (.int .i64 n)∧w'.cell? ⟨w.heap.size,1,none⟩=some (.int .i64 f))∧(w'.cell? ⟨w.heap.size+1,0,none⟩=some (.int .i64 v)∧w'.cell? ⟨w.heap.size+1,1,none⟩=some (.string s)∧w'.cell? ⟨w.heap.size+1,2,none⟩=some (.slice ao m ca))) w'):=hide fun w' hb'=>⟨hb',(K.out _ (bD.trans (hb'.mono bD.size))).2⟩
 have HA5:=hide (HA.out.below bD);clear NO VO CO K HA he;go_upto_region 5 with fail
 clear c0 c1 g0 g1 g2;have bA:Below FD.heap.size FD FD.drew:=Below.drew (Below.refl _ _);refine wp_region_noPanic ?_;refine wp_region_held_drew (S:=fun w'=>Below FD.heap.size FD w'∧(w'.cell? ⟨w.heap.size,0,none⟩=some (.int .i64 n)∧w'.cell? ⟨w.heap.size,1,none⟩=some (.int .i64 f))∧(w'.cell? ⟨w.heap.size+1,0,none⟩=some (.int .i64 v)∧w'.cell? ⟨w.heap.size+1,1,none⟩=some (.string s)∧w'.cell? ⟨w.heap.size+1,2,none⟩=some (.slice ao m ca))) (by kernel_rfl) (K5.out _ bA) (fun hHeld=>?_);refine tx 0 29 ?_;refine tx 1 30 ?_;refine tx 2 31 ?_;refine tx 3 32 ?_;refine rd 4 rfl (fun KK AA=>?_);go_simp;have hgo:=bA;refine(SO.out _ (HA5.out.below hgo)).mono ?_;rintro e zR ⟨rfl,bb⟩;have bF:Below FD.heap.size FD zR:=bu bA bb;clear bA hgo bb hHeld;refine AA.out _ _ (K5.out _ bF) (fun hHeld=>?_);clear AA KK;refine tx 5 34 ?_;refine tx 6 35 ?_;refine tx 7 36 ?_;refine tx 8 37 ?_;refine tx 9 38 ?_;refine rd 10 rfl (fun KK AA=>?_);go_simp;have hgo:=bF;refine(QU.out _).mono ?_;rintro e wy6 ⟨rfl,bb⟩;have bG:Below FD.heap.size FD wy6:=bu bF bb;clear bF hgo bb hHeld;refine AA.out _ _ (K5.out _ bG) (fun hHeld=>?_);clear AA KK;refine tx 11 40 ?_;refine tx 12 41 ?_;refine tx 13 4 ?_;clear hHeld;refine Bu ?_;go_wp2;go_ret;exact⟨rfl,bu B1 bG⟩

theorem Fp(n f v:Int)(s:ByteArray)(ao:Option Addr)(ca:Nat)(xs:List Int)(w:World)(hs:s.size≤1048576)(ha:RI w (.slice ao xs.length ca) xs):
 Calls Tryz.prog 124 #[cv n f,qv v s (.slice ao xs.length ca)] w fun e w'=>e= .returned (.bool (D9 n f v s xs))∧Below w.heap.size w w':=by
 unfold D9;have hxe:decide (xs=[])=((xs.length:Int)==0):=by cases xs with|nil=>rfl|cons a l=>simp;omega
 rw[hxe];clear hxe;cases hc:decide (A9 n f)with
 |false=>simpa using Y5 n f v s ao ca xs w hs ha hc
 | true=>
  cases hn:(AV s).isSome with
  |false=>simpa using Y4 n f v s ao ca xs w hs ha hc hn
  | true=>
   by_cases hv:Ao s=v
   ·have d2:(Ao s==v)=true:=by simpa using hv
    rw[d2];by_cases he:s=⟨#[]⟩
    ·rw[if_pos he];simpa only[Bool.true_and]using Y2 n f v s ao ca xs w hs ha hc hn hv he
    rw[if_neg he];cases ho:decide (Dw n xs)with
    |false=>simpa only[Bool.true_and,Bool.false_and]using Y1 n f v s ao ca xs w hs ha hc hn hv he ho
    |true=>
     by_cases hq:Ba n f≤(xs.length:Int)
     ·rw[decide_eq_true hq];simpa only[Bool.true_and]using Yz n f v s ao ca xs w hs ha hc hn hv he ho hq
     rw[decide_eq_false hq];simpa only[Bool.true_and]using Yy n f v s ao ca xs w hs ha hc hn hv he ho hq
   have d2:(Ao s==v)=false:=by simpa using hv
   rw[d2];simpa only[Bool.true_and,Bool.false_and]using Y3 n f v s ao ca xs w hs ha hc hn hv
end
section
open Go.RowKit
structure qZ(w:World)(ao:Option Addr)(xs:List Int):Prop where
 len:xs.length≤1048576
 code:xs=[]∨∃b off,ao=some ⟨b,off,none⟩∧∀k,k<xs.length→w.cell? ⟨b,off+k,none⟩=some (.int .u8 (xs.getD k 0))
 fit:∀k,k<xs.length→0≤xs.getD k 0∧xs.getD k 0≤255
theorem qZ.below{w w':World}{ao:Option Addr}{xs:List Int}(h:qZ w ao xs)(hb:Below w.heap.size w w'):qZ w' ao xs:=by
 refine⟨h.len,?_,h.fit⟩;rcases h.code with h'|⟨b,off,ha,hx⟩
 ·exact .inl h'
 exact .inr ⟨b,off,ha,fun k hk=>(hb.cell (p:=⟨b,off+k,none⟩) (AU (hx k hk))).trans (hx k hk)⟩
theorem J7.sub{xs ys:List Int}(h:J7 xs)(hs:∀y ∈ ys,y ∈ xs):J7 ys:=fun y hy=>h y (hs y hy)
end
section
open Go.RowKit
variable [∀(a b c d:Int),Decidable (BK a b c d)] [∀(a b c d:Nat),Decidable (Dc a b c d)] [∀(last:Int)(s:St),Decidable (Ak last s)] [∀(x:T4),Decidable (Dv x)] [∀(n:Int)(s:List Int),Decidable (Dw n s)] [∀(n f:Int),Decidable (A9 n f)]
theorem Mj:AV ⟨#[]⟩=some []:=by simp[AV]
theorem lW:Ao ⟨#[]⟩=0:=by simp[Ao,Mj]
theorem Mg{s:ByteArray}(h:(AV s).isSome=false):Ao s=0:=by
 cases e:AV s with
 |none=>simp[Ao,e]
 |some ss=>rw[e]at h;cases h
theorem lV{s:ByteArray}(h:(AV s).isSome=true)(hs:s≠⟨#[]⟩):0<Ao s:=by
 obtain⟨ss,e⟩:=Option.isSome_iff_exists.1 h;have h1:=(JS (s:=s)).1;unfold Bg at h1;rw[e]at h1
 have hne:ss≠[]:=by
  rintro rfl;have:=((Cf _ _).1 e).1;exact hs (VV (by simpa[nm]using this))
 have:=List.length_pos_iff.2 hne;simp only at h1;omega
theorem xU(n f v:Int)(s:ByteArray)(xs:List Int):(decide (A9 n f)&&(BM v 0 s ⟨#[]⟩ xs []||KG n f v s xs))=D9 n f v s xs:=by
 unfold D9 KG BM;by_cases hc:A9 n f
 ·simp only[hc,decide_true,Bool.true_and];by_cases hs:s=⟨#[]⟩
  ·subst hs;rw[Mj,lW];by_cases hv:v=0
   ·subst hv;simp
   have h1:(v==0)=false:=by simpa using hv
   have h2:((0:Int)==v)=false:=by simp;omega
   simp[h1,h2,hv]
  simp only[hs,false_and,and_false,decide_false,Bool.false_or,if_false];cases hn:(AV s).isSome with
  | false=>
   rw[Mg hn];by_cases hv:v=0
   ·subst hv;simp
   ·have h1:(v==0)=false:=by simpa using hv
    simp[h1]
  | true=>
   have hp:=lV hn hs;by_cases hv:v=Ao s
   ·subst hv;have h1:decide (0<Ao s)=true:=by simpa using hp
    simp only[h1,beq_self_eq_true,Bool.true_and];rw[Bool.and_comm]
   have h1:(v==Ao s)=false:=by simpa using hv
   have h2:(Ao s==v)=false:=by simp;omega
   simp[h1,h2]
 simp[hc]
theorem ML(n f v:Int)(s:ByteArray)(ao:Option Addr)(ca:Nat)(xs:List Int)(w:World)(hs:s.size≤33554432)(hE:Env w)(ha:RI w (.slice ao xs.length ca) xs):
 Calls Tryz.prog 137 #[cv n f,qv v s (.slice ao xs.length ca)] w fun e w'=>e= .returned (.bool (D9 n f v s xs))∧Below w.heap.size w w':=by
 have:=XP n f v s ao ca xs w hs hE ha
 rwa [xU]at this

theorem sG{n f v:Int}{s:ByteArray}{xs:List Int}(h:D9 n f v s xs=true)(hs:s≠⟨#[]⟩):A9 n f∧Dw n xs∧n-(n-1)/3≤(xs.length:Int):=by
 unfold D9 at h;simp only[hs,if_false,Bool.and_eq_true,decide_eq_true_eq]at h;obtain⟨⟨⟨hc,_⟩,_⟩,ho,hl⟩:=h;exact⟨hc,ho,by simpa[Ba,hc]using hl⟩
def Xz(n f:Int)(m:ByteArray)(v:Int)(s:ByteArray)(xs:List Int):Bool:=D9 n f v s xs&&decide (0<Bg m)&&decide (GG m=s)
theorem Z7(m:ByteArray):decide (0<Bg m)=((AV m).isSome&&decide (m≠⟨#[]⟩)):=by
 unfold Bg;cases e:AV m with
 |none=>simp
 | some ss=>
  have h:=((Cf _ _).1 e).1;by_cases hm:m=⟨#[]⟩
  ·subst hm;rw[Mj]at e;cases e
   simp
  have hne:ss≠[]:=by
   rintro rfl;exact hm (VV (by simpa[nm]using h))
  have:=List.length_pos_iff.2 hne;simp[hm];omega
end
end Go.Proofs.YtcjmcgolgbkknaaGreatDoor
