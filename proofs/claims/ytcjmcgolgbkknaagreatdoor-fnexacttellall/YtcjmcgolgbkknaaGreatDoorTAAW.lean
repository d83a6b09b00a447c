/- Lemmas, as stated. -/
import Derived.Test.YtcjmcgolgbkknaaGreatDoorTAAV
set_option maxRecDepth 100000
set_option maxHeartbeats 8000000
set_option linter.unusedSectionVars false
namespace Go.Proofs.YtcjmcgolgbkknaaGreatDoor
section
open Go.RowKit
variable [∀(a b c d:Int),Decidable (BG a b c d)] [∀(a b c d:Nat),Decidable (DZ a b c d)] [∀(last:Int)(s:St),Decidable (Aq last s)] [∀(x:T4),Decidable (Du x)] [∀(n:Int)(s:List Int),Decidable (Dv n s)] [∀(n f:Int),Decidable (A_ n f)]
def Ja(n f v:Int)(s:ByteArray)(xs:List Int):Bool:=decide (0<v)&&(v==Av s)&&decide (Bd n f≤(xs.length:Int))&&decide (Dv n xs)

theorem Rp(g:Nat)(n f v:Int)(s:ByteArray)(ao:Option Addr)(ca:Nat)(xs:List Int)(w:World)(hs:s.size≤33554432)(hE:Env w)(hg:Loc w g #[.int .i64 v,.string s,.slice ao xs.length ca])(ha:RI w (.slice ao xs.length ca) xs):
 Calls Tryz.prog 175 #[.pointer (some ⟨g,0,none⟩),cv n f] w fun e w'=>e= .returned (.bool (Ja n f v s xs))∧Below w.heap.size w w':=by
 have hgl:=hg.lt;have VO:=hide fun w hE=>O9 s w hs hE;have QU:=hide fun w=>X9 n f w;have SO:=hide fun w h=>Qw n (.slice ao xs.length ca) xs w h;have hvb:Ja n f v s xs=(decide (0<v)&&(v==Av s)&&decide (Bd n f≤(xs.length:Int))&&decide (Dv n xs)):=rfl;rw[hvb];clear hvb;generalize Av s=q at *;generalize Bd n f=qu at *;generalize decide (Dv n xs)=ok at *;obtain⟨w0,hw0⟩:∃w0,w.alloc (.cells #[.int .i64 n,.int .i64 f] 48)=w0:=⟨_,rfl⟩
 have B0:Below w.heap.size w w0:=hw0▸Bo _ _;have C0:Loc w0 w.heap.size #[.int .i64 n,.int .i64 f]:=hw0▸AJ w _ _ rfl;have G0:=hg.below B0 hgl;have HE:=hide (hE.below B0);have HA:=hide (ha.below B0);have K:=kw (ka (VS G0 0 1 2) (Iu C0 0 1));obtain⟨m,hm⟩:∃m,xs.length=m:=⟨_,rfl⟩
 rw[hm]at K HA SO⊢;clear hg ha hE G0 C0 hm;by_cases h1:0<v
 ·have d1:decide (0<v)=true:=by simpa using h1
  rw[d1,Bool.true_and];by_cases h2:v=q
  ·have d2:(v==q)=true:=by simpa using h2
   rw[d2,Bool.true_and];clear d2;subst h2;by_cases h3:qu≤(m:Int)
   ·have d3:decide (qu≤(m:Int))=true:=by simpa using h3
    rw[d3,Bool.true_and];go_enter Tryz.func175,Tryz.ntmps175
    go_upto_region 1 with fail
    clear hw0;have bA:Below w0.heap.size w0 w0.drew:=Below.drew (Below.refl _ _);refine wp_region_noPanic ?_;refine wp_region_held_drew (S:=fun w'=>Below w0.heap.size w0 w'∧(w'.cell? ⟨g,0,none⟩=some (.int .i64 v)∧w'.cell? ⟨g,1,none⟩=some (.string s)∧w'.cell? ⟨g,2,none⟩=some (.slice ao m ca))∧(w'.cell? ⟨w.heap.size,0,none⟩=some (.int .i64 n)∧w'.cell? ⟨w.heap.size,1,none⟩=some (.int .i64 f))) (by kernel_rfl) (K.out _ bA) (fun hHeld=>?_);refine tx 0 5 ?_;refine tx 1 6 ?_;refine tx 2 7 ?_;refine tx 3 8 ?_;refine tx 4 9 ?_;refine tx 5 10 ?_;refine tx 6 11 ?_;refine tx 7 12 ?_;refine tx 8 13 ?_;refine tx 9 14 ?_;refine tx 10 15 ?_;refine tx 11 16 ?_;refine tx 12 17 ?_;refine tx 13 18 ?_;refine rd 14 rfl (fun KK AA=>?_);go_simp;have hgo:=bA;refine(VO.out _ (HE.out.below hgo)).mono ?_;rintro e MQ ⟨rfl,bb⟩;have bB:Below w0.heap.size w0 MQ:=bu bA bb;clear bA hgo bb hHeld;refine AA.out _ _ (K.out _ bB) (fun hHeld=>?_);clear AA KK;refine tx 15 20 ?_;refine tx 16 21 ?_;refine tx 17 22 ?_;refine tx 18 23 ?_;refine tx 19 24 ?_;refine tx 20 25 ?_;refine tx 21 26 ?_;refine tx 22 27 ?_;refine tx 23 28 ?_;refine rd 24 rfl (fun KK AA=>?_);go_simp;have hgo:=bB;refine(QU.out _).mono ?_;rintro e Rb ⟨rfl,bb⟩;have bC:Below w0.heap.size w0 Rb:=bu bB bb;clear bB hgo bb hHeld;refine AA.out _ _ (K.out _ bC) (fun hHeld=>?_);clear AA KK;refine tx 25 30 ?_;refine tx 26 31 ?_;refine tx 27 32 ?_;refine tx 28 33 ?_;refine tx 29 34 ?_;refine tx 30 35 ?_;refine tx 31 36 ?_;refine tx 32 37 ?_;refine tx 33 38 ?_;refine rd 34 rfl (fun KK AA=>?_);go_simp;have hgo:=bC;refine(SO.out _ (HA.out.below hgo)).mono ?_;rintro e Ep ⟨rfl,bb⟩;have bD:Below w0.heap.size w0 Ep:=bu bC bb;clear bC hgo bb hHeld;refine AA.out _ _ (K.out _ bD) (fun hHeld=>?_);clear AA KK;refine tx 35 40 ?_;refine tx 36 4 ?_;clear hHeld;refine Bw ?_;go_wp2;go_ret;exact⟨rfl,bu B0 bD⟩
   have d3:decide (qu≤(m:Int))=false:=by simpa using h3
   rw[d3,Bool.false_and];go_enter Tryz.func175,Tryz.ntmps175
   go_upto_region 1 with fail
   clear hw0;have bA:Below w0.heap.size w0 w0.drew:=Below.drew (Below.refl _ _);refine wp_region_noPanic ?_;refine wp_region_held_drew (S:=fun w'=>Below w0.heap.size w0 w'∧(w'.cell? ⟨g,0,none⟩=some (.int .i64 v)∧w'.cell? ⟨g,1,none⟩=some (.string s)∧w'.cell? ⟨g,2,none⟩=some (.slice ao m ca))∧(w'.cell? ⟨w.heap.size,0,none⟩=some (.int .i64 n)∧w'.cell? ⟨w.heap.size,1,none⟩=some (.int .i64 f))) (by kernel_rfl) (K.out _ bA) (fun hHeld=>?_);refine tx 0 5 ?_;refine tx 1 6 ?_;refine tx 2 7 ?_;refine tx 3 8 ?_;refine tx 4 9 ?_;refine tx 5 10 ?_;refine tx 6 11 ?_;refine tx 7 12 ?_;refine tx 8 13 ?_;refine tx 9 14 ?_;refine tx 10 15 ?_;refine tx 11 16 ?_;refine tx 12 17 ?_;refine tx 13 18 ?_;refine rd 14 rfl (fun KK AA=>?_);go_simp;have hgo:=bA;refine(VO.out _ (HE.out.below hgo)).mono ?_;rintro e MQ ⟨rfl,bb⟩;have bB:Below w0.heap.size w0 MQ:=bu bA bb;clear bA hgo bb hHeld;refine AA.out _ _ (K.out _ bB) (fun hHeld=>?_);clear AA KK;refine tx 15 20 ?_;refine tx 16 21 ?_;refine tx 17 22 ?_;refine tx 18 23 ?_;refine tx 19 24 ?_;refine tx 20 25 ?_;refine tx 21 26 ?_;refine tx 22 27 ?_;refine tx 23 28 ?_;refine rd 24 rfl (fun KK AA=>?_);go_simp;have hgo:=bB;refine(QU.out _).mono ?_;rintro e Rb ⟨rfl,bb⟩;have bC:Below w0.heap.size w0 Rb:=bu bB bb;clear bB hgo bb hHeld;refine AA.out _ _ (K.out _ bC) (fun hHeld=>?_);clear AA KK;refine tx 25 30 ?_;refine tx 26 31 ?_;refine tx 27 32 ?_;refine sx 28 33 ?_;refine sx 29 34 ?_;refine sx 30 35 ?_;refine sx 31 36 ?_;refine sx 32 37 ?_;refine sx 33 38 ?_;refine sx 34 39 ?_;refine tx 35 40 ?_;refine tx 36 4 ?_;clear hHeld;refine Bw ?_;go_wp2;go_ret;exact⟨rfl,bu B0 bC⟩
  have d2:(v==q)=false:=by simpa using h2
  rw[d2,Bool.false_and,Bool.false_and];go_enter Tryz.func175,Tryz.ntmps175
  go_upto_region 1 with fail
  clear hw0;have bA:Below w0.heap.size w0 w0.drew:=Below.drew (Below.refl _ _);refine wp_region_noPanic ?_;refine wp_region_held_drew (S:=fun w'=>Below w0.heap.size w0 w'∧(w'.cell? ⟨g,0,none⟩=some (.int .i64 v)∧w'.cell? ⟨g,1,none⟩=some (.string s)∧w'.cell? ⟨g,2,none⟩=some (.slice ao m ca))∧(w'.cell? ⟨w.heap.size,0,none⟩=some (.int .i64 n)∧w'.cell? ⟨w.heap.size,1,none⟩=some (.int .i64 f))) (by kernel_rfl) (K.out _ bA) (fun hHeld=>?_);refine tx 0 5 ?_;refine tx 1 6 ?_;refine tx 2 7 ?_;refine tx 3 8 ?_;refine tx 4 9 ?_;refine tx 5 10 ?_;refine tx 6 11 ?_;refine tx 7 12 ?_;refine tx 8 13 ?_;refine tx 9 14 ?_;refine tx 10 15 ?_;refine tx 11 16 ?_;refine tx 12 17 ?_;refine tx 13 18 ?_;refine rd 14 rfl (fun KK AA=>?_);go_simp;have hgo:=bA;refine(VO.out _ (HE.out.below hgo)).mono ?_;rintro e MQ ⟨rfl,bb⟩;have bB:Below w0.heap.size w0 MQ:=bu bA bb;clear bA hgo bb hHeld;refine AA.out _ _ (K.out _ bB) (fun hHeld=>?_);clear AA KK;refine tx 15 20 ?_;refine tx 16 21 ?_;refine tx 17 22 ?_;refine sx 18 23 ?_;refine sx 19 24 ?_;refine sx 20 25 ?_;refine sx 21 26 ?_;refine sx 22 27 ?_;refine sx 23 28 ?_;refine sx 24 29 ?_;refine sx 25 30 ?_;refine tx 26 31 ?_;refine tx 27 32 ?_;refine sx 28 33 ?_;refine sx 29 34 ?_;refine sx 30 35 ?_;refine sx 31 36 ?_;refine sx 32 37 ?_;refine sx 33 38 ?_;refine sx 34 39 ?_;refine tx 35 40 ?_;refine tx 36 4 ?_;clear hHeld;refine Bw ?_;go_wp2;go_ret;exact⟨rfl,bu B0 bB⟩
 have d1:decide (0<v)=false:=by simpa using h1
 rw[d1,Bool.false_and,Bool.false_and,Bool.false_and];go_enter Tryz.func175,Tryz.ntmps175
 go_upto_region 1 with fail
 clear hw0;have bA:Below w0.heap.size w0 w0.drew:=Below.drew (Below.refl _ _);refine wp_region_noPanic ?_;refine wp_region_held_drew (S:=fun w'=>Below w0.heap.size w0 w'∧(w'.cell? ⟨g,0,none⟩=some (.int .i64 v)∧w'.cell? ⟨g,1,none⟩=some (.string s)∧w'.cell? ⟨g,2,none⟩=some (.slice ao m ca))∧(w'.cell? ⟨w.heap.size,0,none⟩=some (.int .i64 n)∧w'.cell? ⟨w.heap.size,1,none⟩=some (.int .i64 f))) (by kernel_rfl) (K.out _ bA) (fun hHeld=>?_);refine tx 0 5 ?_;refine tx 1 6 ?_;refine tx 2 7 ?_;refine tx 3 8 ?_;refine tx 4 9 ?_;refine tx 5 10 ?_;refine sx 6 11 ?_;refine sx 7 12 ?_;refine sx 8 13 ?_;refine sx 9 14 ?_;refine sx 10 15 ?_;refine sx 11 16 ?_;refine sx 12 17 ?_;refine sx 13 18 ?_;refine sx 14 19 ?_;refine sx 15 20 ?_;refine tx 16 21 ?_;refine tx 17 22 ?_;refine sx 18 23 ?_;refine sx 19 24 ?_;refine sx 20 25 ?_;refine sx 21 26 ?_;refine sx 22 27 ?_;refine sx 23 28 ?_;refine sx 24 29 ?_;refine sx 25 30 ?_;refine tx 26 31 ?_;refine tx 27 32 ?_;refine sx 28 33 ?_;refine sx 29 34 ?_;refine sx 30 35 ?_;refine sx 31 36 ?_;refine sx 32 37 ?_;refine sx 33 38 ?_;refine sx 34 39 ?_;refine tx 35 40 ?_;refine tx 36 4 ?_;clear hHeld;refine Bw ?_;go_wp2;go_ret;exact⟨rfl,bu B0 bA⟩
theorem Va(n f v:Int)(s:ByteArray)(ao:Option Addr)(ca:Nat)(xs:List Int)(w:World)(hs:s.size≤33554432)(hE:Env w)(ha:RI w (.slice ao xs.length ca) xs):
 Calls Tryz.prog 137 #[cv n f,qv v s (.slice ao xs.length ca)] w fun e w'=>e= .returned (.bool (decide (A_ n f)&&(BQ v 0 s ⟨#[]⟩ xs []||Ja n f v s xs)))∧Below w.heap.size w w':=by
 have CO:=hide fun w=>Cz n f w;have QF:=hide fun w=>Vb w;have QS:=hide fun w h=>Jm v 0 s ⟨#[]⟩ (.slice ao xs.length ca) (.slice none 0 0) xs [] w h ⟨by simp,none,0,rfl,.inl rfl⟩;obtain⟨w0,hw0⟩:∃w0,(w.alloc (.cells #[.int .i64 n,.int .i64 f] 48)).alloc (.cells #[.int .i64 v,.string s,.slice ao xs.length ca] 38)=w0:=⟨_,rfl⟩
 have B0:Below w.heap.size w w0:=hw0▸Bj _ _ _;have C0:Loc w0 w.heap.size #[.int .i64 n,.int .i64 f]:=hw0▸(AJ w _ _ rfl).alloc _;have G0:Loc w0 (w.heap.size+1) #[.int .i64 v,.string s,.slice ao xs.length ca]:=hw0▸AJ (w.alloc _) _ _ (by simp);have HA:=hide (ha.below B0);have VF:Hid (∀w',Below w0.heap.size w0 w'→Calls Tryz.prog 175 #[.pointer (some ⟨w.heap.size+1,0,none⟩),cv n f] w' fun e w''=>e= .returned (.bool (Ja n f v s xs))∧Below w'.heap.size w' w''):=hide fun w' hb'=>Rp (w.heap.size+1) n f v s ao ca xs w' hs ((hE.below B0).below hb') (G0.up hb') (HA.out.below hb');have K:=kw (ka (Iu C0 0 1) (VS G0 0 1 2));generalize decide (A_ n f)=cb at *;generalize BQ v 0 s ⟨#[]⟩ xs []=ab at *;generalize Ja n f v s xs=vb at *;clear ha hE G0 C0;cases cb
 ·simp only[Bool.false_and];go_enter Tryz.func137,Tryz.ntmps137
  go_upto_region 1 with fail
  clear hw0;refine FC K (fun bA hHeld=>?_);refine tx 0 5 ?_;refine rd 1 rfl (fun KK AA=>?_);go_simp;have hgo:=bA;refine(CO.out _).mono ?_;rintro e MQ ⟨rfl,bb⟩;have bB:Below w0.heap.size w0 MQ:=bu bA bb;clear bA hgo bb hHeld;refine AA.out _ _ (K.out _ bB) (fun hHeld=>?_);clear AA KK;refine tx 2 7 ?_;refine sx 3 8 ?_;refine sx 4 9 ?_;refine sx 5 10 ?_;refine sx 6 11 ?_;refine sx 7 12 ?_;refine sx 8 13 ?_;refine sx 9 14 ?_;refine tx 10 15 ?_;refine tx 11 4 ?_;clear hHeld;refine Bw ?_;go_wp2;go_ret;exact⟨rfl,bu B0 bB⟩
 simp only[Bool.true_and];cases ab
 ·simp only[Bool.false_or];go_enter Tryz.func137,Tryz.ntmps137
  go_upto_region 1 with fail
  clear hw0;refine FC K (fun bA hHeld=>?_);refine tx 0 5 ?_;refine rd 1 rfl (fun KK AA=>?_);go_simp;have hgo:=bA;refine(CO.out _).mono ?_;rintro e MQ ⟨rfl,bb⟩;have bB:Below w0.heap.size w0 MQ:=bu bA bb;clear bA hgo bb hHeld;refine AA.out _ _ (K.out _ bB) (fun hHeld=>?_);clear AA KK;refine tx 2 7 ?_;refine tx 3 8 ?_;refine rd 4 rfl (fun KK AA=>?_);go_simp;have hgo:=bB;refine(QF.out _).mono ?_;rintro e Rb ⟨rfl,bb⟩;have bC:Below w0.heap.size w0 Rb:=bu bB bb;clear bB hgo bb hHeld;refine AA.out _ _ (K.out _ bC) (fun hHeld=>?_);clear AA KK;refine rd 5 rfl (fun KK AA=>?_);go_simp;have hgo:=bC;refine(QS.out _ (HA.out.below hgo)).mono ?_;rintro e Ep ⟨rfl,bb⟩;have bD:Below w0.heap.size w0 Ep:=bu bC bb;clear bC hgo bb hHeld;refine AA.out _ _ (K.out _ bD) (fun hHeld=>?_);clear AA KK;refine tx 6 11 ?_;refine tx 7 12 ?_;refine rd 8 rfl (fun KK AA=>?_);go_simp;have hgo:=bD;refine(VF.out _ hgo).mono ?_;rintro e wy4 ⟨rfl,bb⟩;have bE:Below w0.heap.size w0 wy4:=bu bD bb;clear bD hgo bb hHeld;refine AA.out _ _ (K.out _ bE) (fun hHeld=>?_);clear AA KK;refine tx 9 14 ?_;refine tx 10 15 ?_;refine tx 11 4 ?_;clear hHeld;refine Bw ?_;go_wp2;go_ret;exact⟨rfl,bu B0 bE⟩
 simp only[Bool.true_or];go_enter Tryz.func137,Tryz.ntmps137
 go_upto_region 1 with fail
 clear hw0;refine FC K (fun bA hHeld=>?_);refine tx 0 5 ?_;refine rd 1 rfl (fun KK AA=>?_);go_simp;have hgo:=bA;refine(CO.out _).mono ?_;rintro e MQ ⟨rfl,bb⟩;have bB:Below w0.heap.size w0 MQ:=bu bA bb;clear bA hgo bb hHeld;refine AA.out _ _ (K.out _ bB) (fun hHeld=>?_);clear AA KK;refine tx 2 7 ?_;refine tx 3 8 ?_;refine rd 4 rfl (fun KK AA=>?_);go_simp;have hgo:=bB;refine(QF.out _).mono ?_;rintro e Rb ⟨rfl,bb⟩;have bC:Below w0.heap.size w0 Rb:=bu bB bb;clear bB hgo bb hHeld;refine AA.out _ _ (K.out _ bC) (fun hHeld=>?_);clear AA KK;refine rd 5 rfl (fun KK AA=>?_);go_simp;have hgo:=bC;refine(QS.out _ (HA.out.below hgo)).mono ?_;rintro e Ep ⟨rfl,bb⟩;have bD:Below w0.heap.size w0 Ep:=bu bC bb;clear bC hgo bb hHeld;refine AA.out _ _ (K.out _ bD) (fun hHeld=>?_);clear AA KK;refine tx 6 11 ?_;refine sx 7 12 ?_;refine sx 8 13 ?_;refine tx 9 14 ?_;refine tx 10 15 ?_;refine tx 11 4 ?_;clear hHeld;refine Bw ?_;go_wp2;go_ret;exact⟨rfl,bu B0 bD⟩
def Gi(n f v:Int)(s:ByteArray)(xs:List Int):Bool:=decide (A_ n f)&&(AP s).isSome&&(Av s==v)&&(if s=⟨#[]⟩then decide (xs=[])else decide (Dv n xs)&&decide (Bd n f≤(xs.length:Int)))

theorem XX(n f v:Int)(s:ByteArray)(ao:Option Addr)(ca:Nat)(xs:List Int)(w:World)(hs:s.size≤1048576)(ha:RI w (.slice ao xs.length ca) xs)(hc:decide (A_ n f)=false):
 Calls Tryz.prog 124 #[cv n f,qv v s (.slice ao xs.length ca)] w fun e w'=>e= .returned (.bool (false))∧Below w.heap.size w w':=by
 have CO:=hide fun w=>Bc n f w;have NO:=hide fun w=>CW s w (by omega);have VO:=hide fun w=>Dg s w (by omega);have QU:=hide fun w=>D7 n f w;have SO:=hide fun w h=>EE n (.slice ao xs.length ca) xs w h;obtain⟨w0,hw0⟩:∃w0,(w.alloc (.cells #[.int .i64 n,.int .i64 f] 48)).alloc (.cells #[.int .i64 v,.string s,.slice ao xs.length ca] 38)=w0:=⟨_,rfl⟩
 have B0:Below w.heap.size w w0:=hw0▸Bj _ _ _;have C0:Loc w0 w.heap.size #[.int .i64 n,.int .i64 f]:=hw0▸(AJ w _ _ rfl).alloc _;have G0:Loc w0 (w.heap.size+1) #[.int .i64 v,.string s,.slice ao xs.length ca]:=hw0▸AJ (w.alloc _) _ _ (by simp);have HA:=hide (ha.below B0);have K:=kw (ka (Iu C0 0 1) (VS G0 0 1 2));rw[hc]at CO;clear hc NO VO QU SO;obtain⟨m,hm⟩:∃m,xs.length=m:=⟨_,rfl⟩
 rw[hm]at K HA hw0⊢;clear hm ha G0 C0;go_enter Tryz.func124,Tryz.ntmps124
 go_upto_region 1 with fail
 clear hw0;have bA:Below w0.heap.size w0 w0.drew:=Below.drew (Below.refl _ _);refine wp_region_noPanic ?_;refine wp_region_held_drew (S:=fun w'=>Below w0.heap.size w0 w'∧(w'.cell? ⟨w.heap.size,0,none⟩=some (.int .i64 n)∧w'.cell? ⟨w.heap.size,1,none⟩=some (.int .i64 f))∧(w'.cell? ⟨w.heap.size+1,0,none⟩=some (.int .i64 v)∧w'.cell? ⟨w.heap.size+1,1,none⟩=some (.string s)∧w'.cell? ⟨w.heap.size+1,2,none⟩=some (.slice ao m ca))) (by kernel_rfl) (K.out _ bA) (fun hHeld=>?_);refine tx 0 5 ?_;refine rd 1 rfl (fun KK AA=>?_);go_simp;have hgo:=bA;refine(CO.out _).mono ?_;rintro e MQ ⟨rfl,bb⟩;have bB:Below w0.heap.size w0 MQ:=bu bA bb;clear bA hgo bb hHeld;refine AA.out _ _ (K.out _ bB) (fun hHeld=>?_);clear AA KK;refine tx 2 7 ?_;refine tx 3 8 ?_;refine sx 4 9 ?_;refine sx 5 10 ?_;refine sx 6 11 ?_;refine sx 7 12 ?_;refine tx 8 13 ?_;refine tx 9 14 ?_;refine sx 10 15 ?_;refine sx 11 16 ?_;refine sx 12 17 ?_;refine sx 13 18 ?_;refine sx 14 19 ?_;refine sx 15 20 ?_;refine tx 16 21 ?_;clear hHeld;refine Bw ?_;go_wp2;go_ret;exact⟨rfl,bu B0 bB⟩

theorem XW(n f v:Int)(s:ByteArray)(ao:Option Addr)(ca:Nat)(xs:List Int)(w:World)(hs:s.size≤1048576)(ha:RI w (.slice ao xs.length ca) xs)(hc:decide (A_ n f)=true)(hn:(AP s).isSome=false):
 Calls Tryz.prog 124 #[cv n f,qv v s (.slice ao xs.length ca)] w fun e w'=>e= .returned (.bool (false))∧Below w.heap.size w w':=by
 have CO:=hide fun w=>Bc n f w;have NO:=hide fun w=>CW s w (by omega);have VO:=hide fun w=>Dg s w (by omega);have QU:=hide fun w=>D7 n f w;have SO:=hide fun w h=>EE n (.slice ao xs.length ca) xs w h;obtain⟨w0,hw0⟩:∃w0,(w.alloc (.cells #[.int .i64 n,.int .i64 f] 48)).alloc (.cells #[.int .i64 v,.string s,.slice ao xs.length ca] 38)=w0:=⟨_,rfl⟩
 have B0:Below w.heap.size w w0:=hw0▸Bj _ _ _;have C0:Loc w0 w.heap.size #[.int .i64 n,.int .i64 f]:=hw0▸(AJ w _ _ rfl).alloc _;have G0:Loc w0 (w.heap.size+1) #[.int .i64 v,.string s,.slice ao xs.length ca]:=hw0▸AJ (w.alloc _) _ _ (by simp);have HA:=hide (ha.below B0);have K:=kw (ka (Iu C0 0 1) (VS G0 0 1 2));rw[hc]at CO;rw[hn]at NO;clear hc hn VO QU SO;obtain⟨m,hm⟩:∃m,xs.length=m:=⟨_,rfl⟩
 rw[hm]at K HA hw0⊢;clear hm ha G0 C0;go_enter Tryz.func124,Tryz.ntmps124
 go_upto_region 1 with fail
 clear hw0;have bA:Below w0.heap.size w0 w0.drew:=Below.drew (Below.refl _ _);refine wp_region_noPanic ?_;refine wp_region_held_drew (S:=fun w'=>Below w0.heap.size w0 w'∧(w'.cell? ⟨w.heap.size,0,none⟩=some (.int .i64 n)∧w'.cell? ⟨w.heap.size,1,none⟩=some (.int .i64 f))∧(w'.cell? ⟨w.heap.size+1,0,none⟩=some (.int .i64 v)∧w'.cell? ⟨w.heap.size+1,1,none⟩=some (.string s)∧w'.cell? ⟨w.heap.size+1,2,none⟩=some (.slice ao m ca))) (by kernel_rfl) (K.out _ bA) (fun hHeld=>?_);refine tx 0 5 ?_;refine rd 1 rfl (fun KK AA=>?_);go_simp;have hgo:=bA;refine(CO.out _).mono ?_;rintro e MQ ⟨rfl,bb⟩;have bB:Below w0.heap.size w0 MQ:=bu bA bb;clear bA hgo bb hHeld;refine AA.out _ _ (K.out _ bB) (fun hHeld=>?_);clear AA KK;refine tx 2 7 ?_;refine tx 3 8 ?_;refine tx 4 9 ?_;refine tx 5 10 ?_;refine rd 6 rfl (fun KK AA=>?_);go_simp;have hgo:=bB;refine(NO.out _).mono ?_;rintro e Rb ⟨rfl,bb⟩;have bC:Below w0.heap.size w0 Rb:=bu bB bb;clear bB hgo bb hHeld;refine AA.out _ _ (K.out _ bC) (fun hHeld=>?_);clear AA KK;refine tx 7 12 ?_;refine tx 8 13 ?_;refine tx 9 14 ?_;refine sx 10 15 ?_;refine sx 11 16 ?_;refine sx 12 17 ?_;refine sx 13 18 ?_;refine sx 14 19 ?_;refine sx 15 20 ?_;refine tx 16 21 ?_;clear hHeld;refine Bw ?_;go_wp2;go_ret;exact⟨rfl,bu B0 bC⟩

theorem XV(n f v:Int)(s:ByteArray)(ao:Option Addr)(ca:Nat)(xs:List Int)(w:World)(hs:s.size≤1048576)(ha:RI w (.slice ao xs.length ca) xs)(hc:decide (A_ n f)=true)(hn:(AP s).isSome=true)(hv:Av s≠v):
 Calls Tryz.prog 124 #[cv n f,qv v s (.slice ao xs.length ca)] w fun e w'=>e= .returned (.bool (false))∧Below w.heap.size w w':=by
 have CO:=hide fun w=>Bc n f w;have NO:=hide fun w=>CW s w (by omega);have VO:=hide fun w=>Dg s w (by omega);have QU:=hide fun w=>D7 n f w;have SO:=hide fun w h=>EE n (.slice ao xs.length ca) xs w h;obtain⟨w0,hw0⟩:∃w0,(w.alloc (.cells #[.int .i64 n,.int .i64 f] 48)).alloc (.cells #[.int .i64 v,.string s,.slice ao xs.length ca] 38)=w0:=⟨_,rfl⟩
 have B0:Below w.heap.size w w0:=hw0▸Bj _ _ _;have C0:Loc w0 w.heap.size #[.int .i64 n,.int .i64 f]:=hw0▸(AJ w _ _ rfl).alloc _;have G0:Loc w0 (w.heap.size+1) #[.int .i64 v,.string s,.slice ao xs.length ca]:=hw0▸AJ (w.alloc _) _ _ (by simp);have HA:=hide (ha.below B0);have K:=kw (ka (Iu C0 0 1) (VS G0 0 1 2));rw[hc]at CO;rw[hn]at NO;clear hc hn QU SO;generalize Av s=q at *;have d2:(q==v)=false:=by simpa using hv
 obtain⟨m,hm⟩:∃m,xs.length=m:=⟨_,rfl⟩
 rw[hm]at K HA hw0⊢;clear hm ha G0 C0;go_enter Tryz.func124,Tryz.ntmps124
 go_upto_region 1 with fail
 clear hw0;have bA:Below w0.heap.size w0 w0.drew:=Below.drew (Below.refl _ _);refine wp_region_noPanic ?_;refine wp_region_held_drew (S:=fun w'=>Below w0.heap.size w0 w'∧(w'.cell? ⟨w.heap.size,0,none⟩=some (.int .i64 n)∧w'.cell? ⟨w.heap.size,1,none⟩=some (.int .i64 f))∧(w'.cell? ⟨w.heap.size+1,0,none⟩=some (.int .i64 v)∧w'.cell? ⟨w.heap.size+1,1,none⟩=some (.string s)∧w'.cell? ⟨w.heap.size+1,2,none⟩=some (.slice ao m ca))) (by kernel_rfl) (K.out _ bA) (fun hHeld=>?_);refine tx 0 5 ?_;refine rd 1 rfl (fun KK AA=>?_);go_simp;have hgo:=bA;refine(CO.out _).mono ?_;rintro e MQ ⟨rfl,bb⟩;have bB:Below w0.heap.size w0 MQ:=bu bA bb;clear bA hgo bb hHeld;refine AA.out _ _ (K.out _ bB) (fun hHeld=>?_);clear AA KK;refine tx 2 7 ?_;refine tx 3 8 ?_;refine tx 4 9 ?_;refine tx 5 10 ?_;refine rd 6 rfl (fun KK AA=>?_);go_simp;have hgo:=bB;refine(NO.out _).mono ?_;rintro e Rb ⟨rfl,bb⟩;have bC:Below w0.heap.size w0 Rb:=bu bB bb;clear bB hgo bb hHeld;refine AA.out _ _ (K.out _ bC) (fun hHeld=>?_);clear AA KK;refine tx 7 12 ?_;refine tx 8 13 ?_;refine tx 9 14 ?_;refine tx 10 15 ?_;refine tx 11 16 ?_;refine tx 13 18 ?_;refine tx 14 19 ?_;refine rd 12 rfl (fun KK AA=>?_);go_simp;have hgo:=bC;refine(VO.out _).mono ?_;rintro e Ep ⟨rfl,bb⟩;have bD:Below w0.heap.size w0 Ep:=bu bC bb;clear bC hgo bb hHeld;refine AA.out _ _ (K.out _ bD) (fun hHeld=>?_);clear AA KK;refine tx 15 20 ?_;refine tx 16 21 ?_;clear hHeld;refine Bw ?_;go_wp2;go_ret;exact⟨rfl,bu B0 bD⟩

theorem XU(n f v:Int)(s:ByteArray)(ao:Option Addr)(ca:Nat)(xs:List Int)(w:World)(hs:s.size≤1048576)(ha:RI w (.slice ao xs.length ca) xs)(hc:decide (A_ n f)=true)(hn:(AP s).isSome=true)(hv:Av s=v)(he:s=⟨#[]⟩):
 Calls Tryz.prog 124 #[cv n f,qv v s (.slice ao xs.length ca)] w fun e w'=>e= .returned (.bool (((xs.length:Int)==0)))∧Below w.heap.size w w':=by
 have CO:=hide fun w=>Bc n f w;have NO:=hide fun w=>CW s w (by omega);have VO:=hide fun w=>Dg s w (by omega);have QU:=hide fun w=>D7 n f w;have SO:=hide fun w h=>EE n (.slice ao xs.length ca) xs w h;obtain⟨w0,hw0⟩:∃w0,(w.alloc (.cells #[.int .i64 n,.int .i64 f] 48)).alloc (.cells #[.int .i64 v,.string s,.slice ao xs.length ca] 38)=w0:=⟨_,rfl⟩
 have B0:Below w.heap.size w w0:=hw0▸Bj _ _ _;have C0:Loc w0 w.heap.size #[.int .i64 n,.int .i64 f]:=hw0▸(AJ w _ _ rfl).alloc _;have G0:Loc w0 (w.heap.size+1) #[.int .i64 v,.string s,.slice ao xs.length ca]:=hw0▸AJ (w.alloc _) _ _ (by simp);have HA:=hide (ha.below B0);have K:=kw (ka (Iu C0 0 1) (VS G0 0 1 2));rw[hc]at CO;rw[hn]at NO;rw[hv]at VO;have hE:(s.toList==[])=true:=by rw[he,ByteArray.toList_eq];rfl
 clear hc hn hv he QU SO;obtain⟨m,hm⟩:∃m,xs.length=m:=⟨_,rfl⟩
 rw[hm]at K HA hw0⊢;clear hm ha G0 C0;go_enter Tryz.func124,Tryz.ntmps124
 go_upto_region 1 with fail
 clear hw0;have bA:Below w0.heap.size w0 w0.drew:=Below.drew (Below.refl _ _);refine wp_region_noPanic ?_;refine wp_region_held_drew (S:=fun w'=>Below w0.heap.size w0 w'∧(w'.cell? ⟨w.heap.size,0,none⟩=some (.int .i64 n)∧w'.cell? ⟨w.heap.size,1,none⟩=some (.int .i64 f))∧(w'.cell? ⟨w.heap.size+1,0,none⟩=some (.int .i64 v)∧w'.cell? ⟨w.heap.size+1,1,none⟩=some (.string s)∧w'.cell? ⟨w.heap.size+1,2,none⟩=some (.slice ao m ca))) (by kernel_rfl) (K.out _ bA) (fun hHeld=>?_);refine tx 0 5 ?_;refine rd 1 rfl (fun KK AA=>?_);go_simp;have hgo:=bA;refine(CO.out _).mono ?_;rintro e MQ ⟨rfl,bb⟩;have bB:Below w0.heap.size w0 MQ:=bu bA bb;clear bA hgo bb hHeld;refine AA.out _ _ (K.out _ bB) (fun hHeld=>?_);clear AA KK;refine tx 2 7 ?_;refine tx 3 8 ?_;refine tx 4 9 ?_;refine tx 5 10 ?_;refine rd 6 rfl (fun KK AA=>?_);go_simp;have hgo:=bB;refine(NO.out _).mono ?_;rintro e Rb ⟨rfl,bb⟩;have bC:Below w0.heap.size w0 Rb:=bu bB bb;clear bB hgo bb hHeld;refine AA.out _ _ (K.out _ bC) (fun hHeld=>?_);clear AA KK;refine tx 7 12 ?_;refine tx 8 13 ?_;refine tx 9 14 ?_;refine tx 10 15 ?_;refine tx 11 16 ?_;refine tx 13 18 ?_;refine tx 14 19 ?_;refine rd 12 rfl (fun KK AA=>?_);go_simp;have hgo:=bC;refine(VO.out _).mono ?_;rintro e Ep ⟨rfl,bb⟩;have bD:Below w0.heap.size w0 Ep:=bu bC bb;clear bC hgo bb hHeld;refine AA.out _ _ (K.out _ bD) (fun hHeld=>?_);clear AA KK;refine tx 15 20 ?_;refine tx 16 21 ?_;clear hHeld;refine Bw ?_;have B1:Below w.heap.size w Ep:=bu B0 bD;have K1:=K.out _ bD
 try dsimp only at K1
 obtain⟨_,⟨c0,c1⟩,⟨g0,g1,g2⟩⟩:=K1;clear K HA NO VO CO;go_wp2;go_ret;exact⟨rfl,B1⟩

theorem XT(n f v:Int)(s:ByteArray)(ao:Option Addr)(ca:Nat)(xs:List Int)(w:World)(hs:s.size≤1048576)(ha:RI w (.slice ao xs.length ca) xs)(hc:decide (A_ n f)=true)(hn:(AP s).isSome=true)(hv:Av s=v)(he:s≠⟨#[]⟩)(ho:decide (Dv n xs)=false)  :
 Calls Tryz.prog 124 #[cv n f,qv v s (.slice ao xs.length ca)] w fun e w'=>e= .returned (.bool (false))∧Below w.heap.size w w':=by
 have CO:=hide fun w=>Bc n f w;have NO:=hide fun w=>CW s w (by omega);have VO:=hide fun w=>Dg s w (by omega);have QU:=hide fun w=>D7 n f w;have SO:=hide fun w h=>EE n (.slice ao xs.length ca) xs w h;obtain⟨w0,hw0⟩:∃w0,(w.alloc (.cells #[.int .i64 n,.int .i64 f] 48)).alloc (.cells #[.int .i64 v,.string s,.slice ao xs.length ca] 38)=w0:=⟨_,rfl⟩
 have B0:Below w.heap.size w w0:=hw0▸Bj _ _ _;have C0:Loc w0 w.heap.size #[.int .i64 n,.int .i64 f]:=hw0▸(AJ w _ _ rfl).alloc _;have G0:Loc w0 (w.heap.size+1) #[.int .i64 v,.string s,.slice ao xs.length ca]:=hw0▸AJ (w.alloc _) _ _ (by simp);have HA:=hide (ha.below B0);have K:=kw (ka (Iu C0 0 1) (VS G0 0 1 2));rw[hc]at CO;rw[hn]at NO;rw[hv]at VO;rw[ho]at SO;clear hc hn hv ho;generalize Bd n f=qu at *;have hne:=tQ he;obtain⟨m,hm⟩:∃m,xs.length=m:=⟨_,rfl⟩
 rw[hm]at K HA SO hw0⊢;clear hm ha G0 C0;go_enter Tryz.func124,Tryz.ntmps124
 go_upto_region 1 with fail
 clear hw0;have bA:Below w0.heap.size w0 w0.drew:=Below.drew (Below.refl _ _);refine wp_region_noPanic ?_;refine wp_region_held_drew (S:=fun w'=>Below w0.heap.size w0 w'∧(w'.cell? ⟨w.heap.size,0,none⟩=some (.int .i64 n)∧w'.cell? ⟨w.heap.size,1,none⟩=some (.int .i64 f))∧(w'.cell? ⟨w.heap.size+1,0,none⟩=some (.int .i64 v)∧w'.cell? ⟨w.heap.size+1,1,none⟩=some (.string s)∧w'.cell? ⟨w.heap.size+1,2,none⟩=some (.slice ao m ca))) (by kernel_rfl) (K.out _ bA) (fun hHeld=>?_);refine tx 0 5 ?_;refine rd 1 rfl (fun KK AA=>?_);go_simp;have hgo:=bA;refine(CO.out _).mono ?_;rintro e MQ ⟨rfl,bb⟩;have bB:Below w0.heap.size w0 MQ:=bu bA bb;clear bA hgo bb hHeld;refine AA.out _ _ (K.out _ bB) (fun hHeld=>?_);clear AA KK;refine tx 2 7 ?_;refine tx 3 8 ?_;refine tx 4 9 ?_;refine tx 5 10 ?_;refine rd 6 rfl (fun KK AA=>?_);go_simp;have hgo:=bB;refine(NO.out _).mono ?_;rintro e Rb ⟨rfl,bb⟩;have bC:Below w0.heap.size w0 Rb:=bu bB bb;clear bB hgo bb hHeld;refine AA.out _ _ (K.out _ bC) (fun hHeld=>?_);clear AA KK;refine tx 7 12 ?_;refine tx 8 13 ?_;refine tx 9 14 ?_;refine tx 10 15 ?_;refine tx 11 16 ?_;refine tx 13 18 ?_;refine tx 14 19 ?_;refine rd 12 rfl (fun KK AA=>?_);go_simp;have hgo:=bC;refine(VO.out _).mono ?_;rintro e Ep ⟨rfl,bb⟩;have bD:Below w0.heap.size w0 Ep:=bu bC bb;clear bC hgo bb hHeld;refine AA.out _ _ (K.out _ bD) (fun hHeld=>?_);clear AA KK;refine tx 15 20 ?_;refine tx 16 21 ?_;clear hHeld;refine Bw ?_;have B1:Below w.heap.size w Ep:=bu B0 bD;have K1:=K.out _ bD
 try dsimp only at K1
 obtain⟨_,⟨c0,c1⟩,⟨g0,g1,g2⟩⟩:=K1;have K5:Hid (∀w',Below Ep.heap.size Ep w'→(fun w'=>Below Ep.heap.size Ep w'∧(w'.cell? ⟨w.heap.size,0,none⟩=some (.int .i64 n)∧w'.cell? ⟨w.heap.size,1,none⟩=some (.int .i64 f))∧(w'.cell? ⟨w.heap.size+1,0,none⟩=some (.int .i64 v)∧w'.cell? ⟨w.heap.size+1,1,none⟩=some (.string s)∧w'.cell? ⟨w.heap.size+1,2,none⟩=some (.slice ao m ca))) w'):=hide fun w' hb'=>⟨hb',(K.out _ (bD.trans (hb'.mono bD.size))).2⟩
 have xZ:=hide (HA.out.below bD);clear NO VO CO K HA he;go_upto_region 5 with fail
 clear c0 c1 g0 g1 g2;have bA:Below Ep.heap.size Ep Ep.drew:=Below.drew (Below.refl _ _);refine wp_region_noPanic ?_;refine wp_region_held_drew (S:=fun w'=>Below Ep.heap.size Ep w'∧(w'.cell? ⟨w.heap.size,0,none⟩=some (.int .i64 n)∧w'.cell? ⟨w.heap.size,1,none⟩=some (.int .i64 f))∧(w'.cell? ⟨w.heap.size+1,0,none⟩=some (.int .i64 v)∧w'.cell? ⟨w.heap.size+1,1,none⟩=some (.string s)∧w'.cell? ⟨w.heap.size+1,2,none⟩=some (.slice ao m ca))) (by kernel_rfl) (K5.out _ bA) (fun hHeld=>?_);refine tx 0 29 ?_;refine tx 1 30 ?_;refine tx 2 31 ?_;refine tx 3 32 ?_;refine rd 4 rfl (fun KK AA=>?_);go_simp;have hgo:=bA;refine(SO.out _ (xZ.out.below hgo)).mono ?_;rintro e uM ⟨rfl,bb⟩;have bF:Below Ep.heap.size Ep uM:=bu bA bb;clear bA hgo bb hHeld;refine AA.out _ _ (K5.out _ bF) (fun hHeld=>?_);clear AA KK;refine tx 5 34 ?_;refine sx 6 35 ?_;refine sx 7 36 ?_;refine sx 8 37 ?_;refine sx 9 38 ?_;refine sx 10 39 ?_;refine sx 11 40 ?_;refine tx 12 41 ?_;refine tx 13 4 ?_;clear hHeld;refine Bw ?_;go_wp2;go_ret;exact⟨rfl,bu B1 bF⟩

theorem XR(n f v:Int)(s:ByteArray)(ao:Option Addr)(ca:Nat)(xs:List Int)(w:World)(hs:s.size≤1048576)(ha:RI w (.slice ao xs.length ca) xs)(hc:decide (A_ n f)=true)(hn:(AP s).isSome=true)(hv:Av s=v)(he:s≠⟨#[]⟩)(ho:decide (Dv n xs)=true)(hq:Bd n f≤(xs.length:Int)):
 Calls Tryz.prog 124 #[cv n f,qv v s (.slice ao xs.length ca)] w fun e w'=>e= .returned (.bool (true))∧Below w.heap.size w w':=by
 have CO:=hide fun w=>Bc n f w;have NO:=hide fun w=>CW s w (by omega);have VO:=hide fun w=>Dg s w (by omega);have QU:=hide fun w=>D7 n f w;have SO:=hide fun w h=>EE n (.slice ao xs.length ca) xs w h;obtain⟨w0,hw0⟩:∃w0,(w.alloc (.cells #[.int .i64 n,.int .i64 f] 48)).alloc (.cells #[.int .i64 v,.string s,.slice ao xs.length ca] 38)=w0:=⟨_,rfl⟩
 have B0:Below w.heap.size w w0:=hw0▸Bj _ _ _;have C0:Loc w0 w.heap.size #[.int .i64 n,.int .i64 f]:=hw0▸(AJ w _ _ rfl).alloc _;have G0:Loc w0 (w.heap.size+1) #[.int .i64 v,.string s,.slice ao xs.length ca]:=hw0▸AJ (w.alloc _) _ _ (by simp);have HA:=hide (ha.below B0);have K:=kw (ka (Iu C0 0 1) (VS G0 0 1 2));rw[hc]at CO;rw[hn]at NO;rw[hv]at VO;rw[ho]at SO;clear hc hn hv ho;generalize Bd n f=qu at *;have hne:=tQ he;obtain⟨m,hm⟩:∃m,xs.length=m:=⟨_,rfl⟩
 rw[hm]at K HA SO hw0 hq⊢;clear hm;have d4:decide (qu≤(m:Int))=true:=by simpa using hq
 clear ha G0 C0;go_enter Tryz.func124,Tryz.ntmps124
 go_upto_region 1 with fail
 clear hw0;have bA:Below w0.heap.size w0 w0.drew:=Below.drew (Below.refl _ _);refine wp_region_noPanic ?_;refine wp_region_held_drew (S:=fun w'=>Below w0.heap.size w0 w'∧(w'.cell? ⟨w.heap.size,0,none⟩=some (.int .i64 n)∧w'.cell? ⟨w.heap.size,1,none⟩=some (.int .i64 f))∧(w'.cell? ⟨w.heap.size+1,0,none⟩=some (.int .i64 v)∧w'.cell? ⟨w.heap.size+1,1,none⟩=some (.string s)∧w'.cell? ⟨w.heap.size+1,2,none⟩=some (.slice ao m ca))) (by kernel_rfl) (K.out _ bA) (fun hHeld=>?_);refine tx 0 5 ?_;refine rd 1 rfl (fun KK AA=>?_);go_simp;have hgo:=bA;refine(CO.out _).mono ?_;rintro e MQ ⟨rfl,bb⟩;have bB:Below w0.heap.size w0 MQ:=bu bA bb;clear bA hgo bb hHeld;refine AA.out _ _ (K.out _ bB) (fun hHeld=>?_);clear AA KK;refine tx 2 7 ?_;refine tx 3 8 ?_;refine tx 4 9 ?_;refine tx 5 10 ?_;refine rd 6 rfl (fun KK AA=>?_);go_simp;have hgo:=bB;refine(NO.out _).mono ?_;rintro e Rb ⟨rfl,bb⟩;have bC:Below w0.heap.size w0 Rb:=bu bB bb;clear bB hgo bb hHeld;refine AA.out _ _ (K.out _ bC) (fun hHeld=>?_);clear AA KK;refine tx 7 12 ?_;refine tx 8 13 ?_;refine tx 9 14 ?_;refine tx 10 15 ?_;refine tx 11 16 ?_;refine tx 13 18 ?_;refine tx 14 19 ?_;refine rd 12 rfl (fun KK AA=>?_);go_simp;have hgo:=bC;refine(VO.out _).mono ?_;rintro e Ep ⟨rfl,bb⟩;have bD:Below w0.heap.size w0 Ep:=bu bC bb;clear bC hgo bb hHeld;refine AA.out _ _ (K.out _ bD) (fun hHeld=>?_);clear AA KK;refine tx 15 20 ?_;refine tx 16 21 ?_;clear hHeld;refine Bw ?_;have B1:Below w.heap.size w Ep:=bu B0 bD;have K1:=K.out _ bD
 try dsimp only at K1
 obtain⟨_,⟨c0,c1⟩,⟨g0,g1,g2⟩⟩:=K1;have K5:Hid (∀w',Below Ep.heap.size Ep w'→(fun w'=>Below Ep.heap.size Ep w'∧(w'.cell? ⟨w.heap.size,0,none⟩=some (.int .i64 n)∧w'.cell? ⟨w.heap.size,1,none⟩=some (.int .i64 f))∧(w'.cell? ⟨w.heap.size+1,0,none⟩=some (.int .i64 v)∧w'.cell? ⟨w.heap.size+1,1,none⟩=some (.string s)∧w'.cell? ⟨w.heap.size+1,2,none⟩=some (.slice ao m ca))) w'):=hide fun w' hb'=>⟨hb',(K.out _ (bD.trans (hb'.mono bD.size))).2⟩
 have xZ:=hide (HA.out.below bD);clear NO VO CO K HA he;go_upto_region 5 with fail
 clear c0 c1 g0 g1 g2;have bA:Below Ep.heap.size Ep Ep.drew:=Below.drew (Below.refl _ _);refine wp_region_noPanic ?_;refine wp_region_held_drew (S:=fun w'=>Below Ep.heap.size Ep w'∧(w'.cell? ⟨w.heap.size,0,none⟩=some (.int .i64 n)∧w'.cell? ⟨w.heap.size,1,none⟩=some (.int .i64 f))∧(w'.cell? ⟨w.heap.size+1,0,none⟩=some (.int .i64 v)∧w'.cell? ⟨w.heap.size+1,1,none⟩=some (.string s)∧w'.cell? ⟨w.heap.size+1,2,none⟩=some (.slice ao m ca))) (by kernel_rfl) (K5.out _ bA) (fun hHeld=>?_);refine tx 0 29 ?_;refine tx 1 30 ?_;refine tx 2 31 ?_;refine tx 3 32 ?_;refine rd 4 rfl (fun KK AA=>?_);go_simp;have hgo:=bA;refine(SO.out _ (xZ.out.below hgo)).mono ?_;rintro e uM ⟨rfl,bb⟩;have bF:Below Ep.heap.size Ep uM:=bu bA bb;clear bA hgo bb hHeld;refine AA.out _ _ (K5.out _ bF) (fun hHeld=>?_);clear AA KK;refine tx 5 34 ?_;refine tx 6 35 ?_;refine tx 7 36 ?_;refine tx 8 37 ?_;refine tx 9 38 ?_;refine rd 10 rfl (fun KK AA=>?_);go_simp;have hgo:=bF;refine(QU.out _).mono ?_;rintro e zW ⟨rfl,bb⟩;have bG:Below Ep.heap.size Ep zW:=bu bF bb;clear bF hgo bb hHeld;refine AA.out _ _ (K5.out _ bG) (fun hHeld=>?_);clear AA KK;refine tx 11 40 ?_;refine tx 12 41 ?_;refine tx 13 4 ?_;clear hHeld;refine Bw ?_;go_wp2;go_ret;exact⟨rfl,bu B1 bG⟩

theorem XQ(n f v:Int)(s:ByteArray)(ao:Option Addr)(ca:Nat)(xs:List Int)(w:World)(hs:s.size≤1048576)(ha:RI w (.slice ao xs.length ca) xs)(hc:decide (A_ n f)=true)(hn:(AP s).isSome=true)(hv:Av s=v)(he:s≠⟨#[]⟩)(ho:decide (Dv n xs)=true)(hq:¬Bd n f≤(xs.length:Int)):
 Calls Tryz.prog 124 #[cv n f,qv v s (.slice ao xs.length ca)] w fun e w'=>e= .returned (.bool (false))∧Below w.heap.size w w':=by
 have CO:=hide fun w=>Bc n f w;have NO:=hide fun w=>CW s w (by omega);have VO:=hide fun w=>Dg s w (by omega);have QU:=hide fun w=>D7 n f w;have SO:=hide fun w h=>EE n (.slice ao xs.length ca) xs w h;obtain⟨w0,hw0⟩:∃w0,(w.alloc (.cells #[.int .i64 n,.int .i64 f] 48)).alloc (.cells #[.int .i64 v,.string s,.slice ao xs.length ca] 38)=w0:=⟨_,rfl⟩
 have B0:Below w.heap.size w w0:=hw0▸Bj _ _ _;have C0:Loc w0 w.heap.size #[.int .i64 n,.int .i64 f]:=hw0▸(AJ w _ _ rfl).alloc _;have G0:Loc w0 (w.heap.size+1) #[.int .i64 v,.string s,.slice ao xs.length ca]:=hw0▸AJ (w.alloc _) _ _ (by simp);have HA:=hide (ha.below B0);have K:=kw (ka (Iu C0 0 1) (VS G0 0 1 2));rw[hc]at CO;rw[hn]at NO;rw[hv]at VO;rw[ho]at SO;clear hc hn hv ho;generalize Bd n f=qu at *;have hne:=tQ he;obtain⟨m,hm⟩:∃m,xs.length=m:=⟨_,rfl⟩
 rw[hm]at K HA SO hw0 hq⊢;clear hm;have d4:decide (qu≤(m:Int))=false:=by simpa using hq
 clear ha G0 C0;go_enter Tryz.func124,Tryz.ntmps124
 go_upto_region 1 with fail
 clear hw0;have bA:Below w0.heap.size w0 w0.drew:=Below.drew (Below.refl _ _);refine wp_region_noPanic ?_;refine wp_region_held_drew (S:=fun w'=>Below w0.heap.size w0 w'∧(w'.cell? ⟨w.heap.size,0,none⟩=some (.int .i64 n)∧w'.cell? ⟨w.heap.size,1,none⟩=some (.int .i64 f))∧(w'.cell? ⟨w.heap.size+1,0,none⟩=some (.int .i64 v)∧w'.cell? ⟨w.heap.size+1,1,none⟩=some (.string s)∧w'.cell? ⟨w.heap.size+1,2,none⟩=some (.slice ao m ca))) (by kernel_rfl) (K.out _ bA) (fun hHeld=>?_);refine tx 0 5 ?_;refine rd 1 rfl (fun KK AA=>?_);go_simp;have hgo:=bA;refine(CO.out _).mono ?_;rintro e MQ ⟨rfl,bb⟩;have bB:Below w0.heap.size w0 MQ:=bu bA bb;clear bA hgo bb hHeld;refine AA.out _ _ (K.out _ bB) (fun hHeld=>?_);clear AA KK;refine tx 2 7 ?_;refine tx 3 8 ?_;refine tx 4 9 ?_;refine tx 5 10 ?_;refine rd 6 rfl (fun KK AA=>?_);go_simp;have hgo:=bB;refine(NO.out _).mono ?_;rintro e Rb ⟨rfl,bb⟩;have bC:Below w0.heap.size w0 Rb:=bu bB bb;clear bB hgo bb hHeld;refine AA.out _ _ (K.out _ bC) (fun hHeld=>?_);clear AA KK;refine tx 7 12 ?_;refine tx 8 13 ?_;refine tx 9 14 ?_;refine tx 10 15 ?_;refine tx 11 16 ?_;refine tx 13 18 ?_;refine tx 14 19 ?_;refine rd 12 rfl (fun KK AA=>?_);go_simp;have hgo:=bC;refine(VO.out _).mono ?_;rintro e Ep ⟨rfl,bb⟩;have bD:Below w0.heap.size w0 Ep:=bu bC bb;clear bC hgo bb hHeld;refine AA.out _ _ (K.out _ bD) (fun hHeld=>?_);clear AA KK;refine tx 15 20 ?_;refine tx 16 21 ?_;clear hHeld;refine Bw ?_;have B1:Below w.heap.size w Ep:=bu B0 bD;have K1:=K.out _ bD
 try dsimp only at K1
 obtain⟨_,⟨c0,c1⟩,⟨g0,g1,g2⟩⟩:=K1;have K5:Hid (∀w',Below Ep.heap.size Ep w'→(fun w'=>Below Ep.heap.size Ep w'∧(w'.cell? ⟨w.heap.size,0,none⟩=some (.int .i64 n)∧w'.cell? ⟨w.heap.size,1,none⟩=some (.int .i64 f))∧(w'.cell? ⟨w.heap.size+1,0,none⟩=some (.int .i64 v)∧w'.cell? ⟨w.heap.size+1,1,none⟩=some (.string s)∧w'.cell? ⟨w.heap.size+1,2,none⟩=some (.slice ao m ca))) w'):=hide fun w' hb'=>⟨hb',(K.out _ (bD.trans (hb'.mono bD.size))).2⟩
 have xZ:=hide (HA.out.below bD);clear NO VO CO K HA he;go_upto_region 5 with fail
 clear c0 c1 g0 g1 g2;have bA:Below Ep.heap.size Ep Ep.drew:=Below.drew (Below.refl _ _);refine wp_region_noPanic ?_;refine wp_region_held_drew (S:=fun w'=>Below Ep.heap.size Ep w'∧(w'.cell? ⟨w.heap.size,0,none⟩=some (.int .i64 n)∧w'.cell? ⟨w.heap.size,1,none⟩=some (.int .i64 f))∧(w'.cell? ⟨w.heap.size+1,0,none⟩=some (.int .i64 v)∧w'.cell? ⟨w.heap.size+1,1,none⟩=some (.string s)∧w'.cell? ⟨w.heap.size+1,2,none⟩=some (.slice ao m ca))) (by kernel_rfl) (K5.out _ bA) (fun hHeld=>?_);refine tx 0 29 ?_;refine tx 1 30 ?_;refine tx 2 31 ?_;refine tx 3 32 ?_;refine rd 4 rfl (fun KK AA=>?_);go_simp;have hgo:=bA;refine(SO.out _ (xZ.out.below hgo)).mono ?_;rintro e uM ⟨rfl,bb⟩;have bF:Below Ep.heap.size Ep uM:=bu bA bb;clear bA hgo bb hHeld;refine AA.out _ _ (K5.out _ bF) (fun hHeld=>?_);clear AA KK;refine tx 5 34 ?_;refine tx 6 35 ?_;refine tx 7 36 ?_;refine tx 8 37 ?_;refine tx 9 38 ?_;refine rd 10 rfl (fun KK AA=>?_);go_simp;have hgo:=bF;refine(QU.out _).mono ?_;rintro e zW ⟨rfl,bb⟩;have bG:Below Ep.heap.size Ep zW:=bu bF bb;clear bF hgo bb hHeld;refine AA.out _ _ (K5.out _ bG) (fun hHeld=>?_);clear AA KK;refine tx 11 40 ?_;refine tx 12 41 ?_;refine tx 13 4 ?_;clear hHeld;refine Bw ?_;go_wp2;go_ret;exact⟨rfl,bu B1 bG⟩

theorem Fv(n f v:Int)(s:ByteArray)(ao:Option Addr)(ca:Nat)(xs:List Int)(w:World)(hs:s.size≤1048576)(ha:RI w (.slice ao xs.length ca) xs):
 Calls Tryz.prog 124 #[cv n f,qv v s (.slice ao xs.length ca)] w fun e w'=>e= .returned (.bool (Gi n f v s xs))∧Below w.heap.size w w':=by
 unfold Gi;have hxe:decide (xs=[])=((xs.length:Int)==0):=by cases xs with|nil=>rfl|cons a l=>simp;omega
 rw[hxe];clear hxe;cases hc:decide (A_ n f)with
 |false=>simpa using XX n f v s ao ca xs w hs ha hc
 | true=>
  cases hn:(AP s).isSome with
  |false=>simpa using XW n f v s ao ca xs w hs ha hc hn
  | true=>
   by_cases hv:Av s=v
   ·have d2:(Av s==v)=true:=by simpa using hv
    rw[d2];by_cases he:s=⟨#[]⟩
    ·rw[if_pos he];simpa only[Bool.true_and]using XU n f v s ao ca xs w hs ha hc hn hv he
    rw[if_neg he];cases ho:decide (Dv n xs)with
    |false=>simpa only[Bool.true_and,Bool.false_and]using XT n f v s ao ca xs w hs ha hc hn hv he ho
    |true=>
     by_cases hq:Bd n f≤(xs.length:Int)
     ·rw[decide_eq_true hq];simpa only[Bool.true_and]using XR n f v s ao ca xs w hs ha hc hn hv he ho hq
     rw[decide_eq_false hq];simpa only[Bool.true_and]using XQ n f v s ao ca xs w hs ha hc hn hv he ho hq
   have d2:(Av s==v)=false:=by simpa using hv
   rw[d2];simpa only[Bool.true_and,Bool.false_and]using XV n f v s ao ca xs w hs ha hc hn hv
end
section
open Go.RowKit
structure jw(w:World)(ao:Option Addr)(xs:List Int):Prop where
 len:xs.length≤1048576
 code:xs=[]∨∃b off,ao=some ⟨b,off,none⟩∧∀k,k<xs.length→w.cell? ⟨b,off+k,none⟩=some (.int .u8 (xs.getD k 0))
 fit:∀k,k<xs.length→0≤xs.getD k 0∧xs.getD k 0≤255
theorem jw.below{w w':World}{ao:Option Addr}{xs:List Int}(h:jw w ao xs)(hb:Below w.heap.size w w'):jw w' ao xs:=by
 refine⟨h.len,?_,h.fit⟩;rcases h.code with h'|⟨b,off,ha,hx⟩
 ·exact .inl h'
 exact .inr ⟨b,off,ha,fun k hk=>(hb.cell (p:=⟨b,off+k,none⟩) (AQ (hx k hk))).trans (hx k hk)⟩
theorem JK.sub{xs ys:List Int}(h:JK xs)(hs:∀y ∈ ys,y ∈ xs):JK ys:=fun y hy=>h y (hs y hy)
end
section
open Go.RowKit
variable [∀(a b c d:Int),Decidable (BG a b c d)] [∀(a b c d:Nat),Decidable (DZ a b c d)] [∀(last:Int)(s:St),Decidable (Aq last s)] [∀(x:T4),Decidable (Du x)] [∀(n:Int)(s:List Int),Decidable (Dv n s)] [∀(n f:Int),Decidable (A_ n f)]
theorem Kz:AP ⟨#[]⟩=some []:=by simp[AP]
theorem gI:Av ⟨#[]⟩=0:=by simp[Av,Kz]
theorem QX{s:ByteArray}(h:(AP s).isSome=false):Av s=0:=by
 cases e:AP s with
 |none=>simp[Av,e]
 |some ss=>rw[e]at h;cases h
theorem gH{s:ByteArray}(h:(AP s).isSome=true)(hs:s≠⟨#[]⟩):0<Av s:=by
 obtain⟨ss,e⟩:=Option.isSome_iff_exists.1 h;have h1:=(Vq (s:=s)).1;unfold Bg at h1;rw[e]at h1
 have hne:ss≠[]:=by
  rintro rfl;have:=((Cf _ _).1 e).1;exact hs (Tf (by simpa[nm]using this))
 have:=List.length_pos_iff.2 hne;simp only at h1;omega
theorem qz(n f v:Int)(s:ByteArray)(xs:List Int):(decide (A_ n f)&&(BQ v 0 s ⟨#[]⟩ xs []||Ja n f v s xs))=Gi n f v s xs:=by
 unfold Gi Ja BQ;by_cases hc:A_ n f
 ·simp only[hc,decide_true,Bool.true_and];by_cases hs:s=⟨#[]⟩
  ·subst hs;rw[Kz,gI];by_cases hv:v=0
   ·subst hv;simp
   have h1:(v==0)=false:=by simpa using hv
   have h2:((0:Int)==v)=false:=by simp;omega
   simp[h1,h2,hv]
  simp only[hs,false_and,and_false,decide_false,Bool.false_or,if_false];cases hn:(AP s).isSome with
  | false=>
   rw[QX hn];by_cases hv:v=0
   ·subst hv;simp
   ·have h1:(v==0)=false:=by simpa using hv
    simp[h1]
  | true=>
   have hp:=gH hn hs;by_cases hv:v=Av s
   ·subst hv;have h1:decide (0<Av s)=true:=by simpa using hp
    simp only[h1,beq_self_eq_true,Bool.true_and];rw[Bool.and_comm]
   have h1:(v==Av s)=false:=by simpa using hv
   have h2:(Av s==v)=false:=by simp;omega
   simp[h1,h2]
 simp[hc]
theorem O_(n f v:Int)(s:ByteArray)(ao:Option Addr)(ca:Nat)(xs:List Int)(w:World)(hs:s.size≤33554432)(hE:Env w)(ha:RI w (.slice ao xs.length ca) xs):
 Calls Tryz.prog 137 #[cv n f,qv v s (.slice ao xs.length ca)] w fun e w'=>e= .returned (.bool (Gi n f v s xs))∧Below w.heap.size w w':=by
 have:=Va n f v s ao ca xs w hs hE ha
 rwa [qz]at this
def WB(n f:Int)(m:ByteArray)(v:Int)(s:ByteArray)(xs:List Int):Bool:=Gi n f v s xs&&decide (0<Bg m)&&decide (FV m=s)
theorem YO(m:ByteArray):decide (0<Bg m)=((AP m).isSome&&decide (m≠⟨#[]⟩)):=by
 unfold Bg;cases e:AP m with
 |none=>simp
 | some ss=>
  have h:=((Cf _ _).1 e).1;by_cases hm:m=⟨#[]⟩
  ·subst hm;rw[Kz]at e;cases e
   simp
  have hne:ss≠[]:=by
   rintro rfl;exact hm (Tf (by simpa[nm]using h))
  have:=List.length_pos_iff.2 hne;simp[hm];omega
end
section
open Go.RowKit
variable [∀(a b c d:Int),Decidable (BG a b c d)] [∀(a b c d:Nat),Decidable (DZ a b c d)] [∀(x:T4),Decidable (Du x)]
theorem OT.grown{w w':World}{base g:Nat}{v:Value}{xs:List T4}(h:OT w base v xs)(hg:w.grownBy w' (some g))(hlt:g<base):OT w' base v xs:=
 World.ownsRow.kept h hg (by
  cases hv:v.ownBlock with
  |none=>exact .inl rfl
  |some k=>exact .inr fun e=>by have:=(World.ownsRow.lt h k hv).1;simp at e;omega)
end
end Go.Proofs.YtcjmcgolgbkknaaGreatDoor
