/- Lemmas; their conditions stand in each statement. -/
import Derived.Test.YtkmnfeihjjccmaaGreatDoorTLAX
set_option maxRecDepth 100000
set_option maxHeartbeats 8000000
set_option linter.unusedSectionVars false
namespace Go.Proofs.YtkmnfeihjjccmaaGreatDoor
section
open Go.RowKit
variable [∀(a b c d:Int),Decidable (BD a b c d)]
variable [∀(a b c d:Nat),Decidable (Dj a b c d)]
variable [∀(last:Int)(s:St),Decidable (Au last s)]
variable [∀(x:T4),Decidable (Dr x)]
variable [∀(n:Int)(s:List Int),Decidable (Dt n s)]
variable [∀(n f:Int),Decidable (A8 n f)]
def Ga(n f v:Int)(s:ByteArray)(xs:List Int):Bool:=decide (A8 n f)&&(AQ s).isSome&&(Aq s==v)&&(if s=⟨#[]⟩then decide (xs=[])else decide (Dt n xs)&&decide (Bc n f≤(xs.length:Int)))

theorem XV(n f v:Int)(s:ByteArray)(ao:Option Addr)(ca:Nat)(xs:List Int)(w:World)(hs:s.size≤1048576)(ha:RI w (.slice ao xs.length ca) xs)(hc:decide (A8 n f)=false):
 Calls Tryz.prog 92 #[cv n f,qv v s (.slice ao xs.length ca)] w fun e w'=>e= .returned (.bool (false))∧Below w.heap.size w w':=by
 have CO:=hide fun w=>Ba n f w
 have NO:=hide fun w=>CV s w (by omega)
 have VO:=hide fun w=>Db s w (by omega)
 have QU:=hide fun w=>Dv n f w
 have SO:=hide fun w h=>D5 n (.slice ao xs.length ca) xs w h
 obtain⟨w0,hw0⟩:∃w0,(w.alloc (.cells #[.int .i64 n,.int .i64 f] 57)).alloc (.cells #[.int .i64 v,.string s,.slice ao xs.length ca] 46)=w0:=⟨_,rfl⟩
 have B0:Below w.heap.size w w0:=hw0▸Bh _ _ _
 have C0:Loc w0 w.heap.size #[.int .i64 n,.int .i64 f]:=hw0▸(AB w _ _ rfl).alloc _
 have G0:Loc w0 (w.heap.size+1) #[.int .i64 v,.string s,.slice ao xs.length ca]:=hw0▸AB (w.alloc _) _ _ (by simp)
 have HA:=hide (ha.below B0)
 have K:=kw (ka (Ia C0 0 1) (VN G0 0 1 2))
 rw[hc]at CO
 clear hc NO VO QU SO
 obtain⟨m,hm⟩:∃m,xs.length=m:=⟨_,rfl⟩
 rw[hm]at K HA hw0⊢
 clear hm ha G0 C0
 go_enter Tryz.func92,Tryz.ntmps92
 go_upto_region 1 with fail
 clear hw0
 have bA:Below w0.heap.size w0 w0.drew:=Below.drew (Below.refl _ _)
 refine wp_region_noPanic ?_
 refine wp_region_held_drew (S:=fun w'=>Below w0.heap.size w0 w'∧(w'.cell? ⟨w.heap.size,0,none⟩=some (.int .i64 n)∧w'.cell? ⟨w.heap.size,1,none⟩=some (.int .i64 f))∧(w'.cell? ⟨w.heap.size+1,0,none⟩=some (.int .i64 v)∧w'.cell? ⟨w.heap.size+1,1,none⟩=some (.string s)∧w'.cell? ⟨w.heap.size+1,2,none⟩=some (.slice ao m ca))) (by kernel_rfl) (K.out _ bA) (fun hHeld=>?_)
 refine tx 0 5 ?_
 refine rd 1 rfl (fun KK AA=>?_)
 go_simp
 have hgo:=bA
 refine(CO.out _).mono ?_
 rintro e MJ ⟨rfl,bb⟩
 have bB:Below w0.heap.size w0 MJ:=bu bA bb
 clear bA hgo bb hHeld
 refine AA.out _ _ (K.out _ bB) (fun hHeld=>?_)
 clear AA KK
 refine tx 2 7 ?_
 refine tx 3 8 ?_
 refine sx 4 9 ?_
 refine sx 5 10 ?_
 refine sx 6 11 ?_
 refine sx 7 12 ?_
 refine tx 8 13 ?_
 refine tx 9 14 ?_
 refine sx 10 15 ?_
 refine sx 11 16 ?_
 refine sx 12 17 ?_
 refine sx 13 18 ?_
 refine sx 14 19 ?_
 refine sx 15 20 ?_
 refine tx 16 21 ?_
 clear hHeld
 refine Bt ?_
 go_wp2
 go_ret
 exact⟨rfl,bu B0 bB⟩

theorem XU(n f v:Int)(s:ByteArray)(ao:Option Addr)(ca:Nat)(xs:List Int)(w:World)(hs:s.size≤1048576)(ha:RI w (.slice ao xs.length ca) xs)(hc:decide (A8 n f)=true)(hn:(AQ s).isSome=false):
 Calls Tryz.prog 92 #[cv n f,qv v s (.slice ao xs.length ca)] w fun e w'=>e= .returned (.bool (false))∧Below w.heap.size w w':=by
 have CO:=hide fun w=>Ba n f w
 have NO:=hide fun w=>CV s w (by omega)
 have VO:=hide fun w=>Db s w (by omega)
 have QU:=hide fun w=>Dv n f w
 have SO:=hide fun w h=>D5 n (.slice ao xs.length ca) xs w h
 obtain⟨w0,hw0⟩:∃w0,(w.alloc (.cells #[.int .i64 n,.int .i64 f] 57)).alloc (.cells #[.int .i64 v,.string s,.slice ao xs.length ca] 46)=w0:=⟨_,rfl⟩
 have B0:Below w.heap.size w w0:=hw0▸Bh _ _ _
 have C0:Loc w0 w.heap.size #[.int .i64 n,.int .i64 f]:=hw0▸(AB w _ _ rfl).alloc _
 have G0:Loc w0 (w.heap.size+1) #[.int .i64 v,.string s,.slice ao xs.length ca]:=hw0▸AB (w.alloc _) _ _ (by simp)
 have HA:=hide (ha.below B0)
 have K:=kw (ka (Ia C0 0 1) (VN G0 0 1 2))
 rw[hc]at CO
 rw[hn]at NO
 clear hc hn VO QU SO
 obtain⟨m,hm⟩:∃m,xs.length=m:=⟨_,rfl⟩
 rw[hm]at K HA hw0⊢
 clear hm ha G0 C0
 go_enter Tryz.func92,Tryz.ntmps92
 go_upto_region 1 with fail
 clear hw0
 have bA:Below w0.heap.size w0 w0.drew:=Below.drew (Below.refl _ _)
 refine wp_region_noPanic ?_
 refine wp_region_held_drew (S:=fun w'=>Below w0.heap.size w0 w'∧(w'.cell? ⟨w.heap.size,0,none⟩=some (.int .i64 n)∧w'.cell? ⟨w.heap.size,1,none⟩=some (.int .i64 f))∧(w'.cell? ⟨w.heap.size+1,0,none⟩=some (.int .i64 v)∧w'.cell? ⟨w.heap.size+1,1,none⟩=some (.string s)∧w'.cell? ⟨w.heap.size+1,2,none⟩=some (.slice ao m ca))) (by kernel_rfl) (K.out _ bA) (fun hHeld=>?_)
 refine tx 0 5 ?_
 refine rd 1 rfl (fun KK AA=>?_)
 go_simp
 have hgo:=bA
 refine(CO.out _).mono ?_
 rintro e MJ ⟨rfl,bb⟩
 have bB:Below w0.heap.size w0 MJ:=bu bA bb
 clear bA hgo bb hHeld
 refine AA.out _ _ (K.out _ bB) (fun hHeld=>?_)
 clear AA KK
 refine tx 2 7 ?_
 refine tx 3 8 ?_
 refine tx 4 9 ?_
 refine tx 5 10 ?_
 refine rd 6 rfl (fun KK AA=>?_)
 go_simp
 have hgo:=bB
 refine(NO.out _).mono ?_
 rintro e Q8 ⟨rfl,bb⟩
 have bC:Below w0.heap.size w0 Q8:=bu bB bb
 clear bB hgo bb hHeld
 refine AA.out _ _ (K.out _ bC) (fun hHeld=>?_)
 clear AA KK
 refine tx 7 12 ?_
 refine tx 8 13 ?_
 refine tx 9 14 ?_
 refine sx 10 15 ?_
 refine sx 11 16 ?_
 refine sx 12 17 ?_
 refine sx 13 18 ?_
 refine sx 14 19 ?_
 refine sx 15 20 ?_
 refine tx 16 21 ?_
 clear hHeld
 refine Bt ?_
 go_wp2
 go_ret
 exact⟨rfl,bu B0 bC⟩

theorem XT(n f v:Int)(s:ByteArray)(ao:Option Addr)(ca:Nat)(xs:List Int)(w:World)(hs:s.size≤1048576)(ha:RI w (.slice ao xs.length ca) xs)(hc:decide (A8 n f)=true)(hn:(AQ s).isSome=true)(hv:Aq s≠v):
 Calls Tryz.prog 92 #[cv n f,qv v s (.slice ao xs.length ca)] w fun e w'=>e= .returned (.bool (false))∧Below w.heap.size w w':=by
 have CO:=hide fun w=>Ba n f w
 have NO:=hide fun w=>CV s w (by omega)
 have VO:=hide fun w=>Db s w (by omega)
 have QU:=hide fun w=>Dv n f w
 have SO:=hide fun w h=>D5 n (.slice ao xs.length ca) xs w h
 obtain⟨w0,hw0⟩:∃w0,(w.alloc (.cells #[.int .i64 n,.int .i64 f] 57)).alloc (.cells #[.int .i64 v,.string s,.slice ao xs.length ca] 46)=w0:=⟨_,rfl⟩
 have B0:Below w.heap.size w w0:=hw0▸Bh _ _ _
 have C0:Loc w0 w.heap.size #[.int .i64 n,.int .i64 f]:=hw0▸(AB w _ _ rfl).alloc _
 have G0:Loc w0 (w.heap.size+1) #[.int .i64 v,.string s,.slice ao xs.length ca]:=hw0▸AB (w.alloc _) _ _ (by simp)
 have HA:=hide (ha.below B0)
 have K:=kw (ka (Ia C0 0 1) (VN G0 0 1 2))
 rw[hc]at CO
 rw[hn]at NO
 clear hc hn QU SO
 generalize Aq s=q at *
 have d2:(q==v)=false:=by simpa using hv
 obtain⟨m,hm⟩:∃m,xs.length=m:=⟨_,rfl⟩
 rw[hm]at K HA hw0⊢
 clear hm ha G0 C0
 go_enter Tryz.func92,Tryz.ntmps92
 go_upto_region 1 with fail
 clear hw0
 have bA:Below w0.heap.size w0 w0.drew:=Below.drew (Below.refl _ _)
 refine wp_region_noPanic ?_
 refine wp_region_held_drew (S:=fun w'=>Below w0.heap.size w0 w'∧(w'.cell? ⟨w.heap.size,0,none⟩=some (.int .i64 n)∧w'.cell? ⟨w.heap.size,1,none⟩=some (.int .i64 f))∧(w'.cell? ⟨w.heap.size+1,0,none⟩=some (.int .i64 v)∧w'.cell? ⟨w.heap.size+1,1,none⟩=some (.string s)∧w'.cell? ⟨w.heap.size+1,2,none⟩=some (.slice ao m ca))) (by kernel_rfl) (K.out _ bA) (fun hHeld=>?_)
 refine tx 0 5 ?_
 refine rd 1 rfl (fun KK AA=>?_)
 go_simp
 have hgo:=bA
 refine(CO.out _).mono ?_
 rintro e MJ ⟨rfl,bb⟩
 have bB:Below w0.heap.size w0 MJ:=bu bA bb
 clear bA hgo bb hHeld
 refine AA.out _ _ (K.out _ bB) (fun hHeld=>?_)
 clear AA KK
 refine tx 2 7 ?_
 refine tx 3 8 ?_
 refine tx 4 9 ?_
 refine tx 5 10 ?_
 refine rd 6 rfl (fun KK AA=>?_)
 go_simp
 have hgo:=bB
 refine(NO.out _).mono ?_
 rintro e Q8 ⟨rfl,bb⟩
 have bC:Below w0.heap.size w0 Q8:=bu bB bb
 clear bB hgo bb hHeld
 refine AA.out _ _ (K.out _ bC) (fun hHeld=>?_)
 clear AA KK
 refine tx 7 12 ?_
 refine tx 8 13 ?_
 refine tx 9 14 ?_
 refine tx 10 15 ?_
 refine tx 11 16 ?_
 refine tx 13 18 ?_
 refine tx 14 19 ?_
 refine rd 12 rfl (fun KK AA=>?_)
 go_simp
 have hgo:=bC
 refine(VO.out _).mono ?_
 rintro e Ej ⟨rfl,bb⟩
 have bD:Below w0.heap.size w0 Ej:=bu bC bb
 clear bC hgo bb hHeld
 refine AA.out _ _ (K.out _ bD) (fun hHeld=>?_)
 clear AA KK
 refine tx 15 20 ?_
 refine tx 16 21 ?_
 clear hHeld
 refine Bt ?_
 go_wp2
 go_ret
 exact⟨rfl,bu B0 bD⟩

theorem XR(n f v:Int)(s:ByteArray)(ao:Option Addr)(ca:Nat)(xs:List Int)(w:World)(hs:s.size≤1048576)(ha:RI w (.slice ao xs.length ca) xs)(hc:decide (A8 n f)=true)(hn:(AQ s).isSome=true)(hv:Aq s=v)(he:s=⟨#[]⟩):
 Calls Tryz.prog 92 #[cv n f,qv v s (.slice ao xs.length ca)] w fun e w'=>e= .returned (.bool (((xs.length:Int)==0)))∧Below w.heap.size w w':=by
 have CO:=hide fun w=>Ba n f w
 have NO:=hide fun w=>CV s w (by omega)
 have VO:=hide fun w=>Db s w (by omega)
 have QU:=hide fun w=>Dv n f w
 have SO:=hide fun w h=>D5 n (.slice ao xs.length ca) xs w h
 obtain⟨w0,hw0⟩:∃w0,(w.alloc (.cells #[.int .i64 n,.int .i64 f] 57)).alloc (.cells #[.int .i64 v,.string s,.slice ao xs.length ca] 46)=w0:=⟨_,rfl⟩
 have B0:Below w.heap.size w w0:=hw0▸Bh _ _ _
 have C0:Loc w0 w.heap.size #[.int .i64 n,.int .i64 f]:=hw0▸(AB w _ _ rfl).alloc _
 have G0:Loc w0 (w.heap.size+1) #[.int .i64 v,.string s,.slice ao xs.length ca]:=hw0▸AB (w.alloc _) _ _ (by simp)
 have HA:=hide (ha.below B0)
 have K:=kw (ka (Ia C0 0 1) (VN G0 0 1 2))
 rw[hc]at CO
 rw[hn]at NO
 rw[hv]at VO
 have hE:(s.toList==[])=true:=by rw[he,ByteArray.toList_eq];rfl
 clear hc hn hv he QU SO
 obtain⟨m,hm⟩:∃m,xs.length=m:=⟨_,rfl⟩
 rw[hm]at K HA hw0⊢
 clear hm ha G0 C0
 go_enter Tryz.func92,Tryz.ntmps92
 go_upto_region 1 with fail
 clear hw0
 have bA:Below w0.heap.size w0 w0.drew:=Below.drew (Below.refl _ _)
 refine wp_region_noPanic ?_
 refine wp_region_held_drew (S:=fun w'=>Below w0.heap.size w0 w'∧(w'.cell? ⟨w.heap.size,0,none⟩=some (.int .i64 n)∧w'.cell? ⟨w.heap.size,1,none⟩=some (.int .i64 f))∧(w'.cell? ⟨w.heap.size+1,0,none⟩=some (.int .i64 v)∧w'.cell? ⟨w.heap.size+1,1,none⟩=some (.string s)∧w'.cell? ⟨w.heap.size+1,2,none⟩=some (.slice ao m ca))) (by kernel_rfl) (K.out _ bA) (fun hHeld=>?_)
 refine tx 0 5 ?_
 refine rd 1 rfl (fun KK AA=>?_)
 go_simp
 have hgo:=bA
 refine(CO.out _).mono ?_
 rintro e MJ ⟨rfl,bb⟩
 have bB:Below w0.heap.size w0 MJ:=bu bA bb
 clear bA hgo bb hHeld
 refine AA.out _ _ (K.out _ bB) (fun hHeld=>?_)
 clear AA KK
 refine tx 2 7 ?_
 refine tx 3 8 ?_
 refine tx 4 9 ?_
 refine tx 5 10 ?_
 refine rd 6 rfl (fun KK AA=>?_)
 go_simp
 have hgo:=bB
 refine(NO.out _).mono ?_
 rintro e Q8 ⟨rfl,bb⟩
 have bC:Below w0.heap.size w0 Q8:=bu bB bb
 clear bB hgo bb hHeld
 refine AA.out _ _ (K.out _ bC) (fun hHeld=>?_)
 clear AA KK
 refine tx 7 12 ?_
 refine tx 8 13 ?_
 refine tx 9 14 ?_
 refine tx 10 15 ?_
 refine tx 11 16 ?_
 refine tx 13 18 ?_
 refine tx 14 19 ?_
 refine rd 12 rfl (fun KK AA=>?_)
 go_simp
 have hgo:=bC
 refine(VO.out _).mono ?_
 rintro e Ej ⟨rfl,bb⟩
 have bD:Below w0.heap.size w0 Ej:=bu bC bb
 clear bC hgo bb hHeld
 refine AA.out _ _ (K.out _ bD) (fun hHeld=>?_)
 clear AA KK
 refine tx 15 20 ?_
 refine tx 16 21 ?_
 clear hHeld
 refine Bt ?_
 have B1:Below w.heap.size w Ej:=bu B0 bD
 have K1:=K.out _ bD
 try dsimp only at K1
 obtain⟨_,⟨c0,c1⟩,⟨g0,g1,g2⟩⟩:=K1
 clear K HA NO VO CO
 go_wp2
 go_ret
 exact⟨rfl,B1⟩

theorem XQ(n f v:Int)(s:ByteArray)(ao:Option Addr)(ca:Nat)(xs:List Int)(w:World)(hs:s.size≤1048576)(ha:RI w (.slice ao xs.length ca) xs)(hc:decide (A8 n f)=true)(hn:(AQ s).isSome=true)(hv:Aq s=v)(he:s≠⟨#[]⟩)(ho:decide (Dt n xs)=false)  :
 Calls Tryz.prog 92 #[cv n f,qv v s (.slice ao xs.length ca)] w fun e w'=>e= .returned (.bool (false))∧Below w.heap.size w w':=by
 have CO:=hide fun w=>Ba n f w
 have NO:=hide fun w=>CV s w (by omega)
 have VO:=hide fun w=>Db s w (by omega)
 have QU:=hide fun w=>Dv n f w
 have SO:=hide fun w h=>D5 n (.slice ao xs.length ca) xs w h
 obtain⟨w0,hw0⟩:∃w0,(w.alloc (.cells #[.int .i64 n,.int .i64 f] 57)).alloc (.cells #[.int .i64 v,.string s,.slice ao xs.length ca] 46)=w0:=⟨_,rfl⟩
 have B0:Below w.heap.size w w0:=hw0▸Bh _ _ _
 have C0:Loc w0 w.heap.size #[.int .i64 n,.int .i64 f]:=hw0▸(AB w _ _ rfl).alloc _
 have G0:Loc w0 (w.heap.size+1) #[.int .i64 v,.string s,.slice ao xs.length ca]:=hw0▸AB (w.alloc _) _ _ (by simp)
 have HA:=hide (ha.below B0)
 have K:=kw (ka (Ia C0 0 1) (VN G0 0 1 2))
 rw[hc]at CO
 rw[hn]at NO
 rw[hv]at VO
 rw[ho]at SO
 clear hc hn hv ho
 generalize Bc n f=qu at *
 have hne:=uH he
 obtain⟨m,hm⟩:∃m,xs.length=m:=⟨_,rfl⟩
 rw[hm]at K HA SO hw0⊢
 clear hm ha G0 C0
 go_enter Tryz.func92,Tryz.ntmps92
 go_upto_region 1 with fail
 clear hw0
 have bA:Below w0.heap.size w0 w0.drew:=Below.drew (Below.refl _ _)
 refine wp_region_noPanic ?_
 refine wp_region_held_drew (S:=fun w'=>Below w0.heap.size w0 w'∧(w'.cell? ⟨w.heap.size,0,none⟩=some (.int .i64 n)∧w'.cell? ⟨w.heap.size,1,none⟩=some (.int .i64 f))∧(w'.cell? ⟨w.heap.size+1,0,none⟩=some (.int .i64 v)∧w'.cell? ⟨w.heap.size+1,1,none⟩=some (.string s)∧w'.cell? ⟨w.heap.size+1,2,none⟩=some (.slice ao m ca))) (by kernel_rfl) (K.out _ bA) (fun hHeld=>?_)
 refine tx 0 5 ?_
 refine rd 1 rfl (fun KK AA=>?_)
 go_simp
 have hgo:=bA
 refine(CO.out _).mono ?_
 rintro e MJ ⟨rfl,bb⟩
 have bB:Below w0.heap.size w0 MJ:=bu bA bb
 clear bA hgo bb hHeld
 refine AA.out _ _ (K.out _ bB) (fun hHeld=>?_)
 clear AA KK
 refine tx 2 7 ?_
 refine tx 3 8 ?_
 refine tx 4 9 ?_
 refine tx 5 10 ?_
 refine rd 6 rfl (fun KK AA=>?_)
 go_simp
 have hgo:=bB
 refine(NO.out _).mono ?_
 rintro e Q8 ⟨rfl,bb⟩
 have bC:Below w0.heap.size w0 Q8:=bu bB bb
 clear bB hgo bb hHeld
 refine AA.out _ _ (K.out _ bC) (fun hHeld=>?_)
 clear AA KK
 refine tx 7 12 ?_
 refine tx 8 13 ?_
 refine tx 9 14 ?_
 refine tx 10 15 ?_
 refine tx 11 16 ?_
 refine tx 13 18 ?_
 refine tx 14 19 ?_
 refine rd 12 rfl (fun KK AA=>?_)
 go_simp
 have hgo:=bC
 refine(VO.out _).mono ?_
 rintro e Ej ⟨rfl,bb⟩
 have bD:Below w0.heap.size w0 Ej:=bu bC bb
 clear bC hgo bb hHeld
 refine AA.out _ _ (K.out _ bD) (fun hHeld=>?_)
 clear AA KK
 refine tx 15 20 ?_
 refine tx 16 21 ?_
 clear hHeld
 refine Bt ?_
 have B1:Below w.heap.size w Ej:=bu B0 bD
 have K1:=K.out _ bD
 try dsimp only at K1
 obtain⟨_,⟨c0,c1⟩,⟨g0,g1,g2⟩⟩:=K1
 have K5:Hid (∀w',Below Ej.heap.size Ej w'→(fun w'=>Below Ej.heap.size Ej w'∧(w'.cell? ⟨w.heap.size,0,none⟩=some (.int .i64 n)∧w'.cell? ⟨w.heap.size,1,none⟩=some (.int .i64 f))∧(w'.cell? ⟨w.heap.size+1,0,none⟩=some (.int .i64 v)∧w'.cell? ⟨w.heap.size+1,1,none⟩=some (.string s)∧w'.cell? ⟨w.heap.size+1,2,none⟩=some (.slice ao m ca))) w'):=hide fun w' hb'=>⟨hb',(K.out _ (bD.trans (hb'.mono bD.size))).2⟩
 have xm:=hide (HA.out.below bD)
 clear NO VO CO K HA he
 go_upto_region 5 with fail
 clear c0 c1 g0 g1 g2
 have bA:Below Ej.heap.size Ej Ej.drew:=Below.drew (Below.refl _ _)
 refine wp_region_noPanic ?_
 refine wp_region_held_drew (S:=fun w'=>Below Ej.heap.size Ej w'∧(w'.cell? ⟨w.heap.size,0,none⟩=some (.int .i64 n)∧w'.cell? ⟨w.heap.size,1,none⟩=some (.int .i64 f))∧(w'.cell? ⟨w.heap.size+1,0,none⟩=some (.int .i64 v)∧w'.cell? ⟨w.heap.size+1,1,none⟩=some (.string s)∧w'.cell? ⟨w.heap.size+1,2,none⟩=some (.slice ao m ca))) (by kernel_rfl) (K5.out _ bA) (fun hHeld=>?_)
 refine tx 0 29 ?_
 refine tx 1 30 ?_
 refine tx 2 31 ?_
 refine tx 3 32 ?_
 refine rd 4 rfl (fun KK AA=>?_)
 go_simp
 have hgo:=bA
 refine(SO.out _ (xm.out.below hgo)).mono ?_
 rintro e uU ⟨rfl,bb⟩
 have bF:Below Ej.heap.size Ej uU:=bu bA bb
 clear bA hgo bb hHeld
 refine AA.out _ _ (K5.out _ bF) (fun hHeld=>?_)
 clear AA KK
 refine tx 5 34 ?_
 refine sx 6 35 ?_
 refine sx 7 36 ?_
 refine sx 8 37 ?_
 refine sx 9 38 ?_
 refine sx 10 39 ?_
 refine sx 11 40 ?_
 refine tx 12 41 ?_
 refine tx 13 4 ?_
 clear hHeld
 refine Bt ?_
 go_wp2
 go_ret
 exact⟨rfl,bu B1 bF⟩

theorem XP(n f v:Int)(s:ByteArray)(ao:Option Addr)(ca:Nat)(xs:List Int)(w:World)(hs:s.size≤1048576)(ha:RI w (.slice ao xs.length ca) xs)(hc:decide (A8 n f)=true)(hn:(AQ s).isSome=true)(hv:Aq s=v)(he:s≠⟨#[]⟩)(ho:decide (Dt n xs)=true)(hq:Bc n f≤(xs.length:Int)):
 Calls Tryz.prog 92 #[cv n f,qv v s (.slice ao xs.length ca)] w fun e w'=>e= .returned (.bool (true))∧Below w.heap.size w w':=by
 have CO:=hide fun w=>Ba n f w
 have NO:=hide fun w=>CV s w (by omega)
 have VO:=hide fun w=>Db s w (by omega)
 have QU:=hide fun w=>Dv n f w
 have SO:=hide fun w h=>D5 n (.slice ao xs.length ca) xs w h
 obtain⟨w0,hw0⟩:∃w0,(w.alloc (.cells #[.int .i64 n,.int .i64 f] 57)).alloc (.cells #[.int .i64 v,.string s,.slice ao xs.length ca] 46)=w0:=⟨_,rfl⟩
 have B0:Below w.heap.size w w0:=hw0▸Bh _ _ _
 have C0:Loc w0 w.heap.size #[.int .i64 n,.int .i64 f]:=hw0▸(AB w _ _ rfl).alloc _
 have G0:Loc w0 (w.heap.size+1) #[.int .i64 v,.string s,.slice ao xs.length ca]:=hw0▸AB (w.alloc _) _ _ (by simp)
 have HA:=hide (ha.below B0)
 have K:=kw (ka (Ia C0 0 1) (VN G0 0 1 2))
 rw[hc]at CO
 rw[hn]at NO
 rw[hv]at VO
 rw[ho]at SO
 clear hc hn hv ho
 generalize Bc n f=qu at *
 have hne:=uH he
 obtain⟨m,hm⟩:∃m,xs.length=m:=⟨_,rfl⟩
 rw[hm]at K HA SO hw0 hq⊢
 clear hm
 have d4:decide (qu≤(m:Int))=true:=by simpa using hq
 clear ha G0 C0
 go_enter Tryz.func92,Tryz.ntmps92
 go_upto_region 1 with fail
 clear hw0
 have bA:Below w0.heap.size w0 w0.drew:=Below.drew (Below.refl _ _)
 refine wp_region_noPanic ?_
 refine wp_region_held_drew (S:=fun w'=>Below w0.heap.size w0 w'∧(w'.cell? ⟨w.heap.size,0,none⟩=some (.int .i64 n)∧w'.cell? ⟨w.heap.size,1,none⟩=some (.int .i64 f))∧(w'.cell? ⟨w.heap.size+1,0,none⟩=some (.int .i64 v)∧w'.cell? ⟨w.heap.size+1,1,none⟩=some (.string s)∧w'.cell? ⟨w.heap.size+1,2,none⟩=some (.slice ao m ca))) (by kernel_rfl) (K.out _ bA) (fun hHeld=>?_)
 refine tx 0 5 ?_
 refine rd 1 rfl (fun KK AA=>?_)
 go_simp
 have hgo:=bA
 refine(CO.out _).mono ?_
 rintro e MJ ⟨rfl,bb⟩
 have bB:Below w0.heap.size w0 MJ:=bu bA bb
 clear bA hgo bb hHeld
 refine AA.out _ _ (K.out _ bB) (fun hHeld=>?_)
 clear AA KK
 refine tx 2 7 ?_
 refine tx 3 8 ?_
 refine tx 4 9 ?_
 refine tx 5 10 ?_
 refine rd 6 rfl (fun KK AA=>?_)
 go_simp
 have hgo:=bB
 refine(NO.out _).mono ?_
 rintro e Q8 ⟨rfl,bb⟩
 have bC:Below w0.heap.size w0 Q8:=bu bB bb
 clear bB hgo bb hHeld
 refine AA.out _ _ (K.out _ bC) (fun hHeld=>?_)
 clear AA KK
 refine tx 7 12 ?_
 refine tx 8 13 ?_
 refine tx 9 14 ?_
 refine tx 10 15 ?_
 refine tx 11 16 ?_
 refine tx 13 18 ?_
 refine tx 14 19 ?_
 refine rd 12 rfl (fun KK AA=>?_)
 go_simp
 have hgo:=bC
 refine(VO.out _).mono ?_
 rintro e Ej ⟨rfl,bb⟩
 have bD:Below w0.heap.size w0 Ej:=bu bC bb
 clear bC hgo bb hHeld
 refine AA.out _ _ (K.out _ bD) (fun hHeld=>?_)
 clear AA KK
 refine tx 15 20 ?_
 refine tx 16 21 ?_
 clear hHeld
 refine Bt ?_
 have B1:Below w.heap.size w Ej:=bu B0 bD
 have K1:=K.out _ bD
 try dsimp only at K1
 obtain⟨_,⟨c0,c1⟩,⟨g0,g1,g2⟩⟩:=K1
 have K5:Hid (∀w',Below Ej.heap.size Ej w'→(fun w'=>Below Ej.heap.size Ej w'∧(w'.cell? ⟨w.heap.size,0,none⟩=some (.int .i64 n)∧w'.cell? ⟨w.heap.size,1,none⟩=some (.int .i64 f))∧(w'.cell? ⟨w.heap.size+1,0,none⟩=some (.int .i64 v)∧w'.cell? ⟨w.heap.size+1,1,none⟩=some (.string s)∧w'.cell? ⟨w.heap.size+1,2,none⟩=some (.slice ao m ca))) w'):=hide fun w' hb'=>⟨hb',(K.out _ (bD.trans (hb'.mono bD.size))).2⟩
 have xm:=hide (HA.out.below bD)
 clear NO VO CO K HA he
 go_upto_region 5 with fail
 clear c0 c1 g0 g1 g2
 have bA:Below Ej.heap.size Ej Ej.drew:=Below.drew (Below.refl _ _)
 refine wp_region_noPanic ?_
 refine wp_region_held_drew (S:=fun w'=>Below Ej.heap.size Ej w'∧(w'.cell? ⟨w.heap.size,0,none⟩=some (.int .i64 n)∧w'.cell? ⟨w.heap.size,1,none⟩=some (.int .i64 f))∧(w'.cell? ⟨w.heap.size+1,0,none⟩=some (.int .i64 v)∧w'.cell? ⟨w.heap.size+1,1,none⟩=some (.string s)∧w'.cell? ⟨w.heap.size+1,2,none⟩=some (.slice ao m ca))) (by kernel_rfl) (K5.out _ bA) (fun hHeld=>?_)
 refine tx 0 29 ?_
 refine tx 1 30 ?_
 refine tx 2 31 ?_
 refine tx 3 32 ?_
 refine rd 4 rfl (fun KK AA=>?_)
 go_simp
 have hgo:=bA
 refine(SO.out _ (xm.out.below hgo)).mono ?_
 rintro e uU ⟨rfl,bb⟩
 have bF:Below Ej.heap.size Ej uU:=bu bA bb
 clear bA hgo bb hHeld
 refine AA.out _ _ (K5.out _ bF) (fun hHeld=>?_)
 clear AA KK
 refine tx 5 34 ?_
 refine tx 6 35 ?_
 refine tx 7 36 ?_
 refine tx 8 37 ?_
 refine tx 9 38 ?_
 refine rd 10 rfl (fun KK AA=>?_)
 go_simp
 have hgo:=bF
 refine(QU.out _).mono ?_
 rintro e zn ⟨rfl,bb⟩
 have bG:Below Ej.heap.size Ej zn:=bu bF bb
 clear bF hgo bb hHeld
 refine AA.out _ _ (K5.out _ bG) (fun hHeld=>?_)
 clear AA KK
 refine tx 11 40 ?_
 refine tx 12 41 ?_
 refine tx 13 4 ?_
 clear hHeld
 refine Bt ?_
 go_wp2
 go_ret
 exact⟨rfl,bu B1 bG⟩

theorem XO(n f v:Int)(s:ByteArray)(ao:Option Addr)(ca:Nat)(xs:List Int)(w:World)(hs:s.size≤1048576)(ha:RI w (.slice ao xs.length ca) xs)(hc:decide (A8 n f)=true)(hn:(AQ s).isSome=true)(hv:Aq s=v)(he:s≠⟨#[]⟩)(ho:decide (Dt n xs)=true)(hq:¬Bc n f≤(xs.length:Int)):
 Calls Tryz.prog 92 #[cv n f,qv v s (.slice ao xs.length ca)] w fun e w'=>e= .returned (.bool (false))∧Below w.heap.size w w':=by
 have CO:=hide fun w=>Ba n f w
 have NO:=hide fun w=>CV s w (by omega)
 have VO:=hide fun w=>Db s w (by omega)
 have QU:=hide fun w=>Dv n f w
 have SO:=hide fun w h=>D5 n (.slice ao xs.length ca) xs w h
 obtain⟨w0,hw0⟩:∃w0,(w.alloc (.cells #[.int .i64 n,.int .i64 f] 57)).alloc (.cells #[.int .i64 v,.string s,.slice ao xs.length ca] 46)=w0:=⟨_,rfl⟩
 have B0:Below w.heap.size w w0:=hw0▸Bh _ _ _
 have C0:Loc w0 w.heap.size #[.int .i64 n,.int .i64 f]:=hw0▸(AB w _ _ rfl).alloc _
 have G0:Loc w0 (w.heap.size+1) #[.int .i64 v,.string s,.slice ao xs.length ca]:=hw0▸AB (w.alloc _) _ _ (by simp)
 have HA:=hide (ha.below B0)
 have K:=kw (ka (Ia C0 0 1) (VN G0 0 1 2))
 rw[hc]at CO
 rw[hn]at NO
 rw[hv]at VO
 rw[ho]at SO
 clear hc hn hv ho
 generalize Bc n f=qu at *
 have hne:=uH he
 obtain⟨m,hm⟩:∃m,xs.length=m:=⟨_,rfl⟩
 rw[hm]at K HA SO hw0 hq⊢
 clear hm
 have d4:decide (qu≤(m:Int))=false:=by simpa using hq
 clear ha G0 C0
 go_enter Tryz.func92,Tryz.ntmps92
 go_upto_region 1 with fail
 clear hw0
 have bA:Below w0.heap.size w0 w0.drew:=Below.drew (Below.refl _ _)
 refine wp_region_noPanic ?_
 refine wp_region_held_drew (S:=fun w'=>Below w0.heap.size w0 w'∧(w'.cell? ⟨w.heap.size,0,none⟩=some (.int .i64 n)∧w'.cell? ⟨w.heap.size,1,none⟩=some (.int .i64 f))∧(w'.cell? ⟨w.heap.size+1,0,none⟩=some (.int .i64 v)∧w'.cell? ⟨w.heap.size+1,1,none⟩=some (.string s)∧w'.cell? ⟨w.heap.size+1,2,none⟩=some (.slice ao m ca))) (by kernel_rfl) (K.out _ bA) (fun hHeld=>?_)
 refine tx 0 5 ?_
 refine rd 1 rfl (fun KK AA=>?_)
 go_simp
 have hgo:=bA
 refine(CO.out _).mono ?_
 rintro e MJ ⟨rfl,bb⟩
 have bB:Below w0.heap.size w0 MJ:=bu bA bb
 clear bA hgo bb hHeld
 refine AA.out _ _ (K.out _ bB) (fun hHeld=>?_)
 clear AA KK
 refine tx 2 7 ?_
 refine tx 3 8 ?_
 refine tx 4 9 ?_
 refine tx 5 10 ?_
 refine rd 6 rfl (fun KK AA=>?_)
 go_simp
 have hgo:=bB
 refine(NO.out _).mono ?_
 rintro e Q8 ⟨rfl,bb⟩
 have bC:Below w0.heap.size w0 Q8:=bu bB bb
 clear bB hgo bb hHeld
 refine AA.out _ _ (K.out _ bC) (fun hHeld=>?_)
 clear AA KK
 refine tx 7 12 ?_
 refine tx 8 13 ?_
 refine tx 9 14 ?_
 refine tx 10 15 ?_
 refine tx 11 16 ?_
 refine tx 13 18 ?_
 refine tx 14 19 ?_
 refine rd 12 rfl (fun KK AA=>?_)
 go_simp
 have hgo:=bC
 refine(VO.out _).mono ?_
 rintro e Ej ⟨rfl,bb⟩
 have bD:Below w0.heap.size w0 Ej:=bu bC bb
 clear bC hgo bb hHeld
 refine AA.out _ _ (K.out _ bD) (fun hHeld=>?_)
 clear AA KK
 refine tx 15 20 ?_
 refine tx 16 21 ?_
 clear hHeld
 refine Bt ?_
 have B1:Below w.heap.size w Ej:=bu B0 bD
 have K1:=K.out _ bD
 try dsimp only at K1
 obtain⟨_,⟨c0,c1⟩,⟨g0,g1,g2⟩⟩:=K1
 have K5:Hid (∀w',Below Ej.heap.size Ej w'→(fun w'=>Below Ej.heap.size Ej w'∧(w'.cell? ⟨w.heap.size,0,none⟩=some (.int .i64 n)∧w'.cell? ⟨w.heap.size,1,none⟩=some (.int .i64 f))∧(w'.cell? ⟨w.heap.size+1,0,none⟩=some (.int .i64 v)∧w'.cell? ⟨w.heap.size+1,1,none⟩=some (.string s)∧w'.cell? ⟨w.heap.size+1,2,none⟩=some (.slice ao m ca))) w'):=hide fun w' hb'=>⟨hb',(K.out _ (bD.trans (hb'.mono bD.size))).2⟩
 have xm:=hide (HA.out.below bD)
 clear NO VO CO K HA he
 go_upto_region 5 with fail
 clear c0 c1 g0 g1 g2
 have bA:Below Ej.heap.size Ej Ej.drew:=Below.drew (Below.refl _ _)
 refine wp_region_noPanic ?_
 refine wp_region_held_drew (S:=fun w'=>Below Ej.heap.size Ej w'∧(w'.cell? ⟨w.heap.size,0,none⟩=some (.int .i64 n)∧w'.cell? ⟨w.heap.size,1,none⟩=some (.int .i64 f))∧(w'.cell? ⟨w.heap.size+1,0,none⟩=some (.int .i64 v)∧w'.cell? ⟨w.heap.size+1,1,none⟩=some (.string s)∧w'.cell? ⟨w.heap.size+1,2,none⟩=some (.slice ao m ca))) (by kernel_rfl) (K5.out _ bA) (fun hHeld=>?_)
 refine tx 0 29 ?_
 refine tx 1 30 ?_
 refine tx 2 31 ?_
 refine tx 3 32 ?_
 refine rd 4 rfl (fun KK AA=>?_)
 go_simp
 have hgo:=bA
 refine(SO.out _ (xm.out.below hgo)).mono ?_
 rintro e uU ⟨rfl,bb⟩
 have bF:Below Ej.heap.size Ej uU:=bu bA bb
 clear bA hgo bb hHeld
 refine AA.out _ _ (K5.out _ bF) (fun hHeld=>?_)
 clear AA KK
 refine tx 5 34 ?_
 refine tx 6 35 ?_
 refine tx 7 36 ?_
 refine tx 8 37 ?_
 refine tx 9 38 ?_
 refine rd 10 rfl (fun KK AA=>?_)
 go_simp
 have hgo:=bF
 refine(QU.out _).mono ?_
 rintro e zn ⟨rfl,bb⟩
 have bG:Below Ej.heap.size Ej zn:=bu bF bb
 clear bF hgo bb hHeld
 refine AA.out _ _ (K5.out _ bG) (fun hHeld=>?_)
 clear AA KK
 refine tx 11 40 ?_
 refine tx 12 41 ?_
 refine tx 13 4 ?_
 clear hHeld
 refine Bt ?_
 go_wp2
 go_ret
 exact⟨rfl,bu B1 bG⟩

theorem Fh(n f v:Int)(s:ByteArray)(ao:Option Addr)(ca:Nat)(xs:List Int)(w:World)(hs:s.size≤1048576)(ha:RI w (.slice ao xs.length ca) xs):
 Calls Tryz.prog 92 #[cv n f,qv v s (.slice ao xs.length ca)] w fun e w'=>e= .returned (.bool (Ga n f v s xs))∧Below w.heap.size w w':=by
 unfold Ga
 have hxe:decide (xs=[])=((xs.length:Int)==0):=by cases xs with|nil=>rfl|cons a l=>simp;omega
 rw[hxe]
 clear hxe
 cases hc:decide (A8 n f)with
 |false=>simpa using XV n f v s ao ca xs w hs ha hc
 | true=>
  cases hn:(AQ s).isSome with
  |false=>simpa using XU n f v s ao ca xs w hs ha hc hn
  | true=>
   by_cases hv:Aq s=v
   ·have d2:(Aq s==v)=true:=by simpa using hv
    rw[d2]
    by_cases he:s=⟨#[]⟩
    ·rw[if_pos he];simpa only[Bool.true_and]using XR n f v s ao ca xs w hs ha hc hn hv he
    rw[if_neg he]
    cases ho:decide (Dt n xs)with
    |false=>simpa only[Bool.true_and,Bool.false_and]using XQ n f v s ao ca xs w hs ha hc hn hv he ho
    |true=>
     by_cases hq:Bc n f≤(xs.length:Int)
     ·rw[decide_eq_true hq];simpa only[Bool.true_and]using XP n f v s ao ca xs w hs ha hc hn hv he ho hq
     rw[decide_eq_false hq];simpa only[Bool.true_and]using XO n f v s ao ca xs w hs ha hc hn hv he ho hq
   have d2:(Aq s==v)=false:=by simpa using hv
   rw[d2];simpa only[Bool.true_and,Bool.false_and]using XT n f v s ao ca xs w hs ha hc hn hv
end
section
open Go.RowKit
structure j_(w:World)(ao:Option Addr)(xs:List Int):Prop where
 len:xs.length≤1048576
 code:xs=[]∨∃b off,ao=some ⟨b,off,none⟩∧∀k,k<xs.length→w.cell? ⟨b,off+k,none⟩=some (.int .u8 (xs.getD k 0))
 fit:∀k,k<xs.length→0≤xs.getD k 0∧xs.getD k 0≤255
theorem j_.below{w w':World}{ao:Option Addr}{xs:List Int}(h:j_ w ao xs)(hb:Below w.heap.size w w'):j_ w' ao xs:=by
 refine⟨h.len,?_,h.fit⟩
 rcases h.code with h'|⟨b,off,ha,hx⟩
 ·exact .inl h'
 exact .inr ⟨b,off,ha,fun k hk=>(hb.cell (p:=⟨b,off+k,none⟩) (AY (hx k hk))).trans (hx k hk)⟩
theorem JE.sub{xs ys:List Int}(h:JE xs)(hs:∀y ∈ ys,y ∈ xs):JE ys:=fun y hy=>h y (hs y hy)
end
section
open Go.RowKit
variable [∀(a b c d:Int),Decidable (BD a b c d)]
variable [∀(a b c d:Nat),Decidable (Dj a b c d)]
variable [∀(last:Int)(s:St),Decidable (Au last s)]
variable [∀(x:T4),Decidable (Dr x)]
variable [∀(n:Int)(s:List Int),Decidable (Dt n s)]
variable [∀(n f:Int),Decidable (A8 n f)]
theorem Kw:AQ ⟨#[]⟩=some []:=by simp[AQ]
theorem gL:Aq ⟨#[]⟩=0:=by simp[Aq,Kw]
theorem QL{s:ByteArray}(h:(AQ s).isSome=false):Aq s=0:=by
 cases e:AQ s with
 |none=>simp[Aq,e]
 |some ss=>rw[e]at h;cases h
theorem gK{s:ByteArray}(h:(AQ s).isSome=true)(hs:s≠⟨#[]⟩):0<Aq s:=by
 obtain⟨ss,e⟩:=Option.isSome_iff_exists.1 h
 have h1:=(Vl (s:=s)).1
 unfold Be at h1
 rw[e]at h1
 have hne:ss≠[]:=by
  rintro rfl
  have:=((Cc _ _).1 e).1
  exact hs (Tc (by simpa[nm]using this))
 have:=List.length_pos_iff.2 hne
 simp only at h1
 omega
theorem rO(n f v:Int)(s:ByteArray)(xs:List Int):(decide (A8 n f)&&(BM v 0 s ⟨#[]⟩ xs []||JV n f v s xs))=Ga n f v s xs:=by
 unfold Ga JV BM
 by_cases hc:A8 n f
 ·simp only[hc,decide_true,Bool.true_and]
  by_cases hs:s=⟨#[]⟩
  ·subst hs
   rw[Kw,gL]
   by_cases hv:v=0
   ·subst hv
    simp
   have h1:(v==0)=false:=by simpa using hv
   have h2:((0:Int)==v)=false:=by simp;omega
   simp[h1,h2,hv]
  simp only[hs,false_and,and_false,decide_false,Bool.false_or,if_false]
  cases hn:(AQ s).isSome with
  | false=>
   rw[QL hn]
   by_cases hv:v=0
   ·subst hv;simp
   ·have h1:(v==0)=false:=by simpa using hv
    simp[h1]
  | true=>
   have hp:=gK hn hs
   by_cases hv:v=Aq s
   ·subst hv
    have h1:decide (0<Aq s)=true:=by simpa using hp
    simp only[h1,beq_self_eq_true,Bool.true_and]
    rw[Bool.and_comm]
   have h1:(v==Aq s)=false:=by simpa using hv
   have h2:(Aq s==v)=false:=by simp;omega
   simp[h1,h2]
 simp[hc]
theorem Oy(n f v:Int)(s:ByteArray)(ao:Option Addr)(ca:Nat)(xs:List Int)(w:World)(hs:s.size≤33554432)(hE:Env w)(ha:RI w (.slice ao xs.length ca) xs):
 Calls Tryz.prog 122 #[cv n f,qv v s (.slice ao xs.length ca)] w fun e w'=>e= .returned (.bool (Ga n f v s xs))∧Below w.heap.size w w':=by
 have:=VV n f v s ao ca xs w hs hE ha
 rwa [rO]at this
def V8(n f:Int)(m:ByteArray)(v:Int)(s:ByteArray)(xs:List Int):Bool:=Ga n f v s xs&&decide (0<Be m)&&decide (FM m=s)
theorem YO(m:ByteArray):decide (0<Be m)=((AQ m).isSome&&decide (m≠⟨#[]⟩)):=by
 unfold Be
 cases e:AQ m with
 |none=>simp
 | some ss=>
  have h:=((Cc _ _).1 e).1
  by_cases hm:m=⟨#[]⟩
  ·subst hm
   rw[Kw]at e
   cases e
   simp
  have hne:ss≠[]:=by
   rintro rfl
   exact hm (Tc (by simpa[nm]using h))
  have:=List.length_pos_iff.2 hne
  simp[hm]
  omega
end
section
open Go.RowKit
variable [∀(a b c d:Int),Decidable (BD a b c d)]
variable [∀(a b c d:Nat),Decidable (Dj a b c d)]
variable [∀(x:T4),Decidable (Dr x)]
theorem OT.grown{w w':World}{base g:Nat}{v:Value}{xs:List T4}(h:OT w base v xs)(hg:w.grownBy w' (some g))(hlt:g<base):OT w' base v xs:=
 World.ownsRow.kept h hg (by
  cases hv:v.ownBlock with
  |none=>exact .inl rfl
  |some k=>exact .inr fun e=>by have:=(World.ownsRow.lt h k hv).1;simp at e;omega)
end
section
open Go.RowKit
variable [∀(a b c d:Int),Decidable (BD a b c d)]
variable [∀(a b c d:Nat),Decidable (Dj a b c d)]
variable [∀(last:Int)(s:St),Decidable (Au last s)]
variable [∀(x:T4),Decidable (Dr x)]
variable [∀(n:Int)(s:List Int),Decidable (Dt n s)]
variable [∀(n f:Int),Decidable (A8 n f)]
def VS(x:Int):Bool:=decide (0≤x)&&decide (x≤60)
def Kz(n f vo lo v:Int)(s:ByteArray)(xs:List Int)(d:ByteArray):Bool:=VS vo&&VS lo&&Ga n f v s xs&&(AQ d).isSome
theorem Uh{n f vo lo v:Int}{s:ByteArray}{xs:List Int}{d:ByteArray}(h:Kz n f vo lo v s xs d=true):(0≤vo∧vo≤60)∧(0≤lo∧lo≤60)∧Ga n f v s xs=true∧(AQ d).isSome=true:=by
 unfold Kz VS at h
 simp only[Bool.and_eq_true,decide_eq_true_eq]at h
 obtain⟨⟨⟨⟨a,b⟩,⟨c,e⟩⟩,q⟩,g⟩:=h
 exact⟨⟨a,b⟩,⟨c,e⟩,q,g⟩
def WG(xs:List Int)(p q:Int):Prop:=q=p∨(0≤q∧q≤xs.length)
theorem WG.trans{xs:List Int}{p q r:Int}(h:WG xs p q)(k:WG xs q r):WG xs p r:=by unfold WG at *; omega
theorem Kp.over{a b c:World}{X Y:Nat→Prop}(h:Kp a b X)(k:Kp b c Y)(hy:∀j,Y j→a.heap.size≤j∨X j):Kp a c X:=
 ⟨k.os.trans h.os,k.tape.trans h.tape,k.output.trans h.output,Nat.le_trans h.size k.size,fun i hi hx=>(k.block i (Nat.lt_of_lt_of_le hi h.size) (fun hj=>by rcases hy i hj with h1|h1<;>first|omega|exact hx h1)).trans (h.block i hi hx)⟩
end
end Go.Proofs.YtkmnfeihjjccmaaGreatDoor
