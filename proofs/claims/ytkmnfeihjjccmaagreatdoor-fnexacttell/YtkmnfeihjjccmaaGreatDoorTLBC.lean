/- Lemmas; their conditions stand in each statement. -/
import Derived.Test.YtkmnfeihjjccmaaGreatDoorTLBB
set_option maxRecDepth 100000
set_option maxHeartbeats 16000000
set_option linter.unusedSectionVars false
namespace Go.Proofs.YtkmnfeihjjccmaaGreatDoor
section
open Go.RowKit
variable [∀(a b c d:Int),Decidable (BD a b c d)]
variable [∀(a b c d:Nat),Decidable (Dj a b c d)]
variable [∀(last:Int)(s:St),Decidable (Au last s)]
variable [∀(x:T4),Decidable (Dr x)]
variable [∀(n:Int)(s:List Int),Decidable (Dt n s)]
variable [∀(n f:Int),Decidable (A8 n f)]
theorem ZF{s t:ByteArray}(h:s=t):(s.toList==t.toList)=true:=by simp[h]
theorem Vd(n f:Int)(m:ByteArray)(v:Int)(s:ByteArray)(ao:Option Addr)(ca:Nat)(xs:List Int)(w:World)(hm:m.size≤33554432)(hs:s.size≤33554432)(hE:Env w)(ha:RI w (.slice ao xs.length ca) xs):
 Calls Tryz.prog 261 #[cv n f,bv m v s (.slice ao xs.length ca)] w fun e w'=>e= .returned (.bool (V8 n f m v s xs))∧Below w.heap.size w w':=by
 obtain⟨w0,hw0,AO,LC,LB,_⟩:=GM w #[.int .i64 n,.int .i64 f] 57 #[.string m,.int .i64 v,.string s,.slice ao xs.length ca] 61
 have OK:=hide fun w'(b:Below w0.heap.size w0 w')=>Oy n f v s ao ca xs w' hs ((hE.below AO).below b) ((ha.below AO).below b)
 have HT:=hide fun w'(b:Below w0.heap.size w0 w')=>O6 m w' hm ((hE.below AO).below b)
 have UP:=hide fun w'(b:Below w0.heap.size w0 w')=>jE m w' hm ((hE.below AO).below b)
 have hB:V8 n f m v s xs=(Ga n f v s xs&&decide (0<Be m)&&decide (FM m=s)):=rfl
 rw[hB]
 clear hB ha hE
 generalize Ga n f v s xs=q at *
 generalize Be m=k at *
 generalize FM m=u at *
 cases q
 ·simp only[Bool.false_and]
  go_enter Tryz.func261,Tryz.ntmps261
  have K:=kw (ka (Ia LC 0 1) (iq LB 0 1 2 3))
  go_upto_region 1 with fail
  clear hw0
  refine Ey K (fun bA hHeld=>?_)
  refine tx 0 5 ?_
  refine tx 1 6 ?_
  refine tx 2 7 ?_
  refine rd 3 rfl (fun KK AA=>?_)
  go_simp
  have hgo:=bA
  refine(OK.out _ hgo).mono ?_
  rintro e DY ⟨rfl,bb⟩
  have Ao:Below w0.heap.size w0 DY:=bu bA bb
  clear bA hgo bb hHeld
  refine AA.out _ _ (K.out _ Ao) (fun hHeld=>?_)
  clear AA KK
  refine tx 4 9 ?_
  refine sx 5 10 ?_
  refine sx 6 11 ?_
  refine sx 7 12 ?_
  refine sx 8 13 ?_
  refine tx 9 14 ?_
  refine tx 10 15 ?_
  refine sx 11 16 ?_
  refine sx 14 19 ?_
  refine sx 12 17 ?_
  refine sx 15 20 ?_
  refine sx 13 18 ?_
  refine sx 16 21 ?_
  refine sx 17 22 ?_
  refine tx 18 23 ?_
  refine tx 19 4 ?_
  clear hHeld
  refine Bt ?_
  have bb:=Ao
  have Pf:=bu AO bb
  have gY:=bb.size
  replace LC:=LC.up bb
  replace LB:=LB.up bb
  clear AO bb Ao K
  go_wp2
  go_ret
  exact⟨rfl,Pf⟩
 simp only[Bool.true_and]
 by_cases hk:0<k
 ·have hd:decide (0<k)=true:=by simpa using hk
  rw[hd,Bool.true_and]
  by_cases hu:u=s
  ·have hv:decide (u=s)=true:=by simpa using hu
   have hy:=ZF hu
   rw[hv]
   clear hu hv
   go_enter Tryz.func261,Tryz.ntmps261
   have K:=kw (ka (Ia LC 0 1) (iq LB 0 1 2 3))
   go_upto_region 1 with fail
   clear hw0
   refine Ey K (fun bA hHeld=>?_)
   refine tx 0 5 ?_
   refine tx 1 6 ?_
   refine tx 2 7 ?_
   refine rd 3 rfl (fun KK AA=>?_)
   go_simp
   have hgo:=bA
   refine(OK.out _ hgo).mono ?_
   rintro e DY ⟨rfl,bb⟩
   have Ao:Below w0.heap.size w0 DY:=bu bA bb
   clear bA hgo bb hHeld
   refine AA.out _ _ (K.out _ Ao) (fun hHeld=>?_)
   clear AA KK
   refine tx 4 9 ?_
   refine tx 5 10 ?_
   refine tx 6 11 ?_
   refine rd 7 rfl (fun KK AA=>?_)
   go_simp
   have hgo:=Ao
   refine(HT.out _ hgo).mono ?_
   rintro e Dz ⟨rfl,bb⟩
   have BN:Below w0.heap.size w0 Dz:=bu Ao bb
   clear Ao hgo bb hHeld
   refine AA.out _ _ (K.out _ BN) (fun hHeld=>?_)
   clear AA KK
   refine tx 8 13 ?_
   refine tx 9 14 ?_
   refine tx 10 15 ?_
   refine tx 11 16 ?_
   refine tx 14 19 ?_
   refine tx 12 17 ?_
   refine tx 15 20 ?_
   refine tx 16 21 ?_
   refine rd 13 rfl (fun KK AA=>?_)
   go_simp
   have hgo:=BN
   refine(UP.out _ hgo).mono ?_
   rintro e JI ⟨rfl,bb⟩
   have Fe:Below w0.heap.size w0 JI:=bu BN bb
   clear BN hgo bb hHeld
   refine AA.out _ _ (K.out _ Fe) (fun hHeld=>?_)
   clear AA KK
   refine tx 17 22 ?_
   refine tx 18 23 ?_
   refine tx 19 4 ?_
   clear hHeld
   refine Bt ?_
   have bb:=Fe
   have Jw:=bu AO bb
   have XH:=bb.size
   replace LC:=LC.up bb
   replace LB:=LB.up bb
   clear AO bb Fe K
   go_wp2
   go_ret
   exact⟨rfl,Jw⟩
  have hv:decide (u=s)=false:=by simpa using hu
  have hy:=EO hu
  rw[hv]
  clear hu hv
  go_enter Tryz.func261,Tryz.ntmps261
  have K:=kw (ka (Ia LC 0 1) (iq LB 0 1 2 3))
  go_upto_region 1 with fail
  clear hw0
  refine Ey K (fun bA hHeld=>?_)
  refine tx 0 5 ?_
  refine tx 1 6 ?_
  refine tx 2 7 ?_
  refine rd 3 rfl (fun KK AA=>?_)
  go_simp
  have hgo:=bA
  refine(OK.out _ hgo).mono ?_
  rintro e DY ⟨rfl,bb⟩
  have Ao:Below w0.heap.size w0 DY:=bu bA bb
  clear bA hgo bb hHeld
  refine AA.out _ _ (K.out _ Ao) (fun hHeld=>?_)
  clear AA KK
  refine tx 4 9 ?_
  refine tx 5 10 ?_
  refine tx 6 11 ?_
  refine rd 7 rfl (fun KK AA=>?_)
  go_simp
  have hgo:=Ao
  refine(HT.out _ hgo).mono ?_
  rintro e Dz ⟨rfl,bb⟩
  have BN:Below w0.heap.size w0 Dz:=bu Ao bb
  clear Ao hgo bb hHeld
  refine AA.out _ _ (K.out _ BN) (fun hHeld=>?_)
  clear AA KK
  refine tx 8 13 ?_
  refine tx 9 14 ?_
  refine tx 10 15 ?_
  refine tx 11 16 ?_
  refine tx 14 19 ?_
  refine tx 12 17 ?_
  refine tx 15 20 ?_
  refine tx 16 21 ?_
  refine rd 13 rfl (fun KK AA=>?_)
  go_simp
  have hgo:=BN
  refine(UP.out _ hgo).mono ?_
  rintro e JI ⟨rfl,bb⟩
  have Fe:Below w0.heap.size w0 JI:=bu BN bb
  clear BN hgo bb hHeld
  refine AA.out _ _ (K.out _ Fe) (fun hHeld=>?_)
  clear AA KK
  refine tx 17 22 ?_
  refine tx 18 23 ?_
  refine tx 19 4 ?_
  clear hHeld
  refine Bt ?_
  have bb:=Fe
  have Jw:=bu AO bb
  have XH:=bb.size
  replace LC:=LC.up bb
  replace LB:=LB.up bb
  clear AO bb Fe K
  go_wp2
  go_ret
  exact⟨rfl,Jw⟩
 have hd:decide (0<k)=false:=by simpa using hk
 rw[hd,Bool.false_and]
 go_enter Tryz.func261,Tryz.ntmps261
 have K:=kw (ka (Ia LC 0 1) (iq LB 0 1 2 3))
 go_upto_region 1 with fail
 clear hw0
 refine Ey K (fun bA hHeld=>?_)
 refine tx 0 5 ?_
 refine tx 1 6 ?_
 refine tx 2 7 ?_
 refine rd 3 rfl (fun KK AA=>?_)
 go_simp
 have hgo:=bA
 refine(OK.out _ hgo).mono ?_
 rintro e DY ⟨rfl,bb⟩
 have Ao:Below w0.heap.size w0 DY:=bu bA bb
 clear bA hgo bb hHeld
 refine AA.out _ _ (K.out _ Ao) (fun hHeld=>?_)
 clear AA KK
 refine tx 4 9 ?_
 refine tx 5 10 ?_
 refine tx 6 11 ?_
 refine rd 7 rfl (fun KK AA=>?_)
 go_simp
 have hgo:=Ao
 refine(HT.out _ hgo).mono ?_
 rintro e Dz ⟨rfl,bb⟩
 have BN:Below w0.heap.size w0 Dz:=bu Ao bb
 clear Ao hgo bb hHeld
 refine AA.out _ _ (K.out _ BN) (fun hHeld=>?_)
 clear AA KK
 refine tx 8 13 ?_
 refine tx 9 14 ?_
 refine tx 10 15 ?_
 refine sx 11 16 ?_
 refine sx 14 19 ?_
 refine sx 12 17 ?_
 refine sx 15 20 ?_
 refine sx 13 18 ?_
 refine sx 16 21 ?_
 refine sx 17 22 ?_
 refine tx 18 23 ?_
 refine tx 19 4 ?_
 clear hHeld
 refine Bt ?_
 have bb:=BN
 have Jy:=bu AO bb
 have XI:=bb.size
 replace LC:=LC.up bb
 replace LB:=LB.up bb
 clear AO bb BN K
 go_wp2
 go_ret
 exact⟨rfl,Jy⟩

theorem E8(n f:Int)(m:ByteArray)(v:Int)(s:ByteArray)(ao:Option Addr)(ca:Nat)(xs:List Int)(w:World)(hm:m.size≤1048576)(hs:s.size≤1048576)(ha:RI w (.slice ao xs.length ca) xs):
 Calls Tryz.prog 99 #[cv n f,bv m v s (.slice ao xs.length ca)] w fun e w'=>e= .returned (.bool (V8 n f m v s xs))∧Below w.heap.size w w':=by
 obtain⟨w0,hw0,AO,LC,LB,_⟩:=GM w #[.int .i64 n,.int .i64 f] 57 #[.string m,.int .i64 v,.string s,.slice ao xs.length ca] 61
 have OK:=hide fun w'(b:Below w0.heap.size w0 w')=>Fh n f v s ao ca xs w' (by omega) ((ha.below AO).below b)
 have NO:=hide fun w'=>CV m w' (by omega)
 have UP:=hide fun w'=>h_ m w' (by omega)
 have hB:V8 n f m v s xs=(Ga n f v s xs&&((AQ m).isSome&&decide (m≠⟨#[]⟩))&&decide (FM m=s)):=by rw[←YO];rfl
 rw[hB]
 clear hB ha
 generalize Ga n f v s xs=q at *
 generalize (AQ m).isSome=k at *
 generalize FM m=u at *
 cases q
 ·simp only[Bool.false_and]
  go_enter Tryz.func99,Tryz.ntmps99
  have K:=kw (ka (Ia LC 0 1) (iq LB 0 1 2 3))
  go_upto_region 1 with fail
  clear hw0
  refine Ey K (fun bA hHeld=>?_)
  refine tx 0 5 ?_
  refine tx 1 6 ?_
  refine tx 2 7 ?_
  refine rd 3 rfl (fun KK AA=>?_)
  go_simp
  have hgo:=bA
  refine(OK.out _ hgo).mono ?_
  rintro e DY ⟨rfl,bb⟩
  have Ao:Below w0.heap.size w0 DY:=bu bA bb
  clear bA hgo bb hHeld
  refine AA.out _ _ (K.out _ Ao) (fun hHeld=>?_)
  clear AA KK
  refine tx 4 9 ?_
  refine sx 5 10 ?_
  refine sx 6 11 ?_
  refine sx 7 12 ?_
  refine tx 8 13 ?_
  refine tx 9 14 ?_
  refine sx 10 15 ?_
  refine sx 11 16 ?_
  refine sx 12 17 ?_
  refine tx 13 18 ?_
  refine tx 14 19 ?_
  refine sx 15 20 ?_
  refine sx 18 23 ?_
  refine sx 16 21 ?_
  refine sx 19 24 ?_
  refine sx 17 22 ?_
  refine sx 20 25 ?_
  refine sx 21 26 ?_
  refine tx 22 27 ?_
  refine tx 23 4 ?_
  clear hHeld
  refine Bt ?_
  have bb:=Ao
  have Pf:=bu AO bb
  have gY:=bb.size
  replace LC:=LC.up bb
  replace LB:=LB.up bb
  clear AO bb Ao K
  go_wp2
  go_ret
  exact⟨rfl,Pf⟩
 simp only[Bool.true_and]
 cases k
 ·simp only[Bool.false_and]
  go_enter Tryz.func99,Tryz.ntmps99
  have K:=kw (ka (Ia LC 0 1) (iq LB 0 1 2 3))
  go_upto_region 1 with fail
  clear hw0
  refine Ey K (fun bA hHeld=>?_)
  refine tx 0 5 ?_
  refine tx 1 6 ?_
  refine tx 2 7 ?_
  refine rd 3 rfl (fun KK AA=>?_)
  go_simp
  have hgo:=bA
  refine(OK.out _ hgo).mono ?_
  rintro e DY ⟨rfl,bb⟩
  have Ao:Below w0.heap.size w0 DY:=bu bA bb
  clear bA hgo bb hHeld
  refine AA.out _ _ (K.out _ Ao) (fun hHeld=>?_)
  clear AA KK
  refine tx 4 9 ?_
  refine tx 5 10 ?_
  refine tx 6 11 ?_
  refine rd 7 rfl (fun KK AA=>?_)
  go_simp
  have hgo:=Ao
  refine(NO.out _).mono ?_
  rintro e Dz ⟨rfl,bb⟩
  have BN:Below w0.heap.size w0 Dz:=bu Ao bb
  clear Ao hgo bb hHeld
  refine AA.out _ _ (K.out _ BN) (fun hHeld=>?_)
  clear AA KK
  refine tx 8 13 ?_
  refine tx 9 14 ?_
  refine sx 10 15 ?_
  refine sx 11 16 ?_
  refine sx 12 17 ?_
  refine tx 13 18 ?_
  refine tx 14 19 ?_
  refine sx 15 20 ?_
  refine sx 18 23 ?_
  refine sx 16 21 ?_
  refine sx 19 24 ?_
  refine sx 17 22 ?_
  refine sx 20 25 ?_
  refine sx 21 26 ?_
  refine tx 22 27 ?_
  refine tx 23 4 ?_
  clear hHeld
  refine Bt ?_
  have bb:=BN
  have Jy:=bu AO bb
  have XI:=bb.size
  replace LC:=LC.up bb
  replace LB:=LB.up bb
  clear AO bb BN K
  go_wp2
  go_ret
  exact⟨rfl,Jy⟩
 simp only[Bool.true_and]
 by_cases he:m=⟨#[]⟩
 ·have hd:decide (m≠⟨#[]⟩)=false:=by simpa using he
  have hy:(m.toList==[])=true:=by rw[he,ByteArray.toList_eq];rfl
  rw[hd,Bool.false_and]
  clear he hd
  go_enter Tryz.func99,Tryz.ntmps99
  have K:=kw (ka (Ia LC 0 1) (iq LB 0 1 2 3))
  go_upto_region 1 with fail
  clear hw0
  refine Ey K (fun bA hHeld=>?_)
  refine tx 0 5 ?_
  refine tx 1 6 ?_
  refine tx 2 7 ?_
  refine rd 3 rfl (fun KK AA=>?_)
  go_simp
  have hgo:=bA
  refine(OK.out _ hgo).mono ?_
  rintro e DY ⟨rfl,bb⟩
  have Ao:Below w0.heap.size w0 DY:=bu bA bb
  clear bA hgo bb hHeld
  refine AA.out _ _ (K.out _ Ao) (fun hHeld=>?_)
  clear AA KK
  refine tx 4 9 ?_
  refine tx 5 10 ?_
  refine tx 6 11 ?_
  refine rd 7 rfl (fun KK AA=>?_)
  go_simp
  have hgo:=Ao
  refine(NO.out _).mono ?_
  rintro e Dz ⟨rfl,bb⟩
  have BN:Below w0.heap.size w0 Dz:=bu Ao bb
  clear Ao hgo bb hHeld
  refine AA.out _ _ (K.out _ BN) (fun hHeld=>?_)
  clear AA KK
  refine tx 8 13 ?_
  refine tx 9 14 ?_
  refine tx 10 15 ?_
  refine tx 11 16 ?_
  refine tx 12 17 ?_
  refine tx 13 18 ?_
  refine tx 14 19 ?_
  refine sx 15 20 ?_
  refine sx 18 23 ?_
  refine sx 16 21 ?_
  refine sx 19 24 ?_
  refine sx 17 22 ?_
  refine sx 20 25 ?_
  refine sx 21 26 ?_
  refine tx 22 27 ?_
  refine tx 23 4 ?_
  clear hHeld
  refine Bt ?_
  have bb:=BN
  have Jy:=bu AO bb
  have XI:=bb.size
  replace LC:=LC.up bb
  replace LB:=LB.up bb
  clear AO bb BN K
  go_wp2
  go_ret
  exact⟨rfl,Jy⟩
 have hd:decide (m≠⟨#[]⟩)=true:=by simpa using he
 have hne:=uH he
 rw[hd,Bool.true_and]
 clear he hd
 by_cases hu:u=s
 ·have hv:decide (u=s)=true:=by simpa using hu
  have hy:=ZF hu
  rw[hv]
  clear hu hv
  go_enter Tryz.func99,Tryz.ntmps99
  have K:=kw (ka (Ia LC 0 1) (iq LB 0 1 2 3))
  go_upto_region 1 with fail
  clear hw0
  refine Ey K (fun bA hHeld=>?_)
  refine tx 0 5 ?_
  refine tx 1 6 ?_
  refine tx 2 7 ?_
  refine rd 3 rfl (fun KK AA=>?_)
  go_simp
  have hgo:=bA
  refine(OK.out _ hgo).mono ?_
  rintro e DY ⟨rfl,bb⟩
  have Ao:Below w0.heap.size w0 DY:=bu bA bb
  clear bA hgo bb hHeld
  refine AA.out _ _ (K.out _ Ao) (fun hHeld=>?_)
  clear AA KK
  refine tx 4 9 ?_
  refine tx 5 10 ?_
  refine tx 6 11 ?_
  refine rd 7 rfl (fun KK AA=>?_)
  go_simp
  have hgo:=Ao
  refine(NO.out _).mono ?_
  rintro e Dz ⟨rfl,bb⟩
  have BN:Below w0.heap.size w0 Dz:=bu Ao bb
  clear Ao hgo bb hHeld
  refine AA.out _ _ (K.out _ BN) (fun hHeld=>?_)
  clear AA KK
  refine tx 8 13 ?_
  refine tx 9 14 ?_
  refine tx 10 15 ?_
  refine tx 11 16 ?_
  refine tx 12 17 ?_
  refine tx 13 18 ?_
  refine tx 14 19 ?_
  refine tx 15 20 ?_
  refine tx 18 23 ?_
  refine tx 16 21 ?_
  refine tx 19 24 ?_
  refine tx 20 25 ?_
  refine rd 17 rfl (fun KK AA=>?_)
  go_simp
  have hgo:=BN
  refine(UP.out _).mono ?_
  rintro e JI ⟨rfl,bb⟩
  have Fe:Below w0.heap.size w0 JI:=bu BN bb
  clear BN hgo bb hHeld
  refine AA.out _ _ (K.out _ Fe) (fun hHeld=>?_)
  clear AA KK
  refine tx 21 26 ?_
  refine tx 22 27 ?_
  refine tx 23 4 ?_
  clear hHeld
  refine Bt ?_
  have bb:=Fe
  have Jw:=bu AO bb
  have XH:=bb.size
  replace LC:=LC.up bb
  replace LB:=LB.up bb
  clear AO bb Fe K
  go_wp2
  go_ret
  exact⟨rfl,Jw⟩
 have hv:decide (u=s)=false:=by simpa using hu
 have hy:=EO hu
 rw[hv]
 clear hu hv
 go_enter Tryz.func99,Tryz.ntmps99
 have K:=kw (ka (Ia LC 0 1) (iq LB 0 1 2 3))
 go_upto_region 1 with fail
 clear hw0
 refine Ey K (fun bA hHeld=>?_)
 refine tx 0 5 ?_
 refine tx 1 6 ?_
 refine tx 2 7 ?_
 refine rd 3 rfl (fun KK AA=>?_)
 go_simp
 have hgo:=bA
 refine(OK.out _ hgo).mono ?_
 rintro e DY ⟨rfl,bb⟩
 have Ao:Below w0.heap.size w0 DY:=bu bA bb
 clear bA hgo bb hHeld
 refine AA.out _ _ (K.out _ Ao) (fun hHeld=>?_)
 clear AA KK
 refine tx 4 9 ?_
 refine tx 5 10 ?_
 refine tx 6 11 ?_
 refine rd 7 rfl (fun KK AA=>?_)
 go_simp
 have hgo:=Ao
 refine(NO.out _).mono ?_
 rintro e Dz ⟨rfl,bb⟩
 have BN:Below w0.heap.size w0 Dz:=bu Ao bb
 clear Ao hgo bb hHeld
 refine AA.out _ _ (K.out _ BN) (fun hHeld=>?_)
 clear AA KK
 refine tx 8 13 ?_
 refine tx 9 14 ?_
 refine tx 10 15 ?_
 refine tx 11 16 ?_
 refine tx 12 17 ?_
 refine tx 13 18 ?_
 refine tx 14 19 ?_
 refine tx 15 20 ?_
 refine tx 18 23 ?_
 refine tx 16 21 ?_
 refine tx 19 24 ?_
 refine tx 20 25 ?_
 refine rd 17 rfl (fun KK AA=>?_)
 go_simp
 have hgo:=BN
 refine(UP.out _).mono ?_
 rintro e JI ⟨rfl,bb⟩
 have Fe:Below w0.heap.size w0 JI:=bu BN bb
 clear BN hgo bb hHeld
 refine AA.out _ _ (K.out _ Fe) (fun hHeld=>?_)
 clear AA KK
 refine tx 21 26 ?_
 refine tx 22 27 ?_
 refine tx 23 4 ?_
 clear hHeld
 refine Bt ?_
 have bb:=Fe
 have Jw:=bu AO bb
 have XH:=bb.size
 replace LC:=LC.up bb
 replace LB:=LB.up bb
 clear AO bb Fe K
 go_wp2
 go_ret
 exact⟨rfl,Jw⟩
def aO(t:MT):Bool:=decide (BD t.fr t.tu t.am t.no)
def aT(n f:Int)(t:MT):Bool:=V8 n f t.bn t.bv t.bs t.bw
def aQ(n f:Int)(t:MT):Bool:=DV n f t.pv t.ps t.pw&&!(t.ps.toList==[])
def aP(n f:Int)(t:MT):Bool:=decide (1≤t.vw∧t.vw≤60)&&(Ga n f t.qv t.qs t.qw&&decide (0≤t.wh∧t.wh≤n-1))
def iG(n f:Int)(t:MT):Bool:=if t.k=1 then aT n f t else if t.k=2 then aQ n f t else if t.k=3 then aP n f t else if t.k=4 then aO t else false
theorem wD{n f:Int}{t:MT}(h:t.k=1):iG n f t=aT n f t:=by unfold iG;rw[if_pos h]
theorem wC{n f:Int}{t:MT}(h:t.k=2):iG n f t=aQ n f t:=by unfold iG;rw[if_neg (by omega),if_pos h]
theorem wB{n f:Int}{t:MT}(h:t.k=3):iG n f t=aP n f t:=by unfold iG;rw[if_neg (by omega),if_neg (by omega),if_pos h]
theorem v_{n f:Int}{t:MT}(h:t.k=4):iG n f t=aO t:=by unfold iG;rw[if_neg (by omega),if_neg (by omega),if_neg (by omega),if_pos h]
theorem wF{n f:Int}{t:MT}(h1:¬t.k=1)(h2:¬t.k=2)(h3:¬t.k=3)(h4:¬t.k=4):iG n f t=false:=by unfold iG;rw[if_neg h1,if_neg h2,if_neg h3,if_neg h4]
def Ry(n f:Int)(t:MT):Bool:=decide (A8 n f)&&(J6 t&&iG n f t)
def MS(t:MT):Prop:=t.bn.size≤1048576∧t.bs.size≤1048576∧t.ps.size≤1048576∧t.qs.size≤1048576
theorem Ue(n f:Int)(t:MT)(ao bo co:Option Addr)(ca cb cc:Nat)(w:World)(hk:t.k=1)(hs:MS t)(ha:RI w (.slice ao t.bw.length ca) t.bw)(hb:RI w (.slice bo t.pw.length cb) t.pw)(hc:RI w (.slice co t.qw.length cc) t.qw):
 Calls Tryz.prog 70 #[cv n f,Dp t (.slice ao t.bw.length ca) (.slice bo t.pw.length cb) (.slice co t.qw.length cc)] w fun e w'=>e= .returned (.bool (decide (A8 n f)&&(J6 t&&aT n f t)))∧Below w.heap.size w w':=by
 have dk1:decide (t.k=1)=true:=by simpa using hk
 have ZZ:(t.k==1)=true:=by simpa using hk
 obtain⟨s1,s2,s3,s4⟩:=hs
 have IN:Hid (∀(x lo hi:Int)(w:World),Calls Tryz.prog 65 #[.int .i64 x,.int .i64 lo,.int .i64 hi] w fun e w'=>e= .returned (.bool (decide (lo≤x∧x≤hi)))∧Below w.heap.size w w'):=hide fun x lo hi w=>(GI x lo hi w).mono (by rintro e w' ⟨h,rfl⟩;exact⟨h,Below.refl _ _⟩)
 have CO:=hide fun w=>Ba n f w
 have ZE:=hide fun w h1 h2 h3=>FB t ao bo co ca cb cc w h1 h2 h3
 have BO:=hide fun w h=>E8 n f t.bn t.bv t.bs ao ca t.bw w s1 s2 h
 have PO:=hide fun w h=>Et n f t.pv t.ps (.slice bo t.pw.length cb) t.pw w s3 h
 have QO:=hide fun w h=>Fh n f t.qv t.qs co cc t.qw w s4 h
 have TO:=hide fun w=>Gt t.fr t.tu t.am t.no w
 have ha1:=hide ha
 have hb1:=hide hb
 have hc1:=hide hc
 clear ha hb hc s1 s2 s3 s4 hk
 unfold aT
 generalize V8 n f t.bn t.bv t.bs t.bw=r1 at *
 have tL:Hid (decide (A8 n f)=true→A8 n f):=hide fun h=>of_decide_eq_true h
 generalize decide (A8 n f)=b1 at *
 generalize J6 t=b2 at *
 obtain⟨w0,hw0,AO,LC,A,DN⟩:=GM w #[.int .i64 n,.int .i64 f] 57 #[.int .i64 t.k,.int .i64 t.vw,.string t.bn,.int .i64 t.bv,.string t.bs,.slice ao t.bw.length ca,.int .i64 t.pv,.string t.ps,.slice bo t.pw.length cb,.int .i64 t.qv,.string t.qs,.slice co t.qw.length cc,.int .i64 t.wh,.int .i64 t.fr,.int .i64 t.tu,.int .i64 t.am,.int .i64 t.no] 65
 go_enter Tryz.func70,Tryz.ntmps70
 obtain⟨Ae,Aj⟩:=Cr LC 0 1
 go_wp2_with fail
 clear hw0
 refine(CO.out _).mono ?_
 rintro _ w1 ⟨rfl,bb⟩
 clear Ae Aj
 have AP:=bu AO bb
 have Ct:=bb.size
 replace LC:=LC.up bb
 replace A:=A.up bb
 clear AO bb
 cases b1
 ·go_wp2
  go_ret
  exact⟨by simp,AP⟩
 go_wp2_with (first|(refine Ap A 65 _ rfl _ rfl rfl Tryz.underlying65 rfl (by kernel_rfl) ?_))
 refine(ZE.out _ (ha1.out.below AP) (hb1.out.below AP) (hc1.out.below AP)).mono ?_
 rintro _ w2 ⟨rfl,bb⟩
 have Am:=bu AP bb
 have El:=bb.size
 replace LC:=LC.up bb
 replace A:=A.up bb
 clear AP bb
 cases b2
 ·go_wp2
  go_ret
  exact⟨by simp,Am⟩
 obtain⟨Ae,Aj⟩:=Cr LC 0 1
 obtain⟨Bn,DW,Eh,FC,F6⟩:=Zb A 0 2 3 4 5
 go_wp2_with fail
 refine(BO.out _ (ha1.out.below Am)).mono ?_
 rintro _ w3 ⟨rfl,bb⟩
 clear Ae Aj Bn DW Eh FC F6
 have BP:=bu Am bb
 have IZ:=bb.size
 replace LC:=LC.up bb
 replace A:=A.up bb
 clear Am bb
 go_wp2
 go_ret
 exact⟨by simp,BP⟩
theorem Ud(n f:Int)(t:MT)(ao bo co:Option Addr)(ca cb cc:Nat)(w:World)(hk:t.k=2)(hs:MS t)(ha:RI w (.slice ao t.bw.length ca) t.bw)(hb:RI w (.slice bo t.pw.length cb) t.pw)(hc:RI w (.slice co t.qw.length cc) t.qw):
 Calls Tryz.prog 70 #[cv n f,Dp t (.slice ao t.bw.length ca) (.slice bo t.pw.length cb) (.slice co t.qw.length cc)] w fun e w'=>e= .returned (.bool (decide (A8 n f)&&(J6 t&&aQ n f t)))∧Below w.heap.size w w':=by
 have dk1:decide (t.k=1)=false:=by simp;omega
 have ZZ:(t.k==1)=false:=by simp;omega
 have dk2:decide (t.k=2)=true:=by simpa using hk
 have jW:(t.k==2)=true:=by simpa using hk
 obtain⟨s1,s2,s3,s4⟩:=hs
 have IN:Hid (∀(x lo hi:Int)(w:World),Calls Tryz.prog 65 #[.int .i64 x,.int .i64 lo,.int .i64 hi] w fun e w'=>e= .returned (.bool (decide (lo≤x∧x≤hi)))∧Below w.heap.size w w'):=hide fun x lo hi w=>(GI x lo hi w).mono (by rintro e w' ⟨h,rfl⟩;exact⟨h,Below.refl _ _⟩)
 have CO:=hide fun w=>Ba n f w
 have ZE:=hide fun w h1 h2 h3=>FB t ao bo co ca cb cc w h1 h2 h3
 have BO:=hide fun w h=>E8 n f t.bn t.bv t.bs ao ca t.bw w s1 s2 h
 have PO:=hide fun w h=>Et n f t.pv t.ps (.slice bo t.pw.length cb) t.pw w s3 h
 have QO:=hide fun w h=>Fh n f t.qv t.qs co cc t.qw w s4 h
 have TO:=hide fun w=>Gt t.fr t.tu t.am t.no w
 have ha1:=hide ha
 have hb1:=hide hb
 have hc1:=hide hc
 clear ha hb hc s1 s2 s3 s4 hk
 unfold aQ
 generalize DV n f t.pv t.ps t.pw=r1 at *
 have tL:Hid (decide (A8 n f)=true→A8 n f):=hide fun h=>of_decide_eq_true h
 generalize decide (A8 n f)=b1 at *
 generalize J6 t=b2 at *
 obtain⟨w0,hw0,AO,LC,A,DN⟩:=GM w #[.int .i64 n,.int .i64 f] 57 #[.int .i64 t.k,.int .i64 t.vw,.string t.bn,.int .i64 t.bv,.string t.bs,.slice ao t.bw.length ca,.int .i64 t.pv,.string t.ps,.slice bo t.pw.length cb,.int .i64 t.qv,.string t.qs,.slice co t.qw.length cc,.int .i64 t.wh,.int .i64 t.fr,.int .i64 t.tu,.int .i64 t.am,.int .i64 t.no] 65
 go_enter Tryz.func70,Tryz.ntmps70
 obtain⟨Ae,Aj⟩:=Cr LC 0 1
 go_wp2_with fail
 clear hw0
 refine(CO.out _).mono ?_
 rintro _ w1 ⟨rfl,bb⟩
 clear Ae Aj
 have AP:=bu AO bb
 have Ct:=bb.size
 replace LC:=LC.up bb
 replace A:=A.up bb
 clear AO bb
 cases b1
 ·go_wp2
  go_ret
  exact⟨by simp,AP⟩
 go_wp2_with (first|(refine Ap A 65 _ rfl _ rfl rfl Tryz.underlying65 rfl (by kernel_rfl) ?_))
 refine(ZE.out _ (ha1.out.below AP) (hb1.out.below AP) (hc1.out.below AP)).mono ?_
 rintro _ w2 ⟨rfl,bb⟩
 have Am:=bu AP bb
 have El:=bb.size
 replace LC:=LC.up bb
 replace A:=A.up bb
 clear AP bb
 cases b2
 ·go_wp2
  go_ret
  exact⟨by simp,Am⟩
 obtain⟨Ae,Aj⟩:=Cr LC 0 1
 obtain⟨Bn,Gh,GL,Gg⟩:=WO A 0 6 7 8
 go_wp2_with fail
 refine(PO.out _ (hb1.out.below Am)).mono ?_
 rintro _ w3 ⟨rfl,bb⟩
 clear Ae Aj Bn Gh GL Gg
 have BP:=bu Am bb
 have IZ:=bb.size
 replace LC:=LC.up bb
 replace A:=A.up bb
 clear Am bb
 cases r1
 ·go_wp2
  go_ret
  exact⟨by simp,BP⟩
 have GL:=A.cell 7 rfl
 go_wp2
 go_ret
 exact⟨by simp,BP⟩
theorem Uc(n f:Int)(t:MT)(ao bo co:Option Addr)(ca cb cc:Nat)(w:World)(hk:t.k=3)(hs:MS t)(ha:RI w (.slice ao t.bw.length ca) t.bw)(hb:RI w (.slice bo t.pw.length cb) t.pw)(hc:RI w (.slice co t.qw.length cc) t.qw):
 Calls Tryz.prog 70 #[cv n f,Dp t (.slice ao t.bw.length ca) (.slice bo t.pw.length cb) (.slice co t.qw.length cc)] w fun e w'=>e= .returned (.bool (decide (A8 n f)&&(J6 t&&aP n f t)))∧Below w.heap.size w w':=by
 have dk1:decide (t.k=1)=false:=by simp;omega
 have ZZ:(t.k==1)=false:=by simp;omega
 have dk2:decide (t.k=2)=false:=by simp;omega
 have jW:(t.k==2)=false:=by simp;omega
 have dk3:decide (t.k=3)=true:=by simpa using hk
 have qF:(t.k==3)=true:=by simpa using hk
 obtain⟨s1,s2,s3,s4⟩:=hs
 have IN:Hid (∀(x lo hi:Int)(w:World),Calls Tryz.prog 65 #[.int .i64 x,.int .i64 lo,.int .i64 hi] w fun e w'=>e= .returned (.bool (decide (lo≤x∧x≤hi)))∧Below w.heap.size w w'):=hide fun x lo hi w=>(GI x lo hi w).mono (by rintro e w' ⟨h,rfl⟩;exact⟨h,Below.refl _ _⟩)
 have CO:=hide fun w=>Ba n f w
 have ZE:=hide fun w h1 h2 h3=>FB t ao bo co ca cb cc w h1 h2 h3
 have BO:=hide fun w h=>E8 n f t.bn t.bv t.bs ao ca t.bw w s1 s2 h
 have PO:=hide fun w h=>Et n f t.pv t.ps (.slice bo t.pw.length cb) t.pw w s3 h
 have QO:=hide fun w h=>Fh n f t.qv t.qs co cc t.qw w s4 h
 have TO:=hide fun w=>Gt t.fr t.tu t.am t.no w
 have ha1:=hide ha
 have hb1:=hide hb
 have hc1:=hide hc
 clear ha hb hc s1 s2 s3 s4 hk
 unfold aP
 generalize Ga n f t.qv t.qs t.qw=r2 at *
 have i1:=hide fun w=>IN.out t.vw 1 60 w
 have i2:=hide fun w=>IN.out t.wh 0 (n-1) w
 generalize decide (1≤t.vw∧t.vw≤60)=r1 at *
 generalize decide (0≤t.wh∧t.wh≤n-1)=r3 at *
 have wn0:Hid (A8 n f→IntKind.i64.wrap (n-1)=n-1):=hide fun h=>by rw[IntKind.wrap_i64]<;>(unfold A8 at h;omega)
 have tL:Hid (decide (A8 n f)=true→A8 n f):=hide fun h=>of_decide_eq_true h
 generalize decide (A8 n f)=b1 at *
 generalize J6 t=b2 at *
 obtain⟨w0,hw0,AO,LC,A,DN⟩:=GM w #[.int .i64 n,.int .i64 f] 57 #[.int .i64 t.k,.int .i64 t.vw,.string t.bn,.int .i64 t.bv,.string t.bs,.slice ao t.bw.length ca,.int .i64 t.pv,.string t.ps,.slice bo t.pw.length cb,.int .i64 t.qv,.string t.qs,.slice co t.qw.length cc,.int .i64 t.wh,.int .i64 t.fr,.int .i64 t.tu,.int .i64 t.am,.int .i64 t.no] 65
 go_enter Tryz.func70,Tryz.ntmps70
 obtain⟨Ae,Aj⟩:=Cr LC 0 1
 go_wp2_with fail
 clear hw0
 refine(CO.out _).mono ?_
 rintro _ w1 ⟨rfl,bb⟩
 clear Ae Aj
 have AP:=bu AO bb
 have Ct:=bb.size
 replace LC:=LC.up bb
 replace A:=A.up bb
 clear AO bb
 cases b1
 ·go_wp2
  go_ret
  exact⟨by simp,AP⟩
 have wn:=wn0.out (tL.out rfl)
 go_wp2_with (first|(refine Ap A 65 _ rfl _ rfl rfl Tryz.underlying65 rfl (by kernel_rfl) ?_))
 refine(ZE.out _ (ha1.out.below AP) (hb1.out.below AP) (hc1.out.below AP)).mono ?_
 rintro _ w2 ⟨rfl,bb⟩
 have Am:=bu AP bb
 have El:=bb.size
 replace LC:=LC.up bb
 replace A:=A.up bb
 clear AP bb
 cases b2
 ·go_wp2
  go_ret
  exact⟨by simp,Am⟩
 obtain⟨Bn,DX⟩:=Cr A 0 1
 go_wp2_with fail
 refine(i1.out _).mono ?_
 rintro _ w3 ⟨rfl,bb⟩
 clear Bn DX
 have BP:=bu Am bb
 have IZ:=bb.size
 replace LC:=LC.up bb
 replace A:=A.up bb
 clear Am bb
 cases r1
 ·obtain⟨Ae,Aj⟩:=Cr LC 0 1
  have DX:=A.cell 1 rfl
  go_wp2
  go_ret
  exact⟨by simp,BP⟩
 obtain⟨Ae,Aj⟩:=Cr LC 0 1
 obtain⟨Fb,CG,Ch⟩:=Bv A 9 10 11
 go_wp2_with fail
 refine(QO.out _ (hc1.out.below BP)).mono ?_
 rintro _ w4 ⟨rfl,bb⟩
 clear Ae Aj Fb CG Ch
 have Cs:=bu BP bb
 have Ph:=bb.size
 replace LC:=LC.up bb
 replace A:=A.up bb
 clear BP bb
 cases r2
 ·obtain⟨Ae,Aj⟩:=Cr LC 0 1
  obtain⟨Fb,CG,Ch⟩:=Bv A 9 10 11
  go_wp2
  go_ret
  exact⟨by simp,Cs⟩
 obtain⟨Ae,Aj⟩:=Cr LC 0 1
 have Cy:=A.cell 12 rfl
 go_wp2_with fail
 refine(i2.out _).mono ?_
 rintro _ w5 ⟨rfl,bb⟩
 clear Ae Aj Cy
 have GZ:=bu Cs bb
 have fQ:=bb.size
 replace LC:=LC.up bb
 replace A:=A.up bb
 clear Cs bb
 go_wp2
 go_ret
 exact⟨by simp,GZ⟩
theorem Ub(n f:Int)(t:MT)(ao bo co:Option Addr)(ca cb cc:Nat)(w:World)(hk:t.k=4)(hs:MS t)(ha:RI w (.slice ao t.bw.length ca) t.bw)(hb:RI w (.slice bo t.pw.length cb) t.pw)(hc:RI w (.slice co t.qw.length cc) t.qw):
 Calls Tryz.prog 70 #[cv n f,Dp t (.slice ao t.bw.length ca) (.slice bo t.pw.length cb) (.slice co t.qw.length cc)] w fun e w'=>e= .returned (.bool (decide (A8 n f)&&(J6 t&&aO t)))∧Below w.heap.size w w':=by
 have dk1:decide (t.k=1)=false:=by simp;omega
 have ZZ:(t.k==1)=false:=by simp;omega
 have dk2:decide (t.k=2)=false:=by simp;omega
 have jW:(t.k==2)=false:=by simp;omega
 have dk3:decide (t.k=3)=false:=by simp;omega
 have qF:(t.k==3)=false:=by simp;omega
 have xJ:decide (t.k=4)=true:=by simpa using hk
 have xG:(t.k==4)=true:=by simpa using hk
 obtain⟨s1,s2,s3,s4⟩:=hs
 have IN:Hid (∀(x lo hi:Int)(w:World),Calls Tryz.prog 65 #[.int .i64 x,.int .i64 lo,.int .i64 hi] w fun e w'=>e= .returned (.bool (decide (lo≤x∧x≤hi)))∧Below w.heap.size w w'):=hide fun x lo hi w=>(GI x lo hi w).mono (by rintro e w' ⟨h,rfl⟩;exact⟨h,Below.refl _ _⟩)
 have CO:=hide fun w=>Ba n f w
 have ZE:=hide fun w h1 h2 h3=>FB t ao bo co ca cb cc w h1 h2 h3
 have BO:=hide fun w h=>E8 n f t.bn t.bv t.bs ao ca t.bw w s1 s2 h
 have PO:=hide fun w h=>Et n f t.pv t.ps (.slice bo t.pw.length cb) t.pw w s3 h
 have QO:=hide fun w h=>Fh n f t.qv t.qs co cc t.qw w s4 h
 have TO:=hide fun w=>Gt t.fr t.tu t.am t.no w
 have ha1:=hide ha
 have hb1:=hide hb
 have hc1:=hide hc
 clear ha hb hc s1 s2 s3 s4 hk
 unfold aO
 generalize decide (BD t.fr t.tu t.am t.no)=r1 at *
 have tL:Hid (decide (A8 n f)=true→A8 n f):=hide fun h=>of_decide_eq_true h
 generalize decide (A8 n f)=b1 at *
 generalize J6 t=b2 at *
 obtain⟨w0,hw0,AO,LC,A,DN⟩:=GM w #[.int .i64 n,.int .i64 f] 57 #[.int .i64 t.k,.int .i64 t.vw,.string t.bn,.int .i64 t.bv,.string t.bs,.slice ao t.bw.length ca,.int .i64 t.pv,.string t.ps,.slice bo t.pw.length cb,.int .i64 t.qv,.string t.qs,.slice co t.qw.length cc,.int .i64 t.wh,.int .i64 t.fr,.int .i64 t.tu,.int .i64 t.am,.int .i64 t.no] 65
 go_enter Tryz.func70,Tryz.ntmps70
 obtain⟨Ae,Aj⟩:=Cr LC 0 1
 go_wp2_with fail
 clear hw0
 refine(CO.out _).mono ?_
 rintro _ w1 ⟨rfl,bb⟩
 clear Ae Aj
 have AP:=bu AO bb
 have Ct:=bb.size
 replace LC:=LC.up bb
 replace A:=A.up bb
 clear AO bb
 cases b1
 ·go_wp2
  go_ret
  exact⟨by simp,AP⟩
 go_wp2_with (first|(refine Ap A 65 _ rfl _ rfl rfl Tryz.underlying65 rfl (by kernel_rfl) ?_))
 refine(ZE.out _ (ha1.out.below AP) (hb1.out.below AP) (hc1.out.below AP)).mono ?_
 rintro _ w2 ⟨rfl,bb⟩
 have Am:=bu AP bb
 have El:=bb.size
 replace LC:=LC.up bb
 replace A:=A.up bb
 clear AP bb
 cases b2
 ·go_wp2
  go_ret
  exact⟨by simp,Am⟩
 obtain⟨Bn,BU,DK,DJ,DF⟩:=Zb A 0 13 14 15 16
 go_wp2_with fail
 refine(TO.out _).mono ?_
 rintro _ w3 ⟨rfl,bb⟩
 clear Bn BU DK DJ DF
 have BP:=bu Am bb
 have IZ:=bb.size
 replace LC:=LC.up bb
 replace A:=A.up bb
 clear Am bb
 go_wp2
 go_ret
 exact⟨by simp,BP⟩
theorem Uf(n f:Int)(t:MT)(ao bo co:Option Addr)(ca cb cc:Nat)(w:World)(h1:¬t.k=1)(h2:¬t.k=2)(h3:¬t.k=3)(h4:¬t.k=4)(hs:MS t)(ha:RI w (.slice ao t.bw.length ca) t.bw)(hb:RI w (.slice bo t.pw.length cb) t.pw)(hc:RI w (.slice co t.qw.length cc) t.qw):
 Calls Tryz.prog 70 #[cv n f,Dp t (.slice ao t.bw.length ca) (.slice bo t.pw.length cb) (.slice co t.qw.length cc)] w fun e w'=>e= .returned (.bool (decide (A8 n f)&&(J6 t&&false)))∧Below w.heap.size w w':=by
 have dk1:decide (t.k=1)=false:=by simp;omega
 have ZZ:(t.k==1)=false:=by simp;omega
 have dk2:decide (t.k=2)=false:=by simp;omega
 have jW:(t.k==2)=false:=by simp;omega
 have dk3:decide (t.k=3)=false:=by simp;omega
 have qF:(t.k==3)=false:=by simp;omega
 have xJ:decide (t.k=4)=false:=by simp;omega
 have xG:(t.k==4)=false:=by simp;omega
 obtain⟨s1,s2,s3,s4⟩:=hs
 have IN:Hid (∀(x lo hi:Int)(w:World),Calls Tryz.prog 65 #[.int .i64 x,.int .i64 lo,.int .i64 hi] w fun e w'=>e= .returned (.bool (decide (lo≤x∧x≤hi)))∧Below w.heap.size w w'):=hide fun x lo hi w=>(GI x lo hi w).mono (by rintro e w' ⟨h,rfl⟩;exact⟨h,Below.refl _ _⟩)
 have CO:=hide fun w=>Ba n f w
 have ZE:=hide fun w h1 h2 h3=>FB t ao bo co ca cb cc w h1 h2 h3
 have BO:=hide fun w h=>E8 n f t.bn t.bv t.bs ao ca t.bw w s1 s2 h
 have PO:=hide fun w h=>Et n f t.pv t.ps (.slice bo t.pw.length cb) t.pw w s3 h
 have QO:=hide fun w h=>Fh n f t.qv t.qs co cc t.qw w s4 h
 have TO:=hide fun w=>Gt t.fr t.tu t.am t.no w
 have ha1:=hide ha
 have hb1:=hide hb
 have hc1:=hide hc
 clear ha hb hc s1 s2 s3 s4
 have tL:Hid (decide (A8 n f)=true→A8 n f):=hide fun h=>of_decide_eq_true h
 generalize decide (A8 n f)=b1 at *
 generalize J6 t=b2 at *
 obtain⟨w0,hw0,AO,LC,A,DN⟩:=GM w #[.int .i64 n,.int .i64 f] 57 #[.int .i64 t.k,.int .i64 t.vw,.string t.bn,.int .i64 t.bv,.string t.bs,.slice ao t.bw.length ca,.int .i64 t.pv,.string t.ps,.slice bo t.pw.length cb,.int .i64 t.qv,.string t.qs,.slice co t.qw.length cc,.int .i64 t.wh,.int .i64 t.fr,.int .i64 t.tu,.int .i64 t.am,.int .i64 t.no] 65
 go_enter Tryz.func70,Tryz.ntmps70
 obtain⟨Ae,Aj⟩:=Cr LC 0 1
 go_wp2_with fail
 clear hw0
 refine(CO.out _).mono ?_
 rintro _ w1 ⟨rfl,bb⟩
 clear Ae Aj
 have AP:=bu AO bb
 have Ct:=bb.size
 replace LC:=LC.up bb
 replace A:=A.up bb
 clear AO bb
 cases b1
 ·go_wp2
  go_ret
  exact⟨by simp,AP⟩
 go_wp2_with (first|(refine Ap A 65 _ rfl _ rfl rfl Tryz.underlying65 rfl (by kernel_rfl) ?_))
 refine(ZE.out _ (ha1.out.below AP) (hb1.out.below AP) (hc1.out.below AP)).mono ?_
 rintro _ w2 ⟨rfl,bb⟩
 have Am:=bu AP bb
 have El:=bb.size
 replace LC:=LC.up bb
 replace A:=A.up bb
 clear AP bb
 cases b2
 ·go_wp2
  go_ret
  exact⟨by simp,Am⟩
 have Bn:=A.cell 0 rfl
 go_wp2
 go_ret
 exact⟨by simp,Am⟩
theorem QY(n f:Int)(t:MT)(ao bo co:Option Addr)(ca cb cc:Nat)(w:World)(hs:MS t)(ha:RI w (.slice ao t.bw.length ca) t.bw)(hb:RI w (.slice bo t.pw.length cb) t.pw)(hc:RI w (.slice co t.qw.length cc) t.qw):
 Calls Tryz.prog 70 #[cv n f,Dp t (.slice ao t.bw.length ca) (.slice bo t.pw.length cb) (.slice co t.qw.length cc)] w fun e w'=>e= .returned (.bool (Ry n f t))∧Below w.heap.size w w':=by
 unfold Ry
 rcases kinds t.k with h|h|h|h|⟨h1,h2,h3,h4⟩
 ·rw[wD h];exact Ue n f t ao bo co ca cb cc w h hs ha hb hc
 ·rw[wC h];exact Ud n f t ao bo co ca cb cc w h hs ha hb hc
 ·rw[wB h];exact Uc n f t ao bo co ca cb cc w h hs ha hb hc
 ·rw[v_ h];exact Ub n f t ao bo co ca cb cc w h hs ha hb hc
 rw[wF h1 h2 h3 h4];exact Uf n f t ao bo co ca cb cc w h1 h2 h3 h4 hs ha hb hc
end
end Go.Proofs.YtkmnfeihjjccmaaGreatDoor
