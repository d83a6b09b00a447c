/- Lemmas, as stated. -/
import Derived.Test.YtjdchloechcclaaGreatDoorSNBD
import Derived.Test.YtjdchloechcclaaGreatDoorSNBC
set_option maxRecDepth 100000
set_option maxHeartbeats 16000000
set_option linter.unusedSectionVars false
set_option linter.unusedVariables false
namespace Go.Proofs.YtjdchloechcclaaGreatDoor
section
open Go.RowKit
variable [∀ (a b c d : Int), Decidable (Ok4 a b c d)]
variable [∀ (a b c d : Nat), Decidable (okN a b c d)]
variable [∀ (last : Int) (s : St), Decidable (GoodSt last s)]
variable [∀ (x : T4), Decidable (OkT x)]
variable [∀ (n : Int) (s : List Int), Decidable (OkL n s)]
variable [∀ (n f : Int), Decidable (COk n f)]
def MH (t : MT) : Prop := t.bn.size ≤ 33554432 ∧ t.bs.size ≤ 33554432 ∧ t.ps.size ≤ 33554432 ∧ t.qs.size ≤ 33554432
theorem MI.nul {t : MT} (h1 : t.bv = 0) (h2 : t.bw = []) : MI t := ⟨by rw [h1]; omega, by rw [h2]; intro x hx; simp at hx⟩
theorem implMsgOk_1 (n f : Int) (t : MT) (ao bo co : Option Addr) (ca cb cc : Nat) (w : World) (hk : t.k = 1) (hs : MH t) (hm : MI t) (hE : Env w) (ha : RI w (.slice ao t.bw.length ca) t.bw) (hb : RI w (.slice bo t.pw.length cb) t.pw) (hc : RI w (.slice co t.qw.length cc) t.qw) :
 Calls Tryz.prog 147 #[cv n f, mgv t (.slice ao t.bw.length ca) (.slice bo t.pw.length cb) (.slice co t.qw.length cc)] w fun e w' => e = .returned (.bool (decide (COk n f) && (rgtB n f t && msamB (mB t.bn t.bv t.bs t.bw) t))) ∧ Below w.heap.size w w' := by
 obtain ⟨s1, s2, s3, s4⟩:=hs
 have SA:=hide fun w => implSaying_1 t (.slice ao t.bw.length ca) (.slice bo t.pw.length cb) (.slice co t.qw.length cc) w hk
 have CO:=hide fun w => implConfOk n f w
 have HN : Hid (decide (COk n f) = true → IntKind.i64.wrap (n - 1) = n - 1):=hide fun h => by rw [IntKind.wrap_i64] <;> (have:=of_decide_eq_true h; unfold COk at this; omega)
 have RT:=hide fun w (hE : Env w) ha => implRightB n f t.bn t.bv t.bs ao ca t.bw w s1 s2 hE ha
 have MO:=hide fun w => implMessageOf_1 t.bn t.bv t.bs t.bw (.slice ao t.bw.length ca) ⟨_, _, _, rfl⟩ w
 have SM:=hide fun w hP h1 h2 h3 h4 h5 h6 => implMsgSame (mB t.bn t.bv t.bs t.bw) t ao .none .none ao bo co ca 0 0 ca cb cc w ⟨hm.1, hm.2⟩ hm hP h1 h2 h3 h4 h5 h6
 have HE:=hide hE
 have ha1:=hide ha
 have hb1:=hide hb
 have hc1:=hide hc
 clear hE ha hb hc hm s1 s2 s3 s4 hk
 unfold rgtB
 generalize msamB (mB t.bn t.bv t.bs t.bw) t = r2 at *
 generalize bokB n f t.bn t.bv t.bs t.bw = r1 at *
 generalize decide (COk n f) = b1 at *
 obtain ⟨w0, hw0, Bw0, LC, A, zw0⟩:=bx2 w #[.int .i64 n,.int .i64 f] 49 #[.int .i64 t.k,.int .i64 t.vw,.string t.bn,.int .i64 t.bv,.string t.bs,.slice ao t.bw.length ca,.int .i64 t.pv,.string t.ps,.slice bo t.pw.length cb,.int .i64 t.qv,.string t.qs,.slice co t.qw.length cc,.int .i64 t.wh,.int .i64 t.fr,.int .i64 t.tu,.int .i64 t.am,.int .i64 t.no] 72
 go_enter Tryz.func147, Tryz.ntmps147
 go_wp2_with (first | (refine wload A 72 _ rfl _ rfl rfl Tryz.underlying72 rfl (by kernel_rfl) ?_))
 clear hw0
 refine (SA.out _).mono ?_
 rintro _ w1 ⟨rfl, bb⟩
 have Bw1:=bu Bw0 bb
 have sw1:=bb.size
 replace LC:=LC.up bb
 replace A:=A.up bb
 clear Bw0 bb SA
 cases b1
 ·have K:=kw (ka (kc2 LC 0 1) (kL A))
  go_upto_region 2 with fail
  refine wra K (fun bA hHeld => ?_)
  refine tx 0 8 ?_
  refine rd 1 rfl (fun KK hKK => ?_)
  go_simp
  have hgo:=bA
  refine (CO.out _).mono ?_
  rintro e wz2_1 ⟨rfl, bb⟩
  have bz1 : Below w1.heap.size w1 wz2_1:=bu bA bb
  clear bA hgo bb hHeld
  refine hKK.out _ _ (K.out _ bz1) (fun hHeld => ?_)
  clear hKK KK
  refine tx 2 10 ?_
  refine sx 3 11 ?_
  refine sx 4 12 ?_
  refine tx 5 13 ?_
  refine tx 6 14 ?_
  refine sx 7 15 ?_
  refine sx 8 16 ?_
  refine sx 9 17 ?_
  refine tx 10 18 ?_
  refine tx 11 19 ?_
  refine sx 12 20 ?_
  refine sx 14 22 ?_
  refine sx 13 21 ?_
  refine sx 15 23 ?_
  refine tx 16 24 ?_
  refine tx 17 4 ?_
  clear hHeld
  refine wdn ?_
  have bb:=bz1
  have Bwz2_1:=bu Bw1 bb
  have swz2_1:=bb.size
  replace LC:=LC.up bb
  replace A:=A.up bb
  clear Bw1 bb bz1 K
  go_wp2
  go_ret
  exact ⟨by simp, Bwz2_1⟩
 cases r1
 ·have K:=kw (ka (kc2 LC 0 1) (kL A))
  go_upto_region 2 with fail
  refine wra K (fun bA hHeld => ?_)
  refine tx 0 8 ?_
  refine rd 1 rfl (fun KK hKK => ?_)
  go_simp
  have hgo:=bA
  refine (CO.out _).mono ?_
  rintro e wz2_1 ⟨rfl, bb⟩
  have bz1 : Below w1.heap.size w1 wz2_1:=bu bA bb
  clear bA hgo bb hHeld
  refine hKK.out _ _ (K.out _ bz1) (fun hHeld => ?_)
  clear hKK KK
  refine tx 2 10 ?_
  refine tx 3 11 ?_
  refine tx 4 12 ?_
  refine tx 5 13 ?_
  refine tx 6 14 ?_
  refine tx 7 15 ?_
  refine tx 8 16 ?_
  refine rd 9 rfl (fun KK hKK => ?_)
  go_simp
  have hgo:=bz1
  refine (RT.out _ (HE.out.below (bu Bw1 hgo)) (ha1.out.below (bu Bw1 hgo))).mono ?_
  rintro e wz2_2 ⟨rfl, bb⟩
  have bz2 : Below w1.heap.size w1 wz2_2:=bu bz1 bb
  clear bz1 hgo bb hHeld
  refine hKK.out _ _ (K.out _ bz2) (fun hHeld => ?_)
  clear hKK KK
  refine tx 10 18 ?_
  refine tx 11 19 ?_
  refine sx 12 20 ?_
  refine sx 14 22 ?_
  refine sx 13 21 ?_
  refine sx 15 23 ?_
  refine tx 16 24 ?_
  refine tx 17 4 ?_
  clear hHeld
  refine wdn ?_
  have bb:=bz2
  have Bwz2_2:=bu Bw1 bb
  have swz2_2:=bb.size
  replace LC:=LC.up bb
  replace A:=A.up bb
  clear Bw1 bb bz2 K
  go_wp2
  go_ret
  exact ⟨by simp, Bwz2_2⟩
 have K:=kw (ka (kc2 LC 0 1) (kL A))
 go_upto_region 2 with fail
 refine wra K (fun bA hHeld => ?_)
 refine tx 0 8 ?_
 refine rd 1 rfl (fun KK hKK => ?_)
 go_simp
 have hgo:=bA
 refine (CO.out _).mono ?_
 rintro e wz2_1 ⟨rfl, bb⟩
 have bz1 : Below w1.heap.size w1 wz2_1:=bu bA bb
 clear bA hgo bb hHeld
 refine hKK.out _ _ (K.out _ bz1) (fun hHeld => ?_)
 clear hKK KK
 refine tx 2 10 ?_
 refine tx 3 11 ?_
 refine tx 4 12 ?_
 refine tx 5 13 ?_
 refine tx 6 14 ?_
 refine tx 7 15 ?_
 refine tx 8 16 ?_
 refine rd 9 rfl (fun KK hKK => ?_)
 go_simp
 have hgo:=bz1
 refine (RT.out _ (HE.out.below (bu Bw1 hgo)) (ha1.out.below (bu Bw1 hgo))).mono ?_
 rintro e wz2_2 ⟨rfl, bb⟩
 have bz2 : Below w1.heap.size w1 wz2_2:=bu bz1 bb
 clear bz1 hgo bb hHeld
 refine hKK.out _ _ (K.out _ bz2) (fun hHeld => ?_)
 clear hKK KK
 refine tx 10 18 ?_
 refine tx 11 19 ?_
 refine tx 12 20 ?_
 refine take_at (i := 14) (d := 22) (v := .agg #[.int .i64 t.k,.int .i64 t.vw,.string t.bn,.int .i64 t.bv,.string t.bs,.slice ao t.bw.length ca,.int .i64 t.pv,.string t.ps,.slice bo t.pw.length cb,.int .i64 t.qv,.string t.qs,.slice co t.qw.length cc,.int .i64 t.wh,.int .i64 t.fr,.int .i64 t.tu,.int .i64 t.am,.int .i64 t.no]) rfl rfl (by kernel_rfl) (by kernel_rfl) (by kernel_rfl) (fun _ _ _ h => h) ?_ (by assumption) ?_
 ·exact yields_row rfl 72 _ rfl rfl _ (fun w h => h.2.2) Tryz.underlying72 rfl (by kernel_rfl)
 simp only [pU]
 refine rd 13 rfl (fun KK hKK => ?_)
 go_simp
 have hgo:=bz2
 refine (MO.out _).mono ?_
 rintro e wz2_3 ⟨rfl, bb⟩
 have bz3 : Below w1.heap.size w1 wz2_3:=bu bz2 bb
 clear bz2 hgo bb hHeld
 refine hKK.out _ _ (K.out _ bz3) (fun hHeld => ?_)
 clear hKK KK
 refine rd 15 rfl (fun KK hKK => ?_)
 go_simp
 have hgo:=bz3
 refine (SM.out _ (HE.out.below (bu Bw1 hgo)).pow (ha1.out.below (bu Bw1 hgo)) (rinone _) (rinone _) (ha1.out.below (bu Bw1 hgo)) (hb1.out.below (bu Bw1 hgo)) (hc1.out.below (bu Bw1 hgo))).mono ?_
 rintro e wz2_4 ⟨rfl, bb⟩
 have bz4 : Below w1.heap.size w1 wz2_4:=bu bz3 bb
 clear bz3 hgo bb hHeld
 refine hKK.out _ _ (K.out _ bz4) (fun hHeld => ?_)
 clear hKK KK
 refine tx 16 24 ?_
 refine tx 17 4 ?_
 clear hHeld
 refine wdn ?_
 have bb:=bz4
 have Bwz2_4:=bu Bw1 bb
 have swz2_4:=bb.size
 replace LC:=LC.up bb
 replace A:=A.up bb
 clear Bw1 bb bz4 K
 go_wp2
 go_ret
 exact ⟨by simp, Bwz2_4⟩
theorem implMsgOk_2 (n f : Int) (t : MT) (ao bo co : Option Addr) (ca cb cc : Nat) (w : World) (hk : t.k = 2) (hs : MH t) (hm : MI t) (hE : Env w) (ha : RI w (.slice ao t.bw.length ca) t.bw) (hb : RI w (.slice bo t.pw.length cb) t.pw) (hc : RI w (.slice co t.qw.length cc) t.qw) :
 Calls Tryz.prog 147 #[cv n f, mgv t (.slice ao t.bw.length ca) (.slice bo t.pw.length cb) (.slice co t.qw.length cc)] w fun e w' => e = .returned (.bool (decide (COk n f) && (rgtP n f t && msamB (mP t.pv t.ps t.pw) t))) ∧ Below w.heap.size w w' := by
 obtain ⟨s1, s2, s3, s4⟩:=hs
 have SA:=hide fun w => implSaying_2 t (.slice ao t.bw.length ca) (.slice bo t.pw.length cb) (.slice co t.qw.length cc) w hk
 have CO:=hide fun w => implConfOk n f w
 have HN : Hid (decide (COk n f) = true → IntKind.i64.wrap (n - 1) = n - 1):=hide fun h => by rw [IntKind.wrap_i64] <;> (have:=of_decide_eq_true h; unfold COk at this; omega)
 have RT:=hide fun w (hE : Env w) ha => implRightP n f t.pv t.ps bo cb t.pw w s3 hE ha
 have MO:=hide fun w => implMessageOf_2 t.pv t.ps t.pw (.slice bo t.pw.length cb) ⟨_, _, _, rfl⟩ w
 have SM:=hide fun w hP h1 h2 h3 h4 h5 h6 => implMsgSame (mP t.pv t.ps t.pw) t .none bo .none ao bo co 0 cb 0 ca cb cc w (MI.nul rfl rfl) hm hP h1 h2 h3 h4 h5 h6
 have HE:=hide hE
 have ha1:=hide ha
 have hb1:=hide hb
 have hc1:=hide hc
 clear hE ha hb hc hm s1 s2 s3 s4 hk
 unfold rgtP
 generalize msamB (mP t.pv t.ps t.pw) t = r2 at *
 generalize (pokB n f t.pv t.ps t.pw && !(t.ps.toList == [])) = r1 at *
 generalize decide (COk n f) = b1 at *
 obtain ⟨w0, hw0, Bw0, LC, A, zw0⟩:=bx2 w #[.int .i64 n,.int .i64 f] 49 #[.int .i64 t.k,.int .i64 t.vw,.string t.bn,.int .i64 t.bv,.string t.bs,.slice ao t.bw.length ca,.int .i64 t.pv,.string t.ps,.slice bo t.pw.length cb,.int .i64 t.qv,.string t.qs,.slice co t.qw.length cc,.int .i64 t.wh,.int .i64 t.fr,.int .i64 t.tu,.int .i64 t.am,.int .i64 t.no] 72
 go_enter Tryz.func147, Tryz.ntmps147
 go_wp2_with (first | (refine wload A 72 _ rfl _ rfl rfl Tryz.underlying72 rfl (by kernel_rfl) ?_))
 clear hw0
 refine (SA.out _).mono ?_
 rintro _ w1 ⟨rfl, bb⟩
 have Bw1:=bu Bw0 bb
 have sw1:=bb.size
 replace LC:=LC.up bb
 replace A:=A.up bb
 clear Bw0 bb SA
 cases b1
 ·have K:=kw (ka (kc2 LC 0 1) (kL A))
  go_upto_region 2 with fail
  refine wra K (fun bA hHeld => ?_)
  refine tx 0 8 ?_
  refine rd 1 rfl (fun KK hKK => ?_)
  go_simp
  have hgo:=bA
  refine (CO.out _).mono ?_
  rintro e wz2_1 ⟨rfl, bb⟩
  have bz1 : Below w1.heap.size w1 wz2_1:=bu bA bb
  clear bA hgo bb hHeld
  refine hKK.out _ _ (K.out _ bz1) (fun hHeld => ?_)
  clear hKK KK
  refine tx 2 10 ?_
  refine sx 3 11 ?_
  refine sx 4 12 ?_
  refine tx 5 13 ?_
  refine tx 6 14 ?_
  refine sx 7 15 ?_
  refine sx 8 16 ?_
  refine sx 9 17 ?_
  refine tx 10 18 ?_
  refine tx 11 19 ?_
  refine sx 12 20 ?_
  refine sx 14 22 ?_
  refine sx 13 21 ?_
  refine sx 15 23 ?_
  refine tx 16 24 ?_
  refine tx 17 4 ?_
  clear hHeld
  refine wdn ?_
  have bb:=bz1
  have Bwz2_1:=bu Bw1 bb
  have swz2_1:=bb.size
  replace LC:=LC.up bb
  replace A:=A.up bb
  clear Bw1 bb bz1 K
  go_wp2
  go_ret
  exact ⟨by simp, Bwz2_1⟩
 cases r1
 ·have K:=kw (ka (kc2 LC 0 1) (kL A))
  go_upto_region 2 with fail
  refine wra K (fun bA hHeld => ?_)
  refine tx 0 8 ?_
  refine rd 1 rfl (fun KK hKK => ?_)
  go_simp
  have hgo:=bA
  refine (CO.out _).mono ?_
  rintro e wz2_1 ⟨rfl, bb⟩
  have bz1 : Below w1.heap.size w1 wz2_1:=bu bA bb
  clear bA hgo bb hHeld
  refine hKK.out _ _ (K.out _ bz1) (fun hHeld => ?_)
  clear hKK KK
  refine tx 2 10 ?_
  refine tx 3 11 ?_
  refine tx 4 12 ?_
  refine tx 5 13 ?_
  refine tx 6 14 ?_
  refine tx 7 15 ?_
  refine tx 8 16 ?_
  refine rd 9 rfl (fun KK hKK => ?_)
  go_simp
  have hgo:=bz1
  refine (RT.out _ (HE.out.below (bu Bw1 hgo)) (hb1.out.below (bu Bw1 hgo))).mono ?_
  rintro e wz2_2 ⟨rfl, bb⟩
  have bz2 : Below w1.heap.size w1 wz2_2:=bu bz1 bb
  clear bz1 hgo bb hHeld
  refine hKK.out _ _ (K.out _ bz2) (fun hHeld => ?_)
  clear hKK KK
  refine tx 10 18 ?_
  refine tx 11 19 ?_
  refine sx 12 20 ?_
  refine sx 14 22 ?_
  refine sx 13 21 ?_
  refine sx 15 23 ?_
  refine tx 16 24 ?_
  refine tx 17 4 ?_
  clear hHeld
  refine wdn ?_
  have bb:=bz2
  have Bwz2_2:=bu Bw1 bb
  have swz2_2:=bb.size
  replace LC:=LC.up bb
  replace A:=A.up bb
  clear Bw1 bb bz2 K
  go_wp2
  go_ret
  exact ⟨by simp, Bwz2_2⟩
 have K:=kw (ka (kc2 LC 0 1) (kL A))
 go_upto_region 2 with fail
 refine wra K (fun bA hHeld => ?_)
 refine tx 0 8 ?_
 refine rd 1 rfl (fun KK hKK => ?_)
 go_simp
 have hgo:=bA
 refine (CO.out _).mono ?_
 rintro e wz2_1 ⟨rfl, bb⟩
 have bz1 : Below w1.heap.size w1 wz2_1:=bu bA bb
 clear bA hgo bb hHeld
 refine hKK.out _ _ (K.out _ bz1) (fun hHeld => ?_)
 clear hKK KK
 refine tx 2 10 ?_
 refine tx 3 11 ?_
 refine tx 4 12 ?_
 refine tx 5 13 ?_
 refine tx 6 14 ?_
 refine tx 7 15 ?_
 refine tx 8 16 ?_
 refine rd 9 rfl (fun KK hKK => ?_)
 go_simp
 have hgo:=bz1
 refine (RT.out _ (HE.out.below (bu Bw1 hgo)) (hb1.out.below (bu Bw1 hgo))).mono ?_
 rintro e wz2_2 ⟨rfl, bb⟩
 have bz2 : Below w1.heap.size w1 wz2_2:=bu bz1 bb
 clear bz1 hgo bb hHeld
 refine hKK.out _ _ (K.out _ bz2) (fun hHeld => ?_)
 clear hKK KK
 refine tx 10 18 ?_
 refine tx 11 19 ?_
 refine tx 12 20 ?_
 refine take_at (i := 14) (d := 22) (v := .agg #[.int .i64 t.k,.int .i64 t.vw,.string t.bn,.int .i64 t.bv,.string t.bs,.slice ao t.bw.length ca,.int .i64 t.pv,.string t.ps,.slice bo t.pw.length cb,.int .i64 t.qv,.string t.qs,.slice co t.qw.length cc,.int .i64 t.wh,.int .i64 t.fr,.int .i64 t.tu,.int .i64 t.am,.int .i64 t.no]) rfl rfl (by kernel_rfl) (by kernel_rfl) (by kernel_rfl) (fun _ _ _ h => h) ?_ (by assumption) ?_
 ·exact yields_row rfl 72 _ rfl rfl _ (fun w h => h.2.2) Tryz.underlying72 rfl (by kernel_rfl)
 simp only [pU]
 refine rd 13 rfl (fun KK hKK => ?_)
 go_simp
 have hgo:=bz2
 refine (MO.out _).mono ?_
 rintro e wz2_3 ⟨rfl, bb⟩
 have bz3 : Below w1.heap.size w1 wz2_3:=bu bz2 bb
 clear bz2 hgo bb hHeld
 refine hKK.out _ _ (K.out _ bz3) (fun hHeld => ?_)
 clear hKK KK
 refine rd 15 rfl (fun KK hKK => ?_)
 go_simp
 have hgo:=bz3
 refine (SM.out _ (HE.out.below (bu Bw1 hgo)).pow (rinone _) (hb1.out.below (bu Bw1 hgo)) (rinone _) (ha1.out.below (bu Bw1 hgo)) (hb1.out.below (bu Bw1 hgo)) (hc1.out.below (bu Bw1 hgo))).mono ?_
 rintro e wz2_4 ⟨rfl, bb⟩
 have bz4 : Below w1.heap.size w1 wz2_4:=bu bz3 bb
 clear bz3 hgo bb hHeld
 refine hKK.out _ _ (K.out _ bz4) (fun hHeld => ?_)
 clear hKK KK
 refine tx 16 24 ?_
 refine tx 17 4 ?_
 clear hHeld
 refine wdn ?_
 have bb:=bz4
 have Bwz2_4:=bu Bw1 bb
 have swz2_4:=bb.size
 replace LC:=LC.up bb
 replace A:=A.up bb
 clear Bw1 bb bz4 K
 go_wp2
 go_ret
 exact ⟨by simp, Bwz2_4⟩
theorem implMsgOk_3 (n f : Int) (t : MT) (ao bo co : Option Addr) (ca cb cc : Nat) (w : World) (hk : t.k = 3) (hs : MH t) (hm : MI t) (hE : Env w) (ha : RI w (.slice ao t.bw.length ca) t.bw) (hb : RI w (.slice bo t.pw.length cb) t.pw) (hc : RI w (.slice co t.qw.length cc) t.qw) :
 Calls Tryz.prog 147 #[cv n f, mgv t (.slice ao t.bw.length ca) (.slice bo t.pw.length cb) (.slice co t.qw.length cc)] w fun e w' => e = .returned (.bool (decide (COk n f) && (rgtV n f t && msamB (mV t.vw t.wh t.qv t.qs t.qw) t))) ∧ Below w.heap.size w w' := by
 obtain ⟨s1, s2, s3, s4⟩:=hs
 have SA:=hide fun w => implSaying_3 t (.slice ao t.bw.length ca) (.slice bo t.pw.length cb) (.slice co t.qw.length cc) w hk
 have CO:=hide fun w => implConfOk n f w
 have HN : Hid (decide (COk n f) = true → IntKind.i64.wrap (n - 1) = n - 1):=hide fun h => by rw [IntKind.wrap_i64] <;> (have:=of_decide_eq_true h; unfold COk at this; omega)
 have RT:=hide fun w (hn : IntKind.i64.wrap (n - 1) = n - 1) (hE : Env w) ha => implRightV n f t.vw t.wh t.qv t.qs co cc t.qw w hn s4 hE ha
 have MO:=hide fun w => implMessageOf_3 t.vw t.wh t.qv t.qs t.qw (.slice co t.qw.length cc) ⟨_, _, _, rfl⟩ w
 have SM:=hide fun w hP h1 h2 h3 h4 h5 h6 => implMsgSame (mV t.vw t.wh t.qv t.qs t.qw) t .none .none co ao bo co 0 0 cc ca cb cc w (MI.nul rfl rfl) hm hP h1 h2 h3 h4 h5 h6
 have HE:=hide hE
 have ha1:=hide ha
 have hb1:=hide hb
 have hc1:=hide hc
 clear hE ha hb hc hm s1 s2 s3 s4 hk
 unfold rgtV
 generalize msamB (mV t.vw t.wh t.qv t.qs t.qw) t = r2 at *
 generalize (decide (1 ≤ t.vw ∧ t.vw ≤ 60) && (qokB n f t.qv t.qs t.qw && decide (0 ≤ t.wh ∧ t.wh ≤ n - 1))) = r1 at *
 generalize decide (COk n f) = b1 at *
 obtain ⟨w0, hw0, Bw0, LC, A, zw0⟩:=bx2 w #[.int .i64 n,.int .i64 f] 49 #[.int .i64 t.k,.int .i64 t.vw,.string t.bn,.int .i64 t.bv,.string t.bs,.slice ao t.bw.length ca,.int .i64 t.pv,.string t.ps,.slice bo t.pw.length cb,.int .i64 t.qv,.string t.qs,.slice co t.qw.length cc,.int .i64 t.wh,.int .i64 t.fr,.int .i64 t.tu,.int .i64 t.am,.int .i64 t.no] 72
 go_enter Tryz.func147, Tryz.ntmps147
 go_wp2_with (first | (refine wload A 72 _ rfl _ rfl rfl Tryz.underlying72 rfl (by kernel_rfl) ?_))
 clear hw0
 refine (SA.out _).mono ?_
 rintro _ w1 ⟨rfl, bb⟩
 have Bw1:=bu Bw0 bb
 have sw1:=bb.size
 replace LC:=LC.up bb
 replace A:=A.up bb
 clear Bw0 bb SA
 cases b1
 ·have K:=kw (ka (kc2 LC 0 1) (kL A))
  go_upto_region 2 with fail
  refine wra K (fun bA hHeld => ?_)
  refine tx 0 8 ?_
  refine rd 1 rfl (fun KK hKK => ?_)
  go_simp
  have hgo:=bA
  refine (CO.out _).mono ?_
  rintro e wz2_1 ⟨rfl, bb⟩
  have bz1 : Below w1.heap.size w1 wz2_1:=bu bA bb
  clear bA hgo bb hHeld
  refine hKK.out _ _ (K.out _ bz1) (fun hHeld => ?_)
  clear hKK KK
  refine tx 2 10 ?_
  refine sx 3 11 ?_
  refine sx 4 12 ?_
  refine tx 5 13 ?_
  refine tx 6 14 ?_
  refine sx 7 15 ?_
  refine sx 8 16 ?_
  refine sx 9 17 ?_
  refine tx 10 18 ?_
  refine tx 11 19 ?_
  refine sx 12 20 ?_
  refine sx 14 22 ?_
  refine sx 13 21 ?_
  refine sx 15 23 ?_
  refine tx 16 24 ?_
  refine tx 17 4 ?_
  clear hHeld
  refine wdn ?_
  have bb:=bz1
  have Bwz2_1:=bu Bw1 bb
  have swz2_1:=bb.size
  replace LC:=LC.up bb
  replace A:=A.up bb
  clear Bw1 bb bz1 K
  go_wp2
  go_ret
  exact ⟨by simp, Bwz2_1⟩
 cases r1
 ·have K:=kw (ka (kc2 LC 0 1) (kL A))
  go_upto_region 2 with fail
  refine wra K (fun bA hHeld => ?_)
  refine tx 0 8 ?_
  refine rd 1 rfl (fun KK hKK => ?_)
  go_simp
  have hgo:=bA
  refine (CO.out _).mono ?_
  rintro e wz2_1 ⟨rfl, bb⟩
  have bz1 : Below w1.heap.size w1 wz2_1:=bu bA bb
  clear bA hgo bb hHeld
  refine hKK.out _ _ (K.out _ bz1) (fun hHeld => ?_)
  clear hKK KK
  refine tx 2 10 ?_
  refine tx 3 11 ?_
  refine tx 4 12 ?_
  refine tx 5 13 ?_
  refine tx 6 14 ?_
  refine tx 7 15 ?_
  refine tx 8 16 ?_
  refine rd 9 rfl (fun KK hKK => ?_)
  go_simp
  have hgo:=bz1
  refine (RT.out _ (HN.out (by trivial)) (HE.out.below (bu Bw1 hgo)) (hc1.out.below (bu Bw1 hgo))).mono ?_
  rintro e wz2_2 ⟨rfl, bb⟩
  have bz2 : Below w1.heap.size w1 wz2_2:=bu bz1 bb
  clear bz1 hgo bb hHeld
  refine hKK.out _ _ (K.out _ bz2) (fun hHeld => ?_)
  clear hKK KK
  refine tx 10 18 ?_
  refine tx 11 19 ?_
  refine sx 12 20 ?_
  refine sx 14 22 ?_
  refine sx 13 21 ?_
  refine sx 15 23 ?_
  refine tx 16 24 ?_
  refine tx 17 4 ?_
  clear hHeld
  refine wdn ?_
  have bb:=bz2
  have Bwz2_2:=bu Bw1 bb
  have swz2_2:=bb.size
  replace LC:=LC.up bb
  replace A:=A.up bb
  clear Bw1 bb bz2 K
  go_wp2
  go_ret
  exact ⟨by simp, Bwz2_2⟩
 have K:=kw (ka (kc2 LC 0 1) (kL A))
 go_upto_region 2 with fail
 refine wra K (fun bA hHeld => ?_)
 refine tx 0 8 ?_
 refine rd 1 rfl (fun KK hKK => ?_)
 go_simp
 have hgo:=bA
 refine (CO.out _).mono ?_
 rintro e wz2_1 ⟨rfl, bb⟩
 have bz1 : Below w1.heap.size w1 wz2_1:=bu bA bb
 clear bA hgo bb hHeld
 refine hKK.out _ _ (K.out _ bz1) (fun hHeld => ?_)
 clear hKK KK
 refine tx 2 10 ?_
 refine tx 3 11 ?_
 refine tx 4 12 ?_
 refine tx 5 13 ?_
 refine tx 6 14 ?_
 refine tx 7 15 ?_
 refine tx 8 16 ?_
 refine rd 9 rfl (fun KK hKK => ?_)
 go_simp
 have hgo:=bz1
 refine (RT.out _ (HN.out (by trivial)) (HE.out.below (bu Bw1 hgo)) (hc1.out.below (bu Bw1 hgo))).mono ?_
 rintro e wz2_2 ⟨rfl, bb⟩
 have bz2 : Below w1.heap.size w1 wz2_2:=bu bz1 bb
 clear bz1 hgo bb hHeld
 refine hKK.out _ _ (K.out _ bz2) (fun hHeld => ?_)
 clear hKK KK
 refine tx 10 18 ?_
 refine tx 11 19 ?_
 refine tx 12 20 ?_
 refine take_at (i := 14) (d := 22) (v := .agg #[.int .i64 t.k,.int .i64 t.vw,.string t.bn,.int .i64 t.bv,.string t.bs,.slice ao t.bw.length ca,.int .i64 t.pv,.string t.ps,.slice bo t.pw.length cb,.int .i64 t.qv,.string t.qs,.slice co t.qw.length cc,.int .i64 t.wh,.int .i64 t.fr,.int .i64 t.tu,.int .i64 t.am,.int .i64 t.no]) rfl rfl (by kernel_rfl) (by kernel_rfl) (by kernel_rfl) (fun _ _ _ h => h) ?_ (by assumption) ?_
 ·exact yields_row rfl 72 _ rfl rfl _ (fun w h => h.2.2) Tryz.underlying72 rfl (by kernel_rfl)
 simp only [pU]
 refine rd 13 rfl (fun KK hKK => ?_)
 go_simp
 have hgo:=bz2
 refine (MO.out _).mono ?_
 rintro e wz2_3 ⟨rfl, bb⟩
 have bz3 : Below w1.heap.size w1 wz2_3:=bu bz2 bb
 clear bz2 hgo bb hHeld
 refine hKK.out _ _ (K.out _ bz3) (fun hHeld => ?_)
 clear hKK KK
 refine rd 15 rfl (fun KK hKK => ?_)
 go_simp
 have hgo:=bz3
 refine (SM.out _ (HE.out.below (bu Bw1 hgo)).pow (rinone _) (rinone _) (hc1.out.below (bu Bw1 hgo)) (ha1.out.below (bu Bw1 hgo)) (hb1.out.below (bu Bw1 hgo)) (hc1.out.below (bu Bw1 hgo))).mono ?_
 rintro e wz2_4 ⟨rfl, bb⟩
 have bz4 : Below w1.heap.size w1 wz2_4:=bu bz3 bb
 clear bz3 hgo bb hHeld
 refine hKK.out _ _ (K.out _ bz4) (fun hHeld => ?_)
 clear hKK KK
 refine tx 16 24 ?_
 refine tx 17 4 ?_
 clear hHeld
 refine wdn ?_
 have bb:=bz4
 have Bwz2_4:=bu Bw1 bb
 have swz2_4:=bb.size
 replace LC:=LC.up bb
 replace A:=A.up bb
 clear Bw1 bb bz4 K
 go_wp2
 go_ret
 exact ⟨by simp, Bwz2_4⟩
theorem implMsgOk_4 (n f : Int) (t : MT) (ao bo co : Option Addr) (ca cb cc : Nat) (w : World) (hk : t.k = 4) (hs : MH t) (hm : MI t) (hE : Env w) (ha : RI w (.slice ao t.bw.length ca) t.bw) (hb : RI w (.slice bo t.pw.length cb) t.pw) (hc : RI w (.slice co t.qw.length cc) t.qw) :
 Calls Tryz.prog 147 #[cv n f, mgv t (.slice ao t.bw.length ca) (.slice bo t.pw.length cb) (.slice co t.qw.length cc)] w fun e w' => e = .returned (.bool (decide (COk n f) && (rgtX t && msamB (mX t.fr t.tu t.am t.no) t))) ∧ Below w.heap.size w w' := by
 obtain ⟨s1, s2, s3, s4⟩:=hs
 have SA:=hide fun w => implSaying_4 t (.slice ao t.bw.length ca) (.slice bo t.pw.length cb) (.slice co t.qw.length cc) w hk
 have CO:=hide fun w => implConfOk n f w
 have HN : Hid (decide (COk n f) = true → IntKind.i64.wrap (n - 1) = n - 1):=hide fun h => by rw [IntKind.wrap_i64] <;> (have:=of_decide_eq_true h; unfold COk at this; omega)
 have RT:=hide fun w => implRightX n f t.fr t.tu t.am t.no w
 have MO:=hide fun w => implMessageOf_4 t.fr t.tu t.am t.no w
 have SM:=hide fun w hP h1 h2 h3 h4 h5 h6 => implMsgSame (mX t.fr t.tu t.am t.no) t .none .none .none ao bo co 0 0 0 ca cb cc w (MI.nul rfl rfl) hm hP h1 h2 h3 h4 h5 h6
 have HE:=hide hE
 have ha1:=hide ha
 have hb1:=hide hb
 have hc1:=hide hc
 clear hE ha hb hc hm s1 s2 s3 s4 hk
 unfold rgtX
 generalize msamB (mX t.fr t.tu t.am t.no) t = r2 at *
 generalize decide (Ok4 t.fr t.tu t.am t.no) = r1 at *
 generalize decide (COk n f) = b1 at *
 obtain ⟨w0, hw0, Bw0, LC, A, zw0⟩:=bx2 w #[.int .i64 n,.int .i64 f] 49 #[.int .i64 t.k,.int .i64 t.vw,.string t.bn,.int .i64 t.bv,.string t.bs,.slice ao t.bw.length ca,.int .i64 t.pv,.string t.ps,.slice bo t.pw.length cb,.int .i64 t.qv,.string t.qs,.slice co t.qw.length cc,.int .i64 t.wh,.int .i64 t.fr,.int .i64 t.tu,.int .i64 t.am,.int .i64 t.no] 72
 go_enter Tryz.func147, Tryz.ntmps147
 go_wp2_with (first | (refine wload A 72 _ rfl _ rfl rfl Tryz.underlying72 rfl (by kernel_rfl) ?_))
 clear hw0
 refine (SA.out _).mono ?_
 rintro _ w1 ⟨rfl, bb⟩
 have Bw1:=bu Bw0 bb
 have sw1:=bb.size
 replace LC:=LC.up bb
 replace A:=A.up bb
 clear Bw0 bb SA
 cases b1
 ·have K:=kw (ka (kc2 LC 0 1) (kL A))
  go_upto_region 2 with fail
  refine wra K (fun bA hHeld => ?_)
  refine tx 0 8 ?_
  refine rd 1 rfl (fun KK hKK => ?_)
  go_simp
  have hgo:=bA
  refine (CO.out _).mono ?_
  rintro e wz2_1 ⟨rfl, bb⟩
  have bz1 : Below w1.heap.size w1 wz2_1:=bu bA bb
  clear bA hgo bb hHeld
  refine hKK.out _ _ (K.out _ bz1) (fun hHeld => ?_)
  clear hKK KK
  refine tx 2 10 ?_
  refine sx 3 11 ?_
  refine sx 4 12 ?_
  refine tx 5 13 ?_
  refine tx 6 14 ?_
  refine sx 7 15 ?_
  refine sx 8 16 ?_
  refine sx 9 17 ?_
  refine tx 10 18 ?_
  refine tx 11 19 ?_
  refine sx 12 20 ?_
  refine sx 14 22 ?_
  refine sx 13 21 ?_
  refine sx 15 23 ?_
  refine tx 16 24 ?_
  refine tx 17 4 ?_
  clear hHeld
  refine wdn ?_
  have bb:=bz1
  have Bwz2_1:=bu Bw1 bb
  have swz2_1:=bb.size
  replace LC:=LC.up bb
  replace A:=A.up bb
  clear Bw1 bb bz1 K
  go_wp2
  go_ret
  exact ⟨by simp, Bwz2_1⟩
 cases r1
 ·have K:=kw (ka (kc2 LC 0 1) (kL A))
  go_upto_region 2 with fail
  refine wra K (fun bA hHeld => ?_)
  refine tx 0 8 ?_
  refine rd 1 rfl (fun KK hKK => ?_)
  go_simp
  have hgo:=bA
  refine (CO.out _).mono ?_
  rintro e wz2_1 ⟨rfl, bb⟩
  have bz1 : Below w1.heap.size w1 wz2_1:=bu bA bb
  clear bA hgo bb hHeld
  refine hKK.out _ _ (K.out _ bz1) (fun hHeld => ?_)
  clear hKK KK
  refine tx 2 10 ?_
  refine tx 3 11 ?_
  refine tx 4 12 ?_
  refine tx 5 13 ?_
  refine tx 6 14 ?_
  refine tx 7 15 ?_
  refine tx 8 16 ?_
  refine rd 9 rfl (fun KK hKK => ?_)
  go_simp
  have hgo:=bz1
  refine (RT.out _).mono ?_
  rintro e wz2_2 ⟨rfl, bb⟩
  have bz2 : Below w1.heap.size w1 wz2_2:=bu bz1 bb
  clear bz1 hgo bb hHeld
  refine hKK.out _ _ (K.out _ bz2) (fun hHeld => ?_)
  clear hKK KK
  refine tx 10 18 ?_
  refine tx 11 19 ?_
  refine sx 12 20 ?_
  refine sx 14 22 ?_
  refine sx 13 21 ?_
  refine sx 15 23 ?_
  refine tx 16 24 ?_
  refine tx 17 4 ?_
  clear hHeld
  refine wdn ?_
  have bb:=bz2
  have Bwz2_2:=bu Bw1 bb
  have swz2_2:=bb.size
  replace LC:=LC.up bb
  replace A:=A.up bb
  clear Bw1 bb bz2 K
  go_wp2
  go_ret
  exact ⟨by simp, Bwz2_2⟩
 have K:=kw (ka (kc2 LC 0 1) (kL A))
 go_upto_region 2 with fail
 refine wra K (fun bA hHeld => ?_)
 refine tx 0 8 ?_
 refine rd 1 rfl (fun KK hKK => ?_)
 go_simp
 have hgo:=bA
 refine (CO.out _).mono ?_
 rintro e wz2_1 ⟨rfl, bb⟩
 have bz1 : Below w1.heap.size w1 wz2_1:=bu bA bb
 clear bA hgo bb hHeld
 refine hKK.out _ _ (K.out _ bz1) (fun hHeld => ?_)
 clear hKK KK
 refine tx 2 10 ?_
 refine tx 3 11 ?_
 refine tx 4 12 ?_
 refine tx 5 13 ?_
 refine tx 6 14 ?_
 refine tx 7 15 ?_
 refine tx 8 16 ?_
 refine rd 9 rfl (fun KK hKK => ?_)
 go_simp
 have hgo:=bz1
 refine (RT.out _).mono ?_
 rintro e wz2_2 ⟨rfl, bb⟩
 have bz2 : Below w1.heap.size w1 wz2_2:=bu bz1 bb
 clear bz1 hgo bb hHeld
 refine hKK.out _ _ (K.out _ bz2) (fun hHeld => ?_)
 clear hKK KK
 refine tx 10 18 ?_
 refine tx 11 19 ?_
 refine tx 12 20 ?_
 refine take_at (i := 14) (d := 22) (v := .agg #[.int .i64 t.k,.int .i64 t.vw,.string t.bn,.int .i64 t.bv,.string t.bs,.slice ao t.bw.length ca,.int .i64 t.pv,.string t.ps,.slice bo t.pw.length cb,.int .i64 t.qv,.string t.qs,.slice co t.qw.length cc,.int .i64 t.wh,.int .i64 t.fr,.int .i64 t.tu,.int .i64 t.am,.int .i64 t.no]) rfl rfl (by kernel_rfl) (by kernel_rfl) (by kernel_rfl) (fun _ _ _ h => h) ?_ (by assumption) ?_
 ·exact yields_row rfl 72 _ rfl rfl _ (fun w h => h.2.2) Tryz.underlying72 rfl (by kernel_rfl)
 simp only [pU]
 refine rd 13 rfl (fun KK hKK => ?_)
 go_simp
 have hgo:=bz2
 refine (MO.out _).mono ?_
 rintro e wz2_3 ⟨rfl, bb⟩
 have bz3 : Below w1.heap.size w1 wz2_3:=bu bz2 bb
 clear bz2 hgo bb hHeld
 refine hKK.out _ _ (K.out _ bz3) (fun hHeld => ?_)
 clear hKK KK
 refine rd 15 rfl (fun KK hKK => ?_)
 go_simp
 have hgo:=bz3
 refine (SM.out _ (HE.out.below (bu Bw1 hgo)).pow (rinone _) (rinone _) (rinone _) (ha1.out.below (bu Bw1 hgo)) (hb1.out.below (bu Bw1 hgo)) (hc1.out.below (bu Bw1 hgo))).mono ?_
 rintro e wz2_4 ⟨rfl, bb⟩
 have bz4 : Below w1.heap.size w1 wz2_4:=bu bz3 bb
 clear bz3 hgo bb hHeld
 refine hKK.out _ _ (K.out _ bz4) (fun hHeld => ?_)
 clear hKK KK
 refine tx 16 24 ?_
 refine tx 17 4 ?_
 clear hHeld
 refine wdn ?_
 have bb:=bz4
 have Bwz2_4:=bu Bw1 bb
 have swz2_4:=bb.size
 replace LC:=LC.up bb
 replace A:=A.up bb
 clear Bw1 bb bz4 K
 go_wp2
 go_ret
 exact ⟨by simp, Bwz2_4⟩
theorem implMsgOk_0 (n f : Int) (t : MT) (ao bo co : Option Addr) (ca cb cc : Nat) (w : World) (h1 : ¬ t.k = 1) (h2 : ¬ t.k = 2) (h3 : ¬ t.k = 3) (h4 : ¬ t.k = 4) (hs : MH t) (hm : MI t) (hE : Env w) (ha : RI w (.slice ao t.bw.length ca) t.bw) (hb : RI w (.slice bo t.pw.length cb) t.pw) (hc : RI w (.slice co t.qw.length cc) t.qw) :
 Calls Tryz.prog 147 #[cv n f, mgv t (.slice ao t.bw.length ca) (.slice bo t.pw.length cb) (.slice co t.qw.length cc)] w fun e w' => e = .returned (.bool (decide (COk n f) && false)) ∧ Below w.heap.size w w' := by
 obtain ⟨s1, s2, s3, s4⟩:=hs
 have SA:=hide fun w => implSaying_0 t (.slice ao t.bw.length ca) (.slice bo t.pw.length cb) (.slice co t.qw.length cc) w h1 h2 h3 h4
 have CO:=hide fun w => implConfOk n f w
 have HE:=hide hE
 have ha1:=hide ha
 have hb1:=hide hb
 have hc1:=hide hc
 clear hE ha hb hc hm s1 s2 s3 s4
 generalize decide (COk n f) = b1 at *
 obtain ⟨w0, hw0, Bw0, LC, A, zw0⟩:=bx2 w #[.int .i64 n,.int .i64 f] 49 #[.int .i64 t.k,.int .i64 t.vw,.string t.bn,.int .i64 t.bv,.string t.bs,.slice ao t.bw.length ca,.int .i64 t.pv,.string t.ps,.slice bo t.pw.length cb,.int .i64 t.qv,.string t.qs,.slice co t.qw.length cc,.int .i64 t.wh,.int .i64 t.fr,.int .i64 t.tu,.int .i64 t.am,.int .i64 t.no] 72
 go_enter Tryz.func147, Tryz.ntmps147
 go_wp2_with (first | (refine wload A 72 _ rfl _ rfl rfl Tryz.underlying72 rfl (by kernel_rfl) ?_))
 clear hw0
 refine (SA.out _).mono ?_
 rintro _ w1 ⟨rfl, bb⟩
 have Bw1:=bu Bw0 bb
 have sw1:=bb.size
 replace LC:=LC.up bb
 replace A:=A.up bb
 clear Bw0 bb SA
 cases b1
 ·have K:=kw (ka (kc2 LC 0 1) (kL A))
  go_upto_region 2 with fail
  refine wra K (fun bA hHeld => ?_)
  refine tx 0 8 ?_
  refine rd 1 rfl (fun KK hKK => ?_)
  go_simp
  have hgo:=bA
  refine (CO.out _).mono ?_
  rintro e wz2_1 ⟨rfl, bb⟩
  have bz1 : Below w1.heap.size w1 wz2_1:=bu bA bb
  clear bA hgo bb hHeld
  refine hKK.out _ _ (K.out _ bz1) (fun hHeld => ?_)
  clear hKK KK
  refine tx 2 10 ?_
  refine sx 3 11 ?_
  refine sx 4 12 ?_
  refine tx 5 13 ?_
  refine tx 6 14 ?_
  refine sx 7 15 ?_
  refine sx 8 16 ?_
  refine sx 9 17 ?_
  refine tx 10 18 ?_
  refine tx 11 19 ?_
  refine sx 12 20 ?_
  refine sx 14 22 ?_
  refine sx 13 21 ?_
  refine sx 15 23 ?_
  refine tx 16 24 ?_
  refine tx 17 4 ?_
  clear hHeld
  refine wdn ?_
  have bb:=bz1
  have Bwz2_1:=bu Bw1 bb
  have swz2_1:=bb.size
  replace LC:=LC.up bb
  replace A:=A.up bb
  clear Bw1 bb bz1 K
  go_wp2
  go_ret
  exact ⟨by simp, Bwz2_1⟩
 have K:=kw (ka (kc2 LC 0 1) (kL A))
 go_upto_region 2 with fail
 refine wra K (fun bA hHeld => ?_)
 refine tx 0 8 ?_
 refine rd 1 rfl (fun KK hKK => ?_)
 go_simp
 have hgo:=bA
 refine (CO.out _).mono ?_
 rintro e wz2_1 ⟨rfl, bb⟩
 have bz1 : Below w1.heap.size w1 wz2_1:=bu bA bb
 clear bA hgo bb hHeld
 refine hKK.out _ _ (K.out _ bz1) (fun hHeld => ?_)
 clear hKK KK
 refine tx 2 10 ?_
 refine tx 3 11 ?_
 refine tx 4 12 ?_
 refine tx 5 13 ?_
 refine tx 6 14 ?_
 refine sx 7 15 ?_
 refine sx 8 16 ?_
 refine sx 9 17 ?_
 refine tx 10 18 ?_
 refine tx 11 19 ?_
 refine sx 12 20 ?_
 refine sx 14 22 ?_
 refine sx 13 21 ?_
 refine sx 15 23 ?_
 refine tx 16 24 ?_
 refine tx 17 4 ?_
 clear hHeld
 refine wdn ?_
 have bb:=bz1
 have Bwz2_1:=bu Bw1 bb
 have swz2_1:=bb.size
 replace LC:=LC.up bb
 replace A:=A.up bb
 clear Bw1 bb bz1 K
 go_wp2
 go_ret
 exact ⟨by simp, Bwz2_1⟩
theorem implMsgOk (n f : Int) (t : MT) (ao bo co : Option Addr) (ca cb cc : Nat) (w : World) (hs : MH t) (hm : MI t) (hE : Env w) (ha : RI w (.slice ao t.bw.length ca) t.bw) (hb : RI w (.slice bo t.pw.length cb) t.pw) (hc : RI w (.slice co t.qw.length cc) t.qw) :
 Calls Tryz.prog 147 #[cv n f, mgv t (.slice ao t.bw.length ca) (.slice bo t.pw.length cb) (.slice co t.qw.length cc)] w fun e w' => e = .returned (.bool (mokB n f t)) ∧ Below w.heap.size w w' := by
 unfold mokB zerB
 rcases kinds t.k with h | h | h | h | ⟨h1, h2, h3, h4⟩
 ·rw [rgt1 h, nam1 h, namB_m h, Bool.and_comm (msamB _ _)]; exact implMsgOk_1 n f t ao bo co ca cb cc w h hs hm hE ha hb hc
 ·rw [rgt2 h, nam2 h, namP_m h, Bool.and_comm (msamB _ _)]; exact implMsgOk_2 n f t ao bo co ca cb cc w h hs hm hE ha hb hc
 ·rw [rgt3 h, nam3 h, namV_m h, Bool.and_comm (msamB _ _)]; exact implMsgOk_3 n f t ao bo co ca cb cc w h hs hm hE ha hb hc
 ·rw [rgt4 h, nam4 h, namX_m h, Bool.and_comm (msamB _ _)]; exact implMsgOk_4 n f t ao bo co ca cb cc w h hs hm hE ha hb hc
 rw [rgt0 h1 h2 h3 h4, Bool.and_false]; exact implMsgOk_0 n f t ao bo co ca cb cc w h1 h2 h3 h4 hs hm hE ha hb hc
end
section
open Go.RowKit
variable [∀ (n : Int) (s : List Int), Decidable (OkL n s)]
theorem compare_i' (x y : Int) (w : World) : Calls Tryz.prog 204 #[.int .i64 x,.int .i64 y] w fun e w' => e = .returned (.int .i64 (cmpI x y)) ∧ Below w.heap.size w w' :=
 (compare_i x y w).mono fun _ _ h => ⟨h.1, h.2 ▸ Below.refl _ _⟩
theorem compare_s' (s t : ByteArray) (w : World) : Calls Tryz.prog 206 #[.string s,.string t] w fun e w' => e = .returned (.int .i64 (cmpS s t)) ∧ Below w.heap.size w w' :=
 (compare_s s t w).mono fun _ _ h => ⟨h.1, h.2 ▸ Below.refl _ _⟩
theorem compareParts_any (m n : Int) (s t : ByteArray) (u v : Value) (xs ys : List Int) (w : World) :
 Calls Tryz.prog 176 #[qv m s u, qv n t v] w fun e w' => e = .returned (.int .i64 (cmpP (m, s, xs) (n, t, ys))) ∧ Below w.heap.size w w' := by
 have OR : Hid (∀ g w, w.cell? ⟨g, 0, none⟩ = some (.int .i64 (cmpI m n)) → w.cell? ⟨g, 1, none⟩ = some (.int .i64 (cmpS s t)) → Calls Tryz.prog 203 #[.slice (some ⟨g, 0, none⟩) 2 2] w fun e w' => e = .returned (.int .i64 (cmpP (m, s, xs) (n, t, ys))) ∧ Below w.heap.size w w') :=
  hide fun g w h0 h1 => (or_two (cmpI m n) (cmpS s t) g w h0 h1).mono fun _ _ h => ⟨h.1, h.2 ▸ Below.refl _ _⟩
 generalize cmpP (m, s, xs) (n, t, ys) = q at *
 obtain ⟨w0, hw0, Bw0, LX, LY, _⟩:=bx2 w #[.int .i64 m,.string s, u] 69 #[.int .i64 n,.string t, v] 69
 go_enter Tryz.func176, Tryz.ntmps176
 have K:=kw (ka (kc3 LX 0 1 2) (kc3 LY 0 1 2))
 go_upto_region 1 with fail
 clear hw0
 refine wra K (fun bA hHeld => ?_)
 refine tx 0 5 ?_
 refine tx 2 7 ?_
 refine tx 5 10 ?_
 refine tx 7 12 ?_
 refine tx 1 6 ?_
 refine tx 3 8 ?_
 refine tx 6 11 ?_
 refine tx 8 13 ?_
 refine rd 4 rfl (fun KK hKK => ?_)
 go_simp
 have hgo:=bA
 refine (compare_i' m n _).mono ?_
 rintro e wz1_1 ⟨rfl, bb⟩
 have bz1 : Below w0.heap.size w0 wz1_1:=bu bA bb
 clear bA hgo bb hHeld
 refine hKK.out _ _ (K.out _ bz1) (fun hHeld => ?_)
 clear hKK KK
 refine rd 9 rfl (fun KK hKK => ?_)
 go_simp
 have hgo:=bz1
 refine (compare_s' s t _).mono ?_
 rintro e wz1_2 ⟨rfl, bb⟩
 have bz2 : Below w0.heap.size w0 wz1_2:=bu bz1 bb
 clear bz1 hgo bb hHeld
 refine hKK.out _ _ (K.out _ bz2) (fun hHeld => ?_)
 clear hKK KK
 refine rd 10 rfl (fun KK hKK => ?_)
 go_simp
 obtain ⟨wz1_3, hwz1_3⟩ : ∃ x, (wz1_2).alloc (.cells #[.int .i64 (cmpI m n),.int .i64 (cmpS s t)] 3) = x:=⟨_, rfl⟩
 have bz3 : Below w0.heap.size w0 wz1_3:=hwz1_3 ▸ bz2.alloc bz2.size _
 have LE : Loc wz1_3 (wz1_2).heap.size #[.int .i64 (cmpI m n),.int .i64 (cmpS s t)]:=hwz1_3 ▸ loc_at (wz1_2) _ _ rfl
 rw [hwz1_3]
 clear bz2 hwz1_3 hHeld
 refine hKK.out _ _ (K.out _ bz3) (fun hHeld => ?_)
 clear hKK KK
 refine rd 11 rfl (fun KK hKK => ?_)
 go_simp
 have hgo:=bz3
 refine (OR.out _ _ (LE.cell 0 rfl) (LE.cell 1 rfl)).mono ?_
 rintro e wz1_4 ⟨rfl, bb⟩
 have bz4 : Below w0.heap.size w0 wz1_4:=bu bz3 bb
 replace LE:=LE.up bb
 clear bz3 hgo bb hHeld
 refine hKK.out _ _ (K.out _ bz4) (fun hHeld => ?_)
 clear hKK KK
 refine tx 12 4 ?_
 clear hHeld
 refine wdn ?_
 have bb:=bz4
 have Bwz1_4:=bu Bw0 bb
 have swz1_4:=bb.size
 replace LX:=LX.up bb
 replace LY:=LY.up bb
 clear Bw0 bb bz4 K
 go_wp2
 go_ret
 exact ⟨rfl, Bwz1_4⟩
end
section
open Go.RowKit
variable [∀ (n : Int) (s : List Int), Decidable (OkL n s)]
variable [∀ (a b c d : Int), Decidable (Ok4 a b c d)]
variable [∀ (n f : Int), Decidable (COk n f)]
variable [∀ (a b c d : Nat), Decidable (okN a b c d)]
variable [∀ (last : Int) (s : St), Decidable (GoodSt last s)]
variable [∀ (x : T4), Decidable (OkT x)]
theorem ascendsP_any (v : Value) (ps : List Pt) (w : World) (hl : ps.length ≤ 4194304) (h : RPt w v ps) :
 Calls Tryz.prog 145 #[.agg #[v,.func (.func 176) #[] #[]]] w fun e w' => e = .returned (.bool (rowP ps)) ∧ Below w.heap.size w w' := by
 obtain ⟨ao, ca, rfl⟩:=h.form
 have H:=hide h
 obtain ⟨n, hn⟩ : ∃ n, ps.length = n:=⟨_, rfl⟩
 have Hn:=hide hn
 have HI:=hide (row_iff ps)
 rw [hn] at hl H ⊢
 clear h hn
 generalize rowP ps = rb at *
 obtain ⟨w0, hw0⟩ : ∃ y, w.alloc (.cells #[.slice ao n ca,.func (.func 176) #[] #[]] 188) = y:=⟨_, rfl⟩
 have B0 : Below w.heap.size w w0:=hw0 ▸ qalloc _ _
 have L0 : Loc w0 w.heap.size #[.slice ao n ca,.func (.func 176) #[] #[]]:=hw0 ▸ loc_at w _ _ rfl
 go_enter Tryz.func145, Tryz.ntmps145
 go_wp2
 clear hw0
 go_loopw [3] (fun i wr => ∃ m : Nat, 1 ≤ m ∧ m ≤ n + 1 ∧ i = .int .i64 m ∧ Hid (∀ j, j + 1 < m → j + 1 < n → befP (ps.getD j zpt) (ps.getD (j + 1) zpt) = true) ∧ Loc wr w.heap.size #[.slice ao n ca,.func (.func 176) #[] #[]] ∧ Below w.heap.size w wr) (fun i _ => n + 1 - (intOf i).toNat)
 case atStart => exact ⟨1, Nat.le_refl _, by omega, by go_num, hide (fun j hj => absurd hj (by omega)), L0, B0⟩
 case round =>
  clear L0 B0
  obtain ⟨m, hm1, hm, rfl, HA, L, br⟩:=hrel
  have q0:=L.cell 0 rfl
  have q1:=L.cell 1 rfl
  by_cases hlt : m < n
  ·obtain ⟨k, hk⟩ : ∃ k, m = k + 1:=⟨m - 1, by omega⟩
   have hk1 : (m : Int) - 1 = (k : Int):=by omega
   have hwk : IntKind.i64.wrap (k : Int) = (k : Int):=by rw [IntKind.wrap_i64]; omega
   have hkn : k < n:=by omega
   have HR:=H.out.below br
   obtain ⟨g, off, u, rfl, c0, c1, c2, ru⟩:=HR.at k (by rw [Hn.out]; omega)
   obtain ⟨g', off', u', e, d0, d1, d2, ru'⟩:=HR.at m (by rw [Hn.out]; omega)
   cases e
   obtain ⟨xc, xe, rfl⟩:=ru.form
   obtain ⟨yc, ye, rfl⟩:=ru'.form
   have CT:=hide fun w => compareParts_any (ps.getD k zpt).1 (ps.getD m zpt).1 (ps.getD k zpt).2.1 (ps.getD m zpt).2.1 (.slice xc (ps.getD k zpt).2.2.length xe) (.slice yc (ps.getD m zpt).2.2.length ye) (ps.getD k zpt).2.2 (ps.getD m zpt).2.2 w
   have HS:=hide fun (h : befP (ps.getD k zpt) (ps.getD m zpt) = true) => (show ∀ j, j + 1 < m + 1 → j + 1 < n → befP (ps.getD j zpt) (ps.getD (j + 1) zpt) = true from fun j hj hj2 => by
    by_cases e : j = k
    ·rw [e, ← hk]; exact h
    exact HA.out j (by omega) hj2)
   have HN : Hid (¬ befP (ps.getD k zpt) (ps.getD m zpt) = true → rb = false):=hide fun h => by
    cases hrb : rb with
    | false => rfl
    | true => exact absurd (by have := HI.out.1 hrb k (by rw [Hn.out]; omega); rwa [← hk] at this) h
   have hcm:=hide (cmpP_lt (ps.getD k zpt) (ps.getD m zpt))
   have ecmp : cmpP ((ps.getD k zpt).1, (ps.getD k zpt).2.1, (ps.getD k zpt).2.2) ((ps.getD m zpt).1, (ps.getD m zpt).2.1, (ps.getD m zpt).2.2) = cmpP (ps.getD k zpt) (ps.getD m zpt):=rfl
   rw [ecmp] at CT
   clear HA HR ru ru' ecmp
   generalize cmpP (ps.getD k zpt) (ps.getD m zpt) = q at *
   generalize befP (ps.getD k zpt) (ps.getD m zpt) = BF at *
   generalize (ps.getD k zpt).1 = xa at *
   generalize (ps.getD k zpt).2.1 = xb at *
   generalize (ps.getD k zpt).2.2.length = xd at *
   generalize (ps.getD m zpt).1 = ya at *
   generalize (ps.getD m zpt).2.1 = yb at *
   generalize (ps.getD m zpt).2.2.length = yd at *
   have lg:=cell_lt c0
   have K : Hid (∀ w', Below wr.heap.size wr w' → (fun w' => (w'.cell? ⟨w.heap.size, 0, none⟩ = some (.slice (some ⟨g, off, none⟩) n ca) ∧ w'.cell? ⟨w.heap.size, 1, none⟩ = some (.func (.func 176) #[] #[])) ∧ (w'.cell? ⟨g, off + k * 3, none⟩ = some (.int .i64 xa) ∧ w'.cell? ⟨g, off + k * 3 + 1, none⟩ = some (.string xb) ∧ w'.cell? ⟨g, off + k * 3 + 2, none⟩ = some (.slice xc xd xe)) ∧ (w'.cell? ⟨g, off + m * 3, none⟩ = some (.int .i64 ya) ∧ w'.cell? ⟨g, off + m * 3 + 1, none⟩ = some (.string yb) ∧ w'.cell? ⟨g, off + m * 3 + 2, none⟩ = some (.slice yc yd ye))) w'):=hide fun w' hb => by
    have l:=L.up hb
    exact ⟨⟨l.cell 0 rfl, l.cell 1 rfl⟩, ⟨(hb.cell (p := ⟨g, off + k * 3, none⟩) lg).trans c0, (hb.cell (p := ⟨g, off + k * 3 + 1, none⟩) lg).trans c1, (hb.cell (p := ⟨g, off + k * 3 + 2, none⟩) lg).trans c2⟩, ⟨(hb.cell (p := ⟨g, off + m * 3, none⟩) lg).trans d0, (hb.cell (p := ⟨g, off + m * 3 + 1, none⟩) lg).trans d1, (hb.cell (p := ⟨g, off + m * 3 + 2, none⟩) lg).trans d2⟩⟩
   have bA : Below wr.heap.size wr wr.drew:=Below.drew (Below.refl _ _)
   replace hk:=hide hk
   clear c0 c1 c2 d0 d1 d2
   go_upto_region 4 with fail
   refine wrn K bA (fun hHeld => ?_)
   refine tx 0 11 ?_
   refine tx 1 12 ?_
   refine tx 2 13 ?_
   refine tx 3 14 ?_
   refine tx 4 15 ?_
   refine tx 5 16 ?_
   refine tx 6 17 ?_
   refine tx 7 18 ?_
   refine tx 8 19 ?_
   refine tx 9 20 ?_
   refine tx 10 21 ?_
   refine tx 11 22 ?_
   refine tx 12 23 ?_
   refine rd 13 rfl (fun KK hKK => ?_)
   go_simp
   refine (CT.out _).mono ?_
   rintro _ wa ⟨rfl, ba⟩
   have bB : Below wr.heap.size wr wa:=bu bA ba
   clear hHeld
   refine hKK.out _ _ (K.out _ bB) (fun hHeld => ?_)
   clear hKK KK
   refine tx 14 25 ?_
   clear hHeld
   refine wdn ?_
   have LB:=L.up bB
   have BB:=bu br bB
   by_cases hq : q < 0
   ·have HM:=hide (HS.out (hcm.out.1 hq))
    have hqd : decide (q ≥ 0) = false:=by simp; omega
    clear HS HN hcm
    go_wp2
    go_roundw
    case rel => exact ⟨m + 1, by omega, by omega, by go_num, HM, LB, BB⟩
    case measure => simp [intOf]; omega
   have HM:=HN.out (fun h => hq (hcm.out.2 h))
   have hqd : decide (q ≥ 0) = true:=by simp; omega
   clear HS HN hcm
   go_wp2
   go_ret
   exact ⟨rfl, BB⟩
  have HM : rb = true:=HI.out.2 (fun j hj => by have:=Hn.out; exact HA.out j (by omega) (by omega))
  have hd2 : decide ((m : Int) < (n : Int)) = false:=by simp; omega
  clear HA H
  go_wp2
  go_ret
  exact ⟨by rw [HM]; rfl, br⟩
end
end Go.Proofs.YtjdchloechcclaaGreatDoor
