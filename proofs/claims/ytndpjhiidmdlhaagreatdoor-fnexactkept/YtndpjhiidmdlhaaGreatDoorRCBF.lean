/- MsgOkI: what impl.MsgOk answers. -/
import Derived.Test.YtndpjhiidmdlhaaGreatDoorRCBE
import Derived.Test.YtndpjhiidmdlhaaGreatDoorRCBC
set_option maxRecDepth 100000
set_option maxHeartbeats 16000000
namespace Go.Proofs.YtndpjhiidmdlhaaGreatDoor
open Go.RowKit
set_option linter.unusedSectionVars false
variable [∀ (a b c d : Int), Decidable (Ok4 a b c d)]
variable [∀ (a b c d : Nat), Decidable (okN a b c d)]
variable [∀ (last : Int) (s : St), Decidable (GoodSt last s)]
variable [∀ (x : T4), Decidable (OkT x)]
variable [∀ (n : Int) (s : List Int), Decidable (OkL n s)]
variable [∀ (n f : Int), Decidable (COk n f)]

def MH (t : MT) : Prop := t.bn.size ≤ 33554432 ∧ t.bs.size ≤ 33554432 ∧ t.ps.size ≤ 33554432 ∧ t.qs.size ≤ 33554432
theorem MI.nul {t : MT} (h1 : t.bv = 0) (h2 : t.bw = []) : MI t := ⟨by rw [h1]; omega, by rw [h2]; intro x hx; simp at hx⟩
theorem implMsgOk_1 (n f : Int) (t : MT) (ao bo co : Option Addr) (ca cb cc : Nat) (w : World) (hk : t.k = 1) (hs : MH t) (hm : MI t) (hE : Env w) (ha : RI w (.slice ao t.bw.length ca) t.bw) (hb : RI w (.slice bo t.pw.length cb) t.pw) (hc : RI w (.slice co t.qw.length cc) t.qw) :
 Calls Tryz.prog 120 #[cv n f, mgv t (.slice ao t.bw.length ca) (.slice bo t.pw.length cb) (.slice co t.qw.length cc)] w fun e w' => e = .returned (.bool (decide (COk n f) && (rgtB n f t && msamB (mB t.bn t.bv t.bs t.bw) t))) ∧ Below w.heap.size w w' := by
 obtain ⟨s1, s2, s3, s4⟩:=hs
 have SA:=hide fun w => implSaying_1 t (.slice ao t.bw.length ca) (.slice bo t.pw.length cb) (.slice co t.qw.length cc) w hk
 have CO:=hide fun w => implConfOk n f w
 have HN : Hid (decide (COk n f) = true → IntKind.i64.wrap (n - 1) = n - 1):=hide fun h => by rw [IntKind.wrap_i64] <;> (have:=of_decide_eq_true h; unfold COk at this; omega)
 have RT:=hide fun w (hE : Env w) ha => implRightB n f t.bn t.bv t.bs ao ca t.bw w s1 s2 hE ha
 have MO:=hide fun w => implMessageOf_1 t.bn t.bv t.bs t.bw (.slice ao t.bw.length ca) ⟨_, _, _, rfl⟩ w
 have SM:=hide fun w hP h1 h2 h3 h4 h5 h6 => implMsgSame (mB t.bn t.bv t.bs t.bw) t ao .none .none ao bo co ca 0 0 ca cb cc w ⟨hm.1, hm.2⟩ hm hP h1 h2 h3 h4 h5 h6
 have HE:=hide hE
 have ha1:=hide ha
 have hb1:=hide hb
 have hc1:=hide hc
 clear hE ha hb hc hm s1 s2 s3 s4 hk
 unfold rgtB
 generalize msamB (mB t.bn t.bv t.bs t.bw) t = r2 at *
 generalize bokB n f t.bn t.bv t.bs t.bw = r1 at *
 generalize decide (COk n f) = b1 at *
 obtain ⟨w0, hw0, Bw0, LC, A, zw0⟩:=bx2 w #[.int .i64 n,.int .i64 f] 39 #[.int .i64 t.k,.int .i64 t.vw,.string t.bn,.int .i64 t.bv,.string t.bs,.slice ao t.bw.length ca,.int .i64 t.pv,.string t.ps,.slice bo t.pw.length cb,.int .i64 t.qv,.string t.qs,.slice co t.qw.length cc,.int .i64 t.wh,.int .i64 t.fr,.int .i64 t.tu,.int .i64 t.am,.int .i64 t.no] 86
 go_enter Tryz.func120, Tryz.ntmps120
 go_wp2_with (first | (refine wload A 86 _ rfl _ rfl rfl Tryz.underlying86 rfl (by kernel_rfl) ?_))
 clear hw0
 refine (SA.out _).mono ?_
 rintro _ w1 ⟨rfl, bb⟩
 have Bw1:=bu Bw0 bb
 have sw1:=bb.size
 replace LC:=LC.up bb
 replace A:=A.up bb
 clear Bw0
 clear bb
 clear SA
 cases b1
 ·have K : Hid (∀ w', Below w1.heap.size w1 w' → (fun w' => Below w1.heap.size w1 w' ∧ (w'.cell? ⟨w.heap.size, 0, none⟩ = some (.int .i64 n) ∧ w'.cell? ⟨w.heap.size, 1, none⟩ = some (.int .i64 f)) ∧ Loc w' (w.heap.size + 1) #[.int .i64 t.k,.int .i64 t.vw,.string t.bn,.int .i64 t.bv,.string t.bs,.slice ao t.bw.length ca,.int .i64 t.pv,.string t.ps,.slice bo t.pw.length cb,.int .i64 t.qv,.string t.qs,.slice co t.qw.length cc,.int .i64 t.wh,.int .i64 t.fr,.int .i64 t.tu,.int .i64 t.am,.int .i64 t.no]) w'):=hide fun w' hb' => ⟨hb', ⟨(LC.up hb').cell 0 rfl, (LC.up hb').cell 1 rfl⟩, A.up hb'⟩
  go_upto_region 2 with fail
  have bA : Below w1.heap.size w1 w1.drew:=Below.drew (Below.refl _ _)
  refine wrn K bA (fun hHeld => ?_)
  refine' tj 0 8 rfl ?_ ?_;rotate_left
  ·intro w h;go_simp;try rfl
  simp only [pU]
  refine rd 1 rfl (fun KK hKK => ?_)
  go_simp
  have hgo:=bA
  refine (CO.out _).mono ?_
  rintro e wz2_1 ⟨rfl, bb⟩
  have bz1 : Below w1.heap.size w1 wz2_1:=bu bA bb
  clear bA hgo bb
  clear hHeld
  refine hKK.out _ _ (K.out _ bz1) (fun hHeld => ?_)
  clear hKK KK
  refine' tj 2 10 rfl ?_ ?_;rotate_left
  ·intro w h;go_simp;try rfl
  simp only [pU]
  refine sk 3 11 rfl (h := ?_)
  simp only [pU]
  refine sk 4 12 rfl (h := ?_)
  simp only [pU]
  refine' tj 5 13 rfl ?_ ?_;rotate_left
  ·intro w h;go_simp;try rfl
  simp only [pU]
  refine' tj 6 14 rfl ?_ ?_;rotate_left
  ·intro w h;go_simp;try rfl
  simp only [pU]
  refine sk 7 15 rfl (h := ?_)
  simp only [pU]
  refine sk 8 16 rfl (h := ?_)
  simp only [pU]
  refine sk 9 17 rfl (h := ?_)
  simp only [pU]
  refine' tj 10 18 rfl ?_ ?_;rotate_left
  ·intro w h;go_simp;try rfl
  simp only [pU]
  refine' tj 11 19 rfl ?_ ?_;rotate_left
  ·intro w h;go_simp;try rfl
  simp only [pU]
  refine sk 12 20 rfl (h := ?_)
  simp only [pU]
  refine sk 14 22 rfl (h := ?_)
  simp only [pU]
  refine sk 13 21 rfl (h := ?_)
  simp only [pU]
  refine sk 15 23 rfl (h := ?_)
  simp only [pU]
  refine' tj 16 24 rfl ?_ ?_;rotate_left
  ·intro w h;go_simp;try rfl
  simp only [pU]
  refine' tj 17 4 rfl ?_ ?_;rotate_left
  ·intro w h;go_simp;try rfl
  simp only [pU]
  clear hHeld
  refine wdn ?_
  have bb:=bz1
  have Bwz2_1:=bu Bw1 bb
  have swz2_1:=bb.size
  replace LC:=LC.up bb
  replace A:=A.up bb
  clear Bw1
  clear bb bz1 K
  go_wp2
  go_ret
  exact ⟨by simp, Bwz2_1⟩
 ·cases r1
  ·have K : Hid (∀ w', Below w1.heap.size w1 w' → (fun w' => Below w1.heap.size w1 w' ∧ (w'.cell? ⟨w.heap.size, 0, none⟩ = some (.int .i64 n) ∧ w'.cell? ⟨w.heap.size, 1, none⟩ = some (.int .i64 f)) ∧ Loc w' (w.heap.size + 1) #[.int .i64 t.k,.int .i64 t.vw,.string t.bn,.int .i64 t.bv,.string t.bs,.slice ao t.bw.length ca,.int .i64 t.pv,.string t.ps,.slice bo t.pw.length cb,.int .i64 t.qv,.string t.qs,.slice co t.qw.length cc,.int .i64 t.wh,.int .i64 t.fr,.int .i64 t.tu,.int .i64 t.am,.int .i64 t.no]) w'):=hide fun w' hb' => ⟨hb', ⟨(LC.up hb').cell 0 rfl, (LC.up hb').cell 1 rfl⟩, A.up hb'⟩
   go_upto_region 2 with fail
   have bA : Below w1.heap.size w1 w1.drew:=Below.drew (Below.refl _ _)
   refine wrn K bA (fun hHeld => ?_)
   refine' tj 0 8 rfl ?_ ?_;rotate_left
   ·intro w h;go_simp;try rfl
   simp only [pU]
   refine rd 1 rfl (fun KK hKK => ?_)
   go_simp
   have hgo:=bA
   refine (CO.out _).mono ?_
   rintro e wz2_1 ⟨rfl, bb⟩
   have bz1 : Below w1.heap.size w1 wz2_1:=bu bA bb
   clear bA hgo bb
   clear hHeld
   refine hKK.out _ _ (K.out _ bz1) (fun hHeld => ?_)
   clear hKK KK
   refine' tj 2 10 rfl ?_ ?_;rotate_left
   ·intro w h;go_simp;try rfl
   simp only [pU]
   refine' tj 3 11 rfl ?_ ?_;rotate_left
   ·intro w h;go_simp;try rfl
   simp only [pU]
   refine' tj 4 12 rfl ?_ ?_;rotate_left
   ·intro w h;go_simp;try rfl
   simp only [pU]
   refine' tj 5 13 rfl ?_ ?_;rotate_left
   ·intro w h;go_simp;try rfl
   simp only [pU]
   refine' tj 6 14 rfl ?_ ?_;rotate_left
   ·intro w h;go_simp;try rfl
   simp only [pU]
   refine' tj 7 15 rfl ?_ ?_;rotate_left
   ·intro w h;go_simp;try rfl
   simp only [pU]
   refine' tj 8 16 rfl ?_ ?_;rotate_left
   ·intro w h;go_simp;try rfl
   simp only [pU]
   refine rd 9 rfl (fun KK hKK => ?_)
   go_simp
   have hgo:=bz1
   refine (RT.out _ (HE.out.below (bu Bw1 hgo)) (ha1.out.below (bu Bw1 hgo))).mono ?_
   rintro e wz2_2 ⟨rfl, bb⟩
   have bz2 : Below w1.heap.size w1 wz2_2:=bu bz1 bb
   clear bz1 hgo bb
   clear hHeld
   refine hKK.out _ _ (K.out _ bz2) (fun hHeld => ?_)
   clear hKK KK
   refine' tj 10 18 rfl ?_ ?_;rotate_left
   ·intro w h;go_simp;try rfl
   simp only [pU]
   refine' tj 11 19 rfl ?_ ?_;rotate_left
   ·intro w h;go_simp;try rfl
   simp only [pU]
   refine sk 12 20 rfl (h := ?_)
   simp only [pU]
   refine sk 14 22 rfl (h := ?_)
   simp only [pU]
   refine sk 13 21 rfl (h := ?_)
   simp only [pU]
   refine sk 15 23 rfl (h := ?_)
   simp only [pU]
   refine' tj 16 24 rfl ?_ ?_;rotate_left
   ·intro w h;go_simp;try rfl
   simp only [pU]
   refine' tj 17 4 rfl ?_ ?_;rotate_left
   ·intro w h;go_simp;try rfl
   simp only [pU]
   clear hHeld
   refine wdn ?_
   have bb:=bz2
   have Bwz2_2:=bu Bw1 bb
   have swz2_2:=bb.size
   replace LC:=LC.up bb
   replace A:=A.up bb
   clear Bw1
   clear bb bz2 K
   go_wp2
   go_ret
   exact ⟨by simp, Bwz2_2⟩
  ·have K : Hid (∀ w', Below w1.heap.size w1 w' → (fun w' => Below w1.heap.size w1 w' ∧ (w'.cell? ⟨w.heap.size, 0, none⟩ = some (.int .i64 n) ∧ w'.cell? ⟨w.heap.size, 1, none⟩ = some (.int .i64 f)) ∧ Loc w' (w.heap.size + 1) #[.int .i64 t.k,.int .i64 t.vw,.string t.bn,.int .i64 t.bv,.string t.bs,.slice ao t.bw.length ca,.int .i64 t.pv,.string t.ps,.slice bo t.pw.length cb,.int .i64 t.qv,.string t.qs,.slice co t.qw.length cc,.int .i64 t.wh,.int .i64 t.fr,.int .i64 t.tu,.int .i64 t.am,.int .i64 t.no]) w'):=hide fun w' hb' => ⟨hb', ⟨(LC.up hb').cell 0 rfl, (LC.up hb').cell 1 rfl⟩, A.up hb'⟩
   go_upto_region 2 with fail
   have bA : Below w1.heap.size w1 w1.drew:=Below.drew (Below.refl _ _)
   refine wrn K bA (fun hHeld => ?_)
   refine' tj 0 8 rfl ?_ ?_;rotate_left
   ·intro w h;go_simp;try rfl
   simp only [pU]
   refine rd 1 rfl (fun KK hKK => ?_)
   go_simp
   have hgo:=bA
   refine (CO.out _).mono ?_
   rintro e wz2_1 ⟨rfl, bb⟩
   have bz1 : Below w1.heap.size w1 wz2_1:=bu bA bb
   clear bA hgo bb
   clear hHeld
   refine hKK.out _ _ (K.out _ bz1) (fun hHeld => ?_)
   clear hKK KK
   refine' tj 2 10 rfl ?_ ?_;rotate_left
   ·intro w h;go_simp;try rfl
   simp only [pU]
   refine' tj 3 11 rfl ?_ ?_;rotate_left
   ·intro w h;go_simp;try rfl
   simp only [pU]
   refine' tj 4 12 rfl ?_ ?_;rotate_left
   ·intro w h;go_simp;try rfl
   simp only [pU]
   refine' tj 5 13 rfl ?_ ?_;rotate_left
   ·intro w h;go_simp;try rfl
   simp only [pU]
   refine' tj 6 14 rfl ?_ ?_;rotate_left
   ·intro w h;go_simp;try rfl
   simp only [pU]
   refine' tj 7 15 rfl ?_ ?_;rotate_left
   ·intro w h;go_simp;try rfl
   simp only [pU]
   refine' tj 8 16 rfl ?_ ?_;rotate_left
   ·intro w h;go_simp;try rfl
   simp only [pU]
   refine rd 9 rfl (fun KK hKK => ?_)
   go_simp
   have hgo:=bz1
   refine (RT.out _ (HE.out.below (bu Bw1 hgo)) (ha1.out.below (bu Bw1 hgo))).mono ?_
   rintro e wz2_2 ⟨rfl, bb⟩
   have bz2 : Below w1.heap.size w1 wz2_2:=bu bz1 bb
   clear bz1 hgo bb
   clear hHeld
   refine hKK.out _ _ (K.out _ bz2) (fun hHeld => ?_)
   clear hKK KK
   refine' tj 10 18 rfl ?_ ?_;rotate_left
   ·intro w h;go_simp;try rfl
   simp only [pU]
   refine' tj 11 19 rfl ?_ ?_;rotate_left
   ·intro w h;go_simp;try rfl
   simp only [pU]
   refine' tj 12 20 rfl ?_ ?_;rotate_left
   ·intro w h;go_simp;try rfl
   simp only [pU]
   refine take_at (i := 14) (d := 22) (v := .agg #[.int .i64 t.k,.int .i64 t.vw,.string t.bn,.int .i64 t.bv,.string t.bs,.slice ao t.bw.length ca,.int .i64 t.pv,.string t.ps,.slice bo t.pw.length cb,.int .i64 t.qv,.string t.qs,.slice co t.qw.length cc,.int .i64 t.wh,.int .i64 t.fr,.int .i64 t.tu,.int .i64 t.am,.int .i64 t.no]) rfl rfl (by kernel_rfl) (by kernel_rfl) (by kernel_rfl) (fun _ _ _ h => h) ?_ (by assumption) ?_
   ·exact yields_row rfl 86 _ rfl rfl _ (fun w h => h.2.2) Tryz.underlying86 rfl (by kernel_rfl)
   simp only [pU]
   refine rd 13 rfl (fun KK hKK => ?_)
   go_simp
   have hgo:=bz2
   refine (MO.out _).mono ?_
   rintro e wz2_3 ⟨rfl, bb⟩
   have bz3 : Below w1.heap.size w1 wz2_3:=bu bz2 bb
   clear bz2 hgo bb
   clear hHeld
   refine hKK.out _ _ (K.out _ bz3) (fun hHeld => ?_)
   clear hKK KK
   refine rd 15 rfl (fun KK hKK => ?_)
   go_simp
   have hgo:=bz3
   refine (SM.out _ (HE.out.below (bu Bw1 hgo)).pow (ha1.out.below (bu Bw1 hgo)) (RI.none _) (RI.none _) (ha1.out.below (bu Bw1 hgo)) (hb1.out.below (bu Bw1 hgo)) (hc1.out.below (bu Bw1 hgo))).mono ?_
   rintro e wz2_4 ⟨rfl, bb⟩
   have bz4 : Below w1.heap.size w1 wz2_4:=bu bz3 bb
   clear bz3 hgo bb
   clear hHeld
   refine hKK.out _ _ (K.out _ bz4) (fun hHeld => ?_)
   clear hKK KK
   refine' tj 16 24 rfl ?_ ?_;rotate_left
   ·intro w h;go_simp;try rfl
   simp only [pU]
   refine' tj 17 4 rfl ?_ ?_;rotate_left
   ·intro w h;go_simp;try rfl
   simp only [pU]
   clear hHeld
   refine wdn ?_
   have bb:=bz4
   have Bwz2_4:=bu Bw1 bb
   have swz2_4:=bb.size
   replace LC:=LC.up bb
   replace A:=A.up bb
   clear Bw1
   clear bb bz4 K
   go_wp2
   go_ret
   exact ⟨by simp, Bwz2_4⟩
theorem implMsgOk_2 (n f : Int) (t : MT) (ao bo co : Option Addr) (ca cb cc : Nat) (w : World) (hk : t.k = 2) (hs : MH t) (hm : MI t) (hE : Env w) (ha : RI w (.slice ao t.bw.length ca) t.bw) (hb : RI w (.slice bo t.pw.length cb) t.pw) (hc : RI w (.slice co t.qw.length cc) t.qw) :
 Calls Tryz.prog 120 #[cv n f, mgv t (.slice ao t.bw.length ca) (.slice bo t.pw.length cb) (.slice co t.qw.length cc)] w fun e w' => e = .returned (.bool (decide (COk n f) && (rgtP n f t && msamB (mP t.pv t.ps t.pw) t))) ∧ Below w.heap.size w w' := by
 obtain ⟨s1, s2, s3, s4⟩:=hs
 have SA:=hide fun w => implSaying_2 t (.slice ao t.bw.length ca) (.slice bo t.pw.length cb) (.slice co t.qw.length cc) w hk
 have CO:=hide fun w => implConfOk n f w
 have HN : Hid (decide (COk n f) = true → IntKind.i64.wrap (n - 1) = n - 1):=hide fun h => by rw [IntKind.wrap_i64] <;> (have:=of_decide_eq_true h; unfold COk at this; omega)
 have RT:=hide fun w (hE : Env w) ha => implRightP n f t.pv t.ps bo cb t.pw w s3 hE ha
 have MO:=hide fun w => implMessageOf_2 t.pv t.ps t.pw (.slice bo t.pw.length cb) ⟨_, _, _, rfl⟩ w
 have SM:=hide fun w hP h1 h2 h3 h4 h5 h6 => implMsgSame (mP t.pv t.ps t.pw) t .none bo .none ao bo co 0 cb 0 ca cb cc w (MI.nul rfl rfl) hm hP h1 h2 h3 h4 h5 h6
 have HE:=hide hE
 have ha1:=hide ha
 have hb1:=hide hb
 have hc1:=hide hc
 clear hE ha hb hc hm s1 s2 s3 s4 hk
 unfold rgtP
 generalize msamB (mP t.pv t.ps t.pw) t = r2 at *
 generalize (pokB n f t.pv t.ps t.pw && !(t.ps.toList == [])) = r1 at *
 generalize decide (COk n f) = b1 at *
 obtain ⟨w0, hw0, Bw0, LC, A, zw0⟩:=bx2 w #[.int .i64 n,.int .i64 f] 39 #[.int .i64 t.k,.int .i64 t.vw,.string t.bn,.int .i64 t.bv,.string t.bs,.slice ao t.bw.length ca,.int .i64 t.pv,.string t.ps,.slice bo t.pw.length cb,.int .i64 t.qv,.string t.qs,.slice co t.qw.length cc,.int .i64 t.wh,.int .i64 t.fr,.int .i64 t.tu,.int .i64 t.am,.int .i64 t.no] 86
 go_enter Tryz.func120, Tryz.ntmps120
 go_wp2_with (first | (refine wload A 86 _ rfl _ rfl rfl Tryz.underlying86 rfl (by kernel_rfl) ?_))
 clear hw0
 refine (SA.out _).mono ?_
 rintro _ w1 ⟨rfl, bb⟩
 have Bw1:=bu Bw0 bb
 have sw1:=bb.size
 replace LC:=LC.up bb
 replace A:=A.up bb
 clear Bw0
 clear bb
 clear SA
 cases b1
 ·have K : Hid (∀ w', Below w1.heap.size w1 w' → (fun w' => Below w1.heap.size w1 w' ∧ (w'.cell? ⟨w.heap.size, 0, none⟩ = some (.int .i64 n) ∧ w'.cell? ⟨w.heap.size, 1, none⟩ = some (.int .i64 f)) ∧ Loc w' (w.heap.size + 1) #[.int .i64 t.k,.int .i64 t.vw,.string t.bn,.int .i64 t.bv,.string t.bs,.slice ao t.bw.length ca,.int .i64 t.pv,.string t.ps,.slice bo t.pw.length cb,.int .i64 t.qv,.string t.qs,.slice co t.qw.length cc,.int .i64 t.wh,.int .i64 t.fr,.int .i64 t.tu,.int .i64 t.am,.int .i64 t.no]) w'):=hide fun w' hb' => ⟨hb', ⟨(LC.up hb').cell 0 rfl, (LC.up hb').cell 1 rfl⟩, A.up hb'⟩
  go_upto_region 2 with fail
  have bA : Below w1.heap.size w1 w1.drew:=Below.drew (Below.refl _ _)
  refine wrn K bA (fun hHeld => ?_)
  refine' tj 0 8 rfl ?_ ?_;rotate_left
  ·intro w h;go_simp;try rfl
  simp only [pU]
  refine rd 1 rfl (fun KK hKK => ?_)
  go_simp
  have hgo:=bA
  refine (CO.out _).mono ?_
  rintro e wz2_1 ⟨rfl, bb⟩
  have bz1 : Below w1.heap.size w1 wz2_1:=bu bA bb
  clear bA hgo bb
  clear hHeld
  refine hKK.out _ _ (K.out _ bz1) (fun hHeld => ?_)
  clear hKK KK
  refine' tj 2 10 rfl ?_ ?_;rotate_left
  ·intro w h;go_simp;try rfl
  simp only [pU]
  refine sk 3 11 rfl (h := ?_)
  simp only [pU]
  refine sk 4 12 rfl (h := ?_)
  simp only [pU]
  refine' tj 5 13 rfl ?_ ?_;rotate_left
  ·intro w h;go_simp;try rfl
  simp only [pU]
  refine' tj 6 14 rfl ?_ ?_;rotate_left
  ·intro w h;go_simp;try rfl
  simp only [pU]
  refine sk 7 15 rfl (h := ?_)
  simp only [pU]
  refine sk 8 16 rfl (h := ?_)
  simp only [pU]
  refine sk 9 17 rfl (h := ?_)
  simp only [pU]
  refine' tj 10 18 rfl ?_ ?_;rotate_left
  ·intro w h;go_simp;try rfl
  simp only [pU]
  refine' tj 11 19 rfl ?_ ?_;rotate_left
  ·intro w h;go_simp;try rfl
  simp only [pU]
  refine sk 12 20 rfl (h := ?_)
  simp only [pU]
  refine sk 14 22 rfl (h := ?_)
  simp only [pU]
  refine sk 13 21 rfl (h := ?_)
  simp only [pU]
  refine sk 15 23 rfl (h := ?_)
  simp only [pU]
  refine' tj 16 24 rfl ?_ ?_;rotate_left
  ·intro w h;go_simp;try rfl
  simp only [pU]
  refine' tj 17 4 rfl ?_ ?_;rotate_left
  ·intro w h;go_simp;try rfl
  simp only [pU]
  clear hHeld
  refine wdn ?_
  have bb:=bz1
  have Bwz2_1:=bu Bw1 bb
  have swz2_1:=bb.size
  replace LC:=LC.up bb
  replace A:=A.up bb
  clear Bw1
  clear bb bz1 K
  go_wp2
  go_ret
  exact ⟨by simp, Bwz2_1⟩
 ·cases r1
  ·have K : Hid (∀ w', Below w1.heap.size w1 w' → (fun w' => Below w1.heap.size w1 w' ∧ (w'.cell? ⟨w.heap.size, 0, none⟩ = some (.int .i64 n) ∧ w'.cell? ⟨w.heap.size, 1, none⟩ = some (.int .i64 f)) ∧ Loc w' (w.heap.size + 1) #[.int .i64 t.k,.int .i64 t.vw,.string t.bn,.int .i64 t.bv,.string t.bs,.slice ao t.bw.length ca,.int .i64 t.pv,.string t.ps,.slice bo t.pw.length cb,.int .i64 t.qv,.string t.qs,.slice co t.qw.length cc,.int .i64 t.wh,.int .i64 t.fr,.int .i64 t.tu,.int .i64 t.am,.int .i64 t.no]) w'):=hide fun w' hb' => ⟨hb', ⟨(LC.up hb').cell 0 rfl, (LC.up hb').cell 1 rfl⟩, A.up hb'⟩
   go_upto_region 2 with fail
   have bA : Below w1.heap.size w1 w1.drew:=Below.drew (Below.refl _ _)
   refine wrn K bA (fun hHeld => ?_)
   refine' tj 0 8 rfl ?_ ?_;rotate_left
   ·intro w h;go_simp;try rfl
   simp only [pU]
   refine rd 1 rfl (fun KK hKK => ?_)
   go_simp
   have hgo:=bA
   refine (CO.out _).mono ?_
   rintro e wz2_1 ⟨rfl, bb⟩
   have bz1 : Below w1.heap.size w1 wz2_1:=bu bA bb
   clear bA hgo bb
   clear hHeld
   refine hKK.out _ _ (K.out _ bz1) (fun hHeld => ?_)
   clear hKK KK
   refine' tj 2 10 rfl ?_ ?_;rotate_left
   ·intro w h;go_simp;try rfl
   simp only [pU]
   refine' tj 3 11 rfl ?_ ?_;rotate_left
   ·intro w h;go_simp;try rfl
   simp only [pU]
   refine' tj 4 12 rfl ?_ ?_;rotate_left
   ·intro w h;go_simp;try rfl
   simp only [pU]
   refine' tj 5 13 rfl ?_ ?_;rotate_left
   ·intro w h;go_simp;try rfl
   simp only [pU]
   refine' tj 6 14 rfl ?_ ?_;rotate_left
   ·intro w h;go_simp;try rfl
   simp only [pU]
   refine' tj 7 15 rfl ?_ ?_;rotate_left
   ·intro w h;go_simp;try rfl
   simp only [pU]
   refine' tj 8 16 rfl ?_ ?_;rotate_left
   ·intro w h;go_simp;try rfl
   simp only [pU]
   refine rd 9 rfl (fun KK hKK => ?_)
   go_simp
   have hgo:=bz1
   refine (RT.out _ (HE.out.below (bu Bw1 hgo)) (hb1.out.below (bu Bw1 hgo))).mono ?_
   rintro e wz2_2 ⟨rfl, bb⟩
   have bz2 : Below w1.heap.size w1 wz2_2:=bu bz1 bb
   clear bz1 hgo bb
   clear hHeld
   refine hKK.out _ _ (K.out _ bz2) (fun hHeld => ?_)
   clear hKK KK
   refine' tj 10 18 rfl ?_ ?_;rotate_left
   ·intro w h;go_simp;try rfl
   simp only [pU]
   refine' tj 11 19 rfl ?_ ?_;rotate_left
   ·intro w h;go_simp;try rfl
   simp only [pU]
   refine sk 12 20 rfl (h := ?_)
   simp only [pU]
   refine sk 14 22 rfl (h := ?_)
   simp only [pU]
   refine sk 13 21 rfl (h := ?_)
   simp only [pU]
   refine sk 15 23 rfl (h := ?_)
   simp only [pU]
   refine' tj 16 24 rfl ?_ ?_;rotate_left
   ·intro w h;go_simp;try rfl
   simp only [pU]
   refine' tj 17 4 rfl ?_ ?_;rotate_left
   ·intro w h;go_simp;try rfl
   simp only [pU]
   clear hHeld
   refine wdn ?_
   have bb:=bz2
   have Bwz2_2:=bu Bw1 bb
   have swz2_2:=bb.size
   replace LC:=LC.up bb
   replace A:=A.up bb
   clear Bw1
   clear bb bz2 K
   go_wp2
   go_ret
   exact ⟨by simp, Bwz2_2⟩
  ·have K : Hid (∀ w', Below w1.heap.size w1 w' → (fun w' => Below w1.heap.size w1 w' ∧ (w'.cell? ⟨w.heap.size, 0, none⟩ = some (.int .i64 n) ∧ w'.cell? ⟨w.heap.size, 1, none⟩ = some (.int .i64 f)) ∧ Loc w' (w.heap.size + 1) #[.int .i64 t.k,.int .i64 t.vw,.string t.bn,.int .i64 t.bv,.string t.bs,.slice ao t.bw.length ca,.int .i64 t.pv,.string t.ps,.slice bo t.pw.length cb,.int .i64 t.qv,.string t.qs,.slice co t.qw.length cc,.int .i64 t.wh,.int .i64 t.fr,.int .i64 t.tu,.int .i64 t.am,.int .i64 t.no]) w'):=hide fun w' hb' => ⟨hb', ⟨(LC.up hb').cell 0 rfl, (LC.up hb').cell 1 rfl⟩, A.up hb'⟩
   go_upto_region 2 with fail
   have bA : Below w1.heap.size w1 w1.drew:=Below.drew (Below.refl _ _)
   refine wrn K bA (fun hHeld => ?_)
   refine' tj 0 8 rfl ?_ ?_;rotate_left
   ·intro w h;go_simp;try rfl
   simp only [pU]
   refine rd 1 rfl (fun KK hKK => ?_)
   go_simp
   have hgo:=bA
   refine (CO.out _).mono ?_
   rintro e wz2_1 ⟨rfl, bb⟩
   have bz1 : Below w1.heap.size w1 wz2_1:=bu bA bb
   clear bA hgo bb
   clear hHeld
   refine hKK.out _ _ (K.out _ bz1) (fun hHeld => ?_)
   clear hKK KK
   refine' tj 2 10 rfl ?_ ?_;rotate_left
   ·intro w h;go_simp;try rfl
   simp only [pU]
   refine' tj 3 11 rfl ?_ ?_;rotate_left
   ·intro w h;go_simp;try rfl
   simp only [pU]
   refine' tj 4 12 rfl ?_ ?_;rotate_left
   ·intro w h;go_simp;try rfl
   simp only [pU]
   refine' tj 5 13 rfl ?_ ?_;rotate_left
   ·intro w h;go_simp;try rfl
   simp only [pU]
   refine' tj 6 14 rfl ?_ ?_;rotate_left
   ·intro w h;go_simp;try rfl
   simp only [pU]
   refine' tj 7 15 rfl ?_ ?_;rotate_left
   ·intro w h;go_simp;try rfl
   simp only [pU]
   refine' tj 8 16 rfl ?_ ?_;rotate_left
   ·intro w h;go_simp;try rfl
   simp only [pU]
   refine rd 9 rfl (fun KK hKK => ?_)
   go_simp
   have hgo:=bz1
   refine (RT.out _ (HE.out.below (bu Bw1 hgo)) (hb1.out.below (bu Bw1 hgo))).mono ?_
   rintro e wz2_2 ⟨rfl, bb⟩
   have bz2 : Below w1.heap.size w1 wz2_2:=bu bz1 bb
   clear bz1 hgo bb
   clear hHeld
   refine hKK.out _ _ (K.out _ bz2) (fun hHeld => ?_)
   clear hKK KK
   refine' tj 10 18 rfl ?_ ?_;rotate_left
   ·intro w h;go_simp;try rfl
   simp only [pU]
   refine' tj 11 19 rfl ?_ ?_;rotate_left
   ·intro w h;go_simp;try rfl
   simp only [pU]
   refine' tj 12 20 rfl ?_ ?_;rotate_left
   ·intro w h;go_simp;try rfl
   simp only [pU]
   refine take_at (i := 14) (d := 22) (v := .agg #[.int .i64 t.k,.int .i64 t.vw,.string t.bn,.int .i64 t.bv,.string t.bs,.slice ao t.bw.length ca,.int .i64 t.pv,.string t.ps,.slice bo t.pw.length cb,.int .i64 t.qv,.string t.qs,.slice co t.qw.length cc,.int .i64 t.wh,.int .i64 t.fr,.int .i64 t.tu,.int .i64 t.am,.int .i64 t.no]) rfl rfl (by kernel_rfl) (by kernel_rfl) (by kernel_rfl) (fun _ _ _ h => h) ?_ (by assumption) ?_
   ·exact yields_row rfl 86 _ rfl rfl _ (fun w h => h.2.2) Tryz.underlying86 rfl (by kernel_rfl)
   simp only [pU]
   refine rd 13 rfl (fun KK hKK => ?_)
   go_simp
   have hgo:=bz2
   refine (MO.out _).mono ?_
   rintro e wz2_3 ⟨rfl, bb⟩
   have bz3 : Below w1.heap.size w1 wz2_3:=bu bz2 bb
   clear bz2 hgo bb
   clear hHeld
   refine hKK.out _ _ (K.out _ bz3) (fun hHeld => ?_)
   clear hKK KK
   refine rd 15 rfl (fun KK hKK => ?_)
   go_simp
   have hgo:=bz3
   refine (SM.out _ (HE.out.below (bu Bw1 hgo)).pow (RI.none _) (hb1.out.below (bu Bw1 hgo)) (RI.none _) (ha1.out.below (bu Bw1 hgo)) (hb1.out.below (bu Bw1 hgo)) (hc1.out.below (bu Bw1 hgo))).mono ?_
   rintro e wz2_4 ⟨rfl, bb⟩
   have bz4 : Below w1.heap.size w1 wz2_4:=bu bz3 bb
   clear bz3 hgo bb
   clear hHeld
   refine hKK.out _ _ (K.out _ bz4) (fun hHeld => ?_)
   clear hKK KK
   refine' tj 16 24 rfl ?_ ?_;rotate_left
   ·intro w h;go_simp;try rfl
   simp only [pU]
   refine' tj 17 4 rfl ?_ ?_;rotate_left
   ·intro w h;go_simp;try rfl
   simp only [pU]
   clear hHeld
   refine wdn ?_
   have bb:=bz4
   have Bwz2_4:=bu Bw1 bb
   have swz2_4:=bb.size
   replace LC:=LC.up bb
   replace A:=A.up bb
   clear Bw1
   clear bb bz4 K
   go_wp2
   go_ret
   exact ⟨by simp, Bwz2_4⟩
theorem implMsgOk_3 (n f : Int) (t : MT) (ao bo co : Option Addr) (ca cb cc : Nat) (w : World) (hk : t.k = 3) (hs : MH t) (hm : MI t) (hE : Env w) (ha : RI w (.slice ao t.bw.length ca) t.bw) (hb : RI w (.slice bo t.pw.length cb) t.pw) (hc : RI w (.slice co t.qw.length cc) t.qw) :
 Calls Tryz.prog 120 #[cv n f, mgv t (.slice ao t.bw.length ca) (.slice bo t.pw.length cb) (.slice co t.qw.length cc)] w fun e w' => e = .returned (.bool (decide (COk n f) && (rgtV n f t && msamB (mV t.vw t.wh t.qv t.qs t.qw) t))) ∧ Below w.heap.size w w' := by
 obtain ⟨s1, s2, s3, s4⟩:=hs
 have SA:=hide fun w => implSaying_3 t (.slice ao t.bw.length ca) (.slice bo t.pw.length cb) (.slice co t.qw.length cc) w hk
 have CO:=hide fun w => implConfOk n f w
 have HN : Hid (decide (COk n f) = true → IntKind.i64.wrap (n - 1) = n - 1):=hide fun h => by rw [IntKind.wrap_i64] <;> (have:=of_decide_eq_true h; unfold COk at this; omega)
 have RT:=hide fun w (hn : IntKind.i64.wrap (n - 1) = n - 1) (hE : Env w) ha => implRightV n f t.vw t.wh t.qv t.qs co cc t.qw w hn s4 hE ha
 have MO:=hide fun w => implMessageOf_3 t.vw t.wh t.qv t.qs t.qw (.slice co t.qw.length cc) ⟨_, _, _, rfl⟩ w
 have SM:=hide fun w hP h1 h2 h3 h4 h5 h6 => implMsgSame (mV t.vw t.wh t.qv t.qs t.qw) t .none .none co ao bo co 0 0 cc ca cb cc w (MI.nul rfl rfl) hm hP h1 h2 h3 h4 h5 h6
 have HE:=hide hE
 have ha1:=hide ha
 have hb1:=hide hb
 have hc1:=hide hc
 clear hE ha hb hc hm s1 s2 s3 s4 hk
 unfold rgtV
 generalize msamB (mV t.vw t.wh t.qv t.qs t.qw) t = r2 at *
 generalize (decide (1 ≤ t.vw ∧ t.vw ≤ 60) && (qokB n f t.qv t.qs t.qw && decide (0 ≤ t.wh ∧ t.wh ≤ n - 1))) = r1 at *
 generalize decide (COk n f) = b1 at *
 obtain ⟨w0, hw0, Bw0, LC, A, zw0⟩:=bx2 w #[.int .i64 n,.int .i64 f] 39 #[.int .i64 t.k,.int .i64 t.vw,.string t.bn,.int .i64 t.bv,.string t.bs,.slice ao t.bw.length ca,.int .i64 t.pv,.string t.ps,.slice bo t.pw.length cb,.int .i64 t.qv,.string t.qs,.slice co t.qw.length cc,.int .i64 t.wh,.int .i64 t.fr,.int .i64 t.tu,.int .i64 t.am,.int .i64 t.no] 86
 go_enter Tryz.func120, Tryz.ntmps120
 go_wp2_with (first | (refine wload A 86 _ rfl _ rfl rfl Tryz.underlying86 rfl (by kernel_rfl) ?_))
 clear hw0
 refine (SA.out _).mono ?_
 rintro _ w1 ⟨rfl, bb⟩
 have Bw1:=bu Bw0 bb
 have sw1:=bb.size
 replace LC:=LC.up bb
 replace A:=A.up bb
 clear Bw0
 clear bb
 clear SA
 cases b1
 ·have K : Hid (∀ w', Below w1.heap.size w1 w' → (fun w' => Below w1.heap.size w1 w' ∧ (w'.cell? ⟨w.heap.size, 0, none⟩ = some (.int .i64 n) ∧ w'.cell? ⟨w.heap.size, 1, none⟩ = some (.int .i64 f)) ∧ Loc w' (w.heap.size + 1) #[.int .i64 t.k,.int .i64 t.vw,.string t.bn,.int .i64 t.bv,.string t.bs,.slice ao t.bw.length ca,.int .i64 t.pv,.string t.ps,.slice bo t.pw.length cb,.int .i64 t.qv,.string t.qs,.slice co t.qw.length cc,.int .i64 t.wh,.int .i64 t.fr,.int .i64 t.tu,.int .i64 t.am,.int .i64 t.no]) w'):=hide fun w' hb' => ⟨hb', ⟨(LC.up hb').cell 0 rfl, (LC.up hb').cell 1 rfl⟩, A.up hb'⟩
  go_upto_region 2 with fail
  have bA : Below w1.heap.size w1 w1.drew:=Below.drew (Below.refl _ _)
  refine wrn K bA (fun hHeld => ?_)
  refine' tj 0 8 rfl ?_ ?_;rotate_left
  ·intro w h;go_simp;try rfl
  simp only [pU]
  refine rd 1 rfl (fun KK hKK => ?_)
  go_simp
  have hgo:=bA
  refine (CO.out _).mono ?_
  rintro e wz2_1 ⟨rfl, bb⟩
  have bz1 : Below w1.heap.size w1 wz2_1:=bu bA bb
  clear bA hgo bb
  clear hHeld
  refine hKK.out _ _ (K.out _ bz1) (fun hHeld => ?_)
  clear hKK KK
  refine' tj 2 10 rfl ?_ ?_;rotate_left
  ·intro w h;go_simp;try rfl
  simp only [pU]
  refine sk 3 11 rfl (h := ?_)
  simp only [pU]
  refine sk 4 12 rfl (h := ?_)
  simp only [pU]
  refine' tj 5 13 rfl ?_ ?_;rotate_left
  ·intro w h;go_simp;try rfl
  simp only [pU]
  refine' tj 6 14 rfl ?_ ?_;rotate_left
  ·intro w h;go_simp;try rfl
  simp only [pU]
  refine sk 7 15 rfl (h := ?_)
  simp only [pU]
  refine sk 8 16 rfl (h := ?_)
  simp only [pU]
  refine sk 9 17 rfl (h := ?_)
  simp only [pU]
  refine' tj 10 18 rfl ?_ ?_;rotate_left
  ·intro w h;go_simp;try rfl
  simp only [pU]
  refine' tj 11 19 rfl ?_ ?_;rotate_left
  ·intro w h;go_simp;try rfl
  simp only [pU]
  refine sk 12 20 rfl (h := ?_)
  simp only [pU]
  refine sk 14 22 rfl (h := ?_)
  simp only [pU]
  refine sk 13 21 rfl (h := ?_)
  simp only [pU]
  refine sk 15 23 rfl (h := ?_)
  simp only [pU]
  refine' tj 16 24 rfl ?_ ?_;rotate_left
  ·intro w h;go_simp;try rfl
  simp only [pU]
  refine' tj 17 4 rfl ?_ ?_;rotate_left
  ·intro w h;go_simp;try rfl
  simp only [pU]
  clear hHeld
  refine wdn ?_
  have bb:=bz1
  have Bwz2_1:=bu Bw1 bb
  have swz2_1:=bb.size
  replace LC:=LC.up bb
  replace A:=A.up bb
  clear Bw1
  clear bb bz1 K
  go_wp2
  go_ret
  exact ⟨by simp, Bwz2_1⟩
 ·cases r1
  ·have K : Hid (∀ w', Below w1.heap.size w1 w' → (fun w' => Below w1.heap.size w1 w' ∧ (w'.cell? ⟨w.heap.size, 0, none⟩ = some (.int .i64 n) ∧ w'.cell? ⟨w.heap.size, 1, none⟩ = some (.int .i64 f)) ∧ Loc w' (w.heap.size + 1) #[.int .i64 t.k,.int .i64 t.vw,.string t.bn,.int .i64 t.bv,.string t.bs,.slice ao t.bw.length ca,.int .i64 t.pv,.string t.ps,.slice bo t.pw.length cb,.int .i64 t.qv,.string t.qs,.slice co t.qw.length cc,.int .i64 t.wh,.int .i64 t.fr,.int .i64 t.tu,.int .i64 t.am,.int .i64 t.no]) w'):=hide fun w' hb' => ⟨hb', ⟨(LC.up hb').cell 0 rfl, (LC.up hb').cell 1 rfl⟩, A.up hb'⟩
   go_upto_region 2 with fail
   have bA : Below w1.heap.size w1 w1.drew:=Below.drew (Below.refl _ _)
   refine wrn K bA (fun hHeld => ?_)
   refine' tj 0 8 rfl ?_ ?_;rotate_left
   ·intro w h;go_simp;try rfl
   simp only [pU]
   refine rd 1 rfl (fun KK hKK => ?_)
   go_simp
   have hgo:=bA
   refine (CO.out _).mono ?_
   rintro e wz2_1 ⟨rfl, bb⟩
   have bz1 : Below w1.heap.size w1 wz2_1:=bu bA bb
   clear bA hgo bb
   clear hHeld
   refine hKK.out _ _ (K.out _ bz1) (fun hHeld => ?_)
   clear hKK KK
   refine' tj 2 10 rfl ?_ ?_;rotate_left
   ·intro w h;go_simp;try rfl
   simp only [pU]
   refine' tj 3 11 rfl ?_ ?_;rotate_left
   ·intro w h;go_simp;try rfl
   simp only [pU]
   refine' tj 4 12 rfl ?_ ?_;rotate_left
   ·intro w h;go_simp;try rfl
   simp only [pU]
   refine' tj 5 13 rfl ?_ ?_;rotate_left
   ·intro w h;go_simp;try rfl
   simp only [pU]
   refine' tj 6 14 rfl ?_ ?_;rotate_left
   ·intro w h;go_simp;try rfl
   simp only [pU]
   refine' tj 7 15 rfl ?_ ?_;rotate_left
   ·intro w h;go_simp;try rfl
   simp only [pU]
   refine' tj 8 16 rfl ?_ ?_;rotate_left
   ·intro w h;go_simp;try rfl
   simp only [pU]
   refine rd 9 rfl (fun KK hKK => ?_)
   go_simp
   have hgo:=bz1
   refine (RT.out _ (HN.out (by trivial)) (HE.out.below (bu Bw1 hgo)) (hc1.out.below (bu Bw1 hgo))).mono ?_
   rintro e wz2_2 ⟨rfl, bb⟩
   have bz2 : Below w1.heap.size w1 wz2_2:=bu bz1 bb
   clear bz1 hgo bb
   clear hHeld
   refine hKK.out _ _ (K.out _ bz2) (fun hHeld => ?_)
   clear hKK KK
   refine' tj 10 18 rfl ?_ ?_;rotate_left
   ·intro w h;go_simp;try rfl
   simp only [pU]
   refine' tj 11 19 rfl ?_ ?_;rotate_left
   ·intro w h;go_simp;try rfl
   simp only [pU]
   refine sk 12 20 rfl (h := ?_)
   simp only [pU]
   refine sk 14 22 rfl (h := ?_)
   simp only [pU]
   refine sk 13 21 rfl (h := ?_)
   simp only [pU]
   refine sk 15 23 rfl (h := ?_)
   simp only [pU]
   refine' tj 16 24 rfl ?_ ?_;rotate_left
   ·intro w h;go_simp;try rfl
   simp only [pU]
   refine' tj 17 4 rfl ?_ ?_;rotate_left
   ·intro w h;go_simp;try rfl
   simp only [pU]
   clear hHeld
   refine wdn ?_
   have bb:=bz2
   have Bwz2_2:=bu Bw1 bb
   have swz2_2:=bb.size
   replace LC:=LC.up bb
   replace A:=A.up bb
   clear Bw1
   clear bb bz2 K
   go_wp2
   go_ret
   exact ⟨by simp, Bwz2_2⟩
  ·have K : Hid (∀ w', Below w1.heap.size w1 w' → (fun w' => Below w1.heap.size w1 w' ∧ (w'.cell? ⟨w.heap.size, 0, none⟩ = some (.int .i64 n) ∧ w'.cell? ⟨w.heap.size, 1, none⟩ = some (.int .i64 f)) ∧ Loc w' (w.heap.size + 1) #[.int .i64 t.k,.int .i64 t.vw,.string t.bn,.int .i64 t.bv,.string t.bs,.slice ao t.bw.length ca,.int .i64 t.pv,.string t.ps,.slice bo t.pw.length cb,.int .i64 t.qv,.string t.qs,.slice co t.qw.length cc,.int .i64 t.wh,.int .i64 t.fr,.int .i64 t.tu,.int .i64 t.am,.int .i64 t.no]) w'):=hide fun w' hb' => ⟨hb', ⟨(LC.up hb').cell 0 rfl, (LC.up hb').cell 1 rfl⟩, A.up hb'⟩
   go_upto_region 2 with fail
   have bA : Below w1.heap.size w1 w1.drew:=Below.drew (Below.refl _ _)
   refine wrn K bA (fun hHeld => ?_)
   refine' tj 0 8 rfl ?_ ?_;rotate_left
   ·intro w h;go_simp;try rfl
   simp only [pU]
   refine rd 1 rfl (fun KK hKK => ?_)
   go_simp
   have hgo:=bA
   refine (CO.out _).mono ?_
   rintro e wz2_1 ⟨rfl, bb⟩
   have bz1 : Below w1.heap.size w1 wz2_1:=bu bA bb
   clear bA hgo bb
   clear hHeld
   refine hKK.out _ _ (K.out _ bz1) (fun hHeld => ?_)
   clear hKK KK
   refine' tj 2 10 rfl ?_ ?_;rotate_left
   ·intro w h;go_simp;try rfl
   simp only [pU]
   refine' tj 3 11 rfl ?_ ?_;rotate_left
   ·intro w h;go_simp;try rfl
   simp only [pU]
   refine' tj 4 12 rfl ?_ ?_;rotate_left
   ·intro w h;go_simp;try rfl
   simp only [pU]
   refine' tj 5 13 rfl ?_ ?_;rotate_left
   ·intro w h;go_simp;try rfl
   simp only [pU]
   refine' tj 6 14 rfl ?_ ?_;rotate_left
   ·intro w h;go_simp;try rfl
   simp only [pU]
   refine' tj 7 15 rfl ?_ ?_;rotate_left
   ·intro w h;go_simp;try rfl
   simp only [pU]
   refine' tj 8 16 rfl ?_ ?_;rotate_left
   ·intro w h;go_simp;try rfl
   simp only [pU]
   refine rd 9 rfl (fun KK hKK => ?_)
   go_simp
   have hgo:=bz1
   refine (RT.out _ (HN.out (by trivial)) (HE.out.below (bu Bw1 hgo)) (hc1.out.below (bu Bw1 hgo))).mono ?_
   rintro e wz2_2 ⟨rfl, bb⟩
   have bz2 : Below w1.heap.size w1 wz2_2:=bu bz1 bb
   clear bz1 hgo bb
   clear hHeld
   refine hKK.out _ _ (K.out _ bz2) (fun hHeld => ?_)
   clear hKK KK
   refine' tj 10 18 rfl ?_ ?_;rotate_left
   ·intro w h;go_simp;try rfl
   simp only [pU]
   refine' tj 11 19 rfl ?_ ?_;rotate_left
   ·intro w h;go_simp;try rfl
   simp only [pU]
   refine' tj 12 20 rfl ?_ ?_;rotate_left
   ·intro w h;go_simp;try rfl
   simp only [pU]
   refine take_at (i := 14) (d := 22) (v := .agg #[.int .i64 t.k,.int .i64 t.vw,.string t.bn,.int .i64 t.bv,.string t.bs,.slice ao t.bw.length ca,.int .i64 t.pv,.string t.ps,.slice bo t.pw.length cb,.int .i64 t.qv,.string t.qs,.slice co t.qw.length cc,.int .i64 t.wh,.int .i64 t.fr,.int .i64 t.tu,.int .i64 t.am,.int .i64 t.no]) rfl rfl (by kernel_rfl) (by kernel_rfl) (by kernel_rfl) (fun _ _ _ h => h) ?_ (by assumption) ?_
   ·exact yields_row rfl 86 _ rfl rfl _ (fun w h => h.2.2) Tryz.underlying86 rfl (by kernel_rfl)
   simp only [pU]
   refine rd 13 rfl (fun KK hKK => ?_)
   go_simp
   have hgo:=bz2
   refine (MO.out _).mono ?_
   rintro e wz2_3 ⟨rfl, bb⟩
   have bz3 : Below w1.heap.size w1 wz2_3:=bu bz2 bb
   clear bz2 hgo bb
   clear hHeld
   refine hKK.out _ _ (K.out _ bz3) (fun hHeld => ?_)
   clear hKK KK
   refine rd 15 rfl (fun KK hKK => ?_)
   go_simp
   have hgo:=bz3
   refine (SM.out _ (HE.out.below (bu Bw1 hgo)).pow (RI.none _) (RI.none _) (hc1.out.below (bu Bw1 hgo)) (ha1.out.below (bu Bw1 hgo)) (hb1.out.below (bu Bw1 hgo)) (hc1.out.below (bu Bw1 hgo))).mono ?_
   rintro e wz2_4 ⟨rfl, bb⟩
   have bz4 : Below w1.heap.size w1 wz2_4:=bu bz3 bb
   clear bz3 hgo bb
   clear hHeld
   refine hKK.out _ _ (K.out _ bz4) (fun hHeld => ?_)
   clear hKK KK
   refine' tj 16 24 rfl ?_ ?_;rotate_left
   ·intro w h;go_simp;try rfl
   simp only [pU]
   refine' tj 17 4 rfl ?_ ?_;rotate_left
   ·intro w h;go_simp;try rfl
   simp only [pU]
   clear hHeld
   refine wdn ?_
   have bb:=bz4
   have Bwz2_4:=bu Bw1 bb
   have swz2_4:=bb.size
   replace LC:=LC.up bb
   replace A:=A.up bb
   clear Bw1
   clear bb bz4 K
   go_wp2
   go_ret
   exact ⟨by simp, Bwz2_4⟩
theorem implMsgOk_4 (n f : Int) (t : MT) (ao bo co : Option Addr) (ca cb cc : Nat) (w : World) (hk : t.k = 4) (hs : MH t) (hm : MI t) (hE : Env w) (ha : RI w (.slice ao t.bw.length ca) t.bw) (hb : RI w (.slice bo t.pw.length cb) t.pw) (hc : RI w (.slice co t.qw.length cc) t.qw) :
 Calls Tryz.prog 120 #[cv n f, mgv t (.slice ao t.bw.length ca) (.slice bo t.pw.length cb) (.slice co t.qw.length cc)] w fun e w' => e = .returned (.bool (decide (COk n f) && (rgtX t && msamB (mX t.fr t.tu t.am t.no) t))) ∧ Below w.heap.size w w' := by
 obtain ⟨s1, s2, s3, s4⟩:=hs
 have SA:=hide fun w => implSaying_4 t (.slice ao t.bw.length ca) (.slice bo t.pw.length cb) (.slice co t.qw.length cc) w hk
 have CO:=hide fun w => implConfOk n f w
 have HN : Hid (decide (COk n f) = true → IntKind.i64.wrap (n - 1) = n - 1):=hide fun h => by rw [IntKind.wrap_i64] <;> (have:=of_decide_eq_true h; unfold COk at this; omega)
 have RT:=hide fun w => implRightX n f t.fr t.tu t.am t.no w
 have MO:=hide fun w => implMessageOf_4 t.fr t.tu t.am t.no w
 have SM:=hide fun w hP h1 h2 h3 h4 h5 h6 => implMsgSame (mX t.fr t.tu t.am t.no) t .none .none .none ao bo co 0 0 0 ca cb cc w (MI.nul rfl rfl) hm hP h1 h2 h3 h4 h5 h6
 have HE:=hide hE
 have ha1:=hide ha
 have hb1:=hide hb
 have hc1:=hide hc
 clear hE ha hb hc hm s1 s2 s3 s4 hk
 unfold rgtX
 generalize msamB (mX t.fr t.tu t.am t.no) t = r2 at *
 generalize decide (Ok4 t.fr t.tu t.am t.no) = r1 at *
 generalize decide (COk n f) = b1 at *
 obtain ⟨w0, hw0, Bw0, LC, A, zw0⟩:=bx2 w #[.int .i64 n,.int .i64 f] 39 #[.int .i64 t.k,.int .i64 t.vw,.string t.bn,.int .i64 t.bv,.string t.bs,.slice ao t.bw.length ca,.int .i64 t.pv,.string t.ps,.slice bo t.pw.length cb,.int .i64 t.qv,.string t.qs,.slice co t.qw.length cc,.int .i64 t.wh,.int .i64 t.fr,.int .i64 t.tu,.int .i64 t.am,.int .i64 t.no] 86
 go_enter Tryz.func120, Tryz.ntmps120
 go_wp2_with (first | (refine wload A 86 _ rfl _ rfl rfl Tryz.underlying86 rfl (by kernel_rfl) ?_))
 clear hw0
 refine (SA.out _).mono ?_
 rintro _ w1 ⟨rfl, bb⟩
 have Bw1:=bu Bw0 bb
 have sw1:=bb.size
 replace LC:=LC.up bb
 replace A:=A.up bb
 clear Bw0
 clear bb
 clear SA
 cases b1
 ·have K : Hid (∀ w', Below w1.heap.size w1 w' → (fun w' => Below w1.heap.size w1 w' ∧ (w'.cell? ⟨w.heap.size, 0, none⟩ = some (.int .i64 n) ∧ w'.cell? ⟨w.heap.size, 1, none⟩ = some (.int .i64 f)) ∧ Loc w' (w.heap.size + 1) #[.int .i64 t.k,.int .i64 t.vw,.string t.bn,.int .i64 t.bv,.string t.bs,.slice ao t.bw.length ca,.int .i64 t.pv,.string t.ps,.slice bo t.pw.length cb,.int .i64 t.qv,.string t.qs,.slice co t.qw.length cc,.int .i64 t.wh,.int .i64 t.fr,.int .i64 t.tu,.int .i64 t.am,.int .i64 t.no]) w'):=hide fun w' hb' => ⟨hb', ⟨(LC.up hb').cell 0 rfl, (LC.up hb').cell 1 rfl⟩, A.up hb'⟩
  go_upto_region 2 with fail
  have bA : Below w1.heap.size w1 w1.drew:=Below.drew (Below.refl _ _)
  refine wrn K bA (fun hHeld => ?_)
  refine' tj 0 8 rfl ?_ ?_;rotate_left
  ·intro w h;go_simp;try rfl
  simp only [pU]
  refine rd 1 rfl (fun KK hKK => ?_)
  go_simp
  have hgo:=bA
  refine (CO.out _).mono ?_
  rintro e wz2_1 ⟨rfl, bb⟩
  have bz1 : Below w1.heap.size w1 wz2_1:=bu bA bb
  clear bA hgo bb
  clear hHeld
  refine hKK.out _ _ (K.out _ bz1) (fun hHeld => ?_)
  clear hKK KK
  refine' tj 2 10 rfl ?_ ?_;rotate_left
  ·intro w h;go_simp;try rfl
  simp only [pU]
  refine sk 3 11 rfl (h := ?_)
  simp only [pU]
  refine sk 4 12 rfl (h := ?_)
  simp only [pU]
  refine' tj 5 13 rfl ?_ ?_;rotate_left
  ·intro w h;go_simp;try rfl
  simp only [pU]
  refine' tj 6 14 rfl ?_ ?_;rotate_left
  ·intro w h;go_simp;try rfl
  simp only [pU]
  refine sk 7 15 rfl (h := ?_)
  simp only [pU]
  refine sk 8 16 rfl (h := ?_)
  simp only [pU]
  refine sk 9 17 rfl (h := ?_)
  simp only [pU]
  refine' tj 10 18 rfl ?_ ?_;rotate_left
  ·intro w h;go_simp;try rfl
  simp only [pU]
  refine' tj 11 19 rfl ?_ ?_;rotate_left
  ·intro w h;go_simp;try rfl
  simp only [pU]
  refine sk 12 20 rfl (h := ?_)
  simp only [pU]
  refine sk 14 22 rfl (h := ?_)
  simp only [pU]
  refine sk 13 21 rfl (h := ?_)
  simp only [pU]
  refine sk 15 23 rfl (h := ?_)
  simp only [pU]
  refine' tj 16 24 rfl ?_ ?_;rotate_left
  ·intro w h;go_simp;try rfl
  simp only [pU]
  refine' tj 17 4 rfl ?_ ?_;rotate_left
  ·intro w h;go_simp;try rfl
  simp only [pU]
  clear hHeld
  refine wdn ?_
  have bb:=bz1
  have Bwz2_1:=bu Bw1 bb
  have swz2_1:=bb.size
  replace LC:=LC.up bb
  replace A:=A.up bb
  clear Bw1
  clear bb bz1 K
  go_wp2
  go_ret
  exact ⟨by simp, Bwz2_1⟩
 ·cases r1
  ·have K : Hid (∀ w', Below w1.heap.size w1 w' → (fun w' => Below w1.heap.size w1 w' ∧ (w'.cell? ⟨w.heap.size, 0, none⟩ = some (.int .i64 n) ∧ w'.cell? ⟨w.heap.size, 1, none⟩ = some (.int .i64 f)) ∧ Loc w' (w.heap.size + 1) #[.int .i64 t.k,.int .i64 t.vw,.string t.bn,.int .i64 t.bv,.string t.bs,.slice ao t.bw.length ca,.int .i64 t.pv,.string t.ps,.slice bo t.pw.length cb,.int .i64 t.qv,.string t.qs,.slice co t.qw.length cc,.int .i64 t.wh,.int .i64 t.fr,.int .i64 t.tu,.int .i64 t.am,.int .i64 t.no]) w'):=hide fun w' hb' => ⟨hb', ⟨(LC.up hb').cell 0 rfl, (LC.up hb').cell 1 rfl⟩, A.up hb'⟩
   go_upto_region 2 with fail
   have bA : Below w1.heap.size w1 w1.drew:=Below.drew (Below.refl _ _)
   refine wrn K bA (fun hHeld => ?_)
   refine' tj 0 8 rfl ?_ ?_;rotate_left
   ·intro w h;go_simp;try rfl
   simp only [pU]
   refine rd 1 rfl (fun KK hKK => ?_)
   go_simp
   have hgo:=bA
   refine (CO.out _).mono ?_
   rintro e wz2_1 ⟨rfl, bb⟩
   have bz1 : Below w1.heap.size w1 wz2_1:=bu bA bb
   clear bA hgo bb
   clear hHeld
   refine hKK.out _ _ (K.out _ bz1) (fun hHeld => ?_)
   clear hKK KK
   refine' tj 2 10 rfl ?_ ?_;rotate_left
   ·intro w h;go_simp;try rfl
   simp only [pU]
   refine' tj 3 11 rfl ?_ ?_;rotate_left
   ·intro w h;go_simp;try rfl
   simp only [pU]
   refine' tj 4 12 rfl ?_ ?_;rotate_left
   ·intro w h;go_simp;try rfl
   simp only [pU]
   refine' tj 5 13 rfl ?_ ?_;rotate_left
   ·intro w h;go_simp;try rfl
   simp only [pU]
   refine' tj 6 14 rfl ?_ ?_;rotate_left
   ·intro w h;go_simp;try rfl
   simp only [pU]
   refine' tj 7 15 rfl ?_ ?_;rotate_left
   ·intro w h;go_simp;try rfl
   simp only [pU]
   refine' tj 8 16 rfl ?_ ?_;rotate_left
   ·intro w h;go_simp;try rfl
   simp only [pU]
   refine rd 9 rfl (fun KK hKK => ?_)
   go_simp
   have hgo:=bz1
   refine (RT.out _).mono ?_
   rintro e wz2_2 ⟨rfl, bb⟩
   have bz2 : Below w1.heap.size w1 wz2_2:=bu bz1 bb
   clear bz1 hgo bb
   clear hHeld
   refine hKK.out _ _ (K.out _ bz2) (fun hHeld => ?_)
   clear hKK KK
   refine' tj 10 18 rfl ?_ ?_;rotate_left
   ·intro w h;go_simp;try rfl
   simp only [pU]
   refine' tj 11 19 rfl ?_ ?_;rotate_left
   ·intro w h;go_simp;try rfl
   simp only [pU]
   refine sk 12 20 rfl (h := ?_)
   simp only [pU]
   refine sk 14 22 rfl (h := ?_)
   simp only [pU]
   refine sk 13 21 rfl (h := ?_)
   simp only [pU]
   refine sk 15 23 rfl (h := ?_)
   simp only [pU]
   refine' tj 16 24 rfl ?_ ?_;rotate_left
   ·intro w h;go_simp;try rfl
   simp only [pU]
   refine' tj 17 4 rfl ?_ ?_;rotate_left
   ·intro w h;go_simp;try rfl
   simp only [pU]
   clear hHeld
   refine wdn ?_
   have bb:=bz2
   have Bwz2_2:=bu Bw1 bb
   have swz2_2:=bb.size
   replace LC:=LC.up bb
   replace A:=A.up bb
   clear Bw1
   clear bb bz2 K
   go_wp2
   go_ret
   exact ⟨by simp, Bwz2_2⟩
  ·have K : Hid (∀ w', Below w1.heap.size w1 w' → (fun w' => Below w1.heap.size w1 w' ∧ (w'.cell? ⟨w.heap.size, 0, none⟩ = some (.int .i64 n) ∧ w'.cell? ⟨w.heap.size, 1, none⟩ = some (.int .i64 f)) ∧ Loc w' (w.heap.size + 1) #[.int .i64 t.k,.int .i64 t.vw,.string t.bn,.int .i64 t.bv,.string t.bs,.slice ao t.bw.length ca,.int .i64 t.pv,.string t.ps,.slice bo t.pw.length cb,.int .i64 t.qv,.string t.qs,.slice co t.qw.length cc,.int .i64 t.wh,.int .i64 t.fr,.int .i64 t.tu,.int .i64 t.am,.int .i64 t.no]) w'):=hide fun w' hb' => ⟨hb', ⟨(LC.up hb').cell 0 rfl, (LC.up hb').cell 1 rfl⟩, A.up hb'⟩
   go_upto_region 2 with fail
   have bA : Below w1.heap.size w1 w1.drew:=Below.drew (Below.refl _ _)
   refine wrn K bA (fun hHeld => ?_)
   refine' tj 0 8 rfl ?_ ?_;rotate_left
   ·intro w h;go_simp;try rfl
   simp only [pU]
   refine rd 1 rfl (fun KK hKK => ?_)
   go_simp
   have hgo:=bA
   refine (CO.out _).mono ?_
   rintro e wz2_1 ⟨rfl, bb⟩
   have bz1 : Below w1.heap.size w1 wz2_1:=bu bA bb
   clear bA hgo bb
   clear hHeld
   refine hKK.out _ _ (K.out _ bz1) (fun hHeld => ?_)
   clear hKK KK
   refine' tj 2 10 rfl ?_ ?_;rotate_left
   ·intro w h;go_simp;try rfl
   simp only [pU]
   refine' tj 3 11 rfl ?_ ?_;rotate_left
   ·intro w h;go_simp;try rfl
   simp only [pU]
   refine' tj 4 12 rfl ?_ ?_;rotate_left
   ·intro w h;go_simp;try rfl
   simp only [pU]
   refine' tj 5 13 rfl ?_ ?_;rotate_left
   ·intro w h;go_simp;try rfl
   simp only [pU]
   refine' tj 6 14 rfl ?_ ?_;rotate_left
   ·intro w h;go_simp;try rfl
   simp only [pU]
   refine' tj 7 15 rfl ?_ ?_;rotate_left
   ·intro w h;go_simp;try rfl
   simp only [pU]
   refine' tj 8 16 rfl ?_ ?_;rotate_left
   ·intro w h;go_simp;try rfl
   simp only [pU]
   refine rd 9 rfl (fun KK hKK => ?_)
   go_simp
   have hgo:=bz1
   refine (RT.out _).mono ?_
   rintro e wz2_2 ⟨rfl, bb⟩
   have bz2 : Below w1.heap.size w1 wz2_2:=bu bz1 bb
   clear bz1 hgo bb
   clear hHeld
   refine hKK.out _ _ (K.out _ bz2) (fun hHeld => ?_)
   clear hKK KK
   refine' tj 10 18 rfl ?_ ?_;rotate_left
   ·intro w h;go_simp;try rfl
   simp only [pU]
   refine' tj 11 19 rfl ?_ ?_;rotate_left
   ·intro w h;go_simp;try rfl
   simp only [pU]
   refine' tj 12 20 rfl ?_ ?_;rotate_left
   ·intro w h;go_simp;try rfl
   simp only [pU]
   refine take_at (i := 14) (d := 22) (v := .agg #[.int .i64 t.k,.int .i64 t.vw,.string t.bn,.int .i64 t.bv,.string t.bs,.slice ao t.bw.length ca,.int .i64 t.pv,.string t.ps,.slice bo t.pw.length cb,.int .i64 t.qv,.string t.qs,.slice co t.qw.length cc,.int .i64 t.wh,.int .i64 t.fr,.int .i64 t.tu,.int .i64 t.am,.int .i64 t.no]) rfl rfl (by kernel_rfl) (by kernel_rfl) (by kernel_rfl) (fun _ _ _ h => h) ?_ (by assumption) ?_
   ·exact yields_row rfl 86 _ rfl rfl _ (fun w h => h.2.2) Tryz.underlying86 rfl (by kernel_rfl)
   simp only [pU]
   refine rd 13 rfl (fun KK hKK => ?_)
   go_simp
   have hgo:=bz2
   refine (MO.out _).mono ?_
   rintro e wz2_3 ⟨rfl, bb⟩
   have bz3 : Below w1.heap.size w1 wz2_3:=bu bz2 bb
   clear bz2 hgo bb
   clear hHeld
   refine hKK.out _ _ (K.out _ bz3) (fun hHeld => ?_)
   clear hKK KK
   refine rd 15 rfl (fun KK hKK => ?_)
   go_simp
   have hgo:=bz3
   refine (SM.out _ (HE.out.below (bu Bw1 hgo)).pow (RI.none _) (RI.none _) (RI.none _) (ha1.out.below (bu Bw1 hgo)) (hb1.out.below (bu Bw1 hgo)) (hc1.out.below (bu Bw1 hgo))).mono ?_
   rintro e wz2_4 ⟨rfl, bb⟩
   have bz4 : Below w1.heap.size w1 wz2_4:=bu bz3 bb
   clear bz3 hgo bb
   clear hHeld
   refine hKK.out _ _ (K.out _ bz4) (fun hHeld => ?_)
   clear hKK KK
   refine' tj 16 24 rfl ?_ ?_;rotate_left
   ·intro w h;go_simp;try rfl
   simp only [pU]
   refine' tj 17 4 rfl ?_ ?_;rotate_left
   ·intro w h;go_simp;try rfl
   simp only [pU]
   clear hHeld
   refine wdn ?_
   have bb:=bz4
   have Bwz2_4:=bu Bw1 bb
   have swz2_4:=bb.size
   replace LC:=LC.up bb
   replace A:=A.up bb
   clear Bw1
   clear bb bz4 K
   go_wp2
   go_ret
   exact ⟨by simp, Bwz2_4⟩
set_option linter.unusedVariables false in
theorem implMsgOk_0 (n f : Int) (t : MT) (ao bo co : Option Addr) (ca cb cc : Nat) (w : World) (h1 : ¬ t.k = 1) (h2 : ¬ t.k = 2) (h3 : ¬ t.k = 3) (h4 : ¬ t.k = 4) (hs : MH t) (hm : MI t) (hE : Env w) (ha : RI w (.slice ao t.bw.length ca) t.bw) (hb : RI w (.slice bo t.pw.length cb) t.pw) (hc : RI w (.slice co t.qw.length cc) t.qw) :
 Calls Tryz.prog 120 #[cv n f, mgv t (.slice ao t.bw.length ca) (.slice bo t.pw.length cb) (.slice co t.qw.length cc)] w fun e w' => e = .returned (.bool (decide (COk n f) && false)) ∧ Below w.heap.size w w' := by
 obtain ⟨s1, s2, s3, s4⟩:=hs
 have SA:=hide fun w => implSaying_0 t (.slice ao t.bw.length ca) (.slice bo t.pw.length cb) (.slice co t.qw.length cc) w h1 h2 h3 h4
 have CO:=hide fun w => implConfOk n f w
 have HE:=hide hE
 have ha1:=hide ha
 have hb1:=hide hb
 have hc1:=hide hc
 clear hE ha hb hc hm s1 s2 s3 s4
 generalize decide (COk n f) = b1 at *
 obtain ⟨w0, hw0, Bw0, LC, A, zw0⟩:=bx2 w #[.int .i64 n,.int .i64 f] 39 #[.int .i64 t.k,.int .i64 t.vw,.string t.bn,.int .i64 t.bv,.string t.bs,.slice ao t.bw.length ca,.int .i64 t.pv,.string t.ps,.slice bo t.pw.length cb,.int .i64 t.qv,.string t.qs,.slice co t.qw.length cc,.int .i64 t.wh,.int .i64 t.fr,.int .i64 t.tu,.int .i64 t.am,.int .i64 t.no] 86
 go_enter Tryz.func120, Tryz.ntmps120
 go_wp2_with (first | (refine wload A 86 _ rfl _ rfl rfl Tryz.underlying86 rfl (by kernel_rfl) ?_))
 clear hw0
 refine (SA.out _).mono ?_
 rintro _ w1 ⟨rfl, bb⟩
 have Bw1:=bu Bw0 bb
 have sw1:=bb.size
 replace LC:=LC.up bb
 replace A:=A.up bb
 clear Bw0
 clear bb
 clear SA
 cases b1
 ·have K : Hid (∀ w', Below w1.heap.size w1 w' → (fun w' => Below w1.heap.size w1 w' ∧ (w'.cell? ⟨w.heap.size, 0, none⟩ = some (.int .i64 n) ∧ w'.cell? ⟨w.heap.size, 1, none⟩ = some (.int .i64 f)) ∧ Loc w' (w.heap.size + 1) #[.int .i64 t.k,.int .i64 t.vw,.string t.bn,.int .i64 t.bv,.string t.bs,.slice ao t.bw.length ca,.int .i64 t.pv,.string t.ps,.slice bo t.pw.length cb,.int .i64 t.qv,.string t.qs,.slice co t.qw.length cc,.int .i64 t.wh,.int .i64 t.fr,.int .i64 t.tu,.int .i64 t.am,.int .i64 t.no]) w'):=hide fun w' hb' => ⟨hb', ⟨(LC.up hb').cell 0 rfl, (LC.up hb').cell 1 rfl⟩, A.up hb'⟩
  go_upto_region 2 with fail
  have bA : Below w1.heap.size w1 w1.drew:=Below.drew (Below.refl _ _)
  refine wrn K bA (fun hHeld => ?_)
  refine' tj 0 8 rfl ?_ ?_;rotate_left
  ·intro w h;go_simp;try rfl
  simp only [pU]
  refine rd 1 rfl (fun KK hKK => ?_)
  go_simp
  have hgo:=bA
  refine (CO.out _).mono ?_
  rintro e wz2_1 ⟨rfl, bb⟩
  have bz1 : Below w1.heap.size w1 wz2_1:=bu bA bb
  clear bA hgo bb
  clear hHeld
  refine hKK.out _ _ (K.out _ bz1) (fun hHeld => ?_)
  clear hKK KK
  refine' tj 2 10 rfl ?_ ?_;rotate_left
  ·intro w h;go_simp;try rfl
  simp only [pU]
  refine sk 3 11 rfl (h := ?_)
  simp only [pU]
  refine sk 4 12 rfl (h := ?_)
  simp only [pU]
  refine' tj 5 13 rfl ?_ ?_;rotate_left
  ·intro w h;go_simp;try rfl
  simp only [pU]
  refine' tj 6 14 rfl ?_ ?_;rotate_left
  ·intro w h;go_simp;try rfl
  simp only [pU]
  refine sk 7 15 rfl (h := ?_)
  simp only [pU]
  refine sk 8 16 rfl (h := ?_)
  simp only [pU]
  refine sk 9 17 rfl (h := ?_)
  simp only [pU]
  refine' tj 10 18 rfl ?_ ?_;rotate_left
  ·intro w h;go_simp;try rfl
  simp only [pU]
  refine' tj 11 19 rfl ?_ ?_;rotate_left
  ·intro w h;go_simp;try rfl
  simp only [pU]
  refine sk 12 20 rfl (h := ?_)
  simp only [pU]
  refine sk 14 22 rfl (h := ?_)
  simp only [pU]
  refine sk 13 21 rfl (h := ?_)
  simp only [pU]
  refine sk 15 23 rfl (h := ?_)
  simp only [pU]
  refine' tj 16 24 rfl ?_ ?_;rotate_left
  ·intro w h;go_simp;try rfl
  simp only [pU]
  refine' tj 17 4 rfl ?_ ?_;rotate_left
  ·intro w h;go_simp;try rfl
  simp only [pU]
  clear hHeld
  refine wdn ?_
  have bb:=bz1
  have Bwz2_1:=bu Bw1 bb
  have swz2_1:=bb.size
  replace LC:=LC.up bb
  replace A:=A.up bb
  clear Bw1
  clear bb bz1 K
  go_wp2
  go_ret
  exact ⟨by simp, Bwz2_1⟩
 ·have K : Hid (∀ w', Below w1.heap.size w1 w' → (fun w' => Below w1.heap.size w1 w' ∧ (w'.cell? ⟨w.heap.size, 0, none⟩ = some (.int .i64 n) ∧ w'.cell? ⟨w.heap.size, 1, none⟩ = some (.int .i64 f)) ∧ Loc w' (w.heap.size + 1) #[.int .i64 t.k,.int .i64 t.vw,.string t.bn,.int .i64 t.bv,.string t.bs,.slice ao t.bw.length ca,.int .i64 t.pv,.string t.ps,.slice bo t.pw.length cb,.int .i64 t.qv,.string t.qs,.slice co t.qw.length cc,.int .i64 t.wh,.int .i64 t.fr,.int .i64 t.tu,.int .i64 t.am,.int .i64 t.no]) w'):=hide fun w' hb' => ⟨hb', ⟨(LC.up hb').cell 0 rfl, (LC.up hb').cell 1 rfl⟩, A.up hb'⟩
  go_upto_region 2 with fail
  have bA : Below w1.heap.size w1 w1.drew:=Below.drew (Below.refl _ _)
  refine wrn K bA (fun hHeld => ?_)
  refine' tj 0 8 rfl ?_ ?_;rotate_left
  ·intro w h;go_simp;try rfl
  simp only [pU]
  refine rd 1 rfl (fun KK hKK => ?_)
  go_simp
  have hgo:=bA
  refine (CO.out _).mono ?_
  rintro e wz2_1 ⟨rfl, bb⟩
  have bz1 : Below w1.heap.size w1 wz2_1:=bu bA bb
  clear bA hgo bb
  clear hHeld
  refine hKK.out _ _ (K.out _ bz1) (fun hHeld => ?_)
  clear hKK KK
  refine' tj 2 10 rfl ?_ ?_;rotate_left
  ·intro w h;go_simp;try rfl
  simp only [pU]
  refine' tj 3 11 rfl ?_ ?_;rotate_left
  ·intro w h;go_simp;try rfl
  simp only [pU]
  refine' tj 4 12 rfl ?_ ?_;rotate_left
  ·intro w h;go_simp;try rfl
  simp only [pU]
  refine' tj 5 13 rfl ?_ ?_;rotate_left
  ·intro w h;go_simp;try rfl
  simp only [pU]
  refine' tj 6 14 rfl ?_ ?_;rotate_left
  ·intro w h;go_simp;try rfl
  simp only [pU]
  refine sk 7 15 rfl (h := ?_)
  simp only [pU]
  refine sk 8 16 rfl (h := ?_)
  simp only [pU]
  refine sk 9 17 rfl (h := ?_)
  simp only [pU]
  refine' tj 10 18 rfl ?_ ?_;rotate_left
  ·intro w h;go_simp;try rfl
  simp only [pU]
  refine' tj 11 19 rfl ?_ ?_;rotate_left
  ·intro w h;go_simp;try rfl
  simp only [pU]
  refine sk 12 20 rfl (h := ?_)
  simp only [pU]
  refine sk 14 22 rfl (h := ?_)
  simp only [pU]
  refine sk 13 21 rfl (h := ?_)
  simp only [pU]
  refine sk 15 23 rfl (h := ?_)
  simp only [pU]
  refine' tj 16 24 rfl ?_ ?_;rotate_left
  ·intro w h;go_simp;try rfl
  simp only [pU]
  refine' tj 17 4 rfl ?_ ?_;rotate_left
  ·intro w h;go_simp;try rfl
  simp only [pU]
  clear hHeld
  refine wdn ?_
  have bb:=bz1
  have Bwz2_1:=bu Bw1 bb
  have swz2_1:=bb.size
  replace LC:=LC.up bb
  replace A:=A.up bb
  clear Bw1
  clear bb bz1 K
  go_wp2
  go_ret
  exact ⟨by simp, Bwz2_1⟩
theorem implMsgOk (n f : Int) (t : MT) (ao bo co : Option Addr) (ca cb cc : Nat) (w : World) (hs : MH t) (hm : MI t) (hE : Env w) (ha : RI w (.slice ao t.bw.length ca) t.bw) (hb : RI w (.slice bo t.pw.length cb) t.pw) (hc : RI w (.slice co t.qw.length cc) t.qw) :
 Calls Tryz.prog 120 #[cv n f, mgv t (.slice ao t.bw.length ca) (.slice bo t.pw.length cb) (.slice co t.qw.length cc)] w fun e w' => e = .returned (.bool (mokB n f t)) ∧ Below w.heap.size w w' := by
 unfold mokB zerB
 rcases kinds t.k with h | h | h | h | ⟨h1, h2, h3, h4⟩
 ·rw [rgt1 h, nam1 h, namB_m h, Bool.and_comm (msamB _ _)]; exact implMsgOk_1 n f t ao bo co ca cb cc w h hs hm hE ha hb hc
 ·rw [rgt2 h, nam2 h, namP_m h, Bool.and_comm (msamB _ _)]; exact implMsgOk_2 n f t ao bo co ca cb cc w h hs hm hE ha hb hc
 ·rw [rgt3 h, nam3 h, namV_m h, Bool.and_comm (msamB _ _)]; exact implMsgOk_3 n f t ao bo co ca cb cc w h hs hm hE ha hb hc
 ·rw [rgt4 h, nam4 h, namX_m h, Bool.and_comm (msamB _ _)]; exact implMsgOk_4 n f t ao bo co ca cb cc w h hs hm hE ha hb hc
 ·rw [rgt0 h1 h2 h3 h4, Bool.and_false]; exact implMsgOk_0 n f t ao bo co ca cb cc w h1 h2 h3 h4 hs hm hE ha hb hc
end Go.Proofs.YtndpjhiidmdlhaaGreatDoor
