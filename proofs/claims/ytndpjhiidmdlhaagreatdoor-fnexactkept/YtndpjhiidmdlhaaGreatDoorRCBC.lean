/- MsgOkS: when a message is right; what spec.MsgOk answers. -/
import Derived.Test.YtndpjhiidmdlhaaGreatDoorRCBA
import Derived.Test.YtndpjhiidmdlhaaGreatDoorRCBB
import Derived.Test.YtndpjhiidmdlhaaGreatDoorRCAZ
import Derived.Test.YtndpjhiidmdlhaaGreatDoorRCAW
import Derived.Test.YtndpjhiidmdlhaaGreatDoorRCAA
set_option maxRecDepth 100000
set_option maxHeartbeats 16000000
namespace Go.Proofs.YtndpjhiidmdlhaaGreatDoor
open Go.RowKit
set_option linter.unusedSectionVars false
variable [∀ (a b c d : Int), Decidable (Ok4 a b c d)]
variable [∀ (a b c d : Nat), Decidable (okN a b c d)]
variable [∀ (last : Int) (s : St), Decidable (GoodSt last s)]
variable [∀ (x : T4), Decidable (OkT x)]
variable [∀ (n : Int) (s : List Int), Decidable (OkL n s)]
variable [∀ (n f : Int), Decidable (COk n f)]

def rgtX (t : MT) : Bool := decide (Ok4 t.fr t.tu t.am t.no)
def rgtB (n f : Int) (t : MT) : Bool := bokB n f t.bn t.bv t.bs t.bw
def rgtP (n f : Int) (t : MT) : Bool := pokB n f t.pv t.ps t.pw && !(t.ps.toList == [])
def rgtV (n f : Int) (t : MT) : Bool := decide (1 ≤ t.vw ∧ t.vw ≤ 60) && (qokB n f t.qv t.qs t.qw && decide (0 ≤ t.wh ∧ t.wh ≤ n - 1))
def rgt (n f : Int) (t : MT) : Bool := if t.k = 1 then rgtB n f t else if t.k = 2 then rgtP n f t else if t.k = 3 then rgtV n f t else if t.k = 4 then rgtX t else false
theorem rgt1 {n f : Int} {t : MT} (h : t.k = 1) : rgt n f t = rgtB n f t := by unfold rgt; rw [if_pos h]
theorem rgt2 {n f : Int} {t : MT} (h : t.k = 2) : rgt n f t = rgtP n f t := by unfold rgt; rw [if_neg (by omega), if_pos h]
theorem rgt3 {n f : Int} {t : MT} (h : t.k = 3) : rgt n f t = rgtV n f t := by unfold rgt; rw [if_neg (by omega), if_neg (by omega), if_pos h]
theorem rgt4 {n f : Int} {t : MT} (h : t.k = 4) : rgt n f t = rgtX t := by unfold rgt; rw [if_neg (by omega), if_neg (by omega), if_neg (by omega), if_pos h]
theorem rgt0 {n f : Int} {t : MT} (h1 : ¬ t.k = 1) (h2 : ¬ t.k = 2) (h3 : ¬ t.k = 3) (h4 : ¬ t.k = 4) : rgt n f t = false := by unfold rgt; rw [if_neg h1, if_neg h2, if_neg h3, if_neg h4]
def mokB (n f : Int) (t : MT) : Bool := decide (COk n f) && (zerB t && rgt n f t)
def MS (t : MT) : Prop := t.bn.size ≤ 1048576 ∧ t.bs.size ≤ 1048576 ∧ t.ps.size ≤ 1048576 ∧ t.qs.size ≤ 1048576
theorem specMsgOk_1 (n f : Int) (t : MT) (ao bo co : Option Addr) (ca cb cc : Nat) (w : World) (hk : t.k = 1) (hs : MS t) (ha : RI w (.slice ao t.bw.length ca) t.bw) (hb : RI w (.slice bo t.pw.length cb) t.pw) (hc : RI w (.slice co t.qw.length cc) t.qw) :
 Calls Tryz.prog 44 #[cv n f, mgv t (.slice ao t.bw.length ca) (.slice bo t.pw.length cb) (.slice co t.qw.length cc)] w fun e w' => e = .returned (.bool (decide (COk n f) && (zerB t && rgtB n f t))) ∧ Below w.heap.size w w' := by
 have dk1 : decide (t.k = 1) = true:=by simpa using hk
 have ek1 : (t.k == 1) = true:=by simpa using hk
 obtain ⟨s1, s2, s3, s4⟩:=hs
 have IN : Hid (∀ (x lo hi : Int) (w : World), Calls Tryz.prog 39 #[.int .i64 x,.int .i64 lo,.int .i64 hi] w fun e w' => e = .returned (.bool (decide (lo ≤ x ∧ x ≤ hi))) ∧ Below w.heap.size w w'):=hide fun x lo hi w => (in_bool x lo hi w).mono (by rintro e w' ⟨h, rfl⟩; exact ⟨h, Below.refl _ _⟩)
 have CO:=hide fun w => specConfOk n f w
 have ZE:=hide fun w h1 h2 h3 => l14Zero_any t ao bo co ca cb cc w h1 h2 h3
 have BO:=hide fun w h => specBlockOk n f t.bn t.bv t.bs ao ca t.bw w s1 s2 h
 have PO:=hide fun w h => specPartOk n f t.pv t.ps (.slice bo t.pw.length cb) t.pw w s3 h
 have QO:=hide fun w h => specQcOk n f t.qv t.qs co cc t.qw w s4 h
 have TO:=hide fun w => specTxOk t.fr t.tu t.am t.no w
 have ha1:=hide ha
 have hb1:=hide hb
 have hc1:=hide hc
 clear ha hb hc s1 s2 s3 s4 hk
 unfold rgtB
 generalize bokB n f t.bn t.bv t.bs t.bw = r1 at *
 have HCO : Hid (decide (COk n f) = true → COk n f):=hide fun h => of_decide_eq_true h
 generalize decide (COk n f) = b1 at *
 generalize zerB t = b2 at *
 obtain ⟨w0, hw0, Bw0, LC, A, zw0⟩:=bx2 w #[.int .i64 n,.int .i64 f] 39 #[.int .i64 t.k,.int .i64 t.vw,.string t.bn,.int .i64 t.bv,.string t.bs,.slice ao t.bw.length ca,.int .i64 t.pv,.string t.ps,.slice bo t.pw.length cb,.int .i64 t.qv,.string t.qs,.slice co t.qw.length cc,.int .i64 t.wh,.int .i64 t.fr,.int .i64 t.tu,.int .i64 t.am,.int .i64 t.no] 86
 go_enter Tryz.func44, Tryz.ntmps44
 have cLC0:=LC.cell 0 rfl
 have cLC1:=LC.cell 1 rfl
 go_wp2_with fail
 clear hw0
 refine (CO.out _).mono ?_
 rintro _ w1 ⟨rfl, bb⟩
 clear cLC0 cLC1
 have Bw1:=bu Bw0 bb
 have sw1:=bb.size
 replace LC:=LC.up bb
 replace A:=A.up bb
 clear Bw0
 clear bb
 cases b1
 ·go_wp2
  go_ret
  exact ⟨by simp, Bw1⟩
 ·go_wp2_with (first | (refine wload A 86 _ rfl _ rfl rfl Tryz.underlying86 rfl (by kernel_rfl) ?_))
  refine (ZE.out _ (ha1.out.below Bw1) (hb1.out.below Bw1) (hc1.out.below Bw1)).mono ?_
  rintro _ w2 ⟨rfl, bb⟩
  have Bw2:=bu Bw1 bb
  have sw2:=bb.size
  replace LC:=LC.up bb
  replace A:=A.up bb
  clear Bw1
  clear bb
  cases b2
  ·go_wp2
   go_ret
   exact ⟨by simp, Bw2⟩
  ·have cLC0:=LC.cell 0 rfl
   have cLC1:=LC.cell 1 rfl
   have cA0:=A.cell 0 rfl
   have cA2:=A.cell 2 rfl
   have cA3:=A.cell 3 rfl
   have cA4:=A.cell 4 rfl
   have cA5:=A.cell 5 rfl
   go_wp2_with fail
   refine (BO.out _ (ha1.out.below Bw2)).mono ?_
   rintro _ w3 ⟨rfl, bb⟩
   clear cLC0 cLC1 cA0 cA2 cA3 cA4 cA5
   have Bw3:=bu Bw2 bb
   have sw3:=bb.size
   replace LC:=LC.up bb
   replace A:=A.up bb
   clear Bw2
   clear bb
   go_wp2
   go_ret
   exact ⟨by simp, Bw3⟩
theorem specMsgOk_2 (n f : Int) (t : MT) (ao bo co : Option Addr) (ca cb cc : Nat) (w : World) (hk : t.k = 2) (hs : MS t) (ha : RI w (.slice ao t.bw.length ca) t.bw) (hb : RI w (.slice bo t.pw.length cb) t.pw) (hc : RI w (.slice co t.qw.length cc) t.qw) :
 Calls Tryz.prog 44 #[cv n f, mgv t (.slice ao t.bw.length ca) (.slice bo t.pw.length cb) (.slice co t.qw.length cc)] w fun e w' => e = .returned (.bool (decide (COk n f) && (zerB t && rgtP n f t))) ∧ Below w.heap.size w w' := by
 have dk1 : decide (t.k = 1) = false:=by simp; omega
 have ek1 : (t.k == 1) = false:=by simp; omega
 have dk2 : decide (t.k = 2) = true:=by simpa using hk
 have ek2 : (t.k == 2) = true:=by simpa using hk
 obtain ⟨s1, s2, s3, s4⟩:=hs
 have IN : Hid (∀ (x lo hi : Int) (w : World), Calls Tryz.prog 39 #[.int .i64 x,.int .i64 lo,.int .i64 hi] w fun e w' => e = .returned (.bool (decide (lo ≤ x ∧ x ≤ hi))) ∧ Below w.heap.size w w'):=hide fun x lo hi w => (in_bool x lo hi w).mono (by rintro e w' ⟨h, rfl⟩; exact ⟨h, Below.refl _ _⟩)
 have CO:=hide fun w => specConfOk n f w
 have ZE:=hide fun w h1 h2 h3 => l14Zero_any t ao bo co ca cb cc w h1 h2 h3
 have BO:=hide fun w h => specBlockOk n f t.bn t.bv t.bs ao ca t.bw w s1 s2 h
 have PO:=hide fun w h => specPartOk n f t.pv t.ps (.slice bo t.pw.length cb) t.pw w s3 h
 have QO:=hide fun w h => specQcOk n f t.qv t.qs co cc t.qw w s4 h
 have TO:=hide fun w => specTxOk t.fr t.tu t.am t.no w
 have ha1:=hide ha
 have hb1:=hide hb
 have hc1:=hide hc
 clear ha hb hc s1 s2 s3 s4 hk
 unfold rgtP
 generalize pokB n f t.pv t.ps t.pw = r1 at *
 have HCO : Hid (decide (COk n f) = true → COk n f):=hide fun h => of_decide_eq_true h
 generalize decide (COk n f) = b1 at *
 generalize zerB t = b2 at *
 obtain ⟨w0, hw0, Bw0, LC, A, zw0⟩:=bx2 w #[.int .i64 n,.int .i64 f] 39 #[.int .i64 t.k,.int .i64 t.vw,.string t.bn,.int .i64 t.bv,.string t.bs,.slice ao t.bw.length ca,.int .i64 t.pv,.string t.ps,.slice bo t.pw.length cb,.int .i64 t.qv,.string t.qs,.slice co t.qw.length cc,.int .i64 t.wh,.int .i64 t.fr,.int .i64 t.tu,.int .i64 t.am,.int .i64 t.no] 86
 go_enter Tryz.func44, Tryz.ntmps44
 have cLC0:=LC.cell 0 rfl
 have cLC1:=LC.cell 1 rfl
 go_wp2_with fail
 clear hw0
 refine (CO.out _).mono ?_
 rintro _ w1 ⟨rfl, bb⟩
 clear cLC0 cLC1
 have Bw1:=bu Bw0 bb
 have sw1:=bb.size
 replace LC:=LC.up bb
 replace A:=A.up bb
 clear Bw0
 clear bb
 cases b1
 ·go_wp2
  go_ret
  exact ⟨by simp, Bw1⟩
 ·go_wp2_with (first | (refine wload A 86 _ rfl _ rfl rfl Tryz.underlying86 rfl (by kernel_rfl) ?_))
  refine (ZE.out _ (ha1.out.below Bw1) (hb1.out.below Bw1) (hc1.out.below Bw1)).mono ?_
  rintro _ w2 ⟨rfl, bb⟩
  have Bw2:=bu Bw1 bb
  have sw2:=bb.size
  replace LC:=LC.up bb
  replace A:=A.up bb
  clear Bw1
  clear bb
  cases b2
  ·go_wp2
   go_ret
   exact ⟨by simp, Bw2⟩
  ·have cLC0:=LC.cell 0 rfl
   have cLC1:=LC.cell 1 rfl
   have cA0:=A.cell 0 rfl
   have cA6:=A.cell 6 rfl
   have cA7:=A.cell 7 rfl
   have cA8:=A.cell 8 rfl
   go_wp2_with fail
   refine (PO.out _ (hb1.out.below Bw2)).mono ?_
   rintro _ w3 ⟨rfl, bb⟩
   clear cLC0 cLC1 cA0 cA6 cA7 cA8
   have Bw3:=bu Bw2 bb
   have sw3:=bb.size
   replace LC:=LC.up bb
   replace A:=A.up bb
   clear Bw2
   clear bb
   cases r1
   ·go_wp2
    go_ret
    exact ⟨by simp, Bw3⟩
   ·have cA7:=A.cell 7 rfl
    go_wp2
    go_ret
    exact ⟨by simp, Bw3⟩
theorem specMsgOk_3 (n f : Int) (t : MT) (ao bo co : Option Addr) (ca cb cc : Nat) (w : World) (hk : t.k = 3) (hs : MS t) (ha : RI w (.slice ao t.bw.length ca) t.bw) (hb : RI w (.slice bo t.pw.length cb) t.pw) (hc : RI w (.slice co t.qw.length cc) t.qw) :
 Calls Tryz.prog 44 #[cv n f, mgv t (.slice ao t.bw.length ca) (.slice bo t.pw.length cb) (.slice co t.qw.length cc)] w fun e w' => e = .returned (.bool (decide (COk n f) && (zerB t && rgtV n f t))) ∧ Below w.heap.size w w' := by
 have dk1 : decide (t.k = 1) = false:=by simp; omega
 have ek1 : (t.k == 1) = false:=by simp; omega
 have dk2 : decide (t.k = 2) = false:=by simp; omega
 have ek2 : (t.k == 2) = false:=by simp; omega
 have dk3 : decide (t.k = 3) = true:=by simpa using hk
 have ek3 : (t.k == 3) = true:=by simpa using hk
 obtain ⟨s1, s2, s3, s4⟩:=hs
 have IN : Hid (∀ (x lo hi : Int) (w : World), Calls Tryz.prog 39 #[.int .i64 x,.int .i64 lo,.int .i64 hi] w fun e w' => e = .returned (.bool (decide (lo ≤ x ∧ x ≤ hi))) ∧ Below w.heap.size w w'):=hide fun x lo hi w => (in_bool x lo hi w).mono (by rintro e w' ⟨h, rfl⟩; exact ⟨h, Below.refl _ _⟩)
 have CO:=hide fun w => specConfOk n f w
 have ZE:=hide fun w h1 h2 h3 => l14Zero_any t ao bo co ca cb cc w h1 h2 h3
 have BO:=hide fun w h => specBlockOk n f t.bn t.bv t.bs ao ca t.bw w s1 s2 h
 have PO:=hide fun w h => specPartOk n f t.pv t.ps (.slice bo t.pw.length cb) t.pw w s3 h
 have QO:=hide fun w h => specQcOk n f t.qv t.qs co cc t.qw w s4 h
 have TO:=hide fun w => specTxOk t.fr t.tu t.am t.no w
 have ha1:=hide ha
 have hb1:=hide hb
 have hc1:=hide hc
 clear ha hb hc s1 s2 s3 s4 hk
 unfold rgtV
 generalize qokB n f t.qv t.qs t.qw = r2 at *
 have i1:=hide fun w => IN.out t.vw 1 60 w
 have i2:=hide fun w => IN.out t.wh 0 (n - 1) w
 generalize decide (1 ≤ t.vw ∧ t.vw ≤ 60) = r1 at *
 generalize decide (0 ≤ t.wh ∧ t.wh ≤ n - 1) = r3 at *
 have wn0 : Hid (COk n f → IntKind.i64.wrap (n - 1) = n - 1):=hide fun h => by rw [IntKind.wrap_i64] <;> (unfold COk at h; omega)
 have HCO : Hid (decide (COk n f) = true → COk n f):=hide fun h => of_decide_eq_true h
 generalize decide (COk n f) = b1 at *
 generalize zerB t = b2 at *
 obtain ⟨w0, hw0, Bw0, LC, A, zw0⟩:=bx2 w #[.int .i64 n,.int .i64 f] 39 #[.int .i64 t.k,.int .i64 t.vw,.string t.bn,.int .i64 t.bv,.string t.bs,.slice ao t.bw.length ca,.int .i64 t.pv,.string t.ps,.slice bo t.pw.length cb,.int .i64 t.qv,.string t.qs,.slice co t.qw.length cc,.int .i64 t.wh,.int .i64 t.fr,.int .i64 t.tu,.int .i64 t.am,.int .i64 t.no] 86
 go_enter Tryz.func44, Tryz.ntmps44
 have cLC0:=LC.cell 0 rfl
 have cLC1:=LC.cell 1 rfl
 go_wp2_with fail
 clear hw0
 refine (CO.out _).mono ?_
 rintro _ w1 ⟨rfl, bb⟩
 clear cLC0 cLC1
 have Bw1:=bu Bw0 bb
 have sw1:=bb.size
 replace LC:=LC.up bb
 replace A:=A.up bb
 clear Bw0
 clear bb
 cases b1
 ·go_wp2
  go_ret
  exact ⟨by simp, Bw1⟩
 ·have wn:=wn0.out (HCO.out rfl)
  go_wp2_with (first | (refine wload A 86 _ rfl _ rfl rfl Tryz.underlying86 rfl (by kernel_rfl) ?_))
  refine (ZE.out _ (ha1.out.below Bw1) (hb1.out.below Bw1) (hc1.out.below Bw1)).mono ?_
  rintro _ w2 ⟨rfl, bb⟩
  have Bw2:=bu Bw1 bb
  have sw2:=bb.size
  replace LC:=LC.up bb
  replace A:=A.up bb
  clear Bw1
  clear bb
  cases b2
  ·go_wp2
   go_ret
   exact ⟨by simp, Bw2⟩
  ·have cA0:=A.cell 0 rfl
   have cA1:=A.cell 1 rfl
   go_wp2_with fail
   refine (i1.out _).mono ?_
   rintro _ w3 ⟨rfl, bb⟩
   clear cA0 cA1
   have Bw3:=bu Bw2 bb
   have sw3:=bb.size
   replace LC:=LC.up bb
   replace A:=A.up bb
   clear Bw2
   clear bb
   cases r1
   ·have cLC0:=LC.cell 0 rfl
    have cLC1:=LC.cell 1 rfl
    have cA1:=A.cell 1 rfl
    go_wp2
    go_ret
    exact ⟨by simp, Bw3⟩
   ·have cLC0:=LC.cell 0 rfl
    have cLC1:=LC.cell 1 rfl
    have cA9:=A.cell 9 rfl
    have cA10:=A.cell 10 rfl
    have cA11:=A.cell 11 rfl
    go_wp2_with fail
    refine (QO.out _ (hc1.out.below Bw3)).mono ?_
    rintro _ w4 ⟨rfl, bb⟩
    clear cLC0 cLC1 cA9 cA10 cA11
    have Bw4:=bu Bw3 bb
    have sw4:=bb.size
    replace LC:=LC.up bb
    replace A:=A.up bb
    clear Bw3
    clear bb
    cases r2
    ·have cLC0:=LC.cell 0 rfl
     have cLC1:=LC.cell 1 rfl
     have cA9:=A.cell 9 rfl
     have cA10:=A.cell 10 rfl
     have cA11:=A.cell 11 rfl
     go_wp2
     go_ret
     exact ⟨by simp, Bw4⟩
    ·have cLC0:=LC.cell 0 rfl
     have cLC1:=LC.cell 1 rfl
     have cA12:=A.cell 12 rfl
     go_wp2_with fail
     refine (i2.out _).mono ?_
     rintro _ w5 ⟨rfl, bb⟩
     clear cLC0 cLC1 cA12
     have Bw5:=bu Bw4 bb
     have sw5:=bb.size
     replace LC:=LC.up bb
     replace A:=A.up bb
     clear Bw4
     clear bb
     go_wp2
     go_ret
     exact ⟨by simp, Bw5⟩
theorem specMsgOk_4 (n f : Int) (t : MT) (ao bo co : Option Addr) (ca cb cc : Nat) (w : World) (hk : t.k = 4) (hs : MS t) (ha : RI w (.slice ao t.bw.length ca) t.bw) (hb : RI w (.slice bo t.pw.length cb) t.pw) (hc : RI w (.slice co t.qw.length cc) t.qw) :
 Calls Tryz.prog 44 #[cv n f, mgv t (.slice ao t.bw.length ca) (.slice bo t.pw.length cb) (.slice co t.qw.length cc)] w fun e w' => e = .returned (.bool (decide (COk n f) && (zerB t && rgtX t))) ∧ Below w.heap.size w w' := by
 have dk1 : decide (t.k = 1) = false:=by simp; omega
 have ek1 : (t.k == 1) = false:=by simp; omega
 have dk2 : decide (t.k = 2) = false:=by simp; omega
 have ek2 : (t.k == 2) = false:=by simp; omega
 have dk3 : decide (t.k = 3) = false:=by simp; omega
 have ek3 : (t.k == 3) = false:=by simp; omega
 have dk4 : decide (t.k = 4) = true:=by simpa using hk
 have ek4 : (t.k == 4) = true:=by simpa using hk
 obtain ⟨s1, s2, s3, s4⟩:=hs
 have IN : Hid (∀ (x lo hi : Int) (w : World), Calls Tryz.prog 39 #[.int .i64 x,.int .i64 lo,.int .i64 hi] w fun e w' => e = .returned (.bool (decide (lo ≤ x ∧ x ≤ hi))) ∧ Below w.heap.size w w'):=hide fun x lo hi w => (in_bool x lo hi w).mono (by rintro e w' ⟨h, rfl⟩; exact ⟨h, Below.refl _ _⟩)
 have CO:=hide fun w => specConfOk n f w
 have ZE:=hide fun w h1 h2 h3 => l14Zero_any t ao bo co ca cb cc w h1 h2 h3
 have BO:=hide fun w h => specBlockOk n f t.bn t.bv t.bs ao ca t.bw w s1 s2 h
 have PO:=hide fun w h => specPartOk n f t.pv t.ps (.slice bo t.pw.length cb) t.pw w s3 h
 have QO:=hide fun w h => specQcOk n f t.qv t.qs co cc t.qw w s4 h
 have TO:=hide fun w => specTxOk t.fr t.tu t.am t.no w
 have ha1:=hide ha
 have hb1:=hide hb
 have hc1:=hide hc
 clear ha hb hc s1 s2 s3 s4 hk
 unfold rgtX
 generalize decide (Ok4 t.fr t.tu t.am t.no) = r1 at *
 have HCO : Hid (decide (COk n f) = true → COk n f):=hide fun h => of_decide_eq_true h
 generalize decide (COk n f) = b1 at *
 generalize zerB t = b2 at *
 obtain ⟨w0, hw0, Bw0, LC, A, zw0⟩:=bx2 w #[.int .i64 n,.int .i64 f] 39 #[.int .i64 t.k,.int .i64 t.vw,.string t.bn,.int .i64 t.bv,.string t.bs,.slice ao t.bw.length ca,.int .i64 t.pv,.string t.ps,.slice bo t.pw.length cb,.int .i64 t.qv,.string t.qs,.slice co t.qw.length cc,.int .i64 t.wh,.int .i64 t.fr,.int .i64 t.tu,.int .i64 t.am,.int .i64 t.no] 86
 go_enter Tryz.func44, Tryz.ntmps44
 have cLC0:=LC.cell 0 rfl
 have cLC1:=LC.cell 1 rfl
 go_wp2_with fail
 clear hw0
 refine (CO.out _).mono ?_
 rintro _ w1 ⟨rfl, bb⟩
 clear cLC0 cLC1
 have Bw1:=bu Bw0 bb
 have sw1:=bb.size
 replace LC:=LC.up bb
 replace A:=A.up bb
 clear Bw0
 clear bb
 cases b1
 ·go_wp2
  go_ret
  exact ⟨by simp, Bw1⟩
 ·go_wp2_with (first | (refine wload A 86 _ rfl _ rfl rfl Tryz.underlying86 rfl (by kernel_rfl) ?_))
  refine (ZE.out _ (ha1.out.below Bw1) (hb1.out.below Bw1) (hc1.out.below Bw1)).mono ?_
  rintro _ w2 ⟨rfl, bb⟩
  have Bw2:=bu Bw1 bb
  have sw2:=bb.size
  replace LC:=LC.up bb
  replace A:=A.up bb
  clear Bw1
  clear bb
  cases b2
  ·go_wp2
   go_ret
   exact ⟨by simp, Bw2⟩
  ·have cA0:=A.cell 0 rfl
   have cA13:=A.cell 13 rfl
   have cA14:=A.cell 14 rfl
   have cA15:=A.cell 15 rfl
   have cA16:=A.cell 16 rfl
   go_wp2_with fail
   refine (TO.out _).mono ?_
   rintro _ w3 ⟨rfl, bb⟩
   clear cA0 cA13 cA14 cA15 cA16
   have Bw3:=bu Bw2 bb
   have sw3:=bb.size
   replace LC:=LC.up bb
   replace A:=A.up bb
   clear Bw2
   clear bb
   go_wp2
   go_ret
   exact ⟨by simp, Bw3⟩
theorem specMsgOk_0 (n f : Int) (t : MT) (ao bo co : Option Addr) (ca cb cc : Nat) (w : World) (h1 : ¬ t.k = 1) (h2 : ¬ t.k = 2) (h3 : ¬ t.k = 3) (h4 : ¬ t.k = 4) (hs : MS t) (ha : RI w (.slice ao t.bw.length ca) t.bw) (hb : RI w (.slice bo t.pw.length cb) t.pw) (hc : RI w (.slice co t.qw.length cc) t.qw) :
 Calls Tryz.prog 44 #[cv n f, mgv t (.slice ao t.bw.length ca) (.slice bo t.pw.length cb) (.slice co t.qw.length cc)] w fun e w' => e = .returned (.bool (decide (COk n f) && (zerB t && false))) ∧ Below w.heap.size w w' := by
 have dk1 : decide (t.k = 1) = false:=by simp; omega
 have ek1 : (t.k == 1) = false:=by simp; omega
 have dk2 : decide (t.k = 2) = false:=by simp; omega
 have ek2 : (t.k == 2) = false:=by simp; omega
 have dk3 : decide (t.k = 3) = false:=by simp; omega
 have ek3 : (t.k == 3) = false:=by simp; omega
 have dk4 : decide (t.k = 4) = false:=by simp; omega
 have ek4 : (t.k == 4) = false:=by simp; omega
 obtain ⟨s1, s2, s3, s4⟩:=hs
 have IN : Hid (∀ (x lo hi : Int) (w : World), Calls Tryz.prog 39 #[.int .i64 x,.int .i64 lo,.int .i64 hi] w fun e w' => e = .returned (.bool (decide (lo ≤ x ∧ x ≤ hi))) ∧ Below w.heap.size w w'):=hide fun x lo hi w => (in_bool x lo hi w).mono (by rintro e w' ⟨h, rfl⟩; exact ⟨h, Below.refl _ _⟩)
 have CO:=hide fun w => specConfOk n f w
 have ZE:=hide fun w h1 h2 h3 => l14Zero_any t ao bo co ca cb cc w h1 h2 h3
 have BO:=hide fun w h => specBlockOk n f t.bn t.bv t.bs ao ca t.bw w s1 s2 h
 have PO:=hide fun w h => specPartOk n f t.pv t.ps (.slice bo t.pw.length cb) t.pw w s3 h
 have QO:=hide fun w h => specQcOk n f t.qv t.qs co cc t.qw w s4 h
 have TO:=hide fun w => specTxOk t.fr t.tu t.am t.no w
 have ha1:=hide ha
 have hb1:=hide hb
 have hc1:=hide hc
 clear ha hb hc s1 s2 s3 s4
 have HCO : Hid (decide (COk n f) = true → COk n f):=hide fun h => of_decide_eq_true h
 generalize decide (COk n f) = b1 at *
 generalize zerB t = b2 at *
 obtain ⟨w0, hw0, Bw0, LC, A, zw0⟩:=bx2 w #[.int .i64 n,.int .i64 f] 39 #[.int .i64 t.k,.int .i64 t.vw,.string t.bn,.int .i64 t.bv,.string t.bs,.slice ao t.bw.length ca,.int .i64 t.pv,.string t.ps,.slice bo t.pw.length cb,.int .i64 t.qv,.string t.qs,.slice co t.qw.length cc,.int .i64 t.wh,.int .i64 t.fr,.int .i64 t.tu,.int .i64 t.am,.int .i64 t.no] 86
 go_enter Tryz.func44, Tryz.ntmps44
 have cLC0:=LC.cell 0 rfl
 have cLC1:=LC.cell 1 rfl
 go_wp2_with fail
 clear hw0
 refine (CO.out _).mono ?_
 rintro _ w1 ⟨rfl, bb⟩
 clear cLC0 cLC1
 have Bw1:=bu Bw0 bb
 have sw1:=bb.size
 replace LC:=LC.up bb
 replace A:=A.up bb
 clear Bw0
 clear bb
 cases b1
 ·go_wp2
  go_ret
  exact ⟨by simp, Bw1⟩
 ·go_wp2_with (first | (refine wload A 86 _ rfl _ rfl rfl Tryz.underlying86 rfl (by kernel_rfl) ?_))
  refine (ZE.out _ (ha1.out.below Bw1) (hb1.out.below Bw1) (hc1.out.below Bw1)).mono ?_
  rintro _ w2 ⟨rfl, bb⟩
  have Bw2:=bu Bw1 bb
  have sw2:=bb.size
  replace LC:=LC.up bb
  replace A:=A.up bb
  clear Bw1
  clear bb
  cases b2
  ·go_wp2
   go_ret
   exact ⟨by simp, Bw2⟩
  ·have cA0:=A.cell 0 rfl
   go_wp2
   go_ret
   exact ⟨by simp, Bw2⟩
theorem specMsgOk (n f : Int) (t : MT) (ao bo co : Option Addr) (ca cb cc : Nat) (w : World) (hs : MS t) (ha : RI w (.slice ao t.bw.length ca) t.bw) (hb : RI w (.slice bo t.pw.length cb) t.pw) (hc : RI w (.slice co t.qw.length cc) t.qw) :
 Calls Tryz.prog 44 #[cv n f, mgv t (.slice ao t.bw.length ca) (.slice bo t.pw.length cb) (.slice co t.qw.length cc)] w fun e w' => e = .returned (.bool (mokB n f t)) ∧ Below w.heap.size w w' := by
 unfold mokB
 rcases kinds t.k with h | h | h | h | ⟨h1, h2, h3, h4⟩
 ·rw [rgt1 h]; exact specMsgOk_1 n f t ao bo co ca cb cc w h hs ha hb hc
 ·rw [rgt2 h]; exact specMsgOk_2 n f t ao bo co ca cb cc w h hs ha hb hc
 ·rw [rgt3 h]; exact specMsgOk_3 n f t ao bo co ca cb cc w h hs ha hb hc
 ·rw [rgt4 h]; exact specMsgOk_4 n f t ao bo co ca cb cc w h hs ha hb hc
 ·rw [rgt0 h1 h2 h3 h4]; exact specMsgOk_0 n f t ao bo co ca cb cc w h1 h2 h3 h4 hs ha hb hc
end Go.Proofs.YtndpjhiidmdlhaaGreatDoor
