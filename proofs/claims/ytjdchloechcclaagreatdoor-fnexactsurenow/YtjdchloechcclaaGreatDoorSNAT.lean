/- Lemmas, as stated. -/
import Derived.Test.YtjdchloechcclaaGreatDoorSNAO
import Derived.Shelf.Strings.OnBuilder
set_option maxRecDepth 100000
set_option maxHeartbeats 16000000
set_option linter.unusedSectionVars false
namespace Go.Proofs.YtjdchloechcclaaGreatDoor
section
open Go.RowKit
variable [∀ (a b c d : Int), Decidable (Ok4 a b c d)]
variable [∀ (n f : Int), Decidable (COk n f)]
variable [∀ (a b c d : Nat), Decidable (okN a b c d)]
variable [∀ (x : T4), Decidable (OkT x)]
structure RMx (t : RpT) (rs : List Pr) : Prop where
 s : t.s.size ≤ maxLen
 q : t.qw.length ≤ maxLen
 d : t.d.size ≤ maxLen
 p : t.pool.length ≤ maxLen
 tb : rs.length ≤ maxLen
 tt : ∀ r ∈ rs, r.2.1.size ≤ maxLen ∧ r.2.2.2.2.length ≤ maxLen
 k : t.dsk.length ≤ maxLen
 h : t.held.length ≤ maxLen
 hh : ∀ p ∈ t.held, MB p.2
abbrev rpz (t : RpT) (a b c d e : Value) : Value := rpv t a b c d e
theorem szRep_yes (t : RpT) (ao bo co od oe : Option Addr) (ca cb cc cd ce : Nat) (rs : List Pr) (left : Int) (w : World) (hc : ATab w co rs) (hh : RPoL w (.slice oe t.held.length ce) t.held) (hl : left ≤ 1048576) (g : (t.s.size : Int) + t.qw.length + t.d.size + t.pool.length + rs.length + psum rs + t.dsk.length + t.held.length + posum t.held ≤ left) :
 Calls Tryz.prog 7 #[rpz t (.slice ao t.qw.length ca) (.slice bo t.pool.length cb) (.slice co rs.length cc) (.slice od t.dsk.length cd) (.slice oe t.held.length ce),.int .i64 left] w fun r w' => r = .returned (.int .i64 (left - ((t.s.size : Int) + t.qw.length + t.d.size + t.pool.length + rs.length + psum rs + t.dsk.length + t.held.length + posum t.held))) ∧ Below w.heap.size w w' := by
 have HC:=hide hc
 have HH:=hide hh
 obtain ⟨L1, hL1⟩ : ∃ x : Int, left - t.s.size - t.qw.length - t.d.size = x:=⟨_, rfl⟩
 have T1:=hide fun w  => szSafe_yes t.vo t.lo t.n t.s ao t.qw.length ca t.d left w (by omega) (by omega)
 rw [hL1] at T1
 have d1 : decide (L1 < 0) = false:=by simp; omega
 obtain ⟨L2, hL2⟩ : ∃ x : Int, L1 - t.pool.length = x:=⟨_, rfl⟩
 have T2:=hide fun w  => szL_yes bo t.pool.length cb L1 w (by omega) (by omega)
 rw [hL2] at T2
 have d2 : decide (L2 < 0) = false:=by simp; omega
 obtain ⟨L3, hL3⟩ : ∃ x : Int, L2 - rs.length - psum rs = x:=⟨_, rfl⟩
 have T3:=hide fun w (h : ATab w co rs) => szPartS_yes co cc rs L2 w h (by omega) (by omega)
 rw [hL3] at T3
 have d3 : decide (L3 < 0) = false:=by simp; omega
 obtain ⟨L4, hL4⟩ : ∃ x : Int, L3 - t.dsk.length = x:=⟨_, rfl⟩
 have T4:=hide fun w  => szDisk_yes od t.dsk.length cd t.su L3 w (by omega) (by omega)
 rw [hL4] at T4
 have d4 : decide (L4 < 0) = false:=by simp; omega
 obtain ⟨L5, hL5⟩ : ∃ x : Int, L4 - t.held.length - posum t.held = x:=⟨_, rfl⟩
 have T5:=hide fun w (h : RPoL w (.slice oe t.held.length ce) t.held) => szPostS_yes _ t.held L4 w h (by omega) (by omega)
 rw [hL5] at T5
 have d5 : decide (L5 < 0) = false:=by simp; omega
 rw [show left - ((t.s.size : Int) + t.qw.length + t.d.size + t.pool.length + rs.length + psum rs + t.dsk.length + t.held.length + posum t.held) = L5 by omega]
 clear hc hh hl g hL1 hL2 hL3 hL4 hL5
 obtain ⟨w0, hw0, Bw0, P, zw0⟩:=bx1 w #[.int .i64 t.id,.int .i64 t.vw,.int .i64 t.ak,.int .i64 t.vo,.int .i64 t.lo,.int .i64 t.n,.string t.s,.slice ao t.qw.length ca,.string t.d,.slice bo t.pool.length cb,.slice co rs.length cc,.slice od t.dsk.length cd,.int .i64 t.su,.slice oe t.held.length ce] 36
 go_enter Tryz.func7, Tryz.ntmps7
 go_wp2_with (first | (refine wloadM [.int .i64 t.vo, .int .i64 t.lo, .int .i64 t.n, .string t.s, .slice ao t.qw.length ca, .string t.d] (P.range 3 6 rfl) 28 _ rfl _ rfl rfl Tryz.underlying28 rfl (by kernel_rfl) ?_))
 clear hw0
 refine (T1.out _).mono ?_
 rintro _ w1 ⟨rfl, bb⟩
 have Bw1:=bu Bw0 bb
 have sw1:=bb.size
 replace P:=P.up bb
 clear Bw0 bb
 have cP9:=P.cell 9 rfl
 go_wp2_with fail
 refine (T2.out _).mono ?_
 rintro _ w9 ⟨rfl, e9⟩
 rw [e9]
 clear e9 cP9
 have cP10:=P.cell 10 rfl
 go_wp2_with fail
 refine (T3.out _ (HC.out.below (Bw1.mono (Nat.le_refl _)))).mono ?_
 rintro _ w2 ⟨rfl, bb⟩
 clear cP10
 have Bw2:=bu Bw1 bb
 have sw2:=bb.size
 replace P:=P.up bb
 clear Bw1 bb
 go_wp2_with (first | (refine wloadM [.slice od t.dsk.length cd, .int .i64 t.su] (P.range 11 2 rfl) 33 _ rfl _ rfl rfl Tryz.underlying33 rfl (by kernel_rfl) ?_))
 refine (T4.out _).mono ?_
 rintro _ w3 ⟨rfl, bb⟩
 have Bw3:=bu Bw2 bb
 have sw3:=bb.size
 replace P:=P.up bb
 clear Bw2 bb
 have cP13:=P.cell 13 rfl
 go_wp2_with fail
 refine (T5.out _ (HH.out.below Bw3)).mono ?_
 rintro _ w4 ⟨rfl, bb⟩
 clear cP13
 have Bw4:=bu Bw3 bb
 have sw4:=bb.size
 replace P:=P.up bb
 clear Bw3 bb
 go_wp2
 go_ret
 exact ⟨rfl, Bw4⟩
theorem szRep_no0 (t : RpT) (ao bo co od oe : Option Addr) (ca cb cc cd ce : Nat) (rs : List Pr) (left : Int) (w : World) (hc : ATab w co rs) (hh : RPoL w (.slice oe t.held.length ce) t.held) (hl : left ≤ 1048576) (m : RMx t rs) (g : 0 ≤ left ∧ (0 : Int) ≤ left ∧ left < ((t.s.size : Int) + t.qw.length + t.d.size)) :
 Calls Tryz.prog 7 #[rpz t (.slice ao t.qw.length ca) (.slice bo t.pool.length cb) (.slice co rs.length cc) (.slice od t.dsk.length cd) (.slice oe t.held.length ce),.int .i64 left] w fun r w' => r = .returned (.int .i64 (-1)) ∧ Below w.heap.size w w' := by
 have HC:=hide hc
 have HH:=hide hh
 have p0 : 0 ≤ left:=by omega
 have T1:=hide fun w  => szSafe_no t.vo t.lo t.n t.s ao t.qw.length ca t.d left w (by omega) (by omega) (by have:=m.s; unfold maxLen at this; omega) (by have:=m.q; unfold maxLen at this; omega) (by have:=m.d; unfold maxLen at this; omega) (by omega)
 have d1 : decide ((-1 : Int) < 0) = true:=by decide
 clear hc hh hl g m p0
 obtain ⟨w0, hw0, Bw0, P, zw0⟩:=bx1 w #[.int .i64 t.id,.int .i64 t.vw,.int .i64 t.ak,.int .i64 t.vo,.int .i64 t.lo,.int .i64 t.n,.string t.s,.slice ao t.qw.length ca,.string t.d,.slice bo t.pool.length cb,.slice co rs.length cc,.slice od t.dsk.length cd,.int .i64 t.su,.slice oe t.held.length ce] 36
 go_enter Tryz.func7, Tryz.ntmps7
 go_wp2_with (first | (refine wloadM [.int .i64 t.vo, .int .i64 t.lo, .int .i64 t.n, .string t.s, .slice ao t.qw.length ca, .string t.d] (P.range 3 6 rfl) 28 _ rfl _ rfl rfl Tryz.underlying28 rfl (by kernel_rfl) ?_))
 clear hw0
 refine (T1.out _).mono ?_
 rintro _ w1 ⟨rfl, bb⟩
 have Bw1:=bu Bw0 bb
 have sw1:=bb.size
 replace P:=P.up bb
 clear Bw0 bb
 go_wp2
 go_ret
 exact ⟨rfl, Bw1⟩
theorem szRep_no1 (t : RpT) (ao bo co od oe : Option Addr) (ca cb cc cd ce : Nat) (rs : List Pr) (left : Int) (w : World) (hc : ATab w co rs) (hh : RPoL w (.slice oe t.held.length ce) t.held) (hl : left ≤ 1048576) (m : RMx t rs) (g : 0 ≤ left ∧ (0 : Int) + ((t.s.size : Int) + t.qw.length + t.d.size) ≤ left ∧ left < ((t.s.size : Int) + t.qw.length + t.d.size) + ((t.pool.length : Int))) :
 Calls Tryz.prog 7 #[rpz t (.slice ao t.qw.length ca) (.slice bo t.pool.length cb) (.slice co rs.length cc) (.slice od t.dsk.length cd) (.slice oe t.held.length ce),.int .i64 left] w fun r w' => r = .returned (.int .i64 (-1)) ∧ Below w.heap.size w w' := by
 have HC:=hide hc
 have HH:=hide hh
 have p0 : 0 ≤ left:=by omega
 obtain ⟨L1, hL1⟩ : ∃ x : Int, left - t.s.size - t.qw.length - t.d.size = x:=⟨_, rfl⟩
 have T1:=hide fun w  => szSafe_yes t.vo t.lo t.n t.s ao t.qw.length ca t.d left w (by omega) (by omega)
 rw [hL1] at T1
 have d1 : decide (L1 < 0) = false:=by simp; omega
 have T2:=hide fun w  => szL_no bo t.pool.length cb L1 w (by omega) (by omega) (by have:=m.p; unfold maxLen at this; omega) (by omega)
 have d2 : decide ((-1 : Int) < 0) = true:=by decide
 clear hc hh hl g hL1 m p0
 obtain ⟨w0, hw0, Bw0, P, zw0⟩:=bx1 w #[.int .i64 t.id,.int .i64 t.vw,.int .i64 t.ak,.int .i64 t.vo,.int .i64 t.lo,.int .i64 t.n,.string t.s,.slice ao t.qw.length ca,.string t.d,.slice bo t.pool.length cb,.slice co rs.length cc,.slice od t.dsk.length cd,.int .i64 t.su,.slice oe t.held.length ce] 36
 go_enter Tryz.func7, Tryz.ntmps7
 go_wp2_with (first | (refine wloadM [.int .i64 t.vo, .int .i64 t.lo, .int .i64 t.n, .string t.s, .slice ao t.qw.length ca, .string t.d] (P.range 3 6 rfl) 28 _ rfl _ rfl rfl Tryz.underlying28 rfl (by kernel_rfl) ?_))
 clear hw0
 refine (T1.out _).mono ?_
 rintro _ w1 ⟨rfl, bb⟩
 have Bw1:=bu Bw0 bb
 have sw1:=bb.size
 replace P:=P.up bb
 clear Bw0 bb
 have cP9:=P.cell 9 rfl
 go_wp2_with fail
 refine (T2.out _).mono ?_
 rintro _ w9 ⟨rfl, e9⟩
 rw [e9]
 clear e9 cP9
 go_wp2
 go_ret
 exact ⟨rfl, Bw1⟩
theorem szRep_no2 (t : RpT) (ao bo co od oe : Option Addr) (ca cb cc cd ce : Nat) (rs : List Pr) (left : Int) (w : World) (hc : ATab w co rs) (hh : RPoL w (.slice oe t.held.length ce) t.held) (hl : left ≤ 1048576) (m : RMx t rs) (g : 0 ≤ left ∧ (0 : Int) + ((t.s.size : Int) + t.qw.length + t.d.size) + ((t.pool.length : Int)) ≤ left ∧ left < ((t.s.size : Int) + t.qw.length + t.d.size) + ((t.pool.length : Int)) + ((rs.length : Int) + psum rs)) :
 Calls Tryz.prog 7 #[rpz t (.slice ao t.qw.length ca) (.slice bo t.pool.length cb) (.slice co rs.length cc) (.slice od t.dsk.length cd) (.slice oe t.held.length ce),.int .i64 left] w fun r w' => r = .returned (.int .i64 (-1)) ∧ Below w.heap.size w w' := by
 have HC:=hide hc
 have HH:=hide hh
 have p0 : 0 ≤ left:=by omega
 obtain ⟨L1, hL1⟩ : ∃ x : Int, left - t.s.size - t.qw.length - t.d.size = x:=⟨_, rfl⟩
 have T1:=hide fun w  => szSafe_yes t.vo t.lo t.n t.s ao t.qw.length ca t.d left w (by omega) (by omega)
 rw [hL1] at T1
 have d1 : decide (L1 < 0) = false:=by simp; omega
 obtain ⟨L2, hL2⟩ : ∃ x : Int, L1 - t.pool.length = x:=⟨_, rfl⟩
 have T2:=hide fun w  => szL_yes bo t.pool.length cb L1 w (by omega) (by omega)
 rw [hL2] at T2
 have d2 : decide (L2 < 0) = false:=by simp; omega
 have T3:=hide fun w (h : ATab w co rs) => szPartS_no co cc rs L2 w h m.tt (by omega) m.tb (by omega) (by omega)
 have d3 : decide ((-1 : Int) < 0) = true:=by decide
 clear hc hh hl g hL1 hL2 m p0
 obtain ⟨w0, hw0, Bw0, P, zw0⟩:=bx1 w #[.int .i64 t.id,.int .i64 t.vw,.int .i64 t.ak,.int .i64 t.vo,.int .i64 t.lo,.int .i64 t.n,.string t.s,.slice ao t.qw.length ca,.string t.d,.slice bo t.pool.length cb,.slice co rs.length cc,.slice od t.dsk.length cd,.int .i64 t.su,.slice oe t.held.length ce] 36
 go_enter Tryz.func7, Tryz.ntmps7
 go_wp2_with (first | (refine wloadM [.int .i64 t.vo, .int .i64 t.lo, .int .i64 t.n, .string t.s, .slice ao t.qw.length ca, .string t.d] (P.range 3 6 rfl) 28 _ rfl _ rfl rfl Tryz.underlying28 rfl (by kernel_rfl) ?_))
 clear hw0
 refine (T1.out _).mono ?_
 rintro _ w1 ⟨rfl, bb⟩
 have Bw1:=bu Bw0 bb
 have sw1:=bb.size
 replace P:=P.up bb
 clear Bw0 bb
 have cP9:=P.cell 9 rfl
 go_wp2_with fail
 refine (T2.out _).mono ?_
 rintro _ w9 ⟨rfl, e9⟩
 rw [e9]
 clear e9 cP9
 have cP10:=P.cell 10 rfl
 go_wp2_with fail
 refine (T3.out _ (HC.out.below (Bw1.mono (Nat.le_refl _)))).mono ?_
 rintro _ w2 ⟨rfl, bb⟩
 clear cP10
 have Bw2:=bu Bw1 bb
 have sw2:=bb.size
 replace P:=P.up bb
 clear Bw1 bb
 go_wp2
 go_ret
 exact ⟨rfl, Bw2⟩
theorem szRep_no3 (t : RpT) (ao bo co od oe : Option Addr) (ca cb cc cd ce : Nat) (rs : List Pr) (left : Int) (w : World) (hc : ATab w co rs) (hh : RPoL w (.slice oe t.held.length ce) t.held) (hl : left ≤ 1048576) (m : RMx t rs) (g : 0 ≤ left ∧ (0 : Int) + ((t.s.size : Int) + t.qw.length + t.d.size) + ((t.pool.length : Int)) + ((rs.length : Int) + psum rs) ≤ left ∧ left < ((t.s.size : Int) + t.qw.length + t.d.size) + ((t.pool.length : Int)) + ((rs.length : Int) + psum rs) + ((t.dsk.length : Int))) :
 Calls Tryz.prog 7 #[rpz t (.slice ao t.qw.length ca) (.slice bo t.pool.length cb) (.slice co rs.length cc) (.slice od t.dsk.length cd) (.slice oe t.held.length ce),.int .i64 left] w fun r w' => r = .returned (.int .i64 (-1)) ∧ Below w.heap.size w w' := by
 have HC:=hide hc
 have HH:=hide hh
 have p0 : 0 ≤ left:=by omega
 obtain ⟨L1, hL1⟩ : ∃ x : Int, left - t.s.size - t.qw.length - t.d.size = x:=⟨_, rfl⟩
 have T1:=hide fun w  => szSafe_yes t.vo t.lo t.n t.s ao t.qw.length ca t.d left w (by omega) (by omega)
 rw [hL1] at T1
 have d1 : decide (L1 < 0) = false:=by simp; omega
 obtain ⟨L2, hL2⟩ : ∃ x : Int, L1 - t.pool.length = x:=⟨_, rfl⟩
 have T2:=hide fun w  => szL_yes bo t.pool.length cb L1 w (by omega) (by omega)
 rw [hL2] at T2
 have d2 : decide (L2 < 0) = false:=by simp; omega
 obtain ⟨L3, hL3⟩ : ∃ x : Int, L2 - rs.length - psum rs = x:=⟨_, rfl⟩
 have T3:=hide fun w (h : ATab w co rs) => szPartS_yes co cc rs L2 w h (by omega) (by omega)
 rw [hL3] at T3
 have d3 : decide (L3 < 0) = false:=by simp; omega
 have T4:=hide fun w  => szDisk_no od t.dsk.length cd t.su L3 w (by omega) (by omega) (by omega) (by have:=m.k; unfold maxLen at this; omega)
 have d4 : decide ((-1 : Int) < 0) = true:=by decide
 clear hc hh hl g hL1 hL2 hL3 m p0
 obtain ⟨w0, hw0, Bw0, P, zw0⟩:=bx1 w #[.int .i64 t.id,.int .i64 t.vw,.int .i64 t.ak,.int .i64 t.vo,.int .i64 t.lo,.int .i64 t.n,.string t.s,.slice ao t.qw.length ca,.string t.d,.slice bo t.pool.length cb,.slice co rs.length cc,.slice od t.dsk.length cd,.int .i64 t.su,.slice oe t.held.length ce] 36
 go_enter Tryz.func7, Tryz.ntmps7
 go_wp2_with (first | (refine wloadM [.int .i64 t.vo, .int .i64 t.lo, .int .i64 t.n, .string t.s, .slice ao t.qw.length ca, .string t.d] (P.range 3 6 rfl) 28 _ rfl _ rfl rfl Tryz.underlying28 rfl (by kernel_rfl) ?_))
 clear hw0
 refine (T1.out _).mono ?_
 rintro _ w1 ⟨rfl, bb⟩
 have Bw1:=bu Bw0 bb
 have sw1:=bb.size
 replace P:=P.up bb
 clear Bw0 bb
 have cP9:=P.cell 9 rfl
 go_wp2_with fail
 refine (T2.out _).mono ?_
 rintro _ w9 ⟨rfl, e9⟩
 rw [e9]
 clear e9 cP9
 have cP10:=P.cell 10 rfl
 go_wp2_with fail
 refine (T3.out _ (HC.out.below (Bw1.mono (Nat.le_refl _)))).mono ?_
 rintro _ w2 ⟨rfl, bb⟩
 clear cP10
 have Bw2:=bu Bw1 bb
 have sw2:=bb.size
 replace P:=P.up bb
 clear Bw1 bb
 go_wp2_with (first | (refine wloadM [.slice od t.dsk.length cd, .int .i64 t.su] (P.range 11 2 rfl) 33 _ rfl _ rfl rfl Tryz.underlying33 rfl (by kernel_rfl) ?_))
 refine (T4.out _).mono ?_
 rintro _ w3 ⟨rfl, bb⟩
 have Bw3:=bu Bw2 bb
 have sw3:=bb.size
 replace P:=P.up bb
 clear Bw2 bb
 go_wp2
 go_ret
 exact ⟨rfl, Bw3⟩
theorem szRep_no4 (t : RpT) (ao bo co od oe : Option Addr) (ca cb cc cd ce : Nat) (rs : List Pr) (left : Int) (w : World) (hc : ATab w co rs) (hh : RPoL w (.slice oe t.held.length ce) t.held) (hl : left ≤ 1048576) (m : RMx t rs) (g : 0 ≤ left ∧ (0 : Int) + ((t.s.size : Int) + t.qw.length + t.d.size) + ((t.pool.length : Int)) + ((rs.length : Int) + psum rs) + ((t.dsk.length : Int)) ≤ left ∧ left < ((t.s.size : Int) + t.qw.length + t.d.size) + ((t.pool.length : Int)) + ((rs.length : Int) + psum rs) + ((t.dsk.length : Int)) + ((t.held.length : Int) + posum t.held)) :
 Calls Tryz.prog 7 #[rpz t (.slice ao t.qw.length ca) (.slice bo t.pool.length cb) (.slice co rs.length cc) (.slice od t.dsk.length cd) (.slice oe t.held.length ce),.int .i64 left] w fun r w' => r = .returned (.int .i64 (-1)) ∧ Below w.heap.size w w' := by
 have HC:=hide hc
 have HH:=hide hh
 have p0 : 0 ≤ left:=by omega
 obtain ⟨L1, hL1⟩ : ∃ x : Int, left - t.s.size - t.qw.length - t.d.size = x:=⟨_, rfl⟩
 have T1:=hide fun w  => szSafe_yes t.vo t.lo t.n t.s ao t.qw.length ca t.d left w (by omega) (by omega)
 rw [hL1] at T1
 have d1 : decide (L1 < 0) = false:=by simp; omega
 obtain ⟨L2, hL2⟩ : ∃ x : Int, L1 - t.pool.length = x:=⟨_, rfl⟩
 have T2:=hide fun w  => szL_yes bo t.pool.length cb L1 w (by omega) (by omega)
 rw [hL2] at T2
 have d2 : decide (L2 < 0) = false:=by simp; omega
 obtain ⟨L3, hL3⟩ : ∃ x : Int, L2 - rs.length - psum rs = x:=⟨_, rfl⟩
 have T3:=hide fun w (h : ATab w co rs) => szPartS_yes co cc rs L2 w h (by omega) (by omega)
 rw [hL3] at T3
 have d3 : decide (L3 < 0) = false:=by simp; omega
 obtain ⟨L4, hL4⟩ : ∃ x : Int, L3 - t.dsk.length = x:=⟨_, rfl⟩
 have T4:=hide fun w  => szDisk_yes od t.dsk.length cd t.su L3 w (by omega) (by omega)
 rw [hL4] at T4
 have d4 : decide (L4 < 0) = false:=by simp; omega
 have T5:=hide fun w (h : RPoL w (.slice oe t.held.length ce) t.held) => szPostS_no _ t.held L4 w h m.hh (by omega) m.h (by omega) (by omega)
 have d5 : decide ((-1 : Int) < 0) = true:=by decide
 clear hc hh hl g hL1 hL2 hL3 hL4 m p0
 obtain ⟨w0, hw0, Bw0, P, zw0⟩:=bx1 w #[.int .i64 t.id,.int .i64 t.vw,.int .i64 t.ak,.int .i64 t.vo,.int .i64 t.lo,.int .i64 t.n,.string t.s,.slice ao t.qw.length ca,.string t.d,.slice bo t.pool.length cb,.slice co rs.length cc,.slice od t.dsk.length cd,.int .i64 t.su,.slice oe t.held.length ce] 36
 go_enter Tryz.func7, Tryz.ntmps7
 go_wp2_with (first | (refine wloadM [.int .i64 t.vo, .int .i64 t.lo, .int .i64 t.n, .string t.s, .slice ao t.qw.length ca, .string t.d] (P.range 3 6 rfl) 28 _ rfl _ rfl rfl Tryz.underlying28 rfl (by kernel_rfl) ?_))
 clear hw0
 refine (T1.out _).mono ?_
 rintro _ w1 ⟨rfl, bb⟩
 have Bw1:=bu Bw0 bb
 have sw1:=bb.size
 replace P:=P.up bb
 clear Bw0 bb
 have cP9:=P.cell 9 rfl
 go_wp2_with fail
 refine (T2.out _).mono ?_
 rintro _ w9 ⟨rfl, e9⟩
 rw [e9]
 clear e9 cP9
 have cP10:=P.cell 10 rfl
 go_wp2_with fail
 refine (T3.out _ (HC.out.below (Bw1.mono (Nat.le_refl _)))).mono ?_
 rintro _ w2 ⟨rfl, bb⟩
 clear cP10
 have Bw2:=bu Bw1 bb
 have sw2:=bb.size
 replace P:=P.up bb
 clear Bw1 bb
 go_wp2_with (first | (refine wloadM [.slice od t.dsk.length cd, .int .i64 t.su] (P.range 11 2 rfl) 33 _ rfl _ rfl rfl Tryz.underlying33 rfl (by kernel_rfl) ?_))
 refine (T4.out _).mono ?_
 rintro _ w3 ⟨rfl, bb⟩
 have Bw3:=bu Bw2 bb
 have sw3:=bb.size
 replace P:=P.up bb
 clear Bw2 bb
 have cP13:=P.cell 13 rfl
 go_wp2_with fail
 refine (T5.out _ (HH.out.below Bw3)).mono ?_
 rintro _ w4 ⟨rfl, bb⟩
 clear cP13
 have Bw4:=bu Bw3 bb
 have sw4:=bb.size
 replace P:=P.up bb
 clear Bw3 bb
 go_wp2
 go_ret
 exact ⟨rfl, Bw4⟩
theorem szRep_no (t : RpT) (ao bo co od oe : Option Addr) (ca cb cc cd ce : Nat) (rs : List Pr) (left : Int) (w : World) (hc : ATab w co rs) (hh : RPoL w (.slice oe t.held.length ce) t.held) (hl : left ≤ 1048576) (m : RMx t rs) (h0 : 0 ≤ left) (g : left < (t.s.size : Int) + t.qw.length + t.d.size + t.pool.length + rs.length + psum rs + t.dsk.length + t.held.length + posum t.held) :
 Calls Tryz.prog 7 #[rpz t (.slice ao t.qw.length ca) (.slice bo t.pool.length cb) (.slice co rs.length cc) (.slice od t.dsk.length cd) (.slice oe t.held.length ce),.int .i64 left] w fun r w' => r = .returned (.int .i64 (-1)) ∧ Below w.heap.size w w' := by
 by_cases g0 : left < ((t.s.size : Int) + t.qw.length + t.d.size)
 ·exact szRep_no0 t ao bo co od oe ca cb cc cd ce rs left w hc hh hl m ⟨h0, by omega, g0⟩
 by_cases g1 : left < ((t.s.size : Int) + t.qw.length + t.d.size) + ((t.pool.length : Int))
 ·exact szRep_no1 t ao bo co od oe ca cb cc cd ce rs left w hc hh hl m ⟨h0, by omega, g1⟩
 by_cases g2 : left < ((t.s.size : Int) + t.qw.length + t.d.size) + ((t.pool.length : Int)) + ((rs.length : Int) + psum rs)
 ·exact szRep_no2 t ao bo co od oe ca cb cc cd ce rs left w hc hh hl m ⟨h0, by omega, g2⟩
 by_cases g3 : left < ((t.s.size : Int) + t.qw.length + t.d.size) + ((t.pool.length : Int)) + ((rs.length : Int) + psum rs) + ((t.dsk.length : Int))
 ·exact szRep_no3 t ao bo co od oe ca cb cc cd ce rs left w hc hh hl m ⟨h0, by omega, g3⟩
 by_cases g4 : left < ((t.s.size : Int) + t.qw.length + t.d.size) + ((t.pool.length : Int)) + ((rs.length : Int) + psum rs) + ((t.dsk.length : Int)) + ((t.held.length : Int) + posum t.held)
 ·exact szRep_no4 t ao bo co od oe ca cb cc cd ce rs left w hc hh hl m ⟨h0, by omega, g4⟩
 omega
end
end Go.Proofs.YtjdchloechcclaaGreatDoor
namespace Go.Proofs
open Go.Shelf
def Tryz.lays217_ren : Go.Shelf.Ren := ⟨fun | 217 => 261 | 266 => 284 | n => n, fun | 9 => 9 | 5 => 5 | 3 => 3 | n => n, fun | n => n⟩
theorem Tryz.lays217 : Go.Proofs.Lays.n217 Tryz.prog Tryz.lays217_ren := {
 mixed := by kernel_rfl
 f217 := Tryz.func261.trans (congrArg some (by kernel_rfl))
 f266 := Tryz.func284.trans (congrArg some (by kernel_rfl))
 t3 := Tryz.underlying3
 a3 := Tryz.isAgg3
 z3 := Tryz.sizeOf3
 v3 := Tryz.zeroValue3
 t5 := Tryz.underlying5
 a5 := Tryz.isAgg5
 z5 := Tryz.sizeOf5
 v5 := Tryz.zeroValue5
 t9 := Tryz.underlying9
 a9 := Tryz.isAgg9
 z9 := Tryz.sizeOf9
 v9 := Tryz.zeroValue9 }
open Go.RowKit Go.Lib in
theorem Tryz.stringslite_IndexByte (s : ByteArray) (c : Int) (w : World) :
 Calls Tryz.prog 261 #[.string s,.int .u8 c] w fun e w' => e = .returned (.int .i64 (Lib.indexByte s.data.toList c.toNat.toUInt8)) ∧ w' = w := Any.stringslite_IndexByte Tryz.lays217 s c w
def Tryz.lays222_ren : Go.Shelf.Ren := ⟨fun | 222 => 344 | n => n, fun | 9 => 9 | 5 => 5 | 3 => 3 | 4 => 4 | n => n, fun | n => n⟩
theorem Tryz.lays222 : Go.Proofs.Lays.n222 Tryz.prog Tryz.lays222_ren := {
 mixed := by kernel_rfl
 f222 := Tryz.func344.trans (congrArg some (by kernel_rfl))
 t3 := Tryz.underlying3
 a3 := Tryz.isAgg3
 z3 := Tryz.sizeOf3
 v3 := Tryz.zeroValue3
 t4 := Tryz.underlying4
 a4 := Tryz.isAgg4
 z4 := Tryz.sizeOf4
 v4 := Tryz.zeroValue4
 t5 := Tryz.underlying5
 a5 := Tryz.isAgg5
 z5 := Tryz.sizeOf5
 v5 := Tryz.zeroValue5
 t9 := Tryz.underlying9
 a9 := Tryz.isAgg9
 z9 := Tryz.sizeOf9
 v9 := Tryz.zeroValue9 }
open Go.RowKit Go.Lib in
theorem Tryz.bytealg_LastIndexByteString_nm (s : ByteArray) (c : Int) (hs : s.size < 4611686018427387904) (w : World) :
 Calls Tryz.prog 344 #[.string s,.int .u8 c] w fun e w' => e = .returned (.int .i64 (Lib.lastIndexByte s c)) ∧ w' = w := Any.bytealg_LastIndexByteString_nm Tryz.lays222 s c hs w
def Tryz.lays103_ren : Go.Shelf.Ren := ⟨fun | 103 => 242 | 210 => 250 | 206 => 265 | n => n, fun | 9 => 9 | 4 => 4 | 24 => 298 | 3 => 3 | n => n, fun | n => n⟩
theorem Tryz.lays103 : Go.Proofs.Lays.n103 Tryz.prog Tryz.lays103_ren := {
 mixed := by kernel_rfl
 f103 := Tryz.func242.trans (congrArg some (by kernel_rfl))
 f206 := Tryz.func265.trans (congrArg some (by kernel_rfl))
 f210 := Tryz.func250.trans (congrArg some (by kernel_rfl))
 t3 := Tryz.underlying3
 a3 := Tryz.isAgg3
 z3 := Tryz.sizeOf3
 v3 := Tryz.zeroValue3
 t4 := Tryz.underlying4
 a4 := Tryz.isAgg4
 z4 := Tryz.sizeOf4
 v4 := Tryz.zeroValue4
 t9 := Tryz.underlying9
 a9 := Tryz.isAgg9
 z9 := Tryz.sizeOf9
 v9 := Tryz.zeroValue9
 t24 := Tryz.underlying298
 a24 := Tryz.isAgg298
 z24 := Tryz.sizeOf298
 v24 := Tryz.zeroValue298 }
open Go.RowKit in
theorem Tryz.strings_CutPrefix (s p : ByteArray) (w : World) :
 Calls Tryz.prog 242 #[.string s,.string p] w fun e w' => e = .returned (.tuple #[.string ⟨(Lib.trimPrefix s.data.toList p.data.toList).toArray⟩,.bool (Lib.hasPrefix s.data.toList p.data.toList)]) ∧ w' = w := Any.strings_CutPrefix Tryz.lays103 s p w
end Go.Proofs
namespace Go.Proofs.YtjdchloechcclaaGreatDoor
section
open Go.RowKit
variable [∀ (a b c d : Int), Decidable (Ok4 a b c d)]
variable [∀ (a b c d : Nat), Decidable (okN a b c d)]
abbrev St := Int × List T4
abbrev zst : St := (0, [])
def stepOf (p : ByteArray) : Option St :=
 if (124 : UInt8) ∈ p.data.toList then (numOf (hd 124 p.data.toList)).bind fun n => (txsAns (toB (tl 124 p.data.toList))).map fun ts => ((n : Int), ts) else none
def GoodSt (last : Int) (s : St) : Prop := last < s.1 ∧ s.1 ≤ 60 ∧ s.2.length ≤ 2
variable [∀ (last : Int) (s : St), Decidable (GoodSt last s)]
def stepAcc (o : Option (Int × List St)) (p : ByteArray) : Option (Int × List St) := o.bind fun q => (stepOf p).bind fun s => if GoodSt q.1 s then some (s.1, q.2 ++ [s]) else none
def stepsRun (ps : List ByteArray) : Option (Int × List St) := ps.foldl stepAcc (some (0, []))
def stepsAns (s : ByteArray) : Option (List St) :=
 if s = ⟨#[]⟩ then some []
 else if (splitAns s 47).getD 0 ByteArray.empty = ⟨#[]⟩ ∧ (splitAns s 47).length ≤ 31 then (stepsRun (splitAns s 47).tail).map (·.2) else none
theorem stepsRun_more (ps : List ByteArray) (p : ByteArray) : stepsRun (ps ++ [p]) = stepAcc (stepsRun ps) p := by
 unfold stepsRun; rw [List.foldl_append]; rfl
theorem acc_none (ps : List ByteArray) : ps.foldl stepAcc none = none := by
 induction ps with
 | nil => rfl
 | cons p ps ih => rw [List.foldl_cons]; exact ih
theorem stepsRun_none {ps : List ByteArray} (k : Nat) (h : stepsRun (ps.take k) = none) : stepsRun ps = none := by
 have e : stepsRun ps = (ps.drop k).foldl stepAcc (stepsRun (ps.take k)):=by
  unfold stepsRun
  rw [← List.foldl_append, List.take_append_drop]
 rw [e, h]
 exact acc_none _
theorem stepsRun_ok (ps : List ByteArray) (q : Int × List St) (h : stepsRun ps = some q) : q.2.length = ps.length ∧ (0 ≤ q.1 ∧ q.1 ≤ 60) ∧ (ps.length : Int) ≤ q.1 ∧ ∀ s ∈ q.2, (1 ≤ s.1 ∧ s.1 ≤ q.1) ∧ s.2.length ≤ 2 := by
 generalize hn : ps.length = n
 induction n generalizing ps q with
 | zero =>
  have : ps = []:=List.length_eq_zero_iff.1 hn
  subst this
  cases h
  exact ⟨rfl, by simp, by simp, fun s hs => by simp at hs⟩
 | succ n ih =>
  obtain ⟨ps', p, rfl⟩ : ∃ ps' p, ps = ps' ++ [p]:=⟨ps.dropLast, ps.getLast (fun e => by rw [e] at hn; simp at hn), (List.dropLast_concat_getLast _).symm⟩
  rw [stepsRun_more] at h
  unfold stepAcc at h
  cases hr : stepsRun ps' with
  | none => rw [hr] at h; cases h
  | some q' =>
   rw [hr] at h
   cases hs : stepOf p with
   | none => rw [hs] at h; simp at h
   | some s =>
    rw [hs] at h
    simp only [Option.bind_some] at h
    split at h
    ·rename_i hg
     cases h
     obtain ⟨h1, h2, h3, h4⟩:=ih ps' q' hr (by simpa using hn)
     obtain ⟨g1, g2, g3⟩:=hg
     refine ⟨by simp [h1], ⟨by show 0 ≤ s.1; omega, g2⟩, by show (((n + 1 : Nat)) : Int) ≤ s.1; omega, fun y hy => ?_⟩
     rcases List.mem_append.1 hy with hy | hy
     ·obtain ⟨⟨a1, a2⟩, a3⟩:=h4 y hy
      exact ⟨⟨a1, by show y.1 ≤ s.1; omega⟩, a3⟩
     simp at hy
     subst hy
     exact ⟨⟨by omega, Int.le_refl _⟩, g3⟩
    cases h
end
section
open Go.RowKit
def Bytes (xs : List Int) : Prop := ∀ k, k < xs.length → 0 ≤ xs.getD k 0 ∧ xs.getD k 0 ≤ 255
theorem win_cells {w : World} {b off q n : Nat} {xs : List Int} (h : ∀ k, k < xs.length → w.cell? ⟨b, off + k, none⟩ = some (.int .u8 (xs.getD k 0))) (hq : q + n ≤ xs.length) :
 ∀ i, i < n → w.cell? ⟨b, off + q + i, none⟩ = some (.int .u8 (((xs.drop q).take n).getD i 0)) := by
 intro i hi
 rw [Nat.add_assoc, h (q + i) (by omega)]
 simp [List.getD_eq_getElem?_getD, List.getElem?_drop, hi]
theorem win_len (xs : List Int) (q n : Nat) (hq : q + n ≤ xs.length) : ((xs.drop q).take n).length = n := by simp; omega
end
section

def joinTo (b : UInt8) (ps : List ByteArray) : Nat → List UInt8
 | 0 => []
 | j + 1 => (if 0 < j then joinTo b ps j ++ [b] else joinTo b ps j) ++ (ps.getD j ByteArray.empty).data.toList
theorem joinTo_pre (b : UInt8) (ps qs : List ByteArray) (j : Nat) (h : j ≤ ps.length) : joinTo b (ps ++ qs) j = joinTo b ps j := by
 induction j with
 | zero => rfl
 | succ j ih =>
  have e : (ps ++ qs).getD j ByteArray.empty = ps.getD j ByteArray.empty:=by
   rw [List.getD_eq_getElem?_getD, List.getD_eq_getElem?_getD, List.getElem?_append_left (by omega)]
  rw [joinTo, joinTo, ih (by omega), e]
theorem joinTo_snoc (b : UInt8) (ps : List ByteArray) (x : ByteArray) : joinTo b (ps ++ [x]) (ps.length + 1) = (if 0 < ps.length then joinTo b ps ps.length ++ [b] else joinTo b ps ps.length) ++ x.data.toList := by
 have e : (ps ++ [x]).getD ps.length ByteArray.empty = x:=by simp
 rw [joinTo, joinTo_pre b ps [x] ps.length (Nat.le_refl _), e]
theorem ext_cut (s : ByteArray) (i j : Nat) : (s.extract i j).data.toList = (s.data.toList.drop i).take (j - i) := by
 rw [ByteArray.data_extract, Array.toList_extract]
theorem split_inv (s : ByteArray) (b : UInt8) (k : Nat) (hk : k ≤ s.size) :
 ((pcs s b.toNat k).1 = [] ∧ (pcs s b.toNat k).2 = 0) ∨ (0 < (pcs s b.toNat k).1.length ∧ joinTo b (pcs s b.toNat k).1 (pcs s b.toNat k).1.length ++ [b] = s.data.toList.take (pcs s b.toNat k).2) := by
 induction k with
 | zero => left; simp [pcs]
 | succ k ih =>
  have ih:=ih (by omega)
  have hks : k < s.size:=by omega
  by_cases hb : (s[k].toNat : Int) = b.toNat
  ·rw [pcs_hit s _ k hks hb]
   right
   have hle:=(pcs_le s b.toNat k).1
   have hbb : s[k] = b:=by
    apply UInt8.toNat_inj.1; omega
   have htk : s.data.toList.take (k + 1) = s.data.toList.take k ++ [b]:=by
    rw [List.take_succ_eq_append_getElem (by simpa using hks)]
    congr 1
    rw [← hbb]; rfl
   refine ⟨by simp, ?_⟩
   simp only [List.length_append, List.length_cons, List.length_nil, Nat.zero_add]
   rw [joinTo_snoc, ext_cut, htk]
   congr 1
   rcases ih with ⟨h1, h2⟩ | ⟨h1, h2⟩
   ·rw [h1, h2]; simp [joinTo]
   rw [if_pos h1, h2]
   rw [← List.take_add]
   congr 1; omega
  rw [pcs_miss s _ k hks hb]; exact ih
theorem split_join (s : ByteArray) (b : UInt8) : joinTo b (splitAns s b.toNat) (splitAns s b.toNat).length = s.data.toList := by
 have hle:=(pcs_le s b.toNat s.size).1
 have hinv:=split_inv s b s.size (Nat.le_refl _)
 have hlen : s.data.toList.length = s.size:=by simp
 unfold splitAns
 simp only [List.length_append, List.length_cons, List.length_nil, Nat.zero_add]
 rw [joinTo_snoc, ext_cut]
 rcases hinv with ⟨h1, h2⟩ | ⟨h1, h2⟩
 ·rw [h1, h2]
  simp only [List.length_nil, joinTo, List.drop_zero, Nat.sub_zero]
  rw [List.take_of_length_le (by omega)]; simp
 rw [if_pos h1, h2, ← List.take_add, List.take_of_length_le (by omega)]
end
section
variable [∀ (a b c d : Int), Decidable (Ok4 a b c d)]
variable [∀ (a b c d : Nat), Decidable (okN a b c d)]
variable [∀ (x : T4), Decidable (OkT x)]
def jn : List (List UInt8) → List UInt8
 | [] => []
 | [p] => p
 | p :: q :: r => p ++ 44 :: jn (q :: r)
theorem jn_snoc (ps : List (List UInt8)) (p : List UInt8) : jn (ps ++ [p]) = (if 0 < ps.length then jn ps ++ [44] else jn ps) ++ p := by
 induction ps with
 | nil => simp [jn]
 | cons x ps ih =>
  cases ps with
  | nil => simp [jn]
  | cons y ps =>
   rw [List.cons_append] at ih
   rw [List.cons_append, List.cons_append, jn, jn, ih]
   simp
theorem jn_unique (ps qs : List (List UInt8)) (hp : ∀ p ∈ ps, 44 ∉ p) (hq : ∀ q ∈ qs, 44 ∉ q) (hn : ps ≠ []) (hm : qs ≠ []) (h : jn ps = jn qs) : ps = qs := by
 induction ps generalizing qs with
 | nil => exact absurd rfl hn
 | cons p ps ih =>
  cases qs with
  | nil => exact absurd rfl hm
  | cons q qs =>
   have hp0:=hp p (by simp)
   have hq0:=hq q (by simp)
   cases ps with
   | nil =>
    cases qs with
    | nil => simp [jn] at h; rw [h]
    | cons q' qs => simp only [jn] at h; rw [h] at hp0; simp at hp0
   | cons p' ps =>
    cases qs with
    | nil => simp only [jn] at h; rw [← h] at hq0; simp at hq0
    | cons q' qs =>
     simp only [jn] at h
     have e1 : p = q:=by rw [← hd_some (y:=jn (p' :: ps)) hp0, h, hd_some hq0]
     have e2 : jn (p' :: ps) = jn (q' :: qs):=by rw [← tl_some (x:=p) (y:=jn (p' :: ps)) hp0, h, tl_some hq0]
     rw [e1, ih (q' :: qs) (fun x hx => hp x (by simp at hx ⊢; exact .inr hx)) (fun x hx => hq x (by simp at hx ⊢; exact .inr hx)) (by simp) (by simp) e2]
theorem joinTo_jn (ps : List ByteArray) (k : Nat) (hk : k ≤ ps.length) : joinTo 44 ps k = jn ((ps.take k).map fun s => s.data.toList) := by
 induction k with
 | zero => simp [joinTo, jn]
 | succ k ih =>
  rw [joinTo, ih (by omega), take_more ps k (by omega), List.map_append, List.map_singleton, jn_snoc]
  simp only [List.length_map, List.length_take]
  rw [show min k ps.length = k from by omega]
theorem accT_jn (xs : List T4) (k : Nat) (hk : k ≤ xs.length) : accT xs k = jn ((xs.take k).map fun x => (txT x).data.toList) := by
 induction k with
 | zero => simp [accT, jn]
 | succ k ih =>
  have e : xs.take (k + 1) = xs.take k ++ [xs.getD k (0, 0, 0, 0)]:=by
   rw [List.take_succ_eq_append_getElem (by omega), List.getD_eq_getElem?_getD, List.getElem?_eq_getElem (by omega)]; rfl
  rw [accT, ih (by omega), e, List.map_append, List.map_singleton, jn_snoc]
  simp only [List.length_map, List.length_take]
  rw [show min k xs.length = k from by omega]
theorem pcs_clean (s : ByteArray) (k : Nat) (hk : k ≤ s.size) : (∀ p ∈ (pcs s 44 k).1, (44 : UInt8) ∉ p.data.toList) ∧ (44 : UInt8) ∉ (s.data.toList.drop (pcs s 44 k).2).take (k - (pcs s 44 k).2) := by
 induction k with
 | zero => simp [pcs]
 | succ k ih =>
  obtain ⟨h1, h2⟩:=ih (by omega)
  have hle:=(pcs_le s 44 k).1
  by_cases hb : (s[k].toNat : Int) = 44
  ·rw [pcs_hit s 44 k (by omega) hb]
   refine ⟨fun p hp => ?_, by simp⟩
   rw [List.mem_append] at hp
   rcases hp with hp | hp
   ·exact h1 p hp
   simp at hp; rw [hp, ext_list]; exact h2
  rw [pcs_miss s 44 k (by omega) hb]
  refine ⟨h1, ?_⟩
  have e:=not_mem_more (m:=44) (l:=s.data.toList) (n:=(pcs s 44 k).2) (pos:=k) (v:=1) hle h2 (fun j hj => by
   obtain rfl : j = 0:=by omega
   rw [Nat.add_zero, List.getElem?_eq_getElem (by simp; omega)]
   intro e
   have e' : s[k] = 44:=Option.some.inj e
   rw [e'] at hb; exact hb rfl)
  exact e
theorem split_clean (s : ByteArray) : ∀ p ∈ splitAns s 44, (44 : UInt8) ∉ p.data.toList := by
 intro p hp
 obtain ⟨h1, h2⟩:=pcs_clean s s.size (Nat.le_refl _)
 unfold splitAns at hp
 rw [List.mem_append] at hp
 rcases hp with hp | hp
 ·exact h1 p hp
 simp at hp; rw [hp, ext_list]; exact h2
theorem split_ne (s : ByteArray) : splitAns s 44 ≠ [] := by unfold splitAns; simp
theorem txT_clean (x : T4) : (44 : UInt8) ∉ (txT x).data.toList := by
 unfold txT txt
 obtain ⟨a, b, c, d⟩:=x
 by_cases h : Ok4 a b c d
 ·show (44 : UInt8) ∉ (if Ok4 a b c d then txs a b c d else (⟨#[]⟩ : ByteArray)).data.toList
  rw [if_pos h]
  obtain ⟨a', b', c', d', rfl, rfl, rfl, rfl⟩:=ok_nat h
  rw [txs_toB, toB_list]
  unfold txl
  have n:=fun n => no_mark n 44 (by decide)
  simp [n]
 show (44 : UInt8) ∉ (if Ok4 a b c d then txs a b c d else (⟨#[]⟩ : ByteArray)).data.toList
 rw [if_neg h]; simp
theorem isTx_T {s : ByteArray} {q : Nat × Nat × Nat × Nat} (h : txAns s.data.toList = some q) : txT (toT q) = s ∧ OkT (toT q) := by
 obtain ⟨a, b, c, d⟩:=q
 have hi:=txAns_is h
 exact ⟨isTx_txt hi, ok_cast.2 hi.1⟩
theorem ok_T {x : T4} (h : OkT x) : ∃ q, toT q = x ∧ txAns (txT x).data.toList = some q := by
 obtain ⟨a, b, c, d⟩:=x
 obtain ⟨a', b', c', d', rfl, rfl, rfl, rfl⟩:=ok_nat h
 refine ⟨(a', b', c', d'), rfl, txAns_some ⟨ok_cast.1 h, ?_⟩⟩
 show _ = (if Ok4 (a' : Int) b' c' d' then txs a' b' c' d' else (⟨#[]⟩ : ByteArray)).data.toList
 rw [if_pos (show Ok4 (a' : Int) b' c' d' from h), txs_toB, toB_list]
theorem allTx_texts {ps : List ByteArray} {ys : List T4} (h : allTx ps = some ys) : ys.map txT = ps ∧ ∀ y ∈ ys, OkT y := by
 induction ps generalizing ys with
 | nil => simp [allTx] at h; subst h; simp
 | cons p ps ih =>
  rw [allTx] at h
  cases hp : txAns p.data.toList with
  | none => rw [hp] at h; cases h
  | some q =>
   rw [hp] at h
   cases hq : allTx ps with
   | none => rw [hq] at h; cases h
   | some zs =>
    rw [hq] at h; simp at h; subst h
    obtain ⟨i1, i2⟩:=ih hq
    obtain ⟨j1, j2⟩:=isTx_T hp
    refine ⟨by simp [i1, j1], fun y hy => ?_⟩
    simp at hy
    rcases hy with rfl | hy
    ·exact j2
    exact i2 y hy
theorem allTx_of (ys : List T4) (h : ∀ y ∈ ys, OkT y) : allTx (ys.map txT) = some ys := by
 induction ys with
 | nil => rfl
 | cons y ys ih =>
  obtain ⟨q, e, hq⟩:=ok_T (h y (by simp))
  rw [List.map_cons, allTx, hq, ih (fun z hz => h z (by simp [hz]))]
  simp [e]
theorem txsAns_text {s : ByteArray} {ys : List T4} (h : txsAns s = some ys) : txsT ys = s := by
 unfold txsAns at h
 split at h
 ·rename_i hz
  simp at h; subst h
  unfold txsT; simp [accT, toB, hz]
 obtain ⟨h1, h2⟩:=allTx_texts h
 unfold txsT
 rw [if_pos h2, accT_jn ys ys.length (Nat.le_refl _), List.take_of_length_le (Nat.le_refl _)]
 have hj:=split_join s 44
 have e44 : (((44 : UInt8).toNat : Nat) : Int) = 44:=rfl
 rw [e44, joinTo_jn _ _ (Nat.le_refl _), List.take_of_length_le (Nat.le_refl _), ← h1, List.map_map] at hj
 have hj' : jn (ys.map fun x => (txT x).data.toList) = s.data.toList:=hj
 rw [hj', toB_data]
theorem txsAns_of (ys : List T4) (h : ∀ y ∈ ys, OkT y) : txsAns (txsT ys) = some ys := by
 have e : txsT ys = toB (jn (ys.map fun x => (txT x).data.toList)):=by
  unfold txsT
  rw [if_pos h, accT_jn ys ys.length (Nat.le_refl _), List.take_of_length_le (Nat.le_refl _)]
 cases ys with
 | nil => rw [e]; unfold txsAns; simp [jn, toB]
 | cons y ys =>
  have hne : txsT (y :: ys) ≠ ⟨#[]⟩:=by
   rw [e]
   intro hz
   have hz':=congrArg (fun s : ByteArray => s.data.toList) hz
   have hy:=txT_ne (h y (by simp))
   cases ys with
   | nil => simp [jn, toB] at hz'; exact hy (ByteArray.ext hz')
   | cons y' ys => simp [jn, toB] at hz'
  unfold txsAns
  rw [if_neg hne]
  have hj:=split_join (txsT (y :: ys)) 44
  have e44 : (((44 : UInt8).toNat : Nat) : Int) = 44:=rfl
  rw [e44, joinTo_jn _ _ (Nat.le_refl _), List.take_of_length_le (Nat.le_refl _)] at hj
  have hl : (txsT (y :: ys)).data.toList = jn ((y :: ys).map fun x => (txT x).data.toList):=by rw [e]; rfl
  rw [hl] at hj
  have hu:=jn_unique _ _ (fun p hp => by
   obtain ⟨z, hz, rfl⟩:=List.mem_map.1 hp
   exact split_clean _ z hz) (fun q hq => by
   obtain ⟨z, _, rfl⟩:=List.mem_map.1 hq
   exact txT_clean z) (by simp [split_ne]) (by simp) hj
  have hs : splitAns (txsT (y :: ys)) 44 = (y :: ys).map txT:=by
   have inj : ∀ (a b : List ByteArray), a.map (fun s => s.data.toList) = b.map (fun s => s.data.toList) → a = b:=by
    intro a
    induction a with
    | nil => intro b hb; cases b with
     | nil => rfl
     | cons => simp at hb
    | cons x a ih =>
     intro b hb
     cases b with
     | nil => simp at hb
     | cons z b =>
      simp at hb
      rw [ih b hb.2, ByteArray.ext hb.1]
   apply inj
   rw [hu, List.map_map]; rfl
  rw [hs]
  exact allTx_of _ h
end
end Go.Proofs.YtjdchloechcclaaGreatDoor
