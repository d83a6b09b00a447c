/- RepSz: a replica that came in is counted (laws.szRep). -/
import Derived.Test.YtndpjhiidmdlhaaGreatDoorRBAQ
set_option maxRecDepth 100000
set_option maxHeartbeats 16000000
namespace Go.Proofs.YtndpjhiidmdlhaaGreatDoor
open Go.RowKit
set_option linter.unusedSectionVars false
variable [∀ (a b c d : Int), Decidable (Ok4 a b c d)]
variable [∀ (n f : Int), Decidable (COk n f)]
variable [∀ (a b c d : Nat), Decidable (okN a b c d)]
variable [∀ (x : T4), Decidable (OkT x)]

structure RMx (t : RpT) (rs : List Pr) : Prop where
 s : t.s.size ≤ maxLen
 q : t.qw.length ≤ maxLen
 d : t.d.size ≤ maxLen
 p : t.pool.length ≤ maxLen
 tb : rs.length ≤ maxLen
 tt : ∀ r ∈ rs, r.2.1.size ≤ maxLen ∧ r.2.2.2.2.length ≤ maxLen
 k : t.dsk.length ≤ maxLen
 h : t.held.length ≤ maxLen
 hh : ∀ p ∈ t.held, MB p.2
abbrev rpz (t : RpT) (a b c d e : Value) : Value := rpv t a b c d e
theorem szRep_yes (t : RpT) (ao bo co od oe : Option Addr) (ca cb cc cd ce : Nat) (rs : List Pr) (left : Int) (w : World) (hc : ATab w co rs) (hh : RPoL w (.slice oe t.held.length ce) t.held) (hl : left ≤ 1048576) (g : (t.s.size : Int) + t.qw.length + t.d.size + t.pool.length + rs.length + psum rs + t.dsk.length + t.held.length + posum t.held ≤ left) :
 Calls Tryz.prog 9 #[rpz t (.slice ao t.qw.length ca) (.slice bo t.pool.length cb) (.slice co rs.length cc) (.slice od t.dsk.length cd) (.slice oe t.held.length ce), .int .i64 left] w fun r w' => r = .returned (.int .i64 (left - ((t.s.size : Int) + t.qw.length + t.d.size + t.pool.length + rs.length + psum rs + t.dsk.length + t.held.length + posum t.held))) ∧ Below w.heap.size w w' := by
 have HC := hide hc
 have HH := hide hh
 obtain ⟨L1, hL1⟩ : ∃ x : Int, left - t.s.size - t.qw.length - t.d.size = x := ⟨_, rfl⟩
 have T1 := hide fun w  => szSafe_yes t.vo t.lo t.n t.s ao t.qw.length ca t.d left w (by omega) (by omega)
 rw [hL1] at T1
 have d1 : decide (L1 < 0) = false := by simp; omega
 obtain ⟨L2, hL2⟩ : ∃ x : Int, L1 - t.pool.length = x := ⟨_, rfl⟩
 have T2 := hide fun w  => szL_yes bo t.pool.length cb L1 w (by omega) (by omega)
 rw [hL2] at T2
 have d2 : decide (L2 < 0) = false := by simp; omega
 obtain ⟨L3, hL3⟩ : ∃ x : Int, L2 - rs.length - psum rs = x := ⟨_, rfl⟩
 have T3 := hide fun w (h : ATab w co rs) => szPartS_yes co cc rs L2 w h (by omega) (by omega)
 rw [hL3] at T3
 have d3 : decide (L3 < 0) = false := by simp; omega
 obtain ⟨L4, hL4⟩ : ∃ x : Int, L3 - t.dsk.length = x := ⟨_, rfl⟩
 have T4 := hide fun w  => szDisk_yes od t.dsk.length cd t.su L3 w (by omega) (by omega)
 rw [hL4] at T4
 have d4 : decide (L4 < 0) = false := by simp; omega
 obtain ⟨L5, hL5⟩ : ∃ x : Int, L4 - t.held.length - posum t.held = x := ⟨_, rfl⟩
 have T5 := hide fun w (h : RPoL w (.slice oe t.held.length ce) t.held) => szPostS_yes _ t.held L4 w h (by omega) (by omega)
 rw [hL5] at T5
 have d5 : decide (L5 < 0) = false := by simp; omega
 rw [show left - ((t.s.size : Int) + t.qw.length + t.d.size + t.pool.length + rs.length + psum rs + t.dsk.length + t.held.length + posum t.held) = L5 by omega]
 clear hc hh hl g hL1 hL2 hL3 hL4 hL5
 obtain ⟨w0, hw0⟩ : ∃ w0, (w.alloc (.cells #[.int .i64 t.id, .int .i64 t.vw, .int .i64 t.ak, .int .i64 t.vo, .int .i64 t.lo, .int .i64 t.n, .string t.s, .slice ao t.qw.length ca, .string t.d, .slice bo t.pool.length cb, .slice co rs.length cc, .slice od t.dsk.length cd, .int .i64 t.su, .slice oe t.held.length ce] 36)) = w0 := ⟨_, rfl⟩
 have Bw0 : Below w.heap.size w w0 := hw0 ▸ (Below.refl _ _).alloc (Nat.le_refl _) _
 have P : Loc w0 (w.heap.size) #[.int .i64 t.id, .int .i64 t.vw, .int .i64 t.ak, .int .i64 t.vo, .int .i64 t.lo, .int .i64 t.n, .string t.s, .slice ao t.qw.length ca, .string t.d, .slice bo t.pool.length cb, .slice co rs.length cc, .slice od t.dsk.length cd, .int .i64 t.su, .slice oe t.held.length ce] := hw0 ▸ loc_at (w) _ _ rfl
 have zw0 : w.heap.size + 1 ≤ w0.heap.size := by rw [← hw0]; simp
 go_enter Tryz.func9, Tryz.ntmps9
 go_wp2_with (first | (refine wloadM [.int .i64 t.vo, .int .i64 t.lo, .int .i64 t.n, .string t.s, .slice ao t.qw.length ca, .string t.d] (P.range 3 6 rfl) 28 _ rfl _ rfl rfl Tryz.underlying28 rfl (by kernel_rfl) ?_))
 clear hw0
 refine (T1.out _).mono ?_
 rintro _ w1 ⟨rfl, bb⟩
 have Bw1 := bu Bw0 bb
 have sw1 := bb.size
 replace P := P.up bb
 clear Bw0
 clear bb
 have cP9 := P.cell 9 rfl
 go_wp2_with fail
 refine (T2.out _).mono ?_
 rintro _ w9 ⟨rfl, e9⟩
 rw [e9]
 clear e9
 clear cP9
 have cP10 := P.cell 10 rfl
 go_wp2_with fail
 refine (T3.out _ (HC.out.below (Bw1.mono (Nat.le_refl _)))).mono ?_
 rintro _ w2 ⟨rfl, bb⟩
 clear cP10
 have Bw2 := bu Bw1 bb
 have sw2 := bb.size
 replace P := P.up bb
 clear Bw1
 clear bb
 go_wp2_with (first | (refine wloadM [.slice od t.dsk.length cd, .int .i64 t.su] (P.range 11 2 rfl) 33 _ rfl _ rfl rfl Tryz.underlying33 rfl (by kernel_rfl) ?_))
 refine (T4.out _).mono ?_
 rintro _ w3 ⟨rfl, bb⟩
 have Bw3 := bu Bw2 bb
 have sw3 := bb.size
 replace P := P.up bb
 clear Bw2
 clear bb
 have cP13 := P.cell 13 rfl
 go_wp2_with fail
 refine (T5.out _ (HH.out.below Bw3)).mono ?_
 rintro _ w4 ⟨rfl, bb⟩
 clear cP13
 have Bw4 := bu Bw3 bb
 have sw4 := bb.size
 replace P := P.up bb
 clear Bw3
 clear bb
 go_wp2
 go_ret
 exact ⟨rfl, Bw4⟩
theorem szRep_no0 (t : RpT) (ao bo co od oe : Option Addr) (ca cb cc cd ce : Nat) (rs : List Pr) (left : Int) (w : World) (hc : ATab w co rs) (hh : RPoL w (.slice oe t.held.length ce) t.held) (hl : left ≤ 1048576) (m : RMx t rs) (g : 0 ≤ left ∧ (0 : Int) ≤ left ∧ left < ((t.s.size : Int) + t.qw.length + t.d.size)) :
 Calls Tryz.prog 9 #[rpz t (.slice ao t.qw.length ca) (.slice bo t.pool.length cb) (.slice co rs.length cc) (.slice od t.dsk.length cd) (.slice oe t.held.length ce), .int .i64 left] w fun r w' => r = .returned (.int .i64 (-1)) ∧ Below w.heap.size w w' := by
 have HC := hide hc
 have HH := hide hh
 have p0 : 0 ≤ left := by omega
 have T1 := hide fun w  => szSafe_no t.vo t.lo t.n t.s ao t.qw.length ca t.d left w (by omega) (by omega) (by have := m.s; unfold maxLen at this; omega) (by have := m.q; unfold maxLen at this; omega) (by have := m.d; unfold maxLen at this; omega) (by omega)
 have d1 : decide ((-1 : Int) < 0) = true := by decide
 clear hc hh hl g m p0
 obtain ⟨w0, hw0⟩ : ∃ w0, (w.alloc (.cells #[.int .i64 t.id, .int .i64 t.vw, .int .i64 t.ak, .int .i64 t.vo, .int .i64 t.lo, .int .i64 t.n, .string t.s, .slice ao t.qw.length ca, .string t.d, .slice bo t.pool.length cb, .slice co rs.length cc, .slice od t.dsk.length cd, .int .i64 t.su, .slice oe t.held.length ce] 36)) = w0 := ⟨_, rfl⟩
 have Bw0 : Below w.heap.size w w0 := hw0 ▸ (Below.refl _ _).alloc (Nat.le_refl _) _
 have P : Loc w0 (w.heap.size) #[.int .i64 t.id, .int .i64 t.vw, .int .i64 t.ak, .int .i64 t.vo, .int .i64 t.lo, .int .i64 t.n, .string t.s, .slice ao t.qw.length ca, .string t.d, .slice bo t.pool.length cb, .slice co rs.length cc, .slice od t.dsk.length cd, .int .i64 t.su, .slice oe t.held.length ce] := hw0 ▸ loc_at (w) _ _ rfl
 have zw0 : w.heap.size + 1 ≤ w0.heap.size := by rw [← hw0]; simp
 go_enter Tryz.func9, Tryz.ntmps9
 go_wp2_with (first | (refine wloadM [.int .i64 t.vo, .int .i64 t.lo, .int .i64 t.n, .string t.s, .slice ao t.qw.length ca, .string t.d] (P.range 3 6 rfl) 28 _ rfl _ rfl rfl Tryz.underlying28 rfl (by kernel_rfl) ?_))
 clear hw0
 refine (T1.out _).mono ?_
 rintro _ w1 ⟨rfl, bb⟩
 have Bw1 := bu Bw0 bb
 have sw1 := bb.size
 replace P := P.up bb
 clear Bw0
 clear bb
 go_wp2
 go_ret
 exact ⟨rfl, Bw1⟩
theorem szRep_no1 (t : RpT) (ao bo co od oe : Option Addr) (ca cb cc cd ce : Nat) (rs : List Pr) (left : Int) (w : World) (hc : ATab w co rs) (hh : RPoL w (.slice oe t.held.length ce) t.held) (hl : left ≤ 1048576) (m : RMx t rs) (g : 0 ≤ left ∧ (0 : Int) + ((t.s.size : Int) + t.qw.length + t.d.size) ≤ left ∧ left < ((t.s.size : Int) + t.qw.length + t.d.size) + ((t.pool.length : Int))) :
 Calls Tryz.prog 9 #[rpz t (.slice ao t.qw.length ca) (.slice bo t.pool.length cb) (.slice co rs.length cc) (.slice od t.dsk.length cd) (.slice oe t.held.length ce), .int .i64 left] w fun r w' => r = .returned (.int .i64 (-1)) ∧ Below w.heap.size w w' := by
 have HC := hide hc
 have HH := hide hh
 have p0 : 0 ≤ left := by omega
 obtain ⟨L1, hL1⟩ : ∃ x : Int, left - t.s.size - t.qw.length - t.d.size = x := ⟨_, rfl⟩
 have T1 := hide fun w  => szSafe_yes t.vo t.lo t.n t.s ao t.qw.length ca t.d left w (by omega) (by omega)
 rw [hL1] at T1
 have d1 : decide (L1 < 0) = false := by simp; omega
 have T2 := hide fun w  => szL_no bo t.pool.length cb L1 w (by omega) (by omega) (by have := m.p; unfold maxLen at this; omega) (by omega)
 have d2 : decide ((-1 : Int) < 0) = true := by decide
 clear hc hh hl g hL1 m p0
 obtain ⟨w0, hw0⟩ : ∃ w0, (w.alloc (.cells #[.int .i64 t.id, .int .i64 t.vw, .int .i64 t.ak, .int .i64 t.vo, .int .i64 t.lo, .int .i64 t.n, .string t.s, .slice ao t.qw.length ca, .string t.d, .slice bo t.pool.length cb, .slice co rs.length cc, .slice od t.dsk.length cd, .int .i64 t.su, .slice oe t.held.length ce] 36)) = w0 := ⟨_, rfl⟩
 have Bw0 : Below w.heap.size w w0 := hw0 ▸ (Below.refl _ _).alloc (Nat.le_refl _) _
 have P : Loc w0 (w.heap.size) #[.int .i64 t.id, .int .i64 t.vw, .int .i64 t.ak, .int .i64 t.vo, .int .i64 t.lo, .int .i64 t.n, .string t.s, .slice ao t.qw.length ca, .string t.d, .slice bo t.pool.length cb, .slice co rs.length cc, .slice od t.dsk.length cd, .int .i64 t.su, .slice oe t.held.length ce] := hw0 ▸ loc_at (w) _ _ rfl
 have zw0 : w.heap.size + 1 ≤ w0.heap.size := by rw [← hw0]; simp
 go_enter Tryz.func9, Tryz.ntmps9
 go_wp2_with (first | (refine wloadM [.int .i64 t.vo, .int .i64 t.lo, .int .i64 t.n, .string t.s, .slice ao t.qw.length ca, .string t.d] (P.range 3 6 rfl) 28 _ rfl _ rfl rfl Tryz.underlying28 rfl (by kernel_rfl) ?_))
 clear hw0
 refine (T1.out _).mono ?_
 rintro _ w1 ⟨rfl, bb⟩
 have Bw1 := bu Bw0 bb
 have sw1 := bb.size
 replace P := P.up bb
 clear Bw0
 clear bb
 have cP9 := P.cell 9 rfl
 go_wp2_with fail
 refine (T2.out _).mono ?_
 rintro _ w9 ⟨rfl, e9⟩
 rw [e9]
 clear e9
 clear cP9
 go_wp2
 go_ret
 exact ⟨rfl, Bw1⟩
theorem szRep_no2 (t : RpT) (ao bo co od oe : Option Addr) (ca cb cc cd ce : Nat) (rs : List Pr) (left : Int) (w : World) (hc : ATab w co rs) (hh : RPoL w (.slice oe t.held.length ce) t.held) (hl : left ≤ 1048576) (m : RMx t rs) (g : 0 ≤ left ∧ (0 : Int) + ((t.s.size : Int) + t.qw.length + t.d.size) + ((t.pool.length : Int)) ≤ left ∧ left < ((t.s.size : Int) + t.qw.length + t.d.size) + ((t.pool.length : Int)) + ((rs.length : Int) + psum rs)) :
 Calls Tryz.prog 9 #[rpz t (.slice ao t.qw.length ca) (.slice bo t.pool.length cb) (.slice co rs.length cc) (.slice od t.dsk.length cd) (.slice oe t.held.length ce), .int .i64 left] w fun r w' => r = .returned (.int .i64 (-1)) ∧ Below w.heap.size w w' := by
 have HC := hide hc
 have HH := hide hh
 have p0 : 0 ≤ left := by omega
 obtain ⟨L1, hL1⟩ : ∃ x : Int, left - t.s.size - t.qw.length - t.d.size = x := ⟨_, rfl⟩
 have T1 := hide fun w  => szSafe_yes t.vo t.lo t.n t.s ao t.qw.length ca t.d left w (by omega) (by omega)
 rw [hL1] at T1
 have d1 : decide (L1 < 0) = false := by simp; omega
 obtain ⟨L2, hL2⟩ : ∃ x : Int, L1 - t.pool.length = x := ⟨_, rfl⟩
 have T2 := hide fun w  => szL_yes bo t.pool.length cb L1 w (by omega) (by omega)
 rw [hL2] at T2
 have d2 : decide (L2 < 0) = false := by simp; omega
 have T3 := hide fun w (h : ATab w co rs) => szPartS_no co cc rs L2 w h m.tt (by omega) m.tb (by omega) (by omega)
 have d3 : decide ((-1 : Int) < 0) = true := by decide
 clear hc hh hl g hL1 hL2 m p0
 obtain ⟨w0, hw0⟩ : ∃ w0, (w.alloc (.cells #[.int .i64 t.id, .int .i64 t.vw, .int .i64 t.ak, .int .i64 t.vo, .int .i64 t.lo, .int .i64 t.n, .string t.s, .slice ao t.qw.length ca, .string t.d, .slice bo t.pool.length cb, .slice co rs.length cc, .slice od t.dsk.length cd, .int .i64 t.su, .slice oe t.held.length ce] 36)) = w0 := ⟨_, rfl⟩
 have Bw0 : Below w.heap.size w w0 := hw0 ▸ (Below.refl _ _).alloc (Nat.le_refl _) _
 have P : Loc w0 (w.heap.size) #[.int .i64 t.id, .int .i64 t.vw, .int .i64 t.ak, .int .i64 t.vo, .int .i64 t.lo, .int .i64 t.n, .string t.s, .slice ao t.qw.length ca, .string t.d, .slice bo t.pool.length cb, .slice co rs.length cc, .slice od t.dsk.length cd, .int .i64 t.su, .slice oe t.held.length ce] := hw0 ▸ loc_at (w) _ _ rfl
 have zw0 : w.heap.size + 1 ≤ w0.heap.size := by rw [← hw0]; simp
 go_enter Tryz.func9, Tryz.ntmps9
 go_wp2_with (first | (refine wloadM [.int .i64 t.vo, .int .i64 t.lo, .int .i64 t.n, .string t.s, .slice ao t.qw.length ca, .string t.d] (P.range 3 6 rfl) 28 _ rfl _ rfl rfl Tryz.underlying28 rfl (by kernel_rfl) ?_))
 clear hw0
 refine (T1.out _).mono ?_
 rintro _ w1 ⟨rfl, bb⟩
 have Bw1 := bu Bw0 bb
 have sw1 := bb.size
 replace P := P.up bb
 clear Bw0
 clear bb
 have cP9 := P.cell 9 rfl
 go_wp2_with fail
 refine (T2.out _).mono ?_
 rintro _ w9 ⟨rfl, e9⟩
 rw [e9]
 clear e9
 clear cP9
 have cP10 := P.cell 10 rfl
 go_wp2_with fail
 refine (T3.out _ (HC.out.below (Bw1.mono (Nat.le_refl _)))).mono ?_
 rintro _ w2 ⟨rfl, bb⟩
 clear cP10
 have Bw2 := bu Bw1 bb
 have sw2 := bb.size
 replace P := P.up bb
 clear Bw1
 clear bb
 go_wp2
 go_ret
 exact ⟨rfl, Bw2⟩
theorem szRep_no3 (t : RpT) (ao bo co od oe : Option Addr) (ca cb cc cd ce : Nat) (rs : List Pr) (left : Int) (w : World) (hc : ATab w co rs) (hh : RPoL w (.slice oe t.held.length ce) t.held) (hl : left ≤ 1048576) (m : RMx t rs) (g : 0 ≤ left ∧ (0 : Int) + ((t.s.size : Int) + t.qw.length + t.d.size) + ((t.pool.length : Int)) + ((rs.length : Int) + psum rs) ≤ left ∧ left < ((t.s.size : Int) + t.qw.length + t.d.size) + ((t.pool.length : Int)) + ((rs.length : Int) + psum rs) + ((t.dsk.length : Int))) :
 Calls Tryz.prog 9 #[rpz t (.slice ao t.qw.length ca) (.slice bo t.pool.length cb) (.slice co rs.length cc) (.slice od t.dsk.length cd) (.slice oe t.held.length ce), .int .i64 left] w fun r w' => r = .returned (.int .i64 (-1)) ∧ Below w.heap.size w w' := by
 have HC := hide hc
 have HH := hide hh
 have p0 : 0 ≤ left := by omega
 obtain ⟨L1, hL1⟩ : ∃ x : Int, left - t.s.size - t.qw.length - t.d.size = x := ⟨_, rfl⟩
 have T1 := hide fun w  => szSafe_yes t.vo t.lo t.n t.s ao t.qw.length ca t.d left w (by omega) (by omega)
 rw [hL1] at T1
 have d1 : decide (L1 < 0) = false := by simp; omega
 obtain ⟨L2, hL2⟩ : ∃ x : Int, L1 - t.pool.length = x := ⟨_, rfl⟩
 have T2 := hide fun w  => szL_yes bo t.pool.length cb L1 w (by omega) (by omega)
 rw [hL2] at T2
 have d2 : decide (L2 < 0) = false := by simp; omega
 obtain ⟨L3, hL3⟩ : ∃ x : Int, L2 - rs.length - psum rs = x := ⟨_, rfl⟩
 have T3 := hide fun w (h : ATab w co rs) => szPartS_yes co cc rs L2 w h (by omega) (by omega)
 rw [hL3] at T3
 have d3 : decide (L3 < 0) = false := by simp; omega
 have T4 := hide fun w  => szDisk_no od t.dsk.length cd t.su L3 w (by omega) (by omega) (by omega) (by have := m.k; unfold maxLen at this; omega)
 have d4 : decide ((-1 : Int) < 0) = true := by decide
 clear hc hh hl g hL1 hL2 hL3 m p0
 obtain ⟨w0, hw0⟩ : ∃ w0, (w.alloc (.cells #[.int .i64 t.id, .int .i64 t.vw, .int .i64 t.ak, .int .i64 t.vo, .int .i64 t.lo, .int .i64 t.n, .string t.s, .slice ao t.qw.length ca, .string t.d, .slice bo t.pool.length cb, .slice co rs.length cc, .slice od t.dsk.length cd, .int .i64 t.su, .slice oe t.held.length ce] 36)) = w0 := ⟨_, rfl⟩
 have Bw0 : Below w.heap.size w w0 := hw0 ▸ (Below.refl _ _).alloc (Nat.le_refl _) _
 have P : Loc w0 (w.heap.size) #[.int .i64 t.id, .int .i64 t.vw, .int .i64 t.ak, .int .i64 t.vo, .int .i64 t.lo, .int .i64 t.n, .string t.s, .slice ao t.qw.length ca, .string t.d, .slice bo t.pool.length cb, .slice co rs.length cc, .slice od t.dsk.length cd, .int .i64 t.su, .slice oe t.held.length ce] := hw0 ▸ loc_at (w) _ _ rfl
 have zw0 : w.heap.size + 1 ≤ w0.heap.size := by rw [← hw0]; simp
 go_enter Tryz.func9, Tryz.ntmps9
 go_wp2_with (first | (refine wloadM [.int .i64 t.vo, .int .i64 t.lo, .int .i64 t.n, .string t.s, .slice ao t.qw.length ca, .string t.d] (P.range 3 6 rfl) 28 _ rfl _ rfl rfl Tryz.underlying28 rfl (by kernel_rfl) ?_))
 clear hw0
 refine (T1.out _).mono ?_
 rintro _ w1 ⟨rfl, bb⟩
 have Bw1 := bu Bw0 bb
 have sw1 := bb.size
 replace P := P.up bb
 clear Bw0
 clear bb
 have cP9 := P.cell 9 rfl
 go_wp2_with fail
 refine (T2.out _).mono ?_
 rintro _ w9 ⟨rfl, e9⟩
 rw [e9]
 clear e9
 clear cP9
 have cP10 := P.cell 10 rfl
 go_wp2_with fail
 refine (T3.out _ (HC.out.below (Bw1.mono (Nat.le_refl _)))).mono ?_
 rintro _ w2 ⟨rfl, bb⟩
 clear cP10
 have Bw2 := bu Bw1 bb
 have sw2 := bb.size
 replace P := P.up bb
 clear Bw1
 clear bb
 go_wp2_with (first | (refine wloadM [.slice od t.dsk.length cd, .int .i64 t.su] (P.range 11 2 rfl) 33 _ rfl _ rfl rfl Tryz.underlying33 rfl (by kernel_rfl) ?_))
 refine (T4.out _).mono ?_
 rintro _ w3 ⟨rfl, bb⟩
 have Bw3 := bu Bw2 bb
 have sw3 := bb.size
 replace P := P.up bb
 clear Bw2
 clear bb
 go_wp2
 go_ret
 exact ⟨rfl, Bw3⟩
theorem szRep_no4 (t : RpT) (ao bo co od oe : Option Addr) (ca cb cc cd ce : Nat) (rs : List Pr) (left : Int) (w : World) (hc : ATab w co rs) (hh : RPoL w (.slice oe t.held.length ce) t.held) (hl : left ≤ 1048576) (m : RMx t rs) (g : 0 ≤ left ∧ (0 : Int) + ((t.s.size : Int) + t.qw.length + t.d.size) + ((t.pool.length : Int)) + ((rs.length : Int) + psum rs) + ((t.dsk.length : Int)) ≤ left ∧ left < ((t.s.size : Int) + t.qw.length + t.d.size) + ((t.pool.length : Int)) + ((rs.length : Int) + psum rs) + ((t.dsk.length : Int)) + ((t.held.length : Int) + posum t.held)) :
 Calls Tryz.prog 9 #[rpz t (.slice ao t.qw.length ca) (.slice bo t.pool.length cb) (.slice co rs.length cc) (.slice od t.dsk.length cd) (.slice oe t.held.length ce), .int .i64 left] w fun r w' => r = .returned (.int .i64 (-1)) ∧ Below w.heap.size w w' := by
 have HC := hide hc
 have HH := hide hh
 have p0 : 0 ≤ left := by omega
 obtain ⟨L1, hL1⟩ : ∃ x : Int, left - t.s.size - t.qw.length - t.d.size = x := ⟨_, rfl⟩
 have T1 := hide fun w  => szSafe_yes t.vo t.lo t.n t.s ao t.qw.length ca t.d left w (by omega) (by omega)
 rw [hL1] at T1
 have d1 : decide (L1 < 0) = false := by simp; omega
 obtain ⟨L2, hL2⟩ : ∃ x : Int, L1 - t.pool.length = x := ⟨_, rfl⟩
 have T2 := hide fun w  => szL_yes bo t.pool.length cb L1 w (by omega) (by omega)
 rw [hL2] at T2
 have d2 : decide (L2 < 0) = false := by simp; omega
 obtain ⟨L3, hL3⟩ : ∃ x : Int, L2 - rs.length - psum rs = x := ⟨_, rfl⟩
 have T3 := hide fun w (h : ATab w co rs) => szPartS_yes co cc rs L2 w h (by omega) (by omega)
 rw [hL3] at T3
 have d3 : decide (L3 < 0) = false := by simp; omega
 obtain ⟨L4, hL4⟩ : ∃ x : Int, L3 - t.dsk.length = x := ⟨_, rfl⟩
 have T4 := hide fun w  => szDisk_yes od t.dsk.length cd t.su L3 w (by omega) (by omega)
 rw [hL4] at T4
 have d4 : decide (L4 < 0) = false := by simp; omega
 have T5 := hide fun w (h : RPoL w (.slice oe t.held.length ce) t.held) => szPostS_no _ t.held L4 w h m.hh (by omega) m.h (by omega) (by omega)
 have d5 : decide ((-1 : Int) < 0) = true := by decide
 clear hc hh hl g hL1 hL2 hL3 hL4 m p0
 obtain ⟨w0, hw0⟩ : ∃ w0, (w.alloc (.cells #[.int .i64 t.id, .int .i64 t.vw, .int .i64 t.ak, .int .i64 t.vo, .int .i64 t.lo, .int .i64 t.n, .string t.s, .slice ao t.qw.length ca, .string t.d, .slice bo t.pool.length cb, .slice co rs.length cc, .slice od t.dsk.length cd, .int .i64 t.su, .slice oe t.held.length ce] 36)) = w0 := ⟨_, rfl⟩
 have Bw0 : Below w.heap.size w w0 := hw0 ▸ (Below.refl _ _).alloc (Nat.le_refl _) _
 have P : Loc w0 (w.heap.size) #[.int .i64 t.id, .int .i64 t.vw, .int .i64 t.ak, .int .i64 t.vo, .int .i64 t.lo, .int .i64 t.n, .string t.s, .slice ao t.qw.length ca, .string t.d, .slice bo t.pool.length cb, .slice co rs.length cc, .slice od t.dsk.length cd, .int .i64 t.su, .slice oe t.held.length ce] := hw0 ▸ loc_at (w) _ _ rfl
 have zw0 : w.heap.size + 1 ≤ w0.heap.size := by rw [← hw0]; simp
 go_enter Tryz.func9, Tryz.ntmps9
 go_wp2_with (first | (refine wloadM [.int .i64 t.vo, .int .i64 t.lo, .int .i64 t.n, .string t.s, .slice ao t.qw.length ca, .string t.d] (P.range 3 6 rfl) 28 _ rfl _ rfl rfl Tryz.underlying28 rfl (by kernel_rfl) ?_))
 clear hw0
 refine (T1.out _).mono ?_
 rintro _ w1 ⟨rfl, bb⟩
 have Bw1 := bu Bw0 bb
 have sw1 := bb.size
 replace P := P.up bb
 clear Bw0
 clear bb
 have cP9 := P.cell 9 rfl
 go_wp2_with fail
 refine (T2.out _).mono ?_
 rintro _ w9 ⟨rfl, e9⟩
 rw [e9]
 clear e9
 clear cP9
 have cP10 := P.cell 10 rfl
 go_wp2_with fail
 refine (T3.out _ (HC.out.below (Bw1.mono (Nat.le_refl _)))).mono ?_
 rintro _ w2 ⟨rfl, bb⟩
 clear cP10
 have Bw2 := bu Bw1 bb
 have sw2 := bb.size
 replace P := P.up bb
 clear Bw1
 clear bb
 go_wp2_with (first | (refine wloadM [.slice od t.dsk.length cd, .int .i64 t.su] (P.range 11 2 rfl) 33 _ rfl _ rfl rfl Tryz.underlying33 rfl (by kernel_rfl) ?_))
 refine (T4.out _).mono ?_
 rintro _ w3 ⟨rfl, bb⟩
 have Bw3 := bu Bw2 bb
 have sw3 := bb.size
 replace P := P.up bb
 clear Bw2
 clear bb
 have cP13 := P.cell 13 rfl
 go_wp2_with fail
 refine (T5.out _ (HH.out.below Bw3)).mono ?_
 rintro _ w4 ⟨rfl, bb⟩
 clear cP13
 have Bw4 := bu Bw3 bb
 have sw4 := bb.size
 replace P := P.up bb
 clear Bw3
 clear bb
 go_wp2
 go_ret
 exact ⟨rfl, Bw4⟩
theorem szRep_no (t : RpT) (ao bo co od oe : Option Addr) (ca cb cc cd ce : Nat) (rs : List Pr) (left : Int) (w : World) (hc : ATab w co rs) (hh : RPoL w (.slice oe t.held.length ce) t.held) (hl : left ≤ 1048576) (m : RMx t rs) (h0 : 0 ≤ left) (g : left < (t.s.size : Int) + t.qw.length + t.d.size + t.pool.length + rs.length + psum rs + t.dsk.length + t.held.length + posum t.held) :
 Calls Tryz.prog 9 #[rpz t (.slice ao t.qw.length ca) (.slice bo t.pool.length cb) (.slice co rs.length cc) (.slice od t.dsk.length cd) (.slice oe t.held.length ce), .int .i64 left] w fun r w' => r = .returned (.int .i64 (-1)) ∧ Below w.heap.size w w' := by
 by_cases g0 : left < ((t.s.size : Int) + t.qw.length + t.d.size)
 ·exact szRep_no0 t ao bo co od oe ca cb cc cd ce rs left w hc hh hl m ⟨h0, by omega, g0⟩
 by_cases g1 : left < ((t.s.size : Int) + t.qw.length + t.d.size) + ((t.pool.length : Int))
 ·exact szRep_no1 t ao bo co od oe ca cb cc cd ce rs left w hc hh hl m ⟨h0, by omega, g1⟩
 by_cases g2 : left < ((t.s.size : Int) + t.qw.length + t.d.size) + ((t.pool.length : Int)) + ((rs.length : Int) + psum rs)
 ·exact szRep_no2 t ao bo co od oe ca cb cc cd ce rs left w hc hh hl m ⟨h0, by omega, g2⟩
 by_cases g3 : left < ((t.s.size : Int) + t.qw.length + t.d.size) + ((t.pool.length : Int)) + ((rs.length : Int) + psum rs) + ((t.dsk.length : Int))
 ·exact szRep_no3 t ao bo co od oe ca cb cc cd ce rs left w hc hh hl m ⟨h0, by omega, g3⟩
 by_cases g4 : left < ((t.s.size : Int) + t.qw.length + t.d.size) + ((t.pool.length : Int)) + ((rs.length : Int) + psum rs) + ((t.dsk.length : Int)) + ((t.held.length : Int) + posum t.held)
 ·exact szRep_no4 t ao bo co od oe ca cb cc cd ce rs left w hc hh hl m ⟨h0, by omega, g4⟩
 omega
end Go.Proofs.YtndpjhiidmdlhaaGreatDoor
