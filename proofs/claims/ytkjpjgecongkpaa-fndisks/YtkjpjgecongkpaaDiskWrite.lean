/- DiskWrite: slices.Concat of two; what write does to a drive. -/
import Derived.Test.YtkjpjgecongkpaaDiskImpl
namespace Go.Proofs.Ytkjpjgecongkpaa
open Go.RowKit

set_option maxHeartbeats 800000 in
set_option maxRecDepth 100000 in
theorem grow_none (w : World) :
    Calls Try.prog 57 #[.slice none 0 0, .int .i64 0] w fun e w' => ∃ v, e = .returned v ∧ OB w' w.heap.size v [] ∧ Below w.heap.size w w' := by
  have HO : Hid (OB w w.heap.size (.slice none 0 0) []) := World.ownsRow_nil _ _ _ _
  go_enter Try.func57, Try.ntmps57
  go_wp2
  go_ret
  exact ⟨_, rfl, HO.out, Below.refl _ _⟩
theorem growB_any (n : Nat) (w : World) (hl : n ≤ 4194304) :
    Calls Try.prog 57 #[.slice none 0 0, .int .i64 n] w fun e w' => ∃ v, e = .returned v ∧ OB w' w.heap.size v [] ∧ Below w.heap.size w w' := by
  by_cases h : n = 0
  · subst h; exact grow_none w
  · exact grow_bytes n w (by omega) hl
set_option maxHeartbeats 4000000 in
set_option maxRecDepth 100000 in
theorem concatB2 (g : Nat) (v1 v2 : Value) (xs ys : List Int) (w : World) (h0 : w.cell? ⟨g, 0, none⟩ = some v1) (h1 : w.cell? ⟨g, 1, none⟩ = some v2)
    (p1 : PB w v1 xs) (p2 : PB w v2 ys) (hl : xs.length + ys.length ≤ 4194304) :
    Calls Try.prog 51 #[.slice (some ⟨g, 0, none⟩) 2 2] w fun e w' => ∃ v, e = .returned v ∧ OB w' w.heap.size v (xs ++ ys) ∧ Below w.heap.size w w' := by
  have P1 := hide p1
  have P2 := hide p2
  have GR := hide fun w => growB_any (xs.length + ys.length) w hl
  have lg : g < w.heap.size := cell_lt h0
  obtain ⟨a1, k1, rfl, _⟩ := p1
  obtain ⟨a2, k2, rfl, _⟩ := p2
  have e1 : IntKind.i64.wrap ((xs.length : Int) + (ys.length : Int)) = ((xs.length + ys.length : Nat) : Int) := by rw [IntKind.wrap_i64]; omega
  obtain ⟨n, hn⟩ : ∃ n, xs.length + ys.length = n := ⟨_, rfl⟩
  rw [hn] at GR e1
  have n1 : ¬ ((n : Int) < 0) := by omega
  go_enter Try.func51, Try.ntmps51
  go_wp2
  refine wp_loop_rounds 3 ?_
  rw [rounds_succ]
  go_wp2
  rw [rounds_succ]
  go_wp2
  rw [rounds_succ]
  go_wp2_with fail
  refine (unhide GR _).mono ?_
  rintro _ w0 ⟨v0, rfl, o0, b0⟩
  have HO0 := hide o0
  have HB0 := hide b0
  have c0 := b0.cell (p := ⟨g, 0, none⟩) lg
  rw [h0] at c0
  have c1 := b0.cell (p := ⟨g, 1, none⟩) lg
  rw [h1] at c1
  clear o0 b0
  go_wp2
  refine wp_loop_rounds 3 ?_
  rw [rounds_succ]
  go_wp2_with (first | (at_builtin; refine append_bytes rfl _ _ rfl w.heap.size v0 (.slice a1 xs.length k1) ([]) xs rfl rfl (unhide HO0) ((unhide P1).below (unhide HB0)) (by simp; omega) (unhide HB0).size ?_; intro v1 w1 ho1 hg1 _; have HO1 := hide ho1; have HB1 := hide ((unhide HB0).grown hg1 (unhide HB0).size (fun j hj => ((unhide HO0).lt j hj).1)); have c0 := (unhide HB1).cell (p := ⟨g, 0, none⟩) lg; rw [h0] at c0; have c1 := (unhide HB1).cell (p := ⟨g, 1, none⟩) lg; rw [h1] at c1; clear ho1 hg1))
  rw [rounds_succ]
  go_wp2_with (first | (at_builtin; refine append_bytes rfl _ _ rfl w.heap.size v1 (.slice a2 ys.length k2) ([] ++ xs) ys rfl rfl (unhide HO1) ((unhide P2).below (unhide HB1)) (by simp; omega) (unhide HB1).size ?_; intro v2 w2 ho2 hg2 _; have HO2 := hide ho2; have HB2 := hide ((unhide HB1).grown hg2 (unhide HB1).size (fun j hj => ((unhide HO1).lt j hj).1)); have c0 := (unhide HB2).cell (p := ⟨g, 0, none⟩) lg; rw [h0] at c0; have c1 := (unhide HB2).cell (p := ⟨g, 1, none⟩) lg; rw [h1] at c1; clear ho2 hg2))
  rw [rounds_succ]
  go_wp2
  go_ret
  exact ⟨_, rfl, unhide HO2, unhide HB2⟩

/-- Whether m more fit. -/
def apdB (n m : Nat) (s : Int) : Bool := dokB n s && decide (n + m ≤ 100000)

set_option maxHeartbeats 4000000 in
set_option maxRecDepth 100000 in
theorem write_yes (g : Nat) (ao bo : Option Addr) (ca cb : Nat) (s : Int) (xs ys : List Int) (w : World) (h : Loc w g (drv 0 (.slice ao xs.length ca) s 0)) (ra : RF w g (.slice ao xs.length ca) xs) (rb : RF w g (.slice bo ys.length cb) ys) (ha : apdB xs.length ys.length s = true) :
    Calls Try.prog 35 #[.pointer (some ⟨g, 0, none⟩), .slice bo ys.length cb] w fun e w' => e = .returned (.bool true) ∧ ∃ v', Loc w' g (drv 0 v' s 0) ∧ RF w' g v' (xs ++ ys) ∧ Kp w w' (fun k => k = g) := by
  have hd : dokB xs.length s = true := by unfold apdB at ha; simp at ha; exact ha.1
  have hl : xs.length + ys.length ≤ 100000 := by unfold apdB at ha; simp at ha; exact ha.2
  have LK := hide (lockL g (.slice ao xs.length ca) s 0 w h)
  have DK := hide fun w => implDiskOk ao xs.length ca s w
  rw [hd] at DK
  have RA := hide ra
  have RBB := hide rb
  have hgt : decide ((ys.length : Int) > 100000 - (xs.length : Int)) = false := by simp; omega
  have hgl : ¬ ((100000 : Int) - (xs.length : Int) < (ys.length : Int)) := by omega
  have CC := hide fun g v1 v2 w h0 h1 p1 p2 => concatB2 g v1 v2 xs ys w h0 h1 p1 p2 (by omega)
  have HL := hide hl
  have hlx : xs.length ≤ 100000 := by omega
  have hly : ys.length ≤ 100000 := by omega
  obtain ⟨n, hn⟩ : ∃ n, xs.length = n := ⟨_, rfl⟩
  obtain ⟨m, hm⟩ : ∃ m, ys.length = m := ⟨_, rfl⟩
  rw [hn] at LK DK RA hgt hgl hlx
  rw [hm] at RBB hgt hgl hly ⊢
  clear h hd ra rb ha hl hn hm
  go_enter_defers Try.func35, Try.ntmps35
  go_wp2_with fail
  refine (unhide LK).mono ?_
  rintro e w1 ⟨rfl, L1, k1⟩
  have c2 := L1.cell 2 rfl
  have c3 := L1.cell 3 rfl
  go_wp2_with fail
  refine (unhide DK _).mono ?_
  rintro e w2 ⟨rfl, b2⟩
  have L2 := L1.below b2 L1.lt
  have K2 := k1.trans (Below.kpOf b2 _)
  clear L1 k1 b2 c2 c3 LK DK
  have c2 := L2.cell 2 rfl
  go_wp2_with fail
  have RA2 := ((unhide RA).kp K2).rb.pb
  have RB2 := ((unhide RBB).kp K2).rb.pb
  obtain ⟨w3, hw3⟩ : ∃ y, w2.alloc (.cells #[.slice ao n ca, .slice bo m cb] 22) = y := ⟨_, rfl⟩
  have b3 : Below w2.heap.size w2 w3 := hw3 ▸ qalloc _ _
  have l3 : Loc w3 w2.heap.size #[.slice ao n ca, .slice bo m cb] := hw3 ▸ loc_at w2 _ _ rfl
  rw [hw3]
  clear hw3
  refine (unhide CC _ _ _ _ (l3.cell 0 rfl) (l3.cell 1 rfl) (RA2.below b3) (RB2.below b3)).mono ?_
  rintro e w4 ⟨v, rfl, o4, b4⟩
  have L4 := (L2.below b3 L2.lt).below b4 (Nat.lt_of_lt_of_le L2.lt b3.size)
  have K4 := (K2.trans (Below.kpOf b3 _)).trans (Below.kpOf b4 _)
  have lg := L2.lt
  have sz3 := b3.size
  have RF4 := hide (o4.rf (by rw [List.length_append]; have := unhide HL; omega) (Nat.lt_of_lt_of_le lg sz3))
  obtain ⟨va, vc, rfl⟩ := o4.form
  clear o4 b4 b3 l3 RA2 RB2 CC c2 L2 K2 RA RBB
  have c2 := L4.cell 2 rfl
  have f2 := L4.frozen 2
  generalize (xs ++ ys).length = q at *
  go_wp2
  obtain ⟨w5, hw5⟩ : ∃ y, w4.setCell ⟨g, 2, none⟩ (.slice va q vc) = y := ⟨_, rfl⟩
  have L5 : Loc w5 g (drv 1 (.slice va q vc) s 0) := hw5 ▸ L4.set 2 _ rfl
  have k5 : Kp w4 w5 (fun k => k = g) := hw5 ▸ set_kp _ _ _ _
  rw [hw5]
  clear hw5
  refine leaves_cons (f := 45) (args := #[.pointer (some ⟨g, 0, none⟩)]) (by simp) (by simp [go_sem]) ?_
  refine (unlockL g (.slice va q vc) s 0 .returning _ L5).mono ?_
  rintro e u' w6 ⟨rfl, rfl, L6, k6⟩
  exact ⟨_, results_tmp rfl _ _ _, rfl, _, L6, ((unhide RF4).kp k5).kp k6, (K4.trans k5).trans k6⟩

set_option maxHeartbeats 4000000 in
set_option maxRecDepth 100000 in
theorem write_no (g : Nat) (ao bo : Option Addr) (ca cb : Nat) (s : Int) (n m : Nat) (w : World) (h : Loc w g (drv 0 (.slice ao n ca) s 0)) (ha : apdB n m s = false) :
    Calls Try.prog 35 #[.pointer (some ⟨g, 0, none⟩), .slice bo m cb] w fun e w' => e = .returned (.bool false) ∧ Loc w' g (drv 0 (.slice ao n ca) s 0) ∧ Kp w w' (fun k => k = g) := by
  have LK := hide (lockL g (.slice ao n ca) s 0 w h)
  have DK := hide fun w => implDiskOk ao n ca s w
  by_cases hd : dokB n s = true
  · have hl : 100000 < n + m := by unfold apdB at ha; simp [hd] at ha; exact ha
    have hn : n ≤ 100000 := (dok_iff.1 hd).1
    rw [hd] at DK
    have hgl : ((100000 : Int) - (n : Int) < (m : Int)) := by omega
    clear h hd ha
    go_enter_defers Try.func35, Try.ntmps35
    go_wp2_with fail
    refine (unhide LK).mono ?_
    rintro e w1 ⟨rfl, L1, k1⟩
    have c2 := L1.cell 2 rfl
    have c3 := L1.cell 3 rfl
    go_wp2_with fail
    refine (unhide DK _).mono ?_
    rintro e w2 ⟨rfl, b2⟩
    have L2 := L1.below b2 L1.lt
    have K2 := k1.trans (Below.kpOf b2 _)
    clear L1 k1 b2 c2 c3 LK DK
    have c2 := L2.cell 2 rfl
    go_wp2
    refine leaves_cons (f := 45) (args := #[.pointer (some ⟨g, 0, none⟩)]) (by simp) (by simp [go_sem]) ?_
    refine (unlockL g (.slice ao n ca) s 0 .returning _ L2).mono ?_
    rintro e u' w6 ⟨rfl, rfl, L6, k6⟩
    exact ⟨_, results_tmp rfl _ _ _, rfl, L6, K2.trans k6⟩
  · have hd' : dokB n s = false := by simpa using hd
    rw [hd'] at DK
    clear h hd hd' ha
    go_enter_defers Try.func35, Try.ntmps35
    go_wp2_with fail
    refine (unhide LK).mono ?_
    rintro e w1 ⟨rfl, L1, k1⟩
    have c2 := L1.cell 2 rfl
    have c3 := L1.cell 3 rfl
    go_wp2_with fail
    refine (unhide DK _).mono ?_
    rintro e w2 ⟨rfl, b2⟩
    have L2 := L1.below b2 L1.lt
    have K2 := k1.trans (Below.kpOf b2 _)
    clear L1 k1 b2 c2 c3 LK DK
    go_wp2
    refine leaves_cons (f := 45) (args := #[.pointer (some ⟨g, 0, none⟩)]) (by simp) (by simp [go_sem]) ?_
    refine (unlockL g (.slice ao n ca) s 0 .returning _ L2).mono ?_
    rintro e u' w6 ⟨rfl, rfl, L6, k6⟩
    exact ⟨_, results_tmp rfl _ _ _, rfl, L6, K2.trans k6⟩
end Go.Proofs.Ytkjpjgecongkpaa
