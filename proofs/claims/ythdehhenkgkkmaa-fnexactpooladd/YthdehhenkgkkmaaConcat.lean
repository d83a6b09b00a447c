/- slices.Grow of nothing, slices.Concat of three pieces. -/
import Derived.Test.YthdehhenkgkkmaaPieces
import Derived.Test.YthdehhenkgkkmaaLoc
import Derived.Lib.AppendZerosOnto
namespace Go.Proofs.Ythdehhenkgkkmaa
open Go.RowKit
set_option linter.unusedSectionVars false
variable [∀ (a b c d : Int), Decidable (Ok4 a b c d)]
variable [∀ (m a b c d : Int), Decidable (In4 m a b c d)]
variable [∀ (xs ys : List Int), Decidable (LOk xs ys)]

set_option maxHeartbeats 1600000 in
set_option maxRecDepth 100000 in
theorem grow_nil (n : Nat) (w : World) (hn : 0 < n) (hl : n ≤ 4194304) :
    Calls Try.prog 55 #[.slice none 0 0, .int .i64 n] w fun e w' => ∃ v, e = .returned v ∧ OT w' w.heap.size v [] ∧ Below w.heap.size w w' := by
  obtain ⟨i0, hi, hz0, hz1, hz2⟩ := info_parts Try.infoTx
  have hold : (Builtin.firstCells i0.size 0 (.slice none 0 0)).run Try.prog w.drew = .ok ([] : List Value).toArray w.drew := run_firstCells_none w.drew i0.size 0 0 0
  have hrz : ∀ ty, (Builtin.append_ #[25, 3] ty #[.slice none 0 0, .int .i64 (n : Int)]).run Try.prog w =
      .ok (.slice (some ⟨w.heap.size, 0, none⟩) (0 + n) (grownCap w (0 + n) 0 33)) (w.drew.alloc (.cells (([] : List Value).toArray ++ Builtin.zeroCells (txv 0 0 0 0).cells n ++ Builtin.zeroCells (txv 0 0 0 0).cells (grownCap w (0 + n) 0 33 - (0 + n))) 33)) := fun ty =>
    Lib.run_append_grow_zeros w 25 3 ty 33 i0 (txv 0 0 0 0) .i64 .i64 Try.underlying25 Try.underlying3 hi hz0 none 0 0 [] hold n hn (by rw [hz1]; decide) (by omega) (by omega)
      (by rw [hz2]; omega) (growslice_fits (by omega) (by rw [hz2]; omega))
  have hG : 0 + n ≤ grownCap w (0 + n) 0 33 := grownCap_ge w _ _ _
  have hG63 : grownCap w (0 + n) 0 33 ≤ maxLen := grownCap_le_maxLen w (0 + n) 0 _ (by unfold maxLen; omega)
  generalize grownCap w (0 + n) 0 33 = G at *
  have hcs : (([] : List Value).toArray ++ Builtin.zeroCells (txv 0 0 0 0).cells n ++ Builtin.zeroCells (txv 0 0 0 0).cells (G - (0 + n))).size = G * 4 := by
    have e4 : (txv 0 0 0 0).cells.size = 4 := rfl
    simp [Builtin.zeroCells, e4]
    omega
  generalize ([] : List Value).toArray ++ Builtin.zeroCells (txv 0 0 0 0).cells n ++ Builtin.zeroCells (txv 0 0 0 0).cells (G - (0 + n)) = cs at *
  have HO : Hid (OT (w.drew.alloc (.cells cs 33)) w.heap.size (.slice (some ⟨w.heap.size, 0, none⟩) 0 G) []) := hide (World.ownsRow_made w.drew cs G (Nat.le_refl _) hG63 hcs)
  rw [Nat.zero_add] at hrz hG
  have h2 : ¬ ((n : Int) < 0) := by omega
  have hG64 : G ≤ 9223372036854775807 := by unfold maxLen at hG63; omega
  clear hold hcs hG63
  go_enter Try.func55, Try.ntmps55
  go_wp2_with (at_builtin; refine Lib.wpList_append_run _ rfl _ _ _ _ rfl _ _ rfl rfl _ _ (hrz _) ?_)
  go_ret
  exact ⟨_, rfl, unhide HO, (Below.drew (Below.refl _ _)).alloc (Nat.le_refl _) _⟩
set_option maxHeartbeats 4000000 in
set_option maxRecDepth 100000 in
theorem concat3 (g : Nat) (v1 v2 v3 : Value) (xs ys zs : List T4) (w : World) (h0 : w.cell? ⟨g, 0, none⟩ = some v1) (h1 : w.cell? ⟨g, 1, none⟩ = some v2) (h2 : w.cell? ⟨g, 2, none⟩ = some v3)
    (p1 : PT w v1 xs) (p2 : PT w v2 ys) (p3 : PT w v3 zs) (hy : 0 < ys.length) (hl : xs.length + ys.length + zs.length ≤ 4194304) :
    Calls Try.prog 48 #[.slice (some ⟨g, 0, none⟩) 3 3] w fun e w' => ∃ v, e = .returned v ∧ OT w' w.heap.size v (xs ++ ys ++ zs) ∧ Below w.heap.size w w' := by
  have P1 := hide p1
  have P2 := hide p2
  have P3 := hide p3
  have GR := hide fun w => grow_nil (xs.length + ys.length + zs.length) w (by omega) hl
  have lg : g < w.heap.size := cell_lt h0
  obtain ⟨a1, k1, rfl, _⟩ := p1
  obtain ⟨a2, k2, rfl, _⟩ := p2
  obtain ⟨a3, k3, rfl, _⟩ := p3
  have e1 : IntKind.i64.wrap ((xs.length : Int) + (ys.length : Int)) = (xs.length : Int) + (ys.length : Int) := by rw [IntKind.wrap_i64]; omega
  have e2 : IntKind.i64.wrap ((xs.length : Int) + (ys.length : Int) + (zs.length : Int)) = ((xs.length + ys.length + zs.length : Nat) : Int) := by rw [IntKind.wrap_i64]; omega
  have n1 : ¬ ((xs.length : Int) + (ys.length : Int) < 0) := by omega
  obtain ⟨n, hn⟩ : ∃ n, xs.length + ys.length + zs.length = n := ⟨_, rfl⟩
  rw [hn] at GR e2
  have n2 : ¬ ((n : Int) < 0) := by omega
  go_enter Try.func48, Try.ntmps48
  go_wp2
  refine wp_loop_rounds 4 ?_
  rw [rounds_succ]
  go_wp2
  rw [rounds_succ]
  go_wp2
  rw [rounds_succ]
  go_wp2
  rw [rounds_succ]
  go_wp2_with fail
  refine (unhide GR _).mono ?_
  rintro _ w0 ⟨v0, rfl, o0, b0⟩
  have HO0 := hide o0
  have HB0 := hide b0
  have c0 := b0.cell (p := ⟨g, 0, none⟩) lg
  have c1 := b0.cell (p := ⟨g, 1, none⟩) lg
  have c2 := b0.cell (p := ⟨g, 2, none⟩) lg
  rw [h0] at c0
  rw [h1] at c1
  rw [h2] at c2
  clear o0 b0
  go_wp2
  refine wp_loop_rounds 4 ?_
  rw [rounds_succ]
  go_wp2_with (first | (at_builtin; refine append_piece rfl _ _ rfl w.heap.size v0 (.slice a1 xs.length k1) [] xs rfl rfl (unhide HO0) ((unhide P1).below (unhide HB0)) (by simp; omega) (unhide HB0).size ?_; intro v1 w1 ho1 hg1 _; have HO1 := hide ho1; have HB1 := hide ((unhide HB0).grown hg1 (unhide HB0).size (fun j hj => ((unhide HO0).lt j hj).1)); have c0 := (unhide HB1).cell (p := ⟨g, 0, none⟩) lg; have c1 := (unhide HB1).cell (p := ⟨g, 1, none⟩) lg; have c2 := (unhide HB1).cell (p := ⟨g, 2, none⟩) lg; rw [h0] at c0; rw [h1] at c1; rw [h2] at c2; clear ho1 hg1))
  rw [rounds_succ]
  go_wp2_with (first | (at_builtin; refine append_piece rfl _ _ rfl w.heap.size v1 (.slice a2 ys.length k2) ([] ++ xs) ys rfl rfl (unhide HO1) ((unhide P2).below (unhide HB1)) (by simp; omega) (unhide HB1).size ?_; intro v2 w2 ho2 hg2 _; have HO2 := hide ho2; have HB2 := hide ((unhide HB1).grown hg2 (unhide HB1).size (fun j hj => ((unhide HO1).lt j hj).1)); have c0 := (unhide HB2).cell (p := ⟨g, 0, none⟩) lg; have c1 := (unhide HB2).cell (p := ⟨g, 1, none⟩) lg; have c2 := (unhide HB2).cell (p := ⟨g, 2, none⟩) lg; rw [h0] at c0; rw [h1] at c1; rw [h2] at c2; clear ho2 hg2))
  rw [rounds_succ]
  go_wp2_with (first | (at_builtin; refine append_piece rfl _ _ rfl w.heap.size v2 (.slice a3 zs.length k3) ([] ++ xs ++ ys) zs rfl rfl (unhide HO2) ((unhide P3).below (unhide HB2)) (by simp; omega) (unhide HB2).size ?_; intro v3 w3 ho3 hg3 _; have HO3 := hide ho3; have HB3 := hide ((unhide HB2).grown hg3 (unhide HB2).size (fun j hj => ((unhide HO2).lt j hj).1)); have c0 := (unhide HB3).cell (p := ⟨g, 0, none⟩) lg; have c1 := (unhide HB3).cell (p := ⟨g, 1, none⟩) lg; have c2 := (unhide HB3).cell (p := ⟨g, 2, none⟩) lg; rw [h0] at c0; rw [h1] at c1; rw [h2] at c2; clear ho3 hg3))
  rw [rounds_succ]
  go_wp2
  go_ret
  exact ⟨_, rfl, unhide HO3, unhide HB3⟩
end Go.Proofs.Ythdehhenkgkkmaa
