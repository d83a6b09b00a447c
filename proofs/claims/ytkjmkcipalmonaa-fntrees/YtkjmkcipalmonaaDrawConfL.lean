/- The draws of a Conf. -/
import Derived.Test.YtkjmkcipalmonaaStepAppend
import Derived.Test.YtkjmkcipalmonaaCurMore
import Derived.Test.YtkjmkcipalmonaaConf
namespace Go.Proofs.Ytkjmkcipalmonaa
open Go.RowKit
set_option linter.unusedSectionVars false
variable [∀ (a b c d : Int), Decidable (Ok4 a b c d)]
variable [∀ (n f : Int), Decidable (COk n f)]

abbrev zc : Obj := .cells #[.int .i64 0, .int .i64 0] 25
set_option maxHeartbeats 2000000 in
set_option maxRecDepth 100000 in
theorem drawConf (base g ca : Nat) (ao : Option Addr) (zs : List Int) (w : World) (hB : base ≤ w.heap.size) (h : Cur w base g ao ca zs) :
    Calls Try.prog 64 #[.pointer (some ⟨g, 0, none⟩)] w fun e w' => ∃ n f : Int, e = .returned (cv n f) ∧ (4 ≤ n ∧ n ≤ 7) ∧ Cur w' base g ao ca zs ∧ w.grownBy w' (some g) := by
  have hlt := h.lt
  obtain ⟨w0, hw0⟩ : ∃ w0, w.alloc zc = w0 := ⟨_, rfl⟩
  have C0 : Cur w0 base g ao ca zs := hw0 ▸ h.alloc hB _
  have G0 : w.grownBy w0 (some g) := hw0 ▸ World.grownBy_alloc w _ _
  have Z0 : Loc w0 w.heap.size #[.int .i64 0, .int .i64 0] := hw0 ▸ loc_at w _ _ rfl
  have s0 : w0.heap.size = w.heap.size + 1 := by rw [← hw0]; simp
  clear h
  go_enter Try.func64, Try.ntmps64
  go_wp2_with fail
  clear hw0
  refine (below_any base g ca ao zs 4 _ (by omega) (by omega) (by omega) C0).mono ?_
  rintro e w1 ⟨x, rfl, x0, x1, c1, e1⟩
  have Z1 := Z0.grown e1 (by omega)
  have G1 := grown_trans G0 e1
  have s1 := e1.size
  clear Z0 G0 C0 e1
  go_wp2_with fail
  refine (below_any base g ca ao zs 3 _ (by omega) (by omega) (by omega) c1).mono ?_
  rintro e w2 ⟨y, rfl, y0, y1, c2, e2⟩
  have Z2 := Z1.grown e2 (by omega)
  have G2 := grown_trans G1 e2
  have p0 := Z2.cell 0 rfl
  have p1 := Z2.cell 1 rfl
  have fp := Z2.frozen
  have HC := hide c2
  clear Z1 G1 c1 e2 c2
  go_wp2
  refine bodyPost_ret (v := cv (4 + x) (1 + y)) (by simp [results, Try.results64, go_sem, p0, p1]) rfl ?_
  exact ⟨_, _, rfl, ⟨by omega, by omega⟩, ((unhide HC).set (by omega) _ _).set (by omega) _ _, grown_set (grown_set G2 (Nat.le_refl _) _ _) (Nat.le_refl _) _ _⟩

set_option maxHeartbeats 4000000 in
set_option maxRecDepth 100000 in
theorem drawBent (base g ca : Nat) (ao : Option Addr) (zs : List Int) (w : World) (hB : base ≤ w.heap.size) (h : Cur w base g ao ca zs) :
    Calls Try.prog 58 #[.pointer (some ⟨g, 0, none⟩)] w fun e w' => ∃ n f : Int, e = .returned (cv n f) ∧ Cur w' base g ao ca zs ∧ w.grownBy w' (some g) := by
  have hlt := h.lt
  obtain ⟨w0, hw0⟩ : ∃ w0, w.alloc zc = w0 := ⟨_, rfl⟩
  have C0 : Cur w0 base g ao ca zs := hw0 ▸ h.alloc hB _
  have G0 : w.grownBy w0 (some g) := hw0 ▸ World.grownBy_alloc w _ _
  have Z0 : Loc w0 w.heap.size #[.int .i64 0, .int .i64 0] := hw0 ▸ loc_at w _ _ rfl
  have s0 : w0.heap.size = w.heap.size + 1 := by rw [← hw0]; simp
  clear h
  go_enter Try.func58, Try.ntmps58
  go_wp2_with fail
  clear hw0
  refine (drawConf base g ca ao zs _ (by omega) C0).mono ?_
  rintro e w1 ⟨n, f, rfl, _, c1, e1⟩
  have Z1 := Z0.grown e1 (by omega)
  have G1 := grown_trans G0 e1
  have s1 := e1.size
  clear Z0 G0 C0 e1
  obtain ⟨w2, hw2⟩ : ∃ w2, w1.alloc (.cells #[.int .i64 n, .int .i64 f] 25) = w2 := ⟨_, rfl⟩
  have C2 : Cur w2 base g ao ca zs := hw2 ▸ c1.alloc (by omega) _
  have G2 : w.grownBy w2 (some g) := hw2 ▸ grown_trans G1 (World.grownBy_alloc w1 _ _)
  have Z2 : Loc w2 w.heap.size #[.int .i64 0, .int .i64 0] := hw2 ▸ Z1.alloc _
  have X2 : Loc w2 w1.heap.size #[.int .i64 n, .int .i64 f] := hw2 ▸ loc_at w1 _ _ rfl
  have s2 : w2.heap.size = w1.heap.size + 1 := by rw [← hw2]; simp
  clear c1 G1 Z1
  go_wp2_with fail
  clear hw2
  refine (below_any base g ca ao zs 12 _ (by omega) (by omega) (by omega) C2).mono ?_
  rintro e w3 ⟨k, rfl, k0, k1, c3, e3⟩
  have Z3 := Z2.grown e3 (by omega)
  have X3 := X2.grown e3 (by omega)
  have G3 := grown_trans G2 e3
  have s3 := e3.size
  clear Z2 X2 G2 C2 e3
  have FIN : ∀ (n f : Int) (w4 : World), Cur w4 base g ao ca zs → w.grownBy w4 (some g) → Cur ((w4.setCell ⟨w.heap.size, 0, none⟩ (.int .i64 n)).setCell ⟨w.heap.size, 1, none⟩ (.int .i64 f)) base g ao ca zs ∧ w.grownBy ((w4.setCell ⟨w.heap.size, 0, none⟩ (.int .i64 n)).setCell ⟨w.heap.size, 1, none⟩ (.int .i64 f)) (some g) := fun n f w4 hc hg =>
    ⟨(hc.set (by omega) _ _).set (by omega) _ _, grown_set (grown_set hg (Nat.le_refl _) _ _) (Nat.le_refl _) _ _⟩
  have FI := hide FIN
  clear FIN
  by_cases h0 : k = 0
  · subst h0
    go_wp2_with fail
    refine (pickInt_lit base g ca ao zs [0, 3, 8, -1] w3 (by omega) (by decide) (by decide) c3).mono ?_
    rintro e w4 ⟨m, rfl, _, c4, e4⟩
    have Z4 := Z3.grown e4 (by omega)
    have X4 := X3.grown e4 (by omega)
    have R := hide (unhide FI m f (w4.setCell ⟨w1.heap.size, 0, none⟩ (.int .i64 m)) (c4.set (by omega) _ _) (grown_set (grown_trans G3 e4) (by omega) _ _))
    have p0 := Z4.cell 0 rfl
    have p1 := Z4.cell 1 rfl
    have fp := Z4.frozen
    have q0 := X4.cell 0 rfl
    have q1 := X4.cell 1 rfl
    have fq := X4.frozen
    clear Z3 X3 G3 c3 c4 e4 Z4 X4 FI
    go_wp2
    refine bodyPost_ret (v := cv m f) (by simp [results, Try.results58, go_sem, p0, p1]) rfl ?_
    exact ⟨_, _, rfl, (unhide R).1, (unhide R).2⟩
  · have n0 : (k == 0) = false := by simp [h0]
    by_cases h1 : k = 1
    · subst h1
      clear h0
      go_wp2_with fail
      refine (pickInt_lit base g ca ao zs [0, 6, 7] w3 (by omega) (by decide) (by decide) c3).mono ?_
      rintro e w4 ⟨m, rfl, _, c4, e4⟩
      have Z4 := Z3.grown e4 (by omega)
      have X4 := X3.grown e4 (by omega)
      have R := hide (unhide FI n m (w4.setCell ⟨w1.heap.size, 1, none⟩ (.int .i64 m)) (c4.set (by omega) _ _) (grown_set (grown_trans G3 e4) (by omega) _ _))
      have p0 := Z4.cell 0 rfl
      have p1 := Z4.cell 1 rfl
      have fp := Z4.frozen
      have q0 := X4.cell 0 rfl
      have q1 := X4.cell 1 rfl
      have fq := X4.frozen
      clear Z3 X3 G3 c3 c4 e4 Z4 X4 FI
      go_wp2
      refine bodyPost_ret (v := cv n m) (by simp [results, Try.results58, go_sem, p0, p1]) rfl ?_
      exact ⟨_, _, rfl, (unhide R).1, (unhide R).2⟩
    · have n1 : (k == 1) = false := by simp [h1]
      have R := hide (unhide FI n f w3 c3 G3)
      have p0 := Z3.cell 0 rfl
      have p1 := Z3.cell 1 rfl
      have fp := Z3.frozen
      have q0 := X3.cell 0 rfl
      have q1 := X3.cell 1 rfl
      clear Z3 X3 G3 c3 FI
      go_wp2
      refine bodyPost_ret (v := cv n f) (by simp [results, Try.results58, go_sem, p0, p1]) rfl ?_
      exact ⟨_, _, rfl, (unhide R).1, (unhide R).2⟩
end Go.Proofs.Ytkjmkcipalmonaa
