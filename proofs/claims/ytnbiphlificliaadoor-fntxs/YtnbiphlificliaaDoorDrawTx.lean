/- The draws of payments: spec.l2DrawRight, l2Draw, l2DrawList, l2Dent and what is drawn by them. -/
import Derived.Test.YtnbiphlificliaaDoorDrawList
import Derived.Test.YtnbiphlificliaaDoorTxsOf
import Derived.Test.YtnbiphlificliaaDoorTxsText
namespace Go.Proofs.YtnbiphlificliaaDoor
open Go.RowKit
set_option linter.unusedSectionVars false
variable [∀ (a b c d : Int), Decidable (Ok4 a b c d)]
variable [∀ (a b c d : Nat), Decidable (okN a b c d)]
variable [∀ (x : T4), Decidable (OkT x)]

theorem c4_grown {w w' : World} {r g : Nat} {a b c d : Int} (h : Cells4 w r a b c d) (hg : w.grownBy w' (some g)) (hr : r ≠ g) : Cells4 w' r a b c d :=
  ⟨hg.cell h.1 (by simpa using hr), hg.cell h.2.1 (by simpa using hr), hg.cell h.2.2.1 (by simpa using hr), hg.cell h.2.2.2 (by simpa using hr)⟩
theorem fr_grown {w w' : World} {r g : Nat} (h : ∀ j, w.frozen? ⟨r, j, none⟩ = false) (hl : r < w.heap.size) (hg : w.grownBy w' (some g)) (hr : r ≠ g) : ∀ j, w'.frozen? ⟨r, j, none⟩ = false := fun j =>
  (World.frozen?_of_block (a := ⟨r, j, none⟩) (hg.block r hl (by simpa using hr))).trans (h j)
theorem grown_set {w w' : World} {row : Option Nat} (h : w.grownBy w' row) {r : Nat} (hr : w.heap.size ≤ r) (j : Nat) (v : Value) : w.grownBy (w'.setCell ⟨r, j, none⟩ v) row :=
  grown_new h (set_grown w' r j v) (fun k e => by simp at e; omega)
theorem Cur.set {w : World} {base g ca : Nat} {ao : Option Addr} {xs : List Int} (h : Cur w base g ao ca xs) {r : Nat} (hr : g < r) (j : Nat) (v : Value) : Cur (w.setCell ⟨r, j, none⟩ v) base g ao ca xs :=
  h.grownNew (set_grown w r j v) (fun k e => by simp at e; omega)

set_option maxHeartbeats 2000000 in
set_option maxRecDepth 100000 in
theorem drawRight (base g ca : Nat) (ao : Option Addr) (xs : List Int) (w : World) (hB : base ≤ w.heap.size) (h : Cur w base g ao ca xs) :
    Calls Tryd.prog 56 #[.pointer (some ⟨g, 0, none⟩)] w fun e w' => ∃ a b c d : Int, e = .returned (txv a b c d) ∧ Cur w' base g ao ca xs ∧ w.grownBy w' (some g) := by
  have hlt := h.lt
  have h0 := h.alloc hB (.cells #[.int .i64 0, .int .i64 0, .int .i64 0, .int .i64 0] 25)
  have g0 := World.grownBy_alloc w (.cells #[.int .i64 0, .int .i64 0, .int .i64 0, .int .i64 0] 25) (some g)
  have z0 := cells4_new w 0 0 0 0 25
  have f0 : ∀ j, (w.alloc (.cells #[.int .i64 0, .int .i64 0, .int .i64 0, .int .i64 0] 25)).frozen? ⟨w.heap.size, j, none⟩ = false := fun j => by simp [go_sem]
  clear h
  have P := hide (And.intro h0 (And.intro g0 (And.intro z0 f0)))
  clear h0 g0 z0 f0
  go_enter Tryd.func56, Tryd.ntmps56
  go_wp2_with fail
  refine (below_any base g ca ao xs 4 _ (by simp; omega) (by omega) (by omega) (unhide P).1).mono ?_
  rintro e w1 ⟨a, rfl, _, _, c1, e1⟩
  have P1 := hide (And.intro c1 (And.intro (grown_trans (unhide P).2.1 e1) (And.intro (c4_grown (unhide P).2.2.1 e1 (by omega)) (fr_grown (unhide P).2.2.2 (by simp) e1 (by omega)))))
  have s1 : w.heap.size + 1 ≤ w1.heap.size := by have := e1.size; simp at this; omega
  clear P c1 e1
  go_wp2_with fail
  refine (below_any base g ca ao xs 4 _ (by omega) (by omega) (by omega) (unhide P1).1).mono ?_
  rintro e w2 ⟨b, rfl, _, _, c2, e2⟩
  have P2 := hide (And.intro c2 (And.intro (grown_trans (unhide P1).2.1 e2) (And.intro (c4_grown (unhide P1).2.2.1 e2 (by omega)) (fr_grown (unhide P1).2.2.2 (by omega) e2 (by omega)))))
  have s2 : w.heap.size + 1 ≤ w2.heap.size := by have := e2.size; omega
  clear P1 c2 e2
  go_wp2_with fail
  refine (pickInt_lit base g ca ao xs [0, 5, 60, 100, 1000] w2 (by omega) (by decide) (by decide) (unhide P2).1).mono ?_
  rintro e w3 ⟨c, rfl, _, c3, e3⟩
  have P3 := hide (And.intro c3 (And.intro (grown_trans (unhide P2).2.1 e3) (And.intro (c4_grown (unhide P2).2.2.1 e3 (by omega)) (fr_grown (unhide P2).2.2.2 (by omega) e3 (by omega)))))
  have s3 : w.heap.size + 1 ≤ w3.heap.size := by have := e3.size; omega
  clear P2 c3 e3
  go_wp2_with fail
  refine (below_any base g ca ao xs 3 _ (by omega) (by omega) (by omega) (unhide P3).1).mono ?_
  rintro e w4 ⟨d, rfl, _, _, c4, e4⟩
  have gg := grown_trans (unhide P3).2.1 e4
  obtain ⟨z0, z1, z2, z3⟩ := c4_grown (unhide P3).2.2.1 e4 (by omega)
  have zf := fr_grown (unhide P3).2.2.2 (by omega) e4 (by omega)
  have HC := hide c4
  clear P3 e4 c4
  go_wp2
  refine bodyPost_ret (v := txv a b c d) (by simp [results, Tryd.results56, go_sem, z0, z1, z2, z3]) rfl ?_
  exact ⟨a, b, c, d, rfl, ((((unhide HC).set (by omega) _ _).set (by omega) _ _).set (by omega) _ _).set (by omega) _ _, grown_set (grown_set (grown_set (grown_set gg (Nat.le_refl _) _ _) (Nat.le_refl _) _ _) (Nat.le_refl _) _ _) (Nat.le_refl _) _ _⟩

set_option maxHeartbeats 4000000 in
set_option maxRecDepth 100000 in
theorem drawTx (base g ca : Nat) (ao : Option Addr) (xs : List Int) (w : World) (hB : base ≤ w.heap.size) (h : Cur w base g ao ca xs) :
    Calls Tryd.prog 53 #[.pointer (some ⟨g, 0, none⟩)] w fun e w' => ∃ a b c d : Int, e = .returned (txv a b c d) ∧ Cur w' base g ao ca xs ∧ w.grownBy w' (some g) := by
  have hlt := h.lt
  have h0 := h.alloc hB (.cells #[.int .i64 0, .int .i64 0, .int .i64 0, .int .i64 0] 25)
  have g0 := World.grownBy_alloc w (.cells #[.int .i64 0, .int .i64 0, .int .i64 0, .int .i64 0] 25) (some g)
  have z0 := cells4_new w 0 0 0 0 25
  have f0 : ∀ j, (w.alloc (.cells #[.int .i64 0, .int .i64 0, .int .i64 0, .int .i64 0] 25)).frozen? ⟨w.heap.size, j, none⟩ = false := fun j => by simp [go_sem]
  clear h
  have P := hide (And.intro h0 (And.intro g0 (And.intro z0 f0)))
  clear h0 g0 z0 f0
  go_enter Tryd.func53, Tryd.ntmps53
  go_wp2_with fail
  refine (drawRight base g ca ao xs _ (by simp; omega) (unhide P).1).mono ?_
  rintro e w1 ⟨a, b, c, d, rfl, c1, e1⟩
  have s1 : w.heap.size + 1 ≤ w1.heap.size := by have := e1.size; simp at this; omega
  have bn : Below w1.heap.size w1 (w1.alloc (.cells #[.int .i64 a, .int .i64 b, .int .i64 c, .int .i64 d] 25)) := (Below.refl _ _).alloc (Nat.le_refl _) _
  have P1 := hide (And.intro (c1.alloc (by omega) (.cells #[.int .i64 a, .int .i64 b, .int .i64 c, .int .i64 d] 25)) (And.intro (grown_trans (grown_trans (unhide P).2.1 e1) (World.grownBy_alloc w1 (.cells #[.int .i64 a, .int .i64 b, .int .i64 c, .int .i64 d] 25) (some g))) (And.intro ((c4_grown (unhide P).2.2.1 e1 (by omega)).below bn (by omega)) (And.intro (frozen_below bn (g := w.heap.size) (by omega) (fr_grown (unhide P).2.2.2 (by simp) e1 (by omega))) (And.intro (cells4_new w1 a b c d 25) (show ∀ j, (w1.alloc (.cells #[.int .i64 a, .int .i64 b, .int .i64 c, .int .i64 d] 25)).frozen? ⟨w1.heap.size, j, none⟩ = false from fun j => by simp [go_sem]))))))
  clear P c1 e1 bn
  go_wp2_with fail
  refine (below_any base g ca ao xs 12 _ (by simp; omega) (by omega) (by omega) (unhide P1).1).mono ?_
  rintro e w2 ⟨k, rfl, k0, k1, c2, e2⟩
  have s2 : w1.heap.size + 1 ≤ w2.heap.size := by have := e2.size; simp at this; omega
  have P2 := hide (And.intro c2 (And.intro (grown_trans (unhide P1).2.1 e2) (And.intro (c4_grown (unhide P1).2.2.1 e2 (by omega)) (And.intro (fr_grown (unhide P1).2.2.2.1 (by simp; omega) e2 (by omega)) (And.intro (c4_grown (unhide P1).2.2.2.2.1 e2 (by omega)) (fr_grown (unhide P1).2.2.2.2.2 (by simp) e2 (by omega)))))))
  clear P1 c2 e2
  by_cases hk0 : k = 0
  · subst hk0
    go_wp2_with fail
    refine (pickInt_lit base g ca ao xs [-1, 4] w2 (by omega) (by decide) (by decide) (unhide P2).1).mono ?_
    rintro e w3 ⟨q, rfl, _, c3, e3⟩
    have gg := grown_trans (unhide P2).2.1 e3
    have X3 := c4_grown (unhide P2).2.2.2.2.1 e3 (by omega)
    have Y3 := fr_grown (unhide P2).2.2.2.2.2 (by omega) e3 (by omega)
    have Z3 := c4_grown (unhide P2).2.2.1 e3 (by omega)
    have F3 := fr_grown (unhide P2).2.2.2.1 (by omega) e3 (by omega)
    have X3' := X3
    obtain ⟨y0, y1, y2, y3⟩ := X3
    obtain ⟨x0, x1, x2, x3⟩ := c4_set0 X3' q
    obtain ⟨z0, z1, z2, z3⟩ := c4_other (g := w1.heap.size) Z3 (by omega) 0 (.int .i64 q)
    have zf := fr_set (g := w1.heap.size) (j := 0) (v := .int .i64 q) F3
    have HC := hide c3
    clear P2 e3 c3 Z3
    go_wp2
    refine bodyPost_ret (v := txv q b c d) (by simp [results, Tryd.results53, go_sem, z0, z1, z2, z3]) rfl ?_
    exact ⟨_, _, _, _, rfl, (((((unhide HC).set (by omega) _ _).set (by omega) _ _).set (by omega) _ _).set (by omega) _ _).set (by omega) _ _, grown_set (grown_set (grown_set (grown_set (grown_set gg (by omega) _ _) (Nat.le_refl _) _ _) (Nat.le_refl _) _ _) (Nat.le_refl _) _ _) (Nat.le_refl _) _ _⟩
  by_cases hk1 : k = 1
  · subst hk1
    go_wp2_with fail
    refine (pickInt_lit base g ca ao xs [-1, 4] w2 (by omega) (by decide) (by decide) (unhide P2).1).mono ?_
    rintro e w3 ⟨q, rfl, _, c3, e3⟩
    have gg := grown_trans (unhide P2).2.1 e3
    have X3 := c4_grown (unhide P2).2.2.2.2.1 e3 (by omega)
    have Y3 := fr_grown (unhide P2).2.2.2.2.2 (by omega) e3 (by omega)
    have Z3 := c4_grown (unhide P2).2.2.1 e3 (by omega)
    have F3 := fr_grown (unhide P2).2.2.2.1 (by omega) e3 (by omega)
    have X3' := X3
    obtain ⟨y0, y1, y2, y3⟩ := X3
    obtain ⟨x0, x1, x2, x3⟩ := c4_set1 X3' q
    obtain ⟨z0, z1, z2, z3⟩ := c4_other (g := w1.heap.size) Z3 (by omega) 1 (.int .i64 q)
    have zf := fr_set (g := w1.heap.size) (j := 1) (v := .int .i64 q) F3
    have HC := hide c3
    clear P2 e3 c3 Z3
    go_wp2
    refine bodyPost_ret (v := txv a q c d) (by simp [results, Tryd.results53, go_sem, z0, z1, z2, z3]) rfl ?_
    exact ⟨_, _, _, _, rfl, (((((unhide HC).set (by omega) _ _).set (by omega) _ _).set (by omega) _ _).set (by omega) _ _).set (by omega) _ _, grown_set (grown_set (grown_set (grown_set (grown_set gg (by omega) _ _) (Nat.le_refl _) _ _) (Nat.le_refl _) _ _) (Nat.le_refl _) _ _) (Nat.le_refl _) _ _⟩
  by_cases hk2 : k = 2
  · subst hk2
    go_wp2_with fail
    refine (pickInt_lit base g ca ao xs [-1, 1001] w2 (by omega) (by decide) (by decide) (unhide P2).1).mono ?_
    rintro e w3 ⟨q, rfl, _, c3, e3⟩
    have gg := grown_trans (unhide P2).2.1 e3
    have X3 := c4_grown (unhide P2).2.2.2.2.1 e3 (by omega)
    have Y3 := fr_grown (unhide P2).2.2.2.2.2 (by omega) e3 (by omega)
    have Z3 := c4_grown (unhide P2).2.2.1 e3 (by omega)
    have F3 := fr_grown (unhide P2).2.2.2.1 (by omega) e3 (by omega)
    have X3' := X3
    obtain ⟨y0, y1, y2, y3⟩ := X3
    obtain ⟨x0, x1, x2, x3⟩ := c4_set2 X3' q
    obtain ⟨z0, z1, z2, z3⟩ := c4_other (g := w1.heap.size) Z3 (by omega) 2 (.int .i64 q)
    have zf := fr_set (g := w1.heap.size) (j := 2) (v := .int .i64 q) F3
    have HC := hide c3
    clear P2 e3 c3 Z3
    go_wp2
    refine bodyPost_ret (v := txv a b q d) (by simp [results, Tryd.results53, go_sem, z0, z1, z2, z3]) rfl ?_
    exact ⟨_, _, _, _, rfl, (((((unhide HC).set (by omega) _ _).set (by omega) _ _).set (by omega) _ _).set (by omega) _ _).set (by omega) _ _, grown_set (grown_set (grown_set (grown_set (grown_set gg (by omega) _ _) (Nat.le_refl _) _ _) (Nat.le_refl _) _ _) (Nat.le_refl _) _ _) (Nat.le_refl _) _ _⟩
  by_cases hk3 : k = 3
  · subst hk3
    go_wp2_with fail
    refine (pickInt_lit base g ca ao xs [-1, 99, 100] w2 (by omega) (by decide) (by decide) (unhide P2).1).mono ?_
    rintro e w3 ⟨q, rfl, _, c3, e3⟩
    have gg := grown_trans (unhide P2).2.1 e3
    have X3 := c4_grown (unhide P2).2.2.2.2.1 e3 (by omega)
    have Y3 := fr_grown (unhide P2).2.2.2.2.2 (by omega) e3 (by omega)
    have Z3 := c4_grown (unhide P2).2.2.1 e3 (by omega)
    have F3 := fr_grown (unhide P2).2.2.2.1 (by omega) e3 (by omega)
    have X3' := X3
    obtain ⟨y0, y1, y2, y3⟩ := X3
    obtain ⟨x0, x1, x2, x3⟩ := c4_set3 X3' q
    obtain ⟨z0, z1, z2, z3⟩ := c4_other (g := w1.heap.size) Z3 (by omega) 3 (.int .i64 q)
    have zf := fr_set (g := w1.heap.size) (j := 3) (v := .int .i64 q) F3
    have HC := hide c3
    clear P2 e3 c3 Z3
    go_wp2
    refine bodyPost_ret (v := txv a b c q) (by simp [results, Tryd.results53, go_sem, z0, z1, z2, z3]) rfl ?_
    exact ⟨_, _, _, _, rfl, (((((unhide HC).set (by omega) _ _).set (by omega) _ _).set (by omega) _ _).set (by omega) _ _).set (by omega) _ _, grown_set (grown_set (grown_set (grown_set (grown_set gg (by omega) _ _) (Nat.le_refl _) _ _) (Nat.le_refl _) _ _) (Nat.le_refl _) _ _) (Nat.le_refl _) _ _⟩
  have n0 : (k == 0) = false := by simp [hk0]
  have n1 : (k == 1) = false := by simp [hk1]
  have n2 : (k == 2) = false := by simp [hk2]
  have n3 : (k == 3) = false := by simp [hk3]
  obtain ⟨x0, x1, x2, x3⟩ := (unhide P2).2.2.2.2.1
  obtain ⟨z0, z1, z2, z3⟩ := (unhide P2).2.2.1
  have zf := (unhide P2).2.2.2.1
  have gg := (unhide P2).2.1
  have HC := hide (unhide P2).1
  clear P2 hk0 hk1 hk2 hk3
  go_wp2
  refine bodyPost_ret (v := txv a b c d) (by simp [results, Tryd.results53, go_sem, z0, z1, z2, z3]) rfl ?_
  exact ⟨_, _, _, _, rfl, ((((unhide HC).set (by omega) _ _).set (by omega) _ _).set (by omega) _ _).set (by omega) _ _, grown_set (grown_set (grown_set (grown_set gg (Nat.le_refl _) _ _) (Nat.le_refl _) _ _) (Nat.le_refl _) _ _) (Nat.le_refl _) _ _⟩

theorem OT.grown {w w' : World} {base g : Nat} {v : Value} {xs : List T4} (h : OT w base v xs) (hg : w.grownBy w' (some g)) (hlt : g < base) : OT w' base v xs :=
  World.ownsRow.kept h hg (by
    cases hv : v.ownBlock with
    | none => exact .inl rfl
    | some k => exact .inr fun e => by have := (World.ownsRow.lt h k hv).1; simp at e; omega)

set_option maxHeartbeats 4000000 in
set_option maxRecDepth 100000 in
theorem drawTxs (base g ca : Nat) (ao : Option Addr) (xs : List Int) (w : World) (hB : base ≤ w.heap.size) (h : Cur w base g ao ca xs) :
    Calls Tryd.prog 59 #[.pointer (some ⟨g, 0, none⟩)] w fun e w' => ∃ (v : Value) (ys : List T4), e = .returned v ∧ ys.length ≤ 4 ∧ OT w' w.heap.size v ys ∧ Cur w' base g ao ca xs ∧ w.grownBy w' (some g) := by
  obtain ⟨i0, hi, hz0, hz1, hz2⟩ := info_parts Tryd.infoTx
  have hlt := h.lt
  have H0 := hide (h.alloc hB (.cells #[] 25))
  clear h
  go_enter Tryd.func59, Tryd.ntmps59
  go_wp2
  go_loopw [3, 4] (fun v i wr => ∃ (k : Nat) (ys : List T4), k ≤ 4 ∧ i = .int .i64 k ∧ ys.length = k ∧ OT wr w.heap.size v ys ∧ Cur wr base g ao ca xs ∧ w.grownBy wr (some g)) (fun _ i _ => 5 - (intOf i).toNat)
  case atStart => exact ⟨0, [], by omega, rfl, rfl, World.ownsRow_lit w #[] 0 (Nat.le_refl _) (by unfold maxLen; omega) rfl, unhide H0, World.grownBy_alloc w _ _⟩
  case round =>
    obtain ⟨k, ys, hk, rfl, hyl, ho, hc, hg⟩ := hrel
    have hsz := hg.size
    have P := hide (And.intro ho (And.intro hc hg))
    clear ho hc hg H0
    go_wp2_with fail
    refine (below_any base g ca ao xs 5 _ (by omega) (by omega) (by omega) (unhide P).2.1).mono ?_
    rintro e w1 ⟨n, rfl, _, n1, c1, e1⟩
    have s1 := e1.size
    have P1 := hide (And.intro ((unhide P).1.grown e1 hlt) (And.intro c1 (grown_trans (unhide P).2.2 e1)))
    clear P c1 e1
    by_cases hkn : (k : Int) < n
    · go_wp2_with fail
      refine (drawTx base g ca ao xs _ (by omega) (unhide P1).2.1).mono ?_
      rintro e w2 ⟨a, b, c, d, rfl, c2, e2⟩
      have s2 := e2.size
      have ho2 := ot_alloc ((unhide P1).1.grown e2 hlt) (.cells #[.int .i64 a, .int .i64 b, .int .i64 c, .int .i64 d] 25)
      have hc2 := c2.alloc (by omega) (.cells #[.int .i64 a, .int .i64 b, .int .i64 c, .int .i64 d] 25)
      have hg2 := grown_trans (grown_trans (unhide P1).2.2 e2) (World.grownBy_alloc w2 (.cells #[.int .i64 a, .int .i64 b, .int .i64 c, .int .i64 d] 25) (some g))
      clear P1 c2 e2
      go_wp2_with (first
        | (at_builtin; refine wpList_append_own _ rfl _ _ 31 rfl w.heap.size 25 i0 (txv 0 0 0 0) 4 32 Tryd.underlying31 hi hz0 hz1 hz2 rfl (by decide) _ _ _ rfl ho2 ⟨w2.heap.size, 0, none⟩ 1 1 (tcell (a, b, c, d)) rfl rfl (four_cell w2 (a, b, c, d) 25) (four_plain _) (by unfold maxLen; omega) (by omega) (by simp; omega) ?_; intro v' w3 ho' hg' _; have hl2 := ho2.lt; have R := (show OT w3 w.heap.size v' (ys ++ [(a, b, c, d)]) by unfold OT; rw [tcells_append, List.length_append]; simpa [tcells] using ho'); have RC := hc2.grownNew hg' (fun j e => by have := (hl2 j e).1; omega); have RG := grown_new hg2 hg' (fun j e => (hl2 j e).1); clear ho2 ho' hg' hg2 hc2 hl2))
      go_roundw
      case rel => exact ⟨k + 1, _, by omega, by go_num, by simp [hyl], R, RC, RG⟩
      case measure => simp [intOf]; omega
    · have hd : decide ((k : Int) < n) = false := by simpa using hkn
      go_wp2
      go_ret
      exact ⟨_, ys, rfl, by omega, (unhide P1).1, (unhide P1).2.1, (unhide P1).2.2⟩
end Go.Proofs.YtnbiphlificliaaDoor
