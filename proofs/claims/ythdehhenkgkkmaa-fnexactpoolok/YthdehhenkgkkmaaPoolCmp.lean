/- The order of payments: cmp.Compare, cmp.Or, impl.compareTx, spec.l4Before. -/
import Derived.Test.YthdehhenkgkkmaaTxRows
import Derived.Test.YthdehhenkgkkmaaLoc
import Derived.Test.YthdehhenkgkkmaaHeldBy
namespace Go.Proofs.Ythdehhenkgkkmaa
open Go.RowKit
set_option linter.unusedSectionVars false
variable [∀ (a b c d : Int), Decidable (Ok4 a b c d)]
variable [∀ (m a b c d : Int), Decidable (In4 m a b c d)]
variable [∀ (xs ys : List Int), Decidable (LOk xs ys)]

def cmpI (a b : Int) : Int := if a < b then -1 else if b < a then 1 else 0
/-- One payment stands ahead of another. -/
def Bef (x y : T4) : Prop := x.1 < y.1 ∨ (x.1 = y.1 ∧ x.2.2.2 < y.2.2.2)
variable [∀ (x y : T4), Decidable (Bef x y)]
def cmpT (x y : T4) : Int := if cmpI x.1 y.1 ≠ 0 then cmpI x.1 y.1 else cmpI x.2.2.2 y.2.2.2
theorem cmpT_lt (x y : T4) : cmpT x y < 0 ↔ Bef x y := by
  unfold cmpT cmpI Bef
  repeat' split
  all_goals omega
theorem cmpT_eq (x y : T4) : cmpT x y = 0 ↔ (x.1 = y.1 ∧ x.2.2.2 = y.2.2.2) := by
  unfold cmpT cmpI
  repeat' split
  all_goals omega
theorem cmpT_in (x y : T4) : -1 ≤ cmpT x y ∧ cmpT x y ≤ 1 := by
  unfold cmpT cmpI
  repeat' split
  all_goals omega
theorem cmpI_in (x y : Int) : -1 ≤ cmpI x y ∧ cmpI x y ≤ 1 := by
  unfold cmpI
  repeat' split
  all_goals omega
theorem Bef.trans {x y z : T4} (h : Bef x y) (k : Bef y z) : Bef x z := by unfold Bef at *; omega
theorem Bef.irrefl {x : T4} (h : Bef x x) : False := by unfold Bef at h; omega
theorem Bef.asymm {x y : T4} (h : Bef x y) (k : Bef y x) : False := by unfold Bef at *; omega

set_option maxHeartbeats 400000 in
set_option maxRecDepth 100000 in
theorem isNaN_no (x : Int) (w : World) : Calls Try.prog 60 #[.int .i64 x] w fun e w' => e = .returned (.bool false) ∧ w' = w := by
  go_enter Try.func60, Try.ntmps60
  go_wp2
  go_ret
  exact ⟨by simp, rfl⟩

set_option maxHeartbeats 1600000 in
set_option maxRecDepth 100000 in
theorem compare_any (x y : Int) (w : World) : Calls Try.prog 54 #[.int .i64 x, .int .i64 y] w fun e w' => e = .returned (.int .i64 (cmpI x y)) ∧ w' = w := by
  have NN := hide isNaN_no
  unfold cmpI
  by_cases h1 : x < y
  · rw [if_pos h1]
    go_enter Try.func54, Try.ntmps54
    go_wp2_with (first | (go_at_call 60; refine (unhide NN _ _).mono ?_; rintro e w' ⟨rfl, rfl⟩))
    go_ret
    exact ⟨rfl, rfl⟩
  · rw [if_neg h1]
    by_cases h2 : y < x
    · rw [if_pos h2]
      go_enter Try.func54, Try.ntmps54
      go_wp2_with (first | (go_at_call 60; refine (unhide NN _ _).mono ?_; rintro e w' ⟨rfl, rfl⟩))
      go_ret
      exact ⟨rfl, rfl⟩
    · rw [if_neg h2]
      go_enter Try.func54, Try.ntmps54
      go_wp2_with (first | (go_at_call 60; refine (unhide NN _ _).mono ?_; rintro e w' ⟨rfl, rfl⟩))
      go_ret
      exact ⟨rfl, rfl⟩

set_option maxHeartbeats 1600000 in
set_option maxRecDepth 100000 in
theorem or_two (a b : Int) (g : Nat) (w : World) (h0 : w.cell? ⟨g, 0, none⟩ = some (.int .i64 a)) (h1 : w.cell? ⟨g, 1, none⟩ = some (.int .i64 b)) :
    Calls Try.prog 53 #[.slice (some ⟨g, 0, none⟩) 2 2] w fun e w' => e = .returned (.int .i64 (if a ≠ 0 then a else b)) ∧ w' = w := by
  by_cases ha : a = 0
  · have e : (if a ≠ 0 then a else b) = b := by simp [ha]
    rw [e]
    subst ha
    clear e
    by_cases hb : b = 0
    · subst hb
      go_enter Try.func53, Try.ntmps53
      go_wp2
      refine wp_loop_rounds 3 ?_
      rw [rounds_succ]
      go_wp2
      rw [rounds_succ]
      go_wp2
      rw [rounds_succ]
      go_wp2
      go_ret
      exact ⟨rfl, rfl⟩
    · go_enter Try.func53, Try.ntmps53
      go_wp2
      refine wp_loop_rounds 2 ?_
      rw [rounds_succ]
      go_wp2
      rw [rounds_succ]
      go_wp2
      go_ret
      exact ⟨rfl, rfl⟩
  · have e : (if a ≠ 0 then a else b) = a := by simp [ha]
    rw [e]
    clear e
    go_enter Try.func53, Try.ntmps53
    go_wp2
    refine wp_loop_rounds 1 ?_
    rw [rounds_succ]
    go_wp2
    go_ret
    exact ⟨rfl, rfl⟩

set_option maxHeartbeats 4000000 in
set_option maxRecDepth 100000 in
theorem compareTx_any (x y : T4) (w : World) :
    Calls Try.prog 46 #[txv x.1 x.2.1 x.2.2.1 x.2.2.2, txv y.1 y.2.1 y.2.2.1 y.2.2.2] w fun e w' => e = .returned (.int .i64 (cmpT x y)) ∧ Below w.heap.size w w' := by
  have OR : Hid (∀ g w, w.cell? ⟨g, 0, none⟩ = some (.int .i64 (cmpI x.1 y.1)) → w.cell? ⟨g, 1, none⟩ = some (.int .i64 (cmpI x.2.2.2 y.2.2.2)) → Calls Try.prog 53 #[.slice (some ⟨g, 0, none⟩) 2 2] w fun e w' => e = .returned (.int .i64 (cmpT x y)) ∧ w' = w) := hide fun g w h0 h1 => or_two _ _ g w h0 h1
  generalize cmpT x y = q at *
  obtain ⟨xa, xb, xc, xd⟩ := x
  obtain ⟨ya, yb, yc, yd⟩ := y
  dsimp only at OR ⊢
  obtain ⟨w0, hw0⟩ : ∃ w0, (w.alloc (.cells (r4 xa xb xc xd) 33)).alloc (.cells (r4 ya yb yc yd) 33) = w0 := ⟨_, rfl⟩
  have B0 : Below w.heap.size w w0 := hw0 ▸ ((Below.refl _ _).alloc (Nat.le_refl _) _).alloc (by simp) _
  have LX : Loc w0 w.heap.size (r4 xa xb xc xd) := hw0 ▸ (loc_at w _ _ rfl).alloc _
  have LY : Loc w0 (w.heap.size + 1) (r4 ya yb yc yd) := hw0 ▸ loc_at _ _ _ (by simp)
  have K : Hid (∀ w', Below w0.heap.size w0 w' → (w'.cell? ⟨w.heap.size, 0, none⟩ = some (.int .i64 xa) ∧ w'.cell? ⟨w.heap.size, 3, none⟩ = some (.int .i64 xd)) ∧ (w'.cell? ⟨w.heap.size + 1, 0, none⟩ = some (.int .i64 ya) ∧ w'.cell? ⟨w.heap.size + 1, 3, none⟩ = some (.int .i64 yd))) := hide fun w' hb => by
    have l := LX.below hb LX.lt
    have m := LY.below hb LY.lt
    exact ⟨⟨l.cell 0 rfl, l.cell 3 rfl⟩, ⟨m.cell 0 rfl, m.cell 3 rfl⟩⟩
  go_enter Try.func46, Try.ntmps46
  go_wp2_with fail
  clear hw0
  refine wp_region_noPanic ?_
  refine wp_region_held_drew (S := (fun w' => (w'.cell? ⟨w.heap.size, 0, none⟩ = some (.int .i64 xa) ∧ w'.cell? ⟨w.heap.size, 3, none⟩ = some (.int .i64 xd)) ∧ (w'.cell? ⟨w.heap.size + 1, 0, none⟩ = some (.int .i64 ya) ∧ w'.cell? ⟨w.heap.size + 1, 3, none⟩ = some (.int .i64 yd)))) (by kernel_rfl) (unhide K _ (Below.drew (Below.refl _ _))) (fun hHeld => ?_)
  obtain ⟨wd, hd⟩ : ∃ wd, w0.drew = wd := ⟨_, rfl⟩
  have bd : Below w0.heap.size w0 wd := hd ▸ Below.drew (Below.refl _ _)
  have szd := bd.size
  rw [hd] at hHeld ⊢
  clear hd
  refine take_at (i := 0) (d := 5) (v := ?_) rfl rfl (by kernel_rfl) (by kernel_rfl) (by kernel_rfl) (fun _ _ _ h => h) (Or.inl ⟨by rfl, ?_⟩) (by assumption) ?_
  rotate_left
  · intro w hSw
    try dsimp only at hSw
    go_simp
    try with_reducible rfl
  simp only [Act.put, List.setIfInBounds_toArray, List.set_cons_zero, List.set_cons_succ]
  refine take_at (i := 1) (d := 6) (v := ?_) rfl rfl (by kernel_rfl) (by kernel_rfl) (by kernel_rfl) (fun _ _ _ h => h) (Or.inl ⟨by rfl, ?_⟩) (by assumption) ?_
  rotate_left
  · intro w hSw
    try dsimp only at hSw
    go_simp
    try with_reducible rfl
  simp only [Act.put, List.setIfInBounds_toArray, List.set_cons_zero, List.set_cons_succ]
  refine take_at (i := 2) (d := 7) (v := ?_) rfl rfl (by kernel_rfl) (by kernel_rfl) (by kernel_rfl) (fun _ _ _ h => h) (Or.inl ⟨by rfl, ?_⟩) (by assumption) ?_
  rotate_left
  · intro w hSw
    try dsimp only at hSw
    go_simp
    try with_reducible rfl
  simp only [Act.put, List.setIfInBounds_toArray, List.set_cons_zero, List.set_cons_succ]
  refine take_at (i := 3) (d := 8) (v := ?_) rfl rfl (by kernel_rfl) (by kernel_rfl) (by kernel_rfl) (fun _ _ _ h => h) (Or.inl ⟨by rfl, ?_⟩) (by assumption) ?_
  rotate_left
  · intro w hSw
    try dsimp only at hSw
    go_simp
    try with_reducible rfl
  simp only [Act.put, List.setIfInBounds_toArray, List.set_cons_zero, List.set_cons_succ]
  refine take_at (i := 5) (d := 10) (v := ?_) rfl rfl (by kernel_rfl) (by kernel_rfl) (by kernel_rfl) (fun _ _ _ h => h) (Or.inl ⟨by rfl, ?_⟩) (by assumption) ?_
  rotate_left
  · intro w hSw
    try dsimp only at hSw
    go_simp
    try with_reducible rfl
  simp only [Act.put, List.setIfInBounds_toArray, List.set_cons_zero, List.set_cons_succ]
  refine take_at (i := 6) (d := 11) (v := ?_) rfl rfl (by kernel_rfl) (by kernel_rfl) (by kernel_rfl) (fun _ _ _ h => h) (Or.inl ⟨by rfl, ?_⟩) (by assumption) ?_
  rotate_left
  · intro w hSw
    try dsimp only at hSw
    go_simp
    try with_reducible rfl
  simp only [Act.put, List.setIfInBounds_toArray, List.set_cons_zero, List.set_cons_succ]
  refine take_at (i := 7) (d := 12) (v := ?_) rfl rfl (by kernel_rfl) (by kernel_rfl) (by kernel_rfl) (fun _ _ _ h => h) (Or.inl ⟨by rfl, ?_⟩) (by assumption) ?_
  rotate_left
  · intro w hSw
    try dsimp only at hSw
    go_simp
    try with_reducible rfl
  simp only [Act.put, List.setIfInBounds_toArray, List.set_cons_zero, List.set_cons_succ]
  refine take_at (i := 8) (d := 13) (v := ?_) rfl rfl (by kernel_rfl) (by kernel_rfl) (by kernel_rfl) (fun _ _ _ h => h) (Or.inl ⟨by rfl, ?_⟩) (by assumption) ?_
  rotate_left
  · intro w hSw
    try dsimp only at hSw
    go_simp
    try with_reducible rfl
  simp only [Act.put, List.setIfInBounds_toArray, List.set_cons_zero, List.set_cons_succ]
  refine ready_at (i := 4) rfl (by kernel_rfl) (fun KK hKK => ?_)
  go_simp
  refine (compare_any xa ya _).mono ?_
  rintro _ w9 ⟨rfl, e9⟩
  rw [e9]
  clear e9
  clear hHeld
  refine hKK.out _ _ (unhide K _ bd) (fun hHeld => ?_)
  clear hKK KK
  refine ready_at (i := 9) rfl (by kernel_rfl) (fun KK hKK => ?_)
  go_simp
  refine (compare_any xd yd _).mono ?_
  rintro _ w9 ⟨rfl, e9⟩
  rw [e9]
  clear e9
  clear hHeld
  refine hKK.out _ _ (unhide K _ bd) (fun hHeld => ?_)
  clear hKK KK
  refine ready_at (i := 10) rfl (by kernel_rfl) (fun KK hKK => ?_)
  go_simp
  obtain ⟨we, he⟩ : ∃ x, wd.alloc (.cells #[.int .i64 (cmpI xa ya), .int .i64 (cmpI xd yd)] 3) = x := ⟨_, rfl⟩
  have be : Below w0.heap.size w0 we := he ▸ bd.alloc szd _
  have LE : Loc we wd.heap.size #[.int .i64 (cmpI xa ya), .int .i64 (cmpI xd yd)] := he ▸ loc_at wd _ _ rfl
  rw [he]
  clear hHeld
  refine hKK.out _ _ (unhide K _ be) (fun hHeld => ?_)
  clear hKK KK
  refine ready_at (i := 11) rfl (by kernel_rfl) (fun KK hKK => ?_)
  go_simp
  refine (unhide OR _ _ (LE.cell 0 rfl) (LE.cell 1 rfl)).mono ?_
  rintro _ w9 ⟨rfl, e9⟩
  rw [e9]
  clear e9
  clear hHeld
  refine hKK.out _ _ (unhide K _ be) (fun hHeld => ?_)
  clear hKK KK
  refine take_at (i := 12) (d := 4) (v := ?_) rfl rfl (by kernel_rfl) (by kernel_rfl) (by kernel_rfl) (fun _ _ _ h => h) (Or.inl ⟨by rfl, ?_⟩) (by assumption) ?_
  rotate_left
  · intro w hSw
    try dsimp only at hSw
    go_simp
    try with_reducible rfl
  simp only [Act.put, List.setIfInBounds_toArray, List.set_cons_zero, List.set_cons_succ]
  clear hHeld
  refine wpAnyH_done (by kernel_rfl) ?_ _
  refine NoPanic.normal ?_
  go_wp2
  go_ret
  exact ⟨rfl, B0.trans (be.mono B0.size)⟩

set_option maxHeartbeats 1600000 in
set_option maxRecDepth 100000 in
theorem before_any (x y : T4) (w : World) :
    Calls Try.prog 26 #[txv x.1 x.2.1 x.2.2.1 x.2.2.2, txv y.1 y.2.1 y.2.2.1 y.2.2.2] w fun e w' => e = .returned (.bool (decide (Bef x y))) ∧ Below w.heap.size w w' := by
  obtain ⟨xa, xb, xc, xd⟩ := x
  obtain ⟨ya, yb, yc, yd⟩ := y
  dsimp only
  by_cases h1 : xa < ya
  · rw [show decide (Bef (xa, xb, xc, xd) (ya, yb, yc, yd)) = true from decide_eq_true (Or.inl h1)]
    go_enter Try.func26, Try.ntmps26
    go_wp2
    go_ret
    exact ⟨rfl, ((Below.refl _ _).alloc (Nat.le_refl _) _).alloc (by simp) _⟩
  · by_cases h2 : xa = ya
    · have e : decide (Bef (xa, xb, xc, xd) (ya, yb, yc, yd)) = decide (xd < yd) := by
        have : Bef (xa, xb, xc, xd) (ya, yb, yc, yd) ↔ xd < yd := by unfold Bef; dsimp only; omega
        simp only [this]
      rw [e]
      clear e
      subst h2
      go_enter Try.func26, Try.ntmps26
      go_wp2
      go_ret
      exact ⟨rfl, ((Below.refl _ _).alloc (Nat.le_refl _) _).alloc (by simp) _⟩
    · rw [show decide (Bef (xa, xb, xc, xd) (ya, yb, yc, yd)) = false from decide_eq_false (by unfold Bef; dsimp only; omega)]
      have h2 : (xa == ya) = false := by simpa using h2
      go_enter Try.func26, Try.ntmps26
      go_wp2
      go_ret
      exact ⟨rfl, ((Below.refl _ _).alloc (Nat.le_refl _) _).alloc (by simp) _⟩
end Go.Proofs.Ythdehhenkgkkmaa
