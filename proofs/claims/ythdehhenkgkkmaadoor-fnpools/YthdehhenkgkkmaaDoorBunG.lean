/- Texts that belong together: PoolCmp, PoolAsc, PoolOk, PoolPlain. -/
import Derived.Test.YthdehhenkgkkmaaDoorBunD
import Derived.Test.YthdehhenkgkkmaaDoorBunA
import Derived.Laws.EntriesVeiled
/- The order of payments: cmp.Compare, cmp.Or, impl.compareTx, spec.l4Before. -/
namespace Go.Proofs.YthdehhenkgkkmaaDoor
open Go.RowKit
set_option linter.unusedSectionVars false
variable [∀ (a b c d : Int), Decidable (Ok4 a b c d)]
variable [∀ (m a b c d : Int), Decidable (In4 m a b c d)]
variable [∀ (xs ys : List Int), Decidable (LOk xs ys)]

def cmpI (a b : Int) : Int := if a < b then -1 else if b < a then 1 else 0
/-- One payment stands ahead of another. -/
def Bef (x y : T4) : Prop := x.1 < y.1 ∨ (x.1 = y.1 ∧ x.2.2.2 < y.2.2.2)
variable [∀ (x y : T4), Decidable (Bef x y)]
def cmpT (x y : T4) : Int := if cmpI x.1 y.1 ≠ 0 then cmpI x.1 y.1 else cmpI x.2.2.2 y.2.2.2
theorem cmpT_lt (x y : T4) : cmpT x y < 0 ↔ Bef x y := by
  unfold cmpT cmpI Bef
  repeat' split
  all_goals omega
theorem cmpT_eq (x y : T4) : cmpT x y = 0 ↔ (x.1 = y.1 ∧ x.2.2.2 = y.2.2.2) := by
  unfold cmpT cmpI
  repeat' split
  all_goals omega
theorem cmpT_in (x y : T4) : -1 ≤ cmpT x y ∧ cmpT x y ≤ 1 := by
  unfold cmpT cmpI
  repeat' split
  all_goals omega
theorem cmpI_in (x y : Int) : -1 ≤ cmpI x y ∧ cmpI x y ≤ 1 := by
  unfold cmpI
  repeat' split
  all_goals omega
theorem Bef.trans {x y z : T4} (h : Bef x y) (k : Bef y z) : Bef x z := by unfold Bef at *; omega
theorem Bef.irrefl {x : T4} (h : Bef x x) : False := by unfold Bef at h; omega
theorem Bef.asymm {x y : T4} (h : Bef x y) (k : Bef y x) : False := by unfold Bef at *; omega

set_option maxHeartbeats 400000 in
set_option maxRecDepth 100000 in
theorem isNaN_no (x : Int) (w : World) : Calls Tryd.prog 71 #[.int .i64 x] w fun e w' => e = .returned (.bool false) ∧ w' = w := by
  go_enter Tryd.func71, Tryd.ntmps71
  go_wp2
  go_ret
  exact ⟨by simp, rfl⟩

set_option maxHeartbeats 1600000 in
set_option maxRecDepth 100000 in
theorem compare_any (x y : Int) (w : World) : Calls Tryd.prog 64 #[.int .i64 x, .int .i64 y] w fun e w' => e = .returned (.int .i64 (cmpI x y)) ∧ w' = w := by
  have NN := hide isNaN_no
  unfold cmpI
  by_cases h1 : x < y
  · rw [if_pos h1]
    go_enter Tryd.func64, Tryd.ntmps64
    go_wp2_with (first | (go_at_call 71; refine (unhide NN _ _).mono ?_; rintro e w' ⟨rfl, rfl⟩))
    go_ret
    exact ⟨rfl, rfl⟩
  · rw [if_neg h1]
    by_cases h2 : y < x
    · rw [if_pos h2]
      go_enter Tryd.func64, Tryd.ntmps64
      go_wp2_with (first | (go_at_call 71; refine (unhide NN _ _).mono ?_; rintro e w' ⟨rfl, rfl⟩))
      go_ret
      exact ⟨rfl, rfl⟩
    · rw [if_neg h2]
      go_enter Tryd.func64, Tryd.ntmps64
      go_wp2_with (first | (go_at_call 71; refine (unhide NN _ _).mono ?_; rintro e w' ⟨rfl, rfl⟩))
      go_ret
      exact ⟨rfl, rfl⟩

set_option maxHeartbeats 1600000 in
set_option maxRecDepth 100000 in
theorem or_two (a b : Int) (g : Nat) (w : World) (h0 : w.cell? ⟨g, 0, none⟩ = some (.int .i64 a)) (h1 : w.cell? ⟨g, 1, none⟩ = some (.int .i64 b)) :
    Calls Tryd.prog 63 #[.slice (some ⟨g, 0, none⟩) 2 2] w fun e w' => e = .returned (.int .i64 (if a ≠ 0 then a else b)) ∧ w' = w := by
  by_cases ha : a = 0
  · have e : (if a ≠ 0 then a else b) = b := by simp [ha]
    rw [e]
    subst ha
    clear e
    by_cases hb : b = 0
    · subst hb
      go_enter Tryd.func63, Tryd.ntmps63
      go_wp2
      refine wp_loop_rounds 3 ?_
      rw [rounds_succ]
      go_wp2
      rw [rounds_succ]
      go_wp2
      rw [rounds_succ]
      go_wp2
      go_ret
      exact ⟨rfl, rfl⟩
    · go_enter Tryd.func63, Tryd.ntmps63
      go_wp2
      refine wp_loop_rounds 2 ?_
      rw [rounds_succ]
      go_wp2
      rw [rounds_succ]
      go_wp2
      go_ret
      exact ⟨rfl, rfl⟩
  · have e : (if a ≠ 0 then a else b) = a := by simp [ha]
    rw [e]
    clear e
    go_enter Tryd.func63, Tryd.ntmps63
    go_wp2
    refine wp_loop_rounds 1 ?_
    rw [rounds_succ]
    go_wp2
    go_ret
    exact ⟨rfl, rfl⟩

set_option maxHeartbeats 4000000 in
set_option maxRecDepth 100000 in
theorem compareTx_any (x y : T4) (w : World) :
    Calls Tryd.prog 47 #[txv x.1 x.2.1 x.2.2.1 x.2.2.2, txv y.1 y.2.1 y.2.2.1 y.2.2.2] w fun e w' => e = .returned (.int .i64 (cmpT x y)) ∧ Below w.heap.size w w' := by
  have OR : Hid (∀ g w, w.cell? ⟨g, 0, none⟩ = some (.int .i64 (cmpI x.1 y.1)) → w.cell? ⟨g, 1, none⟩ = some (.int .i64 (cmpI x.2.2.2 y.2.2.2)) → Calls Tryd.prog 63 #[.slice (some ⟨g, 0, none⟩) 2 2] w fun e w' => e = .returned (.int .i64 (cmpT x y)) ∧ w' = w) := hide fun g w h0 h1 => or_two _ _ g w h0 h1
  generalize cmpT x y = q at *
  obtain ⟨xa, xb, xc, xd⟩ := x
  obtain ⟨ya, yb, yc, yd⟩ := y
  dsimp only at OR ⊢
  obtain ⟨w0, hw0⟩ : ∃ w0, (w.alloc (.cells (r4 xa xb xc xd) 26)).alloc (.cells (r4 ya yb yc yd) 26) = w0 := ⟨_, rfl⟩
  have B0 : Below w.heap.size w w0 := hw0 ▸ ((Below.refl _ _).alloc (Nat.le_refl _) _).alloc (by simp) _
  have LX : Loc w0 w.heap.size (r4 xa xb xc xd) := hw0 ▸ (loc_at w _ _ rfl).alloc _
  have LY : Loc w0 (w.heap.size + 1) (r4 ya yb yc yd) := hw0 ▸ loc_at _ _ _ (by simp)
  have K : Hid (∀ w', Below w0.heap.size w0 w' → (w'.cell? ⟨w.heap.size, 0, none⟩ = some (.int .i64 xa) ∧ w'.cell? ⟨w.heap.size, 3, none⟩ = some (.int .i64 xd)) ∧ (w'.cell? ⟨w.heap.size + 1, 0, none⟩ = some (.int .i64 ya) ∧ w'.cell? ⟨w.heap.size + 1, 3, none⟩ = some (.int .i64 yd))) := hide fun w' hb => by
    have l := LX.below hb LX.lt
    have m := LY.below hb LY.lt
    exact ⟨⟨l.cell 0 rfl, l.cell 3 rfl⟩, ⟨m.cell 0 rfl, m.cell 3 rfl⟩⟩
  go_enter Tryd.func47, Tryd.ntmps47
  go_wp2_with fail
  clear hw0
  refine wp_region_noPanic ?_
  refine wp_region_held_drew (S := (fun w' => (w'.cell? ⟨w.heap.size, 0, none⟩ = some (.int .i64 xa) ∧ w'.cell? ⟨w.heap.size, 3, none⟩ = some (.int .i64 xd)) ∧ (w'.cell? ⟨w.heap.size + 1, 0, none⟩ = some (.int .i64 ya) ∧ w'.cell? ⟨w.heap.size + 1, 3, none⟩ = some (.int .i64 yd)))) (by kernel_rfl) (unhide K _ (Below.drew (Below.refl _ _))) (fun hHeld => ?_)
  obtain ⟨wd, hd⟩ : ∃ wd, w0.drew = wd := ⟨_, rfl⟩
  have bd : Below w0.heap.size w0 wd := hd ▸ Below.drew (Below.refl _ _)
  have szd := bd.size
  rw [hd] at hHeld ⊢
  clear hd
  refine take_at (i := 0) (d := 5) (v := ?_) rfl rfl (by kernel_rfl) (by kernel_rfl) (by kernel_rfl) (fun _ _ _ h => h) (Or.inl ⟨by rfl, ?_⟩) (by assumption) ?_
  rotate_left
  · intro w hSw
    try dsimp only at hSw
    go_simp
    try with_reducible rfl
  simp only [Act.put, List.setIfInBounds_toArray, List.set_cons_zero, List.set_cons_succ]
  refine take_at (i := 1) (d := 6) (v := ?_) rfl rfl (by kernel_rfl) (by kernel_rfl) (by kernel_rfl) (fun _ _ _ h => h) (Or.inl ⟨by rfl, ?_⟩) (by assumption) ?_
  rotate_left
  · intro w hSw
    try dsimp only at hSw
    go_simp
    try with_reducible rfl
  simp only [Act.put, List.setIfInBounds_toArray, List.set_cons_zero, List.set_cons_succ]
  refine take_at (i := 2) (d := 7) (v := ?_) rfl rfl (by kernel_rfl) (by kernel_rfl) (by kernel_rfl) (fun _ _ _ h => h) (Or.inl ⟨by rfl, ?_⟩) (by assumption) ?_
  rotate_left
  · intro w hSw
    try dsimp only at hSw
    go_simp
    try with_reducible rfl
  simp only [Act.put, List.setIfInBounds_toArray, List.set_cons_zero, List.set_cons_succ]
  refine take_at (i := 3) (d := 8) (v := ?_) rfl rfl (by kernel_rfl) (by kernel_rfl) (by kernel_rfl) (fun _ _ _ h => h) (Or.inl ⟨by rfl, ?_⟩) (by assumption) ?_
  rotate_left
  · intro w hSw
    try dsimp only at hSw
    go_simp
    try with_reducible rfl
  simp only [Act.put, List.setIfInBounds_toArray, List.set_cons_zero, List.set_cons_succ]
  refine take_at (i := 5) (d := 10) (v := ?_) rfl rfl (by kernel_rfl) (by kernel_rfl) (by kernel_rfl) (fun _ _ _ h => h) (Or.inl ⟨by rfl, ?_⟩) (by assumption) ?_
  rotate_left
  · intro w hSw
    try dsimp only at hSw
    go_simp
    try with_reducible rfl
  simp only [Act.put, List.setIfInBounds_toArray, List.set_cons_zero, List.set_cons_succ]
  refine take_at (i := 6) (d := 11) (v := ?_) rfl rfl (by kernel_rfl) (by kernel_rfl) (by kernel_rfl) (fun _ _ _ h => h) (Or.inl ⟨by rfl, ?_⟩) (by assumption) ?_
  rotate_left
  · intro w hSw
    try dsimp only at hSw
    go_simp
    try with_reducible rfl
  simp only [Act.put, List.setIfInBounds_toArray, List.set_cons_zero, List.set_cons_succ]
  refine take_at (i := 7) (d := 12) (v := ?_) rfl rfl (by kernel_rfl) (by kernel_rfl) (by kernel_rfl) (fun _ _ _ h => h) (Or.inl ⟨by rfl, ?_⟩) (by assumption) ?_
  rotate_left
  · intro w hSw
    try dsimp only at hSw
    go_simp
    try with_reducible rfl
  simp only [Act.put, List.setIfInBounds_toArray, List.set_cons_zero, List.set_cons_succ]
  refine take_at (i := 8) (d := 13) (v := ?_) rfl rfl (by kernel_rfl) (by kernel_rfl) (by kernel_rfl) (fun _ _ _ h => h) (Or.inl ⟨by rfl, ?_⟩) (by assumption) ?_
  rotate_left
  · intro w hSw
    try dsimp only at hSw
    go_simp
    try with_reducible rfl
  simp only [Act.put, List.setIfInBounds_toArray, List.set_cons_zero, List.set_cons_succ]
  refine ready_at (i := 4) rfl (by kernel_rfl) (fun KK hKK => ?_)
  go_simp
  refine (compare_any xa ya _).mono ?_
  rintro _ w9 ⟨rfl, e9⟩
  rw [e9]
  clear e9
  clear hHeld
  refine hKK.out _ _ (unhide K _ bd) (fun hHeld => ?_)
  clear hKK KK
  refine ready_at (i := 9) rfl (by kernel_rfl) (fun KK hKK => ?_)
  go_simp
  refine (compare_any xd yd _).mono ?_
  rintro _ w9 ⟨rfl, e9⟩
  rw [e9]
  clear e9
  clear hHeld
  refine hKK.out _ _ (unhide K _ bd) (fun hHeld => ?_)
  clear hKK KK
  refine ready_at (i := 10) rfl (by kernel_rfl) (fun KK hKK => ?_)
  go_simp
  obtain ⟨we, he⟩ : ∃ x, wd.alloc (.cells #[.int .i64 (cmpI xa ya), .int .i64 (cmpI xd yd)] 3) = x := ⟨_, rfl⟩
  have be : Below w0.heap.size w0 we := he ▸ bd.alloc szd _
  have LE : Loc we wd.heap.size #[.int .i64 (cmpI xa ya), .int .i64 (cmpI xd yd)] := he ▸ loc_at wd _ _ rfl
  rw [he]
  clear hHeld
  refine hKK.out _ _ (unhide K _ be) (fun hHeld => ?_)
  clear hKK KK
  refine ready_at (i := 11) rfl (by kernel_rfl) (fun KK hKK => ?_)
  go_simp
  refine (unhide OR _ _ (LE.cell 0 rfl) (LE.cell 1 rfl)).mono ?_
  rintro _ w9 ⟨rfl, e9⟩
  rw [e9]
  clear e9
  clear hHeld
  refine hKK.out _ _ (unhide K _ be) (fun hHeld => ?_)
  clear hKK KK
  refine take_at (i := 12) (d := 4) (v := ?_) rfl rfl (by kernel_rfl) (by kernel_rfl) (by kernel_rfl) (fun _ _ _ h => h) (Or.inl ⟨by rfl, ?_⟩) (by assumption) ?_
  rotate_left
  · intro w hSw
    try dsimp only at hSw
    go_simp
    try with_reducible rfl
  simp only [Act.put, List.setIfInBounds_toArray, List.set_cons_zero, List.set_cons_succ]
  clear hHeld
  refine wpAnyH_done (by kernel_rfl) ?_ _
  refine NoPanic.normal ?_
  go_wp2
  go_ret
  exact ⟨rfl, B0.trans (be.mono B0.size)⟩

set_option maxHeartbeats 1600000 in
set_option maxRecDepth 100000 in
theorem before_any (x y : T4) (w : World) :
    Calls Tryd.prog 24 #[txv x.1 x.2.1 x.2.2.1 x.2.2.2, txv y.1 y.2.1 y.2.2.1 y.2.2.2] w fun e w' => e = .returned (.bool (decide (Bef x y))) ∧ Below w.heap.size w w' := by
  obtain ⟨xa, xb, xc, xd⟩ := x
  obtain ⟨ya, yb, yc, yd⟩ := y
  dsimp only
  by_cases h1 : xa < ya
  · rw [show decide (Bef (xa, xb, xc, xd) (ya, yb, yc, yd)) = true from decide_eq_true (Or.inl h1)]
    go_enter Tryd.func24, Tryd.ntmps24
    go_wp2
    go_ret
    exact ⟨rfl, ((Below.refl _ _).alloc (Nat.le_refl _) _).alloc (by simp) _⟩
  · by_cases h2 : xa = ya
    · have e : decide (Bef (xa, xb, xc, xd) (ya, yb, yc, yd)) = decide (xd < yd) := by
        have : Bef (xa, xb, xc, xd) (ya, yb, yc, yd) ↔ xd < yd := by unfold Bef; dsimp only; omega
        simp only [this]
      rw [e]
      clear e
      subst h2
      go_enter Tryd.func24, Tryd.ntmps24
      go_wp2
      go_ret
      exact ⟨rfl, ((Below.refl _ _).alloc (Nat.le_refl _) _).alloc (by simp) _⟩
    · rw [show decide (Bef (xa, xb, xc, xd) (ya, yb, yc, yd)) = false from decide_eq_false (by unfold Bef; dsimp only; omega)]
      have h2 : (xa == ya) = false := by simpa using h2
      go_enter Tryd.func24, Tryd.ntmps24
      go_wp2
      go_ret
      exact ⟨rfl, ((Below.refl _ _).alloc (Nat.le_refl _) _).alloc (by simp) _⟩
end Go.Proofs.YthdehhenkgkkmaaDoor

/- PoolOk of the program and of the specification. -/
namespace Go.Proofs.YthdehhenkgkkmaaDoor
open Go.RowKit
set_option linter.unusedSectionVars false
variable [∀ (a b c d : Int), Decidable (Ok4 a b c d)]
variable [∀ (m a b c d : Int), Decidable (In4 m a b c d)]
variable [∀ (xs ys : List Int), Decidable (LOk xs ys)]
variable [∀ (x y : T4), Decidable (Bef x y)]

abbrev z4 : T4 := (0, 0, 0, 0)
/-- Neighbours stand in order; each is right. -/
def Asc (ts : List T4) : Prop := ∀ k, k < ts.length - 1 → Bef (ts.getD k z4) (ts.getD (k + 1) z4)
def AllOk (ts : List T4) : Prop := ∀ k, k < ts.length → Ok4 (ts.getD k z4).1 (ts.getD k z4).2.1 (ts.getD k z4).2.2.1 (ts.getD k z4).2.2.2
variable [∀ (ts : List T4), Decidable (Asc ts)]
variable [∀ (ts : List T4), Decidable (AllOk ts)]
/-- What PoolOk answers. -/
def POk (ts : List T4) : Prop := ts.length ≤ 12 ∧ AllOk ts ∧ Asc ts
variable [∀ (ts : List T4), Decidable (POk ts)]
/-- The cells of the k-th payment. -/
theorem RT.at {w : World} {ao : Option Addr} {n ca : Nat} {xs : List T4} (h : RT w (.slice ao n ca) xs) (k : Nat) (hk : k < xs.length) : ∃ g, ao = some ⟨g, 0, none⟩ ∧ Cells4K w g k (xs.getD k z4) := by
  obtain ⟨_, ao', ca', e, h⟩ := h
  cases e
  rcases h with rfl | ⟨g, rfl, h⟩
  · simp at hk
  · exact ⟨g, rfl, h k hk⟩
theorem RT.form {w : World} {v : Value} {xs : List T4} (h : RT w v xs) : ∃ ao ca, v = .slice ao xs.length ca := by obtain ⟨_, ao, ca, e, _⟩ := h; exact ⟨ao, ca, e⟩
theorem Cells4K.below {w w' : World} {B g k : Nat} {t : T4} (h : Cells4K w g k t) (hb : Below B w w') (hg : w.heap.size ≤ B) : Cells4K w' g k t := by
  have hl : g < B := Nat.lt_of_lt_of_le (cell_lt h.1) hg
  exact ⟨(hb.cell (p := ⟨g, k * 4, none⟩) hl).trans h.1, (hb.cell (p := ⟨g, k * 4 + 1, none⟩) hl).trans h.2.1, (hb.cell (p := ⟨g, k * 4 + 2, none⟩) hl).trans h.2.2.1, (hb.cell (p := ⟨g, k * 4 + 3, none⟩) hl).trans h.2.2.2⟩

set_option maxHeartbeats 400000 in
set_option maxRecDepth 100000 in
theorem notTx_any (a b c d : Int) (w : World) :
    Calls Tryd.prog 39 #[txv a b c d] w fun e w' => e = .returned (.bool (!decide (Ok4 a b c d))) ∧ Below w.heap.size w w' := by
  have TO := hide fun w => implTxOk a b c d w
  go_enter Tryd.func39, Tryd.ntmps39
  go_wp2_with (first | (go_at_call 51; refine (unhide TO _).mono ?_; rintro e w' ⟨rfl, bb⟩))
  go_ret
  exact ⟨rfl, ((Below.refl _ _).alloc (Nat.le_refl _) _).trans (bb.mono (by simp))⟩

set_option maxHeartbeats 1600000 in
set_option maxRecDepth 100000 in
theorem index_any (v : Value) (ts : List T4) (w : World) (h : RT w v ts) :
    Calls Tryd.prog 57 #[v, .func (.func 39) #[] #[]] w fun e w' => ∃ i : Int, e = .returned (.int .i64 i) ∧ (0 ≤ i ↔ ¬ AllOk ts) ∧ Below w.heap.size w w' := by
  obtain ⟨ao, ca, rfl⟩ := h.form
  have hl := h.1
  have H := hide h
  obtain ⟨n, hn⟩ : ∃ n, ts.length = n := ⟨_, rfl⟩
  have Hn := hide hn
  rw [hn] at hl H ⊢
  clear h hn
  go_enter Tryd.func57, Tryd.ntmps57
  go_wp2
  go_loopw [8] (fun i wr => ∃ k : Nat, k ≤ n ∧ i = .int .i64 k ∧ Hid (∀ j, j < k → Ok4 (ts.getD j z4).1 (ts.getD j z4).2.1 (ts.getD j z4).2.2.1 (ts.getD j z4).2.2.2) ∧ Below w.heap.size w wr) (fun i _ => n - (intOf i).toNat)
  case atStart => exact ⟨0, Nat.zero_le _, rfl, hide (fun j hj => absurd hj (Nat.not_lt_zero j)), Below.refl _ _⟩
  case round =>
    obtain ⟨k, hk, rfl, HA, br⟩ := hrel
    by_cases hlt : k < n
    · obtain ⟨g, rfl, hc⟩ := (unhide H).at k (by rw [unhide Hn]; exact hlt)
      obtain ⟨c0, c1, c2, c3⟩ := hc.below br (Nat.le_refl _)
      have NT := hide fun w => notTx_any (ts.getD k z4).1 (ts.getD k z4).2.1 (ts.getD k z4).2.2.1 (ts.getD k z4).2.2.2 w
      have HS := hide fun (h : Ok4 (ts.getD k z4).1 (ts.getD k z4).2.1 (ts.getD k z4).2.2.1 (ts.getD k z4).2.2.2) => (show ∀ j, j < k + 1 → Ok4 (ts.getD j z4).1 (ts.getD j z4).2.1 (ts.getD j z4).2.2.1 (ts.getD j z4).2.2.2 from fun j hj => by
        by_cases e : j = k
        · rw [e]; exact h
        · exact unhide HA j (by omega))
      have HN : Hid (¬ Ok4 (ts.getD k z4).1 (ts.getD k z4).2.1 (ts.getD k z4).2.2.1 (ts.getD k z4).2.2.2 → ¬ AllOk ts) := hide fun h ha => h (ha k (by rw [unhide Hn]; exact hlt))
      clear HA hc
      generalize ts.getD k z4 = x at *
      obtain ⟨xa, xb, xc, xd⟩ := x
      dsimp only at c0 c1 c2 c3 NT HS HN
      by_cases ho : Ok4 xa xb xc xd
      · rw [decide_eq_true ho] at NT
        have HS := hide (unhide HS ho)
        clear HN ho
        go_wp2_with (first | (go_at_call 39; refine (unhide NT _).mono ?_; rintro e w2 ⟨rfl, b2⟩))
        go_roundw
        case rel => exact ⟨k + 1, by omega, by go_num, HS, br.trans (b2.mono br.size)⟩
        case measure => simp [intOf]; omega
      · rw [decide_eq_false ho] at NT
        have HN := hide (unhide HN ho)
        clear HS ho
        go_wp2_with (first | (go_at_call 39; refine (unhide NT _).mono ?_; rintro e w2 ⟨rfl, b2⟩))
        go_ret
        exact ⟨k, rfl, by simp [unhide HN], br.trans (b2.mono br.size)⟩
    · have hkn : k = n := by omega
      have HN : Hid (AllOk ts) := hide fun j hj => unhide HA j (by have := unhide Hn; omega)
      clear HA
      subst hkn
      go_wp2
      go_ret
      exact ⟨-1, rfl, by simp [unhide HN], br⟩

set_option maxHeartbeats 400000 in
set_option maxRecDepth 100000 in
theorem contains_any (v : Value) (ts : List T4) (w : World) (h : RT w v ts) :
    Calls Tryd.prog 38 #[v, .func (.func 39) #[] #[]] w fun e w' => e = .returned (.bool (!decide (AllOk ts))) ∧ Below w.heap.size w w' := by
  have IX := hide fun w h => index_any v ts w h
  have H := hide h
  obtain ⟨ao, ca, rfl⟩ := h.form
  clear h
  go_enter Tryd.func38, Tryd.ntmps38
  go_wp2_with fail
  refine (unhide IX _ (unhide H)).mono ?_
  rintro e w2 ⟨i, rfl, hi, b2⟩
  go_wp2
  go_ret
  refine ⟨?_, b2⟩
  by_cases hA : AllOk ts
  · rw [decide_eq_true hA]
    have : ¬ 0 ≤ i := fun h => hi.1 h hA
    simp
  · rw [decide_eq_false hA]
    have : 0 ≤ i := hi.2 hA
    simp

set_option maxHeartbeats 400000 in
set_option maxRecDepth 100000 in
theorem waiting_any (ao : Option Addr) (n ca : Nat) (w : World) :
    Calls Tryd.prog 22 #[.slice ao n ca] w fun e w' => e = .returned (.agg #[.slice ao n ca, .func (.func 47) #[] #[]]) ∧ Below w.heap.size w w' := by
  go_enter Tryd.func22, Tryd.ntmps22
  go_wp2
  refine bodyPost_ret (v := .agg #[.slice ao n ca, .func (.func 47) #[] #[]]) (by simp [results, Tryd.results22, go_sem]) rfl ?_
  exact ⟨rfl, (Below.refl _ _).alloc (Nat.le_refl _) _⟩

set_option maxHeartbeats 1000000 in
set_option maxRecDepth 100000 in
theorem ascends_any (v : Value) (ts : List T4) (w : World) (h : RT w v ts) :
    Calls Tryd.prog 40 #[.agg #[v, .func (.func 47) #[] #[]]] w fun e w' => e = .returned (.bool (decide (Asc ts))) ∧ Below w.heap.size w w' := by
  obtain ⟨ao, ca, rfl⟩ := h.form
  have hl := h.1
  have H := hide h
  obtain ⟨n, hn⟩ : ∃ n, ts.length = n := ⟨_, rfl⟩
  have Hn := hide hn
  rw [hn] at hl H ⊢
  clear h hn
  obtain ⟨w0, hw0⟩ : ∃ w0, w.alloc (.cells #[.slice ao n ca, .func (.func 47) #[] #[]] 48) = w0 := ⟨_, rfl⟩
  have B0 : Below w.heap.size w w0 := hw0 ▸ (Below.refl _ _).alloc (Nat.le_refl _) _
  have L0 : Loc w0 w.heap.size #[.slice ao n ca, .func (.func 47) #[] #[]] := hw0 ▸ loc_at w _ _ rfl
  go_enter Tryd.func40, Tryd.ntmps40
  go_wp2
  clear hw0
  go_loopw [3] (fun i wr => ∃ m : Nat, 1 ≤ m ∧ m ≤ n + 1 ∧ i = .int .i64 m ∧ Hid (∀ j, j + 1 < m → j < n - 1 → Bef (ts.getD j z4) (ts.getD (j + 1) z4)) ∧ Loc wr w.heap.size #[.slice ao n ca, .func (.func 47) #[] #[]] ∧ Below w.heap.size w wr) (fun i _ => n + 1 - (intOf i).toNat)
  case atStart => exact ⟨1, Nat.le_refl _, by omega, by go_num, hide (fun j hj => absurd hj (by omega)), L0, B0⟩
  case round =>
    clear L0 B0
    obtain ⟨m, hm1, hm, rfl, HA, L, br⟩ := hrel
    have q0 := L.cell 0 rfl
    have q1 := L.cell 1 rfl
    by_cases hlt : m < n
    · obtain ⟨k, hk⟩ : ∃ k, m = k + 1 := ⟨m - 1, by omega⟩
      have hk1 : (m : Int) - 1 = (k : Int) := by omega
      have hwk : IntKind.i64.wrap (k : Int) = (k : Int) := by rw [IntKind.wrap_i64]; omega
      have hkn : k < n := by omega
      obtain ⟨g, rfl, hx⟩ := (unhide H).at k (by rw [unhide Hn]; omega)
      obtain ⟨g', e, hy⟩ := (unhide H).at m (by rw [unhide Hn]; omega)
      cases e
      have CX := hide (hx.below br (Nat.le_refl _))
      have CY := hide (hy.below br (Nat.le_refl _))
      have CT := hide fun w => compareTx_any (ts.getD k z4) (ts.getD m z4) w
      have HS := hide fun (h : Bef (ts.getD k z4) (ts.getD m z4)) => (show ∀ j, j + 1 < m + 1 → j < n - 1 → Bef (ts.getD j z4) (ts.getD (j + 1) z4) from fun j hj hj2 => by
        by_cases e : j = k
        · rw [e, ← hk]; exact h
        · exact unhide HA j (by omega) hj2)
      have HN : Hid (¬ Bef (ts.getD k z4) (ts.getD m z4) → ¬ Asc ts) := hide fun h ha => h (by have := ha k (by rw [unhide Hn]; omega); rwa [← hk] at this)
      have hcm := hide (cmpT_lt (ts.getD k z4) (ts.getD m z4))
      clear HA hx hy
      generalize cmpT (ts.getD k z4) (ts.getD m z4) = q at *
      generalize Bef (ts.getD k z4) (ts.getD m z4) = BF at *
      generalize ts.getD k z4 = x at *
      generalize ts.getD m z4 = y at *
      obtain ⟨xa, xb, xc, xd⟩ := x
      obtain ⟨ya, yb, yc, yd⟩ := y
      dsimp only at CT
      have K : Hid (∀ w', Below wr.heap.size wr w' → (w'.cell? ⟨w.heap.size, 0, none⟩ = some (.slice (some ⟨g, 0, none⟩) n ca) ∧ w'.cell? ⟨w.heap.size, 1, none⟩ = some (.func (.func 47) #[] #[])) ∧ (w'.cell? ⟨g, k * 4, none⟩ = some (.int .i64 xa) ∧ w'.cell? ⟨g, k * 4 + 1, none⟩ = some (.int .i64 xb) ∧ w'.cell? ⟨g, k * 4 + 2, none⟩ = some (.int .i64 xc) ∧ w'.cell? ⟨g, k * 4 + 3, none⟩ = some (.int .i64 xd)) ∧ (w'.cell? ⟨g, m * 4, none⟩ = some (.int .i64 ya) ∧ w'.cell? ⟨g, m * 4 + 1, none⟩ = some (.int .i64 yb) ∧ w'.cell? ⟨g, m * 4 + 2, none⟩ = some (.int .i64 yc) ∧ w'.cell? ⟨g, m * 4 + 3, none⟩ = some (.int .i64 yd))) := hide fun w' hb => by
        have l := L.below hb L.lt
        have x := (unhide CX).below hb (Nat.le_refl _)
        have y := (unhide CY).below hb (Nat.le_refl _)
        exact ⟨⟨l.cell 0 rfl, l.cell 1 rfl⟩, x, y⟩
      have bA : Below wr.heap.size wr wr.drew := Below.drew (Below.refl _ _)
      have hKeep := unhide K _ bA
      replace hk := hide hk
      clear CX CY
      go_wp2_with fail
      refine wp_region_noPanic ?_
      refine wp_region_held_drew (S := (fun w' => (w'.cell? ⟨w.heap.size, 0, none⟩ = some (.slice (some ⟨g, 0, none⟩) n ca) ∧ w'.cell? ⟨w.heap.size, 1, none⟩ = some (.func (.func 47) #[] #[])) ∧ (w'.cell? ⟨g, k * 4, none⟩ = some (.int .i64 xa) ∧ w'.cell? ⟨g, k * 4 + 1, none⟩ = some (.int .i64 xb) ∧ w'.cell? ⟨g, k * 4 + 2, none⟩ = some (.int .i64 xc) ∧ w'.cell? ⟨g, k * 4 + 3, none⟩ = some (.int .i64 xd)) ∧ (w'.cell? ⟨g, m * 4, none⟩ = some (.int .i64 ya) ∧ w'.cell? ⟨g, m * 4 + 1, none⟩ = some (.int .i64 yb) ∧ w'.cell? ⟨g, m * 4 + 2, none⟩ = some (.int .i64 yc) ∧ w'.cell? ⟨g, m * 4 + 3, none⟩ = some (.int .i64 yd)))) (by kernel_rfl) hKeep (fun hHeld => ?_)
      refine take_at (i := 0) (d := 11) (v := ?_) rfl rfl (by kernel_rfl) (by kernel_rfl) (by kernel_rfl) (fun _ _ _ h => h) (Or.inl ⟨by rfl, ?_⟩) (by assumption) ?_
      rotate_left
      · intro w hSw
        try dsimp only at hSw
        go_simp
        try with_reducible rfl
      simp only [Act.put, List.setIfInBounds_toArray, List.set_cons_zero, List.set_cons_succ]
      refine take_at (i := 1) (d := 12) (v := ?_) rfl rfl (by kernel_rfl) (by kernel_rfl) (by kernel_rfl) (fun _ _ _ h => h) (Or.inl ⟨by rfl, ?_⟩) (by assumption) ?_
      rotate_left
      · intro w hSw
        try dsimp only at hSw
        go_simp
        try with_reducible rfl
      simp only [Act.put, List.setIfInBounds_toArray, List.set_cons_zero, List.set_cons_succ]
      refine take_at (i := 2) (d := 13) (v := ?_) rfl rfl (by kernel_rfl) (by kernel_rfl) (by kernel_rfl) (fun _ _ _ h => h) (Or.inl ⟨by rfl, ?_⟩) (by assumption) ?_
      rotate_left
      · intro w hSw
        try dsimp only at hSw
        go_simp
        try with_reducible rfl
      simp only [Act.put, List.setIfInBounds_toArray, List.set_cons_zero, List.set_cons_succ]
      refine take_at (i := 3) (d := 14) (v := ?_) rfl rfl (by kernel_rfl) (by kernel_rfl) (by kernel_rfl) (fun _ _ _ h => h) (Or.inl ⟨by rfl, ?_⟩) (by assumption) ?_
      rotate_left
      · intro w hSw
        try dsimp only at hSw
        go_simp
        try with_reducible rfl
      simp only [Act.put, List.setIfInBounds_toArray, List.set_cons_zero, List.set_cons_succ]
      refine take_at (i := 4) (d := 15) (v := ?_) rfl rfl (by kernel_rfl) (by kernel_rfl) (by kernel_rfl) (fun _ _ _ h => h) (Or.inl ⟨by rfl, ?_⟩) (by assumption) ?_
      rotate_left
      · intro w hSw
        try dsimp only at hSw
        go_simp
        try with_reducible rfl
      simp only [Act.put, List.setIfInBounds_toArray, List.set_cons_zero, List.set_cons_succ]
      refine take_at (i := 5) (d := 16) (v := ?_) rfl rfl (by kernel_rfl) (by kernel_rfl) (by kernel_rfl) (fun _ _ _ h => h) (Or.inl ⟨by rfl, ?_⟩) (by assumption) ?_
      rotate_left
      · intro w hSw
        try dsimp only at hSw
        go_simp
        try with_reducible rfl
      simp only [Act.put, List.setIfInBounds_toArray, List.set_cons_zero, List.set_cons_succ]
      refine take_at (i := 6) (d := 17) (v := ?_) rfl rfl (by kernel_rfl) (by kernel_rfl) (by kernel_rfl) (fun _ _ _ h => h) (Or.inl ⟨by rfl, ?_⟩) (by assumption) ?_
      rotate_left
      · intro w hSw
        try dsimp only at hSw
        go_simp
        try with_reducible rfl
      simp only [Act.put, List.setIfInBounds_toArray, List.set_cons_zero, List.set_cons_succ]
      refine take_at (i := 7) (d := 18) (v := ?_) rfl rfl (by kernel_rfl) (by kernel_rfl) (by kernel_rfl) (fun _ _ _ h => h) (Or.inl ⟨by rfl, ?_⟩) (by assumption) ?_
      rotate_left
      · intro w hSw
        try dsimp only at hSw
        go_simp
        try with_reducible rfl
      simp only [Act.put, List.setIfInBounds_toArray, List.set_cons_zero, List.set_cons_succ]
      refine take_at (i := 8) (d := 19) (v := ?_) rfl rfl (by kernel_rfl) (by kernel_rfl) (by kernel_rfl) (fun _ _ _ h => h) (Or.inl ⟨by rfl, ?_⟩) (by assumption) ?_
      rotate_left
      · intro w hSw
        try dsimp only at hSw
        go_simp
        try with_reducible rfl
      simp only [Act.put, List.setIfInBounds_toArray, List.set_cons_zero, List.set_cons_succ]
      refine take_at (i := 9) (d := 20) (v := ?_) rfl rfl (by kernel_rfl) (by kernel_rfl) (by kernel_rfl) (fun _ _ _ h => h) (Or.inl ⟨by rfl, ?_⟩) (by assumption) ?_
      rotate_left
      · intro w hSw
        try dsimp only at hSw
        go_simp
        try with_reducible rfl
      simp only [Act.put, List.setIfInBounds_toArray, List.set_cons_zero, List.set_cons_succ]
      refine take_at (i := 10) (d := 21) (v := ?_) rfl rfl (by kernel_rfl) (by kernel_rfl) (by kernel_rfl) (fun _ _ _ h => h) (Or.inl ⟨by rfl, ?_⟩) (by assumption) ?_
      rotate_left
      · intro w hSw
        try dsimp only at hSw
        go_simp
        try with_reducible rfl
      simp only [Act.put, List.setIfInBounds_toArray, List.set_cons_zero, List.set_cons_succ]
      refine take_at (i := 11) (d := 22) (v := ?_) rfl rfl (by kernel_rfl) (by kernel_rfl) (by kernel_rfl) (fun _ _ _ h => h) (Or.inl ⟨by rfl, ?_⟩) (by assumption) ?_
      rotate_left
      · intro w hSw
        try dsimp only at hSw
        go_simp
        try with_reducible rfl
      simp only [Act.put, List.setIfInBounds_toArray, List.set_cons_zero, List.set_cons_succ]
      refine take_at (i := 12) (d := 23) (v := ?_) rfl rfl (by kernel_rfl) (by kernel_rfl) (by kernel_rfl) (fun _ _ _ h => h) (Or.inl ⟨by rfl, ?_⟩) (by assumption) ?_
      rotate_left
      · intro w hSw
        try dsimp only at hSw
        go_simp
        try with_reducible rfl
      simp only [Act.put, List.setIfInBounds_toArray, List.set_cons_zero, List.set_cons_succ]
      refine ready_at (i := 13) rfl (by kernel_rfl) (fun KK hKK => ?_)
      go_simp
      refine (unhide CT _).mono ?_
      rintro _ wa ⟨rfl, ba⟩
      have bB : Below wr.heap.size wr wa := bA.trans ba
      clear hHeld
      refine hKK.out _ _ (unhide K _ bB) (fun hHeld => ?_)
      clear hKK KK
      refine take_at (i := 14) (d := 25) (v := ?_) rfl rfl (by kernel_rfl) (by kernel_rfl) (by kernel_rfl) (fun _ _ _ h => h) (Or.inl ⟨by rfl, ?_⟩) (by assumption) ?_
      rotate_left
      · intro w hSw
        try dsimp only at hSw
        go_simp
        try with_reducible rfl
      simp only [Act.put, List.setIfInBounds_toArray, List.set_cons_zero, List.set_cons_succ]
      clear hHeld
      refine wpAnyH_done (by kernel_rfl) ?_ _
      refine NoPanic.normal ?_
      have LB := L.below bB L.lt
      have BB := br.trans (bB.mono br.size)
      by_cases hq : q < 0
      · have HS := hide (unhide HS ((unhide hcm).1 hq))
        have hq0 : ¬ 0 ≤ q := by omega
        clear hcm HN
        go_wp2
        go_roundw
        case rel => exact ⟨m + 1, by omega, by omega, by go_num, HS, LB, BB⟩
        case measure => simp [intOf]; omega
      · have hno : decide (Asc ts) = false := decide_eq_false (unhide HN (fun h => hq ((unhide hcm).2 h)))
        have hq0 : 0 ≤ q := by omega
        clear hcm HS HN
        go_wp2
        go_ret
        exact ⟨by first | rfl | (rw [hno]; rfl), BB⟩
    · have hyes : decide (Asc ts) = true := decide_eq_true fun j hj => unhide HA j (by have := unhide Hn; omega) (by have := unhide Hn; omega)
      clear HA
      go_wp2
      go_ret
      exact ⟨by first | rfl | (rw [hyes]; rfl), br⟩
end Go.Proofs.YthdehhenkgkkmaaDoor

/- PoolOk of the program and of the specification. -/
namespace Go.Proofs.YthdehhenkgkkmaaDoor
open Go.RowKit
set_option linter.unusedSectionVars false
variable [∀ (a b c d : Int), Decidable (Ok4 a b c d)]
variable [∀ (m a b c d : Int), Decidable (In4 m a b c d)]
variable [∀ (xs ys : List Int), Decidable (LOk xs ys)]
variable [∀ (x y : T4), Decidable (Bef x y)]
variable [∀ (ts : List T4), Decidable (Asc ts)]
variable [∀ (ts : List T4), Decidable (AllOk ts)]
variable [∀ (ts : List T4), Decidable (POk ts)]

set_option maxHeartbeats 1600000 in
set_option maxRecDepth 100000 in
theorem implPoolOk (v : Value) (ts : List T4) (w : World) (h : RT w v ts) :
    Calls Tryd.prog 16 #[v] w fun e w' => e = .returned (.bool (decide (POk ts))) ∧ Below w.heap.size w w' := by
  have CF := hide fun w h => contains_any v ts w h
  have AS := hide fun w h => ascends_any v ts w h
  have H := hide h
  have hl := h.1
  obtain ⟨ao, ca, rfl⟩ := h.form
  clear h
  by_cases h1 : ts.length ≤ 12
  · by_cases h2 : AllOk ts
    · rw [decide_eq_true h2] at CF
      have e : decide (POk ts) = decide (Asc ts) := by
        by_cases h3 : Asc ts
        · rw [decide_eq_true h3, decide_eq_true (show POk ts from ⟨h1, h2, h3⟩)]
        · rw [decide_eq_false h3, decide_eq_false (fun h : POk ts => h3 h.2.2)]
      rw [e]
      clear e h2
      go_enter Tryd.func16, Tryd.ntmps16
      go_wp2_with fail
      refine (unhide CF _ (unhide H)).mono ?_
      rintro _ w1 ⟨rfl, b1⟩
      go_wp2_with fail
      refine (waiting_any _ _ _ _).mono ?_
      rintro _ w2 ⟨rfl, b2⟩
      have B2 := b1.trans (b2.mono b1.size)
      go_wp2_with fail
      refine (unhide AS _ ((unhide H).below B2)).mono ?_
      rintro _ w3 ⟨rfl, b3⟩
      have B3 := B2.trans (b3.mono B2.size)
      go_wp2
      go_ret
      exact ⟨rfl, B3⟩
    · rw [decide_eq_false h2] at CF
      rw [decide_eq_false (fun h : POk ts => h2 h.2.1)]
      clear h2 AS
      go_enter Tryd.func16, Tryd.ntmps16
      go_wp2_with fail
      refine (unhide CF _ (unhide H)).mono ?_
      rintro _ w1 ⟨rfl, b1⟩
      go_wp2
      go_ret
      exact ⟨rfl, b1⟩
  · rw [decide_eq_false (fun h : POk ts => h1 h.1)]
    have h1 : decide ((ts.length : Int) ≤ 12) = false := by simp; omega
    clear CF AS
    go_enter Tryd.func16, Tryd.ntmps16
    go_wp2
    go_ret
    exact ⟨rfl, Below.refl _ _⟩

/-- What spec.PoolOk has looked at behind m rounds. -/
def OkTo (ts : List T4) (m : Nat) : Prop := ∀ j, j < m → Ok4 (ts.getD j z4).1 (ts.getD j z4).2.1 (ts.getD j z4).2.2.1 (ts.getD j z4).2.2.2 ∧ (∀ i, j = i + 1 → Bef (ts.getD i z4) (ts.getD j z4))
theorem OkTo.succ {ts : List T4} {m : Nat} (h : OkTo ts m) (h1 : Ok4 (ts.getD m z4).1 (ts.getD m z4).2.1 (ts.getD m z4).2.2.1 (ts.getD m z4).2.2.2) (h2 : ∀ i, m = i + 1 → Bef (ts.getD i z4) (ts.getD m z4)) : OkTo ts (m + 1) := fun j hj => by
  by_cases e : j = m
  · subst e; exact ⟨h1, h2⟩
  · exact h j (by omega)
theorem OkTo.all {ts : List T4} (h : OkTo ts ts.length) : AllOk ts ∧ Asc ts := ⟨fun k hk => (h k hk).1, fun k hk => (h (k + 1) (by omega)).2 k rfl⟩

set_option maxHeartbeats 8000000 in
set_option maxRecDepth 100000 in
theorem specPoolOk (v : Value) (ts : List T4) (w : World) (h : RT w v ts) :
    Calls Tryd.prog 17 #[v] w fun e w' => e = .returned (.bool (decide (POk ts))) ∧ Below w.heap.size w w' := by
  obtain ⟨ao, ca, rfl⟩ := h.form
  have hl := h.1
  have H := hide h
  obtain ⟨n, hn⟩ : ∃ n, ts.length = n := ⟨_, rfl⟩
  have Hn := hide hn
  rw [hn] at hl H ⊢
  clear h hn
  go_enter Tryd.func17, Tryd.ntmps17
  go_wp2
  go_loopw [3] (fun i wr => ∃ m : Nat, m ≤ n ∧ i = .int .i64 m ∧ Hid (OkTo ts m) ∧ Below w.heap.size w wr) (fun i _ => n - (intOf i).toNat)
  case atStart => exact ⟨0, Nat.zero_le _, rfl, hide (fun j hj => absurd hj (Nat.not_lt_zero j)), Below.refl _ _⟩
  case round =>
    obtain ⟨m, hm, rfl, HA, br⟩ := hrel
    by_cases hlt : m < n
    · obtain ⟨g, rfl, hy⟩ := (unhide H).at m (by rw [unhide Hn]; exact hlt)
      have CY := hide (hy.below br (Nat.le_refl _))
      have TO := hide fun w => specTxOk (ts.getD m z4).1 (ts.getD m z4).2.1 (ts.getD m z4).2.2.1 (ts.getD m z4).2.2.2 w
      have bA : Below wr.heap.size wr wr.drew := Below.drew (Below.refl _ _)
      by_cases ho : Ok4 (ts.getD m z4).1 (ts.getD m z4).2.1 (ts.getD m z4).2.2.1 (ts.getD m z4).2.2.2
      · rw [decide_eq_true ho] at TO
        by_cases h0 : m = 0
        · have HS := hide ((unhide HA).succ ho (fun i hi => by omega))
          subst h0
          clear ho HA hy
          generalize ts.getD 0 z4 = y at *
          obtain ⟨ya, yb, yc, yd⟩ := y
          dsimp only at TO
          have K : Hid (∀ w', Below wr.heap.size wr w' → (w'.cell? ⟨g, 0 * 4, none⟩ = some (.int .i64 ya) ∧ w'.cell? ⟨g, 0 * 4 + 1, none⟩ = some (.int .i64 yb) ∧ w'.cell? ⟨g, 0 * 4 + 2, none⟩ = some (.int .i64 yc) ∧ w'.cell? ⟨g, 0 * 4 + 3, none⟩ = some (.int .i64 yd))) := hide fun w' hb => (unhide CY).below hb (Nat.le_refl _)
          clear CY
          go_wp2_with fail
          refine wp_region_noPanic ?_
          refine wp_region_held_drew (S := (fun w' => (w'.cell? ⟨g, 0 * 4, none⟩ = some (.int .i64 ya) ∧ w'.cell? ⟨g, 0 * 4 + 1, none⟩ = some (.int .i64 yb) ∧ w'.cell? ⟨g, 0 * 4 + 2, none⟩ = some (.int .i64 yc) ∧ w'.cell? ⟨g, 0 * 4 + 3, none⟩ = some (.int .i64 yd)))) (by kernel_rfl) (unhide K _ bA) (fun hHeld => ?_)
          refine take_at (i := 0) (d := 10) (v := ?_) rfl rfl (by kernel_rfl) (by kernel_rfl) (by kernel_rfl) (fun _ _ _ h => h) (Or.inl ⟨by rfl, ?_⟩) (by assumption) ?_
          rotate_left
          · intro w hSw
            try dsimp only at hSw
            go_simp
            try with_reducible rfl
          simp only [Act.put, List.setIfInBounds_toArray, List.set_cons_zero, List.set_cons_succ]
          refine take_at (i := 1) (d := 11) (v := ?_) rfl rfl (by kernel_rfl) (by kernel_rfl) (by kernel_rfl) (fun _ _ _ h => h) (Or.inl ⟨by rfl, ?_⟩) (by assumption) ?_
          rotate_left
          · intro w hSw
            try dsimp only at hSw
            go_simp
            try with_reducible rfl
          simp only [Act.put, List.setIfInBounds_toArray, List.set_cons_zero, List.set_cons_succ]
          refine take_at (i := 2) (d := 12) (v := ?_) rfl rfl (by kernel_rfl) (by kernel_rfl) (by kernel_rfl) (fun _ _ _ h => h) (Or.inl ⟨by rfl, ?_⟩) (by assumption) ?_
          rotate_left
          · intro w hSw
            try dsimp only at hSw
            go_simp
            try with_reducible rfl
          simp only [Act.put, List.setIfInBounds_toArray, List.set_cons_zero, List.set_cons_succ]
          refine take_at (i := 3) (d := 13) (v := ?_) rfl rfl (by kernel_rfl) (by kernel_rfl) (by kernel_rfl) (fun _ _ _ h => h) (Or.inl ⟨by rfl, ?_⟩) (by assumption) ?_
          rotate_left
          · intro w hSw
            try dsimp only at hSw
            go_simp
            try with_reducible rfl
          simp only [Act.put, List.setIfInBounds_toArray, List.set_cons_zero, List.set_cons_succ]
          refine ready_at (i := 4) rfl (by kernel_rfl) (fun KK hKK => ?_)
          go_simp
          refine (unhide TO _).mono ?_
          rintro _ wa ⟨rfl, ba⟩
          have bB : Below wr.heap.size wr wa := bA.trans ba
          clear hHeld
          refine hKK.out _ _ (unhide K _ bB) (fun hHeld => ?_)
          clear hKK KK
          refine take_at (i := 5) (d := 15) (v := ?_) rfl rfl (by kernel_rfl) (by kernel_rfl) (by kernel_rfl) (fun _ _ _ h => h) (Or.inl ⟨by rfl, ?_⟩) (by assumption) ?_
          rotate_left
          · intro w hSw
            try dsimp only at hSw
            go_simp
            try with_reducible rfl
          simp only [Act.put, List.setIfInBounds_toArray, List.set_cons_zero, List.set_cons_succ]
          refine take_at (i := 6) (d := 16) (v := ?_) rfl rfl (by kernel_rfl) (by kernel_rfl) (by kernel_rfl) (fun _ _ _ h => h) (Or.inl ⟨by rfl, ?_⟩) (by assumption) ?_
          rotate_left
          · intro w hSw
            try dsimp only at hSw
            go_simp
            try with_reducible rfl
          simp only [Act.put, List.setIfInBounds_toArray, List.set_cons_zero, List.set_cons_succ]
          refine take_at (i := 7) (d := 17) (v := ?_) rfl rfl (by kernel_rfl) (by kernel_rfl) (by kernel_rfl) (fun _ _ _ h => h) (Or.inl ⟨by rfl, ?_⟩) (by assumption) ?_
          rotate_left
          · intro w hSw
            try dsimp only at hSw
            go_simp
            try with_reducible rfl
          simp only [Act.put, List.setIfInBounds_toArray, List.set_cons_zero, List.set_cons_succ]
          refine take_at (i := 8) (d := 18) (v := ?_) rfl rfl (by kernel_rfl) (by kernel_rfl) (by kernel_rfl) (fun _ _ _ h => h) (Or.inl ⟨by rfl, ?_⟩) (by assumption) ?_
          rotate_left
          · intro w hSw
            try dsimp only at hSw
            go_simp
            try with_reducible rfl
          simp only [Act.put, List.setIfInBounds_toArray, List.set_cons_zero, List.set_cons_succ]
          refine take_at (i := 9) (d := 19) (v := ?_) rfl rfl (by kernel_rfl) (by kernel_rfl) (by kernel_rfl) (fun _ _ _ h => h) (Or.inl ⟨by rfl, ?_⟩) (by assumption) ?_
          rotate_left
          · intro w hSw
            try dsimp only at hSw
            go_simp
            try with_reducible rfl
          simp only [Act.put, List.setIfInBounds_toArray, List.set_cons_zero, List.set_cons_succ]
          refine take_at (i := 10) (d := 20) (v := undef) rfl rfl (by kernel_rfl) (by kernel_rfl) (by kernel_rfl) (fun _ _ _ h => h) (Or.inr ⟨by rfl, rfl⟩) (by assumption) ?_
          simp only [Act.put, List.setIfInBounds_toArray, List.set_cons_zero, List.set_cons_succ]
          refine take_at (i := 11) (d := 21) (v := undef) rfl rfl (by kernel_rfl) (by kernel_rfl) (by kernel_rfl) (fun _ _ _ h => h) (Or.inr ⟨by rfl, rfl⟩) (by assumption) ?_
          simp only [Act.put, List.setIfInBounds_toArray, List.set_cons_zero, List.set_cons_succ]
          refine take_at (i := 12) (d := 22) (v := undef) rfl rfl (by kernel_rfl) (by kernel_rfl) (by kernel_rfl) (fun _ _ _ h => h) (Or.inr ⟨by rfl, rfl⟩) (by assumption) ?_
          simp only [Act.put, List.setIfInBounds_toArray, List.set_cons_zero, List.set_cons_succ]
          refine take_at (i := 13) (d := 23) (v := undef) rfl rfl (by kernel_rfl) (by kernel_rfl) (by kernel_rfl) (fun _ _ _ h => h) (Or.inr ⟨by rfl, rfl⟩) (by assumption) ?_
          simp only [Act.put, List.setIfInBounds_toArray, List.set_cons_zero, List.set_cons_succ]
          refine take_at (i := 14) (d := 24) (v := undef) rfl rfl (by kernel_rfl) (by kernel_rfl) (by kernel_rfl) (fun _ _ _ h => h) (Or.inr ⟨by rfl, rfl⟩) (by assumption) ?_
          simp only [Act.put, List.setIfInBounds_toArray, List.set_cons_zero, List.set_cons_succ]
          refine take_at (i := 15) (d := 25) (v := undef) rfl rfl (by kernel_rfl) (by kernel_rfl) (by kernel_rfl) (fun _ _ _ h => h) (Or.inr ⟨by rfl, rfl⟩) (by assumption) ?_
          simp only [Act.put, List.setIfInBounds_toArray, List.set_cons_zero, List.set_cons_succ]
          refine take_at (i := 16) (d := 26) (v := undef) rfl rfl (by kernel_rfl) (by kernel_rfl) (by kernel_rfl) (fun _ _ _ h => h) (Or.inr ⟨by rfl, rfl⟩) (by assumption) ?_
          simp only [Act.put, List.setIfInBounds_toArray, List.set_cons_zero, List.set_cons_succ]
          refine take_at (i := 17) (d := 27) (v := undef) rfl rfl (by kernel_rfl) (by kernel_rfl) (by kernel_rfl) (fun _ _ _ h => h) (Or.inr ⟨by rfl, rfl⟩) (by assumption) ?_
          simp only [Act.put, List.setIfInBounds_toArray, List.set_cons_zero, List.set_cons_succ]
          refine take_at (i := 18) (d := 28) (v := undef) rfl rfl (by kernel_rfl) (by kernel_rfl) (by kernel_rfl) (fun _ _ _ h => h) (Or.inr ⟨by rfl, rfl⟩) (by assumption) ?_
          simp only [Act.put, List.setIfInBounds_toArray, List.set_cons_zero, List.set_cons_succ]
          refine take_at (i := 19) (d := 29) (v := undef) rfl rfl (by kernel_rfl) (by kernel_rfl) (by kernel_rfl) (fun _ _ _ h => h) (Or.inr ⟨by rfl, rfl⟩) (by assumption) ?_
          simp only [Act.put, List.setIfInBounds_toArray, List.set_cons_zero, List.set_cons_succ]
          refine take_at (i := 20) (d := 30) (v := undef) rfl rfl (by kernel_rfl) (by kernel_rfl) (by kernel_rfl) (fun _ _ _ h => h) (Or.inr ⟨by rfl, rfl⟩) (by assumption) ?_
          simp only [Act.put, List.setIfInBounds_toArray, List.set_cons_zero, List.set_cons_succ]
          refine take_at (i := 21) (d := 31) (v := ?_) rfl rfl (by kernel_rfl) (by kernel_rfl) (by kernel_rfl) (fun _ _ _ h => h) (Or.inl ⟨by rfl, ?_⟩) (by assumption) ?_
          rotate_left
          · intro w hSw
            try dsimp only at hSw
            go_simp
            try with_reducible rfl
          simp only [Act.put, List.setIfInBounds_toArray, List.set_cons_zero, List.set_cons_succ]
          refine take_at (i := 22) (d := 32) (v := ?_) rfl rfl (by kernel_rfl) (by kernel_rfl) (by kernel_rfl) (fun _ _ _ h => h) (Or.inl ⟨by rfl, ?_⟩) (by assumption) ?_
          rotate_left
          · intro w hSw
            try dsimp only at hSw
            go_simp
            try with_reducible rfl
          simp only [Act.put, List.setIfInBounds_toArray, List.set_cons_zero, List.set_cons_succ]
          clear hHeld
          refine wpAnyH_done (by kernel_rfl) ?_ _
          refine NoPanic.normal ?_
          have BB := br.trans (bB.mono br.size)
          go_wp2
          go_roundw
          case rel => exact ⟨1, by omega, by go_num, HS, BB⟩
          case measure => simp [intOf]; omega
        · obtain ⟨k, hk⟩ : ∃ k, m = k + 1 := ⟨m - 1, by omega⟩
          have hk1 : (m : Int) - 1 = (k : Int) := by omega
          have hwk : IntKind.i64.wrap (k : Int) = (k : Int) := by rw [IntKind.wrap_i64]; omega
          have hkn : k < n := by omega
          have hm0 : 0 < m := by omega
          have hmd : decide ((0 : Int) < (m : Int)) = true := by simp; omega
          obtain ⟨g', e, hx⟩ := (unhide H).at k (by rw [unhide Hn]; exact hkn)
          cases e
          have CX := hide (hx.below br (Nat.le_refl _))
          have BF := hide fun w => before_any (ts.getD k z4) (ts.getD m z4) w
          have HS := hide fun (hb : Bef (ts.getD k z4) (ts.getD m z4)) => (unhide HA).succ ho (fun i hi => by rw [show i = k from by omega]; exact hb)
          have HN : Hid (¬ Bef (ts.getD k z4) (ts.getD m z4) → ¬ POk ts) := hide fun h ha => h (by have := ha.2.2 k (by rw [unhide Hn]; omega); rwa [← hk] at this)
          replace hk := hide hk
          clear ho HA hy hx h0
          by_cases hb : Bef (ts.getD k z4) (ts.getD m z4)
          · rw [decide_eq_true hb] at BF
            replace HS := hide (unhide HS hb)
            clear HN hb
            generalize ts.getD m z4 = y at *
            generalize ts.getD k z4 = x at *
            obtain ⟨ya, yb, yc, yd⟩ := y
            obtain ⟨xa, xb, xc, xd⟩ := x
            dsimp only at TO BF
            have K : Hid (∀ w', Below wr.heap.size wr w' → (w'.cell? ⟨g, k * 4, none⟩ = some (.int .i64 xa) ∧ w'.cell? ⟨g, k * 4 + 1, none⟩ = some (.int .i64 xb) ∧ w'.cell? ⟨g, k * 4 + 2, none⟩ = some (.int .i64 xc) ∧ w'.cell? ⟨g, k * 4 + 3, none⟩ = some (.int .i64 xd)) ∧ (w'.cell? ⟨g, m * 4, none⟩ = some (.int .i64 ya) ∧ w'.cell? ⟨g, m * 4 + 1, none⟩ = some (.int .i64 yb) ∧ w'.cell? ⟨g, m * 4 + 2, none⟩ = some (.int .i64 yc) ∧ w'.cell? ⟨g, m * 4 + 3, none⟩ = some (.int .i64 yd))) := hide fun w' hb => ⟨(unhide CX).below hb (Nat.le_refl _), (unhide CY).below hb (Nat.le_refl _)⟩
            clear CX CY
            go_wp2_with fail
            refine wp_region_noPanic ?_
            refine wp_region_held_drew (S := (fun w' => (w'.cell? ⟨g, k * 4, none⟩ = some (.int .i64 xa) ∧ w'.cell? ⟨g, k * 4 + 1, none⟩ = some (.int .i64 xb) ∧ w'.cell? ⟨g, k * 4 + 2, none⟩ = some (.int .i64 xc) ∧ w'.cell? ⟨g, k * 4 + 3, none⟩ = some (.int .i64 xd)) ∧ (w'.cell? ⟨g, m * 4, none⟩ = some (.int .i64 ya) ∧ w'.cell? ⟨g, m * 4 + 1, none⟩ = some (.int .i64 yb) ∧ w'.cell? ⟨g, m * 4 + 2, none⟩ = some (.int .i64 yc) ∧ w'.cell? ⟨g, m * 4 + 3, none⟩ = some (.int .i64 yd)))) (by kernel_rfl) (unhide K _ bA) (fun hHeld => ?_)
            refine take_at (i := 0) (d := 10) (v := ?_) rfl rfl (by kernel_rfl) (by kernel_rfl) (by kernel_rfl) (fun _ _ _ h => h) (Or.inl ⟨by rfl, ?_⟩) (by assumption) ?_
            rotate_left
            · intro w hSw
              try dsimp only at hSw
              go_simp
              try with_reducible rfl
            simp only [Act.put, List.setIfInBounds_toArray, List.set_cons_zero, List.set_cons_succ]
            refine take_at (i := 1) (d := 11) (v := ?_) rfl rfl (by kernel_rfl) (by kernel_rfl) (by kernel_rfl) (fun _ _ _ h => h) (Or.inl ⟨by rfl, ?_⟩) (by assumption) ?_
            rotate_left
            · intro w hSw
              try dsimp only at hSw
              go_simp
              try with_reducible rfl
            simp only [Act.put, List.setIfInBounds_toArray, List.set_cons_zero, List.set_cons_succ]
            refine take_at (i := 2) (d := 12) (v := ?_) rfl rfl (by kernel_rfl) (by kernel_rfl) (by kernel_rfl) (fun _ _ _ h => h) (Or.inl ⟨by rfl, ?_⟩) (by assumption) ?_
            rotate_left
            · intro w hSw
              try dsimp only at hSw
              go_simp
              try with_reducible rfl
            simp only [Act.put, List.setIfInBounds_toArray, List.set_cons_zero, List.set_cons_succ]
            refine take_at (i := 3) (d := 13) (v := ?_) rfl rfl (by kernel_rfl) (by kernel_rfl) (by kernel_rfl) (fun _ _ _ h => h) (Or.inl ⟨by rfl, ?_⟩) (by assumption) ?_
            rotate_left
            · intro w hSw
              try dsimp only at hSw
              go_simp
              try with_reducible rfl
            simp only [Act.put, List.setIfInBounds_toArray, List.set_cons_zero, List.set_cons_succ]
            refine ready_at (i := 4) rfl (by kernel_rfl) (fun KK hKK => ?_)
            go_simp
            refine (unhide TO _).mono ?_
            rintro _ wa ⟨rfl, ba⟩
            have bB : Below wr.heap.size wr wa := bA.trans ba
            clear hHeld
            refine hKK.out _ _ (unhide K _ bB) (fun hHeld => ?_)
            clear hKK KK
            refine take_at (i := 5) (d := 15) (v := ?_) rfl rfl (by kernel_rfl) (by kernel_rfl) (by kernel_rfl) (fun _ _ _ h => h) (Or.inl ⟨by rfl, ?_⟩) (by assumption) ?_
            rotate_left
            · intro w hSw
              try dsimp only at hSw
              go_simp
              try with_reducible rfl
            simp only [Act.put, List.setIfInBounds_toArray, List.set_cons_zero, List.set_cons_succ]
            refine take_at (i := 6) (d := 16) (v := ?_) rfl rfl (by kernel_rfl) (by kernel_rfl) (by kernel_rfl) (fun _ _ _ h => h) (Or.inl ⟨by rfl, ?_⟩) (by assumption) ?_
            rotate_left
            · intro w hSw
              try dsimp only at hSw
              go_simp
              try with_reducible rfl
            simp only [Act.put, List.setIfInBounds_toArray, List.set_cons_zero, List.set_cons_succ]
            refine take_at (i := 7) (d := 17) (v := ?_) rfl rfl (by kernel_rfl) (by kernel_rfl) (by kernel_rfl) (fun _ _ _ h => h) (Or.inl ⟨by rfl, ?_⟩) (by assumption) ?_
            rotate_left
            · intro w hSw
              try dsimp only at hSw
              go_simp
              try with_reducible rfl
            simp only [Act.put, List.setIfInBounds_toArray, List.set_cons_zero, List.set_cons_succ]
            refine take_at (i := 8) (d := 18) (v := ?_) rfl rfl (by kernel_rfl) (by kernel_rfl) (by kernel_rfl) (fun _ _ _ h => h) (Or.inl ⟨by rfl, ?_⟩) (by assumption) ?_
            rotate_left
            · intro w hSw
              try dsimp only at hSw
              go_simp
              try with_reducible rfl
            simp only [Act.put, List.setIfInBounds_toArray, List.set_cons_zero, List.set_cons_succ]
            refine take_at (i := 9) (d := 19) (v := ?_) rfl rfl (by kernel_rfl) (by kernel_rfl) (by kernel_rfl) (fun _ _ _ h => h) (Or.inl ⟨by rfl, ?_⟩) (by assumption) ?_
            rotate_left
            · intro w hSw
              try dsimp only at hSw
              go_simp
              try with_reducible rfl
            simp only [Act.put, List.setIfInBounds_toArray, List.set_cons_zero, List.set_cons_succ]
            refine take_at (i := 10) (d := 20) (v := ?_) rfl rfl (by kernel_rfl) (by kernel_rfl) (by kernel_rfl) (fun _ _ _ h => h) (Or.inl ⟨by rfl, ?_⟩) (by assumption) ?_
            rotate_left
            · intro w hSw
              try dsimp only at hSw
              go_simp
              try with_reducible rfl
            simp only [Act.put, List.setIfInBounds_toArray, List.set_cons_zero, List.set_cons_succ]
            refine take_at (i := 11) (d := 21) (v := ?_) rfl rfl (by kernel_rfl) (by kernel_rfl) (by kernel_rfl) (fun _ _ _ h => h) (Or.inl ⟨by rfl, ?_⟩) (by assumption) ?_
            rotate_left
            · intro w hSw
              try dsimp only at hSw
              go_simp
              try with_reducible rfl
            simp only [Act.put, List.setIfInBounds_toArray, List.set_cons_zero, List.set_cons_succ]
            refine take_at (i := 12) (d := 22) (v := ?_) rfl rfl (by kernel_rfl) (by kernel_rfl) (by kernel_rfl) (fun _ _ _ h => h) (Or.inl ⟨by rfl, ?_⟩) (by assumption) ?_
            rotate_left
            · intro w hSw
              try dsimp only at hSw
              go_simp
              try with_reducible rfl
            simp only [Act.put, List.setIfInBounds_toArray, List.set_cons_zero, List.set_cons_succ]
            refine take_at (i := 13) (d := 23) (v := ?_) rfl rfl (by kernel_rfl) (by kernel_rfl) (by kernel_rfl) (fun _ _ _ h => h) (Or.inl ⟨by rfl, ?_⟩) (by assumption) ?_
            rotate_left
            · intro w hSw
              try dsimp only at hSw
              go_simp
              try with_reducible rfl
            simp only [Act.put, List.setIfInBounds_toArray, List.set_cons_zero, List.set_cons_succ]
            refine take_at (i := 14) (d := 24) (v := ?_) rfl rfl (by kernel_rfl) (by kernel_rfl) (by kernel_rfl) (fun _ _ _ h => h) (Or.inl ⟨by rfl, ?_⟩) (by assumption) ?_
            rotate_left
            · intro w hSw
              try dsimp only at hSw
              go_simp
              try with_reducible rfl
            simp only [Act.put, List.setIfInBounds_toArray, List.set_cons_zero, List.set_cons_succ]
            refine take_at (i := 15) (d := 25) (v := ?_) rfl rfl (by kernel_rfl) (by kernel_rfl) (by kernel_rfl) (fun _ _ _ h => h) (Or.inl ⟨by rfl, ?_⟩) (by assumption) ?_
            rotate_left
            · intro w hSw
              try dsimp only at hSw
              go_simp
              try with_reducible rfl
            simp only [Act.put, List.setIfInBounds_toArray, List.set_cons_zero, List.set_cons_succ]
            refine take_at (i := 16) (d := 26) (v := ?_) rfl rfl (by kernel_rfl) (by kernel_rfl) (by kernel_rfl) (fun _ _ _ h => h) (Or.inl ⟨by rfl, ?_⟩) (by assumption) ?_
            rotate_left
            · intro w hSw
              try dsimp only at hSw
              go_simp
              try with_reducible rfl
            simp only [Act.put, List.setIfInBounds_toArray, List.set_cons_zero, List.set_cons_succ]
            refine take_at (i := 17) (d := 27) (v := ?_) rfl rfl (by kernel_rfl) (by kernel_rfl) (by kernel_rfl) (fun _ _ _ h => h) (Or.inl ⟨by rfl, ?_⟩) (by assumption) ?_
            rotate_left
            · intro w hSw
              try dsimp only at hSw
              go_simp
              try with_reducible rfl
            simp only [Act.put, List.setIfInBounds_toArray, List.set_cons_zero, List.set_cons_succ]
            refine take_at (i := 18) (d := 28) (v := ?_) rfl rfl (by kernel_rfl) (by kernel_rfl) (by kernel_rfl) (fun _ _ _ h => h) (Or.inl ⟨by rfl, ?_⟩) (by assumption) ?_
            rotate_left
            · intro w hSw
              try dsimp only at hSw
              go_simp
              try with_reducible rfl
            simp only [Act.put, List.setIfInBounds_toArray, List.set_cons_zero, List.set_cons_succ]
            refine ready_at (i := 19) rfl (by kernel_rfl) (fun KK hKK => ?_)
            go_simp
            refine (unhide BF _).mono ?_
            rintro _ wb ⟨rfl, bb⟩
            have bC : Below wr.heap.size wr wb := bB.trans (bb.mono bB.size)
            clear hHeld
            refine hKK.out _ _ (unhide K _ bC) (fun hHeld => ?_)
            clear hKK KK
            refine take_at (i := 20) (d := 30) (v := ?_) rfl rfl (by kernel_rfl) (by kernel_rfl) (by kernel_rfl) (fun _ _ _ h => h) (Or.inl ⟨by rfl, ?_⟩) (by assumption) ?_
            rotate_left
            · intro w hSw
              try dsimp only at hSw
              go_simp
              try with_reducible rfl
            simp only [Act.put, List.setIfInBounds_toArray, List.set_cons_zero, List.set_cons_succ]
            refine take_at (i := 21) (d := 31) (v := ?_) rfl rfl (by kernel_rfl) (by kernel_rfl) (by kernel_rfl) (fun _ _ _ h => h) (Or.inl ⟨by rfl, ?_⟩) (by assumption) ?_
            rotate_left
            · intro w hSw
              try dsimp only at hSw
              go_simp
              try with_reducible rfl
            simp only [Act.put, List.setIfInBounds_toArray, List.set_cons_zero, List.set_cons_succ]
            refine take_at (i := 22) (d := 32) (v := ?_) rfl rfl (by kernel_rfl) (by kernel_rfl) (by kernel_rfl) (fun _ _ _ h => h) (Or.inl ⟨by rfl, ?_⟩) (by assumption) ?_
            rotate_left
            · intro w hSw
              try dsimp only at hSw
              go_simp
              try with_reducible rfl
            simp only [Act.put, List.setIfInBounds_toArray, List.set_cons_zero, List.set_cons_succ]
            clear hHeld
            refine wpAnyH_done (by kernel_rfl) ?_ _
            refine NoPanic.normal ?_
            have BB := br.trans (bC.mono br.size)
            go_wp2
            go_roundw
            case rel => exact ⟨m + 1, by omega, by go_num, HS, BB⟩
            case measure => simp [intOf]; omega
          · rw [decide_eq_false hb] at BF
            have hno := decide_eq_false (unhide HN hb)
            clear HN hb HS
            generalize ts.getD m z4 = y at *
            generalize ts.getD k z4 = x at *
            obtain ⟨ya, yb, yc, yd⟩ := y
            obtain ⟨xa, xb, xc, xd⟩ := x
            dsimp only at TO BF
            have K : Hid (∀ w', Below wr.heap.size wr w' → (w'.cell? ⟨g, k * 4, none⟩ = some (.int .i64 xa) ∧ w'.cell? ⟨g, k * 4 + 1, none⟩ = some (.int .i64 xb) ∧ w'.cell? ⟨g, k * 4 + 2, none⟩ = some (.int .i64 xc) ∧ w'.cell? ⟨g, k * 4 + 3, none⟩ = some (.int .i64 xd)) ∧ (w'.cell? ⟨g, m * 4, none⟩ = some (.int .i64 ya) ∧ w'.cell? ⟨g, m * 4 + 1, none⟩ = some (.int .i64 yb) ∧ w'.cell? ⟨g, m * 4 + 2, none⟩ = some (.int .i64 yc) ∧ w'.cell? ⟨g, m * 4 + 3, none⟩ = some (.int .i64 yd))) := hide fun w' hb => ⟨(unhide CX).below hb (Nat.le_refl _), (unhide CY).below hb (Nat.le_refl _)⟩
            clear CX CY
            go_wp2_with fail
            refine wp_region_noPanic ?_
            refine wp_region_held_drew (S := (fun w' => (w'.cell? ⟨g, k * 4, none⟩ = some (.int .i64 xa) ∧ w'.cell? ⟨g, k * 4 + 1, none⟩ = some (.int .i64 xb) ∧ w'.cell? ⟨g, k * 4 + 2, none⟩ = some (.int .i64 xc) ∧ w'.cell? ⟨g, k * 4 + 3, none⟩ = some (.int .i64 xd)) ∧ (w'.cell? ⟨g, m * 4, none⟩ = some (.int .i64 ya) ∧ w'.cell? ⟨g, m * 4 + 1, none⟩ = some (.int .i64 yb) ∧ w'.cell? ⟨g, m * 4 + 2, none⟩ = some (.int .i64 yc) ∧ w'.cell? ⟨g, m * 4 + 3, none⟩ = some (.int .i64 yd)))) (by kernel_rfl) (unhide K _ bA) (fun hHeld => ?_)
            refine take_at (i := 0) (d := 10) (v := ?_) rfl rfl (by kernel_rfl) (by kernel_rfl) (by kernel_rfl) (fun _ _ _ h => h) (Or.inl ⟨by rfl, ?_⟩) (by assumption) ?_
            rotate_left
            · intro w hSw
              try dsimp only at hSw
              go_simp
              try with_reducible rfl
            simp only [Act.put, List.setIfInBounds_toArray, List.set_cons_zero, List.set_cons_succ]
            refine take_at (i := 1) (d := 11) (v := ?_) rfl rfl (by kernel_rfl) (by kernel_rfl) (by kernel_rfl) (fun _ _ _ h => h) (Or.inl ⟨by rfl, ?_⟩) (by assumption) ?_
            rotate_left
            · intro w hSw
              try dsimp only at hSw
              go_simp
              try with_reducible rfl
            simp only [Act.put, List.setIfInBounds_toArray, List.set_cons_zero, List.set_cons_succ]
            refine take_at (i := 2) (d := 12) (v := ?_) rfl rfl (by kernel_rfl) (by kernel_rfl) (by kernel_rfl) (fun _ _ _ h => h) (Or.inl ⟨by rfl, ?_⟩) (by assumption) ?_
            rotate_left
            · intro w hSw
              try dsimp only at hSw
              go_simp
              try with_reducible rfl
            simp only [Act.put, List.setIfInBounds_toArray, List.set_cons_zero, List.set_cons_succ]
            refine take_at (i := 3) (d := 13) (v := ?_) rfl rfl (by kernel_rfl) (by kernel_rfl) (by kernel_rfl) (fun _ _ _ h => h) (Or.inl ⟨by rfl, ?_⟩) (by assumption) ?_
            rotate_left
            · intro w hSw
              try dsimp only at hSw
              go_simp
              try with_reducible rfl
            simp only [Act.put, List.setIfInBounds_toArray, List.set_cons_zero, List.set_cons_succ]
            refine ready_at (i := 4) rfl (by kernel_rfl) (fun KK hKK => ?_)
            go_simp
            refine (unhide TO _).mono ?_
            rintro _ wa ⟨rfl, ba⟩
            have bB : Below wr.heap.size wr wa := bA.trans ba
            clear hHeld
            refine hKK.out _ _ (unhide K _ bB) (fun hHeld => ?_)
            clear hKK KK
            refine take_at (i := 5) (d := 15) (v := ?_) rfl rfl (by kernel_rfl) (by kernel_rfl) (by kernel_rfl) (fun _ _ _ h => h) (Or.inl ⟨by rfl, ?_⟩) (by assumption) ?_
            rotate_left
            · intro w hSw
              try dsimp only at hSw
              go_simp
              try with_reducible rfl
            simp only [Act.put, List.setIfInBounds_toArray, List.set_cons_zero, List.set_cons_succ]
            refine take_at (i := 6) (d := 16) (v := ?_) rfl rfl (by kernel_rfl) (by kernel_rfl) (by kernel_rfl) (fun _ _ _ h => h) (Or.inl ⟨by rfl, ?_⟩) (by assumption) ?_
            rotate_left
            · intro w hSw
              try dsimp only at hSw
              go_simp
              try with_reducible rfl
            simp only [Act.put, List.setIfInBounds_toArray, List.set_cons_zero, List.set_cons_succ]
            refine take_at (i := 7) (d := 17) (v := ?_) rfl rfl (by kernel_rfl) (by kernel_rfl) (by kernel_rfl) (fun _ _ _ h => h) (Or.inl ⟨by rfl, ?_⟩) (by assumption) ?_
            rotate_left
            · intro w hSw
              try dsimp only at hSw
              go_simp
              try with_reducible rfl
            simp only [Act.put, List.setIfInBounds_toArray, List.set_cons_zero, List.set_cons_succ]
            refine take_at (i := 8) (d := 18) (v := ?_) rfl rfl (by kernel_rfl) (by kernel_rfl) (by kernel_rfl) (fun _ _ _ h => h) (Or.inl ⟨by rfl, ?_⟩) (by assumption) ?_
            rotate_left
            · intro w hSw
              try dsimp only at hSw
              go_simp
              try with_reducible rfl
            simp only [Act.put, List.setIfInBounds_toArray, List.set_cons_zero, List.set_cons_succ]
            refine take_at (i := 9) (d := 19) (v := ?_) rfl rfl (by kernel_rfl) (by kernel_rfl) (by kernel_rfl) (fun _ _ _ h => h) (Or.inl ⟨by rfl, ?_⟩) (by assumption) ?_
            rotate_left
            · intro w hSw
              try dsimp only at hSw
              go_simp
              try with_reducible rfl
            simp only [Act.put, List.setIfInBounds_toArray, List.set_cons_zero, List.set_cons_succ]
            refine take_at (i := 10) (d := 20) (v := ?_) rfl rfl (by kernel_rfl) (by kernel_rfl) (by kernel_rfl) (fun _ _ _ h => h) (Or.inl ⟨by rfl, ?_⟩) (by assumption) ?_
            rotate_left
            · intro w hSw
              try dsimp only at hSw
              go_simp
              try with_reducible rfl
            simp only [Act.put, List.setIfInBounds_toArray, List.set_cons_zero, List.set_cons_succ]
            refine take_at (i := 11) (d := 21) (v := ?_) rfl rfl (by kernel_rfl) (by kernel_rfl) (by kernel_rfl) (fun _ _ _ h => h) (Or.inl ⟨by rfl, ?_⟩) (by assumption) ?_
            rotate_left
            · intro w hSw
              try dsimp only at hSw
              go_simp
              try with_reducible rfl
            simp only [Act.put, List.setIfInBounds_toArray, List.set_cons_zero, List.set_cons_succ]
            refine take_at (i := 12) (d := 22) (v := ?_) rfl rfl (by kernel_rfl) (by kernel_rfl) (by kernel_rfl) (fun _ _ _ h => h) (Or.inl ⟨by rfl, ?_⟩) (by assumption) ?_
            rotate_left
            · intro w hSw
              try dsimp only at hSw
              go_simp
              try with_reducible rfl
            simp only [Act.put, List.setIfInBounds_toArray, List.set_cons_zero, List.set_cons_succ]
            refine take_at (i := 13) (d := 23) (v := ?_) rfl rfl (by kernel_rfl) (by kernel_rfl) (by kernel_rfl) (fun _ _ _ h => h) (Or.inl ⟨by rfl, ?_⟩) (by assumption) ?_
            rotate_left
            · intro w hSw
              try dsimp only at hSw
              go_simp
              try with_reducible rfl
            simp only [Act.put, List.setIfInBounds_toArray, List.set_cons_zero, List.set_cons_succ]
            refine take_at (i := 14) (d := 24) (v := ?_) rfl rfl (by kernel_rfl) (by kernel_rfl) (by kernel_rfl) (fun _ _ _ h => h) (Or.inl ⟨by rfl, ?_⟩) (by assumption) ?_
            rotate_left
            · intro w hSw
              try dsimp only at hSw
              go_simp
              try with_reducible rfl
            simp only [Act.put, List.setIfInBounds_toArray, List.set_cons_zero, List.set_cons_succ]
            refine take_at (i := 15) (d := 25) (v := ?_) rfl rfl (by kernel_rfl) (by kernel_rfl) (by kernel_rfl) (fun _ _ _ h => h) (Or.inl ⟨by rfl, ?_⟩) (by assumption) ?_
            rotate_left
            · intro w hSw
              try dsimp only at hSw
              go_simp
              try with_reducible rfl
            simp only [Act.put, List.setIfInBounds_toArray, List.set_cons_zero, List.set_cons_succ]
            refine take_at (i := 16) (d := 26) (v := ?_) rfl rfl (by kernel_rfl) (by kernel_rfl) (by kernel_rfl) (fun _ _ _ h => h) (Or.inl ⟨by rfl, ?_⟩) (by assumption) ?_
            rotate_left
            · intro w hSw
              try dsimp only at hSw
              go_simp
              try with_reducible rfl
            simp only [Act.put, List.setIfInBounds_toArray, List.set_cons_zero, List.set_cons_succ]
            refine take_at (i := 17) (d := 27) (v := ?_) rfl rfl (by kernel_rfl) (by kernel_rfl) (by kernel_rfl) (fun _ _ _ h => h) (Or.inl ⟨by rfl, ?_⟩) (by assumption) ?_
            rotate_left
            · intro w hSw
              try dsimp only at hSw
              go_simp
              try with_reducible rfl
            simp only [Act.put, List.setIfInBounds_toArray, List.set_cons_zero, List.set_cons_succ]
            refine take_at (i := 18) (d := 28) (v := ?_) rfl rfl (by kernel_rfl) (by kernel_rfl) (by kernel_rfl) (fun _ _ _ h => h) (Or.inl ⟨by rfl, ?_⟩) (by assumption) ?_
            rotate_left
            · intro w hSw
              try dsimp only at hSw
              go_simp
              try with_reducible rfl
            simp only [Act.put, List.setIfInBounds_toArray, List.set_cons_zero, List.set_cons_succ]
            refine ready_at (i := 19) rfl (by kernel_rfl) (fun KK hKK => ?_)
            go_simp
            refine (unhide BF _).mono ?_
            rintro _ wb ⟨rfl, bb⟩
            have bC : Below wr.heap.size wr wb := bB.trans (bb.mono bB.size)
            clear hHeld
            refine hKK.out _ _ (unhide K _ bC) (fun hHeld => ?_)
            clear hKK KK
            refine take_at (i := 20) (d := 30) (v := ?_) rfl rfl (by kernel_rfl) (by kernel_rfl) (by kernel_rfl) (fun _ _ _ h => h) (Or.inl ⟨by rfl, ?_⟩) (by assumption) ?_
            rotate_left
            · intro w hSw
              try dsimp only at hSw
              go_simp
              try with_reducible rfl
            simp only [Act.put, List.setIfInBounds_toArray, List.set_cons_zero, List.set_cons_succ]
            refine take_at (i := 21) (d := 31) (v := ?_) rfl rfl (by kernel_rfl) (by kernel_rfl) (by kernel_rfl) (fun _ _ _ h => h) (Or.inl ⟨by rfl, ?_⟩) (by assumption) ?_
            rotate_left
            · intro w hSw
              try dsimp only at hSw
              go_simp
              try with_reducible rfl
            simp only [Act.put, List.setIfInBounds_toArray, List.set_cons_zero, List.set_cons_succ]
            refine take_at (i := 22) (d := 32) (v := ?_) rfl rfl (by kernel_rfl) (by kernel_rfl) (by kernel_rfl) (fun _ _ _ h => h) (Or.inl ⟨by rfl, ?_⟩) (by assumption) ?_
            rotate_left
            · intro w hSw
              try dsimp only at hSw
              go_simp
              try with_reducible rfl
            simp only [Act.put, List.setIfInBounds_toArray, List.set_cons_zero, List.set_cons_succ]
            clear hHeld
            refine wpAnyH_done (by kernel_rfl) ?_ _
            refine NoPanic.normal ?_
            have BB := br.trans (bC.mono br.size)
            go_wp2
            go_ret
            exact ⟨by first | rfl | (rw [hno]; rfl), BB⟩
      · rw [decide_eq_false ho] at TO
        have hno := decide_eq_false (fun h : POk ts => ho (h.2.1 m (by rw [unhide Hn]; exact hlt)))
        clear ho HA hy
        generalize ts.getD m z4 = y at *
        obtain ⟨ya, yb, yc, yd⟩ := y
        dsimp only at TO
        have K : Hid (∀ w', Below wr.heap.size wr w' → (w'.cell? ⟨g, m * 4, none⟩ = some (.int .i64 ya) ∧ w'.cell? ⟨g, m * 4 + 1, none⟩ = some (.int .i64 yb) ∧ w'.cell? ⟨g, m * 4 + 2, none⟩ = some (.int .i64 yc) ∧ w'.cell? ⟨g, m * 4 + 3, none⟩ = some (.int .i64 yd))) := hide fun w' hb => (unhide CY).below hb (Nat.le_refl _)
        clear CY
        go_wp2_with fail
        refine wp_region_noPanic ?_
        refine wp_region_held_drew (S := (fun w' => (w'.cell? ⟨g, m * 4, none⟩ = some (.int .i64 ya) ∧ w'.cell? ⟨g, m * 4 + 1, none⟩ = some (.int .i64 yb) ∧ w'.cell? ⟨g, m * 4 + 2, none⟩ = some (.int .i64 yc) ∧ w'.cell? ⟨g, m * 4 + 3, none⟩ = some (.int .i64 yd)))) (by kernel_rfl) (unhide K _ bA) (fun hHeld => ?_)
        refine take_at (i := 0) (d := 10) (v := ?_) rfl rfl (by kernel_rfl) (by kernel_rfl) (by kernel_rfl) (fun _ _ _ h => h) (Or.inl ⟨by rfl, ?_⟩) (by assumption) ?_
        rotate_left
        · intro w hSw
          try dsimp only at hSw
          go_simp
          try with_reducible rfl
        simp only [Act.put, List.setIfInBounds_toArray, List.set_cons_zero, List.set_cons_succ]
        refine take_at (i := 1) (d := 11) (v := ?_) rfl rfl (by kernel_rfl) (by kernel_rfl) (by kernel_rfl) (fun _ _ _ h => h) (Or.inl ⟨by rfl, ?_⟩) (by assumption) ?_
        rotate_left
        · intro w hSw
          try dsimp only at hSw
          go_simp
          try with_reducible rfl
        simp only [Act.put, List.setIfInBounds_toArray, List.set_cons_zero, List.set_cons_succ]
        refine take_at (i := 2) (d := 12) (v := ?_) rfl rfl (by kernel_rfl) (by kernel_rfl) (by kernel_rfl) (fun _ _ _ h => h) (Or.inl ⟨by rfl, ?_⟩) (by assumption) ?_
        rotate_left
        · intro w hSw
          try dsimp only at hSw
          go_simp
          try with_reducible rfl
        simp only [Act.put, List.setIfInBounds_toArray, List.set_cons_zero, List.set_cons_succ]
        refine take_at (i := 3) (d := 13) (v := ?_) rfl rfl (by kernel_rfl) (by kernel_rfl) (by kernel_rfl) (fun _ _ _ h => h) (Or.inl ⟨by rfl, ?_⟩) (by assumption) ?_
        rotate_left
        · intro w hSw
          try dsimp only at hSw
          go_simp
          try with_reducible rfl
        simp only [Act.put, List.setIfInBounds_toArray, List.set_cons_zero, List.set_cons_succ]
        refine ready_at (i := 4) rfl (by kernel_rfl) (fun KK hKK => ?_)
        go_simp
        refine (unhide TO _).mono ?_
        rintro _ wa ⟨rfl, ba⟩
        have bB : Below wr.heap.size wr wa := bA.trans ba
        clear hHeld
        refine hKK.out _ _ (unhide K _ bB) (fun hHeld => ?_)
        clear hKK KK
        refine take_at (i := 5) (d := 15) (v := ?_) rfl rfl (by kernel_rfl) (by kernel_rfl) (by kernel_rfl) (fun _ _ _ h => h) (Or.inl ⟨by rfl, ?_⟩) (by assumption) ?_
        rotate_left
        · intro w hSw
          try dsimp only at hSw
          go_simp
          try with_reducible rfl
        simp only [Act.put, List.setIfInBounds_toArray, List.set_cons_zero, List.set_cons_succ]
        refine take_at (i := 6) (d := 16) (v := ?_) rfl rfl (by kernel_rfl) (by kernel_rfl) (by kernel_rfl) (fun _ _ _ h => h) (Or.inl ⟨by rfl, ?_⟩) (by assumption) ?_
        rotate_left
        · intro w hSw
          try dsimp only at hSw
          go_simp
          try with_reducible rfl
        simp only [Act.put, List.setIfInBounds_toArray, List.set_cons_zero, List.set_cons_succ]
        refine take_at (i := 7) (d := 17) (v := undef) rfl rfl (by kernel_rfl) (by kernel_rfl) (by kernel_rfl) (fun _ _ _ h => h) (Or.inr ⟨by rfl, rfl⟩) (by assumption) ?_
        simp only [Act.put, List.setIfInBounds_toArray, List.set_cons_zero, List.set_cons_succ]
        refine take_at (i := 8) (d := 18) (v := undef) rfl rfl (by kernel_rfl) (by kernel_rfl) (by kernel_rfl) (fun _ _ _ h => h) (Or.inr ⟨by rfl, rfl⟩) (by assumption) ?_
        simp only [Act.put, List.setIfInBounds_toArray, List.set_cons_zero, List.set_cons_succ]
        refine take_at (i := 9) (d := 19) (v := undef) rfl rfl (by kernel_rfl) (by kernel_rfl) (by kernel_rfl) (fun _ _ _ h => h) (Or.inr ⟨by rfl, rfl⟩) (by assumption) ?_
        simp only [Act.put, List.setIfInBounds_toArray, List.set_cons_zero, List.set_cons_succ]
        refine take_at (i := 10) (d := 20) (v := undef) rfl rfl (by kernel_rfl) (by kernel_rfl) (by kernel_rfl) (fun _ _ _ h => h) (Or.inr ⟨by rfl, rfl⟩) (by assumption) ?_
        simp only [Act.put, List.setIfInBounds_toArray, List.set_cons_zero, List.set_cons_succ]
        refine take_at (i := 11) (d := 21) (v := undef) rfl rfl (by kernel_rfl) (by kernel_rfl) (by kernel_rfl) (fun _ _ _ h => h) (Or.inr ⟨by rfl, rfl⟩) (by assumption) ?_
        simp only [Act.put, List.setIfInBounds_toArray, List.set_cons_zero, List.set_cons_succ]
        refine take_at (i := 12) (d := 22) (v := undef) rfl rfl (by kernel_rfl) (by kernel_rfl) (by kernel_rfl) (fun _ _ _ h => h) (Or.inr ⟨by rfl, rfl⟩) (by assumption) ?_
        simp only [Act.put, List.setIfInBounds_toArray, List.set_cons_zero, List.set_cons_succ]
        refine take_at (i := 13) (d := 23) (v := undef) rfl rfl (by kernel_rfl) (by kernel_rfl) (by kernel_rfl) (fun _ _ _ h => h) (Or.inr ⟨by rfl, rfl⟩) (by assumption) ?_
        simp only [Act.put, List.setIfInBounds_toArray, List.set_cons_zero, List.set_cons_succ]
        refine take_at (i := 14) (d := 24) (v := undef) rfl rfl (by kernel_rfl) (by kernel_rfl) (by kernel_rfl) (fun _ _ _ h => h) (Or.inr ⟨by rfl, rfl⟩) (by assumption) ?_
        simp only [Act.put, List.setIfInBounds_toArray, List.set_cons_zero, List.set_cons_succ]
        refine take_at (i := 15) (d := 25) (v := undef) rfl rfl (by kernel_rfl) (by kernel_rfl) (by kernel_rfl) (fun _ _ _ h => h) (Or.inr ⟨by rfl, rfl⟩) (by assumption) ?_
        simp only [Act.put, List.setIfInBounds_toArray, List.set_cons_zero, List.set_cons_succ]
        refine take_at (i := 16) (d := 26) (v := undef) rfl rfl (by kernel_rfl) (by kernel_rfl) (by kernel_rfl) (fun _ _ _ h => h) (Or.inr ⟨by rfl, rfl⟩) (by assumption) ?_
        simp only [Act.put, List.setIfInBounds_toArray, List.set_cons_zero, List.set_cons_succ]
        refine take_at (i := 17) (d := 27) (v := undef) rfl rfl (by kernel_rfl) (by kernel_rfl) (by kernel_rfl) (fun _ _ _ h => h) (Or.inr ⟨by rfl, rfl⟩) (by assumption) ?_
        simp only [Act.put, List.setIfInBounds_toArray, List.set_cons_zero, List.set_cons_succ]
        refine take_at (i := 18) (d := 28) (v := undef) rfl rfl (by kernel_rfl) (by kernel_rfl) (by kernel_rfl) (fun _ _ _ h => h) (Or.inr ⟨by rfl, rfl⟩) (by assumption) ?_
        simp only [Act.put, List.setIfInBounds_toArray, List.set_cons_zero, List.set_cons_succ]
        refine take_at (i := 19) (d := 29) (v := undef) rfl rfl (by kernel_rfl) (by kernel_rfl) (by kernel_rfl) (fun _ _ _ h => h) (Or.inr ⟨by rfl, rfl⟩) (by assumption) ?_
        simp only [Act.put, List.setIfInBounds_toArray, List.set_cons_zero, List.set_cons_succ]
        refine take_at (i := 20) (d := 30) (v := undef) rfl rfl (by kernel_rfl) (by kernel_rfl) (by kernel_rfl) (fun _ _ _ h => h) (Or.inr ⟨by rfl, rfl⟩) (by assumption) ?_
        simp only [Act.put, List.setIfInBounds_toArray, List.set_cons_zero, List.set_cons_succ]
        refine take_at (i := 21) (d := 31) (v := undef) rfl rfl (by kernel_rfl) (by kernel_rfl) (by kernel_rfl) (fun _ _ _ h => h) (Or.inr ⟨by rfl, rfl⟩) (by assumption) ?_
        simp only [Act.put, List.setIfInBounds_toArray, List.set_cons_zero, List.set_cons_succ]
        refine take_at (i := 22) (d := 32) (v := ?_) rfl rfl (by kernel_rfl) (by kernel_rfl) (by kernel_rfl) (fun _ _ _ h => h) (Or.inl ⟨by rfl, ?_⟩) (by assumption) ?_
        rotate_left
        · intro w hSw
          try dsimp only at hSw
          go_simp
          try with_reducible rfl
        simp only [Act.put, List.setIfInBounds_toArray, List.set_cons_zero, List.set_cons_succ]
        clear hHeld
        refine wpAnyH_done (by kernel_rfl) ?_ _
        refine NoPanic.normal ?_
        have BB := br.trans (bB.mono br.size)
        go_wp2
        go_ret
        exact ⟨by first | rfl | (rw [hno]; rfl), BB⟩
    · have hmn : m = n := by omega
      have e : decide (POk ts) = decide ((n : Int) ≤ 12) := by
        have hA := (unhide HA)
        rw [hmn, ← unhide Hn] at hA
        have := hA.all
        by_cases h12 : n ≤ 12
        · rw [decide_eq_true (show POk ts from ⟨by rw [unhide Hn]; exact h12, this.1, this.2⟩)]; simp; omega
        · rw [decide_eq_false (fun h : POk ts => h12 (by rw [← unhide Hn]; exact h.1))]; simp; omega
      clear HA
      subst hmn
      replace e := hide e
      go_wp2
      go_ret
      exact ⟨by rw [unhide e]; rfl, br⟩
end Go.Proofs.YthdehhenkgkkmaaDoor

/- Where a payment stands in a pool: plain mathematics of lists. -/
namespace Go.Proofs.YthdehhenkgkkmaaDoor
open Go.RowKit
set_option linter.unusedSectionVars false
variable [∀ (a b c d : Int), Decidable (Ok4 a b c d)]
variable [∀ (m a b c d : Int), Decidable (In4 m a b c d)]
variable [∀ (xs ys : List Int), Decidable (LOk xs ys)]
variable [∀ (x y : T4), Decidable (Bef x y)]
variable [∀ (ts : List T4), Decidable (Asc ts)]
variable [∀ (ts : List T4), Decidable (AllOk ts)]
variable [∀ (ts : List T4), Decidable (POk ts)]

/-- How many stand ahead of x, from the left. -/
def pos : List T4 → T4 → Nat
  | [], _ => 0
  | t :: ts, x => if Bef t x then pos ts x + 1 else 0
/-- With x at place k. -/
def ins (ts : List T4) (x : T4) (k : Nat) : List T4 := ts.take k ++ [x] ++ ts.drop k
/-- What PoolAdd answers. -/
def addAns (ts : List T4) (x : T4) : List T4 × Bool := if POk (ins ts x (pos ts x)) then (ins ts x (pos ts x), true) else (ts, false)
theorem pos_le (ts : List T4) (x : T4) : pos ts x ≤ ts.length := by
  induction ts with
  | nil => simp [pos]
  | cons t ts ih => rw [pos]; split <;> simp; omega
theorem pos_lt (ts : List T4) (x : T4) (j : Nat) (h : j < pos ts x) : Bef (ts.getD j z4) x := by
  induction ts generalizing j with
  | nil => simp [pos] at h
  | cons t ts ih =>
    rw [pos] at h
    split at h
    · rename_i hb
      cases j with
      | zero => exact hb
      | succ j => exact ih j (by omega)
    · omega
theorem pos_ge (ts : List T4) (x : T4) (h : pos ts x < ts.length) : ¬ Bef (ts.getD (pos ts x) z4) x := by
  induction ts with
  | nil => simp at h
  | cons t ts ih =>
    rw [pos] at h ⊢
    split at h
    · rename_i hb
      rw [if_pos hb]
      exact ih (by simpa using h)
    · rename_i hb
      rw [if_neg hb]
      exact hb
theorem pos_is (ts : List T4) (x : T4) (k : Nat) (hk : k ≤ ts.length) (h1 : ∀ j, j < k → Bef (ts.getD j z4) x) (h2 : k < ts.length → ¬ Bef (ts.getD k z4) x) : pos ts x = k := by
  rcases Nat.lt_trichotomy (pos ts x) k with h | h | h
  · exact absurd (h1 _ h) (pos_ge ts x (by omega))
  · exact h
  · exact absurd (pos_lt ts x k h) (h2 (by have := pos_le ts x; omega))
theorem ins_len (ts : List T4) (x : T4) (k : Nat) : (ins ts x k).length = ts.length + 1 := by
  unfold ins; simp; omega
theorem asc_cons {t u : T4} {ts : List T4} : Asc (t :: u :: ts) ↔ Bef t u ∧ Asc (u :: ts) := by
  unfold Asc
  constructor
  · intro h
    refine ⟨h 0 (by simp), fun k hk => ?_⟩
    have := h (k + 1) (by simp at hk ⊢; omega)
    simpa using this
  · rintro ⟨h1, h2⟩ k hk
    cases k with
    | zero => exact h1
    | succ k =>
      have := h2 k (by simp at hk ⊢; omega)
      simpa using this
theorem asc_pair (ts : List T4) : Asc ts ↔ ts.Pairwise Bef := by
  induction ts with
  | nil => simp [Asc]
  | cons t ts ih =>
    cases ts with
    | nil => simp [Asc]
    | cons u ts =>
      rw [asc_cons, ih]
      constructor
      · rintro ⟨h1, h2⟩
        refine List.Pairwise.cons ?_ h2
        intro v hv
        rcases List.mem_cons.1 hv with rfl | hv
        · exact h1
        · exact h1.trans ((List.pairwise_cons.1 h2).1 v hv)
      · intro h
        obtain ⟨h1, h2⟩ := List.pairwise_cons.1 h
        exact ⟨h1 u (by simp), h2⟩
theorem asc_ins {ts : List T4} {x : T4} {k : Nat} (h : Asc (ins ts x k)) : Asc ts := by
  rw [asc_pair] at *
  refine h.sublist ?_
  unfold ins
  conv => lhs; rw [← List.take_append_drop k ts]
  rw [List.append_assoc]
  exact List.Sublist.append (List.Sublist.refl _) (List.sublist_append_right _ _)
theorem asc_lt {ts : List T4} (h : Asc ts) {i j : Nat} (hij : i < j) (hj : j < ts.length) : Bef (ts.getD i z4) (ts.getD j z4) := by
  rw [asc_pair, List.pairwise_iff_getElem] at h
  have := h i j (by omega) hj hij
  rw [List.getD_eq_getElem?_getD, List.getD_eq_getElem?_getD, List.getElem?_eq_getElem hj, List.getElem?_eq_getElem (show i < ts.length by omega)]
  exact this
/-- A place that a search may come to. -/
def Place (ts : List T4) (x : T4) (k : Nat) : Prop := k ≤ ts.length ∧ (∀ i, k = i + 1 → Bef (ts.getD i z4) x) ∧ (k < ts.length → ¬ Bef (ts.getD k z4) x)
theorem place_pos {ts : List T4} {x : T4} {k : Nat} (ha : Asc ts) (h : Place ts x k) : pos ts x = k := by
  obtain ⟨h0, h1, h2⟩ := h
  refine pos_is ts x k h0 (fun j hj => ?_) h2
  obtain ⟨i, rfl⟩ : ∃ i, k = i + 1 := ⟨k - 1, by omega⟩
  by_cases e : j = i
  · subst e; exact h1 j rfl
  · exact (asc_lt ha (show j < i by omega) (by omega)).trans (h1 i rfl)
/-- Wherever a search comes to: the answer is the same. -/
theorem place_ans {ts : List T4} {x : T4} {k : Nat} (h : Place ts x k) : addAns ts x = if POk (ins ts x k) then (ins ts x k, true) else (ts, false) := by
  unfold addAns
  by_cases ha : Asc ts
  · rw [place_pos ha h]
  · rw [if_neg (fun h => ha (asc_ins h.2.2)), if_neg (fun h => ha (asc_ins h.2.2))]
theorem addAns_len (ts : List T4) (x : T4) : (addAns ts x).1.length ≤ ts.length + 1 := by
  unfold addAns; split
  · rw [ins_len]; exact Nat.le_refl _
  · simp
end Go.Proofs.YthdehhenkgkkmaaDoor
