/- Texts that belong together: BookOk, BookOf, LedgerOk, CopyInts, BookLedger, LedgerNew, PayPlain. -/
import Derived.Test.YthdehhenkgkkmaaDoorBunA
/- (impl.book).ok: whether each number of a book lies within its limits. -/
namespace Go.Proofs.YthdehhenkgkkmaaDoor
open Go.RowKit
set_option linter.unusedSectionVars false
variable [∀ (a b c d : Int), Decidable (Ok4 a b c d)]

/-- A book as a value; its cells. -/
abbrev b8 (a b c d e f g h : Int) : Array Value := #[.int .i64 a, .int .i64 b, .int .i64 c, .int .i64 d, .int .i64 e, .int .i64 f, .int .i64 g, .int .i64 h]
abbrev bv (a b c d e f g h : Int) : Value := .agg (b8 a b c d e f g h)
/-- Four numbers within 0 .. m. -/
def In4 (m a b c d : Int) : Prop := (0 ≤ a ∧ a ≤ m) ∧ (0 ≤ b ∧ b ≤ m) ∧ (0 ≤ c ∧ c ≤ m) ∧ (0 ≤ d ∧ d ≤ m)
variable [∀ (m a b c d : Int), Decidable (In4 m a b c d)]
/-- The cells of a book at block g. -/
def C8 (w : World) (G : Nat) (a b c d e f g h : Int) : Prop :=
  (w.cell? ⟨G, 0, none⟩ = some (.int .i64 a) ∧ w.cell? ⟨G, 1, none⟩ = some (.int .i64 b) ∧ w.cell? ⟨G, 2, none⟩ = some (.int .i64 c) ∧ w.cell? ⟨G, 3, none⟩ = some (.int .i64 d)) ∧
  (w.cell? ⟨G, 4, none⟩ = some (.int .i64 e) ∧ w.cell? ⟨G, 5, none⟩ = some (.int .i64 f) ∧ w.cell? ⟨G, 6, none⟩ = some (.int .i64 g) ∧ w.cell? ⟨G, 7, none⟩ = some (.int .i64 h))
theorem Loc.c8 {w : World} {G : Nat} {a b c d e f g h : Int} (l : Loc w G (b8 a b c d e f g h)) : C8 w G a b c d e f g h :=
  ⟨⟨l.cell 0 rfl, l.cell 1 rfl, l.cell 2 rfl, l.cell 3 rfl⟩, ⟨l.cell 4 rfl, l.cell 5 rfl, l.cell 6 rfl, l.cell 7 rfl⟩⟩

set_option maxHeartbeats 1000000 in
theorem row_eq (n : Nat) (a b c d a' b' c' d' : Int) (w : World) : (Op.equalIn (n + 2) 87 (rv a b c d) (rv a' b' c' d')).run Tryd.prog w = .ok (decide (a = a' ∧ b = b' ∧ c = c' ∧ d = d')) w := by
  have hs : ∀ w, (Go.sizeOf 3).run Tryd.prog w = .ok 1 w := by intro w; simp [go_sem]
  have hp : ∀ (w : World) (cs : Array Value) (j : Nat) (x : Int), cs[j]? = some (.int .i64 x) → (part 3 cs j).run Tryd.prog w = .ok (.int .i64 x) w := by
    intro w cs j x h
    simp [part, hs, h]
  have p0 := fun w (x y z u : Int) => hp w (r4 x y z u) 0 x rfl
  have p1 := fun w (x y z u : Int) => hp w (r4 x y z u) 1 y rfl
  have p2 := fun w (x y z u : Int) => hp w (r4 x y z u) 2 z rfl
  have p3 := fun w (x y z u : Int) => hp w (r4 x y z u) 3 u rfl
  have he := fun w (x y : Int) => run_equalIn_int (P := Tryd.prog) w n 3 .i64 .i64 x y Tryd.underlying3
  rw [Op.equalIn]
  simp only [Sem.run_bind, run_underlying Tryd.underlying87, Result.andThen_ok, hs, Std.Legacy.Range.forIn_eq_forIn_range', Std.Legacy.Range.size, show List.range' 0 ((4 - 0 + 1 - 1) / 1) 1 = [0, 1, 2, 3] from rfl, List.forIn_cons, Nat.mul_one, p0, he]
  by_cases h0 : a = a'
  · by_cases h1 : b = b'
    · by_cases h2 : c = c'
      · by_cases h3 : d = d'
        · simp [h0, h1, h2, h3, p1, p2, p3, he]
        · simp [h0, h1, h2, h3, p1, p2, p3, he]
      · simp [h0, h1, h2, p1, p2, he]
    · simp [h0, h1, p1, he]
  · simp [h0]
theorem In4.same {m a b c d : Int} (h : In4 m a b c d) : cl m a = a ∧ cl m b = b ∧ cl m c = c ∧ cl m d = d := ⟨cl_same.2 h.1, cl_same.2 h.2.1, cl_same.2 h.2.2.1, cl_same.2 h.2.2.2⟩
theorem In4.iff (m a b c d : Int) : (a = cl m a ∧ b = cl m b ∧ c = cl m c ∧ d = cl m d) ↔ In4 m a b c d := by
  unfold In4
  constructor
  · rintro ⟨h1, h2, h3, h4⟩; exact ⟨cl_same.1 h1.symm, cl_same.1 h2.symm, cl_same.1 h3.symm, cl_same.1 h4.symm⟩
  · rintro ⟨h1, h2, h3, h4⟩; exact ⟨(cl_same.2 h1).symm, (cl_same.2 h2).symm, (cl_same.2 h3).symm, (cl_same.2 h4).symm⟩

set_option maxHeartbeats 8000000 in
set_option maxRecDepth 100000 in
theorem ok_has (a b c d e f g h : Int) (w : World) (h1 : In4 400 a b c d) :
    Calls Tryd.prog 58 #[bv a b c d e f g h] w fun o w' => o = .returned (.bool (decide (In4 100 e f g h))) ∧ Below w.heap.size w w' := by
  obtain ⟨q, hq⟩ : ∃ q, decide (In4 100 e f g h) = q := ⟨_, rfl⟩
  obtain ⟨ea, fa, ga, ha, BN2, E2⟩ : ∃ ea fa ga ha : Int, Hid (∀ w, Calls Tryd.prog 70 #[rv e f g h, .int .i64 100] w fun o w' => o = .returned (rv ea fa ga ha) ∧ Below w.heap.size w w') ∧ (∀ w, (Op.equalIn 10000 87 (rv e f g h) (rv ea fa ga ha)).run Tryd.prog w = .ok q w) :=
    ⟨_, _, _, _, hide fun w => bounded_any e f g h 100 w (by omega), fun w => by rw [row_eq 9998]; simp only [In4.iff, hq]⟩
  have BN1 : Hid (∀ w, Calls Tryd.prog 70 #[rv a b c d, .int .i64 400] w fun o w' => o = .returned (rv a b c d) ∧ Below w.heap.size w w') := by
    refine hide fun w => ?_
    have := bounded_any a b c d 400 w (by omega)
    rwa [h1.same.1, h1.same.2.1, h1.same.2.2.1, h1.same.2.2.2] at this
  have E1 : ∀ w, (Op.equalIn 10000 87 (rv a b c d) (rv a b c d)).run Tryd.prog w = .ok true w := fun w => by rw [row_eq 9998]; simp
  rw [hq]
  clear h1 hq
  obtain ⟨w0, hw0⟩ : ∃ w0, w.alloc (.cells (b8 a b c d e f g h) 89) = w0 := ⟨_, rfl⟩
  have B0 : Below w.heap.size w w0 := hw0 ▸ (Below.refl _ _).alloc (Nat.le_refl _) _
  have L0 : Loc w0 w.heap.size (b8 a b c d e f g h) := hw0 ▸ loc_at w _ _ rfl
  have K : Hid (∀ w', Below w0.heap.size w0 w' → Below w0.heap.size w0 w' ∧ C8 w' w.heap.size a b c d e f g h) := hide fun w' hb' => ⟨hb', (L0.below hb' L0.lt).c8⟩
  have bA : Below w0.heap.size w0 w0.drew := Below.drew (Below.refl _ _)
  have hKeep := unhide K _ bA
  unfold C8 at hKeep
  clear L0
  go_enter Tryd.func58, Tryd.ntmps58
  go_wp2_with fail
  clear hw0
  go_region_held3 (fun w' => Below w0.heap.size w0 w' ∧ ((w'.cell? ⟨w.heap.size, 0, none⟩ = some (.int .i64 a) ∧ w'.cell? ⟨w.heap.size, 1, none⟩ = some (.int .i64 b) ∧ w'.cell? ⟨w.heap.size, 2, none⟩ = some (.int .i64 c) ∧ w'.cell? ⟨w.heap.size, 3, none⟩ = some (.int .i64 d)) ∧
  (w'.cell? ⟨w.heap.size, 4, none⟩ = some (.int .i64 e) ∧ w'.cell? ⟨w.heap.size, 5, none⟩ = some (.int .i64 f) ∧ w'.cell? ⟨w.heap.size, 6, none⟩ = some (.int .i64 g) ∧ w'.cell? ⟨w.heap.size, 7, none⟩ = some (.int .i64 h)))) (exact hKeep) (first
    | (go_at_call 70; have hgo := bA; refine (unhide BN1 _).mono ?_; rintro _ wa ⟨rfl, b7⟩
       have bB : Below w0.heap.size w0 wa := bA.trans (b7.mono bA.size)
       have hKeep := unhide K _ bB; clear bA hgo b7)
    | (go_at_call 70; have hgo := bB; refine (unhide BN2 _).mono ?_; rintro _ wb ⟨rfl, b8⟩
       have bC : Below w0.heap.size w0 wb := bB.trans (b8.mono bB.size)
       have hKeep := unhide K _ bC; clear bB hgo b8))
  all_goals
    go_wp2
    go_ret
    exact ⟨rfl, B0.trans (bC.mono B0.size)⟩

set_option maxHeartbeats 8000000 in
set_option maxRecDepth 100000 in
theorem ok_hasnt (a b c d e f g h : Int) (w : World) (h1 : ¬ In4 400 a b c d) :
    Calls Tryd.prog 58 #[bv a b c d e f g h] w fun o w' => o = .returned (.bool false) ∧ Below w.heap.size w w' := by
  obtain ⟨ea, fa, ga, ha, BN1, E1⟩ : ∃ ea fa ga ha : Int, Hid (∀ w, Calls Tryd.prog 70 #[rv a b c d, .int .i64 400] w fun o w' => o = .returned (rv ea fa ga ha) ∧ Below w.heap.size w w') ∧ (∀ w, (Op.equalIn 10000 87 (rv a b c d) (rv ea fa ga ha)).run Tryd.prog w = .ok false w) :=
    ⟨_, _, _, _, hide fun w => bounded_any a b c d 400 w (by omega), fun w => by rw [row_eq 9998]; simp only [In4.iff, h1, decide_false]⟩
  clear h1
  obtain ⟨w0, hw0⟩ : ∃ w0, w.alloc (.cells (b8 a b c d e f g h) 89) = w0 := ⟨_, rfl⟩
  have B0 : Below w.heap.size w w0 := hw0 ▸ (Below.refl _ _).alloc (Nat.le_refl _) _
  have L0 : Loc w0 w.heap.size (b8 a b c d e f g h) := hw0 ▸ loc_at w _ _ rfl
  have K : Hid (∀ w', Below w0.heap.size w0 w' → Below w0.heap.size w0 w' ∧ C8 w' w.heap.size a b c d e f g h) := hide fun w' hb' => ⟨hb', (L0.below hb' L0.lt).c8⟩
  have bA : Below w0.heap.size w0 w0.drew := Below.drew (Below.refl _ _)
  have hKeep := unhide K _ bA
  unfold C8 at hKeep
  clear L0
  go_enter Tryd.func58, Tryd.ntmps58
  go_wp2_with fail
  clear hw0
  refine wp_region_noPanic ?_
  refine wp_region_held_drew (S := (fun w' => Below w0.heap.size w0 w' ∧ ((w'.cell? ⟨w.heap.size, 0, none⟩ = some (.int .i64 a) ∧ w'.cell? ⟨w.heap.size, 1, none⟩ = some (.int .i64 b) ∧ w'.cell? ⟨w.heap.size, 2, none⟩ = some (.int .i64 c) ∧ w'.cell? ⟨w.heap.size, 3, none⟩ = some (.int .i64 d)) ∧ (w'.cell? ⟨w.heap.size, 4, none⟩ = some (.int .i64 e) ∧ w'.cell? ⟨w.heap.size, 5, none⟩ = some (.int .i64 f) ∧ w'.cell? ⟨w.heap.size, 6, none⟩ = some (.int .i64 g) ∧ w'.cell? ⟨w.heap.size, 7, none⟩ = some (.int .i64 h))))) (by kernel_rfl) hKeep (fun hHeld => ?_)
  refine take_at (i := 0) (d := 3) (v := ?_) rfl rfl (by kernel_rfl) (by kernel_rfl) (by kernel_rfl) (fun _ _ _ h => h) (Or.inl ⟨by rfl, ?_⟩) (by assumption) ?_
  rotate_left
  · intro w hSw
    try dsimp only at hSw
    go_simp
    try with_reducible rfl
  simp only [Act.put, List.setIfInBounds_toArray, List.set_cons_zero, List.set_cons_succ]
  refine take_at (i := 1) (d := 4) (v := ?_) rfl rfl (by kernel_rfl) (by kernel_rfl) (by kernel_rfl) (fun _ _ _ h => h) (Or.inl ⟨by rfl, ?_⟩) (by assumption) ?_
  rotate_left
  · intro w hSw
    try dsimp only at hSw
    go_simp
    try with_reducible rfl
  simp only [Act.put, List.setIfInBounds_toArray, List.set_cons_zero, List.set_cons_succ]
  refine take_at (i := 2) (d := 5) (v := ?_) rfl rfl (by kernel_rfl) (by kernel_rfl) (by kernel_rfl) (fun _ _ _ h => h) (Or.inl ⟨by rfl, ?_⟩) (by assumption) ?_
  rotate_left
  · intro w hSw
    try dsimp only at hSw
    go_simp
    try with_reducible rfl
  simp only [Act.put, List.setIfInBounds_toArray, List.set_cons_zero, List.set_cons_succ]
  refine take_at (i := 3) (d := 6) (v := ?_) rfl rfl (by kernel_rfl) (by kernel_rfl) (by kernel_rfl) (fun _ _ _ h => h) (Or.inl ⟨by rfl, ?_⟩) (by assumption) ?_
  rotate_left
  · intro w hSw
    try dsimp only at hSw
    go_simp
    try with_reducible rfl
  simp only [Act.put, List.setIfInBounds_toArray, List.set_cons_zero, List.set_cons_succ]
  refine ready_at (i := 4) rfl (by kernel_rfl) (fun KK hKK => ?_)
  go_simp
  refine (unhide BN1 _).mono ?_
  rintro _ wa ⟨rfl, b7⟩
  have bB : Below w0.heap.size w0 wa := bA.trans (b7.mono bA.size)
  have hKeep := unhide K _ bB
  clear bA b7
  refine hKK.out _ _ hKeep (fun hHeld => ?_)
  clear hKK KK
  refine take_at (i := 5) (d := 8) (v := ?_) rfl rfl (by kernel_rfl) (by kernel_rfl) (by kernel_rfl) (fun _ _ _ h => h) (Or.inl ⟨by rfl, ?_⟩) (by assumption) ?_
  rotate_left
  · intro w hSw
    try dsimp only at hSw
    go_simp
    try with_reducible rfl
  simp only [Act.put, List.setIfInBounds_toArray, List.set_cons_zero, List.set_cons_succ]
  refine take_at (i := 6) (d := 9) (v := ?_) rfl rfl (by kernel_rfl) (by kernel_rfl) (by kernel_rfl) (fun _ _ _ h => h) (Or.inl ⟨by rfl, ?_⟩) (by assumption) ?_
  rotate_left
  · intro w hSw
    try dsimp only at hSw
    go_simp
    try with_reducible rfl
  simp only [Act.put, List.setIfInBounds_toArray, List.set_cons_zero, List.set_cons_succ]
  refine take_at (i := 7) (d := 10) (v := undef) rfl rfl (by kernel_rfl) (by kernel_rfl) (by kernel_rfl) (fun _ _ _ h => h) (Or.inr ⟨by rfl, rfl⟩) (by assumption) ?_
  simp only [Act.put, List.setIfInBounds_toArray, List.set_cons_zero, List.set_cons_succ]
  refine take_at (i := 8) (d := 11) (v := undef) rfl rfl (by kernel_rfl) (by kernel_rfl) (by kernel_rfl) (fun _ _ _ h => h) (Or.inr ⟨by rfl, rfl⟩) (by assumption) ?_
  simp only [Act.put, List.setIfInBounds_toArray, List.set_cons_zero, List.set_cons_succ]
  refine take_at (i := 9) (d := 12) (v := undef) rfl rfl (by kernel_rfl) (by kernel_rfl) (by kernel_rfl) (fun _ _ _ h => h) (Or.inr ⟨by rfl, rfl⟩) (by assumption) ?_
  simp only [Act.put, List.setIfInBounds_toArray, List.set_cons_zero, List.set_cons_succ]
  refine take_at (i := 10) (d := 13) (v := undef) rfl rfl (by kernel_rfl) (by kernel_rfl) (by kernel_rfl) (fun _ _ _ h => h) (Or.inr ⟨by rfl, rfl⟩) (by assumption) ?_
  simp only [Act.put, List.setIfInBounds_toArray, List.set_cons_zero, List.set_cons_succ]
  refine take_at (i := 11) (d := 14) (v := undef) rfl rfl (by kernel_rfl) (by kernel_rfl) (by kernel_rfl) (fun _ _ _ h => h) (Or.inr ⟨by rfl, rfl⟩) (by assumption) ?_
  simp only [Act.put, List.setIfInBounds_toArray, List.set_cons_zero, List.set_cons_succ]
  refine take_at (i := 12) (d := 15) (v := undef) rfl rfl (by kernel_rfl) (by kernel_rfl) (by kernel_rfl) (fun _ _ _ h => h) (Or.inr ⟨by rfl, rfl⟩) (by assumption) ?_
  simp only [Act.put, List.setIfInBounds_toArray, List.set_cons_zero, List.set_cons_succ]
  refine take_at (i := 13) (d := 16) (v := ?_) rfl rfl (by kernel_rfl) (by kernel_rfl) (by kernel_rfl) (fun _ _ _ h => h) (Or.inl ⟨by rfl, ?_⟩) (by assumption) ?_
  rotate_left
  · intro w hSw
    try dsimp only at hSw
    go_simp
    try with_reducible rfl
  simp only [Act.put, List.setIfInBounds_toArray, List.set_cons_zero, List.set_cons_succ]
  refine take_at (i := 14) (d := 2) (v := ?_) rfl rfl (by kernel_rfl) (by kernel_rfl) (by kernel_rfl) (fun _ _ _ h => h) (Or.inl ⟨by rfl, ?_⟩) (by assumption) ?_
  rotate_left
  · intro w hSw
    try dsimp only at hSw
    go_simp
    try with_reducible rfl
  simp only [Act.put, List.setIfInBounds_toArray, List.set_cons_zero, List.set_cons_succ]
  refine wpAnyH_done (by kernel_rfl) ?_ _
  refine NoPanic.normal ?_
  go_wp2
  go_ret
  exact ⟨rfl, B0.trans (bB.mono B0.size)⟩

theorem ok_any (a b c d e f g h : Int) (w : World) :
    Calls Tryd.prog 58 #[bv a b c d e f g h] w fun o w' => o = .returned (.bool (decide (In4 400 a b c d ∧ In4 100 e f g h))) ∧ Below w.heap.size w w' := by
  by_cases h1 : In4 400 a b c d
  · simpa [h1] using ok_has a b c d e f g h w h1
  · simpa [h1] using ok_hasnt a b c d e f g h w h1
end Go.Proofs.YthdehhenkgkkmaaDoor

/- impl.bookOf and impl.LedgerOk. -/
namespace Go.Proofs.YthdehhenkgkkmaaDoor
open Go.RowKit
set_option linter.unusedSectionVars false
variable [∀ (a b c d : Int), Decidable (Ok4 a b c d)]
variable [∀ (m a b c d : Int), Decidable (In4 m a b c d)]

theorem four_of {xs : List Int} (h : xs.length = 4) : ∃ a b c d, xs = [a, b, c, d] := by
  match xs, h with
  | [a, b, c, d], _ => exact ⟨a, b, c, d, rfl⟩
theorem RI.four {w : World} {v : Value} {a b c d : Int} (h : RI w v [a, b, c, d]) : ∃ g off cap, v = .slice (some ⟨g, off, none⟩) 4 cap ∧
    (w.cell? ⟨g, off, none⟩ = some (.int .i64 a) ∧ w.cell? ⟨g, off + 1, none⟩ = some (.int .i64 b) ∧ w.cell? ⟨g, off + 2, none⟩ = some (.int .i64 c) ∧ w.cell? ⟨g, off + 3, none⟩ = some (.int .i64 d)) := by
  obtain ⟨_, ao, cap, rfl, h⟩ := h
  rcases h with h | ⟨g, off, rfl, h⟩
  · cases h
  · exact ⟨g, off, cap, rfl, h 0 (by simp), h 1 (by simp), h 2 (by simp), h 3 (by simp)⟩

/-- Eight cells of block G written. -/
def put8 (w : World) (G : Nat) (a b c d e f g h : Int) : World :=
  (((((((w.setCell ⟨G, 0, none⟩ (.int .i64 a)).setCell ⟨G, 1, none⟩ (.int .i64 b)).setCell ⟨G, 2, none⟩ (.int .i64 c)).setCell ⟨G, 3, none⟩ (.int .i64 d)).setCell ⟨G, 4, none⟩ (.int .i64 e)).setCell ⟨G, 5, none⟩ (.int .i64 f)).setCell ⟨G, 6, none⟩ (.int .i64 g)).setCell ⟨G, 7, none⟩ (.int .i64 h)
theorem Loc.put8 {w : World} {G : Nat} {a b c d e f g h a' b' c' d' e' f' g' h' : Int} (l : Loc w G (b8 a' b' c' d' e' f' g' h')) : Loc (put8 w G a b c d e f g h) G (b8 a b c d e f g h) := by
  unfold _root_.Go.Proofs.YthdehhenkgkkmaaDoor.put8
  refine Loc.set (cs := b8 a b c d e f g h') ?_ 7 _ rfl
  refine Loc.set (cs := b8 a b c d e f g' h') ?_ 6 _ rfl
  refine Loc.set (cs := b8 a b c d e f' g' h') ?_ 5 _ rfl
  refine Loc.set (cs := b8 a b c d e' f' g' h') ?_ 4 _ rfl
  refine Loc.set (cs := b8 a b c d' e' f' g' h') ?_ 3 _ rfl
  refine Loc.set (cs := b8 a b c' d' e' f' g' h') ?_ 2 _ rfl
  refine Loc.set (cs := b8 a b' c' d' e' f' g' h') ?_ 1 _ rfl
  refine Loc.set (cs := b8 a' b' c' d' e' f' g' h') ?_ 0 _ rfl
  exact l
theorem Loc.put8_other {w : World} {G G' : Nat} {cs : Array Value} (l : Loc w G' cs) (hg : G' ≠ G) (a b c d e f g h : Int) : Loc (_root_.Go.Proofs.YthdehhenkgkkmaaDoor.put8 w G a b c d e f g h) G' cs :=
  (((((((l.other hg _).other hg _).other hg _).other hg _).other hg _).other hg _).other hg _).other hg _
theorem put8_below {w wa : World} {B G : Nat} (hb : Below B w wa) (hg : B ≤ G) (a b c d e f g h : Int) : Below B w (put8 wa G a b c d e f g h) :=
  Below.set (Below.set (Below.set (Below.set (Below.set (Below.set (Below.set (Below.set hb _ _ hg) _ _ hg) _ _ hg) _ _ hg) _ _ hg) _ _ hg) _ _ hg) _ _ hg
theorem put8_kp (w : World) (G : Nat) (a b c d e f g h : Int) : Kp w (put8 w G a b c d e f g h) (fun k => k = G) :=
  (((((((set_kp w G 0 _).trans (set_kp _ G 1 _)).trans (set_kp _ G 2 _)).trans (set_kp _ G 3 _)).trans (set_kp _ G 4 _)).trans (set_kp _ G 5 _)).trans (set_kp _ G 6 _)).trans (set_kp _ G 7 _)

theorem arrayAt (g o c : Nat) (w : World) : (Instr.arrayAt 87 (.slice (some ⟨g, o, none⟩) 4 c)).run Tryd.prog w = .ok (.pointer (some ⟨g, o, none⟩)) w := by
  simp [Instr.arrayAt, run_underlying Tryd.underlying87, go_sem]

set_option maxHeartbeats 8000000 in
set_option maxRecDepth 100000 in
theorem bookOf_four (u v : Value) (a b c d e f g h : Int) (w : World) (hu : RI w u [a, b, c, d]) (hv : RI w v [e, f, g, h]) :
    Calls Tryd.prog 59 #[lv u v] w fun o w' => o = .returned (.tuple #[bv a b c d e f g h, .bool (decide (In4 400 a b c d ∧ In4 100 e f g h))]) ∧ Below w.heap.size w w' := by
  obtain ⟨g1, o1, c1, rfl, x0, x1, x2, x3⟩ := hu.four
  obtain ⟨g2, o2, c2, rfl, y0, y1, y2, y3⟩ := hv.four
  have OK := hide fun w => ok_any a b c d e f g h w
  generalize decide (In4 400 a b c d ∧ In4 100 e f g h) = q at *
  clear hu hv
  obtain ⟨w0, hw0⟩ : ∃ w0, (w.alloc (.cells #[.slice (some ⟨g1, o1, none⟩) 4 c1, .slice (some ⟨g2, o2, none⟩) 4 c2] 33)).alloc (.cells (b8 0 0 0 0 0 0 0 0) 89) = w0 := ⟨_, rfl⟩
  have B0 : Below w.heap.size w w0 := hw0 ▸ ((Below.refl _ _).alloc (Nat.le_refl _) _).alloc (by simp) _
  have L0 : Loc w0 w.heap.size #[.slice (some ⟨g1, o1, none⟩) 4 c1, .slice (some ⟨g2, o2, none⟩) 4 c2] := hw0 ▸ (loc_at w _ _ rfl).alloc _
  have R0 : Loc w0 (w.heap.size + 1) (b8 0 0 0 0 0 0 0 0) := hw0 ▸ loc_at _ _ _ (by simp)
  have l1 : g1 < w.heap.size := cell_lt x0
  have l2 : g2 < w.heap.size := cell_lt y0
  have s0 := B0.size
  have K : Hid (∀ w', Below w0.heap.size w0 w' → Below w0.heap.size w0 w' ∧ (w'.cell? ⟨w.heap.size, 0, none⟩ = some (.slice (some ⟨g1, o1, none⟩) 4 c1) ∧ w'.cell? ⟨w.heap.size, 1, none⟩ = some (.slice (some ⟨g2, o2, none⟩) 4 c2)) ∧
      (w'.cell? ⟨g1, o1, none⟩ = some (.int .i64 a) ∧ w'.cell? ⟨g1, o1 + 1, none⟩ = some (.int .i64 b) ∧ w'.cell? ⟨g1, o1 + 2, none⟩ = some (.int .i64 c) ∧ w'.cell? ⟨g1, o1 + 3, none⟩ = some (.int .i64 d)) ∧
      (w'.cell? ⟨g2, o2, none⟩ = some (.int .i64 e) ∧ w'.cell? ⟨g2, o2 + 1, none⟩ = some (.int .i64 f) ∧ w'.cell? ⟨g2, o2 + 2, none⟩ = some (.int .i64 g) ∧ w'.cell? ⟨g2, o2 + 3, none⟩ = some (.int .i64 h))) := hide fun w' hb' => by
    have L := L0.below hb' L0.lt
    have bb := B0.trans (hb'.mono s0)
    exact ⟨hb', ⟨L.cell 0 rfl, L.cell 1 rfl⟩, ⟨(bb.cell (p := ⟨g1, o1, none⟩) l1).trans x0, (bb.cell (p := ⟨g1, o1 + 1, none⟩) l1).trans x1, (bb.cell (p := ⟨g1, o1 + 2, none⟩) l1).trans x2, (bb.cell (p := ⟨g1, o1 + 3, none⟩) l1).trans x3⟩,
      ⟨(bb.cell (p := ⟨g2, o2, none⟩) l2).trans y0, (bb.cell (p := ⟨g2, o2 + 1, none⟩) l2).trans y1, (bb.cell (p := ⟨g2, o2 + 2, none⟩) l2).trans y2, (bb.cell (p := ⟨g2, o2 + 3, none⟩) l2).trans y3⟩⟩
  have p0 := L0.cell 0 rfl
  have p1 := L0.cell 1 rfl
  have bA : Below w0.heap.size w0 w0.drew := Below.drew (Below.refl _ _)
  clear x0 x1 x2 x3 y0 y1 y2 y3
  have A1 := arrayAt g1 o1 c1
  have A2 := arrayAt g2 o2 c2
  go_enter Tryd.func59, Tryd.ntmps59
  go_wp2_with fail
  clear hw0 p0 p1
  refine wp_region_noPanic ?_
  refine wp_region_held_drew (S := (fun w' => Below w0.heap.size w0 w' ∧ (w'.cell? ⟨w.heap.size, 0, none⟩ = some (.slice (some ⟨g1, o1, none⟩) 4 c1) ∧ w'.cell? ⟨w.heap.size, 1, none⟩ = some (.slice (some ⟨g2, o2, none⟩) 4 c2)) ∧ (w'.cell? ⟨g1, o1, none⟩ = some (.int .i64 a) ∧ w'.cell? ⟨g1, o1 + 1, none⟩ = some (.int .i64 b) ∧ w'.cell? ⟨g1, o1 + 2, none⟩ = some (.int .i64 c) ∧ w'.cell? ⟨g1, o1 + 3, none⟩ = some (.int .i64 d)) ∧ (w'.cell? ⟨g2, o2, none⟩ = some (.int .i64 e) ∧ w'.cell? ⟨g2, o2 + 1, none⟩ = some (.int .i64 f) ∧ w'.cell? ⟨g2, o2 + 2, none⟩ = some (.int .i64 g) ∧ w'.cell? ⟨g2, o2 + 3, none⟩ = some (.int .i64 h)))) (by kernel_rfl) (unhide K _ bA) (fun hHeld => ?_)
  refine take_at (i := 0) (d := 16) (v := ?_) rfl rfl (by kernel_rfl) (by kernel_rfl) (by kernel_rfl) (fun _ _ _ h => h) (Or.inl ⟨by rfl, ?_⟩) (by assumption) ?_
  rotate_left
  · intro w hSw
    try dsimp only at hSw
    go_simp
    try with_reducible rfl
  simp only [Act.put, List.setIfInBounds_toArray, List.set_cons_zero, List.set_cons_succ]
  refine take_at (i := 1) (d := 17) (v := ?_) rfl rfl (by kernel_rfl) (by kernel_rfl) (by kernel_rfl) (fun _ _ _ h => h) (Or.inl ⟨by rfl, ?_⟩) (by assumption) ?_
  rotate_left
  · intro w hSw
    try dsimp only at hSw
    go_simp
    try with_reducible rfl
  simp only [Act.put, List.setIfInBounds_toArray, List.set_cons_zero, List.set_cons_succ]
  refine take_at (i := 2) (d := 18) (v := ?_) rfl rfl (by kernel_rfl) (by kernel_rfl) (by kernel_rfl) (fun _ _ _ h => h) (Or.inl ⟨by rfl, ?_⟩) (by assumption) ?_
  rotate_left
  · intro w hSw
    try dsimp only at hSw
    go_simp
    try with_reducible rfl
  simp only [Act.put, List.setIfInBounds_toArray, List.set_cons_zero, List.set_cons_succ]
  refine take_at (i := 3) (d := 19) (v := ?_) rfl rfl (by kernel_rfl) (by kernel_rfl) (by kernel_rfl) (fun _ _ _ h => h) (Or.inl ⟨by rfl, ?_⟩) (by assumption) ?_
  rotate_left
  · intro w hSw
    try dsimp only at hSw
    go_simp
    try with_reducible rfl
  simp only [Act.put, List.setIfInBounds_toArray, List.set_cons_zero, List.set_cons_succ]
  refine take_at (i := 4) (d := 20) (v := ?_) rfl rfl (by kernel_rfl) (by kernel_rfl) (by kernel_rfl) (fun _ _ _ h => h) (Or.inl ⟨by rfl, ?_⟩) (by assumption) ?_
  rotate_left
  · intro w hSw
    try dsimp only at hSw
    go_simp
    try with_reducible rfl
  simp only [Act.put, List.setIfInBounds_toArray, List.set_cons_zero, List.set_cons_succ]
  refine take_at (i := 5) (d := 21) (v := ?_) rfl rfl (by kernel_rfl) (by kernel_rfl) (by kernel_rfl) (fun _ _ _ h => h) (Or.inl ⟨by rfl, ?_⟩) (by assumption) ?_
  rotate_left
  · intro w hSw
    try dsimp only at hSw
    go_simp
    try with_reducible rfl
  simp only [Act.put, List.setIfInBounds_toArray, List.set_cons_zero, List.set_cons_succ]
  refine take_at (i := 6) (d := 22) (v := ?_) rfl rfl (by kernel_rfl) (by kernel_rfl) (by kernel_rfl) (fun _ _ _ h => h) (Or.inl ⟨by rfl, ?_⟩) (by assumption) ?_
  rotate_left
  · intro w hSw
    try dsimp only at hSw
    go_simp
    try with_reducible rfl
  simp only [Act.put, List.setIfInBounds_toArray, List.set_cons_zero, List.set_cons_succ]
  refine take_at (i := 7) (d := 23) (v := ?_) rfl rfl (by kernel_rfl) (by kernel_rfl) (by kernel_rfl) (fun _ _ _ h => h) (Or.inl ⟨by rfl, ?_⟩) (by assumption) ?_
  rotate_left
  · intro w hSw
    try dsimp only at hSw
    go_simp
    try with_reducible rfl
  simp only [Act.put, List.setIfInBounds_toArray, List.set_cons_zero, List.set_cons_succ]
  refine take_at (i := 8) (d := 24) (v := ?_) rfl rfl (by kernel_rfl) (by kernel_rfl) (by kernel_rfl) (fun _ _ _ h => h) (Or.inl ⟨by rfl, ?_⟩) (by assumption) ?_
  rotate_left
  · intro w hSw
    try dsimp only at hSw
    go_simp
    try with_reducible rfl
  simp only [Act.put, List.setIfInBounds_toArray, List.set_cons_zero, List.set_cons_succ]
  refine ready_at (i := 9) rfl (by kernel_rfl) (fun KK hKK => ?_)
  go_simp
  have bB : Below w0.heap.size w0 (w0.alloc (.cells (b8 0 0 0 0 0 0 0 0) 89)).drew := Below.drew ((Below.refl _ _).alloc (Nat.le_refl _) _)
  clear hHeld
  refine hKK.out _ _ (unhide K _ bB) (fun hHeld => ?_)
  clear hKK KK
  refine ready_at (i := 10) rfl (by kernel_rfl) (fun KK hKK => ?_)
  go_simp
  clear hHeld
  refine hKK.out _ _ (unhide K _ (Below.drew ((Below.refl _ _).alloc (Nat.le_refl _) _))) (fun hHeld => ?_)
  clear hKK KK
  clear hHeld bB bA K A1 A2
  refine wpAnyH_done (by kernel_rfl) ?_ _
  refine NoPanic.normal ?_
  obtain ⟨w1, hw1⟩ : ∃ w1, (w0.alloc (.cells (b8 a b c d e f g h) 89)).drew = w1 := ⟨_, rfl⟩
  have B1 : Below w.heap.size w w1 := hw1 ▸ Below.drew (B0.alloc s0 _)
  have b1 : Below w0.heap.size w0 w1 := hw1 ▸ Below.drew ((Below.refl _ _).alloc (Nat.le_refl _) _)
  have R1 : Loc w1 (w.heap.size + 1) (b8 0 0 0 0 0 0 0 0) := R0.below b1 R0.lt
  have G1 : Loc w1 w0.heap.size (b8 a b c d e f g h) := hw1 ▸ loc_at w0 _ _ rfl
  have ne : w.heap.size + 1 < w0.heap.size := R0.lt
  rw [hw1]
  clear hw1 R0 L0 b1
  go_wp2_with fail
  refine wp_region_noPanic ?_
  refine wp_region_held_drew (S := (fun w' => (w'.cell? ⟨w0.heap.size, 0, none⟩ = some (.int .i64 a) ∧ w'.cell? ⟨w0.heap.size, 1, none⟩ = some (.int .i64 b) ∧ w'.cell? ⟨w0.heap.size, 2, none⟩ = some (.int .i64 c) ∧ w'.cell? ⟨w0.heap.size, 3, none⟩ = some (.int .i64 d)) ∧ (w'.cell? ⟨w0.heap.size, 4, none⟩ = some (.int .i64 e) ∧ w'.cell? ⟨w0.heap.size, 5, none⟩ = some (.int .i64 f) ∧ w'.cell? ⟨w0.heap.size, 6, none⟩ = some (.int .i64 g) ∧ w'.cell? ⟨w0.heap.size, 7, none⟩ = some (.int .i64 h)))) (by kernel_rfl) (show C8 w1.drew w0.heap.size a b c d e f g h from G1.c8) (fun hHeld => ?_)
  refine take_at (i := 0) (d := 25) (v := ?_) rfl rfl (by kernel_rfl) (by kernel_rfl) (by kernel_rfl) (fun _ _ _ h => h) (Or.inl ⟨by rfl, ?_⟩) (by assumption) ?_
  rotate_left
  · intro w hSw
    try dsimp only at hSw
    go_simp
    try with_reducible rfl
  simp only [Act.put, List.setIfInBounds_toArray, List.set_cons_zero, List.set_cons_succ]
  refine take_at (i := 1) (d := 26) (v := ?_) rfl rfl (by kernel_rfl) (by kernel_rfl) (by kernel_rfl) (fun _ _ _ h => h) (Or.inl ⟨by rfl, ?_⟩) (by assumption) ?_
  rotate_left
  · intro w hSw
    try dsimp only at hSw
    go_simp
    try with_reducible rfl
  simp only [Act.put, List.setIfInBounds_toArray, List.set_cons_zero, List.set_cons_succ]
  refine ready_at (i := 2) rfl (by kernel_rfl) (fun KK hKK => ?_)
  go_simp
  refine (unhide OK _).mono ?_
  rintro _ wa ⟨rfl, b2⟩
  have b2 := undrew b2
  have G2 := G1.below b2 G1.lt
  have R2 := R1.below b2 R1.lt
  have B2 := B1.trans (b2.mono B1.size)
  clear G1 R1 B1 b2
  clear hHeld
  refine hKK.out _ _ G2.c8 (fun hHeld => ?_)
  clear hKK KK
  obtain ⟨⟨y0, y1, y2, y3⟩, ⟨y4, y5, y6, y7⟩⟩ := R2.c8
  have FR := R2.frozen
  refine ready_at (i := 3) rfl (by kernel_rfl) (fun KK hKK => ?_)
  go_simp
  have G3 : Loc (put8 wa (w.heap.size + 1) a b c d e f g h) w0.heap.size (b8 a b c d e f g h) := G2.put8_other (by omega) _ _ _ _ _ _ _ _
  clear hHeld
  refine hKK.out _ _ G3.c8 (fun hHeld => ?_)
  clear hKK KK
  refine take_at (i := 4) (d := 3) (v := ?_) rfl rfl (by kernel_rfl) (by kernel_rfl) (by kernel_rfl) (fun _ _ _ h => h) (Or.inl ⟨by rfl, ?_⟩) (by assumption) ?_
  rotate_left
  · intro w hSw
    try dsimp only at hSw
    go_simp
    try with_reducible rfl
  simp only [Act.put, List.setIfInBounds_toArray, List.set_cons_zero, List.set_cons_succ]
  clear hHeld G3 G2 y0 y1 y2 y3 y4 y5 y6 y7 FR
  refine wpAnyH_done (by kernel_rfl) ?_ _
  refine NoPanic.normal ?_
  have F : Loc (put8 wa (w.heap.size + 1) a b c d e f g h) (w.heap.size + 1) (b8 a b c d e f g h) := R2.put8
  have B4 : Below w.heap.size w (put8 wa (w.heap.size + 1) a b c d e f g h) := put8_below B2 (by omega) _ _ _ _ _ _ _ _
  obtain ⟨w4, hw4⟩ : ∃ w4, (put8 wa (w.heap.size + 1) a b c d e f g h) = w4 := ⟨_, rfl⟩
  rw [hw4] at F B4
  unfold put8 at hw4
  rw [hw4]
  clear hw4 R2 B2
  obtain ⟨⟨y0, y1, y2, y3⟩, ⟨y4, y5, y6, y7⟩⟩ := F.c8
  go_wp2
  refine bodyPost_ret (v := .tuple #[bv a b c d e f g h, .bool q]) (by simp [results, Tryd.results59, go_sem, y0, y1, y2, y3, y4, y5, y6, y7]) rfl ?_
  exact ⟨rfl, B4⟩
end Go.Proofs.YthdehhenkgkkmaaDoor

/- LedgerOk of the program and of the specification. -/
namespace Go.Proofs.YthdehhenkgkkmaaDoor
open Go.RowKit
set_option linter.unusedSectionVars false
variable [∀ (a b c d : Int), Decidable (Ok4 a b c d)]
variable [∀ (m a b c d : Int), Decidable (In4 m a b c d)]

/-- Whether a ledger of these lists is right. -/
def LOk (xs ys : List Int) : Prop := xs.length = 4 ∧ ys.length = 4 ∧ (∀ k, k < 4 → (0 ≤ xs.getD k 0 ∧ xs.getD k 0 ≤ 400) ∧ (0 ≤ ys.getD k 0 ∧ ys.getD k 0 ≤ 100))
theorem lok_four (a b c d e f g h : Int) : LOk [a, b, c, d] [e, f, g, h] ↔ In4 400 a b c d ∧ In4 100 e f g h := by
  unfold LOk In4
  constructor
  · rintro ⟨_, _, h⟩
    have h0 := h 0 (by omega)
    have h1 := h 1 (by omega)
    have h2 := h 2 (by omega)
    have h3 := h 3 (by omega)
    simp at h0 h1 h2 h3
    exact ⟨⟨h0.1, h1.1, h2.1, h3.1⟩, ⟨h0.2, h1.2, h2.2, h3.2⟩⟩
  · rintro ⟨⟨p0, p1, p2, p3⟩, ⟨q0, q1, q2, q3⟩⟩
    refine ⟨rfl, rfl, fun k hk => ?_⟩
    match k, hk with
    | 0, _ => exact ⟨p0, q0⟩
    | 1, _ => exact ⟨p1, q1⟩
    | 2, _ => exact ⟨p2, q2⟩
    | 3, _ => exact ⟨p3, q3⟩
/-- The numbers of a ledger of four accounts, noughts of others. -/
def bookC (xs ys : List Int) : Array Value := if xs.length = 4 ∧ ys.length = 4 then b8 (xs.getD 0 0) (xs.getD 1 0) (xs.getD 2 0) (xs.getD 3 0) (ys.getD 0 0) (ys.getD 1 0) (ys.getD 2 0) (ys.getD 3 0) else b8 0 0 0 0 0 0 0 0

set_option maxHeartbeats 2000000 in
set_option maxRecDepth 100000 in
theorem bookOf_short (u v : Value) (xs ys : List Int) (w : World) (hu : RI w u xs) (hv : RI w v ys) (hn : xs.length ≠ 4 ∨ ys.length ≠ 4) :
    Calls Tryd.prog 59 #[lv u v] w fun o w' => o = .returned (.tuple #[bv 0 0 0 0 0 0 0 0, .bool false]) ∧ Below w.heap.size w w' := by
  obtain ⟨l1, a1, c1, rfl, _⟩ := hu
  obtain ⟨l2, a2, c2, rfl, _⟩ := hv
  by_cases h1 : xs.length = 4
  · have h2 : ys.length ≠ 4 := by omega
    clear hn
    go_enter Tryd.func59, Tryd.ntmps59
    go_wp2
    refine bodyPost_ret (v := .tuple #[bv 0 0 0 0 0 0 0 0, .bool false]) (by simp [results, Tryd.results59, go_sem]) rfl ?_
    exact ⟨rfl, ((Below.refl _ _).alloc (Nat.le_refl _) _).alloc (by simp) _⟩
  · clear hn
    go_enter Tryd.func59, Tryd.ntmps59
    go_wp2
    refine bodyPost_ret (v := .tuple #[bv 0 0 0 0 0 0 0 0, .bool false]) (by simp [results, Tryd.results59, go_sem]) rfl ?_
    exact ⟨rfl, ((Below.refl _ _).alloc (Nat.le_refl _) _).alloc (by simp) _⟩

variable [∀ (xs ys : List Int), Decidable (LOk xs ys)]
theorem bookOf_any (u v : Value) (xs ys : List Int) (w : World) (hu : RI w u xs) (hv : RI w v ys) :
    Calls Tryd.prog 59 #[lv u v] w fun o w' => o = .returned (.tuple #[.agg (bookC xs ys), .bool (decide (LOk xs ys))]) ∧ Below w.heap.size w w' := by
  by_cases h : xs.length = 4 ∧ ys.length = 4
  · obtain ⟨a, b, c, d, rfl⟩ := four_of h.1
    obtain ⟨e, f, g, k, rfl⟩ := four_of h.2
    have := bookOf_four u v a b c d e f g k w hu hv
    simpa only [lok_four, bookC, h, and_self, if_true, List.getD_cons_zero, List.getD_cons_succ] using this
  · have hn : ¬ LOk xs ys := fun k => h ⟨k.1, k.2.1⟩
    have := bookOf_short u v xs ys w hu hv (by omega)
    simpa only [bookC, h, if_false, hn, decide_false] using this
theorem bookC_form (xs ys : List Int) : ∃ a b c d e f g h : Int, bookC xs ys = b8 a b c d e f g h := by
  unfold bookC
  split
  · exact ⟨_, _, _, _, _, _, _, _, rfl⟩
  · exact ⟨_, _, _, _, _, _, _, _, rfl⟩

set_option maxHeartbeats 4000000 in
set_option maxRecDepth 100000 in
theorem specLedgerOk_four (u v : Value) (xs ys : List Int) (w : World) (hu : RI w u xs ∧ RI w v ys) (hx : xs.length = 4) (hy : ys.length = 4) :
    Calls Tryd.prog 56 #[lv u v] w fun o w' => o = .returned (.bool (decide (LOk xs ys))) ∧ Below w.heap.size w w' := by
  obtain ⟨⟨_, ua, uc, rfl, hu⟩, ⟨_, va, vc, rfl, hv⟩⟩ := hu
  obtain ⟨g1, o1, rfl, cu⟩ : ∃ g1 o1, ua = some ⟨g1, o1, none⟩ ∧ ∀ k, k < 4 → w.cell? ⟨g1, o1 + k, none⟩ = some (.int .i64 (xs.getD k 0)) := by
    rcases hu with rfl | ⟨g, o, h1, h2⟩
    · cases hx
    · exact ⟨g, o, h1, fun k hk => h2 k (by omega)⟩
  obtain ⟨g2, o2, rfl, cv⟩ : ∃ g1 o1, va = some ⟨g1, o1, none⟩ ∧ ∀ k, k < 4 → w.cell? ⟨g1, o1 + k, none⟩ = some (.int .i64 (ys.getD k 0)) := by
    rcases hv with rfl | ⟨g, o, h1, h2⟩
    · cases hy
    · exact ⟨g, o, h1, fun k hk => h2 k (by omega)⟩
  have HL : Hid (LOk xs ys ↔ ∀ k, k < 4 → (0 ≤ xs.getD k 0 ∧ xs.getD k 0 ≤ 400) ∧ (0 ≤ ys.getD k 0 ∧ ys.getD k 0 ≤ 100)) := hide ⟨fun h => h.2.2, fun h => ⟨hx, hy, h⟩⟩
  rw [hx, hy]
  clear hx hy hu hv
  obtain ⟨w0, hw0⟩ : ∃ w0, w.alloc (.cells #[.slice (some ⟨g1, o1, none⟩) 4 uc, .slice (some ⟨g2, o2, none⟩) 4 vc] 33) = w0 := ⟨_, rfl⟩
  have B0 : Below w.heap.size w w0 := hw0 ▸ (Below.refl _ _).alloc (Nat.le_refl _) _
  have L0 : Loc w0 w.heap.size #[.slice (some ⟨g1, o1, none⟩) 4 uc, .slice (some ⟨g2, o2, none⟩) 4 vc] := hw0 ▸ loc_at w _ _ rfl
  have p0 := L0.cell 0 rfl
  have p1 := L0.cell 1 rfl
  go_enter Tryd.func56, Tryd.ntmps56
  go_wp2
  clear hw0 L0
  go_loop [3] (fun i => ∃ k : Nat, k ≤ 4 ∧ i = .int .i64 k ∧ ∀ j, j < k → (0 ≤ xs.getD j 0 ∧ xs.getD j 0 ≤ 400) ∧ (0 ≤ ys.getD j 0 ∧ ys.getD j 0 ≤ 100)) (fun i => 4 - (intOf i).toNat)
  case atStart => exact ⟨0, Nat.zero_le _, rfl, fun j hj => by omega⟩
  case round =>
    obtain ⟨k, hk, rfl, hall⟩ := hrel
    have hall := hide hall
    by_cases hlt : k < 4
    · have x := (B0.cell (cell_lt (cu k hlt))).trans (cu k hlt)
      have y := (B0.cell (cell_lt (cv k hlt))).trans (cv k hlt)
      have HK := hide fun (h : LOk xs ys) => (unhide HL).1 h k hlt
      have HS : Hid ((0 ≤ xs.getD k 0 ∧ xs.getD k 0 ≤ 400) ∧ (0 ≤ ys.getD k 0 ∧ ys.getD k 0 ≤ 100) → ∀ j, j < k + 1 → (0 ≤ xs.getD j 0 ∧ xs.getD j 0 ≤ 400) ∧ (0 ≤ ys.getD j 0 ∧ ys.getD j 0 ≤ 100)) := hide fun h j hj => by
        by_cases e : j = k
        · subst e; exact h
        · exact unhide hall j (by omega)
      clear cu cv
      generalize xs.getD k 0 = p at *
      generalize ys.getD k 0 = q at *
      by_cases hp : 0 ≤ p ∧ p ≤ 400
      · by_cases hq : 0 ≤ q ∧ q ≤ 100
        · obtain ⟨hp1, hp2⟩ := hp
          obtain ⟨hq1, hq2⟩ := hq
          go_wp2_with (first | (go_at_call 54; refine (in_yes _ _ _ _ (by omega) (by omega)).mono ?_; rintro e w' ⟨rfl, rfl⟩))
          go_round
          case rel => exact ⟨k + 1, by omega, by go_num, unhide HS ⟨⟨hp1, hp2⟩, ⟨hq1, hq2⟩⟩⟩
          case measure => simp [intOf]; omega
        · have hno : decide (LOk xs ys) = false := by simp; exact fun h => hq (unhide HK h).2
          have hq' : q < 0 ∨ 100 < q := by omega
          obtain ⟨hp1, hp2⟩ := hp
          clear hq
          go_wp2_with (first | (go_at_call 54; refine (in_yes _ _ _ _ (by omega) (by omega)).mono ?_; rintro e w' ⟨rfl, rfl⟩) | (go_at_call 54; refine (in_no _ _ _ _ (by omega)).mono ?_; rintro e w' ⟨rfl, rfl⟩))
          go_ret
          exact ⟨by first | rfl | (rw [hno]; rfl), B0⟩
      · have hno : decide (LOk xs ys) = false := by simp; exact fun h => hp (unhide HK h).1
        have hp' : p < 0 ∨ 400 < p := by omega
        clear hp
        go_wp2_with (first | (go_at_call 54; refine (in_no _ _ _ _ (by omega)).mono ?_; rintro e w' ⟨rfl, rfl⟩))
        go_ret
        exact ⟨by first | rfl | (rw [hno]; rfl), B0⟩
    · have hyes : decide (LOk xs ys) = true := by simp; exact (unhide HL).2 fun j hj => unhide hall j (by omega)
      have hk4 : k = 4 := by omega
      subst hk4
      clear cu cv
      go_wp2
      go_ret
      exact ⟨by first | rfl | (rw [hyes]; rfl), B0⟩

set_option maxHeartbeats 2000000 in
set_option maxRecDepth 100000 in
theorem specLedgerOk_short (u v : Value) (xs ys : List Int) (w : World) (hu : RI w u xs ∧ RI w v ys) (hn : xs.length ≠ 4 ∨ ys.length ≠ 4) :
    Calls Tryd.prog 56 #[lv u v] w fun o w' => o = .returned (.bool false) ∧ Below w.heap.size w w' := by
  obtain ⟨⟨l1, a1, c1, rfl, _⟩, ⟨l2, a2, c2, rfl, _⟩⟩ := hu
  by_cases h1 : xs.length = 4
  · have h2 : ys.length ≠ 4 := by omega
    clear hn
    go_enter Tryd.func56, Tryd.ntmps56
    go_wp2
    go_ret
    exact ⟨rfl, (Below.refl _ _).alloc (Nat.le_refl _) _⟩
  · clear hn
    go_enter Tryd.func56, Tryd.ntmps56
    go_wp2
    go_ret
    exact ⟨rfl, (Below.refl _ _).alloc (Nat.le_refl _) _⟩
theorem specLedgerOk (u v : Value) (xs ys : List Int) (w : World) (hu : RI w u xs ∧ RI w v ys) :
    Calls Tryd.prog 56 #[lv u v] w fun o w' => o = .returned (.bool (decide (LOk xs ys))) ∧ Below w.heap.size w w' := by
  by_cases h : xs.length = 4 ∧ ys.length = 4
  · exact specLedgerOk_four u v xs ys w hu h.1 h.2
  · have hn : ¬ LOk xs ys := fun k => h ⟨k.1, k.2.1⟩
    have := specLedgerOk_short u v xs ys w hu (by omega)
    simpa only [hn, decide_false] using this
end Go.Proofs.YthdehhenkgkkmaaDoor

/- impl.copyInts. -/
namespace Go.Proofs.YthdehhenkgkkmaaDoor
open Go.RowKit
set_option linter.unusedSectionVars false
variable [∀ (a b c d : Int), Decidable (Ok4 a b c d)]
variable [∀ (m a b c d : Int), Decidable (In4 m a b c d)]
variable [∀ (xs ys : List Int), Decidable (LOk xs ys)]

theorem ints_plain (xs : List Int) (u : Value) (h : u ∈ xs.map (Value.int .i64)) : u.oneCell' = true := by
  obtain ⟨x, _, rfl⟩ := List.mem_map.1 h; rfl

theorem news_cells {w : World} {g off : Nat} {xs : List Int} (h : ∀ k, k < xs.length → w.cell? ⟨g, off + k, none⟩ = some (.int .i64 (xs.getD k 0))) :
    ∀ j u, (xs.map (Value.int .i64))[j]? = some u → w.cell? ((⟨g, off, none⟩ : Addr).add j) = some u := by
  intro j u hj
  rw [List.getElem?_map] at hj
  obtain ⟨x, hx, rfl⟩ := Option.map_eq_some_iff.1 hj
  have hlt := (List.getElem?_eq_some_iff.1 hx).1
  have e : ((⟨g, off, none⟩ : Addr).add j) = ⟨g, off + j, none⟩ := by unfold Addr.add; split <;> simp_all
  rw [e, h j hlt]
  simp [List.getD_eq_getElem?_getD, hx]

set_option maxHeartbeats 1600000 in
set_option maxRecDepth 100000 in
theorem copyInts_at (ad : Addr) (cap : Nat) (xs : List Int) (w : World) (hl : xs.length ≤ 4194304) (hc : ∀ j u, (xs.map (Value.int .i64))[j]? = some u → w.cell? (ad.add j) = some u) :
    Calls Tryd.prog 60 #[.slice (some ad) xs.length cap] w fun e w' => ∃ u, e = .returned u ∧ OI w' w.heap.size u xs ∧ Below w.heap.size w w' := by
  obtain ⟨i0, hi, hz0, hz1, hz2⟩ := info_parts Tryd.info3
  go_enter Tryd.func60, Tryd.ntmps60
  go_wp2_with (first | (at_builtin; refine wpList_append_own _ rfl _ _ 31 rfl w.heap.size 3 i0 (.int .i64 0) 1 8 Tryd.underlying31 hi hz0 hz1 hz2 rfl (by decide) (.slice none 0 0) 0 [] rfl (World.ownsRow_nil _ _ _ _) ad xs.length cap (xs.map (Value.int .i64)) rfl (by simp) hc (ints_plain xs) (by unfold maxLen; omega) (by omega) (Nat.le_refl _) ?_; intro v' w1 ho' hg' _))
  go_ret
  exact ⟨_, rfl, by simpa [OI] using ho', (Below.refl _ _).grown hg' (Nat.le_refl _) (by simp [Value.ownBlock])⟩

set_option maxHeartbeats 1600000 in
set_option maxRecDepth 100000 in
theorem copyInts_none (cap : Nat) (w : World) :
    Calls Tryd.prog 60 #[.slice none 0 cap] w fun e w' => ∃ u, e = .returned u ∧ OI w' w.heap.size u [] ∧ Below w.heap.size w w' := by
  go_enter Tryd.func60, Tryd.ntmps60
  go_wp2
  go_ret
  exact ⟨_, rfl, World.ownsRow_nil _ _ _ _, Below.refl _ _⟩
theorem copyInts_any (v : Value) (xs : List Int) (w : World) (h : RI w v xs) :
    Calls Tryd.prog 60 #[v] w fun e w' => ∃ u, e = .returned u ∧ OI w' w.heap.size u xs ∧ Below w.heap.size w w' := by
  obtain ⟨hl, ao, cap, rfl, h⟩ := h
  rcases h with rfl | ⟨g, off, rfl, h⟩
  · match ao with
    | none => exact copyInts_none cap w
    | some ad => exact copyInts_at ad cap [] w (by simp) (fun j u hj => by simp at hj)
  · exact copyInts_at _ cap xs w hl (news_cells h)
end Go.Proofs.YthdehhenkgkkmaaDoor

/- (impl.book).ledger: the lists of a book, in memory of their own. -/
namespace Go.Proofs.YthdehhenkgkkmaaDoor
open Go.RowKit
set_option linter.unusedSectionVars false
variable [∀ (a b c d : Int), Decidable (Ok4 a b c d)]
variable [∀ (m a b c d : Int), Decidable (In4 m a b c d)]
variable [∀ (xs ys : List Int), Decidable (LOk xs ys)]

theorem ri_has {w : World} {G : Nat} {a b c d e f g h : Int} (l : Loc w G (b8 a b c d e f g h)) : RI w (.slice (some ⟨G, 0, none⟩) 4 4) [a, b, c, d] := by
  refine ⟨by simp, some ⟨G, 0, none⟩, 4, rfl, .inr ⟨G, 0, rfl, fun k hk => ?_⟩⟩
  match k, hk with
  | 0, _ => exact l.cell 0 rfl
  | 1, _ => exact l.cell 1 rfl
  | 2, _ => exact l.cell 2 rfl
  | 3, _ => exact l.cell 3 rfl
theorem ri_next {w : World} {G : Nat} {a b c d e f g h : Int} (l : Loc w G (b8 a b c d e f g h)) : RI w (.slice (some ⟨G, 4, none⟩) 4 4) [e, f, g, h] := by
  refine ⟨by simp, some ⟨G, 4, none⟩, 4, rfl, .inr ⟨G, 4, rfl, fun k hk => ?_⟩⟩
  match k, hk with
  | 0, _ => exact l.cell 4 rfl
  | 1, _ => exact l.cell 5 rfl
  | 2, _ => exact l.cell 6 rfl
  | 3, _ => exact l.cell 7 rfl

set_option maxHeartbeats 8000000 in
set_option maxRecDepth 100000 in
theorem ledger_any (a b c d e f g h : Int) (w : World) :
    Calls Tryd.prog 61 #[bv a b c d e f g h] w fun o w' => ∃ u v, o = .returned (lv u v) ∧ OL w' w.heap.size w'.heap.size u v [a, b, c, d] [e, f, g, h] ∧ Below w.heap.size w w' := by
  obtain ⟨w0, hw0⟩ : ∃ w0, (w.alloc (.cells (b8 a b c d e f g h) 89)).alloc (.cells #[.slice none 0 0, .slice none 0 0] 33) = w0 := ⟨_, rfl⟩
  have B0 : Below w.heap.size w w0 := hw0 ▸ ((Below.refl _ _).alloc (Nat.le_refl _) _).alloc (by simp) _
  have L0 : Loc w0 w.heap.size (b8 a b c d e f g h) := hw0 ▸ (loc_at w _ _ rfl).alloc _
  have R0 : Loc w0 (w.heap.size + 1) #[.slice none 0 0, .slice none 0 0] := hw0 ▸ loc_at _ _ _ (by simp)
  go_enter Tryd.func61, Tryd.ntmps61
  go_wp2_with fail
  clear hw0
  refine wp_region_noPanic ?_
  refine wp_region_held_drew (S := (fun w' => (w'.cell? ⟨w.heap.size, 0, none⟩ = some (.int .i64 a) ∧ w'.cell? ⟨w.heap.size, 1, none⟩ = some (.int .i64 b) ∧ w'.cell? ⟨w.heap.size, 2, none⟩ = some (.int .i64 c) ∧ w'.cell? ⟨w.heap.size, 3, none⟩ = some (.int .i64 d)) ∧ (w'.cell? ⟨w.heap.size, 4, none⟩ = some (.int .i64 e) ∧ w'.cell? ⟨w.heap.size, 5, none⟩ = some (.int .i64 f) ∧ w'.cell? ⟨w.heap.size, 6, none⟩ = some (.int .i64 g) ∧ w'.cell? ⟨w.heap.size, 7, none⟩ = some (.int .i64 h)))) (by kernel_rfl) (show C8 w0.drew w.heap.size a b c d e f g h from L0.c8) (fun hHeld => ?_)
  refine take_at (i := 0) (d := 3) (v := ?_) rfl rfl (by kernel_rfl) (by kernel_rfl) (by kernel_rfl) (fun _ _ _ h => h) (Or.inl ⟨by rfl, ?_⟩) (by assumption) ?_
  rotate_left
  · intro w hSw
    try dsimp only at hSw
    go_simp
    try with_reducible rfl
  simp only [Act.put, List.setIfInBounds_toArray, List.set_cons_zero, List.set_cons_succ]
  refine take_at (i := 1) (d := 4) (v := ?_) rfl rfl (by kernel_rfl) (by kernel_rfl) (by kernel_rfl) (fun _ _ _ h => h) (Or.inl ⟨by rfl, ?_⟩) (by assumption) ?_
  rotate_left
  · intro w hSw
    try dsimp only at hSw
    go_simp
    try with_reducible rfl
  simp only [Act.put, List.setIfInBounds_toArray, List.set_cons_zero, List.set_cons_succ]
  refine take_at (i := 3) (d := 6) (v := ?_) rfl rfl (by kernel_rfl) (by kernel_rfl) (by kernel_rfl) (fun _ _ _ h => h) (Or.inl ⟨by rfl, ?_⟩) (by assumption) ?_
  rotate_left
  · intro w hSw
    try dsimp only at hSw
    go_simp
    try with_reducible rfl
  simp only [Act.put, List.setIfInBounds_toArray, List.set_cons_zero, List.set_cons_succ]
  refine take_at (i := 4) (d := 7) (v := ?_) rfl rfl (by kernel_rfl) (by kernel_rfl) (by kernel_rfl) (fun _ _ _ h => h) (Or.inl ⟨by rfl, ?_⟩) (by assumption) ?_
  rotate_left
  · intro w hSw
    try dsimp only at hSw
    go_simp
    try with_reducible rfl
  simp only [Act.put, List.setIfInBounds_toArray, List.set_cons_zero, List.set_cons_succ]
  refine ready_at (i := 2) rfl (by kernel_rfl) (fun KK hKK => ?_)
  go_simp
  refine (copyInts_any _ [a, b, c, d] _ (ri_has (w := w0.drew) L0)).mono ?_
  rintro _ w1 ⟨u, rfl, o1, b1⟩
  have b1 := undrew b1
  have L1 := L0.below b1 L0.lt
  have R1 := R0.below b1 R0.lt
  have B1 := B0.trans (b1.mono B0.size)
  have s1 := b1.size
  have t1 := World.ownsRow.lt o1
  clear hHeld
  refine hKK.out _ _ L1.c8 (fun hHeld => ?_)
  clear hKK KK
  refine ready_at (i := 5) rfl (by kernel_rfl) (fun KK hKK => ?_)
  go_simp
  refine (copyInts_any _ [e, f, g, h] _ (ri_next L1)).mono ?_
  rintro _ w2 ⟨v, rfl, o2, b2⟩
  have L2 := L1.below b2 L1.lt
  have R2 := R1.below b2 R1.lt
  have B2 := B1.trans (b2.mono B1.size)
  have s2 := b2.size
  have t2 := World.ownsRow.lt o2
  have o1' := o1.below b2
  clear hHeld
  refine hKK.out _ _ L2.c8 (fun hHeld => ?_)
  clear hKK KK
  obtain ⟨ua, uc, rfl⟩ := o1.form
  obtain ⟨va, vc, rfl⟩ := o2.form
  refine take_at (i := 6) (d := 9) (v := ?_) rfl rfl (by kernel_rfl) (by kernel_rfl) (by kernel_rfl) (fun _ _ _ h => h) (Or.inl ⟨by rfl, ?_⟩) (by assumption) ?_
  rotate_left
  · intro w hSw
    try dsimp only at hSw
    go_simp
    try with_reducible rfl
  simp only [Act.put, List.setIfInBounds_toArray, List.set_cons_zero, List.set_cons_succ]
  have y0 := R2.cell 0 rfl
  have y1 := R2.cell 1 rfl
  have FR := R2.frozen
  refine ready_at (i := 7) rfl (by kernel_rfl) (fun KK hKK => ?_)
  go_simp
  have L3 := (L2.other (p := ⟨w.heap.size + 1, 0, none⟩) (by simp) (.slice ua [a, b, c, d].length uc)).other (p := ⟨w.heap.size + 1, 1, none⟩) (by simp) (.slice va [e, f, g, h].length vc)
  clear hHeld
  refine hKK.out _ _ L3.c8 (fun hHeld => ?_)
  clear hKK KK
  clear hHeld L3 L2 L1 L0
  refine wpAnyH_done (by kernel_rfl) ?_ _
  refine NoPanic.normal ?_
  go_wp2
  refine bodyPost_ret (v := lv (.slice ua [a, b, c, d].length uc) (.slice va [e, f, g, h].length vc)) (by simp [results, Tryd.results61, go_sem, y0, y1]) rfl ?_
  have K3 : Kp w2 ((w2.setCell ⟨w.heap.size + 1, 0, none⟩ (.slice ua [a, b, c, d].length uc)).setCell ⟨w.heap.size + 1, 1, none⟩ (.slice va [e, f, g, h].length vc)) (fun k => k = w.heap.size + 1) := (set_kp w2 _ 0 _).trans (set_kp _ _ 1 _)
  have ls := R0.lt
  refine ⟨_, _, rfl, ⟨?_, ?_, ?_, ?_, ?_⟩, ?_⟩
  · exact (o1'.kp K3 (fun k hk => by have := t1 k hk; simp at this; omega)).mono (by simp; omega)
  · exact (o2.kp K3 (fun k hk => by have := t2 k hk; omega)).mono (by omega)
  · intro k hk; have := t1 k hk; simp; omega
  · intro k hk; have := t2 k hk; simp; omega
  · intro k hk h'; have := t1 k hk; have := t2 k h'; omega
  · exact Below.set (Below.set B2 _ _ (by omega)) _ _ (by omega)
end Go.Proofs.YthdehhenkgkkmaaDoor

/- LedgerNew of the program and of the specification. -/
namespace Go.Proofs.YthdehhenkgkkmaaDoor
open Go.RowKit
set_option linter.unusedSectionVars false
variable [∀ (a b c d : Int), Decidable (Ok4 a b c d)]
variable [∀ (m a b c d : Int), Decidable (In4 m a b c d)]
variable [∀ (xs ys : List Int), Decidable (LOk xs ys)]

theorem own_form {w : World} {base size n : Nat} {e : TypeId} {v : Value} {xs : List Value} (h : w.ownsRow base e size v n xs) (hn : 0 < n) : ∃ g cap, v = .slice (some ⟨g, 0, none⟩) n cap := by
  rcases h.2 with ⟨_, h0⟩ | ⟨g, cap, cur, rfl, _⟩
  · omega
  · exact ⟨g, cap, rfl⟩
theorem OI.more {B : Nat} {w1 : World} {v' : Value} {xs : List Int} {c : Int} (ho' : w1.ownsRow B 3 1 v' (xs.length + 1) (xs.map (Value.int .i64) ++ [.int .i64 c])) : OI w1 B v' (xs ++ [c]) := by
  unfold OI; simpa using ho'

set_option maxHeartbeats 4000000 in
set_option maxRecDepth 100000 in
theorem specLedgerNew (w : World) :
    Calls Tryd.prog 66 #[] w fun o w' => ∃ u v, o = .returned (lv u v) ∧ OL w' w.heap.size w'.heap.size u v [100, 100, 100, 100] [0, 0, 0, 0] ∧ Below w.heap.size w w' := by
  obtain ⟨i0, hi, hz0, hz1, hz2⟩ := info_parts Tryd.info3
  go_enter Tryd.func66, Tryd.ntmps66
  go_wp2_with (first | (at_make; refine wpList_make_full _ rfl _ _ 31 rfl (w.heap.size + 1) 3 i0 (.int .i64 0) 1 Tryd.underlying31 hi hz0 hz1 .i64 .i64 4 4 4 rfl rfl rfl rfl (by rw [hz2]; omega) (by unfold maxLen; omega) (by simp) ?_; intro w0 ho0 hg0))
  have e0 : (madeCells (Value.int IntKind.i64 0).cells (4 * 1)).toList = [(0 : Int), 0, 0, 0].map (Value.int .i64) := toList_madeCells_one _ _
  rw [e0] at ho0
  have on0 : OI w0 (w.heap.size + 1) (.slice (some ⟨(w.alloc (.cells #[.slice none 0 0, .slice none 0 0] 33)).heap.size, 0, none⟩) 4 4) [0, 0, 0, 0] := ho0
  have B0 : Below w.heap.size w w0 := ((Below.refl w.heap.size w).alloc (Nat.le_refl _) _).grown hg0 (by simp) (by simp)
  have R0 : Loc w0 w.heap.size #[.slice none 0 0, .slice none 0 0] := (loc_at w _ _ rfl).kp (kp_grown hg0) (by simp)
  have s0 := hg0.size
  have lt0 := World.ownsRow.lt on0
  simp at s0 lt0 on0
  have lt0 : w.heap.size + 1 < w0.heap.size := (lt0 (w.heap.size + 1) rfl).2
  clear ho0 hg0 e0
  go_loopw [2] (fun i wr => ∃ (k : Nat) (v : Value), k ≤ 4 ∧ i = .int .i64 k ∧ Loc wr w0.heap.size #[v, (.slice (some ⟨w.heap.size + 1, 0, none⟩) 4 4)] ∧ Loc wr w.heap.size #[.slice none 0 0, .slice none 0 0] ∧ OI wr (w0.heap.size + 1) v (List.replicate k 100) ∧ OI wr (w.heap.size + 1) (.slice (some ⟨w.heap.size + 1, 0, none⟩) 4 4) [0, 0, 0, 0] ∧ w0.heap.size + 1 ≤ wr.heap.size ∧ Below w.heap.size w wr) (fun i _ => 4 - (intOf i).toNat)
  case atStart => exact ⟨0, _, Nat.zero_le _, rfl, loc_at w0 _ _ rfl, R0.alloc _, World.ownsRow_nil _ _ _ _, on0.below ((Below.refl _ _).alloc (Nat.le_refl _) _), by simp, B0.alloc B0.size _⟩
  case round =>
    clear on0 B0 R0
    obtain ⟨k, v, hk, rfl, L, R, ho, on, sr, B⟩ := hrel
    have B := hide B
    have R := hide R
    have on := hide on
    obtain ⟨va, vc, hv⟩ := ho.form
    subst hv
    rw [List.length_replicate] at *
    have x0 := L.cell 0 rfl
    have x1 := L.cell 1 rfl
    have FL := L.frozen
    have L := hide L
    by_cases hlt : k < 4
    · have ho0 : wr.ownsRow (w0.heap.size + 1) 3 1 (.slice va k vc) k ((List.replicate k (100 : Int)).map (Value.int .i64)) := by have := ho; unfold OI at this; rwa [List.length_replicate] at this
      have lto := World.ownsRow.lt ho0
      clear ho
      go_wp2_with (first
        | (at_builtin; refine wpList_append_own _ rfl _ _ 31 rfl (w0.heap.size + 1) 3 i0 (.int .i64 0) 1 8 Tryd.underlying31 hi hz0 hz1 hz2 rfl (by decide) (.slice va k vc) _ _ rfl (ho0.alloc _) ⟨wr.heap.size, 0, none⟩ 1 1 [.int .i64 100] rfl rfl (one_cell _ _ _) (one_plain _ _) (by unfold maxLen; omega) (by omega) (by simp; omega) ?_; intro v' w1 ho' hg' _
           obtain ⟨g', c', rfl⟩ := own_form ho' (by omega)
           have k1 : Kp wr w1 (fun j => (Value.slice va k vc).ownBlock = some j) := (Below.kpOf ((Below.refl _ _).alloc (Nat.le_refl _) _) _).trans (kp_grown hg')
           have L1 := (unhide L).kp k1 (fun e => by have := (lto _ e).1; omega)
           have R1 := hide ((unhide R).kp k1 (fun e => by have := (lto _ e).1; omega))
           have on1 := hide ((unhide on).kp k1 (fun j hj e => by have := (lto _ e).1; simp [Value.ownBlock] at hj; omega))
           have B1 := hide (Below.kp (unhide B) k1 (unhide B).size (fun j e => by have := (lto _ e).1; omega))
           have s1 := k1.size
           have x0 := L1.cell 0 rfl
           have x1 := L1.cell 1 rfl
           have FL := L1.frozen
           have L1 := hide L1
           have ho1 : OI w1 (w0.heap.size + 1) (.slice (some ⟨g', 0, none⟩) (k + 1) c') (List.replicate (k + 1) 100) := by
             unfold OI; rw [List.replicate_succ']; simpa using ho'
           have lt1 := World.ownsRow.lt ho1 g' rfl
           have ho1 := hide ho1
           clear k1 hg' ho' ho0))
      go_roundw
      case rel => exact ⟨k + 1, _, by omega, by go_num, (unhide L1).set 0 _ rfl, (unhide R1).other (by simp; omega) _, (unhide ho1).kp (set_kp _ _ _ _) (fun j hj e => by simp [Value.ownBlock] at hj; omega), (unhide on1).kp (set_kp _ _ _ _) (fun j hj e => by simp [Value.ownBlock] at hj; omega), by simp; omega, Below.set (unhide B1) _ _ (by omega)⟩
      case measure => simp [intOf]; omega
    · have hk4 : k = 4 := by omega
      subst hk4
      have ho := hide ho
      have y0 := (unhide R).cell 0 rfl
      have y1 := (unhide R).cell 1 rfl
      have FR := (unhide R).frozen
      have lto := World.ownsRow.lt (unhide ho)
      have ltn := World.ownsRow.lt (unhide on)
      go_wp2
      refine bodyPost_ret (v := lv (.slice va 4 vc) (.slice (some ⟨w.heap.size + 1, 0, none⟩) 4 4)) (by simp [results, Tryd.results66, go_sem, y0, y1]) rfl ?_
      have K : Kp wr ((wr.setCell ⟨w.heap.size, 0, none⟩ (.slice va 4 vc)).setCell ⟨w.heap.size, 1, none⟩ (.slice (some ⟨w.heap.size + 1, 0, none⟩) 4 4)) (fun k => k = w.heap.size) := (set_kp wr _ 0 _).trans (set_kp _ _ 1 _)
      refine ⟨_, _, rfl, ⟨((unhide ho).kp K (fun k hk e => by have := (lto k hk).1; omega)).mono (by omega), ((unhide on).kp K (fun k hk e => by have := (ltn k hk).1; omega)).mono (by omega), fun k hk => by have := (lto k hk).2; simp; omega, fun k hk => by have := (ltn k hk).2; simp; omega, fun k hk h' => ?_⟩, ?_⟩
      · have := (lto k hk).1; simp [Value.ownBlock] at h'; omega
      · exact Below.set (Below.set (unhide B) _ _ (Nat.le_refl _)) _ _ (Nat.le_refl _)
end Go.Proofs.YthdehhenkgkkmaaDoor

/- What Pay answers: plain mathematics of lists. -/
namespace Go.Proofs.YthdehhenkgkkmaaDoor
open Go.RowKit
set_option linter.unusedSectionVars false
variable [∀ (a b c d : Int), Decidable (Ok4 a b c d)]
variable [∀ (m a b c d : Int), Decidable (In4 m a b c d)]
variable [∀ (xs ys : List Int), Decidable (LOk xs ys)]

/-- What a payment makes of a right ledger, and its code. -/
def paidB (xs ys : List Int) (a b c d : Int) : List Int × List Int × Int :=
  if ¬ Ok4 a b c d then (xs, ys, 1)
  else if d < ys.getD a.toNat 0 then (xs, ys, 2)
  else if ys.getD a.toNat 0 < d then (xs, ys, 3)
  else if xs.getD a.toNat 0 < c then (xs, ys.set a.toNat (d + 1), 4)
  else if LOk ((xs.set a.toNat (xs.getD a.toNat 0 - c)).set b.toNat ((xs.set a.toNat (xs.getD a.toNat 0 - c)).getD b.toNat 0 + c)) (ys.set a.toNat (d + 1)) then
    ((xs.set a.toNat (xs.getD a.toNat 0 - c)).set b.toNat ((xs.set a.toNat (xs.getD a.toNat 0 - c)).getD b.toNat 0 + c), ys.set a.toNat (d + 1), 0)
  else (xs, ys, 1)
/-- What Pay answers. -/
def payAns (xs ys : List Int) (a b c d : Int) : List Int × List Int × Int := if LOk xs ys then paidB xs ys a b c d else (xs, ys, 1)

theorem getD_set {xs : List Int} {A j : Nat} {v : Int} (h : A < xs.length) : (xs.set A v).getD j 0 = if A = j then v else xs.getD j 0 := by
  rw [List.getD_eq_getElem?_getD, List.getElem?_set, List.getD_eq_getElem?_getD]
  by_cases e : A = j
  · rw [if_pos e, if_pos e, if_pos h]; rfl
  · rw [if_neg e, if_neg e]
theorem lok_set {xs ys : List Int} {A : Nat} {v : Int} (h : LOk xs ys) (hA : A < 4) (h0 : 0 ≤ v) (h1 : v ≤ 100) : LOk xs (ys.set A v) := by
  obtain ⟨hx, hy, h⟩ := h
  refine ⟨hx, by simpa using hy, fun k hk => ⟨(h k hk).1, ?_⟩⟩
  rw [getD_set (by omega)]
  split
  · exact ⟨h0, h1⟩
  · exact (h k hk).2
theorem paidB_ok {xs ys : List Int} {a b c d : Int} (h : LOk xs ys) : LOk (paidB xs ys a b c d).1 (paidB xs ys a b c d).2.1 := by
  unfold paidB
  split
  · exact h
  · rename_i ho
    simp only [Decidable.not_not] at ho
    have ho' := ho
    unfold Ok4 at ho'
    split
    · exact h
    · split
      · exact h
      · split
        · exact lok_set h (by omega) (by omega) (by omega)
        · split
          · rename_i h5; exact h5
          · exact h
theorem paidB_len {xs ys : List Int} {a b c d : Int} : (paidB xs ys a b c d).1.length = xs.length ∧ (paidB xs ys a b c d).2.1.length = ys.length := by
  unfold paidB
  repeat' split
  all_goals simp
theorem payAns_len {xs ys : List Int} {a b c d : Int} : (payAns xs ys a b c d).1.length = xs.length ∧ (payAns xs ys a b c d).2.1.length = ys.length := by
  unfold payAns
  split
  · exact paidB_len
  · simp

/-- The cells of a book of these lists. -/
abbrev b8L (xs ys : List Int) : Array Value := b8 (xs.getD 0 0) (xs.getD 1 0) (xs.getD 2 0) (xs.getD 3 0) (ys.getD 0 0) (ys.getD 1 0) (ys.getD 2 0) (ys.getD 3 0)
theorem b8L_next {xs ys : List Int} (hy : ys.length = 4) (A : Nat) (hA : A < 4) (v : Int) : (b8L xs ys).setIfInBounds (4 + A) (.int .i64 v) = b8L xs (ys.set A v) := by
  obtain ⟨e, f, g, h, rfl⟩ := four_of hy
  match A, hA with
  | 0, _ => rfl
  | 1, _ => rfl
  | 2, _ => rfl
  | 3, _ => rfl
theorem b8L_has {xs ys : List Int} (hx : xs.length = 4) (A : Nat) (hA : A < 4) (v : Int) : (b8L xs ys).setIfInBounds A (.int .i64 v) = b8L (xs.set A v) ys := by
  obtain ⟨e, f, g, h, rfl⟩ := four_of hx
  match A, hA with
  | 0, _ => rfl
  | 1, _ => rfl
  | 2, _ => rfl
  | 3, _ => rfl
theorem Loc.hasAt {w : World} {G : Nat} {xs ys : List Int} (l : Loc w G (b8L xs ys)) (A : Nat) (hA : A < 4) : w.cell? ⟨G, A, none⟩ = some (.int .i64 (xs.getD A 0)) := by
  match A, hA with
  | 0, _ => exact l.cell 0 rfl
  | 1, _ => exact l.cell 1 rfl
  | 2, _ => exact l.cell 2 rfl
  | 3, _ => exact l.cell 3 rfl
theorem Loc.nextAt {w : World} {G : Nat} {xs ys : List Int} (l : Loc w G (b8L xs ys)) (A : Nat) (hA : A < 4) : w.cell? ⟨G, 4 + A, none⟩ = some (.int .i64 (ys.getD A 0)) := by
  match A, hA with
  | 0, _ => exact l.cell 4 rfl
  | 1, _ => exact l.cell 5 rfl
  | 2, _ => exact l.cell 6 rfl
  | 3, _ => exact l.cell 7 rfl
end Go.Proofs.YthdehhenkgkkmaaDoor
