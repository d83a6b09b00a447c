/- (impl.book).ok: whether each number of a book lies within its limits. -/
import Derived.Test.YtlglekfmiacdnaaBounded
import Derived.Test.YtlglekfmiacdnaaHeldBy
namespace Go.Proofs.Ytlglekfmiacdnaa
open Go.RowKit
set_option linter.unusedSectionVars false

/-- A book as a value; its cells. -/
abbrev b8 (a b c d e f g h : Int) : Array Value := #[.int .i64 a, .int .i64 b, .int .i64 c, .int .i64 d, .int .i64 e, .int .i64 f, .int .i64 g, .int .i64 h]
abbrev bv (a b c d e f g h : Int) : Value := .agg (b8 a b c d e f g h)
/-- Four numbers within 0 .. m. -/
def In4 (m a b c d : Int) : Prop := (0 ≤ a ∧ a ≤ m) ∧ (0 ≤ b ∧ b ≤ m) ∧ (0 ≤ c ∧ c ≤ m) ∧ (0 ≤ d ∧ d ≤ m)
variable [∀ (m a b c d : Int), Decidable (In4 m a b c d)]
/-- The cells of a book at block g. -/
def C8 (w : World) (G : Nat) (a b c d e f g h : Int) : Prop :=
  (w.cell? ⟨G, 0, none⟩ = some (.int .i64 a) ∧ w.cell? ⟨G, 1, none⟩ = some (.int .i64 b) ∧ w.cell? ⟨G, 2, none⟩ = some (.int .i64 c) ∧ w.cell? ⟨G, 3, none⟩ = some (.int .i64 d)) ∧
  (w.cell? ⟨G, 4, none⟩ = some (.int .i64 e) ∧ w.cell? ⟨G, 5, none⟩ = some (.int .i64 f) ∧ w.cell? ⟨G, 6, none⟩ = some (.int .i64 g) ∧ w.cell? ⟨G, 7, none⟩ = some (.int .i64 h))
theorem Loc.c8 {w : World} {G : Nat} {a b c d e f g h : Int} (l : Loc w G (b8 a b c d e f g h)) : C8 w G a b c d e f g h :=
  ⟨⟨l.cell 0 rfl, l.cell 1 rfl, l.cell 2 rfl, l.cell 3 rfl⟩, ⟨l.cell 4 rfl, l.cell 5 rfl, l.cell 6 rfl, l.cell 7 rfl⟩⟩

set_option maxHeartbeats 1000000 in
theorem row_eq (n : Nat) (a b c d a' b' c' d' : Int) (w : World) : (Op.equalIn (n + 2) 71 (rv a b c d) (rv a' b' c' d')).run Try.prog w = .ok (decide (a = a' ∧ b = b' ∧ c = c' ∧ d = d')) w := by
  have hs : ∀ w, (Go.sizeOf 3).run Try.prog w = .ok 1 w := by intro w; simp [go_sem]
  have hp : ∀ (w : World) (cs : Array Value) (j : Nat) (x : Int), cs[j]? = some (.int .i64 x) → (part 3 cs j).run Try.prog w = .ok (.int .i64 x) w := by
    intro w cs j x h
    simp [part, hs, h]
  have p0 := fun w (x y z u : Int) => hp w (r4 x y z u) 0 x rfl
  have p1 := fun w (x y z u : Int) => hp w (r4 x y z u) 1 y rfl
  have p2 := fun w (x y z u : Int) => hp w (r4 x y z u) 2 z rfl
  have p3 := fun w (x y z u : Int) => hp w (r4 x y z u) 3 u rfl
  have he := fun w (x y : Int) => run_equalIn_int (P := Try.prog) w n 3 .i64 .i64 x y Try.underlying3
  rw [Op.equalIn]
  simp only [Sem.run_bind, run_underlying Try.underlying71, Result.andThen_ok, hs, Std.Legacy.Range.forIn_eq_forIn_range', Std.Legacy.Range.size, show List.range' 0 ((4 - 0 + 1 - 1) / 1) 1 = [0, 1, 2, 3] from rfl, List.forIn_cons, Nat.mul_one, p0, he]
  by_cases h0 : a = a'
  · by_cases h1 : b = b'
    · by_cases h2 : c = c'
      · by_cases h3 : d = d'
        · simp [h0, h1, h2, h3, p1, p2, p3, he]
        · simp [h0, h1, h2, h3, p1, p2, p3, he]
      · simp [h0, h1, h2, p1, p2, he]
    · simp [h0, h1, p1, he]
  · simp [h0]
theorem In4.same {m a b c d : Int} (h : In4 m a b c d) : cl m a = a ∧ cl m b = b ∧ cl m c = c ∧ cl m d = d := ⟨cl_same.2 h.1, cl_same.2 h.2.1, cl_same.2 h.2.2.1, cl_same.2 h.2.2.2⟩
theorem In4.iff (m a b c d : Int) : (a = cl m a ∧ b = cl m b ∧ c = cl m c ∧ d = cl m d) ↔ In4 m a b c d := by
  unfold In4
  constructor
  · rintro ⟨h1, h2, h3, h4⟩; exact ⟨cl_same.1 h1.symm, cl_same.1 h2.symm, cl_same.1 h3.symm, cl_same.1 h4.symm⟩
  · rintro ⟨h1, h2, h3, h4⟩; exact ⟨(cl_same.2 h1).symm, (cl_same.2 h2).symm, (cl_same.2 h3).symm, (cl_same.2 h4).symm⟩

set_option maxHeartbeats 8000000 in
set_option maxRecDepth 100000 in
theorem ok_has (a b c d e f g h : Int) (w : World) (h1 : In4 400 a b c d) :
    Calls Try.prog 57 #[bv a b c d e f g h] w fun o w' => o = .returned (.bool (decide (In4 100 e f g h))) ∧ Below w.heap.size w w' := by
  obtain ⟨q, hq⟩ : ∃ q, decide (In4 100 e f g h) = q := ⟨_, rfl⟩
  obtain ⟨ea, fa, ga, ha, BN2, E2⟩ : ∃ ea fa ga ha : Int, Hid (∀ w, Calls Try.prog 62 #[rv e f g h, .int .i64 100] w fun o w' => o = .returned (rv ea fa ga ha) ∧ Below w.heap.size w w') ∧ (∀ w, (Op.equalIn 10000 71 (rv e f g h) (rv ea fa ga ha)).run Try.prog w = .ok q w) :=
    ⟨_, _, _, _, hide fun w => bounded_any e f g h 100 w (by omega), fun w => by rw [row_eq 9998]; simp only [In4.iff, hq]⟩
  have BN1 : Hid (∀ w, Calls Try.prog 62 #[rv a b c d, .int .i64 400] w fun o w' => o = .returned (rv a b c d) ∧ Below w.heap.size w w') := by
    refine hide fun w => ?_
    have := bounded_any a b c d 400 w (by omega)
    rwa [h1.same.1, h1.same.2.1, h1.same.2.2.1, h1.same.2.2.2] at this
  have E1 : ∀ w, (Op.equalIn 10000 71 (rv a b c d) (rv a b c d)).run Try.prog w = .ok true w := fun w => by rw [row_eq 9998]; simp
  rw [hq]
  clear h1 hq
  obtain ⟨w0, hw0⟩ : ∃ w0, w.alloc (.cells (b8 a b c d e f g h) 73) = w0 := ⟨_, rfl⟩
  have B0 : Below w.heap.size w w0 := hw0 ▸ (Below.refl _ _).alloc (Nat.le_refl _) _
  have L0 : Loc w0 w.heap.size (b8 a b c d e f g h) := hw0 ▸ loc_at w _ _ rfl
  have K : Hid (∀ w', Below w0.heap.size w0 w' → Below w0.heap.size w0 w' ∧ C8 w' w.heap.size a b c d e f g h) := hide fun w' hb' => ⟨hb', (L0.below hb' L0.lt).c8⟩
  have bA : Below w0.heap.size w0 w0.drew := Below.drew (Below.refl _ _)
  have hKeep := unhide K _ bA
  unfold C8 at hKeep
  clear L0
  go_enter Try.func57, Try.ntmps57
  go_wp2_with fail
  clear hw0
  go_region_held3 (fun w' => Below w0.heap.size w0 w' ∧ ((w'.cell? ⟨w.heap.size, 0, none⟩ = some (.int .i64 a) ∧ w'.cell? ⟨w.heap.size, 1, none⟩ = some (.int .i64 b) ∧ w'.cell? ⟨w.heap.size, 2, none⟩ = some (.int .i64 c) ∧ w'.cell? ⟨w.heap.size, 3, none⟩ = some (.int .i64 d)) ∧
  (w'.cell? ⟨w.heap.size, 4, none⟩ = some (.int .i64 e) ∧ w'.cell? ⟨w.heap.size, 5, none⟩ = some (.int .i64 f) ∧ w'.cell? ⟨w.heap.size, 6, none⟩ = some (.int .i64 g) ∧ w'.cell? ⟨w.heap.size, 7, none⟩ = some (.int .i64 h)))) (exact hKeep) (first
    | (go_at_call 62; have hgo := bA; refine (unhide BN1 _).mono ?_; rintro _ wa ⟨rfl, b7⟩
       have bB : Below w0.heap.size w0 wa := bA.trans (b7.mono bA.size)
       have hKeep := unhide K _ bB; clear bA hgo b7)
    | (go_at_call 62; have hgo := bB; refine (unhide BN2 _).mono ?_; rintro _ wb ⟨rfl, b8⟩
       have bC : Below w0.heap.size w0 wb := bB.trans (b8.mono bB.size)
       have hKeep := unhide K _ bC; clear bB hgo b8))
  all_goals
    go_wp2
    go_ret
    exact ⟨rfl, B0.trans (bC.mono B0.size)⟩

set_option maxHeartbeats 8000000 in
set_option maxRecDepth 100000 in
theorem ok_hasnt (a b c d e f g h : Int) (w : World) (h1 : ¬ In4 400 a b c d) :
    Calls Try.prog 57 #[bv a b c d e f g h] w fun o w' => o = .returned (.bool false) ∧ Below w.heap.size w w' := by
  obtain ⟨ea, fa, ga, ha, BN1, E1⟩ : ∃ ea fa ga ha : Int, Hid (∀ w, Calls Try.prog 62 #[rv a b c d, .int .i64 400] w fun o w' => o = .returned (rv ea fa ga ha) ∧ Below w.heap.size w w') ∧ (∀ w, (Op.equalIn 10000 71 (rv a b c d) (rv ea fa ga ha)).run Try.prog w = .ok false w) :=
    ⟨_, _, _, _, hide fun w => bounded_any a b c d 400 w (by omega), fun w => by rw [row_eq 9998]; simp only [In4.iff, h1, decide_false]⟩
  clear h1
  obtain ⟨w0, hw0⟩ : ∃ w0, w.alloc (.cells (b8 a b c d e f g h) 73) = w0 := ⟨_, rfl⟩
  have B0 : Below w.heap.size w w0 := hw0 ▸ (Below.refl _ _).alloc (Nat.le_refl _) _
  have L0 : Loc w0 w.heap.size (b8 a b c d e f g h) := hw0 ▸ loc_at w _ _ rfl
  have K : Hid (∀ w', Below w0.heap.size w0 w' → Below w0.heap.size w0 w' ∧ C8 w' w.heap.size a b c d e f g h) := hide fun w' hb' => ⟨hb', (L0.below hb' L0.lt).c8⟩
  have bA : Below w0.heap.size w0 w0.drew := Below.drew (Below.refl _ _)
  have hKeep := unhide K _ bA
  unfold C8 at hKeep
  clear L0
  go_enter Try.func57, Try.ntmps57
  go_wp2_with fail
  clear hw0
  refine wp_region_noPanic ?_
  refine wp_region_held_drew (S := (fun w' => Below w0.heap.size w0 w' ∧ ((w'.cell? ⟨w.heap.size, 0, none⟩ = some (.int .i64 a) ∧ w'.cell? ⟨w.heap.size, 1, none⟩ = some (.int .i64 b) ∧ w'.cell? ⟨w.heap.size, 2, none⟩ = some (.int .i64 c) ∧ w'.cell? ⟨w.heap.size, 3, none⟩ = some (.int .i64 d)) ∧ (w'.cell? ⟨w.heap.size, 4, none⟩ = some (.int .i64 e) ∧ w'.cell? ⟨w.heap.size, 5, none⟩ = some (.int .i64 f) ∧ w'.cell? ⟨w.heap.size, 6, none⟩ = some (.int .i64 g) ∧ w'.cell? ⟨w.heap.size, 7, none⟩ = some (.int .i64 h))))) (by kernel_rfl) hKeep (fun hHeld => ?_)
  refine take_at (i := 0) (d := 3) (v := ?_) rfl rfl (by kernel_rfl) (by kernel_rfl) (by kernel_rfl) (fun _ _ _ h => h) (Or.inl ⟨by rfl, ?_⟩) (by assumption) ?_
  rotate_left
  · intro w hSw
    try dsimp only at hSw
    go_simp
    try with_reducible rfl
  simp only [Act.put, List.setIfInBounds_toArray, List.set_cons_zero, List.set_cons_succ]
  refine take_at (i := 1) (d := 4) (v := ?_) rfl rfl (by kernel_rfl) (by kernel_rfl) (by kernel_rfl) (fun _ _ _ h => h) (Or.inl ⟨by rfl, ?_⟩) (by assumption) ?_
  rotate_left
  · intro w hSw
    try dsimp only at hSw
    go_simp
    try with_reducible rfl
  simp only [Act.put, List.setIfInBounds_toArray, List.set_cons_zero, List.set_cons_succ]
  refine take_at (i := 2) (d := 5) (v := ?_) rfl rfl (by kernel_rfl) (by kernel_rfl) (by kernel_rfl) (fun _ _ _ h => h) (Or.inl ⟨by rfl, ?_⟩) (by assumption) ?_
  rotate_left
  · intro w hSw
    try dsimp only at hSw
    go_simp
    try with_reducible rfl
  simp only [Act.put, List.setIfInBounds_toArray, List.set_cons_zero, List.set_cons_succ]
  refine take_at (i := 3) (d := 6) (v := ?_) rfl rfl (by kernel_rfl) (by kernel_rfl) (by kernel_rfl) (fun _ _ _ h => h) (Or.inl ⟨by rfl, ?_⟩) (by assumption) ?_
  rotate_left
  · intro w hSw
    try dsimp only at hSw
    go_simp
    try with_reducible rfl
  simp only [Act.put, List.setIfInBounds_toArray, List.set_cons_zero, List.set_cons_succ]
  refine ready_at (i := 4) rfl (by kernel_rfl) (fun KK hKK => ?_)
  go_simp
  refine (unhide BN1 _).mono ?_
  rintro _ wa ⟨rfl, b7⟩
  have bB : Below w0.heap.size w0 wa := bA.trans (b7.mono bA.size)
  have hKeep := unhide K _ bB
  clear bA b7
  refine hKK.out _ _ hKeep (fun hHeld => ?_)
  clear hKK KK
  refine take_at (i := 5) (d := 8) (v := ?_) rfl rfl (by kernel_rfl) (by kernel_rfl) (by kernel_rfl) (fun _ _ _ h => h) (Or.inl ⟨by rfl, ?_⟩) (by assumption) ?_
  rotate_left
  · intro w hSw
    try dsimp only at hSw
    go_simp
    try with_reducible rfl
  simp only [Act.put, List.setIfInBounds_toArray, List.set_cons_zero, List.set_cons_succ]
  refine take_at (i := 6) (d := 9) (v := ?_) rfl rfl (by kernel_rfl) (by kernel_rfl) (by kernel_rfl) (fun _ _ _ h => h) (Or.inl ⟨by rfl, ?_⟩) (by assumption) ?_
  rotate_left
  · intro w hSw
    try dsimp only at hSw
    go_simp
    try with_reducible rfl
  simp only [Act.put, List.setIfInBounds_toArray, List.set_cons_zero, List.set_cons_succ]
  refine take_at (i := 7) (d := 10) (v := undef) rfl rfl (by kernel_rfl) (by kernel_rfl) (by kernel_rfl) (fun _ _ _ h => h) (Or.inr ⟨by rfl, rfl⟩) (by assumption) ?_
  simp only [Act.put, List.setIfInBounds_toArray, List.set_cons_zero, List.set_cons_succ]
  refine take_at (i := 8) (d := 11) (v := undef) rfl rfl (by kernel_rfl) (by kernel_rfl) (by kernel_rfl) (fun _ _ _ h => h) (Or.inr ⟨by rfl, rfl⟩) (by assumption) ?_
  simp only [Act.put, List.setIfInBounds_toArray, List.set_cons_zero, List.set_cons_succ]
  refine take_at (i := 9) (d := 12) (v := undef) rfl rfl (by kernel_rfl) (by kernel_rfl) (by kernel_rfl) (fun _ _ _ h => h) (Or.inr ⟨by rfl, rfl⟩) (by assumption) ?_
  simp only [Act.put, List.setIfInBounds_toArray, List.set_cons_zero, List.set_cons_succ]
  refine take_at (i := 10) (d := 13) (v := undef) rfl rfl (by kernel_rfl) (by kernel_rfl) (by kernel_rfl) (fun _ _ _ h => h) (Or.inr ⟨by rfl, rfl⟩) (by assumption) ?_
  simp only [Act.put, List.setIfInBounds_toArray, List.set_cons_zero, List.set_cons_succ]
  refine take_at (i := 11) (d := 14) (v := undef) rfl rfl (by kernel_rfl) (by kernel_rfl) (by kernel_rfl) (fun _ _ _ h => h) (Or.inr ⟨by rfl, rfl⟩) (by assumption) ?_
  simp only [Act.put, List.setIfInBounds_toArray, List.set_cons_zero, List.set_cons_succ]
  refine take_at (i := 12) (d := 15) (v := undef) rfl rfl (by kernel_rfl) (by kernel_rfl) (by kernel_rfl) (fun _ _ _ h => h) (Or.inr ⟨by rfl, rfl⟩) (by assumption) ?_
  simp only [Act.put, List.setIfInBounds_toArray, List.set_cons_zero, List.set_cons_succ]
  refine take_at (i := 13) (d := 16) (v := ?_) rfl rfl (by kernel_rfl) (by kernel_rfl) (by kernel_rfl) (fun _ _ _ h => h) (Or.inl ⟨by rfl, ?_⟩) (by assumption) ?_
  rotate_left
  · intro w hSw
    try dsimp only at hSw
    go_simp
    try with_reducible rfl
  simp only [Act.put, List.setIfInBounds_toArray, List.set_cons_zero, List.set_cons_succ]
  refine take_at (i := 14) (d := 2) (v := ?_) rfl rfl (by kernel_rfl) (by kernel_rfl) (by kernel_rfl) (fun _ _ _ h => h) (Or.inl ⟨by rfl, ?_⟩) (by assumption) ?_
  rotate_left
  · intro w hSw
    try dsimp only at hSw
    go_simp
    try with_reducible rfl
  simp only [Act.put, List.setIfInBounds_toArray, List.set_cons_zero, List.set_cons_succ]
  refine wpAnyH_done (by kernel_rfl) ?_ _
  refine NoPanic.normal ?_
  go_wp2
  go_ret
  exact ⟨rfl, B0.trans (bB.mono B0.size)⟩

theorem ok_any (a b c d e f g h : Int) (w : World) :
    Calls Try.prog 57 #[bv a b c d e f g h] w fun o w' => o = .returned (.bool (decide (In4 400 a b c d ∧ In4 100 e f g h))) ∧ Below w.heap.size w w' := by
  by_cases h1 : In4 400 a b c d
  · simpa [h1] using ok_has a b c d e f g h w h1
  · simpa [h1] using ok_hasnt a b c d e f g h w h1
end Go.Proofs.Ytlglekfmiacdnaa
