/- impl.bookOf and impl.LedgerOk. -/
import Derived.Test.YtlglekfmiacdnaaBookOk
namespace Go.Proofs.Ytlglekfmiacdnaa
open Go.RowKit
set_option linter.unusedSectionVars false
variable [∀ (m a b c d : Int), Decidable (In4 m a b c d)]

theorem four_of {xs : List Int} (h : xs.length = 4) : ∃ a b c d, xs = [a, b, c, d] := by
  match xs, h with
  | [a, b, c, d], _ => exact ⟨a, b, c, d, rfl⟩
theorem RI.four {w : World} {v : Value} {a b c d : Int} (h : RI w v [a, b, c, d]) : ∃ g off cap, v = .slice (some ⟨g, off, none⟩) 4 cap ∧
    (w.cell? ⟨g, off, none⟩ = some (.int .i64 a) ∧ w.cell? ⟨g, off + 1, none⟩ = some (.int .i64 b) ∧ w.cell? ⟨g, off + 2, none⟩ = some (.int .i64 c) ∧ w.cell? ⟨g, off + 3, none⟩ = some (.int .i64 d)) := by
  obtain ⟨_, ao, cap, rfl, h⟩ := h
  rcases h with h | ⟨g, off, rfl, h⟩
  · cases h
  · exact ⟨g, off, cap, rfl, h 0 (by simp), h 1 (by simp), h 2 (by simp), h 3 (by simp)⟩

/-- Eight cells of block G written. -/
def put8 (w : World) (G : Nat) (a b c d e f g h : Int) : World :=
  (((((((w.setCell ⟨G, 0, none⟩ (.int .i64 a)).setCell ⟨G, 1, none⟩ (.int .i64 b)).setCell ⟨G, 2, none⟩ (.int .i64 c)).setCell ⟨G, 3, none⟩ (.int .i64 d)).setCell ⟨G, 4, none⟩ (.int .i64 e)).setCell ⟨G, 5, none⟩ (.int .i64 f)).setCell ⟨G, 6, none⟩ (.int .i64 g)).setCell ⟨G, 7, none⟩ (.int .i64 h)
theorem Loc.put8 {w : World} {G : Nat} {a b c d e f g h a' b' c' d' e' f' g' h' : Int} (l : Loc w G (b8 a' b' c' d' e' f' g' h')) : Loc (put8 w G a b c d e f g h) G (b8 a b c d e f g h) := by
  unfold _root_.Go.Proofs.Ytlglekfmiacdnaa.put8
  refine Loc.set (cs := b8 a b c d e f g h') ?_ 7 _ rfl
  refine Loc.set (cs := b8 a b c d e f g' h') ?_ 6 _ rfl
  refine Loc.set (cs := b8 a b c d e f' g' h') ?_ 5 _ rfl
  refine Loc.set (cs := b8 a b c d e' f' g' h') ?_ 4 _ rfl
  refine Loc.set (cs := b8 a b c d' e' f' g' h') ?_ 3 _ rfl
  refine Loc.set (cs := b8 a b c' d' e' f' g' h') ?_ 2 _ rfl
  refine Loc.set (cs := b8 a b' c' d' e' f' g' h') ?_ 1 _ rfl
  refine Loc.set (cs := b8 a' b' c' d' e' f' g' h') ?_ 0 _ rfl
  exact l
theorem Loc.put8_other {w : World} {G G' : Nat} {cs : Array Value} (l : Loc w G' cs) (hg : G' ≠ G) (a b c d e f g h : Int) : Loc (_root_.Go.Proofs.Ytlglekfmiacdnaa.put8 w G a b c d e f g h) G' cs :=
  (((((((l.other hg _).other hg _).other hg _).other hg _).other hg _).other hg _).other hg _).other hg _
theorem put8_below {w wa : World} {B G : Nat} (hb : Below B w wa) (hg : B ≤ G) (a b c d e f g h : Int) : Below B w (put8 wa G a b c d e f g h) :=
  Below.set (Below.set (Below.set (Below.set (Below.set (Below.set (Below.set (Below.set hb _ _ hg) _ _ hg) _ _ hg) _ _ hg) _ _ hg) _ _ hg) _ _ hg) _ _ hg
theorem put8_kp (w : World) (G : Nat) (a b c d e f g h : Int) : Kp w (put8 w G a b c d e f g h) (fun k => k = G) :=
  (((((((set_kp w G 0 _).trans (set_kp _ G 1 _)).trans (set_kp _ G 2 _)).trans (set_kp _ G 3 _)).trans (set_kp _ G 4 _)).trans (set_kp _ G 5 _)).trans (set_kp _ G 6 _)).trans (set_kp _ G 7 _)

theorem arrayAt (g o c : Nat) (w : World) : (Instr.arrayAt 71 (.slice (some ⟨g, o, none⟩) 4 c)).run Try.prog w = .ok (.pointer (some ⟨g, o, none⟩)) w := by
  simp [Instr.arrayAt, run_underlying Try.underlying71, go_sem]

set_option maxHeartbeats 8000000 in
set_option maxRecDepth 100000 in
theorem bookOf_four (u v : Value) (a b c d e f g h : Int) (w : World) (hu : RI w u [a, b, c, d]) (hv : RI w v [e, f, g, h]) :
    Calls Try.prog 47 #[lv u v] w fun o w' => o = .returned (.tuple #[bv a b c d e f g h, .bool (decide (In4 400 a b c d ∧ In4 100 e f g h))]) ∧ Below w.heap.size w w' := by
  obtain ⟨g1, o1, c1, rfl, x0, x1, x2, x3⟩ := hu.four
  obtain ⟨g2, o2, c2, rfl, y0, y1, y2, y3⟩ := hv.four
  have OK := hide fun w => ok_any a b c d e f g h w
  generalize decide (In4 400 a b c d ∧ In4 100 e f g h) = q at *
  clear hu hv
  obtain ⟨w0, hw0⟩ : ∃ w0, (w.alloc (.cells #[.slice (some ⟨g1, o1, none⟩) 4 c1, .slice (some ⟨g2, o2, none⟩) 4 c2] 26)).alloc (.cells (b8 0 0 0 0 0 0 0 0) 73) = w0 := ⟨_, rfl⟩
  have B0 : Below w.heap.size w w0 := hw0 ▸ ((Below.refl _ _).alloc (Nat.le_refl _) _).alloc (by simp) _
  have L0 : Loc w0 w.heap.size #[.slice (some ⟨g1, o1, none⟩) 4 c1, .slice (some ⟨g2, o2, none⟩) 4 c2] := hw0 ▸ (loc_at w _ _ rfl).alloc _
  have R0 : Loc w0 (w.heap.size + 1) (b8 0 0 0 0 0 0 0 0) := hw0 ▸ loc_at _ _ _ (by simp)
  have l1 : g1 < w.heap.size := cell_lt x0
  have l2 : g2 < w.heap.size := cell_lt y0
  have s0 := B0.size
  have K : Hid (∀ w', Below w0.heap.size w0 w' → Below w0.heap.size w0 w' ∧ (w'.cell? ⟨w.heap.size, 0, none⟩ = some (.slice (some ⟨g1, o1, none⟩) 4 c1) ∧ w'.cell? ⟨w.heap.size, 1, none⟩ = some (.slice (some ⟨g2, o2, none⟩) 4 c2)) ∧
      (w'.cell? ⟨g1, o1, none⟩ = some (.int .i64 a) ∧ w'.cell? ⟨g1, o1 + 1, none⟩ = some (.int .i64 b) ∧ w'.cell? ⟨g1, o1 + 2, none⟩ = some (.int .i64 c) ∧ w'.cell? ⟨g1, o1 + 3, none⟩ = some (.int .i64 d)) ∧
      (w'.cell? ⟨g2, o2, none⟩ = some (.int .i64 e) ∧ w'.cell? ⟨g2, o2 + 1, none⟩ = some (.int .i64 f) ∧ w'.cell? ⟨g2, o2 + 2, none⟩ = some (.int .i64 g) ∧ w'.cell? ⟨g2, o2 + 3, none⟩ = some (.int .i64 h))) := hide fun w' hb' => by
    have L := L0.below hb' L0.lt
    have bb := B0.trans (hb'.mono s0)
    exact ⟨hb', ⟨L.cell 0 rfl, L.cell 1 rfl⟩, ⟨(bb.cell (p := ⟨g1, o1, none⟩) l1).trans x0, (bb.cell (p := ⟨g1, o1 + 1, none⟩) l1).trans x1, (bb.cell (p := ⟨g1, o1 + 2, none⟩) l1).trans x2, (bb.cell (p := ⟨g1, o1 + 3, none⟩) l1).trans x3⟩,
      ⟨(bb.cell (p := ⟨g2, o2, none⟩) l2).trans y0, (bb.cell (p := ⟨g2, o2 + 1, none⟩) l2).trans y1, (bb.cell (p := ⟨g2, o2 + 2, none⟩) l2).trans y2, (bb.cell (p := ⟨g2, o2 + 3, none⟩) l2).trans y3⟩⟩
  have p0 := L0.cell 0 rfl
  have p1 := L0.cell 1 rfl
  have bA : Below w0.heap.size w0 w0.drew := Below.drew (Below.refl _ _)
  clear x0 x1 x2 x3 y0 y1 y2 y3
  have A1 := arrayAt g1 o1 c1
  have A2 := arrayAt g2 o2 c2
  go_enter Try.func47, Try.ntmps47
  go_wp2_with fail
  clear hw0 p0 p1
  refine wp_region_noPanic ?_
  refine wp_region_held_drew (S := (fun w' => Below w0.heap.size w0 w' ∧ (w'.cell? ⟨w.heap.size, 0, none⟩ = some (.slice (some ⟨g1, o1, none⟩) 4 c1) ∧ w'.cell? ⟨w.heap.size, 1, none⟩ = some (.slice (some ⟨g2, o2, none⟩) 4 c2)) ∧ (w'.cell? ⟨g1, o1, none⟩ = some (.int .i64 a) ∧ w'.cell? ⟨g1, o1 + 1, none⟩ = some (.int .i64 b) ∧ w'.cell? ⟨g1, o1 + 2, none⟩ = some (.int .i64 c) ∧ w'.cell? ⟨g1, o1 + 3, none⟩ = some (.int .i64 d)) ∧ (w'.cell? ⟨g2, o2, none⟩ = some (.int .i64 e) ∧ w'.cell? ⟨g2, o2 + 1, none⟩ = some (.int .i64 f) ∧ w'.cell? ⟨g2, o2 + 2, none⟩ = some (.int .i64 g) ∧ w'.cell? ⟨g2, o2 + 3, none⟩ = some (.int .i64 h)))) (by kernel_rfl) (unhide K _ bA) (fun hHeld => ?_)
  refine take_at (i := 0) (d := 16) (v := ?_) rfl rfl (by kernel_rfl) (by kernel_rfl) (by kernel_rfl) (fun _ _ _ h => h) (Or.inl ⟨by rfl, ?_⟩) (by assumption) ?_
  rotate_left
  · intro w hSw
    try dsimp only at hSw
    go_simp
    try with_reducible rfl
  simp only [Act.put, List.setIfInBounds_toArray, List.set_cons_zero, List.set_cons_succ]
  refine take_at (i := 1) (d := 17) (v := ?_) rfl rfl (by kernel_rfl) (by kernel_rfl) (by kernel_rfl) (fun _ _ _ h => h) (Or.inl ⟨by rfl, ?_⟩) (by assumption) ?_
  rotate_left
  · intro w hSw
    try dsimp only at hSw
    go_simp
    try with_reducible rfl
  simp only [Act.put, List.setIfInBounds_toArray, List.set_cons_zero, List.set_cons_succ]
  refine take_at (i := 2) (d := 18) (v := ?_) rfl rfl (by kernel_rfl) (by kernel_rfl) (by kernel_rfl) (fun _ _ _ h => h) (Or.inl ⟨by rfl, ?_⟩) (by assumption) ?_
  rotate_left
  · intro w hSw
    try dsimp only at hSw
    go_simp
    try with_reducible rfl
  simp only [Act.put, List.setIfInBounds_toArray, List.set_cons_zero, List.set_cons_succ]
  refine take_at (i := 3) (d := 19) (v := ?_) rfl rfl (by kernel_rfl) (by kernel_rfl) (by kernel_rfl) (fun _ _ _ h => h) (Or.inl ⟨by rfl, ?_⟩) (by assumption) ?_
  rotate_left
  · intro w hSw
    try dsimp only at hSw
    go_simp
    try with_reducible rfl
  simp only [Act.put, List.setIfInBounds_toArray, List.set_cons_zero, List.set_cons_succ]
  refine take_at (i := 4) (d := 20) (v := ?_) rfl rfl (by kernel_rfl) (by kernel_rfl) (by kernel_rfl) (fun _ _ _ h => h) (Or.inl ⟨by rfl, ?_⟩) (by assumption) ?_
  rotate_left
  · intro w hSw
    try dsimp only at hSw
    go_simp
    try with_reducible rfl
  simp only [Act.put, List.setIfInBounds_toArray, List.set_cons_zero, List.set_cons_succ]
  refine take_at (i := 5) (d := 21) (v := ?_) rfl rfl (by kernel_rfl) (by kernel_rfl) (by kernel_rfl) (fun _ _ _ h => h) (Or.inl ⟨by rfl, ?_⟩) (by assumption) ?_
  rotate_left
  · intro w hSw
    try dsimp only at hSw
    go_simp
    try with_reducible rfl
  simp only [Act.put, List.setIfInBounds_toArray, List.set_cons_zero, List.set_cons_succ]
  refine take_at (i := 6) (d := 22) (v := ?_) rfl rfl (by kernel_rfl) (by kernel_rfl) (by kernel_rfl) (fun _ _ _ h => h) (Or.inl ⟨by rfl, ?_⟩) (by assumption) ?_
  rotate_left
  · intro w hSw
    try dsimp only at hSw
    go_simp
    try with_reducible rfl
  simp only [Act.put, List.setIfInBounds_toArray, List.set_cons_zero, List.set_cons_succ]
  refine take_at (i := 7) (d := 23) (v := ?_) rfl rfl (by kernel_rfl) (by kernel_rfl) (by kernel_rfl) (fun _ _ _ h => h) (Or.inl ⟨by rfl, ?_⟩) (by assumption) ?_
  rotate_left
  · intro w hSw
    try dsimp only at hSw
    go_simp
    try with_reducible rfl
  simp only [Act.put, List.setIfInBounds_toArray, List.set_cons_zero, List.set_cons_succ]
  refine take_at (i := 8) (d := 24) (v := ?_) rfl rfl (by kernel_rfl) (by kernel_rfl) (by kernel_rfl) (fun _ _ _ h => h) (Or.inl ⟨by rfl, ?_⟩) (by assumption) ?_
  rotate_left
  · intro w hSw
    try dsimp only at hSw
    go_simp
    try with_reducible rfl
  simp only [Act.put, List.setIfInBounds_toArray, List.set_cons_zero, List.set_cons_succ]
  refine ready_at (i := 9) rfl (by kernel_rfl) (fun KK hKK => ?_)
  go_simp
  have bB : Below w0.heap.size w0 (w0.alloc (.cells (b8 0 0 0 0 0 0 0 0) 73)).drew := Below.drew ((Below.refl _ _).alloc (Nat.le_refl _) _)
  clear hHeld
  refine hKK.out _ _ (unhide K _ bB) (fun hHeld => ?_)
  clear hKK KK
  refine ready_at (i := 10) rfl (by kernel_rfl) (fun KK hKK => ?_)
  go_simp
  clear hHeld
  refine hKK.out _ _ (unhide K _ (Below.drew ((Below.refl _ _).alloc (Nat.le_refl _) _))) (fun hHeld => ?_)
  clear hKK KK
  clear hHeld bB bA K A1 A2
  refine wpAnyH_done (by kernel_rfl) ?_ _
  refine NoPanic.normal ?_
  obtain ⟨w1, hw1⟩ : ∃ w1, (w0.alloc (.cells (b8 a b c d e f g h) 73)).drew = w1 := ⟨_, rfl⟩
  have B1 : Below w.heap.size w w1 := hw1 ▸ Below.drew (B0.alloc s0 _)
  have b1 : Below w0.heap.size w0 w1 := hw1 ▸ Below.drew ((Below.refl _ _).alloc (Nat.le_refl _) _)
  have R1 : Loc w1 (w.heap.size + 1) (b8 0 0 0 0 0 0 0 0) := R0.below b1 R0.lt
  have G1 : Loc w1 w0.heap.size (b8 a b c d e f g h) := hw1 ▸ loc_at w0 _ _ rfl
  have ne : w.heap.size + 1 < w0.heap.size := R0.lt
  rw [hw1]
  clear hw1 R0 L0 b1
  go_wp2_with fail
  refine wp_region_noPanic ?_
  refine wp_region_held_drew (S := (fun w' => (w'.cell? ⟨w0.heap.size, 0, none⟩ = some (.int .i64 a) ∧ w'.cell? ⟨w0.heap.size, 1, none⟩ = some (.int .i64 b) ∧ w'.cell? ⟨w0.heap.size, 2, none⟩ = some (.int .i64 c) ∧ w'.cell? ⟨w0.heap.size, 3, none⟩ = some (.int .i64 d)) ∧ (w'.cell? ⟨w0.heap.size, 4, none⟩ = some (.int .i64 e) ∧ w'.cell? ⟨w0.heap.size, 5, none⟩ = some (.int .i64 f) ∧ w'.cell? ⟨w0.heap.size, 6, none⟩ = some (.int .i64 g) ∧ w'.cell? ⟨w0.heap.size, 7, none⟩ = some (.int .i64 h)))) (by kernel_rfl) (show C8 w1.drew w0.heap.size a b c d e f g h from G1.c8) (fun hHeld => ?_)
  refine take_at (i := 0) (d := 25) (v := ?_) rfl rfl (by kernel_rfl) (by kernel_rfl) (by kernel_rfl) (fun _ _ _ h => h) (Or.inl ⟨by rfl, ?_⟩) (by assumption) ?_
  rotate_left
  · intro w hSw
    try dsimp only at hSw
    go_simp
    try with_reducible rfl
  simp only [Act.put, List.setIfInBounds_toArray, List.set_cons_zero, List.set_cons_succ]
  refine take_at (i := 1) (d := 26) (v := ?_) rfl rfl (by kernel_rfl) (by kernel_rfl) (by kernel_rfl) (fun _ _ _ h => h) (Or.inl ⟨by rfl, ?_⟩) (by assumption) ?_
  rotate_left
  · intro w hSw
    try dsimp only at hSw
    go_simp
    try with_reducible rfl
  simp only [Act.put, List.setIfInBounds_toArray, List.set_cons_zero, List.set_cons_succ]
  refine ready_at (i := 2) rfl (by kernel_rfl) (fun KK hKK => ?_)
  go_simp
  refine (unhide OK _).mono ?_
  rintro _ wa ⟨rfl, b2⟩
  have b2 := undrew b2
  have G2 := G1.below b2 G1.lt
  have R2 := R1.below b2 R1.lt
  have B2 := B1.trans (b2.mono B1.size)
  clear G1 R1 B1 b2
  clear hHeld
  refine hKK.out _ _ G2.c8 (fun hHeld => ?_)
  clear hKK KK
  obtain ⟨⟨y0, y1, y2, y3⟩, ⟨y4, y5, y6, y7⟩⟩ := R2.c8
  have FR := R2.frozen
  refine ready_at (i := 3) rfl (by kernel_rfl) (fun KK hKK => ?_)
  go_simp
  have G3 : Loc (put8 wa (w.heap.size + 1) a b c d e f g h) w0.heap.size (b8 a b c d e f g h) := G2.put8_other (by omega) _ _ _ _ _ _ _ _
  clear hHeld
  refine hKK.out _ _ G3.c8 (fun hHeld => ?_)
  clear hKK KK
  refine take_at (i := 4) (d := 3) (v := ?_) rfl rfl (by kernel_rfl) (by kernel_rfl) (by kernel_rfl) (fun _ _ _ h => h) (Or.inl ⟨by rfl, ?_⟩) (by assumption) ?_
  rotate_left
  · intro w hSw
    try dsimp only at hSw
    go_simp
    try with_reducible rfl
  simp only [Act.put, List.setIfInBounds_toArray, List.set_cons_zero, List.set_cons_succ]
  clear hHeld G3 G2 y0 y1 y2 y3 y4 y5 y6 y7 FR
  refine wpAnyH_done (by kernel_rfl) ?_ _
  refine NoPanic.normal ?_
  have F : Loc (put8 wa (w.heap.size + 1) a b c d e f g h) (w.heap.size + 1) (b8 a b c d e f g h) := R2.put8
  have B4 : Below w.heap.size w (put8 wa (w.heap.size + 1) a b c d e f g h) := put8_below B2 (by omega) _ _ _ _ _ _ _ _
  obtain ⟨w4, hw4⟩ : ∃ w4, (put8 wa (w.heap.size + 1) a b c d e f g h) = w4 := ⟨_, rfl⟩
  rw [hw4] at F B4
  unfold put8 at hw4
  rw [hw4]
  clear hw4 R2 B2
  obtain ⟨⟨y0, y1, y2, y3⟩, ⟨y4, y5, y6, y7⟩⟩ := F.c8
  go_wp2
  refine bodyPost_ret (v := .tuple #[bv a b c d e f g h, .bool q]) (by simp [results, Try.results47, go_sem, y0, y1, y2, y3, y4, y5, y6, y7]) rfl ?_
  exact ⟨rfl, B4⟩
end Go.Proofs.Ytlglekfmiacdnaa
