/- (impl.book).ledger: the lists of a book, in memory of their own. -/
import Derived.Test.YtlglekfmiacdnaaBookOf
import Derived.Test.YtlglekfmiacdnaaCopyInts
namespace Go.Proofs.Ytlglekfmiacdnaa
open Go.RowKit
set_option linter.unusedSectionVars false
variable [∀ (m a b c d : Int), Decidable (In4 m a b c d)]

theorem ri_has {w : World} {G : Nat} {a b c d e f g h : Int} (l : Loc w G (b8 a b c d e f g h)) : RI w (.slice (some ⟨G, 0, none⟩) 4 4) [a, b, c, d] := by
  refine ⟨by simp, some ⟨G, 0, none⟩, 4, rfl, .inr ⟨G, 0, rfl, fun k hk => ?_⟩⟩
  match k, hk with
  | 0, _ => exact l.cell 0 rfl
  | 1, _ => exact l.cell 1 rfl
  | 2, _ => exact l.cell 2 rfl
  | 3, _ => exact l.cell 3 rfl
theorem ri_next {w : World} {G : Nat} {a b c d e f g h : Int} (l : Loc w G (b8 a b c d e f g h)) : RI w (.slice (some ⟨G, 4, none⟩) 4 4) [e, f, g, h] := by
  refine ⟨by simp, some ⟨G, 4, none⟩, 4, rfl, .inr ⟨G, 4, rfl, fun k hk => ?_⟩⟩
  match k, hk with
  | 0, _ => exact l.cell 4 rfl
  | 1, _ => exact l.cell 5 rfl
  | 2, _ => exact l.cell 6 rfl
  | 3, _ => exact l.cell 7 rfl

set_option maxHeartbeats 8000000 in
set_option maxRecDepth 100000 in
theorem ledger_any (a b c d e f g h : Int) (w : World) :
    Calls Try.prog 49 #[bv a b c d e f g h] w fun o w' => ∃ u v, o = .returned (lv u v) ∧ OL w' w.heap.size w'.heap.size u v [a, b, c, d] [e, f, g, h] ∧ Below w.heap.size w w' := by
  obtain ⟨w0, hw0⟩ : ∃ w0, (w.alloc (.cells (b8 a b c d e f g h) 73)).alloc (.cells #[.slice none 0 0, .slice none 0 0] 26) = w0 := ⟨_, rfl⟩
  have B0 : Below w.heap.size w w0 := hw0 ▸ ((Below.refl _ _).alloc (Nat.le_refl _) _).alloc (by simp) _
  have L0 : Loc w0 w.heap.size (b8 a b c d e f g h) := hw0 ▸ (loc_at w _ _ rfl).alloc _
  have R0 : Loc w0 (w.heap.size + 1) #[.slice none 0 0, .slice none 0 0] := hw0 ▸ loc_at _ _ _ (by simp)
  go_enter Try.func49, Try.ntmps49
  go_wp2_with fail
  clear hw0
  refine wp_region_noPanic ?_
  refine wp_region_held_drew (S := (fun w' => (w'.cell? ⟨w.heap.size, 0, none⟩ = some (.int .i64 a) ∧ w'.cell? ⟨w.heap.size, 1, none⟩ = some (.int .i64 b) ∧ w'.cell? ⟨w.heap.size, 2, none⟩ = some (.int .i64 c) ∧ w'.cell? ⟨w.heap.size, 3, none⟩ = some (.int .i64 d)) ∧ (w'.cell? ⟨w.heap.size, 4, none⟩ = some (.int .i64 e) ∧ w'.cell? ⟨w.heap.size, 5, none⟩ = some (.int .i64 f) ∧ w'.cell? ⟨w.heap.size, 6, none⟩ = some (.int .i64 g) ∧ w'.cell? ⟨w.heap.size, 7, none⟩ = some (.int .i64 h)))) (by kernel_rfl) (show C8 w0.drew w.heap.size a b c d e f g h from L0.c8) (fun hHeld => ?_)
  refine take_at (i := 0) (d := 3) (v := ?_) rfl rfl (by kernel_rfl) (by kernel_rfl) (by kernel_rfl) (fun _ _ _ h => h) (Or.inl ⟨by rfl, ?_⟩) (by assumption) ?_
  rotate_left
  · intro w hSw
    try dsimp only at hSw
    go_simp
    try with_reducible rfl
  simp only [Act.put, List.setIfInBounds_toArray, List.set_cons_zero, List.set_cons_succ]
  refine take_at (i := 1) (d := 4) (v := ?_) rfl rfl (by kernel_rfl) (by kernel_rfl) (by kernel_rfl) (fun _ _ _ h => h) (Or.inl ⟨by rfl, ?_⟩) (by assumption) ?_
  rotate_left
  · intro w hSw
    try dsimp only at hSw
    go_simp
    try with_reducible rfl
  simp only [Act.put, List.setIfInBounds_toArray, List.set_cons_zero, List.set_cons_succ]
  refine take_at (i := 3) (d := 6) (v := ?_) rfl rfl (by kernel_rfl) (by kernel_rfl) (by kernel_rfl) (fun _ _ _ h => h) (Or.inl ⟨by rfl, ?_⟩) (by assumption) ?_
  rotate_left
  · intro w hSw
    try dsimp only at hSw
    go_simp
    try with_reducible rfl
  simp only [Act.put, List.setIfInBounds_toArray, List.set_cons_zero, List.set_cons_succ]
  refine take_at (i := 4) (d := 7) (v := ?_) rfl rfl (by kernel_rfl) (by kernel_rfl) (by kernel_rfl) (fun _ _ _ h => h) (Or.inl ⟨by rfl, ?_⟩) (by assumption) ?_
  rotate_left
  · intro w hSw
    try dsimp only at hSw
    go_simp
    try with_reducible rfl
  simp only [Act.put, List.setIfInBounds_toArray, List.set_cons_zero, List.set_cons_succ]
  refine ready_at (i := 2) rfl (by kernel_rfl) (fun KK hKK => ?_)
  go_simp
  refine (copyInts_any _ [a, b, c, d] _ (ri_has (w := w0.drew) L0)).mono ?_
  rintro _ w1 ⟨u, rfl, o1, b1⟩
  have b1 := undrew b1
  have L1 := L0.below b1 L0.lt
  have R1 := R0.below b1 R0.lt
  have B1 := B0.trans (b1.mono B0.size)
  have s1 := b1.size
  have t1 := World.ownsRow.lt o1
  clear hHeld
  refine hKK.out _ _ L1.c8 (fun hHeld => ?_)
  clear hKK KK
  refine ready_at (i := 5) rfl (by kernel_rfl) (fun KK hKK => ?_)
  go_simp
  refine (copyInts_any _ [e, f, g, h] _ (ri_next L1)).mono ?_
  rintro _ w2 ⟨v, rfl, o2, b2⟩
  have L2 := L1.below b2 L1.lt
  have R2 := R1.below b2 R1.lt
  have B2 := B1.trans (b2.mono B1.size)
  have s2 := b2.size
  have t2 := World.ownsRow.lt o2
  have o1' := o1.below b2
  clear hHeld
  refine hKK.out _ _ L2.c8 (fun hHeld => ?_)
  clear hKK KK
  obtain ⟨ua, uc, rfl⟩ := o1.form
  obtain ⟨va, vc, rfl⟩ := o2.form
  refine take_at (i := 6) (d := 9) (v := ?_) rfl rfl (by kernel_rfl) (by kernel_rfl) (by kernel_rfl) (fun _ _ _ h => h) (Or.inl ⟨by rfl, ?_⟩) (by assumption) ?_
  rotate_left
  · intro w hSw
    try dsimp only at hSw
    go_simp
    try with_reducible rfl
  simp only [Act.put, List.setIfInBounds_toArray, List.set_cons_zero, List.set_cons_succ]
  have y0 := R2.cell 0 rfl
  have y1 := R2.cell 1 rfl
  have FR := R2.frozen
  refine ready_at (i := 7) rfl (by kernel_rfl) (fun KK hKK => ?_)
  go_simp
  have L3 := (L2.other (p := ⟨w.heap.size + 1, 0, none⟩) (by simp) (.slice ua [a, b, c, d].length uc)).other (p := ⟨w.heap.size + 1, 1, none⟩) (by simp) (.slice va [e, f, g, h].length vc)
  clear hHeld
  refine hKK.out _ _ L3.c8 (fun hHeld => ?_)
  clear hKK KK
  clear hHeld L3 L2 L1 L0
  refine wpAnyH_done (by kernel_rfl) ?_ _
  refine NoPanic.normal ?_
  go_wp2
  refine bodyPost_ret (v := lv (.slice ua [a, b, c, d].length uc) (.slice va [e, f, g, h].length vc)) (by simp [results, Try.results49, go_sem, y0, y1]) rfl ?_
  have K3 : Kp w2 ((w2.setCell ⟨w.heap.size + 1, 0, none⟩ (.slice ua [a, b, c, d].length uc)).setCell ⟨w.heap.size + 1, 1, none⟩ (.slice va [e, f, g, h].length vc)) (fun k => k = w.heap.size + 1) := (set_kp w2 _ 0 _).trans (set_kp _ _ 1 _)
  have ls := R0.lt
  refine ⟨_, _, rfl, ⟨?_, ?_, ?_, ?_, ?_⟩, ?_⟩
  · exact (o1'.kp K3 (fun k hk => by have := t1 k hk; simp at this; omega)).mono (by simp; omega)
  · exact (o2.kp K3 (fun k hk => by have := t2 k hk; omega)).mono (by omega)
  · intro k hk; have := t1 k hk; simp; omega
  · intro k hk; have := t2 k hk; simp; omega
  · intro k hk h'; have := t1 k hk; have := t2 k h'; omega
  · exact Below.set (Below.set B2 _ _ (by omega)) _ _ (by omega)
end Go.Proofs.Ytlglekfmiacdnaa
