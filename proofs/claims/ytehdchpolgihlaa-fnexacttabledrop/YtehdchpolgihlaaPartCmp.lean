/- PartCmp: impl.compareParts. -/
import Derived.Test.YtehdchpolgihlaaPartCmp0
import Derived.Deep.RegionHeld3
import Derived.Deep.DeepCutAuto
namespace Go.Proofs.Ytehdchpolgihlaa
open Go.RowKit

theorem compare_i' (x y : Int) (w : World) : Calls Try.prog 50 #[.int .i64 x, .int .i64 y] w fun e w' => e = .returned (.int .i64 (cmpI x y)) ∧ Below w.heap.size w w' :=
  (compare_i x y w).mono fun _ _ h => ⟨h.1, h.2 ▸ Below.refl _ _⟩
theorem compare_s' (s t : ByteArray) (w : World) : Calls Try.prog 51 #[.string s, .string t] w fun e w' => e = .returned (.int .i64 (cmpS s t)) ∧ Below w.heap.size w w' :=
  (compare_s s t w).mono fun _ _ h => ⟨h.1, h.2 ▸ Below.refl _ _⟩
set_option maxHeartbeats 8000000 in
set_option maxRecDepth 100000 in
theorem compareParts_any (m n : Int) (s t : ByteArray) (u v : Value) (xs ys : List Int) (w : World) :
    Calls Try.prog 36 #[qv m s u, qv n t v] w fun e w' => e = .returned (.int .i64 (cmpP (m, s, xs) (n, t, ys))) ∧ Below w.heap.size w w' := by
  have OR : Hid (∀ g w, w.cell? ⟨g, 0, none⟩ = some (.int .i64 (cmpI m n)) → w.cell? ⟨g, 1, none⟩ = some (.int .i64 (cmpS s t)) → Calls Try.prog 49 #[.slice (some ⟨g, 0, none⟩) 2 2] w fun e w' => e = .returned (.int .i64 (cmpP (m, s, xs) (n, t, ys))) ∧ Below w.heap.size w w') :=
    hide fun g w h0 h1 => (or_two (cmpI m n) (cmpS s t) g w h0 h1).mono fun _ _ h => ⟨h.1, h.2 ▸ Below.refl _ _⟩
  generalize cmpP (m, s, xs) (n, t, ys) = q at *
  obtain ⟨w0, hw0⟩ : ∃ y, (w.alloc (.cells #[.int .i64 m, .string s, u] 31)).alloc (.cells #[.int .i64 n, .string t, v] 31) = y := ⟨_, rfl⟩
  have Bw0 : Below w.heap.size w w0 := hw0 ▸ qalloc2 _ _ _
  have LX : Loc w0 w.heap.size #[.int .i64 m, .string s, u] := hw0 ▸ (loc_at w _ _ rfl).alloc _
  have LY : Loc w0 (w.heap.size + 1) #[.int .i64 n, .string t, v] := hw0 ▸ loc_at (w.alloc _) _ _ (by simp)
  go_enter Try.func36, Try.ntmps36
  have K : Hid (∀ w', Below w0.heap.size w0 w' → (fun w' => Below w0.heap.size w0 w' ∧ (w'.cell? ⟨w.heap.size, 0, none⟩ = some (.int .i64 m) ∧ w'.cell? ⟨w.heap.size, 1, none⟩ = some (.string s) ∧ w'.cell? ⟨w.heap.size, 2, none⟩ = some (u)) ∧ (w'.cell? ⟨w.heap.size + 1, 0, none⟩ = some (.int .i64 n) ∧ w'.cell? ⟨w.heap.size + 1, 1, none⟩ = some (.string t) ∧ w'.cell? ⟨w.heap.size + 1, 2, none⟩ = some (v))) w') := hide fun w' hb' => ⟨hb', ⟨(LX.below hb' LX.lt).cell 0 rfl, (LX.below hb' LX.lt).cell 1 rfl, (LX.below hb' LX.lt).cell 2 rfl⟩, ⟨(LY.below hb' LY.lt).cell 0 rfl, (LY.below hb' LY.lt).cell 1 rfl, (LY.below hb' LY.lt).cell 2 rfl⟩⟩
  go_upto_region 1 with fail
  clear hw0
  have bA : Below w0.heap.size w0 w0.drew := Below.drew (Below.refl _ _)
  refine wp_region_noPanic ?_
  refine wp_region_held_drew (S := fun w' => Below w0.heap.size w0 w' ∧ (w'.cell? ⟨w.heap.size, 0, none⟩ = some (.int .i64 m) ∧ w'.cell? ⟨w.heap.size, 1, none⟩ = some (.string s) ∧ w'.cell? ⟨w.heap.size, 2, none⟩ = some (u)) ∧ (w'.cell? ⟨w.heap.size + 1, 0, none⟩ = some (.int .i64 n) ∧ w'.cell? ⟨w.heap.size + 1, 1, none⟩ = some (.string t) ∧ w'.cell? ⟨w.heap.size + 1, 2, none⟩ = some (v))) (by kernel_rfl) (unhide K _ bA) (fun hHeld => ?_)
  refine take_at (i := 0) (d := 5) (v := ?_) rfl rfl (by kernel_rfl) (by kernel_rfl) (by kernel_rfl) (fun _ _ _ h => h) (Or.inl ⟨by rfl, ?_⟩) (by assumption) ?_
  rotate_left
  · intro w hSw
    try dsimp only at hSw
    go_simp
    try with_reducible rfl
  simp only [Act.put, List.setIfInBounds_toArray, List.set_cons_zero, List.set_cons_succ]
  refine take_at (i := 2) (d := 7) (v := ?_) rfl rfl (by kernel_rfl) (by kernel_rfl) (by kernel_rfl) (fun _ _ _ h => h) (Or.inl ⟨by rfl, ?_⟩) (by assumption) ?_
  rotate_left
  · intro w hSw
    try dsimp only at hSw
    go_simp
    try with_reducible rfl
  simp only [Act.put, List.setIfInBounds_toArray, List.set_cons_zero, List.set_cons_succ]
  refine take_at (i := 5) (d := 10) (v := ?_) rfl rfl (by kernel_rfl) (by kernel_rfl) (by kernel_rfl) (fun _ _ _ h => h) (Or.inl ⟨by rfl, ?_⟩) (by assumption) ?_
  rotate_left
  · intro w hSw
    try dsimp only at hSw
    go_simp
    try with_reducible rfl
  simp only [Act.put, List.setIfInBounds_toArray, List.set_cons_zero, List.set_cons_succ]
  refine take_at (i := 7) (d := 12) (v := ?_) rfl rfl (by kernel_rfl) (by kernel_rfl) (by kernel_rfl) (fun _ _ _ h => h) (Or.inl ⟨by rfl, ?_⟩) (by assumption) ?_
  rotate_left
  · intro w hSw
    try dsimp only at hSw
    go_simp
    try with_reducible rfl
  simp only [Act.put, List.setIfInBounds_toArray, List.set_cons_zero, List.set_cons_succ]
  refine take_at (i := 1) (d := 6) (v := ?_) rfl rfl (by kernel_rfl) (by kernel_rfl) (by kernel_rfl) (fun _ _ _ h => h) (Or.inl ⟨by rfl, ?_⟩) (by assumption) ?_
  rotate_left
  · intro w hSw
    try dsimp only at hSw
    go_simp
    try with_reducible rfl
  simp only [Act.put, List.setIfInBounds_toArray, List.set_cons_zero, List.set_cons_succ]
  refine take_at (i := 3) (d := 8) (v := ?_) rfl rfl (by kernel_rfl) (by kernel_rfl) (by kernel_rfl) (fun _ _ _ h => h) (Or.inl ⟨by rfl, ?_⟩) (by assumption) ?_
  rotate_left
  · intro w hSw
    try dsimp only at hSw
    go_simp
    try with_reducible rfl
  simp only [Act.put, List.setIfInBounds_toArray, List.set_cons_zero, List.set_cons_succ]
  refine take_at (i := 6) (d := 11) (v := ?_) rfl rfl (by kernel_rfl) (by kernel_rfl) (by kernel_rfl) (fun _ _ _ h => h) (Or.inl ⟨by rfl, ?_⟩) (by assumption) ?_
  rotate_left
  · intro w hSw
    try dsimp only at hSw
    go_simp
    try with_reducible rfl
  simp only [Act.put, List.setIfInBounds_toArray, List.set_cons_zero, List.set_cons_succ]
  refine take_at (i := 8) (d := 13) (v := ?_) rfl rfl (by kernel_rfl) (by kernel_rfl) (by kernel_rfl) (fun _ _ _ h => h) (Or.inl ⟨by rfl, ?_⟩) (by assumption) ?_
  rotate_left
  · intro w hSw
    try dsimp only at hSw
    go_simp
    try with_reducible rfl
  simp only [Act.put, List.setIfInBounds_toArray, List.set_cons_zero, List.set_cons_succ]
  refine ready_at (i := 4) rfl (by kernel_rfl) (fun KK hKK => ?_)
  go_simp
  have hgo := bA
  refine (compare_i' m n _).mono ?_
  rintro e wz1_1 ⟨rfl, bb⟩
  have bz1 : Below w0.heap.size w0 wz1_1 := bA.trans (bb.mono bA.size)
  clear bA hgo bb
  clear hHeld
  refine hKK.out _ _ (unhide K _ bz1) (fun hHeld => ?_)
  clear hKK KK
  refine ready_at (i := 9) rfl (by kernel_rfl) (fun KK hKK => ?_)
  go_simp
  have hgo := bz1
  refine (compare_s' s t _).mono ?_
  rintro e wz1_2 ⟨rfl, bb⟩
  have bz2 : Below w0.heap.size w0 wz1_2 := bz1.trans (bb.mono bz1.size)
  clear bz1 hgo bb
  clear hHeld
  refine hKK.out _ _ (unhide K _ bz2) (fun hHeld => ?_)
  clear hKK KK
  refine ready_at (i := 10) rfl (by kernel_rfl) (fun KK hKK => ?_)
  go_simp
  obtain ⟨wz1_3, hwz1_3⟩ : ∃ x, (wz1_2).alloc (.cells #[.int .i64 (cmpI m n), .int .i64 (cmpS s t)] 3) = x := ⟨_, rfl⟩
  have bz3 : Below w0.heap.size w0 wz1_3 := hwz1_3 ▸ bz2.alloc bz2.size _
  have LE : Loc wz1_3 (wz1_2).heap.size #[.int .i64 (cmpI m n), .int .i64 (cmpS s t)] := hwz1_3 ▸ loc_at (wz1_2) _ _ rfl
  rw [hwz1_3]
  clear bz2 hwz1_3
  clear hHeld
  refine hKK.out _ _ (unhide K _ bz3) (fun hHeld => ?_)
  clear hKK KK
  refine ready_at (i := 11) rfl (by kernel_rfl) (fun KK hKK => ?_)
  go_simp
  have hgo := bz3
  refine (unhide OR _ _ (LE.cell 0 rfl) (LE.cell 1 rfl)).mono ?_
  rintro e wz1_4 ⟨rfl, bb⟩
  have bz4 : Below w0.heap.size w0 wz1_4 := bz3.trans (bb.mono bz3.size)
  replace LE := LE.below bb LE.lt
  clear bz3 hgo bb
  clear hHeld
  refine hKK.out _ _ (unhide K _ bz4) (fun hHeld => ?_)
  clear hKK KK
  refine take_at (i := 12) (d := 4) (v := ?_) rfl rfl (by kernel_rfl) (by kernel_rfl) (by kernel_rfl) (fun _ _ _ h => h) (Or.inl ⟨by rfl, ?_⟩) (by assumption) ?_
  rotate_left
  · intro w hSw
    try dsimp only at hSw
    go_simp
    try with_reducible rfl
  simp only [Act.put, List.setIfInBounds_toArray, List.set_cons_zero, List.set_cons_succ]
  clear hHeld
  refine wpAnyH_done (by kernel_rfl) ?_ _
  refine NoPanic.normal ?_
  have bb := bz4
  have Bwz1_4 := Bw0.trans (bb.mono Bw0.size)
  have swz1_4 := bb.size
  replace LX := LX.below bb LX.lt
  replace LY := LY.below bb LY.lt
  clear Bw0
  clear bb bz4 K
  go_wp2
  go_ret
  exact ⟨rfl, Bwz1_4⟩
end Go.Proofs.Ytehdchpolgihlaa
