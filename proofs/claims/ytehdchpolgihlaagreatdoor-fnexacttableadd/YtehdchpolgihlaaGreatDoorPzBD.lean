/- Texts that belong together: PartCmp0, PartCmp, PartAsc, PartTold, TableOki, TableOkAll. -/
import Derived.Test.YtehdchpolgihlaaGreatDoorPzBC
import Derived.Test.YtehdchpolgihlaaGreatDoorPzAA
import Derived.Test.YtehdchpolgihlaaGreatDoorPzAE
import Derived.Laws.EntriesVeiled
import Derived.Laws.Cover1
import Derived.Deep.RegionHeld3
import Derived.Deep.DeepCutAuto
import Derived.Test.YtehdchpolgihlaaGreatDoorPzBB
import Derived.Test.YtehdchpolgihlaaGreatDoorPzAP
import Derived.Test.YtehdchpolgihlaaGreatDoorPzAX
import Derived.Test.YtehdchpolgihlaaGreatDoorPzAC
/- PartCmp0: cmp.Compare of numbers and of texts, cmp.Or of two numbers. -/
namespace Go.Proofs.YtehdchpolgihlaaGreatDoor
open Go.RowKit
set_option linter.unusedSectionVars false
variable [∀ (n : Int) (s : List Int), Decidable (OkL n s)]

set_option maxHeartbeats 800000 in
set_option maxRecDepth 100000 in
theorem isNaN_i (x : Int) (w : World) : Calls Tryz.prog 121 #[.int .i64 x] w fun e w' => e = .returned (.bool false) ∧ w' = w := by
  go_enter Tryz.func121, Tryz.ntmps121
  go_wp2
  go_ret
  exact ⟨by simp, rfl⟩

set_option maxHeartbeats 1600000 in
set_option maxRecDepth 100000 in
theorem compare_i (x y : Int) (w : World) : Calls Tryz.prog 92 #[.int .i64 x, .int .i64 y] w fun e w' => e = .returned (.int .i64 (cmpI x y)) ∧ w' = w := by
  have NN := hide isNaN_i
  unfold cmpI
  by_cases h1 : x < y
  · rw [if_pos h1]
    go_enter Tryz.func92, Tryz.ntmps92
    go_wp2_with (first | (go_at_call 121; refine (unhide NN _ _).mono ?_; rintro e w' ⟨rfl, rfl⟩))
    go_ret
    exact ⟨rfl, rfl⟩
  · rw [if_neg h1]
    by_cases h2 : y < x
    · rw [if_pos h2]
      go_enter Tryz.func92, Tryz.ntmps92
      go_wp2_with (first | (go_at_call 121; refine (unhide NN _ _).mono ?_; rintro e w' ⟨rfl, rfl⟩))
      go_ret
      exact ⟨rfl, rfl⟩
    · rw [if_neg h2]
      go_enter Tryz.func92, Tryz.ntmps92
      go_wp2_with (first | (go_at_call 121; refine (unhide NN _ _).mono ?_; rintro e w' ⟨rfl, rfl⟩))
      go_ret
      exact ⟨rfl, rfl⟩

set_option maxHeartbeats 800000 in
set_option maxRecDepth 100000 in
theorem isNaN_s (s : ByteArray) (w : World) : Calls Tryz.prog 130 #[.string s] w fun e w' => e = .returned (.bool false) ∧ w' = w := by
  go_enter Tryz.func130, Tryz.ntmps130
  go_wp2
  go_ret
  exact ⟨by simp, rfl⟩

set_option maxHeartbeats 1600000 in
set_option maxRecDepth 100000 in
theorem compare_s (s t : ByteArray) (w : World) : Calls Tryz.prog 118 #[.string s, .string t] w fun e w' => e = .returned (.int .i64 (cmpS s t)) ∧ w' = w := by
  have NN := hide isNaN_s
  unfold cmpS
  by_cases h1 : Op.bytesLess s.toList t.toList = true
  · rw [if_pos h1]
    go_enter Tryz.func118, Tryz.ntmps118
    go_wp2_with (first | (go_at_call 130; refine (unhide NN _ _).mono ?_; rintro e w' ⟨rfl, rfl⟩))
    go_ret
    exact ⟨rfl, rfl⟩
  · rw [if_neg h1]
    have h1 : Op.bytesLess s.toList t.toList = false := by simpa using h1
    by_cases h2 : Op.bytesLess t.toList s.toList = true
    · rw [if_pos h2]
      have h3 : (s.toList == t.toList) = false := by
        simp only [beq_eq_false_iff_ne]; intro e; rw [e, less_irrefl] at h2; cases h2
      go_enter Tryz.func118, Tryz.ntmps118
      go_wp2_with (first | (go_at_call 130; refine (unhide NN _ _).mono ?_; rintro e w' ⟨rfl, rfl⟩))
      go_ret
      exact ⟨rfl, rfl⟩
    · rw [if_neg h2]
      have h2 : Op.bytesLess t.toList s.toList = false := by simpa using h2
      have h3 : (s.toList == t.toList) = true := by
        rw [beq_iff_eq]; exact Classical.byContradiction fun e => by have := less_total h1 e; rw [h2] at this; cases this
      go_enter Tryz.func118, Tryz.ntmps118
      go_wp2_with (first | (go_at_call 130; refine (unhide NN _ _).mono ?_; rintro e w' ⟨rfl, rfl⟩))
      go_ret
      exact ⟨rfl, rfl⟩

set_option maxHeartbeats 1600000 in
set_option maxRecDepth 100000 in
theorem or_two (a b : Int) (g : Nat) (w : World) (h0 : w.cell? ⟨g, 0, none⟩ = some (.int .i64 a)) (h1 : w.cell? ⟨g, 1, none⟩ = some (.int .i64 b)) :
    Calls Tryz.prog 117 #[.slice (some ⟨g, 0, none⟩) 2 2] w fun e w' => e = .returned (.int .i64 (if a ≠ 0 then a else b)) ∧ w' = w := by
  by_cases ha : a = 0
  · have e : (if a ≠ 0 then a else b) = b := by simp [ha]
    rw [e]
    subst ha
    clear e
    by_cases hb : b = 0
    · subst hb
      go_enter Tryz.func117, Tryz.ntmps117
      go_wp2
      refine wp_loop_rounds 3 ?_
      rw [rounds_succ]
      go_wp2
      rw [rounds_succ]
      go_wp2
      rw [rounds_succ]
      go_wp2
      go_ret
      exact ⟨rfl, rfl⟩
    · go_enter Tryz.func117, Tryz.ntmps117
      go_wp2
      refine wp_loop_rounds 2 ?_
      rw [rounds_succ]
      go_wp2
      rw [rounds_succ]
      go_wp2
      go_ret
      exact ⟨rfl, rfl⟩
  · have e : (if a ≠ 0 then a else b) = a := by simp [ha]
    rw [e]
    clear e
    go_enter Tryz.func117, Tryz.ntmps117
    go_wp2
    refine wp_loop_rounds 1 ?_
    rw [rounds_succ]
    go_wp2
    go_ret
    exact ⟨rfl, rfl⟩

end Go.Proofs.YtehdchpolgihlaaGreatDoor

/- PartCmp: impl.compareParts. -/
namespace Go.Proofs.YtehdchpolgihlaaGreatDoor
open Go.RowKit
set_option linter.unusedSectionVars false
variable [∀ (n : Int) (s : List Int), Decidable (OkL n s)]

theorem compare_i' (x y : Int) (w : World) : Calls Tryz.prog 92 #[.int .i64 x, .int .i64 y] w fun e w' => e = .returned (.int .i64 (cmpI x y)) ∧ Below w.heap.size w w' :=
  (compare_i x y w).mono fun _ _ h => ⟨h.1, h.2 ▸ Below.refl _ _⟩
theorem compare_s' (s t : ByteArray) (w : World) : Calls Tryz.prog 118 #[.string s, .string t] w fun e w' => e = .returned (.int .i64 (cmpS s t)) ∧ Below w.heap.size w w' :=
  (compare_s s t w).mono fun _ _ h => ⟨h.1, h.2 ▸ Below.refl _ _⟩
set_option maxHeartbeats 8000000 in
set_option maxRecDepth 100000 in
theorem compareParts_any (m n : Int) (s t : ByteArray) (u v : Value) (xs ys : List Int) (w : World) :
    Calls Tryz.prog 74 #[qv m s u, qv n t v] w fun e w' => e = .returned (.int .i64 (cmpP (m, s, xs) (n, t, ys))) ∧ Below w.heap.size w w' := by
  have OR : Hid (∀ g w, w.cell? ⟨g, 0, none⟩ = some (.int .i64 (cmpI m n)) → w.cell? ⟨g, 1, none⟩ = some (.int .i64 (cmpS s t)) → Calls Tryz.prog 117 #[.slice (some ⟨g, 0, none⟩) 2 2] w fun e w' => e = .returned (.int .i64 (cmpP (m, s, xs) (n, t, ys))) ∧ Below w.heap.size w w') :=
    hide fun g w h0 h1 => (or_two (cmpI m n) (cmpS s t) g w h0 h1).mono fun _ _ h => ⟨h.1, h.2 ▸ Below.refl _ _⟩
  generalize cmpP (m, s, xs) (n, t, ys) = q at *
  obtain ⟨w0, hw0⟩ : ∃ y, (w.alloc (.cells #[.int .i64 m, .string s, u] 26)).alloc (.cells #[.int .i64 n, .string t, v] 26) = y := ⟨_, rfl⟩
  have Bw0 : Below w.heap.size w w0 := hw0 ▸ qalloc2 _ _ _
  have LX : Loc w0 w.heap.size #[.int .i64 m, .string s, u] := hw0 ▸ (loc_at w _ _ rfl).alloc _
  have LY : Loc w0 (w.heap.size + 1) #[.int .i64 n, .string t, v] := hw0 ▸ loc_at (w.alloc _) _ _ (by simp)
  go_enter Tryz.func74, Tryz.ntmps74
  have K : Hid (∀ w', Below w0.heap.size w0 w' → (fun w' => Below w0.heap.size w0 w' ∧ (w'.cell? ⟨w.heap.size, 0, none⟩ = some (.int .i64 m) ∧ w'.cell? ⟨w.heap.size, 1, none⟩ = some (.string s) ∧ w'.cell? ⟨w.heap.size, 2, none⟩ = some (u)) ∧ (w'.cell? ⟨w.heap.size + 1, 0, none⟩ = some (.int .i64 n) ∧ w'.cell? ⟨w.heap.size + 1, 1, none⟩ = some (.string t) ∧ w'.cell? ⟨w.heap.size + 1, 2, none⟩ = some (v))) w') := hide fun w' hb' => ⟨hb', ⟨(LX.below hb' LX.lt).cell 0 rfl, (LX.below hb' LX.lt).cell 1 rfl, (LX.below hb' LX.lt).cell 2 rfl⟩, ⟨(LY.below hb' LY.lt).cell 0 rfl, (LY.below hb' LY.lt).cell 1 rfl, (LY.below hb' LY.lt).cell 2 rfl⟩⟩
  go_upto_region 1 with fail
  clear hw0
  have bA : Below w0.heap.size w0 w0.drew := Below.drew (Below.refl _ _)
  refine wp_region_noPanic ?_
  refine wp_region_held_drew (S := fun w' => Below w0.heap.size w0 w' ∧ (w'.cell? ⟨w.heap.size, 0, none⟩ = some (.int .i64 m) ∧ w'.cell? ⟨w.heap.size, 1, none⟩ = some (.string s) ∧ w'.cell? ⟨w.heap.size, 2, none⟩ = some (u)) ∧ (w'.cell? ⟨w.heap.size + 1, 0, none⟩ = some (.int .i64 n) ∧ w'.cell? ⟨w.heap.size + 1, 1, none⟩ = some (.string t) ∧ w'.cell? ⟨w.heap.size + 1, 2, none⟩ = some (v))) (by kernel_rfl) (unhide K _ bA) (fun hHeld => ?_)
  refine take_at (i := 0) (d := 5) (v := ?_) rfl rfl (by kernel_rfl) (by kernel_rfl) (by kernel_rfl) (fun _ _ _ h => h) (Or.inl ⟨by rfl, ?_⟩) (by assumption) ?_
  rotate_left
  · intro w hSw
    try dsimp only at hSw
    go_simp
    try with_reducible rfl
  simp only [Act.put, List.setIfInBounds_toArray, List.set_cons_zero, List.set_cons_succ]
  refine take_at (i := 2) (d := 7) (v := ?_) rfl rfl (by kernel_rfl) (by kernel_rfl) (by kernel_rfl) (fun _ _ _ h => h) (Or.inl ⟨by rfl, ?_⟩) (by assumption) ?_
  rotate_left
  · intro w hSw
    try dsimp only at hSw
    go_simp
    try with_reducible rfl
  simp only [Act.put, List.setIfInBounds_toArray, List.set_cons_zero, List.set_cons_succ]
  refine take_at (i := 5) (d := 10) (v := ?_) rfl rfl (by kernel_rfl) (by kernel_rfl) (by kernel_rfl) (fun _ _ _ h => h) (Or.inl ⟨by rfl, ?_⟩) (by assumption) ?_
  rotate_left
  · intro w hSw
    try dsimp only at hSw
    go_simp
    try with_reducible rfl
  simp only [Act.put, List.setIfInBounds_toArray, List.set_cons_zero, List.set_cons_succ]
  refine take_at (i := 7) (d := 12) (v := ?_) rfl rfl (by kernel_rfl) (by kernel_rfl) (by kernel_rfl) (fun _ _ _ h => h) (Or.inl ⟨by rfl, ?_⟩) (by assumption) ?_
  rotate_left
  · intro w hSw
    try dsimp only at hSw
    go_simp
    try with_reducible rfl
  simp only [Act.put, List.setIfInBounds_toArray, List.set_cons_zero, List.set_cons_succ]
  refine take_at (i := 1) (d := 6) (v := ?_) rfl rfl (by kernel_rfl) (by kernel_rfl) (by kernel_rfl) (fun _ _ _ h => h) (Or.inl ⟨by rfl, ?_⟩) (by assumption) ?_
  rotate_left
  · intro w hSw
    try dsimp only at hSw
    go_simp
    try with_reducible rfl
  simp only [Act.put, List.setIfInBounds_toArray, List.set_cons_zero, List.set_cons_succ]
  refine take_at (i := 3) (d := 8) (v := ?_) rfl rfl (by kernel_rfl) (by kernel_rfl) (by kernel_rfl) (fun _ _ _ h => h) (Or.inl ⟨by rfl, ?_⟩) (by assumption) ?_
  rotate_left
  · intro w hSw
    try dsimp only at hSw
    go_simp
    try with_reducible rfl
  simp only [Act.put, List.setIfInBounds_toArray, List.set_cons_zero, List.set_cons_succ]
  refine take_at (i := 6) (d := 11) (v := ?_) rfl rfl (by kernel_rfl) (by kernel_rfl) (by kernel_rfl) (fun _ _ _ h => h) (Or.inl ⟨by rfl, ?_⟩) (by assumption) ?_
  rotate_left
  · intro w hSw
    try dsimp only at hSw
    go_simp
    try with_reducible rfl
  simp only [Act.put, List.setIfInBounds_toArray, List.set_cons_zero, List.set_cons_succ]
  refine take_at (i := 8) (d := 13) (v := ?_) rfl rfl (by kernel_rfl) (by kernel_rfl) (by kernel_rfl) (fun _ _ _ h => h) (Or.inl ⟨by rfl, ?_⟩) (by assumption) ?_
  rotate_left
  · intro w hSw
    try dsimp only at hSw
    go_simp
    try with_reducible rfl
  simp only [Act.put, List.setIfInBounds_toArray, List.set_cons_zero, List.set_cons_succ]
  refine ready_at (i := 4) rfl (by kernel_rfl) (fun KK hKK => ?_)
  go_simp
  have hgo := bA
  refine (compare_i' m n _).mono ?_
  rintro e wz1_1 ⟨rfl, bb⟩
  have bz1 : Below w0.heap.size w0 wz1_1 := bA.trans (bb.mono bA.size)
  clear bA hgo bb
  clear hHeld
  refine hKK.out _ _ (unhide K _ bz1) (fun hHeld => ?_)
  clear hKK KK
  refine ready_at (i := 9) rfl (by kernel_rfl) (fun KK hKK => ?_)
  go_simp
  have hgo := bz1
  refine (compare_s' s t _).mono ?_
  rintro e wz1_2 ⟨rfl, bb⟩
  have bz2 : Below w0.heap.size w0 wz1_2 := bz1.trans (bb.mono bz1.size)
  clear bz1 hgo bb
  clear hHeld
  refine hKK.out _ _ (unhide K _ bz2) (fun hHeld => ?_)
  clear hKK KK
  refine ready_at (i := 10) rfl (by kernel_rfl) (fun KK hKK => ?_)
  go_simp
  obtain ⟨wz1_3, hwz1_3⟩ : ∃ x, (wz1_2).alloc (.cells #[.int .i64 (cmpI m n), .int .i64 (cmpS s t)] 3) = x := ⟨_, rfl⟩
  have bz3 : Below w0.heap.size w0 wz1_3 := hwz1_3 ▸ bz2.alloc bz2.size _
  have LE : Loc wz1_3 (wz1_2).heap.size #[.int .i64 (cmpI m n), .int .i64 (cmpS s t)] := hwz1_3 ▸ loc_at (wz1_2) _ _ rfl
  rw [hwz1_3]
  clear bz2 hwz1_3
  clear hHeld
  refine hKK.out _ _ (unhide K _ bz3) (fun hHeld => ?_)
  clear hKK KK
  refine ready_at (i := 11) rfl (by kernel_rfl) (fun KK hKK => ?_)
  go_simp
  have hgo := bz3
  refine (unhide OR _ _ (LE.cell 0 rfl) (LE.cell 1 rfl)).mono ?_
  rintro e wz1_4 ⟨rfl, bb⟩
  have bz4 : Below w0.heap.size w0 wz1_4 := bz3.trans (bb.mono bz3.size)
  replace LE := LE.below bb LE.lt
  clear bz3 hgo bb
  clear hHeld
  refine hKK.out _ _ (unhide K _ bz4) (fun hHeld => ?_)
  clear hKK KK
  refine take_at (i := 12) (d := 4) (v := ?_) rfl rfl (by kernel_rfl) (by kernel_rfl) (by kernel_rfl) (fun _ _ _ h => h) (Or.inl ⟨by rfl, ?_⟩) (by assumption) ?_
  rotate_left
  · intro w hSw
    try dsimp only at hSw
    go_simp
    try with_reducible rfl
  simp only [Act.put, List.setIfInBounds_toArray, List.set_cons_zero, List.set_cons_succ]
  clear hHeld
  refine wpAnyH_done (by kernel_rfl) ?_ _
  refine NoPanic.normal ?_
  have bb := bz4
  have Bwz1_4 := Bw0.trans (bb.mono Bw0.size)
  have swz1_4 := bb.size
  replace LX := LX.below bb LX.lt
  replace LY := LY.below bb LY.lt
  clear Bw0
  clear bb bz4 K
  go_wp2
  go_ret
  exact ⟨rfl, Bwz1_4⟩
end Go.Proofs.YtehdchpolgihlaaGreatDoor

/- PartAsc: (inOrder[Part]).ascends. -/
namespace Go.Proofs.YtehdchpolgihlaaGreatDoor
open Go.RowKit
set_option linter.unusedSectionVars false
variable [∀ (n : Int) (s : List Int), Decidable (OkL n s)]
variable [∀ (a b c d : Int), Decidable (Ok4 a b c d)]
variable [∀ (n f : Int), Decidable (COk n f)]
variable [∀ (a b c d : Nat), Decidable (okN a b c d)]
variable [∀ (last : Int) (s : St), Decidable (GoodSt last s)]
variable [∀ (x : T4), Decidable (OkT x)]

set_option maxHeartbeats 8000000 in
set_option maxRecDepth 100000 in
theorem ascendsP_any (v : Value) (ps : List Pt) (w : World) (hl : ps.length ≤ 4194304) (h : RPt w v ps) :
    Calls Tryz.prog 81 #[.agg #[v, .func (.func 74) #[] #[]]] w fun e w' => e = .returned (.bool (rowP ps)) ∧ Below w.heap.size w w' := by
  obtain ⟨ao, ca, rfl⟩ := h.form
  have H := hide h
  obtain ⟨n, hn⟩ : ∃ n, ps.length = n := ⟨_, rfl⟩
  have Hn := hide hn
  have HI := hide (row_iff ps)
  rw [hn] at hl H ⊢
  clear h hn
  generalize rowP ps = rb at *
  obtain ⟨w0, hw0⟩ : ∃ y, w.alloc (.cells #[.slice ao n ca, .func (.func 74) #[] #[]] 101) = y := ⟨_, rfl⟩
  have B0 : Below w.heap.size w w0 := hw0 ▸ qalloc _ _
  have L0 : Loc w0 w.heap.size #[.slice ao n ca, .func (.func 74) #[] #[]] := hw0 ▸ loc_at w _ _ rfl
  go_enter Tryz.func81, Tryz.ntmps81
  go_wp2
  clear hw0
  go_loopw [3] (fun i wr => ∃ m : Nat, 1 ≤ m ∧ m ≤ n + 1 ∧ i = .int .i64 m ∧ Hid (∀ j, j + 1 < m → j + 1 < n → befP (ps.getD j zpt) (ps.getD (j + 1) zpt) = true) ∧ Loc wr w.heap.size #[.slice ao n ca, .func (.func 74) #[] #[]] ∧ Below w.heap.size w wr) (fun i _ => n + 1 - (intOf i).toNat)
  case atStart => exact ⟨1, Nat.le_refl _, by omega, by go_num, hide (fun j hj => absurd hj (by omega)), L0, B0⟩
  case round =>
    clear L0 B0
    obtain ⟨m, hm1, hm, rfl, HA, L, br⟩ := hrel
    have q0 := L.cell 0 rfl
    have q1 := L.cell 1 rfl
    by_cases hlt : m < n
    · obtain ⟨k, hk⟩ : ∃ k, m = k + 1 := ⟨m - 1, by omega⟩
      have hk1 : (m : Int) - 1 = (k : Int) := by omega
      have hwk : IntKind.i64.wrap (k : Int) = (k : Int) := by rw [IntKind.wrap_i64]; omega
      have hkn : k < n := by omega
      have HR := (unhide H).below br (Nat.le_refl _)
      obtain ⟨g, off, u, rfl, c0, c1, c2, ru⟩ := HR.at k (by rw [unhide Hn]; omega)
      obtain ⟨g', off', u', e, d0, d1, d2, ru'⟩ := HR.at m (by rw [unhide Hn]; omega)
      cases e
      obtain ⟨xc, xe, rfl⟩ := ru.form
      obtain ⟨yc, ye, rfl⟩ := ru'.form
      have CT := hide fun w => compareParts_any (ps.getD k zpt).1 (ps.getD m zpt).1 (ps.getD k zpt).2.1 (ps.getD m zpt).2.1 (.slice xc (ps.getD k zpt).2.2.length xe) (.slice yc (ps.getD m zpt).2.2.length ye) (ps.getD k zpt).2.2 (ps.getD m zpt).2.2 w
      have HS := hide fun (h : befP (ps.getD k zpt) (ps.getD m zpt) = true) => (show ∀ j, j + 1 < m + 1 → j + 1 < n → befP (ps.getD j zpt) (ps.getD (j + 1) zpt) = true from fun j hj hj2 => by
        by_cases e : j = k
        · rw [e, ← hk]; exact h
        · exact unhide HA j (by omega) hj2)
      have HN : Hid (¬ befP (ps.getD k zpt) (ps.getD m zpt) = true → rb = false) := hide fun h => by
        cases hrb : rb with
        | false => rfl
        | true => exact absurd (by have := (unhide HI).1 hrb k (by rw [unhide Hn]; omega); rwa [← hk] at this) h
      have hcm := hide (cmpP_lt (ps.getD k zpt) (ps.getD m zpt))
      have ecmp : cmpP ((ps.getD k zpt).1, (ps.getD k zpt).2.1, (ps.getD k zpt).2.2) ((ps.getD m zpt).1, (ps.getD m zpt).2.1, (ps.getD m zpt).2.2) = cmpP (ps.getD k zpt) (ps.getD m zpt) := rfl
      rw [ecmp] at CT
      clear HA HR ru ru' ecmp
      generalize cmpP (ps.getD k zpt) (ps.getD m zpt) = q at *
      generalize befP (ps.getD k zpt) (ps.getD m zpt) = BF at *
      generalize (ps.getD k zpt).1 = xa at *
      generalize (ps.getD k zpt).2.1 = xb at *
      generalize (ps.getD k zpt).2.2.length = xd at *
      generalize (ps.getD m zpt).1 = ya at *
      generalize (ps.getD m zpt).2.1 = yb at *
      generalize (ps.getD m zpt).2.2.length = yd at *
      have lg := cell_lt c0
      have K : Hid (∀ w', Below wr.heap.size wr w' → (fun w' => (w'.cell? ⟨w.heap.size, 0, none⟩ = some (.slice (some ⟨g, off, none⟩) n ca) ∧ w'.cell? ⟨w.heap.size, 1, none⟩ = some (.func (.func 74) #[] #[])) ∧ (w'.cell? ⟨g, off + k * 3, none⟩ = some (.int .i64 xa) ∧ w'.cell? ⟨g, off + k * 3 + 1, none⟩ = some (.string xb) ∧ w'.cell? ⟨g, off + k * 3 + 2, none⟩ = some (.slice xc xd xe)) ∧ (w'.cell? ⟨g, off + m * 3, none⟩ = some (.int .i64 ya) ∧ w'.cell? ⟨g, off + m * 3 + 1, none⟩ = some (.string yb) ∧ w'.cell? ⟨g, off + m * 3 + 2, none⟩ = some (.slice yc yd ye))) w') := hide fun w' hb => by
        have l := L.below hb L.lt
        exact ⟨⟨l.cell 0 rfl, l.cell 1 rfl⟩, ⟨(hb.cell (p := ⟨g, off + k * 3, none⟩) lg).trans c0, (hb.cell (p := ⟨g, off + k * 3 + 1, none⟩) lg).trans c1, (hb.cell (p := ⟨g, off + k * 3 + 2, none⟩) lg).trans c2⟩, ⟨(hb.cell (p := ⟨g, off + m * 3, none⟩) lg).trans d0, (hb.cell (p := ⟨g, off + m * 3 + 1, none⟩) lg).trans d1, (hb.cell (p := ⟨g, off + m * 3 + 2, none⟩) lg).trans d2⟩⟩
      have bA : Below wr.heap.size wr wr.drew := Below.drew (Below.refl _ _)
      replace hk := hide hk
      clear c0 c1 c2 d0 d1 d2
      go_upto_region 4 with fail
      refine wp_region_noPanic ?_
      refine wp_region_held_drew (S := (fun w' => (w'.cell? ⟨w.heap.size, 0, none⟩ = some (.slice (some ⟨g, off, none⟩) n ca) ∧ w'.cell? ⟨w.heap.size, 1, none⟩ = some (.func (.func 74) #[] #[])) ∧ (w'.cell? ⟨g, off + k * 3, none⟩ = some (.int .i64 xa) ∧ w'.cell? ⟨g, off + k * 3 + 1, none⟩ = some (.string xb) ∧ w'.cell? ⟨g, off + k * 3 + 2, none⟩ = some (.slice xc xd xe)) ∧ (w'.cell? ⟨g, off + m * 3, none⟩ = some (.int .i64 ya) ∧ w'.cell? ⟨g, off + m * 3 + 1, none⟩ = some (.string yb) ∧ w'.cell? ⟨g, off + m * 3 + 2, none⟩ = some (.slice yc yd ye)))) (by kernel_rfl) (unhide K _ bA) (fun hHeld => ?_)
      refine take_at (i := 0) (d := 11) (v := ?_) rfl rfl (by kernel_rfl) (by kernel_rfl) (by kernel_rfl) (fun _ _ _ h => h) (Or.inl ⟨by rfl, ?_⟩) (by assumption) ?_
      rotate_left
      · intro w hSw
        try dsimp only at hSw
        go_simp
        try with_reducible rfl
      simp only [Act.put, List.setIfInBounds_toArray, List.set_cons_zero, List.set_cons_succ]
      refine take_at (i := 1) (d := 12) (v := ?_) rfl rfl (by kernel_rfl) (by kernel_rfl) (by kernel_rfl) (fun _ _ _ h => h) (Or.inl ⟨by rfl, ?_⟩) (by assumption) ?_
      rotate_left
      · intro w hSw
        try dsimp only at hSw
        go_simp
        try with_reducible rfl
      simp only [Act.put, List.setIfInBounds_toArray, List.set_cons_zero, List.set_cons_succ]
      refine take_at (i := 2) (d := 13) (v := ?_) rfl rfl (by kernel_rfl) (by kernel_rfl) (by kernel_rfl) (fun _ _ _ h => h) (Or.inl ⟨by rfl, ?_⟩) (by assumption) ?_
      rotate_left
      · intro w hSw
        try dsimp only at hSw
        go_simp
        try with_reducible rfl
      simp only [Act.put, List.setIfInBounds_toArray, List.set_cons_zero, List.set_cons_succ]
      refine take_at (i := 3) (d := 14) (v := ?_) rfl rfl (by kernel_rfl) (by kernel_rfl) (by kernel_rfl) (fun _ _ _ h => h) (Or.inl ⟨by rfl, ?_⟩) (by assumption) ?_
      rotate_left
      · intro w hSw
        try dsimp only at hSw
        go_simp
        try with_reducible rfl
      simp only [Act.put, List.setIfInBounds_toArray, List.set_cons_zero, List.set_cons_succ]
      refine take_at (i := 4) (d := 15) (v := ?_) rfl rfl (by kernel_rfl) (by kernel_rfl) (by kernel_rfl) (fun _ _ _ h => h) (Or.inl ⟨by rfl, ?_⟩) (by assumption) ?_
      rotate_left
      · intro w hSw
        try dsimp only at hSw
        go_simp
        try with_reducible rfl
      simp only [Act.put, List.setIfInBounds_toArray, List.set_cons_zero, List.set_cons_succ]
      refine take_at (i := 5) (d := 16) (v := ?_) rfl rfl (by kernel_rfl) (by kernel_rfl) (by kernel_rfl) (fun _ _ _ h => h) (Or.inl ⟨by rfl, ?_⟩) (by assumption) ?_
      rotate_left
      · intro w hSw
        try dsimp only at hSw
        go_simp
        try with_reducible rfl
      simp only [Act.put, List.setIfInBounds_toArray, List.set_cons_zero, List.set_cons_succ]
      refine take_at (i := 6) (d := 17) (v := ?_) rfl rfl (by kernel_rfl) (by kernel_rfl) (by kernel_rfl) (fun _ _ _ h => h) (Or.inl ⟨by rfl, ?_⟩) (by assumption) ?_
      rotate_left
      · intro w hSw
        try dsimp only at hSw
        go_simp
        try with_reducible rfl
      simp only [Act.put, List.setIfInBounds_toArray, List.set_cons_zero, List.set_cons_succ]
      refine take_at (i := 7) (d := 18) (v := ?_) rfl rfl (by kernel_rfl) (by kernel_rfl) (by kernel_rfl) (fun _ _ _ h => h) (Or.inl ⟨by rfl, ?_⟩) (by assumption) ?_
      rotate_left
      · intro w hSw
        try dsimp only at hSw
        go_simp
        try with_reducible rfl
      simp only [Act.put, List.setIfInBounds_toArray, List.set_cons_zero, List.set_cons_succ]
      refine take_at (i := 8) (d := 19) (v := ?_) rfl rfl (by kernel_rfl) (by kernel_rfl) (by kernel_rfl) (fun _ _ _ h => h) (Or.inl ⟨by rfl, ?_⟩) (by assumption) ?_
      rotate_left
      · intro w hSw
        try dsimp only at hSw
        go_simp
        try with_reducible rfl
      simp only [Act.put, List.setIfInBounds_toArray, List.set_cons_zero, List.set_cons_succ]
      refine take_at (i := 9) (d := 20) (v := ?_) rfl rfl (by kernel_rfl) (by kernel_rfl) (by kernel_rfl) (fun _ _ _ h => h) (Or.inl ⟨by rfl, ?_⟩) (by assumption) ?_
      rotate_left
      · intro w hSw
        try dsimp only at hSw
        go_simp
        try with_reducible rfl
      simp only [Act.put, List.setIfInBounds_toArray, List.set_cons_zero, List.set_cons_succ]
      refine take_at (i := 10) (d := 21) (v := ?_) rfl rfl (by kernel_rfl) (by kernel_rfl) (by kernel_rfl) (fun _ _ _ h => h) (Or.inl ⟨by rfl, ?_⟩) (by assumption) ?_
      rotate_left
      · intro w hSw
        try dsimp only at hSw
        go_simp
        try with_reducible rfl
      simp only [Act.put, List.setIfInBounds_toArray, List.set_cons_zero, List.set_cons_succ]
      refine take_at (i := 11) (d := 22) (v := ?_) rfl rfl (by kernel_rfl) (by kernel_rfl) (by kernel_rfl) (fun _ _ _ h => h) (Or.inl ⟨by rfl, ?_⟩) (by assumption) ?_
      rotate_left
      · intro w hSw
        try dsimp only at hSw
        go_simp
        try with_reducible rfl
      simp only [Act.put, List.setIfInBounds_toArray, List.set_cons_zero, List.set_cons_succ]
      refine take_at (i := 12) (d := 23) (v := ?_) rfl rfl (by kernel_rfl) (by kernel_rfl) (by kernel_rfl) (fun _ _ _ h => h) (Or.inl ⟨by rfl, ?_⟩) (by assumption) ?_
      rotate_left
      · intro w hSw
        try dsimp only at hSw
        go_simp
        try with_reducible rfl
      simp only [Act.put, List.setIfInBounds_toArray, List.set_cons_zero, List.set_cons_succ]
      refine ready_at (i := 13) rfl (by kernel_rfl) (fun KK hKK => ?_)
      go_simp
      refine (unhide CT _).mono ?_
      rintro _ wa ⟨rfl, ba⟩
      have bB : Below wr.heap.size wr wa := bA.trans (ba.mono bA.size)
      clear hHeld
      refine hKK.out _ _ (unhide K _ bB) (fun hHeld => ?_)
      clear hKK KK
      refine take_at (i := 14) (d := 25) (v := ?_) rfl rfl (by kernel_rfl) (by kernel_rfl) (by kernel_rfl) (fun _ _ _ h => h) (Or.inl ⟨by rfl, ?_⟩) (by assumption) ?_
      rotate_left
      · intro w hSw
        try dsimp only at hSw
        go_simp
        try with_reducible rfl
      simp only [Act.put, List.setIfInBounds_toArray, List.set_cons_zero, List.set_cons_succ]
      clear hHeld
      refine wpAnyH_done (by kernel_rfl) ?_ _
      refine NoPanic.normal ?_
      have LB := L.below bB L.lt
      have BB := br.trans (bB.mono br.size)
      by_cases hq : q < 0
      · have HM := hide (unhide HS ((unhide hcm).1 hq))
        have hqd : decide (q ≥ 0) = false := by simp; omega
        clear HS HN hcm
        go_wp2
        go_roundw
        case rel => exact ⟨m + 1, by omega, by omega, by go_num, HM, LB, BB⟩
        case measure => simp [intOf]; omega
      · have HM := unhide HN (fun h => hq ((unhide hcm).2 h))
        have hqd : decide (q ≥ 0) = true := by simp; omega
        clear HS HN hcm
        go_wp2
        go_ret
        exact ⟨rfl, BB⟩
    · have HM : rb = true := (unhide HI).2 (fun j hj => by have := unhide Hn; exact unhide HA j (by omega) (by omega))
      have hd2 : decide ((m : Int) < (n : Int)) = false := by simp; omega
      clear HA H
      go_wp2
      go_ret
      exact ⟨by rw [HM]; rfl, br⟩
end Go.Proofs.YtehdchpolgihlaaGreatDoor

/- PartTold: (impl.Part).told, impl.toldParts, impl.tableOf. -/
namespace Go.Proofs.YtehdchpolgihlaaGreatDoor
open Go.RowKit
set_option linter.unusedSectionVars false
variable [∀ (a b c d : Int), Decidable (Ok4 a b c d)]
variable [∀ (n f : Int), Decidable (COk n f)]

set_option maxHeartbeats 4000000 in
set_option maxRecDepth 100000 in
theorem ptold_any (n : Int) (s : ByteArray) (v : Value) (xs : List Int) (w : World) (h : RI w v xs) (hs : s.size ≤ 281474976710656) :
    Calls Tryz.prog 75 #[qv n s v] w fun e w' => ∃ u, e = .returned (qv n s u) ∧ OI w' w.heap.size u xs ∧ Below w.heap.size w w' := by
  obtain ⟨ao, ca, rfl⟩ := h.form
  obtain ⟨w0, hw0⟩ : ∃ y, ((w.alloc (.cells #[.int .i64 n, .string s, .slice ao xs.length ca] 26)).alloc zpo).alloc (.cells #[.int .i64 n, .string s, .slice ao xs.length ca] 40) = y := ⟨_, rfl⟩
  have B0 : Below w.heap.size w w0 := hw0 ▸ ((qalloc2 _ _ _).alloc (by simp; omega) _)
  have LZ : Loc w0 (w.heap.size + 1) #[.int .i64 0, .string ⟨#[]⟩, .slice none 0 0] := hw0 ▸ (loc_at (w.alloc _) _ _ (by simp)).alloc _
  have LQ : Loc w0 (w.heap.size + 1 + 1) #[.int .i64 n, .string s, .slice ao xs.length ca] := hw0 ▸ (loc_at ((w.alloc _).alloc _) _ _ (by simp))
  have s0 : w0.heap.size = w.heap.size + 1 + 1 + 1 := by rw [← hw0]; simp
  have TO := hide (qtold_any (w.heap.size + 1 + 1) n s ao ca xs w0 LQ (h.below B0 (Nat.le_refl _)) hs)
  have HZ := hide LZ
  clear h LZ LQ
  go_enter Tryz.func75, Tryz.ntmps75
  go_wp2_with fail
  clear hw0
  refine (unhide TO).mono ?_
  rintro e w2 ⟨u, rfl, o2, b2⟩
  have B2 : Below w.heap.size w w2 := B0.trans (b2.mono B0.size)
  have Z2 := (unhide HZ).below b2 (unhide HZ).lt
  have y0 := Z2.cell 0 rfl
  have y1 := Z2.cell 1 rfl
  have y2 := Z2.cell 2 rfl
  have fy := Z2.frozen
  have lt2 := World.ownsRow.lt o2
  obtain ⟨ua, uc, rfl⟩ := o2.form
  have O2 := hide o2
  clear o2 b2 Z2 HZ TO
  go_wp2
  refine bodyPost_ret (v := qv n s (.slice ua xs.length uc)) (by simp [results, Tryz.results75, go_sem, y0, y1, y2]) rfl ?_
  have K5 : Kp w2 (((w2.setCell ⟨w.heap.size + 1, 0, none⟩ (.int .i64 n)).setCell ⟨w.heap.size + 1, 1, none⟩ (.string s)).setCell ⟨w.heap.size + 1, 2, none⟩ (.slice ua xs.length uc)) (fun k => k = w.heap.size + 1) := ((set_kp _ _ _ _).trans (set_kp _ _ _ _)).trans (set_kp _ _ _ _)
  exact ⟨_, rfl, ((unhide O2).kp K5 (fun k hk => by have := lt2 k hk; omega)).mono (by omega), Below.kp B2 K5 B2.size (fun k hk => by omega)⟩

set_option maxHeartbeats 400000 in
set_option maxRecDepth 100000 in
theorem tableOf_any (ao : Option Addr) (n ca : Nat) (w : World) :
    Calls Tryz.prog 76 #[.slice ao n ca] w fun e w' => e = .returned (.agg #[.slice ao n ca, .func (.func 74) #[] #[]]) ∧ Below w.heap.size w w' := by
  go_enter Tryz.func76, Tryz.ntmps76
  go_wp2
  refine bodyPost_ret (v := .agg #[.slice ao n ca, .func (.func 74) #[] #[]]) (by simp [results, Tryz.results76, go_sem]) rfl ?_
  exact ⟨rfl, (Below.refl _ _).alloc (Nat.le_refl _) _⟩
set_option maxHeartbeats 4000000 in
set_option maxRecDepth 100000 in
theorem toldParts_any (v : Value) (ps : List Pt) (w : World) (hl : ps.length ≤ 4194305) (hs : ∀ p ∈ ps, p.2.1.size ≤ 281474976710656) (h : RPt w v ps) :
    Calls Tryz.prog 62 #[v] w fun e w' => ∃ u, e = .returned u ∧ OPt w' w.heap.size u ps ∧ Below w.heap.size w w' := by
  obtain ⟨i0, hi, hz0, hz1, hz2⟩ := info_parts Tryz.infoPt
  obtain ⟨ao, ca, rfl⟩ := h.form
  have HS0 := hide hs
  have H := hide h
  clear hs
  obtain ⟨n, hn⟩ : ∃ n, ps.length = n := ⟨_, rfl⟩
  have Hn := hide hn
  rw [hn] at hl H ⊢
  clear h hn
  go_enter Tryz.func62, Tryz.ntmps62
  go_wp2_with (first | (at_make; refine wpList_make_full _ rfl _ _ 33 rfl w.heap.size 26 i0 (qv 0 ⟨#[]⟩ (.slice none 0 0)) 3 Tryz.underlying33 hi hz0 hz1 .i64 .i64 _ _ n rfl rfl rfl rfl (by rw [hz2]; omega) (by unfold maxLen; omega) (Nat.le_refl _) ?_; intro w0 ho0 hg0))
  have T0 : OPtV w0 w.heap.size (.slice (some ⟨w.heap.size, 0, none⟩) n n) (pthalf ps 0) (List.replicate n (.slice none 0 0)) := by
    rw [made_pcells] at ho0
    have := opt_zero ho0
    simpa [pthalf, unhide Hn] using this
  have B0 : Below w.heap.size w w0 := (Below.refl _ _).grown hg0 (Nat.le_refl _) (by simp)
  clear ho0 hg0 hz0 hz1 hz2 hi
  go_loopw [11] (fun i wr => ∃ (k : Nat) (vs : List Value), k ≤ n ∧ i = .int .i64 k ∧ OPtV wr w.heap.size (.slice (some ⟨w.heap.size, 0, none⟩) n n) (pthalf ps k) vs ∧ Below w.heap.size w wr) (fun i _ => n - (intOf i).toNat)
  case atStart => exact ⟨0, _, Nat.zero_le _, rfl, T0, B0⟩
  case round =>
    clear T0
    obtain ⟨k, vs, hk, rfl, T, br⟩ := hrel
    by_cases hlt : k < n
    · have hkx : k < ps.length := by have := unhide Hn; omega
      have hlen := pthalf_len ps k (by omega)
      have HR := (unhide H).below br (Nat.le_refl _)
      obtain ⟨g, off, u, rfl, c0, c1, c2, ru⟩ := HR.at k hkx
      have HS := hide (pthalf_set ps k hkx)
      have hsz := unhide HS0 _ (pt_mem hkx)
      obtain ⟨x, hx⟩ : ∃ x, ps.getD k zpt = x := ⟨_, rfl⟩
      rw [hx] at c0 c1 ru HS hsz
      clear hx
      obtain ⟨m, s, xs⟩ := x
      simp only at c0 c1 ru hsz
      have TP := hide fun w h => ptold_any m s u xs w h hsz
      obtain ⟨ua, uc, rfl⟩ := ru.form
      have RU := hide ru
      have HT := hide T
      generalize xs.length = xl at *
      obtain ⟨w1, hw1⟩ : ∃ y, wr.alloc (.cells #[.int .i64 m, .string s, .slice ua xl uc] 26) = y := ⟨_, rfl⟩
      have b1 : Below wr.heap.size wr w1 := hw1 ▸ qalloc _ _
      have L1 : Loc w1 wr.heap.size #[.int .i64 m, .string s, .slice ua xl uc] := hw1 ▸ loc_at wr _ _ rfl
      have p0 := L1.cell 0 rfl
      have p1 := L1.cell 1 rfl
      have p2 := L1.cell 2 rfl
      have s1 := b1.size
      replace RU := hide ((unhide RU).below b1 (Nat.le_refl _))
      replace HT := hide ((unhide HT).below b1)
      replace br := br.trans (b1.mono br.size)
      clear HR H ru T b1 hsz
      go_wp2_with fail
      clear hw1 p0 p1 p2 L1
      refine (unhide TP _ (unhide RU)).mono ?_
      rintro e w2 ⟨u2, rfl, o2, b2⟩
      have T2 := (unhide HT).below b2
      have B2 := br.trans (b2.mono br.size)
      have lt2 := World.ownsRow.lt o2
      have hrow := T2.row
      rw [hlen, unhide Hn] at hrow
      have hplen : (pcells (((pthalf ps k).map phd).zip vs)).length = n * 3 := by rw [pcells_len]; simp [T2.len, hlen, unhide Hn]
      have gt : ∀ j, j < n * 3 → ∃ u, w2.cell? ⟨w.heap.size, j, none⟩ = some u := fun j hj => ⟨_, (hrow.cellAt j hj).trans (List.getElem?_eq_getElem (by rw [hplen]; exact hj))⟩
      obtain ⟨y0, d0⟩ := gt (k * 3) (by omega)
      obtain ⟨y1, d1⟩ := gt (k * 3 + 1) (by omega)
      obtain ⟨y2, d2⟩ := gt (k * 3 + 2) (by omega)
      have f0 := hrow.frozenAt (k * 3)
      have f1 := hrow.frozenAt (k * 3 + 1)
      have f2 := hrow.frozenAt (k * 3 + 2)
      have R := hide (show OPtV (((w2.setCell ⟨w.heap.size, k * 3, none⟩ (.int .i64 m)).setCell ⟨w.heap.size, k * 3 + 1, none⟩ (.string s)).setCell ⟨w.heap.size, k * 3 + 2, none⟩ u2) w.heap.size (.slice (some ⟨w.heap.size, 0, none⟩) n n) (pthalf ps (k + 1)) (vs.set k u2) by
        have T3 := T2
        have en : n = (pthalf ps k).length := by rw [hlen, unhide Hn]
        rw [← unhide HS]
        have := opt_set (m := m) (s := s) (u := u2) (xs := xs) (k := k) (cap := n) (g := w.heap.size) (w := w2) (base := w.heap.size) (ps := pthalf ps k) (vs := vs) (by rw [← en]; exact T3) (by rw [hlen]; exact hkx) (OI.mono o2 br.size) (fun j hj _ b hb e => by
          have h1 := World.ownsRow.lt ((unhide HT).each j hj) b hb
          have h2 := lt2 b e
          omega)
        rw [← en] at this
        exact this)
      have BR := hide (((B2.setCell (p := ⟨w.heap.size, k * 3, none⟩) (Nat.le_refl _) (.int .i64 m)).setCell (p := ⟨w.heap.size, k * 3 + 1, none⟩) (Nat.le_refl _) (.string s)).setCell (p := ⟨w.heap.size, k * 3 + 2, none⟩) (Nat.le_refl _) u2)
      obtain ⟨va, vc, rfl⟩ := o2.form
      generalize xs.length = zl at *
      clear T2 B2 hrow hplen gt o2 lt2 HT TP RU c0 c1 c2
      go_wp2
      go_roundw
      case rel => exact ⟨k + 1, _, by omega, by go_num, unhide R, unhide BR⟩
      case measure => simp [intOf]; omega
    · have hkn : pthalf ps k = ps := by
        have := unhide Hn
        unfold pthalf
        rw [List.take_of_length_le (by omega), show ps.length - k = 0 by omega]
        simp
      rw [hkn] at T
      have T' := hide T
      clear T hkn H
      go_wp2
      go_ret
      exact ⟨_, rfl, ⟨_, unhide T'⟩, br⟩
end Go.Proofs.YtehdchpolgihlaaGreatDoor

/- TableOki: TableOk of the program. -/
namespace Go.Proofs.YtehdchpolgihlaaGreatDoor
open Go.RowKit
set_option linter.unusedSectionVars false
variable [∀ (n : Int) (s : List Int), Decidable (OkL n s)]
variable [∀ (a b c d : Int), Decidable (Ok4 a b c d)]
variable [∀ (n f : Int), Decidable (COk n f)]
variable [∀ (a b c d : Nat), Decidable (okN a b c d)]
variable [∀ (last : Int) (s : St), Decidable (GoodSt last s)]
variable [∀ (x : T4), Decidable (OkT x)]

set_option maxHeartbeats 1600000 in
set_option maxRecDepth 100000 in
theorem notPart_any (n f m : Int) (s : ByteArray) (u : Value) (xs : List Int) (g : Nat) (w : World) (hs : s.size ≤ 33554432) (hE : Env w) (hu : RI w u xs) (hg : Loc w g #[.int .i64 n, .int .i64 f]) :
    Calls Tryz.prog 79 #[qv m s u, .pointer (some ⟨g, 0, none⟩)] w fun e w' => e = .returned (.bool (!pokB n f m s xs)) ∧ Below w.heap.size w w' := by
  obtain ⟨ua, uc, rfl⟩ := hu.form
  obtain ⟨ul, hul⟩ : ∃ l, xs.length = l := ⟨_, rfl⟩
  obtain ⟨w0, hw0⟩ : ∃ y, w.alloc (.cells #[.int .i64 m, .string s, .slice ua xs.length uc] 26) = y := ⟨_, rfl⟩
  have B0 : Below w.heap.size w w0 := hw0 ▸ qalloc _ _
  have L0 : Loc w0 w.heap.size #[.int .i64 m, .string s, .slice ua xs.length uc] := hw0 ▸ loc_at w _ _ rfl
  have LG := hg.below B0 hg.lt
  have PO := hide (implPartOk n f m s (.slice ua xs.length uc) xs w0 hs (hE.below B0) (hu.below B0 (Nat.le_refl _)))
  rw [hul] at L0 PO hw0 ⊢
  have a0 := L0.cell 0 rfl
  have a1 := L0.cell 1 rfl
  have a2 := L0.cell 2 rfl
  have c0 := LG.cell 0 rfl
  have c1 := LG.cell 1 rfl
  generalize pokB n f m s xs = b at *
  clear L0 LG hg hu hE hul
  go_enter Tryz.func79, Tryz.ntmps79
  go_wp2_with fail
  clear hw0
  refine (unhide PO).mono ?_
  rintro e w2 ⟨rfl, b2⟩
  have B2 := B0.trans (b2.mono B0.size)
  go_wp2
  go_ret
  exact ⟨rfl, B2⟩

theorem all_take {n f : Int} {ps : List Pt} {k : Nat} (hk : k < ps.length) (h : (ps.take k).all (fun p => pokB n f p.1 p.2.1 p.2.2) = true) (h1 : pokB n f (ps.getD k zpt).1 (ps.getD k zpt).2.1 (ps.getD k zpt).2.2 = true) : (ps.take (k + 1)).all (fun p => pokB n f p.1 p.2.1 p.2.2) = true := by
  have e : ps.take (k + 1) = ps.take k ++ [ps.getD k zpt] := by
    rw [List.take_succ_eq_append_getElem hk]; simp [List.getElem?_eq_getElem hk]
  rw [e, List.all_append, h, List.all_cons, h1]
  rfl
theorem all_bad {n f : Int} {ps : List Pt} {k : Nat} (hk : k < ps.length) (h1 : pokB n f (ps.getD k zpt).1 (ps.getD k zpt).2.1 (ps.getD k zpt).2.2 = false) : ps.all (fun p => pokB n f p.1 p.2.1 p.2.2) = false := by
  cases e : ps.all (fun p => pokB n f p.1 p.2.1 p.2.2) with
  | false => rfl
  | true => rw [List.all_eq_true] at e; have := e _ (pt_mem hk); rw [h1] at this; cases this

set_option maxHeartbeats 4000000 in
set_option maxRecDepth 100000 in
theorem indexNot (n f : Int) (v : Value) (ps : List Pt) (g : Nat) (w : World) (hl : ps.length ≤ 4194304) (hs : ∀ p ∈ ps, p.2.1.size ≤ 33554432) (hE : Env w) (h : RPt w v ps) (hg : Loc w g #[.int .i64 n, .int .i64 f]) :
    Calls Tryz.prog 72 #[v, .func (.func 79) #[] #[.pointer (some ⟨g, 0, none⟩)]] w fun e w' => ∃ q : Int, e = .returned (.int .i64 q) ∧ decide (q ≥ 0) = !(ps.all fun p => pokB n f p.1 p.2.1 p.2.2) ∧ Below w.heap.size w w' := by
  obtain ⟨ao, ca, rfl⟩ := h.form
  obtain ⟨len, hn⟩ : ∃ n, ps.length = n := ⟨_, rfl⟩
  have Hn := hide hn
  have H := hide h
  rw [hn] at hl H ⊢
  have HS := hide hs
  have HG := hide hg
  have HE := hide hE
  clear h hn hg hs hE
  go_enter Tryz.func72, Tryz.ntmps72
  go_wp2
  go_loopw [8] (fun j wr => ∃ k : Nat, k ≤ len ∧ j = .int .i64 k ∧ Hid ((ps.take k).all (fun p => pokB n f p.1 p.2.1 p.2.2) = true) ∧ Below w.heap.size w wr) (fun j _ => len - (intOf j).toNat)
  case atStart => exact ⟨0, Nat.zero_le _, rfl, hide (by simp), Below.refl _ _⟩
  case round =>
    obtain ⟨k, hk, rfl, HK, br⟩ := hrel
    by_cases hlt : k < len
    · have hkx : k < ps.length := by rw [unhide Hn]; exact hlt
      obtain ⟨b, off, u, rfl, c0, c1, c2, ru⟩ := ((unhide H).below br (Nat.le_refl _)).at k hkx
      have GC := hide (notPart_any n f (ps.getD k zpt).1 (ps.getD k zpt).2.1 u (ps.getD k zpt).2.2 g wr (unhide HS _ (pt_mem hkx)) ((unhide HE).below br) ru ((unhide HG).below br (unhide HG).lt))
      have HF := hide fun h1 => all_bad (n := n) (f := f) hkx h1
      have HM := hide fun h1 => all_take (n := n) (f := f) hkx (unhide HK) h1
      obtain ⟨ua, uc, rfl⟩ := ru.form
      clear ru HK H
      generalize pokB n f (ps.getD k zpt).1 (ps.getD k zpt).2.1 (ps.getD k zpt).2.2 = pb at *
      generalize (ps.getD k zpt).1 = m at *
      generalize (ps.getD k zpt).2.1 = s at *
      generalize (ps.getD k zpt).2.2.length = xl at *
      cases pb with
      | false =>
        have F := hide (unhide HF rfl)
        clear HF HM
        go_wp2_with fail
        refine (unhide GC).mono ?_
        rintro _ w2 ⟨rfl, b2⟩
        go_wp2
        go_ret
        exact ⟨k, rfl, by rw [unhide F]; simp, br.trans (b2.mono br.size)⟩
      | true =>
        have F := hide (unhide HM rfl)
        clear HF HM
        go_wp2_with fail
        refine (unhide GC).mono ?_
        rintro _ w2 ⟨rfl, b2⟩
        go_wp2
        go_roundw
        case rel => exact ⟨k + 1, by omega, by go_num, F, br.trans (b2.mono br.size)⟩
        case measure => simp [intOf]; omega
    · have hkn : ps.take k = ps := List.take_of_length_le (by have := unhide Hn; omega)
      have h0 := unhide HK
      rw [hkn] at h0
      have F := hide h0
      have hd2 : decide ((k : Int) < (len : Int)) = false := by simp; omega
      clear HK h0 hkn H
      go_wp2
      go_ret
      exact ⟨-1, rfl, by rw [unhide F]; simp, br⟩

set_option maxHeartbeats 1600000 in
set_option maxRecDepth 100000 in
theorem containsNot (n f : Int) (v : Value) (ps : List Pt) (g : Nat) (w : World) (hl : ps.length ≤ 4194304) (hs : ∀ p ∈ ps, p.2.1.size ≤ 33554432) (hE : Env w) (h : RPt w v ps) (hg : Loc w g #[.int .i64 n, .int .i64 f]) :
    Calls Tryz.prog 80 #[v, .func (.func 79) #[] #[.pointer (some ⟨g, 0, none⟩)]] w fun e w' => e = .returned (.bool (!(ps.all fun p => pokB n f p.1 p.2.1 p.2.2))) ∧ Below w.heap.size w w' := by
  have IX := hide (indexNot n f v ps g w hl hs hE h hg)
  obtain ⟨ao, ca, rfl⟩ := h.form
  generalize ps.length = len at *
  generalize (ps.all fun p => pokB n f p.1 p.2.1 p.2.2) = b at *
  clear h hg hE hs
  go_enter Tryz.func80, Tryz.ntmps80
  go_wp2_with fail
  refine (unhide IX).mono ?_
  rintro e w2 ⟨q, rfl, hq, b2⟩
  go_wp2
  go_ret
  exact ⟨by rw [← hq]; rfl, b2⟩

theorem tok_alt (n f : Int) (ps : List Pt) : tokB n f ps = (decide ((ps.length : Int) ≤ 20) && ((ps.all fun p => pokB n f p.1 p.2.1 p.2.2) && rowP ps)) := by
  unfold tokB
  have : decide (ps.length ≤ 20) = decide ((ps.length : Int) ≤ 20) := by rw [decide_eq_decide]; omega
  rw [this, Bool.and_comm]

set_option maxHeartbeats 4000000 in
set_option maxRecDepth 100000 in
theorem implTableOk (n f : Int) (v : Value) (ps : List Pt) (w : World) (hl : ps.length ≤ 4194304) (hs : ∀ p ∈ ps, p.2.1.size ≤ 33554432) (hE : Env w) (h : RPt w v ps) :
    Calls Tryz.prog 29 #[cv n f, v] w fun e w' => e = .returned (.bool (tokB n f ps)) ∧ Below w.heap.size w w' := by
  rw [tok_alt]
  obtain ⟨ao, ca, rfl⟩ := h.form
  obtain ⟨w0, hw0⟩ : ∃ y, w.alloc (.cells #[.int .i64 n, .int .i64 f] 32) = y := ⟨_, rfl⟩
  have B0 : Below w.heap.size w w0 := hw0 ▸ qalloc _ _
  have L0 : Loc w0 w.heap.size #[.int .i64 n, .int .i64 f] := hw0 ▸ loc_at w _ _ rfl
  have CN := hide (containsNot n f (.slice ao ps.length ca) ps w.heap.size w0 hl hs (hE.below B0) (h.below B0 (Nat.le_refl _)) L0)
  have AS := hide fun w h => ascendsP_any (.slice ao ps.length ca) ps w hl h
  have TO := hide fun w => tableOf_any ao ps.length ca w
  have HR := hide fun w' (hb : Below w.heap.size w w') => h.below hb (Nat.le_refl _)
  generalize ps.length = len at *
  generalize (ps.all fun p => pokB n f p.1 p.2.1 p.2.2) = b at *
  generalize rowP ps = r at *
  clear h hE hs L0
  by_cases h20 : (len : Int) ≤ 20
  · have hd : decide ((len : Int) ≤ 20) = true := by simpa using h20
    rw [hd, Bool.true_and]
    cases b with
    | false =>
      rw [Bool.false_and]
      go_enter Tryz.func29, Tryz.ntmps29
      go_wp2_with fail
      clear hw0
      refine (unhide CN).mono ?_
      rintro e w1 ⟨rfl, b1⟩
      have B1 := B0.trans (b1.mono B0.size)
      go_wp2
      go_ret
      exact ⟨rfl, B1⟩
    | true =>
      rw [Bool.true_and]
      go_enter Tryz.func29, Tryz.ntmps29
      go_wp2_with fail
      clear hw0
      refine (unhide CN).mono ?_
      rintro e w1 ⟨rfl, b1⟩
      have B1 := B0.trans (b1.mono B0.size)
      clear b1 CN
      go_wp2_with fail
      refine (unhide TO _).mono ?_
      rintro e w2 ⟨rfl, b2⟩
      have B2 := B1.trans (b2.mono B1.size)
      clear b2 TO
      go_wp2_with fail
      refine (unhide AS _ (unhide HR _ B2)).mono ?_
      rintro e w3 ⟨rfl, b3⟩
      have B3 := B2.trans (b3.mono B2.size)
      go_wp2
      go_ret
      exact ⟨rfl, B3⟩
  · have hd : decide ((len : Int) ≤ 20) = false := by simpa using h20
    rw [hd, Bool.false_and]
    go_enter Tryz.func29, Tryz.ntmps29
    go_wp2
    go_ret
    exact ⟨rfl, B0⟩
end Go.Proofs.YtehdchpolgihlaaGreatDoor

/- TableOkAll: laws.FnExactTableOk at every argument. -/
namespace Go.Proofs.YtehdchpolgihlaaGreatDoor
open Go.RowKit
set_option linter.unusedSectionVars false
variable [∀ (a b c d : Int), Decidable (Ok4 a b c d)]
variable [∀ (n f : Int), Decidable (COk n f)]
variable [∀ (n : Int) (s : List Int), Decidable (OkL n s)]
variable [∀ (a b c d : Nat), Decidable (okN a b c d)]
variable [∀ (last : Int) (s : St), Decidable (GoodSt last s)]
variable [∀ (x : T4), Decidable (OkT x)]

set_option maxHeartbeats 1600000 in
set_option maxRecDepth 100000 in
theorem fnTableOk_long (n f : Int) (al : Option Addr) (cl : Nat) (rs : List Pr) (w : World) (h : ATab w al rs) (hb : ∀ r ∈ rs, r.2.1.size ≤ maxLen ∧ r.2.2.2.2.length ≤ maxLen) (hm : rs.length ≤ maxLen) (hs : 1048576 < rs.length + psum rs) :
    Calls Tryz.prog 6 #[cv n f, .slice al rs.length cl] w fun e w' => e = .returned (.bool true) ∧ Below w.heap.size w w' := by
  obtain ⟨w0, hw0⟩ : ∃ y, w.alloc (.cells #[.int .i64 n, .int .i64 f] 60) = y := ⟨_, rfl⟩
  have B0 : Below w.heap.size w w0 := hw0 ▸ qalloc _ _
  have ZN := hide (szPartS_no al cl rs 1048576 w0 (h.below B0) hb (by omega) hm (by omega) (by omega))
  generalize rs.length = l at *
  clear h hb hm hs
  go_enter Tryz.func6, Tryz.ntmps6
  go_wp2_with fail
  clear hw0
  refine (unhide ZN).mono ?_
  rintro e w1 ⟨rfl, b1⟩
  have B1 := B0.trans (b1.mono B0.size)
  go_wp2
  go_ret
  exact ⟨rfl, B1⟩
abbrev AllP (w : World) (rs : List Pr) : Prop := ∀ r ∈ rs, r.2.1.size ≤ maxLen ∧ r.2.2.2.2.length ≤ maxLen ∧ AIW w r.2.2.1 r.2.2.2.2 ∧ WfL r.2.2.2.2
theorem fnTableOk_walk (n f : Int) (al : Option Addr) (cl : Nat) (rs : List Pr) (w : World) (hm : rs.length ≤ maxLen) (h : ATab w al rs) (he : AllP w rs) (hE : Env w) :
    Calls Tryz.prog 6 #[cv n f, .slice al rs.length cl] w fun e w' => e = .returned (.bool true) ∧ Below w.heap.size w w' := by
  by_cases h2 : 1048576 < rs.length + psum rs
  · exact fnTableOk_long n f al cl rs w h (fun r hr => ⟨(he r hr).1, (he r hr).2.1⟩) hm h2
  · exact fnTableOk_short Env (fun w w' h hb => h.below hb) (fun n f v ps w hl hs hE hr => implTableOk n f v ps w (by omega) (fun p hp => by have := (hs p hp).1; omega) hE hr) n f al cl rs w h (fun r hr => (he r hr).2.2.1) (by omega) hE
end Go.Proofs.YtehdchpolgihlaaGreatDoor
