/- PartOki: PartOk of the program. -/
import Derived.Test.YtehdchpolgihlaaGreatDoorTfAW
import Derived.Test.YtehdchpolgihlaaGreatDoorTfAT
import Derived.Test.YtehdchpolgihlaaGreatDoorTfAJ
/- PartOki: PartOk of the program. -/
namespace Go.Proofs.YtehdchpolgihlaaGreatDoor
open Go.RowKit
set_option linter.unusedSectionVars false
variable [∀ (a b c d : Int), Decidable (Ok4 a b c d)]
variable [∀ (n f : Int), Decidable (COk n f)]
variable [∀ (n : Int) (s : List Int), Decidable (OkL n s)]
variable [∀ (a b c d : Nat), Decidable (okN a b c d)]
variable [∀ (last : Int) (s : St), Decidable (GoodSt last s)]
variable [∀ (x : T4), Decidable (OkT x)]

theorem view_none {s : ByteArray} (h : (stepsAns s).isSome = false) : viewAns s = 0 := by
  unfold viewAns
  cases e : stepsAns s with
  | none => rfl
  | some x => rw [e] at h; cases h
theorem pok_alt (n f m : Int) (s : ByteArray) (xs : List Int) : pokB n f m s xs = (decide (COk n f) && (decide (1 ≤ m ∧ m ≤ 60) && ((decide (s = ⟨#[]⟩) || (viewAns s == m)) && (decide ((0 : Int) < (xs.length : Int)) && decide (OkL n xs))))) := by
  have hx : decide (xs ≠ []) = decide ((0 : Int) < (xs.length : Int)) := by cases xs with | nil => rfl | cons a l => simp <;> omega
  have hv : (viewAns s == m) = decide (viewAns s = m) := by rw [Bool.eq_iff_iff, beq_iff_eq, decide_eq_true_iff]
  unfold pokB
  rw [hx, hv]
  by_cases hm : 1 ≤ m ∧ m ≤ 60
  · cases hk : (stepsAns s).isSome with
    | true => simp only [Bool.true_and]; cases decide (COk n f) <;> cases decide (1 ≤ m ∧ m ≤ 60) <;> cases decide (OkL n xs) <;> cases decide ((0 : Int) < (xs.length : Int)) <;> simp
    | false =>
      have h0 := view_none hk
      have : decide (viewAns s = m) = false := by simp; omega
      rw [this]
      cases decide (COk n f) <;> cases decide (1 ≤ m ∧ m ≤ 60) <;> cases decide (OkL n xs) <;> cases decide ((0 : Int) < (xs.length : Int)) <;> simp
  · rw [decide_eq_false hm]; simp
theorem within_bool (x lo hi : Int) (w : World) : Calls Tryz.prog 83 #[.int .i64 x, .int .i64 lo, .int .i64 hi] w fun e w' => e = .returned (.bool (decide (lo ≤ x ∧ x ≤ hi))) ∧ Below w.heap.size w w' := by
  by_cases h : lo ≤ x ∧ x ≤ hi
  · rw [decide_eq_true h]; exact (within_yes x lo hi w h.1 h.2).mono fun _ _ h => ⟨h.1, h.2 ▸ Below.refl _ _⟩
  · rw [decide_eq_false h]; exact (within_no x lo hi w (by omega)).mono fun _ _ h => ⟨h.1, h.2 ▸ Below.refl _ _⟩

set_option maxHeartbeats 8000000 in
set_option maxRecDepth 100000 in
theorem namesIts_any (m : Int) (s : ByteArray) (u : Value) (w : World) (hs : s.size ≤ 33554432) (hE : Env w) :
    Calls Tryz.prog 84 #[qv m s u] w fun e w' => e = .returned (.bool (decide (s = ⟨#[]⟩) || (viewAns s == m))) ∧ Below w.heap.size w w' := by
  obtain ⟨w0, hw0⟩ : ∃ y, w.alloc (.cells #[.int .i64 m, .string s, u] 26) = y := ⟨_, rfl⟩
  have Bw0 : Below w.heap.size w w0 := hw0 ▸ qalloc _ _
  have LP : Loc w0 w.heap.size #[.int .i64 m, .string s, u] := hw0 ▸ loc_at w _ _ rfl
  have HE := hide (hE.below Bw0)
  have VO := hide fun w hE => implViewOf s w hs hE
  generalize viewAns s = vw at *
  clear hE
  by_cases he : s = ⟨#[]⟩
  · have hd : decide (s = ⟨#[]⟩) = true := by simpa using he
    have hy : (s.toList == []) = true := by rw [he, ByteArray.toList_eq]; rfl
    rw [hd, Bool.true_or]
    clear he hd
    go_enter Tryz.func84, Tryz.ntmps84
    have K : Hid (∀ w', Below w0.heap.size w0 w' → (fun w' => Below w0.heap.size w0 w' ∧ (w'.cell? ⟨w.heap.size, 0, none⟩ = some (.int .i64 m) ∧ w'.cell? ⟨w.heap.size, 1, none⟩ = some (.string s) ∧ w'.cell? ⟨w.heap.size, 2, none⟩ = some (u))) w') := hide fun w' hb' => ⟨hb', ⟨(LP.below hb' LP.lt).cell 0 rfl, (LP.below hb' LP.lt).cell 1 rfl, (LP.below hb' LP.lt).cell 2 rfl⟩⟩
    go_upto_region 1 with fail
    clear hw0
    have bA : Below w0.heap.size w0 w0.drew := Below.drew (Below.refl _ _)
    refine wp_region_noPanic ?_
    refine wp_region_held_drew (S := fun w' => Below w0.heap.size w0 w' ∧ (w'.cell? ⟨w.heap.size, 0, none⟩ = some (.int .i64 m) ∧ w'.cell? ⟨w.heap.size, 1, none⟩ = some (.string s) ∧ w'.cell? ⟨w.heap.size, 2, none⟩ = some (u))) (by kernel_rfl) (unhide K _ bA) (fun hHeld => ?_)
    refine take_at (i := 0) (d := 3) (v := ?_) rfl rfl (by kernel_rfl) (by kernel_rfl) (by kernel_rfl) (fun _ _ _ h => h) (Or.inl ⟨by rfl, ?_⟩) (by assumption) ?_
    rotate_left
    · intro w hSw
      try dsimp only at hSw
      go_simp
      try with_reducible rfl
    simp only [Act.put, List.setIfInBounds_toArray, List.set_cons_zero, List.set_cons_succ]
    refine take_at (i := 1) (d := 4) (v := ?_) rfl rfl (by kernel_rfl) (by kernel_rfl) (by kernel_rfl) (fun _ _ _ h => h) (Or.inl ⟨by rfl, ?_⟩) (by assumption) ?_
    rotate_left
    · intro w hSw
      try dsimp only at hSw
      go_simp
      try with_reducible rfl
    simp only [Act.put, List.setIfInBounds_toArray, List.set_cons_zero, List.set_cons_succ]
    refine take_at (i := 2) (d := 5) (v := ?_) rfl rfl (by kernel_rfl) (by kernel_rfl) (by kernel_rfl) (fun _ _ _ h => h) (Or.inl ⟨by rfl, ?_⟩) (by assumption) ?_
    rotate_left
    · intro w hSw
      try dsimp only at hSw
      go_simp
      try with_reducible rfl
    simp only [Act.put, List.setIfInBounds_toArray, List.set_cons_zero, List.set_cons_succ]
    refine take_at (i := 3) (d := 6) (v := ?_) rfl rfl (by kernel_rfl) (by kernel_rfl) (by kernel_rfl) (fun _ _ _ h => h) (Or.inl ⟨by rfl, ?_⟩) (by assumption) ?_
    rotate_left
    · intro w hSw
      try dsimp only at hSw
      go_simp
      try with_reducible rfl
    simp only [Act.put, List.setIfInBounds_toArray, List.set_cons_zero, List.set_cons_succ]
    refine take_at (i := 4) (d := 7) (v := undef) rfl rfl (by kernel_rfl) (by kernel_rfl) (by kernel_rfl) (fun _ _ _ h => h) (Or.inr ⟨by rfl, rfl⟩) (by assumption) ?_
    simp only [Act.put, List.setIfInBounds_toArray, List.set_cons_zero, List.set_cons_succ]
    refine take_at (i := 7) (d := 10) (v := undef) rfl rfl (by kernel_rfl) (by kernel_rfl) (by kernel_rfl) (fun _ _ _ h => h) (Or.inr ⟨by rfl, rfl⟩) (by assumption) ?_
    simp only [Act.put, List.setIfInBounds_toArray, List.set_cons_zero, List.set_cons_succ]
    refine take_at (i := 5) (d := 8) (v := undef) rfl rfl (by kernel_rfl) (by kernel_rfl) (by kernel_rfl) (fun _ _ _ h => h) (Or.inr ⟨by rfl, rfl⟩) (by assumption) ?_
    simp only [Act.put, List.setIfInBounds_toArray, List.set_cons_zero, List.set_cons_succ]
    refine take_at (i := 8) (d := 11) (v := undef) rfl rfl (by kernel_rfl) (by kernel_rfl) (by kernel_rfl) (fun _ _ _ h => h) (Or.inr ⟨by rfl, rfl⟩) (by assumption) ?_
    simp only [Act.put, List.setIfInBounds_toArray, List.set_cons_zero, List.set_cons_succ]
    refine take_at (i := 6) (d := 9) (v := undef) rfl rfl (by kernel_rfl) (by kernel_rfl) (by kernel_rfl) (fun _ _ _ h => h) (Or.inr ⟨by rfl, rfl⟩) (by assumption) ?_
    simp only [Act.put, List.setIfInBounds_toArray, List.set_cons_zero, List.set_cons_succ]
    refine take_at (i := 9) (d := 12) (v := undef) rfl rfl (by kernel_rfl) (by kernel_rfl) (by kernel_rfl) (fun _ _ _ h => h) (Or.inr ⟨by rfl, rfl⟩) (by assumption) ?_
    simp only [Act.put, List.setIfInBounds_toArray, List.set_cons_zero, List.set_cons_succ]
    refine take_at (i := 10) (d := 13) (v := ?_) rfl rfl (by kernel_rfl) (by kernel_rfl) (by kernel_rfl) (fun _ _ _ h => h) (Or.inl ⟨by rfl, ?_⟩) (by assumption) ?_
    rotate_left
    · intro w hSw
      try dsimp only at hSw
      go_simp
      try with_reducible rfl
    simp only [Act.put, List.setIfInBounds_toArray, List.set_cons_zero, List.set_cons_succ]
    refine take_at (i := 11) (d := 2) (v := ?_) rfl rfl (by kernel_rfl) (by kernel_rfl) (by kernel_rfl) (fun _ _ _ h => h) (Or.inl ⟨by rfl, ?_⟩) (by assumption) ?_
    rotate_left
    · intro w hSw
      try dsimp only at hSw
      go_simp
      try with_reducible rfl
    simp only [Act.put, List.setIfInBounds_toArray, List.set_cons_zero, List.set_cons_succ]
    clear hHeld
    refine wpAnyH_done (by kernel_rfl) ?_ _
    refine NoPanic.normal ?_
    obtain ⟨wd1, hwd⟩ : ∃ y, w0.drew = y := ⟨_, rfl⟩
    rw [hwd] at bA ⊢
    clear hwd
    have bb := bA
    have Bwd1 := Bw0.trans (bb.mono Bw0.size)
    have swd1 := bb.size
    replace LP := LP.below bb LP.lt
    clear Bw0
    clear bb bA K
    go_wp2
    go_ret
    exact ⟨rfl, Bwd1⟩
  · have hd : decide (s = ⟨#[]⟩) = false := by simpa using he
    have hne := ne2 he
    rw [hd, Bool.false_or]
    clear he hd
    go_enter Tryz.func84, Tryz.ntmps84
    have K : Hid (∀ w', Below w0.heap.size w0 w' → (fun w' => Below w0.heap.size w0 w' ∧ (w'.cell? ⟨w.heap.size, 0, none⟩ = some (.int .i64 m) ∧ w'.cell? ⟨w.heap.size, 1, none⟩ = some (.string s) ∧ w'.cell? ⟨w.heap.size, 2, none⟩ = some (u))) w') := hide fun w' hb' => ⟨hb', ⟨(LP.below hb' LP.lt).cell 0 rfl, (LP.below hb' LP.lt).cell 1 rfl, (LP.below hb' LP.lt).cell 2 rfl⟩⟩
    go_upto_region 1 with fail
    clear hw0
    have bA : Below w0.heap.size w0 w0.drew := Below.drew (Below.refl _ _)
    refine wp_region_noPanic ?_
    refine wp_region_held_drew (S := fun w' => Below w0.heap.size w0 w' ∧ (w'.cell? ⟨w.heap.size, 0, none⟩ = some (.int .i64 m) ∧ w'.cell? ⟨w.heap.size, 1, none⟩ = some (.string s) ∧ w'.cell? ⟨w.heap.size, 2, none⟩ = some (u))) (by kernel_rfl) (unhide K _ bA) (fun hHeld => ?_)
    refine take_at (i := 0) (d := 3) (v := ?_) rfl rfl (by kernel_rfl) (by kernel_rfl) (by kernel_rfl) (fun _ _ _ h => h) (Or.inl ⟨by rfl, ?_⟩) (by assumption) ?_
    rotate_left
    · intro w hSw
      try dsimp only at hSw
      go_simp
      try with_reducible rfl
    simp only [Act.put, List.setIfInBounds_toArray, List.set_cons_zero, List.set_cons_succ]
    refine take_at (i := 1) (d := 4) (v := ?_) rfl rfl (by kernel_rfl) (by kernel_rfl) (by kernel_rfl) (fun _ _ _ h => h) (Or.inl ⟨by rfl, ?_⟩) (by assumption) ?_
    rotate_left
    · intro w hSw
      try dsimp only at hSw
      go_simp
      try with_reducible rfl
    simp only [Act.put, List.setIfInBounds_toArray, List.set_cons_zero, List.set_cons_succ]
    refine take_at (i := 2) (d := 5) (v := ?_) rfl rfl (by kernel_rfl) (by kernel_rfl) (by kernel_rfl) (fun _ _ _ h => h) (Or.inl ⟨by rfl, ?_⟩) (by assumption) ?_
    rotate_left
    · intro w hSw
      try dsimp only at hSw
      go_simp
      try with_reducible rfl
    simp only [Act.put, List.setIfInBounds_toArray, List.set_cons_zero, List.set_cons_succ]
    refine take_at (i := 3) (d := 6) (v := ?_) rfl rfl (by kernel_rfl) (by kernel_rfl) (by kernel_rfl) (fun _ _ _ h => h) (Or.inl ⟨by rfl, ?_⟩) (by assumption) ?_
    rotate_left
    · intro w hSw
      try dsimp only at hSw
      go_simp
      try with_reducible rfl
    simp only [Act.put, List.setIfInBounds_toArray, List.set_cons_zero, List.set_cons_succ]
    refine take_at (i := 4) (d := 7) (v := ?_) rfl rfl (by kernel_rfl) (by kernel_rfl) (by kernel_rfl) (fun _ _ _ h => h) (Or.inl ⟨by rfl, ?_⟩) (by assumption) ?_
    rotate_left
    · intro w hSw
      try dsimp only at hSw
      go_simp
      try with_reducible rfl
    simp only [Act.put, List.setIfInBounds_toArray, List.set_cons_zero, List.set_cons_succ]
    refine take_at (i := 7) (d := 10) (v := ?_) rfl rfl (by kernel_rfl) (by kernel_rfl) (by kernel_rfl) (fun _ _ _ h => h) (Or.inl ⟨by rfl, ?_⟩) (by assumption) ?_
    rotate_left
    · intro w hSw
      try dsimp only at hSw
      go_simp
      try with_reducible rfl
    simp only [Act.put, List.setIfInBounds_toArray, List.set_cons_zero, List.set_cons_succ]
    refine take_at (i := 5) (d := 8) (v := ?_) rfl rfl (by kernel_rfl) (by kernel_rfl) (by kernel_rfl) (fun _ _ _ h => h) (Or.inl ⟨by rfl, ?_⟩) (by assumption) ?_
    rotate_left
    · intro w hSw
      try dsimp only at hSw
      go_simp
      try with_reducible rfl
    simp only [Act.put, List.setIfInBounds_toArray, List.set_cons_zero, List.set_cons_succ]
    refine take_at (i := 8) (d := 11) (v := ?_) rfl rfl (by kernel_rfl) (by kernel_rfl) (by kernel_rfl) (fun _ _ _ h => h) (Or.inl ⟨by rfl, ?_⟩) (by assumption) ?_
    rotate_left
    · intro w hSw
      try dsimp only at hSw
      go_simp
      try with_reducible rfl
    simp only [Act.put, List.setIfInBounds_toArray, List.set_cons_zero, List.set_cons_succ]
    refine ready_at (i := 6) rfl (by kernel_rfl) (fun KK hKK => ?_)
    go_simp
    have hgo := bA
    refine (unhide VO _ ((unhide HE).below hgo)).mono ?_
    rintro e wz1_1 ⟨rfl, bb⟩
    have bz1 : Below w0.heap.size w0 wz1_1 := bA.trans (bb.mono bA.size)
    clear bA hgo bb
    clear hHeld
    refine hKK.out _ _ (unhide K _ bz1) (fun hHeld => ?_)
    clear hKK KK
    refine take_at (i := 9) (d := 12) (v := ?_) rfl rfl (by kernel_rfl) (by kernel_rfl) (by kernel_rfl) (fun _ _ _ h => h) (Or.inl ⟨by rfl, ?_⟩) (by assumption) ?_
    rotate_left
    · intro w hSw
      try dsimp only at hSw
      go_simp
      try with_reducible rfl
    simp only [Act.put, List.setIfInBounds_toArray, List.set_cons_zero, List.set_cons_succ]
    refine take_at (i := 10) (d := 13) (v := ?_) rfl rfl (by kernel_rfl) (by kernel_rfl) (by kernel_rfl) (fun _ _ _ h => h) (Or.inl ⟨by rfl, ?_⟩) (by assumption) ?_
    rotate_left
    · intro w hSw
      try dsimp only at hSw
      go_simp
      try with_reducible rfl
    simp only [Act.put, List.setIfInBounds_toArray, List.set_cons_zero, List.set_cons_succ]
    refine take_at (i := 11) (d := 2) (v := ?_) rfl rfl (by kernel_rfl) (by kernel_rfl) (by kernel_rfl) (fun _ _ _ h => h) (Or.inl ⟨by rfl, ?_⟩) (by assumption) ?_
    rotate_left
    · intro w hSw
      try dsimp only at hSw
      go_simp
      try with_reducible rfl
    simp only [Act.put, List.setIfInBounds_toArray, List.set_cons_zero, List.set_cons_succ]
    clear hHeld
    refine wpAnyH_done (by kernel_rfl) ?_ _
    refine NoPanic.normal ?_
    have bb := bz1
    have Bwz1_1 := Bw0.trans (bb.mono Bw0.size)
    have swz1_1 := bb.size
    replace LP := LP.below bb LP.lt
    clear Bw0
    clear bb bz1 K
    go_wp2
    go_ret
    exact ⟨rfl, Bwz1_1⟩

set_option maxHeartbeats 8000000 in
set_option maxRecDepth 100000 in
theorem implPartOk (n f m : Int) (s : ByteArray) (u : Value) (xs : List Int) (w : World) (hs : s.size ≤ 33554432) (hE : Env w) (hu : RI w u xs) :
    Calls Tryz.prog 31 #[cv n f, qv m s u] w fun e w' => e = .returned (.bool (pokB n f m s xs)) ∧ Below w.heap.size w w' := by
  obtain ⟨ua, uc, rfl⟩ := hu.form
  rw [pok_alt]
  obtain ⟨k, hk⟩ : ∃ k, xs.length = k := ⟨_, rfl⟩
  have CO := hide fun w => implConfOk n f w
  have IN := hide fun w => within_bool m 1 60 w
  have NI := hide fun w hE => namesIts_any m s (.slice ua xs.length uc) w hs hE
  have SO := hide fun w h => implSetOk n (.slice ua xs.length uc) xs w h
  obtain ⟨w0, hw0⟩ : ∃ y, (w.alloc (.cells #[.int .i64 n, .int .i64 f] 32)).alloc (.cells #[.int .i64 m, .string s, .slice ua xs.length uc] 26) = y := ⟨_, rfl⟩
  have Bw0 : Below w.heap.size w w0 := hw0 ▸ qalloc2 _ _ _
  have LC : Loc w0 w.heap.size #[.int .i64 n, .int .i64 f] := hw0 ▸ (loc_at w _ _ rfl).alloc _
  have LP : Loc w0 (w.heap.size + 1) #[.int .i64 m, .string s, .slice ua xs.length uc] := hw0 ▸ loc_at (w.alloc _) _ _ (by simp)
  have HEw := hide fun w' (hb : Below w.heap.size w w') => hE.below hb
  have RU := hide fun w' (hb : Below w.heap.size w w') => hu.below hb (Nat.le_refl _)
  rw [hk] at NI SO LP RU hw0 ⊢
  clear hu hE hk
  generalize decide (COk n f) = c at *
  generalize decide (1 ≤ m ∧ m ≤ 60) = r at *
  generalize (decide (s = ⟨#[]⟩) || (viewAns s == m)) = v at *
  generalize decide (OkL n xs) = o at *
  cases c
  · simp only [Bool.false_and]
    go_enter Tryz.func31, Tryz.ntmps31
    have cLC0 := LC.cell 0 rfl
    have cLC1 := LC.cell 1 rfl
    go_wp2_with fail
    clear hw0
    refine (unhide CO _).mono ?_
    rintro _ w1 ⟨rfl, bb⟩
    clear cLC0 cLC1
    have Bw1 := Bw0.trans (bb.mono Bw0.size)
    have sw1 := bb.size
    replace LC := LC.below bb LC.lt
    replace LP := LP.below bb LP.lt
    clear Bw0
    clear bb
    have cLC0 := LC.cell 0 rfl
    have cLC1 := LC.cell 1 rfl
    have cLP0 := LP.cell 0 rfl
    have cLP1 := LP.cell 1 rfl
    have cLP2 := LP.cell 2 rfl
    go_wp2
    go_ret
    exact ⟨rfl, Bw1⟩
  · simp only [Bool.true_and]
    cases r
    · simp only [Bool.false_and]
      go_enter Tryz.func31, Tryz.ntmps31
      have cLC0 := LC.cell 0 rfl
      have cLC1 := LC.cell 1 rfl
      go_wp2_with fail
      clear hw0
      refine (unhide CO _).mono ?_
      rintro _ w1 ⟨rfl, bb⟩
      clear cLC0 cLC1
      have Bw1 := Bw0.trans (bb.mono Bw0.size)
      have sw1 := bb.size
      replace LC := LC.below bb LC.lt
      replace LP := LP.below bb LP.lt
      clear Bw0
      clear bb
      have cLP0 := LP.cell 0 rfl
      have cLP1 := LP.cell 1 rfl
      have cLP2 := LP.cell 2 rfl
      go_wp2_with fail
      refine (unhide IN _).mono ?_
      rintro _ w2 ⟨rfl, bb⟩
      clear cLP0 cLP1 cLP2
      have Bw2 := Bw1.trans (bb.mono Bw1.size)
      have sw2 := bb.size
      replace LC := LC.below bb LC.lt
      replace LP := LP.below bb LP.lt
      clear Bw1
      clear bb
      have cLC0 := LC.cell 0 rfl
      have cLC1 := LC.cell 1 rfl
      have cLP0 := LP.cell 0 rfl
      have cLP1 := LP.cell 1 rfl
      have cLP2 := LP.cell 2 rfl
      go_wp2
      go_ret
      exact ⟨rfl, Bw2⟩
    · simp only [Bool.true_and]
      cases v
      · simp only [Bool.false_and]
        go_enter Tryz.func31, Tryz.ntmps31
        have cLC0 := LC.cell 0 rfl
        have cLC1 := LC.cell 1 rfl
        go_wp2_with fail
        clear hw0
        refine (unhide CO _).mono ?_
        rintro _ w1 ⟨rfl, bb⟩
        clear cLC0 cLC1
        have Bw1 := Bw0.trans (bb.mono Bw0.size)
        have sw1 := bb.size
        replace LC := LC.below bb LC.lt
        replace LP := LP.below bb LP.lt
        clear Bw0
        clear bb
        have cLP0 := LP.cell 0 rfl
        have cLP1 := LP.cell 1 rfl
        have cLP2 := LP.cell 2 rfl
        go_wp2_with fail
        refine (unhide IN _).mono ?_
        rintro _ w2 ⟨rfl, bb⟩
        clear cLP0 cLP1 cLP2
        have Bw2 := Bw1.trans (bb.mono Bw1.size)
        have sw2 := bb.size
        replace LC := LC.below bb LC.lt
        replace LP := LP.below bb LP.lt
        clear Bw1
        clear bb
        have cLP0 := LP.cell 0 rfl
        have cLP1 := LP.cell 1 rfl
        have cLP2 := LP.cell 2 rfl
        go_wp2_with fail
        refine (unhide NI _ (unhide HEw _ Bw2)).mono ?_
        rintro _ w3 ⟨rfl, bb⟩
        clear cLP0 cLP1 cLP2
        have Bw3 := Bw2.trans (bb.mono Bw2.size)
        have sw3 := bb.size
        replace LC := LC.below bb LC.lt
        replace LP := LP.below bb LP.lt
        clear Bw2
        clear bb
        have cLC0 := LC.cell 0 rfl
        have cLC1 := LC.cell 1 rfl
        have cLP0 := LP.cell 0 rfl
        have cLP1 := LP.cell 1 rfl
        have cLP2 := LP.cell 2 rfl
        go_wp2
        go_ret
        exact ⟨rfl, Bw3⟩
      · simp only [Bool.true_and]
        by_cases hk : k = 0
        · subst hk
          have hd0 : decide ((0 : Int) < ((0 : Nat) : Int)) = false := rfl
          rw [hd0]
          simp only [Bool.false_and]
          go_enter Tryz.func31, Tryz.ntmps31
          have cLC0 := LC.cell 0 rfl
          have cLC1 := LC.cell 1 rfl
          go_wp2_with fail
          clear hw0
          refine (unhide CO _).mono ?_
          rintro _ w1 ⟨rfl, bb⟩
          clear cLC0 cLC1
          have Bw1 := Bw0.trans (bb.mono Bw0.size)
          have sw1 := bb.size
          replace LC := LC.below bb LC.lt
          replace LP := LP.below bb LP.lt
          clear Bw0
          clear bb
          have cLP0 := LP.cell 0 rfl
          have cLP1 := LP.cell 1 rfl
          have cLP2 := LP.cell 2 rfl
          go_wp2_with fail
          refine (unhide IN _).mono ?_
          rintro _ w2 ⟨rfl, bb⟩
          clear cLP0 cLP1 cLP2
          have Bw2 := Bw1.trans (bb.mono Bw1.size)
          have sw2 := bb.size
          replace LC := LC.below bb LC.lt
          replace LP := LP.below bb LP.lt
          clear Bw1
          clear bb
          have cLP0 := LP.cell 0 rfl
          have cLP1 := LP.cell 1 rfl
          have cLP2 := LP.cell 2 rfl
          go_wp2_with fail
          refine (unhide NI _ (unhide HEw _ Bw2)).mono ?_
          rintro _ w3 ⟨rfl, bb⟩
          clear cLP0 cLP1 cLP2
          have Bw3 := Bw2.trans (bb.mono Bw2.size)
          have sw3 := bb.size
          replace LC := LC.below bb LC.lt
          replace LP := LP.below bb LP.lt
          clear Bw2
          clear bb
          have cLC0 := LC.cell 0 rfl
          have cLC1 := LC.cell 1 rfl
          have cLP0 := LP.cell 0 rfl
          have cLP1 := LP.cell 1 rfl
          have cLP2 := LP.cell 2 rfl
          go_wp2
          go_ret
          exact ⟨rfl, Bw3⟩
        · have hd0 : decide ((0 : Int) < (k : Int)) = true := by simp; omega
          rw [hd0]
          simp only [Bool.true_and]
          cases o
          · go_enter Tryz.func31, Tryz.ntmps31
            have cLC0 := LC.cell 0 rfl
            have cLC1 := LC.cell 1 rfl
            go_wp2_with fail
            clear hw0
            refine (unhide CO _).mono ?_
            rintro _ w1 ⟨rfl, bb⟩
            clear cLC0 cLC1
            have Bw1 := Bw0.trans (bb.mono Bw0.size)
            have sw1 := bb.size
            replace LC := LC.below bb LC.lt
            replace LP := LP.below bb LP.lt
            clear Bw0
            clear bb
            have cLP0 := LP.cell 0 rfl
            have cLP1 := LP.cell 1 rfl
            have cLP2 := LP.cell 2 rfl
            go_wp2_with fail
            refine (unhide IN _).mono ?_
            rintro _ w2 ⟨rfl, bb⟩
            clear cLP0 cLP1 cLP2
            have Bw2 := Bw1.trans (bb.mono Bw1.size)
            have sw2 := bb.size
            replace LC := LC.below bb LC.lt
            replace LP := LP.below bb LP.lt
            clear Bw1
            clear bb
            have cLP0 := LP.cell 0 rfl
            have cLP1 := LP.cell 1 rfl
            have cLP2 := LP.cell 2 rfl
            go_wp2_with fail
            refine (unhide NI _ (unhide HEw _ Bw2)).mono ?_
            rintro _ w3 ⟨rfl, bb⟩
            clear cLP0 cLP1 cLP2
            have Bw3 := Bw2.trans (bb.mono Bw2.size)
            have sw3 := bb.size
            replace LC := LC.below bb LC.lt
            replace LP := LP.below bb LP.lt
            clear Bw2
            clear bb
            have cLC0 := LC.cell 0 rfl
            have cLC1 := LC.cell 1 rfl
            have cLP0 := LP.cell 0 rfl
            have cLP1 := LP.cell 1 rfl
            have cLP2 := LP.cell 2 rfl
            go_wp2_with fail
            refine (unhide SO _ (unhide RU _ Bw3)).mono ?_
            rintro _ w4 ⟨rfl, bb⟩
            clear cLC0 cLC1 cLP0 cLP1 cLP2
            have Bw4 := Bw3.trans (bb.mono Bw3.size)
            have sw4 := bb.size
            replace LC := LC.below bb LC.lt
            replace LP := LP.below bb LP.lt
            clear Bw3
            clear bb
            have cLC0 := LC.cell 0 rfl
            have cLC1 := LC.cell 1 rfl
            have cLP0 := LP.cell 0 rfl
            have cLP1 := LP.cell 1 rfl
            have cLP2 := LP.cell 2 rfl
            go_wp2
            go_ret
            exact ⟨rfl, Bw4⟩
          · go_enter Tryz.func31, Tryz.ntmps31
            have cLC0 := LC.cell 0 rfl
            have cLC1 := LC.cell 1 rfl
            go_wp2_with fail
            clear hw0
            refine (unhide CO _).mono ?_
            rintro _ w1 ⟨rfl, bb⟩
            clear cLC0 cLC1
            have Bw1 := Bw0.trans (bb.mono Bw0.size)
            have sw1 := bb.size
            replace LC := LC.below bb LC.lt
            replace LP := LP.below bb LP.lt
            clear Bw0
            clear bb
            have cLP0 := LP.cell 0 rfl
            have cLP1 := LP.cell 1 rfl
            have cLP2 := LP.cell 2 rfl
            go_wp2_with fail
            refine (unhide IN _).mono ?_
            rintro _ w2 ⟨rfl, bb⟩
            clear cLP0 cLP1 cLP2
            have Bw2 := Bw1.trans (bb.mono Bw1.size)
            have sw2 := bb.size
            replace LC := LC.below bb LC.lt
            replace LP := LP.below bb LP.lt
            clear Bw1
            clear bb
            have cLP0 := LP.cell 0 rfl
            have cLP1 := LP.cell 1 rfl
            have cLP2 := LP.cell 2 rfl
            go_wp2_with fail
            refine (unhide NI _ (unhide HEw _ Bw2)).mono ?_
            rintro _ w3 ⟨rfl, bb⟩
            clear cLP0 cLP1 cLP2
            have Bw3 := Bw2.trans (bb.mono Bw2.size)
            have sw3 := bb.size
            replace LC := LC.below bb LC.lt
            replace LP := LP.below bb LP.lt
            clear Bw2
            clear bb
            have cLC0 := LC.cell 0 rfl
            have cLC1 := LC.cell 1 rfl
            have cLP0 := LP.cell 0 rfl
            have cLP1 := LP.cell 1 rfl
            have cLP2 := LP.cell 2 rfl
            go_wp2_with fail
            refine (unhide SO _ (unhide RU _ Bw3)).mono ?_
            rintro _ w4 ⟨rfl, bb⟩
            clear cLC0 cLC1 cLP0 cLP1 cLP2
            have Bw4 := Bw3.trans (bb.mono Bw3.size)
            have sw4 := bb.size
            replace LC := LC.below bb LC.lt
            replace LP := LP.below bb LP.lt
            clear Bw3
            clear bb
            have cLC0 := LC.cell 0 rfl
            have cLC1 := LC.cell 1 rfl
            have cLP0 := LP.cell 0 rfl
            have cLP1 := LP.cell 1 rfl
            have cLP2 := LP.cell 2 rfl
            go_wp2
            go_ret
            exact ⟨rfl, Bw4⟩
end Go.Proofs.YtehdchpolgihlaaGreatDoor
