/- PoolOk of the program and of the specification. -/
import Derived.Test.YthdehhenkgkkmaaPoolCmp
import Derived.Laws.EntriesVeiled
namespace Go.Proofs.Ythdehhenkgkkmaa
open Go.RowKit
set_option linter.unusedSectionVars false
variable [∀ (a b c d : Int), Decidable (Ok4 a b c d)]
variable [∀ (m a b c d : Int), Decidable (In4 m a b c d)]
variable [∀ (xs ys : List Int), Decidable (LOk xs ys)]
variable [∀ (x y : T4), Decidable (Bef x y)]

abbrev z4 : T4 := (0, 0, 0, 0)
/-- Neighbours stand in order; each is right. -/
def Asc (ts : List T4) : Prop := ∀ k, k < ts.length - 1 → Bef (ts.getD k z4) (ts.getD (k + 1) z4)
def AllOk (ts : List T4) : Prop := ∀ k, k < ts.length → Ok4 (ts.getD k z4).1 (ts.getD k z4).2.1 (ts.getD k z4).2.2.1 (ts.getD k z4).2.2.2
variable [∀ (ts : List T4), Decidable (Asc ts)]
variable [∀ (ts : List T4), Decidable (AllOk ts)]
/-- What PoolOk answers. -/
def POk (ts : List T4) : Prop := ts.length ≤ 12 ∧ AllOk ts ∧ Asc ts
variable [∀ (ts : List T4), Decidable (POk ts)]
/-- The cells of the k-th payment. -/
theorem RT.at {w : World} {ao : Option Addr} {n ca : Nat} {xs : List T4} (h : RT w (.slice ao n ca) xs) (k : Nat) (hk : k < xs.length) : ∃ g, ao = some ⟨g, 0, none⟩ ∧ Cells4K w g k (xs.getD k z4) := by
  obtain ⟨_, ao', ca', e, h⟩ := h
  cases e
  rcases h with rfl | ⟨g, rfl, h⟩
  · simp at hk
  · exact ⟨g, rfl, h k hk⟩
theorem RT.form {w : World} {v : Value} {xs : List T4} (h : RT w v xs) : ∃ ao ca, v = .slice ao xs.length ca := by obtain ⟨_, ao, ca, e, _⟩ := h; exact ⟨ao, ca, e⟩
theorem Cells4K.below {w w' : World} {B g k : Nat} {t : T4} (h : Cells4K w g k t) (hb : Below B w w') (hg : w.heap.size ≤ B) : Cells4K w' g k t := by
  have hl : g < B := Nat.lt_of_lt_of_le (cell_lt h.1) hg
  exact ⟨(hb.cell (p := ⟨g, k * 4, none⟩) hl).trans h.1, (hb.cell (p := ⟨g, k * 4 + 1, none⟩) hl).trans h.2.1, (hb.cell (p := ⟨g, k * 4 + 2, none⟩) hl).trans h.2.2.1, (hb.cell (p := ⟨g, k * 4 + 3, none⟩) hl).trans h.2.2.2⟩

set_option maxHeartbeats 400000 in
set_option maxRecDepth 100000 in
theorem notTx_any (a b c d : Int) (w : World) :
    Calls Try.prog 28 #[txv a b c d] w fun e w' => e = .returned (.bool (!decide (Ok4 a b c d))) ∧ Below w.heap.size w w' := by
  have TO := hide fun w => implTxOk a b c d w
  go_enter Try.func28, Try.ntmps28
  go_wp2_with (first | (go_at_call 45; refine (unhide TO _).mono ?_; rintro e w' ⟨rfl, bb⟩))
  go_ret
  exact ⟨rfl, ((Below.refl _ _).alloc (Nat.le_refl _) _).trans (bb.mono (by simp))⟩

set_option maxHeartbeats 1600000 in
set_option maxRecDepth 100000 in
theorem index_any (v : Value) (ts : List T4) (w : World) (h : RT w v ts) :
    Calls Try.prog 44 #[v, .func (.func 28) #[] #[]] w fun e w' => ∃ i : Int, e = .returned (.int .i64 i) ∧ (0 ≤ i ↔ ¬ AllOk ts) ∧ Below w.heap.size w w' := by
  obtain ⟨ao, ca, rfl⟩ := h.form
  have hl := h.1
  have H := hide h
  obtain ⟨n, hn⟩ : ∃ n, ts.length = n := ⟨_, rfl⟩
  have Hn := hide hn
  rw [hn] at hl H ⊢
  clear h hn
  go_enter Try.func44, Try.ntmps44
  go_wp2
  go_loopw [8] (fun i wr => ∃ k : Nat, k ≤ n ∧ i = .int .i64 k ∧ Hid (∀ j, j < k → Ok4 (ts.getD j z4).1 (ts.getD j z4).2.1 (ts.getD j z4).2.2.1 (ts.getD j z4).2.2.2) ∧ Below w.heap.size w wr) (fun i _ => n - (intOf i).toNat)
  case atStart => exact ⟨0, Nat.zero_le _, rfl, hide (fun j hj => absurd hj (Nat.not_lt_zero j)), Below.refl _ _⟩
  case round =>
    obtain ⟨k, hk, rfl, HA, br⟩ := hrel
    by_cases hlt : k < n
    · obtain ⟨g, rfl, hc⟩ := (unhide H).at k (by rw [unhide Hn]; exact hlt)
      obtain ⟨c0, c1, c2, c3⟩ := hc.below br (Nat.le_refl _)
      have NT := hide fun w => notTx_any (ts.getD k z4).1 (ts.getD k z4).2.1 (ts.getD k z4).2.2.1 (ts.getD k z4).2.2.2 w
      have HS := hide fun (h : Ok4 (ts.getD k z4).1 (ts.getD k z4).2.1 (ts.getD k z4).2.2.1 (ts.getD k z4).2.2.2) => (show ∀ j, j < k + 1 → Ok4 (ts.getD j z4).1 (ts.getD j z4).2.1 (ts.getD j z4).2.2.1 (ts.getD j z4).2.2.2 from fun j hj => by
        by_cases e : j = k
        · rw [e]; exact h
        · exact unhide HA j (by omega))
      have HN : Hid (¬ Ok4 (ts.getD k z4).1 (ts.getD k z4).2.1 (ts.getD k z4).2.2.1 (ts.getD k z4).2.2.2 → ¬ AllOk ts) := hide fun h ha => h (ha k (by rw [unhide Hn]; exact hlt))
      clear HA hc
      generalize ts.getD k z4 = x at *
      obtain ⟨xa, xb, xc, xd⟩ := x
      dsimp only at c0 c1 c2 c3 NT HS HN
      by_cases ho : Ok4 xa xb xc xd
      · rw [decide_eq_true ho] at NT
        have HS := hide (unhide HS ho)
        clear HN ho
        go_wp2_with (first | (go_at_call 28; refine (unhide NT _).mono ?_; rintro e w2 ⟨rfl, b2⟩))
        go_roundw
        case rel => exact ⟨k + 1, by omega, by go_num, HS, br.trans (b2.mono br.size)⟩
        case measure => simp [intOf]; omega
      · rw [decide_eq_false ho] at NT
        have HN := hide (unhide HN ho)
        clear HS ho
        go_wp2_with (first | (go_at_call 28; refine (unhide NT _).mono ?_; rintro e w2 ⟨rfl, b2⟩))
        go_ret
        exact ⟨k, rfl, by simp [unhide HN], br.trans (b2.mono br.size)⟩
    · have hkn : k = n := by omega
      have HN : Hid (AllOk ts) := hide fun j hj => unhide HA j (by have := unhide Hn; omega)
      clear HA
      subst hkn
      go_wp2
      go_ret
      exact ⟨-1, rfl, by simp [unhide HN], br⟩

set_option maxHeartbeats 400000 in
set_option maxRecDepth 100000 in
theorem contains_any (v : Value) (ts : List T4) (w : World) (h : RT w v ts) :
    Calls Try.prog 27 #[v, .func (.func 28) #[] #[]] w fun e w' => e = .returned (.bool (!decide (AllOk ts))) ∧ Below w.heap.size w w' := by
  have IX := hide fun w h => index_any v ts w h
  have H := hide h
  obtain ⟨ao, ca, rfl⟩ := h.form
  clear h
  go_enter Try.func27, Try.ntmps27
  go_wp2_with fail
  refine (unhide IX _ (unhide H)).mono ?_
  rintro e w2 ⟨i, rfl, hi, b2⟩
  go_wp2
  go_ret
  refine ⟨?_, b2⟩
  by_cases hA : AllOk ts
  · rw [decide_eq_true hA]
    have : ¬ 0 ≤ i := fun h => hi.1 h hA
    simp
  · rw [decide_eq_false hA]
    have : 0 ≤ i := hi.2 hA
    simp

set_option maxHeartbeats 400000 in
set_option maxRecDepth 100000 in
theorem waiting_any (ao : Option Addr) (n ca : Nat) (w : World) :
    Calls Try.prog 29 #[.slice ao n ca] w fun e w' => e = .returned (.agg #[.slice ao n ca, .func (.func 46) #[] #[]]) ∧ Below w.heap.size w w' := by
  go_enter Try.func29, Try.ntmps29
  go_wp2
  refine bodyPost_ret (v := .agg #[.slice ao n ca, .func (.func 46) #[] #[]]) (by simp [results, Try.results29, go_sem]) rfl ?_
  exact ⟨rfl, (Below.refl _ _).alloc (Nat.le_refl _) _⟩

set_option maxHeartbeats 1000000 in
set_option maxRecDepth 100000 in
theorem ascends_any (v : Value) (ts : List T4) (w : World) (h : RT w v ts) :
    Calls Try.prog 30 #[.agg #[v, .func (.func 46) #[] #[]]] w fun e w' => e = .returned (.bool (decide (Asc ts))) ∧ Below w.heap.size w w' := by
  obtain ⟨ao, ca, rfl⟩ := h.form
  have hl := h.1
  have H := hide h
  obtain ⟨n, hn⟩ : ∃ n, ts.length = n := ⟨_, rfl⟩
  have Hn := hide hn
  rw [hn] at hl H ⊢
  clear h hn
  obtain ⟨w0, hw0⟩ : ∃ w0, w.alloc (.cells #[.slice ao n ca, .func (.func 46) #[] #[]] 52) = w0 := ⟨_, rfl⟩
  have B0 : Below w.heap.size w w0 := hw0 ▸ (Below.refl _ _).alloc (Nat.le_refl _) _
  have L0 : Loc w0 w.heap.size #[.slice ao n ca, .func (.func 46) #[] #[]] := hw0 ▸ loc_at w _ _ rfl
  go_enter Try.func30, Try.ntmps30
  go_wp2
  clear hw0
  go_loopw [3] (fun i wr => ∃ m : Nat, 1 ≤ m ∧ m ≤ n + 1 ∧ i = .int .i64 m ∧ Hid (∀ j, j + 1 < m → j < n - 1 → Bef (ts.getD j z4) (ts.getD (j + 1) z4)) ∧ Loc wr w.heap.size #[.slice ao n ca, .func (.func 46) #[] #[]] ∧ Below w.heap.size w wr) (fun i _ => n + 1 - (intOf i).toNat)
  case atStart => exact ⟨1, Nat.le_refl _, by omega, by go_num, hide (fun j hj => absurd hj (by omega)), L0, B0⟩
  case round =>
    clear L0 B0
    obtain ⟨m, hm1, hm, rfl, HA, L, br⟩ := hrel
    have q0 := L.cell 0 rfl
    have q1 := L.cell 1 rfl
    by_cases hlt : m < n
    · obtain ⟨k, hk⟩ : ∃ k, m = k + 1 := ⟨m - 1, by omega⟩
      have hk1 : (m : Int) - 1 = (k : Int) := by omega
      have hwk : IntKind.i64.wrap (k : Int) = (k : Int) := by rw [IntKind.wrap_i64]; omega
      have hkn : k < n := by omega
      obtain ⟨g, rfl, hx⟩ := (unhide H).at k (by rw [unhide Hn]; omega)
      obtain ⟨g', e, hy⟩ := (unhide H).at m (by rw [unhide Hn]; omega)
      cases e
      have CX := hide (hx.below br (Nat.le_refl _))
      have CY := hide (hy.below br (Nat.le_refl _))
      have CT := hide fun w => compareTx_any (ts.getD k z4) (ts.getD m z4) w
      have HS := hide fun (h : Bef (ts.getD k z4) (ts.getD m z4)) => (show ∀ j, j + 1 < m + 1 → j < n - 1 → Bef (ts.getD j z4) (ts.getD (j + 1) z4) from fun j hj hj2 => by
        by_cases e : j = k
        · rw [e, ← hk]; exact h
        · exact unhide HA j (by omega) hj2)
      have HN : Hid (¬ Bef (ts.getD k z4) (ts.getD m z4) → ¬ Asc ts) := hide fun h ha => h (by have := ha k (by rw [unhide Hn]; omega); rwa [← hk] at this)
      have hcm := hide (cmpT_lt (ts.getD k z4) (ts.getD m z4))
      clear HA hx hy
      generalize cmpT (ts.getD k z4) (ts.getD m z4) = q at *
      generalize Bef (ts.getD k z4) (ts.getD m z4) = BF at *
      generalize ts.getD k z4 = x at *
      generalize ts.getD m z4 = y at *
      obtain ⟨xa, xb, xc, xd⟩ := x
      obtain ⟨ya, yb, yc, yd⟩ := y
      dsimp only at CT
      have K : Hid (∀ w', Below wr.heap.size wr w' → (w'.cell? ⟨w.heap.size, 0, none⟩ = some (.slice (some ⟨g, 0, none⟩) n ca) ∧ w'.cell? ⟨w.heap.size, 1, none⟩ = some (.func (.func 46) #[] #[])) ∧ (w'.cell? ⟨g, k * 4, none⟩ = some (.int .i64 xa) ∧ w'.cell? ⟨g, k * 4 + 1, none⟩ = some (.int .i64 xb) ∧ w'.cell? ⟨g, k * 4 + 2, none⟩ = some (.int .i64 xc) ∧ w'.cell? ⟨g, k * 4 + 3, none⟩ = some (.int .i64 xd)) ∧ (w'.cell? ⟨g, m * 4, none⟩ = some (.int .i64 ya) ∧ w'.cell? ⟨g, m * 4 + 1, none⟩ = some (.int .i64 yb) ∧ w'.cell? ⟨g, m * 4 + 2, none⟩ = some (.int .i64 yc) ∧ w'.cell? ⟨g, m * 4 + 3, none⟩ = some (.int .i64 yd))) := hide fun w' hb => by
        have l := L.below hb L.lt
        have x := (unhide CX).below hb (Nat.le_refl _)
        have y := (unhide CY).below hb (Nat.le_refl _)
        exact ⟨⟨l.cell 0 rfl, l.cell 1 rfl⟩, x, y⟩
      have bA : Below wr.heap.size wr wr.drew := Below.drew (Below.refl _ _)
      have hKeep := unhide K _ bA
      replace hk := hide hk
      clear CX CY
      go_wp2_with fail
      refine wp_region_noPanic ?_
      refine wp_region_held_drew (S := (fun w' => (w'.cell? ⟨w.heap.size, 0, none⟩ = some (.slice (some ⟨g, 0, none⟩) n ca) ∧ w'.cell? ⟨w.heap.size, 1, none⟩ = some (.func (.func 46) #[] #[])) ∧ (w'.cell? ⟨g, k * 4, none⟩ = some (.int .i64 xa) ∧ w'.cell? ⟨g, k * 4 + 1, none⟩ = some (.int .i64 xb) ∧ w'.cell? ⟨g, k * 4 + 2, none⟩ = some (.int .i64 xc) ∧ w'.cell? ⟨g, k * 4 + 3, none⟩ = some (.int .i64 xd)) ∧ (w'.cell? ⟨g, m * 4, none⟩ = some (.int .i64 ya) ∧ w'.cell? ⟨g, m * 4 + 1, none⟩ = some (.int .i64 yb) ∧ w'.cell? ⟨g, m * 4 + 2, none⟩ = some (.int .i64 yc) ∧ w'.cell? ⟨g, m * 4 + 3, none⟩ = some (.int .i64 yd)))) (by kernel_rfl) hKeep (fun hHeld => ?_)
      refine take_at (i := 0) (d := 11) (v := ?_) rfl rfl (by kernel_rfl) (by kernel_rfl) (by kernel_rfl) (fun _ _ _ h => h) (Or.inl ⟨by rfl, ?_⟩) (by assumption) ?_
      rotate_left
      · intro w hSw
        try dsimp only at hSw
        go_simp
        try with_reducible rfl
      simp only [Act.put, List.setIfInBounds_toArray, List.set_cons_zero, List.set_cons_succ]
      refine take_at (i := 1) (d := 12) (v := ?_) rfl rfl (by kernel_rfl) (by kernel_rfl) (by kernel_rfl) (fun _ _ _ h => h) (Or.inl ⟨by rfl, ?_⟩) (by assumption) ?_
      rotate_left
      · intro w hSw
        try dsimp only at hSw
        go_simp
        try with_reducible rfl
      simp only [Act.put, List.setIfInBounds_toArray, List.set_cons_zero, List.set_cons_succ]
      refine take_at (i := 2) (d := 13) (v := ?_) rfl rfl (by kernel_rfl) (by kernel_rfl) (by kernel_rfl) (fun _ _ _ h => h) (Or.inl ⟨by rfl, ?_⟩) (by assumption) ?_
      rotate_left
      · intro w hSw
        try dsimp only at hSw
        go_simp
        try with_reducible rfl
      simp only [Act.put, List.setIfInBounds_toArray, List.set_cons_zero, List.set_cons_succ]
      refine take_at (i := 3) (d := 14) (v := ?_) rfl rfl (by kernel_rfl) (by kernel_rfl) (by kernel_rfl) (fun _ _ _ h => h) (Or.inl ⟨by rfl, ?_⟩) (by assumption) ?_
      rotate_left
      · intro w hSw
        try dsimp only at hSw
        go_simp
        try with_reducible rfl
      simp only [Act.put, List.setIfInBounds_toArray, List.set_cons_zero, List.set_cons_succ]
      refine take_at (i := 4) (d := 15) (v := ?_) rfl rfl (by kernel_rfl) (by kernel_rfl) (by kernel_rfl) (fun _ _ _ h => h) (Or.inl ⟨by rfl, ?_⟩) (by assumption) ?_
      rotate_left
      · intro w hSw
        try dsimp only at hSw
        go_simp
        try with_reducible rfl
      simp only [Act.put, List.setIfInBounds_toArray, List.set_cons_zero, List.set_cons_succ]
      refine take_at (i := 5) (d := 16) (v := ?_) rfl rfl (by kernel_rfl) (by kernel_rfl) (by kernel_rfl) (fun _ _ _ h => h) (Or.inl ⟨by rfl, ?_⟩) (by assumption) ?_
      rotate_left
      · intro w hSw
        try dsimp only at hSw
        go_simp
        try with_reducible rfl
      simp only [Act.put, List.setIfInBounds_toArray, List.set_cons_zero, List.set_cons_succ]
      refine take_at (i := 6) (d := 17) (v := ?_) rfl rfl (by kernel_rfl) (by kernel_rfl) (by kernel_rfl) (fun _ _ _ h => h) (Or.inl ⟨by rfl, ?_⟩) (by assumption) ?_
      rotate_left
      · intro w hSw
        try dsimp only at hSw
        go_simp
        try with_reducible rfl
      simp only [Act.put, List.setIfInBounds_toArray, List.set_cons_zero, List.set_cons_succ]
      refine take_at (i := 7) (d := 18) (v := ?_) rfl rfl (by kernel_rfl) (by kernel_rfl) (by kernel_rfl) (fun _ _ _ h => h) (Or.inl ⟨by rfl, ?_⟩) (by assumption) ?_
      rotate_left
      · intro w hSw
        try dsimp only at hSw
        go_simp
        try with_reducible rfl
      simp only [Act.put, List.setIfInBounds_toArray, List.set_cons_zero, List.set_cons_succ]
      refine take_at (i := 8) (d := 19) (v := ?_) rfl rfl (by kernel_rfl) (by kernel_rfl) (by kernel_rfl) (fun _ _ _ h => h) (Or.inl ⟨by rfl, ?_⟩) (by assumption) ?_
      rotate_left
      · intro w hSw
        try dsimp only at hSw
        go_simp
        try with_reducible rfl
      simp only [Act.put, List.setIfInBounds_toArray, List.set_cons_zero, List.set_cons_succ]
      refine take_at (i := 9) (d := 20) (v := ?_) rfl rfl (by kernel_rfl) (by kernel_rfl) (by kernel_rfl) (fun _ _ _ h => h) (Or.inl ⟨by rfl, ?_⟩) (by assumption) ?_
      rotate_left
      · intro w hSw
        try dsimp only at hSw
        go_simp
        try with_reducible rfl
      simp only [Act.put, List.setIfInBounds_toArray, List.set_cons_zero, List.set_cons_succ]
      refine take_at (i := 10) (d := 21) (v := ?_) rfl rfl (by kernel_rfl) (by kernel_rfl) (by kernel_rfl) (fun _ _ _ h => h) (Or.inl ⟨by rfl, ?_⟩) (by assumption) ?_
      rotate_left
      · intro w hSw
        try dsimp only at hSw
        go_simp
        try with_reducible rfl
      simp only [Act.put, List.setIfInBounds_toArray, List.set_cons_zero, List.set_cons_succ]
      refine take_at (i := 11) (d := 22) (v := ?_) rfl rfl (by kernel_rfl) (by kernel_rfl) (by kernel_rfl) (fun _ _ _ h => h) (Or.inl ⟨by rfl, ?_⟩) (by assumption) ?_
      rotate_left
      · intro w hSw
        try dsimp only at hSw
        go_simp
        try with_reducible rfl
      simp only [Act.put, List.setIfInBounds_toArray, List.set_cons_zero, List.set_cons_succ]
      refine take_at (i := 12) (d := 23) (v := ?_) rfl rfl (by kernel_rfl) (by kernel_rfl) (by kernel_rfl) (fun _ _ _ h => h) (Or.inl ⟨by rfl, ?_⟩) (by assumption) ?_
      rotate_left
      · intro w hSw
        try dsimp only at hSw
        go_simp
        try with_reducible rfl
      simp only [Act.put, List.setIfInBounds_toArray, List.set_cons_zero, List.set_cons_succ]
      refine ready_at (i := 13) rfl (by kernel_rfl) (fun KK hKK => ?_)
      go_simp
      refine (unhide CT _).mono ?_
      rintro _ wa ⟨rfl, ba⟩
      have bB : Below wr.heap.size wr wa := bA.trans ba
      clear hHeld
      refine hKK.out _ _ (unhide K _ bB) (fun hHeld => ?_)
      clear hKK KK
      refine take_at (i := 14) (d := 25) (v := ?_) rfl rfl (by kernel_rfl) (by kernel_rfl) (by kernel_rfl) (fun _ _ _ h => h) (Or.inl ⟨by rfl, ?_⟩) (by assumption) ?_
      rotate_left
      · intro w hSw
        try dsimp only at hSw
        go_simp
        try with_reducible rfl
      simp only [Act.put, List.setIfInBounds_toArray, List.set_cons_zero, List.set_cons_succ]
      clear hHeld
      refine wpAnyH_done (by kernel_rfl) ?_ _
      refine NoPanic.normal ?_
      have LB := L.below bB L.lt
      have BB := br.trans (bB.mono br.size)
      by_cases hq : q < 0
      · have HS := hide (unhide HS ((unhide hcm).1 hq))
        have hq0 : ¬ 0 ≤ q := by omega
        clear hcm HN
        go_wp2
        go_roundw
        case rel => exact ⟨m + 1, by omega, by omega, by go_num, HS, LB, BB⟩
        case measure => simp [intOf]; omega
      · have hno : decide (Asc ts) = false := decide_eq_false (unhide HN (fun h => hq ((unhide hcm).2 h)))
        have hq0 : 0 ≤ q := by omega
        clear hcm HS HN
        go_wp2
        go_ret
        exact ⟨by first | rfl | (rw [hno]; rfl), BB⟩
    · have hyes : decide (Asc ts) = true := decide_eq_true fun j hj => unhide HA j (by have := unhide Hn; omega) (by have := unhide Hn; omega)
      clear HA
      go_wp2
      go_ret
      exact ⟨by first | rfl | (rw [hyes]; rfl), br⟩
end Go.Proofs.Ythdehhenkgkkmaa
