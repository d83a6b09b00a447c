/- spec.PoolAdd. -/
import Derived.Test.YthdehhenkgkkmaaWith
namespace Go.Proofs.Ythdehhenkgkkmaa
open Go.RowKit
set_option linter.unusedSectionVars false
variable [∀ (a b c d : Int), Decidable (Ok4 a b c d)]
variable [∀ (m a b c d : Int), Decidable (In4 m a b c d)]
variable [∀ (xs ys : List Int), Decidable (LOk xs ys)]
variable [∀ (x y : T4), Decidable (Bef x y)]
variable [∀ (ts : List T4), Decidable (Asc ts)]
variable [∀ (ts : List T4), Decidable (AllOk ts)]
variable [∀ (ts : List T4), Decidable (POk ts)]

theorem ot_alloc {w : World} {B : Nat} {v : Value} {xs : List T4} (h : OT w B v xs) (o : Obj) : OT (w.alloc o) B v xs := World.ownsRow.alloc h o

set_option maxHeartbeats 4000000 in
set_option maxRecDepth 100000 in
theorem specPoolAdd (v : Value) (ts : List T4) (x : T4) (w : World) (h : RT w v ts) (hc : Capped v) (hl : ts.length ≤ 4000000) :
    Calls Try.prog 12 #[v, txv x.1 x.2.1 x.2.2.1 x.2.2.2] w fun e w' => ∃ u, e = .returned (.tuple #[u, .bool (addAns ts x).2]) ∧ OT w' w.heap.size u (addAns ts x).1 ∧ Below w.heap.size w w' := by
  obtain ⟨ao, ca, rfl⟩ := h.form
  obtain ⟨hcn, hcm⟩ : ts.length ≤ ca ∧ ca ≤ maxLen := by obtain ⟨_, _, _, e, h1, h2⟩ := hc; cases e; exact ⟨h1, h2⟩
  unfold maxLen at hcm
  have H := hide h
  obtain ⟨n, hn⟩ : ∃ n, ts.length = n := ⟨_, rfl⟩
  have Hn := hide hn
  rw [hn] at hl H hcn ⊢
  clear h hn hc
  have BX := hide fun y w => before_any y x w
  have PI := hide fun k h0 h1 h2 => pos_is ts x k h0 h1 h2
  have AN : Hid (addAns ts x = if POk (ins ts x (pos ts x)) then (ins ts x (pos ts x), true) else (ts, false)) := hide rfl
  obtain ⟨xx, hxx⟩ : ∃ xx, x = xx := ⟨_, rfl⟩
  obtain ⟨xa, xb, xc, xd⟩ := xx
  have e1 : x.1 = xa := by rw [hxx]
  have e2 : x.2.1 = xb := by rw [hxx]
  have e3 : x.2.2.1 = xc := by rw [hxx]
  have e4 : x.2.2.2 = xd := by rw [hxx]
  rw [e1, e2, e3, e4] at BX ⊢
  replace hxx := hide hxx
  clear e1 e2 e3 e4
  obtain ⟨w0, hw0⟩ : ∃ w0, w.alloc (.cells (r4 xa xb xc xd) 33) = w0 := ⟨_, rfl⟩
  have B0 : Below w.heap.size w w0 := hw0 ▸ (Below.refl _ _).alloc (Nat.le_refl _) _
  have L0 : Loc w0 w.heap.size (r4 xa xb xc xd) := hw0 ▸ loc_at w _ _ rfl
  have s0 : w0.heap.size = w.heap.size + 1 := by rw [← hw0]; simp
  go_enter Try.func12, Try.ntmps12
  go_wp2
  clear hw0
  go_loopw [6] (fun i wr => ∃ k : Nat, k ≤ n ∧ i = .int .i64 k ∧ Hid (∀ j, j < k → Bef (ts.getD j z4) x) ∧ Loc wr w.heap.size (r4 xa xb xc xd) ∧ w0.heap.size ≤ wr.heap.size ∧ Below w.heap.size w wr) (fun i _ => n - (intOf i).toNat)
  case atStart => exact ⟨0, Nat.zero_le _, by go_num, hide (fun j hj => absurd hj (Nat.not_lt_zero j)), L0, Nat.le_refl _, B0⟩
  case round =>
    clear L0 B0
    obtain ⟨k, hk, rfl, HA, L, sr, br⟩ := hrel
    have bA : Below wr.heap.size wr wr.drew := Below.drew (Below.refl _ _)
    by_cases hlt : k < n
    · obtain ⟨g, rfl, hy⟩ := (unhide H).at k (by rw [unhide Hn]; exact hlt)
      have CY := hide (hy.below br (Nat.le_refl _))
      have BF := hide (unhide BX (ts.getD k z4))
      obtain ⟨y, hy0⟩ : ∃ y, ts.getD k z4 = y := ⟨_, rfl⟩
      by_cases hb : Bef (ts.getD k z4) x
      · rw [decide_eq_true hb] at BF
        have HS : Hid (∀ j, j < k + 1 → Bef (ts.getD j z4) x) := hide fun j hj => by
          by_cases e : j = k
          · rw [e]; exact hb
          · exact unhide HA j (by omega)
        rw [hy0] at CY BF
        clear hb hy0 HA hy PI
        obtain ⟨ya, yb, yc, yd⟩ := y
        dsimp only at BF
        have K : Hid (∀ w', Below wr.heap.size wr w' → (w'.cell? ⟨g, k * 4, none⟩ = some (.int .i64 ya) ∧ w'.cell? ⟨g, k * 4 + 1, none⟩ = some (.int .i64 yb) ∧ w'.cell? ⟨g, k * 4 + 2, none⟩ = some (.int .i64 yc) ∧ w'.cell? ⟨g, k * 4 + 3, none⟩ = some (.int .i64 yd)) ∧ (w'.cell? ⟨w.heap.size, 0, none⟩ = some (.int .i64 xa) ∧ w'.cell? ⟨w.heap.size, 1, none⟩ = some (.int .i64 xb) ∧ w'.cell? ⟨w.heap.size, 2, none⟩ = some (.int .i64 xc) ∧ w'.cell? ⟨w.heap.size, 3, none⟩ = some (.int .i64 xd))) := hide fun w' hb => ⟨(unhide CY).below hb (Nat.le_refl _), (L.below hb L.lt).cells4⟩
        clear CY
        go_wp2_with fail
        refine wp_region_noPanic ?_
        refine wp_region_held_drew (S := (fun w' => (w'.cell? ⟨g, k * 4, none⟩ = some (.int .i64 ya) ∧ w'.cell? ⟨g, k * 4 + 1, none⟩ = some (.int .i64 yb) ∧ w'.cell? ⟨g, k * 4 + 2, none⟩ = some (.int .i64 yc) ∧ w'.cell? ⟨g, k * 4 + 3, none⟩ = some (.int .i64 yd)) ∧ (w'.cell? ⟨w.heap.size, 0, none⟩ = some (.int .i64 xa) ∧ w'.cell? ⟨w.heap.size, 1, none⟩ = some (.int .i64 xb) ∧ w'.cell? ⟨w.heap.size, 2, none⟩ = some (.int .i64 xc) ∧ w'.cell? ⟨w.heap.size, 3, none⟩ = some (.int .i64 xd)))) (by kernel_rfl) (unhide K _ bA) (fun hHeld => ?_)
        refine take_at (i := 0) (d := 8) (v := ?_) rfl rfl (by kernel_rfl) (by kernel_rfl) (by kernel_rfl) (fun _ _ _ h => h) (Or.inl ⟨by rfl, ?_⟩) (by assumption) ?_
        rotate_left
        · intro w hSw
          try dsimp only at hSw
          go_simp
          try with_reducible rfl
        simp only [Act.put, List.setIfInBounds_toArray, List.set_cons_zero, List.set_cons_succ]
        refine take_at (i := 1) (d := 9) (v := ?_) rfl rfl (by kernel_rfl) (by kernel_rfl) (by kernel_rfl) (fun _ _ _ h => h) (Or.inl ⟨by rfl, ?_⟩) (by assumption) ?_
        rotate_left
        · intro w hSw
          try dsimp only at hSw
          go_simp
          try with_reducible rfl
        simp only [Act.put, List.setIfInBounds_toArray, List.set_cons_zero, List.set_cons_succ]
        refine take_at (i := 2) (d := 10) (v := ?_) rfl rfl (by kernel_rfl) (by kernel_rfl) (by kernel_rfl) (fun _ _ _ h => h) (Or.inl ⟨by rfl, ?_⟩) (by assumption) ?_
        rotate_left
        · intro w hSw
          try dsimp only at hSw
          go_simp
          try with_reducible rfl
        simp only [Act.put, List.setIfInBounds_toArray, List.set_cons_zero, List.set_cons_succ]
        refine take_at (i := 3) (d := 11) (v := ?_) rfl rfl (by kernel_rfl) (by kernel_rfl) (by kernel_rfl) (fun _ _ _ h => h) (Or.inl ⟨by rfl, ?_⟩) (by assumption) ?_
        rotate_left
        · intro w hSw
          try dsimp only at hSw
          go_simp
          try with_reducible rfl
        simp only [Act.put, List.setIfInBounds_toArray, List.set_cons_zero, List.set_cons_succ]
        refine take_at (i := 4) (d := 12) (v := ?_) rfl rfl (by kernel_rfl) (by kernel_rfl) (by kernel_rfl) (fun _ _ _ h => h) (Or.inl ⟨by rfl, ?_⟩) (by assumption) ?_
        rotate_left
        · intro w hSw
          try dsimp only at hSw
          go_simp
          try with_reducible rfl
        simp only [Act.put, List.setIfInBounds_toArray, List.set_cons_zero, List.set_cons_succ]
        refine take_at (i := 5) (d := 13) (v := ?_) rfl rfl (by kernel_rfl) (by kernel_rfl) (by kernel_rfl) (fun _ _ _ h => h) (Or.inl ⟨by rfl, ?_⟩) (by assumption) ?_
        rotate_left
        · intro w hSw
          try dsimp only at hSw
          go_simp
          try with_reducible rfl
        simp only [Act.put, List.setIfInBounds_toArray, List.set_cons_zero, List.set_cons_succ]
        refine take_at (i := 6) (d := 14) (v := ?_) rfl rfl (by kernel_rfl) (by kernel_rfl) (by kernel_rfl) (fun _ _ _ h => h) (Or.inl ⟨by rfl, ?_⟩) (by assumption) ?_
        rotate_left
        · intro w hSw
          try dsimp only at hSw
          go_simp
          try with_reducible rfl
        simp only [Act.put, List.setIfInBounds_toArray, List.set_cons_zero, List.set_cons_succ]
        refine take_at (i := 7) (d := 15) (v := ?_) rfl rfl (by kernel_rfl) (by kernel_rfl) (by kernel_rfl) (fun _ _ _ h => h) (Or.inl ⟨by rfl, ?_⟩) (by assumption) ?_
        rotate_left
        · intro w hSw
          try dsimp only at hSw
          go_simp
          try with_reducible rfl
        simp only [Act.put, List.setIfInBounds_toArray, List.set_cons_zero, List.set_cons_succ]
        refine take_at (i := 8) (d := 16) (v := ?_) rfl rfl (by kernel_rfl) (by kernel_rfl) (by kernel_rfl) (fun _ _ _ h => h) (Or.inl ⟨by rfl, ?_⟩) (by assumption) ?_
        rotate_left
        · intro w hSw
          try dsimp only at hSw
          go_simp
          try with_reducible rfl
        simp only [Act.put, List.setIfInBounds_toArray, List.set_cons_zero, List.set_cons_succ]
        refine take_at (i := 9) (d := 17) (v := ?_) rfl rfl (by kernel_rfl) (by kernel_rfl) (by kernel_rfl) (fun _ _ _ h => h) (Or.inl ⟨by rfl, ?_⟩) (by assumption) ?_
        rotate_left
        · intro w hSw
          try dsimp only at hSw
          go_simp
          try with_reducible rfl
        simp only [Act.put, List.setIfInBounds_toArray, List.set_cons_zero, List.set_cons_succ]
        refine ready_at (i := 10) rfl (by kernel_rfl) (fun KK hKK => ?_)
        go_simp
        refine (unhide BF _).mono ?_
        rintro _ wa ⟨rfl, ba⟩
        have bB : Below wr.heap.size wr wa := bA.trans ba
        clear hHeld
        refine hKK.out _ _ (unhide K _ bB) (fun hHeld => ?_)
        clear hKK KK
        refine take_at (i := 11) (d := 19) (v := ?_) rfl rfl (by kernel_rfl) (by kernel_rfl) (by kernel_rfl) (fun _ _ _ h => h) (Or.inl ⟨by rfl, ?_⟩) (by assumption) ?_
        rotate_left
        · intro w hSw
          try dsimp only at hSw
          go_simp
          try with_reducible rfl
        simp only [Act.put, List.setIfInBounds_toArray, List.set_cons_zero, List.set_cons_succ]
        clear hHeld
        refine wpAnyH_done (by kernel_rfl) ?_ _
        refine NoPanic.normal ?_
        have LB := L.below bB L.lt
        have BB := br.trans (bB.mono br.size)
        have sB := Nat.le_trans sr bB.size
        go_wp2
        go_roundw
        case rel => exact ⟨k + 1, by omega, by go_num, HS, LB, sB, BB⟩
        case measure => simp [intOf]; omega
      · rw [decide_eq_false hb] at BF
        have HPOS : Hid (pos ts x = k) := hide (unhide PI k (by rw [unhide Hn]; exact hk) (unhide HA) (fun _ => hb))
        rw [hy0] at CY BF
        clear hb hy0 HA hy PI
        obtain ⟨ya, yb, yc, yd⟩ := y
        dsimp only at BF
        have K : Hid (∀ w', Below wr.heap.size wr w' → (w'.cell? ⟨g, k * 4, none⟩ = some (.int .i64 ya) ∧ w'.cell? ⟨g, k * 4 + 1, none⟩ = some (.int .i64 yb) ∧ w'.cell? ⟨g, k * 4 + 2, none⟩ = some (.int .i64 yc) ∧ w'.cell? ⟨g, k * 4 + 3, none⟩ = some (.int .i64 yd)) ∧ (w'.cell? ⟨w.heap.size, 0, none⟩ = some (.int .i64 xa) ∧ w'.cell? ⟨w.heap.size, 1, none⟩ = some (.int .i64 xb) ∧ w'.cell? ⟨w.heap.size, 2, none⟩ = some (.int .i64 xc) ∧ w'.cell? ⟨w.heap.size, 3, none⟩ = some (.int .i64 xd))) := hide fun w' hb => ⟨(unhide CY).below hb (Nat.le_refl _), (L.below hb L.lt).cells4⟩
        clear CY
        go_wp2_with fail
        refine wp_region_noPanic ?_
        refine wp_region_held_drew (S := (fun w' => (w'.cell? ⟨g, k * 4, none⟩ = some (.int .i64 ya) ∧ w'.cell? ⟨g, k * 4 + 1, none⟩ = some (.int .i64 yb) ∧ w'.cell? ⟨g, k * 4 + 2, none⟩ = some (.int .i64 yc) ∧ w'.cell? ⟨g, k * 4 + 3, none⟩ = some (.int .i64 yd)) ∧ (w'.cell? ⟨w.heap.size, 0, none⟩ = some (.int .i64 xa) ∧ w'.cell? ⟨w.heap.size, 1, none⟩ = some (.int .i64 xb) ∧ w'.cell? ⟨w.heap.size, 2, none⟩ = some (.int .i64 xc) ∧ w'.cell? ⟨w.heap.size, 3, none⟩ = some (.int .i64 xd)))) (by kernel_rfl) (unhide K _ bA) (fun hHeld => ?_)
        refine take_at (i := 0) (d := 8) (v := ?_) rfl rfl (by kernel_rfl) (by kernel_rfl) (by kernel_rfl) (fun _ _ _ h => h) (Or.inl ⟨by rfl, ?_⟩) (by assumption) ?_
        rotate_left
        · intro w hSw
          try dsimp only at hSw
          go_simp
          try with_reducible rfl
        simp only [Act.put, List.setIfInBounds_toArray, List.set_cons_zero, List.set_cons_succ]
        refine take_at (i := 1) (d := 9) (v := ?_) rfl rfl (by kernel_rfl) (by kernel_rfl) (by kernel_rfl) (fun _ _ _ h => h) (Or.inl ⟨by rfl, ?_⟩) (by assumption) ?_
        rotate_left
        · intro w hSw
          try dsimp only at hSw
          go_simp
          try with_reducible rfl
        simp only [Act.put, List.setIfInBounds_toArray, List.set_cons_zero, List.set_cons_succ]
        refine take_at (i := 2) (d := 10) (v := ?_) rfl rfl (by kernel_rfl) (by kernel_rfl) (by kernel_rfl) (fun _ _ _ h => h) (Or.inl ⟨by rfl, ?_⟩) (by assumption) ?_
        rotate_left
        · intro w hSw
          try dsimp only at hSw
          go_simp
          try with_reducible rfl
        simp only [Act.put, List.setIfInBounds_toArray, List.set_cons_zero, List.set_cons_succ]
        refine take_at (i := 3) (d := 11) (v := ?_) rfl rfl (by kernel_rfl) (by kernel_rfl) (by kernel_rfl) (fun _ _ _ h => h) (Or.inl ⟨by rfl, ?_⟩) (by assumption) ?_
        rotate_left
        · intro w hSw
          try dsimp only at hSw
          go_simp
          try with_reducible rfl
        simp only [Act.put, List.setIfInBounds_toArray, List.set_cons_zero, List.set_cons_succ]
        refine take_at (i := 4) (d := 12) (v := ?_) rfl rfl (by kernel_rfl) (by kernel_rfl) (by kernel_rfl) (fun _ _ _ h => h) (Or.inl ⟨by rfl, ?_⟩) (by assumption) ?_
        rotate_left
        · intro w hSw
          try dsimp only at hSw
          go_simp
          try with_reducible rfl
        simp only [Act.put, List.setIfInBounds_toArray, List.set_cons_zero, List.set_cons_succ]
        refine take_at (i := 5) (d := 13) (v := ?_) rfl rfl (by kernel_rfl) (by kernel_rfl) (by kernel_rfl) (fun _ _ _ h => h) (Or.inl ⟨by rfl, ?_⟩) (by assumption) ?_
        rotate_left
        · intro w hSw
          try dsimp only at hSw
          go_simp
          try with_reducible rfl
        simp only [Act.put, List.setIfInBounds_toArray, List.set_cons_zero, List.set_cons_succ]
        refine take_at (i := 6) (d := 14) (v := ?_) rfl rfl (by kernel_rfl) (by kernel_rfl) (by kernel_rfl) (fun _ _ _ h => h) (Or.inl ⟨by rfl, ?_⟩) (by assumption) ?_
        rotate_left
        · intro w hSw
          try dsimp only at hSw
          go_simp
          try with_reducible rfl
        simp only [Act.put, List.setIfInBounds_toArray, List.set_cons_zero, List.set_cons_succ]
        refine take_at (i := 7) (d := 15) (v := ?_) rfl rfl (by kernel_rfl) (by kernel_rfl) (by kernel_rfl) (fun _ _ _ h => h) (Or.inl ⟨by rfl, ?_⟩) (by assumption) ?_
        rotate_left
        · intro w hSw
          try dsimp only at hSw
          go_simp
          try with_reducible rfl
        simp only [Act.put, List.setIfInBounds_toArray, List.set_cons_zero, List.set_cons_succ]
        refine take_at (i := 8) (d := 16) (v := ?_) rfl rfl (by kernel_rfl) (by kernel_rfl) (by kernel_rfl) (fun _ _ _ h => h) (Or.inl ⟨by rfl, ?_⟩) (by assumption) ?_
        rotate_left
        · intro w hSw
          try dsimp only at hSw
          go_simp
          try with_reducible rfl
        simp only [Act.put, List.setIfInBounds_toArray, List.set_cons_zero, List.set_cons_succ]
        refine take_at (i := 9) (d := 17) (v := ?_) rfl rfl (by kernel_rfl) (by kernel_rfl) (by kernel_rfl) (fun _ _ _ h => h) (Or.inl ⟨by rfl, ?_⟩) (by assumption) ?_
        rotate_left
        · intro w hSw
          try dsimp only at hSw
          go_simp
          try with_reducible rfl
        simp only [Act.put, List.setIfInBounds_toArray, List.set_cons_zero, List.set_cons_succ]
        refine ready_at (i := 10) rfl (by kernel_rfl) (fun KK hKK => ?_)
        go_simp
        refine (unhide BF _).mono ?_
        rintro _ wa ⟨rfl, ba⟩
        have bB : Below wr.heap.size wr wa := bA.trans ba
        clear hHeld
        refine hKK.out _ _ (unhide K _ bB) (fun hHeld => ?_)
        clear hKK KK
        refine take_at (i := 11) (d := 19) (v := ?_) rfl rfl (by kernel_rfl) (by kernel_rfl) (by kernel_rfl) (fun _ _ _ h => h) (Or.inl ⟨by rfl, ?_⟩) (by assumption) ?_
        rotate_left
        · intro w hSw
          try dsimp only at hSw
          go_simp
          try with_reducible rfl
        simp only [Act.put, List.setIfInBounds_toArray, List.set_cons_zero, List.set_cons_succ]
        clear hHeld
        refine wpAnyH_done (by kernel_rfl) ?_ _
        refine NoPanic.normal ?_
        obtain ⟨we, hwe⟩ : ∃ we, wa = we := ⟨_, rfl⟩
        have LE := L.below bB L.lt
        have BE := br.trans (bB.mono br.size)
        have sE := Nat.le_trans sr bB.size
        rw [hwe] at LE BE sE ⊢
        clear hwe K BF BX bA bB ba L br sr
        obtain ⟨w2, hw2⟩ : ∃ y, we.alloc (.cells #[] 33) = y := ⟨_, rfl⟩
        have B2 : Below w.heap.size w w2 := hw2 ▸ BE.alloc BE.size _
        have S2 : Hid (w0.heap.size ≤ w2.heap.size) := hide (by rw [← hw2]; simp; omega)
        have sz2 := unhide S2
        have O2 : Hid (OT w2 w0.heap.size (.slice (some ⟨we.heap.size, 0, none⟩) 0 0) []) := hide (hw2 ▸ World.ownsRow_lit we #[] 0 sE (by unfold maxLen; omega) rfl)
        have PA : Hid (PT w2 (.slice (some ⟨g, 0, none⟩) k ca) (ts.take k)) := hide (((unhide H).below B2).pt.take k hk ca)
        have T1 : ∀ w', (Instr.slice 25 (.slice (some ⟨g, 0, none⟩) n ca) none (some (.int .i64 (k : Int))) none).run Try.prog w' = .ok (.slice (some ⟨g, 0, none⟩) k ca) w' := fun w' => cut_to (some ⟨g, 0, none⟩) n ca k w' (by omega)
        obtain ⟨bo, hbo⟩ : ∃ bo : Option Addr, (if ca = k then ((some ⟨g, 0, none⟩) : Option Addr) else ((some ⟨g, 0, none⟩) : Option Addr).map (·.add (k * 4))) = bo := ⟨_, rfl⟩
        have T2 : ∀ w', (Instr.slice 25 (.slice (some ⟨g, 0, none⟩) n ca) (some (.int .i64 (k : Int))) none none).run Try.prog w' = .ok (.slice bo (n - k) (ca - k)) w' := fun w' => by rw [cut_from (some ⟨g, 0, none⟩) n ca k w' hk, hbo]
        have PB : Hid (∀ w', Below w.heap.size w w' → PT w' (.slice bo (n - k) (ca - k)) (ts.drop k)) := hide fun w' hb => (((unhide H).below hb).pt.drop k hk (ca - k) (fun h => by rw [← hbo, if_neg (by omega)]))
        have tl : Hid ((ts.take k).length = k) := hide (by rw [List.length_take, unhide Hn]; omega)
        have dl : Hid ((ts.drop k).length = n - k) := hide (by rw [List.length_drop, unhide Hn])
        have LX2 : Hid (Loc w2 w.heap.size (r4 xa xb xc xd)) := hide (hw2 ▸ LE.alloc _)
        have le0 : w.heap.size < w0.heap.size := by omega
        clear hbo
        go_wp2_with (first
          | (at_builtin; have hgo := O2; refine append_piece rfl _ _ rfl w0.heap.size (.slice (some ⟨we.heap.size, 0, none⟩) 0 0) (.slice (some ⟨g, 0, none⟩) k ca) [] (ts.take k) rfl rfl (unhide O2) (unhide PA) (by rw [unhide tl]; simp; omega) (unhide S2) ?_; intro v3 w3 ho3 hg3 _; have O3 := hide ho3; have kp3 := kp_grown hg3; have B3 := Below.kp B2 kp3 B2.size (fun j hj => by have := (World.ownsRow.lt (unhide O2) j hj).1; omega); have X3 := hide ((unhide LX2).kp kp3 (fun hj => by have := (World.ownsRow.lt (unhide O2) _ hj).1; omega)); obtain ⟨c0, c1, c2, c3⟩ := (unhide X3).cells4; have sz3 := kp3.size; obtain ⟨a3, k3, hv3⟩ := ho3.form; rw [List.nil_append, unhide tl] at hv3; clear ho3 hg3 kp3 hgo O2 hw2; subst hv3; obtain ⟨w4, hw4⟩ : ∃ y, w3.alloc (.cells #[.int .i64 xa, .int .i64 xb, .int .i64 xc, .int .i64 xd] 33) = y := ⟨_, rfl⟩)
          | (at_builtin; have hgo := O3; have B4 : Below w.heap.size w w4 := hw4 ▸ B3.alloc B3.size _; have O4 : OT w4 w0.heap.size (.slice a3 k k3) ([] ++ ts.take k) := hw4 ▸ ot_alloc (unhide O3) _; have P4 : PT w4 (.slice (some ⟨w3.heap.size, 0, none⟩) 1 1) [(xa, xb, xc, xd)] := hw4 ▸ OT.pt (base := 0) (World.ownsRow_lit w3 #[.int .i64 xa, .int .i64 xb, .int .i64 xc, .int .i64 xd] 1 (Nat.zero_le _) (by unfold maxLen; omega) rfl); have X4 : Loc w4 w.heap.size (r4 xa xb xc xd) := hw4 ▸ (unhide X3).alloc _; have sz4 : w3.heap.size ≤ w4.heap.size := (by rw [← hw4]; simp); refine append_piece rfl _ _ rfl w0.heap.size (.slice a3 k k3) (.slice (some ⟨w3.heap.size, 0, none⟩) 1 1) ([] ++ ts.take k) [(xa, xb, xc, xd)] rfl rfl O4 P4 (by simp [unhide tl]; omega) (by omega) ?_; intro v5 w5 ho5 hg5 _; have O5 := hide ho5; have kp5 := kp_grown hg5; have B5 := Below.kp B4 kp5 B4.size (fun j hj => by have := (World.ownsRow.lt O4 j hj).1; omega); have sz5 := kp5.size; obtain ⟨a5, k5, hv5⟩ := ho5.form; rw [List.nil_append, List.length_append, unhide tl] at hv5; clear ho5 hg5 kp5 hgo O3 hw4 O4 P4 X4 B4; subst hv5)
          | (at_builtin; have hgo := O5; refine append_piece rfl _ _ rfl w0.heap.size _ (.slice bo (n - k) (ca - k)) ([] ++ ts.take k ++ [(xa, xb, xc, xd)]) (ts.drop k) rfl rfl (unhide O5) (unhide PB _ B5) (by simp [unhide tl, unhide dl]; omega) (by omega) ?_; intro v6 w6 ho6 hg6 _; have B6 := Below.kp B5 (kp_grown hg6) B5.size (fun j hj => by have := (World.ownsRow.lt (unhide O5) j hj).1; omega); have O6 : OT w6 w0.heap.size v6 (ins ts x k) := (by rw [unhide hxx]; unfold ins; rw [List.nil_append] at ho6; exact ho6); have sz6 := (kp_grown hg6).size; obtain ⟨a6, k6, hv6⟩ := O6.form; replace O6 := hide O6; clear ho6 hg6 hgo O5; subst hv6))
        have e := unhide AN
        rw [unhide HPOS] at e
        have PO := specPoolOk _ (ins ts x k) w6 ((unhide O6).rt (by rw [ins_len, unhide Hn]; omega))
        clear T1 T2 PB PA LX2 B2 B3 X3 c0 c1 c2 c3 LE BE
        by_cases hok : POk (ins ts x k)
        · rw [if_pos hok] at e
          rw [decide_eq_true hok] at PO
          replace e := hide e
          clear hok
          refine PO.mono ?_
          rintro _ w7 ⟨rfl, b7⟩
          go_wp2
          go_ret2
          exact ⟨_, by rw [unhide e]; rfl, by rw [unhide e]; exact ((unhide O6).below b7).mono (by omega), B6.trans (b7.mono B6.size)⟩
        · rw [if_neg hok] at e
          rw [decide_eq_false hok] at PO
          replace e := hide e
          clear hok O6
          refine PO.mono ?_
          rintro _ w7 ⟨rfl, b7⟩
          have B7 := B6.trans (b7.mono B6.size)
          obtain ⟨w8, hw8⟩ : ∃ y, w7.alloc (.cells #[] 33) = y := ⟨_, rfl⟩
          have B8 : Below w.heap.size w w8 := hw8 ▸ B7.alloc B7.size _
          have O8 : Hid (OT w8 w.heap.size (.slice (some ⟨w7.heap.size, 0, none⟩) 0 0) []) := hide (hw8 ▸ World.ownsRow_lit w7 #[] 0 B7.size (by unfold maxLen; omega) rfl)
          have P8 := hide ((unhide H).below B8).pt
          clear b7 B7 B6
          go_wp2_with (first | (at_builtin; refine append_piece rfl _ _ rfl w.heap.size (.slice (some ⟨w7.heap.size, 0, none⟩) 0 0) (.slice (some ⟨g, 0, none⟩) n ca) [] ts rfl rfl (unhide O8) (unhide P8) (by rw [unhide Hn]; simp; omega) B8.size ?_; intro v9 w9 ho9 hg9 _; have O9 := hide ho9; have B9 := hide (B8.grown hg9 B8.size (fun j hj => (World.ownsRow.lt (unhide O8) j hj).1)); clear ho9 hg9))
          go_ret2
          exact ⟨_, by rw [unhide e]; rfl, by rw [unhide e]; exact unhide O9, unhide B9⟩
    · have hkn : k = n := by omega
      have HPOS : Hid (pos ts x = k) := hide (unhide PI k (by rw [unhide Hn]; exact hk) (unhide HA) (fun h => by rw [unhide Hn] at h; omega))
      have hnd : decide ((k : Int) < (n : Int)) = false := by simp; omega
      have K : Hid (∀ w', Below wr.heap.size wr w' → (w'.cell? ⟨w.heap.size, 0, none⟩ = some (.int .i64 xa) ∧ w'.cell? ⟨w.heap.size, 1, none⟩ = some (.int .i64 xb) ∧ w'.cell? ⟨w.heap.size, 2, none⟩ = some (.int .i64 xc) ∧ w'.cell? ⟨w.heap.size, 3, none⟩ = some (.int .i64 xd))) := hide fun w' hb => (L.below hb L.lt).cells4
      replace hkn := hide hkn
      clear HA PI BX
      go_wp2_with fail
      refine wp_region_noPanic ?_
      refine wp_region_held_drew (S := (fun w' => (w'.cell? ⟨w.heap.size, 0, none⟩ = some (.int .i64 xa) ∧ w'.cell? ⟨w.heap.size, 1, none⟩ = some (.int .i64 xb) ∧ w'.cell? ⟨w.heap.size, 2, none⟩ = some (.int .i64 xc) ∧ w'.cell? ⟨w.heap.size, 3, none⟩ = some (.int .i64 xd)))) (by kernel_rfl) (unhide K _ bA) (fun hHeld => ?_)
      refine take_at (i := 0) (d := 8) (v := ?_) rfl rfl (by kernel_rfl) (by kernel_rfl) (by kernel_rfl) (fun _ _ _ h => h) (Or.inl ⟨by rfl, ?_⟩) (by assumption) ?_
      rotate_left
      · intro w hSw
        try dsimp only at hSw
        go_simp
        try with_reducible rfl
      simp only [Act.put, List.setIfInBounds_toArray, List.set_cons_zero, List.set_cons_succ]
      refine take_at (i := 1) (d := 9) (v := ?_) rfl rfl (by kernel_rfl) (by kernel_rfl) (by kernel_rfl) (fun _ _ _ h => h) (Or.inl ⟨by rfl, ?_⟩) (by assumption) ?_
      rotate_left
      · intro w hSw
        try dsimp only at hSw
        go_simp
        try with_reducible rfl
      simp only [Act.put, List.setIfInBounds_toArray, List.set_cons_zero, List.set_cons_succ]
      refine take_at (i := 2) (d := 10) (v := ?_) rfl rfl (by kernel_rfl) (by kernel_rfl) (by kernel_rfl) (fun _ _ _ h => h) (Or.inl ⟨by rfl, ?_⟩) (by assumption) ?_
      rotate_left
      · intro w hSw
        try dsimp only at hSw
        go_simp
        try with_reducible rfl
      simp only [Act.put, List.setIfInBounds_toArray, List.set_cons_zero, List.set_cons_succ]
      refine take_at (i := 3) (d := 11) (v := ?_) rfl rfl (by kernel_rfl) (by kernel_rfl) (by kernel_rfl) (fun _ _ _ h => h) (Or.inl ⟨by rfl, ?_⟩) (by assumption) ?_
      rotate_left
      · intro w hSw
        try dsimp only at hSw
        go_simp
        try with_reducible rfl
      simp only [Act.put, List.setIfInBounds_toArray, List.set_cons_zero, List.set_cons_succ]
      refine take_at (i := 4) (d := 12) (v := ?_) rfl rfl (by kernel_rfl) (by kernel_rfl) (by kernel_rfl) (fun _ _ _ h => h) (Or.inl ⟨by rfl, ?_⟩) (by assumption) ?_
      rotate_left
      · intro w hSw
        try dsimp only at hSw
        go_simp
        try with_reducible rfl
      simp only [Act.put, List.setIfInBounds_toArray, List.set_cons_zero, List.set_cons_succ]
      refine take_at (i := 5) (d := 13) (v := undef) rfl rfl (by kernel_rfl) (by kernel_rfl) (by kernel_rfl) (fun _ _ _ h => h) (Or.inr ⟨by rfl, rfl⟩) (by assumption) ?_
      simp only [Act.put, List.setIfInBounds_toArray, List.set_cons_zero, List.set_cons_succ]
      refine take_at (i := 6) (d := 14) (v := undef) rfl rfl (by kernel_rfl) (by kernel_rfl) (by kernel_rfl) (fun _ _ _ h => h) (Or.inr ⟨by rfl, rfl⟩) (by assumption) ?_
      simp only [Act.put, List.setIfInBounds_toArray, List.set_cons_zero, List.set_cons_succ]
      refine take_at (i := 7) (d := 15) (v := undef) rfl rfl (by kernel_rfl) (by kernel_rfl) (by kernel_rfl) (fun _ _ _ h => h) (Or.inr ⟨by rfl, rfl⟩) (by assumption) ?_
      simp only [Act.put, List.setIfInBounds_toArray, List.set_cons_zero, List.set_cons_succ]
      refine take_at (i := 8) (d := 16) (v := undef) rfl rfl (by kernel_rfl) (by kernel_rfl) (by kernel_rfl) (fun _ _ _ h => h) (Or.inr ⟨by rfl, rfl⟩) (by assumption) ?_
      simp only [Act.put, List.setIfInBounds_toArray, List.set_cons_zero, List.set_cons_succ]
      refine take_at (i := 9) (d := 17) (v := undef) rfl rfl (by kernel_rfl) (by kernel_rfl) (by kernel_rfl) (fun _ _ _ h => h) (Or.inr ⟨by rfl, rfl⟩) (by assumption) ?_
      simp only [Act.put, List.setIfInBounds_toArray, List.set_cons_zero, List.set_cons_succ]
      refine take_at (i := 10) (d := 18) (v := undef) rfl rfl (by kernel_rfl) (by kernel_rfl) (by kernel_rfl) (fun _ _ _ h => h) (Or.inr ⟨by rfl, rfl⟩) (by assumption) ?_
      simp only [Act.put, List.setIfInBounds_toArray, List.set_cons_zero, List.set_cons_succ]
      refine take_at (i := 11) (d := 19) (v := ?_) rfl rfl (by kernel_rfl) (by kernel_rfl) (by kernel_rfl) (fun _ _ _ h => h) (Or.inl ⟨by rfl, ?_⟩) (by assumption) ?_
      rotate_left
      · intro w hSw
        try dsimp only at hSw
        go_simp
        try with_reducible rfl
      simp only [Act.put, List.setIfInBounds_toArray, List.set_cons_zero, List.set_cons_succ]
      clear hHeld
      refine wpAnyH_done (by kernel_rfl) ?_ _
      refine NoPanic.normal ?_
      obtain ⟨we, hwe⟩ : ∃ we, wr.drew = we := ⟨_, rfl⟩
      have LE := L.below bA L.lt
      have BE := br.trans (bA.mono br.size)
      have sE := Nat.le_trans sr bA.size
      rw [hwe] at LE BE sE ⊢
      clear hwe K bA L br sr
      obtain ⟨w2, hw2⟩ : ∃ y, we.alloc (.cells #[] 33) = y := ⟨_, rfl⟩
      have B2 : Below w.heap.size w w2 := hw2 ▸ BE.alloc BE.size _
      have S2 : Hid (w0.heap.size ≤ w2.heap.size) := hide (by rw [← hw2]; simp; omega)
      have sz2 := unhide S2
      have O2 : Hid (OT w2 w0.heap.size (.slice (some ⟨we.heap.size, 0, none⟩) 0 0) []) := hide (hw2 ▸ World.ownsRow_lit we #[] 0 sE (by unfold maxLen; omega) rfl)
      have PA : Hid (PT w2 (.slice ao k ca) (ts.take k)) := hide (((unhide H).below B2).pt.take k hk ca)
      have T1 : ∀ w', (Instr.slice 25 (.slice ao n ca) none (some (.int .i64 (k : Int))) none).run Try.prog w' = .ok (.slice ao k ca) w' := fun w' => cut_to ao n ca k w' (by omega)
      obtain ⟨bo, hbo⟩ : ∃ bo : Option Addr, (if ca = k then (ao : Option Addr) else (ao : Option Addr).map (·.add (k * 4))) = bo := ⟨_, rfl⟩
      have T2 : ∀ w', (Instr.slice 25 (.slice ao n ca) (some (.int .i64 (k : Int))) none none).run Try.prog w' = .ok (.slice bo (n - k) (ca - k)) w' := fun w' => by rw [cut_from ao n ca k w' hk, hbo]
      have PB : Hid (∀ w', Below w.heap.size w w' → PT w' (.slice bo (n - k) (ca - k)) (ts.drop k)) := hide fun w' hb => (((unhide H).below hb).pt.drop k hk (ca - k) (fun h => by rw [← hbo, if_neg (by omega)]))
      have tl : Hid ((ts.take k).length = k) := hide (by rw [List.length_take, unhide Hn]; omega)
      have dl : Hid ((ts.drop k).length = n - k) := hide (by rw [List.length_drop, unhide Hn])
      have LX2 : Hid (Loc w2 w.heap.size (r4 xa xb xc xd)) := hide (hw2 ▸ LE.alloc _)
      have le0 : w.heap.size < w0.heap.size := by omega
      clear hbo
      go_wp2_with (first
        | (at_builtin; have hgo := O2; refine append_piece rfl _ _ rfl w0.heap.size (.slice (some ⟨we.heap.size, 0, none⟩) 0 0) (.slice ao k ca) [] (ts.take k) rfl rfl (unhide O2) (unhide PA) (by rw [unhide tl]; simp; omega) (unhide S2) ?_; intro v3 w3 ho3 hg3 _; have O3 := hide ho3; have kp3 := kp_grown hg3; have B3 := Below.kp B2 kp3 B2.size (fun j hj => by have := (World.ownsRow.lt (unhide O2) j hj).1; omega); have X3 := hide ((unhide LX2).kp kp3 (fun hj => by have := (World.ownsRow.lt (unhide O2) _ hj).1; omega)); obtain ⟨c0, c1, c2, c3⟩ := (unhide X3).cells4; have sz3 := kp3.size; obtain ⟨a3, k3, hv3⟩ := ho3.form; rw [List.nil_append, unhide tl] at hv3; clear ho3 hg3 kp3 hgo O2 hw2; subst hv3; obtain ⟨w4, hw4⟩ : ∃ y, w3.alloc (.cells #[.int .i64 xa, .int .i64 xb, .int .i64 xc, .int .i64 xd] 33) = y := ⟨_, rfl⟩)
        | (at_builtin; have hgo := O3; have B4 : Below w.heap.size w w4 := hw4 ▸ B3.alloc B3.size _; have O4 : OT w4 w0.heap.size (.slice a3 k k3) ([] ++ ts.take k) := hw4 ▸ ot_alloc (unhide O3) _; have P4 : PT w4 (.slice (some ⟨w3.heap.size, 0, none⟩) 1 1) [(xa, xb, xc, xd)] := hw4 ▸ OT.pt (base := 0) (World.ownsRow_lit w3 #[.int .i64 xa, .int .i64 xb, .int .i64 xc, .int .i64 xd] 1 (Nat.zero_le _) (by unfold maxLen; omega) rfl); have X4 : Loc w4 w.heap.size (r4 xa xb xc xd) := hw4 ▸ (unhide X3).alloc _; have sz4 : w3.heap.size ≤ w4.heap.size := (by rw [← hw4]; simp); refine append_piece rfl _ _ rfl w0.heap.size (.slice a3 k k3) (.slice (some ⟨w3.heap.size, 0, none⟩) 1 1) ([] ++ ts.take k) [(xa, xb, xc, xd)] rfl rfl O4 P4 (by simp [unhide tl]; omega) (by omega) ?_; intro v5 w5 ho5 hg5 _; have O5 := hide ho5; have kp5 := kp_grown hg5; have B5 := Below.kp B4 kp5 B4.size (fun j hj => by have := (World.ownsRow.lt O4 j hj).1; omega); have sz5 := kp5.size; obtain ⟨a5, k5, hv5⟩ := ho5.form; rw [List.nil_append, List.length_append, unhide tl] at hv5; clear ho5 hg5 kp5 hgo O3 hw4 O4 P4 X4 B4; subst hv5)
        | (at_builtin; have hgo := O5; refine append_piece rfl _ _ rfl w0.heap.size _ (.slice bo (n - k) (ca - k)) ([] ++ ts.take k ++ [(xa, xb, xc, xd)]) (ts.drop k) rfl rfl (unhide O5) (unhide PB _ B5) (by simp [unhide tl, unhide dl]; omega) (by omega) ?_; intro v6 w6 ho6 hg6 _; have B6 := Below.kp B5 (kp_grown hg6) B5.size (fun j hj => by have := (World.ownsRow.lt (unhide O5) j hj).1; omega); have O6 : OT w6 w0.heap.size v6 (ins ts x k) := (by rw [unhide hxx]; unfold ins; rw [List.nil_append] at ho6; exact ho6); have sz6 := (kp_grown hg6).size; obtain ⟨a6, k6, hv6⟩ := O6.form; replace O6 := hide O6; clear ho6 hg6 hgo O5; subst hv6))
      have e := unhide AN
      rw [unhide HPOS] at e
      have PO := specPoolOk _ (ins ts x k) w6 ((unhide O6).rt (by rw [ins_len, unhide Hn]; omega))
      clear T1 T2 PB PA LX2 B2 B3 X3 c0 c1 c2 c3 LE BE
      by_cases hok : POk (ins ts x k)
      · rw [if_pos hok] at e
        rw [decide_eq_true hok] at PO
        replace e := hide e
        clear hok
        refine PO.mono ?_
        rintro _ w7 ⟨rfl, b7⟩
        go_wp2
        go_ret2
        exact ⟨_, by rw [unhide e]; rfl, by rw [unhide e]; exact ((unhide O6).below b7).mono (by omega), B6.trans (b7.mono B6.size)⟩
      · rw [if_neg hok] at e
        rw [decide_eq_false hok] at PO
        replace e := hide e
        clear hok O6
        refine PO.mono ?_
        rintro _ w7 ⟨rfl, b7⟩
        have B7 := B6.trans (b7.mono B6.size)
        obtain ⟨w8, hw8⟩ : ∃ y, w7.alloc (.cells #[] 33) = y := ⟨_, rfl⟩
        have B8 : Below w.heap.size w w8 := hw8 ▸ B7.alloc B7.size _
        have O8 : Hid (OT w8 w.heap.size (.slice (some ⟨w7.heap.size, 0, none⟩) 0 0) []) := hide (hw8 ▸ World.ownsRow_lit w7 #[] 0 B7.size (by unfold maxLen; omega) rfl)
        have P8 := hide ((unhide H).below B8).pt
        clear b7 B7 B6
        go_wp2_with (first | (at_builtin; refine append_piece rfl _ _ rfl w.heap.size (.slice (some ⟨w7.heap.size, 0, none⟩) 0 0) (.slice ao n ca) [] ts rfl rfl (unhide O8) (unhide P8) (by rw [unhide Hn]; simp; omega) B8.size ?_; intro v9 w9 ho9 hg9 _; have O9 := hide ho9; have B9 := hide (B8.grown hg9 B8.size (fun j hj => (World.ownsRow.lt (unhide O8) j hj).1)); clear ho9 hg9))
        go_ret2
        exact ⟨_, by rw [unhide e]; rfl, by rw [unhide e]; exact unhide O9, unhide B9⟩
end Go.Proofs.Ythdehhenkgkkmaa
