/- The walk of laws.FnPoor. -/
import Derived.Test.YtlglekfmiacdnaaDrawPayL
import Derived.Test.YtlglekfmiacdnaaSameL
import Derived.Test.YtlglekfmiacdnaaImplPay
import Derived.Test.YtlglekfmiacdnaaSpecPayAny
namespace Go.Proofs.Ytlglekfmiacdnaa
open Go.RowKit
set_option linter.unusedSectionVars false
variable [∀ (a b c d : Int), Decidable (Ok4 a b c d)]
variable [∀ (m a b c d : Int), Decidable (In4 m a b c d)]
variable [∀ (xs ys : List Int), Decidable (LOk xs ys)]

/-- What Pay leaves, by its code. -/
theorem payAns_kinds (xs ys : List Int) (a b c d : Int) :
    (payAns xs ys a b c d).2.2 = 0 ∨ ((payAns xs ys a b c d).2.2 ≠ 0 ∧ (payAns xs ys a b c d).2.2 ≠ 4 ∧ (payAns xs ys a b c d).1 = xs ∧ (payAns xs ys a b c d).2.1 = ys) ∨
      ((payAns xs ys a b c d).2.2 = 4 ∧ (payAns xs ys a b c d).1 = xs ∧ ∃ A : Nat, a = A ∧ A < 4 ∧ (0 ≤ d ∧ d ≤ 99) ∧ (payAns xs ys a b c d).2.1 = ys.set A (d + 1)) := by
  unfold payAns
  split
  · unfold paidB
    split
    · exact .inr (.inl ⟨by simp, by simp, rfl, rfl⟩)
    · rename_i ho
      simp only [Decidable.not_not] at ho
      unfold Ok4 at ho
      split
      · exact .inr (.inl ⟨by simp, by simp, rfl, rfl⟩)
      · split
        · exact .inr (.inl ⟨by simp, by simp, rfl, rfl⟩)
        · split
          · exact .inr (.inr ⟨rfl, rfl, a.toNat, by omega, by omega, by omega, rfl⟩)
          · split
            · exact .inl rfl
            · exact .inr (.inl ⟨by simp, by simp, rfl, rfl⟩)
  · exact .inr (.inl ⟨by simp, by simp, rfl, rfl⟩)

set_option maxHeartbeats 800000 in
set_option maxRecDepth 100000 in
theorem fnPoor_big (ao : Option Addr) (n ca : Nat) (w : World) (h : 1048576 < n) (hn : n ≤ 9223372036854775807) :
    Calls Try.prog 4 #[.slice ao n ca] w fun e w' => e = .returned (.bool true) ∧ Below w.heap.size w w' := by
  have BG := hide fun w => big_any ao n ca w hn
  rw [decide_eq_true h] at BG
  go_enter Try.func4, Try.ntmps4
  go_wp2_with fail
  refine (unhide BG _).mono ?_
  rintro e w1 ⟨rfl, b1⟩
  go_wp2
  go_ret
  exact ⟨rfl, b1⟩

set_option maxHeartbeats 16000000 in
set_option maxRecDepth 100000 in
theorem fnPoor_small (ao : Option Addr) (ca : Nat) (zs : List Int) (w : World) (h : Code w ao zs) :
    Calls Try.prog 4 #[.slice ao zs.length ca] w fun e w' => e = .returned (.bool true) ∧ Below w.heap.size w w' := by
  have hn := h.1
  have BG := hide fun w => big_any ao zs.length ca w (by omega)
  rw [decide_eq_false (by omega : ¬ 1048576 < zs.length)] at BG
  go_enter Try.func4, Try.ntmps4
  go_wp2_with fail
  refine (unhide BG _).mono ?_
  rintro e w0 ⟨rfl, b0⟩
  have C0 := h.below b0
  clear BG h hn
  go_wp2_with fail
  refine (drawPay ao ca zs _ C0).mono ?_
  rintro _ w1 ⟨u, v, xs, ys, a, b, c, d, rfl, hx, hy, o1, b1⟩
  have s0 := b0.size
  have s1 := b1.size
  have B1 := b0.trans (b1.mono s0)
  obtain ⟨ha, hc, rfl⟩ := o1.has.form
  obtain ⟨na, nc, rfl⟩ := o1.next.form
  obtain ⟨w2, hw2⟩ : ∃ w2, (w1.alloc (.cells #[.slice ha xs.length hc, .slice na ys.length nc] 26)).alloc (.cells (r4 a b c d) 33) = w2 := ⟨_, rfl⟩
  have b2 : Below w1.heap.size w1 w2 := hw2 ▸ ((Below.refl _ _).alloc (Nat.le_refl _) _).alloc (by simp) _
  have B2 := B1.trans (b2.mono B1.size)
  have L2 : Loc w2 w1.heap.size #[.slice ha xs.length hc, .slice na ys.length nc] := hw2 ▸ (loc_at w1 _ _ rfl).alloc _
  have X2 : Loc w2 (w1.heap.size + 1) (r4 a b c d) := hw2 ▸ loc_at _ _ _ (by simp)
  have O2 := o1.below b2
  have hxl : xs.length ≤ 4194304 := by omega
  have hyl : ys.length ≤ 4194304 := by omega
  have PK := hide (payAns_kinds xs ys a b c d)
  have PL := hide (payAns_len (xs := xs) (ys := ys) (a := a) (b := b) (c := c) (d := d))
  have IM := hide fun u v w h => implPay u v a b c d xs ys w h
  have SP := hide fun u v w h => specPay u v a b c d xs ys w h
  obtain ⟨r, hr⟩ : ∃ r, payAns xs ys a b c d = r := ⟨_, rfl⟩
  rw [hr] at PK PL IM SP
  have HY := hide hy
  obtain ⟨l0, l1⟩ : w2.cell? ⟨w1.heap.size, 0, none⟩ = some (.slice ha xs.length hc) ∧ w2.cell? ⟨w1.heap.size, 1, none⟩ = some (.slice na ys.length nc) := ⟨L2.cell 0 rfl, L2.cell 1 rfl⟩
  obtain ⟨t0, t1, t2, t3⟩ := X2.cells4
  have lx := X2.lt
  clear hr hx hy C0 b0 b1 B1 o1 b2
  go_wp2_with fail
  clear hw2 l0 l1 t0 t1 t2 t3
  refine (unhide IM _ _ _ (O2.ri hxl hyl)).mono ?_
  rintro _ w3 ⟨um, vm, rfl, o3, b3⟩
  obtain ⟨ma, mc, rfl⟩ := o3.has.form
  obtain ⟨ka, kc, rfl⟩ := o3.next.form
  obtain ⟨w4, hw4⟩ : ∃ w4, w3.alloc (.cells #[.slice ma r.1.length mc, .slice ka r.2.1.length kc] 26) = w4 := ⟨_, rfl⟩
  have s3 := b3.size
  have b4 : Below w2.heap.size w2 w4 := hw4 ▸ b3.alloc s3 _
  have b34 : Below w3.heap.size w3 w4 := hw4 ▸ (Below.refl _ _).alloc (Nat.le_refl _) _
  have B4 := B2.trans (b4.mono B2.size)
  have M4 : Loc w4 w3.heap.size #[.slice ma r.1.length mc, .slice ka r.2.1.length kc] := hw4 ▸ loc_at w3 _ _ rfl
  have L4 := L2.below b4 L2.lt
  have X4 := X2.below b4 X2.lt
  have O4 := O2.below b4
  have Q4 := o3.below b34
  obtain ⟨l0, l1⟩ : w4.cell? ⟨w1.heap.size, 0, none⟩ = some (.slice ha xs.length hc) ∧ w4.cell? ⟨w1.heap.size, 1, none⟩ = some (.slice na ys.length nc) := ⟨L4.cell 0 rfl, L4.cell 1 rfl⟩
  obtain ⟨t0, t1, t2, t3⟩ := X4.cells4
  have lm := M4.lt
  clear IM B2 L2 X2 O2 b3 b4 b34 o3
  go_wp2_with fail
  clear hw4 l0 l1 t0 t1 t2 t3
  refine (unhide SP _ _ _ (O4.ri hxl hyl)).mono ?_
  rintro _ w5 ⟨us, vs, rfl, o5, b5⟩
  obtain ⟨sa, sc, rfl⟩ := o5.has.form
  obtain ⟨ta, tc, rfl⟩ := o5.next.form
  obtain ⟨w6, hw6⟩ : ∃ w6, w5.alloc (.cells #[.slice sa r.1.length sc, .slice ta r.2.1.length tc] 26) = w6 := ⟨_, rfl⟩
  have s5 := b5.size
  have b6 : Below w4.heap.size w4 w6 := hw6 ▸ b5.alloc s5 _
  have s6 := b6.size
  have B6 := B4.trans (b6.mono B4.size)
  have L6 := L4.below b6 L4.lt
  have X6 := X4.below b6 X4.lt
  have M6 := M4.below b6 M4.lt
  have O6 := O4.below b6
  have Q6 := Q4.below b6
  clear SP B4 L4 X4 M4 O4 Q4 b5 b6 o5
  obtain ⟨x, y, q⟩ := r
  dsimp only at PK PL Q6 M6 ⊢
  have rx : x.length ≤ 4194304 := by have := (unhide PL).1; omega
  have ry : y.length ≤ 4194304 := by have := (unhide PL).2; omega
  rcases unhide PK with e | ⟨e0, e4, ex, ey⟩ | ⟨e, ex, A, eA, hA, hd, ey⟩
  · try dsimp only at e
    subst e
    go_wp2
    clear hw6
    go_ret
    exact ⟨rfl, B6⟩
  · try dsimp only at e0 e4 ex ey
    subst ex ey
    obtain ⟨l0, l1⟩ : w6.cell? ⟨w1.heap.size, 0, none⟩ = some (.slice ha x.length hc) ∧ w6.cell? ⟨w1.heap.size, 1, none⟩ = some (.slice na y.length nc) := ⟨L6.cell 0 rfl, L6.cell 1 rfl⟩
    obtain ⟨m0, m1⟩ : w6.cell? ⟨w3.heap.size, 0, none⟩ = some (.slice ma x.length mc) ∧ w6.cell? ⟨w3.heap.size, 1, none⟩ = some (.slice ka y.length kc) := ⟨M6.cell 0 rfl, M6.cell 1 rfl⟩
    go_wp2_with fail
    clear hw6
    refine (sameLedger_yes _ _ _ _ x y _ (Q6.ri rx ry) (O6.ri rx ry)).mono ?_
    rintro _ w7 ⟨rfl, b7⟩
    go_wp2
    go_ret
    exact ⟨rfl, B6.trans (b7.mono B6.size)⟩
  · try dsimp only at e ex ey
    subst e ex ey eA
    have hy := unhide HY
    obtain ⟨kb, kc', hk⟩ := own_form (n := (ys.set A (d + 1)).length) Q6.next (by simp; omega)
    obtain ⟨rfl, rfl⟩ : ka = some ⟨kb, 0, none⟩ ∧ kc = kc' := by simpa using hk
    rw [List.length_set, hy] at Q6 M6 hw6 ⊢
    have n6 := (Q6.next.cellAt (by simp [hy]) A (by simp; omega)).1
    rw [getD_set (by omega), if_pos rfl] at n6
    have lk := cell_lt n6
    have K : Hid (∀ w', Below w6.heap.size w6 w' → (fun w' => (w'.cell? ⟨w3.heap.size, 0, none⟩ = some (.slice ma x.length mc) ∧ w'.cell? ⟨w3.heap.size, 1, none⟩ = some (.slice (some ⟨kb, 0, none⟩) 4 kc)) ∧ (w'.cell? ⟨w1.heap.size, 0, none⟩ = some (.slice ha x.length hc) ∧ w'.cell? ⟨kb, A, none⟩ = some (.int .i64 (d + 1))) ∧ (w'.cell? ⟨w1.heap.size + 1, 0, none⟩ = some (.int .i64 (A : Int)) ∧ w'.cell? ⟨w1.heap.size + 1, 3, none⟩ = some (.int .i64 d))) w') := hide fun w' hb' => by
      have l := L6.below hb' L6.lt
      have m := M6.below hb' M6.lt
      have t := X6.below hb' X6.lt
      exact ⟨⟨m.cell 0 rfl, m.cell 1 rfl⟩, ⟨l.cell 0 rfl, (hb'.cell (p := ⟨kb, A, none⟩) lk).trans n6⟩, ⟨t.cell 0 rfl, t.cell 3 rfl⟩⟩
    have RX := hide (Q6.has.ri rx)
    have RY := hide (O6.has.ri rx)
    have hAi : (A : Int) < 4 := by omega
    obtain ⟨hd0, hd1⟩ := hd
    clear hk n6 PK PL HY L6 M6 X6 Q6 O6
    go_wp2_with fail
    clear hw6
    refine wp_region_noPanic ?_
    refine wp_region_held_drew (S := (fun w' => (w'.cell? ⟨w3.heap.size, 0, none⟩ = some (.slice ma x.length mc) ∧ w'.cell? ⟨w3.heap.size, 1, none⟩ = some (.slice (some ⟨kb, 0, none⟩) 4 kc)) ∧ (w'.cell? ⟨w1.heap.size, 0, none⟩ = some (.slice ha x.length hc) ∧ w'.cell? ⟨kb, A, none⟩ = some (.int .i64 (d + 1))) ∧ (w'.cell? ⟨w1.heap.size + 1, 0, none⟩ = some (.int .i64 (A : Int)) ∧ w'.cell? ⟨w1.heap.size + 1, 3, none⟩ = some (.int .i64 d)))) (by kernel_rfl) (unhide K _ (Below.drew (Below.refl _ _))) (fun hHeld => ?_)
    refine take_at (i := 0) (d := 40) (v := ?_) rfl rfl (by kernel_rfl) (by kernel_rfl) (by kernel_rfl) (fun _ _ _ h => h) (Or.inl ⟨by rfl, ?_⟩) (by assumption) ?_
    rotate_left
    · intro w hSw
      try dsimp only at hSw
      go_simp
      try with_reducible rfl
    simp only [Act.put, List.setIfInBounds_toArray, List.set_cons_zero, List.set_cons_succ]
    refine take_at (i := 1) (d := 41) (v := ?_) rfl rfl (by kernel_rfl) (by kernel_rfl) (by kernel_rfl) (fun _ _ _ h => h) (Or.inl ⟨by rfl, ?_⟩) (by assumption) ?_
    rotate_left
    · intro w hSw
      try dsimp only at hSw
      go_simp
      try with_reducible rfl
    simp only [Act.put, List.setIfInBounds_toArray, List.set_cons_zero, List.set_cons_succ]
    refine take_at (i := 2) (d := 42) (v := ?_) rfl rfl (by kernel_rfl) (by kernel_rfl) (by kernel_rfl) (fun _ _ _ h => h) (Or.inl ⟨by rfl, ?_⟩) (by assumption) ?_
    rotate_left
    · intro w hSw
      try dsimp only at hSw
      go_simp
      try with_reducible rfl
    simp only [Act.put, List.setIfInBounds_toArray, List.set_cons_zero, List.set_cons_succ]
    refine take_at (i := 3) (d := 43) (v := ?_) rfl rfl (by kernel_rfl) (by kernel_rfl) (by kernel_rfl) (fun _ _ _ h => h) (Or.inl ⟨by rfl, ?_⟩) (by assumption) ?_
    rotate_left
    · intro w hSw
      try dsimp only at hSw
      go_simp
      try with_reducible rfl
    simp only [Act.put, List.setIfInBounds_toArray, List.set_cons_zero, List.set_cons_succ]
    refine ready_at (i := 4) rfl (by kernel_rfl) (fun KK hKK => ?_)
    go_simp
    refine (sameInts_yes _ _ x _ ((unhide RX).below (Below.drew (Below.refl _ _)) (Nat.le_refl _)) ((unhide RY).below (Below.drew (Below.refl _ _)) (Nat.le_refl _))).mono ?_
    rintro _ w7 ⟨rfl, m7, e7⟩
    have b7 : Below w6.heap.size w6 w7 := e7 ▸ below_drewN' (Below.drew (Below.refl _ _)) _
    clear e7 hHeld
    refine hKK.out _ _ (unhide K _ b7) (fun hHeld => ?_)
    clear hKK KK
    refine take_at (i := 5) (d := 45) (v := ?_) rfl rfl (by kernel_rfl) (by kernel_rfl) (by kernel_rfl) (fun _ _ _ h => h) (Or.inl ⟨by rfl, ?_⟩) (by assumption) ?_
    rotate_left
    · intro w hSw
      try dsimp only at hSw
      go_simp
      try with_reducible rfl
    simp only [Act.put, List.setIfInBounds_toArray, List.set_cons_zero, List.set_cons_succ]
    refine take_at (i := 6) (d := 46) (v := ?_) rfl rfl (by kernel_rfl) (by kernel_rfl) (by kernel_rfl) (fun _ _ _ h => h) (Or.inl ⟨by rfl, ?_⟩) (by assumption) ?_
    rotate_left
    · intro w hSw
      try dsimp only at hSw
      go_simp
      try with_reducible rfl
    simp only [Act.put, List.setIfInBounds_toArray, List.set_cons_zero, List.set_cons_succ]
    refine take_at (i := 7) (d := 47) (v := ?_) rfl rfl (by kernel_rfl) (by kernel_rfl) (by kernel_rfl) (fun _ _ _ h => h) (Or.inl ⟨by rfl, ?_⟩) (by assumption) ?_
    rotate_left
    · intro w hSw
      try dsimp only at hSw
      go_simp
      try with_reducible rfl
    simp only [Act.put, List.setIfInBounds_toArray, List.set_cons_zero, List.set_cons_succ]
    refine take_at (i := 8) (d := 48) (v := ?_) rfl rfl (by kernel_rfl) (by kernel_rfl) (by kernel_rfl) (fun _ _ _ h => h) (Or.inl ⟨by rfl, ?_⟩) (by assumption) ?_
    rotate_left
    · intro w hSw
      try dsimp only at hSw
      go_simp
      try with_reducible rfl
    simp only [Act.put, List.setIfInBounds_toArray, List.set_cons_zero, List.set_cons_succ]
    refine take_at (i := 9) (d := 49) (v := ?_) rfl rfl (by kernel_rfl) (by kernel_rfl) (by kernel_rfl) (fun _ _ _ h => h) (Or.inl ⟨by rfl, ?_⟩) (by assumption) ?_
    rotate_left
    · intro w hSw
      try dsimp only at hSw
      go_simp
      try with_reducible rfl
    simp only [Act.put, List.setIfInBounds_toArray, List.set_cons_zero, List.set_cons_succ]
    refine take_at (i := 10) (d := 50) (v := ?_) rfl rfl (by kernel_rfl) (by kernel_rfl) (by kernel_rfl) (fun _ _ _ h => h) (Or.inl ⟨by rfl, ?_⟩) (by assumption) ?_
    rotate_left
    · intro w hSw
      try dsimp only at hSw
      go_simp
      try with_reducible rfl
    simp only [Act.put, List.setIfInBounds_toArray, List.set_cons_zero, List.set_cons_succ]
    refine take_at (i := 11) (d := 51) (v := ?_) rfl rfl (by kernel_rfl) (by kernel_rfl) (by kernel_rfl) (fun _ _ _ h => h) (Or.inl ⟨by rfl, ?_⟩) (by assumption) ?_
    rotate_left
    · intro w hSw
      try dsimp only at hSw
      go_simp
      try with_reducible rfl
    simp only [Act.put, List.setIfInBounds_toArray, List.set_cons_zero, List.set_cons_succ]
    refine take_at (i := 12) (d := 52) (v := ?_) rfl rfl (by kernel_rfl) (by kernel_rfl) (by kernel_rfl) (fun _ _ _ h => h) (Or.inl ⟨by rfl, ?_⟩) (by assumption) ?_
    rotate_left
    · intro w hSw
      try dsimp only at hSw
      go_simp
      try with_reducible rfl
    simp only [Act.put, List.setIfInBounds_toArray, List.set_cons_zero, List.set_cons_succ]
    refine take_at (i := 13) (d := 53) (v := ?_) rfl rfl (by kernel_rfl) (by kernel_rfl) (by kernel_rfl) (fun _ _ _ h => h) (Or.inl ⟨by rfl, ?_⟩) (by assumption) ?_
    rotate_left
    · intro w hSw
      try dsimp only at hSw
      go_simp
      try with_reducible rfl
    simp only [Act.put, List.setIfInBounds_toArray, List.set_cons_zero, List.set_cons_succ]
    refine take_at (i := 14) (d := 54) (v := ?_) rfl rfl (by kernel_rfl) (by kernel_rfl) (by kernel_rfl) (fun _ _ _ h => h) (Or.inl ⟨by rfl, ?_⟩) (by assumption) ?_
    rotate_left
    · intro w hSw
      try dsimp only at hSw
      go_simp
      try with_reducible rfl
    simp only [Act.put, List.setIfInBounds_toArray, List.set_cons_zero, List.set_cons_succ]
    refine take_at (i := 15) (d := 55) (v := ?_) rfl rfl (by kernel_rfl) (by kernel_rfl) (by kernel_rfl) (fun _ _ _ h => h) (Or.inl ⟨by rfl, ?_⟩) (by assumption) ?_
    rotate_left
    · intro w hSw
      try dsimp only at hSw
      go_simp
      try with_reducible rfl
    simp only [Act.put, List.setIfInBounds_toArray, List.set_cons_zero, List.set_cons_succ]
    refine take_at (i := 16) (d := 56) (v := ?_) rfl rfl (by kernel_rfl) (by kernel_rfl) (by kernel_rfl) (fun _ _ _ h => h) (Or.inl ⟨by rfl, ?_⟩) (by assumption) ?_
    rotate_left
    · intro w hSw
      try dsimp only at hSw
      go_simp
      try with_reducible rfl
    simp only [Act.put, List.setIfInBounds_toArray, List.set_cons_zero, List.set_cons_succ]
    refine take_at (i := 17) (d := 2) (v := ?_) rfl rfl (by kernel_rfl) (by kernel_rfl) (by kernel_rfl) (fun _ _ _ h => h) (Or.inl ⟨by rfl, ?_⟩) (by assumption) ?_
    rotate_left
    · intro w hSw
      try dsimp only at hSw
      go_simp
      try with_reducible rfl
    simp only [Act.put, List.setIfInBounds_toArray, List.set_cons_zero, List.set_cons_succ]
    refine wpAnyH_done (by kernel_rfl) ?_ _
    refine NoPanic.normal ?_
    go_wp2
    go_ret
    refine ⟨?_, B6.trans (b7.mono B6.size)⟩
    simp
    rw [IntKind.wrap_i64]
    omega

theorem fnPoor_walk (ao : Option Addr) (ca : Nat) (zs : List Int) (w : World) (hn : zs.length ≤ maxLen) (hx : zs = [] ∨ ∃ b off, ao = some ⟨b, off, none⟩ ∧ ∀ k, k < zs.length → w.cell? ⟨b, off + k, none⟩ = some (.int .u8 (zs.getD k 0))) (hf : ∀ k, k < zs.length → 0 ≤ zs.getD k 0 ∧ zs.getD k 0 ≤ 255) :
    Calls Try.prog 4 #[.slice ao zs.length ca] w fun e w' => e = .returned (.bool true) ∧ Below w.heap.size w w' := by
  unfold maxLen at hn
  by_cases h : zs.length ≤ 1048576
  · exact fnPoor_small ao ca zs w ⟨h, hx, hf⟩
  · exact fnPoor_big ao zs.length ca w (by omega) (by omega)
end Go.Proofs.Ytlglekfmiacdnaa
