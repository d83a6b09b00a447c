/- The walk of laws.FnMoves. -/
import Derived.Test.YtlglekfmiacdnaaPoorWalk
import Derived.BigQuiet
namespace Go.Proofs.Ytlglekfmiacdnaa
open Go.RowKit
set_option linter.unusedSectionVars false
variable [∀ (a b c d : Int), Decidable (Ok4 a b c d)]
variable [∀ (m a b c d : Int), Decidable (In4 m a b c d)]
variable [∀ (xs ys : List Int), Decidable (LOk xs ys)]

/-- What a payment that is paid leaves. -/
theorem payAns_done (xs ys : List Int) (a b c d : Int) :
    (payAns xs ys a b c d).2.2 ≠ 0 ∨ ((payAns xs ys a b c d).2.2 = 0 ∧ ∃ A B : Nat, a = A ∧ b = B ∧ A < 4 ∧ B < 4 ∧ (0 ≤ c ∧ c ≤ 1000) ∧ LOk xs ys ∧
      (∀ k, k < 4 → (payAns xs ys a b c d).1.getD k 0 = xs.getD k 0 + ((if k = A then -c else 0) + (if k = B then c else 0))) ∧ (∀ k, k < 4 → k ≠ A → (payAns xs ys a b c d).2.1.getD k 0 = ys.getD k 0)) := by
  unfold payAns
  split
  · rename_i hl
    unfold paidB
    split
    · exact .inl (by simp)
    · rename_i ho
      simp only [Decidable.not_not] at ho
      unfold Ok4 at ho
      split
      · exact .inl (by simp)
      · split
        · exact .inl (by simp)
        · split
          · exact .inl (by simp)
          · split
            · have hx := hl.1
              have hy := hl.2.1
              refine .inr ⟨rfl, a.toNat, b.toNat, by omega, by omega, by omega, by omega, by omega, hl, fun k hk => ?_, fun k hk hka => ?_⟩
              · dsimp only
                rw [getD_set (by simp; omega), getD_set (by omega), getD_set (by omega)]
                by_cases h1 : a.toNat = k
                · by_cases h2 : b.toNat = k
                  · have h3 : a.toNat = b.toNat := by omega
                    rw [if_pos h2, if_pos h3, if_pos h1.symm, if_pos h2.symm, h1]; omega
                  · rw [if_neg h2, if_pos h1, if_pos h1.symm, if_neg (fun e => h2 e.symm), h1]; omega
                · by_cases h2 : b.toNat = k
                  · have h3 : ¬ a.toNat = b.toNat := by omega
                    rw [if_pos h2, if_neg h3, if_neg (fun e => h1 e.symm), if_pos h2.symm, h2]; omega
                  · rw [if_neg h2, if_neg h1, if_neg (fun e => h1 e.symm), if_neg (fun e => h2 e.symm)]; omega
              · dsimp only
                rw [getD_set (by omega), if_neg (fun e => hka e.symm)]
            · exact .inl (by simp)
  · exact .inl (by simp)

set_option maxHeartbeats 800000 in
set_option maxRecDepth 100000 in
theorem fnMoves_big (ao : Option Addr) (n ca : Nat) (w : World) (h : 1048576 < n) (hn : n ≤ 9223372036854775807) :
    Calls Try.prog 5 #[.slice ao n ca] w fun e w' => e = .returned (.bool true) ∧ Below w.heap.size w w' := by
  have BG := hide fun w => big_any ao n ca w hn
  rw [decide_eq_true h] at BG
  go_enter Try.func5, Try.ntmps5
  go_wp2_with fail
  refine (unhide BG _).mono ?_
  rintro e w1 ⟨rfl, b1⟩
  go_wp2
  go_ret
  exact ⟨rfl, b1⟩

set_option maxHeartbeats 16000000 in
set_option maxRecDepth 100000 in
theorem fnMoves_small (ao : Option Addr) (ca : Nat) (zs : List Int) (w : World) (h : Code w ao zs) :
    Calls Try.prog 5 #[.slice ao zs.length ca] w fun e w' => e = .returned (.bool true) ∧ Below w.heap.size w w' := by
  have hn := h.1
  have BG := hide fun w => big_any ao zs.length ca w (by omega)
  rw [decide_eq_false (by omega : ¬ 1048576 < zs.length)] at BG
  go_enter Try.func5, Try.ntmps5
  go_wp2_with fail
  refine (unhide BG _).mono ?_
  rintro e w0 ⟨rfl, b0⟩
  have C0 := h.below b0
  clear BG h hn
  go_wp2_with fail
  refine (drawPay ao ca zs _ C0).mono ?_
  rintro _ w1 ⟨u, v, xs, ys, a, b, c, d, rfl, hx, hy, o1, b1⟩
  have s0 := b0.size
  have s1 := b1.size
  have B1 := b0.trans (b1.mono s0)
  obtain ⟨ha, hc, rfl⟩ := o1.has.form
  obtain ⟨na, nc, rfl⟩ := o1.next.form
  obtain ⟨w2, hw2⟩ : ∃ w2, (w1.alloc (.cells #[.slice ha xs.length hc, .slice na ys.length nc] 26)).alloc (.cells (r4 a b c d) 33) = w2 := ⟨_, rfl⟩
  have b2 : Below w1.heap.size w1 w2 := hw2 ▸ ((Below.refl _ _).alloc (Nat.le_refl _) _).alloc (by simp) _
  have B2 := B1.trans (b2.mono B1.size)
  have L2 : Loc w2 w1.heap.size #[.slice ha xs.length hc, .slice na ys.length nc] := hw2 ▸ (loc_at w1 _ _ rfl).alloc _
  have X2 : Loc w2 (w1.heap.size + 1) (r4 a b c d) := hw2 ▸ loc_at _ _ _ (by simp)
  have O2 := o1.below b2
  have hxl : xs.length ≤ 4194304 := by omega
  have hyl : ys.length ≤ 4194304 := by omega
  have PK := hide (payAns_done xs ys a b c d)
  have PL := hide (payAns_len (xs := xs) (ys := ys) (a := a) (b := b) (c := c) (d := d))
  have IM := hide fun u v w h => implPay u v a b c d xs ys w h
  have SP := hide fun u v w h => specPay u v a b c d xs ys w h
  obtain ⟨r, hr⟩ : ∃ r, payAns xs ys a b c d = r := ⟨_, rfl⟩
  rw [hr] at PK PL IM SP
  have HY := hide hy
  obtain ⟨l0, l1⟩ : w2.cell? ⟨w1.heap.size, 0, none⟩ = some (.slice ha xs.length hc) ∧ w2.cell? ⟨w1.heap.size, 1, none⟩ = some (.slice na ys.length nc) := ⟨L2.cell 0 rfl, L2.cell 1 rfl⟩
  obtain ⟨t0, t1, t2, t3⟩ := X2.cells4
  have lx := X2.lt
  clear hr hx hy C0 b0 b1 B1 o1 b2
  go_wp2_with fail
  clear hw2 l0 l1 t0 t1 t2 t3
  refine (unhide IM _ _ _ (O2.ri hxl hyl)).mono ?_
  rintro _ w3 ⟨um, vm, rfl, o3, b3⟩
  obtain ⟨ma, mc, rfl⟩ := o3.has.form
  obtain ⟨ka, kc, rfl⟩ := o3.next.form
  obtain ⟨w4, hw4⟩ : ∃ w4, w3.alloc (.cells #[.slice ma r.1.length mc, .slice ka r.2.1.length kc] 26) = w4 := ⟨_, rfl⟩
  have s3 := b3.size
  have b4 : Below w2.heap.size w2 w4 := hw4 ▸ b3.alloc s3 _
  have b34 : Below w3.heap.size w3 w4 := hw4 ▸ (Below.refl _ _).alloc (Nat.le_refl _) _
  have B4 := B2.trans (b4.mono B2.size)
  have M4 : Loc w4 w3.heap.size #[.slice ma r.1.length mc, .slice ka r.2.1.length kc] := hw4 ▸ loc_at w3 _ _ rfl
  have L4 := L2.below b4 L2.lt
  have X4 := X2.below b4 X2.lt
  have O4 := O2.below b4
  have Q4 := o3.below b34
  obtain ⟨l0, l1⟩ : w4.cell? ⟨w1.heap.size, 0, none⟩ = some (.slice ha xs.length hc) ∧ w4.cell? ⟨w1.heap.size, 1, none⟩ = some (.slice na ys.length nc) := ⟨L4.cell 0 rfl, L4.cell 1 rfl⟩
  obtain ⟨t0, t1, t2, t3⟩ := X4.cells4
  have lm := M4.lt
  clear IM B2 L2 X2 O2 b3 b4 b34 o3
  go_wp2_with fail
  clear hw4 l0 l1 t0 t1 t2 t3
  refine (unhide SP _ _ _ (O4.ri hxl hyl)).mono ?_
  rintro _ w5 ⟨us, vs, rfl, o5, b5⟩
  obtain ⟨sa, sc, rfl⟩ := o5.has.form
  obtain ⟨ta, tc, rfl⟩ := o5.next.form
  obtain ⟨w6, hw6⟩ : ∃ w6, w5.alloc (.cells #[.slice sa r.1.length sc, .slice ta r.2.1.length tc] 26) = w6 := ⟨_, rfl⟩
  have s5 := b5.size
  have b6 : Below w4.heap.size w4 w6 := hw6 ▸ b5.alloc s5 _
  have s6 := b6.size
  have B6 := B4.trans (b6.mono B4.size)
  have L6 := L4.below b6 L4.lt
  have X6 := X4.below b6 X4.lt
  have M6 := M4.below b6 M4.lt
  have O6 := O4.below b6
  have Q6 := Q4.below b6
  clear SP B4 L4 X4 M4 O4 Q4 b5 b6 o5
  obtain ⟨x, y, q⟩ := r
  dsimp only at PK PL Q6 M6 ⊢
  have rx : x.length ≤ 4194304 := by have := (unhide PL).1; omega
  have ry : y.length ≤ 4194304 := by have := (unhide PL).2; omega
  rcases unhide PK with e | ⟨e, A, B, eA, eB, hA, hBt, ⟨hc0, hc1⟩, hl, hm, hn⟩
  · try dsimp only at e
    go_wp2
    clear hw6
    go_ret
    exact ⟨rfl, B6⟩
  · try dsimp only at e hm hn
    subst e eA eB
    have hx := hl.1
    have hy := hl.2.1
    have hX : x.length = 4 := (unhide PL).1.trans hx
    have hY : y.length = 4 := (unhide PL).2.trans hy
    obtain ⟨kb, kc', hk⟩ := own_form (n := y.length) Q6.next (by omega)
    obtain ⟨rfl, rfl⟩ : ka = some ⟨kb, 0, none⟩ ∧ kc = kc' := by simpa using hk
    obtain ⟨mb, mc', hk'⟩ := own_form (n := x.length) Q6.has (by omega)
    obtain ⟨rfl, rfl⟩ : ma = some ⟨mb, 0, none⟩ ∧ mc = mc' := by simpa using hk'
    obtain ⟨nb, nc', hk''⟩ := own_form (n := ys.length) O6.next (by omega)
    obtain ⟨rfl, rfl⟩ : na = some ⟨nb, 0, none⟩ ∧ nc = nc' := by simpa using hk''
    obtain ⟨hb, hc', hk4⟩ := own_form (n := xs.length) O6.has (by omega)
    obtain ⟨rfl, rfl⟩ : ha = some ⟨hb, 0, none⟩ ∧ hc = hc' := by simpa using hk4
    rw [hX, hY] at Q6 M6 hw6 ⊢
    rw [hx, hy] at O6 L6 ⊢
    have CX : Hid (∀ k, k < 4 → w6.cell? ⟨hb, k, none⟩ = some (.int .i64 (xs.getD k 0))) := hide fun k hk => (O6.has.cellAt hx.symm k (by omega)).1
    have CY : Hid (∀ k, k < 4 → w6.cell? ⟨nb, k, none⟩ = some (.int .i64 (ys.getD k 0))) := hide fun k hk => (O6.next.cellAt hy.symm k (by omega)).1
    have CM : Hid (∀ k, k < 4 → w6.cell? ⟨mb, k, none⟩ = some (.int .i64 (x.getD k 0))) := hide fun k hk => (Q6.has.cellAt hX.symm k (by omega)).1
    have CN : Hid (∀ k, k < 4 → w6.cell? ⟨kb, k, none⟩ = some (.int .i64 (y.getD k 0))) := hide fun k hk => (Q6.next.cellAt hY.symm k (by omega)).1
    have HL := hide hl.2.2
    have HM := hide hm
    have HN := hide hn
    obtain ⟨l0, l1⟩ : w6.cell? ⟨w1.heap.size, 0, none⟩ = some (.slice (some ⟨hb, 0, none⟩) 4 hc) ∧ w6.cell? ⟨w1.heap.size, 1, none⟩ = some (.slice (some ⟨nb, 0, none⟩) 4 nc) := ⟨L6.cell 0 rfl, L6.cell 1 rfl⟩
    obtain ⟨m0, m1⟩ : w6.cell? ⟨w3.heap.size, 0, none⟩ = some (.slice (some ⟨mb, 0, none⟩) 4 mc) ∧ w6.cell? ⟨w3.heap.size, 1, none⟩ = some (.slice (some ⟨kb, 0, none⟩) 4 kc) := ⟨M6.cell 0 rfl, M6.cell 1 rfl⟩
    obtain ⟨t0, t1, t2, t3⟩ := X6.cells4
    have BB := hide B6
    clear hk hk' hk'' hk4 PK PL HY L6 M6 X6 Q6 O6 hl hm hn hx hy hX hY rx ry hxl hyl B6
    go_wp2_with fail
    clear hw6
    go_loopw [9] (fun i wr => ∃ k : Nat, k ≤ 4 ∧ i = .int .i64 k ∧ ∃ m, wr = w6.drewN m) (fun i _ => 4 - (intOf i).toNat)
    case atStart => exact ⟨0, by omega, rfl, 0, rfl⟩
    case round =>
      obtain ⟨k, hk, rfl, m, rfl⟩ := hrel
      by_cases hlt : k < 4
      · have ki : (k : Int) < 4 := by omega
        have cx := unhide CX k hlt
        have cy := unhide CY k hlt
        have cm := unhide CM k hlt
        have cn := unhide CN k hlt
        have bx := (unhide HL k hlt).1
        have em := unhide HM k hlt
        have en := unhide HN k hlt
        generalize xs.getD k 0 = xk at *
        generalize ys.getD k 0 = yk at *
        generalize x.getD k 0 = mk at *
        generalize y.getD k 0 = nk at *
        obtain ⟨bx0, bx1⟩ := bx
        have q1 : IntKind.i64.wrap (0 - c) = -c := by rw [IntKind.wrap_i64]; omega
        have q2 : IntKind.i64.wrap (-c) = -c := by rw [IntKind.wrap_i64]; omega
        have q3 : IntKind.i64.wrap (0 + c) = c := by rw [IntKind.wrap_i64]; omega
        have q4 : IntKind.i64.wrap c = c := by rw [IntKind.wrap_i64]; omega
        have q5 : IntKind.i64.wrap xk = xk := by rw [IntKind.wrap_i64]; omega
        by_cases ka : k = A
        · by_cases kb' : k = B
          · rw [if_pos ka, if_pos kb'] at em
            replace em : mk = xk := by omega
            have q6 : IntKind.i64.wrap (-c + c) = 0 := by rw [IntKind.wrap_i64]; omega
            subst em ka kb'
            clear en
            go_wp2_with fail
            go_quiet (fail)
            go_wp2
            go_roundw
            case rel => exact ⟨k + 1, by omega, by go_num, _, rfl⟩
            case measure => simp [intOf]; omega
          · rw [if_pos ka, if_neg kb'] at em
            have q6 : IntKind.i64.wrap (xk + -c) = mk := by rw [IntKind.wrap_i64]; omega
            have q7 : IntKind.i64.wrap (xk - c) = mk := by rw [IntKind.wrap_i64]; omega
            have nB : ¬ (k : Int) = (B : Int) := by omega
            subst ka
            clear en em
            go_wp2_with fail
            go_quiet (fail)
            go_wp2
            go_roundw
            case rel => exact ⟨k + 1, by omega, by go_num, _, rfl⟩
            case measure => simp [intOf]; omega
        · have en := en ka
          have nA : ¬ (k : Int) = (A : Int) := by omega
          subst en
          by_cases kb' : k = B
          · rw [if_neg ka, if_pos kb'] at em
            have q6 : IntKind.i64.wrap (xk + c) = mk := by rw [IntKind.wrap_i64]; omega
            subst kb'
            clear em
            go_wp2_with fail
            go_quiet (fail)
            go_wp2
            go_roundw
            case rel => exact ⟨k + 1, by omega, by go_num, _, rfl⟩
            case measure => simp [intOf]; omega
          · rw [if_neg ka, if_neg kb'] at em
            replace em : mk = xk := by omega
            have nB : ¬ (k : Int) = (B : Int) := by omega
            subst em
            go_wp2_with fail
            go_quiet (fail)
            go_wp2
            go_roundw
            case rel => exact ⟨k + 1, by omega, by go_num, _, rfl⟩
            case measure => simp [intOf]; omega
      · go_wp2
        go_ret
        exact ⟨rfl, below_drewN' (unhide BB) _⟩

theorem fnMoves_walk (ao : Option Addr) (ca : Nat) (zs : List Int) (w : World) (hn : zs.length ≤ maxLen) (hx : zs = [] ∨ ∃ b off, ao = some ⟨b, off, none⟩ ∧ ∀ k, k < zs.length → w.cell? ⟨b, off + k, none⟩ = some (.int .u8 (zs.getD k 0))) (hf : ∀ k, k < zs.length → 0 ≤ zs.getD k 0 ∧ zs.getD k 0 ≤ 255) :
    Calls Try.prog 5 #[.slice ao zs.length ca] w fun e w' => e = .returned (.bool true) ∧ Below w.heap.size w w' := by
  unfold maxLen at hn
  by_cases h : zs.length ≤ 1048576
  · exact fnMoves_small ao ca zs w ⟨h, hx, hf⟩
  · exact fnMoves_big ao zs.length ca w (by omega) (by omega)
end Go.Proofs.Ytlglekfmiacdnaa
