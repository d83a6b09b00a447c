/- spec.Pay: of every ledger and every payment. -/
import Derived.Test.YtlglekfmiacdnaaSpecPayOver
namespace Go.Proofs.Ytlglekfmiacdnaa
open Go.RowKit
set_option linter.unusedSectionVars false
variable [∀ (m a b c d : Int), Decidable (In4 m a b c d)]
variable [∀ (xs ys : List Int), Decidable (LOk xs ys)]
variable [∀ (a b c d : Int), Decidable (Ok4 a b c d)]

set_option maxHeartbeats 8000000 in
set_option maxRecDepth 100000 in
theorem specPay_bad1 (u v : Value) (a b c d : Int) (xs ys : List Int) (w : World) (hu : RI w u xs ∧ RI w v ys) (hl : ¬ LOk xs ys) :
    Calls Try.prog 17 #[lv u v, txv a b c d] w (PayEnd w (xs, ys, 1)) := by
  have RU := hide hu
  have LC := hide fun w h => l3Copy_any u v xs ys w h
  have LO := hide fun w h => specLedgerOk u v xs ys w h
  rw [decide_eq_false hl] at LO
  obtain ⟨ua, uc, rfl⟩ : ∃ ua uc, u = .slice ua xs.length uc := by obtain ⟨_, ua, uc, h, _⟩ := hu.1; exact ⟨ua, uc, h⟩
  obtain ⟨va, vc, rfl⟩ : ∃ va vc, v = .slice va ys.length vc := by obtain ⟨_, va, vc, h, _⟩ := hu.2; exact ⟨va, vc, h⟩
  clear hu
  obtain ⟨w0, hw0⟩ : ∃ w0, ((w.alloc (.cells #[.slice ua xs.length uc, .slice va ys.length vc] 26)).alloc (.cells (r4 a b c d) 33)).alloc (.cells #[.slice none 0 0, .slice none 0 0] 26) = w0 := ⟨_, rfl⟩
  have B0 : Below w.heap.size w w0 := hw0 ▸ (((Below.refl w.heap.size w).alloc (Nat.le_refl _) _).alloc (by simp) _).alloc (by simp; omega) _
  have L0 : Loc w0 w.heap.size #[.slice ua xs.length uc, .slice va ys.length vc] := hw0 ▸ ((loc_at w _ _ rfl).alloc _).alloc _
  have X0 : Loc w0 (w.heap.size + 1) (r4 a b c d) := hw0 ▸ (loc_at _ _ _ (by simp)).alloc _
  have R0 : Loc w0 (w.heap.size + 1 + 1) #[.slice none 0 0, .slice none 0 0] := hw0 ▸ loc_at _ _ _ (by simp)
  have q0 := L0.cell 0 rfl
  have q1 := L0.cell 1 rfl
  have lr := R0.lt
  go_enter Try.func17, Try.ntmps17
  go_wp2_with fail
  clear hw0 q0 q1
  refine (unhide LC _ ⟨(unhide RU).1.below B0 (Nat.le_refl _), (unhide RU).2.below B0 (Nat.le_refl _)⟩).mono ?_
  rintro _ w1 ⟨uo, vo, rfl, ol, b1⟩
  have s1 := b1.size
  obtain ⟨ph, hc, rfl⟩ := ol.has.form
  obtain ⟨pk, kc, rfl⟩ := ol.next.form
  obtain ⟨w2, hw2⟩ : ∃ w2, w1.alloc (.cells #[.slice ph xs.length hc, .slice pk ys.length kc] 26) = w2 := ⟨_, rfl⟩
  have b2 : Below w0.heap.size w0 w2 := hw2 ▸ b1.alloc b1.size _
  have B2 := B0.trans (b2.mono B0.size)
  have L2 := L0.below b2 L0.lt
  have X2 := X0.below b2 X0.lt
  have R2 := R0.below b2 R0.lt
  have O2 : Loc w2 w1.heap.size #[.slice ph xs.length hc, .slice pk ys.length kc] := hw2 ▸ loc_at w1 _ _ rfl
  have ol2 : OL w2 w0.heap.size w1.heap.size (.slice ph xs.length hc) (.slice pk ys.length kc) xs ys := hw2 ▸ ol.alloc _
  have q0 := L2.cell 0 rfl
  have q1 := L2.cell 1 rfl
  clear ol b1 b2 B0 L0 X0 R0
  go_wp2_with fail
  clear hw2 q0 q1
  refine (unhide LO _ ⟨(unhide RU).1.below B2 (Nat.le_refl _), (unhide RU).2.below B2 (Nat.le_refl _)⟩).mono ?_
  rintro _ w3 ⟨rfl, b3⟩
  have B3 := B2.trans (b3.mono B2.size)
  have X3 := X2.below b3 X2.lt
  have R3 := R2.below b3 R2.lt
  have O3 := O2.below b3 O2.lt
  have ol3 := ol2.below b3
  obtain ⟨t0, t1, t2, t3⟩ := X3.cells4
  clear LO b3 B2 L2 X2 R2 O2 ol2
  have hbb : (!false) = true := rfl
  have q0 := R3.cell 0 rfl
  have q1 := R3.cell 1 rfl
  have FR := R3.frozen
  have y0 := O3.cell 0 rfl
  have y1 := O3.cell 1 rfl
  go_wp2
  refine bodyPost_ret (v := .tuple #[lv (.slice ph xs.length hc) (.slice pk ys.length kc), .int .i64 1]) (by simp [results, Try.results17, go_sem, q0, q1]) rfl ?_
  have K7 : Kp w3 ((w3.setCell ⟨w.heap.size + 1 + 1, 0, none⟩ (.slice ph xs.length hc)).setCell ⟨w.heap.size + 1 + 1, 1, none⟩ (.slice pk ys.length kc)) (fun k => k = w.heap.size + 1 + 1) := (set_kp w3 _ 0 _).trans (set_kp _ _ 1 _)
  have sl := O3.lt
  refine ⟨_, _, rfl, (ol3.kp K7 (fun k h1 h2 e => by omega)).mono (by omega) (by simp; omega), ?_⟩
  exact Below.set (Below.set B3 _ _ (by omega)) _ _ (by omega)

set_option maxHeartbeats 8000000 in
set_option maxRecDepth 100000 in
theorem specPay_bad2 (u v : Value) (a b c d : Int) (xs ys : List Int) (w : World) (hu : RI w u xs ∧ RI w v ys) (hl : LOk xs ys) (ho : ¬ Ok4 a b c d) :
    Calls Try.prog 17 #[lv u v, txv a b c d] w (PayEnd w (xs, ys, 1)) := by
  have TO := hide fun w => specTxOk_no a b c d w ho
  have RU := hide hu
  have LC := hide fun w h => l3Copy_any u v xs ys w h
  have LO := hide fun w h => specLedgerOk u v xs ys w h
  rw [decide_eq_true hl] at LO
  obtain ⟨ua, uc, rfl⟩ : ∃ ua uc, u = .slice ua xs.length uc := by obtain ⟨_, ua, uc, h, _⟩ := hu.1; exact ⟨ua, uc, h⟩
  obtain ⟨va, vc, rfl⟩ : ∃ va vc, v = .slice va ys.length vc := by obtain ⟨_, va, vc, h, _⟩ := hu.2; exact ⟨va, vc, h⟩
  clear hu
  obtain ⟨w0, hw0⟩ : ∃ w0, ((w.alloc (.cells #[.slice ua xs.length uc, .slice va ys.length vc] 26)).alloc (.cells (r4 a b c d) 33)).alloc (.cells #[.slice none 0 0, .slice none 0 0] 26) = w0 := ⟨_, rfl⟩
  have B0 : Below w.heap.size w w0 := hw0 ▸ (((Below.refl w.heap.size w).alloc (Nat.le_refl _) _).alloc (by simp) _).alloc (by simp; omega) _
  have L0 : Loc w0 w.heap.size #[.slice ua xs.length uc, .slice va ys.length vc] := hw0 ▸ ((loc_at w _ _ rfl).alloc _).alloc _
  have X0 : Loc w0 (w.heap.size + 1) (r4 a b c d) := hw0 ▸ (loc_at _ _ _ (by simp)).alloc _
  have R0 : Loc w0 (w.heap.size + 1 + 1) #[.slice none 0 0, .slice none 0 0] := hw0 ▸ loc_at _ _ _ (by simp)
  have q0 := L0.cell 0 rfl
  have q1 := L0.cell 1 rfl
  have lr := R0.lt
  go_enter Try.func17, Try.ntmps17
  go_wp2_with fail
  clear hw0 q0 q1
  refine (unhide LC _ ⟨(unhide RU).1.below B0 (Nat.le_refl _), (unhide RU).2.below B0 (Nat.le_refl _)⟩).mono ?_
  rintro _ w1 ⟨uo, vo, rfl, ol, b1⟩
  have s1 := b1.size
  obtain ⟨ph, hc, rfl⟩ := ol.has.form
  obtain ⟨pk, kc, rfl⟩ := ol.next.form
  obtain ⟨w2, hw2⟩ : ∃ w2, w1.alloc (.cells #[.slice ph xs.length hc, .slice pk ys.length kc] 26) = w2 := ⟨_, rfl⟩
  have b2 : Below w0.heap.size w0 w2 := hw2 ▸ b1.alloc b1.size _
  have B2 := B0.trans (b2.mono B0.size)
  have L2 := L0.below b2 L0.lt
  have X2 := X0.below b2 X0.lt
  have R2 := R0.below b2 R0.lt
  have O2 : Loc w2 w1.heap.size #[.slice ph xs.length hc, .slice pk ys.length kc] := hw2 ▸ loc_at w1 _ _ rfl
  have ol2 : OL w2 w0.heap.size w1.heap.size (.slice ph xs.length hc) (.slice pk ys.length kc) xs ys := hw2 ▸ ol.alloc _
  have q0 := L2.cell 0 rfl
  have q1 := L2.cell 1 rfl
  clear ol b1 b2 B0 L0 X0 R0
  go_wp2_with fail
  clear hw2 q0 q1
  refine (unhide LO _ ⟨(unhide RU).1.below B2 (Nat.le_refl _), (unhide RU).2.below B2 (Nat.le_refl _)⟩).mono ?_
  rintro _ w3 ⟨rfl, b3⟩
  have B3 := B2.trans (b3.mono B2.size)
  have X3 := X2.below b3 X2.lt
  have R3 := R2.below b3 R2.lt
  have O3 := O2.below b3 O2.lt
  have ol3 := ol2.below b3
  obtain ⟨t0, t1, t2, t3⟩ := X3.cells4
  clear LO b3 B2 L2 X2 R2 O2 ol2
  go_wp2_with fail
  refine (unhide TO _).mono ?_
  rintro _ w4 ⟨rfl, b4⟩
  have B4 := B3.trans (b4.mono B3.size)
  have R4 := R3.below b4 R3.lt
  have O4 := O3.below b4 O3.lt
  have ol4 := ol3.below b4
  clear t0 t1 t2 t3
  have q0 := R4.cell 0 rfl
  have q1 := R4.cell 1 rfl
  have FR := R4.frozen
  have y0 := O4.cell 0 rfl
  have y1 := O4.cell 1 rfl
  go_wp2
  refine bodyPost_ret (v := .tuple #[lv (.slice ph xs.length hc) (.slice pk ys.length kc), .int .i64 1]) (by simp [results, Try.results17, go_sem, q0, q1]) rfl ?_
  have K7 : Kp w4 ((w4.setCell ⟨w.heap.size + 1 + 1, 0, none⟩ (.slice ph xs.length hc)).setCell ⟨w.heap.size + 1 + 1, 1, none⟩ (.slice pk ys.length kc)) (fun k => k = w.heap.size + 1 + 1) := (set_kp w4 _ 0 _).trans (set_kp _ _ 1 _)
  have sl := O4.lt
  refine ⟨_, _, rfl, (ol4.kp K7 (fun k h1 h2 e => by omega)).mono (by omega) (by simp; omega), ?_⟩
  exact Below.set (Below.set B4 _ _ (by omega)) _ _ (by omega)

theorem specPay (u v : Value) (a b c d : Int) (xs ys : List Int) (w : World) (hu : RI w u xs ∧ RI w v ys) :
    Calls Try.prog 17 #[lv u v, txv a b c d] w (PayEnd w (payAns xs ys a b c d)) := by
  unfold payAns
  by_cases hl : LOk xs ys
  · rw [if_pos hl]
    have hx := hl.1
    have hy := hl.2.1
    by_cases ho : Ok4 a b c d
    · obtain ⟨A, rfl⟩ : ∃ A : Nat, a = A := ⟨a.toNat, by unfold Ok4 at ho; omega⟩
      obtain ⟨B, rfl⟩ : ∃ B : Nat, b = B := ⟨b.toNat, by unfold Ok4 at ho; omega⟩
      have hA : A < 4 := by unfold Ok4 at ho; omega
      have hB : B < 4 := by unfold Ok4 at ho; omega
      have hc : 0 ≤ c ∧ c ≤ 1000 := by unfold Ok4 at ho; omega
      unfold paidB
      rw [if_neg (by simpa using ho), Int.toNat_natCast, Int.toNat_natCast]
      by_cases h1 : d < ys.getD A 0
      · rw [if_pos h1]; exact specPay_old u v A B c d xs ys w hu hA ho hl h1
      · rw [if_neg h1]
        by_cases h2 : ys.getD A 0 < d
        · rw [if_pos h2]; exact specPay_early u v A B c d xs ys w hu hA ho hl h2
        · rw [if_neg h2]
          have hn : ys.getD A 0 = d := by omega
          by_cases h3 : xs.getD A 0 < c
          · rw [if_pos h3]; exact specPay_poor u v A B c d xs ys w hu hA ho hl hn h3
          · rw [if_neg h3]
            have hmA := (hl.2.2 A hA).1
            have hmB := (hl.2.2 B hB).1
            have hr : 0 ≤ (xs.set A (xs.getD A 0 - c)).getD B 0 ∧ (xs.set A (xs.getD A 0 - c)).getD B 0 ≤ 400 := by
              rw [getD_set (by omega)]; split <;> omega
            by_cases h4 : LOk ((xs.set A (xs.getD A 0 - c)).set B ((xs.set A (xs.getD A 0 - c)).getD B 0 + c)) (ys.set A (d + 1))
            · rw [if_pos h4]; exact specPay_done u v A B c d xs ys w hu hA ho hl _ _ _ _ hB hn rfl rfl rfl rfl (by omega) (by omega) hr (decide_eq_true h4)
            · rw [if_neg h4]; exact specPay_over u v A B c d xs ys w hu hA ho hl _ _ _ _ hB hn rfl rfl rfl rfl (by omega) (by omega) hr (decide_eq_false h4)
    · unfold paidB
      rw [if_pos (by simpa using ho)]
      exact specPay_bad2 u v a b c d xs ys w hu hl ho
  · rw [if_neg hl]
    exact specPay_bad1 u v a b c d xs ys w hu hl
end Go.Proofs.Ytlglekfmiacdnaa
