/- The two functions that PoolTake and PoolDrop hand on. -/
import Derived.Test.YthdehhenkgkkmaaImplPay
import Derived.Test.YthdehhenkgkkmaaTxRows
namespace Go.Proofs.Ythdehhenkgkkmaa
open Go.RowKit

theorem RI.kp {w w' : World} {X : Nat → Prop} {v : Value} {xs : List Int} (h : RI w v xs) (k : Kp w w' X) (hv : ∀ j, v.ownBlock = some j → ¬ X j) : RI w' v xs := by
  obtain ⟨hl, ao, cap, rfl, h⟩ := h
  refine ⟨hl, ao, cap, rfl, ?_⟩
  rcases h with h | ⟨b, off, rfl, h⟩
  · exact .inl h
  · exact .inr ⟨b, off, rfl, fun j hj => k.cell (h j hj) (hv b rfl)⟩
theorem RI.form {w : World} {v : Value} {xs : List Int} (h : RI w v xs) : ∃ ao ca, v = .slice ao xs.length ca := by obtain ⟨_, ao, ca, e, _⟩ := h; exact ⟨ao, ca, e⟩
theorem RI.lt {w : World} {v : Value} {xs : List Int} (h : RI w v xs) (hx : xs ≠ []) : ∀ j, v.ownBlock = some j → j < w.heap.size := by
  obtain ⟨hl, ao, cap, rfl, h⟩ := h
  rcases h with h | ⟨b, off, rfl, h⟩
  · exact absurd h hx
  · intro j hj
    simp [Value.ownBlock] at hj
    subst hj
    exact cell_lt (h 0 (List.length_pos_iff.2 hx))
/-- What a payment's code says: it is taken. -/
def Took (r : List Int × List Int × Int) : Prop := r.2.2 = 0 ∨ r.2.2 = 4
instance (r : List Int × List Int × Int) : Decidable (Took r) := inferInstanceAs (Decidable (_ ∨ _))

set_option maxHeartbeats 4000000 in
set_option maxRecDepth 100000 in
theorem take_fits (x : T4) (lb : Nat) (u v : Value) (xs ys : List Int) (w : World) (hL : Loc w lb #[u, v]) (hu : RI w u xs ∧ RI w v ys) :
    Calls Try.prog 38 #[txv x.1 x.2.1 x.2.2.1 x.2.2.2, .pointer (some ⟨lb, 0, none⟩)] w fun e w' => ∃ u' v', e = .returned (.bool (decide (Took (payAns xs ys x.1 x.2.1 x.2.2.1 x.2.2.2)))) ∧ Loc w' lb #[u', v'] ∧
      OL w' w.heap.size w'.heap.size u' v' (payAns xs ys x.1 x.2.1 x.2.2.1 x.2.2.2).1 (payAns xs ys x.1 x.2.1 x.2.2.1 x.2.2.2).2.1 ∧ Kp w w' (fun k => k = lb) := by
  obtain ⟨a, b, c, d⟩ := x
  dsimp only
  have PY := hide fun w h => implPay u v a b c d xs ys w h
  have RU := hide hu
  obtain ⟨ua, uc, rfl⟩ := hu.1.form
  obtain ⟨va, vc, rfl⟩ := hu.2.form
  generalize payAns xs ys a b c d = r at *
  have lL := hL.lt
  obtain ⟨w0, hw0⟩ : ∃ w0, w.alloc (.cells (r4 a b c d) 33) = w0 := ⟨_, rfl⟩
  have B0 : Below w.heap.size w w0 := hw0 ▸ (Below.refl _ _).alloc (Nat.le_refl _) _
  have L0 : Loc w0 lb #[.slice ua xs.length uc, .slice va ys.length vc] := hL.below B0 lL
  have X0 : Loc w0 w.heap.size (r4 a b c d) := hw0 ▸ loc_at w _ _ rfl
  have q0 := L0.cell 0 rfl
  have q1 := L0.cell 1 rfl
  obtain ⟨x0, x1, x2, x3⟩ := X0.cells4
  clear hu hL
  go_enter Try.func38, Try.ntmps38
  go_wp2_with fail
  clear hw0 q0 q1 x0 x1 x2 x3
  refine (unhide PY _ ⟨(unhide RU).1.below B0 (Nat.le_refl _), (unhide RU).2.below B0 (Nat.le_refl _)⟩).mono ?_
  rintro _ w1 ⟨up, vp, rfl, ol, b1⟩
  have s0 := B0.size
  have s1 := b1.size
  have L1 := L0.below b1 (Nat.lt_of_lt_of_le lL s0)
  have B1 := B0.trans (b1.mono s0)
  obtain ⟨pa, pc, rfl⟩ := ol.has.form
  obtain ⟨qa, qc, rfl⟩ := ol.next.form
  obtain ⟨w2, hw2⟩ : ∃ y, w1.alloc (.cells #[.slice pa r.1.length pc, .slice qa r.2.1.length qc] 42) = y := ⟨_, rfl⟩
  have B2 : Below w.heap.size w w2 := hw2 ▸ B1.alloc B1.size _
  have L2 : Loc w2 lb #[.slice ua xs.length uc, .slice va ys.length vc] := hw2 ▸ L1.alloc _
  have N2 : Loc w2 w1.heap.size #[.slice pa r.1.length pc, .slice qa r.2.1.length qc] := hw2 ▸ loc_at w1 _ _ rfl
  have ol2 := hide (show OL w2 w.heap.size w1.heap.size (.slice pa r.1.length pc) (.slice qa r.2.1.length qc) r.1 r.2.1 from hw2 ▸ (ol.alloc _).mono s0 (Nat.le_refl _))
  have s2 : w2.heap.size = w1.heap.size + 1 := by rw [← hw2]; simp
  have n0 := N2.cell 0 rfl
  have n1 := N2.cell 1 rfl
  have m0 := L2.cell 0 rfl
  have m1 := L2.cell 1 rfl
  have FL := L2.frozen
  obtain ⟨w3, hw3⟩ : ∃ y, (w2.setCell ⟨lb, 0, none⟩ (.slice pa r.1.length pc)).setCell ⟨lb, 1, none⟩ (.slice qa r.2.1.length qc) = y := ⟨_, rfl⟩
  have K3 : Kp w2 w3 (fun k => k = lb) := hw3 ▸ (set_kp w2 _ 0 _).trans (set_kp _ _ 1 _)
  have L3 : Loc w3 lb #[.slice pa r.1.length pc, .slice qa r.2.1.length qc] := hw3 ▸ (L2.set 0 _ rfl).set 1 _ rfl
  have ol3 := hide ((unhide ol2).kp K3 (fun k h1 _ e => by omega))
  have KK : Kp w w3 (fun k => k = lb) := (Below.kpOf B2 _).trans K3
  have s3 := K3.size
  clear ol b1 B1 L1 L0 X0 PY RU K3 L2 N2
  by_cases h0 : r.2.2 = 0
  · have e : decide (Took r) = true := decide_eq_true (Or.inl h0)
    replace e := hide e
    go_wp2
    clear hw2 hw3
    go_ret
    exact ⟨_, _, by rw [unhide e]; rfl, L3, (unhide ol3).mono (Nat.le_refl _) (by omega), KK⟩
  · have h0' : (r.2.2 == 0) = false := by simpa using h0
    by_cases h4 : r.2.2 = 4
    · have e : decide (Took r) = true := decide_eq_true (Or.inr h4)
      replace e := hide e
      go_wp2
      clear hw2 hw3
      go_ret
      exact ⟨_, _, by rw [unhide e]; rfl, L3, (unhide ol3).mono (Nat.le_refl _) (by omega), KK⟩
    · have h4' : (r.2.2 == 4) = false := by simpa using h4
      have e : decide (Took r) = false := decide_eq_false (by rintro (h | h); exact h0 h; exact h4 h)
      replace e := hide e
      go_wp2
      clear hw2 hw3
      go_ret
      exact ⟨_, _, by rw [unhide e]; rfl, L3, (unhide ol3).mono (Nat.le_refl _) (by omega), KK⟩

set_option maxHeartbeats 4000000 in
set_option maxRecDepth 100000 in
theorem drop_fits (x : T4) (lb : Nat) (u v : Value) (xs ys : List Int) (w : World) (hL : Loc w lb #[u, v]) (hu : RI w u xs ∧ RI w v ys) :
    Calls Try.prog 42 #[txv x.1 x.2.1 x.2.2.1 x.2.2.2, .pointer (some ⟨lb, 0, none⟩)] w fun e w' => e = .returned (.bool (decide (¬ (payAns xs ys x.1 x.2.1 x.2.2.1 x.2.2.2).2.2 = 2))) ∧ Below w.heap.size w w' := by
  obtain ⟨a, b, c, d⟩ := x
  dsimp only
  have PY := hide fun w h => implPay u v a b c d xs ys w h
  have RU := hide hu
  obtain ⟨ua, uc, rfl⟩ := hu.1.form
  obtain ⟨va, vc, rfl⟩ := hu.2.form
  generalize payAns xs ys a b c d = r at *
  have lL := hL.lt
  obtain ⟨w0, hw0⟩ : ∃ w0, w.alloc (.cells (r4 a b c d) 33) = w0 := ⟨_, rfl⟩
  have B0 : Below w.heap.size w w0 := hw0 ▸ (Below.refl _ _).alloc (Nat.le_refl _) _
  have L0 : Loc w0 lb #[.slice ua xs.length uc, .slice va ys.length vc] := hL.below B0 lL
  have X0 : Loc w0 w.heap.size (r4 a b c d) := hw0 ▸ loc_at w _ _ rfl
  have q0 := L0.cell 0 rfl
  have q1 := L0.cell 1 rfl
  obtain ⟨x0, x1, x2, x3⟩ := X0.cells4
  clear hu hL
  go_enter Try.func42, Try.ntmps42
  go_wp2_with fail
  clear hw0 q0 q1 x0 x1 x2 x3
  refine (unhide PY _ ⟨(unhide RU).1.below B0 (Nat.le_refl _), (unhide RU).2.below B0 (Nat.le_refl _)⟩).mono ?_
  rintro _ w1 ⟨up, vp, rfl, ol, b1⟩
  have B1 := B0.trans (b1.mono B0.size)
  obtain ⟨pa, pc, rfl⟩ := ol.has.form
  obtain ⟨qa, qc, rfl⟩ := ol.next.form
  clear ol b1 L0 X0 PY RU
  by_cases h2 : r.2.2 = 2
  · have e := hide (decide_eq_false (fun h : ¬ r.2.2 = 2 => h h2))
    go_wp2
    go_ret
    exact ⟨by rw [unhide e]; rfl, B1.alloc B1.size _⟩
  · have e := hide (decide_eq_true h2)
    have h2' : (r.2.2 != 2) = true := by simpa using h2
    go_wp2
    go_ret
    exact ⟨by rw [unhide e]; rfl, B1.alloc B1.size _⟩
end Go.Proofs.Ythdehhenkgkkmaa
