/- LedgerOk of the program and of the specification. -/
import Derived.Test.YtlglekfmiacdnaaBookOf
import Derived.Test.YtlglekfmiacdnaaIn
namespace Go.Proofs.Ytlglekfmiacdnaa
open Go.RowKit
set_option linter.unusedSectionVars false
variable [∀ (m a b c d : Int), Decidable (In4 m a b c d)]

/-- Whether a ledger of these lists is right. -/
def LOk (xs ys : List Int) : Prop := xs.length = 4 ∧ ys.length = 4 ∧ (∀ k, k < 4 → (0 ≤ xs.getD k 0 ∧ xs.getD k 0 ≤ 400) ∧ (0 ≤ ys.getD k 0 ∧ ys.getD k 0 ≤ 100))
theorem lok_four (a b c d e f g h : Int) : LOk [a, b, c, d] [e, f, g, h] ↔ In4 400 a b c d ∧ In4 100 e f g h := by
  unfold LOk In4
  constructor
  · rintro ⟨_, _, h⟩
    have h0 := h 0 (by omega)
    have h1 := h 1 (by omega)
    have h2 := h 2 (by omega)
    have h3 := h 3 (by omega)
    simp at h0 h1 h2 h3
    exact ⟨⟨h0.1, h1.1, h2.1, h3.1⟩, ⟨h0.2, h1.2, h2.2, h3.2⟩⟩
  · rintro ⟨⟨p0, p1, p2, p3⟩, ⟨q0, q1, q2, q3⟩⟩
    refine ⟨rfl, rfl, fun k hk => ?_⟩
    match k, hk with
    | 0, _ => exact ⟨p0, q0⟩
    | 1, _ => exact ⟨p1, q1⟩
    | 2, _ => exact ⟨p2, q2⟩
    | 3, _ => exact ⟨p3, q3⟩
/-- The numbers of a ledger of four accounts, noughts of others. -/
def bookC (xs ys : List Int) : Array Value := if xs.length = 4 ∧ ys.length = 4 then b8 (xs.getD 0 0) (xs.getD 1 0) (xs.getD 2 0) (xs.getD 3 0) (ys.getD 0 0) (ys.getD 1 0) (ys.getD 2 0) (ys.getD 3 0) else b8 0 0 0 0 0 0 0 0

set_option maxHeartbeats 2000000 in
set_option maxRecDepth 100000 in
theorem bookOf_short (u v : Value) (xs ys : List Int) (w : World) (hu : RI w u xs) (hv : RI w v ys) (hn : xs.length ≠ 4 ∨ ys.length ≠ 4) :
    Calls Try.prog 47 #[lv u v] w fun o w' => o = .returned (.tuple #[bv 0 0 0 0 0 0 0 0, .bool false]) ∧ Below w.heap.size w w' := by
  obtain ⟨l1, a1, c1, rfl, _⟩ := hu
  obtain ⟨l2, a2, c2, rfl, _⟩ := hv
  by_cases h1 : xs.length = 4
  · have h2 : ys.length ≠ 4 := by omega
    clear hn
    go_enter Try.func47, Try.ntmps47
    go_wp2
    refine bodyPost_ret (v := .tuple #[bv 0 0 0 0 0 0 0 0, .bool false]) (by simp [results, Try.results47, go_sem]) rfl ?_
    exact ⟨rfl, ((Below.refl _ _).alloc (Nat.le_refl _) _).alloc (by simp) _⟩
  · clear hn
    go_enter Try.func47, Try.ntmps47
    go_wp2
    refine bodyPost_ret (v := .tuple #[bv 0 0 0 0 0 0 0 0, .bool false]) (by simp [results, Try.results47, go_sem]) rfl ?_
    exact ⟨rfl, ((Below.refl _ _).alloc (Nat.le_refl _) _).alloc (by simp) _⟩

variable [∀ (xs ys : List Int), Decidable (LOk xs ys)]
theorem bookOf_any (u v : Value) (xs ys : List Int) (w : World) (hu : RI w u xs) (hv : RI w v ys) :
    Calls Try.prog 47 #[lv u v] w fun o w' => o = .returned (.tuple #[.agg (bookC xs ys), .bool (decide (LOk xs ys))]) ∧ Below w.heap.size w w' := by
  by_cases h : xs.length = 4 ∧ ys.length = 4
  · obtain ⟨a, b, c, d, rfl⟩ := four_of h.1
    obtain ⟨e, f, g, k, rfl⟩ := four_of h.2
    have := bookOf_four u v a b c d e f g k w hu hv
    simpa only [lok_four, bookC, h, and_self, if_true, List.getD_cons_zero, List.getD_cons_succ] using this
  · have hn : ¬ LOk xs ys := fun k => h ⟨k.1, k.2.1⟩
    have := bookOf_short u v xs ys w hu hv (by omega)
    simpa only [bookC, h, if_false, hn, decide_false] using this
theorem bookC_form (xs ys : List Int) : ∃ a b c d e f g h : Int, bookC xs ys = b8 a b c d e f g h := by
  unfold bookC
  split
  · exact ⟨_, _, _, _, _, _, _, _, rfl⟩
  · exact ⟨_, _, _, _, _, _, _, _, rfl⟩

set_option maxHeartbeats 2000000 in
set_option maxRecDepth 100000 in
theorem implLedgerOk (u v : Value) (xs ys : List Int) (w : World) (hu : RI w u xs ∧ RI w v ys) :
    Calls Try.prog 20 #[lv u v] w fun o w' => o = .returned (.bool (decide (LOk xs ys))) ∧ Below w.heap.size w w' := by
  have BO := hide fun w h1 h2 => bookOf_any u v xs ys w h1 h2
  have R1 := hide hu.1
  have R2 := hide hu.2
  have B0 : Below w.heap.size w (w.alloc (.cells #[u, v] 26)) := (Below.refl _ _).alloc (Nat.le_refl _) _
  obtain ⟨ua, uc, rfl⟩ : ∃ ua uc, u = .slice ua xs.length uc := by obtain ⟨_, ua, uc, h, _⟩ := hu.1; exact ⟨ua, uc, h⟩
  obtain ⟨va, vc, rfl⟩ : ∃ va vc, v = .slice va ys.length vc := by obtain ⟨_, va, vc, h, _⟩ := hu.2; exact ⟨va, vc, h⟩
  obtain ⟨a, b, c, d, e, f, g, h, hb⟩ := bookC_form xs ys
  rw [hb] at BO
  generalize decide (LOk xs ys) = q at *
  clear hu hb
  go_enter Try.func20, Try.ntmps20
  go_wp2_with fail
  refine (unhide BO _ ((unhide R1).below B0 (Nat.le_refl _)) ((unhide R2).below B0 (Nat.le_refl _))).mono ?_
  rintro _ w1 ⟨rfl, b1⟩
  have B1 := B0.trans (b1.mono (by simp))
  go_wp2
  go_ret
  exact ⟨rfl, B1.alloc B1.size _⟩

set_option maxHeartbeats 4000000 in
set_option maxRecDepth 100000 in
theorem specLedgerOk_four (u v : Value) (xs ys : List Int) (w : World) (hu : RI w u xs ∧ RI w v ys) (hx : xs.length = 4) (hy : ys.length = 4) :
    Calls Try.prog 21 #[lv u v] w fun o w' => o = .returned (.bool (decide (LOk xs ys))) ∧ Below w.heap.size w w' := by
  obtain ⟨⟨_, ua, uc, rfl, hu⟩, ⟨_, va, vc, rfl, hv⟩⟩ := hu
  obtain ⟨g1, o1, rfl, cu⟩ : ∃ g1 o1, ua = some ⟨g1, o1, none⟩ ∧ ∀ k, k < 4 → w.cell? ⟨g1, o1 + k, none⟩ = some (.int .i64 (xs.getD k 0)) := by
    rcases hu with rfl | ⟨g, o, h1, h2⟩
    · cases hx
    · exact ⟨g, o, h1, fun k hk => h2 k (by omega)⟩
  obtain ⟨g2, o2, rfl, cv⟩ : ∃ g1 o1, va = some ⟨g1, o1, none⟩ ∧ ∀ k, k < 4 → w.cell? ⟨g1, o1 + k, none⟩ = some (.int .i64 (ys.getD k 0)) := by
    rcases hv with rfl | ⟨g, o, h1, h2⟩
    · cases hy
    · exact ⟨g, o, h1, fun k hk => h2 k (by omega)⟩
  have HL : Hid (LOk xs ys ↔ ∀ k, k < 4 → (0 ≤ xs.getD k 0 ∧ xs.getD k 0 ≤ 400) ∧ (0 ≤ ys.getD k 0 ∧ ys.getD k 0 ≤ 100)) := hide ⟨fun h => h.2.2, fun h => ⟨hx, hy, h⟩⟩
  rw [hx, hy]
  clear hx hy hu hv
  obtain ⟨w0, hw0⟩ : ∃ w0, w.alloc (.cells #[.slice (some ⟨g1, o1, none⟩) 4 uc, .slice (some ⟨g2, o2, none⟩) 4 vc] 26) = w0 := ⟨_, rfl⟩
  have B0 : Below w.heap.size w w0 := hw0 ▸ (Below.refl _ _).alloc (Nat.le_refl _) _
  have L0 : Loc w0 w.heap.size #[.slice (some ⟨g1, o1, none⟩) 4 uc, .slice (some ⟨g2, o2, none⟩) 4 vc] := hw0 ▸ loc_at w _ _ rfl
  have p0 := L0.cell 0 rfl
  have p1 := L0.cell 1 rfl
  go_enter Try.func21, Try.ntmps21
  go_wp2
  clear hw0 L0
  go_loop [3] (fun i => ∃ k : Nat, k ≤ 4 ∧ i = .int .i64 k ∧ ∀ j, j < k → (0 ≤ xs.getD j 0 ∧ xs.getD j 0 ≤ 400) ∧ (0 ≤ ys.getD j 0 ∧ ys.getD j 0 ≤ 100)) (fun i => 4 - (intOf i).toNat)
  case atStart => exact ⟨0, Nat.zero_le _, rfl, fun j hj => by omega⟩
  case round =>
    obtain ⟨k, hk, rfl, hall⟩ := hrel
    have hall := hide hall
    by_cases hlt : k < 4
    · have x := (B0.cell (cell_lt (cu k hlt))).trans (cu k hlt)
      have y := (B0.cell (cell_lt (cv k hlt))).trans (cv k hlt)
      have HK := hide fun (h : LOk xs ys) => (unhide HL).1 h k hlt
      have HS : Hid ((0 ≤ xs.getD k 0 ∧ xs.getD k 0 ≤ 400) ∧ (0 ≤ ys.getD k 0 ∧ ys.getD k 0 ≤ 100) → ∀ j, j < k + 1 → (0 ≤ xs.getD j 0 ∧ xs.getD j 0 ≤ 400) ∧ (0 ≤ ys.getD j 0 ∧ ys.getD j 0 ≤ 100)) := hide fun h j hj => by
        by_cases e : j = k
        · subst e; exact h
        · exact unhide hall j (by omega)
      clear cu cv
      generalize xs.getD k 0 = p at *
      generalize ys.getD k 0 = q at *
      by_cases hp : 0 ≤ p ∧ p ≤ 400
      · by_cases hq : 0 ≤ q ∧ q ≤ 100
        · obtain ⟨hp1, hp2⟩ := hp
          obtain ⟨hq1, hq2⟩ := hq
          go_wp2_with (first | (go_at_call 48; refine (in_yes _ _ _ _ (by omega) (by omega)).mono ?_; rintro e w' ⟨rfl, rfl⟩))
          go_round
          case rel => exact ⟨k + 1, by omega, by go_num, unhide HS ⟨⟨hp1, hp2⟩, ⟨hq1, hq2⟩⟩⟩
          case measure => simp [intOf]; omega
        · have hno : decide (LOk xs ys) = false := by simp; exact fun h => hq (unhide HK h).2
          have hq' : q < 0 ∨ 100 < q := by omega
          obtain ⟨hp1, hp2⟩ := hp
          clear hq
          go_wp2_with (first | (go_at_call 48; refine (in_yes _ _ _ _ (by omega) (by omega)).mono ?_; rintro e w' ⟨rfl, rfl⟩) | (go_at_call 48; refine (in_no _ _ _ _ (by omega)).mono ?_; rintro e w' ⟨rfl, rfl⟩))
          go_ret
          exact ⟨by first | rfl | (rw [hno]; rfl), B0⟩
      · have hno : decide (LOk xs ys) = false := by simp; exact fun h => hp (unhide HK h).1
        have hp' : p < 0 ∨ 400 < p := by omega
        clear hp
        go_wp2_with (first | (go_at_call 48; refine (in_no _ _ _ _ (by omega)).mono ?_; rintro e w' ⟨rfl, rfl⟩))
        go_ret
        exact ⟨by first | rfl | (rw [hno]; rfl), B0⟩
    · have hyes : decide (LOk xs ys) = true := by simp; exact (unhide HL).2 fun j hj => unhide hall j (by omega)
      have hk4 : k = 4 := by omega
      subst hk4
      clear cu cv
      go_wp2
      go_ret
      exact ⟨by first | rfl | (rw [hyes]; rfl), B0⟩

set_option maxHeartbeats 2000000 in
set_option maxRecDepth 100000 in
theorem specLedgerOk_short (u v : Value) (xs ys : List Int) (w : World) (hu : RI w u xs ∧ RI w v ys) (hn : xs.length ≠ 4 ∨ ys.length ≠ 4) :
    Calls Try.prog 21 #[lv u v] w fun o w' => o = .returned (.bool false) ∧ Below w.heap.size w w' := by
  obtain ⟨⟨l1, a1, c1, rfl, _⟩, ⟨l2, a2, c2, rfl, _⟩⟩ := hu
  by_cases h1 : xs.length = 4
  · have h2 : ys.length ≠ 4 := by omega
    clear hn
    go_enter Try.func21, Try.ntmps21
    go_wp2
    go_ret
    exact ⟨rfl, (Below.refl _ _).alloc (Nat.le_refl _) _⟩
  · clear hn
    go_enter Try.func21, Try.ntmps21
    go_wp2
    go_ret
    exact ⟨rfl, (Below.refl _ _).alloc (Nat.le_refl _) _⟩
theorem specLedgerOk (u v : Value) (xs ys : List Int) (w : World) (hu : RI w u xs ∧ RI w v ys) :
    Calls Try.prog 21 #[lv u v] w fun o w' => o = .returned (.bool (decide (LOk xs ys))) ∧ Below w.heap.size w w' := by
  by_cases h : xs.length = 4 ∧ ys.length = 4
  · exact specLedgerOk_four u v xs ys w hu h.1 h.2
  · have hn : ¬ LOk xs ys := fun k => h ⟨k.1, k.2.1⟩
    have := specLedgerOk_short u v xs ys w hu (by omega)
    simpa only [hn, decide_false] using this
end Go.Proofs.Ytlglekfmiacdnaa
