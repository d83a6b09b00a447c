/- Total of the program and of the specification. -/
import Derived.Test.YtlglekfmiacdnaaLedger
namespace Go.Proofs.Ytlglekfmiacdnaa
open Go.RowKit
set_option linter.unusedSectionVars false

/-- The sum of a list, by int's own adding. -/
def tot (xs : List Int) : Int := xs.foldl (fun a x => wrap64 (a + x)) 0
theorem tot_succ (xs : List Int) (k : Nat) (h : k < xs.length) : tot (xs.take (k + 1)) = wrap64 (tot (xs.take k) + xs.getD k 0) := by
  unfold tot
  rw [List.take_succ_eq_append_getElem h, List.getD_eq_getElem?_getD, List.getElem?_eq_getElem h, List.foldl_append]
  rfl

set_option maxHeartbeats 1600000 in
set_option maxRecDepth 100000 in
theorem specTotal (a b : Value) (xs : List Int) (w : World) (h : RI w a xs) :
    Calls Try.prog 23 #[lv a b] w fun e w' => e = .returned (.int .i64 (tot xs)) ∧ Below w.heap.size w w' := by
  obtain ⟨hl, ao, ca, rfl, ha⟩ := h
  obtain ⟨n, hn⟩ : ∃ n, xs.length = n := ⟨_, rfl⟩
  have Hn : Hid (xs.length = n) := hn
  rw [hn] at hl ⊢
  rw [hn] at ha
  clear hn
  go_enter Try.func23, Try.ntmps23
  go_wp2
  obtain ⟨w0, hw0⟩ : ∃ w0, w.alloc (.cells #[.slice ao n ca, b] 26) = w0 := ⟨_, rfl⟩
  have B0 : Below w.heap.size w w0 := hw0 ▸ (Below.refl _ _).alloc (Nat.le_refl _) _
  have L0 : Loc2 w0 w.heap.size (.slice ao n ca) b := hw0 ▸ loc2_new w _ _ _
  obtain ⟨l0, l1, _, _⟩ := L0.cells
  rw [hw0]
  clear hw0 L0
  go_loop [3, 4] (fun t i => ∃ k : Nat, k ≤ n ∧ i = .int .i64 k ∧ t = .int .i64 (tot (xs.take k))) (fun _ i => n - (intOf i).toNat)
  case atStart => exact ⟨0, Nat.zero_le _, rfl, by simp [tot]⟩
  case round =>
    obtain ⟨k, hk, rfl, rfl⟩ := hrel
    by_cases hlt : k < n
    · rcases ha with ha | ⟨g, off, rfl, ha⟩
      · subst ha; have := Hn.out; simp at this; omega
      have c0 := (B0.cell (cell_lt (ha k hlt))).trans (ha k hlt)
      have HT := hide (tot_succ xs k (by rw [Hn.out]; exact hlt))
      clear ha
      generalize tot (xs.take k) = t at *
      generalize xs.getD k 0 = d at *
      go_wp2
      go_round
      case rel => exact ⟨k + 1, by omega, by go_num, by rw [unhide HT]⟩
      case measure => simp [intOf]; omega
    · have hkn : k = n := by omega
      subst hkn
      have HT : Hid (xs.take xs.length = xs) := hide (List.take_of_length_le (Nat.le_refl _))
      rw [Hn.out] at HT
      clear ha
      go_wp2
      go_ret
      exact ⟨by have := unhide HT; simp_all, B0⟩
set_option maxHeartbeats 1600000 in
set_option maxRecDepth 100000 in
theorem implTotal (a b : Value) (xs : List Int) (w : World) (h : RI w a xs) :
    Calls Try.prog 22 #[lv a b] w fun e w' => e = .returned (.int .i64 (tot xs)) ∧ Below w.heap.size w w' := by
  obtain ⟨hl, ao, ca, rfl, ha⟩ := h
  obtain ⟨n, hn⟩ : ∃ n, xs.length = n := ⟨_, rfl⟩
  have Hn : Hid (xs.length = n) := hn
  rw [hn] at hl ⊢
  rw [hn] at ha
  clear hn
  go_enter Try.func22, Try.ntmps22
  go_wp2
  obtain ⟨w0, hw0⟩ : ∃ w0, w.alloc (.cells #[.slice ao n ca, b] 26) = w0 := ⟨_, rfl⟩
  have B0 : Below w.heap.size w w0 := hw0 ▸ (Below.refl _ _).alloc (Nat.le_refl _) _
  have L0 : Loc2 w0 w.heap.size (.slice ao n ca) b := hw0 ▸ loc2_new w _ _ _
  obtain ⟨l0, l1, _, _⟩ := L0.cells
  rw [hw0]
  clear hw0 L0
  go_loop [3, 9] (fun t i => ∃ k : Nat, k ≤ n ∧ i = .int .i64 k ∧ t = .int .i64 (tot (xs.take k))) (fun _ i => n - (intOf i).toNat)
  case atStart => exact ⟨0, Nat.zero_le _, rfl, by simp [tot]⟩
  case round =>
    obtain ⟨k, hk, rfl, rfl⟩ := hrel
    by_cases hlt : k < n
    · rcases ha with ha | ⟨g, off, rfl, ha⟩
      · subst ha; have := Hn.out; simp at this; omega
      have c0 := (B0.cell (cell_lt (ha k hlt))).trans (ha k hlt)
      have HT := hide (tot_succ xs k (by rw [Hn.out]; exact hlt))
      clear ha
      generalize tot (xs.take k) = t at *
      generalize xs.getD k 0 = d at *
      go_wp2
      go_round
      case rel => exact ⟨k + 1, by omega, by go_num, by rw [unhide HT]⟩
      case measure => simp [intOf]; omega
    · have hkn : k = n := by omega
      subst hkn
      have HT : Hid (xs.take xs.length = xs) := hide (List.take_of_length_le (Nat.le_refl _))
      rw [Hn.out] at HT
      clear ha
      go_wp2
      go_ret
      exact ⟨by have := unhide HT; simp_all, B0⟩
end Go.Proofs.Ytlglekfmiacdnaa
