/- DiskImpl: what the program's drive does, its disk behind a mutex: impl.DiskOk, write, tear, makeSure, told. -/
import Derived.Test.YtkjpjgecongkpaaLocks
import Derived.Test.YtkjpjgecongkpaaDiskLaw
namespace Go.Proofs.Ytkjpjgecongkpaa
open Go.RowKit

/-- Whether a disk of n bytes, s of them sure, is DiskOk. -/
def dokB (n : Nat) (s : Int) : Bool := decide (n ≤ 100000) && (decide (0 ≤ s) && decide (s ≤ (n : Int)))
theorem dok_iff {n : Nat} {s : Int} : dokB n s = true ↔ n ≤ 100000 ∧ 0 ≤ s ∧ s ≤ (n : Int) := by simp [dokB]

set_option maxHeartbeats 800000 in
set_option maxRecDepth 100000 in
theorem withinD (x lo hi : Int) (w : World) : Calls Try.prog 39 #[.int .i64 x, .int .i64 lo, .int .i64 hi] w fun e w' => e = .returned (.bool (decide (lo ≤ x) && decide (x ≤ hi))) ∧ w' = w := by
  by_cases h1 : lo ≤ x <;> by_cases h2 : x ≤ hi <;> simp only [h1, h2, decide_true, decide_false, Bool.and_true, Bool.and_false]
  all_goals
    go_enter Try.func39, Try.ntmps39
    go_wp2
    go_ret
    exact ⟨rfl, rfl⟩
set_option maxHeartbeats 800000 in
set_option maxRecDepth 100000 in
theorem l1InD (x lo hi : Int) (w : World) : Calls Try.prog 40 #[.int .i64 x, .int .i64 lo, .int .i64 hi] w fun e w' => e = .returned (.bool (decide (lo ≤ x) && decide (x ≤ hi))) ∧ w' = w := by
  by_cases h1 : lo ≤ x <;> by_cases h2 : x ≤ hi <;> simp only [h1, h2, decide_true, decide_false, Bool.and_true, Bool.and_false]
  all_goals
    go_enter Try.func40, Try.ntmps40
    go_wp2
    go_ret
    exact ⟨rfl, rfl⟩
set_option maxHeartbeats 800000 in
set_option maxRecDepth 100000 in
theorem implDiskOk (ao : Option Addr) (n ca : Nat) (s : Int) (w : World) :
    Calls Try.prog 18 #[dv (.slice ao n ca) s] w fun e w' => e = .returned (.bool (dokB n s)) ∧ Below w.heap.size w w' := by
  have WI := hide fun w => withinD s 0 (n : Int) w
  by_cases h1 : n ≤ 100000
  · have hd : dokB n s = (decide (0 ≤ s) && decide (s ≤ (n : Int))) := by simp [dokB, h1]
    have h2 : ((n : Int) ≤ 100000) := by omega
    rw [hd]
    generalize (decide (0 ≤ s) && decide (s ≤ (n : Int))) = b at *
    clear hd
    go_enter Try.func18, Try.ntmps18
    go_wp2_with fail
    refine (unhide WI _).mono ?_
    rintro e w1 ⟨rfl, rfl⟩
    go_wp2
    go_ret
    exact ⟨rfl, qalloc _ _⟩
  · have hd : dokB n s = false := by simp [dokB, h1]
    have h2 : ¬ ((n : Int) ≤ 100000) := by omega
    rw [hd]
    clear hd
    go_enter Try.func18, Try.ntmps18
    go_wp2
    go_ret
    exact ⟨rfl, qalloc _ _⟩
set_option maxHeartbeats 800000 in
set_option maxRecDepth 100000 in
theorem specDiskOk (ao : Option Addr) (n ca : Nat) (s : Int) (w : World) :
    Calls Try.prog 19 #[dv (.slice ao n ca) s] w fun e w' => e = .returned (.bool (dokB n s)) ∧ Below w.heap.size w w' := by
  have WI := hide fun w => l1InD s 0 (n : Int) w
  by_cases h1 : n ≤ 100000
  · have hd : dokB n s = (decide (0 ≤ s) && decide (s ≤ (n : Int))) := by simp [dokB, h1]
    have h2 : ((n : Int) ≤ 100000) := by omega
    rw [hd]
    generalize (decide (0 ≤ s) && decide (s ≤ (n : Int))) = b at *
    clear hd
    go_enter Try.func19, Try.ntmps19
    go_wp2_with fail
    refine (unhide WI _).mono ?_
    rintro e w1 ⟨rfl, rfl⟩
    go_wp2
    go_ret
    exact ⟨rfl, qalloc _ _⟩
  · have hd : dokB n s = false := by simp [dokB, h1]
    have h2 : ¬ ((n : Int) ≤ 100000) := by omega
    rw [hd]
    clear hd
    go_enter Try.func19, Try.ntmps19
    go_wp2
    go_ret
    exact ⟨rfl, qalloc _ _⟩

/-- v reads as the bytes xs, in a block that is not g. -/
def RF (w : World) (g : Nat) (v : Value) (xs : List Int) : Prop :=
  xs.length ≤ 4194304 ∧ ∃ ao cap, v = .slice ao xs.length cap ∧ (xs.length ≤ cap ∧ cap ≤ maxLen) ∧ (xs = [] ∨ ∃ b off, ao = some ⟨b, off, none⟩ ∧ b ≠ g ∧ ∀ k, k < xs.length → w.cell? ⟨b, off + k, none⟩ = some (.int .u8 (xs.getD k 0)))
theorem RF.rb {w : World} {g : Nat} {v : Value} {xs : List Int} (h : RF w g v xs) : RB w v xs := by
  obtain ⟨hl, ao, cap, e, hc, h⟩ := h
  refine ⟨by omega, ao, cap, e, hc, ?_⟩
  rcases h with h | ⟨b, off, e, _, h⟩
  · exact .inl h
  · exact .inr ⟨b, off, e, h⟩
theorem RF.kp {w w' : World} {g : Nat} {v : Value} {xs : List Int} (h : RF w g v xs) (k : Kp w w' (fun k => k = g)) : RF w' g v xs := by
  obtain ⟨hl, ao, cap, e, hc, h⟩ := h
  refine ⟨hl, ao, cap, e, hc, ?_⟩
  rcases h with h | ⟨b, off, e, hb, h⟩
  · exact .inl h
  · exact .inr ⟨b, off, e, hb, fun j hj => k.cell (h j hj) hb⟩
theorem RF.below {w w' : World} {g : Nat} {v : Value} {xs : List Int} (h : RF w g v xs) (b : Below w.heap.size w w') : RF w' g v xs := h.kp (Below.kpOf b _)
theorem RB.rf {w : World} {g : Nat} {v : Value} {xs : List Int} (h : RB w v xs) (hl : xs.length ≤ 4194304) (hg : w.heap.size ≤ g) : RF w g v xs := by
  obtain ⟨_, ao, cap, e, hc, h⟩ := h
  refine ⟨hl, ao, cap, e, hc, ?_⟩
  rcases h with h | ⟨b, off, e, h⟩
  · exact .inl h
  · by_cases h0 : xs = []
    · exact .inl h0
    · have hp : 0 < xs.length := List.length_pos_iff.2 h0
      exact .inr ⟨b, off, e, fun e' => by have := cell_lt (h 0 hp); simp at this; omega, h⟩
theorem OB.rf {w : World} {base g : Nat} {v : Value} {xs : List Int} (h : OB w base v xs) (hl : xs.length ≤ 4194304) (hg : g < base) : RF w g v xs := by
  refine ⟨hl, ?_⟩
  rcases h.2 with ⟨rfl, h0⟩ | ⟨b, cap, cur, rfl, hb, _, hca, hcm, _⟩
  · exact ⟨none, 0, by rw [h0], ⟨by omega, by unfold maxLen; omega⟩, .inl (List.length_eq_zero_iff.1 h0)⟩
  · refine ⟨_, cap, rfl, ⟨hca, hcm⟩, .inr ⟨b, 0, rfl, by omega, fun k hk => ?_⟩⟩
    have := World.ownsRow.cellAt h k (by omega)
    rw [Nat.zero_add, this]
    simp [List.getElem?_map, List.getElem?_eq_getElem hk]
theorem RF.form {w : World} {g : Nat} {v : Value} {xs : List Int} (h : RF w g v xs) : ∃ ao ca, v = .slice ao xs.length ca := by
  obtain ⟨_, ao, cap, e, _⟩ := h
  exact ⟨ao, cap, e⟩

/-- A drive's cells. -/
abbrev drv (m : Int) (v : Value) (s n : Int) : Array Value := #[.int .i32 m, .int .u32 0, v, .int .i64 s, .int .i64 n]
theorem lockL (g : Nat) (v : Value) (s n : Int) (w : World) (h : Loc w g (drv 0 v s n)) :
    Calls Try.prog 44 #[.pointer (some ⟨g, 0, none⟩)] w fun e w' => e = .returned (.tuple #[]) ∧ Loc w' g (drv 1 v s n) ∧ Kp w w' (fun k => k = g) := by
  refine (Go.MuLone.lock_free muLib ⟨g, 0, none⟩ w (h.cell 0 rfl) (h.frozen 0)).mono ?_
  rintro e w' ⟨rfl, rfl⟩
  exact ⟨rfl, h.set 0 _ rfl, set_kp _ _ _ _⟩
theorem unlockL (g : Nat) (v : Value) (s n : Int) (u : FrameMode) (w : World) (h : Loc w g (drv 1 v s n)) :
    CallsD Try.prog 45 #[.pointer (some ⟨g, 0, none⟩)] u w fun e u' w' => u' = u ∧ (e = .returned (.tuple #[]) ∧ Loc w' g (drv 0 v s n) ∧ Kp w w' (fun k => k = g)) := by
  refine (Go.MuLone.unlock_deferred muLib ⟨g, 0, none⟩ u w (h.cell 0 rfl) (h.frozen 0)).mono ?_
  rintro e u' w' ⟨rfl, rfl, rfl⟩
  exact ⟨rfl, rfl, h.set 0 _ rfl, set_kp _ _ _ _⟩

set_option maxHeartbeats 1600000 in
set_option maxRecDepth 100000 in
theorem makeSure_yes (g : Nat) (ao : Option Addr) (m ca : Nat) (s : Int) (w : World) (h : Loc w g (drv 0 (.slice ao m ca) s 0)) (hd : dokB m s = true) :
    Calls Try.prog 32 #[.pointer (some ⟨g, 0, none⟩)] w fun e w' => e = .returned (.tuple #[]) ∧ Loc w' g (drv 0 (.slice ao m ca) s 1) ∧ Kp w w' (fun k => k = g) := by
  have LK := hide (lockL g (.slice ao m ca) s 0 w h)
  have DK := hide fun w => implDiskOk ao m ca s w
  rw [hd] at DK
  clear h hd
  go_enter_defers Try.func32, Try.ntmps32
  go_wp2_with fail
  refine (unhide LK).mono ?_
  rintro e w1 ⟨rfl, L1, k1⟩
  have c2 := L1.cell 2 rfl
  have c3 := L1.cell 3 rfl
  go_wp2_with fail
  refine (unhide DK _).mono ?_
  rintro e w2 ⟨rfl, b2⟩
  have L2 := L1.below b2 L1.lt
  have K2 := k1.trans (Below.kpOf b2 _)
  clear L1 k1 b2 c2 c3
  have AD := hide (atomicAdd g 4 0 w2 (L2.cell 4 rfl) (L2.frozen 4) (by omega) (by omega))
  go_wp2_with fail
  refine (unhide AD).mono ?_
  rintro e w3 ⟨rfl, hw3⟩
  have L3 : Loc w3 g (drv 1 (.slice ao m ca) s 1) := hw3 ▸ L2.set 4 _ rfl
  have K3 : Kp w w3 (fun k => k = g) := K2.trans (hw3 ▸ set_kp _ _ _ _)
  clear hw3 L2 K2 AD
  go_wp2
  refine leaves_cons (f := 45) (args := #[.pointer (some ⟨g, 0, none⟩)]) (by simp) (by simp [go_sem]) ?_
  refine (unlockL g (.slice ao m ca) s 1 .returning _ L3).mono ?_
  rintro e u' w4 ⟨rfl, rfl, L4, k4⟩
  exact ⟨_, results_none rfl _ _ _, rfl, L4, K3.trans k4⟩
set_option maxHeartbeats 1600000 in
set_option maxRecDepth 100000 in
theorem makeSure_no (g : Nat) (ao : Option Addr) (m ca : Nat) (s : Int) (w : World) (h : Loc w g (drv 0 (.slice ao m ca) s 0)) (hd : dokB m s = false) :
    Calls Try.prog 32 #[.pointer (some ⟨g, 0, none⟩)] w fun e w' => e = .returned (.tuple #[]) ∧ Loc w' g (drv 0 (.slice ao m ca) s 0) ∧ Kp w w' (fun k => k = g) := by
  have LK := hide (lockL g (.slice ao m ca) s 0 w h)
  have DK := hide fun w => implDiskOk ao m ca s w
  rw [hd] at DK
  clear h hd
  go_enter_defers Try.func32, Try.ntmps32
  go_wp2_with fail
  refine (unhide LK).mono ?_
  rintro e w1 ⟨rfl, L1, k1⟩
  have c2 := L1.cell 2 rfl
  have c3 := L1.cell 3 rfl
  go_wp2_with fail
  refine (unhide DK _).mono ?_
  rintro e w2 ⟨rfl, b2⟩
  have L2 := L1.below b2 L1.lt
  have K2 := k1.trans (Below.kpOf b2 _)
  clear L1 k1 b2 c2 c3
  go_wp2
  refine leaves_cons (f := 45) (args := #[.pointer (some ⟨g, 0, none⟩)]) (by simp) (by simp [go_sem]) ?_
  refine (unlockL g (.slice ao m ca) s 0 .returning _ L2).mono ?_
  rintro e u' w4 ⟨rfl, rfl, L4, k4⟩
  exact ⟨_, results_none rfl _ _ _, rfl, L4, K2.trans k4⟩
end Go.Proofs.Ytkjpjgecongkpaa
