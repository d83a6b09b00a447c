/- Conf: ConfOk, Faults, Quorum of the program and of the specification; laws.toConf. -/
import Derived.Test.YtdgadkinkalcpaaIn
import Derived.Test.YtdgadkinkalcpaaTxOk
import Derived.Test.YtdgadkinkalcpaaLoc
import Derived.Deep.RegionHeld3
import Derived.Deep.DeepCutAuto
namespace Go.Proofs.Ytdgadkinkalcpaa
open Go.RowKit
set_option linter.unusedSectionVars false
variable [∀ (a b c d : Int), Decidable (Ok4 a b c d)]

/-- A Conf in memory. -/
abbrev cv (n f : Int) : Value := .agg #[.int .i64 n, .int .i64 f]
def COk (n f : Int) : Prop := (4 ≤ n ∧ n ≤ 7) ∧ 1 ≤ f ∧ f ≤ 6
variable [∀ (n f : Int), Decidable (COk n f)]
def faultsOf (n f : Int) : Int := if COk n f then (n - 1) / 3 else 0
def quorumOf (n f : Int) : Int := if COk n f then n - (n - 1) / 3 else 0
theorem cok_cases {n f : Int} (h : COk n f) : n = 4 ∨ n = 5 ∨ n = 6 ∨ n = 7 := by obtain ⟨h, _⟩ := h; omega
theorem conf_below (w : World) (o : Obj) : Below w.heap.size w (w.alloc o) := (Below.refl _ _).alloc (Nat.le_refl _) _

set_option maxHeartbeats 800000 in
set_option maxRecDepth 100000 in
theorem specConfOk (n f : Int) (w : World) :
    Calls Try.prog 9 #[cv n f] w fun e w' => e = .returned (.bool (decide (COk n f))) ∧ Below w.heap.size w w' := by
  by_cases h1 : 4 ≤ n ∧ n ≤ 7
  · by_cases h2 : 1 ≤ f ∧ f ≤ 6
    · have hd : decide (COk n f) = true := by simp [COk, h1, h2]
      rw [hd]
      go_enter Try.func9, Try.ntmps9
      go_wp2_with (first | (go_at_call 27; refine (in_yes _ _ _ _ (by omega) (by omega)).mono ?_; rintro e w' ⟨rfl, rfl⟩))
      go_ret
      exact ⟨rfl, conf_below _ _⟩
    · have hd : decide (COk n f) = false := by simp [COk, h1]; omega
      rw [hd]
      go_enter Try.func9, Try.ntmps9
      go_wp2_with fail
      refine (in_yes _ _ _ _ (by omega) (by omega)).mono ?_
      rintro e w' ⟨rfl, rfl⟩
      go_wp2_with fail
      refine (in_no _ _ _ _ (by omega)).mono ?_
      rintro e w' ⟨rfl, rfl⟩
      go_wp2
      go_ret
      exact ⟨rfl, conf_below _ _⟩
  · have hd : decide (COk n f) = false := by simp only [decide_eq_false_iff_not]; rintro ⟨h, _⟩; exact h1 h
    rw [hd]
    go_enter Try.func9, Try.ntmps9
    go_wp2_with fail
    refine (in_no _ _ _ _ (by omega)).mono ?_
    rintro e w' ⟨rfl, rfl⟩
    go_wp2
    go_ret
    exact ⟨rfl, conf_below _ _⟩

set_option maxHeartbeats 800000 in
set_option maxRecDepth 100000 in
theorem implConfOk (n f : Int) (w : World) :
    Calls Try.prog 11 #[cv n f] w fun e w' => e = .returned (.bool (decide (COk n f))) ∧ Below w.heap.size w w' := by
  by_cases h1 : 4 ≤ n ∧ n ≤ 7
  · by_cases h2 : 1 ≤ f ∧ f ≤ 6
    · have hd : decide (COk n f) = true := by simp [COk, h1, h2]
      rw [hd]
      go_enter Try.func11, Try.ntmps11
      go_wp2_with (first | (go_at_call 28; refine (within_yes _ _ _ _ (by omega) (by omega)).mono ?_; rintro e w' ⟨rfl, rfl⟩))
      go_ret
      exact ⟨rfl, conf_below _ _⟩
    · have hd : decide (COk n f) = false := by simp [COk, h1]; omega
      rw [hd]
      go_enter Try.func11, Try.ntmps11
      go_wp2_with fail
      refine (within_yes _ _ _ _ (by omega) (by omega)).mono ?_
      rintro e w' ⟨rfl, rfl⟩
      go_wp2_with fail
      refine (within_no _ _ _ _ (by omega)).mono ?_
      rintro e w' ⟨rfl, rfl⟩
      go_wp2
      go_ret
      exact ⟨rfl, conf_below _ _⟩
  · have hd : decide (COk n f) = false := by simp only [decide_eq_false_iff_not]; rintro ⟨h, _⟩; exact h1 h
    rw [hd]
    go_enter Try.func11, Try.ntmps11
    go_wp2_with fail
    refine (within_no _ _ _ _ (by omega)).mono ?_
    rintro e w' ⟨rfl, rfl⟩
    go_wp2
    go_ret
    exact ⟨rfl, conf_below _ _⟩

set_option maxHeartbeats 800000 in
set_option maxRecDepth 100000 in
theorem specFaults (n f : Int) (w : World) :
    Calls Try.prog 12 #[cv n f] w fun e w' => e = .returned (.int .i64 (faultsOf n f)) ∧ Below w.heap.size w w' := by
  have OK := hide fun w => specConfOk n f w
  by_cases h : COk n f
  · have hd : decide (COk n f) = true := by simpa using h
    rw [hd] at OK
    have hf : faultsOf n f = (n - 1) / 3 := by simp [faultsOf, h]
    rw [hf]
    have L0 := loc_at w #[.int .i64 n, .int .i64 f] 25 rfl
    rcases cok_cases h with rfl | rfl | rfl | rfl
    all_goals
      clear h hd hf
      go_enter Try.func12, Try.ntmps12
      go_wp2_with fail
      refine (unhide OK _).mono ?_
      rintro e w1 ⟨rfl, b1⟩
      have L1 := L0.below b1 L0.lt
      have B1 := (conf_below _ _).trans (b1.mono (by simp))
      have p0 := L1.cell 0 rfl
      have p1 := L1.cell 1 rfl
      clear L0 b1
      go_wp2
      go_ret
      exact ⟨by go_num, B1⟩
  · have hd : decide (COk n f) = false := by simpa using h
    rw [hd] at OK
    have hf : faultsOf n f = 0 := by simp [faultsOf, h]
    rw [hf]
    clear h hd hf
    go_enter Try.func12, Try.ntmps12
    go_wp2_with fail
    refine (unhide OK _).mono ?_
    rintro e w1 ⟨rfl, b1⟩
    go_wp2
    go_ret
    exact ⟨rfl, (conf_below _ _).trans (b1.mono (by simp))⟩

set_option maxHeartbeats 800000 in
set_option maxRecDepth 100000 in
theorem implFaults (n f : Int) (w : World) :
    Calls Try.prog 13 #[cv n f] w fun e w' => e = .returned (.int .i64 (faultsOf n f)) ∧ Below w.heap.size w w' := by
  have OK := hide fun w => implConfOk n f w
  by_cases h : COk n f
  · have hd : decide (COk n f) = true := by simpa using h
    rw [hd] at OK
    have hf : faultsOf n f = (n - 1) / 3 := by simp [faultsOf, h]
    rw [hf]
    have L0 := loc_at w #[.int .i64 n, .int .i64 f] 25 rfl
    rcases cok_cases h with rfl | rfl | rfl | rfl
    all_goals
      clear h hd hf
      go_enter Try.func13, Try.ntmps13
      go_wp2_with fail
      refine (unhide OK _).mono ?_
      rintro e w1 ⟨rfl, b1⟩
      have L1 := L0.below b1 L0.lt
      have B1 := (conf_below _ _).trans (b1.mono (by simp))
      have p0 := L1.cell 0 rfl
      have p1 := L1.cell 1 rfl
      clear L0 b1
      go_wp2
      go_ret
      exact ⟨by go_num, B1⟩
  · have hd : decide (COk n f) = false := by simpa using h
    rw [hd] at OK
    have hf : faultsOf n f = 0 := by simp [faultsOf, h]
    rw [hf]
    clear h hd hf
    go_enter Try.func13, Try.ntmps13
    go_wp2_with fail
    refine (unhide OK _).mono ?_
    rintro e w1 ⟨rfl, b1⟩
    go_wp2
    go_ret
    exact ⟨rfl, (conf_below _ _).trans (b1.mono (by simp))⟩

set_option maxHeartbeats 800000 in
set_option maxRecDepth 100000 in
theorem specQuorum (n f : Int) (w : World) :
    Calls Try.prog 14 #[cv n f] w fun e w' => e = .returned (.int .i64 (quorumOf n f)) ∧ Below w.heap.size w w' := by
  have OK := hide fun w => specConfOk n f w
  by_cases h : COk n f
  · have hd : decide (COk n f) = true := by simpa using h
    rw [hd] at OK
    have hf : quorumOf n f = n - (n - 1) / 3 := by simp [quorumOf, h]
    rw [hf]
    have L0 := loc_at w #[.int .i64 n, .int .i64 f] 25 rfl
    rcases cok_cases h with rfl | rfl | rfl | rfl
    all_goals
      clear h hd hf
      go_enter Try.func14, Try.ntmps14
      go_wp2_with fail
      refine (unhide OK _).mono ?_
      rintro e w1 ⟨rfl, b1⟩
      have L1 := L0.below b1 L0.lt
      have B1 := (conf_below _ _).trans (b1.mono (by simp))
      have p0 := L1.cell 0 rfl
      have p1 := L1.cell 1 rfl
      clear L0 b1
      go_wp2
      go_ret
      exact ⟨by go_num, B1⟩
  · have hd : decide (COk n f) = false := by simpa using h
    rw [hd] at OK
    have hf : quorumOf n f = 0 := by simp [quorumOf, h]
    rw [hf]
    clear h hd hf
    go_enter Try.func14, Try.ntmps14
    go_wp2_with fail
    refine (unhide OK _).mono ?_
    rintro e w1 ⟨rfl, b1⟩
    go_wp2
    go_ret
    exact ⟨rfl, (conf_below _ _).trans (b1.mono (by simp))⟩

set_option maxHeartbeats 800000 in
set_option maxRecDepth 100000 in
theorem implQuorum (n f : Int) (w : World) :
    Calls Try.prog 15 #[cv n f] w fun e w' => e = .returned (.int .i64 (quorumOf n f)) ∧ Below w.heap.size w w' := by
  have OK := hide fun w => implConfOk n f w
  have FA := hide fun w => implFaults n f w
  by_cases h : COk n f
  · have hd : decide (COk n f) = true := by simpa using h
    rw [hd] at OK
    have hf : quorumOf n f = n - faultsOf n f := by simp [quorumOf, faultsOf, h]
    rw [hf]
    have h1 := h.1.1
    have h2 := h.1.2
    have hg : faultsOf n f = (n - 1) / 3 := by simp [faultsOf, h]
    have h3 : 1 ≤ faultsOf n f ∧ faultsOf n f ≤ 2 := by omega
    obtain ⟨h3, h4⟩ := h3
    clear hg hf hd h
    generalize faultsOf n f = q at *
    have L0 := loc_at w #[.int .i64 n, .int .i64 f] 25 rfl
    go_enter Try.func15, Try.ntmps15
    go_wp2_with fail
    refine (unhide OK _).mono ?_
    rintro e w1 ⟨rfl, b1⟩
    have L1 := L0.below b1 L0.lt
    have B1 : Below w.heap.size w w1 := (conf_below _ _).trans (b1.mono (by simp))
    have K : Hid (∀ w', Below w1.heap.size w1 w' → Below w1.heap.size w1 w' ∧ w'.cell? ⟨w.heap.size, 0, none⟩ = some (.int .i64 n) ∧ w'.cell? ⟨w.heap.size, 1, none⟩ = some (.int .i64 f)) := hide fun w' hb' =>
      ⟨hb', (L1.below hb' L1.lt).cell 0 rfl, (L1.below hb' L1.lt).cell 1 rfl⟩
    have bA : Below w1.heap.size w1 w1.drew := Below.drew (Below.refl _ _)
    have hKeep := unhide K _ bA
    clear L0 L1 b1
    go_upto_region 3 with fail
    first | go_region_held3 (fun w' => Below w1.heap.size w1 w' ∧ w'.cell? ⟨w.heap.size, 0, none⟩ = some (.int .i64 n) ∧ w'.cell? ⟨w.heap.size, 1, none⟩ = some (.int .i64 f)) (exact hKeep) (first
      | (go_at_call 13; have hgo := bA; refine (unhide FA _).mono ?_; rintro e wa ⟨rfl, ba⟩
         have bB : Below w1.heap.size w1 wa := bA.trans (ba.mono bA.size)
         have hKeep := unhide K _ bB; clear bA hgo ba)) | fail
    all_goals
      go_wp2
      go_ret
      exact ⟨by simp only [IntKind.wrap_i64]; simp; omega, B1.trans (bB.mono B1.size)⟩
  · have hd : decide (COk n f) = false := by simpa using h
    rw [hd] at OK
    have hf : quorumOf n f = 0 := by simp [quorumOf, h]
    rw [hf]
    clear h hd hf
    go_enter Try.func15, Try.ntmps15
    go_wp2_with fail
    refine (unhide OK _).mono ?_
    rintro e w1 ⟨rfl, b1⟩
    go_wp2
    go_ret
    exact ⟨rfl, (conf_below _ _).trans (b1.mono (by simp))⟩

set_option maxHeartbeats 800000 in
set_option maxRecDepth 100000 in
theorem toConf_any (n f : Int) (w : World) :
    Calls Try.prog 10 #[cv n f] w fun e w' => e = .returned (cv n f) ∧ Below w.heap.size w w' := by
  go_enter Try.func10, Try.ntmps10
  go_wp2
  refine bodyPost_ret (v := cv n f) (by simp [results, Try.results10, go_sem]) rfl ?_
  exact ⟨rfl, (((Below.refl _ _).alloc (Nat.le_refl _) _).alloc (by simp) _).alloc (by simp; omega) _⟩
end Go.Proofs.Ytdgadkinkalcpaa
