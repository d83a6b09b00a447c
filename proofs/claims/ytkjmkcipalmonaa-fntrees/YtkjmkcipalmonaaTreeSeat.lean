/- TreeSeat: hasPlace, Seat, Sits, Up, Root of the program and of the specification. -/
import Derived.Test.YtkjmkcipalmonaaTreePlain
namespace Go.Proofs.Ytkjmkcipalmonaa
open Go.RowKit
set_option linter.unusedSectionVars false
variable [∀ (a b c d : Int), Decidable (Ok4 a b c d)]
variable [∀ (n f : Int), Decidable (COk n f)]

set_option maxHeartbeats 800000 in
set_option maxRecDepth 100000 in
theorem implHas (n f v i : Int) (w : World) :
    Calls Try.prog 49 #[cv n f, .int .i64 v, .int .i64 i] w fun e w' => e = .returned (.bool (hpB n f v i)) ∧ Below w.heap.size w w' := by
  have OK := hide fun w => implConfOk n f w
  have L0 := loc_at w #[.int .i64 n, .int .i64 f] 25 rfl
  by_cases hc : COk n f
  · have hd : decide (COk n f) = true := by simpa using hc
    rw [hd] at OK
    have h1 := hc.1.1
    have h2 := hc.1.2
    by_cases hv : 0 ≤ v
    · by_cases hi : 0 ≤ i ∧ i ≤ n - 1
      · obtain ⟨h3, h4⟩ := hi
        have hr : hpB n f v i = true := hp_iff.2 ⟨hc, hv, h3, by omega⟩
        rw [hr]
        clear hc hd hr
        go_enter Try.func49, Try.ntmps49
        go_wp2_with fail
        refine (unhide OK _).mono ?_
        rintro e w1 ⟨rfl, b1⟩
        have L1 := L0.below b1 L0.lt
        have B1 := (conf_below _ _).trans (b1.mono (by simp))
        have p0 := L1.cell 0 rfl
        have p1 := L1.cell 1 rfl
        clear L0 b1
        go_wp2_with (first | (go_at_call 51; refine (within_yes _ _ _ _ (by omega) (by omega)).mono ?_; rintro e w' ⟨rfl, rfl⟩))
        go_ret
        exact ⟨rfl, B1⟩
      · have hr : hpB n f v i = false := Bool.eq_false_iff.2 fun h => hi ⟨(hp_iff.1 h).2.2.1, by have := (hp_iff.1 h).2.2.2; omega⟩
        rw [hr]
        clear hc hd hr
        go_enter Try.func49, Try.ntmps49
        go_wp2_with fail
        refine (unhide OK _).mono ?_
        rintro e w1 ⟨rfl, b1⟩
        have L1 := L0.below b1 L0.lt
        have B1 := (conf_below _ _).trans (b1.mono (by simp))
        have p0 := L1.cell 0 rfl
        have p1 := L1.cell 1 rfl
        clear L0 b1
        go_wp2_with (first | (go_at_call 51; refine (within_no _ _ _ _ (by omega)).mono ?_; rintro e w' ⟨rfl, rfl⟩))
        go_ret
        exact ⟨rfl, B1⟩
    · have hr : hpB n f v i = false := Bool.eq_false_iff.2 fun h => hv (hp_iff.1 h).2.1
      rw [hr]
      clear hc hd hr
      go_enter Try.func49, Try.ntmps49
      go_wp2_with fail
      refine (unhide OK _).mono ?_
      rintro e w1 ⟨rfl, b1⟩
      have L1 := L0.below b1 L0.lt
      have B1 := (conf_below _ _).trans (b1.mono (by simp))
      clear L0 b1
      go_wp2
      go_ret
      exact ⟨rfl, B1⟩
  · have hd : decide (COk n f) = false := by simpa using hc
    rw [hd] at OK
    have hr : hpB n f v i = false := Bool.eq_false_iff.2 fun h => hc (hp_iff.1 h).1
    rw [hr]
    clear hc hd hr
    go_enter Try.func49, Try.ntmps49
    go_wp2_with fail
    refine (unhide OK _).mono ?_
    rintro e w1 ⟨rfl, b1⟩
    have L1 := L0.below b1 L0.lt
    have B1 := (conf_below _ _).trans (b1.mono (by simp))
    clear L0 b1
    go_wp2
    go_ret
    exact ⟨rfl, B1⟩

theorem tmod_small {a n : Int} (ha : 0 ≤ a) : a.tmod n = a % n := Int.tmod_eq_emod_of_nonneg ha

set_option maxHeartbeats 800000 in
set_option maxRecDepth 100000 in
theorem implSeat (n f v i : Int) (w : World) :
    Calls Try.prog 25 #[cv n f, .int .i64 v, .int .i64 i] w fun e w' => e = .returned (.int .i64 (seatI n f v i)) ∧ Below w.heap.size w w' := by
  have OK := hide fun w => implHas n f v i w
  have L0 := loc_at w #[.int .i64 n, .int .i64 f] 25 rfl
  by_cases h : HP n f v i
  · rw [h] at OK
    rw [seat_yes h]
    obtain ⟨hc, h3, h4, h5⟩ := h.of
    clear h
    rcases cok_cases hc with rfl | rfl | rfl | rfl
    all_goals
      go_enter Try.func25, Try.ntmps25
      go_wp2_with fail
      refine (unhide OK _).mono ?_
      rintro e w1 ⟨rfl, b1⟩
      have L1 := L0.below b1 L0.lt
      have B1 := (conf_below _ _).trans (b1.mono (by simp))
      have p0 := L1.cell 0 rfl
      have p1 := L1.cell 1 rfl
      clear L0 b1
      go_wp2
      go_region
      all_goals
        go_wp2
        go_ret
        exact ⟨by go_num, B1.drew⟩
  · rw [Bool.eq_false_iff.2 h] at OK
    rw [seat_no h]
    clear h
    go_enter Try.func25, Try.ntmps25
    go_wp2_with fail
    refine (unhide OK _).mono ?_
    rintro e w1 ⟨rfl, b1⟩
    have L1 := L0.below b1 L0.lt
    have B1 := (conf_below _ _).trans (b1.mono (by simp))
    clear L0 b1
    go_wp2
    go_ret
    exact ⟨rfl, B1⟩

-- second part

theorem sits_yes {n f v i : Int} (h : HP n f v i) : sitsI n f v i = (v % n + i) % n := if_pos h
theorem sits_no {n f v i : Int} (h : ¬ HP n f v i) : sitsI n f v i = -1 := if_neg h

set_option maxHeartbeats 800000 in
set_option maxRecDepth 100000 in
theorem implSits (n f v i : Int) (w : World) :
    Calls Try.prog 23 #[cv n f, .int .i64 v, .int .i64 i] w fun e w' => e = .returned (.int .i64 (sitsI n f v i)) ∧ Below w.heap.size w w' := by
  have OK := hide fun w => implHas n f v i w
  have L0 := loc_at w #[.int .i64 n, .int .i64 f] 25 rfl
  by_cases h : HP n f v i
  · rw [h] at OK
    rw [sits_yes h]
    obtain ⟨hc, h3, h4, h5⟩ := h.of
    clear h
    rcases cok_cases hc with rfl | rfl | rfl | rfl
    all_goals
      go_enter Try.func23, Try.ntmps23
      go_wp2_with fail
      refine (unhide OK _).mono ?_
      rintro e w1 ⟨rfl, b1⟩
      have L1 := L0.below b1 L0.lt
      have B1 := (conf_below _ _).trans (b1.mono (by simp))
      have p0 := L1.cell 0 rfl
      have p1 := L1.cell 1 rfl
      clear L0 b1
      go_wp2
      go_region
      all_goals
        go_wp2
        go_ret
        exact ⟨by go_num, B1.drew⟩
  · rw [Bool.eq_false_iff.2 h] at OK
    rw [sits_no h]
    clear h
    go_enter Try.func23, Try.ntmps23
    go_wp2_with fail
    refine (unhide OK _).mono ?_
    rintro e w1 ⟨rfl, b1⟩
    have L1 := L0.below b1 L0.lt
    have B1 := (conf_below _ _).trans (b1.mono (by simp))
    clear L0 b1
    go_wp2
    go_ret
    exact ⟨rfl, B1⟩

set_option maxHeartbeats 800000 in
set_option maxRecDepth 100000 in
theorem implUp (n f v i : Int) (w : World) :
    Calls Try.prog 27 #[cv n f, .int .i64 v, .int .i64 i] w fun e w' => e = .returned (.int .i64 (upI n f v i)) ∧ Below w.heap.size w w' := by
  have SE := hide fun w => implSeat n f v i w
  have SI := hide fun s w => implSits n f v s w
  have L0 := loc_at w #[.int .i64 n, .int .i64 f] 25 rfl
  unfold upI
  by_cases h : seatI n f v i ≤ 0
  · rw [if_pos h]
    generalize seatI n f v i = s at *
    go_enter Try.func27, Try.ntmps27
    go_wp2_with fail
    refine (unhide SE _).mono ?_
    rintro e w1 ⟨rfl, b1⟩
    have L1 := L0.below b1 L0.lt
    have B1 := (conf_below _ _).trans (b1.mono (by simp))
    clear L0 b1
    go_wp2
    go_ret
    exact ⟨rfl, B1⟩
  · rw [if_neg h]
    have hh : HP n f v i := hp_seat.2 (by omega)
    have hr := (seat_range hh).2
    obtain ⟨hc, _⟩ := hh.of
    have h2 := hc.1.2
    clear hh
    generalize seatI n f v i = s at *
    have h1 : 1 ≤ s := by omega
    have h3 : s ≤ 6 := by omega
    have h4 := hc.2.1
    have h5 := hc.2.2
    clear hr h hc h2
    have hf : f = 1 ∨ f = 2 ∨ f = 3 ∨ f = 4 ∨ f = 5 ∨ f = 6 := by omega
    rcases hf with rfl | rfl | rfl | rfl | rfl | rfl
    · go_enter Try.func27, Try.ntmps27
      go_wp2_with fail
      refine (unhide SE _).mono ?_
      rintro e w1 ⟨rfl, b1⟩
      have L1 := L0.below b1 L0.lt
      have B1 := (conf_below _ _).trans (b1.mono (by simp))
      have p0 := L1.cell 0 rfl
      have p1 := L1.cell 1 rfl
      clear L0 b1 SE
      have K : Hid (∀ w', Below w1.heap.size w1 w' → Below w1.heap.size w1 w' ∧ w'.cell? ⟨w.heap.size, 0, none⟩ = some (.int .i64 n) ∧ w'.cell? ⟨w.heap.size, 1, none⟩ = some (.int .i64 1)) := hide fun w' hb' =>
        ⟨hb', (L1.below hb' L1.lt).cell 0 rfl, (L1.below hb' L1.lt).cell 1 rfl⟩
      have bA : Below w1.heap.size w1 w1.drew := Below.drew (Below.refl _ _)
      have hKeep := unhide K _ bA
      clear L1
      go_upto_region 4 with fail
      first | go_region_held3 (fun w' => Below w1.heap.size w1 w' ∧ w'.cell? ⟨w.heap.size, 0, none⟩ = some (.int .i64 n) ∧ w'.cell? ⟨w.heap.size, 1, none⟩ = some (.int .i64 1)) (exact hKeep) (first
        | (go_at_call 23; have hgo := bA; refine (unhide SI _ _).mono ?_; rintro e wa ⟨rfl, ba⟩
           have bB : Below w1.heap.size w1 wa := bA.trans (ba.mono bA.size)
           have hKeep := unhide K _ bB; clear bA hgo ba)) | fail
      all_goals
        go_wp2
        go_ret
        refine ⟨?_, B1.trans (bB.mono B1.size)⟩
        have hs : s = 1 ∨ s = 2 ∨ s = 3 ∨ s = 4 ∨ s = 5 ∨ s = 6 := by omega
        rcases hs with rfl | rfl | rfl | rfl | rfl | rfl <;> rfl
    · go_enter Try.func27, Try.ntmps27
      go_wp2_with fail
      refine (unhide SE _).mono ?_
      rintro e w1 ⟨rfl, b1⟩
      have L1 := L0.below b1 L0.lt
      have B1 := (conf_below _ _).trans (b1.mono (by simp))
      have p0 := L1.cell 0 rfl
      have p1 := L1.cell 1 rfl
      clear L0 b1 SE
      have K : Hid (∀ w', Below w1.heap.size w1 w' → Below w1.heap.size w1 w' ∧ w'.cell? ⟨w.heap.size, 0, none⟩ = some (.int .i64 n) ∧ w'.cell? ⟨w.heap.size, 1, none⟩ = some (.int .i64 2)) := hide fun w' hb' =>
        ⟨hb', (L1.below hb' L1.lt).cell 0 rfl, (L1.below hb' L1.lt).cell 1 rfl⟩
      have bA : Below w1.heap.size w1 w1.drew := Below.drew (Below.refl _ _)
      have hKeep := unhide K _ bA
      clear L1
      go_upto_region 4 with fail
      first | go_region_held3 (fun w' => Below w1.heap.size w1 w' ∧ w'.cell? ⟨w.heap.size, 0, none⟩ = some (.int .i64 n) ∧ w'.cell? ⟨w.heap.size, 1, none⟩ = some (.int .i64 2)) (exact hKeep) (first
        | (go_at_call 23; have hgo := bA; refine (unhide SI _ _).mono ?_; rintro e wa ⟨rfl, ba⟩
           have bB : Below w1.heap.size w1 wa := bA.trans (ba.mono bA.size)
           have hKeep := unhide K _ bB; clear bA hgo ba)) | fail
      all_goals
        go_wp2
        go_ret
        refine ⟨?_, B1.trans (bB.mono B1.size)⟩
        have hs : s = 1 ∨ s = 2 ∨ s = 3 ∨ s = 4 ∨ s = 5 ∨ s = 6 := by omega
        rcases hs with rfl | rfl | rfl | rfl | rfl | rfl <;> rfl
    · go_enter Try.func27, Try.ntmps27
      go_wp2_with fail
      refine (unhide SE _).mono ?_
      rintro e w1 ⟨rfl, b1⟩
      have L1 := L0.below b1 L0.lt
      have B1 := (conf_below _ _).trans (b1.mono (by simp))
      have p0 := L1.cell 0 rfl
      have p1 := L1.cell 1 rfl
      clear L0 b1 SE
      have K : Hid (∀ w', Below w1.heap.size w1 w' → Below w1.heap.size w1 w' ∧ w'.cell? ⟨w.heap.size, 0, none⟩ = some (.int .i64 n) ∧ w'.cell? ⟨w.heap.size, 1, none⟩ = some (.int .i64 3)) := hide fun w' hb' =>
        ⟨hb', (L1.below hb' L1.lt).cell 0 rfl, (L1.below hb' L1.lt).cell 1 rfl⟩
      have bA : Below w1.heap.size w1 w1.drew := Below.drew (Below.refl _ _)
      have hKeep := unhide K _ bA
      clear L1
      go_upto_region 4 with fail
      first | go_region_held3 (fun w' => Below w1.heap.size w1 w' ∧ w'.cell? ⟨w.heap.size, 0, none⟩ = some (.int .i64 n) ∧ w'.cell? ⟨w.heap.size, 1, none⟩ = some (.int .i64 3)) (exact hKeep) (first
        | (go_at_call 23; have hgo := bA; refine (unhide SI _ _).mono ?_; rintro e wa ⟨rfl, ba⟩
           have bB : Below w1.heap.size w1 wa := bA.trans (ba.mono bA.size)
           have hKeep := unhide K _ bB; clear bA hgo ba)) | fail
      all_goals
        go_wp2
        go_ret
        refine ⟨?_, B1.trans (bB.mono B1.size)⟩
        have hs : s = 1 ∨ s = 2 ∨ s = 3 ∨ s = 4 ∨ s = 5 ∨ s = 6 := by omega
        rcases hs with rfl | rfl | rfl | rfl | rfl | rfl <;> rfl
    · go_enter Try.func27, Try.ntmps27
      go_wp2_with fail
      refine (unhide SE _).mono ?_
      rintro e w1 ⟨rfl, b1⟩
      have L1 := L0.below b1 L0.lt
      have B1 := (conf_below _ _).trans (b1.mono (by simp))
      have p0 := L1.cell 0 rfl
      have p1 := L1.cell 1 rfl
      clear L0 b1 SE
      have K : Hid (∀ w', Below w1.heap.size w1 w' → Below w1.heap.size w1 w' ∧ w'.cell? ⟨w.heap.size, 0, none⟩ = some (.int .i64 n) ∧ w'.cell? ⟨w.heap.size, 1, none⟩ = some (.int .i64 4)) := hide fun w' hb' =>
        ⟨hb', (L1.below hb' L1.lt).cell 0 rfl, (L1.below hb' L1.lt).cell 1 rfl⟩
      have bA : Below w1.heap.size w1 w1.drew := Below.drew (Below.refl _ _)
      have hKeep := unhide K _ bA
      clear L1
      go_upto_region 4 with fail
      first | go_region_held3 (fun w' => Below w1.heap.size w1 w' ∧ w'.cell? ⟨w.heap.size, 0, none⟩ = some (.int .i64 n) ∧ w'.cell? ⟨w.heap.size, 1, none⟩ = some (.int .i64 4)) (exact hKeep) (first
        | (go_at_call 23; have hgo := bA; refine (unhide SI _ _).mono ?_; rintro e wa ⟨rfl, ba⟩
           have bB : Below w1.heap.size w1 wa := bA.trans (ba.mono bA.size)
           have hKeep := unhide K _ bB; clear bA hgo ba)) | fail
      all_goals
        go_wp2
        go_ret
        refine ⟨?_, B1.trans (bB.mono B1.size)⟩
        have hs : s = 1 ∨ s = 2 ∨ s = 3 ∨ s = 4 ∨ s = 5 ∨ s = 6 := by omega
        rcases hs with rfl | rfl | rfl | rfl | rfl | rfl <;> rfl
    · go_enter Try.func27, Try.ntmps27
      go_wp2_with fail
      refine (unhide SE _).mono ?_
      rintro e w1 ⟨rfl, b1⟩
      have L1 := L0.below b1 L0.lt
      have B1 := (conf_below _ _).trans (b1.mono (by simp))
      have p0 := L1.cell 0 rfl
      have p1 := L1.cell 1 rfl
      clear L0 b1 SE
      have K : Hid (∀ w', Below w1.heap.size w1 w' → Below w1.heap.size w1 w' ∧ w'.cell? ⟨w.heap.size, 0, none⟩ = some (.int .i64 n) ∧ w'.cell? ⟨w.heap.size, 1, none⟩ = some (.int .i64 5)) := hide fun w' hb' =>
        ⟨hb', (L1.below hb' L1.lt).cell 0 rfl, (L1.below hb' L1.lt).cell 1 rfl⟩
      have bA : Below w1.heap.size w1 w1.drew := Below.drew (Below.refl _ _)
      have hKeep := unhide K _ bA
      clear L1
      go_upto_region 4 with fail
      first | go_region_held3 (fun w' => Below w1.heap.size w1 w' ∧ w'.cell? ⟨w.heap.size, 0, none⟩ = some (.int .i64 n) ∧ w'.cell? ⟨w.heap.size, 1, none⟩ = some (.int .i64 5)) (exact hKeep) (first
        | (go_at_call 23; have hgo := bA; refine (unhide SI _ _).mono ?_; rintro e wa ⟨rfl, ba⟩
           have bB : Below w1.heap.size w1 wa := bA.trans (ba.mono bA.size)
           have hKeep := unhide K _ bB; clear bA hgo ba)) | fail
      all_goals
        go_wp2
        go_ret
        refine ⟨?_, B1.trans (bB.mono B1.size)⟩
        have hs : s = 1 ∨ s = 2 ∨ s = 3 ∨ s = 4 ∨ s = 5 ∨ s = 6 := by omega
        rcases hs with rfl | rfl | rfl | rfl | rfl | rfl <;> rfl
    · go_enter Try.func27, Try.ntmps27
      go_wp2_with fail
      refine (unhide SE _).mono ?_
      rintro e w1 ⟨rfl, b1⟩
      have L1 := L0.below b1 L0.lt
      have B1 := (conf_below _ _).trans (b1.mono (by simp))
      have p0 := L1.cell 0 rfl
      have p1 := L1.cell 1 rfl
      clear L0 b1 SE
      have K : Hid (∀ w', Below w1.heap.size w1 w' → Below w1.heap.size w1 w' ∧ w'.cell? ⟨w.heap.size, 0, none⟩ = some (.int .i64 n) ∧ w'.cell? ⟨w.heap.size, 1, none⟩ = some (.int .i64 6)) := hide fun w' hb' =>
        ⟨hb', (L1.below hb' L1.lt).cell 0 rfl, (L1.below hb' L1.lt).cell 1 rfl⟩
      have bA : Below w1.heap.size w1 w1.drew := Below.drew (Below.refl _ _)
      have hKeep := unhide K _ bA
      clear L1
      go_upto_region 4 with fail
      first | go_region_held3 (fun w' => Below w1.heap.size w1 w' ∧ w'.cell? ⟨w.heap.size, 0, none⟩ = some (.int .i64 n) ∧ w'.cell? ⟨w.heap.size, 1, none⟩ = some (.int .i64 6)) (exact hKeep) (first
        | (go_at_call 23; have hgo := bA; refine (unhide SI _ _).mono ?_; rintro e wa ⟨rfl, ba⟩
           have bB : Below w1.heap.size w1 wa := bA.trans (ba.mono bA.size)
           have hKeep := unhide K _ bB; clear bA hgo ba)) | fail
      all_goals
        go_wp2
        go_ret
        refine ⟨?_, B1.trans (bB.mono B1.size)⟩
        have hs : s = 1 ∨ s = 2 ∨ s = 3 ∨ s = 4 ∨ s = 5 ∨ s = 6 := by omega
        rcases hs with rfl | rfl | rfl | rfl | rfl | rfl <;> rfl

set_option maxHeartbeats 800000 in
set_option maxRecDepth 100000 in
theorem implRoot (n f v : Int) (w : World) :
    Calls Try.prog 29 #[cv n f, .int .i64 v] w fun e w' => e = .returned (.int .i64 (rootI n f v)) ∧ Below w.heap.size w w' := by
  rw [root_sits]
  have SI := hide fun w => implSits n f v 0 w
  have L0 := loc_at w #[.int .i64 n, .int .i64 f] 25 rfl
  go_enter Try.func29, Try.ntmps29
  go_wp2_with fail
  refine (unhide SI _).mono ?_
  rintro e w1 ⟨rfl, b1⟩
  have L1 := L0.below b1 L0.lt
  have B1 := (conf_below _ _).trans (b1.mono (by simp))
  clear L0 b1
  go_wp2
  go_ret
  exact ⟨rfl, B1⟩

set_option maxHeartbeats 800000 in
set_option maxRecDepth 100000 in
theorem specSeat (n f v i : Int) (w : World) :
    Calls Try.prog 26 #[cv n f, .int .i64 v, .int .i64 i] w fun e w' => e = .returned (.int .i64 (seatI n f v i)) ∧ Below w.heap.size w w' := by
  have OK := hide fun w => specConfOk n f w
  have L0 := loc_at w #[.int .i64 n, .int .i64 f] 25 rfl
  by_cases hc : COk n f
  · have hd : decide (COk n f) = true := by simpa using hc
    rw [hd] at OK
    by_cases hv : 0 ≤ v
    · have h1 := hc.1.1
      have h2 := hc.1.2
      by_cases hi : 0 ≤ i ∧ i ≤ n - 1
      · obtain ⟨h3, h4⟩ := hi
        rw [seat_yes (hp_iff.2 ⟨hc, hv, h3, by omega⟩)]
        rcases cok_cases hc with rfl | rfl | rfl | rfl
        all_goals
          clear hc hd
          go_enter Try.func26, Try.ntmps26
          go_wp2_with fail
          refine (unhide OK _).mono ?_
          rintro e w1 ⟨rfl, b1⟩
          have L1 := L0.below b1 L0.lt
          have B1 := (conf_below _ _).trans (b1.mono (by simp))
          have p0 := L1.cell 0 rfl
          have p1 := L1.cell 1 rfl
          clear L0 b1
          go_wp2_with (first | (go_at_call 50; refine (in_yes _ _ _ _ (by omega) (by omega)).mono ?_; rintro e w' ⟨rfl, rfl⟩))
          go_region
          all_goals
            go_wp2
            go_ret
            exact ⟨by go_num, B1.drew⟩
      · rw [seat_no (fun h => hi ⟨(hp_iff.1 h).2.2.1, by have := (hp_iff.1 h).2.2.2; omega⟩)]
        clear hc hd
        go_enter Try.func26, Try.ntmps26
        go_wp2_with fail
        refine (unhide OK _).mono ?_
        rintro e w1 ⟨rfl, b1⟩
        have L1 := L0.below b1 L0.lt
        have B1 := (conf_below _ _).trans (b1.mono (by simp))
        have p0 := L1.cell 0 rfl
        have p1 := L1.cell 1 rfl
        clear L0 b1
        go_wp2_with (first | (go_at_call 50; refine (in_no _ _ _ _ (by omega)).mono ?_; rintro e w' ⟨rfl, rfl⟩))
        go_ret
        exact ⟨rfl, B1⟩
    · rw [seat_no (fun h => hv (hp_iff.1 h).2.1)]
      clear hc hd
      go_enter Try.func26, Try.ntmps26
      go_wp2_with fail
      refine (unhide OK _).mono ?_
      rintro e w1 ⟨rfl, b1⟩
      have L1 := L0.below b1 L0.lt
      have B1 := (conf_below _ _).trans (b1.mono (by simp))
      clear L0 b1
      go_wp2
      go_ret
      exact ⟨rfl, B1⟩
  · have hd : decide (COk n f) = false := by simpa using hc
    rw [hd] at OK
    rw [seat_no (fun h => hc (hp_iff.1 h).1)]
    clear hc hd
    go_enter Try.func26, Try.ntmps26
    go_wp2_with fail
    refine (unhide OK _).mono ?_
    rintro e w1 ⟨rfl, b1⟩
    have L1 := L0.below b1 L0.lt
    have B1 := (conf_below _ _).trans (b1.mono (by simp))
    clear L0 b1
    go_wp2
    go_ret
    exact ⟨rfl, B1⟩

set_option maxHeartbeats 800000 in
set_option maxRecDepth 100000 in
theorem specSits (n f v i : Int) (w : World) :
    Calls Try.prog 24 #[cv n f, .int .i64 v, .int .i64 i] w fun e w' => e = .returned (.int .i64 (sitsI n f v i)) ∧ Below w.heap.size w w' := by
  have OK := hide fun w => specConfOk n f w
  have L0 := loc_at w #[.int .i64 n, .int .i64 f] 25 rfl
  by_cases hc : COk n f
  · have hd : decide (COk n f) = true := by simpa using hc
    rw [hd] at OK
    by_cases hv : 0 ≤ v
    · have h1 := hc.1.1
      have h2 := hc.1.2
      by_cases hi : 0 ≤ i ∧ i ≤ n - 1
      · obtain ⟨h3, h4⟩ := hi
        rw [sits_yes (hp_iff.2 ⟨hc, hv, h3, by omega⟩)]
        rcases cok_cases hc with rfl | rfl | rfl | rfl
        all_goals
          clear hc hd
          go_enter Try.func24, Try.ntmps24
          go_wp2_with fail
          refine (unhide OK _).mono ?_
          rintro e w1 ⟨rfl, b1⟩
          have L1 := L0.below b1 L0.lt
          have B1 := (conf_below _ _).trans (b1.mono (by simp))
          have p0 := L1.cell 0 rfl
          have p1 := L1.cell 1 rfl
          clear L0 b1
          go_wp2_with (first | (go_at_call 50; refine (in_yes _ _ _ _ (by omega) (by omega)).mono ?_; rintro e w' ⟨rfl, rfl⟩))
          go_region
          all_goals
            go_wp2
            go_ret
            exact ⟨by go_num, B1.drew⟩
      · rw [sits_no (fun h => hi ⟨(hp_iff.1 h).2.2.1, by have := (hp_iff.1 h).2.2.2; omega⟩)]
        clear hc hd
        go_enter Try.func24, Try.ntmps24
        go_wp2_with fail
        refine (unhide OK _).mono ?_
        rintro e w1 ⟨rfl, b1⟩
        have L1 := L0.below b1 L0.lt
        have B1 := (conf_below _ _).trans (b1.mono (by simp))
        have p0 := L1.cell 0 rfl
        have p1 := L1.cell 1 rfl
        clear L0 b1
        go_wp2_with (first | (go_at_call 50; refine (in_no _ _ _ _ (by omega)).mono ?_; rintro e w' ⟨rfl, rfl⟩))
        go_ret
        exact ⟨rfl, B1⟩
    · rw [sits_no (fun h => hv (hp_iff.1 h).2.1)]
      clear hc hd
      go_enter Try.func24, Try.ntmps24
      go_wp2_with fail
      refine (unhide OK _).mono ?_
      rintro e w1 ⟨rfl, b1⟩
      have L1 := L0.below b1 L0.lt
      have B1 := (conf_below _ _).trans (b1.mono (by simp))
      clear L0 b1
      go_wp2
      go_ret
      exact ⟨rfl, B1⟩
  · have hd : decide (COk n f) = false := by simpa using hc
    rw [hd] at OK
    rw [sits_no (fun h => hc (hp_iff.1 h).1)]
    clear hc hd
    go_enter Try.func24, Try.ntmps24
    go_wp2_with fail
    refine (unhide OK _).mono ?_
    rintro e w1 ⟨rfl, b1⟩
    have L1 := L0.below b1 L0.lt
    have B1 := (conf_below _ _).trans (b1.mono (by simp))
    clear L0 b1
    go_wp2
    go_ret
    exact ⟨rfl, B1⟩

set_option maxHeartbeats 800000 in
set_option maxRecDepth 100000 in
theorem specUp (n f v i : Int) (w : World) :
    Calls Try.prog 28 #[cv n f, .int .i64 v, .int .i64 i] w fun e w' => e = .returned (.int .i64 (upI n f v i)) ∧ Below w.heap.size w w' := by
  have SE := hide fun w => specSeat n f v i w
  have SI := hide fun s w => specSits n f v s w
  have L0 := loc_at w #[.int .i64 n, .int .i64 f] 25 rfl
  unfold upI
  by_cases h : seatI n f v i ≤ 0
  · rw [if_pos h]
    generalize seatI n f v i = s at *
    go_enter Try.func28, Try.ntmps28
    go_wp2_with fail
    refine (unhide SE _).mono ?_
    rintro e w1 ⟨rfl, b1⟩
    have L1 := L0.below b1 L0.lt
    have B1 := (conf_below _ _).trans (b1.mono (by simp))
    clear L0 b1
    go_wp2
    go_ret
    exact ⟨rfl, B1⟩
  · rw [if_neg h]
    have hh : HP n f v i := hp_seat.2 (by omega)
    have hr := (seat_range hh).2
    obtain ⟨hc, _⟩ := hh.of
    have h2 := hc.1.2
    clear hh
    generalize seatI n f v i = s at *
    have h1 : 1 ≤ s := by omega
    have h3 : s ≤ 6 := by omega
    have h4 := hc.2.1
    have h5 := hc.2.2
    clear hr h hc h2
    have hf : f = 1 ∨ f = 2 ∨ f = 3 ∨ f = 4 ∨ f = 5 ∨ f = 6 := by omega
    rcases hf with rfl | rfl | rfl | rfl | rfl | rfl
    · go_enter Try.func28, Try.ntmps28
      go_wp2_with fail
      refine (unhide SE _).mono ?_
      rintro e w1 ⟨rfl, b1⟩
      have L1 := L0.below b1 L0.lt
      have B1 := (conf_below _ _).trans (b1.mono (by simp))
      have p0 := L1.cell 0 rfl
      have p1 := L1.cell 1 rfl
      clear L0 b1 SE
      have K : Hid (∀ w', Below w1.heap.size w1 w' → Below w1.heap.size w1 w' ∧ w'.cell? ⟨w.heap.size, 0, none⟩ = some (.int .i64 n) ∧ w'.cell? ⟨w.heap.size, 1, none⟩ = some (.int .i64 1)) := hide fun w' hb' =>
        ⟨hb', (L1.below hb' L1.lt).cell 0 rfl, (L1.below hb' L1.lt).cell 1 rfl⟩
      have bA : Below w1.heap.size w1 w1.drew := Below.drew (Below.refl _ _)
      have hKeep := unhide K _ bA
      clear L1
      go_upto_region 4 with fail
      first | go_region_held3 (fun w' => Below w1.heap.size w1 w' ∧ w'.cell? ⟨w.heap.size, 0, none⟩ = some (.int .i64 n) ∧ w'.cell? ⟨w.heap.size, 1, none⟩ = some (.int .i64 1)) (exact hKeep) (first
        | (go_at_call 24; have hgo := bA; refine (unhide SI _ _).mono ?_; rintro e wa ⟨rfl, ba⟩
           have bB : Below w1.heap.size w1 wa := bA.trans (ba.mono bA.size)
           have hKeep := unhide K _ bB; clear bA hgo ba)) | fail
      all_goals
        go_wp2
        go_ret
        refine ⟨?_, B1.trans (bB.mono B1.size)⟩
        have hs : s = 1 ∨ s = 2 ∨ s = 3 ∨ s = 4 ∨ s = 5 ∨ s = 6 := by omega
        rcases hs with rfl | rfl | rfl | rfl | rfl | rfl <;> rfl
    · go_enter Try.func28, Try.ntmps28
      go_wp2_with fail
      refine (unhide SE _).mono ?_
      rintro e w1 ⟨rfl, b1⟩
      have L1 := L0.below b1 L0.lt
      have B1 := (conf_below _ _).trans (b1.mono (by simp))
      have p0 := L1.cell 0 rfl
      have p1 := L1.cell 1 rfl
      clear L0 b1 SE
      have K : Hid (∀ w', Below w1.heap.size w1 w' → Below w1.heap.size w1 w' ∧ w'.cell? ⟨w.heap.size, 0, none⟩ = some (.int .i64 n) ∧ w'.cell? ⟨w.heap.size, 1, none⟩ = some (.int .i64 2)) := hide fun w' hb' =>
        ⟨hb', (L1.below hb' L1.lt).cell 0 rfl, (L1.below hb' L1.lt).cell 1 rfl⟩
      have bA : Below w1.heap.size w1 w1.drew := Below.drew (Below.refl _ _)
      have hKeep := unhide K _ bA
      clear L1
      go_upto_region 4 with fail
      first | go_region_held3 (fun w' => Below w1.heap.size w1 w' ∧ w'.cell? ⟨w.heap.size, 0, none⟩ = some (.int .i64 n) ∧ w'.cell? ⟨w.heap.size, 1, none⟩ = some (.int .i64 2)) (exact hKeep) (first
        | (go_at_call 24; have hgo := bA; refine (unhide SI _ _).mono ?_; rintro e wa ⟨rfl, ba⟩
           have bB : Below w1.heap.size w1 wa := bA.trans (ba.mono bA.size)
           have hKeep := unhide K _ bB; clear bA hgo ba)) | fail
      all_goals
        go_wp2
        go_ret
        refine ⟨?_, B1.trans (bB.mono B1.size)⟩
        have hs : s = 1 ∨ s = 2 ∨ s = 3 ∨ s = 4 ∨ s = 5 ∨ s = 6 := by omega
        rcases hs with rfl | rfl | rfl | rfl | rfl | rfl <;> rfl
    · go_enter Try.func28, Try.ntmps28
      go_wp2_with fail
      refine (unhide SE _).mono ?_
      rintro e w1 ⟨rfl, b1⟩
      have L1 := L0.below b1 L0.lt
      have B1 := (conf_below _ _).trans (b1.mono (by simp))
      have p0 := L1.cell 0 rfl
      have p1 := L1.cell 1 rfl
      clear L0 b1 SE
      have K : Hid (∀ w', Below w1.heap.size w1 w' → Below w1.heap.size w1 w' ∧ w'.cell? ⟨w.heap.size, 0, none⟩ = some (.int .i64 n) ∧ w'.cell? ⟨w.heap.size, 1, none⟩ = some (.int .i64 3)) := hide fun w' hb' =>
        ⟨hb', (L1.below hb' L1.lt).cell 0 rfl, (L1.below hb' L1.lt).cell 1 rfl⟩
      have bA : Below w1.heap.size w1 w1.drew := Below.drew (Below.refl _ _)
      have hKeep := unhide K _ bA
      clear L1
      go_upto_region 4 with fail
      first | go_region_held3 (fun w' => Below w1.heap.size w1 w' ∧ w'.cell? ⟨w.heap.size, 0, none⟩ = some (.int .i64 n) ∧ w'.cell? ⟨w.heap.size, 1, none⟩ = some (.int .i64 3)) (exact hKeep) (first
        | (go_at_call 24; have hgo := bA; refine (unhide SI _ _).mono ?_; rintro e wa ⟨rfl, ba⟩
           have bB : Below w1.heap.size w1 wa := bA.trans (ba.mono bA.size)
           have hKeep := unhide K _ bB; clear bA hgo ba)) | fail
      all_goals
        go_wp2
        go_ret
        refine ⟨?_, B1.trans (bB.mono B1.size)⟩
        have hs : s = 1 ∨ s = 2 ∨ s = 3 ∨ s = 4 ∨ s = 5 ∨ s = 6 := by omega
        rcases hs with rfl | rfl | rfl | rfl | rfl | rfl <;> rfl
    · go_enter Try.func28, Try.ntmps28
      go_wp2_with fail
      refine (unhide SE _).mono ?_
      rintro e w1 ⟨rfl, b1⟩
      have L1 := L0.below b1 L0.lt
      have B1 := (conf_below _ _).trans (b1.mono (by simp))
      have p0 := L1.cell 0 rfl
      have p1 := L1.cell 1 rfl
      clear L0 b1 SE
      have K : Hid (∀ w', Below w1.heap.size w1 w' → Below w1.heap.size w1 w' ∧ w'.cell? ⟨w.heap.size, 0, none⟩ = some (.int .i64 n) ∧ w'.cell? ⟨w.heap.size, 1, none⟩ = some (.int .i64 4)) := hide fun w' hb' =>
        ⟨hb', (L1.below hb' L1.lt).cell 0 rfl, (L1.below hb' L1.lt).cell 1 rfl⟩
      have bA : Below w1.heap.size w1 w1.drew := Below.drew (Below.refl _ _)
      have hKeep := unhide K _ bA
      clear L1
      go_upto_region 4 with fail
      first | go_region_held3 (fun w' => Below w1.heap.size w1 w' ∧ w'.cell? ⟨w.heap.size, 0, none⟩ = some (.int .i64 n) ∧ w'.cell? ⟨w.heap.size, 1, none⟩ = some (.int .i64 4)) (exact hKeep) (first
        | (go_at_call 24; have hgo := bA; refine (unhide SI _ _).mono ?_; rintro e wa ⟨rfl, ba⟩
           have bB : Below w1.heap.size w1 wa := bA.trans (ba.mono bA.size)
           have hKeep := unhide K _ bB; clear bA hgo ba)) | fail
      all_goals
        go_wp2
        go_ret
        refine ⟨?_, B1.trans (bB.mono B1.size)⟩
        have hs : s = 1 ∨ s = 2 ∨ s = 3 ∨ s = 4 ∨ s = 5 ∨ s = 6 := by omega
        rcases hs with rfl | rfl | rfl | rfl | rfl | rfl <;> rfl
    · go_enter Try.func28, Try.ntmps28
      go_wp2_with fail
      refine (unhide SE _).mono ?_
      rintro e w1 ⟨rfl, b1⟩
      have L1 := L0.below b1 L0.lt
      have B1 := (conf_below _ _).trans (b1.mono (by simp))
      have p0 := L1.cell 0 rfl
      have p1 := L1.cell 1 rfl
      clear L0 b1 SE
      have K : Hid (∀ w', Below w1.heap.size w1 w' → Below w1.heap.size w1 w' ∧ w'.cell? ⟨w.heap.size, 0, none⟩ = some (.int .i64 n) ∧ w'.cell? ⟨w.heap.size, 1, none⟩ = some (.int .i64 5)) := hide fun w' hb' =>
        ⟨hb', (L1.below hb' L1.lt).cell 0 rfl, (L1.below hb' L1.lt).cell 1 rfl⟩
      have bA : Below w1.heap.size w1 w1.drew := Below.drew (Below.refl _ _)
      have hKeep := unhide K _ bA
      clear L1
      go_upto_region 4 with fail
      first | go_region_held3 (fun w' => Below w1.heap.size w1 w' ∧ w'.cell? ⟨w.heap.size, 0, none⟩ = some (.int .i64 n) ∧ w'.cell? ⟨w.heap.size, 1, none⟩ = some (.int .i64 5)) (exact hKeep) (first
        | (go_at_call 24; have hgo := bA; refine (unhide SI _ _).mono ?_; rintro e wa ⟨rfl, ba⟩
           have bB : Below w1.heap.size w1 wa := bA.trans (ba.mono bA.size)
           have hKeep := unhide K _ bB; clear bA hgo ba)) | fail
      all_goals
        go_wp2
        go_ret
        refine ⟨?_, B1.trans (bB.mono B1.size)⟩
        have hs : s = 1 ∨ s = 2 ∨ s = 3 ∨ s = 4 ∨ s = 5 ∨ s = 6 := by omega
        rcases hs with rfl | rfl | rfl | rfl | rfl | rfl <;> rfl
    · go_enter Try.func28, Try.ntmps28
      go_wp2_with fail
      refine (unhide SE _).mono ?_
      rintro e w1 ⟨rfl, b1⟩
      have L1 := L0.below b1 L0.lt
      have B1 := (conf_below _ _).trans (b1.mono (by simp))
      have p0 := L1.cell 0 rfl
      have p1 := L1.cell 1 rfl
      clear L0 b1 SE
      have K : Hid (∀ w', Below w1.heap.size w1 w' → Below w1.heap.size w1 w' ∧ w'.cell? ⟨w.heap.size, 0, none⟩ = some (.int .i64 n) ∧ w'.cell? ⟨w.heap.size, 1, none⟩ = some (.int .i64 6)) := hide fun w' hb' =>
        ⟨hb', (L1.below hb' L1.lt).cell 0 rfl, (L1.below hb' L1.lt).cell 1 rfl⟩
      have bA : Below w1.heap.size w1 w1.drew := Below.drew (Below.refl _ _)
      have hKeep := unhide K _ bA
      clear L1
      go_upto_region 4 with fail
      first | go_region_held3 (fun w' => Below w1.heap.size w1 w' ∧ w'.cell? ⟨w.heap.size, 0, none⟩ = some (.int .i64 n) ∧ w'.cell? ⟨w.heap.size, 1, none⟩ = some (.int .i64 6)) (exact hKeep) (first
        | (go_at_call 24; have hgo := bA; refine (unhide SI _ _).mono ?_; rintro e wa ⟨rfl, ba⟩
           have bB : Below w1.heap.size w1 wa := bA.trans (ba.mono bA.size)
           have hKeep := unhide K _ bB; clear bA hgo ba)) | fail
      all_goals
        go_wp2
        go_ret
        refine ⟨?_, B1.trans (bB.mono B1.size)⟩
        have hs : s = 1 ∨ s = 2 ∨ s = 3 ∨ s = 4 ∨ s = 5 ∨ s = 6 := by omega
        rcases hs with rfl | rfl | rfl | rfl | rfl | rfl <;> rfl

theorem root_yes {n f v : Int} (h : HP n f v 0) : rootI n f v = v % n := if_pos h
theorem root_no {n f v : Int} (h : ¬ HP n f v 0) : rootI n f v = -1 := if_neg h

set_option maxHeartbeats 800000 in
set_option maxRecDepth 100000 in
theorem specRoot (n f v : Int) (w : World) :
    Calls Try.prog 30 #[cv n f, .int .i64 v] w fun e w' => e = .returned (.int .i64 (rootI n f v)) ∧ Below w.heap.size w w' := by
  have OK := hide fun w => specConfOk n f w
  have L0 := loc_at w #[.int .i64 n, .int .i64 f] 25 rfl
  by_cases hc : COk n f
  · have hd : decide (COk n f) = true := by simpa using hc
    rw [hd] at OK
    by_cases hv : 0 ≤ v
    · have h1 := hc.1.1
      rw [root_yes (hp_iff.2 ⟨hc, hv, by omega, by omega⟩)]
      rcases cok_cases hc with rfl | rfl | rfl | rfl
      all_goals
        clear hc hd
        go_enter Try.func30, Try.ntmps30
        go_wp2_with fail
        refine (unhide OK _).mono ?_
        rintro e w1 ⟨rfl, b1⟩
        have L1 := L0.below b1 L0.lt
        have B1 := (conf_below _ _).trans (b1.mono (by simp))
        have p0 := L1.cell 0 rfl
        have p1 := L1.cell 1 rfl
        clear L0 b1
        go_wp2
        go_ret
        exact ⟨by go_num, B1⟩
    · rw [root_no (fun h => hv (hp_iff.1 h).2.1)]
      clear hc hd
      go_enter Try.func30, Try.ntmps30
      go_wp2_with fail
      refine (unhide OK _).mono ?_
      rintro e w1 ⟨rfl, b1⟩
      have L1 := L0.below b1 L0.lt
      have B1 := (conf_below _ _).trans (b1.mono (by simp))
      clear L0 b1
      go_wp2
      go_ret
      exact ⟨rfl, B1⟩
  · have hd : decide (COk n f) = false := by simpa using hc
    rw [hd] at OK
    rw [root_no (fun h => hc (hp_iff.1 h).1)]
    clear hc hd
    go_enter Try.func30, Try.ntmps30
    go_wp2_with fail
    refine (unhide OK _).mono ?_
    rintro e w1 ⟨rfl, b1⟩
    have L1 := L0.below b1 L0.lt
    have B1 := (conf_below _ _).trans (b1.mono (by simp))
    clear L0 b1
    go_wp2
    go_ret
    exact ⟨rfl, B1⟩
end Go.Proofs.Ytkjmkcipalmonaa
