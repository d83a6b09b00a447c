/- The walk of laws.FnExactPoolAdd. -/
import Derived.Test.YthdehhenkgkkmaaSpecPoolAdd
import Derived.Test.YthdehhenkgkkmaaMarkTxP
namespace Go.Proofs.Ythdehhenkgkkmaa
open Go.RowKit
set_option linter.unusedSectionVars false
variable [∀ (a b c d : Int), Decidable (Ok4 a b c d)]
variable [∀ (m a b c d : Int), Decidable (In4 m a b c d)]
variable [∀ (xs ys : List Int), Decidable (LOk xs ys)]
variable [∀ (x y : T4), Decidable (Bef x y)]
variable [∀ (ts : List T4), Decidable (Asc ts)]
variable [∀ (ts : List T4), Decidable (AllOk ts)]
variable [∀ (ts : List T4), Decidable (POk ts)]

theorem tmark_one (base : Nat) (v : Value) (xs : List T4) (w : World) (hl : xs.length ≤ 4194304) (h : OT w base v xs) :
    Calls Try.prog 15 #[v, .int .i64 1] w fun e w' => e = .returned (.int .i64 (1 + xs.length * 4)) ∧ OT w' base v (tmarks 1 xs.length) ∧ w.grownBy w' v.ownBlock := tmark_any base 1 v xs w hl (by omega) h
theorem theld_one (v : Value) (n : Nat) (w : World) (hn : n ≤ 4194304) (h : RT w v (tmarks 1 n)) :
    Calls Try.prog 16 #[v, .int .i64 1] w fun e w' => e = .returned (.int .i64 (1 + n * 4)) ∧ Below w.heap.size w w' := theld_row v n 1 w hn (by omega) h

set_option maxHeartbeats 400000 in
set_option maxRecDepth 100000 in
theorem fnPoolAdd_long (ao : Option Addr) (n ca : Nat) (a b c d : Int) (w : World) (h : 1048576 < n) (hn : n ≤ 9223372036854775807) :
    Calls Try.prog 4 #[.slice ao n ca, txv a b c d] w fun e w' => e = .returned (.bool true) ∧ Below w.heap.size w w' := by
  go_enter Try.func4, Try.ntmps4
  go_wp2_with fail
  refine (szTxS_no _ _ _ _ _ (by omega) (by omega) (by omega) hn).mono ?_
  rintro e w2 ⟨rfl, rfl⟩
  go_wp2
  go_ret
  exact ⟨rfl, (Below.refl _ _).alloc (Nat.le_refl _) _⟩

set_option maxHeartbeats 8000000 in
set_option maxRecDepth 100000 in
theorem fnPoolAdd_short (ao : Option Addr) (ca : Nat) (ts : List T4) (a b c d : Int) (w : World) (h : ts.length ≤ 1048576) (hl : AR w ao ts) :
    Calls Try.prog 4 #[.slice ao ts.length ca, txv a b c d] w fun e w' => e = .returned (.bool true) ∧ Below w.heap.size w w' := by
  have hd : decide ((1048576 : Int) - (ts.length : Int) < 0) = false := by simp; omega
  have RL : Hid (∀ w', Below w.heap.size w w' → AR w' ao ts) := hide fun w' hb' => hl.below hb'
  have SP := hide fun p w h1 h2 => specPoolAdd p ts (a, b, c, d) w h1 h2 (by omega)
  have IM := hide fun p w h1 h2 => implPoolAdd p ts (a, b, c, d) w h1 h2 (by omega)
  have TT := hide fun w h => toTxS_any ao ca ts w (by omega) h
  have hr := addAns_len ts (a, b, c, d)
  dsimp only at SP IM
  generalize addAns ts (a, b, c, d) = r at *
  have hk1 : decide ((1 : Int) + (ts.length : Int) * 4 < 0) = false := by simp; omega
  have hk2 : decide ((1 : Int) + (r.1.length : Int) * 4 < 0) = false := by simp; omega
  obtain ⟨w0, hw0⟩ : ∃ w0, w.alloc (.cells (r4 a b c d) 30) = w0 := ⟨_, rfl⟩
  have Bw0 : Below w.heap.size w w0 := hw0 ▸ (Below.refl w.heap.size w).alloc (Nat.le_refl _) _
  have L : Loc w0 w.heap.size (r4 a b c d) := hw0 ▸ loc_at w _ _ rfl
  have lL := L.lt
  clear hl
  go_enter Try.func4, Try.ntmps4
  go_wp2_with fail
  clear hw0
  refine (szTxS_yes _ _ _ _ _ (by omega) (by omega)).mono ?_
  rintro _ w9 ⟨rfl, e9⟩
  rw [e9]
  clear e9
  have K : Hid (∀ w', Below w0.heap.size w0 w' → (w'.cell? ⟨w.heap.size, 0, none⟩ = some (.int .i64 a) ∧ w'.cell? ⟨w.heap.size, 1, none⟩ = some (.int .i64 b) ∧ w'.cell? ⟨w.heap.size, 2, none⟩ = some (.int .i64 c) ∧ w'.cell? ⟨w.heap.size, 3, none⟩ = some (.int .i64 d))) := hide fun w' hb => (L.below hb L.lt).cells4
  have bA : Below w0.heap.size w0 w0.drew := Below.drew (Below.refl _ _)
  go_wp2_with fail
  refine wp_region_noPanic ?_
  refine wp_region_held_drew (S := (fun w' => (w'.cell? ⟨w.heap.size, 0, none⟩ = some (.int .i64 a) ∧ w'.cell? ⟨w.heap.size, 1, none⟩ = some (.int .i64 b) ∧ w'.cell? ⟨w.heap.size, 2, none⟩ = some (.int .i64 c) ∧ w'.cell? ⟨w.heap.size, 3, none⟩ = some (.int .i64 d)))) (by kernel_rfl) (unhide K _ bA) (fun hHeld => ?_)
  refine take_at (i := 0) (d := 22) (v := ?_) rfl rfl (by kernel_rfl) (by kernel_rfl) (by kernel_rfl) (fun _ _ _ h => h) (Or.inl ⟨by rfl, ?_⟩) (by assumption) ?_
  rotate_left
  · intro w hSw
    try dsimp only at hSw
    go_simp
    try with_reducible rfl
  simp only [Act.put, List.setIfInBounds_toArray, List.set_cons_zero, List.set_cons_succ]
  refine take_at (i := 2) (d := 24) (v := ?_) rfl rfl (by kernel_rfl) (by kernel_rfl) (by kernel_rfl) (fun _ _ _ h => h) (Or.inl ⟨by rfl, ?_⟩) (by assumption) ?_
  rotate_left
  · intro w hSw
    try dsimp only at hSw
    go_simp
    try with_reducible rfl
  simp only [Act.put, List.setIfInBounds_toArray, List.set_cons_zero, List.set_cons_succ]
  refine ready_at (i := 1) rfl (by kernel_rfl) (fun KK hKK => ?_)
  go_simp
  refine (unhide TT _ (unhide RL _ (Bw0.trans (bA.mono Bw0.size)))).mono ?_
  rintro _ wa ⟨la, rfl, ota, ba⟩
  have bB : Below w0.heap.size w0 wa := bA.trans ba
  clear hHeld
  refine hKK.out _ _ (unhide K _ bB) (fun hHeld => ?_)
  clear hKK KK
  refine ready_at (i := 3) rfl (by kernel_rfl) (fun KK hKK => ?_)
  go_simp
  refine (toTx_any a b c d _).mono ?_
  rintro _ wb ⟨rfl, bb⟩
  have bC : Below w0.heap.size w0 wb := bB.trans (bb.mono bB.size)
  replace ota := ota.below bb
  clear hHeld
  refine hKK.out _ _ (unhide K _ bC) (fun hHeld => ?_)
  clear hKK KK
  refine ready_at (i := 4) rfl (by kernel_rfl) (fun KK hKK => ?_)
  go_simp
  refine (unhide SP _ _ (ota.rt (by omega)) ota.capped).mono ?_
  rintro _ w1 ⟨us, rfl, os, bd⟩
  have bD : Below w0.heap.size w0 w1 := bC.trans (bd.mono bC.size)
  clear hHeld
  refine hKK.out _ _ (unhide K _ bD) (fun hHeld => ?_)
  clear hKK KK
  refine take_at (i := 5) (d := 21) (v := ?_) rfl rfl (by kernel_rfl) (by kernel_rfl) (by kernel_rfl) (fun _ _ _ h => h) (Or.inl ⟨by rfl, ?_⟩) (by assumption) ?_
  rotate_left
  · intro w hSw
    try dsimp only at hSw
    go_simp
    try with_reducible rfl
  simp only [Act.put, List.setIfInBounds_toArray, List.set_cons_zero, List.set_cons_succ]
  refine take_at (i := 6) (d := 27) (v := ?_) rfl rfl (by kernel_rfl) (by kernel_rfl) (by kernel_rfl) (fun _ _ _ h => h) (Or.inl ⟨by rfl, ?_⟩) (by assumption) ?_
  rotate_left
  · intro w hSw
    try dsimp only at hSw
    go_simp
    try with_reducible rfl
  simp only [Act.put, List.setIfInBounds_toArray, List.set_cons_zero, List.set_cons_succ]
  refine take_at (i := 7) (d := 28) (v := ?_) rfl rfl (by kernel_rfl) (by kernel_rfl) (by kernel_rfl) (fun _ _ _ h => h) (Or.inl ⟨by rfl, ?_⟩) (by assumption) ?_
  rotate_left
  · intro w hSw
    try dsimp only at hSw
    go_simp
    try with_reducible rfl
  simp only [Act.put, List.setIfInBounds_toArray, List.set_cons_zero, List.set_cons_succ]
  refine take_at (i := 8) (d := 6) (v := ?_) rfl rfl (by kernel_rfl) (by kernel_rfl) (by kernel_rfl) (fun _ _ _ h => h) (Or.inl ⟨by rfl, ?_⟩) (by assumption) ?_
  rotate_left
  · intro w hSw
    try dsimp only at hSw
    go_simp
    try with_reducible rfl
  simp only [Act.put, List.setIfInBounds_toArray, List.set_cons_zero, List.set_cons_succ]
  refine take_at (i := 9) (d := 7) (v := ?_) rfl rfl (by kernel_rfl) (by kernel_rfl) (by kernel_rfl) (fun _ _ _ h => h) (Or.inl ⟨by rfl, ?_⟩) (by assumption) ?_
  rotate_left
  · intro w hSw
    try dsimp only at hSw
    go_simp
    try with_reducible rfl
  simp only [Act.put, List.setIfInBounds_toArray, List.set_cons_zero, List.set_cons_succ]
  clear hHeld
  refine wpAnyH_done (by kernel_rfl) ?_ _
  refine NoPanic.normal ?_
  have Bw1 := Bw0.trans (bD.mono Bw0.size)
  have sw1 := bD.size
  replace L := L.below bD L.lt
  clear Bw0
  have sC := bC.size
  clear K bA bB bC bD ba bb bd ota
  have tos : ∀ j, us.ownBlock = some j → w0.heap.size ≤ j ∧ j < w1.heap.size := fun j hj => by have := World.ownsRow.lt os j hj; omega
  clear sC
  go_wp2_with fail
  refine (unhide TT _ (unhide RL _ Bw1)).mono ?_
  rintro _ w2 ⟨lx, rfl, ox, bb⟩
  have Bw2 := Bw1.trans (bb.mono Bw1.size)
  have sw2 := bb.size
  replace L := L.below bb L.lt
  replace os := os.below bb
  clear Bw1
  clear bb
  have tox : ∀ j, lx.ownBlock = some j → w1.heap.size ≤ j ∧ j < w2.heap.size := World.ownsRow.lt ox
  obtain ⟨q0, q1, q2, q3⟩ := L.cells4
  go_wp2_with fail
  refine (toTx_any a b c d _).mono ?_
  rintro _ w3 ⟨rfl, bb⟩
  have Bw3 := Bw2.trans (bb.mono Bw2.size)
  have sw3 := bb.size
  replace L := L.below bb L.lt
  replace os := os.below bb
  replace ox := ox.below bb
  clear Bw2
  clear bb
  clear q0 q1 q2 q3
  go_wp2_with fail
  refine (unhide IM _ _ (ox.rt (by omega)) ox.capped).mono ?_
  rintro _ w4 ⟨ug, rfl, og, bb⟩
  have Bw4 := Bw3.trans (bb.mono Bw3.size)
  have sw4 := bb.size
  replace L := L.below bb L.lt
  replace os := os.below bb
  replace ox := ox.below bb
  clear Bw3
  clear bb
  have tog : ∀ j, ug.ownBlock = some j → w3.heap.size ≤ j ∧ j < w4.heap.size := World.ownsRow.lt og
  go_wp2_with fail
  refine (eqTxS_yes _ _ r.1 _ (og.rt (by omega)) (os.rt (by omega))).mono ?_
  rintro _ w5 ⟨rfl, bb⟩
  have Bw5 := Bw4.trans (bb.mono Bw4.size)
  have sw5 := bb.size
  replace L := L.below bb L.lt
  replace os := os.below bb
  replace ox := ox.below bb
  replace og := og.below bb
  clear Bw4
  clear bb
  go_wp2_with fail
  refine (unhide TT _ (unhide RL _ Bw5)).mono ?_
  rintro _ w6 ⟨ly, rfl, oy, bb⟩
  have Bw6 := Bw5.trans (bb.mono Bw5.size)
  have sw6 := bb.size
  replace L := L.below bb L.lt
  replace os := os.below bb
  replace ox := ox.below bb
  replace og := og.below bb
  clear Bw5
  clear bb
  have hry := oy.rt (by omega)
  clear oy
  go_wp2_with fail
  refine (eqTxS_yes _ _ ts _ (ox.rt (by omega)) hry).mono ?_
  rintro _ w7 ⟨rfl, bb⟩
  have Bw7 := Bw6.trans (bb.mono Bw6.size)
  have sw7 := bb.size
  replace L := L.below bb L.lt
  replace os := os.below bb
  replace ox := ox.below bb
  replace og := og.below bb
  clear Bw6
  clear bb
  clear hry
  go_wp2_with fail
  refine (tmark_one _ lx ts _ (by omega) ox).mono ?_
  rintro _ w8 ⟨rfl, _, gm⟩
  have km := kp_grown gm
  clear ox
  have Bw8 := Below.kp Bw7 km Bw7.size (fun k hk => by have := tox _ hk; omega)
  have sw8 := km.size
  replace L := L.kp km (fun h => by have := tox _ h; omega)
  replace os := os.kp km (fun j hj h => by have := tos j hj; have := tox _ h; omega)
  replace og := og.kp km (fun j hj h => by have := tog j hj; have := tox _ h; omega)
  clear Bw7
  clear km gm
  go_wp2_with fail
  refine (eqTxS_yes _ _ r.1 _ (og.rt (by omega)) (os.rt (by omega))).mono ?_
  rintro _ w9 ⟨rfl, bb⟩
  have Bw9 := Bw8.trans (bb.mono Bw8.size)
  have sw9 := bb.size
  replace L := L.below bb L.lt
  replace os := os.below bb
  replace og := og.below bb
  clear Bw8
  clear bb
  go_wp2_with fail
  refine (tmark_one _ ug r.1 _ (by omega) og).mono ?_
  rintro _ w10 ⟨rfl, om, gm⟩
  have km := kp_grown gm
  clear og
  have Bw10 := Below.kp Bw9 km Bw9.size (fun k hk => by have := tog _ hk; omega)
  have sw10 := km.size
  replace L := L.kp km (fun h => by have := tog _ h; omega)
  replace os := os.kp km (fun j hj h => by have := tos j hj; have := tog _ h; omega)
  clear Bw9
  clear km gm
  go_wp2_with fail
  refine (theld_one _ r.1.length _ (by omega) (om.rt (by rw [tmarks_len]; omega))).mono ?_
  rintro _ w11 ⟨rfl, bb⟩
  have Bw11 := Bw10.trans (bb.mono Bw10.size)
  have sw11 := bb.size
  replace L := L.below bb L.lt
  replace os := os.below bb
  replace om := om.below bb
  clear Bw10
  clear bb
  have K : Hid (∀ w', Below w11.heap.size w11 w' → (w'.cell? ⟨w.heap.size, 0, none⟩ = some (.int .i64 a) ∧ w'.cell? ⟨w.heap.size, 1, none⟩ = some (.int .i64 b) ∧ w'.cell? ⟨w.heap.size, 2, none⟩ = some (.int .i64 c) ∧ w'.cell? ⟨w.heap.size, 3, none⟩ = some (.int .i64 d))) := hide fun w' hb => (L.below hb L.lt).cells4
  have bA : Below w11.heap.size w11 w11.drew := Below.drew (Below.refl _ _)
  go_wp2_with fail
  refine wp_region_noPanic ?_
  refine wp_region_held_drew (S := (fun w' => (w'.cell? ⟨w.heap.size, 0, none⟩ = some (.int .i64 a) ∧ w'.cell? ⟨w.heap.size, 1, none⟩ = some (.int .i64 b) ∧ w'.cell? ⟨w.heap.size, 2, none⟩ = some (.int .i64 c) ∧ w'.cell? ⟨w.heap.size, 3, none⟩ = some (.int .i64 d)))) (by kernel_rfl) (unhide K _ bA) (fun hHeld => ?_)
  refine take_at (i := 0) (d := 80) (v := ?_) rfl rfl (by kernel_rfl) (by kernel_rfl) (by kernel_rfl) (fun _ _ _ h => h) (Or.inl ⟨by rfl, ?_⟩) (by assumption) ?_
  rotate_left
  · intro w hSw
    try dsimp only at hSw
    go_simp
    try with_reducible rfl
  simp only [Act.put, List.setIfInBounds_toArray, List.set_cons_zero, List.set_cons_succ]
  refine take_at (i := 2) (d := 82) (v := ?_) rfl rfl (by kernel_rfl) (by kernel_rfl) (by kernel_rfl) (fun _ _ _ h => h) (Or.inl ⟨by rfl, ?_⟩) (by assumption) ?_
  rotate_left
  · intro w hSw
    try dsimp only at hSw
    go_simp
    try with_reducible rfl
  simp only [Act.put, List.setIfInBounds_toArray, List.set_cons_zero, List.set_cons_succ]
  refine ready_at (i := 1) rfl (by kernel_rfl) (fun KK hKK => ?_)
  go_simp
  refine (unhide TT _ (unhide RL _ (Bw11.trans (bA.mono Bw11.size)))).mono ?_
  rintro _ wa ⟨la, rfl, ota, ba⟩
  have bB : Below w11.heap.size w11 wa := bA.trans ba
  clear hHeld
  refine hKK.out _ _ (unhide K _ bB) (fun hHeld => ?_)
  clear hKK KK
  refine ready_at (i := 3) rfl (by kernel_rfl) (fun KK hKK => ?_)
  go_simp
  refine (toTx_any a b c d _).mono ?_
  rintro _ wb ⟨rfl, bb⟩
  have bC : Below w11.heap.size w11 wb := bB.trans (bb.mono bB.size)
  replace ota := ota.below bb
  clear hHeld
  refine hKK.out _ _ (unhide K _ bC) (fun hHeld => ?_)
  clear hKK KK
  refine ready_at (i := 4) rfl (by kernel_rfl) (fun KK hKK => ?_)
  go_simp
  refine (unhide IM _ _ (ota.rt (by omega)) ota.capped).mono ?_
  rintro _ w12 ⟨uh, rfl, oh, bd⟩
  have bD : Below w11.heap.size w11 w12 := bC.trans (bd.mono bC.size)
  clear hHeld
  refine hKK.out _ _ (unhide K _ bD) (fun hHeld => ?_)
  clear hKK KK
  refine take_at (i := 5) (d := 79) (v := ?_) rfl rfl (by kernel_rfl) (by kernel_rfl) (by kernel_rfl) (fun _ _ _ h => h) (Or.inl ⟨by rfl, ?_⟩) (by assumption) ?_
  rotate_left
  · intro w hSw
    try dsimp only at hSw
    go_simp
    try with_reducible rfl
  simp only [Act.put, List.setIfInBounds_toArray, List.set_cons_zero, List.set_cons_succ]
  refine take_at (i := 6) (d := 85) (v := ?_) rfl rfl (by kernel_rfl) (by kernel_rfl) (by kernel_rfl) (fun _ _ _ h => h) (Or.inl ⟨by rfl, ?_⟩) (by assumption) ?_
  rotate_left
  · intro w hSw
    try dsimp only at hSw
    go_simp
    try with_reducible rfl
  simp only [Act.put, List.setIfInBounds_toArray, List.set_cons_zero, List.set_cons_succ]
  refine take_at (i := 7) (d := 86) (v := ?_) rfl rfl (by kernel_rfl) (by kernel_rfl) (by kernel_rfl) (fun _ _ _ h => h) (Or.inl ⟨by rfl, ?_⟩) (by assumption) ?_
  rotate_left
  · intro w hSw
    try dsimp only at hSw
    go_simp
    try with_reducible rfl
  simp only [Act.put, List.setIfInBounds_toArray, List.set_cons_zero, List.set_cons_succ]
  refine take_at (i := 8) (d := 14) (v := ?_) rfl rfl (by kernel_rfl) (by kernel_rfl) (by kernel_rfl) (fun _ _ _ h => h) (Or.inl ⟨by rfl, ?_⟩) (by assumption) ?_
  rotate_left
  · intro w hSw
    try dsimp only at hSw
    go_simp
    try with_reducible rfl
  simp only [Act.put, List.setIfInBounds_toArray, List.set_cons_zero, List.set_cons_succ]
  refine take_at (i := 9) (d := 15) (v := ?_) rfl rfl (by kernel_rfl) (by kernel_rfl) (by kernel_rfl) (fun _ _ _ h => h) (Or.inl ⟨by rfl, ?_⟩) (by assumption) ?_
  rotate_left
  · intro w hSw
    try dsimp only at hSw
    go_simp
    try with_reducible rfl
  simp only [Act.put, List.setIfInBounds_toArray, List.set_cons_zero, List.set_cons_succ]
  clear hHeld
  refine wpAnyH_done (by kernel_rfl) ?_ _
  refine NoPanic.normal ?_
  have Bw12 := Bw11.trans (bD.mono Bw11.size)
  have sw12 := bD.size
  replace L := L.below bD L.lt
  replace os := os.below bD
  replace om := om.below bD
  clear Bw11
  have sC := bC.size
  clear K bA bB bC bD ba bb bd ota
  clear sC
  go_wp2_with fail
  refine (eqTxS_yes _ _ r.1 _ (oh.rt (by omega)) (os.rt (by omega))).mono ?_
  rintro _ w13 ⟨rfl, bb⟩
  have Bw13 := Bw12.trans (bb.mono Bw12.size)
  have sw13 := bb.size
  replace L := L.below bb L.lt
  replace os := os.below bb
  replace om := om.below bb
  replace oh := oh.below bb
  clear Bw12
  clear bb
  go_wp2_with fail
  refine (theld_one _ r.1.length _ (by omega) (om.rt (by rw [tmarks_len]; omega))).mono ?_
  rintro _ w14 ⟨rfl, bb⟩
  have Bw14 := Bw13.trans (bb.mono Bw13.size)
  have sw14 := bb.size
  replace L := L.below bb L.lt
  replace os := os.below bb
  replace om := om.below bb
  replace oh := oh.below bb
  clear Bw13
  clear bb
  go_wp2
  go_ret
  exact ⟨rfl, Bw14⟩

theorem fnPoolAdd_walk (ao : Option Addr) (ca : Nat) (ts : List T4) (a b c d : Int) (w : World) (ht : ts.length ≤ maxLen) (hl : AR w ao ts) :
    Calls Try.prog 4 #[.slice ao ts.length ca, txv a b c d] w fun e w' => e = .returned (.bool true) ∧ Below w.heap.size w w' := by
  unfold maxLen at ht
  by_cases h : ts.length ≤ 1048576
  · exact fnPoolAdd_short ao ca ts a b c d w h hl
  · exact fnPoolAdd_long ao ts.length ca a b c d w (by omega) (by omega)
end Go.Proofs.Ythdehhenkgkkmaa
