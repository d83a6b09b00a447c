/- The walk of laws.FnQuorums. -/
import Derived.Test.YtdgadkinkalcpaaGreatDoorDrawTwoQQ
import Derived.Test.YtdgadkinkalcpaaGreatDoorQcPlainQ
import Derived.Test.YtdgadkinkalcpaaGreatDoorBunJ
import Derived.Test.YtdgadkinkalcpaaGreatDoorQcOpenQ
import Derived.Test.YtdgadkinkalcpaaGreatDoorBunI
import Derived.Deep.DeepCutAuto
/- The walk of laws.FnQuorums. -/
namespace Go.Proofs.YtdgadkinkalcpaaGreatDoor
open Go.RowKit
set_option linter.unusedSectionVars false
variable [∀ (a b c d : Int), Decidable (Ok4 a b c d)]
variable [∀ (a b c d : Nat), Decidable (okN a b c d)]
variable [∀ (x : T4), Decidable (OkT x)]
variable [∀ (n f : Int), Decidable (COk n f)]
variable [∀ (last : Int) (s : St), Decidable (GoodSt last s)]
variable [∀ (n : Int) (s : List Int), Decidable (OkL n s)]

theorem alike_self (n : Int) (s : ByteArray) (xs : List Int) : alikeB n n s s xs xs = true := by simp [alikeB]
theorem big_no5 (ao : Option Addr) (n ca : Nat) (w : World) (h : n ≤ 1048576) :
    Calls Tryz.prog 5 #[.slice ao n ca] w fun e w' => e = .returned (.bool false) ∧ w' = w := by
  have hd : decide ((1048576 : Int) < (n : Int)) = false := by simp; omega
  go_enter Tryz.func5, Tryz.ntmps5
  go_wp2
  go_ret
  exact ⟨rfl, rfl⟩
theorem big_yes5 (ao : Option Addr) (n ca : Nat) (w : World) (h : 1048576 < n) :
    Calls Tryz.prog 5 #[.slice ao n ca] w fun e w' => e = .returned (.bool true) ∧ w' = w := by
  have hd : decide ((1048576 : Int) < (n : Int)) = true := by simp; omega
  go_enter Tryz.func5, Tryz.ntmps5
  go_wp2
  go_ret
  exact ⟨rfl, rfl⟩

set_option maxHeartbeats 800000 in
set_option maxRecDepth 100000 in
theorem fnQuorums_big (ao : Option Addr) (n ca : Nat) (w : World) (h : 1048576 < n) :
    Calls Tryz.prog 3 #[.slice ao n ca] w fun e w' => e = .returned (.bool true) ∧ Below w.heap.size w w' := by
  have BG := hide fun w => big_yes5 ao n ca w h
  go_enter Tryz.func3, Tryz.ntmps3
  go_wp2_with fail
  refine (unhide BG _).mono ?_
  rintro e w1 ⟨rfl, rfl⟩
  go_wp2
  go_ret
  exact ⟨rfl, Below.refl _ _⟩

set_option maxHeartbeats 32000000 in
set_option maxRecDepth 100000 in
theorem fnQuorums_small (ao : Option Addr) (ca : Nat) (zs : List Int) (w : World) (h : DCode w ao zs) (hE : Env w) :
    Calls Tryz.prog 3 #[.slice ao zs.length ca] w fun e w' => e = .returned (.bool true) ∧ Below w.heap.size w w' := by
  have BG := hide fun w => big_no5 ao zs.length ca w h.len
  have DR := hide fun w h => drawQcOk ao ca zs w h
  have DL := hide fun w h => drawQcLater ao ca zs w h
  have HC := hide h
  have HE := hide hE
  clear h hE
  have Bw := Below.refl w.heap.size w
  go_enter Tryz.func3, Tryz.ntmps3
  go_wp2_with fail
  refine (unhide BG _).mono ?_
  rintro _ w9 ⟨rfl, e9⟩
  rw [e9]
  clear e9 BG
  go_wp2_with fail
  refine (unhide DR _ ((unhide HC).below Bw (Nat.le_refl _))).mono ?_
  rintro _ w1 ⟨n, f, v, s, uQ, xs, rfl, hs, hl, hw, oQ, bb⟩
  have Bw1 := Bw.trans (bb.mono Bw.size)
  have sw1 := bb.size
  clear Bw
  clear bb
  have toQ := World.ownsRow.lt oQ
  obtain ⟨aoQ, koQ, rfl⟩ := oQ.form
  go_wp2_with fail
  obtain ⟨w2, hw2⟩ : ∃ y, (w1.alloc (.cells #[.int .i64 n, .int .i64 f] 25)).alloc (.cells #[.int .i64 v, .string s, .slice aoQ xs.length koQ] 28) = y := ⟨_, rfl⟩
  have bb : Below w1.heap.size w1 w2 := hw2 ▸ qalloc2 _ _ _
  have LC : Loc w2 w1.heap.size #[.int .i64 n, .int .i64 f] := hw2 ▸ (loc_at w1 _ _ rfl).alloc _
  have LQ : Loc w2 (w1.heap.size + 1) #[.int .i64 v, .string s, .slice aoQ xs.length koQ] := hw2 ▸ loc_at (w1.alloc _) _ _ (by simp)
  have zw2 : w1.heap.size + 1 + 1 ≤ w2.heap.size := by rw [← hw2]; simp
  rw [hw2]
  clear hw2
  have Bw2 := Bw1.trans (bb.mono Bw1.size)
  have sw2 := bb.size
  replace oQ := oQ.below bb
  clear Bw1
  clear bb
  refine (unhide DR _ ((unhide HC).below Bw2 (Nat.le_refl _))).mono ?_
  rintro _ w3 ⟨n', f', v', s', uP, ys, rfl, hs', hl', hw', oP, bb⟩
  have Bw3 := Bw2.trans (bb.mono Bw2.size)
  have sw3 := bb.size
  replace LC := LC.below bb LC.lt
  replace LQ := LQ.below bb LQ.lt
  replace oQ := oQ.below bb
  clear Bw2
  clear bb DR
  have toP := World.ownsRow.lt oP
  obtain ⟨aoP, koP, rfl⟩ := oP.form
  go_upto_region 5 with fail
  obtain ⟨w4, hw4⟩ : ∃ y, (w3.alloc (.cells #[.int .i64 n', .int .i64 f'] 25)).alloc (.cells #[.int .i64 v', .string s', .slice aoP ys.length koP] 28) = y := ⟨_, rfl⟩
  have bb : Below w3.heap.size w3 w4 := hw4 ▸ qalloc2 _ _ _
  have LD : Loc w4 w3.heap.size #[.int .i64 n', .int .i64 f'] := hw4 ▸ (loc_at w3 _ _ rfl).alloc _
  have LP : Loc w4 (w3.heap.size + 1) #[.int .i64 v', .string s', .slice aoP ys.length koP] := hw4 ▸ loc_at (w3.alloc _) _ _ (by simp)
  have zw4 : w3.heap.size + 1 + 1 ≤ w4.heap.size := by rw [← hw4]; simp
  rw [hw4]
  clear hw4
  have Bw4 := Bw3.trans (bb.mono Bw3.size)
  have sw4 := bb.size
  replace LC := LC.below bb LC.lt
  replace LQ := LQ.below bb LQ.lt
  replace oQ := oQ.below bb
  replace oP := oP.below bb
  clear Bw3
  clear bb
  have IM := hide fun a k w e h => implQcOk n f v s a k xs w (by omega) e h
  have SP := hide fun a k w h => specQcOk n f v s a k xs w (by omega) h
  have IP := hide fun a k w e h => implQcOk n' f' v' s' a k ys w (by omega) e h
  have HQ : Hid (qokB n f v s xs = true → s ≠ ⟨#[]⟩ → COk n f ∧ OkL n xs ∧ n - (n - 1) / 3 ≤ (xs.length : Int)) := hide fun h1 h2 => qok_has h1 h2
  have HP : Hid (qokB n' f' v' s' ys = true → s' ≠ ⟨#[]⟩ → COk n' f' ∧ OkL n' ys ∧ n' - (n' - 1) / 3 ≤ (ys.length : Int)) := hide fun h1 h2 => qok_has h1 h2
  generalize qokB n f v s xs = q at *
  generalize qokB n' f' v' s' ys = p at *
  have FI := hide fun w => implFaults n f w
  have FS := hide fun w => specFaults n f w
  have UI := hide fun w => implQuorum n f w
  have US := hide fun w => specQuorum n f w
  have CI := hide fun w => implConfOk n f w
  have CS := hide fun w => specConfOk n f w
  have HF : Hid (COk n f → faultsOf n f = (n - 1) / 3 ∧ quorumOf n f = n - (n - 1) / 3) := hide fun h => ⟨by simp [faultsOf, h], by simp [quorumOf, h]⟩
  generalize faultsOf n f = fa at *
  generalize quorumOf n f = qu at *
  generalize hcb : decide (COk n f) = cb at *
  clear hcb
  have hq : (q != q) = false := by simp
  have hfa : (fa != fa) = false := by simp
  have hqu : (qu != qu) = false := by simp
  have hcb : (cb != cb) = false := by simp
  have cLC0 := LC.cell 0 rfl
  have cLC1 := LC.cell 1 rfl
  have cLQ0 := LQ.cell 0 rfl
  have cLQ1 := LQ.cell 1 rfl
  have cLQ2 := LQ.cell 2 rfl
  go_wp2_with fail
  refine (unhide IM _ _ _ ((unhide HE).below Bw4) (oQ.ri (by omega))).mono ?_
  rintro _ w5 ⟨rfl, bb⟩
  clear cLC0 cLC1 cLQ0 cLQ1 cLQ2
  have Bw5 := Bw4.trans (bb.mono Bw4.size)
  have sw5 := bb.size
  replace LC := LC.below bb LC.lt
  replace LQ := LQ.below bb LQ.lt
  replace LD := LD.below bb LD.lt
  replace LP := LP.below bb LP.lt
  replace oQ := oQ.below bb
  replace oP := oP.below bb
  clear Bw4
  clear bb
  have RQ := hide fun w' (hb' : Below w5.heap.size w5 w') => (oQ.below hb').ri (by omega)
  have K : Hid (∀ w', Below w5.heap.size w5 w' → (fun w' => Below w5.heap.size w5 w' ∧ (w'.cell? ⟨w1.heap.size, 0, none⟩ = some (.int .i64 n) ∧ w'.cell? ⟨w1.heap.size, 1, none⟩ = some (.int .i64 f)) ∧ (w'.cell? ⟨w1.heap.size + 1, 0, none⟩ = some (.int .i64 v) ∧ w'.cell? ⟨w1.heap.size + 1, 1, none⟩ = some (.string s) ∧ w'.cell? ⟨w1.heap.size + 1, 2, none⟩ = some (.slice aoQ xs.length koQ))) w') := hide fun w' hb' => ⟨hb', ⟨(LC.below hb' LC.lt).cell 0 rfl, (LC.below hb' LC.lt).cell 1 rfl⟩, ⟨(LQ.below hb' LQ.lt).cell 0 rfl, (LQ.below hb' LQ.lt).cell 1 rfl, (LQ.below hb' LQ.lt).cell 2 rfl⟩⟩
  go_upto_region 6 with fail
  have bA : Below w5.heap.size w5 w5.drew := Below.drew (Below.refl _ _)
  refine wp_region_noPanic ?_
  refine wp_region_held_drew (S := fun w' => Below w5.heap.size w5 w' ∧ (w'.cell? ⟨w1.heap.size, 0, none⟩ = some (.int .i64 n) ∧ w'.cell? ⟨w1.heap.size, 1, none⟩ = some (.int .i64 f)) ∧ (w'.cell? ⟨w1.heap.size + 1, 0, none⟩ = some (.int .i64 v) ∧ w'.cell? ⟨w1.heap.size + 1, 1, none⟩ = some (.string s) ∧ w'.cell? ⟨w1.heap.size + 1, 2, none⟩ = some (.slice aoQ xs.length koQ))) (by kernel_rfl) (unhide K _ bA) (fun hHeld => ?_)
  refine take_at (i := 0) (d := 28) (v := ?_) rfl rfl (by kernel_rfl) (by kernel_rfl) (by kernel_rfl) (fun _ _ _ h => h) (Or.inl ⟨by rfl, ?_⟩) (by assumption) ?_
  rotate_left
  · intro w hSw
    try dsimp only at hSw
    go_simp
    try with_reducible rfl
  simp only [Act.put, List.setIfInBounds_toArray, List.set_cons_zero, List.set_cons_succ]
  refine take_at (i := 1) (d := 29) (v := ?_) rfl rfl (by kernel_rfl) (by kernel_rfl) (by kernel_rfl) (fun _ _ _ h => h) (Or.inl ⟨by rfl, ?_⟩) (by assumption) ?_
  rotate_left
  · intro w hSw
    try dsimp only at hSw
    go_simp
    try with_reducible rfl
  simp only [Act.put, List.setIfInBounds_toArray, List.set_cons_zero, List.set_cons_succ]
  refine take_at (i := 2) (d := 30) (v := ?_) rfl rfl (by kernel_rfl) (by kernel_rfl) (by kernel_rfl) (fun _ _ _ h => h) (Or.inl ⟨by rfl, ?_⟩) (by assumption) ?_
  rotate_left
  · intro w hSw
    try dsimp only at hSw
    go_simp
    try with_reducible rfl
  simp only [Act.put, List.setIfInBounds_toArray, List.set_cons_zero, List.set_cons_succ]
  refine ready_at (i := 3) rfl (by kernel_rfl) (fun KK hKK => ?_)
  go_simp
  have hgo := bA
  refine (unhide SP _ _ _ (unhide RQ _ hgo)).mono ?_
  rintro e wz6_1 ⟨rfl, bb⟩
  have bz1 : Below w5.heap.size w5 wz6_1 := bA.trans (bb.mono bA.size)
  clear RQ
  clear bA hgo bb
  clear hHeld
  refine hKK.out _ _ (unhide K _ bz1) (fun hHeld => ?_)
  clear hKK KK
  refine take_at (i := 4) (d := 32) (v := ?_) rfl rfl (by kernel_rfl) (by kernel_rfl) (by kernel_rfl) (fun _ _ _ h => h) (Or.inl ⟨by rfl, ?_⟩) (by assumption) ?_
  rotate_left
  · intro w hSw
    try dsimp only at hSw
    go_simp
    try with_reducible rfl
  simp only [Act.put, List.setIfInBounds_toArray, List.set_cons_zero, List.set_cons_succ]
  refine take_at (i := 5) (d := 33) (v := ?_) rfl rfl (by kernel_rfl) (by kernel_rfl) (by kernel_rfl) (fun _ _ _ h => h) (Or.inl ⟨by rfl, ?_⟩) (by assumption) ?_
  rotate_left
  · intro w hSw
    try dsimp only at hSw
    go_simp
    try with_reducible rfl
  simp only [Act.put, List.setIfInBounds_toArray, List.set_cons_zero, List.set_cons_succ]
  refine take_at (i := 6) (d := 34) (v := ?_) rfl rfl (by kernel_rfl) (by kernel_rfl) (by kernel_rfl) (fun _ _ _ h => h) (Or.inl ⟨by rfl, ?_⟩) (by assumption) ?_
  rotate_left
  · intro w hSw
    try dsimp only at hSw
    go_simp
    try with_reducible rfl
  simp only [Act.put, List.setIfInBounds_toArray, List.set_cons_zero, List.set_cons_succ]
  refine take_at (i := 8) (d := 36) (v := ?_) rfl rfl (by kernel_rfl) (by kernel_rfl) (by kernel_rfl) (fun _ _ _ h => h) (Or.inl ⟨by rfl, ?_⟩) (by assumption) ?_
  rotate_left
  · intro w hSw
    try dsimp only at hSw
    go_simp
    try with_reducible rfl
  simp only [Act.put, List.setIfInBounds_toArray, List.set_cons_zero, List.set_cons_succ]
  refine ready_at (i := 7) rfl (by kernel_rfl) (fun KK hKK => ?_)
  go_simp
  have hgo := bz1
  refine (unhide FI _).mono ?_
  rintro e wz6_2 ⟨rfl, bb⟩
  have bz2 : Below w5.heap.size w5 wz6_2 := bz1.trans (bb.mono bz1.size)
  clear bz1 hgo bb
  clear hHeld
  refine hKK.out _ _ (unhide K _ bz2) (fun hHeld => ?_)
  clear hKK KK
  refine ready_at (i := 9) rfl (by kernel_rfl) (fun KK hKK => ?_)
  go_simp
  have hgo := bz2
  refine (unhide FS _).mono ?_
  rintro e wz6_3 ⟨rfl, bb⟩
  have bz3 : Below w5.heap.size w5 wz6_3 := bz2.trans (bb.mono bz2.size)
  clear bz2 hgo bb
  clear hHeld
  refine hKK.out _ _ (unhide K _ bz3) (fun hHeld => ?_)
  clear hKK KK
  refine take_at (i := 10) (d := 38) (v := ?_) rfl rfl (by kernel_rfl) (by kernel_rfl) (by kernel_rfl) (fun _ _ _ h => h) (Or.inl ⟨by rfl, ?_⟩) (by assumption) ?_
  rotate_left
  · intro w hSw
    try dsimp only at hSw
    go_simp
    try with_reducible rfl
  simp only [Act.put, List.setIfInBounds_toArray, List.set_cons_zero, List.set_cons_succ]
  refine take_at (i := 11) (d := 39) (v := ?_) rfl rfl (by kernel_rfl) (by kernel_rfl) (by kernel_rfl) (fun _ _ _ h => h) (Or.inl ⟨by rfl, ?_⟩) (by assumption) ?_
  rotate_left
  · intro w hSw
    try dsimp only at hSw
    go_simp
    try with_reducible rfl
  simp only [Act.put, List.setIfInBounds_toArray, List.set_cons_zero, List.set_cons_succ]
  refine take_at (i := 12) (d := 40) (v := ?_) rfl rfl (by kernel_rfl) (by kernel_rfl) (by kernel_rfl) (fun _ _ _ h => h) (Or.inl ⟨by rfl, ?_⟩) (by assumption) ?_
  rotate_left
  · intro w hSw
    try dsimp only at hSw
    go_simp
    try with_reducible rfl
  simp only [Act.put, List.setIfInBounds_toArray, List.set_cons_zero, List.set_cons_succ]
  refine take_at (i := 13) (d := 41) (v := ?_) rfl rfl (by kernel_rfl) (by kernel_rfl) (by kernel_rfl) (fun _ _ _ h => h) (Or.inl ⟨by rfl, ?_⟩) (by assumption) ?_
  rotate_left
  · intro w hSw
    try dsimp only at hSw
    go_simp
    try with_reducible rfl
  simp only [Act.put, List.setIfInBounds_toArray, List.set_cons_zero, List.set_cons_succ]
  refine take_at (i := 15) (d := 43) (v := ?_) rfl rfl (by kernel_rfl) (by kernel_rfl) (by kernel_rfl) (fun _ _ _ h => h) (Or.inl ⟨by rfl, ?_⟩) (by assumption) ?_
  rotate_left
  · intro w hSw
    try dsimp only at hSw
    go_simp
    try with_reducible rfl
  simp only [Act.put, List.setIfInBounds_toArray, List.set_cons_zero, List.set_cons_succ]
  refine ready_at (i := 14) rfl (by kernel_rfl) (fun KK hKK => ?_)
  go_simp
  have hgo := bz3
  refine (unhide UI _).mono ?_
  rintro e wz6_4 ⟨rfl, bb⟩
  have bz4 : Below w5.heap.size w5 wz6_4 := bz3.trans (bb.mono bz3.size)
  clear bz3 hgo bb
  clear hHeld
  refine hKK.out _ _ (unhide K _ bz4) (fun hHeld => ?_)
  clear hKK KK
  refine ready_at (i := 16) rfl (by kernel_rfl) (fun KK hKK => ?_)
  go_simp
  have hgo := bz4
  refine (unhide US _).mono ?_
  rintro e wz6_5 ⟨rfl, bb⟩
  have bz5 : Below w5.heap.size w5 wz6_5 := bz4.trans (bb.mono bz4.size)
  clear bz4 hgo bb
  clear hHeld
  refine hKK.out _ _ (unhide K _ bz5) (fun hHeld => ?_)
  clear hKK KK
  refine take_at (i := 17) (d := 45) (v := ?_) rfl rfl (by kernel_rfl) (by kernel_rfl) (by kernel_rfl) (fun _ _ _ h => h) (Or.inl ⟨by rfl, ?_⟩) (by assumption) ?_
  rotate_left
  · intro w hSw
    try dsimp only at hSw
    go_simp
    try with_reducible rfl
  simp only [Act.put, List.setIfInBounds_toArray, List.set_cons_zero, List.set_cons_succ]
  refine take_at (i := 18) (d := 46) (v := ?_) rfl rfl (by kernel_rfl) (by kernel_rfl) (by kernel_rfl) (fun _ _ _ h => h) (Or.inl ⟨by rfl, ?_⟩) (by assumption) ?_
  rotate_left
  · intro w hSw
    try dsimp only at hSw
    go_simp
    try with_reducible rfl
  simp only [Act.put, List.setIfInBounds_toArray, List.set_cons_zero, List.set_cons_succ]
  refine take_at (i := 19) (d := 47) (v := ?_) rfl rfl (by kernel_rfl) (by kernel_rfl) (by kernel_rfl) (fun _ _ _ h => h) (Or.inl ⟨by rfl, ?_⟩) (by assumption) ?_
  rotate_left
  · intro w hSw
    try dsimp only at hSw
    go_simp
    try with_reducible rfl
  simp only [Act.put, List.setIfInBounds_toArray, List.set_cons_zero, List.set_cons_succ]
  refine take_at (i := 20) (d := 48) (v := ?_) rfl rfl (by kernel_rfl) (by kernel_rfl) (by kernel_rfl) (fun _ _ _ h => h) (Or.inl ⟨by rfl, ?_⟩) (by assumption) ?_
  rotate_left
  · intro w hSw
    try dsimp only at hSw
    go_simp
    try with_reducible rfl
  simp only [Act.put, List.setIfInBounds_toArray, List.set_cons_zero, List.set_cons_succ]
  refine take_at (i := 22) (d := 50) (v := ?_) rfl rfl (by kernel_rfl) (by kernel_rfl) (by kernel_rfl) (fun _ _ _ h => h) (Or.inl ⟨by rfl, ?_⟩) (by assumption) ?_
  rotate_left
  · intro w hSw
    try dsimp only at hSw
    go_simp
    try with_reducible rfl
  simp only [Act.put, List.setIfInBounds_toArray, List.set_cons_zero, List.set_cons_succ]
  refine ready_at (i := 21) rfl (by kernel_rfl) (fun KK hKK => ?_)
  go_simp
  have hgo := bz5
  refine (unhide CI _).mono ?_
  rintro e wz6_6 ⟨rfl, bb⟩
  have bz6 : Below w5.heap.size w5 wz6_6 := bz5.trans (bb.mono bz5.size)
  clear bz5 hgo bb
  clear hHeld
  refine hKK.out _ _ (unhide K _ bz6) (fun hHeld => ?_)
  clear hKK KK
  refine ready_at (i := 23) rfl (by kernel_rfl) (fun KK hKK => ?_)
  go_simp
  have hgo := bz6
  refine (unhide CS _).mono ?_
  rintro e wz6_7 ⟨rfl, bb⟩
  have bz7 : Below w5.heap.size w5 wz6_7 := bz6.trans (bb.mono bz6.size)
  clear bz6 hgo bb
  clear hHeld
  refine hKK.out _ _ (unhide K _ bz7) (fun hHeld => ?_)
  clear hKK KK
  refine take_at (i := 24) (d := 52) (v := ?_) rfl rfl (by kernel_rfl) (by kernel_rfl) (by kernel_rfl) (fun _ _ _ h => h) (Or.inl ⟨by rfl, ?_⟩) (by assumption) ?_
  rotate_left
  · intro w hSw
    try dsimp only at hSw
    go_simp
    try with_reducible rfl
  simp only [Act.put, List.setIfInBounds_toArray, List.set_cons_zero, List.set_cons_succ]
  refine take_at (i := 25) (d := 53) (v := ?_) rfl rfl (by kernel_rfl) (by kernel_rfl) (by kernel_rfl) (fun _ _ _ h => h) (Or.inl ⟨by rfl, ?_⟩) (by assumption) ?_
  rotate_left
  · intro w hSw
    try dsimp only at hSw
    go_simp
    try with_reducible rfl
  simp only [Act.put, List.setIfInBounds_toArray, List.set_cons_zero, List.set_cons_succ]
  clear hHeld
  refine wpAnyH_done (by kernel_rfl) ?_ _
  refine NoPanic.normal ?_
  have bb := bz7
  have Bwz6_7 := Bw5.trans (bb.mono Bw5.size)
  have swz6_7 := bb.size
  replace LC := LC.below bb LC.lt
  replace LQ := LQ.below bb LQ.lt
  replace LD := LD.below bb LD.lt
  replace LP := LP.below bb LP.lt
  replace oQ := oQ.below bb
  replace oP := oP.below bb
  clear Bw5
  clear bb bz7 K
  clear SP FS US CI CS hfa hqu hcb
  go_wp2_with fail
  refine (unhide DL _ ((unhide HC).below Bwz6_7 (Nat.le_refl _))).mono ?_
  rintro _ w6 ⟨va, sa, uA, xA, vb, sb, uB, xB, rfl, hsa, hla, hwa, hsb, hlb, hwb, oA, oB, bb⟩
  have Bw6 := Bwz6_7.trans (bb.mono Bwz6_7.size)
  have sw6 := bb.size
  replace LC := LC.below bb LC.lt
  replace LQ := LQ.below bb LQ.lt
  replace LD := LD.below bb LD.lt
  replace LP := LP.below bb LP.lt
  replace oQ := oQ.below bb
  replace oP := oP.below bb
  clear Bwz6_7
  clear bb DL HC
  have toA := World.ownsRow.lt oA
  obtain ⟨aoA, koA, rfl⟩ := oA.form
  have toB := World.ownsRow.lt oB
  obtain ⟨aoB, koB, rfl⟩ := oB.form
  go_upto_region 9 with fail
  obtain ⟨w7, hw7⟩ : ∃ y, (w6.alloc (.cells #[.int .i64 va, .string sa, .slice aoA xA.length koA] 28)).alloc (.cells #[.int .i64 vb, .string sb, .slice aoB xB.length koB] 28) = y := ⟨_, rfl⟩
  have bb : Below w6.heap.size w6 w7 := hw7 ▸ qalloc2 _ _ _
  have LA : Loc w7 w6.heap.size #[.int .i64 va, .string sa, .slice aoA xA.length koA] := hw7 ▸ (loc_at w6 _ _ rfl).alloc _
  have LB : Loc w7 (w6.heap.size + 1) #[.int .i64 vb, .string sb, .slice aoB xB.length koB] := hw7 ▸ loc_at (w6.alloc _) _ _ (by simp)
  have zw7 : w6.heap.size + 1 + 1 ≤ w7.heap.size := by rw [← hw7]; simp
  rw [hw7]
  clear hw7
  have Bw7 := Bw6.trans (bb.mono Bw6.size)
  have sw7 := bb.size
  replace LC := LC.below bb LC.lt
  replace LQ := LQ.below bb LQ.lt
  replace LD := LD.below bb LD.lt
  replace LP := LP.below bb LP.lt
  replace oQ := oQ.below bb
  replace oP := oP.below bb
  replace oA := oA.below bb
  replace oB := oB.below bb
  clear Bw6
  clear bb
  have LI := hide fun u v w h k => implQcLater_at va vb sa sb u v xA xB w h k (by omega) (by omega)
  have LS := hide fun u v w h k => specQcLater_at va vb sa sb u v xA xB w h k
  have hxl : (if vb < va then xA else xB).length ≤ 9 := by split <;> omega
  have hmx : ¬ (if vb < va then va else vb) < va := by split <;> omega
  generalize (if vb < va then va else vb) = vl at *
  generalize (if vb < va then sa else sb) = sl at *
  generalize (if vb < va then xA else xB) = ls at *
  have dmx : decide (vl < va) = false := by simpa using hmx
  have cLA0 := LA.cell 0 rfl
  have cLA1 := LA.cell 1 rfl
  have cLA2 := LA.cell 2 rfl
  have cLB0 := LB.cell 0 rfl
  have cLB1 := LB.cell 1 rfl
  have cLB2 := LB.cell 2 rfl
  go_wp2_with fail
  refine (unhide LI _ _ _ (oA.ri (by omega)) (oB.ri (by omega))).mono ?_
  rintro _ w8 ⟨uL, rfl, oL, bb⟩
  clear cLA0 cLA1 cLA2 cLB0 cLB1 cLB2
  have Bw8 := Bw7.trans (bb.mono Bw7.size)
  have sw8 := bb.size
  replace LC := LC.below bb LC.lt
  replace LQ := LQ.below bb LQ.lt
  replace LD := LD.below bb LD.lt
  replace LP := LP.below bb LP.lt
  replace LA := LA.below bb LA.lt
  replace LB := LB.below bb LB.lt
  replace oQ := oQ.below bb
  replace oP := oP.below bb
  replace oA := oA.below bb
  replace oB := oB.below bb
  clear Bw7
  clear bb
  have toL := World.ownsRow.lt oL
  obtain ⟨aoL, koL, rfl⟩ := oL.form
  go_upto_region 10 with fail
  obtain ⟨w9, hw9⟩ : ∃ y, w8.alloc (.cells #[.int .i64 vl, .string sl, .slice aoL ls.length koL] 28) = y := ⟨_, rfl⟩
  have bb : Below w8.heap.size w8 w9 := hw9 ▸ qalloc _ _
  have LL : Loc w9 w8.heap.size #[.int .i64 vl, .string sl, .slice aoL ls.length koL] := hw9 ▸ loc_at w8 _ _ rfl
  have zw9 : w8.heap.size + 1 ≤ w9.heap.size := by rw [← hw9]; simp
  rw [hw9]
  clear hw9
  have Bw9 := Bw8.trans (bb.mono Bw8.size)
  have sw9 := bb.size
  replace LC := LC.below bb LC.lt
  replace LQ := LQ.below bb LQ.lt
  replace LD := LD.below bb LD.lt
  replace LP := LP.below bb LP.lt
  replace LA := LA.below bb LA.lt
  replace LB := LB.below bb LB.lt
  replace oQ := oQ.below bb
  replace oP := oP.below bb
  replace oA := oA.below bb
  replace oB := oB.below bb
  replace oL := oL.below bb
  clear Bw8
  clear bb
  have RA := hide fun w' (hb' : Below w9.heap.size w9 w') => (oA.below hb').ri (by omega)
  have RB := hide fun w' (hb' : Below w9.heap.size w9 w') => (oB.below hb').ri (by omega)
  have RL := hide fun w' (hb' : Below w9.heap.size w9 w') => (oL.below hb').ri (by omega)
  have NR : Hid (∀ w, RI w (.slice none 0 0) []) := hide fun w => ⟨by simp, none, 0, rfl, .inl rfl⟩
  have SL : Hid (∀ u v w, RI w u ls → RI w v ls → Calls Tryz.prog 17 #[qv vl sl u, qv vl sl v] w fun e w' => e = .returned (.bool true) ∧ Below w.heap.size w w') := hide fun u v w h k => by have := implQcSame vl vl sl sl u v ls ls w h k; rwa [alike_self] at this
  have SF : Hid (∀ w, Calls Tryz.prog 17 #[qv 0 ⟨#[]⟩ (.slice none 0 0), qv 0 ⟨#[]⟩ (.slice none 0 0)] w fun e w' => e = .returned (.bool true) ∧ Below w.heap.size w w') := hide fun w => by have := implQcSame 0 0 ⟨#[]⟩ ⟨#[]⟩ (.slice none 0 0) (.slice none 0 0) [] [] w (unhide NR w) (unhide NR w); rwa [alike_self] at this
  have K : Hid (∀ w', Below w9.heap.size w9 w' → (fun w' => Below w9.heap.size w9 w' ∧ (w'.cell? ⟨w6.heap.size, 0, none⟩ = some (.int .i64 va) ∧ w'.cell? ⟨w6.heap.size, 1, none⟩ = some (.string sa) ∧ w'.cell? ⟨w6.heap.size, 2, none⟩ = some (.slice aoA xA.length koA)) ∧ (w'.cell? ⟨w6.heap.size + 1, 0, none⟩ = some (.int .i64 vb) ∧ w'.cell? ⟨w6.heap.size + 1, 1, none⟩ = some (.string sb) ∧ w'.cell? ⟨w6.heap.size + 1, 2, none⟩ = some (.slice aoB xB.length koB)) ∧ (w'.cell? ⟨w8.heap.size, 0, none⟩ = some (.int .i64 vl) ∧ w'.cell? ⟨w8.heap.size, 1, none⟩ = some (.string sl) ∧ w'.cell? ⟨w8.heap.size, 2, none⟩ = some (.slice aoL ls.length koL))) w') := hide fun w' hb' => ⟨hb', ⟨(LA.below hb' LA.lt).cell 0 rfl, (LA.below hb' LA.lt).cell 1 rfl, (LA.below hb' LA.lt).cell 2 rfl⟩, ⟨(LB.below hb' LB.lt).cell 0 rfl, (LB.below hb' LB.lt).cell 1 rfl, (LB.below hb' LB.lt).cell 2 rfl⟩, ⟨(LL.below hb' LL.lt).cell 0 rfl, (LL.below hb' LL.lt).cell 1 rfl, (LL.below hb' LL.lt).cell 2 rfl⟩⟩
  have bA : Below w9.heap.size w9 w9.drew := Below.drew (Below.refl _ _)
  refine wp_region_noPanic ?_
  refine wp_region_held_drew (S := fun w' => Below w9.heap.size w9 w' ∧ (w'.cell? ⟨w6.heap.size, 0, none⟩ = some (.int .i64 va) ∧ w'.cell? ⟨w6.heap.size, 1, none⟩ = some (.string sa) ∧ w'.cell? ⟨w6.heap.size, 2, none⟩ = some (.slice aoA xA.length koA)) ∧ (w'.cell? ⟨w6.heap.size + 1, 0, none⟩ = some (.int .i64 vb) ∧ w'.cell? ⟨w6.heap.size + 1, 1, none⟩ = some (.string sb) ∧ w'.cell? ⟨w6.heap.size + 1, 2, none⟩ = some (.slice aoB xB.length koB)) ∧ (w'.cell? ⟨w8.heap.size, 0, none⟩ = some (.int .i64 vl) ∧ w'.cell? ⟨w8.heap.size, 1, none⟩ = some (.string sl) ∧ w'.cell? ⟨w8.heap.size, 2, none⟩ = some (.slice aoL ls.length koL))) (by kernel_rfl) (unhide K _ bA) (fun hHeld => ?_)
  refine take_at (i := 0) (d := 62) (v := ?_) rfl rfl (by kernel_rfl) (by kernel_rfl) (by kernel_rfl) (fun _ _ _ h => h) (Or.inl ⟨by rfl, ?_⟩) (by assumption) ?_
  rotate_left
  · intro w hSw
    try dsimp only at hSw
    go_simp
    try with_reducible rfl
  simp only [Act.put, List.setIfInBounds_toArray, List.set_cons_zero, List.set_cons_succ]
  refine take_at (i := 1) (d := 63) (v := ?_) rfl rfl (by kernel_rfl) (by kernel_rfl) (by kernel_rfl) (fun _ _ _ h => h) (Or.inl ⟨by rfl, ?_⟩) (by assumption) ?_
  rotate_left
  · intro w hSw
    try dsimp only at hSw
    go_simp
    try with_reducible rfl
  simp only [Act.put, List.setIfInBounds_toArray, List.set_cons_zero, List.set_cons_succ]
  refine take_at (i := 2) (d := 64) (v := ?_) rfl rfl (by kernel_rfl) (by kernel_rfl) (by kernel_rfl) (fun _ _ _ h => h) (Or.inl ⟨by rfl, ?_⟩) (by assumption) ?_
  rotate_left
  · intro w hSw
    try dsimp only at hSw
    go_simp
    try with_reducible rfl
  simp only [Act.put, List.setIfInBounds_toArray, List.set_cons_zero, List.set_cons_succ]
  refine ready_at (i := 3) rfl (by kernel_rfl) (fun KK hKK => ?_)
  go_simp
  have hgo := bA
  refine (unhide LS _ _ _ (unhide RA _ hgo) (unhide RB _ hgo)).mono ?_
  rintro e wz10_1 ⟨uM, rfl, oM, bb⟩
  have bz1 : Below w9.heap.size w9 wz10_1 := bA.trans (bb.mono bA.size)
  have RM := hide (oM.ri (by omega))
  clear oM RA RB
  clear bA hgo bb
  clear hHeld
  refine hKK.out _ _ (unhide K _ bz1) (fun hHeld => ?_)
  clear hKK KK
  refine ready_at (i := 4) rfl (by kernel_rfl) (fun KK hKK => ?_)
  go_simp
  have hgo := bz1
  refine (unhide SL _ _ _ (unhide RL _ hgo) (unhide RM)).mono ?_
  rintro e wz10_2 ⟨rfl, bb⟩
  have bz2 : Below w9.heap.size w9 wz10_2 := bz1.trans (bb.mono bz1.size)
  clear RL RM
  clear bz1 hgo bb
  clear hHeld
  refine hKK.out _ _ (unhide K _ bz2) (fun hHeld => ?_)
  clear hKK KK
  refine take_at (i := 5) (d := 67) (v := ?_) rfl rfl (by kernel_rfl) (by kernel_rfl) (by kernel_rfl) (fun _ _ _ h => h) (Or.inl ⟨by rfl, ?_⟩) (by assumption) ?_
  rotate_left
  · intro w hSw
    try dsimp only at hSw
    go_simp
    try with_reducible rfl
  simp only [Act.put, List.setIfInBounds_toArray, List.set_cons_zero, List.set_cons_succ]
  refine take_at (i := 6) (d := 68) (v := ?_) rfl rfl (by kernel_rfl) (by kernel_rfl) (by kernel_rfl) (fun _ _ _ h => h) (Or.inl ⟨by rfl, ?_⟩) (by assumption) ?_
  rotate_left
  · intro w hSw
    try dsimp only at hSw
    go_simp
    try with_reducible rfl
  simp only [Act.put, List.setIfInBounds_toArray, List.set_cons_zero, List.set_cons_succ]
  refine take_at (i := 7) (d := 69) (v := ?_) rfl rfl (by kernel_rfl) (by kernel_rfl) (by kernel_rfl) (fun _ _ _ h => h) (Or.inl ⟨by rfl, ?_⟩) (by assumption) ?_
  rotate_left
  · intro w hSw
    try dsimp only at hSw
    go_simp
    try with_reducible rfl
  simp only [Act.put, List.setIfInBounds_toArray, List.set_cons_zero, List.set_cons_succ]
  refine take_at (i := 8) (d := 70) (v := ?_) rfl rfl (by kernel_rfl) (by kernel_rfl) (by kernel_rfl) (fun _ _ _ h => h) (Or.inl ⟨by rfl, ?_⟩) (by assumption) ?_
  rotate_left
  · intro w hSw
    try dsimp only at hSw
    go_simp
    try with_reducible rfl
  simp only [Act.put, List.setIfInBounds_toArray, List.set_cons_zero, List.set_cons_succ]
  refine take_at (i := 9) (d := 71) (v := ?_) rfl rfl (by kernel_rfl) (by kernel_rfl) (by kernel_rfl) (fun _ _ _ h => h) (Or.inl ⟨by rfl, ?_⟩) (by assumption) ?_
  rotate_left
  · intro w hSw
    try dsimp only at hSw
    go_simp
    try with_reducible rfl
  simp only [Act.put, List.setIfInBounds_toArray, List.set_cons_zero, List.set_cons_succ]
  refine take_at (i := 10) (d := 72) (v := ?_) rfl rfl (by kernel_rfl) (by kernel_rfl) (by kernel_rfl) (fun _ _ _ h => h) (Or.inl ⟨by rfl, ?_⟩) (by assumption) ?_
  rotate_left
  · intro w hSw
    try dsimp only at hSw
    go_simp
    try with_reducible rfl
  simp only [Act.put, List.setIfInBounds_toArray, List.set_cons_zero, List.set_cons_succ]
  refine take_at (i := 11) (d := 73) (v := ?_) rfl rfl (by kernel_rfl) (by kernel_rfl) (by kernel_rfl) (fun _ _ _ h => h) (Or.inl ⟨by rfl, ?_⟩) (by assumption) ?_
  rotate_left
  · intro w hSw
    try dsimp only at hSw
    go_simp
    try with_reducible rfl
  simp only [Act.put, List.setIfInBounds_toArray, List.set_cons_zero, List.set_cons_succ]
  refine take_at (i := 12) (d := 74) (v := ?_) rfl rfl (by kernel_rfl) (by kernel_rfl) (by kernel_rfl) (fun _ _ _ h => h) (Or.inl ⟨by rfl, ?_⟩) (by assumption) ?_
  rotate_left
  · intro w hSw
    try dsimp only at hSw
    go_simp
    try with_reducible rfl
  simp only [Act.put, List.setIfInBounds_toArray, List.set_cons_zero, List.set_cons_succ]
  refine take_at (i := 13) (d := 75) (v := undef) rfl rfl (by kernel_rfl) (by kernel_rfl) (by kernel_rfl) (fun _ _ _ h => h) (Or.inr ⟨by rfl, rfl⟩) (by assumption) ?_
  simp only [Act.put, List.setIfInBounds_toArray, List.set_cons_zero, List.set_cons_succ]
  refine take_at (i := 14) (d := 76) (v := undef) rfl rfl (by kernel_rfl) (by kernel_rfl) (by kernel_rfl) (fun _ _ _ h => h) (Or.inr ⟨by rfl, rfl⟩) (by assumption) ?_
  simp only [Act.put, List.setIfInBounds_toArray, List.set_cons_zero, List.set_cons_succ]
  refine take_at (i := 15) (d := 77) (v := undef) rfl rfl (by kernel_rfl) (by kernel_rfl) (by kernel_rfl) (fun _ _ _ h => h) (Or.inr ⟨by rfl, rfl⟩) (by assumption) ?_
  simp only [Act.put, List.setIfInBounds_toArray, List.set_cons_zero, List.set_cons_succ]
  refine take_at (i := 16) (d := 78) (v := undef) rfl rfl (by kernel_rfl) (by kernel_rfl) (by kernel_rfl) (fun _ _ _ h => h) (Or.inr ⟨by rfl, rfl⟩) (by assumption) ?_
  simp only [Act.put, List.setIfInBounds_toArray, List.set_cons_zero, List.set_cons_succ]
  refine take_at (i := 17) (d := 79) (v := undef) rfl rfl (by kernel_rfl) (by kernel_rfl) (by kernel_rfl) (fun _ _ _ h => h) (Or.inr ⟨by rfl, rfl⟩) (by assumption) ?_
  simp only [Act.put, List.setIfInBounds_toArray, List.set_cons_zero, List.set_cons_succ]
  refine take_at (i := 18) (d := 80) (v := ?_) rfl rfl (by kernel_rfl) (by kernel_rfl) (by kernel_rfl) (fun _ _ _ h => h) (Or.inl ⟨by rfl, ?_⟩) (by assumption) ?_
  rotate_left
  · intro w hSw
    try dsimp only at hSw
    go_simp
    try with_reducible rfl
  simp only [Act.put, List.setIfInBounds_toArray, List.set_cons_zero, List.set_cons_succ]
  refine take_at (i := 19) (d := 81) (v := ?_) rfl rfl (by kernel_rfl) (by kernel_rfl) (by kernel_rfl) (fun _ _ _ h => h) (Or.inl ⟨by rfl, ?_⟩) (by assumption) ?_
  rotate_left
  · intro w hSw
    try dsimp only at hSw
    go_simp
    try with_reducible rfl
  simp only [Act.put, List.setIfInBounds_toArray, List.set_cons_zero, List.set_cons_succ]
  refine take_at (i := 20) (d := 82) (v := ?_) rfl rfl (by kernel_rfl) (by kernel_rfl) (by kernel_rfl) (fun _ _ _ h => h) (Or.inl ⟨by rfl, ?_⟩) (by assumption) ?_
  rotate_left
  · intro w hSw
    try dsimp only at hSw
    go_simp
    try with_reducible rfl
  simp only [Act.put, List.setIfInBounds_toArray, List.set_cons_zero, List.set_cons_succ]
  refine ready_at (i := 21) rfl (by kernel_rfl) (fun KK hKK => ?_)
  go_simp
  have hgo := bz2
  refine (implQcFirst _).mono ?_
  rintro e wz10_3 ⟨rfl, bb⟩
  have bz3 : Below w9.heap.size w9 wz10_3 := bz2.trans (bb.mono bz2.size)
  clear bz2 hgo bb
  clear hHeld
  refine hKK.out _ _ (unhide K _ bz3) (fun hHeld => ?_)
  clear hKK KK
  refine ready_at (i := 22) rfl (by kernel_rfl) (fun KK hKK => ?_)
  go_simp
  have hgo := bz3
  refine (specQcFirst _).mono ?_
  rintro e wz10_4 ⟨rfl, bb⟩
  have bz4 : Below w9.heap.size w9 wz10_4 := bz3.trans (bb.mono bz3.size)
  clear bz3 hgo bb
  clear hHeld
  refine hKK.out _ _ (unhide K _ bz4) (fun hHeld => ?_)
  clear hKK KK
  refine ready_at (i := 23) rfl (by kernel_rfl) (fun KK hKK => ?_)
  go_simp
  have hgo := bz4
  refine (unhide SF _).mono ?_
  rintro e wz10_5 ⟨rfl, bb⟩
  have bz5 : Below w9.heap.size w9 wz10_5 := bz4.trans (bb.mono bz4.size)
  clear bz4 hgo bb
  clear hHeld
  refine hKK.out _ _ (unhide K _ bz5) (fun hHeld => ?_)
  clear hKK KK
  refine take_at (i := 24) (d := 86) (v := ?_) rfl rfl (by kernel_rfl) (by kernel_rfl) (by kernel_rfl) (fun _ _ _ h => h) (Or.inl ⟨by rfl, ?_⟩) (by assumption) ?_
  rotate_left
  · intro w hSw
    try dsimp only at hSw
    go_simp
    try with_reducible rfl
  simp only [Act.put, List.setIfInBounds_toArray, List.set_cons_zero, List.set_cons_succ]
  refine take_at (i := 25) (d := 87) (v := ?_) rfl rfl (by kernel_rfl) (by kernel_rfl) (by kernel_rfl) (fun _ _ _ h => h) (Or.inl ⟨by rfl, ?_⟩) (by assumption) ?_
  rotate_left
  · intro w hSw
    try dsimp only at hSw
    go_simp
    try with_reducible rfl
  simp only [Act.put, List.setIfInBounds_toArray, List.set_cons_zero, List.set_cons_succ]
  clear hHeld
  refine wpAnyH_done (by kernel_rfl) ?_ _
  refine NoPanic.normal ?_
  have bb := bz5
  have Bwz10_5 := Bw9.trans (bb.mono Bw9.size)
  have swz10_5 := bb.size
  replace LC := LC.below bb LC.lt
  replace LQ := LQ.below bb LQ.lt
  replace LD := LD.below bb LD.lt
  replace LP := LP.below bb LP.lt
  replace LA := LA.below bb LA.lt
  replace LB := LB.below bb LB.lt
  replace LL := LL.below bb LL.lt
  replace oQ := oQ.below bb
  replace oP := oP.below bb
  replace oA := oA.below bb
  replace oB := oB.below bb
  replace oL := oL.below bb
  clear Bw9
  clear bb bz5 K
  clear LI LS SL SF NR dmx hmx
  clear oA oB oL LA LB LL toA toB toL hwa hwb hsa hsb hla hlb hxl
  cases q
  · go_wp2
    go_ret
    exact ⟨rfl, Bwz10_5⟩
  · have cLD0 := LD.cell 0 rfl
    have cLD1 := LD.cell 1 rfl
    have cLP0 := LP.cell 0 rfl
    have cLP1 := LP.cell 1 rfl
    have cLP2 := LP.cell 2 rfl
    go_wp2_with fail
    refine (unhide IP _ _ _ ((unhide HE).below Bwz10_5) (oP.ri (by omega))).mono ?_
    rintro _ w10 ⟨rfl, bb⟩
    clear cLD0 cLD1 cLP0 cLP1 cLP2
    have Bw10 := Bwz10_5.trans (bb.mono Bwz10_5.size)
    have sw10 := bb.size
    replace LC := LC.below bb LC.lt
    replace LQ := LQ.below bb LQ.lt
    replace LD := LD.below bb LD.lt
    replace LP := LP.below bb LP.lt
    replace oQ := oQ.below bb
    replace oP := oP.below bb
    clear Bwz10_5
    clear bb
    clear IP IM
    have cLC0 := LC.cell 0 rfl
    have cLC1 := LC.cell 1 rfl
    have cLD0 := LD.cell 0 rfl
    have cLD1 := LD.cell 1 rfl
    have cLQ0 := LQ.cell 0 rfl
    have cLQ1 := LQ.cell 1 rfl
    have cLQ2 := LQ.cell 2 rfl
    have cLP0 := LP.cell 0 rfl
    have cLP1 := LP.cell 1 rfl
    have cLP2 := LP.cell 2 rfl
    cases p
    · go_wp2
      go_ret
      exact ⟨rfl, Bw10⟩
    · by_cases hc : n = n'
      · subst hc
        by_cases hf : f = f'
        · subst hf
          by_cases he : s = ⟨#[]⟩
          · have hE : (s.toList == []) = true := by rw [he, ByteArray.toList_eq]; rfl
            clear he
            go_wp2
            go_ret
            exact ⟨rfl, Bw10⟩
          · have hne := ne2 he
            by_cases he' : s' = ⟨#[]⟩
            · have hE : (s'.toList == []) = true := by rw [he', ByteArray.toList_eq]; rfl
              clear he' he
              go_wp2
              go_ret
              exact ⟨rfl, Bw10⟩
            · have hne' := ne2 he'
              obtain ⟨ok, oq, lq⟩ := unhide HQ (by simp) he
              obtain ⟨_, op, lp⟩ := unhide HP (by simp) he'
              obtain ⟨ef, eu⟩ := unhide HF ok
              clear HQ HP HF he he'
              obtain ⟨⟨hn4, hn7⟩, _⟩ := ok
              have wxs := hide (wf_ok (n := n) (by omega) oq)
              have wys := hide (wf_ok (n := n) (by omega) op)
              have cm := common_more hn4 oq op lq lp
              rw [← ef] at cm
              have HOQ := hide oq
              have HLQ := hide lq
              have hfa1 : 1 ≤ fa := by omega
              have hfa2 : fa ≤ 2 := by omega
              have hfn : n - fa = qu := by omega
              have HEF := hide ef
              clear ef eu oq op lq lp hs hs' hw hw'
              go_upto_region 14 with fail
              clear cLC0 cLC1 cLD0 cLD1 cLQ0 cLQ1 cLQ2 cLP0 cLP1 cLP2
              obtain ⟨w11, hw11⟩ : ∃ y, w10.alloc (.cells #[] 3) = y := ⟨_, rfl⟩
              have bb : Below w10.heap.size w10 w11 := hw11 ▸ qalloc _ _
              have oW : OI w11 w10.heap.size (.slice (some ⟨w10.heap.size, 0, none⟩) 0 0) [] := by
                have := World.ownsRow_lit (base := w10.heap.size) (e := 3) (size := 1) w10 #[] 0 (Nat.le_refl _) (by unfold maxLen; omega) (by simp)
                rw [hw11] at this; simpa [OI] using this
              have zw11 : w10.heap.size + 1 ≤ w11.heap.size := by rw [← hw11]; simp
              have Bw11 := Bw10.trans (bb.mono Bw10.size)
              have sw11 := bb.size
              replace LC := LC.below bb LC.lt
              replace LQ := LQ.below bb LQ.lt
              replace LD := LD.below bb LD.lt
              replace LP := LP.below bb LP.lt
              replace oQ := oQ.below bb
              replace oP := oP.below bb
              clear Bw10
              clear bb
              clear LD
              have cLC0 := LC.cell 0 rfl
              have cLC1 := LC.cell 1 rfl
              have cLQ0 := LQ.cell 0 rfl
              have cLQ1 := LQ.cell 1 rfl
              have cLQ2 := LQ.cell 2 rfl
              have cLP0 := LP.cell 0 rfl
              have cLP1 := LP.cell 1 rfl
              have cLP2 := LP.cell 2 rfl
              go_wp2_with fail
              clear hw11
              refine (unhide FI _).mono ?_
              rintro _ w12 ⟨rfl, bb⟩
              clear cLC0 cLC1 cLQ0 cLQ1 cLQ2 cLP0 cLP1 cLP2
              have Bw12 := Bw11.trans (bb.mono Bw11.size)
              have sw12 := bb.size
              replace LC := LC.below bb LC.lt
              replace LQ := LQ.below bb LQ.lt
              replace LP := LP.below bb LP.lt
              replace oQ := oQ.below bb
              replace oP := oP.below bb
              replace oW := oW.below bb
              clear Bw11
              clear bb
              have oWs : OI w12 w10.heap.size (.slice (some ⟨w10.heap.size, 0, none⟩) 0 0) (fromL fa 0) := oW
              clear oW
              have cLC0 := LC.cell 0 rfl
              have cLC1 := LC.cell 1 rfl
              have cLQ0 := LQ.cell 0 rfl
              have cLQ1 := LQ.cell 1 rfl
              have cLQ2 := LQ.cell 2 rfl
              have cLP0 := LP.cell 0 rfl
              have cLP1 := LP.cell 1 rfl
              have cLP2 := LP.cell 2 rfl
              go_wp2
              go_loopw [11, 12] (fun u i wr => ∃ k : Nat, i = .int .i64 (fa + (k : Int)) ∧ fa + (k : Int) ≤ n ∧ OI wr w10.heap.size u (fromL fa k) ∧ (Loc wr (w1.heap.size) #[.int .i64 n, .int .i64 f] ∧ Loc wr (w1.heap.size + 1) #[.int .i64 v, .string s, .slice aoQ xs.length koQ] ∧ Loc wr (w3.heap.size + 1) #[.int .i64 v', .string s', .slice aoP ys.length koP]) ∧ OI wr w.heap.size (.slice aoQ xs.length koQ) xs ∧ OI wr w2.heap.size (.slice aoP ys.length koP) ys ∧ w12.heap.size ≤ wr.heap.size ∧ Below w.heap.size w wr) (fun _ i _ => (n - intOf i).toNat)
              case atStart => exact ⟨0, by simp, by omega, oWs, ⟨LC, LQ, LP⟩, oQ, oP, Nat.le_refl _, Bw12⟩
              clear cLC0 cLC1 cLQ0 cLQ1 cLQ2 cLP0 cLP1 cLP2
              case round =>
                clear oWs LC LQ LP oQ oP
                obtain ⟨k, rfl, hkn, oW, ⟨LC, LQ, LP⟩, oQ, oP, hsz, Br⟩ := hrel
                have toW := World.ownsRow.lt oW
                obtain ⟨aW, kW, rfl⟩ := oW.form
                rw [fromL_len] at oW toW ⊢
                have cLC0 := LC.cell 0 rfl
                have cLC1 := LC.cell 1 rfl
                by_cases hlt : fa + (k : Int) < n
                · obtain ⟨w4, hw4⟩ : ∃ y, wr.alloc (.cells #[.int .i64 (fa + (k : Int))] 3) = y := ⟨_, rfl⟩
                  have b4 : Below wr.heap.size wr w4 := hw4 ▸ qalloc _ _
                  have P4 : PI w4 (.slice (some ⟨wr.heap.size, 0, none⟩) 1 1) [fa + (k : Int)] := hw4 ▸ ⟨_, _, rfl, .inr ⟨_, rfl, cell_one wr _ _⟩⟩
                  have HF : fromL fa k ++ [fa + (k : Int)] = fromL fa (k + 1) := by rw [fromL_succ]
                  have s4 : w4.heap.size = wr.heap.size + 1 := by rw [← hw4]; simp
                  have O4 := hide (oW.below b4)
                  have HP4 := hide P4
                  have LC4 := hide (LC.below b4 LC.lt)
                  have LQ4 := hide (LQ.below b4 LQ.lt)
                  have LP4 := hide (LP.below b4 LP.lt)
                  have oQ4 := hide (oQ.below b4)
                  have oP4 := hide (oP.below b4)
                  have B4 := Br.trans (b4.mono Br.size)
                  clear oW LC LQ LP oQ oP b4 P4
                  go_wp2_with (first | (at_builtin; clear hw4; refine append_ints rfl _ _ rfl w10.heap.size (.slice aW k kW) (.slice (some ⟨wr.heap.size, 0, none⟩) 1 1) (fromL fa k) [fa + (k : Int)] rfl rfl (unhide O4) (unhide HP4) (by simp [fromL_len]; omega) (by omega) ?_; intro v5 w5 o5 g5 _
                                        have LC5 := hide ((unhide LC4).grownNew g5 (fun e => by have := toW _ e; omega))
                                        have LQ5 := hide ((unhide LQ4).grownNew g5 (fun e => by have := toW _ e; omega))
                                        have LP5 := hide ((unhide LP4).grownNew g5 (fun e => by have := toW _ e; omega))
                                        have oQ5 := hide ((unhide oQ4).kp (kp_grown g5) (fun j hj e => by have := toW _ e; have := toQ _ hj; omega))
                                        have oP5 := hide ((unhide oP4).kp (kp_grown g5) (fun j hj e => by have := toW _ e; have := toP _ hj; omega))
                                        have B5 := B4.grown g5 B4.size (fun j e => by have := toW _ e; omega)
                                        have s5 := g5.size
                                        rw [HF] at o5
                                        have O5 := hide o5
                                        clear O4 HP4 LC4 LQ4 LP4 oQ4 oP4 B4 o5 g5))
                  go_roundw
                  case rel => exact ⟨k + 1, by go_num, by omega, unhide O5, ⟨unhide LC5, unhide LQ5, unhide LP5⟩, unhide oQ5, unhide oP5, by omega, B5⟩
                  case measure => simp [intOf]; omega
                · have hkn' : fa + (k : Int) = n := by omega
                  have okw : OkL n (fromL fa k) := fromL_ok (by omega) (by omega)
                  have cw := common_more hn4 (unhide HOQ) okw (unhide HLQ) (by rw [fromL_len, ← unhide HEF]; omega)
                  rw [← unhide HEF] at cw
                  have wfw := hide (wf_ok (n := n) (by omega) okw)
                  have hk7 : k ≤ 7 := by omega
                  have RQ := hide fun w' (hb' : Below wr.heap.size wr w') => (oQ.below hb').ri (by omega)
                  have RP := hide fun w' (hb' : Below wr.heap.size wr w') => (oP.below hb').ri (by omega)
                  have RW : Hid (∀ w', Below wr.heap.size wr w' → RI w' (.slice aW k kW) (fromL fa k)) := hide fun w' hb' => (oW.below hb').ri (by rw [fromL_len]; omega)
                  have K1 := hide fun w h k => implCommon (.slice aoQ xs.length koQ) (.slice aoP ys.length koP) xs ys w h k (unhide wxs) (unhide wys)
                  have K2 := hide fun w h j => implCommon (.slice aoQ xs.length koQ) (.slice aW k kW) xs (fromL fa k) w h j (unhide wxs) (unhide wfw)
                  have dlt : decide (fa + (k : Int) < n) = false := by simp; omega
                  have e1 : decide (fa < (comL xs ys : Int)) = true := by simpa using cm
                  have e2 : decide (fa < (comL xs (fromL fa k) : Int)) = true := by simpa using cw
                  have hw1 : IntKind.i64.wrap (2 * qu) = 2 * qu := by simp only [IntKind.wrap_i64]; omega
                  have hw2 : IntKind.i64.wrap (2 * qu - n) = 2 * qu - n := by simp only [IntKind.wrap_i64]; omega
                  have hef : 3 * fa ≤ n - 1 := by have := unhide HEF; omega
                  have e3 : decide (fa < 2 * qu - n) = true := by simp; omega
                  generalize comL xs ys = c1 at *
                  generalize comL xs (fromL fa k) = c2 at *
                  clear cm cw okw
                  have Bwr := Br
                  have K : Hid (∀ w', Below wr.heap.size wr w' → (fun w' => Below wr.heap.size wr w' ∧ (w'.cell? ⟨w1.heap.size, 0, none⟩ = some (.int .i64 n) ∧ w'.cell? ⟨w1.heap.size, 1, none⟩ = some (.int .i64 f)) ∧ (w'.cell? ⟨w1.heap.size + 1, 0, none⟩ = some (.int .i64 v) ∧ w'.cell? ⟨w1.heap.size + 1, 1, none⟩ = some (.string s) ∧ w'.cell? ⟨w1.heap.size + 1, 2, none⟩ = some (.slice aoQ xs.length koQ)) ∧ (w'.cell? ⟨w3.heap.size + 1, 0, none⟩ = some (.int .i64 v') ∧ w'.cell? ⟨w3.heap.size + 1, 1, none⟩ = some (.string s') ∧ w'.cell? ⟨w3.heap.size + 1, 2, none⟩ = some (.slice aoP ys.length koP))) w') := hide fun w' hb' => ⟨hb', ⟨(LC.below hb' LC.lt).cell 0 rfl, (LC.below hb' LC.lt).cell 1 rfl⟩, ⟨(LQ.below hb' LQ.lt).cell 0 rfl, (LQ.below hb' LQ.lt).cell 1 rfl, (LQ.below hb' LQ.lt).cell 2 rfl⟩, ⟨(LP.below hb' LP.lt).cell 0 rfl, (LP.below hb' LP.lt).cell 1 rfl, (LP.below hb' LP.lt).cell 2 rfl⟩⟩
                  go_upto_region 19 with fail
                  have bA : Below wr.heap.size wr wr.drew := Below.drew (Below.refl _ _)
                  refine wp_region_noPanic ?_
                  refine wp_region_held_drew (S := fun w' => Below wr.heap.size wr w' ∧ (w'.cell? ⟨w1.heap.size, 0, none⟩ = some (.int .i64 n) ∧ w'.cell? ⟨w1.heap.size, 1, none⟩ = some (.int .i64 f)) ∧ (w'.cell? ⟨w1.heap.size + 1, 0, none⟩ = some (.int .i64 v) ∧ w'.cell? ⟨w1.heap.size + 1, 1, none⟩ = some (.string s) ∧ w'.cell? ⟨w1.heap.size + 1, 2, none⟩ = some (.slice aoQ xs.length koQ)) ∧ (w'.cell? ⟨w3.heap.size + 1, 0, none⟩ = some (.int .i64 v') ∧ w'.cell? ⟨w3.heap.size + 1, 1, none⟩ = some (.string s') ∧ w'.cell? ⟨w3.heap.size + 1, 2, none⟩ = some (.slice aoP ys.length koP))) (by kernel_rfl) (unhide K _ bA) (fun hHeld => ?_)
                  refine take_at (i := 0) (d := 124) (v := ?_) rfl rfl (by kernel_rfl) (by kernel_rfl) (by kernel_rfl) (fun _ _ _ h => h) (Or.inl ⟨by rfl, ?_⟩) (by assumption) ?_
                  rotate_left
                  · intro w hSw
                    try dsimp only at hSw
                    go_simp
                    try with_reducible rfl
                  simp only [Act.put, List.setIfInBounds_toArray, List.set_cons_zero, List.set_cons_succ]
                  refine take_at (i := 1) (d := 125) (v := ?_) rfl rfl (by kernel_rfl) (by kernel_rfl) (by kernel_rfl) (fun _ _ _ h => h) (Or.inl ⟨by rfl, ?_⟩) (by assumption) ?_
                  rotate_left
                  · intro w hSw
                    try dsimp only at hSw
                    go_simp
                    try with_reducible rfl
                  simp only [Act.put, List.setIfInBounds_toArray, List.set_cons_zero, List.set_cons_succ]
                  refine take_at (i := 2) (d := 126) (v := ?_) rfl rfl (by kernel_rfl) (by kernel_rfl) (by kernel_rfl) (fun _ _ _ h => h) (Or.inl ⟨by rfl, ?_⟩) (by assumption) ?_
                  rotate_left
                  · intro w hSw
                    try dsimp only at hSw
                    go_simp
                    try with_reducible rfl
                  simp only [Act.put, List.setIfInBounds_toArray, List.set_cons_zero, List.set_cons_succ]
                  refine take_at (i := 3) (d := 127) (v := ?_) rfl rfl (by kernel_rfl) (by kernel_rfl) (by kernel_rfl) (fun _ _ _ h => h) (Or.inl ⟨by rfl, ?_⟩) (by assumption) ?_
                  rotate_left
                  · intro w hSw
                    try dsimp only at hSw
                    go_simp
                    try with_reducible rfl
                  simp only [Act.put, List.setIfInBounds_toArray, List.set_cons_zero, List.set_cons_succ]
                  refine take_at (i := 5) (d := 129) (v := ?_) rfl rfl (by kernel_rfl) (by kernel_rfl) (by kernel_rfl) (fun _ _ _ h => h) (Or.inl ⟨by rfl, ?_⟩) (by assumption) ?_
                  rotate_left
                  · intro w hSw
                    try dsimp only at hSw
                    go_simp
                    try with_reducible rfl
                  simp only [Act.put, List.setIfInBounds_toArray, List.set_cons_zero, List.set_cons_succ]
                  refine ready_at (i := 4) rfl (by kernel_rfl) (fun KK hKK => ?_)
                  go_simp
                  have hgo := bA
                  refine (unhide K1 _ (unhide RQ _ hgo) (unhide RP _ hgo)).mono ?_
                  rintro e wz19_1 ⟨rfl, bb⟩
                  have bz1 : Below wr.heap.size wr wz19_1 := bA.trans (bb.mono bA.size)
                  clear bA hgo bb
                  clear hHeld
                  refine hKK.out _ _ (unhide K _ bz1) (fun hHeld => ?_)
                  clear hKK KK
                  refine ready_at (i := 6) rfl (by kernel_rfl) (fun KK hKK => ?_)
                  go_simp
                  have hgo := bz1
                  refine (unhide FI _).mono ?_
                  rintro e wz19_2 ⟨rfl, bb⟩
                  have bz2 : Below wr.heap.size wr wz19_2 := bz1.trans (bb.mono bz1.size)
                  clear bz1 hgo bb
                  clear hHeld
                  refine hKK.out _ _ (unhide K _ bz2) (fun hHeld => ?_)
                  clear hKK KK
                  refine take_at (i := 7) (d := 131) (v := ?_) rfl rfl (by kernel_rfl) (by kernel_rfl) (by kernel_rfl) (fun _ _ _ h => h) (Or.inl ⟨by rfl, ?_⟩) (by assumption) ?_
                  rotate_left
                  · intro w hSw
                    try dsimp only at hSw
                    go_simp
                    try with_reducible rfl
                  simp only [Act.put, List.setIfInBounds_toArray, List.set_cons_zero, List.set_cons_succ]
                  refine take_at (i := 8) (d := 132) (v := ?_) rfl rfl (by kernel_rfl) (by kernel_rfl) (by kernel_rfl) (fun _ _ _ h => h) (Or.inl ⟨by rfl, ?_⟩) (by assumption) ?_
                  rotate_left
                  · intro w hSw
                    try dsimp only at hSw
                    go_simp
                    try with_reducible rfl
                  simp only [Act.put, List.setIfInBounds_toArray, List.set_cons_zero, List.set_cons_succ]
                  refine take_at (i := 9) (d := 133) (v := ?_) rfl rfl (by kernel_rfl) (by kernel_rfl) (by kernel_rfl) (fun _ _ _ h => h) (Or.inl ⟨by rfl, ?_⟩) (by assumption) ?_
                  rotate_left
                  · intro w hSw
                    try dsimp only at hSw
                    go_simp
                    try with_reducible rfl
                  simp only [Act.put, List.setIfInBounds_toArray, List.set_cons_zero, List.set_cons_succ]
                  refine take_at (i := 10) (d := 134) (v := ?_) rfl rfl (by kernel_rfl) (by kernel_rfl) (by kernel_rfl) (fun _ _ _ h => h) (Or.inl ⟨by rfl, ?_⟩) (by assumption) ?_
                  rotate_left
                  · intro w hSw
                    try dsimp only at hSw
                    go_simp
                    try with_reducible rfl
                  simp only [Act.put, List.setIfInBounds_toArray, List.set_cons_zero, List.set_cons_succ]
                  refine take_at (i := 11) (d := 135) (v := ?_) rfl rfl (by kernel_rfl) (by kernel_rfl) (by kernel_rfl) (fun _ _ _ h => h) (Or.inl ⟨by rfl, ?_⟩) (by assumption) ?_
                  rotate_left
                  · intro w hSw
                    try dsimp only at hSw
                    go_simp
                    try with_reducible rfl
                  simp only [Act.put, List.setIfInBounds_toArray, List.set_cons_zero, List.set_cons_succ]
                  refine take_at (i := 13) (d := 137) (v := ?_) rfl rfl (by kernel_rfl) (by kernel_rfl) (by kernel_rfl) (fun _ _ _ h => h) (Or.inl ⟨by rfl, ?_⟩) (by assumption) ?_
                  rotate_left
                  · intro w hSw
                    try dsimp only at hSw
                    go_simp
                    try with_reducible rfl
                  simp only [Act.put, List.setIfInBounds_toArray, List.set_cons_zero, List.set_cons_succ]
                  refine ready_at (i := 12) rfl (by kernel_rfl) (fun KK hKK => ?_)
                  go_simp
                  have hgo := bz2
                  refine (unhide K2 _ (unhide RQ _ hgo) (unhide RW _ hgo)).mono ?_
                  rintro e wz19_3 ⟨rfl, bb⟩
                  have bz3 : Below wr.heap.size wr wz19_3 := bz2.trans (bb.mono bz2.size)
                  clear bz2 hgo bb
                  clear hHeld
                  refine hKK.out _ _ (unhide K _ bz3) (fun hHeld => ?_)
                  clear hKK KK
                  refine ready_at (i := 14) rfl (by kernel_rfl) (fun KK hKK => ?_)
                  go_simp
                  have hgo := bz3
                  refine (unhide FI _).mono ?_
                  rintro e wz19_4 ⟨rfl, bb⟩
                  have bz4 : Below wr.heap.size wr wz19_4 := bz3.trans (bb.mono bz3.size)
                  clear bz3 hgo bb
                  clear hHeld
                  refine hKK.out _ _ (unhide K _ bz4) (fun hHeld => ?_)
                  clear hKK KK
                  refine take_at (i := 15) (d := 139) (v := ?_) rfl rfl (by kernel_rfl) (by kernel_rfl) (by kernel_rfl) (fun _ _ _ h => h) (Or.inl ⟨by rfl, ?_⟩) (by assumption) ?_
                  rotate_left
                  · intro w hSw
                    try dsimp only at hSw
                    go_simp
                    try with_reducible rfl
                  simp only [Act.put, List.setIfInBounds_toArray, List.set_cons_zero, List.set_cons_succ]
                  refine take_at (i := 16) (d := 140) (v := ?_) rfl rfl (by kernel_rfl) (by kernel_rfl) (by kernel_rfl) (fun _ _ _ h => h) (Or.inl ⟨by rfl, ?_⟩) (by assumption) ?_
                  rotate_left
                  · intro w hSw
                    try dsimp only at hSw
                    go_simp
                    try with_reducible rfl
                  simp only [Act.put, List.setIfInBounds_toArray, List.set_cons_zero, List.set_cons_succ]
                  refine take_at (i := 17) (d := 141) (v := ?_) rfl rfl (by kernel_rfl) (by kernel_rfl) (by kernel_rfl) (fun _ _ _ h => h) (Or.inl ⟨by rfl, ?_⟩) (by assumption) ?_
                  rotate_left
                  · intro w hSw
                    try dsimp only at hSw
                    go_simp
                    try with_reducible rfl
                  simp only [Act.put, List.setIfInBounds_toArray, List.set_cons_zero, List.set_cons_succ]
                  refine take_at (i := 18) (d := 142) (v := ?_) rfl rfl (by kernel_rfl) (by kernel_rfl) (by kernel_rfl) (fun _ _ _ h => h) (Or.inl ⟨by rfl, ?_⟩) (by assumption) ?_
                  rotate_left
                  · intro w hSw
                    try dsimp only at hSw
                    go_simp
                    try with_reducible rfl
                  simp only [Act.put, List.setIfInBounds_toArray, List.set_cons_zero, List.set_cons_succ]
                  refine take_at (i := 21) (d := 145) (v := ?_) rfl rfl (by kernel_rfl) (by kernel_rfl) (by kernel_rfl) (fun _ _ _ h => h) (Or.inl ⟨by rfl, ?_⟩) (by assumption) ?_
                  rotate_left
                  · intro w hSw
                    try dsimp only at hSw
                    go_simp
                    try with_reducible rfl
                  simp only [Act.put, List.setIfInBounds_toArray, List.set_cons_zero, List.set_cons_succ]
                  refine take_at (i := 22) (d := 146) (v := ?_) rfl rfl (by kernel_rfl) (by kernel_rfl) (by kernel_rfl) (fun _ _ _ h => h) (Or.inl ⟨by rfl, ?_⟩) (by assumption) ?_
                  rotate_left
                  · intro w hSw
                    try dsimp only at hSw
                    go_simp
                    try with_reducible rfl
                  simp only [Act.put, List.setIfInBounds_toArray, List.set_cons_zero, List.set_cons_succ]
                  refine take_at (i := 24) (d := 148) (v := ?_) rfl rfl (by kernel_rfl) (by kernel_rfl) (by kernel_rfl) (fun _ _ _ h => h) (Or.inl ⟨by rfl, ?_⟩) (by assumption) ?_
                  rotate_left
                  · intro w hSw
                    try dsimp only at hSw
                    go_simp
                    try with_reducible rfl
                  simp only [Act.put, List.setIfInBounds_toArray, List.set_cons_zero, List.set_cons_succ]
                  refine ready_at (i := 19) rfl (by kernel_rfl) (fun KK hKK => ?_)
                  go_simp
                  have hgo := bz4
                  refine (unhide UI _).mono ?_
                  rintro e wz19_5 ⟨rfl, bb⟩
                  have bz5 : Below wr.heap.size wr wz19_5 := bz4.trans (bb.mono bz4.size)
                  clear bz4 hgo bb
                  clear hHeld
                  refine hKK.out _ _ (unhide K _ bz5) (fun hHeld => ?_)
                  clear hKK KK
                  refine take_at (i := 20) (d := 144) (v := ?_) rfl rfl (by kernel_rfl) (by kernel_rfl) (by kernel_rfl) (fun _ _ _ h => h) (Or.inl ⟨by rfl, ?_⟩) (by assumption) ?_
                  rotate_left
                  · intro w hSw
                    try dsimp only at hSw
                    go_simp
                    try with_reducible rfl
                  simp only [Act.put, List.setIfInBounds_toArray, List.set_cons_zero, List.set_cons_succ]
                  refine take_at (i := 23) (d := 147) (v := ?_) rfl rfl (by kernel_rfl) (by kernel_rfl) (by kernel_rfl) (fun _ _ _ h => h) (Or.inl ⟨by rfl, ?_⟩) (by assumption) ?_
                  rotate_left
                  · intro w hSw
                    try dsimp only at hSw
                    go_simp
                    try with_reducible rfl
                  simp only [Act.put, List.setIfInBounds_toArray, List.set_cons_zero, List.set_cons_succ]
                  refine ready_at (i := 25) rfl (by kernel_rfl) (fun KK hKK => ?_)
                  go_simp
                  have hgo := bz5
                  refine (unhide FI _).mono ?_
                  rintro e wz19_6 ⟨rfl, bb⟩
                  have bz6 : Below wr.heap.size wr wz19_6 := bz5.trans (bb.mono bz5.size)
                  clear bz5 hgo bb
                  clear hHeld
                  refine hKK.out _ _ (unhide K _ bz6) (fun hHeld => ?_)
                  clear hKK KK
                  refine take_at (i := 26) (d := 150) (v := ?_) rfl rfl (by kernel_rfl) (by kernel_rfl) (by kernel_rfl) (fun _ _ _ h => h) (Or.inl ⟨by rfl, ?_⟩) (by assumption) ?_
                  rotate_left
                  · intro w hSw
                    try dsimp only at hSw
                    go_simp
                    try with_reducible rfl
                  simp only [Act.put, List.setIfInBounds_toArray, List.set_cons_zero, List.set_cons_succ]
                  refine take_at (i := 27) (d := 151) (v := ?_) rfl rfl (by kernel_rfl) (by kernel_rfl) (by kernel_rfl) (fun _ _ _ h => h) (Or.inl ⟨by rfl, ?_⟩) (by assumption) ?_
                  rotate_left
                  · intro w hSw
                    try dsimp only at hSw
                    go_simp
                    try with_reducible rfl
                  simp only [Act.put, List.setIfInBounds_toArray, List.set_cons_zero, List.set_cons_succ]
                  refine take_at (i := 28) (d := 2) (v := ?_) rfl rfl (by kernel_rfl) (by kernel_rfl) (by kernel_rfl) (fun _ _ _ h => h) (Or.inl ⟨by rfl, ?_⟩) (by assumption) ?_
                  rotate_left
                  · intro w hSw
                    try dsimp only at hSw
                    go_simp
                    try with_reducible rfl
                  simp only [Act.put, List.setIfInBounds_toArray, List.set_cons_zero, List.set_cons_succ]
                  clear hHeld
                  refine wpAnyH_done (by kernel_rfl) ?_ _
                  refine NoPanic.normal ?_
                  have bb := bz6
                  have Bwz19_6 := Bwr.trans (bb.mono Bwr.size)
                  have swz19_6 := bb.size
                  replace LC := LC.below bb LC.lt
                  replace LQ := LQ.below bb LQ.lt
                  replace LP := LP.below bb LP.lt
                  replace oW := oW.below bb
                  replace oQ := oQ.below bb
                  replace oP := oP.below bb
                  clear Bwr
                  clear bb bz6 K
                  go_wp2
                  go_ret
                  exact ⟨rfl, Bwz19_6⟩
        · have hfb : (f == f') = false := by simpa using hf
          go_wp2
          go_ret
          exact ⟨rfl, Bw10⟩
      · have hnb : (n == n') = false := by simpa using hc
        go_wp2
        go_ret
        exact ⟨rfl, Bw10⟩
end Go.Proofs.YtdgadkinkalcpaaGreatDoor
