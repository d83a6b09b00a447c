/- The walk of laws.FnExactQcOk. -/
import Derived.Test.YtdgadkinkalcpaaGreatDoorQcPlainQ
import Derived.Test.YtdgadkinkalcpaaGreatDoorQcOpenQ
import Derived.Test.YtdgadkinkalcpaaGreatDoorBunI
import Derived.Deep.RegionHeld3
import Derived.Deep.DeepCutAuto
/- The walk of laws.FnExactQcOk. -/
namespace Go.Proofs.YtdgadkinkalcpaaGreatDoor
open Go.RowKit
set_option linter.unusedSectionVars false
variable [∀ (a b c d : Int), Decidable (Ok4 a b c d)]
variable [∀ (a b c d : Nat), Decidable (okN a b c d)]
variable [∀ (last : Int) (s : St), Decidable (GoodSt last s)]
variable [∀ (x : T4), Decidable (OkT x)]
variable [∀ (n : Int) (s : List Int), Decidable (OkL n s)]
variable [∀ (n f : Int), Decidable (COk n f)]

theorem below_low {w w0 : World} (h : Below w.heap.size w w0) : Below w.heap.size w w0 := h
set_option maxHeartbeats 8000000 in
set_option maxRecDepth 100000 in
theorem fnQcOk_short (n f v : Int) (s : ByteArray) (ao : Option Addr) (ca : Nat) (xs : List Int) (w : World) (hz : s.size + xs.length ≤ 1048576) (hE : Env w) (ha : RI w (.slice ao xs.length ca) xs) :
    Calls Tryz.prog 4 #[cv n f, qv v s (.slice ao xs.length ca)] w fun e w' => e = .returned (.bool true) ∧ Below w.heap.size w w' := by
  have HA := hide ha
  have HE := hide hE
  have ZA := hide fun w => szQc_yes v s ao xs.length ca 1048576 w (by omega) (by omega)
  have TC := hide fun w => toConf_any n f w
  have TA := hide fun w h => toQc_any v s (.slice ao xs.length ca) xs w h
  have d1 : decide ((1048576 : Int) - (s.size : Int) - (xs.length : Int) < 0) = false := by simp; omega
  have SP := hide fun a k w h => specQcOk n f v s a k xs w (by omega) h
  have IM := hide fun a k w e h => implQcOk n f v s a k xs w (by omega) e h
  generalize qokB n f v s xs = q at *
  have hq : (q != q) = false := by simp
  obtain ⟨w0, hw0⟩ : ∃ w0, (w.alloc (.cells #[.int .i64 n, .int .i64 f] 40)).alloc (.cells #[.int .i64 v, .string s, .slice ao xs.length ca] 41) = w0 := ⟨_, rfl⟩
  have Bw0 : Below w.heap.size w w0 := hw0 ▸ qalloc2 _ _ _
  have LC : Loc w0 w.heap.size #[.int .i64 n, .int .i64 f] := hw0 ▸ (loc_at w _ _ rfl).alloc _
  have LA : Loc w0 (w.heap.size + 1) #[.int .i64 v, .string s, .slice ao xs.length ca] := hw0 ▸ loc_at (w.alloc _) _ _ (by simp)
  have z0 : w0.heap.size = w.heap.size + 1 + 1 := by rw [← hw0]; simp
  clear ha hE
  go_enter Tryz.func4, Tryz.ntmps4
  have cLA0 := LA.cell 0 rfl
  have cLA1 := LA.cell 1 rfl
  have cLA2 := LA.cell 2 rfl
  go_wp2_with fail
  clear hw0
  refine (unhide ZA _).mono ?_
  rintro _ w1 ⟨rfl, bb⟩
  clear cLA0 cLA1 cLA2
  have Bw1 := Bw0.trans (bb.mono Bw0.size)
  have sw1 := bb.size
  replace LC := LC.below bb LC.lt
  replace LA := LA.below bb LA.lt
  clear Bw0
  clear bb ZA
  have K : Hid (∀ w', Below w1.heap.size w1 w' → (fun w' => Below w1.heap.size w1 w' ∧ (w'.cell? ⟨w.heap.size, 0, none⟩ = some (.int .i64 n) ∧ w'.cell? ⟨w.heap.size, 1, none⟩ = some (.int .i64 f)) ∧ (w'.cell? ⟨w.heap.size + 1, 0, none⟩ = some (.int .i64 v) ∧ w'.cell? ⟨w.heap.size + 1, 1, none⟩ = some (.string s) ∧ w'.cell? ⟨w.heap.size + 1, 2, none⟩ = some (.slice ao xs.length ca))) w') := hide fun w' hb' => ⟨hb', ⟨(LC.below hb' LC.lt).cell 0 rfl, (LC.below hb' LC.lt).cell 1 rfl⟩, ⟨(LA.below hb' LA.lt).cell 0 rfl, (LA.below hb' LA.lt).cell 1 rfl, (LA.below hb' LA.lt).cell 2 rfl⟩⟩
  go_upto_region 5 with fail
  have bA : Below w1.heap.size w1 w1.drew := Below.drew (Below.refl _ _)
  refine wp_region_noPanic ?_
  refine wp_region_held_drew (S := fun w' => Below w1.heap.size w1 w' ∧ (w'.cell? ⟨w.heap.size, 0, none⟩ = some (.int .i64 n) ∧ w'.cell? ⟨w.heap.size, 1, none⟩ = some (.int .i64 f)) ∧ (w'.cell? ⟨w.heap.size + 1, 0, none⟩ = some (.int .i64 v) ∧ w'.cell? ⟨w.heap.size + 1, 1, none⟩ = some (.string s) ∧ w'.cell? ⟨w.heap.size + 1, 2, none⟩ = some (.slice ao xs.length ca))) (by kernel_rfl) (unhide K _ bA) (fun hHeld => ?_)
  refine take_at (i := 0) (d := 14) (v := ?_) rfl rfl (by kernel_rfl) (by kernel_rfl) (by kernel_rfl) (fun _ _ _ h => h) (Or.inl ⟨by rfl, ?_⟩) (by assumption) ?_
  rotate_left
  · intro w hSw
    try dsimp only at hSw
    go_simp
    try with_reducible rfl
  simp only [Act.put, List.setIfInBounds_toArray, List.set_cons_zero, List.set_cons_succ]
  refine take_at (i := 2) (d := 16) (v := ?_) rfl rfl (by kernel_rfl) (by kernel_rfl) (by kernel_rfl) (fun _ _ _ h => h) (Or.inl ⟨by rfl, ?_⟩) (by assumption) ?_
  rotate_left
  · intro w hSw
    try dsimp only at hSw
    go_simp
    try with_reducible rfl
  simp only [Act.put, List.setIfInBounds_toArray, List.set_cons_zero, List.set_cons_succ]
  refine ready_at (i := 1) rfl (by kernel_rfl) (fun KK hKK => ?_)
  go_simp
  have hgo := bA
  refine (unhide TC _).mono ?_
  rintro e wx5_0 ⟨rfl, bb⟩
  have bB : Below w1.heap.size w1 wx5_0 := bA.trans (bb.mono bA.size)
  clear bA hgo bb
  clear hHeld
  refine hKK.out _ _ (unhide K _ bB) (fun hHeld => ?_)
  clear hKK KK
  refine ready_at (i := 3) rfl (by kernel_rfl) (fun KK hKK => ?_)
  go_simp
  have hgo := bB
  refine (unhide TA _ ((unhide HA).below (Bw1.trans (hgo.mono Bw1.size)) (Nat.le_refl _))).mono ?_
  rintro e wx5_1 ⟨vv1, rfl, o1, bb⟩
  have bC : Below w1.heap.size w1 wx5_1 := bB.trans (bb.mono bB.size)
  have R1 := hide (o1.ri (by omega))
  obtain ⟨a1, k1, rfl⟩ := o1.form
  clear o1
  clear bB hgo bb
  clear hHeld
  refine hKK.out _ _ (unhide K _ bC) (fun hHeld => ?_)
  clear hKK KK
  refine ready_at (i := 4) rfl (by kernel_rfl) (fun KK hKK => ?_)
  go_simp
  have hgo := bC
  refine (unhide SP _ _ _ (unhide R1)).mono ?_
  rintro e wx5_2 ⟨rfl, bb⟩
  have bD : Below w1.heap.size w1 wx5_2 := bC.trans (bb.mono bC.size)
  clear R1
  clear bC hgo bb
  clear hHeld
  refine hKK.out _ _ (unhide K _ bD) (fun hHeld => ?_)
  clear hKK KK
  refine take_at (i := 5) (d := 6) (v := ?_) rfl rfl (by kernel_rfl) (by kernel_rfl) (by kernel_rfl) (fun _ _ _ h => h) (Or.inl ⟨by rfl, ?_⟩) (by assumption) ?_
  rotate_left
  · intro w hSw
    try dsimp only at hSw
    go_simp
    try with_reducible rfl
  simp only [Act.put, List.setIfInBounds_toArray, List.set_cons_zero, List.set_cons_succ]
  clear hHeld
  refine wpAnyH_done (by kernel_rfl) ?_ _
  refine NoPanic.normal ?_
  have bb := bD
  have Bwx5_2 := Bw1.trans (bb.mono Bw1.size)
  have swx5_2 := bb.size
  replace LC := LC.below bb LC.lt
  replace LA := LA.below bb LA.lt
  clear Bw1
  clear bb bD K
  clear SP
  have cLA0 := LA.cell 0 rfl
  have cLA1 := LA.cell 1 rfl
  have cLA2 := LA.cell 2 rfl
  go_wp2_with fail
  refine (unhide TA _ ((unhide HA).below Bwx5_2 (Nat.le_refl _))).mono ?_
  rintro _ w2 ⟨vX, rfl, oX, bb⟩
  clear cLA0 cLA1 cLA2
  have Bw2 := Bwx5_2.trans (bb.mono Bwx5_2.size)
  have sw2 := bb.size
  replace LC := LC.below bb LC.lt
  replace LA := LA.below bb LA.lt
  clear Bwx5_2
  clear bb
  have toX := World.ownsRow.lt oX
  obtain ⟨aoX, koX, rfl⟩ := oX.form
  obtain ⟨w3, hw3⟩ : ∃ x, w2.alloc (.cells #[.int .i64 v, .string s, .slice aoX xs.length koX] 28) = x := ⟨_, rfl⟩
  have bb : Below w2.heap.size w2 w3 := hw3 ▸ qalloc _ _
  have X : Loc w3 w2.heap.size #[.int .i64 v, .string s, .slice aoX xs.length koX] := hw3 ▸ loc_at w2 _ _ rfl
  have zw3 : w3.heap.size = w2.heap.size + 1 := by rw [← hw3]; simp
  have Bw3 := Bw2.trans (bb.mono Bw2.size)
  have sw3 := bb.size
  replace LC := LC.below bb LC.lt
  replace LA := LA.below bb LA.lt
  replace oX := oX.below bb
  clear Bw2
  clear bb
  have RX := hide fun w' (hb' : Below w3.heap.size w3 w') => (oX.below hb').ri (by omega)
  have K : Hid (∀ w', Below w3.heap.size w3 w' → (fun w' => Below w3.heap.size w3 w' ∧ (w'.cell? ⟨w.heap.size, 0, none⟩ = some (.int .i64 n) ∧ w'.cell? ⟨w.heap.size, 1, none⟩ = some (.int .i64 f)) ∧ (w'.cell? ⟨w2.heap.size, 0, none⟩ = some (.int .i64 v) ∧ w'.cell? ⟨w2.heap.size, 1, none⟩ = some (.string s) ∧ w'.cell? ⟨w2.heap.size, 2, none⟩ = some (.slice aoX xs.length koX))) w') := hide fun w' hb' => ⟨hb', ⟨(LC.below hb' LC.lt).cell 0 rfl, (LC.below hb' LC.lt).cell 1 rfl⟩, ⟨(X.below hb' X.lt).cell 0 rfl, (X.below hb' X.lt).cell 1 rfl, (X.below hb' X.lt).cell 2 rfl⟩⟩
  go_upto_region 7 with fail
  clear hw3
  have bA : Below w3.heap.size w3 w3.drew := Below.drew (Below.refl _ _)
  refine wp_region_noPanic ?_
  refine wp_region_held_drew (S := fun w' => Below w3.heap.size w3 w' ∧ (w'.cell? ⟨w.heap.size, 0, none⟩ = some (.int .i64 n) ∧ w'.cell? ⟨w.heap.size, 1, none⟩ = some (.int .i64 f)) ∧ (w'.cell? ⟨w2.heap.size, 0, none⟩ = some (.int .i64 v) ∧ w'.cell? ⟨w2.heap.size, 1, none⟩ = some (.string s) ∧ w'.cell? ⟨w2.heap.size, 2, none⟩ = some (.slice aoX xs.length koX))) (by kernel_rfl) (unhide K _ bA) (fun hHeld => ?_)
  refine take_at (i := 0) (d := 21) (v := ?_) rfl rfl (by kernel_rfl) (by kernel_rfl) (by kernel_rfl) (fun _ _ _ h => h) (Or.inl ⟨by rfl, ?_⟩) (by assumption) ?_
  rotate_left
  · intro w hSw
    try dsimp only at hSw
    go_simp
    try with_reducible rfl
  simp only [Act.put, List.setIfInBounds_toArray, List.set_cons_zero, List.set_cons_succ]
  refine take_at (i := 2) (d := 23) (v := ?_) rfl rfl (by kernel_rfl) (by kernel_rfl) (by kernel_rfl) (fun _ _ _ h => h) (Or.inl ⟨by rfl, ?_⟩) (by assumption) ?_
  rotate_left
  · intro w hSw
    try dsimp only at hSw
    go_simp
    try with_reducible rfl
  simp only [Act.put, List.setIfInBounds_toArray, List.set_cons_zero, List.set_cons_succ]
  refine ready_at (i := 1) rfl (by kernel_rfl) (fun KK hKK => ?_)
  go_simp
  have hgo := bA
  refine (unhide TC _).mono ?_
  rintro e wx7_0 ⟨rfl, bb⟩
  have bB : Below w3.heap.size w3 wx7_0 := bA.trans (bb.mono bA.size)
  clear bA hgo bb
  clear hHeld
  refine hKK.out _ _ (unhide K _ bB) (fun hHeld => ?_)
  clear hKK KK
  refine ready_at (i := 3) rfl (by kernel_rfl) (fun KK hKK => ?_)
  go_simp
  have hgo := bB
  refine (unhide IM _ _ _ ((unhide HE).below (below_low (Bw3.trans (hgo.mono Bw3.size)))) (unhide RX _ hgo)).mono ?_
  rintro e wx7_1 ⟨rfl, bb⟩
  have bC : Below w3.heap.size w3 wx7_1 := bB.trans (bb.mono bB.size)
  clear RX
  clear bB hgo bb
  clear hHeld
  refine hKK.out _ _ (unhide K _ bC) (fun hHeld => ?_)
  clear hKK KK
  refine take_at (i := 4) (d := 8) (v := ?_) rfl rfl (by kernel_rfl) (by kernel_rfl) (by kernel_rfl) (fun _ _ _ h => h) (Or.inl ⟨by rfl, ?_⟩) (by assumption) ?_
  rotate_left
  · intro w hSw
    try dsimp only at hSw
    go_simp
    try with_reducible rfl
  simp only [Act.put, List.setIfInBounds_toArray, List.set_cons_zero, List.set_cons_succ]
  clear hHeld
  refine wpAnyH_done (by kernel_rfl) ?_ _
  refine NoPanic.normal ?_
  have bb := bC
  have Bwx7_1 := Bw3.trans (bb.mono Bw3.size)
  have swx7_1 := bb.size
  replace LC := LC.below bb LC.lt
  replace LA := LA.below bb LA.lt
  replace X := X.below bb X.lt
  replace oX := oX.below bb
  clear Bw3
  clear bb bC K
  clear IM
  have RX := hide fun w' (hb' : Below wx7_1.heap.size wx7_1 w') => (oX.below hb').ri (by omega)
  have K : Hid (∀ w', Below wx7_1.heap.size wx7_1 w' → (fun w' => Below wx7_1.heap.size wx7_1 w' ∧ (w'.cell? ⟨w.heap.size + 1, 0, none⟩ = some (.int .i64 v) ∧ w'.cell? ⟨w.heap.size + 1, 1, none⟩ = some (.string s) ∧ w'.cell? ⟨w.heap.size + 1, 2, none⟩ = some (.slice ao xs.length ca)) ∧ (w'.cell? ⟨w2.heap.size, 0, none⟩ = some (.int .i64 v) ∧ w'.cell? ⟨w2.heap.size, 1, none⟩ = some (.string s) ∧ w'.cell? ⟨w2.heap.size, 2, none⟩ = some (.slice aoX xs.length koX))) w') := hide fun w' hb' => ⟨hb', ⟨(LA.below hb' LA.lt).cell 0 rfl, (LA.below hb' LA.lt).cell 1 rfl, (LA.below hb' LA.lt).cell 2 rfl⟩, ⟨(X.below hb' X.lt).cell 0 rfl, (X.below hb' X.lt).cell 1 rfl, (X.below hb' X.lt).cell 2 rfl⟩⟩
  go_upto_region 10 with fail
  have bA : Below wx7_1.heap.size wx7_1 wx7_1.drew := Below.drew (Below.refl _ _)
  refine wp_region_noPanic ?_
  refine wp_region_held_drew (S := fun w' => Below wx7_1.heap.size wx7_1 w' ∧ (w'.cell? ⟨w.heap.size + 1, 0, none⟩ = some (.int .i64 v) ∧ w'.cell? ⟨w.heap.size + 1, 1, none⟩ = some (.string s) ∧ w'.cell? ⟨w.heap.size + 1, 2, none⟩ = some (.slice ao xs.length ca)) ∧ (w'.cell? ⟨w2.heap.size, 0, none⟩ = some (.int .i64 v) ∧ w'.cell? ⟨w2.heap.size, 1, none⟩ = some (.string s) ∧ w'.cell? ⟨w2.heap.size, 2, none⟩ = some (.slice aoX xs.length koX))) (by kernel_rfl) (unhide K _ bA) (fun hHeld => ?_)
  refine take_at (i := 0) (d := 28) (v := ?_) rfl rfl (by kernel_rfl) (by kernel_rfl) (by kernel_rfl) (fun _ _ _ h => h) (Or.inl ⟨by rfl, ?_⟩) (by assumption) ?_
  rotate_left
  · intro w hSw
    try dsimp only at hSw
    go_simp
    try with_reducible rfl
  simp only [Act.put, List.setIfInBounds_toArray, List.set_cons_zero, List.set_cons_succ]
  refine take_at (i := 1) (d := 29) (v := ?_) rfl rfl (by kernel_rfl) (by kernel_rfl) (by kernel_rfl) (fun _ _ _ h => h) (Or.inl ⟨by rfl, ?_⟩) (by assumption) ?_
  rotate_left
  · intro w hSw
    try dsimp only at hSw
    go_simp
    try with_reducible rfl
  simp only [Act.put, List.setIfInBounds_toArray, List.set_cons_zero, List.set_cons_succ]
  refine ready_at (i := 2) rfl (by kernel_rfl) (fun KK hKK => ?_)
  go_simp
  have hgo := bA
  refine (unhide TA _ ((unhide HA).below (Bwx7_1.trans (hgo.mono Bwx7_1.size)) (Nat.le_refl _))).mono ?_
  rintro e wx10_0 ⟨vv1, rfl, o1, bb⟩
  have bB : Below wx7_1.heap.size wx7_1 wx10_0 := bA.trans (bb.mono bA.size)
  have R1 := hide (o1.ri (by omega))
  clear o1
  clear bA hgo bb
  clear hHeld
  refine hKK.out _ _ (unhide K _ bB) (fun hHeld => ?_)
  clear hKK KK
  refine ready_at (i := 3) rfl (by kernel_rfl) (fun KK hKK => ?_)
  go_simp
  have hgo := bB
  refine (eqQc_yes v s _ _ xs _ (unhide RX _ hgo) (unhide R1)).mono ?_
  rintro e wx10_1 ⟨rfl, bb⟩
  have bC : Below wx7_1.heap.size wx7_1 wx10_1 := bB.trans (bb.mono bB.size)
  clear R1 RX
  clear bB hgo bb
  clear hHeld
  refine hKK.out _ _ (unhide K _ bC) (fun hHeld => ?_)
  clear hKK KK
  refine take_at (i := 4) (d := 32) (v := ?_) rfl rfl (by kernel_rfl) (by kernel_rfl) (by kernel_rfl) (fun _ _ _ h => h) (Or.inl ⟨by rfl, ?_⟩) (by assumption) ?_
  rotate_left
  · intro w hSw
    try dsimp only at hSw
    go_simp
    try with_reducible rfl
  simp only [Act.put, List.setIfInBounds_toArray, List.set_cons_zero, List.set_cons_succ]
  clear hHeld
  refine wpAnyH_done (by kernel_rfl) ?_ _
  refine NoPanic.normal ?_
  have bb := bC
  have Bwx10_1 := Bwx7_1.trans (bb.mono Bwx7_1.size)
  have swx10_1 := bb.size
  replace LC := LC.below bb LC.lt
  replace LA := LA.below bb LA.lt
  replace X := X.below bb X.lt
  replace oX := oX.below bb
  clear Bwx7_1
  clear bb bC K
  go_wp2
  go_ret
  exact ⟨rfl, Bwx10_1⟩

set_option maxHeartbeats 4000000 in
set_option maxRecDepth 100000 in
theorem fnQcOk_long (n f v : Int) (s : ByteArray) (ao : Option Addr) (ca k : Nat) (w : World) (h : 1048576 < s.size + k) (hs : s.size ≤ maxLen) (hk : k ≤ maxLen) :
    Calls Tryz.prog 4 #[cv n f, qv v s (.slice ao k ca)] w fun e w' => e = .returned (.bool true) ∧ Below w.heap.size w w' := by
  unfold maxLen at hs hk
  have ZA := hide fun w => szQc_no v s ao k ca 1048576 w (by omega) (by omega) (by omega) (by omega) (by omega)
  have B0 := qalloc2 w (.cells #[.int .i64 n, .int .i64 f] 40) (.cells #[.int .i64 v, .string s, .slice ao k ca] 41)
  go_enter Tryz.func4, Tryz.ntmps4
  go_wp2_with fail
  refine (unhide ZA _).mono ?_
  rintro _ w1 ⟨rfl, b1⟩
  go_wp2
  go_ret
  exact ⟨rfl, B0.trans (b1.mono B0.size)⟩
theorem fnQcOk_walk (n f v : Int) (s : ByteArray) (ao : Option Addr) (ca : Nat) (xs : List Int) (w : World) (hs : s.size ≤ maxLen) (hx : xs.length ≤ maxLen) (ha : AIW w ao xs) (hE : Env w) :
    Calls Tryz.prog 4 #[cv n f, qv v s (.slice ao xs.length ca)] w fun e w' => e = .returned (.bool true) ∧ Below w.heap.size w w' := by
  by_cases h1 : s.size + xs.length ≤ 1048576
  · exact fnQcOk_short n f v s ao ca xs w h1 hE (ha.ri (by omega))
  · exact fnQcOk_long n f v s ao ca _ w (by omega) hs hx
end Go.Proofs.YtdgadkinkalcpaaGreatDoor
