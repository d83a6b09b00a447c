/- The walk of laws.FnExactBlockOk. -/
import Derived.Test.YtggmgfkmbgcooaaGreatDoorBlockOksQ
import Derived.Test.YtggmgfkmbgcooaaGreatDoorBunM
/- The walk of laws.FnExactBlockOk. -/
namespace Go.Proofs.YtggmgfkmbgcooaaGreatDoor
open Go.RowKit
set_option linter.unusedSectionVars false
variable [∀ (a b c d : Int), Decidable (Ok4 a b c d)]
variable [∀ (a b c d : Nat), Decidable (okN a b c d)]
variable [∀ (last : Int) (s : St), Decidable (GoodSt last s)]
variable [∀ (x : T4), Decidable (OkT x)]
variable [∀ (n : Int) (s : List Int), Decidable (OkL n s)]
variable [∀ (n f : Int), Decidable (COk n f)]

set_option maxHeartbeats 8000000 in
set_option maxRecDepth 100000 in
theorem fnBlockOk_short (n f : Int) (m : ByteArray) (v : Int) (s : ByteArray) (ao : Option Addr) (ca : Nat) (xs : List Int) (w : World) (hz : m.size + s.size + xs.length ≤ 1048576) (hE : Env w) (ha : RI w (.slice ao xs.length ca) xs) :
    Calls Tryz.prog 4 #[cv n f, bv m v s (.slice ao xs.length ca)] w fun e w' => e = .returned (.bool true) ∧ Below w.heap.size w w' := by
  have HA := hide ha
  have HE := hide hE
  have ZA := hide fun w => szBlock_yes m v s ao xs.length ca 1048576 w (by omega) (by omega)
  have TC := hide fun w => toConf_any n f w
  have TA := hide fun w h => toBlock_any m v s (.slice ao xs.length ca) xs w h
  have d1 : decide ((1048576 : Int) - (m.size : Int) - (s.size : Int) - (xs.length : Int) < 0) = false := by simp; omega
  have SP := hide fun a k w h => specBlockOk n f m v s a k xs w (by omega) (by omega) h
  have IM := hide fun a k w e h => implBlockOk n f m v s a k xs w (by omega) (by omega) e h
  generalize bokB n f m v s xs = q at *
  have hq : (q != q) = false := by simp
  obtain ⟨w0, hw0⟩ : ∃ w0, (w.alloc (.cells #[.int .i64 n, .int .i64 f] 45)).alloc (.cells #[.string m, .int .i64 v, .string s, .slice ao xs.length ca] 48) = w0 := ⟨_, rfl⟩
  have Bw0 : Below w.heap.size w w0 := hw0 ▸ qalloc2 _ _ _
  have LC : Loc w0 w.heap.size #[.int .i64 n, .int .i64 f] := hw0 ▸ (loc_at w _ _ rfl).alloc _
  have LA : Loc w0 (w.heap.size + 1) #[.string m, .int .i64 v, .string s, .slice ao xs.length ca] := hw0 ▸ loc_at (w.alloc _) _ _ (by simp)
  have z0 : w0.heap.size = w.heap.size + 1 + 1 := by rw [← hw0]; simp
  clear ha hE
  go_enter Tryz.func4, Tryz.ntmps4
  have cLA0 := LA.cell 0 rfl
  have cLA1 := LA.cell 1 rfl
  have cLA2 := LA.cell 2 rfl
  have cLA3 := LA.cell 3 rfl
  go_wp2_with fail
  clear hw0
  refine (unhide ZA _).mono ?_
  rintro _ w1 ⟨rfl, bb⟩
  clear cLA0 cLA1 cLA2 cLA3
  have Bw1 := Bw0.trans (bb.mono Bw0.size)
  have sw1 := bb.size
  replace LC := LC.below bb LC.lt
  replace LA := LA.below bb LA.lt
  clear Bw0
  clear bb ZA
  have K : Hid (∀ w', Below w1.heap.size w1 w' → (fun w' => Below w1.heap.size w1 w' ∧ (w'.cell? ⟨w.heap.size, 0, none⟩ = some (.int .i64 n) ∧ w'.cell? ⟨w.heap.size, 1, none⟩ = some (.int .i64 f)) ∧ (w'.cell? ⟨w.heap.size + 1, 0, none⟩ = some (.string m) ∧ w'.cell? ⟨w.heap.size + 1, 1, none⟩ = some (.int .i64 v) ∧ w'.cell? ⟨w.heap.size + 1, 2, none⟩ = some (.string s) ∧ w'.cell? ⟨w.heap.size + 1, 3, none⟩ = some (.slice ao xs.length ca))) w') := hide fun w' hb' => ⟨hb', ⟨(LC.below hb' LC.lt).cell 0 rfl, (LC.below hb' LC.lt).cell 1 rfl⟩, ⟨(LA.below hb' LA.lt).cell 0 rfl, (LA.below hb' LA.lt).cell 1 rfl, (LA.below hb' LA.lt).cell 2 rfl, (LA.below hb' LA.lt).cell 3 rfl⟩⟩
  go_upto_region 5 with fail
  have bA : Below w1.heap.size w1 w1.drew := Below.drew (Below.refl _ _)
  refine wp_region_noPanic ?_
  refine wp_region_held_drew (S := fun w' => Below w1.heap.size w1 w' ∧ (w'.cell? ⟨w.heap.size, 0, none⟩ = some (.int .i64 n) ∧ w'.cell? ⟨w.heap.size, 1, none⟩ = some (.int .i64 f)) ∧ (w'.cell? ⟨w.heap.size + 1, 0, none⟩ = some (.string m) ∧ w'.cell? ⟨w.heap.size + 1, 1, none⟩ = some (.int .i64 v) ∧ w'.cell? ⟨w.heap.size + 1, 2, none⟩ = some (.string s) ∧ w'.cell? ⟨w.heap.size + 1, 3, none⟩ = some (.slice ao xs.length ca))) (by kernel_rfl) (unhide K _ bA) (fun hHeld => ?_)
  refine take_at (i := 0) (d := 14) (v := ?_) rfl rfl (by kernel_rfl) (by kernel_rfl) (by kernel_rfl) (fun _ _ _ h => h) (Or.inl ⟨by rfl, ?_⟩) (by assumption) ?_
  rotate_left
  · intro w hSw
    try dsimp only at hSw
    go_simp
    try with_reducible rfl
  simp only [Act.put, List.setIfInBounds_toArray, List.set_cons_zero, List.set_cons_succ]
  refine take_at (i := 2) (d := 16) (v := ?_) rfl rfl (by kernel_rfl) (by kernel_rfl) (by kernel_rfl) (fun _ _ _ h => h) (Or.inl ⟨by rfl, ?_⟩) (by assumption) ?_
  rotate_left
  · intro w hSw
    try dsimp only at hSw
    go_simp
    try with_reducible rfl
  simp only [Act.put, List.setIfInBounds_toArray, List.set_cons_zero, List.set_cons_succ]
  refine ready_at (i := 1) rfl (by kernel_rfl) (fun KK hKK => ?_)
  go_simp
  have hgo := bA
  refine (unhide TC _).mono ?_
  rintro e wz5_1 ⟨rfl, bb⟩
  have bz1 : Below w1.heap.size w1 wz5_1 := bA.trans (bb.mono bA.size)
  clear bA hgo bb
  clear hHeld
  refine hKK.out _ _ (unhide K _ bz1) (fun hHeld => ?_)
  clear hKK KK
  refine ready_at (i := 3) rfl (by kernel_rfl) (fun KK hKK => ?_)
  go_simp
  have hgo := bz1
  refine (unhide TA _ ((unhide HA).below (Bw1.trans (hgo.mono Bw1.size)) (Nat.le_refl _))).mono ?_
  rintro e wz5_2 ⟨vv1, rfl, o1, bb⟩
  have bz2 : Below w1.heap.size w1 wz5_2 := bz1.trans (bb.mono bz1.size)
  have R1 := hide (o1.ri (by omega))
  obtain ⟨a1, k1, rfl⟩ := o1.form
  clear o1
  clear bz1 hgo bb
  clear hHeld
  refine hKK.out _ _ (unhide K _ bz2) (fun hHeld => ?_)
  clear hKK KK
  refine ready_at (i := 4) rfl (by kernel_rfl) (fun KK hKK => ?_)
  go_simp
  have hgo := bz2
  refine (unhide SP _ _ _ (unhide R1)).mono ?_
  rintro e wz5_3 ⟨rfl, bb⟩
  have bz3 : Below w1.heap.size w1 wz5_3 := bz2.trans (bb.mono bz2.size)
  clear R1
  clear bz2 hgo bb
  clear hHeld
  refine hKK.out _ _ (unhide K _ bz3) (fun hHeld => ?_)
  clear hKK KK
  refine take_at (i := 5) (d := 6) (v := ?_) rfl rfl (by kernel_rfl) (by kernel_rfl) (by kernel_rfl) (fun _ _ _ h => h) (Or.inl ⟨by rfl, ?_⟩) (by assumption) ?_
  rotate_left
  · intro w hSw
    try dsimp only at hSw
    go_simp
    try with_reducible rfl
  simp only [Act.put, List.setIfInBounds_toArray, List.set_cons_zero, List.set_cons_succ]
  clear hHeld
  refine wpAnyH_done (by kernel_rfl) ?_ _
  refine NoPanic.normal ?_
  have bb := bz3
  have Bwz5_3 := Bw1.trans (bb.mono Bw1.size)
  have swz5_3 := bb.size
  replace LC := LC.below bb LC.lt
  replace LA := LA.below bb LA.lt
  clear Bw1
  clear bb bz3 K
  clear SP
  have cLA0 := LA.cell 0 rfl
  have cLA1 := LA.cell 1 rfl
  have cLA2 := LA.cell 2 rfl
  have cLA3 := LA.cell 3 rfl
  go_wp2_with fail
  refine (unhide TA _ ((unhide HA).below Bwz5_3 (Nat.le_refl _))).mono ?_
  rintro _ w2 ⟨vX, rfl, oX, bb⟩
  clear cLA0 cLA1 cLA2 cLA3
  have Bw2 := Bwz5_3.trans (bb.mono Bwz5_3.size)
  have sw2 := bb.size
  replace LC := LC.below bb LC.lt
  replace LA := LA.below bb LA.lt
  clear Bwz5_3
  clear bb
  have toX := World.ownsRow.lt oX
  obtain ⟨aoX, koX, rfl⟩ := oX.form
  obtain ⟨w3, hw3⟩ : ∃ x, w2.alloc (.cells #[.string m, .int .i64 v, .string s, .slice aoX xs.length koX] 30) = x := ⟨_, rfl⟩
  have bb : Below w2.heap.size w2 w3 := hw3 ▸ qalloc _ _
  have X : Loc w3 w2.heap.size #[.string m, .int .i64 v, .string s, .slice aoX xs.length koX] := hw3 ▸ loc_at w2 _ _ rfl
  have zw3 : w3.heap.size = w2.heap.size + 1 := by rw [← hw3]; simp
  have Bw3 := Bw2.trans (bb.mono Bw2.size)
  have sw3 := bb.size
  replace LC := LC.below bb LC.lt
  replace LA := LA.below bb LA.lt
  replace oX := oX.below bb
  clear Bw2
  clear bb
  have RX := hide fun w' (hb' : Below w3.heap.size w3 w') => (oX.below hb').ri (by omega)
  have K : Hid (∀ w', Below w3.heap.size w3 w' → (fun w' => Below w3.heap.size w3 w' ∧ (w'.cell? ⟨w.heap.size, 0, none⟩ = some (.int .i64 n) ∧ w'.cell? ⟨w.heap.size, 1, none⟩ = some (.int .i64 f)) ∧ (w'.cell? ⟨w2.heap.size, 0, none⟩ = some (.string m) ∧ w'.cell? ⟨w2.heap.size, 1, none⟩ = some (.int .i64 v) ∧ w'.cell? ⟨w2.heap.size, 2, none⟩ = some (.string s) ∧ w'.cell? ⟨w2.heap.size, 3, none⟩ = some (.slice aoX xs.length koX))) w') := hide fun w' hb' => ⟨hb', ⟨(LC.below hb' LC.lt).cell 0 rfl, (LC.below hb' LC.lt).cell 1 rfl⟩, ⟨(X.below hb' X.lt).cell 0 rfl, (X.below hb' X.lt).cell 1 rfl, (X.below hb' X.lt).cell 2 rfl, (X.below hb' X.lt).cell 3 rfl⟩⟩
  go_upto_region 7 with fail
  clear hw3
  have bA : Below w3.heap.size w3 w3.drew := Below.drew (Below.refl _ _)
  refine wp_region_noPanic ?_
  refine wp_region_held_drew (S := fun w' => Below w3.heap.size w3 w' ∧ (w'.cell? ⟨w.heap.size, 0, none⟩ = some (.int .i64 n) ∧ w'.cell? ⟨w.heap.size, 1, none⟩ = some (.int .i64 f)) ∧ (w'.cell? ⟨w2.heap.size, 0, none⟩ = some (.string m) ∧ w'.cell? ⟨w2.heap.size, 1, none⟩ = some (.int .i64 v) ∧ w'.cell? ⟨w2.heap.size, 2, none⟩ = some (.string s) ∧ w'.cell? ⟨w2.heap.size, 3, none⟩ = some (.slice aoX xs.length koX))) (by kernel_rfl) (unhide K _ bA) (fun hHeld => ?_)
  refine take_at (i := 0) (d := 21) (v := ?_) rfl rfl (by kernel_rfl) (by kernel_rfl) (by kernel_rfl) (fun _ _ _ h => h) (Or.inl ⟨by rfl, ?_⟩) (by assumption) ?_
  rotate_left
  · intro w hSw
    try dsimp only at hSw
    go_simp
    try with_reducible rfl
  simp only [Act.put, List.setIfInBounds_toArray, List.set_cons_zero, List.set_cons_succ]
  refine take_at (i := 2) (d := 23) (v := ?_) rfl rfl (by kernel_rfl) (by kernel_rfl) (by kernel_rfl) (fun _ _ _ h => h) (Or.inl ⟨by rfl, ?_⟩) (by assumption) ?_
  rotate_left
  · intro w hSw
    try dsimp only at hSw
    go_simp
    try with_reducible rfl
  simp only [Act.put, List.setIfInBounds_toArray, List.set_cons_zero, List.set_cons_succ]
  refine ready_at (i := 1) rfl (by kernel_rfl) (fun KK hKK => ?_)
  go_simp
  have hgo := bA
  refine (unhide TC _).mono ?_
  rintro e wz7_1 ⟨rfl, bb⟩
  have bz1 : Below w3.heap.size w3 wz7_1 := bA.trans (bb.mono bA.size)
  clear bA hgo bb
  clear hHeld
  refine hKK.out _ _ (unhide K _ bz1) (fun hHeld => ?_)
  clear hKK KK
  refine ready_at (i := 3) rfl (by kernel_rfl) (fun KK hKK => ?_)
  go_simp
  have hgo := bz1
  refine (unhide IM _ _ _ ((unhide HE).below (Bw3.trans (hgo.mono Bw3.size))) (unhide RX _ hgo)).mono ?_
  rintro e wz7_2 ⟨rfl, bb⟩
  have bz2 : Below w3.heap.size w3 wz7_2 := bz1.trans (bb.mono bz1.size)
  clear RX
  clear bz1 hgo bb
  clear hHeld
  refine hKK.out _ _ (unhide K _ bz2) (fun hHeld => ?_)
  clear hKK KK
  refine take_at (i := 4) (d := 8) (v := ?_) rfl rfl (by kernel_rfl) (by kernel_rfl) (by kernel_rfl) (fun _ _ _ h => h) (Or.inl ⟨by rfl, ?_⟩) (by assumption) ?_
  rotate_left
  · intro w hSw
    try dsimp only at hSw
    go_simp
    try with_reducible rfl
  simp only [Act.put, List.setIfInBounds_toArray, List.set_cons_zero, List.set_cons_succ]
  clear hHeld
  refine wpAnyH_done (by kernel_rfl) ?_ _
  refine NoPanic.normal ?_
  have bb := bz2
  have Bwz7_2 := Bw3.trans (bb.mono Bw3.size)
  have swz7_2 := bb.size
  replace LC := LC.below bb LC.lt
  replace LA := LA.below bb LA.lt
  replace X := X.below bb X.lt
  replace oX := oX.below bb
  clear Bw3
  clear bb bz2 K
  clear IM
  have RX := hide fun w' (hb' : Below wz7_2.heap.size wz7_2 w') => (oX.below hb').ri (by omega)
  have K : Hid (∀ w', Below wz7_2.heap.size wz7_2 w' → (fun w' => Below wz7_2.heap.size wz7_2 w' ∧ (w'.cell? ⟨w.heap.size + 1, 0, none⟩ = some (.string m) ∧ w'.cell? ⟨w.heap.size + 1, 1, none⟩ = some (.int .i64 v) ∧ w'.cell? ⟨w.heap.size + 1, 2, none⟩ = some (.string s) ∧ w'.cell? ⟨w.heap.size + 1, 3, none⟩ = some (.slice ao xs.length ca)) ∧ (w'.cell? ⟨w2.heap.size, 0, none⟩ = some (.string m) ∧ w'.cell? ⟨w2.heap.size, 1, none⟩ = some (.int .i64 v) ∧ w'.cell? ⟨w2.heap.size, 2, none⟩ = some (.string s) ∧ w'.cell? ⟨w2.heap.size, 3, none⟩ = some (.slice aoX xs.length koX))) w') := hide fun w' hb' => ⟨hb', ⟨(LA.below hb' LA.lt).cell 0 rfl, (LA.below hb' LA.lt).cell 1 rfl, (LA.below hb' LA.lt).cell 2 rfl, (LA.below hb' LA.lt).cell 3 rfl⟩, ⟨(X.below hb' X.lt).cell 0 rfl, (X.below hb' X.lt).cell 1 rfl, (X.below hb' X.lt).cell 2 rfl, (X.below hb' X.lt).cell 3 rfl⟩⟩
  go_upto_region 10 with fail
  have bA : Below wz7_2.heap.size wz7_2 wz7_2.drew := Below.drew (Below.refl _ _)
  refine wp_region_noPanic ?_
  refine wp_region_held_drew (S := fun w' => Below wz7_2.heap.size wz7_2 w' ∧ (w'.cell? ⟨w.heap.size + 1, 0, none⟩ = some (.string m) ∧ w'.cell? ⟨w.heap.size + 1, 1, none⟩ = some (.int .i64 v) ∧ w'.cell? ⟨w.heap.size + 1, 2, none⟩ = some (.string s) ∧ w'.cell? ⟨w.heap.size + 1, 3, none⟩ = some (.slice ao xs.length ca)) ∧ (w'.cell? ⟨w2.heap.size, 0, none⟩ = some (.string m) ∧ w'.cell? ⟨w2.heap.size, 1, none⟩ = some (.int .i64 v) ∧ w'.cell? ⟨w2.heap.size, 2, none⟩ = some (.string s) ∧ w'.cell? ⟨w2.heap.size, 3, none⟩ = some (.slice aoX xs.length koX))) (by kernel_rfl) (unhide K _ bA) (fun hHeld => ?_)
  refine take_at (i := 0) (d := 28) (v := ?_) rfl rfl (by kernel_rfl) (by kernel_rfl) (by kernel_rfl) (fun _ _ _ h => h) (Or.inl ⟨by rfl, ?_⟩) (by assumption) ?_
  rotate_left
  · intro w hSw
    try dsimp only at hSw
    go_simp
    try with_reducible rfl
  simp only [Act.put, List.setIfInBounds_toArray, List.set_cons_zero, List.set_cons_succ]
  refine take_at (i := 1) (d := 29) (v := ?_) rfl rfl (by kernel_rfl) (by kernel_rfl) (by kernel_rfl) (fun _ _ _ h => h) (Or.inl ⟨by rfl, ?_⟩) (by assumption) ?_
  rotate_left
  · intro w hSw
    try dsimp only at hSw
    go_simp
    try with_reducible rfl
  simp only [Act.put, List.setIfInBounds_toArray, List.set_cons_zero, List.set_cons_succ]
  refine ready_at (i := 2) rfl (by kernel_rfl) (fun KK hKK => ?_)
  go_simp
  have hgo := bA
  refine (unhide TA _ ((unhide HA).below (Bwz7_2.trans (hgo.mono Bwz7_2.size)) (Nat.le_refl _))).mono ?_
  rintro e wz10_1 ⟨vv1, rfl, o1, bb⟩
  have bz1 : Below wz7_2.heap.size wz7_2 wz10_1 := bA.trans (bb.mono bA.size)
  have R1 := hide (o1.ri (by omega))
  clear o1
  clear bA hgo bb
  clear hHeld
  refine hKK.out _ _ (unhide K _ bz1) (fun hHeld => ?_)
  clear hKK KK
  refine ready_at (i := 3) rfl (by kernel_rfl) (fun KK hKK => ?_)
  go_simp
  have hgo := bz1
  refine (eqBlock_yes m v s _ _ xs _ (unhide RX _ hgo) (unhide R1)).mono ?_
  rintro e wz10_2 ⟨rfl, bb⟩
  have bz2 : Below wz7_2.heap.size wz7_2 wz10_2 := bz1.trans (bb.mono bz1.size)
  clear R1 RX
  clear bz1 hgo bb
  clear hHeld
  refine hKK.out _ _ (unhide K _ bz2) (fun hHeld => ?_)
  clear hKK KK
  refine take_at (i := 4) (d := 32) (v := ?_) rfl rfl (by kernel_rfl) (by kernel_rfl) (by kernel_rfl) (fun _ _ _ h => h) (Or.inl ⟨by rfl, ?_⟩) (by assumption) ?_
  rotate_left
  · intro w hSw
    try dsimp only at hSw
    go_simp
    try with_reducible rfl
  simp only [Act.put, List.setIfInBounds_toArray, List.set_cons_zero, List.set_cons_succ]
  clear hHeld
  refine wpAnyH_done (by kernel_rfl) ?_ _
  refine NoPanic.normal ?_
  have bb := bz2
  have Bwz10_2 := Bwz7_2.trans (bb.mono Bwz7_2.size)
  have swz10_2 := bb.size
  replace LC := LC.below bb LC.lt
  replace LA := LA.below bb LA.lt
  replace X := X.below bb X.lt
  replace oX := oX.below bb
  clear Bwz7_2
  clear bb bz2 K
  go_wp2
  go_ret
  exact ⟨rfl, Bwz10_2⟩

set_option maxHeartbeats 4000000 in
set_option maxRecDepth 100000 in
theorem fnBlockOk_long (n f : Int) (m : ByteArray) (v : Int) (s : ByteArray) (ao : Option Addr) (ca k : Nat) (w : World) (h : 1048576 < m.size + s.size + k) (hm : m.size ≤ maxLen) (hs : s.size ≤ maxLen) (hk : k ≤ maxLen) :
    Calls Tryz.prog 4 #[cv n f, bv m v s (.slice ao k ca)] w fun e w' => e = .returned (.bool true) ∧ Below w.heap.size w w' := by
  unfold maxLen at hm hs hk
  have ZA := hide fun w => szBlock_no m v s ao k ca 1048576 w (by omega) (by omega) (by omega) (by omega) (by omega) (by omega)
  have B0 := qalloc2 w (.cells #[.int .i64 n, .int .i64 f] 45) (.cells #[.string m, .int .i64 v, .string s, .slice ao k ca] 48)
  go_enter Tryz.func4, Tryz.ntmps4
  go_wp2_with fail
  refine (unhide ZA _).mono ?_
  rintro _ w1 ⟨rfl, b1⟩
  go_wp2
  go_ret
  exact ⟨rfl, B0.trans (b1.mono B0.size)⟩
theorem fnBlockOk_walk (n f : Int) (m : ByteArray) (v : Int) (s : ByteArray) (ao : Option Addr) (ca : Nat) (xs : List Int) (w : World) (hm : m.size ≤ maxLen) (hs : s.size ≤ maxLen) (hx : xs.length ≤ maxLen) (ha : AIW w ao xs) (hE : Env w) :
    Calls Tryz.prog 4 #[cv n f, bv m v s (.slice ao xs.length ca)] w fun e w' => e = .returned (.bool true) ∧ Below w.heap.size w w' := by
  by_cases h1 : m.size + s.size + xs.length ≤ 1048576
  · exact fnBlockOk_short n f m v s ao ca xs w h1 hE (ha.ri (by omega))
  · exact fnBlockOk_long n f m v s ao ca _ w (by omega) hm hs hx
end Go.Proofs.YtggmgfkmbgcooaaGreatDoor
