/- The walk of laws.FnExactDiskOk. -/
import Derived.Test.YtoideigjadblhaaDiskAll
import Derived.Test.YtoideigjadblhaaDiskOpen
import Derived.Deep.DeepCutAuto
namespace Go.Proofs.Ytoideigjadblhaa
open Go.RowKit

set_option maxHeartbeats 32000000 in
set_option maxRecDepth 100000 in
theorem fnDiskOk_short (ao : Option Addr) (ca : Nat) (s : Int) (xs : List Int) (w : World) (hz : xs.length ≤ 1048576) (hr : RB w (.slice ao xs.length ca) xs) :
    Calls Try.prog 4 #[dv (.slice ao xs.length ca) s] w fun e w' => e = .returned (.bool true) ∧ Below w.heap.size w w' := by
  have HR := hide hr
  have ZA := hide fun w => szDisk_yes ao xs.length ca s 1048576 w (by omega) (by omega)
  have TA := hide fun w h => toDisk_any (.slice ao xs.length ca) xs s w h
  have d1 : decide ((1048576 : Int) - (xs.length : Int) < 0) = false := by simp; omega
  have SP := hide fun a k w => specDiskOk a xs.length k s w
  have IM := hide fun a k w => implDiskOk a xs.length k s w
  generalize dokB xs.length s = b at *
  have nb : (b != b) = false := by simp
  clear hr
  obtain ⟨w0, hw0⟩ : ∃ w0, (w.alloc (.cells #[.slice ao xs.length ca, .int .i64 s] 36)) = w0 := ⟨_, rfl⟩
  have Bw0 : Below w.heap.size w w0 := hw0 ▸ (Below.refl _ _).alloc (Nat.le_refl _) _
  have LA : Loc w0 (w.heap.size) #[.slice ao xs.length ca, .int .i64 s] := hw0 ▸ loc_at (w) _ _ rfl
  have zw0 : w.heap.size + 1 ≤ w0.heap.size := by rw [← hw0]; simp
  go_enter Try.func4, Try.ntmps4
  have cLA0 := LA.cell 0 rfl
  have cLA1 := LA.cell 1 rfl
  go_wp2_with fail
  clear hw0
  refine (unhide ZA _).mono ?_
  rintro _ w1 ⟨rfl, bb⟩
  clear cLA0 cLA1
  have Bw1 := Bw0.trans (bb.mono Bw0.size)
  have sw1 := bb.size
  replace LA := LA.below bb LA.lt
  clear Bw0
  clear bb
  clear ZA
  have cLA0 := LA.cell 0 rfl
  have cLA1 := LA.cell 1 rfl
  go_wp2_with fail
  refine (unhide TA _ ((unhide HR).below Bw1 (Nat.le_refl _))).mono ?_
  rintro _ w2 ⟨u1, rfl, o1, bb⟩
  clear cLA0 cLA1
  have Bw2 := Bw1.trans (bb.mono Bw1.size)
  have sw2 := bb.size
  replace LA := LA.below bb LA.lt
  clear Bw1
  clear bb
  have to1 := World.ownsRow.lt o1
  obtain ⟨ao1, ko1, rfl⟩ := o1.form
  go_wp2_with fail
  refine (unhide SP _ _ _).mono ?_
  rintro _ w3 ⟨rfl, bb⟩
  have Bw3 := Bw2.trans (bb.mono Bw2.size)
  have sw3 := bb.size
  replace LA := LA.below bb LA.lt
  replace o1 := o1.below bb
  clear Bw2
  clear bb
  clear SP to1 o1
  have cLA0 := LA.cell 0 rfl
  have cLA1 := LA.cell 1 rfl
  go_wp2_with fail
  refine (unhide TA _ ((unhide HR).below Bw3 (Nat.le_refl _))).mono ?_
  rintro _ w4 ⟨uX, rfl, oX, bb⟩
  clear cLA0 cLA1
  have Bw4 := Bw3.trans (bb.mono Bw3.size)
  have sw4 := bb.size
  replace LA := LA.below bb LA.lt
  clear Bw3
  clear bb
  have toX := World.ownsRow.lt oX
  obtain ⟨aoX, koX, rfl⟩ := oX.form
  obtain ⟨w5, hw5⟩ : ∃ x, w4.alloc (.cells #[.slice aoX xs.length koX, .int .i64 s] 25) = x := ⟨_, rfl⟩
  have bb : Below w4.heap.size w4 w5 := hw5 ▸ qalloc _ _
  have X : Loc w5 w4.heap.size #[.slice aoX xs.length koX, .int .i64 s] := hw5 ▸ loc_at w4 _ _ rfl
  have zw5 : w5.heap.size = w4.heap.size + 1 := by rw [← hw5]; simp
  have Bw5 := Bw4.trans (bb.mono Bw4.size)
  have sw5 := bb.size
  replace LA := LA.below bb LA.lt
  replace oX := oX.below bb
  clear Bw4
  clear bb
  have cX0 := X.cell 0 rfl
  have cX1 := X.cell 1 rfl
  go_wp2_with fail
  clear hw5
  refine (unhide IM _ _ _).mono ?_
  rintro _ w6 ⟨rfl, bb⟩
  clear cX0 cX1
  have Bw6 := Bw5.trans (bb.mono Bw5.size)
  have sw6 := bb.size
  replace LA := LA.below bb LA.lt
  replace X := X.below bb X.lt
  replace oX := oX.below bb
  clear Bw5
  clear bb
  clear IM
  have RX := hide fun w' (hb' : Below w6.heap.size w6 w') => (oX.below hb').rb (by omega)
  have K : Hid (∀ w', Below w6.heap.size w6 w' → (fun w' => Below w6.heap.size w6 w' ∧ (w'.cell? ⟨w.heap.size, 0, none⟩ = some (.slice ao xs.length ca) ∧ w'.cell? ⟨w.heap.size, 1, none⟩ = some (.int .i64 s)) ∧ (w'.cell? ⟨w4.heap.size, 0, none⟩ = some (.slice aoX xs.length koX) ∧ w'.cell? ⟨w4.heap.size, 1, none⟩ = some (.int .i64 s))) w') := hide fun w' hb' => ⟨hb', ⟨(LA.below hb' LA.lt).cell 0 rfl, (LA.below hb' LA.lt).cell 1 rfl⟩, ⟨(X.below hb' X.lt).cell 0 rfl, (X.below hb' X.lt).cell 1 rfl⟩⟩
  go_upto_region 10 with fail
  have bA : Below w6.heap.size w6 w6.drew := Below.drew (Below.refl _ _)
  refine wp_region_noPanic ?_
  refine wp_region_held_drew (S := fun w' => Below w6.heap.size w6 w' ∧ (w'.cell? ⟨w.heap.size, 0, none⟩ = some (.slice ao xs.length ca) ∧ w'.cell? ⟨w.heap.size, 1, none⟩ = some (.int .i64 s)) ∧ (w'.cell? ⟨w4.heap.size, 0, none⟩ = some (.slice aoX xs.length koX) ∧ w'.cell? ⟨w4.heap.size, 1, none⟩ = some (.int .i64 s))) (by kernel_rfl) (unhide K _ bA) (fun hHeld => ?_)
  refine take_at (i := 0) (d := 22) (v := ?_) rfl rfl (by kernel_rfl) (by kernel_rfl) (by kernel_rfl) (fun _ _ _ h => h) (Or.inl ⟨by rfl, ?_⟩) (by assumption) ?_
  rotate_left
  · intro w hSw
    try dsimp only at hSw
    go_simp
    try with_reducible rfl
  simp only [Act.put, List.setIfInBounds_toArray, List.set_cons_zero, List.set_cons_succ]
  refine take_at (i := 1) (d := 23) (v := ?_) rfl rfl (by kernel_rfl) (by kernel_rfl) (by kernel_rfl) (fun _ _ _ h => h) (Or.inl ⟨by rfl, ?_⟩) (by assumption) ?_
  rotate_left
  · intro w hSw
    try dsimp only at hSw
    go_simp
    try with_reducible rfl
  simp only [Act.put, List.setIfInBounds_toArray, List.set_cons_zero, List.set_cons_succ]
  refine ready_at (i := 2) rfl (by kernel_rfl) (fun KK hKK => ?_)
  go_simp
  have hgo := bA
  refine (unhide TA _ ((unhide HR).below (Bw6.trans (hgo.mono Bw6.size)) (Nat.le_refl _))).mono ?_
  rintro e wz10_1 ⟨vv1, rfl, o1, bb⟩
  have bz1 : Below w6.heap.size w6 wz10_1 := bA.trans (bb.mono bA.size)
  replace o1 := o1.mono hgo.size
  obtain ⟨ao1, ko1, rfl⟩ := o1.form
  clear bA hgo bb
  clear hHeld
  refine hKK.out _ _ (unhide K _ bz1) (fun hHeld => ?_)
  clear hKK KK
  refine ready_at (i := 3) rfl (by kernel_rfl) (fun KK hKK => ?_)
  go_simp
  have hgo := bz1
  refine (eqDisk_yes _ _ xs s _ (unhide RX _ hgo) (o1.rb (by omega))).mono ?_
  rintro e wz10_2 ⟨rfl, bb⟩
  have bz2 : Below w6.heap.size w6 wz10_2 := bz1.trans (bb.mono bz1.size)
  replace o1 := o1.below bb
  clear RX
  clear bz1 hgo bb
  clear hHeld
  refine hKK.out _ _ (unhide K _ bz2) (fun hHeld => ?_)
  clear hKK KK
  refine take_at (i := 4) (d := 26) (v := ?_) rfl rfl (by kernel_rfl) (by kernel_rfl) (by kernel_rfl) (fun _ _ _ h => h) (Or.inl ⟨by rfl, ?_⟩) (by assumption) ?_
  rotate_left
  · intro w hSw
    try dsimp only at hSw
    go_simp
    try with_reducible rfl
  simp only [Act.put, List.setIfInBounds_toArray, List.set_cons_zero, List.set_cons_succ]
  clear hHeld
  refine wpAnyH_done (by kernel_rfl) ?_ _
  refine NoPanic.normal ?_
  have bb := bz2
  have Bwz10_2 := Bw6.trans (bb.mono Bw6.size)
  have swz10_2 := bb.size
  replace LA := LA.below bb LA.lt
  replace X := X.below bb X.lt
  replace oX := oX.below bb
  clear Bw6
  clear bb bz2 K
  clear o1
  go_wp2
  go_ret
  exact ⟨rfl, Bwz10_2⟩

set_option maxHeartbeats 16000000 in
set_option maxRecDepth 100000 in
theorem fnDiskOk_long (ao : Option Addr) (ca k : Nat) (s : Int) (w : World) (h : 1048576 < k) (hk : k ≤ maxLen) :
    Calls Try.prog 4 #[dv (.slice ao k ca) s] w fun e w' => e = .returned (.bool true) ∧ Below w.heap.size w w' := by
  unfold maxLen at *
  have ZA := hide fun w => szDisk_no ao k ca s 1048576 w (by omega) (by omega) (by omega) (by omega)
  obtain ⟨w0, hw0⟩ : ∃ w0, (w.alloc (.cells #[.slice ao k ca, .int .i64 s] 36)) = w0 := ⟨_, rfl⟩
  have Bw0 : Below w.heap.size w w0 := hw0 ▸ (Below.refl _ _).alloc (Nat.le_refl _) _
  have LA : Loc w0 (w.heap.size) #[.slice ao k ca, .int .i64 s] := hw0 ▸ loc_at (w) _ _ rfl
  have zw0 : w.heap.size + 1 ≤ w0.heap.size := by rw [← hw0]; simp
  go_enter Try.func4, Try.ntmps4
  have cLA0 := LA.cell 0 rfl
  have cLA1 := LA.cell 1 rfl
  go_wp2_with fail
  clear hw0
  refine (unhide ZA _).mono ?_
  rintro _ w1 ⟨rfl, bb⟩
  clear cLA0 cLA1
  have Bw1 := Bw0.trans (bb.mono Bw0.size)
  have sw1 := bb.size
  replace LA := LA.below bb LA.lt
  clear Bw0
  clear bb
  go_wp2
  go_ret
  exact ⟨rfl, Bw1⟩
theorem fnDiskOk_walk (ao : Option Addr) (ca : Nat) (s : Int) (xs : List Int) (w : World) (hm : xs.length ≤ maxLen) (ha : ABW w ao ca xs) :
    Calls Try.prog 4 #[dv (.slice ao xs.length ca) s] w fun e w' => e = .returned (.bool true) ∧ Below w.heap.size w w' := by
  by_cases h1 : xs.length ≤ 1048576
  · exact fnDiskOk_short ao ca s xs w h1 (ha.rb h1)
  · exact fnDiskOk_long ao ca _ s w (by omega) hm
end Go.Proofs.Ytoideigjadblhaa
