/- Texts that belong together: PartOkWalk, PartJoinLong. -/
import Derived.Test.YtehdchpolgihlaaDoorPoAM
import Derived.Test.YtehdchpolgihlaaDoorPoAE
import Derived.Test.YtehdchpolgihlaaDoorPoAA
/- PartOkWalk: the walk of laws.FnExactPartOk, over what the program's PartOk answers. -/
namespace Go.Proofs.YtehdchpolgihlaaDoor
open Go.RowKit
set_option linter.unusedSectionVars false
variable [∀ (a b c d : Int), Decidable (Ok4 a b c d)]
variable [∀ (n f : Int), Decidable (COk n f)]
variable [∀ (n : Int) (s : List Int), Decidable (OkL n s)]
variable [∀ (a b c d : Nat), Decidable (okN a b c d)]
variable [∀ (last : Int) (s : St), Decidable (GoodSt last s)]
variable [∀ (x : T4), Decidable (OkT x)]

set_option maxHeartbeats 8000000 in
set_option maxRecDepth 100000 in
theorem fnPartOk_short (E : World → Prop) (hE : ∀ w w', E w → Below w.heap.size w w' → E w') (IM0 : ∀ (n f m : Int) (s : ByteArray) (u : Value) (xs : List Int) (w : World), s.size ≤ 1048576 → xs.length ≤ 1048576 → E w → RI w u xs → Calls Tryd.prog 9 #[cv n f, qv m s u] w fun e w' => e = .returned (.bool (pokB n f m s xs)) ∧ Below w.heap.size w w')
    (n f m : Int) (s : ByteArray) (pa : Option Addr) (pc : Nat) (xs : List Int) (w : World) (hp : RI w (.slice pa xs.length pc) xs) (hs : s.size + xs.length ≤ 1048576) (he : E w) :
    Calls Tryd.prog 3 #[cv n f, qv m s (.slice pa xs.length pc)] w fun e w' => e = .returned (.bool true) ∧ Below w.heap.size w w' := by
  have RP := hide fun w' (hb : Below w.heap.size w w') => hp.below hb (Nat.le_refl _)
  have ZB := hide fun w => szPart_yes m s pa xs.length pc 1048576 w (by omega) (by omega)
  have HE := hide fun w' (hb : Below w.heap.size w w') => hE w w' he hb
  have hd1 : decide ((1048576 : Int) - (s.size : Int) - (xs.length : Int) < 0) = false := by simp; omega
  obtain ⟨pl, hpx⟩ : ∃ l, xs.length = l := ⟨_, rfl⟩
  rw [hpx] at RP ZB hd1 hs ⊢
  have TO := hide fun w => toConf_any n f w
  have TQ := hide fun w h => toPart_any m s (.slice pa pl pc) xs w h
  have SP := hide fun u w h => specPartOk n f m s u xs w (by omega) h
  have IM := hide fun u w e h => IM0 n f m s u xs w (by omega) (by omega) e h
  have EP := hide fun u v w h h' => eqPart_yes m s u v xs w h h'
  generalize pokB n f m s xs = rb at *
  have hq : (rb != rb) = false := by simp
  obtain ⟨w0, hw0⟩ : ∃ y, (w.alloc (.cells #[.int .i64 n, .int .i64 f] 23)).alloc (.cells #[.int .i64 m, .string s, .slice pa pl pc] 26) = y := ⟨_, rfl⟩
  have Bw0 : Below w.heap.size w w0 := hw0 ▸ qalloc2 _ _ _
  have LC : Loc w0 w.heap.size #[.int .i64 n, .int .i64 f] := hw0 ▸ (loc_at w _ _ rfl).alloc _
  have LA : Loc w0 (w.heap.size + 1) #[.int .i64 m, .string s, .slice pa pl pc] := hw0 ▸ loc_at (w.alloc _) _ _ (by simp)
  have zw0 : w0.heap.size = w.heap.size + 2 := by rw [← hw0]; simp
  clear he hE IM0 hp
  go_enter Tryd.func3, Tryd.ntmps3
  have cLA0 := LA.cell 0 rfl
  have cLA1 := LA.cell 1 rfl
  have cLA2 := LA.cell 2 rfl
  go_wp2_with fail
  clear hw0
  refine (unhide ZB _).mono ?_
  rintro _ w1 ⟨rfl, bb⟩
  clear cLA0 cLA1 cLA2
  have Bw1 := Bw0.trans (bb.mono Bw0.size)
  have sw1 := bb.size
  replace LC := LC.below bb LC.lt
  replace LA := LA.below bb LA.lt
  clear Bw0
  clear bb
  clear ZB
  have K : Hid (∀ w', Below w1.heap.size w1 w' → (fun w' => Below w1.heap.size w1 w' ∧ (w'.cell? ⟨w.heap.size, 0, none⟩ = some (.int .i64 n) ∧ w'.cell? ⟨w.heap.size, 1, none⟩ = some (.int .i64 f)) ∧ (w'.cell? ⟨w.heap.size + 1, 0, none⟩ = some (.int .i64 m) ∧ w'.cell? ⟨w.heap.size + 1, 1, none⟩ = some (.string s) ∧ w'.cell? ⟨w.heap.size + 1, 2, none⟩ = some (.slice pa pl pc))) w') := hide fun w' hb' => ⟨hb', ⟨(LC.below hb' LC.lt).cell 0 rfl, (LC.below hb' LC.lt).cell 1 rfl⟩, ⟨(LA.below hb' LA.lt).cell 0 rfl, (LA.below hb' LA.lt).cell 1 rfl, (LA.below hb' LA.lt).cell 2 rfl⟩⟩
  go_upto_region 5 with fail
  have bA : Below w1.heap.size w1 w1.drew := Below.drew (Below.refl _ _)
  refine wp_region_noPanic ?_
  refine wp_region_held_drew (S := fun w' => Below w1.heap.size w1 w' ∧ (w'.cell? ⟨w.heap.size, 0, none⟩ = some (.int .i64 n) ∧ w'.cell? ⟨w.heap.size, 1, none⟩ = some (.int .i64 f)) ∧ (w'.cell? ⟨w.heap.size + 1, 0, none⟩ = some (.int .i64 m) ∧ w'.cell? ⟨w.heap.size + 1, 1, none⟩ = some (.string s) ∧ w'.cell? ⟨w.heap.size + 1, 2, none⟩ = some (.slice pa pl pc))) (by kernel_rfl) (unhide K _ bA) (fun hHeld => ?_)
  refine take_at (i := 0) (d := 14) (v := ?_) rfl rfl (by kernel_rfl) (by kernel_rfl) (by kernel_rfl) (fun _ _ _ h => h) (Or.inl ⟨by rfl, ?_⟩) (by assumption) ?_
  rotate_left
  · intro w hSw
    try dsimp only at hSw
    go_simp
    try with_reducible rfl
  simp only [Act.put, List.setIfInBounds_toArray, List.set_cons_zero, List.set_cons_succ]
  refine take_at (i := 2) (d := 16) (v := ?_) rfl rfl (by kernel_rfl) (by kernel_rfl) (by kernel_rfl) (fun _ _ _ h => h) (Or.inl ⟨by rfl, ?_⟩) (by assumption) ?_
  rotate_left
  · intro w hSw
    try dsimp only at hSw
    go_simp
    try with_reducible rfl
  simp only [Act.put, List.setIfInBounds_toArray, List.set_cons_zero, List.set_cons_succ]
  refine ready_at (i := 1) rfl (by kernel_rfl) (fun KK hKK => ?_)
  go_simp
  have hgo := bA
  refine (unhide TO _).mono ?_
  rintro e wz5_1 ⟨rfl, bb⟩
  have bz1 : Below w1.heap.size w1 wz5_1 := bA.trans (bb.mono bA.size)
  clear bA hgo bb
  clear hHeld
  refine hKK.out _ _ (unhide K _ bz1) (fun hHeld => ?_)
  clear hKK KK
  refine ready_at (i := 3) rfl (by kernel_rfl) (fun KK hKK => ?_)
  go_simp
  have hgo := bz1
  refine (unhide TQ _ (unhide RP _ (Bw1.trans (hgo.mono Bw1.size)))).mono ?_
  rintro e wz5_2 ⟨u1, rfl, p1, bb⟩
  have bz2 : Below w1.heap.size w1 wz5_2 := bz1.trans (bb.mono bz1.size)
  have R1 := hide (p1.ri (by omega))
  obtain ⟨bp1, jp1, rfl⟩ := p1.form
  rw [hpx] at R1 ⊢
  clear p1
  clear bz1 hgo bb
  clear hHeld
  refine hKK.out _ _ (unhide K _ bz2) (fun hHeld => ?_)
  clear hKK KK
  refine ready_at (i := 4) rfl (by kernel_rfl) (fun KK hKK => ?_)
  go_simp
  have hgo := bz2
  refine (unhide SP _ _ (unhide R1)).mono ?_
  rintro e wz5_3 ⟨rfl, bb⟩
  have bz3 : Below w1.heap.size w1 wz5_3 := bz2.trans (bb.mono bz2.size)
  clear R1
  clear bz2 hgo bb
  clear hHeld
  refine hKK.out _ _ (unhide K _ bz3) (fun hHeld => ?_)
  clear hKK KK
  refine take_at (i := 5) (d := 6) (v := ?_) rfl rfl (by kernel_rfl) (by kernel_rfl) (by kernel_rfl) (fun _ _ _ h => h) (Or.inl ⟨by rfl, ?_⟩) (by assumption) ?_
  rotate_left
  · intro w hSw
    try dsimp only at hSw
    go_simp
    try with_reducible rfl
  simp only [Act.put, List.setIfInBounds_toArray, List.set_cons_zero, List.set_cons_succ]
  clear hHeld
  refine wpAnyH_done (by kernel_rfl) ?_ _
  refine NoPanic.normal ?_
  have bb := bz3
  have Bwz5_3 := Bw1.trans (bb.mono Bw1.size)
  have swz5_3 := bb.size
  replace LC := LC.below bb LC.lt
  replace LA := LA.below bb LA.lt
  clear Bw1
  clear bb bz3 K
  have cLA0 := LA.cell 0 rfl
  have cLA1 := LA.cell 1 rfl
  have cLA2 := LA.cell 2 rfl
  go_wp2_with fail
  refine (unhide TQ _ (unhide RP _ Bwz5_3)).mono ?_
  rintro _ w2 ⟨u2, rfl, oP, bb⟩
  clear cLA0 cLA1 cLA2
  have Bw2 := Bwz5_3.trans (bb.mono Bwz5_3.size)
  have sw2 := bb.size
  replace LC := LC.below bb LC.lt
  replace LA := LA.below bb LA.lt
  clear Bwz5_3
  clear bb
  have toP := World.ownsRow.lt oP
  obtain ⟨aoP, koP, rfl⟩ := oP.form
  rw [hpx] at oP toP ⊢
  go_upto_region 7 with fail
  obtain ⟨w3, hw3⟩ : ∃ y, w2.alloc (.cells #[.int .i64 m, .string s, .slice aoP pl koP] 31) = y := ⟨_, rfl⟩
  have bb : Below w2.heap.size w2 w3 := hw3 ▸ qalloc _ _
  have LX : Loc w3 w2.heap.size #[.int .i64 m, .string s, .slice aoP pl koP] := hw3 ▸ loc_at w2 _ _ rfl
  have zw3 : w2.heap.size + 1 ≤ w3.heap.size := by rw [← hw3]; simp
  rw [hw3]
  clear hw3
  have Bw3 := Bw2.trans (bb.mono Bw2.size)
  have sw3 := bb.size
  replace LC := LC.below bb LC.lt
  replace LA := LA.below bb LA.lt
  replace oP := oP.below bb
  clear Bw2
  clear bb
  have RO := hide fun w' (hb' : Below w3.heap.size w3 w') => (oP.below hb').ri (by omega)
  have K : Hid (∀ w', Below w3.heap.size w3 w' → (fun w' => Below w3.heap.size w3 w' ∧ (w'.cell? ⟨w.heap.size, 0, none⟩ = some (.int .i64 n) ∧ w'.cell? ⟨w.heap.size, 1, none⟩ = some (.int .i64 f)) ∧ (w'.cell? ⟨w2.heap.size, 0, none⟩ = some (.int .i64 m) ∧ w'.cell? ⟨w2.heap.size, 1, none⟩ = some (.string s) ∧ w'.cell? ⟨w2.heap.size, 2, none⟩ = some (.slice aoP pl koP))) w') := hide fun w' hb' => ⟨hb', ⟨(LC.below hb' LC.lt).cell 0 rfl, (LC.below hb' LC.lt).cell 1 rfl⟩, ⟨(LX.below hb' LX.lt).cell 0 rfl, (LX.below hb' LX.lt).cell 1 rfl, (LX.below hb' LX.lt).cell 2 rfl⟩⟩
  have bA : Below w3.heap.size w3 w3.drew := Below.drew (Below.refl _ _)
  refine wp_region_noPanic ?_
  refine wp_region_held_drew (S := fun w' => Below w3.heap.size w3 w' ∧ (w'.cell? ⟨w.heap.size, 0, none⟩ = some (.int .i64 n) ∧ w'.cell? ⟨w.heap.size, 1, none⟩ = some (.int .i64 f)) ∧ (w'.cell? ⟨w2.heap.size, 0, none⟩ = some (.int .i64 m) ∧ w'.cell? ⟨w2.heap.size, 1, none⟩ = some (.string s) ∧ w'.cell? ⟨w2.heap.size, 2, none⟩ = some (.slice aoP pl koP))) (by kernel_rfl) (unhide K _ bA) (fun hHeld => ?_)
  refine take_at (i := 0) (d := 21) (v := ?_) rfl rfl (by kernel_rfl) (by kernel_rfl) (by kernel_rfl) (fun _ _ _ h => h) (Or.inl ⟨by rfl, ?_⟩) (by assumption) ?_
  rotate_left
  · intro w hSw
    try dsimp only at hSw
    go_simp
    try with_reducible rfl
  simp only [Act.put, List.setIfInBounds_toArray, List.set_cons_zero, List.set_cons_succ]
  refine take_at (i := 2) (d := 23) (v := ?_) rfl rfl (by kernel_rfl) (by kernel_rfl) (by kernel_rfl) (fun _ _ _ h => h) (Or.inl ⟨by rfl, ?_⟩) (by assumption) ?_
  rotate_left
  · intro w hSw
    try dsimp only at hSw
    go_simp
    try with_reducible rfl
  simp only [Act.put, List.setIfInBounds_toArray, List.set_cons_zero, List.set_cons_succ]
  refine ready_at (i := 1) rfl (by kernel_rfl) (fun KK hKK => ?_)
  go_simp
  have hgo := bA
  refine (unhide TO _).mono ?_
  rintro e wz7_1 ⟨rfl, bb⟩
  have bz1 : Below w3.heap.size w3 wz7_1 := bA.trans (bb.mono bA.size)
  clear bA hgo bb
  clear hHeld
  refine hKK.out _ _ (unhide K _ bz1) (fun hHeld => ?_)
  clear hKK KK
  refine ready_at (i := 3) rfl (by kernel_rfl) (fun KK hKK => ?_)
  go_simp
  have hgo := bz1
  refine (unhide IM _ _ (unhide HE _ (Bw3.trans (hgo.mono Bw3.size))) (unhide RO _ hgo)).mono ?_
  rintro e wz7_2 ⟨rfl, bb⟩
  have bz2 : Below w3.heap.size w3 wz7_2 := bz1.trans (bb.mono bz1.size)
  clear RO
  clear bz1 hgo bb
  clear hHeld
  refine hKK.out _ _ (unhide K _ bz2) (fun hHeld => ?_)
  clear hKK KK
  refine take_at (i := 4) (d := 8) (v := ?_) rfl rfl (by kernel_rfl) (by kernel_rfl) (by kernel_rfl) (fun _ _ _ h => h) (Or.inl ⟨by rfl, ?_⟩) (by assumption) ?_
  rotate_left
  · intro w hSw
    try dsimp only at hSw
    go_simp
    try with_reducible rfl
  simp only [Act.put, List.setIfInBounds_toArray, List.set_cons_zero, List.set_cons_succ]
  clear hHeld
  refine wpAnyH_done (by kernel_rfl) ?_ _
  refine NoPanic.normal ?_
  have bb := bz2
  have Bwz7_2 := Bw3.trans (bb.mono Bw3.size)
  have swz7_2 := bb.size
  replace LC := LC.below bb LC.lt
  replace LA := LA.below bb LA.lt
  replace LX := LX.below bb LX.lt
  replace oP := oP.below bb
  clear Bw3
  clear bb bz2 K
  have RO := hide fun w' (hb' : Below wz7_2.heap.size wz7_2 w') => (oP.below hb').ri (by omega)
  have K : Hid (∀ w', Below wz7_2.heap.size wz7_2 w' → (fun w' => Below wz7_2.heap.size wz7_2 w' ∧ (w'.cell? ⟨w.heap.size + 1, 0, none⟩ = some (.int .i64 m) ∧ w'.cell? ⟨w.heap.size + 1, 1, none⟩ = some (.string s) ∧ w'.cell? ⟨w.heap.size + 1, 2, none⟩ = some (.slice pa pl pc)) ∧ (w'.cell? ⟨w2.heap.size, 0, none⟩ = some (.int .i64 m) ∧ w'.cell? ⟨w2.heap.size, 1, none⟩ = some (.string s) ∧ w'.cell? ⟨w2.heap.size, 2, none⟩ = some (.slice aoP pl koP))) w') := hide fun w' hb' => ⟨hb', ⟨(LA.below hb' LA.lt).cell 0 rfl, (LA.below hb' LA.lt).cell 1 rfl, (LA.below hb' LA.lt).cell 2 rfl⟩, ⟨(LX.below hb' LX.lt).cell 0 rfl, (LX.below hb' LX.lt).cell 1 rfl, (LX.below hb' LX.lt).cell 2 rfl⟩⟩
  go_upto_region 10 with fail
  have bA : Below wz7_2.heap.size wz7_2 wz7_2.drew := Below.drew (Below.refl _ _)
  refine wp_region_noPanic ?_
  refine wp_region_held_drew (S := fun w' => Below wz7_2.heap.size wz7_2 w' ∧ (w'.cell? ⟨w.heap.size + 1, 0, none⟩ = some (.int .i64 m) ∧ w'.cell? ⟨w.heap.size + 1, 1, none⟩ = some (.string s) ∧ w'.cell? ⟨w.heap.size + 1, 2, none⟩ = some (.slice pa pl pc)) ∧ (w'.cell? ⟨w2.heap.size, 0, none⟩ = some (.int .i64 m) ∧ w'.cell? ⟨w2.heap.size, 1, none⟩ = some (.string s) ∧ w'.cell? ⟨w2.heap.size, 2, none⟩ = some (.slice aoP pl koP))) (by kernel_rfl) (unhide K _ bA) (fun hHeld => ?_)
  refine take_at (i := 0) (d := 28) (v := ?_) rfl rfl (by kernel_rfl) (by kernel_rfl) (by kernel_rfl) (fun _ _ _ h => h) (Or.inl ⟨by rfl, ?_⟩) (by assumption) ?_
  rotate_left
  · intro w hSw
    try dsimp only at hSw
    go_simp
    try with_reducible rfl
  simp only [Act.put, List.setIfInBounds_toArray, List.set_cons_zero, List.set_cons_succ]
  refine take_at (i := 1) (d := 29) (v := ?_) rfl rfl (by kernel_rfl) (by kernel_rfl) (by kernel_rfl) (fun _ _ _ h => h) (Or.inl ⟨by rfl, ?_⟩) (by assumption) ?_
  rotate_left
  · intro w hSw
    try dsimp only at hSw
    go_simp
    try with_reducible rfl
  simp only [Act.put, List.setIfInBounds_toArray, List.set_cons_zero, List.set_cons_succ]
  refine ready_at (i := 2) rfl (by kernel_rfl) (fun KK hKK => ?_)
  go_simp
  have hgo := bA
  refine (unhide TQ _ (unhide RP _ (Bwz7_2.trans (hgo.mono Bwz7_2.size)))).mono ?_
  rintro e wz10_1 ⟨u3, rfl, p3, bb⟩
  have bz1 : Below wz7_2.heap.size wz7_2 wz10_1 := bA.trans (bb.mono bA.size)
  have R3 := hide (p3.ri (by omega))
  obtain ⟨bp3, jp3, rfl⟩ := p3.form
  rw [hpx] at R3 ⊢
  clear p3
  clear bA hgo bb
  clear hHeld
  refine hKK.out _ _ (unhide K _ bz1) (fun hHeld => ?_)
  clear hKK KK
  refine ready_at (i := 3) rfl (by kernel_rfl) (fun KK hKK => ?_)
  go_simp
  have hgo := bz1
  refine (unhide EP _ _ _ (unhide RO _ hgo) (unhide R3)).mono ?_
  rintro e wz10_2 ⟨rfl, bb⟩
  have bz2 : Below wz7_2.heap.size wz7_2 wz10_2 := bz1.trans (bb.mono bz1.size)
  clear RO R3
  clear bz1 hgo bb
  clear hHeld
  refine hKK.out _ _ (unhide K _ bz2) (fun hHeld => ?_)
  clear hKK KK
  refine take_at (i := 4) (d := 32) (v := ?_) rfl rfl (by kernel_rfl) (by kernel_rfl) (by kernel_rfl) (fun _ _ _ h => h) (Or.inl ⟨by rfl, ?_⟩) (by assumption) ?_
  rotate_left
  · intro w hSw
    try dsimp only at hSw
    go_simp
    try with_reducible rfl
  simp only [Act.put, List.setIfInBounds_toArray, List.set_cons_zero, List.set_cons_succ]
  clear hHeld
  refine wpAnyH_done (by kernel_rfl) ?_ _
  refine NoPanic.normal ?_
  have bb := bz2
  have Bwz10_2 := Bwz7_2.trans (bb.mono Bwz7_2.size)
  have swz10_2 := bb.size
  replace LC := LC.below bb LC.lt
  replace LA := LA.below bb LA.lt
  replace LX := LX.below bb LX.lt
  replace oP := oP.below bb
  clear Bwz7_2
  clear bb bz2 K
  go_wp2
  go_ret
  exact ⟨rfl, Bwz10_2⟩
end Go.Proofs.YtehdchpolgihlaaDoor

/- PartJoinLong: FnExactPartOk, FnExactPartJoin where too much is there. -/
namespace Go.Proofs.YtehdchpolgihlaaDoor
open Go.RowKit
set_option linter.unusedSectionVars false
variable [∀ (a b c d : Int), Decidable (Ok4 a b c d)]
variable [∀ (n f : Int), Decidable (COk n f)]

set_option maxHeartbeats 4000000 in
set_option maxRecDepth 100000 in
theorem fnPartOk_long (n f m : Int) (s : ByteArray) (pa : Option Addr) (pc k : Nat) (w : World) (h : 1048576 < s.size + k) (hs : s.size ≤ maxLen) (hk : k ≤ maxLen) :
    Calls Tryd.prog 3 #[cv n f, qv m s (.slice pa k pc)] w fun e w' => e = .returned (.bool true) ∧ Below w.heap.size w w' := by
  unfold maxLen at hs hk
  have ZA := hide fun w => szPart_no m s pa k pc 1048576 w (by omega) (by omega) (by omega) (by omega) (by omega)
  have B0 := qalloc2 w (.cells #[.int .i64 n, .int .i64 f] 23) (.cells #[.int .i64 m, .string s, .slice pa k pc] 26)
  go_enter Tryd.func3, Tryd.ntmps3
  go_wp2_with fail
  refine (unhide ZA _).mono ?_
  rintro _ w1 ⟨rfl, b1⟩
  go_wp2
  go_ret
  exact ⟨rfl, B0.trans (b1.mono B0.size)⟩

set_option maxHeartbeats 4000000 in
set_option maxRecDepth 100000 in
theorem fnPartJoin_long1 (m n : Int) (s t : ByteArray) (pa qa : Option Addr) (pc qc k j : Nat) (w : World) (h : 1048576 < s.size + k) (hs : s.size ≤ maxLen) (hk : k ≤ maxLen) :
    Calls Tryd.prog 4 #[qv m s (.slice pa k pc), qv n t (.slice qa j qc)] w fun e w' => e = .returned (.bool true) ∧ Below w.heap.size w w' := by
  unfold maxLen at hs hk
  have ZA := hide fun w => szPart_no m s pa k pc 1048576 w (by omega) (by omega) (by omega) (by omega) (by omega)
  have B0 := qalloc2 w (.cells #[.int .i64 m, .string s, .slice pa k pc] 26) (.cells #[.int .i64 n, .string t, .slice qa j qc] 26)
  go_enter Tryd.func4, Tryd.ntmps4
  go_wp2_with fail
  refine (unhide ZA _).mono ?_
  rintro _ w1 ⟨rfl, b1⟩
  go_wp2
  go_ret
  exact ⟨rfl, B0.trans (b1.mono B0.size)⟩

set_option maxHeartbeats 4000000 in
set_option maxRecDepth 100000 in
theorem fnPartJoin_long2 (m n : Int) (s t : ByteArray) (pa qa : Option Addr) (pc qc k j : Nat) (w : World) (h0 : s.size + k ≤ 1048576) (h : 1048576 < s.size + k + t.size + j) (ht : t.size ≤ maxLen) (hj : j ≤ maxLen) :
    Calls Tryd.prog 4 #[qv m s (.slice pa k pc), qv n t (.slice qa j qc)] w fun e w' => e = .returned (.bool true) ∧ Below w.heap.size w w' := by
  unfold maxLen at ht hj
  have ZA := hide fun w => szPart_yes m s pa k pc 1048576 w (by omega) (by omega)
  have ZB := hide fun w => szPart_no n t qa j qc (1048576 - s.size - k) w (by omega) (by omega) (by omega) (by omega) (by omega)
  have d1 : decide ((1048576 : Int) - (s.size : Int) - (k : Int) < 0) = false := by simp; omega
  obtain ⟨w0, hw0⟩ : ∃ y, (w.alloc (.cells #[.int .i64 m, .string s, .slice pa k pc] 26)).alloc (.cells #[.int .i64 n, .string t, .slice qa j qc] 26) = y := ⟨_, rfl⟩
  have B0 : Below w.heap.size w w0 := hw0 ▸ qalloc2 _ _ _
  have LA : Loc w0 w.heap.size #[.int .i64 m, .string s, .slice pa k pc] := hw0 ▸ (loc_at w _ _ rfl).alloc _
  have LB : Loc w0 (w.heap.size + 1) #[.int .i64 n, .string t, .slice qa j qc] := hw0 ▸ loc_at (w.alloc _) _ _ (by simp)
  go_enter Tryd.func4, Tryd.ntmps4
  have a0 := LA.cell 0 rfl
  have a1 := LA.cell 1 rfl
  have a2 := LA.cell 2 rfl
  go_wp2_with fail
  clear hw0 a0 a1 a2 LA
  refine (unhide ZA _).mono ?_
  rintro _ w1 ⟨rfl, b1⟩
  have B1 := B0.trans (b1.mono B0.size)
  replace LB := LB.below b1 LB.lt
  have c0 := LB.cell 0 rfl
  have c1 := LB.cell 1 rfl
  have c2 := LB.cell 2 rfl
  clear b1 B0 LB
  go_wp2_with fail
  refine (unhide ZB _).mono ?_
  rintro _ w2 ⟨rfl, b2⟩
  go_wp2
  go_ret
  exact ⟨rfl, B1.trans (b2.mono B1.size)⟩
end Go.Proofs.YtehdchpolgihlaaDoor
