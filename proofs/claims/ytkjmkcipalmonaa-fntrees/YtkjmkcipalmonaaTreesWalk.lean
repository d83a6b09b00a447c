/- The walk of laws.FnTrees. -/
import Derived.Test.YtkjmkcipalmonaaTreeKids
import Derived.Test.YtkjmkcipalmonaaTreeSpec
import Derived.Test.YtkjmkcipalmonaaTreeFacts
import Derived.Test.YtkjmkcipalmonaaDrawTree
import Derived.Test.YtkjmkcipalmonaaSameL
namespace Go.Proofs.Ytkjmkcipalmonaa
open Go.RowKit
set_option linter.unusedSectionVars false
variable [∀ (a b c d : Int), Decidable (Ok4 a b c d)]
variable [∀ (n f : Int), Decidable (COk n f)]

theorem sameInts_b (va vb : Value) (xs : List Int) (w : World) (ha : RI w va xs) (hb : RI w vb xs) :
    Calls Try.prog 19 #[va, vb] w fun e w' => e = .returned (.bool true) ∧ Below w.heap.size w w' := by
  refine (sameInts_yes va vb xs w ha hb).mono ?_
  rintro e w' ⟨rfl, n, rfl⟩
  exact ⟨rfl, below_drewN' (Below.refl _ _) n⟩
theorem underT_len (n f v i : Int) : (underI n f v i).length ≤ 7 := by
  unfold underI
  split
  · rename_i h
    have := picked_len (fun k => decide (i ∈ wayI n f v k)) n.toNat
    have := (hp_iff.1 h).1.1.2
    omega
  · simp
theorem kidsT_len (n f v i : Int) : (kidsI n f v i).length ≤ 7 := by
  unfold kidsI
  split
  · rename_i h
    have := picked_len (fun k => decide (upI n f v k = i)) n.toNat
    have := (hp_iff.1 h).1.1.2
    omega
  · simp

set_option maxHeartbeats 8000000 in
set_option maxRecDepth 100000 in
theorem lwithin_yes (u : Value) (xs : List Int) (x : Int) (w : World) (h : RI w u xs) (hm : x ∈ xs) :
    Calls Try.prog 31 #[u, .int .i64 x] w fun e w' => e = .returned (.bool true) ∧ Below w.heap.size w w' := by
  obtain ⟨ao, ca, rfl⟩ := h.form
  have hl := h.1
  have H := hide h
  have HMEM := hide hm
  obtain ⟨n, hn⟩ : ∃ n, xs.length = n := ⟨_, rfl⟩
  have Hn := hide hn
  rw [hn] at hl H ⊢
  clear h hn hm
  go_enter Try.func31, Try.ntmps31
  go_wp2
  go_loopw [5] (fun j wr => ∃ k : Nat, k ≤ n ∧ j = .int .i64 k ∧ Hid (x ∉ xs.take k) ∧ wr = w) (fun j _ => n - (intOf j).toNat)
  case atStart => exact ⟨0, Nat.zero_le _, rfl, hide (by simp), rfl⟩
  case round =>
    obtain ⟨k, hk, rfl, HK, rfl⟩ := hrel
    by_cases hlt : k < n
    · have hkx : k < xs.length := by have := unhide Hn; omega
      obtain ⟨b, off, rfl, c⟩ := (unhide H).at k hkx
      have HT := hide (itake_more xs k hkx)
      generalize xs.getD k 0 = d at *
      by_cases hd : d = x
      · subst hd
        clear H HT HK
        go_wp2
        go_ret
        exact ⟨rfl, Below.refl _ _⟩
      · have HN : Hid (x ∉ xs.take (k + 1)) := hide (by
          rw [unhide HT]; intro hx
          rcases List.mem_append.1 hx with hx | hx
          · exact unhide HK hx
          · simp at hx; exact hd hx.symm)
        clear H HT HK
        go_wp2
        go_roundw
        case rel => exact ⟨k + 1, by omega, by go_num, HN, by first | rfl | trivial⟩
        case measure => simp [intOf]; omega
    · exact absurd (unhide HMEM) (by have h := unhide HK; rwa [List.take_of_length_le (by have := unhide Hn; omega)] at h)

set_option maxHeartbeats 8000000 in
set_option maxRecDepth 100000 in
theorem fnTrees_short (ao : Option Addr) (ca : Nat) (zs : List Int) (w : World) (h : DCode w ao zs) :
    Calls Try.prog 3 #[.slice ao zs.length ca] w fun e w' => e = .returned (.bool true) ∧ Below w.heap.size w w' := by
  have BG := hide fun w => big_any ao zs.length ca w (by have := h.len; omega)
  rw [decide_eq_false (by have := h.len; omega)] at BG
  have DR := hide fun w h => drawWay_any ao ca zs w h
  have HC := hide h
  clear h
  have Bw := Below.refl w.heap.size w
  go_enter Try.func3, Try.ntmps3
  go_wp2_with fail
  refine (unhide BG _).mono ?_
  rintro _ w1 ⟨rfl, bb⟩
  have Bw1 := Bw.trans (bb.mono Bw.size)
  have sw1 := bb.size
  clear Bw
  clear bb
  clear BG
  go_wp2_with fail
  refine (unhide DR _ ((unhide HC).below Bw1 (Nat.le_refl _))).mono ?_
  rintro _ w2 ⟨n, f, v, i, rfl, bb⟩
  have Bw2 := Bw1.trans (bb.mono Bw1.size)
  have sw2 := bb.size
  clear Bw1
  clear bb
  clear DR
  go_upto_region 4 with fail
  obtain ⟨w3, hw3⟩ : ∃ y, w2.alloc (.cells #[.int .i64 n, .int .i64 f] 25) = y := ⟨_, rfl⟩
  have bb : Below w2.heap.size w2 w3 := hw3 ▸ qalloc _ _
  have LC : Loc w3 w2.heap.size #[.int .i64 n, .int .i64 f] := hw3 ▸ loc_at w2 _ _ rfl
  have zw3 : w2.heap.size + 1 ≤ w3.heap.size := by rw [← hw3]; simp
  rw [hw3]
  clear hw3
  have Bw3 := Bw2.trans (bb.mono Bw2.size)
  have sw3 := bb.size
  clear Bw2
  clear bb
  have hwl : (wayI n f v i).length ≤ 7 := way_len n f v 7 i
  have hul := underT_len n f v i
  have hkl := kidsT_len n f v i
  have IW := hide fun w => implWay n f v i w
  have IU := hide fun w => implUnder n f v i w
  have IK := hide fun w => implKids n f v i w
  have IE := hide fun w => implSeat n f v i w
  have IP := hide fun w => implUp n f v i w
  have IR := hide fun w => implRoot n f v w
  have SW := hide fun w => specWay n f v i w
  have SU := hide fun w => specUnder n f v i w
  have SK := hide fun w => specKids n f v i w
  have SE := hide fun w => specSeat n f v i w
  have SP := hide fun w => specUp n f v i w
  have SR := hide fun w => specRoot n f v w
  have F0 : Hid (¬ HP n f v i → wayI n f v i = [] ∧ underI n f v i = []) := hide fun h => ⟨way_none2 h, under_none h⟩
  have F1 : Hid (HP n f v i → (wayI n f v i).head? = some i ∧ (wayI n f v i).getLast? = some (rootI n f v) ∧ (wayI n f v i).length ≤ n.toNat ∧ (kidsI n f v i).length ≤ f.toNat ∧ (∀ k ∈ kidsI n f v i, k ∈ underI n f v i)) := hide fun h => ⟨(tree_facts h).1, (tree_facts h).2.1, (tree_facts h).2.2.1, (tree_facts h).2.2.2.1, (tree_facts h).2.2.2.2.1⟩
  have F2 : Hid (∀ x ∈ underI n f v i, i ∈ wayI n f v x) := hide fun x hx => (under_range hx).2.2
  have F3 : Hid (∀ x ∈ kidsI n f v i, upI n f v x = i) := hide fun x hx => kids_up hx
  have F4 : Hid (HP n f v i → sitsI n f v (seatI n f v i) = i) := hide fun h => sits_seat h
  have SS := hide fun w => implSits n f v (seatI n f v i) w
  generalize wayI n f v i = ws at *
  generalize underI n f v i = us at *
  generalize kidsI n f v i = ks at *
  generalize upI n f v i = y at *
  generalize rootI n f v = r at *
  generalize seatI n f v i = s at *
  have cLC0 := LC.cell 0 rfl
  have cLC1 := LC.cell 1 rfl
  go_wp2_with fail
  refine (unhide IW _).mono ?_
  rintro _ w4 ⟨uW, rfl, oW, bb⟩
  clear cLC0 cLC1
  have Bw4 := Bw3.trans (bb.mono Bw3.size)
  have sw4 := bb.size
  replace LC := LC.below bb LC.lt
  clear Bw3
  clear bb
  clear IW
  have toW := World.ownsRow.lt oW
  obtain ⟨aoW, koW, rfl⟩ := oW.form
  have cLC0 := LC.cell 0 rfl
  have cLC1 := LC.cell 1 rfl
  go_wp2_with fail
  refine (unhide IU _).mono ?_
  rintro _ w5 ⟨uU, rfl, oU, bb⟩
  clear cLC0 cLC1
  have Bw5 := Bw4.trans (bb.mono Bw4.size)
  have sw5 := bb.size
  replace LC := LC.below bb LC.lt
  replace oW := oW.below bb
  clear Bw4
  clear bb
  clear IU
  have toU := World.ownsRow.lt oU
  obtain ⟨aoU, koU, rfl⟩ := oU.form
  have cLC0 := LC.cell 0 rfl
  have cLC1 := LC.cell 1 rfl
  go_wp2_with fail
  refine (unhide IK _).mono ?_
  rintro _ w6 ⟨uK, rfl, oK, bb⟩
  clear cLC0 cLC1
  have Bw6 := Bw5.trans (bb.mono Bw5.size)
  have sw6 := bb.size
  replace LC := LC.below bb LC.lt
  replace oW := oW.below bb
  replace oU := oU.below bb
  clear Bw5
  clear bb
  clear IK
  have toK := World.ownsRow.lt oK
  obtain ⟨aoK, koK, rfl⟩ := oK.form
  have DR := hide fun w h => drawSits_any ao ca zs w h
  go_wp2_with fail
  refine (unhide DR _ ((unhide HC).below Bw6 (Nat.le_refl _))).mono ?_
  rintro _ w7 ⟨n', f', v', i', rfl, bb⟩
  have Bw7 := Bw6.trans (bb.mono Bw6.size)
  have sw7 := bb.size
  replace LC := LC.below bb LC.lt
  replace oW := oW.below bb
  replace oU := oU.below bb
  replace oK := oK.below bb
  clear Bw6
  clear bb
  clear DR HC
  go_upto_region 8 with fail
  obtain ⟨w8, hw8⟩ : ∃ y, w7.alloc (.cells #[.int .i64 n', .int .i64 f'] 25) = y := ⟨_, rfl⟩
  have bb : Below w7.heap.size w7 w8 := hw8 ▸ qalloc _ _
  have LD : Loc w8 w7.heap.size #[.int .i64 n', .int .i64 f'] := hw8 ▸ loc_at w7 _ _ rfl
  have zw8 : w7.heap.size + 1 ≤ w8.heap.size := by rw [← hw8]; simp
  rw [hw8]
  clear hw8
  have Bw8 := Bw7.trans (bb.mono Bw7.size)
  have sw8 := bb.size
  replace LC := LC.below bb LC.lt
  replace oW := oW.below bb
  replace oU := oU.below bb
  replace oK := oK.below bb
  clear Bw7
  clear bb
  have ID := hide fun w => implSits n' f' v' i' w
  have SD := hide fun w => specSits n' f' v' i' w
  generalize sitsI n' f' v' i' = z at *
  have RW := hide fun w' (hb' : Below w8.heap.size w8 w') => (oW.below hb').ri (by omega)
  have RU := hide fun w' (hb' : Below w8.heap.size w8 w') => (oU.below hb').ri (by omega)
  have RK := hide fun w' (hb' : Below w8.heap.size w8 w') => (oK.below hb').ri (by omega)
  have K : Hid (∀ w', Below w8.heap.size w8 w' → (fun w' => Below w8.heap.size w8 w' ∧ (w'.cell? ⟨w2.heap.size, 0, none⟩ = some (.int .i64 n) ∧ w'.cell? ⟨w2.heap.size, 1, none⟩ = some (.int .i64 f)) ∧ (w'.cell? ⟨w7.heap.size, 0, none⟩ = some (.int .i64 n') ∧ w'.cell? ⟨w7.heap.size, 1, none⟩ = some (.int .i64 f'))) w') := hide fun w' hb' => ⟨hb', ⟨(LC.below hb' LC.lt).cell 0 rfl, (LC.below hb' LC.lt).cell 1 rfl⟩, ⟨(LD.below hb' LD.lt).cell 0 rfl, (LD.below hb' LD.lt).cell 1 rfl⟩⟩
  have bA : Below w8.heap.size w8 w8.drew := Below.drew (Below.refl _ _)
  refine wp_region_noPanic ?_
  refine wp_region_held_drew (S := fun w' => Below w8.heap.size w8 w' ∧ (w'.cell? ⟨w2.heap.size, 0, none⟩ = some (.int .i64 n) ∧ w'.cell? ⟨w2.heap.size, 1, none⟩ = some (.int .i64 f)) ∧ (w'.cell? ⟨w7.heap.size, 0, none⟩ = some (.int .i64 n') ∧ w'.cell? ⟨w7.heap.size, 1, none⟩ = some (.int .i64 f'))) (by kernel_rfl) (unhide K _ bA) (fun hHeld => ?_)
  refine take_at (i := 0) (d := 40) (v := ?_) rfl rfl (by kernel_rfl) (by kernel_rfl) (by kernel_rfl) (fun _ _ _ h => h) (Or.inl ⟨by rfl, ?_⟩) (by assumption) ?_
  rotate_left
  · intro w hSw
    try dsimp only at hSw
    go_simp
    try with_reducible rfl
  simp only [Act.put, List.setIfInBounds_toArray, List.set_cons_zero, List.set_cons_succ]
  refine take_at (i := 1) (d := 41) (v := ?_) rfl rfl (by kernel_rfl) (by kernel_rfl) (by kernel_rfl) (fun _ _ _ h => h) (Or.inl ⟨by rfl, ?_⟩) (by assumption) ?_
  rotate_left
  · intro w hSw
    try dsimp only at hSw
    go_simp
    try with_reducible rfl
  simp only [Act.put, List.setIfInBounds_toArray, List.set_cons_zero, List.set_cons_succ]
  refine take_at (i := 2) (d := 42) (v := ?_) rfl rfl (by kernel_rfl) (by kernel_rfl) (by kernel_rfl) (fun _ _ _ h => h) (Or.inl ⟨by rfl, ?_⟩) (by assumption) ?_
  rotate_left
  · intro w hSw
    try dsimp only at hSw
    go_simp
    try with_reducible rfl
  simp only [Act.put, List.setIfInBounds_toArray, List.set_cons_zero, List.set_cons_succ]
  refine take_at (i := 3) (d := 43) (v := ?_) rfl rfl (by kernel_rfl) (by kernel_rfl) (by kernel_rfl) (fun _ _ _ h => h) (Or.inl ⟨by rfl, ?_⟩) (by assumption) ?_
  rotate_left
  · intro w hSw
    try dsimp only at hSw
    go_simp
    try with_reducible rfl
  simp only [Act.put, List.setIfInBounds_toArray, List.set_cons_zero, List.set_cons_succ]
  refine ready_at (i := 4) rfl (by kernel_rfl) (fun KK hKK => ?_)
  go_simp
  have hgo := bA
  refine (unhide SW _).mono ?_
  rintro e wz8_1 ⟨uX, rfl, oX, bb⟩
  have bz1 : Below w8.heap.size w8 wz8_1 := bA.trans (bb.mono bA.size)
  have RX := hide (oX.ri (by omega))
  clear oX
  clear bA hgo bb
  clear hHeld
  refine hKK.out _ _ (unhide K _ bz1) (fun hHeld => ?_)
  clear hKK KK
  refine ready_at (i := 5) rfl (by kernel_rfl) (fun KK hKK => ?_)
  go_simp
  have hgo := bz1
  refine (sameInts_b _ _ ws _ (unhide RW _ hgo) (unhide RX)).mono ?_
  rintro e wz8_2 ⟨rfl, bb⟩
  have bz2 : Below w8.heap.size w8 wz8_2 := bz1.trans (bb.mono bz1.size)
  clear RX RW
  clear bz1 hgo bb
  clear hHeld
  refine hKK.out _ _ (unhide K _ bz2) (fun hHeld => ?_)
  clear hKK KK
  refine take_at (i := 6) (d := 46) (v := ?_) rfl rfl (by kernel_rfl) (by kernel_rfl) (by kernel_rfl) (fun _ _ _ h => h) (Or.inl ⟨by rfl, ?_⟩) (by assumption) ?_
  rotate_left
  · intro w hSw
    try dsimp only at hSw
    go_simp
    try with_reducible rfl
  simp only [Act.put, List.setIfInBounds_toArray, List.set_cons_zero, List.set_cons_succ]
  refine take_at (i := 7) (d := 47) (v := ?_) rfl rfl (by kernel_rfl) (by kernel_rfl) (by kernel_rfl) (fun _ _ _ h => h) (Or.inl ⟨by rfl, ?_⟩) (by assumption) ?_
  rotate_left
  · intro w hSw
    try dsimp only at hSw
    go_simp
    try with_reducible rfl
  simp only [Act.put, List.setIfInBounds_toArray, List.set_cons_zero, List.set_cons_succ]
  refine take_at (i := 8) (d := 48) (v := ?_) rfl rfl (by kernel_rfl) (by kernel_rfl) (by kernel_rfl) (fun _ _ _ h => h) (Or.inl ⟨by rfl, ?_⟩) (by assumption) ?_
  rotate_left
  · intro w hSw
    try dsimp only at hSw
    go_simp
    try with_reducible rfl
  simp only [Act.put, List.setIfInBounds_toArray, List.set_cons_zero, List.set_cons_succ]
  refine take_at (i := 9) (d := 49) (v := ?_) rfl rfl (by kernel_rfl) (by kernel_rfl) (by kernel_rfl) (fun _ _ _ h => h) (Or.inl ⟨by rfl, ?_⟩) (by assumption) ?_
  rotate_left
  · intro w hSw
    try dsimp only at hSw
    go_simp
    try with_reducible rfl
  simp only [Act.put, List.setIfInBounds_toArray, List.set_cons_zero, List.set_cons_succ]
  refine take_at (i := 10) (d := 50) (v := ?_) rfl rfl (by kernel_rfl) (by kernel_rfl) (by kernel_rfl) (fun _ _ _ h => h) (Or.inl ⟨by rfl, ?_⟩) (by assumption) ?_
  rotate_left
  · intro w hSw
    try dsimp only at hSw
    go_simp
    try with_reducible rfl
  simp only [Act.put, List.setIfInBounds_toArray, List.set_cons_zero, List.set_cons_succ]
  refine take_at (i := 11) (d := 51) (v := ?_) rfl rfl (by kernel_rfl) (by kernel_rfl) (by kernel_rfl) (fun _ _ _ h => h) (Or.inl ⟨by rfl, ?_⟩) (by assumption) ?_
  rotate_left
  · intro w hSw
    try dsimp only at hSw
    go_simp
    try with_reducible rfl
  simp only [Act.put, List.setIfInBounds_toArray, List.set_cons_zero, List.set_cons_succ]
  refine ready_at (i := 12) rfl (by kernel_rfl) (fun KK hKK => ?_)
  go_simp
  have hgo := bz2
  refine (unhide SU _).mono ?_
  rintro e wz8_3 ⟨uX, rfl, oX, bb⟩
  have bz3 : Below w8.heap.size w8 wz8_3 := bz2.trans (bb.mono bz2.size)
  have RX := hide (oX.ri (by omega))
  clear oX
  clear bz2 hgo bb
  clear hHeld
  refine hKK.out _ _ (unhide K _ bz3) (fun hHeld => ?_)
  clear hKK KK
  refine ready_at (i := 13) rfl (by kernel_rfl) (fun KK hKK => ?_)
  go_simp
  have hgo := bz3
  refine (sameInts_b _ _ us _ (unhide RU _ hgo) (unhide RX)).mono ?_
  rintro e wz8_4 ⟨rfl, bb⟩
  have bz4 : Below w8.heap.size w8 wz8_4 := bz3.trans (bb.mono bz3.size)
  clear RX RU
  clear bz3 hgo bb
  clear hHeld
  refine hKK.out _ _ (unhide K _ bz4) (fun hHeld => ?_)
  clear hKK KK
  refine take_at (i := 14) (d := 54) (v := ?_) rfl rfl (by kernel_rfl) (by kernel_rfl) (by kernel_rfl) (fun _ _ _ h => h) (Or.inl ⟨by rfl, ?_⟩) (by assumption) ?_
  rotate_left
  · intro w hSw
    try dsimp only at hSw
    go_simp
    try with_reducible rfl
  simp only [Act.put, List.setIfInBounds_toArray, List.set_cons_zero, List.set_cons_succ]
  refine take_at (i := 15) (d := 55) (v := ?_) rfl rfl (by kernel_rfl) (by kernel_rfl) (by kernel_rfl) (fun _ _ _ h => h) (Or.inl ⟨by rfl, ?_⟩) (by assumption) ?_
  rotate_left
  · intro w hSw
    try dsimp only at hSw
    go_simp
    try with_reducible rfl
  simp only [Act.put, List.setIfInBounds_toArray, List.set_cons_zero, List.set_cons_succ]
  refine take_at (i := 16) (d := 56) (v := ?_) rfl rfl (by kernel_rfl) (by kernel_rfl) (by kernel_rfl) (fun _ _ _ h => h) (Or.inl ⟨by rfl, ?_⟩) (by assumption) ?_
  rotate_left
  · intro w hSw
    try dsimp only at hSw
    go_simp
    try with_reducible rfl
  simp only [Act.put, List.setIfInBounds_toArray, List.set_cons_zero, List.set_cons_succ]
  refine take_at (i := 17) (d := 57) (v := ?_) rfl rfl (by kernel_rfl) (by kernel_rfl) (by kernel_rfl) (fun _ _ _ h => h) (Or.inl ⟨by rfl, ?_⟩) (by assumption) ?_
  rotate_left
  · intro w hSw
    try dsimp only at hSw
    go_simp
    try with_reducible rfl
  simp only [Act.put, List.setIfInBounds_toArray, List.set_cons_zero, List.set_cons_succ]
  refine take_at (i := 18) (d := 58) (v := ?_) rfl rfl (by kernel_rfl) (by kernel_rfl) (by kernel_rfl) (fun _ _ _ h => h) (Or.inl ⟨by rfl, ?_⟩) (by assumption) ?_
  rotate_left
  · intro w hSw
    try dsimp only at hSw
    go_simp
    try with_reducible rfl
  simp only [Act.put, List.setIfInBounds_toArray, List.set_cons_zero, List.set_cons_succ]
  refine take_at (i := 19) (d := 59) (v := ?_) rfl rfl (by kernel_rfl) (by kernel_rfl) (by kernel_rfl) (fun _ _ _ h => h) (Or.inl ⟨by rfl, ?_⟩) (by assumption) ?_
  rotate_left
  · intro w hSw
    try dsimp only at hSw
    go_simp
    try with_reducible rfl
  simp only [Act.put, List.setIfInBounds_toArray, List.set_cons_zero, List.set_cons_succ]
  refine take_at (i := 20) (d := 60) (v := ?_) rfl rfl (by kernel_rfl) (by kernel_rfl) (by kernel_rfl) (fun _ _ _ h => h) (Or.inl ⟨by rfl, ?_⟩) (by assumption) ?_
  rotate_left
  · intro w hSw
    try dsimp only at hSw
    go_simp
    try with_reducible rfl
  simp only [Act.put, List.setIfInBounds_toArray, List.set_cons_zero, List.set_cons_succ]
  refine ready_at (i := 21) rfl (by kernel_rfl) (fun KK hKK => ?_)
  go_simp
  have hgo := bz4
  refine (unhide SK _).mono ?_
  rintro e wz8_5 ⟨uX, rfl, oX, bb⟩
  have bz5 : Below w8.heap.size w8 wz8_5 := bz4.trans (bb.mono bz4.size)
  have RX := hide (oX.ri (by omega))
  clear oX
  clear bz4 hgo bb
  clear hHeld
  refine hKK.out _ _ (unhide K _ bz5) (fun hHeld => ?_)
  clear hKK KK
  refine ready_at (i := 22) rfl (by kernel_rfl) (fun KK hKK => ?_)
  go_simp
  have hgo := bz5
  refine (sameInts_b _ _ ks _ (unhide RK _ hgo) (unhide RX)).mono ?_
  rintro e wz8_6 ⟨rfl, bb⟩
  have bz6 : Below w8.heap.size w8 wz8_6 := bz5.trans (bb.mono bz5.size)
  clear RX RK
  clear bz5 hgo bb
  clear hHeld
  refine hKK.out _ _ (unhide K _ bz6) (fun hHeld => ?_)
  clear hKK KK
  refine take_at (i := 23) (d := 63) (v := ?_) rfl rfl (by kernel_rfl) (by kernel_rfl) (by kernel_rfl) (fun _ _ _ h => h) (Or.inl ⟨by rfl, ?_⟩) (by assumption) ?_
  rotate_left
  · intro w hSw
    try dsimp only at hSw
    go_simp
    try with_reducible rfl
  simp only [Act.put, List.setIfInBounds_toArray, List.set_cons_zero, List.set_cons_succ]
  refine take_at (i := 24) (d := 64) (v := ?_) rfl rfl (by kernel_rfl) (by kernel_rfl) (by kernel_rfl) (fun _ _ _ h => h) (Or.inl ⟨by rfl, ?_⟩) (by assumption) ?_
  rotate_left
  · intro w hSw
    try dsimp only at hSw
    go_simp
    try with_reducible rfl
  simp only [Act.put, List.setIfInBounds_toArray, List.set_cons_zero, List.set_cons_succ]
  refine take_at (i := 25) (d := 65) (v := ?_) rfl rfl (by kernel_rfl) (by kernel_rfl) (by kernel_rfl) (fun _ _ _ h => h) (Or.inl ⟨by rfl, ?_⟩) (by assumption) ?_
  rotate_left
  · intro w hSw
    try dsimp only at hSw
    go_simp
    try with_reducible rfl
  simp only [Act.put, List.setIfInBounds_toArray, List.set_cons_zero, List.set_cons_succ]
  refine take_at (i := 26) (d := 66) (v := ?_) rfl rfl (by kernel_rfl) (by kernel_rfl) (by kernel_rfl) (fun _ _ _ h => h) (Or.inl ⟨by rfl, ?_⟩) (by assumption) ?_
  rotate_left
  · intro w hSw
    try dsimp only at hSw
    go_simp
    try with_reducible rfl
  simp only [Act.put, List.setIfInBounds_toArray, List.set_cons_zero, List.set_cons_succ]
  refine take_at (i := 27) (d := 67) (v := ?_) rfl rfl (by kernel_rfl) (by kernel_rfl) (by kernel_rfl) (fun _ _ _ h => h) (Or.inl ⟨by rfl, ?_⟩) (by assumption) ?_
  rotate_left
  · intro w hSw
    try dsimp only at hSw
    go_simp
    try with_reducible rfl
  simp only [Act.put, List.setIfInBounds_toArray, List.set_cons_zero, List.set_cons_succ]
  refine take_at (i := 28) (d := 68) (v := ?_) rfl rfl (by kernel_rfl) (by kernel_rfl) (by kernel_rfl) (fun _ _ _ h => h) (Or.inl ⟨by rfl, ?_⟩) (by assumption) ?_
  rotate_left
  · intro w hSw
    try dsimp only at hSw
    go_simp
    try with_reducible rfl
  simp only [Act.put, List.setIfInBounds_toArray, List.set_cons_zero, List.set_cons_succ]
  refine take_at (i := 30) (d := 70) (v := ?_) rfl rfl (by kernel_rfl) (by kernel_rfl) (by kernel_rfl) (fun _ _ _ h => h) (Or.inl ⟨by rfl, ?_⟩) (by assumption) ?_
  rotate_left
  · intro w hSw
    try dsimp only at hSw
    go_simp
    try with_reducible rfl
  simp only [Act.put, List.setIfInBounds_toArray, List.set_cons_zero, List.set_cons_succ]
  refine take_at (i := 31) (d := 71) (v := ?_) rfl rfl (by kernel_rfl) (by kernel_rfl) (by kernel_rfl) (fun _ _ _ h => h) (Or.inl ⟨by rfl, ?_⟩) (by assumption) ?_
  rotate_left
  · intro w hSw
    try dsimp only at hSw
    go_simp
    try with_reducible rfl
  simp only [Act.put, List.setIfInBounds_toArray, List.set_cons_zero, List.set_cons_succ]
  refine take_at (i := 32) (d := 72) (v := ?_) rfl rfl (by kernel_rfl) (by kernel_rfl) (by kernel_rfl) (fun _ _ _ h => h) (Or.inl ⟨by rfl, ?_⟩) (by assumption) ?_
  rotate_left
  · intro w hSw
    try dsimp only at hSw
    go_simp
    try with_reducible rfl
  simp only [Act.put, List.setIfInBounds_toArray, List.set_cons_zero, List.set_cons_succ]
  refine ready_at (i := 29) rfl (by kernel_rfl) (fun KK hKK => ?_)
  go_simp
  have hgo := bz6
  refine (unhide ID _).mono ?_
  rintro e wz8_7 ⟨rfl, bb⟩
  have bz7 : Below w8.heap.size w8 wz8_7 := bz6.trans (bb.mono bz6.size)
  clear bz6 hgo bb
  clear hHeld
  refine hKK.out _ _ (unhide K _ bz7) (fun hHeld => ?_)
  clear hKK KK
  refine ready_at (i := 33) rfl (by kernel_rfl) (fun KK hKK => ?_)
  go_simp
  have hgo := bz7
  refine (unhide SD _).mono ?_
  rintro e wz8_8 ⟨rfl, bb⟩
  have bz8 : Below w8.heap.size w8 wz8_8 := bz7.trans (bb.mono bz7.size)
  clear bz7 hgo bb
  clear hHeld
  refine hKK.out _ _ (unhide K _ bz8) (fun hHeld => ?_)
  clear hKK KK
  refine take_at (i := 34) (d := 74) (v := ?_) rfl rfl (by kernel_rfl) (by kernel_rfl) (by kernel_rfl) (fun _ _ _ h => h) (Or.inl ⟨by rfl, ?_⟩) (by assumption) ?_
  rotate_left
  · intro w hSw
    try dsimp only at hSw
    go_simp
    try with_reducible rfl
  simp only [Act.put, List.setIfInBounds_toArray, List.set_cons_zero, List.set_cons_succ]
  refine take_at (i := 35) (d := 75) (v := ?_) rfl rfl (by kernel_rfl) (by kernel_rfl) (by kernel_rfl) (fun _ _ _ h => h) (Or.inl ⟨by rfl, ?_⟩) (by assumption) ?_
  rotate_left
  · intro w hSw
    try dsimp only at hSw
    go_simp
    try with_reducible rfl
  simp only [Act.put, List.setIfInBounds_toArray, List.set_cons_zero, List.set_cons_succ]
  refine take_at (i := 36) (d := 76) (v := ?_) rfl rfl (by kernel_rfl) (by kernel_rfl) (by kernel_rfl) (fun _ _ _ h => h) (Or.inl ⟨by rfl, ?_⟩) (by assumption) ?_
  rotate_left
  · intro w hSw
    try dsimp only at hSw
    go_simp
    try with_reducible rfl
  simp only [Act.put, List.setIfInBounds_toArray, List.set_cons_zero, List.set_cons_succ]
  refine take_at (i := 37) (d := 77) (v := ?_) rfl rfl (by kernel_rfl) (by kernel_rfl) (by kernel_rfl) (fun _ _ _ h => h) (Or.inl ⟨by rfl, ?_⟩) (by assumption) ?_
  rotate_left
  · intro w hSw
    try dsimp only at hSw
    go_simp
    try with_reducible rfl
  simp only [Act.put, List.setIfInBounds_toArray, List.set_cons_zero, List.set_cons_succ]
  refine take_at (i := 38) (d := 78) (v := ?_) rfl rfl (by kernel_rfl) (by kernel_rfl) (by kernel_rfl) (fun _ _ _ h => h) (Or.inl ⟨by rfl, ?_⟩) (by assumption) ?_
  rotate_left
  · intro w hSw
    try dsimp only at hSw
    go_simp
    try with_reducible rfl
  simp only [Act.put, List.setIfInBounds_toArray, List.set_cons_zero, List.set_cons_succ]
  refine take_at (i := 39) (d := 79) (v := ?_) rfl rfl (by kernel_rfl) (by kernel_rfl) (by kernel_rfl) (fun _ _ _ h => h) (Or.inl ⟨by rfl, ?_⟩) (by assumption) ?_
  rotate_left
  · intro w hSw
    try dsimp only at hSw
    go_simp
    try with_reducible rfl
  simp only [Act.put, List.setIfInBounds_toArray, List.set_cons_zero, List.set_cons_succ]
  refine take_at (i := 41) (d := 81) (v := ?_) rfl rfl (by kernel_rfl) (by kernel_rfl) (by kernel_rfl) (fun _ _ _ h => h) (Or.inl ⟨by rfl, ?_⟩) (by assumption) ?_
  rotate_left
  · intro w hSw
    try dsimp only at hSw
    go_simp
    try with_reducible rfl
  simp only [Act.put, List.setIfInBounds_toArray, List.set_cons_zero, List.set_cons_succ]
  refine take_at (i := 42) (d := 82) (v := ?_) rfl rfl (by kernel_rfl) (by kernel_rfl) (by kernel_rfl) (fun _ _ _ h => h) (Or.inl ⟨by rfl, ?_⟩) (by assumption) ?_
  rotate_left
  · intro w hSw
    try dsimp only at hSw
    go_simp
    try with_reducible rfl
  simp only [Act.put, List.setIfInBounds_toArray, List.set_cons_zero, List.set_cons_succ]
  refine take_at (i := 43) (d := 83) (v := ?_) rfl rfl (by kernel_rfl) (by kernel_rfl) (by kernel_rfl) (fun _ _ _ h => h) (Or.inl ⟨by rfl, ?_⟩) (by assumption) ?_
  rotate_left
  · intro w hSw
    try dsimp only at hSw
    go_simp
    try with_reducible rfl
  simp only [Act.put, List.setIfInBounds_toArray, List.set_cons_zero, List.set_cons_succ]
  refine ready_at (i := 40) rfl (by kernel_rfl) (fun KK hKK => ?_)
  go_simp
  have hgo := bz8
  refine (unhide IE _).mono ?_
  rintro e wz8_9 ⟨rfl, bb⟩
  have bz9 : Below w8.heap.size w8 wz8_9 := bz8.trans (bb.mono bz8.size)
  clear bz8 hgo bb
  clear hHeld
  refine hKK.out _ _ (unhide K _ bz9) (fun hHeld => ?_)
  clear hKK KK
  refine ready_at (i := 44) rfl (by kernel_rfl) (fun KK hKK => ?_)
  go_simp
  have hgo := bz9
  refine (unhide SE _).mono ?_
  rintro e wz8_10 ⟨rfl, bb⟩
  have bz10 : Below w8.heap.size w8 wz8_10 := bz9.trans (bb.mono bz9.size)
  clear bz9 hgo bb
  clear hHeld
  refine hKK.out _ _ (unhide K _ bz10) (fun hHeld => ?_)
  clear hKK KK
  refine take_at (i := 45) (d := 85) (v := ?_) rfl rfl (by kernel_rfl) (by kernel_rfl) (by kernel_rfl) (fun _ _ _ h => h) (Or.inl ⟨by rfl, ?_⟩) (by assumption) ?_
  rotate_left
  · intro w hSw
    try dsimp only at hSw
    go_simp
    try with_reducible rfl
  simp only [Act.put, List.setIfInBounds_toArray, List.set_cons_zero, List.set_cons_succ]
  refine take_at (i := 46) (d := 86) (v := ?_) rfl rfl (by kernel_rfl) (by kernel_rfl) (by kernel_rfl) (fun _ _ _ h => h) (Or.inl ⟨by rfl, ?_⟩) (by assumption) ?_
  rotate_left
  · intro w hSw
    try dsimp only at hSw
    go_simp
    try with_reducible rfl
  simp only [Act.put, List.setIfInBounds_toArray, List.set_cons_zero, List.set_cons_succ]
  refine take_at (i := 47) (d := 87) (v := ?_) rfl rfl (by kernel_rfl) (by kernel_rfl) (by kernel_rfl) (fun _ _ _ h => h) (Or.inl ⟨by rfl, ?_⟩) (by assumption) ?_
  rotate_left
  · intro w hSw
    try dsimp only at hSw
    go_simp
    try with_reducible rfl
  simp only [Act.put, List.setIfInBounds_toArray, List.set_cons_zero, List.set_cons_succ]
  refine take_at (i := 48) (d := 88) (v := ?_) rfl rfl (by kernel_rfl) (by kernel_rfl) (by kernel_rfl) (fun _ _ _ h => h) (Or.inl ⟨by rfl, ?_⟩) (by assumption) ?_
  rotate_left
  · intro w hSw
    try dsimp only at hSw
    go_simp
    try with_reducible rfl
  simp only [Act.put, List.setIfInBounds_toArray, List.set_cons_zero, List.set_cons_succ]
  refine take_at (i := 49) (d := 89) (v := ?_) rfl rfl (by kernel_rfl) (by kernel_rfl) (by kernel_rfl) (fun _ _ _ h => h) (Or.inl ⟨by rfl, ?_⟩) (by assumption) ?_
  rotate_left
  · intro w hSw
    try dsimp only at hSw
    go_simp
    try with_reducible rfl
  simp only [Act.put, List.setIfInBounds_toArray, List.set_cons_zero, List.set_cons_succ]
  refine take_at (i := 50) (d := 90) (v := ?_) rfl rfl (by kernel_rfl) (by kernel_rfl) (by kernel_rfl) (fun _ _ _ h => h) (Or.inl ⟨by rfl, ?_⟩) (by assumption) ?_
  rotate_left
  · intro w hSw
    try dsimp only at hSw
    go_simp
    try with_reducible rfl
  simp only [Act.put, List.setIfInBounds_toArray, List.set_cons_zero, List.set_cons_succ]
  refine take_at (i := 52) (d := 92) (v := ?_) rfl rfl (by kernel_rfl) (by kernel_rfl) (by kernel_rfl) (fun _ _ _ h => h) (Or.inl ⟨by rfl, ?_⟩) (by assumption) ?_
  rotate_left
  · intro w hSw
    try dsimp only at hSw
    go_simp
    try with_reducible rfl
  simp only [Act.put, List.setIfInBounds_toArray, List.set_cons_zero, List.set_cons_succ]
  refine take_at (i := 53) (d := 93) (v := ?_) rfl rfl (by kernel_rfl) (by kernel_rfl) (by kernel_rfl) (fun _ _ _ h => h) (Or.inl ⟨by rfl, ?_⟩) (by assumption) ?_
  rotate_left
  · intro w hSw
    try dsimp only at hSw
    go_simp
    try with_reducible rfl
  simp only [Act.put, List.setIfInBounds_toArray, List.set_cons_zero, List.set_cons_succ]
  refine take_at (i := 54) (d := 94) (v := ?_) rfl rfl (by kernel_rfl) (by kernel_rfl) (by kernel_rfl) (fun _ _ _ h => h) (Or.inl ⟨by rfl, ?_⟩) (by assumption) ?_
  rotate_left
  · intro w hSw
    try dsimp only at hSw
    go_simp
    try with_reducible rfl
  simp only [Act.put, List.setIfInBounds_toArray, List.set_cons_zero, List.set_cons_succ]
  refine ready_at (i := 51) rfl (by kernel_rfl) (fun KK hKK => ?_)
  go_simp
  have hgo := bz10
  refine (unhide IP _).mono ?_
  rintro e wz8_11 ⟨rfl, bb⟩
  have bz11 : Below w8.heap.size w8 wz8_11 := bz10.trans (bb.mono bz10.size)
  clear bz10 hgo bb
  clear hHeld
  refine hKK.out _ _ (unhide K _ bz11) (fun hHeld => ?_)
  clear hKK KK
  refine ready_at (i := 55) rfl (by kernel_rfl) (fun KK hKK => ?_)
  go_simp
  have hgo := bz11
  refine (unhide SP _).mono ?_
  rintro e wz8_12 ⟨rfl, bb⟩
  have bz12 : Below w8.heap.size w8 wz8_12 := bz11.trans (bb.mono bz11.size)
  clear bz11 hgo bb
  clear hHeld
  refine hKK.out _ _ (unhide K _ bz12) (fun hHeld => ?_)
  clear hKK KK
  refine take_at (i := 56) (d := 96) (v := ?_) rfl rfl (by kernel_rfl) (by kernel_rfl) (by kernel_rfl) (fun _ _ _ h => h) (Or.inl ⟨by rfl, ?_⟩) (by assumption) ?_
  rotate_left
  · intro w hSw
    try dsimp only at hSw
    go_simp
    try with_reducible rfl
  simp only [Act.put, List.setIfInBounds_toArray, List.set_cons_zero, List.set_cons_succ]
  refine take_at (i := 57) (d := 97) (v := ?_) rfl rfl (by kernel_rfl) (by kernel_rfl) (by kernel_rfl) (fun _ _ _ h => h) (Or.inl ⟨by rfl, ?_⟩) (by assumption) ?_
  rotate_left
  · intro w hSw
    try dsimp only at hSw
    go_simp
    try with_reducible rfl
  simp only [Act.put, List.setIfInBounds_toArray, List.set_cons_zero, List.set_cons_succ]
  refine take_at (i := 58) (d := 98) (v := ?_) rfl rfl (by kernel_rfl) (by kernel_rfl) (by kernel_rfl) (fun _ _ _ h => h) (Or.inl ⟨by rfl, ?_⟩) (by assumption) ?_
  rotate_left
  · intro w hSw
    try dsimp only at hSw
    go_simp
    try with_reducible rfl
  simp only [Act.put, List.setIfInBounds_toArray, List.set_cons_zero, List.set_cons_succ]
  refine take_at (i := 59) (d := 99) (v := ?_) rfl rfl (by kernel_rfl) (by kernel_rfl) (by kernel_rfl) (fun _ _ _ h => h) (Or.inl ⟨by rfl, ?_⟩) (by assumption) ?_
  rotate_left
  · intro w hSw
    try dsimp only at hSw
    go_simp
    try with_reducible rfl
  simp only [Act.put, List.setIfInBounds_toArray, List.set_cons_zero, List.set_cons_succ]
  refine take_at (i := 60) (d := 100) (v := ?_) rfl rfl (by kernel_rfl) (by kernel_rfl) (by kernel_rfl) (fun _ _ _ h => h) (Or.inl ⟨by rfl, ?_⟩) (by assumption) ?_
  rotate_left
  · intro w hSw
    try dsimp only at hSw
    go_simp
    try with_reducible rfl
  simp only [Act.put, List.setIfInBounds_toArray, List.set_cons_zero, List.set_cons_succ]
  refine take_at (i := 62) (d := 102) (v := ?_) rfl rfl (by kernel_rfl) (by kernel_rfl) (by kernel_rfl) (fun _ _ _ h => h) (Or.inl ⟨by rfl, ?_⟩) (by assumption) ?_
  rotate_left
  · intro w hSw
    try dsimp only at hSw
    go_simp
    try with_reducible rfl
  simp only [Act.put, List.setIfInBounds_toArray, List.set_cons_zero, List.set_cons_succ]
  refine take_at (i := 63) (d := 103) (v := ?_) rfl rfl (by kernel_rfl) (by kernel_rfl) (by kernel_rfl) (fun _ _ _ h => h) (Or.inl ⟨by rfl, ?_⟩) (by assumption) ?_
  rotate_left
  · intro w hSw
    try dsimp only at hSw
    go_simp
    try with_reducible rfl
  simp only [Act.put, List.setIfInBounds_toArray, List.set_cons_zero, List.set_cons_succ]
  refine ready_at (i := 61) rfl (by kernel_rfl) (fun KK hKK => ?_)
  go_simp
  have hgo := bz12
  refine (unhide IR _).mono ?_
  rintro e wz8_13 ⟨rfl, bb⟩
  have bz13 : Below w8.heap.size w8 wz8_13 := bz12.trans (bb.mono bz12.size)
  clear bz12 hgo bb
  clear hHeld
  refine hKK.out _ _ (unhide K _ bz13) (fun hHeld => ?_)
  clear hKK KK
  refine ready_at (i := 64) rfl (by kernel_rfl) (fun KK hKK => ?_)
  go_simp
  have hgo := bz13
  refine (unhide SR _).mono ?_
  rintro e wz8_14 ⟨rfl, bb⟩
  have bz14 : Below w8.heap.size w8 wz8_14 := bz13.trans (bb.mono bz13.size)
  clear bz13 hgo bb
  clear hHeld
  refine hKK.out _ _ (unhide K _ bz14) (fun hHeld => ?_)
  clear hKK KK
  refine take_at (i := 65) (d := 105) (v := ?_) rfl rfl (by kernel_rfl) (by kernel_rfl) (by kernel_rfl) (fun _ _ _ h => h) (Or.inl ⟨by rfl, ?_⟩) (by assumption) ?_
  rotate_left
  · intro w hSw
    try dsimp only at hSw
    go_simp
    try with_reducible rfl
  simp only [Act.put, List.setIfInBounds_toArray, List.set_cons_zero, List.set_cons_succ]
  refine take_at (i := 66) (d := 106) (v := ?_) rfl rfl (by kernel_rfl) (by kernel_rfl) (by kernel_rfl) (fun _ _ _ h => h) (Or.inl ⟨by rfl, ?_⟩) (by assumption) ?_
  rotate_left
  · intro w hSw
    try dsimp only at hSw
    go_simp
    try with_reducible rfl
  simp only [Act.put, List.setIfInBounds_toArray, List.set_cons_zero, List.set_cons_succ]
  clear hHeld
  refine wpAnyH_done (by kernel_rfl) ?_ _
  refine NoPanic.normal ?_
  have bb := bz14
  have Bwz8_14 := Bw8.trans (bb.mono Bw8.size)
  have swz8_14 := bb.size
  replace LC := LC.below bb LC.lt
  replace LD := LD.below bb LD.lt
  replace oW := oW.below bb
  replace oU := oU.below bb
  replace oK := oK.below bb
  clear Bw8
  clear bb bz14 K
  clear LD
  clear ID SD SE IP SP SR SW SU SK
  by_cases hp : HP n f v i
  · obtain ⟨f1, f2, f3, f4, f5⟩ := unhide F1 hp
    have f6 := unhide F4 hp
    rw [f6] at SS
    have hc := hp.of.1
    have hn1 := hc.1.1
    have hn2 := hc.1.2
    have hf1 := hc.2.1
    have G1 := hide f1
    have G2 := hide f2
    have G5 := hide f5
    have G3 : ws.length ≤ n.toNat := f3
    have G4 : ks.length ≤ f.toNat := f4
    obtain ⟨m, hm⟩ : ∃ m, ws.length = m + 1 := ⟨ws.length - 1, by rcases ws with _ | ⟨a, t⟩; simp at f1; simp⟩
    have HM := hide hm
    rw [hm] at G3 hwl ⊢
    clear F0 F1 F4 f1 f2 f3 f4 f5 f6 hc hp
    go_wp2
    go_loopw [12] (fun j wr => ∃ k : Nat, k ≤ us.length ∧ j = .int .i64 k ∧ Below wz8_14.heap.size wz8_14 wr) (fun j _ => us.length - (intOf j).toNat)
    case atStart => exact ⟨0, by omega, rfl, Below.refl _ _⟩
    case round =>
      obtain ⟨k, hk, rfl, bb⟩ := hrel
      have Br := bb
      have Bwr := Bwz8_14.trans (bb.mono Bwz8_14.size)
      have swr := bb.size
      replace LC := LC.below bb LC.lt
      replace oW := oW.below bb
      replace oU := oU.below bb
      replace oK := oK.below bb
      clear Bwz8_14
      clear bb
      obtain ⟨wo, hwo⟩ : ∃ y, y = wr := ⟨_, rfl⟩
      subst hwo
      have Bwo := Bwr
      clear Bwr
      by_cases hlt : k < us.length
      · obtain ⟨bx, ox, ex, cx⟩ := (oU.ri (by omega)).at k hlt
        subst ex
        have hmem : us.getD k 0 ∈ us := getD_mem_int hlt
        generalize us.getD k 0 = x at *
        have IX := hide fun w => implWay n f v x w
        have hxl : (wayI n f v x).length ≤ 7 := way_len n f v 7 x
        have hin := unhide F2 x hmem
        generalize wayI n f v x = xs at *
        have LW := hide fun u w h => lwithin_yes u xs i w h hin
        have K : Hid (∀ w', Below wo.heap.size wo w' → (fun w' => Below wo.heap.size wo w' ∧ (w'.cell? ⟨w2.heap.size, 0, none⟩ = some (.int .i64 n) ∧ w'.cell? ⟨w2.heap.size, 1, none⟩ = some (.int .i64 f)) ∧ w'.cell? ⟨bx, ox + k, none⟩ = some (.int .i64 x)) w') := hide fun w' hb' => ⟨hb', ⟨(LC.below hb' LC.lt).cell 0 rfl, (LC.below hb' LC.lt).cell 1 rfl⟩, (hb'.cell (p := ⟨bx, ox + k, none⟩) (cell_lt cx)).trans cx⟩
        go_upto_region 15 with fail
        have bA : Below wo.heap.size wo wo.drew := Below.drew (Below.refl _ _)
        refine wp_region_noPanic ?_
        refine wp_region_held_drew (S := fun w' => Below wo.heap.size wo w' ∧ (w'.cell? ⟨w2.heap.size, 0, none⟩ = some (.int .i64 n) ∧ w'.cell? ⟨w2.heap.size, 1, none⟩ = some (.int .i64 f)) ∧ w'.cell? ⟨bx, ox + k, none⟩ = some (.int .i64 x)) (by kernel_rfl) (unhide K _ bA) (fun hHeld => ?_)
        refine take_at (i := 0) (d := 119) (v := ?_) rfl rfl (by kernel_rfl) (by kernel_rfl) (by kernel_rfl) (fun _ _ _ h => h) (Or.inl ⟨by rfl, ?_⟩) (by assumption) ?_
        rotate_left
        · intro w hSw
          try dsimp only at hSw
          go_simp
          try with_reducible rfl
        simp only [Act.put, List.setIfInBounds_toArray, List.set_cons_zero, List.set_cons_succ]
        refine take_at (i := 1) (d := 120) (v := ?_) rfl rfl (by kernel_rfl) (by kernel_rfl) (by kernel_rfl) (fun _ _ _ h => h) (Or.inl ⟨by rfl, ?_⟩) (by assumption) ?_
        rotate_left
        · intro w hSw
          try dsimp only at hSw
          go_simp
          try with_reducible rfl
        simp only [Act.put, List.setIfInBounds_toArray, List.set_cons_zero, List.set_cons_succ]
        refine take_at (i := 2) (d := 121) (v := ?_) rfl rfl (by kernel_rfl) (by kernel_rfl) (by kernel_rfl) (fun _ _ _ h => h) (Or.inl ⟨by rfl, ?_⟩) (by assumption) ?_
        rotate_left
        · intro w hSw
          try dsimp only at hSw
          go_simp
          try with_reducible rfl
        simp only [Act.put, List.setIfInBounds_toArray, List.set_cons_zero, List.set_cons_succ]
        refine take_at (i := 3) (d := 122) (v := ?_) rfl rfl (by kernel_rfl) (by kernel_rfl) (by kernel_rfl) (fun _ _ _ h => h) (Or.inl ⟨by rfl, ?_⟩) (by assumption) ?_
        rotate_left
        · intro w hSw
          try dsimp only at hSw
          go_simp
          try with_reducible rfl
        simp only [Act.put, List.setIfInBounds_toArray, List.set_cons_zero, List.set_cons_succ]
        refine take_at (i := 7) (d := 126) (v := ?_) rfl rfl (by kernel_rfl) (by kernel_rfl) (by kernel_rfl) (fun _ _ _ h => h) (Or.inl ⟨by rfl, ?_⟩) (by assumption) ?_
        rotate_left
        · intro w hSw
          try dsimp only at hSw
          go_simp
          try with_reducible rfl
        simp only [Act.put, List.setIfInBounds_toArray, List.set_cons_zero, List.set_cons_succ]
        refine take_at (i := 4) (d := 123) (v := ?_) rfl rfl (by kernel_rfl) (by kernel_rfl) (by kernel_rfl) (fun _ _ _ h => h) (Or.inl ⟨by rfl, ?_⟩) (by assumption) ?_
        rotate_left
        · intro w hSw
          try dsimp only at hSw
          go_simp
          try with_reducible rfl
        simp only [Act.put, List.setIfInBounds_toArray, List.set_cons_zero, List.set_cons_succ]
        refine take_at (i := 5) (d := 124) (v := ?_) rfl rfl (by kernel_rfl) (by kernel_rfl) (by kernel_rfl) (fun _ _ _ h => h) (Or.inl ⟨by rfl, ?_⟩) (by assumption) ?_
        rotate_left
        · intro w hSw
          try dsimp only at hSw
          go_simp
          try with_reducible rfl
        simp only [Act.put, List.setIfInBounds_toArray, List.set_cons_zero, List.set_cons_succ]
        refine ready_at (i := 6) rfl (by kernel_rfl) (fun KK hKK => ?_)
        go_simp
        have hgo := bA
        refine (unhide IX _).mono ?_
        rintro e wz15_1 ⟨uX, rfl, oX, bb⟩
        have bz1 : Below wo.heap.size wo wz15_1 := bA.trans (bb.mono bA.size)
        have RX := hide (oX.ri (by omega))
        clear oX
        clear bA hgo bb
        clear hHeld
        refine hKK.out _ _ (unhide K _ bz1) (fun hHeld => ?_)
        clear hKK KK
        refine ready_at (i := 8) rfl (by kernel_rfl) (fun KK hKK => ?_)
        go_simp
        have hgo := bz1
        refine (unhide LW _ _ (unhide RX)).mono ?_
        rintro e wz15_2 ⟨rfl, bb⟩
        have bz2 : Below wo.heap.size wo wz15_2 := bz1.trans (bb.mono bz1.size)
        clear bz1 hgo bb
        clear hHeld
        refine hKK.out _ _ (unhide K _ bz2) (fun hHeld => ?_)
        clear hKK KK
        refine take_at (i := 9) (d := 128) (v := ?_) rfl rfl (by kernel_rfl) (by kernel_rfl) (by kernel_rfl) (fun _ _ _ h => h) (Or.inl ⟨by rfl, ?_⟩) (by assumption) ?_
        rotate_left
        · intro w hSw
          try dsimp only at hSw
          go_simp
          try with_reducible rfl
        simp only [Act.put, List.setIfInBounds_toArray, List.set_cons_zero, List.set_cons_succ]
        clear hHeld
        refine wpAnyH_done (by kernel_rfl) ?_ _
        refine NoPanic.normal ?_
        have bb := bz2
        have Bwz15_2 := Bwo.trans (bb.mono Bwo.size)
        have swz15_2 := bb.size
        replace LC := LC.below bb LC.lt
        replace oW := oW.below bb
        replace oU := oU.below bb
        replace oK := oK.below bb
        replace Br := Br.trans (bb.mono Br.size)
        clear Bwo
        clear bb bz2 K
        go_wp2
        go_roundw
        case rel => exact ⟨_, _, _, _, _, _, _, _, _, _, _, _, _, _, _, _, _, _, ⟨k + 1, by omega, by go_num, Br⟩, rfl⟩
        case measure => simp [intOf]; omega
      · clear Br
        go_wp2
        go_loopw [13] (fun j wq => ∃ k : Nat, k ≤ ks.length ∧ j = .int .i64 k ∧ Below wo.heap.size wo wq) (fun j _ => ks.length - (intOf j).toNat)
        case atStart => exact ⟨0, by omega, rfl, Below.refl _ _⟩
        case round =>
          clear hlt hk
          obtain ⟨k, hk, rfl, bb⟩ := hrel
          have Bq := bb
          have Bwr := Bwo.trans (bb.mono Bwo.size)
          have swr := bb.size
          replace LC := LC.below bb LC.lt
          replace oW := oW.below bb
          replace oU := oU.below bb
          replace oK := oK.below bb
          clear Bwo
          clear bb
          by_cases hlt : k < ks.length
          · obtain ⟨bx, ox, ex, cx⟩ := (oK.ri (by omega)).at k hlt
            subst ex
            have hmem : ks.getD k 0 ∈ ks := getD_mem_int hlt
            generalize ks.getD k 0 = x at *
            have IX := hide fun w => implUp n f v x w
            rw [unhide F3 x hmem] at IX
            have hin := unhide G5 x hmem
            have LW := hide fun u w h => lwithin_yes u us x w h hin
            have RU := hide fun w' (hb' : Below wr.heap.size wr w') => (oU.below hb').ri (by omega)
            have K : Hid (∀ w', Below wr.heap.size wr w' → (fun w' => Below wr.heap.size wr w' ∧ (w'.cell? ⟨w2.heap.size, 0, none⟩ = some (.int .i64 n) ∧ w'.cell? ⟨w2.heap.size, 1, none⟩ = some (.int .i64 f)) ∧ w'.cell? ⟨bx, ox + k, none⟩ = some (.int .i64 x)) w') := hide fun w' hb' => ⟨hb', ⟨(LC.below hb' LC.lt).cell 0 rfl, (LC.below hb' LC.lt).cell 1 rfl⟩, (hb'.cell (p := ⟨bx, ox + k, none⟩) (cell_lt cx)).trans cx⟩
            go_upto_region 20 with fail
            have bA : Below wr.heap.size wr wr.drew := Below.drew (Below.refl _ _)
            refine wp_region_noPanic ?_
            refine wp_region_held_drew (S := fun w' => Below wr.heap.size wr w' ∧ (w'.cell? ⟨w2.heap.size, 0, none⟩ = some (.int .i64 n) ∧ w'.cell? ⟨w2.heap.size, 1, none⟩ = some (.int .i64 f)) ∧ w'.cell? ⟨bx, ox + k, none⟩ = some (.int .i64 x)) (by kernel_rfl) (unhide K _ bA) (fun hHeld => ?_)
            refine take_at (i := 0) (d := 135) (v := ?_) rfl rfl (by kernel_rfl) (by kernel_rfl) (by kernel_rfl) (fun _ _ _ h => h) (Or.inl ⟨by rfl, ?_⟩) (by assumption) ?_
            rotate_left
            · intro w hSw
              try dsimp only at hSw
              go_simp
              try with_reducible rfl
            simp only [Act.put, List.setIfInBounds_toArray, List.set_cons_zero, List.set_cons_succ]
            refine take_at (i := 1) (d := 136) (v := ?_) rfl rfl (by kernel_rfl) (by kernel_rfl) (by kernel_rfl) (fun _ _ _ h => h) (Or.inl ⟨by rfl, ?_⟩) (by assumption) ?_
            rotate_left
            · intro w hSw
              try dsimp only at hSw
              go_simp
              try with_reducible rfl
            simp only [Act.put, List.setIfInBounds_toArray, List.set_cons_zero, List.set_cons_succ]
            refine take_at (i := 2) (d := 137) (v := ?_) rfl rfl (by kernel_rfl) (by kernel_rfl) (by kernel_rfl) (fun _ _ _ h => h) (Or.inl ⟨by rfl, ?_⟩) (by assumption) ?_
            rotate_left
            · intro w hSw
              try dsimp only at hSw
              go_simp
              try with_reducible rfl
            simp only [Act.put, List.setIfInBounds_toArray, List.set_cons_zero, List.set_cons_succ]
            refine take_at (i := 3) (d := 138) (v := ?_) rfl rfl (by kernel_rfl) (by kernel_rfl) (by kernel_rfl) (fun _ _ _ h => h) (Or.inl ⟨by rfl, ?_⟩) (by assumption) ?_
            rotate_left
            · intro w hSw
              try dsimp only at hSw
              go_simp
              try with_reducible rfl
            simp only [Act.put, List.setIfInBounds_toArray, List.set_cons_zero, List.set_cons_succ]
            refine take_at (i := 7) (d := 142) (v := ?_) rfl rfl (by kernel_rfl) (by kernel_rfl) (by kernel_rfl) (fun _ _ _ h => h) (Or.inl ⟨by rfl, ?_⟩) (by assumption) ?_
            rotate_left
            · intro w hSw
              try dsimp only at hSw
              go_simp
              try with_reducible rfl
            simp only [Act.put, List.setIfInBounds_toArray, List.set_cons_zero, List.set_cons_succ]
            refine take_at (i := 4) (d := 139) (v := ?_) rfl rfl (by kernel_rfl) (by kernel_rfl) (by kernel_rfl) (fun _ _ _ h => h) (Or.inl ⟨by rfl, ?_⟩) (by assumption) ?_
            rotate_left
            · intro w hSw
              try dsimp only at hSw
              go_simp
              try with_reducible rfl
            simp only [Act.put, List.setIfInBounds_toArray, List.set_cons_zero, List.set_cons_succ]
            refine take_at (i := 5) (d := 140) (v := ?_) rfl rfl (by kernel_rfl) (by kernel_rfl) (by kernel_rfl) (fun _ _ _ h => h) (Or.inl ⟨by rfl, ?_⟩) (by assumption) ?_
            rotate_left
            · intro w hSw
              try dsimp only at hSw
              go_simp
              try with_reducible rfl
            simp only [Act.put, List.setIfInBounds_toArray, List.set_cons_zero, List.set_cons_succ]
            refine ready_at (i := 6) rfl (by kernel_rfl) (fun KK hKK => ?_)
            go_simp
            have hgo := bA
            refine (unhide IX _).mono ?_
            rintro e wz20_1 ⟨rfl, bb⟩
            have bz1 : Below wr.heap.size wr wz20_1 := bA.trans (bb.mono bA.size)
            clear bA hgo bb
            clear hHeld
            refine hKK.out _ _ (unhide K _ bz1) (fun hHeld => ?_)
            clear hKK KK
            refine take_at (i := 8) (d := 143) (v := ?_) rfl rfl (by kernel_rfl) (by kernel_rfl) (by kernel_rfl) (fun _ _ _ h => h) (Or.inl ⟨by rfl, ?_⟩) (by assumption) ?_
            rotate_left
            · intro w hSw
              try dsimp only at hSw
              go_simp
              try with_reducible rfl
            simp only [Act.put, List.setIfInBounds_toArray, List.set_cons_zero, List.set_cons_succ]
            refine take_at (i := 9) (d := 144) (v := ?_) rfl rfl (by kernel_rfl) (by kernel_rfl) (by kernel_rfl) (fun _ _ _ h => h) (Or.inl ⟨by rfl, ?_⟩) (by assumption) ?_
            rotate_left
            · intro w hSw
              try dsimp only at hSw
              go_simp
              try with_reducible rfl
            simp only [Act.put, List.setIfInBounds_toArray, List.set_cons_zero, List.set_cons_succ]
            refine take_at (i := 10) (d := 145) (v := ?_) rfl rfl (by kernel_rfl) (by kernel_rfl) (by kernel_rfl) (fun _ _ _ h => h) (Or.inl ⟨by rfl, ?_⟩) (by assumption) ?_
            rotate_left
            · intro w hSw
              try dsimp only at hSw
              go_simp
              try with_reducible rfl
            simp only [Act.put, List.setIfInBounds_toArray, List.set_cons_zero, List.set_cons_succ]
            refine take_at (i := 11) (d := 146) (v := ?_) rfl rfl (by kernel_rfl) (by kernel_rfl) (by kernel_rfl) (fun _ _ _ h => h) (Or.inl ⟨by rfl, ?_⟩) (by assumption) ?_
            rotate_left
            · intro w hSw
              try dsimp only at hSw
              go_simp
              try with_reducible rfl
            simp only [Act.put, List.setIfInBounds_toArray, List.set_cons_zero, List.set_cons_succ]
            refine take_at (i := 12) (d := 147) (v := ?_) rfl rfl (by kernel_rfl) (by kernel_rfl) (by kernel_rfl) (fun _ _ _ h => h) (Or.inl ⟨by rfl, ?_⟩) (by assumption) ?_
            rotate_left
            · intro w hSw
              try dsimp only at hSw
              go_simp
              try with_reducible rfl
            simp only [Act.put, List.setIfInBounds_toArray, List.set_cons_zero, List.set_cons_succ]
            refine take_at (i := 13) (d := 148) (v := ?_) rfl rfl (by kernel_rfl) (by kernel_rfl) (by kernel_rfl) (fun _ _ _ h => h) (Or.inl ⟨by rfl, ?_⟩) (by assumption) ?_
            rotate_left
            · intro w hSw
              try dsimp only at hSw
              go_simp
              try with_reducible rfl
            simp only [Act.put, List.setIfInBounds_toArray, List.set_cons_zero, List.set_cons_succ]
            refine take_at (i := 14) (d := 149) (v := ?_) rfl rfl (by kernel_rfl) (by kernel_rfl) (by kernel_rfl) (fun _ _ _ h => h) (Or.inl ⟨by rfl, ?_⟩) (by assumption) ?_
            rotate_left
            · intro w hSw
              try dsimp only at hSw
              go_simp
              try with_reducible rfl
            simp only [Act.put, List.setIfInBounds_toArray, List.set_cons_zero, List.set_cons_succ]
            refine ready_at (i := 15) rfl (by kernel_rfl) (fun KK hKK => ?_)
            go_simp
            have hgo := bz1
            refine (unhide LW _ _ (unhide RU _ hgo)).mono ?_
            rintro e wz20_2 ⟨rfl, bb⟩
            have bz2 : Below wr.heap.size wr wz20_2 := bz1.trans (bb.mono bz1.size)
            clear RU
            clear bz1 hgo bb
            clear hHeld
            refine hKK.out _ _ (unhide K _ bz2) (fun hHeld => ?_)
            clear hKK KK
            refine take_at (i := 16) (d := 151) (v := ?_) rfl rfl (by kernel_rfl) (by kernel_rfl) (by kernel_rfl) (fun _ _ _ h => h) (Or.inl ⟨by rfl, ?_⟩) (by assumption) ?_
            rotate_left
            · intro w hSw
              try dsimp only at hSw
              go_simp
              try with_reducible rfl
            simp only [Act.put, List.setIfInBounds_toArray, List.set_cons_zero, List.set_cons_succ]
            refine take_at (i := 17) (d := 152) (v := ?_) rfl rfl (by kernel_rfl) (by kernel_rfl) (by kernel_rfl) (fun _ _ _ h => h) (Or.inl ⟨by rfl, ?_⟩) (by assumption) ?_
            rotate_left
            · intro w hSw
              try dsimp only at hSw
              go_simp
              try with_reducible rfl
            simp only [Act.put, List.setIfInBounds_toArray, List.set_cons_zero, List.set_cons_succ]
            clear hHeld
            refine wpAnyH_done (by kernel_rfl) ?_ _
            refine NoPanic.normal ?_
            have bb := bz2
            have Bwz20_2 := Bwr.trans (bb.mono Bwr.size)
            have swz20_2 := bb.size
            replace LC := LC.below bb LC.lt
            replace oW := oW.below bb
            replace oU := oU.below bb
            replace oK := oK.below bb
            replace Bq := Bq.trans (bb.mono Bq.size)
            clear Bwr
            clear bb bz2 K
            go_wp2
            go_roundw
            case rel => exact ⟨_, _, _, _, _, _, _, _, _, _, _, _, _, _, _, _, _, _, _, _, _, _, _, _, _, _, ⟨k + 1, by omega, by go_num, Bq⟩, rfl⟩
            case measure => simp [intOf]; omega
          · have cw : RI wr (.slice aoW (m + 1) koW) ws := by have := oW.ri (by omega); rwa [unhide HM] at this
            obtain ⟨bw, ow, ew, c0⟩ := cw.at 0 (by rw [unhide HM]; omega)
            subst ew
            obtain ⟨bw', ow', ew, c1⟩ := cw.at m (by rw [unhide HM]; omega)
            obtain ⟨rfl, rfl⟩ : bw = bw' ∧ ow = ow' := by injection ew with e; injection e with e1 e2; exact ⟨e1, e2⟩
            have g0 : ws.getD 0 0 = i := by have h := unhide G1; rw [List.getD_eq_getElem?_getD, ← List.head?_eq_getElem?, h]; rfl
            have g1 : ws.getD m 0 = r := by have h := unhide G2; rw [List.getLast?_eq_getElem?, unhide HM] at h; rw [List.getD_eq_getElem?_getD]; simpa using congrArg (·.getD 0) h
            rw [g0, Nat.add_zero] at c0
            rw [g1] at c1
            clear cw g0 g1 ew
            have hwm : IntKind.i64.wrap (m : Int) = m := by simp only [IntKind.wrap_i64]; omega
            have hd1 : decide (((m : Int) + 1) ≤ n) = true := by simp; omega
            have hd3 : decide (((m + 1 : Nat) : Int) ≤ n) = true := by simp; omega
            have hd2 : decide ((ks.length : Int) ≤ f) = true := by simp; omega
            have K : Hid (∀ w', Below wr.heap.size wr w' → (fun w' => Below wr.heap.size wr w' ∧ (w'.cell? ⟨w2.heap.size, 0, none⟩ = some (.int .i64 n) ∧ w'.cell? ⟨w2.heap.size, 1, none⟩ = some (.int .i64 f)) ∧ w'.cell? ⟨bw, ow, none⟩ = some (.int .i64 i) ∧ w'.cell? ⟨bw, ow + m, none⟩ = some (.int .i64 r)) w') := hide fun w' hb' => ⟨hb', ⟨(LC.below hb' LC.lt).cell 0 rfl, (LC.below hb' LC.lt).cell 1 rfl⟩, (hb'.cell (p := ⟨bw, ow, none⟩) (cell_lt c0)).trans c0, (hb'.cell (p := ⟨bw, ow + m, none⟩) (cell_lt c1)).trans c1⟩
            go_upto_region 22 with fail
            have bA : Below wr.heap.size wr wr.drew := Below.drew (Below.refl _ _)
            refine wp_region_noPanic ?_
            refine wp_region_held_drew (S := fun w' => Below wr.heap.size wr w' ∧ (w'.cell? ⟨w2.heap.size, 0, none⟩ = some (.int .i64 n) ∧ w'.cell? ⟨w2.heap.size, 1, none⟩ = some (.int .i64 f)) ∧ w'.cell? ⟨bw, ow, none⟩ = some (.int .i64 i) ∧ w'.cell? ⟨bw, ow + m, none⟩ = some (.int .i64 r)) (by kernel_rfl) (unhide K _ bA) (fun hHeld => ?_)
            refine take_at (i := 0) (d := 153) (v := ?_) rfl rfl (by kernel_rfl) (by kernel_rfl) (by kernel_rfl) (fun _ _ _ h => h) (Or.inl ⟨by rfl, ?_⟩) (by assumption) ?_
            rotate_left
            · intro w hSw
              try dsimp only at hSw
              go_simp
              try with_reducible rfl
            simp only [Act.put, List.setIfInBounds_toArray, List.set_cons_zero, List.set_cons_succ]
            refine take_at (i := 3) (d := 156) (v := ?_) rfl rfl (by kernel_rfl) (by kernel_rfl) (by kernel_rfl) (fun _ _ _ h => h) (Or.inl ⟨by rfl, ?_⟩) (by assumption) ?_
            rotate_left
            · intro w hSw
              try dsimp only at hSw
              go_simp
              try with_reducible rfl
            simp only [Act.put, List.setIfInBounds_toArray, List.set_cons_zero, List.set_cons_succ]
            refine take_at (i := 1) (d := 154) (v := ?_) rfl rfl (by kernel_rfl) (by kernel_rfl) (by kernel_rfl) (fun _ _ _ h => h) (Or.inl ⟨by rfl, ?_⟩) (by assumption) ?_
            rotate_left
            · intro w hSw
              try dsimp only at hSw
              go_simp
              try with_reducible rfl
            simp only [Act.put, List.setIfInBounds_toArray, List.set_cons_zero, List.set_cons_succ]
            refine take_at (i := 2) (d := 155) (v := ?_) rfl rfl (by kernel_rfl) (by kernel_rfl) (by kernel_rfl) (fun _ _ _ h => h) (Or.inl ⟨by rfl, ?_⟩) (by assumption) ?_
            rotate_left
            · intro w hSw
              try dsimp only at hSw
              go_simp
              try with_reducible rfl
            simp only [Act.put, List.setIfInBounds_toArray, List.set_cons_zero, List.set_cons_succ]
            refine take_at (i := 4) (d := 157) (v := ?_) rfl rfl (by kernel_rfl) (by kernel_rfl) (by kernel_rfl) (fun _ _ _ h => h) (Or.inl ⟨by rfl, ?_⟩) (by assumption) ?_
            rotate_left
            · intro w hSw
              try dsimp only at hSw
              go_simp
              try with_reducible rfl
            simp only [Act.put, List.setIfInBounds_toArray, List.set_cons_zero, List.set_cons_succ]
            refine take_at (i := 5) (d := 158) (v := ?_) rfl rfl (by kernel_rfl) (by kernel_rfl) (by kernel_rfl) (fun _ _ _ h => h) (Or.inl ⟨by rfl, ?_⟩) (by assumption) ?_
            rotate_left
            · intro w hSw
              try dsimp only at hSw
              go_simp
              try with_reducible rfl
            simp only [Act.put, List.setIfInBounds_toArray, List.set_cons_zero, List.set_cons_succ]
            refine take_at (i := 6) (d := 159) (v := ?_) rfl rfl (by kernel_rfl) (by kernel_rfl) (by kernel_rfl) (fun _ _ _ h => h) (Or.inl ⟨by rfl, ?_⟩) (by assumption) ?_
            rotate_left
            · intro w hSw
              try dsimp only at hSw
              go_simp
              try with_reducible rfl
            simp only [Act.put, List.setIfInBounds_toArray, List.set_cons_zero, List.set_cons_succ]
            refine take_at (i := 7) (d := 160) (v := ?_) rfl rfl (by kernel_rfl) (by kernel_rfl) (by kernel_rfl) (fun _ _ _ h => h) (Or.inl ⟨by rfl, ?_⟩) (by assumption) ?_
            rotate_left
            · intro w hSw
              try dsimp only at hSw
              go_simp
              try with_reducible rfl
            simp only [Act.put, List.setIfInBounds_toArray, List.set_cons_zero, List.set_cons_succ]
            refine take_at (i := 12) (d := 165) (v := ?_) rfl rfl (by kernel_rfl) (by kernel_rfl) (by kernel_rfl) (fun _ _ _ h => h) (Or.inl ⟨by rfl, ?_⟩) (by assumption) ?_
            rotate_left
            · intro w hSw
              try dsimp only at hSw
              go_simp
              try with_reducible rfl
            simp only [Act.put, List.setIfInBounds_toArray, List.set_cons_zero, List.set_cons_succ]
            refine take_at (i := 13) (d := 166) (v := ?_) rfl rfl (by kernel_rfl) (by kernel_rfl) (by kernel_rfl) (fun _ _ _ h => h) (Or.inl ⟨by rfl, ?_⟩) (by assumption) ?_
            rotate_left
            · intro w hSw
              try dsimp only at hSw
              go_simp
              try with_reducible rfl
            simp only [Act.put, List.setIfInBounds_toArray, List.set_cons_zero, List.set_cons_succ]
            refine take_at (i := 8) (d := 161) (v := ?_) rfl rfl (by kernel_rfl) (by kernel_rfl) (by kernel_rfl) (fun _ _ _ h => h) (Or.inl ⟨by rfl, ?_⟩) (by assumption) ?_
            rotate_left
            · intro w hSw
              try dsimp only at hSw
              go_simp
              try with_reducible rfl
            simp only [Act.put, List.setIfInBounds_toArray, List.set_cons_zero, List.set_cons_succ]
            refine take_at (i := 9) (d := 162) (v := ?_) rfl rfl (by kernel_rfl) (by kernel_rfl) (by kernel_rfl) (fun _ _ _ h => h) (Or.inl ⟨by rfl, ?_⟩) (by assumption) ?_
            rotate_left
            · intro w hSw
              try dsimp only at hSw
              go_simp
              try with_reducible rfl
            simp only [Act.put, List.setIfInBounds_toArray, List.set_cons_zero, List.set_cons_succ]
            refine take_at (i := 10) (d := 163) (v := ?_) rfl rfl (by kernel_rfl) (by kernel_rfl) (by kernel_rfl) (fun _ _ _ h => h) (Or.inl ⟨by rfl, ?_⟩) (by assumption) ?_
            rotate_left
            · intro w hSw
              try dsimp only at hSw
              go_simp
              rw [if_pos (by omega)]
              try with_reducible rfl
            simp only [Act.put, List.setIfInBounds_toArray, List.set_cons_zero, List.set_cons_succ]
            refine take_at (i := 11) (d := 164) (v := ?_) rfl rfl (by kernel_rfl) (by kernel_rfl) (by kernel_rfl) (fun _ _ _ h => h) (Or.inl ⟨by rfl, ?_⟩) (by assumption) ?_
            rotate_left
            · intro w hSw
              try dsimp only at hSw
              go_simp
              try with_reducible rfl
            simp only [Act.put, List.setIfInBounds_toArray, List.set_cons_zero, List.set_cons_succ]
            refine ready_at (i := 14) rfl (by kernel_rfl) (fun KK hKK => ?_)
            go_simp
            have hgo := bA
            refine (unhide IR _).mono ?_
            rintro e wz22_1 ⟨rfl, bb⟩
            have bz1 : Below wr.heap.size wr wz22_1 := bA.trans (bb.mono bA.size)
            clear bA hgo bb
            clear hHeld
            refine hKK.out _ _ (unhide K _ bz1) (fun hHeld => ?_)
            clear hKK KK
            refine take_at (i := 15) (d := 168) (v := ?_) rfl rfl (by kernel_rfl) (by kernel_rfl) (by kernel_rfl) (fun _ _ _ h => h) (Or.inl ⟨by rfl, ?_⟩) (by assumption) ?_
            rotate_left
            · intro w hSw
              try dsimp only at hSw
              go_simp
              try with_reducible rfl
            simp only [Act.put, List.setIfInBounds_toArray, List.set_cons_zero, List.set_cons_succ]
            refine take_at (i := 16) (d := 169) (v := ?_) rfl rfl (by kernel_rfl) (by kernel_rfl) (by kernel_rfl) (fun _ _ _ h => h) (Or.inl ⟨by rfl, ?_⟩) (by assumption) ?_
            rotate_left
            · intro w hSw
              try dsimp only at hSw
              go_simp
              try with_reducible rfl
            simp only [Act.put, List.setIfInBounds_toArray, List.set_cons_zero, List.set_cons_succ]
            refine take_at (i := 17) (d := 170) (v := ?_) rfl rfl (by kernel_rfl) (by kernel_rfl) (by kernel_rfl) (fun _ _ _ h => h) (Or.inl ⟨by rfl, ?_⟩) (by assumption) ?_
            rotate_left
            · intro w hSw
              try dsimp only at hSw
              go_simp
              try with_reducible rfl
            simp only [Act.put, List.setIfInBounds_toArray, List.set_cons_zero, List.set_cons_succ]
            refine take_at (i := 18) (d := 171) (v := ?_) rfl rfl (by kernel_rfl) (by kernel_rfl) (by kernel_rfl) (fun _ _ _ h => h) (Or.inl ⟨by rfl, ?_⟩) (by assumption) ?_
            rotate_left
            · intro w hSw
              try dsimp only at hSw
              go_simp
              try with_reducible rfl
            simp only [Act.put, List.setIfInBounds_toArray, List.set_cons_zero, List.set_cons_succ]
            refine take_at (i := 20) (d := 173) (v := ?_) rfl rfl (by kernel_rfl) (by kernel_rfl) (by kernel_rfl) (fun _ _ _ h => h) (Or.inl ⟨by rfl, ?_⟩) (by assumption) ?_
            rotate_left
            · intro w hSw
              try dsimp only at hSw
              go_simp
              try with_reducible rfl
            simp only [Act.put, List.setIfInBounds_toArray, List.set_cons_zero, List.set_cons_succ]
            refine take_at (i := 19) (d := 172) (v := ?_) rfl rfl (by kernel_rfl) (by kernel_rfl) (by kernel_rfl) (fun _ _ _ h => h) (Or.inl ⟨by rfl, ?_⟩) (by assumption) ?_
            rotate_left
            · intro w hSw
              try dsimp only at hSw
              go_simp
              try with_reducible rfl
            simp only [Act.put, List.setIfInBounds_toArray, List.set_cons_zero, List.set_cons_succ]
            refine take_at (i := 21) (d := 174) (v := ?_) rfl rfl (by kernel_rfl) (by kernel_rfl) (by kernel_rfl) (fun _ _ _ h => h) (Or.inl ⟨by rfl, ?_⟩) (by assumption) ?_
            rotate_left
            · intro w hSw
              try dsimp only at hSw
              go_simp
              try with_reducible rfl
            simp only [Act.put, List.setIfInBounds_toArray, List.set_cons_zero, List.set_cons_succ]
            refine take_at (i := 22) (d := 175) (v := ?_) rfl rfl (by kernel_rfl) (by kernel_rfl) (by kernel_rfl) (fun _ _ _ h => h) (Or.inl ⟨by rfl, ?_⟩) (by assumption) ?_
            rotate_left
            · intro w hSw
              try dsimp only at hSw
              go_simp
              try with_reducible rfl
            simp only [Act.put, List.setIfInBounds_toArray, List.set_cons_zero, List.set_cons_succ]
            try first | simp only [hd1] | simp only [hd3]
            refine take_at (i := 23) (d := 176) (v := ?_) rfl rfl (by kernel_rfl) (by kernel_rfl) (by kernel_rfl) (fun _ _ _ h => h) (Or.inl ⟨by rfl, ?_⟩) (by assumption) ?_
            rotate_left
            · intro w hSw
              try dsimp only at hSw
              go_simp
              try with_reducible rfl
            simp only [Act.put, List.setIfInBounds_toArray, List.set_cons_zero, List.set_cons_succ]
            refine take_at (i := 24) (d := 177) (v := ?_) rfl rfl (by kernel_rfl) (by kernel_rfl) (by kernel_rfl) (fun _ _ _ h => h) (Or.inl ⟨by rfl, ?_⟩) (by assumption) ?_
            rotate_left
            · intro w hSw
              try dsimp only at hSw
              go_simp
              try with_reducible rfl
            simp only [Act.put, List.setIfInBounds_toArray, List.set_cons_zero, List.set_cons_succ]
            refine take_at (i := 25) (d := 178) (v := ?_) rfl rfl (by kernel_rfl) (by kernel_rfl) (by kernel_rfl) (fun _ _ _ h => h) (Or.inl ⟨by rfl, ?_⟩) (by assumption) ?_
            rotate_left
            · intro w hSw
              try dsimp only at hSw
              go_simp
              try with_reducible rfl
            simp only [Act.put, List.setIfInBounds_toArray, List.set_cons_zero, List.set_cons_succ]
            refine take_at (i := 27) (d := 180) (v := ?_) rfl rfl (by kernel_rfl) (by kernel_rfl) (by kernel_rfl) (fun _ _ _ h => h) (Or.inl ⟨by rfl, ?_⟩) (by assumption) ?_
            rotate_left
            · intro w hSw
              try dsimp only at hSw
              go_simp
              try with_reducible rfl
            simp only [Act.put, List.setIfInBounds_toArray, List.set_cons_zero, List.set_cons_succ]
            refine take_at (i := 26) (d := 179) (v := ?_) rfl rfl (by kernel_rfl) (by kernel_rfl) (by kernel_rfl) (fun _ _ _ h => h) (Or.inl ⟨by rfl, ?_⟩) (by assumption) ?_
            rotate_left
            · intro w hSw
              try dsimp only at hSw
              go_simp
              try with_reducible rfl
            simp only [Act.put, List.setIfInBounds_toArray, List.set_cons_zero, List.set_cons_succ]
            refine take_at (i := 28) (d := 181) (v := ?_) rfl rfl (by kernel_rfl) (by kernel_rfl) (by kernel_rfl) (fun _ _ _ h => h) (Or.inl ⟨by rfl, ?_⟩) (by assumption) ?_
            rotate_left
            · intro w hSw
              try dsimp only at hSw
              go_simp
              try with_reducible rfl
            simp only [Act.put, List.setIfInBounds_toArray, List.set_cons_zero, List.set_cons_succ]
            refine take_at (i := 29) (d := 182) (v := ?_) rfl rfl (by kernel_rfl) (by kernel_rfl) (by kernel_rfl) (fun _ _ _ h => h) (Or.inl ⟨by rfl, ?_⟩) (by assumption) ?_
            rotate_left
            · intro w hSw
              try dsimp only at hSw
              go_simp
              try with_reducible rfl
            simp only [Act.put, List.setIfInBounds_toArray, List.set_cons_zero, List.set_cons_succ]
            try simp only [hd2]
            refine take_at (i := 30) (d := 183) (v := ?_) rfl rfl (by kernel_rfl) (by kernel_rfl) (by kernel_rfl) (fun _ _ _ h => h) (Or.inl ⟨by rfl, ?_⟩) (by assumption) ?_
            rotate_left
            · intro w hSw
              try dsimp only at hSw
              go_simp
              try with_reducible rfl
            simp only [Act.put, List.setIfInBounds_toArray, List.set_cons_zero, List.set_cons_succ]
            refine take_at (i := 31) (d := 184) (v := ?_) rfl rfl (by kernel_rfl) (by kernel_rfl) (by kernel_rfl) (fun _ _ _ h => h) (Or.inl ⟨by rfl, ?_⟩) (by assumption) ?_
            rotate_left
            · intro w hSw
              try dsimp only at hSw
              go_simp
              try with_reducible rfl
            simp only [Act.put, List.setIfInBounds_toArray, List.set_cons_zero, List.set_cons_succ]
            refine take_at (i := 32) (d := 185) (v := ?_) rfl rfl (by kernel_rfl) (by kernel_rfl) (by kernel_rfl) (fun _ _ _ h => h) (Or.inl ⟨by rfl, ?_⟩) (by assumption) ?_
            rotate_left
            · intro w hSw
              try dsimp only at hSw
              go_simp
              try with_reducible rfl
            simp only [Act.put, List.setIfInBounds_toArray, List.set_cons_zero, List.set_cons_succ]
            refine take_at (i := 33) (d := 186) (v := ?_) rfl rfl (by kernel_rfl) (by kernel_rfl) (by kernel_rfl) (fun _ _ _ h => h) (Or.inl ⟨by rfl, ?_⟩) (by assumption) ?_
            rotate_left
            · intro w hSw
              try dsimp only at hSw
              go_simp
              try with_reducible rfl
            simp only [Act.put, List.setIfInBounds_toArray, List.set_cons_zero, List.set_cons_succ]
            refine take_at (i := 34) (d := 187) (v := ?_) rfl rfl (by kernel_rfl) (by kernel_rfl) (by kernel_rfl) (fun _ _ _ h => h) (Or.inl ⟨by rfl, ?_⟩) (by assumption) ?_
            rotate_left
            · intro w hSw
              try dsimp only at hSw
              go_simp
              try with_reducible rfl
            simp only [Act.put, List.setIfInBounds_toArray, List.set_cons_zero, List.set_cons_succ]
            refine take_at (i := 35) (d := 188) (v := ?_) rfl rfl (by kernel_rfl) (by kernel_rfl) (by kernel_rfl) (fun _ _ _ h => h) (Or.inl ⟨by rfl, ?_⟩) (by assumption) ?_
            rotate_left
            · intro w hSw
              try dsimp only at hSw
              go_simp
              try with_reducible rfl
            simp only [Act.put, List.setIfInBounds_toArray, List.set_cons_zero, List.set_cons_succ]
            refine take_at (i := 36) (d := 189) (v := ?_) rfl rfl (by kernel_rfl) (by kernel_rfl) (by kernel_rfl) (fun _ _ _ h => h) (Or.inl ⟨by rfl, ?_⟩) (by assumption) ?_
            rotate_left
            · intro w hSw
              try dsimp only at hSw
              go_simp
              try with_reducible rfl
            simp only [Act.put, List.setIfInBounds_toArray, List.set_cons_zero, List.set_cons_succ]
            refine take_at (i := 39) (d := 192) (v := ?_) rfl rfl (by kernel_rfl) (by kernel_rfl) (by kernel_rfl) (fun _ _ _ h => h) (Or.inl ⟨by rfl, ?_⟩) (by assumption) ?_
            rotate_left
            · intro w hSw
              try dsimp only at hSw
              go_simp
              try with_reducible rfl
            simp only [Act.put, List.setIfInBounds_toArray, List.set_cons_zero, List.set_cons_succ]
            refine ready_at (i := 37) rfl (by kernel_rfl) (fun KK hKK => ?_)
            go_simp
            have hgo := bz1
            refine (unhide IE _).mono ?_
            rintro e wz22_2 ⟨rfl, bb⟩
            have bz2 : Below wr.heap.size wr wz22_2 := bz1.trans (bb.mono bz1.size)
            clear bz1 hgo bb
            clear hHeld
            refine hKK.out _ _ (unhide K _ bz2) (fun hHeld => ?_)
            clear hKK KK
            refine ready_at (i := 38) rfl (by kernel_rfl) (fun KK hKK => ?_)
            go_simp
            have hgo := bz2
            refine (unhide SS _).mono ?_
            rintro e wz22_3 ⟨rfl, bb⟩
            have bz3 : Below wr.heap.size wr wz22_3 := bz2.trans (bb.mono bz2.size)
            clear bz2 hgo bb
            clear hHeld
            refine hKK.out _ _ (unhide K _ bz3) (fun hHeld => ?_)
            clear hKK KK
            refine take_at (i := 40) (d := 193) (v := ?_) rfl rfl (by kernel_rfl) (by kernel_rfl) (by kernel_rfl) (fun _ _ _ h => h) (Or.inl ⟨by rfl, ?_⟩) (by assumption) ?_
            rotate_left
            · intro w hSw
              try dsimp only at hSw
              go_simp
              try with_reducible rfl
            simp only [Act.put, List.setIfInBounds_toArray, List.set_cons_zero, List.set_cons_succ]
            refine take_at (i := 41) (d := 194) (v := ?_) rfl rfl (by kernel_rfl) (by kernel_rfl) (by kernel_rfl) (fun _ _ _ h => h) (Or.inl ⟨by rfl, ?_⟩) (by assumption) ?_
            rotate_left
            · intro w hSw
              try dsimp only at hSw
              go_simp
              try with_reducible rfl
            simp only [Act.put, List.setIfInBounds_toArray, List.set_cons_zero, List.set_cons_succ]
            refine take_at (i := 42) (d := 2) (v := ?_) rfl rfl (by kernel_rfl) (by kernel_rfl) (by kernel_rfl) (fun _ _ _ h => h) (Or.inl ⟨by rfl, ?_⟩) (by assumption) ?_
            rotate_left
            · intro w hSw
              try dsimp only at hSw
              go_simp
              try with_reducible rfl
            simp only [Act.put, List.setIfInBounds_toArray, List.set_cons_zero, List.set_cons_succ]
            clear hHeld
            refine wpAnyH_done (by kernel_rfl) ?_ _
            refine NoPanic.normal ?_
            have bb := bz3
            have Bwz22_3 := Bwr.trans (bb.mono Bwr.size)
            have swz22_3 := bb.size
            replace LC := LC.below bb LC.lt
            replace oW := oW.below bb
            replace oU := oU.below bb
            replace oK := oK.below bb
            replace Bq := Bq.trans (bb.mono Bq.size)
            clear Bwr
            clear bb bz3 K
            go_wp2
            go_ret
            exact ⟨rfl, Bwz22_3⟩
  · obtain ⟨e1, e2⟩ := unhide F0 hp
    subst e1 e2
    go_wp2
    go_ret
    exact ⟨rfl, Bwz8_14⟩
set_option maxHeartbeats 8000000 in
set_option maxRecDepth 100000 in
theorem fnTrees_long (ao : Option Addr) (n ca : Nat) (w : World) (h : 1048576 < n) (hm : n ≤ maxLen) :
    Calls Try.prog 3 #[.slice ao n ca] w fun e w' => e = .returned (.bool true) ∧ Below w.heap.size w w' := by
  have BG := hide fun w => big_any ao n ca w (by unfold maxLen at hm; omega)
  rw [decide_eq_true h] at BG
  go_enter Try.func3, Try.ntmps3
  go_wp2_with fail
  refine (unhide BG _).mono ?_
  rintro _ w1 ⟨rfl, b1⟩
  go_wp2
  go_ret
  exact ⟨rfl, b1⟩
theorem fnTrees_walk (ao : Option Addr) (ca : Nat) (zs : List Int) (w : World) (hm : zs.length ≤ maxLen) (hx : zs = [] ∨ ∃ b off, ao = some ⟨b, off, none⟩ ∧ ∀ k, k < zs.length → w.cell? ⟨b, off + k, none⟩ = some (.int .u8 (zs.getD k 0))) (hf : ∀ k, k < zs.length → 0 ≤ zs.getD k 0 ∧ zs.getD k 0 ≤ 255) :
    Calls Try.prog 3 #[.slice ao zs.length ca] w fun e w' => e = .returned (.bool true) ∧ Below w.heap.size w w' := by
  by_cases h1 : zs.length ≤ 1048576
  · exact fnTrees_short ao ca zs w ⟨h1, hx, hf⟩
  · exact fnTrees_long ao _ ca w (by omega) hm
end Go.Proofs.Ytkjmkcipalmonaa
