/- The walk of laws.FnUnderAll. -/
import Derived.Test.YtkjmkcipalmonaaTreeKids
import Derived.Test.YtkjmkcipalmonaaTreeSpec
import Derived.Test.YtkjmkcipalmonaaTreeFacts
import Derived.Test.YtkjmkcipalmonaaDrawTree
import Derived.Test.YtkjmkcipalmonaaSameL
import Derived.Test.YtkjmkcipalmonaaCommonImpl
namespace Go.Proofs.Ytkjmkcipalmonaa
open Go.RowKit
set_option linter.unusedSectionVars false
variable [∀ (a b c d : Int), Decidable (Ok4 a b c d)]
variable [∀ (n f : Int), Decidable (COk n f)]
variable [∀ (n : Int) (s : List Int), Decidable (OkL n s)]

theorem underI_len (n f v i : Int) : (underI n f v i).length ≤ 7 := by
  unfold underI
  split
  · rename_i h
    have := picked_len (fun k => decide (i ∈ wayI n f v k)) n.toNat
    have := (hp_iff.1 h).1.1.2
    omega
  · simp
set_option maxHeartbeats 8000000 in
set_option maxRecDepth 100000 in
theorem fnUnderAll_short (ao : Option Addr) (ca : Nat) (zs : List Int) (w : World) (h : DCode w ao zs) :
    Calls Try.prog 5 #[.slice ao zs.length ca] w fun e w' => e = .returned (.bool true) ∧ Below w.heap.size w w' := by
  have BG := hide fun w => big_any ao zs.length ca w (by have := h.len; omega)
  rw [decide_eq_false (by have := h.len; omega)] at BG
  have DR := hide fun w h => drawUnder_any ao ca zs w h
  have HC := hide h
  clear h
  have Bw := Below.refl w.heap.size w
  go_enter Try.func5, Try.ntmps5
  go_wp2_with fail
  refine (unhide BG _).mono ?_
  rintro _ w1 ⟨rfl, bb⟩
  have Bw1 := Bw.trans (bb.mono Bw.size)
  have sw1 := bb.size
  clear Bw
  clear bb
  clear BG
  go_wp2_with fail
  refine (unhide DR _ ((unhide HC).below Bw1 (Nat.le_refl _))).mono ?_
  rintro _ w2 ⟨n, f, v, i, rfl, bb⟩
  have Bw2 := Bw1.trans (bb.mono Bw1.size)
  have sw2 := bb.size
  clear Bw1
  clear bb
  clear DR
  clear HC
  go_upto_region 4 with fail
  obtain ⟨w3, hw3⟩ : ∃ y, w2.alloc (.cells #[.int .i64 n, .int .i64 f] 25) = y := ⟨_, rfl⟩
  have bb : Below w2.heap.size w2 w3 := hw3 ▸ qalloc _ _
  have LC : Loc w3 w2.heap.size #[.int .i64 n, .int .i64 f] := hw3 ▸ loc_at w2 _ _ rfl
  have zw3 : w2.heap.size + 1 ≤ w3.heap.size := by rw [← hw3]; simp
  rw [hw3]
  clear hw3
  have Bw3 := Bw2.trans (bb.mono Bw2.size)
  have sw3 := bb.size
  clear Bw2
  clear bb
  have IU := hide fun w => implUnder n f v i w
  have SU := hide fun w => specUnder n f v i w
  have hxl := underI_len n f v i
  have wx := hide (under_wf n f v i)
  have OK := hide fun w => implConfOk n f w
  have UP := hide fun w => implUp n f v i w
  have UY := hide fun w => implUnder n f v (upI n f v i) w
  have hyl := underI_len n f v (upI n f v i)
  have wy := hide (under_wf n f v (upI n f v i))
  have RT := hide fun w => implRoot n f v w
  have UR := hide fun w => implUnder n f v (rootI n f v) w
  have hrl := underI_len n f v (rootI n f v)
  have F1 : Hid (¬ (COk n f ∧ 0 ≤ v) → underI n f v i = []) := hide fun hn => under_none fun hp => hn ⟨(hp_iff.1 hp).1, (hp_iff.1 hp).2.1⟩
  have F2 : Hid (0 ≤ upI n f v i → comL (underI n f v i) (underI n f v (upI n f v i)) = (underI n f v i).length) := hide fun hu => up_facts (by rcases up_lower n f v i with e | ⟨e, _⟩; omega; exact e) hu
  have F3 : Hid (COk n f ∧ 0 ≤ v → ((underI n f v (rootI n f v)).length : Int) = n) := hide fun hc => by have h1 := hc.1.1.1; have := (tree_facts (hp_iff.2 ⟨hc.1, hc.2, by omega, by omega⟩ : HP n f v 0)).2.2.2.2.2; omega
  generalize underI n f v (rootI n f v) = us at *
  generalize rootI n f v = r at *
  generalize underI n f v (upI n f v i) = ys at *
  generalize upI n f v i = y at *
  generalize underI n f v i = xs at *
  have cLC0 := LC.cell 0 rfl
  have cLC1 := LC.cell 1 rfl
  go_wp2_with fail
  refine (unhide IU _).mono ?_
  rintro _ w4 ⟨uU, rfl, oU, bb⟩
  clear cLC0 cLC1
  have Bw4 := Bw3.trans (bb.mono Bw3.size)
  have sw4 := bb.size
  replace LC := LC.below bb LC.lt
  clear Bw3
  clear bb
  clear IU
  have toU := World.ownsRow.lt oU
  obtain ⟨aoU, koU, rfl⟩ := oU.form
  have cLC0 := LC.cell 0 rfl
  have cLC1 := LC.cell 1 rfl
  go_wp2_with fail
  refine (unhide SU _).mono ?_
  rintro _ w5 ⟨uS, rfl, oS, bb⟩
  clear cLC0 cLC1
  have Bw5 := Bw4.trans (bb.mono Bw4.size)
  have sw5 := bb.size
  replace LC := LC.below bb LC.lt
  replace oU := oU.below bb
  clear Bw4
  clear bb
  clear SU
  have toS := World.ownsRow.lt oS
  obtain ⟨aoS, koS, rfl⟩ := oS.form
  go_wp2_with fail
  refine (sameInts_yes _ _ xs _ (oU.ri (by omega)) (oS.ri (by omega))).mono ?_
  rintro _ w6 ⟨rfl, nd, ed⟩
  have bb : Below w5.heap.size w5 w6 := ed ▸ below_drewN' (Below.refl _ _) nd
  clear ed
  have Bw6 := Bw5.trans (bb.mono Bw5.size)
  have sw6 := bb.size
  replace LC := LC.below bb LC.lt
  replace oU := oU.below bb
  replace oS := oS.below bb
  clear Bw5
  clear bb
  by_cases hc : COk n f
  · rw [decide_eq_true hc] at OK
    have cLC0 := LC.cell 0 rfl
    have cLC1 := LC.cell 1 rfl
    go_wp2_with fail
    refine (unhide OK _).mono ?_
    rintro _ w7 ⟨rfl, bb⟩
    clear cLC0 cLC1
    have Bw7 := Bw6.trans (bb.mono Bw6.size)
    have sw7 := bb.size
    replace LC := LC.below bb LC.lt
    replace oU := oU.below bb
    replace oS := oS.below bb
    clear Bw6
    clear bb
    clear OK
    by_cases hv : 0 ≤ v
    · have hN := unhide F3 ⟨hc, hv⟩
      clear F1 F3 hc
      have cLC0 := LC.cell 0 rfl
      have cLC1 := LC.cell 1 rfl
      go_wp2_with fail
      refine (unhide UP _).mono ?_
      rintro _ w8 ⟨rfl, bb⟩
      clear cLC0 cLC1
      have Bw8 := Bw7.trans (bb.mono Bw7.size)
      have sw8 := bb.size
      replace LC := LC.below bb LC.lt
      replace oU := oU.below bb
      replace oS := oS.below bb
      clear Bw7
      clear bb
      clear UP
      by_cases hy : 0 ≤ y
      · have CM := hide fun va vb w h h' => implCommon va vb xs ys w h h' (unhide wx) (unhide wy)
        rw [unhide F2 hy] at CM
        clear F2
        have cLC0 := LC.cell 0 rfl
        have cLC1 := LC.cell 1 rfl
        go_wp2_with fail
        refine (unhide UY _).mono ?_
        rintro _ w9 ⟨uZ, rfl, oZ, bb⟩
        clear cLC0 cLC1
        have Bw9 := Bw8.trans (bb.mono Bw8.size)
        have sw9 := bb.size
        replace LC := LC.below bb LC.lt
        replace oU := oU.below bb
        replace oS := oS.below bb
        clear Bw8
        clear bb
        clear UY
        have toZ := World.ownsRow.lt oZ
        obtain ⟨aoZ, koZ, rfl⟩ := oZ.form
        go_wp2_with fail
        refine (unhide CM _ _ _ (oU.ri (by omega)) (oZ.ri (by omega))).mono ?_
        rintro _ w10 ⟨rfl, bb⟩
        have Bw10 := Bw9.trans (bb.mono Bw9.size)
        have sw10 := bb.size
        replace LC := LC.below bb LC.lt
        replace oU := oU.below bb
        replace oS := oS.below bb
        replace oZ := oZ.below bb
        clear Bw9
        clear bb
        clear CM
        have K : Hid (∀ w', Below w10.heap.size w10 w' → (fun w' => Below w10.heap.size w10 w' ∧ (w'.cell? ⟨w2.heap.size, 0, none⟩ = some (.int .i64 n) ∧ w'.cell? ⟨w2.heap.size, 1, none⟩ = some (.int .i64 f))) w') := hide fun w' hb' => ⟨hb', ⟨(LC.below hb' LC.lt).cell 0 rfl, (LC.below hb' LC.lt).cell 1 rfl⟩⟩
        go_upto_region 12 with fail
        have bA : Below w10.heap.size w10 w10.drew := Below.drew (Below.refl _ _)
        refine wp_region_noPanic ?_
        refine wp_region_held_drew (S := fun w' => Below w10.heap.size w10 w' ∧ (w'.cell? ⟨w2.heap.size, 0, none⟩ = some (.int .i64 n) ∧ w'.cell? ⟨w2.heap.size, 1, none⟩ = some (.int .i64 f))) (by kernel_rfl) (unhide K _ bA) (fun hHeld => ?_)
        refine take_at (i := 0) (d := 54) (v := ?_) rfl rfl (by kernel_rfl) (by kernel_rfl) (by kernel_rfl) (fun _ _ _ h => h) (Or.inl ⟨by rfl, ?_⟩) (by assumption) ?_
        rotate_left
        · intro w hSw
          try dsimp only at hSw
          go_simp
          try with_reducible rfl
        simp only [Act.put, List.setIfInBounds_toArray, List.set_cons_zero, List.set_cons_succ]
        refine take_at (i := 1) (d := 55) (v := ?_) rfl rfl (by kernel_rfl) (by kernel_rfl) (by kernel_rfl) (fun _ _ _ h => h) (Or.inl ⟨by rfl, ?_⟩) (by assumption) ?_
        rotate_left
        · intro w hSw
          try dsimp only at hSw
          go_simp
          try with_reducible rfl
        simp only [Act.put, List.setIfInBounds_toArray, List.set_cons_zero, List.set_cons_succ]
        refine take_at (i := 2) (d := 56) (v := ?_) rfl rfl (by kernel_rfl) (by kernel_rfl) (by kernel_rfl) (fun _ _ _ h => h) (Or.inl ⟨by rfl, ?_⟩) (by assumption) ?_
        rotate_left
        · intro w hSw
          try dsimp only at hSw
          go_simp
          try with_reducible rfl
        simp only [Act.put, List.setIfInBounds_toArray, List.set_cons_zero, List.set_cons_succ]
        refine take_at (i := 3) (d := 57) (v := ?_) rfl rfl (by kernel_rfl) (by kernel_rfl) (by kernel_rfl) (fun _ _ _ h => h) (Or.inl ⟨by rfl, ?_⟩) (by assumption) ?_
        rotate_left
        · intro w hSw
          try dsimp only at hSw
          go_simp
          try with_reducible rfl
        simp only [Act.put, List.setIfInBounds_toArray, List.set_cons_zero, List.set_cons_succ]
        refine take_at (i := 7) (d := 61) (v := ?_) rfl rfl (by kernel_rfl) (by kernel_rfl) (by kernel_rfl) (fun _ _ _ h => h) (Or.inl ⟨by rfl, ?_⟩) (by assumption) ?_
        rotate_left
        · intro w hSw
          try dsimp only at hSw
          go_simp
          try with_reducible rfl
        simp only [Act.put, List.setIfInBounds_toArray, List.set_cons_zero, List.set_cons_succ]
        refine take_at (i := 8) (d := 62) (v := ?_) rfl rfl (by kernel_rfl) (by kernel_rfl) (by kernel_rfl) (fun _ _ _ h => h) (Or.inl ⟨by rfl, ?_⟩) (by assumption) ?_
        rotate_left
        · intro w hSw
          try dsimp only at hSw
          go_simp
          try with_reducible rfl
        simp only [Act.put, List.setIfInBounds_toArray, List.set_cons_zero, List.set_cons_succ]
        refine ready_at (i := 4) rfl (by kernel_rfl) (fun KK hKK => ?_)
        go_simp
        have hgo := bA
        refine (unhide RT _).mono ?_
        rintro e wz12_1 ⟨rfl, bb⟩
        have bz1 : Below w10.heap.size w10 wz12_1 := bA.trans (bb.mono bA.size)
        clear bA hgo bb
        clear hHeld
        refine hKK.out _ _ (unhide K _ bz1) (fun hHeld => ?_)
        clear hKK KK
        refine ready_at (i := 5) rfl (by kernel_rfl) (fun KK hKK => ?_)
        go_simp
        have hgo := bz1
        refine (unhide UR _).mono ?_
        rintro e wz12_2 ⟨uR, rfl, oR, bb⟩
        have bz2 : Below w10.heap.size w10 wz12_2 := bz1.trans (bb.mono bz1.size)
        obtain ⟨aR, kR, rfl⟩ := oR.form
        clear oR
        clear bz1 hgo bb
        clear hHeld
        refine hKK.out _ _ (unhide K _ bz2) (fun hHeld => ?_)
        clear hKK KK
        refine take_at (i := 6) (d := 60) (v := ?_) rfl rfl (by kernel_rfl) (by kernel_rfl) (by kernel_rfl) (fun _ _ _ h => h) (Or.inl ⟨by rfl, ?_⟩) (by assumption) ?_
        rotate_left
        · intro w hSw
          try dsimp only at hSw
          go_simp
          try with_reducible rfl
        simp only [Act.put, List.setIfInBounds_toArray, List.set_cons_zero, List.set_cons_succ]
        refine take_at (i := 9) (d := 63) (v := ?_) rfl rfl (by kernel_rfl) (by kernel_rfl) (by kernel_rfl) (fun _ _ _ h => h) (Or.inl ⟨by rfl, ?_⟩) (by assumption) ?_
        rotate_left
        · intro w hSw
          try dsimp only at hSw
          go_simp
          try with_reducible rfl
        simp only [Act.put, List.setIfInBounds_toArray, List.set_cons_zero, List.set_cons_succ]
        refine take_at (i := 10) (d := 2) (v := ?_) rfl rfl (by kernel_rfl) (by kernel_rfl) (by kernel_rfl) (fun _ _ _ h => h) (Or.inl ⟨by rfl, ?_⟩) (by assumption) ?_
        rotate_left
        · intro w hSw
          try dsimp only at hSw
          go_simp
          try with_reducible rfl
        simp only [Act.put, List.setIfInBounds_toArray, List.set_cons_zero, List.set_cons_succ]
        clear hHeld
        refine wpAnyH_done (by kernel_rfl) ?_ _
        refine NoPanic.normal ?_
        have bb := bz2
        have Bwz12_2 := Bw10.trans (bb.mono Bw10.size)
        have swz12_2 := bb.size
        replace LC := LC.below bb LC.lt
        replace oU := oU.below bb
        replace oS := oS.below bb
        replace oZ := oZ.below bb
        clear Bw10
        clear bb bz2 K
        have hd : decide ((us.length : Int) = n) = true := by simpa using hN
        go_wp2
        go_ret
        exact ⟨rfl, Bwz12_2⟩
      · clear F2 UY
        have K : Hid (∀ w', Below w8.heap.size w8 w' → (fun w' => Below w8.heap.size w8 w' ∧ (w'.cell? ⟨w2.heap.size, 0, none⟩ = some (.int .i64 n) ∧ w'.cell? ⟨w2.heap.size, 1, none⟩ = some (.int .i64 f))) w') := hide fun w' hb' => ⟨hb', ⟨(LC.below hb' LC.lt).cell 0 rfl, (LC.below hb' LC.lt).cell 1 rfl⟩⟩
        go_upto_region 12 with fail
        have bA : Below w8.heap.size w8 w8.drew := Below.drew (Below.refl _ _)
        refine wp_region_noPanic ?_
        refine wp_region_held_drew (S := fun w' => Below w8.heap.size w8 w' ∧ (w'.cell? ⟨w2.heap.size, 0, none⟩ = some (.int .i64 n) ∧ w'.cell? ⟨w2.heap.size, 1, none⟩ = some (.int .i64 f))) (by kernel_rfl) (unhide K _ bA) (fun hHeld => ?_)
        refine take_at (i := 0) (d := 54) (v := ?_) rfl rfl (by kernel_rfl) (by kernel_rfl) (by kernel_rfl) (fun _ _ _ h => h) (Or.inl ⟨by rfl, ?_⟩) (by assumption) ?_
        rotate_left
        · intro w hSw
          try dsimp only at hSw
          go_simp
          try with_reducible rfl
        simp only [Act.put, List.setIfInBounds_toArray, List.set_cons_zero, List.set_cons_succ]
        refine take_at (i := 1) (d := 55) (v := ?_) rfl rfl (by kernel_rfl) (by kernel_rfl) (by kernel_rfl) (fun _ _ _ h => h) (Or.inl ⟨by rfl, ?_⟩) (by assumption) ?_
        rotate_left
        · intro w hSw
          try dsimp only at hSw
          go_simp
          try with_reducible rfl
        simp only [Act.put, List.setIfInBounds_toArray, List.set_cons_zero, List.set_cons_succ]
        refine take_at (i := 2) (d := 56) (v := ?_) rfl rfl (by kernel_rfl) (by kernel_rfl) (by kernel_rfl) (fun _ _ _ h => h) (Or.inl ⟨by rfl, ?_⟩) (by assumption) ?_
        rotate_left
        · intro w hSw
          try dsimp only at hSw
          go_simp
          try with_reducible rfl
        simp only [Act.put, List.setIfInBounds_toArray, List.set_cons_zero, List.set_cons_succ]
        refine take_at (i := 3) (d := 57) (v := ?_) rfl rfl (by kernel_rfl) (by kernel_rfl) (by kernel_rfl) (fun _ _ _ h => h) (Or.inl ⟨by rfl, ?_⟩) (by assumption) ?_
        rotate_left
        · intro w hSw
          try dsimp only at hSw
          go_simp
          try with_reducible rfl
        simp only [Act.put, List.setIfInBounds_toArray, List.set_cons_zero, List.set_cons_succ]
        refine take_at (i := 7) (d := 61) (v := ?_) rfl rfl (by kernel_rfl) (by kernel_rfl) (by kernel_rfl) (fun _ _ _ h => h) (Or.inl ⟨by rfl, ?_⟩) (by assumption) ?_
        rotate_left
        · intro w hSw
          try dsimp only at hSw
          go_simp
          try with_reducible rfl
        simp only [Act.put, List.setIfInBounds_toArray, List.set_cons_zero, List.set_cons_succ]
        refine take_at (i := 8) (d := 62) (v := ?_) rfl rfl (by kernel_rfl) (by kernel_rfl) (by kernel_rfl) (fun _ _ _ h => h) (Or.inl ⟨by rfl, ?_⟩) (by assumption) ?_
        rotate_left
        · intro w hSw
          try dsimp only at hSw
          go_simp
          try with_reducible rfl
        simp only [Act.put, List.setIfInBounds_toArray, List.set_cons_zero, List.set_cons_succ]
        refine ready_at (i := 4) rfl (by kernel_rfl) (fun KK hKK => ?_)
        go_simp
        have hgo := bA
        refine (unhide RT _).mono ?_
        rintro e wz12_1 ⟨rfl, bb⟩
        have bz1 : Below w8.heap.size w8 wz12_1 := bA.trans (bb.mono bA.size)
        clear bA hgo bb
        clear hHeld
        refine hKK.out _ _ (unhide K _ bz1) (fun hHeld => ?_)
        clear hKK KK
        refine ready_at (i := 5) rfl (by kernel_rfl) (fun KK hKK => ?_)
        go_simp
        have hgo := bz1
        refine (unhide UR _).mono ?_
        rintro e wz12_2 ⟨uR, rfl, oR, bb⟩
        have bz2 : Below w8.heap.size w8 wz12_2 := bz1.trans (bb.mono bz1.size)
        obtain ⟨aR, kR, rfl⟩ := oR.form
        clear oR
        clear bz1 hgo bb
        clear hHeld
        refine hKK.out _ _ (unhide K _ bz2) (fun hHeld => ?_)
        clear hKK KK
        refine take_at (i := 6) (d := 60) (v := ?_) rfl rfl (by kernel_rfl) (by kernel_rfl) (by kernel_rfl) (fun _ _ _ h => h) (Or.inl ⟨by rfl, ?_⟩) (by assumption) ?_
        rotate_left
        · intro w hSw
          try dsimp only at hSw
          go_simp
          try with_reducible rfl
        simp only [Act.put, List.setIfInBounds_toArray, List.set_cons_zero, List.set_cons_succ]
        refine take_at (i := 9) (d := 63) (v := ?_) rfl rfl (by kernel_rfl) (by kernel_rfl) (by kernel_rfl) (fun _ _ _ h => h) (Or.inl ⟨by rfl, ?_⟩) (by assumption) ?_
        rotate_left
        · intro w hSw
          try dsimp only at hSw
          go_simp
          try with_reducible rfl
        simp only [Act.put, List.setIfInBounds_toArray, List.set_cons_zero, List.set_cons_succ]
        refine take_at (i := 10) (d := 2) (v := ?_) rfl rfl (by kernel_rfl) (by kernel_rfl) (by kernel_rfl) (fun _ _ _ h => h) (Or.inl ⟨by rfl, ?_⟩) (by assumption) ?_
        rotate_left
        · intro w hSw
          try dsimp only at hSw
          go_simp
          try with_reducible rfl
        simp only [Act.put, List.setIfInBounds_toArray, List.set_cons_zero, List.set_cons_succ]
        clear hHeld
        refine wpAnyH_done (by kernel_rfl) ?_ _
        refine NoPanic.normal ?_
        have bb := bz2
        have Bwz12_2 := Bw8.trans (bb.mono Bw8.size)
        have swz12_2 := bb.size
        replace LC := LC.below bb LC.lt
        replace oU := oU.below bb
        replace oS := oS.below bb
        clear Bw8
        clear bb bz2 K
        have hd : decide ((us.length : Int) = n) = true := by simpa using hN
        go_wp2
        go_ret
        exact ⟨rfl, Bwz12_2⟩
    · have hx0 := unhide F1 (fun h => hv h.2)
      subst hx0
      go_wp2
      go_ret
      exact ⟨rfl, Bw7⟩
  · rw [decide_eq_false hc] at OK
    have cLC0 := LC.cell 0 rfl
    have cLC1 := LC.cell 1 rfl
    go_wp2_with fail
    refine (unhide OK _).mono ?_
    rintro _ w7 ⟨rfl, bb⟩
    clear cLC0 cLC1
    have Bw7 := Bw6.trans (bb.mono Bw6.size)
    have sw7 := bb.size
    replace LC := LC.below bb LC.lt
    replace oU := oU.below bb
    replace oS := oS.below bb
    clear Bw6
    clear bb
    have hx0 := unhide F1 (fun h => hc h.1)
    subst hx0
    go_wp2
    go_ret
    exact ⟨rfl, Bw7⟩
set_option maxHeartbeats 8000000 in
set_option maxRecDepth 100000 in
theorem fnUnderAll_long (ao : Option Addr) (n ca : Nat) (w : World) (h : 1048576 < n) (hm : n ≤ maxLen) :
    Calls Try.prog 5 #[.slice ao n ca] w fun e w' => e = .returned (.bool true) ∧ Below w.heap.size w w' := by
  have BG := hide fun w => big_any ao n ca w (by unfold maxLen at hm; omega)
  rw [decide_eq_true h] at BG
  go_enter Try.func5, Try.ntmps5
  go_wp2_with fail
  refine (unhide BG _).mono ?_
  rintro _ w1 ⟨rfl, b1⟩
  go_wp2
  go_ret
  exact ⟨rfl, b1⟩
theorem fnUnderAll_walk (ao : Option Addr) (ca : Nat) (zs : List Int) (w : World) (hm : zs.length ≤ maxLen) (hx : zs = [] ∨ ∃ b off, ao = some ⟨b, off, none⟩ ∧ ∀ k, k < zs.length → w.cell? ⟨b, off + k, none⟩ = some (.int .u8 (zs.getD k 0))) (hf : ∀ k, k < zs.length → 0 ≤ zs.getD k 0 ∧ zs.getD k 0 ≤ 255) :
    Calls Try.prog 5 #[.slice ao zs.length ca] w fun e w' => e = .returned (.bool true) ∧ Below w.heap.size w w' := by
  by_cases h1 : zs.length ≤ 1048576
  · exact fnUnderAll_short ao ca zs w ⟨h1, hx, hf⟩
  · exact fnUnderAll_long ao _ ca w (by omega) hm
end Go.Proofs.Ytkjmkcipalmonaa
