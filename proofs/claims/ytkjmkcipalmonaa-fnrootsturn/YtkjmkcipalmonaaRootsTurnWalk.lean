/- The walk of laws.FnRootsTurn. -/
import Derived.Test.YtkjmkcipalmonaaTreeKids
import Derived.Test.YtkjmkcipalmonaaTreeSpec
import Derived.Test.YtkjmkcipalmonaaTreeFacts
import Derived.Test.YtkjmkcipalmonaaDrawTree
import Derived.Test.YtkjmkcipalmonaaSameL
import Derived.Test.YtkjmkcipalmonaaSetAddImpl
namespace Go.Proofs.Ytkjmkcipalmonaa
open Go.RowKit
set_option linter.unusedSectionVars false
variable [∀ (a b c d : Int), Decidable (Ok4 a b c d)]
variable [∀ (n f : Int), Decidable (COk n f)]

set_option maxHeartbeats 8000000 in
set_option maxRecDepth 100000 in
theorem fnRootsTurn_short (ao : Option Addr) (ca : Nat) (zs : List Int) (w : World) (h : DCode w ao zs) :
    Calls Try.prog 4 #[.slice ao zs.length ca] w fun e w' => e = .returned (.bool true) ∧ Below w.heap.size w w' := by
  have BG := hide fun w => big_any ao zs.length ca w (by have := h.len; omega)
  rw [decide_eq_false (by have := h.len; omega)] at BG
  have DR := hide fun w h => drawRoot_any ao ca zs w h
  have HC := hide h
  clear h
  have Bw := Below.refl w.heap.size w
  go_enter Try.func4, Try.ntmps4
  go_wp2_with fail
  refine (unhide BG _).mono ?_
  rintro _ w1 ⟨rfl, bb⟩
  have Bw1 := Bw.trans (bb.mono Bw.size)
  have sw1 := bb.size
  clear Bw
  clear bb
  clear BG
  go_wp2_with fail
  refine (unhide DR _ ((unhide HC).below Bw1 (Nat.le_refl _))).mono ?_
  rintro _ w2 ⟨n, f, v, rfl, bb⟩
  have Bw2 := Bw1.trans (bb.mono Bw1.size)
  have sw2 := bb.size
  clear Bw1
  clear bb
  clear DR
  clear HC
  go_upto_region 4 with fail
  obtain ⟨w3, hw3⟩ : ∃ y, w2.alloc (.cells #[.int .i64 n, .int .i64 f] 25) = y := ⟨_, rfl⟩
  have bb : Below w2.heap.size w2 w3 := hw3 ▸ qalloc _ _
  have LC : Loc w3 w2.heap.size #[.int .i64 n, .int .i64 f] := hw3 ▸ loc_at w2 _ _ rfl
  have zw3 : w2.heap.size + 1 ≤ w3.heap.size := by rw [← hw3]; simp
  rw [hw3]
  clear hw3
  have Bw3 := Bw2.trans (bb.mono Bw2.size)
  have sw3 := bb.size
  clear Bw2
  clear bb
  have IR := hide fun w => implRoot n f v w
  have SR := hide fun w => specRoot n f v w
  have OK := hide fun w => implConfOk n f w
  have IV := hide fun k w => implRoot n f (v + k) w
  have IS := hide fun k w => implSits n f v k w
  have SE := hide fun w => implSeat n f v (rootI n f v) w
  have AD := hide fun u xs x w h hc hl => implSetAdd u xs x w h hc hl
  have F1 : Hid (COk n f → 0 ≤ v → (rootsN n f v n.toNat).length = n.toNat ∧ (sitsN n f v n.toNat).length = n.toNat ∧ seatI n f v (rootI n f v) = 0) := hide fun hc hv => roots_facts hc hv
  generalize rootI n f v = r at *
  generalize seatI n f v r = s at *
  have K : Hid (∀ w', Below w3.heap.size w3 w' → (fun w' => Below w3.heap.size w3 w' ∧ (w'.cell? ⟨w2.heap.size, 0, none⟩ = some (.int .i64 n) ∧ w'.cell? ⟨w2.heap.size, 1, none⟩ = some (.int .i64 f))) w') := hide fun w' hb' => ⟨hb', ⟨(LC.below hb' LC.lt).cell 0 rfl, (LC.below hb' LC.lt).cell 1 rfl⟩⟩
  have bA : Below w3.heap.size w3 w3.drew := Below.drew (Below.refl _ _)
  refine wp_region_noPanic ?_
  refine wp_region_held_drew (S := fun w' => Below w3.heap.size w3 w' ∧ (w'.cell? ⟨w2.heap.size, 0, none⟩ = some (.int .i64 n) ∧ w'.cell? ⟨w2.heap.size, 1, none⟩ = some (.int .i64 f))) (by kernel_rfl) (unhide K _ bA) (fun hHeld => ?_)
  refine take_at (i := 0) (d := 15) (v := ?_) rfl rfl (by kernel_rfl) (by kernel_rfl) (by kernel_rfl) (fun _ _ _ h => h) (Or.inl ⟨by rfl, ?_⟩) (by assumption) ?_
  rotate_left
  · intro w hSw
    try dsimp only at hSw
    go_simp
    try with_reducible rfl
  simp only [Act.put, List.setIfInBounds_toArray, List.set_cons_zero, List.set_cons_succ]
  refine take_at (i := 1) (d := 16) (v := ?_) rfl rfl (by kernel_rfl) (by kernel_rfl) (by kernel_rfl) (fun _ _ _ h => h) (Or.inl ⟨by rfl, ?_⟩) (by assumption) ?_
  rotate_left
  · intro w hSw
    try dsimp only at hSw
    go_simp
    try with_reducible rfl
  simp only [Act.put, List.setIfInBounds_toArray, List.set_cons_zero, List.set_cons_succ]
  refine take_at (i := 3) (d := 18) (v := ?_) rfl rfl (by kernel_rfl) (by kernel_rfl) (by kernel_rfl) (fun _ _ _ h => h) (Or.inl ⟨by rfl, ?_⟩) (by assumption) ?_
  rotate_left
  · intro w hSw
    try dsimp only at hSw
    go_simp
    try with_reducible rfl
  simp only [Act.put, List.setIfInBounds_toArray, List.set_cons_zero, List.set_cons_succ]
  refine take_at (i := 4) (d := 19) (v := ?_) rfl rfl (by kernel_rfl) (by kernel_rfl) (by kernel_rfl) (fun _ _ _ h => h) (Or.inl ⟨by rfl, ?_⟩) (by assumption) ?_
  rotate_left
  · intro w hSw
    try dsimp only at hSw
    go_simp
    try with_reducible rfl
  simp only [Act.put, List.setIfInBounds_toArray, List.set_cons_zero, List.set_cons_succ]
  refine ready_at (i := 2) rfl (by kernel_rfl) (fun KK hKK => ?_)
  go_simp
  have hgo := bA
  refine (unhide IR _).mono ?_
  rintro e wz4_1 ⟨rfl, bb⟩
  have bz1 : Below w3.heap.size w3 wz4_1 := bA.trans (bb.mono bA.size)
  clear bA hgo bb
  clear hHeld
  refine hKK.out _ _ (unhide K _ bz1) (fun hHeld => ?_)
  clear hKK KK
  refine ready_at (i := 5) rfl (by kernel_rfl) (fun KK hKK => ?_)
  go_simp
  have hgo := bz1
  refine (unhide SR _).mono ?_
  rintro e wz4_2 ⟨rfl, bb⟩
  have bz2 : Below w3.heap.size w3 wz4_2 := bz1.trans (bb.mono bz1.size)
  clear bz1 hgo bb
  clear hHeld
  refine hKK.out _ _ (unhide K _ bz2) (fun hHeld => ?_)
  clear hKK KK
  refine take_at (i := 6) (d := 21) (v := ?_) rfl rfl (by kernel_rfl) (by kernel_rfl) (by kernel_rfl) (fun _ _ _ h => h) (Or.inl ⟨by rfl, ?_⟩) (by assumption) ?_
  rotate_left
  · intro w hSw
    try dsimp only at hSw
    go_simp
    try with_reducible rfl
  simp only [Act.put, List.setIfInBounds_toArray, List.set_cons_zero, List.set_cons_succ]
  clear hHeld
  refine wpAnyH_done (by kernel_rfl) ?_ _
  refine NoPanic.normal ?_
  have bb := bz2
  have Bwz4_2 := Bw3.trans (bb.mono Bw3.size)
  have swz4_2 := bb.size
  replace LC := LC.below bb LC.lt
  clear Bw3
  clear bb bz2 K
  clear SR
  by_cases hc : COk n f
  · rw [decide_eq_true hc] at OK
    have cLC0 := LC.cell 0 rfl
    have cLC1 := LC.cell 1 rfl
    go_wp2_with fail
    refine (unhide OK _).mono ?_
    rintro _ w4 ⟨rfl, bb⟩
    clear cLC0 cLC1
    have Bw4 := Bwz4_2.trans (bb.mono Bwz4_2.size)
    have sw4 := bb.size
    replace LC := LC.below bb LC.lt
    clear Bwz4_2
    clear bb
    clear OK
    by_cases hv : 0 ≤ v
    · by_cases hv2 : v ≤ 100
      · have F := unhide F1 hc hv
        have f1 := F.1
        have f2 := F.2.1
        have f3 := F.2.2
        subst f3
        have h1 := hc.1.1
        have h2 := hc.1.2
        clear F1 F hc
        obtain ⟨wa, hwa⟩ : ∃ y, w4.alloc (.cells #[] 3) = y := ⟨_, rfl⟩
        have bb : Below w4.heap.size w4 wa := hwa ▸ qalloc _ _
        have oR : OI wa w4.heap.size (.slice (some ⟨w4.heap.size, 0, none⟩) 0 0) [] := hwa ▸ oi_empty w4
        have Bwa := Bw4.trans (bb.mono Bw4.size)
        have swa := bb.size
        replace LC := LC.below bb LC.lt
        clear Bw4
        clear bb
        obtain ⟨wb, hwb⟩ : ∃ y, wa.alloc (.cells #[] 3) = y := ⟨_, rfl⟩
        have bb : Below wa.heap.size wa wb := hwb ▸ qalloc _ _
        have oS : OI wb wa.heap.size (.slice (some ⟨wa.heap.size, 0, none⟩) 0 0) [] := hwb ▸ oi_empty wa
        have Bwb := Bwa.trans (bb.mono Bwa.size)
        have swb := bb.size
        replace LC := LC.below bb LC.lt
        replace oR := oR.below bb
        clear Bwa
        have oT := OI.mono oS (show w4.heap.size ≤ wa.heap.size by omega)
        clear bb oS
        have PR := hide oR
        have PT := hide oT
        have PL := hide LC
        clear oR oT LC
        go_wp2
        clear hwa hwb
        go_loopw [5, 6, 7] (fun a b j wr => ∃ (k : Nat) (aR : Option Addr) (kR : Nat) (aS : Option Addr) (kS : Nat), (k : Int) ≤ n ∧ j = .int .i64 k ∧ a = .slice aR (rootsN n f v k).length kR ∧ b = .slice aS (sitsN n f v k).length kS ∧ OI wr w4.heap.size (.slice aR (rootsN n f v k).length kR) (rootsN n f v k) ∧ OI wr w4.heap.size (.slice aS (sitsN n f v k).length kS) (sitsN n f v k) ∧ Loc wr (w2.heap.size) #[.int .i64 n, .int .i64 f] ∧ w4.heap.size ≤ wr.heap.size ∧ Below w.heap.size w wr) (fun _ _ j _ => n.toNat - (intOf j).toNat)
        case atStart => exact ⟨0, _, 0, _, 0, by omega, rfl, rfl, rfl, unhide PR, unhide PT, unhide PL, by omega, Bwb⟩
        case round =>
          clear PR PT PL Bwb
          obtain ⟨k, aR, kR, aS, kS, hk, rfl, rfl, rfl, oR, oS, LC, szr, Bwr⟩ := hrel
          have l1 := rootsN_len n f v k
          have l2 := sitsN_len n f v k
          by_cases hlt : (k : Int) < n
          · have IV := hide fun w => (unhide IV) k w
            have IS := hide fun w => (unhide IS) k w
            have AR := hide fun w h hc => (unhide AD) (.slice aR (rootsN n f v k).length kR) (rootsN n f v k) (rootI n f (v + k)) w h hc (by omega)
            have AS := hide fun w h hc => (unhide AD) (.slice aS (sitsN n f v k).length kS) (sitsN n f v k) (sitsI n f v k) w h hc (by omega)
            obtain ⟨rp, e1⟩ : ∃ rp, addL (rootsN n f v k) (rootI n f (v + k)) = rp := ⟨_, rfl⟩
            obtain ⟨sp, e2⟩ : ∃ sp, addL (sitsN n f v k) (sitsI n f v k) = sp := ⟨_, rfl⟩
            rw [e1] at AR
            rw [e2] at AS
            have HRP : Hid (rootsN n f v (k + 1) = rp) := hide e1
            have HSP : Hid (sitsN n f v (k + 1) = sp) := hide e2
            have m1 : rp.length ≤ k + 1 := (unhide HRP) ▸ rootsN_len n f v (k + 1)
            have m2 : sp.length ≤ k + 1 := (unhide HSP) ▸ sitsN_len n f v (k + 1)
            clear e1 e2 AD
            generalize rootI n f (v + k) = x at *
            generalize sitsI n f v k = y at *
            have oR' := hide oR
            have oS' := hide oS
            clear oR oS
            generalize hq1 : rootsN n f v k = ro at *
            generalize hq2 : sitsN n f v k = si at *
            clear hq1 hq2
            have oR := unhide oR'
            have oS := unhide oS'
            clear oR' oS'
            have cLC0 := LC.cell 0 rfl
            have cLC1 := LC.cell 1 rfl
            go_wp2_with fail
            refine (unhide IV _).mono ?_
            rintro _ w51 ⟨rfl, bb⟩
            clear cLC0 cLC1
            have Bw51 := Bwr.trans (bb.mono Bwr.size)
            have sw51 := bb.size
            replace LC := LC.below bb LC.lt
            replace oR := oR.below bb
            replace oS := oS.below bb
            clear Bwr
            clear bb
            clear IV
            go_wp2_with fail
            refine (unhide AR _ (oR.ri (by omega)) oR.cap).mono ?_
            rintro _ w52 ⟨uA, rfl, oA, bb⟩
            have Bw52 := Bw51.trans (bb.mono Bw51.size)
            have sw52 := bb.size
            replace LC := LC.below bb LC.lt
            replace oR := oR.below bb
            replace oS := oS.below bb
            clear Bw51
            clear bb
            clear AR
            have oA := OI.mono oA (show w4.heap.size ≤ _ by omega)
            have toA := World.ownsRow.lt oA
            obtain ⟨aoA, koA, rfl⟩ := oA.form
            have cLC0 := LC.cell 0 rfl
            have cLC1 := LC.cell 1 rfl
            go_wp2_with fail
            refine (unhide IS _).mono ?_
            rintro _ w53 ⟨rfl, bb⟩
            clear cLC0 cLC1
            have Bw53 := Bw52.trans (bb.mono Bw52.size)
            have sw53 := bb.size
            replace LC := LC.below bb LC.lt
            replace oR := oR.below bb
            replace oS := oS.below bb
            replace oA := oA.below bb
            clear Bw52
            clear bb
            clear IS
            go_wp2_with fail
            refine (unhide AS _ (oS.ri (by omega)) oS.cap).mono ?_
            rintro _ w54 ⟨uB, rfl, oB, bb⟩
            have Bw54 := Bw53.trans (bb.mono Bw53.size)
            have sw54 := bb.size
            replace LC := LC.below bb LC.lt
            replace oR := oR.below bb
            replace oS := oS.below bb
            replace oA := oA.below bb
            clear Bw53
            clear bb
            clear AS
            have oB := OI.mono oB (show w4.heap.size ≤ _ by omega)
            have toB := World.ownsRow.lt oB
            obtain ⟨aoB, koB, rfl⟩ := oB.form
            go_wp2
            go_roundw
            case rel => exact ⟨k + 1, aoA, koA, aoB, koB, by omega, by go_num, by rw [unhide HRP], by rw [unhide HSP], by rw [unhide HRP]; exact oA, by rw [unhide HSP]; exact oB, LC, by omega, Bw54⟩
            case measure => simp [intOf]; omega
          · have hkn : n.toNat = k := by omega
            rw [hkn] at f1 f2
            clear IV IS AD l1 l2
            generalize hq1 : rootsN n f v k = ro at *
            generalize hq2 : sitsN n f v k = si at *
            clear hq1 hq2
            obtain ⟨m, hm⟩ : ∃ m : Nat, n = m := ⟨n.toNat, by omega⟩
            have g1 : ro.length = m := by omega
            have g2 : si.length = m := by omega
            clear oR oS f1 f2 hkn szr
            subst hm
            generalize ro.length = x1 at *
            generalize si.length = x2 at *
            subst g1 g2
            have cLC0 := LC.cell 0 rfl
            have cLC1 := LC.cell 1 rfl
            have K : Hid (∀ w', Below wr.heap.size wr w' → (fun w' => Below wr.heap.size wr w' ∧ (w'.cell? ⟨w2.heap.size, 0, none⟩ = some (.int .i64 ((x2 : Nat) : Int)) ∧ w'.cell? ⟨w2.heap.size, 1, none⟩ = some (.int .i64 f))) w') := hide fun w' hb' => ⟨hb', ⟨(LC.below hb' LC.lt).cell 0 rfl, (LC.below hb' LC.lt).cell 1 rfl⟩⟩
            go_upto_region 15 with fail
            have bA : Below wr.heap.size wr wr.drew := Below.drew (Below.refl _ _)
            refine wp_region_noPanic ?_
            refine wp_region_held_drew (S := fun w' => Below wr.heap.size wr w' ∧ (w'.cell? ⟨w2.heap.size, 0, none⟩ = some (.int .i64 ((x2 : Nat) : Int)) ∧ w'.cell? ⟨w2.heap.size, 1, none⟩ = some (.int .i64 f))) (by kernel_rfl) (unhide K _ bA) (fun hHeld => ?_)
            refine take_at (i := 0) (d := 54) (v := ?_) rfl rfl (by kernel_rfl) (by kernel_rfl) (by kernel_rfl) (fun _ _ _ h => h) (Or.inl ⟨by rfl, ?_⟩) (by assumption) ?_
            rotate_left
            · intro w hSw
              try dsimp only at hSw
              go_simp
              try with_reducible rfl
            simp only [Act.put, List.setIfInBounds_toArray, List.set_cons_zero, List.set_cons_succ]
            refine take_at (i := 2) (d := 56) (v := ?_) rfl rfl (by kernel_rfl) (by kernel_rfl) (by kernel_rfl) (fun _ _ _ h => h) (Or.inl ⟨by rfl, ?_⟩) (by assumption) ?_
            rotate_left
            · intro w hSw
              try dsimp only at hSw
              go_simp
              try with_reducible rfl
            simp only [Act.put, List.setIfInBounds_toArray, List.set_cons_zero, List.set_cons_succ]
            refine take_at (i := 1) (d := 55) (v := ?_) rfl rfl (by kernel_rfl) (by kernel_rfl) (by kernel_rfl) (fun _ _ _ h => h) (Or.inl ⟨by rfl, ?_⟩) (by assumption) ?_
            rotate_left
            · intro w hSw
              try dsimp only at hSw
              go_simp
              try with_reducible rfl
            simp only [Act.put, List.setIfInBounds_toArray, List.set_cons_zero, List.set_cons_succ]
            refine take_at (i := 3) (d := 57) (v := ?_) rfl rfl (by kernel_rfl) (by kernel_rfl) (by kernel_rfl) (fun _ _ _ h => h) (Or.inl ⟨by rfl, ?_⟩) (by assumption) ?_
            rotate_left
            · intro w hSw
              try dsimp only at hSw
              go_simp
              try with_reducible rfl
            simp only [Act.put, List.setIfInBounds_toArray, List.set_cons_zero, List.set_cons_succ]
            refine take_at (i := 4) (d := 58) (v := ?_) rfl rfl (by kernel_rfl) (by kernel_rfl) (by kernel_rfl) (fun _ _ _ h => h) (Or.inl ⟨by rfl, ?_⟩) (by assumption) ?_
            rotate_left
            · intro w hSw
              try dsimp only at hSw
              go_simp
              try with_reducible rfl
            simp only [Act.put, List.setIfInBounds_toArray, List.set_cons_zero, List.set_cons_succ]
            refine take_at (i := 5) (d := 59) (v := ?_) rfl rfl (by kernel_rfl) (by kernel_rfl) (by kernel_rfl) (fun _ _ _ h => h) (Or.inl ⟨by rfl, ?_⟩) (by assumption) ?_
            rotate_left
            · intro w hSw
              try dsimp only at hSw
              go_simp
              try with_reducible rfl
            simp only [Act.put, List.setIfInBounds_toArray, List.set_cons_zero, List.set_cons_succ]
            refine take_at (i := 6) (d := 60) (v := ?_) rfl rfl (by kernel_rfl) (by kernel_rfl) (by kernel_rfl) (fun _ _ _ h => h) (Or.inl ⟨by rfl, ?_⟩) (by assumption) ?_
            rotate_left
            · intro w hSw
              try dsimp only at hSw
              go_simp
              try with_reducible rfl
            simp only [Act.put, List.setIfInBounds_toArray, List.set_cons_zero, List.set_cons_succ]
            refine take_at (i := 8) (d := 62) (v := ?_) rfl rfl (by kernel_rfl) (by kernel_rfl) (by kernel_rfl) (fun _ _ _ h => h) (Or.inl ⟨by rfl, ?_⟩) (by assumption) ?_
            rotate_left
            · intro w hSw
              try dsimp only at hSw
              go_simp
              try with_reducible rfl
            simp only [Act.put, List.setIfInBounds_toArray, List.set_cons_zero, List.set_cons_succ]
            refine take_at (i := 7) (d := 61) (v := ?_) rfl rfl (by kernel_rfl) (by kernel_rfl) (by kernel_rfl) (fun _ _ _ h => h) (Or.inl ⟨by rfl, ?_⟩) (by assumption) ?_
            rotate_left
            · intro w hSw
              try dsimp only at hSw
              go_simp
              try with_reducible rfl
            simp only [Act.put, List.setIfInBounds_toArray, List.set_cons_zero, List.set_cons_succ]
            refine take_at (i := 9) (d := 63) (v := ?_) rfl rfl (by kernel_rfl) (by kernel_rfl) (by kernel_rfl) (fun _ _ _ h => h) (Or.inl ⟨by rfl, ?_⟩) (by assumption) ?_
            rotate_left
            · intro w hSw
              try dsimp only at hSw
              go_simp
              try with_reducible rfl
            simp only [Act.put, List.setIfInBounds_toArray, List.set_cons_zero, List.set_cons_succ]
            refine take_at (i := 10) (d := 64) (v := ?_) rfl rfl (by kernel_rfl) (by kernel_rfl) (by kernel_rfl) (fun _ _ _ h => h) (Or.inl ⟨by rfl, ?_⟩) (by assumption) ?_
            rotate_left
            · intro w hSw
              try dsimp only at hSw
              go_simp
              try with_reducible rfl
            simp only [Act.put, List.setIfInBounds_toArray, List.set_cons_zero, List.set_cons_succ]
            refine take_at (i := 11) (d := 65) (v := ?_) rfl rfl (by kernel_rfl) (by kernel_rfl) (by kernel_rfl) (fun _ _ _ h => h) (Or.inl ⟨by rfl, ?_⟩) (by assumption) ?_
            rotate_left
            · intro w hSw
              try dsimp only at hSw
              go_simp
              try with_reducible rfl
            simp only [Act.put, List.setIfInBounds_toArray, List.set_cons_zero, List.set_cons_succ]
            refine take_at (i := 12) (d := 66) (v := ?_) rfl rfl (by kernel_rfl) (by kernel_rfl) (by kernel_rfl) (fun _ _ _ h => h) (Or.inl ⟨by rfl, ?_⟩) (by assumption) ?_
            rotate_left
            · intro w hSw
              try dsimp only at hSw
              go_simp
              try with_reducible rfl
            simp only [Act.put, List.setIfInBounds_toArray, List.set_cons_zero, List.set_cons_succ]
            refine take_at (i := 13) (d := 67) (v := ?_) rfl rfl (by kernel_rfl) (by kernel_rfl) (by kernel_rfl) (fun _ _ _ h => h) (Or.inl ⟨by rfl, ?_⟩) (by assumption) ?_
            rotate_left
            · intro w hSw
              try dsimp only at hSw
              go_simp
              try with_reducible rfl
            simp only [Act.put, List.setIfInBounds_toArray, List.set_cons_zero, List.set_cons_succ]
            refine take_at (i := 14) (d := 68) (v := ?_) rfl rfl (by kernel_rfl) (by kernel_rfl) (by kernel_rfl) (fun _ _ _ h => h) (Or.inl ⟨by rfl, ?_⟩) (by assumption) ?_
            rotate_left
            · intro w hSw
              try dsimp only at hSw
              go_simp
              try with_reducible rfl
            simp only [Act.put, List.setIfInBounds_toArray, List.set_cons_zero, List.set_cons_succ]
            refine take_at (i := 15) (d := 69) (v := ?_) rfl rfl (by kernel_rfl) (by kernel_rfl) (by kernel_rfl) (fun _ _ _ h => h) (Or.inl ⟨by rfl, ?_⟩) (by assumption) ?_
            rotate_left
            · intro w hSw
              try dsimp only at hSw
              go_simp
              try with_reducible rfl
            simp only [Act.put, List.setIfInBounds_toArray, List.set_cons_zero, List.set_cons_succ]
            refine take_at (i := 16) (d := 70) (v := ?_) rfl rfl (by kernel_rfl) (by kernel_rfl) (by kernel_rfl) (fun _ _ _ h => h) (Or.inl ⟨by rfl, ?_⟩) (by assumption) ?_
            rotate_left
            · intro w hSw
              try dsimp only at hSw
              go_simp
              try with_reducible rfl
            simp only [Act.put, List.setIfInBounds_toArray, List.set_cons_zero, List.set_cons_succ]
            refine ready_at (i := 17) rfl (by kernel_rfl) (fun KK hKK => ?_)
            go_simp
            have hgo := bA
            refine (unhide IR _).mono ?_
            rintro e wz15_1 ⟨rfl, bb⟩
            have bz1 : Below wr.heap.size wr wz15_1 := bA.trans (bb.mono bA.size)
            clear bA hgo bb
            clear hHeld
            refine hKK.out _ _ (unhide K _ bz1) (fun hHeld => ?_)
            clear hKK KK
            refine ready_at (i := 18) rfl (by kernel_rfl) (fun KK hKK => ?_)
            go_simp
            have hgo := bz1
            refine (unhide SE _).mono ?_
            rintro e wz15_2 ⟨rfl, bb⟩
            have bz2 : Below wr.heap.size wr wz15_2 := bz1.trans (bb.mono bz1.size)
            clear bz1 hgo bb
            clear hHeld
            refine hKK.out _ _ (unhide K _ bz2) (fun hHeld => ?_)
            clear hKK KK
            refine take_at (i := 19) (d := 73) (v := ?_) rfl rfl (by kernel_rfl) (by kernel_rfl) (by kernel_rfl) (fun _ _ _ h => h) (Or.inl ⟨by rfl, ?_⟩) (by assumption) ?_
            rotate_left
            · intro w hSw
              try dsimp only at hSw
              go_simp
              try with_reducible rfl
            simp only [Act.put, List.setIfInBounds_toArray, List.set_cons_zero, List.set_cons_succ]
            refine take_at (i := 20) (d := 74) (v := ?_) rfl rfl (by kernel_rfl) (by kernel_rfl) (by kernel_rfl) (fun _ _ _ h => h) (Or.inl ⟨by rfl, ?_⟩) (by assumption) ?_
            rotate_left
            · intro w hSw
              try dsimp only at hSw
              go_simp
              try with_reducible rfl
            simp only [Act.put, List.setIfInBounds_toArray, List.set_cons_zero, List.set_cons_succ]
            refine take_at (i := 21) (d := 2) (v := ?_) rfl rfl (by kernel_rfl) (by kernel_rfl) (by kernel_rfl) (fun _ _ _ h => h) (Or.inl ⟨by rfl, ?_⟩) (by assumption) ?_
            rotate_left
            · intro w hSw
              try dsimp only at hSw
              go_simp
              try with_reducible rfl
            simp only [Act.put, List.setIfInBounds_toArray, List.set_cons_zero, List.set_cons_succ]
            clear hHeld
            refine wpAnyH_done (by kernel_rfl) ?_ _
            refine NoPanic.normal ?_
            have bb := bz2
            have Bwz15_2 := Bwr.trans (bb.mono Bwr.size)
            have swz15_2 := bb.size
            replace LC := LC.below bb LC.lt
            clear Bwr
            clear bb bz2 K
            clear cLC0 cLC1
            go_wp2
            go_ret
            exact ⟨rfl, Bwz15_2⟩
      · go_wp2
        go_ret
        exact ⟨rfl, Bw4⟩
    · go_wp2
      go_ret
      exact ⟨rfl, Bw4⟩
  · rw [decide_eq_false hc] at OK
    have cLC0 := LC.cell 0 rfl
    have cLC1 := LC.cell 1 rfl
    go_wp2_with fail
    refine (unhide OK _).mono ?_
    rintro _ w4 ⟨rfl, bb⟩
    clear cLC0 cLC1
    have Bw4 := Bwz4_2.trans (bb.mono Bwz4_2.size)
    have sw4 := bb.size
    replace LC := LC.below bb LC.lt
    clear Bwz4_2
    clear bb
    go_wp2
    go_ret
    exact ⟨rfl, Bw4⟩
set_option maxHeartbeats 8000000 in
set_option maxRecDepth 100000 in
theorem fnRootsTurn_long (ao : Option Addr) (n ca : Nat) (w : World) (h : 1048576 < n) (hm : n ≤ maxLen) :
    Calls Try.prog 4 #[.slice ao n ca] w fun e w' => e = .returned (.bool true) ∧ Below w.heap.size w w' := by
  have BG := hide fun w => big_any ao n ca w (by unfold maxLen at hm; omega)
  rw [decide_eq_true h] at BG
  go_enter Try.func4, Try.ntmps4
  go_wp2_with fail
  refine (unhide BG _).mono ?_
  rintro _ w1 ⟨rfl, b1⟩
  go_wp2
  go_ret
  exact ⟨rfl, b1⟩
theorem fnRootsTurn_walk (ao : Option Addr) (ca : Nat) (zs : List Int) (w : World) (hm : zs.length ≤ maxLen) (hx : zs = [] ∨ ∃ b off, ao = some ⟨b, off, none⟩ ∧ ∀ k, k < zs.length → w.cell? ⟨b, off + k, none⟩ = some (.int .u8 (zs.getD k 0))) (hf : ∀ k, k < zs.length → 0 ≤ zs.getD k 0 ∧ zs.getD k 0 ≤ 255) :
    Calls Try.prog 4 #[.slice ao zs.length ca] w fun e w' => e = .returned (.bool true) ∧ Below w.heap.size w w' := by
  by_cases h1 : zs.length ≤ 1048576
  · exact fnRootsTurn_short ao ca zs w ⟨h1, hx, hf⟩
  · exact fnRootsTurn_long ao _ ca w (by omega) hm
end Go.Proofs.Ytkjmkcipalmonaa
