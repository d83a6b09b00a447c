/- FnExactPoolTake: for every list of payments and every ledger the law answers true and leaves its arguments as they were; no condition. -/
import Derived.Test.YthdehhenkgkkmaaBunI
import Derived.Test.YthdehhenkgkkmaaBunB
import Derived.Test.YthdehhenkgkkmaaBunH
import Derived.Test.YthdehhenkgkkmaaBunA
import Derived.Test.YthdehhenkgkkmaaBunD
/- The walk of laws.FnExactPoolTake. -/
namespace Go.Proofs.Ythdehhenkgkkmaa
open Go.RowKit
set_option linter.unusedSectionVars false
variable [∀ (a b c d : Int), Decidable (Ok4 a b c d)]
variable [∀ (m a b c d : Int), Decidable (In4 m a b c d)]
variable [∀ (xs ys : List Int), Decidable (LOk xs ys)]
variable [∀ (x y : T4), Decidable (Bef x y)]
variable [∀ (ts : List T4), Decidable (Asc ts)]
variable [∀ (ts : List T4), Decidable (AllOk ts)]
variable [∀ (ts : List T4), Decidable (POk ts)]
variable [∀ (r : List Int × List Int × Int), Decidable (Took r)]
variable [∀ (xs ys : List Int) (x : T4), Decidable (Stays xs ys x)]

set_option maxHeartbeats 400000 in
set_option maxRecDepth 100000 in
theorem fnPoolTake_long (ao : Option Addr) (n ca : Nat) (u v : Value) (w : World) (h : 1048576 < n) (hn : n ≤ 9223372036854775807) :
    Calls Try.prog 5 #[.slice ao n ca, lv u v] w fun e w' => e = .returned (.bool true) ∧ Below w.heap.size w w' := by
  go_enter Try.func5, Try.ntmps5
  go_wp2_with fail
  refine (szTxS_no _ _ _ _ _ (by omega) (by omega) (by omega) hn).mono ?_
  rintro e w2 ⟨rfl, rfl⟩
  go_wp2
  go_ret
  exact ⟨rfl, (Below.refl _ _).alloc (Nat.le_refl _) _⟩

set_option maxHeartbeats 400000 in
set_option maxRecDepth 100000 in
theorem fnPoolTake_many (lo_ ao bo : Option Addr) (t lc n ca m cb : Nat) (w : World) (h : t ≤ 1048576) (hm : 1048576 < t + (n + m)) (hn : n ≤ 9223372036854775807) (hm2 : m ≤ 9223372036854775807) :
    Calls Try.prog 5 #[.slice lo_ t lc, lv (.slice ao n ca) (.slice bo m cb)] w fun e w' => e = .returned (.bool true) ∧ Below w.heap.size w w' := by
  have hd : decide ((1048576 : Int) - (t : Int) < 0) = false := by simp; omega
  have SZ := hide fun w => szLedger_noG ao bo n ca m cb ((1048576 : Int) - (t : Int)) w (by omega) (by omega) (by omega) hn hm2
  go_enter Try.func5, Try.ntmps5
  go_wp2_with fail
  refine (szTxS_yes _ _ _ _ _ (by omega) (by omega)).mono ?_
  rintro e w2 ⟨rfl, rfl⟩
  go_wp2_with fail
  refine (unhide SZ _).mono ?_
  rintro e w1 ⟨rfl, b1⟩
  go_wp2
  go_ret
  exact ⟨rfl, ((Below.refl w.heap.size w).alloc (Nat.le_refl _) _).trans (b1.mono (by simp))⟩

set_option maxHeartbeats 16000000 in
set_option maxRecDepth 100000 in
theorem fnPoolTake_short (lo_ ao bo : Option Addr) (lc ca cb : Nat) (ts : List T4) (xs ys : List Int) (w : World) (h : ts.length + (xs.length + ys.length) ≤ 1048576) (hl : AR w lo_ ts) (ha : AI w ao xs) (hb : AI w bo ys) :
    Calls Try.prog 5 #[.slice lo_ ts.length lc, lv (.slice ao xs.length ca) (.slice bo ys.length cb)] w fun e w' => e = .returned (.bool true) ∧ Below w.heap.size w w' := by
  have hd : decide ((1048576 : Int) - (ts.length : Int) < 0) = false := by simp; omega
  have hd2 : decide ((1048576 : Int) - (ts.length : Int) - (xs.length : Int) - (ys.length : Int) < 0) = false := by simp; omega
  have RL : Hid (∀ w', Below w.heap.size w w' → AR w' lo_ ts) := hide fun w' hb' => hl.below hb'
  have RA : Hid (∀ w', Below w.heap.size w w' → RI w' (.slice ao xs.length ca) xs ∧ RI w' (.slice bo ys.length cb) ys) := hide fun w' hb' => ⟨(ha.ri ca (by omega)).below hb' (Nat.le_refl _), (hb.ri cb (by omega)).below hb' (Nat.le_refl _)⟩
  have SP := hide fun p u v w h1 h2 => specPoolTake p u v ts xs ys w h1 (by omega) h2
  have IM := hide fun p u v w h1 h2 h3 h4 h5 => implPoolTake p u v ts xs ys w h1 (by omega) h2 h3 h4 h5
  have TT := hide fun w h => toTxS_any lo_ lc ts w (by omega) h
  have TO := hide fun w h => toLedger_any (.slice ao xs.length ca) (.slice bo ys.length cb) xs ys w h
  have hr : (takeAns xs ys ts).length ≤ 1048576 := (by have := takeAns_len xs ys ts; omega)
  generalize takeAns xs ys ts = r at *
  have hx : xs.length ≤ 4194304 := by omega
  have hy : ys.length ≤ 4194304 := by omega
  have hk1 : decide ((1 : Int) + (ts.length : Int) * 4 + (xs.length : Int) + (ys.length : Int) < 0) = false := by simp; omega
  have hk2 : decide ((1 : Int) + (r.length : Int) * 4 < 0) = false := by simp; omega
  obtain ⟨w0, hw0⟩ : ∃ w0, w.alloc (.cells #[.slice ao xs.length ca, .slice bo ys.length cb] 39) = w0 := ⟨_, rfl⟩
  have Bw0 : Below w.heap.size w w0 := hw0 ▸ (Below.refl w.heap.size w).alloc (Nat.le_refl _) _
  have L : Loc w0 w.heap.size #[.slice ao xs.length ca, .slice bo ys.length cb] := hw0 ▸ loc_at w _ _ rfl
  have lL := L.lt
  clear hl ha hb
  go_enter Try.func5, Try.ntmps5
  go_wp2_with fail
  clear hw0
  refine (szTxS_yes _ _ _ _ _ (by omega) (by omega)).mono ?_
  rintro _ w9 ⟨rfl, e9⟩
  rw [e9]
  clear e9
  have q0 := L.cell 0 rfl
  have q1 := L.cell 1 rfl
  go_wp2_with fail
  refine (szLedger_yesG _ _ _ _ _ _ _ _ (by omega) (by omega)).mono ?_
  rintro _ w1 ⟨rfl, bb⟩
  have Bw1 := Bw0.trans (bb.mono Bw0.size)
  have sw1 := bb.size
  replace L := L.below bb L.lt
  clear Bw0
  clear bb
  clear q0 q1
  have K : Hid (∀ w', Below w1.heap.size w1 w' → (w'.cell? ⟨w.heap.size, 0, none⟩ = some (.slice ao xs.length ca) ∧ w'.cell? ⟨w.heap.size, 1, none⟩ = some (.slice bo ys.length cb))) := hide fun w' hb => by
    have l := L.below hb L.lt
    exact ⟨l.cell 0 rfl, l.cell 1 rfl⟩
  have bA : Below w1.heap.size w1 w1.drew := Below.drew (Below.refl _ _)
  go_wp2_with fail
  refine wp_region_noPanic ?_
  refine wp_region_held_drew (S := (fun w' => (w'.cell? ⟨w.heap.size, 0, none⟩ = some (.slice ao xs.length ca) ∧ w'.cell? ⟨w.heap.size, 1, none⟩ = some (.slice bo ys.length cb)))) (by kernel_rfl) (unhide K _ bA) (fun hHeld => ?_)
  refine take_at (i := 0) (d := 24) (v := ?_) rfl rfl (by kernel_rfl) (by kernel_rfl) (by kernel_rfl) (fun _ _ _ h => h) (Or.inl ⟨by rfl, ?_⟩) (by assumption) ?_
  rotate_left
  · intro w hSw
    try dsimp only at hSw
    go_simp
    try with_reducible rfl
  simp only [Act.put, List.setIfInBounds_toArray, List.set_cons_zero, List.set_cons_succ]
  refine take_at (i := 2) (d := 26) (v := ?_) rfl rfl (by kernel_rfl) (by kernel_rfl) (by kernel_rfl) (fun _ _ _ h => h) (Or.inl ⟨by rfl, ?_⟩) (by assumption) ?_
  rotate_left
  · intro w hSw
    try dsimp only at hSw
    go_simp
    try with_reducible rfl
  simp only [Act.put, List.setIfInBounds_toArray, List.set_cons_zero, List.set_cons_succ]
  refine ready_at (i := 1) rfl (by kernel_rfl) (fun KK hKK => ?_)
  go_simp
  refine (unhide TT _ (unhide RL _ (Bw1.trans (bA.mono Bw1.size)))).mono ?_
  rintro _ wa ⟨la, rfl, ota, ba⟩
  have bB : Below w1.heap.size w1 wa := bA.trans ba
  clear hHeld
  refine hKK.out _ _ (unhide K _ bB) (fun hHeld => ?_)
  clear hKK KK
  refine ready_at (i := 3) rfl (by kernel_rfl) (fun KK hKK => ?_)
  go_simp
  refine (unhide TO _ (unhide RA _ (Bw1.trans (bB.mono Bw1.size)))).mono ?_
  rintro _ wb ⟨ul, vl, rfl, oll, bb⟩
  have bC : Below w1.heap.size w1 wb := bB.trans (bb.mono bB.size)
  replace ota := ota.below bb
  clear hHeld
  refine hKK.out _ _ (unhide K _ bC) (fun hHeld => ?_)
  clear hKK KK
  refine ready_at (i := 4) rfl (by kernel_rfl) (fun KK hKK => ?_)
  go_simp
  refine (unhide SP _ _ _ _ (ota.rt (by omega)) (oll.ri hx hy)).mono ?_
  rintro _ w2 ⟨us, rfl, os, bd⟩
  have bD : Below w1.heap.size w1 w2 := bC.trans (bd.mono bC.size)
  clear hHeld
  refine hKK.out _ _ (unhide K _ bD) (fun hHeld => ?_)
  clear hKK KK
  refine take_at (i := 5) (d := 6) (v := ?_) rfl rfl (by kernel_rfl) (by kernel_rfl) (by kernel_rfl) (fun _ _ _ h => h) (Or.inl ⟨by rfl, ?_⟩) (by assumption) ?_
  rotate_left
  · intro w hSw
    try dsimp only at hSw
    go_simp
    try with_reducible rfl
  simp only [Act.put, List.setIfInBounds_toArray, List.set_cons_zero, List.set_cons_succ]
  clear hHeld
  refine wpAnyH_done (by kernel_rfl) ?_ _
  refine NoPanic.normal ?_
  have Bw2 := Bw1.trans (bD.mono Bw1.size)
  have sw2 := bD.size
  replace L := L.below bD L.lt
  clear Bw1
  have sC := bC.size
  clear K bA bB bC bD ba bb bd ota oll
  have tos : ∀ j, us.ownBlock = some j → w1.heap.size ≤ j ∧ j < w2.heap.size := fun j hj => by have := World.ownsRow.lt os j hj; omega
  clear sC
  go_wp2_with fail
  refine (unhide TT _ (unhide RL _ Bw2)).mono ?_
  rintro _ w3 ⟨lx, rfl, ox, bb⟩
  have Bw3 := Bw2.trans (bb.mono Bw2.size)
  have sw3 := bb.size
  replace L := L.below bb L.lt
  replace os := os.below bb
  clear Bw2
  clear bb
  have tox : ∀ j, lx.ownBlock = some j → w2.heap.size ≤ j ∧ j < w3.heap.size := World.ownsRow.lt ox
  have q0 := L.cell 0 rfl
  have q1 := L.cell 1 rfl
  go_wp2_with fail
  refine (unhide TO _ (unhide RA _ Bw3)).mono ?_
  rintro _ w4 ⟨ux, vx, rfl, olx, bb⟩
  have Bw4 := Bw3.trans (bb.mono Bw3.size)
  have sw4 := bb.size
  replace L := L.below bb L.lt
  replace os := os.below bb
  replace ox := ox.below bb
  clear Bw3
  clear bb
  clear q0 q1
  obtain ⟨xa, xc, rfl⟩ := olx.has.form
  obtain ⟨ya, yc, rfl⟩ := olx.next.form
  obtain ⟨w5, hw5⟩ : ∃ y, w4.alloc (.cells #[.slice xa xs.length xc, .slice ya ys.length yc] 42) = y := ⟨_, rfl⟩
  have bb : Below w4.heap.size w4 w5 := hw5 ▸ (Below.refl _ _).alloc (Nat.le_refl _) _
  have X : Loc w5 w4.heap.size #[.slice xa xs.length xc, .slice ya ys.length yc] := hw5 ▸ loc_at w4 _ _ rfl
  have Bw5 := Bw4.trans (bb.mono Bw4.size)
  have sw5 := bb.size
  replace L := L.below bb L.lt
  replace os := os.below bb
  replace ox := ox.below bb
  replace olx := olx.below bb
  clear Bw4
  clear bb
  have lX := X.lt
  have q0 := X.cell 0 rfl
  have q1 := X.cell 1 rfl
  go_wp2_with fail
  clear hw5 q0 q1
  refine (unhide IM _ _ _ _ (ox.rt (by omega)) (olx.ri hx hy) (fun j hj => by have := tox j hj; omega) (fun j hj => by have := olx.top j hj; omega) (fun j hj => by have := olx.top' j hj; omega)).mono ?_
  rintro _ w6 ⟨ug, rfl, og, bb⟩
  have Bw6 := Bw5.trans (bb.mono Bw5.size)
  have sw6 := bb.size
  replace L := L.below bb L.lt
  replace X := X.below bb X.lt
  replace os := os.below bb
  replace ox := ox.below bb
  replace olx := olx.below bb
  clear Bw5
  clear bb
  have tog : ∀ j, ug.ownBlock = some j → w5.heap.size ≤ j ∧ j < w6.heap.size := World.ownsRow.lt og
  go_wp2_with fail
  refine (eqTxS_yes _ _ r _ (og.rt (by omega)) (os.rt (by omega))).mono ?_
  rintro _ w7 ⟨rfl, bb⟩
  have Bw7 := Bw6.trans (bb.mono Bw6.size)
  have sw7 := bb.size
  replace L := L.below bb L.lt
  replace X := X.below bb X.lt
  replace os := os.below bb
  replace ox := ox.below bb
  replace og := og.below bb
  replace olx := olx.below bb
  clear Bw6
  clear bb
  go_wp2_with fail
  refine (unhide TT _ (unhide RL _ Bw7)).mono ?_
  rintro _ w8 ⟨ly, rfl, oy, bb⟩
  have Bw8 := Bw7.trans (bb.mono Bw7.size)
  have sw8 := bb.size
  replace L := L.below bb L.lt
  replace X := X.below bb X.lt
  replace os := os.below bb
  replace ox := ox.below bb
  replace og := og.below bb
  replace olx := olx.below bb
  clear Bw7
  clear bb
  have hry := oy.rt (by omega)
  clear oy
  go_wp2_with fail
  refine (eqTxS_yes _ _ ts _ (ox.rt (by omega)) hry).mono ?_
  rintro _ w9 ⟨rfl, bb⟩
  have Bw9 := Bw8.trans (bb.mono Bw8.size)
  have sw9 := bb.size
  replace L := L.below bb L.lt
  replace X := X.below bb X.lt
  replace os := os.below bb
  replace ox := ox.below bb
  replace og := og.below bb
  replace olx := olx.below bb
  clear Bw8
  clear bb
  clear hry
  have K : Hid (∀ w', Below w9.heap.size w9 w' → (w'.cell? ⟨w4.heap.size, 0, none⟩ = some (.slice xa xs.length xc) ∧ w'.cell? ⟨w4.heap.size, 1, none⟩ = some (.slice ya ys.length yc)) ∧ (w'.cell? ⟨w.heap.size, 0, none⟩ = some (.slice ao xs.length ca) ∧ w'.cell? ⟨w.heap.size, 1, none⟩ = some (.slice bo ys.length cb))) := hide fun w' hb => by
    have l := L.below hb L.lt
    have x := X.below hb X.lt
    exact ⟨⟨x.cell 0 rfl, x.cell 1 rfl⟩, ⟨l.cell 0 rfl, l.cell 1 rfl⟩⟩
  have bA : Below w9.heap.size w9 w9.drew := Below.drew (Below.refl _ _)
  go_wp2_with fail
  refine wp_region_noPanic ?_
  refine wp_region_held_drew (S := (fun w' => (w'.cell? ⟨w4.heap.size, 0, none⟩ = some (.slice xa xs.length xc) ∧ w'.cell? ⟨w4.heap.size, 1, none⟩ = some (.slice ya ys.length yc)) ∧ (w'.cell? ⟨w.heap.size, 0, none⟩ = some (.slice ao xs.length ca) ∧ w'.cell? ⟨w.heap.size, 1, none⟩ = some (.slice bo ys.length cb)))) (by kernel_rfl) (unhide K _ bA) (fun hHeld => ?_)
  refine take_at (i := 0) (d := 45) (v := ?_) rfl rfl (by kernel_rfl) (by kernel_rfl) (by kernel_rfl) (fun _ _ _ h => h) (Or.inl ⟨by rfl, ?_⟩) (by assumption) ?_
  rotate_left
  · intro w hSw
    try dsimp only at hSw
    go_simp
    try with_reducible rfl
  simp only [Act.put, List.setIfInBounds_toArray, List.set_cons_zero, List.set_cons_succ]
  refine take_at (i := 1) (d := 46) (v := ?_) rfl rfl (by kernel_rfl) (by kernel_rfl) (by kernel_rfl) (fun _ _ _ h => h) (Or.inl ⟨by rfl, ?_⟩) (by assumption) ?_
  rotate_left
  · intro w hSw
    try dsimp only at hSw
    go_simp
    try with_reducible rfl
  simp only [Act.put, List.setIfInBounds_toArray, List.set_cons_zero, List.set_cons_succ]
  refine ready_at (i := 2) rfl (by kernel_rfl) (fun KK hKK => ?_)
  go_simp
  refine (unhide TO _ (unhide RA _ (Bw9.trans (bA.mono Bw9.size)))).mono ?_
  rintro _ wa ⟨ul, vl, rfl, oll, ba⟩
  have bB : Below w9.heap.size w9 wa := bA.trans ba
  clear hHeld
  refine hKK.out _ _ (unhide K _ bB) (fun hHeld => ?_)
  clear hKK KK
  refine ready_at (i := 3) rfl (by kernel_rfl) (fun KK hKK => ?_)
  go_simp
  refine (eqLedger_yes _ _ _ _ xs ys _ ((olx.below bB).ri hx hy) (oll.ri hx hy)).mono ?_
  rintro _ w10 ⟨rfl, bd⟩
  have bD : Below w9.heap.size w9 w10 := bB.trans (bd.mono bB.size)
  clear hHeld
  refine hKK.out _ _ (unhide K _ bD) (fun hHeld => ?_)
  clear hKK KK
  refine take_at (i := 4) (d := 49) (v := ?_) rfl rfl (by kernel_rfl) (by kernel_rfl) (by kernel_rfl) (fun _ _ _ h => h) (Or.inl ⟨by rfl, ?_⟩) (by assumption) ?_
  rotate_left
  · intro w hSw
    try dsimp only at hSw
    go_simp
    try with_reducible rfl
  simp only [Act.put, List.setIfInBounds_toArray, List.set_cons_zero, List.set_cons_succ]
  clear hHeld
  refine wpAnyH_done (by kernel_rfl) ?_ _
  refine NoPanic.normal ?_
  have Bw10 := Bw9.trans (bD.mono Bw9.size)
  have sw10 := bD.size
  replace L := L.below bD L.lt
  replace X := X.below bD X.lt
  replace os := os.below bD
  replace ox := ox.below bD
  replace og := og.below bD
  replace olx := olx.below bD
  clear Bw9
  clear K bA bB bD ba bd oll
  go_wp2_with fail
  refine (tmark_one _ lx ts _ (by omega) ox).mono ?_
  rintro _ w11 ⟨rfl, _, gm⟩
  have km := kp_grown gm
  clear ox
  have Bw11 := Below.kp Bw10 km Bw10.size (fun k hk => by have := tox _ hk; omega)
  have sw11 := km.size
  replace L := L.kp km (fun h => by have := tox _ h; omega)
  replace X := X.kp km (fun h => by have := tox _ h; omega)
  replace olx := olx.kp km (fun k _ _ h => by have := tox _ h; omega)
  replace os := os.kp km (fun j hj h => by have := tos j hj; have := tox _ h; omega)
  replace og := og.kp km (fun j hj h => by have := tog j hj; have := tox _ h; omega)
  clear Bw10
  clear km gm
  have q0 := X.cell 0 rfl
  have q1 := X.cell 1 rfl
  go_wp2_with fail
  clear q0 q1
  refine (markLedger_k (1 + ts.length * 4) _ _ _ _ xs ys _ _ (by omega) hx hy (by omega) (by omega) olx).mono ?_
  rintro _ w12 ⟨rfl, km⟩
  clear olx
  have Bw12 := Below.kp Bw11 km Bw11.size (fun k hk => by omega)
  have sw12 := km.size
  replace L := L.kp km (fun h => by omega)
  replace X := X.kp km (fun h => by omega)
  replace os := os.kp km (fun j hj h => by have := tos j hj; omega)
  replace og := og.kp km (fun j hj h => by have := tog j hj; omega)
  clear Bw11
  clear km
  go_wp2_with fail
  refine (eqTxS_yes _ _ r _ (og.rt (by omega)) (os.rt (by omega))).mono ?_
  rintro _ w13 ⟨rfl, bb⟩
  have Bw13 := Bw12.trans (bb.mono Bw12.size)
  have sw13 := bb.size
  replace L := L.below bb L.lt
  replace X := X.below bb X.lt
  replace os := os.below bb
  replace og := og.below bb
  clear Bw12
  clear bb
  go_wp2_with fail
  refine (tmark_one _ ug r _ (by omega) og).mono ?_
  rintro _ w14 ⟨rfl, om, gm⟩
  have km := kp_grown gm
  clear og
  have Bw14 := Below.kp Bw13 km Bw13.size (fun k hk => by have := tog _ hk; omega)
  have sw14 := km.size
  replace L := L.kp km (fun h => by have := tog _ h; omega)
  replace X := X.kp km (fun h => by have := tog _ h; omega)
  replace os := os.kp km (fun j hj h => by have := tos j hj; have := tog _ h; omega)
  clear Bw13
  clear km gm
  go_wp2_with fail
  refine (theld_one _ r.length _ (by omega) (om.rt (by rw [tmarks_len]; omega))).mono ?_
  rintro _ w15 ⟨rfl, bb⟩
  have Bw15 := Bw14.trans (bb.mono Bw14.size)
  have sw15 := bb.size
  replace L := L.below bb L.lt
  replace X := X.below bb X.lt
  replace os := os.below bb
  replace om := om.below bb
  clear Bw14
  clear bb
  have K : Hid (∀ w', Below w15.heap.size w15 w' → (w'.cell? ⟨w.heap.size, 0, none⟩ = some (.slice ao xs.length ca) ∧ w'.cell? ⟨w.heap.size, 1, none⟩ = some (.slice bo ys.length cb))) := hide fun w' hb => by
    have l := L.below hb L.lt
    exact ⟨l.cell 0 rfl, l.cell 1 rfl⟩
  have bA : Below w15.heap.size w15 w15.drew := Below.drew (Below.refl _ _)
  go_wp2_with fail
  refine wp_region_noPanic ?_
  refine wp_region_held_drew (S := (fun w' => (w'.cell? ⟨w.heap.size, 0, none⟩ = some (.slice ao xs.length ca) ∧ w'.cell? ⟨w.heap.size, 1, none⟩ = some (.slice bo ys.length cb)))) (by kernel_rfl) (unhide K _ bA) (fun hHeld => ?_)
  refine take_at (i := 0) (d := 75) (v := ?_) rfl rfl (by kernel_rfl) (by kernel_rfl) (by kernel_rfl) (fun _ _ _ h => h) (Or.inl ⟨by rfl, ?_⟩) (by assumption) ?_
  rotate_left
  · intro w hSw
    try dsimp only at hSw
    go_simp
    try with_reducible rfl
  simp only [Act.put, List.setIfInBounds_toArray, List.set_cons_zero, List.set_cons_succ]
  refine take_at (i := 2) (d := 77) (v := ?_) rfl rfl (by kernel_rfl) (by kernel_rfl) (by kernel_rfl) (fun _ _ _ h => h) (Or.inl ⟨by rfl, ?_⟩) (by assumption) ?_
  rotate_left
  · intro w hSw
    try dsimp only at hSw
    go_simp
    try with_reducible rfl
  simp only [Act.put, List.setIfInBounds_toArray, List.set_cons_zero, List.set_cons_succ]
  refine ready_at (i := 1) rfl (by kernel_rfl) (fun KK hKK => ?_)
  go_simp
  refine (unhide TT _ (unhide RL _ (Bw15.trans (bA.mono Bw15.size)))).mono ?_
  rintro _ wa ⟨la, rfl, ota, ba⟩
  have bB : Below w15.heap.size w15 wa := bA.trans ba
  clear hHeld
  refine hKK.out _ _ (unhide K _ bB) (fun hHeld => ?_)
  clear hKK KK
  refine ready_at (i := 3) rfl (by kernel_rfl) (fun KK hKK => ?_)
  go_simp
  refine (unhide TO _ (unhide RA _ (Bw15.trans (bB.mono Bw15.size)))).mono ?_
  rintro _ wb ⟨ul, vl, rfl, oll, bb⟩
  have bC : Below w15.heap.size w15 wb := bB.trans (bb.mono bB.size)
  replace ota := ota.below bb
  clear hHeld
  refine hKK.out _ _ (unhide K _ bC) (fun hHeld => ?_)
  clear hKK KK
  refine ready_at (i := 4) rfl (by kernel_rfl) (fun KK hKK => ?_)
  go_simp
  refine (unhide IM _ _ _ _ (ota.rt (by omega)) (oll.ri hx hy) (fun j hj => (World.ownsRow.lt ota j hj).2) (fun j hj => (World.ownsRow.lt oll.has j hj).2) (fun j hj => (World.ownsRow.lt oll.next j hj).2)).mono ?_
  rintro _ w16 ⟨uh, rfl, oh, bd⟩
  have bD : Below w15.heap.size w15 w16 := bC.trans (bd.mono bC.size)
  clear hHeld
  refine hKK.out _ _ (unhide K _ bD) (fun hHeld => ?_)
  clear hKK KK
  refine take_at (i := 5) (d := 13) (v := ?_) rfl rfl (by kernel_rfl) (by kernel_rfl) (by kernel_rfl) (fun _ _ _ h => h) (Or.inl ⟨by rfl, ?_⟩) (by assumption) ?_
  rotate_left
  · intro w hSw
    try dsimp only at hSw
    go_simp
    try with_reducible rfl
  simp only [Act.put, List.setIfInBounds_toArray, List.set_cons_zero, List.set_cons_succ]
  clear hHeld
  refine wpAnyH_done (by kernel_rfl) ?_ _
  refine NoPanic.normal ?_
  have Bw16 := Bw15.trans (bD.mono Bw15.size)
  have sw16 := bD.size
  replace L := L.below bD L.lt
  replace X := X.below bD X.lt
  replace os := os.below bD
  replace om := om.below bD
  clear Bw15
  have sC := bC.size
  clear K bA bB bC bD ba bb bd ota oll
  clear sC
  go_wp2_with fail
  refine (eqTxS_yes _ _ r _ (oh.rt (by omega)) (os.rt (by omega))).mono ?_
  rintro _ w17 ⟨rfl, bb⟩
  have Bw17 := Bw16.trans (bb.mono Bw16.size)
  have sw17 := bb.size
  replace L := L.below bb L.lt
  replace X := X.below bb X.lt
  replace os := os.below bb
  replace om := om.below bb
  replace oh := oh.below bb
  clear Bw16
  clear bb
  go_wp2_with fail
  refine (theld_one _ r.length _ (by omega) (om.rt (by rw [tmarks_len]; omega))).mono ?_
  rintro _ w18 ⟨rfl, bb⟩
  have Bw18 := Bw17.trans (bb.mono Bw17.size)
  have sw18 := bb.size
  replace L := L.below bb L.lt
  replace X := X.below bb X.lt
  replace os := os.below bb
  replace om := om.below bb
  replace oh := oh.below bb
  clear Bw17
  clear bb
  go_wp2
  go_ret
  exact ⟨rfl, Bw18⟩

theorem fnPoolTake_walk (lo_ ao bo : Option Addr) (lc ca cb : Nat) (ts : List T4) (xs ys : List Int) (w : World) (ht : ts.length ≤ maxLen) (hn : xs.length ≤ maxLen) (hm : ys.length ≤ maxLen) (hl : AR w lo_ ts) (ha : AI w ao xs) (hb : AI w bo ys) :
    Calls Try.prog 5 #[.slice lo_ ts.length lc, lv (.slice ao xs.length ca) (.slice bo ys.length cb)] w fun e w' => e = .returned (.bool true) ∧ Below w.heap.size w w' := by
  unfold maxLen at hn hm ht
  by_cases h : ts.length ≤ 1048576
  · by_cases h2 : ts.length + (xs.length + ys.length) ≤ 1048576
    · exact fnPoolTake_short lo_ ao bo lc ca cb ts xs ys w h2 hl ha hb
    · exact fnPoolTake_many lo_ ao bo ts.length lc xs.length ca ys.length cb w h (by omega) (by omega) (by omega)
  · exact fnPoolTake_long lo_ ts.length lc _ _ w (by omega) (by omega)
end Go.Proofs.Ythdehhenkgkkmaa

/- FnExactPoolTake: for every list of payments and every ledger the law answers true and leaves its arguments as they were; no condition. -/
namespace Go.Proofs.Ythdehhenkgkkmaa.fnExactPoolTake
open Go.ChangeShapes Go.WideShapes Go.ChangeAt Go.RowKit
open Go.Joins
set_option linter.unusedVariables false
set_option maxRecDepth 100000 in
theorem lifted (os : Os) (started : os.Started) (H : Type) (enc : TypeId × Value → H) :
    ReturnsInHanded {} Try.checked os 5 .any (Rows.fnExactPoolTakeSpec.pre6 enc Try.prog Try.f5 Rows.fnExactPoolTakeRow.domain false) (Rows.fnExactPoolTakeSpec.post enc Try.prog Try.f5 false true false false) := by
  have di0 : ∀ (a b c d : Int), Decidable (Ok4 a b c d) := fun a b c d => Classical.choice ((Classical.em (Ok4 a b c d)).elim (fun h => ⟨.isTrue h⟩) (fun h => ⟨.isFalse h⟩))
  have di1 : ∀ (m a b c d : Int), Decidable (In4 m a b c d) := fun m a b c d => Classical.choice ((Classical.em (In4 m a b c d)).elim (fun h => ⟨.isTrue h⟩) (fun h => ⟨.isFalse h⟩))
  have di2 : ∀ (xs ys : List Int), Decidable (LOk xs ys) := fun xs ys => Classical.choice ((Classical.em (LOk xs ys)).elim (fun h => ⟨.isTrue h⟩) (fun h => ⟨.isFalse h⟩))
  have di3 : ∀ (x y : T4), Decidable (Bef x y) := fun x y => Classical.choice ((Classical.em (Bef x y)).elim (fun h => ⟨.isTrue h⟩) (fun h => ⟨.isFalse h⟩))
  have di4 : ∀ (ts : List T4), Decidable (Asc ts) := fun ts => Classical.choice ((Classical.em (Asc ts)).elim (fun h => ⟨.isTrue h⟩) (fun h => ⟨.isFalse h⟩))
  have di5 : ∀ (ts : List T4), Decidable (AllOk ts) := fun ts => Classical.choice ((Classical.em (AllOk ts)).elim (fun h => ⟨.isTrue h⟩) (fun h => ⟨.isFalse h⟩))
  have di6 : ∀ (ts : List T4), Decidable (POk ts) := fun ts => Classical.choice ((Classical.em (POk ts)).elim (fun h => ⟨.isTrue h⟩) (fun h => ⟨.isFalse h⟩))
  have di7 : ∀ (r : List Int × List Int × Int), Decidable (Took r) := fun r => Classical.choice ((Classical.em (Took r)).elim (fun h => ⟨.isTrue h⟩) (fun h => ⟨.isFalse h⟩))
  have di8 : ∀ (xs ys : List Int) (x : T4), Decidable (Stays xs ys x) := fun xs ys x => Classical.choice ((Classical.em (Stays xs ys x)).elim (fun h => ⟨.isTrue h⟩) (fun h => ⟨.isFalse h⟩))
  refine returnsInHanded_of_change (C := Try.checked) own started (by kernel_rfl) Try.func5
    (ChangeSpec.witness6 (enc := enc) (C := Try.checked) false ⟨#[], #[.slice none 0 0, lv (.slice none 0 0) (.slice none 0 0)], []⟩ 8 (by kernel_rfl) (by kernel_rfl) (by kernel_rfl) (by kernel_rfl)) ?_
  intro W base args ds gs before hval0 hW hcnd _
  have hval : ∀ (j : Nat) t v, Try.f5.params[j]? = some t → args[j]? = some v → Value.okWide Try.prog W .any base t v := hval0
  have hW' := hW
  obtain ⟨p, q, hA0, hV, rfl, hfz, hnd⟩ := hW
  have hA : DataW.TrodAll enc Try.prog W 0 (fun _ => true) true Try.f5.params.toList args.toList ds p := hA0
  rw [Try.params5] at hA hval
  obtain ⟨v0, vs0, d0, ds0, p0, q0, hargs, rfl, rfl, h0, r0⟩ := trodAll_cons hA
  obtain ⟨v1, vs1, d1, ds1, p1, q1, rfl, rfl, rfl, h1, r1⟩ := trodAll_cons r0
  obtain ⟨rfl, rfl, rfl⟩ := trodAll_nil r1
  obtain rfl : args = #[v0, v1] := by cases args; simp_all
  obtain ⟨rfl, rfl⟩ := trodVars_none hV
  have k0 := h0
  have lt0 : ∀ x ∈ p0, x.block < W.heap.size := by obtain ⟨m, hm⟩ := k0; exact DataW.trod_lt m _ _ _ hm
  obtain ⟨al0, cl0, ts0, rfl, hl0, hr0⟩ := open_txs (hval 0 22 v0 rfl rfl) h0
  have k1 := h1
  have lt1 : ∀ x ∈ p1, x.block < W.heap.size := by obtain ⟨m, hm⟩ := k1; exact DataW.trod_lt m _ _ _ hm
  obtain ⟨ao1, ca1, bo1, cb1, xs1, ys1, rfl, hx1, hy1, ax1, ay1⟩ := open_ledger (hval 1 39 v1 rfl rfl) h1
  clear hA0 hval0
  refine (fnPoolTake_walk al0 ao1 bo1 cl0 ca1 cb1 ts0 xs1 ys1 W hl0 hx1 hy1 hr0 ax1 ay1).mono fun e W' ⟨he, bel⟩ => ?_
  subst he
  exact ⟨_, rfl, _, _, _, [], _, [], hW', trodAll_mk1 (shut_bool Try.underlying4 _), (trodAll_cons_mk (Below.trod laidOut (by kernel_rfl) (of_decide_eq_true (by kernel_rfl)) k0 bel lt0) (trodAll_cons_mk (Below.trod laidOut (by kernel_rfl) (of_decide_eq_true (by kernel_rfl)) k1 bel lt1) trodAll_mk0)), rfl, bel.frame _, fun h => by cases h⟩

theorem over : Rows.fnExactPoolTakeRow.holds Try.pinned (OpenSpec.ofChange Rows.fnExactPoolTakeSpec) :=
  OpenClaim.holds_of_wide 5 Try.f5 rfl rfl rfl rfl rfl rfl rfl ⟨rfl, rfl, rfl, rfl, rfl⟩ rfl rfl rfl rfl rfl (by kernel_rfl) Try.func5 (by kernel_rfl)
    (of_decide_eq_true (by kernel_rfl)) (by unfold Func.isWrapper; first | (rw [if_pos (by decide +kernel)]; kernel_rfl) | (rw [if_neg (by decide +kernel)]; exact ⟨rfl, rfl⟩))
    (fun os started H enc _ => lifted os started H enc)
end Go.Proofs.Ythdehhenkgkkmaa.fnExactPoolTake
namespace Go.Proofs.Ythdehhenkgkkmaa
theorem fnExactPoolTake_holds : Rows.FnExactPoolTakeSaid := fnExactPoolTake.over
#print axioms fnExactPoolTake_holds
end Go.Proofs.Ythdehhenkgkkmaa
