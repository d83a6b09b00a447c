/- DiskSpecA: what spec.Append answers. -/
import Derived.Test.YtkjpjgecongkpaaDiskSpec
namespace Go.Proofs.Ytkjpjgecongkpaa
open Go.RowKit

set_option maxHeartbeats 4000000 in
set_option maxRecDepth 100000 in
theorem specAppend_yes (ao : Option Addr) (n ca : Nat) (s : Int) (xs : List Int) (bo : Option Addr) (cb : Nat) (ys : List Int) (w : World) (hr : RB w (.slice ao n ca) xs) (hl : xs.length ≤ 1048576) (hr2 : RB w (.slice bo ys.length cb) ys) (hl2 : ys.length ≤ 1048576) (hd : dokB n s = true) (hd2 : dokB (n + ys.length) s = true) :
    Calls Try.prog 13 #[dv (.slice ao n ca) s, .slice bo ys.length cb] w fun e w' => ∃ u, e = .returned (.tuple #[dv u s, .bool true]) ∧ OB w' w.heap.size u (xs ++ ys) ∧ Below w.heap.size w w' := by
  have hn := (rb_len hr).1
  have hca := (rb_len hr).2
  have hna : n ≤ xs.length := by omega
  have hnb : xs.length ≤ n := by omega
  clear hn
  have HR := hide hr
  have HP := hide hr2.pb
  have HB := hide hr2
  have CP := hide fun w h => specCopy ao n ca s xs w h (by omega)
  have DK := hide fun w => specDiskOk ao n ca s w
  have DZ := hide fun a c w => specDiskOk a (xs ++ ys).length c s w
  have hzl : (xs ++ ys).length = n + ys.length := by rw [List.length_append]; omega
  have hz1 : (xs ++ ys).length ≤ 4194304 := by omega
  rw [hd] at DK
  rw [hzl, hd2] at DZ
  rw [← hzl] at DZ
  obtain ⟨zs, hzs⟩ : ∃ z, xs ++ ys = z := ⟨_, rfl⟩
  have HZ := hide hzs
  rw [hzs] at hzl hz1 DZ ⊢
  have hz2 : xs.length + ys.length ≤ 4194304 := by omega
  clear hr hd hzl hr2 hzs hd2
  obtain ⟨w0, hw0⟩ : ∃ w0, ((w.alloc (.cells #[.slice ao n ca, .int .i64 s] 25)).alloc (.cells #[.slice none 0 0, .int .i64 0] 25)) = w0 := ⟨_, rfl⟩
  have Bw0 : Below w.heap.size w w0 := hw0 ▸ ((Below.refl _ _).alloc (Nat.le_refl _) _).alloc (by simp) _
  have P : Loc w0 (w.heap.size) #[.slice ao n ca, .int .i64 s] := hw0 ▸ (loc_at (w) _ _ rfl).alloc _
  have R : Loc w0 (w.heap.size + 1) #[.slice none 0 0, .int .i64 0] := hw0 ▸ loc_at (w.alloc _) _ _ (by simp)
  have zw0 : w.heap.size + 1 + 1 ≤ w0.heap.size := by rw [← hw0]; simp
  go_enter Try.func13, Try.ntmps13
  have cP0 := P.cell 0 rfl
  have cP1 := P.cell 1 rfl
  go_wp2_with fail
  clear hw0
  refine (unhide CP _ ((unhide HR).below Bw0 (Nat.le_refl _))).mono ?_
  rintro _ w1 ⟨uX, rfl, oX, bb⟩
  clear cP0 cP1
  have Bw1 := Bw0.trans (bb.mono Bw0.size)
  have sw1 := bb.size
  replace P := P.below bb P.lt
  replace R := R.below bb R.lt
  clear Bw0
  clear bb
  have toX := World.ownsRow.lt oX
  obtain ⟨aoX, koX, rfl⟩ := oX.form
  obtain ⟨w2, hw2⟩ : ∃ x, w1.alloc (.cells #[.slice aoX xs.length koX, .int .i64 s] 25) = x := ⟨_, rfl⟩
  have bb : Below w1.heap.size w1 w2 := hw2 ▸ qalloc _ _
  have O : Loc w2 w1.heap.size #[.slice aoX xs.length koX, .int .i64 s] := hw2 ▸ loc_at w1 _ _ rfl
  have zw2 : w2.heap.size = w1.heap.size + 1 := by rw [← hw2]; simp
  have Bw2 := Bw1.trans (bb.mono Bw1.size)
  have sw2 := bb.size
  replace P := P.below bb P.lt
  replace R := R.below bb R.lt
  replace oX := oX.below bb
  clear Bw1
  clear bb
  have cO0 := O.cell 0 rfl
  have cO1 := O.cell 1 rfl
  have fO := O.frozen
  have PY := hide ((unhide HB).below Bw2 (Nat.le_refl _)).pb
  have OX := hide oX
  have zO := O.lt
  have oXb := World.ownsRow.lt oX
  go_upto_region 3 with (first | (at_builtin; refine append_bytes rfl _ _ rfl _ (.slice aoX xs.length koX) (.slice bo ys.length cb) xs ys rfl rfl (unhide OX) (unhide PY) (by omega) (by omega) ?_; intro u3 wA o3 gA hA; rw [unhide HZ] at o3; obtain ⟨u3a, u3c, hu3⟩ := o3.form; subst hu3; have OZ := hide o3; have HA := hide hA; have kA := hide (kp_grown gA); have OA := O.kp (kp_grown gA) (fun e => by have := toX _ e; omega); have cA0 := OA.cell 0 rfl; have cA1 := OA.cell 1 rfl; have fA := OA.frozen; clear o3 gA hA cO0 cO1 fO))
  clear hw2
  have kA' := unhide kA
  have zA := kA'.size
  have o3 := unhide OZ
  have hA := unhide HA
  have to3 : ∀ j, (Value.slice u3a zs.length u3c).ownBlock = some j → w.heap.size + 1 + 1 ≤ j ∧ j < wA.heap.size ∧ j ≠ w1.heap.size := fun j hj => by have h1 := World.ownsRow.lt o3 j hj; refine ⟨by omega, h1.2, ?_⟩; rcases hA with h | h <;> rw [h] at hj; (have := toX j hj; omega); (injection hj with hj; omega)
  replace P := P.kp kA' (fun e => by have := toX _ e; omega)
  replace R := R.kp kA' (fun e => by have := toX _ e; omega)
  replace O := OA
  have BwA : Below w.heap.size w wA := Below.kp Bw2 kA' Bw2.size (fun k hk => by have := toX k hk; omega)
  clear OZ HA kA kA' hA cA0 cA1 fA OA oX OX toX oXb PY Bw2
  obtain ⟨w3, hw3⟩ : ∃ w9_, (wA.setCell ⟨w1.heap.size, 0, none⟩ (.slice u3a zs.length u3c)) = w9_ := ⟨_, rfl⟩
  have kN : Kp wA w3 (fun k => k = w1.heap.size) := hw3 ▸ set_kp _ _ _ _
  replace O : Loc w3 (w1.heap.size) #[.slice u3a zs.length u3c, .int .i64 s] := hw3 ▸ (O.set 0 _ rfl)
  replace P := P.kp kN (by omega)
  replace R := R.kp kN (by omega)
  replace o3 := o3.kp kN (fun j hj e => by have := to3 j hj; omega)
  have Bw3 := Below.kp BwA kN BwA.size (fun k hk => by omega)
  have sw3 := kN.size
  rw [hw3]
  clear hw3 kN BwA
  have cP0 := P.cell 0 rfl
  have cP1 := P.cell 1 rfl
  go_wp2_with fail
  refine (unhide DK _).mono ?_
  rintro _ w4 ⟨rfl, bb⟩
  clear cP0 cP1
  have Bw4 := Bw3.trans (bb.mono Bw3.size)
  have sw4 := bb.size
  replace P := P.below bb P.lt
  replace R := R.below bb R.lt
  replace O := O.below bb O.lt
  replace o3 := o3.below bb
  clear Bw3
  clear bb
  have cO0 := O.cell 0 rfl
  have cO1 := O.cell 1 rfl
  go_wp2_with fail
  refine (unhide DZ _ _ _).mono ?_
  rintro _ w5 ⟨rfl, bb⟩
  clear cO0 cO1
  have Bw5 := Bw4.trans (bb.mono Bw4.size)
  have sw5 := bb.size
  replace P := P.below bb P.lt
  replace R := R.below bb R.lt
  replace O := O.below bb O.lt
  replace o3 := o3.below bb
  clear Bw4
  clear bb
  have cR0 := R.cell 0 rfl
  have cR1 := R.cell 1 rfl
  have cO0 := O.cell 0 rfl
  have cO1 := O.cell 1 rfl
  have fR := R.frozen
  go_wp2
  refine bodyPost_ret (v := .tuple #[dv (.slice u3a zs.length u3c) s, .bool true]) (by simp [results, Try.results13, go_sem, cR0, cR1]) rfl ?_
  have Q : Kp w5 ((w5.setCell ⟨w.heap.size + 1, 0, none⟩ (.slice u3a zs.length u3c)).setCell ⟨w.heap.size + 1, 1, none⟩ (.int .i64 s)) (fun k => k = w.heap.size + 1) := (set_kp _ _ _ _).trans (set_kp _ _ _ _)
  have tz := World.ownsRow.lt o3
  exact ⟨_, rfl, (OB.kp o3 Q (fun j hj e => by have := tz j hj; omega)).mono (by omega), Below.kp Bw5 Q (by omega) (fun k hk => by omega)⟩
set_option maxHeartbeats 4000000 in
set_option maxRecDepth 100000 in
theorem specAppend_no1 (ao : Option Addr) (n ca : Nat) (s : Int) (xs : List Int) (bo : Option Addr) (cb : Nat) (ys : List Int) (w : World) (hr : RB w (.slice ao n ca) xs) (hl : xs.length ≤ 1048576) (hr2 : RB w (.slice bo ys.length cb) ys) (hl2 : ys.length ≤ 1048576) (hd : dokB n s = false) :
    Calls Try.prog 13 #[dv (.slice ao n ca) s, .slice bo ys.length cb] w fun e w' => ∃ u, e = .returned (.tuple #[dv u s, .bool false]) ∧ OB w' w.heap.size u (xs) ∧ Below w.heap.size w w' := by
  have hn := (rb_len hr).1
  have hca := (rb_len hr).2
  have hna : n ≤ xs.length := by omega
  have hnb : xs.length ≤ n := by omega
  clear hn
  have HR := hide hr
  have HP := hide hr2.pb
  have HB := hide hr2
  have CP := hide fun w h => specCopy ao n ca s xs w h (by omega)
  have DK := hide fun w => specDiskOk ao n ca s w
  have DZ := hide fun a c w => specDiskOk a (xs ++ ys).length c s w
  have hzl : (xs ++ ys).length = n + ys.length := by rw [List.length_append]; omega
  have hz1 : (xs ++ ys).length ≤ 4194304 := by omega
  rw [hd] at DK
  obtain ⟨zs, hzs⟩ : ∃ z, xs ++ ys = z := ⟨_, rfl⟩
  have HZ := hide hzs
  rw [hzs] at hzl hz1 DZ
  have hz2 : xs.length + ys.length ≤ 4194304 := by omega
  clear hr hd hzl hr2 hzs
  obtain ⟨w0, hw0⟩ : ∃ w0, ((w.alloc (.cells #[.slice ao n ca, .int .i64 s] 25)).alloc (.cells #[.slice none 0 0, .int .i64 0] 25)) = w0 := ⟨_, rfl⟩
  have Bw0 : Below w.heap.size w w0 := hw0 ▸ ((Below.refl _ _).alloc (Nat.le_refl _) _).alloc (by simp) _
  have P : Loc w0 (w.heap.size) #[.slice ao n ca, .int .i64 s] := hw0 ▸ (loc_at (w) _ _ rfl).alloc _
  have R : Loc w0 (w.heap.size + 1) #[.slice none 0 0, .int .i64 0] := hw0 ▸ loc_at (w.alloc _) _ _ (by simp)
  have zw0 : w.heap.size + 1 + 1 ≤ w0.heap.size := by rw [← hw0]; simp
  go_enter Try.func13, Try.ntmps13
  have cP0 := P.cell 0 rfl
  have cP1 := P.cell 1 rfl
  go_wp2_with fail
  clear hw0
  refine (unhide CP _ ((unhide HR).below Bw0 (Nat.le_refl _))).mono ?_
  rintro _ w1 ⟨uX, rfl, oX, bb⟩
  clear cP0 cP1
  have Bw1 := Bw0.trans (bb.mono Bw0.size)
  have sw1 := bb.size
  replace P := P.below bb P.lt
  replace R := R.below bb R.lt
  clear Bw0
  clear bb
  have toX := World.ownsRow.lt oX
  obtain ⟨aoX, koX, rfl⟩ := oX.form
  obtain ⟨w2, hw2⟩ : ∃ x, w1.alloc (.cells #[.slice aoX xs.length koX, .int .i64 s] 25) = x := ⟨_, rfl⟩
  have bb : Below w1.heap.size w1 w2 := hw2 ▸ qalloc _ _
  have O : Loc w2 w1.heap.size #[.slice aoX xs.length koX, .int .i64 s] := hw2 ▸ loc_at w1 _ _ rfl
  have zw2 : w2.heap.size = w1.heap.size + 1 := by rw [← hw2]; simp
  have Bw2 := Bw1.trans (bb.mono Bw1.size)
  have sw2 := bb.size
  replace P := P.below bb P.lt
  replace R := R.below bb R.lt
  replace oX := oX.below bb
  clear Bw1
  clear bb
  have cO0 := O.cell 0 rfl
  have cO1 := O.cell 1 rfl
  have fO := O.frozen
  have PY := hide ((unhide HB).below Bw2 (Nat.le_refl _)).pb
  have OX := hide oX
  have zO := O.lt
  have oXb := World.ownsRow.lt oX
  go_upto_region 3 with (first | (at_builtin; refine append_bytes rfl _ _ rfl _ (.slice aoX xs.length koX) (.slice bo ys.length cb) xs ys rfl rfl (unhide OX) (unhide PY) (by omega) (by omega) ?_; intro u3 wA o3 gA hA; rw [unhide HZ] at o3; obtain ⟨u3a, u3c, hu3⟩ := o3.form; subst hu3; have OZ := hide o3; have HA := hide hA; have kA := hide (kp_grown gA); have OA := O.kp (kp_grown gA) (fun e => by have := toX _ e; omega); have cA0 := OA.cell 0 rfl; have cA1 := OA.cell 1 rfl; have fA := OA.frozen; clear o3 gA hA cO0 cO1 fO))
  clear hw2
  have kA' := unhide kA
  have zA := kA'.size
  have o3 := unhide OZ
  have hA := unhide HA
  have to3 : ∀ j, (Value.slice u3a zs.length u3c).ownBlock = some j → w.heap.size + 1 + 1 ≤ j ∧ j < wA.heap.size ∧ j ≠ w1.heap.size := fun j hj => by have h1 := World.ownsRow.lt o3 j hj; refine ⟨by omega, h1.2, ?_⟩; rcases hA with h | h <;> rw [h] at hj; (have := toX j hj; omega); (injection hj with hj; omega)
  replace P := P.kp kA' (fun e => by have := toX _ e; omega)
  replace R := R.kp kA' (fun e => by have := toX _ e; omega)
  replace O := OA
  have BwA : Below w.heap.size w wA := Below.kp Bw2 kA' Bw2.size (fun k hk => by have := toX k hk; omega)
  clear OZ HA kA kA' hA cA0 cA1 fA OA oX OX toX oXb PY Bw2
  obtain ⟨w3, hw3⟩ : ∃ w9_, (wA.setCell ⟨w1.heap.size, 0, none⟩ (.slice u3a zs.length u3c)) = w9_ := ⟨_, rfl⟩
  have kN : Kp wA w3 (fun k => k = w1.heap.size) := hw3 ▸ set_kp _ _ _ _
  replace O : Loc w3 (w1.heap.size) #[.slice u3a zs.length u3c, .int .i64 s] := hw3 ▸ (O.set 0 _ rfl)
  replace P := P.kp kN (by omega)
  replace R := R.kp kN (by omega)
  replace o3 := o3.kp kN (fun j hj e => by have := to3 j hj; omega)
  have Bw3 := Below.kp BwA kN BwA.size (fun k hk => by omega)
  have sw3 := kN.size
  rw [hw3]
  clear hw3 kN BwA
  have cP0 := P.cell 0 rfl
  have cP1 := P.cell 1 rfl
  go_wp2_with fail
  refine (unhide DK _).mono ?_
  rintro _ w4 ⟨rfl, bb⟩
  clear cP0 cP1
  have Bw4 := Bw3.trans (bb.mono Bw3.size)
  have sw4 := bb.size
  replace P := P.below bb P.lt
  replace R := R.below bb R.lt
  replace O := O.below bb O.lt
  replace o3 := o3.below bb
  clear Bw3
  clear bb
  have cP0 := P.cell 0 rfl
  have cP1 := P.cell 1 rfl
  go_wp2_with fail
  refine (unhide CP _ ((unhide HR).below Bw4 (Nat.le_refl _))).mono ?_
  rintro _ w5 ⟨uY, rfl, oY, bb⟩
  clear cP0 cP1
  have Bw5 := Bw4.trans (bb.mono Bw4.size)
  have sw5 := bb.size
  replace P := P.below bb P.lt
  replace R := R.below bb R.lt
  replace O := O.below bb O.lt
  replace o3 := o3.below bb
  clear Bw4
  clear bb
  have toY := World.ownsRow.lt oY
  obtain ⟨aoY, koY, rfl⟩ := oY.form
  have cR0 := R.cell 0 rfl
  have cR1 := R.cell 1 rfl
  have fR := R.frozen
  go_wp2
  refine bodyPost_ret (v := .tuple #[dv (.slice aoY xs.length koY) s, .bool false]) (by simp [results, Try.results13, go_sem, cR0, cR1]) rfl ?_
  have Q : Kp w5 ((w5.setCell ⟨w.heap.size + 1, 0, none⟩ (.slice aoY xs.length koY)).setCell ⟨w.heap.size + 1, 1, none⟩ (.int .i64 s)) (fun k => k = w.heap.size + 1) := (set_kp _ _ _ _).trans (set_kp _ _ _ _)
  have tz := World.ownsRow.lt oY
  exact ⟨_, rfl, (OB.kp oY Q (fun j hj e => by have := tz j hj; omega)).mono (by omega), Below.kp Bw5 Q (by omega) (fun k hk => by omega)⟩
set_option maxHeartbeats 4000000 in
set_option maxRecDepth 100000 in
theorem specAppend_no2 (ao : Option Addr) (n ca : Nat) (s : Int) (xs : List Int) (bo : Option Addr) (cb : Nat) (ys : List Int) (w : World) (hr : RB w (.slice ao n ca) xs) (hl : xs.length ≤ 1048576) (hr2 : RB w (.slice bo ys.length cb) ys) (hl2 : ys.length ≤ 1048576) (hd : dokB n s = true) (hd2 : dokB (n + ys.length) s = false) :
    Calls Try.prog 13 #[dv (.slice ao n ca) s, .slice bo ys.length cb] w fun e w' => ∃ u, e = .returned (.tuple #[dv u s, .bool false]) ∧ OB w' w.heap.size u (xs) ∧ Below w.heap.size w w' := by
  have hn := (rb_len hr).1
  have hca := (rb_len hr).2
  have hna : n ≤ xs.length := by omega
  have hnb : xs.length ≤ n := by omega
  clear hn
  have HR := hide hr
  have HP := hide hr2.pb
  have HB := hide hr2
  have CP := hide fun w h => specCopy ao n ca s xs w h (by omega)
  have DK := hide fun w => specDiskOk ao n ca s w
  have DZ := hide fun a c w => specDiskOk a (xs ++ ys).length c s w
  have hzl : (xs ++ ys).length = n + ys.length := by rw [List.length_append]; omega
  have hz1 : (xs ++ ys).length ≤ 4194304 := by omega
  rw [hd] at DK
  rw [hzl, hd2] at DZ
  rw [← hzl] at DZ
  obtain ⟨zs, hzs⟩ : ∃ z, xs ++ ys = z := ⟨_, rfl⟩
  have HZ := hide hzs
  rw [hzs] at hzl hz1 DZ
  have hz2 : xs.length + ys.length ≤ 4194304 := by omega
  clear hr hd hzl hr2 hzs hd2
  obtain ⟨w0, hw0⟩ : ∃ w0, ((w.alloc (.cells #[.slice ao n ca, .int .i64 s] 25)).alloc (.cells #[.slice none 0 0, .int .i64 0] 25)) = w0 := ⟨_, rfl⟩
  have Bw0 : Below w.heap.size w w0 := hw0 ▸ ((Below.refl _ _).alloc (Nat.le_refl _) _).alloc (by simp) _
  have P : Loc w0 (w.heap.size) #[.slice ao n ca, .int .i64 s] := hw0 ▸ (loc_at (w) _ _ rfl).alloc _
  have R : Loc w0 (w.heap.size + 1) #[.slice none 0 0, .int .i64 0] := hw0 ▸ loc_at (w.alloc _) _ _ (by simp)
  have zw0 : w.heap.size + 1 + 1 ≤ w0.heap.size := by rw [← hw0]; simp
  go_enter Try.func13, Try.ntmps13
  have cP0 := P.cell 0 rfl
  have cP1 := P.cell 1 rfl
  go_wp2_with fail
  clear hw0
  refine (unhide CP _ ((unhide HR).below Bw0 (Nat.le_refl _))).mono ?_
  rintro _ w1 ⟨uX, rfl, oX, bb⟩
  clear cP0 cP1
  have Bw1 := Bw0.trans (bb.mono Bw0.size)
  have sw1 := bb.size
  replace P := P.below bb P.lt
  replace R := R.below bb R.lt
  clear Bw0
  clear bb
  have toX := World.ownsRow.lt oX
  obtain ⟨aoX, koX, rfl⟩ := oX.form
  obtain ⟨w2, hw2⟩ : ∃ x, w1.alloc (.cells #[.slice aoX xs.length koX, .int .i64 s] 25) = x := ⟨_, rfl⟩
  have bb : Below w1.heap.size w1 w2 := hw2 ▸ qalloc _ _
  have O : Loc w2 w1.heap.size #[.slice aoX xs.length koX, .int .i64 s] := hw2 ▸ loc_at w1 _ _ rfl
  have zw2 : w2.heap.size = w1.heap.size + 1 := by rw [← hw2]; simp
  have Bw2 := Bw1.trans (bb.mono Bw1.size)
  have sw2 := bb.size
  replace P := P.below bb P.lt
  replace R := R.below bb R.lt
  replace oX := oX.below bb
  clear Bw1
  clear bb
  have cO0 := O.cell 0 rfl
  have cO1 := O.cell 1 rfl
  have fO := O.frozen
  have PY := hide ((unhide HB).below Bw2 (Nat.le_refl _)).pb
  have OX := hide oX
  have zO := O.lt
  have oXb := World.ownsRow.lt oX
  go_upto_region 3 with (first | (at_builtin; refine append_bytes rfl _ _ rfl _ (.slice aoX xs.length koX) (.slice bo ys.length cb) xs ys rfl rfl (unhide OX) (unhide PY) (by omega) (by omega) ?_; intro u3 wA o3 gA hA; rw [unhide HZ] at o3; obtain ⟨u3a, u3c, hu3⟩ := o3.form; subst hu3; have OZ := hide o3; have HA := hide hA; have kA := hide (kp_grown gA); have OA := O.kp (kp_grown gA) (fun e => by have := toX _ e; omega); have cA0 := OA.cell 0 rfl; have cA1 := OA.cell 1 rfl; have fA := OA.frozen; clear o3 gA hA cO0 cO1 fO))
  clear hw2
  have kA' := unhide kA
  have zA := kA'.size
  have o3 := unhide OZ
  have hA := unhide HA
  have to3 : ∀ j, (Value.slice u3a zs.length u3c).ownBlock = some j → w.heap.size + 1 + 1 ≤ j ∧ j < wA.heap.size ∧ j ≠ w1.heap.size := fun j hj => by have h1 := World.ownsRow.lt o3 j hj; refine ⟨by omega, h1.2, ?_⟩; rcases hA with h | h <;> rw [h] at hj; (have := toX j hj; omega); (injection hj with hj; omega)
  replace P := P.kp kA' (fun e => by have := toX _ e; omega)
  replace R := R.kp kA' (fun e => by have := toX _ e; omega)
  replace O := OA
  have BwA : Below w.heap.size w wA := Below.kp Bw2 kA' Bw2.size (fun k hk => by have := toX k hk; omega)
  clear OZ HA kA kA' hA cA0 cA1 fA OA oX OX toX oXb PY Bw2
  obtain ⟨w3, hw3⟩ : ∃ w9_, (wA.setCell ⟨w1.heap.size, 0, none⟩ (.slice u3a zs.length u3c)) = w9_ := ⟨_, rfl⟩
  have kN : Kp wA w3 (fun k => k = w1.heap.size) := hw3 ▸ set_kp _ _ _ _
  replace O : Loc w3 (w1.heap.size) #[.slice u3a zs.length u3c, .int .i64 s] := hw3 ▸ (O.set 0 _ rfl)
  replace P := P.kp kN (by omega)
  replace R := R.kp kN (by omega)
  replace o3 := o3.kp kN (fun j hj e => by have := to3 j hj; omega)
  have Bw3 := Below.kp BwA kN BwA.size (fun k hk => by omega)
  have sw3 := kN.size
  rw [hw3]
  clear hw3 kN BwA
  have cP0 := P.cell 0 rfl
  have cP1 := P.cell 1 rfl
  go_wp2_with fail
  refine (unhide DK _).mono ?_
  rintro _ w4 ⟨rfl, bb⟩
  clear cP0 cP1
  have Bw4 := Bw3.trans (bb.mono Bw3.size)
  have sw4 := bb.size
  replace P := P.below bb P.lt
  replace R := R.below bb R.lt
  replace O := O.below bb O.lt
  replace o3 := o3.below bb
  clear Bw3
  clear bb
  have cO0 := O.cell 0 rfl
  have cO1 := O.cell 1 rfl
  go_wp2_with fail
  refine (unhide DZ _ _ _).mono ?_
  rintro _ w5 ⟨rfl, bb⟩
  clear cO0 cO1
  have Bw5 := Bw4.trans (bb.mono Bw4.size)
  have sw5 := bb.size
  replace P := P.below bb P.lt
  replace R := R.below bb R.lt
  replace O := O.below bb O.lt
  replace o3 := o3.below bb
  clear Bw4
  clear bb
  have cP0 := P.cell 0 rfl
  have cP1 := P.cell 1 rfl
  go_wp2_with fail
  refine (unhide CP _ ((unhide HR).below Bw5 (Nat.le_refl _))).mono ?_
  rintro _ w6 ⟨uY, rfl, oY, bb⟩
  clear cP0 cP1
  have Bw6 := Bw5.trans (bb.mono Bw5.size)
  have sw6 := bb.size
  replace P := P.below bb P.lt
  replace R := R.below bb R.lt
  replace O := O.below bb O.lt
  replace o3 := o3.below bb
  clear Bw5
  clear bb
  have toY := World.ownsRow.lt oY
  obtain ⟨aoY, koY, rfl⟩ := oY.form
  have cR0 := R.cell 0 rfl
  have cR1 := R.cell 1 rfl
  have fR := R.frozen
  go_wp2
  refine bodyPost_ret (v := .tuple #[dv (.slice aoY xs.length koY) s, .bool false]) (by simp [results, Try.results13, go_sem, cR0, cR1]) rfl ?_
  have Q : Kp w6 ((w6.setCell ⟨w.heap.size + 1, 0, none⟩ (.slice aoY xs.length koY)).setCell ⟨w.heap.size + 1, 1, none⟩ (.int .i64 s)) (fun k => k = w.heap.size + 1) := (set_kp _ _ _ _).trans (set_kp _ _ _ _)
  have tz := World.ownsRow.lt oY
  exact ⟨_, rfl, (OB.kp oY Q (fun j hj e => by have := tz j hj; omega)).mono (by omega), Below.kp Bw6 Q (by omega) (fun k hk => by omega)⟩
theorem apd_iff {n m : Nat} {s : Int} : apdB n m s = (dokB n s && dokB (n + m) s) := by
  unfold apdB
  by_cases h : dokB n s = true
  · obtain ⟨h1, h2, h3⟩ := dok_iff.1 h
    have h4 : 0 ≤ s ∧ s ≤ ((n + m : Nat) : Int) := by omega
    simp only [h, Bool.true_and]
    unfold dokB
    simp [h4.1]
    omega
  · simp only [Bool.not_eq_true] at h
    simp [h]
end Go.Proofs.Ytkjpjgecongkpaa
