/- DiskSpec: what spec.l13Copy, Sync, FallTo, Append answer. -/
import Derived.Test.YtkjpjgecongkpaaDiskFns
import Derived.Deep.DeepCutAuto
import Derived.RegionTactic
namespace Go.Proofs.Ytkjpjgecongkpaa
open Go.RowKit

theorem rb_front {w : World} {ao : Option Addr} {n ca : Nat} {xs : List Int} (h : RB w (.slice ao n ca) xs) (k : Nat) (hk : k ≤ xs.length) : RB w (.slice ao k ca) (xs.take k) := by
  obtain ⟨hl, a, c, e, hc, h⟩ := h
  injection e with e1 e2 e3
  subst e1 e3
  have ek : (xs.take k).length = k := by simp; omega
  refine ⟨by omega, ao, ca, by rw [ek], ⟨by omega, hc.2⟩, ?_⟩
  rcases h with h | ⟨b, off, e, h⟩
  · subst h; exact .inl (by simp)
  · refine .inr ⟨b, off, e, fun j hj => ?_⟩
    rw [ek] at hj
    rw [h j (by omega)]
    simp [hj]
set_option maxHeartbeats 4000000 in
set_option maxRecDepth 100000 in
theorem specCopy (ao : Option Addr) (n ca : Nat) (s : Int) (xs : List Int) (w : World) (hr : RB w (.slice ao n ca) xs) (hl : xs.length ≤ 4194304) :
    Calls Try.prog 36 #[dv (.slice ao n ca) s] w fun e w' => ∃ u, e = .returned (dv u s) ∧ OB w' w.heap.size u xs ∧ Below w.heap.size w w' := by
  have hn : xs.length = n := (rb_len hr).1.symm
  obtain ⟨w1, hw1⟩ : ∃ y, (w.alloc (.cells #[.slice ao n ca, .int .i64 s] 25)).alloc (.cells #[.slice none 0 0, .int .i64 0] 25) = y := ⟨_, rfl⟩
  have b1 : Below w.heap.size w w1 := hw1 ▸ qalloc2 _ _ _
  have L1 : Loc w1 w.heap.size #[.slice ao n ca, .int .i64 s] := hw1 ▸ Loc.alloc (loc_at w _ _ rfl) _
  have R1 : Loc w1 (w.heap.size + 1) #[.slice none 0 0, .int .i64 0] := hw1 ▸ loc_at (w.alloc _) _ _ (by simp)
  have P1 : PB w1 (.slice ao n ca) xs := (hr.below b1 (Nat.le_refl _)).pb
  have z1 : w.heap.size + 1 + 1 ≤ w1.heap.size := hw1 ▸ (by simp)
  have HN := hide hn
  have HW := hide hw1
  clear hr hw1 hn
  go_enter Try.func36, Try.ntmps36
  go_upto_region 1 with fail
  rw [unhide HW]
  clear HW
  have hn := unhide HN
  have K : Hid (∀ w', Kp w1 w' (fun k => k = w.heap.size + 1) → (fun w' => w'.cell? ⟨w.heap.size, 0, none⟩ = some (.slice ao n ca) ∧ w'.cell? ⟨w.heap.size, 1, none⟩ = some (.int .i64 s)) w') := hide fun w' hk' => ⟨hk'.cell (L1.cell 0 rfl) (by simp), hk'.cell (L1.cell 1 rfl) (by simp)⟩
  obtain ⟨wd, hwd⟩ : ∃ y, w1.drew = y := ⟨_, rfl⟩
  have bd : Below w1.heap.size w1 wd := hwd ▸ Below.drew (Below.refl _ _)
  have szd := bd.size
  have PD := P1.below bd
  refine wp_region_noPanic ?_
  refine wp_region_held_drew (S := fun w' => w'.cell? ⟨w.heap.size, 0, none⟩ = some (.slice ao n ca) ∧ w'.cell? ⟨w.heap.size, 1, none⟩ = some (.int .i64 s)) (by kernel_rfl) (hwd ▸ unhide K _ (Below.kpOf bd _)) (fun hHeld => ?_)
  rw [hwd] at hHeld ⊢
  clear hwd
  refine take_at (i := 1) (d := 4) (v := ?_) rfl rfl (by kernel_rfl) (by kernel_rfl) (by kernel_rfl) (fun _ _ _ h => h) (Or.inl ⟨by rfl, ?_⟩) (by assumption) ?_
  rotate_left
  · intro w hSw
    try dsimp only at hSw
    go_simp
    try with_reducible rfl
  simp only [Act.put, List.setIfInBounds_toArray, List.set_cons_zero, List.set_cons_succ]
  refine take_at (i := 2) (d := 5) (v := ?_) rfl rfl (by kernel_rfl) (by kernel_rfl) (by kernel_rfl) (fun _ _ _ h => h) (Or.inl ⟨by rfl, ?_⟩) (by assumption) ?_
  rotate_left
  · intro w hSw
    try dsimp only at hSw
    go_simp
    try with_reducible rfl
  simp only [Act.put, List.setIfInBounds_toArray, List.set_cons_zero, List.set_cons_succ]
  refine take_at (i := 4) (d := 7) (v := ?_) rfl rfl (by kernel_rfl) (by kernel_rfl) (by kernel_rfl) (fun _ _ _ h => h) (Or.inl ⟨by rfl, ?_⟩) (by assumption) ?_
  rotate_left
  · intro w hSw
    try dsimp only at hSw
    go_simp
    try with_reducible rfl
  simp only [Act.put, List.setIfInBounds_toArray, List.set_cons_zero, List.set_cons_succ]
  refine take_at (i := 5) (d := 8) (v := ?_) rfl rfl (by kernel_rfl) (by kernel_rfl) (by kernel_rfl) (fun _ _ _ h => h) (Or.inl ⟨by rfl, ?_⟩) (by assumption) ?_
  rotate_left
  · intro w hSw
    try dsimp only at hSw
    go_simp
    try with_reducible rfl
  simp only [Act.put, List.setIfInBounds_toArray, List.set_cons_zero, List.set_cons_succ]
  refine ready_at (i := 0) rfl (by kernel_rfl) (fun KK hKK => ?_)
  go_simp
  obtain ⟨wb, hq⟩ : ∃ y, wd.alloc (.cells #[] 5) = y := ⟨_, rfl⟩
  have bl : Below wd.heap.size wd wb := hq ▸ qalloc _ _
  have bb : Below w1.heap.size w1 wb := bd.trans (bl.mono bd.size)
  have O0 : OB wb wd.heap.size (.slice (some ⟨wd.heap.size, 0, none⟩) 0 0) [] := hq ▸ World.ownsRow_lit wd #[] 0 (Nat.le_refl _) (by unfold maxLen; omega) rfl
  have zq : wb.heap.size = wd.heap.size + 1 := by rw [← hq]; simp
  rw [hq]
  clear hq
  clear hHeld
  refine hKK.out _ _ (unhide K _ (Below.kpOf bb _)) (fun hHeld => ?_)
  clear hKK KK
  refine ready_at (i := 3) rfl (by kernel_rfl) (fun KK hKK => ?_)
  refine step_append_bytes rfl (.tmp 3) (.tmp 5) rfl wd.heap.size (.slice (some ⟨wd.heap.size, 0, none⟩) 0 0) (.slice ao n ca) [] xs rfl rfl O0 (PD.below bl) (by simp; omega) (by omega) ?_
  intro u wa O g7 hown
  have ba : Below w1.heap.size w1 wa := bb.grown g7 bb.size (fun j hj => by simp [Value.ownBlock] at hj; omega)
  rw [List.nil_append] at O
  have q7 := g7.size
  have tO := World.ownsRow.lt O
  obtain ⟨ua, uc, rfl⟩ := O.form
  rw [hn] at O tO hown ⊢
  clear hHeld
  refine hKK.out _ _ (unhide K _ (Below.kpOf ba _)) (fun hHeld => ?_)
  clear hKK KK
  refine take_at (i := 6) (d := 9) (v := ?_) rfl rfl (by kernel_rfl) (by kernel_rfl) (by kernel_rfl) (fun _ _ _ h => h) (Or.inl ⟨by rfl, ?_⟩) (by assumption) ?_
  rotate_left
  · intro w hSw
    try dsimp only at hSw
    go_simp
    try with_reducible rfl
  simp only [Act.put, List.setIfInBounds_toArray]
  have Rq := R1.below ba R1.lt
  have q0 := Rq.cell 0 rfl
  have q1 := Rq.cell 1 rfl
  have FG := Rq.frozen
  refine ready_at (i := 7) rfl (by kernel_rfl) (fun KK hKK => ?_)
  go_simp
  obtain ⟨w5, hw5⟩ : ∃ y, (wa.setCell ⟨w.heap.size + 1, 0, none⟩ (.slice ua n uc)).setCell ⟨w.heap.size + 1, 1, none⟩ (.int .i64 s) = y := ⟨_, rfl⟩
  have k5 : Kp wa w5 (fun k => k = w.heap.size + 1) := hw5 ▸ (set_kp _ _ _ _).trans (set_kp _ _ _ _)
  have R5 : Loc w5 (w.heap.size + 1) #[.slice ua n uc, .int .i64 s] := hw5 ▸ (Rq.set 0 _ rfl).set 1 _ rfl
  have bs : Kp w1 w5 (fun k => k = w.heap.size + 1) := (Below.kpOf ba _).trans k5
  rw [hw5]
  clear hw5 q0 q1 FG
  clear hHeld
  refine hKK.out _ _ (unhide K _ bs) (fun hHeld => ?_)
  clear hKK KK
  clear hHeld
  refine wpAnyH_done (by kernel_rfl) ?_ _
  refine NoPanic.normal ?_
  have O5 : OB w5 w1.heap.size (.slice ua n uc) xs := (O.kp k5 (fun j hj e => by have := (tO j hj).1; omega)).mono bd.size
  have r0 := R5.cell 0 rfl
  have r1 := R5.cell 1 rfl
  have sz5 := bs.size
  clear K O Rq tO hown g7 bl bb ba PD P1 L1 R1
  go_wp2
  refine bodyPost_ret (v := dv (.slice ua n uc) s) (by simp [results, Try.results36, go_sem, r0, r1]) rfl ?_
  exact ⟨_, rfl, O5.mono (by omega), Below.kp b1 bs b1.size (fun k hk => by omega)⟩
set_option maxHeartbeats 4000000 in
set_option maxRecDepth 100000 in
theorem specSync_yes (ao : Option Addr) (n ca : Nat) (s : Int) (xs : List Int) (w : World) (hr : RB w (.slice ao n ca) xs) (hl : xs.length ≤ 1048576) (hd : dokB n s = true) :
    Calls Try.prog 17 #[dv (.slice ao n ca) s] w fun e w' => ∃ u, e = .returned (dv u (n : Int)) ∧ OB w' w.heap.size u (xs) ∧ Below w.heap.size w w' := by
  have hn := (rb_len hr).1
  have hna : n ≤ xs.length := by omega
  have hnb : xs.length ≤ n := by omega
  clear hn
  have HR := hide hr
  have CP := hide fun w h => specCopy ao n ca s xs w h (by omega)
  have DK := hide fun w => specDiskOk ao n ca s w
  rw [hd] at DK
  clear hr hd
  obtain ⟨w0, hw0⟩ : ∃ w0, ((w.alloc (.cells #[.slice ao n ca, .int .i64 s] 25)).alloc (.cells #[.slice none 0 0, .int .i64 0] 25)) = w0 := ⟨_, rfl⟩
  have Bw0 : Below w.heap.size w w0 := hw0 ▸ ((Below.refl _ _).alloc (Nat.le_refl _) _).alloc (by simp) _
  have P : Loc w0 (w.heap.size) #[.slice ao n ca, .int .i64 s] := hw0 ▸ (loc_at (w) _ _ rfl).alloc _
  have R : Loc w0 (w.heap.size + 1) #[.slice none 0 0, .int .i64 0] := hw0 ▸ loc_at (w.alloc _) _ _ (by simp)
  have zw0 : w.heap.size + 1 + 1 ≤ w0.heap.size := by rw [← hw0]; simp
  go_enter Try.func17, Try.ntmps17
  have cP0 := P.cell 0 rfl
  have cP1 := P.cell 1 rfl
  go_wp2_with fail
  clear hw0
  refine (unhide CP _ ((unhide HR).below Bw0 (Nat.le_refl _))).mono ?_
  rintro _ w1 ⟨uX, rfl, oX, bb⟩
  clear cP0 cP1
  have Bw1 := Bw0.trans (bb.mono Bw0.size)
  have sw1 := bb.size
  replace P := P.below bb P.lt
  replace R := R.below bb R.lt
  clear Bw0
  clear bb
  have toX := World.ownsRow.lt oX
  obtain ⟨aoX, koX, rfl⟩ := oX.form
  obtain ⟨w2, hw2⟩ : ∃ x, w1.alloc (.cells #[.slice aoX xs.length koX, .int .i64 s] 25) = x := ⟨_, rfl⟩
  have bb : Below w1.heap.size w1 w2 := hw2 ▸ qalloc _ _
  have O : Loc w2 w1.heap.size #[.slice aoX xs.length koX, .int .i64 s] := hw2 ▸ loc_at w1 _ _ rfl
  have zw2 : w2.heap.size = w1.heap.size + 1 := by rw [← hw2]; simp
  have Bw2 := Bw1.trans (bb.mono Bw1.size)
  have sw2 := bb.size
  replace P := P.below bb P.lt
  replace R := R.below bb R.lt
  replace oX := oX.below bb
  clear Bw1
  clear bb
  clear CP HR
  have cP0 := P.cell 0 rfl
  have cP1 := P.cell 1 rfl
  go_wp2_with fail
  clear hw2
  refine (unhide DK _).mono ?_
  rintro _ w3 ⟨rfl, bb⟩
  clear cP0 cP1
  have Bw3 := Bw2.trans (bb.mono Bw2.size)
  have sw3 := bb.size
  replace P := P.below bb P.lt
  replace R := R.below bb R.lt
  replace O := O.below bb O.lt
  replace oX := oX.below bb
  clear Bw2
  clear bb
  clear DK
  have cO0 := O.cell 0 rfl
  have cO1 := O.cell 1 rfl
  have cP0 := P.cell 0 rfl
  have cP1 := P.cell 1 rfl
  have fO := O.frozen
  go_upto_region 4 with fail
  clear cO0 cO1 cP0 cP1
  clear fO
  obtain ⟨w4, hw4⟩ : ∃ w9_, (w3.setCell ⟨w1.heap.size, 1, none⟩ (.int .i64 (n : Int))) = w9_ := ⟨_, rfl⟩
  have kN : Kp w3 w4 (fun k => k = w1.heap.size) := hw4 ▸ set_kp _ _ _ _
  replace O : Loc w4 (w1.heap.size) #[.slice aoX xs.length koX, .int .i64 (n : Int)] := hw4 ▸ (O.set 1 _ rfl)
  replace P := P.kp kN (by omega)
  replace R := R.kp kN (by omega)
  replace oX := oX.kp kN (fun j hj e => by have := toX j hj; omega)
  have Bw4 := Below.kp Bw3 kN Bw3.size (fun k hk => by omega)
  have sw4 := kN.size
  rw [hw4]
  clear hw4 kN Bw3
  have cR0 := R.cell 0 rfl
  have cR1 := R.cell 1 rfl
  have cO0 := O.cell 0 rfl
  have cO1 := O.cell 1 rfl
  have fR := R.frozen
  go_wp2
  refine bodyPost_ret (v := dv (.slice aoX xs.length koX) (n : Int)) (by simp [results, Try.results17, go_sem, cR0, cR1]) rfl ?_
  have Q : Kp w4 ((w4.setCell ⟨w.heap.size + 1, 0, none⟩ (.slice aoX xs.length koX)).setCell ⟨w.heap.size + 1, 1, none⟩ (.int .i64 (n : Int))) (fun k => k = w.heap.size + 1) := (set_kp _ _ _ _).trans (set_kp _ _ _ _)
  have tz := World.ownsRow.lt oX
  exact ⟨_, rfl, (OB.kp oX Q (fun j hj e => by have := tz j hj; omega)).mono (by omega), Below.kp Bw4 Q (by omega) (fun k hk => by omega)⟩
set_option maxHeartbeats 4000000 in
set_option maxRecDepth 100000 in
theorem specSync_no (ao : Option Addr) (n ca : Nat) (s : Int) (xs : List Int) (w : World) (hr : RB w (.slice ao n ca) xs) (hl : xs.length ≤ 1048576) (hd : dokB n s = false) :
    Calls Try.prog 17 #[dv (.slice ao n ca) s] w fun e w' => ∃ u, e = .returned (dv u s) ∧ OB w' w.heap.size u (xs) ∧ Below w.heap.size w w' := by
  have hn := (rb_len hr).1
  have hna : n ≤ xs.length := by omega
  have hnb : xs.length ≤ n := by omega
  clear hn
  have HR := hide hr
  have CP := hide fun w h => specCopy ao n ca s xs w h (by omega)
  have DK := hide fun w => specDiskOk ao n ca s w
  rw [hd] at DK
  clear hr hd
  obtain ⟨w0, hw0⟩ : ∃ w0, ((w.alloc (.cells #[.slice ao n ca, .int .i64 s] 25)).alloc (.cells #[.slice none 0 0, .int .i64 0] 25)) = w0 := ⟨_, rfl⟩
  have Bw0 : Below w.heap.size w w0 := hw0 ▸ ((Below.refl _ _).alloc (Nat.le_refl _) _).alloc (by simp) _
  have P : Loc w0 (w.heap.size) #[.slice ao n ca, .int .i64 s] := hw0 ▸ (loc_at (w) _ _ rfl).alloc _
  have R : Loc w0 (w.heap.size + 1) #[.slice none 0 0, .int .i64 0] := hw0 ▸ loc_at (w.alloc _) _ _ (by simp)
  have zw0 : w.heap.size + 1 + 1 ≤ w0.heap.size := by rw [← hw0]; simp
  go_enter Try.func17, Try.ntmps17
  have cP0 := P.cell 0 rfl
  have cP1 := P.cell 1 rfl
  go_wp2_with fail
  clear hw0
  refine (unhide CP _ ((unhide HR).below Bw0 (Nat.le_refl _))).mono ?_
  rintro _ w1 ⟨uX, rfl, oX, bb⟩
  clear cP0 cP1
  have Bw1 := Bw0.trans (bb.mono Bw0.size)
  have sw1 := bb.size
  replace P := P.below bb P.lt
  replace R := R.below bb R.lt
  clear Bw0
  clear bb
  have toX := World.ownsRow.lt oX
  obtain ⟨aoX, koX, rfl⟩ := oX.form
  obtain ⟨w2, hw2⟩ : ∃ x, w1.alloc (.cells #[.slice aoX xs.length koX, .int .i64 s] 25) = x := ⟨_, rfl⟩
  have bb : Below w1.heap.size w1 w2 := hw2 ▸ qalloc _ _
  have O : Loc w2 w1.heap.size #[.slice aoX xs.length koX, .int .i64 s] := hw2 ▸ loc_at w1 _ _ rfl
  have zw2 : w2.heap.size = w1.heap.size + 1 := by rw [← hw2]; simp
  have Bw2 := Bw1.trans (bb.mono Bw1.size)
  have sw2 := bb.size
  replace P := P.below bb P.lt
  replace R := R.below bb R.lt
  replace oX := oX.below bb
  clear Bw1
  clear bb
  clear CP HR
  have cP0 := P.cell 0 rfl
  have cP1 := P.cell 1 rfl
  go_wp2_with fail
  clear hw2
  refine (unhide DK _).mono ?_
  rintro _ w3 ⟨rfl, bb⟩
  clear cP0 cP1
  have Bw3 := Bw2.trans (bb.mono Bw2.size)
  have sw3 := bb.size
  replace P := P.below bb P.lt
  replace R := R.below bb R.lt
  replace O := O.below bb O.lt
  replace oX := oX.below bb
  clear Bw2
  clear bb
  clear DK
  have cR0 := R.cell 0 rfl
  have cR1 := R.cell 1 rfl
  have cO0 := O.cell 0 rfl
  have cO1 := O.cell 1 rfl
  have fR := R.frozen
  go_wp2
  refine bodyPost_ret (v := dv (.slice aoX xs.length koX) s) (by simp [results, Try.results17, go_sem, cR0, cR1]) rfl ?_
  have Q : Kp w3 ((w3.setCell ⟨w.heap.size + 1, 0, none⟩ (.slice aoX xs.length koX)).setCell ⟨w.heap.size + 1, 1, none⟩ (.int .i64 s)) (fun k => k = w.heap.size + 1) := (set_kp _ _ _ _).trans (set_kp _ _ _ _)
  have tz := World.ownsRow.lt oX
  exact ⟨_, rfl, (OB.kp oX Q (fun j hj e => by have := tz j hj; omega)).mono (by omega), Below.kp Bw3 Q (by omega) (fun k hk => by omega)⟩
set_option maxHeartbeats 4000000 in
set_option maxRecDepth 100000 in
theorem l1MinD (a b : Int) (w : World) : Calls Try.prog 38 #[.int .i64 a, .int .i64 b] w fun e w' => e = .returned (.int .i64 (min a b)) ∧ Below w.heap.size w w' := by
  by_cases h : a < b
  · have e : min a b = a := by omega
    rw [e]
    go_enter Try.func38, Try.ntmps38
    go_wp2
    go_ret
    exact ⟨rfl, Below.refl _ _⟩
  · have e : min a b = b := by omega
    rw [e]
    go_enter Try.func38, Try.ntmps38
    go_wp2
    go_ret
    exact ⟨rfl, Below.refl _ _⟩
set_option maxHeartbeats 4000000 in
set_option maxRecDepth 100000 in
theorem l1MaxD (a b : Int) (w : World) : Calls Try.prog 37 #[.int .i64 a, .int .i64 b] w fun e w' => e = .returned (.int .i64 (max a b)) ∧ Below w.heap.size w w' := by
  by_cases h : a > b
  · have e : max a b = a := by omega
    rw [e]
    go_enter Try.func37, Try.ntmps37
    go_wp2
    go_ret
    exact ⟨rfl, Below.refl _ _⟩
  · have e : max a b = b := by omega
    rw [e]
    go_enter Try.func37, Try.ntmps37
    go_wp2
    go_ret
    exact ⟨rfl, Below.refl _ _⟩
set_option maxHeartbeats 4000000 in
set_option maxRecDepth 100000 in
theorem specFall_yes (ao : Option Addr) (n ca : Nat) (s : Int) (xs : List Int) (keep : Int) (w : World) (hr : RB w (.slice ao n ca) xs) (hl : xs.length ≤ 1048576) (hd : dokB n s = true) :
    Calls Try.prog 16 #[dv (.slice ao n ca) s, .int .i64 keep] w fun e w' => ∃ u, e = .returned (dv u (fallN n s keep : Int)) ∧ OB w' w.heap.size u (xs.take (fallN n s keep)) ∧ Below w.heap.size w w' := by
  have hn := (rb_len hr).1
  have hca := (rb_len hr).2
  have hna : n ≤ xs.length := by omega
  have hnb : xs.length ≤ n := by omega
  clear hn
  have HR := hide hr
  have CP := hide fun w h => specCopy ao n ca s xs w h (by omega)
  have DK := hide fun w => specDiskOk ao n ca s w
  obtain ⟨h1, h2, h3⟩ := dok_iff.1 hd
  obtain ⟨f1, f2⟩ := fall_le (keep := keep) hd
  have HF := hide fun w (h : RB w (.slice ao n ca) xs) => rb_front h (fallN n s keep) (by omega)
  have hs1 : ∀ w, (Instr.slice 22 (.slice ao n ca) none (some (.int .i64 (fallN n s keep : Int))) none).run Try.prog w = .ok (.slice ao (fallN n s keep) ca) w := fun w => dcut_to ao n ca _ w (by omega)
  have hkl : (xs.take (fallN n s keep)).length = fallN n s keep := by rw [List.length_take]; omega
  generalize fallN n s keep = k at *
  generalize xs.take k = ys at *
  obtain ⟨u, hu⟩ : ∃ u, (n : Int) - s = u := ⟨_, rfl⟩
  have e3 : IntKind.i64.wrap ((n : Int) - s) = u := by rw [← hu, IntKind.wrap_i64]; omega
  have MN := hide fun w => l1MinD keep u w
  obtain ⟨x1, hx1⟩ : ∃ x, min keep u = x := ⟨_, rfl⟩
  rw [hx1] at MN
  have MX := hide fun w => l1MaxD 0 x1 w
  obtain ⟨x2, hx2⟩ : ∃ x, max 0 x1 = x := ⟨_, rfl⟩
  rw [hx2] at MX
  have e2 : IntKind.i64.wrap (s + x2) = (k : Int) := by rw [IntKind.wrap_i64]; omega
  have HKL := hide hkl
  have hk1 : ys.length ≤ k := by omega
  have hk2 : k ≤ ys.length := by omega
  clear hkl f2 hu hx1 hx2
  rw [hd] at DK
  clear hr hd
  obtain ⟨w0, hw0⟩ : ∃ w0, ((w.alloc (.cells #[.slice ao n ca, .int .i64 s] 25)).alloc (.cells #[.slice none 0 0, .int .i64 0] 25)) = w0 := ⟨_, rfl⟩
  have Bw0 : Below w.heap.size w w0 := hw0 ▸ ((Below.refl _ _).alloc (Nat.le_refl _) _).alloc (by simp) _
  have P : Loc w0 (w.heap.size) #[.slice ao n ca, .int .i64 s] := hw0 ▸ (loc_at (w) _ _ rfl).alloc _
  have R : Loc w0 (w.heap.size + 1) #[.slice none 0 0, .int .i64 0] := hw0 ▸ loc_at (w.alloc _) _ _ (by simp)
  have zw0 : w.heap.size + 1 + 1 ≤ w0.heap.size := by rw [← hw0]; simp
  go_enter Try.func16, Try.ntmps16
  have cP0 := P.cell 0 rfl
  have cP1 := P.cell 1 rfl
  go_wp2_with fail
  clear hw0
  refine (unhide CP _ ((unhide HR).below Bw0 (Nat.le_refl _))).mono ?_
  rintro _ w1 ⟨uX, rfl, oX, bb⟩
  clear cP0 cP1
  have Bw1 := Bw0.trans (bb.mono Bw0.size)
  have sw1 := bb.size
  replace P := P.below bb P.lt
  replace R := R.below bb R.lt
  clear Bw0
  clear bb
  have toX := World.ownsRow.lt oX
  obtain ⟨aoX, koX, rfl⟩ := oX.form
  obtain ⟨w2, hw2⟩ : ∃ x, w1.alloc (.cells #[.slice aoX xs.length koX, .int .i64 s] 25) = x := ⟨_, rfl⟩
  have bb : Below w1.heap.size w1 w2 := hw2 ▸ qalloc _ _
  have O : Loc w2 w1.heap.size #[.slice aoX xs.length koX, .int .i64 s] := hw2 ▸ loc_at w1 _ _ rfl
  have zw2 : w2.heap.size = w1.heap.size + 1 := by rw [← hw2]; simp
  have Bw2 := Bw1.trans (bb.mono Bw1.size)
  have sw2 := bb.size
  replace P := P.below bb P.lt
  replace R := R.below bb R.lt
  replace oX := oX.below bb
  clear Bw1
  clear bb
  clear CP
  have cP0 := P.cell 0 rfl
  have cP1 := P.cell 1 rfl
  go_wp2_with fail
  clear hw2
  refine (unhide DK _).mono ?_
  rintro _ w3 ⟨rfl, bb⟩
  clear cP0 cP1
  have Bw3 := Bw2.trans (bb.mono Bw2.size)
  have sw3 := bb.size
  replace P := P.below bb P.lt
  replace R := R.below bb R.lt
  replace O := O.below bb O.lt
  replace oX := oX.below bb
  clear Bw2
  clear bb
  clear DK
  clear oX O
  have K : Hid (∀ w', Below w3.heap.size w3 w' → (fun w' => Below w3.heap.size w3 w' ∧ (w'.cell? ⟨w.heap.size, 0, none⟩ = some (.slice ao n ca) ∧ w'.cell? ⟨w.heap.size, 1, none⟩ = some (.int .i64 s))) w') := hide fun w' hb' => ⟨hb', ⟨(P.below hb' P.lt).cell 0 rfl, (P.below hb' P.lt).cell 1 rfl⟩⟩
  go_upto_region 4 with fail
  have bA : Below w3.heap.size w3 w3.drew := Below.drew (Below.refl _ _)
  refine wp_region_noPanic ?_
  refine wp_region_held_drew (S := fun w' => Below w3.heap.size w3 w' ∧ (w'.cell? ⟨w.heap.size, 0, none⟩ = some (.slice ao n ca) ∧ w'.cell? ⟨w.heap.size, 1, none⟩ = some (.int .i64 s))) (by kernel_rfl) (unhide K _ bA) (fun hHeld => ?_)
  refine take_at (i := 0) (d := 13) (v := ?_) rfl rfl (by kernel_rfl) (by kernel_rfl) (by kernel_rfl) (fun _ _ _ h => h) (Or.inl ⟨by rfl, ?_⟩) (by assumption) ?_
  rotate_left
  · intro w hSw
    try dsimp only at hSw
    go_simp
    try with_reducible rfl
  simp only [Act.put, List.setIfInBounds_toArray, List.set_cons_zero, List.set_cons_succ]
  refine take_at (i := 2) (d := 15) (v := ?_) rfl rfl (by kernel_rfl) (by kernel_rfl) (by kernel_rfl) (fun _ _ _ h => h) (Or.inl ⟨by rfl, ?_⟩) (by assumption) ?_
  rotate_left
  · intro w hSw
    try dsimp only at hSw
    go_simp
    try with_reducible rfl
  simp only [Act.put, List.setIfInBounds_toArray, List.set_cons_zero, List.set_cons_succ]
  refine take_at (i := 3) (d := 16) (v := ?_) rfl rfl (by kernel_rfl) (by kernel_rfl) (by kernel_rfl) (fun _ _ _ h => h) (Or.inl ⟨by rfl, ?_⟩) (by assumption) ?_
  rotate_left
  · intro w hSw
    try dsimp only at hSw
    go_simp
    try with_reducible rfl
  simp only [Act.put, List.setIfInBounds_toArray, List.set_cons_zero, List.set_cons_succ]
  refine take_at (i := 6) (d := 19) (v := ?_) rfl rfl (by kernel_rfl) (by kernel_rfl) (by kernel_rfl) (fun _ _ _ h => h) (Or.inl ⟨by rfl, ?_⟩) (by assumption) ?_
  rotate_left
  · intro w hSw
    try dsimp only at hSw
    go_simp
    try with_reducible rfl
  simp only [Act.put, List.setIfInBounds_toArray, List.set_cons_zero, List.set_cons_succ]
  refine take_at (i := 1) (d := 14) (v := ?_) rfl rfl (by kernel_rfl) (by kernel_rfl) (by kernel_rfl) (fun _ _ _ h => h) (Or.inl ⟨by rfl, ?_⟩) (by assumption) ?_
  rotate_left
  · intro w hSw
    try dsimp only at hSw
    go_simp
    try with_reducible rfl
  simp only [Act.put, List.setIfInBounds_toArray, List.set_cons_zero, List.set_cons_succ]
  refine take_at (i := 4) (d := 17) (v := ?_) rfl rfl (by kernel_rfl) (by kernel_rfl) (by kernel_rfl) (fun _ _ _ h => h) (Or.inl ⟨by rfl, ?_⟩) (by assumption) ?_
  rotate_left
  · intro w hSw
    try dsimp only at hSw
    go_simp
    try with_reducible rfl
  simp only [Act.put, List.setIfInBounds_toArray, List.set_cons_zero, List.set_cons_succ]
  refine take_at (i := 7) (d := 20) (v := ?_) rfl rfl (by kernel_rfl) (by kernel_rfl) (by kernel_rfl) (fun _ _ _ h => h) (Or.inl ⟨by rfl, ?_⟩) (by assumption) ?_
  rotate_left
  · intro w hSw
    try dsimp only at hSw
    go_simp
    try with_reducible rfl
  simp only [Act.put, List.setIfInBounds_toArray, List.set_cons_zero, List.set_cons_succ]
  refine take_at (i := 5) (d := 18) (v := ?_) rfl rfl (by kernel_rfl) (by kernel_rfl) (by kernel_rfl) (fun _ _ _ h => h) (Or.inl ⟨by rfl, ?_⟩) (by assumption) ?_
  rotate_left
  · intro w hSw
    try dsimp only at hSw
    go_simp
    try with_reducible rfl
  simp only [Act.put, List.setIfInBounds_toArray, List.set_cons_zero, List.set_cons_succ]
  refine take_at (i := 8) (d := 21) (v := ?_) rfl rfl (by kernel_rfl) (by kernel_rfl) (by kernel_rfl) (fun _ _ _ h => h) (Or.inl ⟨by rfl, ?_⟩) (by assumption) ?_
  rotate_left
  · intro w hSw
    try dsimp only at hSw
    go_simp
    try with_reducible rfl
  simp only [Act.put, List.setIfInBounds_toArray, List.set_cons_zero, List.set_cons_succ]
  refine ready_at (i := 9) rfl (by kernel_rfl) (fun KK hKK => ?_)
  go_simp
  have hgo := bA
  refine (unhide MN _).mono ?_
  rintro e wz4_1 ⟨rfl, bb⟩
  have bz1 : Below w3.heap.size w3 wz4_1 := bA.trans (bb.mono bA.size)
  clear bA hgo bb
  clear hHeld
  refine hKK.out _ _ (unhide K _ bz1) (fun hHeld => ?_)
  clear hKK KK
  refine ready_at (i := 10) rfl (by kernel_rfl) (fun KK hKK => ?_)
  go_simp
  have hgo := bz1
  refine (unhide MX _).mono ?_
  rintro e wz4_2 ⟨rfl, bb⟩
  have bz2 : Below w3.heap.size w3 wz4_2 := bz1.trans (bb.mono bz1.size)
  clear bz1 hgo bb
  clear hHeld
  refine hKK.out _ _ (unhide K _ bz2) (fun hHeld => ?_)
  clear hKK KK
  refine take_at (i := 11) (d := 24) (v := ?_) rfl rfl (by kernel_rfl) (by kernel_rfl) (by kernel_rfl) (fun _ _ _ h => h) (Or.inl ⟨by rfl, ?_⟩) (by assumption) ?_
  rotate_left
  · intro w hSw
    try dsimp only at hSw
    go_simp
    try with_reducible rfl
  simp only [Act.put, List.setIfInBounds_toArray, List.set_cons_zero, List.set_cons_succ]
  refine take_at (i := 12) (d := 6) (v := ?_) rfl rfl (by kernel_rfl) (by kernel_rfl) (by kernel_rfl) (fun _ _ _ h => h) (Or.inl ⟨by rfl, ?_⟩) (by assumption) ?_
  rotate_left
  · intro w hSw
    try dsimp only at hSw
    go_simp
    try with_reducible rfl
  simp only [Act.put, List.setIfInBounds_toArray, List.set_cons_zero, List.set_cons_succ]
  clear hHeld
  refine wpAnyH_done (by kernel_rfl) ?_ _
  refine NoPanic.normal ?_
  have bb := bz2
  have Bwz4_2 := Bw3.trans (bb.mono Bw3.size)
  have swz4_2 := bb.size
  replace P := P.below bb P.lt
  replace R := R.below bb R.lt
  clear Bw3
  clear bb bz2 K
  clear MN MX e2 e3
  go_upto_region 5 with fail
  have hkk := unhide HKL
  have bl : Below wz4_2.heap.size wz4_2 (wz4_2.alloc (.cells #[] 5)) := qalloc _ _
  have Bl : Below w.heap.size w (wz4_2.alloc (.cells #[] 5)) := Bwz4_2.trans (bl.mono Bwz4_2.size)
  have zl : (wz4_2.alloc (.cells #[] 5)).heap.size = wz4_2.heap.size + 1 := by simp
  have hPB := hide (((unhide HF _ ((unhide HR).below Bwz4_2 (Nat.le_refl _))).below bl (Nat.le_refl _)).pb)
  have O0 : Hid (OB (wz4_2.alloc (.cells #[] 5)) wz4_2.heap.size (.slice (some ⟨wz4_2.heap.size, 0, none⟩) 0 0) []) := hide (World.ownsRow_lit wz4_2 #[] 0 (Nat.le_refl _) (by unfold maxLen; omega) rfl)
  have L1 := P.below bl P.lt
  have R1 := R.below bl R.lt
  have a0 := L1.cell 0 rfl
  have a1 := L1.cell 1 rfl
  have zR := R.lt
  go_wp2_with (first | (at_builtin; refine append_bytes rfl _ _ rfl wz4_2.heap.size (.slice (some ⟨wz4_2.heap.size, 0, none⟩) 0 0) (.slice ao k ca) [] ys rfl rfl (unhide O0) (unhide hPB) (by simp; omega) bl.size ?_; intro u' wa o1 g1 _; rw [List.nil_append] at o1; obtain ⟨ua, uc, hu⟩ := o1.form; rw [unhide HKL] at hu; subst hu; have t1 := hide (World.ownsRow.lt o1); have O1 := hide o1; have K1 := hide (kp_grown g1); have R2 := R1.kp (kp_grown g1) (by simp [Value.ownBlock]; omega); have r0 := R2.cell 0 rfl; have r1 := R2.cell 1 rfl; have fr := R2.frozen; clear o1 g1))
  refine bodyPost_ret (v := dv (.slice ua k uc) (k : Int)) (by simp [results, Try.results16, go_sem, r0, r1]) rfl ?_
  have Q : Kp wa ((wa.setCell ⟨w.heap.size + 1, 0, none⟩ (.slice ua k uc)).setCell ⟨w.heap.size + 1, 1, none⟩ (.int .i64 (k : Int))) (fun k => k = w.heap.size + 1) := (set_kp _ _ _ _).trans (set_kp _ _ _ _)
  have k1 := unhide K1
  have z2 := k1.size
  exact ⟨_, rfl, ((unhide O1).kp Q (fun j hj e => by have := unhide t1 j hj; omega)).mono (by omega), Below.kp (Below.kp Bl k1 (by omega) (fun k hk => by simp [Value.ownBlock] at hk; omega)) Q (by omega) (fun k hk => by omega)⟩
set_option maxHeartbeats 4000000 in
set_option maxRecDepth 100000 in
theorem specFall_no (ao : Option Addr) (n ca : Nat) (s : Int) (xs : List Int) (keep : Int) (w : World) (hr : RB w (.slice ao n ca) xs) (hl : xs.length ≤ 1048576) (hd : dokB n s = false) :
    Calls Try.prog 16 #[dv (.slice ao n ca) s, .int .i64 keep] w fun e w' => ∃ u, e = .returned (dv u s) ∧ OB w' w.heap.size u (xs) ∧ Below w.heap.size w w' := by
  have hn := (rb_len hr).1
  have hca := (rb_len hr).2
  have hna : n ≤ xs.length := by omega
  have hnb : xs.length ≤ n := by omega
  clear hn
  have HR := hide hr
  have CP := hide fun w h => specCopy ao n ca s xs w h (by omega)
  have DK := hide fun w => specDiskOk ao n ca s w
  rw [hd] at DK
  clear hr hd
  obtain ⟨w0, hw0⟩ : ∃ w0, ((w.alloc (.cells #[.slice ao n ca, .int .i64 s] 25)).alloc (.cells #[.slice none 0 0, .int .i64 0] 25)) = w0 := ⟨_, rfl⟩
  have Bw0 : Below w.heap.size w w0 := hw0 ▸ ((Below.refl _ _).alloc (Nat.le_refl _) _).alloc (by simp) _
  have P : Loc w0 (w.heap.size) #[.slice ao n ca, .int .i64 s] := hw0 ▸ (loc_at (w) _ _ rfl).alloc _
  have R : Loc w0 (w.heap.size + 1) #[.slice none 0 0, .int .i64 0] := hw0 ▸ loc_at (w.alloc _) _ _ (by simp)
  have zw0 : w.heap.size + 1 + 1 ≤ w0.heap.size := by rw [← hw0]; simp
  go_enter Try.func16, Try.ntmps16
  have cP0 := P.cell 0 rfl
  have cP1 := P.cell 1 rfl
  go_wp2_with fail
  clear hw0
  refine (unhide CP _ ((unhide HR).below Bw0 (Nat.le_refl _))).mono ?_
  rintro _ w1 ⟨uX, rfl, oX, bb⟩
  clear cP0 cP1
  have Bw1 := Bw0.trans (bb.mono Bw0.size)
  have sw1 := bb.size
  replace P := P.below bb P.lt
  replace R := R.below bb R.lt
  clear Bw0
  clear bb
  have toX := World.ownsRow.lt oX
  obtain ⟨aoX, koX, rfl⟩ := oX.form
  obtain ⟨w2, hw2⟩ : ∃ x, w1.alloc (.cells #[.slice aoX xs.length koX, .int .i64 s] 25) = x := ⟨_, rfl⟩
  have bb : Below w1.heap.size w1 w2 := hw2 ▸ qalloc _ _
  have O : Loc w2 w1.heap.size #[.slice aoX xs.length koX, .int .i64 s] := hw2 ▸ loc_at w1 _ _ rfl
  have zw2 : w2.heap.size = w1.heap.size + 1 := by rw [← hw2]; simp
  have Bw2 := Bw1.trans (bb.mono Bw1.size)
  have sw2 := bb.size
  replace P := P.below bb P.lt
  replace R := R.below bb R.lt
  replace oX := oX.below bb
  clear Bw1
  clear bb
  clear CP
  have cP0 := P.cell 0 rfl
  have cP1 := P.cell 1 rfl
  go_wp2_with fail
  clear hw2
  refine (unhide DK _).mono ?_
  rintro _ w3 ⟨rfl, bb⟩
  clear cP0 cP1
  have Bw3 := Bw2.trans (bb.mono Bw2.size)
  have sw3 := bb.size
  replace P := P.below bb P.lt
  replace R := R.below bb R.lt
  replace O := O.below bb O.lt
  replace oX := oX.below bb
  clear Bw2
  clear bb
  clear DK
  have cR0 := R.cell 0 rfl
  have cR1 := R.cell 1 rfl
  have cO0 := O.cell 0 rfl
  have cO1 := O.cell 1 rfl
  have fR := R.frozen
  go_wp2
  refine bodyPost_ret (v := dv (.slice aoX xs.length koX) s) (by simp [results, Try.results16, go_sem, cR0, cR1]) rfl ?_
  have Q : Kp w3 ((w3.setCell ⟨w.heap.size + 1, 0, none⟩ (.slice aoX xs.length koX)).setCell ⟨w.heap.size + 1, 1, none⟩ (.int .i64 s)) (fun k => k = w.heap.size + 1) := (set_kp _ _ _ _).trans (set_kp _ _ _ _)
  have tz := World.ownsRow.lt oX
  exact ⟨_, rfl, (OB.kp oX Q (fun j hj e => by have := tz j hj; omega)).mono (by omega), Below.kp Bw3 Q (by omega) (fun k hk => by omega)⟩
end Go.Proofs.Ytkjpjgecongkpaa
