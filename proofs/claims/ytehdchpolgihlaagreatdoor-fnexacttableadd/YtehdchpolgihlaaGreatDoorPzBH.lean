/- TableAddWalk: the walk of laws.FnExactTableAdd, over what the program's TableAdd answers. -/
import Derived.Test.YtehdchpolgihlaaGreatDoorPzBG
import Derived.Test.YtehdchpolgihlaaGreatDoorPzBC
/- TableAddWalk: the walk of laws.FnExactTableAdd, over what the program's TableAdd answers. -/
namespace Go.Proofs.YtehdchpolgihlaaGreatDoor
open Go.RowKit
set_option linter.unusedSectionVars false
variable [∀ (a b c d : Int), Decidable (Ok4 a b c d)]
variable [∀ (n f : Int), Decidable (COk n f)]
variable [∀ (n : Int) (s : List Int), Decidable (OkL n s)]
variable [∀ (a b c d : Nat), Decidable (okN a b c d)]
variable [∀ (last : Int) (s : St), Decidable (GoodSt last s)]
variable [∀ (x : T4), Decidable (OkT x)]

theorem whos_add (ps : List Pt) (p : Pt) : whos (addP ps p) ≤ whos ps + p.2.2.length := by
  induction ps with
  | nil => simp [addP, whos]
  | cons x ps ih =>
    unfold addP
    split
    · simp only [whos]; omega
    · split
      · have := join_size x.2.2 p.2.2
        simp only [whos, joinP]; omega
      · simp only [whos]; omega

set_option maxHeartbeats 8000000 in
set_option maxRecDepth 100000 in
theorem fnTableAdd_short (E : World → Prop) (hE : ∀ w w', E w → Below w.heap.size w w' → E w')
    (n f : Int) (al : Option Addr) (cl : Nat) (rs : List Pr) (m : Int) (s : ByteArray) (pa : Option Addr) (pc : Nat) (xs : List Int) (w : World) (IM0 : ∀ (v u : Value) (w : World), E w → RPt w v (rs.map prp) → CapP v → RI w u xs → Calls Tryz.prog 13 #[cv n f, v, qv m s u] w fun e w' => ∃ t, e = .returned (.tuple #[t, .bool (tokB n f (addP (rs.map prp) (m, s, xs)) && pokB n f m s xs)]) ∧ OPt w' w.heap.size t (if (tokB n f (addP (rs.map prp) (m, s, xs)) && pokB n f m s xs) then addP (rs.map prp) (m, s, xs) else rs.map prp) ∧ Below w.heap.size w w')
    (h : ATab w al rs) (ha : ∀ r ∈ rs, AIW w r.2.2.1 r.2.2.2.2) (hp : RI w (.slice pa xs.length pc) xs) (hs : rs.length + psum rs + s.size + xs.length ≤ 1048576) (he : E w) :
    Calls Tryz.prog 7 #[cv n f, .slice al rs.length cl, qv m s (.slice pa xs.length pc)] w fun e w' => e = .returned (.bool true) ∧ Below w.heap.size w w' := by
  have RA := hide fun w' (hb : Below w.heap.size w w') => (ATab.rpt (ca := cl) h ha (fun r hr => by have := psum_each hr; omega)).below hb (Nat.le_refl _)
  have HA := hide fun w' (hb : Below w.heap.size w w') => h.below hb
  have RP := hide fun w' (hb : Below w.heap.size w w') => hp.below hb (Nat.le_refl _)
  have ZA := hide fun w h => szPartS_yes al cl rs 1048576 w h (by omega) (by omega)
  have ZB := hide fun w => szPart_yes m s pa xs.length pc (1048576 - rs.length - psum rs) w (by omega) (by omega)
  have HE := hide fun w' (hb : Below w.heap.size w w') => hE w w' he hb
  have hpm : ∀ p ∈ rs.map prp, p.2.1.size ≤ 1048576 ∧ p.2.2.length ≤ 1048576 := fun p hp => by have := prp_mem hp; omega
  have hpl : (rs.map prp).length = rs.length := by simp
  have hd0 : decide ((1048576 : Int) - (rs.length : Int) - (psum rs : Int) < 0) = false := by simp; omega
  have hd1 : decide ((1048576 : Int) - (rs.length : Int) - (psum rs : Int) - (s.size : Int) - (xs.length : Int) < 0) = false := by simp; omega
  obtain ⟨len, hlen⟩ : ∃ l, rs.length = l := ⟨_, rfl⟩
  obtain ⟨pl, hpx⟩ : ∃ l, xs.length = l := ⟨_, rfl⟩
  rw [hlen] at hpl RA ZA ZB hd0 hd1 hs ⊢
  rw [hpx] at RP ZB hd1 hs ⊢
  have hps := pend_sum 1 (rs.map prp)
  have hpw := whos_le rs
  generalize psum rs = sm at *
  generalize rs.map prp = ps at *
  have hw : ∀ p ∈ ps, p.2.2.length ≤ 4194304 := fun p hp => by have := hpm p hp; omega
  have TO := hide fun w => toConf_any n f w
  have TP := hide fun w h => toPartS_any (.slice al len cl) ps w (by omega) h
  have TQ := hide fun w h => toPart_any m s (.slice pa pl pc) xs w h
  have SP := hide fun v u w h h' => specTableAdd n f v ps m s u xs w (by omega) (by omega) (by omega) hpm h h'
  have IM := hide fun v u w e h c h' => IM0 v u w e h c h'
  have EQ := hide fun v u w h h' => eqPartS_yes v u ps w (by omega) h h'
  have EP := hide fun u v w h h' => eqPart_yes m s u v xs w h h'
  obtain ⟨rb, hrb⟩ : ∃ b, (tokB n f (addP ps (m, s, xs)) && pokB n f m s xs) = b := ⟨_, rfl⟩
  rw [hrb] at SP IM
  have hrl : ∀ q ∈ (if rb = true then addP ps (m, s, xs) else ps), q.2.2.length ≤ 4194304 := by
    split
    · exact fun q hq => (addP_small hpm (by omega) (by omega) ps (fun q hq => hq) q hq).2
    · exact hw
  have hrn : (if rb = true then addP ps (m, s, xs) else ps).length ≤ 1048577 := by
    split
    · have := addP_len ps (m, s, xs); omega
    · omega
  have hrw : whos (if rb = true then addP ps (m, s, xs) else ps) ≤ whos ps + xs.length := by
    split
    · exact whos_add ps (m, s, xs)
    · omega
  have hrp := pend_sum 1 (if rb = true then addP ps (m, s, xs) else ps)
  generalize (if rb = true then addP ps (m, s, xs) else ps) = rl at *
  have hpe : pend 1 ps ≤ 5000000 := by omega
  have hre : pend 1 rl ≤ 9000000 := by omega
  clear hps hrp hrw hpw
  have ER := hide fun v u w h h' => eqPartS_yes v u rl w (by omega) h h'
  have hq : (rb != rb) = false := by simp
  obtain ⟨w0, hw0⟩ : ∃ y, (w.alloc (.cells #[.int .i64 n, .int .i64 f] 60)).alloc (.cells #[.int .i64 m, .string s, .slice pa pl pc] 61) = y := ⟨_, rfl⟩
  have Bw0 : Below w.heap.size w w0 := hw0 ▸ qalloc2 _ _ _
  have LC : Loc w0 w.heap.size #[.int .i64 n, .int .i64 f] := hw0 ▸ (loc_at w _ _ rfl).alloc _
  have LA : Loc w0 (w.heap.size + 1) #[.int .i64 m, .string s, .slice pa pl pc] := hw0 ▸ loc_at (w.alloc _) _ _ (by simp)
  have zw0 : w0.heap.size = w.heap.size + 2 := by rw [← hw0]; simp
  clear h ha he hE IM0 hp hrb hlen
  go_enter Tryz.func7, Tryz.ntmps7
  go_wp2_with fail
  clear hw0
  refine (unhide ZA _ (unhide HA _ Bw0)).mono ?_
  rintro _ w1 ⟨rfl, bb⟩
  have Bw1 := Bw0.trans (bb.mono Bw0.size)
  have sw1 := bb.size
  replace LC := LC.below bb LC.lt
  replace LA := LA.below bb LA.lt
  clear Bw0
  clear bb
  clear ZA HA
  have cLA0 := LA.cell 0 rfl
  have cLA1 := LA.cell 1 rfl
  have cLA2 := LA.cell 2 rfl
  go_wp2_with fail
  refine (unhide ZB _).mono ?_
  rintro _ w2 ⟨rfl, bb⟩
  clear cLA0 cLA1 cLA2
  have Bw2 := Bw1.trans (bb.mono Bw1.size)
  have sw2 := bb.size
  replace LC := LC.below bb LC.lt
  replace LA := LA.below bb LA.lt
  clear Bw1
  clear bb
  clear ZB
  have cLC0 := LC.cell 0 rfl
  have cLC1 := LC.cell 1 rfl
  have cLA0 := LA.cell 0 rfl
  have cLA1 := LA.cell 1 rfl
  have cLA2 := LA.cell 2 rfl
  have K : Hid (∀ w', Below w2.heap.size w2 w' → (fun w' => Below w2.heap.size w2 w' ∧ (w'.cell? ⟨w.heap.size, 0, none⟩ = some (.int .i64 n) ∧ w'.cell? ⟨w.heap.size, 1, none⟩ = some (.int .i64 f)) ∧ (w'.cell? ⟨w.heap.size + 1, 0, none⟩ = some (.int .i64 m) ∧ w'.cell? ⟨w.heap.size + 1, 1, none⟩ = some (.string s) ∧ w'.cell? ⟨w.heap.size + 1, 2, none⟩ = some (.slice pa pl pc))) w') := hide fun w' hb' => ⟨hb', ⟨(LC.below hb' LC.lt).cell 0 rfl, (LC.below hb' LC.lt).cell 1 rfl⟩, ⟨(LA.below hb' LA.lt).cell 0 rfl, (LA.below hb' LA.lt).cell 1 rfl, (LA.below hb' LA.lt).cell 2 rfl⟩⟩
  go_upto_region 8 with fail
  have bA : Below w2.heap.size w2 w2.drew := Below.drew (Below.refl _ _)
  refine wp_region_noPanic ?_
  refine wp_region_held_drew (S := fun w' => Below w2.heap.size w2 w' ∧ (w'.cell? ⟨w.heap.size, 0, none⟩ = some (.int .i64 n) ∧ w'.cell? ⟨w.heap.size, 1, none⟩ = some (.int .i64 f)) ∧ (w'.cell? ⟨w.heap.size + 1, 0, none⟩ = some (.int .i64 m) ∧ w'.cell? ⟨w.heap.size + 1, 1, none⟩ = some (.string s) ∧ w'.cell? ⟨w.heap.size + 1, 2, none⟩ = some (.slice pa pl pc))) (by kernel_rfl) (unhide K _ bA) (fun hHeld => ?_)
  refine take_at (i := 0) (d := 30) (v := ?_) rfl rfl (by kernel_rfl) (by kernel_rfl) (by kernel_rfl) (fun _ _ _ h => h) (Or.inl ⟨by rfl, ?_⟩) (by assumption) ?_
  rotate_left
  · intro w hSw
    try dsimp only at hSw
    go_simp
    try with_reducible rfl
  simp only [Act.put, List.setIfInBounds_toArray, List.set_cons_zero, List.set_cons_succ]
  refine take_at (i := 2) (d := 32) (v := ?_) rfl rfl (by kernel_rfl) (by kernel_rfl) (by kernel_rfl) (fun _ _ _ h => h) (Or.inl ⟨by rfl, ?_⟩) (by assumption) ?_
  rotate_left
  · intro w hSw
    try dsimp only at hSw
    go_simp
    try with_reducible rfl
  simp only [Act.put, List.setIfInBounds_toArray, List.set_cons_zero, List.set_cons_succ]
  refine take_at (i := 4) (d := 34) (v := ?_) rfl rfl (by kernel_rfl) (by kernel_rfl) (by kernel_rfl) (fun _ _ _ h => h) (Or.inl ⟨by rfl, ?_⟩) (by assumption) ?_
  rotate_left
  · intro w hSw
    try dsimp only at hSw
    go_simp
    try with_reducible rfl
  simp only [Act.put, List.setIfInBounds_toArray, List.set_cons_zero, List.set_cons_succ]
  refine ready_at (i := 1) rfl (by kernel_rfl) (fun KK hKK => ?_)
  go_simp
  have hgo := bA
  refine (unhide TO _).mono ?_
  rintro e wz8_1 ⟨rfl, bb⟩
  have bz1 : Below w2.heap.size w2 wz8_1 := bA.trans (bb.mono bA.size)
  clear bA hgo bb
  clear hHeld
  refine hKK.out _ _ (unhide K _ bz1) (fun hHeld => ?_)
  clear hKK KK
  refine ready_at (i := 3) rfl (by kernel_rfl) (fun KK hKK => ?_)
  go_simp
  have hgo := bz1
  refine (unhide TP _ (unhide RA _ (Bw2.trans (hgo.mono Bw2.size)))).mono ?_
  rintro e wz8_2 ⟨v1, rfl, o1, bb⟩
  have bz2 : Below w2.heap.size w2 wz8_2 := bz1.trans (bb.mono bz1.size)
  have R1 := hide (fun w' (hb : Below wz8_2.heap.size wz8_2 w') => (o1.below hb).rpt hw)
  obtain ⟨a1, k1, rfl⟩ := OPt.form o1
  rw [hpl] at R1 ⊢
  clear o1
  clear bz1 hgo bb
  clear hHeld
  refine hKK.out _ _ (unhide K _ bz2) (fun hHeld => ?_)
  clear hKK KK
  refine ready_at (i := 5) rfl (by kernel_rfl) (fun KK hKK => ?_)
  go_simp
  have hgo := bz2
  refine (unhide TQ _ (unhide RP _ (Bw2.trans (hgo.mono Bw2.size)))).mono ?_
  rintro e wz8_3 ⟨u1, rfl, p1, bb⟩
  have bz3 : Below w2.heap.size w2 wz8_3 := bz2.trans (bb.mono bz2.size)
  have RQ := hide (p1.ri (by omega))
  have R1' := hide (unhide R1 _ (by assumption))
  skip
  obtain ⟨b1, j1, rfl⟩ := p1.form
  rw [hpx] at RQ ⊢
  clear p1
  clear bz2 hgo bb
  clear hHeld
  refine hKK.out _ _ (unhide K _ bz3) (fun hHeld => ?_)
  clear hKK KK
  refine ready_at (i := 6) rfl (by kernel_rfl) (fun KK hKK => ?_)
  go_simp
  have hgo := bz3
  refine (unhide SP _ _ _ (unhide R1') (unhide RQ)).mono ?_
  rintro e wz8_4 ⟨tW, rfl, oW, bb⟩
  have bz4 : Below w2.heap.size w2 wz8_4 := bz3.trans (bb.mono bz3.size)
  clear R1' RQ
  clear bz3 hgo bb
  clear hHeld
  refine hKK.out _ _ (unhide K _ bz4) (fun hHeld => ?_)
  clear hKK KK
  refine take_at (i := 7) (d := 29) (v := ?_) rfl rfl (by kernel_rfl) (by kernel_rfl) (by kernel_rfl) (fun _ _ _ h => h) (Or.inl ⟨by rfl, ?_⟩) (by assumption) ?_
  rotate_left
  · intro w hSw
    try dsimp only at hSw
    go_simp
    try with_reducible rfl
  simp only [Act.put, List.setIfInBounds_toArray, List.set_cons_zero, List.set_cons_succ]
  refine take_at (i := 8) (d := 37) (v := ?_) rfl rfl (by kernel_rfl) (by kernel_rfl) (by kernel_rfl) (fun _ _ _ h => h) (Or.inl ⟨by rfl, ?_⟩) (by assumption) ?_
  rotate_left
  · intro w hSw
    try dsimp only at hSw
    go_simp
    try with_reducible rfl
  simp only [Act.put, List.setIfInBounds_toArray, List.set_cons_zero, List.set_cons_succ]
  refine take_at (i := 9) (d := 38) (v := ?_) rfl rfl (by kernel_rfl) (by kernel_rfl) (by kernel_rfl) (fun _ _ _ h => h) (Or.inl ⟨by rfl, ?_⟩) (by assumption) ?_
  rotate_left
  · intro w hSw
    try dsimp only at hSw
    go_simp
    try with_reducible rfl
  simp only [Act.put, List.setIfInBounds_toArray, List.set_cons_zero, List.set_cons_succ]
  refine take_at (i := 10) (d := 8) (v := ?_) rfl rfl (by kernel_rfl) (by kernel_rfl) (by kernel_rfl) (fun _ _ _ h => h) (Or.inl ⟨by rfl, ?_⟩) (by assumption) ?_
  rotate_left
  · intro w hSw
    try dsimp only at hSw
    go_simp
    try with_reducible rfl
  simp only [Act.put, List.setIfInBounds_toArray, List.set_cons_zero, List.set_cons_succ]
  refine take_at (i := 11) (d := 9) (v := ?_) rfl rfl (by kernel_rfl) (by kernel_rfl) (by kernel_rfl) (fun _ _ _ h => h) (Or.inl ⟨by rfl, ?_⟩) (by assumption) ?_
  rotate_left
  · intro w hSw
    try dsimp only at hSw
    go_simp
    try with_reducible rfl
  simp only [Act.put, List.setIfInBounds_toArray, List.set_cons_zero, List.set_cons_succ]
  clear hHeld
  refine wpAnyH_done (by kernel_rfl) ?_ _
  refine NoPanic.normal ?_
  have bb := bz4
  have Bwz8_4 := Bw2.trans (bb.mono Bw2.size)
  have swz8_4 := bb.size
  replace LC := LC.below bb LC.lt
  replace LA := LA.below bb LA.lt
  clear Bw2
  clear bb bz4 K
  clear cLC0 cLC1 cLA0 cLA1 cLA2
  have dW := oW
  obtain ⟨vsoW, oW⟩ := oW
  obtain ⟨aoW, koW, rfl⟩ := OPt.form ⟨_, oW⟩
  replace oW := oW.opr
  go_wp2_with fail
  refine (unhide TP _ (unhide RA _ Bwz8_4)).mono ?_
  rintro _ w3 ⟨v2, rfl, oX, bb⟩
  have Bw3 := Bwz8_4.trans (bb.mono Bwz8_4.size)
  have sw3 := bb.size
  replace LC := LC.below bb LC.lt
  replace LA := LA.below bb LA.lt
  replace oW := oW.below bb
  clear Bwz8_4
  clear bb
  obtain ⟨vsoX, oX⟩ := oX
  obtain ⟨aoX, koX, rfl⟩ := OPt.form ⟨_, oX⟩
  replace oX := oX.opr
  rw [hpl] at oX ⊢
  have cLA0 := LA.cell 0 rfl
  have cLA1 := LA.cell 1 rfl
  have cLA2 := LA.cell 2 rfl
  go_wp2_with fail
  refine (unhide TQ _ (unhide RP _ Bw3)).mono ?_
  rintro _ w4 ⟨u2, rfl, oP, bb⟩
  clear cLA0 cLA1 cLA2
  have Bw4 := Bw3.trans (bb.mono Bw3.size)
  have sw4 := bb.size
  replace LC := LC.below bb LC.lt
  replace LA := LA.below bb LA.lt
  replace oW := oW.below bb
  replace oX := oX.below bb
  clear Bw3
  clear bb
  have toP := World.ownsRow.lt oP
  obtain ⟨aoP, koP, rfl⟩ := oP.form
  rw [hpx] at oP toP ⊢
  go_upto_region 11 with fail
  obtain ⟨w5, hw5⟩ : ∃ y, w4.alloc (.cells #[.int .i64 m, .string s, .slice aoP pl koP] 26) = y := ⟨_, rfl⟩
  have bb : Below w4.heap.size w4 w5 := hw5 ▸ qalloc _ _
  have LX : Loc w5 w4.heap.size #[.int .i64 m, .string s, .slice aoP pl koP] := hw5 ▸ loc_at w4 _ _ rfl
  have zw5 : w4.heap.size + 1 ≤ w5.heap.size := by rw [← hw5]; simp
  rw [hw5]
  clear hw5
  have Bw5 := Bw4.trans (bb.mono Bw4.size)
  have sw5 := bb.size
  replace LC := LC.below bb LC.lt
  replace LA := LA.below bb LA.lt
  replace oW := oW.below bb
  replace oX := oX.below bb
  replace oP := oP.below bb
  clear Bw4
  clear bb
  have CX := hide oX.cap
  have RX := hide fun w' (hb' : Below w5.heap.size w5 w') => (oX.below hb').rpt hw
  have RO := hide fun w' (hb' : Below w5.heap.size w5 w') => (oP.below hb').ri (by omega)
  have K : Hid (∀ w', Below w5.heap.size w5 w' → (fun w' => Below w5.heap.size w5 w' ∧ (w'.cell? ⟨w.heap.size, 0, none⟩ = some (.int .i64 n) ∧ w'.cell? ⟨w.heap.size, 1, none⟩ = some (.int .i64 f)) ∧ (w'.cell? ⟨w4.heap.size, 0, none⟩ = some (.int .i64 m) ∧ w'.cell? ⟨w4.heap.size, 1, none⟩ = some (.string s) ∧ w'.cell? ⟨w4.heap.size, 2, none⟩ = some (.slice aoP pl koP))) w') := hide fun w' hb' => ⟨hb', ⟨(LC.below hb' LC.lt).cell 0 rfl, (LC.below hb' LC.lt).cell 1 rfl⟩, ⟨(LX.below hb' LX.lt).cell 0 rfl, (LX.below hb' LX.lt).cell 1 rfl, (LX.below hb' LX.lt).cell 2 rfl⟩⟩
  have bA : Below w5.heap.size w5 w5.drew := Below.drew (Below.refl _ _)
  refine wp_region_noPanic ?_
  refine wp_region_held_drew (S := fun w' => Below w5.heap.size w5 w' ∧ (w'.cell? ⟨w.heap.size, 0, none⟩ = some (.int .i64 n) ∧ w'.cell? ⟨w.heap.size, 1, none⟩ = some (.int .i64 f)) ∧ (w'.cell? ⟨w4.heap.size, 0, none⟩ = some (.int .i64 m) ∧ w'.cell? ⟨w4.heap.size, 1, none⟩ = some (.string s) ∧ w'.cell? ⟨w4.heap.size, 2, none⟩ = some (.slice aoP pl koP))) (by kernel_rfl) (unhide K _ bA) (fun hHeld => ?_)
  refine take_at (i := 0) (d := 44) (v := ?_) rfl rfl (by kernel_rfl) (by kernel_rfl) (by kernel_rfl) (fun _ _ _ h => h) (Or.inl ⟨by rfl, ?_⟩) (by assumption) ?_
  rotate_left
  · intro w hSw
    try dsimp only at hSw
    go_simp
    try with_reducible rfl
  simp only [Act.put, List.setIfInBounds_toArray, List.set_cons_zero, List.set_cons_succ]
  refine take_at (i := 2) (d := 46) (v := ?_) rfl rfl (by kernel_rfl) (by kernel_rfl) (by kernel_rfl) (fun _ _ _ h => h) (Or.inl ⟨by rfl, ?_⟩) (by assumption) ?_
  rotate_left
  · intro w hSw
    try dsimp only at hSw
    go_simp
    try with_reducible rfl
  simp only [Act.put, List.setIfInBounds_toArray, List.set_cons_zero, List.set_cons_succ]
  refine take_at (i := 3) (d := 47) (v := ?_) rfl rfl (by kernel_rfl) (by kernel_rfl) (by kernel_rfl) (fun _ _ _ h => h) (Or.inl ⟨by rfl, ?_⟩) (by assumption) ?_
  rotate_left
  · intro w hSw
    try dsimp only at hSw
    go_simp
    try with_reducible rfl
  simp only [Act.put, List.setIfInBounds_toArray, List.set_cons_zero, List.set_cons_succ]
  refine ready_at (i := 1) rfl (by kernel_rfl) (fun KK hKK => ?_)
  go_simp
  have hgo := bA
  refine (unhide TO _).mono ?_
  rintro e wz11_1 ⟨rfl, bb⟩
  have bz1 : Below w5.heap.size w5 wz11_1 := bA.trans (bb.mono bA.size)
  have sgA := bz1.size
  clear bA hgo bb
  clear hHeld
  refine hKK.out _ _ (unhide K _ bz1) (fun hHeld => ?_)
  clear hKK KK
  refine ready_at (i := 4) rfl (by kernel_rfl) (fun KK hKK => ?_)
  go_simp
  have hgo := bz1
  refine (unhide IM _ _ _ (unhide HE _ (Bw5.trans (hgo.mono Bw5.size))) (unhide RX _ hgo) (unhide CX) (unhide RO _ hgo)).mono ?_
  rintro e wz11_2 ⟨tG, rfl, oG, bb⟩
  have bz2 : Below w5.heap.size w5 wz11_2 := bz1.trans (bb.mono bz1.size)
  clear RX RO CX
  clear bz1 hgo bb
  clear hHeld
  refine hKK.out _ _ (unhide K _ bz2) (fun hHeld => ?_)
  clear hKK KK
  refine take_at (i := 5) (d := 43) (v := ?_) rfl rfl (by kernel_rfl) (by kernel_rfl) (by kernel_rfl) (fun _ _ _ h => h) (Or.inl ⟨by rfl, ?_⟩) (by assumption) ?_
  rotate_left
  · intro w hSw
    try dsimp only at hSw
    go_simp
    try with_reducible rfl
  simp only [Act.put, List.setIfInBounds_toArray, List.set_cons_zero, List.set_cons_succ]
  refine take_at (i := 6) (d := 49) (v := ?_) rfl rfl (by kernel_rfl) (by kernel_rfl) (by kernel_rfl) (fun _ _ _ h => h) (Or.inl ⟨by rfl, ?_⟩) (by assumption) ?_
  rotate_left
  · intro w hSw
    try dsimp only at hSw
    go_simp
    try with_reducible rfl
  simp only [Act.put, List.setIfInBounds_toArray, List.set_cons_zero, List.set_cons_succ]
  refine take_at (i := 7) (d := 50) (v := ?_) rfl rfl (by kernel_rfl) (by kernel_rfl) (by kernel_rfl) (fun _ _ _ h => h) (Or.inl ⟨by rfl, ?_⟩) (by assumption) ?_
  rotate_left
  · intro w hSw
    try dsimp only at hSw
    go_simp
    try with_reducible rfl
  simp only [Act.put, List.setIfInBounds_toArray, List.set_cons_zero, List.set_cons_succ]
  refine take_at (i := 8) (d := 12) (v := ?_) rfl rfl (by kernel_rfl) (by kernel_rfl) (by kernel_rfl) (fun _ _ _ h => h) (Or.inl ⟨by rfl, ?_⟩) (by assumption) ?_
  rotate_left
  · intro w hSw
    try dsimp only at hSw
    go_simp
    try with_reducible rfl
  simp only [Act.put, List.setIfInBounds_toArray, List.set_cons_zero, List.set_cons_succ]
  refine take_at (i := 9) (d := 13) (v := ?_) rfl rfl (by kernel_rfl) (by kernel_rfl) (by kernel_rfl) (fun _ _ _ h => h) (Or.inl ⟨by rfl, ?_⟩) (by assumption) ?_
  rotate_left
  · intro w hSw
    try dsimp only at hSw
    go_simp
    try with_reducible rfl
  simp only [Act.put, List.setIfInBounds_toArray, List.set_cons_zero, List.set_cons_succ]
  clear hHeld
  refine wpAnyH_done (by kernel_rfl) ?_ _
  refine NoPanic.normal ?_
  have bb := bz2
  have Bwz11_2 := Bw5.trans (bb.mono Bw5.size)
  have swz11_2 := bb.size
  replace LC := LC.below bb LC.lt
  replace LA := LA.below bb LA.lt
  replace LX := LX.below bb LX.lt
  replace oW := oW.below bb
  replace oX := oX.below bb
  replace oP := oP.below bb
  clear Bw5
  clear bb bz2 K
  obtain ⟨vsoG, oG⟩ := oG
  obtain ⟨aoG, koG, rfl⟩ := OPt.form ⟨_, oG⟩
  replace oG := oG.opr
  go_wp2_with fail
  refine (unhide ER _ _ _ (oG.rpt hrl) (oW.rpt hrl)).mono ?_
  rintro _ w6 ⟨rfl, bb⟩
  have Bw6 := Bwz11_2.trans (bb.mono Bwz11_2.size)
  have sw6 := bb.size
  replace LC := LC.below bb LC.lt
  replace LA := LA.below bb LA.lt
  replace LX := LX.below bb LX.lt
  replace oW := oW.below bb
  replace oX := oX.below bb
  replace oP := oP.below bb
  replace oG := oG.below bb
  clear Bwz11_2
  clear bb
  go_wp2_with fail
  refine (unhide TP _ (unhide RA _ Bw6)).mono ?_
  rintro _ w7 ⟨v3, rfl, oY, bb⟩
  have Bw7 := Bw6.trans (bb.mono Bw6.size)
  have sw7 := bb.size
  replace LC := LC.below bb LC.lt
  replace LA := LA.below bb LA.lt
  replace LX := LX.below bb LX.lt
  replace oW := oW.below bb
  replace oX := oX.below bb
  replace oP := oP.below bb
  replace oG := oG.below bb
  clear Bw6
  clear bb
  obtain ⟨aY, kY, rfl⟩ := OPt.form oY
  rw [hpl] at oY ⊢
  go_wp2_with fail
  refine (unhide EQ _ _ _ (oX.rpt hw) (oY.rpt hw)).mono ?_
  rintro _ w8 ⟨rfl, bb⟩
  have Bw8 := Bw7.trans (bb.mono Bw7.size)
  have sw8 := bb.size
  replace LC := LC.below bb LC.lt
  replace LA := LA.below bb LA.lt
  replace LX := LX.below bb LX.lt
  replace oW := oW.below bb
  replace oX := oX.below bb
  replace oP := oP.below bb
  replace oG := oG.below bb
  clear Bw7
  clear bb
  clear oY EQ
  have RO := hide fun w' (hb' : Below w8.heap.size w8 w') => (oP.below hb').ri (by omega)
  have K : Hid (∀ w', Below w8.heap.size w8 w' → (fun w' => Below w8.heap.size w8 w' ∧ (w'.cell? ⟨w.heap.size + 1, 0, none⟩ = some (.int .i64 m) ∧ w'.cell? ⟨w.heap.size + 1, 1, none⟩ = some (.string s) ∧ w'.cell? ⟨w.heap.size + 1, 2, none⟩ = some (.slice pa pl pc)) ∧ (w'.cell? ⟨w4.heap.size, 0, none⟩ = some (.int .i64 m) ∧ w'.cell? ⟨w4.heap.size, 1, none⟩ = some (.string s) ∧ w'.cell? ⟨w4.heap.size, 2, none⟩ = some (.slice aoP pl koP))) w') := hide fun w' hb' => ⟨hb', ⟨(LA.below hb' LA.lt).cell 0 rfl, (LA.below hb' LA.lt).cell 1 rfl, (LA.below hb' LA.lt).cell 2 rfl⟩, ⟨(LX.below hb' LX.lt).cell 0 rfl, (LX.below hb' LX.lt).cell 1 rfl, (LX.below hb' LX.lt).cell 2 rfl⟩⟩
  go_upto_region 16 with fail
  have bA : Below w8.heap.size w8 w8.drew := Below.drew (Below.refl _ _)
  refine wp_region_noPanic ?_
  refine wp_region_held_drew (S := fun w' => Below w8.heap.size w8 w' ∧ (w'.cell? ⟨w.heap.size + 1, 0, none⟩ = some (.int .i64 m) ∧ w'.cell? ⟨w.heap.size + 1, 1, none⟩ = some (.string s) ∧ w'.cell? ⟨w.heap.size + 1, 2, none⟩ = some (.slice pa pl pc)) ∧ (w'.cell? ⟨w4.heap.size, 0, none⟩ = some (.int .i64 m) ∧ w'.cell? ⟨w4.heap.size, 1, none⟩ = some (.string s) ∧ w'.cell? ⟨w4.heap.size, 2, none⟩ = some (.slice aoP pl koP))) (by kernel_rfl) (unhide K _ bA) (fun hHeld => ?_)
  refine take_at (i := 0) (d := 65) (v := ?_) rfl rfl (by kernel_rfl) (by kernel_rfl) (by kernel_rfl) (fun _ _ _ h => h) (Or.inl ⟨by rfl, ?_⟩) (by assumption) ?_
  rotate_left
  · intro w hSw
    try dsimp only at hSw
    go_simp
    try with_reducible rfl
  simp only [Act.put, List.setIfInBounds_toArray, List.set_cons_zero, List.set_cons_succ]
  refine take_at (i := 1) (d := 66) (v := ?_) rfl rfl (by kernel_rfl) (by kernel_rfl) (by kernel_rfl) (fun _ _ _ h => h) (Or.inl ⟨by rfl, ?_⟩) (by assumption) ?_
  rotate_left
  · intro w hSw
    try dsimp only at hSw
    go_simp
    try with_reducible rfl
  simp only [Act.put, List.setIfInBounds_toArray, List.set_cons_zero, List.set_cons_succ]
  refine ready_at (i := 2) rfl (by kernel_rfl) (fun KK hKK => ?_)
  go_simp
  have hgo := bA
  refine (unhide TQ _ (unhide RP _ (Bw8.trans (hgo.mono Bw8.size)))).mono ?_
  rintro e wz16_1 ⟨u3, rfl, o3, bb⟩
  have bz1 : Below w8.heap.size w8 wz16_1 := bA.trans (bb.mono bA.size)
  have R3 := hide (o3.ri (by omega))
  obtain ⟨b3, j3, rfl⟩ := o3.form
  rw [hpx] at R3 ⊢
  clear o3
  clear bA hgo bb
  clear hHeld
  refine hKK.out _ _ (unhide K _ bz1) (fun hHeld => ?_)
  clear hKK KK
  refine ready_at (i := 3) rfl (by kernel_rfl) (fun KK hKK => ?_)
  go_simp
  have hgo := bz1
  refine (unhide EP _ _ _ (unhide RO _ hgo) (unhide R3)).mono ?_
  rintro e wz16_2 ⟨rfl, bb⟩
  have bz2 : Below w8.heap.size w8 wz16_2 := bz1.trans (bb.mono bz1.size)
  clear RO R3
  clear bz1 hgo bb
  clear hHeld
  refine hKK.out _ _ (unhide K _ bz2) (fun hHeld => ?_)
  clear hKK KK
  refine take_at (i := 4) (d := 69) (v := ?_) rfl rfl (by kernel_rfl) (by kernel_rfl) (by kernel_rfl) (fun _ _ _ h => h) (Or.inl ⟨by rfl, ?_⟩) (by assumption) ?_
  rotate_left
  · intro w hSw
    try dsimp only at hSw
    go_simp
    try with_reducible rfl
  simp only [Act.put, List.setIfInBounds_toArray, List.set_cons_zero, List.set_cons_succ]
  clear hHeld
  refine wpAnyH_done (by kernel_rfl) ?_ _
  refine NoPanic.normal ?_
  have bb := bz2
  have Bwz16_2 := Bw8.trans (bb.mono Bw8.size)
  have swz16_2 := bb.size
  replace LC := LC.below bb LC.lt
  replace LA := LA.below bb LA.lt
  replace LX := LX.below bb LX.lt
  replace oW := oW.below bb
  replace oX := oX.below bb
  replace oP := oP.below bb
  replace oG := oG.below bb
  clear Bw8
  clear bb bz2 K
  clear EP
  go_wp2_with fail
  refine (markPartS_any _ _ _ ps _ 1 _ (by omega) hw (by omega) oX).mono ?_
  rintro _ w9 ⟨rfl, om, k1⟩
  clear oX
  have Bw9 := Below.kp Bwz16_2 k1 Bwz16_2.size (fun k hk => by omega)
  have sw9 := k1.size
  replace LC := LC.kp k1 (fun h => by omega)
  replace LA := LA.kp k1 (fun h => by omega)
  replace LX := LX.kp k1 (fun h => by omega)
  replace oW := oW.kp k1 (fun j h1 h2 h3 => by omega)
  replace oP := oP.kp k1 (fun j hj h => by have := toP j hj; omega)
  replace oG := oG.kp k1 (fun j h1 h2 h3 => by omega)
  clear Bwz16_2 k1
  clear om
  have hkk : decide (((pend 1 ps : Nat) : Int) + (pl : Int) < 0) = false := by simp; omega
  have cLX0 := LX.cell 0 rfl
  have cLX1 := LX.cell 1 rfl
  have cLX2 := LX.cell 2 rfl
  go_wp2_with fail
  refine (markPart_any m s _ _ xs (pend 1 ps) _ (by omega) (by omega) oP).mono ?_
  rintro _ w10 ⟨rfl, om, k2⟩
  rw [hpx]
  clear oP
  clear cLX0 cLX1 cLX2
  have Bw10 := Below.kp Bw9 k2 Bw9.size (fun k hk => by have := toP k hk; omega)
  have sw10 := k2.size
  replace LC := LC.kp k2 (fun h => by have := toP _ h; omega)
  replace LA := LA.kp k2 (fun h => by have := toP _ h; omega)
  replace LX := LX.kp k2 (fun h => by have := toP _ h; omega)
  replace oW := oW.kp k2 (fun j h1 h2 h3 => by have := toP _ h3; omega)
  replace oG := oG.kp k2 (fun j h1 h2 h3 => by have := toP _ h3; omega)
  clear Bw9 k2 om
  clear LX
  go_wp2_with fail
  refine (unhide ER _ _ _ (oG.rpt hrl) (oW.rpt hrl)).mono ?_
  rintro _ w11 ⟨rfl, bb⟩
  have Bw11 := Bw10.trans (bb.mono Bw10.size)
  have sw11 := bb.size
  replace LC := LC.below bb LC.lt
  replace LA := LA.below bb LA.lt
  replace oW := oW.below bb
  replace oG := oG.below bb
  clear Bw10
  clear bb
  go_wp2_with fail
  refine (markPartS_any _ _ _ rl _ 1 _ (by omega) hrl (by omega) oG).mono ?_
  rintro _ w12 ⟨rfl, om, k3⟩
  clear oG
  have Bw12 := Below.kp Bw11 k3 Bw11.size (fun k hk => by omega)
  have sw12 := k3.size
  replace LC := LC.kp k3 (fun h => by omega)
  replace LA := LA.kp k3 (fun h => by omega)
  replace oW := oW.kp k3 (fun j h1 h2 h3 => by omega)
  clear Bw11 k3
  have oG := om
  clear om
  have hrm := pmk_small 1 rl hrl
  have hkm : decide (((pend 1 rl : Nat) : Int) < 0) = false := by simp
  go_wp2_with fail
  refine (heldPartS_any _ rl 1 _ (by omega) (by omega) (oG.rpt hrm)).mono ?_
  rintro _ w13 ⟨rfl, bb⟩
  have Bw13 := Bw12.trans (bb.mono Bw12.size)
  have sw13 := bb.size
  replace LC := LC.below bb LC.lt
  replace LA := LA.below bb LA.lt
  replace oW := oW.below bb
  replace oG := oG.below bb
  clear Bw12
  clear bb
  have K : Hid (∀ w', Below w13.heap.size w13 w' → (fun w' => Below w13.heap.size w13 w' ∧ (w'.cell? ⟨w.heap.size, 0, none⟩ = some (.int .i64 n) ∧ w'.cell? ⟨w.heap.size, 1, none⟩ = some (.int .i64 f)) ∧ (w'.cell? ⟨w.heap.size + 1, 0, none⟩ = some (.int .i64 m) ∧ w'.cell? ⟨w.heap.size + 1, 1, none⟩ = some (.string s) ∧ w'.cell? ⟨w.heap.size + 1, 2, none⟩ = some (.slice pa pl pc))) w') := hide fun w' hb' => ⟨hb', ⟨(LC.below hb' LC.lt).cell 0 rfl, (LC.below hb' LC.lt).cell 1 rfl⟩, ⟨(LA.below hb' LA.lt).cell 0 rfl, (LA.below hb' LA.lt).cell 1 rfl, (LA.below hb' LA.lt).cell 2 rfl⟩⟩
  go_upto_region 31 with fail
  have bA : Below w13.heap.size w13 w13.drew := Below.drew (Below.refl _ _)
  refine wp_region_noPanic ?_
  refine wp_region_held_drew (S := fun w' => Below w13.heap.size w13 w' ∧ (w'.cell? ⟨w.heap.size, 0, none⟩ = some (.int .i64 n) ∧ w'.cell? ⟨w.heap.size, 1, none⟩ = some (.int .i64 f)) ∧ (w'.cell? ⟨w.heap.size + 1, 0, none⟩ = some (.int .i64 m) ∧ w'.cell? ⟨w.heap.size + 1, 1, none⟩ = some (.string s) ∧ w'.cell? ⟨w.heap.size + 1, 2, none⟩ = some (.slice pa pl pc))) (by kernel_rfl) (unhide K _ bA) (fun hHeld => ?_)
  refine take_at (i := 0) (d := 101) (v := ?_) rfl rfl (by kernel_rfl) (by kernel_rfl) (by kernel_rfl) (fun _ _ _ h => h) (Or.inl ⟨by rfl, ?_⟩) (by assumption) ?_
  rotate_left
  · intro w hSw
    try dsimp only at hSw
    go_simp
    try with_reducible rfl
  simp only [Act.put, List.setIfInBounds_toArray, List.set_cons_zero, List.set_cons_succ]
  refine take_at (i := 2) (d := 103) (v := ?_) rfl rfl (by kernel_rfl) (by kernel_rfl) (by kernel_rfl) (fun _ _ _ h => h) (Or.inl ⟨by rfl, ?_⟩) (by assumption) ?_
  rotate_left
  · intro w hSw
    try dsimp only at hSw
    go_simp
    try with_reducible rfl
  simp only [Act.put, List.setIfInBounds_toArray, List.set_cons_zero, List.set_cons_succ]
  refine take_at (i := 4) (d := 105) (v := ?_) rfl rfl (by kernel_rfl) (by kernel_rfl) (by kernel_rfl) (fun _ _ _ h => h) (Or.inl ⟨by rfl, ?_⟩) (by assumption) ?_
  rotate_left
  · intro w hSw
    try dsimp only at hSw
    go_simp
    try with_reducible rfl
  simp only [Act.put, List.setIfInBounds_toArray, List.set_cons_zero, List.set_cons_succ]
  refine ready_at (i := 1) rfl (by kernel_rfl) (fun KK hKK => ?_)
  go_simp
  have hgo := bA
  refine (unhide TO _).mono ?_
  rintro e wz31_1 ⟨rfl, bb⟩
  have bz1 : Below w13.heap.size w13 wz31_1 := bA.trans (bb.mono bA.size)
  clear bA hgo bb
  clear hHeld
  refine hKK.out _ _ (unhide K _ bz1) (fun hHeld => ?_)
  clear hKK KK
  refine ready_at (i := 3) rfl (by kernel_rfl) (fun KK hKK => ?_)
  go_simp
  have hgo := bz1
  refine (unhide TP _ (unhide RA _ (Bw13.trans (hgo.mono Bw13.size)))).mono ?_
  rintro e wz31_2 ⟨v5, rfl, o5, bb⟩
  have bz2 : Below w13.heap.size w13 wz31_2 := bz1.trans (bb.mono bz1.size)
  have R1 := hide (fun w' (hb : Below wz31_2.heap.size wz31_2 w') => (o5.below hb).rpt hw)
  have C1 := hide (OPt.cap o5)
  obtain ⟨a5, k5, rfl⟩ := OPt.form o5
  rw [hpl] at R1 C1 ⊢
  clear o5
  clear bz1 hgo bb
  clear hHeld
  refine hKK.out _ _ (unhide K _ bz2) (fun hHeld => ?_)
  clear hKK KK
  refine ready_at (i := 5) rfl (by kernel_rfl) (fun KK hKK => ?_)
  go_simp
  have hgo := bz2
  refine (unhide TQ _ (unhide RP _ (Bw13.trans (hgo.mono Bw13.size)))).mono ?_
  rintro e wz31_3 ⟨u5, rfl, p5, bb⟩
  have bz3 : Below w13.heap.size w13 wz31_3 := bz2.trans (bb.mono bz2.size)
  have RQ := hide (p5.ri (by omega))
  have R1' := hide (unhide R1 _ (by assumption))
  obtain ⟨b5, j5, rfl⟩ := p5.form
  rw [hpx] at RQ ⊢
  clear p5
  clear bz2 hgo bb
  clear hHeld
  refine hKK.out _ _ (unhide K _ bz3) (fun hHeld => ?_)
  clear hKK KK
  refine ready_at (i := 6) rfl (by kernel_rfl) (fun KK hKK => ?_)
  go_simp
  have hgo := bz3
  refine (unhide IM _ _ _ (unhide HE _ (Bw13.trans (hgo.mono Bw13.size))) (unhide R1') (unhide C1) (unhide RQ)).mono ?_
  rintro e wz31_4 ⟨tH, rfl, oH, bb⟩
  have bz4 : Below w13.heap.size w13 wz31_4 := bz3.trans (bb.mono bz3.size)
  clear R1' RQ C1
  clear bz3 hgo bb
  clear hHeld
  refine hKK.out _ _ (unhide K _ bz4) (fun hHeld => ?_)
  clear hKK KK
  refine take_at (i := 7) (d := 100) (v := ?_) rfl rfl (by kernel_rfl) (by kernel_rfl) (by kernel_rfl) (fun _ _ _ h => h) (Or.inl ⟨by rfl, ?_⟩) (by assumption) ?_
  rotate_left
  · intro w hSw
    try dsimp only at hSw
    go_simp
    try with_reducible rfl
  simp only [Act.put, List.setIfInBounds_toArray, List.set_cons_zero, List.set_cons_succ]
  refine take_at (i := 8) (d := 108) (v := ?_) rfl rfl (by kernel_rfl) (by kernel_rfl) (by kernel_rfl) (fun _ _ _ h => h) (Or.inl ⟨by rfl, ?_⟩) (by assumption) ?_
  rotate_left
  · intro w hSw
    try dsimp only at hSw
    go_simp
    try with_reducible rfl
  simp only [Act.put, List.setIfInBounds_toArray, List.set_cons_zero, List.set_cons_succ]
  refine take_at (i := 9) (d := 109) (v := ?_) rfl rfl (by kernel_rfl) (by kernel_rfl) (by kernel_rfl) (fun _ _ _ h => h) (Or.inl ⟨by rfl, ?_⟩) (by assumption) ?_
  rotate_left
  · intro w hSw
    try dsimp only at hSw
    go_simp
    try with_reducible rfl
  simp only [Act.put, List.setIfInBounds_toArray, List.set_cons_zero, List.set_cons_succ]
  refine take_at (i := 10) (d := 17) (v := ?_) rfl rfl (by kernel_rfl) (by kernel_rfl) (by kernel_rfl) (fun _ _ _ h => h) (Or.inl ⟨by rfl, ?_⟩) (by assumption) ?_
  rotate_left
  · intro w hSw
    try dsimp only at hSw
    go_simp
    try with_reducible rfl
  simp only [Act.put, List.setIfInBounds_toArray, List.set_cons_zero, List.set_cons_succ]
  refine take_at (i := 11) (d := 18) (v := ?_) rfl rfl (by kernel_rfl) (by kernel_rfl) (by kernel_rfl) (fun _ _ _ h => h) (Or.inl ⟨by rfl, ?_⟩) (by assumption) ?_
  rotate_left
  · intro w hSw
    try dsimp only at hSw
    go_simp
    try with_reducible rfl
  simp only [Act.put, List.setIfInBounds_toArray, List.set_cons_zero, List.set_cons_succ]
  clear hHeld
  refine wpAnyH_done (by kernel_rfl) ?_ _
  refine NoPanic.normal ?_
  have bb := bz4
  have Bwz31_4 := Bw13.trans (bb.mono Bw13.size)
  have swz31_4 := bb.size
  replace LC := LC.below bb LC.lt
  replace LA := LA.below bb LA.lt
  replace oW := oW.below bb
  replace oG := oG.below bb
  clear Bw13
  clear bb bz4 K
  obtain ⟨aH, kH, rfl⟩ := OPt.form oH
  go_wp2_with fail
  refine (unhide ER _ _ _ (oH.rpt hrl) (oW.rpt hrl)).mono ?_
  rintro _ w14 ⟨rfl, bb⟩
  have Bw14 := Bwz31_4.trans (bb.mono Bwz31_4.size)
  have sw14 := bb.size
  replace LC := LC.below bb LC.lt
  replace LA := LA.below bb LA.lt
  replace oW := oW.below bb
  replace oG := oG.below bb
  clear Bwz31_4
  clear bb
  clear oH
  go_wp2_with fail
  refine (heldPartS_any _ rl 1 _ (by omega) (by omega) (oG.rpt hrm)).mono ?_
  rintro _ w15 ⟨rfl, bb⟩
  have Bw15 := Bw14.trans (bb.mono Bw14.size)
  have sw15 := bb.size
  replace LC := LC.below bb LC.lt
  replace LA := LA.below bb LA.lt
  replace oW := oW.below bb
  replace oG := oG.below bb
  clear Bw14
  clear bb
  go_wp2
  go_ret
  exact ⟨rfl, Bw15⟩
end Go.Proofs.YtehdchpolgihlaaGreatDoor
