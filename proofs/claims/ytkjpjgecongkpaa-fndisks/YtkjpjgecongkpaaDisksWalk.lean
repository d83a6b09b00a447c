/- The walk of laws.FnDisks. -/
import Derived.Test.YtkjpjgecongkpaaDrawDisks
import Derived.Test.YtkjpjgecongkpaaDiskAll
import Derived.Test.YtkjpjgecongkpaaDiskOpen
import Derived.Lib.BufferRead
import Derived.Deep.DeepCutAuto
namespace Go.Proofs.Ytkjpjgecongkpaa
open Go.RowKit

theorem conv_rb {w : World} {v : Value} {xs : List Int} (h : RB w v xs) (hl : xs.length ≤ 1048600) : (convert 22 9 v).run Try.prog w = .ok (.string (strOfNums xs)) w := by
  obtain ⟨_, ao, ca, rfl, _, hc⟩ := h
  rcases hc with rfl | ⟨b, off, rfl, hc⟩
  · cases ao with
    | none => exact Lib.run_convert_nil_bytes w 22 9 5 ca Try.underlying22 Try.underlying5 Try.underlying9
    | some ad =>
      have hl := run_loadCells_list (P := Try.prog) w ad ([] : List Value) (fun j v hj => by simp at hj)
      simp only [List.length_nil] at hl ⊢
      rw [run_convert_bytes_string w 22 9 5 (some ad) 0 ca Try.underlying22 Try.underlying5 Try.underlying9]
      simp [Conv.bytesToString, hl]
      rfl
  · exact run_convert_bytes_arg (P := Try.prog) w 22 5 Try.underlying22 Try.underlying5 b off xs.length ca xs rfl hc 9 Try.underlying9
theorem bigD_no (ao : Option Addr) (n ca : Nat) (w : World) (h : n ≤ 1048576) :
    Calls Try.prog 8 #[.slice ao n ca] w fun e w' => e = .returned (.bool false) ∧ Below w.heap.size w w' := by
  have hd : decide ((1048576 : Int) < (n : Int)) = false := by simp; omega
  go_enter Try.func8, Try.ntmps8
  go_wp2
  go_ret
  exact ⟨rfl, Below.refl _ _⟩
theorem bigD_yes (ao : Option Addr) (n ca : Nat) (w : World) (h : 1048576 < n) :
    Calls Try.prog 8 #[.slice ao n ca] w fun e w' => e = .returned (.bool true) ∧ Below w.heap.size w w' := by
  have hd : decide ((1048576 : Int) < (n : Int)) = true := by simp; omega
  go_enter Try.func8, Try.ntmps8
  go_wp2
  go_ret
  exact ⟨rfl, Below.refl _ _⟩
set_option maxHeartbeats 8000000 in
set_option maxRecDepth 100000 in
theorem sameDisk_at (a b : Value) (xs ys : List Int) (s s' : Int) (w : World) (ha : RB w a xs) (hb : RB w b ys) (hl : xs.length ≤ 1048600) (hx : xs = ys) (hs : s = s') :
    Calls Try.prog 15 #[dv a s, dv b s'] w fun e w' => e = .returned (.bool true) ∧ Below w.heap.size w w' := by
  subst hx hs
  have HA := hide ha
  have HB := hide hb
  clear ha hb
  obtain ⟨w0, hw0⟩ : ∃ w0, ((w.alloc (.cells #[a, .int .i64 s] 25)).alloc (.cells #[b, .int .i64 s] 25)) = w0 := ⟨_, rfl⟩
  have Bw0 : Below w.heap.size w w0 := hw0 ▸ ((Below.refl _ _).alloc (Nat.le_refl _) _).alloc (by simp) _
  have P : Loc w0 (w.heap.size) #[a, .int .i64 s] := hw0 ▸ (loc_at (w) _ _ rfl).alloc _
  have R : Loc w0 (w.heap.size + 1) #[b, .int .i64 s] := hw0 ▸ loc_at (w.alloc _) _ _ (by simp)
  have zw0 : w.heap.size + 1 + 1 ≤ w0.heap.size := by rw [← hw0]; simp
  go_enter Try.func15, Try.ntmps15
  have CA := conv_rb ((unhide HA).below Bw0 (Nat.le_refl _)) hl
  have CB := conv_rb ((unhide HB).below Bw0 (Nat.le_refl _)) hl
  generalize strOfNums xs = t at *
  have cP0 := P.cell 0 rfl
  have cP1 := P.cell 1 rfl
  have cR0 := R.cell 0 rfl
  have cR1 := R.cell 1 rfl
  go_wp2
  go_ret
  exact ⟨rfl, Bw0⟩
theorem disk_yes (xs : List Int) (s keep : Int) : dokB xs.length s = true → fallX xs.length s keep xs = xs.take (fallX xs.length s keep xs).length ∧ fallS xs.length s keep = ((fallX xs.length s keep xs).length : Int) ∧ s ≤ ((fallX xs.length s keep xs).length : Int) ∧ (fallX xs.length s keep xs).length ≤ xs.length ∧ syncS xs.length s = (xs.length : Int) := by
  intro h
  obtain ⟨f1, f2⟩ := fall_le (keep := keep) h
  obtain ⟨h1, h2, h3⟩ := dok_iff.1 h
  have e : (fallX xs.length s keep xs).length = fallN xs.length s keep := by unfold fallX; rw [if_pos h, List.length_take]; omega
  refine ⟨?_, ?_, ?_, by omega, by unfold syncS; rw [if_pos h]⟩
  · rw [e]; unfold fallX; rw [if_pos h]
  · rw [e]; unfold fallS; rw [if_pos h]
  · rw [e, f2]; omega
theorem disk_no (xs : List Int) (s keep : Int) : dokB xs.length s = false → fallX xs.length s keep xs = xs ∧ fallS xs.length s keep = s ∧ syncS xs.length s = s := by
  intro h
  simp [fallX, fallS, syncS, h]
set_option maxHeartbeats 32000000 in
set_option maxRecDepth 100000 in
theorem fnDisks_small (ao : Option Addr) (ca : Nat) (zs : List Int) (w : World) (h : DCode w ao zs) :
    Calls Try.prog 3 #[.slice ao zs.length ca] w fun e w' => e = .returned (.bool true) ∧ Below w.heap.size w w' := by
  have BG := hide fun w => bigD_no ao zs.length ca w h.len
  have D1 := hide fun w' (hb : Below w.heap.size w w') => drawFallTo ao ca zs w' (h.below hb (Nat.le_refl _))
  have D2 := hide fun w' (hb : Below w.heap.size w w') => drawAppend ao ca zs w' (h.below hb (Nat.le_refl _))
  clear h
  have Bw : Below w.heap.size w w := Below.refl _ _
  go_enter Try.func3, Try.ntmps3
  go_wp2_with fail
  refine (unhide BG _).mono ?_
  rintro _ w1 ⟨rfl, bb⟩
  have Bw1 := Bw.trans (bb.mono Bw.size)
  have sw1 := bb.size
  clear Bw
  clear bb
  clear BG
  go_wp2_with fail
  refine (unhide D1 _ Bw1).mono ?_
  rintro _ w2 ⟨uD, s, xs, keep, rfl, hl, oD, bb⟩
  have Bw2 := Bw1.trans (bb.mono Bw1.size)
  have sw2 := bb.size
  clear Bw1
  clear bb
  have toD := World.ownsRow.lt oD
  obtain ⟨aoD, koD, rfl⟩ := oD.form
  clear D1
  have IF := hide fun a k w h => implFall_any a xs.length k s xs keep w h (by omega)
  have SF := hide fun a k w h => specFall_any a xs.length k s xs keep w h (by omega)
  have IS := hide fun a k w h => implSync_any a xs.length k s xs w h (by omega)
  have SS := hide fun a k w h => specSync_any a xs.length k s xs w h (by omega)
  have ID := hide fun a k w => implDiskOk a xs.length k s w
  have SD := hide fun a k w => specDiskOk a xs.length k s w
  have HY := hide (disk_yes xs s keep)
  have HN := hide (disk_no xs s keep)
  have hx1 := fallX_len xs.length s keep xs
  generalize fallX xs.length s keep xs = x1 at *
  generalize fallS xs.length s keep = s1 at *
  generalize syncS xs.length s = s3 at *
  generalize dokB xs.length s = b at *
  have nb : (b != b) = false := by simp
  obtain ⟨w3, hw3⟩ : ∃ x, w2.alloc (.cells #[.slice aoD xs.length koD, .int .i64 s] 25) = x := ⟨_, rfl⟩
  have bb : Below w2.heap.size w2 w3 := hw3 ▸ qalloc _ _
  have LD : Loc w3 w2.heap.size #[.slice aoD xs.length koD, .int .i64 s] := hw3 ▸ loc_at w2 _ _ rfl
  have zw3 : w3.heap.size = w2.heap.size + 1 := by rw [← hw3]; simp
  have Bw3 := Bw2.trans (bb.mono Bw2.size)
  have sw3 := bb.size
  replace oD := oD.below bb
  clear Bw2
  clear bb
  have cLD0 := LD.cell 0 rfl
  have cLD1 := LD.cell 1 rfl
  go_wp2_with fail
  clear hw3
  refine (unhide IF _ _ _ (oD.rb (by omega))).mono ?_
  rintro _ w4 ⟨uF, rfl, oF, bb⟩
  clear cLD0 cLD1
  have Bw4 := Bw3.trans (bb.mono Bw3.size)
  have sw4 := bb.size
  replace LD := LD.below bb LD.lt
  replace oD := oD.below bb
  clear Bw3
  clear bb
  have toF := World.ownsRow.lt oF
  obtain ⟨aoF, koF, rfl⟩ := oF.form
  clear IF
  obtain ⟨w5, hw5⟩ : ∃ x, w4.alloc (.cells #[.slice aoF x1.length koF, .int .i64 s1] 25) = x := ⟨_, rfl⟩
  have bb : Below w4.heap.size w4 w5 := hw5 ▸ qalloc _ _
  have LF : Loc w5 w4.heap.size #[.slice aoF x1.length koF, .int .i64 s1] := hw5 ▸ loc_at w4 _ _ rfl
  have zw5 : w5.heap.size = w4.heap.size + 1 := by rw [← hw5]; simp
  have Bw5 := Bw4.trans (bb.mono Bw4.size)
  have sw5 := bb.size
  replace LD := LD.below bb LD.lt
  replace oD := oD.below bb
  replace oF := oF.below bb
  clear Bw4
  clear bb
  go_wp2_with fail
  clear hw5
  refine (unhide D2 _ Bw5).mono ?_
  rintro _ w6 ⟨uE, s2, ys, vB, bs, rfl, hl2, hlb, oE, oB, bb⟩
  have Bw6 := Bw5.trans (bb.mono Bw5.size)
  have sw6 := bb.size
  replace LD := LD.below bb LD.lt
  replace LF := LF.below bb LF.lt
  replace oD := oD.below bb
  replace oF := oF.below bb
  clear Bw5
  clear bb
  have toE := World.ownsRow.lt oE
  obtain ⟨aoE, koE, rfl⟩ := oE.form
  have toB := World.ownsRow.lt oB
  obtain ⟨aoB, koB, rfl⟩ := oB.form
  clear D2
  have IA := hide fun a k a' k' w h h' => implAppend_any a k k' s2 ys a' bs w h (by omega) h' (by omega)
  have SA := hide fun a k a' k' w h h' => specAppend_any a k k' s2 ys a' bs w h (by omega) h' (by omega)
  have hx2 := apdX_len s2 ys bs
  generalize apdX s2 ys bs = x2 at *
  generalize apdB ys.length bs.length s2 = b2 at *
  have nb2 : (b2 != b2) = false := by simp
  obtain ⟨w7, hw7⟩ : ∃ x, w6.alloc (.cells #[.slice aoE ys.length koE, .int .i64 s2] 25) = x := ⟨_, rfl⟩
  have bb : Below w6.heap.size w6 w7 := hw7 ▸ qalloc _ _
  have LE : Loc w7 w6.heap.size #[.slice aoE ys.length koE, .int .i64 s2] := hw7 ▸ loc_at w6 _ _ rfl
  have zw7 : w7.heap.size = w6.heap.size + 1 := by rw [← hw7]; simp
  have Bw7 := Bw6.trans (bb.mono Bw6.size)
  have sw7 := bb.size
  replace LD := LD.below bb LD.lt
  replace LF := LF.below bb LF.lt
  replace oD := oD.below bb
  replace oF := oF.below bb
  replace oE := oE.below bb
  replace oB := oB.below bb
  clear Bw6
  clear bb
  have cLE0 := LE.cell 0 rfl
  have cLE1 := LE.cell 1 rfl
  go_wp2_with fail
  clear hw7
  refine (unhide IA _ _ _ _ _ (oE.rb (by omega)) (oB.rb (by omega))).mono ?_
  rintro _ w8 ⟨uA, rfl, oA, bb⟩
  clear cLE0 cLE1
  have Bw8 := Bw7.trans (bb.mono Bw7.size)
  have sw8 := bb.size
  replace LD := LD.below bb LD.lt
  replace LF := LF.below bb LF.lt
  replace LE := LE.below bb LE.lt
  replace oD := oD.below bb
  replace oF := oF.below bb
  replace oE := oE.below bb
  replace oB := oB.below bb
  clear Bw7
  clear bb
  have toA := World.ownsRow.lt oA
  obtain ⟨aoA, koA, rfl⟩ := oA.form
  clear IA
  obtain ⟨w9, hw9⟩ : ∃ x, w8.alloc (.cells #[.slice aoA x2.length koA, .int .i64 s2] 25) = x := ⟨_, rfl⟩
  have bb : Below w8.heap.size w8 w9 := hw9 ▸ qalloc _ _
  have LA : Loc w9 w8.heap.size #[.slice aoA x2.length koA, .int .i64 s2] := hw9 ▸ loc_at w8 _ _ rfl
  have zw9 : w9.heap.size = w8.heap.size + 1 := by rw [← hw9]; simp
  have Bw9 := Bw8.trans (bb.mono Bw8.size)
  have sw9 := bb.size
  replace LD := LD.below bb LD.lt
  replace LF := LF.below bb LF.lt
  replace LE := LE.below bb LE.lt
  replace oD := oD.below bb
  replace oF := oF.below bb
  replace oE := oE.below bb
  replace oB := oB.below bb
  replace oA := oA.below bb
  clear Bw8
  clear bb
  have cLE0 := LE.cell 0 rfl
  have cLE1 := LE.cell 1 rfl
  go_wp2_with fail
  clear hw9
  refine (unhide SA _ _ _ _ _ (oE.rb (by omega)) (oB.rb (by omega))).mono ?_
  rintro _ w10 ⟨uX, rfl, oX, bb⟩
  clear cLE0 cLE1
  have Bw10 := Bw9.trans (bb.mono Bw9.size)
  have sw10 := bb.size
  replace LD := LD.below bb LD.lt
  replace LF := LF.below bb LF.lt
  replace LE := LE.below bb LE.lt
  replace LA := LA.below bb LA.lt
  replace oD := oD.below bb
  replace oF := oF.below bb
  replace oE := oE.below bb
  replace oB := oB.below bb
  replace oA := oA.below bb
  clear Bw9
  clear bb
  have toX := World.ownsRow.lt oX
  obtain ⟨aoX, koX, rfl⟩ := oX.form
  clear SA
  obtain ⟨w11, hw11⟩ : ∃ x, w10.alloc (.cells #[.slice aoX x2.length koX, .int .i64 s2] 25) = x := ⟨_, rfl⟩
  have bb : Below w10.heap.size w10 w11 := hw11 ▸ qalloc _ _
  have LX : Loc w11 w10.heap.size #[.slice aoX x2.length koX, .int .i64 s2] := hw11 ▸ loc_at w10 _ _ rfl
  have zw11 : w11.heap.size = w10.heap.size + 1 := by rw [← hw11]; simp
  have Bw11 := Bw10.trans (bb.mono Bw10.size)
  have sw11 := bb.size
  replace LD := LD.below bb LD.lt
  replace LF := LF.below bb LF.lt
  replace LE := LE.below bb LE.lt
  replace LA := LA.below bb LA.lt
  replace oD := oD.below bb
  replace oF := oF.below bb
  replace oE := oE.below bb
  replace oB := oB.below bb
  replace oA := oA.below bb
  replace oX := oX.below bb
  clear Bw10
  clear bb
  have cLD0 := LD.cell 0 rfl
  have cLD1 := LD.cell 1 rfl
  go_wp2_with fail
  clear hw11
  refine (unhide IS _ _ _ (oD.rb (by omega))).mono ?_
  rintro _ w12 ⟨uS, rfl, oS, bb⟩
  clear cLD0 cLD1
  have Bw12 := Bw11.trans (bb.mono Bw11.size)
  have sw12 := bb.size
  replace LD := LD.below bb LD.lt
  replace LF := LF.below bb LF.lt
  replace LA := LA.below bb LA.lt
  replace LX := LX.below bb LX.lt
  replace oD := oD.below bb
  replace oF := oF.below bb
  replace oA := oA.below bb
  replace oX := oX.below bb
  clear Bw11
  clear bb
  have toS := World.ownsRow.lt oS
  obtain ⟨aoS, koS, rfl⟩ := oS.form
  clear IS
  obtain ⟨w13, hw13⟩ : ∃ x, w12.alloc (.cells #[.slice aoS xs.length koS, .int .i64 s3] 25) = x := ⟨_, rfl⟩
  have bb : Below w12.heap.size w12 w13 := hw13 ▸ qalloc _ _
  have LS : Loc w13 w12.heap.size #[.slice aoS xs.length koS, .int .i64 s3] := hw13 ▸ loc_at w12 _ _ rfl
  have zw13 : w13.heap.size = w12.heap.size + 1 := by rw [← hw13]; simp
  have Bw13 := Bw12.trans (bb.mono Bw12.size)
  have sw13 := bb.size
  replace LD := LD.below bb LD.lt
  replace LF := LF.below bb LF.lt
  replace LA := LA.below bb LA.lt
  replace LX := LX.below bb LX.lt
  replace oD := oD.below bb
  replace oF := oF.below bb
  replace oA := oA.below bb
  replace oX := oX.below bb
  replace oS := oS.below bb
  clear Bw12
  clear bb
  have RoD := hide fun w' (hb' : Below w13.heap.size w13 w') => (oD.below hb').rb (by omega)
  have RoF := hide fun w' (hb' : Below w13.heap.size w13 w') => (oF.below hb').rb (by omega)
  have RoA := hide fun w' (hb' : Below w13.heap.size w13 w') => (oA.below hb').rb (by omega)
  have RoX := hide fun w' (hb' : Below w13.heap.size w13 w') => (oX.below hb').rb (by omega)
  have RoS := hide fun w' (hb' : Below w13.heap.size w13 w') => (oS.below hb').rb (by omega)
  have K : Hid (∀ w', Below w13.heap.size w13 w' → (fun w' => Below w13.heap.size w13 w' ∧ (w'.cell? ⟨w2.heap.size, 0, none⟩ = some (.slice aoD xs.length koD) ∧ w'.cell? ⟨w2.heap.size, 1, none⟩ = some (.int .i64 s)) ∧ (w'.cell? ⟨w4.heap.size, 0, none⟩ = some (.slice aoF x1.length koF) ∧ w'.cell? ⟨w4.heap.size, 1, none⟩ = some (.int .i64 s1)) ∧ (w'.cell? ⟨w8.heap.size, 0, none⟩ = some (.slice aoA x2.length koA) ∧ w'.cell? ⟨w8.heap.size, 1, none⟩ = some (.int .i64 s2)) ∧ (w'.cell? ⟨w10.heap.size, 0, none⟩ = some (.slice aoX x2.length koX) ∧ w'.cell? ⟨w10.heap.size, 1, none⟩ = some (.int .i64 s2)) ∧ (w'.cell? ⟨w12.heap.size, 0, none⟩ = some (.slice aoS xs.length koS) ∧ w'.cell? ⟨w12.heap.size, 1, none⟩ = some (.int .i64 s3))) w') := hide fun w' hb' => ⟨hb', ⟨(LD.below hb' LD.lt).cell 0 rfl, (LD.below hb' LD.lt).cell 1 rfl⟩, ⟨(LF.below hb' LF.lt).cell 0 rfl, (LF.below hb' LF.lt).cell 1 rfl⟩, ⟨(LA.below hb' LA.lt).cell 0 rfl, (LA.below hb' LA.lt).cell 1 rfl⟩, ⟨(LX.below hb' LX.lt).cell 0 rfl, (LX.below hb' LX.lt).cell 1 rfl⟩, ⟨(LS.below hb' LS.lt).cell 0 rfl, (LS.below hb' LS.lt).cell 1 rfl⟩⟩
  go_upto_region 9 with fail
  clear hw13
  have bA : Below w13.heap.size w13 w13.drew := Below.drew (Below.refl _ _)
  refine wp_region_noPanic ?_
  refine wp_region_held_drew (S := fun w' => Below w13.heap.size w13 w' ∧ (w'.cell? ⟨w2.heap.size, 0, none⟩ = some (.slice aoD xs.length koD) ∧ w'.cell? ⟨w2.heap.size, 1, none⟩ = some (.int .i64 s)) ∧ (w'.cell? ⟨w4.heap.size, 0, none⟩ = some (.slice aoF x1.length koF) ∧ w'.cell? ⟨w4.heap.size, 1, none⟩ = some (.int .i64 s1)) ∧ (w'.cell? ⟨w8.heap.size, 0, none⟩ = some (.slice aoA x2.length koA) ∧ w'.cell? ⟨w8.heap.size, 1, none⟩ = some (.int .i64 s2)) ∧ (w'.cell? ⟨w10.heap.size, 0, none⟩ = some (.slice aoX x2.length koX) ∧ w'.cell? ⟨w10.heap.size, 1, none⟩ = some (.int .i64 s2)) ∧ (w'.cell? ⟨w12.heap.size, 0, none⟩ = some (.slice aoS xs.length koS) ∧ w'.cell? ⟨w12.heap.size, 1, none⟩ = some (.int .i64 s3))) (by kernel_rfl) (unhide K _ bA) (fun hHeld => ?_)
  refine take_at (i := 0) (d := 42) (v := ?_) rfl rfl (by kernel_rfl) (by kernel_rfl) (by kernel_rfl) (fun _ _ _ h => h) (Or.inl ⟨by rfl, ?_⟩) (by assumption) ?_
  rotate_left
  · intro w hSw
    try dsimp only at hSw
    go_simp
    try with_reducible rfl
  simp only [Act.put, List.setIfInBounds_toArray, List.set_cons_zero, List.set_cons_succ]
  refine take_at (i := 1) (d := 43) (v := ?_) rfl rfl (by kernel_rfl) (by kernel_rfl) (by kernel_rfl) (fun _ _ _ h => h) (Or.inl ⟨by rfl, ?_⟩) (by assumption) ?_
  rotate_left
  · intro w hSw
    try dsimp only at hSw
    go_simp
    try with_reducible rfl
  simp only [Act.put, List.setIfInBounds_toArray, List.set_cons_zero, List.set_cons_succ]
  refine take_at (i := 2) (d := 44) (v := ?_) rfl rfl (by kernel_rfl) (by kernel_rfl) (by kernel_rfl) (fun _ _ _ h => h) (Or.inl ⟨by rfl, ?_⟩) (by assumption) ?_
  rotate_left
  · intro w hSw
    try dsimp only at hSw
    go_simp
    try with_reducible rfl
  simp only [Act.put, List.setIfInBounds_toArray, List.set_cons_zero, List.set_cons_succ]
  refine ready_at (i := 3) rfl (by kernel_rfl) (fun KK hKK => ?_)
  go_simp
  have hgo := bA
  refine (unhide SF _ _ _ (unhide RoD _ hgo)).mono ?_
  rintro e wz9_1 ⟨v1, rfl, o1, bb⟩
  have bz1 : Below w13.heap.size w13 wz9_1 := bA.trans (bb.mono bA.size)
  replace o1 := o1.mono hgo.size
  obtain ⟨ao1, ko1, rfl⟩ := o1.form
  clear bA hgo bb
  clear hHeld
  refine hKK.out _ _ (unhide K _ bz1) (fun hHeld => ?_)
  clear hKK KK
  refine ready_at (i := 4) rfl (by kernel_rfl) (fun KK hKK => ?_)
  go_simp
  have hgo := bz1
  refine (sameDisk_at _ _ x1 x1 s1 s1 _ (unhide RoF _ hgo) (o1.rb (by omega)) (by omega) rfl rfl).mono ?_
  rintro e wz9_2 ⟨rfl, bb⟩
  have bz2 : Below w13.heap.size w13 wz9_2 := bz1.trans (bb.mono bz1.size)
  replace o1 := o1.below bb
  clear bz1 hgo bb
  clear hHeld
  refine hKK.out _ _ (unhide K _ bz2) (fun hHeld => ?_)
  clear hKK KK
  refine take_at (i := 5) (d := 47) (v := ?_) rfl rfl (by kernel_rfl) (by kernel_rfl) (by kernel_rfl) (fun _ _ _ h => h) (Or.inl ⟨by rfl, ?_⟩) (by assumption) ?_
  rotate_left
  · intro w hSw
    try dsimp only at hSw
    go_simp
    try with_reducible rfl
  simp only [Act.put, List.setIfInBounds_toArray, List.set_cons_zero, List.set_cons_succ]
  refine take_at (i := 6) (d := 48) (v := ?_) rfl rfl (by kernel_rfl) (by kernel_rfl) (by kernel_rfl) (fun _ _ _ h => h) (Or.inl ⟨by rfl, ?_⟩) (by assumption) ?_
  rotate_left
  · intro w hSw
    try dsimp only at hSw
    go_simp
    try with_reducible rfl
  simp only [Act.put, List.setIfInBounds_toArray, List.set_cons_zero, List.set_cons_succ]
  refine take_at (i := 7) (d := 49) (v := ?_) rfl rfl (by kernel_rfl) (by kernel_rfl) (by kernel_rfl) (fun _ _ _ h => h) (Or.inl ⟨by rfl, ?_⟩) (by assumption) ?_
  rotate_left
  · intro w hSw
    try dsimp only at hSw
    go_simp
    try with_reducible rfl
  simp only [Act.put, List.setIfInBounds_toArray, List.set_cons_zero, List.set_cons_succ]
  refine take_at (i := 8) (d := 50) (v := ?_) rfl rfl (by kernel_rfl) (by kernel_rfl) (by kernel_rfl) (fun _ _ _ h => h) (Or.inl ⟨by rfl, ?_⟩) (by assumption) ?_
  rotate_left
  · intro w hSw
    try dsimp only at hSw
    go_simp
    try with_reducible rfl
  simp only [Act.put, List.setIfInBounds_toArray, List.set_cons_zero, List.set_cons_succ]
  refine take_at (i := 9) (d := 51) (v := ?_) rfl rfl (by kernel_rfl) (by kernel_rfl) (by kernel_rfl) (fun _ _ _ h => h) (Or.inl ⟨by rfl, ?_⟩) (by assumption) ?_
  rotate_left
  · intro w hSw
    try dsimp only at hSw
    go_simp
    try with_reducible rfl
  simp only [Act.put, List.setIfInBounds_toArray, List.set_cons_zero, List.set_cons_succ]
  refine take_at (i := 10) (d := 52) (v := ?_) rfl rfl (by kernel_rfl) (by kernel_rfl) (by kernel_rfl) (fun _ _ _ h => h) (Or.inl ⟨by rfl, ?_⟩) (by assumption) ?_
  rotate_left
  · intro w hSw
    try dsimp only at hSw
    go_simp
    try with_reducible rfl
  simp only [Act.put, List.setIfInBounds_toArray, List.set_cons_zero, List.set_cons_succ]
  refine take_at (i := 11) (d := 53) (v := ?_) rfl rfl (by kernel_rfl) (by kernel_rfl) (by kernel_rfl) (fun _ _ _ h => h) (Or.inl ⟨by rfl, ?_⟩) (by assumption) ?_
  rotate_left
  · intro w hSw
    try dsimp only at hSw
    go_simp
    try with_reducible rfl
  simp only [Act.put, List.setIfInBounds_toArray, List.set_cons_zero, List.set_cons_succ]
  refine take_at (i := 12) (d := 54) (v := ?_) rfl rfl (by kernel_rfl) (by kernel_rfl) (by kernel_rfl) (fun _ _ _ h => h) (Or.inl ⟨by rfl, ?_⟩) (by assumption) ?_
  rotate_left
  · intro w hSw
    try dsimp only at hSw
    go_simp
    try with_reducible rfl
  simp only [Act.put, List.setIfInBounds_toArray, List.set_cons_zero, List.set_cons_succ]
  refine take_at (i := 13) (d := 55) (v := ?_) rfl rfl (by kernel_rfl) (by kernel_rfl) (by kernel_rfl) (fun _ _ _ h => h) (Or.inl ⟨by rfl, ?_⟩) (by assumption) ?_
  rotate_left
  · intro w hSw
    try dsimp only at hSw
    go_simp
    try with_reducible rfl
  simp only [Act.put, List.setIfInBounds_toArray, List.set_cons_zero, List.set_cons_succ]
  refine ready_at (i := 14) rfl (by kernel_rfl) (fun KK hKK => ?_)
  go_simp
  have hgo := bz2
  refine (sameDisk_at _ _ x2 x2 s2 s2 _ (unhide RoA _ hgo) (unhide RoX _ hgo) (by omega) rfl rfl).mono ?_
  rintro e wz9_3 ⟨rfl, bb⟩
  have bz3 : Below w13.heap.size w13 wz9_3 := bz2.trans (bb.mono bz2.size)
  replace o1 := o1.below bb
  clear bz2 hgo bb
  clear hHeld
  refine hKK.out _ _ (unhide K _ bz3) (fun hHeld => ?_)
  clear hKK KK
  refine take_at (i := 15) (d := 57) (v := ?_) rfl rfl (by kernel_rfl) (by kernel_rfl) (by kernel_rfl) (fun _ _ _ h => h) (Or.inl ⟨by rfl, ?_⟩) (by assumption) ?_
  rotate_left
  · intro w hSw
    try dsimp only at hSw
    go_simp
    try with_reducible rfl
  simp only [Act.put, List.setIfInBounds_toArray, List.set_cons_zero, List.set_cons_succ]
  refine take_at (i := 16) (d := 58) (v := ?_) rfl rfl (by kernel_rfl) (by kernel_rfl) (by kernel_rfl) (fun _ _ _ h => h) (Or.inl ⟨by rfl, ?_⟩) (by assumption) ?_
  rotate_left
  · intro w hSw
    try dsimp only at hSw
    go_simp
    try with_reducible rfl
  simp only [Act.put, List.setIfInBounds_toArray, List.set_cons_zero, List.set_cons_succ]
  refine take_at (i := 17) (d := 59) (v := ?_) rfl rfl (by kernel_rfl) (by kernel_rfl) (by kernel_rfl) (fun _ _ _ h => h) (Or.inl ⟨by rfl, ?_⟩) (by assumption) ?_
  rotate_left
  · intro w hSw
    try dsimp only at hSw
    go_simp
    try with_reducible rfl
  simp only [Act.put, List.setIfInBounds_toArray, List.set_cons_zero, List.set_cons_succ]
  refine take_at (i := 18) (d := 60) (v := ?_) rfl rfl (by kernel_rfl) (by kernel_rfl) (by kernel_rfl) (fun _ _ _ h => h) (Or.inl ⟨by rfl, ?_⟩) (by assumption) ?_
  rotate_left
  · intro w hSw
    try dsimp only at hSw
    go_simp
    try with_reducible rfl
  simp only [Act.put, List.setIfInBounds_toArray, List.set_cons_zero, List.set_cons_succ]
  refine take_at (i := 19) (d := 61) (v := ?_) rfl rfl (by kernel_rfl) (by kernel_rfl) (by kernel_rfl) (fun _ _ _ h => h) (Or.inl ⟨by rfl, ?_⟩) (by assumption) ?_
  rotate_left
  · intro w hSw
    try dsimp only at hSw
    go_simp
    try with_reducible rfl
  simp only [Act.put, List.setIfInBounds_toArray, List.set_cons_zero, List.set_cons_succ]
  refine ready_at (i := 20) rfl (by kernel_rfl) (fun KK hKK => ?_)
  go_simp
  have hgo := bz3
  refine (unhide SS _ _ _ (unhide RoD _ hgo)).mono ?_
  rintro e wz9_4 ⟨v2, rfl, o2, bb⟩
  have bz4 : Below w13.heap.size w13 wz9_4 := bz3.trans (bb.mono bz3.size)
  replace o1 := o1.below bb
  replace o2 := o2.mono hgo.size
  obtain ⟨ao2, ko2, rfl⟩ := o2.form
  clear bz3 hgo bb
  clear hHeld
  refine hKK.out _ _ (unhide K _ bz4) (fun hHeld => ?_)
  clear hKK KK
  refine ready_at (i := 21) rfl (by kernel_rfl) (fun KK hKK => ?_)
  go_simp
  have hgo := bz4
  refine (sameDisk_at _ _ xs xs s3 s3 _ (unhide RoS _ hgo) (o2.rb (by omega)) (by omega) rfl rfl).mono ?_
  rintro e wz9_5 ⟨rfl, bb⟩
  have bz5 : Below w13.heap.size w13 wz9_5 := bz4.trans (bb.mono bz4.size)
  replace o1 := o1.below bb
  replace o2 := o2.below bb
  clear bz4 hgo bb
  clear hHeld
  refine hKK.out _ _ (unhide K _ bz5) (fun hHeld => ?_)
  clear hKK KK
  refine take_at (i := 22) (d := 64) (v := ?_) rfl rfl (by kernel_rfl) (by kernel_rfl) (by kernel_rfl) (fun _ _ _ h => h) (Or.inl ⟨by rfl, ?_⟩) (by assumption) ?_
  rotate_left
  · intro w hSw
    try dsimp only at hSw
    go_simp
    try with_reducible rfl
  simp only [Act.put, List.setIfInBounds_toArray, List.set_cons_zero, List.set_cons_succ]
  refine take_at (i := 23) (d := 65) (v := ?_) rfl rfl (by kernel_rfl) (by kernel_rfl) (by kernel_rfl) (fun _ _ _ h => h) (Or.inl ⟨by rfl, ?_⟩) (by assumption) ?_
  rotate_left
  · intro w hSw
    try dsimp only at hSw
    go_simp
    try with_reducible rfl
  simp only [Act.put, List.setIfInBounds_toArray, List.set_cons_zero, List.set_cons_succ]
  refine take_at (i := 24) (d := 66) (v := ?_) rfl rfl (by kernel_rfl) (by kernel_rfl) (by kernel_rfl) (fun _ _ _ h => h) (Or.inl ⟨by rfl, ?_⟩) (by assumption) ?_
  rotate_left
  · intro w hSw
    try dsimp only at hSw
    go_simp
    try with_reducible rfl
  simp only [Act.put, List.setIfInBounds_toArray, List.set_cons_zero, List.set_cons_succ]
  refine take_at (i := 25) (d := 67) (v := ?_) rfl rfl (by kernel_rfl) (by kernel_rfl) (by kernel_rfl) (fun _ _ _ h => h) (Or.inl ⟨by rfl, ?_⟩) (by assumption) ?_
  rotate_left
  · intro w hSw
    try dsimp only at hSw
    go_simp
    try with_reducible rfl
  simp only [Act.put, List.setIfInBounds_toArray, List.set_cons_zero, List.set_cons_succ]
  refine take_at (i := 27) (d := 69) (v := ?_) rfl rfl (by kernel_rfl) (by kernel_rfl) (by kernel_rfl) (fun _ _ _ h => h) (Or.inl ⟨by rfl, ?_⟩) (by assumption) ?_
  rotate_left
  · intro w hSw
    try dsimp only at hSw
    go_simp
    try with_reducible rfl
  simp only [Act.put, List.setIfInBounds_toArray, List.set_cons_zero, List.set_cons_succ]
  refine ready_at (i := 26) rfl (by kernel_rfl) (fun KK hKK => ?_)
  go_simp
  have hgo := bz5
  refine (unhide ID _ _ _).mono ?_
  rintro e wz9_6 ⟨rfl, bb⟩
  have bz6 : Below w13.heap.size w13 wz9_6 := bz5.trans (bb.mono bz5.size)
  replace o1 := o1.below bb
  replace o2 := o2.below bb
  clear bz5 hgo bb
  clear hHeld
  refine hKK.out _ _ (unhide K _ bz6) (fun hHeld => ?_)
  clear hKK KK
  refine ready_at (i := 28) rfl (by kernel_rfl) (fun KK hKK => ?_)
  go_simp
  have hgo := bz6
  refine (unhide SD _ _ _).mono ?_
  rintro e wz9_7 ⟨rfl, bb⟩
  have bz7 : Below w13.heap.size w13 wz9_7 := bz6.trans (bb.mono bz6.size)
  replace o1 := o1.below bb
  replace o2 := o2.below bb
  clear bz6 hgo bb
  clear hHeld
  refine hKK.out _ _ (unhide K _ bz7) (fun hHeld => ?_)
  clear hKK KK
  refine take_at (i := 29) (d := 71) (v := ?_) rfl rfl (by kernel_rfl) (by kernel_rfl) (by kernel_rfl) (fun _ _ _ h => h) (Or.inl ⟨by rfl, ?_⟩) (by assumption) ?_
  rotate_left
  · intro w hSw
    try dsimp only at hSw
    go_simp
    try with_reducible rfl
  simp only [Act.put, List.setIfInBounds_toArray, List.set_cons_zero, List.set_cons_succ]
  refine take_at (i := 30) (d := 72) (v := ?_) rfl rfl (by kernel_rfl) (by kernel_rfl) (by kernel_rfl) (fun _ _ _ h => h) (Or.inl ⟨by rfl, ?_⟩) (by assumption) ?_
  rotate_left
  · intro w hSw
    try dsimp only at hSw
    go_simp
    try with_reducible rfl
  simp only [Act.put, List.setIfInBounds_toArray, List.set_cons_zero, List.set_cons_succ]
  clear hHeld
  refine wpAnyH_done (by kernel_rfl) ?_ _
  refine NoPanic.normal ?_
  have bb := bz7
  have Bwz9_7 := Bw13.trans (bb.mono Bw13.size)
  have swz9_7 := bb.size
  replace LD := LD.below bb LD.lt
  replace LF := LF.below bb LF.lt
  replace LA := LA.below bb LA.lt
  replace LX := LX.below bb LX.lt
  replace LS := LS.below bb LS.lt
  replace oD := oD.below bb
  replace oF := oF.below bb
  replace oA := oA.below bb
  replace oX := oX.below bb
  replace oS := oS.below bb
  clear Bw13
  clear bb bz7 K
  clear SF SS SD nb nb2 o1 o2 RoD RoF RoA RoX RoS
  clear oA oX LA LX toA toX
  have cLD0 := LD.cell 0 rfl
  have cLD1 := LD.cell 1 rfl
  go_wp2_with fail
  refine (unhide ID _ _ _).mono ?_
  rintro _ w14 ⟨rfl, bb⟩
  clear cLD0 cLD1
  have Bw14 := Bwz9_7.trans (bb.mono Bwz9_7.size)
  have sw14 := bb.size
  replace LD := LD.below bb LD.lt
  replace LF := LF.below bb LF.lt
  replace LS := LS.below bb LS.lt
  replace oD := oD.below bb
  replace oF := oF.below bb
  replace oS := oS.below bb
  clear Bwz9_7
  clear bb
  clear ID
  cases b
  · obtain ⟨e1, e2, e3⟩ := unhide HN rfl
    have E1 := hide e1
    have E2 := hide e2
    have E3 := hide e3
    clear e1 e2 e3 HY HN
    have cLF0 := LF.cell 0 rfl
    have cLF1 := LF.cell 1 rfl
    have cLD0 := LD.cell 0 rfl
    have cLD1 := LD.cell 1 rfl
    go_wp2_with fail
    refine (sameDisk_at _ _ x1 xs s1 s _ (oF.rb (by omega)) (oD.rb (by omega)) (by omega) (unhide E1) (unhide E2)).mono ?_
    rintro _ w15 ⟨rfl, bb⟩
    clear cLF0 cLF1 cLD0 cLD1
    have Bw15 := Bw14.trans (bb.mono Bw14.size)
    have sw15 := bb.size
    replace LD := LD.below bb LD.lt
    replace LF := LF.below bb LF.lt
    replace LS := LS.below bb LS.lt
    replace oD := oD.below bb
    replace oF := oF.below bb
    replace oS := oS.below bb
    clear Bw14
    clear bb
    have cLS0 := LS.cell 0 rfl
    have cLS1 := LS.cell 1 rfl
    have cLD0 := LD.cell 0 rfl
    have cLD1 := LD.cell 1 rfl
    go_wp2_with fail
    refine (sameDisk_at _ _ xs xs s3 s _ (oS.rb (by omega)) (oD.rb (by omega)) (by omega) rfl (unhide E3)).mono ?_
    rintro _ w16 ⟨rfl, bb⟩
    clear cLS0 cLS1 cLD0 cLD1
    have Bw16 := Bw15.trans (bb.mono Bw15.size)
    have sw16 := bb.size
    replace LD := LD.below bb LD.lt
    replace LF := LF.below bb LF.lt
    replace LS := LS.below bb LS.lt
    replace oD := oD.below bb
    replace oF := oF.below bb
    replace oS := oS.below bb
    clear Bw15
    clear bb
    go_wp2
    go_ret
    exact ⟨rfl, Bw16⟩
  · obtain ⟨e1, e2, e3, e4, e5⟩ := unhide HY rfl
    subst e2 e5
    have E1 := hide e1
    have dge : decide (s ≤ (x1.length : Int)) = true := by simpa using e3
    clear e1 e3 HY HN
    have kD : xs.length ≤ koD := by obtain ⟨_, _, _, e, hc, _⟩ := oD.rb (by omega); cases e; exact hc.1
    have hs1 : ∀ w, (Instr.slice 22 (.slice aoD xs.length koD) none (some (.int .i64 (x1.length : Int))) none).run Try.prog w = .ok (.slice aoD x1.length koD) w := fun w => dcut_to aoD xs.length koD _ w (by omega)
    have CF := hide fun w' (hb' : Below w14.heap.size w14 w') => conv_rb ((oF.below hb').rb (by omega)) (by omega)
    have CD := hide fun w' (hb' : Below w14.heap.size w14 w') => conv_rb (rb_front ((oD.below hb').rb (by omega)) x1.length e4) (by rw [← unhide E1]; omega)
    rw [← unhide E1] at CD
    generalize strOfNums x1 = t at *
    have K : Hid (∀ w', Below w14.heap.size w14 w' → (fun w' => Below w14.heap.size w14 w' ∧ (w'.cell? ⟨w2.heap.size, 0, none⟩ = some (.slice aoD xs.length koD) ∧ w'.cell? ⟨w2.heap.size, 1, none⟩ = some (.int .i64 s)) ∧ (w'.cell? ⟨w4.heap.size, 0, none⟩ = some (.slice aoF x1.length koF) ∧ w'.cell? ⟨w4.heap.size, 1, none⟩ = some (.int .i64 (x1.length : Int))) ∧ (w'.cell? ⟨w12.heap.size, 0, none⟩ = some (.slice aoS xs.length koS) ∧ w'.cell? ⟨w12.heap.size, 1, none⟩ = some (.int .i64 (xs.length : Int))) ∧ (convert 22 9 (.slice aoF x1.length koF)).run Try.prog w' = .ok (.string t) w' ∧ (convert 22 9 (.slice aoD x1.length koD)).run Try.prog w' = .ok (.string t) w') w') := hide fun w' hb' => ⟨hb', ⟨(LD.below hb' LD.lt).cell 0 rfl, (LD.below hb' LD.lt).cell 1 rfl⟩, ⟨(LF.below hb' LF.lt).cell 0 rfl, (LF.below hb' LF.lt).cell 1 rfl⟩, ⟨(LS.below hb' LS.lt).cell 0 rfl, (LS.below hb' LS.lt).cell 1 rfl⟩, unhide CF w' hb', unhide CD w' hb'⟩
    go_upto_region 13 with fail
    have bA : Below w14.heap.size w14 w14.drew := Below.drew (Below.refl _ _)
    refine wp_region_noPanic ?_
    refine wp_region_held_drew (S := fun w' => Below w14.heap.size w14 w' ∧ (w'.cell? ⟨w2.heap.size, 0, none⟩ = some (.slice aoD xs.length koD) ∧ w'.cell? ⟨w2.heap.size, 1, none⟩ = some (.int .i64 s)) ∧ (w'.cell? ⟨w4.heap.size, 0, none⟩ = some (.slice aoF x1.length koF) ∧ w'.cell? ⟨w4.heap.size, 1, none⟩ = some (.int .i64 (x1.length : Int))) ∧ (w'.cell? ⟨w12.heap.size, 0, none⟩ = some (.slice aoS xs.length koS) ∧ w'.cell? ⟨w12.heap.size, 1, none⟩ = some (.int .i64 (xs.length : Int))) ∧ (convert 22 9 (.slice aoF x1.length koF)).run Try.prog w' = .ok (.string t) w' ∧ (convert 22 9 (.slice aoD x1.length koD)).run Try.prog w' = .ok (.string t) w') (by kernel_rfl) (unhide K _ bA) (fun hHeld => ?_)
    refine take_at (i := 0) (d := 84) (v := ?_) rfl rfl (by kernel_rfl) (by kernel_rfl) (by kernel_rfl) (fun _ _ _ h => h) (Or.inl ⟨by rfl, ?_⟩) (by assumption) ?_
    rotate_left
    · intro w hSw
      try dsimp only at hSw
      go_simp
      try with_reducible rfl
    simp only [Act.put, List.setIfInBounds_toArray, List.set_cons_zero, List.set_cons_succ]
    refine take_at (i := 3) (d := 87) (v := ?_) rfl rfl (by kernel_rfl) (by kernel_rfl) (by kernel_rfl) (fun _ _ _ h => h) (Or.inl ⟨by rfl, ?_⟩) (by assumption) ?_
    rotate_left
    · intro w hSw
      try dsimp only at hSw
      go_simp
      try with_reducible rfl
    simp only [Act.put, List.setIfInBounds_toArray, List.set_cons_zero, List.set_cons_succ]
    refine take_at (i := 1) (d := 85) (v := ?_) rfl rfl (by kernel_rfl) (by kernel_rfl) (by kernel_rfl) (fun _ _ _ h => h) (Or.inl ⟨by rfl, ?_⟩) (by assumption) ?_
    rotate_left
    · intro w hSw
      try dsimp only at hSw
      go_simp
      try with_reducible rfl
    simp only [Act.put, List.setIfInBounds_toArray, List.set_cons_zero, List.set_cons_succ]
    refine take_at (i := 4) (d := 88) (v := ?_) rfl rfl (by kernel_rfl) (by kernel_rfl) (by kernel_rfl) (fun _ _ _ h => h) (Or.inl ⟨by rfl, ?_⟩) (by assumption) ?_
    rotate_left
    · intro w hSw
      try dsimp only at hSw
      go_simp
      try with_reducible rfl
    simp only [Act.put, List.setIfInBounds_toArray, List.set_cons_zero, List.set_cons_succ]
    refine take_at (i := 2) (d := 86) (v := ?_) rfl rfl (by kernel_rfl) (by kernel_rfl) (by kernel_rfl) (fun _ _ _ h => h) (Or.inl ⟨by rfl, ?_⟩) (by assumption) ?_
    rotate_left
    · intro w hSw
      try dsimp only at hSw
      go_simp
      try with_reducible rfl
    simp only [Act.put, List.setIfInBounds_toArray, List.set_cons_zero, List.set_cons_succ]
    refine take_at (i := 5) (d := 89) (v := ?_) rfl rfl (by kernel_rfl) (by kernel_rfl) (by kernel_rfl) (fun _ _ _ h => h) (Or.inl ⟨by rfl, ?_⟩) (by assumption) ?_
    rotate_left
    · intro w hSw
      try dsimp only at hSw
      go_simp
      try with_reducible rfl
    simp only [Act.put, List.setIfInBounds_toArray, List.set_cons_zero, List.set_cons_succ]
    refine take_at (i := 6) (d := 90) (v := ?_) rfl rfl (by kernel_rfl) (by kernel_rfl) (by kernel_rfl) (fun _ _ _ h => h) (Or.inl ⟨by rfl, ?_⟩) (by assumption) ?_
    rotate_left
    · intro w hSw
      try dsimp only at hSw
      go_simp
      try with_reducible rfl
    simp only [Act.put, List.setIfInBounds_toArray, List.set_cons_zero, List.set_cons_succ]
    refine take_at (i := 7) (d := 91) (v := ?_) rfl rfl (by kernel_rfl) (by kernel_rfl) (by kernel_rfl) (fun _ _ _ h => h) (Or.inl ⟨by rfl, ?_⟩) (by assumption) ?_
    rotate_left
    · intro w hSw
      try dsimp only at hSw
      go_simp
      try with_reducible rfl
    simp only [Act.put, List.setIfInBounds_toArray, List.set_cons_zero, List.set_cons_succ]
    refine take_at (i := 10) (d := 94) (v := ?_) rfl rfl (by kernel_rfl) (by kernel_rfl) (by kernel_rfl) (fun _ _ _ h => h) (Or.inl ⟨by rfl, ?_⟩) (by assumption) ?_
    rotate_left
    · intro w hSw
      try dsimp only at hSw
      go_simp
      try with_reducible rfl
    simp only [Act.put, List.setIfInBounds_toArray, List.set_cons_zero, List.set_cons_succ]
    refine take_at (i := 12) (d := 96) (v := ?_) rfl rfl (by kernel_rfl) (by kernel_rfl) (by kernel_rfl) (fun _ _ _ h => h) (Or.inl ⟨by rfl, ?_⟩) (by assumption) ?_
    rotate_left
    · intro w hSw
      try dsimp only at hSw
      go_simp
      try with_reducible rfl
    simp only [Act.put, List.setIfInBounds_toArray, List.set_cons_zero, List.set_cons_succ]
    refine take_at (i := 8) (d := 92) (v := ?_) rfl rfl (by kernel_rfl) (by kernel_rfl) (by kernel_rfl) (fun _ _ _ h => h) (Or.inl ⟨by rfl, ?_⟩) (by assumption) ?_
    rotate_left
    · intro w hSw
      try dsimp only at hSw
      go_simp
      try with_reducible rfl
    simp only [Act.put, List.setIfInBounds_toArray, List.set_cons_zero, List.set_cons_succ]
    refine take_at (i := 11) (d := 95) (v := ?_) rfl rfl (by kernel_rfl) (by kernel_rfl) (by kernel_rfl) (fun _ _ _ h => h) (Or.inl ⟨by rfl, ?_⟩) (by assumption) ?_
    rotate_left
    · intro w hSw
      try dsimp only at hSw
      go_simp
      try with_reducible rfl
    simp only [Act.put, List.setIfInBounds_toArray, List.set_cons_zero, List.set_cons_succ]
    refine take_at (i := 13) (d := 97) (v := ?_) rfl rfl (by kernel_rfl) (by kernel_rfl) (by kernel_rfl) (fun _ _ _ h => h) (Or.inl ⟨by rfl, ?_⟩) (by assumption) ?_
    rotate_left
    · intro w hSw
      try dsimp only at hSw
      go_simp
      try with_reducible rfl
    simp only [Act.put, List.setIfInBounds_toArray, List.set_cons_zero, List.set_cons_succ]
    refine take_at (i := 9) (d := 93) (v := ?_) rfl rfl (by kernel_rfl) (by kernel_rfl) (by kernel_rfl) (fun _ _ _ h => h) (Or.inl ⟨by rfl, ?_⟩) (by assumption) ?_
    rotate_left
    · intro w hSw
      try dsimp only at hSw
      go_simp
      try with_reducible rfl
    simp only [Act.put, List.setIfInBounds_toArray, List.set_cons_zero, List.set_cons_succ]
    refine take_at (i := 14) (d := 98) (v := ?_) rfl rfl (by kernel_rfl) (by kernel_rfl) (by kernel_rfl) (fun _ _ _ h => h) (Or.inl ⟨by rfl, ?_⟩) (by assumption) ?_
    rotate_left
    · intro w hSw
      try dsimp only at hSw
      go_simp
      try with_reducible rfl
    simp only [Act.put, List.setIfInBounds_toArray, List.set_cons_zero, List.set_cons_succ]
    refine take_at (i := 15) (d := 99) (v := ?_) rfl rfl (by kernel_rfl) (by kernel_rfl) (by kernel_rfl) (fun _ _ _ h => h) (Or.inl ⟨by rfl, ?_⟩) (by assumption) ?_
    rotate_left
    · intro w hSw
      try dsimp only at hSw
      go_simp
      try with_reducible rfl
    simp only [Act.put, List.setIfInBounds_toArray, List.set_cons_zero, List.set_cons_succ]
    refine take_at (i := 16) (d := 100) (v := ?_) rfl rfl (by kernel_rfl) (by kernel_rfl) (by kernel_rfl) (fun _ _ _ h => h) (Or.inl ⟨by rfl, ?_⟩) (by assumption) ?_
    rotate_left
    · intro w hSw
      try dsimp only at hSw
      go_simp
      try with_reducible rfl
    simp only [Act.put, List.setIfInBounds_toArray, List.set_cons_zero, List.set_cons_succ]
    refine take_at (i := 17) (d := 101) (v := ?_) rfl rfl (by kernel_rfl) (by kernel_rfl) (by kernel_rfl) (fun _ _ _ h => h) (Or.inl ⟨by rfl, ?_⟩) (by assumption) ?_
    rotate_left
    · intro w hSw
      try dsimp only at hSw
      go_simp
      try with_reducible rfl
    simp only [Act.put, List.setIfInBounds_toArray, List.set_cons_zero, List.set_cons_succ]
    refine take_at (i := 18) (d := 102) (v := ?_) rfl rfl (by kernel_rfl) (by kernel_rfl) (by kernel_rfl) (fun _ _ _ h => h) (Or.inl ⟨by rfl, ?_⟩) (by assumption) ?_
    rotate_left
    · intro w hSw
      try dsimp only at hSw
      go_simp
      try with_reducible rfl
    simp only [Act.put, List.setIfInBounds_toArray, List.set_cons_zero, List.set_cons_succ]
    refine take_at (i := 19) (d := 103) (v := ?_) rfl rfl (by kernel_rfl) (by kernel_rfl) (by kernel_rfl) (fun _ _ _ h => h) (Or.inl ⟨by rfl, ?_⟩) (by assumption) ?_
    rotate_left
    · intro w hSw
      try dsimp only at hSw
      go_simp
      try with_reducible rfl
    simp only [Act.put, List.setIfInBounds_toArray, List.set_cons_zero, List.set_cons_succ]
    refine take_at (i := 20) (d := 104) (v := ?_) rfl rfl (by kernel_rfl) (by kernel_rfl) (by kernel_rfl) (fun _ _ _ h => h) (Or.inl ⟨by rfl, ?_⟩) (by assumption) ?_
    rotate_left
    · intro w hSw
      try dsimp only at hSw
      go_simp
      try with_reducible rfl
    simp only [Act.put, List.setIfInBounds_toArray, List.set_cons_zero, List.set_cons_succ]
    refine take_at (i := 22) (d := 106) (v := ?_) rfl rfl (by kernel_rfl) (by kernel_rfl) (by kernel_rfl) (fun _ _ _ h => h) (Or.inl ⟨by rfl, ?_⟩) (by assumption) ?_
    rotate_left
    · intro w hSw
      try dsimp only at hSw
      go_simp
      try with_reducible rfl
    simp only [Act.put, List.setIfInBounds_toArray, List.set_cons_zero, List.set_cons_succ]
    refine take_at (i := 21) (d := 105) (v := ?_) rfl rfl (by kernel_rfl) (by kernel_rfl) (by kernel_rfl) (fun _ _ _ h => h) (Or.inl ⟨by rfl, ?_⟩) (by assumption) ?_
    rotate_left
    · intro w hSw
      try dsimp only at hSw
      go_simp
      try with_reducible rfl
    simp only [Act.put, List.setIfInBounds_toArray, List.set_cons_zero, List.set_cons_succ]
    refine take_at (i := 23) (d := 107) (v := ?_) rfl rfl (by kernel_rfl) (by kernel_rfl) (by kernel_rfl) (fun _ _ _ h => h) (Or.inl ⟨by rfl, ?_⟩) (by assumption) ?_
    rotate_left
    · intro w hSw
      try dsimp only at hSw
      go_simp
      try with_reducible rfl
    simp only [Act.put, List.setIfInBounds_toArray, List.set_cons_zero, List.set_cons_succ]
    refine take_at (i := 24) (d := 108) (v := ?_) rfl rfl (by kernel_rfl) (by kernel_rfl) (by kernel_rfl) (fun _ _ _ h => h) (Or.inl ⟨by rfl, ?_⟩) (by assumption) ?_
    rotate_left
    · intro w hSw
      try dsimp only at hSw
      go_simp
      try with_reducible rfl
    simp only [Act.put, List.setIfInBounds_toArray, List.set_cons_zero, List.set_cons_succ]
    refine take_at (i := 25) (d := 109) (v := ?_) rfl rfl (by kernel_rfl) (by kernel_rfl) (by kernel_rfl) (fun _ _ _ h => h) (Or.inl ⟨by rfl, ?_⟩) (by assumption) ?_
    rotate_left
    · intro w hSw
      try dsimp only at hSw
      go_simp
      try with_reducible rfl
    simp only [Act.put, List.setIfInBounds_toArray, List.set_cons_zero, List.set_cons_succ]
    refine take_at (i := 26) (d := 110) (v := ?_) rfl rfl (by kernel_rfl) (by kernel_rfl) (by kernel_rfl) (fun _ _ _ h => h) (Or.inl ⟨by rfl, ?_⟩) (by assumption) ?_
    rotate_left
    · intro w hSw
      try dsimp only at hSw
      go_simp
      try with_reducible rfl
    simp only [Act.put, List.setIfInBounds_toArray, List.set_cons_zero, List.set_cons_succ]
    refine take_at (i := 27) (d := 111) (v := ?_) rfl rfl (by kernel_rfl) (by kernel_rfl) (by kernel_rfl) (fun _ _ _ h => h) (Or.inl ⟨by rfl, ?_⟩) (by assumption) ?_
    rotate_left
    · intro w hSw
      try dsimp only at hSw
      go_simp
      try with_reducible rfl
    simp only [Act.put, List.setIfInBounds_toArray, List.set_cons_zero, List.set_cons_succ]
    refine take_at (i := 28) (d := 112) (v := ?_) rfl rfl (by kernel_rfl) (by kernel_rfl) (by kernel_rfl) (fun _ _ _ h => h) (Or.inl ⟨by rfl, ?_⟩) (by assumption) ?_
    rotate_left
    · intro w hSw
      try dsimp only at hSw
      go_simp
      try with_reducible rfl
    simp only [Act.put, List.setIfInBounds_toArray, List.set_cons_zero, List.set_cons_succ]
    refine take_at (i := 30) (d := 114) (v := ?_) rfl rfl (by kernel_rfl) (by kernel_rfl) (by kernel_rfl) (fun _ _ _ h => h) (Or.inl ⟨by rfl, ?_⟩) (by assumption) ?_
    rotate_left
    · intro w hSw
      try dsimp only at hSw
      go_simp
      try with_reducible rfl
    simp only [Act.put, List.setIfInBounds_toArray, List.set_cons_zero, List.set_cons_succ]
    refine take_at (i := 29) (d := 113) (v := ?_) rfl rfl (by kernel_rfl) (by kernel_rfl) (by kernel_rfl) (fun _ _ _ h => h) (Or.inl ⟨by rfl, ?_⟩) (by assumption) ?_
    rotate_left
    · intro w hSw
      try dsimp only at hSw
      go_simp
      try with_reducible rfl
    simp only [Act.put, List.setIfInBounds_toArray, List.set_cons_zero, List.set_cons_succ]
    refine take_at (i := 31) (d := 115) (v := ?_) rfl rfl (by kernel_rfl) (by kernel_rfl) (by kernel_rfl) (fun _ _ _ h => h) (Or.inl ⟨by rfl, ?_⟩) (by assumption) ?_
    rotate_left
    · intro w hSw
      try dsimp only at hSw
      go_simp
      try with_reducible rfl
    simp only [Act.put, List.setIfInBounds_toArray, List.set_cons_zero, List.set_cons_succ]
    refine take_at (i := 32) (d := 116) (v := ?_) rfl rfl (by kernel_rfl) (by kernel_rfl) (by kernel_rfl) (fun _ _ _ h => h) (Or.inl ⟨by rfl, ?_⟩) (by assumption) ?_
    rotate_left
    · intro w hSw
      try dsimp only at hSw
      go_simp
      try with_reducible rfl
    simp only [Act.put, List.setIfInBounds_toArray, List.set_cons_zero, List.set_cons_succ]
    refine take_at (i := 33) (d := 117) (v := ?_) rfl rfl (by kernel_rfl) (by kernel_rfl) (by kernel_rfl) (fun _ _ _ h => h) (Or.inl ⟨by rfl, ?_⟩) (by assumption) ?_
    rotate_left
    · intro w hSw
      try dsimp only at hSw
      go_simp
      try with_reducible rfl
    simp only [Act.put, List.setIfInBounds_toArray, List.set_cons_zero, List.set_cons_succ]
    refine take_at (i := 34) (d := 118) (v := ?_) rfl rfl (by kernel_rfl) (by kernel_rfl) (by kernel_rfl) (fun _ _ _ h => h) (Or.inl ⟨by rfl, ?_⟩) (by assumption) ?_
    rotate_left
    · intro w hSw
      try dsimp only at hSw
      go_simp
      try with_reducible rfl
    simp only [Act.put, List.setIfInBounds_toArray, List.set_cons_zero, List.set_cons_succ]
    refine take_at (i := 35) (d := 2) (v := ?_) rfl rfl (by kernel_rfl) (by kernel_rfl) (by kernel_rfl) (fun _ _ _ h => h) (Or.inl ⟨by rfl, ?_⟩) (by assumption) ?_
    rotate_left
    · intro w hSw
      try dsimp only at hSw
      go_simp
      try with_reducible rfl
    simp only [Act.put, List.setIfInBounds_toArray, List.set_cons_zero, List.set_cons_succ]
    clear hHeld
    refine wpAnyH_done (by kernel_rfl) ?_ _
    refine NoPanic.normal ?_
    obtain ⟨wd13, hwd⟩ : ∃ y, w14.drew = y := ⟨_, rfl⟩
    rw [hwd] at bA ⊢
    clear hwd
    have bb := bA
    have Bwd13 := Bw14.trans (bb.mono Bw14.size)
    have swd13 := bb.size
    replace LD := LD.below bb LD.lt
    replace LF := LF.below bb LF.lt
    replace LS := LS.below bb LS.lt
    replace oD := oD.below bb
    replace oF := oF.below bb
    replace oS := oS.below bb
    clear Bw14
    clear bb bA K
    go_wp2
    go_ret
    exact ⟨rfl, Bwd13⟩
set_option maxHeartbeats 8000000 in
set_option maxRecDepth 100000 in
theorem fnDisks_big (ao : Option Addr) (n ca : Nat) (w : World) (h : 1048576 < n) :
    Calls Try.prog 3 #[.slice ao n ca] w fun e w' => e = .returned (.bool true) ∧ Below w.heap.size w w' := by
  have BG := hide fun w => bigD_yes ao n ca w h
  go_enter Try.func3, Try.ntmps3
  go_wp2_with fail
  refine (unhide BG _).mono ?_
  rintro e w1 ⟨rfl, b1⟩
  go_wp2
  go_ret
  exact ⟨rfl, b1⟩
theorem fnDisks_walk (ao : Option Addr) (ca : Nat) (zs : List Int) (w : World) (ha : ABW w ao ca zs) (hb : ∀ k, k < zs.length → 0 ≤ zs.getD k 0 ∧ zs.getD k 0 ≤ 255) :
    Calls Try.prog 3 #[.slice ao zs.length ca] w fun e w' => e = .returned (.bool true) ∧ Below w.heap.size w w' := by
  by_cases h : zs.length ≤ 1048576
  · exact fnDisks_small ao ca zs w ⟨h, ha.2.2, hb⟩
  · exact fnDisks_big ao _ ca w (by omega)
end Go.Proofs.Ytkjpjgecongkpaa
