/- DiskFns: what impl.Sync, FallTo, Append answer. -/
import Derived.Test.YtkjpjgecongkpaaDiskWrite
import Derived.Test.YtkjpjgecongkpaaDiskTear
import Derived.Test.YtkjpjgecongkpaaDiskTold
namespace Go.Proofs.Ytkjpjgecongkpaa
open Go.RowKit

theorem fall_dok {n : Nat} {s keep : Int} (h : dokB n s = true) : dokB (fallN n s keep) s = true := by
  obtain ⟨h1, h2, h3⟩ := dok_iff.1 h
  obtain ⟨f1, f2⟩ := fall_le (keep := keep) h
  have hp : 0 ≤ min (max keep 0) ((n : Int) - s) := by omega
  exact dok_iff.2 ⟨by omega, h2, by omega⟩
theorem rb_len {w : World} {ao : Option Addr} {n ca : Nat} {xs : List Int} (h : RB w (.slice ao n ca) xs) : n = xs.length ∧ n ≤ ca := by
  obtain ⟨_, a, c, e, hc, _⟩ := h
  injection e with e1 e2 e3
  subst e1 e2 e3
  exact ⟨rfl, hc.1⟩
set_option maxHeartbeats 4000000 in
set_option maxRecDepth 100000 in
theorem implSync_yes (ao : Option Addr) (n ca : Nat) (s : Int) (xs : List Int) (w : World) (hr : RB w (.slice ao n ca) xs) (hl : xs.length ≤ 1048576) (hd : dokB n s = true) :
    Calls Try.prog 14 #[dv (.slice ao n ca) s] w fun e w' => ∃ u, e = .returned (dv u (n : Int)) ∧ OB w' w.heap.size u (xs) ∧ Below w.heap.size w w' := by
  obtain ⟨hn, hca⟩ := rb_len hr
  have hna : n ≤ xs.length := by omega
  have hnb : xs.length ≤ n := by omega
  clear hn
  obtain ⟨w0, hw0⟩ : ∃ y, (((w.alloc (.cells #[.slice ao n ca, .int .i64 s] 25)).alloc (.cells #[.slice none 0 0, .int .i64 0] 25)).alloc (.cells (drv 0 (.slice ao n ca) s 0) 63)) = y := ⟨_, rfl⟩
  have b0 : Below w.heap.size w w0 := hw0 ▸ (((Below.refl w.heap.size w).alloc (Nat.le_refl _) _).alloc (by simp) _).alloc (by simp; omega) _
  have L0 : Loc w0 (w.heap.size + 1 + 1) (drv 0 (.slice ao n ca) s 0) := hw0 ▸ loc_at ((w.alloc _).alloc _) _ _ (by simp)
  have S0 : Loc w0 (w.heap.size + 1) #[.slice none 0 0, .int .i64 0] := hw0 ▸ Loc.alloc (loc_at (w.alloc _) _ _ (by simp)) _
  have z0 : w.heap.size + 1 + 1 + 1 ≤ w0.heap.size := hw0 ▸ (by simp)
  have R0 : RF w0 (w.heap.size + 1 + 1) (.slice ao n ca) xs := (hr.rf (by omega) (by omega)).below b0
  have HW := hide hw0
  clear hr hw0
  have C0 := hide (makeSure_yes (w.heap.size + 1 + 1) ao n ca s w0 L0 hd)
  go_enter Try.func14, Try.ntmps14
  go_wp2_with fail
  rw [unhide HW]
  refine (unhide C0).mono ?_
  rintro e w1 ⟨rfl, L1, k1⟩
  have R1 := R0.kp k1
  have S1 := S0.kp k1 (by omega)
  have C1 := hide (told_sure (w.heap.size + 1 + 1) ao n ca s xs w1 L1 R1)
  go_wp2_with fail
  refine (unhide C1).mono ?_
  rintro e w2 ⟨u, rfl, o2, k2⟩
  have S2 := S1.kp k2 (by omega)
  have K := ((k1).trans k2)
  have zK := K.size
  have lt2 := o2.lt
  have zz := (k1).size
  obtain ⟨ua, uc, hu⟩ := o2.form
  have O := hide o2
  clear o2
  subst hu
  have y0 := S2.cell 0 rfl
  have y1 := S2.cell 1 rfl
  have f0 := S2.frozen 0
  have f1 := S2.frozen 1
  clear C0 C1 HW R0 R1 L0 L1 S0 S1 S2 hd
  go_wp2
  refine bodyPost_ret (v := dv (.slice ua xs.length uc) (n : Int)) (by simp [results, Try.results14, go_sem, y0, y1]) rfl ?_
  have Q : Kp w2 ((w2.setCell ⟨w.heap.size + 1, 0, none⟩ (.slice ua xs.length uc)).setCell ⟨w.heap.size + 1, 1, none⟩ (.int .i64 (n : Int))) (fun k => k = w.heap.size + 1) := (set_kp _ _ _ _).trans (set_kp _ _ _ _)
  exact ⟨_, rfl, ((unhide O).kp Q (fun k hk => by have := lt2 k hk; omega)).mono (by omega), Below.kp (Below.kp b0 K b0.size (fun k hk => by omega)) Q (by omega) (fun k hk => by omega)⟩
set_option maxHeartbeats 4000000 in
set_option maxRecDepth 100000 in
theorem implSync_no (ao : Option Addr) (n ca : Nat) (s : Int) (xs : List Int) (w : World) (hr : RB w (.slice ao n ca) xs) (hl : xs.length ≤ 1048576) (hd : dokB n s = false) :
    Calls Try.prog 14 #[dv (.slice ao n ca) s] w fun e w' => ∃ u, e = .returned (dv u s) ∧ OB w' w.heap.size u (xs) ∧ Below w.heap.size w w' := by
  obtain ⟨hn, hca⟩ := rb_len hr
  have hna : n ≤ xs.length := by omega
  have hnb : xs.length ≤ n := by omega
  clear hn
  obtain ⟨w0, hw0⟩ : ∃ y, (((w.alloc (.cells #[.slice ao n ca, .int .i64 s] 25)).alloc (.cells #[.slice none 0 0, .int .i64 0] 25)).alloc (.cells (drv 0 (.slice ao n ca) s 0) 63)) = y := ⟨_, rfl⟩
  have b0 : Below w.heap.size w w0 := hw0 ▸ (((Below.refl w.heap.size w).alloc (Nat.le_refl _) _).alloc (by simp) _).alloc (by simp; omega) _
  have L0 : Loc w0 (w.heap.size + 1 + 1) (drv 0 (.slice ao n ca) s 0) := hw0 ▸ loc_at ((w.alloc _).alloc _) _ _ (by simp)
  have S0 : Loc w0 (w.heap.size + 1) #[.slice none 0 0, .int .i64 0] := hw0 ▸ Loc.alloc (loc_at (w.alloc _) _ _ (by simp)) _
  have z0 : w.heap.size + 1 + 1 + 1 ≤ w0.heap.size := hw0 ▸ (by simp)
  have R0 : RF w0 (w.heap.size + 1 + 1) (.slice ao n ca) xs := (hr.rf (by omega) (by omega)).below b0
  have HW := hide hw0
  clear hr hw0
  have C0 := hide (makeSure_no (w.heap.size + 1 + 1) ao n ca s w0 L0 hd)
  go_enter Try.func14, Try.ntmps14
  go_wp2_with fail
  rw [unhide HW]
  refine (unhide C0).mono ?_
  rintro e w1 ⟨rfl, L1, k1⟩
  have R1 := R0.kp k1
  have S1 := S0.kp k1 (by omega)
  have C1 := hide (told_new (w.heap.size + 1 + 1) ao n ca s xs w1 L1 R1)
  go_wp2_with fail
  refine (unhide C1).mono ?_
  rintro e w2 ⟨u, rfl, o2, k2⟩
  have S2 := S1.kp k2 (by omega)
  have K := ((k1).trans k2)
  have zK := K.size
  have lt2 := o2.lt
  have zz := (k1).size
  obtain ⟨ua, uc, hu⟩ := o2.form
  have O := hide o2
  clear o2
  subst hu
  have y0 := S2.cell 0 rfl
  have y1 := S2.cell 1 rfl
  have f0 := S2.frozen 0
  have f1 := S2.frozen 1
  clear C0 C1 HW R0 R1 L0 L1 S0 S1 S2 hd
  go_wp2
  refine bodyPost_ret (v := dv (.slice ua xs.length uc) s) (by simp [results, Try.results14, go_sem, y0, y1]) rfl ?_
  have Q : Kp w2 ((w2.setCell ⟨w.heap.size + 1, 0, none⟩ (.slice ua xs.length uc)).setCell ⟨w.heap.size + 1, 1, none⟩ (.int .i64 s)) (fun k => k = w.heap.size + 1) := (set_kp _ _ _ _).trans (set_kp _ _ _ _)
  exact ⟨_, rfl, ((unhide O).kp Q (fun k hk => by have := lt2 k hk; omega)).mono (by omega), Below.kp (Below.kp b0 K b0.size (fun k hk => by omega)) Q (by omega) (fun k hk => by omega)⟩
set_option maxHeartbeats 4000000 in
set_option maxRecDepth 100000 in
theorem implFall_yes (ao : Option Addr) (n ca : Nat) (s : Int) (xs : List Int) (keep : Int) (w : World) (hr : RB w (.slice ao n ca) xs) (hl : xs.length ≤ 1048576) (hd : dokB n s = true) :
    Calls Try.prog 10 #[dv (.slice ao n ca) s, .int .i64 keep] w fun e w' => ∃ u, e = .returned (dv u (fallN n s keep : Int)) ∧ OB w' w.heap.size u (xs.take (fallN n s keep)) ∧ Below w.heap.size w w' := by
  obtain ⟨hn, hca⟩ := rb_len hr
  have hna : n ≤ xs.length := by omega
  have hnb : xs.length ≤ n := by omega
  clear hn
  obtain ⟨w0, hw0⟩ : ∃ y, (((w.alloc (.cells #[.slice ao n ca, .int .i64 s] 25)).alloc (.cells #[.slice none 0 0, .int .i64 0] 25)).alloc (.cells (drv 0 (.slice ao n ca) s 0) 63)) = y := ⟨_, rfl⟩
  have b0 : Below w.heap.size w w0 := hw0 ▸ (((Below.refl w.heap.size w).alloc (Nat.le_refl _) _).alloc (by simp) _).alloc (by simp; omega) _
  have L0 : Loc w0 (w.heap.size + 1 + 1) (drv 0 (.slice ao n ca) s 0) := hw0 ▸ loc_at ((w.alloc _).alloc _) _ _ (by simp)
  have S0 : Loc w0 (w.heap.size + 1) #[.slice none 0 0, .int .i64 0] := hw0 ▸ Loc.alloc (loc_at (w.alloc _) _ _ (by simp)) _
  have z0 : w.heap.size + 1 + 1 + 1 ≤ w0.heap.size := hw0 ▸ (by simp)
  have R0 : RF w0 (w.heap.size + 1 + 1) (.slice ao n ca) xs := (hr.rf (by omega) (by omega)).below b0
  have HW := hide hw0
  clear hr hw0
  have TY := tear_yes (w.heap.size + 1 + 1) ao n ca s keep w0 L0 hd hca
  have hq := fall_dok (keep := keep) hd
  have hqn := (fall_le (keep := keep) hd).1
  generalize fallN n s keep = q at *
  have FR : ∀ y, RF y (w.heap.size + 1 + 1) (.slice ao n ca) xs → RF y (w.heap.size + 1 + 1) (.slice ao q ca) (xs.take q) := fun y r => r.front q (by omega)
  generalize xs.take q = ys at *
  have C0 := hide TY
  clear TY
  go_enter Try.func10, Try.ntmps10
  go_wp2_with fail
  rw [unhide HW]
  refine (unhide C0).mono ?_
  rintro e w1 ⟨rfl, L1, k1⟩
  have R1 := FR _ (R0.kp k1)
  have S1 := S0.kp k1 (by omega)
  have C1 := hide (makeSure_yes (w.heap.size + 1 + 1) ao q ca s w1 L1 hq)
  go_wp2_with fail
  refine (unhide C1).mono ?_
  rintro e w2 ⟨rfl, L2, k2⟩
  have R2 := R1.kp k2
  have S2 := S1.kp k2 (by omega)
  have C2 := hide (told_sure (w.heap.size + 1 + 1) ao q ca s ys w2 L2 R2)
  go_wp2_with fail
  refine (unhide C2).mono ?_
  rintro e w3 ⟨u, rfl, o3, k3⟩
  have S3 := S2.kp k3 (by omega)
  have K := (((k1).trans k2).trans k3)
  have zK := K.size
  have lt2 := o3.lt
  have zz := ((k1.trans k2)).size
  obtain ⟨ua, uc, hu⟩ := o3.form
  have O := hide o3
  clear o3
  subst hu
  have y0 := S3.cell 0 rfl
  have y1 := S3.cell 1 rfl
  have f0 := S3.frozen 0
  have f1 := S3.frozen 1
  clear C0 C1 C2 HW R0 R1 R2 L0 L1 L2 S0 S1 S2 S3 hd hq
  go_wp2
  refine bodyPost_ret (v := dv (.slice ua ys.length uc) (q : Int)) (by simp [results, Try.results10, go_sem, y0, y1]) rfl ?_
  have Q : Kp w3 ((w3.setCell ⟨w.heap.size + 1, 0, none⟩ (.slice ua ys.length uc)).setCell ⟨w.heap.size + 1, 1, none⟩ (.int .i64 (q : Int))) (fun k => k = w.heap.size + 1) := (set_kp _ _ _ _).trans (set_kp _ _ _ _)
  exact ⟨_, rfl, ((unhide O).kp Q (fun k hk => by have := lt2 k hk; omega)).mono (by omega), Below.kp (Below.kp b0 K b0.size (fun k hk => by omega)) Q (by omega) (fun k hk => by omega)⟩
set_option maxHeartbeats 4000000 in
set_option maxRecDepth 100000 in
theorem implFall_no (ao : Option Addr) (n ca : Nat) (s : Int) (xs : List Int) (keep : Int) (w : World) (hr : RB w (.slice ao n ca) xs) (hl : xs.length ≤ 1048576) (hd : dokB n s = false) :
    Calls Try.prog 10 #[dv (.slice ao n ca) s, .int .i64 keep] w fun e w' => ∃ u, e = .returned (dv u s) ∧ OB w' w.heap.size u (xs) ∧ Below w.heap.size w w' := by
  obtain ⟨hn, hca⟩ := rb_len hr
  have hna : n ≤ xs.length := by omega
  have hnb : xs.length ≤ n := by omega
  clear hn
  obtain ⟨w0, hw0⟩ : ∃ y, (((w.alloc (.cells #[.slice ao n ca, .int .i64 s] 25)).alloc (.cells #[.slice none 0 0, .int .i64 0] 25)).alloc (.cells (drv 0 (.slice ao n ca) s 0) 63)) = y := ⟨_, rfl⟩
  have b0 : Below w.heap.size w w0 := hw0 ▸ (((Below.refl w.heap.size w).alloc (Nat.le_refl _) _).alloc (by simp) _).alloc (by simp; omega) _
  have L0 : Loc w0 (w.heap.size + 1 + 1) (drv 0 (.slice ao n ca) s 0) := hw0 ▸ loc_at ((w.alloc _).alloc _) _ _ (by simp)
  have S0 : Loc w0 (w.heap.size + 1) #[.slice none 0 0, .int .i64 0] := hw0 ▸ Loc.alloc (loc_at (w.alloc _) _ _ (by simp)) _
  have z0 : w.heap.size + 1 + 1 + 1 ≤ w0.heap.size := hw0 ▸ (by simp)
  have R0 : RF w0 (w.heap.size + 1 + 1) (.slice ao n ca) xs := (hr.rf (by omega) (by omega)).below b0
  have HW := hide hw0
  clear hr hw0
  have C0 := hide (tear_no (w.heap.size + 1 + 1) ao n ca s keep w0 L0 hd)
  go_enter Try.func10, Try.ntmps10
  go_wp2_with fail
  rw [unhide HW]
  refine (unhide C0).mono ?_
  rintro e w1 ⟨rfl, L1, k1⟩
  have R1 := R0.kp k1
  have S1 := S0.kp k1 (by omega)
  have C1 := hide (makeSure_no (w.heap.size + 1 + 1) ao n ca s w1 L1 hd)
  go_wp2_with fail
  refine (unhide C1).mono ?_
  rintro e w2 ⟨rfl, L2, k2⟩
  have R2 := R1.kp k2
  have S2 := S1.kp k2 (by omega)
  have C2 := hide (told_new (w.heap.size + 1 + 1) ao n ca s xs w2 L2 R2)
  go_wp2_with fail
  refine (unhide C2).mono ?_
  rintro e w3 ⟨u, rfl, o3, k3⟩
  have S3 := S2.kp k3 (by omega)
  have K := (((k1).trans k2).trans k3)
  have zK := K.size
  have lt2 := o3.lt
  have zz := ((k1.trans k2)).size
  obtain ⟨ua, uc, hu⟩ := o3.form
  have O := hide o3
  clear o3
  subst hu
  have y0 := S3.cell 0 rfl
  have y1 := S3.cell 1 rfl
  have f0 := S3.frozen 0
  have f1 := S3.frozen 1
  clear C0 C1 C2 HW R0 R1 R2 L0 L1 L2 S0 S1 S2 S3 hd
  go_wp2
  refine bodyPost_ret (v := dv (.slice ua xs.length uc) s) (by simp [results, Try.results10, go_sem, y0, y1]) rfl ?_
  have Q : Kp w3 ((w3.setCell ⟨w.heap.size + 1, 0, none⟩ (.slice ua xs.length uc)).setCell ⟨w.heap.size + 1, 1, none⟩ (.int .i64 s)) (fun k => k = w.heap.size + 1) := (set_kp _ _ _ _).trans (set_kp _ _ _ _)
  exact ⟨_, rfl, ((unhide O).kp Q (fun k hk => by have := lt2 k hk; omega)).mono (by omega), Below.kp (Below.kp b0 K b0.size (fun k hk => by omega)) Q (by omega) (fun k hk => by omega)⟩
set_option maxHeartbeats 4000000 in
set_option maxRecDepth 100000 in
theorem implAppend_yes (ao : Option Addr) (ca cb : Nat) (s : Int) (xs : List Int) (bo : Option Addr) (ys : List Int) (w : World) (hr : RB w (.slice ao xs.length ca) xs) (hl : xs.length ≤ 1048576) (hr2 : RB w (.slice bo ys.length cb) ys) (hl2 : ys.length ≤ 1048576) (ha : apdB xs.length ys.length s = true) :
    Calls Try.prog 12 #[dv (.slice ao xs.length ca) s, .slice bo ys.length cb] w fun e w' => ∃ u, e = .returned (.tuple #[dv u s, .bool true]) ∧ OB w' w.heap.size u (xs ++ ys) ∧ Below w.heap.size w w' := by
  obtain ⟨w0, hw0⟩ : ∃ y, (((w.alloc (.cells #[.slice ao xs.length ca, .int .i64 s] 25)).alloc (.cells #[.slice none 0 0, .int .i64 0] 25)).alloc (.cells (drv 0 (.slice ao xs.length ca) s 0) 63)) = y := ⟨_, rfl⟩
  have b0 : Below w.heap.size w w0 := hw0 ▸ (((Below.refl w.heap.size w).alloc (Nat.le_refl _) _).alloc (by simp) _).alloc (by simp; omega) _
  have L0 : Loc w0 (w.heap.size + 1 + 1) (drv 0 (.slice ao xs.length ca) s 0) := hw0 ▸ loc_at ((w.alloc _).alloc _) _ _ (by simp)
  have S0 : Loc w0 (w.heap.size + 1) #[.slice none 0 0, .int .i64 0] := hw0 ▸ Loc.alloc (loc_at (w.alloc _) _ _ (by simp)) _
  have z0 : w.heap.size + 1 + 1 + 1 ≤ w0.heap.size := hw0 ▸ (by simp)
  have R0 : RF w0 (w.heap.size + 1 + 1) (.slice ao xs.length ca) xs := (hr.rf (by omega) (by omega)).below b0
  have R00 : RF w0 (w.heap.size + 1 + 1) (.slice bo ys.length cb) ys := (hr2.rf (by omega) (by omega)).below b0
  have TY := write_yes (w.heap.size + 1 + 1) ao bo ca cb s xs ys w0 L0 R0 R00 ha
  generalize xs ++ ys = zs at *
  have HW := hide hw0
  clear hr hw0
  have C0 := hide (TY)
  go_enter Try.func12, Try.ntmps12
  go_wp2_with fail
  rw [unhide HW]
  refine (unhide C0).mono ?_
  rintro e w1 ⟨rfl, v', L1, R1, k1⟩
  obtain ⟨va, vc, hv⟩ := R1.form
  subst hv
  have S1 := S0.kp k1 (by omega)
  have C1 := hide (told_new (w.heap.size + 1 + 1) va zs.length vc s zs w1 L1 R1)
  go_wp2_with fail
  refine (unhide C1).mono ?_
  rintro e w2 ⟨u, rfl, o2, k2⟩
  have S2 := S1.kp k2 (by omega)
  have K := ((k1).trans k2)
  have zK := K.size
  have lt2 := o2.lt
  have zz := (k1).size
  obtain ⟨ua, uc, hu⟩ := o2.form
  have O := hide o2
  clear o2
  subst hu
  have y0 := S2.cell 0 rfl
  have y1 := S2.cell 1 rfl
  have f0 := S2.frozen 0
  have f1 := S2.frozen 1
  clear C0 C1 HW R0 R00 R1 L0 L1 S0 S1 S2 ha hr2 TY
  go_wp2
  refine bodyPost_ret (v := .tuple #[dv (.slice ua zs.length uc) s, .bool true]) (by simp [results, Try.results12, go_sem, y0, y1]) rfl ?_
  have Q : Kp w2 ((w2.setCell ⟨w.heap.size + 1, 0, none⟩ (.slice ua zs.length uc)).setCell ⟨w.heap.size + 1, 1, none⟩ (.int .i64 s)) (fun k => k = w.heap.size + 1) := (set_kp _ _ _ _).trans (set_kp _ _ _ _)
  exact ⟨_, rfl, ((unhide O).kp Q (fun k hk => by have := lt2 k hk; omega)).mono (by omega), Below.kp (Below.kp b0 K b0.size (fun k hk => by omega)) Q (by omega) (fun k hk => by omega)⟩
set_option maxHeartbeats 4000000 in
set_option maxRecDepth 100000 in
theorem implAppend_no (ao : Option Addr) (ca cb : Nat) (s : Int) (xs : List Int) (bo : Option Addr) (ys : List Int) (w : World) (hr : RB w (.slice ao xs.length ca) xs) (hl : xs.length ≤ 1048576) (hr2 : RB w (.slice bo ys.length cb) ys) (hl2 : ys.length ≤ 1048576) (ha : apdB xs.length ys.length s = false) :
    Calls Try.prog 12 #[dv (.slice ao xs.length ca) s, .slice bo ys.length cb] w fun e w' => ∃ u, e = .returned (.tuple #[dv u s, .bool false]) ∧ OB w' w.heap.size u (xs) ∧ Below w.heap.size w w' := by
  obtain ⟨w0, hw0⟩ : ∃ y, (((w.alloc (.cells #[.slice ao xs.length ca, .int .i64 s] 25)).alloc (.cells #[.slice none 0 0, .int .i64 0] 25)).alloc (.cells (drv 0 (.slice ao xs.length ca) s 0) 63)) = y := ⟨_, rfl⟩
  have b0 : Below w.heap.size w w0 := hw0 ▸ (((Below.refl w.heap.size w).alloc (Nat.le_refl _) _).alloc (by simp) _).alloc (by simp; omega) _
  have L0 : Loc w0 (w.heap.size + 1 + 1) (drv 0 (.slice ao xs.length ca) s 0) := hw0 ▸ loc_at ((w.alloc _).alloc _) _ _ (by simp)
  have S0 : Loc w0 (w.heap.size + 1) #[.slice none 0 0, .int .i64 0] := hw0 ▸ Loc.alloc (loc_at (w.alloc _) _ _ (by simp)) _
  have z0 : w.heap.size + 1 + 1 + 1 ≤ w0.heap.size := hw0 ▸ (by simp)
  have R0 : RF w0 (w.heap.size + 1 + 1) (.slice ao xs.length ca) xs := (hr.rf (by omega) (by omega)).below b0
  have R00 : RF w0 (w.heap.size + 1 + 1) (.slice bo ys.length cb) ys := (hr2.rf (by omega) (by omega)).below b0
  have HW := hide hw0
  clear hr hw0
  have C0 := hide (write_no (w.heap.size + 1 + 1) ao bo ca cb s xs.length ys.length w0 L0 ha)
  go_enter Try.func12, Try.ntmps12
  go_wp2_with fail
  rw [unhide HW]
  refine (unhide C0).mono ?_
  rintro e w1 ⟨rfl, L1, k1⟩
  have R1 := R0.kp k1
  have S1 := S0.kp k1 (by omega)
  have C1 := hide (told_new (w.heap.size + 1 + 1) ao xs.length ca s xs w1 L1 R1)
  go_wp2_with fail
  refine (unhide C1).mono ?_
  rintro e w2 ⟨u, rfl, o2, k2⟩
  have S2 := S1.kp k2 (by omega)
  have K := ((k1).trans k2)
  have zK := K.size
  have lt2 := o2.lt
  have zz := (k1).size
  obtain ⟨ua, uc, hu⟩ := o2.form
  have O := hide o2
  clear o2
  subst hu
  have y0 := S2.cell 0 rfl
  have y1 := S2.cell 1 rfl
  have f0 := S2.frozen 0
  have f1 := S2.frozen 1
  clear C0 C1 HW R0 R00 R1 L0 L1 S0 S1 S2 ha hr2
  go_wp2
  refine bodyPost_ret (v := .tuple #[dv (.slice ua xs.length uc) s, .bool false]) (by simp [results, Try.results12, go_sem, y0, y1]) rfl ?_
  have Q : Kp w2 ((w2.setCell ⟨w.heap.size + 1, 0, none⟩ (.slice ua xs.length uc)).setCell ⟨w.heap.size + 1, 1, none⟩ (.int .i64 s)) (fun k => k = w.heap.size + 1) := (set_kp _ _ _ _).trans (set_kp _ _ _ _)
  exact ⟨_, rfl, ((unhide O).kp Q (fun k hk => by have := lt2 k hk; omega)).mono (by omega), Below.kp (Below.kp b0 K b0.size (fun k hk => by omega)) Q (by omega) (fun k hk => by omega)⟩
end Go.Proofs.Ytkjpjgecongkpaa
