/- NotePut2: impl.SafeBytes and NoteBytes. -/
import Derived.Test.YtcclbejpgiogaaaGreatDoorNBBF
import Derived.Deep.DeepCutAuto
import Derived.Laws.EntriesVeiled
set_option maxRecDepth 100000
set_option maxHeartbeats 16000000
namespace Go.Proofs.YtcclbejpgiogaaaGreatDoor
open Go.RowKit
set_option linter.unusedSectionVars false
variable [∀ (a b c d : Int), Decidable (Ok4 a b c d)]
variable [∀ (a b c d : Nat), Decidable (okN a b c d)]
variable [∀ (last : Int) (s : St), Decidable (GoodSt last s)]
variable [∀ (x : T4), Decidable (OkT x)]
variable [∀ (n : Int) (s : List Int), Decidable (OkL n s)]
variable [∀ (n f : Int), Decidable (COk n f)]

theorem implSafeBytes (n f vo lo v : Int) (s : ByteArray) (ao : Option Addr) (ca : Nat) (ys : List Int) (d : ByteArray) (w : World) (hs : s.size ≤ 33554432) (hd : d.size ≤ 33554432) (hE : Env w) (ha : RI w (.slice ao ys.length ca) ys) :
 Calls Tryz.prog 6 #[cv n f, sv vo lo v s (.slice ao ys.length ca) d] w fun e w' => ∃ u, e = .returned u ∧ OB w' w.heap.size u (safB n f vo lo v s ys d) ∧ Below w.heap.size w w' := by
 have QO := hide fun w' (b : Below w.heap.size w w') => implSafeOk n f vo lo v s ao ca ys d w' hs hd (hE.below b) (ha.below b)
 have QB := hide fun w' (b : Below w.heap.size w w') => implQcBytes n f v s ao ca ys w' hs (hE.below b) (ha.below b)
 have HQ : Hid (sokB n f vo lo v s ys d = true → (0 ≤ vo ∧ vo ≤ 60) ∧ d.size ≤ 1920 ∧ (qcB n f v s ys).length ≤ 2000) := hide fun h => by
  obtain ⟨h1, _, h3, h4⟩ := sok_done h
  obtain ⟨_, a, b, _⟩ := qok_small h3
  refine ⟨h1, name_len h4, ?_⟩
  have := qcRaw_len v s ys
  unfold qcB; rw [if_pos h3]; omega
 obtain ⟨res, hres⟩ : ∃ r, safB n f vo lo v s ys d = r := ⟨_, rfl⟩
 rw [hres]
 have HF : Hid (sokB n f vo lo v s ys d = false → res = []) := hide fun h => by rw [← hres]; unfold safB; rw [h]; rfl
 have HT : Hid (sokB n f vo lo v s ys d = true → res = putAns vo ++ putAns lo ++ qcB n f v s ys ++ textAns d) := hide fun h => by rw [← hres]; unfold safB safRaw qcB; rw [h, if_pos rfl, if_pos (sok_done h).2.2.1]
 generalize sokB n f vo lo v s ys d = bq at *
 clear hE ha hs hd hres
 obtain ⟨w0, hw0⟩ : ∃ w0, ((w.alloc (.cells #[.int .i64 n, .int .i64 f] 25)).alloc (.cells #[.int .i64 vo, .int .i64 lo, .int .i64 v, .string s, .slice ao ys.length ca, .string d] 30)) = w0 := ⟨_, rfl⟩
 have Bw0 : Below w.heap.size w w0 := hw0 ▸ ((Below.refl _ _).alloc (Nat.le_refl _) _).alloc (by simp) _
 have LC : Loc w0 (w.heap.size) #[.int .i64 n, .int .i64 f] := hw0 ▸ (loc_at (w) _ _ rfl).alloc _
 have LQ : Loc w0 (w.heap.size + 1) #[.int .i64 vo, .int .i64 lo, .int .i64 v, .string s, .slice ao ys.length ca, .string d] := hw0 ▸ loc_at (w.alloc _) _ _ (by simp)
 have zw0 : w.heap.size + 1 + 1 ≤ w0.heap.size := by rw [← hw0]; simp
 go_enter Tryz.func6, Tryz.ntmps6
 have cLC0 := LC.cell 0 rfl
 have cLC1 := LC.cell 1 rfl
 have cLQ0 := LQ.cell 0 rfl
 have cLQ1 := LQ.cell 1 rfl
 have cLQ2 := LQ.cell 2 rfl
 have cLQ3 := LQ.cell 3 rfl
 have cLQ4 := LQ.cell 4 rfl
 have cLQ5 := LQ.cell 5 rfl
 go_wp2_with fail
 clear hw0
 refine (QO.out _ Bw0).mono ?_
 rintro _ w1 ⟨rfl, bb⟩
 clear cLC0 cLC1 cLQ0 cLQ1 cLQ2 cLQ3 cLQ4 cLQ5
 have Bw1 := bu Bw0 bb
 have sw1 := bb.size
 replace LC := LC.up bb
 replace LQ := LQ.up bb
 clear Bw0
 clear bb
 clear QO
 cases bq with
 | false =>
  clear LC LQ
  go_wp2
  go_ret
  exact ⟨_, rfl, by rw [HF.out (by trivial)]; exact OB.nil _ _, Bw1⟩
 | true =>
  obtain ⟨hv, hd, hqc⟩ := HQ.out (by trivial)
  have T1 := hide fun w => implPut vo w
  have T2 := hide fun w => implPut lo w
  have T4 := hide fun w => implText d w (by omega)
  have T3 := hide fun w' (b : Below w1.heap.size w1 w') => QB.out w' (bu Bw1 b)
  have l1 := putAns_len vo
  have l2 := putAns_len lo
  have l4 := textAns_le d
  have p1 := putAns_pos vo (by omega) (by omega)
  generalize putAns vo = x1 at *
  generalize putAns lo = x2 at *
  generalize qcB n f v s ys = x3 at *
  generalize textAns d = x4 at *
  clear HQ QB hv
  have K : Hid (∀ w', Below w1.heap.size w1 w' → (fun w' => Below w1.heap.size w1 w' ∧ (w'.cell? ⟨w.heap.size, 0, none⟩ = some (.int .i64 n) ∧ w'.cell? ⟨w.heap.size, 1, none⟩ = some (.int .i64 f)) ∧ (w'.cell? ⟨w.heap.size + 1, 0, none⟩ = some (.int .i64 vo) ∧ w'.cell? ⟨w.heap.size + 1, 1, none⟩ = some (.int .i64 lo) ∧ w'.cell? ⟨w.heap.size + 1, 2, none⟩ = some (.int .i64 v) ∧ w'.cell? ⟨w.heap.size + 1, 3, none⟩ = some (.string s) ∧ w'.cell? ⟨w.heap.size + 1, 4, none⟩ = some (.slice ao ys.length ca) ∧ w'.cell? ⟨w.heap.size + 1, 5, none⟩ = some (.string d))) w') := hide fun w' hb' => ⟨hb', ⟨(LC.up hb').cell 0 rfl, (LC.up hb').cell 1 rfl⟩, ⟨(LQ.up hb').cell 0 rfl, (LQ.up hb').cell 1 rfl, (LQ.up hb').cell 2 rfl, (LQ.up hb').cell 3 rfl, (LQ.up hb').cell 4 rfl, (LQ.up hb').cell 5 rfl⟩⟩
  go_upto_region 3 with fail
  have bA : Below w1.heap.size w1 w1.drew := Below.drew (Below.refl _ _)
  refine wrn K bA (fun hHeld => ?_)
  refine' tj 0 9 rfl ?_ ?_;rotate_left
  ·intro w h; (try dsimp only at h); go_simp; try with_reducible rfl
  simp only [pU]
  refine' tj 3 12 rfl ?_ ?_;rotate_left
  ·intro w h; (try dsimp only at h); go_simp; try with_reducible rfl
  simp only [pU]
  refine' tj 6 15 rfl ?_ ?_;rotate_left
  ·intro w h; (try dsimp only at h); go_simp; try with_reducible rfl
  simp only [pU]
  refine' tj 7 16 rfl ?_ ?_;rotate_left
  ·intro w h; (try dsimp only at h); go_simp; try with_reducible rfl
  simp only [pU]
  refine' tj 10 19 rfl ?_ ?_;rotate_left
  ·intro w h; (try dsimp only at h); go_simp; try with_reducible rfl
  simp only [pU]
  refine' tj 1 10 rfl ?_ ?_;rotate_left
  ·intro w h; (try dsimp only at h); go_simp; try with_reducible rfl
  simp only [pU]
  refine' tj 4 13 rfl ?_ ?_;rotate_left
  ·intro w h; (try dsimp only at h); go_simp; try with_reducible rfl
  simp only [pU]
  refine' tj 8 17 rfl ?_ ?_;rotate_left
  ·intro w h; (try dsimp only at h); go_simp; try with_reducible rfl
  simp only [pU]
  refine' tj 11 20 rfl ?_ ?_;rotate_left
  ·intro w h; (try dsimp only at h); go_simp; try with_reducible rfl
  simp only [pU]
  refine rd 2 rfl (fun KK hKK => ?_)
  go_simp
  have hgo := bA
  refine (T1.out _).mono ?_
  rintro e wz3_1 ⟨u1, rfl, (o1 : OB _ _ u1 x1), bb⟩
  have bz1 : Below w1.heap.size w1 wz3_1 := bu bA bb
  replace o1 := o1.mono hgo.size
  obtain ⟨ao1, ko1, rfl⟩ := o1.form
  clear bA hgo bb
  clear hHeld
  refine hKK.out _ _ (K.out _ bz1) (fun hHeld => ?_)
  clear hKK KK
  refine rd 5 rfl (fun KK hKK => ?_)
  go_simp
  have hgo := bz1
  refine (T2.out _).mono ?_
  rintro e wz3_2 ⟨u2, rfl, (o2 : OB _ _ u2 x2), bb⟩
  have bz2 : Below w1.heap.size w1 wz3_2 := bu bz1 bb
  replace o1 := o1.below bb
  replace o2 := o2.mono hgo.size
  obtain ⟨ao2, ko2, rfl⟩ := o2.form
  clear bz1 hgo bb
  clear hHeld
  refine hKK.out _ _ (K.out _ bz2) (fun hHeld => ?_)
  clear hKK KK
  refine rd 9 rfl (fun KK hKK => ?_)
  go_simp
  have hgo := bz2
  refine (T3.out _ hgo).mono ?_
  rintro e wz3_3 ⟨u3, rfl, o3, bb⟩
  have bz3 : Below w1.heap.size w1 wz3_3 := bu bz2 bb
  replace o1 := o1.below bb
  replace o2 := o2.below bb
  replace o3 := o3.mono hgo.size
  obtain ⟨ao3, ko3, rfl⟩ := o3.form
  clear bz2 hgo bb
  clear hHeld
  refine hKK.out _ _ (K.out _ bz3) (fun hHeld => ?_)
  clear hKK KK
  refine rd 12 rfl (fun KK hKK => ?_)
  go_simp
  have hgo := bz3
  refine (T4.out _).mono ?_
  rintro e wz3_4 ⟨u4, rfl, o4, bb⟩
  have bz4 : Below w1.heap.size w1 wz3_4 := bu bz3 bb
  replace o1 := o1.below bb
  replace o2 := o2.below bb
  replace o3 := o3.below bb
  replace o4 := o4.mono hgo.size
  obtain ⟨ao4, ko4, rfl⟩ := o4.form
  clear bz3 hgo bb
  clear hHeld
  refine hKK.out _ _ (K.out _ bz4) (fun hHeld => ?_)
  clear hKK KK
  refine rd 13 rfl (fun KK hKK => ?_)
  go_simp
  obtain ⟨wz3_5, hwz3_5⟩ : ∃ x, (wz3_4).alloc (.cells #[.slice ao1 x1.length ko1, .slice ao2 x2.length ko2, .slice ao3 x3.length ko3, .slice ao4 x4.length ko4] 22) = x := ⟨_, rfl⟩
  have bb : Below (wz3_4).heap.size (wz3_4) wz3_5 := hwz3_5 ▸ qalloc _ _
  have bz5 : Below w1.heap.size w1 wz3_5 := bu bz4 bb
  have LV : Loc wz3_5 (wz3_4).heap.size #[.slice ao1 x1.length ko1, .slice ao2 x2.length ko2, .slice ao3 x3.length ko3, .slice ao4 x4.length ko4] := hwz3_5 ▸ loc_at (wz3_4) _ _ rfl
  replace o1 := o1.below bb
  replace o2 := o2.below bb
  replace o3 := o3.below bb
  replace o4 := o4.below bb
  rw [hwz3_5]
  clear bz4 hwz3_5 bb
  clear hHeld
  refine hKK.out _ _ (K.out _ bz5) (fun hHeld => ?_)
  clear hKK KK
  refine rd 14 rfl (fun KK hKK => ?_)
  go_simp
  have hgo := bz5
  refine (concatB4 _ _ _ _ _ x1 x2 x3 x4 _ (LV.cell 0 rfl) (LV.cell 1 rfl) (LV.cell 2 rfl) (LV.cell 3 rfl) (o1.pb (by omega)) (o2.pb (by omega)) (o3.pb (by omega)) (o4.pb (by omega)) (by omega) (by omega)).mono ?_
  rintro e wz3_6 ⟨u5, rfl, o5, bb⟩
  have bz6 : Below w1.heap.size w1 wz3_6 := bu bz5 bb
  replace LV := LV.up bb
  replace o1 := o1.below bb
  replace o2 := o2.below bb
  replace o3 := o3.below bb
  replace o4 := o4.below bb
  replace o5 := OB.mono o5 (Nat.le_trans Bw1.size hgo.size)
  clear bz5 hgo bb
  clear hHeld
  refine hKK.out _ _ (K.out _ bz6) (fun hHeld => ?_)
  clear hKK KK
  refine' tj 15 4 rfl ?_ ?_;rotate_left
  ·intro w h; (try dsimp only at h); go_simp; try with_reducible rfl
  simp only [pU]
  clear hHeld
  refine wdn ?_
  have bb := bz6
  have Bwz3_6 := bu Bw1 bb
  have swz3_6 := bb.size
  replace LC := LC.up bb
  replace LQ := LQ.up bb
  clear Bw1
  clear bb bz6 K
  go_wp2
  go_ret
  exact ⟨_, rfl, by rw [HT.out (by trivial)]; exact o5, Bwz3_6⟩

theorem implNoteBytes (n f vo lo v : Int) (s : ByteArray) (ao : Option Addr) (ca : Nat) (ys : List Int) (d : ByteArray) (w : World) (hs : s.size ≤ 33554432) (hd : d.size ≤ 33554432) (hE : Env w) (ha : RI w (.slice ao ys.length ca) ys) :
 Calls Tryz.prog 7 #[cv n f, sv vo lo v s (.slice ao ys.length ca) d] w fun e w' => ∃ u, e = .returned u ∧ OB w' w.heap.size u (notB n f vo lo v s ys d) ∧ Below w.heap.size w w' := by
 have QO := hide fun w' (b : Below w.heap.size w w') => implSafeOk n f vo lo v s ao ca ys d w' hs hd (hE.below b) (ha.below b)
 have QB := hide fun w' (b : Below w.heap.size w w') => implSafeBytes n f vo lo v s ao ca ys d w' hs hd (hE.below b) (ha.below b)
 have HQ : Hid (sokB n f vo lo v s ys d = true → (safB n f vo lo v s ys d).length ≤ 4000) := hide fun h => by
  have := rawT_len (n := n) (f := f) (t := (vo, lo, (v, s, ys), d)) h
  unfold safB; rw [if_pos h]; exact this
 obtain ⟨res, hres⟩ : ∃ r, notB n f vo lo v s ys d = r := ⟨_, rfl⟩
 rw [hres]
 have HF : Hid (sokB n f vo lo v s ys d = false → res = []) := hide fun h => by rw [← hres]; unfold notB; rw [h]; rfl
 have HT : Hid (sokB n f vo lo v s ys d = true → res = putAns (safB n f vo lo v s ys d).length ++ safB n f vo lo v s ys d ++ [10]) := hide fun h => by rw [← hres]; unfold notB safB; rw [h, if_pos rfl, if_pos rfl]; rfl
 generalize sokB n f vo lo v s ys d = bq at *
 generalize safB n f vo lo v s ys d = x2 at *
 clear hE ha hs hd hres
 obtain ⟨w0, hw0⟩ : ∃ w0, ((w.alloc (.cells #[.int .i64 n, .int .i64 f] 25)).alloc (.cells #[.int .i64 vo, .int .i64 lo, .int .i64 v, .string s, .slice ao ys.length ca, .string d] 30)) = w0 := ⟨_, rfl⟩
 have Bw0 : Below w.heap.size w w0 := hw0 ▸ ((Below.refl _ _).alloc (Nat.le_refl _) _).alloc (by simp) _
 have LC : Loc w0 (w.heap.size) #[.int .i64 n, .int .i64 f] := hw0 ▸ (loc_at (w) _ _ rfl).alloc _
 have LQ : Loc w0 (w.heap.size + 1) #[.int .i64 vo, .int .i64 lo, .int .i64 v, .string s, .slice ao ys.length ca, .string d] := hw0 ▸ loc_at (w.alloc _) _ _ (by simp)
 have zw0 : w.heap.size + 1 + 1 ≤ w0.heap.size := by rw [← hw0]; simp
 go_enter Tryz.func7, Tryz.ntmps7
 have cLC0 := LC.cell 0 rfl
 have cLC1 := LC.cell 1 rfl
 have cLQ0 := LQ.cell 0 rfl
 have cLQ1 := LQ.cell 1 rfl
 have cLQ2 := LQ.cell 2 rfl
 have cLQ3 := LQ.cell 3 rfl
 have cLQ4 := LQ.cell 4 rfl
 have cLQ5 := LQ.cell 5 rfl
 go_wp2_with fail
 clear hw0
 refine (QO.out _ Bw0).mono ?_
 rintro _ w1 ⟨rfl, bb⟩
 clear cLC0 cLC1 cLQ0 cLQ1 cLQ2 cLQ3 cLQ4 cLQ5
 have Bw1 := bu Bw0 bb
 have sw1 := bb.size
 replace LC := LC.up bb
 replace LQ := LQ.up bb
 clear Bw0
 clear bb
 clear QO
 cases bq with
 | false =>
  clear LC LQ
  go_wp2
  go_ret
  exact ⟨_, rfl, by rw [HF.out (by trivial)]; exact OB.nil _ _, Bw1⟩
 | true =>
  have h4 := HQ.out (by trivial)
  have hres := hide (HT.out (by trivial))
  clear HQ HF HT
  have cLC0 := LC.cell 0 rfl
  have cLC1 := LC.cell 1 rfl
  have cLQ0 := LQ.cell 0 rfl
  have cLQ1 := LQ.cell 1 rfl
  have cLQ2 := LQ.cell 2 rfl
  have cLQ3 := LQ.cell 3 rfl
  have cLQ4 := LQ.cell 4 rfl
  have cLQ5 := LQ.cell 5 rfl
  go_wp2_with fail
  refine (QB.out _ Bw1).mono ?_
  rintro _ w2 ⟨u2, rfl, o2, bb⟩
  clear cLC0 cLC1 cLQ0 cLQ1 cLQ2 cLQ3 cLQ4 cLQ5
  have Bw2 := bu Bw1 bb
  have sw2 := bb.size
  replace LC := LC.up bb
  replace LQ := LQ.up bb
  clear Bw1
  clear bb
  obtain ⟨ao2, ko2, rfl⟩ := o2.form
  have T1 := hide (implPut (x2.length : Int) w2)
  have l1 := putAns_len (x2.length : Int)
  have p1 := putAns_pos (x2.length : Int) (by omega) (by omega)
  have O2 := hide o2
  clear o2 QB LC LQ
  obtain ⟨m, hm⟩ : ∃ m, x2.length = m := ⟨_, rfl⟩
  rw [hm] at T1 l1 p1 hres h4 O2 ⊢
  have Hm := hide hm
  clear hm
  generalize putAns (m : Int) = x1 at *
  go_wp2_with fail
  refine T1.out.mono ?_
  rintro e w5 ⟨u1, rfl, (o1 : OB _ _ u1 x1), bb⟩
  clear T1
  replace O2 := hide (O2.out.below bb)
  have B5 := bu Bw2 bb
  clear bb Bw2
  obtain ⟨ao1, ko1, rfl⟩ := o1.form
  obtain ⟨w6, hw6⟩ : ∃ y, (w5.alloc (.cells #[.int .u8 10] 5)).alloc (.cells #[.slice ao1 x1.length ko1, .slice ao2 m ko2, .slice (some ⟨w5.heap.size, 0, none⟩) 1 1] 22) = y := ⟨_, rfl⟩
  have b6 : Below w5.heap.size w5 w6 := hw6 ▸ qalloc2 _ _ _
  have L3 : Loc w6 w5.heap.size #[.int .u8 10] := hw6 ▸ (loc_at w5 _ _ rfl).alloc _
  have LV : Loc w6 (w5.heap.size + 1) #[.slice ao1 x1.length ko1, .slice ao2 m ko2, .slice (some ⟨w5.heap.size, 0, none⟩) 1 1] := hw6 ▸ loc_at (w5.alloc _) _ _ (by simp)
  have P3 : PB w6 (.slice (some ⟨w5.heap.size, 0, none⟩) 1 1) [10] := ⟨_, 1, rfl, .inr ⟨_, rfl, bnews_cells (g := w5.heap.size) (off := 0) (xs := [10]) (fun k hk => by
   have hk0 : k = 0 := by simpa using hk
   subst hk0
   exact L3.cell 0 rfl)⟩⟩
  have P1 := hide ((o1.below b6).pb (by omega))
  have P2 := hide ((O2.out.below b6).pb (by have := Hm.out; omega))
  have B6 := bu B5 b6
  have CC := hide (concatB3 (w5.heap.size + 1) _ _ _ x1 x2 [10] w6 (LV.cell 0 rfl) (LV.cell 1 rfl) (LV.cell 2 rfl) P1.out P2.out P3 (by omega) (by have := Hm.out; simp; omega))
  clear b6 L3 LV P3 P1 P2 o1 O2 B5
  go_wp2_with fail
  clear hw6
  refine CC.out.mono ?_
  rintro e w7 ⟨u7, rfl, o7, b7⟩
  have O7 := OB.mono o7 B6.size
  have B7 := bu B6 b7
  clear CC o7 b7 B6
  go_wp2
  go_ret
  exact ⟨_, rfl, by rw [hres.out]; exact O7, B7⟩
end Go.Proofs.YtcclbejpgiogaaaGreatDoor
