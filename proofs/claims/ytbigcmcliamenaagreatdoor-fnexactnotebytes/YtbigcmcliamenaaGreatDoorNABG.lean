/- NoteSpecPut2: the specification's SafeBytes and NoteBytes. -/
import Derived.Test.YtbigcmcliamenaaGreatDoorNABF
import Derived.Deep.DeepCutAuto
import Derived.Laws.EntriesVeiled
namespace Go.Proofs.YtbigcmcliamenaaGreatDoor
open Go.RowKit
set_option linter.unusedSectionVars false
variable [∀ (a b c d : Int), Decidable (Ok4 a b c d)]
variable [∀ (a b c d : Nat), Decidable (okN a b c d)]
variable [∀ (last : Int) (s : St), Decidable (GoodSt last s)]
variable [∀ (x : T4), Decidable (OkT x)]
variable [∀ (n : Int) (s : List Int), Decidable (OkL n s)]
variable [∀ (n f : Int), Decidable (COk n f)]

set_option maxHeartbeats 16000000 in
set_option maxRecDepth 100000 in
theorem specSafeBytes (n f vo lo v : Int) (s : ByteArray) (ao : Option Addr) (ca : Nat) (ys : List Int) (d : ByteArray) (w : World) (hs : s.size ≤ 1048576) (hd : d.size ≤ 1048576) (ha : RI w (.slice ao ys.length ca) ys) :
 Calls Tryz.prog 24 #[cv n f, sv vo lo v s (.slice ao ys.length ca) d] w fun e w' => ∃ u, e = .returned u ∧ OB w' w.heap.size u (safB n f vo lo v s ys d) ∧ Below w.heap.size w w' := by
 have QO := hide fun w' (b : Below w.heap.size w w') => specSafeOk n f vo lo v s ao ca ys d w' hs hd (ha.below b (Nat.le_refl _))
 have QB := hide fun w' (b : Below w.heap.size w w') => specQcBytes n f v s ao ca ys w' hs (ha.below b (Nat.le_refl _))
 have HQ : Hid (sokB n f vo lo v s ys d = true → d.size ≤ 1920 ∧ (qcB n f v s ys).length ≤ 2000) := hide fun h => by
  obtain ⟨h1, _, h3, h4⟩ := sok_done h
  obtain ⟨_, a, b, _⟩ := qok_small h3
  refine ⟨name_len h4, ?_⟩
  have := qcRaw_len v s ys
  unfold qcB; rw [if_pos h3]; omega
 obtain ⟨res, hres⟩ : ∃ r, safB n f vo lo v s ys d = r := ⟨_, rfl⟩
 rw [hres]
 have HF : Hid (sokB n f vo lo v s ys d = false → res = []) := hide fun h => by rw [← hres]; unfold safB; rw [h]; rfl
 have HT : Hid (sokB n f vo lo v s ys d = true → res = putAns vo ++ putAns lo ++ qcB n f v s ys ++ textAns d) := hide fun h => by rw [← hres]; unfold safB safRaw qcB; rw [h, if_pos rfl, if_pos (sok_done h).2.2.1]
 generalize sokB n f vo lo v s ys d = bq at *
 clear ha hs hd hres
 obtain ⟨w0, hw0⟩ : ∃ w0, ((w.alloc (.cells #[.int .i64 n, .int .i64 f] 25)).alloc (.cells #[.int .i64 vo, .int .i64 lo, .int .i64 v, .string s, .slice ao ys.length ca, .string d] 30)) = w0 := ⟨_, rfl⟩
 have Bw0 : Below w.heap.size w w0 := hw0 ▸ ((Below.refl _ _).alloc (Nat.le_refl _) _).alloc (by simp) _
 have LC : Loc w0 (w.heap.size) #[.int .i64 n, .int .i64 f] := hw0 ▸ (loc_at (w) _ _ rfl).alloc _
 have LQ : Loc w0 (w.heap.size + 1) #[.int .i64 vo, .int .i64 lo, .int .i64 v, .string s, .slice ao ys.length ca, .string d] := hw0 ▸ loc_at (w.alloc _) _ _ (by simp)
 have zw0 : w.heap.size + 1 + 1 ≤ w0.heap.size := by rw [← hw0]; simp
 go_enter Tryz.func24, Tryz.ntmps24
 have cLC0 := LC.cell 0 rfl
 have cLC1 := LC.cell 1 rfl
 have cLQ0 := LQ.cell 0 rfl
 have cLQ1 := LQ.cell 1 rfl
 have cLQ2 := LQ.cell 2 rfl
 have cLQ3 := LQ.cell 3 rfl
 have cLQ4 := LQ.cell 4 rfl
 have cLQ5 := LQ.cell 5 rfl
 go_wp2_with fail
 clear hw0
 refine (unhide QO _ Bw0).mono ?_
 rintro _ w1 ⟨rfl, bb⟩
 clear cLC0 cLC1 cLQ0 cLQ1 cLQ2 cLQ3 cLQ4 cLQ5
 have Bw1 := Bw0.trans (bb.mono Bw0.size)
 have sw1 := bb.size
 replace LC := LC.below bb LC.lt
 replace LQ := LQ.below bb LQ.lt
 clear Bw0
 clear bb
 clear QO
 cases bq with
 | false =>
  clear LC LQ
  go_wp2
  go_ret
  exact ⟨_, rfl, by rw [unhide HF (by trivial)]; exact OB.mono (OB.lit _ _ rfl) Bw1.size, Bw1.alloc Bw1.size _⟩
 | true =>
  obtain ⟨hd, hqc⟩ := unhide HQ (by trivial)
  have hres := hide (unhide HT (by trivial))
  have T1 := hide fun w => specPut vo w
  have T2 := hide fun w => specPut lo w
  have T4 := hide fun w => specText d w (by omega)
  have T3 := hide fun w' (b : Below w1.heap.size w1 w') => unhide QB w' (Bw1.trans (b.mono Bw1.size))
  have l1 := putAns_len vo
  have l2 := putAns_len lo
  have l4 := textAns_le d
  generalize putAns vo = x1 at *
  generalize putAns lo = x2 at *
  generalize qcB n f v s ys = x3 at *
  generalize textAns d = x4 at *
  clear HQ QB HF HT
  have BW := hide Bw1
  have K : Hid (∀ w', Below w1.heap.size w1 w' → (fun w' => Below w1.heap.size w1 w' ∧ (w'.cell? ⟨w.heap.size, 0, none⟩ = some (.int .i64 n) ∧ w'.cell? ⟨w.heap.size, 1, none⟩ = some (.int .i64 f)) ∧ (w'.cell? ⟨w.heap.size + 1, 0, none⟩ = some (.int .i64 vo) ∧ w'.cell? ⟨w.heap.size + 1, 1, none⟩ = some (.int .i64 lo) ∧ w'.cell? ⟨w.heap.size + 1, 2, none⟩ = some (.int .i64 v) ∧ w'.cell? ⟨w.heap.size + 1, 3, none⟩ = some (.string s) ∧ w'.cell? ⟨w.heap.size + 1, 4, none⟩ = some (.slice ao ys.length ca) ∧ w'.cell? ⟨w.heap.size + 1, 5, none⟩ = some (.string d))) w') := hide fun w' hb' => ⟨hb', ⟨(LC.below hb' LC.lt).cell 0 rfl, (LC.below hb' LC.lt).cell 1 rfl⟩, ⟨(LQ.below hb' LQ.lt).cell 0 rfl, (LQ.below hb' LQ.lt).cell 1 rfl, (LQ.below hb' LQ.lt).cell 2 rfl, (LQ.below hb' LQ.lt).cell 3 rfl, (LQ.below hb' LQ.lt).cell 4 rfl, (LQ.below hb' LQ.lt).cell 5 rfl⟩⟩
  go_upto_region 3 with fail
  have bA : Below w1.heap.size w1 w1.drew := Below.drew (Below.refl _ _)
  refine wp_region_noPanic ?_
  refine wp_region_held_drew (S := fun w' => Below w1.heap.size w1 w' ∧ (w'.cell? ⟨w.heap.size, 0, none⟩ = some (.int .i64 n) ∧ w'.cell? ⟨w.heap.size, 1, none⟩ = some (.int .i64 f)) ∧ (w'.cell? ⟨w.heap.size + 1, 0, none⟩ = some (.int .i64 vo) ∧ w'.cell? ⟨w.heap.size + 1, 1, none⟩ = some (.int .i64 lo) ∧ w'.cell? ⟨w.heap.size + 1, 2, none⟩ = some (.int .i64 v) ∧ w'.cell? ⟨w.heap.size + 1, 3, none⟩ = some (.string s) ∧ w'.cell? ⟨w.heap.size + 1, 4, none⟩ = some (.slice ao ys.length ca) ∧ w'.cell? ⟨w.heap.size + 1, 5, none⟩ = some (.string d))) (by kernel_rfl) (unhide K _ bA) (fun hHeld => ?_)
  refine tk 0 11 (v := ?_) rfl (hy := .inl ⟨by rfl, ?_⟩) (h := ?_); rotate_left
  ·intro w hSw; (try dsimp only at hSw); go_simp; (try with_reducible rfl)
  simp only [pU]
  refine tk 3 14 (v := ?_) rfl (hy := .inl ⟨by rfl, ?_⟩) (h := ?_); rotate_left
  ·intro w hSw; (try dsimp only at hSw); go_simp; (try with_reducible rfl)
  simp only [pU]
  refine tk 1 12 (v := ?_) rfl (hy := .inl ⟨by rfl, ?_⟩) (h := ?_); rotate_left
  ·intro w hSw; (try dsimp only at hSw); go_simp; (try with_reducible rfl)
  simp only [pU]
  refine tk 4 15 (v := ?_) rfl (hy := .inl ⟨by rfl, ?_⟩) (h := ?_); rotate_left
  ·intro w hSw; (try dsimp only at hSw); go_simp; (try with_reducible rfl)
  simp only [pU]
  refine ready_at (i := 2) rfl (by kernel_rfl) (fun KK hKK => ?_)
  go_simp
  have hgo := bA
  refine (unhide T1 _).mono ?_
  rintro e wz3_1 ⟨u1, rfl, (o1 : OB _ _ u1 x1), bb⟩
  have bz1 : Below w1.heap.size w1 wz3_1 := bA.trans (bb.mono bA.size)
  replace o1 := o1.mono hgo.size
  obtain ⟨ao1, ko1, rfl⟩ := o1.form
  clear bA hgo bb
  clear hHeld
  refine hKK.out _ _ (unhide K _ bz1) (fun hHeld => ?_)
  clear hKK KK
  refine ready_at (i := 5) rfl (by kernel_rfl) (fun KK hKK => ?_)
  go_simp
  have hgo := bz1
  refine (unhide T2 _).mono ?_
  rintro e wz3_2 ⟨u2, rfl, (o2 : OB _ _ u2 x2), bb⟩
  have bz2 : Below w1.heap.size w1 wz3_2 := bz1.trans (bb.mono bz1.size)
  replace o1 := o1.below bb
  replace o2 := o2.mono hgo.size
  obtain ⟨ao2, ko2, rfl⟩ := o2.form
  clear bz1 hgo bb
  clear hHeld
  refine hKK.out _ _ (unhide K _ bz2) (fun hHeld => ?_)
  clear hKK KK
  refine ready_at (i := 6) rfl (by kernel_rfl) (fun KK hKK => ?_)
  have to1 := World.ownsRow.lt o1
  refine step_append_bytes rfl (.tmp 13) (.tmp 16) rfl (w1.heap.size) (.slice ao1 x1.length ko1) (.slice ao2 x2.length ko2) (x1) (x2) rfl rfl o1 (o2.pb (by omega)) (by omega) bz2.size ?_
  intro u3 wz3_3 o3 hgA _
  have bz3 : Below w1.heap.size w1 wz3_3 := bz2.grown hgA bz2.size (fun j hj => (to1 j hj).1)
  clear bz2 hgA to1
  clear hHeld
  refine hKK.out _ _ (unhide K _ bz3) (fun hHeld => ?_)
  clear hKK KK
  refine tk 7 5 (v := ?_) rfl (hy := .inl ⟨by rfl, ?_⟩) (h := ?_); rotate_left
  ·intro w hSw; (try dsimp only at hSw); go_simp; (try with_reducible rfl)
  simp only [Act.put, List.setIfInBounds_toArray]
  clear hHeld
  refine wpAnyH_done (by kernel_rfl) ?_ _
  refine NoPanic.normal ?_
  have bb := bz3
  have BB := bb
  have Bwz3_3 := Bw1.trans (bb.mono Bw1.size)
  have swz3_3 := bb.size
  replace LC := LC.below bb LC.lt
  replace LQ := LQ.below bb LQ.lt
  clear Bw1
  clear bb bz3 K
  have l0 : (x1 ++ x2).length ≤ 10 := by rw [List.length_append]; omega
  generalize x1 ++ x2 = x12 at *
  clear Bwz3_3 o1 o2 T1 T2 l1 l2
  obtain ⟨a3, k3, rfl⟩ := o3.form
  have O3 := hide o3
  have t3 := o3.lt
  clear o3
  have cLC0 := LC.cell 0 rfl
  have cLC1 := LC.cell 1 rfl
  have cLQ0 := LQ.cell 0 rfl
  have cLQ1 := LQ.cell 1 rfl
  have cLQ2 := LQ.cell 2 rfl
  have cLQ3 := LQ.cell 3 rfl
  have cLQ4 := LQ.cell 4 rfl
  have cLQ5 := LQ.cell 5 rfl
  have C3 := hide (unhide T3 wz3_3 BB)
  have HLQ := hide LQ
  clear LC LQ
  go_wp2_with fail
  clear cLC0 cLC1 cLQ0 cLQ1 cLQ2 cLQ3 cLQ4 cLQ5
  refine (unhide C3).mono ?_
  rintro e w5 ⟨u4, rfl, o4, b4⟩
  clear C3 T3
  replace O3 := hide ((unhide O3).below b4)
  have LQ := (unhide HLQ).below b4 (unhide HLQ).lt
  have B5 := BB.trans (b4.mono BB.size)
  obtain ⟨a4, k4, rfl⟩ := o4.form
  have P4 := hide (o4.pb (by omega))
  clear o4 b4 BB HLQ
  have HLQ := hide LQ
  clear LQ
  go_wp2_with (first | (at_builtin; refine append_bytes rfl _ _ rfl w1.heap.size (.slice a3 x12.length k3) (.slice a4 x3.length k4) x12 x3 rfl rfl (unhide O3) (unhide P4) (by omega) B5.size ?_; intro v6 w6 ho6 hg6 _; have K6 := kp_grown hg6; have O6 := hide ho6; have B6 := B5.grown hg6 B5.size (fun j hj => (t3 j hj).1); have LQ := (unhide HLQ).kp K6 (fun e => by have := t3 _ e; have := (unhide BW).size; omega); have cLQ5 := LQ.cell 5 rfl; clear ho6 hg6 K6)  | fail)
  refine (unhide T4 _).mono ?_
  rintro e w7 ⟨u7, rfl, o7, b7⟩
  clear cLQ5 LQ HLQ
  have t6 := (unhide O6).lt
  obtain ⟨a6, k6, rfl⟩ := (unhide O6).form
  have l6 : (x12 ++ x3).length ≤ 2010 := by rw [List.length_append]; omega
  replace O6 := hide ((unhide O6).below b7)
  have B7 := B6.trans (b7.mono B6.size)
  obtain ⟨a7, k7, rfl⟩ := o7.form
  have P7 := hide (o7.pb (by omega))
  clear o7 b7 B6 B5 O3 P4 t3
  generalize x12 ++ x3 = x0 at *
  go_wp2_with (first | (at_builtin; refine append_bytes rfl _ _ rfl w1.heap.size (.slice a6 x0.length k6) (.slice a7 x4.length k7) x0 x4 rfl rfl (unhide O6) (unhide P7) (by omega) B7.size ?_; intro v8 w8 ho8 hg8 _; have O8 := hide ho8; have B8 := B7.grown hg8 B7.size (fun j hj => (t6 j hj).1); clear ho8 hg8))
  go_ret
  exact ⟨_, rfl, by rw [unhide hres]; exact OB.mono (unhide O8) (unhide BW).size, (unhide BW).trans (B8.mono (unhide BW).size)⟩

theorem ten_piece (w : World) : PB (w.alloc (.cells #[.int .u8 10] 5)) (.slice (some ⟨w.heap.size, 0, none⟩) 1 1) [10] :=
 ⟨_, 1, rfl, .inr ⟨_, rfl, bnews_cells (g := w.heap.size) (off := 0) (xs := [10]) (fun k hk => by
  have hk0 : k = 0 := by simpa using hk
  subst hk0
  exact (loc_at w _ _ rfl).cell 0 rfl)⟩⟩
set_option maxHeartbeats 16000000 in
set_option maxRecDepth 100000 in
theorem specNoteBytes (n f vo lo v : Int) (s : ByteArray) (ao : Option Addr) (ca : Nat) (ys : List Int) (d : ByteArray) (w : World) (hs : s.size ≤ 1048576) (hd : d.size ≤ 1048576) (ha : RI w (.slice ao ys.length ca) ys) :
 Calls Tryz.prog 25 #[cv n f, sv vo lo v s (.slice ao ys.length ca) d] w fun e w' => ∃ u, e = .returned u ∧ OB w' w.heap.size u (notB n f vo lo v s ys d) ∧ Below w.heap.size w w' := by
 have QB := hide fun w' (b : Below w.heap.size w w') => specSafeBytes n f vo lo v s ao ca ys d w' hs hd (ha.below b (Nat.le_refl _))
 have HQ : Hid ((sokB n f vo lo v s ys d = true ∧ 0 < (safB n f vo lo v s ys d).length ∧ (safB n f vo lo v s ys d).length ≤ 4000) ∨ (sokB n f vo lo v s ys d = false ∧ safB n f vo lo v s ys d = [])) := hide (by
  cases h : sokB n f vo lo v s ys d with
  | true =>
   have a := rawT_len (n := n) (f := f) (t := (vo, lo, (v, s, ys), d)) h
   have b := rawT_pos (n := n) (f := f) (t := (vo, lo, (v, s, ys), d)) h
   left; unfold safB; rw [if_pos h]; exact ⟨rfl, b, a⟩
  | false => right; unfold safB; rw [h]; exact ⟨rfl, rfl⟩)
 obtain ⟨res, hres⟩ : ∃ r, notB n f vo lo v s ys d = r := ⟨_, rfl⟩
 rw [hres]
 have HF : Hid (sokB n f vo lo v s ys d = false → res = []) := hide fun h => by rw [← hres]; unfold notB; rw [h]; rfl
 have HT : Hid (sokB n f vo lo v s ys d = true → res = putAns (safB n f vo lo v s ys d).length ++ safB n f vo lo v s ys d ++ [10]) := hide fun h => by rw [← hres]; unfold notB safB; rw [h, if_pos rfl, if_pos rfl]; rfl
 generalize sokB n f vo lo v s ys d = bq at *
 generalize safB n f vo lo v s ys d = x2 at *
 clear ha hs hd hres
 obtain ⟨w0, hw0⟩ : ∃ w0, ((w.alloc (.cells #[.int .i64 n, .int .i64 f] 25)).alloc (.cells #[.int .i64 vo, .int .i64 lo, .int .i64 v, .string s, .slice ao ys.length ca, .string d] 30)) = w0 := ⟨_, rfl⟩
 have Bw0 : Below w.heap.size w w0 := hw0 ▸ ((Below.refl _ _).alloc (Nat.le_refl _) _).alloc (by simp) _
 have LC : Loc w0 (w.heap.size) #[.int .i64 n, .int .i64 f] := hw0 ▸ (loc_at (w) _ _ rfl).alloc _
 have LQ : Loc w0 (w.heap.size + 1) #[.int .i64 vo, .int .i64 lo, .int .i64 v, .string s, .slice ao ys.length ca, .string d] := hw0 ▸ loc_at (w.alloc _) _ _ (by simp)
 have zw0 : w.heap.size + 1 + 1 ≤ w0.heap.size := by rw [← hw0]; simp
 go_enter Tryz.func25, Tryz.ntmps25
 have cLC0 := LC.cell 0 rfl
 have cLC1 := LC.cell 1 rfl
 have cLQ0 := LQ.cell 0 rfl
 have cLQ1 := LQ.cell 1 rfl
 have cLQ2 := LQ.cell 2 rfl
 have cLQ3 := LQ.cell 3 rfl
 have cLQ4 := LQ.cell 4 rfl
 have cLQ5 := LQ.cell 5 rfl
 go_wp2_with fail
 clear hw0
 refine (unhide QB _ Bw0).mono ?_
 rintro _ w1 ⟨u2, rfl, o2, bb⟩
 clear cLC0 cLC1 cLQ0 cLQ1 cLQ2 cLQ3 cLQ4 cLQ5
 have Bw1 := Bw0.trans (bb.mono Bw0.size)
 have sw1 := bb.size
 replace LC := LC.below bb LC.lt
 replace LQ := LQ.below bb LQ.lt
 clear Bw0
 clear bb
 clear QB LC LQ
 obtain ⟨ao2, ko2, rfl⟩ := o2.form
 have BW := hide Bw1
 rcases unhide HQ with ⟨rfl, hp, h4⟩ | ⟨rfl, rfl⟩
 ·have hres := hide (unhide HT rfl)
  have O2 := hide o2
  have T1 := hide (specPut (x2.length : Int) w1)
  have l1 := putAns_len (x2.length : Int)
  clear HQ HF HT o2
  obtain ⟨m, hm⟩ : ∃ m, x2.length = m := ⟨_, rfl⟩
  rw [hm] at T1 l1 hres h4 hp O2 ⊢
  have Hm := hide hm
  clear hm
  generalize putAns (m : Int) = x1 at *
  have hm0 : ((m : Int) == 0) = false := by simp; omega
  go_wp2_with fail
  refine (unhide T1).mono ?_
  rintro e w5 ⟨u1, rfl, (o1 : OB _ _ u1 x1), b1⟩
  clear T1 hm0
  obtain ⟨a1, k1, rfl⟩ := o1.form
  have t1 := o1.lt
  have P2 := hide (((unhide O2).below b1).pb (by have := unhide Hm; omega))
  have O1 := hide o1
  clear o1 O2
  go_wp2_with (first | (at_builtin; refine append_bytes rfl _ _ rfl w1.heap.size (.slice a1 x1.length k1) (.slice ao2 m ko2) x1 x2 rfl rfl (unhide O1) (unhide P2) (by have := unhide Hm; omega) b1.size ?_; intro v6 w6 ho6 hg6 _; have t6 := OB.lt ho6; have O6 := hide ho6; have B6 := b1.grown hg6 b1.size (fun j hj => (t1 j hj).1); obtain ⟨a6, k6, rfl⟩ := OB.form ho6; have l6 : (x1 ++ x2).length ≤ 4005 := (by rw [List.length_append]; have := unhide Hm; omega); clear ho6 hg6; generalize x1 ++ x2 = x12 at *) | (at_builtin; refine append_bytes rfl _ _ rfl w1.heap.size (.slice a6 x12.length k6) (.slice (some ⟨w6.heap.size, 0, none⟩) 1 1) x12 [10] rfl rfl ((unhide O6).below (conf_below _ _)) (ten_piece _) (by simp only [List.length_cons, List.length_nil]; omega) (by have := B6.size; simp; omega) ?_; intro v8 w8 ho8 hg8 _; have O8 := hide ho8; have B8 := (B6.alloc B6.size _).grown hg8 (by have := B6.size; simp; omega) (fun j hj => (t6 j hj).1); clear ho8 hg8))
  go_ret
  exact ⟨_, rfl, by rw [unhide hres]; exact OB.mono (unhide O8) (unhide BW).size, (unhide BW).trans (B8.mono (unhide BW).size)⟩
 ·have hr := unhide HF rfl
  subst hr
  clear HQ HT HF o2
  go_wp2
  go_ret
  exact ⟨_, rfl, OB.mono (OB.lit _ _ rfl) Bw1.size, Bw1.alloc Bw1.size _⟩
end Go.Proofs.YtbigcmcliamenaaGreatDoor
