/- Texts that belong together: NoteSpecPut2, Mark, NoteAs, GetText. -/
import Derived.Test.YtcclbejpgiogaaaGreatDoorNBBF
import Derived.Deep.DeepCutAuto
import Derived.Laws.EntriesVeiled
import Derived.Test.YtcclbejpgiogaaaGreatDoorNBAA
import Derived.LaidEql
import Derived.RowKitTokens
import Derived.Test.YtcclbejpgiogaaaGreatDoorNBAK
set_option maxRecDepth 100000
set_option maxHeartbeats 16000000
namespace Go.Proofs.YtcclbejpgiogaaaGreatDoor
open Go.RowKit
set_option linter.unusedSectionVars false
variable [∀ (a b c d : Int), Decidable (Ok4 a b c d)]
variable [∀ (a b c d : Nat), Decidable (okN a b c d)]
variable [∀ (last : Int) (s : St), Decidable (GoodSt last s)]
variable [∀ (x : T4), Decidable (OkT x)]
variable [∀ (n : Int) (s : List Int), Decidable (OkL n s)]
variable [∀ (n f : Int), Decidable (COk n f)]

theorem specSafeBytes (n f vo lo v : Int) (s : ByteArray) (ao : Option Addr) (ca : Nat) (ys : List Int) (d : ByteArray) (w : World) (hs : s.size ≤ 1048576) (hd : d.size ≤ 1048576) (ha : RI w (.slice ao ys.length ca) ys) :
 Calls Tryz.prog 18 #[cv n f, sv vo lo v s (.slice ao ys.length ca) d] w fun e w' => ∃ u, e = .returned u ∧ OB w' w.heap.size u (safB n f vo lo v s ys d) ∧ Below w.heap.size w w' := by
 have QO := hide fun w' (b : Below w.heap.size w w') => specSafeOk n f vo lo v s ao ca ys d w' hs hd (ha.below b)
 have QB := hide fun w' (b : Below w.heap.size w w') => specQcBytes n f v s ao ca ys w' hs (ha.below b)
 have HQ : Hid (sokB n f vo lo v s ys d = true → d.size ≤ 1920 ∧ (qcB n f v s ys).length ≤ 2000) := hide fun h => by
  obtain ⟨h1, _, h3, h4⟩ := sok_done h
  obtain ⟨_, a, b, _⟩ := qok_small h3
  refine ⟨name_len h4, ?_⟩
  have := qcRaw_len v s ys
  unfold qcB; rw [if_pos h3]; omega
 obtain ⟨res, hres⟩ : ∃ r, safB n f vo lo v s ys d = r := ⟨_, rfl⟩
 rw [hres]
 have HF : Hid (sokB n f vo lo v s ys d = false → res = []) := hide fun h => by rw [← hres]; unfold safB; rw [h]; rfl
 have HT : Hid (sokB n f vo lo v s ys d = true → res = putAns vo ++ putAns lo ++ qcB n f v s ys ++ textAns d) := hide fun h => by rw [← hres]; unfold safB safRaw qcB; rw [h, if_pos rfl, if_pos (sok_done h).2.2.1]
 generalize sokB n f vo lo v s ys d = bq at *
 clear ha hs hd hres
 obtain ⟨w0, hw0⟩ : ∃ w0, ((w.alloc (.cells #[.int .i64 n, .int .i64 f] 25)).alloc (.cells #[.int .i64 vo, .int .i64 lo, .int .i64 v, .string s, .slice ao ys.length ca, .string d] 30)) = w0 := ⟨_, rfl⟩
 have Bw0 : Below w.heap.size w w0 := hw0 ▸ ((Below.refl _ _).alloc (Nat.le_refl _) _).alloc (by simp) _
 have LC : Loc w0 (w.heap.size) #[.int .i64 n, .int .i64 f] := hw0 ▸ (loc_at (w) _ _ rfl).alloc _
 have LQ : Loc w0 (w.heap.size + 1) #[.int .i64 vo, .int .i64 lo, .int .i64 v, .string s, .slice ao ys.length ca, .string d] := hw0 ▸ loc_at (w.alloc _) _ _ (by simp)
 have zw0 : w.heap.size + 1 + 1 ≤ w0.heap.size := by rw [← hw0]; simp
 go_enter Tryz.func18, Tryz.ntmps18
 have cLC0 := LC.cell 0 rfl
 have cLC1 := LC.cell 1 rfl
 have cLQ0 := LQ.cell 0 rfl
 have cLQ1 := LQ.cell 1 rfl
 have cLQ2 := LQ.cell 2 rfl
 have cLQ3 := LQ.cell 3 rfl
 have cLQ4 := LQ.cell 4 rfl
 have cLQ5 := LQ.cell 5 rfl
 go_wp2_with fail
 clear hw0
 refine (QO.out _ Bw0).mono ?_
 rintro _ w1 ⟨rfl, bb⟩
 clear cLC0 cLC1 cLQ0 cLQ1 cLQ2 cLQ3 cLQ4 cLQ5
 have Bw1 := bu Bw0 bb
 have sw1 := bb.size
 replace LC := LC.up bb
 replace LQ := LQ.up bb
 clear Bw0
 clear bb
 clear QO
 cases bq with
 | false =>
  clear LC LQ
  go_wp2
  go_ret
  exact ⟨_, rfl, by rw [HF.out (by trivial)]; exact OB.mono (OB.lit _ _ rfl) Bw1.size, Bw1.alloc Bw1.size _⟩
 | true =>
  obtain ⟨hd, hqc⟩ := HQ.out (by trivial)
  have hres := hide (HT.out (by trivial))
  have T1 := hide fun w => specPut vo w
  have T2 := hide fun w => specPut lo w
  have T4 := hide fun w => specText d w (by omega)
  have T3 := hide fun w' (b : Below w1.heap.size w1 w') => QB.out w' (bu Bw1 b)
  have l1 := putAns_len vo
  have l2 := putAns_len lo
  have l4 := textAns_le d
  generalize putAns vo = x1 at *
  generalize putAns lo = x2 at *
  generalize qcB n f v s ys = x3 at *
  generalize textAns d = x4 at *
  clear HQ QB HF HT
  have BW := hide Bw1
  have K : Hid (∀ w', Below w1.heap.size w1 w' → (fun w' => Below w1.heap.size w1 w' ∧ (w'.cell? ⟨w.heap.size, 0, none⟩ = some (.int .i64 n) ∧ w'.cell? ⟨w.heap.size, 1, none⟩ = some (.int .i64 f)) ∧ (w'.cell? ⟨w.heap.size + 1, 0, none⟩ = some (.int .i64 vo) ∧ w'.cell? ⟨w.heap.size + 1, 1, none⟩ = some (.int .i64 lo) ∧ w'.cell? ⟨w.heap.size + 1, 2, none⟩ = some (.int .i64 v) ∧ w'.cell? ⟨w.heap.size + 1, 3, none⟩ = some (.string s) ∧ w'.cell? ⟨w.heap.size + 1, 4, none⟩ = some (.slice ao ys.length ca) ∧ w'.cell? ⟨w.heap.size + 1, 5, none⟩ = some (.string d))) w') := hide fun w' hb' => ⟨hb', ⟨(LC.up hb').cell 0 rfl, (LC.up hb').cell 1 rfl⟩, ⟨(LQ.up hb').cell 0 rfl, (LQ.up hb').cell 1 rfl, (LQ.up hb').cell 2 rfl, (LQ.up hb').cell 3 rfl, (LQ.up hb').cell 4 rfl, (LQ.up hb').cell 5 rfl⟩⟩
  go_upto_region 3 with fail
  have bA : Below w1.heap.size w1 w1.drew := Below.drew (Below.refl _ _)
  refine wrn K bA (fun hHeld => ?_)
  refine' tj 0 11 rfl ?_ ?_;rotate_left
  ·intro w h; (try dsimp only at h); go_simp; try with_reducible rfl
  simp only [pU]
  refine' tj 3 14 rfl ?_ ?_;rotate_left
  ·intro w h; (try dsimp only at h); go_simp; try with_reducible rfl
  simp only [pU]
  refine' tj 1 12 rfl ?_ ?_;rotate_left
  ·intro w h; (try dsimp only at h); go_simp; try with_reducible rfl
  simp only [pU]
  refine' tj 4 15 rfl ?_ ?_;rotate_left
  ·intro w h; (try dsimp only at h); go_simp; try with_reducible rfl
  simp only [pU]
  refine rd 2 rfl (fun KK hKK => ?_)
  go_simp
  have hgo := bA
  refine (T1.out _).mono ?_
  rintro e wz3_1 ⟨u1, rfl, (o1 : OB _ _ u1 x1), bb⟩
  have bz1 : Below w1.heap.size w1 wz3_1 := bu bA bb
  replace o1 := o1.mono hgo.size
  obtain ⟨ao1, ko1, rfl⟩ := o1.form
  clear bA hgo bb
  clear hHeld
  refine hKK.out _ _ (K.out _ bz1) (fun hHeld => ?_)
  clear hKK KK
  refine rd 5 rfl (fun KK hKK => ?_)
  go_simp
  have hgo := bz1
  refine (T2.out _).mono ?_
  rintro e wz3_2 ⟨u2, rfl, (o2 : OB _ _ u2 x2), bb⟩
  have bz2 : Below w1.heap.size w1 wz3_2 := bu bz1 bb
  replace o1 := o1.below bb
  replace o2 := o2.mono hgo.size
  obtain ⟨ao2, ko2, rfl⟩ := o2.form
  clear bz1 hgo bb
  clear hHeld
  refine hKK.out _ _ (K.out _ bz2) (fun hHeld => ?_)
  clear hKK KK
  refine rd 6 rfl (fun KK hKK => ?_)
  have to1 := World.ownsRow.lt o1
  refine step_append_bytes rfl (.tmp 13) (.tmp 16) rfl (w1.heap.size) (.slice ao1 x1.length ko1) (.slice ao2 x2.length ko2) (x1) (x2) rfl rfl o1 (o2.pb (by omega)) (by omega) bz2.size ?_
  intro u3 wz3_3 o3 hgA _
  have bz3 : Below w1.heap.size w1 wz3_3 := bz2.grown hgA bz2.size (fun j hj => (to1 j hj).1)
  clear bz2 hgA to1
  clear hHeld
  refine hKK.out _ _ (K.out _ bz3) (fun hHeld => ?_)
  clear hKK KK
  refine' tj 7 5 rfl ?_ ?_;rotate_left
  ·intro w h; (try dsimp only at h); go_simp; try with_reducible rfl
  simp only [Act.put, List.setIfInBounds_toArray]
  clear hHeld
  refine wdn ?_
  have bb := bz3
  have BB := bb
  have Bwz3_3 := bu Bw1 bb
  have swz3_3 := bb.size
  replace LC := LC.up bb
  replace LQ := LQ.up bb
  clear Bw1
  clear bb bz3 K
  have l0 : (x1 ++ x2).length ≤ 10 := by rw [List.length_append]; omega
  generalize x1 ++ x2 = x12 at *
  clear Bwz3_3 o1 o2 T1 T2 l1 l2
  obtain ⟨a3, k3, rfl⟩ := o3.form
  have O3 := hide o3
  have t3 := o3.lt
  clear o3
  have cLC0 := LC.cell 0 rfl
  have cLC1 := LC.cell 1 rfl
  have cLQ0 := LQ.cell 0 rfl
  have cLQ1 := LQ.cell 1 rfl
  have cLQ2 := LQ.cell 2 rfl
  have cLQ3 := LQ.cell 3 rfl
  have cLQ4 := LQ.cell 4 rfl
  have cLQ5 := LQ.cell 5 rfl
  have C3 := hide (T3.out wz3_3 BB)
  have HLQ := hide LQ
  clear LC LQ
  go_wp2_with fail
  clear cLC0 cLC1 cLQ0 cLQ1 cLQ2 cLQ3 cLQ4 cLQ5
  refine C3.out.mono ?_
  rintro e w5 ⟨u4, rfl, o4, b4⟩
  clear C3 T3
  replace O3 := hide (O3.out.below b4)
  have LQ := HLQ.out.below b4 HLQ.out.lt
  have B5 := bu BB b4
  obtain ⟨a4, k4, rfl⟩ := o4.form
  have P4 := hide (o4.pb (by omega))
  clear o4 b4 BB HLQ
  have HLQ := hide LQ
  clear LQ
  go_wp2_with (first | (at_builtin; refine append_bytes rfl _ _ rfl w1.heap.size (.slice a3 x12.length k3) (.slice a4 x3.length k4) x12 x3 rfl rfl O3.out P4.out (by omega) B5.size ?_; intro v6 w6 ho6 hg6 _; have K6 := kp_grown hg6; have O6 := hide ho6; have B6 := B5.grown hg6 B5.size (fun j hj => (t3 j hj).1); have LQ := HLQ.out.kp K6 (fun e => by have := t3 _ e; have := BW.out.size; omega); have cLQ5 := LQ.cell 5 rfl; clear ho6 hg6 K6)  | fail)
  refine (T4.out _).mono ?_
  rintro e w7 ⟨u7, rfl, o7, b7⟩
  clear cLQ5 LQ HLQ
  have t6 := O6.out.lt
  obtain ⟨a6, k6, rfl⟩ := O6.out.form
  have l6 : (x12 ++ x3).length ≤ 2010 := by rw [List.length_append]; omega
  replace O6 := hide (O6.out.below b7)
  have B7 := bu B6 b7
  obtain ⟨a7, k7, rfl⟩ := o7.form
  have P7 := hide (o7.pb (by omega))
  clear o7 b7 B6 B5 O3 P4 t3
  generalize x12 ++ x3 = x0 at *
  go_wp2_with (first | (at_builtin; refine append_bytes rfl _ _ rfl w1.heap.size (.slice a6 x0.length k6) (.slice a7 x4.length k7) x0 x4 rfl rfl O6.out P7.out (by omega) B7.size ?_; intro v8 w8 ho8 hg8 _; have O8 := hide ho8; have B8 := B7.grown hg8 B7.size (fun j hj => (t6 j hj).1); clear ho8 hg8))
  go_ret
  exact ⟨_, rfl, by rw [hres.out]; exact OB.mono O8.out BW.out.size, BW.out.trans (B8.mono BW.out.size)⟩

theorem ten_piece (w : World) : PB (w.alloc (.cells #[.int .u8 10] 5)) (.slice (some ⟨w.heap.size, 0, none⟩) 1 1) [10] :=
 ⟨_, 1, rfl, .inr ⟨_, rfl, bnews_cells (g := w.heap.size) (off := 0) (xs := [10]) (fun k hk => by
  have hk0 : k = 0 := by simpa using hk
  subst hk0
  exact (loc_at w _ _ rfl).cell 0 rfl)⟩⟩
theorem specNoteBytes (n f vo lo v : Int) (s : ByteArray) (ao : Option Addr) (ca : Nat) (ys : List Int) (d : ByteArray) (w : World) (hs : s.size ≤ 1048576) (hd : d.size ≤ 1048576) (ha : RI w (.slice ao ys.length ca) ys) :
 Calls Tryz.prog 19 #[cv n f, sv vo lo v s (.slice ao ys.length ca) d] w fun e w' => ∃ u, e = .returned u ∧ OB w' w.heap.size u (notB n f vo lo v s ys d) ∧ Below w.heap.size w w' := by
 have QB := hide fun w' (b : Below w.heap.size w w') => specSafeBytes n f vo lo v s ao ca ys d w' hs hd (ha.below b)
 have HQ : Hid ((sokB n f vo lo v s ys d = true ∧ 0 < (safB n f vo lo v s ys d).length ∧ (safB n f vo lo v s ys d).length ≤ 4000) ∨ (sokB n f vo lo v s ys d = false ∧ safB n f vo lo v s ys d = [])) := hide (by
  cases h : sokB n f vo lo v s ys d with
  | true =>
   have a := rawT_len (n := n) (f := f) (t := (vo, lo, (v, s, ys), d)) h
   have b := rawT_pos (n := n) (f := f) (t := (vo, lo, (v, s, ys), d)) h
   left; unfold safB; rw [if_pos h]; exact ⟨rfl, b, a⟩
  | false => right; unfold safB; rw [h]; exact ⟨rfl, rfl⟩)
 obtain ⟨res, hres⟩ : ∃ r, notB n f vo lo v s ys d = r := ⟨_, rfl⟩
 rw [hres]
 have HF : Hid (sokB n f vo lo v s ys d = false → res = []) := hide fun h => by rw [← hres]; unfold notB; rw [h]; rfl
 have HT : Hid (sokB n f vo lo v s ys d = true → res = putAns (safB n f vo lo v s ys d).length ++ safB n f vo lo v s ys d ++ [10]) := hide fun h => by rw [← hres]; unfold notB safB; rw [h, if_pos rfl, if_pos rfl]; rfl
 generalize sokB n f vo lo v s ys d = bq at *
 generalize safB n f vo lo v s ys d = x2 at *
 clear ha hs hd hres
 obtain ⟨w0, hw0⟩ : ∃ w0, ((w.alloc (.cells #[.int .i64 n, .int .i64 f] 25)).alloc (.cells #[.int .i64 vo, .int .i64 lo, .int .i64 v, .string s, .slice ao ys.length ca, .string d] 30)) = w0 := ⟨_, rfl⟩
 have Bw0 : Below w.heap.size w w0 := hw0 ▸ ((Below.refl _ _).alloc (Nat.le_refl _) _).alloc (by simp) _
 have LC : Loc w0 (w.heap.size) #[.int .i64 n, .int .i64 f] := hw0 ▸ (loc_at (w) _ _ rfl).alloc _
 have LQ : Loc w0 (w.heap.size + 1) #[.int .i64 vo, .int .i64 lo, .int .i64 v, .string s, .slice ao ys.length ca, .string d] := hw0 ▸ loc_at (w.alloc _) _ _ (by simp)
 have zw0 : w.heap.size + 1 + 1 ≤ w0.heap.size := by rw [← hw0]; simp
 go_enter Tryz.func19, Tryz.ntmps19
 have cLC0 := LC.cell 0 rfl
 have cLC1 := LC.cell 1 rfl
 have cLQ0 := LQ.cell 0 rfl
 have cLQ1 := LQ.cell 1 rfl
 have cLQ2 := LQ.cell 2 rfl
 have cLQ3 := LQ.cell 3 rfl
 have cLQ4 := LQ.cell 4 rfl
 have cLQ5 := LQ.cell 5 rfl
 go_wp2_with fail
 clear hw0
 refine (QB.out _ Bw0).mono ?_
 rintro _ w1 ⟨u2, rfl, o2, bb⟩
 clear cLC0 cLC1 cLQ0 cLQ1 cLQ2 cLQ3 cLQ4 cLQ5
 have Bw1 := bu Bw0 bb
 have sw1 := bb.size
 replace LC := LC.up bb
 replace LQ := LQ.up bb
 clear Bw0
 clear bb
 clear QB LC LQ
 obtain ⟨ao2, ko2, rfl⟩ := o2.form
 have BW := hide Bw1
 rcases HQ.out with ⟨rfl, hp, h4⟩ | ⟨rfl, rfl⟩
 ·have hres := hide (HT.out rfl)
  have O2 := hide o2
  have T1 := hide (specPut (x2.length : Int) w1)
  have l1 := putAns_len (x2.length : Int)
  clear HQ HF HT o2
  obtain ⟨m, hm⟩ : ∃ m, x2.length = m := ⟨_, rfl⟩
  rw [hm] at T1 l1 hres h4 hp O2 ⊢
  have Hm := hide hm
  clear hm
  generalize putAns (m : Int) = x1 at *
  have hm0 : ((m : Int) == 0) = false := by simp; omega
  go_wp2_with fail
  refine T1.out.mono ?_
  rintro e w5 ⟨u1, rfl, (o1 : OB _ _ u1 x1), b1⟩
  clear T1 hm0
  obtain ⟨a1, k1, rfl⟩ := o1.form
  have t1 := o1.lt
  have P2 := hide ((O2.out.below b1).pb (by have := Hm.out; omega))
  have O1 := hide o1
  clear o1 O2
  go_wp2_with (first | (at_builtin; refine append_bytes rfl _ _ rfl w1.heap.size (.slice a1 x1.length k1) (.slice ao2 m ko2) x1 x2 rfl rfl O1.out P2.out (by have := Hm.out; omega) b1.size ?_; intro v6 w6 ho6 hg6 _; have t6 := OB.lt ho6; have O6 := hide ho6; have B6 := b1.grown hg6 b1.size (fun j hj => (t1 j hj).1); obtain ⟨a6, k6, rfl⟩ := OB.form ho6; have l6 : (x1 ++ x2).length ≤ 4005 := (by rw [List.length_append]; have := Hm.out; omega); clear ho6 hg6; generalize x1 ++ x2 = x12 at *) | (at_builtin; refine append_bytes rfl _ _ rfl w1.heap.size (.slice a6 x12.length k6) (.slice (some ⟨w6.heap.size, 0, none⟩) 1 1) x12 [10] rfl rfl (O6.out.below (conf_below _ _)) (ten_piece _) (by simp only [List.length_cons, List.length_nil]; omega) (by have := B6.size; simp; omega) ?_; intro v8 w8 ho8 hg8 _; have O8 := hide ho8; have B8 := (B6.alloc B6.size _).grown hg8 (by have := B6.size; simp; omega) (fun j hj => (t6 j hj).1); clear ho8 hg8))
  go_ret
  exact ⟨_, rfl, by rw [hres.out]; exact OB.mono O8.out BW.out.size, BW.out.trans (B8.mono BW.out.size)⟩
 ·have hr := HF.out rfl
  subst hr
  clear HQ HT HF o2
  go_wp2
  go_ret
  exact ⟨_, rfl, OB.mono (OB.lit _ _ rfl) Bw1.size, Bw1.alloc Bw1.size _⟩
end Go.Proofs.YtcclbejpgiogaaaGreatDoor
namespace Go.Proofs.YtcclbejpgiogaaaGreatDoor
open Go.RowKit

def marks (k0 n : Nat) : List Int := (List.range n).map fun (i : Nat) => ((k0 : Int) + (i : Int)) % 256
def mixed (k0 k : Nat) (vs : List Value) : List Value := (marks k0 k).map (Value.int .u8) ++ vs.drop k
end Go.Proofs.YtcclbejpgiogaaaGreatDoor
namespace Go.Proofs.YtcclbejpgiogaaaGreatDoor
open Go.RowKit Go.Extern

abbrev lackV (n : Int) : Value := .iface 102 (.agg #[.int .i64 n])
def EnvT (w : World) : Prop := w.cell? ⟨0, 0, none⟩ = some (.iface 166 (.agg #[.pointer (some ⟨8, 60, none⟩)]))
theorem EnvT.below {w w' : World} (h : EnvT w) (hb : Below w.heap.size w w') : EnvT w' := (hb.cell (cell_lt h)).trans h
theorem EnvT.kp {w w' : World} {X : Nat → Prop} (h : EnvT w) (k : Kp w w' X) (hx : ¬ X 0) : EnvT w' := k.cell h hx

theorem as_nil (t : Value) (w : World) :
 Calls Tryz.prog 70 #[.nilIface, t] w fun e w' => e = .returned (.bool false) ∧ w' = w := by
 go_enter Tryz.func70, Tryz.ntmps70
 go_wp2
 go_ret
 exact ⟨rfl, rfl⟩

theorem Tryz.valueOfP (t : Addr) (w : World) : (ReflectliteValue.unpack (.iface 104 (.pointer (some t)))).run Tryz.prog w
 = .ok (.agg #[.pointer (some ⟨8, 104, none⟩), .pointer (some ⟨w.heap.size, 0, none⟩), .int .u64 150]) (w.alloc (.cells #[.pointer (some t)] 104)) := by kernel_rfl
theorem Tryz.typeP (a : Addr) (w : World) : (ReflectliteValue.methodAny (ReflectliteValue.valueError "reflectlite.Value.Type" 0) (fun t _ _ _ => ReflectliteType.toType t) #[.agg #[.pointer (some ⟨8, 104, none⟩), .pointer (some a), .int .u64 150]]).run Tryz.prog w
 = .ok (.iface 166 (.agg #[.pointer (some ⟨8, 104, none⟩)])) w := by kernel_rfl
theorem Tryz.methodKind (h : Value) (w : World) : (Go.method 381 166 (.agg #[h]) "Kind").run Tryz.prog w = .ok (206, h) w := by kernel_rfl
theorem Tryz.kindP (w : World) : ((ReflectliteType.abiMethod fun t => (fun a : Nat => Value.int IntKind.u8 (a : Int)) <$> Rtype.kind t) #[.pointer (some ⟨8, 104, none⟩)]).run Tryz.prog w = .ok (.int .u8 22) w := by kernel_rfl
theorem Tryz.kindL (w : World) : ((ReflectliteType.abiMethod fun t => (fun a : Nat => Value.int IntKind.u8 (a : Int)) <$> Rtype.kind t) #[.pointer (some ⟨8, 102, none⟩)]).run Tryz.prog w = .ok (.int .u8 25) w := by kernel_rfl
theorem Tryz.partsP (a : Addr) (w : World) : (ReflectliteValue.parts (.agg #[.pointer (some ⟨8, 104, none⟩), .pointer (some a), .int .u64 150])).run Tryz.prog w = .ok (some (104, a, 150)) w := by kernel_rfl
theorem Tryz.isNilP (a p : Addr) (W : World) (ha : W.cell? a = some (.pointer (some p))) :
 (ReflectliteValue.method (ReflectliteValue.valueError "reflectlite.Value.IsNil" 0) ReflectliteValue.isNil #[.agg #[.pointer (some ⟨8, 104, none⟩), .pointer (some a), .int .u64 150]]).run Tryz.prog W = .ok (.bool false) W := by
 have h1 := Tryz.partsP a W
 have h2 := Tryz.underlying104
 generalize Tryz.prog = P at *
 generalize (.agg #[.pointer (some ⟨8, 104, none⟩), .pointer (some a), .int .u64 150] : Value) = v at *
 conv => lhs; arg 2; whnf
 change Sem.run P (ReflectliteValue.parts v >>= _) W = _
 simp only [Sem.run_bind, h1]
 simp only [Result.andThen]
 simp [ReflectliteValue.isNil, loadVar, isAgg, underlying, h2, ha, Result.andThen]
theorem Tryz.methodElem (h : Value) (w : World) : (Go.method 381 166 (.agg #[h]) "Elem").run Tryz.prog w = .ok (220, .agg #[h]) w := by kernel_rfl
theorem Tryz.methodImplements (h : Value) (w : World) : (Go.method 381 166 (.agg #[h]) "Implements").run Tryz.prog w = .ok (221, .agg #[h]) w := by kernel_rfl
theorem Tryz.methodAssignableTo (h : Value) (w : World) : (Go.method 381 166 (.agg #[h]) "AssignableTo").run Tryz.prog w = .ok (218, .agg #[h]) w := by kernel_rfl
theorem Tryz.elemP (w : World) : (ReflectliteType.method ReflectliteType.elem #[.agg #[.pointer (some ⟨8, 104, none⟩)]]).run Tryz.prog w = .ok (.iface 166 (.agg #[.pointer (some ⟨8, 102, none⟩)])) w := by kernel_rfl
theorem Tryz.implementsL (w : World) : (ReflectliteType.relation "Implements" ReflectliteType.implements_ #[.agg #[.pointer (some ⟨8, 102, none⟩)], .iface 166 (.agg #[.pointer (some ⟨8, 60, none⟩)])]).run Tryz.prog w = .ok (.bool true) w := by kernel_rfl
theorem Tryz.typeOfL (v : Value) (w : World) : (ReflectliteType.typeOf #[.iface 102 v]).run Tryz.prog w = .ok (.iface 166 (.agg #[.pointer (some ⟨8, 102, none⟩)])) w := by kernel_rfl
theorem Tryz.assignableL (w : World) : (ReflectliteType.relation "AssignableTo" ReflectliteType.assignableTo #[.agg #[.pointer (some ⟨8, 102, none⟩)], .iface 166 (.agg #[.pointer (some ⟨8, 102, none⟩)])]).run Tryz.prog w = .ok (.bool true) w := by kernel_rfl
theorem Tryz.valueOfL (n : Int) (w : World) : (ReflectliteValue.unpack (.iface 102 (.agg #[.int .i64 n]))).run Tryz.prog w
 = .ok (.agg #[.pointer (some ⟨8, 102, none⟩), .pointer (some ⟨w.heap.size, 0, none⟩), .int .u64 153]) (w.alloc (.cells #[.int .i64 n] 102)) := by kernel_rfl
theorem Tryz.elemOfP (w : World) : (Rtype.elem? 104).run Tryz.prog w = .ok (some 102) w := by kernel_rfl
theorem Tryz.mkL (p : Addr) (w : World) : (ReflectliteValue.mk 102 p ReflectliteValue.flagAddr).run Tryz.prog w = .ok (.agg #[.pointer (some ⟨8, 102, none⟩), .pointer (some p), .int .u64 409]) w := by kernel_rfl
theorem Tryz.elemVP (a p : Addr) (W : World) (ha : W.cell? a = some (.pointer (some p))) :
 (ReflectliteValue.method (ReflectliteValue.valueError "reflectlite.Value.Elem" 0) ReflectliteValue.elem #[.agg #[.pointer (some ⟨8, 104, none⟩), .pointer (some a), .int .u64 150]]).run Tryz.prog W
  = .ok (.agg #[.pointer (some ⟨8, 102, none⟩), .pointer (some p), .int .u64 409]) W := by
 have h1 := Tryz.partsP a W
 have h2 := Tryz.underlying104
 have h3 := Tryz.elemOfP
 have h4 := Tryz.mkL
 generalize Tryz.prog = P at *
 generalize (.agg #[.pointer (some ⟨8, 104, none⟩), .pointer (some a), .int .u64 150] : Value) = v at *
 conv => lhs; arg 2; whnf
 change Sem.run P (ReflectliteValue.parts v >>= _) W = _
 simp only [Sem.run_bind, h1, Result.andThen]
 simp [ReflectliteValue.elem, loadVar, isAgg, underlying, h2, ha, Result.andThen, h3, h4]
theorem Tryz.partsLa (a : Addr) (w : World) : (ReflectliteValue.parts (.agg #[.pointer (some ⟨8, 102, none⟩), .pointer (some a), .int .u64 409])).run Tryz.prog w = .ok (some (102, a, 409)) w := by kernel_rfl
theorem Tryz.partsL (a : Addr) (w : World) : (ReflectliteValue.parts (.agg #[.pointer (some ⟨8, 102, none⟩), .pointer (some a), .int .u64 153])).run Tryz.prog w = .ok (some (102, a, 153)) w := by kernel_rfl
theorem Tryz.directL (w : World) : (Rtype.directlyAssignable 102 102).run Tryz.prog w = .ok true w := by kernel_rfl
theorem Tryz.sizeL (w : World) : (sizeOf 102).run Tryz.prog w = .ok 1 w := by kernel_rfl
theorem Tryz.isAggL (w : World) : (isAgg 102).run Tryz.prog w = .ok true w := by kernel_rfl
theorem Tryz.setL (g b : Nat) (n : Int) (old : Value) (W : World) (hb : W.cell? ⟨b, 0, none⟩ = some (.int .i64 n)) (ht : W.cell? ⟨g, 0, none⟩ = some old) (hf : W.frozen? ⟨g, 0, none⟩ = false) :
 (ReflectliteValue.set #[.agg #[.pointer (some ⟨8, 102, none⟩), .pointer (some ⟨g, 0, none⟩), .int .u64 409], .agg #[.pointer (some ⟨8, 102, none⟩), .pointer (some ⟨b, 0, none⟩), .int .u64 153]]).run Tryz.prog W
  = .ok (.tuple #[]) (W.setCell ⟨g, 0, none⟩ (.int .i64 n)) := by
 have h1 := Tryz.partsLa ⟨g, 0, none⟩ W
 have h2 := Tryz.partsL ⟨b, 0, none⟩ W
 have h3 := Tryz.isAggL
 have h4 := Tryz.sizeL
 have h5 := Tryz.directL
 generalize Tryz.prog = P at *
 generalize (.agg #[.pointer (some ⟨8, 102, none⟩), .pointer (some ⟨g, 0, none⟩), .int .u64 409] : Value) = v at *
 generalize (.agg #[.pointer (some ⟨8, 102, none⟩), .pointer (some ⟨b, 0, none⟩), .int .u64 153] : Value) = x at *
 conv => lhs; arg 2; whnf
 change Sem.run P (ReflectliteValue.parts v >>= _) W = _
 have h2' : Sem.run P (ReflectliteValue.parts (#[v, x].getLit 1 rfl (by simp))) W = _ := h2
 simp only [Sem.run_bind, h1, h2', Result.andThen]
 simp [loadCells, loadCellsFrom, ReflectliteValue.flagAddr, loadVar, h3, h4, hb, Result.andThen, h5, storeVar, Value.cells, storeCells, Addr.add]
 rw [run_store P W ⟨g, 0, none⟩ _ _ (by rfl)]
 simp [ht, hf]

theorem as_hit (n : Int) (g : Nat) (old : Value) (w : World) (hg : EnvT w) (hl : Loc w g #[old]) :
 Calls Tryz.prog 70 #[lackV n, .iface 104 (.pointer (some ⟨g, 0, none⟩))] w fun e w' => e = .returned (.bool true) ∧ Loc w' g #[.int .i64 n] ∧ Kp w w' (fun k => k = g) := by
 have h6 := @run_callFunc_extern Tryz.prog 100 _ (fun args => ReflectliteValue.unpack (args.getD 0 (.tuple #[]))) Tryz.func100 (by kernel_rfl) (by kernel_rfl) (by kernel_rfl) (by kernel_rfl)
 have h7 := @run_callFunc_extern Tryz.prog 101 _ (ReflectliteValue.methodAny (ReflectliteValue.valueError "reflectlite.Value.Type" 0) (fun t _ _ _ => ReflectliteType.toType t)) Tryz.func101 (by kernel_rfl) (by kernel_rfl) (by kernel_rfl) (by kernel_rfl)
 have h8 := @run_callFunc_extern Tryz.prog 102 _ (ReflectliteValue.method (ReflectliteValue.valueError "reflectlite.Value.IsNil" 0) ReflectliteValue.isNil) Tryz.func102 (by kernel_rfl) (by kernel_rfl) (by kernel_rfl) (by kernel_rfl)
 have h27 := @run_callFunc_extern Tryz.prog 206 _ (ReflectliteType.abiMethod fun t => do pure (.int .u8 (← Rtype.kind t))) Tryz.func206 (by kernel_rfl) (by kernel_rfl) (by kernel_rfl) (by kernel_rfl)
 have h37 := @run_callFunc_extern Tryz.prog 220 _ (ReflectliteType.method ReflectliteType.elem) Tryz.func220 (by kernel_rfl) (by kernel_rfl) (by kernel_rfl) (by kernel_rfl)
 have h38 := @run_callFunc_extern Tryz.prog 221 _ (ReflectliteType.relation "Implements" ReflectliteType.implements_) Tryz.func221 (by kernel_rfl) (by kernel_rfl) (by kernel_rfl) (by kernel_rfl)
 have h10 := @run_callFunc_extern Tryz.prog 120 _ ReflectliteType.typeOf Tryz.func120 (by kernel_rfl) (by kernel_rfl) (by kernel_rfl) (by kernel_rfl)
 have h35 := @run_callFunc_extern Tryz.prog 218 _ (ReflectliteType.relation "AssignableTo" ReflectliteType.assignableTo) Tryz.func218 (by kernel_rfl) (by kernel_rfl) (by kernel_rfl) (by kernel_rfl)
 have h11 := @run_callFunc_extern Tryz.prog 121 _ (ReflectliteValue.method (ReflectliteValue.valueError "reflectlite.Value.Elem" 0) ReflectliteValue.elem) Tryz.func121 (by kernel_rfl) (by kernel_rfl) (by kernel_rfl) (by kernel_rfl)
 have h12 := @run_callFunc_extern Tryz.prog 122 _ ReflectliteValue.set Tryz.func122 (by kernel_rfl) (by kernel_rfl) (by kernel_rfl) (by kernel_rfl)
 have tO := Tryz.typeOfL
 have mA := Tryz.methodAssignableTo
 have aL := Tryz.assignableL
 have vL := Tryz.valueOfL
 have f6 := Tryz.valueOfP
 have f7 := Tryz.typeP
 have mK := Tryz.methodKind
 have mE := Tryz.methodElem
 have mI := Tryz.methodImplements
 have kP := Tryz.kindP
 have kL := Tryz.kindL
 have eP := Tryz.elemP
 have iL := Tryz.implementsL
 have n8 := Tryz.isNilP ⟨w.heap.size, 0, none⟩ ⟨g, 0, none⟩ ((w.alloc (.cells #[.pointer (some ⟨g, 0, none⟩)] 104)).alloc (.cells #[.pointer (some ⟨8, 104, none⟩), .pointer (some ⟨w.heap.size, 0, none⟩), .int .u64 150] 138)) (by simp)
 have L4 : Loc ((((w.alloc (.cells #[.pointer (some ⟨g, 0, none⟩)] 104)).alloc (.cells #[.pointer (some ⟨8, 104, none⟩), .pointer (some ⟨w.heap.size, 0, none⟩), .int .u64 150] 138)).alloc (.cells #[.pointer (some ⟨8, 104, none⟩), .pointer (some ⟨w.heap.size, 0, none⟩), .int .u64 150] 138)).alloc (.cells #[.int .i64 n] 102)) g #[old] := (((hl.alloc _).alloc _).alloc _).alloc _
 have hg2 : ((w.alloc (.cells #[.pointer (some ⟨g, 0, none⟩)] 104)).alloc (.cells #[.pointer (some ⟨8, 104, none⟩), .pointer (some ⟨w.heap.size, 0, none⟩), .int .u64 150] 138)).cell? ⟨0, 0, none⟩ = some (.iface 166 (.agg #[.pointer (some ⟨8, 60, none⟩)])) := (hg.below ((Below.refl _ _).alloc (Nat.le_refl _) _)).below ((Below.refl _ _).alloc (Nat.le_refl _) _)
 have el := Tryz.elemVP ⟨w.heap.size, 0, none⟩ ⟨g, 0, none⟩ (((w.alloc (.cells #[.pointer (some ⟨g, 0, none⟩)] 104)).alloc (.cells #[.pointer (some ⟨8, 104, none⟩), .pointer (some ⟨w.heap.size, 0, none⟩), .int .u64 150] 138)).alloc (.cells #[.pointer (some ⟨8, 104, none⟩), .pointer (some ⟨w.heap.size, 0, none⟩), .int .u64 150] 138)) (by rw [World.cell?_alloc_lt _ _ ⟨w.heap.size, 0, none⟩ (by simp; omega)]; simp)
 have st := Tryz.setL g (w.heap.size + 1 + 1 + 1) n old ((((w.alloc (.cells #[.pointer (some ⟨g, 0, none⟩)] 104)).alloc (.cells #[.pointer (some ⟨8, 104, none⟩), .pointer (some ⟨w.heap.size, 0, none⟩), .int .u64 150] 138)).alloc (.cells #[.pointer (some ⟨8, 104, none⟩), .pointer (some ⟨w.heap.size, 0, none⟩), .int .u64 150] 138)).alloc (.cells #[.int .i64 n] 102)) (by rw [World.cell?_alloc_at _ _ _ _ (by simp)]; rfl) (L4.cell 0 rfl) (L4.frozen 0)
 go_enter Tryz.func70, Tryz.ntmps70
 go_wp2
 refine wp_loop_rounds 1 ?_
 rw [rounds_succ]
 go_wp2
 go_ret
 have K4 : Kp w ((((w.alloc (.cells #[.pointer (some ⟨g, 0, none⟩)] 104)).alloc (.cells #[.pointer (some ⟨8, 104, none⟩), .pointer (some ⟨w.heap.size, 0, none⟩), .int .u64 150] 138)).alloc (.cells #[.pointer (some ⟨8, 104, none⟩), .pointer (some ⟨w.heap.size, 0, none⟩), .int .u64 150] 138)).alloc (.cells #[.int .i64 n] 102)) (fun k => k = g) := Below.kpOf (((((Below.refl _ _).alloc (Nat.le_refl _) _).alloc (by simp) _).alloc (by simp; omega) _).alloc (by simp; omega) _) _
 exact ⟨rfl, L4.set 0 _ rfl, K4.trans (set_kp _ _ _ _)⟩
end Go.Proofs.YtcclbejpgiogaaaGreatDoor
namespace Go.Proofs.YtcclbejpgiogaaaGreatDoor
open Go.RowKit

theorem textClo_some (B : Nat) (v : Value) (xs : List Int) (p : Int) (s : ByteArray) (q : Int) (x y : Value) (u : TypeId) (pv : Value) (w : World) (h : RB w v xs) (hb : Bytes xs) (he : w.cell? ⟨1, 0, none⟩ = some (.iface u pv)) (hr : Hid (getText xs p = some (s, q)))
 (h0 : w.cell? ⟨B, 0, none⟩ = some v) (h1 : w.cell? ⟨B + 1, 0, none⟩ = some (.int .i64 p)) (h2 : w.cell? ⟨B + 2, 0, none⟩ = some x) (h3 : w.cell? ⟨B + 3, 0, none⟩ = some y)
 (f2 : w.frozen? ⟨B + 2, 0, none⟩ = false) (f3 : w.frozen? ⟨B + 3, 0, none⟩ = false) :
 Calls Tryz.prog 118 #[.pointer (some ⟨B, 0, none⟩), .pointer (some ⟨B + 1, 0, none⟩), .pointer (some ⟨B + 2, 0, none⟩), .pointer (some ⟨B + 3, 0, none⟩)] w fun e w' =>
  e = .returned (.tuple #[]) ∧ w' = (w.setCell ⟨B + 2, 0, none⟩ (.string s)).setCell ⟨B + 3, 0, none⟩ (.int .i64 q) := by
 go_enter Tryz.func118, Tryz.ntmps118
 go_wp2_with fail
 refine (readText_yes v xs p s q u pv _ h hb he hr.out).mono ?_
 rintro e w' ⟨rfl, rfl⟩
 go_wp2
 go_end0
 exact ⟨rfl, rfl⟩

theorem textClo_none (B : Nat) (v : Value) (xs : List Int) (p : Int) (u : TypeId) (pv : Value) (w : World) (h : RB w v xs) (hb : Bytes xs) (he : w.cell? ⟨1, 0, none⟩ = some (.iface u pv)) (hr : Hid (getText xs p = none))
 (h0 : w.cell? ⟨B, 0, none⟩ = some v) (h1 : w.cell? ⟨B + 1, 0, none⟩ = some (.int .i64 p)) :
 Calls Tryz.prog 118 #[.pointer (some ⟨B, 0, none⟩), .pointer (some ⟨B + 1, 0, none⟩), .pointer (some ⟨B + 2, 0, none⟩), .pointer (some ⟨B + 3, 0, none⟩)] w fun e w' =>
  e = .panicked [{ v := .iface u pv, recovered := false }] ∧ w' = w := by
 go_enter Tryz.func118, Tryz.ntmps118
 go_wp2_with fail
 refine (readText_no v xs p u pv _ h hb he hr.out).mono ?_
 rintro e w' ⟨rfl, rfl⟩
 go_wp2
 exact ⟨rfl, rfl, rfl⟩

abbrev tboxes (w : World) (v : Value) (p : Int) : World := (((w.alloc (.cells #[v] 22)).alloc (.cells #[.int .i64 p] 3)).alloc (.cells #[.string ⟨#[]⟩] 9)).alloc (.cells #[.int .i64 0] 3)
theorem tboxes_below (w : World) (v : Value) (p : Int) : Below w.heap.size w (tboxes w v p) :=
 ((((Below.refl _ _).alloc (Nat.le_refl _) _).alloc (by simp) _).alloc (by simp; omega) _).alloc (by simp; omega) _
theorem tboxes_size (w : World) (v : Value) (p : Int) : (tboxes w v p).heap.size = w.heap.size + 4 := by simp
theorem tboxes_ok (w : World) (v : Value) (p : Int) (o : Obj) :
 ((tboxes w v p).alloc o).cell? ⟨w.heap.size, 0, none⟩ = some v ∧ ((tboxes w v p).alloc o).cell? ⟨w.heap.size + 1, 0, none⟩ = some (.int .i64 p) ∧ ((tboxes w v p).alloc o).cell? ⟨w.heap.size + 2, 0, none⟩ = some (.string ⟨#[]⟩) ∧ ((tboxes w v p).alloc o).cell? ⟨w.heap.size + 3, 0, none⟩ = some (.int .i64 0) ∧
 ((tboxes w v p).alloc o).frozen? ⟨w.heap.size + 2, 0, none⟩ = false ∧ ((tboxes w v p).alloc o).frozen? ⟨w.heap.size + 3, 0, none⟩ = false := by
 simp [tboxes, go_sem]

theorem rdText_some (v : Value) (xs : List Int) (p : Int) (s : ByteArray) (q : Int) (u : TypeId) (pv : Value) (w : World) (h : RB w v xs) (hb : Bytes xs) (he : w.cell? ⟨1, 0, none⟩ = some (.iface u pv)) (hr : Hid (getText xs p = some (s, q))) :
 Calls Tryz.prog 115 #[.func (.func 118) #[] #[.pointer (some ⟨w.heap.size, 0, none⟩), .pointer (some ⟨w.heap.size + 1, 0, none⟩), .pointer (some ⟨w.heap.size + 1 + 1, 0, none⟩), .pointer (some ⟨w.heap.size + 1 + 1 + 1, 0, none⟩)]] (tboxes w v p) fun e w' =>
  e = .returned (.bool true) ∧ w'.cell? ⟨w.heap.size + 1 + 1, 0, none⟩ = some (.string s) ∧ w'.cell? ⟨w.heap.size + 1 + 1 + 1, 0, none⟩ = some (.int .i64 q) ∧ Below w.heap.size w w' := by
 have hlt := cell_lt he
 obtain ⟨c0, c1, c2, c3, f2, f3⟩ := tboxes_ok w v p (.cells #[.bool false] 4)
 have hbl : Below w.heap.size w ((tboxes w v p).alloc (.cells #[.bool false] 4)) := (tboxes_below w v p).alloc (by rw [tboxes_size]; omega) _
 have hbs := tboxes_size w v p
 refine (readable_ok 118 _ (tboxes w v p) (fun w1 => w1 = (((tboxes w v p).alloc (.cells #[.bool false] 4)).setCell ⟨w.heap.size + 2, 0, none⟩ (.string s)).setCell ⟨w.heap.size + 3, 0, none⟩ (.int .i64 q)) (fun _ => by simp [go_sem]) ?_).mono ?_
 ·refine (textClo_some w.heap.size v xs p s q _ _ u pv _ (h.below hbl) hb ((hbl.cell hlt).trans he) hr c0 c1 c2 c3 f2 f3).mono ?_
  rintro e w' ⟨rfl, rfl⟩
  refine ⟨rfl, rfl, ?_, ?_⟩
  ·rw [World.cell?_setCell_other _ _ _ _ (by simp), World.cell?_setCell_other _ _ _ _ (by simp)]; exact alloc_new _ _ _
  ·rw [World.frozen?_setCell, World.frozen?_setCell]; exact alloc_free _ _ _
 ·rintro e w' ⟨rfl, w1, rfl, rfl⟩
  refine ⟨rfl, ?_, ?_, ?_⟩
  ·rw [World.cell?_setCell_other _ _ _ _ (by simp), World.cell?_setCell_other _ _ _ _ (by simp), World.cell?_setCell_same _ _ _ c2]
  ·rw [World.cell?_setCell_other _ _ _ _ (by simp)]
   exact World.cell?_setCell_same _ _ _ ((World.cell?_setCell_other _ _ _ _ (by simp)).trans c3)
  ·exact ((hbl.setCell (by simp) _).setCell (by simp) _).setCell (by rw [hbs]; simp) _

theorem getTextI_some (v : Value) (xs : List Int) (p : Int) (s : ByteArray) (q : Int) (u : TypeId) (pv : Value) (w : World) (h : RB w v xs) (hb : Bytes xs) (he : w.cell? ⟨1, 0, none⟩ = some (.iface u pv)) (hr : Hid (getText xs p = some (s, q))) :
 Calls Tryz.prog 99 #[v, .int .i64 p] w fun e w' => e = .returned (.tuple #[.string s, .int .i64 q, .bool true]) ∧ Below w.heap.size w w' := by
 have hmf : ∀ (fn : Fn) (first cap : Array Value) (w : World), (Instr.makeFunc fn first cap).run Tryz.prog w = .ok (.func fn first cap) w := fun _ _ _ _ => rfl
 have hrd := rdText_some v xs p s q u pv w h hb he hr
 obtain ⟨hl, ao, ca, rfl, _, h'⟩ := h
 clear h'
 go_enter Tryz.func99, Tryz.ntmps99
 go_wp2_with fail
 refine hrd.mono ?_
 rintro e w' ⟨rfl, c2, c3, bel⟩
 go_wp2_with fail
 go_quiet (fail)
 go_wp2
 go_ret3
 exact ⟨rfl, below_drewN bel _⟩

theorem rdText_none (v : Value) (xs : List Int) (p : Int) (u : TypeId) (pv : Value) (w : World) (h : RB w v xs) (hb : Bytes xs) (he : w.cell? ⟨1, 0, none⟩ = some (.iface u pv)) (hr : Hid (getText xs p = none)) :
 Calls Tryz.prog 115 #[.func (.func 118) #[] #[.pointer (some ⟨w.heap.size, 0, none⟩), .pointer (some ⟨w.heap.size + 1, 0, none⟩), .pointer (some ⟨w.heap.size + 1 + 1, 0, none⟩), .pointer (some ⟨w.heap.size + 1 + 1 + 1, 0, none⟩)]] (tboxes w v p) fun e w' =>
  e = .returned (.bool false) ∧ w'.cell? ⟨w.heap.size + 1 + 1, 0, none⟩ = some (.string ⟨#[]⟩) ∧ w'.cell? ⟨w.heap.size + 1 + 1 + 1, 0, none⟩ = some (.int .i64 0) ∧ Below w.heap.size w w' := by
 have hlt := cell_lt he
 obtain ⟨c0, c1, c2, c3, f2, f3⟩ := tboxes_ok w v p (.cells #[.bool false] 4)
 have hbl : Below w.heap.size w ((tboxes w v p).alloc (.cells #[.bool false] 4)) := (tboxes_below w v p).alloc (by rw [tboxes_size]; omega) _
 have hbs := tboxes_size w v p
 refine (readable_no 118 _ (tboxes w v p) (fun w1 => w1 = (tboxes w v p).alloc (.cells #[.bool false] 4)) u pv (fun _ => by simp [go_sem]) ?_).mono ?_
 ·refine (textClo_none w.heap.size v xs p u pv _ (h.below hbl) hb ((hbl.cell hlt).trans he) hr c0 c1).mono ?_
  rintro e w' ⟨rfl, rfl⟩
  exact ⟨rfl, rfl, alloc_new _ _ _, alloc_free _ _ _⟩
 ·rintro e w' ⟨rfl, w1, rfl, rfl⟩
  refine ⟨rfl, ?_, ?_, ?_⟩
  ·rw [World.cell?_setCell_other _ _ _ _ (by simp)]; exact c2
  ·rw [World.cell?_setCell_other _ _ _ _ (by simp)]; exact c3
  ·exact hbl.setCell (by rw [hbs]; simp) _

theorem getTextI_none (v : Value) (xs : List Int) (p : Int) (u : TypeId) (pv : Value) (w : World) (h : RB w v xs) (hb : Bytes xs) (he : w.cell? ⟨1, 0, none⟩ = some (.iface u pv)) (hr : Hid (getText xs p = none)) :
 Calls Tryz.prog 99 #[v, .int .i64 p] w fun e w' => e = .returned (.tuple #[.string ⟨#[]⟩, .int .i64 0, .bool false]) ∧ Below w.heap.size w w' := by
 have hmf : ∀ (fn : Fn) (first cap : Array Value) (w : World), (Instr.makeFunc fn first cap).run Tryz.prog w = .ok (.func fn first cap) w := fun _ _ _ _ => rfl
 have hrd := rdText_none v xs p u pv w h hb he hr
 obtain ⟨hl, ao, ca, rfl, _, h'⟩ := h
 clear h'
 go_enter Tryz.func99, Tryz.ntmps99
 go_wp2_with fail
 refine hrd.mono ?_
 rintro e w' ⟨rfl, c2, c3, bel⟩
 go_wp2_with fail
 go_quiet (fail)
 go_wp2
 go_ret3
 exact ⟨rfl, below_drewN bel _⟩

def tans1 (r : Option (ByteArray × Int)) : ByteArray := match r with | some x => x.1 | none => ⟨#[]⟩
def tans2 (r : Option (ByteArray × Int)) : Int := match r with | some x => x.2 | none => 0
end Go.Proofs.YtcclbejpgiogaaaGreatDoor
