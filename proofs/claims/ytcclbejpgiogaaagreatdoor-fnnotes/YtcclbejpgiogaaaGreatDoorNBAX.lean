/- MayVote and Vote of the program and of the specification. -/
import Derived.Test.YtcclbejpgiogaaaGreatDoorNBAV
import Derived.Test.YtcclbejpgiogaaaGreatDoorNBAT
set_option maxRecDepth 100000
set_option maxHeartbeats 16000000
namespace Go.Proofs.YtcclbejpgiogaaaGreatDoor
open Go.RowKit
set_option linter.unusedSectionVars false
variable [∀ (a b c d : Int), Decidable (Ok4 a b c d)]
variable [∀ (a b c d : Nat), Decidable (okN a b c d)]
variable [∀ (last : Int) (s : St), Decidable (GoodSt last s)]
variable [∀ (x : T4), Decidable (OkT x)]
variable [∀ (n : Int) (s : List Int), Decidable (OkL n s)]
variable [∀ (n f : Int), Decidable (COk n f)]

theorem specMayVote (n f : Int) (vo lo v : Int) (s : ByteArray) (ao : Option Addr) (ca : Nat) (xs : List Int) (d : ByteArray) (m : ByteArray) (v' : Int) (s' : ByteArray) (bo : Option Addr) (cb : Nat) (ys : List Int) (w : World) (hs : s.size ≤ 1048576) (hd : d.size ≤ 1048576) (hm : m.size ≤ 1048576) (hs' : s'.size ≤ 1048576) (ha : RI w (.slice ao xs.length ca) xs) (hb : RI w (.slice bo ys.length cb) ys) :
 Calls Tryz.prog 97 #[cv n f, sv vo lo v s (.slice ao xs.length ca) d, bv m v' s' (.slice bo ys.length cb)] w fun e w' => e = .returned (.bool (mayB n f vo lo v s xs d m v' s' ys)) ∧ Below w.heap.size w w' := by
 have SO := hide fun w' (h : Below w.heap.size w w') => specSafeOk n f vo lo v s ao ca xs d w' hs hd (ha.below h)
 have BO := hide fun w' (h : Below w.heap.size w w') => specBlockOk n f m v' s' bo cb ys w' hm hs' (hb.below h)
 have VO := hide fun w' => specViewOf m w' (by omega)
 unfold mayB
 clear ha hb
 generalize sokB n f vo lo v s xs d = b1 at *
 generalize bokB n f m v' s' ys = b2 at *
 generalize viewAns m = vw at *
 cases b1
 ·simp only [Bool.false_and]
  obtain ⟨w0, hw0⟩ : ∃ w0, (((w.alloc (.cells #[.int .i64 n, .int .i64 f] 25)).alloc (.cells #[.int .i64 vo, .int .i64 lo, .int .i64 v, .string s, .slice ao xs.length ca, .string d] 30)).alloc (.cells #[.string m, .int .i64 v', .string s', .slice bo ys.length cb] 93)) = w0 := ⟨_, rfl⟩
  have Bw0 : Below w.heap.size w w0 := hw0 ▸ (((Below.refl _ _).alloc (Nat.le_refl _) _).alloc (by simp) _).alloc (by simp; omega) _
  have LC : Loc w0 (w.heap.size) #[.int .i64 n, .int .i64 f] := hw0 ▸ ((loc_at (w) _ _ rfl).alloc _).alloc _
  have LS : Loc w0 (w.heap.size + 1) #[.int .i64 vo, .int .i64 lo, .int .i64 v, .string s, .slice ao xs.length ca, .string d] := hw0 ▸ (loc_at (w.alloc _) _ _ (by simp)).alloc _
  have LB : Loc w0 (w.heap.size + 1 + 1) #[.string m, .int .i64 v', .string s', .slice bo ys.length cb] := hw0 ▸ loc_at ((w.alloc _).alloc _) _ _ (by simp)
  have zw0 : w.heap.size + 1 + 1 + 1 ≤ w0.heap.size := by rw [← hw0]; simp
  go_enter Tryz.func97, Tryz.ntmps97
  have K : Hid (∀ w', Below w0.heap.size w0 w' → (fun w' => Below w0.heap.size w0 w' ∧ (w'.cell? ⟨w.heap.size, 0, none⟩ = some (.int .i64 n) ∧ w'.cell? ⟨w.heap.size, 1, none⟩ = some (.int .i64 f)) ∧ (w'.cell? ⟨w.heap.size + 1, 0, none⟩ = some (.int .i64 vo) ∧ w'.cell? ⟨w.heap.size + 1, 1, none⟩ = some (.int .i64 lo) ∧ w'.cell? ⟨w.heap.size + 1, 2, none⟩ = some (.int .i64 v) ∧ w'.cell? ⟨w.heap.size + 1, 3, none⟩ = some (.string s) ∧ w'.cell? ⟨w.heap.size + 1, 4, none⟩ = some (.slice ao xs.length ca) ∧ w'.cell? ⟨w.heap.size + 1, 5, none⟩ = some (.string d)) ∧ (w'.cell? ⟨w.heap.size + 1 + 1, 0, none⟩ = some (.string m) ∧ w'.cell? ⟨w.heap.size + 1 + 1, 1, none⟩ = some (.int .i64 v') ∧ w'.cell? ⟨w.heap.size + 1 + 1, 2, none⟩ = some (.string s') ∧ w'.cell? ⟨w.heap.size + 1 + 1, 3, none⟩ = some (.slice bo ys.length cb))) w') := hide fun w' hb' => ⟨hb', ⟨(LC.up hb').cell 0 rfl, (LC.up hb').cell 1 rfl⟩, ⟨(LS.up hb').cell 0 rfl, (LS.up hb').cell 1 rfl, (LS.up hb').cell 2 rfl, (LS.up hb').cell 3 rfl, (LS.up hb').cell 4 rfl, (LS.up hb').cell 5 rfl⟩, ⟨(LB.up hb').cell 0 rfl, (LB.up hb').cell 1 rfl, (LB.up hb').cell 2 rfl, (LB.up hb').cell 3 rfl⟩⟩
  go_upto_region 1 with fail
  clear hw0
  have bA : Below w0.heap.size w0 w0.drew := Below.drew (Below.refl _ _)
  refine wrn K bA (fun hHeld => ?_)
  refine' tj 0 7 rfl ?_ ?_;rotate_left
  ·intro w h; (try dsimp only at h); go_simp; try with_reducible rfl
  simp only [pU]
  refine' tj 1 8 rfl ?_ ?_;rotate_left
  ·intro w h; (try dsimp only at h); go_simp; try with_reducible rfl
  simp only [pU]
  refine rd 2 rfl (fun KK hKK => ?_)
  go_simp
  have hgo := bA
  refine (SO.out _ (bu Bw0 hgo)).mono ?_
  rintro e wz1_1 ⟨rfl, bb⟩
  have bz1 : Below w0.heap.size w0 wz1_1 := bu bA bb
  clear bA hgo bb
  clear hHeld
  refine hKK.out _ _ (K.out _ bz1) (fun hHeld => ?_)
  clear hKK KK
  refine' tj 3 10 rfl ?_ ?_;rotate_left
  ·intro w h; (try dsimp only at h); go_simp; try with_reducible rfl
  simp only [pU]
  refine sk 4 11 rfl (h := ?_)
  simp only [pU]
  refine sk 5 12 rfl (h := ?_)
  simp only [pU]
  refine sk 6 13 rfl (h := ?_)
  simp only [pU]
  refine' tj 7 14 rfl ?_ ?_;rotate_left
  ·intro w h; (try dsimp only at h); go_simp; try with_reducible rfl
  simp only [pU]
  refine' tj 8 15 rfl ?_ ?_;rotate_left
  ·intro w h; (try dsimp only at h); go_simp; try with_reducible rfl
  simp only [pU]
  refine sk 9 16 rfl (h := ?_)
  simp only [pU]
  refine sk 12 19 rfl (h := ?_)
  simp only [pU]
  refine sk 10 17 rfl (h := ?_)
  simp only [pU]
  refine sk 13 20 rfl (h := ?_)
  simp only [pU]
  refine sk 11 18 rfl (h := ?_)
  simp only [pU]
  refine sk 14 21 rfl (h := ?_)
  simp only [pU]
  refine' tj 15 22 rfl ?_ ?_;rotate_left
  ·intro w h; (try dsimp only at h); go_simp; try with_reducible rfl
  simp only [pU]
  refine' tj 16 23 rfl ?_ ?_;rotate_left
  ·intro w h; (try dsimp only at h); go_simp; try with_reducible rfl
  simp only [pU]
  refine sk 17 24 rfl (h := ?_)
  simp only [pU]
  refine sk 20 27 rfl (h := ?_)
  simp only [pU]
  refine sk 18 25 rfl (h := ?_)
  simp only [pU]
  refine sk 21 28 rfl (h := ?_)
  simp only [pU]
  refine sk 19 26 rfl (h := ?_)
  simp only [pU]
  refine sk 22 29 rfl (h := ?_)
  simp only [pU]
  refine' tj 23 30 rfl ?_ ?_;rotate_left
  ·intro w h; (try dsimp only at h); go_simp; try with_reducible rfl
  simp only [pU]
  refine' tj 24 6 rfl ?_ ?_;rotate_left
  ·intro w h; (try dsimp only at h); go_simp; try with_reducible rfl
  simp only [pU]
  clear hHeld
  refine wdn ?_
  have bb := bz1
  have Bwz1_1 := bu Bw0 bb
  have swz1_1 := bb.size
  replace LC := LC.up bb
  replace LS := LS.up bb
  replace LB := LB.up bb
  clear Bw0
  clear bb bz1 K
  go_wp2
  go_ret
  exact ⟨rfl, Bwz1_1⟩
 ·simp only [Bool.true_and]
  cases b2
  ·simp only [Bool.false_and]
   obtain ⟨w0, hw0⟩ : ∃ w0, (((w.alloc (.cells #[.int .i64 n, .int .i64 f] 25)).alloc (.cells #[.int .i64 vo, .int .i64 lo, .int .i64 v, .string s, .slice ao xs.length ca, .string d] 30)).alloc (.cells #[.string m, .int .i64 v', .string s', .slice bo ys.length cb] 93)) = w0 := ⟨_, rfl⟩
   have Bw0 : Below w.heap.size w w0 := hw0 ▸ (((Below.refl _ _).alloc (Nat.le_refl _) _).alloc (by simp) _).alloc (by simp; omega) _
   have LC : Loc w0 (w.heap.size) #[.int .i64 n, .int .i64 f] := hw0 ▸ ((loc_at (w) _ _ rfl).alloc _).alloc _
   have LS : Loc w0 (w.heap.size + 1) #[.int .i64 vo, .int .i64 lo, .int .i64 v, .string s, .slice ao xs.length ca, .string d] := hw0 ▸ (loc_at (w.alloc _) _ _ (by simp)).alloc _
   have LB : Loc w0 (w.heap.size + 1 + 1) #[.string m, .int .i64 v', .string s', .slice bo ys.length cb] := hw0 ▸ loc_at ((w.alloc _).alloc _) _ _ (by simp)
   have zw0 : w.heap.size + 1 + 1 + 1 ≤ w0.heap.size := by rw [← hw0]; simp
   go_enter Tryz.func97, Tryz.ntmps97
   have K : Hid (∀ w', Below w0.heap.size w0 w' → (fun w' => Below w0.heap.size w0 w' ∧ (w'.cell? ⟨w.heap.size, 0, none⟩ = some (.int .i64 n) ∧ w'.cell? ⟨w.heap.size, 1, none⟩ = some (.int .i64 f)) ∧ (w'.cell? ⟨w.heap.size + 1, 0, none⟩ = some (.int .i64 vo) ∧ w'.cell? ⟨w.heap.size + 1, 1, none⟩ = some (.int .i64 lo) ∧ w'.cell? ⟨w.heap.size + 1, 2, none⟩ = some (.int .i64 v) ∧ w'.cell? ⟨w.heap.size + 1, 3, none⟩ = some (.string s) ∧ w'.cell? ⟨w.heap.size + 1, 4, none⟩ = some (.slice ao xs.length ca) ∧ w'.cell? ⟨w.heap.size + 1, 5, none⟩ = some (.string d)) ∧ (w'.cell? ⟨w.heap.size + 1 + 1, 0, none⟩ = some (.string m) ∧ w'.cell? ⟨w.heap.size + 1 + 1, 1, none⟩ = some (.int .i64 v') ∧ w'.cell? ⟨w.heap.size + 1 + 1, 2, none⟩ = some (.string s') ∧ w'.cell? ⟨w.heap.size + 1 + 1, 3, none⟩ = some (.slice bo ys.length cb))) w') := hide fun w' hb' => ⟨hb', ⟨(LC.up hb').cell 0 rfl, (LC.up hb').cell 1 rfl⟩, ⟨(LS.up hb').cell 0 rfl, (LS.up hb').cell 1 rfl, (LS.up hb').cell 2 rfl, (LS.up hb').cell 3 rfl, (LS.up hb').cell 4 rfl, (LS.up hb').cell 5 rfl⟩, ⟨(LB.up hb').cell 0 rfl, (LB.up hb').cell 1 rfl, (LB.up hb').cell 2 rfl, (LB.up hb').cell 3 rfl⟩⟩
   go_upto_region 1 with fail
   clear hw0
   have bA : Below w0.heap.size w0 w0.drew := Below.drew (Below.refl _ _)
   refine wrn K bA (fun hHeld => ?_)
   refine' tj 0 7 rfl ?_ ?_;rotate_left
   ·intro w h; (try dsimp only at h); go_simp; try with_reducible rfl
   simp only [pU]
   refine' tj 1 8 rfl ?_ ?_;rotate_left
   ·intro w h; (try dsimp only at h); go_simp; try with_reducible rfl
   simp only [pU]
   refine rd 2 rfl (fun KK hKK => ?_)
   go_simp
   have hgo := bA
   refine (SO.out _ (bu Bw0 hgo)).mono ?_
   rintro e wz1_1 ⟨rfl, bb⟩
   have bz1 : Below w0.heap.size w0 wz1_1 := bu bA bb
   clear bA hgo bb
   clear hHeld
   refine hKK.out _ _ (K.out _ bz1) (fun hHeld => ?_)
   clear hKK KK
   refine' tj 3 10 rfl ?_ ?_;rotate_left
   ·intro w h; (try dsimp only at h); go_simp; try with_reducible rfl
   simp only [pU]
   refine' tj 4 11 rfl ?_ ?_;rotate_left
   ·intro w h; (try dsimp only at h); go_simp; try with_reducible rfl
   simp only [pU]
   refine' tj 5 12 rfl ?_ ?_;rotate_left
   ·intro w h; (try dsimp only at h); go_simp; try with_reducible rfl
   simp only [pU]
   refine rd 6 rfl (fun KK hKK => ?_)
   go_simp
   have hgo := bz1
   refine (BO.out _ (bu Bw0 hgo)).mono ?_
   rintro e wz1_2 ⟨rfl, bb⟩
   have bz2 : Below w0.heap.size w0 wz1_2 := bu bz1 bb
   clear bz1 hgo bb
   clear hHeld
   refine hKK.out _ _ (K.out _ bz2) (fun hHeld => ?_)
   clear hKK KK
   refine' tj 7 14 rfl ?_ ?_;rotate_left
   ·intro w h; (try dsimp only at h); go_simp; try with_reducible rfl
   simp only [pU]
   refine' tj 8 15 rfl ?_ ?_;rotate_left
   ·intro w h; (try dsimp only at h); go_simp; try with_reducible rfl
   simp only [pU]
   refine sk 9 16 rfl (h := ?_)
   simp only [pU]
   refine sk 12 19 rfl (h := ?_)
   simp only [pU]
   refine sk 10 17 rfl (h := ?_)
   simp only [pU]
   refine sk 13 20 rfl (h := ?_)
   simp only [pU]
   refine sk 11 18 rfl (h := ?_)
   simp only [pU]
   refine sk 14 21 rfl (h := ?_)
   simp only [pU]
   refine' tj 15 22 rfl ?_ ?_;rotate_left
   ·intro w h; (try dsimp only at h); go_simp; try with_reducible rfl
   simp only [pU]
   refine' tj 16 23 rfl ?_ ?_;rotate_left
   ·intro w h; (try dsimp only at h); go_simp; try with_reducible rfl
   simp only [pU]
   refine sk 17 24 rfl (h := ?_)
   simp only [pU]
   refine sk 20 27 rfl (h := ?_)
   simp only [pU]
   refine sk 18 25 rfl (h := ?_)
   simp only [pU]
   refine sk 21 28 rfl (h := ?_)
   simp only [pU]
   refine sk 19 26 rfl (h := ?_)
   simp only [pU]
   refine sk 22 29 rfl (h := ?_)
   simp only [pU]
   refine' tj 23 30 rfl ?_ ?_;rotate_left
   ·intro w h; (try dsimp only at h); go_simp; try with_reducible rfl
   simp only [pU]
   refine' tj 24 6 rfl ?_ ?_;rotate_left
   ·intro w h; (try dsimp only at h); go_simp; try with_reducible rfl
   simp only [pU]
   clear hHeld
   refine wdn ?_
   have bb := bz2
   have Bwz1_2 := bu Bw0 bb
   have swz1_2 := bb.size
   replace LC := LC.up bb
   replace LS := LS.up bb
   replace LB := LB.up bb
   clear Bw0
   clear bb bz2 K
   go_wp2
   go_ret
   exact ⟨rfl, Bwz1_2⟩
  ·simp only [Bool.true_and]
   by_cases h1 : vo < vw
   ·have e1 : decide (vo < vw) = true := by simpa using h1
    rw [e1]
    simp only [Bool.true_and]
    by_cases h2 : lo ≤ v'
    ·have e2 : decide (lo ≤ v') = true := by simpa using h2
     rw [e2]
     clear h1 h2
     obtain ⟨w0, hw0⟩ : ∃ w0, (((w.alloc (.cells #[.int .i64 n, .int .i64 f] 25)).alloc (.cells #[.int .i64 vo, .int .i64 lo, .int .i64 v, .string s, .slice ao xs.length ca, .string d] 30)).alloc (.cells #[.string m, .int .i64 v', .string s', .slice bo ys.length cb] 93)) = w0 := ⟨_, rfl⟩
     have Bw0 : Below w.heap.size w w0 := hw0 ▸ (((Below.refl _ _).alloc (Nat.le_refl _) _).alloc (by simp) _).alloc (by simp; omega) _
     have LC : Loc w0 (w.heap.size) #[.int .i64 n, .int .i64 f] := hw0 ▸ ((loc_at (w) _ _ rfl).alloc _).alloc _
     have LS : Loc w0 (w.heap.size + 1) #[.int .i64 vo, .int .i64 lo, .int .i64 v, .string s, .slice ao xs.length ca, .string d] := hw0 ▸ (loc_at (w.alloc _) _ _ (by simp)).alloc _
     have LB : Loc w0 (w.heap.size + 1 + 1) #[.string m, .int .i64 v', .string s', .slice bo ys.length cb] := hw0 ▸ loc_at ((w.alloc _).alloc _) _ _ (by simp)
     have zw0 : w.heap.size + 1 + 1 + 1 ≤ w0.heap.size := by rw [← hw0]; simp
     go_enter Tryz.func97, Tryz.ntmps97
     have K : Hid (∀ w', Below w0.heap.size w0 w' → (fun w' => Below w0.heap.size w0 w' ∧ (w'.cell? ⟨w.heap.size, 0, none⟩ = some (.int .i64 n) ∧ w'.cell? ⟨w.heap.size, 1, none⟩ = some (.int .i64 f)) ∧ (w'.cell? ⟨w.heap.size + 1, 0, none⟩ = some (.int .i64 vo) ∧ w'.cell? ⟨w.heap.size + 1, 1, none⟩ = some (.int .i64 lo) ∧ w'.cell? ⟨w.heap.size + 1, 2, none⟩ = some (.int .i64 v) ∧ w'.cell? ⟨w.heap.size + 1, 3, none⟩ = some (.string s) ∧ w'.cell? ⟨w.heap.size + 1, 4, none⟩ = some (.slice ao xs.length ca) ∧ w'.cell? ⟨w.heap.size + 1, 5, none⟩ = some (.string d)) ∧ (w'.cell? ⟨w.heap.size + 1 + 1, 0, none⟩ = some (.string m) ∧ w'.cell? ⟨w.heap.size + 1 + 1, 1, none⟩ = some (.int .i64 v') ∧ w'.cell? ⟨w.heap.size + 1 + 1, 2, none⟩ = some (.string s') ∧ w'.cell? ⟨w.heap.size + 1 + 1, 3, none⟩ = some (.slice bo ys.length cb))) w') := hide fun w' hb' => ⟨hb', ⟨(LC.up hb').cell 0 rfl, (LC.up hb').cell 1 rfl⟩, ⟨(LS.up hb').cell 0 rfl, (LS.up hb').cell 1 rfl, (LS.up hb').cell 2 rfl, (LS.up hb').cell 3 rfl, (LS.up hb').cell 4 rfl, (LS.up hb').cell 5 rfl⟩, ⟨(LB.up hb').cell 0 rfl, (LB.up hb').cell 1 rfl, (LB.up hb').cell 2 rfl, (LB.up hb').cell 3 rfl⟩⟩
     go_upto_region 1 with fail
     clear hw0
     have bA : Below w0.heap.size w0 w0.drew := Below.drew (Below.refl _ _)
     refine wrn K bA (fun hHeld => ?_)
     refine' tj 0 7 rfl ?_ ?_;rotate_left
     ·intro w h; (try dsimp only at h); go_simp; try with_reducible rfl
     simp only [pU]
     refine' tj 1 8 rfl ?_ ?_;rotate_left
     ·intro w h; (try dsimp only at h); go_simp; try with_reducible rfl
     simp only [pU]
     refine rd 2 rfl (fun KK hKK => ?_)
     go_simp
     have hgo := bA
     refine (SO.out _ (bu Bw0 hgo)).mono ?_
     rintro e wz1_1 ⟨rfl, bb⟩
     have bz1 : Below w0.heap.size w0 wz1_1 := bu bA bb
     clear bA hgo bb
     clear hHeld
     refine hKK.out _ _ (K.out _ bz1) (fun hHeld => ?_)
     clear hKK KK
     refine' tj 3 10 rfl ?_ ?_;rotate_left
     ·intro w h; (try dsimp only at h); go_simp; try with_reducible rfl
     simp only [pU]
     refine' tj 4 11 rfl ?_ ?_;rotate_left
     ·intro w h; (try dsimp only at h); go_simp; try with_reducible rfl
     simp only [pU]
     refine' tj 5 12 rfl ?_ ?_;rotate_left
     ·intro w h; (try dsimp only at h); go_simp; try with_reducible rfl
     simp only [pU]
     refine rd 6 rfl (fun KK hKK => ?_)
     go_simp
     have hgo := bz1
     refine (BO.out _ (bu Bw0 hgo)).mono ?_
     rintro e wz1_2 ⟨rfl, bb⟩
     have bz2 : Below w0.heap.size w0 wz1_2 := bu bz1 bb
     clear bz1 hgo bb
     clear hHeld
     refine hKK.out _ _ (K.out _ bz2) (fun hHeld => ?_)
     clear hKK KK
     refine' tj 7 14 rfl ?_ ?_;rotate_left
     ·intro w h; (try dsimp only at h); go_simp; try with_reducible rfl
     simp only [pU]
     refine' tj 8 15 rfl ?_ ?_;rotate_left
     ·intro w h; (try dsimp only at h); go_simp; try with_reducible rfl
     simp only [pU]
     refine' tj 9 16 rfl ?_ ?_;rotate_left
     ·intro w h; (try dsimp only at h); go_simp; try with_reducible rfl
     simp only [pU]
     refine' tj 12 19 rfl ?_ ?_;rotate_left
     ·intro w h; (try dsimp only at h); go_simp; try with_reducible rfl
     simp only [pU]
     refine' tj 10 17 rfl ?_ ?_;rotate_left
     ·intro w h; (try dsimp only at h); go_simp; try with_reducible rfl
     simp only [pU]
     refine' tj 13 20 rfl ?_ ?_;rotate_left
     ·intro w h; (try dsimp only at h); go_simp; try with_reducible rfl
     simp only [pU]
     refine rd 11 rfl (fun KK hKK => ?_)
     go_simp
     have hgo := bz2
     refine (VO.out _).mono ?_
     rintro e wz1_3 ⟨rfl, bb⟩
     have bz3 : Below w0.heap.size w0 wz1_3 := bu bz2 bb
     clear bz2 hgo bb
     clear hHeld
     refine hKK.out _ _ (K.out _ bz3) (fun hHeld => ?_)
     clear hKK KK
     refine' tj 14 21 rfl ?_ ?_;rotate_left
     ·intro w h; (try dsimp only at h); go_simp; try with_reducible rfl
     simp only [pU]
     refine' tj 15 22 rfl ?_ ?_;rotate_left
     ·intro w h; (try dsimp only at h); go_simp; try with_reducible rfl
     simp only [pU]
     refine' tj 16 23 rfl ?_ ?_;rotate_left
     ·intro w h; (try dsimp only at h); go_simp; try with_reducible rfl
     simp only [pU]
     refine' tj 17 24 rfl ?_ ?_;rotate_left
     ·intro w h; (try dsimp only at h); go_simp; try with_reducible rfl
     simp only [pU]
     refine' tj 20 27 rfl ?_ ?_;rotate_left
     ·intro w h; (try dsimp only at h); go_simp; try with_reducible rfl
     simp only [pU]
     refine' tj 18 25 rfl ?_ ?_;rotate_left
     ·intro w h; (try dsimp only at h); go_simp; try with_reducible rfl
     simp only [pU]
     refine' tj 21 28 rfl ?_ ?_;rotate_left
     ·intro w h; (try dsimp only at h); go_simp; try with_reducible rfl
     simp only [pU]
     refine' tj 19 26 rfl ?_ ?_;rotate_left
     ·intro w h; (try dsimp only at h); go_simp; try with_reducible rfl
     simp only [pU]
     refine' tj 22 29 rfl ?_ ?_;rotate_left
     ·intro w h; (try dsimp only at h); go_simp; try with_reducible rfl
     simp only [pU]
     refine' tj 23 30 rfl ?_ ?_;rotate_left
     ·intro w h; (try dsimp only at h); go_simp; try with_reducible rfl
     simp only [pU]
     refine' tj 24 6 rfl ?_ ?_;rotate_left
     ·intro w h; (try dsimp only at h); go_simp; try with_reducible rfl
     simp only [pU]
     clear hHeld
     refine wdn ?_
     have bb := bz3
     have Bwz1_3 := bu Bw0 bb
     have swz1_3 := bb.size
     replace LC := LC.up bb
     replace LS := LS.up bb
     replace LB := LB.up bb
     clear Bw0
     clear bb bz3 K
     go_wp2
     go_ret
     exact ⟨rfl, Bwz1_3⟩
    ·have e2 : decide (lo ≤ v') = false := by simpa using h2
     rw [e2]
     clear h1 h2
     obtain ⟨w0, hw0⟩ : ∃ w0, (((w.alloc (.cells #[.int .i64 n, .int .i64 f] 25)).alloc (.cells #[.int .i64 vo, .int .i64 lo, .int .i64 v, .string s, .slice ao xs.length ca, .string d] 30)).alloc (.cells #[.string m, .int .i64 v', .string s', .slice bo ys.length cb] 93)) = w0 := ⟨_, rfl⟩
     have Bw0 : Below w.heap.size w w0 := hw0 ▸ (((Below.refl _ _).alloc (Nat.le_refl _) _).alloc (by simp) _).alloc (by simp; omega) _
     have LC : Loc w0 (w.heap.size) #[.int .i64 n, .int .i64 f] := hw0 ▸ ((loc_at (w) _ _ rfl).alloc _).alloc _
     have LS : Loc w0 (w.heap.size + 1) #[.int .i64 vo, .int .i64 lo, .int .i64 v, .string s, .slice ao xs.length ca, .string d] := hw0 ▸ (loc_at (w.alloc _) _ _ (by simp)).alloc _
     have LB : Loc w0 (w.heap.size + 1 + 1) #[.string m, .int .i64 v', .string s', .slice bo ys.length cb] := hw0 ▸ loc_at ((w.alloc _).alloc _) _ _ (by simp)
     have zw0 : w.heap.size + 1 + 1 + 1 ≤ w0.heap.size := by rw [← hw0]; simp
     go_enter Tryz.func97, Tryz.ntmps97
     have K : Hid (∀ w', Below w0.heap.size w0 w' → (fun w' => Below w0.heap.size w0 w' ∧ (w'.cell? ⟨w.heap.size, 0, none⟩ = some (.int .i64 n) ∧ w'.cell? ⟨w.heap.size, 1, none⟩ = some (.int .i64 f)) ∧ (w'.cell? ⟨w.heap.size + 1, 0, none⟩ = some (.int .i64 vo) ∧ w'.cell? ⟨w.heap.size + 1, 1, none⟩ = some (.int .i64 lo) ∧ w'.cell? ⟨w.heap.size + 1, 2, none⟩ = some (.int .i64 v) ∧ w'.cell? ⟨w.heap.size + 1, 3, none⟩ = some (.string s) ∧ w'.cell? ⟨w.heap.size + 1, 4, none⟩ = some (.slice ao xs.length ca) ∧ w'.cell? ⟨w.heap.size + 1, 5, none⟩ = some (.string d)) ∧ (w'.cell? ⟨w.heap.size + 1 + 1, 0, none⟩ = some (.string m) ∧ w'.cell? ⟨w.heap.size + 1 + 1, 1, none⟩ = some (.int .i64 v') ∧ w'.cell? ⟨w.heap.size + 1 + 1, 2, none⟩ = some (.string s') ∧ w'.cell? ⟨w.heap.size + 1 + 1, 3, none⟩ = some (.slice bo ys.length cb))) w') := hide fun w' hb' => ⟨hb', ⟨(LC.up hb').cell 0 rfl, (LC.up hb').cell 1 rfl⟩, ⟨(LS.up hb').cell 0 rfl, (LS.up hb').cell 1 rfl, (LS.up hb').cell 2 rfl, (LS.up hb').cell 3 rfl, (LS.up hb').cell 4 rfl, (LS.up hb').cell 5 rfl⟩, ⟨(LB.up hb').cell 0 rfl, (LB.up hb').cell 1 rfl, (LB.up hb').cell 2 rfl, (LB.up hb').cell 3 rfl⟩⟩
     go_upto_region 1 with fail
     clear hw0
     have bA : Below w0.heap.size w0 w0.drew := Below.drew (Below.refl _ _)
     refine wrn K bA (fun hHeld => ?_)
     refine' tj 0 7 rfl ?_ ?_;rotate_left
     ·intro w h; (try dsimp only at h); go_simp; try with_reducible rfl
     simp only [pU]
     refine' tj 1 8 rfl ?_ ?_;rotate_left
     ·intro w h; (try dsimp only at h); go_simp; try with_reducible rfl
     simp only [pU]
     refine rd 2 rfl (fun KK hKK => ?_)
     go_simp
     have hgo := bA
     refine (SO.out _ (bu Bw0 hgo)).mono ?_
     rintro e wz1_1 ⟨rfl, bb⟩
     have bz1 : Below w0.heap.size w0 wz1_1 := bu bA bb
     clear bA hgo bb
     clear hHeld
     refine hKK.out _ _ (K.out _ bz1) (fun hHeld => ?_)
     clear hKK KK
     refine' tj 3 10 rfl ?_ ?_;rotate_left
     ·intro w h; (try dsimp only at h); go_simp; try with_reducible rfl
     simp only [pU]
     refine' tj 4 11 rfl ?_ ?_;rotate_left
     ·intro w h; (try dsimp only at h); go_simp; try with_reducible rfl
     simp only [pU]
     refine' tj 5 12 rfl ?_ ?_;rotate_left
     ·intro w h; (try dsimp only at h); go_simp; try with_reducible rfl
     simp only [pU]
     refine rd 6 rfl (fun KK hKK => ?_)
     go_simp
     have hgo := bz1
     refine (BO.out _ (bu Bw0 hgo)).mono ?_
     rintro e wz1_2 ⟨rfl, bb⟩
     have bz2 : Below w0.heap.size w0 wz1_2 := bu bz1 bb
     clear bz1 hgo bb
     clear hHeld
     refine hKK.out _ _ (K.out _ bz2) (fun hHeld => ?_)
     clear hKK KK
     refine' tj 7 14 rfl ?_ ?_;rotate_left
     ·intro w h; (try dsimp only at h); go_simp; try with_reducible rfl
     simp only [pU]
     refine' tj 8 15 rfl ?_ ?_;rotate_left
     ·intro w h; (try dsimp only at h); go_simp; try with_reducible rfl
     simp only [pU]
     refine' tj 9 16 rfl ?_ ?_;rotate_left
     ·intro w h; (try dsimp only at h); go_simp; try with_reducible rfl
     simp only [pU]
     refine' tj 12 19 rfl ?_ ?_;rotate_left
     ·intro w h; (try dsimp only at h); go_simp; try with_reducible rfl
     simp only [pU]
     refine' tj 10 17 rfl ?_ ?_;rotate_left
     ·intro w h; (try dsimp only at h); go_simp; try with_reducible rfl
     simp only [pU]
     refine' tj 13 20 rfl ?_ ?_;rotate_left
     ·intro w h; (try dsimp only at h); go_simp; try with_reducible rfl
     simp only [pU]
     refine rd 11 rfl (fun KK hKK => ?_)
     go_simp
     have hgo := bz2
     refine (VO.out _).mono ?_
     rintro e wz1_3 ⟨rfl, bb⟩
     have bz3 : Below w0.heap.size w0 wz1_3 := bu bz2 bb
     clear bz2 hgo bb
     clear hHeld
     refine hKK.out _ _ (K.out _ bz3) (fun hHeld => ?_)
     clear hKK KK
     refine' tj 14 21 rfl ?_ ?_;rotate_left
     ·intro w h; (try dsimp only at h); go_simp; try with_reducible rfl
     simp only [pU]
     refine' tj 15 22 rfl ?_ ?_;rotate_left
     ·intro w h; (try dsimp only at h); go_simp; try with_reducible rfl
     simp only [pU]
     refine' tj 16 23 rfl ?_ ?_;rotate_left
     ·intro w h; (try dsimp only at h); go_simp; try with_reducible rfl
     simp only [pU]
     refine' tj 17 24 rfl ?_ ?_;rotate_left
     ·intro w h; (try dsimp only at h); go_simp; try with_reducible rfl
     simp only [pU]
     refine' tj 20 27 rfl ?_ ?_;rotate_left
     ·intro w h; (try dsimp only at h); go_simp; try with_reducible rfl
     simp only [pU]
     refine' tj 18 25 rfl ?_ ?_;rotate_left
     ·intro w h; (try dsimp only at h); go_simp; try with_reducible rfl
     simp only [pU]
     refine' tj 21 28 rfl ?_ ?_;rotate_left
     ·intro w h; (try dsimp only at h); go_simp; try with_reducible rfl
     simp only [pU]
     refine' tj 19 26 rfl ?_ ?_;rotate_left
     ·intro w h; (try dsimp only at h); go_simp; try with_reducible rfl
     simp only [pU]
     refine' tj 22 29 rfl ?_ ?_;rotate_left
     ·intro w h; (try dsimp only at h); go_simp; try with_reducible rfl
     simp only [pU]
     refine' tj 23 30 rfl ?_ ?_;rotate_left
     ·intro w h; (try dsimp only at h); go_simp; try with_reducible rfl
     simp only [pU]
     refine' tj 24 6 rfl ?_ ?_;rotate_left
     ·intro w h; (try dsimp only at h); go_simp; try with_reducible rfl
     simp only [pU]
     clear hHeld
     refine wdn ?_
     have bb := bz3
     have Bwz1_3 := bu Bw0 bb
     have swz1_3 := bb.size
     replace LC := LC.up bb
     replace LS := LS.up bb
     replace LB := LB.up bb
     clear Bw0
     clear bb bz3 K
     go_wp2
     go_ret
     exact ⟨rfl, Bwz1_3⟩
   ·have e1 : decide (vo < vw) = false := by simpa using h1
    rw [e1]
    simp only [Bool.false_and]
    clear h1
    obtain ⟨w0, hw0⟩ : ∃ w0, (((w.alloc (.cells #[.int .i64 n, .int .i64 f] 25)).alloc (.cells #[.int .i64 vo, .int .i64 lo, .int .i64 v, .string s, .slice ao xs.length ca, .string d] 30)).alloc (.cells #[.string m, .int .i64 v', .string s', .slice bo ys.length cb] 93)) = w0 := ⟨_, rfl⟩
    have Bw0 : Below w.heap.size w w0 := hw0 ▸ (((Below.refl _ _).alloc (Nat.le_refl _) _).alloc (by simp) _).alloc (by simp; omega) _
    have LC : Loc w0 (w.heap.size) #[.int .i64 n, .int .i64 f] := hw0 ▸ ((loc_at (w) _ _ rfl).alloc _).alloc _
    have LS : Loc w0 (w.heap.size + 1) #[.int .i64 vo, .int .i64 lo, .int .i64 v, .string s, .slice ao xs.length ca, .string d] := hw0 ▸ (loc_at (w.alloc _) _ _ (by simp)).alloc _
    have LB : Loc w0 (w.heap.size + 1 + 1) #[.string m, .int .i64 v', .string s', .slice bo ys.length cb] := hw0 ▸ loc_at ((w.alloc _).alloc _) _ _ (by simp)
    have zw0 : w.heap.size + 1 + 1 + 1 ≤ w0.heap.size := by rw [← hw0]; simp
    go_enter Tryz.func97, Tryz.ntmps97
    have K : Hid (∀ w', Below w0.heap.size w0 w' → (fun w' => Below w0.heap.size w0 w' ∧ (w'.cell? ⟨w.heap.size, 0, none⟩ = some (.int .i64 n) ∧ w'.cell? ⟨w.heap.size, 1, none⟩ = some (.int .i64 f)) ∧ (w'.cell? ⟨w.heap.size + 1, 0, none⟩ = some (.int .i64 vo) ∧ w'.cell? ⟨w.heap.size + 1, 1, none⟩ = some (.int .i64 lo) ∧ w'.cell? ⟨w.heap.size + 1, 2, none⟩ = some (.int .i64 v) ∧ w'.cell? ⟨w.heap.size + 1, 3, none⟩ = some (.string s) ∧ w'.cell? ⟨w.heap.size + 1, 4, none⟩ = some (.slice ao xs.length ca) ∧ w'.cell? ⟨w.heap.size + 1, 5, none⟩ = some (.string d)) ∧ (w'.cell? ⟨w.heap.size + 1 + 1, 0, none⟩ = some (.string m) ∧ w'.cell? ⟨w.heap.size + 1 + 1, 1, none⟩ = some (.int .i64 v') ∧ w'.cell? ⟨w.heap.size + 1 + 1, 2, none⟩ = some (.string s') ∧ w'.cell? ⟨w.heap.size + 1 + 1, 3, none⟩ = some (.slice bo ys.length cb))) w') := hide fun w' hb' => ⟨hb', ⟨(LC.up hb').cell 0 rfl, (LC.up hb').cell 1 rfl⟩, ⟨(LS.up hb').cell 0 rfl, (LS.up hb').cell 1 rfl, (LS.up hb').cell 2 rfl, (LS.up hb').cell 3 rfl, (LS.up hb').cell 4 rfl, (LS.up hb').cell 5 rfl⟩, ⟨(LB.up hb').cell 0 rfl, (LB.up hb').cell 1 rfl, (LB.up hb').cell 2 rfl, (LB.up hb').cell 3 rfl⟩⟩
    go_upto_region 1 with fail
    clear hw0
    have bA : Below w0.heap.size w0 w0.drew := Below.drew (Below.refl _ _)
    refine wrn K bA (fun hHeld => ?_)
    refine' tj 0 7 rfl ?_ ?_;rotate_left
    ·intro w h; (try dsimp only at h); go_simp; try with_reducible rfl
    simp only [pU]
    refine' tj 1 8 rfl ?_ ?_;rotate_left
    ·intro w h; (try dsimp only at h); go_simp; try with_reducible rfl
    simp only [pU]
    refine rd 2 rfl (fun KK hKK => ?_)
    go_simp
    have hgo := bA
    refine (SO.out _ (bu Bw0 hgo)).mono ?_
    rintro e wz1_1 ⟨rfl, bb⟩
    have bz1 : Below w0.heap.size w0 wz1_1 := bu bA bb
    clear bA hgo bb
    clear hHeld
    refine hKK.out _ _ (K.out _ bz1) (fun hHeld => ?_)
    clear hKK KK
    refine' tj 3 10 rfl ?_ ?_;rotate_left
    ·intro w h; (try dsimp only at h); go_simp; try with_reducible rfl
    simp only [pU]
    refine' tj 4 11 rfl ?_ ?_;rotate_left
    ·intro w h; (try dsimp only at h); go_simp; try with_reducible rfl
    simp only [pU]
    refine' tj 5 12 rfl ?_ ?_;rotate_left
    ·intro w h; (try dsimp only at h); go_simp; try with_reducible rfl
    simp only [pU]
    refine rd 6 rfl (fun KK hKK => ?_)
    go_simp
    have hgo := bz1
    refine (BO.out _ (bu Bw0 hgo)).mono ?_
    rintro e wz1_2 ⟨rfl, bb⟩
    have bz2 : Below w0.heap.size w0 wz1_2 := bu bz1 bb
    clear bz1 hgo bb
    clear hHeld
    refine hKK.out _ _ (K.out _ bz2) (fun hHeld => ?_)
    clear hKK KK
    refine' tj 7 14 rfl ?_ ?_;rotate_left
    ·intro w h; (try dsimp only at h); go_simp; try with_reducible rfl
    simp only [pU]
    refine' tj 8 15 rfl ?_ ?_;rotate_left
    ·intro w h; (try dsimp only at h); go_simp; try with_reducible rfl
    simp only [pU]
    refine' tj 9 16 rfl ?_ ?_;rotate_left
    ·intro w h; (try dsimp only at h); go_simp; try with_reducible rfl
    simp only [pU]
    refine' tj 12 19 rfl ?_ ?_;rotate_left
    ·intro w h; (try dsimp only at h); go_simp; try with_reducible rfl
    simp only [pU]
    refine' tj 10 17 rfl ?_ ?_;rotate_left
    ·intro w h; (try dsimp only at h); go_simp; try with_reducible rfl
    simp only [pU]
    refine' tj 13 20 rfl ?_ ?_;rotate_left
    ·intro w h; (try dsimp only at h); go_simp; try with_reducible rfl
    simp only [pU]
    refine rd 11 rfl (fun KK hKK => ?_)
    go_simp
    have hgo := bz2
    refine (VO.out _).mono ?_
    rintro e wz1_3 ⟨rfl, bb⟩
    have bz3 : Below w0.heap.size w0 wz1_3 := bu bz2 bb
    clear bz2 hgo bb
    clear hHeld
    refine hKK.out _ _ (K.out _ bz3) (fun hHeld => ?_)
    clear hKK KK
    refine' tj 14 21 rfl ?_ ?_;rotate_left
    ·intro w h; (try dsimp only at h); go_simp; try with_reducible rfl
    simp only [pU]
    refine' tj 15 22 rfl ?_ ?_;rotate_left
    ·intro w h; (try dsimp only at h); go_simp; try with_reducible rfl
    simp only [pU]
    refine' tj 16 23 rfl ?_ ?_;rotate_left
    ·intro w h; (try dsimp only at h); go_simp; try with_reducible rfl
    simp only [pU]
    refine sk 17 24 rfl (h := ?_)
    simp only [pU]
    refine sk 20 27 rfl (h := ?_)
    simp only [pU]
    refine sk 18 25 rfl (h := ?_)
    simp only [pU]
    refine sk 21 28 rfl (h := ?_)
    simp only [pU]
    refine sk 19 26 rfl (h := ?_)
    simp only [pU]
    refine sk 22 29 rfl (h := ?_)
    simp only [pU]
    refine' tj 23 30 rfl ?_ ?_;rotate_left
    ·intro w h; (try dsimp only at h); go_simp; try with_reducible rfl
    simp only [pU]
    refine' tj 24 6 rfl ?_ ?_;rotate_left
    ·intro w h; (try dsimp only at h); go_simp; try with_reducible rfl
    simp only [pU]
    clear hHeld
    refine wdn ?_
    have bb := bz3
    have Bwz1_3 := bu Bw0 bb
    have swz1_3 := bb.size
    replace LC := LC.up bb
    replace LS := LS.up bb
    replace LB := LB.up bb
    clear Bw0
    clear bb bz3 K
    go_wp2
    go_ret
    exact ⟨rfl, Bwz1_3⟩

theorem specVote (n f : Int) (vo lo v : Int) (s : ByteArray) (ao : Option Addr) (ca : Nat) (xs : List Int) (d : ByteArray) (m : ByteArray) (v' : Int) (s' : ByteArray) (bo : Option Addr) (cb : Nat) (ys : List Int) (w : World) (hs : s.size ≤ 1048576) (hd : d.size ≤ 1048576) (hm : m.size ≤ 1048576) (hs' : s'.size ≤ 1048576) (ha : RI w (.slice ao xs.length ca) xs) (hb : RI w (.slice bo ys.length cb) ys) :
 Calls Tryz.prog 66 #[cv n f, sv vo lo v s (.slice ao xs.length ca) d, bv m v' s' (.slice bo ys.length cb)] w fun e w' => ∃ u, e = .returned (.tuple #[sv (votV (mayB n f vo lo v s xs d m v' s' ys) vo m) lo v s u d, .bool (mayB n f vo lo v s xs d m v' s' ys)]) ∧ OI w' w.heap.size u xs ∧ Below w.heap.size w w' := by
 have MV := hide fun w' (h : Below w.heap.size w w') => specMayVote n f vo lo v s ao ca xs d m v' s' bo cb ys w' hs hd hm hs' (ha.below h) (hb.below h)
 have VO := hide fun w' => specViewOf m w' (by omega)
 have TO := hide fun w' (h : Below w.heap.size w w') => l11Copy_any vo lo v s ao ca xs d w' (ha.below h)
 clear ha hb
 generalize mayB n f vo lo v s xs d m v' s' ys = g at *
 have HT := hide (show votV true vo m = viewAns m from rfl)
 have HF := hide (show votV false vo m = vo from rfl)
 generalize viewAns m = vw at *
 cases g
 ·rw [HF.out]
  clear HT HF
  obtain ⟨w0, hw0⟩ : ∃ w0, ((((w.alloc (.cells #[.int .i64 n, .int .i64 f] 25)).alloc (.cells #[.int .i64 vo, .int .i64 lo, .int .i64 v, .string s, .slice ao xs.length ca, .string d] 30)).alloc (.cells #[.string m, .int .i64 v', .string s', .slice bo ys.length cb] 93)).alloc (.cells #[.int .i64 0, .int .i64 0, .int .i64 0, .string ⟨#[]⟩, .slice none 0 0, .string ⟨#[]⟩] 30)) = w0 := ⟨_, rfl⟩
  have Bw0 : Below w.heap.size w w0 := hw0 ▸ ((((Below.refl _ _).alloc (Nat.le_refl _) _).alloc (by simp) _).alloc (by simp; omega) _).alloc (by simp; omega) _
  have LC : Loc w0 (w.heap.size) #[.int .i64 n, .int .i64 f] := hw0 ▸ (((loc_at (w) _ _ rfl).alloc _).alloc _).alloc _
  have LS : Loc w0 (w.heap.size + 1) #[.int .i64 vo, .int .i64 lo, .int .i64 v, .string s, .slice ao xs.length ca, .string d] := hw0 ▸ ((loc_at (w.alloc _) _ _ (by simp)).alloc _).alloc _
  have LB : Loc w0 (w.heap.size + 1 + 1) #[.string m, .int .i64 v', .string s', .slice bo ys.length cb] := hw0 ▸ (loc_at ((w.alloc _).alloc _) _ _ (by simp)).alloc _
  have LZ : Loc w0 (w.heap.size + 1 + 1 + 1) #[.int .i64 0, .int .i64 0, .int .i64 0, .string ⟨#[]⟩, .slice none 0 0, .string ⟨#[]⟩] := hw0 ▸ loc_at (((w.alloc _).alloc _).alloc _) _ _ (by simp)
  have zw0 : w.heap.size + 1 + 1 + 1 + 1 ≤ w0.heap.size := by rw [← hw0]; simp
  go_enter Tryz.func66, Tryz.ntmps66
  have cLS0 := LS.cell 0 rfl
  have cLS1 := LS.cell 1 rfl
  have cLS2 := LS.cell 2 rfl
  have cLS3 := LS.cell 3 rfl
  have cLS4 := LS.cell 4 rfl
  have cLS5 := LS.cell 5 rfl
  go_wp2_with fail
  clear hw0
  refine (TO.out _ Bw0).mono ?_
  rintro _ w1 ⟨u1, rfl, o1, bb⟩
  clear cLS0 cLS1 cLS2 cLS3 cLS4 cLS5
  have Bw1 := bu Bw0 bb
  have sw1 := bb.size
  replace LC := LC.up bb
  replace LS := LS.up bb
  replace LB := LB.up bb
  replace LZ := LZ.up bb
  clear Bw0
  clear bb
  have to1 := World.ownsRow.lt o1
  obtain ⟨ao1, ko1, rfl⟩ := o1.form
  obtain ⟨w2, hw2⟩ : ∃ x, w1.alloc (.cells #[.int .i64 vo, .int .i64 lo, .int .i64 v, .string s, .slice ao1 xs.length ko1, .string d] 30) = x := ⟨_, rfl⟩
  have bb : Below w1.heap.size w1 w2 := hw2 ▸ qalloc _ _
  have LO : Loc w2 w1.heap.size #[.int .i64 vo, .int .i64 lo, .int .i64 v, .string s, .slice ao1 xs.length ko1, .string d] := hw2 ▸ loc_at w1 _ _ rfl
  have zw2 : w2.heap.size = w1.heap.size + 1 := by rw [← hw2]; simp
  have Bw2 := bu Bw1 bb
  have sw2 := bb.size
  replace LC := LC.up bb
  replace LS := LS.up bb
  replace LB := LB.up bb
  replace LZ := LZ.up bb
  replace o1 := o1.below bb
  clear Bw1
  clear bb
  have cLC0 := LC.cell 0 rfl
  have cLC1 := LC.cell 1 rfl
  have cLS0 := LS.cell 0 rfl
  have cLS1 := LS.cell 1 rfl
  have cLS2 := LS.cell 2 rfl
  have cLS3 := LS.cell 3 rfl
  have cLS4 := LS.cell 4 rfl
  have cLS5 := LS.cell 5 rfl
  have cLB0 := LB.cell 0 rfl
  have cLB1 := LB.cell 1 rfl
  have cLB2 := LB.cell 2 rfl
  have cLB3 := LB.cell 3 rfl
  go_wp2_with fail
  clear hw2
  refine (MV.out _ Bw2).mono ?_
  rintro _ w3 ⟨rfl, bb⟩
  clear cLC0 cLC1 cLS0 cLS1 cLS2 cLS3 cLS4 cLS5 cLB0 cLB1 cLB2 cLB3
  have Bw3 := bu Bw2 bb
  have sw3 := bb.size
  replace LC := LC.up bb
  replace LS := LS.up bb
  replace LB := LB.up bb
  replace LZ := LZ.up bb
  replace LO := LO.up bb
  replace o1 := o1.below bb
  clear Bw2
  clear bb
  have K6 := kp6 w3 (w.heap.size + 1 + 1 + 1) (.int .i64 vo) (.int .i64 lo) (.int .i64 v) (.string s) (.slice ao1 xs.length ko1) (.string d)
  have cLZ0 := LZ.cell 0 rfl
  have cLZ1 := LZ.cell 1 rfl
  have cLZ2 := LZ.cell 2 rfl
  have cLZ3 := LZ.cell 3 rfl
  have cLZ4 := LZ.cell 4 rfl
  have cLZ5 := LZ.cell 5 rfl
  have cLO0 := LO.cell 0 rfl
  have cLO1 := LO.cell 1 rfl
  have cLO2 := LO.cell 2 rfl
  have cLO3 := LO.cell 3 rfl
  have cLO4 := LO.cell 4 rfl
  have cLO5 := LO.cell 5 rfl
  have fLZ := LZ.frozen
  go_wp2
  refine bodyPost_ret (v := .tuple #[sv (vo) (lo) (v) (s) (.slice ao1 xs.length ko1) (d), .bool false]) (by simp [results, Tryz.results66, go_sem, cLZ0, cLZ1, cLZ2, cLZ3, cLZ4, cLZ5]) rfl ?_
  exact ⟨_, rfl, (o1.kp K6 (fun j hj e => by have := to1 j hj; omega)).mono (by omega), Below.kp Bw3 K6 Bw3.size (fun k hk => by omega)⟩
 ·rw [HT.out]
  clear HT HF
  obtain ⟨w0, hw0⟩ : ∃ w0, ((((w.alloc (.cells #[.int .i64 n, .int .i64 f] 25)).alloc (.cells #[.int .i64 vo, .int .i64 lo, .int .i64 v, .string s, .slice ao xs.length ca, .string d] 30)).alloc (.cells #[.string m, .int .i64 v', .string s', .slice bo ys.length cb] 93)).alloc (.cells #[.int .i64 0, .int .i64 0, .int .i64 0, .string ⟨#[]⟩, .slice none 0 0, .string ⟨#[]⟩] 30)) = w0 := ⟨_, rfl⟩
  have Bw0 : Below w.heap.size w w0 := hw0 ▸ ((((Below.refl _ _).alloc (Nat.le_refl _) _).alloc (by simp) _).alloc (by simp; omega) _).alloc (by simp; omega) _
  have LC : Loc w0 (w.heap.size) #[.int .i64 n, .int .i64 f] := hw0 ▸ (((loc_at (w) _ _ rfl).alloc _).alloc _).alloc _
  have LS : Loc w0 (w.heap.size + 1) #[.int .i64 vo, .int .i64 lo, .int .i64 v, .string s, .slice ao xs.length ca, .string d] := hw0 ▸ ((loc_at (w.alloc _) _ _ (by simp)).alloc _).alloc _
  have LB : Loc w0 (w.heap.size + 1 + 1) #[.string m, .int .i64 v', .string s', .slice bo ys.length cb] := hw0 ▸ (loc_at ((w.alloc _).alloc _) _ _ (by simp)).alloc _
  have LZ : Loc w0 (w.heap.size + 1 + 1 + 1) #[.int .i64 0, .int .i64 0, .int .i64 0, .string ⟨#[]⟩, .slice none 0 0, .string ⟨#[]⟩] := hw0 ▸ loc_at (((w.alloc _).alloc _).alloc _) _ _ (by simp)
  have zw0 : w.heap.size + 1 + 1 + 1 + 1 ≤ w0.heap.size := by rw [← hw0]; simp
  go_enter Tryz.func66, Tryz.ntmps66
  have cLS0 := LS.cell 0 rfl
  have cLS1 := LS.cell 1 rfl
  have cLS2 := LS.cell 2 rfl
  have cLS3 := LS.cell 3 rfl
  have cLS4 := LS.cell 4 rfl
  have cLS5 := LS.cell 5 rfl
  go_wp2_with fail
  clear hw0
  refine (TO.out _ Bw0).mono ?_
  rintro _ w1 ⟨u1, rfl, o1, bb⟩
  clear cLS0 cLS1 cLS2 cLS3 cLS4 cLS5
  have Bw1 := bu Bw0 bb
  have sw1 := bb.size
  replace LC := LC.up bb
  replace LS := LS.up bb
  replace LB := LB.up bb
  replace LZ := LZ.up bb
  clear Bw0
  clear bb
  have to1 := World.ownsRow.lt o1
  obtain ⟨ao1, ko1, rfl⟩ := o1.form
  obtain ⟨w2, hw2⟩ : ∃ x, w1.alloc (.cells #[.int .i64 vo, .int .i64 lo, .int .i64 v, .string s, .slice ao1 xs.length ko1, .string d] 30) = x := ⟨_, rfl⟩
  have bb : Below w1.heap.size w1 w2 := hw2 ▸ qalloc _ _
  have LO : Loc w2 w1.heap.size #[.int .i64 vo, .int .i64 lo, .int .i64 v, .string s, .slice ao1 xs.length ko1, .string d] := hw2 ▸ loc_at w1 _ _ rfl
  have zw2 : w2.heap.size = w1.heap.size + 1 := by rw [← hw2]; simp
  have Bw2 := bu Bw1 bb
  have sw2 := bb.size
  replace LC := LC.up bb
  replace LS := LS.up bb
  replace LB := LB.up bb
  replace LZ := LZ.up bb
  replace o1 := o1.below bb
  clear Bw1
  clear bb
  have cLC0 := LC.cell 0 rfl
  have cLC1 := LC.cell 1 rfl
  have cLS0 := LS.cell 0 rfl
  have cLS1 := LS.cell 1 rfl
  have cLS2 := LS.cell 2 rfl
  have cLS3 := LS.cell 3 rfl
  have cLS4 := LS.cell 4 rfl
  have cLS5 := LS.cell 5 rfl
  have cLB0 := LB.cell 0 rfl
  have cLB1 := LB.cell 1 rfl
  have cLB2 := LB.cell 2 rfl
  have cLB3 := LB.cell 3 rfl
  go_wp2_with fail
  clear hw2
  refine (MV.out _ Bw2).mono ?_
  rintro _ w3 ⟨rfl, bb⟩
  clear cLC0 cLC1 cLS0 cLS1 cLS2 cLS3 cLS4 cLS5 cLB0 cLB1 cLB2 cLB3
  have Bw3 := bu Bw2 bb
  have sw3 := bb.size
  replace LC := LC.up bb
  replace LS := LS.up bb
  replace LB := LB.up bb
  replace LZ := LZ.up bb
  replace LO := LO.up bb
  replace o1 := o1.below bb
  clear Bw2
  clear bb
  have cLB0 := LB.cell 0 rfl
  have cLB1 := LB.cell 1 rfl
  have cLB2 := LB.cell 2 rfl
  have cLB3 := LB.cell 3 rfl
  go_wp2_with fail
  refine (VO.out _).mono ?_
  rintro _ w4 ⟨rfl, bb⟩
  clear cLB0 cLB1 cLB2 cLB3
  have Bw4 := bu Bw3 bb
  have sw4 := bb.size
  replace LC := LC.up bb
  replace LS := LS.up bb
  replace LB := LB.up bb
  replace LZ := LZ.up bb
  replace LO := LO.up bb
  replace o1 := o1.below bb
  clear Bw3
  clear bb
  have cLO0 := LO.cell 0 rfl
  have cLO1 := LO.cell 1 rfl
  have cLO2 := LO.cell 2 rfl
  have cLO3 := LO.cell 3 rfl
  have cLO4 := LO.cell 4 rfl
  have cLO5 := LO.cell 5 rfl
  have fLO := LO.frozen
  go_upto_region 5 with fail
  clear cLO0 cLO1 cLO2 cLO3 cLO4 cLO5
  clear fLO
  obtain ⟨w5, hw5⟩ : ∃ y, (w4.setCell ⟨w1.heap.size, 0, none⟩ (.int .i64 vw)) = y := ⟨_, rfl⟩
  have kN : Kp w4 w5 (fun k => k = w1.heap.size) := hw5 ▸ set_kp _ _ _ _
  replace LO : Loc w5 (w1.heap.size) #[.int .i64 vw, .int .i64 lo, .int .i64 v, .string s, .slice ao1 xs.length ko1, .string d] := hw5 ▸ (LO.set 0 _ rfl)
  replace LC := LC.kp kN (by omega)
  replace LS := LS.kp kN (by omega)
  replace LB := LB.kp kN (by omega)
  replace LZ := LZ.kp kN (by omega)
  replace o1 := o1.kp kN (fun j hj e => by have := to1 j hj; omega)
  have Bw5 := Below.kp Bw4 kN Bw4.size (fun k hk => by omega)
  have sw5 := kN.size
  rw [hw5]
  clear hw5 kN Bw4
  have K6 := kp6 w5 (w.heap.size + 1 + 1 + 1) (.int .i64 vw) (.int .i64 lo) (.int .i64 v) (.string s) (.slice ao1 xs.length ko1) (.string d)
  have cLZ0 := LZ.cell 0 rfl
  have cLZ1 := LZ.cell 1 rfl
  have cLZ2 := LZ.cell 2 rfl
  have cLZ3 := LZ.cell 3 rfl
  have cLZ4 := LZ.cell 4 rfl
  have cLZ5 := LZ.cell 5 rfl
  have cLO0 := LO.cell 0 rfl
  have cLO1 := LO.cell 1 rfl
  have cLO2 := LO.cell 2 rfl
  have cLO3 := LO.cell 3 rfl
  have cLO4 := LO.cell 4 rfl
  have cLO5 := LO.cell 5 rfl
  have fLZ := LZ.frozen
  go_wp2
  refine bodyPost_ret (v := .tuple #[sv (vw) (lo) (v) (s) (.slice ao1 xs.length ko1) (d), .bool true]) (by simp [results, Tryz.results66, go_sem, cLZ0, cLZ1, cLZ2, cLZ3, cLZ4, cLZ5]) rfl ?_
  exact ⟨_, rfl, (o1.kp K6 (fun j hj e => by have := to1 j hj; omega)).mono (by omega), Below.kp Bw5 K6 Bw5.size (fun k hk => by omega)⟩
end Go.Proofs.YtcclbejpgiogaaaGreatDoor
