/- BlockOk of the program and of the specification. -/
import Derived.Test.YtmpmedbojfjnaaaGreatDoorFSAY
import Derived.Test.YtmpmedbojfjnaaaGreatDoorFSBA
import Derived.Test.YtmpmedbojfjnaaaGreatDoorFSAR
import Derived.Test.YtmpmedbojfjnaaaGreatDoorFSAP
import Derived.Test.YtmpmedbojfjnaaaGreatDoorFSAS
namespace Go.Proofs.YtmpmedbojfjnaaaGreatDoor
open Go.RowKit
set_option linter.unusedSectionVars false
variable [∀ (a b c d : Int), Decidable (Ok4 a b c d)]
variable [∀ (a b c d : Nat), Decidable (okN a b c d)]
variable [∀ (last : Int) (s : St), Decidable (GoodSt last s)]
variable [∀ (x : T4), Decidable (OkT x)]
variable [∀ (n : Int) (s : List Int), Decidable (OkL n s)]
variable [∀ (n f : Int), Decidable (COk n f)]

theorem str_yes {s t : ByteArray} (h : s = t) : (s.toList == t.toList) = true := by simp [h]
set_option maxHeartbeats 8000000 in
set_option maxRecDepth 100000 in
theorem implBlockOk (n f : Int) (m : ByteArray) (v : Int) (s : ByteArray) (ao : Option Addr) (ca : Nat) (xs : List Int) (w : World) (hm : m.size ≤ 33554432) (hs : s.size ≤ 33554432) (hE : Env w) (ha : RI w (.slice ao xs.length ca) xs) :
 Calls Tryz.prog 79 #[cv n f, bv m v s (.slice ao xs.length ca)] w fun e w' => e = .returned (.bool (bokB n f m v s xs)) ∧ Below w.heap.size w w' := by
 obtain ⟨w0, hw0⟩ : ∃ w0, (w.alloc (.cells #[.int .i64 n, .int .i64 f] 25)).alloc (.cells #[.string m, .int .i64 v, .string s, .slice ao xs.length ca] 35) = w0 := ⟨_, rfl⟩
 have Bw0 : Below w.heap.size w w0 := hw0 ▸ qalloc2 _ _ _
 have LC : Loc w0 w.heap.size #[.int .i64 n, .int .i64 f] := hw0 ▸ (loc_at w _ _ rfl).alloc _
 have LB : Loc w0 (w.heap.size + 1) #[.string m, .int .i64 v, .string s, .slice ao xs.length ca] := hw0 ▸ loc_at (w.alloc _) _ _ (by simp)
 have OK := hide fun w' (b : Below w0.heap.size w0 w') => implQcOk n f v s ao ca xs w' hs ((hE.below Bw0).below b) ((ha.below Bw0 (Nat.le_refl _)).below b (Nat.le_refl _))
 have HT := hide fun w' (b : Below w0.heap.size w0 w') => implHeight m w' hm ((hE.below Bw0).below b)
 have UP := hide fun w' (b : Below w0.heap.size w0 w') => implUpOf m w' hm ((hE.below Bw0).below b)
 have hB : bokB n f m v s xs = (qokB n f v s xs && decide (0 < heightAns m) && decide (upAns m = s)) := rfl
 rw [hB]
 clear hB ha hE
 generalize qokB n f v s xs = q at *
 generalize heightAns m = k at *
 generalize upAns m = u at *
 cases q
 ·simp only [Bool.false_and]
  go_enter Tryz.func79, Tryz.ntmps79
  have K : Hid (∀ w', Below w0.heap.size w0 w' → (fun w' => Below w0.heap.size w0 w' ∧ (w'.cell? ⟨w.heap.size, 0, none⟩ = some (.int .i64 n) ∧ w'.cell? ⟨w.heap.size, 1, none⟩ = some (.int .i64 f)) ∧ (w'.cell? ⟨w.heap.size + 1, 0, none⟩ = some (.string m) ∧ w'.cell? ⟨w.heap.size + 1, 1, none⟩ = some (.int .i64 v) ∧ w'.cell? ⟨w.heap.size + 1, 2, none⟩ = some (.string s) ∧ w'.cell? ⟨w.heap.size + 1, 3, none⟩ = some (.slice ao xs.length ca))) w') := hide fun w' hb' => ⟨hb', ⟨(LC.below hb' LC.lt).cell 0 rfl, (LC.below hb' LC.lt).cell 1 rfl⟩, ⟨(LB.below hb' LB.lt).cell 0 rfl, (LB.below hb' LB.lt).cell 1 rfl, (LB.below hb' LB.lt).cell 2 rfl, (LB.below hb' LB.lt).cell 3 rfl⟩⟩
  go_upto_region 1 with fail
  clear hw0
  have bA : Below w0.heap.size w0 w0.drew := Below.drew (Below.refl _ _)
  refine wp_region_noPanic ?_
  refine wp_region_held_drew (S := fun w' => Below w0.heap.size w0 w' ∧ (w'.cell? ⟨w.heap.size, 0, none⟩ = some (.int .i64 n) ∧ w'.cell? ⟨w.heap.size, 1, none⟩ = some (.int .i64 f)) ∧ (w'.cell? ⟨w.heap.size + 1, 0, none⟩ = some (.string m) ∧ w'.cell? ⟨w.heap.size + 1, 1, none⟩ = some (.int .i64 v) ∧ w'.cell? ⟨w.heap.size + 1, 2, none⟩ = some (.string s) ∧ w'.cell? ⟨w.heap.size + 1, 3, none⟩ = some (.slice ao xs.length ca))) (by kernel_rfl) (unhide K _ bA) (fun hHeld => ?_)
  refine tk 0 5 (v := ?_) rfl (hy := .inl ⟨by rfl, ?_⟩) (h := ?_); rotate_left
  ·intro w hSw; (try dsimp only at hSw); go_simp; (try with_reducible rfl)
  simp only [ps]
  refine tk 1 6 (v := ?_) rfl (hy := .inl ⟨by rfl, ?_⟩) (h := ?_); rotate_left
  ·intro w hSw; (try dsimp only at hSw); go_simp; (try with_reducible rfl)
  simp only [ps]
  refine tk 2 7 (v := ?_) rfl (hy := .inl ⟨by rfl, ?_⟩) (h := ?_); rotate_left
  ·intro w hSw; (try dsimp only at hSw); go_simp; (try with_reducible rfl)
  simp only [ps]
  refine ready_at (i := 3) rfl (by kernel_rfl) (fun KK hKK => ?_)
  go_simp
  have hgo := bA
  refine (unhide OK _ hgo).mono ?_
  rintro e wz1_1 ⟨rfl, bb⟩
  have bz1 : Below w0.heap.size w0 wz1_1 := bA.trans (bb.mono bA.size)
  clear bA hgo bb
  clear hHeld
  refine hKK.out _ _ (unhide K _ bz1) (fun hHeld => ?_)
  clear hKK KK
  refine tk 4 9 (v := ?_) rfl (hy := .inl ⟨by rfl, ?_⟩) (h := ?_); rotate_left
  ·intro w hSw; (try dsimp only at hSw); go_simp; (try with_reducible rfl)
  simp only [ps]
  refine sk 5 10 rfl (h := ?_)
  simp only [ps]
  refine sk 6 11 rfl (h := ?_)
  simp only [ps]
  refine sk 7 12 rfl (h := ?_)
  simp only [ps]
  refine sk 8 13 rfl (h := ?_)
  simp only [ps]
  refine tk 9 14 (v := ?_) rfl (hy := .inl ⟨by rfl, ?_⟩) (h := ?_); rotate_left
  ·intro w hSw; (try dsimp only at hSw); go_simp; (try with_reducible rfl)
  simp only [ps]
  refine tk 10 15 (v := ?_) rfl (hy := .inl ⟨by rfl, ?_⟩) (h := ?_); rotate_left
  ·intro w hSw; (try dsimp only at hSw); go_simp; (try with_reducible rfl)
  simp only [ps]
  refine sk 11 16 rfl (h := ?_)
  simp only [ps]
  refine sk 14 19 rfl (h := ?_)
  simp only [ps]
  refine sk 12 17 rfl (h := ?_)
  simp only [ps]
  refine sk 15 20 rfl (h := ?_)
  simp only [ps]
  refine sk 13 18 rfl (h := ?_)
  simp only [ps]
  refine sk 16 21 rfl (h := ?_)
  simp only [ps]
  refine sk 17 22 rfl (h := ?_)
  simp only [ps]
  refine tk 18 23 (v := ?_) rfl (hy := .inl ⟨by rfl, ?_⟩) (h := ?_); rotate_left
  ·intro w hSw; (try dsimp only at hSw); go_simp; (try with_reducible rfl)
  simp only [ps]
  refine tk 19 4 (v := ?_) rfl (hy := .inl ⟨by rfl, ?_⟩) (h := ?_); rotate_left
  ·intro w hSw; (try dsimp only at hSw); go_simp; (try with_reducible rfl)
  simp only [ps]
  clear hHeld
  refine wpAnyH_done (by kernel_rfl) ?_ _
  refine NoPanic.normal ?_
  have bb := bz1
  have Bwz1_1 := Bw0.trans (bb.mono Bw0.size)
  have swz1_1 := bb.size
  replace LC := LC.below bb LC.lt
  replace LB := LB.below bb LB.lt
  clear Bw0
  clear bb bz1 K
  go_wp2
  go_ret
  exact ⟨rfl, Bwz1_1⟩
 ·simp only [Bool.true_and]
  by_cases hk : 0 < k
  ·have hd : decide (0 < k) = true := by simpa using hk
   rw [hd, Bool.true_and]
   by_cases hu : u = s
   ·have hv : decide (u = s) = true := by simpa using hu
    have hy := str_yes hu
    rw [hv]
    clear hu hv
    go_enter Tryz.func79, Tryz.ntmps79
    have K : Hid (∀ w', Below w0.heap.size w0 w' → (fun w' => Below w0.heap.size w0 w' ∧ (w'.cell? ⟨w.heap.size, 0, none⟩ = some (.int .i64 n) ∧ w'.cell? ⟨w.heap.size, 1, none⟩ = some (.int .i64 f)) ∧ (w'.cell? ⟨w.heap.size + 1, 0, none⟩ = some (.string m) ∧ w'.cell? ⟨w.heap.size + 1, 1, none⟩ = some (.int .i64 v) ∧ w'.cell? ⟨w.heap.size + 1, 2, none⟩ = some (.string s) ∧ w'.cell? ⟨w.heap.size + 1, 3, none⟩ = some (.slice ao xs.length ca))) w') := hide fun w' hb' => ⟨hb', ⟨(LC.below hb' LC.lt).cell 0 rfl, (LC.below hb' LC.lt).cell 1 rfl⟩, ⟨(LB.below hb' LB.lt).cell 0 rfl, (LB.below hb' LB.lt).cell 1 rfl, (LB.below hb' LB.lt).cell 2 rfl, (LB.below hb' LB.lt).cell 3 rfl⟩⟩
    go_upto_region 1 with fail
    clear hw0
    have bA : Below w0.heap.size w0 w0.drew := Below.drew (Below.refl _ _)
    refine wp_region_noPanic ?_
    refine wp_region_held_drew (S := fun w' => Below w0.heap.size w0 w' ∧ (w'.cell? ⟨w.heap.size, 0, none⟩ = some (.int .i64 n) ∧ w'.cell? ⟨w.heap.size, 1, none⟩ = some (.int .i64 f)) ∧ (w'.cell? ⟨w.heap.size + 1, 0, none⟩ = some (.string m) ∧ w'.cell? ⟨w.heap.size + 1, 1, none⟩ = some (.int .i64 v) ∧ w'.cell? ⟨w.heap.size + 1, 2, none⟩ = some (.string s) ∧ w'.cell? ⟨w.heap.size + 1, 3, none⟩ = some (.slice ao xs.length ca))) (by kernel_rfl) (unhide K _ bA) (fun hHeld => ?_)
    refine tk 0 5 (v := ?_) rfl (hy := .inl ⟨by rfl, ?_⟩) (h := ?_); rotate_left
    ·intro w hSw; (try dsimp only at hSw); go_simp; (try with_reducible rfl)
    simp only [ps]
    refine tk 1 6 (v := ?_) rfl (hy := .inl ⟨by rfl, ?_⟩) (h := ?_); rotate_left
    ·intro w hSw; (try dsimp only at hSw); go_simp; (try with_reducible rfl)
    simp only [ps]
    refine tk 2 7 (v := ?_) rfl (hy := .inl ⟨by rfl, ?_⟩) (h := ?_); rotate_left
    ·intro w hSw; (try dsimp only at hSw); go_simp; (try with_reducible rfl)
    simp only [ps]
    refine ready_at (i := 3) rfl (by kernel_rfl) (fun KK hKK => ?_)
    go_simp
    have hgo := bA
    refine (unhide OK _ hgo).mono ?_
    rintro e wz1_1 ⟨rfl, bb⟩
    have bz1 : Below w0.heap.size w0 wz1_1 := bA.trans (bb.mono bA.size)
    clear bA hgo bb
    clear hHeld
    refine hKK.out _ _ (unhide K _ bz1) (fun hHeld => ?_)
    clear hKK KK
    refine tk 4 9 (v := ?_) rfl (hy := .inl ⟨by rfl, ?_⟩) (h := ?_); rotate_left
    ·intro w hSw; (try dsimp only at hSw); go_simp; (try with_reducible rfl)
    simp only [ps]
    refine tk 5 10 (v := ?_) rfl (hy := .inl ⟨by rfl, ?_⟩) (h := ?_); rotate_left
    ·intro w hSw; (try dsimp only at hSw); go_simp; (try with_reducible rfl)
    simp only [ps]
    refine tk 6 11 (v := ?_) rfl (hy := .inl ⟨by rfl, ?_⟩) (h := ?_); rotate_left
    ·intro w hSw; (try dsimp only at hSw); go_simp; (try with_reducible rfl)
    simp only [ps]
    refine ready_at (i := 7) rfl (by kernel_rfl) (fun KK hKK => ?_)
    go_simp
    have hgo := bz1
    refine (unhide HT _ hgo).mono ?_
    rintro e wz1_2 ⟨rfl, bb⟩
    have bz2 : Below w0.heap.size w0 wz1_2 := bz1.trans (bb.mono bz1.size)
    clear bz1 hgo bb
    clear hHeld
    refine hKK.out _ _ (unhide K _ bz2) (fun hHeld => ?_)
    clear hKK KK
    refine tk 8 13 (v := ?_) rfl (hy := .inl ⟨by rfl, ?_⟩) (h := ?_); rotate_left
    ·intro w hSw; (try dsimp only at hSw); go_simp; (try with_reducible rfl)
    simp only [ps]
    refine tk 9 14 (v := ?_) rfl (hy := .inl ⟨by rfl, ?_⟩) (h := ?_); rotate_left
    ·intro w hSw; (try dsimp only at hSw); go_simp; (try with_reducible rfl)
    simp only [ps]
    refine tk 10 15 (v := ?_) rfl (hy := .inl ⟨by rfl, ?_⟩) (h := ?_); rotate_left
    ·intro w hSw; (try dsimp only at hSw); go_simp; (try with_reducible rfl)
    simp only [ps]
    refine tk 11 16 (v := ?_) rfl (hy := .inl ⟨by rfl, ?_⟩) (h := ?_); rotate_left
    ·intro w hSw; (try dsimp only at hSw); go_simp; (try with_reducible rfl)
    simp only [ps]
    refine tk 14 19 (v := ?_) rfl (hy := .inl ⟨by rfl, ?_⟩) (h := ?_); rotate_left
    ·intro w hSw; (try dsimp only at hSw); go_simp; (try with_reducible rfl)
    simp only [ps]
    refine tk 12 17 (v := ?_) rfl (hy := .inl ⟨by rfl, ?_⟩) (h := ?_); rotate_left
    ·intro w hSw; (try dsimp only at hSw); go_simp; (try with_reducible rfl)
    simp only [ps]
    refine tk 15 20 (v := ?_) rfl (hy := .inl ⟨by rfl, ?_⟩) (h := ?_); rotate_left
    ·intro w hSw; (try dsimp only at hSw); go_simp; (try with_reducible rfl)
    simp only [ps]
    refine tk 16 21 (v := ?_) rfl (hy := .inl ⟨by rfl, ?_⟩) (h := ?_); rotate_left
    ·intro w hSw; (try dsimp only at hSw); go_simp; (try with_reducible rfl)
    simp only [ps]
    refine ready_at (i := 13) rfl (by kernel_rfl) (fun KK hKK => ?_)
    go_simp
    have hgo := bz2
    refine (unhide UP _ hgo).mono ?_
    rintro e wz1_3 ⟨rfl, bb⟩
    have bz3 : Below w0.heap.size w0 wz1_3 := bz2.trans (bb.mono bz2.size)
    clear bz2 hgo bb
    clear hHeld
    refine hKK.out _ _ (unhide K _ bz3) (fun hHeld => ?_)
    clear hKK KK
    refine tk 17 22 (v := ?_) rfl (hy := .inl ⟨by rfl, ?_⟩) (h := ?_); rotate_left
    ·intro w hSw; (try dsimp only at hSw); go_simp; (try with_reducible rfl)
    simp only [ps]
    refine tk 18 23 (v := ?_) rfl (hy := .inl ⟨by rfl, ?_⟩) (h := ?_); rotate_left
    ·intro w hSw; (try dsimp only at hSw); go_simp; (try with_reducible rfl)
    simp only [ps]
    refine tk 19 4 (v := ?_) rfl (hy := .inl ⟨by rfl, ?_⟩) (h := ?_); rotate_left
    ·intro w hSw; (try dsimp only at hSw); go_simp; (try with_reducible rfl)
    simp only [ps]
    clear hHeld
    refine wpAnyH_done (by kernel_rfl) ?_ _
    refine NoPanic.normal ?_
    have bb := bz3
    have Bwz1_3 := Bw0.trans (bb.mono Bw0.size)
    have swz1_3 := bb.size
    replace LC := LC.below bb LC.lt
    replace LB := LB.below bb LB.lt
    clear Bw0
    clear bb bz3 K
    go_wp2
    go_ret
    exact ⟨rfl, Bwz1_3⟩
   ·have hv : decide (u = s) = false := by simpa using hu
    have hy := str_ne hu
    rw [hv]
    clear hu hv
    go_enter Tryz.func79, Tryz.ntmps79
    have K : Hid (∀ w', Below w0.heap.size w0 w' → (fun w' => Below w0.heap.size w0 w' ∧ (w'.cell? ⟨w.heap.size, 0, none⟩ = some (.int .i64 n) ∧ w'.cell? ⟨w.heap.size, 1, none⟩ = some (.int .i64 f)) ∧ (w'.cell? ⟨w.heap.size + 1, 0, none⟩ = some (.string m) ∧ w'.cell? ⟨w.heap.size + 1, 1, none⟩ = some (.int .i64 v) ∧ w'.cell? ⟨w.heap.size + 1, 2, none⟩ = some (.string s) ∧ w'.cell? ⟨w.heap.size + 1, 3, none⟩ = some (.slice ao xs.length ca))) w') := hide fun w' hb' => ⟨hb', ⟨(LC.below hb' LC.lt).cell 0 rfl, (LC.below hb' LC.lt).cell 1 rfl⟩, ⟨(LB.below hb' LB.lt).cell 0 rfl, (LB.below hb' LB.lt).cell 1 rfl, (LB.below hb' LB.lt).cell 2 rfl, (LB.below hb' LB.lt).cell 3 rfl⟩⟩
    go_upto_region 1 with fail
    clear hw0
    have bA : Below w0.heap.size w0 w0.drew := Below.drew (Below.refl _ _)
    refine wp_region_noPanic ?_
    refine wp_region_held_drew (S := fun w' => Below w0.heap.size w0 w' ∧ (w'.cell? ⟨w.heap.size, 0, none⟩ = some (.int .i64 n) ∧ w'.cell? ⟨w.heap.size, 1, none⟩ = some (.int .i64 f)) ∧ (w'.cell? ⟨w.heap.size + 1, 0, none⟩ = some (.string m) ∧ w'.cell? ⟨w.heap.size + 1, 1, none⟩ = some (.int .i64 v) ∧ w'.cell? ⟨w.heap.size + 1, 2, none⟩ = some (.string s) ∧ w'.cell? ⟨w.heap.size + 1, 3, none⟩ = some (.slice ao xs.length ca))) (by kernel_rfl) (unhide K _ bA) (fun hHeld => ?_)
    refine tk 0 5 (v := ?_) rfl (hy := .inl ⟨by rfl, ?_⟩) (h := ?_); rotate_left
    ·intro w hSw; (try dsimp only at hSw); go_simp; (try with_reducible rfl)
    simp only [ps]
    refine tk 1 6 (v := ?_) rfl (hy := .inl ⟨by rfl, ?_⟩) (h := ?_); rotate_left
    ·intro w hSw; (try dsimp only at hSw); go_simp; (try with_reducible rfl)
    simp only [ps]
    refine tk 2 7 (v := ?_) rfl (hy := .inl ⟨by rfl, ?_⟩) (h := ?_); rotate_left
    ·intro w hSw; (try dsimp only at hSw); go_simp; (try with_reducible rfl)
    simp only [ps]
    refine ready_at (i := 3) rfl (by kernel_rfl) (fun KK hKK => ?_)
    go_simp
    have hgo := bA
    refine (unhide OK _ hgo).mono ?_
    rintro e wz1_1 ⟨rfl, bb⟩
    have bz1 : Below w0.heap.size w0 wz1_1 := bA.trans (bb.mono bA.size)
    clear bA hgo bb
    clear hHeld
    refine hKK.out _ _ (unhide K _ bz1) (fun hHeld => ?_)
    clear hKK KK
    refine tk 4 9 (v := ?_) rfl (hy := .inl ⟨by rfl, ?_⟩) (h := ?_); rotate_left
    ·intro w hSw; (try dsimp only at hSw); go_simp; (try with_reducible rfl)
    simp only [ps]
    refine tk 5 10 (v := ?_) rfl (hy := .inl ⟨by rfl, ?_⟩) (h := ?_); rotate_left
    ·intro w hSw; (try dsimp only at hSw); go_simp; (try with_reducible rfl)
    simp only [ps]
    refine tk 6 11 (v := ?_) rfl (hy := .inl ⟨by rfl, ?_⟩) (h := ?_); rotate_left
    ·intro w hSw; (try dsimp only at hSw); go_simp; (try with_reducible rfl)
    simp only [ps]
    refine ready_at (i := 7) rfl (by kernel_rfl) (fun KK hKK => ?_)
    go_simp
    have hgo := bz1
    refine (unhide HT _ hgo).mono ?_
    rintro e wz1_2 ⟨rfl, bb⟩
    have bz2 : Below w0.heap.size w0 wz1_2 := bz1.trans (bb.mono bz1.size)
    clear bz1 hgo bb
    clear hHeld
    refine hKK.out _ _ (unhide K _ bz2) (fun hHeld => ?_)
    clear hKK KK
    refine tk 8 13 (v := ?_) rfl (hy := .inl ⟨by rfl, ?_⟩) (h := ?_); rotate_left
    ·intro w hSw; (try dsimp only at hSw); go_simp; (try with_reducible rfl)
    simp only [ps]
    refine tk 9 14 (v := ?_) rfl (hy := .inl ⟨by rfl, ?_⟩) (h := ?_); rotate_left
    ·intro w hSw; (try dsimp only at hSw); go_simp; (try with_reducible rfl)
    simp only [ps]
    refine tk 10 15 (v := ?_) rfl (hy := .inl ⟨by rfl, ?_⟩) (h := ?_); rotate_left
    ·intro w hSw; (try dsimp only at hSw); go_simp; (try with_reducible rfl)
    simp only [ps]
    refine tk 11 16 (v := ?_) rfl (hy := .inl ⟨by rfl, ?_⟩) (h := ?_); rotate_left
    ·intro w hSw; (try dsimp only at hSw); go_simp; (try with_reducible rfl)
    simp only [ps]
    refine tk 14 19 (v := ?_) rfl (hy := .inl ⟨by rfl, ?_⟩) (h := ?_); rotate_left
    ·intro w hSw; (try dsimp only at hSw); go_simp; (try with_reducible rfl)
    simp only [ps]
    refine tk 12 17 (v := ?_) rfl (hy := .inl ⟨by rfl, ?_⟩) (h := ?_); rotate_left
    ·intro w hSw; (try dsimp only at hSw); go_simp; (try with_reducible rfl)
    simp only [ps]
    refine tk 15 20 (v := ?_) rfl (hy := .inl ⟨by rfl, ?_⟩) (h := ?_); rotate_left
    ·intro w hSw; (try dsimp only at hSw); go_simp; (try with_reducible rfl)
    simp only [ps]
    refine tk 16 21 (v := ?_) rfl (hy := .inl ⟨by rfl, ?_⟩) (h := ?_); rotate_left
    ·intro w hSw; (try dsimp only at hSw); go_simp; (try with_reducible rfl)
    simp only [ps]
    refine ready_at (i := 13) rfl (by kernel_rfl) (fun KK hKK => ?_)
    go_simp
    have hgo := bz2
    refine (unhide UP _ hgo).mono ?_
    rintro e wz1_3 ⟨rfl, bb⟩
    have bz3 : Below w0.heap.size w0 wz1_3 := bz2.trans (bb.mono bz2.size)
    clear bz2 hgo bb
    clear hHeld
    refine hKK.out _ _ (unhide K _ bz3) (fun hHeld => ?_)
    clear hKK KK
    refine tk 17 22 (v := ?_) rfl (hy := .inl ⟨by rfl, ?_⟩) (h := ?_); rotate_left
    ·intro w hSw; (try dsimp only at hSw); go_simp; (try with_reducible rfl)
    simp only [ps]
    refine tk 18 23 (v := ?_) rfl (hy := .inl ⟨by rfl, ?_⟩) (h := ?_); rotate_left
    ·intro w hSw; (try dsimp only at hSw); go_simp; (try with_reducible rfl)
    simp only [ps]
    refine tk 19 4 (v := ?_) rfl (hy := .inl ⟨by rfl, ?_⟩) (h := ?_); rotate_left
    ·intro w hSw; (try dsimp only at hSw); go_simp; (try with_reducible rfl)
    simp only [ps]
    clear hHeld
    refine wpAnyH_done (by kernel_rfl) ?_ _
    refine NoPanic.normal ?_
    have bb := bz3
    have Bwz1_3 := Bw0.trans (bb.mono Bw0.size)
    have swz1_3 := bb.size
    replace LC := LC.below bb LC.lt
    replace LB := LB.below bb LB.lt
    clear Bw0
    clear bb bz3 K
    go_wp2
    go_ret
    exact ⟨rfl, Bwz1_3⟩
  ·have hd : decide (0 < k) = false := by simpa using hk
   rw [hd, Bool.false_and]
   go_enter Tryz.func79, Tryz.ntmps79
   have K : Hid (∀ w', Below w0.heap.size w0 w' → (fun w' => Below w0.heap.size w0 w' ∧ (w'.cell? ⟨w.heap.size, 0, none⟩ = some (.int .i64 n) ∧ w'.cell? ⟨w.heap.size, 1, none⟩ = some (.int .i64 f)) ∧ (w'.cell? ⟨w.heap.size + 1, 0, none⟩ = some (.string m) ∧ w'.cell? ⟨w.heap.size + 1, 1, none⟩ = some (.int .i64 v) ∧ w'.cell? ⟨w.heap.size + 1, 2, none⟩ = some (.string s) ∧ w'.cell? ⟨w.heap.size + 1, 3, none⟩ = some (.slice ao xs.length ca))) w') := hide fun w' hb' => ⟨hb', ⟨(LC.below hb' LC.lt).cell 0 rfl, (LC.below hb' LC.lt).cell 1 rfl⟩, ⟨(LB.below hb' LB.lt).cell 0 rfl, (LB.below hb' LB.lt).cell 1 rfl, (LB.below hb' LB.lt).cell 2 rfl, (LB.below hb' LB.lt).cell 3 rfl⟩⟩
   go_upto_region 1 with fail
   clear hw0
   have bA : Below w0.heap.size w0 w0.drew := Below.drew (Below.refl _ _)
   refine wp_region_noPanic ?_
   refine wp_region_held_drew (S := fun w' => Below w0.heap.size w0 w' ∧ (w'.cell? ⟨w.heap.size, 0, none⟩ = some (.int .i64 n) ∧ w'.cell? ⟨w.heap.size, 1, none⟩ = some (.int .i64 f)) ∧ (w'.cell? ⟨w.heap.size + 1, 0, none⟩ = some (.string m) ∧ w'.cell? ⟨w.heap.size + 1, 1, none⟩ = some (.int .i64 v) ∧ w'.cell? ⟨w.heap.size + 1, 2, none⟩ = some (.string s) ∧ w'.cell? ⟨w.heap.size + 1, 3, none⟩ = some (.slice ao xs.length ca))) (by kernel_rfl) (unhide K _ bA) (fun hHeld => ?_)
   refine tk 0 5 (v := ?_) rfl (hy := .inl ⟨by rfl, ?_⟩) (h := ?_); rotate_left
   ·intro w hSw; (try dsimp only at hSw); go_simp; (try with_reducible rfl)
   simp only [ps]
   refine tk 1 6 (v := ?_) rfl (hy := .inl ⟨by rfl, ?_⟩) (h := ?_); rotate_left
   ·intro w hSw; (try dsimp only at hSw); go_simp; (try with_reducible rfl)
   simp only [ps]
   refine tk 2 7 (v := ?_) rfl (hy := .inl ⟨by rfl, ?_⟩) (h := ?_); rotate_left
   ·intro w hSw; (try dsimp only at hSw); go_simp; (try with_reducible rfl)
   simp only [ps]
   refine ready_at (i := 3) rfl (by kernel_rfl) (fun KK hKK => ?_)
   go_simp
   have hgo := bA
   refine (unhide OK _ hgo).mono ?_
   rintro e wz1_1 ⟨rfl, bb⟩
   have bz1 : Below w0.heap.size w0 wz1_1 := bA.trans (bb.mono bA.size)
   clear bA hgo bb
   clear hHeld
   refine hKK.out _ _ (unhide K _ bz1) (fun hHeld => ?_)
   clear hKK KK
   refine tk 4 9 (v := ?_) rfl (hy := .inl ⟨by rfl, ?_⟩) (h := ?_); rotate_left
   ·intro w hSw; (try dsimp only at hSw); go_simp; (try with_reducible rfl)
   simp only [ps]
   refine tk 5 10 (v := ?_) rfl (hy := .inl ⟨by rfl, ?_⟩) (h := ?_); rotate_left
   ·intro w hSw; (try dsimp only at hSw); go_simp; (try with_reducible rfl)
   simp only [ps]
   refine tk 6 11 (v := ?_) rfl (hy := .inl ⟨by rfl, ?_⟩) (h := ?_); rotate_left
   ·intro w hSw; (try dsimp only at hSw); go_simp; (try with_reducible rfl)
   simp only [ps]
   refine ready_at (i := 7) rfl (by kernel_rfl) (fun KK hKK => ?_)
   go_simp
   have hgo := bz1
   refine (unhide HT _ hgo).mono ?_
   rintro e wz1_2 ⟨rfl, bb⟩
   have bz2 : Below w0.heap.size w0 wz1_2 := bz1.trans (bb.mono bz1.size)
   clear bz1 hgo bb
   clear hHeld
   refine hKK.out _ _ (unhide K _ bz2) (fun hHeld => ?_)
   clear hKK KK
   refine tk 8 13 (v := ?_) rfl (hy := .inl ⟨by rfl, ?_⟩) (h := ?_); rotate_left
   ·intro w hSw; (try dsimp only at hSw); go_simp; (try with_reducible rfl)
   simp only [ps]
   refine tk 9 14 (v := ?_) rfl (hy := .inl ⟨by rfl, ?_⟩) (h := ?_); rotate_left
   ·intro w hSw; (try dsimp only at hSw); go_simp; (try with_reducible rfl)
   simp only [ps]
   refine tk 10 15 (v := ?_) rfl (hy := .inl ⟨by rfl, ?_⟩) (h := ?_); rotate_left
   ·intro w hSw; (try dsimp only at hSw); go_simp; (try with_reducible rfl)
   simp only [ps]
   refine sk 11 16 rfl (h := ?_)
   simp only [ps]
   refine sk 14 19 rfl (h := ?_)
   simp only [ps]
   refine sk 12 17 rfl (h := ?_)
   simp only [ps]
   refine sk 15 20 rfl (h := ?_)
   simp only [ps]
   refine sk 13 18 rfl (h := ?_)
   simp only [ps]
   refine sk 16 21 rfl (h := ?_)
   simp only [ps]
   refine sk 17 22 rfl (h := ?_)
   simp only [ps]
   refine tk 18 23 (v := ?_) rfl (hy := .inl ⟨by rfl, ?_⟩) (h := ?_); rotate_left
   ·intro w hSw; (try dsimp only at hSw); go_simp; (try with_reducible rfl)
   simp only [ps]
   refine tk 19 4 (v := ?_) rfl (hy := .inl ⟨by rfl, ?_⟩) (h := ?_); rotate_left
   ·intro w hSw; (try dsimp only at hSw); go_simp; (try with_reducible rfl)
   simp only [ps]
   clear hHeld
   refine wpAnyH_done (by kernel_rfl) ?_ _
   refine NoPanic.normal ?_
   have bb := bz2
   have Bwz1_2 := Bw0.trans (bb.mono Bw0.size)
   have swz1_2 := bb.size
   replace LC := LC.below bb LC.lt
   replace LB := LB.below bb LB.lt
   clear Bw0
   clear bb bz2 K
   go_wp2
   go_ret
   exact ⟨rfl, Bwz1_2⟩

set_option maxHeartbeats 8000000 in
set_option maxRecDepth 100000 in
theorem specBlockOk (n f : Int) (m : ByteArray) (v : Int) (s : ByteArray) (ao : Option Addr) (ca : Nat) (xs : List Int) (w : World) (hm : m.size ≤ 1048576) (hs : s.size ≤ 1048576) (ha : RI w (.slice ao xs.length ca) xs) :
 Calls Tryz.prog 126 #[cv n f, bv m v s (.slice ao xs.length ca)] w fun e w' => e = .returned (.bool (bokB n f m v s xs)) ∧ Below w.heap.size w w' := by
 obtain ⟨w0, hw0⟩ : ∃ w0, (w.alloc (.cells #[.int .i64 n, .int .i64 f] 25)).alloc (.cells #[.string m, .int .i64 v, .string s, .slice ao xs.length ca] 35) = w0 := ⟨_, rfl⟩
 have Bw0 : Below w.heap.size w w0 := hw0 ▸ qalloc2 _ _ _
 have LC : Loc w0 w.heap.size #[.int .i64 n, .int .i64 f] := hw0 ▸ (loc_at w _ _ rfl).alloc _
 have LB : Loc w0 (w.heap.size + 1) #[.string m, .int .i64 v, .string s, .slice ao xs.length ca] := hw0 ▸ loc_at (w.alloc _) _ _ (by simp)
 have OK := hide fun w' (b : Below w0.heap.size w0 w') => specQcOk n f v s ao ca xs w' (by omega) ((ha.below Bw0 (Nat.le_refl _)).below b (Nat.le_refl _))
 have NO := hide fun w' => specNameOk m w' (by omega)
 have UP := hide fun w' => specUpOf m w' (by omega)
 have hB : bokB n f m v s xs = (qokB n f v s xs && ((stepsAns m).isSome && decide (m ≠ ⟨#[]⟩)) && decide (upAns m = s)) := by rw [← height_pos]; rfl
 rw [hB]
 clear hB ha
 generalize qokB n f v s xs = q at *
 generalize (stepsAns m).isSome = k at *
 generalize upAns m = u at *
 cases q
 ·simp only [Bool.false_and]
  go_enter Tryz.func126, Tryz.ntmps126
  have K : Hid (∀ w', Below w0.heap.size w0 w' → (fun w' => Below w0.heap.size w0 w' ∧ (w'.cell? ⟨w.heap.size, 0, none⟩ = some (.int .i64 n) ∧ w'.cell? ⟨w.heap.size, 1, none⟩ = some (.int .i64 f)) ∧ (w'.cell? ⟨w.heap.size + 1, 0, none⟩ = some (.string m) ∧ w'.cell? ⟨w.heap.size + 1, 1, none⟩ = some (.int .i64 v) ∧ w'.cell? ⟨w.heap.size + 1, 2, none⟩ = some (.string s) ∧ w'.cell? ⟨w.heap.size + 1, 3, none⟩ = some (.slice ao xs.length ca))) w') := hide fun w' hb' => ⟨hb', ⟨(LC.below hb' LC.lt).cell 0 rfl, (LC.below hb' LC.lt).cell 1 rfl⟩, ⟨(LB.below hb' LB.lt).cell 0 rfl, (LB.below hb' LB.lt).cell 1 rfl, (LB.below hb' LB.lt).cell 2 rfl, (LB.below hb' LB.lt).cell 3 rfl⟩⟩
  go_upto_region 1 with fail
  clear hw0
  have bA : Below w0.heap.size w0 w0.drew := Below.drew (Below.refl _ _)
  refine wp_region_noPanic ?_
  refine wp_region_held_drew (S := fun w' => Below w0.heap.size w0 w' ∧ (w'.cell? ⟨w.heap.size, 0, none⟩ = some (.int .i64 n) ∧ w'.cell? ⟨w.heap.size, 1, none⟩ = some (.int .i64 f)) ∧ (w'.cell? ⟨w.heap.size + 1, 0, none⟩ = some (.string m) ∧ w'.cell? ⟨w.heap.size + 1, 1, none⟩ = some (.int .i64 v) ∧ w'.cell? ⟨w.heap.size + 1, 2, none⟩ = some (.string s) ∧ w'.cell? ⟨w.heap.size + 1, 3, none⟩ = some (.slice ao xs.length ca))) (by kernel_rfl) (unhide K _ bA) (fun hHeld => ?_)
  refine tk 0 5 (v := ?_) rfl (hy := .inl ⟨by rfl, ?_⟩) (h := ?_); rotate_left
  ·intro w hSw; (try dsimp only at hSw); go_simp; (try with_reducible rfl)
  simp only [ps]
  refine tk 1 6 (v := ?_) rfl (hy := .inl ⟨by rfl, ?_⟩) (h := ?_); rotate_left
  ·intro w hSw; (try dsimp only at hSw); go_simp; (try with_reducible rfl)
  simp only [ps]
  refine tk 2 7 (v := ?_) rfl (hy := .inl ⟨by rfl, ?_⟩) (h := ?_); rotate_left
  ·intro w hSw; (try dsimp only at hSw); go_simp; (try with_reducible rfl)
  simp only [ps]
  refine ready_at (i := 3) rfl (by kernel_rfl) (fun KK hKK => ?_)
  go_simp
  have hgo := bA
  refine (unhide OK _ hgo).mono ?_
  rintro e wz1_1 ⟨rfl, bb⟩
  have bz1 : Below w0.heap.size w0 wz1_1 := bA.trans (bb.mono bA.size)
  clear bA hgo bb
  clear hHeld
  refine hKK.out _ _ (unhide K _ bz1) (fun hHeld => ?_)
  clear hKK KK
  refine tk 4 9 (v := ?_) rfl (hy := .inl ⟨by rfl, ?_⟩) (h := ?_); rotate_left
  ·intro w hSw; (try dsimp only at hSw); go_simp; (try with_reducible rfl)
  simp only [ps]
  refine sk 5 10 rfl (h := ?_)
  simp only [ps]
  refine sk 6 11 rfl (h := ?_)
  simp only [ps]
  refine sk 7 12 rfl (h := ?_)
  simp only [ps]
  refine tk 8 13 (v := ?_) rfl (hy := .inl ⟨by rfl, ?_⟩) (h := ?_); rotate_left
  ·intro w hSw; (try dsimp only at hSw); go_simp; (try with_reducible rfl)
  simp only [ps]
  refine tk 9 14 (v := ?_) rfl (hy := .inl ⟨by rfl, ?_⟩) (h := ?_); rotate_left
  ·intro w hSw; (try dsimp only at hSw); go_simp; (try with_reducible rfl)
  simp only [ps]
  refine sk 10 15 rfl (h := ?_)
  simp only [ps]
  refine sk 11 16 rfl (h := ?_)
  simp only [ps]
  refine sk 12 17 rfl (h := ?_)
  simp only [ps]
  refine tk 13 18 (v := ?_) rfl (hy := .inl ⟨by rfl, ?_⟩) (h := ?_); rotate_left
  ·intro w hSw; (try dsimp only at hSw); go_simp; (try with_reducible rfl)
  simp only [ps]
  refine tk 14 19 (v := ?_) rfl (hy := .inl ⟨by rfl, ?_⟩) (h := ?_); rotate_left
  ·intro w hSw; (try dsimp only at hSw); go_simp; (try with_reducible rfl)
  simp only [ps]
  refine sk 15 20 rfl (h := ?_)
  simp only [ps]
  refine sk 18 23 rfl (h := ?_)
  simp only [ps]
  refine sk 16 21 rfl (h := ?_)
  simp only [ps]
  refine sk 19 24 rfl (h := ?_)
  simp only [ps]
  refine sk 17 22 rfl (h := ?_)
  simp only [ps]
  refine sk 20 25 rfl (h := ?_)
  simp only [ps]
  refine sk 21 26 rfl (h := ?_)
  simp only [ps]
  refine tk 22 27 (v := ?_) rfl (hy := .inl ⟨by rfl, ?_⟩) (h := ?_); rotate_left
  ·intro w hSw; (try dsimp only at hSw); go_simp; (try with_reducible rfl)
  simp only [ps]
  refine tk 23 4 (v := ?_) rfl (hy := .inl ⟨by rfl, ?_⟩) (h := ?_); rotate_left
  ·intro w hSw; (try dsimp only at hSw); go_simp; (try with_reducible rfl)
  simp only [ps]
  clear hHeld
  refine wpAnyH_done (by kernel_rfl) ?_ _
  refine NoPanic.normal ?_
  have bb := bz1
  have Bwz1_1 := Bw0.trans (bb.mono Bw0.size)
  have swz1_1 := bb.size
  replace LC := LC.below bb LC.lt
  replace LB := LB.below bb LB.lt
  clear Bw0
  clear bb bz1 K
  go_wp2
  go_ret
  exact ⟨rfl, Bwz1_1⟩
 ·simp only [Bool.true_and]
  cases k
  ·simp only [Bool.false_and]
   go_enter Tryz.func126, Tryz.ntmps126
   have K : Hid (∀ w', Below w0.heap.size w0 w' → (fun w' => Below w0.heap.size w0 w' ∧ (w'.cell? ⟨w.heap.size, 0, none⟩ = some (.int .i64 n) ∧ w'.cell? ⟨w.heap.size, 1, none⟩ = some (.int .i64 f)) ∧ (w'.cell? ⟨w.heap.size + 1, 0, none⟩ = some (.string m) ∧ w'.cell? ⟨w.heap.size + 1, 1, none⟩ = some (.int .i64 v) ∧ w'.cell? ⟨w.heap.size + 1, 2, none⟩ = some (.string s) ∧ w'.cell? ⟨w.heap.size + 1, 3, none⟩ = some (.slice ao xs.length ca))) w') := hide fun w' hb' => ⟨hb', ⟨(LC.below hb' LC.lt).cell 0 rfl, (LC.below hb' LC.lt).cell 1 rfl⟩, ⟨(LB.below hb' LB.lt).cell 0 rfl, (LB.below hb' LB.lt).cell 1 rfl, (LB.below hb' LB.lt).cell 2 rfl, (LB.below hb' LB.lt).cell 3 rfl⟩⟩
   go_upto_region 1 with fail
   clear hw0
   have bA : Below w0.heap.size w0 w0.drew := Below.drew (Below.refl _ _)
   refine wp_region_noPanic ?_
   refine wp_region_held_drew (S := fun w' => Below w0.heap.size w0 w' ∧ (w'.cell? ⟨w.heap.size, 0, none⟩ = some (.int .i64 n) ∧ w'.cell? ⟨w.heap.size, 1, none⟩ = some (.int .i64 f)) ∧ (w'.cell? ⟨w.heap.size + 1, 0, none⟩ = some (.string m) ∧ w'.cell? ⟨w.heap.size + 1, 1, none⟩ = some (.int .i64 v) ∧ w'.cell? ⟨w.heap.size + 1, 2, none⟩ = some (.string s) ∧ w'.cell? ⟨w.heap.size + 1, 3, none⟩ = some (.slice ao xs.length ca))) (by kernel_rfl) (unhide K _ bA) (fun hHeld => ?_)
   refine tk 0 5 (v := ?_) rfl (hy := .inl ⟨by rfl, ?_⟩) (h := ?_); rotate_left
   ·intro w hSw; (try dsimp only at hSw); go_simp; (try with_reducible rfl)
   simp only [ps]
   refine tk 1 6 (v := ?_) rfl (hy := .inl ⟨by rfl, ?_⟩) (h := ?_); rotate_left
   ·intro w hSw; (try dsimp only at hSw); go_simp; (try with_reducible rfl)
   simp only [ps]
   refine tk 2 7 (v := ?_) rfl (hy := .inl ⟨by rfl, ?_⟩) (h := ?_); rotate_left
   ·intro w hSw; (try dsimp only at hSw); go_simp; (try with_reducible rfl)
   simp only [ps]
   refine ready_at (i := 3) rfl (by kernel_rfl) (fun KK hKK => ?_)
   go_simp
   have hgo := bA
   refine (unhide OK _ hgo).mono ?_
   rintro e wz1_1 ⟨rfl, bb⟩
   have bz1 : Below w0.heap.size w0 wz1_1 := bA.trans (bb.mono bA.size)
   clear bA hgo bb
   clear hHeld
   refine hKK.out _ _ (unhide K _ bz1) (fun hHeld => ?_)
   clear hKK KK
   refine tk 4 9 (v := ?_) rfl (hy := .inl ⟨by rfl, ?_⟩) (h := ?_); rotate_left
   ·intro w hSw; (try dsimp only at hSw); go_simp; (try with_reducible rfl)
   simp only [ps]
   refine tk 5 10 (v := ?_) rfl (hy := .inl ⟨by rfl, ?_⟩) (h := ?_); rotate_left
   ·intro w hSw; (try dsimp only at hSw); go_simp; (try with_reducible rfl)
   simp only [ps]
   refine tk 6 11 (v := ?_) rfl (hy := .inl ⟨by rfl, ?_⟩) (h := ?_); rotate_left
   ·intro w hSw; (try dsimp only at hSw); go_simp; (try with_reducible rfl)
   simp only [ps]
   refine ready_at (i := 7) rfl (by kernel_rfl) (fun KK hKK => ?_)
   go_simp
   have hgo := bz1
   refine (unhide NO _).mono ?_
   rintro e wz1_2 ⟨rfl, bb⟩
   have bz2 : Below w0.heap.size w0 wz1_2 := bz1.trans (bb.mono bz1.size)
   clear bz1 hgo bb
   clear hHeld
   refine hKK.out _ _ (unhide K _ bz2) (fun hHeld => ?_)
   clear hKK KK
   refine tk 8 13 (v := ?_) rfl (hy := .inl ⟨by rfl, ?_⟩) (h := ?_); rotate_left
   ·intro w hSw; (try dsimp only at hSw); go_simp; (try with_reducible rfl)
   simp only [ps]
   refine tk 9 14 (v := ?_) rfl (hy := .inl ⟨by rfl, ?_⟩) (h := ?_); rotate_left
   ·intro w hSw; (try dsimp only at hSw); go_simp; (try with_reducible rfl)
   simp only [ps]
   refine sk 10 15 rfl (h := ?_)
   simp only [ps]
   refine sk 11 16 rfl (h := ?_)
   simp only [ps]
   refine sk 12 17 rfl (h := ?_)
   simp only [ps]
   refine tk 13 18 (v := ?_) rfl (hy := .inl ⟨by rfl, ?_⟩) (h := ?_); rotate_left
   ·intro w hSw; (try dsimp only at hSw); go_simp; (try with_reducible rfl)
   simp only [ps]
   refine tk 14 19 (v := ?_) rfl (hy := .inl ⟨by rfl, ?_⟩) (h := ?_); rotate_left
   ·intro w hSw; (try dsimp only at hSw); go_simp; (try with_reducible rfl)
   simp only [ps]
   refine sk 15 20 rfl (h := ?_)
   simp only [ps]
   refine sk 18 23 rfl (h := ?_)
   simp only [ps]
   refine sk 16 21 rfl (h := ?_)
   simp only [ps]
   refine sk 19 24 rfl (h := ?_)
   simp only [ps]
   refine sk 17 22 rfl (h := ?_)
   simp only [ps]
   refine sk 20 25 rfl (h := ?_)
   simp only [ps]
   refine sk 21 26 rfl (h := ?_)
   simp only [ps]
   refine tk 22 27 (v := ?_) rfl (hy := .inl ⟨by rfl, ?_⟩) (h := ?_); rotate_left
   ·intro w hSw; (try dsimp only at hSw); go_simp; (try with_reducible rfl)
   simp only [ps]
   refine tk 23 4 (v := ?_) rfl (hy := .inl ⟨by rfl, ?_⟩) (h := ?_); rotate_left
   ·intro w hSw; (try dsimp only at hSw); go_simp; (try with_reducible rfl)
   simp only [ps]
   clear hHeld
   refine wpAnyH_done (by kernel_rfl) ?_ _
   refine NoPanic.normal ?_
   have bb := bz2
   have Bwz1_2 := Bw0.trans (bb.mono Bw0.size)
   have swz1_2 := bb.size
   replace LC := LC.below bb LC.lt
   replace LB := LB.below bb LB.lt
   clear Bw0
   clear bb bz2 K
   go_wp2
   go_ret
   exact ⟨rfl, Bwz1_2⟩
  ·simp only [Bool.true_and]
   by_cases he : m = ⟨#[]⟩
   ·have hd : decide (m ≠ ⟨#[]⟩) = false := by simpa using he
    have hy : (m.toList == []) = true := by rw [he, ByteArray.toList_eq]; rfl
    rw [hd, Bool.false_and]
    clear he hd
    go_enter Tryz.func126, Tryz.ntmps126
    have K : Hid (∀ w', Below w0.heap.size w0 w' → (fun w' => Below w0.heap.size w0 w' ∧ (w'.cell? ⟨w.heap.size, 0, none⟩ = some (.int .i64 n) ∧ w'.cell? ⟨w.heap.size, 1, none⟩ = some (.int .i64 f)) ∧ (w'.cell? ⟨w.heap.size + 1, 0, none⟩ = some (.string m) ∧ w'.cell? ⟨w.heap.size + 1, 1, none⟩ = some (.int .i64 v) ∧ w'.cell? ⟨w.heap.size + 1, 2, none⟩ = some (.string s) ∧ w'.cell? ⟨w.heap.size + 1, 3, none⟩ = some (.slice ao xs.length ca))) w') := hide fun w' hb' => ⟨hb', ⟨(LC.below hb' LC.lt).cell 0 rfl, (LC.below hb' LC.lt).cell 1 rfl⟩, ⟨(LB.below hb' LB.lt).cell 0 rfl, (LB.below hb' LB.lt).cell 1 rfl, (LB.below hb' LB.lt).cell 2 rfl, (LB.below hb' LB.lt).cell 3 rfl⟩⟩
    go_upto_region 1 with fail
    clear hw0
    have bA : Below w0.heap.size w0 w0.drew := Below.drew (Below.refl _ _)
    refine wp_region_noPanic ?_
    refine wp_region_held_drew (S := fun w' => Below w0.heap.size w0 w' ∧ (w'.cell? ⟨w.heap.size, 0, none⟩ = some (.int .i64 n) ∧ w'.cell? ⟨w.heap.size, 1, none⟩ = some (.int .i64 f)) ∧ (w'.cell? ⟨w.heap.size + 1, 0, none⟩ = some (.string m) ∧ w'.cell? ⟨w.heap.size + 1, 1, none⟩ = some (.int .i64 v) ∧ w'.cell? ⟨w.heap.size + 1, 2, none⟩ = some (.string s) ∧ w'.cell? ⟨w.heap.size + 1, 3, none⟩ = some (.slice ao xs.length ca))) (by kernel_rfl) (unhide K _ bA) (fun hHeld => ?_)
    refine tk 0 5 (v := ?_) rfl (hy := .inl ⟨by rfl, ?_⟩) (h := ?_); rotate_left
    ·intro w hSw; (try dsimp only at hSw); go_simp; (try with_reducible rfl)
    simp only [ps]
    refine tk 1 6 (v := ?_) rfl (hy := .inl ⟨by rfl, ?_⟩) (h := ?_); rotate_left
    ·intro w hSw; (try dsimp only at hSw); go_simp; (try with_reducible rfl)
    simp only [ps]
    refine tk 2 7 (v := ?_) rfl (hy := .inl ⟨by rfl, ?_⟩) (h := ?_); rotate_left
    ·intro w hSw; (try dsimp only at hSw); go_simp; (try with_reducible rfl)
    simp only [ps]
    refine ready_at (i := 3) rfl (by kernel_rfl) (fun KK hKK => ?_)
    go_simp
    have hgo := bA
    refine (unhide OK _ hgo).mono ?_
    rintro e wz1_1 ⟨rfl, bb⟩
    have bz1 : Below w0.heap.size w0 wz1_1 := bA.trans (bb.mono bA.size)
    clear bA hgo bb
    clear hHeld
    refine hKK.out _ _ (unhide K _ bz1) (fun hHeld => ?_)
    clear hKK KK
    refine tk 4 9 (v := ?_) rfl (hy := .inl ⟨by rfl, ?_⟩) (h := ?_); rotate_left
    ·intro w hSw; (try dsimp only at hSw); go_simp; (try with_reducible rfl)
    simp only [ps]
    refine tk 5 10 (v := ?_) rfl (hy := .inl ⟨by rfl, ?_⟩) (h := ?_); rotate_left
    ·intro w hSw; (try dsimp only at hSw); go_simp; (try with_reducible rfl)
    simp only [ps]
    refine tk 6 11 (v := ?_) rfl (hy := .inl ⟨by rfl, ?_⟩) (h := ?_); rotate_left
    ·intro w hSw; (try dsimp only at hSw); go_simp; (try with_reducible rfl)
    simp only [ps]
    refine ready_at (i := 7) rfl (by kernel_rfl) (fun KK hKK => ?_)
    go_simp
    have hgo := bz1
    refine (unhide NO _).mono ?_
    rintro e wz1_2 ⟨rfl, bb⟩
    have bz2 : Below w0.heap.size w0 wz1_2 := bz1.trans (bb.mono bz1.size)
    clear bz1 hgo bb
    clear hHeld
    refine hKK.out _ _ (unhide K _ bz2) (fun hHeld => ?_)
    clear hKK KK
    refine tk 8 13 (v := ?_) rfl (hy := .inl ⟨by rfl, ?_⟩) (h := ?_); rotate_left
    ·intro w hSw; (try dsimp only at hSw); go_simp; (try with_reducible rfl)
    simp only [ps]
    refine tk 9 14 (v := ?_) rfl (hy := .inl ⟨by rfl, ?_⟩) (h := ?_); rotate_left
    ·intro w hSw; (try dsimp only at hSw); go_simp; (try with_reducible rfl)
    simp only [ps]
    refine tk 10 15 (v := ?_) rfl (hy := .inl ⟨by rfl, ?_⟩) (h := ?_); rotate_left
    ·intro w hSw; (try dsimp only at hSw); go_simp; (try with_reducible rfl)
    simp only [ps]
    refine tk 11 16 (v := ?_) rfl (hy := .inl ⟨by rfl, ?_⟩) (h := ?_); rotate_left
    ·intro w hSw; (try dsimp only at hSw); go_simp; (try with_reducible rfl)
    simp only [ps]
    refine tk 12 17 (v := ?_) rfl (hy := .inl ⟨by rfl, ?_⟩) (h := ?_); rotate_left
    ·intro w hSw; (try dsimp only at hSw); go_simp; (try with_reducible rfl)
    simp only [ps]
    refine tk 13 18 (v := ?_) rfl (hy := .inl ⟨by rfl, ?_⟩) (h := ?_); rotate_left
    ·intro w hSw; (try dsimp only at hSw); go_simp; (try with_reducible rfl)
    simp only [ps]
    refine tk 14 19 (v := ?_) rfl (hy := .inl ⟨by rfl, ?_⟩) (h := ?_); rotate_left
    ·intro w hSw; (try dsimp only at hSw); go_simp; (try with_reducible rfl)
    simp only [ps]
    refine sk 15 20 rfl (h := ?_)
    simp only [ps]
    refine sk 18 23 rfl (h := ?_)
    simp only [ps]
    refine sk 16 21 rfl (h := ?_)
    simp only [ps]
    refine sk 19 24 rfl (h := ?_)
    simp only [ps]
    refine sk 17 22 rfl (h := ?_)
    simp only [ps]
    refine sk 20 25 rfl (h := ?_)
    simp only [ps]
    refine sk 21 26 rfl (h := ?_)
    simp only [ps]
    refine tk 22 27 (v := ?_) rfl (hy := .inl ⟨by rfl, ?_⟩) (h := ?_); rotate_left
    ·intro w hSw; (try dsimp only at hSw); go_simp; (try with_reducible rfl)
    simp only [ps]
    refine tk 23 4 (v := ?_) rfl (hy := .inl ⟨by rfl, ?_⟩) (h := ?_); rotate_left
    ·intro w hSw; (try dsimp only at hSw); go_simp; (try with_reducible rfl)
    simp only [ps]
    clear hHeld
    refine wpAnyH_done (by kernel_rfl) ?_ _
    refine NoPanic.normal ?_
    have bb := bz2
    have Bwz1_2 := Bw0.trans (bb.mono Bw0.size)
    have swz1_2 := bb.size
    replace LC := LC.below bb LC.lt
    replace LB := LB.below bb LB.lt
    clear Bw0
    clear bb bz2 K
    go_wp2
    go_ret
    exact ⟨rfl, Bwz1_2⟩
   ·have hd : decide (m ≠ ⟨#[]⟩) = true := by simpa using he
    have hne := ne2 he
    rw [hd, Bool.true_and]
    clear he hd
    by_cases hu : u = s
    ·have hv : decide (u = s) = true := by simpa using hu
     have hy := str_yes hu
     rw [hv]
     clear hu hv
     go_enter Tryz.func126, Tryz.ntmps126
     have K : Hid (∀ w', Below w0.heap.size w0 w' → (fun w' => Below w0.heap.size w0 w' ∧ (w'.cell? ⟨w.heap.size, 0, none⟩ = some (.int .i64 n) ∧ w'.cell? ⟨w.heap.size, 1, none⟩ = some (.int .i64 f)) ∧ (w'.cell? ⟨w.heap.size + 1, 0, none⟩ = some (.string m) ∧ w'.cell? ⟨w.heap.size + 1, 1, none⟩ = some (.int .i64 v) ∧ w'.cell? ⟨w.heap.size + 1, 2, none⟩ = some (.string s) ∧ w'.cell? ⟨w.heap.size + 1, 3, none⟩ = some (.slice ao xs.length ca))) w') := hide fun w' hb' => ⟨hb', ⟨(LC.below hb' LC.lt).cell 0 rfl, (LC.below hb' LC.lt).cell 1 rfl⟩, ⟨(LB.below hb' LB.lt).cell 0 rfl, (LB.below hb' LB.lt).cell 1 rfl, (LB.below hb' LB.lt).cell 2 rfl, (LB.below hb' LB.lt).cell 3 rfl⟩⟩
     go_upto_region 1 with fail
     clear hw0
     have bA : Below w0.heap.size w0 w0.drew := Below.drew (Below.refl _ _)
     refine wp_region_noPanic ?_
     refine wp_region_held_drew (S := fun w' => Below w0.heap.size w0 w' ∧ (w'.cell? ⟨w.heap.size, 0, none⟩ = some (.int .i64 n) ∧ w'.cell? ⟨w.heap.size, 1, none⟩ = some (.int .i64 f)) ∧ (w'.cell? ⟨w.heap.size + 1, 0, none⟩ = some (.string m) ∧ w'.cell? ⟨w.heap.size + 1, 1, none⟩ = some (.int .i64 v) ∧ w'.cell? ⟨w.heap.size + 1, 2, none⟩ = some (.string s) ∧ w'.cell? ⟨w.heap.size + 1, 3, none⟩ = some (.slice ao xs.length ca))) (by kernel_rfl) (unhide K _ bA) (fun hHeld => ?_)
     refine tk 0 5 (v := ?_) rfl (hy := .inl ⟨by rfl, ?_⟩) (h := ?_); rotate_left
     ·intro w hSw; (try dsimp only at hSw); go_simp; (try with_reducible rfl)
     simp only [ps]
     refine tk 1 6 (v := ?_) rfl (hy := .inl ⟨by rfl, ?_⟩) (h := ?_); rotate_left
     ·intro w hSw; (try dsimp only at hSw); go_simp; (try with_reducible rfl)
     simp only [ps]
     refine tk 2 7 (v := ?_) rfl (hy := .inl ⟨by rfl, ?_⟩) (h := ?_); rotate_left
     ·intro w hSw; (try dsimp only at hSw); go_simp; (try with_reducible rfl)
     simp only [ps]
     refine ready_at (i := 3) rfl (by kernel_rfl) (fun KK hKK => ?_)
     go_simp
     have hgo := bA
     refine (unhide OK _ hgo).mono ?_
     rintro e wz1_1 ⟨rfl, bb⟩
     have bz1 : Below w0.heap.size w0 wz1_1 := bA.trans (bb.mono bA.size)
     clear bA hgo bb
     clear hHeld
     refine hKK.out _ _ (unhide K _ bz1) (fun hHeld => ?_)
     clear hKK KK
     refine tk 4 9 (v := ?_) rfl (hy := .inl ⟨by rfl, ?_⟩) (h := ?_); rotate_left
     ·intro w hSw; (try dsimp only at hSw); go_simp; (try with_reducible rfl)
     simp only [ps]
     refine tk 5 10 (v := ?_) rfl (hy := .inl ⟨by rfl, ?_⟩) (h := ?_); rotate_left
     ·intro w hSw; (try dsimp only at hSw); go_simp; (try with_reducible rfl)
     simp only [ps]
     refine tk 6 11 (v := ?_) rfl (hy := .inl ⟨by rfl, ?_⟩) (h := ?_); rotate_left
     ·intro w hSw; (try dsimp only at hSw); go_simp; (try with_reducible rfl)
     simp only [ps]
     refine ready_at (i := 7) rfl (by kernel_rfl) (fun KK hKK => ?_)
     go_simp
     have hgo := bz1
     refine (unhide NO _).mono ?_
     rintro e wz1_2 ⟨rfl, bb⟩
     have bz2 : Below w0.heap.size w0 wz1_2 := bz1.trans (bb.mono bz1.size)
     clear bz1 hgo bb
     clear hHeld
     refine hKK.out _ _ (unhide K _ bz2) (fun hHeld => ?_)
     clear hKK KK
     refine tk 8 13 (v := ?_) rfl (hy := .inl ⟨by rfl, ?_⟩) (h := ?_); rotate_left
     ·intro w hSw; (try dsimp only at hSw); go_simp; (try with_reducible rfl)
     simp only [ps]
     refine tk 9 14 (v := ?_) rfl (hy := .inl ⟨by rfl, ?_⟩) (h := ?_); rotate_left
     ·intro w hSw; (try dsimp only at hSw); go_simp; (try with_reducible rfl)
     simp only [ps]
     refine tk 10 15 (v := ?_) rfl (hy := .inl ⟨by rfl, ?_⟩) (h := ?_); rotate_left
     ·intro w hSw; (try dsimp only at hSw); go_simp; (try with_reducible rfl)
     simp only [ps]
     refine tk 11 16 (v := ?_) rfl (hy := .inl ⟨by rfl, ?_⟩) (h := ?_); rotate_left
     ·intro w hSw; (try dsimp only at hSw); go_simp; (try with_reducible rfl)
     simp only [ps]
     refine tk 12 17 (v := ?_) rfl (hy := .inl ⟨by rfl, ?_⟩) (h := ?_); rotate_left
     ·intro w hSw; (try dsimp only at hSw); go_simp; (try with_reducible rfl)
     simp only [ps]
     refine tk 13 18 (v := ?_) rfl (hy := .inl ⟨by rfl, ?_⟩) (h := ?_); rotate_left
     ·intro w hSw; (try dsimp only at hSw); go_simp; (try with_reducible rfl)
     simp only [ps]
     refine tk 14 19 (v := ?_) rfl (hy := .inl ⟨by rfl, ?_⟩) (h := ?_); rotate_left
     ·intro w hSw; (try dsimp only at hSw); go_simp; (try with_reducible rfl)
     simp only [ps]
     refine tk 15 20 (v := ?_) rfl (hy := .inl ⟨by rfl, ?_⟩) (h := ?_); rotate_left
     ·intro w hSw; (try dsimp only at hSw); go_simp; (try with_reducible rfl)
     simp only [ps]
     refine tk 18 23 (v := ?_) rfl (hy := .inl ⟨by rfl, ?_⟩) (h := ?_); rotate_left
     ·intro w hSw; (try dsimp only at hSw); go_simp; (try with_reducible rfl)
     simp only [ps]
     refine tk 16 21 (v := ?_) rfl (hy := .inl ⟨by rfl, ?_⟩) (h := ?_); rotate_left
     ·intro w hSw; (try dsimp only at hSw); go_simp; (try with_reducible rfl)
     simp only [ps]
     refine tk 19 24 (v := ?_) rfl (hy := .inl ⟨by rfl, ?_⟩) (h := ?_); rotate_left
     ·intro w hSw; (try dsimp only at hSw); go_simp; (try with_reducible rfl)
     simp only [ps]
     refine tk 20 25 (v := ?_) rfl (hy := .inl ⟨by rfl, ?_⟩) (h := ?_); rotate_left
     ·intro w hSw; (try dsimp only at hSw); go_simp; (try with_reducible rfl)
     simp only [ps]
     refine ready_at (i := 17) rfl (by kernel_rfl) (fun KK hKK => ?_)
     go_simp
     have hgo := bz2
     refine (unhide UP _).mono ?_
     rintro e wz1_3 ⟨rfl, bb⟩
     have bz3 : Below w0.heap.size w0 wz1_3 := bz2.trans (bb.mono bz2.size)
     clear bz2 hgo bb
     clear hHeld
     refine hKK.out _ _ (unhide K _ bz3) (fun hHeld => ?_)
     clear hKK KK
     refine tk 21 26 (v := ?_) rfl (hy := .inl ⟨by rfl, ?_⟩) (h := ?_); rotate_left
     ·intro w hSw; (try dsimp only at hSw); go_simp; (try with_reducible rfl)
     simp only [ps]
     refine tk 22 27 (v := ?_) rfl (hy := .inl ⟨by rfl, ?_⟩) (h := ?_); rotate_left
     ·intro w hSw; (try dsimp only at hSw); go_simp; (try with_reducible rfl)
     simp only [ps]
     refine tk 23 4 (v := ?_) rfl (hy := .inl ⟨by rfl, ?_⟩) (h := ?_); rotate_left
     ·intro w hSw; (try dsimp only at hSw); go_simp; (try with_reducible rfl)
     simp only [ps]
     clear hHeld
     refine wpAnyH_done (by kernel_rfl) ?_ _
     refine NoPanic.normal ?_
     have bb := bz3
     have Bwz1_3 := Bw0.trans (bb.mono Bw0.size)
     have swz1_3 := bb.size
     replace LC := LC.below bb LC.lt
     replace LB := LB.below bb LB.lt
     clear Bw0
     clear bb bz3 K
     go_wp2
     go_ret
     exact ⟨rfl, Bwz1_3⟩
    ·have hv : decide (u = s) = false := by simpa using hu
     have hy := str_ne hu
     rw [hv]
     clear hu hv
     go_enter Tryz.func126, Tryz.ntmps126
     have K : Hid (∀ w', Below w0.heap.size w0 w' → (fun w' => Below w0.heap.size w0 w' ∧ (w'.cell? ⟨w.heap.size, 0, none⟩ = some (.int .i64 n) ∧ w'.cell? ⟨w.heap.size, 1, none⟩ = some (.int .i64 f)) ∧ (w'.cell? ⟨w.heap.size + 1, 0, none⟩ = some (.string m) ∧ w'.cell? ⟨w.heap.size + 1, 1, none⟩ = some (.int .i64 v) ∧ w'.cell? ⟨w.heap.size + 1, 2, none⟩ = some (.string s) ∧ w'.cell? ⟨w.heap.size + 1, 3, none⟩ = some (.slice ao xs.length ca))) w') := hide fun w' hb' => ⟨hb', ⟨(LC.below hb' LC.lt).cell 0 rfl, (LC.below hb' LC.lt).cell 1 rfl⟩, ⟨(LB.below hb' LB.lt).cell 0 rfl, (LB.below hb' LB.lt).cell 1 rfl, (LB.below hb' LB.lt).cell 2 rfl, (LB.below hb' LB.lt).cell 3 rfl⟩⟩
     go_upto_region 1 with fail
     clear hw0
     have bA : Below w0.heap.size w0 w0.drew := Below.drew (Below.refl _ _)
     refine wp_region_noPanic ?_
     refine wp_region_held_drew (S := fun w' => Below w0.heap.size w0 w' ∧ (w'.cell? ⟨w.heap.size, 0, none⟩ = some (.int .i64 n) ∧ w'.cell? ⟨w.heap.size, 1, none⟩ = some (.int .i64 f)) ∧ (w'.cell? ⟨w.heap.size + 1, 0, none⟩ = some (.string m) ∧ w'.cell? ⟨w.heap.size + 1, 1, none⟩ = some (.int .i64 v) ∧ w'.cell? ⟨w.heap.size + 1, 2, none⟩ = some (.string s) ∧ w'.cell? ⟨w.heap.size + 1, 3, none⟩ = some (.slice ao xs.length ca))) (by kernel_rfl) (unhide K _ bA) (fun hHeld => ?_)
     refine tk 0 5 (v := ?_) rfl (hy := .inl ⟨by rfl, ?_⟩) (h := ?_); rotate_left
     ·intro w hSw; (try dsimp only at hSw); go_simp; (try with_reducible rfl)
     simp only [ps]
     refine tk 1 6 (v := ?_) rfl (hy := .inl ⟨by rfl, ?_⟩) (h := ?_); rotate_left
     ·intro w hSw; (try dsimp only at hSw); go_simp; (try with_reducible rfl)
     simp only [ps]
     refine tk 2 7 (v := ?_) rfl (hy := .inl ⟨by rfl, ?_⟩) (h := ?_); rotate_left
     ·intro w hSw; (try dsimp only at hSw); go_simp; (try with_reducible rfl)
     simp only [ps]
     refine ready_at (i := 3) rfl (by kernel_rfl) (fun KK hKK => ?_)
     go_simp
     have hgo := bA
     refine (unhide OK _ hgo).mono ?_
     rintro e wz1_1 ⟨rfl, bb⟩
     have bz1 : Below w0.heap.size w0 wz1_1 := bA.trans (bb.mono bA.size)
     clear bA hgo bb
     clear hHeld
     refine hKK.out _ _ (unhide K _ bz1) (fun hHeld => ?_)
     clear hKK KK
     refine tk 4 9 (v := ?_) rfl (hy := .inl ⟨by rfl, ?_⟩) (h := ?_); rotate_left
     ·intro w hSw; (try dsimp only at hSw); go_simp; (try with_reducible rfl)
     simp only [ps]
     refine tk 5 10 (v := ?_) rfl (hy := .inl ⟨by rfl, ?_⟩) (h := ?_); rotate_left
     ·intro w hSw; (try dsimp only at hSw); go_simp; (try with_reducible rfl)
     simp only [ps]
     refine tk 6 11 (v := ?_) rfl (hy := .inl ⟨by rfl, ?_⟩) (h := ?_); rotate_left
     ·intro w hSw; (try dsimp only at hSw); go_simp; (try with_reducible rfl)
     simp only [ps]
     refine ready_at (i := 7) rfl (by kernel_rfl) (fun KK hKK => ?_)
     go_simp
     have hgo := bz1
     refine (unhide NO _).mono ?_
     rintro e wz1_2 ⟨rfl, bb⟩
     have bz2 : Below w0.heap.size w0 wz1_2 := bz1.trans (bb.mono bz1.size)
     clear bz1 hgo bb
     clear hHeld
     refine hKK.out _ _ (unhide K _ bz2) (fun hHeld => ?_)
     clear hKK KK
     refine tk 8 13 (v := ?_) rfl (hy := .inl ⟨by rfl, ?_⟩) (h := ?_); rotate_left
     ·intro w hSw; (try dsimp only at hSw); go_simp; (try with_reducible rfl)
     simp only [ps]
     refine tk 9 14 (v := ?_) rfl (hy := .inl ⟨by rfl, ?_⟩) (h := ?_); rotate_left
     ·intro w hSw; (try dsimp only at hSw); go_simp; (try with_reducible rfl)
     simp only [ps]
     refine tk 10 15 (v := ?_) rfl (hy := .inl ⟨by rfl, ?_⟩) (h := ?_); rotate_left
     ·intro w hSw; (try dsimp only at hSw); go_simp; (try with_reducible rfl)
     simp only [ps]
     refine tk 11 16 (v := ?_) rfl (hy := .inl ⟨by rfl, ?_⟩) (h := ?_); rotate_left
     ·intro w hSw; (try dsimp only at hSw); go_simp; (try with_reducible rfl)
     simp only [ps]
     refine tk 12 17 (v := ?_) rfl (hy := .inl ⟨by rfl, ?_⟩) (h := ?_); rotate_left
     ·intro w hSw; (try dsimp only at hSw); go_simp; (try with_reducible rfl)
     simp only [ps]
     refine tk 13 18 (v := ?_) rfl (hy := .inl ⟨by rfl, ?_⟩) (h := ?_); rotate_left
     ·intro w hSw; (try dsimp only at hSw); go_simp; (try with_reducible rfl)
     simp only [ps]
     refine tk 14 19 (v := ?_) rfl (hy := .inl ⟨by rfl, ?_⟩) (h := ?_); rotate_left
     ·intro w hSw; (try dsimp only at hSw); go_simp; (try with_reducible rfl)
     simp only [ps]
     refine tk 15 20 (v := ?_) rfl (hy := .inl ⟨by rfl, ?_⟩) (h := ?_); rotate_left
     ·intro w hSw; (try dsimp only at hSw); go_simp; (try with_reducible rfl)
     simp only [ps]
     refine tk 18 23 (v := ?_) rfl (hy := .inl ⟨by rfl, ?_⟩) (h := ?_); rotate_left
     ·intro w hSw; (try dsimp only at hSw); go_simp; (try with_reducible rfl)
     simp only [ps]
     refine tk 16 21 (v := ?_) rfl (hy := .inl ⟨by rfl, ?_⟩) (h := ?_); rotate_left
     ·intro w hSw; (try dsimp only at hSw); go_simp; (try with_reducible rfl)
     simp only [ps]
     refine tk 19 24 (v := ?_) rfl (hy := .inl ⟨by rfl, ?_⟩) (h := ?_); rotate_left
     ·intro w hSw; (try dsimp only at hSw); go_simp; (try with_reducible rfl)
     simp only [ps]
     refine tk 20 25 (v := ?_) rfl (hy := .inl ⟨by rfl, ?_⟩) (h := ?_); rotate_left
     ·intro w hSw; (try dsimp only at hSw); go_simp; (try with_reducible rfl)
     simp only [ps]
     refine ready_at (i := 17) rfl (by kernel_rfl) (fun KK hKK => ?_)
     go_simp
     have hgo := bz2
     refine (unhide UP _).mono ?_
     rintro e wz1_3 ⟨rfl, bb⟩
     have bz3 : Below w0.heap.size w0 wz1_3 := bz2.trans (bb.mono bz2.size)
     clear bz2 hgo bb
     clear hHeld
     refine hKK.out _ _ (unhide K _ bz3) (fun hHeld => ?_)
     clear hKK KK
     refine tk 21 26 (v := ?_) rfl (hy := .inl ⟨by rfl, ?_⟩) (h := ?_); rotate_left
     ·intro w hSw; (try dsimp only at hSw); go_simp; (try with_reducible rfl)
     simp only [ps]
     refine tk 22 27 (v := ?_) rfl (hy := .inl ⟨by rfl, ?_⟩) (h := ?_); rotate_left
     ·intro w hSw; (try dsimp only at hSw); go_simp; (try with_reducible rfl)
     simp only [ps]
     refine tk 23 4 (v := ?_) rfl (hy := .inl ⟨by rfl, ?_⟩) (h := ?_); rotate_left
     ·intro w hSw; (try dsimp only at hSw); go_simp; (try with_reducible rfl)
     simp only [ps]
     clear hHeld
     refine wpAnyH_done (by kernel_rfl) ?_ _
     refine NoPanic.normal ?_
     have bb := bz3
     have Bwz1_3 := Bw0.trans (bb.mono Bw0.size)
     have swz1_3 := bb.size
     replace LC := LC.below bb LC.lt
     replace LB := LB.below bb LB.lt
     clear Bw0
     clear bb bz3 K
     go_wp2
     go_ret
     exact ⟨rfl, Bwz1_3⟩
end Go.Proofs.YtmpmedbojfjnaaaGreatDoor
