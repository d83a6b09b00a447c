/- BlockOk of the program and of the specification. -/
import Derived.Test.YtndpjhiidmdlhaaGreatDoorRCAW
import Derived.Test.YtndpjhiidmdlhaaGreatDoorRCAE
import Derived.Test.YtndpjhiidmdlhaaGreatDoorRCAU
import Derived.Test.YtndpjhiidmdlhaaGreatDoorRCAT
set_option maxRecDepth 100000
set_option maxHeartbeats 8000000
namespace Go.Proofs.YtndpjhiidmdlhaaGreatDoor
open Go.RowKit
set_option linter.unusedSectionVars false
variable [∀ (a b c d : Int), Decidable (Ok4 a b c d)]
variable [∀ (a b c d : Nat), Decidable (okN a b c d)]
variable [∀ (last : Int) (s : St), Decidable (GoodSt last s)]
variable [∀ (x : T4), Decidable (OkT x)]
variable [∀ (n : Int) (s : List Int), Decidable (OkL n s)]
variable [∀ (n f : Int), Decidable (COk n f)]

theorem str_yes {s t : ByteArray} (h : s = t) : (s.toList == t.toList) = true := by simp [h]
theorem implBlockOk (n f : Int) (m : ByteArray) (v : Int) (s : ByteArray) (ao : Option Addr) (ca : Nat) (xs : List Int) (w : World) (hm : m.size ≤ 33554432) (hs : s.size ≤ 33554432) (hE : Env w) (ha : RI w (.slice ao xs.length ca) xs) :
 Calls Tryz.prog 365 #[cv n f, bv m v s (.slice ao xs.length ca)] w fun e w' => e = .returned (.bool (bokB n f m v s xs)) ∧ Below w.heap.size w w' := by
 obtain ⟨w0, hw0, Bw0, LC, LB, _⟩:=bx2 w #[.int .i64 n,.int .i64 f] 39 #[.string m,.int .i64 v,.string s,.slice ao xs.length ca] 81
 have OK:=hide fun w' (b : Below w0.heap.size w0 w') => implQcOk n f v s ao ca xs w' hs ((hE.below Bw0).below b) ((ha.below Bw0).below b)
 have HT:=hide fun w' (b : Below w0.heap.size w0 w') => implHeight m w' hm ((hE.below Bw0).below b)
 have UP:=hide fun w' (b : Below w0.heap.size w0 w') => implUpOf m w' hm ((hE.below Bw0).below b)
 have hB : bokB n f m v s xs = (qokB n f v s xs && decide (0 < heightAns m) && decide (upAns m = s)):=rfl
 rw [hB]
 clear hB ha hE
 generalize qokB n f v s xs = q at *
 generalize heightAns m = k at *
 generalize upAns m = u at *
 cases q
 ·simp only [Bool.false_and]
  go_enter Tryz.func365, Tryz.ntmps365
  have K : Hid (∀ w', Below w0.heap.size w0 w' → (fun w' => Below w0.heap.size w0 w' ∧ (w'.cell? ⟨w.heap.size, 0, none⟩ = some (.int .i64 n) ∧ w'.cell? ⟨w.heap.size, 1, none⟩ = some (.int .i64 f)) ∧ (w'.cell? ⟨w.heap.size + 1, 0, none⟩ = some (.string m) ∧ w'.cell? ⟨w.heap.size + 1, 1, none⟩ = some (.int .i64 v) ∧ w'.cell? ⟨w.heap.size + 1, 2, none⟩ = some (.string s) ∧ w'.cell? ⟨w.heap.size + 1, 3, none⟩ = some (.slice ao xs.length ca))) w'):=hide fun w' hb' => ⟨hb', ⟨(LC.up hb').cell 0 rfl, (LC.up hb').cell 1 rfl⟩, ⟨(LB.up hb').cell 0 rfl, (LB.up hb').cell 1 rfl, (LB.up hb').cell 2 rfl, (LB.up hb').cell 3 rfl⟩⟩
  go_upto_region 1 with fail
  clear hw0
  have bA : Below w0.heap.size w0 w0.drew:=Below.drew (Below.refl _ _)
  refine wrn K bA (fun hHeld => ?_)
  refine' tj 0 5 rfl ?_ ?_;rotate_left
  ·intro w h;go_simp;try rfl
  simp only [pU]
  refine' tj 1 6 rfl ?_ ?_;rotate_left
  ·intro w h;go_simp;try rfl
  simp only [pU]
  refine' tj 2 7 rfl ?_ ?_;rotate_left
  ·intro w h;go_simp;try rfl
  simp only [pU]
  refine rd 3 rfl (fun KK hKK => ?_)
  go_simp
  have hgo:=bA
  refine (OK.out _ hgo).mono ?_
  rintro e wz1_1 ⟨rfl, bb⟩
  have bz1 : Below w0.heap.size w0 wz1_1:=bu bA bb
  clear bA hgo bb
  clear hHeld
  refine hKK.out _ _ (K.out _ bz1) (fun hHeld => ?_)
  clear hKK KK
  refine' tj 4 9 rfl ?_ ?_;rotate_left
  ·intro w h;go_simp;try rfl
  simp only [pU]
  refine sk 5 10 rfl (h := ?_)
  simp only [pU]
  refine sk 6 11 rfl (h := ?_)
  simp only [pU]
  refine sk 7 12 rfl (h := ?_)
  simp only [pU]
  refine sk 8 13 rfl (h := ?_)
  simp only [pU]
  refine' tj 9 14 rfl ?_ ?_;rotate_left
  ·intro w h;go_simp;try rfl
  simp only [pU]
  refine' tj 10 15 rfl ?_ ?_;rotate_left
  ·intro w h;go_simp;try rfl
  simp only [pU]
  refine sk 11 16 rfl (h := ?_)
  simp only [pU]
  refine sk 14 19 rfl (h := ?_)
  simp only [pU]
  refine sk 12 17 rfl (h := ?_)
  simp only [pU]
  refine sk 15 20 rfl (h := ?_)
  simp only [pU]
  refine sk 13 18 rfl (h := ?_)
  simp only [pU]
  refine sk 16 21 rfl (h := ?_)
  simp only [pU]
  refine sk 17 22 rfl (h := ?_)
  simp only [pU]
  refine' tj 18 23 rfl ?_ ?_;rotate_left
  ·intro w h;go_simp;try rfl
  simp only [pU]
  refine' tj 19 4 rfl ?_ ?_;rotate_left
  ·intro w h;go_simp;try rfl
  simp only [pU]
  clear hHeld
  refine wdn ?_
  have bb:=bz1
  have Bwz1_1:=bu Bw0 bb
  have swz1_1:=bb.size
  replace LC:=LC.up bb
  replace LB:=LB.up bb
  clear Bw0
  clear bb bz1 K
  go_wp2
  go_ret
  exact ⟨rfl, Bwz1_1⟩
 ·simp only [Bool.true_and]
  by_cases hk : 0 < k
  ·have hd : decide (0 < k) = true:=by simpa using hk
   rw [hd, Bool.true_and]
   by_cases hu : u = s
   ·have hv : decide (u = s) = true:=by simpa using hu
    have hy:=str_yes hu
    rw [hv]
    clear hu hv
    go_enter Tryz.func365, Tryz.ntmps365
    have K : Hid (∀ w', Below w0.heap.size w0 w' → (fun w' => Below w0.heap.size w0 w' ∧ (w'.cell? ⟨w.heap.size, 0, none⟩ = some (.int .i64 n) ∧ w'.cell? ⟨w.heap.size, 1, none⟩ = some (.int .i64 f)) ∧ (w'.cell? ⟨w.heap.size + 1, 0, none⟩ = some (.string m) ∧ w'.cell? ⟨w.heap.size + 1, 1, none⟩ = some (.int .i64 v) ∧ w'.cell? ⟨w.heap.size + 1, 2, none⟩ = some (.string s) ∧ w'.cell? ⟨w.heap.size + 1, 3, none⟩ = some (.slice ao xs.length ca))) w'):=hide fun w' hb' => ⟨hb', ⟨(LC.up hb').cell 0 rfl, (LC.up hb').cell 1 rfl⟩, ⟨(LB.up hb').cell 0 rfl, (LB.up hb').cell 1 rfl, (LB.up hb').cell 2 rfl, (LB.up hb').cell 3 rfl⟩⟩
    go_upto_region 1 with fail
    clear hw0
    have bA : Below w0.heap.size w0 w0.drew:=Below.drew (Below.refl _ _)
    refine wrn K bA (fun hHeld => ?_)
    refine' tj 0 5 rfl ?_ ?_;rotate_left
    ·intro w h;go_simp;try rfl
    simp only [pU]
    refine' tj 1 6 rfl ?_ ?_;rotate_left
    ·intro w h;go_simp;try rfl
    simp only [pU]
    refine' tj 2 7 rfl ?_ ?_;rotate_left
    ·intro w h;go_simp;try rfl
    simp only [pU]
    refine rd 3 rfl (fun KK hKK => ?_)
    go_simp
    have hgo:=bA
    refine (OK.out _ hgo).mono ?_
    rintro e wz1_1 ⟨rfl, bb⟩
    have bz1 : Below w0.heap.size w0 wz1_1:=bu bA bb
    clear bA hgo bb
    clear hHeld
    refine hKK.out _ _ (K.out _ bz1) (fun hHeld => ?_)
    clear hKK KK
    refine' tj 4 9 rfl ?_ ?_;rotate_left
    ·intro w h;go_simp;try rfl
    simp only [pU]
    refine' tj 5 10 rfl ?_ ?_;rotate_left
    ·intro w h;go_simp;try rfl
    simp only [pU]
    refine' tj 6 11 rfl ?_ ?_;rotate_left
    ·intro w h;go_simp;try rfl
    simp only [pU]
    refine rd 7 rfl (fun KK hKK => ?_)
    go_simp
    have hgo:=bz1
    refine (HT.out _ hgo).mono ?_
    rintro e wz1_2 ⟨rfl, bb⟩
    have bz2 : Below w0.heap.size w0 wz1_2:=bu bz1 bb
    clear bz1 hgo bb
    clear hHeld
    refine hKK.out _ _ (K.out _ bz2) (fun hHeld => ?_)
    clear hKK KK
    refine' tj 8 13 rfl ?_ ?_;rotate_left
    ·intro w h;go_simp;try rfl
    simp only [pU]
    refine' tj 9 14 rfl ?_ ?_;rotate_left
    ·intro w h;go_simp;try rfl
    simp only [pU]
    refine' tj 10 15 rfl ?_ ?_;rotate_left
    ·intro w h;go_simp;try rfl
    simp only [pU]
    refine' tj 11 16 rfl ?_ ?_;rotate_left
    ·intro w h;go_simp;try rfl
    simp only [pU]
    refine' tj 14 19 rfl ?_ ?_;rotate_left
    ·intro w h;go_simp;try rfl
    simp only [pU]
    refine' tj 12 17 rfl ?_ ?_;rotate_left
    ·intro w h;go_simp;try rfl
    simp only [pU]
    refine' tj 15 20 rfl ?_ ?_;rotate_left
    ·intro w h;go_simp;try rfl
    simp only [pU]
    refine' tj 16 21 rfl ?_ ?_;rotate_left
    ·intro w h;go_simp;try rfl
    simp only [pU]
    refine rd 13 rfl (fun KK hKK => ?_)
    go_simp
    have hgo:=bz2
    refine (UP.out _ hgo).mono ?_
    rintro e wz1_3 ⟨rfl, bb⟩
    have bz3 : Below w0.heap.size w0 wz1_3:=bu bz2 bb
    clear bz2 hgo bb
    clear hHeld
    refine hKK.out _ _ (K.out _ bz3) (fun hHeld => ?_)
    clear hKK KK
    refine' tj 17 22 rfl ?_ ?_;rotate_left
    ·intro w h;go_simp;try rfl
    simp only [pU]
    refine' tj 18 23 rfl ?_ ?_;rotate_left
    ·intro w h;go_simp;try rfl
    simp only [pU]
    refine' tj 19 4 rfl ?_ ?_;rotate_left
    ·intro w h;go_simp;try rfl
    simp only [pU]
    clear hHeld
    refine wdn ?_
    have bb:=bz3
    have Bwz1_3:=bu Bw0 bb
    have swz1_3:=bb.size
    replace LC:=LC.up bb
    replace LB:=LB.up bb
    clear Bw0
    clear bb bz3 K
    go_wp2
    go_ret
    exact ⟨rfl, Bwz1_3⟩
   ·have hv : decide (u = s) = false:=by simpa using hu
    have hy:=str_ne hu
    rw [hv]
    clear hu hv
    go_enter Tryz.func365, Tryz.ntmps365
    have K : Hid (∀ w', Below w0.heap.size w0 w' → (fun w' => Below w0.heap.size w0 w' ∧ (w'.cell? ⟨w.heap.size, 0, none⟩ = some (.int .i64 n) ∧ w'.cell? ⟨w.heap.size, 1, none⟩ = some (.int .i64 f)) ∧ (w'.cell? ⟨w.heap.size + 1, 0, none⟩ = some (.string m) ∧ w'.cell? ⟨w.heap.size + 1, 1, none⟩ = some (.int .i64 v) ∧ w'.cell? ⟨w.heap.size + 1, 2, none⟩ = some (.string s) ∧ w'.cell? ⟨w.heap.size + 1, 3, none⟩ = some (.slice ao xs.length ca))) w'):=hide fun w' hb' => ⟨hb', ⟨(LC.up hb').cell 0 rfl, (LC.up hb').cell 1 rfl⟩, ⟨(LB.up hb').cell 0 rfl, (LB.up hb').cell 1 rfl, (LB.up hb').cell 2 rfl, (LB.up hb').cell 3 rfl⟩⟩
    go_upto_region 1 with fail
    clear hw0
    have bA : Below w0.heap.size w0 w0.drew:=Below.drew (Below.refl _ _)
    refine wrn K bA (fun hHeld => ?_)
    refine' tj 0 5 rfl ?_ ?_;rotate_left
    ·intro w h;go_simp;try rfl
    simp only [pU]
    refine' tj 1 6 rfl ?_ ?_;rotate_left
    ·intro w h;go_simp;try rfl
    simp only [pU]
    refine' tj 2 7 rfl ?_ ?_;rotate_left
    ·intro w h;go_simp;try rfl
    simp only [pU]
    refine rd 3 rfl (fun KK hKK => ?_)
    go_simp
    have hgo:=bA
    refine (OK.out _ hgo).mono ?_
    rintro e wz1_1 ⟨rfl, bb⟩
    have bz1 : Below w0.heap.size w0 wz1_1:=bu bA bb
    clear bA hgo bb
    clear hHeld
    refine hKK.out _ _ (K.out _ bz1) (fun hHeld => ?_)
    clear hKK KK
    refine' tj 4 9 rfl ?_ ?_;rotate_left
    ·intro w h;go_simp;try rfl
    simp only [pU]
    refine' tj 5 10 rfl ?_ ?_;rotate_left
    ·intro w h;go_simp;try rfl
    simp only [pU]
    refine' tj 6 11 rfl ?_ ?_;rotate_left
    ·intro w h;go_simp;try rfl
    simp only [pU]
    refine rd 7 rfl (fun KK hKK => ?_)
    go_simp
    have hgo:=bz1
    refine (HT.out _ hgo).mono ?_
    rintro e wz1_2 ⟨rfl, bb⟩
    have bz2 : Below w0.heap.size w0 wz1_2:=bu bz1 bb
    clear bz1 hgo bb
    clear hHeld
    refine hKK.out _ _ (K.out _ bz2) (fun hHeld => ?_)
    clear hKK KK
    refine' tj 8 13 rfl ?_ ?_;rotate_left
    ·intro w h;go_simp;try rfl
    simp only [pU]
    refine' tj 9 14 rfl ?_ ?_;rotate_left
    ·intro w h;go_simp;try rfl
    simp only [pU]
    refine' tj 10 15 rfl ?_ ?_;rotate_left
    ·intro w h;go_simp;try rfl
    simp only [pU]
    refine' tj 11 16 rfl ?_ ?_;rotate_left
    ·intro w h;go_simp;try rfl
    simp only [pU]
    refine' tj 14 19 rfl ?_ ?_;rotate_left
    ·intro w h;go_simp;try rfl
    simp only [pU]
    refine' tj 12 17 rfl ?_ ?_;rotate_left
    ·intro w h;go_simp;try rfl
    simp only [pU]
    refine' tj 15 20 rfl ?_ ?_;rotate_left
    ·intro w h;go_simp;try rfl
    simp only [pU]
    refine' tj 16 21 rfl ?_ ?_;rotate_left
    ·intro w h;go_simp;try rfl
    simp only [pU]
    refine rd 13 rfl (fun KK hKK => ?_)
    go_simp
    have hgo:=bz2
    refine (UP.out _ hgo).mono ?_
    rintro e wz1_3 ⟨rfl, bb⟩
    have bz3 : Below w0.heap.size w0 wz1_3:=bu bz2 bb
    clear bz2 hgo bb
    clear hHeld
    refine hKK.out _ _ (K.out _ bz3) (fun hHeld => ?_)
    clear hKK KK
    refine' tj 17 22 rfl ?_ ?_;rotate_left
    ·intro w h;go_simp;try rfl
    simp only [pU]
    refine' tj 18 23 rfl ?_ ?_;rotate_left
    ·intro w h;go_simp;try rfl
    simp only [pU]
    refine' tj 19 4 rfl ?_ ?_;rotate_left
    ·intro w h;go_simp;try rfl
    simp only [pU]
    clear hHeld
    refine wdn ?_
    have bb:=bz3
    have Bwz1_3:=bu Bw0 bb
    have swz1_3:=bb.size
    replace LC:=LC.up bb
    replace LB:=LB.up bb
    clear Bw0
    clear bb bz3 K
    go_wp2
    go_ret
    exact ⟨rfl, Bwz1_3⟩
  ·have hd : decide (0 < k) = false:=by simpa using hk
   rw [hd, Bool.false_and]
   go_enter Tryz.func365, Tryz.ntmps365
   have K : Hid (∀ w', Below w0.heap.size w0 w' → (fun w' => Below w0.heap.size w0 w' ∧ (w'.cell? ⟨w.heap.size, 0, none⟩ = some (.int .i64 n) ∧ w'.cell? ⟨w.heap.size, 1, none⟩ = some (.int .i64 f)) ∧ (w'.cell? ⟨w.heap.size + 1, 0, none⟩ = some (.string m) ∧ w'.cell? ⟨w.heap.size + 1, 1, none⟩ = some (.int .i64 v) ∧ w'.cell? ⟨w.heap.size + 1, 2, none⟩ = some (.string s) ∧ w'.cell? ⟨w.heap.size + 1, 3, none⟩ = some (.slice ao xs.length ca))) w'):=hide fun w' hb' => ⟨hb', ⟨(LC.up hb').cell 0 rfl, (LC.up hb').cell 1 rfl⟩, ⟨(LB.up hb').cell 0 rfl, (LB.up hb').cell 1 rfl, (LB.up hb').cell 2 rfl, (LB.up hb').cell 3 rfl⟩⟩
   go_upto_region 1 with fail
   clear hw0
   have bA : Below w0.heap.size w0 w0.drew:=Below.drew (Below.refl _ _)
   refine wrn K bA (fun hHeld => ?_)
   refine' tj 0 5 rfl ?_ ?_;rotate_left
   ·intro w h;go_simp;try rfl
   simp only [pU]
   refine' tj 1 6 rfl ?_ ?_;rotate_left
   ·intro w h;go_simp;try rfl
   simp only [pU]
   refine' tj 2 7 rfl ?_ ?_;rotate_left
   ·intro w h;go_simp;try rfl
   simp only [pU]
   refine rd 3 rfl (fun KK hKK => ?_)
   go_simp
   have hgo:=bA
   refine (OK.out _ hgo).mono ?_
   rintro e wz1_1 ⟨rfl, bb⟩
   have bz1 : Below w0.heap.size w0 wz1_1:=bu bA bb
   clear bA hgo bb
   clear hHeld
   refine hKK.out _ _ (K.out _ bz1) (fun hHeld => ?_)
   clear hKK KK
   refine' tj 4 9 rfl ?_ ?_;rotate_left
   ·intro w h;go_simp;try rfl
   simp only [pU]
   refine' tj 5 10 rfl ?_ ?_;rotate_left
   ·intro w h;go_simp;try rfl
   simp only [pU]
   refine' tj 6 11 rfl ?_ ?_;rotate_left
   ·intro w h;go_simp;try rfl
   simp only [pU]
   refine rd 7 rfl (fun KK hKK => ?_)
   go_simp
   have hgo:=bz1
   refine (HT.out _ hgo).mono ?_
   rintro e wz1_2 ⟨rfl, bb⟩
   have bz2 : Below w0.heap.size w0 wz1_2:=bu bz1 bb
   clear bz1 hgo bb
   clear hHeld
   refine hKK.out _ _ (K.out _ bz2) (fun hHeld => ?_)
   clear hKK KK
   refine' tj 8 13 rfl ?_ ?_;rotate_left
   ·intro w h;go_simp;try rfl
   simp only [pU]
   refine' tj 9 14 rfl ?_ ?_;rotate_left
   ·intro w h;go_simp;try rfl
   simp only [pU]
   refine' tj 10 15 rfl ?_ ?_;rotate_left
   ·intro w h;go_simp;try rfl
   simp only [pU]
   refine sk 11 16 rfl (h := ?_)
   simp only [pU]
   refine sk 14 19 rfl (h := ?_)
   simp only [pU]
   refine sk 12 17 rfl (h := ?_)
   simp only [pU]
   refine sk 15 20 rfl (h := ?_)
   simp only [pU]
   refine sk 13 18 rfl (h := ?_)
   simp only [pU]
   refine sk 16 21 rfl (h := ?_)
   simp only [pU]
   refine sk 17 22 rfl (h := ?_)
   simp only [pU]
   refine' tj 18 23 rfl ?_ ?_;rotate_left
   ·intro w h;go_simp;try rfl
   simp only [pU]
   refine' tj 19 4 rfl ?_ ?_;rotate_left
   ·intro w h;go_simp;try rfl
   simp only [pU]
   clear hHeld
   refine wdn ?_
   have bb:=bz2
   have Bwz1_2:=bu Bw0 bb
   have swz1_2:=bb.size
   replace LC:=LC.up bb
   replace LB:=LB.up bb
   clear Bw0
   clear bb bz2 K
   go_wp2
   go_ret
   exact ⟨rfl, Bwz1_2⟩

theorem specBlockOk (n f : Int) (m : ByteArray) (v : Int) (s : ByteArray) (ao : Option Addr) (ca : Nat) (xs : List Int) (w : World) (hm : m.size ≤ 1048576) (hs : s.size ≤ 1048576) (ha : RI w (.slice ao xs.length ca) xs) :
 Calls Tryz.prog 103 #[cv n f, bv m v s (.slice ao xs.length ca)] w fun e w' => e = .returned (.bool (bokB n f m v s xs)) ∧ Below w.heap.size w w' := by
 obtain ⟨w0, hw0, Bw0, LC, LB, _⟩:=bx2 w #[.int .i64 n,.int .i64 f] 39 #[.string m,.int .i64 v,.string s,.slice ao xs.length ca] 81
 have OK:=hide fun w' (b : Below w0.heap.size w0 w') => specQcOk n f v s ao ca xs w' (by omega) ((ha.below Bw0).below b)
 have NO:=hide fun w' => specNameOk m w' (by omega)
 have UP:=hide fun w' => specUpOf m w' (by omega)
 have hB : bokB n f m v s xs = (qokB n f v s xs && ((stepsAns m).isSome && decide (m ≠ ⟨#[]⟩)) && decide (upAns m = s)):=by rw [← height_pos]; rfl
 rw [hB]
 clear hB ha
 generalize qokB n f v s xs = q at *
 generalize (stepsAns m).isSome = k at *
 generalize upAns m = u at *
 cases q
 ·simp only [Bool.false_and]
  go_enter Tryz.func103, Tryz.ntmps103
  have K : Hid (∀ w', Below w0.heap.size w0 w' → (fun w' => Below w0.heap.size w0 w' ∧ (w'.cell? ⟨w.heap.size, 0, none⟩ = some (.int .i64 n) ∧ w'.cell? ⟨w.heap.size, 1, none⟩ = some (.int .i64 f)) ∧ (w'.cell? ⟨w.heap.size + 1, 0, none⟩ = some (.string m) ∧ w'.cell? ⟨w.heap.size + 1, 1, none⟩ = some (.int .i64 v) ∧ w'.cell? ⟨w.heap.size + 1, 2, none⟩ = some (.string s) ∧ w'.cell? ⟨w.heap.size + 1, 3, none⟩ = some (.slice ao xs.length ca))) w'):=hide fun w' hb' => ⟨hb', ⟨(LC.up hb').cell 0 rfl, (LC.up hb').cell 1 rfl⟩, ⟨(LB.up hb').cell 0 rfl, (LB.up hb').cell 1 rfl, (LB.up hb').cell 2 rfl, (LB.up hb').cell 3 rfl⟩⟩
  go_upto_region 1 with fail
  clear hw0
  have bA : Below w0.heap.size w0 w0.drew:=Below.drew (Below.refl _ _)
  refine wrn K bA (fun hHeld => ?_)
  refine' tj 0 5 rfl ?_ ?_;rotate_left
  ·intro w h;go_simp;try rfl
  simp only [pU]
  refine' tj 1 6 rfl ?_ ?_;rotate_left
  ·intro w h;go_simp;try rfl
  simp only [pU]
  refine' tj 2 7 rfl ?_ ?_;rotate_left
  ·intro w h;go_simp;try rfl
  simp only [pU]
  refine rd 3 rfl (fun KK hKK => ?_)
  go_simp
  have hgo:=bA
  refine (OK.out _ hgo).mono ?_
  rintro e wz1_1 ⟨rfl, bb⟩
  have bz1 : Below w0.heap.size w0 wz1_1:=bu bA bb
  clear bA hgo bb
  clear hHeld
  refine hKK.out _ _ (K.out _ bz1) (fun hHeld => ?_)
  clear hKK KK
  refine' tj 4 9 rfl ?_ ?_;rotate_left
  ·intro w h;go_simp;try rfl
  simp only [pU]
  refine sk 5 10 rfl (h := ?_)
  simp only [pU]
  refine sk 6 11 rfl (h := ?_)
  simp only [pU]
  refine sk 7 12 rfl (h := ?_)
  simp only [pU]
  refine' tj 8 13 rfl ?_ ?_;rotate_left
  ·intro w h;go_simp;try rfl
  simp only [pU]
  refine' tj 9 14 rfl ?_ ?_;rotate_left
  ·intro w h;go_simp;try rfl
  simp only [pU]
  refine sk 10 15 rfl (h := ?_)
  simp only [pU]
  refine sk 11 16 rfl (h := ?_)
  simp only [pU]
  refine sk 12 17 rfl (h := ?_)
  simp only [pU]
  refine' tj 13 18 rfl ?_ ?_;rotate_left
  ·intro w h;go_simp;try rfl
  simp only [pU]
  refine' tj 14 19 rfl ?_ ?_;rotate_left
  ·intro w h;go_simp;try rfl
  simp only [pU]
  refine sk 15 20 rfl (h := ?_)
  simp only [pU]
  refine sk 18 23 rfl (h := ?_)
  simp only [pU]
  refine sk 16 21 rfl (h := ?_)
  simp only [pU]
  refine sk 19 24 rfl (h := ?_)
  simp only [pU]
  refine sk 17 22 rfl (h := ?_)
  simp only [pU]
  refine sk 20 25 rfl (h := ?_)
  simp only [pU]
  refine sk 21 26 rfl (h := ?_)
  simp only [pU]
  refine' tj 22 27 rfl ?_ ?_;rotate_left
  ·intro w h;go_simp;try rfl
  simp only [pU]
  refine' tj 23 4 rfl ?_ ?_;rotate_left
  ·intro w h;go_simp;try rfl
  simp only [pU]
  clear hHeld
  refine wdn ?_
  have bb:=bz1
  have Bwz1_1:=bu Bw0 bb
  have swz1_1:=bb.size
  replace LC:=LC.up bb
  replace LB:=LB.up bb
  clear Bw0
  clear bb bz1 K
  go_wp2
  go_ret
  exact ⟨rfl, Bwz1_1⟩
 ·simp only [Bool.true_and]
  cases k
  ·simp only [Bool.false_and]
   go_enter Tryz.func103, Tryz.ntmps103
   have K : Hid (∀ w', Below w0.heap.size w0 w' → (fun w' => Below w0.heap.size w0 w' ∧ (w'.cell? ⟨w.heap.size, 0, none⟩ = some (.int .i64 n) ∧ w'.cell? ⟨w.heap.size, 1, none⟩ = some (.int .i64 f)) ∧ (w'.cell? ⟨w.heap.size + 1, 0, none⟩ = some (.string m) ∧ w'.cell? ⟨w.heap.size + 1, 1, none⟩ = some (.int .i64 v) ∧ w'.cell? ⟨w.heap.size + 1, 2, none⟩ = some (.string s) ∧ w'.cell? ⟨w.heap.size + 1, 3, none⟩ = some (.slice ao xs.length ca))) w'):=hide fun w' hb' => ⟨hb', ⟨(LC.up hb').cell 0 rfl, (LC.up hb').cell 1 rfl⟩, ⟨(LB.up hb').cell 0 rfl, (LB.up hb').cell 1 rfl, (LB.up hb').cell 2 rfl, (LB.up hb').cell 3 rfl⟩⟩
   go_upto_region 1 with fail
   clear hw0
   have bA : Below w0.heap.size w0 w0.drew:=Below.drew (Below.refl _ _)
   refine wrn K bA (fun hHeld => ?_)
   refine' tj 0 5 rfl ?_ ?_;rotate_left
   ·intro w h;go_simp;try rfl
   simp only [pU]
   refine' tj 1 6 rfl ?_ ?_;rotate_left
   ·intro w h;go_simp;try rfl
   simp only [pU]
   refine' tj 2 7 rfl ?_ ?_;rotate_left
   ·intro w h;go_simp;try rfl
   simp only [pU]
   refine rd 3 rfl (fun KK hKK => ?_)
   go_simp
   have hgo:=bA
   refine (OK.out _ hgo).mono ?_
   rintro e wz1_1 ⟨rfl, bb⟩
   have bz1 : Below w0.heap.size w0 wz1_1:=bu bA bb
   clear bA hgo bb
   clear hHeld
   refine hKK.out _ _ (K.out _ bz1) (fun hHeld => ?_)
   clear hKK KK
   refine' tj 4 9 rfl ?_ ?_;rotate_left
   ·intro w h;go_simp;try rfl
   simp only [pU]
   refine' tj 5 10 rfl ?_ ?_;rotate_left
   ·intro w h;go_simp;try rfl
   simp only [pU]
   refine' tj 6 11 rfl ?_ ?_;rotate_left
   ·intro w h;go_simp;try rfl
   simp only [pU]
   refine rd 7 rfl (fun KK hKK => ?_)
   go_simp
   have hgo:=bz1
   refine (NO.out _).mono ?_
   rintro e wz1_2 ⟨rfl, bb⟩
   have bz2 : Below w0.heap.size w0 wz1_2:=bu bz1 bb
   clear bz1 hgo bb
   clear hHeld
   refine hKK.out _ _ (K.out _ bz2) (fun hHeld => ?_)
   clear hKK KK
   refine' tj 8 13 rfl ?_ ?_;rotate_left
   ·intro w h;go_simp;try rfl
   simp only [pU]
   refine' tj 9 14 rfl ?_ ?_;rotate_left
   ·intro w h;go_simp;try rfl
   simp only [pU]
   refine sk 10 15 rfl (h := ?_)
   simp only [pU]
   refine sk 11 16 rfl (h := ?_)
   simp only [pU]
   refine sk 12 17 rfl (h := ?_)
   simp only [pU]
   refine' tj 13 18 rfl ?_ ?_;rotate_left
   ·intro w h;go_simp;try rfl
   simp only [pU]
   refine' tj 14 19 rfl ?_ ?_;rotate_left
   ·intro w h;go_simp;try rfl
   simp only [pU]
   refine sk 15 20 rfl (h := ?_)
   simp only [pU]
   refine sk 18 23 rfl (h := ?_)
   simp only [pU]
   refine sk 16 21 rfl (h := ?_)
   simp only [pU]
   refine sk 19 24 rfl (h := ?_)
   simp only [pU]
   refine sk 17 22 rfl (h := ?_)
   simp only [pU]
   refine sk 20 25 rfl (h := ?_)
   simp only [pU]
   refine sk 21 26 rfl (h := ?_)
   simp only [pU]
   refine' tj 22 27 rfl ?_ ?_;rotate_left
   ·intro w h;go_simp;try rfl
   simp only [pU]
   refine' tj 23 4 rfl ?_ ?_;rotate_left
   ·intro w h;go_simp;try rfl
   simp only [pU]
   clear hHeld
   refine wdn ?_
   have bb:=bz2
   have Bwz1_2:=bu Bw0 bb
   have swz1_2:=bb.size
   replace LC:=LC.up bb
   replace LB:=LB.up bb
   clear Bw0
   clear bb bz2 K
   go_wp2
   go_ret
   exact ⟨rfl, Bwz1_2⟩
  ·simp only [Bool.true_and]
   by_cases he : m = ⟨#[]⟩
   ·have hd : decide (m ≠ ⟨#[]⟩) = false:=by simpa using he
    have hy : (m.toList == []) = true:=by rw [he, ByteArray.toList_eq]; rfl
    rw [hd, Bool.false_and]
    clear he hd
    go_enter Tryz.func103, Tryz.ntmps103
    have K : Hid (∀ w', Below w0.heap.size w0 w' → (fun w' => Below w0.heap.size w0 w' ∧ (w'.cell? ⟨w.heap.size, 0, none⟩ = some (.int .i64 n) ∧ w'.cell? ⟨w.heap.size, 1, none⟩ = some (.int .i64 f)) ∧ (w'.cell? ⟨w.heap.size + 1, 0, none⟩ = some (.string m) ∧ w'.cell? ⟨w.heap.size + 1, 1, none⟩ = some (.int .i64 v) ∧ w'.cell? ⟨w.heap.size + 1, 2, none⟩ = some (.string s) ∧ w'.cell? ⟨w.heap.size + 1, 3, none⟩ = some (.slice ao xs.length ca))) w'):=hide fun w' hb' => ⟨hb', ⟨(LC.up hb').cell 0 rfl, (LC.up hb').cell 1 rfl⟩, ⟨(LB.up hb').cell 0 rfl, (LB.up hb').cell 1 rfl, (LB.up hb').cell 2 rfl, (LB.up hb').cell 3 rfl⟩⟩
    go_upto_region 1 with fail
    clear hw0
    have bA : Below w0.heap.size w0 w0.drew:=Below.drew (Below.refl _ _)
    refine wrn K bA (fun hHeld => ?_)
    refine' tj 0 5 rfl ?_ ?_;rotate_left
    ·intro w h;go_simp;try rfl
    simp only [pU]
    refine' tj 1 6 rfl ?_ ?_;rotate_left
    ·intro w h;go_simp;try rfl
    simp only [pU]
    refine' tj 2 7 rfl ?_ ?_;rotate_left
    ·intro w h;go_simp;try rfl
    simp only [pU]
    refine rd 3 rfl (fun KK hKK => ?_)
    go_simp
    have hgo:=bA
    refine (OK.out _ hgo).mono ?_
    rintro e wz1_1 ⟨rfl, bb⟩
    have bz1 : Below w0.heap.size w0 wz1_1:=bu bA bb
    clear bA hgo bb
    clear hHeld
    refine hKK.out _ _ (K.out _ bz1) (fun hHeld => ?_)
    clear hKK KK
    refine' tj 4 9 rfl ?_ ?_;rotate_left
    ·intro w h;go_simp;try rfl
    simp only [pU]
    refine' tj 5 10 rfl ?_ ?_;rotate_left
    ·intro w h;go_simp;try rfl
    simp only [pU]
    refine' tj 6 11 rfl ?_ ?_;rotate_left
    ·intro w h;go_simp;try rfl
    simp only [pU]
    refine rd 7 rfl (fun KK hKK => ?_)
    go_simp
    have hgo:=bz1
    refine (NO.out _).mono ?_
    rintro e wz1_2 ⟨rfl, bb⟩
    have bz2 : Below w0.heap.size w0 wz1_2:=bu bz1 bb
    clear bz1 hgo bb
    clear hHeld
    refine hKK.out _ _ (K.out _ bz2) (fun hHeld => ?_)
    clear hKK KK
    refine' tj 8 13 rfl ?_ ?_;rotate_left
    ·intro w h;go_simp;try rfl
    simp only [pU]
    refine' tj 9 14 rfl ?_ ?_;rotate_left
    ·intro w h;go_simp;try rfl
    simp only [pU]
    refine' tj 10 15 rfl ?_ ?_;rotate_left
    ·intro w h;go_simp;try rfl
    simp only [pU]
    refine' tj 11 16 rfl ?_ ?_;rotate_left
    ·intro w h;go_simp;try rfl
    simp only [pU]
    refine' tj 12 17 rfl ?_ ?_;rotate_left
    ·intro w h;go_simp;try rfl
    simp only [pU]
    refine' tj 13 18 rfl ?_ ?_;rotate_left
    ·intro w h;go_simp;try rfl
    simp only [pU]
    refine' tj 14 19 rfl ?_ ?_;rotate_left
    ·intro w h;go_simp;try rfl
    simp only [pU]
    refine sk 15 20 rfl (h := ?_)
    simp only [pU]
    refine sk 18 23 rfl (h := ?_)
    simp only [pU]
    refine sk 16 21 rfl (h := ?_)
    simp only [pU]
    refine sk 19 24 rfl (h := ?_)
    simp only [pU]
    refine sk 17 22 rfl (h := ?_)
    simp only [pU]
    refine sk 20 25 rfl (h := ?_)
    simp only [pU]
    refine sk 21 26 rfl (h := ?_)
    simp only [pU]
    refine' tj 22 27 rfl ?_ ?_;rotate_left
    ·intro w h;go_simp;try rfl
    simp only [pU]
    refine' tj 23 4 rfl ?_ ?_;rotate_left
    ·intro w h;go_simp;try rfl
    simp only [pU]
    clear hHeld
    refine wdn ?_
    have bb:=bz2
    have Bwz1_2:=bu Bw0 bb
    have swz1_2:=bb.size
    replace LC:=LC.up bb
    replace LB:=LB.up bb
    clear Bw0
    clear bb bz2 K
    go_wp2
    go_ret
    exact ⟨rfl, Bwz1_2⟩
   ·have hd : decide (m ≠ ⟨#[]⟩) = true:=by simpa using he
    have hne:=ne2 he
    rw [hd, Bool.true_and]
    clear he hd
    by_cases hu : u = s
    ·have hv : decide (u = s) = true:=by simpa using hu
     have hy:=str_yes hu
     rw [hv]
     clear hu hv
     go_enter Tryz.func103, Tryz.ntmps103
     have K : Hid (∀ w', Below w0.heap.size w0 w' → (fun w' => Below w0.heap.size w0 w' ∧ (w'.cell? ⟨w.heap.size, 0, none⟩ = some (.int .i64 n) ∧ w'.cell? ⟨w.heap.size, 1, none⟩ = some (.int .i64 f)) ∧ (w'.cell? ⟨w.heap.size + 1, 0, none⟩ = some (.string m) ∧ w'.cell? ⟨w.heap.size + 1, 1, none⟩ = some (.int .i64 v) ∧ w'.cell? ⟨w.heap.size + 1, 2, none⟩ = some (.string s) ∧ w'.cell? ⟨w.heap.size + 1, 3, none⟩ = some (.slice ao xs.length ca))) w'):=hide fun w' hb' => ⟨hb', ⟨(LC.up hb').cell 0 rfl, (LC.up hb').cell 1 rfl⟩, ⟨(LB.up hb').cell 0 rfl, (LB.up hb').cell 1 rfl, (LB.up hb').cell 2 rfl, (LB.up hb').cell 3 rfl⟩⟩
     go_upto_region 1 with fail
     clear hw0
     have bA : Below w0.heap.size w0 w0.drew:=Below.drew (Below.refl _ _)
     refine wrn K bA (fun hHeld => ?_)
     refine' tj 0 5 rfl ?_ ?_;rotate_left
     ·intro w h;go_simp;try rfl
     simp only [pU]
     refine' tj 1 6 rfl ?_ ?_;rotate_left
     ·intro w h;go_simp;try rfl
     simp only [pU]
     refine' tj 2 7 rfl ?_ ?_;rotate_left
     ·intro w h;go_simp;try rfl
     simp only [pU]
     refine rd 3 rfl (fun KK hKK => ?_)
     go_simp
     have hgo:=bA
     refine (OK.out _ hgo).mono ?_
     rintro e wz1_1 ⟨rfl, bb⟩
     have bz1 : Below w0.heap.size w0 wz1_1:=bu bA bb
     clear bA hgo bb
     clear hHeld
     refine hKK.out _ _ (K.out _ bz1) (fun hHeld => ?_)
     clear hKK KK
     refine' tj 4 9 rfl ?_ ?_;rotate_left
     ·intro w h;go_simp;try rfl
     simp only [pU]
     refine' tj 5 10 rfl ?_ ?_;rotate_left
     ·intro w h;go_simp;try rfl
     simp only [pU]
     refine' tj 6 11 rfl ?_ ?_;rotate_left
     ·intro w h;go_simp;try rfl
     simp only [pU]
     refine rd 7 rfl (fun KK hKK => ?_)
     go_simp
     have hgo:=bz1
     refine (NO.out _).mono ?_
     rintro e wz1_2 ⟨rfl, bb⟩
     have bz2 : Below w0.heap.size w0 wz1_2:=bu bz1 bb
     clear bz1 hgo bb
     clear hHeld
     refine hKK.out _ _ (K.out _ bz2) (fun hHeld => ?_)
     clear hKK KK
     refine' tj 8 13 rfl ?_ ?_;rotate_left
     ·intro w h;go_simp;try rfl
     simp only [pU]
     refine' tj 9 14 rfl ?_ ?_;rotate_left
     ·intro w h;go_simp;try rfl
     simp only [pU]
     refine' tj 10 15 rfl ?_ ?_;rotate_left
     ·intro w h;go_simp;try rfl
     simp only [pU]
     refine' tj 11 16 rfl ?_ ?_;rotate_left
     ·intro w h;go_simp;try rfl
     simp only [pU]
     refine' tj 12 17 rfl ?_ ?_;rotate_left
     ·intro w h;go_simp;try rfl
     simp only [pU]
     refine' tj 13 18 rfl ?_ ?_;rotate_left
     ·intro w h;go_simp;try rfl
     simp only [pU]
     refine' tj 14 19 rfl ?_ ?_;rotate_left
     ·intro w h;go_simp;try rfl
     simp only [pU]
     refine' tj 15 20 rfl ?_ ?_;rotate_left
     ·intro w h;go_simp;try rfl
     simp only [pU]
     refine' tj 18 23 rfl ?_ ?_;rotate_left
     ·intro w h;go_simp;try rfl
     simp only [pU]
     refine' tj 16 21 rfl ?_ ?_;rotate_left
     ·intro w h;go_simp;try rfl
     simp only [pU]
     refine' tj 19 24 rfl ?_ ?_;rotate_left
     ·intro w h;go_simp;try rfl
     simp only [pU]
     refine' tj 20 25 rfl ?_ ?_;rotate_left
     ·intro w h;go_simp;try rfl
     simp only [pU]
     refine rd 17 rfl (fun KK hKK => ?_)
     go_simp
     have hgo:=bz2
     refine (UP.out _).mono ?_
     rintro e wz1_3 ⟨rfl, bb⟩
     have bz3 : Below w0.heap.size w0 wz1_3:=bu bz2 bb
     clear bz2 hgo bb
     clear hHeld
     refine hKK.out _ _ (K.out _ bz3) (fun hHeld => ?_)
     clear hKK KK
     refine' tj 21 26 rfl ?_ ?_;rotate_left
     ·intro w h;go_simp;try rfl
     simp only [pU]
     refine' tj 22 27 rfl ?_ ?_;rotate_left
     ·intro w h;go_simp;try rfl
     simp only [pU]
     refine' tj 23 4 rfl ?_ ?_;rotate_left
     ·intro w h;go_simp;try rfl
     simp only [pU]
     clear hHeld
     refine wdn ?_
     have bb:=bz3
     have Bwz1_3:=bu Bw0 bb
     have swz1_3:=bb.size
     replace LC:=LC.up bb
     replace LB:=LB.up bb
     clear Bw0
     clear bb bz3 K
     go_wp2
     go_ret
     exact ⟨rfl, Bwz1_3⟩
    ·have hv : decide (u = s) = false:=by simpa using hu
     have hy:=str_ne hu
     rw [hv]
     clear hu hv
     go_enter Tryz.func103, Tryz.ntmps103
     have K : Hid (∀ w', Below w0.heap.size w0 w' → (fun w' => Below w0.heap.size w0 w' ∧ (w'.cell? ⟨w.heap.size, 0, none⟩ = some (.int .i64 n) ∧ w'.cell? ⟨w.heap.size, 1, none⟩ = some (.int .i64 f)) ∧ (w'.cell? ⟨w.heap.size + 1, 0, none⟩ = some (.string m) ∧ w'.cell? ⟨w.heap.size + 1, 1, none⟩ = some (.int .i64 v) ∧ w'.cell? ⟨w.heap.size + 1, 2, none⟩ = some (.string s) ∧ w'.cell? ⟨w.heap.size + 1, 3, none⟩ = some (.slice ao xs.length ca))) w'):=hide fun w' hb' => ⟨hb', ⟨(LC.up hb').cell 0 rfl, (LC.up hb').cell 1 rfl⟩, ⟨(LB.up hb').cell 0 rfl, (LB.up hb').cell 1 rfl, (LB.up hb').cell 2 rfl, (LB.up hb').cell 3 rfl⟩⟩
     go_upto_region 1 with fail
     clear hw0
     have bA : Below w0.heap.size w0 w0.drew:=Below.drew (Below.refl _ _)
     refine wrn K bA (fun hHeld => ?_)
     refine' tj 0 5 rfl ?_ ?_;rotate_left
     ·intro w h;go_simp;try rfl
     simp only [pU]
     refine' tj 1 6 rfl ?_ ?_;rotate_left
     ·intro w h;go_simp;try rfl
     simp only [pU]
     refine' tj 2 7 rfl ?_ ?_;rotate_left
     ·intro w h;go_simp;try rfl
     simp only [pU]
     refine rd 3 rfl (fun KK hKK => ?_)
     go_simp
     have hgo:=bA
     refine (OK.out _ hgo).mono ?_
     rintro e wz1_1 ⟨rfl, bb⟩
     have bz1 : Below w0.heap.size w0 wz1_1:=bu bA bb
     clear bA hgo bb
     clear hHeld
     refine hKK.out _ _ (K.out _ bz1) (fun hHeld => ?_)
     clear hKK KK
     refine' tj 4 9 rfl ?_ ?_;rotate_left
     ·intro w h;go_simp;try rfl
     simp only [pU]
     refine' tj 5 10 rfl ?_ ?_;rotate_left
     ·intro w h;go_simp;try rfl
     simp only [pU]
     refine' tj 6 11 rfl ?_ ?_;rotate_left
     ·intro w h;go_simp;try rfl
     simp only [pU]
     refine rd 7 rfl (fun KK hKK => ?_)
     go_simp
     have hgo:=bz1
     refine (NO.out _).mono ?_
     rintro e wz1_2 ⟨rfl, bb⟩
     have bz2 : Below w0.heap.size w0 wz1_2:=bu bz1 bb
     clear bz1 hgo bb
     clear hHeld
     refine hKK.out _ _ (K.out _ bz2) (fun hHeld => ?_)
     clear hKK KK
     refine' tj 8 13 rfl ?_ ?_;rotate_left
     ·intro w h;go_simp;try rfl
     simp only [pU]
     refine' tj 9 14 rfl ?_ ?_;rotate_left
     ·intro w h;go_simp;try rfl
     simp only [pU]
     refine' tj 10 15 rfl ?_ ?_;rotate_left
     ·intro w h;go_simp;try rfl
     simp only [pU]
     refine' tj 11 16 rfl ?_ ?_;rotate_left
     ·intro w h;go_simp;try rfl
     simp only [pU]
     refine' tj 12 17 rfl ?_ ?_;rotate_left
     ·intro w h;go_simp;try rfl
     simp only [pU]
     refine' tj 13 18 rfl ?_ ?_;rotate_left
     ·intro w h;go_simp;try rfl
     simp only [pU]
     refine' tj 14 19 rfl ?_ ?_;rotate_left
     ·intro w h;go_simp;try rfl
     simp only [pU]
     refine' tj 15 20 rfl ?_ ?_;rotate_left
     ·intro w h;go_simp;try rfl
     simp only [pU]
     refine' tj 18 23 rfl ?_ ?_;rotate_left
     ·intro w h;go_simp;try rfl
     simp only [pU]
     refine' tj 16 21 rfl ?_ ?_;rotate_left
     ·intro w h;go_simp;try rfl
     simp only [pU]
     refine' tj 19 24 rfl ?_ ?_;rotate_left
     ·intro w h;go_simp;try rfl
     simp only [pU]
     refine' tj 20 25 rfl ?_ ?_;rotate_left
     ·intro w h;go_simp;try rfl
     simp only [pU]
     refine rd 17 rfl (fun KK hKK => ?_)
     go_simp
     have hgo:=bz2
     refine (UP.out _).mono ?_
     rintro e wz1_3 ⟨rfl, bb⟩
     have bz3 : Below w0.heap.size w0 wz1_3:=bu bz2 bb
     clear bz2 hgo bb
     clear hHeld
     refine hKK.out _ _ (K.out _ bz3) (fun hHeld => ?_)
     clear hKK KK
     refine' tj 21 26 rfl ?_ ?_;rotate_left
     ·intro w h;go_simp;try rfl
     simp only [pU]
     refine' tj 22 27 rfl ?_ ?_;rotate_left
     ·intro w h;go_simp;try rfl
     simp only [pU]
     refine' tj 23 4 rfl ?_ ?_;rotate_left
     ·intro w h;go_simp;try rfl
     simp only [pU]
     clear hHeld
     refine wdn ?_
     have bb:=bz3
     have Bwz1_3:=bu Bw0 bb
     have swz1_3:=bb.size
     replace LC:=LC.up bb
     replace LB:=LB.up bb
     clear Bw0
     clear bb bz3 K
     go_wp2
     go_ret
     exact ⟨rfl, Bwz1_3⟩
end Go.Proofs.YtndpjhiidmdlhaaGreatDoor
