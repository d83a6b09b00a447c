/- Texts that belong together: PartOks, PartJoins. -/
import Derived.Test.YtndpjhiidmdlhaaGreatDoorRBAE
import Derived.Test.YtndpjhiidmdlhaaGreatDoorRBAA
import Derived.Test.YtndpjhiidmdlhaaGreatDoorRBAX
import Derived.Test.YtndpjhiidmdlhaaGreatDoorRBAW
import Derived.Deep.RegionHeld3
import Derived.Deep.DeepCutAuto
import Derived.Test.YtndpjhiidmdlhaaGreatDoorRBBA
set_option maxRecDepth 100000
set_option maxHeartbeats 8000000
namespace Go.Proofs.YtndpjhiidmdlhaaGreatDoor
open Go.RowKit
set_option linter.unusedSectionVars false
variable [∀ (a b c d : Int), Decidable (Ok4 a b c d)]
variable [∀ (n f : Int), Decidable (COk n f)]
variable [∀ (n : Int) (s : List Int), Decidable (OkL n s)]
variable [∀ (a b c d : Nat), Decidable (okN a b c d)]
variable [∀ (last : Int) (s : St), Decidable (GoodSt last s)]
variable [∀ (x : T4), Decidable (OkT x)]

def pokB (n f m : Int) (s : ByteArray) (xs : List Int) : Bool := decide (COk n f) && decide (1 ≤ m ∧ m ≤ 60) && decide (OkL n xs) && decide (xs ≠ []) && (decide (s = ⟨#[]⟩) || ((stepsAns s).isSome && decide (viewAns s = m)))
theorem in_bool (x lo hi : Int) (w : World) : Calls Tryz.prog 39 #[.int .i64 x, .int .i64 lo, .int .i64 hi] w fun e w' => e = .returned (.bool (decide (lo ≤ x ∧ x ≤ hi))) ∧ w' = w := by
 by_cases h : lo ≤ x ∧ x ≤ hi
 ·rw [decide_eq_true h]; exact in_yes x lo hi w h.1 h.2
 ·rw [decide_eq_false h]; exact in_no x lo hi w (by omega)

theorem specPartOk (n f m : Int) (s : ByteArray) (u : Value) (xs : List Int) (w : World) (hs : s.size ≤ 1048576) (hu : RI w u xs) :
 Calls Tryz.prog 100 #[cv n f, qv m s u] w fun e w' => e = .returned (.bool (pokB n f m s xs)) ∧ Below w.heap.size w w' := by
 obtain ⟨ua, uc, rfl⟩ := hu.form
 obtain ⟨w0, hw0⟩ : ∃ w0, (w.alloc (.cells #[.int .i64 n, .int .i64 f] 39)).alloc (.cells #[.int .i64 m, .string s, .slice ua xs.length uc] 82) = w0 := ⟨_, rfl⟩
 have Bw0 : Below w.heap.size w w0 := hw0 ▸ qalloc2 _ _ _
 have LC : Loc w0 w.heap.size #[.int .i64 n, .int .i64 f] := hw0 ▸ (loc_at w _ _ rfl).alloc _
 have LP : Loc w0 (w.heap.size + 1) #[.int .i64 m, .string s, .slice ua xs.length uc] := hw0 ▸ loc_at (w.alloc _) _ _ (by simp)
 have RU := hu.below Bw0
 have CO := hide fun w => specConfOk n f w
 have IN := hide fun w => in_bool m 1 60 w
 have SO := hide fun w h => specSetOk n (.slice ua xs.length uc) xs w h
 have NO := hide fun w => specNameOk s w (by omega)
 have VO := hide fun w => specViewOf s w (by omega)
 have hp : pokB n f m s xs = (decide (COk n f) && decide (1 ≤ m ∧ m ≤ 60) && decide (OkL n xs) && decide (xs ≠ []) && (decide (s = ⟨#[]⟩) || ((stepsAns s).isSome && decide (viewAns s = m)))) := rfl
 have hxe : decide (xs ≠ []) = !((xs.length : Int) == 0) := by cases xs with | nil => rfl | cons a l => simp; omega
 rw [hp, hxe]
 obtain ⟨k, hk⟩ : ∃ k, xs.length = k := ⟨_, rfl⟩
 rw [hk] at SO LP hw0 RU ⊢
 clear hp hxe hu hk
 generalize decide (COk n f) = c at *
 generalize decide (1 ≤ m ∧ m ≤ 60) = r at *
 generalize decide (OkL n xs) = o at *
 generalize (stepsAns s).isSome = nk at *
 generalize viewAns s = vw at *
 cases c
 ·simp only [Bool.false_and]
  go_enter Tryz.func100, Tryz.ntmps100
  have cLC0 := LC.cell 0 rfl
  have cLC1 := LC.cell 1 rfl
  go_wp2_with fail
  clear hw0
  refine (CO.out _).mono ?_
  rintro _ w1 ⟨rfl, bb⟩
  clear cLC0 cLC1
  have Bw1 := bu Bw0 bb
  have sw1 := bb.size
  replace LC := LC.up bb
  replace LP := LP.up bb
  clear Bw0
  replace RU := RU.below bb
  clear bb CO
  have cLC0 := LC.cell 0 rfl
  have cLC1 := LC.cell 1 rfl
  have cLP0 := LP.cell 0 rfl
  have cLP1 := LP.cell 1 rfl
  have cLP2 := LP.cell 2 rfl
  go_wp2
  go_ret
  exact ⟨rfl, Bw1⟩
 ·simp only [Bool.true_and]
  cases r
  ·simp only [Bool.false_and]
   go_enter Tryz.func100, Tryz.ntmps100
   have cLC0 := LC.cell 0 rfl
   have cLC1 := LC.cell 1 rfl
   go_wp2_with fail
   clear hw0
   refine (CO.out _).mono ?_
   rintro _ w1 ⟨rfl, bb⟩
   clear cLC0 cLC1
   have Bw1 := bu Bw0 bb
   have sw1 := bb.size
   replace LC := LC.up bb
   replace LP := LP.up bb
   clear Bw0
   replace RU := RU.below bb
   clear bb CO
   have cLP0 := LP.cell 0 rfl
   have cLP1 := LP.cell 1 rfl
   have cLP2 := LP.cell 2 rfl
   go_wp2_with fail
   refine (IN.out _).mono ?_
   rintro _ w9 ⟨rfl, e9⟩
   rw [e9]
   clear e9 IN
   clear cLP0 cLP1 cLP2
   have cLC0 := LC.cell 0 rfl
   have cLC1 := LC.cell 1 rfl
   have cLP0 := LP.cell 0 rfl
   have cLP1 := LP.cell 1 rfl
   have cLP2 := LP.cell 2 rfl
   go_wp2
   go_ret
   exact ⟨rfl, Bw1⟩
  ·simp only [Bool.true_and]
   cases o
   ·simp only [Bool.false_and]
    go_enter Tryz.func100, Tryz.ntmps100
    have cLC0 := LC.cell 0 rfl
    have cLC1 := LC.cell 1 rfl
    go_wp2_with fail
    clear hw0
    refine (CO.out _).mono ?_
    rintro _ w1 ⟨rfl, bb⟩
    clear cLC0 cLC1
    have Bw1 := bu Bw0 bb
    have sw1 := bb.size
    replace LC := LC.up bb
    replace LP := LP.up bb
    clear Bw0
    replace RU := RU.below bb
    clear bb CO
    have cLP0 := LP.cell 0 rfl
    have cLP1 := LP.cell 1 rfl
    have cLP2 := LP.cell 2 rfl
    go_wp2_with fail
    refine (IN.out _).mono ?_
    rintro _ w9 ⟨rfl, e9⟩
    rw [e9]
    clear e9 IN
    clear cLP0 cLP1 cLP2
    have cLC0 := LC.cell 0 rfl
    have cLC1 := LC.cell 1 rfl
    have cLP0 := LP.cell 0 rfl
    have cLP1 := LP.cell 1 rfl
    have cLP2 := LP.cell 2 rfl
    go_wp2_with fail
    refine (SO.out _ RU).mono ?_
    rintro _ w2 ⟨rfl, bb⟩
    clear cLC0 cLC1 cLP0 cLP1 cLP2
    have Bw2 := bu Bw1 bb
    have sw2 := bb.size
    replace LC := LC.up bb
    replace LP := LP.up bb
    clear Bw1
    clear bb SO RU
    have cLC0 := LC.cell 0 rfl
    have cLC1 := LC.cell 1 rfl
    have cLP0 := LP.cell 0 rfl
    have cLP1 := LP.cell 1 rfl
    have cLP2 := LP.cell 2 rfl
    go_wp2
    go_ret
    exact ⟨rfl, Bw2⟩
   ·simp only [Bool.true_and]
    by_cases hk : k = 0
    ·subst hk
     have hd0 : ((((0 : Nat) : Int) == 0)) = true := rfl
     rw [hd0]
     simp only [Bool.not_true, Bool.false_and]
     go_enter Tryz.func100, Tryz.ntmps100
     have cLC0 := LC.cell 0 rfl
     have cLC1 := LC.cell 1 rfl
     go_wp2_with fail
     clear hw0
     refine (CO.out _).mono ?_
     rintro _ w1 ⟨rfl, bb⟩
     clear cLC0 cLC1
     have Bw1 := bu Bw0 bb
     have sw1 := bb.size
     replace LC := LC.up bb
     replace LP := LP.up bb
     clear Bw0
     replace RU := RU.below bb
     clear bb CO
     have cLP0 := LP.cell 0 rfl
     have cLP1 := LP.cell 1 rfl
     have cLP2 := LP.cell 2 rfl
     go_wp2_with fail
     refine (IN.out _).mono ?_
     rintro _ w9 ⟨rfl, e9⟩
     rw [e9]
     clear e9 IN
     clear cLP0 cLP1 cLP2
     have cLC0 := LC.cell 0 rfl
     have cLC1 := LC.cell 1 rfl
     have cLP0 := LP.cell 0 rfl
     have cLP1 := LP.cell 1 rfl
     have cLP2 := LP.cell 2 rfl
     go_wp2_with fail
     refine (SO.out _ RU).mono ?_
     rintro _ w2 ⟨rfl, bb⟩
     clear cLC0 cLC1 cLP0 cLP1 cLP2
     have Bw2 := bu Bw1 bb
     have sw2 := bb.size
     replace LC := LC.up bb
     replace LP := LP.up bb
     clear Bw1
     clear bb SO RU
     have cLC0 := LC.cell 0 rfl
     have cLC1 := LC.cell 1 rfl
     have cLP0 := LP.cell 0 rfl
     have cLP1 := LP.cell 1 rfl
     have cLP2 := LP.cell 2 rfl
     go_wp2
     go_ret
     exact ⟨rfl, Bw2⟩
    ·have hd0 : ((k : Int) == 0) = false := by simp; omega
     rw [hd0]
     simp only [Bool.not_false, Bool.true_and]
     by_cases he : s = ⟨#[]⟩
     ·have hd : decide (s = ⟨#[]⟩) = true := by simpa using he
      have hy : (s.toList == []) = true := by rw [he, ByteArray.toList_eq]; rfl
      rw [hd, Bool.true_or]
      clear he hd
      go_enter Tryz.func100, Tryz.ntmps100
      have cLC0 := LC.cell 0 rfl
      have cLC1 := LC.cell 1 rfl
      go_wp2_with fail
      clear hw0
      refine (CO.out _).mono ?_
      rintro _ w1 ⟨rfl, bb⟩
      clear cLC0 cLC1
      have Bw1 := bu Bw0 bb
      have sw1 := bb.size
      replace LC := LC.up bb
      replace LP := LP.up bb
      clear Bw0
      replace RU := RU.below bb
      clear bb CO
      have cLP0 := LP.cell 0 rfl
      have cLP1 := LP.cell 1 rfl
      have cLP2 := LP.cell 2 rfl
      go_wp2_with fail
      refine (IN.out _).mono ?_
      rintro _ w9 ⟨rfl, e9⟩
      rw [e9]
      clear e9 IN
      clear cLP0 cLP1 cLP2
      have cLC0 := LC.cell 0 rfl
      have cLC1 := LC.cell 1 rfl
      have cLP0 := LP.cell 0 rfl
      have cLP1 := LP.cell 1 rfl
      have cLP2 := LP.cell 2 rfl
      go_wp2_with fail
      refine (SO.out _ RU).mono ?_
      rintro _ w2 ⟨rfl, bb⟩
      clear cLC0 cLC1 cLP0 cLP1 cLP2
      have Bw2 := bu Bw1 bb
      have sw2 := bb.size
      replace LC := LC.up bb
      replace LP := LP.up bb
      clear Bw1
      clear bb SO RU
      have cLP0 := LP.cell 0 rfl
      have cLP1 := LP.cell 1 rfl
      have cLP2 := LP.cell 2 rfl
      have K : Hid (∀ w', Below w2.heap.size w2 w' → (fun w' => Below w2.heap.size w2 w' ∧ (w'.cell? ⟨w.heap.size + 1, 0, none⟩ = some (.int .i64 m) ∧ w'.cell? ⟨w.heap.size + 1, 1, none⟩ = some (.string s) ∧ w'.cell? ⟨w.heap.size + 1, 2, none⟩ = some (.slice ua k uc))) w') := hide fun w' hb' => ⟨hb', ⟨(LP.up hb').cell 0 rfl, (LP.up hb').cell 1 rfl, (LP.up hb').cell 2 rfl⟩⟩
      go_upto_region 3 with fail
      have bA : Below w2.heap.size w2 w2.drew := Below.drew (Below.refl _ _)
      refine wrn K bA (fun hHeld => ?_)
      refine' tj 0 28 rfl ?_ ?_;rotate_left
      ·intro w h; (try dsimp only at h); go_simp; try with_reducible rfl
      simp only [pU]
      refine' tj 1 29 rfl ?_ ?_;rotate_left
      ·intro w h; (try dsimp only at h); go_simp; try with_reducible rfl
      simp only [pU]
      refine' tj 2 30 rfl ?_ ?_;rotate_left
      ·intro w h; (try dsimp only at h); go_simp; try with_reducible rfl
      simp only [pU]
      refine' tj 3 31 rfl ?_ ?_;rotate_left
      ·intro w h; (try dsimp only at h); go_simp; try with_reducible rfl
      simp only [pU]
      refine sk 4 32 rfl (h := ?_)
      simp only [pU]
      refine sk 5 33 rfl (h := ?_)
      simp only [pU]
      refine sk 6 34 rfl (h := ?_)
      simp only [pU]
      refine sk 7 35 rfl (h := ?_)
      simp only [pU]
      refine sk 8 36 rfl (h := ?_)
      simp only [pU]
      refine sk 11 39 rfl (h := ?_)
      simp only [pU]
      refine sk 9 37 rfl (h := ?_)
      simp only [pU]
      refine sk 12 40 rfl (h := ?_)
      simp only [pU]
      refine sk 10 38 rfl (h := ?_)
      simp only [pU]
      refine sk 13 41 rfl (h := ?_)
      simp only [pU]
      refine sk 14 42 rfl (h := ?_)
      simp only [pU]
      refine' tj 15 43 rfl ?_ ?_;rotate_left
      ·intro w h; (try dsimp only at h); go_simp; try with_reducible rfl
      simp only [pU]
      refine' tj 16 4 rfl ?_ ?_;rotate_left
      ·intro w h; (try dsimp only at h); go_simp; try with_reducible rfl
      simp only [pU]
      clear hHeld
      refine wdn ?_
      obtain ⟨wd3, hwd⟩ : ∃ y, w2.drew = y := ⟨_, rfl⟩
      rw [hwd] at bA ⊢
      clear hwd
      have bb := bA
      have Bwd3 := bu Bw2 bb
      have swd3 := bb.size
      replace LC := LC.up bb
      replace LP := LP.up bb
      clear Bw2
      clear bb bA K
      clear cLP0 cLP1 cLP2
      go_wp2
      go_ret
      exact ⟨rfl, Bwd3⟩
     ·have hd : decide (s = ⟨#[]⟩) = false := by simpa using he
      have hne := ne2 he
      rw [hd, Bool.false_or]
      clear he hd
      cases nk
      ·simp only [Bool.false_and]
       go_enter Tryz.func100, Tryz.ntmps100
       have cLC0 := LC.cell 0 rfl
       have cLC1 := LC.cell 1 rfl
       go_wp2_with fail
       clear hw0
       refine (CO.out _).mono ?_
       rintro _ w1 ⟨rfl, bb⟩
       clear cLC0 cLC1
       have Bw1 := bu Bw0 bb
       have sw1 := bb.size
       replace LC := LC.up bb
       replace LP := LP.up bb
       clear Bw0
       replace RU := RU.below bb
       clear bb CO
       have cLP0 := LP.cell 0 rfl
       have cLP1 := LP.cell 1 rfl
       have cLP2 := LP.cell 2 rfl
       go_wp2_with fail
       refine (IN.out _).mono ?_
       rintro _ w9 ⟨rfl, e9⟩
       rw [e9]
       clear e9 IN
       clear cLP0 cLP1 cLP2
       have cLC0 := LC.cell 0 rfl
       have cLC1 := LC.cell 1 rfl
       have cLP0 := LP.cell 0 rfl
       have cLP1 := LP.cell 1 rfl
       have cLP2 := LP.cell 2 rfl
       go_wp2_with fail
       refine (SO.out _ RU).mono ?_
       rintro _ w2 ⟨rfl, bb⟩
       clear cLC0 cLC1 cLP0 cLP1 cLP2
       have Bw2 := bu Bw1 bb
       have sw2 := bb.size
       replace LC := LC.up bb
       replace LP := LP.up bb
       clear Bw1
       clear bb SO RU
       have cLP0 := LP.cell 0 rfl
       have cLP1 := LP.cell 1 rfl
       have cLP2 := LP.cell 2 rfl
       have K : Hid (∀ w', Below w2.heap.size w2 w' → (fun w' => Below w2.heap.size w2 w' ∧ (w'.cell? ⟨w.heap.size + 1, 0, none⟩ = some (.int .i64 m) ∧ w'.cell? ⟨w.heap.size + 1, 1, none⟩ = some (.string s) ∧ w'.cell? ⟨w.heap.size + 1, 2, none⟩ = some (.slice ua k uc))) w') := hide fun w' hb' => ⟨hb', ⟨(LP.up hb').cell 0 rfl, (LP.up hb').cell 1 rfl, (LP.up hb').cell 2 rfl⟩⟩
       go_upto_region 3 with fail
       have bA : Below w2.heap.size w2 w2.drew := Below.drew (Below.refl _ _)
       refine wrn K bA (fun hHeld => ?_)
       refine' tj 0 28 rfl ?_ ?_;rotate_left
       ·intro w h; (try dsimp only at h); go_simp; try with_reducible rfl
       simp only [pU]
       refine' tj 1 29 rfl ?_ ?_;rotate_left
       ·intro w h; (try dsimp only at h); go_simp; try with_reducible rfl
       simp only [pU]
       refine' tj 2 30 rfl ?_ ?_;rotate_left
       ·intro w h; (try dsimp only at h); go_simp; try with_reducible rfl
       simp only [pU]
       refine' tj 3 31 rfl ?_ ?_;rotate_left
       ·intro w h; (try dsimp only at h); go_simp; try with_reducible rfl
       simp only [pU]
       refine' tj 4 32 rfl ?_ ?_;rotate_left
       ·intro w h; (try dsimp only at h); go_simp; try with_reducible rfl
       simp only [pU]
       refine' tj 5 33 rfl ?_ ?_;rotate_left
       ·intro w h; (try dsimp only at h); go_simp; try with_reducible rfl
       simp only [pU]
       refine rd 6 rfl (fun KK hKK => ?_)
       go_simp
       have hgo := bA
       refine (NO.out _).mono ?_
       rintro e wz3_1 ⟨rfl, bb⟩
       have bz1 : Below w2.heap.size w2 wz3_1 := bu bA bb
       clear bA hgo bb
       clear hHeld
       refine hKK.out _ _ (K.out _ bz1) (fun hHeld => ?_)
       clear hKK KK
       refine' tj 7 35 rfl ?_ ?_;rotate_left
       ·intro w h; (try dsimp only at h); go_simp; try with_reducible rfl
       simp only [pU]
       refine sk 8 36 rfl (h := ?_)
       simp only [pU]
       refine sk 11 39 rfl (h := ?_)
       simp only [pU]
       refine sk 9 37 rfl (h := ?_)
       simp only [pU]
       refine sk 12 40 rfl (h := ?_)
       simp only [pU]
       refine sk 10 38 rfl (h := ?_)
       simp only [pU]
       refine sk 13 41 rfl (h := ?_)
       simp only [pU]
       refine' tj 14 42 rfl ?_ ?_;rotate_left
       ·intro w h; (try dsimp only at h); go_simp; try with_reducible rfl
       simp only [pU]
       refine' tj 15 43 rfl ?_ ?_;rotate_left
       ·intro w h; (try dsimp only at h); go_simp; try with_reducible rfl
       simp only [pU]
       refine' tj 16 4 rfl ?_ ?_;rotate_left
       ·intro w h; (try dsimp only at h); go_simp; try with_reducible rfl
       simp only [pU]
       clear hHeld
       refine wdn ?_
       have bb := bz1
       have Bwz3_1 := bu Bw2 bb
       have swz3_1 := bb.size
       replace LC := LC.up bb
       replace LP := LP.up bb
       clear Bw2
       clear bb bz1 K
       clear cLP0 cLP1 cLP2
       go_wp2
       go_ret
       exact ⟨rfl, Bwz3_1⟩
      ·simp only [Bool.true_and]
       by_cases hv : vw = m
       ·have hd : decide (vw = m) = true := by simpa using hv
        rw [hd]
        clear hd
        have hv2 := hv.symm
        subst hv2
        go_enter Tryz.func100, Tryz.ntmps100
        have cLC0 := LC.cell 0 rfl
        have cLC1 := LC.cell 1 rfl
        go_wp2_with fail
        clear hw0
        refine (CO.out _).mono ?_
        rintro _ w1 ⟨rfl, bb⟩
        clear cLC0 cLC1
        have Bw1 := bu Bw0 bb
        have sw1 := bb.size
        replace LC := LC.up bb
        replace LP := LP.up bb
        clear Bw0
        replace RU := RU.below bb
        clear bb CO
        have cLP0 := LP.cell 0 rfl
        have cLP1 := LP.cell 1 rfl
        have cLP2 := LP.cell 2 rfl
        go_wp2_with fail
        refine (IN.out _).mono ?_
        rintro _ w9 ⟨rfl, e9⟩
        rw [e9]
        clear e9 IN
        clear cLP0 cLP1 cLP2
        have cLC0 := LC.cell 0 rfl
        have cLC1 := LC.cell 1 rfl
        have cLP0 := LP.cell 0 rfl
        have cLP1 := LP.cell 1 rfl
        have cLP2 := LP.cell 2 rfl
        go_wp2_with fail
        refine (SO.out _ RU).mono ?_
        rintro _ w2 ⟨rfl, bb⟩
        clear cLC0 cLC1 cLP0 cLP1 cLP2
        have Bw2 := bu Bw1 bb
        have sw2 := bb.size
        replace LC := LC.up bb
        replace LP := LP.up bb
        clear Bw1
        clear bb SO RU
        have cLP0 := LP.cell 0 rfl
        have cLP1 := LP.cell 1 rfl
        have cLP2 := LP.cell 2 rfl
        have K : Hid (∀ w', Below w2.heap.size w2 w' → (fun w' => Below w2.heap.size w2 w' ∧ (w'.cell? ⟨w.heap.size + 1, 0, none⟩ = some (.int .i64 m) ∧ w'.cell? ⟨w.heap.size + 1, 1, none⟩ = some (.string s) ∧ w'.cell? ⟨w.heap.size + 1, 2, none⟩ = some (.slice ua k uc))) w') := hide fun w' hb' => ⟨hb', ⟨(LP.up hb').cell 0 rfl, (LP.up hb').cell 1 rfl, (LP.up hb').cell 2 rfl⟩⟩
        go_upto_region 3 with fail
        have bA : Below w2.heap.size w2 w2.drew := Below.drew (Below.refl _ _)
        refine wrn K bA (fun hHeld => ?_)
        refine' tj 0 28 rfl ?_ ?_;rotate_left
        ·intro w h; (try dsimp only at h); go_simp; try with_reducible rfl
        simp only [pU]
        refine' tj 1 29 rfl ?_ ?_;rotate_left
        ·intro w h; (try dsimp only at h); go_simp; try with_reducible rfl
        simp only [pU]
        refine' tj 2 30 rfl ?_ ?_;rotate_left
        ·intro w h; (try dsimp only at h); go_simp; try with_reducible rfl
        simp only [pU]
        refine' tj 3 31 rfl ?_ ?_;rotate_left
        ·intro w h; (try dsimp only at h); go_simp; try with_reducible rfl
        simp only [pU]
        refine' tj 4 32 rfl ?_ ?_;rotate_left
        ·intro w h; (try dsimp only at h); go_simp; try with_reducible rfl
        simp only [pU]
        refine' tj 5 33 rfl ?_ ?_;rotate_left
        ·intro w h; (try dsimp only at h); go_simp; try with_reducible rfl
        simp only [pU]
        refine rd 6 rfl (fun KK hKK => ?_)
        go_simp
        have hgo := bA
        refine (NO.out _).mono ?_
        rintro e wz3_1 ⟨rfl, bb⟩
        have bz1 : Below w2.heap.size w2 wz3_1 := bu bA bb
        clear bA hgo bb
        clear hHeld
        refine hKK.out _ _ (K.out _ bz1) (fun hHeld => ?_)
        clear hKK KK
        refine' tj 7 35 rfl ?_ ?_;rotate_left
        ·intro w h; (try dsimp only at h); go_simp; try with_reducible rfl
        simp only [pU]
        refine' tj 8 36 rfl ?_ ?_;rotate_left
        ·intro w h; (try dsimp only at h); go_simp; try with_reducible rfl
        simp only [pU]
        refine' tj 11 39 rfl ?_ ?_;rotate_left
        ·intro w h; (try dsimp only at h); go_simp; try with_reducible rfl
        simp only [pU]
        refine' tj 9 37 rfl ?_ ?_;rotate_left
        ·intro w h; (try dsimp only at h); go_simp; try with_reducible rfl
        simp only [pU]
        refine' tj 12 40 rfl ?_ ?_;rotate_left
        ·intro w h; (try dsimp only at h); go_simp; try with_reducible rfl
        simp only [pU]
        refine rd 10 rfl (fun KK hKK => ?_)
        go_simp
        have hgo := bz1
        refine (VO.out _).mono ?_
        rintro e wz3_2 ⟨rfl, bb⟩
        have bz2 : Below w2.heap.size w2 wz3_2 := bu bz1 bb
        clear bz1 hgo bb
        clear hHeld
        refine hKK.out _ _ (K.out _ bz2) (fun hHeld => ?_)
        clear hKK KK
        refine' tj 13 41 rfl ?_ ?_;rotate_left
        ·intro w h; (try dsimp only at h); go_simp; try with_reducible rfl
        simp only [pU]
        refine' tj 14 42 rfl ?_ ?_;rotate_left
        ·intro w h; (try dsimp only at h); go_simp; try with_reducible rfl
        simp only [pU]
        refine' tj 15 43 rfl ?_ ?_;rotate_left
        ·intro w h; (try dsimp only at h); go_simp; try with_reducible rfl
        simp only [pU]
        refine' tj 16 4 rfl ?_ ?_;rotate_left
        ·intro w h; (try dsimp only at h); go_simp; try with_reducible rfl
        simp only [pU]
        clear hHeld
        refine wdn ?_
        have bb := bz2
        have Bwz3_2 := bu Bw2 bb
        have swz3_2 := bb.size
        replace LC := LC.up bb
        replace LP := LP.up bb
        clear Bw2
        clear bb bz2 K
        clear cLP0 cLP1 cLP2
        go_wp2
        go_ret
        exact ⟨rfl, Bwz3_2⟩
       ·have hd : decide (vw = m) = false := by simpa using hv
        rw [hd]
        go_enter Tryz.func100, Tryz.ntmps100
        have cLC0 := LC.cell 0 rfl
        have cLC1 := LC.cell 1 rfl
        go_wp2_with fail
        clear hw0
        refine (CO.out _).mono ?_
        rintro _ w1 ⟨rfl, bb⟩
        clear cLC0 cLC1
        have Bw1 := bu Bw0 bb
        have sw1 := bb.size
        replace LC := LC.up bb
        replace LP := LP.up bb
        clear Bw0
        replace RU := RU.below bb
        clear bb CO
        have cLP0 := LP.cell 0 rfl
        have cLP1 := LP.cell 1 rfl
        have cLP2 := LP.cell 2 rfl
        go_wp2_with fail
        refine (IN.out _).mono ?_
        rintro _ w9 ⟨rfl, e9⟩
        rw [e9]
        clear e9 IN
        clear cLP0 cLP1 cLP2
        have cLC0 := LC.cell 0 rfl
        have cLC1 := LC.cell 1 rfl
        have cLP0 := LP.cell 0 rfl
        have cLP1 := LP.cell 1 rfl
        have cLP2 := LP.cell 2 rfl
        go_wp2_with fail
        refine (SO.out _ RU).mono ?_
        rintro _ w2 ⟨rfl, bb⟩
        clear cLC0 cLC1 cLP0 cLP1 cLP2
        have Bw2 := bu Bw1 bb
        have sw2 := bb.size
        replace LC := LC.up bb
        replace LP := LP.up bb
        clear Bw1
        clear bb SO RU
        have cLP0 := LP.cell 0 rfl
        have cLP1 := LP.cell 1 rfl
        have cLP2 := LP.cell 2 rfl
        have K : Hid (∀ w', Below w2.heap.size w2 w' → (fun w' => Below w2.heap.size w2 w' ∧ (w'.cell? ⟨w.heap.size + 1, 0, none⟩ = some (.int .i64 m) ∧ w'.cell? ⟨w.heap.size + 1, 1, none⟩ = some (.string s) ∧ w'.cell? ⟨w.heap.size + 1, 2, none⟩ = some (.slice ua k uc))) w') := hide fun w' hb' => ⟨hb', ⟨(LP.up hb').cell 0 rfl, (LP.up hb').cell 1 rfl, (LP.up hb').cell 2 rfl⟩⟩
        go_upto_region 3 with fail
        have bA : Below w2.heap.size w2 w2.drew := Below.drew (Below.refl _ _)
        refine wrn K bA (fun hHeld => ?_)
        refine' tj 0 28 rfl ?_ ?_;rotate_left
        ·intro w h; (try dsimp only at h); go_simp; try with_reducible rfl
        simp only [pU]
        refine' tj 1 29 rfl ?_ ?_;rotate_left
        ·intro w h; (try dsimp only at h); go_simp; try with_reducible rfl
        simp only [pU]
        refine' tj 2 30 rfl ?_ ?_;rotate_left
        ·intro w h; (try dsimp only at h); go_simp; try with_reducible rfl
        simp only [pU]
        refine' tj 3 31 rfl ?_ ?_;rotate_left
        ·intro w h; (try dsimp only at h); go_simp; try with_reducible rfl
        simp only [pU]
        refine' tj 4 32 rfl ?_ ?_;rotate_left
        ·intro w h; (try dsimp only at h); go_simp; try with_reducible rfl
        simp only [pU]
        refine' tj 5 33 rfl ?_ ?_;rotate_left
        ·intro w h; (try dsimp only at h); go_simp; try with_reducible rfl
        simp only [pU]
        refine rd 6 rfl (fun KK hKK => ?_)
        go_simp
        have hgo := bA
        refine (NO.out _).mono ?_
        rintro e wz3_1 ⟨rfl, bb⟩
        have bz1 : Below w2.heap.size w2 wz3_1 := bu bA bb
        clear bA hgo bb
        clear hHeld
        refine hKK.out _ _ (K.out _ bz1) (fun hHeld => ?_)
        clear hKK KK
        refine' tj 7 35 rfl ?_ ?_;rotate_left
        ·intro w h; (try dsimp only at h); go_simp; try with_reducible rfl
        simp only [pU]
        refine' tj 8 36 rfl ?_ ?_;rotate_left
        ·intro w h; (try dsimp only at h); go_simp; try with_reducible rfl
        simp only [pU]
        refine' tj 11 39 rfl ?_ ?_;rotate_left
        ·intro w h; (try dsimp only at h); go_simp; try with_reducible rfl
        simp only [pU]
        refine' tj 9 37 rfl ?_ ?_;rotate_left
        ·intro w h; (try dsimp only at h); go_simp; try with_reducible rfl
        simp only [pU]
        refine' tj 12 40 rfl ?_ ?_;rotate_left
        ·intro w h; (try dsimp only at h); go_simp; try with_reducible rfl
        simp only [pU]
        refine rd 10 rfl (fun KK hKK => ?_)
        go_simp
        have hgo := bz1
        refine (VO.out _).mono ?_
        rintro e wz3_2 ⟨rfl, bb⟩
        have bz2 : Below w2.heap.size w2 wz3_2 := bu bz1 bb
        clear bz1 hgo bb
        clear hHeld
        refine hKK.out _ _ (K.out _ bz2) (fun hHeld => ?_)
        clear hKK KK
        refine' tj 13 41 rfl ?_ ?_;rotate_left
        ·intro w h; (try dsimp only at h); go_simp; try with_reducible rfl
        simp only [pU]
        refine' tj 14 42 rfl ?_ ?_;rotate_left
        ·intro w h; (try dsimp only at h); go_simp; try with_reducible rfl
        simp only [pU]
        refine' tj 15 43 rfl ?_ ?_;rotate_left
        ·intro w h; (try dsimp only at h); go_simp; try with_reducible rfl
        simp only [pU]
        refine' tj 16 4 rfl ?_ ?_;rotate_left
        ·intro w h; (try dsimp only at h); go_simp; try with_reducible rfl
        simp only [pU]
        clear hHeld
        refine wdn ?_
        have bb := bz2
        have Bwz3_2 := bu Bw2 bb
        have swz3_2 := bb.size
        replace LC := LC.up bb
        replace LP := LP.up bb
        clear Bw2
        clear bb bz2 K
        clear cLP0 cLP1 cLP2
        go_wp2
        go_ret
        exact ⟨by simp [hv], Bwz3_2⟩
end Go.Proofs.YtndpjhiidmdlhaaGreatDoor
namespace Go.Proofs.YtndpjhiidmdlhaaGreatDoor
open Go.RowKit

theorem l10Before_any (m n : Int) (s t : ByteArray) (u v : Value) (xs ys : List Int) (w : World) :
 Calls Tryz.prog 101 #[qv m s u, qv n t v] w fun e w' => e = .returned (.bool (befP (m, s, xs) (n, t, ys))) ∧ Below w.heap.size w w' := by
 have B := hide (qalloc2 w (.cells #[.int .i64 m, .string s, u] 82) (.cells #[.int .i64 n, .string t, v] 82))
 unfold befP
 simp only
 by_cases h1 : m < n
 ·rw [decide_eq_true h1, Bool.true_or]
  go_enter Tryz.func101, Tryz.ntmps101
  go_wp2
  go_ret
  exact ⟨rfl, B.out⟩
 ·have hd1 := decide_eq_false h1
  rw [hd1, Bool.false_or]
  by_cases h2 : m = n
  ·subst h2
   rw [decide_eq_true rfl, Bool.true_and]
   clear hd1
   generalize hb : Op.bytesLess s.toList t.toList = q
   go_enter Tryz.func101, Tryz.ntmps101
   go_wp2
   go_ret
   exact ⟨rfl, B.out⟩
  ·have hd2 := decide_eq_false h2
   rw [hd2, Bool.false_and]
   go_enter Tryz.func101, Tryz.ntmps101
   go_wp2
   go_ret
   exact ⟨rfl, B.out⟩
end Go.Proofs.YtndpjhiidmdlhaaGreatDoor
