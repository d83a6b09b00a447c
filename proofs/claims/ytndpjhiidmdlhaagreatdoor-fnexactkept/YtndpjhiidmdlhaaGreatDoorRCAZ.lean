/- Texts that belong together: PartOks, PartJoins, TableOks. -/
import Derived.Test.YtndpjhiidmdlhaaGreatDoorRCAE
import Derived.Test.YtndpjhiidmdlhaaGreatDoorRCAA
import Derived.Test.YtndpjhiidmdlhaaGreatDoorRCAU
import Derived.Test.YtndpjhiidmdlhaaGreatDoorRCAT
import Derived.Deep.RegionHeld3
import Derived.Deep.DeepCutAuto
import Derived.Test.YtndpjhiidmdlhaaGreatDoorRCAX
set_option maxRecDepth 100000
set_option maxHeartbeats 8000000
namespace Go.Proofs.YtndpjhiidmdlhaaGreatDoor
open Go.RowKit
set_option linter.unusedSectionVars false
variable [∀ (a b c d : Int), Decidable (Ok4 a b c d)]
variable [∀ (n f : Int), Decidable (COk n f)]
variable [∀ (n : Int) (s : List Int), Decidable (OkL n s)]
variable [∀ (a b c d : Nat), Decidable (okN a b c d)]
variable [∀ (last : Int) (s : St), Decidable (GoodSt last s)]
variable [∀ (x : T4), Decidable (OkT x)]

def pokB (n f m : Int) (s : ByteArray) (xs : List Int) : Bool := decide (COk n f) && decide (1 ≤ m ∧ m ≤ 60) && decide (OkL n xs) && decide (xs ≠ []) && (decide (s = ⟨#[]⟩) || ((stepsAns s).isSome && decide (viewAns s = m)))
theorem in_bool (x lo hi : Int) (w : World) : Calls Tryz.prog 39 #[.int .i64 x,.int .i64 lo,.int .i64 hi] w fun e w' => e = .returned (.bool (decide (lo ≤ x ∧ x ≤ hi))) ∧ w' = w := by
 by_cases h : lo ≤ x ∧ x ≤ hi
 ·rw [decide_eq_true h]; exact in_yes x lo hi w h.1 h.2
 ·rw [decide_eq_false h]; exact in_no x lo hi w (by omega)

theorem specPartOk (n f m : Int) (s : ByteArray) (u : Value) (xs : List Int) (w : World) (hs : s.size ≤ 1048576) (hu : RI w u xs) :
 Calls Tryz.prog 100 #[cv n f, qv m s u] w fun e w' => e = .returned (.bool (pokB n f m s xs)) ∧ Below w.heap.size w w' := by
 obtain ⟨ua, uc, rfl⟩:=hu.form
 obtain ⟨w0, hw0, Bw0, LC, LP, _⟩:=bx2 w #[.int .i64 n,.int .i64 f] 39 #[.int .i64 m,.string s,.slice ua xs.length uc] 82
 have RU:=hu.below Bw0
 have CO:=hide fun w => specConfOk n f w
 have IN:=hide fun w => in_bool m 1 60 w
 have SO:=hide fun w h => specSetOk n (.slice ua xs.length uc) xs w h
 have NO:=hide fun w => specNameOk s w (by omega)
 have VO:=hide fun w => specViewOf s w (by omega)
 have hp : pokB n f m s xs = (decide (COk n f) && decide (1 ≤ m ∧ m ≤ 60) && decide (OkL n xs) && decide (xs ≠ []) && (decide (s = ⟨#[]⟩) || ((stepsAns s).isSome && decide (viewAns s = m)))):=rfl
 have hxe : decide (xs ≠ []) = !((xs.length : Int) == 0):=by cases xs with | nil => rfl | cons a l => simp; omega
 rw [hp, hxe]
 obtain ⟨k, hk⟩ : ∃ k, xs.length = k:=⟨_, rfl⟩
 rw [hk] at SO LP hw0 RU ⊢
 clear hp hxe hu hk
 generalize decide (COk n f) = c at *
 generalize decide (1 ≤ m ∧ m ≤ 60) = r at *
 generalize decide (OkL n xs) = o at *
 generalize (stepsAns s).isSome = nk at *
 generalize viewAns s = vw at *
 cases c
 ·simp only [Bool.false_and]
  go_enter Tryz.func100, Tryz.ntmps100
  have cLC0:=LC.cell 0 rfl
  have cLC1:=LC.cell 1 rfl
  go_wp2_with fail
  clear hw0
  refine (CO.out _).mono ?_
  rintro _ w1 ⟨rfl, bb⟩
  clear cLC0 cLC1
  have Bw1:=bu Bw0 bb
  have sw1:=bb.size
  replace LC:=LC.up bb
  replace LP:=LP.up bb
  clear Bw0
  replace RU:=RU.below bb
  clear bb CO
  have cLC0:=LC.cell 0 rfl
  have cLC1:=LC.cell 1 rfl
  have cLP0:=LP.cell 0 rfl
  have cLP1:=LP.cell 1 rfl
  have cLP2:=LP.cell 2 rfl
  go_wp2
  go_ret
  exact ⟨rfl, Bw1⟩
 ·simp only [Bool.true_and]
  cases r
  ·simp only [Bool.false_and]
   go_enter Tryz.func100, Tryz.ntmps100
   have cLC0:=LC.cell 0 rfl
   have cLC1:=LC.cell 1 rfl
   go_wp2_with fail
   clear hw0
   refine (CO.out _).mono ?_
   rintro _ w1 ⟨rfl, bb⟩
   clear cLC0 cLC1
   have Bw1:=bu Bw0 bb
   have sw1:=bb.size
   replace LC:=LC.up bb
   replace LP:=LP.up bb
   clear Bw0
   replace RU:=RU.below bb
   clear bb CO
   have cLP0:=LP.cell 0 rfl
   have cLP1:=LP.cell 1 rfl
   have cLP2:=LP.cell 2 rfl
   go_wp2_with fail
   refine (IN.out _).mono ?_
   rintro _ w9 ⟨rfl, e9⟩
   rw [e9]
   clear e9 IN
   clear cLP0 cLP1 cLP2
   have cLC0:=LC.cell 0 rfl
   have cLC1:=LC.cell 1 rfl
   have cLP0:=LP.cell 0 rfl
   have cLP1:=LP.cell 1 rfl
   have cLP2:=LP.cell 2 rfl
   go_wp2
   go_ret
   exact ⟨rfl, Bw1⟩
  ·simp only [Bool.true_and]
   cases o
   ·simp only [Bool.false_and]
    go_enter Tryz.func100, Tryz.ntmps100
    have cLC0:=LC.cell 0 rfl
    have cLC1:=LC.cell 1 rfl
    go_wp2_with fail
    clear hw0
    refine (CO.out _).mono ?_
    rintro _ w1 ⟨rfl, bb⟩
    clear cLC0 cLC1
    have Bw1:=bu Bw0 bb
    have sw1:=bb.size
    replace LC:=LC.up bb
    replace LP:=LP.up bb
    clear Bw0
    replace RU:=RU.below bb
    clear bb CO
    have cLP0:=LP.cell 0 rfl
    have cLP1:=LP.cell 1 rfl
    have cLP2:=LP.cell 2 rfl
    go_wp2_with fail
    refine (IN.out _).mono ?_
    rintro _ w9 ⟨rfl, e9⟩
    rw [e9]
    clear e9 IN
    clear cLP0 cLP1 cLP2
    have cLC0:=LC.cell 0 rfl
    have cLC1:=LC.cell 1 rfl
    have cLP0:=LP.cell 0 rfl
    have cLP1:=LP.cell 1 rfl
    have cLP2:=LP.cell 2 rfl
    go_wp2_with fail
    refine (SO.out _ RU).mono ?_
    rintro _ w2 ⟨rfl, bb⟩
    clear cLC0 cLC1 cLP0 cLP1 cLP2
    have Bw2:=bu Bw1 bb
    have sw2:=bb.size
    replace LC:=LC.up bb
    replace LP:=LP.up bb
    clear Bw1
    clear bb SO RU
    have cLC0:=LC.cell 0 rfl
    have cLC1:=LC.cell 1 rfl
    have cLP0:=LP.cell 0 rfl
    have cLP1:=LP.cell 1 rfl
    have cLP2:=LP.cell 2 rfl
    go_wp2
    go_ret
    exact ⟨rfl, Bw2⟩
   ·simp only [Bool.true_and]
    by_cases hk : k = 0
    ·subst hk
     have hd0 : ((((0 : Nat) : Int) == 0)) = true:=rfl
     rw [hd0]
     simp only [Bool.not_true, Bool.false_and]
     go_enter Tryz.func100, Tryz.ntmps100
     have cLC0:=LC.cell 0 rfl
     have cLC1:=LC.cell 1 rfl
     go_wp2_with fail
     clear hw0
     refine (CO.out _).mono ?_
     rintro _ w1 ⟨rfl, bb⟩
     clear cLC0 cLC1
     have Bw1:=bu Bw0 bb
     have sw1:=bb.size
     replace LC:=LC.up bb
     replace LP:=LP.up bb
     clear Bw0
     replace RU:=RU.below bb
     clear bb CO
     have cLP0:=LP.cell 0 rfl
     have cLP1:=LP.cell 1 rfl
     have cLP2:=LP.cell 2 rfl
     go_wp2_with fail
     refine (IN.out _).mono ?_
     rintro _ w9 ⟨rfl, e9⟩
     rw [e9]
     clear e9 IN
     clear cLP0 cLP1 cLP2
     have cLC0:=LC.cell 0 rfl
     have cLC1:=LC.cell 1 rfl
     have cLP0:=LP.cell 0 rfl
     have cLP1:=LP.cell 1 rfl
     have cLP2:=LP.cell 2 rfl
     go_wp2_with fail
     refine (SO.out _ RU).mono ?_
     rintro _ w2 ⟨rfl, bb⟩
     clear cLC0 cLC1 cLP0 cLP1 cLP2
     have Bw2:=bu Bw1 bb
     have sw2:=bb.size
     replace LC:=LC.up bb
     replace LP:=LP.up bb
     clear Bw1
     clear bb SO RU
     have cLC0:=LC.cell 0 rfl
     have cLC1:=LC.cell 1 rfl
     have cLP0:=LP.cell 0 rfl
     have cLP1:=LP.cell 1 rfl
     have cLP2:=LP.cell 2 rfl
     go_wp2
     go_ret
     exact ⟨rfl, Bw2⟩
    ·have hd0 : ((k : Int) == 0) = false:=by simp; omega
     rw [hd0]
     simp only [Bool.not_false, Bool.true_and]
     by_cases he : s = ⟨#[]⟩
     ·have hd : decide (s = ⟨#[]⟩) = true:=by simpa using he
      have hy : (s.toList == []) = true:=by rw [he, ByteArray.toList_eq]; rfl
      rw [hd, Bool.true_or]
      clear he hd
      go_enter Tryz.func100, Tryz.ntmps100
      have cLC0:=LC.cell 0 rfl
      have cLC1:=LC.cell 1 rfl
      go_wp2_with fail
      clear hw0
      refine (CO.out _).mono ?_
      rintro _ w1 ⟨rfl, bb⟩
      clear cLC0 cLC1
      have Bw1:=bu Bw0 bb
      have sw1:=bb.size
      replace LC:=LC.up bb
      replace LP:=LP.up bb
      clear Bw0
      replace RU:=RU.below bb
      clear bb CO
      have cLP0:=LP.cell 0 rfl
      have cLP1:=LP.cell 1 rfl
      have cLP2:=LP.cell 2 rfl
      go_wp2_with fail
      refine (IN.out _).mono ?_
      rintro _ w9 ⟨rfl, e9⟩
      rw [e9]
      clear e9 IN
      clear cLP0 cLP1 cLP2
      have cLC0:=LC.cell 0 rfl
      have cLC1:=LC.cell 1 rfl
      have cLP0:=LP.cell 0 rfl
      have cLP1:=LP.cell 1 rfl
      have cLP2:=LP.cell 2 rfl
      go_wp2_with fail
      refine (SO.out _ RU).mono ?_
      rintro _ w2 ⟨rfl, bb⟩
      clear cLC0 cLC1 cLP0 cLP1 cLP2
      have Bw2:=bu Bw1 bb
      have sw2:=bb.size
      replace LC:=LC.up bb
      replace LP:=LP.up bb
      clear Bw1
      clear bb SO RU
      have cLP0:=LP.cell 0 rfl
      have cLP1:=LP.cell 1 rfl
      have cLP2:=LP.cell 2 rfl
      have K : Hid (∀ w', Below w2.heap.size w2 w' → (fun w' => Below w2.heap.size w2 w' ∧ (w'.cell? ⟨w.heap.size + 1, 0, none⟩ = some (.int .i64 m) ∧ w'.cell? ⟨w.heap.size + 1, 1, none⟩ = some (.string s) ∧ w'.cell? ⟨w.heap.size + 1, 2, none⟩ = some (.slice ua k uc))) w'):=hide fun w' hb' => ⟨hb', ⟨(LP.up hb').cell 0 rfl, (LP.up hb').cell 1 rfl, (LP.up hb').cell 2 rfl⟩⟩
      go_upto_region 3 with fail
      have bA : Below w2.heap.size w2 w2.drew:=Below.drew (Below.refl _ _)
      refine wrn K bA (fun hHeld => ?_)
      refine' tj 0 28 rfl ?_ ?_;rotate_left
      ·intro w h;go_simp;try rfl
      simp only [pU]
      refine' tj 1 29 rfl ?_ ?_;rotate_left
      ·intro w h;go_simp;try rfl
      simp only [pU]
      refine' tj 2 30 rfl ?_ ?_;rotate_left
      ·intro w h;go_simp;try rfl
      simp only [pU]
      refine' tj 3 31 rfl ?_ ?_;rotate_left
      ·intro w h;go_simp;try rfl
      simp only [pU]
      refine sk 4 32 rfl (h := ?_)
      simp only [pU]
      refine sk 5 33 rfl (h := ?_)
      simp only [pU]
      refine sk 6 34 rfl (h := ?_)
      simp only [pU]
      refine sk 7 35 rfl (h := ?_)
      simp only [pU]
      refine sk 8 36 rfl (h := ?_)
      simp only [pU]
      refine sk 11 39 rfl (h := ?_)
      simp only [pU]
      refine sk 9 37 rfl (h := ?_)
      simp only [pU]
      refine sk 12 40 rfl (h := ?_)
      simp only [pU]
      refine sk 10 38 rfl (h := ?_)
      simp only [pU]
      refine sk 13 41 rfl (h := ?_)
      simp only [pU]
      refine sk 14 42 rfl (h := ?_)
      simp only [pU]
      refine' tj 15 43 rfl ?_ ?_;rotate_left
      ·intro w h;go_simp;try rfl
      simp only [pU]
      refine' tj 16 4 rfl ?_ ?_;rotate_left
      ·intro w h;go_simp;try rfl
      simp only [pU]
      clear hHeld
      refine wdn ?_
      obtain ⟨wd3, hwd⟩ : ∃ y, w2.drew = y:=⟨_, rfl⟩
      rw [hwd] at bA ⊢
      clear hwd
      have bb:=bA
      have Bwd3:=bu Bw2 bb
      have swd3:=bb.size
      replace LC:=LC.up bb
      replace LP:=LP.up bb
      clear Bw2
      clear bb bA K
      clear cLP0 cLP1 cLP2
      go_wp2
      go_ret
      exact ⟨rfl, Bwd3⟩
     ·have hd : decide (s = ⟨#[]⟩) = false:=by simpa using he
      have hne:=ne2 he
      rw [hd, Bool.false_or]
      clear he hd
      cases nk
      ·simp only [Bool.false_and]
       go_enter Tryz.func100, Tryz.ntmps100
       have cLC0:=LC.cell 0 rfl
       have cLC1:=LC.cell 1 rfl
       go_wp2_with fail
       clear hw0
       refine (CO.out _).mono ?_
       rintro _ w1 ⟨rfl, bb⟩
       clear cLC0 cLC1
       have Bw1:=bu Bw0 bb
       have sw1:=bb.size
       replace LC:=LC.up bb
       replace LP:=LP.up bb
       clear Bw0
       replace RU:=RU.below bb
       clear bb CO
       have cLP0:=LP.cell 0 rfl
       have cLP1:=LP.cell 1 rfl
       have cLP2:=LP.cell 2 rfl
       go_wp2_with fail
       refine (IN.out _).mono ?_
       rintro _ w9 ⟨rfl, e9⟩
       rw [e9]
       clear e9 IN
       clear cLP0 cLP1 cLP2
       have cLC0:=LC.cell 0 rfl
       have cLC1:=LC.cell 1 rfl
       have cLP0:=LP.cell 0 rfl
       have cLP1:=LP.cell 1 rfl
       have cLP2:=LP.cell 2 rfl
       go_wp2_with fail
       refine (SO.out _ RU).mono ?_
       rintro _ w2 ⟨rfl, bb⟩
       clear cLC0 cLC1 cLP0 cLP1 cLP2
       have Bw2:=bu Bw1 bb
       have sw2:=bb.size
       replace LC:=LC.up bb
       replace LP:=LP.up bb
       clear Bw1
       clear bb SO RU
       have cLP0:=LP.cell 0 rfl
       have cLP1:=LP.cell 1 rfl
       have cLP2:=LP.cell 2 rfl
       have K : Hid (∀ w', Below w2.heap.size w2 w' → (fun w' => Below w2.heap.size w2 w' ∧ (w'.cell? ⟨w.heap.size + 1, 0, none⟩ = some (.int .i64 m) ∧ w'.cell? ⟨w.heap.size + 1, 1, none⟩ = some (.string s) ∧ w'.cell? ⟨w.heap.size + 1, 2, none⟩ = some (.slice ua k uc))) w'):=hide fun w' hb' => ⟨hb', ⟨(LP.up hb').cell 0 rfl, (LP.up hb').cell 1 rfl, (LP.up hb').cell 2 rfl⟩⟩
       go_upto_region 3 with fail
       have bA : Below w2.heap.size w2 w2.drew:=Below.drew (Below.refl _ _)
       refine wrn K bA (fun hHeld => ?_)
       refine' tj 0 28 rfl ?_ ?_;rotate_left
       ·intro w h;go_simp;try rfl
       simp only [pU]
       refine' tj 1 29 rfl ?_ ?_;rotate_left
       ·intro w h;go_simp;try rfl
       simp only [pU]
       refine' tj 2 30 rfl ?_ ?_;rotate_left
       ·intro w h;go_simp;try rfl
       simp only [pU]
       refine' tj 3 31 rfl ?_ ?_;rotate_left
       ·intro w h;go_simp;try rfl
       simp only [pU]
       refine' tj 4 32 rfl ?_ ?_;rotate_left
       ·intro w h;go_simp;try rfl
       simp only [pU]
       refine' tj 5 33 rfl ?_ ?_;rotate_left
       ·intro w h;go_simp;try rfl
       simp only [pU]
       refine rd 6 rfl (fun KK hKK => ?_)
       go_simp
       have hgo:=bA
       refine (NO.out _).mono ?_
       rintro e wz3_1 ⟨rfl, bb⟩
       have bz1 : Below w2.heap.size w2 wz3_1:=bu bA bb
       clear bA hgo bb
       clear hHeld
       refine hKK.out _ _ (K.out _ bz1) (fun hHeld => ?_)
       clear hKK KK
       refine' tj 7 35 rfl ?_ ?_;rotate_left
       ·intro w h;go_simp;try rfl
       simp only [pU]
       refine sk 8 36 rfl (h := ?_)
       simp only [pU]
       refine sk 11 39 rfl (h := ?_)
       simp only [pU]
       refine sk 9 37 rfl (h := ?_)
       simp only [pU]
       refine sk 12 40 rfl (h := ?_)
       simp only [pU]
       refine sk 10 38 rfl (h := ?_)
       simp only [pU]
       refine sk 13 41 rfl (h := ?_)
       simp only [pU]
       refine' tj 14 42 rfl ?_ ?_;rotate_left
       ·intro w h;go_simp;try rfl
       simp only [pU]
       refine' tj 15 43 rfl ?_ ?_;rotate_left
       ·intro w h;go_simp;try rfl
       simp only [pU]
       refine' tj 16 4 rfl ?_ ?_;rotate_left
       ·intro w h;go_simp;try rfl
       simp only [pU]
       clear hHeld
       refine wdn ?_
       have bb:=bz1
       have Bwz3_1:=bu Bw2 bb
       have swz3_1:=bb.size
       replace LC:=LC.up bb
       replace LP:=LP.up bb
       clear Bw2
       clear bb bz1 K
       clear cLP0 cLP1 cLP2
       go_wp2
       go_ret
       exact ⟨rfl, Bwz3_1⟩
      ·simp only [Bool.true_and]
       by_cases hv : vw = m
       ·have hd : decide (vw = m) = true:=by simpa using hv
        rw [hd]
        clear hd
        have hv2:=hv.symm
        subst hv2
        go_enter Tryz.func100, Tryz.ntmps100
        have cLC0:=LC.cell 0 rfl
        have cLC1:=LC.cell 1 rfl
        go_wp2_with fail
        clear hw0
        refine (CO.out _).mono ?_
        rintro _ w1 ⟨rfl, bb⟩
        clear cLC0 cLC1
        have Bw1:=bu Bw0 bb
        have sw1:=bb.size
        replace LC:=LC.up bb
        replace LP:=LP.up bb
        clear Bw0
        replace RU:=RU.below bb
        clear bb CO
        have cLP0:=LP.cell 0 rfl
        have cLP1:=LP.cell 1 rfl
        have cLP2:=LP.cell 2 rfl
        go_wp2_with fail
        refine (IN.out _).mono ?_
        rintro _ w9 ⟨rfl, e9⟩
        rw [e9]
        clear e9 IN
        clear cLP0 cLP1 cLP2
        have cLC0:=LC.cell 0 rfl
        have cLC1:=LC.cell 1 rfl
        have cLP0:=LP.cell 0 rfl
        have cLP1:=LP.cell 1 rfl
        have cLP2:=LP.cell 2 rfl
        go_wp2_with fail
        refine (SO.out _ RU).mono ?_
        rintro _ w2 ⟨rfl, bb⟩
        clear cLC0 cLC1 cLP0 cLP1 cLP2
        have Bw2:=bu Bw1 bb
        have sw2:=bb.size
        replace LC:=LC.up bb
        replace LP:=LP.up bb
        clear Bw1
        clear bb SO RU
        have cLP0:=LP.cell 0 rfl
        have cLP1:=LP.cell 1 rfl
        have cLP2:=LP.cell 2 rfl
        have K : Hid (∀ w', Below w2.heap.size w2 w' → (fun w' => Below w2.heap.size w2 w' ∧ (w'.cell? ⟨w.heap.size + 1, 0, none⟩ = some (.int .i64 m) ∧ w'.cell? ⟨w.heap.size + 1, 1, none⟩ = some (.string s) ∧ w'.cell? ⟨w.heap.size + 1, 2, none⟩ = some (.slice ua k uc))) w'):=hide fun w' hb' => ⟨hb', ⟨(LP.up hb').cell 0 rfl, (LP.up hb').cell 1 rfl, (LP.up hb').cell 2 rfl⟩⟩
        go_upto_region 3 with fail
        have bA : Below w2.heap.size w2 w2.drew:=Below.drew (Below.refl _ _)
        refine wrn K bA (fun hHeld => ?_)
        refine' tj 0 28 rfl ?_ ?_;rotate_left
        ·intro w h;go_simp;try rfl
        simp only [pU]
        refine' tj 1 29 rfl ?_ ?_;rotate_left
        ·intro w h;go_simp;try rfl
        simp only [pU]
        refine' tj 2 30 rfl ?_ ?_;rotate_left
        ·intro w h;go_simp;try rfl
        simp only [pU]
        refine' tj 3 31 rfl ?_ ?_;rotate_left
        ·intro w h;go_simp;try rfl
        simp only [pU]
        refine' tj 4 32 rfl ?_ ?_;rotate_left
        ·intro w h;go_simp;try rfl
        simp only [pU]
        refine' tj 5 33 rfl ?_ ?_;rotate_left
        ·intro w h;go_simp;try rfl
        simp only [pU]
        refine rd 6 rfl (fun KK hKK => ?_)
        go_simp
        have hgo:=bA
        refine (NO.out _).mono ?_
        rintro e wz3_1 ⟨rfl, bb⟩
        have bz1 : Below w2.heap.size w2 wz3_1:=bu bA bb
        clear bA hgo bb
        clear hHeld
        refine hKK.out _ _ (K.out _ bz1) (fun hHeld => ?_)
        clear hKK KK
        refine' tj 7 35 rfl ?_ ?_;rotate_left
        ·intro w h;go_simp;try rfl
        simp only [pU]
        refine' tj 8 36 rfl ?_ ?_;rotate_left
        ·intro w h;go_simp;try rfl
        simp only [pU]
        refine' tj 11 39 rfl ?_ ?_;rotate_left
        ·intro w h;go_simp;try rfl
        simp only [pU]
        refine' tj 9 37 rfl ?_ ?_;rotate_left
        ·intro w h;go_simp;try rfl
        simp only [pU]
        refine' tj 12 40 rfl ?_ ?_;rotate_left
        ·intro w h;go_simp;try rfl
        simp only [pU]
        refine rd 10 rfl (fun KK hKK => ?_)
        go_simp
        have hgo:=bz1
        refine (VO.out _).mono ?_
        rintro e wz3_2 ⟨rfl, bb⟩
        have bz2 : Below w2.heap.size w2 wz3_2:=bu bz1 bb
        clear bz1 hgo bb
        clear hHeld
        refine hKK.out _ _ (K.out _ bz2) (fun hHeld => ?_)
        clear hKK KK
        refine' tj 13 41 rfl ?_ ?_;rotate_left
        ·intro w h;go_simp;try rfl
        simp only [pU]
        refine' tj 14 42 rfl ?_ ?_;rotate_left
        ·intro w h;go_simp;try rfl
        simp only [pU]
        refine' tj 15 43 rfl ?_ ?_;rotate_left
        ·intro w h;go_simp;try rfl
        simp only [pU]
        refine' tj 16 4 rfl ?_ ?_;rotate_left
        ·intro w h;go_simp;try rfl
        simp only [pU]
        clear hHeld
        refine wdn ?_
        have bb:=bz2
        have Bwz3_2:=bu Bw2 bb
        have swz3_2:=bb.size
        replace LC:=LC.up bb
        replace LP:=LP.up bb
        clear Bw2
        clear bb bz2 K
        clear cLP0 cLP1 cLP2
        go_wp2
        go_ret
        exact ⟨rfl, Bwz3_2⟩
       ·have hd : decide (vw = m) = false:=by simpa using hv
        rw [hd]
        go_enter Tryz.func100, Tryz.ntmps100
        have cLC0:=LC.cell 0 rfl
        have cLC1:=LC.cell 1 rfl
        go_wp2_with fail
        clear hw0
        refine (CO.out _).mono ?_
        rintro _ w1 ⟨rfl, bb⟩
        clear cLC0 cLC1
        have Bw1:=bu Bw0 bb
        have sw1:=bb.size
        replace LC:=LC.up bb
        replace LP:=LP.up bb
        clear Bw0
        replace RU:=RU.below bb
        clear bb CO
        have cLP0:=LP.cell 0 rfl
        have cLP1:=LP.cell 1 rfl
        have cLP2:=LP.cell 2 rfl
        go_wp2_with fail
        refine (IN.out _).mono ?_
        rintro _ w9 ⟨rfl, e9⟩
        rw [e9]
        clear e9 IN
        clear cLP0 cLP1 cLP2
        have cLC0:=LC.cell 0 rfl
        have cLC1:=LC.cell 1 rfl
        have cLP0:=LP.cell 0 rfl
        have cLP1:=LP.cell 1 rfl
        have cLP2:=LP.cell 2 rfl
        go_wp2_with fail
        refine (SO.out _ RU).mono ?_
        rintro _ w2 ⟨rfl, bb⟩
        clear cLC0 cLC1 cLP0 cLP1 cLP2
        have Bw2:=bu Bw1 bb
        have sw2:=bb.size
        replace LC:=LC.up bb
        replace LP:=LP.up bb
        clear Bw1
        clear bb SO RU
        have cLP0:=LP.cell 0 rfl
        have cLP1:=LP.cell 1 rfl
        have cLP2:=LP.cell 2 rfl
        have K : Hid (∀ w', Below w2.heap.size w2 w' → (fun w' => Below w2.heap.size w2 w' ∧ (w'.cell? ⟨w.heap.size + 1, 0, none⟩ = some (.int .i64 m) ∧ w'.cell? ⟨w.heap.size + 1, 1, none⟩ = some (.string s) ∧ w'.cell? ⟨w.heap.size + 1, 2, none⟩ = some (.slice ua k uc))) w'):=hide fun w' hb' => ⟨hb', ⟨(LP.up hb').cell 0 rfl, (LP.up hb').cell 1 rfl, (LP.up hb').cell 2 rfl⟩⟩
        go_upto_region 3 with fail
        have bA : Below w2.heap.size w2 w2.drew:=Below.drew (Below.refl _ _)
        refine wrn K bA (fun hHeld => ?_)
        refine' tj 0 28 rfl ?_ ?_;rotate_left
        ·intro w h;go_simp;try rfl
        simp only [pU]
        refine' tj 1 29 rfl ?_ ?_;rotate_left
        ·intro w h;go_simp;try rfl
        simp only [pU]
        refine' tj 2 30 rfl ?_ ?_;rotate_left
        ·intro w h;go_simp;try rfl
        simp only [pU]
        refine' tj 3 31 rfl ?_ ?_;rotate_left
        ·intro w h;go_simp;try rfl
        simp only [pU]
        refine' tj 4 32 rfl ?_ ?_;rotate_left
        ·intro w h;go_simp;try rfl
        simp only [pU]
        refine' tj 5 33 rfl ?_ ?_;rotate_left
        ·intro w h;go_simp;try rfl
        simp only [pU]
        refine rd 6 rfl (fun KK hKK => ?_)
        go_simp
        have hgo:=bA
        refine (NO.out _).mono ?_
        rintro e wz3_1 ⟨rfl, bb⟩
        have bz1 : Below w2.heap.size w2 wz3_1:=bu bA bb
        clear bA hgo bb
        clear hHeld
        refine hKK.out _ _ (K.out _ bz1) (fun hHeld => ?_)
        clear hKK KK
        refine' tj 7 35 rfl ?_ ?_;rotate_left
        ·intro w h;go_simp;try rfl
        simp only [pU]
        refine' tj 8 36 rfl ?_ ?_;rotate_left
        ·intro w h;go_simp;try rfl
        simp only [pU]
        refine' tj 11 39 rfl ?_ ?_;rotate_left
        ·intro w h;go_simp;try rfl
        simp only [pU]
        refine' tj 9 37 rfl ?_ ?_;rotate_left
        ·intro w h;go_simp;try rfl
        simp only [pU]
        refine' tj 12 40 rfl ?_ ?_;rotate_left
        ·intro w h;go_simp;try rfl
        simp only [pU]
        refine rd 10 rfl (fun KK hKK => ?_)
        go_simp
        have hgo:=bz1
        refine (VO.out _).mono ?_
        rintro e wz3_2 ⟨rfl, bb⟩
        have bz2 : Below w2.heap.size w2 wz3_2:=bu bz1 bb
        clear bz1 hgo bb
        clear hHeld
        refine hKK.out _ _ (K.out _ bz2) (fun hHeld => ?_)
        clear hKK KK
        refine' tj 13 41 rfl ?_ ?_;rotate_left
        ·intro w h;go_simp;try rfl
        simp only [pU]
        refine' tj 14 42 rfl ?_ ?_;rotate_left
        ·intro w h;go_simp;try rfl
        simp only [pU]
        refine' tj 15 43 rfl ?_ ?_;rotate_left
        ·intro w h;go_simp;try rfl
        simp only [pU]
        refine' tj 16 4 rfl ?_ ?_;rotate_left
        ·intro w h;go_simp;try rfl
        simp only [pU]
        clear hHeld
        refine wdn ?_
        have bb:=bz2
        have Bwz3_2:=bu Bw2 bb
        have swz3_2:=bb.size
        replace LC:=LC.up bb
        replace LP:=LP.up bb
        clear Bw2
        clear bb bz2 K
        clear cLP0 cLP1 cLP2
        go_wp2
        go_ret
        exact ⟨by simp [hv], Bwz3_2⟩
end Go.Proofs.YtndpjhiidmdlhaaGreatDoor
namespace Go.Proofs.YtndpjhiidmdlhaaGreatDoor
open Go.RowKit

theorem l10Before_any (m n : Int) (s t : ByteArray) (u v : Value) (xs ys : List Int) (w : World) :
 Calls Tryz.prog 101 #[qv m s u, qv n t v] w fun e w' => e = .returned (.bool (befP (m, s, xs) (n, t, ys))) ∧ Below w.heap.size w w' := by
 have B:=hide (qalloc2 w (.cells #[.int .i64 m,.string s, u] 82) (.cells #[.int .i64 n,.string t, v] 82))
 unfold befP
 simp only
 by_cases h1 : m < n
 ·rw [decide_eq_true h1, Bool.true_or]
  go_enter Tryz.func101, Tryz.ntmps101
  go_wp2
  go_ret
  exact ⟨rfl, B.out⟩
 ·have hd1:=decide_eq_false h1
  rw [hd1, Bool.false_or]
  by_cases h2 : m = n
  ·subst h2
   rw [decide_eq_true rfl, Bool.true_and]
   clear hd1
   generalize hb : Op.bytesLess s.toList t.toList = q
   go_enter Tryz.func101, Tryz.ntmps101
   go_wp2
   go_ret
   exact ⟨rfl, B.out⟩
  ·have hd2:=decide_eq_false h2
   rw [hd2, Bool.false_and]
   go_enter Tryz.func101, Tryz.ntmps101
   go_wp2
   go_ret
   exact ⟨rfl, B.out⟩
end Go.Proofs.YtndpjhiidmdlhaaGreatDoor
namespace Go.Proofs.YtndpjhiidmdlhaaGreatDoor
open Go.RowKit
set_option linter.unusedSectionVars false
variable [∀ (a b c d : Int), Decidable (Ok4 a b c d)]
variable [∀ (n f : Int), Decidable (COk n f)]
variable [∀ (n : Int) (s : List Int), Decidable (OkL n s)]
variable [∀ (a b c d : Nat), Decidable (okN a b c d)]
variable [∀ (last : Int) (s : St), Decidable (GoodSt last s)]
variable [∀ (x : T4), Decidable (OkT x)]

def tokB (n f : Int) (ps : List Pt) : Bool := ps.all (fun p => pokB n f p.1 p.2.1 p.2.2) && rowP ps && decide (ps.length ≤ 20)
theorem row_iff (ps : List Pt) : rowP ps = true ↔ ∀ j, j + 1 < ps.length → befP (ps.getD j zpt) (ps.getD (j + 1) zpt) = true := by
 induction ps with
 | nil => simp [rowP]
 | cons a t ih =>
  cases t with
  | nil => simp [rowP]
  | cons b t =>
   rw [rowP, Bool.and_eq_true, ih]
   constructor
   ·rintro ⟨h1, h2⟩ j hj
    cases j with
    | zero => simpa using h1
    | succ j => simpa using h2 j (by simpa using hj)
   ·intro h
    refine ⟨by simpa using h 0 (by simp), fun j hj => ?_⟩
    have:=h (j + 1) (by simpa using hj)
    simpa using this
theorem tok_no1 {n f : Int} {ps : List Pt} {k : Nat} (hk : k < ps.length) (h : pokB n f (ps.getD k zpt).1 (ps.getD k zpt).2.1 (ps.getD k zpt).2.2 = false) : tokB n f ps = false := by
 unfold tokB
 have : ps.all (fun p => pokB n f p.1 p.2.1 p.2.2) = false:=by
  rw [List.all_eq_false]
  exact ⟨_, pt_mem hk, by rw [h]; simp⟩
 rw [this]; rfl
theorem tok_no2 {n f : Int} {ps : List Pt} {j : Nat} (hj : j + 1 < ps.length) (h : befP (ps.getD j zpt) (ps.getD (j + 1) zpt) = false) : tokB n f ps = false := by
 unfold tokB
 have : rowP ps = false:=by
  rw [Bool.eq_false_iff]
  intro e
  have:=(row_iff ps).1 e j hj
  rw [h] at this
  cases this
 rw [this]; simp
theorem tok_yes {n f : Int} {ps : List Pt} (h1 : ∀ j, j < ps.length → pokB n f (ps.getD j zpt).1 (ps.getD j zpt).2.1 (ps.getD j zpt).2.2 = true) (h2 : ∀ j, j + 1 < ps.length → befP (ps.getD j zpt) (ps.getD (j + 1) zpt) = true) : tokB n f ps = decide (ps.length ≤ 20) := by
 unfold tokB
 have e1 : ps.all (fun p => pokB n f p.1 p.2.1 p.2.2) = true:=by
  rw [List.all_eq_true]
  intro p hp
  obtain ⟨j, hj, rfl⟩:=List.getElem_of_mem hp
  have:=h1 j hj
  simpa [List.getElem?_eq_getElem hj] using this
 rw [e1, (row_iff ps).2 h2]; rfl

theorem specTableOk (n f : Int) (v : Value) (ps : List Pt) (w : World) (hl : ps.length ≤ 4194304) (hs : ∀ p ∈ ps, p.2.1.size ≤ 1048576) (h : RPt w v ps) :
 Calls Tryz.prog 42 #[cv n f, v] w fun e w' => e = .returned (.bool (tokB n f ps)) ∧ Below w.heap.size w w' := by
 obtain ⟨ao, ca, rfl⟩:=h.form
 obtain ⟨len, hn⟩ : ∃ len, ps.length = len:=⟨_, rfl⟩
 have Hn:=hide hn
 have HSZ:=hide hs
 obtain ⟨w0, hw0⟩ : ∃ y, w.alloc (.cells #[.int .i64 n,.int .i64 f] 39) = y:=⟨_, rfl⟩
 have B0 : Below w.heap.size w w0:=hw0 ▸ qalloc _ _
 have L0 : Loc w0 w.heap.size #[.int .i64 n,.int .i64 f]:=hw0 ▸ loc_at w _ _ rfl
 have H:=hide (h.below B0)
 obtain ⟨r, hr⟩ : ∃ r, tokB n f ps = r:=⟨_, rfl⟩
 have N1 : Hid (∀ k, k < ps.length → pokB n f (ps.getD k zpt).1 (ps.getD k zpt).2.1 (ps.getD k zpt).2.2 = false → r = false):=hide fun k hk h => hr ▸ tok_no1 hk h
 have N2 : Hid (∀ j, j + 1 < ps.length → befP (ps.getD j zpt) (ps.getD (j + 1) zpt) = false → r = false):=hide fun j hj h => hr ▸ tok_no2 hj h
 have YE : Hid ((∀ j, j < ps.length → pokB n f (ps.getD j zpt).1 (ps.getD j zpt).2.1 (ps.getD j zpt).2.2 = true) → (∀ j, j + 1 < ps.length → befP (ps.getD j zpt) (ps.getD (j + 1) zpt) = true) → r = decide (len ≤ 20)):=hide fun h1 h2 => by rw [← hr, tok_yes h1 h2, hn]
 rw [hn] at hl H ⊢
 rw [hr]
 clear h hn hs hr
 go_enter Tryz.func42, Tryz.ntmps42
 go_wp2
 clear hw0
 go_loopw [5] (fun i wr => ∃ k : Nat, k ≤ len ∧ i = .int .i64 k ∧ Hid (∀ j, j < k → pokB n f (ps.getD j zpt).1 (ps.getD j zpt).2.1 (ps.getD j zpt).2.2 = true) ∧ Hid (∀ j, j + 1 < k → befP (ps.getD j zpt) (ps.getD (j + 1) zpt) = true) ∧ Below w0.heap.size w0 wr) (fun i _ => len - (intOf i).toNat)
 case atStart => exact ⟨0, Nat.zero_le _, rfl, hide (fun j hj => by omega), hide (fun j hj => by omega), Below.refl _ _⟩
 case round =>
  obtain ⟨k, hk, rfl, HA, HB, bb⟩:=hrel
  have Bwr:=bu B0 bb
  have LC:=L0.up bb
  have Br:=bb
  have HW:=H.out.below bb
  by_cases hlt : k < len
  ·have hkx : k < ps.length:=by have:=Hn.out; omega
   obtain ⟨g, off, u, hao, c0, c1, c2, ru⟩:=HW.at k hkx
   have hsz:=HSZ.out _ (pt_mem hkx)
   have N1k:=hide (N1.out k hkx)
   have N2k : Hid (∀ j, k = j + 1 → befP (ps.getD j zpt) (ps.getD k zpt) = false → r = false):=hide fun j hj h => N2.out j (by omega) (by rw [← hj]; exact h)
   have HA2 : Hid (pokB n f (ps.getD k zpt).1 (ps.getD k zpt).2.1 (ps.getD k zpt).2.2 = true → ∀ j, j < k + 1 → pokB n f (ps.getD j zpt).1 (ps.getD j zpt).2.1 (ps.getD j zpt).2.2 = true):=hide fun h j hj => by by_cases e : j = k; subst e; exact h; exact HA.out j (by omega)
   have HB2 : Hid ((∀ j, k = j + 1 → befP (ps.getD j zpt) (ps.getD k zpt) = true) → ∀ j, j + 1 < k + 1 → befP (ps.getD j zpt) (ps.getD (j + 1) zpt) = true):=hide fun h j hj => by by_cases e : k = j + 1; have:=h j e; rwa [e] at this; exact HB.out j (by omega)
   have PREV : Hid (∀ j, k = j + 1 → ∃ u', wr.cell? ⟨g, off + j * 3, none⟩ = some (.int .i64 (ps.getD j zpt).1) ∧ wr.cell? ⟨g, off + j * 3 + 1, none⟩ = some (.string (ps.getD j zpt).2.1) ∧ wr.cell? ⟨g, off + j * 3 + 2, none⟩ = some u' ∧ RI wr u' (ps.getD j zpt).2.2):=hide fun j hj => by
    obtain ⟨g', off', u', e, d0, d1, d2, ru'⟩:=HW.at j (by omega)
    rw [hao] at e
    injection e with e
    injection e with e1 e2
    subst e1 e2
    exact ⟨u', d0, d1, d2, ru'⟩
   subst hao
   generalize hx : ps.getD k zpt = x at *
   obtain ⟨m, s, xs⟩:=x
   simp only at c0 c1 ru hsz N1k HA2
   have PO:=hide fun w h => specPartOk n f m s u xs w hsz h
   obtain ⟨ua, uc, rfl⟩:=ru.form
   have RU:=hide fun w' (hb' : Below wr.heap.size wr w') => ru.below hb'
   generalize pokB n f m s xs = pk at *
   obtain ⟨xl, hxl⟩ : ∃ l, xs.length = l:=⟨_, rfl⟩
   rw [hxl] at PO RU c2
   clear ru HW H N1 N2 YE HA HB hx hxl
   cases pk
   ·have e:=N1k.out rfl
    subst e
    clear N1k N2k HA2 HB2 PREV
    have cLC0:=LC.cell 0 rfl
    have cLC1:=LC.cell 1 rfl
    have K : Hid (∀ w', Below wr.heap.size wr w' → (fun w' => Below wr.heap.size wr w' ∧ (w'.cell? ⟨w.heap.size, 0, none⟩ = some (.int .i64 n) ∧ w'.cell? ⟨w.heap.size, 1, none⟩ = some (.int .i64 f)) ∧ w'.cell? ⟨g, off + k * 3, none⟩ = some (.int .i64 m) ∧ w'.cell? ⟨g, off + k * 3 + 1, none⟩ = some (.string s) ∧ w'.cell? ⟨g, off + k * 3 + 2, none⟩ = some (.slice ua xl uc)) w'):=hide fun w' hb' => ⟨hb', ⟨(LC.up hb').cell 0 rfl, (LC.up hb').cell 1 rfl⟩, (hb'.cell (p:=⟨g, off + k * 3, none⟩) (cell_lt c0)).trans c0, (hb'.cell (p:=⟨g, off + k * 3 + 1, none⟩) (cell_lt c1)).trans c1, (hb'.cell (p:=⟨g, off + k * 3 + 2, none⟩) (cell_lt c2)).trans c2⟩
    go_upto_region 4 with fail
    have bA : Below wr.heap.size wr wr.drew:=Below.drew (Below.refl _ _)
    refine wrn K bA (fun hHeld => ?_)
    refine' tj 0 12 rfl ?_ ?_;rotate_left
    ·intro w h;go_simp;try rfl
    simp only [pU]
    refine' tj 1 13 rfl ?_ ?_;rotate_left
    ·intro w h;go_simp;try rfl
    simp only [pU]
    refine' tj 2 14 rfl ?_ ?_;rotate_left
    ·intro w h;go_simp;try rfl
    simp only [pU]
    refine' tj 3 15 rfl ?_ ?_;rotate_left
    ·intro w h;go_simp;try rfl
    simp only [pU]
    refine' tj 4 16 rfl ?_ ?_;rotate_left
    ·intro w h;go_simp;try rfl
    simp only [pU]
    refine rd 5 rfl (fun KK hKK => ?_)
    go_simp
    have hgo:=bA
    refine (PO.out _ (RU.out _ hgo)).mono ?_
    rintro e wz4_1 ⟨rfl, bb⟩
    have bz1 : Below wr.heap.size wr wz4_1:=bu bA bb
    clear RU
    clear bA hgo bb
    clear hHeld
    refine hKK.out _ _ (K.out _ bz1) (fun hHeld => ?_)
    clear hKK KK
    refine' tj 6 18 rfl ?_ ?_;rotate_left
    ·intro w h;go_simp;try rfl
    simp only [pU]
    refine' tj 7 19 rfl ?_ ?_;rotate_left
    ·intro w h;go_simp;try rfl
    simp only [pU]
    refine sk 8 20 rfl (h := ?_)
    simp only [pU]
    refine sk 9 21 rfl (h := ?_)
    simp only [pU]
    refine sk 10 22 rfl (h := ?_)
    simp only [pU]
    refine sk 11 23 rfl (h := ?_)
    simp only [pU]
    refine sk 12 24 rfl (h := ?_)
    simp only [pU]
    refine sk 16 28 rfl (h := ?_)
    simp only [pU]
    refine sk 17 29 rfl (h := ?_)
    simp only [pU]
    refine sk 13 25 rfl (h := ?_)
    simp only [pU]
    refine sk 18 30 rfl (h := ?_)
    simp only [pU]
    refine sk 14 26 rfl (h := ?_)
    simp only [pU]
    refine sk 19 31 rfl (h := ?_)
    simp only [pU]
    refine sk 15 27 rfl (h := ?_)
    simp only [pU]
    refine sk 20 32 rfl (h := ?_)
    simp only [pU]
    refine sk 21 33 rfl (h := ?_)
    simp only [pU]
    refine sk 22 34 rfl (h := ?_)
    simp only [pU]
    refine' tj 23 35 rfl ?_ ?_;rotate_left
    ·intro w h;go_simp;try rfl
    simp only [pU]
    clear hHeld
    refine wdn ?_
    have bb:=bz1
    have Bwz4_1:=bu Bwr bb
    have swz4_1:=bb.size
    replace LC:=LC.up bb
    replace Br:=bu Br bb
    clear Bwr
    clear bb bz1 K
    clear cLC0 cLC1
    go_wp2
    go_ret
    exact ⟨rfl, Bwz4_1⟩
   ·have HA3:=hide (HA2.out rfl)
    clear N1k HA2
    by_cases hk0 : k = 0
    ·have HB3:=hide (HB2.out (fun j hj => by omega))
     clear N2k HB2 PREV
     subst hk0
     simp only [Nat.zero_mul, Nat.add_zero] at c0 c1 c2
     have cLC0:=LC.cell 0 rfl
     have cLC1:=LC.cell 1 rfl
     have K : Hid (∀ w', Below wr.heap.size wr w' → (fun w' => Below wr.heap.size wr w' ∧ (w'.cell? ⟨w.heap.size, 0, none⟩ = some (.int .i64 n) ∧ w'.cell? ⟨w.heap.size, 1, none⟩ = some (.int .i64 f)) ∧ w'.cell? ⟨g, off, none⟩ = some (.int .i64 m) ∧ w'.cell? ⟨g, off + 1, none⟩ = some (.string s) ∧ w'.cell? ⟨g, off + 2, none⟩ = some (.slice ua xl uc)) w'):=hide fun w' hb' => ⟨hb', ⟨(LC.up hb').cell 0 rfl, (LC.up hb').cell 1 rfl⟩, (hb'.cell (p:=⟨g, off, none⟩) (cell_lt c0)).trans c0, (hb'.cell (p:=⟨g, off + 1, none⟩) (cell_lt c1)).trans c1, (hb'.cell (p:=⟨g, off + 2, none⟩) (cell_lt c2)).trans c2⟩
     go_upto_region 4 with fail
     have bA : Below wr.heap.size wr wr.drew:=Below.drew (Below.refl _ _)
     refine wrn K bA (fun hHeld => ?_)
     refine' tj 0 12 rfl ?_ ?_;rotate_left
     ·intro w h;go_simp;try rfl
     simp only [pU]
     refine' tj 1 13 rfl ?_ ?_;rotate_left
     ·intro w h;go_simp;try rfl
     simp only [pU]
     refine' tj 2 14 rfl ?_ ?_;rotate_left
     ·intro w h;go_simp;try rfl
     simp only [pU]
     refine' tj 3 15 rfl ?_ ?_;rotate_left
     ·intro w h;go_simp;try rfl
     simp only [pU]
     refine' tj 4 16 rfl ?_ ?_;rotate_left
     ·intro w h;go_simp;try rfl
     simp only [pU]
     refine rd 5 rfl (fun KK hKK => ?_)
     go_simp
     have hgo:=bA
     refine (PO.out _ (RU.out _ hgo)).mono ?_
     rintro e wz4_1 ⟨rfl, bb⟩
     have bz1 : Below wr.heap.size wr wz4_1:=bu bA bb
     clear RU
     clear bA hgo bb
     clear hHeld
     refine hKK.out _ _ (K.out _ bz1) (fun hHeld => ?_)
     clear hKK KK
     refine' tj 6 18 rfl ?_ ?_;rotate_left
     ·intro w h;go_simp;try rfl
     simp only [pU]
     refine' tj 7 19 rfl ?_ ?_;rotate_left
     ·intro w h;go_simp;try rfl
     simp only [pU]
     refine' tj 8 20 rfl ?_ ?_;rotate_left
     ·intro w h;go_simp;try rfl
     simp only [pU]
     refine' tj 9 21 rfl ?_ ?_;rotate_left
     ·intro w h;go_simp;try rfl
     simp only [pU]
     refine' tj 10 22 rfl ?_ ?_;rotate_left
     ·intro w h;go_simp;try rfl
     simp only [pU]
     refine sk 11 23 rfl (h := ?_)
     simp only [pU]
     refine sk 12 24 rfl (h := ?_)
     simp only [pU]
     refine sk 16 28 rfl (h := ?_)
     simp only [pU]
     refine sk 17 29 rfl (h := ?_)
     simp only [pU]
     refine sk 13 25 rfl (h := ?_)
     simp only [pU]
     refine sk 18 30 rfl (h := ?_)
     simp only [pU]
     refine sk 14 26 rfl (h := ?_)
     simp only [pU]
     refine sk 19 31 rfl (h := ?_)
     simp only [pU]
     refine sk 15 27 rfl (h := ?_)
     simp only [pU]
     refine sk 20 32 rfl (h := ?_)
     simp only [pU]
     refine sk 21 33 rfl (h := ?_)
     simp only [pU]
     refine' tj 22 34 rfl ?_ ?_;rotate_left
     ·intro w h;go_simp;try rfl
     simp only [pU]
     refine' tj 23 35 rfl ?_ ?_;rotate_left
     ·intro w h;go_simp;try rfl
     simp only [pU]
     clear hHeld
     refine wdn ?_
     have bb:=bz1
     have Bwz4_1:=bu Bwr bb
     have swz4_1:=bb.size
     replace LC:=LC.up bb
     replace Br:=bu Br bb
     clear Bwr
     clear bb bz1 K
     clear cLC0 cLC1
     go_wp2
     go_roundw
     case rel => exact ⟨0 + 1, by omega, by go_num, HA3, HB3, Br⟩
     case measure => simp [intOf]; omega
    ·obtain ⟨j, hj⟩ : ∃ j, k = j + 1:=⟨k - 1, by omega⟩
     have N2j:=hide (N2k.out j hj)
     obtain ⟨u', d0, d1, d2, ru'⟩:=PREV.out j hj
     have HB3 : Hid (befP (ps.getD j zpt) (m, s, xs) = true → ∀ j, j + 1 < k + 1 → befP (ps.getD j zpt) (ps.getD (j + 1) zpt) = true):=hide fun h => HB2.out (fun i hi => by obtain rfl : i = j:=(by omega); exact h)
     clear N2k HB2 PREV hk0
     subst hj
     generalize ps.getD j zpt = y at *
     obtain ⟨m', s', xs'⟩:=y
     simp only at d0 d1 ru' N2j HB3
     obtain ⟨va, vc, rfl⟩:=ru'.form
     generalize xs'.length = yl at *
     clear ru'
     have BE:=hide fun w => l10Before_any m' m s' s (.slice va yl vc) (.slice ua xl uc) xs' xs w
     generalize befP (m', s', xs') (m, s, xs) = be at *
     have hg1 : decide ((0 : Int) < (j : Int) + 1) = true:=decide_eq_true (by omega)
     have hwm : IntKind.i64.wrap (j : Int) = j:=by simp only [IntKind.wrap_i64]; omega
     cases be
     ·have e:=N2j.out rfl
      subst e
      clear N2j HB3
      have cLC0:=LC.cell 0 rfl
      have cLC1:=LC.cell 1 rfl
      have K : Hid (∀ w', Below wr.heap.size wr w' → (fun w' => Below wr.heap.size wr w' ∧ (w'.cell? ⟨w.heap.size, 0, none⟩ = some (.int .i64 n) ∧ w'.cell? ⟨w.heap.size, 1, none⟩ = some (.int .i64 f)) ∧ w'.cell? ⟨g, off + (j + 1) * 3, none⟩ = some (.int .i64 m) ∧ w'.cell? ⟨g, off + (j + 1) * 3 + 1, none⟩ = some (.string s) ∧ w'.cell? ⟨g, off + (j + 1) * 3 + 2, none⟩ = some (.slice ua xl uc) ∧ w'.cell? ⟨g, off + j * 3, none⟩ = some (.int .i64 m') ∧ w'.cell? ⟨g, off + j * 3 + 1, none⟩ = some (.string s') ∧ w'.cell? ⟨g, off + j * 3 + 2, none⟩ = some (.slice va yl vc)) w'):=hide fun w' hb' => ⟨hb', ⟨(LC.up hb').cell 0 rfl, (LC.up hb').cell 1 rfl⟩, (hb'.cell (p:=⟨g, off + (j + 1) * 3, none⟩) (cell_lt c0)).trans c0, (hb'.cell (p:=⟨g, off + (j + 1) * 3 + 1, none⟩) (cell_lt c1)).trans c1, (hb'.cell (p:=⟨g, off + (j + 1) * 3 + 2, none⟩) (cell_lt c2)).trans c2, (hb'.cell (p:=⟨g, off + j * 3, none⟩) (cell_lt d0)).trans d0, (hb'.cell (p:=⟨g, off + j * 3 + 1, none⟩) (cell_lt d1)).trans d1, (hb'.cell (p:=⟨g, off + j * 3 + 2, none⟩) (cell_lt d2)).trans d2⟩
      go_upto_region 4 with fail
      have bA : Below wr.heap.size wr wr.drew:=Below.drew (Below.refl _ _)
      refine wrn K bA (fun hHeld => ?_)
      refine' tj 0 12 rfl ?_ ?_;rotate_left
      ·intro w h;go_simp;try rfl
      simp only [pU]
      refine' tj 1 13 rfl ?_ ?_;rotate_left
      ·intro w h;go_simp;try rfl
      simp only [pU]
      refine' tj 2 14 rfl ?_ ?_;rotate_left
      ·intro w h;go_simp;try rfl
      simp only [pU]
      refine take_at (i := 3) (d := 15) (v := ?_) rfl rfl (by kernel_rfl) (by kernel_rfl) (by kernel_rfl) (fun _ _ _ h => h) (Or.inl ⟨by rfl, ?_⟩) (by assumption) ?_
      rotate_left
      ·intro w hSw
       try dsimp only at hSw
       go_simp
       try rw [if_pos (by omega)]
       try with_reducible rfl
      simp only [pU]
      refine' tj 4 16 rfl ?_ ?_;rotate_left
      ·intro w h;go_simp;try rfl
      simp only [pU]
      refine rd 5 rfl (fun KK hKK => ?_)
      go_simp
      have hgo:=bA
      refine (PO.out _ (RU.out _ hgo)).mono ?_
      rintro e wz4_1 ⟨rfl, bb⟩
      have bz1 : Below wr.heap.size wr wz4_1:=bu bA bb
      clear RU
      clear bA hgo bb
      clear hHeld
      refine hKK.out _ _ (K.out _ bz1) (fun hHeld => ?_)
      clear hKK KK
      refine' tj 6 18 rfl ?_ ?_;rotate_left
      ·intro w h;go_simp;try rfl
      simp only [pU]
      refine' tj 7 19 rfl ?_ ?_;rotate_left
      ·intro w h;go_simp;try rfl
      simp only [pU]
      refine' tj 8 20 rfl ?_ ?_;rotate_left
      ·intro w h;go_simp;try rfl
      simp only [pU]
      refine' tj 9 21 rfl ?_ ?_;rotate_left
      ·intro w h;go_simp;try rfl
      simp only [pU]
      refine' tj 10 22 rfl ?_ ?_;rotate_left
      ·intro w h;go_simp;try rfl
      simp only [pU]
      refine' tj 11 23 rfl ?_ ?_;rotate_left
      ·intro w h;go_simp;try rfl
      simp only [pU]
      refine' tj 12 24 rfl ?_ ?_;rotate_left
      ·intro w h;go_simp;try rfl
      simp only [pU]
      refine' tj 16 28 rfl ?_ ?_;rotate_left
      ·intro w h;go_simp;try rfl
      simp only [pU]
      refine' tj 17 29 rfl ?_ ?_;rotate_left
      ·intro w h;go_simp;try rfl
      simp only [pU]
      refine' tj 13 25 rfl ?_ ?_;rotate_left
      ·intro w h;go_simp;try rfl
      simp only [pU]
      refine take_at (i := 18) (d := 30) (v := ?_) rfl rfl (by kernel_rfl) (by kernel_rfl) (by kernel_rfl) (fun _ _ _ h => h) (Or.inl ⟨by rfl, ?_⟩) (by assumption) ?_
      rotate_left
      ·intro w hSw
       try dsimp only at hSw
       go_simp
       try rw [if_pos (by omega)]
       try with_reducible rfl
      simp only [pU]
      refine take_at (i := 14) (d := 26) (v := ?_) rfl rfl (by kernel_rfl) (by kernel_rfl) (by kernel_rfl) (fun _ _ _ h => h) (Or.inl ⟨by rfl, ?_⟩) (by assumption) ?_
      rotate_left
      ·intro w hSw
       try dsimp only at hSw
       go_simp
       try rw [if_pos (by omega)]
       try with_reducible rfl
      simp only [pU]
      refine' tj 19 31 rfl ?_ ?_;rotate_left
      ·intro w h;go_simp;try rfl
      simp only [pU]
      refine' tj 15 27 rfl ?_ ?_;rotate_left
      ·intro w h;go_simp;try rfl
      simp only [pU]
      refine rd 20 rfl (fun KK hKK => ?_)
      go_simp
      have hgo:=bz1
      refine (BE.out _).mono ?_
      rintro e wz4_2 ⟨rfl, bb⟩
      have bz2 : Below wr.heap.size wr wz4_2:=bu bz1 bb
      clear bz1 hgo bb
      clear hHeld
      refine hKK.out _ _ (K.out _ bz2) (fun hHeld => ?_)
      clear hKK KK
      refine' tj 21 33 rfl ?_ ?_;rotate_left
      ·intro w h;go_simp;try rfl
      simp only [pU]
      refine' tj 22 34 rfl ?_ ?_;rotate_left
      ·intro w h;go_simp;try rfl
      simp only [pU]
      refine' tj 23 35 rfl ?_ ?_;rotate_left
      ·intro w h;go_simp;try rfl
      simp only [pU]
      clear hHeld
      refine wdn ?_
      have bb:=bz2
      have Bwz4_2:=bu Bwr bb
      have swz4_2:=bb.size
      replace LC:=LC.up bb
      replace Br:=bu Br bb
      clear Bwr
      clear bb bz2 K
      clear cLC0 cLC1
      go_wp2
      go_ret
      exact ⟨rfl, Bwz4_2⟩
     ·have HB4:=hide (HB3.out rfl)
      clear N2j HB3
      have cLC0:=LC.cell 0 rfl
      have cLC1:=LC.cell 1 rfl
      have K : Hid (∀ w', Below wr.heap.size wr w' → (fun w' => Below wr.heap.size wr w' ∧ (w'.cell? ⟨w.heap.size, 0, none⟩ = some (.int .i64 n) ∧ w'.cell? ⟨w.heap.size, 1, none⟩ = some (.int .i64 f)) ∧ w'.cell? ⟨g, off + (j + 1) * 3, none⟩ = some (.int .i64 m) ∧ w'.cell? ⟨g, off + (j + 1) * 3 + 1, none⟩ = some (.string s) ∧ w'.cell? ⟨g, off + (j + 1) * 3 + 2, none⟩ = some (.slice ua xl uc) ∧ w'.cell? ⟨g, off + j * 3, none⟩ = some (.int .i64 m') ∧ w'.cell? ⟨g, off + j * 3 + 1, none⟩ = some (.string s') ∧ w'.cell? ⟨g, off + j * 3 + 2, none⟩ = some (.slice va yl vc)) w'):=hide fun w' hb' => ⟨hb', ⟨(LC.up hb').cell 0 rfl, (LC.up hb').cell 1 rfl⟩, (hb'.cell (p:=⟨g, off + (j + 1) * 3, none⟩) (cell_lt c0)).trans c0, (hb'.cell (p:=⟨g, off + (j + 1) * 3 + 1, none⟩) (cell_lt c1)).trans c1, (hb'.cell (p:=⟨g, off + (j + 1) * 3 + 2, none⟩) (cell_lt c2)).trans c2, (hb'.cell (p:=⟨g, off + j * 3, none⟩) (cell_lt d0)).trans d0, (hb'.cell (p:=⟨g, off + j * 3 + 1, none⟩) (cell_lt d1)).trans d1, (hb'.cell (p:=⟨g, off + j * 3 + 2, none⟩) (cell_lt d2)).trans d2⟩
      go_upto_region 4 with fail
      have bA : Below wr.heap.size wr wr.drew:=Below.drew (Below.refl _ _)
      refine wrn K bA (fun hHeld => ?_)
      refine' tj 0 12 rfl ?_ ?_;rotate_left
      ·intro w h;go_simp;try rfl
      simp only [pU]
      refine' tj 1 13 rfl ?_ ?_;rotate_left
      ·intro w h;go_simp;try rfl
      simp only [pU]
      refine' tj 2 14 rfl ?_ ?_;rotate_left
      ·intro w h;go_simp;try rfl
      simp only [pU]
      refine take_at (i := 3) (d := 15) (v := ?_) rfl rfl (by kernel_rfl) (by kernel_rfl) (by kernel_rfl) (fun _ _ _ h => h) (Or.inl ⟨by rfl, ?_⟩) (by assumption) ?_
      rotate_left
      ·intro w hSw
       try dsimp only at hSw
       go_simp
       try rw [if_pos (by omega)]
       try with_reducible rfl
      simp only [pU]
      refine' tj 4 16 rfl ?_ ?_;rotate_left
      ·intro w h;go_simp;try rfl
      simp only [pU]
      refine rd 5 rfl (fun KK hKK => ?_)
      go_simp
      have hgo:=bA
      refine (PO.out _ (RU.out _ hgo)).mono ?_
      rintro e wz4_1 ⟨rfl, bb⟩
      have bz1 : Below wr.heap.size wr wz4_1:=bu bA bb
      clear RU
      clear bA hgo bb
      clear hHeld
      refine hKK.out _ _ (K.out _ bz1) (fun hHeld => ?_)
      clear hKK KK
      refine' tj 6 18 rfl ?_ ?_;rotate_left
      ·intro w h;go_simp;try rfl
      simp only [pU]
      refine' tj 7 19 rfl ?_ ?_;rotate_left
      ·intro w h;go_simp;try rfl
      simp only [pU]
      refine' tj 8 20 rfl ?_ ?_;rotate_left
      ·intro w h;go_simp;try rfl
      simp only [pU]
      refine' tj 9 21 rfl ?_ ?_;rotate_left
      ·intro w h;go_simp;try rfl
      simp only [pU]
      refine' tj 10 22 rfl ?_ ?_;rotate_left
      ·intro w h;go_simp;try rfl
      simp only [pU]
      refine' tj 11 23 rfl ?_ ?_;rotate_left
      ·intro w h;go_simp;try rfl
      simp only [pU]
      refine' tj 12 24 rfl ?_ ?_;rotate_left
      ·intro w h;go_simp;try rfl
      simp only [pU]
      refine' tj 16 28 rfl ?_ ?_;rotate_left
      ·intro w h;go_simp;try rfl
      simp only [pU]
      refine' tj 17 29 rfl ?_ ?_;rotate_left
      ·intro w h;go_simp;try rfl
      simp only [pU]
      refine' tj 13 25 rfl ?_ ?_;rotate_left
      ·intro w h;go_simp;try rfl
      simp only [pU]
      refine take_at (i := 18) (d := 30) (v := ?_) rfl rfl (by kernel_rfl) (by kernel_rfl) (by kernel_rfl) (fun _ _ _ h => h) (Or.inl ⟨by rfl, ?_⟩) (by assumption) ?_
      rotate_left
      ·intro w hSw
       try dsimp only at hSw
       go_simp
       try rw [if_pos (by omega)]
       try with_reducible rfl
      simp only [pU]
      refine take_at (i := 14) (d := 26) (v := ?_) rfl rfl (by kernel_rfl) (by kernel_rfl) (by kernel_rfl) (fun _ _ _ h => h) (Or.inl ⟨by rfl, ?_⟩) (by assumption) ?_
      rotate_left
      ·intro w hSw
       try dsimp only at hSw
       go_simp
       try rw [if_pos (by omega)]
       try with_reducible rfl
      simp only [pU]
      refine' tj 19 31 rfl ?_ ?_;rotate_left
      ·intro w h;go_simp;try rfl
      simp only [pU]
      refine' tj 15 27 rfl ?_ ?_;rotate_left
      ·intro w h;go_simp;try rfl
      simp only [pU]
      refine rd 20 rfl (fun KK hKK => ?_)
      go_simp
      have hgo:=bz1
      refine (BE.out _).mono ?_
      rintro e wz4_2 ⟨rfl, bb⟩
      have bz2 : Below wr.heap.size wr wz4_2:=bu bz1 bb
      clear bz1 hgo bb
      clear hHeld
      refine hKK.out _ _ (K.out _ bz2) (fun hHeld => ?_)
      clear hKK KK
      refine' tj 21 33 rfl ?_ ?_;rotate_left
      ·intro w h;go_simp;try rfl
      simp only [pU]
      refine' tj 22 34 rfl ?_ ?_;rotate_left
      ·intro w h;go_simp;try rfl
      simp only [pU]
      refine' tj 23 35 rfl ?_ ?_;rotate_left
      ·intro w h;go_simp;try rfl
      simp only [pU]
      clear hHeld
      refine wdn ?_
      have bb:=bz2
      have Bwz4_2:=bu Bwr bb
      have swz4_2:=bb.size
      replace LC:=LC.up bb
      replace Br:=bu Br bb
      clear Bwr
      clear bb bz2 K
      clear cLC0 cLC1
      go_wp2
      go_roundw
      case rel => exact ⟨j + 1 + 1, by omega, by go_num, HA3, HB4, Br⟩
      case measure => simp [intOf]; omega
  ·have e:=YE.out (fun j hj => HA.out j (by have:=Hn.out; omega)) (fun j hj => HB.out j (by have:=Hn.out; omega))
   have hd : decide ((len : Int) ≤ 20) = decide (len ≤ 20):=by simp; omega
   subst e
   clear HA HB HW LC Br bb N1 N2 YE H
   go_wp2
   go_ret
   exact ⟨rfl, Bwr⟩
end Go.Proofs.YtndpjhiidmdlhaaGreatDoor
