/- PartOks: PartOk of the specification. -/
import Derived.Test.YtmpmedbojfjnaaaGreatDoorFPAQ
import Derived.Test.YtmpmedbojfjnaaaGreatDoorFPAK
import Derived.Test.YtmpmedbojfjnaaaGreatDoorFPAT
import Derived.Test.YtmpmedbojfjnaaaGreatDoorFPAM
import Derived.Test.YtmpmedbojfjnaaaGreatDoorFPAN
import Derived.Deep.RegionHeld3
import Derived.Deep.DeepCutAuto
namespace Go.Proofs.YtmpmedbojfjnaaaGreatDoor
open Go.RowKit
set_option linter.unusedSectionVars false
variable [∀ (a b c d : Int), Decidable (Ok4 a b c d)]
variable [∀ (n f : Int), Decidable (COk n f)]
variable [∀ (n : Int) (s : List Int), Decidable (OkL n s)]
variable [∀ (a b c d : Nat), Decidable (okN a b c d)]
variable [∀ (last : Int) (s : St), Decidable (GoodSt last s)]
variable [∀ (x : T4), Decidable (OkT x)]

def pokB (n f m : Int) (s : ByteArray) (xs : List Int) : Bool := decide (COk n f) && decide (1 ≤ m ∧ m ≤ 60) && decide (OkL n xs) && decide (xs ≠ []) && (decide (s = ⟨#[]⟩) || ((stepsAns s).isSome && decide (viewAns s = m)))
theorem in_bool (x lo hi : Int) (w : World) : Calls Tryz.prog 77 #[.int .i64 x, .int .i64 lo, .int .i64 hi] w fun e w' => e = .returned (.bool (decide (lo ≤ x ∧ x ≤ hi))) ∧ w' = w := by
 by_cases h : lo ≤ x ∧ x ≤ hi
 ·rw [decide_eq_true h]; exact in_yes x lo hi w h.1 h.2
 ·rw [decide_eq_false h]; exact in_no x lo hi w (by omega)

set_option maxHeartbeats 8000000 in
set_option maxRecDepth 100000 in
theorem specPartOk (n f m : Int) (s : ByteArray) (u : Value) (xs : List Int) (w : World) (hs : s.size ≤ 1048576) (hu : RI w u xs) :
 Calls Tryz.prog 49 #[cv n f, qv m s u] w fun e w' => e = .returned (.bool (pokB n f m s xs)) ∧ Below w.heap.size w w' := by
 obtain ⟨ua, uc, rfl⟩ := hu.form
 obtain ⟨w0, hw0⟩ : ∃ w0, (w.alloc (.cells #[.int .i64 n, .int .i64 f] 25)).alloc (.cells #[.int .i64 m, .string s, .slice ua xs.length uc] 52) = w0 := ⟨_, rfl⟩
 have Bw0 : Below w.heap.size w w0 := hw0 ▸ qalloc2 _ _ _
 have LC : Loc w0 w.heap.size #[.int .i64 n, .int .i64 f] := hw0 ▸ (loc_at w _ _ rfl).alloc _
 have LP : Loc w0 (w.heap.size + 1) #[.int .i64 m, .string s, .slice ua xs.length uc] := hw0 ▸ loc_at (w.alloc _) _ _ (by simp)
 have RU := hu.below Bw0 (Nat.le_refl _)
 have CO := hide fun w => specConfOk n f w
 have IN := hide fun w => in_bool m 1 60 w
 have SO := hide fun w h => specSetOk n (.slice ua xs.length uc) xs w h
 have NO := hide fun w => specNameOk s w (by omega)
 have VO := hide fun w => specViewOf s w (by omega)
 have hp : pokB n f m s xs = (decide (COk n f) && decide (1 ≤ m ∧ m ≤ 60) && decide (OkL n xs) && decide (xs ≠ []) && (decide (s = ⟨#[]⟩) || ((stepsAns s).isSome && decide (viewAns s = m)))) := rfl
 have hxe : decide (xs ≠ []) = !((xs.length : Int) == 0) := by cases xs with | nil => rfl | cons a l => simp; omega
 rw [hp, hxe]
 obtain ⟨k, hk⟩ : ∃ k, xs.length = k := ⟨_, rfl⟩
 rw [hk] at SO LP hw0 RU ⊢
 clear hp hxe hu hk
 generalize decide (COk n f) = c at *
 generalize decide (1 ≤ m ∧ m ≤ 60) = r at *
 generalize decide (OkL n xs) = o at *
 generalize (stepsAns s).isSome = nk at *
 generalize viewAns s = vw at *
 cases c
 ·simp only [Bool.false_and]
  go_enter Tryz.func49, Tryz.ntmps49
  have cLC0 := LC.cell 0 rfl
  have cLC1 := LC.cell 1 rfl
  go_wp2_with fail
  clear hw0
  refine (unhide CO _).mono ?_
  rintro _ w1 ⟨rfl, bb⟩
  clear cLC0 cLC1
  have Bw1 := Bw0.trans (bb.mono Bw0.size)
  have sw1 := bb.size
  replace LC := LC.below bb LC.lt
  replace LP := LP.below bb LP.lt
  clear Bw0
  replace RU := RU.below bb (Nat.le_refl _)
  clear bb CO
  have cLC0 := LC.cell 0 rfl
  have cLC1 := LC.cell 1 rfl
  have cLP0 := LP.cell 0 rfl
  have cLP1 := LP.cell 1 rfl
  have cLP2 := LP.cell 2 rfl
  go_wp2
  go_ret
  exact ⟨rfl, Bw1⟩
 ·simp only [Bool.true_and]
  cases r
  ·simp only [Bool.false_and]
   go_enter Tryz.func49, Tryz.ntmps49
   have cLC0 := LC.cell 0 rfl
   have cLC1 := LC.cell 1 rfl
   go_wp2_with fail
   clear hw0
   refine (unhide CO _).mono ?_
   rintro _ w1 ⟨rfl, bb⟩
   clear cLC0 cLC1
   have Bw1 := Bw0.trans (bb.mono Bw0.size)
   have sw1 := bb.size
   replace LC := LC.below bb LC.lt
   replace LP := LP.below bb LP.lt
   clear Bw0
   replace RU := RU.below bb (Nat.le_refl _)
   clear bb CO
   have cLP0 := LP.cell 0 rfl
   have cLP1 := LP.cell 1 rfl
   have cLP2 := LP.cell 2 rfl
   go_wp2_with fail
   refine (unhide IN _).mono ?_
   rintro _ w9 ⟨rfl, e9⟩
   rw [e9]
   clear e9 IN
   clear cLP0 cLP1 cLP2
   have cLC0 := LC.cell 0 rfl
   have cLC1 := LC.cell 1 rfl
   have cLP0 := LP.cell 0 rfl
   have cLP1 := LP.cell 1 rfl
   have cLP2 := LP.cell 2 rfl
   go_wp2
   go_ret
   exact ⟨rfl, Bw1⟩
  ·simp only [Bool.true_and]
   cases o
   ·simp only [Bool.false_and]
    go_enter Tryz.func49, Tryz.ntmps49
    have cLC0 := LC.cell 0 rfl
    have cLC1 := LC.cell 1 rfl
    go_wp2_with fail
    clear hw0
    refine (unhide CO _).mono ?_
    rintro _ w1 ⟨rfl, bb⟩
    clear cLC0 cLC1
    have Bw1 := Bw0.trans (bb.mono Bw0.size)
    have sw1 := bb.size
    replace LC := LC.below bb LC.lt
    replace LP := LP.below bb LP.lt
    clear Bw0
    replace RU := RU.below bb (Nat.le_refl _)
    clear bb CO
    have cLP0 := LP.cell 0 rfl
    have cLP1 := LP.cell 1 rfl
    have cLP2 := LP.cell 2 rfl
    go_wp2_with fail
    refine (unhide IN _).mono ?_
    rintro _ w9 ⟨rfl, e9⟩
    rw [e9]
    clear e9 IN
    clear cLP0 cLP1 cLP2
    have cLC0 := LC.cell 0 rfl
    have cLC1 := LC.cell 1 rfl
    have cLP0 := LP.cell 0 rfl
    have cLP1 := LP.cell 1 rfl
    have cLP2 := LP.cell 2 rfl
    go_wp2_with fail
    refine (unhide SO _ RU).mono ?_
    rintro _ w2 ⟨rfl, bb⟩
    clear cLC0 cLC1 cLP0 cLP1 cLP2
    have Bw2 := Bw1.trans (bb.mono Bw1.size)
    have sw2 := bb.size
    replace LC := LC.below bb LC.lt
    replace LP := LP.below bb LP.lt
    clear Bw1
    clear bb SO RU
    have cLC0 := LC.cell 0 rfl
    have cLC1 := LC.cell 1 rfl
    have cLP0 := LP.cell 0 rfl
    have cLP1 := LP.cell 1 rfl
    have cLP2 := LP.cell 2 rfl
    go_wp2
    go_ret
    exact ⟨rfl, Bw2⟩
   ·simp only [Bool.true_and]
    by_cases hk : k = 0
    ·subst hk
     have hd0 : ((((0 : Nat) : Int) == 0)) = true := rfl
     rw [hd0]
     simp only [Bool.not_true, Bool.false_and]
     go_enter Tryz.func49, Tryz.ntmps49
     have cLC0 := LC.cell 0 rfl
     have cLC1 := LC.cell 1 rfl
     go_wp2_with fail
     clear hw0
     refine (unhide CO _).mono ?_
     rintro _ w1 ⟨rfl, bb⟩
     clear cLC0 cLC1
     have Bw1 := Bw0.trans (bb.mono Bw0.size)
     have sw1 := bb.size
     replace LC := LC.below bb LC.lt
     replace LP := LP.below bb LP.lt
     clear Bw0
     replace RU := RU.below bb (Nat.le_refl _)
     clear bb CO
     have cLP0 := LP.cell 0 rfl
     have cLP1 := LP.cell 1 rfl
     have cLP2 := LP.cell 2 rfl
     go_wp2_with fail
     refine (unhide IN _).mono ?_
     rintro _ w9 ⟨rfl, e9⟩
     rw [e9]
     clear e9 IN
     clear cLP0 cLP1 cLP2
     have cLC0 := LC.cell 0 rfl
     have cLC1 := LC.cell 1 rfl
     have cLP0 := LP.cell 0 rfl
     have cLP1 := LP.cell 1 rfl
     have cLP2 := LP.cell 2 rfl
     go_wp2_with fail
     refine (unhide SO _ RU).mono ?_
     rintro _ w2 ⟨rfl, bb⟩
     clear cLC0 cLC1 cLP0 cLP1 cLP2
     have Bw2 := Bw1.trans (bb.mono Bw1.size)
     have sw2 := bb.size
     replace LC := LC.below bb LC.lt
     replace LP := LP.below bb LP.lt
     clear Bw1
     clear bb SO RU
     have cLC0 := LC.cell 0 rfl
     have cLC1 := LC.cell 1 rfl
     have cLP0 := LP.cell 0 rfl
     have cLP1 := LP.cell 1 rfl
     have cLP2 := LP.cell 2 rfl
     go_wp2
     go_ret
     exact ⟨rfl, Bw2⟩
    ·have hd0 : ((k : Int) == 0) = false := by simp; omega
     rw [hd0]
     simp only [Bool.not_false, Bool.true_and]
     by_cases he : s = ⟨#[]⟩
     ·have hd : decide (s = ⟨#[]⟩) = true := by simpa using he
      have hy : (s.toList == []) = true := by rw [he, ByteArray.toList_eq]; rfl
      rw [hd, Bool.true_or]
      clear he hd
      go_enter Tryz.func49, Tryz.ntmps49
      have cLC0 := LC.cell 0 rfl
      have cLC1 := LC.cell 1 rfl
      go_wp2_with fail
      clear hw0
      refine (unhide CO _).mono ?_
      rintro _ w1 ⟨rfl, bb⟩
      clear cLC0 cLC1
      have Bw1 := Bw0.trans (bb.mono Bw0.size)
      have sw1 := bb.size
      replace LC := LC.below bb LC.lt
      replace LP := LP.below bb LP.lt
      clear Bw0
      replace RU := RU.below bb (Nat.le_refl _)
      clear bb CO
      have cLP0 := LP.cell 0 rfl
      have cLP1 := LP.cell 1 rfl
      have cLP2 := LP.cell 2 rfl
      go_wp2_with fail
      refine (unhide IN _).mono ?_
      rintro _ w9 ⟨rfl, e9⟩
      rw [e9]
      clear e9 IN
      clear cLP0 cLP1 cLP2
      have cLC0 := LC.cell 0 rfl
      have cLC1 := LC.cell 1 rfl
      have cLP0 := LP.cell 0 rfl
      have cLP1 := LP.cell 1 rfl
      have cLP2 := LP.cell 2 rfl
      go_wp2_with fail
      refine (unhide SO _ RU).mono ?_
      rintro _ w2 ⟨rfl, bb⟩
      clear cLC0 cLC1 cLP0 cLP1 cLP2
      have Bw2 := Bw1.trans (bb.mono Bw1.size)
      have sw2 := bb.size
      replace LC := LC.below bb LC.lt
      replace LP := LP.below bb LP.lt
      clear Bw1
      clear bb SO RU
      have cLP0 := LP.cell 0 rfl
      have cLP1 := LP.cell 1 rfl
      have cLP2 := LP.cell 2 rfl
      have K : Hid (∀ w', Below w2.heap.size w2 w' → (fun w' => Below w2.heap.size w2 w' ∧ (w'.cell? ⟨w.heap.size + 1, 0, none⟩ = some (.int .i64 m) ∧ w'.cell? ⟨w.heap.size + 1, 1, none⟩ = some (.string s) ∧ w'.cell? ⟨w.heap.size + 1, 2, none⟩ = some (.slice ua k uc))) w') := hide fun w' hb' => ⟨hb', ⟨(LP.below hb' LP.lt).cell 0 rfl, (LP.below hb' LP.lt).cell 1 rfl, (LP.below hb' LP.lt).cell 2 rfl⟩⟩
      go_upto_region 3 with fail
      have bA : Below w2.heap.size w2 w2.drew := Below.drew (Below.refl _ _)
      refine wp_region_noPanic ?_
      refine wp_region_held_drew (S := fun w' => Below w2.heap.size w2 w' ∧ (w'.cell? ⟨w.heap.size + 1, 0, none⟩ = some (.int .i64 m) ∧ w'.cell? ⟨w.heap.size + 1, 1, none⟩ = some (.string s) ∧ w'.cell? ⟨w.heap.size + 1, 2, none⟩ = some (.slice ua k uc))) (by kernel_rfl) (unhide K _ bA) (fun hHeld => ?_)
      refine tk 0 28 (v := ?_) rfl (hy := .inl ⟨by rfl, ?_⟩) (h := ?_); rotate_left
      ·intro w hSw; (try dsimp only at hSw); go_simp; (try with_reducible rfl)
      simp only [pU]
      refine tk 1 29 (v := ?_) rfl (hy := .inl ⟨by rfl, ?_⟩) (h := ?_); rotate_left
      ·intro w hSw; (try dsimp only at hSw); go_simp; (try with_reducible rfl)
      simp only [pU]
      refine tk 2 30 (v := ?_) rfl (hy := .inl ⟨by rfl, ?_⟩) (h := ?_); rotate_left
      ·intro w hSw; (try dsimp only at hSw); go_simp; (try with_reducible rfl)
      simp only [pU]
      refine tk 3 31 (v := ?_) rfl (hy := .inl ⟨by rfl, ?_⟩) (h := ?_); rotate_left
      ·intro w hSw; (try dsimp only at hSw); go_simp; (try with_reducible rfl)
      simp only [pU]
      refine sk 4 32 rfl (h := ?_)
      simp only [pU]
      refine sk 5 33 rfl (h := ?_)
      simp only [pU]
      refine sk 6 34 rfl (h := ?_)
      simp only [pU]
      refine sk 7 35 rfl (h := ?_)
      simp only [pU]
      refine sk 8 36 rfl (h := ?_)
      simp only [pU]
      refine sk 11 39 rfl (h := ?_)
      simp only [pU]
      refine sk 9 37 rfl (h := ?_)
      simp only [pU]
      refine sk 12 40 rfl (h := ?_)
      simp only [pU]
      refine sk 10 38 rfl (h := ?_)
      simp only [pU]
      refine sk 13 41 rfl (h := ?_)
      simp only [pU]
      refine sk 14 42 rfl (h := ?_)
      simp only [pU]
      refine tk 15 43 (v := ?_) rfl (hy := .inl ⟨by rfl, ?_⟩) (h := ?_); rotate_left
      ·intro w hSw; (try dsimp only at hSw); go_simp; (try with_reducible rfl)
      simp only [pU]
      refine tk 16 4 (v := ?_) rfl (hy := .inl ⟨by rfl, ?_⟩) (h := ?_); rotate_left
      ·intro w hSw; (try dsimp only at hSw); go_simp; (try with_reducible rfl)
      simp only [pU]
      clear hHeld
      refine wpAnyH_done (by kernel_rfl) ?_ _
      refine NoPanic.normal ?_
      obtain ⟨wd3, hwd⟩ : ∃ y, w2.drew = y := ⟨_, rfl⟩
      rw [hwd] at bA ⊢
      clear hwd
      have bb := bA
      have Bwd3 := Bw2.trans (bb.mono Bw2.size)
      have swd3 := bb.size
      replace LC := LC.below bb LC.lt
      replace LP := LP.below bb LP.lt
      clear Bw2
      clear bb bA K
      clear cLP0 cLP1 cLP2
      go_wp2
      go_ret
      exact ⟨rfl, Bwd3⟩
     ·have hd : decide (s = ⟨#[]⟩) = false := by simpa using he
      have hne := ne2 he
      rw [hd, Bool.false_or]
      clear he hd
      cases nk
      ·simp only [Bool.false_and]
       go_enter Tryz.func49, Tryz.ntmps49
       have cLC0 := LC.cell 0 rfl
       have cLC1 := LC.cell 1 rfl
       go_wp2_with fail
       clear hw0
       refine (unhide CO _).mono ?_
       rintro _ w1 ⟨rfl, bb⟩
       clear cLC0 cLC1
       have Bw1 := Bw0.trans (bb.mono Bw0.size)
       have sw1 := bb.size
       replace LC := LC.below bb LC.lt
       replace LP := LP.below bb LP.lt
       clear Bw0
       replace RU := RU.below bb (Nat.le_refl _)
       clear bb CO
       have cLP0 := LP.cell 0 rfl
       have cLP1 := LP.cell 1 rfl
       have cLP2 := LP.cell 2 rfl
       go_wp2_with fail
       refine (unhide IN _).mono ?_
       rintro _ w9 ⟨rfl, e9⟩
       rw [e9]
       clear e9 IN
       clear cLP0 cLP1 cLP2
       have cLC0 := LC.cell 0 rfl
       have cLC1 := LC.cell 1 rfl
       have cLP0 := LP.cell 0 rfl
       have cLP1 := LP.cell 1 rfl
       have cLP2 := LP.cell 2 rfl
       go_wp2_with fail
       refine (unhide SO _ RU).mono ?_
       rintro _ w2 ⟨rfl, bb⟩
       clear cLC0 cLC1 cLP0 cLP1 cLP2
       have Bw2 := Bw1.trans (bb.mono Bw1.size)
       have sw2 := bb.size
       replace LC := LC.below bb LC.lt
       replace LP := LP.below bb LP.lt
       clear Bw1
       clear bb SO RU
       have cLP0 := LP.cell 0 rfl
       have cLP1 := LP.cell 1 rfl
       have cLP2 := LP.cell 2 rfl
       have K : Hid (∀ w', Below w2.heap.size w2 w' → (fun w' => Below w2.heap.size w2 w' ∧ (w'.cell? ⟨w.heap.size + 1, 0, none⟩ = some (.int .i64 m) ∧ w'.cell? ⟨w.heap.size + 1, 1, none⟩ = some (.string s) ∧ w'.cell? ⟨w.heap.size + 1, 2, none⟩ = some (.slice ua k uc))) w') := hide fun w' hb' => ⟨hb', ⟨(LP.below hb' LP.lt).cell 0 rfl, (LP.below hb' LP.lt).cell 1 rfl, (LP.below hb' LP.lt).cell 2 rfl⟩⟩
       go_upto_region 3 with fail
       have bA : Below w2.heap.size w2 w2.drew := Below.drew (Below.refl _ _)
       refine wp_region_noPanic ?_
       refine wp_region_held_drew (S := fun w' => Below w2.heap.size w2 w' ∧ (w'.cell? ⟨w.heap.size + 1, 0, none⟩ = some (.int .i64 m) ∧ w'.cell? ⟨w.heap.size + 1, 1, none⟩ = some (.string s) ∧ w'.cell? ⟨w.heap.size + 1, 2, none⟩ = some (.slice ua k uc))) (by kernel_rfl) (unhide K _ bA) (fun hHeld => ?_)
       refine tk 0 28 (v := ?_) rfl (hy := .inl ⟨by rfl, ?_⟩) (h := ?_); rotate_left
       ·intro w hSw; (try dsimp only at hSw); go_simp; (try with_reducible rfl)
       simp only [pU]
       refine tk 1 29 (v := ?_) rfl (hy := .inl ⟨by rfl, ?_⟩) (h := ?_); rotate_left
       ·intro w hSw; (try dsimp only at hSw); go_simp; (try with_reducible rfl)
       simp only [pU]
       refine tk 2 30 (v := ?_) rfl (hy := .inl ⟨by rfl, ?_⟩) (h := ?_); rotate_left
       ·intro w hSw; (try dsimp only at hSw); go_simp; (try with_reducible rfl)
       simp only [pU]
       refine tk 3 31 (v := ?_) rfl (hy := .inl ⟨by rfl, ?_⟩) (h := ?_); rotate_left
       ·intro w hSw; (try dsimp only at hSw); go_simp; (try with_reducible rfl)
       simp only [pU]
       refine tk 4 32 (v := ?_) rfl (hy := .inl ⟨by rfl, ?_⟩) (h := ?_); rotate_left
       ·intro w hSw; (try dsimp only at hSw); go_simp; (try with_reducible rfl)
       simp only [pU]
       refine tk 5 33 (v := ?_) rfl (hy := .inl ⟨by rfl, ?_⟩) (h := ?_); rotate_left
       ·intro w hSw; (try dsimp only at hSw); go_simp; (try with_reducible rfl)
       simp only [pU]
       refine ready_at (i := 6) rfl (by kernel_rfl) (fun KK hKK => ?_)
       go_simp
       have hgo := bA
       refine (unhide NO _).mono ?_
       rintro e wz3_1 ⟨rfl, bb⟩
       have bz1 : Below w2.heap.size w2 wz3_1 := bA.trans (bb.mono bA.size)
       clear bA hgo bb
       clear hHeld
       refine hKK.out _ _ (unhide K _ bz1) (fun hHeld => ?_)
       clear hKK KK
       refine tk 7 35 (v := ?_) rfl (hy := .inl ⟨by rfl, ?_⟩) (h := ?_); rotate_left
       ·intro w hSw; (try dsimp only at hSw); go_simp; (try with_reducible rfl)
       simp only [pU]
       refine sk 8 36 rfl (h := ?_)
       simp only [pU]
       refine sk 11 39 rfl (h := ?_)
       simp only [pU]
       refine sk 9 37 rfl (h := ?_)
       simp only [pU]
       refine sk 12 40 rfl (h := ?_)
       simp only [pU]
       refine sk 10 38 rfl (h := ?_)
       simp only [pU]
       refine sk 13 41 rfl (h := ?_)
       simp only [pU]
       refine tk 14 42 (v := ?_) rfl (hy := .inl ⟨by rfl, ?_⟩) (h := ?_); rotate_left
       ·intro w hSw; (try dsimp only at hSw); go_simp; (try with_reducible rfl)
       simp only [pU]
       refine tk 15 43 (v := ?_) rfl (hy := .inl ⟨by rfl, ?_⟩) (h := ?_); rotate_left
       ·intro w hSw; (try dsimp only at hSw); go_simp; (try with_reducible rfl)
       simp only [pU]
       refine tk 16 4 (v := ?_) rfl (hy := .inl ⟨by rfl, ?_⟩) (h := ?_); rotate_left
       ·intro w hSw; (try dsimp only at hSw); go_simp; (try with_reducible rfl)
       simp only [pU]
       clear hHeld
       refine wpAnyH_done (by kernel_rfl) ?_ _
       refine NoPanic.normal ?_
       have bb := bz1
       have Bwz3_1 := Bw2.trans (bb.mono Bw2.size)
       have swz3_1 := bb.size
       replace LC := LC.below bb LC.lt
       replace LP := LP.below bb LP.lt
       clear Bw2
       clear bb bz1 K
       clear cLP0 cLP1 cLP2
       go_wp2
       go_ret
       exact ⟨rfl, Bwz3_1⟩
      ·simp only [Bool.true_and]
       by_cases hv : vw = m
       ·have hd : decide (vw = m) = true := by simpa using hv
        rw [hd]
        clear hd
        have hv2 := hv.symm
        subst hv2
        go_enter Tryz.func49, Tryz.ntmps49
        have cLC0 := LC.cell 0 rfl
        have cLC1 := LC.cell 1 rfl
        go_wp2_with fail
        clear hw0
        refine (unhide CO _).mono ?_
        rintro _ w1 ⟨rfl, bb⟩
        clear cLC0 cLC1
        have Bw1 := Bw0.trans (bb.mono Bw0.size)
        have sw1 := bb.size
        replace LC := LC.below bb LC.lt
        replace LP := LP.below bb LP.lt
        clear Bw0
        replace RU := RU.below bb (Nat.le_refl _)
        clear bb CO
        have cLP0 := LP.cell 0 rfl
        have cLP1 := LP.cell 1 rfl
        have cLP2 := LP.cell 2 rfl
        go_wp2_with fail
        refine (unhide IN _).mono ?_
        rintro _ w9 ⟨rfl, e9⟩
        rw [e9]
        clear e9 IN
        clear cLP0 cLP1 cLP2
        have cLC0 := LC.cell 0 rfl
        have cLC1 := LC.cell 1 rfl
        have cLP0 := LP.cell 0 rfl
        have cLP1 := LP.cell 1 rfl
        have cLP2 := LP.cell 2 rfl
        go_wp2_with fail
        refine (unhide SO _ RU).mono ?_
        rintro _ w2 ⟨rfl, bb⟩
        clear cLC0 cLC1 cLP0 cLP1 cLP2
        have Bw2 := Bw1.trans (bb.mono Bw1.size)
        have sw2 := bb.size
        replace LC := LC.below bb LC.lt
        replace LP := LP.below bb LP.lt
        clear Bw1
        clear bb SO RU
        have cLP0 := LP.cell 0 rfl
        have cLP1 := LP.cell 1 rfl
        have cLP2 := LP.cell 2 rfl
        have K : Hid (∀ w', Below w2.heap.size w2 w' → (fun w' => Below w2.heap.size w2 w' ∧ (w'.cell? ⟨w.heap.size + 1, 0, none⟩ = some (.int .i64 m) ∧ w'.cell? ⟨w.heap.size + 1, 1, none⟩ = some (.string s) ∧ w'.cell? ⟨w.heap.size + 1, 2, none⟩ = some (.slice ua k uc))) w') := hide fun w' hb' => ⟨hb', ⟨(LP.below hb' LP.lt).cell 0 rfl, (LP.below hb' LP.lt).cell 1 rfl, (LP.below hb' LP.lt).cell 2 rfl⟩⟩
        go_upto_region 3 with fail
        have bA : Below w2.heap.size w2 w2.drew := Below.drew (Below.refl _ _)
        refine wp_region_noPanic ?_
        refine wp_region_held_drew (S := fun w' => Below w2.heap.size w2 w' ∧ (w'.cell? ⟨w.heap.size + 1, 0, none⟩ = some (.int .i64 m) ∧ w'.cell? ⟨w.heap.size + 1, 1, none⟩ = some (.string s) ∧ w'.cell? ⟨w.heap.size + 1, 2, none⟩ = some (.slice ua k uc))) (by kernel_rfl) (unhide K _ bA) (fun hHeld => ?_)
        refine tk 0 28 (v := ?_) rfl (hy := .inl ⟨by rfl, ?_⟩) (h := ?_); rotate_left
        ·intro w hSw; (try dsimp only at hSw); go_simp; (try with_reducible rfl)
        simp only [pU]
        refine tk 1 29 (v := ?_) rfl (hy := .inl ⟨by rfl, ?_⟩) (h := ?_); rotate_left
        ·intro w hSw; (try dsimp only at hSw); go_simp; (try with_reducible rfl)
        simp only [pU]
        refine tk 2 30 (v := ?_) rfl (hy := .inl ⟨by rfl, ?_⟩) (h := ?_); rotate_left
        ·intro w hSw; (try dsimp only at hSw); go_simp; (try with_reducible rfl)
        simp only [pU]
        refine tk 3 31 (v := ?_) rfl (hy := .inl ⟨by rfl, ?_⟩) (h := ?_); rotate_left
        ·intro w hSw; (try dsimp only at hSw); go_simp; (try with_reducible rfl)
        simp only [pU]
        refine tk 4 32 (v := ?_) rfl (hy := .inl ⟨by rfl, ?_⟩) (h := ?_); rotate_left
        ·intro w hSw; (try dsimp only at hSw); go_simp; (try with_reducible rfl)
        simp only [pU]
        refine tk 5 33 (v := ?_) rfl (hy := .inl ⟨by rfl, ?_⟩) (h := ?_); rotate_left
        ·intro w hSw; (try dsimp only at hSw); go_simp; (try with_reducible rfl)
        simp only [pU]
        refine ready_at (i := 6) rfl (by kernel_rfl) (fun KK hKK => ?_)
        go_simp
        have hgo := bA
        refine (unhide NO _).mono ?_
        rintro e wz3_1 ⟨rfl, bb⟩
        have bz1 : Below w2.heap.size w2 wz3_1 := bA.trans (bb.mono bA.size)
        clear bA hgo bb
        clear hHeld
        refine hKK.out _ _ (unhide K _ bz1) (fun hHeld => ?_)
        clear hKK KK
        refine tk 7 35 (v := ?_) rfl (hy := .inl ⟨by rfl, ?_⟩) (h := ?_); rotate_left
        ·intro w hSw; (try dsimp only at hSw); go_simp; (try with_reducible rfl)
        simp only [pU]
        refine tk 8 36 (v := ?_) rfl (hy := .inl ⟨by rfl, ?_⟩) (h := ?_); rotate_left
        ·intro w hSw; (try dsimp only at hSw); go_simp; (try with_reducible rfl)
        simp only [pU]
        refine tk 11 39 (v := ?_) rfl (hy := .inl ⟨by rfl, ?_⟩) (h := ?_); rotate_left
        ·intro w hSw; (try dsimp only at hSw); go_simp; (try with_reducible rfl)
        simp only [pU]
        refine tk 9 37 (v := ?_) rfl (hy := .inl ⟨by rfl, ?_⟩) (h := ?_); rotate_left
        ·intro w hSw; (try dsimp only at hSw); go_simp; (try with_reducible rfl)
        simp only [pU]
        refine tk 12 40 (v := ?_) rfl (hy := .inl ⟨by rfl, ?_⟩) (h := ?_); rotate_left
        ·intro w hSw; (try dsimp only at hSw); go_simp; (try with_reducible rfl)
        simp only [pU]
        refine ready_at (i := 10) rfl (by kernel_rfl) (fun KK hKK => ?_)
        go_simp
        have hgo := bz1
        refine (unhide VO _).mono ?_
        rintro e wz3_2 ⟨rfl, bb⟩
        have bz2 : Below w2.heap.size w2 wz3_2 := bz1.trans (bb.mono bz1.size)
        clear bz1 hgo bb
        clear hHeld
        refine hKK.out _ _ (unhide K _ bz2) (fun hHeld => ?_)
        clear hKK KK
        refine tk 13 41 (v := ?_) rfl (hy := .inl ⟨by rfl, ?_⟩) (h := ?_); rotate_left
        ·intro w hSw; (try dsimp only at hSw); go_simp; (try with_reducible rfl)
        simp only [pU]
        refine tk 14 42 (v := ?_) rfl (hy := .inl ⟨by rfl, ?_⟩) (h := ?_); rotate_left
        ·intro w hSw; (try dsimp only at hSw); go_simp; (try with_reducible rfl)
        simp only [pU]
        refine tk 15 43 (v := ?_) rfl (hy := .inl ⟨by rfl, ?_⟩) (h := ?_); rotate_left
        ·intro w hSw; (try dsimp only at hSw); go_simp; (try with_reducible rfl)
        simp only [pU]
        refine tk 16 4 (v := ?_) rfl (hy := .inl ⟨by rfl, ?_⟩) (h := ?_); rotate_left
        ·intro w hSw; (try dsimp only at hSw); go_simp; (try with_reducible rfl)
        simp only [pU]
        clear hHeld
        refine wpAnyH_done (by kernel_rfl) ?_ _
        refine NoPanic.normal ?_
        have bb := bz2
        have Bwz3_2 := Bw2.trans (bb.mono Bw2.size)
        have swz3_2 := bb.size
        replace LC := LC.below bb LC.lt
        replace LP := LP.below bb LP.lt
        clear Bw2
        clear bb bz2 K
        clear cLP0 cLP1 cLP2
        go_wp2
        go_ret
        exact ⟨rfl, Bwz3_2⟩
       ·have hd : decide (vw = m) = false := by simpa using hv
        rw [hd]
        go_enter Tryz.func49, Tryz.ntmps49
        have cLC0 := LC.cell 0 rfl
        have cLC1 := LC.cell 1 rfl
        go_wp2_with fail
        clear hw0
        refine (unhide CO _).mono ?_
        rintro _ w1 ⟨rfl, bb⟩
        clear cLC0 cLC1
        have Bw1 := Bw0.trans (bb.mono Bw0.size)
        have sw1 := bb.size
        replace LC := LC.below bb LC.lt
        replace LP := LP.below bb LP.lt
        clear Bw0
        replace RU := RU.below bb (Nat.le_refl _)
        clear bb CO
        have cLP0 := LP.cell 0 rfl
        have cLP1 := LP.cell 1 rfl
        have cLP2 := LP.cell 2 rfl
        go_wp2_with fail
        refine (unhide IN _).mono ?_
        rintro _ w9 ⟨rfl, e9⟩
        rw [e9]
        clear e9 IN
        clear cLP0 cLP1 cLP2
        have cLC0 := LC.cell 0 rfl
        have cLC1 := LC.cell 1 rfl
        have cLP0 := LP.cell 0 rfl
        have cLP1 := LP.cell 1 rfl
        have cLP2 := LP.cell 2 rfl
        go_wp2_with fail
        refine (unhide SO _ RU).mono ?_
        rintro _ w2 ⟨rfl, bb⟩
        clear cLC0 cLC1 cLP0 cLP1 cLP2
        have Bw2 := Bw1.trans (bb.mono Bw1.size)
        have sw2 := bb.size
        replace LC := LC.below bb LC.lt
        replace LP := LP.below bb LP.lt
        clear Bw1
        clear bb SO RU
        have cLP0 := LP.cell 0 rfl
        have cLP1 := LP.cell 1 rfl
        have cLP2 := LP.cell 2 rfl
        have K : Hid (∀ w', Below w2.heap.size w2 w' → (fun w' => Below w2.heap.size w2 w' ∧ (w'.cell? ⟨w.heap.size + 1, 0, none⟩ = some (.int .i64 m) ∧ w'.cell? ⟨w.heap.size + 1, 1, none⟩ = some (.string s) ∧ w'.cell? ⟨w.heap.size + 1, 2, none⟩ = some (.slice ua k uc))) w') := hide fun w' hb' => ⟨hb', ⟨(LP.below hb' LP.lt).cell 0 rfl, (LP.below hb' LP.lt).cell 1 rfl, (LP.below hb' LP.lt).cell 2 rfl⟩⟩
        go_upto_region 3 with fail
        have bA : Below w2.heap.size w2 w2.drew := Below.drew (Below.refl _ _)
        refine wp_region_noPanic ?_
        refine wp_region_held_drew (S := fun w' => Below w2.heap.size w2 w' ∧ (w'.cell? ⟨w.heap.size + 1, 0, none⟩ = some (.int .i64 m) ∧ w'.cell? ⟨w.heap.size + 1, 1, none⟩ = some (.string s) ∧ w'.cell? ⟨w.heap.size + 1, 2, none⟩ = some (.slice ua k uc))) (by kernel_rfl) (unhide K _ bA) (fun hHeld => ?_)
        refine tk 0 28 (v := ?_) rfl (hy := .inl ⟨by rfl, ?_⟩) (h := ?_); rotate_left
        ·intro w hSw; (try dsimp only at hSw); go_simp; (try with_reducible rfl)
        simp only [pU]
        refine tk 1 29 (v := ?_) rfl (hy := .inl ⟨by rfl, ?_⟩) (h := ?_); rotate_left
        ·intro w hSw; (try dsimp only at hSw); go_simp; (try with_reducible rfl)
        simp only [pU]
        refine tk 2 30 (v := ?_) rfl (hy := .inl ⟨by rfl, ?_⟩) (h := ?_); rotate_left
        ·intro w hSw; (try dsimp only at hSw); go_simp; (try with_reducible rfl)
        simp only [pU]
        refine tk 3 31 (v := ?_) rfl (hy := .inl ⟨by rfl, ?_⟩) (h := ?_); rotate_left
        ·intro w hSw; (try dsimp only at hSw); go_simp; (try with_reducible rfl)
        simp only [pU]
        refine tk 4 32 (v := ?_) rfl (hy := .inl ⟨by rfl, ?_⟩) (h := ?_); rotate_left
        ·intro w hSw; (try dsimp only at hSw); go_simp; (try with_reducible rfl)
        simp only [pU]
        refine tk 5 33 (v := ?_) rfl (hy := .inl ⟨by rfl, ?_⟩) (h := ?_); rotate_left
        ·intro w hSw; (try dsimp only at hSw); go_simp; (try with_reducible rfl)
        simp only [pU]
        refine ready_at (i := 6) rfl (by kernel_rfl) (fun KK hKK => ?_)
        go_simp
        have hgo := bA
        refine (unhide NO _).mono ?_
        rintro e wz3_1 ⟨rfl, bb⟩
        have bz1 : Below w2.heap.size w2 wz3_1 := bA.trans (bb.mono bA.size)
        clear bA hgo bb
        clear hHeld
        refine hKK.out _ _ (unhide K _ bz1) (fun hHeld => ?_)
        clear hKK KK
        refine tk 7 35 (v := ?_) rfl (hy := .inl ⟨by rfl, ?_⟩) (h := ?_); rotate_left
        ·intro w hSw; (try dsimp only at hSw); go_simp; (try with_reducible rfl)
        simp only [pU]
        refine tk 8 36 (v := ?_) rfl (hy := .inl ⟨by rfl, ?_⟩) (h := ?_); rotate_left
        ·intro w hSw; (try dsimp only at hSw); go_simp; (try with_reducible rfl)
        simp only [pU]
        refine tk 11 39 (v := ?_) rfl (hy := .inl ⟨by rfl, ?_⟩) (h := ?_); rotate_left
        ·intro w hSw; (try dsimp only at hSw); go_simp; (try with_reducible rfl)
        simp only [pU]
        refine tk 9 37 (v := ?_) rfl (hy := .inl ⟨by rfl, ?_⟩) (h := ?_); rotate_left
        ·intro w hSw; (try dsimp only at hSw); go_simp; (try with_reducible rfl)
        simp only [pU]
        refine tk 12 40 (v := ?_) rfl (hy := .inl ⟨by rfl, ?_⟩) (h := ?_); rotate_left
        ·intro w hSw; (try dsimp only at hSw); go_simp; (try with_reducible rfl)
        simp only [pU]
        refine ready_at (i := 10) rfl (by kernel_rfl) (fun KK hKK => ?_)
        go_simp
        have hgo := bz1
        refine (unhide VO _).mono ?_
        rintro e wz3_2 ⟨rfl, bb⟩
        have bz2 : Below w2.heap.size w2 wz3_2 := bz1.trans (bb.mono bz1.size)
        clear bz1 hgo bb
        clear hHeld
        refine hKK.out _ _ (unhide K _ bz2) (fun hHeld => ?_)
        clear hKK KK
        refine tk 13 41 (v := ?_) rfl (hy := .inl ⟨by rfl, ?_⟩) (h := ?_); rotate_left
        ·intro w hSw; (try dsimp only at hSw); go_simp; (try with_reducible rfl)
        simp only [pU]
        refine tk 14 42 (v := ?_) rfl (hy := .inl ⟨by rfl, ?_⟩) (h := ?_); rotate_left
        ·intro w hSw; (try dsimp only at hSw); go_simp; (try with_reducible rfl)
        simp only [pU]
        refine tk 15 43 (v := ?_) rfl (hy := .inl ⟨by rfl, ?_⟩) (h := ?_); rotate_left
        ·intro w hSw; (try dsimp only at hSw); go_simp; (try with_reducible rfl)
        simp only [pU]
        refine tk 16 4 (v := ?_) rfl (hy := .inl ⟨by rfl, ?_⟩) (h := ?_); rotate_left
        ·intro w hSw; (try dsimp only at hSw); go_simp; (try with_reducible rfl)
        simp only [pU]
        clear hHeld
        refine wpAnyH_done (by kernel_rfl) ?_ _
        refine NoPanic.normal ?_
        have bb := bz2
        have Bwz3_2 := Bw2.trans (bb.mono Bw2.size)
        have swz3_2 := bb.size
        replace LC := LC.below bb LC.lt
        replace LP := LP.below bb LP.lt
        clear Bw2
        clear bb bz2 K
        clear cLP0 cLP1 cLP2
        go_wp2
        go_ret
        exact ⟨by simp [hv], Bwz3_2⟩
end Go.Proofs.YtmpmedbojfjnaaaGreatDoor
