/- Texts that belong together: RepEnds, PartOki, MsgSay. -/
import Derived.Test.YtndpjhiidmdlhaaGreatDoorRBAS
import Derived.Test.YtndpjhiidmdlhaaGreatDoorRBBH
import Derived.Test.YtndpjhiidmdlhaaGreatDoorRBBA
import Derived.Test.YtndpjhiidmdlhaaGreatDoorRBBC
import Derived.Test.YtndpjhiidmdlhaaGreatDoorRBAW
import Derived.Test.YtndpjhiidmdlhaaGreatDoorRBAX
import Derived.Test.YtndpjhiidmdlhaaGreatDoorRBAP
import Derived.Test.YtndpjhiidmdlhaaGreatDoorRBBE
import Derived.Test.YtndpjhiidmdlhaaGreatDoorRBAH
import Derived.Test.YtndpjhiidmdlhaaGreatDoorRBBF
import Derived.Test.YtndpjhiidmdlhaaGreatDoorRBAA
set_option maxRecDepth 100000
set_option maxHeartbeats 16000000
namespace Go.Proofs.YtndpjhiidmdlhaaGreatDoor
open Go Go.RowKit
set_option linter.unusedSectionVars false
variable [∀ (a b c d : Int), Decidable (Ok4 a b c d)]
variable [∀ (n f : Int), Decidable (COk n f)]
variable [∀ (a b c d : Nat), Decidable (okN a b c d)]
variable [∀ (x : T4), Decidable (OkT x)]
variable [∀ (last : Int) (s : St), Decidable (GoodSt last s)]
variable [∀ (n : Int) (s : List Int), Decidable (OkL n s)]
variable [∀ (x y : T4), Decidable (Bef x y)]
variable [∀ (ts : List T4), Decidable (Asc ts)]
variable [∀ (ts : List T4), Decidable (AllOk ts)]
variable [∀ (ts : List T4), Decidable (POk ts)]

theorem rep_came {W : World} {t : RpT} {ao bo co od oe : Option Addr} {ca cc cd ce : Nat} {rs : List Pr} (ht : t.tab = rs.map prp) (g : (t.s.size : Int) + t.qw.length + t.d.size + t.pool.length + rs.length + psum rs + t.dsk.length + t.held.length + posum t.held ≤ 1048576) (aq : AIW W ao t.qw) (ap : AR W bo t.pool) (at_ : ATab W co rs) (he : ∀ r ∈ rs, AIW W r.2.2.1 r.2.2.2.2 ∧ WfL r.2.2.2.2) (ad : ABW W od cd t.dsk) (ah : RG (RPoA t.held) 18 W (.slice oe t.held.length ce) t.held.length) :
 RSm t ∧ RS t ∧ IRep W t (.slice ao t.qw.length ca) bo (.slice co t.tab.length cc) (.slice od t.dsk.length cd) (.slice oe t.held.length ce) := by
 obtain ⟨hsm, ⟨s1, s2⟩, h1, h2⟩ := rep_small ht g
 refine ⟨hsm, ⟨s1, s2, fun p hp => (h1 p hp).1, fun j hj => ?_⟩, ⟨aq.ri (by have := hsm.q; omega), ap, ?_, ad.rb (by omega), RPoA.rpo ah hsm.hh⟩⟩
 ·have := h2 j hj; unfold msz at this; exact ⟨by omega, by omega, by omega, by omega⟩
 ·have h3 : ∀ r ∈ rs, r.2.2.2.2.length ≤ 4194304 := fun r hr => by have := psum_each hr; omega
  have := ATab.rpt (ca := cc) at_ (fun r hr => (he r hr).1) h3
  rw [show rs.length = t.tab.length by rw [ht]; simp] at this
  rw [← ht] at this
  exact this
end Go.Proofs.YtndpjhiidmdlhaaGreatDoor
namespace Go.Proofs.YtndpjhiidmdlhaaGreatDoor
open Go.RowKit
set_option linter.unusedSectionVars false
variable [∀ (a b c d : Int), Decidable (Ok4 a b c d)]
variable [∀ (a b c d : Nat), Decidable (okN a b c d)]
variable [∀ (last : Int) (s : St), Decidable (GoodSt last s)]
variable [∀ (x : T4), Decidable (OkT x)]
variable [∀ (n : Int) (s : List Int), Decidable (OkL n s)]
variable [∀ (n f : Int), Decidable (COk n f)]

theorem pok_alt (n f m : Int) (s : ByteArray) (xs : List Int) : pokB n f m s xs = (decide (COk n f) && (decide (1 ≤ m ∧ m ≤ 60) && ((decide (s = ⟨#[]⟩) || (viewAns s == m)) && (decide ((0 : Int) < (xs.length : Int)) && decide (OkL n xs))))) := by
 have hx : decide (xs ≠ []) = decide ((0 : Int) < (xs.length : Int)) := by cases xs with | nil => rfl | cons a l => simp <;> omega
 have hv : (viewAns s == m) = decide (viewAns s = m) := by rw [Bool.eq_iff_iff, beq_iff_eq, decide_eq_true_iff]
 unfold pokB
 rw [hx, hv]
 by_cases hm : 1 ≤ m ∧ m ≤ 60
 ·cases hk : (stepsAns s).isSome with
  | true => simp only [Bool.true_and]; cases decide (COk n f) <;> cases decide (1 ≤ m ∧ m ≤ 60) <;> cases decide (OkL n xs) <;> cases decide ((0 : Int) < (xs.length : Int)) <;> simp
  | false =>
   have h0 := view_none hk
   have : decide (viewAns s = m) = false := by simp; omega
   rw [this]
   cases decide (COk n f) <;> cases decide (1 ≤ m ∧ m ≤ 60) <;> cases decide (OkL n xs) <;> cases decide ((0 : Int) < (xs.length : Int)) <;> simp
 ·rw [decide_eq_false hm]; simp
theorem within_bool (x lo hi : Int) (w : World) : Calls Tryz.prog 49 #[.int .i64 x, .int .i64 lo, .int .i64 hi] w fun e w' => e = .returned (.bool (decide (lo ≤ x ∧ x ≤ hi))) ∧ Below w.heap.size w w' := by
 by_cases h : lo ≤ x ∧ x ≤ hi
 ·rw [decide_eq_true h]; exact (within_yes x lo hi w h.1 h.2).mono fun _ _ h => ⟨h.1, h.2 ▸ Below.refl _ _⟩
 ·rw [decide_eq_false h]; exact (within_no x lo hi w (by omega)).mono fun _ _ h => ⟨h.1, h.2 ▸ Below.refl _ _⟩

theorem namesIts_any (m : Int) (s : ByteArray) (u : Value) (w : World) (hs : s.size ≤ 33554432) (hE : Env w) :
 Calls Tryz.prog 170 #[qv m s u] w fun e w' => e = .returned (.bool (decide (s = ⟨#[]⟩) || (viewAns s == m))) ∧ Below w.heap.size w w' := by
 obtain ⟨w0, hw0⟩ : ∃ y, w.alloc (.cells #[.int .i64 m, .string s, u] 82) = y := ⟨_, rfl⟩
 have Bw0 : Below w.heap.size w w0 := hw0 ▸ qalloc _ _
 have LP : Loc w0 w.heap.size #[.int .i64 m, .string s, u] := hw0 ▸ loc_at w _ _ rfl
 have HE := hide (hE.below Bw0)
 have VO := hide fun w hE => implViewOf s w hs hE
 generalize viewAns s = vw at *
 clear hE
 by_cases he : s = ⟨#[]⟩
 ·have hd : decide (s = ⟨#[]⟩) = true := by simpa using he
  have hy : (s.toList == []) = true := by rw [he, ByteArray.toList_eq]; rfl
  rw [hd, Bool.true_or]
  clear he hd
  go_enter Tryz.func170, Tryz.ntmps170
  have K : Hid (∀ w', Below w0.heap.size w0 w' → (fun w' => Below w0.heap.size w0 w' ∧ (w'.cell? ⟨w.heap.size, 0, none⟩ = some (.int .i64 m) ∧ w'.cell? ⟨w.heap.size, 1, none⟩ = some (.string s) ∧ w'.cell? ⟨w.heap.size, 2, none⟩ = some (u))) w') := hide fun w' hb' => ⟨hb', ⟨(LP.up hb').cell 0 rfl, (LP.up hb').cell 1 rfl, (LP.up hb').cell 2 rfl⟩⟩
  go_upto_region 1 with fail
  clear hw0
  have bA : Below w0.heap.size w0 w0.drew := Below.drew (Below.refl _ _)
  refine wrn K bA (fun hHeld => ?_)
  refine' tj 0 3 rfl ?_ ?_;rotate_left
  ·intro w h; (try dsimp only at h); go_simp; try with_reducible rfl
  simp only [pU]
  refine' tj 1 4 rfl ?_ ?_;rotate_left
  ·intro w h; (try dsimp only at h); go_simp; try with_reducible rfl
  simp only [pU]
  refine' tj 2 5 rfl ?_ ?_;rotate_left
  ·intro w h; (try dsimp only at h); go_simp; try with_reducible rfl
  simp only [pU]
  refine' tj 3 6 rfl ?_ ?_;rotate_left
  ·intro w h; (try dsimp only at h); go_simp; try with_reducible rfl
  simp only [pU]
  refine sk 4 7 rfl (h := ?_)
  simp only [pU]
  refine sk 7 10 rfl (h := ?_)
  simp only [pU]
  refine sk 5 8 rfl (h := ?_)
  simp only [pU]
  refine sk 8 11 rfl (h := ?_)
  simp only [pU]
  refine sk 6 9 rfl (h := ?_)
  simp only [pU]
  refine sk 9 12 rfl (h := ?_)
  simp only [pU]
  refine' tj 10 13 rfl ?_ ?_;rotate_left
  ·intro w h; (try dsimp only at h); go_simp; try with_reducible rfl
  simp only [pU]
  refine' tj 11 2 rfl ?_ ?_;rotate_left
  ·intro w h; (try dsimp only at h); go_simp; try with_reducible rfl
  simp only [pU]
  clear hHeld
  refine wdn ?_
  obtain ⟨wd1, hwd⟩ : ∃ y, w0.drew = y := ⟨_, rfl⟩
  rw [hwd] at bA ⊢
  clear hwd
  have bb := bA
  have Bwd1 := bu Bw0 bb
  have swd1 := bb.size
  replace LP := LP.up bb
  clear Bw0
  clear bb bA K
  go_wp2
  go_ret
  exact ⟨rfl, Bwd1⟩
 ·have hd : decide (s = ⟨#[]⟩) = false := by simpa using he
  have hne := ne2 he
  rw [hd, Bool.false_or]
  clear he hd
  go_enter Tryz.func170, Tryz.ntmps170
  have K : Hid (∀ w', Below w0.heap.size w0 w' → (fun w' => Below w0.heap.size w0 w' ∧ (w'.cell? ⟨w.heap.size, 0, none⟩ = some (.int .i64 m) ∧ w'.cell? ⟨w.heap.size, 1, none⟩ = some (.string s) ∧ w'.cell? ⟨w.heap.size, 2, none⟩ = some (u))) w') := hide fun w' hb' => ⟨hb', ⟨(LP.up hb').cell 0 rfl, (LP.up hb').cell 1 rfl, (LP.up hb').cell 2 rfl⟩⟩
  go_upto_region 1 with fail
  clear hw0
  have bA : Below w0.heap.size w0 w0.drew := Below.drew (Below.refl _ _)
  refine wrn K bA (fun hHeld => ?_)
  refine' tj 0 3 rfl ?_ ?_;rotate_left
  ·intro w h; (try dsimp only at h); go_simp; try with_reducible rfl
  simp only [pU]
  refine' tj 1 4 rfl ?_ ?_;rotate_left
  ·intro w h; (try dsimp only at h); go_simp; try with_reducible rfl
  simp only [pU]
  refine' tj 2 5 rfl ?_ ?_;rotate_left
  ·intro w h; (try dsimp only at h); go_simp; try with_reducible rfl
  simp only [pU]
  refine' tj 3 6 rfl ?_ ?_;rotate_left
  ·intro w h; (try dsimp only at h); go_simp; try with_reducible rfl
  simp only [pU]
  refine' tj 4 7 rfl ?_ ?_;rotate_left
  ·intro w h; (try dsimp only at h); go_simp; try with_reducible rfl
  simp only [pU]
  refine' tj 7 10 rfl ?_ ?_;rotate_left
  ·intro w h; (try dsimp only at h); go_simp; try with_reducible rfl
  simp only [pU]
  refine' tj 5 8 rfl ?_ ?_;rotate_left
  ·intro w h; (try dsimp only at h); go_simp; try with_reducible rfl
  simp only [pU]
  refine' tj 8 11 rfl ?_ ?_;rotate_left
  ·intro w h; (try dsimp only at h); go_simp; try with_reducible rfl
  simp only [pU]
  refine rd 6 rfl (fun KK hKK => ?_)
  go_simp
  have hgo := bA
  refine (VO.out _ (HE.out.below hgo)).mono ?_
  rintro e wz1_1 ⟨rfl, bb⟩
  have bz1 : Below w0.heap.size w0 wz1_1 := bu bA bb
  clear bA hgo bb
  clear hHeld
  refine hKK.out _ _ (K.out _ bz1) (fun hHeld => ?_)
  clear hKK KK
  refine' tj 9 12 rfl ?_ ?_;rotate_left
  ·intro w h; (try dsimp only at h); go_simp; try with_reducible rfl
  simp only [pU]
  refine' tj 10 13 rfl ?_ ?_;rotate_left
  ·intro w h; (try dsimp only at h); go_simp; try with_reducible rfl
  simp only [pU]
  refine' tj 11 2 rfl ?_ ?_;rotate_left
  ·intro w h; (try dsimp only at h); go_simp; try with_reducible rfl
  simp only [pU]
  clear hHeld
  refine wdn ?_
  have bb := bz1
  have Bwz1_1 := bu Bw0 bb
  have swz1_1 := bb.size
  replace LP := LP.up bb
  clear Bw0
  clear bb bz1 K
  go_wp2
  go_ret
  exact ⟨rfl, Bwz1_1⟩

theorem implPartOk (n f m : Int) (s : ByteArray) (u : Value) (xs : List Int) (w : World) (hs : s.size ≤ 33554432) (hE : Env w) (hu : RI w u xs) :
 Calls Tryz.prog 115 #[cv n f, qv m s u] w fun e w' => e = .returned (.bool (pokB n f m s xs)) ∧ Below w.heap.size w w' := by
 obtain ⟨ua, uc, rfl⟩ := hu.form
 rw [pok_alt]
 obtain ⟨k, hk⟩ : ∃ k, xs.length = k := ⟨_, rfl⟩
 have CO := hide fun w => implConfOk n f w
 have IN := hide fun w => within_bool m 1 60 w
 have NI := hide fun w hE => namesIts_any m s (.slice ua xs.length uc) w hs hE
 have SO := hide fun w h => implSetOk n (.slice ua xs.length uc) xs w h
 obtain ⟨w0, hw0⟩ : ∃ y, (w.alloc (.cells #[.int .i64 n, .int .i64 f] 39)).alloc (.cells #[.int .i64 m, .string s, .slice ua xs.length uc] 82) = y := ⟨_, rfl⟩
 have Bw0 : Below w.heap.size w w0 := hw0 ▸ qalloc2 _ _ _
 have LC : Loc w0 w.heap.size #[.int .i64 n, .int .i64 f] := hw0 ▸ (loc_at w _ _ rfl).alloc _
 have LP : Loc w0 (w.heap.size + 1) #[.int .i64 m, .string s, .slice ua xs.length uc] := hw0 ▸ loc_at (w.alloc _) _ _ (by simp)
 have HEw := hide fun w' (hb : Below w.heap.size w w') => hE.below hb
 have RU := hide fun w' (hb : Below w.heap.size w w') => hu.below hb
 rw [hk] at NI SO LP RU hw0 ⊢
 clear hu hE hk
 generalize decide (COk n f) = c at *
 generalize decide (1 ≤ m ∧ m ≤ 60) = r at *
 generalize (decide (s = ⟨#[]⟩) || (viewAns s == m)) = v at *
 generalize decide (OkL n xs) = o at *
 cases c
 ·simp only [Bool.false_and]
  go_enter Tryz.func115, Tryz.ntmps115
  have cLC0 := LC.cell 0 rfl
  have cLC1 := LC.cell 1 rfl
  go_wp2_with fail
  clear hw0
  refine (CO.out _).mono ?_
  rintro _ w1 ⟨rfl, bb⟩
  clear cLC0 cLC1
  have Bw1 := bu Bw0 bb
  have sw1 := bb.size
  replace LC := LC.up bb
  replace LP := LP.up bb
  clear Bw0
  clear bb
  have cLC0 := LC.cell 0 rfl
  have cLC1 := LC.cell 1 rfl
  have cLP0 := LP.cell 0 rfl
  have cLP1 := LP.cell 1 rfl
  have cLP2 := LP.cell 2 rfl
  go_wp2
  go_ret
  exact ⟨rfl, Bw1⟩
 ·simp only [Bool.true_and]
  cases r
  ·simp only [Bool.false_and]
   go_enter Tryz.func115, Tryz.ntmps115
   have cLC0 := LC.cell 0 rfl
   have cLC1 := LC.cell 1 rfl
   go_wp2_with fail
   clear hw0
   refine (CO.out _).mono ?_
   rintro _ w1 ⟨rfl, bb⟩
   clear cLC0 cLC1
   have Bw1 := bu Bw0 bb
   have sw1 := bb.size
   replace LC := LC.up bb
   replace LP := LP.up bb
   clear Bw0
   clear bb
   have cLP0 := LP.cell 0 rfl
   have cLP1 := LP.cell 1 rfl
   have cLP2 := LP.cell 2 rfl
   go_wp2_with fail
   refine (IN.out _).mono ?_
   rintro _ w2 ⟨rfl, bb⟩
   clear cLP0 cLP1 cLP2
   have Bw2 := bu Bw1 bb
   have sw2 := bb.size
   replace LC := LC.up bb
   replace LP := LP.up bb
   clear Bw1
   clear bb
   have cLC0 := LC.cell 0 rfl
   have cLC1 := LC.cell 1 rfl
   have cLP0 := LP.cell 0 rfl
   have cLP1 := LP.cell 1 rfl
   have cLP2 := LP.cell 2 rfl
   go_wp2
   go_ret
   exact ⟨rfl, Bw2⟩
  ·simp only [Bool.true_and]
   cases v
   ·simp only [Bool.false_and]
    go_enter Tryz.func115, Tryz.ntmps115
    have cLC0 := LC.cell 0 rfl
    have cLC1 := LC.cell 1 rfl
    go_wp2_with fail
    clear hw0
    refine (CO.out _).mono ?_
    rintro _ w1 ⟨rfl, bb⟩
    clear cLC0 cLC1
    have Bw1 := bu Bw0 bb
    have sw1 := bb.size
    replace LC := LC.up bb
    replace LP := LP.up bb
    clear Bw0
    clear bb
    have cLP0 := LP.cell 0 rfl
    have cLP1 := LP.cell 1 rfl
    have cLP2 := LP.cell 2 rfl
    go_wp2_with fail
    refine (IN.out _).mono ?_
    rintro _ w2 ⟨rfl, bb⟩
    clear cLP0 cLP1 cLP2
    have Bw2 := bu Bw1 bb
    have sw2 := bb.size
    replace LC := LC.up bb
    replace LP := LP.up bb
    clear Bw1
    clear bb
    have cLP0 := LP.cell 0 rfl
    have cLP1 := LP.cell 1 rfl
    have cLP2 := LP.cell 2 rfl
    go_wp2_with fail
    refine (NI.out _ (HEw.out _ Bw2)).mono ?_
    rintro _ w3 ⟨rfl, bb⟩
    clear cLP0 cLP1 cLP2
    have Bw3 := bu Bw2 bb
    have sw3 := bb.size
    replace LC := LC.up bb
    replace LP := LP.up bb
    clear Bw2
    clear bb
    have cLC0 := LC.cell 0 rfl
    have cLC1 := LC.cell 1 rfl
    have cLP0 := LP.cell 0 rfl
    have cLP1 := LP.cell 1 rfl
    have cLP2 := LP.cell 2 rfl
    go_wp2
    go_ret
    exact ⟨rfl, Bw3⟩
   ·simp only [Bool.true_and]
    by_cases hk : k = 0
    ·subst hk
     have hd0 : decide ((0 : Int) < ((0 : Nat) : Int)) = false := rfl
     rw [hd0]
     simp only [Bool.false_and]
     go_enter Tryz.func115, Tryz.ntmps115
     have cLC0 := LC.cell 0 rfl
     have cLC1 := LC.cell 1 rfl
     go_wp2_with fail
     clear hw0
     refine (CO.out _).mono ?_
     rintro _ w1 ⟨rfl, bb⟩
     clear cLC0 cLC1
     have Bw1 := bu Bw0 bb
     have sw1 := bb.size
     replace LC := LC.up bb
     replace LP := LP.up bb
     clear Bw0
     clear bb
     have cLP0 := LP.cell 0 rfl
     have cLP1 := LP.cell 1 rfl
     have cLP2 := LP.cell 2 rfl
     go_wp2_with fail
     refine (IN.out _).mono ?_
     rintro _ w2 ⟨rfl, bb⟩
     clear cLP0 cLP1 cLP2
     have Bw2 := bu Bw1 bb
     have sw2 := bb.size
     replace LC := LC.up bb
     replace LP := LP.up bb
     clear Bw1
     clear bb
     have cLP0 := LP.cell 0 rfl
     have cLP1 := LP.cell 1 rfl
     have cLP2 := LP.cell 2 rfl
     go_wp2_with fail
     refine (NI.out _ (HEw.out _ Bw2)).mono ?_
     rintro _ w3 ⟨rfl, bb⟩
     clear cLP0 cLP1 cLP2
     have Bw3 := bu Bw2 bb
     have sw3 := bb.size
     replace LC := LC.up bb
     replace LP := LP.up bb
     clear Bw2
     clear bb
     have cLC0 := LC.cell 0 rfl
     have cLC1 := LC.cell 1 rfl
     have cLP0 := LP.cell 0 rfl
     have cLP1 := LP.cell 1 rfl
     have cLP2 := LP.cell 2 rfl
     go_wp2
     go_ret
     exact ⟨rfl, Bw3⟩
    ·have hd0 : decide ((0 : Int) < (k : Int)) = true := by simp; omega
     rw [hd0]
     simp only [Bool.true_and]
     cases o
     ·go_enter Tryz.func115, Tryz.ntmps115
      have cLC0 := LC.cell 0 rfl
      have cLC1 := LC.cell 1 rfl
      go_wp2_with fail
      clear hw0
      refine (CO.out _).mono ?_
      rintro _ w1 ⟨rfl, bb⟩
      clear cLC0 cLC1
      have Bw1 := bu Bw0 bb
      have sw1 := bb.size
      replace LC := LC.up bb
      replace LP := LP.up bb
      clear Bw0
      clear bb
      have cLP0 := LP.cell 0 rfl
      have cLP1 := LP.cell 1 rfl
      have cLP2 := LP.cell 2 rfl
      go_wp2_with fail
      refine (IN.out _).mono ?_
      rintro _ w2 ⟨rfl, bb⟩
      clear cLP0 cLP1 cLP2
      have Bw2 := bu Bw1 bb
      have sw2 := bb.size
      replace LC := LC.up bb
      replace LP := LP.up bb
      clear Bw1
      clear bb
      have cLP0 := LP.cell 0 rfl
      have cLP1 := LP.cell 1 rfl
      have cLP2 := LP.cell 2 rfl
      go_wp2_with fail
      refine (NI.out _ (HEw.out _ Bw2)).mono ?_
      rintro _ w3 ⟨rfl, bb⟩
      clear cLP0 cLP1 cLP2
      have Bw3 := bu Bw2 bb
      have sw3 := bb.size
      replace LC := LC.up bb
      replace LP := LP.up bb
      clear Bw2
      clear bb
      have cLC0 := LC.cell 0 rfl
      have cLC1 := LC.cell 1 rfl
      have cLP0 := LP.cell 0 rfl
      have cLP1 := LP.cell 1 rfl
      have cLP2 := LP.cell 2 rfl
      go_wp2_with fail
      refine (SO.out _ (RU.out _ Bw3)).mono ?_
      rintro _ w4 ⟨rfl, bb⟩
      clear cLC0 cLC1 cLP0 cLP1 cLP2
      have Bw4 := bu Bw3 bb
      have sw4 := bb.size
      replace LC := LC.up bb
      replace LP := LP.up bb
      clear Bw3
      clear bb
      have cLC0 := LC.cell 0 rfl
      have cLC1 := LC.cell 1 rfl
      have cLP0 := LP.cell 0 rfl
      have cLP1 := LP.cell 1 rfl
      have cLP2 := LP.cell 2 rfl
      go_wp2
      go_ret
      exact ⟨rfl, Bw4⟩
     ·go_enter Tryz.func115, Tryz.ntmps115
      have cLC0 := LC.cell 0 rfl
      have cLC1 := LC.cell 1 rfl
      go_wp2_with fail
      clear hw0
      refine (CO.out _).mono ?_
      rintro _ w1 ⟨rfl, bb⟩
      clear cLC0 cLC1
      have Bw1 := bu Bw0 bb
      have sw1 := bb.size
      replace LC := LC.up bb
      replace LP := LP.up bb
      clear Bw0
      clear bb
      have cLP0 := LP.cell 0 rfl
      have cLP1 := LP.cell 1 rfl
      have cLP2 := LP.cell 2 rfl
      go_wp2_with fail
      refine (IN.out _).mono ?_
      rintro _ w2 ⟨rfl, bb⟩
      clear cLP0 cLP1 cLP2
      have Bw2 := bu Bw1 bb
      have sw2 := bb.size
      replace LC := LC.up bb
      replace LP := LP.up bb
      clear Bw1
      clear bb
      have cLP0 := LP.cell 0 rfl
      have cLP1 := LP.cell 1 rfl
      have cLP2 := LP.cell 2 rfl
      go_wp2_with fail
      refine (NI.out _ (HEw.out _ Bw2)).mono ?_
      rintro _ w3 ⟨rfl, bb⟩
      clear cLP0 cLP1 cLP2
      have Bw3 := bu Bw2 bb
      have sw3 := bb.size
      replace LC := LC.up bb
      replace LP := LP.up bb
      clear Bw2
      clear bb
      have cLC0 := LC.cell 0 rfl
      have cLC1 := LC.cell 1 rfl
      have cLP0 := LP.cell 0 rfl
      have cLP1 := LP.cell 1 rfl
      have cLP2 := LP.cell 2 rfl
      go_wp2_with fail
      refine (SO.out _ (RU.out _ Bw3)).mono ?_
      rintro _ w4 ⟨rfl, bb⟩
      clear cLC0 cLC1 cLP0 cLP1 cLP2
      have Bw4 := bu Bw3 bb
      have sw4 := bb.size
      replace LC := LC.up bb
      replace LP := LP.up bb
      clear Bw3
      clear bb
      have cLC0 := LC.cell 0 rfl
      have cLC1 := LC.cell 1 rfl
      have cLP0 := LP.cell 0 rfl
      have cLP1 := LP.cell 1 rfl
      have cLP2 := LP.cell 2 rfl
      go_wp2
      go_ret
      exact ⟨rfl, Bw4⟩

abbrev sB (bn : ByteArray) (bv : Int) (bs : ByteArray) (a : Value) : Value := .agg #[.string bn, .int .i64 bv, .string bs, a]
abbrev sP (v : Int) (s : ByteArray) (a : Value) : Value := .agg #[.int .i64 v, .string s, a]
abbrev sV (v h : Int) (q : Int) (s : ByteArray) (a : Value) : Value := .agg #[.int .i64 v, .int .i64 h, .int .i64 q, .string s, a]
abbrev sX (a b c d : Int) : Value := .agg #[.int .i64 a, .int .i64 b, .int .i64 c, .int .i64 d]
def mB (bn : ByteArray) (bv : Int) (bs : ByteArray) (bw : List Int) : MT := ⟨1, 0, bn, bv, bs, bw, 0, ⟨#[]⟩, [], 0, ⟨#[]⟩, [], 0, 0, 0, 0, 0⟩
def mP (v : Int) (s : ByteArray) (xs : List Int) : MT := ⟨2, 0, ⟨#[]⟩, 0, ⟨#[]⟩, [], v, s, xs, 0, ⟨#[]⟩, [], 0, 0, 0, 0, 0⟩
def mV (v h q : Int) (s : ByteArray) (xs : List Int) : MT := ⟨3, v, ⟨#[]⟩, 0, ⟨#[]⟩, [], 0, ⟨#[]⟩, [], q, s, xs, h, 0, 0, 0, 0⟩
def mX (a b c d : Int) : MT := ⟨4, 0, ⟨#[]⟩, 0, ⟨#[]⟩, [], 0, ⟨#[]⟩, [], 0, ⟨#[]⟩, [], 0, a, b, c, d⟩
theorem namB_m {t : MT} (h : t.k = 1) : namB t = mB t.bn t.bv t.bs t.bw := by unfold namB mB; rw [h]
theorem namP_m {t : MT} (h : t.k = 2) : namP t = mP t.pv t.ps t.pw := by unfold namP mP; rw [h]
theorem namV_m {t : MT} (h : t.k = 3) : namV t = mV t.vw t.wh t.qv t.qs t.qw := by unfold namV mV; rw [h]
theorem namX_m {t : MT} (h : t.k = 4) : namX t = mX t.fr t.tu t.am t.no := by unfold namX mX; rw [h]
abbrev nilL : Value := .slice none 0 0
theorem ta11 (v : Value) (w : World) : (Instr.typeAssert (.iface 264 v) 203 264 true).run Tryz.prog w = .ok (.tuple #[v, .bool true]) w := by kernel_rfl
theorem ta21 (v : Value) (w : World) : (Instr.typeAssert (.iface 265 v) 203 264 true).run Tryz.prog w = .ok (.tuple #[.agg #[.string ⟨#[]⟩, .int .i64 0, .string ⟨#[]⟩, .slice none 0 0], .bool false]) w := by kernel_rfl
theorem ta22 (v : Value) (w : World) : (Instr.typeAssert (.iface 265 v) 203 265 true).run Tryz.prog w = .ok (.tuple #[v, .bool true]) w := by kernel_rfl
theorem ta31 (v : Value) (w : World) : (Instr.typeAssert (.iface 267 v) 203 264 true).run Tryz.prog w = .ok (.tuple #[.agg #[.string ⟨#[]⟩, .int .i64 0, .string ⟨#[]⟩, .slice none 0 0], .bool false]) w := by kernel_rfl
theorem ta32 (v : Value) (w : World) : (Instr.typeAssert (.iface 267 v) 203 265 true).run Tryz.prog w = .ok (.tuple #[.agg #[.int .i64 0, .string ⟨#[]⟩, .slice none 0 0], .bool false]) w := by kernel_rfl
theorem ta33 (v : Value) (w : World) : (Instr.typeAssert (.iface 267 v) 203 267 true).run Tryz.prog w = .ok (.tuple #[v, .bool true]) w := by kernel_rfl
theorem ta41 (v : Value) (w : World) : (Instr.typeAssert (.iface 268 v) 203 264 true).run Tryz.prog w = .ok (.tuple #[.agg #[.string ⟨#[]⟩, .int .i64 0, .string ⟨#[]⟩, .slice none 0 0], .bool false]) w := by kernel_rfl
theorem ta42 (v : Value) (w : World) : (Instr.typeAssert (.iface 268 v) 203 265 true).run Tryz.prog w = .ok (.tuple #[.agg #[.int .i64 0, .string ⟨#[]⟩, .slice none 0 0], .bool false]) w := by kernel_rfl
theorem ta43 (v : Value) (w : World) : (Instr.typeAssert (.iface 268 v) 203 267 true).run Tryz.prog w = .ok (.tuple #[.agg #[.int .i64 0, .int .i64 0, .int .i64 0, .string ⟨#[]⟩, .slice none 0 0], .bool false]) w := by kernel_rfl
theorem ta44 (v : Value) (w : World) : (Instr.typeAssert (.iface 268 v) 203 268 true).run Tryz.prog w = .ok (.tuple #[v, .bool true]) w := by kernel_rfl
theorem implSaying_1 (t : MT) (a b c : Value) (w : World) (hk : t.k = 1) :
 Calls Tryz.prog 174 #[mgv t a b c] w fun e w' => e = .returned (.iface 264 (sB t.bn t.bv t.bs a)) ∧ Below w.heap.size w w' := by
 have dk1 : decide (t.k = 1) = true := by simpa using hk
 have ek1 : (t.k == 1) = true := by simpa using hk
 clear hk
 obtain ⟨w0, hw0⟩ : ∃ w0, (w.alloc (.cells #[.int .i64 t.k, .int .i64 t.vw, .string t.bn, .int .i64 t.bv, .string t.bs, a, .int .i64 t.pv, .string t.ps, b, .int .i64 t.qv, .string t.qs, c, .int .i64 t.wh, .int .i64 t.fr, .int .i64 t.tu, .int .i64 t.am, .int .i64 t.no] 86)) = w0 := ⟨_, rfl⟩
 have Bw0 : Below w.heap.size w w0 := hw0 ▸ (Below.refl _ _).alloc (Nat.le_refl _) _
 have A : Loc w0 (w.heap.size) #[.int .i64 t.k, .int .i64 t.vw, .string t.bn, .int .i64 t.bv, .string t.bs, a, .int .i64 t.pv, .string t.ps, b, .int .i64 t.qv, .string t.qs, c, .int .i64 t.wh, .int .i64 t.fr, .int .i64 t.tu, .int .i64 t.am, .int .i64 t.no] := hw0 ▸ loc_at (w) _ _ rfl
 have zw0 : w.heap.size + 1 ≤ w0.heap.size := by rw [← hw0]; simp
 go_enter Tryz.func174, Tryz.ntmps174
 have cA0 := A.cell 0 rfl
 have cA2 := A.cell 2 rfl
 have cA3 := A.cell 3 rfl
 have cA4 := A.cell 4 rfl
 have cA5 := A.cell 5 rfl
 go_wp2
 clear hw0
 go_ret
 exact ⟨rfl, Bw0⟩
theorem implSaying_2 (t : MT) (a b c : Value) (w : World) (hk : t.k = 2) :
 Calls Tryz.prog 174 #[mgv t a b c] w fun e w' => e = .returned (.iface 265 (sP t.pv t.ps b)) ∧ Below w.heap.size w w' := by
 have dk1 : decide (t.k = 1) = false := by simp; omega
 have ek1 : (t.k == 1) = false := by simp; omega
 have dk2 : decide (t.k = 2) = true := by simpa using hk
 have ek2 : (t.k == 2) = true := by simpa using hk
 clear hk
 obtain ⟨w0, hw0⟩ : ∃ w0, (w.alloc (.cells #[.int .i64 t.k, .int .i64 t.vw, .string t.bn, .int .i64 t.bv, .string t.bs, a, .int .i64 t.pv, .string t.ps, b, .int .i64 t.qv, .string t.qs, c, .int .i64 t.wh, .int .i64 t.fr, .int .i64 t.tu, .int .i64 t.am, .int .i64 t.no] 86)) = w0 := ⟨_, rfl⟩
 have Bw0 : Below w.heap.size w w0 := hw0 ▸ (Below.refl _ _).alloc (Nat.le_refl _) _
 have A : Loc w0 (w.heap.size) #[.int .i64 t.k, .int .i64 t.vw, .string t.bn, .int .i64 t.bv, .string t.bs, a, .int .i64 t.pv, .string t.ps, b, .int .i64 t.qv, .string t.qs, c, .int .i64 t.wh, .int .i64 t.fr, .int .i64 t.tu, .int .i64 t.am, .int .i64 t.no] := hw0 ▸ loc_at (w) _ _ rfl
 have zw0 : w.heap.size + 1 ≤ w0.heap.size := by rw [← hw0]; simp
 go_enter Tryz.func174, Tryz.ntmps174
 have cA0 := A.cell 0 rfl
 have cA6 := A.cell 6 rfl
 have cA7 := A.cell 7 rfl
 have cA8 := A.cell 8 rfl
 go_wp2
 clear hw0
 go_ret
 exact ⟨rfl, Bw0⟩
theorem implSaying_3 (t : MT) (a b c : Value) (w : World) (hk : t.k = 3) :
 Calls Tryz.prog 174 #[mgv t a b c] w fun e w' => e = .returned (.iface 267 (sV t.vw t.wh t.qv t.qs c)) ∧ Below w.heap.size w w' := by
 have dk1 : decide (t.k = 1) = false := by simp; omega
 have ek1 : (t.k == 1) = false := by simp; omega
 have dk2 : decide (t.k = 2) = false := by simp; omega
 have ek2 : (t.k == 2) = false := by simp; omega
 have dk3 : decide (t.k = 3) = true := by simpa using hk
 have ek3 : (t.k == 3) = true := by simpa using hk
 clear hk
 obtain ⟨w0, hw0⟩ : ∃ w0, (w.alloc (.cells #[.int .i64 t.k, .int .i64 t.vw, .string t.bn, .int .i64 t.bv, .string t.bs, a, .int .i64 t.pv, .string t.ps, b, .int .i64 t.qv, .string t.qs, c, .int .i64 t.wh, .int .i64 t.fr, .int .i64 t.tu, .int .i64 t.am, .int .i64 t.no] 86)) = w0 := ⟨_, rfl⟩
 have Bw0 : Below w.heap.size w w0 := hw0 ▸ (Below.refl _ _).alloc (Nat.le_refl _) _
 have A : Loc w0 (w.heap.size) #[.int .i64 t.k, .int .i64 t.vw, .string t.bn, .int .i64 t.bv, .string t.bs, a, .int .i64 t.pv, .string t.ps, b, .int .i64 t.qv, .string t.qs, c, .int .i64 t.wh, .int .i64 t.fr, .int .i64 t.tu, .int .i64 t.am, .int .i64 t.no] := hw0 ▸ loc_at (w) _ _ rfl
 have zw0 : w.heap.size + 1 ≤ w0.heap.size := by rw [← hw0]; simp
 go_enter Tryz.func174, Tryz.ntmps174
 have cA0 := A.cell 0 rfl
 have cA1 := A.cell 1 rfl
 have cA9 := A.cell 9 rfl
 have cA10 := A.cell 10 rfl
 have cA11 := A.cell 11 rfl
 have cA12 := A.cell 12 rfl
 go_wp2
 clear hw0
 go_ret
 exact ⟨rfl, Bw0⟩
theorem implSaying_4 (t : MT) (a b c : Value) (w : World) (hk : t.k = 4) :
 Calls Tryz.prog 174 #[mgv t a b c] w fun e w' => e = .returned (.iface 268 (sX t.fr t.tu t.am t.no)) ∧ Below w.heap.size w w' := by
 have dk1 : decide (t.k = 1) = false := by simp; omega
 have ek1 : (t.k == 1) = false := by simp; omega
 have dk2 : decide (t.k = 2) = false := by simp; omega
 have ek2 : (t.k == 2) = false := by simp; omega
 have dk3 : decide (t.k = 3) = false := by simp; omega
 have ek3 : (t.k == 3) = false := by simp; omega
 have dk4 : decide (t.k = 4) = true := by simpa using hk
 have ek4 : (t.k == 4) = true := by simpa using hk
 clear hk
 obtain ⟨w0, hw0⟩ : ∃ w0, (w.alloc (.cells #[.int .i64 t.k, .int .i64 t.vw, .string t.bn, .int .i64 t.bv, .string t.bs, a, .int .i64 t.pv, .string t.ps, b, .int .i64 t.qv, .string t.qs, c, .int .i64 t.wh, .int .i64 t.fr, .int .i64 t.tu, .int .i64 t.am, .int .i64 t.no] 86)) = w0 := ⟨_, rfl⟩
 have Bw0 : Below w.heap.size w w0 := hw0 ▸ (Below.refl _ _).alloc (Nat.le_refl _) _
 have A : Loc w0 (w.heap.size) #[.int .i64 t.k, .int .i64 t.vw, .string t.bn, .int .i64 t.bv, .string t.bs, a, .int .i64 t.pv, .string t.ps, b, .int .i64 t.qv, .string t.qs, c, .int .i64 t.wh, .int .i64 t.fr, .int .i64 t.tu, .int .i64 t.am, .int .i64 t.no] := hw0 ▸ loc_at (w) _ _ rfl
 have zw0 : w.heap.size + 1 ≤ w0.heap.size := by rw [← hw0]; simp
 go_enter Tryz.func174, Tryz.ntmps174
 have cA0 := A.cell 0 rfl
 have cA13 := A.cell 13 rfl
 have cA14 := A.cell 14 rfl
 have cA15 := A.cell 15 rfl
 have cA16 := A.cell 16 rfl
 go_wp2
 clear hw0
 go_ret
 exact ⟨rfl, Bw0⟩
theorem implSaying_0 (t : MT) (a b c : Value) (w : World) (h1 : ¬ t.k = 1) (h2 : ¬ t.k = 2) (h3 : ¬ t.k = 3) (h4 : ¬ t.k = 4) :
 Calls Tryz.prog 174 #[mgv t a b c] w fun e w' => e = .returned (.nilIface) ∧ Below w.heap.size w w' := by
 have dk1 : decide (t.k = 1) = false := by simp; omega
 have ek1 : (t.k == 1) = false := by simp; omega
 have dk2 : decide (t.k = 2) = false := by simp; omega
 have ek2 : (t.k == 2) = false := by simp; omega
 have dk3 : decide (t.k = 3) = false := by simp; omega
 have ek3 : (t.k == 3) = false := by simp; omega
 have dk4 : decide (t.k = 4) = false := by simp; omega
 have ek4 : (t.k == 4) = false := by simp; omega
 obtain ⟨w0, hw0⟩ : ∃ w0, (w.alloc (.cells #[.int .i64 t.k, .int .i64 t.vw, .string t.bn, .int .i64 t.bv, .string t.bs, a, .int .i64 t.pv, .string t.ps, b, .int .i64 t.qv, .string t.qs, c, .int .i64 t.wh, .int .i64 t.fr, .int .i64 t.tu, .int .i64 t.am, .int .i64 t.no] 86)) = w0 := ⟨_, rfl⟩
 have Bw0 : Below w.heap.size w w0 := hw0 ▸ (Below.refl _ _).alloc (Nat.le_refl _) _
 have A : Loc w0 (w.heap.size) #[.int .i64 t.k, .int .i64 t.vw, .string t.bn, .int .i64 t.bv, .string t.bs, a, .int .i64 t.pv, .string t.ps, b, .int .i64 t.qv, .string t.qs, c, .int .i64 t.wh, .int .i64 t.fr, .int .i64 t.tu, .int .i64 t.am, .int .i64 t.no] := hw0 ▸ loc_at (w) _ _ rfl
 have zw0 : w.heap.size + 1 ≤ w0.heap.size := by rw [← hw0]; simp
 go_enter Tryz.func174, Tryz.ntmps174
 have cA0 := A.cell 0 rfl
 go_wp2
 clear hw0
 go_ret
 exact ⟨rfl, Bw0⟩
end Go.Proofs.YtndpjhiidmdlhaaGreatDoor
