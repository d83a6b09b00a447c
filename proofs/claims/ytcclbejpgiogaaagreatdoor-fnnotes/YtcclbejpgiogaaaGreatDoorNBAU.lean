/- Texts that belong together: SafeSets, Saf, QcCopy. -/
import Derived.Test.YtcclbejpgiogaaaGreatDoorNBAS
import Derived.Test.YtcclbejpgiogaaaGreatDoorNBAO
import Derived.Test.YtcclbejpgiogaaaGreatDoorNBAP
import Derived.Test.YtcclbejpgiogaaaGreatDoorNBAT
import Derived.Deep.DeepCutAuto
import Derived.Test.YtcclbejpgiogaaaGreatDoorNBAQ
set_option maxRecDepth 100000
set_option maxHeartbeats 16000000
namespace Go.Proofs.YtcclbejpgiogaaaGreatDoor
open Go.RowKit
set_option linter.unusedSectionVars false
variable [∀ (a b c d : Int), Decidable (Ok4 a b c d)]
variable [∀ (a b c d : Nat), Decidable (okN a b c d)]
variable [∀ (last : Int) (s : St), Decidable (GoodSt last s)]
variable [∀ (x : T4), Decidable (OkT x)]
variable [∀ (n : Int) (s : List Int), Decidable (OkL n s)]
variable [∀ (n f : Int), Decidable (COk n f)]

theorem st_mem {ss : List St} {k : Nat} (h : k < ss.length) : ss.getD k zst ∈ ss := by
 rw [List.getD_eq_getElem?_getD, List.getElem?_eq_getElem h]; exact List.getElem_mem h
theorem specSettles (s : ByteArray) (w : World) (hs : s.size ≤ 1048576) :
 Calls Tryz.prog 95 #[.string s] w fun e w' => e = .returned (.tuple #[.string (stN s), .bool (stB s)]) ∧ Below w.heap.size w w' := by
 have SS := hide fun w' => specSteps s w' (by omega)
 have U1 := hide fun w' => specUpOf s w' (by omega)
 have U2 := hide fun w' => specUpOf (upAns s) w' (by have := up_size (s := s); omega)
 have HO : Hid (∀ ss, stepsAns s = some ss → ss.length ≤ 30 ∧ ∀ x ∈ ss, OkSt x) := hide fun ss h => ⟨((names_iff _ _).1 h).2.1, ((names_iff _ _).1 h).2.2.1⟩
 have HN : Hid (stN s = if stB s = true then up2 s else ⟨#[]⟩) := hide rfl
 have H0 := hide fun h => st_none (s := s) h
 have H1 := hide fun ss h hl => st_few (s := s) (ss := ss) h hl
 have H2 := hide fun ss h hl => st_last (s := s) (ss := ss) h hl
 have UU : Hid (upAns (upAns s) = up2 s) := hide rfl
 rw [UU.out] at U2
 clear UU
 generalize stN s = nn at *
 generalize stB s = bb at *
 generalize stepsAns s = A at *
 generalize up2 s = u at *
 generalize upAns s = u1 at *
 have Bw : Below w.heap.size w w := Below.refl _ _
 go_enter Tryz.func95, Tryz.ntmps95
 go_wp2_with fail
 refine (SS.out _).mono ?_
 rintro e w1 ⟨lv, rfl, o1, Bw1⟩
 clear Bw SS
 cases A with
 | none =>
  have hb : bb = false := H0.out rfl
  have hn : nn = ⟨#[]⟩ := by rw [HN.out, hb]; rfl
  subst hb hn
  obtain ⟨la, lc, rfl⟩ := o1.form
  clear o1 H0 H1 H2 HO HN U1 U2
  have K : Hid (∀ w', Below w1.heap.size w1 w' → (fun w' => Below w1.heap.size w1 w') w') := hide fun w' hb' => hb'
  go_upto_region 3 with fail
  have bA : Below w1.heap.size w1 w1.drew := Below.drew (Below.refl _ _)
  refine wrn K bA (fun hHeld => ?_)
  refine' tj 0 14 rfl ?_ ?_;rotate_left
  ·intro w h; (try dsimp only at h); go_simp; try with_reducible rfl
  simp only [pU]
  refine' tj 1 15 rfl ?_ ?_;rotate_left
  ·intro w h; (try dsimp only at h); go_simp; try with_reducible rfl
  simp only [pU]
  refine' tj 2 16 rfl ?_ ?_;rotate_left
  ·intro w h; (try dsimp only at h); go_simp; try with_reducible rfl
  simp only [pU]
  refine sk 3 17 rfl (h := ?_)
  simp only [pU]
  refine sk 4 18 rfl (h := ?_)
  simp only [pU]
  refine' tj 5 19 rfl ?_ ?_;rotate_left
  ·intro w h; (try dsimp only at h); go_simp; try with_reducible rfl
  simp only [pU]
  refine' tj 6 20 rfl ?_ ?_;rotate_left
  ·intro w h; (try dsimp only at h); go_simp; try with_reducible rfl
  simp only [pU]
  refine sk 7 21 rfl (h := ?_)
  simp only [pU]
  refine sk 8 22 rfl (h := ?_)
  simp only [pU]
  refine sk 13 27 rfl (h := ?_)
  simp only [pU]
  refine sk 14 28 rfl (h := ?_)
  simp only [pU]
  refine sk 9 23 rfl (h := ?_)
  simp only [pU]
  refine sk 15 29 rfl (h := ?_)
  simp only [pU]
  refine sk 10 24 rfl (h := ?_)
  simp only [pU]
  refine sk 16 30 rfl (h := ?_)
  simp only [pU]
  refine sk 11 25 rfl (h := ?_)
  simp only [pU]
  refine sk 17 31 rfl (h := ?_)
  simp only [pU]
  refine sk 12 26 rfl (h := ?_)
  simp only [pU]
  refine sk 18 32 rfl (h := ?_)
  simp only [pU]
  refine sk 19 33 rfl (h := ?_)
  simp only [pU]
  refine sk 20 34 rfl (h := ?_)
  simp only [pU]
  refine' tj 21 35 rfl ?_ ?_;rotate_left
  ·intro w h; (try dsimp only at h); go_simp; try with_reducible rfl
  simp only [pU]
  refine' tj 22 36 rfl ?_ ?_;rotate_left
  ·intro w h; (try dsimp only at h); go_simp; try with_reducible rfl
  simp only [pU]
  refine sk 23 37 rfl (h := ?_)
  simp only [pU]
  refine sk 24 38 rfl (h := ?_)
  simp only [pU]
  refine sk 29 43 rfl (h := ?_)
  simp only [pU]
  refine sk 30 44 rfl (h := ?_)
  simp only [pU]
  refine sk 25 39 rfl (h := ?_)
  simp only [pU]
  refine sk 31 45 rfl (h := ?_)
  simp only [pU]
  refine sk 26 40 rfl (h := ?_)
  simp only [pU]
  refine sk 32 46 rfl (h := ?_)
  simp only [pU]
  refine sk 27 41 rfl (h := ?_)
  simp only [pU]
  refine sk 33 47 rfl (h := ?_)
  simp only [pU]
  refine sk 28 42 rfl (h := ?_)
  simp only [pU]
  refine sk 34 48 rfl (h := ?_)
  simp only [pU]
  refine sk 35 49 rfl (h := ?_)
  simp only [pU]
  refine sk 36 50 rfl (h := ?_)
  simp only [pU]
  refine' tj 37 51 rfl ?_ ?_;rotate_left
  ·intro w h; (try dsimp only at h); go_simp; try with_reducible rfl
  simp only [pU]
  clear hHeld
  refine wdn ?_
  obtain ⟨wd3, hwd⟩ : ∃ y, w1.drew = y := ⟨_, rfl⟩
  rw [hwd] at bA ⊢
  clear hwd
  have bb := bA
  have Bwd3 := bu Bw1 bb
  have swd3 := bb.size
  clear Bw1
  clear bb bA K
  go_wp2
  go_ret2
  exact ⟨rfl, Bwd3⟩
 | some ss =>
  obtain ⟨hl, hok⟩ := HO.out ss rfl
  obtain ⟨la, lc, hv, r⟩ := o1.rst (fun x hx => by have := (hok x hx).2.1; omega)
  subst hv
  clear o1 HO H0
  simp only [Option.getD_some] at *
  by_cases h3 : ss.length < 3
  ·have hb : bb = false := H1.out ss rfl h3
   have hn : nn = ⟨#[]⟩ := by rw [HN.out, hb]; rfl
   subst hb hn
   obtain ⟨l, hlen⟩ : ∃ l, ss.length = l := ⟨_, rfl⟩
   rw [hlen] at h3 hl ⊢
   have d3 : decide ((l : Int) < 3) = true := by simp; omega
   clear r hok H1 H2 HN U1 U2 hlen
   have K : Hid (∀ w', Below w1.heap.size w1 w' → (fun w' => Below w1.heap.size w1 w') w') := hide fun w' hb' => hb'
   go_upto_region 3 with fail
   have bA : Below w1.heap.size w1 w1.drew := Below.drew (Below.refl _ _)
   refine wrn K bA (fun hHeld => ?_)
   refine' tj 0 14 rfl ?_ ?_;rotate_left
   ·intro w h; (try dsimp only at h); go_simp; try with_reducible rfl
   simp only [pU]
   refine' tj 1 15 rfl ?_ ?_;rotate_left
   ·intro w h; (try dsimp only at h); go_simp; try with_reducible rfl
   simp only [pU]
   refine' tj 2 16 rfl ?_ ?_;rotate_left
   ·intro w h; (try dsimp only at h); go_simp; try with_reducible rfl
   simp only [pU]
   refine' tj 3 17 rfl ?_ ?_;rotate_left
   ·intro w h; (try dsimp only at h); go_simp; try with_reducible rfl
   simp only [pU]
   refine' tj 4 18 rfl ?_ ?_;rotate_left
   ·intro w h; (try dsimp only at h); go_simp; try with_reducible rfl
   simp only [pU]
   refine' tj 5 19 rfl ?_ ?_;rotate_left
   ·intro w h; (try dsimp only at h); go_simp; try with_reducible rfl
   simp only [pU]
   refine' tj 6 20 rfl ?_ ?_;rotate_left
   ·intro w h; (try dsimp only at h); go_simp; try with_reducible rfl
   simp only [pU]
   refine sk 7 21 rfl (h := ?_)
   simp only [pU]
   refine sk 8 22 rfl (h := ?_)
   simp only [pU]
   refine sk 13 27 rfl (h := ?_)
   simp only [pU]
   refine sk 14 28 rfl (h := ?_)
   simp only [pU]
   refine sk 9 23 rfl (h := ?_)
   simp only [pU]
   refine sk 15 29 rfl (h := ?_)
   simp only [pU]
   refine sk 10 24 rfl (h := ?_)
   simp only [pU]
   refine sk 16 30 rfl (h := ?_)
   simp only [pU]
   refine sk 11 25 rfl (h := ?_)
   simp only [pU]
   refine sk 17 31 rfl (h := ?_)
   simp only [pU]
   refine sk 12 26 rfl (h := ?_)
   simp only [pU]
   refine sk 18 32 rfl (h := ?_)
   simp only [pU]
   refine sk 19 33 rfl (h := ?_)
   simp only [pU]
   refine sk 20 34 rfl (h := ?_)
   simp only [pU]
   refine' tj 21 35 rfl ?_ ?_;rotate_left
   ·intro w h; (try dsimp only at h); go_simp; try with_reducible rfl
   simp only [pU]
   refine' tj 22 36 rfl ?_ ?_;rotate_left
   ·intro w h; (try dsimp only at h); go_simp; try with_reducible rfl
   simp only [pU]
   refine sk 23 37 rfl (h := ?_)
   simp only [pU]
   refine sk 24 38 rfl (h := ?_)
   simp only [pU]
   refine sk 29 43 rfl (h := ?_)
   simp only [pU]
   refine sk 30 44 rfl (h := ?_)
   simp only [pU]
   refine sk 25 39 rfl (h := ?_)
   simp only [pU]
   refine sk 31 45 rfl (h := ?_)
   simp only [pU]
   refine sk 26 40 rfl (h := ?_)
   simp only [pU]
   refine sk 32 46 rfl (h := ?_)
   simp only [pU]
   refine sk 27 41 rfl (h := ?_)
   simp only [pU]
   refine sk 33 47 rfl (h := ?_)
   simp only [pU]
   refine sk 28 42 rfl (h := ?_)
   simp only [pU]
   refine sk 34 48 rfl (h := ?_)
   simp only [pU]
   refine sk 35 49 rfl (h := ?_)
   simp only [pU]
   refine sk 36 50 rfl (h := ?_)
   simp only [pU]
   refine' tj 37 51 rfl ?_ ?_;rotate_left
   ·intro w h; (try dsimp only at h); go_simp; try with_reducible rfl
   simp only [pU]
   clear hHeld
   refine wdn ?_
   obtain ⟨wd3, hwd⟩ : ∃ y, w1.drew = y := ⟨_, rfl⟩
   rw [hwd] at bA ⊢
   clear hwd
   have bb := bA
   have Bwd3 := bu Bw1 bb
   have swd3 := bb.size
   clear Bw1
   clear bb bA K
   go_wp2
   go_ret2
   exact ⟨rfl, Bwd3⟩
  ·have hB := hide (H2.out ss rfl (by omega))
   rcases r with rfl | ⟨g, rfl, r⟩
   ·simp at h3
   ·obtain ⟨l, hlen⟩ : ∃ l, ss.length = l := ⟨_, rfl⟩
    rw [hlen] at h3 hl hB r ⊢
    obtain ⟨a1, k1⟩ : ∃ a1, l - 1 = a1 := ⟨_, rfl⟩
    obtain ⟨a2, k2⟩ : ∃ a2, l - 2 = a2 := ⟨_, rfl⟩
    obtain ⟨a3, k3⟩ : ∃ a3, l - 3 = a3 := ⟨_, rfl⟩
    rw [k1, k2, k3] at hB
    obtain ⟨_, c1, _, _⟩ := r a1 (by omega)
    obtain ⟨_, c2, _, _⟩ := r a2 (by omega)
    obtain ⟨_, c3, _, _⟩ := r a3 (by omega)
    have v1 : 1 ≤ (ss.getD a1 zst).1 ∧ (ss.getD a1 zst).1 ≤ 60 := (hok _ (st_mem (by omega))).1
    have v2 : 1 ≤ (ss.getD a2 zst).1 ∧ (ss.getD a2 zst).1 ≤ 60 := (hok _ (st_mem (by omega))).1
    have v3 : 1 ≤ (ss.getD a3 zst).1 ∧ (ss.getD a3 zst).1 ≤ 60 := (hok _ (st_mem (by omega))).1
    generalize (ss.getD a1 zst).1 = x1 at *
    generalize (ss.getD a2 zst).1 = x2 at *
    generalize (ss.getD a3 zst).1 = x3 at *
    have i1 : (l : Int) - 1 = (a1 : Int) := by omega
    have i2 : (l : Int) - 2 = (a2 : Int) := by omega
    have i3 : (l : Int) - 3 = (a3 : Int) := by omega
    have j1 : IntKind.i64.wrap (a1 : Int) = (a1 : Int) := by rw [IntKind.wrap_i64]; omega
    have j2 : IntKind.i64.wrap (a2 : Int) = (a2 : Int) := by rw [IntKind.wrap_i64]; omega
    have j3 : IntKind.i64.wrap (a3 : Int) = (a3 : Int) := by rw [IntKind.wrap_i64]; omega
    have m1 : a1 < l := by omega
    have m2 : a2 < l := by omega
    have m3 : a3 < l := by omega
    have w2' : IntKind.i64.wrap (x2 + 1) = x2 + 1 := by rw [IntKind.wrap_i64]; omega
    have w3' : IntKind.i64.wrap (x3 + 1) = x3 + 1 := by rw [IntKind.wrap_i64]; omega
    have d3 : decide ((l : Int) < 3) = false := by simp; omega
    clear r hok H1 H2 hlen k1 k2 k3 h3 v1 v2 v3
    by_cases g1 : x1 = x2 + 1
    ·have n1 : (x1 != x2 + 1) = false := by simp [g1]
     have e1 : (x1 == x2 + 1) = true := by simp [g1]
     rw [e1] at hB
     clear g1 e1
     by_cases g2 : x2 = x3 + 1
     ·have n2 : (x2 != x3 + 1) = false := by simp [g2]
      have hb : bb = true := by rw [hB.out]; simp [g2]
      have hn : nn = u := by rw [HN.out, hb]; rfl
      subst hb hn
      clear g2 hB HN
      have K : Hid (∀ w', Below w1.heap.size w1 w' → (fun w' => Below w1.heap.size w1 w' ∧ w'.cell? ⟨g, a1 * 2, none⟩ = some (.int .i64 x1) ∧ w'.cell? ⟨g, a2 * 2, none⟩ = some (.int .i64 x2) ∧ w'.cell? ⟨g, a3 * 2, none⟩ = some (.int .i64 x3)) w') := hide fun w' hb' => ⟨hb', (hb'.cell (p := ⟨g, a1 * 2, none⟩) (cell_lt c1)).trans c1, (hb'.cell (p := ⟨g, a2 * 2, none⟩) (cell_lt c2)).trans c2, (hb'.cell (p := ⟨g, a3 * 2, none⟩) (cell_lt c3)).trans c3⟩
      go_upto_region 3 with fail
      have bA : Below w1.heap.size w1 w1.drew := Below.drew (Below.refl _ _)
      refine wrn K bA (fun hHeld => ?_)
      refine' tj 0 14 rfl ?_ ?_;rotate_left
      ·intro w h; (try dsimp only at h); go_simp; try with_reducible rfl
      simp only [pU]
      refine' tj 1 15 rfl ?_ ?_;rotate_left
      ·intro w h; (try dsimp only at h); go_simp; try with_reducible rfl
      simp only [pU]
      refine' tj 2 16 rfl ?_ ?_;rotate_left
      ·intro w h; (try dsimp only at h); go_simp; try with_reducible rfl
      simp only [pU]
      refine' tj 3 17 rfl ?_ ?_;rotate_left
      ·intro w h; (try dsimp only at h); go_simp; try with_reducible rfl
      simp only [pU]
      refine' tj 4 18 rfl ?_ ?_;rotate_left
      ·intro w h; (try dsimp only at h); go_simp; try with_reducible rfl
      simp only [pU]
      refine' tj 5 19 rfl ?_ ?_;rotate_left
      ·intro w h; (try dsimp only at h); go_simp; try with_reducible rfl
      simp only [pU]
      refine' tj 6 20 rfl ?_ ?_;rotate_left
      ·intro w h; (try dsimp only at h); go_simp; try with_reducible rfl
      simp only [pU]
      refine' tj 7 21 rfl ?_ ?_;rotate_left
      ·intro w h; (try dsimp only at h); go_simp; try with_reducible rfl
      simp only [pU]
      refine' tj 8 22 rfl ?_ ?_;rotate_left
      ·intro w h; (try dsimp only at h); go_simp; try with_reducible rfl
      simp only [pU]
      refine' tj 13 27 rfl ?_ ?_;rotate_left
      ·intro w h; (try dsimp only at h); go_simp; try with_reducible rfl
      simp only [pU]
      refine' tj 14 28 rfl ?_ ?_;rotate_left
      ·intro w h; (try dsimp only at h); go_simp; try with_reducible rfl
      simp only [pU]
      refine' tj 9 23 rfl ?_ ?_;rotate_left
      ·intro w h; (try dsimp only at h); go_simp; try with_reducible rfl
      simp only [pU]
      refine' tj 15 29 rfl ?_ ?_;rotate_left
      ·intro w h; (try dsimp only at h); go_simp; try with_reducible rfl
      simp only [pU]
      refine' tj 10 24 rfl ?_ ?_;rotate_left
      ·intro w h; (try dsimp only at h); go_simp; try with_reducible rfl
      simp only [pU]
      refine' tj 16 30 rfl ?_ ?_;rotate_left
      ·intro w h; (try dsimp only at h); go_simp; try with_reducible rfl
      simp only [pU]
      refine' tj 11 25 rfl ?_ ?_;rotate_left
      ·intro w h; (try dsimp only at h); go_simp; try with_reducible rfl
      simp only [pU]
      refine' tj 17 31 rfl ?_ ?_;rotate_left
      ·intro w h; (try dsimp only at h); go_simp; try with_reducible rfl
      simp only [pU]
      refine' tj 12 26 rfl ?_ ?_;rotate_left
      ·intro w h; (try dsimp only at h); go_simp; try with_reducible rfl
      simp only [pU]
      refine' tj 18 32 rfl ?_ ?_;rotate_left
      ·intro w h; (try dsimp only at h); go_simp; try with_reducible rfl
      simp only [pU]
      refine' tj 19 33 rfl ?_ ?_;rotate_left
      ·intro w h; (try dsimp only at h); go_simp; try with_reducible rfl
      simp only [pU]
      refine' tj 20 34 rfl ?_ ?_;rotate_left
      ·intro w h; (try dsimp only at h); go_simp; try with_reducible rfl
      simp only [pU]
      refine' tj 21 35 rfl ?_ ?_;rotate_left
      ·intro w h; (try dsimp only at h); go_simp; try with_reducible rfl
      simp only [pU]
      refine' tj 22 36 rfl ?_ ?_;rotate_left
      ·intro w h; (try dsimp only at h); go_simp; try with_reducible rfl
      simp only [pU]
      refine' tj 23 37 rfl ?_ ?_;rotate_left
      ·intro w h; (try dsimp only at h); go_simp; try with_reducible rfl
      simp only [pU]
      refine' tj 24 38 rfl ?_ ?_;rotate_left
      ·intro w h; (try dsimp only at h); go_simp; try with_reducible rfl
      simp only [pU]
      refine' tj 29 43 rfl ?_ ?_;rotate_left
      ·intro w h; (try dsimp only at h); go_simp; try with_reducible rfl
      simp only [pU]
      refine' tj 30 44 rfl ?_ ?_;rotate_left
      ·intro w h; (try dsimp only at h); go_simp; try with_reducible rfl
      simp only [pU]
      refine' tj 25 39 rfl ?_ ?_;rotate_left
      ·intro w h; (try dsimp only at h); go_simp; try with_reducible rfl
      simp only [pU]
      refine' tj 31 45 rfl ?_ ?_;rotate_left
      ·intro w h; (try dsimp only at h); go_simp; try with_reducible rfl
      simp only [pU]
      refine' tj 26 40 rfl ?_ ?_;rotate_left
      ·intro w h; (try dsimp only at h); go_simp; try with_reducible rfl
      simp only [pU]
      refine' tj 32 46 rfl ?_ ?_;rotate_left
      ·intro w h; (try dsimp only at h); go_simp; try with_reducible rfl
      simp only [pU]
      refine' tj 27 41 rfl ?_ ?_;rotate_left
      ·intro w h; (try dsimp only at h); go_simp; try with_reducible rfl
      simp only [pU]
      refine' tj 33 47 rfl ?_ ?_;rotate_left
      ·intro w h; (try dsimp only at h); go_simp; try with_reducible rfl
      simp only [pU]
      refine' tj 28 42 rfl ?_ ?_;rotate_left
      ·intro w h; (try dsimp only at h); go_simp; try with_reducible rfl
      simp only [pU]
      refine' tj 34 48 rfl ?_ ?_;rotate_left
      ·intro w h; (try dsimp only at h); go_simp; try with_reducible rfl
      simp only [pU]
      refine' tj 35 49 rfl ?_ ?_;rotate_left
      ·intro w h; (try dsimp only at h); go_simp; try with_reducible rfl
      simp only [pU]
      refine' tj 36 50 rfl ?_ ?_;rotate_left
      ·intro w h; (try dsimp only at h); go_simp; try with_reducible rfl
      simp only [pU]
      refine' tj 37 51 rfl ?_ ?_;rotate_left
      ·intro w h; (try dsimp only at h); go_simp; try with_reducible rfl
      simp only [pU]
      clear hHeld
      refine wdn ?_
      obtain ⟨wd3, hwd⟩ : ∃ y, w1.drew = y := ⟨_, rfl⟩
      rw [hwd] at bA ⊢
      clear hwd
      have bb := bA
      have Bwd3 := bu Bw1 bb
      have swd3 := bb.size
      clear Bw1
      clear bb bA K
      clear c1 c2 c3
      go_wp2_with fail
      refine (U1.out _).mono ?_
      rintro _ w2 ⟨rfl, bb⟩
      have Bw2 := bu Bwd3 bb
      have sw2 := bb.size
      clear Bwd3
      clear bb
      go_wp2_with fail
      refine (U2.out _).mono ?_
      rintro _ w3 ⟨rfl, bb⟩
      have Bw3 := bu Bw2 bb
      have sw3 := bb.size
      clear Bw2
      clear bb
      go_wp2
      go_ret2
      exact ⟨rfl, Bw3⟩
     ·have n2 : (x2 != x3 + 1) = true := by simp [g2]
      have hb : bb = false := by rw [hB.out]; simp [g2]
      have hn : nn = ⟨#[]⟩ := by rw [HN.out, hb]; rfl
      subst hb hn
      clear g2 hB HN
      have K : Hid (∀ w', Below w1.heap.size w1 w' → (fun w' => Below w1.heap.size w1 w' ∧ w'.cell? ⟨g, a1 * 2, none⟩ = some (.int .i64 x1) ∧ w'.cell? ⟨g, a2 * 2, none⟩ = some (.int .i64 x2) ∧ w'.cell? ⟨g, a3 * 2, none⟩ = some (.int .i64 x3)) w') := hide fun w' hb' => ⟨hb', (hb'.cell (p := ⟨g, a1 * 2, none⟩) (cell_lt c1)).trans c1, (hb'.cell (p := ⟨g, a2 * 2, none⟩) (cell_lt c2)).trans c2, (hb'.cell (p := ⟨g, a3 * 2, none⟩) (cell_lt c3)).trans c3⟩
      go_upto_region 3 with fail
      have bA : Below w1.heap.size w1 w1.drew := Below.drew (Below.refl _ _)
      refine wrn K bA (fun hHeld => ?_)
      refine' tj 0 14 rfl ?_ ?_;rotate_left
      ·intro w h; (try dsimp only at h); go_simp; try with_reducible rfl
      simp only [pU]
      refine' tj 1 15 rfl ?_ ?_;rotate_left
      ·intro w h; (try dsimp only at h); go_simp; try with_reducible rfl
      simp only [pU]
      refine' tj 2 16 rfl ?_ ?_;rotate_left
      ·intro w h; (try dsimp only at h); go_simp; try with_reducible rfl
      simp only [pU]
      refine' tj 3 17 rfl ?_ ?_;rotate_left
      ·intro w h; (try dsimp only at h); go_simp; try with_reducible rfl
      simp only [pU]
      refine' tj 4 18 rfl ?_ ?_;rotate_left
      ·intro w h; (try dsimp only at h); go_simp; try with_reducible rfl
      simp only [pU]
      refine' tj 5 19 rfl ?_ ?_;rotate_left
      ·intro w h; (try dsimp only at h); go_simp; try with_reducible rfl
      simp only [pU]
      refine' tj 6 20 rfl ?_ ?_;rotate_left
      ·intro w h; (try dsimp only at h); go_simp; try with_reducible rfl
      simp only [pU]
      refine' tj 7 21 rfl ?_ ?_;rotate_left
      ·intro w h; (try dsimp only at h); go_simp; try with_reducible rfl
      simp only [pU]
      refine' tj 8 22 rfl ?_ ?_;rotate_left
      ·intro w h; (try dsimp only at h); go_simp; try with_reducible rfl
      simp only [pU]
      refine' tj 13 27 rfl ?_ ?_;rotate_left
      ·intro w h; (try dsimp only at h); go_simp; try with_reducible rfl
      simp only [pU]
      refine' tj 14 28 rfl ?_ ?_;rotate_left
      ·intro w h; (try dsimp only at h); go_simp; try with_reducible rfl
      simp only [pU]
      refine' tj 9 23 rfl ?_ ?_;rotate_left
      ·intro w h; (try dsimp only at h); go_simp; try with_reducible rfl
      simp only [pU]
      refine' tj 15 29 rfl ?_ ?_;rotate_left
      ·intro w h; (try dsimp only at h); go_simp; try with_reducible rfl
      simp only [pU]
      refine' tj 10 24 rfl ?_ ?_;rotate_left
      ·intro w h; (try dsimp only at h); go_simp; try with_reducible rfl
      simp only [pU]
      refine' tj 16 30 rfl ?_ ?_;rotate_left
      ·intro w h; (try dsimp only at h); go_simp; try with_reducible rfl
      simp only [pU]
      refine' tj 11 25 rfl ?_ ?_;rotate_left
      ·intro w h; (try dsimp only at h); go_simp; try with_reducible rfl
      simp only [pU]
      refine' tj 17 31 rfl ?_ ?_;rotate_left
      ·intro w h; (try dsimp only at h); go_simp; try with_reducible rfl
      simp only [pU]
      refine' tj 12 26 rfl ?_ ?_;rotate_left
      ·intro w h; (try dsimp only at h); go_simp; try with_reducible rfl
      simp only [pU]
      refine' tj 18 32 rfl ?_ ?_;rotate_left
      ·intro w h; (try dsimp only at h); go_simp; try with_reducible rfl
      simp only [pU]
      refine' tj 19 33 rfl ?_ ?_;rotate_left
      ·intro w h; (try dsimp only at h); go_simp; try with_reducible rfl
      simp only [pU]
      refine' tj 20 34 rfl ?_ ?_;rotate_left
      ·intro w h; (try dsimp only at h); go_simp; try with_reducible rfl
      simp only [pU]
      refine' tj 21 35 rfl ?_ ?_;rotate_left
      ·intro w h; (try dsimp only at h); go_simp; try with_reducible rfl
      simp only [pU]
      refine' tj 22 36 rfl ?_ ?_;rotate_left
      ·intro w h; (try dsimp only at h); go_simp; try with_reducible rfl
      simp only [pU]
      refine' tj 23 37 rfl ?_ ?_;rotate_left
      ·intro w h; (try dsimp only at h); go_simp; try with_reducible rfl
      simp only [pU]
      refine' tj 24 38 rfl ?_ ?_;rotate_left
      ·intro w h; (try dsimp only at h); go_simp; try with_reducible rfl
      simp only [pU]
      refine' tj 29 43 rfl ?_ ?_;rotate_left
      ·intro w h; (try dsimp only at h); go_simp; try with_reducible rfl
      simp only [pU]
      refine' tj 30 44 rfl ?_ ?_;rotate_left
      ·intro w h; (try dsimp only at h); go_simp; try with_reducible rfl
      simp only [pU]
      refine' tj 25 39 rfl ?_ ?_;rotate_left
      ·intro w h; (try dsimp only at h); go_simp; try with_reducible rfl
      simp only [pU]
      refine' tj 31 45 rfl ?_ ?_;rotate_left
      ·intro w h; (try dsimp only at h); go_simp; try with_reducible rfl
      simp only [pU]
      refine' tj 26 40 rfl ?_ ?_;rotate_left
      ·intro w h; (try dsimp only at h); go_simp; try with_reducible rfl
      simp only [pU]
      refine' tj 32 46 rfl ?_ ?_;rotate_left
      ·intro w h; (try dsimp only at h); go_simp; try with_reducible rfl
      simp only [pU]
      refine' tj 27 41 rfl ?_ ?_;rotate_left
      ·intro w h; (try dsimp only at h); go_simp; try with_reducible rfl
      simp only [pU]
      refine' tj 33 47 rfl ?_ ?_;rotate_left
      ·intro w h; (try dsimp only at h); go_simp; try with_reducible rfl
      simp only [pU]
      refine' tj 28 42 rfl ?_ ?_;rotate_left
      ·intro w h; (try dsimp only at h); go_simp; try with_reducible rfl
      simp only [pU]
      refine' tj 34 48 rfl ?_ ?_;rotate_left
      ·intro w h; (try dsimp only at h); go_simp; try with_reducible rfl
      simp only [pU]
      refine' tj 35 49 rfl ?_ ?_;rotate_left
      ·intro w h; (try dsimp only at h); go_simp; try with_reducible rfl
      simp only [pU]
      refine' tj 36 50 rfl ?_ ?_;rotate_left
      ·intro w h; (try dsimp only at h); go_simp; try with_reducible rfl
      simp only [pU]
      refine' tj 37 51 rfl ?_ ?_;rotate_left
      ·intro w h; (try dsimp only at h); go_simp; try with_reducible rfl
      simp only [pU]
      clear hHeld
      refine wdn ?_
      obtain ⟨wd3, hwd⟩ : ∃ y, w1.drew = y := ⟨_, rfl⟩
      rw [hwd] at bA ⊢
      clear hwd
      have bb := bA
      have Bwd3 := bu Bw1 bb
      have swd3 := bb.size
      clear Bw1
      clear bb bA K
      go_wp2
      go_ret2
      exact ⟨rfl, Bwd3⟩
    ·have n1 : (x1 != x2 + 1) = true := by simp [g1]
     have hb : bb = false := by rw [hB.out]; simp [g1]
     have hn : nn = ⟨#[]⟩ := by rw [HN.out, hb]; rfl
     subst hb hn
     clear g1 hB HN
     have K : Hid (∀ w', Below w1.heap.size w1 w' → (fun w' => Below w1.heap.size w1 w' ∧ w'.cell? ⟨g, a1 * 2, none⟩ = some (.int .i64 x1) ∧ w'.cell? ⟨g, a2 * 2, none⟩ = some (.int .i64 x2) ∧ w'.cell? ⟨g, a3 * 2, none⟩ = some (.int .i64 x3)) w') := hide fun w' hb' => ⟨hb', (hb'.cell (p := ⟨g, a1 * 2, none⟩) (cell_lt c1)).trans c1, (hb'.cell (p := ⟨g, a2 * 2, none⟩) (cell_lt c2)).trans c2, (hb'.cell (p := ⟨g, a3 * 2, none⟩) (cell_lt c3)).trans c3⟩
     go_upto_region 3 with fail
     have bA : Below w1.heap.size w1 w1.drew := Below.drew (Below.refl _ _)
     refine wrn K bA (fun hHeld => ?_)
     refine' tj 0 14 rfl ?_ ?_;rotate_left
     ·intro w h; (try dsimp only at h); go_simp; try with_reducible rfl
     simp only [pU]
     refine' tj 1 15 rfl ?_ ?_;rotate_left
     ·intro w h; (try dsimp only at h); go_simp; try with_reducible rfl
     simp only [pU]
     refine' tj 2 16 rfl ?_ ?_;rotate_left
     ·intro w h; (try dsimp only at h); go_simp; try with_reducible rfl
     simp only [pU]
     refine' tj 3 17 rfl ?_ ?_;rotate_left
     ·intro w h; (try dsimp only at h); go_simp; try with_reducible rfl
     simp only [pU]
     refine' tj 4 18 rfl ?_ ?_;rotate_left
     ·intro w h; (try dsimp only at h); go_simp; try with_reducible rfl
     simp only [pU]
     refine' tj 5 19 rfl ?_ ?_;rotate_left
     ·intro w h; (try dsimp only at h); go_simp; try with_reducible rfl
     simp only [pU]
     refine' tj 6 20 rfl ?_ ?_;rotate_left
     ·intro w h; (try dsimp only at h); go_simp; try with_reducible rfl
     simp only [pU]
     refine' tj 7 21 rfl ?_ ?_;rotate_left
     ·intro w h; (try dsimp only at h); go_simp; try with_reducible rfl
     simp only [pU]
     refine' tj 8 22 rfl ?_ ?_;rotate_left
     ·intro w h; (try dsimp only at h); go_simp; try with_reducible rfl
     simp only [pU]
     refine' tj 13 27 rfl ?_ ?_;rotate_left
     ·intro w h; (try dsimp only at h); go_simp; try with_reducible rfl
     simp only [pU]
     refine' tj 14 28 rfl ?_ ?_;rotate_left
     ·intro w h; (try dsimp only at h); go_simp; try with_reducible rfl
     simp only [pU]
     refine' tj 9 23 rfl ?_ ?_;rotate_left
     ·intro w h; (try dsimp only at h); go_simp; try with_reducible rfl
     simp only [pU]
     refine' tj 15 29 rfl ?_ ?_;rotate_left
     ·intro w h; (try dsimp only at h); go_simp; try with_reducible rfl
     simp only [pU]
     refine' tj 10 24 rfl ?_ ?_;rotate_left
     ·intro w h; (try dsimp only at h); go_simp; try with_reducible rfl
     simp only [pU]
     refine' tj 16 30 rfl ?_ ?_;rotate_left
     ·intro w h; (try dsimp only at h); go_simp; try with_reducible rfl
     simp only [pU]
     refine' tj 11 25 rfl ?_ ?_;rotate_left
     ·intro w h; (try dsimp only at h); go_simp; try with_reducible rfl
     simp only [pU]
     refine' tj 17 31 rfl ?_ ?_;rotate_left
     ·intro w h; (try dsimp only at h); go_simp; try with_reducible rfl
     simp only [pU]
     refine' tj 12 26 rfl ?_ ?_;rotate_left
     ·intro w h; (try dsimp only at h); go_simp; try with_reducible rfl
     simp only [pU]
     refine' tj 18 32 rfl ?_ ?_;rotate_left
     ·intro w h; (try dsimp only at h); go_simp; try with_reducible rfl
     simp only [pU]
     refine' tj 19 33 rfl ?_ ?_;rotate_left
     ·intro w h; (try dsimp only at h); go_simp; try with_reducible rfl
     simp only [pU]
     refine' tj 20 34 rfl ?_ ?_;rotate_left
     ·intro w h; (try dsimp only at h); go_simp; try with_reducible rfl
     simp only [pU]
     refine' tj 21 35 rfl ?_ ?_;rotate_left
     ·intro w h; (try dsimp only at h); go_simp; try with_reducible rfl
     simp only [pU]
     refine' tj 22 36 rfl ?_ ?_;rotate_left
     ·intro w h; (try dsimp only at h); go_simp; try with_reducible rfl
     simp only [pU]
     refine sk 23 37 rfl (h := ?_)
     simp only [pU]
     refine sk 24 38 rfl (h := ?_)
     simp only [pU]
     refine sk 29 43 rfl (h := ?_)
     simp only [pU]
     refine sk 30 44 rfl (h := ?_)
     simp only [pU]
     refine sk 25 39 rfl (h := ?_)
     simp only [pU]
     refine sk 31 45 rfl (h := ?_)
     simp only [pU]
     refine sk 26 40 rfl (h := ?_)
     simp only [pU]
     refine sk 32 46 rfl (h := ?_)
     simp only [pU]
     refine sk 27 41 rfl (h := ?_)
     simp only [pU]
     refine sk 33 47 rfl (h := ?_)
     simp only [pU]
     refine sk 28 42 rfl (h := ?_)
     simp only [pU]
     refine sk 34 48 rfl (h := ?_)
     simp only [pU]
     refine sk 35 49 rfl (h := ?_)
     simp only [pU]
     refine sk 36 50 rfl (h := ?_)
     simp only [pU]
     refine' tj 37 51 rfl ?_ ?_;rotate_left
     ·intro w h; (try dsimp only at h); go_simp; try with_reducible rfl
     simp only [pU]
     clear hHeld
     refine wdn ?_
     obtain ⟨wd3, hwd⟩ : ∃ y, w1.drew = y := ⟨_, rfl⟩
     rw [hwd] at bA ⊢
     clear hwd
     have bb := bA
     have Bwd3 := bu Bw1 bb
     have swd3 := bb.size
     clear Bw1
     clear bb bA K
     go_wp2
     go_ret2
     exact ⟨rfl, Bwd3⟩
end Go.Proofs.YtcclbejpgiogaaaGreatDoor
namespace Go.Proofs.YtcclbejpgiogaaaGreatDoor
open Go.RowKit

abbrev sv (vo lo n : Int) (s : ByteArray) (v : Value) (d : ByteArray) : Value := .agg #[.int .i64 vo, .int .i64 lo, .int .i64 n, .string s, v, .string d]

theorem kp6 (w : World) (g : Nat) (a b c d e f : Value) : Kp w ((((((w.setCell ⟨g, 0, none⟩ a).setCell ⟨g, 1, none⟩ b).setCell ⟨g, 2, none⟩ c).setCell ⟨g, 3, none⟩ d).setCell ⟨g, 4, none⟩ e).setCell ⟨g, 5, none⟩ f) (fun k => k = g) :=
 (((((set_kp _ _ _ _).trans (set_kp _ _ _ _)).trans (set_kp _ _ _ _)).trans (set_kp _ _ _ _)).trans (set_kp _ _ _ _)).trans (set_kp _ _ _ _)

theorem l7Copy_any (n : Int) (s : ByteArray) (v : Value) (xs : List Int) (w : World) (h : RI w v xs) :
 Calls Tryz.prog 113 #[qv n s v] w fun e w' => ∃ u, e = .returned (qv n s u) ∧ OI w' w.heap.size u xs ∧ Below w.heap.size w w' := by
 obtain ⟨ao, ca, rfl⟩ := h.form
 have hl := h.1
 obtain ⟨w0, hw0⟩ : ∃ w0, ((w.alloc (.cells #[.int .i64 n, .string s, .slice ao xs.length ca] 28)).alloc zq).alloc (.cells #[] 3) = w0 := ⟨_, rfl⟩
 have B0 : Below w.heap.size w w0 := hw0 ▸ ((qalloc2 _ _ _).alloc (by simp; omega) _)
 have LA : Loc w0 w.heap.size #[.int .i64 n, .string s, .slice ao xs.length ca] := hw0 ▸ ((loc_at w _ _ rfl).alloc _).alloc _
 have LZ : Loc w0 (w.heap.size + 1) #[.int .i64 0, .string ⟨#[]⟩, .slice none 0 0] := hw0 ▸ (loc_at (w.alloc _) _ _ (by simp)).alloc _
 have s0 : w0.heap.size = w.heap.size + 1 + 1 + 1 := by rw [← hw0]; simp
 have O0 : OI w0 (w.heap.size + 1 + 1) (.slice (some ⟨w.heap.size + 1 + 1, 0, none⟩) 0 0) [] := by
  have := World.ownsRow_lit (base := w.heap.size + 1 + 1) (e := 3) (size := 1) ((w.alloc (.cells #[.int .i64 n, .string s, .slice ao xs.length ca] 28)).alloc zq) #[] 0 (by simp) (by unfold maxLen; omega) (by simp)
  rw [hw0] at this
  simpa [OI] using this
 have P0 := hide (h.pi.below B0)
 have x2 := LA.cell 2 rfl
 have HL := hide LA
 have HZ := hide LZ
 clear h LA LZ
 go_enter Tryz.func113, Tryz.ntmps113
 go_wp2_with (first | (at_builtin; clear hw0; refine append_ints rfl _ _ rfl (w.heap.size + 1 + 1) (.slice (some ⟨w.heap.size + 1 + 1, 0, none⟩) 0 0) (.slice ao xs.length ca) [] xs rfl rfl O0 P0.out (by simp; omega) (by omega) ?_; intro v' w2 ho2 hg2 _
                       have k2 := kp_grown hg2
                       have L2 := HL.out.kp k2 (by simp [Value.ownBlock]; omega)
                       have Z2 := HZ.out.kp k2 (by simp [Value.ownBlock])
                       have B2 := Below.kp B0 k2 B0.size (fun k hk => by simp [Value.ownBlock] at hk; omega)
                       have lt2 := World.ownsRow.lt ho2
                       have p0 := L2.cell 0 rfl
                       have p1 := L2.cell 1 rfl
                       have p2 := L2.cell 2 rfl
                       have fp := L2.frozen
                       have y0 := Z2.cell 0 rfl
                       have y1 := Z2.cell 1 rfl
                       have y2 := Z2.cell 2 rfl
                       have fy := Z2.frozen
                       obtain ⟨ua, uc, rfl⟩ := ho2.form
                       have O2 := hide ho2
                       clear ho2 hg2 k2 L2 Z2))
 refine bodyPost_ret (v := qv n s (.slice ua ([] ++ xs).length uc)) (by simp [results, Tryz.results113, go_sem, y0, y1, y2]) rfl ?_
 have K5 : Kp w2 ((((w2.setCell ⟨w.heap.size, 2, none⟩ (.slice ua ([] ++ xs).length uc)).setCell ⟨w.heap.size + 1, 0, none⟩ (.int .i64 n)).setCell ⟨w.heap.size + 1, 1, none⟩ (.string s)).setCell ⟨w.heap.size + 1, 2, none⟩ (.slice ua ([] ++ xs).length uc)) (fun k => k = w.heap.size ∨ k = w.heap.size + 1) :=
  (((((set_kp _ _ _ _).mono (fun k h => .inl h))).trans ((set_kp _ _ _ _).mono (fun k h => .inr h))).trans ((set_kp _ _ _ _).mono (fun k h => .inr h))).trans ((set_kp _ _ _ _).mono (fun k h => .inr h))
 exact ⟨_, rfl, (O2.out.kp K5 (fun k hk => by have := lt2 k hk; omega)).mono (by omega), Below.kp B2 K5 B2.size (fun k hk => by omega)⟩

theorem specQcLater_at (n m : Int) (s t : ByteArray) (va vb : Value) (xs ys : List Int) (w : World) (ha : RI w va xs) (hb : RI w vb ys) :
 Calls Tryz.prog 92 #[qv n s va, qv m t vb] w fun e w' => ∃ u, e = .returned (qv (if m < n then n else m) (if m < n then s else t) u) ∧ OI w' w.heap.size u (if m < n then xs else ys) ∧ Below w.heap.size w w' := by
 obtain ⟨w0, hw0⟩ : ∃ w0, ((w.alloc (.cells #[.int .i64 n, .string s, va] 28)).alloc (.cells #[.int .i64 m, .string t, vb] 28)).alloc zq = w0 := ⟨_, rfl⟩
 have B0 : Below w.heap.size w w0 := hw0 ▸ ((qalloc2 _ _ _).alloc (by simp; omega) _)
 have LA : Loc w0 w.heap.size #[.int .i64 n, .string s, va] := hw0 ▸ ((loc_at w _ _ rfl).alloc _).alloc _
 have LB : Loc w0 (w.heap.size + 1) #[.int .i64 m, .string t, vb] := hw0 ▸ (loc_at (w.alloc _) _ _ (by simp)).alloc _
 have LZ : Loc w0 (w.heap.size + 1 + 1) #[.int .i64 0, .string ⟨#[]⟩, .slice none 0 0] := hw0 ▸ (loc_at ((w.alloc _).alloc _) _ _ (by simp))
 have s0 : w0.heap.size = w.heap.size + 1 + 1 + 1 := by rw [← hw0]; simp
 have CA := hide (l7Copy_any n s va xs w0 (ha.below B0))
 have CB := hide (l7Copy_any m t vb ys w0 (hb.below B0))
 have HZ := hide LZ
 have a0 := LA.cell 0 rfl
 have a1 := LA.cell 1 rfl
 have a2 := LA.cell 2 rfl
 have c0 := LB.cell 0 rfl
 have c1 := LB.cell 1 rfl
 have c2 := LB.cell 2 rfl
 clear ha hb LA LB LZ
 by_cases h : m < n
 ·simp only [h, if_true]
  go_enter Tryz.func92, Tryz.ntmps92
  go_wp2_with fail
  clear hw0
  refine CA.out.mono ?_
  rintro e w2 ⟨u, rfl, o2, b2⟩
  have B2 : Below w.heap.size w w2 := bu B0 b2
  have Z2 := HZ.out.below b2 HZ.out.lt
  have y0 := Z2.cell 0 rfl
  have y1 := Z2.cell 1 rfl
  have y2 := Z2.cell 2 rfl
  have fy := Z2.frozen
  have lt2 := World.ownsRow.lt o2
  obtain ⟨ua, uc, rfl⟩ := o2.form
  have O2 := hide o2
  clear o2 b2 Z2 HZ CA CB a0 a1 a2 c0 c1 c2
  go_wp2
  refine bodyPost_ret (v := qv n s (.slice ua xs.length uc)) (by simp [results, Tryz.results92, go_sem, y0, y1, y2]) rfl ?_
  have K5 : Kp w2 (((w2.setCell ⟨w.heap.size + 1 + 1, 0, none⟩ (.int .i64 n)).setCell ⟨w.heap.size + 1 + 1, 1, none⟩ (.string s)).setCell ⟨w.heap.size + 1 + 1, 2, none⟩ (.slice ua xs.length uc)) (fun k => k = w.heap.size + 1 + 1) := ((set_kp _ _ _ _).trans (set_kp _ _ _ _)).trans (set_kp _ _ _ _)
  exact ⟨_, rfl, (O2.out.kp K5 (fun k hk => by have := lt2 k hk; omega)).mono (by omega), Below.kp B2 K5 B2.size (fun k hk => by omega)⟩
 ·simp only [h, if_false]
  go_enter Tryz.func92, Tryz.ntmps92
  go_wp2_with fail
  clear hw0
  refine CB.out.mono ?_
  rintro e w2 ⟨u, rfl, o2, b2⟩
  have B2 : Below w.heap.size w w2 := bu B0 b2
  have Z2 := HZ.out.below b2 HZ.out.lt
  have y0 := Z2.cell 0 rfl
  have y1 := Z2.cell 1 rfl
  have y2 := Z2.cell 2 rfl
  have fy := Z2.frozen
  have lt2 := World.ownsRow.lt o2
  obtain ⟨ua, uc, rfl⟩ := o2.form
  have O2 := hide o2
  clear o2 b2 Z2 HZ CA CB a0 a1 a2 c0 c1 c2
  go_wp2
  refine bodyPost_ret (v := qv m t (.slice ua ys.length uc)) (by simp [results, Tryz.results92, go_sem, y0, y1, y2]) rfl ?_
  have K5 : Kp w2 (((w2.setCell ⟨w.heap.size + 1 + 1, 0, none⟩ (.int .i64 m)).setCell ⟨w.heap.size + 1 + 1, 1, none⟩ (.string t)).setCell ⟨w.heap.size + 1 + 1, 2, none⟩ (.slice ua ys.length uc)) (fun k => k = w.heap.size + 1 + 1) := ((set_kp _ _ _ _).trans (set_kp _ _ _ _)).trans (set_kp _ _ _ _)
  exact ⟨_, rfl, (O2.out.kp K5 (fun k hk => by have := lt2 k hk; omega)).mono (by omega), Below.kp B2 K5 B2.size (fun k hk => by omega)⟩
end Go.Proofs.YtcclbejpgiogaaaGreatDoor
