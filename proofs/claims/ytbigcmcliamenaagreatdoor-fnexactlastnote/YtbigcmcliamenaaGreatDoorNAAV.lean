/- QcOk of the program and of the specification. -/
import Derived.Test.YtbigcmcliamenaaGreatDoorNAAT
import Derived.Test.YtbigcmcliamenaaGreatDoorNAAS
import Derived.Test.YtbigcmcliamenaaGreatDoorNAAU
import Derived.Test.YtbigcmcliamenaaGreatDoorNAAB
import Derived.Test.YtbigcmcliamenaaGreatDoorNAAF
namespace Go.Proofs.YtbigcmcliamenaaGreatDoor
open Go.RowKit
set_option linter.unusedSectionVars false
variable [∀ (a b c d : Int), Decidable (Ok4 a b c d)]
variable [∀ (a b c d : Nat), Decidable (okN a b c d)]
variable [∀ (last : Int) (s : St), Decidable (GoodSt last s)]
variable [∀ (x : T4), Decidable (OkT x)]
variable [∀ (n : Int) (s : List Int), Decidable (OkL n s)]
variable [∀ (n f : Int), Decidable (COk n f)]

def votedB (n f v : Int) (s : ByteArray) (xs : List Int) : Bool := decide (0 < v) && (v == viewAns s) && decide (quorumOf n f ≤ (xs.length : Int)) && decide (OkL n xs)

set_option maxHeartbeats 8000000 in
set_option maxRecDepth 100000 in
theorem votedFor_any (g : Nat) (n f v : Int) (s : ByteArray) (ao : Option Addr) (ca : Nat) (xs : List Int) (w : World) (hs : s.size ≤ 33554432) (hE : Env w) (hg : Loc w g #[.int .i64 v, .string s, .slice ao xs.length ca]) (ha : RI w (.slice ao xs.length ca) xs) :
 Calls Tryz.prog 108 #[.pointer (some ⟨g, 0, none⟩), cv n f] w fun e w' => e = .returned (.bool (votedB n f v s xs)) ∧ Below w.heap.size w w' := by
 have hgl := hg.lt
 have VO := hide fun w hE => implViewOf s w hs hE
 have QU := hide fun w => implQuorum n f w
 have SO := hide fun w h => implSetOk n (.slice ao xs.length ca) xs w h
 have hvb : votedB n f v s xs = (decide (0 < v) && (v == viewAns s) && decide (quorumOf n f ≤ (xs.length : Int)) && decide (OkL n xs)) := rfl
 rw [hvb]
 clear hvb
 generalize viewAns s = q at *
 generalize quorumOf n f = qu at *
 generalize decide (OkL n xs) = ok at *
 obtain ⟨w0, hw0⟩ : ∃ w0, w.alloc (.cells #[.int .i64 n, .int .i64 f] 25) = w0 := ⟨_, rfl⟩
 have B0 : Below w.heap.size w w0 := hw0 ▸ conf_below _ _
 have C0 : Loc w0 w.heap.size #[.int .i64 n, .int .i64 f] := hw0 ▸ loc_at w _ _ rfl
 have G0 := hg.below B0 hgl
 have HE := hide (hE.below B0)
 have HA := hide (ha.below B0 (Nat.le_refl _))
 have K : Hid (∀ w', Below w0.heap.size w0 w' → (fun w' => Below w0.heap.size w0 w' ∧ (w'.cell? ⟨g, 0, none⟩ = some (.int .i64 v) ∧ w'.cell? ⟨g, 1, none⟩ = some (.string s) ∧ w'.cell? ⟨g, 2, none⟩ = some (.slice ao xs.length ca)) ∧ (w'.cell? ⟨w.heap.size, 0, none⟩ = some (.int .i64 n) ∧ w'.cell? ⟨w.heap.size, 1, none⟩ = some (.int .i64 f))) w') := hide fun w' hb' => ⟨hb', ⟨(G0.below hb' G0.lt).cell 0 rfl, (G0.below hb' G0.lt).cell 1 rfl, (G0.below hb' G0.lt).cell 2 rfl⟩, ⟨(C0.below hb' C0.lt).cell 0 rfl, (C0.below hb' C0.lt).cell 1 rfl⟩⟩
 obtain ⟨m, hm⟩ : ∃ m, xs.length = m := ⟨_, rfl⟩
 rw [hm] at K HA SO ⊢
 clear hg ha hE G0 C0 hm
 by_cases h1 : 0 < v
 ·have d1 : decide (0 < v) = true := by simpa using h1
  rw [d1, Bool.true_and]
  by_cases h2 : v = q
  ·have d2 : (v == q) = true := by simpa using h2
   rw [d2, Bool.true_and]
   clear d2
   subst h2
   by_cases h3 : qu ≤ (m : Int)
   ·have d3 : decide (qu ≤ (m : Int)) = true := by simpa using h3
    rw [d3, Bool.true_and]
    go_enter Tryz.func108, Tryz.ntmps108
    go_upto_region 1 with fail
    clear hw0
    have bA : Below w0.heap.size w0 w0.drew := Below.drew (Below.refl _ _)
    refine wp_region_noPanic ?_
    refine wp_region_held_drew (S := fun w' => Below w0.heap.size w0 w' ∧ (w'.cell? ⟨g, 0, none⟩ = some (.int .i64 v) ∧ w'.cell? ⟨g, 1, none⟩ = some (.string s) ∧ w'.cell? ⟨g, 2, none⟩ = some (.slice ao m ca)) ∧ (w'.cell? ⟨w.heap.size, 0, none⟩ = some (.int .i64 n) ∧ w'.cell? ⟨w.heap.size, 1, none⟩ = some (.int .i64 f))) (by kernel_rfl) (unhide K _ bA) (fun hHeld => ?_)
    refine tk 0 5 (v := ?_) rfl (hy := .inl ⟨by rfl, ?_⟩) (h := ?_); rotate_left
    ·intro w hSw; (try dsimp only at hSw); go_simp; (try with_reducible rfl)
    simp only [pU]
    refine tk 1 6 (v := ?_) rfl (hy := .inl ⟨by rfl, ?_⟩) (h := ?_); rotate_left
    ·intro w hSw; (try dsimp only at hSw); go_simp; (try with_reducible rfl)
    simp only [pU]
    refine tk 2 7 (v := ?_) rfl (hy := .inl ⟨by rfl, ?_⟩) (h := ?_); rotate_left
    ·intro w hSw; (try dsimp only at hSw); go_simp; (try with_reducible rfl)
    simp only [pU]
    refine tk 3 8 (v := ?_) rfl (hy := .inl ⟨by rfl, ?_⟩) (h := ?_); rotate_left
    ·intro w hSw; (try dsimp only at hSw); go_simp; (try with_reducible rfl)
    simp only [pU]
    refine tk 4 9 (v := ?_) rfl (hy := .inl ⟨by rfl, ?_⟩) (h := ?_); rotate_left
    ·intro w hSw; (try dsimp only at hSw); go_simp; (try with_reducible rfl)
    simp only [pU]
    refine tk 5 10 (v := ?_) rfl (hy := .inl ⟨by rfl, ?_⟩) (h := ?_); rotate_left
    ·intro w hSw; (try dsimp only at hSw); go_simp; (try with_reducible rfl)
    simp only [pU]
    refine tk 6 11 (v := ?_) rfl (hy := .inl ⟨by rfl, ?_⟩) (h := ?_); rotate_left
    ·intro w hSw; (try dsimp only at hSw); go_simp; (try with_reducible rfl)
    simp only [pU]
    refine tk 7 12 (v := ?_) rfl (hy := .inl ⟨by rfl, ?_⟩) (h := ?_); rotate_left
    ·intro w hSw; (try dsimp only at hSw); go_simp; (try with_reducible rfl)
    simp only [pU]
    refine tk 8 13 (v := ?_) rfl (hy := .inl ⟨by rfl, ?_⟩) (h := ?_); rotate_left
    ·intro w hSw; (try dsimp only at hSw); go_simp; (try with_reducible rfl)
    simp only [pU]
    refine tk 9 14 (v := ?_) rfl (hy := .inl ⟨by rfl, ?_⟩) (h := ?_); rotate_left
    ·intro w hSw; (try dsimp only at hSw); go_simp; (try with_reducible rfl)
    simp only [pU]
    refine tk 10 15 (v := ?_) rfl (hy := .inl ⟨by rfl, ?_⟩) (h := ?_); rotate_left
    ·intro w hSw; (try dsimp only at hSw); go_simp; (try with_reducible rfl)
    simp only [pU]
    refine tk 11 16 (v := ?_) rfl (hy := .inl ⟨by rfl, ?_⟩) (h := ?_); rotate_left
    ·intro w hSw; (try dsimp only at hSw); go_simp; (try with_reducible rfl)
    simp only [pU]
    refine tk 12 17 (v := ?_) rfl (hy := .inl ⟨by rfl, ?_⟩) (h := ?_); rotate_left
    ·intro w hSw; (try dsimp only at hSw); go_simp; (try with_reducible rfl)
    simp only [pU]
    refine tk 13 18 (v := ?_) rfl (hy := .inl ⟨by rfl, ?_⟩) (h := ?_); rotate_left
    ·intro w hSw; (try dsimp only at hSw); go_simp; (try with_reducible rfl)
    simp only [pU]
    refine ready_at (i := 14) rfl (by kernel_rfl) (fun KK hKK => ?_)
    go_simp
    have hgo := bA
    refine (unhide VO _ ((unhide HE).below hgo)).mono ?_
    rintro e wy1 ⟨rfl, bb⟩
    have bB : Below w0.heap.size w0 wy1 := bA.trans (bb.mono bA.size)
    clear bA hgo bb
    clear hHeld
    refine hKK.out _ _ (unhide K _ bB) (fun hHeld => ?_)
    clear hKK KK
    refine tk 15 20 (v := ?_) rfl (hy := .inl ⟨by rfl, ?_⟩) (h := ?_); rotate_left
    ·intro w hSw; (try dsimp only at hSw); go_simp; (try with_reducible rfl)
    simp only [pU]
    refine tk 16 21 (v := ?_) rfl (hy := .inl ⟨by rfl, ?_⟩) (h := ?_); rotate_left
    ·intro w hSw; (try dsimp only at hSw); go_simp; (try with_reducible rfl)
    simp only [pU]
    refine tk 17 22 (v := ?_) rfl (hy := .inl ⟨by rfl, ?_⟩) (h := ?_); rotate_left
    ·intro w hSw; (try dsimp only at hSw); go_simp; (try with_reducible rfl)
    simp only [pU]
    refine tk 18 23 (v := ?_) rfl (hy := .inl ⟨by rfl, ?_⟩) (h := ?_); rotate_left
    ·intro w hSw; (try dsimp only at hSw); go_simp; (try with_reducible rfl)
    simp only [pU]
    refine tk 19 24 (v := ?_) rfl (hy := .inl ⟨by rfl, ?_⟩) (h := ?_); rotate_left
    ·intro w hSw; (try dsimp only at hSw); go_simp; (try with_reducible rfl)
    simp only [pU]
    refine tk 20 25 (v := ?_) rfl (hy := .inl ⟨by rfl, ?_⟩) (h := ?_); rotate_left
    ·intro w hSw; (try dsimp only at hSw); go_simp; (try with_reducible rfl)
    simp only [pU]
    refine tk 21 26 (v := ?_) rfl (hy := .inl ⟨by rfl, ?_⟩) (h := ?_); rotate_left
    ·intro w hSw; (try dsimp only at hSw); go_simp; (try with_reducible rfl)
    simp only [pU]
    refine tk 22 27 (v := ?_) rfl (hy := .inl ⟨by rfl, ?_⟩) (h := ?_); rotate_left
    ·intro w hSw; (try dsimp only at hSw); go_simp; (try with_reducible rfl)
    simp only [pU]
    refine tk 23 28 (v := ?_) rfl (hy := .inl ⟨by rfl, ?_⟩) (h := ?_); rotate_left
    ·intro w hSw; (try dsimp only at hSw); go_simp; (try with_reducible rfl)
    simp only [pU]
    refine ready_at (i := 24) rfl (by kernel_rfl) (fun KK hKK => ?_)
    go_simp
    have hgo := bB
    refine (unhide QU _).mono ?_
    rintro e wy2 ⟨rfl, bb⟩
    have bC : Below w0.heap.size w0 wy2 := bB.trans (bb.mono bB.size)
    clear bB hgo bb
    clear hHeld
    refine hKK.out _ _ (unhide K _ bC) (fun hHeld => ?_)
    clear hKK KK
    refine tk 25 30 (v := ?_) rfl (hy := .inl ⟨by rfl, ?_⟩) (h := ?_); rotate_left
    ·intro w hSw; (try dsimp only at hSw); go_simp; (try with_reducible rfl)
    simp only [pU]
    refine tk 26 31 (v := ?_) rfl (hy := .inl ⟨by rfl, ?_⟩) (h := ?_); rotate_left
    ·intro w hSw; (try dsimp only at hSw); go_simp; (try with_reducible rfl)
    simp only [pU]
    refine tk 27 32 (v := ?_) rfl (hy := .inl ⟨by rfl, ?_⟩) (h := ?_); rotate_left
    ·intro w hSw; (try dsimp only at hSw); go_simp; (try with_reducible rfl)
    simp only [pU]
    refine tk 28 33 (v := ?_) rfl (hy := .inl ⟨by rfl, ?_⟩) (h := ?_); rotate_left
    ·intro w hSw; (try dsimp only at hSw); go_simp; (try with_reducible rfl)
    simp only [pU]
    refine tk 29 34 (v := ?_) rfl (hy := .inl ⟨by rfl, ?_⟩) (h := ?_); rotate_left
    ·intro w hSw; (try dsimp only at hSw); go_simp; (try with_reducible rfl)
    simp only [pU]
    refine tk 30 35 (v := ?_) rfl (hy := .inl ⟨by rfl, ?_⟩) (h := ?_); rotate_left
    ·intro w hSw; (try dsimp only at hSw); go_simp; (try with_reducible rfl)
    simp only [pU]
    refine tk 31 36 (v := ?_) rfl (hy := .inl ⟨by rfl, ?_⟩) (h := ?_); rotate_left
    ·intro w hSw; (try dsimp only at hSw); go_simp; (try with_reducible rfl)
    simp only [pU]
    refine tk 32 37 (v := ?_) rfl (hy := .inl ⟨by rfl, ?_⟩) (h := ?_); rotate_left
    ·intro w hSw; (try dsimp only at hSw); go_simp; (try with_reducible rfl)
    simp only [pU]
    refine tk 33 38 (v := ?_) rfl (hy := .inl ⟨by rfl, ?_⟩) (h := ?_); rotate_left
    ·intro w hSw; (try dsimp only at hSw); go_simp; (try with_reducible rfl)
    simp only [pU]
    refine ready_at (i := 34) rfl (by kernel_rfl) (fun KK hKK => ?_)
    go_simp
    have hgo := bC
    refine (unhide SO _ ((unhide HA).below hgo (Nat.le_refl _))).mono ?_
    rintro e wy3 ⟨rfl, bb⟩
    have bD : Below w0.heap.size w0 wy3 := bC.trans (bb.mono bC.size)
    clear bC hgo bb
    clear hHeld
    refine hKK.out _ _ (unhide K _ bD) (fun hHeld => ?_)
    clear hKK KK
    refine tk 35 40 (v := ?_) rfl (hy := .inl ⟨by rfl, ?_⟩) (h := ?_); rotate_left
    ·intro w hSw; (try dsimp only at hSw); go_simp; (try with_reducible rfl)
    simp only [pU]
    refine tk 36 4 (v := ?_) rfl (hy := .inl ⟨by rfl, ?_⟩) (h := ?_); rotate_left
    ·intro w hSw; (try dsimp only at hSw); go_simp; (try with_reducible rfl)
    simp only [pU]
    clear hHeld
    refine wpAnyH_done (by kernel_rfl) ?_ _
    refine NoPanic.normal ?_
    go_wp2
    go_ret
    exact ⟨rfl, B0.trans (bD.mono B0.size)⟩
   ·have d3 : decide (qu ≤ (m : Int)) = false := by simpa using h3
    rw [d3, Bool.false_and]
    go_enter Tryz.func108, Tryz.ntmps108
    go_upto_region 1 with fail
    clear hw0
    have bA : Below w0.heap.size w0 w0.drew := Below.drew (Below.refl _ _)
    refine wp_region_noPanic ?_
    refine wp_region_held_drew (S := fun w' => Below w0.heap.size w0 w' ∧ (w'.cell? ⟨g, 0, none⟩ = some (.int .i64 v) ∧ w'.cell? ⟨g, 1, none⟩ = some (.string s) ∧ w'.cell? ⟨g, 2, none⟩ = some (.slice ao m ca)) ∧ (w'.cell? ⟨w.heap.size, 0, none⟩ = some (.int .i64 n) ∧ w'.cell? ⟨w.heap.size, 1, none⟩ = some (.int .i64 f))) (by kernel_rfl) (unhide K _ bA) (fun hHeld => ?_)
    refine tk 0 5 (v := ?_) rfl (hy := .inl ⟨by rfl, ?_⟩) (h := ?_); rotate_left
    ·intro w hSw; (try dsimp only at hSw); go_simp; (try with_reducible rfl)
    simp only [pU]
    refine tk 1 6 (v := ?_) rfl (hy := .inl ⟨by rfl, ?_⟩) (h := ?_); rotate_left
    ·intro w hSw; (try dsimp only at hSw); go_simp; (try with_reducible rfl)
    simp only [pU]
    refine tk 2 7 (v := ?_) rfl (hy := .inl ⟨by rfl, ?_⟩) (h := ?_); rotate_left
    ·intro w hSw; (try dsimp only at hSw); go_simp; (try with_reducible rfl)
    simp only [pU]
    refine tk 3 8 (v := ?_) rfl (hy := .inl ⟨by rfl, ?_⟩) (h := ?_); rotate_left
    ·intro w hSw; (try dsimp only at hSw); go_simp; (try with_reducible rfl)
    simp only [pU]
    refine tk 4 9 (v := ?_) rfl (hy := .inl ⟨by rfl, ?_⟩) (h := ?_); rotate_left
    ·intro w hSw; (try dsimp only at hSw); go_simp; (try with_reducible rfl)
    simp only [pU]
    refine tk 5 10 (v := ?_) rfl (hy := .inl ⟨by rfl, ?_⟩) (h := ?_); rotate_left
    ·intro w hSw; (try dsimp only at hSw); go_simp; (try with_reducible rfl)
    simp only [pU]
    refine tk 6 11 (v := ?_) rfl (hy := .inl ⟨by rfl, ?_⟩) (h := ?_); rotate_left
    ·intro w hSw; (try dsimp only at hSw); go_simp; (try with_reducible rfl)
    simp only [pU]
    refine tk 7 12 (v := ?_) rfl (hy := .inl ⟨by rfl, ?_⟩) (h := ?_); rotate_left
    ·intro w hSw; (try dsimp only at hSw); go_simp; (try with_reducible rfl)
    simp only [pU]
    refine tk 8 13 (v := ?_) rfl (hy := .inl ⟨by rfl, ?_⟩) (h := ?_); rotate_left
    ·intro w hSw; (try dsimp only at hSw); go_simp; (try with_reducible rfl)
    simp only [pU]
    refine tk 9 14 (v := ?_) rfl (hy := .inl ⟨by rfl, ?_⟩) (h := ?_); rotate_left
    ·intro w hSw; (try dsimp only at hSw); go_simp; (try with_reducible rfl)
    simp only [pU]
    refine tk 10 15 (v := ?_) rfl (hy := .inl ⟨by rfl, ?_⟩) (h := ?_); rotate_left
    ·intro w hSw; (try dsimp only at hSw); go_simp; (try with_reducible rfl)
    simp only [pU]
    refine tk 11 16 (v := ?_) rfl (hy := .inl ⟨by rfl, ?_⟩) (h := ?_); rotate_left
    ·intro w hSw; (try dsimp only at hSw); go_simp; (try with_reducible rfl)
    simp only [pU]
    refine tk 12 17 (v := ?_) rfl (hy := .inl ⟨by rfl, ?_⟩) (h := ?_); rotate_left
    ·intro w hSw; (try dsimp only at hSw); go_simp; (try with_reducible rfl)
    simp only [pU]
    refine tk 13 18 (v := ?_) rfl (hy := .inl ⟨by rfl, ?_⟩) (h := ?_); rotate_left
    ·intro w hSw; (try dsimp only at hSw); go_simp; (try with_reducible rfl)
    simp only [pU]
    refine ready_at (i := 14) rfl (by kernel_rfl) (fun KK hKK => ?_)
    go_simp
    have hgo := bA
    refine (unhide VO _ ((unhide HE).below hgo)).mono ?_
    rintro e wy1 ⟨rfl, bb⟩
    have bB : Below w0.heap.size w0 wy1 := bA.trans (bb.mono bA.size)
    clear bA hgo bb
    clear hHeld
    refine hKK.out _ _ (unhide K _ bB) (fun hHeld => ?_)
    clear hKK KK
    refine tk 15 20 (v := ?_) rfl (hy := .inl ⟨by rfl, ?_⟩) (h := ?_); rotate_left
    ·intro w hSw; (try dsimp only at hSw); go_simp; (try with_reducible rfl)
    simp only [pU]
    refine tk 16 21 (v := ?_) rfl (hy := .inl ⟨by rfl, ?_⟩) (h := ?_); rotate_left
    ·intro w hSw; (try dsimp only at hSw); go_simp; (try with_reducible rfl)
    simp only [pU]
    refine tk 17 22 (v := ?_) rfl (hy := .inl ⟨by rfl, ?_⟩) (h := ?_); rotate_left
    ·intro w hSw; (try dsimp only at hSw); go_simp; (try with_reducible rfl)
    simp only [pU]
    refine tk 18 23 (v := ?_) rfl (hy := .inl ⟨by rfl, ?_⟩) (h := ?_); rotate_left
    ·intro w hSw; (try dsimp only at hSw); go_simp; (try with_reducible rfl)
    simp only [pU]
    refine tk 19 24 (v := ?_) rfl (hy := .inl ⟨by rfl, ?_⟩) (h := ?_); rotate_left
    ·intro w hSw; (try dsimp only at hSw); go_simp; (try with_reducible rfl)
    simp only [pU]
    refine tk 20 25 (v := ?_) rfl (hy := .inl ⟨by rfl, ?_⟩) (h := ?_); rotate_left
    ·intro w hSw; (try dsimp only at hSw); go_simp; (try with_reducible rfl)
    simp only [pU]
    refine tk 21 26 (v := ?_) rfl (hy := .inl ⟨by rfl, ?_⟩) (h := ?_); rotate_left
    ·intro w hSw; (try dsimp only at hSw); go_simp; (try with_reducible rfl)
    simp only [pU]
    refine tk 22 27 (v := ?_) rfl (hy := .inl ⟨by rfl, ?_⟩) (h := ?_); rotate_left
    ·intro w hSw; (try dsimp only at hSw); go_simp; (try with_reducible rfl)
    simp only [pU]
    refine tk 23 28 (v := ?_) rfl (hy := .inl ⟨by rfl, ?_⟩) (h := ?_); rotate_left
    ·intro w hSw; (try dsimp only at hSw); go_simp; (try with_reducible rfl)
    simp only [pU]
    refine ready_at (i := 24) rfl (by kernel_rfl) (fun KK hKK => ?_)
    go_simp
    have hgo := bB
    refine (unhide QU _).mono ?_
    rintro e wy2 ⟨rfl, bb⟩
    have bC : Below w0.heap.size w0 wy2 := bB.trans (bb.mono bB.size)
    clear bB hgo bb
    clear hHeld
    refine hKK.out _ _ (unhide K _ bC) (fun hHeld => ?_)
    clear hKK KK
    refine tk 25 30 (v := ?_) rfl (hy := .inl ⟨by rfl, ?_⟩) (h := ?_); rotate_left
    ·intro w hSw; (try dsimp only at hSw); go_simp; (try with_reducible rfl)
    simp only [pU]
    refine tk 26 31 (v := ?_) rfl (hy := .inl ⟨by rfl, ?_⟩) (h := ?_); rotate_left
    ·intro w hSw; (try dsimp only at hSw); go_simp; (try with_reducible rfl)
    simp only [pU]
    refine tk 27 32 (v := ?_) rfl (hy := .inl ⟨by rfl, ?_⟩) (h := ?_); rotate_left
    ·intro w hSw; (try dsimp only at hSw); go_simp; (try with_reducible rfl)
    simp only [pU]
    refine sk 28 33 rfl (h := ?_)
    simp only [pU]
    refine sk 29 34 rfl (h := ?_)
    simp only [pU]
    refine sk 30 35 rfl (h := ?_)
    simp only [pU]
    refine sk 31 36 rfl (h := ?_)
    simp only [pU]
    refine sk 32 37 rfl (h := ?_)
    simp only [pU]
    refine sk 33 38 rfl (h := ?_)
    simp only [pU]
    refine sk 34 39 rfl (h := ?_)
    simp only [pU]
    refine tk 35 40 (v := ?_) rfl (hy := .inl ⟨by rfl, ?_⟩) (h := ?_); rotate_left
    ·intro w hSw; (try dsimp only at hSw); go_simp; (try with_reducible rfl)
    simp only [pU]
    refine tk 36 4 (v := ?_) rfl (hy := .inl ⟨by rfl, ?_⟩) (h := ?_); rotate_left
    ·intro w hSw; (try dsimp only at hSw); go_simp; (try with_reducible rfl)
    simp only [pU]
    clear hHeld
    refine wpAnyH_done (by kernel_rfl) ?_ _
    refine NoPanic.normal ?_
    go_wp2
    go_ret
    exact ⟨rfl, B0.trans (bC.mono B0.size)⟩
  ·have d2 : (v == q) = false := by simpa using h2
   rw [d2, Bool.false_and, Bool.false_and]
   go_enter Tryz.func108, Tryz.ntmps108
   go_upto_region 1 with fail
   clear hw0
   have bA : Below w0.heap.size w0 w0.drew := Below.drew (Below.refl _ _)
   refine wp_region_noPanic ?_
   refine wp_region_held_drew (S := fun w' => Below w0.heap.size w0 w' ∧ (w'.cell? ⟨g, 0, none⟩ = some (.int .i64 v) ∧ w'.cell? ⟨g, 1, none⟩ = some (.string s) ∧ w'.cell? ⟨g, 2, none⟩ = some (.slice ao m ca)) ∧ (w'.cell? ⟨w.heap.size, 0, none⟩ = some (.int .i64 n) ∧ w'.cell? ⟨w.heap.size, 1, none⟩ = some (.int .i64 f))) (by kernel_rfl) (unhide K _ bA) (fun hHeld => ?_)
   refine tk 0 5 (v := ?_) rfl (hy := .inl ⟨by rfl, ?_⟩) (h := ?_); rotate_left
   ·intro w hSw; (try dsimp only at hSw); go_simp; (try with_reducible rfl)
   simp only [pU]
   refine tk 1 6 (v := ?_) rfl (hy := .inl ⟨by rfl, ?_⟩) (h := ?_); rotate_left
   ·intro w hSw; (try dsimp only at hSw); go_simp; (try with_reducible rfl)
   simp only [pU]
   refine tk 2 7 (v := ?_) rfl (hy := .inl ⟨by rfl, ?_⟩) (h := ?_); rotate_left
   ·intro w hSw; (try dsimp only at hSw); go_simp; (try with_reducible rfl)
   simp only [pU]
   refine tk 3 8 (v := ?_) rfl (hy := .inl ⟨by rfl, ?_⟩) (h := ?_); rotate_left
   ·intro w hSw; (try dsimp only at hSw); go_simp; (try with_reducible rfl)
   simp only [pU]
   refine tk 4 9 (v := ?_) rfl (hy := .inl ⟨by rfl, ?_⟩) (h := ?_); rotate_left
   ·intro w hSw; (try dsimp only at hSw); go_simp; (try with_reducible rfl)
   simp only [pU]
   refine tk 5 10 (v := ?_) rfl (hy := .inl ⟨by rfl, ?_⟩) (h := ?_); rotate_left
   ·intro w hSw; (try dsimp only at hSw); go_simp; (try with_reducible rfl)
   simp only [pU]
   refine tk 6 11 (v := ?_) rfl (hy := .inl ⟨by rfl, ?_⟩) (h := ?_); rotate_left
   ·intro w hSw; (try dsimp only at hSw); go_simp; (try with_reducible rfl)
   simp only [pU]
   refine tk 7 12 (v := ?_) rfl (hy := .inl ⟨by rfl, ?_⟩) (h := ?_); rotate_left
   ·intro w hSw; (try dsimp only at hSw); go_simp; (try with_reducible rfl)
   simp only [pU]
   refine tk 8 13 (v := ?_) rfl (hy := .inl ⟨by rfl, ?_⟩) (h := ?_); rotate_left
   ·intro w hSw; (try dsimp only at hSw); go_simp; (try with_reducible rfl)
   simp only [pU]
   refine tk 9 14 (v := ?_) rfl (hy := .inl ⟨by rfl, ?_⟩) (h := ?_); rotate_left
   ·intro w hSw; (try dsimp only at hSw); go_simp; (try with_reducible rfl)
   simp only [pU]
   refine tk 10 15 (v := ?_) rfl (hy := .inl ⟨by rfl, ?_⟩) (h := ?_); rotate_left
   ·intro w hSw; (try dsimp only at hSw); go_simp; (try with_reducible rfl)
   simp only [pU]
   refine tk 11 16 (v := ?_) rfl (hy := .inl ⟨by rfl, ?_⟩) (h := ?_); rotate_left
   ·intro w hSw; (try dsimp only at hSw); go_simp; (try with_reducible rfl)
   simp only [pU]
   refine tk 12 17 (v := ?_) rfl (hy := .inl ⟨by rfl, ?_⟩) (h := ?_); rotate_left
   ·intro w hSw; (try dsimp only at hSw); go_simp; (try with_reducible rfl)
   simp only [pU]
   refine tk 13 18 (v := ?_) rfl (hy := .inl ⟨by rfl, ?_⟩) (h := ?_); rotate_left
   ·intro w hSw; (try dsimp only at hSw); go_simp; (try with_reducible rfl)
   simp only [pU]
   refine ready_at (i := 14) rfl (by kernel_rfl) (fun KK hKK => ?_)
   go_simp
   have hgo := bA
   refine (unhide VO _ ((unhide HE).below hgo)).mono ?_
   rintro e wy1 ⟨rfl, bb⟩
   have bB : Below w0.heap.size w0 wy1 := bA.trans (bb.mono bA.size)
   clear bA hgo bb
   clear hHeld
   refine hKK.out _ _ (unhide K _ bB) (fun hHeld => ?_)
   clear hKK KK
   refine tk 15 20 (v := ?_) rfl (hy := .inl ⟨by rfl, ?_⟩) (h := ?_); rotate_left
   ·intro w hSw; (try dsimp only at hSw); go_simp; (try with_reducible rfl)
   simp only [pU]
   refine tk 16 21 (v := ?_) rfl (hy := .inl ⟨by rfl, ?_⟩) (h := ?_); rotate_left
   ·intro w hSw; (try dsimp only at hSw); go_simp; (try with_reducible rfl)
   simp only [pU]
   refine tk 17 22 (v := ?_) rfl (hy := .inl ⟨by rfl, ?_⟩) (h := ?_); rotate_left
   ·intro w hSw; (try dsimp only at hSw); go_simp; (try with_reducible rfl)
   simp only [pU]
   refine sk 18 23 rfl (h := ?_)
   simp only [pU]
   refine sk 19 24 rfl (h := ?_)
   simp only [pU]
   refine sk 20 25 rfl (h := ?_)
   simp only [pU]
   refine sk 21 26 rfl (h := ?_)
   simp only [pU]
   refine sk 22 27 rfl (h := ?_)
   simp only [pU]
   refine sk 23 28 rfl (h := ?_)
   simp only [pU]
   refine sk 24 29 rfl (h := ?_)
   simp only [pU]
   refine sk 25 30 rfl (h := ?_)
   simp only [pU]
   refine tk 26 31 (v := ?_) rfl (hy := .inl ⟨by rfl, ?_⟩) (h := ?_); rotate_left
   ·intro w hSw; (try dsimp only at hSw); go_simp; (try with_reducible rfl)
   simp only [pU]
   refine tk 27 32 (v := ?_) rfl (hy := .inl ⟨by rfl, ?_⟩) (h := ?_); rotate_left
   ·intro w hSw; (try dsimp only at hSw); go_simp; (try with_reducible rfl)
   simp only [pU]
   refine sk 28 33 rfl (h := ?_)
   simp only [pU]
   refine sk 29 34 rfl (h := ?_)
   simp only [pU]
   refine sk 30 35 rfl (h := ?_)
   simp only [pU]
   refine sk 31 36 rfl (h := ?_)
   simp only [pU]
   refine sk 32 37 rfl (h := ?_)
   simp only [pU]
   refine sk 33 38 rfl (h := ?_)
   simp only [pU]
   refine sk 34 39 rfl (h := ?_)
   simp only [pU]
   refine tk 35 40 (v := ?_) rfl (hy := .inl ⟨by rfl, ?_⟩) (h := ?_); rotate_left
   ·intro w hSw; (try dsimp only at hSw); go_simp; (try with_reducible rfl)
   simp only [pU]
   refine tk 36 4 (v := ?_) rfl (hy := .inl ⟨by rfl, ?_⟩) (h := ?_); rotate_left
   ·intro w hSw; (try dsimp only at hSw); go_simp; (try with_reducible rfl)
   simp only [pU]
   clear hHeld
   refine wpAnyH_done (by kernel_rfl) ?_ _
   refine NoPanic.normal ?_
   go_wp2
   go_ret
   exact ⟨rfl, B0.trans (bB.mono B0.size)⟩
 ·have d1 : decide (0 < v) = false := by simpa using h1
  rw [d1, Bool.false_and, Bool.false_and, Bool.false_and]
  go_enter Tryz.func108, Tryz.ntmps108
  go_upto_region 1 with fail
  clear hw0
  have bA : Below w0.heap.size w0 w0.drew := Below.drew (Below.refl _ _)
  refine wp_region_noPanic ?_
  refine wp_region_held_drew (S := fun w' => Below w0.heap.size w0 w' ∧ (w'.cell? ⟨g, 0, none⟩ = some (.int .i64 v) ∧ w'.cell? ⟨g, 1, none⟩ = some (.string s) ∧ w'.cell? ⟨g, 2, none⟩ = some (.slice ao m ca)) ∧ (w'.cell? ⟨w.heap.size, 0, none⟩ = some (.int .i64 n) ∧ w'.cell? ⟨w.heap.size, 1, none⟩ = some (.int .i64 f))) (by kernel_rfl) (unhide K _ bA) (fun hHeld => ?_)
  refine tk 0 5 (v := ?_) rfl (hy := .inl ⟨by rfl, ?_⟩) (h := ?_); rotate_left
  ·intro w hSw; (try dsimp only at hSw); go_simp; (try with_reducible rfl)
  simp only [pU]
  refine tk 1 6 (v := ?_) rfl (hy := .inl ⟨by rfl, ?_⟩) (h := ?_); rotate_left
  ·intro w hSw; (try dsimp only at hSw); go_simp; (try with_reducible rfl)
  simp only [pU]
  refine tk 2 7 (v := ?_) rfl (hy := .inl ⟨by rfl, ?_⟩) (h := ?_); rotate_left
  ·intro w hSw; (try dsimp only at hSw); go_simp; (try with_reducible rfl)
  simp only [pU]
  refine tk 3 8 (v := ?_) rfl (hy := .inl ⟨by rfl, ?_⟩) (h := ?_); rotate_left
  ·intro w hSw; (try dsimp only at hSw); go_simp; (try with_reducible rfl)
  simp only [pU]
  refine tk 4 9 (v := ?_) rfl (hy := .inl ⟨by rfl, ?_⟩) (h := ?_); rotate_left
  ·intro w hSw; (try dsimp only at hSw); go_simp; (try with_reducible rfl)
  simp only [pU]
  refine tk 5 10 (v := ?_) rfl (hy := .inl ⟨by rfl, ?_⟩) (h := ?_); rotate_left
  ·intro w hSw; (try dsimp only at hSw); go_simp; (try with_reducible rfl)
  simp only [pU]
  refine sk 6 11 rfl (h := ?_)
  simp only [pU]
  refine sk 7 12 rfl (h := ?_)
  simp only [pU]
  refine sk 8 13 rfl (h := ?_)
  simp only [pU]
  refine sk 9 14 rfl (h := ?_)
  simp only [pU]
  refine sk 10 15 rfl (h := ?_)
  simp only [pU]
  refine sk 11 16 rfl (h := ?_)
  simp only [pU]
  refine sk 12 17 rfl (h := ?_)
  simp only [pU]
  refine sk 13 18 rfl (h := ?_)
  simp only [pU]
  refine sk 14 19 rfl (h := ?_)
  simp only [pU]
  refine sk 15 20 rfl (h := ?_)
  simp only [pU]
  refine tk 16 21 (v := ?_) rfl (hy := .inl ⟨by rfl, ?_⟩) (h := ?_); rotate_left
  ·intro w hSw; (try dsimp only at hSw); go_simp; (try with_reducible rfl)
  simp only [pU]
  refine tk 17 22 (v := ?_) rfl (hy := .inl ⟨by rfl, ?_⟩) (h := ?_); rotate_left
  ·intro w hSw; (try dsimp only at hSw); go_simp; (try with_reducible rfl)
  simp only [pU]
  refine sk 18 23 rfl (h := ?_)
  simp only [pU]
  refine sk 19 24 rfl (h := ?_)
  simp only [pU]
  refine sk 20 25 rfl (h := ?_)
  simp only [pU]
  refine sk 21 26 rfl (h := ?_)
  simp only [pU]
  refine sk 22 27 rfl (h := ?_)
  simp only [pU]
  refine sk 23 28 rfl (h := ?_)
  simp only [pU]
  refine sk 24 29 rfl (h := ?_)
  simp only [pU]
  refine sk 25 30 rfl (h := ?_)
  simp only [pU]
  refine tk 26 31 (v := ?_) rfl (hy := .inl ⟨by rfl, ?_⟩) (h := ?_); rotate_left
  ·intro w hSw; (try dsimp only at hSw); go_simp; (try with_reducible rfl)
  simp only [pU]
  refine tk 27 32 (v := ?_) rfl (hy := .inl ⟨by rfl, ?_⟩) (h := ?_); rotate_left
  ·intro w hSw; (try dsimp only at hSw); go_simp; (try with_reducible rfl)
  simp only [pU]
  refine sk 28 33 rfl (h := ?_)
  simp only [pU]
  refine sk 29 34 rfl (h := ?_)
  simp only [pU]
  refine sk 30 35 rfl (h := ?_)
  simp only [pU]
  refine sk 31 36 rfl (h := ?_)
  simp only [pU]
  refine sk 32 37 rfl (h := ?_)
  simp only [pU]
  refine sk 33 38 rfl (h := ?_)
  simp only [pU]
  refine sk 34 39 rfl (h := ?_)
  simp only [pU]
  refine tk 35 40 (v := ?_) rfl (hy := .inl ⟨by rfl, ?_⟩) (h := ?_); rotate_left
  ·intro w hSw; (try dsimp only at hSw); go_simp; (try with_reducible rfl)
  simp only [pU]
  refine tk 36 4 (v := ?_) rfl (hy := .inl ⟨by rfl, ?_⟩) (h := ?_); rotate_left
  ·intro w hSw; (try dsimp only at hSw); go_simp; (try with_reducible rfl)
  simp only [pU]
  clear hHeld
  refine wpAnyH_done (by kernel_rfl) ?_ _
  refine NoPanic.normal ?_
  go_wp2
  go_ret
  exact ⟨rfl, B0.trans (bA.mono B0.size)⟩
end Go.Proofs.YtbigcmcliamenaaGreatDoor
