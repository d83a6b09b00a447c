/- Texts that belong together: Conf, DrawConf, FromL, StepsPlain, StepRows. -/
import Derived.Test.YtmpmedbojfjnaaaGreatDoorFPAD
import Derived.Test.YtmpmedbojfjnaaaGreatDoorFPAE
import Derived.Deep.RegionHeld3
import Derived.Deep.DeepCutAuto
import Derived.Test.YtmpmedbojfjnaaaGreatDoorFPAJ
import Derived.Test.YtmpmedbojfjnaaaGreatDoorFPAI
import Derived.OwnWalk
import Derived.Maps.AppendAt
namespace Go.Proofs.YtmpmedbojfjnaaaGreatDoor
open Go.RowKit
set_option linter.unusedSectionVars false
variable [∀ (a b c d : Int), Decidable (Ok4 a b c d)]

abbrev cv (n f : Int) : Value := .agg #[.int .i64 n, .int .i64 f]
def COk (n f : Int) : Prop := (4 ≤ n ∧ n ≤ 7) ∧ 1 ≤ f ∧ f ≤ 6
variable [∀ (n f : Int), Decidable (COk n f)]
def faultsOf (n f : Int) : Int := if COk n f then (n - 1) / 3 else 0
def quorumOf (n f : Int) : Int := if COk n f then n - (n - 1) / 3 else 0
theorem cok_cases {n f : Int} (h : COk n f) : n = 4 ∨ n = 5 ∨ n = 6 ∨ n = 7 := by obtain ⟨h, _⟩ := h; omega
theorem conf_below (w : World) (o : Obj) : Below w.heap.size w (w.alloc o) := (Below.refl _ _).alloc (Nat.le_refl _) _

set_option maxHeartbeats 800000 in
set_option maxRecDepth 100000 in
theorem specConfOk (n f : Int) (w : World) :
 Calls Tryz.prog 113 #[cv n f] w fun e w' => e = .returned (.bool (decide (COk n f))) ∧ Below w.heap.size w w' := by
 by_cases h1 : 4 ≤ n ∧ n ≤ 7
 ·by_cases h2 : 1 ≤ f ∧ f ≤ 6
  ·have hd : decide (COk n f) = true := by simp [COk, h1, h2]
   rw [hd]
   go_enter Tryz.func113, Tryz.ntmps113
   go_wp2_with (first | (go_at_call 77; refine (in_yes _ _ _ _ (by omega) (by omega)).mono ?_; rintro e w' ⟨rfl, rfl⟩))
   go_ret
   exact ⟨rfl, conf_below _ _⟩
  ·have hd : decide (COk n f) = false := by simp [COk, h1]; omega
   rw [hd]
   go_enter Tryz.func113, Tryz.ntmps113
   go_wp2_with fail
   refine (in_yes _ _ _ _ (by omega) (by omega)).mono ?_
   rintro e w' ⟨rfl, rfl⟩
   go_wp2_with fail
   refine (in_no _ _ _ _ (by omega)).mono ?_
   rintro e w' ⟨rfl, rfl⟩
   go_wp2
   go_ret
   exact ⟨rfl, conf_below _ _⟩
 ·have hd : decide (COk n f) = false := by simp only [decide_eq_false_iff_not]; rintro ⟨h, _⟩; exact h1 h
  rw [hd]
  go_enter Tryz.func113, Tryz.ntmps113
  go_wp2_with fail
  refine (in_no _ _ _ _ (by omega)).mono ?_
  rintro e w' ⟨rfl, rfl⟩
  go_wp2
  go_ret
  exact ⟨rfl, conf_below _ _⟩

set_option maxHeartbeats 800000 in
set_option maxRecDepth 100000 in
theorem implConfOk (n f : Int) (w : World) :
 Calls Tryz.prog 84 #[cv n f] w fun e w' => e = .returned (.bool (decide (COk n f))) ∧ Below w.heap.size w w' := by
 by_cases h1 : 4 ≤ n ∧ n ≤ 7
 ·by_cases h2 : 1 ≤ f ∧ f ≤ 6
  ·have hd : decide (COk n f) = true := by simp [COk, h1, h2]
   rw [hd]
   go_enter Tryz.func84, Tryz.ntmps84
   go_wp2_with (first | (go_at_call 75; refine (within_yes _ _ _ _ (by omega) (by omega)).mono ?_; rintro e w' ⟨rfl, rfl⟩))
   go_ret
   exact ⟨rfl, conf_below _ _⟩
  ·have hd : decide (COk n f) = false := by simp [COk, h1]; omega
   rw [hd]
   go_enter Tryz.func84, Tryz.ntmps84
   go_wp2_with fail
   refine (within_yes _ _ _ _ (by omega) (by omega)).mono ?_
   rintro e w' ⟨rfl, rfl⟩
   go_wp2_with fail
   refine (within_no _ _ _ _ (by omega)).mono ?_
   rintro e w' ⟨rfl, rfl⟩
   go_wp2
   go_ret
   exact ⟨rfl, conf_below _ _⟩
 ·have hd : decide (COk n f) = false := by simp only [decide_eq_false_iff_not]; rintro ⟨h, _⟩; exact h1 h
  rw [hd]
  go_enter Tryz.func84, Tryz.ntmps84
  go_wp2_with fail
  refine (within_no _ _ _ _ (by omega)).mono ?_
  rintro e w' ⟨rfl, rfl⟩
  go_wp2
  go_ret
  exact ⟨rfl, conf_below _ _⟩

set_option maxHeartbeats 800000 in
set_option maxRecDepth 100000 in
theorem implFaults (n f : Int) (w : World) :
 Calls Tryz.prog 160 #[cv n f] w fun e w' => e = .returned (.int .i64 (faultsOf n f)) ∧ Below w.heap.size w w' := by
 have OK := hide fun w => implConfOk n f w
 by_cases h : COk n f
 ·have hd : decide (COk n f) = true := by simpa using h
  rw [hd] at OK
  have hf : faultsOf n f = (n - 1) / 3 := by simp [faultsOf, h]
  rw [hf]
  have L0 := loc_at w #[.int .i64 n, .int .i64 f] 25 rfl
  rcases cok_cases h with rfl | rfl | rfl | rfl
  all_goals
   clear h hd hf
   go_enter Tryz.func160, Tryz.ntmps160
   go_wp2_with fail
   refine (unhide OK _).mono ?_
   rintro e w1 ⟨rfl, b1⟩
   have L1 := L0.below b1 L0.lt
   have B1 := (conf_below _ _).trans (b1.mono (by simp))
   have p0 := L1.cell 0 rfl
   have p1 := L1.cell 1 rfl
   clear L0 b1
   go_wp2
   go_ret
   exact ⟨by go_num, B1⟩
 ·have hd : decide (COk n f) = false := by simpa using h
  rw [hd] at OK
  have hf : faultsOf n f = 0 := by simp [faultsOf, h]
  rw [hf]
  clear h hd hf
  go_enter Tryz.func160, Tryz.ntmps160
  go_wp2_with fail
  refine (unhide OK _).mono ?_
  rintro e w1 ⟨rfl, b1⟩
  go_wp2
  go_ret
  exact ⟨rfl, (conf_below _ _).trans (b1.mono (by simp))⟩

set_option maxHeartbeats 800000 in
set_option maxRecDepth 100000 in
theorem specQuorum (n f : Int) (w : World) :
 Calls Tryz.prog 134 #[cv n f] w fun e w' => e = .returned (.int .i64 (quorumOf n f)) ∧ Below w.heap.size w w' := by
 have OK := hide fun w => specConfOk n f w
 by_cases h : COk n f
 ·have hd : decide (COk n f) = true := by simpa using h
  rw [hd] at OK
  have hf : quorumOf n f = n - (n - 1) / 3 := by simp [quorumOf, h]
  rw [hf]
  have L0 := loc_at w #[.int .i64 n, .int .i64 f] 25 rfl
  rcases cok_cases h with rfl | rfl | rfl | rfl
  all_goals
   clear h hd hf
   go_enter Tryz.func134, Tryz.ntmps134
   go_wp2_with fail
   refine (unhide OK _).mono ?_
   rintro e w1 ⟨rfl, b1⟩
   have L1 := L0.below b1 L0.lt
   have B1 := (conf_below _ _).trans (b1.mono (by simp))
   have p0 := L1.cell 0 rfl
   have p1 := L1.cell 1 rfl
   clear L0 b1
   go_wp2
   go_ret
   exact ⟨by go_num, B1⟩
 ·have hd : decide (COk n f) = false := by simpa using h
  rw [hd] at OK
  have hf : quorumOf n f = 0 := by simp [quorumOf, h]
  rw [hf]
  clear h hd hf
  go_enter Tryz.func134, Tryz.ntmps134
  go_wp2_with fail
  refine (unhide OK _).mono ?_
  rintro e w1 ⟨rfl, b1⟩
  go_wp2
  go_ret
  exact ⟨rfl, (conf_below _ _).trans (b1.mono (by simp))⟩

set_option maxHeartbeats 800000 in
set_option maxRecDepth 100000 in
theorem implQuorum (n f : Int) (w : World) :
 Calls Tryz.prog 138 #[cv n f] w fun e w' => e = .returned (.int .i64 (quorumOf n f)) ∧ Below w.heap.size w w' := by
 have OK := hide fun w => implConfOk n f w
 have FA := hide fun w => implFaults n f w
 by_cases h : COk n f
 ·have hd : decide (COk n f) = true := by simpa using h
  rw [hd] at OK
  have hf : quorumOf n f = n - faultsOf n f := by simp [quorumOf, faultsOf, h]
  rw [hf]
  have h1 := h.1.1
  have h2 := h.1.2
  have hg : faultsOf n f = (n - 1) / 3 := by simp [faultsOf, h]
  have h3 : 1 ≤ faultsOf n f ∧ faultsOf n f ≤ 2 := by omega
  obtain ⟨h3, h4⟩ := h3
  clear hg hf hd h
  generalize faultsOf n f = q at *
  have L0 := loc_at w #[.int .i64 n, .int .i64 f] 25 rfl
  go_enter Tryz.func138, Tryz.ntmps138
  go_wp2_with fail
  refine (unhide OK _).mono ?_
  rintro e w1 ⟨rfl, b1⟩
  have L1 := L0.below b1 L0.lt
  have B1 : Below w.heap.size w w1 := (conf_below _ _).trans (b1.mono (by simp))
  have K : Hid (∀ w', Below w1.heap.size w1 w' → Below w1.heap.size w1 w' ∧ w'.cell? ⟨w.heap.size, 0, none⟩ = some (.int .i64 n) ∧ w'.cell? ⟨w.heap.size, 1, none⟩ = some (.int .i64 f)) := hide fun w' hb' =>
   ⟨hb', (L1.below hb' L1.lt).cell 0 rfl, (L1.below hb' L1.lt).cell 1 rfl⟩
  have bA : Below w1.heap.size w1 w1.drew := Below.drew (Below.refl _ _)
  have hKeep := unhide K _ bA
  clear L0 L1 b1
  go_upto_region 3 with fail
  first | go_region_held3 (fun w' => Below w1.heap.size w1 w' ∧ w'.cell? ⟨w.heap.size, 0, none⟩ = some (.int .i64 n) ∧ w'.cell? ⟨w.heap.size, 1, none⟩ = some (.int .i64 f)) (exact hKeep) (first
   | (go_at_call 160; have hgo := bA; refine (unhide FA _).mono ?_; rintro e wa ⟨rfl, ba⟩
      have bB : Below w1.heap.size w1 wa := bA.trans (ba.mono bA.size)
      have hKeep := unhide K _ bB; clear bA hgo ba)) | fail
  all_goals
   go_wp2
   go_ret
   exact ⟨by simp only [IntKind.wrap_i64]; simp; omega, B1.trans (bB.mono B1.size)⟩
 ·have hd : decide (COk n f) = false := by simpa using h
  rw [hd] at OK
  have hf : quorumOf n f = 0 := by simp [quorumOf, h]
  rw [hf]
  clear h hd hf
  go_enter Tryz.func138, Tryz.ntmps138
  go_wp2_with fail
  refine (unhide OK _).mono ?_
  rintro e w1 ⟨rfl, b1⟩
  go_wp2
  go_ret
  exact ⟨rfl, (conf_below _ _).trans (b1.mono (by simp))⟩

end Go.Proofs.YtmpmedbojfjnaaaGreatDoor
namespace Go.Proofs.YtmpmedbojfjnaaaGreatDoor
open Go.RowKit
set_option linter.unusedSectionVars false
variable [∀ (a b c d : Int), Decidable (Ok4 a b c d)]
variable [∀ (a b c d : Nat), Decidable (okN a b c d)]
variable [∀ (x : T4), Decidable (OkT x)]
variable [∀ (n f : Int), Decidable (COk n f)]

abbrev zc : Obj := .cells #[.int .i64 0, .int .i64 0] 25
set_option maxHeartbeats 2000000 in
set_option maxRecDepth 100000 in
theorem drawConfB (base g ca : Nat) (ao : Option Addr) (zs : List Int) (w : World) (hB : base ≤ w.heap.size) (h : Cur w base g ao ca zs) :
 Calls Tryz.prog 53 #[.pointer (some ⟨g, 0, none⟩)] w fun e w' => ∃ n f : Int, e = .returned (cv n f) ∧ (4 ≤ n ∧ n ≤ 7) ∧ (1 ≤ f ∧ f ≤ 3) ∧ Cur w' base g ao ca zs ∧ w.grownBy w' (some g) := by
 have hlt := h.lt
 obtain ⟨w0, hw0⟩ : ∃ w0, w.alloc zc = w0 := ⟨_, rfl⟩
 have C0 : Cur w0 base g ao ca zs := hw0 ▸ h.alloc hB _
 have G0 : w.grownBy w0 (some g) := hw0 ▸ World.grownBy_alloc w _ _
 have Z0 : Loc w0 w.heap.size #[.int .i64 0, .int .i64 0] := hw0 ▸ loc_at w _ _ rfl
 have s0 : w0.heap.size = w.heap.size + 1 := by rw [← hw0]; simp
 clear h
 go_enter Tryz.func53, Tryz.ntmps53
 go_wp2_with fail
 clear hw0
 refine (below_any base g ca ao zs 4 _ (by omega) (by omega) (by omega) C0).mono ?_
 rintro e w1 ⟨x, rfl, x0, x1, c1, e1⟩
 have Z1 := Z0.grown e1 (by omega)
 have G1 := grown_trans G0 e1
 have s1 := e1.size
 clear Z0 G0 C0 e1
 go_wp2_with fail
 refine (below_any base g ca ao zs 3 _ (by omega) (by omega) (by omega) c1).mono ?_
 rintro e w2 ⟨y, rfl, y0, y1, c2, e2⟩
 have Z2 := Z1.grown e2 (by omega)
 have G2 := grown_trans G1 e2
 have p0 := Z2.cell 0 rfl
 have p1 := Z2.cell 1 rfl
 have fp := Z2.frozen
 have HC := hide c2
 clear Z1 G1 c1 e2 c2
 go_wp2
 refine bodyPost_ret (v := cv (4 + x) (1 + y)) (by simp [results, Tryz.results53, go_sem, p0, p1]) rfl ?_
 exact ⟨_, _, rfl, ⟨by omega, by omega⟩, ⟨by omega, by omega⟩, ((unhide HC).set (by omega) _ _).set (by omega) _ _, grown_set (grown_set G2 (Nat.le_refl _) _ _) (Nat.le_refl _) _ _⟩

theorem drawConf (base g ca : Nat) (ao : Option Addr) (zs : List Int) (w : World) (hB : base ≤ w.heap.size) (h : Cur w base g ao ca zs) :
 Calls Tryz.prog 53 #[.pointer (some ⟨g, 0, none⟩)] w fun e w' => ∃ n f : Int, e = .returned (cv n f) ∧ (4 ≤ n ∧ n ≤ 7) ∧ Cur w' base g ao ca zs ∧ w.grownBy w' (some g) :=
 (drawConfB base g ca ao zs w hB h).mono fun _ _ ⟨n, f, he, hn, _, hr⟩ => ⟨n, f, he, hn, hr⟩

set_option maxHeartbeats 4000000 in
set_option maxRecDepth 100000 in
theorem drawBentB (base g ca : Nat) (ao : Option Addr) (zs : List Int) (w : World) (hB : base ≤ w.heap.size) (h : Cur w base g ao ca zs) :
 Calls Tryz.prog 99 #[.pointer (some ⟨g, 0, none⟩)] w fun e w' => ∃ n f : Int, e = .returned (cv n f) ∧ n ≤ 8 ∧ Cur w' base g ao ca zs ∧ w.grownBy w' (some g) := by
 have hlt := h.lt
 obtain ⟨w0, hw0⟩ : ∃ w0, w.alloc zc = w0 := ⟨_, rfl⟩
 have C0 : Cur w0 base g ao ca zs := hw0 ▸ h.alloc hB _
 have G0 : w.grownBy w0 (some g) := hw0 ▸ World.grownBy_alloc w _ _
 have Z0 : Loc w0 w.heap.size #[.int .i64 0, .int .i64 0] := hw0 ▸ loc_at w _ _ rfl
 have s0 : w0.heap.size = w.heap.size + 1 := by rw [← hw0]; simp
 clear h
 go_enter Tryz.func99, Tryz.ntmps99
 go_wp2_with fail
 clear hw0
 refine (drawConf base g ca ao zs _ (by omega) C0).mono ?_
 rintro e w1 ⟨n, f, rfl, hn, c1, e1⟩
 have hn8 : n ≤ 8 := by omega
 clear hn
 have Z1 := Z0.grown e1 (by omega)
 have G1 := grown_trans G0 e1
 have s1 := e1.size
 clear Z0 G0 C0 e1
 obtain ⟨w2, hw2⟩ : ∃ w2, w1.alloc (.cells #[.int .i64 n, .int .i64 f] 25) = w2 := ⟨_, rfl⟩
 have C2 : Cur w2 base g ao ca zs := hw2 ▸ c1.alloc (by omega) _
 have G2 : w.grownBy w2 (some g) := hw2 ▸ grown_trans G1 (World.grownBy_alloc w1 _ _)
 have Z2 : Loc w2 w.heap.size #[.int .i64 0, .int .i64 0] := hw2 ▸ Z1.alloc _
 have X2 : Loc w2 w1.heap.size #[.int .i64 n, .int .i64 f] := hw2 ▸ loc_at w1 _ _ rfl
 have s2 : w2.heap.size = w1.heap.size + 1 := by rw [← hw2]; simp
 clear c1 G1 Z1
 go_wp2_with fail
 clear hw2
 refine (below_any base g ca ao zs 12 _ (by omega) (by omega) (by omega) C2).mono ?_
 rintro e w3 ⟨k, rfl, k0, k1, c3, e3⟩
 have Z3 := Z2.grown e3 (by omega)
 have X3 := X2.grown e3 (by omega)
 have G3 := grown_trans G2 e3
 have s3 := e3.size
 clear Z2 X2 G2 C2 e3
 have FIN : ∀ (n f : Int) (w4 : World), Cur w4 base g ao ca zs → w.grownBy w4 (some g) → Cur ((w4.setCell ⟨w.heap.size, 0, none⟩ (.int .i64 n)).setCell ⟨w.heap.size, 1, none⟩ (.int .i64 f)) base g ao ca zs ∧ w.grownBy ((w4.setCell ⟨w.heap.size, 0, none⟩ (.int .i64 n)).setCell ⟨w.heap.size, 1, none⟩ (.int .i64 f)) (some g) := fun n f w4 hc hg =>
  ⟨(hc.set (by omega) _ _).set (by omega) _ _, grown_set (grown_set hg (Nat.le_refl _) _ _) (Nat.le_refl _) _ _⟩
 have FI := hide FIN
 clear FIN
 by_cases h0 : k = 0
 ·subst h0
  go_wp2_with fail
  refine (pickInt_lit base g ca ao zs [0, 3, 8, -1] w3 (by omega) (by decide) (by decide) c3).mono ?_
  rintro e w4 ⟨m, rfl, hm, c4, e4⟩
  have hm8 : m ≤ 8 := by simp at hm; omega
  clear hm
  have Z4 := Z3.grown e4 (by omega)
  have X4 := X3.grown e4 (by omega)
  have R := hide (unhide FI m f (w4.setCell ⟨w1.heap.size, 0, none⟩ (.int .i64 m)) (c4.set (by omega) _ _) (grown_set (grown_trans G3 e4) (by omega) _ _))
  have p0 := Z4.cell 0 rfl
  have p1 := Z4.cell 1 rfl
  have fp := Z4.frozen
  have q0 := X4.cell 0 rfl
  have q1 := X4.cell 1 rfl
  have fq := X4.frozen
  clear Z3 X3 G3 c3 c4 e4 Z4 X4 FI
  go_wp2
  refine bodyPost_ret (v := cv m f) (by simp [results, Tryz.results99, go_sem, p0, p1]) rfl ?_
  exact ⟨_, _, rfl, hm8, (unhide R).1, (unhide R).2⟩
 ·have n0 : (k == 0) = false := by simp [h0]
  by_cases h1 : k = 1
  ·subst h1
   clear h0
   go_wp2_with fail
   refine (pickInt_lit base g ca ao zs [0, 6, 7] w3 (by omega) (by decide) (by decide) c3).mono ?_
   rintro e w4 ⟨m, rfl, _, c4, e4⟩
   have Z4 := Z3.grown e4 (by omega)
   have X4 := X3.grown e4 (by omega)
   have R := hide (unhide FI n m (w4.setCell ⟨w1.heap.size, 1, none⟩ (.int .i64 m)) (c4.set (by omega) _ _) (grown_set (grown_trans G3 e4) (by omega) _ _))
   have p0 := Z4.cell 0 rfl
   have p1 := Z4.cell 1 rfl
   have fp := Z4.frozen
   have q0 := X4.cell 0 rfl
   have q1 := X4.cell 1 rfl
   have fq := X4.frozen
   clear Z3 X3 G3 c3 c4 e4 Z4 X4 FI
   go_wp2
   refine bodyPost_ret (v := cv n m) (by simp [results, Tryz.results99, go_sem, p0, p1]) rfl ?_
   exact ⟨_, _, rfl, hn8, (unhide R).1, (unhide R).2⟩
  ·have n1 : (k == 1) = false := by simp [h1]
   have R := hide (unhide FI n f w3 c3 G3)
   have p0 := Z3.cell 0 rfl
   have p1 := Z3.cell 1 rfl
   have fp := Z3.frozen
   have q0 := X3.cell 0 rfl
   have q1 := X3.cell 1 rfl
   clear Z3 X3 G3 c3 FI
   go_wp2
   refine bodyPost_ret (v := cv n f) (by simp [results, Tryz.results99, go_sem, p0, p1]) rfl ?_
   exact ⟨_, _, rfl, hn8, (unhide R).1, (unhide R).2⟩
end Go.Proofs.YtmpmedbojfjnaaaGreatDoor
namespace Go.Proofs.YtmpmedbojfjnaaaGreatDoor
open Go.RowKit

def fromL (f : Int) (k : Nat) : List Int := (List.range k).map fun (i : Nat) => f + (i : Int)
theorem fromL_len (f : Int) (k : Nat) : (fromL f k).length = k := by simp [fromL]
theorem fromL_succ (f : Int) (k : Nat) : fromL f (k + 1) = fromL f k ++ [f + (k : Int)] := by simp [fromL, List.range_succ]
theorem fromL_ok {n f : Int} {k : Nat} (h0 : 0 ≤ f) (h : f + (k : Int) ≤ n) : OkL n (fromL f k) := by
 refine ⟨fun x hx => ?_, ?_⟩
 ·obtain ⟨i, hi, rfl⟩ := List.mem_map.1 hx
  have := List.mem_range.1 hi
  omega
 ·unfold fromL
  rw [List.pairwise_map]
  exact List.pairwise_lt_range.imp fun h => by omega
theorem wf_ok {n : Int} {xs : List Int} (hn : n ≤ 256) (h : OkL n xs) : WfL xs := fun x hx => wf_small (by have := h.1 x hx; omega) (by have := h.1 x hx; omega)
theorem WfL.sub {xs ys : List Int} (h : WfL xs) (hs : ∀ y ∈ ys, y ∈ xs) : WfL ys := fun y hy => h y (hs y hy)
end Go.Proofs.YtmpmedbojfjnaaaGreatDoor
namespace Go.Proofs.YtmpmedbojfjnaaaGreatDoor
open Go.RowKit
set_option linter.unusedSectionVars false
variable [∀ (a b c d : Int), Decidable (Ok4 a b c d)]
variable [∀ (a b c d : Nat), Decidable (okN a b c d)]

abbrev St := Int × List T4
abbrev zst : St := (0, [])
def stepOf (p : ByteArray) : Option St :=
 if (124 : UInt8) ∈ p.data.toList then (numOf (hd 124 p.data.toList)).bind fun n => (txsAns (toB (tl 124 p.data.toList))).map fun ts => ((n : Int), ts) else none
def GoodSt (last : Int) (s : St) : Prop := last < s.1 ∧ s.1 ≤ 60 ∧ s.2.length ≤ 2
variable [∀ (last : Int) (s : St), Decidable (GoodSt last s)]
def stepAcc (o : Option (Int × List St)) (p : ByteArray) : Option (Int × List St) := o.bind fun q => (stepOf p).bind fun s => if GoodSt q.1 s then some (s.1, q.2 ++ [s]) else none
def stepsRun (ps : List ByteArray) : Option (Int × List St) := ps.foldl stepAcc (some (0, []))
def stepsAns (s : ByteArray) : Option (List St) :=
 if s = ⟨#[]⟩ then some []
 else if (splitAns s 47).getD 0 ByteArray.empty = ⟨#[]⟩ ∧ (splitAns s 47).length ≤ 31 then (stepsRun (splitAns s 47).tail).map (·.2) else none
theorem stepsRun_more (ps : List ByteArray) (p : ByteArray) : stepsRun (ps ++ [p]) = stepAcc (stepsRun ps) p := by
 unfold stepsRun; rw [List.foldl_append]; rfl
theorem acc_none (ps : List ByteArray) : ps.foldl stepAcc none = none := by
 induction ps with
 | nil => rfl
 | cons p ps ih => rw [List.foldl_cons]; exact ih
theorem stepsRun_none {ps : List ByteArray} (k : Nat) (h : stepsRun (ps.take k) = none) : stepsRun ps = none := by
 have e : stepsRun ps = (ps.drop k).foldl stepAcc (stepsRun (ps.take k)) := by
  unfold stepsRun
  rw [← List.foldl_append, List.take_append_drop]
 rw [e, h]
 exact acc_none _
theorem stepsRun_ok (ps : List ByteArray) (q : Int × List St) (h : stepsRun ps = some q) : q.2.length = ps.length ∧ (0 ≤ q.1 ∧ q.1 ≤ 60) ∧ (ps.length : Int) ≤ q.1 ∧ ∀ s ∈ q.2, (1 ≤ s.1 ∧ s.1 ≤ q.1) ∧ s.2.length ≤ 2 := by
 generalize hn : ps.length = n
 induction n generalizing ps q with
 | zero =>
  have : ps = [] := List.length_eq_zero_iff.1 hn
  subst this
  cases h
  exact ⟨rfl, by simp, by simp, fun s hs => by simp at hs⟩
 | succ n ih =>
  obtain ⟨ps', p, rfl⟩ : ∃ ps' p, ps = ps' ++ [p] := ⟨ps.dropLast, ps.getLast (fun e => by rw [e] at hn; simp at hn), (List.dropLast_concat_getLast _).symm⟩
  rw [stepsRun_more] at h
  unfold stepAcc at h
  cases hr : stepsRun ps' with
  | none => rw [hr] at h; cases h
  | some q' =>
   rw [hr] at h
   cases hs : stepOf p with
   | none => rw [hs] at h; simp at h
   | some s =>
    rw [hs] at h
    simp only [Option.bind_some] at h
    split at h
    ·rename_i hg
     cases h
     obtain ⟨h1, h2, h3, h4⟩ := ih ps' q' hr (by simpa using hn)
     obtain ⟨g1, g2, g3⟩ := hg
     refine ⟨by simp [h1], ⟨by show 0 ≤ s.1; omega, g2⟩, by show (((n + 1 : Nat)) : Int) ≤ s.1; omega, fun y hy => ?_⟩
     rcases List.mem_append.1 hy with hy | hy
     ·obtain ⟨⟨a1, a2⟩, a3⟩ := h4 y hy
      exact ⟨⟨a1, by show y.1 ≤ s.1; omega⟩, a3⟩
     ·simp at hy
      subst hy
      exact ⟨⟨by omega, Int.le_refl _⟩, g3⟩
    ·cases h
end Go.Proofs.YtmpmedbojfjnaaaGreatDoor
namespace Go.Proofs.YtmpmedbojfjnaaaGreatDoor
open Go.RowKit
set_option linter.unusedSectionVars false
variable [∀ (a b c d : Int), Decidable (Ok4 a b c d)]
variable [∀ (a b c d : Nat), Decidable (okN a b c d)]
variable [∀ (last : Int) (s : St), Decidable (GoodSt last s)]

theorem Tryz.infoSt : (Tryz.prog.info? 98).map (fun i => (i.zero, i.size, i.bytes)) = some (some (.agg #[.int .i64 0, .slice none 0 0]), 2, 32) := by kernel_rfl
def scell (p : Int × Value) : List Value := [.int .i64 p.1, p.2]
def scells (ps : List (Int × Value)) : List Value := ps.flatMap scell
theorem scells_append (ps qs : List (Int × Value)) : scells (ps ++ qs) = scells ps ++ scells qs := by simp [scells]
theorem scells_get (ps : List (Int × Value)) (k j : Nat) (hk : k < ps.length) (hj : j < 2) : (scells ps)[k * 2 + j]? = (scell (ps.getD k (0, .slice none 0 0)))[j]? := by
 induction ps generalizing k with
 | nil => simp at hk
 | cons p ps ih =>
  have e : scells (p :: ps) = scell p ++ scells ps := by simp [scells]
  rw [e]
  cases k with
  | zero => rw [Nat.zero_mul, Nat.zero_add, List.getElem?_append_left (by simp [scell]; exact hj)]; rfl
  | succ k =>
   rw [List.getElem?_append_right (by simp [scell]; omega), show (scell p).length = 2 from rfl, show (k + 1) * 2 + j - 2 = k * 2 + j from by omega, ih k (by simpa using hk)]
   rfl
structure OStV (w : World) (base : Nat) (v : Value) (ss : List St) (vs : List Value) : Prop where
 len : vs.length = ss.length
 row : w.ownsRow base 98 2 v ss.length (scells ((ss.map (·.1)).zip vs))
 each : ∀ k, k < ss.length → OT w base (vs.getD k (.slice none 0 0)) (ss.getD k zst).2
 apart : ∀ i j, i < j → j < ss.length → ∀ b, (vs.getD i (.slice none 0 0)).ownBlock = some b → (vs.getD j (.slice none 0 0)).ownBlock ≠ some b
def OSt (w : World) (base : Nat) (v : Value) (ss : List St) : Prop := ∃ vs, OStV w base v ss vs
theorem st_ot {w : World} {B B' n : Nat} {v u : Value} {cs : List Value} {ys : List T4} (h : w.ownsRow B 98 2 v n cs) (h' : OT w B' u ys) (b : Nat) (hv : v.ownBlock = some b) : u.ownBlock ≠ some b := by
 rcases h.2 with ⟨rfl, _⟩ | ⟨g, cap, cur, rfl, _, hg, _⟩
 ·simp [Value.ownBlock] at hv
 ·rcases h'.2 with ⟨rfl, _⟩ | ⟨g', cap', cur', rfl, _, hg', _⟩
  ·simp [Value.ownBlock]
  ·intro e
   simp [Value.ownBlock] at e hv
   subst hv
   rw [e, hg] at hg'
   simp at hg'
theorem OStV.below {w w' : World} {base : Nat} {v : Value} {ss : List St} {vs : List Value} (h : OStV w base v ss vs) (hb : Below w.heap.size w w') : OStV w' base v ss vs :=
 ⟨h.len, World.ownsRow.kept (row := none) h.row ⟨hb.os, hb.tape, hb.output, hb.size, fun k hk _ => hb.block k hk⟩ (by cases v.ownBlock <;> simp), fun k hk => (h.each k hk).below hb, h.apart⟩
theorem OSt.below {w w' : World} {base : Nat} {v : Value} {ss : List St} (h : OSt w base v ss) (hb : Below w.heap.size w w') : OSt w' base v ss := by
 obtain ⟨vs, h⟩ := h; exact ⟨vs, h.below hb⟩
theorem ost_nil (w : World) (base : Nat) : OSt w base (.slice none 0 0) [] := ⟨[], rfl, World.ownsRow_nil _ _ _ _, fun k hk => by simp at hk, fun i j _ hj => by simp at hj⟩
theorem OSt.form {w : World} {base : Nat} {v : Value} {ss : List St} (h : OSt w base v ss) : ∃ ao ca, v = .slice ao ss.length ca := by
 obtain ⟨vs, h⟩ := h
 rcases h.row.2 with ⟨rfl, h0⟩ | ⟨g, cap, cur, rfl, _⟩
 ·exact ⟨none, 0, by rw [h0]⟩
 ·exact ⟨_, _, rfl⟩
def RSt (w : World) (v : Value) (ss : List St) : Prop :=
 ∃ ao cap, v = .slice ao ss.length cap ∧ (ss = [] ∨ ∃ g, ao = some ⟨g, 0, none⟩ ∧ ∀ k, k < ss.length → ∃ u, w.cell? ⟨g, k * 2, none⟩ = some (.int .i64 (ss.getD k zst).1) ∧ w.cell? ⟨g, k * 2 + 1, none⟩ = some u ∧ RT w u (ss.getD k zst).2)
theorem zip_get (ss : List St) (vs : List Value) (hl : vs.length = ss.length) (k : Nat) (hk : k < ss.length) : ((ss.map (·.1)).zip vs).getD k (0, .slice none 0 0) = ((ss.getD k zst).1, vs.getD k (.slice none 0 0)) := by
 rw [List.getD_eq_getElem?_getD, List.getElem?_eq_getElem (by simp; omega)]
 simp [List.getElem?_eq_getElem hk, List.getElem?_eq_getElem (show k < vs.length by omega)]
theorem OSt.rst {w : World} {base : Nat} {v : Value} {ss : List St} (h : OSt w base v ss) (hs : ∀ s ∈ ss, s.2.length ≤ 35184372088832) : RSt w v ss := by
 obtain ⟨vs, h⟩ := h
 have hz : ((ss.map (·.1)).zip vs).length = ss.length := by simp [h.len]
 rcases h.row.2 with ⟨rfl, h0⟩ | ⟨g, cap, cur, rfl, _⟩
 ·exact ⟨none, 0, by rw [h0], .inl (List.length_eq_zero_iff.1 h0)⟩
 ·refine ⟨_, cap, rfl, .inr ⟨g, rfl, fun k hk => ?_⟩⟩
  have c0 := World.ownsRow.cellAt h.row (k * 2 + 0) (by omega)
  have c1 := World.ownsRow.cellAt h.row (k * 2 + 1) (by omega)
  rw [scells_get _ k _ (by omega) (by omega), zip_get ss vs h.len k hk] at c0 c1
  exact ⟨_, c0, c1, (h.each k hk).rt (hs _ (by rw [List.getD_eq_getElem?_getD, List.getElem?_eq_getElem hk]; exact List.getElem_mem hk))⟩
theorem RSt.below {w w' : World} {v : Value} {ss : List St} (h : RSt w v ss) (hb : Below w.heap.size w w') : RSt w' v ss := by
 obtain ⟨ao, cap, rfl, h⟩ := h
 refine ⟨ao, cap, rfl, ?_⟩
 rcases h with h | ⟨g, rfl, h⟩
 ·exact .inl h
 ·refine .inr ⟨g, rfl, fun k hk => ?_⟩
  obtain ⟨u, c0, c1, r⟩ := h k hk
  have hg : g < w.heap.size := cell_lt c0
  exact ⟨u, (hb.cell (p := ⟨g, k * 2, none⟩) hg).trans c0, (hb.cell (p := ⟨g, k * 2 + 1, none⟩) hg).trans c1, r.below hb⟩
theorem ost_more {w w' : World} {base N : Nat} {v v' : Value} {ss : List St} {vs : List Value} {n : Int} {u : Value} {ts : List T4} (h : OStV w base v ss vs) (hu : OT w N u ts) (hN : ∀ k, k < ss.length → ∀ b, (vs.getD k (.slice none 0 0)).ownBlock = some b → b < N) (hbN : base ≤ N)
 (hr : w'.ownsRow base 98 2 v' (ss.length + 1) (scells ((ss.map (·.1)).zip vs) ++ scell (n, u))) (hg : w.grownBy w' v.ownBlock) : OStV w' base v' (ss ++ [(n, ts)]) (vs ++ [u]) := by
 have keep : ∀ (x : Value) (zs : List T4) (B : Nat), OT w B x zs → OT w' B x zs := fun x zs B hx => World.ownsRow.kept hx hg (by
  cases hxo : x.ownBlock with
  | none => exact .inl rfl
  | some b => exact .inr fun e => st_ot h.row hx b e.symm hxo)
 refine ⟨by simp [h.len], ?_, fun k hk => ?_, fun i j hij hj b hb => ?_⟩
 ·have e : ((ss ++ [(n, ts)]).map (·.1)).zip (vs ++ [u]) = (ss.map (·.1)).zip vs ++ [(n, u)] := by
   rw [List.map_append, List.zip_append (by simp [h.len])]; rfl
  rw [e, scells_append, List.length_append]
  simpa [scells] using hr
 ·rw [List.length_append, List.length_singleton] at hk
  by_cases e : k < ss.length
  ·rw [List.getD_eq_getElem?_getD, List.getElem?_append_left (by rw [h.len]; exact e), ← List.getD_eq_getElem?_getD, List.getD_eq_getElem?_getD (l := ss ++ _), List.getElem?_append_left e, ← List.getD_eq_getElem?_getD]
   exact keep _ _ _ (h.each k e)
  ·obtain rfl : k = ss.length := by omega
   have e1 : (vs ++ [u]).getD ss.length (.slice none 0 0) = u := by rw [← h.len]; simp
   have e2 : (ss ++ [(n, ts)]).getD ss.length zst = (n, ts) := by simp
   rw [e1, e2]
   have hk' := keep _ _ _ hu
   refine ⟨hk'.1, ?_⟩
   rcases hk'.2 with hn | ⟨g, cap, cur, rfl, hgN, rest⟩
   ·exact .inl hn
   ·exact .inr ⟨g, cap, cur, rfl, Nat.le_trans hbN hgN, rest⟩
 ·rw [List.length_append, List.length_singleton] at hj
  have hi : i < ss.length := by omega
  rw [List.getD_eq_getElem?_getD, List.getElem?_append_left (by rw [h.len]; exact hi), ← List.getD_eq_getElem?_getD] at hb
  by_cases e : j < ss.length
  ·rw [List.getD_eq_getElem?_getD, List.getElem?_append_left (by rw [h.len]; exact e), ← List.getD_eq_getElem?_getD]
   exact h.apart i j hij e b hb
  ·obtain rfl : j = ss.length := by omega
   have e1 : (vs ++ [u]).getD ss.length (.slice none 0 0) = u := by rw [← h.len]; simp
   rw [e1]
   intro e3
   have := hN i hi b hb
   have := (World.ownsRow.lt hu b e3).1
   omega
end Go.Proofs.YtmpmedbojfjnaaaGreatDoor
