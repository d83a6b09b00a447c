/- DiskTear: what tear does to a drive; what told answers. -/
import Derived.Test.YtkjpjgecongkpaaDiskImpl
import Derived.Deep.DeepCutAuto
import Derived.RegionTactic
namespace Go.Proofs.Ytkjpjgecongkpaa
open Go.RowKit

set_option maxRecDepth 100000 in
theorem dcut_to (ao : Option Addr) (n ca k : Nat) (w : World) (hk : k ≤ ca) :
    (Instr.slice 22 (.slice ao n ca) none (some (.int .i64 (k : Int))) none).run Try.prog w = .ok (.slice ao k ca) w := by
  obtain ⟨i0, hi, hz0, hz1, hz2⟩ := info_parts Try.info5
  rw [run_slice_h (ht := Try.underlying22) (kh := .i64) (h := (k : Int)) (h0 := by omega) (h2 := by omega)]
  have he : Try.prog.elem 22 = 5 := by simp [Program.elem, Try.underlying22]
  have hs : (sizeOf (Try.prog.elem 22)).run Try.prog w = .ok 1 w := by rw [he]; simp [sizeOf, typeInfo, hi, hz1]
  rw [hs]
  simp [sliced, Result.andThen]
  intro _; cases ao <;> rfl
theorem RF.front {w : World} {g : Nat} {ao : Option Addr} {n ca : Nat} {xs : List Int} (h : RF w g (.slice ao n ca) xs) (k : Nat) (hk : k ≤ xs.length) : RF w g (.slice ao k ca) (xs.take k) := by
  obtain ⟨hl, a, c, e, hc, h⟩ := h
  injection e with e1 e2 e3
  subst e1 e3
  have ek : (xs.take k).length = k := by simp; omega
  refine ⟨by omega, ao, ca, by rw [ek], ⟨by omega, hc.2⟩, ?_⟩
  rcases h with h | ⟨b, off, e, hb, h⟩
  · subst h; exact .inl (by simp)
  · refine .inr ⟨b, off, e, hb, fun j hj => ?_⟩
    rw [ek] at hj
    rw [h j (by omega)]
    simp [hj]
/-- How many bytes are left behind a fall. -/
def fallN (n : Nat) (s keep : Int) : Nat := (s + min (max keep 0) ((n : Int) - s)).toNat
theorem fall_le {n : Nat} {s keep : Int} (h : dokB n s = true) : fallN n s keep ≤ n ∧ (fallN n s keep : Int) = s + min (max keep 0) ((n : Int) - s) := by
  obtain ⟨h1, h2, h3⟩ := dok_iff.1 h
  unfold fallN
  constructor <;> omega

set_option maxHeartbeats 4000000 in
set_option maxRecDepth 100000 in
theorem tear_yes (g : Nat) (ao : Option Addr) (n ca : Nat) (s keep : Int) (w : World) (h : Loc w g (drv 0 (.slice ao n ca) s 0)) (hd : dokB n s = true) (hc : n ≤ ca) :
    Calls Try.prog 31 #[.pointer (some ⟨g, 0, none⟩), .int .i64 keep] w fun e w' => e = .returned (.tuple #[]) ∧ Loc w' g (drv 0 (.slice ao (fallN n s keep) ca) s 0) ∧ Kp w w' (fun k => k = g) := by
  have LK := hide (lockL g (.slice ao n ca) s 0 w h)
  have DK := hide fun w => implDiskOk ao n ca s w
  rw [hd] at DK
  obtain ⟨h1, h2, h3⟩ := dok_iff.1 hd
  obtain ⟨f1, f2⟩ := fall_le (keep := keep) hd
  have hs1 : ∀ w, (Instr.slice 22 (.slice ao n ca) none (some (.int .i64 (fallN n s keep : Int))) none).run Try.prog w = .ok (.slice ao (fallN n s keep) ca) w := fun w => dcut_to ao n ca _ w (by omega)
  generalize fallN n s keep = k at *
  obtain ⟨u, hu⟩ : ∃ u, (n : Int) - s = u := ⟨_, rfl⟩
  have e3 : IntKind.i64.wrap ((n : Int) - s) = u := by rw [← hu, IntKind.wrap_i64]; omega
  obtain ⟨y, hy⟩ : ∃ y, (if keep < 0 then (0 : Int) else keep) = y := ⟨_, rfl⟩
  obtain ⟨x, hx⟩ : ∃ x, (if u < y then u else y) = x := ⟨_, rfl⟩
  have e2 : IntKind.i64.wrap (s + x) = (k : Int) := by
    rw [f2, IntKind.wrap_i64, ← hx, ← hy, ← hu]
    have : (if (n : Int) - s < (if keep < 0 then (0 : Int) else keep) then (n : Int) - s else (if keep < 0 then (0 : Int) else keep)) = min (max keep 0) ((n : Int) - s) := by
      split <;> split <;> omega
    rw [this]
    omega
  clear h hd f2 hu hc h1 h2 h3 f1
  go_enter_defers Try.func31, Try.ntmps31
  go_wp2_with fail
  refine (unhide LK).mono ?_
  rintro e w1 ⟨rfl, L1, k1⟩
  have c2 := L1.cell 2 rfl
  have c3 := L1.cell 3 rfl
  go_wp2_with fail
  refine (unhide DK _).mono ?_
  rintro e w2 ⟨rfl, b2⟩
  have L2 := L1.below b2 L1.lt
  have K2 := k1.trans (Below.kpOf b2 _)
  clear L1 k1 b2 c2 c3 LK DK
  have c2 := L2.cell 2 rfl
  have c3 := L2.cell 3 rfl
  go_wp2_with fail
  go_quiet (fail)
  clear c2 c3
  obtain ⟨w3, hw3⟩ : ∃ y, w2.drewN nq = y := ⟨_, rfl⟩
  have L3 : Loc w3 g (drv 1 (.slice ao n ca) s 0) := hw3 ▸ L2
  have K3 : Kp w w3 (fun k => k = g) := hw3 ▸ ⟨K2.os, K2.tape, K2.output, K2.size, K2.block⟩
  rw [hw3]
  clear hw3 L2 K2
  have c2 := L3.cell 2 rfl
  have c3 := L3.cell 3 rfl
  have f2 := L3.frozen 2
  go_upto_region 5 with fail
  go_region
  obtain ⟨w4, hw4⟩ : ∃ y, (w3.setCell ⟨g, 2, none⟩ (.slice ao k ca)).drew = y := ⟨_, rfl⟩
  have L4 : Loc w4 g (drv 1 (.slice ao k ca) s 0) := hw4 ▸ Loc.drewN (L3.set 2 _ rfl) 1
  have K4 : Kp w3 w4 (fun k => k = g) := hw4 ▸ (set_kp _ _ _ _).trans (Below.kpOf (Below.drew (Below.refl _ _)) _)
  rw [hw4]
  clear hw4
  go_wp2
  refine leaves_cons (f := 45) (args := #[.pointer (some ⟨g, 0, none⟩)]) (by simp) (by simp [go_sem]) ?_
  refine (unlockL g (.slice ao k ca) s 0 .returning _ L4).mono ?_
  rintro e u' w5 ⟨rfl, rfl, L5, k5⟩
  exact ⟨_, results_none rfl _ _ _, rfl, L5, (K3.trans K4).trans k5⟩
set_option maxHeartbeats 4000000 in
set_option maxRecDepth 100000 in
theorem tear_no (g : Nat) (ao : Option Addr) (n ca : Nat) (s keep : Int) (w : World) (h : Loc w g (drv 0 (.slice ao n ca) s 0)) (hd : dokB n s = false) :
    Calls Try.prog 31 #[.pointer (some ⟨g, 0, none⟩), .int .i64 keep] w fun e w' => e = .returned (.tuple #[]) ∧ Loc w' g (drv 0 (.slice ao n ca) s 0) ∧ Kp w w' (fun k => k = g) := by
  have LK := hide (lockL g (.slice ao n ca) s 0 w h)
  have DK := hide fun w => implDiskOk ao n ca s w
  rw [hd] at DK
  clear h hd
  go_enter_defers Try.func31, Try.ntmps31
  go_wp2_with fail
  refine (unhide LK).mono ?_
  rintro e w1 ⟨rfl, L1, k1⟩
  have c2 := L1.cell 2 rfl
  have c3 := L1.cell 3 rfl
  go_wp2_with fail
  refine (unhide DK _).mono ?_
  rintro e w2 ⟨rfl, b2⟩
  have L2 := L1.below b2 L1.lt
  have K2 := k1.trans (Below.kpOf b2 _)
  clear L1 k1 b2 c2 c3 LK DK
  go_wp2
  refine leaves_cons (f := 45) (args := #[.pointer (some ⟨g, 0, none⟩)]) (by simp) (by simp [go_sem]) ?_
  refine (unlockL g (.slice ao n ca) s 0 .returning _ L2).mono ?_
  rintro e u' w4 ⟨rfl, rfl, L4, k4⟩
  exact ⟨_, results_none rfl _ _ _, rfl, L4, K2.trans k4⟩
end Go.Proofs.Ytkjpjgecongkpaa
