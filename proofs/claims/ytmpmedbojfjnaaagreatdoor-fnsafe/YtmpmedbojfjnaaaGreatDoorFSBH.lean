/- MayVote and Vote of the program and of the specification. -/
import Derived.Test.YtmpmedbojfjnaaaGreatDoorFSBE
import Derived.Test.YtmpmedbojfjnaaaGreatDoorFSBF
import Derived.Test.YtmpmedbojfjnaaaGreatDoorFSBB
namespace Go.Proofs.YtmpmedbojfjnaaaGreatDoor
open Go.RowKit
set_option linter.unusedSectionVars false
variable [∀ (a b c d : Int), Decidable (Ok4 a b c d)]
variable [∀ (a b c d : Nat), Decidable (okN a b c d)]
variable [∀ (last : Int) (s : St), Decidable (GoodSt last s)]
variable [∀ (x : T4), Decidable (OkT x)]
variable [∀ (n : Int) (s : List Int), Decidable (OkL n s)]
variable [∀ (n f : Int), Decidable (COk n f)]

set_option maxHeartbeats 16000000 in
set_option maxRecDepth 100000 in
theorem allows_any (vo lo v : Int) (s : ByteArray) (ua : Option Addr) (na qa : Nat) (d m : ByteArray) (v' : Int) (s' : ByteArray) (ub : Option Addr) (nb qb : Nat) (w : World) (hm : m.size ≤ 33554432) (hE : Env w) :
 Calls Tryz.prog 80 #[sv vo lo v s (.slice ua na qa) d, bv m v' s' (.slice ub nb qb)] w fun e w' => e = .returned (.bool (decide (vo < viewAns m) && decide (lo ≤ v'))) ∧ Below w.heap.size w w' := by
 have VO := hide fun w' (h : Below w.heap.size w w') => implViewOf m w' hm (hE.below h)
 generalize viewAns m = vw at *
 clear hE
 by_cases h1 : vo < vw
 ·have e1 : decide (vo < vw) = true := by simpa using h1
  rw [e1]
  simp only [Bool.true_and]
  by_cases h2 : lo ≤ v'
  ·have e2 : decide (lo ≤ v') = true := by simpa using h2
   rw [e2]
   clear h1 h2
   obtain ⟨w0, hw0⟩ : ∃ w0, ((w.alloc (.cells #[.int .i64 vo, .int .i64 lo, .int .i64 v, .string s, .slice ua na qa, .string d] 30)).alloc (.cells #[.string m, .int .i64 v', .string s', .slice ub nb qb] 35)) = w0 := ⟨_, rfl⟩
   have Bw0 : Below w.heap.size w w0 := hw0 ▸ ((Below.refl _ _).alloc (Nat.le_refl _) _).alloc (by simp) _
   have LS : Loc w0 (w.heap.size) #[.int .i64 vo, .int .i64 lo, .int .i64 v, .string s, .slice ua na qa, .string d] := hw0 ▸ (loc_at (w) _ _ rfl).alloc _
   have LB : Loc w0 (w.heap.size + 1) #[.string m, .int .i64 v', .string s', .slice ub nb qb] := hw0 ▸ loc_at (w.alloc _) _ _ (by simp)
   have zw0 : w.heap.size + 1 + 1 ≤ w0.heap.size := by rw [← hw0]; simp
   go_enter Tryz.func80, Tryz.ntmps80
   have K : Hid (∀ w', Below w0.heap.size w0 w' → (fun w' => Below w0.heap.size w0 w' ∧ (w'.cell? ⟨w.heap.size, 0, none⟩ = some (.int .i64 vo) ∧ w'.cell? ⟨w.heap.size, 1, none⟩ = some (.int .i64 lo) ∧ w'.cell? ⟨w.heap.size, 2, none⟩ = some (.int .i64 v) ∧ w'.cell? ⟨w.heap.size, 3, none⟩ = some (.string s) ∧ w'.cell? ⟨w.heap.size, 4, none⟩ = some (.slice ua na qa) ∧ w'.cell? ⟨w.heap.size, 5, none⟩ = some (.string d)) ∧ (w'.cell? ⟨w.heap.size + 1, 0, none⟩ = some (.string m) ∧ w'.cell? ⟨w.heap.size + 1, 1, none⟩ = some (.int .i64 v') ∧ w'.cell? ⟨w.heap.size + 1, 2, none⟩ = some (.string s') ∧ w'.cell? ⟨w.heap.size + 1, 3, none⟩ = some (.slice ub nb qb))) w') := hide fun w' hb' => ⟨hb', ⟨(LS.below hb' LS.lt).cell 0 rfl, (LS.below hb' LS.lt).cell 1 rfl, (LS.below hb' LS.lt).cell 2 rfl, (LS.below hb' LS.lt).cell 3 rfl, (LS.below hb' LS.lt).cell 4 rfl, (LS.below hb' LS.lt).cell 5 rfl⟩, ⟨(LB.below hb' LB.lt).cell 0 rfl, (LB.below hb' LB.lt).cell 1 rfl, (LB.below hb' LB.lt).cell 2 rfl, (LB.below hb' LB.lt).cell 3 rfl⟩⟩
   go_upto_region 1 with fail
   clear hw0
   have bA : Below w0.heap.size w0 w0.drew := Below.drew (Below.refl _ _)
   refine wp_region_noPanic ?_
   refine wp_region_held_drew (S := fun w' => Below w0.heap.size w0 w' ∧ (w'.cell? ⟨w.heap.size, 0, none⟩ = some (.int .i64 vo) ∧ w'.cell? ⟨w.heap.size, 1, none⟩ = some (.int .i64 lo) ∧ w'.cell? ⟨w.heap.size, 2, none⟩ = some (.int .i64 v) ∧ w'.cell? ⟨w.heap.size, 3, none⟩ = some (.string s) ∧ w'.cell? ⟨w.heap.size, 4, none⟩ = some (.slice ua na qa) ∧ w'.cell? ⟨w.heap.size, 5, none⟩ = some (.string d)) ∧ (w'.cell? ⟨w.heap.size + 1, 0, none⟩ = some (.string m) ∧ w'.cell? ⟨w.heap.size + 1, 1, none⟩ = some (.int .i64 v') ∧ w'.cell? ⟨w.heap.size + 1, 2, none⟩ = some (.string s') ∧ w'.cell? ⟨w.heap.size + 1, 3, none⟩ = some (.slice ub nb qb))) (by kernel_rfl) (unhide K _ bA) (fun hHeld => ?_)
   refine tk 0 5 (v := ?_) rfl (hy := .inl ⟨by rfl, ?_⟩) (h := ?_); rotate_left
   ·intro w hSw; (try dsimp only at hSw); go_simp; (try with_reducible rfl)
   simp only [ps]
   refine tk 3 8 (v := ?_) rfl (hy := .inl ⟨by rfl, ?_⟩) (h := ?_); rotate_left
   ·intro w hSw; (try dsimp only at hSw); go_simp; (try with_reducible rfl)
   simp only [ps]
   refine tk 1 6 (v := ?_) rfl (hy := .inl ⟨by rfl, ?_⟩) (h := ?_); rotate_left
   ·intro w hSw; (try dsimp only at hSw); go_simp; (try with_reducible rfl)
   simp only [ps]
   refine tk 4 9 (v := ?_) rfl (hy := .inl ⟨by rfl, ?_⟩) (h := ?_); rotate_left
   ·intro w hSw; (try dsimp only at hSw); go_simp; (try with_reducible rfl)
   simp only [ps]
   refine ready_at (i := 2) rfl (by kernel_rfl) (fun KK hKK => ?_)
   go_simp
   have hgo := bA
   refine (unhide VO _ (Bw0.trans (hgo.mono Bw0.size))).mono ?_
   rintro e wz1_1 ⟨rfl, bb⟩
   have bz1 : Below w0.heap.size w0 wz1_1 := bA.trans (bb.mono bA.size)
   clear bA hgo bb
   clear hHeld
   refine hKK.out _ _ (unhide K _ bz1) (fun hHeld => ?_)
   clear hKK KK
   refine tk 5 10 (v := ?_) rfl (hy := .inl ⟨by rfl, ?_⟩) (h := ?_); rotate_left
   ·intro w hSw; (try dsimp only at hSw); go_simp; (try with_reducible rfl)
   simp only [ps]
   refine tk 6 11 (v := ?_) rfl (hy := .inl ⟨by rfl, ?_⟩) (h := ?_); rotate_left
   ·intro w hSw; (try dsimp only at hSw); go_simp; (try with_reducible rfl)
   simp only [ps]
   refine tk 7 12 (v := ?_) rfl (hy := .inl ⟨by rfl, ?_⟩) (h := ?_); rotate_left
   ·intro w hSw; (try dsimp only at hSw); go_simp; (try with_reducible rfl)
   simp only [ps]
   refine tk 10 15 (v := ?_) rfl (hy := .inl ⟨by rfl, ?_⟩) (h := ?_); rotate_left
   ·intro w hSw; (try dsimp only at hSw); go_simp; (try with_reducible rfl)
   simp only [ps]
   refine tk 8 13 (v := ?_) rfl (hy := .inl ⟨by rfl, ?_⟩) (h := ?_); rotate_left
   ·intro w hSw; (try dsimp only at hSw); go_simp; (try with_reducible rfl)
   simp only [ps]
   refine tk 11 16 (v := ?_) rfl (hy := .inl ⟨by rfl, ?_⟩) (h := ?_); rotate_left
   ·intro w hSw; (try dsimp only at hSw); go_simp; (try with_reducible rfl)
   simp only [ps]
   refine tk 9 14 (v := ?_) rfl (hy := .inl ⟨by rfl, ?_⟩) (h := ?_); rotate_left
   ·intro w hSw; (try dsimp only at hSw); go_simp; (try with_reducible rfl)
   simp only [ps]
   refine tk 12 17 (v := ?_) rfl (hy := .inl ⟨by rfl, ?_⟩) (h := ?_); rotate_left
   ·intro w hSw; (try dsimp only at hSw); go_simp; (try with_reducible rfl)
   simp only [ps]
   refine tk 13 18 (v := ?_) rfl (hy := .inl ⟨by rfl, ?_⟩) (h := ?_); rotate_left
   ·intro w hSw; (try dsimp only at hSw); go_simp; (try with_reducible rfl)
   simp only [ps]
   refine tk 14 4 (v := ?_) rfl (hy := .inl ⟨by rfl, ?_⟩) (h := ?_); rotate_left
   ·intro w hSw; (try dsimp only at hSw); go_simp; (try with_reducible rfl)
   simp only [ps]
   clear hHeld
   refine wpAnyH_done (by kernel_rfl) ?_ _
   refine NoPanic.normal ?_
   have bb := bz1
   have Bwz1_1 := Bw0.trans (bb.mono Bw0.size)
   have swz1_1 := bb.size
   replace LS := LS.below bb LS.lt
   replace LB := LB.below bb LB.lt
   clear Bw0
   clear bb bz1 K
   go_wp2
   go_ret
   exact ⟨rfl, Bwz1_1⟩
  ·have e2 : decide (lo ≤ v') = false := by simpa using h2
   rw [e2]
   clear h1 h2
   obtain ⟨w0, hw0⟩ : ∃ w0, ((w.alloc (.cells #[.int .i64 vo, .int .i64 lo, .int .i64 v, .string s, .slice ua na qa, .string d] 30)).alloc (.cells #[.string m, .int .i64 v', .string s', .slice ub nb qb] 35)) = w0 := ⟨_, rfl⟩
   have Bw0 : Below w.heap.size w w0 := hw0 ▸ ((Below.refl _ _).alloc (Nat.le_refl _) _).alloc (by simp) _
   have LS : Loc w0 (w.heap.size) #[.int .i64 vo, .int .i64 lo, .int .i64 v, .string s, .slice ua na qa, .string d] := hw0 ▸ (loc_at (w) _ _ rfl).alloc _
   have LB : Loc w0 (w.heap.size + 1) #[.string m, .int .i64 v', .string s', .slice ub nb qb] := hw0 ▸ loc_at (w.alloc _) _ _ (by simp)
   have zw0 : w.heap.size + 1 + 1 ≤ w0.heap.size := by rw [← hw0]; simp
   go_enter Tryz.func80, Tryz.ntmps80
   have K : Hid (∀ w', Below w0.heap.size w0 w' → (fun w' => Below w0.heap.size w0 w' ∧ (w'.cell? ⟨w.heap.size, 0, none⟩ = some (.int .i64 vo) ∧ w'.cell? ⟨w.heap.size, 1, none⟩ = some (.int .i64 lo) ∧ w'.cell? ⟨w.heap.size, 2, none⟩ = some (.int .i64 v) ∧ w'.cell? ⟨w.heap.size, 3, none⟩ = some (.string s) ∧ w'.cell? ⟨w.heap.size, 4, none⟩ = some (.slice ua na qa) ∧ w'.cell? ⟨w.heap.size, 5, none⟩ = some (.string d)) ∧ (w'.cell? ⟨w.heap.size + 1, 0, none⟩ = some (.string m) ∧ w'.cell? ⟨w.heap.size + 1, 1, none⟩ = some (.int .i64 v') ∧ w'.cell? ⟨w.heap.size + 1, 2, none⟩ = some (.string s') ∧ w'.cell? ⟨w.heap.size + 1, 3, none⟩ = some (.slice ub nb qb))) w') := hide fun w' hb' => ⟨hb', ⟨(LS.below hb' LS.lt).cell 0 rfl, (LS.below hb' LS.lt).cell 1 rfl, (LS.below hb' LS.lt).cell 2 rfl, (LS.below hb' LS.lt).cell 3 rfl, (LS.below hb' LS.lt).cell 4 rfl, (LS.below hb' LS.lt).cell 5 rfl⟩, ⟨(LB.below hb' LB.lt).cell 0 rfl, (LB.below hb' LB.lt).cell 1 rfl, (LB.below hb' LB.lt).cell 2 rfl, (LB.below hb' LB.lt).cell 3 rfl⟩⟩
   go_upto_region 1 with fail
   clear hw0
   have bA : Below w0.heap.size w0 w0.drew := Below.drew (Below.refl _ _)
   refine wp_region_noPanic ?_
   refine wp_region_held_drew (S := fun w' => Below w0.heap.size w0 w' ∧ (w'.cell? ⟨w.heap.size, 0, none⟩ = some (.int .i64 vo) ∧ w'.cell? ⟨w.heap.size, 1, none⟩ = some (.int .i64 lo) ∧ w'.cell? ⟨w.heap.size, 2, none⟩ = some (.int .i64 v) ∧ w'.cell? ⟨w.heap.size, 3, none⟩ = some (.string s) ∧ w'.cell? ⟨w.heap.size, 4, none⟩ = some (.slice ua na qa) ∧ w'.cell? ⟨w.heap.size, 5, none⟩ = some (.string d)) ∧ (w'.cell? ⟨w.heap.size + 1, 0, none⟩ = some (.string m) ∧ w'.cell? ⟨w.heap.size + 1, 1, none⟩ = some (.int .i64 v') ∧ w'.cell? ⟨w.heap.size + 1, 2, none⟩ = some (.string s') ∧ w'.cell? ⟨w.heap.size + 1, 3, none⟩ = some (.slice ub nb qb))) (by kernel_rfl) (unhide K _ bA) (fun hHeld => ?_)
   refine tk 0 5 (v := ?_) rfl (hy := .inl ⟨by rfl, ?_⟩) (h := ?_); rotate_left
   ·intro w hSw; (try dsimp only at hSw); go_simp; (try with_reducible rfl)
   simp only [ps]
   refine tk 3 8 (v := ?_) rfl (hy := .inl ⟨by rfl, ?_⟩) (h := ?_); rotate_left
   ·intro w hSw; (try dsimp only at hSw); go_simp; (try with_reducible rfl)
   simp only [ps]
   refine tk 1 6 (v := ?_) rfl (hy := .inl ⟨by rfl, ?_⟩) (h := ?_); rotate_left
   ·intro w hSw; (try dsimp only at hSw); go_simp; (try with_reducible rfl)
   simp only [ps]
   refine tk 4 9 (v := ?_) rfl (hy := .inl ⟨by rfl, ?_⟩) (h := ?_); rotate_left
   ·intro w hSw; (try dsimp only at hSw); go_simp; (try with_reducible rfl)
   simp only [ps]
   refine ready_at (i := 2) rfl (by kernel_rfl) (fun KK hKK => ?_)
   go_simp
   have hgo := bA
   refine (unhide VO _ (Bw0.trans (hgo.mono Bw0.size))).mono ?_
   rintro e wz1_1 ⟨rfl, bb⟩
   have bz1 : Below w0.heap.size w0 wz1_1 := bA.trans (bb.mono bA.size)
   clear bA hgo bb
   clear hHeld
   refine hKK.out _ _ (unhide K _ bz1) (fun hHeld => ?_)
   clear hKK KK
   refine tk 5 10 (v := ?_) rfl (hy := .inl ⟨by rfl, ?_⟩) (h := ?_); rotate_left
   ·intro w hSw; (try dsimp only at hSw); go_simp; (try with_reducible rfl)
   simp only [ps]
   refine tk 6 11 (v := ?_) rfl (hy := .inl ⟨by rfl, ?_⟩) (h := ?_); rotate_left
   ·intro w hSw; (try dsimp only at hSw); go_simp; (try with_reducible rfl)
   simp only [ps]
   refine tk 7 12 (v := ?_) rfl (hy := .inl ⟨by rfl, ?_⟩) (h := ?_); rotate_left
   ·intro w hSw; (try dsimp only at hSw); go_simp; (try with_reducible rfl)
   simp only [ps]
   refine tk 10 15 (v := ?_) rfl (hy := .inl ⟨by rfl, ?_⟩) (h := ?_); rotate_left
   ·intro w hSw; (try dsimp only at hSw); go_simp; (try with_reducible rfl)
   simp only [ps]
   refine tk 8 13 (v := ?_) rfl (hy := .inl ⟨by rfl, ?_⟩) (h := ?_); rotate_left
   ·intro w hSw; (try dsimp only at hSw); go_simp; (try with_reducible rfl)
   simp only [ps]
   refine tk 11 16 (v := ?_) rfl (hy := .inl ⟨by rfl, ?_⟩) (h := ?_); rotate_left
   ·intro w hSw; (try dsimp only at hSw); go_simp; (try with_reducible rfl)
   simp only [ps]
   refine tk 9 14 (v := ?_) rfl (hy := .inl ⟨by rfl, ?_⟩) (h := ?_); rotate_left
   ·intro w hSw; (try dsimp only at hSw); go_simp; (try with_reducible rfl)
   simp only [ps]
   refine tk 12 17 (v := ?_) rfl (hy := .inl ⟨by rfl, ?_⟩) (h := ?_); rotate_left
   ·intro w hSw; (try dsimp only at hSw); go_simp; (try with_reducible rfl)
   simp only [ps]
   refine tk 13 18 (v := ?_) rfl (hy := .inl ⟨by rfl, ?_⟩) (h := ?_); rotate_left
   ·intro w hSw; (try dsimp only at hSw); go_simp; (try with_reducible rfl)
   simp only [ps]
   refine tk 14 4 (v := ?_) rfl (hy := .inl ⟨by rfl, ?_⟩) (h := ?_); rotate_left
   ·intro w hSw; (try dsimp only at hSw); go_simp; (try with_reducible rfl)
   simp only [ps]
   clear hHeld
   refine wpAnyH_done (by kernel_rfl) ?_ _
   refine NoPanic.normal ?_
   have bb := bz1
   have Bwz1_1 := Bw0.trans (bb.mono Bw0.size)
   have swz1_1 := bb.size
   replace LS := LS.below bb LS.lt
   replace LB := LB.below bb LB.lt
   clear Bw0
   clear bb bz1 K
   go_wp2
   go_ret
   exact ⟨rfl, Bwz1_1⟩
 ·have e1 : decide (vo < vw) = false := by simpa using h1
  rw [e1]
  simp only [Bool.false_and]
  clear h1
  obtain ⟨w0, hw0⟩ : ∃ w0, ((w.alloc (.cells #[.int .i64 vo, .int .i64 lo, .int .i64 v, .string s, .slice ua na qa, .string d] 30)).alloc (.cells #[.string m, .int .i64 v', .string s', .slice ub nb qb] 35)) = w0 := ⟨_, rfl⟩
  have Bw0 : Below w.heap.size w w0 := hw0 ▸ ((Below.refl _ _).alloc (Nat.le_refl _) _).alloc (by simp) _
  have LS : Loc w0 (w.heap.size) #[.int .i64 vo, .int .i64 lo, .int .i64 v, .string s, .slice ua na qa, .string d] := hw0 ▸ (loc_at (w) _ _ rfl).alloc _
  have LB : Loc w0 (w.heap.size + 1) #[.string m, .int .i64 v', .string s', .slice ub nb qb] := hw0 ▸ loc_at (w.alloc _) _ _ (by simp)
  have zw0 : w.heap.size + 1 + 1 ≤ w0.heap.size := by rw [← hw0]; simp
  go_enter Tryz.func80, Tryz.ntmps80
  have K : Hid (∀ w', Below w0.heap.size w0 w' → (fun w' => Below w0.heap.size w0 w' ∧ (w'.cell? ⟨w.heap.size, 0, none⟩ = some (.int .i64 vo) ∧ w'.cell? ⟨w.heap.size, 1, none⟩ = some (.int .i64 lo) ∧ w'.cell? ⟨w.heap.size, 2, none⟩ = some (.int .i64 v) ∧ w'.cell? ⟨w.heap.size, 3, none⟩ = some (.string s) ∧ w'.cell? ⟨w.heap.size, 4, none⟩ = some (.slice ua na qa) ∧ w'.cell? ⟨w.heap.size, 5, none⟩ = some (.string d)) ∧ (w'.cell? ⟨w.heap.size + 1, 0, none⟩ = some (.string m) ∧ w'.cell? ⟨w.heap.size + 1, 1, none⟩ = some (.int .i64 v') ∧ w'.cell? ⟨w.heap.size + 1, 2, none⟩ = some (.string s') ∧ w'.cell? ⟨w.heap.size + 1, 3, none⟩ = some (.slice ub nb qb))) w') := hide fun w' hb' => ⟨hb', ⟨(LS.below hb' LS.lt).cell 0 rfl, (LS.below hb' LS.lt).cell 1 rfl, (LS.below hb' LS.lt).cell 2 rfl, (LS.below hb' LS.lt).cell 3 rfl, (LS.below hb' LS.lt).cell 4 rfl, (LS.below hb' LS.lt).cell 5 rfl⟩, ⟨(LB.below hb' LB.lt).cell 0 rfl, (LB.below hb' LB.lt).cell 1 rfl, (LB.below hb' LB.lt).cell 2 rfl, (LB.below hb' LB.lt).cell 3 rfl⟩⟩
  go_upto_region 1 with fail
  clear hw0
  have bA : Below w0.heap.size w0 w0.drew := Below.drew (Below.refl _ _)
  refine wp_region_noPanic ?_
  refine wp_region_held_drew (S := fun w' => Below w0.heap.size w0 w' ∧ (w'.cell? ⟨w.heap.size, 0, none⟩ = some (.int .i64 vo) ∧ w'.cell? ⟨w.heap.size, 1, none⟩ = some (.int .i64 lo) ∧ w'.cell? ⟨w.heap.size, 2, none⟩ = some (.int .i64 v) ∧ w'.cell? ⟨w.heap.size, 3, none⟩ = some (.string s) ∧ w'.cell? ⟨w.heap.size, 4, none⟩ = some (.slice ua na qa) ∧ w'.cell? ⟨w.heap.size, 5, none⟩ = some (.string d)) ∧ (w'.cell? ⟨w.heap.size + 1, 0, none⟩ = some (.string m) ∧ w'.cell? ⟨w.heap.size + 1, 1, none⟩ = some (.int .i64 v') ∧ w'.cell? ⟨w.heap.size + 1, 2, none⟩ = some (.string s') ∧ w'.cell? ⟨w.heap.size + 1, 3, none⟩ = some (.slice ub nb qb))) (by kernel_rfl) (unhide K _ bA) (fun hHeld => ?_)
  refine tk 0 5 (v := ?_) rfl (hy := .inl ⟨by rfl, ?_⟩) (h := ?_); rotate_left
  ·intro w hSw; (try dsimp only at hSw); go_simp; (try with_reducible rfl)
  simp only [ps]
  refine tk 3 8 (v := ?_) rfl (hy := .inl ⟨by rfl, ?_⟩) (h := ?_); rotate_left
  ·intro w hSw; (try dsimp only at hSw); go_simp; (try with_reducible rfl)
  simp only [ps]
  refine tk 1 6 (v := ?_) rfl (hy := .inl ⟨by rfl, ?_⟩) (h := ?_); rotate_left
  ·intro w hSw; (try dsimp only at hSw); go_simp; (try with_reducible rfl)
  simp only [ps]
  refine tk 4 9 (v := ?_) rfl (hy := .inl ⟨by rfl, ?_⟩) (h := ?_); rotate_left
  ·intro w hSw; (try dsimp only at hSw); go_simp; (try with_reducible rfl)
  simp only [ps]
  refine ready_at (i := 2) rfl (by kernel_rfl) (fun KK hKK => ?_)
  go_simp
  have hgo := bA
  refine (unhide VO _ (Bw0.trans (hgo.mono Bw0.size))).mono ?_
  rintro e wz1_1 ⟨rfl, bb⟩
  have bz1 : Below w0.heap.size w0 wz1_1 := bA.trans (bb.mono bA.size)
  clear bA hgo bb
  clear hHeld
  refine hKK.out _ _ (unhide K _ bz1) (fun hHeld => ?_)
  clear hKK KK
  refine tk 5 10 (v := ?_) rfl (hy := .inl ⟨by rfl, ?_⟩) (h := ?_); rotate_left
  ·intro w hSw; (try dsimp only at hSw); go_simp; (try with_reducible rfl)
  simp only [ps]
  refine tk 6 11 (v := ?_) rfl (hy := .inl ⟨by rfl, ?_⟩) (h := ?_); rotate_left
  ·intro w hSw; (try dsimp only at hSw); go_simp; (try with_reducible rfl)
  simp only [ps]
  refine sk 7 12 rfl (h := ?_)
  simp only [ps]
  refine sk 10 15 rfl (h := ?_)
  simp only [ps]
  refine sk 8 13 rfl (h := ?_)
  simp only [ps]
  refine sk 11 16 rfl (h := ?_)
  simp only [ps]
  refine sk 9 14 rfl (h := ?_)
  simp only [ps]
  refine sk 12 17 rfl (h := ?_)
  simp only [ps]
  refine tk 13 18 (v := ?_) rfl (hy := .inl ⟨by rfl, ?_⟩) (h := ?_); rotate_left
  ·intro w hSw; (try dsimp only at hSw); go_simp; (try with_reducible rfl)
  simp only [ps]
  refine tk 14 4 (v := ?_) rfl (hy := .inl ⟨by rfl, ?_⟩) (h := ?_); rotate_left
  ·intro w hSw; (try dsimp only at hSw); go_simp; (try with_reducible rfl)
  simp only [ps]
  clear hHeld
  refine wpAnyH_done (by kernel_rfl) ?_ _
  refine NoPanic.normal ?_
  have bb := bz1
  have Bwz1_1 := Bw0.trans (bb.mono Bw0.size)
  have swz1_1 := bb.size
  replace LS := LS.below bb LS.lt
  replace LB := LB.below bb LB.lt
  clear Bw0
  clear bb bz1 K
  go_wp2
  go_ret
  exact ⟨rfl, Bwz1_1⟩

set_option maxHeartbeats 16000000 in
set_option maxRecDepth 100000 in
theorem voting_any (vo lo v : Int) (s : ByteArray) (ua : Option Addr) (na qa : Nat) (d m : ByteArray) (v' : Int) (s' : ByteArray) (ub : Option Addr) (nb qb : Nat) (w : World) (hm : m.size ≤ 33554432) (hE : Env w) :
 Calls Tryz.prog 59 #[sv vo lo v s (.slice ua na qa) d, bv m v' s' (.slice ub nb qb)] w fun e w' => e = .returned (sv (viewAns m) lo v s (.slice ua na qa) d) ∧ Below w.heap.size w w' := by
 have VO := hide fun w' (h : Below w.heap.size w w') => implViewOf m w' hm (hE.below h)
 generalize viewAns m = vw at *
 clear hE
 obtain ⟨w0, hw0⟩ : ∃ w0, (((w.alloc (.cells #[.int .i64 vo, .int .i64 lo, .int .i64 v, .string s, .slice ua na qa, .string d] 30)).alloc (.cells #[.string m, .int .i64 v', .string s', .slice ub nb qb] 35)).alloc (.cells #[.int .i64 0, .int .i64 0, .int .i64 0, .string ⟨#[]⟩, .slice none 0 0, .string ⟨#[]⟩] 30)) = w0 := ⟨_, rfl⟩
 have Bw0 : Below w.heap.size w w0 := hw0 ▸ (((Below.refl _ _).alloc (Nat.le_refl _) _).alloc (by simp) _).alloc (by simp; omega) _
 have LS : Loc w0 (w.heap.size) #[.int .i64 vo, .int .i64 lo, .int .i64 v, .string s, .slice ua na qa, .string d] := hw0 ▸ ((loc_at (w) _ _ rfl).alloc _).alloc _
 have LB : Loc w0 (w.heap.size + 1) #[.string m, .int .i64 v', .string s', .slice ub nb qb] := hw0 ▸ (loc_at (w.alloc _) _ _ (by simp)).alloc _
 have LZ : Loc w0 (w.heap.size + 1 + 1) #[.int .i64 0, .int .i64 0, .int .i64 0, .string ⟨#[]⟩, .slice none 0 0, .string ⟨#[]⟩] := hw0 ▸ loc_at ((w.alloc _).alloc _) _ _ (by simp)
 have zw0 : w.heap.size + 1 + 1 + 1 ≤ w0.heap.size := by rw [← hw0]; simp
 go_enter Tryz.func59, Tryz.ntmps59
 have cLB0 := LB.cell 0 rfl
 have cLB1 := LB.cell 1 rfl
 have cLB2 := LB.cell 2 rfl
 have cLB3 := LB.cell 3 rfl
 go_wp2_with fail
 clear hw0
 refine (unhide VO _ Bw0).mono ?_
 rintro _ w1 ⟨rfl, bb⟩
 clear cLB0 cLB1 cLB2 cLB3
 have Bw1 := Bw0.trans (bb.mono Bw0.size)
 have sw1 := bb.size
 replace LS := LS.below bb LS.lt
 replace LB := LB.below bb LB.lt
 replace LZ := LZ.below bb LZ.lt
 clear Bw0
 clear bb
 have cLS0 := LS.cell 0 rfl
 have cLS1 := LS.cell 1 rfl
 have cLS2 := LS.cell 2 rfl
 have cLS3 := LS.cell 3 rfl
 have cLS4 := LS.cell 4 rfl
 have cLS5 := LS.cell 5 rfl
 have fLS := LS.frozen
 go_upto_region 2 with fail
 clear cLS0 cLS1 cLS2 cLS3 cLS4 cLS5
 clear fLS
 obtain ⟨w2, hw2⟩ : ∃ y, (w1.setCell ⟨w.heap.size, 0, none⟩ (.int .i64 vw)) = y := ⟨_, rfl⟩
 have kN : Kp w1 w2 (fun k => k = w.heap.size) := hw2 ▸ set_kp _ _ _ _
 replace LS : Loc w2 (w.heap.size) #[.int .i64 vw, .int .i64 lo, .int .i64 v, .string s, .slice ua na qa, .string d] := hw2 ▸ (LS.set 0 _ rfl)
 replace LB := LB.kp kN (by omega)
 replace LZ := LZ.kp kN (by omega)
 have Bw2 := Below.kp Bw1 kN Bw1.size (fun k hk => by omega)
 have sw2 := kN.size
 rw [hw2]
 clear hw2 kN Bw1
 have K6 := kp6 w2 (w.heap.size + 1 + 1) (.int .i64 vw) (.int .i64 lo) (.int .i64 v) (.string s) (.slice ua na qa) (.string d)
 have cLZ0 := LZ.cell 0 rfl
 have cLZ1 := LZ.cell 1 rfl
 have cLZ2 := LZ.cell 2 rfl
 have cLZ3 := LZ.cell 3 rfl
 have cLZ4 := LZ.cell 4 rfl
 have cLZ5 := LZ.cell 5 rfl
 have cLS0 := LS.cell 0 rfl
 have cLS1 := LS.cell 1 rfl
 have cLS2 := LS.cell 2 rfl
 have cLS3 := LS.cell 3 rfl
 have cLS4 := LS.cell 4 rfl
 have cLS5 := LS.cell 5 rfl
 have fLZ := LZ.frozen
 go_wp2
 refine bodyPost_ret (v := sv vw lo v s (.slice ua na qa) d) (by simp [results, Tryz.results59, go_sem, cLZ0, cLZ1, cLZ2, cLZ3, cLZ4, cLZ5]) rfl ?_
 exact ⟨rfl, Below.kp Bw2 K6 Bw2.size (fun k hk => by omega)⟩

set_option maxHeartbeats 16000000 in
set_option maxRecDepth 100000 in
theorem implMayVote (n f : Int) (vo lo v : Int) (s : ByteArray) (ao : Option Addr) (ca : Nat) (xs : List Int) (d : ByteArray) (m : ByteArray) (v' : Int) (s' : ByteArray) (bo : Option Addr) (cb : Nat) (ys : List Int) (w : World) (hs : s.size ≤ 33554432) (hd : d.size ≤ 33554432) (hm : m.size ≤ 33554432) (hs' : s'.size ≤ 33554432) (hE : Env w) (ha : RI w (.slice ao xs.length ca) xs) (hb : RI w (.slice bo ys.length cb) ys) :
 Calls Tryz.prog 20 #[cv n f, sv vo lo v s (.slice ao xs.length ca) d, bv m v' s' (.slice bo ys.length cb)] w fun e w' => e = .returned (.bool (mayB n f vo lo v s xs d m v' s' ys)) ∧ Below w.heap.size w w' := by
 have SO := hide fun w' (h : Below w.heap.size w w') => implSafeOk n f vo lo v s ao ca xs d w' hs hd (hE.below h) (ha.below h (Nat.le_refl _))
 have BO := hide fun w' (h : Below w.heap.size w w') => implBlockOk n f m v' s' bo cb ys w' hm hs' (hE.below h) (hb.below h (Nat.le_refl _))
 have AL := hide fun w' (h : Below w.heap.size w w') => allows_any vo lo v s ao xs.length ca d m v' s' bo ys.length cb w' hm (hE.below h)
 have hM : mayB n f vo lo v s xs d m v' s' ys = (sokB n f vo lo v s xs d && bokB n f m v' s' ys && (decide (vo < viewAns m) && decide (lo ≤ v'))) := by unfold mayB; rw [Bool.and_assoc, Bool.and_assoc]
 rw [hM]
 clear hM ha hb hE
 generalize sokB n f vo lo v s xs d = b1 at *
 generalize bokB n f m v' s' ys = b2 at *
 generalize (decide (vo < viewAns m) && decide (lo ≤ v')) = b3 at *
 obtain ⟨w0, hw0⟩ : ∃ w0, (((w.alloc (.cells #[.int .i64 n, .int .i64 f] 25)).alloc (.cells #[.int .i64 vo, .int .i64 lo, .int .i64 v, .string s, .slice ao xs.length ca, .string d] 30)).alloc (.cells #[.string m, .int .i64 v', .string s', .slice bo ys.length cb] 35)) = w0 := ⟨_, rfl⟩
 have Bw0 : Below w.heap.size w w0 := hw0 ▸ (((Below.refl _ _).alloc (Nat.le_refl _) _).alloc (by simp) _).alloc (by simp; omega) _
 have LC : Loc w0 (w.heap.size) #[.int .i64 n, .int .i64 f] := hw0 ▸ ((loc_at (w) _ _ rfl).alloc _).alloc _
 have LS : Loc w0 (w.heap.size + 1) #[.int .i64 vo, .int .i64 lo, .int .i64 v, .string s, .slice ao xs.length ca, .string d] := hw0 ▸ (loc_at (w.alloc _) _ _ (by simp)).alloc _
 have LB : Loc w0 (w.heap.size + 1 + 1) #[.string m, .int .i64 v', .string s', .slice bo ys.length cb] := hw0 ▸ loc_at ((w.alloc _).alloc _) _ _ (by simp)
 have zw0 : w.heap.size + 1 + 1 + 1 ≤ w0.heap.size := by rw [← hw0]; simp
 go_enter Tryz.func20, Tryz.ntmps20
 have cLC0 := LC.cell 0 rfl
 have cLC1 := LC.cell 1 rfl
 have cLS0 := LS.cell 0 rfl
 have cLS1 := LS.cell 1 rfl
 have cLS2 := LS.cell 2 rfl
 have cLS3 := LS.cell 3 rfl
 have cLS4 := LS.cell 4 rfl
 have cLS5 := LS.cell 5 rfl
 go_wp2_with fail
 clear hw0
 refine (unhide SO _ Bw0).mono ?_
 rintro _ w1 ⟨rfl, bb⟩
 clear cLC0 cLC1 cLS0 cLS1 cLS2 cLS3 cLS4 cLS5
 have Bw1 := Bw0.trans (bb.mono Bw0.size)
 have sw1 := bb.size
 replace LC := LC.below bb LC.lt
 replace LS := LS.below bb LS.lt
 replace LB := LB.below bb LB.lt
 clear Bw0
 clear bb
 cases b1
 ·go_wp2
  go_ret
  exact ⟨rfl, Bw1⟩
 ·have cLC0 := LC.cell 0 rfl
  have cLC1 := LC.cell 1 rfl
  have cLB0 := LB.cell 0 rfl
  have cLB1 := LB.cell 1 rfl
  have cLB2 := LB.cell 2 rfl
  have cLB3 := LB.cell 3 rfl
  go_wp2_with fail
  refine (unhide BO _ Bw1).mono ?_
  rintro _ w2 ⟨rfl, bb⟩
  clear cLC0 cLC1 cLB0 cLB1 cLB2 cLB3
  have Bw2 := Bw1.trans (bb.mono Bw1.size)
  have sw2 := bb.size
  replace LC := LC.below bb LC.lt
  replace LS := LS.below bb LS.lt
  replace LB := LB.below bb LB.lt
  clear Bw1
  clear bb
  cases b2
  ·go_wp2
   go_ret
   exact ⟨rfl, Bw2⟩
  ·have cLS0 := LS.cell 0 rfl
   have cLS1 := LS.cell 1 rfl
   have cLS2 := LS.cell 2 rfl
   have cLS3 := LS.cell 3 rfl
   have cLS4 := LS.cell 4 rfl
   have cLS5 := LS.cell 5 rfl
   have cLB0 := LB.cell 0 rfl
   have cLB1 := LB.cell 1 rfl
   have cLB2 := LB.cell 2 rfl
   have cLB3 := LB.cell 3 rfl
   go_wp2_with fail
   refine (unhide AL _ Bw2).mono ?_
   rintro _ w3 ⟨rfl, bb⟩
   clear cLS0 cLS1 cLS2 cLS3 cLS4 cLS5 cLB0 cLB1 cLB2 cLB3
   have Bw3 := Bw2.trans (bb.mono Bw2.size)
   have sw3 := bb.size
   replace LC := LC.below bb LC.lt
   replace LS := LS.below bb LS.lt
   replace LB := LB.below bb LB.lt
   clear Bw2
   clear bb
   go_wp2
   go_ret
   exact ⟨rfl, Bw3⟩

set_option maxHeartbeats 16000000 in
set_option maxRecDepth 100000 in
theorem specMayVote (n f : Int) (vo lo v : Int) (s : ByteArray) (ao : Option Addr) (ca : Nat) (xs : List Int) (d : ByteArray) (m : ByteArray) (v' : Int) (s' : ByteArray) (bo : Option Addr) (cb : Nat) (ys : List Int) (w : World) (hs : s.size ≤ 1048576) (hd : d.size ≤ 1048576) (hm : m.size ≤ 1048576) (hs' : s'.size ≤ 1048576) (ha : RI w (.slice ao xs.length ca) xs) (hb : RI w (.slice bo ys.length cb) ys) :
 Calls Tryz.prog 61 #[cv n f, sv vo lo v s (.slice ao xs.length ca) d, bv m v' s' (.slice bo ys.length cb)] w fun e w' => e = .returned (.bool (mayB n f vo lo v s xs d m v' s' ys)) ∧ Below w.heap.size w w' := by
 have SO := hide fun w' (h : Below w.heap.size w w') => specSafeOk n f vo lo v s ao ca xs d w' hs hd (ha.below h (Nat.le_refl _))
 have BO := hide fun w' (h : Below w.heap.size w w') => specBlockOk n f m v' s' bo cb ys w' hm hs' (hb.below h (Nat.le_refl _))
 have VO := hide fun w' => specViewOf m w' (by omega)
 unfold mayB
 clear ha hb
 generalize sokB n f vo lo v s xs d = b1 at *
 generalize bokB n f m v' s' ys = b2 at *
 generalize viewAns m = vw at *
 cases b1
 ·simp only [Bool.false_and]
  obtain ⟨w0, hw0⟩ : ∃ w0, (((w.alloc (.cells #[.int .i64 n, .int .i64 f] 25)).alloc (.cells #[.int .i64 vo, .int .i64 lo, .int .i64 v, .string s, .slice ao xs.length ca, .string d] 30)).alloc (.cells #[.string m, .int .i64 v', .string s', .slice bo ys.length cb] 35)) = w0 := ⟨_, rfl⟩
  have Bw0 : Below w.heap.size w w0 := hw0 ▸ (((Below.refl _ _).alloc (Nat.le_refl _) _).alloc (by simp) _).alloc (by simp; omega) _
  have LC : Loc w0 (w.heap.size) #[.int .i64 n, .int .i64 f] := hw0 ▸ ((loc_at (w) _ _ rfl).alloc _).alloc _
  have LS : Loc w0 (w.heap.size + 1) #[.int .i64 vo, .int .i64 lo, .int .i64 v, .string s, .slice ao xs.length ca, .string d] := hw0 ▸ (loc_at (w.alloc _) _ _ (by simp)).alloc _
  have LB : Loc w0 (w.heap.size + 1 + 1) #[.string m, .int .i64 v', .string s', .slice bo ys.length cb] := hw0 ▸ loc_at ((w.alloc _).alloc _) _ _ (by simp)
  have zw0 : w.heap.size + 1 + 1 + 1 ≤ w0.heap.size := by rw [← hw0]; simp
  go_enter Tryz.func61, Tryz.ntmps61
  have K : Hid (∀ w', Below w0.heap.size w0 w' → (fun w' => Below w0.heap.size w0 w' ∧ (w'.cell? ⟨w.heap.size, 0, none⟩ = some (.int .i64 n) ∧ w'.cell? ⟨w.heap.size, 1, none⟩ = some (.int .i64 f)) ∧ (w'.cell? ⟨w.heap.size + 1, 0, none⟩ = some (.int .i64 vo) ∧ w'.cell? ⟨w.heap.size + 1, 1, none⟩ = some (.int .i64 lo) ∧ w'.cell? ⟨w.heap.size + 1, 2, none⟩ = some (.int .i64 v) ∧ w'.cell? ⟨w.heap.size + 1, 3, none⟩ = some (.string s) ∧ w'.cell? ⟨w.heap.size + 1, 4, none⟩ = some (.slice ao xs.length ca) ∧ w'.cell? ⟨w.heap.size + 1, 5, none⟩ = some (.string d)) ∧ (w'.cell? ⟨w.heap.size + 1 + 1, 0, none⟩ = some (.string m) ∧ w'.cell? ⟨w.heap.size + 1 + 1, 1, none⟩ = some (.int .i64 v') ∧ w'.cell? ⟨w.heap.size + 1 + 1, 2, none⟩ = some (.string s') ∧ w'.cell? ⟨w.heap.size + 1 + 1, 3, none⟩ = some (.slice bo ys.length cb))) w') := hide fun w' hb' => ⟨hb', ⟨(LC.below hb' LC.lt).cell 0 rfl, (LC.below hb' LC.lt).cell 1 rfl⟩, ⟨(LS.below hb' LS.lt).cell 0 rfl, (LS.below hb' LS.lt).cell 1 rfl, (LS.below hb' LS.lt).cell 2 rfl, (LS.below hb' LS.lt).cell 3 rfl, (LS.below hb' LS.lt).cell 4 rfl, (LS.below hb' LS.lt).cell 5 rfl⟩, ⟨(LB.below hb' LB.lt).cell 0 rfl, (LB.below hb' LB.lt).cell 1 rfl, (LB.below hb' LB.lt).cell 2 rfl, (LB.below hb' LB.lt).cell 3 rfl⟩⟩
  go_upto_region 1 with fail
  clear hw0
  have bA : Below w0.heap.size w0 w0.drew := Below.drew (Below.refl _ _)
  refine wp_region_noPanic ?_
  refine wp_region_held_drew (S := fun w' => Below w0.heap.size w0 w' ∧ (w'.cell? ⟨w.heap.size, 0, none⟩ = some (.int .i64 n) ∧ w'.cell? ⟨w.heap.size, 1, none⟩ = some (.int .i64 f)) ∧ (w'.cell? ⟨w.heap.size + 1, 0, none⟩ = some (.int .i64 vo) ∧ w'.cell? ⟨w.heap.size + 1, 1, none⟩ = some (.int .i64 lo) ∧ w'.cell? ⟨w.heap.size + 1, 2, none⟩ = some (.int .i64 v) ∧ w'.cell? ⟨w.heap.size + 1, 3, none⟩ = some (.string s) ∧ w'.cell? ⟨w.heap.size + 1, 4, none⟩ = some (.slice ao xs.length ca) ∧ w'.cell? ⟨w.heap.size + 1, 5, none⟩ = some (.string d)) ∧ (w'.cell? ⟨w.heap.size + 1 + 1, 0, none⟩ = some (.string m) ∧ w'.cell? ⟨w.heap.size + 1 + 1, 1, none⟩ = some (.int .i64 v') ∧ w'.cell? ⟨w.heap.size + 1 + 1, 2, none⟩ = some (.string s') ∧ w'.cell? ⟨w.heap.size + 1 + 1, 3, none⟩ = some (.slice bo ys.length cb))) (by kernel_rfl) (unhide K _ bA) (fun hHeld => ?_)
  refine tk 0 7 (v := ?_) rfl (hy := .inl ⟨by rfl, ?_⟩) (h := ?_); rotate_left
  ·intro w hSw; (try dsimp only at hSw); go_simp; (try with_reducible rfl)
  simp only [ps]
  refine tk 1 8 (v := ?_) rfl (hy := .inl ⟨by rfl, ?_⟩) (h := ?_); rotate_left
  ·intro w hSw; (try dsimp only at hSw); go_simp; (try with_reducible rfl)
  simp only [ps]
  refine ready_at (i := 2) rfl (by kernel_rfl) (fun KK hKK => ?_)
  go_simp
  have hgo := bA
  refine (unhide SO _ (Bw0.trans (hgo.mono Bw0.size))).mono ?_
  rintro e wz1_1 ⟨rfl, bb⟩
  have bz1 : Below w0.heap.size w0 wz1_1 := bA.trans (bb.mono bA.size)
  clear bA hgo bb
  clear hHeld
  refine hKK.out _ _ (unhide K _ bz1) (fun hHeld => ?_)
  clear hKK KK
  refine tk 3 10 (v := ?_) rfl (hy := .inl ⟨by rfl, ?_⟩) (h := ?_); rotate_left
  ·intro w hSw; (try dsimp only at hSw); go_simp; (try with_reducible rfl)
  simp only [ps]
  refine sk 4 11 rfl (h := ?_)
  simp only [ps]
  refine sk 5 12 rfl (h := ?_)
  simp only [ps]
  refine sk 6 13 rfl (h := ?_)
  simp only [ps]
  refine tk 7 14 (v := ?_) rfl (hy := .inl ⟨by rfl, ?_⟩) (h := ?_); rotate_left
  ·intro w hSw; (try dsimp only at hSw); go_simp; (try with_reducible rfl)
  simp only [ps]
  refine tk 8 15 (v := ?_) rfl (hy := .inl ⟨by rfl, ?_⟩) (h := ?_); rotate_left
  ·intro w hSw; (try dsimp only at hSw); go_simp; (try with_reducible rfl)
  simp only [ps]
  refine sk 9 16 rfl (h := ?_)
  simp only [ps]
  refine sk 12 19 rfl (h := ?_)
  simp only [ps]
  refine sk 10 17 rfl (h := ?_)
  simp only [ps]
  refine sk 13 20 rfl (h := ?_)
  simp only [ps]
  refine sk 11 18 rfl (h := ?_)
  simp only [ps]
  refine sk 14 21 rfl (h := ?_)
  simp only [ps]
  refine tk 15 22 (v := ?_) rfl (hy := .inl ⟨by rfl, ?_⟩) (h := ?_); rotate_left
  ·intro w hSw; (try dsimp only at hSw); go_simp; (try with_reducible rfl)
  simp only [ps]
  refine tk 16 23 (v := ?_) rfl (hy := .inl ⟨by rfl, ?_⟩) (h := ?_); rotate_left
  ·intro w hSw; (try dsimp only at hSw); go_simp; (try with_reducible rfl)
  simp only [ps]
  refine sk 17 24 rfl (h := ?_)
  simp only [ps]
  refine sk 20 27 rfl (h := ?_)
  simp only [ps]
  refine sk 18 25 rfl (h := ?_)
  simp only [ps]
  refine sk 21 28 rfl (h := ?_)
  simp only [ps]
  refine sk 19 26 rfl (h := ?_)
  simp only [ps]
  refine sk 22 29 rfl (h := ?_)
  simp only [ps]
  refine tk 23 30 (v := ?_) rfl (hy := .inl ⟨by rfl, ?_⟩) (h := ?_); rotate_left
  ·intro w hSw; (try dsimp only at hSw); go_simp; (try with_reducible rfl)
  simp only [ps]
  refine tk 24 6 (v := ?_) rfl (hy := .inl ⟨by rfl, ?_⟩) (h := ?_); rotate_left
  ·intro w hSw; (try dsimp only at hSw); go_simp; (try with_reducible rfl)
  simp only [ps]
  clear hHeld
  refine wpAnyH_done (by kernel_rfl) ?_ _
  refine NoPanic.normal ?_
  have bb := bz1
  have Bwz1_1 := Bw0.trans (bb.mono Bw0.size)
  have swz1_1 := bb.size
  replace LC := LC.below bb LC.lt
  replace LS := LS.below bb LS.lt
  replace LB := LB.below bb LB.lt
  clear Bw0
  clear bb bz1 K
  go_wp2
  go_ret
  exact ⟨rfl, Bwz1_1⟩
 ·simp only [Bool.true_and]
  cases b2
  ·simp only [Bool.false_and]
   obtain ⟨w0, hw0⟩ : ∃ w0, (((w.alloc (.cells #[.int .i64 n, .int .i64 f] 25)).alloc (.cells #[.int .i64 vo, .int .i64 lo, .int .i64 v, .string s, .slice ao xs.length ca, .string d] 30)).alloc (.cells #[.string m, .int .i64 v', .string s', .slice bo ys.length cb] 35)) = w0 := ⟨_, rfl⟩
   have Bw0 : Below w.heap.size w w0 := hw0 ▸ (((Below.refl _ _).alloc (Nat.le_refl _) _).alloc (by simp) _).alloc (by simp; omega) _
   have LC : Loc w0 (w.heap.size) #[.int .i64 n, .int .i64 f] := hw0 ▸ ((loc_at (w) _ _ rfl).alloc _).alloc _
   have LS : Loc w0 (w.heap.size + 1) #[.int .i64 vo, .int .i64 lo, .int .i64 v, .string s, .slice ao xs.length ca, .string d] := hw0 ▸ (loc_at (w.alloc _) _ _ (by simp)).alloc _
   have LB : Loc w0 (w.heap.size + 1 + 1) #[.string m, .int .i64 v', .string s', .slice bo ys.length cb] := hw0 ▸ loc_at ((w.alloc _).alloc _) _ _ (by simp)
   have zw0 : w.heap.size + 1 + 1 + 1 ≤ w0.heap.size := by rw [← hw0]; simp
   go_enter Tryz.func61, Tryz.ntmps61
   have K : Hid (∀ w', Below w0.heap.size w0 w' → (fun w' => Below w0.heap.size w0 w' ∧ (w'.cell? ⟨w.heap.size, 0, none⟩ = some (.int .i64 n) ∧ w'.cell? ⟨w.heap.size, 1, none⟩ = some (.int .i64 f)) ∧ (w'.cell? ⟨w.heap.size + 1, 0, none⟩ = some (.int .i64 vo) ∧ w'.cell? ⟨w.heap.size + 1, 1, none⟩ = some (.int .i64 lo) ∧ w'.cell? ⟨w.heap.size + 1, 2, none⟩ = some (.int .i64 v) ∧ w'.cell? ⟨w.heap.size + 1, 3, none⟩ = some (.string s) ∧ w'.cell? ⟨w.heap.size + 1, 4, none⟩ = some (.slice ao xs.length ca) ∧ w'.cell? ⟨w.heap.size + 1, 5, none⟩ = some (.string d)) ∧ (w'.cell? ⟨w.heap.size + 1 + 1, 0, none⟩ = some (.string m) ∧ w'.cell? ⟨w.heap.size + 1 + 1, 1, none⟩ = some (.int .i64 v') ∧ w'.cell? ⟨w.heap.size + 1 + 1, 2, none⟩ = some (.string s') ∧ w'.cell? ⟨w.heap.size + 1 + 1, 3, none⟩ = some (.slice bo ys.length cb))) w') := hide fun w' hb' => ⟨hb', ⟨(LC.below hb' LC.lt).cell 0 rfl, (LC.below hb' LC.lt).cell 1 rfl⟩, ⟨(LS.below hb' LS.lt).cell 0 rfl, (LS.below hb' LS.lt).cell 1 rfl, (LS.below hb' LS.lt).cell 2 rfl, (LS.below hb' LS.lt).cell 3 rfl, (LS.below hb' LS.lt).cell 4 rfl, (LS.below hb' LS.lt).cell 5 rfl⟩, ⟨(LB.below hb' LB.lt).cell 0 rfl, (LB.below hb' LB.lt).cell 1 rfl, (LB.below hb' LB.lt).cell 2 rfl, (LB.below hb' LB.lt).cell 3 rfl⟩⟩
   go_upto_region 1 with fail
   clear hw0
   have bA : Below w0.heap.size w0 w0.drew := Below.drew (Below.refl _ _)
   refine wp_region_noPanic ?_
   refine wp_region_held_drew (S := fun w' => Below w0.heap.size w0 w' ∧ (w'.cell? ⟨w.heap.size, 0, none⟩ = some (.int .i64 n) ∧ w'.cell? ⟨w.heap.size, 1, none⟩ = some (.int .i64 f)) ∧ (w'.cell? ⟨w.heap.size + 1, 0, none⟩ = some (.int .i64 vo) ∧ w'.cell? ⟨w.heap.size + 1, 1, none⟩ = some (.int .i64 lo) ∧ w'.cell? ⟨w.heap.size + 1, 2, none⟩ = some (.int .i64 v) ∧ w'.cell? ⟨w.heap.size + 1, 3, none⟩ = some (.string s) ∧ w'.cell? ⟨w.heap.size + 1, 4, none⟩ = some (.slice ao xs.length ca) ∧ w'.cell? ⟨w.heap.size + 1, 5, none⟩ = some (.string d)) ∧ (w'.cell? ⟨w.heap.size + 1 + 1, 0, none⟩ = some (.string m) ∧ w'.cell? ⟨w.heap.size + 1 + 1, 1, none⟩ = some (.int .i64 v') ∧ w'.cell? ⟨w.heap.size + 1 + 1, 2, none⟩ = some (.string s') ∧ w'.cell? ⟨w.heap.size + 1 + 1, 3, none⟩ = some (.slice bo ys.length cb))) (by kernel_rfl) (unhide K _ bA) (fun hHeld => ?_)
   refine tk 0 7 (v := ?_) rfl (hy := .inl ⟨by rfl, ?_⟩) (h := ?_); rotate_left
   ·intro w hSw; (try dsimp only at hSw); go_simp; (try with_reducible rfl)
   simp only [ps]
   refine tk 1 8 (v := ?_) rfl (hy := .inl ⟨by rfl, ?_⟩) (h := ?_); rotate_left
   ·intro w hSw; (try dsimp only at hSw); go_simp; (try with_reducible rfl)
   simp only [ps]
   refine ready_at (i := 2) rfl (by kernel_rfl) (fun KK hKK => ?_)
   go_simp
   have hgo := bA
   refine (unhide SO _ (Bw0.trans (hgo.mono Bw0.size))).mono ?_
   rintro e wz1_1 ⟨rfl, bb⟩
   have bz1 : Below w0.heap.size w0 wz1_1 := bA.trans (bb.mono bA.size)
   clear bA hgo bb
   clear hHeld
   refine hKK.out _ _ (unhide K _ bz1) (fun hHeld => ?_)
   clear hKK KK
   refine tk 3 10 (v := ?_) rfl (hy := .inl ⟨by rfl, ?_⟩) (h := ?_); rotate_left
   ·intro w hSw; (try dsimp only at hSw); go_simp; (try with_reducible rfl)
   simp only [ps]
   refine tk 4 11 (v := ?_) rfl (hy := .inl ⟨by rfl, ?_⟩) (h := ?_); rotate_left
   ·intro w hSw; (try dsimp only at hSw); go_simp; (try with_reducible rfl)
   simp only [ps]
   refine tk 5 12 (v := ?_) rfl (hy := .inl ⟨by rfl, ?_⟩) (h := ?_); rotate_left
   ·intro w hSw; (try dsimp only at hSw); go_simp; (try with_reducible rfl)
   simp only [ps]
   refine ready_at (i := 6) rfl (by kernel_rfl) (fun KK hKK => ?_)
   go_simp
   have hgo := bz1
   refine (unhide BO _ (Bw0.trans (hgo.mono Bw0.size))).mono ?_
   rintro e wz1_2 ⟨rfl, bb⟩
   have bz2 : Below w0.heap.size w0 wz1_2 := bz1.trans (bb.mono bz1.size)
   clear bz1 hgo bb
   clear hHeld
   refine hKK.out _ _ (unhide K _ bz2) (fun hHeld => ?_)
   clear hKK KK
   refine tk 7 14 (v := ?_) rfl (hy := .inl ⟨by rfl, ?_⟩) (h := ?_); rotate_left
   ·intro w hSw; (try dsimp only at hSw); go_simp; (try with_reducible rfl)
   simp only [ps]
   refine tk 8 15 (v := ?_) rfl (hy := .inl ⟨by rfl, ?_⟩) (h := ?_); rotate_left
   ·intro w hSw; (try dsimp only at hSw); go_simp; (try with_reducible rfl)
   simp only [ps]
   refine sk 9 16 rfl (h := ?_)
   simp only [ps]
   refine sk 12 19 rfl (h := ?_)
   simp only [ps]
   refine sk 10 17 rfl (h := ?_)
   simp only [ps]
   refine sk 13 20 rfl (h := ?_)
   simp only [ps]
   refine sk 11 18 rfl (h := ?_)
   simp only [ps]
   refine sk 14 21 rfl (h := ?_)
   simp only [ps]
   refine tk 15 22 (v := ?_) rfl (hy := .inl ⟨by rfl, ?_⟩) (h := ?_); rotate_left
   ·intro w hSw; (try dsimp only at hSw); go_simp; (try with_reducible rfl)
   simp only [ps]
   refine tk 16 23 (v := ?_) rfl (hy := .inl ⟨by rfl, ?_⟩) (h := ?_); rotate_left
   ·intro w hSw; (try dsimp only at hSw); go_simp; (try with_reducible rfl)
   simp only [ps]
   refine sk 17 24 rfl (h := ?_)
   simp only [ps]
   refine sk 20 27 rfl (h := ?_)
   simp only [ps]
   refine sk 18 25 rfl (h := ?_)
   simp only [ps]
   refine sk 21 28 rfl (h := ?_)
   simp only [ps]
   refine sk 19 26 rfl (h := ?_)
   simp only [ps]
   refine sk 22 29 rfl (h := ?_)
   simp only [ps]
   refine tk 23 30 (v := ?_) rfl (hy := .inl ⟨by rfl, ?_⟩) (h := ?_); rotate_left
   ·intro w hSw; (try dsimp only at hSw); go_simp; (try with_reducible rfl)
   simp only [ps]
   refine tk 24 6 (v := ?_) rfl (hy := .inl ⟨by rfl, ?_⟩) (h := ?_); rotate_left
   ·intro w hSw; (try dsimp only at hSw); go_simp; (try with_reducible rfl)
   simp only [ps]
   clear hHeld
   refine wpAnyH_done (by kernel_rfl) ?_ _
   refine NoPanic.normal ?_
   have bb := bz2
   have Bwz1_2 := Bw0.trans (bb.mono Bw0.size)
   have swz1_2 := bb.size
   replace LC := LC.below bb LC.lt
   replace LS := LS.below bb LS.lt
   replace LB := LB.below bb LB.lt
   clear Bw0
   clear bb bz2 K
   go_wp2
   go_ret
   exact ⟨rfl, Bwz1_2⟩
  ·simp only [Bool.true_and]
   by_cases h1 : vo < vw
   ·have e1 : decide (vo < vw) = true := by simpa using h1
    rw [e1]
    simp only [Bool.true_and]
    by_cases h2 : lo ≤ v'
    ·have e2 : decide (lo ≤ v') = true := by simpa using h2
     rw [e2]
     clear h1 h2
     obtain ⟨w0, hw0⟩ : ∃ w0, (((w.alloc (.cells #[.int .i64 n, .int .i64 f] 25)).alloc (.cells #[.int .i64 vo, .int .i64 lo, .int .i64 v, .string s, .slice ao xs.length ca, .string d] 30)).alloc (.cells #[.string m, .int .i64 v', .string s', .slice bo ys.length cb] 35)) = w0 := ⟨_, rfl⟩
     have Bw0 : Below w.heap.size w w0 := hw0 ▸ (((Below.refl _ _).alloc (Nat.le_refl _) _).alloc (by simp) _).alloc (by simp; omega) _
     have LC : Loc w0 (w.heap.size) #[.int .i64 n, .int .i64 f] := hw0 ▸ ((loc_at (w) _ _ rfl).alloc _).alloc _
     have LS : Loc w0 (w.heap.size + 1) #[.int .i64 vo, .int .i64 lo, .int .i64 v, .string s, .slice ao xs.length ca, .string d] := hw0 ▸ (loc_at (w.alloc _) _ _ (by simp)).alloc _
     have LB : Loc w0 (w.heap.size + 1 + 1) #[.string m, .int .i64 v', .string s', .slice bo ys.length cb] := hw0 ▸ loc_at ((w.alloc _).alloc _) _ _ (by simp)
     have zw0 : w.heap.size + 1 + 1 + 1 ≤ w0.heap.size := by rw [← hw0]; simp
     go_enter Tryz.func61, Tryz.ntmps61
     have K : Hid (∀ w', Below w0.heap.size w0 w' → (fun w' => Below w0.heap.size w0 w' ∧ (w'.cell? ⟨w.heap.size, 0, none⟩ = some (.int .i64 n) ∧ w'.cell? ⟨w.heap.size, 1, none⟩ = some (.int .i64 f)) ∧ (w'.cell? ⟨w.heap.size + 1, 0, none⟩ = some (.int .i64 vo) ∧ w'.cell? ⟨w.heap.size + 1, 1, none⟩ = some (.int .i64 lo) ∧ w'.cell? ⟨w.heap.size + 1, 2, none⟩ = some (.int .i64 v) ∧ w'.cell? ⟨w.heap.size + 1, 3, none⟩ = some (.string s) ∧ w'.cell? ⟨w.heap.size + 1, 4, none⟩ = some (.slice ao xs.length ca) ∧ w'.cell? ⟨w.heap.size + 1, 5, none⟩ = some (.string d)) ∧ (w'.cell? ⟨w.heap.size + 1 + 1, 0, none⟩ = some (.string m) ∧ w'.cell? ⟨w.heap.size + 1 + 1, 1, none⟩ = some (.int .i64 v') ∧ w'.cell? ⟨w.heap.size + 1 + 1, 2, none⟩ = some (.string s') ∧ w'.cell? ⟨w.heap.size + 1 + 1, 3, none⟩ = some (.slice bo ys.length cb))) w') := hide fun w' hb' => ⟨hb', ⟨(LC.below hb' LC.lt).cell 0 rfl, (LC.below hb' LC.lt).cell 1 rfl⟩, ⟨(LS.below hb' LS.lt).cell 0 rfl, (LS.below hb' LS.lt).cell 1 rfl, (LS.below hb' LS.lt).cell 2 rfl, (LS.below hb' LS.lt).cell 3 rfl, (LS.below hb' LS.lt).cell 4 rfl, (LS.below hb' LS.lt).cell 5 rfl⟩, ⟨(LB.below hb' LB.lt).cell 0 rfl, (LB.below hb' LB.lt).cell 1 rfl, (LB.below hb' LB.lt).cell 2 rfl, (LB.below hb' LB.lt).cell 3 rfl⟩⟩
     go_upto_region 1 with fail
     clear hw0
     have bA : Below w0.heap.size w0 w0.drew := Below.drew (Below.refl _ _)
     refine wp_region_noPanic ?_
     refine wp_region_held_drew (S := fun w' => Below w0.heap.size w0 w' ∧ (w'.cell? ⟨w.heap.size, 0, none⟩ = some (.int .i64 n) ∧ w'.cell? ⟨w.heap.size, 1, none⟩ = some (.int .i64 f)) ∧ (w'.cell? ⟨w.heap.size + 1, 0, none⟩ = some (.int .i64 vo) ∧ w'.cell? ⟨w.heap.size + 1, 1, none⟩ = some (.int .i64 lo) ∧ w'.cell? ⟨w.heap.size + 1, 2, none⟩ = some (.int .i64 v) ∧ w'.cell? ⟨w.heap.size + 1, 3, none⟩ = some (.string s) ∧ w'.cell? ⟨w.heap.size + 1, 4, none⟩ = some (.slice ao xs.length ca) ∧ w'.cell? ⟨w.heap.size + 1, 5, none⟩ = some (.string d)) ∧ (w'.cell? ⟨w.heap.size + 1 + 1, 0, none⟩ = some (.string m) ∧ w'.cell? ⟨w.heap.size + 1 + 1, 1, none⟩ = some (.int .i64 v') ∧ w'.cell? ⟨w.heap.size + 1 + 1, 2, none⟩ = some (.string s') ∧ w'.cell? ⟨w.heap.size + 1 + 1, 3, none⟩ = some (.slice bo ys.length cb))) (by kernel_rfl) (unhide K _ bA) (fun hHeld => ?_)
     refine tk 0 7 (v := ?_) rfl (hy := .inl ⟨by rfl, ?_⟩) (h := ?_); rotate_left
     ·intro w hSw; (try dsimp only at hSw); go_simp; (try with_reducible rfl)
     simp only [ps]
     refine tk 1 8 (v := ?_) rfl (hy := .inl ⟨by rfl, ?_⟩) (h := ?_); rotate_left
     ·intro w hSw; (try dsimp only at hSw); go_simp; (try with_reducible rfl)
     simp only [ps]
     refine ready_at (i := 2) rfl (by kernel_rfl) (fun KK hKK => ?_)
     go_simp
     have hgo := bA
     refine (unhide SO _ (Bw0.trans (hgo.mono Bw0.size))).mono ?_
     rintro e wz1_1 ⟨rfl, bb⟩
     have bz1 : Below w0.heap.size w0 wz1_1 := bA.trans (bb.mono bA.size)
     clear bA hgo bb
     clear hHeld
     refine hKK.out _ _ (unhide K _ bz1) (fun hHeld => ?_)
     clear hKK KK
     refine tk 3 10 (v := ?_) rfl (hy := .inl ⟨by rfl, ?_⟩) (h := ?_); rotate_left
     ·intro w hSw; (try dsimp only at hSw); go_simp; (try with_reducible rfl)
     simp only [ps]
     refine tk 4 11 (v := ?_) rfl (hy := .inl ⟨by rfl, ?_⟩) (h := ?_); rotate_left
     ·intro w hSw; (try dsimp only at hSw); go_simp; (try with_reducible rfl)
     simp only [ps]
     refine tk 5 12 (v := ?_) rfl (hy := .inl ⟨by rfl, ?_⟩) (h := ?_); rotate_left
     ·intro w hSw; (try dsimp only at hSw); go_simp; (try with_reducible rfl)
     simp only [ps]
     refine ready_at (i := 6) rfl (by kernel_rfl) (fun KK hKK => ?_)
     go_simp
     have hgo := bz1
     refine (unhide BO _ (Bw0.trans (hgo.mono Bw0.size))).mono ?_
     rintro e wz1_2 ⟨rfl, bb⟩
     have bz2 : Below w0.heap.size w0 wz1_2 := bz1.trans (bb.mono bz1.size)
     clear bz1 hgo bb
     clear hHeld
     refine hKK.out _ _ (unhide K _ bz2) (fun hHeld => ?_)
     clear hKK KK
     refine tk 7 14 (v := ?_) rfl (hy := .inl ⟨by rfl, ?_⟩) (h := ?_); rotate_left
     ·intro w hSw; (try dsimp only at hSw); go_simp; (try with_reducible rfl)
     simp only [ps]
     refine tk 8 15 (v := ?_) rfl (hy := .inl ⟨by rfl, ?_⟩) (h := ?_); rotate_left
     ·intro w hSw; (try dsimp only at hSw); go_simp; (try with_reducible rfl)
     simp only [ps]
     refine tk 9 16 (v := ?_) rfl (hy := .inl ⟨by rfl, ?_⟩) (h := ?_); rotate_left
     ·intro w hSw; (try dsimp only at hSw); go_simp; (try with_reducible rfl)
     simp only [ps]
     refine tk 12 19 (v := ?_) rfl (hy := .inl ⟨by rfl, ?_⟩) (h := ?_); rotate_left
     ·intro w hSw; (try dsimp only at hSw); go_simp; (try with_reducible rfl)
     simp only [ps]
     refine tk 10 17 (v := ?_) rfl (hy := .inl ⟨by rfl, ?_⟩) (h := ?_); rotate_left
     ·intro w hSw; (try dsimp only at hSw); go_simp; (try with_reducible rfl)
     simp only [ps]
     refine tk 13 20 (v := ?_) rfl (hy := .inl ⟨by rfl, ?_⟩) (h := ?_); rotate_left
     ·intro w hSw; (try dsimp only at hSw); go_simp; (try with_reducible rfl)
     simp only [ps]
     refine ready_at (i := 11) rfl (by kernel_rfl) (fun KK hKK => ?_)
     go_simp
     have hgo := bz2
     refine (unhide VO _).mono ?_
     rintro e wz1_3 ⟨rfl, bb⟩
     have bz3 : Below w0.heap.size w0 wz1_3 := bz2.trans (bb.mono bz2.size)
     clear bz2 hgo bb
     clear hHeld
     refine hKK.out _ _ (unhide K _ bz3) (fun hHeld => ?_)
     clear hKK KK
     refine tk 14 21 (v := ?_) rfl (hy := .inl ⟨by rfl, ?_⟩) (h := ?_); rotate_left
     ·intro w hSw; (try dsimp only at hSw); go_simp; (try with_reducible rfl)
     simp only [ps]
     refine tk 15 22 (v := ?_) rfl (hy := .inl ⟨by rfl, ?_⟩) (h := ?_); rotate_left
     ·intro w hSw; (try dsimp only at hSw); go_simp; (try with_reducible rfl)
     simp only [ps]
     refine tk 16 23 (v := ?_) rfl (hy := .inl ⟨by rfl, ?_⟩) (h := ?_); rotate_left
     ·intro w hSw; (try dsimp only at hSw); go_simp; (try with_reducible rfl)
     simp only [ps]
     refine tk 17 24 (v := ?_) rfl (hy := .inl ⟨by rfl, ?_⟩) (h := ?_); rotate_left
     ·intro w hSw; (try dsimp only at hSw); go_simp; (try with_reducible rfl)
     simp only [ps]
     refine tk 20 27 (v := ?_) rfl (hy := .inl ⟨by rfl, ?_⟩) (h := ?_); rotate_left
     ·intro w hSw; (try dsimp only at hSw); go_simp; (try with_reducible rfl)
     simp only [ps]
     refine tk 18 25 (v := ?_) rfl (hy := .inl ⟨by rfl, ?_⟩) (h := ?_); rotate_left
     ·intro w hSw; (try dsimp only at hSw); go_simp; (try with_reducible rfl)
     simp only [ps]
     refine tk 21 28 (v := ?_) rfl (hy := .inl ⟨by rfl, ?_⟩) (h := ?_); rotate_left
     ·intro w hSw; (try dsimp only at hSw); go_simp; (try with_reducible rfl)
     simp only [ps]
     refine tk 19 26 (v := ?_) rfl (hy := .inl ⟨by rfl, ?_⟩) (h := ?_); rotate_left
     ·intro w hSw; (try dsimp only at hSw); go_simp; (try with_reducible rfl)
     simp only [ps]
     refine tk 22 29 (v := ?_) rfl (hy := .inl ⟨by rfl, ?_⟩) (h := ?_); rotate_left
     ·intro w hSw; (try dsimp only at hSw); go_simp; (try with_reducible rfl)
     simp only [ps]
     refine tk 23 30 (v := ?_) rfl (hy := .inl ⟨by rfl, ?_⟩) (h := ?_); rotate_left
     ·intro w hSw; (try dsimp only at hSw); go_simp; (try with_reducible rfl)
     simp only [ps]
     refine tk 24 6 (v := ?_) rfl (hy := .inl ⟨by rfl, ?_⟩) (h := ?_); rotate_left
     ·intro w hSw; (try dsimp only at hSw); go_simp; (try with_reducible rfl)
     simp only [ps]
     clear hHeld
     refine wpAnyH_done (by kernel_rfl) ?_ _
     refine NoPanic.normal ?_
     have bb := bz3
     have Bwz1_3 := Bw0.trans (bb.mono Bw0.size)
     have swz1_3 := bb.size
     replace LC := LC.below bb LC.lt
     replace LS := LS.below bb LS.lt
     replace LB := LB.below bb LB.lt
     clear Bw0
     clear bb bz3 K
     go_wp2
     go_ret
     exact ⟨rfl, Bwz1_3⟩
    ·have e2 : decide (lo ≤ v') = false := by simpa using h2
     rw [e2]
     clear h1 h2
     obtain ⟨w0, hw0⟩ : ∃ w0, (((w.alloc (.cells #[.int .i64 n, .int .i64 f] 25)).alloc (.cells #[.int .i64 vo, .int .i64 lo, .int .i64 v, .string s, .slice ao xs.length ca, .string d] 30)).alloc (.cells #[.string m, .int .i64 v', .string s', .slice bo ys.length cb] 35)) = w0 := ⟨_, rfl⟩
     have Bw0 : Below w.heap.size w w0 := hw0 ▸ (((Below.refl _ _).alloc (Nat.le_refl _) _).alloc (by simp) _).alloc (by simp; omega) _
     have LC : Loc w0 (w.heap.size) #[.int .i64 n, .int .i64 f] := hw0 ▸ ((loc_at (w) _ _ rfl).alloc _).alloc _
     have LS : Loc w0 (w.heap.size + 1) #[.int .i64 vo, .int .i64 lo, .int .i64 v, .string s, .slice ao xs.length ca, .string d] := hw0 ▸ (loc_at (w.alloc _) _ _ (by simp)).alloc _
     have LB : Loc w0 (w.heap.size + 1 + 1) #[.string m, .int .i64 v', .string s', .slice bo ys.length cb] := hw0 ▸ loc_at ((w.alloc _).alloc _) _ _ (by simp)
     have zw0 : w.heap.size + 1 + 1 + 1 ≤ w0.heap.size := by rw [← hw0]; simp
     go_enter Tryz.func61, Tryz.ntmps61
     have K : Hid (∀ w', Below w0.heap.size w0 w' → (fun w' => Below w0.heap.size w0 w' ∧ (w'.cell? ⟨w.heap.size, 0, none⟩ = some (.int .i64 n) ∧ w'.cell? ⟨w.heap.size, 1, none⟩ = some (.int .i64 f)) ∧ (w'.cell? ⟨w.heap.size + 1, 0, none⟩ = some (.int .i64 vo) ∧ w'.cell? ⟨w.heap.size + 1, 1, none⟩ = some (.int .i64 lo) ∧ w'.cell? ⟨w.heap.size + 1, 2, none⟩ = some (.int .i64 v) ∧ w'.cell? ⟨w.heap.size + 1, 3, none⟩ = some (.string s) ∧ w'.cell? ⟨w.heap.size + 1, 4, none⟩ = some (.slice ao xs.length ca) ∧ w'.cell? ⟨w.heap.size + 1, 5, none⟩ = some (.string d)) ∧ (w'.cell? ⟨w.heap.size + 1 + 1, 0, none⟩ = some (.string m) ∧ w'.cell? ⟨w.heap.size + 1 + 1, 1, none⟩ = some (.int .i64 v') ∧ w'.cell? ⟨w.heap.size + 1 + 1, 2, none⟩ = some (.string s') ∧ w'.cell? ⟨w.heap.size + 1 + 1, 3, none⟩ = some (.slice bo ys.length cb))) w') := hide fun w' hb' => ⟨hb', ⟨(LC.below hb' LC.lt).cell 0 rfl, (LC.below hb' LC.lt).cell 1 rfl⟩, ⟨(LS.below hb' LS.lt).cell 0 rfl, (LS.below hb' LS.lt).cell 1 rfl, (LS.below hb' LS.lt).cell 2 rfl, (LS.below hb' LS.lt).cell 3 rfl, (LS.below hb' LS.lt).cell 4 rfl, (LS.below hb' LS.lt).cell 5 rfl⟩, ⟨(LB.below hb' LB.lt).cell 0 rfl, (LB.below hb' LB.lt).cell 1 rfl, (LB.below hb' LB.lt).cell 2 rfl, (LB.below hb' LB.lt).cell 3 rfl⟩⟩
     go_upto_region 1 with fail
     clear hw0
     have bA : Below w0.heap.size w0 w0.drew := Below.drew (Below.refl _ _)
     refine wp_region_noPanic ?_
     refine wp_region_held_drew (S := fun w' => Below w0.heap.size w0 w' ∧ (w'.cell? ⟨w.heap.size, 0, none⟩ = some (.int .i64 n) ∧ w'.cell? ⟨w.heap.size, 1, none⟩ = some (.int .i64 f)) ∧ (w'.cell? ⟨w.heap.size + 1, 0, none⟩ = some (.int .i64 vo) ∧ w'.cell? ⟨w.heap.size + 1, 1, none⟩ = some (.int .i64 lo) ∧ w'.cell? ⟨w.heap.size + 1, 2, none⟩ = some (.int .i64 v) ∧ w'.cell? ⟨w.heap.size + 1, 3, none⟩ = some (.string s) ∧ w'.cell? ⟨w.heap.size + 1, 4, none⟩ = some (.slice ao xs.length ca) ∧ w'.cell? ⟨w.heap.size + 1, 5, none⟩ = some (.string d)) ∧ (w'.cell? ⟨w.heap.size + 1 + 1, 0, none⟩ = some (.string m) ∧ w'.cell? ⟨w.heap.size + 1 + 1, 1, none⟩ = some (.int .i64 v') ∧ w'.cell? ⟨w.heap.size + 1 + 1, 2, none⟩ = some (.string s') ∧ w'.cell? ⟨w.heap.size + 1 + 1, 3, none⟩ = some (.slice bo ys.length cb))) (by kernel_rfl) (unhide K _ bA) (fun hHeld => ?_)
     refine tk 0 7 (v := ?_) rfl (hy := .inl ⟨by rfl, ?_⟩) (h := ?_); rotate_left
     ·intro w hSw; (try dsimp only at hSw); go_simp; (try with_reducible rfl)
     simp only [ps]
     refine tk 1 8 (v := ?_) rfl (hy := .inl ⟨by rfl, ?_⟩) (h := ?_); rotate_left
     ·intro w hSw; (try dsimp only at hSw); go_simp; (try with_reducible rfl)
     simp only [ps]
     refine ready_at (i := 2) rfl (by kernel_rfl) (fun KK hKK => ?_)
     go_simp
     have hgo := bA
     refine (unhide SO _ (Bw0.trans (hgo.mono Bw0.size))).mono ?_
     rintro e wz1_1 ⟨rfl, bb⟩
     have bz1 : Below w0.heap.size w0 wz1_1 := bA.trans (bb.mono bA.size)
     clear bA hgo bb
     clear hHeld
     refine hKK.out _ _ (unhide K _ bz1) (fun hHeld => ?_)
     clear hKK KK
     refine tk 3 10 (v := ?_) rfl (hy := .inl ⟨by rfl, ?_⟩) (h := ?_); rotate_left
     ·intro w hSw; (try dsimp only at hSw); go_simp; (try with_reducible rfl)
     simp only [ps]
     refine tk 4 11 (v := ?_) rfl (hy := .inl ⟨by rfl, ?_⟩) (h := ?_); rotate_left
     ·intro w hSw; (try dsimp only at hSw); go_simp; (try with_reducible rfl)
     simp only [ps]
     refine tk 5 12 (v := ?_) rfl (hy := .inl ⟨by rfl, ?_⟩) (h := ?_); rotate_left
     ·intro w hSw; (try dsimp only at hSw); go_simp; (try with_reducible rfl)
     simp only [ps]
     refine ready_at (i := 6) rfl (by kernel_rfl) (fun KK hKK => ?_)
     go_simp
     have hgo := bz1
     refine (unhide BO _ (Bw0.trans (hgo.mono Bw0.size))).mono ?_
     rintro e wz1_2 ⟨rfl, bb⟩
     have bz2 : Below w0.heap.size w0 wz1_2 := bz1.trans (bb.mono bz1.size)
     clear bz1 hgo bb
     clear hHeld
     refine hKK.out _ _ (unhide K _ bz2) (fun hHeld => ?_)
     clear hKK KK
     refine tk 7 14 (v := ?_) rfl (hy := .inl ⟨by rfl, ?_⟩) (h := ?_); rotate_left
     ·intro w hSw; (try dsimp only at hSw); go_simp; (try with_reducible rfl)
     simp only [ps]
     refine tk 8 15 (v := ?_) rfl (hy := .inl ⟨by rfl, ?_⟩) (h := ?_); rotate_left
     ·intro w hSw; (try dsimp only at hSw); go_simp; (try with_reducible rfl)
     simp only [ps]
     refine tk 9 16 (v := ?_) rfl (hy := .inl ⟨by rfl, ?_⟩) (h := ?_); rotate_left
     ·intro w hSw; (try dsimp only at hSw); go_simp; (try with_reducible rfl)
     simp only [ps]
     refine tk 12 19 (v := ?_) rfl (hy := .inl ⟨by rfl, ?_⟩) (h := ?_); rotate_left
     ·intro w hSw; (try dsimp only at hSw); go_simp; (try with_reducible rfl)
     simp only [ps]
     refine tk 10 17 (v := ?_) rfl (hy := .inl ⟨by rfl, ?_⟩) (h := ?_); rotate_left
     ·intro w hSw; (try dsimp only at hSw); go_simp; (try with_reducible rfl)
     simp only [ps]
     refine tk 13 20 (v := ?_) rfl (hy := .inl ⟨by rfl, ?_⟩) (h := ?_); rotate_left
     ·intro w hSw; (try dsimp only at hSw); go_simp; (try with_reducible rfl)
     simp only [ps]
     refine ready_at (i := 11) rfl (by kernel_rfl) (fun KK hKK => ?_)
     go_simp
     have hgo := bz2
     refine (unhide VO _).mono ?_
     rintro e wz1_3 ⟨rfl, bb⟩
     have bz3 : Below w0.heap.size w0 wz1_3 := bz2.trans (bb.mono bz2.size)
     clear bz2 hgo bb
     clear hHeld
     refine hKK.out _ _ (unhide K _ bz3) (fun hHeld => ?_)
     clear hKK KK
     refine tk 14 21 (v := ?_) rfl (hy := .inl ⟨by rfl, ?_⟩) (h := ?_); rotate_left
     ·intro w hSw; (try dsimp only at hSw); go_simp; (try with_reducible rfl)
     simp only [ps]
     refine tk 15 22 (v := ?_) rfl (hy := .inl ⟨by rfl, ?_⟩) (h := ?_); rotate_left
     ·intro w hSw; (try dsimp only at hSw); go_simp; (try with_reducible rfl)
     simp only [ps]
     refine tk 16 23 (v := ?_) rfl (hy := .inl ⟨by rfl, ?_⟩) (h := ?_); rotate_left
     ·intro w hSw; (try dsimp only at hSw); go_simp; (try with_reducible rfl)
     simp only [ps]
     refine tk 17 24 (v := ?_) rfl (hy := .inl ⟨by rfl, ?_⟩) (h := ?_); rotate_left
     ·intro w hSw; (try dsimp only at hSw); go_simp; (try with_reducible rfl)
     simp only [ps]
     refine tk 20 27 (v := ?_) rfl (hy := .inl ⟨by rfl, ?_⟩) (h := ?_); rotate_left
     ·intro w hSw; (try dsimp only at hSw); go_simp; (try with_reducible rfl)
     simp only [ps]
     refine tk 18 25 (v := ?_) rfl (hy := .inl ⟨by rfl, ?_⟩) (h := ?_); rotate_left
     ·intro w hSw; (try dsimp only at hSw); go_simp; (try with_reducible rfl)
     simp only [ps]
     refine tk 21 28 (v := ?_) rfl (hy := .inl ⟨by rfl, ?_⟩) (h := ?_); rotate_left
     ·intro w hSw; (try dsimp only at hSw); go_simp; (try with_reducible rfl)
     simp only [ps]
     refine tk 19 26 (v := ?_) rfl (hy := .inl ⟨by rfl, ?_⟩) (h := ?_); rotate_left
     ·intro w hSw; (try dsimp only at hSw); go_simp; (try with_reducible rfl)
     simp only [ps]
     refine tk 22 29 (v := ?_) rfl (hy := .inl ⟨by rfl, ?_⟩) (h := ?_); rotate_left
     ·intro w hSw; (try dsimp only at hSw); go_simp; (try with_reducible rfl)
     simp only [ps]
     refine tk 23 30 (v := ?_) rfl (hy := .inl ⟨by rfl, ?_⟩) (h := ?_); rotate_left
     ·intro w hSw; (try dsimp only at hSw); go_simp; (try with_reducible rfl)
     simp only [ps]
     refine tk 24 6 (v := ?_) rfl (hy := .inl ⟨by rfl, ?_⟩) (h := ?_); rotate_left
     ·intro w hSw; (try dsimp only at hSw); go_simp; (try with_reducible rfl)
     simp only [ps]
     clear hHeld
     refine wpAnyH_done (by kernel_rfl) ?_ _
     refine NoPanic.normal ?_
     have bb := bz3
     have Bwz1_3 := Bw0.trans (bb.mono Bw0.size)
     have swz1_3 := bb.size
     replace LC := LC.below bb LC.lt
     replace LS := LS.below bb LS.lt
     replace LB := LB.below bb LB.lt
     clear Bw0
     clear bb bz3 K
     go_wp2
     go_ret
     exact ⟨rfl, Bwz1_3⟩
   ·have e1 : decide (vo < vw) = false := by simpa using h1
    rw [e1]
    simp only [Bool.false_and]
    clear h1
    obtain ⟨w0, hw0⟩ : ∃ w0, (((w.alloc (.cells #[.int .i64 n, .int .i64 f] 25)).alloc (.cells #[.int .i64 vo, .int .i64 lo, .int .i64 v, .string s, .slice ao xs.length ca, .string d] 30)).alloc (.cells #[.string m, .int .i64 v', .string s', .slice bo ys.length cb] 35)) = w0 := ⟨_, rfl⟩
    have Bw0 : Below w.heap.size w w0 := hw0 ▸ (((Below.refl _ _).alloc (Nat.le_refl _) _).alloc (by simp) _).alloc (by simp; omega) _
    have LC : Loc w0 (w.heap.size) #[.int .i64 n, .int .i64 f] := hw0 ▸ ((loc_at (w) _ _ rfl).alloc _).alloc _
    have LS : Loc w0 (w.heap.size + 1) #[.int .i64 vo, .int .i64 lo, .int .i64 v, .string s, .slice ao xs.length ca, .string d] := hw0 ▸ (loc_at (w.alloc _) _ _ (by simp)).alloc _
    have LB : Loc w0 (w.heap.size + 1 + 1) #[.string m, .int .i64 v', .string s', .slice bo ys.length cb] := hw0 ▸ loc_at ((w.alloc _).alloc _) _ _ (by simp)
    have zw0 : w.heap.size + 1 + 1 + 1 ≤ w0.heap.size := by rw [← hw0]; simp
    go_enter Tryz.func61, Tryz.ntmps61
    have K : Hid (∀ w', Below w0.heap.size w0 w' → (fun w' => Below w0.heap.size w0 w' ∧ (w'.cell? ⟨w.heap.size, 0, none⟩ = some (.int .i64 n) ∧ w'.cell? ⟨w.heap.size, 1, none⟩ = some (.int .i64 f)) ∧ (w'.cell? ⟨w.heap.size + 1, 0, none⟩ = some (.int .i64 vo) ∧ w'.cell? ⟨w.heap.size + 1, 1, none⟩ = some (.int .i64 lo) ∧ w'.cell? ⟨w.heap.size + 1, 2, none⟩ = some (.int .i64 v) ∧ w'.cell? ⟨w.heap.size + 1, 3, none⟩ = some (.string s) ∧ w'.cell? ⟨w.heap.size + 1, 4, none⟩ = some (.slice ao xs.length ca) ∧ w'.cell? ⟨w.heap.size + 1, 5, none⟩ = some (.string d)) ∧ (w'.cell? ⟨w.heap.size + 1 + 1, 0, none⟩ = some (.string m) ∧ w'.cell? ⟨w.heap.size + 1 + 1, 1, none⟩ = some (.int .i64 v') ∧ w'.cell? ⟨w.heap.size + 1 + 1, 2, none⟩ = some (.string s') ∧ w'.cell? ⟨w.heap.size + 1 + 1, 3, none⟩ = some (.slice bo ys.length cb))) w') := hide fun w' hb' => ⟨hb', ⟨(LC.below hb' LC.lt).cell 0 rfl, (LC.below hb' LC.lt).cell 1 rfl⟩, ⟨(LS.below hb' LS.lt).cell 0 rfl, (LS.below hb' LS.lt).cell 1 rfl, (LS.below hb' LS.lt).cell 2 rfl, (LS.below hb' LS.lt).cell 3 rfl, (LS.below hb' LS.lt).cell 4 rfl, (LS.below hb' LS.lt).cell 5 rfl⟩, ⟨(LB.below hb' LB.lt).cell 0 rfl, (LB.below hb' LB.lt).cell 1 rfl, (LB.below hb' LB.lt).cell 2 rfl, (LB.below hb' LB.lt).cell 3 rfl⟩⟩
    go_upto_region 1 with fail
    clear hw0
    have bA : Below w0.heap.size w0 w0.drew := Below.drew (Below.refl _ _)
    refine wp_region_noPanic ?_
    refine wp_region_held_drew (S := fun w' => Below w0.heap.size w0 w' ∧ (w'.cell? ⟨w.heap.size, 0, none⟩ = some (.int .i64 n) ∧ w'.cell? ⟨w.heap.size, 1, none⟩ = some (.int .i64 f)) ∧ (w'.cell? ⟨w.heap.size + 1, 0, none⟩ = some (.int .i64 vo) ∧ w'.cell? ⟨w.heap.size + 1, 1, none⟩ = some (.int .i64 lo) ∧ w'.cell? ⟨w.heap.size + 1, 2, none⟩ = some (.int .i64 v) ∧ w'.cell? ⟨w.heap.size + 1, 3, none⟩ = some (.string s) ∧ w'.cell? ⟨w.heap.size + 1, 4, none⟩ = some (.slice ao xs.length ca) ∧ w'.cell? ⟨w.heap.size + 1, 5, none⟩ = some (.string d)) ∧ (w'.cell? ⟨w.heap.size + 1 + 1, 0, none⟩ = some (.string m) ∧ w'.cell? ⟨w.heap.size + 1 + 1, 1, none⟩ = some (.int .i64 v') ∧ w'.cell? ⟨w.heap.size + 1 + 1, 2, none⟩ = some (.string s') ∧ w'.cell? ⟨w.heap.size + 1 + 1, 3, none⟩ = some (.slice bo ys.length cb))) (by kernel_rfl) (unhide K _ bA) (fun hHeld => ?_)
    refine tk 0 7 (v := ?_) rfl (hy := .inl ⟨by rfl, ?_⟩) (h := ?_); rotate_left
    ·intro w hSw; (try dsimp only at hSw); go_simp; (try with_reducible rfl)
    simp only [ps]
    refine tk 1 8 (v := ?_) rfl (hy := .inl ⟨by rfl, ?_⟩) (h := ?_); rotate_left
    ·intro w hSw; (try dsimp only at hSw); go_simp; (try with_reducible rfl)
    simp only [ps]
    refine ready_at (i := 2) rfl (by kernel_rfl) (fun KK hKK => ?_)
    go_simp
    have hgo := bA
    refine (unhide SO _ (Bw0.trans (hgo.mono Bw0.size))).mono ?_
    rintro e wz1_1 ⟨rfl, bb⟩
    have bz1 : Below w0.heap.size w0 wz1_1 := bA.trans (bb.mono bA.size)
    clear bA hgo bb
    clear hHeld
    refine hKK.out _ _ (unhide K _ bz1) (fun hHeld => ?_)
    clear hKK KK
    refine tk 3 10 (v := ?_) rfl (hy := .inl ⟨by rfl, ?_⟩) (h := ?_); rotate_left
    ·intro w hSw; (try dsimp only at hSw); go_simp; (try with_reducible rfl)
    simp only [ps]
    refine tk 4 11 (v := ?_) rfl (hy := .inl ⟨by rfl, ?_⟩) (h := ?_); rotate_left
    ·intro w hSw; (try dsimp only at hSw); go_simp; (try with_reducible rfl)
    simp only [ps]
    refine tk 5 12 (v := ?_) rfl (hy := .inl ⟨by rfl, ?_⟩) (h := ?_); rotate_left
    ·intro w hSw; (try dsimp only at hSw); go_simp; (try with_reducible rfl)
    simp only [ps]
    refine ready_at (i := 6) rfl (by kernel_rfl) (fun KK hKK => ?_)
    go_simp
    have hgo := bz1
    refine (unhide BO _ (Bw0.trans (hgo.mono Bw0.size))).mono ?_
    rintro e wz1_2 ⟨rfl, bb⟩
    have bz2 : Below w0.heap.size w0 wz1_2 := bz1.trans (bb.mono bz1.size)
    clear bz1 hgo bb
    clear hHeld
    refine hKK.out _ _ (unhide K _ bz2) (fun hHeld => ?_)
    clear hKK KK
    refine tk 7 14 (v := ?_) rfl (hy := .inl ⟨by rfl, ?_⟩) (h := ?_); rotate_left
    ·intro w hSw; (try dsimp only at hSw); go_simp; (try with_reducible rfl)
    simp only [ps]
    refine tk 8 15 (v := ?_) rfl (hy := .inl ⟨by rfl, ?_⟩) (h := ?_); rotate_left
    ·intro w hSw; (try dsimp only at hSw); go_simp; (try with_reducible rfl)
    simp only [ps]
    refine tk 9 16 (v := ?_) rfl (hy := .inl ⟨by rfl, ?_⟩) (h := ?_); rotate_left
    ·intro w hSw; (try dsimp only at hSw); go_simp; (try with_reducible rfl)
    simp only [ps]
    refine tk 12 19 (v := ?_) rfl (hy := .inl ⟨by rfl, ?_⟩) (h := ?_); rotate_left
    ·intro w hSw; (try dsimp only at hSw); go_simp; (try with_reducible rfl)
    simp only [ps]
    refine tk 10 17 (v := ?_) rfl (hy := .inl ⟨by rfl, ?_⟩) (h := ?_); rotate_left
    ·intro w hSw; (try dsimp only at hSw); go_simp; (try with_reducible rfl)
    simp only [ps]
    refine tk 13 20 (v := ?_) rfl (hy := .inl ⟨by rfl, ?_⟩) (h := ?_); rotate_left
    ·intro w hSw; (try dsimp only at hSw); go_simp; (try with_reducible rfl)
    simp only [ps]
    refine ready_at (i := 11) rfl (by kernel_rfl) (fun KK hKK => ?_)
    go_simp
    have hgo := bz2
    refine (unhide VO _).mono ?_
    rintro e wz1_3 ⟨rfl, bb⟩
    have bz3 : Below w0.heap.size w0 wz1_3 := bz2.trans (bb.mono bz2.size)
    clear bz2 hgo bb
    clear hHeld
    refine hKK.out _ _ (unhide K _ bz3) (fun hHeld => ?_)
    clear hKK KK
    refine tk 14 21 (v := ?_) rfl (hy := .inl ⟨by rfl, ?_⟩) (h := ?_); rotate_left
    ·intro w hSw; (try dsimp only at hSw); go_simp; (try with_reducible rfl)
    simp only [ps]
    refine tk 15 22 (v := ?_) rfl (hy := .inl ⟨by rfl, ?_⟩) (h := ?_); rotate_left
    ·intro w hSw; (try dsimp only at hSw); go_simp; (try with_reducible rfl)
    simp only [ps]
    refine tk 16 23 (v := ?_) rfl (hy := .inl ⟨by rfl, ?_⟩) (h := ?_); rotate_left
    ·intro w hSw; (try dsimp only at hSw); go_simp; (try with_reducible rfl)
    simp only [ps]
    refine sk 17 24 rfl (h := ?_)
    simp only [ps]
    refine sk 20 27 rfl (h := ?_)
    simp only [ps]
    refine sk 18 25 rfl (h := ?_)
    simp only [ps]
    refine sk 21 28 rfl (h := ?_)
    simp only [ps]
    refine sk 19 26 rfl (h := ?_)
    simp only [ps]
    refine sk 22 29 rfl (h := ?_)
    simp only [ps]
    refine tk 23 30 (v := ?_) rfl (hy := .inl ⟨by rfl, ?_⟩) (h := ?_); rotate_left
    ·intro w hSw; (try dsimp only at hSw); go_simp; (try with_reducible rfl)
    simp only [ps]
    refine tk 24 6 (v := ?_) rfl (hy := .inl ⟨by rfl, ?_⟩) (h := ?_); rotate_left
    ·intro w hSw; (try dsimp only at hSw); go_simp; (try with_reducible rfl)
    simp only [ps]
    clear hHeld
    refine wpAnyH_done (by kernel_rfl) ?_ _
    refine NoPanic.normal ?_
    have bb := bz3
    have Bwz1_3 := Bw0.trans (bb.mono Bw0.size)
    have swz1_3 := bb.size
    replace LC := LC.below bb LC.lt
    replace LS := LS.below bb LS.lt
    replace LB := LB.below bb LB.lt
    clear Bw0
    clear bb bz3 K
    go_wp2
    go_ret
    exact ⟨rfl, Bwz1_3⟩

set_option maxHeartbeats 16000000 in
set_option maxRecDepth 100000 in
theorem implVote (n f : Int) (vo lo v : Int) (s : ByteArray) (ao : Option Addr) (ca : Nat) (xs : List Int) (d : ByteArray) (m : ByteArray) (v' : Int) (s' : ByteArray) (bo : Option Addr) (cb : Nat) (ys : List Int) (w : World) (hs : s.size ≤ 33554432) (hd : d.size ≤ 33554432) (hm : m.size ≤ 33554432) (hs' : s'.size ≤ 33554432) (hE : Env w) (ha : RI w (.slice ao xs.length ca) xs) (hb : RI w (.slice bo ys.length cb) ys) :
 Calls Tryz.prog 9 #[cv n f, sv vo lo v s (.slice ao xs.length ca) d, bv m v' s' (.slice bo ys.length cb)] w fun e w' => ∃ u, e = .returned (.tuple #[sv (votV (mayB n f vo lo v s xs d m v' s' ys) vo m) lo v s u d, .bool (mayB n f vo lo v s xs d m v' s' ys)]) ∧ OI w' w.heap.size u xs ∧ Below w.heap.size w w' := by
 have MV := hide fun w' (h : Below w.heap.size w w') => implMayVote n f vo lo v s ao ca xs d m v' s' bo cb ys w' hs hd hm hs' (hE.below h) (ha.below h (Nat.le_refl _)) (hb.below h (Nat.le_refl _))
 have VT := hide fun w' (h : Below w.heap.size w w') => voting_any vo lo v s ao xs.length ca d m v' s' bo ys.length cb w' hm (hE.below h)
 have TO := hide fun z w' (h : Below w.heap.size w w') => stold_any z lo v s ao ca xs d w' (by omega) (by omega) (ha.below h (Nat.le_refl _))
 clear ha hb hE
 generalize mayB n f vo lo v s xs d m v' s' ys = g at *
 have HT := hide (show votV true vo m = viewAns m from rfl)
 have HF := hide (show votV false vo m = vo from rfl)
 generalize viewAns m = vw at *
 cases g
 ·rw [unhide HF]
  clear HT HF
  obtain ⟨w0, hw0⟩ : ∃ w0, ((((w.alloc (.cells #[.int .i64 n, .int .i64 f] 25)).alloc (.cells #[.int .i64 vo, .int .i64 lo, .int .i64 v, .string s, .slice ao xs.length ca, .string d] 30)).alloc (.cells #[.string m, .int .i64 v', .string s', .slice bo ys.length cb] 35)).alloc (.cells #[.int .i64 0, .int .i64 0, .int .i64 0, .string ⟨#[]⟩, .slice none 0 0, .string ⟨#[]⟩] 30)) = w0 := ⟨_, rfl⟩
  have Bw0 : Below w.heap.size w w0 := hw0 ▸ ((((Below.refl _ _).alloc (Nat.le_refl _) _).alloc (by simp) _).alloc (by simp; omega) _).alloc (by simp; omega) _
  have LC : Loc w0 (w.heap.size) #[.int .i64 n, .int .i64 f] := hw0 ▸ (((loc_at (w) _ _ rfl).alloc _).alloc _).alloc _
  have LS : Loc w0 (w.heap.size + 1) #[.int .i64 vo, .int .i64 lo, .int .i64 v, .string s, .slice ao xs.length ca, .string d] := hw0 ▸ ((loc_at (w.alloc _) _ _ (by simp)).alloc _).alloc _
  have LB : Loc w0 (w.heap.size + 1 + 1) #[.string m, .int .i64 v', .string s', .slice bo ys.length cb] := hw0 ▸ (loc_at ((w.alloc _).alloc _) _ _ (by simp)).alloc _
  have LZ : Loc w0 (w.heap.size + 1 + 1 + 1) #[.int .i64 0, .int .i64 0, .int .i64 0, .string ⟨#[]⟩, .slice none 0 0, .string ⟨#[]⟩] := hw0 ▸ loc_at (((w.alloc _).alloc _).alloc _) _ _ (by simp)
  have zw0 : w.heap.size + 1 + 1 + 1 + 1 ≤ w0.heap.size := by rw [← hw0]; simp
  go_enter Tryz.func9, Tryz.ntmps9
  have cLC0 := LC.cell 0 rfl
  have cLC1 := LC.cell 1 rfl
  have cLS0 := LS.cell 0 rfl
  have cLS1 := LS.cell 1 rfl
  have cLS2 := LS.cell 2 rfl
  have cLS3 := LS.cell 3 rfl
  have cLS4 := LS.cell 4 rfl
  have cLS5 := LS.cell 5 rfl
  have cLB0 := LB.cell 0 rfl
  have cLB1 := LB.cell 1 rfl
  have cLB2 := LB.cell 2 rfl
  have cLB3 := LB.cell 3 rfl
  go_wp2_with fail
  clear hw0
  refine (unhide MV _ Bw0).mono ?_
  rintro _ w1 ⟨rfl, bb⟩
  clear cLC0 cLC1 cLS0 cLS1 cLS2 cLS3 cLS4 cLS5 cLB0 cLB1 cLB2 cLB3
  have Bw1 := Bw0.trans (bb.mono Bw0.size)
  have sw1 := bb.size
  replace LC := LC.below bb LC.lt
  replace LS := LS.below bb LS.lt
  replace LB := LB.below bb LB.lt
  replace LZ := LZ.below bb LZ.lt
  clear Bw0
  clear bb
  have cLS0 := LS.cell 0 rfl
  have cLS1 := LS.cell 1 rfl
  have cLS2 := LS.cell 2 rfl
  have cLS3 := LS.cell 3 rfl
  have cLS4 := LS.cell 4 rfl
  have cLS5 := LS.cell 5 rfl
  go_wp2_with fail
  refine (unhide TO vo _ Bw1).mono ?_
  rintro _ w2 ⟨u1, rfl, o1, bb⟩
  clear cLS0 cLS1 cLS2 cLS3 cLS4 cLS5
  have Bw2 := Bw1.trans (bb.mono Bw1.size)
  have sw2 := bb.size
  replace LC := LC.below bb LC.lt
  replace LS := LS.below bb LS.lt
  replace LB := LB.below bb LB.lt
  replace LZ := LZ.below bb LZ.lt
  clear Bw1
  clear bb
  have to1 := World.ownsRow.lt o1
  obtain ⟨ao1, ko1, rfl⟩ := o1.form
  have K6 := kp6 w2 (w.heap.size + 1 + 1 + 1) (.int .i64 vo) (.int .i64 lo) (.int .i64 v) (.string s) (.slice ao1 xs.length ko1) (.string d)
  have cLZ0 := LZ.cell 0 rfl
  have cLZ1 := LZ.cell 1 rfl
  have cLZ2 := LZ.cell 2 rfl
  have cLZ3 := LZ.cell 3 rfl
  have cLZ4 := LZ.cell 4 rfl
  have cLZ5 := LZ.cell 5 rfl
  have fLZ := LZ.frozen
  go_wp2
  refine bodyPost_ret (v := .tuple #[sv (vo) (lo) (v) (s) (.slice ao1 xs.length ko1) (d), .bool false]) (by simp [results, Tryz.results9, go_sem, cLZ0, cLZ1, cLZ2, cLZ3, cLZ4, cLZ5]) rfl ?_
  exact ⟨_, rfl, (o1.kp K6 (fun j hj e => by have := to1 j hj; omega)).mono (by omega), Below.kp Bw2 K6 Bw2.size (fun k hk => by omega)⟩
 ·rw [unhide HT]
  clear HT HF
  obtain ⟨w0, hw0⟩ : ∃ w0, ((((w.alloc (.cells #[.int .i64 n, .int .i64 f] 25)).alloc (.cells #[.int .i64 vo, .int .i64 lo, .int .i64 v, .string s, .slice ao xs.length ca, .string d] 30)).alloc (.cells #[.string m, .int .i64 v', .string s', .slice bo ys.length cb] 35)).alloc (.cells #[.int .i64 0, .int .i64 0, .int .i64 0, .string ⟨#[]⟩, .slice none 0 0, .string ⟨#[]⟩] 30)) = w0 := ⟨_, rfl⟩
  have Bw0 : Below w.heap.size w w0 := hw0 ▸ ((((Below.refl _ _).alloc (Nat.le_refl _) _).alloc (by simp) _).alloc (by simp; omega) _).alloc (by simp; omega) _
  have LC : Loc w0 (w.heap.size) #[.int .i64 n, .int .i64 f] := hw0 ▸ (((loc_at (w) _ _ rfl).alloc _).alloc _).alloc _
  have LS : Loc w0 (w.heap.size + 1) #[.int .i64 vo, .int .i64 lo, .int .i64 v, .string s, .slice ao xs.length ca, .string d] := hw0 ▸ ((loc_at (w.alloc _) _ _ (by simp)).alloc _).alloc _
  have LB : Loc w0 (w.heap.size + 1 + 1) #[.string m, .int .i64 v', .string s', .slice bo ys.length cb] := hw0 ▸ (loc_at ((w.alloc _).alloc _) _ _ (by simp)).alloc _
  have LZ : Loc w0 (w.heap.size + 1 + 1 + 1) #[.int .i64 0, .int .i64 0, .int .i64 0, .string ⟨#[]⟩, .slice none 0 0, .string ⟨#[]⟩] := hw0 ▸ loc_at (((w.alloc _).alloc _).alloc _) _ _ (by simp)
  have zw0 : w.heap.size + 1 + 1 + 1 + 1 ≤ w0.heap.size := by rw [← hw0]; simp
  go_enter Tryz.func9, Tryz.ntmps9
  have cLC0 := LC.cell 0 rfl
  have cLC1 := LC.cell 1 rfl
  have cLS0 := LS.cell 0 rfl
  have cLS1 := LS.cell 1 rfl
  have cLS2 := LS.cell 2 rfl
  have cLS3 := LS.cell 3 rfl
  have cLS4 := LS.cell 4 rfl
  have cLS5 := LS.cell 5 rfl
  have cLB0 := LB.cell 0 rfl
  have cLB1 := LB.cell 1 rfl
  have cLB2 := LB.cell 2 rfl
  have cLB3 := LB.cell 3 rfl
  go_wp2_with fail
  clear hw0
  refine (unhide MV _ Bw0).mono ?_
  rintro _ w1 ⟨rfl, bb⟩
  clear cLC0 cLC1 cLS0 cLS1 cLS2 cLS3 cLS4 cLS5 cLB0 cLB1 cLB2 cLB3
  have Bw1 := Bw0.trans (bb.mono Bw0.size)
  have sw1 := bb.size
  replace LC := LC.below bb LC.lt
  replace LS := LS.below bb LS.lt
  replace LB := LB.below bb LB.lt
  replace LZ := LZ.below bb LZ.lt
  clear Bw0
  clear bb
  have cLS0 := LS.cell 0 rfl
  have cLS1 := LS.cell 1 rfl
  have cLS2 := LS.cell 2 rfl
  have cLS3 := LS.cell 3 rfl
  have cLS4 := LS.cell 4 rfl
  have cLS5 := LS.cell 5 rfl
  have cLB0 := LB.cell 0 rfl
  have cLB1 := LB.cell 1 rfl
  have cLB2 := LB.cell 2 rfl
  have cLB3 := LB.cell 3 rfl
  go_wp2_with fail
  refine (unhide VT _ Bw1).mono ?_
  rintro _ w2 ⟨rfl, bb⟩
  clear cLS0 cLS1 cLS2 cLS3 cLS4 cLS5 cLB0 cLB1 cLB2 cLB3
  have Bw2 := Bw1.trans (bb.mono Bw1.size)
  have sw2 := bb.size
  replace LC := LC.below bb LC.lt
  replace LS := LS.below bb LS.lt
  replace LB := LB.below bb LB.lt
  replace LZ := LZ.below bb LZ.lt
  clear Bw1
  clear bb
  go_wp2_with fail
  refine (unhide TO vw _ Bw2).mono ?_
  rintro _ w3 ⟨u1, rfl, o1, bb⟩
  have Bw3 := Bw2.trans (bb.mono Bw2.size)
  have sw3 := bb.size
  replace LC := LC.below bb LC.lt
  replace LS := LS.below bb LS.lt
  replace LB := LB.below bb LB.lt
  replace LZ := LZ.below bb LZ.lt
  clear Bw2
  clear bb
  have to1 := World.ownsRow.lt o1
  obtain ⟨ao1, ko1, rfl⟩ := o1.form
  have K6 := kp6 w3 (w.heap.size + 1 + 1 + 1) (.int .i64 vw) (.int .i64 lo) (.int .i64 v) (.string s) (.slice ao1 xs.length ko1) (.string d)
  have cLZ0 := LZ.cell 0 rfl
  have cLZ1 := LZ.cell 1 rfl
  have cLZ2 := LZ.cell 2 rfl
  have cLZ3 := LZ.cell 3 rfl
  have cLZ4 := LZ.cell 4 rfl
  have cLZ5 := LZ.cell 5 rfl
  have fLZ := LZ.frozen
  go_wp2
  refine bodyPost_ret (v := .tuple #[sv (vw) (lo) (v) (s) (.slice ao1 xs.length ko1) (d), .bool true]) (by simp [results, Tryz.results9, go_sem, cLZ0, cLZ1, cLZ2, cLZ3, cLZ4, cLZ5]) rfl ?_
  exact ⟨_, rfl, (o1.kp K6 (fun j hj e => by have := to1 j hj; omega)).mono (by omega), Below.kp Bw3 K6 Bw3.size (fun k hk => by omega)⟩

set_option maxHeartbeats 16000000 in
set_option maxRecDepth 100000 in
theorem specVote (n f : Int) (vo lo v : Int) (s : ByteArray) (ao : Option Addr) (ca : Nat) (xs : List Int) (d : ByteArray) (m : ByteArray) (v' : Int) (s' : ByteArray) (bo : Option Addr) (cb : Nat) (ys : List Int) (w : World) (hs : s.size ≤ 1048576) (hd : d.size ≤ 1048576) (hm : m.size ≤ 1048576) (hs' : s'.size ≤ 1048576) (ha : RI w (.slice ao xs.length ca) xs) (hb : RI w (.slice bo ys.length cb) ys) :
 Calls Tryz.prog 10 #[cv n f, sv vo lo v s (.slice ao xs.length ca) d, bv m v' s' (.slice bo ys.length cb)] w fun e w' => ∃ u, e = .returned (.tuple #[sv (votV (mayB n f vo lo v s xs d m v' s' ys) vo m) lo v s u d, .bool (mayB n f vo lo v s xs d m v' s' ys)]) ∧ OI w' w.heap.size u xs ∧ Below w.heap.size w w' := by
 have MV := hide fun w' (h : Below w.heap.size w w') => specMayVote n f vo lo v s ao ca xs d m v' s' bo cb ys w' hs hd hm hs' (ha.below h (Nat.le_refl _)) (hb.below h (Nat.le_refl _))
 have VO := hide fun w' => specViewOf m w' (by omega)
 have TO := hide fun w' (h : Below w.heap.size w w') => l11Copy_any vo lo v s ao ca xs d w' (ha.below h (Nat.le_refl _))
 clear ha hb
 generalize mayB n f vo lo v s xs d m v' s' ys = g at *
 have HT := hide (show votV true vo m = viewAns m from rfl)
 have HF := hide (show votV false vo m = vo from rfl)
 generalize viewAns m = vw at *
 cases g
 ·rw [unhide HF]
  clear HT HF
  obtain ⟨w0, hw0⟩ : ∃ w0, ((((w.alloc (.cells #[.int .i64 n, .int .i64 f] 25)).alloc (.cells #[.int .i64 vo, .int .i64 lo, .int .i64 v, .string s, .slice ao xs.length ca, .string d] 30)).alloc (.cells #[.string m, .int .i64 v', .string s', .slice bo ys.length cb] 35)).alloc (.cells #[.int .i64 0, .int .i64 0, .int .i64 0, .string ⟨#[]⟩, .slice none 0 0, .string ⟨#[]⟩] 30)) = w0 := ⟨_, rfl⟩
  have Bw0 : Below w.heap.size w w0 := hw0 ▸ ((((Below.refl _ _).alloc (Nat.le_refl _) _).alloc (by simp) _).alloc (by simp; omega) _).alloc (by simp; omega) _
  have LC : Loc w0 (w.heap.size) #[.int .i64 n, .int .i64 f] := hw0 ▸ (((loc_at (w) _ _ rfl).alloc _).alloc _).alloc _
  have LS : Loc w0 (w.heap.size + 1) #[.int .i64 vo, .int .i64 lo, .int .i64 v, .string s, .slice ao xs.length ca, .string d] := hw0 ▸ ((loc_at (w.alloc _) _ _ (by simp)).alloc _).alloc _
  have LB : Loc w0 (w.heap.size + 1 + 1) #[.string m, .int .i64 v', .string s', .slice bo ys.length cb] := hw0 ▸ (loc_at ((w.alloc _).alloc _) _ _ (by simp)).alloc _
  have LZ : Loc w0 (w.heap.size + 1 + 1 + 1) #[.int .i64 0, .int .i64 0, .int .i64 0, .string ⟨#[]⟩, .slice none 0 0, .string ⟨#[]⟩] := hw0 ▸ loc_at (((w.alloc _).alloc _).alloc _) _ _ (by simp)
  have zw0 : w.heap.size + 1 + 1 + 1 + 1 ≤ w0.heap.size := by rw [← hw0]; simp
  go_enter Tryz.func10, Tryz.ntmps10
  have cLS0 := LS.cell 0 rfl
  have cLS1 := LS.cell 1 rfl
  have cLS2 := LS.cell 2 rfl
  have cLS3 := LS.cell 3 rfl
  have cLS4 := LS.cell 4 rfl
  have cLS5 := LS.cell 5 rfl
  go_wp2_with fail
  clear hw0
  refine (unhide TO _ Bw0).mono ?_
  rintro _ w1 ⟨u1, rfl, o1, bb⟩
  clear cLS0 cLS1 cLS2 cLS3 cLS4 cLS5
  have Bw1 := Bw0.trans (bb.mono Bw0.size)
  have sw1 := bb.size
  replace LC := LC.below bb LC.lt
  replace LS := LS.below bb LS.lt
  replace LB := LB.below bb LB.lt
  replace LZ := LZ.below bb LZ.lt
  clear Bw0
  clear bb
  have to1 := World.ownsRow.lt o1
  obtain ⟨ao1, ko1, rfl⟩ := o1.form
  obtain ⟨w2, hw2⟩ : ∃ x, w1.alloc (.cells #[.int .i64 vo, .int .i64 lo, .int .i64 v, .string s, .slice ao1 xs.length ko1, .string d] 30) = x := ⟨_, rfl⟩
  have bb : Below w1.heap.size w1 w2 := hw2 ▸ qalloc _ _
  have LO : Loc w2 w1.heap.size #[.int .i64 vo, .int .i64 lo, .int .i64 v, .string s, .slice ao1 xs.length ko1, .string d] := hw2 ▸ loc_at w1 _ _ rfl
  have zw2 : w2.heap.size = w1.heap.size + 1 := by rw [← hw2]; simp
  have Bw2 := Bw1.trans (bb.mono Bw1.size)
  have sw2 := bb.size
  replace LC := LC.below bb LC.lt
  replace LS := LS.below bb LS.lt
  replace LB := LB.below bb LB.lt
  replace LZ := LZ.below bb LZ.lt
  replace o1 := o1.below bb
  clear Bw1
  clear bb
  have cLC0 := LC.cell 0 rfl
  have cLC1 := LC.cell 1 rfl
  have cLS0 := LS.cell 0 rfl
  have cLS1 := LS.cell 1 rfl
  have cLS2 := LS.cell 2 rfl
  have cLS3 := LS.cell 3 rfl
  have cLS4 := LS.cell 4 rfl
  have cLS5 := LS.cell 5 rfl
  have cLB0 := LB.cell 0 rfl
  have cLB1 := LB.cell 1 rfl
  have cLB2 := LB.cell 2 rfl
  have cLB3 := LB.cell 3 rfl
  go_wp2_with fail
  clear hw2
  refine (unhide MV _ Bw2).mono ?_
  rintro _ w3 ⟨rfl, bb⟩
  clear cLC0 cLC1 cLS0 cLS1 cLS2 cLS3 cLS4 cLS5 cLB0 cLB1 cLB2 cLB3
  have Bw3 := Bw2.trans (bb.mono Bw2.size)
  have sw3 := bb.size
  replace LC := LC.below bb LC.lt
  replace LS := LS.below bb LS.lt
  replace LB := LB.below bb LB.lt
  replace LZ := LZ.below bb LZ.lt
  replace LO := LO.below bb LO.lt
  replace o1 := o1.below bb
  clear Bw2
  clear bb
  have K6 := kp6 w3 (w.heap.size + 1 + 1 + 1) (.int .i64 vo) (.int .i64 lo) (.int .i64 v) (.string s) (.slice ao1 xs.length ko1) (.string d)
  have cLZ0 := LZ.cell 0 rfl
  have cLZ1 := LZ.cell 1 rfl
  have cLZ2 := LZ.cell 2 rfl
  have cLZ3 := LZ.cell 3 rfl
  have cLZ4 := LZ.cell 4 rfl
  have cLZ5 := LZ.cell 5 rfl
  have cLO0 := LO.cell 0 rfl
  have cLO1 := LO.cell 1 rfl
  have cLO2 := LO.cell 2 rfl
  have cLO3 := LO.cell 3 rfl
  have cLO4 := LO.cell 4 rfl
  have cLO5 := LO.cell 5 rfl
  have fLZ := LZ.frozen
  go_wp2
  refine bodyPost_ret (v := .tuple #[sv (vo) (lo) (v) (s) (.slice ao1 xs.length ko1) (d), .bool false]) (by simp [results, Tryz.results10, go_sem, cLZ0, cLZ1, cLZ2, cLZ3, cLZ4, cLZ5]) rfl ?_
  exact ⟨_, rfl, (o1.kp K6 (fun j hj e => by have := to1 j hj; omega)).mono (by omega), Below.kp Bw3 K6 Bw3.size (fun k hk => by omega)⟩
 ·rw [unhide HT]
  clear HT HF
  obtain ⟨w0, hw0⟩ : ∃ w0, ((((w.alloc (.cells #[.int .i64 n, .int .i64 f] 25)).alloc (.cells #[.int .i64 vo, .int .i64 lo, .int .i64 v, .string s, .slice ao xs.length ca, .string d] 30)).alloc (.cells #[.string m, .int .i64 v', .string s', .slice bo ys.length cb] 35)).alloc (.cells #[.int .i64 0, .int .i64 0, .int .i64 0, .string ⟨#[]⟩, .slice none 0 0, .string ⟨#[]⟩] 30)) = w0 := ⟨_, rfl⟩
  have Bw0 : Below w.heap.size w w0 := hw0 ▸ ((((Below.refl _ _).alloc (Nat.le_refl _) _).alloc (by simp) _).alloc (by simp; omega) _).alloc (by simp; omega) _
  have LC : Loc w0 (w.heap.size) #[.int .i64 n, .int .i64 f] := hw0 ▸ (((loc_at (w) _ _ rfl).alloc _).alloc _).alloc _
  have LS : Loc w0 (w.heap.size + 1) #[.int .i64 vo, .int .i64 lo, .int .i64 v, .string s, .slice ao xs.length ca, .string d] := hw0 ▸ ((loc_at (w.alloc _) _ _ (by simp)).alloc _).alloc _
  have LB : Loc w0 (w.heap.size + 1 + 1) #[.string m, .int .i64 v', .string s', .slice bo ys.length cb] := hw0 ▸ (loc_at ((w.alloc _).alloc _) _ _ (by simp)).alloc _
  have LZ : Loc w0 (w.heap.size + 1 + 1 + 1) #[.int .i64 0, .int .i64 0, .int .i64 0, .string ⟨#[]⟩, .slice none 0 0, .string ⟨#[]⟩] := hw0 ▸ loc_at (((w.alloc _).alloc _).alloc _) _ _ (by simp)
  have zw0 : w.heap.size + 1 + 1 + 1 + 1 ≤ w0.heap.size := by rw [← hw0]; simp
  go_enter Tryz.func10, Tryz.ntmps10
  have cLS0 := LS.cell 0 rfl
  have cLS1 := LS.cell 1 rfl
  have cLS2 := LS.cell 2 rfl
  have cLS3 := LS.cell 3 rfl
  have cLS4 := LS.cell 4 rfl
  have cLS5 := LS.cell 5 rfl
  go_wp2_with fail
  clear hw0
  refine (unhide TO _ Bw0).mono ?_
  rintro _ w1 ⟨u1, rfl, o1, bb⟩
  clear cLS0 cLS1 cLS2 cLS3 cLS4 cLS5
  have Bw1 := Bw0.trans (bb.mono Bw0.size)
  have sw1 := bb.size
  replace LC := LC.below bb LC.lt
  replace LS := LS.below bb LS.lt
  replace LB := LB.below bb LB.lt
  replace LZ := LZ.below bb LZ.lt
  clear Bw0
  clear bb
  have to1 := World.ownsRow.lt o1
  obtain ⟨ao1, ko1, rfl⟩ := o1.form
  obtain ⟨w2, hw2⟩ : ∃ x, w1.alloc (.cells #[.int .i64 vo, .int .i64 lo, .int .i64 v, .string s, .slice ao1 xs.length ko1, .string d] 30) = x := ⟨_, rfl⟩
  have bb : Below w1.heap.size w1 w2 := hw2 ▸ qalloc _ _
  have LO : Loc w2 w1.heap.size #[.int .i64 vo, .int .i64 lo, .int .i64 v, .string s, .slice ao1 xs.length ko1, .string d] := hw2 ▸ loc_at w1 _ _ rfl
  have zw2 : w2.heap.size = w1.heap.size + 1 := by rw [← hw2]; simp
  have Bw2 := Bw1.trans (bb.mono Bw1.size)
  have sw2 := bb.size
  replace LC := LC.below bb LC.lt
  replace LS := LS.below bb LS.lt
  replace LB := LB.below bb LB.lt
  replace LZ := LZ.below bb LZ.lt
  replace o1 := o1.below bb
  clear Bw1
  clear bb
  have cLC0 := LC.cell 0 rfl
  have cLC1 := LC.cell 1 rfl
  have cLS0 := LS.cell 0 rfl
  have cLS1 := LS.cell 1 rfl
  have cLS2 := LS.cell 2 rfl
  have cLS3 := LS.cell 3 rfl
  have cLS4 := LS.cell 4 rfl
  have cLS5 := LS.cell 5 rfl
  have cLB0 := LB.cell 0 rfl
  have cLB1 := LB.cell 1 rfl
  have cLB2 := LB.cell 2 rfl
  have cLB3 := LB.cell 3 rfl
  go_wp2_with fail
  clear hw2
  refine (unhide MV _ Bw2).mono ?_
  rintro _ w3 ⟨rfl, bb⟩
  clear cLC0 cLC1 cLS0 cLS1 cLS2 cLS3 cLS4 cLS5 cLB0 cLB1 cLB2 cLB3
  have Bw3 := Bw2.trans (bb.mono Bw2.size)
  have sw3 := bb.size
  replace LC := LC.below bb LC.lt
  replace LS := LS.below bb LS.lt
  replace LB := LB.below bb LB.lt
  replace LZ := LZ.below bb LZ.lt
  replace LO := LO.below bb LO.lt
  replace o1 := o1.below bb
  clear Bw2
  clear bb
  have cLB0 := LB.cell 0 rfl
  have cLB1 := LB.cell 1 rfl
  have cLB2 := LB.cell 2 rfl
  have cLB3 := LB.cell 3 rfl
  go_wp2_with fail
  refine (unhide VO _).mono ?_
  rintro _ w4 ⟨rfl, bb⟩
  clear cLB0 cLB1 cLB2 cLB3
  have Bw4 := Bw3.trans (bb.mono Bw3.size)
  have sw4 := bb.size
  replace LC := LC.below bb LC.lt
  replace LS := LS.below bb LS.lt
  replace LB := LB.below bb LB.lt
  replace LZ := LZ.below bb LZ.lt
  replace LO := LO.below bb LO.lt
  replace o1 := o1.below bb
  clear Bw3
  clear bb
  have cLO0 := LO.cell 0 rfl
  have cLO1 := LO.cell 1 rfl
  have cLO2 := LO.cell 2 rfl
  have cLO3 := LO.cell 3 rfl
  have cLO4 := LO.cell 4 rfl
  have cLO5 := LO.cell 5 rfl
  have fLO := LO.frozen
  go_upto_region 5 with fail
  clear cLO0 cLO1 cLO2 cLO3 cLO4 cLO5
  clear fLO
  obtain ⟨w5, hw5⟩ : ∃ y, (w4.setCell ⟨w1.heap.size, 0, none⟩ (.int .i64 vw)) = y := ⟨_, rfl⟩
  have kN : Kp w4 w5 (fun k => k = w1.heap.size) := hw5 ▸ set_kp _ _ _ _
  replace LO : Loc w5 (w1.heap.size) #[.int .i64 vw, .int .i64 lo, .int .i64 v, .string s, .slice ao1 xs.length ko1, .string d] := hw5 ▸ (LO.set 0 _ rfl)
  replace LC := LC.kp kN (by omega)
  replace LS := LS.kp kN (by omega)
  replace LB := LB.kp kN (by omega)
  replace LZ := LZ.kp kN (by omega)
  replace o1 := o1.kp kN (fun j hj e => by have := to1 j hj; omega)
  have Bw5 := Below.kp Bw4 kN Bw4.size (fun k hk => by omega)
  have sw5 := kN.size
  rw [hw5]
  clear hw5 kN Bw4
  have K6 := kp6 w5 (w.heap.size + 1 + 1 + 1) (.int .i64 vw) (.int .i64 lo) (.int .i64 v) (.string s) (.slice ao1 xs.length ko1) (.string d)
  have cLZ0 := LZ.cell 0 rfl
  have cLZ1 := LZ.cell 1 rfl
  have cLZ2 := LZ.cell 2 rfl
  have cLZ3 := LZ.cell 3 rfl
  have cLZ4 := LZ.cell 4 rfl
  have cLZ5 := LZ.cell 5 rfl
  have cLO0 := LO.cell 0 rfl
  have cLO1 := LO.cell 1 rfl
  have cLO2 := LO.cell 2 rfl
  have cLO3 := LO.cell 3 rfl
  have cLO4 := LO.cell 4 rfl
  have cLO5 := LO.cell 5 rfl
  have fLZ := LZ.frozen
  go_wp2
  refine bodyPost_ret (v := .tuple #[sv (vw) (lo) (v) (s) (.slice ao1 xs.length ko1) (d), .bool true]) (by simp [results, Tryz.results10, go_sem, cLZ0, cLZ1, cLZ2, cLZ3, cLZ4, cLZ5]) rfl ?_
  exact ⟨_, rfl, (o1.kp K6 (fun j hj e => by have := to1 j hj; omega)).mono (by omega), Below.kp Bw5 K6 Bw5.size (fun k hk => by omega)⟩
end Go.Proofs.YtmpmedbojfjnaaaGreatDoor
