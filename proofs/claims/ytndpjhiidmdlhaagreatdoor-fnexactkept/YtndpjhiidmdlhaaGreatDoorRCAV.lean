/- QcOk of the program and of the specification. -/
import Derived.Test.YtndpjhiidmdlhaaGreatDoorRCAU
import Derived.Test.YtndpjhiidmdlhaaGreatDoorRCAT
import Derived.Test.YtndpjhiidmdlhaaGreatDoorRCAA
import Derived.Test.YtndpjhiidmdlhaaGreatDoorRCAE
namespace Go.Proofs.YtndpjhiidmdlhaaGreatDoor
open Go.RowKit
set_option linter.unusedSectionVars false
variable [∀ (a b c d : Int), Decidable (Ok4 a b c d)]
variable [∀ (a b c d : Nat), Decidable (okN a b c d)]
variable [∀ (last : Int) (s : St), Decidable (GoodSt last s)]
variable [∀ (x : T4), Decidable (OkT x)]
variable [∀ (n : Int) (s : List Int), Decidable (OkL n s)]
variable [∀ (n f : Int), Decidable (COk n f)]

set_option maxHeartbeats 8000000 in
set_option maxRecDepth 100000 in
theorem implQcOk_at (n f v : Int) (s : ByteArray) (ao : Option Addr) (ca : Nat) (xs : List Int) (w : World) (hs : s.size ≤ 33554432) (hE : Env w) (ha : RI w (.slice ao xs.length ca) xs) :
 Calls Tryz.prog 108 #[cv n f, qv v s (.slice ao xs.length ca)] w fun e w' => e = .returned (.bool (decide (COk n f) && (alikeB v 0 s ⟨#[]⟩ xs [] || votedB n f v s xs))) ∧ Below w.heap.size w w' := by
 have CO:=hide fun w => implConfOk n f w
 have QF:=hide fun w => implQcFirst w
 have QS:=hide fun w h => implQcSame v 0 s ⟨#[]⟩ (.slice ao xs.length ca) (.slice none 0 0) xs [] w h ⟨by simp, none, 0, rfl,.inl rfl⟩
 obtain ⟨w0, hw0⟩ : ∃ w0, (w.alloc (.cells #[.int .i64 n,.int .i64 f] 39)).alloc (.cells #[.int .i64 v,.string s,.slice ao xs.length ca] 41) = w0:=⟨_, rfl⟩
 have B0 : Below w.heap.size w w0:=hw0 ▸ qalloc2 _ _ _
 have C0 : Loc w0 w.heap.size #[.int .i64 n,.int .i64 f]:=hw0 ▸ (loc_at w _ _ rfl).alloc _
 have G0 : Loc w0 (w.heap.size + 1) #[.int .i64 v,.string s,.slice ao xs.length ca]:=hw0 ▸ loc_at (w.alloc _) _ _ (by simp)
 have HA:=hide (ha.below B0)
 have VF : Hid (∀ w', Below w0.heap.size w0 w' → Calls Tryz.prog 166 #[.pointer (some ⟨w.heap.size + 1, 0, none⟩), cv n f] w' fun e w'' => e = .returned (.bool (votedB n f v s xs)) ∧ Below w'.heap.size w' w''):=hide fun w' hb' => votedFor_any (w.heap.size + 1) n f v s ao ca xs w' hs ((hE.below B0).below hb') (G0.up hb') (HA.out.below hb')
 have K : Hid (∀ w', Below w0.heap.size w0 w' → (fun w' => Below w0.heap.size w0 w' ∧ (w'.cell? ⟨w.heap.size, 0, none⟩ = some (.int .i64 n) ∧ w'.cell? ⟨w.heap.size, 1, none⟩ = some (.int .i64 f)) ∧ (w'.cell? ⟨w.heap.size + 1, 0, none⟩ = some (.int .i64 v) ∧ w'.cell? ⟨w.heap.size + 1, 1, none⟩ = some (.string s) ∧ w'.cell? ⟨w.heap.size + 1, 2, none⟩ = some (.slice ao xs.length ca))) w'):=hide fun w' hb' => ⟨hb', ⟨(C0.up hb').cell 0 rfl, (C0.up hb').cell 1 rfl⟩, ⟨(G0.up hb').cell 0 rfl, (G0.up hb').cell 1 rfl, (G0.up hb').cell 2 rfl⟩⟩
 generalize decide (COk n f) = cb at *
 generalize alikeB v 0 s ⟨#[]⟩ xs [] = ab at *
 generalize votedB n f v s xs = vb at *
 clear ha hE G0 C0
 cases cb
 ·simp only [Bool.false_and]
  go_enter Tryz.func108, Tryz.ntmps108
  go_upto_region 1 with fail
  clear hw0
  have bA : Below w0.heap.size w0 w0.drew:=Below.drew (Below.refl _ _)
  refine wrn K bA (fun hHeld => ?_)
  refine' tj 0 5 rfl ?_ ?_;rotate_left
  ·intro w h;go_simp;try rfl
  simp only [pU]
  refine rd 1 rfl (fun KK hKK => ?_)
  go_simp
  have hgo:=bA
  refine (CO.out _).mono ?_
  rintro e wy1 ⟨rfl, bb⟩
  have bB : Below w0.heap.size w0 wy1:=bu bA bb
  clear bA hgo bb
  clear hHeld
  refine hKK.out _ _ (K.out _ bB) (fun hHeld => ?_)
  clear hKK KK
  refine' tj 2 7 rfl ?_ ?_;rotate_left
  ·intro w h;go_simp;try rfl
  simp only [pU]
  refine sk 3 8 rfl (h := ?_)
  simp only [pU]
  refine sk 4 9 rfl (h := ?_)
  simp only [pU]
  refine sk 5 10 rfl (h := ?_)
  simp only [pU]
  refine sk 6 11 rfl (h := ?_)
  simp only [pU]
  refine sk 7 12 rfl (h := ?_)
  simp only [pU]
  refine sk 8 13 rfl (h := ?_)
  simp only [pU]
  refine sk 9 14 rfl (h := ?_)
  simp only [pU]
  refine' tj 10 15 rfl ?_ ?_;rotate_left
  ·intro w h;go_simp;try rfl
  simp only [pU]
  refine' tj 11 4 rfl ?_ ?_;rotate_left
  ·intro w h;go_simp;try rfl
  simp only [pU]
  clear hHeld
  refine wdn ?_
  go_wp2
  go_ret
  exact ⟨rfl, bu B0 bB⟩
 ·simp only [Bool.true_and]
  cases ab
  ·simp only [Bool.false_or]
   go_enter Tryz.func108, Tryz.ntmps108
   go_upto_region 1 with fail
   clear hw0
   have bA : Below w0.heap.size w0 w0.drew:=Below.drew (Below.refl _ _)
   refine wrn K bA (fun hHeld => ?_)
   refine' tj 0 5 rfl ?_ ?_;rotate_left
   ·intro w h;go_simp;try rfl
   simp only [pU]
   refine rd 1 rfl (fun KK hKK => ?_)
   go_simp
   have hgo:=bA
   refine (CO.out _).mono ?_
   rintro e wy1 ⟨rfl, bb⟩
   have bB : Below w0.heap.size w0 wy1:=bu bA bb
   clear bA hgo bb
   clear hHeld
   refine hKK.out _ _ (K.out _ bB) (fun hHeld => ?_)
   clear hKK KK
   refine' tj 2 7 rfl ?_ ?_;rotate_left
   ·intro w h;go_simp;try rfl
   simp only [pU]
   refine' tj 3 8 rfl ?_ ?_;rotate_left
   ·intro w h;go_simp;try rfl
   simp only [pU]
   refine rd 4 rfl (fun KK hKK => ?_)
   go_simp
   have hgo:=bB
   refine (QF.out _).mono ?_
   rintro e wy2 ⟨rfl, bb⟩
   have bC : Below w0.heap.size w0 wy2:=bu bB bb
   clear bB hgo bb
   clear hHeld
   refine hKK.out _ _ (K.out _ bC) (fun hHeld => ?_)
   clear hKK KK
   refine rd 5 rfl (fun KK hKK => ?_)
   go_simp
   have hgo:=bC
   refine (QS.out _ (HA.out.below hgo)).mono ?_
   rintro e wy3 ⟨rfl, bb⟩
   have bD : Below w0.heap.size w0 wy3:=bu bC bb
   clear bC hgo bb
   clear hHeld
   refine hKK.out _ _ (K.out _ bD) (fun hHeld => ?_)
   clear hKK KK
   refine' tj 6 11 rfl ?_ ?_;rotate_left
   ·intro w h;go_simp;try rfl
   simp only [pU]
   refine' tj 7 12 rfl ?_ ?_;rotate_left
   ·intro w h;go_simp;try rfl
   simp only [pU]
   refine rd 8 rfl (fun KK hKK => ?_)
   go_simp
   have hgo:=bD
   refine (VF.out _ hgo).mono ?_
   rintro e wy4 ⟨rfl, bb⟩
   have bE : Below w0.heap.size w0 wy4:=bu bD bb
   clear bD hgo bb
   clear hHeld
   refine hKK.out _ _ (K.out _ bE) (fun hHeld => ?_)
   clear hKK KK
   refine' tj 9 14 rfl ?_ ?_;rotate_left
   ·intro w h;go_simp;try rfl
   simp only [pU]
   refine' tj 10 15 rfl ?_ ?_;rotate_left
   ·intro w h;go_simp;try rfl
   simp only [pU]
   refine' tj 11 4 rfl ?_ ?_;rotate_left
   ·intro w h;go_simp;try rfl
   simp only [pU]
   clear hHeld
   refine wdn ?_
   go_wp2
   go_ret
   exact ⟨rfl, bu B0 bE⟩
  ·simp only [Bool.true_or]
   go_enter Tryz.func108, Tryz.ntmps108
   go_upto_region 1 with fail
   clear hw0
   have bA : Below w0.heap.size w0 w0.drew:=Below.drew (Below.refl _ _)
   refine wrn K bA (fun hHeld => ?_)
   refine' tj 0 5 rfl ?_ ?_;rotate_left
   ·intro w h;go_simp;try rfl
   simp only [pU]
   refine rd 1 rfl (fun KK hKK => ?_)
   go_simp
   have hgo:=bA
   refine (CO.out _).mono ?_
   rintro e wy1 ⟨rfl, bb⟩
   have bB : Below w0.heap.size w0 wy1:=bu bA bb
   clear bA hgo bb
   clear hHeld
   refine hKK.out _ _ (K.out _ bB) (fun hHeld => ?_)
   clear hKK KK
   refine' tj 2 7 rfl ?_ ?_;rotate_left
   ·intro w h;go_simp;try rfl
   simp only [pU]
   refine' tj 3 8 rfl ?_ ?_;rotate_left
   ·intro w h;go_simp;try rfl
   simp only [pU]
   refine rd 4 rfl (fun KK hKK => ?_)
   go_simp
   have hgo:=bB
   refine (QF.out _).mono ?_
   rintro e wy2 ⟨rfl, bb⟩
   have bC : Below w0.heap.size w0 wy2:=bu bB bb
   clear bB hgo bb
   clear hHeld
   refine hKK.out _ _ (K.out _ bC) (fun hHeld => ?_)
   clear hKK KK
   refine rd 5 rfl (fun KK hKK => ?_)
   go_simp
   have hgo:=bC
   refine (QS.out _ (HA.out.below hgo)).mono ?_
   rintro e wy3 ⟨rfl, bb⟩
   have bD : Below w0.heap.size w0 wy3:=bu bC bb
   clear bC hgo bb
   clear hHeld
   refine hKK.out _ _ (K.out _ bD) (fun hHeld => ?_)
   clear hKK KK
   refine' tj 6 11 rfl ?_ ?_;rotate_left
   ·intro w h;go_simp;try rfl
   simp only [pU]
   refine sk 7 12 rfl (h := ?_)
   simp only [pU]
   refine sk 8 13 rfl (h := ?_)
   simp only [pU]
   refine' tj 9 14 rfl ?_ ?_;rotate_left
   ·intro w h;go_simp;try rfl
   simp only [pU]
   refine' tj 10 15 rfl ?_ ?_;rotate_left
   ·intro w h;go_simp;try rfl
   simp only [pU]
   refine' tj 11 4 rfl ?_ ?_;rotate_left
   ·intro w h;go_simp;try rfl
   simp only [pU]
   clear hHeld
   refine wdn ?_
   go_wp2
   go_ret
   exact ⟨rfl, bu B0 bD⟩
end Go.Proofs.YtndpjhiidmdlhaaGreatDoor
