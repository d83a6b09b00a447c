/- Texts that belong together: DrawQcs, DrawNoteA. -/
import Derived.Test.YtcclbejpgiogaaaGreatDoorNBBA
import Derived.Test.YtcclbejpgiogaaaGreatDoorNBAU
import Derived.Test.YtcclbejpgiogaaaGreatDoorNBAJ
import Derived.Test.YtcclbejpgiogaaaGreatDoorNBBC
import Derived.Test.YtcclbejpgiogaaaGreatDoorNBAP
import Derived.Deep.DeepCutAuto
import Derived.Laws.EntriesVeiled
set_option maxRecDepth 100000
set_option maxHeartbeats 32000000
namespace Go.Proofs.YtcclbejpgiogaaaGreatDoor
open Go.RowKit
set_option linter.unusedSectionVars false
variable [∀ (a b c d : Int), Decidable (Ok4 a b c d)]
variable [∀ (a b c d : Nat), Decidable (okN a b c d)]
variable [∀ (x : T4), Decidable (OkT x)]
variable [∀ (n f : Int), Decidable (COk n f)]
variable [∀ (last : Int) (s : St), Decidable (GoodSt last s)]

theorem drawQcOk (ao : Option Addr) (ca : Nat) (zs : List Int) (w : World) (h : DCode w ao zs) :
 Calls Tryz.prog 45 #[.slice ao zs.length ca] w fun e w' => ∃ (n f v : Int) (s : ByteArray) (u : Value) (xs : List Int), e = .returned (.tuple #[cv n f, qv v s u]) ∧ s.size ≤ 8001 ∧ xs.length ≤ 9 ∧ Hid (WfL xs) ∧ OI w' w.heap.size u xs ∧ Below w.heap.size w w' := by
 obtain ⟨w0, hw0⟩ : ∃ w0, (w.alloc zc).alloc zq = w0 := ⟨_, rfl⟩
 have B0 : Below w.heap.size w w0 := hw0 ▸ qalloc2 _ _ _
 have R0 : Loc w0 w.heap.size #[.int .i64 0, .int .i64 0] := hw0 ▸ (loc_at w _ _ rfl).alloc _
 have Z0 : Loc w0 (w.heap.size + 1) #[.int .i64 0, .string ⟨#[]⟩, .slice none 0 0] := hw0 ▸ loc_at (w.alloc _) _ _ (by simp)
 have s0 : w.heap.size + 1 + 1 ≤ w0.heap.size := by rw [← hw0]; simp
 have D0 := h.below B0
 have NW := hide (new_any ao ca zs w0 D0.len D0.code D0.fit)
 clear h D0
 go_enter Tryz.func45, Tryz.ntmps45
 go_wp2_with fail
 clear hw0
 refine NW.out.mono ?_
 rintro e w1 ⟨rfl, c1, b1⟩
 have B1 := bu B0 b1
 have R1 := R0.up b1
 have Z1 := Z0.up b1
 have s1 := b1.size
 generalize w0.heap.size = g at *
 have hg1 := c1.lt
 clear R0 Z0 B0 b1 NW
 go_wp2_with fail
 refine (drawConf g g ca ao zs _ s1 c1).mono ?_
 rintro e w2 ⟨n, f, rfl, ⟨hn0, hn1⟩, c2, e2⟩
 have R2 := R1.grown e2 (by omega)
 have Z2 := Z1.grown e2 (by omega)
 have B2 := cur_below e2 B1 B1.size (by omega)
 have s2 := e2.size
 clear R1 Z1 B1 c1 e2
 obtain ⟨w3, hw3⟩ : ∃ w3, w2.alloc (.cells #[.int .i64 n, .int .i64 f] 25) = w3 := ⟨_, rfl⟩
 have b3 : Below w2.heap.size w2 w3 := hw3 ▸ qalloc _ _
 have X3 : Loc w3 w2.heap.size #[.int .i64 n, .int .i64 f] := hw3 ▸ loc_at w2 _ _ rfl
 have R3 := R2.up b3
 have Z3 := Z2.up b3
 have c3 := c2.below (by omega) b3
 have B3 := bu B2 b3
 have s3 : w2.heap.size + 1 ≤ w3.heap.size := by rw [← hw3]; simp
 have x0 := X3.cell 0 rfl
 have x1 := X3.cell 1 rfl
 clear R2 Z2 B2 c2 b3
 go_wp2_with fail
 clear hw3 x0 x1
 refine (drawQc g g ca ao zs n f _ (by omega) hn0 hn1 c3).mono ?_
 rintro e w4 ⟨v, s, u, xs, rfl, hs, hl, hw, O4, c4, e4⟩
 have R4 := R3.grown e4 (by omega)
 have Z4 := Z3.grown e4 (by omega)
 have X4 := X3.grown e4 (by omega)
 have B4 := cur_below e4 B3 B3.size (by omega)
 have s4 := e4.size
 have lo4 := World.ownsRow.lt O4
 obtain ⟨ua, uc, rfl⟩ := O4.form
 clear R3 Z3 X3 B3 c3 e4
 obtain ⟨w5, hw5⟩ : ∃ w5, w4.alloc (.cells #[.int .i64 v, .string s, .slice ua xs.length uc] 28) = w5 := ⟨_, rfl⟩
 have b5 : Below w4.heap.size w4 w5 := hw5 ▸ qalloc _ _
 have Y5 : Loc w5 w4.heap.size #[.int .i64 v, .string s, .slice ua xs.length uc] := hw5 ▸ loc_at w4 _ _ rfl
 have R5 := R4.up b5
 have Z5 := Z4.up b5
 have X5 := X4.up b5
 have O5 := O4.below b5
 have c5 := c4.below (by omega) b5
 have B5 := bu B4 b5
 have s5 : w4.heap.size + 1 ≤ w5.heap.size := by rw [← hw5]; simp
 clear R4 Z4 X4 O4 B4 c4 b5
 go_wp2_with fail
 clear hw5
 refine (once_any g g ca ao zs 10 _ (by omega) (by omega) (by omega) c5).mono ?_
 rintro e w6 ⟨b, rfl, c6, e6⟩
 have R6 := R5.grown e6 (by omega)
 have Z6 := Z5.grown e6 (by omega)
 have X6 := X5.grown e6 (by omega)
 have Y6 := Y5.grown e6 (by omega)
 have O6 := O5.drawn e6 (by omega)
 have B6 := cur_below e6 B5 B5.size (by omega)
 have s6 := e6.size
 clear R5 Z5 X5 Y5 O5 B5 c5 e6
 have FI : Hid (∀ (n f : Int) (w' : World), OI w' w3.heap.size (.slice ua xs.length uc) xs → Below w.heap.size w w' →
  s.size ≤ 8001 ∧ xs.length ≤ 9 ∧ Hid (WfL xs) ∧ OI (((((w'.setCell ⟨w.heap.size, 0, none⟩ (.int .i64 n)).setCell ⟨w.heap.size, 1, none⟩ (.int .i64 f)).setCell ⟨w.heap.size + 1, 0, none⟩ (.int .i64 v)).setCell ⟨w.heap.size + 1, 1, none⟩ (.string s)).setCell ⟨w.heap.size + 1, 2, none⟩ (.slice ua xs.length uc)) w.heap.size (.slice ua xs.length uc) xs ∧ Below w.heap.size w (((((w'.setCell ⟨w.heap.size, 0, none⟩ (.int .i64 n)).setCell ⟨w.heap.size, 1, none⟩ (.int .i64 f)).setCell ⟨w.heap.size + 1, 0, none⟩ (.int .i64 v)).setCell ⟨w.heap.size + 1, 1, none⟩ (.string s)).setCell ⟨w.heap.size + 1, 2, none⟩ (.slice ua xs.length uc))) := hide fun n f w' h1 h2 => by
  have K5 : Kp w' (((((w'.setCell ⟨w.heap.size, 0, none⟩ (.int .i64 n)).setCell ⟨w.heap.size, 1, none⟩ (.int .i64 f)).setCell ⟨w.heap.size + 1, 0, none⟩ (.int .i64 v)).setCell ⟨w.heap.size + 1, 1, none⟩ (.string s)).setCell ⟨w.heap.size + 1, 2, none⟩ (.slice ua xs.length uc)) (fun k => k = w.heap.size ∨ k = w.heap.size + 1) :=
   ((((((set_kp _ _ _ _).mono (fun k h => .inl h)).trans ((set_kp _ _ _ _).mono (fun k h => .inl h))).trans ((set_kp _ _ _ _).mono (fun k h => .inr h))).trans ((set_kp _ _ _ _).mono (fun k h => .inr h))).trans ((set_kp _ _ _ _).mono (fun k h => .inr h)))
  have lt3 := World.ownsRow.lt h1
  exact ⟨hs, hl, hw, (h1.kp K5 (fun k hk e => by have := lt3 k hk; omega)).mono (by omega), Below.kp h2 K5 h2.size (fun k hk => by omega)⟩
 cases b
 ·have R := hide (FI.out n f w6 O6 B6)
  have x0 := X6.cell 0 rfl
  have x1 := X6.cell 1 rfl
  have y0 := Y6.cell 0 rfl
  have y1 := Y6.cell 1 rfl
  have y2 := Y6.cell 2 rfl
  have r0 := R6.cell 0 rfl
  have r1 := R6.cell 1 rfl
  have fr := R6.frozen
  have z0 := Z6.cell 0 rfl
  have z1 := Z6.cell 1 rfl
  have z2 := Z6.cell 2 rfl
  have fz := Z6.frozen
  clear R6 Z6 X6 Y6 O6 B6 FI
  go_upto_region 6 with fail
  go_region
  all_goals
   go_wp2
   refine bodyPost_ret (v := .tuple #[cv n f, qv v s (.slice ua xs.length uc)]) (by simp [results, Tryz.results45, go_sem, r0, r1, z0, z1, z2]) rfl ?_
   obtain ⟨t1, t2, t3, t4, t5⟩ := R.out
   exact ⟨_, _, _, _, _, _, rfl, t1, t2, t3, t4, Below.drew t5⟩
 ·go_wp2_with fail
  refine (drawBent g g ca ao zs _ (by omega) c6).mono ?_
  rintro e w7 ⟨n', f', rfl, c7, e7⟩
  have R7 := R6.grown e7 (by omega)
  have Z7 := Z6.grown e7 (by omega)
  have X7 := X6.grown e7 (by omega)
  have Y7 := Y6.grown e7 (by omega)
  have O7 := O6.drawn e7 (by omega)
  have B7 := cur_below e7 B6 B6.size (by omega)
  have lo7 := World.ownsRow.lt O7
  obtain ⟨w8, hw8⟩ : ∃ w8, (w7.setCell ⟨w2.heap.size, 0, none⟩ (.int .i64 n')).setCell ⟨w2.heap.size, 1, none⟩ (.int .i64 f') = w8 := ⟨_, rfl⟩
  have K8 : Kp w7 w8 (fun k => k = w2.heap.size) := hw8 ▸ (set_kp _ _ _ _).trans (set_kp _ _ _ _)
  have X8 : Loc w8 w2.heap.size #[.int .i64 n', .int .i64 f'] := hw8 ▸ (X7.set 0 _ rfl).set 1 _ rfl
  have R8 := R7.kp K8 (by omega)
  have Z8 := Z7.kp K8 (by omega)
  have Y8 := Y7.kp K8 (by omega)
  have O8 := O7.kp K8 (fun k hk e => by have := lo7 k hk; omega)
  have B8 := Below.kp B7 K8 B7.size (fun k hk => by omega)
  have R := hide (FI.out n' f' _ O8 B8)
  have x0 := X7.cell 0 rfl
  have x1 := X7.cell 1 rfl
  have fx := X7.frozen
  clear R6 Z6 X6 Y6 O6 B6 R7 Z7 X7 Y7 O7 B7 O8 B8 K8 c6 c7 e7 FI
  go_upto_region 6 with fail
  clear hw8 x0 x1 fx
  have x0 := X8.cell 0 rfl
  have x1 := X8.cell 1 rfl
  have y0 := Y8.cell 0 rfl
  have y1 := Y8.cell 1 rfl
  have y2 := Y8.cell 2 rfl
  have r0 := R8.cell 0 rfl
  have r1 := R8.cell 1 rfl
  have fr := R8.frozen
  have z0 := Z8.cell 0 rfl
  have z1 := Z8.cell 1 rfl
  have z2 := Z8.cell 2 rfl
  have fz := Z8.frozen
  clear X8 Y8 R8 Z8
  go_region
  all_goals
   go_wp2
   refine bodyPost_ret (v := .tuple #[cv n' f', qv v s (.slice ua xs.length uc)]) (by simp [results, Tryz.results45, go_sem, r0, r1, z0, z1, z2]) rfl ?_
   obtain ⟨t1, t2, t3, t4, t5⟩ := R.out
   exact ⟨_, _, _, _, _, _, rfl, t1, t2, t3, t4, Below.drew t5⟩
end Go.Proofs.YtcclbejpgiogaaaGreatDoor
namespace Go.Proofs.YtcclbejpgiogaaaGreatDoor
open Go.RowKit
set_option linter.unusedSectionVars false
variable [∀ (a b c d : Int), Decidable (Ok4 a b c d)]
variable [∀ (a b c d : Nat), Decidable (okN a b c d)]
variable [∀ (x : T4), Decidable (OkT x)]
variable [∀ (last : Int) (s : St), Decidable (GoodSt last s)]
variable [∀ (n : Int) (s : List Int), Decidable (OkL n s)]
variable [∀ (n f : Int), Decidable (COk n f)]
variable [∀ (ts : List T4), Decidable (AllOk ts)]

theorem drawSafeOk (ao : Option Addr) (ca : Nat) (zs : List Int) (w : World) (h : DCode w ao zs) :
 Calls Tryz.prog 26 #[.slice ao zs.length ca] w fun e w' => ∃ (n f vo lo v : Int) (s : ByteArray) (u : Value) (d : ByteArray) (xs : List Int), e = .returned (.tuple #[cv n f, sv vo lo v s u d]) ∧ s.size ≤ 8001 ∧ d.size ≤ 8001 ∧ xs.length ≤ 9 ∧ OI w' w.heap.size u xs ∧ Below w.heap.size w w' := by
 obtain ⟨w0, hw0⟩ : ∃ w0, (w.alloc (.cells #[.int .i64 0, .int .i64 0] 25)).alloc (.cells #[.int .i64 0, .int .i64 0, .int .i64 0, .string ⟨#[]⟩, .slice none 0 0, .string ⟨#[]⟩] 30) = w0 := ⟨_, rfl⟩
 have B : Below w.heap.size w w0 := hw0 ▸ qalloc2 _ _ _
 have R : Loc w0 w.heap.size #[.int .i64 0, .int .i64 0] := hw0 ▸ (loc_at w _ _ rfl).alloc _
 have Z : Loc w0 (w.heap.size + 1) #[.int .i64 0, .int .i64 0, .int .i64 0, .string ⟨#[]⟩, .slice none 0 0, .string ⟨#[]⟩] := hw0 ▸ loc_at (w.alloc _) _ _ (by simp)
 have s0 : w.heap.size + 1 + 1 ≤ w0.heap.size := by rw [← hw0]; simp
 have D0 := h.below B
 have NW := hide (new_any ao ca zs w0 D0.len D0.code D0.fit)
 clear h D0
 go_enter Tryz.func26, Tryz.ntmps26
 go_wp2_with fail
 clear hw0
 refine NW.out.mono ?_
 rintro e w1 ⟨rfl, C, b1⟩
 replace B := bu B b1
 replace R := R.up b1
 replace Z := Z.up b1
 have s1 := b1.size
 generalize w0.heap.size = g at *
 have hg1 := C.lt
 clear b1 NW
 go_wp2_with fail
 refine (drawConf g g ca ao zs _ (by omega) C).mono ?_
 rintro e w2 ⟨n, f, rfl, ⟨hn0, hn1⟩, c1, e1⟩
 have s2 := e1.size
 replace R := R.grown e1 (by omega)
 replace Z := Z.grown e1 (by omega)
 replace B := cur_below e1 B B.size (by omega)
 replace C := c1
 clear c1 e1
 obtain ⟨w3, hw3⟩ : ∃ y, w2.alloc (.cells #[.int .i64 n, .int .i64 f] 25) = y := ⟨_, rfl⟩
 have bb : Below w2.heap.size w2 w3 := hw3 ▸ qalloc _ _
 have X : Loc w3 w2.heap.size #[.int .i64 n, .int .i64 f] := hw3 ▸ loc_at w2 _ _ rfl
 have s3 : w2.heap.size + 1 ≤ w3.heap.size := by rw [← hw3]; simp
 replace R := R.up bb
 replace Z := Z.up bb
 replace C := C.below (by omega) bb
 replace B := bu B bb
 clear bb
 have x0 := X.cell 0 rfl
 have x1 := X.cell 1 rfl
 go_wp2_with fail
 clear hw3
 refine (drawSafe g g ca ao zs n f _ (by omega) hn0 hn1 C).mono ?_
 rintro e w4 ⟨vo, lo, v, s, u, d, xs, rfl, hs, hd, hl, O, c1, e1⟩
 have s4 := e1.size
 replace R := R.grown e1 (by omega)
 replace Z := Z.grown e1 (by omega)
 replace X := X.grown e1 (by omega)
 replace B := cur_below e1 B B.size (by omega)
 replace C := c1
 clear c1 e1
 clear x0 x1
 have tO := World.ownsRow.lt O
 obtain ⟨ua, uc, rfl⟩ := O.form
 obtain ⟨uk, huk⟩ : ∃ k, xs.length = k := ⟨_, rfl⟩
 rw [huk] at O tO ⊢
 obtain ⟨w5, hw5⟩ : ∃ y, w4.alloc (.cells #[.int .i64 vo, .int .i64 lo, .int .i64 v, .string s, .slice ua uk uc, .string d] 30) = y := ⟨_, rfl⟩
 have bb : Below w4.heap.size w4 w5 := hw5 ▸ qalloc _ _
 have Y : Loc w5 w4.heap.size #[.int .i64 vo, .int .i64 lo, .int .i64 v, .string s, .slice ua uk uc, .string d] := hw5 ▸ loc_at w4 _ _ rfl
 have s5 : w4.heap.size + 1 ≤ w5.heap.size := by rw [← hw5]; simp
 replace R := R.up bb
 replace Z := Z.up bb
 replace X := X.up bb
 replace O := O.below bb
 replace C := C.below (by omega) bb
 replace B := bu B bb
 clear bb
 go_wp2_with fail
 clear hw5
 refine (once_any g g ca ao zs 10 _ (by omega) (by omega) (by omega) C).mono ?_
 rintro e w6 ⟨b, rfl, c1, e1⟩
 have s6 := e1.size
 replace R := R.grown e1 (by omega)
 replace Z := Z.grown e1 (by omega)
 replace X := X.grown e1 (by omega)
 replace Y := Y.grown e1 (by omega)
 replace O := O.drawn e1 (by omega)
 replace B := cur_below e1 B B.size (by omega)
 replace C := c1
 clear c1 e1
 cases b
 ·go_upto_region 6 with fail
  refine wp_region_noPanic ?_
  refine wp_region_held_drew (S := fun w' => (w'.cell? ⟨w2.heap.size, 0, none⟩ = some (.int .i64 n) ∧ w'.cell? ⟨w2.heap.size, 1, none⟩ = some (.int .i64 f)) ∧ (w'.cell? ⟨w4.heap.size, 0, none⟩ = some (.int .i64 vo) ∧ w'.cell? ⟨w4.heap.size, 1, none⟩ = some (.int .i64 lo) ∧ w'.cell? ⟨w4.heap.size, 2, none⟩ = some (.int .i64 v) ∧ w'.cell? ⟨w4.heap.size, 3, none⟩ = some (.string s) ∧ w'.cell? ⟨w4.heap.size, 4, none⟩ = some (.slice ua uk uc) ∧ w'.cell? ⟨w4.heap.size, 5, none⟩ = some (.string d))) (by kernel_rfl) ⟨⟨X.cell 0 rfl, X.cell 1 rfl⟩, ⟨Y.cell 0 rfl, Y.cell 1 rfl, Y.cell 2 rfl, Y.cell 3 rfl, Y.cell 4 rfl, Y.cell 5 rfl⟩⟩ (fun hHeld => ?_)
  obtain ⟨wd, hd⟩ : ∃ wd, w6.drew = wd := ⟨_, rfl⟩
  have bd : Below w6.heap.size w6 wd := hd ▸ Below.drew (Below.refl _ _)
  have sd : w6.heap.size ≤ wd.heap.size := bd.size
  replace R := R.up bd
  replace Z := Z.up bd
  replace X := X.up bd
  replace Y := Y.up bd
  replace O := O.below bd
  replace C := C.below (by omega) bd
  replace B := bu B bd
  rw [hd] at hHeld ⊢
  clear hd bd
  refine' tj 0 18 rfl ?_ ?_;rotate_left
  ·intro w h; (try dsimp only at h); go_simp; try with_reducible rfl
  simp only [pU]
  refine' tj 1 19 rfl ?_ ?_;rotate_left
  ·intro w h; (try dsimp only at h); go_simp; try with_reducible rfl
  simp only [pU]
  have c0 := R.cell 0 rfl
  have c1 := R.cell 1 rfl
  have fc := R.frozen
  refine rd 2 rfl (fun KK hKK => ?_)
  go_simp
  obtain ⟨wa, hwa⟩ : ∃ y, ((wd.setCell ⟨w.heap.size, 0, none⟩ (.int .i64 n)).setCell ⟨w.heap.size, 1, none⟩ (.int .i64 f)) = y := ⟨_, rfl⟩
  have kwa : Kp wd wa (fun k => k = w.heap.size) := hwa ▸ (set_kp _ _ _ _).trans (set_kp _ _ _ _)
  replace R : Loc wa (w.heap.size) #[.int .i64 n, .int .i64 f] := hwa ▸ ((R.set 0 _ rfl).set 1 _ rfl)
  replace Z := Z.kp kwa (by omega)
  replace X := X.kp kwa (by omega)
  replace Y := Y.kp kwa (by omega)
  replace O := O.kp kwa (fun j hj e => by have := tO j hj; omega)
  replace B := Below.kp B kwa B.size (fun k hk => by omega)
  have zwa := kwa.size
  rw [hwa]
  clear hwa kwa c0 c1 fc
  clear hHeld
  refine hKK.out _ _ ⟨⟨X.cell 0 rfl, X.cell 1 rfl⟩, ⟨Y.cell 0 rfl, Y.cell 1 rfl, Y.cell 2 rfl, Y.cell 3 rfl, Y.cell 4 rfl, Y.cell 5 rfl⟩⟩ (fun hHeld => ?_)
  clear hKK KK
  have c0 := Z.cell 0 rfl
  have c1 := Z.cell 1 rfl
  have c2 := Z.cell 2 rfl
  have c3 := Z.cell 3 rfl
  have c4 := Z.cell 4 rfl
  have c5 := Z.cell 5 rfl
  have fc := Z.frozen
  refine rd 3 rfl (fun KK hKK => ?_)
  go_simp
  obtain ⟨wb, hwb⟩ : ∃ y, ((((((wa.setCell ⟨w.heap.size + 1, 0, none⟩ (.int .i64 vo)).setCell ⟨w.heap.size + 1, 1, none⟩ (.int .i64 lo)).setCell ⟨w.heap.size + 1, 2, none⟩ (.int .i64 v)).setCell ⟨w.heap.size + 1, 3, none⟩ (.string s)).setCell ⟨w.heap.size + 1, 4, none⟩ (.slice ua uk uc)).setCell ⟨w.heap.size + 1, 5, none⟩ (.string d)) = y := ⟨_, rfl⟩
  have kwb : Kp wa wb (fun k => k = w.heap.size + 1) := hwb ▸ (((((set_kp _ _ _ _).trans (set_kp _ _ _ _)).trans (set_kp _ _ _ _)).trans (set_kp _ _ _ _)).trans (set_kp _ _ _ _)).trans (set_kp _ _ _ _)
  replace Z : Loc wb (w.heap.size + 1) #[.int .i64 vo, .int .i64 lo, .int .i64 v, .string s, .slice ua uk uc, .string d] := hwb ▸ ((((((Z.set 0 _ rfl).set 1 _ rfl).set 2 _ rfl).set 3 _ rfl).set 4 _ rfl).set 5 _ rfl)
  replace R := R.kp kwb (by omega)
  replace X := X.kp kwb (by omega)
  replace Y := Y.kp kwb (by omega)
  replace O := O.kp kwb (fun j hj e => by have := tO j hj; omega)
  replace B := Below.kp B kwb B.size (fun k hk => by omega)
  have zwb := kwb.size
  rw [hwb]
  clear hwb kwb c0 c1 c2 c3 c4 c5 fc
  clear hHeld
  refine hKK.out _ _ ⟨⟨X.cell 0 rfl, X.cell 1 rfl⟩, ⟨Y.cell 0 rfl, Y.cell 1 rfl, Y.cell 2 rfl, Y.cell 3 rfl, Y.cell 4 rfl, Y.cell 5 rfl⟩⟩ (fun hHeld => ?_)
  clear hKK KK
  clear hHeld
  refine wdn ?_
  have r0 := R.cell 0 rfl
  have r1 := R.cell 1 rfl
  have z0 := Z.cell 0 rfl
  have z1 := Z.cell 1 rfl
  have z2 := Z.cell 2 rfl
  have z3 := Z.cell 3 rfl
  have z4 := Z.cell 4 rfl
  have z5 := Z.cell 5 rfl
  clear R Z X Y C
  go_wp2
  refine bodyPost_ret (v := .tuple #[cv n f, sv vo lo v s (.slice ua uk uc) d]) (by simp [results, Tryz.results26, go_sem, r0, r1, z0, z1, z2, z3, z4, z5]) rfl ?_
  exact ⟨_, _, _, _, _, _, _, _, xs, rfl, hs, hd, (by omega), O.mono (by omega), B⟩
 ·go_wp2_with fail
  refine (drawBent g g ca ao zs _ (by omega) C).mono ?_
  rintro e w7 ⟨n', f', rfl, c1, e1⟩
  have s7 := e1.size
  replace R := R.grown e1 (by omega)
  replace Z := Z.grown e1 (by omega)
  replace X := X.grown e1 (by omega)
  replace Y := Y.grown e1 (by omega)
  replace O := O.drawn e1 (by omega)
  replace B := cur_below e1 B B.size (by omega)
  replace C := c1
  clear c1 e1
  have x0 := X.cell 0 rfl
  have x1 := X.cell 1 rfl
  have fx := X.frozen
  obtain ⟨w8, hw8⟩ : ∃ y, ((w7.setCell ⟨w2.heap.size, 0, none⟩ (.int .i64 n')).setCell ⟨w2.heap.size, 1, none⟩ (.int .i64 f')) = y := ⟨_, rfl⟩
  have K8 : Kp w7 w8 (fun k => k = w2.heap.size) := hw8 ▸ (set_kp _ _ _ _).trans (set_kp _ _ _ _)
  have X8 : Loc w8 (w2.heap.size) #[.int .i64 n', .int .i64 f'] := hw8 ▸ (X.set 0 _ rfl).set 1 _ rfl
  have C8 : Cur w8 g g ao ca zs := hw8 ▸ (C.set (by omega) _ _).set (by omega) _ _
  replace R := R.kp K8 (by omega)
  replace Z := Z.kp K8 (by omega)
  replace Y := Y.kp K8 (by omega)
  replace O := O.kp K8 (fun j hj e => by have := tO j hj; omega)
  replace B := Below.kp B K8 B.size (fun k hk => by omega)
  have s8 := K8.size
  clear K8 X C
  have X := X8
  have C := C8
  clear X8 C8
  go_upto_region 6 with fail
  clear hw8 x0 x1 fx
  refine wp_region_noPanic ?_
  refine wp_region_held_drew (S := fun w' => (w'.cell? ⟨w2.heap.size, 0, none⟩ = some (.int .i64 n') ∧ w'.cell? ⟨w2.heap.size, 1, none⟩ = some (.int .i64 f')) ∧ (w'.cell? ⟨w4.heap.size, 0, none⟩ = some (.int .i64 vo) ∧ w'.cell? ⟨w4.heap.size, 1, none⟩ = some (.int .i64 lo) ∧ w'.cell? ⟨w4.heap.size, 2, none⟩ = some (.int .i64 v) ∧ w'.cell? ⟨w4.heap.size, 3, none⟩ = some (.string s) ∧ w'.cell? ⟨w4.heap.size, 4, none⟩ = some (.slice ua uk uc) ∧ w'.cell? ⟨w4.heap.size, 5, none⟩ = some (.string d))) (by kernel_rfl) ⟨⟨X.cell 0 rfl, X.cell 1 rfl⟩, ⟨Y.cell 0 rfl, Y.cell 1 rfl, Y.cell 2 rfl, Y.cell 3 rfl, Y.cell 4 rfl, Y.cell 5 rfl⟩⟩ (fun hHeld => ?_)
  obtain ⟨wd, hd⟩ : ∃ wd, w8.drew = wd := ⟨_, rfl⟩
  have bd : Below w8.heap.size w8 wd := hd ▸ Below.drew (Below.refl _ _)
  have sd : w8.heap.size ≤ wd.heap.size := bd.size
  replace R := R.up bd
  replace Z := Z.up bd
  replace X := X.up bd
  replace Y := Y.up bd
  replace O := O.below bd
  replace C := C.below (by omega) bd
  replace B := bu B bd
  rw [hd] at hHeld ⊢
  clear hd bd
  refine' tj 0 18 rfl ?_ ?_;rotate_left
  ·intro w h; (try dsimp only at h); go_simp; try with_reducible rfl
  simp only [pU]
  refine' tj 1 19 rfl ?_ ?_;rotate_left
  ·intro w h; (try dsimp only at h); go_simp; try with_reducible rfl
  simp only [pU]
  have c0 := R.cell 0 rfl
  have c1 := R.cell 1 rfl
  have fc := R.frozen
  refine rd 2 rfl (fun KK hKK => ?_)
  go_simp
  obtain ⟨wa, hwa⟩ : ∃ y, ((wd.setCell ⟨w.heap.size, 0, none⟩ (.int .i64 n')).setCell ⟨w.heap.size, 1, none⟩ (.int .i64 f')) = y := ⟨_, rfl⟩
  have kwa : Kp wd wa (fun k => k = w.heap.size) := hwa ▸ (set_kp _ _ _ _).trans (set_kp _ _ _ _)
  replace R : Loc wa (w.heap.size) #[.int .i64 n', .int .i64 f'] := hwa ▸ ((R.set 0 _ rfl).set 1 _ rfl)
  replace Z := Z.kp kwa (by omega)
  replace X := X.kp kwa (by omega)
  replace Y := Y.kp kwa (by omega)
  replace O := O.kp kwa (fun j hj e => by have := tO j hj; omega)
  replace B := Below.kp B kwa B.size (fun k hk => by omega)
  have zwa := kwa.size
  rw [hwa]
  clear hwa kwa c0 c1 fc
  clear hHeld
  refine hKK.out _ _ ⟨⟨X.cell 0 rfl, X.cell 1 rfl⟩, ⟨Y.cell 0 rfl, Y.cell 1 rfl, Y.cell 2 rfl, Y.cell 3 rfl, Y.cell 4 rfl, Y.cell 5 rfl⟩⟩ (fun hHeld => ?_)
  clear hKK KK
  have c0 := Z.cell 0 rfl
  have c1 := Z.cell 1 rfl
  have c2 := Z.cell 2 rfl
  have c3 := Z.cell 3 rfl
  have c4 := Z.cell 4 rfl
  have c5 := Z.cell 5 rfl
  have fc := Z.frozen
  refine rd 3 rfl (fun KK hKK => ?_)
  go_simp
  obtain ⟨wb, hwb⟩ : ∃ y, ((((((wa.setCell ⟨w.heap.size + 1, 0, none⟩ (.int .i64 vo)).setCell ⟨w.heap.size + 1, 1, none⟩ (.int .i64 lo)).setCell ⟨w.heap.size + 1, 2, none⟩ (.int .i64 v)).setCell ⟨w.heap.size + 1, 3, none⟩ (.string s)).setCell ⟨w.heap.size + 1, 4, none⟩ (.slice ua uk uc)).setCell ⟨w.heap.size + 1, 5, none⟩ (.string d)) = y := ⟨_, rfl⟩
  have kwb : Kp wa wb (fun k => k = w.heap.size + 1) := hwb ▸ (((((set_kp _ _ _ _).trans (set_kp _ _ _ _)).trans (set_kp _ _ _ _)).trans (set_kp _ _ _ _)).trans (set_kp _ _ _ _)).trans (set_kp _ _ _ _)
  replace Z : Loc wb (w.heap.size + 1) #[.int .i64 vo, .int .i64 lo, .int .i64 v, .string s, .slice ua uk uc, .string d] := hwb ▸ ((((((Z.set 0 _ rfl).set 1 _ rfl).set 2 _ rfl).set 3 _ rfl).set 4 _ rfl).set 5 _ rfl)
  replace R := R.kp kwb (by omega)
  replace X := X.kp kwb (by omega)
  replace Y := Y.kp kwb (by omega)
  replace O := O.kp kwb (fun j hj e => by have := tO j hj; omega)
  replace B := Below.kp B kwb B.size (fun k hk => by omega)
  have zwb := kwb.size
  rw [hwb]
  clear hwb kwb c0 c1 c2 c3 c4 c5 fc
  clear hHeld
  refine hKK.out _ _ ⟨⟨X.cell 0 rfl, X.cell 1 rfl⟩, ⟨Y.cell 0 rfl, Y.cell 1 rfl, Y.cell 2 rfl, Y.cell 3 rfl, Y.cell 4 rfl, Y.cell 5 rfl⟩⟩ (fun hHeld => ?_)
  clear hKK KK
  clear hHeld
  refine wdn ?_
  have r0 := R.cell 0 rfl
  have r1 := R.cell 1 rfl
  have z0 := Z.cell 0 rfl
  have z1 := Z.cell 1 rfl
  have z2 := Z.cell 2 rfl
  have z3 := Z.cell 3 rfl
  have z4 := Z.cell 4 rfl
  have z5 := Z.cell 5 rfl
  clear R Z X Y C
  go_wp2
  refine bodyPost_ret (v := .tuple #[cv n' f', sv vo lo v s (.slice ua uk uc) d]) (by simp [results, Tryz.results26, go_sem, r0, r1, z0, z1, z2, z3, z4, z5]) rfl ?_
  exact ⟨_, _, _, _, _, _, _, _, xs, rfl, hs, hd, (by omega), O.mono (by omega), B⟩

theorem drawSafeBytes (ao : Option Addr) (ca : Nat) (zs : List Int) (w : World) (h : DCode w ao zs) :
 Calls Tryz.prog 5 #[.slice ao zs.length ca] w fun e w' => ∃ (n f vo lo v : Int) (s : ByteArray) (u : Value) (d : ByteArray) (xs : List Int), e = .returned (.tuple #[cv n f, sv vo lo v s u d]) ∧ s.size ≤ 8001 ∧ d.size ≤ 8001 ∧ xs.length ≤ 9 ∧ OI w' w.heap.size u xs ∧ Below w.heap.size w w' := by
 obtain ⟨w0, hw0⟩ : ∃ w0, (w.alloc (.cells #[.int .i64 0, .int .i64 0] 25)).alloc (.cells #[.int .i64 0, .int .i64 0, .int .i64 0, .string ⟨#[]⟩, .slice none 0 0, .string ⟨#[]⟩] 30) = w0 := ⟨_, rfl⟩
 have B : Below w.heap.size w w0 := hw0 ▸ qalloc2 _ _ _
 have R : Loc w0 w.heap.size #[.int .i64 0, .int .i64 0] := hw0 ▸ (loc_at w _ _ rfl).alloc _
 have Z : Loc w0 (w.heap.size + 1) #[.int .i64 0, .int .i64 0, .int .i64 0, .string ⟨#[]⟩, .slice none 0 0, .string ⟨#[]⟩] := hw0 ▸ loc_at (w.alloc _) _ _ (by simp)
 have s0 : w.heap.size + 1 + 1 ≤ w0.heap.size := by rw [← hw0]; simp
 have DR := hide (drawSafeOk ao ca zs w0 (h.below B))
 clear h
 go_enter Tryz.func5, Tryz.ntmps5
 go_wp2_with fail
 clear hw0
 refine DR.out.mono ?_
 rintro e w1 ⟨n, f, vo, lo, v, s, u, d, xs, rfl, hs, hd, hl, O, b1⟩
 replace B := bu B b1
 replace R := R.up b1
 replace Z := Z.up b1
 have s1 := b1.size
 clear b1 DR
 have tO := World.ownsRow.lt O
 obtain ⟨ua, uc, rfl⟩ := O.form
 obtain ⟨uk, huk⟩ : ∃ k, xs.length = k := ⟨_, rfl⟩
 rw [huk] at O tO ⊢
 go_upto_region 2 with fail
 obtain ⟨w2, hw2⟩ : ∃ y, (w1.alloc (.cells #[.int .i64 n, .int .i64 f] 25)).alloc (.cells #[.int .i64 vo, .int .i64 lo, .int .i64 v, .string s, .slice ua uk uc, .string d] 30) = y := ⟨_, rfl⟩
 rw [hw2]
 have b2 : Below w1.heap.size w1 w2 := hw2 ▸ qalloc2 _ _ _
 have X : Loc w2 w1.heap.size #[.int .i64 n, .int .i64 f] := hw2 ▸ (loc_at w1 _ _ rfl).alloc _
 have Y : Loc w2 (w1.heap.size + 1) #[.int .i64 vo, .int .i64 lo, .int .i64 v, .string s, .slice ua uk uc, .string d] := hw2 ▸ loc_at (w1.alloc _) _ _ (by simp)
 have s2 : w1.heap.size + 1 + 1 ≤ w2.heap.size := by rw [← hw2]; simp
 clear hw2
 replace R := R.up b2
 replace Z := Z.up b2
 replace O := O.below b2
 replace B := bu B b2
 clear b2
 refine wp_region_noPanic ?_
 refine wp_region_held_drew (S := fun w' => (w'.cell? ⟨w1.heap.size, 0, none⟩ = some (.int .i64 n) ∧ w'.cell? ⟨w1.heap.size, 1, none⟩ = some (.int .i64 f)) ∧ (w'.cell? ⟨w1.heap.size + 1, 0, none⟩ = some (.int .i64 vo) ∧ w'.cell? ⟨w1.heap.size + 1, 1, none⟩ = some (.int .i64 lo) ∧ w'.cell? ⟨w1.heap.size + 1, 2, none⟩ = some (.int .i64 v) ∧ w'.cell? ⟨w1.heap.size + 1, 3, none⟩ = some (.string s) ∧ w'.cell? ⟨w1.heap.size + 1, 4, none⟩ = some (.slice ua uk uc) ∧ w'.cell? ⟨w1.heap.size + 1, 5, none⟩ = some (.string d))) (by kernel_rfl) ⟨⟨X.cell 0 rfl, X.cell 1 rfl⟩, ⟨Y.cell 0 rfl, Y.cell 1 rfl, Y.cell 2 rfl, Y.cell 3 rfl, Y.cell 4 rfl, Y.cell 5 rfl⟩⟩ (fun hHeld => ?_)
 obtain ⟨wd, hd9⟩ : ∃ wd, w2.drew = wd := ⟨_, rfl⟩
 have bd : Below w2.heap.size w2 wd := hd9 ▸ Below.drew (Below.refl _ _)
 have sd : w2.heap.size ≤ wd.heap.size := bd.size
 replace R := R.up bd
 replace Z := Z.up bd
 replace X := X.up bd
 replace Y := Y.up bd
 replace O := O.below bd
 replace B := bu B bd
 rw [hd9] at hHeld ⊢
 clear hd9 bd
 refine' tj 0 11 rfl ?_ ?_;rotate_left
 ·intro w h; (try dsimp only at h); go_simp; try with_reducible rfl
 simp only [pU]
 refine' tj 1 12 rfl ?_ ?_;rotate_left
 ·intro w h; (try dsimp only at h); go_simp; try with_reducible rfl
 simp only [pU]
 have c0 := R.cell 0 rfl
 have c1 := R.cell 1 rfl
 have fc := R.frozen
 refine rd 2 rfl (fun KK hKK => ?_)
 go_simp
 obtain ⟨wa, hwa⟩ : ∃ y, ((wd.setCell ⟨w.heap.size, 0, none⟩ (.int .i64 n)).setCell ⟨w.heap.size, 1, none⟩ (.int .i64 f)) = y := ⟨_, rfl⟩
 have kwa : Kp wd wa (fun k => k = w.heap.size) := hwa ▸ (set_kp _ _ _ _).trans (set_kp _ _ _ _)
 replace R : Loc wa (w.heap.size) #[.int .i64 n, .int .i64 f] := hwa ▸ ((R.set 0 _ rfl).set 1 _ rfl)
 replace Z := Z.kp kwa (by omega)
 replace X := X.kp kwa (by omega)
 replace Y := Y.kp kwa (by omega)
 replace O := O.kp kwa (fun j hj e => by have := tO j hj; omega)
 replace B := Below.kp B kwa B.size (fun k hk => by omega)
 have zwa := kwa.size
 rw [hwa]
 clear hwa kwa c0 c1 fc
 clear hHeld
 refine hKK.out _ _ ⟨⟨X.cell 0 rfl, X.cell 1 rfl⟩, ⟨Y.cell 0 rfl, Y.cell 1 rfl, Y.cell 2 rfl, Y.cell 3 rfl, Y.cell 4 rfl, Y.cell 5 rfl⟩⟩ (fun hHeld => ?_)
 clear hKK KK
 have c0 := Z.cell 0 rfl
 have c1 := Z.cell 1 rfl
 have c2 := Z.cell 2 rfl
 have c3 := Z.cell 3 rfl
 have c4 := Z.cell 4 rfl
 have c5 := Z.cell 5 rfl
 have fc := Z.frozen
 refine rd 3 rfl (fun KK hKK => ?_)
 go_simp
 obtain ⟨wb, hwb⟩ : ∃ y, ((((((wa.setCell ⟨w.heap.size + 1, 0, none⟩ (.int .i64 vo)).setCell ⟨w.heap.size + 1, 1, none⟩ (.int .i64 lo)).setCell ⟨w.heap.size + 1, 2, none⟩ (.int .i64 v)).setCell ⟨w.heap.size + 1, 3, none⟩ (.string s)).setCell ⟨w.heap.size + 1, 4, none⟩ (.slice ua uk uc)).setCell ⟨w.heap.size + 1, 5, none⟩ (.string d)) = y := ⟨_, rfl⟩
 have kwb : Kp wa wb (fun k => k = w.heap.size + 1) := hwb ▸ (((((set_kp _ _ _ _).trans (set_kp _ _ _ _)).trans (set_kp _ _ _ _)).trans (set_kp _ _ _ _)).trans (set_kp _ _ _ _)).trans (set_kp _ _ _ _)
 replace Z : Loc wb (w.heap.size + 1) #[.int .i64 vo, .int .i64 lo, .int .i64 v, .string s, .slice ua uk uc, .string d] := hwb ▸ ((((((Z.set 0 _ rfl).set 1 _ rfl).set 2 _ rfl).set 3 _ rfl).set 4 _ rfl).set 5 _ rfl)
 replace R := R.kp kwb (by omega)
 replace X := X.kp kwb (by omega)
 replace Y := Y.kp kwb (by omega)
 replace O := O.kp kwb (fun j hj e => by have := tO j hj; omega)
 replace B := Below.kp B kwb B.size (fun k hk => by omega)
 have zwb := kwb.size
 rw [hwb]
 clear hwb kwb c0 c1 c2 c3 c4 c5 fc
 clear hHeld
 refine hKK.out _ _ ⟨⟨X.cell 0 rfl, X.cell 1 rfl⟩, ⟨Y.cell 0 rfl, Y.cell 1 rfl, Y.cell 2 rfl, Y.cell 3 rfl, Y.cell 4 rfl, Y.cell 5 rfl⟩⟩ (fun hHeld => ?_)
 clear hKK KK
 clear hHeld
 refine wdn ?_
 have r0 := R.cell 0 rfl
 have r1 := R.cell 1 rfl
 have z0 := Z.cell 0 rfl
 have z1 := Z.cell 1 rfl
 have z2 := Z.cell 2 rfl
 have z3 := Z.cell 3 rfl
 have z4 := Z.cell 4 rfl
 have z5 := Z.cell 5 rfl
 clear R Z X Y
 go_wp2
 refine bodyPost_ret (v := .tuple #[cv n f, sv vo lo v s (.slice ua uk uc) d]) (by simp [results, Tryz.results5, go_sem, r0, r1, z0, z1, z2, z3, z4, z5]) rfl ?_
 exact ⟨_, _, _, _, _, _, _, _, xs, rfl, hs, hd, (by omega), O.mono (by omega), B⟩

theorem drawQcBytes (ao : Option Addr) (ca : Nat) (zs : List Int) (w : World) (h : DCode w ao zs) :
 Calls Tryz.prog 14 #[.slice ao zs.length ca] w fun e w' => ∃ (n f v : Int) (s : ByteArray) (u : Value) (xs : List Int), e = .returned (.tuple #[cv n f, qv v s u]) ∧ s.size ≤ 8001 ∧ xs.length ≤ 9 ∧ OI w' w.heap.size u xs ∧ Below w.heap.size w w' := by
 obtain ⟨w0, hw0⟩ : ∃ w0, (w.alloc (.cells #[.int .i64 0, .int .i64 0] 25)).alloc (.cells #[.int .i64 0, .string ⟨#[]⟩, .slice none 0 0] 28) = w0 := ⟨_, rfl⟩
 have B : Below w.heap.size w w0 := hw0 ▸ qalloc2 _ _ _
 have R : Loc w0 w.heap.size #[.int .i64 0, .int .i64 0] := hw0 ▸ (loc_at w _ _ rfl).alloc _
 have Z : Loc w0 (w.heap.size + 1) #[.int .i64 0, .string ⟨#[]⟩, .slice none 0 0] := hw0 ▸ loc_at (w.alloc _) _ _ (by simp)
 have s0 : w.heap.size + 1 + 1 ≤ w0.heap.size := by rw [← hw0]; simp
 have DR := hide (drawQcOk ao ca zs w0 (h.below B))
 clear h
 go_enter Tryz.func14, Tryz.ntmps14
 go_wp2_with fail
 clear hw0
 refine DR.out.mono ?_
 rintro e w1 ⟨n, f, v, s, u, xs, rfl, hs, hl, hw, O, b1⟩
 replace B := bu B b1
 replace R := R.up b1
 replace Z := Z.up b1
 have s1 := b1.size
 clear b1 DR
 have tO := World.ownsRow.lt O
 obtain ⟨ua, uc, rfl⟩ := O.form
 obtain ⟨uk, huk⟩ : ∃ k, xs.length = k := ⟨_, rfl⟩
 rw [huk] at O tO ⊢
 go_upto_region 2 with fail
 obtain ⟨w2, hw2⟩ : ∃ y, (w1.alloc (.cells #[.int .i64 n, .int .i64 f] 25)).alloc (.cells #[.int .i64 v, .string s, .slice ua uk uc] 28) = y := ⟨_, rfl⟩
 rw [hw2]
 have b2 : Below w1.heap.size w1 w2 := hw2 ▸ qalloc2 _ _ _
 have X : Loc w2 w1.heap.size #[.int .i64 n, .int .i64 f] := hw2 ▸ (loc_at w1 _ _ rfl).alloc _
 have Y : Loc w2 (w1.heap.size + 1) #[.int .i64 v, .string s, .slice ua uk uc] := hw2 ▸ loc_at (w1.alloc _) _ _ (by simp)
 have s2 : w1.heap.size + 1 + 1 ≤ w2.heap.size := by rw [← hw2]; simp
 clear hw2
 replace R := R.up b2
 replace Z := Z.up b2
 replace O := O.below b2
 replace B := bu B b2
 clear b2
 refine wp_region_noPanic ?_
 refine wp_region_held_drew (S := fun w' => (w'.cell? ⟨w1.heap.size, 0, none⟩ = some (.int .i64 n) ∧ w'.cell? ⟨w1.heap.size, 1, none⟩ = some (.int .i64 f)) ∧ (w'.cell? ⟨w1.heap.size + 1, 0, none⟩ = some (.int .i64 v) ∧ w'.cell? ⟨w1.heap.size + 1, 1, none⟩ = some (.string s) ∧ w'.cell? ⟨w1.heap.size + 1, 2, none⟩ = some (.slice ua uk uc))) (by kernel_rfl) ⟨⟨X.cell 0 rfl, X.cell 1 rfl⟩, ⟨Y.cell 0 rfl, Y.cell 1 rfl, Y.cell 2 rfl⟩⟩ (fun hHeld => ?_)
 obtain ⟨wd, hd9⟩ : ∃ wd, w2.drew = wd := ⟨_, rfl⟩
 have bd : Below w2.heap.size w2 wd := hd9 ▸ Below.drew (Below.refl _ _)
 have sd : w2.heap.size ≤ wd.heap.size := bd.size
 replace R := R.up bd
 replace Z := Z.up bd
 replace X := X.up bd
 replace Y := Y.up bd
 replace O := O.below bd
 replace B := bu B bd
 rw [hd9] at hHeld ⊢
 clear hd9 bd
 refine' tj 0 11 rfl ?_ ?_;rotate_left
 ·intro w h; (try dsimp only at h); go_simp; try with_reducible rfl
 simp only [pU]
 refine' tj 1 12 rfl ?_ ?_;rotate_left
 ·intro w h; (try dsimp only at h); go_simp; try with_reducible rfl
 simp only [pU]
 have c0 := R.cell 0 rfl
 have c1 := R.cell 1 rfl
 have fc := R.frozen
 refine rd 2 rfl (fun KK hKK => ?_)
 go_simp
 obtain ⟨wa, hwa⟩ : ∃ y, ((wd.setCell ⟨w.heap.size, 0, none⟩ (.int .i64 n)).setCell ⟨w.heap.size, 1, none⟩ (.int .i64 f)) = y := ⟨_, rfl⟩
 have kwa : Kp wd wa (fun k => k = w.heap.size) := hwa ▸ (set_kp _ _ _ _).trans (set_kp _ _ _ _)
 replace R : Loc wa (w.heap.size) #[.int .i64 n, .int .i64 f] := hwa ▸ ((R.set 0 _ rfl).set 1 _ rfl)
 replace Z := Z.kp kwa (by omega)
 replace X := X.kp kwa (by omega)
 replace Y := Y.kp kwa (by omega)
 replace O := O.kp kwa (fun j hj e => by have := tO j hj; omega)
 replace B := Below.kp B kwa B.size (fun k hk => by omega)
 have zwa := kwa.size
 rw [hwa]
 clear hwa kwa c0 c1 fc
 clear hHeld
 refine hKK.out _ _ ⟨⟨X.cell 0 rfl, X.cell 1 rfl⟩, ⟨Y.cell 0 rfl, Y.cell 1 rfl, Y.cell 2 rfl⟩⟩ (fun hHeld => ?_)
 clear hKK KK
 have c0 := Z.cell 0 rfl
 have c1 := Z.cell 1 rfl
 have c2 := Z.cell 2 rfl
 have fc := Z.frozen
 refine rd 3 rfl (fun KK hKK => ?_)
 go_simp
 obtain ⟨wb, hwb⟩ : ∃ y, (((wa.setCell ⟨w.heap.size + 1, 0, none⟩ (.int .i64 v)).setCell ⟨w.heap.size + 1, 1, none⟩ (.string s)).setCell ⟨w.heap.size + 1, 2, none⟩ (.slice ua uk uc)) = y := ⟨_, rfl⟩
 have kwb : Kp wa wb (fun k => k = w.heap.size + 1) := hwb ▸ ((set_kp _ _ _ _).trans (set_kp _ _ _ _)).trans (set_kp _ _ _ _)
 replace Z : Loc wb (w.heap.size + 1) #[.int .i64 v, .string s, .slice ua uk uc] := hwb ▸ (((Z.set 0 _ rfl).set 1 _ rfl).set 2 _ rfl)
 replace R := R.kp kwb (by omega)
 replace X := X.kp kwb (by omega)
 replace Y := Y.kp kwb (by omega)
 replace O := O.kp kwb (fun j hj e => by have := tO j hj; omega)
 replace B := Below.kp B kwb B.size (fun k hk => by omega)
 have zwb := kwb.size
 rw [hwb]
 clear hwb kwb c0 c1 c2 fc
 clear hHeld
 refine hKK.out _ _ ⟨⟨X.cell 0 rfl, X.cell 1 rfl⟩, ⟨Y.cell 0 rfl, Y.cell 1 rfl, Y.cell 2 rfl⟩⟩ (fun hHeld => ?_)
 clear hKK KK
 clear hHeld
 refine wdn ?_
 have r0 := R.cell 0 rfl
 have r1 := R.cell 1 rfl
 have z0 := Z.cell 0 rfl
 have z1 := Z.cell 1 rfl
 have z2 := Z.cell 2 rfl
 clear R Z X Y
 go_wp2
 refine bodyPost_ret (v := .tuple #[cv n f, qv v s (.slice ua uk uc)]) (by simp [results, Tryz.results14, go_sem, r0, r1, z0, z1, z2]) rfl ?_
 exact ⟨_, _, _, _, _, xs, rfl, hs, (by omega), O.mono (by omega), B⟩
end Go.Proofs.YtcclbejpgiogaaaGreatDoor
