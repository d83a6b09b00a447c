/- DrawQcOk, DrawQcLater. -/
import Derived.Test.YtdgadkinkalcpaaGreatDoorDrawQcQ
import Derived.Test.YtdgadkinkalcpaaGreatDoorBunL
/- DrawQcOk, DrawQcLater. -/
namespace Go.Proofs.YtdgadkinkalcpaaGreatDoor
open Go.RowKit
set_option linter.unusedSectionVars false
variable [∀ (a b c d : Int), Decidable (Ok4 a b c d)]
variable [∀ (a b c d : Nat), Decidable (okN a b c d)]
variable [∀ (x : T4), Decidable (OkT x)]
variable [∀ (n f : Int), Decidable (COk n f)]
variable [∀ (last : Int) (s : St), Decidable (GoodSt last s)]

set_option maxHeartbeats 8000000 in
set_option maxRecDepth 100000 in
theorem drawQcOk (ao : Option Addr) (ca : Nat) (zs : List Int) (w : World) (h : DCode w ao zs) :
    Calls Tryz.prog 6 #[.slice ao zs.length ca] w fun e w' => ∃ (n f v : Int) (s : ByteArray) (u : Value) (xs : List Int), e = .returned (.tuple #[cv n f, qv v s u]) ∧ s.size ≤ 8001 ∧ xs.length ≤ 9 ∧ Hid (WfL xs) ∧ OI w' w.heap.size u xs ∧ Below w.heap.size w w' := by
  obtain ⟨w0, hw0⟩ : ∃ w0, (w.alloc zc).alloc zq = w0 := ⟨_, rfl⟩
  have B0 : Below w.heap.size w w0 := hw0 ▸ qalloc2 _ _ _
  have R0 : Loc w0 w.heap.size #[.int .i64 0, .int .i64 0] := hw0 ▸ (loc_at w _ _ rfl).alloc _
  have Z0 : Loc w0 (w.heap.size + 1) #[.int .i64 0, .string ⟨#[]⟩, .slice none 0 0] := hw0 ▸ loc_at (w.alloc _) _ _ (by simp)
  have s0 : w.heap.size + 1 + 1 ≤ w0.heap.size := by rw [← hw0]; simp
  have D0 := h.below B0 (Nat.le_refl _)
  have NW := hide (new_any ao ca zs w0 D0.len D0.code D0.fit)
  clear h D0
  go_enter Tryz.func6, Tryz.ntmps6
  go_wp2_with fail
  clear hw0
  refine (unhide NW).mono ?_
  rintro e w1 ⟨rfl, c1, b1⟩
  have B1 := B0.trans (b1.mono B0.size)
  have R1 := R0.below b1 R0.lt
  have Z1 := Z0.below b1 Z0.lt
  have s1 := b1.size
  generalize w0.heap.size = g at *
  have hg1 := c1.lt
  clear R0 Z0 B0 b1 NW
  go_wp2_with fail
  refine (drawConf g g ca ao zs _ s1 c1).mono ?_
  rintro e w2 ⟨n, f, rfl, ⟨hn0, hn1⟩, c2, e2⟩
  have R2 := R1.grown e2 (by omega)
  have Z2 := Z1.grown e2 (by omega)
  have B2 := cur_below e2 B1 B1.size (by omega)
  have s2 := e2.size
  clear R1 Z1 B1 c1 e2
  obtain ⟨w3, hw3⟩ : ∃ w3, w2.alloc (.cells #[.int .i64 n, .int .i64 f] 25) = w3 := ⟨_, rfl⟩
  have b3 : Below w2.heap.size w2 w3 := hw3 ▸ qalloc _ _
  have X3 : Loc w3 w2.heap.size #[.int .i64 n, .int .i64 f] := hw3 ▸ loc_at w2 _ _ rfl
  have R3 := R2.below b3 R2.lt
  have Z3 := Z2.below b3 Z2.lt
  have c3 := c2.below (by omega) b3
  have B3 := B2.trans (b3.mono B2.size)
  have s3 : w2.heap.size + 1 ≤ w3.heap.size := by rw [← hw3]; simp
  have x0 := X3.cell 0 rfl
  have x1 := X3.cell 1 rfl
  clear R2 Z2 B2 c2 b3
  go_wp2_with fail
  clear hw3 x0 x1
  refine (drawQc g g ca ao zs n f _ (by omega) hn0 hn1 c3).mono ?_
  rintro e w4 ⟨v, s, u, xs, rfl, hs, hl, hw, O4, c4, e4⟩
  have R4 := R3.grown e4 (by omega)
  have Z4 := Z3.grown e4 (by omega)
  have X4 := X3.grown e4 (by omega)
  have B4 := cur_below e4 B3 B3.size (by omega)
  have s4 := e4.size
  have lo4 := World.ownsRow.lt O4
  obtain ⟨ua, uc, rfl⟩ := O4.form
  clear R3 Z3 X3 B3 c3 e4
  obtain ⟨w5, hw5⟩ : ∃ w5, w4.alloc (.cells #[.int .i64 v, .string s, .slice ua xs.length uc] 28) = w5 := ⟨_, rfl⟩
  have b5 : Below w4.heap.size w4 w5 := hw5 ▸ qalloc _ _
  have Y5 : Loc w5 w4.heap.size #[.int .i64 v, .string s, .slice ua xs.length uc] := hw5 ▸ loc_at w4 _ _ rfl
  have R5 := R4.below b5 R4.lt
  have Z5 := Z4.below b5 Z4.lt
  have X5 := X4.below b5 X4.lt
  have O5 := O4.below b5
  have c5 := c4.below (by omega) b5
  have B5 := B4.trans (b5.mono B4.size)
  have s5 : w4.heap.size + 1 ≤ w5.heap.size := by rw [← hw5]; simp
  clear R4 Z4 X4 O4 B4 c4 b5
  go_wp2_with fail
  clear hw5
  refine (once_any g g ca ao zs 10 _ (by omega) (by omega) (by omega) c5).mono ?_
  rintro e w6 ⟨b, rfl, c6, e6⟩
  have R6 := R5.grown e6 (by omega)
  have Z6 := Z5.grown e6 (by omega)
  have X6 := X5.grown e6 (by omega)
  have Y6 := Y5.grown e6 (by omega)
  have O6 := O5.drawn e6 (by omega)
  have B6 := cur_below e6 B5 B5.size (by omega)
  have s6 := e6.size
  clear R5 Z5 X5 Y5 O5 B5 c5 e6
  have FI : Hid (∀ (n f : Int) (w' : World), OI w' w3.heap.size (.slice ua xs.length uc) xs → Below w.heap.size w w' →
      s.size ≤ 8001 ∧ xs.length ≤ 9 ∧ Hid (WfL xs) ∧ OI (((((w'.setCell ⟨w.heap.size, 0, none⟩ (.int .i64 n)).setCell ⟨w.heap.size, 1, none⟩ (.int .i64 f)).setCell ⟨w.heap.size + 1, 0, none⟩ (.int .i64 v)).setCell ⟨w.heap.size + 1, 1, none⟩ (.string s)).setCell ⟨w.heap.size + 1, 2, none⟩ (.slice ua xs.length uc)) w.heap.size (.slice ua xs.length uc) xs ∧ Below w.heap.size w (((((w'.setCell ⟨w.heap.size, 0, none⟩ (.int .i64 n)).setCell ⟨w.heap.size, 1, none⟩ (.int .i64 f)).setCell ⟨w.heap.size + 1, 0, none⟩ (.int .i64 v)).setCell ⟨w.heap.size + 1, 1, none⟩ (.string s)).setCell ⟨w.heap.size + 1, 2, none⟩ (.slice ua xs.length uc))) := hide fun n f w' h1 h2 => by
    have K5 : Kp w' (((((w'.setCell ⟨w.heap.size, 0, none⟩ (.int .i64 n)).setCell ⟨w.heap.size, 1, none⟩ (.int .i64 f)).setCell ⟨w.heap.size + 1, 0, none⟩ (.int .i64 v)).setCell ⟨w.heap.size + 1, 1, none⟩ (.string s)).setCell ⟨w.heap.size + 1, 2, none⟩ (.slice ua xs.length uc)) (fun k => k = w.heap.size ∨ k = w.heap.size + 1) :=
      ((((((set_kp _ _ _ _).mono (fun k h => .inl h)).trans ((set_kp _ _ _ _).mono (fun k h => .inl h))).trans ((set_kp _ _ _ _).mono (fun k h => .inr h))).trans ((set_kp _ _ _ _).mono (fun k h => .inr h))).trans ((set_kp _ _ _ _).mono (fun k h => .inr h)))
    have lt3 := World.ownsRow.lt h1
    exact ⟨hs, hl, hw, (h1.kp K5 (fun k hk e => by have := lt3 k hk; omega)).mono (by omega), Below.kp h2 K5 h2.size (fun k hk => by omega)⟩
  cases b
  · have R := hide (unhide FI n f w6 O6 B6)
    have x0 := X6.cell 0 rfl
    have x1 := X6.cell 1 rfl
    have y0 := Y6.cell 0 rfl
    have y1 := Y6.cell 1 rfl
    have y2 := Y6.cell 2 rfl
    have r0 := R6.cell 0 rfl
    have r1 := R6.cell 1 rfl
    have fr := R6.frozen
    have z0 := Z6.cell 0 rfl
    have z1 := Z6.cell 1 rfl
    have z2 := Z6.cell 2 rfl
    have fz := Z6.frozen
    clear R6 Z6 X6 Y6 O6 B6 FI
    go_upto_region 6 with fail
    go_region
    all_goals
      go_wp2
      refine bodyPost_ret (v := .tuple #[cv n f, qv v s (.slice ua xs.length uc)]) (by simp [results, Tryz.results6, go_sem, r0, r1, z0, z1, z2]) rfl ?_
      obtain ⟨t1, t2, t3, t4, t5⟩ := unhide R
      exact ⟨_, _, _, _, _, _, rfl, t1, t2, t3, t4, Below.drew t5⟩
  · go_wp2_with fail
    refine (drawBent g g ca ao zs _ (by omega) c6).mono ?_
    rintro e w7 ⟨n', f', rfl, c7, e7⟩
    have R7 := R6.grown e7 (by omega)
    have Z7 := Z6.grown e7 (by omega)
    have X7 := X6.grown e7 (by omega)
    have Y7 := Y6.grown e7 (by omega)
    have O7 := O6.drawn e7 (by omega)
    have B7 := cur_below e7 B6 B6.size (by omega)
    have lo7 := World.ownsRow.lt O7
    obtain ⟨w8, hw8⟩ : ∃ w8, (w7.setCell ⟨w2.heap.size, 0, none⟩ (.int .i64 n')).setCell ⟨w2.heap.size, 1, none⟩ (.int .i64 f') = w8 := ⟨_, rfl⟩
    have K8 : Kp w7 w8 (fun k => k = w2.heap.size) := hw8 ▸ (set_kp _ _ _ _).trans (set_kp _ _ _ _)
    have X8 : Loc w8 w2.heap.size #[.int .i64 n', .int .i64 f'] := hw8 ▸ (X7.set 0 _ rfl).set 1 _ rfl
    have R8 := R7.kp K8 (by omega)
    have Z8 := Z7.kp K8 (by omega)
    have Y8 := Y7.kp K8 (by omega)
    have O8 := O7.kp K8 (fun k hk e => by have := lo7 k hk; omega)
    have B8 := Below.kp B7 K8 B7.size (fun k hk => by omega)
    have R := hide (unhide FI n' f' _ O8 B8)
    have x0 := X7.cell 0 rfl
    have x1 := X7.cell 1 rfl
    have fx := X7.frozen
    clear R6 Z6 X6 Y6 O6 B6 R7 Z7 X7 Y7 O7 B7 O8 B8 K8 c6 c7 e7 FI
    go_upto_region 6 with fail
    clear hw8 x0 x1 fx
    have x0 := X8.cell 0 rfl
    have x1 := X8.cell 1 rfl
    have y0 := Y8.cell 0 rfl
    have y1 := Y8.cell 1 rfl
    have y2 := Y8.cell 2 rfl
    have r0 := R8.cell 0 rfl
    have r1 := R8.cell 1 rfl
    have fr := R8.frozen
    have z0 := Z8.cell 0 rfl
    have z1 := Z8.cell 1 rfl
    have z2 := Z8.cell 2 rfl
    have fz := Z8.frozen
    clear X8 Y8 R8 Z8
    go_region
    all_goals
      go_wp2
      refine bodyPost_ret (v := .tuple #[cv n' f', qv v s (.slice ua xs.length uc)]) (by simp [results, Tryz.results6, go_sem, r0, r1, z0, z1, z2]) rfl ?_
      obtain ⟨t1, t2, t3, t4, t5⟩ := unhide R
      exact ⟨_, _, _, _, _, _, rfl, t1, t2, t3, t4, Below.drew t5⟩
end Go.Proofs.YtdgadkinkalcpaaGreatDoor
