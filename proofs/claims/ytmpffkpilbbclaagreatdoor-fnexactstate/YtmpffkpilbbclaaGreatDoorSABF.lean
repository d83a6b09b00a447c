/- (impl.row).bounded: each number of a row brought within its limits. -/
import Derived.Test.YtmpffkpilbbclaaGreatDoorSAAA
namespace Go.Proofs.YtmpffkpilbbclaaGreatDoor
section
open Go.RowKit
def cl (m x : Int) : Int := if x < 0 then 0 else if m < x then m else x

theorem row_at0 (a b c d : Int) (w : World) : (Instr.index 147 (rv a b c d) (.int .i64 0)).run Tryz.prog w = .ok (.int .i64 a) w := by
 simp [Instr.index, run_underlying Tryz.underlying147, asIntOf, go_sem]
theorem row_at1 (a b c d : Int) (w : World) : (Instr.index 147 (rv a b c d) (.int .i64 1)).run Tryz.prog w = .ok (.int .i64 b) w := by
 simp [Instr.index, run_underlying Tryz.underlying147, asIntOf, go_sem]
theorem row_at2 (a b c d : Int) (w : World) : (Instr.index 147 (rv a b c d) (.int .i64 2)).run Tryz.prog w = .ok (.int .i64 c) w := by
 simp [Instr.index, run_underlying Tryz.underlying147, asIntOf, go_sem]
theorem row_at3 (a b c d : Int) (w : World) : (Instr.index 147 (rv a b c d) (.int .i64 3)).run Tryz.prog w = .ok (.int .i64 d) w := by
 simp [Instr.index, run_underlying Tryz.underlying147, asIntOf, go_sem]

theorem cl_low {m x : Int} (h : x < 0) : cl m x = 0 := by unfold cl; rw [if_pos h]
theorem cl_high {m x : Int} (h0 : 0 ≤ x) (h : m < x) : cl m x = m := by unfold cl; rw [if_neg (by omega), if_pos h]
theorem cl_mid {m x : Int} (h0 : 0 ≤ x) (h : x ≤ m) : cl m x = x := by unfold cl; rw [if_neg (by omega), if_neg (by omega)]
theorem cl_same {m x : Int} : cl m x = x ↔ 0 ≤ x ∧ x ≤ m := by unfold cl; split <;> (try split) <;> omega
def upto (k : Nat) (m a b c d : Int) : Array Value := r4 (if 0 < k then cl m a else a) (if 1 < k then cl m b else b) (if 2 < k then cl m c else c) (if 3 < k then cl m d else d)

set_option maxHeartbeats 8000000 in
set_option maxRecDepth 100000 in
theorem bounded_any (a b c d m : Int) (w : World) (hm : 0 ≤ m) :
 Calls Tryz.prog 185 #[rv a b c d,.int .i64 m] w fun e w' => e = .returned (rv (cl m a) (cl m b) (cl m c) (cl m d)) ∧ Below w.heap.size w w' := by
 have h0:=row_at0 a b c d
 have h1:=row_at1 a b c d
 have h2:=row_at2 a b c d
 have h3:=row_at3 a b c d
 go_enter Tryz.func185, Tryz.ntmps185
 go_wp2
 obtain ⟨w0, hw0⟩ : ∃ w0, (w.alloc (.cells (r4 a b c d) 147)).alloc (.cells (r4 0 0 0 0) 147) = w0:=⟨_, rfl⟩
 have B0 : Below w.heap.size w w0:=hw0 ▸ ((Below.refl _ _).alloc (Nat.le_refl _) _).alloc (by simp) _
 have L0 : Loc w0 w.heap.size (upto 0 m a b c d):=hw0 ▸ (loc_at w _ _ rfl).alloc _
 have R0 : Loc w0 (w.heap.size + 1) (r4 0 0 0 0):=hw0 ▸ loc_at _ _ _ (by simp)
 rw [hw0]
 clear hw0
 go_loopw [8] (fun i wr => ∃ k : Nat, k ≤ 4 ∧ i = .int .i64 k ∧ Loc wr w.heap.size (upto k m a b c d) ∧ Loc wr (w.heap.size + 1) (r4 0 0 0 0) ∧ Below w.heap.size w wr) (fun i _ => 4 - (intOf i).toNat)
 case atStart => exact ⟨0, Nat.zero_le _, rfl, L0, R0, B0⟩
 case round =>
  clear B0 L0 R0
  obtain ⟨k, hk, rfl, L, R, B⟩:=hrel
  have FL:=L.frozen
  match k, hk with
  | 0, _ =>
   obtain ⟨x0, x1, x2, x3⟩:=L.cells4
   have L:=hide L
   have R:=hide R
   rcases Int.lt_or_le a 0 with hx | hx
   ·have HC:=hide (cl_low (m:=m) hx)
    go_wp2
    go_roundw
    case rel => exact ⟨1, by omega, by go_num, L.out.set 0 _ (by simp [upto, HC.out]), R.out.other (by simp) _, Below.set B _ _ (Nat.le_refl _)⟩
    case measure => simp [intOf]
   ·rcases Int.lt_or_le m a with hy | hy
    ·have HC:=hide (cl_high hx hy)
     go_wp2
     go_roundw
     case rel => exact ⟨1, by omega, by go_num, L.out.set 0 _ (by simp [upto, HC.out]), R.out.other (by simp) _, Below.set B _ _ (Nat.le_refl _)⟩
     case measure => simp [intOf]
    ·have HC:=hide (cl_mid hx hy)
     go_wp2
     go_roundw
     case rel => exact ⟨1, by omega, by go_num, L.out.set 0 _ (by simp [upto, HC.out]), R.out.other (by simp) _, Below.set B _ _ (Nat.le_refl _)⟩
     case measure => simp [intOf]
  | 1, _ =>
   obtain ⟨x0, x1, x2, x3⟩:=L.cells4
   have L:=hide L
   have R:=hide R
   rcases Int.lt_or_le b 0 with hx | hx
   ·have HC:=hide (cl_low (m:=m) hx)
    go_wp2
    go_roundw
    case rel => exact ⟨2, by omega, by go_num, L.out.set 1 _ (by simp [upto, HC.out]), R.out.other (by simp) _, Below.set B _ _ (Nat.le_refl _)⟩
    case measure => simp [intOf]
   ·rcases Int.lt_or_le m b with hy | hy
    ·have HC:=hide (cl_high hx hy)
     go_wp2
     go_roundw
     case rel => exact ⟨2, by omega, by go_num, L.out.set 1 _ (by simp [upto, HC.out]), R.out.other (by simp) _, Below.set B _ _ (Nat.le_refl _)⟩
     case measure => simp [intOf]
    ·have HC:=hide (cl_mid hx hy)
     go_wp2
     go_roundw
     case rel => exact ⟨2, by omega, by go_num, L.out.set 1 _ (by simp [upto, HC.out]), R.out.other (by simp) _, Below.set B _ _ (Nat.le_refl _)⟩
     case measure => simp [intOf]
  | 2, _ =>
   obtain ⟨x0, x1, x2, x3⟩:=L.cells4
   have L:=hide L
   have R:=hide R
   rcases Int.lt_or_le c 0 with hx | hx
   ·have HC:=hide (cl_low (m:=m) hx)
    go_wp2
    go_roundw
    case rel => exact ⟨3, by omega, by go_num, L.out.set 2 _ (by simp [upto, HC.out]), R.out.other (by simp) _, Below.set B _ _ (Nat.le_refl _)⟩
    case measure => simp [intOf]
   ·rcases Int.lt_or_le m c with hy | hy
    ·have HC:=hide (cl_high hx hy)
     go_wp2
     go_roundw
     case rel => exact ⟨3, by omega, by go_num, L.out.set 2 _ (by simp [upto, HC.out]), R.out.other (by simp) _, Below.set B _ _ (Nat.le_refl _)⟩
     case measure => simp [intOf]
    ·have HC:=hide (cl_mid hx hy)
     go_wp2
     go_roundw
     case rel => exact ⟨3, by omega, by go_num, L.out.set 2 _ (by simp [upto, HC.out]), R.out.other (by simp) _, Below.set B _ _ (Nat.le_refl _)⟩
     case measure => simp [intOf]
  | 3, _ =>
   obtain ⟨x0, x1, x2, x3⟩:=L.cells4
   have L:=hide L
   have R:=hide R
   rcases Int.lt_or_le d 0 with hx | hx
   ·have HC:=hide (cl_low (m:=m) hx)
    go_wp2
    go_roundw
    case rel => exact ⟨4, by omega, by go_num, L.out.set 3 _ (by simp [upto, HC.out]), R.out.other (by simp) _, Below.set B _ _ (Nat.le_refl _)⟩
    case measure => simp [intOf]
   ·rcases Int.lt_or_le m d with hy | hy
    ·have HC:=hide (cl_high hx hy)
     go_wp2
     go_roundw
     case rel => exact ⟨4, by omega, by go_num, L.out.set 3 _ (by simp [upto, HC.out]), R.out.other (by simp) _, Below.set B _ _ (Nat.le_refl _)⟩
     case measure => simp [intOf]
    ·have HC:=hide (cl_mid hx hy)
     go_wp2
     go_roundw
     case rel => exact ⟨4, by omega, by go_num, L.out.set 3 _ (by simp [upto, HC.out]), R.out.other (by simp) _, Below.set B _ _ (Nat.le_refl _)⟩
     case measure => simp [intOf]
  | 4, _ =>
   obtain ⟨x0, x1, x2, x3⟩:=(show Loc wr w.heap.size (r4 (cl m a) (cl m b) (cl m c) (cl m d)) from L).cells4
   obtain ⟨y0, y1, y2, y3⟩:=R.cells4
   have FR:=R.frozen
   clear L R
   go_wp2
   refine bodyPost_ret (v := rv (cl m a) (cl m b) (cl m c) (cl m d)) (by simp [results, Tryz.results185, go_sem, y0, y1, y2, y3]) rfl ?_
   exact ⟨rfl, Below.set (Below.set (Below.set (Below.set B _ _ (by omega)) _ _ (by omega)) _ _ (by omega)) _ _ (by omega)⟩
end
end Go.Proofs.YtmpffkpilbbclaaGreatDoor
