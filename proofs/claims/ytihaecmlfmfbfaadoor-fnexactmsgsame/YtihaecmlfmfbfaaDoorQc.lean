/- Qc: a certificate as a value; laws.eqQc, heldQc, szQc. -/
import Derived.Test.YtihaecmlfmfbfaaDoorMarkInts
import Derived.Test.YtihaecmlfmfbfaaDoorIntPieces
import Derived.Test.YtihaecmlfmfbfaaDoorLoc
namespace Go.Proofs.YtihaecmlfmfbfaaDoor
open Go.RowKit

/-- A certificate: its view, its name, who voted. -/
abbrev qv (n : Int) (s : ByteArray) (v : Value) : Value := .agg #[.int .i64 n, .string s, v]
theorem qalloc (w : World) (o : Obj) : Below w.heap.size w (w.alloc o) := (Below.refl _ _).alloc (Nat.le_refl _) _
theorem qalloc2 (w : World) (o p : Obj) : Below w.heap.size w ((w.alloc o).alloc p) := ((Below.refl _ _).alloc (Nat.le_refl _) _).alloc (by simp) _

set_option maxHeartbeats 1600000 in
set_option maxRecDepth 100000 in
theorem eqQc_yes (n : Int) (s : ByteArray) (a b : Value) (xs : List Int) (w : World) (ha : RI w a xs) (hb : RI w b xs) :
    Calls Tryd.prog 23 #[qv n s a, qv n s b] w fun e w' => e = .returned (.bool true) ∧ Below w.heap.size w w' := by
  have R1 := hide ha
  have R2 := hide hb
  have B := hide (qalloc2 w (.cells #[.int .i64 n, .string s, a] 34) (.cells #[.int .i64 n, .string s, b] 34))
  clear ha hb
  go_enter Tryd.func23, Tryd.ntmps23
  go_wp2_with fail
  refine (eqIntS_yes a b xs _ ((unhide R1).below (unhide B) (Nat.le_refl _)) ((unhide R2).below (unhide B) (Nat.le_refl _))).mono ?_
  rintro e w1 ⟨rfl, n, rfl⟩
  go_wp2
  go_ret
  exact ⟨rfl, below_drewN' (unhide B) _⟩

set_option maxHeartbeats 800000 in
set_option maxRecDepth 100000 in
theorem szQc_yes (n : Int) (s : ByteArray) (ao : Option Addr) (m ca : Nat) (left : Int) (w : World) (h : (s.size : Int) + m ≤ left) (hl : left ≤ 1048576) :
    Calls Tryd.prog 11 #[qv n s (.slice ao m ca), .int .i64 left] w fun e w' => e = .returned (.int .i64 (left - s.size - m)) ∧ Below w.heap.size w w' := by
  have h1 : decide ((left : Int) - (s.size : Int) < 0) = false := by simp; omega
  have h2 : decide ((left : Int) - (s.size : Int) - (m : Int) < 0) = false := by simp; omega
  go_enter Tryd.func11, Tryd.ntmps11
  go_wp2_with (first | (go_at_call 25; refine (szIntS_yes _ _ _ _ _ (by omega) (by omega)).mono ?_; rintro e w' ⟨rfl, rfl⟩))
  go_ret
  exact ⟨rfl, qalloc _ _⟩
set_option maxHeartbeats 800000 in
set_option maxRecDepth 100000 in
theorem szQc_no1 (n : Int) (s : ByteArray) (ao : Option Addr) (m ca : Nat) (left : Int) (w : World) (h0 : 0 ≤ left) (h : left < s.size) (hs : s.size ≤ 9223372036854775807) (hl : left ≤ 1048576) :
    Calls Tryd.prog 11 #[qv n s (.slice ao m ca), .int .i64 left] w fun e w' => e = .returned (.int .i64 (-1)) ∧ Below w.heap.size w w' := by
  have h1 : decide ((left : Int) - (s.size : Int) < 0) = true := by simp; omega
  go_enter Tryd.func11, Tryd.ntmps11
  go_wp2
  go_ret
  exact ⟨rfl, qalloc _ _⟩
set_option maxHeartbeats 800000 in
set_option maxRecDepth 100000 in
theorem szQc_no2 (n : Int) (s : ByteArray) (ao : Option Addr) (m ca : Nat) (left : Int) (w : World) (h0 : (s.size : Int) ≤ left) (h : left < s.size + m) (hm : m ≤ 9223372036854775807) (hl : left ≤ 1048576) :
    Calls Tryd.prog 11 #[qv n s (.slice ao m ca), .int .i64 left] w fun e w' => e = .returned (.int .i64 (-1)) ∧ Below w.heap.size w w' := by
  have h1 : decide ((left : Int) - (s.size : Int) < 0) = false := by simp; omega
  go_enter Tryd.func11, Tryd.ntmps11
  go_wp2_with fail
  refine (szIntS_no _ _ _ _ _ (by omega) (by omega) (by omega) hm).mono ?_
  rintro e w' ⟨rfl, rfl⟩
  go_wp2
  go_ret
  exact ⟨rfl, qalloc _ _⟩
/-- What szQc answers when too much is there. -/
theorem szQc_no (n : Int) (s : ByteArray) (ao : Option Addr) (m ca : Nat) (left : Int) (w : World) (h0 : 0 ≤ left) (h : left < s.size + m) (hs : s.size ≤ 9223372036854775807) (hm : m ≤ 9223372036854775807) (hl : left ≤ 1048576) :
    Calls Tryd.prog 11 #[qv n s (.slice ao m ca), .int .i64 left] w fun e w' => e = .returned (.int .i64 (-1)) ∧ Below w.heap.size w w' := by
  by_cases h1 : left < (s.size : Int)
  · exact szQc_no1 n s ao m ca left w h0 h1 hs hl
  · exact szQc_no2 n s ao m ca left w (by omega) h hm hl

set_option maxHeartbeats 1600000 in
set_option maxRecDepth 100000 in
theorem toQc_any (n : Int) (s : ByteArray) (a : Value) (xs : List Int) (w : World) (ha : RI w a xs) :
    Calls Tryd.prog 17 #[qv n s a] w fun e w' => ∃ u, e = .returned (qv n s u) ∧ OI w' w.heap.size u xs ∧ Below w.heap.size w w' := by
  have R1 := hide ha
  clear ha
  go_enter Tryd.func17, Tryd.ntmps17
  go_wp2_with fail
  refine Calls.mono (toIntS_any a xs _ ((unhide R1).below ((((Below.refl w.heap.size w).alloc (Nat.le_refl _) _).alloc (by simp) _).alloc (by simp; omega) _) (Nat.le_refl _))) ?_
  rintro e w1 ⟨u, rfl, o1, b1⟩
  have s1 := b1.size
  have L1 : Loc w1 (w.heap.size + 1) #[.int .i64 0, .string ⟨#[]⟩, .slice none 0 0] := Loc.below (Loc.alloc (loc_at (w.alloc _) #[.int .i64 0, .string ⟨#[]⟩, .slice none 0 0] _ (by simp)) _) b1 (by simp)
  have L2 : Loc w1 (w.heap.size + 1 + 1) #[.int .i64 n, .string s, .slice none 0 0] := Loc.below (loc_at ((w.alloc _).alloc _) #[.int .i64 n, .string s, .slice none 0 0] _ (by simp)) b1 (by simp)
  have B1 : Below w.heap.size w w1 := ((((Below.refl w.heap.size w).alloc (Nat.le_refl _) _).alloc (by simp) _).alloc (by simp; omega) _).trans (b1.mono (by simp; omega))
  have lt1 := World.ownsRow.lt o1
  simp at lt1 s1
  have y0 := L1.cell 0 rfl
  have y1 := L1.cell 1 rfl
  have y2 := L1.cell 2 rfl
  have fy0 := L1.frozen 0
  have fy1 := L1.frozen 1
  have fy2 := L1.frozen 2
  have z0 := L2.cell 0 rfl
  have z1 := L2.cell 1 rfl
  have z2 := L2.cell 2 rfl
  have fz2 := L2.frozen 2
  obtain ⟨ua, uc, hu⟩ := o1.form
  have O1 := hide o1
  clear o1 b1
  subst hu
  go_wp2
  refine bodyPost_ret (v := qv n s (.slice ua xs.length uc)) (by simp [results, Tryd.results17, go_sem, y0, y1, y2]) rfl ?_
  have K : Kp w1 ((((w1.setCell ⟨w.heap.size + 1 + 1, 2, none⟩ (.slice ua xs.length uc)).setCell ⟨w.heap.size + 1, 0, none⟩ (.int .i64 n)).setCell ⟨w.heap.size + 1, 1, none⟩ (.string s)).setCell ⟨w.heap.size + 1, 2, none⟩ (.slice ua xs.length uc)) (fun k => k = w.heap.size + 1 ∨ k = w.heap.size + 1 + 1) :=
    (((((set_kp _ _ _ _).mono (fun k h => .inr h))).trans ((set_kp _ _ _ _).mono (fun k h => .inl h))).trans ((set_kp _ _ _ _).mono (fun k h => .inl h))).trans ((set_kp _ _ _ _).mono (fun k h => .inl h))
  exact ⟨_, rfl, ((unhide O1).kp K (fun k hk => by have := lt1 k hk; omega)).mono (by simp; omega), Below.kp B1 K B1.size (fun k hk => by omega)⟩
end Go.Proofs.YtihaecmlfmfbfaaDoor
