/- The walk of laws.FnExactTxOf. -/
import Derived.Test.YtnbiphlificliaaDoorSpecTxOf
import Derived.Test.YtnbiphlificliaaDoorEqTx
namespace Go.Proofs.YtnbiphlificliaaDoor
open Go.RowKit
set_option linter.unusedSectionVars false
variable [∀ (a b c d : Int), Decidable (Ok4 a b c d)]
variable [∀ (a b c d : Nat), Decidable (okN a b c d)]

theorem txval_form (o : Option (Nat × Nat × Nat × Nat)) : ∃ (a b c d : Int) (q : Bool), txval o = .tuple #[txv a b c d, .bool q] := by
  match o with
  | none => exact ⟨0, 0, 0, 0, false, rfl⟩
  | some (a, b, c, d) => exact ⟨a, b, c, d, true, rfl⟩

set_option maxHeartbeats 400000 in
set_option maxRecDepth 100000 in
theorem fnTxOf_long (s : ByteArray) (w : World) (hl : 1048576 < s.size) :
    Calls Tryd.prog 6 #[.string s] w fun e w' => e = .returned (.bool true) ∧ Below w.heap.size w w' := by
  go_enter Tryd.func6, Tryd.ntmps6
  go_wp2
  go_ret
  exact ⟨rfl, Below.refl _ _⟩

set_option maxHeartbeats 800000 in
set_option maxRecDepth 100000 in
theorem fnTxOf_short (s : ByteArray) (w : World) (hE : Env w) (hl : s.size ≤ 1048576) :
    Calls Tryd.prog 6 #[.string s] w fun e w' => e = .returned (.bool true) ∧ Below w.heap.size w w' := by
  have SP := hide fun w => specTxOf s w hl
  have IM := hide fun w hE => implTxOf s w hl hE
  obtain ⟨a, b, c, d, q, hv⟩ := txval_form (txAns s.data.toList)
  rw [hv] at SP IM
  have HE := hide hE
  have hbb : (q != q) = false := by simp
  clear hv hE
  go_enter Tryd.func6, Tryd.ntmps6
  go_wp2_with fail
  refine (unhide SP _).mono ?_
  rintro e w1 ⟨rfl, b1⟩
  have s1 := b1.size
  have c1 : Below w.heap.size w (w1.alloc (.cells #[.int .i64 a, .int .i64 b, .int .i64 c, .int .i64 d] 25)) := b1.alloc s1 _
  have X1 := hide (cells4_new w1 a b c d 25)
  have H1 := hide ((unhide HE).below c1)
  go_wp2_with fail
  refine (unhide IM _ (unhide H1)).mono ?_
  rintro e w2 ⟨rfl, b2⟩
  have s2 := b2.size
  have c2 := c1.trans (b2.mono c1.size)
  obtain ⟨x0, x1, x2, x3⟩ := (unhide X1).below b2 (by simp)
  have hlt : w1.heap.size < w2.heap.size := by simp at s2; omega
  have e2 : Below w.heap.size w (w2.alloc (.cells #[.int .i64 a, .int .i64 b, .int .i64 c, .int .i64 d] 25)) := c2.alloc (by omega) _
  clear b1 b2 c1 c2 H1 X1 s2
  go_wp2_with fail
  refine (eqTx_same a b c d _).mono ?_
  rintro e w3 ⟨rfl, b3⟩
  have e3 := e2.trans (b3.mono e2.size)
  go_wp2
  go_ret
  exact ⟨rfl, e3⟩

theorem fnTxOf_walk (s : ByteArray) (w : World) (hE : Env w) :
    Calls Tryd.prog 6 #[.string s] w fun e w' => e = .returned (.bool true) ∧ Below w.heap.size w w' := by
  by_cases h : s.size ≤ 1048576
  · exact fnTxOf_short s w hE h
  · exact fnTxOf_long s w (by omega)
end Go.Proofs.YtnbiphlificliaaDoor
