/- MsgLong: laws.szMsg of what is too long. -/
import Derived.Test.YtihaecmlfmfbfaaDoorMsgOpen
namespace Go.Proofs.YtihaecmlfmfbfaaDoor
open Go.RowKit
set_option linter.unusedSectionVars false
variable [∀ (a b c d : Int), Decidable (Ok4 a b c d)]
variable [∀ (n f : Int), Decidable (COk n f)]

set_option maxHeartbeats 16000000 in
set_option maxRecDepth 100000 in
theorem szMsg_noa (t : MT) (ao bo co : Option Addr) (nb ca np cb nq cc : Nat) (left : Int) (w : World) (h0 : 0 ≤ left) (hl : left ≤ 1048576) (h : left < (t.bn.size : Int) + t.bs.size + nb) (m1 : t.bn.size ≤ maxLen) (m2 : t.bs.size ≤ maxLen) (m3 : nb ≤ maxLen) :
    Calls Tryd.prog 4 #[mgv t (.slice ao nb ca) (.slice bo np cb) (.slice co nq cc), .int .i64 left] w fun e w' => e = .returned (.int .i64 (-1)) ∧ Below w.heap.size w w' := by
  unfold maxLen at m1 m2 m3
  have Z1 := hide fun w => szBlock_no t.bn t.bv t.bs ao nb ca left w h0 (by omega) (by omega) (by omega) (by omega) hl
  clear h0 hl h m1 m2 m3
  obtain ⟨w0, hw0⟩ : ∃ w0, (w.alloc (.cells #[.int .i64 t.k, .int .i64 t.vw, .string t.bn, .int .i64 t.bv, .string t.bs, .slice ao nb ca, .int .i64 t.pv, .string t.ps, .slice bo np cb, .int .i64 t.qv, .string t.qs, .slice co nq cc, .int .i64 t.wh, .int .i64 t.fr, .int .i64 t.tu, .int .i64 t.am, .int .i64 t.no] 31)) = w0 := ⟨_, rfl⟩
  have Bw0 : Below w.heap.size w w0 := hw0 ▸ (Below.refl _ _).alloc (Nat.le_refl _) _
  have A : Loc w0 (w.heap.size) #[.int .i64 t.k, .int .i64 t.vw, .string t.bn, .int .i64 t.bv, .string t.bs, .slice ao nb ca, .int .i64 t.pv, .string t.ps, .slice bo np cb, .int .i64 t.qv, .string t.qs, .slice co nq cc, .int .i64 t.wh, .int .i64 t.fr, .int .i64 t.tu, .int .i64 t.am, .int .i64 t.no] := hw0 ▸ loc_at (w) _ _ rfl
  have zw0 : w.heap.size + 1 ≤ w0.heap.size := by rw [← hw0]; simp
  go_enter Tryd.func4, Tryd.ntmps4
  have cA2 := A.cell 2 rfl
  have cA3 := A.cell 3 rfl
  have cA4 := A.cell 4 rfl
  have cA5 := A.cell 5 rfl
  go_wp2_with fail
  clear hw0
  refine (unhide Z1 _).mono ?_
  rintro _ w1 ⟨rfl, bb⟩
  clear cA2 cA3 cA4 cA5
  have Bw1 := Bw0.trans (bb.mono Bw0.size)
  have sw1 := bb.size
  replace A := A.below bb A.lt
  clear Bw0
  clear bb
  go_wp2
  go_ret
  exact ⟨rfl, Bw1⟩
set_option maxHeartbeats 16000000 in
set_option maxRecDepth 100000 in
theorem szMsg_nob (t : MT) (ao bo co : Option Addr) (nb ca np cb nq cc : Nat) (left : Int) (w : World) (h0 : 0 ≤ left) (hl : left ≤ 1048576) (g : (t.bn.size : Int) + t.bs.size + nb ≤ left) (h : left < (t.bn.size : Int) + t.bs.size + nb + t.ps.size + np) (m1 : t.ps.size ≤ maxLen) (m2 : np ≤ maxLen) :
    Calls Tryd.prog 4 #[mgv t (.slice ao nb ca) (.slice bo np cb) (.slice co nq cc), .int .i64 left] w fun e w' => e = .returned (.int .i64 (-1)) ∧ Below w.heap.size w w' := by
  unfold maxLen at m1 m2
  have Z1 := hide fun w => szBlock_yes t.bn t.bv t.bs ao nb ca left w (by omega) (by omega)
  have h1 : decide (left - (t.bn.size : Int) - (t.bs.size : Int) - (nb : Int) < 0) = false := by simp; omega
  have Z2 := hide fun w => szPart_no t.pv t.ps bo np cb (left - t.bn.size - t.bs.size - nb) w (by omega) (by omega) (by omega) (by omega) (by omega)
  clear h0 hl h m1 m2 g
  obtain ⟨w0, hw0⟩ : ∃ w0, (w.alloc (.cells #[.int .i64 t.k, .int .i64 t.vw, .string t.bn, .int .i64 t.bv, .string t.bs, .slice ao nb ca, .int .i64 t.pv, .string t.ps, .slice bo np cb, .int .i64 t.qv, .string t.qs, .slice co nq cc, .int .i64 t.wh, .int .i64 t.fr, .int .i64 t.tu, .int .i64 t.am, .int .i64 t.no] 31)) = w0 := ⟨_, rfl⟩
  have Bw0 : Below w.heap.size w w0 := hw0 ▸ (Below.refl _ _).alloc (Nat.le_refl _) _
  have A : Loc w0 (w.heap.size) #[.int .i64 t.k, .int .i64 t.vw, .string t.bn, .int .i64 t.bv, .string t.bs, .slice ao nb ca, .int .i64 t.pv, .string t.ps, .slice bo np cb, .int .i64 t.qv, .string t.qs, .slice co nq cc, .int .i64 t.wh, .int .i64 t.fr, .int .i64 t.tu, .int .i64 t.am, .int .i64 t.no] := hw0 ▸ loc_at (w) _ _ rfl
  have zw0 : w.heap.size + 1 ≤ w0.heap.size := by rw [← hw0]; simp
  go_enter Tryd.func4, Tryd.ntmps4
  have cA2 := A.cell 2 rfl
  have cA3 := A.cell 3 rfl
  have cA4 := A.cell 4 rfl
  have cA5 := A.cell 5 rfl
  go_wp2_with fail
  clear hw0
  refine (unhide Z1 _).mono ?_
  rintro _ w1 ⟨rfl, bb⟩
  clear cA2 cA3 cA4 cA5
  have Bw1 := Bw0.trans (bb.mono Bw0.size)
  have sw1 := bb.size
  replace A := A.below bb A.lt
  clear Bw0
  clear bb
  have cA6 := A.cell 6 rfl
  have cA7 := A.cell 7 rfl
  have cA8 := A.cell 8 rfl
  go_wp2_with fail
  refine (unhide Z2 _).mono ?_
  rintro _ w2 ⟨rfl, bb⟩
  clear cA6 cA7 cA8
  have Bw2 := Bw1.trans (bb.mono Bw1.size)
  have sw2 := bb.size
  replace A := A.below bb A.lt
  clear Bw1
  clear bb
  go_wp2
  go_ret
  exact ⟨rfl, Bw2⟩
set_option maxHeartbeats 16000000 in
set_option maxRecDepth 100000 in
theorem szMsg_noc (t : MT) (ao bo co : Option Addr) (nb ca np cb nq cc : Nat) (left : Int) (w : World) (h0 : 0 ≤ left) (hl : left ≤ 1048576) (g : (t.bn.size : Int) + t.bs.size + nb + t.ps.size + np ≤ left) (h : left < (t.bn.size : Int) + t.bs.size + nb + t.ps.size + np + t.qs.size + nq) (m1 : t.qs.size ≤ maxLen) (m2 : nq ≤ maxLen) :
    Calls Tryd.prog 4 #[mgv t (.slice ao nb ca) (.slice bo np cb) (.slice co nq cc), .int .i64 left] w fun e w' => e = .returned (.int .i64 (-1)) ∧ Below w.heap.size w w' := by
  unfold maxLen at m1 m2
  have Z1 := hide fun w => szBlock_yes t.bn t.bv t.bs ao nb ca left w (by omega) (by omega)
  have h1 : decide (left - (t.bn.size : Int) - (t.bs.size : Int) - (nb : Int) < 0) = false := by simp; omega
  have Z2 := hide fun w => szPart_yes t.pv t.ps bo np cb (left - t.bn.size - t.bs.size - nb) w (by omega) (by omega)
  have h2 : decide (left - (t.bn.size : Int) - (t.bs.size : Int) - (nb : Int) - (t.ps.size : Int) - (np : Int) < 0) = false := by simp; omega
  have Z3 := hide fun w => szQc_no t.qv t.qs co nq cc (left - t.bn.size - t.bs.size - nb - t.ps.size - np) w (by omega) (by omega) (by omega) (by omega) (by omega)
  clear h0 hl h m1 m2 g
  obtain ⟨w0, hw0⟩ : ∃ w0, (w.alloc (.cells #[.int .i64 t.k, .int .i64 t.vw, .string t.bn, .int .i64 t.bv, .string t.bs, .slice ao nb ca, .int .i64 t.pv, .string t.ps, .slice bo np cb, .int .i64 t.qv, .string t.qs, .slice co nq cc, .int .i64 t.wh, .int .i64 t.fr, .int .i64 t.tu, .int .i64 t.am, .int .i64 t.no] 31)) = w0 := ⟨_, rfl⟩
  have Bw0 : Below w.heap.size w w0 := hw0 ▸ (Below.refl _ _).alloc (Nat.le_refl _) _
  have A : Loc w0 (w.heap.size) #[.int .i64 t.k, .int .i64 t.vw, .string t.bn, .int .i64 t.bv, .string t.bs, .slice ao nb ca, .int .i64 t.pv, .string t.ps, .slice bo np cb, .int .i64 t.qv, .string t.qs, .slice co nq cc, .int .i64 t.wh, .int .i64 t.fr, .int .i64 t.tu, .int .i64 t.am, .int .i64 t.no] := hw0 ▸ loc_at (w) _ _ rfl
  have zw0 : w.heap.size + 1 ≤ w0.heap.size := by rw [← hw0]; simp
  go_enter Tryd.func4, Tryd.ntmps4
  have cA2 := A.cell 2 rfl
  have cA3 := A.cell 3 rfl
  have cA4 := A.cell 4 rfl
  have cA5 := A.cell 5 rfl
  go_wp2_with fail
  clear hw0
  refine (unhide Z1 _).mono ?_
  rintro _ w1 ⟨rfl, bb⟩
  clear cA2 cA3 cA4 cA5
  have Bw1 := Bw0.trans (bb.mono Bw0.size)
  have sw1 := bb.size
  replace A := A.below bb A.lt
  clear Bw0
  clear bb
  have cA6 := A.cell 6 rfl
  have cA7 := A.cell 7 rfl
  have cA8 := A.cell 8 rfl
  go_wp2_with fail
  refine (unhide Z2 _).mono ?_
  rintro _ w2 ⟨rfl, bb⟩
  clear cA6 cA7 cA8
  have Bw2 := Bw1.trans (bb.mono Bw1.size)
  have sw2 := bb.size
  replace A := A.below bb A.lt
  clear Bw1
  clear bb
  have cA9 := A.cell 9 rfl
  have cA10 := A.cell 10 rfl
  have cA11 := A.cell 11 rfl
  go_wp2_with fail
  refine (unhide Z3 _).mono ?_
  rintro _ w3 ⟨rfl, bb⟩
  clear cA9 cA10 cA11
  have Bw3 := Bw2.trans (bb.mono Bw2.size)
  have sw3 := bb.size
  replace A := A.below bb A.lt
  clear Bw2
  clear bb
  go_wp2
  go_ret
  exact ⟨rfl, Bw3⟩
/-- What szMsg answers when too much is there. -/
theorem szMsg_no (t : MT) (ao bo co : Option Addr) (ca cb cc : Nat) (left : Int) (w : World) (h0 : 0 ≤ left) (hl : left ≤ 1048576) (hm : MB t) (h : left < (t.bn.size : Int) + t.bs.size + t.bw.length + t.ps.size + t.pw.length + t.qs.size + t.qw.length) :
    Calls Tryd.prog 4 #[mgv t (.slice ao t.bw.length ca) (.slice bo t.pw.length cb) (.slice co t.qw.length cc), .int .i64 left] w fun e w' => e = .returned (.int .i64 (-1)) ∧ Below w.heap.size w w' := by
  obtain ⟨m1, m2, m3, m4, m5, m6, m7⟩ := hm
  by_cases h1 : left < (t.bn.size : Int) + t.bs.size + t.bw.length
  · exact szMsg_noa t ao bo co _ ca _ cb _ cc left w h0 hl h1 m1 m2 m3
  · by_cases h2 : left < (t.bn.size : Int) + t.bs.size + t.bw.length + t.ps.size + t.pw.length
    · exact szMsg_nob t ao bo co _ ca _ cb _ cc left w h0 hl (by omega) h2 m4 m5
    · exact szMsg_noc t ao bo co _ ca _ cb _ cc left w h0 hl (by omega) h m6 m7
end Go.Proofs.YtihaecmlfmfbfaaDoor
