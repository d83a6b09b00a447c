/- MsgRows: a message as a value; laws.szMsg, toMsg, eqMsg, markMsg, heldMsg. -/
import Derived.Test.YtihaecmlfmfbfaaDoorBlk
import Derived.Test.YtihaecmlfmfbfaaDoorPartOne
import Derived.Test.YtihaecmlfmfbfaaDoorToTx
import Derived.Test.YtihaecmlfmfbfaaDoorEqTx
import Derived.Deep.DeepCutAuto
import Derived.Test.YtihaecmlfmfbfaaDoorHeldBy
namespace Go.Proofs.YtihaecmlfmfbfaaDoor
open Go.RowKit
set_option linter.unusedSectionVars false
variable [∀ (a b c d : Int), Decidable (Ok4 a b c d)]

/-- What a message holds. -/
structure MT where
  k : Int
  vw : Int
  bn : ByteArray
  bv : Int
  bs : ByteArray
  bw : List Int
  pv : Int
  ps : ByteArray
  pw : List Int
  qv : Int
  qs : ByteArray
  qw : List Int
  wh : Int
  fr : Int
  tu : Int
  am : Int
  no : Int
/-- A message: its lists are a, b, c. -/
abbrev mgv (t : MT) (a b c : Value) : Value := .agg #[.int .i64 t.k, .int .i64 t.vw, .string t.bn, .int .i64 t.bv, .string t.bs, a, .int .i64 t.pv, .string t.ps, b, .int .i64 t.qv, .string t.qs, c, .int .i64 t.wh, .int .i64 t.fr, .int .i64 t.tu, .int .i64 t.am, .int .i64 t.no]
set_option maxHeartbeats 16000000 in
set_option maxRecDepth 100000 in
theorem szMsg_yes (t : MT) (ao bo co : Option Addr) (nb ca np cb nq cc : Nat) (left : Int) (w : World) (h : (t.bn.size : Int) + t.bs.size + nb + t.ps.size + np + t.qs.size + nq ≤ left) (hl : left ≤ 1048576) :
    Calls Tryd.prog 4 #[mgv t (.slice ao nb ca) (.slice bo np cb) (.slice co nq cc), .int .i64 left] w fun e w' => e = .returned (.int .i64 (left - t.bn.size - t.bs.size - nb - t.ps.size - np - t.qs.size - nq)) ∧ Below w.heap.size w w' := by
  have Z1 := hide fun w => szBlock_yes t.bn t.bv t.bs ao nb ca left w (by omega) (by omega)
  have Z2 := hide fun w => szPart_yes t.pv t.ps bo np cb (left - t.bn.size - t.bs.size - nb) w (by omega) (by omega)
  have Z3 := hide fun w => szQc_yes t.qv t.qs co nq cc (left - t.bn.size - t.bs.size - nb - t.ps.size - np) w (by omega) (by omega)
  have h1 : decide (left - (t.bn.size : Int) - (t.bs.size : Int) - (nb : Int) < 0) = false := by simp; omega
  have h2 : decide (left - (t.bn.size : Int) - (t.bs.size : Int) - (nb : Int) - (t.ps.size : Int) - (np : Int) < 0) = false := by simp; omega
  have h3 : decide (left - (t.bn.size : Int) - (t.bs.size : Int) - (nb : Int) - (t.ps.size : Int) - (np : Int) - (t.qs.size : Int) - (nq : Int) < 0) = false := by simp; omega
  obtain ⟨w0, hw0⟩ : ∃ w0, (w.alloc (.cells #[.int .i64 t.k, .int .i64 t.vw, .string t.bn, .int .i64 t.bv, .string t.bs, .slice ao nb ca, .int .i64 t.pv, .string t.ps, .slice bo np cb, .int .i64 t.qv, .string t.qs, .slice co nq cc, .int .i64 t.wh, .int .i64 t.fr, .int .i64 t.tu, .int .i64 t.am, .int .i64 t.no] 31)) = w0 := ⟨_, rfl⟩
  have Bw0 : Below w.heap.size w w0 := hw0 ▸ (Below.refl _ _).alloc (Nat.le_refl _) _
  have A : Loc w0 (w.heap.size) #[.int .i64 t.k, .int .i64 t.vw, .string t.bn, .int .i64 t.bv, .string t.bs, .slice ao nb ca, .int .i64 t.pv, .string t.ps, .slice bo np cb, .int .i64 t.qv, .string t.qs, .slice co nq cc, .int .i64 t.wh, .int .i64 t.fr, .int .i64 t.tu, .int .i64 t.am, .int .i64 t.no] := hw0 ▸ loc_at (w) _ _ rfl
  have zw0 : w.heap.size + 1 ≤ w0.heap.size := by rw [← hw0]; simp
  go_enter Tryd.func4, Tryd.ntmps4
  have cA0 := A.cell 0 rfl
  have cA1 := A.cell 1 rfl
  have cA2 := A.cell 2 rfl
  have cA3 := A.cell 3 rfl
  have cA4 := A.cell 4 rfl
  have cA5 := A.cell 5 rfl
  have cA6 := A.cell 6 rfl
  have cA7 := A.cell 7 rfl
  have cA8 := A.cell 8 rfl
  have cA9 := A.cell 9 rfl
  have cA10 := A.cell 10 rfl
  have cA11 := A.cell 11 rfl
  have cA12 := A.cell 12 rfl
  have cA13 := A.cell 13 rfl
  have cA14 := A.cell 14 rfl
  have cA15 := A.cell 15 rfl
  have cA16 := A.cell 16 rfl
  go_wp2_with fail
  clear hw0
  refine (unhide Z1 _).mono ?_
  rintro _ w1 ⟨rfl, bb⟩
  clear cA0 cA1 cA2 cA3 cA4 cA5 cA6 cA7 cA8 cA9 cA10 cA11 cA12 cA13 cA14 cA15 cA16
  have Bw1 := Bw0.trans (bb.mono Bw0.size)
  have sw1 := bb.size
  replace A := A.below bb A.lt
  clear Bw0
  clear bb
  have cA0 := A.cell 0 rfl
  have cA1 := A.cell 1 rfl
  have cA2 := A.cell 2 rfl
  have cA3 := A.cell 3 rfl
  have cA4 := A.cell 4 rfl
  have cA5 := A.cell 5 rfl
  have cA6 := A.cell 6 rfl
  have cA7 := A.cell 7 rfl
  have cA8 := A.cell 8 rfl
  have cA9 := A.cell 9 rfl
  have cA10 := A.cell 10 rfl
  have cA11 := A.cell 11 rfl
  have cA12 := A.cell 12 rfl
  have cA13 := A.cell 13 rfl
  have cA14 := A.cell 14 rfl
  have cA15 := A.cell 15 rfl
  have cA16 := A.cell 16 rfl
  go_wp2_with fail
  refine (unhide Z2 _).mono ?_
  rintro _ w2 ⟨rfl, bb⟩
  clear cA0 cA1 cA2 cA3 cA4 cA5 cA6 cA7 cA8 cA9 cA10 cA11 cA12 cA13 cA14 cA15 cA16
  have Bw2 := Bw1.trans (bb.mono Bw1.size)
  have sw2 := bb.size
  replace A := A.below bb A.lt
  clear Bw1
  clear bb
  have cA0 := A.cell 0 rfl
  have cA1 := A.cell 1 rfl
  have cA2 := A.cell 2 rfl
  have cA3 := A.cell 3 rfl
  have cA4 := A.cell 4 rfl
  have cA5 := A.cell 5 rfl
  have cA6 := A.cell 6 rfl
  have cA7 := A.cell 7 rfl
  have cA8 := A.cell 8 rfl
  have cA9 := A.cell 9 rfl
  have cA10 := A.cell 10 rfl
  have cA11 := A.cell 11 rfl
  have cA12 := A.cell 12 rfl
  have cA13 := A.cell 13 rfl
  have cA14 := A.cell 14 rfl
  have cA15 := A.cell 15 rfl
  have cA16 := A.cell 16 rfl
  go_wp2_with fail
  refine (unhide Z3 _).mono ?_
  rintro _ w3 ⟨rfl, bb⟩
  clear cA0 cA1 cA2 cA3 cA4 cA5 cA6 cA7 cA8 cA9 cA10 cA11 cA12 cA13 cA14 cA15 cA16
  have Bw3 := Bw2.trans (bb.mono Bw2.size)
  have sw3 := bb.size
  replace A := A.below bb A.lt
  clear Bw2
  clear bb
  go_wp2
  go_ret
  exact ⟨rfl, Bw3⟩
set_option maxHeartbeats 16000000 in
set_option maxRecDepth 100000 in
theorem eqMsg_yes (t : MT) (a b c a' b' c' : Value) (xs ys zs : List Int) (w : World) (ha : RI w a xs) (hb : RI w b ys) (hc : RI w c zs) (ha' : RI w a' xs) (hb' : RI w b' ys) (hc' : RI w c' zs) :
    Calls Tryd.prog 8 #[mgv t a b c, mgv t a' b' c'] w fun e w' => e = .returned (.bool true) ∧ Below w.heap.size w w' := by
  have E1 := hide fun w h h' => eqBlock_yes t.bn t.bv t.bs a a' xs w h h'
  have E2 := hide fun w h h' => eqPart_yes t.pv t.ps b b' ys w h h'
  have E3 := hide fun w h h' => eqQc_yes t.qv t.qs c c' zs w h h'
  have E4 := hide fun w => eqTx_same t.fr t.tu t.am t.no w
  have ha1 := hide ha
  have ha2 := hide ha'
  have hb1 := hide hb
  have hb2 := hide hb'
  have hc1 := hide hc
  have hc2 := hide hc'
  clear ha hb hc ha' hb' hc'
  obtain ⟨w0, hw0⟩ : ∃ w0, ((w.alloc (.cells #[.int .i64 t.k, .int .i64 t.vw, .string t.bn, .int .i64 t.bv, .string t.bs, a, .int .i64 t.pv, .string t.ps, b, .int .i64 t.qv, .string t.qs, c, .int .i64 t.wh, .int .i64 t.fr, .int .i64 t.tu, .int .i64 t.am, .int .i64 t.no] 40)).alloc (.cells #[.int .i64 t.k, .int .i64 t.vw, .string t.bn, .int .i64 t.bv, .string t.bs, a', .int .i64 t.pv, .string t.ps, b', .int .i64 t.qv, .string t.qs, c', .int .i64 t.wh, .int .i64 t.fr, .int .i64 t.tu, .int .i64 t.am, .int .i64 t.no] 40)) = w0 := ⟨_, rfl⟩
  have Bw0 : Below w.heap.size w w0 := hw0 ▸ ((Below.refl _ _).alloc (Nat.le_refl _) _).alloc (by simp) _
  have A : Loc w0 (w.heap.size) #[.int .i64 t.k, .int .i64 t.vw, .string t.bn, .int .i64 t.bv, .string t.bs, a, .int .i64 t.pv, .string t.ps, b, .int .i64 t.qv, .string t.qs, c, .int .i64 t.wh, .int .i64 t.fr, .int .i64 t.tu, .int .i64 t.am, .int .i64 t.no] := hw0 ▸ (loc_at (w) _ _ rfl).alloc _
  have B : Loc w0 (w.heap.size + 1) #[.int .i64 t.k, .int .i64 t.vw, .string t.bn, .int .i64 t.bv, .string t.bs, a', .int .i64 t.pv, .string t.ps, b', .int .i64 t.qv, .string t.qs, c', .int .i64 t.wh, .int .i64 t.fr, .int .i64 t.tu, .int .i64 t.am, .int .i64 t.no] := hw0 ▸ loc_at (w.alloc _) _ _ (by simp)
  have zw0 : w.heap.size + 1 + 1 ≤ w0.heap.size := by rw [← hw0]; simp
  go_enter Tryd.func8, Tryd.ntmps8
  have cA0 := A.cell 0 rfl
  have cA1 := A.cell 1 rfl
  have cA2 := A.cell 2 rfl
  have cA3 := A.cell 3 rfl
  have cA4 := A.cell 4 rfl
  have cA5 := A.cell 5 rfl
  have cA6 := A.cell 6 rfl
  have cA7 := A.cell 7 rfl
  have cA8 := A.cell 8 rfl
  have cA9 := A.cell 9 rfl
  have cA10 := A.cell 10 rfl
  have cA11 := A.cell 11 rfl
  have cA12 := A.cell 12 rfl
  have cA13 := A.cell 13 rfl
  have cA14 := A.cell 14 rfl
  have cA15 := A.cell 15 rfl
  have cA16 := A.cell 16 rfl
  have cB0 := B.cell 0 rfl
  have cB1 := B.cell 1 rfl
  have cB2 := B.cell 2 rfl
  have cB3 := B.cell 3 rfl
  have cB4 := B.cell 4 rfl
  have cB5 := B.cell 5 rfl
  have cB6 := B.cell 6 rfl
  have cB7 := B.cell 7 rfl
  have cB8 := B.cell 8 rfl
  have cB9 := B.cell 9 rfl
  have cB10 := B.cell 10 rfl
  have cB11 := B.cell 11 rfl
  have cB12 := B.cell 12 rfl
  have cB13 := B.cell 13 rfl
  have cB14 := B.cell 14 rfl
  have cB15 := B.cell 15 rfl
  have cB16 := B.cell 16 rfl
  go_wp2_with fail
  clear hw0
  refine (unhide E1 _ ((unhide ha1).below Bw0 (Nat.le_refl _)) ((unhide ha2).below Bw0 (Nat.le_refl _))).mono ?_
  rintro _ w1 ⟨rfl, bb⟩
  clear cA0 cA1 cA2 cA3 cA4 cA5 cA6 cA7 cA8 cA9 cA10 cA11 cA12 cA13 cA14 cA15 cA16 cB0 cB1 cB2 cB3 cB4 cB5 cB6 cB7 cB8 cB9 cB10 cB11 cB12 cB13 cB14 cB15 cB16
  have Bw1 := Bw0.trans (bb.mono Bw0.size)
  have sw1 := bb.size
  replace A := A.below bb A.lt
  replace B := B.below bb B.lt
  clear Bw0
  clear bb
  have cA0 := A.cell 0 rfl
  have cA1 := A.cell 1 rfl
  have cA2 := A.cell 2 rfl
  have cA3 := A.cell 3 rfl
  have cA4 := A.cell 4 rfl
  have cA5 := A.cell 5 rfl
  have cA6 := A.cell 6 rfl
  have cA7 := A.cell 7 rfl
  have cA8 := A.cell 8 rfl
  have cA9 := A.cell 9 rfl
  have cA10 := A.cell 10 rfl
  have cA11 := A.cell 11 rfl
  have cA12 := A.cell 12 rfl
  have cA13 := A.cell 13 rfl
  have cA14 := A.cell 14 rfl
  have cA15 := A.cell 15 rfl
  have cA16 := A.cell 16 rfl
  have cB0 := B.cell 0 rfl
  have cB1 := B.cell 1 rfl
  have cB2 := B.cell 2 rfl
  have cB3 := B.cell 3 rfl
  have cB4 := B.cell 4 rfl
  have cB5 := B.cell 5 rfl
  have cB6 := B.cell 6 rfl
  have cB7 := B.cell 7 rfl
  have cB8 := B.cell 8 rfl
  have cB9 := B.cell 9 rfl
  have cB10 := B.cell 10 rfl
  have cB11 := B.cell 11 rfl
  have cB12 := B.cell 12 rfl
  have cB13 := B.cell 13 rfl
  have cB14 := B.cell 14 rfl
  have cB15 := B.cell 15 rfl
  have cB16 := B.cell 16 rfl
  go_wp2_with fail
  refine (unhide E2 _ ((unhide hb1).below Bw1 (Nat.le_refl _)) ((unhide hb2).below Bw1 (Nat.le_refl _))).mono ?_
  rintro _ w2 ⟨rfl, bb⟩
  clear cA0 cA1 cA2 cA3 cA4 cA5 cA6 cA7 cA8 cA9 cA10 cA11 cA12 cA13 cA14 cA15 cA16 cB0 cB1 cB2 cB3 cB4 cB5 cB6 cB7 cB8 cB9 cB10 cB11 cB12 cB13 cB14 cB15 cB16
  have Bw2 := Bw1.trans (bb.mono Bw1.size)
  have sw2 := bb.size
  replace A := A.below bb A.lt
  replace B := B.below bb B.lt
  clear Bw1
  clear bb
  have cA0 := A.cell 0 rfl
  have cA1 := A.cell 1 rfl
  have cA2 := A.cell 2 rfl
  have cA3 := A.cell 3 rfl
  have cA4 := A.cell 4 rfl
  have cA5 := A.cell 5 rfl
  have cA6 := A.cell 6 rfl
  have cA7 := A.cell 7 rfl
  have cA8 := A.cell 8 rfl
  have cA9 := A.cell 9 rfl
  have cA10 := A.cell 10 rfl
  have cA11 := A.cell 11 rfl
  have cA12 := A.cell 12 rfl
  have cA13 := A.cell 13 rfl
  have cA14 := A.cell 14 rfl
  have cA15 := A.cell 15 rfl
  have cA16 := A.cell 16 rfl
  have cB0 := B.cell 0 rfl
  have cB1 := B.cell 1 rfl
  have cB2 := B.cell 2 rfl
  have cB3 := B.cell 3 rfl
  have cB4 := B.cell 4 rfl
  have cB5 := B.cell 5 rfl
  have cB6 := B.cell 6 rfl
  have cB7 := B.cell 7 rfl
  have cB8 := B.cell 8 rfl
  have cB9 := B.cell 9 rfl
  have cB10 := B.cell 10 rfl
  have cB11 := B.cell 11 rfl
  have cB12 := B.cell 12 rfl
  have cB13 := B.cell 13 rfl
  have cB14 := B.cell 14 rfl
  have cB15 := B.cell 15 rfl
  have cB16 := B.cell 16 rfl
  go_wp2_with fail
  refine (unhide E3 _ ((unhide hc1).below Bw2 (Nat.le_refl _)) ((unhide hc2).below Bw2 (Nat.le_refl _))).mono ?_
  rintro _ w3 ⟨rfl, bb⟩
  clear cA0 cA1 cA2 cA3 cA4 cA5 cA6 cA7 cA8 cA9 cA10 cA11 cA12 cA13 cA14 cA15 cA16 cB0 cB1 cB2 cB3 cB4 cB5 cB6 cB7 cB8 cB9 cB10 cB11 cB12 cB13 cB14 cB15 cB16
  have Bw3 := Bw2.trans (bb.mono Bw2.size)
  have sw3 := bb.size
  replace A := A.below bb A.lt
  replace B := B.below bb B.lt
  clear Bw2
  clear bb
  have cA0 := A.cell 0 rfl
  have cA1 := A.cell 1 rfl
  have cA2 := A.cell 2 rfl
  have cA3 := A.cell 3 rfl
  have cA4 := A.cell 4 rfl
  have cA5 := A.cell 5 rfl
  have cA6 := A.cell 6 rfl
  have cA7 := A.cell 7 rfl
  have cA8 := A.cell 8 rfl
  have cA9 := A.cell 9 rfl
  have cA10 := A.cell 10 rfl
  have cA11 := A.cell 11 rfl
  have cA12 := A.cell 12 rfl
  have cA13 := A.cell 13 rfl
  have cA14 := A.cell 14 rfl
  have cA15 := A.cell 15 rfl
  have cA16 := A.cell 16 rfl
  have cB0 := B.cell 0 rfl
  have cB1 := B.cell 1 rfl
  have cB2 := B.cell 2 rfl
  have cB3 := B.cell 3 rfl
  have cB4 := B.cell 4 rfl
  have cB5 := B.cell 5 rfl
  have cB6 := B.cell 6 rfl
  have cB7 := B.cell 7 rfl
  have cB8 := B.cell 8 rfl
  have cB9 := B.cell 9 rfl
  have cB10 := B.cell 10 rfl
  have cB11 := B.cell 11 rfl
  have cB12 := B.cell 12 rfl
  have cB13 := B.cell 13 rfl
  have cB14 := B.cell 14 rfl
  have cB15 := B.cell 15 rfl
  have cB16 := B.cell 16 rfl
  go_wp2_with fail
  refine (unhide E4 _).mono ?_
  rintro _ w4 ⟨rfl, bb⟩
  clear cA0 cA1 cA2 cA3 cA4 cA5 cA6 cA7 cA8 cA9 cA10 cA11 cA12 cA13 cA14 cA15 cA16 cB0 cB1 cB2 cB3 cB4 cB5 cB6 cB7 cB8 cB9 cB10 cB11 cB12 cB13 cB14 cB15 cB16
  have Bw4 := Bw3.trans (bb.mono Bw3.size)
  have sw4 := bb.size
  replace A := A.below bb A.lt
  replace B := B.below bb B.lt
  clear Bw3
  clear bb
  go_wp2
  go_ret
  exact ⟨rfl, Bw4⟩
/-- Three lists of a call's own, each in blocks behind the one ahead. -/
def OM (w : World) (lo : Nat) (a b c : Value) (xs ys zs : List Int) : Prop := ∃ p q, OI w lo a xs ∧ (∀ j, a.ownBlock = some j → j < p) ∧ OI w p b ys ∧ (∀ j, b.ownBlock = some j → j < q) ∧ OI w q c zs ∧ lo ≤ p ∧ p ≤ q
end Go.Proofs.YtihaecmlfmfbfaaDoor
