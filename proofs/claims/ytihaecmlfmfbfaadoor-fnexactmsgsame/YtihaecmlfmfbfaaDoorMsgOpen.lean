/- MsgOpen: a message that came in. -/
import Derived.Test.YtihaecmlfmfbfaaDoorBlockOpen
import Derived.Test.YtihaecmlfmfbfaaDoorMsgSameI
namespace Go.Proofs.YtihaecmlfmfbfaaDoor
open Go.ChangeShapes Go.WideShapes Go.ChangeAt Go.RowKit
open Go.Joins
set_option linter.unusedSectionVars false
variable [∀ (a b c d : Int), Decidable (Ok4 a b c d)]
variable [∀ (n f : Int), Decidable (COk n f)]

section
variable {H : Type} {enc : TypeId × Value → H} {P : Program} {w : World} {base : Nat} {spare : Bool}
theorem trod_struct7 {held : TypeId → Bool} {t : TypeId} {f0 f1 f2 f3 f4 f5 f6 : Field} {fuel : Nat} {cs : List Value} {x : DataW H × List MemPlace} (ht : P.underlying t = some (.struct #[f0, f1, f2, f3, f4, f5, f6])) (h : DataW.trod enc P w base held spare fuel t cs = some x) :
    ∃ y0 y1 y2 y3 y4 y5 y6 n, DataW.trod enc P w base held spare n f0.type ((cs.drop f0.offset).take (P.cellsOf f0.type)) = some y0 ∧ DataW.trod enc P w base held spare n f1.type ((cs.drop f1.offset).take (P.cellsOf f1.type)) = some y1 ∧ DataW.trod enc P w base held spare n f2.type ((cs.drop f2.offset).take (P.cellsOf f2.type)) = some y2 ∧ DataW.trod enc P w base held spare n f3.type ((cs.drop f3.offset).take (P.cellsOf f3.type)) = some y3 ∧ DataW.trod enc P w base held spare n f4.type ((cs.drop f4.offset).take (P.cellsOf f4.type)) = some y4 ∧ DataW.trod enc P w base held spare n f5.type ((cs.drop f5.offset).take (P.cellsOf f5.type)) = some y5 ∧ DataW.trod enc P w base held spare n f6.type ((cs.drop f6.offset).take (P.cellsOf f6.type)) = some y6 := by
  obtain ⟨xs, n, _, rfl, hl, hlen, hf⟩ := DataW.trod_struct ht h
  match xs, hlen with
  | [y0, y1, y2, y3, y4, y5, y6], _ => exact ⟨y0, y1, y2, y3, y4, y5, y6, n, by simpa using hf 0 f0 rfl, by simpa using hf 1 f1 rfl, by simpa using hf 2 f2 rfl, by simpa using hf 3 f3 rfl, by simpa using hf 4 f4 rfl, by simpa using hf 5 f5 rfl, by simpa using hf 6 f6 rfl⟩
end
theorem array17 {cs : Array Value} (h : cs.size = 17) : ∃ c0 c1 c2 c3 c4 c5 c6 c7 c8 c9 c10 c11 c12 c13 c14 c15 c16, cs = #[c0, c1, c2, c3, c4, c5, c6, c7, c8, c9, c10, c11, c12, c13, c14, c15, c16] := by
  obtain ⟨l⟩ := cs
  match l, h with
  | [c0, c1, c2, c3, c4, c5, c6, c7, c8, c9, c10, c11, c12, c13, c14, c15, c16], _ => exact ⟨c0, c1, c2, c3, c4, c5, c6, c7, c8, c9, c10, c11, c12, c13, c14, c15, c16, rfl⟩
set_option maxRecDepth 100000 in
theorem cellsMsg : Tryd.prog.cellsOf 31 = 17 := by kernel_rfl
set_option maxRecDepth 100000 in
theorem cellsPartL : Tryd.prog.cellsOf 27 = 3 := by kernel_rfl
set_option maxRecDepth 100000 in
theorem cellsTxL : Tryd.prog.cellsOf 29 = 4 := by kernel_rfl
/-- How long what a message holds is at most. -/
def MB (t : MT) : Prop := t.bn.size ≤ maxLen ∧ t.bs.size ≤ maxLen ∧ t.bw.length ≤ maxLen ∧ t.ps.size ≤ maxLen ∧ t.pw.length ≤ maxLen ∧ t.qs.size ≤ maxLen ∧ t.qw.length ≤ maxLen
set_option maxHeartbeats 4000000 in
set_option maxRecDepth 100000 in
theorem open_msg {H : Type} {enc : TypeId × Value → H} {W : World} {base : Nat} {v : Value} {d : DataW H} {p : List MemPlace} (hv : Value.okWide Tryd.prog W .any base 31 v)
    (h : DataW.Trod enc Tryd.prog W 0 (fun _ => true) true 31 v d p) :
    ∃ (t : MT) (ao bo co : Option Addr) (ca cb cc : Nat), v = mgv t (.slice ao t.bw.length ca) (.slice bo t.pw.length cb) (.slice co t.qw.length cc) ∧ MB t ∧ (AIW W ao t.bw ∧ AIW W bo t.pw ∧ AIW W co t.qw) ∧ (WfL t.bw ∧ WfL t.pw ∧ WfL t.qw) ∧ MI t := by
  obtain ⟨cs, rfl, hsz⟩ := okWide_struct Tryd.underlying31 hv
  obtain ⟨c0, c1, c2, c3, c4, c5, c6, c7, c8, c9, c10, c11, c12, c13, c14, c15, c16, rfl⟩ := array17 (hsz.trans cellsMsg)
  obtain ⟨fuel, hf⟩ := h
  obtain ⟨y0, y1, y2, y3, y4, y5, y6, k, h0, h1, h2, h3, h4, h5, h6⟩ := trod_struct7 Tryd.underlying31 hf
  have g0 : DataW.trod enc Tryd.prog W 0 (fun _ => true) true k 3 [c0] = some y0 := by simpa [Value.cells, cellsInt, cellsStr, cellsQc, cellsBlock, cellsPartL, cellsTxL, cellsInts] using h0
  have g1 : DataW.trod enc Tryd.prog W 0 (fun _ => true) true k 3 [c1] = some y1 := by simpa [Value.cells, cellsInt, cellsStr, cellsQc, cellsBlock, cellsPartL, cellsTxL, cellsInts] using h1
  have g2 : DataW.trod enc Tryd.prog W 0 (fun _ => true) true k 26 [c2, c3, c4, c5] = some y2 := by simpa [Value.cells, cellsInt, cellsStr, cellsQc, cellsBlock, cellsPartL, cellsTxL, cellsInts] using h2
  have g3 : DataW.trod enc Tryd.prog W 0 (fun _ => true) true k 27 [c6, c7, c8] = some y3 := by simpa [Value.cells, cellsInt, cellsStr, cellsQc, cellsBlock, cellsPartL, cellsTxL, cellsInts] using h3
  have g4 : DataW.trod enc Tryd.prog W 0 (fun _ => true) true k 24 [c9, c10, c11] = some y4 := by simpa [Value.cells, cellsInt, cellsStr, cellsQc, cellsBlock, cellsPartL, cellsTxL, cellsInts] using h4
  have g5 : DataW.trod enc Tryd.prog W 0 (fun _ => true) true k 3 [c12] = some y5 := by simpa [Value.cells, cellsInt, cellsStr, cellsQc, cellsBlock, cellsPartL, cellsTxL, cellsInts] using h5
  have g6 : DataW.trod enc Tryd.prog W 0 (fun _ => true) true k 29 [c13, c14, c15, c16] = some y6 := by simpa [Value.cells, cellsInt, cellsStr, cellsQc, cellsBlock, cellsPartL, cellsTxL, cellsInts] using h6
  obtain ⟨b0, b1, kb, _, _, hb0, hb1⟩ := trod_struct2 Tryd.underlying26 g2
  have gb0 : DataW.trod enc Tryd.prog W 0 (fun _ => true) true kb 9 [c2] = some b0 := by simpa [Value.cells, cellsInt, cellsStr, cellsQc, cellsBlock, cellsPartL, cellsTxL, cellsInts] using hb0
  have gb1 : DataW.trod enc Tryd.prog W 0 (fun _ => true) true kb 24 [c3, c4, c5] = some b1 := by simpa [Value.cells, cellsInt, cellsStr, cellsQc, cellsBlock, cellsPartL, cellsTxL, cellsInts] using hb1
  obtain ⟨q0, q1, q2, kq, _, _, hq0, hq1, hq2⟩ := Go.Deep.trod_struct3 Tryd.underlying24 gb1
  have gq0 : DataW.trod enc Tryd.prog W 0 (fun _ => true) true kq 3 [c3] = some q0 := by simpa [Value.cells, cellsInt, cellsStr, cellsQc, cellsBlock, cellsPartL, cellsTxL, cellsInts] using hq0
  have gq1 : DataW.trod enc Tryd.prog W 0 (fun _ => true) true kq 9 [c4] = some q1 := by simpa [Value.cells, cellsInt, cellsStr, cellsQc, cellsBlock, cellsPartL, cellsTxL, cellsInts] using hq1
  have gq2 : DataW.trod enc Tryd.prog W 0 (fun _ => true) true kq 22 [c5] = some q2 := by simpa [Value.cells, cellsInt, cellsStr, cellsQc, cellsBlock, cellsPartL, cellsTxL, cellsInts] using hq2
  obtain ⟨r0, r1, r2, kr, _, _, hr0, hr1, hr2⟩ := Go.Deep.trod_struct3 Tryd.underlying27 g3
  have gr0 : DataW.trod enc Tryd.prog W 0 (fun _ => true) true kr 3 [c6] = some r0 := by simpa [Value.cells, cellsInt, cellsStr, cellsQc, cellsBlock, cellsPartL, cellsTxL, cellsInts] using hr0
  have gr1 : DataW.trod enc Tryd.prog W 0 (fun _ => true) true kr 9 [c7] = some r1 := by simpa [Value.cells, cellsInt, cellsStr, cellsQc, cellsBlock, cellsPartL, cellsTxL, cellsInts] using hr1
  have gr2 : DataW.trod enc Tryd.prog W 0 (fun _ => true) true kr 22 [c8] = some r2 := by simpa [Value.cells, cellsInt, cellsStr, cellsQc, cellsBlock, cellsPartL, cellsTxL, cellsInts] using hr2
  obtain ⟨s0, s1, s2, ks, _, _, hs0, hs1, hs2⟩ := Go.Deep.trod_struct3 Tryd.underlying24 g4
  have gs0 : DataW.trod enc Tryd.prog W 0 (fun _ => true) true ks 3 [c9] = some s0 := by simpa [Value.cells, cellsInt, cellsStr, cellsQc, cellsBlock, cellsPartL, cellsTxL, cellsInts] using hs0
  have gs1 : DataW.trod enc Tryd.prog W 0 (fun _ => true) true ks 9 [c10] = some s1 := by simpa [Value.cells, cellsInt, cellsStr, cellsQc, cellsBlock, cellsPartL, cellsTxL, cellsInts] using hs1
  have gs2 : DataW.trod enc Tryd.prog W 0 (fun _ => true) true ks 22 [c11] = some s2 := by simpa [Value.cells, cellsInt, cellsStr, cellsQc, cellsBlock, cellsPartL, cellsTxL, cellsInts] using hs2
  obtain ⟨x0, x1, x2, x3, kx, _, _, hx0, hx1, hx2, hx3⟩ := trod_struct4 Tryd.underlying29 g6
  have gx0 : DataW.trod enc Tryd.prog W 0 (fun _ => true) true kx 3 [c13] = some x0 := by simpa [Value.cells, cellsInt, cellsStr, cellsQc, cellsBlock, cellsPartL, cellsTxL, cellsInts] using hx0
  have gx1 : DataW.trod enc Tryd.prog W 0 (fun _ => true) true kx 3 [c14] = some x1 := by simpa [Value.cells, cellsInt, cellsStr, cellsQc, cellsBlock, cellsPartL, cellsTxL, cellsInts] using hx1
  have gx2 : DataW.trod enc Tryd.prog W 0 (fun _ => true) true kx 3 [c15] = some x2 := by simpa [Value.cells, cellsInt, cellsStr, cellsQc, cellsBlock, cellsPartL, cellsTxL, cellsInts] using hx2
  have gx3 : DataW.trod enc Tryd.prog W 0 (fun _ => true) true kx 3 [c16] = some x3 := by simpa [Value.cells, cellsInt, cellsStr, cellsQc, cellsBlock, cellsPartL, cellsTxL, cellsInts] using hx3
  obtain ⟨vk, e0, _, _⟩ := DataW.trod_int Tryd.underlying3 g0
  obtain ⟨vv, e1, _, _⟩ := DataW.trod_int Tryd.underlying3 g1
  obtain ⟨bn, e2, _, l1⟩ := DataW.trod_string Tryd.underlying9 gb0
  obtain ⟨nq, e3, _, wq⟩ := DataW.trod_int Tryd.underlying3 gq0
  obtain ⟨sq, e4, _, zq⟩ := DataW.trod_string Tryd.underlying9 gq1
  obtain ⟨oQ, jq, qs, rfl, uq, aq, fq⟩ := open_listW gq2
  obtain ⟨nr, e6, _, wr⟩ := DataW.trod_int Tryd.underlying3 gr0
  obtain ⟨sr, e7, _, zr⟩ := DataW.trod_string Tryd.underlying9 gr1
  obtain ⟨oR, jr, rs, rfl, ur, ar, fr⟩ := open_listW gr2
  obtain ⟨ns, e9, _, ws⟩ := DataW.trod_int Tryd.underlying3 gs0
  obtain ⟨ss, e10, _, zs⟩ := DataW.trod_string Tryd.underlying9 gs1
  obtain ⟨oS, js, lS, rfl, us, aS, fs⟩ := open_listW gs2
  obtain ⟨vh, e12, _, _⟩ := DataW.trod_int Tryd.underlying3 g5
  obtain ⟨t0, e13, _, _⟩ := DataW.trod_int Tryd.underlying3 gx0
  obtain ⟨t1, e14, _, _⟩ := DataW.trod_int Tryd.underlying3 gx1
  obtain ⟨t2, e15, _, _⟩ := DataW.trod_int Tryd.underlying3 gx2
  obtain ⟨t3, e16, _, _⟩ := DataW.trod_int Tryd.underlying3 gx3
  simp at e0 e1 e2 e3 e4 e6 e7 e9 e10 e12 e13 e14 e15 e16
  refine ⟨⟨vk, vv, bn, nq, sq, qs, nr, sr, rs, ns, ss, lS, vh, t0, t1, t2, t3⟩, oQ, oR, oS, jq, jr, js, by rw [e0, e1, e2, e3, e4, e6, e7, e9, e10, e12, e13, e14, e15, e16], ⟨l1, zq, uq, zr, ur, zs, us⟩, ⟨aq, ar, aS⟩, ⟨fq, fr, fs⟩, bounds_i64 wq, fun x hx => bounds_i64 (fq x hx)⟩
end Go.Proofs.YtihaecmlfmfbfaaDoor
