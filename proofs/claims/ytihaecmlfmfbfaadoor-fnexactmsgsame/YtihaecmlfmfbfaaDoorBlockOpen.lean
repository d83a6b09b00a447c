/- A block that came in. -/
import Derived.Test.YtihaecmlfmfbfaaDoorQcOpen
import Derived.Test.YtihaecmlfmfbfaaDoorBlk
import Derived.Deep.Strs
namespace Go.Proofs.YtihaecmlfmfbfaaDoor
open Go.ChangeShapes Go.WideShapes Go.ChangeAt Go.RowKit
open Go.Joins
set_option linter.unusedSectionVars false
variable [∀ (a b c d : Int), Decidable (Ok4 a b c d)]
variable [∀ (n f : Int), Decidable (COk n f)]

set_option maxRecDepth 100000 in
theorem cellsBlock : Tryd.prog.cellsOf 26 = 4 := by kernel_rfl
theorem cellsStr : Tryd.prog.cellsOf 9 = 1 := by kernel_rfl
theorem cellsInt : Tryd.prog.cellsOf 3 = 1 := by kernel_rfl
theorem cellsInts : Tryd.prog.cellsOf 22 = 1 := by kernel_rfl
set_option maxRecDepth 100000 in
theorem open_blockW {H : Type} {enc : TypeId × Value → H} {W : World} {base : Nat} {v : Value} {d : DataW H} {p : List MemPlace} (hv : Value.okWide Tryd.prog W .any base 26 v)
    (h : DataW.Trod enc Tryd.prog W 0 (fun _ => true) true 26 v d p) :
    ∃ m n s ao ca, ∃ xs : List Int, v = bv m n s (.slice ao xs.length ca) ∧ m.size ≤ maxLen ∧ s.size ≤ maxLen ∧ xs.length ≤ maxLen ∧ AIW W ao xs ∧ WfL xs ∧ (Lit.int .i64 n).wf = true := by
  obtain ⟨cs, rfl, hsz⟩ := okWide_struct Tryd.underlying26 hv
  obtain ⟨c0, c1, c2, c3, rfl⟩ := array4 (hsz.trans cellsBlock)
  obtain ⟨fuel, hf⟩ := h
  obtain ⟨y0, y1, k, _, _, h0, h1⟩ := trod_struct2 Tryd.underlying26 hf
  have h0' : DataW.trod enc Tryd.prog W 0 (fun _ => true) true k 9 [c0] = some y0 := by simpa [Value.cells, cellsStr] using h0
  have h1' : DataW.trod enc Tryd.prog W 0 (fun _ => true) true k 24 [c1, c2, c3] = some y1 := by simpa [Value.cells, cellsQc] using h1
  obtain ⟨z0, z1, z2, j, _, _, g0, g1, g2⟩ := Go.Deep.trod_struct3 Tryd.underlying24 h1'
  have g0' : DataW.trod enc Tryd.prog W 0 (fun _ => true) true j 3 [c1] = some z0 := by simpa [cellsInt] using g0
  have g1' : DataW.trod enc Tryd.prog W 0 (fun _ => true) true j 9 [c2] = some z1 := by simpa [cellsStr] using g1
  have g2' : DataW.trod enc Tryd.prog W 0 (fun _ => true) true j 22 [c3] = some z2 := by simpa [cellsInts] using g2
  obtain ⟨m, e0, _, hm⟩ := DataW.trod_string Tryd.underlying9 h0'
  obtain ⟨a, e1, _, wa⟩ := DataW.trod_int Tryd.underlying3 g0'
  obtain ⟨s, e2, _, hs⟩ := DataW.trod_string Tryd.underlying9 g1'
  obtain ⟨ao, ca, xs, rfl, hx, ax, wx⟩ := open_listW g2'
  simp at e0 e1 e2
  exact ⟨m, a, s, ao, ca, xs, by rw [e0, e1, e2], hm, hs, hx, ax, wx, wa⟩
set_option maxRecDepth 100000 in
theorem open_block {H : Type} {enc : TypeId × Value → H} {W : World} {base : Nat} {v : Value} {d : DataW H} {p : List MemPlace} (hv : Value.okWide Tryd.prog W .any base 26 v)
    (h : DataW.Trod enc Tryd.prog W 0 (fun _ => true) true 26 v d p) :
    ∃ m n s ao ca, ∃ xs : List Int, v = bv m n s (.slice ao xs.length ca) ∧ m.size ≤ maxLen ∧ s.size ≤ maxLen ∧ xs.length ≤ maxLen ∧ AIW W ao xs ∧ WfL xs := by
  obtain ⟨m, n, s, ao, ca, xs, h1, h2, h3, h4, h5, h6, _⟩ := open_blockW hv h
  exact ⟨m, n, s, ao, ca, xs, h1, h2, h3, h4, h5, h6⟩
end Go.Proofs.YtihaecmlfmfbfaaDoor
