/- A Safe that came in. -/
import Derived.Test.YtgfboghieejbkaaBlockOpen
import Derived.Test.YtgfboghieejbkaaSaf
namespace Go.Proofs.Ytgfboghieejbkaa
open Go.ChangeShapes Go.WideShapes Go.ChangeAt Go.RowKit
open Go.Joins
set_option linter.unusedSectionVars false
variable [∀ (a b c d : Int), Decidable (Ok4 a b c d)]
variable [∀ (n f : Int), Decidable (COk n f)]

set_option maxRecDepth 100000 in
theorem cellsSafe : Try.prog.cellsOf 33 = 6 := by kernel_rfl
theorem array6 {cs : Array Value} (h : cs.size = 6) : ∃ a b c d e f, cs = #[a, b, c, d, e, f] := by
  obtain ⟨l⟩ := cs
  match l, h with
  | [a, b, c, d, e, f], _ => exact ⟨a, b, c, d, e, f, rfl⟩
set_option maxRecDepth 100000 in
theorem open_safe {H : Type} {enc : TypeId × Value → H} {W : World} {base : Nat} {v : Value} {d : DataW H} {p : List MemPlace} (hv : Value.okWide Try.prog W .any base 33 v)
    (h : DataW.Trod enc Try.prog W 0 (fun _ => true) true 33 v d p) :
    ∃ vo lo n s ao ca m, ∃ xs : List Int, v = sv vo lo n s (.slice ao xs.length ca) m ∧ s.size ≤ maxLen ∧ xs.length ≤ maxLen ∧ m.size ≤ maxLen ∧ AIW W ao xs ∧ WfL xs := by
  obtain ⟨cs, rfl, hsz⟩ := okWide_struct Try.underlying33 hv
  obtain ⟨c0, c1, c2, c3, c4, c5, rfl⟩ := array6 (hsz.trans cellsSafe)
  obtain ⟨fuel, hf⟩ := h
  obtain ⟨y0, y1, y2, y3, k, _, _, h0, h1, h2, h3⟩ := trod_struct4 Try.underlying33 hf
  have h0' : DataW.trod enc Try.prog W 0 (fun _ => true) true k 3 [c0] = some y0 := by simpa [Value.cells, cellsInt, cellsQc, cellsStr] using h0
  have h1' : DataW.trod enc Try.prog W 0 (fun _ => true) true k 3 [c1] = some y1 := by simpa [Value.cells, cellsInt, cellsQc, cellsStr] using h1
  have h2' : DataW.trod enc Try.prog W 0 (fun _ => true) true k 31 [c2, c3, c4] = some y2 := by simpa [Value.cells, cellsInt, cellsQc, cellsStr] using h2
  have h3' : DataW.trod enc Try.prog W 0 (fun _ => true) true k 9 [c5] = some y3 := by simpa [Value.cells, cellsInt, cellsQc, cellsStr] using h3
  obtain ⟨z0, z1, z2, j, _, _, g0, g1, g2⟩ := Go.Deep.trod_struct3 Try.underlying31 h2'
  have g0' : DataW.trod enc Try.prog W 0 (fun _ => true) true j 3 [c2] = some z0 := by simpa [cellsInt] using g0
  have g1' : DataW.trod enc Try.prog W 0 (fun _ => true) true j 9 [c3] = some z1 := by simpa [cellsStr] using g1
  have g2' : DataW.trod enc Try.prog W 0 (fun _ => true) true j 22 [c4] = some z2 := by simpa [cellsInts] using g2
  obtain ⟨a, e0, _, _⟩ := DataW.trod_int Try.underlying3 h0'
  obtain ⟨b, e1, _, _⟩ := DataW.trod_int Try.underlying3 h1'
  obtain ⟨n, e2, _, _⟩ := DataW.trod_int Try.underlying3 g0'
  obtain ⟨s, e3, _, hs⟩ := DataW.trod_string Try.underlying9 g1'
  obtain ⟨ao, ca, xs, rfl, hx, ax, wx⟩ := open_listW g2'
  obtain ⟨m, e5, _, hm⟩ := DataW.trod_string Try.underlying9 h3'
  simp at e0 e1 e2 e3 e5
  exact ⟨a, b, n, s, ao, ca, m, xs, by rw [e0, e1, e2, e3, e5], hs, hx, hm, ax, wx⟩
end Go.Proofs.Ytgfboghieejbkaa
