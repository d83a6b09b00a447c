/- A part and a table of parts that came in. -/
import Derived.Test.YtehdchpolgihlaaPartRows
import Derived.Test.YtehdchpolgihlaaQcOpen
import Derived.Deep.Slices
namespace Go.Proofs.Ytehdchpolgihlaa
open Go.ChangeShapes Go.WideShapes Go.ChangeAt Go.RowKit
open Go.Joins
set_option linter.unusedSectionVars false
variable [∀ (a b c d : Int), Decidable (Ok4 a b c d)]
variable [∀ (n f : Int), Decidable (COk n f)]

set_option maxRecDepth 100000 in
theorem cellsPart : Try.prog.cellsOf 58 = 3 := by kernel_rfl
/-- A part as it came: its list at whatever place. -/
abbrev Pr := Int × ByteArray × Option Addr × Nat × List Int
def prz : Pr := (0, ⟨#[]⟩, none, 0, [])
def prp (r : Pr) : Pt := (r.1, r.2.1, r.2.2.2.2)
/-- What is known of a table that came in. -/
def ATab (W : World) (ao : Option Addr) (rs : List Pr) : Prop :=
  rs = [] ∨ ∃ g off, ao = some ⟨g, off, none⟩ ∧ ∀ k, k < rs.length → W.cell? ⟨g, off + k * 3, none⟩ = some (.int .i64 (rs.getD k prz).1) ∧ W.cell? ⟨g, off + k * 3 + 1, none⟩ = some (.string (rs.getD k prz).2.1) ∧ W.cell? ⟨g, off + k * 3 + 2, none⟩ = some (.slice (rs.getD k prz).2.2.1 (rs.getD k prz).2.2.2.2.length (rs.getD k prz).2.2.2.1)
theorem three_list {α : Type} {l : List α} (h : l.length = 3) : ∃ a b c, l = [a, b, c] := by
  match l, h with
  | [a, b, c], _ => exact ⟨a, b, c, rfl⟩
set_option maxRecDepth 100000 in
theorem open_parts0 {H : Type} {enc : TypeId × Value → H} {W : World} {fuel : Nat} {a : Option Addr} {len cap : Nat} {x : DataW H × List MemPlace} (h : DataW.trod enc Try.prog W 0 (fun _ => true) true fuel 33 (Value.slice a len cap).cells.toList = some x) :
    ∃ rs : List Pr, len = rs.length ∧ rs.length ≤ maxLen ∧ ATab W a rs ∧ ∀ r ∈ rs, r.2.1.size ≤ maxLen ∧ r.2.2.2.2.length ≤ maxLen ∧ AIW W r.2.2.1 r.2.2.2.2 ∧ WfL r.2.2.2.2 := by
  rcases Go.Deep.open_slice Try.underlying33 h with ⟨hcs, _⟩ | ⟨ad, l, c, m, n, D, Pl, hcs, _, hl, hm, hmm, _, hx⟩
  · simp [Value.cells] at hcs
    obtain ⟨rfl, rfl, rfl⟩ := hcs
    exact ⟨[], rfl, by simp, .inl rfl, fun r hr => by simp at hr⟩
  · simp [Value.cells] at hcs
    obtain ⟨rfl, rfl, rfl⟩ := hcs
    have hm' : m = cap := by simpa using hmm
    have each : ∀ i, ∃ q : Pr, i < len → (W.cell? (ad.add (i * 3)) = some (.int .i64 q.1) ∧ W.cell? (ad.add (i * 3 + 1)) = some (.string q.2.1) ∧ W.cell? (ad.add (i * 3 + 2)) = some (.slice q.2.2.1 q.2.2.2.2.length q.2.2.2.1)) ∧ q.2.1.size ≤ maxLen ∧ q.2.2.2.2.length ≤ maxLen ∧ AIW W q.2.2.1 q.2.2.2.2 ∧ WfL q.2.2.2.2 := by
      intro i
      by_cases hi : i < len
      · obtain ⟨cs', h1, h2⟩ := hx i (by omega)
        rw [cellsPart] at h1
        obtain ⟨_, hlen, hcell⟩ := World.cells?_some h1
        obtain ⟨y0, y1, y2, k, _, _, g0, g1, g2⟩ := Go.Deep.trod_struct3 Try.underlying58 h2
        obtain ⟨v0, v1, v2, rfl⟩ := three_list hlen
        have e0 := hcell 0 (by omega)
        have e1 := hcell 1 (by omega)
        have e2 := hcell 2 (by omega)
        rw [Go.Deep.add_add] at e0 e1 e2
        have ci : Try.prog.cellsOf 3 = 1 := by kernel_rfl
        have cs : Try.prog.cellsOf 9 = 1 := by kernel_rfl
        simp [ci, cs] at g0 g1 g2
        obtain ⟨a0, e0', _, _⟩ := DataW.trod_int Try.underlying3 g0
        obtain ⟨a1, e1', _, hs1⟩ := DataW.trod_string Try.underlying9 g1
        obtain ⟨ao, ca, xs, rfl, hxl, hxc, hxw⟩ := open_listW g2
        simp at e0' e1'
        subst e0' e1'
        exact ⟨(a0, a1, ao, ca, xs), fun _ => ⟨⟨by simpa using e0, by simpa using e1, by simpa using e2⟩, hs1, hxl, hxc, hxw⟩⟩
      · exact ⟨prz, fun h => absurd h hi⟩
    obtain ⟨q, hq⟩ := Classical.axiomOfChoice each
    refine ⟨(List.range len).map q, by simp, by simp; omega, ?_, fun r hr => ?_⟩
    · by_cases h0 : len = 0
      · left; simp [h0]
      · right
        obtain ⟨b, off, spot⟩ := ad
        have hc := (hq 0 (by omega)).1.1
        have hspot : spot = none := by simpa [Addr.add] using World.cell?_spot hc
        subst hspot
        refine ⟨b, off, rfl, fun k hk => ?_⟩
        rw [List.length_map, List.length_range] at hk
        have := (hq k hk).1
        have ea : ∀ j, ((⟨b, off, none⟩ : Addr).add j) = ⟨b, off + j, none⟩ := fun j => by unfold Addr.add; split <;> simp_all
        rw [ea, ea, ea] at this
        have eg : ((List.range len).map q).getD k prz = q k := by simp [hk]
        rw [eg]
        simpa [Nat.add_assoc] using this
    · obtain ⟨j, hj, rfl⟩ := List.mem_map.1 hr
      exact (hq j (List.mem_range.1 hj)).2
set_option maxRecDepth 100000 in
theorem open_part {H : Type} {enc : TypeId × Value → H} {W : World} {base : Nat} {v : Value} {d : DataW H} {p : List MemPlace} (hv : Value.okWide Try.prog W .any base 58 v)
    (h : DataW.Trod enc Try.prog W 0 (fun _ => true) true 58 v d p) :
    ∃ n s ao ca, ∃ xs : List Int, v = qv n s (.slice ao xs.length ca) ∧ s.size ≤ maxLen ∧ xs.length ≤ maxLen ∧ AIW W ao xs ∧ WfL xs := by
  obtain ⟨c0, c1, c2, y0, y1, y2, m, rfl, _, _, hy0, hy1, hy2⟩ := open_agg3 Try.underlying58 (by kernel_rfl) cellsPart hv h
  obtain ⟨a, e0, _, _⟩ := DataW.trod_int Try.underlying3 hy0
  obtain ⟨s, e1, _, hs⟩ := DataW.trod_string Try.underlying9 hy1
  obtain ⟨ao, ca, xs, rfl, hx, ax, wx⟩ := open_listW hy2
  simp at e0 e1
  exact ⟨a, s, ao, ca, xs, by rw [e0, e1], hs, hx, ax, wx⟩
set_option maxRecDepth 100000 in
theorem open_parts {H : Type} {enc : TypeId × Value → H} {W : World} {base : Nat} {v : Value} {d : DataW H} {p : List MemPlace} (hv : Value.okWide Try.prog W .any base 33 v)
    (h : DataW.Trod enc Try.prog W 0 (fun _ => true) true 33 v d p) : ∃ al cl, ∃ rs : List Pr, v = .slice al rs.length cl ∧ rs.length ≤ maxLen ∧ ATab W al rs ∧ ∀ r ∈ rs, r.2.1.size ≤ maxLen ∧ r.2.2.2.2.length ≤ maxLen ∧ AIW W r.2.2.1 r.2.2.2.2 ∧ WfL r.2.2.2.2 := by
  obtain ⟨a, len, cap, rfl⟩ := okWide_slice Try.underlying33 hv
  obtain ⟨fuel, hf⟩ := h
  obtain ⟨rs, rfl, hm, hr, he⟩ := open_parts0 hf
  exact ⟨a, cap, rs, rfl, hm, hr, he⟩
theorem ATab.rpt {W : World} {ao : Option Addr} {ca : Nat} {rs : List Pr} (h : ATab W ao rs) (he : ∀ r ∈ rs, AIW W r.2.2.1 r.2.2.2.2) (hl : ∀ r ∈ rs, r.2.2.2.2.length ≤ 4194304) : RPt W (.slice ao rs.length ca) (rs.map prp) := by
  refine ⟨ao, ca, by simp, ?_⟩
  rcases h with rfl | ⟨g, off, rfl, h⟩
  · exact .inl rfl
  · refine .inr ⟨g, off, rfl, fun k hk => ?_⟩
    rw [List.length_map] at hk
    have hm : rs.getD k prz ∈ rs := by rw [List.getD_eq_getElem?_getD, List.getElem?_eq_getElem hk]; exact List.getElem_mem hk
    have e : (rs.map prp).getD k zpt = prp (rs.getD k prz) := by simp [List.getElem?_eq_getElem hk]
    obtain ⟨c0, c1, c2⟩ := h k hk
    rw [e]
    exact ⟨_, c0, c1, c2, (he _ hm).ri (hl _ hm)⟩
end Go.Proofs.Ytehdchpolgihlaa
