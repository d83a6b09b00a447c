/- impl.copyInts. -/
import Derived.Test.YtihaecmlfmfbfaaDoorLedger
namespace Go.Proofs.YtihaecmlfmfbfaaDoor
open Go.RowKit

theorem ints_plain64 (xs : List Int) (u : Value) (h : u ∈ xs.map (Value.int .i64)) : u.oneCell' = true := by
  obtain ⟨x, _, rfl⟩ := List.mem_map.1 h; rfl

theorem inews_cells {w : World} {g off : Nat} {xs : List Int} (h : ∀ k, k < xs.length → w.cell? ⟨g, off + k, none⟩ = some (.int .i64 (xs.getD k 0))) :
    ∀ j u, (xs.map (Value.int .i64))[j]? = some u → w.cell? ((⟨g, off, none⟩ : Addr).add j) = some u := by
  intro j u hj
  rw [List.getElem?_map] at hj
  obtain ⟨x, hx, rfl⟩ := Option.map_eq_some_iff.1 hj
  have hlt := (List.getElem?_eq_some_iff.1 hx).1
  have e : ((⟨g, off, none⟩ : Addr).add j) = ⟨g, off + j, none⟩ := by unfold Addr.add; split <;> simp_all
  rw [e, h j hlt]
  simp [List.getD_eq_getElem?_getD, hx]

end Go.Proofs.YtihaecmlfmfbfaaDoor
