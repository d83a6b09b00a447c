/- PartSum: what a table's parts come to together. -/
import Derived.Test.YtehdchpolgihlaaPartHeld
namespace Go.Proofs.Ytehdchpolgihlaa
open Go.RowKit
set_option linter.unusedSectionVars false
variable [∀ (a b c d : Int), Decidable (Ok4 a b c d)]
variable [∀ (n f : Int), Decidable (COk n f)]

theorem psum_each {rs : List Pr} {r : Pr} (h : r ∈ rs) : r.2.1.size + r.2.2.2.2.length ≤ psum rs := by
  induction rs with
  | nil => simp at h
  | cons x rs ih =>
    rcases List.mem_cons.1 h with rfl | h
    · simp only [psum]; omega
    · have := ih h; simp only [psum]; omega
theorem prp_mem {rs : List Pr} {p : Pt} (h : p ∈ rs.map prp) : p.2.1.size + p.2.2.length ≤ psum rs := by
  obtain ⟨r, hr, rfl⟩ := List.mem_map.1 h
  exact psum_each hr
theorem ATab.below {W W' : World} {ao : Option Addr} {rs : List Pr} (h : ATab W ao rs) (hb : Below W.heap.size W W') : ATab W' ao rs := by
  rcases h with h | ⟨g, off, rfl, h⟩
  · exact .inl h
  · refine .inr ⟨g, off, rfl, fun k hk => ?_⟩
    obtain ⟨c0, c1, c2⟩ := h k hk
    have hg := cell_lt c0
    exact ⟨(hb.cell (p := ⟨g, off + k * 3, none⟩) hg).trans c0, (hb.cell (p := ⟨g, off + k * 3 + 1, none⟩) hg).trans c1, (hb.cell (p := ⟨g, off + k * 3 + 2, none⟩) hg).trans c2⟩
/-- How many voters a table has in all. -/
def whos : List Pt → Nat
  | [] => 0
  | p :: ps => p.2.2.length + whos ps
theorem pend_sum (k : Nat) (ps : List Pt) : pend k ps = k + 2 * ps.length + whos ps := by
  induction ps generalizing k with
  | nil => simp [pend, whos]
  | cons p ps ih => simp only [pend, whos, ih, List.length_cons]; omega
theorem pmk_small (k : Nat) (ps : List Pt) (h : ∀ p ∈ ps, p.2.2.length ≤ 4194304) : ∀ p ∈ pmk k ps, p.2.2.length ≤ 4194304 := by
  induction ps generalizing k with
  | nil => simp [pmk]
  | cons x ps ih =>
    intro p hp
    simp only [pmk, List.mem_cons] at hp
    rcases hp with rfl | hp
    · simp only [imarks_len]; exact h x (by simp)
    · exact ih _ (fun y hy => h y (by simp [hy])) p hp
theorem whos_le (rs : List Pr) : whos (rs.map prp) ≤ psum rs := by
  induction rs with
  | nil => simp [whos]
  | cons r rs ih => simp only [List.map_cons, whos, psum]; have : (prp r).2.2.length = r.2.2.2.2.length := rfl; omega
end Go.Proofs.Ytehdchpolgihlaa
