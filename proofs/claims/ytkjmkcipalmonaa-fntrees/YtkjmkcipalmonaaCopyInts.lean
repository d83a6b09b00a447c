/- impl.copyInts. -/
import Derived.Test.YtkjmkcipalmonaaLedger
namespace Go.Proofs.Ytkjmkcipalmonaa
open Go.RowKit

theorem ints_plain64 (xs : List Int) (u : Value) (h : u ∈ xs.map (Value.int .i64)) : u.oneCell' = true := by
  obtain ⟨x, _, rfl⟩ := List.mem_map.1 h; rfl

theorem inews_cells {w : World} {g off : Nat} {xs : List Int} (h : ∀ k, k < xs.length → w.cell? ⟨g, off + k, none⟩ = some (.int .i64 (xs.getD k 0))) :
    ∀ j u, (xs.map (Value.int .i64))[j]? = some u → w.cell? ((⟨g, off, none⟩ : Addr).add j) = some u := by
  intro j u hj
  rw [List.getElem?_map] at hj
  obtain ⟨x, hx, rfl⟩ := Option.map_eq_some_iff.1 hj
  have hlt := (List.getElem?_eq_some_iff.1 hx).1
  have e : ((⟨g, off, none⟩ : Addr).add j) = ⟨g, off + j, none⟩ := by unfold Addr.add; split <;> simp_all
  rw [e, h j hlt]
  simp [List.getD_eq_getElem?_getD, hx]

set_option maxHeartbeats 1600000 in
set_option maxRecDepth 100000 in
theorem copyInts_at (ad : Addr) (cap : Nat) (xs : List Int) (w : World) (hl : xs.length ≤ 4194304) (hc : ∀ j u, (xs.map (Value.int .i64))[j]? = some u → w.cell? (ad.add j) = some u) :
    Calls Try.prog 52 #[.slice (some ad) xs.length cap] w fun e w' => ∃ u, e = .returned u ∧ OI w' w.heap.size u xs ∧ Below w.heap.size w w' := by
  obtain ⟨i0, hi, hz0, hz1, hz2⟩ := info_parts Try.info3
  go_enter Try.func52, Try.ntmps52
  go_wp2_with (first | (at_builtin; refine wpList_append_own _ rfl _ _ 28 rfl w.heap.size 3 i0 (.int .i64 0) 1 8 Try.underlying28 hi hz0 hz1 hz2 rfl (by decide) (.slice none 0 0) 0 [] rfl (World.ownsRow_nil _ _ _ _) ad xs.length cap (xs.map (Value.int .i64)) rfl (by simp) hc (ints_plain64 xs) (by unfold maxLen; omega) (by omega) (Nat.le_refl _) ?_; intro v' w1 ho' hg' _))
  go_ret
  exact ⟨_, rfl, by simpa [OI] using ho', (Below.refl _ _).grown hg' (Nat.le_refl _) (by simp [Value.ownBlock])⟩

set_option maxHeartbeats 1600000 in
set_option maxRecDepth 100000 in
theorem copyInts_none (cap : Nat) (w : World) :
    Calls Try.prog 52 #[.slice none 0 cap] w fun e w' => ∃ u, e = .returned u ∧ OI w' w.heap.size u [] ∧ Below w.heap.size w w' := by
  go_enter Try.func52, Try.ntmps52
  go_wp2
  go_ret
  exact ⟨_, rfl, World.ownsRow_nil _ _ _ _, Below.refl _ _⟩
theorem copyInts_any (v : Value) (xs : List Int) (w : World) (h : RI w v xs) :
    Calls Try.prog 52 #[v] w fun e w' => ∃ u, e = .returned u ∧ OI w' w.heap.size u xs ∧ Below w.heap.size w w' := by
  obtain ⟨hl, ao, cap, rfl, h⟩ := h
  rcases h with rfl | ⟨g, off, rfl, h⟩
  · match ao with
    | none => exact copyInts_none cap w
    | some ad => exact copyInts_at ad cap [] w (by simp) (fun j u hj => by simp at hj)
  · exact copyInts_at _ cap xs w hl (inews_cells h)
end Go.Proofs.Ytkjmkcipalmonaa
