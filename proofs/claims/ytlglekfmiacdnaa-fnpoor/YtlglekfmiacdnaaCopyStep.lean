/- 'append([]int(..), list...)' onto an empty list, as one step of a region that draws. -/
import Derived.Test.YtlglekfmiacdnaaCopyInts
import Derived.Test.YtlglekfmiacdnaaLoc
import Derived.Test.YtlglekfmiacdnaaHeldBy
import Derived.Deep.RegionLawGrows
namespace Go.Proofs.Ytlglekfmiacdnaa
open Go.RowKit
set_option linter.unusedSectionVars false

theorem run_append_nothing (ty : TypeId) (g cap : Nat) (w : World) : (Builtin.append_ #[24, 24] ty #[.slice (some ⟨g, 0, none⟩) 0 0, .slice none 0 cap]).run Try.prog w = .ok (.slice (some ⟨g, 0, none⟩) 0 0) w := by
  obtain ⟨i0, hi, hz0, hz1, hz2⟩ := info_parts Try.info3
  simp [Builtin.append_, run_underlying Try.underlying24, sizeOf, typeInfo, hi, Builtin.lenOf, Builtin.firstCells, storeCells]
theorem step_copy {ops : Array Oper} {o : Oper} {a : Act} {w : World} {K : Act → World → Prop} {Q : Exit → Act → World → Prop} {E : Prop}
    {d : Nat} (hd : o.dst = some d) (hg : o.guard = none) (s x : Operand) (hop : o.op = Op.call { callee := Callee.builtin Builtin.append, args := #[s, x], argTypes := #[24, 24] })
    (g : Nat) (hs : a.eval s = .slice (some ⟨g, 0, none⟩) 0 0) (xs : List Int) (hx : RI w (a.eval x) xs) (hown : OI w g (.slice (some ⟨g, 0, none⟩) 0 0) [])
    (hK : ∀ v' w', OI w' g v' xs → (∀ k, v'.ownBlock = some k → k = g ∨ w.heap.size ≤ k) → Below w.heap.size w w' → K (a.put (some d) v') w') :
    if Region.wanted o (yielded ops a.tmps) = true then Oper.wp Try.prog o a w K Q else E := by
  rw [← hd] at hK
  obtain ⟨i0, hi, hz0, hz1, hz2⟩ := info_parts Try.info3
  obtain ⟨hl, ao, cap, hv, h⟩ := hx
  have hw : Region.wanted o (yielded ops a.tmps) = true := by simp [Region.wanted, hg]
  by_cases h0 : xs = []
  · subst h0
    match ao with
    | some ad =>
      refine step_append_room hg s x 24 hop 3 i0 1 Try.underlying24 hi hz1 g 0 0 0 hs ad 0 cap [] hv rfl (fun j u hj => by simp at hj) (fun u hu => by simp at hu) (Nat.le_refl _) (fun j hj => by simp at hj) ?_
      exact hK _ _ hown (fun k hk => .inl (by simpa [Value.ownBlock] using hk.symm)) (Below.refl _ _)
    | none =>
      have hrun := run_append_nothing o.type g cap w
      rw [if_pos hw]
      unfold Oper.wp
      simp [execOp, hop, resolve, invoke, builtin, hs, hv, hrun, Result.andThen]
      exact hK _ _ hown (fun k hk => .inl (by simpa [Value.ownBlock] using hk.symm)) (Below.refl _ _)
  · obtain ⟨b, off, rfl, hc⟩ := h.resolve_left h0
    have hn : 0 < xs.length := List.length_pos_iff.2 h0
    refine step_append_grows hg s x 24 hop 3 i0 (.int .i64 0) 1 8 Try.underlying24 hi hz0 hz1 hz2 rfl (by decide) (some ⟨g, 0, none⟩) 0 0 [] hs (by simp) (by simp) (fun b hb j u hj => by simp at hj) ⟨b, off, none⟩ xs.length cap (xs.map (Value.int .i64)) hv (by simp) (news_cells hc) (ints_plain xs) (by omega) (by unfold maxLen; omega) (by omega) ?_
    intro v' w' ho hgr
    have ho' : OI w' w.heap.size v' xs := by simpa [OI] using ho
    exact hK _ _ (ho'.mono (Nat.le_of_lt (World.ownsRow.lt hown g rfl).2)) (fun k hk => .inr (World.ownsRow.lt ho' k hk).1) ((Below.refl _ _).grown hgr (Nat.le_refl _) (by simp))
end Go.Proofs.Ytlglekfmiacdnaa
