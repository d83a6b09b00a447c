/- append as one step of a region that draws its order; small facts for draws. -/
import Derived.Test.YtkjmkcipalmonaaIntPieces
import Derived.Test.YtkjmkcipalmonaaDrawSets
import Derived.Test.YtkjmkcipalmonaaLoc
import Derived.Maps.AppendAt
import Derived.Deep.RegionLaw
namespace Go.Proofs.Ytkjmkcipalmonaa
open Go.RowKit

theorem step_append_ints {ops : Array Oper} {o : Oper} {a : Act} {w : World} {K : Act → World → Prop} {Q : Exit → Act → World → Prop} {E : Prop} (hgd : o.guard = none) (s x : Operand)
    (ho : o.op = .call { callee := .builtin .append, args := #[s, x], argTypes := #[28, 28] }) (base : Nat) (v u : Value) (xs ys : List Int) (hs : a.eval s = v) (hx : a.eval x = u)
    (hown : OI w base v xs) (hp : PI w u ys) (hl : xs.length + ys.length ≤ 16777216) (hbase : base ≤ w.heap.size)
    (h : ∀ v' w', OI w' base v' (xs ++ ys) → w.grownBy w' v.ownBlock → (v'.ownBlock = v.ownBlock ∨ v'.ownBlock = some w.heap.size) → K (a.put o.dst v') w') :
    if Region.wanted o (yielded ops a.tmps) = true then Oper.wp Try.prog o a w K Q else E := by
  have hw : Region.wanted o (yielded ops a.tmps) = true := by simp [Region.wanted, hgd]
  rw [if_pos hw]
  obtain ⟨i0, hi, hz0, hz1, hz2⟩ := info_parts Try.info3
  obtain ⟨ao, cap, rfl, hp⟩ := hp
  match ao, hx with
  | none, hx =>
    have hy : ys = [] := by rcases hp with h | ⟨ad, e, _⟩; exact h; cases e
    subst hy
    have hrun := run_append_none1 o.type base cap v xs.length (xs.map (Value.int .i64)) w hown
    unfold Oper.wp
    simp only [List.length_nil] at hx
    simp [execOp, ho, resolve, invoke, builtin, hs, hx, hrun, Result.andThen]
    exact h v w (by simpa using hown) (grown_same _ _) (.inl rfl)
  | some ad, hx =>
    have hn : ∀ j u, (ys.map (Value.int .i64))[j]? = some u → w.cell? (ad.add j) = some u := by
      rcases hp with rfl | ⟨ad', e, h⟩
      · intro j u hj; simp at hj
      · cases e; exact h
    obtain ⟨v', w', hrun, r1, r2, _, r4⟩ := run_append_own_at (P := Try.prog) w base 28 o.type 3 i0 (.int .i64 0) 1 8 Try.underlying28 hi hz0 hz1 hz2 rfl (by decide) v xs.length (xs.map (Value.int .i64)) hown ad ys.length cap (ys.map (Value.int .i64)) (by simp) hn (ints_plain64 ys) (by unfold maxLen; omega) (by omega) hbase
    unfold Oper.wp
    simp [execOp, ho, resolve, invoke, builtin, hs, hx, hrun, Result.andThen]
    refine h v' w' ?_ r2 r4
    unfold OI
    rw [List.map_append, List.length_append]
    exact r1
theorem Loc.grown {w w' : World} {r g : Nat} {cs : Array Value} (h : Loc w r cs) (hg : w.grownBy w' (some g)) (hr : r ≠ g) : Loc w' r cs := h.kp (kp_of hg) hr
theorem Loc.grownNew {w w' : World} {r : Nat} {row : Option Nat} {cs : Array Value} (h : Loc w r cs) (hg : w.grownBy w' row) (hr : row ≠ some r) : Loc w' r cs := h.kp (kp_grown hg) hr
theorem OI.drawn {w w' : World} {base g : Nat} {v : Value} {xs : List Int} (h : OI w base v xs) (hg : w.grownBy w' (some g)) (hlt : g < base) : OI w' base v xs :=
  h.grown hg (fun k hk e => by have := World.ownsRow.lt h k hk; cases e; omega)
end Go.Proofs.Ytkjmkcipalmonaa
