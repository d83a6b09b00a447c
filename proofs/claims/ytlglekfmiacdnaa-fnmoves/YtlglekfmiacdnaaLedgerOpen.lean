/- A ledger that came in. -/
import Derived.Test.YtlglekfmiacdnaaTotalWalk
import Derived.WalkKit
import Derived.ProofKit
import Derived.OpenShut
import Derived.ShutString
import Derived.ChangeOld
import Derived.Below
import Derived.Lib.SmallJoins
namespace Go.Proofs.Ytlglekfmiacdnaa
open Go.ChangeShapes Go.WideShapes Go.ChangeAt Go.RowKit
open Go.Joins
set_option linter.unusedSectionVars false

theorem own : ownKnob Try.prog.godebug = none := by kernel_rfl
theorem laidOut : laidOutB Try.prog = true := by kernel_rfl
theorem cellsL : Try.prog.cellsOf 43 = 2 := by kernel_rfl
theorem open_list {H : Type} {enc : TypeId × Value → H} {W : World} {n : Nat} {c : Value} {y : DataW H × List MemPlace} (h : DataW.trod enc Try.prog W 0 (fun _ => true) true n 24 [c] = some y) :
    ∃ ao ca xs, c = .slice ao (xs : List Int).length ca ∧ xs.length ≤ maxLen ∧ AI W ao xs := by
  rcases open_ints Try.underlying24 Try.underlying3 (by kernel_rfl) h with ⟨hcs, _⟩ | ⟨x, l, c, zs, hcs, _, hl, hm, hz, _, hcell, hwz⟩
  · simp at hcs
    exact ⟨none, 0, [], hcs, by simp, .inl rfl⟩
  · simp at hcs
    have hz' : zs.length = c := by simpa using hz
    have e : (zs.take l).length = l := by simp; omega
    refine ⟨some x, c, zs.take l, by rw [hcs, e], by rw [e]; omega, ?_⟩
    by_cases h0 : l = 0
    · left; simp [h0]
    · right
      obtain ⟨b, off, spot⟩ := x
      have hc := hcell 0 (by omega)
      have hspot : spot = none := by simpa [Addr.add] using World.cell?_spot hc
      subst hspot
      refine ⟨b, off, rfl, fun k hk => ?_⟩
      rw [e] at hk
      have hk' := hcell k (by omega)
      rw [show ((⟨b, off, none⟩ : Addr).add k) = ⟨b, off + k, none⟩ from by unfold Addr.add; split <;> simp_all] at hk'
      rw [hk']
      simp [hk]
theorem open_ledger {H : Type} {enc : TypeId × Value → H} {W : World} {base : Nat} {v : Value} {d : DataW H} {p : List MemPlace} (hv : Value.okWide Try.prog W .any base 43 v)
    (h : DataW.Trod enc Try.prog W 0 (fun _ => true) true 43 v d p) :
    ∃ ao ca bo cb, ∃ xs ys : List Int, v = lv (.slice ao xs.length ca) (.slice bo ys.length cb) ∧ xs.length ≤ maxLen ∧ ys.length ≤ maxLen ∧ AI W ao xs ∧ AI W bo ys := by
  obtain ⟨c0, c1, y0, y1, m, rfl, _, _, hy0, hy1⟩ := open_agg2 Try.underlying43 (by kernel_rfl) cellsL hv h
  obtain ⟨ao, ca, xs, rfl, hx, ax⟩ := open_list hy0
  obtain ⟨bo, cb, ys, rfl, hy, ay⟩ := open_list hy1
  exact ⟨ao, ca, bo, cb, xs, ys, rfl, hx, hy, ax, ay⟩
end Go.Proofs.Ytlglekfmiacdnaa
