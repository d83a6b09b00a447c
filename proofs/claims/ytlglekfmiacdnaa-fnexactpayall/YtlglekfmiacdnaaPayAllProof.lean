/- For every ledger and every list of payments laws.FnExactPayAll returns true and leaves what was in memory as it was: impl.PayAll answers what spec.PayAll answers, in memory of its own, where the ledger's lists and the list have at most 1048576 elements together (the law answers true of longer ones by itself). No condition. -/
import Derived.Test.YtlglekfmiacdnaaTxsOpen
import Derived.Test.YtlglekfmiacdnaaPayAllWalk
namespace Go.Proofs.Ytlglekfmiacdnaa.fnExactPayAll
open Go.ChangeShapes Go.WideShapes Go.ChangeAt Go.RowKit
open Go.Joins
set_option linter.unusedVariables false
set_option maxRecDepth 100000 in
theorem lifted (os : Os) (started : os.Started) (H : Type) (enc : TypeId × Value → H) :
    ReturnsInHanded {} Try.checked os 9 .any (Rows.fnExactPayAllSpec.pre6 enc Try.prog Try.f9 Rows.fnExactPayAllRow.domain false) (Rows.fnExactPayAllSpec.post enc Try.prog Try.f9 false true false false) := by
  have di0 : ∀ (a b c d : Int), Decidable (Ok4 a b c d) := fun a b c d => Classical.choice ((Classical.em (Ok4 a b c d)).elim (fun h => ⟨.isTrue h⟩) (fun h => ⟨.isFalse h⟩))
  have di1 : ∀ (m a b c d : Int), Decidable (In4 m a b c d) := fun m a b c d => Classical.choice ((Classical.em (In4 m a b c d)).elim (fun h => ⟨.isTrue h⟩) (fun h => ⟨.isFalse h⟩))
  have di2 : ∀ (xs ys : List Int), Decidable (LOk xs ys) := fun xs ys => Classical.choice ((Classical.em (LOk xs ys)).elim (fun h => ⟨.isTrue h⟩) (fun h => ⟨.isFalse h⟩))
  refine returnsInHanded_of_change (C := Try.checked) own started (by kernel_rfl) Try.func9
    (ChangeSpec.witness6 (enc := enc) (C := Try.checked) false ⟨#[], #[lv (.slice none 0 0) (.slice none 0 0), .slice none 0 0], []⟩ 8 (by kernel_rfl) (by kernel_rfl) (by kernel_rfl) (by kernel_rfl)) ?_
  intro W base args ds gs before hval0 hW hcnd _
  have hval : ∀ (j : Nat) t v, Try.f9.params[j]? = some t → args[j]? = some v → Value.okWide Try.prog W .any base t v := hval0
  have hW' := hW
  obtain ⟨p, q, hA0, hV, rfl, hfz, hnd⟩ := hW
  have hA : DataW.TrodAll enc Try.prog W 0 (fun _ => true) true Try.f9.params.toList args.toList ds p := hA0
  rw [Try.params9] at hA hval
  obtain ⟨v0, vs0, d0, ds0, p0, q0, hargs, rfl, rfl, h0, r0⟩ := trodAll_cons hA
  obtain ⟨v1, vs1, d1, ds1, p1, q1, rfl, rfl, rfl, h1, r1⟩ := trodAll_cons r0
  obtain ⟨rfl, rfl, rfl⟩ := trodAll_nil r1
  obtain rfl : args = #[v0, v1] := by cases args; simp_all
  obtain ⟨rfl, rfl⟩ := trodVars_none hV
  have k0 := h0
  have lt0 : ∀ x ∈ p0, x.block < W.heap.size := by obtain ⟨m, hm⟩ := k0; exact DataW.trod_lt m _ _ _ hm
  obtain ⟨ao0, ca0, bo0, cb0, xs0, ys0, rfl, hx0, hy0, ax0, ay0⟩ := open_ledger (hval 0 43 v0 rfl rfl) h0
  have k1 := h1
  have lt1 : ∀ x ∈ p1, x.block < W.heap.size := by obtain ⟨m, hm⟩ := k1; exact DataW.trod_lt m _ _ _ hm
  obtain ⟨al1, cl1, ts1, rfl, hl1, hr1⟩ := open_txs (hval 1 52 v1 rfl rfl) h1
  clear hA0 hval0
  refine (fnPayAll_walk ao0 bo0 al1 ca0 cb0 cl1 xs0 ys0 ts1 W hx0 hy0 hl1 ax0 ay0 hr1).mono fun e W' ⟨he, bel⟩ => ?_
  subst he
  exact ⟨_, rfl, _, _, _, [], _, [], hW', trodAll_mk1 (shut_bool Try.underlying4 _), (trodAll_cons_mk (Below.trod laidOut (by kernel_rfl) (of_decide_eq_true (by kernel_rfl)) k0 bel lt0) (trodAll_cons_mk (Below.trod laidOut (by kernel_rfl) (of_decide_eq_true (by kernel_rfl)) k1 bel lt1) trodAll_mk0)), rfl, bel.frame _, fun h => by cases h⟩

theorem over : Rows.fnExactPayAllRow.holds Try.pinned (OpenSpec.ofChange Rows.fnExactPayAllSpec) :=
  OpenClaim.holds_of_wide 9 Try.f9 rfl rfl rfl rfl rfl rfl rfl ⟨rfl, rfl, rfl, rfl, rfl⟩ rfl rfl rfl rfl rfl (by kernel_rfl) Try.func9 (by kernel_rfl)
    (of_decide_eq_true (by kernel_rfl)) (by unfold Func.isWrapper; first | (rw [if_pos (by decide +kernel)]; kernel_rfl) | (rw [if_neg (by decide +kernel)]; exact ⟨rfl, rfl⟩))
    (fun os started H enc _ => lifted os started H enc)
end Go.Proofs.Ytlglekfmiacdnaa.fnExactPayAll
namespace Go.Proofs.Ytlglekfmiacdnaa
theorem fnExactPayAll_holds : Rows.FnExactPayAllSaid := fnExactPayAll.over
#print axioms fnExactPayAll_holds
end Go.Proofs.Ytlglekfmiacdnaa
