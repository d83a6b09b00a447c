/- For every two lists of numbers laws.FnExactCommon returns true and leaves what was in memory as it was: impl.Common answers what spec.Common answers, and writes into no argument, of lists of at most 1048576 numbers each (the law answers true of longer ones by itself). Conditions: none. -/
import Derived.Test.YtjiflmkikdkdmaaCommonWalk
import Derived.Test.YtjiflmkikdkdmaaIntsOpen
import Derived.Test.YtjiflmkikdkdmaaRows
namespace Go.Proofs.Ytjiflmkikdkdmaa.fnExactCommon
open Go.ChangeShapes Go.WideShapes Go.ChangeAt Go.RowKit
open Go.Joins
set_option linter.unusedVariables false
set_option maxRecDepth 100000 in
theorem lifted (os : Os) (started : os.Started) (H : Type) (enc : TypeId × Value → H) :
    ReturnsInHanded {} Try.checked os 8 .any (Rows.fnExactCommonSpec.pre6 enc Try.prog Try.f8 Rows.fnExactCommonRow.domain false) (Rows.fnExactCommonSpec.post enc Try.prog Try.f8 false true false false) := by
  have di0 : ∀ (n : Int) (s : List Int), Decidable (OkL n s) := fun n s => Classical.choice ((Classical.em (OkL n s)).elim (fun h => ⟨.isTrue h⟩) (fun h => ⟨.isFalse h⟩))
  refine returnsInHanded_of_change (C := Try.checked) own started (by kernel_rfl) Try.func8
    (ChangeSpec.witness6 (enc := enc) (C := Try.checked) false ⟨#[], #[.slice none 0 0, .slice none 0 0], []⟩ 8 (by kernel_rfl) (by kernel_rfl) (by kernel_rfl) (by kernel_rfl)) ?_
  intro W base args ds gs before hval0 hW hcnd _
  have hval : ∀ (j : Nat) t v, Try.f8.params[j]? = some t → args[j]? = some v → Value.okWide Try.prog W .any base t v := hval0
  have hW' := hW
  obtain ⟨p, q, hA0, hV, rfl, hfz, hnd⟩ := hW
  have hA : DataW.TrodAll enc Try.prog W 0 (fun _ => true) true Try.f8.params.toList args.toList ds p := hA0
  rw [Try.params8] at hA hval
  obtain ⟨v0, vs0, d0, ds0, p0, q0, hargs, rfl, rfl, h0, r0⟩ := trodAll_cons hA
  obtain ⟨v1, vs1, d1, ds1, p1, q1, rfl, rfl, rfl, h1, r1⟩ := trodAll_cons r0
  obtain ⟨rfl, rfl, rfl⟩ := trodAll_nil r1
  obtain rfl : args = #[v0, v1] := by cases args; simp_all
  obtain ⟨rfl, rfl⟩ := trodVars_none hV
  have k0 := h0
  have lt0 : ∀ x ∈ p0, x.block < W.heap.size := by obtain ⟨m, hm⟩ := k0; exact DataW.trod_lt m _ _ _ hm
  obtain ⟨ai0, ci0, xs0, rfl, hn0, hr0, hw0⟩ := open_intlistW (hval 0 24 v0 rfl rfl) h0
  have k1 := h1
  have lt1 : ∀ x ∈ p1, x.block < W.heap.size := by obtain ⟨m, hm⟩ := k1; exact DataW.trod_lt m _ _ _ hm
  obtain ⟨ai1, ci1, xs1, rfl, hn1, hr1, hw1⟩ := open_intlistW (hval 1 24 v1 rfl rfl) h1
  clear hA0 hval0
  refine (fnCommon_walk ai0 ai1 ci0 ci1 xs0 xs1 W hr0 hr1 hw0 hw1).mono fun e W' ⟨he, bel⟩ => ?_
  subst he
  exact ⟨_, rfl, _, _, _, [], _, [], hW', trodAll_mk1 (shut_bool Try.underlying4 _), (trodAll_cons_mk (Below.trod laidOut (by kernel_rfl) (of_decide_eq_true (by kernel_rfl)) k0 bel lt0) (trodAll_cons_mk (Below.trod laidOut (by kernel_rfl) (of_decide_eq_true (by kernel_rfl)) k1 bel lt1) trodAll_mk0)), rfl, bel.frame _, fun h => by cases h⟩

theorem over : Rows.fnExactCommonRow.holds Try.pinned (OpenSpec.ofChange Rows.fnExactCommonSpec) :=
  OpenClaim.holds_of_wide 8 Try.f8 rfl rfl rfl rfl rfl rfl rfl ⟨rfl, rfl, rfl, rfl, rfl⟩ rfl rfl rfl rfl rfl (by kernel_rfl) Try.func8 (by kernel_rfl)
    (of_decide_eq_true (by kernel_rfl)) (by unfold Func.isWrapper; first | (rw [if_pos (by decide +kernel)]; kernel_rfl) | (rw [if_neg (by decide +kernel)]; exact ⟨rfl, rfl⟩))
    (fun os started H enc _ => lifted os started H enc)
end Go.Proofs.Ytjiflmkikdkdmaa.fnExactCommon
namespace Go.Proofs.Ytjiflmkikdkdmaa
theorem fnExactCommon_holds : Rows.FnExactCommonSaid := fnExactCommon.over
#print axioms fnExactCommon_holds
end Go.Proofs.Ytjiflmkikdkdmaa
