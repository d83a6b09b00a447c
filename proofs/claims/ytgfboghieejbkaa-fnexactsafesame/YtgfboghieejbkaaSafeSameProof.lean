/- For every two Safes laws.FnExactSafeSame returns true and leaves what was in memory as it was: impl.SafeSame answers what spec.SafeSame answers, and writes into no argument, where the names and the lists of voters of both hold together at most 1048576 bytes and numbers (the law answers true of longer ones by itself). No conditions. -/
import Derived.Test.YtgfboghieejbkaaSafeSameWalk
import Derived.Test.YtgfboghieejbkaaSafeOpen
namespace Go.Proofs.Ytgfboghieejbkaa.fnExactSafeSame
open Go.ChangeShapes Go.WideShapes Go.ChangeAt Go.RowKit
open Go.Joins
set_option linter.unusedVariables false
set_option maxRecDepth 100000 in
theorem lifted (os : Os) (started : os.Started) (H : Type) (enc : TypeId × Value → H) :
    ReturnsInHanded {} Try.checked os 4 .any (Rows.fnExactSafeSameSpec.pre6 enc Try.prog Try.f4 Rows.fnExactSafeSameRow.domain false) (Rows.fnExactSafeSameSpec.post enc Try.prog Try.f4 false true false false) := by
  have di0 : ∀ (a b c d : Int), Decidable (Ok4 a b c d) := fun a b c d => Classical.choice ((Classical.em (Ok4 a b c d)).elim (fun h => ⟨.isTrue h⟩) (fun h => ⟨.isFalse h⟩))
  have di1 : ∀ (n f : Int), Decidable (COk n f) := fun n f => Classical.choice ((Classical.em (COk n f)).elim (fun h => ⟨.isTrue h⟩) (fun h => ⟨.isFalse h⟩))
  refine returnsInHanded_of_change (C := Try.checked) own started (by kernel_rfl) Try.func4
    (ChangeSpec.witness6 (enc := enc) (C := Try.checked) false ⟨#[], #[sv 0 0 0 ⟨#[]⟩ (.slice none 0 0) ⟨#[]⟩, sv 0 0 0 ⟨#[]⟩ (.slice none 0 0) ⟨#[]⟩], []⟩ 8 (by kernel_rfl) (by kernel_rfl) (by kernel_rfl) (by kernel_rfl)) ?_
  intro W base args ds gs before hval0 hW hcnd _
  have hval : ∀ (j : Nat) t v, Try.f4.params[j]? = some t → args[j]? = some v → Value.okWide Try.prog W .any base t v := hval0
  have hW' := hW
  obtain ⟨p, q, hA0, hV, rfl, hfz, hnd⟩ := hW
  have hA : DataW.TrodAll enc Try.prog W 0 (fun _ => true) true Try.f4.params.toList args.toList ds p := hA0
  rw [Try.params4] at hA hval
  obtain ⟨v0, vs0, d0, ds0, p0, q0, hargs, rfl, rfl, h0, r0⟩ := trodAll_cons hA
  obtain ⟨v1, vs1, d1, ds1, p1, q1, rfl, rfl, rfl, h1, r1⟩ := trodAll_cons r0
  obtain ⟨rfl, rfl, rfl⟩ := trodAll_nil r1
  obtain rfl : args = #[v0, v1] := by cases args; simp_all
  obtain ⟨rfl, rfl⟩ := trodVars_none hV
  have k0 := h0
  have lt0 : ∀ x ∈ p0, x.block < W.heap.size := by obtain ⟨m, hm⟩ := k0; exact DataW.trod_lt m _ _ _ hm
  obtain ⟨vo0, lo0, n0, s0, ao0, ca0, m0, xs0, rfl, hs0, hn0, hm0, hr0, wf0⟩ := open_safe (hval 0 33 v0 rfl rfl) h0
  have k1 := h1
  have lt1 : ∀ x ∈ p1, x.block < W.heap.size := by obtain ⟨m, hm⟩ := k1; exact DataW.trod_lt m _ _ _ hm
  obtain ⟨vo1, lo1, n1, s1, ao1, ca1, m1, xs1, rfl, hs1, hn1, hm1, hr1, wf1⟩ := open_safe (hval 1 33 v1 rfl rfl) h1
  clear hA0 hval0
  refine (fnSafeSame_walk vo0 lo0 n0 s0 ao0 ca0 xs0 m0 vo1 lo1 n1 s1 ao1 ca1 xs1 m1 W hs0 hn0 hm0 hr0 hs1 hn1 hm1 hr1).mono fun e W' ⟨he, bel⟩ => ?_
  subst he
  exact ⟨_, rfl, _, _, _, [], _, [], hW', trodAll_mk1 (shut_bool Try.underlying4 _), (trodAll_cons_mk (Below.trod laidOut (by kernel_rfl) (of_decide_eq_true (by kernel_rfl)) k0 bel lt0) (trodAll_cons_mk (Below.trod laidOut (by kernel_rfl) (of_decide_eq_true (by kernel_rfl)) k1 bel lt1) trodAll_mk0)), rfl, bel.frame _, fun h => by cases h⟩

theorem over : Rows.fnExactSafeSameRow.holds Try.pinned (OpenSpec.ofChange Rows.fnExactSafeSameSpec) :=
  OpenClaim.holds_of_wide 4 Try.f4 rfl rfl rfl rfl rfl rfl rfl ⟨rfl, rfl, rfl, rfl, rfl⟩ rfl rfl rfl rfl rfl (by kernel_rfl) Try.func4 (by kernel_rfl)
    (of_decide_eq_true (by kernel_rfl)) (by unfold Func.isWrapper; first | (rw [if_pos (by decide +kernel)]; kernel_rfl) | (rw [if_neg (by decide +kernel)]; exact ⟨rfl, rfl⟩))
    (fun os started H enc _ => lifted os started H enc)
end Go.Proofs.Ytgfboghieejbkaa.fnExactSafeSame
namespace Go.Proofs.Ytgfboghieejbkaa
theorem fnExactSafeSame_holds : Rows.FnExactSafeSameSaid := fnExactSafeSame.over
#print axioms fnExactSafeSame_holds
end Go.Proofs.Ytgfboghieejbkaa
