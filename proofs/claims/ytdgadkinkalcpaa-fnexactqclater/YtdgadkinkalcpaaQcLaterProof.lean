/- For every two certificates laws.FnExactQcLater returns true and leaves what was in memory as it was: impl.QcLater answers what spec.QcLater answers, in memory of its own, and writes into no argument, where the names and the lists of voters hold together at most 1048576 bytes and numbers (the law answers true of longer ones by itself). Conditions: none. -/
import Derived.Test.YtdgadkinkalcpaaQcLaterWalk
import Derived.Test.YtdgadkinkalcpaaQcOpen
import Derived.Test.YtdgadkinkalcpaaRows
namespace Go.Proofs.Ytdgadkinkalcpaa.fnExactQcLater
open Go.ChangeShapes Go.WideShapes Go.ChangeAt Go.RowKit
open Go.Joins
set_option linter.unusedVariables false
set_option maxRecDepth 100000 in
theorem lifted (os : Os) (started : os.Started) (H : Type) (enc : TypeId × Value → H) :
    ReturnsInHanded {} Try.checked os 8 .any (Rows.fnExactQcLaterSpec.pre6 enc Try.prog Try.f8 Rows.fnExactQcLaterRow.domain false) (Rows.fnExactQcLaterSpec.post enc Try.prog Try.f8 false true false false) := by
  have di0 : ∀ (a b c d : Int), Decidable (Ok4 a b c d) := fun a b c d => Classical.choice ((Classical.em (Ok4 a b c d)).elim (fun h => ⟨.isTrue h⟩) (fun h => ⟨.isFalse h⟩))
  have di1 : ∀ (n f : Int), Decidable (COk n f) := fun n f => Classical.choice ((Classical.em (COk n f)).elim (fun h => ⟨.isTrue h⟩) (fun h => ⟨.isFalse h⟩))
  refine returnsInHanded_of_change (C := Try.checked) own started (by kernel_rfl) Try.func8
    (ChangeSpec.witness6 (enc := enc) (C := Try.checked) false ⟨#[], #[qv 0 ⟨#[]⟩ (.slice none 0 0), qv 0 ⟨#[]⟩ (.slice none 0 0)], []⟩ 8 (by kernel_rfl) (by kernel_rfl) (by kernel_rfl) (by kernel_rfl)) ?_
  intro W base args ds gs before hval0 hW hcnd _
  have hval : ∀ (j : Nat) t v, Try.f8.params[j]? = some t → args[j]? = some v → Value.okWide Try.prog W .any base t v := hval0
  have hW' := hW
  obtain ⟨p, q, hA0, hV, rfl, hfz, hnd⟩ := hW
  have hA : DataW.TrodAll enc Try.prog W 0 (fun _ => true) true Try.f8.params.toList args.toList ds p := hA0
  rw [Try.params8] at hA hval
  obtain ⟨v0, vs0, d0, ds0, p0, q0, hargs, rfl, rfl, h0, r0⟩ := trodAll_cons hA
  obtain ⟨v1, vs1, d1, ds1, p1, q1, rfl, rfl, rfl, h1, r1⟩ := trodAll_cons r0
  obtain ⟨rfl, rfl, rfl⟩ := trodAll_nil r1
  obtain rfl : args = #[v0, v1] := by cases args; simp_all
  obtain ⟨rfl, rfl⟩ := trodVars_none hV
  have k0 := h0
  have lt0 : ∀ x ∈ p0, x.block < W.heap.size := by obtain ⟨m, hm⟩ := k0; exact DataW.trod_lt m _ _ _ hm
  obtain ⟨n0, s0, ao0, ca0, xs0, rfl, hs0, hn0, hr0, wf0⟩ := open_qc (hval 0 36 v0 rfl rfl) h0
  have k1 := h1
  have lt1 : ∀ x ∈ p1, x.block < W.heap.size := by obtain ⟨m, hm⟩ := k1; exact DataW.trod_lt m _ _ _ hm
  obtain ⟨n1, s1, ao1, ca1, xs1, rfl, hs1, hn1, hr1, wf1⟩ := open_qc (hval 1 36 v1 rfl rfl) h1
  clear hA0 hval0
  refine (fnQcLater_walk n0 n1 s0 s1 ao0 ao1 ca0 ca1 xs0 xs1 W hs0 hn0 hs1 hn1 hr0 hr1).mono fun e W' ⟨he, bel⟩ => ?_
  subst he
  exact ⟨_, rfl, _, _, _, [], _, [], hW', trodAll_mk1 (shut_bool Try.underlying4 _), (trodAll_cons_mk (Below.trod laidOut (by kernel_rfl) (of_decide_eq_true (by kernel_rfl)) k0 bel lt0) (trodAll_cons_mk (Below.trod laidOut (by kernel_rfl) (of_decide_eq_true (by kernel_rfl)) k1 bel lt1) trodAll_mk0)), rfl, bel.frame _, fun h => by cases h⟩

theorem over : Rows.fnExactQcLaterRow.holds Try.pinned (OpenSpec.ofChange Rows.fnExactQcLaterSpec) :=
  OpenClaim.holds_of_wide 8 Try.f8 rfl rfl rfl rfl rfl rfl rfl ⟨rfl, rfl, rfl, rfl, rfl⟩ rfl rfl rfl rfl rfl (by kernel_rfl) Try.func8 (by kernel_rfl)
    (of_decide_eq_true (by kernel_rfl)) (by unfold Func.isWrapper; first | (rw [if_pos (by decide +kernel)]; kernel_rfl) | (rw [if_neg (by decide +kernel)]; exact ⟨rfl, rfl⟩))
    (fun os started H enc _ => lifted os started H enc)
end Go.Proofs.Ytdgadkinkalcpaa.fnExactQcLater
namespace Go.Proofs.Ytdgadkinkalcpaa
theorem fnExactQcLater_holds : Rows.FnExactQcLaterSaid := fnExactQcLater.over
#print axioms fnExactQcLater_holds
end Go.Proofs.Ytdgadkinkalcpaa
