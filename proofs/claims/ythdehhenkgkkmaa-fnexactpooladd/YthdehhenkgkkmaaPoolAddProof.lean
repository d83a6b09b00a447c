/- FnExactPoolAdd: for every list of payments and every payment the law answers true and leaves its arguments as they were; no condition. -/
import Derived.Test.YthdehhenkgkkmaaPoolAddWalk
import Derived.Test.YthdehhenkgkkmaaTxsOpen
namespace Go.Proofs.Ythdehhenkgkkmaa.fnExactPoolAdd
open Go.ChangeShapes Go.WideShapes Go.ChangeAt Go.RowKit
open Go.Joins
set_option linter.unusedVariables false
set_option maxRecDepth 100000 in
theorem lifted (os : Os) (started : os.Started) (H : Type) (enc : TypeId × Value → H) :
    ReturnsInHanded {} Try.checked os 4 .any (Rows.fnExactPoolAddSpec.pre6 enc Try.prog Try.f4 Rows.fnExactPoolAddRow.domain false) (Rows.fnExactPoolAddSpec.post enc Try.prog Try.f4 false true false false) := by
  have di0 : ∀ (a b c d : Int), Decidable (Ok4 a b c d) := fun a b c d => Classical.choice ((Classical.em (Ok4 a b c d)).elim (fun h => ⟨.isTrue h⟩) (fun h => ⟨.isFalse h⟩))
  have di1 : ∀ (m a b c d : Int), Decidable (In4 m a b c d) := fun m a b c d => Classical.choice ((Classical.em (In4 m a b c d)).elim (fun h => ⟨.isTrue h⟩) (fun h => ⟨.isFalse h⟩))
  have di2 : ∀ (xs ys : List Int), Decidable (LOk xs ys) := fun xs ys => Classical.choice ((Classical.em (LOk xs ys)).elim (fun h => ⟨.isTrue h⟩) (fun h => ⟨.isFalse h⟩))
  have di3 : ∀ (x y : T4), Decidable (Bef x y) := fun x y => Classical.choice ((Classical.em (Bef x y)).elim (fun h => ⟨.isTrue h⟩) (fun h => ⟨.isFalse h⟩))
  have di4 : ∀ (ts : List T4), Decidable (Asc ts) := fun ts => Classical.choice ((Classical.em (Asc ts)).elim (fun h => ⟨.isTrue h⟩) (fun h => ⟨.isFalse h⟩))
  have di5 : ∀ (ts : List T4), Decidable (AllOk ts) := fun ts => Classical.choice ((Classical.em (AllOk ts)).elim (fun h => ⟨.isTrue h⟩) (fun h => ⟨.isFalse h⟩))
  have di6 : ∀ (ts : List T4), Decidable (POk ts) := fun ts => Classical.choice ((Classical.em (POk ts)).elim (fun h => ⟨.isTrue h⟩) (fun h => ⟨.isFalse h⟩))
  refine returnsInHanded_of_change (C := Try.checked) own started (by kernel_rfl) Try.func4
    (ChangeSpec.witness6 (enc := enc) (C := Try.checked) false ⟨#[], #[.slice none 0 0, txv 0 0 0 0], []⟩ 8 (by kernel_rfl) (by kernel_rfl) (by kernel_rfl) (by kernel_rfl)) ?_
  intro W base args ds gs before hval0 hW hcnd _
  have hval : ∀ (j : Nat) t v, Try.f4.params[j]? = some t → args[j]? = some v → Value.okWide Try.prog W .any base t v := hval0
  have hW' := hW
  obtain ⟨p, q, hA0, hV, rfl, hfz, hnd⟩ := hW
  have hA : DataW.TrodAll enc Try.prog W 0 (fun _ => true) true Try.f4.params.toList args.toList ds p := hA0
  rw [Try.params4] at hA hval
  obtain ⟨v0, vs0, d0, ds0, p0, q0, hargs, rfl, rfl, h0, r0⟩ := trodAll_cons hA
  obtain ⟨v1, vs1, d1, ds1, p1, q1, rfl, rfl, rfl, h1, r1⟩ := trodAll_cons r0
  obtain ⟨rfl, rfl, rfl⟩ := trodAll_nil r1
  obtain rfl : args = #[v0, v1] := by cases args; simp_all
  obtain ⟨rfl, rfl⟩ := trodVars_none hV
  have k0 := h0
  have lt0 : ∀ x ∈ p0, x.block < W.heap.size := by obtain ⟨m, hm⟩ := k0; exact DataW.trod_lt m _ _ _ hm
  obtain ⟨al0, cl0, ts0, rfl, hl0, hr0⟩ := open_txs (hval 0 22 v0 rfl rfl) h0
  have k1 := h1
  have lt1 : ∀ x ∈ p1, x.block < W.heap.size := by obtain ⟨m, hm⟩ := k1; exact DataW.trod_lt m _ _ _ hm
  obtain ⟨a, b, c, d, rfl⟩ := open_tx (hval 1 30 v1 rfl rfl) h1
  clear hA0 hval0
  refine (fnPoolAdd_walk al0 cl0 ts0 a b c d W hl0 hr0).mono fun e W' ⟨he, bel⟩ => ?_
  subst he
  exact ⟨_, rfl, _, _, _, [], _, [], hW', trodAll_mk1 (shut_bool Try.underlying4 _), (trodAll_cons_mk (Below.trod laidOut (by kernel_rfl) (of_decide_eq_true (by kernel_rfl)) k0 bel lt0) (trodAll_cons_mk (Below.trod laidOut (by kernel_rfl) (of_decide_eq_true (by kernel_rfl)) k1 bel lt1) trodAll_mk0)), rfl, bel.frame _, fun h => by cases h⟩

theorem over : Rows.fnExactPoolAddRow.holds Try.pinned (OpenSpec.ofChange Rows.fnExactPoolAddSpec) :=
  OpenClaim.holds_of_wide 4 Try.f4 rfl rfl rfl rfl rfl rfl rfl ⟨rfl, rfl, rfl, rfl, rfl⟩ rfl rfl rfl rfl rfl (by kernel_rfl) Try.func4 (by kernel_rfl)
    (of_decide_eq_true (by kernel_rfl)) (by unfold Func.isWrapper; first | (rw [if_pos (by decide +kernel)]; kernel_rfl) | (rw [if_neg (by decide +kernel)]; exact ⟨rfl, rfl⟩))
    (fun os started H enc _ => lifted os started H enc)
end Go.Proofs.Ythdehhenkgkkmaa.fnExactPoolAdd
namespace Go.Proofs.Ythdehhenkgkkmaa
theorem fnExactPoolAdd_holds : Rows.FnExactPoolAddSaid := fnExactPoolAdd.over
#print axioms fnExactPoolAdd_holds
end Go.Proofs.Ythdehhenkgkkmaa
