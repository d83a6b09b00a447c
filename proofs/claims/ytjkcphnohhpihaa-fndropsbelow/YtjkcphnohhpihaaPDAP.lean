/- FnDropsBelow: for every code the law answers true and leaves its argument as it was: of the table that is drawn from the code impl.TableDrop keeps just the parts that are not below the view that is drawn, in their order, as spec.TableDrop does. Conditions: none. -/
import Derived.Test.YtjkcphnohhpihaaPDAN
import Derived.Test.YtjkcphnohhpihaaPDAO
set_option linter.unusedVariables false
namespace Go.Proofs.Ytjkcphnohhpihaa.fnDropsBelow
open Go.ChangeShapes Go.WideShapes Go.ChangeAt Go.RowKit
open Go.Joins
set_option maxRecDepth 100000 in
theorem lifted (os : Os) (started : os.Started) (H : Type) (enc : TypeId × Value → H) :
 ReturnsInHanded {} Try.checked os 4 .any (Rows.fnDropsBelowSpec.pre6 enc Try.prog Try.f4 Rows.fnDropsBelowRow.domain false) (Rows.fnDropsBelowSpec.post enc Try.prog Try.f4 false true false false) := by
 have di0 : ∀ (a b c d : Int), Decidable (Ok4 a b c d):=fun a b c d => Classical.choice ((Classical.em (Ok4 a b c d)).elim (fun h => ⟨.isTrue h⟩) (fun h => ⟨.isFalse h⟩))
 have di1 : ∀ (a b c d : Nat), Decidable (okN a b c d):=fun a b c d => Classical.choice ((Classical.em (okN a b c d)).elim (fun h => ⟨.isTrue h⟩) (fun h => ⟨.isFalse h⟩))
 have di2 : ∀ (x : T4), Decidable (OkT x):=fun x => Classical.choice ((Classical.em (OkT x)).elim (fun h => ⟨.isTrue h⟩) (fun h => ⟨.isFalse h⟩))
 have di3 : ∀ (last : Int) (s : St), Decidable (GoodSt last s):=fun last s => Classical.choice ((Classical.em (GoodSt last s)).elim (fun h => ⟨.isTrue h⟩) (fun h => ⟨.isFalse h⟩))
 have di4 : ∀ (n f : Int), Decidable (COk n f):=fun n f => Classical.choice ((Classical.em (COk n f)).elim (fun h => ⟨.isTrue h⟩) (fun h => ⟨.isFalse h⟩))
 have di5 : ∀ (n : Int) (s : List Int), Decidable (OkL n s):=fun n s => Classical.choice ((Classical.em (OkL n s)).elim (fun h => ⟨.isTrue h⟩) (fun h => ⟨.isFalse h⟩))
 refine returnsInHanded_of_change (C := Try.checked) own started (by kernel_rfl) Try.func4
  (ChangeSpec.witness6 (enc := enc) (C := Try.checked) false ⟨#[], #[.slice none 0 0], []⟩ 8 (by kernel_rfl) (by kernel_rfl) (by kernel_rfl) (by kernel_rfl)) ?_
 intro W base args ds gs before hval0 hW hcnd _
 have hval : ∀ (j : Nat) t v, Try.f4.params[j]? = some t → args[j]? = some v → Value.okWide Try.prog W .any base t v:=hval0
 have hW':=hW
 obtain ⟨p, q, hA0, hV, rfl, hfz, hnd⟩:=hW
 have hA : DataW.TrodAll enc Try.prog W 0 (fun _ => true) true Try.f4.params.toList args.toList ds p:=hA0
 rw [Try.params4] at hA hval
 obtain ⟨v0, vs0, d0, ds0, p0, q0, hargs, rfl, rfl, h0, r0⟩:=trodAll_cons hA
 obtain ⟨rfl, rfl, rfl⟩:=trodAll_nil r0
 obtain rfl : args = #[v0]:=by cases args; simp_all
 obtain ⟨rfl, rfl⟩:=trodVars_none hV
 have k0:=h0
 have lt0 : ∀ x ∈ p0, x.block < W.heap.size:=by obtain ⟨m, hm⟩:=k0; exact DataW.trod_lt m _ _ _ hm
 obtain ⟨ab0, cp0, bs0, rfl, hn0, hb0, hz0⟩:=open_code (hval 0 30 v0 rfl rfl) h0
 clear hA0 hval0
 refine (fnDropsBelow_walk ab0 cp0 bs0 W hn0 hb0 hz0).mono fun e W' ⟨he, bel⟩ => ?_
 subst he
 exact ⟨_, rfl, _, _, _, [], _, [], hW', trodAll_mk1 (shut_bool Try.underlying4 _), (trodAll_cons_mk (Below.trod laidOut (by kernel_rfl) (of_decide_eq_true (by kernel_rfl)) k0 bel lt0) trodAll_mk0), rfl, bel.frame _, fun h => by cases h⟩

theorem over : Rows.fnDropsBelowRow.holds Try.pinned (OpenSpec.ofChange Rows.fnDropsBelowSpec) :=
 OpenClaim.holds_of_wide 4 Try.f4 rfl rfl rfl rfl rfl rfl rfl ⟨rfl, rfl, rfl, rfl, rfl⟩ rfl rfl rfl rfl rfl (by kernel_rfl) Try.func4 (by kernel_rfl)
  (of_decide_eq_true (by kernel_rfl)) (by unfold Func.isWrapper; first | (rw [if_pos (by decide +kernel)]; kernel_rfl) | (rw [if_neg (by decide +kernel)]; exact ⟨rfl, rfl⟩))
  (fun os started H enc _ => lifted os started H enc)
end Go.Proofs.Ytjkcphnohhpihaa.fnDropsBelow
namespace Go.Proofs.Ytjkcphnohhpihaa
theorem fnDropsBelow_holds : Rows.FnDropsBelowSaid := fnDropsBelow.over
#print axioms fnDropsBelow_holds
end Go.Proofs.Ytjkcphnohhpihaa
