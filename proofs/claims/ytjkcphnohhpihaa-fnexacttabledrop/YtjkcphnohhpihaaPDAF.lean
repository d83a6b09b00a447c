/- For every table of parts and every view laws.FnExactTableDrop returns true and leaves what was in memory as it was: impl.TableDrop answers what spec.TableDrop answers, and writes into no argument, where the table's parts, texts and numbers are together at most 1048576 (the law answers true of longer ones by itself). Conditions: none. -/
import Derived.Test.YtjkcphnohhpihaaPDAE
set_option linter.unusedVariables false
namespace Go.Proofs.Ytjkcphnohhpihaa.fnExactTableDrop
open Go.ChangeShapes Go.WideShapes Go.ChangeAt Go.RowKit
open Go.Joins
set_option maxRecDepth 100000 in
theorem lifted (os : Os) (started : os.Started) (H : Type) (enc : TypeId × Value → H) :
 ReturnsInHanded {} Try.checked os 3 .any (Rows.fnExactTableDropSpec.pre6 enc Try.prog Try.f3 Rows.fnExactTableDropRow.domain false) (Rows.fnExactTableDropSpec.post enc Try.prog Try.f3 false true false false) := by
 have di0 : ∀ (a b c d : Int), Decidable (Ok4 a b c d):=fun a b c d => Classical.choice ((Classical.em (Ok4 a b c d)).elim (fun h => ⟨.isTrue h⟩) (fun h => ⟨.isFalse h⟩))
 have di1 : ∀ (n f : Int), Decidable (COk n f):=fun n f => Classical.choice ((Classical.em (COk n f)).elim (fun h => ⟨.isTrue h⟩) (fun h => ⟨.isFalse h⟩))
 refine returnsInHanded_of_change (C := Try.checked) own started (by kernel_rfl) Try.func3
  (ChangeSpec.witness6 (enc := enc) (C := Try.checked) false ⟨#[], #[.slice none 0 0,.int .i64 0], []⟩ 8 (by kernel_rfl) (by kernel_rfl) (by kernel_rfl) (by kernel_rfl)) ?_
 intro W base args ds gs before hval0 hW hcnd _
 have hval : ∀ (j : Nat) t v, Try.f3.params[j]? = some t → args[j]? = some v → Value.okWide Try.prog W .any base t v:=hval0
 have hW':=hW
 obtain ⟨p, q, hA0, hV, rfl, hfz, hnd⟩:=hW
 have hA : DataW.TrodAll enc Try.prog W 0 (fun _ => true) true Try.f3.params.toList args.toList ds p:=hA0
 rw [Try.params3] at hA hval
 obtain ⟨v0, vs0, d0, ds0, p0, q0, hargs, rfl, rfl, h0, r0⟩:=trodAll_cons hA
 obtain ⟨v1, vs1, d1, ds1, p1, q1, rfl, rfl, rfl, h1, r1⟩:=trodAll_cons r0
 obtain ⟨rfl, rfl, rfl⟩:=trodAll_nil r1
 obtain rfl : args = #[v0, v1]:=by cases args; simp_all
 obtain ⟨rfl, rfl⟩:=trodVars_none hV
 have k0:=h0
 have lt0 : ∀ x ∈ p0, x.block < W.heap.size:=by obtain ⟨m, hm⟩:=k0; exact DataW.trod_lt m _ _ _ hm
 obtain ⟨al0, cl0, rs0, rfl, hn0, hr0, he0⟩:=open_parts (hval 0 22 v0 rfl rfl) h0
 have k1:=h1
 have lt1 : ∀ x ∈ p1, x.block < W.heap.size:=by obtain ⟨m, hm⟩:=k1; exact DataW.trod_lt m _ _ _ hm
 obtain ⟨n1, rfl, rfl, rfl, wn1⟩:=open_int Try.underlying3 (hval 1 3 v1 rfl rfl) h1
 clear hA0 hval0
 refine (fnTableDrop_walk al0 cl0 rs0 n1 W hn0 hr0 he0).mono fun e W' ⟨he, bel⟩ => ?_
 subst he
 exact ⟨_, rfl, _, _, _, [], _, [], hW', trodAll_mk1 (shut_bool Try.underlying4 _), (trodAll_cons_mk (Below.trod laidOut (by kernel_rfl) (of_decide_eq_true (by kernel_rfl)) k0 bel lt0) (trodAll_cons_mk (shut_int Try.underlying3 wn1) trodAll_mk0)), rfl, bel.frame _, fun h => by cases h⟩

theorem over : Rows.fnExactTableDropRow.holds Try.pinned (OpenSpec.ofChange Rows.fnExactTableDropSpec) :=
 OpenClaim.holds_of_wide 3 Try.f3 rfl rfl rfl rfl rfl rfl rfl ⟨rfl, rfl, rfl, rfl, rfl⟩ rfl rfl rfl rfl rfl (by kernel_rfl) Try.func3 (by kernel_rfl)
  (of_decide_eq_true (by kernel_rfl)) (by unfold Func.isWrapper; first | (rw [if_pos (by decide +kernel)]; kernel_rfl) | (rw [if_neg (by decide +kernel)]; exact ⟨rfl, rfl⟩))
  (fun os started H enc _ => lifted os started H enc)
end Go.Proofs.Ytjkcphnohhpihaa.fnExactTableDrop
namespace Go.Proofs.Ytjkcphnohhpihaa
theorem fnExactTableDrop_holds : Rows.FnExactTableDropSaid := fnExactTableDrop.over
#print axioms fnExactTableDrop_holds
end Go.Proofs.Ytjkcphnohhpihaa
