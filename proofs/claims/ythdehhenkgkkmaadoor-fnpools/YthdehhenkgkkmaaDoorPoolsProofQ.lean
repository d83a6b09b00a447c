/- FnPools: for every code the law answers true and leaves its argument as it was. Conditions: the tables of the library (strconv, math/bits) read as its text lays them (the card ties them to that text). -/
import Derived.Test.YthdehhenkgkkmaaDoorPoolsWalkQ
import Derived.Test.YthdehhenkgkkmaaDoorBunK
import Derived.ProofKit
import Derived.LaidMore
import Derived.OpenShut
import Derived.ShutString
import Derived.ChangeOld
import Derived.Below
import Derived.Stop.Joined
import Derived.Stop.LaidErr
import Derived.Test.YthdehhenkgkkmaaDoorCards
import Derived.Test.YthdehhenkgkkmaaDoorTie
/- FnPools: for every code the law answers true and leaves its argument as it was. Conditions: the tables of the library (strconv, math/bits) read as its text lays them (the card ties them to that text). -/
namespace Go.Proofs.YthdehhenkgkkmaaDoor.fnPools
open Go.ChangeShapes Go.WideShapes Go.ChangeAt Go.RowKit
set_option linter.unusedVariables false

theorem gPowType : (Tryd.prog.globals[0]?).map (·.type) = some 114 := by kernel_rfl
theorem cellsTab : Tryd.prog.cellsOf 114 = 20 := by kernel_rfl
theorem cells64 : Tryd.prog.cellsOf 107 = 1 := by kernel_rfl

/-- The door's own heap meets the condition. -/
theorem door_met (os : Os) (args : Array Value) : laidMetH Tryd.prog Rows.fnPoolsRow.laid ((World.doorLaid Tryd.prog 400 os).forCall (fun _ _ => 0) ⟨#[], args, []⟩).memory :=
  laidMetH_of_parts3 (fuel := 8) (laidMet_of_run' 8 (by kernel_rfl) (by kernel_rfl)) (by kernel_rfl) (by kernel_rfl)

set_option maxRecDepth 100000 in
theorem lifted (os : Os) (started : os.Started) (H : Type) (enc : TypeId × Value → H) :
    ReturnsInHanded {} Tryd.checked os 3 .any (fun w args => (Rows.fnPoolsSpec.pre enc Tryd.prog Tryd.f3 [] false w args ∧ laidMetH Tryd.prog Rows.fnPoolsRow.laid w) ∧ sizedMet enc Tryd.prog Tryd.f3 (OpenSpec.ofChange Rows.fnPoolsSpec) false w args)
      (Rows.fnPoolsSpec.post enc Tryd.prog Tryd.f3 false true false false) := by
  have di0 : ∀ (a b c d : Int), Decidable (Ok4 a b c d) := fun a b c d => Classical.choice ((Classical.em (Ok4 a b c d)).elim (fun h => ⟨.isTrue h⟩) (fun h => ⟨.isFalse h⟩))
  have di1 : ∀ (m a b c d : Int), Decidable (In4 m a b c d) := fun m a b c d => Classical.choice ((Classical.em (In4 m a b c d)).elim (fun h => ⟨.isTrue h⟩) (fun h => ⟨.isFalse h⟩))
  have di2 : ∀ (xs ys : List Int), Decidable (LOk xs ys) := fun xs ys => Classical.choice ((Classical.em (LOk xs ys)).elim (fun h => ⟨.isTrue h⟩) (fun h => ⟨.isFalse h⟩))
  have di3 : ∀ (x y : T4), Decidable (Bef x y) := fun x y => Classical.choice ((Classical.em (Bef x y)).elim (fun h => ⟨.isTrue h⟩) (fun h => ⟨.isFalse h⟩))
  have di4 : ∀ (ts : List T4), Decidable (Asc ts) := fun ts => Classical.choice ((Classical.em (Asc ts)).elim (fun h => ⟨.isTrue h⟩) (fun h => ⟨.isFalse h⟩))
  have di5 : ∀ (ts : List T4), Decidable (AllOk ts) := fun ts => Classical.choice ((Classical.em (AllOk ts)).elim (fun h => ⟨.isTrue h⟩) (fun h => ⟨.isFalse h⟩))
  have di6 : ∀ (ts : List T4), Decidable (POk ts) := fun ts => Classical.choice ((Classical.em (POk ts)).elim (fun h => ⟨.isTrue h⟩) (fun h => ⟨.isFalse h⟩))
  have di7 : ∀ (r : List Int × List Int × Int), Decidable (Took r) := fun r => Classical.choice ((Classical.em (Took r)).elim (fun h => ⟨.isTrue h⟩) (fun h => ⟨.isFalse h⟩))
  have di8 : ∀ (xs ys : List Int) (x : T4), Decidable (Stays xs ys x) := fun xs ys x => Classical.choice ((Classical.em (Stays xs ys x)).elim (fun h => ⟨.isTrue h⟩) (fun h => ⟨.isFalse h⟩))
  have di9 : ∀ (x : T4), Decidable (OkT x) := fun x => Classical.choice ((Classical.em (OkT x)).elim (fun h => ⟨.isTrue h⟩) (fun h => ⟨.isFalse h⟩))
  refine returnsInHanded_of_change_and (C := Tryd.checked) (X := fun w _ => laidMetH Tryd.prog Rows.fnPoolsRow.laid w) (fun _ _ _ hh h => h.of_heap hh) own started (by kernel_rfl) Tryd.func3
    (ChangeSpec.witness_shaped (enc := enc) (C := Tryd.checked) (os := os) (X := fun w _ => laidMetH Tryd.prog Rows.fnPoolsRow.laid w) false (World.doorLaid Tryd.prog 400 os) #[.slice none 0 0] 8 rfl (World.shaped_of_RefB (by kernel_rfl) (by kernel_rfl)) (by kernel_rfl) (by kernel_rfl) (by kernel_rfl) (door_met os _)) ?_
  intro W base args ds gs before hval0 hW _ _ hL _
  have hval : ∀ (j : Nat) t v, Tryd.f3.params[j]? = some t → args[j]? = some v → Value.okWide Tryd.prog W .any base t v := hval0
  have hW' := hW
  obtain ⟨p, q, hA0, hV, rfl, hfz, hnd⟩ := hW
  have hA : DataW.TrodAll enc Tryd.prog W 0 (fun _ => true) true Tryd.f3.params.toList args.toList ds p := hA0
  rw [Tryd.params3] at hA hval
  obtain ⟨v0, d0, rfl, rfl, h0⟩ := trodAll_one hA
  obtain ⟨rfl, rfl⟩ := trodVars_none hV
  rw [MakeChecks.laidMetH_plain _ _ _ (by kernel_rfl)] at hL
  have htab : Pow W := Lib.tabIs_of_head gPow gPowType Tryd.underlying114 Tryd.underlying107 cells64 cellsTab (laidMet.tail (laidMet.tail hL))
  have k0 := h0
  have lt0 : ∀ x ∈ p, x.block < W.heap.size := by obtain ⟨m, hm⟩ := k0; exact DataW.trod_lt m _ _ _ hm
  obtain ⟨ab, cp, bs, rfl, hn, hb, hz⟩ := open_code (hval 0 22 v0 rfl rfl) h0
  clear hA0 hval0
  refine (fnPools_walk ab cp bs W hn hb hz htab).mono fun e W' ⟨he, bel⟩ => ?_
  subst he
  exact ⟨_, rfl, _, _, _, [], _, [], hW', trodAll_mk1 (shut_bool Tryd.underlying4 _), trodAll_mk1 (Below.trod laidOut (by kernel_rfl) (of_decide_eq_true (by kernel_rfl)) k0 bel lt0), rfl, bel.frame _, fun h => by cases h⟩

theorem said : Rows.FnPoolsSaid :=
  OpenClaim.holds_of_wide 3 Tryd.f3 rfl rfl rfl rfl rfl rfl rfl ⟨rfl, rfl, rfl, rfl, rfl⟩ rfl rfl rfl rfl rfl (by kernel_rfl) Tryd.func3 (by kernel_rfl)
    (of_decide_eq_true (by kernel_rfl)) (by unfold Func.isWrapper; first | (rw [if_pos (by decide +kernel)]; kernel_rfl) | (rw [if_neg (by decide +kernel)]; exact ⟨rfl, rfl⟩))
    (fun os started H enc _ => lifted os started H enc)
end Go.Proofs.YthdehhenkgkkmaaDoor.fnPools
namespace Go.Proofs.YthdehhenkgkkmaaDoor
/-- THE CARD. -/
theorem fnPools_holds : Rows.FnPoolsCardSaid :=
  Claim7.holds_tied_plain_at .later [] _ _ _ _ fnPools.said (fun _ h => by cases h) (by kernel_rfl) (fun _ h => by cases h) fnPools_row_tie rfl ⟨rfl, rfl⟩ (by kernel_rfl) rfl
    (fun f fn hf hfn => by
      obtain rfl : f = 3 := Option.some.inj ((show Tryd.prog.funcNamed "loop.example/g00448/laws.FnPools" = some 3 by kernel_rfl).symm.trans hf) |>.symm
      obtain rfl : fn = Tryd.f3 := (Option.some.inj (Tryd.func3.symm.trans hfn)).symm
      exact ⟨by kernel_rfl, fun j t ht => by
        rw [Tryd.params3] at ht
        have hm : t ∈ [22] := by simpa using Array.mem_of_getElem? ht
        have hall : ([22].all fun u => !Tryd.prog.wantsStandIn u) = true := by kernel_rfl
        exact (show Tryd.prog.wantsStandIn t = false by simpa using List.all_eq_true.1 hall t hm)⟩)
    (by kernel_rfl)
#print axioms fnPools_holds
end Go.Proofs.YthdehhenkgkkmaaDoor
