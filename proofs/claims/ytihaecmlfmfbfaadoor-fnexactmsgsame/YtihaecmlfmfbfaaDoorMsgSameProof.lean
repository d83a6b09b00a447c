/- For every two messages laws.FnExactMsgSame returns true and leaves what was in memory as it was: impl.MsgSame answers what spec.MsgSame answers, and writes into no argument, where the names and the lists of voters of both hold together at most 1048576 bytes and numbers (the law answers true of longer ones by itself). Conditions: the library's tables read as its text lays them (the card ties them to that text). -/
import Derived.Test.YtihaecmlfmfbfaaDoorMsgSameWalk
import Derived.Test.YtihaecmlfmfbfaaDoorMsgOpen
import Derived.ProofKit
import Derived.LaidMore
import Derived.OpenShut
import Derived.ShutString
import Derived.ChangeOld
import Derived.Below
import Derived.Stop.Joined
import Derived.Stop.LaidErr
import Derived.Test.YtihaecmlfmfbfaaDoorCards
import Derived.Test.YtihaecmlfmfbfaaDoorTie
namespace Go.Proofs.YtihaecmlfmfbfaaDoor.fnExactMsgSame
open Go.ChangeShapes Go.WideShapes Go.ChangeAt Go.RowKit
set_option linter.unusedVariables false

theorem gPowType : (Tryd.prog.globals[0]?).map (·.type) = some 89 := by kernel_rfl
theorem cellsTab : Tryd.prog.cellsOf 89 = 20 := by kernel_rfl
theorem cells64 : Tryd.prog.cellsOf 79 = 1 := by kernel_rfl

/-- The door's own heap meets the condition. -/
theorem door_met (os : Os) (args : Array Value) : laidMetH Tryd.prog Rows.fnExactMsgSameRow.laid ((World.doorLaid Tryd.prog 400 os).forCall (fun _ _ => 0) ⟨#[], args, []⟩).memory :=
  laidMetH_of_parts3 (fuel := 8) (laidMet_of_run' 8 (by kernel_rfl) (by kernel_rfl)) (by kernel_rfl) (by kernel_rfl)

set_option maxRecDepth 100000 in
theorem lifted (os : Os) (started : os.Started) (H : Type) (enc : TypeId × Value → H) :
    ReturnsInHanded {} Tryd.checked os 3 .any (fun w args => (Rows.fnExactMsgSameSpec.pre enc Tryd.prog Tryd.f3 [] false w args ∧ laidMetH Tryd.prog Rows.fnExactMsgSameRow.laid w) ∧ sizedMet enc Tryd.prog Tryd.f3 (OpenSpec.ofChange Rows.fnExactMsgSameSpec) false w args)
      (Rows.fnExactMsgSameSpec.post enc Tryd.prog Tryd.f3 false true false false) := by
  have di0 : ∀ (a b c d : Int), Decidable (Ok4 a b c d) := fun a b c d => Classical.choice ((Classical.em (Ok4 a b c d)).elim (fun h => ⟨.isTrue h⟩) (fun h => ⟨.isFalse h⟩))
  have di1 : ∀ (n f : Int), Decidable (COk n f) := fun n f => Classical.choice ((Classical.em (COk n f)).elim (fun h => ⟨.isTrue h⟩) (fun h => ⟨.isFalse h⟩))
  refine returnsInHanded_of_change_and (C := Tryd.checked) (X := fun w _ => laidMetH Tryd.prog Rows.fnExactMsgSameRow.laid w) (fun _ _ _ hh h => h.of_heap hh) own started (by kernel_rfl) Tryd.func3
    (ChangeSpec.witness_shaped (enc := enc) (C := Tryd.checked) (os := os) (X := fun w _ => laidMetH Tryd.prog Rows.fnExactMsgSameRow.laid w) false (World.doorLaid Tryd.prog 400 os) #[mgv ⟨0, 0, ⟨#[]⟩, 0, ⟨#[]⟩, [], 0, ⟨#[]⟩, [], 0, ⟨#[]⟩, [], 0, 0, 0, 0, 0⟩ (.slice none 0 0) (.slice none 0 0) (.slice none 0 0), mgv ⟨0, 0, ⟨#[]⟩, 0, ⟨#[]⟩, [], 0, ⟨#[]⟩, [], 0, ⟨#[]⟩, [], 0, 0, 0, 0, 0⟩ (.slice none 0 0) (.slice none 0 0) (.slice none 0 0)] 8 rfl (World.shaped_of_RefB (by kernel_rfl) (by kernel_rfl)) (by kernel_rfl) (by kernel_rfl) (by kernel_rfl) (door_met os _)) ?_
  intro W base args ds gs before hval0 hW _ _ hL _
  have hval : ∀ (j : Nat) t v, Tryd.f3.params[j]? = some t → args[j]? = some v → Value.okWide Tryd.prog W .any base t v := hval0
  have hW' := hW
  obtain ⟨p, q, hA0, hV, rfl, hfz, hnd⟩ := hW
  have hA : DataW.TrodAll enc Tryd.prog W 0 (fun _ => true) true Tryd.f3.params.toList args.toList ds p := hA0
  rw [Tryd.params3] at hA hval
  obtain ⟨v0, vs0, d0, ds0, p0, q0, hargs, rfl, rfl, h0, r0⟩ := trodAll_cons hA
  obtain ⟨v1, vs1, d1, ds1, p1, q1, rfl, rfl, rfl, h1, r1⟩ := trodAll_cons r0
  obtain ⟨rfl, rfl, rfl⟩ := trodAll_nil r1
  obtain rfl : args = #[v0, v1] := by cases args; simp_all
  obtain ⟨rfl, rfl⟩ := trodVars_none hV
  rw [MakeChecks.laidMetH_plain _ _ _ (by kernel_rfl)] at hL
  have htab : Pow W := Lib.tabIs_of_head gPow gPowType Tryd.underlying89 Tryd.underlying79 cells64 cellsTab (laidMet.tail (laidMet.tail hL))
  have k0 := h0
  have lt0 : ∀ x ∈ p0, x.block < W.heap.size := by obtain ⟨m, hm⟩ := k0; exact DataW.trod_lt m _ _ _ hm
  obtain ⟨t0, ao0, bo0, co0, ca0, cb0, cc0, rfl, hm0, ha0, _, hi0⟩ := open_msg (hval 0 31 v0 rfl rfl) h0
  have k1 := h1
  have lt1 : ∀ x ∈ p1, x.block < W.heap.size := by obtain ⟨m, hm⟩ := k1; exact DataW.trod_lt m _ _ _ hm
  obtain ⟨t1, ao1, bo1, co1, ca1, cb1, cc1, rfl, hm1, ha1, _, hi1⟩ := open_msg (hval 1 31 v1 rfl rfl) h1
  clear hA0 hval0
  refine (fnMsgSame_walk t0 t1 ao0 bo0 co0 ao1 bo1 co1 ca0 cb0 cc0 ca1 cb1 cc1 W hm0 hm1 hi0 hi1 htab ha0 ha1).mono fun e W' ⟨he, bel⟩ => ?_
  subst he
  exact ⟨_, rfl, _, _, _, [], _, [], hW', trodAll_mk1 (shut_bool Tryd.underlying4 _), (trodAll_cons_mk (Below.trod laidOut (by kernel_rfl) (of_decide_eq_true (by kernel_rfl)) k0 bel lt0) (trodAll_cons_mk (Below.trod laidOut (by kernel_rfl) (of_decide_eq_true (by kernel_rfl)) k1 bel lt1) trodAll_mk0)), rfl, bel.frame _, fun h => by cases h⟩

theorem said : Rows.FnExactMsgSameSaid :=
  OpenClaim.holds_of_wide 3 Tryd.f3 rfl rfl rfl rfl rfl rfl rfl ⟨rfl, rfl, rfl, rfl, rfl⟩ rfl rfl rfl rfl rfl (by kernel_rfl) Tryd.func3 (by kernel_rfl)
    (of_decide_eq_true (by kernel_rfl)) (by unfold Func.isWrapper; first | (rw [if_pos (by decide +kernel)]; kernel_rfl) | (rw [if_neg (by decide +kernel)]; exact ⟨rfl, rfl⟩))
    (fun os started H enc _ => lifted os started H enc)
end Go.Proofs.YtihaecmlfmfbfaaDoor.fnExactMsgSame
namespace Go.Proofs.YtihaecmlfmfbfaaDoor
/-- THE CARD. -/
theorem fnExactMsgSame_holds : Rows.FnExactMsgSameCardSaid :=
  Claim7.holds_tied_plain_at .later [] _ _ _ _ fnExactMsgSame.said (fun _ h => by cases h) (by kernel_rfl) (fun _ h => by cases h) fnExactMsgSame_row_tie rfl ⟨rfl, rfl⟩ (by kernel_rfl) rfl
    (fun f fn hf hfn => by
      obtain rfl : f = 3 := Option.some.inj ((show Tryd.prog.funcNamed "loop.example/g00448/laws.FnExactMsgSame" = some 3 by kernel_rfl).symm.trans hf) |>.symm
      obtain rfl : fn = Tryd.f3 := (Option.some.inj (Tryd.func3.symm.trans hfn)).symm
      exact ⟨by kernel_rfl, fun j t ht => by
        rw [Tryd.params3] at ht
        have hm : t ∈ [31, 31] := by simpa using Array.mem_of_getElem? ht
        have hall : ([31, 31].all fun u => !Tryd.prog.wantsStandIn u) = true := by kernel_rfl
        exact (show Tryd.prog.wantsStandIn t = false by simpa using List.all_eq_true.1 hall t hm)⟩)
    (by kernel_rfl)
#print axioms fnExactMsgSame_holds
end Go.Proofs.YtihaecmlfmfbfaaDoor
