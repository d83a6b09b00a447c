/- For every two parts laws.FnExactPartJoin returns true and leaves what was in memory as it was: impl.PartJoin answers what spec.PartJoin answers, field by field, its answer owns its memory, behind another call too, and it writes into no argument, where the names and the lists of voters of both hold together at most 1048576 bytes and numbers (the law answers true of longer ones by itself). Conditions: the package variable errApart holds what the text lays (the card ties it to that text). -/
import Derived.Test.YtehdchpolgihlaaDoorPjAD
import Derived.Test.YtehdchpolgihlaaDoorPjAJ
import Derived.Test.YtehdchpolgihlaaDoorCards
import Derived.Test.YtehdchpolgihlaaDoorTie
/- For every two parts laws.FnExactPartJoin returns true and leaves what was in memory as it was: impl.PartJoin answers what spec.PartJoin answers, field by field, its answer owns its memory, behind another call too, and it writes into no argument, where the names and the lists of voters of both hold together at most 1048576 bytes and numbers (the law answers true of longer ones by itself). Conditions: the package variable errApart holds what the text lays (the card ties it to that text). -/
namespace Go.Proofs.YtehdchpolgihlaaDoor.fnExactPartJoin
open Go.ChangeShapes Go.WideShapes Go.ChangeAt Go.RowKit
open Go.ChangeMaps (open_string shut_string)
set_option linter.unusedVariables false

theorem gA : Tryd.prog.globalNamed "loop.example/g00448/impl.errApart" = some 0 := by kernel_rfl
theorem gAType : (Tryd.prog.globals[0]?).map (·.type) = some 50 := by kernel_rfl
/-- The door's own heap meets the condition. -/
theorem door_met (os : Os) (args : Array Value) : laidMetH Tryd.prog Rows.fnExactPartJoinRow.laid ((World.doorLaid Tryd.prog 400 os).forCall (fun _ _ => 0) ⟨#[], args, []⟩).memory :=
  laidMetH_of_parts3 (fuel := 8) (laidMet_of_run' 8 (by kernel_rfl) (by kernel_rfl)) (by kernel_rfl) (by kernel_rfl)

set_option maxRecDepth 100000 in
theorem lifted (os : Os) (started : os.Started) (H : Type) (enc : TypeId × Value → H) :
    ReturnsInHanded {} Tryd.checked os 4 .any (fun w args => (Rows.fnExactPartJoinSpec.pre enc Tryd.prog Tryd.f4 [] false w args ∧ laidMetH Tryd.prog Rows.fnExactPartJoinRow.laid w) ∧ sizedMet enc Tryd.prog Tryd.f4 (OpenSpec.ofChange Rows.fnExactPartJoinSpec) false w args)
      (Rows.fnExactPartJoinSpec.post enc Tryd.prog Tryd.f4 false true false false) := by
  have di0 : ∀ (a b c d : Int), Decidable (Ok4 a b c d) := fun a b c d => Classical.choice ((Classical.em (Ok4 a b c d)).elim (fun h => ⟨.isTrue h⟩) (fun h => ⟨.isFalse h⟩))
  have di1 : ∀ (n f : Int), Decidable (COk n f) := fun n f => Classical.choice ((Classical.em (COk n f)).elim (fun h => ⟨.isTrue h⟩) (fun h => ⟨.isFalse h⟩))
  have di2 : ∀ (n : Int) (s : List Int), Decidable (OkL n s) := fun n s => Classical.choice ((Classical.em (OkL n s)).elim (fun h => ⟨.isTrue h⟩) (fun h => ⟨.isFalse h⟩))
  refine returnsInHanded_of_change_and (C := Tryd.checked) (X := fun w _ => laidMetH Tryd.prog Rows.fnExactPartJoinRow.laid w) (fun _ _ _ hh h => h.of_heap hh) own started (by kernel_rfl) Tryd.func4
    (ChangeSpec.witness_shaped (enc := enc) (C := Tryd.checked) (os := os) (X := fun w _ => laidMetH Tryd.prog Rows.fnExactPartJoinRow.laid w) false (World.doorLaid Tryd.prog 400 os) #[qv 0 ⟨#[]⟩ (.slice none 0 0), qv 0 ⟨#[]⟩ (.slice none 0 0)] 8 rfl (World.shaped_of_RefB (by kernel_rfl) (by kernel_rfl)) (by kernel_rfl) (by kernel_rfl) (by kernel_rfl) (door_met os _)) ?_
  intro W base args ds gs before hval0 hW _ _ hL _
  have hval : ∀ (j : Nat) t v, Tryd.f4.params[j]? = some t → args[j]? = some v → Value.okWide Tryd.prog W .any base t v := hval0
  have hW' := hW
  obtain ⟨p, q, hA0, hV0, rfl, hfz, hnd⟩ := hW
  have hA : DataW.TrodAll enc Tryd.prog W 0 (fun _ => true) true Tryd.f4.params.toList args.toList ds p := hA0
  have hV : DataW.TrodVars enc Tryd.prog W (fun _ => true) ["loop.example/g00448/impl.errApart"] gs q := hV0
  rw [Tryd.params4] at hA hval
  obtain ⟨v0, vs0, d0, ds0, p0, q0, hargs, rfl, rfl, h0, r0⟩ := trodAll_cons hA
  obtain ⟨v1, vs1, d1, ds1, p1, q1, rfl, rfl, rfl, h1, r1⟩ := trodAll_cons r0
  obtain ⟨rfl, rfl, rfl⟩ := trodAll_nil r1
  obtain rfl : args = #[v0, v1] := by cases args; simp_all
  rw [MakeChecks.laidMetH_plain _ _ _ (by kernel_rfl)] at hL
  obtain ⟨aa, sa, hva, hca, hsa, hza⟩ := laid_sentinel hL gA gAType Tryd.underlying50 rowES Tryd.underlying169 Tryd.underlying171 rfl rfl Tryd.underlying9 cellsES cellsS
  obtain ⟨rfl, rfl⟩ := hV.unique (vars_read1 enc gA gAType Tryd.underlying50 hva trivial _)
  have hG : Gv W aa := by unfold Gv; simpa using World.var?_cell gA hva 0
  have k0 := h0
  have lt0 : ∀ x ∈ p0, x.block < W.heap.size := by obtain ⟨m, hm⟩ := k0; exact DataW.trod_lt m _ _ _ hm
  obtain ⟨n0, s0, ao0, ca0, xs0, rfl, hs0, hn0, hr0, wf0⟩ := open_part (hval 0 26 v0 rfl rfl) h0
  have k1 := h1
  have lt1 : ∀ x ∈ p1, x.block < W.heap.size := by obtain ⟨m, hm⟩ := k1; exact DataW.trod_lt m _ _ _ hm
  obtain ⟨n1, s1, ao1, ca1, xs1, rfl, hs1, hn1, hr1, wf1⟩ := open_part (hval 1 26 v1 rfl rfl) h1
  clear hA0 hV0 hval0
  refine (fnPartJoin_walk n0 n1 s0 s1 ao0 ao1 ca0 ca1 xs0 xs1 aa W hs0 hn0 hr0 wf0 hs1 hn1 hr1 wf1 hG).mono fun e W' ⟨he, bel⟩ => ?_
  subst he
  have hva1 : W'.var? Tryd.prog "loop.example/g00448/impl.errApart" = some #[.iface 169 (.pointer (some aa))] := var?_below bel gA (cell_lt hG) hva
  exact ⟨_, rfl, _, _, _, [], _, [.cell 0 0], hW', trodAll_mk1 (shut_bool Tryd.underlying4 _), (trodAll_cons_mk (Below.trod laidOut (by kernel_rfl) (of_decide_eq_true (by kernel_rfl)) k0 bel lt0) (trodAll_cons_mk (Below.trod laidOut (by kernel_rfl) (of_decide_eq_true (by kernel_rfl)) k1 bel lt1) trodAll_mk0)), vars_read1 enc gA gAType Tryd.underlying50 hva1 trivial _, bel.frame _, fun h => by cases h⟩

theorem said : Rows.FnExactPartJoinSaid :=
  OpenClaim.holds_of_wide 4 Tryd.f4 rfl rfl rfl rfl rfl rfl rfl ⟨rfl, rfl, rfl, rfl, rfl⟩ rfl rfl rfl rfl rfl (by kernel_rfl) Tryd.func4 (by kernel_rfl)
    (of_decide_eq_true (by kernel_rfl)) (by unfold Func.isWrapper; first | (rw [if_pos (by decide +kernel)]; kernel_rfl) | (rw [if_neg (by decide +kernel)]; exact ⟨rfl, rfl⟩))
    (fun os started H enc _ => lifted os started H enc)
end Go.Proofs.YtehdchpolgihlaaDoor.fnExactPartJoin
namespace Go.Proofs.YtehdchpolgihlaaDoor
/-- THE CARD. -/
theorem fnExactPartJoin_holds : Rows.FnExactPartJoinCardSaid :=
  Claim7.holds_tied_plain_at .later [] _ _ _ _ fnExactPartJoin.said (fun _ h => by cases h) (by kernel_rfl) (fun _ h => by cases h) fnExactPartJoin_row_tie rfl ⟨rfl, rfl⟩ (by kernel_rfl) rfl
    (fun f fn hf hfn => by
      obtain rfl : f = 4 := Option.some.inj ((show Tryd.prog.funcNamed "loop.example/g00448/laws.FnExactPartJoin" = some 4 by kernel_rfl).symm.trans hf) |>.symm
      obtain rfl : fn = Tryd.f4 := (Option.some.inj (Tryd.func4.symm.trans hfn)).symm
      exact ⟨by kernel_rfl, fun j t ht => by
        rw [Tryd.params4] at ht
        have hm : t ∈ [26, 26] := by simpa using Array.mem_of_getElem? ht
        have hall : ([26, 26].all fun u => !Tryd.prog.wantsStandIn u) = true := by kernel_rfl
        exact (show Tryd.prog.wantsStandIn t = false by simpa using List.all_eq_true.1 hall t hm)⟩)
    (by kernel_rfl)
#print axioms fnExactPartJoin_holds
end Go.Proofs.YtehdchpolgihlaaDoor
