/- For every text laws.FnExactSettles returns true: impl.Settles answers what spec.Settles answers, where the text has at most 1048576 bytes (the law answers true of longer ones by itself). Conditions: the package variable errNoNumber, the two errors and the tables of the library hold what the text lays (the card ties them to that text). -/
import Derived.Test.YtgfboghieejbkaaDoorZdAA
import Derived.Test.YtgfboghieejbkaaDoorZdAH
import Derived.Test.YtgfboghieejbkaaDoorZdAF
import Derived.WalkKit
import Derived.ProofKit
import Derived.OpenShut
import Derived.ShutString
import Derived.ChangeMaps5
import Derived.ChangeOld
import Derived.Below
import Derived.Lib.SmallJoins
import Derived.Test.YtgfboghieejbkaaDoorCards
import Derived.Test.YtgfboghieejbkaaDoorTie
/- For every text laws.FnExactSettles returns true: impl.Settles answers what spec.Settles answers, where the text has at most 1048576 bytes (the law answers true of longer ones by itself). Conditions: the package variable errNoNumber, the two errors and the tables of the library hold what the text lays (the card ties them to that text). -/
namespace Go.Proofs.YtgfboghieejbkaaDoor.fnExactSettles
open Go.ChangeShapes Go.WideShapes Go.ChangeAt Go.RowKit
open Go.ChangeMaps (open_string shut_string)
set_option linter.unusedVariables false

theorem gPowType : (Tryd.prog.globals[4]?).map (·.type) = some 104 := by kernel_rfl
theorem cellsTab : Tryd.prog.cellsOf 104 = 20 := by kernel_rfl
theorem cells64 : Tryd.prog.cellsOf 87 = 1 := by kernel_rfl
theorem gSyn : Tryd.prog.globalNamed "strconv.ErrSyntax" = some 2 := by kernel_rfl
theorem gSynType : (Tryd.prog.globals[2]?).map (·.type) = some 73 := by kernel_rfl
theorem gRan : Tryd.prog.globalNamed "strconv.ErrRange" = some 3 := by kernel_rfl
theorem gRanType : (Tryd.prog.globals[3]?).map (·.type) = some 73 := by kernel_rfl
/-- The door's own heap meets the condition. -/
theorem door_met (os : Os) (args : Array Value) : laidMetH Tryd.prog Rows.fnExactSettlesRow.laid ((World.doorLaid Tryd.prog 400 os).forCall (fun _ _ => 0) ⟨#[], args, []⟩).memory :=
  laidMetH_of_parts3 (fuel := 8) (laidMet_of_run' 8 (by kernel_rfl) (by kernel_rfl)) (by kernel_rfl) (by kernel_rfl)

set_option maxRecDepth 100000 in
theorem lifted (os : Os) (started : os.Started) (H : Type) (enc : TypeId × Value → H) :
    ReturnsInHanded {} Tryd.checked os 3 .any (fun w args => (Rows.fnExactSettlesSpec.pre enc Tryd.prog Tryd.f3 [] false w args ∧ laidMetH Tryd.prog Rows.fnExactSettlesRow.laid w) ∧ sizedMet enc Tryd.prog Tryd.f3 (OpenSpec.ofChange Rows.fnExactSettlesSpec) false w args)
      (Rows.fnExactSettlesSpec.post enc Tryd.prog Tryd.f3 false true false false) := by
  have di0 : ∀ (a b c d : Int), Decidable (Ok4 a b c d) := fun a b c d => Classical.choice ((Classical.em (Ok4 a b c d)).elim (fun h => ⟨.isTrue h⟩) (fun h => ⟨.isFalse h⟩))
  have di1 : ∀ (a b c d : Nat), Decidable (okN a b c d) := fun a b c d => Classical.choice ((Classical.em (okN a b c d)).elim (fun h => ⟨.isTrue h⟩) (fun h => ⟨.isFalse h⟩))
  have di2 : ∀ (last : Int) (s : St), Decidable (GoodSt last s) := fun last s => Classical.choice ((Classical.em (GoodSt last s)).elim (fun h => ⟨.isTrue h⟩) (fun h => ⟨.isFalse h⟩))
  have di3 : ∀ (x : T4), Decidable (OkT x) := fun x => Classical.choice ((Classical.em (OkT x)).elim (fun h => ⟨.isTrue h⟩) (fun h => ⟨.isFalse h⟩))
  have di4 : ∀ (n : Int) (s : List Int), Decidable (OkL n s) := fun n s => Classical.choice ((Classical.em (OkL n s)).elim (fun h => ⟨.isTrue h⟩) (fun h => ⟨.isFalse h⟩))
  have di5 : ∀ (n f : Int), Decidable (COk n f) := fun n f => Classical.choice ((Classical.em (COk n f)).elim (fun h => ⟨.isTrue h⟩) (fun h => ⟨.isFalse h⟩))
  refine returnsInHanded_of_change_and (C := Tryd.checked) (X := fun w _ => laidMetH Tryd.prog Rows.fnExactSettlesRow.laid w) (fun _ _ _ hh h => h.of_heap hh) own started (by kernel_rfl) Tryd.func3
    (ChangeSpec.witness_shaped (enc := enc) (C := Tryd.checked) (os := os) (X := fun w _ => laidMetH Tryd.prog Rows.fnExactSettlesRow.laid w) false (World.doorLaid Tryd.prog 400 os) #[.string ⟨#[]⟩] 8 rfl (World.shaped_of_RefB (by kernel_rfl) (by kernel_rfl)) (by kernel_rfl) (by kernel_rfl) (by kernel_rfl) (door_met os _)) ?_
  intro W base args ds gs before hval0 hW _ _ hL _
  have hval : ∀ (j : Nat) t v, Tryd.f3.params[j]? = some t → args[j]? = some v → Value.okWide Tryd.prog W .any base t v := hval0
  have hW' := hW
  obtain ⟨p, q, hA0, hV0, rfl, hfz, hnd⟩ := hW
  have hA : DataW.TrodAll enc Tryd.prog W 0 (fun _ => true) true Tryd.f3.params.toList args.toList ds p := hA0
  have hV : DataW.TrodVars enc Tryd.prog W (fun _ => true) ["loop.example/g00448/impl.errNoNumber"] gs q := hV0
  rw [Tryd.params3] at hA hval
  obtain ⟨v0, vs0, d0, ds0, p0, q0, hargs, rfl, rfl, h0, r0⟩ := trodAll_cons hA
  obtain ⟨rfl, rfl, rfl⟩ := trodAll_nil r0
  obtain rfl : args = #[v0] := by cases args; simp_all
  rw [MakeChecks.laidMetH_plain _ _ _ (by kernel_rfl)] at hL
  have htab : Pow W := Lib.tabIs_of_head gPow gPowType Tryd.underlying104 Tryd.underlying87 cells64 cellsTab (laidMet.tail (laidMet.tail hL))
  have hL3 := laidMet.tail (laidMet.tail (laidMet.tail hL))
  obtain ⟨ar, sr, hvr, _, _, _⟩ := laid_sentinel hL3 gRan gRanType Tryd.underlying73 rowES Tryd.underlying95 Tryd.underlying97 rfl rfl Tryd.underlying9 cellsES cellsS
  obtain ⟨ay, sy, hvy, _, _, _⟩ := laid_sentinel (laidMet.tail hL3) gSyn gSynType Tryd.underlying73 rowES Tryd.underlying95 Tryd.underlying97 rfl rfl Tryd.underlying9 cellsES cellsS
  obtain ⟨a0, s0, hv0, hc0, hs0, hz0⟩ := laid_sentinel (laidMet.tail (laidMet.tail hL3)) gE gEType Tryd.underlying73 rowES Tryd.underlying95 Tryd.underlying97 rfl rfl Tryd.underlying9 cellsES cellsS
  obtain ⟨rfl, rfl⟩ := hV.unique (vars_read1 enc gE gEType Tryd.underlying73 hv0 trivial _)
  have hg0 : W.cell? ⟨1, 0, none⟩ = some (.iface 95 (.pointer (some a0))) := by simpa using World.var?_cell gE hv0 0
  have hE : Env W := ⟨htab, ⟨_, _, hg0⟩, ⟨_, _, by simpa using World.var?_cell gSyn hvy 0⟩, ⟨_, _, by simpa using World.var?_cell gRan hvr 0⟩⟩
  have k0 := h0
  have lt0 : ∀ x ∈ p0, x.block < W.heap.size := by obtain ⟨m, hm⟩ := k0; exact DataW.trod_lt m _ _ _ hm
  obtain ⟨s0, rfl, rfl, rfl, ws0⟩ := open_string Tryd.underlying9 (hval 0 9 v0 rfl rfl) h0
  clear hA0 hV0 hval0
  refine (fnSettles_walk s0 W ws0 hE).mono fun e W' ⟨he, bel⟩ => ?_
  subst he
  have hv1 : W'.var? Tryd.prog "loop.example/g00448/impl.errNoNumber" = some #[.iface 95 (.pointer (some a0))] := var?_below bel gE (cell_lt hg0) hv0
  exact ⟨_, rfl, _, _, _, [], _, [.cell 1 0], hW', trodAll_mk1 (shut_bool Tryd.underlying4 _), (trodAll_cons_mk (shut_string Tryd.underlying9 ws0) trodAll_mk0), vars_read1 enc gE gEType Tryd.underlying73 hv1 trivial _, bel.frame _, fun h => by cases h⟩

theorem said : Rows.FnExactSettlesSaid :=
  OpenClaim.holds_of_wide 3 Tryd.f3 rfl rfl rfl rfl rfl rfl rfl ⟨rfl, rfl, rfl, rfl, rfl⟩ rfl rfl rfl rfl rfl (by kernel_rfl) Tryd.func3 closed
    (of_decide_eq_true (by kernel_rfl)) (by unfold Func.isWrapper; first | (rw [if_pos (by decide +kernel)]; kernel_rfl) | (rw [if_neg (by decide +kernel)]; exact ⟨rfl, rfl⟩))
    (fun os started H enc _ => lifted os started H enc)
end Go.Proofs.YtgfboghieejbkaaDoor.fnExactSettles
namespace Go.Proofs.YtgfboghieejbkaaDoor
/-- THE CARD. -/
theorem fnExactSettles_holds : Rows.FnExactSettlesCardSaid :=
  Claim7.holds_tied_plain_at .later [] _ _ _ _ fnExactSettles.said (fun _ h => by cases h) (by kernel_rfl) (fun _ h => by cases h) fnExactSettles_row_tie rfl ⟨rfl, rfl⟩ (by kernel_rfl) rfl
    (fun f fn hf hfn => by
      obtain rfl : f = 3 := Option.some.inj ((show Tryd.prog.funcNamed "loop.example/g00448/laws.FnExactSettles" = some 3 by kernel_rfl).symm.trans hf) |>.symm
      obtain rfl : fn = Tryd.f3 := (Option.some.inj (Tryd.func3.symm.trans hfn)).symm
      exact ⟨by kernel_rfl, fun j t ht => by
        rw [Tryd.params3] at ht
        have hm : t ∈ [9] := by simpa using Array.mem_of_getElem? ht
        have hall : ([9].all fun u => !Tryd.prog.wantsStandIn u) = true := by kernel_rfl
        exact (show Tryd.prog.wantsStandIn t = false by simpa using List.all_eq_true.1 hall t hm)⟩)
    (by kernel_rfl)
#print axioms fnExactSettles_holds
end Go.Proofs.YtgfboghieejbkaaDoor
