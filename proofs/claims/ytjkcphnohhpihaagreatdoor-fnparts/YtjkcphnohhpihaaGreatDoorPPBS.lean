/- FnParts: for every code the law answers true and leaves its argument as it was: over what is drawn from the code the program's PartJoin, TableAdd, PartQc, TableGet, TableDrop, TableOk and PartOk answer what the specification's answer; a certificate that is given is QcOk; two parts whose voters are sets of at most seven join alike in either order; a table that took nothing is as it was; one that took a part is TableOk and holds all of the part's voters. Conditions: the package variables errApart and errNoNumber, the two errors and the tables of the library hold what the text lays (the card ties them to that text). -/
import Derived.Test.YtjkcphnohhpihaaGreatDoorPPAD
import Derived.Test.YtjkcphnohhpihaaGreatDoorPPBO
import Derived.Test.YtjkcphnohhpihaaGreatDoorPPBP
import Derived.Test.YtjkcphnohhpihaaGreatDoorPPBQ
import Derived.Test.YtjkcphnohhpihaaGreatDoorPPBR
import Derived.Test.YtjkcphnohhpihaaGreatDoorPPLK
set_option linter.unusedVariables false
namespace Go.Proofs.YtjkcphnohhpihaaGreatDoor.fnParts
open Go.ChangeShapes Go.WideShapes Go.ChangeAt Go.RowKit
open Go.ChangeMaps (open_string shut_string)

theorem gPowType : (Tryz.prog.globals[5]?).map (·.type) = some 242 := by kernel_rfl
theorem cellsTab : Tryz.prog.cellsOf 242 = 20 := by kernel_rfl
theorem cells64 : Tryz.prog.cellsOf 195 = 1 := by kernel_rfl
theorem gSyn : Tryz.prog.globalNamed "strconv.ErrSyntax" = some 3 := by kernel_rfl
theorem gSynType : (Tryz.prog.globals[3]?).map (·.type) = some 83 := by kernel_rfl
theorem gRan : Tryz.prog.globalNamed "strconv.ErrRange" = some 4 := by kernel_rfl
theorem gRanType : (Tryz.prog.globals[4]?).map (·.type) = some 83 := by kernel_rfl
theorem gA : Tryz.prog.globalNamed "loop.example/g00448/impl.errApart" = some 0 := by kernel_rfl
theorem gAType : (Tryz.prog.globals[0]?).map (·.type) = some 83 := by kernel_rfl
theorem door_met (os : Os) (args : Array Value) : laidMetH Tryz.prog Rows.fnPartsRow.laid ((World.doorLaid Tryz.prog 400 os).forCall (fun _ _ => 0) ⟨#[], args, []⟩).memory :=
 laidMetH_of_parts3 (fuel := 8) (laidMet_of_run' 8 (by kernel_rfl) (by kernel_rfl)) (by kernel_rfl) (by kernel_rfl)

set_option maxRecDepth 100000 in
theorem lifted (os : Os) (started : os.Started) (H : Type) (enc : TypeId × Value → H) :
 ReturnsInHanded {} Tryz.checked os 4 .any (fun w args => (Rows.fnPartsSpec.pre enc Tryz.prog Tryz.f4 [] false w args ∧ laidMetH Tryz.prog Rows.fnPartsRow.laid w) ∧ sizedMet enc Tryz.prog Tryz.f4 (OpenSpec.ofChange Rows.fnPartsSpec) false w args)
  (Rows.fnPartsSpec.post enc Tryz.prog Tryz.f4 false true false false) := by
 have di0 : ∀ (a b c d : Int), Decidable (Ok4 a b c d):=fun a b c d => Classical.choice ((Classical.em (Ok4 a b c d)).elim (fun h => ⟨.isTrue h⟩) (fun h => ⟨.isFalse h⟩))
 have di1 : ∀ (n f : Int), Decidable (COk n f):=fun n f => Classical.choice ((Classical.em (COk n f)).elim (fun h => ⟨.isTrue h⟩) (fun h => ⟨.isFalse h⟩))
 have di2 : ∀ (a b c d : Nat), Decidable (okN a b c d):=fun a b c d => Classical.choice ((Classical.em (okN a b c d)).elim (fun h => ⟨.isTrue h⟩) (fun h => ⟨.isFalse h⟩))
 have di3 : ∀ (x : T4), Decidable (OkT x):=fun x => Classical.choice ((Classical.em (OkT x)).elim (fun h => ⟨.isTrue h⟩) (fun h => ⟨.isFalse h⟩))
 have di4 : ∀ (last : Int) (s : St), Decidable (GoodSt last s):=fun last s => Classical.choice ((Classical.em (GoodSt last s)).elim (fun h => ⟨.isTrue h⟩) (fun h => ⟨.isFalse h⟩))
 have di5 : ∀ (n : Int) (s : List Int), Decidable (OkL n s):=fun n s => Classical.choice ((Classical.em (OkL n s)).elim (fun h => ⟨.isTrue h⟩) (fun h => ⟨.isFalse h⟩))
 refine returnsInHanded_of_change_and (C := Tryz.checked) (X := fun w _ => laidMetH Tryz.prog Rows.fnPartsRow.laid w) (fun _ _ _ hh h => h.of_heap hh) own started (by kernel_rfl) Tryz.func4
  (ChangeSpec.witness_shaped (enc := enc) (C := Tryz.checked) (os := os) (X := fun w _ => laidMetH Tryz.prog Rows.fnPartsRow.laid w) false (World.doorLaid Tryz.prog 400 os) #[.slice none 0 0] 8 rfl (World.shaped_of_RefB (by kernel_rfl) (by kernel_rfl)) (by kernel_rfl) (by kernel_rfl) (by kernel_rfl) (door_met os _)) ?_
 intro W base args ds gs before hval0 hW _ _ hL _
 have hval : ∀ (j : Nat) t v, Tryz.f4.params[j]? = some t → args[j]? = some v → Value.okWide Tryz.prog W .any base t v:=hval0
 have hW':=hW
 obtain ⟨p, q, hA0, hV0, rfl, hfz, hnd⟩:=hW
 have hA : DataW.TrodAll enc Tryz.prog W 0 (fun _ => true) true Tryz.f4.params.toList args.toList ds p:=hA0
 have hV : DataW.TrodVars enc Tryz.prog W (fun _ => true) ["loop.example/g00448/impl.errApart", "loop.example/g00448/impl.errNoNumber"] gs q:=hV0
 rw [Tryz.params4] at hA hval
 obtain ⟨v0, vs0, d0, ds0, p0, q0, hargs, rfl, rfl, h0, r0⟩:=trodAll_cons hA
 obtain ⟨rfl, rfl, rfl⟩:=trodAll_nil r0
 obtain rfl : args = #[v0]:=by cases args; simp_all
 rw [MakeChecks.laidMetH_plain _ _ _ (by kernel_rfl)] at hL
 have htab : Pow W:=Lib.tabIs_of_head gPow gPowType Tryz.underlying242 Tryz.underlying195 cells64 cellsTab (laidMet.tail (laidMet.tail hL))
 have hL3:=laidMet.tail (laidMet.tail (laidMet.tail hL))
 obtain ⟨ar, sr, hvr, _, _, _⟩:=laid_sentinel hL3 gRan gRanType Tryz.underlying83 rowES Tryz.underlying234 Tryz.underlying236 rfl rfl Tryz.underlying9 cellsES cellsS
 obtain ⟨ay, sy, hvy, _, _, _⟩:=laid_sentinel (laidMet.tail hL3) gSyn gSynType Tryz.underlying83 rowES Tryz.underlying234 Tryz.underlying236 rfl rfl Tryz.underlying9 cellsES cellsS
 obtain ⟨a0, s0, hv0, hc0, hs0, hz0⟩:=laid_sentinel (laidMet.tail (laidMet.tail hL3)) gE gEType Tryz.underlying83 rowES Tryz.underlying234 Tryz.underlying236 rfl rfl Tryz.underlying9 cellsES cellsS
 obtain ⟨aa, sa, hva, hca, hsa, hza⟩:=laid_sentinel (laidMet.tail (laidMet.tail (laidMet.tail hL3))) gA gAType Tryz.underlying83 rowES Tryz.underlying234 Tryz.underlying236 rfl rfl Tryz.underlying9 cellsES cellsS
 obtain ⟨rfl, rfl⟩:=hV.unique (vars_read2 enc gA gAType Tryz.underlying83 hva trivial gE gEType Tryz.underlying83 hv0 trivial _)
 have hg0 : W.cell? ⟨2, 0, none⟩ = some (.iface 234 (.pointer (some a0))):=by simpa using World.var?_cell gE hv0 0
 have hE : Env W:=⟨htab, ⟨_, _, hg0⟩, ⟨_, _, by simpa using World.var?_cell gSyn hvy 0⟩, ⟨_, _, by simpa using World.var?_cell gRan hvr 0⟩⟩
 have hG : Gv W aa:=by unfold Gv; simpa using World.var?_cell gA hva 0
 have k0:=h0
 have lt0 : ∀ x ∈ p0, x.block < W.heap.size:=by obtain ⟨m, hm⟩:=k0; exact DataW.trod_lt m _ _ _ hm
 obtain ⟨ab0, cp0, bs0, rfl, hn0, hb0, hz0⟩:=open_code (hval 0 43 v0 rfl rfl) h0
 clear hA0 hV0 hval0
 refine (fnParts_walk ab0 cp0 bs0 aa W hn0 hb0 hz0 hE hG).mono fun e W' ⟨he, bel⟩ => ?_
 subst he
 have hv1 : W'.var? Tryz.prog "loop.example/g00448/impl.errNoNumber" = some #[.iface 234 (.pointer (some a0))]:=var?_below bel gE (cell_lt hg0) hv0
 have hva1 : W'.var? Tryz.prog "loop.example/g00448/impl.errApart" = some #[.iface 234 (.pointer (some aa))]:=var?_below bel gA (cell_lt hG) hva
 exact ⟨_, rfl, _, _, _, [], _, _, hW', trodAll_mk1 (shut_bool Tryz.underlying4 _), (trodAll_cons_mk (Below.trod laidOut (by kernel_rfl) (of_decide_eq_true (by kernel_rfl)) k0 bel lt0) trodAll_mk0), vars_read2 enc gA gAType Tryz.underlying83 hva1 trivial gE gEType Tryz.underlying83 hv1 trivial _, bel.frame _, fun h => by cases h⟩

theorem said : Rows.FnPartsSaid :=
 OpenClaim.holds_of_wide 4 Tryz.f4 rfl rfl rfl rfl rfl rfl rfl ⟨rfl, rfl, rfl, rfl, rfl⟩ rfl rfl rfl rfl rfl (by kernel_rfl) Tryz.func4 closed
  (of_decide_eq_true (by kernel_rfl)) (by unfold Func.isWrapper; first | (rw [if_pos (by decide +kernel)]; kernel_rfl) | (rw [if_neg (by decide +kernel)]; exact ⟨rfl, rfl⟩))
  (fun os started H enc _ => lifted os started H enc)
end Go.Proofs.YtjkcphnohhpihaaGreatDoor.fnParts
namespace Go.Proofs.YtjkcphnohhpihaaGreatDoor
theorem fnParts_holds : Rows.FnPartsCardSaid :=
 Claim7.holds_tied_plain_at .later [] _ _ _ _ fnParts.said (fun _ h => by cases h) (by kernel_rfl) (fun _ h => by cases h) fnParts_row_tie rfl ⟨rfl, rfl⟩ (by kernel_rfl) rfl
  (fun f fn hf hfn => by
   obtain rfl : f = 4:=Option.some.inj ((show Tryz.prog.funcNamed "loop.example/g00448/laws.FnParts" = some 4 by kernel_rfl).symm.trans hf) |>.symm
   obtain rfl : fn = Tryz.f4:=(Option.some.inj (Tryz.func4.symm.trans hfn)).symm
   exact ⟨looksG, fun j t ht => by
    rw [Tryz.params4] at ht
    have hm : t ∈ [43]:=by simpa using Array.mem_of_getElem? ht
    have hall : ([43].all fun u => !Tryz.prog.wantsStandIn u) = true:=by kernel_rfl
    exact (show Tryz.prog.wantsStandIn t = false by simpa using List.all_eq_true.1 hall t hm)⟩)
  fnParts.goesG
#print axioms fnParts_holds
end Go.Proofs.YtjkcphnohhpihaaGreatDoor
