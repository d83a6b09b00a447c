/- For every Conf and every replica laws.FnExactSureNow returns true and leaves what was in memory as it was: impl.SureNow answers what spec.SureNow answers, number by number, its answer owns its memory, behind another call too, and it writes into no argument and keeps nothing of one, where the replica's texts, numbers, payments, parts, bytes and posts are together at most 1048576 (the law answers true of greater ones by itself). Conditions: the package variable errNoNumber, the two errors and the tables of the library hold what the text lays (the card ties them to that text). -/
import Derived.Test.YtjdchloechcclaaGreatDoorSNAD
import Derived.Test.YtjdchloechcclaaGreatDoorSNBL
import Derived.Test.YtjdchloechcclaaGreatDoorSNBP
import Derived.Test.YtjdchloechcclaaGreatDoorSNBQ
import Derived.Test.YtjdchloechcclaaGreatDoorSNLK
set_option linter.unusedVariables false
namespace Go.Proofs.YtjdchloechcclaaGreatDoor.fnExactSureNow
open Go.ChangeShapes Go.WideShapes Go.ChangeAt Go.RowKit
open Go.ChangeMaps (open_string shut_string)

theorem gPowType : (Tryz.prog.globals[5]?).map (·.type) = some 364 := by kernel_rfl
theorem cellsTab : Tryz.prog.cellsOf 364 = 20 := by kernel_rfl
theorem cells64 : Tryz.prog.cellsOf 331 = 1 := by kernel_rfl
theorem gSyn : Tryz.prog.globalNamed "strconv.ErrSyntax" = some 3 := by kernel_rfl
theorem gSynType : (Tryz.prog.globals[3]?).map (·.type) = some 229 := by kernel_rfl
theorem gRan : Tryz.prog.globalNamed "strconv.ErrRange" = some 4 := by kernel_rfl
theorem gRanType : (Tryz.prog.globals[4]?).map (·.type) = some 229 := by kernel_rfl
theorem door_met (os : Os) (args : Array Value) : laidMetH Tryz.prog Rows.fnExactSureNowRow.laid ((World.doorLaid Tryz.prog 400 os).forCall (fun _ _ => 0) ⟨#[], args, []⟩).memory :=
 laidMetH_of_parts3 (fuel := 8) (laidMet_of_run' 8 (by kernel_rfl) (by kernel_rfl)) (by kernel_rfl) (by kernel_rfl)

set_option maxRecDepth 100000 in
theorem lifted (os : Os) (started : os.Started) (H : Type) (enc : TypeId × Value → H) :
 ReturnsInHanded {} Tryz.checked os 3 .any (fun w args => (Rows.fnExactSureNowSpec.pre enc Tryz.prog Tryz.f3 [] false w args ∧ laidMetH Tryz.prog Rows.fnExactSureNowRow.laid w) ∧ sizedMet enc Tryz.prog Tryz.f3 (OpenSpec.ofChange Rows.fnExactSureNowSpec) false w args)
  (Rows.fnExactSureNowSpec.post enc Tryz.prog Tryz.f3 false true false false) := by
 have di0 : ∀ (a b c d : Int), Decidable (Ok4 a b c d):=fun a b c d => Classical.choice ((Classical.em (Ok4 a b c d)).elim (fun h => ⟨.isTrue h⟩) (fun h => ⟨.isFalse h⟩))
 have di1 : ∀ (n f : Int), Decidable (COk n f):=fun n f => Classical.choice ((Classical.em (COk n f)).elim (fun h => ⟨.isTrue h⟩) (fun h => ⟨.isFalse h⟩))
 have di2 : ∀ (a b c d : Nat), Decidable (okN a b c d):=fun a b c d => Classical.choice ((Classical.em (okN a b c d)).elim (fun h => ⟨.isTrue h⟩) (fun h => ⟨.isFalse h⟩))
 have di3 : ∀ (x : T4), Decidable (OkT x):=fun x => Classical.choice ((Classical.em (OkT x)).elim (fun h => ⟨.isTrue h⟩) (fun h => ⟨.isFalse h⟩))
 have di4 : ∀ (last : Int) (s : St), Decidable (GoodSt last s):=fun last s => Classical.choice ((Classical.em (GoodSt last s)).elim (fun h => ⟨.isTrue h⟩) (fun h => ⟨.isFalse h⟩))
 have di5 : ∀ (n : Int) (s : List Int), Decidable (OkL n s):=fun n s => Classical.choice ((Classical.em (OkL n s)).elim (fun h => ⟨.isTrue h⟩) (fun h => ⟨.isFalse h⟩))
 have di6 : ∀ (x y : T4), Decidable (Bef x y):=fun x y => Classical.choice ((Classical.em (Bef x y)).elim (fun h => ⟨.isTrue h⟩) (fun h => ⟨.isFalse h⟩))
 have di7 : ∀ (ts : List T4), Decidable (Asc ts):=fun ts => Classical.choice ((Classical.em (Asc ts)).elim (fun h => ⟨.isTrue h⟩) (fun h => ⟨.isFalse h⟩))
 have di8 : ∀ (ts : List T4), Decidable (AllOk ts):=fun ts => Classical.choice ((Classical.em (AllOk ts)).elim (fun h => ⟨.isTrue h⟩) (fun h => ⟨.isFalse h⟩))
 have di9 : ∀ (ts : List T4), Decidable (POk ts):=fun ts => Classical.choice ((Classical.em (POk ts)).elim (fun h => ⟨.isTrue h⟩) (fun h => ⟨.isFalse h⟩))
 refine returnsInHanded_of_change_and (C := Tryz.checked) (X := fun w _ => laidMetH Tryz.prog Rows.fnExactSureNowRow.laid w) (fun _ _ _ hh h => h.of_heap hh) own started (by kernel_rfl) Tryz.func3
  (ChangeSpec.witness_shaped (enc := enc) (C := Tryz.checked) (os := os) (X := fun w _ => laidMetH Tryz.prog Rows.fnExactSureNowRow.laid w) false (World.doorLaid Tryz.prog 400 os) #[cv 0 0, rpv ⟨0, 0, 0, 0, 0, 0, ⟨#[]⟩, [], ⟨#[]⟩, [], [], [], 0, []⟩ (.slice none 0 0) (.slice none 0 0) (.slice none 0 0) (.slice none 0 0) (.slice none 0 0)] 8 rfl (World.shaped_of_RefB (by kernel_rfl) (by kernel_rfl)) (by kernel_rfl) (by kernel_rfl) (by kernel_rfl) (door_met os _)) ?_
 intro W base args ds gs before hval0 hW _ _ hL _
 have hval : ∀ (j : Nat) t v, Tryz.f3.params[j]? = some t → args[j]? = some v → Value.okWide Tryz.prog W .any base t v:=hval0
 have hW':=hW
 obtain ⟨p, q, hA0, hV0, rfl, hfz, hnd⟩:=hW
 have hA : DataW.TrodAll enc Tryz.prog W 0 (fun _ => true) true Tryz.f3.params.toList args.toList ds p:=hA0
 have hV : DataW.TrodVars enc Tryz.prog W (fun _ => true) ["loop.example/g00448/impl.errNoNumber"] gs q:=hV0
 rw [Tryz.params3] at hA hval
 obtain ⟨v0, vs0, d0, ds0, p0, q0, hargs, rfl, rfl, h0, r0⟩:=trodAll_cons hA
 obtain ⟨v1, vs1, d1, ds1, p1, q1, rfl, rfl, rfl, h1, r1⟩:=trodAll_cons r0
 obtain ⟨rfl, rfl, rfl⟩:=trodAll_nil r1
 obtain rfl : args = #[v0, v1]:=by cases args; simp_all
 rw [MakeChecks.laidMetH_plain _ _ _ (by kernel_rfl)] at hL
 have htab : Pow W:=Lib.tabIs_of_head gPow gPowType Tryz.underlying364 Tryz.underlying331 cells64 cellsTab (laidMet.tail (laidMet.tail hL))
 have hL3:=laidMet.tail (laidMet.tail (laidMet.tail hL))
 obtain ⟨ar, sr, hvr, _, _, _⟩:=laid_sentinel hL3 gRan gRanType Tryz.underlying229 rowES Tryz.underlying367 Tryz.underlying369 rfl rfl Tryz.underlying9 cellsES cellsS
 obtain ⟨ay, sy, hvy, _, _, _⟩:=laid_sentinel (laidMet.tail hL3) gSyn gSynType Tryz.underlying229 rowES Tryz.underlying367 Tryz.underlying369 rfl rfl Tryz.underlying9 cellsES cellsS
 obtain ⟨a0, s0, hv0, hc0, hs0, hz0⟩:=laid_sentinel (laidMet.tail (laidMet.tail hL3)) gE gEType Tryz.underlying229 rowES Tryz.underlying367 Tryz.underlying369 rfl rfl Tryz.underlying9 cellsES cellsS
 obtain ⟨rfl, rfl⟩:=hV.unique (vars_read1 enc gE gEType Tryz.underlying229 hv0 trivial _)
 have hg0 : W.cell? ⟨2, 0, none⟩ = some (.iface 367 (.pointer (some a0))):=by simpa using World.var?_cell gE hv0 0
 have hE : Env W:=⟨htab, ⟨_, _, hg0⟩, ⟨_, _, by simpa using World.var?_cell gSyn hvy 0⟩, ⟨_, _, by simpa using World.var?_cell gRan hvr 0⟩⟩
 have k0:=h0
 have lt0 : ∀ x ∈ p0, x.block < W.heap.size:=by obtain ⟨m, hm⟩:=k0; exact DataW.trod_lt m _ _ _ hm
 obtain ⟨n0, f0, rfl⟩:=open_conf (hval 0 23 v0 rfl rfl) h0
 have k1:=h1
 have lt1 : ∀ x ∈ p1, x.block < W.heap.size:=by obtain ⟨m, hm⟩:=k1; exact DataW.trod_lt m _ _ _ hm
 obtain ⟨t1, ao1, bo1, co1, od1, oe1, ca1, cb1, cc1, cd1, ce1, rs1, ht1, rfl, hm1, aq1, fq1, ap1, at1, he1, ad1, ah1, hh1⟩:=open_rep (hval 1 36 v1 rfl rfl) h1
 clear hA0 hV0 hval0
 refine (fnSureNow_walk n0 f0 t1 ao1 bo1 co1 od1 oe1 ca1 cb1 cc1 cd1 ce1 rs1 W ht1 hm1 aq1 ap1 at1 he1 ad1 ah1 hh1 hE).mono fun e W' ⟨he, bel⟩ => ?_
 subst he
 have hv1 : W'.var? Tryz.prog "loop.example/g00448/impl.errNoNumber" = some #[.iface 367 (.pointer (some a0))]:=var?_below bel gE (cell_lt hg0) hv0
 exact ⟨_, rfl, _, _, _, [], _, [.cell 2 0], hW', trodAll_mk1 (shut_bool Tryz.underlying4 _), (trodAll_cons_mk (Below.trod laidOut (by kernel_rfl) (of_decide_eq_true (by kernel_rfl)) k0 bel lt0) (trodAll_cons_mk (Below.trod laidOut (by kernel_rfl) (of_decide_eq_true (by kernel_rfl)) k1 bel lt1) trodAll_mk0)), vars_read1 enc gE gEType Tryz.underlying229 hv1 trivial _, bel.frame _, fun h => by cases h⟩

theorem said : Rows.FnExactSureNowSaid :=
 OpenClaim.holds_of_wide 3 Tryz.f3 rfl rfl rfl rfl rfl rfl rfl ⟨rfl, rfl, rfl, rfl, rfl⟩ rfl rfl rfl rfl rfl (by kernel_rfl) Tryz.func3 closed
  (of_decide_eq_true (by kernel_rfl)) (by unfold Func.isWrapper; first | (rw [if_pos (by decide +kernel)]; kernel_rfl) | (rw [if_neg (by decide +kernel)]; exact ⟨rfl, rfl⟩))
  (fun os started H enc _ => lifted os started H enc)
end Go.Proofs.YtjdchloechcclaaGreatDoor.fnExactSureNow
namespace Go.Proofs.YtjdchloechcclaaGreatDoor
theorem fnExactSureNow_holds : Rows.FnExactSureNowCardSaid :=
 Claim7.holds_tied_plain_at .later [] _ _ _ _ fnExactSureNow.said (fun _ h => by cases h) (by kernel_rfl) (fun _ h => by cases h) fnExactSureNow_row_tie rfl ⟨rfl, rfl⟩ (by kernel_rfl) rfl
  (fun f fn hf hfn => by
   obtain rfl : f = 3:=Option.some.inj ((show Tryz.prog.funcNamed "loop.example/g00448/laws.FnExactSureNow" = some 3 by kernel_rfl).symm.trans hf) |>.symm
   obtain rfl : fn = Tryz.f3:=(Option.some.inj (Tryz.func3.symm.trans hfn)).symm
   exact ⟨looksG, fun j t ht => by
    rw [Tryz.params3] at ht
    have hm : t ∈ [23, 36]:=by simpa using Array.mem_of_getElem? ht
    have hall : ([23, 36].all fun u => !Tryz.prog.wantsStandIn u) = true:=by kernel_rfl
    exact (show Tryz.prog.wantsStandIn t = false by simpa using List.all_eq_true.1 hall t hm)⟩)
  fnExactSureNow.goesG
#print axioms fnExactSureNow_holds
end Go.Proofs.YtjdchloechcclaaGreatDoor
