/- FnBlocks: for every code the law answers true and leaves its argument as it was: BlockOk, BlockNew and BlockSame of the program answer what those of the specification answer at what is drawn; a drawn block that is right is of a view above that of what it stands on, extends it, and is one higher; what BlockNew tells true of is right, of the view that was asked for, on the certificate's name. Conditions: the package variable errNoNumber, the two errors and the tables of the library hold what the text lays (the card ties them to that text). -/
import Derived.Test.YtggmgfkmbgcooaaGreatDoorDoorQ
import Derived.Test.YtggmgfkmbgcooaaGreatDoorBlocksWalkQ
import Derived.Test.YtggmgfkmbgcooaaGreatDoorCards
import Derived.Test.YtggmgfkmbgcooaaGreatDoorTie
/- FnBlocks: for every code the law answers true and leaves its argument as it was: BlockOk, BlockNew and BlockSame of the program answer what those of the specification answer at what is drawn; a drawn block that is right is of a view above that of what it stands on, extends it, and is one higher; what BlockNew tells true of is right, of the view that was asked for, on the certificate's name. Conditions: the package variable errNoNumber, the two errors and the tables of the library hold what the text lays (the card ties them to that text). -/
namespace Go.Proofs.YtggmgfkmbgcooaaGreatDoor
open Go.RowKit
set_option linter.unusedSectionVars false
variable [∀ (a b c d : Int), Decidable (Ok4 a b c d)]
variable [∀ (a b c d : Nat), Decidable (okN a b c d)]
variable [∀ (last : Int) (s : St), Decidable (GoodSt last s)]
variable [∀ (x : T4), Decidable (OkT x)]
variable [∀ (n : Int) (s : List Int), Decidable (OkL n s)]
variable [∀ (n f : Int), Decidable (COk n f)]
variable [∀ (ts : List T4), Decidable (AllOk ts)]
theorem fnBlocks_walk (ao : Option Addr) (ca : Nat) (xs : List Int) (w : World) (hx : xs = [] ∨ ∃ b off, ao = some ⟨b, off, none⟩ ∧ ∀ k, k < xs.length → w.cell? ⟨b, off + k, none⟩ = some (.int .u8 (xs.getD k 0))) (hf : ∀ k, k < xs.length → 0 ≤ xs.getD k 0 ∧ xs.getD k 0 ≤ 255) (hE : Env w) :
    Calls Tryz.prog 3 #[.slice ao xs.length ca] w fun e w' => e = .returned (.bool true) ∧ Below w.heap.size w w' := by
  by_cases h : xs.length ≤ 1048576
  · exact fnBlocks_small ao ca xs w ⟨h, hx, hf⟩ hE
  · exact fnBlocks_big ao xs.length ca w (by omega)
end Go.Proofs.YtggmgfkmbgcooaaGreatDoor
namespace Go.Proofs.YtggmgfkmbgcooaaGreatDoor.fnBlocks
open Go.ChangeShapes Go.WideShapes Go.ChangeAt Go.RowKit
open Go.ChangeMaps (open_string shut_string)
set_option linter.unusedVariables false

theorem gPowType : (Tryz.prog.globals[2]?).map (·.type) = some 179 := by kernel_rfl
theorem cellsTab : Tryz.prog.cellsOf 179 = 20 := by kernel_rfl
theorem cells64 : Tryz.prog.cellsOf 168 = 1 := by kernel_rfl
theorem gSyn : Tryz.prog.globalNamed "strconv.ErrSyntax" = some 5 := by kernel_rfl
theorem gSynType : (Tryz.prog.globals[5]?).map (·.type) = some 125 := by kernel_rfl
theorem gRan : Tryz.prog.globalNamed "strconv.ErrRange" = some 6 := by kernel_rfl
theorem gRanType : (Tryz.prog.globals[6]?).map (·.type) = some 125 := by kernel_rfl

/-- The door's own heap meets the condition. -/
theorem door_met (os : Os) (args : Array Value) : laidMetH Tryz.prog Rows.fnBlocksRow.laid ((World.doorLaid Tryz.prog 400 os).forCall (fun _ _ => 0) ⟨#[], args, []⟩).memory :=
  laidMetH_of_parts3 (fuel := 8) (laidMet_of_run' 8 (by kernel_rfl) (by kernel_rfl)) (by kernel_rfl) (by kernel_rfl)

set_option maxRecDepth 100000 in
theorem lifted (os : Os) (started : os.Started) (H : Type) (enc : TypeId × Value → H) :
    ReturnsInHanded {} Tryz.checked os 3 .any (fun w args => (Rows.fnBlocksSpec.pre enc Tryz.prog Tryz.f3 [] false w args ∧ laidMetH Tryz.prog Rows.fnBlocksRow.laid w) ∧ sizedMet enc Tryz.prog Tryz.f3 (OpenSpec.ofChange Rows.fnBlocksSpec) false w args)
      (Rows.fnBlocksSpec.post enc Tryz.prog Tryz.f3 false true false false) := by
  have di0 : ∀ (a b c d : Int), Decidable (Ok4 a b c d) := fun a b c d => Classical.choice ((Classical.em (Ok4 a b c d)).elim (fun h => ⟨.isTrue h⟩) (fun h => ⟨.isFalse h⟩))
  have di1 : ∀ (a b c d : Nat), Decidable (okN a b c d) := fun a b c d => Classical.choice ((Classical.em (okN a b c d)).elim (fun h => ⟨.isTrue h⟩) (fun h => ⟨.isFalse h⟩))
  have di2 : ∀ (last : Int) (s : St), Decidable (GoodSt last s) := fun last s => Classical.choice ((Classical.em (GoodSt last s)).elim (fun h => ⟨.isTrue h⟩) (fun h => ⟨.isFalse h⟩))
  have di3 : ∀ (x : T4), Decidable (OkT x) := fun x => Classical.choice ((Classical.em (OkT x)).elim (fun h => ⟨.isTrue h⟩) (fun h => ⟨.isFalse h⟩))
  have di4 : ∀ (n : Int) (s : List Int), Decidable (OkL n s) := fun n s => Classical.choice ((Classical.em (OkL n s)).elim (fun h => ⟨.isTrue h⟩) (fun h => ⟨.isFalse h⟩))
  have di5 : ∀ (n f : Int), Decidable (COk n f) := fun n f => Classical.choice ((Classical.em (COk n f)).elim (fun h => ⟨.isTrue h⟩) (fun h => ⟨.isFalse h⟩))
  have di6 : ∀ (ts : List T4), Decidable (AllOk ts) := fun ts => Classical.choice ((Classical.em (AllOk ts)).elim (fun h => ⟨.isTrue h⟩) (fun h => ⟨.isFalse h⟩))
  refine returnsInHanded_of_change_and (C := Tryz.checked) (X := fun w _ => laidMetH Tryz.prog Rows.fnBlocksRow.laid w) (fun _ _ _ hh h => h.of_heap hh) own started (by kernel_rfl) Tryz.func3
    (ChangeSpec.witness_shaped (enc := enc) (C := Tryz.checked) (os := os) (X := fun w _ => laidMetH Tryz.prog Rows.fnBlocksRow.laid w) false (World.doorLaid Tryz.prog 400 os) #[.slice none 0 0] 8 rfl (World.shaped_of_RefB (by kernel_rfl) (by kernel_rfl)) (by kernel_rfl) (by kernel_rfl) (by kernel_rfl) (door_met os _)) ?_
  intro W base args ds gs before hval0 hW _ _ hL _
  have hval : ∀ (j : Nat) t v, Tryz.f3.params[j]? = some t → args[j]? = some v → Value.okWide Tryz.prog W .any base t v := hval0
  have hW' := hW
  obtain ⟨p, q, hA0, hV0, rfl, hfz, hnd⟩ := hW
  have hA : DataW.TrodAll enc Tryz.prog W 0 (fun _ => true) true Tryz.f3.params.toList args.toList ds p := hA0
  have hV : DataW.TrodVars enc Tryz.prog W (fun _ => true) ["loop.example/g00448/impl.errNoNumber"] gs q := hV0
  rw [Tryz.params3] at hA hval
  obtain ⟨v0, d0, rfl, rfl, h0⟩ := trodAll_one hA
  rw [MakeChecks.laidMetH_plain _ _ _ (by kernel_rfl)] at hL
  have htab : Pow W := Lib.tabIs_of_head gPow gPowType Tryz.underlying179 Tryz.underlying168 cells64 cellsTab (laidMet.tail (laidMet.tail hL))
  have hL3 := laidMet.tail (laidMet.tail (laidMet.tail hL))
  obtain ⟨ar, sr, hvr, _, _, _⟩ := laid_sentinel hL3 gRan gRanType Tryz.underlying125 rowES Tryz.underlying199 Tryz.underlying201 rfl rfl Tryz.underlying9 cellsES cellsS
  obtain ⟨ay, sy, hvy, _, _, _⟩ := laid_sentinel (laidMet.tail hL3) gSyn gSynType Tryz.underlying125 rowES Tryz.underlying199 Tryz.underlying201 rfl rfl Tryz.underlying9 cellsES cellsS
  obtain ⟨a0, s0, hv0, hc0, hs0, hz0⟩ := laid_sentinel (laidMet.tail (laidMet.tail hL3)) gE gEType Tryz.underlying125 rowES Tryz.underlying199 Tryz.underlying201 rfl rfl Tryz.underlying9 cellsES cellsS
  obtain ⟨rfl, rfl⟩ := hV.unique (vars_read1 enc gE gEType Tryz.underlying125 hv0 trivial _)
  have hg0 : W.cell? ⟨1, 0, none⟩ = some (.iface 199 (.pointer (some a0))) := by simpa using World.var?_cell gE hv0 0
  have hE : Env W := ⟨htab, ⟨_, _, hg0⟩, ⟨_, _, by simpa using World.var?_cell gSyn hvy 0⟩, ⟨_, _, by simpa using World.var?_cell gRan hvr 0⟩⟩
  obtain ⟨a, len, cap, rfl⟩ := okWide_slice Tryz.underlying22 (hval 0 22 v0 rfl rfl)
  have k0 := h0
  have lt0 : ∀ x ∈ p, x.block < W.heap.size := by obtain ⟨m, hm⟩ := k0; exact DataW.trod_lt m _ _ _ hm
  obtain ⟨xs, rfl, hx, hb⟩ : ∃ xs : List Int, len = xs.length ∧ (xs = [] ∨ ∃ b off, a = some ⟨b, off, none⟩ ∧ ∀ k, k < xs.length → W.cell? ⟨b, off + k, none⟩ = some (.int .u8 (xs.getD k 0))) ∧ (∀ k, k < xs.length → 0 ≤ xs.getD k 0 ∧ xs.getD k 0 ≤ 255) := by
    obtain ⟨fuel, hf⟩ := h0
    rcases open_ints Tryz.underlying22 Tryz.underlying5 (by kernel_rfl) hf with ⟨hcs, _⟩ | ⟨x, l, c, zs, hcs, _, hl, hm, hz, _, hcell, hwz⟩
    · simp [Value.cells] at hcs
      obtain ⟨rfl, rfl, rfl⟩ := hcs
      exact ⟨[], rfl, .inl rfl, fun k hk => by simp at hk⟩
    · simp [Value.cells] at hcs
      obtain ⟨rfl, rfl, rfl⟩ := hcs
      obtain ⟨e, r⟩ := open_bytes hl (by simpa using hz) hcell
      exact ⟨zs.take len, e.symm, r, bytes_fit hwz⟩
  clear hA0 hV0 hval0
  refine (fnBlocks_walk a cap xs W hx hb hE).mono fun e W' ⟨he, bel⟩ => ?_
  subst he
  have hv1 : W'.var? Tryz.prog "loop.example/g00448/impl.errNoNumber" = some #[.iface 199 (.pointer (some a0))] := var?_below bel gE (cell_lt hg0) hv0
  exact ⟨_, rfl, _, _, _, [], _, [.cell 1 0], hW', trodAll_mk1 (shut_bool Tryz.underlying4 _), trodAll_mk1 (Below.trod laidOut (by kernel_rfl) (of_decide_eq_true (by kernel_rfl)) k0 bel lt0), vars_read1 enc gE gEType Tryz.underlying125 hv1 trivial _, bel.frame _, fun h => by cases h⟩

theorem said : Rows.FnBlocksSaid :=
  OpenClaim.holds_of_wide 3 Tryz.f3 rfl rfl rfl rfl rfl rfl rfl ⟨rfl, rfl, rfl, rfl, rfl⟩ rfl rfl rfl rfl rfl (by kernel_rfl) Tryz.func3 (by kernel_rfl)
    (of_decide_eq_true (by kernel_rfl)) (by unfold Func.isWrapper; first | (rw [if_pos (by decide +kernel)]; kernel_rfl) | (rw [if_neg (by decide +kernel)]; exact ⟨rfl, rfl⟩))
    (fun os started H enc _ => lifted os started H enc)
end Go.Proofs.YtggmgfkmbgcooaaGreatDoor.fnBlocks
namespace Go.Proofs.YtggmgfkmbgcooaaGreatDoor
/-- THE CARD. -/
theorem fnBlocks_holds : Rows.FnBlocksCardSaid :=
  Claim7.holds_tied_plain_at .later [] _ _ _ _ fnBlocks.said (fun _ h => by cases h) (by kernel_rfl) (fun _ h => by cases h) fnBlocks_row_tie rfl ⟨rfl, rfl⟩ (by kernel_rfl) rfl
    (fun f fn hf hfn => by
      obtain rfl : f = 3 := Option.some.inj ((show Tryz.prog.funcNamed "loop.example/g00448/laws.FnBlocks" = some 3 by kernel_rfl).symm.trans hf) |>.symm
      obtain rfl : fn = Tryz.f3 := (Option.some.inj (Tryz.func3.symm.trans hfn)).symm
      exact ⟨by kernel_rfl, fun j t ht => by
        rw [Tryz.params3] at ht
        have hm : t ∈ [22] := by simpa using Array.mem_of_getElem? ht
        have hall : ([22].all fun u => !Tryz.prog.wantsStandIn u) = true := by kernel_rfl
        exact (show Tryz.prog.wantsStandIn t = false by simpa using List.all_eq_true.1 hall t hm)⟩)
    (by kernel_rfl)
#print axioms fnBlocks_holds
end Go.Proofs.YtggmgfkmbgcooaaGreatDoor
