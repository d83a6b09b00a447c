/- For every text, every view and every list of payments laws.FnExactNameOf returns true and leaves what was in memory as it was: impl.NameOf answers what spec.NameOf answers, and writes into no argument, of every text of at most 1048576 bytes and at most 1048576 payments (the law answers true of more by itself). Conditions: the package variable errNoNumber, the two errors and the tables of the library hold what the text lays (the card ties them to that text). -/
import Derived.Test.YtiaafigpgnimeaaDoorDoorQ
import Derived.Deep.Slices
import Derived.Lib.SmallJoins
import Derived.Test.YtiaafigpgnimeaaDoorNameOfWalkQ
import Derived.Test.YtiaafigpgnimeaaDoorCards
import Derived.Test.YtiaafigpgnimeaaDoorTie
/- For every text, every view and every list of payments laws.FnExactNameOf returns true and leaves what was in memory as it was: impl.NameOf answers what spec.NameOf answers, and writes into no argument, of every text of at most 1048576 bytes and at most 1048576 payments (the law answers true of more by itself). Conditions: the package variable errNoNumber, the two errors and the tables of the library hold what the text lays (the card ties them to that text). -/
namespace Go.Proofs.YtiaafigpgnimeaaDoor.fnExactNameOf
open Go.ChangeShapes Go.WideShapes Go.ChangeAt Go.RowKit Go.Joins
open Go.ChangeMaps (open_string shut_string)
set_option linter.unusedVariables false

theorem gPowType : (Tryd.prog.globals[2]?).map (·.type) = some 126 := by kernel_rfl
theorem cellsTab : Tryd.prog.cellsOf 126 = 20 := by kernel_rfl
theorem cells64 : Tryd.prog.cellsOf 118 = 1 := by kernel_rfl
theorem gSyn : Tryd.prog.globalNamed "strconv.ErrSyntax" = some 3 := by kernel_rfl
theorem gSynType : (Tryd.prog.globals[3]?).map (·.type) = some 89 := by kernel_rfl
theorem gRan : Tryd.prog.globalNamed "strconv.ErrRange" = some 4 := by kernel_rfl
theorem gRanType : (Tryd.prog.globals[4]?).map (·.type) = some 89 := by kernel_rfl

theorem cellsTx : Tryd.prog.cellsOf 67 = 4 := by kernel_rfl
theorem field_int {H : Type} {enc : TypeId × Value → H} {W : World} {n : Nat} {c : Value} {y : DataW H × List MemPlace} (h : DataW.trod enc Tryd.prog W 0 (fun _ => true) true n 3 [c] = some y) : ∃ a : Int, c = .int .i64 a := by
  obtain ⟨a, e0, _, _⟩ := DataW.trod_int Tryd.underlying3 h
  simp at e0
  exact ⟨a, e0⟩
theorem four_list {α : Type} {l : List α} (h : l.length = 4) : ∃ a b c d, l = [a, b, c, d] := by
  match l, h with
  | [a, b, c, d], _ => exact ⟨a, b, c, d, rfl⟩
/-- What came in: a list of payments. -/
theorem open_txs {H : Type} {enc : TypeId × Value → H} {W : World} {fuel : Nat} {a : Option Addr} {len cap : Nat} {x : DataW H × List MemPlace} (h : DataW.trod enc Tryd.prog W 0 (fun _ => true) true fuel 32 (Value.slice a len cap).cells.toList = some x) :
    ∃ xs : List T4, len = xs.length ∧ xs.length ≤ maxLen ∧ AR W a xs := by
  rcases Go.Deep.open_slice Tryd.underlying32 h with ⟨hcs, _⟩ | ⟨ad, l, c, m, n, D, Pl, hcs, _, hl, hm, hmm, _, hx⟩
  · simp [Value.cells] at hcs
    obtain ⟨rfl, rfl, rfl⟩ := hcs
    exact ⟨[], rfl, by simp, .inl rfl⟩
  · simp [Value.cells] at hcs
    obtain ⟨rfl, rfl, rfl⟩ := hcs
    have hm' : m = cap := by simpa using hmm
    have each : ∀ i, ∃ q : T4, i < len → W.cell? (ad.add (i * 4)) = some (.int .i64 q.1) ∧ W.cell? (ad.add (i * 4 + 1)) = some (.int .i64 q.2.1) ∧ W.cell? (ad.add (i * 4 + 2)) = some (.int .i64 q.2.2.1) ∧ W.cell? (ad.add (i * 4 + 3)) = some (.int .i64 q.2.2.2) := by
      intro i
      by_cases hi : i < len
      · obtain ⟨cs', h1, h2⟩ := hx i (by omega)
        rw [cellsTx] at h1
        obtain ⟨_, hlen, hcell⟩ := World.cells?_some h1
        obtain ⟨y0, y1, y2, y3, k, _, _, g0, g1, g2, g3⟩ := trod_struct4 Tryd.underlying67 h2
        obtain ⟨v0, v1, v2, v3, rfl⟩ := four_list hlen
        have e0 := hcell 0 (by omega)
        have e1 := hcell 1 (by omega)
        have e2 := hcell 2 (by omega)
        have e3 := hcell 3 (by omega)
        rw [Go.Deep.add_add] at e0 e1 e2 e3
        have ci : Tryd.prog.cellsOf 3 = 1 := by kernel_rfl
        simp [ci] at g0 g1 g2 g3
        obtain ⟨a0, rfl⟩ := field_int g0
        obtain ⟨a1, rfl⟩ := field_int g1
        obtain ⟨a2, rfl⟩ := field_int g2
        obtain ⟨a3, rfl⟩ := field_int g3
        exact ⟨(a0, a1, a2, a3), fun _ => ⟨by simpa using e0, by simpa using e1, by simpa using e2, by simpa using e3⟩⟩
      · exact ⟨(0, 0, 0, 0), fun h => absurd h hi⟩
    obtain ⟨q, hq⟩ := Classical.axiomOfChoice each
    refine ⟨(List.range len).map q, by simp, by simp; omega, ?_⟩
    by_cases h0 : len = 0
    · left; simp [h0]
    · right
      obtain ⟨b, off, spot⟩ := ad
      have hc := (hq 0 (by omega)).1
      have hspot : spot = none := by simpa [Addr.add] using World.cell?_spot hc
      subst hspot
      refine ⟨b, off, rfl, fun k hk => ?_⟩
      rw [List.length_map, List.length_range] at hk
      have := hq k hk
      have ea : ∀ j, ((⟨b, off, none⟩ : Addr).add j) = ⟨b, off + j, none⟩ := fun j => by unfold Addr.add; split <;> simp_all
      rw [ea, ea, ea, ea] at this
      have eg : ((List.range len).map q).getD k (0, 0, 0, 0) = q k := by simp [hk]
      rw [eg]
      simpa [Nat.add_assoc] using this

/-- The door's own heap meets the condition. -/
theorem door_met (os : Os) (args : Array Value) : laidMetH Tryd.prog Rows.fnExactNameOfRow.laid ((World.doorLaid Tryd.prog 400 os).forCall (fun _ _ => 0) ⟨#[], args, []⟩).memory :=
  laidMetH_of_parts3 (fuel := 8) (laidMet_of_run' 8 (by kernel_rfl) (by kernel_rfl)) (by kernel_rfl) (by kernel_rfl)

set_option maxRecDepth 100000 in
theorem lifted (os : Os) (started : os.Started) (H : Type) (enc : TypeId × Value → H) :
    ReturnsInHanded {} Tryd.checked os 6 .any (fun w args => (Rows.fnExactNameOfSpec.pre enc Tryd.prog Tryd.f6 [] false w args ∧ laidMetH Tryd.prog Rows.fnExactNameOfRow.laid w) ∧ sizedMet enc Tryd.prog Tryd.f6 (OpenSpec.ofChange Rows.fnExactNameOfSpec) false w args)
      (Rows.fnExactNameOfSpec.post enc Tryd.prog Tryd.f6 false true false false) := by
  refine returnsInHanded_of_change_and (C := Tryd.checked) (X := fun w _ => laidMetH Tryd.prog Rows.fnExactNameOfRow.laid w) (fun _ _ _ hh h => h.of_heap hh) own started (by kernel_rfl) Tryd.func6
    (ChangeSpec.witness_shaped (enc := enc) (C := Tryd.checked) (os := os) (X := fun w _ => laidMetH Tryd.prog Rows.fnExactNameOfRow.laid w) false (World.doorLaid Tryd.prog 400 os) #[.string ByteArray.empty, .int .i64 0, .slice none 0 0] 8 rfl (World.shaped_of_RefB (by kernel_rfl) (by kernel_rfl)) (by kernel_rfl) (by kernel_rfl) (by kernel_rfl) (door_met os _)) ?_
  intro W base args ds gs before hval0 hW _ _ hL _
  have hval : ∀ (j : Nat) t v, Tryd.f6.params[j]? = some t → args[j]? = some v → Value.okWide Tryd.prog W .any base t v := hval0
  have hW' := hW
  obtain ⟨p, q, hA0, hV0, rfl, hfz, hnd⟩ := hW
  have hA : DataW.TrodAll enc Tryd.prog W 0 (fun _ => true) true Tryd.f6.params.toList args.toList ds p := hA0
  have hV : DataW.TrodVars enc Tryd.prog W (fun _ => true) ["loop.example/g00448/impl.errNoNumber"] gs q := hV0
  rw [Tryd.params6] at hA hval
  obtain ⟨v0, v1, v2, d0, d1, d2, p0, p1, p2, rfl, rfl, rfl, h0, h1, h2⟩ := trodAll_three hA
  rw [MakeChecks.laidMetH_plain _ _ _ (by kernel_rfl)] at hL
  have htab : Pow W := Lib.tabIs_of_head gPow gPowType Tryd.underlying126 Tryd.underlying118 cells64 cellsTab (laidMet.tail (laidMet.tail hL))
  have hL3 := laidMet.tail (laidMet.tail (laidMet.tail hL))
  obtain ⟨ar, sr, hvr, _, _, _⟩ := laid_sentinel hL3 gRan gRanType Tryd.underlying89 rowES Tryd.underlying145 Tryd.underlying147 rfl rfl Tryd.underlying9 cellsES cellsS
  obtain ⟨ay, sy, hvy, _, _, _⟩ := laid_sentinel (laidMet.tail hL3) gSyn gSynType Tryd.underlying89 rowES Tryd.underlying145 Tryd.underlying147 rfl rfl Tryd.underlying9 cellsES cellsS
  obtain ⟨a0, s0, hv0, hc0, hs0, hz0⟩ := laid_sentinel (laidMet.tail (laidMet.tail hL3)) gE gEType Tryd.underlying89 rowES Tryd.underlying145 Tryd.underlying147 rfl rfl Tryd.underlying9 cellsES cellsS
  obtain ⟨rfl, rfl⟩ := hV.unique (vars_read1 enc gE gEType Tryd.underlying89 hv0 trivial _)
  have hg0 : W.cell? ⟨1, 0, none⟩ = some (.iface 145 (.pointer (some a0))) := by simpa using World.var?_cell gE hv0 0
  have hE : Env W := ⟨htab, ⟨_, _, hg0⟩, ⟨_, _, by simpa using World.var?_cell gSyn hvy 0⟩, ⟨_, _, by simpa using World.var?_cell gRan hvr 0⟩⟩
  obtain ⟨s, rfl, rfl, rfl, ws⟩ := open_string Tryd.underlying9 (hval 0 9 v0 rfl rfl) h0
  obtain ⟨n, rfl, rfl, rfl, wn⟩ := open_int Tryd.underlying3 (hval 1 3 v1 rfl rfl) h1
  have bn := bounds_i64 wn
  obtain ⟨a, len, cap, rfl⟩ := okWide_slice Tryd.underlying32 (hval 2 32 v2 rfl rfl)
  have k2 := h2
  have lt2 : ∀ x ∈ p2, x.block < W.heap.size := by obtain ⟨m, hm⟩ := k2; exact DataW.trod_lt m _ _ _ hm
  obtain ⟨xs, rfl, hcap, hx⟩ : ∃ xs : List T4, len = xs.length ∧ xs.length ≤ maxLen ∧ AR W a xs := by
    obtain ⟨fuel, hf⟩ := h2
    exact open_txs hf
  clear hA0 hV0 hval0
  refine (fnNameOf_walk s n a cap xs W (by omega) (by omega) hcap hx hE).mono fun e W' ⟨he, bel⟩ => ?_
  subst he
  have hv1 : W'.var? Tryd.prog "loop.example/g00448/impl.errNoNumber" = some #[.iface 145 (.pointer (some a0))] := var?_below bel gE (cell_lt hg0) hv0
  exact ⟨_, rfl, _, _, _, [], _, [.cell 1 0], hW', trodAll_mk1 (shut_bool Tryd.underlying4 _), trodAll_mk3 (shut_string Tryd.underlying9 ws) (shut_int Tryd.underlying3 wn) (Below.trod laidOut (by kernel_rfl) (of_decide_eq_true (by kernel_rfl)) k2 bel lt2), vars_read1 enc gE gEType Tryd.underlying89 hv1 trivial _, bel.frame _, fun h => by cases h⟩

theorem said : Rows.FnExactNameOfSaid :=
  OpenClaim.holds_of_wide 6 Tryd.f6 rfl rfl rfl rfl rfl rfl rfl ⟨rfl, rfl, rfl, rfl, rfl⟩ rfl rfl rfl rfl rfl (by kernel_rfl) Tryd.func6 (by kernel_rfl)
    (of_decide_eq_true (by kernel_rfl)) (by unfold Func.isWrapper; first | (rw [if_pos (by decide +kernel)]; kernel_rfl) | (rw [if_neg (by decide +kernel)]; exact ⟨rfl, rfl⟩))
    (fun os started H enc _ => lifted os started H enc)
end Go.Proofs.YtiaafigpgnimeaaDoor.fnExactNameOf
namespace Go.Proofs.YtiaafigpgnimeaaDoor
/-- THE CARD. -/
theorem fnExactNameOf_holds : Rows.FnExactNameOfCardSaid :=
  Claim7.holds_tied_plain_at .later [] _ _ _ _ fnExactNameOf.said (fun _ h => by cases h) (by kernel_rfl) (fun _ h => by cases h) fnExactNameOf_row_tie rfl ⟨rfl, rfl⟩ (by kernel_rfl) rfl
    (fun f fn hf hfn => by
      obtain rfl : f = 6 := Option.some.inj ((show Tryd.prog.funcNamed "loop.example/g00448/laws.FnExactNameOf" = some 6 by kernel_rfl).symm.trans hf) |>.symm
      obtain rfl : fn = Tryd.f6 := (Option.some.inj (Tryd.func6.symm.trans hfn)).symm
      exact ⟨by kernel_rfl, fun j t ht => by
        rw [Tryd.params6] at ht
        have hm : t ∈ [9, 3, 32] := by simpa using Array.mem_of_getElem? ht
        have hall : ([9, 3, 32].all fun u => !Tryd.prog.wantsStandIn u) = true := by kernel_rfl
        exact (show Tryd.prog.wantsStandIn t = false by simpa using List.all_eq_true.1 hall t hm)⟩)
    (by kernel_rfl)
#print axioms fnExactNameOf_holds
end Go.Proofs.YtiaafigpgnimeaaDoor
