/- For every Conf, every certificate, every view and every list of payments laws.FnExactBlockNew returns true and leaves what was in memory as it was: impl.BlockNew answers what spec.BlockNew answers, field by field, its answer owns its memory, behind another call too, and it writes into no argument, where the certificate's name and voters and the payments are together at most 1048576 bytes, numbers and payments (the law answers true of more by itself). Conditions: the package variable errNoNumber, the two errors and the tables of the library hold what the text lays (the card ties them to that text). -/
import Derived.Test.YtggmgfkmbgcooaaGreatDoorDoorQ
import Derived.Deep.Slices
import Derived.Lib.SmallJoins
import Derived.Test.YtggmgfkmbgcooaaGreatDoorBlockNewWalkQ
import Derived.Test.YtggmgfkmbgcooaaGreatDoorQcOpenQ
import Derived.Test.YtggmgfkmbgcooaaGreatDoorCards
import Derived.Test.YtggmgfkmbgcooaaGreatDoorTie
/- For every Conf, every certificate, every view and every list of payments laws.FnExactBlockNew returns true and leaves what was in memory as it was: impl.BlockNew answers what spec.BlockNew answers, field by field, its answer owns its memory, behind another call too, and it writes into no argument, where the certificate's name and voters and the payments are together at most 1048576 bytes, numbers and payments (the law answers true of more by itself). Conditions: the package variable errNoNumber, the two errors and the tables of the library hold what the text lays (the card ties them to that text). -/
namespace Go.Proofs.YtggmgfkmbgcooaaGreatDoor.fnExactBlockNew
open Go.ChangeShapes Go.WideShapes Go.ChangeAt Go.RowKit Go.Joins
open Go.ChangeMaps (open_string shut_string)
set_option linter.unusedVariables false

theorem gPowType : (Tryz.prog.globals[2]?).map (·.type) = some 179 := by kernel_rfl
theorem cellsTab : Tryz.prog.cellsOf 179 = 20 := by kernel_rfl
theorem cells64 : Tryz.prog.cellsOf 168 = 1 := by kernel_rfl
theorem gSyn : Tryz.prog.globalNamed "strconv.ErrSyntax" = some 5 := by kernel_rfl
theorem gSynType : (Tryz.prog.globals[5]?).map (·.type) = some 125 := by kernel_rfl
theorem gRan : Tryz.prog.globalNamed "strconv.ErrRange" = some 6 := by kernel_rfl
theorem gRanType : (Tryz.prog.globals[6]?).map (·.type) = some 125 := by kernel_rfl

theorem cellsTx : Tryz.prog.cellsOf 92 = 4 := by kernel_rfl
theorem field_int {H : Type} {enc : TypeId × Value → H} {W : World} {n : Nat} {c : Value} {y : DataW H × List MemPlace} (h : DataW.trod enc Tryz.prog W 0 (fun _ => true) true n 3 [c] = some y) : ∃ a : Int, c = .int .i64 a := by
  obtain ⟨a, e0, _, _⟩ := DataW.trod_int Tryz.underlying3 h
  simp at e0
  exact ⟨a, e0⟩
theorem four_list {α : Type} {l : List α} (h : l.length = 4) : ∃ a b c d, l = [a, b, c, d] := by
  match l, h with
  | [a, b, c, d], _ => exact ⟨a, b, c, d, rfl⟩
/-- What came in: a list of payments. -/
theorem open_txs {H : Type} {enc : TypeId × Value → H} {W : World} {fuel : Nat} {a : Option Addr} {len cap : Nat} {x : DataW H × List MemPlace} (h : DataW.trod enc Tryz.prog W 0 (fun _ => true) true fuel 53 (Value.slice a len cap).cells.toList = some x) :
    ∃ xs : List T4, len = xs.length ∧ xs.length ≤ maxLen ∧ AR W a xs := by
  rcases Go.Deep.open_slice Tryz.underlying53 h with ⟨hcs, _⟩ | ⟨ad, l, c, m, n, D, Pl, hcs, _, hl, hm, hmm, _, hx⟩
  · simp [Value.cells] at hcs
    obtain ⟨rfl, rfl, rfl⟩ := hcs
    exact ⟨[], rfl, by simp, .inl rfl⟩
  · simp [Value.cells] at hcs
    obtain ⟨rfl, rfl, rfl⟩ := hcs
    have hm' : m = cap := by simpa using hmm
    have each : ∀ i, ∃ q : T4, i < len → W.cell? (ad.add (i * 4)) = some (.int .i64 q.1) ∧ W.cell? (ad.add (i * 4 + 1)) = some (.int .i64 q.2.1) ∧ W.cell? (ad.add (i * 4 + 2)) = some (.int .i64 q.2.2.1) ∧ W.cell? (ad.add (i * 4 + 3)) = some (.int .i64 q.2.2.2) := by
      intro i
      by_cases hi : i < len
      · obtain ⟨cs', h1, h2⟩ := hx i (by omega)
        rw [cellsTx] at h1
        obtain ⟨_, hlen, hcell⟩ := World.cells?_some h1
        obtain ⟨y0, y1, y2, y3, k, _, _, g0, g1, g2, g3⟩ := trod_struct4 Tryz.underlying92 h2
        obtain ⟨v0, v1, v2, v3, rfl⟩ := four_list hlen
        have e0 := hcell 0 (by omega)
        have e1 := hcell 1 (by omega)
        have e2 := hcell 2 (by omega)
        have e3 := hcell 3 (by omega)
        rw [Go.Deep.add_add] at e0 e1 e2 e3
        have ci : Tryz.prog.cellsOf 3 = 1 := by kernel_rfl
        simp [ci] at g0 g1 g2 g3
        obtain ⟨a0, rfl⟩ := field_int g0
        obtain ⟨a1, rfl⟩ := field_int g1
        obtain ⟨a2, rfl⟩ := field_int g2
        obtain ⟨a3, rfl⟩ := field_int g3
        exact ⟨(a0, a1, a2, a3), fun _ => ⟨by simpa using e0, by simpa using e1, by simpa using e2, by simpa using e3⟩⟩
      · exact ⟨(0, 0, 0, 0), fun h => absurd h hi⟩
    obtain ⟨q, hq⟩ := Classical.axiomOfChoice each
    refine ⟨(List.range len).map q, by simp, by simp; omega, ?_⟩
    by_cases h0 : len = 0
    · left; simp [h0]
    · right
      obtain ⟨b, off, spot⟩ := ad
      have hc := (hq 0 (by omega)).1
      have hspot : spot = none := by simpa [Addr.add] using World.cell?_spot hc
      subst hspot
      refine ⟨b, off, rfl, fun k hk => ?_⟩
      rw [List.length_map, List.length_range] at hk
      have := hq k hk
      have ea : ∀ j, ((⟨b, off, none⟩ : Addr).add j) = ⟨b, off + j, none⟩ := fun j => by unfold Addr.add; split <;> simp_all
      rw [ea, ea, ea, ea] at this
      have eg : ((List.range len).map q).getD k (0, 0, 0, 0) = q k := by simp [hk]
      rw [eg]
      simpa [Nat.add_assoc] using this

/-- The door's own heap meets the condition. -/
theorem door_met (os : Os) (args : Array Value) : laidMetH Tryz.prog Rows.fnExactBlockNewRow.laid ((World.doorLaid Tryz.prog 400 os).forCall (fun _ _ => 0) ⟨#[], args, []⟩).memory :=
  laidMetH_of_parts3 (fuel := 8) (laidMet_of_run' 8 (by kernel_rfl) (by kernel_rfl)) (by kernel_rfl) (by kernel_rfl)

set_option maxRecDepth 100000 in
theorem lifted (os : Os) (started : os.Started) (H : Type) (enc : TypeId × Value → H) :
    ReturnsInHanded {} Tryz.checked os 5 .any (fun w args => (Rows.fnExactBlockNewSpec.pre enc Tryz.prog Tryz.f5 [] false w args ∧ laidMetH Tryz.prog Rows.fnExactBlockNewRow.laid w) ∧ sizedMet enc Tryz.prog Tryz.f5 (OpenSpec.ofChange Rows.fnExactBlockNewSpec) false w args)
      (Rows.fnExactBlockNewSpec.post enc Tryz.prog Tryz.f5 false true false false) := by
  have di0 : ∀ (a b c d : Int), Decidable (Ok4 a b c d) := fun a b c d => Classical.choice ((Classical.em (Ok4 a b c d)).elim (fun h => ⟨.isTrue h⟩) (fun h => ⟨.isFalse h⟩))
  have di1 : ∀ (a b c d : Nat), Decidable (okN a b c d) := fun a b c d => Classical.choice ((Classical.em (okN a b c d)).elim (fun h => ⟨.isTrue h⟩) (fun h => ⟨.isFalse h⟩))
  have di2 : ∀ (last : Int) (s : St), Decidable (GoodSt last s) := fun last s => Classical.choice ((Classical.em (GoodSt last s)).elim (fun h => ⟨.isTrue h⟩) (fun h => ⟨.isFalse h⟩))
  have di3 : ∀ (x : T4), Decidable (OkT x) := fun x => Classical.choice ((Classical.em (OkT x)).elim (fun h => ⟨.isTrue h⟩) (fun h => ⟨.isFalse h⟩))
  have di4 : ∀ (n : Int) (s : List Int), Decidable (OkL n s) := fun n s => Classical.choice ((Classical.em (OkL n s)).elim (fun h => ⟨.isTrue h⟩) (fun h => ⟨.isFalse h⟩))
  have di5 : ∀ (n f : Int), Decidable (COk n f) := fun n f => Classical.choice ((Classical.em (COk n f)).elim (fun h => ⟨.isTrue h⟩) (fun h => ⟨.isFalse h⟩))
  have di6 : ∀ (ts : List T4), Decidable (AllOk ts) := fun ts => Classical.choice ((Classical.em (AllOk ts)).elim (fun h => ⟨.isTrue h⟩) (fun h => ⟨.isFalse h⟩))
  refine returnsInHanded_of_change_and (C := Tryz.checked) (X := fun w _ => laidMetH Tryz.prog Rows.fnExactBlockNewRow.laid w) (fun _ _ _ hh h => h.of_heap hh) own started (by kernel_rfl) Tryz.func5
    (ChangeSpec.witness_shaped (enc := enc) (C := Tryz.checked) (os := os) (X := fun w _ => laidMetH Tryz.prog Rows.fnExactBlockNewRow.laid w) false (World.doorLaid Tryz.prog 400 os) #[cv 0 0, qv 0 ⟨#[]⟩ (.slice none 0 0), .int .i64 0, .slice none 0 0] 8 rfl (World.shaped_of_RefB (by kernel_rfl) (by kernel_rfl)) (by kernel_rfl) (by kernel_rfl) (by kernel_rfl) (door_met os _)) ?_
  intro W base args ds gs before hval0 hW _ _ hL _
  have hval : ∀ (j : Nat) t v, Tryz.f5.params[j]? = some t → args[j]? = some v → Value.okWide Tryz.prog W .any base t v := hval0
  have hW' := hW
  obtain ⟨p, q, hA0, hV0, rfl, hfz, hnd⟩ := hW
  have hA : DataW.TrodAll enc Tryz.prog W 0 (fun _ => true) true Tryz.f5.params.toList args.toList ds p := hA0
  have hV : DataW.TrodVars enc Tryz.prog W (fun _ => true) ["loop.example/g00448/impl.errNoNumber"] gs q := hV0
  rw [Tryz.params5] at hA hval
  obtain ⟨v0, vs0, d0, ds0, p0, q0, hargs, rfl, rfl, h0, r0⟩ := trodAll_cons hA
  obtain ⟨v1, vs1, d1, ds1, p1, q1, rfl, rfl, rfl, h1, r1⟩ := trodAll_cons r0
  obtain ⟨v2, vs2, d2, ds2, p2, q2, rfl, rfl, rfl, h2, r2⟩ := trodAll_cons r1
  obtain ⟨v3, vs3, d3, ds3, p3, q3, rfl, rfl, rfl, h3, r3⟩ := trodAll_cons r2
  obtain ⟨rfl, rfl, rfl⟩ := trodAll_nil r3
  obtain rfl : args = #[v0, v1, v2, v3] := by cases args; simp_all
  rw [MakeChecks.laidMetH_plain _ _ _ (by kernel_rfl)] at hL
  have htab : Pow W := Lib.tabIs_of_head gPow gPowType Tryz.underlying179 Tryz.underlying168 cells64 cellsTab (laidMet.tail (laidMet.tail hL))
  have hL3 := laidMet.tail (laidMet.tail (laidMet.tail hL))
  obtain ⟨ar, sr, hvr, _, _, _⟩ := laid_sentinel hL3 gRan gRanType Tryz.underlying125 rowES Tryz.underlying199 Tryz.underlying201 rfl rfl Tryz.underlying9 cellsES cellsS
  obtain ⟨ay, sy, hvy, _, _, _⟩ := laid_sentinel (laidMet.tail hL3) gSyn gSynType Tryz.underlying125 rowES Tryz.underlying199 Tryz.underlying201 rfl rfl Tryz.underlying9 cellsES cellsS
  obtain ⟨a0, s0, hv0, hc0, hs0, hz0⟩ := laid_sentinel (laidMet.tail (laidMet.tail hL3)) gE gEType Tryz.underlying125 rowES Tryz.underlying199 Tryz.underlying201 rfl rfl Tryz.underlying9 cellsES cellsS
  obtain ⟨rfl, rfl⟩ := hV.unique (vars_read1 enc gE gEType Tryz.underlying125 hv0 trivial _)
  have hg0 : W.cell? ⟨1, 0, none⟩ = some (.iface 199 (.pointer (some a0))) := by simpa using World.var?_cell gE hv0 0
  have hE : Env W := ⟨htab, ⟨_, _, hg0⟩, ⟨_, _, by simpa using World.var?_cell gSyn hvy 0⟩, ⟨_, _, by simpa using World.var?_cell gRan hvr 0⟩⟩
  have k0 := h0
  have lt0 : ∀ x ∈ p0, x.block < W.heap.size := by obtain ⟨m, hm⟩ := k0; exact DataW.trod_lt m _ _ _ hm
  obtain ⟨n0, f0, rfl⟩ := open_conf (hval 0 45 v0 rfl rfl) h0
  have k1 := h1
  have lt1 : ∀ x ∈ p1, x.block < W.heap.size := by obtain ⟨m, hm⟩ := k1; exact DataW.trod_lt m _ _ _ hm
  obtain ⟨n1, s1, ao1, ca1, xs1, rfl, hs1, hn1, hr1, wf1⟩ := open_qc (hval 1 46 v1 rfl rfl) h1
  obtain ⟨view, rfl, rfl, rfl, wn⟩ := open_int Tryz.underlying3 (hval 2 3 v2 rfl rfl) h2
  have bn := bounds_i64 wn
  obtain ⟨lo, len, cap, rfl⟩ := okWide_slice Tryz.underlying53 (hval 3 53 v3 rfl rfl)
  have k3 := h3
  have lt3 : ∀ x ∈ p3, x.block < W.heap.size := by obtain ⟨m, hm⟩ := k3; exact DataW.trod_lt m _ _ _ hm
  obtain ⟨ts, rfl, hcap, hx⟩ : ∃ xs : List T4, len = xs.length ∧ xs.length ≤ maxLen ∧ AR W lo xs := by
    obtain ⟨fuel, hf⟩ := h3
    exact open_txs hf
  clear hA0 hV0 hval0
  refine (fnBlockNew_walk n0 f0 n1 s1 ao1 ca1 xs1 view lo cap ts W hs1 hn1 hcap (by omega) (by omega) hr1 hx hE).mono fun e W' ⟨he, bel⟩ => ?_
  subst he
  have hv1 : W'.var? Tryz.prog "loop.example/g00448/impl.errNoNumber" = some #[.iface 199 (.pointer (some a0))] := var?_below bel gE (cell_lt hg0) hv0
  exact ⟨_, rfl, _, _, _, [], _, [.cell 1 0], hW', trodAll_mk1 (shut_bool Tryz.underlying4 _), (trodAll_cons_mk (Below.trod laidOut (by kernel_rfl) (of_decide_eq_true (by kernel_rfl)) k0 bel lt0) (trodAll_cons_mk (Below.trod laidOut (by kernel_rfl) (of_decide_eq_true (by kernel_rfl)) k1 bel lt1) (trodAll_cons_mk (shut_int Tryz.underlying3 wn) (trodAll_cons_mk (Below.trod laidOut (by kernel_rfl) (of_decide_eq_true (by kernel_rfl)) k3 bel lt3) trodAll_mk0)))), vars_read1 enc gE gEType Tryz.underlying125 hv1 trivial _, bel.frame _, fun h => by cases h⟩

theorem said : Rows.FnExactBlockNewSaid :=
  OpenClaim.holds_of_wide 5 Tryz.f5 rfl rfl rfl rfl rfl rfl rfl ⟨rfl, rfl, rfl, rfl, rfl⟩ rfl rfl rfl rfl rfl (by kernel_rfl) Tryz.func5 (by kernel_rfl)
    (of_decide_eq_true (by kernel_rfl)) (by unfold Func.isWrapper; first | (rw [if_pos (by decide +kernel)]; kernel_rfl) | (rw [if_neg (by decide +kernel)]; exact ⟨rfl, rfl⟩))
    (fun os started H enc _ => lifted os started H enc)
end Go.Proofs.YtggmgfkmbgcooaaGreatDoor.fnExactBlockNew
namespace Go.Proofs.YtggmgfkmbgcooaaGreatDoor
/-- THE CARD. -/
theorem fnExactBlockNew_holds : Rows.FnExactBlockNewCardSaid :=
  Claim7.holds_tied_plain_at .later [] _ _ _ _ fnExactBlockNew.said (fun _ h => by cases h) (by kernel_rfl) (fun _ h => by cases h) fnExactBlockNew_row_tie rfl ⟨rfl, rfl⟩ (by kernel_rfl) rfl
    (fun f fn hf hfn => by
      obtain rfl : f = 5 := Option.some.inj ((show Tryz.prog.funcNamed "loop.example/g00448/laws.FnExactBlockNew" = some 5 by kernel_rfl).symm.trans hf) |>.symm
      obtain rfl : fn = Tryz.f5 := (Option.some.inj (Tryz.func5.symm.trans hfn)).symm
      exact ⟨by kernel_rfl, fun j t ht => by
        rw [Tryz.params5] at ht
        have hm : t ∈ [45, 46, 3, 53] := by simpa using Array.mem_of_getElem? ht
        have hall : ([45, 46, 3, 53].all fun u => !Tryz.prog.wantsStandIn u) = true := by kernel_rfl
        exact (show Tryz.prog.wantsStandIn t = false by simpa using List.all_eq_true.1 hall t hm)⟩)
    (by kernel_rfl)
#print axioms fnExactBlockNew_holds
end Go.Proofs.YtggmgfkmbgcooaaGreatDoor
