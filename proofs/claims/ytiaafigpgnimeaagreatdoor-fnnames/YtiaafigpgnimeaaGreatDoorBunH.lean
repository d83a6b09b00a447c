/- impl.TxsIn. -/
import Derived.Test.YtiaafigpgnimeaaGreatDoorBunG
import Derived.Test.YtiaafigpgnimeaaGreatDoorBunF
/- impl.TxsIn. -/
namespace Go.Proofs.YtiaafigpgnimeaaGreatDoor
open Go.RowKit
set_option linter.unusedSectionVars false
variable [∀ (a b c d : Int), Decidable (Ok4 a b c d)]
variable [∀ (a b c d : Nat), Decidable (okN a b c d)]
variable [∀ (x : T4), Decidable (OkT x)]
variable [∀ (last : Int) (s : St), Decidable (GoodSt last s)]

set_option maxHeartbeats 8000000 in
set_option maxRecDepth 100000 in
theorem implTxsIn (s : ByteArray) (w : World) (hs : s.size ≤ 33554432) (hE : Env w) :
    Calls Tryz.prog 25 #[.string s] w fun e w' => ∃ v, e = .returned v ∧ OT w' w.heap.size v (txsInAns s) ∧ Below w.heap.size w w' := by
  have ST := hide fun w hE => implSteps s w hs hE
  have hl : ((stepsAns s).getD []).length ≤ 30 ∧ ∀ x ∈ (stepsAns s).getD [], x.2.length ≤ 2 := by
    cases h : stepsAns s with
    | none => simp
    | some ss => exact ⟨((names_iff _ _).1 h).2.1, fun x hx => (((names_iff _ _).1 h).2.2.1 x hx).2.1⟩
  unfold txsInAns
  generalize (stepsAns s).isSome = bb at *
  generalize (stepsAns s).getD [] = ss at *
  obtain ⟨hl, h2⟩ := hl
  have H2 := hide h2
  clear h2
  go_enter Tryz.func25, Tryz.ntmps25
  go_wp2_with fail
  refine (unhide ST _ hE).mono ?_
  rintro e w1 ⟨v, rfl, o1, b1⟩
  clear ST hE
  obtain ⟨oa, oc, rfl⟩ := o1.form
  obtain ⟨vs, o1⟩ := o1
  have s1 := b1.size
  have hvb := World.ownsRow.lt o1.row
  have hsb : ∀ k, k < ss.length → ∀ b, (vs.getD k (.slice none 0 0)).ownBlock = some b → w.heap.size ≤ b ∧ b < w1.heap.size := fun k hk => World.ownsRow.lt (o1.each k hk)
  have HVB := hide hvb
  have HSB := hide hsb
  have S1 := hide o1
  clear hvb hsb o1
  go_wp2
  go_loopw [5, 15] (fun out i wr => ∃ k : Nat, k ≤ ss.length ∧ i = .int .i64 k ∧ OT wr w1.heap.size out ((ss.take k).flatMap (·.2)) ∧ OStV wr w.heap.size (.slice oa ss.length oc) ss vs ∧ Below w.heap.size w wr ∧ w1.heap.size ≤ wr.heap.size) (fun _ i _ => ss.length - (intOf i).toNat)
  case atStart => exact ⟨0, Nat.zero_le _, rfl, World.ownsRow_nil _ _ _ _, unhide S1, b1, Nat.le_refl _⟩
  case round =>
    clear S1 b1
    obtain ⟨k, hk, rfl, ot, os, br, sz⟩ := hrel
    by_cases hlt : k < ss.length
    · have hfl := flat_len (ss.take k) fun x hx => unhide H2 x (List.mem_of_mem_take hx)
      rw [List.length_take] at hfl
      have hu2 := unhide H2 (ss.getD k zst) (by rw [List.getD_eq_getElem?_getD, List.getElem?_eq_getElem hlt]; exact List.getElem_mem hlt)
      have HF := hide (flat_more ss k hlt)
      obtain ⟨ha, hca⟩ : ∃ g, oa = some ⟨g, 0, none⟩ := by
        rcases os.row.2 with ⟨e, h0⟩ | ⟨g, cap, cur, e, _⟩
        · omega
        · cases e; exact ⟨g, rfl⟩
      subst hca
      have c0 := World.ownsRow.cellAt os.row (k * 2 + 0) (by omega)
      have c1 := World.ownsRow.cellAt os.row (k * 2 + 1) (by omega)
      rw [scells_get _ k _ (by simp [os.len]; omega) (by omega), zip_get ss vs os.len k hlt] at c0 c1
      replace c0 : wr.cell? ⟨ha, k * 2, none⟩ = some (.int .i64 (ss.getD k zst).1) := by simpa [scell] using c0
      replace c1 : wr.cell? ⟨ha, k * 2 + 1, none⟩ = some (vs.getD k (.slice none 0 0)) := by simpa [scell] using c1
      obtain ⟨ta, tl, tc, hu⟩ : ∃ ta tl tc, vs.getD k (.slice none 0 0) = .slice ta tl tc := by
        rcases (os.each k hlt).2 with ⟨e, h0⟩ | ⟨g, cap, cur, e, _⟩
        · exact ⟨none, 0, 0, e⟩
        · exact ⟨_, _, _, e⟩
      have hbX : Below wr.heap.size wr (wr.alloc (.cells #[.int .i64 (ss.getD k zst).1, vs.getD k (.slice none 0 0)] 41)) := (Below.refl _ _).alloc (Nat.le_refl _) _
      have HU := hide ((os.each k hlt).below hbX)
      have osX := os.below hbX
      have OT1 := hide (ot.below hbX)
      have LT := hide (World.ownsRow.lt ot)
      have K1 : Hid (∀ w' (row : Option Nat), (wr.alloc (.cells #[.int .i64 (ss.getD k zst).1, vs.getD k (.slice none 0 0)] 41)).grownBy w' row → (∀ b, row = some b → w1.heap.size ≤ b) → OStV w' w.heap.size (.slice (some ⟨ha, 0, none⟩) ss.length oc) ss vs) := hide fun w' row hg hrow => by
        refine osX.kept hg ?_ fun j hj => ?_
        · cases hv : (Value.slice (some ⟨ha, 0, none⟩) ss.length oc).ownBlock with
          | none => exact .inl rfl
          | some b =>
            refine .inr fun e => ?_
            have := hrow b e.symm
            have := (unhide HVB b hv).2
            omega
        · cases hv : (vs.getD j (.slice none 0 0)).ownBlock with
          | none => exact .inl rfl
          | some b =>
            refine .inr fun e => ?_
            have := hrow b e.symm
            have := (unhide HSB j hj b hv).2
            omega
      rw [hu] at c1 HU OT1 K1
      have BX := br.trans (hbX.mono br.size)
      rw [hu] at BX
      clear os ot osX hbX hu
      generalize (ss.getD k zst).1 = n at *
      generalize (ss.getD k zst).2 = ts at *
      go_wp2_with (first
        | (at_builtin; refine append_ot rfl _ _ rfl w1.heap.size w.heap.size _ (.slice ta tl tc) _ ts rfl rfl (unhide OT1) (unhide HU) (by omega) (by simp; omega) ?_; intro v' w2 ho' hg' hb'; have RS := unhide K1 w2 _ hg' (fun b e => (unhide LT b e).1); have RB := BX.grown hg' BX.size (fun j e => by have := (unhide LT j e).1; omega); have SZ := hg'.size; simp only [World.size_alloc] at SZ; rw [← unhide HF] at ho'; clear hg' hb'))
      go_roundw
      case rel => exact ⟨k + 1, by omega, by go_num, ho', RS, RB, by omega⟩
      case measure => simp [intOf]; omega
    · obtain rfl : k = ss.length := by omega
      rw [List.take_of_length_le (Nat.le_refl _)] at ot
      have OT1 := hide (row_lower2 ot s1)
      clear ot os
      go_wp2
      go_ret
      exact ⟨_, rfl, unhide OT1, br⟩
end Go.Proofs.YtiaafigpgnimeaaGreatDoor
