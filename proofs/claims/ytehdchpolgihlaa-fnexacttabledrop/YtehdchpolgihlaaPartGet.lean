/- PartGet: TableDrop and TableGet of the specification. -/
import Derived.Test.YtehdchpolgihlaaPartApp
import Derived.Test.YtehdchpolgihlaaPartPlain
namespace Go.Proofs.Ytehdchpolgihlaa
open Go.RowKit

theorem drop_take (ps : List Pt) (k : Nat) (view : Int) (hk : k < ps.length) : dropP (ps.take (k + 1)) view = dropP (ps.take k) view ++ (if view ≤ (ps.getD k zpt).1 then [ps.getD k zpt] else []) := by
  rw [pt_take hk]
  unfold dropP
  rw [List.filter_append]
  simp [List.filter_cons]

set_option maxHeartbeats 4000000 in
set_option maxRecDepth 100000 in
theorem specTableDrop (v : Value) (ps : List Pt) (view : Int) (w : World) (hl : ps.length ≤ 4194304) (h : RPt w v ps) :
    Calls Try.prog 10 #[v, .int .i64 view] w fun e w' => ∃ u, e = .returned u ∧ OPt w' w.heap.size u (dropP ps view) ∧ Below w.heap.size w w' := by
  obtain ⟨ao, ca, rfl⟩ := h.form
  obtain ⟨n, hn⟩ : ∃ n, ps.length = n := ⟨_, rfl⟩
  have Hn := hide hn
  obtain ⟨w0, hw0⟩ : ∃ y, w.alloc (.cells #[] 31) = y := ⟨_, rfl⟩
  have B0 : Below w.heap.size w w0 := hw0 ▸ qalloc _ _
  have T0 : OPtV w0 w.heap.size (.slice (some ⟨w.heap.size, 0, none⟩) 0 0) [] [] := hw0 ▸ opt_empty w
  have H := hide h
  rw [hn] at hl H ⊢
  clear h hn
  go_enter Try.func10, Try.ntmps10
  go_wp2
  go_loopw [5, 6] (fun t i wr => ∃ (k : Nat) (ds : List Pt) (vs : List Value) (ta : Option Addr) (tc : Nat), k ≤ n ∧ i = .int .i64 k ∧ t = .slice ta ds.length tc ∧ ds.length ≤ k ∧ Hid (dropP (ps.take k) view = ds) ∧ OPtV wr w.heap.size (.slice ta ds.length tc) ds vs ∧ Below w.heap.size w wr) (fun _ i _ => n - (intOf i).toNat)
  case atStart => exact ⟨0, [], _, _, _, Nat.zero_le _, rfl, rfl, Nat.le_refl _, hide (by simp [dropP]), T0, B0⟩
  case round =>
    clear T0 B0 hw0
    obtain ⟨k, ds, vs, ta, tc, hk, rfl, rfl, hdl, HD, T, br⟩ := hrel
    by_cases hlt : k < n
    · have hkx : k < ps.length := by have := unhide Hn; omega
      have HT := hide (drop_take ps k view hkx)
      rw [unhide HD] at HT
      obtain ⟨g, off, u, rfl, c0, c1, c2, ru⟩ := ((unhide H).below br (Nat.le_refl _)).at k hkx
      obtain ⟨x, hx⟩ : ∃ x, ps.getD k zpt = x := ⟨_, rfl⟩
      rw [hx] at c0 c1 ru HT
      clear hx
      obtain ⟨m, s, xs⟩ := x
      simp only at c0 c1 ru
      have CP := hide fun w h => l10Copy_any m s u xs w h
      obtain ⟨ua, uc, rfl⟩ := ru.form
      have RU := hide ru
      have TT := hide T
      clear ru T H
      generalize xs.length = xl at *
      by_cases hv : view ≤ m
      · rw [if_pos hv] at HT
        go_wp2_with fail
        refine (unhide CP _ (unhide RU)).mono ?_
        rintro e w2 ⟨u2, rfl, o2, b2⟩
        have T2 := (unhide TT).below b2
        have B2 := br.trans (b2.mono br.size)
        obtain ⟨w3, hw3⟩ : ∃ y, w2.alloc (.cells #[.int .i64 m, .string s, u2] 31) = y := ⟨_, rfl⟩
        have t3 : Below w2.heap.size w2 w3 := hw3 ▸ qalloc _ _
        have L3 : Loc w3 w2.heap.size #[.int .i64 m, .string s, u2] := hw3 ▸ loc_at w2 _ _ rfl
        have T3 := hide (T2.below t3)
        have O3 := hide (o2.below t3)
        have B3 := B2.trans (t3.mono B2.size)
        have hN : Hid (∀ j, j < (ds).length → ∀ b, (vs.getD j (.slice none 0 0)).ownBlock = some b → b < wr.heap.size) := hide fun j hj b hb => (World.ownsRow.lt ((unhide TT).each j hj) b hb).2
        have d0 := L3.cell 0 rfl
        have d1 := L3.cell 1 rfl
        have d2 := L3.cell 2 rfl
        obtain ⟨xa, xc, rfl⟩ := o2.form
        have sr := br.size
        have s3 := B3.size
        clear T2 B2 o2 b2 TT CP RU c0 c1 c2 t3 L3
        go_wp2_with (first
          | (at_builtin; clear hw3; refine append_part rfl _ _ rfl w.heap.size wr.heap.size (.slice ta ds.length tc) (ds) vs w2.heap.size 1 m s _ xs rfl rfl (unhide T3) d0 d1 d2 (unhide O3) (unhide hN) sr (by omega) s3 ?_; intro v4 w4 ho4 hg4 _
             have r4 := World.ownsRow.lt (unhide T3).row
             have B4 := B3.grown hg4 s3 (fun j e => (r4 j e).1)
             obtain ⟨a4, c4, hv4⟩ := OPt.form ⟨_, ho4⟩
             subst hv4
             have O4 := hide ho4
             clear T3 O3 B3 ho4 hg4 r4 d0 d1 d2 hN))
        go_roundw
        case rel => exact ⟨k + 1, ds ++ [(m, s, xs)], _, a4, c4, by omega, by go_num, by simp, by simp; omega, HT, unhide O4, B4⟩
        case measure => simp [intOf]; omega
      · rw [if_neg hv, List.append_nil] at HT
        clear CP RU
        go_wp2
        go_roundw
        case rel => exact ⟨k + 1, ds, vs, ta, tc, by omega, by go_num, rfl, by omega, HT, unhide TT, br⟩
        case measure => simp [intOf]; omega
    · have hkn : ps.take k = ps := List.take_of_length_le (by have := unhide Hn; omega)
      rw [hkn] at HD
      have T' := hide T
      have HD' := unhide HD
      subst HD'
      clear T hkn H
      go_wp2
      go_ret
      exact ⟨_, rfl, ⟨_, unhide T'⟩, br⟩

theorem get_first {ps : List Pt} {k : Nat} {v : Int} {s : ByteArray} (hk : k < ps.length) (h0 : (ps.take k).find? (fun x => decide (x.1 = v) && (x.2.1.toList == s.toList)) = none) (h1 : (ps.getD k zpt).1 = v) (h2 : ((ps.getD k zpt).2.1.toList == s.toList) = true) : getP ps v s = ps.getD k zpt := by
  unfold getP
  have e : ps = ps.take k ++ (ps.getD k zpt :: ps.drop (k + 1)) := by
    conv => lhs; rw [← List.take_append_drop k ps, List.drop_eq_getElem_cons hk]
    simp [List.getElem?_eq_getElem hk]
  conv => lhs; rw [e]
  rw [List.find?_append, h0, List.find?_cons_of_pos (by rw [decide_eq_true h1, h2]; rfl)]
  rfl
theorem get_none {ps : List Pt} {v : Int} {s : ByteArray} (h0 : ps.find? (fun x => decide (x.1 = v) && (x.2.1.toList == s.toList)) = none) : getP ps v s = (v, s, []) := by
  unfold getP; rw [h0]; rfl
theorem find_more {ps : List Pt} {k : Nat} {p : Pt → Bool} (hk : k < ps.length) (h0 : (ps.take k).find? p = none) (h1 : p (ps.getD k zpt) = false) : (ps.take (k + 1)).find? p = none := by
  rw [pt_take hk, List.find?_append, h0]
  generalize ps.getD k zpt = x at *
  simp [h1]

set_option maxHeartbeats 4000000 in
set_option maxRecDepth 100000 in
theorem specTableGet (v : Value) (ps : List Pt) (view : Int) (name : ByteArray) (w : World) (hl : ps.length ≤ 4194304) (h : RPt w v ps) :
    Calls Try.prog 13 #[v, .int .i64 view, .string name] w fun e w' => ∃ u, e = .returned (qv (getP ps view name).1 (getP ps view name).2.1 u) ∧ OI w' w.heap.size u (getP ps view name).2.2 ∧ Below w.heap.size w w' := by
  obtain ⟨ao, ca, rfl⟩ := h.form
  obtain ⟨n, hn⟩ : ∃ n, ps.length = n := ⟨_, rfl⟩
  have Hn := hide hn
  obtain ⟨w0, hw0⟩ : ∃ y, w.alloc zpo = y := ⟨_, rfl⟩
  have B0 : Below w.heap.size w w0 := hw0 ▸ qalloc _ _
  have Z0 : Loc w0 w.heap.size #[.int .i64 0, .string ⟨#[]⟩, .slice none 0 0] := hw0 ▸ loc_at w _ _ rfl
  have s0 : w0.heap.size = w.heap.size + 1 := by rw [← hw0]; simp
  have H := hide h
  rw [hn] at hl H ⊢
  clear h hn
  have FIN : Hid (∀ (w' : World) (m : Int) (s : ByteArray) (u : Value) (xs : List Int), OI w' w0.heap.size u xs → Below w.heap.size w w' → OI (((w'.setCell ⟨w.heap.size, 0, none⟩ (.int .i64 m)).setCell ⟨w.heap.size, 1, none⟩ (.string s)).setCell ⟨w.heap.size, 2, none⟩ u) w.heap.size u xs ∧ Below w.heap.size w (((w'.setCell ⟨w.heap.size, 0, none⟩ (.int .i64 m)).setCell ⟨w.heap.size, 1, none⟩ (.string s)).setCell ⟨w.heap.size, 2, none⟩ u)) := hide fun w' m s u xs ho hb => by
    have lt := World.ownsRow.lt ho
    have K : Kp w' (((w'.setCell ⟨w.heap.size, 0, none⟩ (.int .i64 m)).setCell ⟨w.heap.size, 1, none⟩ (.string s)).setCell ⟨w.heap.size, 2, none⟩ u) (fun k => k = w.heap.size) := ((set_kp _ _ _ _).trans (set_kp _ _ _ _)).trans (set_kp _ _ _ _)
    exact ⟨OI.mono (ho.kp K (fun k hk e => by have := (lt k hk).1; omega)) (by omega), Below.kp hb K hb.size (fun k e => by omega)⟩
  go_enter Try.func13, Try.ntmps13
  go_wp2
  go_loopw [7] (fun i wr => ∃ k : Nat, k ≤ n ∧ i = .int .i64 k ∧ Hid ((ps.take k).find? (fun x => decide (x.1 = view) && (x.2.1.toList == name.toList)) = none) ∧ Below w0.heap.size w0 wr) (fun i _ => n - (intOf i).toNat)
  case atStart => exact ⟨0, Nat.zero_le _, rfl, hide (by simp), Below.refl _ _⟩
  case round =>
    clear hw0
    obtain ⟨k, hk, rfl, HK, br⟩ := hrel
    have Z := Z0.below br Z0.lt
    have B := B0.trans (br.mono B0.size)
    by_cases hlt : k < n
    · have hkx : k < ps.length := by have := unhide Hn; omega
      obtain ⟨g, off, u, rfl, c0, c1, c2, ru⟩ := ((unhide H).below B (Nat.le_refl _)).at k hkx
      have HF : Hid ((ps.getD k zpt).1 = view → ((ps.getD k zpt).2.1.toList == name.toList) = true → getP ps view name = ps.getD k zpt) := hide (get_first hkx (unhide HK))
      have HM : Hid ((decide ((ps.getD k zpt).1 = view) && ((ps.getD k zpt).2.1.toList == name.toList)) = false → (ps.take (k + 1)).find? (fun x => decide (x.1 = view) && (x.2.1.toList == name.toList)) = none) := hide (find_more hkx (unhide HK))
      obtain ⟨x, hx⟩ : ∃ x, ps.getD k zpt = x := ⟨_, rfl⟩
      rw [hx] at c0 c1 ru HF HM
      clear hx
      obtain ⟨m, s, xs⟩ := x
      simp only at c0 c1 ru HF HM
      by_cases h1 : m = view
      · by_cases h2 : (s.toList == name.toList) = true
        · have E := hide (unhide HF h1 h2)
          subst h1
          have CP := hide fun w h => l10Copy_any m s u xs w h
          obtain ⟨ua, uc, rfl⟩ := ru.form
          have RU := hide ru
          clear ru H HF HM HK
          generalize xs.length = xl at *
          go_wp2_with fail
          refine (unhide CP _ (unhide RU)).mono ?_
          rintro e w2 ⟨u2, rfl, o2, b2⟩
          have Z2 := Z.below b2 Z.lt
          have B2 := B.trans (b2.mono B.size)
          have z0 := Z2.cell 0 rfl
          have z1 := Z2.cell 1 rfl
          have z2 := Z2.cell 2 rfl
          have fz := Z2.frozen
          have R := hide ((unhide FIN) w2 m s u2 xs (OI.mono o2 br.size) B2)
          obtain ⟨xa, xc, rfl⟩ := o2.form
          clear o2 b2 Z Z2 B2 c0 c1 c2 CP RU FIN
          go_wp2
          refine bodyPost_ret (v := qv m s (.slice xa xs.length xc)) (by simp [results, Try.results13, go_sem, z0, z1, z2]) rfl ?_
          rw [unhide E]
          exact ⟨_, rfl, (unhide R).1, (unhide R).2⟩
        · have h2' : (s.toList == name.toList) = false := by simpa using h2
          have HK2 := hide (unhide HM (by rw [h2']; simp))
          clear HF HM HK
          go_wp2
          go_roundw
          case rel => exact ⟨k + 1, by omega, by go_num, HK2, br⟩
          case measure => simp [intOf]; omega
      · have h1' : decide (m = view) = false := by simpa using h1
        have HK2 := hide (unhide HM (by rw [h1']; rfl))
        clear HF HM HK
        go_wp2
        go_roundw
        case rel => exact ⟨k + 1, by omega, by go_num, HK2, br⟩
        case measure => simp [intOf]; omega
    · have hkn : ps.take k = ps := List.take_of_length_le (by have := unhide Hn; omega)
      have h0 := unhide HK
      rw [hkn] at h0
      have E := hide (get_none h0)
      have z0 := Z.cell 0 rfl
      have z1 := Z.cell 1 rfl
      have z2 := Z.cell 2 rfl
      have fz := Z.frozen
      have R := hide ((unhide FIN) wr view name (.slice none 0 0) [] (World.ownsRow_nil _ _ _ _) B)
      clear HK h0 hkn H Z FIN
      go_wp2
      refine bodyPost_ret (v := qv view name (.slice none 0 0)) (by simp [results, Try.results13, go_sem, z0, z1, z2]) rfl ?_
      rw [unhide E]
      exact ⟨_, rfl, (unhide R).1, (unhide R).2⟩
end Go.Proofs.Ytehdchpolgihlaa
