/- PartTold: (impl.Part).told, impl.toldParts, impl.tableOf. -/
import Derived.Test.YtehdchpolgihlaaPartTo
import Derived.Test.YtehdchpolgihlaaQcLater
import Derived.Laws.EntriesVeiled
namespace Go.Proofs.Ytehdchpolgihlaa
open Go.RowKit
set_option linter.unusedSectionVars false
variable [∀ (a b c d : Int), Decidable (Ok4 a b c d)]
variable [∀ (n f : Int), Decidable (COk n f)]

set_option maxHeartbeats 4000000 in
set_option maxRecDepth 100000 in
theorem ptold_any (n : Int) (s : ByteArray) (v : Value) (xs : List Int) (w : World) (h : RI w v xs) (hs : s.size ≤ 281474976710656) :
    Calls Try.prog 37 #[qv n s v] w fun e w' => ∃ u, e = .returned (qv n s u) ∧ OI w' w.heap.size u xs ∧ Below w.heap.size w w' := by
  obtain ⟨ao, ca, rfl⟩ := h.form
  obtain ⟨w0, hw0⟩ : ∃ y, ((w.alloc (.cells #[.int .i64 n, .string s, .slice ao xs.length ca] 31)).alloc zpo).alloc (.cells #[.int .i64 n, .string s, .slice ao xs.length ca] 75) = y := ⟨_, rfl⟩
  have B0 : Below w.heap.size w w0 := hw0 ▸ ((qalloc2 _ _ _).alloc (by simp; omega) _)
  have LZ : Loc w0 (w.heap.size + 1) #[.int .i64 0, .string ⟨#[]⟩, .slice none 0 0] := hw0 ▸ (loc_at (w.alloc _) _ _ (by simp)).alloc _
  have LQ : Loc w0 (w.heap.size + 1 + 1) #[.int .i64 n, .string s, .slice ao xs.length ca] := hw0 ▸ (loc_at ((w.alloc _).alloc _) _ _ (by simp))
  have s0 : w0.heap.size = w.heap.size + 1 + 1 + 1 := by rw [← hw0]; simp
  have TO := hide (qtold_any (w.heap.size + 1 + 1) n s ao ca xs w0 LQ (h.below B0 (Nat.le_refl _)) hs)
  have HZ := hide LZ
  clear h LZ LQ
  go_enter Try.func37, Try.ntmps37
  go_wp2_with fail
  clear hw0
  refine (unhide TO).mono ?_
  rintro e w2 ⟨u, rfl, o2, b2⟩
  have B2 : Below w.heap.size w w2 := B0.trans (b2.mono B0.size)
  have Z2 := (unhide HZ).below b2 (unhide HZ).lt
  have y0 := Z2.cell 0 rfl
  have y1 := Z2.cell 1 rfl
  have y2 := Z2.cell 2 rfl
  have fy := Z2.frozen
  have lt2 := World.ownsRow.lt o2
  obtain ⟨ua, uc, rfl⟩ := o2.form
  have O2 := hide o2
  clear o2 b2 Z2 HZ TO
  go_wp2
  refine bodyPost_ret (v := qv n s (.slice ua xs.length uc)) (by simp [results, Try.results37, go_sem, y0, y1, y2]) rfl ?_
  have K5 : Kp w2 (((w2.setCell ⟨w.heap.size + 1, 0, none⟩ (.int .i64 n)).setCell ⟨w.heap.size + 1, 1, none⟩ (.string s)).setCell ⟨w.heap.size + 1, 2, none⟩ (.slice ua xs.length uc)) (fun k => k = w.heap.size + 1) := ((set_kp _ _ _ _).trans (set_kp _ _ _ _)).trans (set_kp _ _ _ _)
  exact ⟨_, rfl, ((unhide O2).kp K5 (fun k hk => by have := lt2 k hk; omega)).mono (by omega), Below.kp B2 K5 B2.size (fun k hk => by omega)⟩

set_option maxHeartbeats 400000 in
set_option maxRecDepth 100000 in
theorem tableOf_any (ao : Option Addr) (n ca : Nat) (w : World) :
    Calls Try.prog 27 #[.slice ao n ca] w fun e w' => e = .returned (.agg #[.slice ao n ca, .func (.func 36) #[] #[]]) ∧ Below w.heap.size w w' := by
  go_enter Try.func27, Try.ntmps27
  go_wp2
  refine bodyPost_ret (v := .agg #[.slice ao n ca, .func (.func 36) #[] #[]]) (by simp [results, Try.results27, go_sem]) rfl ?_
  exact ⟨rfl, (Below.refl _ _).alloc (Nat.le_refl _) _⟩
set_option maxHeartbeats 4000000 in
set_option maxRecDepth 100000 in
theorem toldParts_any (v : Value) (ps : List Pt) (w : World) (hl : ps.length ≤ 4194305) (hs : ∀ p ∈ ps, p.2.1.size ≤ 281474976710656) (h : RPt w v ps) :
    Calls Try.prog 26 #[v] w fun e w' => ∃ u, e = .returned u ∧ OPt w' w.heap.size u ps ∧ Below w.heap.size w w' := by
  obtain ⟨i0, hi, hz0, hz1, hz2⟩ := info_parts Try.infoPt
  obtain ⟨ao, ca, rfl⟩ := h.form
  have HS0 := hide hs
  have H := hide h
  clear hs
  obtain ⟨n, hn⟩ : ∃ n, ps.length = n := ⟨_, rfl⟩
  have Hn := hide hn
  rw [hn] at hl H ⊢
  clear h hn
  go_enter Try.func26, Try.ntmps26
  go_wp2_with (first | (at_make; refine wpList_make_full _ rfl _ _ 24 rfl w.heap.size 31 i0 (qv 0 ⟨#[]⟩ (.slice none 0 0)) 3 Try.underlying24 hi hz0 hz1 .i64 .i64 _ _ n rfl rfl rfl rfl (by rw [hz2]; omega) (by unfold maxLen; omega) (Nat.le_refl _) ?_; intro w0 ho0 hg0))
  have T0 : OPtV w0 w.heap.size (.slice (some ⟨w.heap.size, 0, none⟩) n n) (pthalf ps 0) (List.replicate n (.slice none 0 0)) := by
    rw [made_pcells] at ho0
    have := opt_zero ho0
    simpa [pthalf, unhide Hn] using this
  have B0 : Below w.heap.size w w0 := (Below.refl _ _).grown hg0 (Nat.le_refl _) (by simp)
  clear ho0 hg0 hz0 hz1 hz2 hi
  go_loopw [11] (fun i wr => ∃ (k : Nat) (vs : List Value), k ≤ n ∧ i = .int .i64 k ∧ OPtV wr w.heap.size (.slice (some ⟨w.heap.size, 0, none⟩) n n) (pthalf ps k) vs ∧ Below w.heap.size w wr) (fun i _ => n - (intOf i).toNat)
  case atStart => exact ⟨0, _, Nat.zero_le _, rfl, T0, B0⟩
  case round =>
    clear T0
    obtain ⟨k, vs, hk, rfl, T, br⟩ := hrel
    by_cases hlt : k < n
    · have hkx : k < ps.length := by have := unhide Hn; omega
      have hlen := pthalf_len ps k (by omega)
      have HR := (unhide H).below br (Nat.le_refl _)
      obtain ⟨g, off, u, rfl, c0, c1, c2, ru⟩ := HR.at k hkx
      have HS := hide (pthalf_set ps k hkx)
      have hsz := unhide HS0 _ (pt_mem hkx)
      obtain ⟨x, hx⟩ : ∃ x, ps.getD k zpt = x := ⟨_, rfl⟩
      rw [hx] at c0 c1 ru HS hsz
      clear hx
      obtain ⟨m, s, xs⟩ := x
      simp only at c0 c1 ru hsz
      have TP := hide fun w h => ptold_any m s u xs w h hsz
      obtain ⟨ua, uc, rfl⟩ := ru.form
      have RU := hide ru
      have HT := hide T
      generalize xs.length = xl at *
      obtain ⟨w1, hw1⟩ : ∃ y, wr.alloc (.cells #[.int .i64 m, .string s, .slice ua xl uc] 31) = y := ⟨_, rfl⟩
      have b1 : Below wr.heap.size wr w1 := hw1 ▸ qalloc _ _
      have L1 : Loc w1 wr.heap.size #[.int .i64 m, .string s, .slice ua xl uc] := hw1 ▸ loc_at wr _ _ rfl
      have p0 := L1.cell 0 rfl
      have p1 := L1.cell 1 rfl
      have p2 := L1.cell 2 rfl
      have s1 := b1.size
      replace RU := hide ((unhide RU).below b1 (Nat.le_refl _))
      replace HT := hide ((unhide HT).below b1)
      replace br := br.trans (b1.mono br.size)
      clear HR H ru T b1 hsz
      go_wp2_with fail
      clear hw1 p0 p1 p2 L1
      refine (unhide TP _ (unhide RU)).mono ?_
      rintro e w2 ⟨u2, rfl, o2, b2⟩
      have T2 := (unhide HT).below b2
      have B2 := br.trans (b2.mono br.size)
      have lt2 := World.ownsRow.lt o2
      have hrow := T2.row
      rw [hlen, unhide Hn] at hrow
      have hplen : (pcells (((pthalf ps k).map phd).zip vs)).length = n * 3 := by rw [pcells_len]; simp [T2.len, hlen, unhide Hn]
      have gt : ∀ j, j < n * 3 → ∃ u, w2.cell? ⟨w.heap.size, j, none⟩ = some u := fun j hj => ⟨_, (hrow.cellAt j hj).trans (List.getElem?_eq_getElem (by rw [hplen]; exact hj))⟩
      obtain ⟨y0, d0⟩ := gt (k * 3) (by omega)
      obtain ⟨y1, d1⟩ := gt (k * 3 + 1) (by omega)
      obtain ⟨y2, d2⟩ := gt (k * 3 + 2) (by omega)
      have f0 := hrow.frozenAt (k * 3)
      have f1 := hrow.frozenAt (k * 3 + 1)
      have f2 := hrow.frozenAt (k * 3 + 2)
      have R := hide (show OPtV (((w2.setCell ⟨w.heap.size, k * 3, none⟩ (.int .i64 m)).setCell ⟨w.heap.size, k * 3 + 1, none⟩ (.string s)).setCell ⟨w.heap.size, k * 3 + 2, none⟩ u2) w.heap.size (.slice (some ⟨w.heap.size, 0, none⟩) n n) (pthalf ps (k + 1)) (vs.set k u2) by
        have T3 := T2
        have en : n = (pthalf ps k).length := by rw [hlen, unhide Hn]
        rw [← unhide HS]
        have := opt_set (m := m) (s := s) (u := u2) (xs := xs) (k := k) (cap := n) (g := w.heap.size) (w := w2) (base := w.heap.size) (ps := pthalf ps k) (vs := vs) (by rw [← en]; exact T3) (by rw [hlen]; exact hkx) (OI.mono o2 br.size) (fun j hj _ b hb e => by
          have h1 := World.ownsRow.lt ((unhide HT).each j hj) b hb
          have h2 := lt2 b e
          omega)
        rw [← en] at this
        exact this)
      have BR := hide (((B2.setCell (p := ⟨w.heap.size, k * 3, none⟩) (Nat.le_refl _) (.int .i64 m)).setCell (p := ⟨w.heap.size, k * 3 + 1, none⟩) (Nat.le_refl _) (.string s)).setCell (p := ⟨w.heap.size, k * 3 + 2, none⟩) (Nat.le_refl _) u2)
      obtain ⟨va, vc, rfl⟩ := o2.form
      generalize xs.length = zl at *
      clear T2 B2 hrow hplen gt o2 lt2 HT TP RU c0 c1 c2
      go_wp2
      go_roundw
      case rel => exact ⟨k + 1, _, by omega, by go_num, unhide R, unhide BR⟩
      case measure => simp [intOf]; omega
    · have hkn : pthalf ps k = ps := by
        have := unhide Hn
        unfold pthalf
        rw [List.take_of_length_le (by omega), show ps.length - k = 0 by omega]
        simp
      rw [hkn] at T
      have T' := hide T
      clear T hkn H
      go_wp2
      go_ret
      exact ⟨_, rfl, ⟨_, unhide T'⟩, br⟩
end Go.Proofs.Ytehdchpolgihlaa
