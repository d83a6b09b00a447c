/- PartTo: laws.toPartS; laws.szPartS where there is too much. -/
import Derived.Test.YtehdchpolgihlaaPartEq
import Derived.Test.YtehdchpolgihlaaPartSet
namespace Go.Proofs.Ytehdchpolgihlaa
open Go.RowKit
set_option linter.unusedSectionVars false
variable [∀ (a b c d : Int), Decidable (Ok4 a b c d)]
variable [∀ (n f : Int), Decidable (COk n f)]

theorem made_pcells (n : Nat) : (madeCells (qv 0 ⟨#[]⟩ (.slice none 0 0)).cells (n * 3)).toList = pcells (List.replicate n ((0, ⟨#[]⟩), .slice none 0 0)) := by
  apply List.ext_getElem?
  intro i
  by_cases hi : i < n * 3
  · have h := pcells_get (List.replicate n ((0, ⟨#[]⟩), .slice none 0 0)) (i / 3) (i % 3) (by simp; omega) (by omega)
    rw [show i / 3 * 3 + i % 3 = i by omega] at h
    have hr : (List.replicate n (((0 : Int), (⟨#[]⟩ : ByteArray)), Value.slice none 0 0)).getD (i / 3) ((0, ⟨#[]⟩), .slice none 0 0) = ((0, ⟨#[]⟩), .slice none 0 0) := by simp [show i / 3 < n by omega]
    rw [h, hr]
    have hc : (qv 0 ⟨#[]⟩ (.slice none 0 0)).cells = #[.int .i64 0, .string ⟨#[]⟩, .slice none 0 0] := by rfl
    rw [hc]
    have h3 : i % 3 = 0 ∨ i % 3 = 1 ∨ i % 3 = 2 := by omega
    have he : (madeCells #[Value.int .i64 0, .string ⟨#[]⟩, .slice none 0 0] (n * 3)).toList[i]? = some (#[Value.int .i64 0, .string ⟨#[]⟩, .slice none 0 0][i % 3]!) := by
      simp [madeCells, hi]
    rw [he]
    rcases h3 with e | e | e <;> rw [e] <;> rfl
  · rw [List.getElem?_eq_none (by rw [Array.length_toList, size_madeCells]; omega), List.getElem?_eq_none (by rw [pcells_len]; simp; omega)]
theorem opt_zero {w : World} {base n : Nat} {v : Value} (h : w.ownsRow base 31 3 v n (pcells (List.replicate n ((0, ⟨#[]⟩), .slice none 0 0)))) : OPtV w base v (List.replicate n zpt) (List.replicate n (.slice none 0 0)) := by
  refine ⟨by simp, ?_, fun k hk => ?_, fun i j hij hj b hb => ?_⟩
  · rw [List.length_replicate, List.map_replicate, List.zip_replicate']
    exact h
  · rw [List.length_replicate] at hk
    have e1 : (List.replicate n (Value.slice none 0 0)).getD k (.slice none 0 0) = .slice none 0 0 := by simp [hk]
    have e2 : (List.replicate n zpt).getD k zpt = zpt := by simp [hk]
    rw [e1, e2]
    exact World.ownsRow_nil _ _ _ _
  · rw [List.length_replicate] at hj
    have e1 : (List.replicate n (Value.slice none 0 0)).getD i (.slice none 0 0) = .slice none 0 0 := by simp [show i < n by omega]
    rw [e1] at hb
    simp [Value.ownBlock] at hb
/-- What is written behind k rounds. -/
def pthalf (ps : List Pt) (k : Nat) : List Pt := ps.take k ++ List.replicate (ps.length - k) zpt
theorem pthalf_len (ps : List Pt) (k : Nat) (h : k ≤ ps.length) : (pthalf ps k).length = ps.length := by simp [pthalf]; omega
theorem pthalf_set (ps : List Pt) (k : Nat) (h : k < ps.length) : (pthalf ps k).set k (ps.getD k zpt) = pthalf ps (k + 1) := by
  have e : ps.length - k = (ps.length - (k + 1)) + 1 := by omega
  have hk : (ps.take k).length = k := by simp; omega
  unfold pthalf
  rw [List.take_succ_eq_append_getElem h, e, List.replicate_succ, List.set_append_right _ _ (by omega), hk, Nat.sub_self, List.set_cons_zero, List.append_assoc, List.getD_eq_getElem?_getD, List.getElem?_eq_getElem h]
  rfl

set_option maxHeartbeats 4000000 in
set_option maxRecDepth 100000 in
theorem toPartS_any (v : Value) (ps : List Pt) (w : World) (hl : ps.length ≤ 1048577) (h : RPt w v ps) :
    Calls Try.prog 14 #[v] w fun e w' => ∃ u, e = .returned u ∧ OPt w' w.heap.size u ps ∧ Below w.heap.size w w' := by
  obtain ⟨i0, hi, hz0, hz1, hz2⟩ := info_parts Try.infoPt
  obtain ⟨ao, ca, rfl⟩ := h.form
  have H := hide h
  obtain ⟨n, hn⟩ : ∃ n, ps.length = n := ⟨_, rfl⟩
  have Hn := hide hn
  rw [hn] at hl H ⊢
  clear h hn
  go_enter Try.func14, Try.ntmps14
  go_wp2_with (first | (at_make; refine wpList_make_full _ rfl _ _ 24 rfl w.heap.size 31 i0 (qv 0 ⟨#[]⟩ (.slice none 0 0)) 3 Try.underlying24 hi hz0 hz1 .i64 .i64 _ _ n rfl rfl rfl rfl (by rw [hz2]; omega) (by unfold maxLen; omega) (Nat.le_refl _) ?_; intro w0 ho0 hg0))
  have T0 : OPtV w0 w.heap.size (.slice (some ⟨w.heap.size, 0, none⟩) n n) (pthalf ps 0) (List.replicate n (.slice none 0 0)) := by
    rw [made_pcells] at ho0
    have := opt_zero ho0
    simpa [pthalf, unhide Hn] using this
  have B0 : Below w.heap.size w w0 := (Below.refl _ _).grown hg0 (Nat.le_refl _) (by simp)
  clear ho0 hg0 hz0 hz1 hz2 hi
  go_loopw [4] (fun i wr => ∃ (k : Nat) (vs : List Value), k ≤ n ∧ i = .int .i64 k ∧ OPtV wr w.heap.size (.slice (some ⟨w.heap.size, 0, none⟩) n n) (pthalf ps k) vs ∧ Below w.heap.size w wr) (fun i _ => n - (intOf i).toNat)
  case atStart => exact ⟨0, _, Nat.zero_le _, rfl, T0, B0⟩
  case round =>
    clear T0
    obtain ⟨k, vs, hk, rfl, T, br⟩ := hrel
    by_cases hlt : k < n
    · have hkx : k < ps.length := by have := unhide Hn; omega
      have hlen := pthalf_len ps k (by omega)
      have HR := (unhide H).below br (Nat.le_refl _)
      obtain ⟨g, off, u, rfl, c0, c1, c2, ru⟩ := HR.at k hkx
      have HS := hide (pthalf_set ps k hkx)
      obtain ⟨x, hx⟩ : ∃ x, ps.getD k zpt = x := ⟨_, rfl⟩
      rw [hx] at c0 c1 ru HS
      clear hx
      obtain ⟨m, s, xs⟩ := x
      simp only at c0 c1 ru
      have TP := hide fun w h => toPart_any m s u xs w h
      obtain ⟨ua, uc, rfl⟩ := ru.form
      have RU := hide ru
      have HT := hide T
      generalize xs.length = xl at *
      clear HR H ru T
      go_wp2_with fail
      refine (unhide TP _ (unhide RU)).mono ?_
      rintro e w2 ⟨u2, rfl, o2, b2⟩
      have T2 := (unhide HT).below b2
      have B2 := br.trans (b2.mono br.size)
      have lt2 := World.ownsRow.lt o2
      have hrow := T2.row
      rw [hlen, unhide Hn] at hrow
      have hplen : (pcells (((pthalf ps k).map phd).zip vs)).length = n * 3 := by rw [pcells_len]; simp [T2.len, hlen, unhide Hn]
      have gt : ∀ j, j < n * 3 → ∃ u, w2.cell? ⟨w.heap.size, j, none⟩ = some u := fun j hj => ⟨_, (hrow.cellAt j hj).trans (List.getElem?_eq_getElem (by rw [hplen]; exact hj))⟩
      obtain ⟨y0, d0⟩ := gt (k * 3) (by omega)
      obtain ⟨y1, d1⟩ := gt (k * 3 + 1) (by omega)
      obtain ⟨y2, d2⟩ := gt (k * 3 + 2) (by omega)
      have f0 := hrow.frozenAt (k * 3)
      have f1 := hrow.frozenAt (k * 3 + 1)
      have f2 := hrow.frozenAt (k * 3 + 2)
      have R := hide (show OPtV (((w2.setCell ⟨w.heap.size, k * 3, none⟩ (.int .i64 m)).setCell ⟨w.heap.size, k * 3 + 1, none⟩ (.string s)).setCell ⟨w.heap.size, k * 3 + 2, none⟩ u2) w.heap.size (.slice (some ⟨w.heap.size, 0, none⟩) n n) (pthalf ps (k + 1)) (vs.set k u2) by
        have T3 := T2
        have en : n = (pthalf ps k).length := by rw [hlen, unhide Hn]
        rw [← unhide HS]
        have := opt_set (m := m) (s := s) (u := u2) (xs := xs) (k := k) (cap := n) (g := w.heap.size) (w := w2) (base := w.heap.size) (ps := pthalf ps k) (vs := vs) (by rw [← en]; exact T3) (by rw [hlen]; exact hkx) (OI.mono o2 br.size) (fun j hj _ b hb e => by
          have h1 := World.ownsRow.lt ((unhide HT).each j hj) b hb
          have h2 := lt2 b e
          omega)
        rw [← en] at this
        exact this)
      have BR := hide (((B2.setCell (p := ⟨w.heap.size, k * 3, none⟩) (Nat.le_refl _) (.int .i64 m)).setCell (p := ⟨w.heap.size, k * 3 + 1, none⟩) (Nat.le_refl _) (.string s)).setCell (p := ⟨w.heap.size, k * 3 + 2, none⟩) (Nat.le_refl _) u2)
      obtain ⟨va, vc, rfl⟩ := o2.form
      generalize xs.length = zl at *
      clear T2 B2 hrow hplen gt o2 lt2 HT TP RU c0 c1 c2
      go_wp2
      go_roundw
      case rel => exact ⟨k + 1, _, by omega, by go_num, unhide R, unhide BR⟩
      case measure => simp [intOf]; omega
    · have hkn : pthalf ps k = ps := by
        have := unhide Hn
        unfold pthalf
        rw [List.take_of_length_le (by omega), show ps.length - k = 0 by omega]
        simp
      rw [hkn] at T
      have T' := hide T
      clear T hkn H
      go_wp2
      go_ret
      exact ⟨_, rfl, ⟨_, unhide T'⟩, br⟩
end Go.Proofs.Ytehdchpolgihlaa
