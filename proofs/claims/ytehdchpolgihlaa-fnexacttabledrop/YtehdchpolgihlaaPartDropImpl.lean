/- PartDropImpl: impl.TableDrop. -/
import Derived.Test.YtehdchpolgihlaaPartTold
import Derived.Test.YtehdchpolgihlaaPartGet
import Derived.Test.YtehdchpolgihlaaPartX
namespace Go.Proofs.Ytehdchpolgihlaa
open Go.RowKit
set_option linter.unusedSectionVars false
variable [∀ (a b c d : Int), Decidable (Ok4 a b c d)]
variable [∀ (n f : Int), Decidable (COk n f)]

set_option maxHeartbeats 1600000 in
set_option maxRecDepth 100000 in
theorem dropClo (m : Int) (s : ByteArray) (u : Value) (view : Int) (g : Nat) (w : World) (hg : w.cell? ⟨g, 0, none⟩ = some (.int .i64 view)) :
    Calls Try.prog 29 #[qv m s u, .pointer (some ⟨g, 0, none⟩)] w fun e w' => e = .returned (.bool (decide (view ≤ m))) ∧ Below w.heap.size w w' := by
  obtain ⟨w0, hw0⟩ : ∃ y, w.alloc (.cells #[.int .i64 m, .string s, u] 31) = y := ⟨_, rfl⟩
  have B0 : Below w.heap.size w w0 := hw0 ▸ qalloc _ _
  have L0 : Loc w0 w.heap.size #[.int .i64 m, .string s, u] := hw0 ▸ loc_at w _ _ rfl
  have hg0 := (B0.cell (p := ⟨g, 0, none⟩) (cell_lt hg)).trans hg
  have a0 := L0.cell 0 rfl
  clear L0 hg
  go_enter Try.func29, Try.ntmps29
  go_wp2_with fail
  go_ret
  exact ⟨by simp, B0⟩

set_option maxHeartbeats 4000000 in
set_option maxRecDepth 100000 in
theorem pick_parts (v : Value) (ps : List Pt) (view : Int) (g : Nat) (fv : Value) (w : World) (hl : ps.length ≤ 4194304) (h : RPt w v ps) (hg : w.cell? ⟨g, 0, none⟩ = some (.int .i64 view)) :
    Calls Try.prog 28 #[.agg #[v, fv], .int .i64 ps.length, .func (.func 29) #[] #[.pointer (some ⟨g, 0, none⟩)]] w fun e w' => ∃ u us, e = .returned u ∧ XPt w w' u (dropP ps view) us ∧ Below w.heap.size w w' := by
  obtain ⟨ao, ca, rfl⟩ := h.form
  obtain ⟨n, hn⟩ : ∃ n, ps.length = n := ⟨_, rfl⟩
  have Hn := hide hn
  obtain ⟨rs, HRS⟩ : ∃ r, Hid (dropP ps view = r) := ⟨_, hide rfl⟩
  rw [unhide HRS]
  obtain ⟨w0, hw0⟩ : ∃ y, w.alloc (.cells #[.slice ao n ca, fv] 51) = y := ⟨_, rfl⟩
  have B0 : Below w.heap.size w w0 := hw0 ▸ qalloc _ _
  have L0 : Loc w0 w.heap.size #[.slice ao n ca, fv] := hw0 ▸ loc_at w _ _ rfl
  have q0 := L0.cell 0 rfl
  have H := hide h
  have HG := hide hg
  rw [hn] at hl H ⊢
  clear h hn hg L0
  go_enter Try.func28, Try.ntmps28
  go_wp2
  clear hw0
  go_loopw [7, 13] (fun t i wr => ∃ (k : Nat) (ds : List Pt) (us : List Value) (ta : Option Addr) (tc : Nat), k ≤ n ∧ i = .int .i64 k ∧ t = .slice ta ds.length tc ∧ ds.length ≤ k ∧ Hid (dropP (ps.take k) view = ds) ∧ XPt w wr (.slice ta ds.length tc) ds us ∧ Below w.heap.size w wr) (fun _ i _ => n - (intOf i).toNat)
  case atStart => exact ⟨0, [], [], none, 0, Nat.zero_le _, rfl, rfl, Nat.le_refl _, hide (by simp [dropP]), xpt_nil _ _, B0⟩
  case round =>
    clear B0 q0
    obtain ⟨k, ds, us, ta, tc, hk, rfl, rfl, hdl, HD, T, br⟩ := hrel
    by_cases hlt : k < n
    · have hkx : k < ps.length := by have := unhide Hn; omega
      have HT := hide (drop_take ps k view hkx)
      rw [unhide HD] at HT
      obtain ⟨b, off, u, rfl, c0, c1, c2, ru⟩ := (unhide H).at k hkx
      have lb := cell_lt c0
      have c0 := (br.cell (p := ⟨b, off + k * 3, none⟩) lb).trans c0
      have c1 := (br.cell (p := ⟨b, off + k * 3 + 1, none⟩) lb).trans c1
      have c2 := (br.cell (p := ⟨b, off + k * 3 + 2, none⟩) lb).trans c2
      obtain ⟨x, hx⟩ : ∃ x, ps.getD k zpt = x := ⟨_, rfl⟩
      rw [hx] at c0 c1 ru HT
      clear hx
      obtain ⟨m, s, xs⟩ := x
      simp only at c0 c1 ru
      obtain ⟨ua, uc, rfl⟩ := ru.form
      have RU := hide ru
      obtain ⟨w1, hw1⟩ : ∃ y, wr.alloc (.cells #[.int .i64 m, .string s, .slice ua xs.length uc] 31) = y := ⟨_, rfl⟩
      have b1 : Below wr.heap.size wr w1 := hw1 ▸ qalloc _ _
      have L1 : Loc w1 wr.heap.size #[.int .i64 m, .string s, .slice ua xs.length uc] := hw1 ▸ loc_at wr _ _ rfl
      have p0 := L1.cell 0 rfl
      have p1 := L1.cell 1 rfl
      have p2 := L1.cell 2 rfl
      have TT := hide (T.below b1)
      replace br := br.trans (b1.mono br.size)
      have cg := (br.cell (p := ⟨g, 0, none⟩) (cell_lt (unhide HG))).trans (unhide HG)
      have DC := hide (dropClo m s (.slice ua xs.length uc) view g w1 cg)
      have hne : ((ds.length : Int) == (n : Int)) = false := by simp; omega
      obtain ⟨dl, hdl2⟩ : ∃ l, ds.length = l := ⟨_, rfl⟩
      replace hdl2 := hide hdl2
      generalize xs.length = xl at *
      clear ru T H b1 cg lb
      by_cases hv : view ≤ m
      · rw [decide_eq_true hv] at DC
        rw [if_pos hv] at HT
        clear hv
        go_wp2_with fail
        clear hw1 p0 p1 p2 c0 c1 c2
        refine (unhide DC).mono ?_
        rintro e w2 ⟨rfl, b2⟩
        have L2 := L1.below b2 L1.lt
        have p0 := L2.cell 0 rfl
        have p1 := L2.cell 1 rfl
        have p2 := L2.cell 2 rfl
        obtain ⟨w3, hw3⟩ : ∃ y, w2.alloc (.cells #[.int .i64 m, .string s, .slice ua xl uc] 31) = y := ⟨_, rfl⟩
        have b3 : Below w2.heap.size w2 w3 := hw3 ▸ qalloc _ _
        have L3 : Loc w3 w2.heap.size #[.int .i64 m, .string s, .slice ua xl uc] := hw3 ▸ loc_at w2 _ _ rfl
        have d0 := L3.cell 0 rfl
        have d1 := L3.cell 1 rfl
        have d2 := L3.cell 2 rfl
        have T3 := hide (((unhide TT).below b2).below b3)
        have B3 := (br.trans (b2.mono br.size)).trans (b3.mono (Nat.le_trans br.size b2.size))
        have s3 := B3.size
        clear L1 L2 L3 b2 b3 TT DC
        go_wp2_with (first
          | (at_builtin; clear hw3 p0 p1 p2; refine append_x rfl _ _ rfl w (.slice ta ds.length tc) ds us w2.heap.size 1 m s _ xs rfl rfl (unhide T3) d0 d1 d2 (unhide RU) (by omega) s3 ?_; intro v4 w4 ho4 hg4
             have r4 := World.ownsRow.lt (unhide T3).row
             have B4 := B3.grown hg4 s3 (fun j e => (r4 j e).1)
             obtain ⟨a4, c4, hv4⟩ := ho4.form
             have hl4 : (ds ++ [(m, s, xs)]).length ≤ k + 1 := by simp; omega
             have HT4 := hide (unhide HT)
             generalize ds ++ [(m, s, xs)] = es at *
             subst hv4
             have O4 := hide ho4
             clear T3 B3 ho4 hg4 r4 d0 d1 d2 HD hdl2))
        go_roundw
        case rel => exact ⟨k + 1, _, _, a4, c4, by omega, by go_num, rfl, hl4, HT4, unhide O4, B4⟩
        case measure => simp [intOf]; omega
      · rw [decide_eq_false hv] at DC
        rw [if_neg hv, List.append_nil] at HT
        clear hv
        go_wp2_with fail
        clear hw1 p0 p1 p2 c0 c1 c2
        refine (unhide DC).mono ?_
        rintro e w2 ⟨rfl, b2⟩
        have T2 := hide ((unhide TT).below b2)
        have B2 := br.trans (b2.mono br.size)
        clear L1 TT DC b2
        go_wp2
        go_roundw
        case rel => exact ⟨k + 1, ds, us, ta, tc, by omega, by go_num, rfl, by omega, HT, unhide T2, B2⟩
        case measure => simp [intOf]; omega
    · have hkn : ps.take k = ps := List.take_of_length_le (by have := unhide Hn; omega)
      rw [hkn] at HD
      have hd2 : decide ((k : Int) < (n : Int)) = false := by simp; omega
      obtain rfl : rs = ds := (unhide HRS).symm.trans (unhide HD)
      have T' := hide T
      clear T hkn H HD hdl HRS
      go_wp2
      go_ret
      exact ⟨_, us, rfl, unhide T', br⟩

set_option maxHeartbeats 4000000 in
set_option maxRecDepth 100000 in
theorem implTableDrop (v : Value) (ps : List Pt) (view : Int) (w : World) (hl : ps.length ≤ 4194304) (hs : ∀ p ∈ ps, p.2.1.size ≤ 281474976710656) (h : RPt w v ps) :
    Calls Try.prog 8 #[v, .int .i64 view] w fun e w' => ∃ u, e = .returned u ∧ OPt w' w.heap.size u (dropP ps view) ∧ Below w.heap.size w w' := by
  obtain ⟨ao, ca, rfl⟩ := h.form
  obtain ⟨w0, hw0⟩ : ∃ y, w.alloc (.cells #[.int .i64 view] 3) = y := ⟨_, rfl⟩
  have B0 : Below w.heap.size w w0 := hw0 ▸ qalloc _ _
  have L0 : Loc w0 w.heap.size #[.int .i64 view] := hw0 ▸ loc_at w _ _ rfl
  have c0 := L0.cell 0 rfl
  have hlen : (dropP ps view).length ≤ ps.length := List.length_filter_le _ _
  have hs2 : ∀ p ∈ dropP ps view, p.2.1.size ≤ 281474976710656 := fun p hp => hs p (List.mem_filter.1 hp).1
  have PK := hide fun g fv w h hg => pick_parts (.slice ao ps.length ca) ps view g fv w hl h hg
  have TP := hide fun u w h => toldParts_any u (dropP ps view) w (by omega) hs2 h
  have TO := hide fun w => tableOf_any ao ps.length ca w
  have HR := hide (h.below B0 (Nat.le_refl _))
  generalize dropP ps view = ds at *
  generalize ps.length = n at *
  clear h hs hs2 L0
  go_enter Try.func8, Try.ntmps8
  go_wp2_with fail
  clear hw0
  refine (unhide TO _).mono ?_
  rintro e w1 ⟨rfl, b1⟩
  have R1 := (unhide HR).below b1 (Nat.le_refl _)
  have g1 := (b1.cell (p := ⟨w.heap.size, 0, none⟩) (cell_lt c0)).trans c0
  have B1 := B0.trans (b1.mono B0.size)
  clear b1 c0 TO HR
  go_wp2_with fail
  refine (unhide PK _ _ _ R1 g1).mono ?_
  rintro e w2 ⟨u, us, rfl, X, b2⟩
  have B2 := B1.trans (b2.mono B1.size)
  have R2 := X.rpt b2
  have s2 := B2.size
  obtain ⟨ua, uc, rfl⟩ := X.form
  clear X b2 PK R1 g1
  go_wp2_with fail
  refine (unhide TP _ _ R2).mono ?_
  rintro e w3 ⟨t, rfl, o3, b3⟩
  have B3 := B2.trans (b3.mono s2)
  obtain ⟨ta, tc, rfl⟩ := o3.form
  go_wp2
  go_ret
  exact ⟨_, rfl, o3.mono s2, B3⟩
end Go.Proofs.Ytehdchpolgihlaa
