/- PartGetImpl: impl.TableGet. -/
import Derived.Test.YtehdchpolgihlaaPartTold
import Derived.Test.YtehdchpolgihlaaPartCmp
import Derived.Test.YtehdchpolgihlaaPartGet
namespace Go.Proofs.Ytehdchpolgihlaa
open Go.RowKit
set_option linter.unusedSectionVars false
variable [∀ (a b c d : Int), Decidable (Ok4 a b c d)]
variable [∀ (n f : Int), Decidable (COk n f)]

set_option maxHeartbeats 1600000 in
set_option maxRecDepth 100000 in
theorem getClo (m : Int) (s : ByteArray) (ua : Option Addr) (ul uc : Nat) (view : Int) (name : ByteArray) (g : Nat) (w : World) (hg : Loc w g #[.int .i64 view, .string name, .slice none 0 0]) :
    Calls Try.prog 35 #[qv m s (.slice ua ul uc), .pointer (some ⟨g, 0, none⟩)] w fun e w' => e = .returned (.bool (decide (m = view) && (s.toList == name.toList))) ∧ Below w.heap.size w w' := by
  have CT := hide fun w => compareParts_any m view s name (.slice ua ul uc) (.slice none 0 0) [] [] w
  have hq : (cmpP (m, s, []) (view, name, []) == 0) = (decide (m = view) && (s.toList == name.toList)) := by
    have := cmpP_eq (m, s, []) (view, name, [])
    rw [Bool.eq_iff_iff, beq_iff_eq, this]; rfl
  rw [← hq]
  clear hq
  generalize cmpP (m, s, []) (view, name, []) = q at *
  obtain ⟨w0, hw0⟩ : ∃ y, w.alloc (.cells #[.int .i64 m, .string s, .slice ua ul uc] 31) = y := ⟨_, rfl⟩
  have B0 : Below w.heap.size w w0 := hw0 ▸ qalloc _ _
  have L0 : Loc w0 w.heap.size #[.int .i64 m, .string s, .slice ua ul uc] := hw0 ▸ loc_at w _ _ rfl
  have LG := hg.below B0 hg.lt
  have a0 := L0.cell 0 rfl
  have a1 := L0.cell 1 rfl
  have a2 := L0.cell 2 rfl
  have c0 := LG.cell 0 rfl
  have c1 := LG.cell 1 rfl
  have c2 := LG.cell 2 rfl
  clear L0 LG hg
  go_enter Try.func35, Try.ntmps35
  go_wp2_with fail
  clear hw0
  refine (unhide CT _).mono ?_
  rintro e w2 ⟨rfl, b2⟩
  have B2 := B0.trans (b2.mono B0.size)
  go_wp2
  go_ret
  exact ⟨rfl, B2⟩

set_option maxHeartbeats 4000000 in
set_option maxRecDepth 100000 in
theorem indexP (v : Value) (ps : List Pt) (view : Int) (name : ByteArray) (g : Nat) (w : World) (hl : ps.length ≤ 4194304) (h : RPt w v ps) (hg : Loc w g #[.int .i64 view, .string name, .slice none 0 0]) :
    Calls Try.prog 34 #[v, .func (.func 35) #[] #[.pointer (some ⟨g, 0, none⟩)]] w fun e w' => ∃ q : Int, e = .returned (.int .i64 q) ∧ Hid ((∃ k : Nat, q = k ∧ k < ps.length ∧ getP ps view name = ps.getD k zpt) ∨ (q = -1 ∧ getP ps view name = (view, name, []))) ∧ Below w.heap.size w w' := by
  obtain ⟨ao, ca, rfl⟩ := h.form
  obtain ⟨n, hn⟩ : ∃ n, ps.length = n := ⟨_, rfl⟩
  have Hn := hide hn
  have H := hide h
  rw [hn] at hl H ⊢
  clear h hn
  have HG := hide hg
  clear hg
  go_enter Try.func34, Try.ntmps34
  go_wp2
  go_loopw [8] (fun j wr => ∃ k : Nat, k ≤ n ∧ j = .int .i64 k ∧ Hid ((ps.take k).find? (fun x => decide (x.1 = view) && (x.2.1.toList == name.toList)) = none) ∧ Below w.heap.size w wr) (fun j _ => n - (intOf j).toNat)
  case atStart => exact ⟨0, Nat.zero_le _, rfl, hide (by simp), Below.refl _ _⟩
  case round =>
    obtain ⟨k, hk, rfl, HK, br⟩ := hrel
    by_cases hlt : k < n
    · have hkx : k < ps.length := by rw [unhide Hn]; exact hlt
      obtain ⟨b, off, u, rfl, c0, c1, c2, ru⟩ := ((unhide H).below br (Nat.le_refl _)).at k hkx
      obtain ⟨ua, uc, rfl⟩ := ru.form
      have LG := (unhide HG).below (br.mono (Nat.le_refl _)) (unhide HG).lt
      have HF : Hid ((ps.getD k zpt).1 = view → ((ps.getD k zpt).2.1.toList == name.toList) = true → getP ps view name = ps.getD k zpt) := hide (get_first hkx (unhide HK))
      have HM : Hid ((decide ((ps.getD k zpt).1 = view) && ((ps.getD k zpt).2.1.toList == name.toList)) = false → (ps.take (k + 1)).find? (fun x => decide (x.1 = view) && (x.2.1.toList == name.toList)) = none) := hide (find_more hkx (unhide HK))
      have GC := hide (getClo (ps.getD k zpt).1 (ps.getD k zpt).2.1 ua (ps.getD k zpt).2.2.length uc view name g wr LG)
      obtain ⟨x, hx⟩ : ∃ x, ps.getD k zpt = x := ⟨_, rfl⟩
      have HF2 : Hid (x.1 = view → (x.2.1.toList == name.toList) = true → getP ps view name = ps.getD k zpt) := hide (by rw [← hx]; exact unhide HF)
      rw [hx] at c0 c1 c2 GC HM
      clear hx ru HK H HF LG
      obtain ⟨m, s, xs⟩ := x
      simp only at c0 c1 c2 GC HM HF2
      generalize xs.length = xl at *
      cases hq : (decide (m = view) && (s.toList == name.toList)) with
      | true =>
        rw [hq] at GC
        rw [Bool.and_eq_true, decide_eq_true_iff] at hq
        have F := hide (unhide HF2 hq.1 hq.2)
        clear hq HF2 HM
        go_wp2_with fail
        refine (unhide GC).mono ?_
        rintro _ w2 ⟨rfl, b2⟩
        go_wp2
        go_ret
        exact ⟨k, rfl, hide (.inl ⟨k, rfl, hlt, unhide F⟩), br.trans (b2.mono br.size)⟩
      | false =>
        rw [hq] at GC
        have F := hide (unhide HM hq)
        clear hq HF2 HM
        go_wp2_with fail
        refine (unhide GC).mono ?_
        rintro _ w2 ⟨rfl, b2⟩
        go_wp2
        go_roundw
        case rel => exact ⟨k + 1, by omega, by go_num, F, br.trans (b2.mono br.size)⟩
        case measure => simp [intOf]; omega
    · have hkn : ps.take k = ps := List.take_of_length_le (by have := unhide Hn; omega)
      have h0 := unhide HK
      rw [hkn] at h0
      have F := hide (get_none h0)
      have hd2 : decide ((k : Int) < (n : Int)) = false := by simp; omega
      clear HK h0 hkn H
      go_wp2
      go_ret
      exact ⟨-1, rfl, hide (.inr ⟨rfl, unhide F⟩), br⟩

set_option maxHeartbeats 4000000 in
set_option maxRecDepth 100000 in
theorem implTableGet (v : Value) (ps : List Pt) (view : Int) (name : ByteArray) (w : World) (hl : ps.length ≤ 4194304) (hn : name.size ≤ 281474976710656) (hs : ∀ p ∈ ps, p.2.1.size ≤ 281474976710656) (h : RPt w v ps) :
    Calls Try.prog 15 #[v, .int .i64 view, .string name] w fun e w' => ∃ u, e = .returned (qv (getP ps view name).1 (getP ps view name).2.1 u) ∧ OI w' w.heap.size u (getP ps view name).2.2 ∧ Below w.heap.size w w' := by
  obtain ⟨ao, ca, rfl⟩ := h.form
  have IX := hide fun g w h hg => indexP (.slice ao ps.length ca) ps view name g w hl h hg
  generalize getP ps view name = r at *
  obtain ⟨m, s, xs⟩ := r
  simp only at IX ⊢
  obtain ⟨xl, hxl⟩ : ∃ l, xs.length = l := ⟨_, rfl⟩
  replace hxl := hide hxl
  obtain ⟨w0, hw0⟩ : ∃ y, (w.alloc zpo).alloc (.cells #[.int .i64 view, .string name, .slice none 0 0] 31) = y := ⟨_, rfl⟩
  have B0 : Below w.heap.size w w0 := hw0 ▸ qalloc2 _ _ _
  have LZ : Loc w0 w.heap.size #[.int .i64 0, .string ⟨#[]⟩, .slice none 0 0] := hw0 ▸ (loc_at w _ _ rfl).alloc _
  have LW : Loc w0 (w.heap.size + 1) #[.int .i64 view, .string name, .slice none 0 0] := hw0 ▸ loc_at (w.alloc _) _ _ (by simp)
  have s0 : w0.heap.size = w.heap.size + 2 := by rw [← hw0]; simp
  have HR := hide (h.below B0 (Nat.le_refl _))
  replace hw0 := hide hw0
  obtain ⟨n, hnn⟩ : ∃ n, ps.length = n := ⟨_, rfl⟩
  have Hn := hide hnn
  have HS := hide hs
  rw [hnn] at IX HR hl ⊢
  clear h hnn hs
  have FIN : Hid (∀ w2 m s u xs, OI w2 w0.heap.size u xs → Below w.heap.size w w2 → Loc w2 w.heap.size #[.int .i64 0, .string ⟨#[]⟩, .slice none 0 0] → OI (((w2.setCell ⟨w.heap.size, 0, none⟩ (.int .i64 m)).setCell ⟨w.heap.size, 1, none⟩ (.string s)).setCell ⟨w.heap.size, 2, none⟩ u) w.heap.size u xs ∧ Below w.heap.size w (((w2.setCell ⟨w.heap.size, 0, none⟩ (.int .i64 m)).setCell ⟨w.heap.size, 1, none⟩ (.string s)).setCell ⟨w.heap.size, 2, none⟩ u)) := hide fun w2 m s u xs o b _ => by
    have K5 : Kp w2 (((w2.setCell ⟨w.heap.size, 0, none⟩ (.int .i64 m)).setCell ⟨w.heap.size, 1, none⟩ (.string s)).setCell ⟨w.heap.size, 2, none⟩ u) (fun k => k = w.heap.size) := ((set_kp _ _ _ _).trans (set_kp _ _ _ _)).trans (set_kp _ _ _ _)
    have lt2 := World.ownsRow.lt o
    exact ⟨(o.kp K5 (fun k hk => by have := lt2 k hk; omega)).mono (by omega), Below.kp b K5 b.size (fun k hk => by omega)⟩
  go_enter Try.func15, Try.ntmps15
  go_upto_region 2 with fail
  rw [unhide hw0]
  clear hw0
  go_wp2_with fail
  refine (unhide IX _ _ (unhide HR) LW).mono ?_
  rintro e w1 ⟨q, rfl, HQ, b1⟩
  have Z1 := LZ.below b1 LZ.lt
  have W1 := LW.below b1 LW.lt
  have B1 := B0.trans (b1.mono B0.size)
  have sz1 := b1.size
  have R1 := (unhide HR).below b1 (Nat.le_refl _)
  clear LZ LW B0 b1 HR IX
  rcases unhide HQ with ⟨k, rfl, hk, hg⟩ | ⟨rfl, hg⟩
  · obtain ⟨b, off, u, rfl, c0, c1, c2, ru⟩ := R1.at k (by have := unhide Hn; omega)
    obtain ⟨ua, uc, rfl⟩ := ru.form
    have hd : decide ((k : Int) < 0) = false := by simp
    have hsz := unhide HS _ (pt_mem (show k < ps.length by have := unhide Hn; omega))
    rw [← hg] at c0 c1 c2 ru hsz
    simp only at c0 c1 c2 ru hsz
    have TP := hide (ptold_any m s _ xs w1 ru hsz)
    rw [unhide hxl] at c2 TP
    clear hg HQ R1 W1 ru HS
    go_wp2_with fail
    refine (unhide TP).mono ?_
    rintro e w2 ⟨u2, rfl, o2, b2⟩
    have Z2 := Z1.below b2 Z1.lt
    have B2 := B1.trans (b2.mono B1.size)
    have y0 := Z2.cell 0 rfl
    have y1 := Z2.cell 1 rfl
    have y2 := Z2.cell 2 rfl
    have fy := Z2.frozen
    have R := hide (unhide FIN w2 m s u2 xs (OI.mono o2 sz1) B2 Z2)
    obtain ⟨va, vc, hu2⟩ := o2.form
    rw [unhide hxl] at hu2
    subst hu2
    clear o2 b2 Z2 Z1 B1 FIN TP c0 c1 c2
    go_wp2
    refine bodyPost_ret (v := qv m s (.slice va xl vc)) (by simp [results, Try.results15, go_sem, y0, y1, y2]) rfl ?_
    exact ⟨_, rfl, (unhide R).1, (unhide R).2⟩
  · simp only [Prod.mk.injEq] at hg
    obtain ⟨e1, e2, e3⟩ := hg
    rw [← e1, ← e2] at W1
    rw [← e2] at hn
    have TP := hide (ptold_any m s (.slice none 0 0) xs w1 (by rw [e3]; exact OI.ri (World.ownsRow_nil _ 0 _ _) (by simp)) hn)
    clear e1 e2 e3
    have x0 := W1.cell 0 rfl
    have x1 := W1.cell 1 rfl
    have x2 := W1.cell 2 rfl
    clear HQ R1 HS
    go_wp2_with fail
    refine (unhide TP).mono ?_
    rintro e w2 ⟨u2, rfl, o2, b2⟩
    have Z2 := Z1.below b2 Z1.lt
    have B2 := B1.trans (b2.mono B1.size)
    have y0 := Z2.cell 0 rfl
    have y1 := Z2.cell 1 rfl
    have y2 := Z2.cell 2 rfl
    have fy := Z2.frozen
    have R := hide (unhide FIN w2 m s u2 xs (OI.mono o2 sz1) B2 Z2)
    obtain ⟨va, vc, hu2⟩ := o2.form
    rw [unhide hxl] at hu2
    subst hu2
    clear o2 b2 Z2 Z1 B1 FIN TP x0 x1 x2 W1
    go_wp2
    refine bodyPost_ret (v := qv m s (.slice va xl vc)) (by simp [results, Try.results15, go_sem, y0, y1, y2]) rfl ?_
    exact ⟨_, rfl, (unhide R).1, (unhide R).2⟩
end Go.Proofs.Ytehdchpolgihlaa
