/- PartMark: tables are marked (laws.markPartS), and the marks are asked for (laws.heldPartS). -/
import Derived.Test.YtehdchpolgihlaaPartTo
import Derived.Test.YtehdchpolgihlaaMarkT
namespace Go.Proofs.Ytehdchpolgihlaa
open Go.RowKit
set_option linter.unusedSectionVars false
variable [∀ (a b c d : Int), Decidable (Ok4 a b c d)]
variable [∀ (n f : Int), Decidable (COk n f)]

/-- The marks of a table, from k on; where they end. -/
def pmk : Nat → List Pt → List Pt
  | _, [] => []
  | k, p :: ps => ((k : Int), markT (k + 1), imarks (k + 2) p.2.2.length) :: pmk (k + 2 + p.2.2.length) ps
def pend : Nat → List Pt → Nat
  | k, [] => k
  | k, p :: ps => pend (k + 2 + p.2.2.length) ps
theorem pmk_len (k : Nat) (ps : List Pt) : (pmk k ps).length = ps.length := by
  induction ps generalizing k with
  | nil => rfl
  | cons p ps ih => simp [pmk, ih]
theorem pmk_snoc (k : Nat) (ps : List Pt) (p : Pt) : pmk k (ps ++ [p]) = pmk k ps ++ [((pend k ps : Int), markT (pend k ps + 1), imarks (pend k ps + 2) p.2.2.length)] ∧ pend k (ps ++ [p]) = pend k ps + 2 + p.2.2.length := by
  induction ps generalizing k with
  | nil => exact ⟨rfl, rfl⟩
  | cons x ps ih => simp only [List.cons_append, pmk, pend, (ih _).1, (ih _).2]; exact ⟨trivial, trivial⟩
theorem pend_take (k0 : Nat) (ps : List Pt) (k : Nat) (hk : k < ps.length) : pend k0 (ps.take (k + 1)) = pend k0 (ps.take k) + 2 + (ps.getD k zpt).2.2.length := by
  rw [List.take_succ_eq_append_getElem hk, (pmk_snoc _ _ _).2]
  simp [List.getElem?_eq_getElem hk]
theorem pend_ge (k0 : Nat) (ps : List Pt) : k0 ≤ pend k0 ps := by
  induction ps generalizing k0 with
  | nil => exact Nat.le_refl _
  | cons p ps ih => have := ih (k0 + 2 + p.2.2.length); simp only [pend]; omega
theorem pend_le (k0 : Nat) (ps : List Pt) (k : Nat) : pend k0 (ps.take k) ≤ pend k0 ps := by
  induction ps generalizing k0 k with
  | nil => simp [pend]
  | cons p ps ih =>
    cases k with
    | zero => simp only [List.take_zero, pend]; have := pend_ge (k0 + 2 + p.2.2.length) ps; omega
    | succ k => simp only [List.take_succ_cons, pend]; exact ih _ _
/-- What of the table is marked behind k rounds. -/
def pmix (k0 k : Nat) (ps : List Pt) : List Pt := pmk k0 (ps.take k) ++ ps.drop k
theorem pmix_len (k0 k : Nat) (ps : List Pt) (h : k ≤ ps.length) : (pmix k0 k ps).length = ps.length := by
  simp [pmix, pmk_len]; omega
theorem pmix_get (k0 k : Nat) (ps : List Pt) (h : k < ps.length) : (pmix k0 k ps).getD k zpt = ps.getD k zpt := by
  have hl : (pmk k0 (ps.take k)).length = k := by rw [pmk_len]; simp; omega
  unfold pmix
  rw [List.getD_eq_getElem?_getD, List.getElem?_append_right (by omega), hl, Nat.sub_self, List.getElem?_drop, Nat.add_zero, ← List.getD_eq_getElem?_getD]
theorem pmix_set (k0 k : Nat) (ps : List Pt) (h : k < ps.length) : (pmix k0 k ps).set k ((pend k0 (ps.take k) : Int), markT (pend k0 (ps.take k) + 1), imarks (pend k0 (ps.take k) + 2) (ps.getD k zpt).2.2.length) = pmix k0 (k + 1) ps := by
  have hl : (pmk k0 (ps.take k)).length = k := by rw [pmk_len]; simp; omega
  unfold pmix
  rw [List.set_append_right _ _ (by omega), hl, Nat.sub_self, List.drop_eq_getElem_cons h, List.set_cons_zero, List.take_succ_eq_append_getElem h, (pmk_snoc _ _ _).1, List.append_assoc]
  simp [List.getElem?_eq_getElem h]

set_option maxHeartbeats 8000000 in
set_option maxRecDepth 100000 in
theorem markPartS_any (lo hi : Nat) (v : Value) (ps : List Pt) (vs : List Value) (k0 : Nat) (w : World) (hn : ps.length ≤ 4194304) (hw : ∀ p ∈ ps, p.2.2.length ≤ 4194304) (hp : pend k0 ps ≤ 100000000) (h : OPR w lo hi v ps vs) :
    Calls Try.prog 18 #[v, .int .i64 k0] w fun e w' => e = .returned (.int .i64 (pend k0 ps)) ∧ OPR w' lo hi v (pmk k0 ps) vs ∧ Kp w w' (fun b => lo ≤ b ∧ b < hi) := by
  obtain ⟨va, vc, rfl⟩ := OPt.form ⟨vs, h.tab⟩
  obtain ⟨n, hn'⟩ : ∃ n, ps.length = n := ⟨_, rfl⟩
  have Hn := hide hn'
  have HW := hide hw
  rw [hn'] at hn h ⊢
  have HS := hide h
  clear hw h hn'
  go_enter Try.func18, Try.ntmps18
  go_wp2
  go_loopw [1, 5] (fun c i wr => ∃ k : Nat, k ≤ n ∧ i = .int .i64 k ∧ c = .int .i64 ((pend k0 (ps.take k) : Nat) : Int) ∧ OPR wr lo hi (.slice va n vc) (pmix k0 k ps) vs ∧ Kp w wr (fun b => lo ≤ b ∧ b < hi)) (fun _ i _ => n - (intOf i).toNat)
  case atStart => exact ⟨0, Nat.zero_le _, rfl, by simp [pend], by simpa [pmix, pmk] using unhide HS, Kp.refl _ _⟩
  case round =>
    clear HS
    obtain ⟨k, hk, rfl, rfl, os, kr⟩ := hrel
    have hpk := pend_le k0 ps k
    by_cases hlt : k < n
    · have hkx : k < ps.length := by have := unhide Hn; omega
      have hlen : (pmix k0 k ps).length = n := by rw [pmix_len k0 k ps (by omega)]; exact unhide Hn
      have hge := pmix_get k0 k ps hkx
      have hse := pmix_set k0 k ps hkx
      have hpt := pend_take k0 ps k hkx
      have hpk1 := pend_le k0 ps (k + 1)
      have hxl := unhide HW _ (pt_mem hkx)
      have hkl : k < (pmix k0 k ps).length := by omega
      obtain ⟨g, rfl⟩ : ∃ g, va = some ⟨g, 0, none⟩ := by
        rcases os.tab.row.2 with ⟨e, h0⟩ | ⟨g, cap, cur, e, _⟩
        · omega
        · injection e with e1 e2 e3; exact ⟨g, e1⟩
      have hrow := os.tab.row
      rw [hlen] at hrow
      have hglo := (World.ownsRow.lt hrow g rfl).1
      have hghi := os.rowHi g rfl
      have hplen : (pcells (((pmix k0 k ps).map phd).zip vs)).length = n * 3 := by rw [pcells_len]; simp [os.tab.len, hlen]
      have hou := os.tab.each k hkl
      have huh := os.eachHi k hkl
      have hne : (vs.getD k (.slice none 0 0)).ownBlock ≠ some g := pt_oi os.tab.row hou g rfl
      have hzl : ((pmix k0 k ps).map phd).zip vs = ((pmix k0 k ps).map phd).zip vs := rfl
      have c2 : wr.cell? ⟨g, k * 3 + 2, none⟩ = some (vs.getD k (.slice none 0 0)) := by
        have := hrow.cellAt (k * 3 + 2) (by omega)
        rw [pcells_get _ k _ (by simp [os.tab.len]; omega) (by omega), pzip_get _ vs os.tab.len k hkl] at this
        exact this
      rw [hge] at hou
      generalize (ps.getD k zpt).2.2 = xs at *
      generalize hqe : pend k0 (ps.take k) = q at *
      obtain ⟨u, hu⟩ : ∃ u, vs.getD k (.slice none 0 0) = u := ⟨_, rfl⟩
      have HU := hide hu
      rw [hu] at hou huh hne c2
      obtain ⟨y0, d0⟩ : ∃ y, wr.cell? ⟨g, k * 3, none⟩ = some y := ⟨_, (hrow.cellAt (k * 3) (by omega)).trans (List.getElem?_eq_getElem (by rw [hplen]; omega))⟩
      have f0 := hrow.frozenAt (k * 3)
      obtain ⟨w1, hw1⟩ : ∃ y, wr.setCell ⟨g, k * 3, none⟩ (.int .i64 (q : Int)) = y := ⟨_, rfl⟩
      have k1 : Kp wr w1 (fun b => b = g) := hw1 ▸ set_kp _ _ _ _
      have r1 := hw1 ▸ (hrow.stored (k * 3) (.int .i64 (q : Int))).1
      have MT := hide fun w => markText_any (q + 1) w (by omega) (by omega)
      have HSE := hide hse
      have HPT := hide hpt
      have T := hide os.tab
      have TOP := os.top
      have RH := hide os.rowHi
      have EH := hide os.eachHi
      have MK := hide fun w h => imark_any lo (q + 2) u xs w hxl (by omega) h
      clear hzl hge hu hse hpt os
      go_wp2_with fail
      refine (unhide MT _).mono ?_
      rintro e w2 ⟨rfl, b2⟩
      have r2 := World.ownsRow.kept (row := none) r1 ⟨b2.os, b2.tape, b2.output, b2.size, fun k hk _ => b2.block k hk⟩ (by simp [Value.ownBlock])
      obtain ⟨y1, d1⟩ : ∃ y, w2.cell? ⟨g, k * 3 + 1, none⟩ = some y := ⟨_, (r2.cellAt (k * 3 + 1) (by omega)).trans (List.getElem?_eq_getElem (by rw [List.length_set, hplen]; omega))⟩
      have f1 := r2.frozenAt (k * 3 + 1)
      have c2' : w2.cell? ⟨g, k * 3 + 2, none⟩ = some u := by
        have h1 : w1.cell? ⟨g, k * 3 + 2, none⟩ = some u := hw1 ▸ (World.cell?_setCell_other _ _ _ _ (by simp)).trans c2
        exact (b2.cell (p := ⟨g, k * 3 + 2, none⟩) (cell_lt h1)).trans h1
      obtain ⟨mt, hmt⟩ : ∃ t, markT (q + 1) = t := ⟨_, rfl⟩
      rw [hmt] at HSE ⊢
      clear hmt
      obtain ⟨w3, hw3⟩ : ∃ y, w2.setCell ⟨g, k * 3 + 1, none⟩ (.string mt) = y := ⟨_, rfl⟩
      have r3 := hw3 ▸ (r2.stored (k * 3 + 1) (.string mt)).1
      have k3 : Kp wr w3 (fun b => b = g) := (k1.trans (Below.kpOf b2 _)).trans (hw3 ▸ set_kp _ _ _ _)
      have c3 : w3.cell? ⟨g, k * 3 + 2, none⟩ = some u := hw3 ▸ (World.cell?_setCell_other _ _ _ _ (by simp)).trans c2'
      have o3 : OI w3 lo u xs := hou.kp k3 (fun b hb e => hne (by rw [← e]; exact hb))
      have lu := World.ownsRow.lt hou
      obtain ⟨ua, uc, rfl⟩ := o3.form
      have O3 := hide o3
      have R3 := hide r3
      clear c2 c2' d0 f0 r1 r2 b2 k1 MT hou hrow r3 o3 hw1
      go_wp2_with fail
      refine (unhide MK _ (unhide O3)).mono ?_
      rintro e w4 ⟨rfl, o4, g4⟩
      have T4 : OPtV w4 lo (.slice (some ⟨g, 0, none⟩) n vc) (pmix k0 (k + 1) ps) vs := by
        rw [← unhide HSE]
        refine opt_mark (unhide T) hkl (by rw [hlen]; exact unhide R3) k3 (by rw [unhide HU]; exact o4) (by rw [unhide HU]; exact g4)
      have K4 : Kp w w4 (fun b => lo ≤ b ∧ b < hi) := (kr.trans (k3.mono fun b e => e ▸ ⟨hglo, hghi⟩)).trans ((kp_grown g4).mono fun b e => ⟨(lu b e).1, huh b e⟩)
      have OP : Hid (OPR w4 lo hi (.slice (some ⟨g, 0, none⟩) n vc) (pmix k0 (k + 1) ps) vs) := hide ⟨T4, by have := k3.size; have := g4.size; omega, unhide RH, fun j hj => unhide EH j (by rw [hlen]; rw [pmix_len k0 (k + 1) ps (by omega), unhide Hn] at hj; exact hj)⟩
      clear T4 o4 g4 c3 d1 f1 k3 lu O3 R3 T RH EH huh hne kr hw3
      go_wp2
      go_roundw
      case rel => exact ⟨k + 1, by omega, by go_num, by rw [unhide HPT]; simp, unhide OP, K4⟩
      case measure => simp [intOf]; omega
    · have hkn : ps.take k = ps := List.take_of_length_le (by have := unhide Hn; omega)
      have hpm : pmix k0 k ps = pmk k0 ps := by unfold pmix; rw [hkn, List.drop_of_length_le (by have := unhide Hn; omega), List.append_nil]
      rw [hpm] at os
      rw [hkn]
      have OS := hide os
      clear os hpm hpk
      go_wp2
      go_ret
      exact ⟨rfl, unhide OS, kr⟩
end Go.Proofs.Ytehdchpolgihlaa
