/- PartHeld: laws.heldPartS; laws.szPartS where there is too much. -/
import Derived.Test.YtehdchpolgihlaaPartMark
namespace Go.Proofs.Ytehdchpolgihlaa
open Go.RowKit
set_option linter.unusedSectionVars false
variable [∀ (a b c d : Int), Decidable (Ok4 a b c d)]
variable [∀ (n f : Int), Decidable (COk n f)]

theorem pmk_get (k0 : Nat) (ps : List Pt) (k : Nat) (hk : k < ps.length) : (pmk k0 ps).getD k zpt = ((pend k0 (ps.take k) : Int), markT (pend k0 (ps.take k) + 1), imarks (pend k0 (ps.take k) + 2) (ps.getD k zpt).2.2.length) := by
  induction ps generalizing k0 k with
  | nil => simp at hk
  | cons p ps ih =>
    cases k with
    | zero => rfl
    | succ k =>
      have := ih (k0 + 2 + p.2.2.length) k (by simpa using hk)
      simpa [pmk, pend] using this

set_option maxHeartbeats 4000000 in
set_option maxRecDepth 100000 in
theorem heldPartS_any (v : Value) (ps : List Pt) (k0 : Nat) (w : World) (hn : ps.length ≤ 4194304) (hp : pend k0 ps ≤ 100000000) (h : RPt w v (pmk k0 ps)) :
    Calls Try.prog 21 #[v, .int .i64 k0] w fun e w' => e = .returned (.int .i64 (pend k0 ps)) ∧ Below w.heap.size w w' := by
  obtain ⟨ao, ca, rfl⟩ := h.form
  rw [pmk_len] at h ⊢
  obtain ⟨n, hn'⟩ : ∃ n, ps.length = n := ⟨_, rfl⟩
  have Hn := hide hn'
  rw [hn'] at hn h ⊢
  have H := hide h
  clear h hn'
  go_enter Try.func21, Try.ntmps21
  go_wp2
  go_loopw [1, 5] (fun c i wr => ∃ k : Nat, k ≤ n ∧ i = .int .i64 k ∧ c = .int .i64 ((pend k0 (ps.take k) : Nat) : Int) ∧ Below w.heap.size w wr) (fun _ i _ => n - (intOf i).toNat)
  case atStart => exact ⟨0, Nat.zero_le _, rfl, by simp [pend], Below.refl _ _⟩
  case round =>
    obtain ⟨k, hk, rfl, rfl, br⟩ := hrel
    have hpk := pend_le k0 ps k
    by_cases hlt : k < n
    · have hkx : k < ps.length := by have := unhide Hn; omega
      have hge := pmk_get k0 ps k hkx
      have HPT := hide (pend_take k0 ps k hkx)
      have hpk1 := pend_le k0 ps (k + 1)
      rw [unhide HPT] at hpk1
      obtain ⟨g, o, u, rfl, c0, c1, c2, ru⟩ := ((unhide H).below br (Nat.le_refl _)).at k (by rw [pmk_len]; exact hkx)
      rw [hge] at c0 c1 ru
      simp only at c0 c1 ru
      generalize (ps.getD k zpt).2.2.length = xl at *
      generalize pend k0 (ps.take k) = q at *
      have MT := hide fun w => markText_any (q + 1) w (by omega) (by omega)
      generalize markT (q + 1) = mt at *
      have K : Hid (∀ w', Below wr.heap.size wr w' → Below wr.heap.size wr w' ∧ w'.cell? ⟨g, o + k * 3, none⟩ = some (.int .i64 q) ∧ w'.cell? ⟨g, o + k * 3 + 1, none⟩ = some (.string mt) ∧ w'.cell? ⟨g, o + k * 3 + 2, none⟩ = some u) := hide fun w' hb' =>
        ⟨hb', (hb'.cell (p := ⟨g, o + k * 3, none⟩) (cell_lt c0)).trans c0, (hb'.cell (p := ⟨g, o + k * 3 + 1, none⟩) (cell_lt c1)).trans c1, (hb'.cell (p := ⟨g, o + k * 3 + 2, none⟩) (cell_lt c2)).trans c2⟩
      have RU := hide fun w' (hb' : Below wr.heap.size wr w') => ru.below hb' (Nat.le_refl _)
      obtain ⟨ua, uc, rfl⟩ := ru.form
      rw [imarks_len] at K RU c2
      have HE := hide fun w h => iheld_any (.slice ua xl uc) xl (q + 2) w (by omega) h
      have bA : Below wr.heap.size wr wr.drew := Below.drew (Below.refl _ _)
      have hKeep := unhide K _ bA
      clear hge ru H
      go_upto_region 7 with fail
      first | go_region_held3 (fun w' => Below wr.heap.size wr w' ∧ w'.cell? ⟨g, o + k * 3, none⟩ = some (.int .i64 q) ∧ w'.cell? ⟨g, o + k * 3 + 1, none⟩ = some (.string mt) ∧ w'.cell? ⟨g, o + k * 3 + 2, none⟩ = some (.slice ua xl uc)) (exact hKeep) (first
        | (go_at_call 39; have hgo := bA; refine (unhide MT _).mono ?_; rintro e wa ⟨rfl, ba⟩
           have bB : Below wr.heap.size wr wa := bA.trans (ba.mono bA.size)
           have hKeep := unhide K _ bB; clear bA hgo ba)) | fail
      all_goals
        have e2 := hKeep.2.2.2
        have hd1 : decide ((q : Int) + 1 + 1 + (xl : Int) < 0) = false := by simp; omega
        clear hKeep c0 c1 c2
        go_wp2_with fail
        refine (unhide HE _ (unhide RU _ bB)).mono ?_
        rintro e w4 ⟨rfl, rfl⟩
        clear e2 RU HE K
        go_wp2
        go_roundw
        case rel => exact ⟨k + 1, by omega, by go_num, by rw [unhide HPT]; simp, br.trans (bB.mono br.size)⟩
        case measure => simp [intOf]; omega
    · have hkn : ps.take k = ps := List.take_of_length_le (by have := unhide Hn; omega)
      rw [hkn]
      clear hpk H
      go_wp2
      go_ret
      exact ⟨rfl, br⟩

set_option maxHeartbeats 4000000 in
set_option maxRecDepth 100000 in
theorem szPartS_no (al : Option Addr) (cl : Nat) (rs : List Pr) (left : Int) (w : World) (h : ATab w al rs) (hb : ∀ r ∈ rs, r.2.1.size ≤ maxLen ∧ r.2.2.2.2.length ≤ maxLen) (h0 : 0 ≤ left) (hm : rs.length ≤ maxLen) (hs : left < (rs.length : Int) + psum rs) (hl : left ≤ 1048576) :
    Calls Try.prog 12 #[.slice al rs.length cl, .int .i64 left] w fun e w' => e = .returned (.int .i64 (-1)) ∧ Below w.heap.size w w' := by
  obtain ⟨n, hn⟩ : ∃ n, rs.length = n := ⟨_, rfl⟩
  have Hn := hide hn
  have H := hide h
  have HB := hide hb
  unfold maxLen at hm
  rw [hn] at hs hm ⊢
  clear hn h hb
  by_cases h1 : left < n
  · have hd0 : decide (left - (n : Int) < 0) = true := by simp; omega
    clear H HB
    go_enter Try.func12, Try.ntmps12
    go_wp2
    go_ret
    exact ⟨rfl, Below.refl _ _⟩
  have hd0 : decide (left - (n : Int) < 0) = false := by simp; omega
  go_enter Try.func12, Try.ntmps12
  go_wp2
  go_loopw [1, 5] (fun a i wr => ∃ k : Nat, k ≤ n ∧ i = .int .i64 k ∧ a = .int .i64 (left - n - (psum (rs.take k) : Nat)) ∧ (psum (rs.take k) : Int) ≤ left - n ∧ Below w.heap.size w wr) (fun _ i _ => n - (intOf i).toNat)
  case atStart => exact ⟨0, Nat.zero_le _, rfl, by simp [psum], by simp [psum]; omega, Below.refl _ _⟩
  case round =>
    obtain ⟨k, hk, rfl, rfl, hp, br⟩ := hrel
    by_cases hlt : k < n
    · have hkx : k < rs.length := by have := unhide Hn; omega
      have HP1 := hide (psum_take rs k hkx)
      have hbk := unhide HB (rs.getD k prz) (by rw [List.getD_eq_getElem?_getD, List.getElem?_eq_getElem hkx]; exact List.getElem_mem hkx)
      rcases unhide H with h | ⟨g, off, rfl, h⟩
      · subst h; simp at hkx
      obtain ⟨c0, c1, c2⟩ := h k hkx
      have hg : g < w.heap.size := cell_lt c0
      replace c0 := (br.cell (p := ⟨g, off + k * 3, none⟩) hg).trans c0
      replace c1 := (br.cell (p := ⟨g, off + k * 3 + 1, none⟩) hg).trans c1
      replace c2 := (br.cell (p := ⟨g, off + k * 3 + 2, none⟩) hg).trans c2
      clear h H HB
      generalize (rs.getD k prz).1 = m at *
      generalize (rs.getD k prz).2.1 = s at *
      generalize (rs.getD k prz).2.2.2.2.length = x at *
      generalize (rs.getD k prz).2.2.1 = ao at *
      generalize (rs.getD k prz).2.2.2.1 = ca at *
      generalize psum (rs.take k) = q at *
      obtain ⟨hb1, hb2⟩ := hbk
      unfold maxLen at hb1 hb2
      by_cases hfit : (s.size : Int) + x ≤ left - n - q
      · have SZ := hide fun w => szPart_yes m s ao x ca (left - n - q) w hfit (by omega)
        have hd1 : decide (left - (n : Int) - (q : Int) - (s.size : Int) - (x : Int) < 0) = false := by simp; omega
        go_wp2_with fail
        refine (unhide SZ _).mono ?_
        rintro e w1 ⟨rfl, b1⟩
        have B1 := br.trans (b1.mono br.size)
        clear c0 c1 c2 SZ b1
        go_wp2
        go_roundw
        case rel => exact ⟨k + 1, by omega, by go_num, by rw [unhide HP1]; simp; omega, by rw [unhide HP1]; simp; omega, B1⟩
        case measure => simp [intOf]; omega
      · have SZ := hide fun w => szPart_no m s ao x ca (left - n - q) w (by omega) (by omega) (by omega) (by omega) (by omega)
        go_wp2_with fail
        refine (unhide SZ _).mono ?_
        rintro e w1 ⟨rfl, b1⟩
        have B1 := br.trans (b1.mono br.size)
        clear c0 c1 c2 SZ b1
        go_wp2
        go_ret
        exact ⟨rfl, B1⟩
    · have hkn : rs.take k = rs := List.take_of_length_le (by have := unhide Hn; omega)
      rw [hkn] at hp
      omega
end Go.Proofs.Ytehdchpolgihlaa
