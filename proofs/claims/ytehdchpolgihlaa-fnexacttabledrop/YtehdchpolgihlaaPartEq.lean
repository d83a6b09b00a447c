/- PartEq: tables are held against each other (laws.eqPartS), counted (laws.szPartS). -/
import Derived.Test.YtehdchpolgihlaaPartOne
import Derived.Test.YtehdchpolgihlaaPartOpen
import Derived.Deep.RegionHeld3
namespace Go.Proofs.Ytehdchpolgihlaa
open Go.RowKit
set_option linter.unusedSectionVars false
variable [∀ (a b c d : Int), Decidable (Ok4 a b c d)]
variable [∀ (n f : Int), Decidable (COk n f)]

set_option maxHeartbeats 4000000 in
set_option maxRecDepth 100000 in
theorem eqPartS_yes (v u : Value) (ps : List Pt) (w : World) (hl : ps.length ≤ 4194304) (hv : RPt w v ps) (hu : RPt w u ps) :
    Calls Try.prog 17 #[v, u] w fun e w' => e = .returned (.bool true) ∧ Below w.heap.size w w' := by
  obtain ⟨ao, ca, rfl, ha⟩ := hv
  obtain ⟨bo, cb, rfl, hb⟩ := hu
  obtain ⟨n, hn⟩ : ∃ n, ps.length = n := ⟨_, rfl⟩
  have Hn := hide hn
  rw [hn] at hl ha hb ⊢
  clear hn
  go_enter Try.func17, Try.ntmps17
  go_wp2
  go_loopw [5] (fun i wr => ∃ k : Nat, k ≤ n ∧ i = .int .i64 k ∧ Below w.heap.size w wr) (fun i _ => n - (intOf i).toNat)
  case atStart => exact ⟨0, Nat.zero_le _, rfl, Below.refl _ _⟩
  case round =>
    obtain ⟨k, hk, rfl, br⟩ := hrel
    have hsr := br.size
    by_cases hlt : k < n
    · rcases ha with ha | ⟨g, o, rfl, ha⟩
      · subst ha; have := unhide Hn; simp at this; omega
      rcases hb with hb | ⟨g', o', rfl, hb⟩
      · subst hb; have := unhide Hn; simp at this; omega
      obtain ⟨p, a0, a1, a2, ra⟩ := ha k hlt
      obtain ⟨q, b0, b1, b2, rb⟩ := hb k hlt
      have hg : g < w.heap.size := cell_lt a0
      have hg' : g' < w.heap.size := cell_lt b0
      generalize (ps.getD k zpt).1 = m at *
      generalize (ps.getD k zpt).2.1 = s at *
      generalize (ps.getD k zpt).2.2 = xs at *
      have K : Hid (∀ w', Below wr.heap.size wr w' → Below wr.heap.size wr w' ∧ (w'.cell? ⟨g, o + k * 3, none⟩ = some (.int .i64 m) ∧ w'.cell? ⟨g, o + k * 3 + 1, none⟩ = some (.string s) ∧ w'.cell? ⟨g, o + k * 3 + 2, none⟩ = some p) ∧ (w'.cell? ⟨g', o' + k * 3, none⟩ = some (.int .i64 m) ∧ w'.cell? ⟨g', o' + k * 3 + 1, none⟩ = some (.string s) ∧ w'.cell? ⟨g', o' + k * 3 + 2, none⟩ = some q)) := fun w' hb' => by
        have hw := br.trans (hb'.mono hsr)
        exact ⟨hb', ⟨(hw.cell (p := ⟨g, o + k * 3, none⟩) hg).trans a0, (hw.cell (p := ⟨g, o + k * 3 + 1, none⟩) hg).trans a1, (hw.cell (p := ⟨g, o + k * 3 + 2, none⟩) hg).trans a2⟩, ⟨(hw.cell (p := ⟨g', o' + k * 3, none⟩) hg').trans b0, (hw.cell (p := ⟨g', o' + k * 3 + 1, none⟩) hg').trans b1, (hw.cell (p := ⟨g', o' + k * 3 + 2, none⟩) hg').trans b2⟩⟩
      have EQ : Hid (∀ w', Below wr.heap.size wr w' → Calls Try.prog 16 #[qv m s p, qv m s q] w' fun e w'' => e = .returned (.bool true) ∧ Below w'.heap.size w' w'') := hide fun w' hb' => by
        have hw := br.trans (hb'.mono hsr)
        exact eqPart_yes m s p q xs w' (ra.below hw (Nat.le_refl _)) (rb.below hw (Nat.le_refl _))
      obtain ⟨pa, pc, rfl⟩ := ra.form
      obtain ⟨qa, qc, rfl⟩ := rb.form
      have bA : Below wr.heap.size wr wr.drew := Below.drew (Below.refl _ _)
      have hKeep := unhide K _ bA
      clear ha hb a0 a1 a2 b0 b1 b2 ra rb
      generalize xs.length = xl at *
      go_wp2_with fail
      first | go_region_held3 (fun w' => Below wr.heap.size wr w' ∧ (w'.cell? ⟨g, o + k * 3, none⟩ = some (.int .i64 m) ∧ w'.cell? ⟨g, o + k * 3 + 1, none⟩ = some (.string s) ∧ w'.cell? ⟨g, o + k * 3 + 2, none⟩ = some (.slice pa xl pc)) ∧ (w'.cell? ⟨g', o' + k * 3, none⟩ = some (.int .i64 m) ∧ w'.cell? ⟨g', o' + k * 3 + 1, none⟩ = some (.string s) ∧ w'.cell? ⟨g', o' + k * 3 + 2, none⟩ = some (.slice qa xl qc))) (exact hKeep) (first
        | (go_at_call 16; have hgo := bA; refine (unhide EQ _ bA).mono ?_; rintro e wa ⟨rfl, ba⟩
           have bB : Below wr.heap.size wr wa := bA.trans ba
           have hKeep := unhide K _ bB; clear bA hgo)) | fail
      all_goals
        go_wp2
        go_roundw
        case rel => exact ⟨k + 1, by omega, by go_num, br.trans (bB.mono hsr)⟩
        case measure => simp [intOf]; omega
    · have hkn : k = n := by omega
      subst hkn
      clear ha hb
      go_wp2
      go_ret
      exact ⟨rfl, br⟩

/-- What szPartS counts beside the parts themselves. -/
def psum : List Pr → Nat
  | [] => 0
  | r :: rs => r.2.1.size + r.2.2.2.2.length + psum rs
theorem psum_snoc (rs : List Pr) (r : Pr) : psum (rs ++ [r]) = psum rs + (r.2.1.size + r.2.2.2.2.length) := by
  induction rs with
  | nil => simp [psum]
  | cons x rs ih => simp only [List.cons_append, psum, ih]; omega
theorem psum_take (rs : List Pr) (k : Nat) (hk : k < rs.length) : psum (rs.take (k + 1)) = psum (rs.take k) + ((rs.getD k prz).2.1.size + (rs.getD k prz).2.2.2.2.length) := by
  rw [List.take_succ_eq_append_getElem hk, psum_snoc]
  simp [List.getElem?_eq_getElem hk]
theorem psum_le (rs : List Pr) (k : Nat) : psum (rs.take k) ≤ psum rs := by
  induction rs generalizing k with
  | nil => simp [psum]
  | cons r rs ih =>
    cases k with
    | zero => simp [psum]
    | succ k => simp only [List.take_succ_cons, psum]; have := ih k; omega

set_option maxHeartbeats 4000000 in
set_option maxRecDepth 100000 in
theorem szPartS_yes (al : Option Addr) (cl : Nat) (rs : List Pr) (left : Int) (w : World) (h : ATab w al rs) (hs : (rs.length : Int) + psum rs ≤ left) (hl : left ≤ 1048576) :
    Calls Try.prog 12 #[.slice al rs.length cl, .int .i64 left] w fun e w' => e = .returned (.int .i64 (left - rs.length - psum rs)) ∧ Below w.heap.size w w' := by
  obtain ⟨n, hn⟩ : ∃ n, rs.length = n := ⟨_, rfl⟩
  have Hn := hide hn
  have H := hide h
  rw [hn] at hs ⊢
  clear hn h
  have hd0 : decide (left - (n : Int) < 0) = false := by simp; omega
  go_enter Try.func12, Try.ntmps12
  go_wp2
  go_loopw [1, 5] (fun a i wr => ∃ k : Nat, k ≤ n ∧ i = .int .i64 k ∧ a = .int .i64 (left - n - (psum (rs.take k) : Nat)) ∧ Below w.heap.size w wr) (fun _ i _ => n - (intOf i).toNat)
  case atStart => exact ⟨0, Nat.zero_le _, rfl, by simp [psum], Below.refl _ _⟩
  case round =>
    obtain ⟨k, hk, rfl, rfl, br⟩ := hrel
    have hp := psum_le rs k
    by_cases hlt : k < n
    · have hkx : k < rs.length := by have := unhide Hn; omega
      have hp1 := psum_le rs (k + 1)
      have hps := psum_take rs k hkx
      have HP1 := hide hps
      rw [hps] at hp1
      clear hps
      rcases unhide H with h | ⟨g, off, rfl, h⟩
      · subst h; simp at hkx
      obtain ⟨c0, c1, c2⟩ := h k hkx
      have hg : g < w.heap.size := cell_lt c0
      replace c0 := (br.cell (p := ⟨g, off + k * 3, none⟩) hg).trans c0
      replace c1 := (br.cell (p := ⟨g, off + k * 3 + 1, none⟩) hg).trans c1
      replace c2 := (br.cell (p := ⟨g, off + k * 3 + 2, none⟩) hg).trans c2
      clear h H
      generalize (rs.getD k prz).1 = m at *
      generalize (rs.getD k prz).2.1 = s at *
      generalize (rs.getD k prz).2.2.2.2.length = x at *
      generalize (rs.getD k prz).2.2.1 = ao at *
      generalize (rs.getD k prz).2.2.2.1 = ca at *
      generalize psum (rs.take k) = q at *
      have SZ := hide fun w => szPart_yes m s ao x ca (left - n - q) w (by omega) (by omega)
      have hd1 : decide (left - (n : Int) - (q : Int) - (s.size : Int) - (x : Int) < 0) = false := by simp; omega
      go_wp2_with fail
      refine (unhide SZ _).mono ?_
      rintro e w1 ⟨rfl, b1⟩
      have B1 := br.trans (b1.mono br.size)
      clear c0 c1 c2 SZ b1
      go_wp2
      go_roundw
      case rel => exact ⟨k + 1, by omega, by go_num, by rw [unhide HP1]; simp; omega, B1⟩
      case measure => simp [intOf]; omega
    · have hkn : rs.take k = rs := List.take_of_length_le (by have := unhide Hn; omega)
      rw [hkn]
      clear hp
      go_wp2
      go_ret
      exact ⟨rfl, br⟩
end Go.Proofs.Ytehdchpolgihlaa
