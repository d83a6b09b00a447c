/- impl.Number: what it answers. -/
import Derived.Test.YtnbiphlificliaaDoorAtoi
import Derived.Test.YtnbiphlificliaaDoorSpecNumber
import Derived.Test.YtnbiphlificliaaDoorReadable
namespace Go.Proofs.YtnbiphlificliaaDoor
open Go.RowKit
set_option linter.unusedSectionVars false

set_option maxHeartbeats 800000 in
set_option maxRecDepth 100000 in
theorem readDigits_some (s : ByteArray) (n : Nat) (w : World) (ht : Pow w) (h : Hid (numOf s.data.toList = some n)) :
    Calls Tryd.prog 70 #[.string s] w fun e w' => e = .returned (.int .i64 n) ∧ Below w.heap.size w w' := by
  obtain ⟨h1, h2⟩ := numOf_some h.out
  have hs : (⟨(Lib.itoa (n : Int)).toArray⟩ : ByteArray) = s := by rw [itoa_nat, h2]
  have HA := hide (atoi_num s n w h)
  have HC := hide fun w ht => implDigits_any (n : Int) w (by omega) (by omega) ht
  rw [hs] at HC
  have HT := hide ht
  clear hs h2 ht
  go_enter Tryd.func70, Tryd.ntmps70
  go_wp2_with fail
  refine (unhide HA).mono ?_
  rintro e w1 ⟨rfl, b1⟩
  have s1 := b1.size
  have H1 := hide ((unhide HT).below b1)
  go_wp2_with fail
  refine (unhide HC _ (unhide H1)).mono ?_
  rintro e w2 ⟨rfl, b2⟩
  go_wp2
  go_ret
  exact ⟨rfl, b1.trans (b2.mono s1)⟩

/-- What the package variables hold: the table of powers, and three errors that are not nil. -/
structure Env (w : World) : Prop where
  pow : Pow w
  no : ∃ u pv, w.cell? ⟨0, 0, none⟩ = some (.iface u pv)
  syn : ∃ u pv, w.cell? ⟨1, 0, none⟩ = some (.iface u pv)
  ran : ∃ u pv, w.cell? ⟨2, 0, none⟩ = some (.iface u pv)
theorem Env.below {w w' : World} (h : Env w) (hb : Below w.heap.size w w') : Env w' := by
  refine ⟨h.pow.below hb, ?_, ?_, ?_⟩
  · obtain ⟨u, pv, e⟩ := h.no; exact ⟨u, pv, (hb.cell (cell_lt e)).trans e⟩
  · obtain ⟨u, pv, e⟩ := h.syn; exact ⟨u, pv, (hb.cell (cell_lt e)).trans e⟩
  · obtain ⟨u, pv, e⟩ := h.ran; exact ⟨u, pv, (hb.cell (cell_lt e)).trans e⟩

set_option maxHeartbeats 1600000 in
set_option maxRecDepth 100000 in
theorem readDigits_none (s : ByteArray) (hs : s.size ≤ 1048576) (u : TypeId) (pv : Value) (w : World) (hE : Env w) (he : w.cell? ⟨0, 0, none⟩ = some (.iface u pv)) (h : Hid (numOf s.data.toList = none)) :
    Calls Tryd.prog 70 #[.string s] w fun e w' => e = .panicked [{ v := .iface u pv, recovered := false }] ∧ Below w.heap.size w w' := by
  obtain ⟨u1, p1, hy⟩ := hE.syn
  obtain ⟨u2, p2, hr⟩ := hE.ran
  have HA := hide (atoi_any s hs w u1 u2 p1 p2 hy hr)
  have hlt : 0 < w.heap.size := cell_lt he
  have HE := hide hE
  clear hE hy hr
  go_enter Tryd.func70, Tryd.ntmps70
  go_wp2_with fail
  refine (unhide HA).mono ?_
  rintro e w1 ⟨h1, b1⟩
  have s1 := b1.size
  have e1 := (b1.cell hlt).trans he
  rcases h1 with ⟨v, rfl⟩ | ⟨v, t, x, rfl⟩
  · by_cases h0 : v < 0
    · go_wp2
      exact ⟨rfl, rfl, b1⟩
    · have hd0 : decide (v < 0) = false := by simpa using h0
      by_cases h9 : 999999 < v
      · go_wp2
        exact ⟨rfl, rfl, b1⟩
      · have hd9 : decide (999999 < v) = false := by simpa using h9
        have H1 := hide ((unhide HE).below b1).pow
        obtain ⟨n, rfl⟩ := Int.eq_ofNat_of_zero_le (Int.not_lt.1 h0)
        obtain ⟨r, hr⟩ : ∃ r : ByteArray, r = ⟨(Lib.itoa (n : Int)).toArray⟩ := ⟨_, rfl⟩
        have hne : r ≠ s := by
          intro e
          rw [hr, itoa_nat] at e
          have := h.out
          rw [← e] at this
          rw [numOf_of (by omega)] at this
          cases this
        have hne' := str_ne hne
        have HC := hide fun w ht => implDigits_any (n : Int) w (by omega) (by omega) ht
        rw [← hr] at HC
        clear hr hne
        go_wp2_with fail
        refine (unhide HC _ (unhide H1)).mono ?_
        rintro e w2 ⟨rfl, b2⟩
        have e2 := (b2.cell (Nat.lt_of_lt_of_le hlt s1)).trans e1
        go_wp2
        exact ⟨rfl, rfl, b1.trans (b2.mono s1)⟩
  · go_wp2
    exact ⟨rfl, rfl, b1⟩
end Go.Proofs.YtnbiphlificliaaDoor
