/- laws.szLedger and markLedger from any number on. -/
import Derived.Test.YthdehhenkgkkmaaMarkInts
namespace Go.Proofs.Ythdehhenkgkkmaa
open Go.RowKit

set_option maxHeartbeats 800000 in
set_option maxRecDepth 100000 in
theorem szLedger_yesG (ao bo : Option Addr) (n ca m cb : Nat) (left : Int) (w : World) (h : (n : Int) + m ≤ left) (hl : left ≤ 1048576) :
    Calls Try.prog 17 #[lv (.slice ao n ca) (.slice bo m cb), .int .i64 left] w fun e w' => e = .returned (.int .i64 (left - n - m)) ∧ Below w.heap.size w w' := by
  have h1 : decide (left - (n : Int) < 0) = false := by simp; omega
  have h2 : decide (left - (n : Int) - (m : Int) < 0) = false := by simp; omega
  go_enter Try.func17, Try.ntmps17
  go_wp2_with (first | (go_at_call 33; refine (szIntS_yes _ _ _ _ _ (by omega) (by omega)).mono ?_; rintro e w' ⟨rfl, rfl⟩))
  go_ret
  exact ⟨rfl, (Below.refl _ _).alloc (Nat.le_refl _) _⟩
set_option maxHeartbeats 800000 in
set_option maxRecDepth 100000 in
theorem szLedger_noG (ao bo : Option Addr) (n ca m cb : Nat) (left : Int) (w : World) (h0 : 0 ≤ left) (hl : left ≤ 1048576) (h : left < (n : Int) + m) (hn : n ≤ 9223372036854775807) (hm : m ≤ 9223372036854775807) :
    Calls Try.prog 17 #[lv (.slice ao n ca) (.slice bo m cb), .int .i64 left] w fun e w' => e = .returned (.int .i64 (-1)) ∧ Below w.heap.size w w' := by
  by_cases hn1 : (n : Int) ≤ left
  · have h1 : decide (left - (n : Int) < 0) = false := by simp; omega
    go_enter Try.func17, Try.ntmps17
    go_wp2_with fail
    refine (szIntS_yes _ _ _ _ _ hn1 hl).mono ?_
    rintro e w' ⟨rfl, rfl⟩
    go_wp2_with fail
    refine (szIntS_no _ _ _ _ _ (by omega) (by omega) (by omega) hm).mono ?_
    rintro e w' ⟨rfl, rfl⟩
    go_wp2
    go_ret
    exact ⟨rfl, (Below.refl _ _).alloc (Nat.le_refl _) _⟩
  · go_enter Try.func17, Try.ntmps17
    go_wp2_with (first | (go_at_call 33; refine (szIntS_no _ _ _ _ _ h0 (by omega) hl hn).mono ?_; rintro e w' ⟨rfl, rfl⟩))
    go_ret
    exact ⟨rfl, (Below.refl _ _).alloc (Nat.le_refl _) _⟩

set_option maxHeartbeats 1600000 in
set_option maxRecDepth 100000 in
theorem markLedger_g (k0 lo hi : Nat) (a b : Value) (xs ys : List Int) (w : World) (hx : xs.length ≤ 4194304) (hy : ys.length ≤ 4194304) (hk0 : k0 ≤ 50000000) (hh : hi ≤ w.heap.size) (h : OL w lo hi a b xs ys) :
    Calls Try.prog 22 #[lv a b, .int .i64 k0] w fun e w' => e = .returned (.int .i64 ((k0 : Int) + xs.length + ys.length)) ∧ OL w' lo hi a b (imarks k0 xs.length) (imarks (k0 + xs.length) ys.length) ∧ Kp w w' (fun k => lo ≤ k ∧ k < hi) := by
  obtain ⟨q, hq⟩ : ∃ q, q = k0 + xs.length := ⟨_, rfl⟩
  rw [← hq]
  have ql : q ≤ 100000000 := by omega
  have HQ := hide (show (k0 : Int) + (xs.length : Int) = (q : Int) by omega)
  clear hq
  obtain ⟨ua, uc, rfl⟩ := h.has.form
  obtain ⟨va, vc, rfl⟩ := h.next.form
  have l1 := World.ownsRow.lt h.has
  have l2 := World.ownsRow.lt h.next
  have t1 := h.top
  have t2 := h.top'
  have ne := h.ne
  have L0 := hide (loc2_new w (.slice ua xs.length uc) (.slice va ys.length vc) 42)
  have K0 : Kp w (w.alloc (.cells #[.slice ua xs.length uc, .slice va ys.length vc] 42)) (fun k => lo ≤ k ∧ k < hi) := Below.kpOf ((Below.refl _ _).alloc (Nat.le_refl _) _) _
  have H := hide (h.alloc (.cells #[.slice ua xs.length uc, .slice va ys.length vc] 42))
  have M1 := hide fun w h => imark_any lo k0 (.slice ua xs.length uc) xs w hx (by omega) h
  have M2 := hide fun w h => imark_any lo q (.slice va ys.length vc) ys w hy (by omega) h
  clear h
  go_enter Try.func22, Try.ntmps22
  go_wp2_with fail
  refine (unhide M1 _ (unhide H).has).mono ?_
  rintro _ w1 ⟨rfl, o1, g1⟩
  have k1 := kp_grown g1
  have L1 := (unhide L0).kp k1 (fun e => by have := t1 _ e; omega)
  have n1 := (unhide H).next.kp k1 (fun k hk e => ne k e hk)
  have K1 := K0.trans (k1.mono (fun k e => ⟨(l1 k e).1, t1 k e⟩))
  obtain ⟨p0, p1, _, _⟩ := L1.cells
  clear g1 H L0 K0
  rw [unhide HQ]
  go_wp2_with fail
  refine (unhide M2 _ n1).mono ?_
  rintro _ w2 ⟨rfl, o2, g2⟩
  have k2 := kp_grown g2
  have o1' := o1.kp k2 (fun k hk e => ne k hk e)
  have K2 := K1.trans (k2.mono (fun k e => ⟨(l2 k e).1, t2 k e⟩))
  go_wp2
  go_ret
  exact ⟨by rw [unhide HQ]; rfl, ⟨o1', o2, t1, t2, ne⟩, K2⟩

theorem markLedger_k (k lo hi : Nat) (a b : Value) (xs ys : List Int) (K : Int) (w : World) (hK : K = k) (hx : xs.length ≤ 4194304) (hy : ys.length ≤ 4194304) (hk0 : k ≤ 50000000) (hh : hi ≤ w.heap.size) (h : OL w lo hi a b xs ys) :
    Calls Try.prog 22 #[lv a b, .int .i64 K] w fun e w' => e = .returned (.int .i64 (K + xs.length + ys.length)) ∧ Kp w w' (fun k => lo ≤ k ∧ k < hi) := by
  subst hK
  refine (markLedger_g k lo hi a b xs ys w hx hy hk0 hh h).mono ?_
  rintro e w' ⟨rfl, _, h2⟩
  exact ⟨rfl, h2⟩
end Go.Proofs.Ythdehhenkgkkmaa
