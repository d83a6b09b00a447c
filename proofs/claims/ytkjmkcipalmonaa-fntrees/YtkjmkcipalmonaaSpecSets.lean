/- spec.SetHas, SetOk, SetAdd, SetJoin, Common. -/
import Derived.Test.YtkjmkcipalmonaaIntPieces
import Derived.Test.YtkjmkcipalmonaaSetPlain
import Derived.Deep.RegionHeld3
namespace Go.Proofs.Ytkjmkcipalmonaa
open Go.RowKit

theorem itake_more (xs : List Int) (k : Nat) (h : k < xs.length) : xs.take (k + 1) = xs.take k ++ [xs.getD k 0] := by
  rw [List.take_succ_eq_append_getElem h, List.getD_eq_getElem?_getD, List.getElem?_eq_getElem h]; rfl
theorem getD_mem_int {xs : List Int} {k : Nat} (h : k < xs.length) : xs.getD k 0 ∈ xs := by
  rw [List.getD_eq_getElem?_getD, List.getElem?_eq_getElem h]; exact List.getElem_mem h

set_option maxHeartbeats 1600000 in
set_option maxRecDepth 100000 in
theorem specSetHas (v : Value) (xs : List Int) (i : Int) (w : World) (h : RI w v xs) :
    Calls Try.prog 48 #[v, .int .i64 i] w fun e w' => e = .returned (.bool (decide (i ∈ xs))) ∧ w' = w := by
  have hl := h.1
  obtain ⟨ao, ca, rfl⟩ := h.form
  have H := hide h
  obtain ⟨n, hn⟩ : ∃ n, xs.length = n := ⟨_, rfl⟩
  have Hn := hide hn
  obtain ⟨r, hr⟩ : ∃ r, decide (i ∈ xs) = r := ⟨_, rfl⟩
  have HR := hide hr
  rw [hn] at hl H ⊢
  rw [hr]
  clear h hn hr
  go_enter Try.func48, Try.ntmps48
  go_wp2
  go_loopw [5] (fun j wr => ∃ k : Nat, k ≤ n ∧ j = .int .i64 k ∧ Hid (i ∉ xs.take k) ∧ wr = w) (fun j _ => n - (intOf j).toNat)
  case atStart => exact ⟨0, Nat.zero_le _, rfl, hide (by simp), rfl⟩
  case round =>
    obtain ⟨k, hk, rfl, HK, rfl⟩ := hrel
    by_cases hlt : k < n
    · have hkx : k < xs.length := by have := unhide Hn; omega
      obtain ⟨b, off, rfl, c⟩ := (unhide H).at k hkx
      have HT := hide (itake_more xs k hkx)
      have HM := hide (getD_mem_int hkx)
      generalize xs.getD k 0 = d at *
      by_cases e : d = i
      · subst e
        have hrr : r = true := by rw [← unhide HR]; exact decide_eq_true (unhide HM)
        subst hrr
        clear HT HM HK
        go_wp2
        go_ret
        exact ⟨rfl, rfl⟩
      · have HK' : Hid (i ∉ xs.take (k + 1)) := hide (by rw [unhide HT]; simp; exact ⟨unhide HK, fun e2 => e e2.symm⟩)
        have e' : decide (d = i) = false := by simpa using e
        have e2 : (d == i) = false := by simpa using e
        clear HT HM HK
        go_wp2
        go_roundw
        case rel => exact ⟨k + 1, by omega, by go_num, HK', by first | rfl | trivial⟩
        case measure => simp [intOf]; omega
    · have hkn : k = xs.length := by have := unhide Hn; omega
      have hrr : r = false := by
        rw [← unhide HR]
        have := unhide HK
        rw [hkn, List.take_of_length_le (Nat.le_refl _)] at this
        exact decide_eq_false this
      subst hrr
      clear HK
      go_wp2
      go_ret
      exact ⟨rfl, rfl⟩

end Go.Proofs.Ytkjmkcipalmonaa
