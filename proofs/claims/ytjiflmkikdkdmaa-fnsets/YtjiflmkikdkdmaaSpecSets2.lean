/- spec.Common, spec.SetOk. -/
import Derived.Test.YtjiflmkikdkdmaaSpecSets
import Derived.BigQuiet
namespace Go.Proofs.Ytjiflmkikdkdmaa
open Go.RowKit
set_option linter.unusedSectionVars false

theorem com_snoc (l bs : List Int) (x : Int) : comL (l ++ [x]) bs = comL l bs + (if decide (x ∈ bs) then 1 else 0) := by
  unfold comL
  rw [List.filter_append, List.length_append]
  by_cases h : x ∈ bs
  · simp [h]
  · simp [h]

set_option maxHeartbeats 4000000 in
set_option maxRecDepth 100000 in
theorem specCommon (va vb : Value) (xs bs : List Int) (w : World) (ha : RI w va xs) (hb : RI w vb bs) :
    Calls Try.prog 23 #[va, vb] w fun e w' => e = .returned (.int .i64 (comL xs bs)) ∧ w' = w := by
  have hl := ha.1
  obtain ⟨aa, ca, rfl⟩ := ha.form
  obtain ⟨ba, cb, rfl⟩ := hb.form
  have HA := hide ha
  have SH := hide fun i => specSetHas (.slice ba bs.length cb) bs i w hb
  obtain ⟨n, hn⟩ : ∃ n, xs.length = n := ⟨_, rfl⟩
  have Hn := hide hn
  rw [hn] at HA hl ⊢
  clear ha hb hn
  generalize bs.length = m at *
  go_enter Try.func23, Try.ntmps23
  go_wp2
  go_loopw [5, 6] (fun c j wr => ∃ k : Nat, k ≤ n ∧ j = .int .i64 k ∧ c = .int .i64 ((comL (xs.take k) bs : Nat) : Int) ∧ wr = w) (fun _ j _ => n - (intOf j).toNat)
  case atStart => exact ⟨0, Nat.zero_le _, rfl, rfl, rfl⟩
  case round =>
    obtain ⟨k, hk, rfl, rfl, rfl⟩ := hrel
    by_cases hlt : k < n
    · have hkx : k < xs.length := by have := unhide Hn; omega
      obtain ⟨b, off, rfl, c⟩ := (unhide HA).at k hkx
      have HT := hide (show comL (xs.take (k + 1)) bs = comL (xs.take k) bs + (if decide (xs.getD k 0 ∈ bs) then 1 else 0) by
        rw [take_more xs k hkx, com_snoc])
      have hcl := com_le (xs.take k) bs
      rw [List.length_take] at hcl
      have hcb : comL (xs.take k) bs ≤ 4194304 := by omega
      clear hcl
      generalize xs.getD k 0 = d at *
      have SD := hide (unhide SH d)
      generalize decide (d ∈ bs) = q at *
      generalize comL (xs.take k) bs = cc at *
      generalize hck : comL (xs.take (k + 1)) bs = ck at *
      have BT := hide fun w => bit_any q w
      have hq : (if q = true then (1 : Int) else 0) = 0 ∨ (if q = true then (1 : Int) else 0) = 1 := by cases q <;> simp
      have HC := hide (show ((ck : Nat) : Int) = (cc : Int) + (if q = true then (1 : Int) else 0) by rw [unhide HT]; cases q <;> simp)
      generalize (if q = true then (1 : Int) else 0) = qq at *
      clear HT
      go_wp2_with fail
      refine (unhide SD).mono ?_
      rintro _ w1 ⟨rfl, rfl⟩
      go_wp2_with fail
      refine (unhide BT _).mono ?_
      rintro _ w2 ⟨rfl, rfl⟩
      go_wp2
      go_roundw
      case rel => exact ⟨k + 1, by omega, by go_num, by rw [hck, unhide HC]; try go_num, by first | rfl | trivial⟩
      case measure => simp [intOf]; omega
    · have hkn : k = xs.length := by have := unhide Hn; omega
      have e1 : xs.take k = xs := List.take_of_length_le (by omega)
      have hd0 : decide ((k : Int) < (n : Int)) = false := by simp; omega
      rw [e1]
      clear hkn e1
      go_wp2
      go_ret
      exact ⟨rfl, rfl⟩
variable [∀ (n : Int) (s : List Int), Decidable (OkL n s)]
theorem ok_more {n : Int} {xs : List Int} {k : Nat} (hk : k < xs.length) (h : OkL n (xs.take k)) (h0 : 0 ≤ xs.getD k 0) (h1 : xs.getD k 0 < n) (h2 : 0 < k → xs.getD (k - 1) 0 < xs.getD k 0) : OkL n (xs.take (k + 1)) := by
  rw [take_more xs k hk]
  refine ⟨fun x hx => ?_, List.pairwise_append.2 ⟨h.2, by simp, fun x hx y hy => ?_⟩⟩
  · rcases List.mem_append.1 hx with hx | hx
    · exact h.1 x hx
    · simp at hx; subst hx; exact ⟨h0, h1⟩
  · simp at hy
    subst hy
    by_cases hk0 : 0 < k
    · have h3 := h2 hk0
      have e : xs.take k = xs.take (k - 1) ++ [xs.getD (k - 1) 0] := by
        have := take_more xs (k - 1) (by omega)
        rwa [show k - 1 + 1 = k by omega] at this
      have hp := h.2
      rw [e] at hx hp
      rcases List.mem_append.1 hx with hx | hx
      · have := (List.pairwise_append.1 hp).2.2 x hx (xs.getD (k - 1) 0) (by simp)
        simp only [List.getD_eq_getElem?_getD] at *
        omega
      · simp at hx
        simp only [List.getD_eq_getElem?_getD] at *
        omega
    · have : k = 0 := by omega
      subst this; simp at hx
theorem ok_not {n : Int} {xs : List Int} {k : Nat} (hk : k < xs.length) (h : xs.getD k 0 < 0 ∨ n ≤ xs.getD k 0 ∨ (0 < k ∧ xs.getD k 0 ≤ xs.getD (k - 1) 0)) : ¬ OkL n xs := fun ho => by
  have hm := ho.1 _ (getD_mem_int hk)
  rcases h with h | h | ⟨h0, h⟩
  · omega
  · omega
  · have := List.pairwise_iff_getElem.1 ho.2 (k - 1) k (by omega) hk (by omega)
    rw [List.getD_eq_getElem?_getD, List.getD_eq_getElem?_getD, List.getElem?_eq_getElem hk, List.getElem?_eq_getElem (show k - 1 < xs.length by omega)] at h
    simp at h
    omega

set_option maxHeartbeats 4000000 in
set_option maxRecDepth 100000 in
theorem specSetOk (m : Int) (v : Value) (xs : List Int) (w : World) (h : RI w v xs) :
    Calls Try.prog 19 #[.int .i64 m, v] w fun e w' => e = .returned (.bool (decide (OkL m xs))) ∧ Below w.heap.size w w' := by
  have hl := h.1
  obtain ⟨ao, ca, rfl⟩ := h.form
  have H := hide h
  obtain ⟨n, hn⟩ : ∃ n, xs.length = n := ⟨_, rfl⟩
  have Hn := hide hn
  obtain ⟨r, hr⟩ : ∃ r, decide (OkL m xs) = r := ⟨_, rfl⟩
  have HR := hide hr
  rw [hn] at hl H ⊢
  rw [hr]
  clear h hn hr
  go_enter Try.func19, Try.ntmps19
  go_wp2
  go_loopw [5] (fun j wr => ∃ k : Nat, k ≤ n ∧ j = .int .i64 k ∧ Hid (OkL m (xs.take k)) ∧ Below w.heap.size w wr) (fun j _ => n - (intOf j).toNat)
  case atStart => exact ⟨0, Nat.zero_le _, rfl, hide (by simp [OkL]), Below.refl _ _⟩
  case round =>
    obtain ⟨k, hk, rfl, HK, br⟩ := hrel
    have HR2 := hide ((unhide H).below br (Nat.le_refl _))
    by_cases hlt : k < n
    · have hkx : k < xs.length := by have := unhide Hn; omega
      obtain ⟨b, off, rfl, c⟩ := (unhide HR2).at k hkx
      have HP : Hid (0 < k → wr.cell? ⟨b, off + (k - 1), none⟩ = some (.int .i64 (xs.getD (k - 1) 0))) := hide fun h0 => by
        obtain ⟨b', off', e, c'⟩ := (unhide HR2).at (k - 1) (by omega)
        cases e; exact c'
      have HG := hide fun h0 h1 h2 => ok_more hkx (unhide HK) h0 h1 h2
      have HB := hide fun h => ok_not (n := m) hkx h
      generalize xs.getD k 0 = d at *
      by_cases g0 : d < 0
      · have hrr : r = false := by rw [← unhide HR]; exact decide_eq_false (unhide HB (.inl g0))
        subst hrr
        have g0' : decide (d < 0) = true := by simpa using g0
        clear HG HB HP HK
        go_wp2_with fail
        go_quiet (fail)
        go_wp2
        go_ret
        exact ⟨rfl, by first | exact br | exact below_drewN' br _⟩
      have g0' : decide (d < 0) = false := by simpa using g0
      by_cases g1 : m ≤ d
      · have hrr : r = false := by rw [← unhide HR]; exact decide_eq_false (unhide HB (.inr (.inl g1)))
        subst hrr
        have g1' : decide (m ≤ d) = true := by simpa using g1
        clear HG HB HP HK
        go_wp2_with fail
        go_quiet (fail)
        go_wp2
        go_ret
        exact ⟨rfl, by first | exact br | exact below_drewN' br _⟩
      have g1' : decide (m ≤ d) = false := by simpa using g1
      by_cases hk0 : 0 < k
      · have c2 := unhide HP hk0
        obtain ⟨j, rfl⟩ : ∃ j, k = j + 1 := ⟨k - 1, by omega⟩
        rw [show j + 1 - 1 = j by omega] at c2 HG HB
        generalize xs.getD j 0 = p at *
        have ej : (((j + 1 : Nat) : Int)) - 1 = (j : Int) := by omega
        have hk0' : decide ((0 : Int) < ((j + 1 : Nat) : Int)) = true := by rw [decide_eq_true_iff]; omega
        by_cases g2 : d ≤ p
        · have hrr : r = false := by rw [← unhide HR]; exact decide_eq_false (unhide HB (.inr (.inr ⟨by omega, g2⟩)))
          subst hrr
          have g2' : decide (d ≤ p) = true := by simpa using g2
          clear HG HB HP HK
          go_wp2_with fail
          go_quiet (fail)
          go_wp2
          go_ret
          exact ⟨rfl, by first | exact br | exact below_drewN' br _⟩
        · have g2' : decide (d ≤ p) = false := by simpa using g2
          have HK' := hide (unhide HG (by omega) (by omega) (fun _ => by omega))
          clear HG HB HP HK
          go_wp2_with fail
          go_quiet (fail)
          go_wp2
          go_roundw
          case rel => exact ⟨j + 1 + 1, by omega, by go_num, HK', by first | exact br | exact below_drewN' br _⟩
          case measure => simp [intOf]; omega
      · obtain rfl : k = 0 := by omega
        rw [Nat.add_zero] at c
        have HK' := hide (unhide HG (by omega) (by omega) (fun h => by omega))
        clear HG HB HP HK
        go_wp2_with fail
        go_quiet (fail)
        go_wp2
        go_roundw
        case rel => exact ⟨1, by omega, by go_num, HK', by first | exact br | exact below_drewN' br _⟩
        case measure => simp [intOf]; omega
    · have hkn : k = xs.length := by have := unhide Hn; omega
      have hrr : r = true := by
        rw [← unhide HR]
        have := unhide HK
        rw [List.take_of_length_le (by omega)] at this
        exact decide_eq_true this
      subst hrr
      have hd0 : decide ((k : Int) < (n : Int)) = false := by simp; omega
      clear HK
      go_wp2
      go_ret
      exact ⟨rfl, by first | exact br | exact below_drewN' br _⟩
end Go.Proofs.Ytjiflmkikdkdmaa
