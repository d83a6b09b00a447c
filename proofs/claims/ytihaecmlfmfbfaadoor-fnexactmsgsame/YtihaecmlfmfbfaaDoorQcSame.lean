/- Two certificates held against each other, by the specification and by the program. -/
import Derived.Test.YtihaecmlfmfbfaaDoorQc
import Derived.BigQuiet
namespace Go.Proofs.YtihaecmlfmfbfaaDoor
open Go.RowKit

theorem list_end {xs ys : List Int} {k : Nat} (h1 : k ≤ xs.length) (h2 : k ≤ ys.length) (h : ¬ (k < xs.length ∧ k < ys.length)) (he : ∀ j, j < k → xs.getD j 0 = ys.getD j 0) : xs.length = ys.length ↔ xs = ys := by
  constructor
  · intro e
    apply List.ext_getElem e
    intro i p q
    have := he i (by omega)
    simpa [List.getD_eq_getElem?_getD, p, q] using this
  · rintro rfl; rfl
theorem str_ne {t s : ByteArray} (h : t ≠ s) : (t.toList == s.toList) = false := by
  rw [beq_eq_false_iff_ne]
  intro e
  rw [ByteArray.toList_eq, ByteArray.toList_eq] at e
  exact h (ByteArray.ext (Array.toList_inj.1 e))
theorem list_off {xs ys : List Int} {k : Nat} (h : xs.getD k 0 ≠ ys.getD k 0) : xs ≠ ys := fun e => h (e ▸ rfl)

set_option maxHeartbeats 1600000 in
set_option maxRecDepth 100000 in
theorem l7Ints_any (va vb : Value) (xs ys : List Int) (w : World) (ha : RI w va xs) (hb : RI w vb ys) :
    Calls Tryd.prog 26 #[va, vb] w fun e w' => e = .returned (.bool (decide (xs = ys))) ∧ ∃ n, w' = w.drewN n := by
  obtain ⟨hl, ao, ca, rfl, ha⟩ := ha
  obtain ⟨hl', bo, cb, rfl, hb⟩ := hb
  have EN := hide fun k h1 h2 h he => list_end (xs := xs) (ys := ys) (k := k) h1 h2 h he
  have OF := hide fun k h => list_off (xs := xs) (ys := ys) (k := k) h
  have HE : Hid (∀ b, (xs = ys ↔ b = true) → decide (xs = ys) = b) := hide fun b h => by
    cases b
    · simpa using h
    · simpa using h
  obtain ⟨n, hn⟩ : ∃ n, xs.length = n := ⟨_, rfl⟩
  obtain ⟨m, hm⟩ : ∃ m, ys.length = m := ⟨_, rfl⟩
  rw [hn] at ha EN hl ⊢
  rw [hm] at hb EN hl' ⊢
  have Hn : Hid (xs.length = n) := hn
  have Hm : Hid (ys.length = m) := hm
  clear hn hm
  generalize decide (xs = ys) = q at *
  go_enter Tryd.func26, Tryd.ntmps26
  go_wp2
  go_loopw [5] (fun i wr => ∃ k : Nat, k ≤ n ∧ k ≤ m ∧ i = .int .i64 k ∧ (∀ j, j < k → xs.getD j 0 = ys.getD j 0) ∧ ∃ d, wr = w.drewN d) (fun i _ => n - (intOf i).toNat)
  case atStart => exact ⟨0, Nat.zero_le _, Nat.zero_le _, rfl, fun j hj => by omega, 0, rfl⟩
  case round =>
    obtain ⟨k, hk, hk', rfl, he, d, rfl⟩ := hrel
    have he := hide he
    by_cases hlt : k < n
    · by_cases hlt' : k < m
      · rcases ha with ha | ⟨b, off, rfl, ha⟩
        · subst ha; have := Hn.out; simp at this; omega
        rcases hb with hb | ⟨b', off', rfl, hb⟩
        · subst hb; have := Hm.out; simp at this; omega
        have ha' := ha k hlt
        have hb' := hb k hlt'
        have ER := hide fun (e : xs.getD k 0 = ys.getD k 0) j (hj : j < k + 1) => (by
          by_cases h : j = k
          · subst h; exact e
          · exact unhide he j (by omega) : xs.getD j 0 = ys.getD j 0)
        have OK := hide fun h => unhide OF k h
        clear ha hb
        generalize xs.getD k 0 = x at *
        generalize ys.getD k 0 = y at *
        by_cases hxy : x = y
        · subst hxy
          replace ER := hide (unhide ER rfl)
          clear OK
          go_wp2_with fail
          go_quiet (fail)
          go_wp2
          go_roundw
          case rel => exact ⟨k + 1, by omega, by omega, by go_num, unhide ER, _, rfl⟩
          case measure => simp [intOf]; omega
        · have hq : q = false := unhide HE false (by simp; exact unhide OK hxy)
          subst hq
          have hx : (x == y) = false := by simpa using hxy
          go_wp2_with fail
          go_quiet (fail)
          go_wp2
          go_ret
          exact ⟨rfl, d + nq, by simp [World.drewN, Nat.add_assoc]⟩
      · have hnm := unhide EN k hk hk' (by omega) (unhide he)
        have hq : q = false := unhide HE false (by simp; intro e; have := hnm.2 e; omega)
        have hd : ((n : Int) == (m : Int)) = false := by simp; omega
        have hc : decide ((k : Int) < (m : Int)) = false := by simp; omega
        subst hq
        clear ha hb
        go_wp2
        go_ret
        exact ⟨rfl, _, rfl⟩
    · have hnm := unhide EN k hk hk' (by omega) (unhide he)
      have hq : q = decide ((n : Int) = (m : Int)) := unhide HE _ (by rw [← hnm, decide_eq_true_eq]; omega)
      have hd : ((n : Int) == (m : Int)) = q := by rw [hq]; rfl
      have hc : decide ((k : Int) < (n : Int)) = false := by simp; omega
      clear ha hb
      go_wp2
      go_ret
      exact ⟨by show Ending.returned (Value.bool ((n : Int) == (m : Int))) = _; rw [hd], _, rfl⟩

set_option maxHeartbeats 1600000 in
set_option maxRecDepth 100000 in
theorem sEqual_any (va vb : Value) (xs ys : List Int) (w : World) (ha : RI w va xs) (hb : RI w vb ys) :
    Calls Tryd.prog 33 #[va, vb] w fun e w' => e = .returned (.bool (decide (xs = ys))) ∧ ∃ n, w' = w.drewN n := by
  obtain ⟨hl, ao, ca, rfl, ha⟩ := ha
  obtain ⟨hl', bo, cb, rfl, hb⟩ := hb
  have EN := hide fun k h1 h2 h he => list_end (xs := xs) (ys := ys) (k := k) h1 h2 h he
  have OF := hide fun k h => list_off (xs := xs) (ys := ys) (k := k) h
  have HE : Hid (∀ b, (xs = ys ↔ b = true) → decide (xs = ys) = b) := hide fun b h => by
    cases b
    · simpa using h
    · simpa using h
  have HL : Hid (xs = ys → xs.length = ys.length) := hide fun h => h ▸ rfl
  obtain ⟨n, hn⟩ : ∃ n, xs.length = n := ⟨_, rfl⟩
  obtain ⟨m, hm⟩ : ∃ m, ys.length = m := ⟨_, rfl⟩
  rw [hn] at ha EN hl HL ⊢
  rw [hm] at hb EN hl' HL ⊢
  have Hn : Hid (xs.length = n) := hn
  have Hm : Hid (ys.length = m) := hm
  clear hn hm
  generalize decide (xs = ys) = q at *
  by_cases hnm : n = m
  · subst hnm
    go_enter Tryd.func33, Tryd.ntmps33
    go_wp2
    go_loopw [13] (fun i wr => ∃ k : Nat, k ≤ n ∧ i = .int .i64 k ∧ (∀ j, j < k → xs.getD j 0 = ys.getD j 0) ∧ ∃ d, wr = w.drewN d) (fun i _ => n - (intOf i).toNat)
    case atStart => exact ⟨0, Nat.zero_le _, rfl, fun j hj => by omega, 0, rfl⟩
    case round =>
      obtain ⟨k, hk, rfl, he, d, rfl⟩ := hrel
      have he := hide he
      by_cases hlt : k < n
      · rcases ha with ha | ⟨b, off, rfl, ha⟩
        · subst ha; have := Hn.out; simp at this; omega
        rcases hb with hb | ⟨b', off', rfl, hb⟩
        · subst hb; have := Hm.out; simp at this; omega
        have ha' := ha k hlt
        have hb' := hb k hlt
        have ER := hide fun (e : xs.getD k 0 = ys.getD k 0) j (hj : j < k + 1) => (by
          by_cases h : j = k
          · subst h; exact e
          · exact unhide he j (by omega) : xs.getD j 0 = ys.getD j 0)
        have OK := hide fun h => unhide OF k h
        clear ha hb
        generalize xs.getD k 0 = x at *
        generalize ys.getD k 0 = y at *
        by_cases hxy : x = y
        · subst hxy
          replace ER := hide (unhide ER rfl)
          clear OK
          go_wp2_with fail
          go_quiet (fail)
          go_wp2
          go_roundw
          case rel => exact ⟨k + 1, by omega, by go_num, unhide ER, _, rfl⟩
          case measure => simp [intOf]; omega
        · have hq : q = false := unhide HE false (by simp; exact unhide OK hxy)
          subst hq
          have hx : (x == y) = false := by simpa using hxy
          go_wp2_with fail
          go_quiet (fail)
          go_wp2
          go_ret
          exact ⟨rfl, d + nq, by simp [World.drewN, Nat.add_assoc]⟩
      · have hnm := unhide EN k hk hk (by omega) (unhide he)
        have hq : q = true := unhide HE true (by simpa using hnm)
        have hc : decide ((k : Int) < (n : Int)) = false := by simp; omega
        subst hq
        clear ha hb
        go_wp2
        go_ret
        exact ⟨rfl, _, rfl⟩
  · have hq : q = false := unhide HE false (by simp; intro e; exact hnm (unhide HL e))
    have hd : ((n : Int) == (m : Int)) = false := by simp; omega
    subst hq
    clear ha hb
    go_enter Tryd.func33, Tryd.ntmps33
    go_wp2
    go_ret
    exact ⟨rfl, 0, rfl⟩

/-- Whether two certificates are alike. -/
def alikeB (n m : Int) (s t : ByteArray) (xs ys : List Int) : Bool := decide (n = m ∧ s = t ∧ xs = ys)

set_option maxHeartbeats 1600000 in
set_option maxRecDepth 100000 in
theorem specQcSame (n m : Int) (s t : ByteArray) (va vb : Value) (xs ys : List Int) (w : World) (ha : RI w va xs) (hb : RI w vb ys) :
    Calls Tryd.prog 14 #[qv n s va, qv m t vb] w fun e w' => e = .returned (.bool (alikeB n m s t xs ys)) ∧ Below w.heap.size w w' := by
  have R1 := hide ha
  have R2 := hide hb
  have B := hide (qalloc2 w (.cells #[.int .i64 n, .string s, va] 34) (.cells #[.int .i64 m, .string t, vb] 34))
  clear ha hb
  by_cases h1 : n = m
  · by_cases h2 : s = t
    · have hq : alikeB n m s t xs ys = decide (xs = ys) := by simp [alikeB, h1, h2]
      rw [hq]
      subst h1 h2
      clear hq
      go_enter Tryd.func14, Tryd.ntmps14
      go_wp2_with fail
      refine (l7Ints_any va vb xs ys _ ((unhide R1).below (unhide B) (Nat.le_refl _)) ((unhide R2).below (unhide B) (Nat.le_refl _))).mono ?_
      rintro e w1 ⟨rfl, d, rfl⟩
      go_wp2
      go_ret
      exact ⟨rfl, below_drewN' (unhide B) _⟩
    · have hq : alikeB n m s t xs ys = false := by simp [alikeB, h2]
      rw [hq]
      subst h1
      have hd := str_ne h2
      clear hq
      go_enter Tryd.func14, Tryd.ntmps14
      go_wp2
      go_ret
      exact ⟨rfl, unhide B⟩
  · have hq : alikeB n m s t xs ys = false := by simp [alikeB, h1]
    rw [hq]
    have hd : (n == m) = false := by simpa using h1
    clear hq
    go_enter Tryd.func14, Tryd.ntmps14
    go_wp2
    go_ret
    exact ⟨rfl, unhide B⟩

set_option maxHeartbeats 1600000 in
set_option maxRecDepth 100000 in
theorem qsame_any (g g' : Nat) (n m : Int) (s t : ByteArray) (va vb : Value) (xs ys : List Int) (w : World) (hg : Loc w g #[.int .i64 n, .string s, va]) (hg' : Loc w g' #[.int .i64 m, .string t, vb]) (ha : RI w va xs) (hb : RI w vb ys) :
    Calls Tryd.prog 29 #[.pointer (some ⟨g, 0, none⟩), .pointer (some ⟨g', 0, none⟩)] w fun e w' => e = .returned (.bool (alikeB n m s t xs ys)) ∧ ∃ d, w' = w.drewN d := by
  have EQ := hide fun d => sEqual_any va vb xs ys (w.drewN d) (ha) (hb)
  have x0 := hg.cell 0 rfl
  have x1 := hg.cell 1 rfl
  have x2 := hg.cell 2 rfl
  have y0 := hg'.cell 0 rfl
  have y1 := hg'.cell 1 rfl
  have y2 := hg'.cell 2 rfl
  clear ha hb hg hg'
  by_cases h1 : n = m
  · by_cases h2 : s = t
    · have hq : alikeB n m s t xs ys = decide (xs = ys) := by simp [alikeB, h1, h2]
      rw [hq]
      subst h1 h2
      clear hq
      go_enter Tryd.func29, Tryd.ntmps29
      go_wp2_with fail
      go_quiet (first | (go_at_call 33; exact Calls.quiet_of (unhide EQ _)))
      go_wp2
      go_ret
      exact ⟨rfl, _, rfl⟩
    · have hq : alikeB n m s t xs ys = false := by simp [alikeB, h2]
      rw [hq]
      subst h1
      have hd := str_ne h2
      clear hq
      go_enter Tryd.func29, Tryd.ntmps29
      go_wp2_with fail
      go_quiet (fail)
      go_wp2
      go_ret
      exact ⟨rfl, _, rfl⟩
  · have hq : alikeB n m s t xs ys = false := by simp [alikeB, h1]
    rw [hq]
    have hd : (n == m) = false := by simpa using h1
    clear hq
    go_enter Tryd.func29, Tryd.ntmps29
    go_wp2_with fail
    go_quiet (fail)
    go_wp2
    go_ret
    exact ⟨rfl, _, rfl⟩
end Go.Proofs.YtihaecmlfmfbfaaDoor
