/- Texts that belong together: PartJoinLong, SpecSets2, AscInts, PartCmpP, PartCmp0, PartCmp, PartIs, SetMap. -/
import Derived.Test.YtehdchpolgihlaaDoorPjAE
import Derived.Test.YtehdchpolgihlaaDoorPjAA
import Derived.BigQuiet
import Derived.Laws.EntriesVeiled
import Derived.Laws.Cover1
import Derived.Deep.RegionHeld3
import Derived.Deep.DeepCutAuto
import Derived.LaidEql
import Derived.RowKitTokens
import Derived.Test.YtehdchpolgihlaaDoorPjAB
import Derived.Maps.OwnSet
import Derived.Maps.RangeWalk
/- PartJoinLong: FnExactPartOk, FnExactPartJoin where too much is there. -/
namespace Go.Proofs.YtehdchpolgihlaaDoor
open Go.RowKit
set_option linter.unusedSectionVars false
variable [∀ (a b c d : Int), Decidable (Ok4 a b c d)]
variable [∀ (n f : Int), Decidable (COk n f)]

set_option maxHeartbeats 4000000 in
set_option maxRecDepth 100000 in
theorem fnPartOk_long (n f m : Int) (s : ByteArray) (pa : Option Addr) (pc k : Nat) (w : World) (h : 1048576 < s.size + k) (hs : s.size ≤ maxLen) (hk : k ≤ maxLen) :
    Calls Tryd.prog 3 #[cv n f, qv m s (.slice pa k pc)] w fun e w' => e = .returned (.bool true) ∧ Below w.heap.size w w' := by
  unfold maxLen at hs hk
  have ZA := hide fun w => szPart_no m s pa k pc 1048576 w (by omega) (by omega) (by omega) (by omega) (by omega)
  have B0 := qalloc2 w (.cells #[.int .i64 n, .int .i64 f] 23) (.cells #[.int .i64 m, .string s, .slice pa k pc] 26)
  go_enter Tryd.func3, Tryd.ntmps3
  go_wp2_with fail
  refine (unhide ZA _).mono ?_
  rintro _ w1 ⟨rfl, b1⟩
  go_wp2
  go_ret
  exact ⟨rfl, B0.trans (b1.mono B0.size)⟩

set_option maxHeartbeats 4000000 in
set_option maxRecDepth 100000 in
theorem fnPartJoin_long1 (m n : Int) (s t : ByteArray) (pa qa : Option Addr) (pc qc k j : Nat) (w : World) (h : 1048576 < s.size + k) (hs : s.size ≤ maxLen) (hk : k ≤ maxLen) :
    Calls Tryd.prog 4 #[qv m s (.slice pa k pc), qv n t (.slice qa j qc)] w fun e w' => e = .returned (.bool true) ∧ Below w.heap.size w w' := by
  unfold maxLen at hs hk
  have ZA := hide fun w => szPart_no m s pa k pc 1048576 w (by omega) (by omega) (by omega) (by omega) (by omega)
  have B0 := qalloc2 w (.cells #[.int .i64 m, .string s, .slice pa k pc] 26) (.cells #[.int .i64 n, .string t, .slice qa j qc] 26)
  go_enter Tryd.func4, Tryd.ntmps4
  go_wp2_with fail
  refine (unhide ZA _).mono ?_
  rintro _ w1 ⟨rfl, b1⟩
  go_wp2
  go_ret
  exact ⟨rfl, B0.trans (b1.mono B0.size)⟩

set_option maxHeartbeats 4000000 in
set_option maxRecDepth 100000 in
theorem fnPartJoin_long2 (m n : Int) (s t : ByteArray) (pa qa : Option Addr) (pc qc k j : Nat) (w : World) (h0 : s.size + k ≤ 1048576) (h : 1048576 < s.size + k + t.size + j) (ht : t.size ≤ maxLen) (hj : j ≤ maxLen) :
    Calls Tryd.prog 4 #[qv m s (.slice pa k pc), qv n t (.slice qa j qc)] w fun e w' => e = .returned (.bool true) ∧ Below w.heap.size w w' := by
  unfold maxLen at ht hj
  have ZA := hide fun w => szPart_yes m s pa k pc 1048576 w (by omega) (by omega)
  have ZB := hide fun w => szPart_no n t qa j qc (1048576 - s.size - k) w (by omega) (by omega) (by omega) (by omega) (by omega)
  have d1 : decide ((1048576 : Int) - (s.size : Int) - (k : Int) < 0) = false := by simp; omega
  obtain ⟨w0, hw0⟩ : ∃ y, (w.alloc (.cells #[.int .i64 m, .string s, .slice pa k pc] 26)).alloc (.cells #[.int .i64 n, .string t, .slice qa j qc] 26) = y := ⟨_, rfl⟩
  have B0 : Below w.heap.size w w0 := hw0 ▸ qalloc2 _ _ _
  have LA : Loc w0 w.heap.size #[.int .i64 m, .string s, .slice pa k pc] := hw0 ▸ (loc_at w _ _ rfl).alloc _
  have LB : Loc w0 (w.heap.size + 1) #[.int .i64 n, .string t, .slice qa j qc] := hw0 ▸ loc_at (w.alloc _) _ _ (by simp)
  go_enter Tryd.func4, Tryd.ntmps4
  have a0 := LA.cell 0 rfl
  have a1 := LA.cell 1 rfl
  have a2 := LA.cell 2 rfl
  go_wp2_with fail
  clear hw0 a0 a1 a2 LA
  refine (unhide ZA _).mono ?_
  rintro _ w1 ⟨rfl, b1⟩
  have B1 := B0.trans (b1.mono B0.size)
  replace LB := LB.below b1 LB.lt
  have c0 := LB.cell 0 rfl
  have c1 := LB.cell 1 rfl
  have c2 := LB.cell 2 rfl
  clear b1 B0 LB
  go_wp2_with fail
  refine (unhide ZB _).mono ?_
  rintro _ w2 ⟨rfl, b2⟩
  go_wp2
  go_ret
  exact ⟨rfl, B1.trans (b2.mono B1.size)⟩
end Go.Proofs.YtehdchpolgihlaaDoor

/- spec.Common, spec.SetOk. -/
namespace Go.Proofs.YtehdchpolgihlaaDoor
open Go.RowKit
set_option linter.unusedSectionVars false

theorem com_snoc (l bs : List Int) (x : Int) : comL (l ++ [x]) bs = comL l bs + (if decide (x ∈ bs) then 1 else 0) := by
  unfold comL
  rw [List.filter_append, List.length_append]
  by_cases h : x ∈ bs
  · simp [h]
  · simp [h]

variable [∀ (n : Int) (s : List Int), Decidable (OkL n s)]
theorem ok_more {n : Int} {xs : List Int} {k : Nat} (hk : k < xs.length) (h : OkL n (xs.take k)) (h0 : 0 ≤ xs.getD k 0) (h1 : xs.getD k 0 < n) (h2 : 0 < k → xs.getD (k - 1) 0 < xs.getD k 0) : OkL n (xs.take (k + 1)) := by
  rw [itake_more xs k hk]
  refine ⟨fun x hx => ?_, List.pairwise_append.2 ⟨h.2, by simp, fun x hx y hy => ?_⟩⟩
  · rcases List.mem_append.1 hx with hx | hx
    · exact h.1 x hx
    · simp at hx; subst hx; exact ⟨h0, h1⟩
  · simp at hy
    subst hy
    by_cases hk0 : 0 < k
    · have h3 := h2 hk0
      have e : xs.take k = xs.take (k - 1) ++ [xs.getD (k - 1) 0] := by
        have := itake_more xs (k - 1) (by omega)
        rwa [show k - 1 + 1 = k by omega] at this
      have hp := h.2
      rw [e] at hx hp
      rcases List.mem_append.1 hx with hx | hx
      · have := (List.pairwise_append.1 hp).2.2 x hx (xs.getD (k - 1) 0) (by simp)
        simp only [List.getD_eq_getElem?_getD] at *
        omega
      · simp at hx
        simp only [List.getD_eq_getElem?_getD] at *
        omega
    · have : k = 0 := by omega
      subst this; simp at hx
theorem ok_not {n : Int} {xs : List Int} {k : Nat} (hk : k < xs.length) (h : xs.getD k 0 < 0 ∨ n ≤ xs.getD k 0 ∨ (0 < k ∧ xs.getD k 0 ≤ xs.getD (k - 1) 0)) : ¬ OkL n xs := fun ho => by
  have hm := ho.1 _ (getD_mem_int hk)
  rcases h with h | h | ⟨h0, h⟩
  · omega
  · omega
  · have := List.pairwise_iff_getElem.1 ho.2 (k - 1) k (by omega) hk (by omega)
    rw [List.getD_eq_getElem?_getD, List.getD_eq_getElem?_getD, List.getElem?_eq_getElem hk, List.getElem?_eq_getElem (show k - 1 < xs.length by omega)] at h
    simp at h
    omega

set_option maxHeartbeats 4000000 in
set_option maxRecDepth 100000 in
theorem specSetOk (m : Int) (v : Value) (xs : List Int) (w : World) (h : RI w v xs) :
    Calls Tryd.prog 18 #[.int .i64 m, v] w fun e w' => e = .returned (.bool (decide (OkL m xs))) ∧ Below w.heap.size w w' := by
  have hl := h.1
  obtain ⟨ao, ca, rfl⟩ := h.form
  have H := hide h
  obtain ⟨n, hn⟩ : ∃ n, xs.length = n := ⟨_, rfl⟩
  have Hn := hide hn
  obtain ⟨r, hr⟩ : ∃ r, decide (OkL m xs) = r := ⟨_, rfl⟩
  have HR := hide hr
  rw [hn] at hl H ⊢
  rw [hr]
  clear h hn hr
  go_enter Tryd.func18, Tryd.ntmps18
  go_wp2
  go_loopw [5] (fun j wr => ∃ k : Nat, k ≤ n ∧ j = .int .i64 k ∧ Hid (OkL m (xs.take k)) ∧ Below w.heap.size w wr) (fun j _ => n - (intOf j).toNat)
  case atStart => exact ⟨0, Nat.zero_le _, rfl, hide (by simp [OkL]), Below.refl _ _⟩
  case round =>
    obtain ⟨k, hk, rfl, HK, br⟩ := hrel
    have HR2 := hide ((unhide H).below br (Nat.le_refl _))
    by_cases hlt : k < n
    · have hkx : k < xs.length := by have := unhide Hn; omega
      obtain ⟨b, off, rfl, c⟩ := (unhide HR2).at k hkx
      have HP : Hid (0 < k → wr.cell? ⟨b, off + (k - 1), none⟩ = some (.int .i64 (xs.getD (k - 1) 0))) := hide fun h0 => by
        obtain ⟨b', off', e, c'⟩ := (unhide HR2).at (k - 1) (by omega)
        cases e; exact c'
      have HG := hide fun h0 h1 h2 => ok_more hkx (unhide HK) h0 h1 h2
      have HB := hide fun h => ok_not (n := m) hkx h
      generalize xs.getD k 0 = d at *
      by_cases g0 : d < 0
      · have hrr : r = false := by rw [← unhide HR]; exact decide_eq_false (unhide HB (.inl g0))
        subst hrr
        have g0' : decide (d < 0) = true := by simpa using g0
        clear HG HB HP HK
        go_wp2_with fail
        go_quiet (fail)
        go_wp2
        go_ret
        exact ⟨rfl, by first | exact br | exact below_drewN' br _⟩
      have g0' : decide (d < 0) = false := by simpa using g0
      by_cases g1 : m ≤ d
      · have hrr : r = false := by rw [← unhide HR]; exact decide_eq_false (unhide HB (.inr (.inl g1)))
        subst hrr
        have g1' : decide (m ≤ d) = true := by simpa using g1
        clear HG HB HP HK
        go_wp2_with fail
        go_quiet (fail)
        go_wp2
        go_ret
        exact ⟨rfl, by first | exact br | exact below_drewN' br _⟩
      have g1' : decide (m ≤ d) = false := by simpa using g1
      by_cases hk0 : 0 < k
      · have c2 := unhide HP hk0
        obtain ⟨j, rfl⟩ : ∃ j, k = j + 1 := ⟨k - 1, by omega⟩
        rw [show j + 1 - 1 = j by omega] at c2 HG HB
        generalize xs.getD j 0 = p at *
        have ej : (((j + 1 : Nat) : Int)) - 1 = (j : Int) := by omega
        have hk0' : decide ((0 : Int) < ((j + 1 : Nat) : Int)) = true := by rw [decide_eq_true_iff]; omega
        by_cases g2 : d ≤ p
        · have hrr : r = false := by rw [← unhide HR]; exact decide_eq_false (unhide HB (.inr (.inr ⟨by omega, g2⟩)))
          subst hrr
          have g2' : decide (d ≤ p) = true := by simpa using g2
          clear HG HB HP HK
          go_wp2_with fail
          go_quiet (fail)
          go_wp2
          go_ret
          exact ⟨rfl, by first | exact br | exact below_drewN' br _⟩
        · have g2' : decide (d ≤ p) = false := by simpa using g2
          have HK' := hide (unhide HG (by omega) (by omega) (fun _ => by omega))
          clear HG HB HP HK
          go_wp2_with fail
          go_quiet (fail)
          go_wp2
          go_roundw
          case rel => exact ⟨j + 1 + 1, by omega, by go_num, HK', by first | exact br | exact below_drewN' br _⟩
          case measure => simp [intOf]; omega
      · obtain rfl : k = 0 := by omega
        rw [Nat.add_zero] at c
        have HK' := hide (unhide HG (by omega) (by omega) (fun h => by omega))
        clear HG HB HP HK
        go_wp2_with fail
        go_quiet (fail)
        go_wp2
        go_roundw
        case rel => exact ⟨1, by omega, by go_num, HK', by first | exact br | exact below_drewN' br _⟩
        case measure => simp [intOf]; omega
    · have hkn : k = xs.length := by have := unhide Hn; omega
      have hrr : r = true := by
        rw [← unhide HR]
        have := unhide HK
        rw [List.take_of_length_le (by omega)] at this
        exact decide_eq_true this
      subst hrr
      have hd0 : decide ((k : Int) < (n : Int)) = false := by simp; omega
      clear HK
      go_wp2
      go_ret
      exact ⟨rfl, by first | exact br | exact below_drewN' br _⟩
end Go.Proofs.YtehdchpolgihlaaDoor

/- (impl.inOrder[int]).ascends, impl.SetOk. -/
namespace Go.Proofs.YtehdchpolgihlaaDoor
open Go.RowKit
set_option linter.unusedSectionVars false
variable [∀ (n : Int) (s : List Int), Decidable (OkL n s)]

set_option maxHeartbeats 400000 in
set_option maxRecDepth 100000 in
theorem isNaN_int (x : Int) (w : World) : Calls Tryd.prog 47 #[.int .i64 x] w fun e w' => e = .returned (.bool false) ∧ Below w.heap.size w w' := by
  go_enter Tryd.func47, Tryd.ntmps47
  go_wp2
  go_ret
  exact ⟨rfl, Below.refl _ _⟩
/-- What cmp.Compare answers. -/
def cmpI (x y : Int) : Int := if x < y then -1 else if y < x then 1 else 0
theorem cmpI_lt (x y : Int) : cmpI x y < 0 ↔ x < y := by
  unfold cmpI
  repeat' split
  all_goals omega
set_option maxHeartbeats 800000 in
set_option maxRecDepth 100000 in
theorem compare_int (x y : Int) (w : World) : Calls Tryd.prog 34 #[.int .i64 x, .int .i64 y] w fun e w' => e = .returned (.int .i64 (cmpI x y)) ∧ Below w.heap.size w w' := by
  have NA := hide fun x w => isNaN_int x w
  unfold cmpI
  by_cases h1 : x < y
  · rw [if_pos h1]
    have d1 : decide (x < y) = true := by simpa using h1
    clear h1
    go_enter Tryd.func34, Tryd.ntmps34
    go_wp2_with fail
    refine (unhide NA _ _).mono ?_
    rintro _ w1 ⟨rfl, b1⟩
    go_wp2_with fail
    refine (unhide NA _ _).mono ?_
    rintro _ w2 ⟨rfl, b2⟩
    go_wp2
    go_ret
    exact ⟨rfl, b1.trans (b2.mono b1.size)⟩
  · rw [if_neg h1]
    have d1 : decide (x < y) = false := by simpa using h1
    clear h1
    by_cases h2 : y < x
    · rw [if_pos h2]
      have d2 : decide (y < x) = true := by simpa using h2
      have d3 : decide (x > y) = true := by simpa using h2
      clear h2
      go_enter Tryd.func34, Tryd.ntmps34
      go_wp2_with fail
      refine (unhide NA _ _).mono ?_
      rintro _ w1 ⟨rfl, b1⟩
      go_wp2_with fail
      refine (unhide NA _ _).mono ?_
      rintro _ w2 ⟨rfl, b2⟩
      go_wp2
      go_ret
      exact ⟨rfl, b1.trans (b2.mono b1.size)⟩
    · rw [if_neg h2]
      have d2 : decide (y < x) = false := by simpa using h2
      have d3 : decide (x > y) = false := by simpa using h2
      clear h2
      go_enter Tryd.func34, Tryd.ntmps34
      go_wp2_with fail
      refine (unhide NA _ _).mono ?_
      rintro _ w1 ⟨rfl, b1⟩
      go_wp2_with fail
      refine (unhide NA _ _).mono ?_
      rintro _ w2 ⟨rfl, b2⟩
      go_wp2
      go_ret
      exact ⟨rfl, b1.trans (b2.mono b1.size)⟩
/-- Neighbours go up. -/
def AscI (xs : List Int) : Prop := ∀ j, j + 1 < xs.length → xs.getD j 0 < xs.getD (j + 1) 0
theorem ascI_iff (xs : List Int) : AscI xs ↔ xs.Pairwise (· < ·) := by
  constructor
  · intro h
    refine List.pairwise_iff_getElem.2 fun i j hi hj hij => ?_
    have key : ∀ d, i + d + 1 < xs.length → xs.getD i 0 < xs.getD (i + d + 1) 0 := by
      intro d
      induction d with
      | zero => exact fun hd => h i hd
      | succ d ih => exact fun hd => Int.lt_trans (ih (by omega)) (h (i + d + 1) hd)
    have := key (j - i - 1) (by omega)
    rw [show i + (j - i - 1) + 1 = j from by omega] at this
    simpa [List.getD_eq_getElem?_getD, List.getElem?_eq_getElem hi, List.getElem?_eq_getElem hj] using this
  · intro h j hj
    have := List.pairwise_iff_getElem.1 h j (j + 1) (by omega) hj (by omega)
    simpa [List.getD_eq_getElem?_getD, List.getElem?_eq_getElem hj, List.getElem?_eq_getElem (show j < xs.length by omega)] using this
set_option maxHeartbeats 1000000 in
set_option maxRecDepth 100000 in
theorem ascends_int (v : Value) (xs : List Int) (w : World) (h : RI w v xs) :
    Calls Tryd.prog 35 #[.agg #[v, .func (.func 34) #[] #[]]] w fun e w' => e = .returned (.bool (decide (xs.Pairwise (· < ·)))) ∧ Below w.heap.size w w' := by
  obtain ⟨ao, ca, rfl⟩ := h.form
  have hl := h.1
  have H := hide h
  obtain ⟨n, hn⟩ : ∃ n, xs.length = n := ⟨_, rfl⟩
  have Hn := hide hn
  rw [hn] at hl H ⊢
  clear h hn
  obtain ⟨w0, hw0⟩ : ∃ w0, w.alloc (.cells #[.slice ao n ca, .func (.func 34) #[] #[]] 62) = w0 := ⟨_, rfl⟩
  have B0 : Below w.heap.size w w0 := hw0 ▸ (Below.refl _ _).alloc (Nat.le_refl _) _
  have L0 : Loc w0 w.heap.size #[.slice ao n ca, .func (.func 34) #[] #[]] := hw0 ▸ loc_at w _ _ rfl
  go_enter Tryd.func35, Tryd.ntmps35
  go_wp2
  clear hw0
  go_loopw [3] (fun i wr => ∃ m : Nat, 1 ≤ m ∧ m ≤ n + 1 ∧ i = .int .i64 m ∧ Hid (∀ j, j + 1 < m → j + 1 < n → xs.getD j 0 < xs.getD (j + 1) 0) ∧ Loc wr w.heap.size #[.slice ao n ca, .func (.func 34) #[] #[]] ∧ Below w.heap.size w wr) (fun i _ => n + 1 - (intOf i).toNat)
  case atStart => exact ⟨1, Nat.le_refl _, by omega, by go_num, hide (fun j hj => absurd hj (by omega)), L0, B0⟩
  case round =>
    clear L0 B0
    obtain ⟨m, hm1, hm, rfl, HA, L, br⟩ := hrel
    have q0 := L.cell 0 rfl
    have q1 := L.cell 1 rfl
    by_cases hlt : m < n
    · obtain ⟨k, hk⟩ : ∃ k, m = k + 1 := ⟨m - 1, by omega⟩
      have hk1 : (m : Int) - 1 = (k : Int) := by omega
      have hwk : IntKind.i64.wrap (k : Int) = (k : Int) := by rw [IntKind.wrap_i64]; omega
      have hkn : k < n := by omega
      obtain ⟨g, off, rfl, cx⟩ := ((unhide H).below br (Nat.le_refl _)).at k (by rw [unhide Hn]; omega)
      obtain ⟨g', off', e, cy⟩ := ((unhide H).below br (Nat.le_refl _)).at m (by rw [unhide Hn]; omega)
      cases e
      have CT := hide fun w => compare_int (xs.getD k 0) (xs.getD m 0) w
      have HS : Hid (xs.getD k 0 < xs.getD m 0 → ∀ j, j + 1 < m + 1 → j + 1 < n → xs.getD j 0 < xs.getD (j + 1) 0) := hide fun h j hj hj2 => by
        by_cases e : j = k
        · rw [e, ← hk]; exact h
        · exact unhide HA j (by omega) hj2
      have HN : Hid (xs.getD m 0 ≤ xs.getD k 0 → ¬ xs.Pairwise (· < ·)) := hide fun h ha => Int.not_lt.2 h (by have := (ascI_iff xs).2 ha k (by rw [unhide Hn]; omega); rwa [← hk] at this)
      clear HA
      generalize xs.getD k 0 = x at *
      generalize xs.getD m 0 = y at *
      replace hk := hide hk
      have K : Hid (∀ w', Below wr.heap.size wr w' → (w'.cell? ⟨w.heap.size, 0, none⟩ = some (.slice (some ⟨g, off, none⟩) n ca) ∧ w'.cell? ⟨w.heap.size, 1, none⟩ = some (.func (.func 34) #[] #[])) ∧ w'.cell? ⟨g, off + k, none⟩ = some (.int .i64 x) ∧ w'.cell? ⟨g, off + m, none⟩ = some (.int .i64 y)) := hide fun w' hb => by
        have l := L.below hb L.lt
        exact ⟨⟨l.cell 0 rfl, l.cell 1 rfl⟩, (hb.cell (cell_lt cx)).trans cx, (hb.cell (cell_lt cy)).trans cy⟩
      have bA : Below wr.heap.size wr wr.drew := Below.drew (Below.refl _ _)
      have hKeep := unhide K _ bA
      clear cx cy
      go_wp2_with fail
      refine wp_region_noPanic ?_
      refine wp_region_held_drew (S := (fun w' => (w'.cell? ⟨w.heap.size, 0, none⟩ = some (.slice (some ⟨g, off, none⟩) n ca) ∧ w'.cell? ⟨w.heap.size, 1, none⟩ = some (.func (.func 34) #[] #[])) ∧ w'.cell? ⟨g, off + k, none⟩ = some (.int .i64 x) ∧ w'.cell? ⟨g, off + m, none⟩ = some (.int .i64 y))) (by kernel_rfl) hKeep (fun hHeld => ?_)
      refine take_at (i := 0) (d := 11) (v := ?_) rfl rfl (by kernel_rfl) (by kernel_rfl) (by kernel_rfl) (fun _ _ _ h => h) (Or.inl ⟨by rfl, ?_⟩) (by assumption) ?_
      rotate_left
      · intro w hSw
        try dsimp only at hSw
        go_simp
        try with_reducible rfl
      simp only [Act.put, List.setIfInBounds_toArray, List.set_cons_zero, List.set_cons_succ]
      refine take_at (i := 1) (d := 12) (v := ?_) rfl rfl (by kernel_rfl) (by kernel_rfl) (by kernel_rfl) (fun _ _ _ h => h) (Or.inl ⟨by rfl, ?_⟩) (by assumption) ?_
      rotate_left
      · intro w hSw
        try dsimp only at hSw
        go_simp
        try with_reducible rfl
      simp only [Act.put, List.setIfInBounds_toArray, List.set_cons_zero, List.set_cons_succ]
      refine take_at (i := 2) (d := 13) (v := ?_) rfl rfl (by kernel_rfl) (by kernel_rfl) (by kernel_rfl) (fun _ _ _ h => h) (Or.inl ⟨by rfl, ?_⟩) (by assumption) ?_
      rotate_left
      · intro w hSw
        try dsimp only at hSw
        go_simp
        try with_reducible rfl
      simp only [Act.put, List.setIfInBounds_toArray, List.set_cons_zero, List.set_cons_succ]
      refine take_at (i := 3) (d := 14) (v := ?_) rfl rfl (by kernel_rfl) (by kernel_rfl) (by kernel_rfl) (fun _ _ _ h => h) (Or.inl ⟨by rfl, ?_⟩) (by assumption) ?_
      rotate_left
      · intro w hSw
        try dsimp only at hSw
        go_simp
        try with_reducible rfl
      simp only [Act.put, List.setIfInBounds_toArray, List.set_cons_zero, List.set_cons_succ]
      refine take_at (i := 4) (d := 15) (v := ?_) rfl rfl (by kernel_rfl) (by kernel_rfl) (by kernel_rfl) (fun _ _ _ h => h) (Or.inl ⟨by rfl, ?_⟩) (by assumption) ?_
      rotate_left
      · intro w hSw
        try dsimp only at hSw
        go_simp
        try with_reducible rfl
      simp only [Act.put, List.setIfInBounds_toArray, List.set_cons_zero, List.set_cons_succ]
      refine take_at (i := 5) (d := 16) (v := ?_) rfl rfl (by kernel_rfl) (by kernel_rfl) (by kernel_rfl) (fun _ _ _ h => h) (Or.inl ⟨by rfl, ?_⟩) (by assumption) ?_
      rotate_left
      · intro w hSw
        try dsimp only at hSw
        go_simp
        try with_reducible rfl
      simp only [Act.put, List.setIfInBounds_toArray, List.set_cons_zero, List.set_cons_succ]
      refine take_at (i := 6) (d := 17) (v := ?_) rfl rfl (by kernel_rfl) (by kernel_rfl) (by kernel_rfl) (fun _ _ _ h => h) (Or.inl ⟨by rfl, ?_⟩) (by assumption) ?_
      rotate_left
      · intro w hSw
        try dsimp only at hSw
        go_simp
        try with_reducible rfl
      simp only [Act.put, List.setIfInBounds_toArray, List.set_cons_zero, List.set_cons_succ]
      refine take_at (i := 7) (d := 18) (v := ?_) rfl rfl (by kernel_rfl) (by kernel_rfl) (by kernel_rfl) (fun _ _ _ h => h) (Or.inl ⟨by rfl, ?_⟩) (by assumption) ?_
      rotate_left
      · intro w hSw
        try dsimp only at hSw
        go_simp
        try with_reducible rfl
      simp only [Act.put, List.setIfInBounds_toArray, List.set_cons_zero, List.set_cons_succ]
      refine take_at (i := 8) (d := 19) (v := ?_) rfl rfl (by kernel_rfl) (by kernel_rfl) (by kernel_rfl) (fun _ _ _ h => h) (Or.inl ⟨by rfl, ?_⟩) (by assumption) ?_
      rotate_left
      · intro w hSw
        try dsimp only at hSw
        go_simp
        try with_reducible rfl
      simp only [Act.put, List.setIfInBounds_toArray, List.set_cons_zero, List.set_cons_succ]
      refine take_at (i := 9) (d := 20) (v := ?_) rfl rfl (by kernel_rfl) (by kernel_rfl) (by kernel_rfl) (fun _ _ _ h => h) (Or.inl ⟨by rfl, ?_⟩) (by assumption) ?_
      rotate_left
      · intro w hSw
        try dsimp only at hSw
        go_simp
        try with_reducible rfl
      simp only [Act.put, List.setIfInBounds_toArray, List.set_cons_zero, List.set_cons_succ]
      refine take_at (i := 10) (d := 21) (v := ?_) rfl rfl (by kernel_rfl) (by kernel_rfl) (by kernel_rfl) (fun _ _ _ h => h) (Or.inl ⟨by rfl, ?_⟩) (by assumption) ?_
      rotate_left
      · intro w hSw
        try dsimp only at hSw
        go_simp
        try with_reducible rfl
      simp only [Act.put, List.setIfInBounds_toArray, List.set_cons_zero, List.set_cons_succ]
      refine take_at (i := 11) (d := 22) (v := ?_) rfl rfl (by kernel_rfl) (by kernel_rfl) (by kernel_rfl) (fun _ _ _ h => h) (Or.inl ⟨by rfl, ?_⟩) (by assumption) ?_
      rotate_left
      · intro w hSw
        try dsimp only at hSw
        go_simp
        try with_reducible rfl
      simp only [Act.put, List.setIfInBounds_toArray, List.set_cons_zero, List.set_cons_succ]
      refine take_at (i := 12) (d := 23) (v := ?_) rfl rfl (by kernel_rfl) (by kernel_rfl) (by kernel_rfl) (fun _ _ _ h => h) (Or.inl ⟨by rfl, ?_⟩) (by assumption) ?_
      rotate_left
      · intro w hSw
        try dsimp only at hSw
        go_simp
        try with_reducible rfl
      simp only [Act.put, List.setIfInBounds_toArray, List.set_cons_zero, List.set_cons_succ]
      refine ready_at (i := 13) rfl (by kernel_rfl) (fun KK hKK => ?_)
      go_simp
      refine (unhide CT _).mono ?_
      rintro _ wa ⟨rfl, ba⟩
      have bB : Below wr.heap.size wr wa := bA.trans ba
      clear hHeld
      refine hKK.out _ _ (unhide K _ bB) (fun hHeld => ?_)
      clear hKK KK
      refine take_at (i := 14) (d := 25) (v := ?_) rfl rfl (by kernel_rfl) (by kernel_rfl) (by kernel_rfl) (fun _ _ _ h => h) (Or.inl ⟨by rfl, ?_⟩) (by assumption) ?_
      rotate_left
      · intro w hSw
        try dsimp only at hSw
        go_simp
        try with_reducible rfl
      simp only [Act.put, List.setIfInBounds_toArray, List.set_cons_zero, List.set_cons_succ]
      clear hHeld
      refine wpAnyH_done (by kernel_rfl) ?_ _
      refine NoPanic.normal ?_
      have LB := L.below bB L.lt
      have BB := br.trans (bB.mono br.size)
      have hcm := hide (cmpI_lt x y)
      generalize cmpI x y = q at *
      by_cases hq : q < 0
      · have HS := hide (unhide HS ((unhide hcm).1 hq))
        have hq0 : ¬ 0 ≤ q := by omega
        clear hcm HN
        go_wp2
        go_roundw
        case rel => exact ⟨m + 1, by omega, by omega, by go_num, HS, LB, BB⟩
        case measure => simp [intOf]; omega
      · have hno : decide (xs.Pairwise (· < ·)) = false := decide_eq_false (unhide HN (Int.not_lt.1 fun h => hq ((unhide hcm).2 h)))
        have hq0 : 0 ≤ q := by omega
        clear hcm HS HN
        go_wp2
        go_ret
        exact ⟨by first | rfl | (rw [hno]; rfl), BB⟩
    · have hyes : decide (xs.Pairwise (· < ·)) = true := decide_eq_true ((ascI_iff xs).1 fun j hj => unhide HA j (by have := unhide Hn; omega) (by have := unhide Hn; omega))
      clear HA
      go_wp2
      go_ret
      exact ⟨by first | rfl | (rw [hyes]; rfl), br⟩
theorem ok_ends {n : Int} {xs : List Int} (h0 : 0 < xs.length) : OkL n xs ↔ xs.Pairwise (· < ·) ∧ 0 ≤ xs.getD 0 0 ∧ xs.getD (xs.length - 1) 0 < n := by
  have g : ∀ k (hk : k < xs.length), xs.getD k 0 = xs[k] := fun k hk => by rw [List.getD_eq_getElem?_getD, List.getElem?_eq_getElem hk]; rfl
  unfold OkL
  constructor
  · rintro ⟨h1, h2⟩
    refine ⟨h2, ?_, ?_⟩
    · rw [g 0 h0]; exact (h1 _ (List.getElem_mem h0)).1
    · rw [g _ (by omega)]; exact (h1 _ (List.getElem_mem (by omega))).2
  · rintro ⟨h2, h3, h4⟩
    refine ⟨fun x hx => ?_, h2⟩
    obtain ⟨j, hj, rfl⟩ := List.getElem_of_mem hx
    rw [g 0 h0] at h3
    rw [g _ (by omega)] at h4
    have hp := List.pairwise_iff_getElem.1 h2
    constructor
    · by_cases e : j = 0
      · subst e; exact h3
      · have := hp 0 j h0 hj (by omega); omega
    · by_cases e : j = xs.length - 1
      · have : xs[j] = xs[xs.length - 1] := by congr 1
        omega
      · have := hp j (xs.length - 1) hj (by omega) (by omega); omega
set_option maxHeartbeats 1600000 in
set_option maxRecDepth 100000 in
theorem implSetOk (m : Int) (v : Value) (xs : List Int) (w : World) (h : RI w v xs) :
    Calls Tryd.prog 25 #[.int .i64 m, v] w fun e w' => e = .returned (.bool (decide (OkL m xs))) ∧ Below w.heap.size w w' := by
  obtain ⟨ao, ca, rfl⟩ := h.form
  have hl := h.1
  by_cases hz : xs.length = 0
  · obtain rfl : xs = [] := List.length_eq_zero_iff.1 hz
    have ed : decide (OkL m []) = true := decide_eq_true ⟨by simp, List.Pairwise.nil⟩
    rw [ed]
    clear ed h hl hz
    go_enter Tryd.func25, Tryd.ntmps25
    go_wp2
    go_ret
    exact ⟨rfl, Below.refl _ _⟩
  · have AS := hide fun w h => ascends_int (.slice ao xs.length ca) xs w h
    obtain ⟨w0, hw0⟩ : ∃ w0, w.alloc (.cells #[.slice ao xs.length ca, .func (.func 34) #[] #[]] 62) = w0 := ⟨_, rfl⟩
    have B0 : Below w.heap.size w w0 := hw0 ▸ (Below.refl _ _).alloc (Nat.le_refl _) _
    have L0 : Loc w0 w.heap.size #[.slice ao xs.length ca, .func (.func 34) #[] #[]] := hw0 ▸ loc_at w _ _ rfl
    have H := hide (h.below B0 (Nat.le_refl _))
    obtain ⟨g, off, rfl, c0⟩ := (unhide H).at 0 (by omega)
    obtain ⟨g', off', e, c1⟩ := (unhide H).at (xs.length - 1) (by omega)
    cases e
    have HO := hide (ok_ends (n := m) (xs := xs) (by omega))
    generalize xs.getD 0 0 = x at *
    generalize xs.getD (xs.length - 1) 0 = y at *
    have FIN : Hid (decide (OkL m xs) = (decide (xs.Pairwise (· < ·)) && (decide (0 ≤ x) && decide (y < m)))) := hide (by
      have := unhide HO
      by_cases hp : xs.Pairwise (· < ·) <;> by_cases hx : 0 ≤ x <;> by_cases hy : y < m <;> simp [hp, hx, hy, this])
    generalize decide (OkL m xs) = qq at *
    clear HO
    generalize decide (xs.Pairwise (· < ·)) = q at *
    obtain ⟨n, hn⟩ : ∃ n, xs.length = n + 1 := ⟨xs.length - 1, by omega⟩
    rw [hn] at H AS L0 hw0 hl hz c1 ⊢
    rw [Nat.add_sub_cancel] at c1
    rw [Nat.add_zero] at c0
    have hnz : decide (((n + 1 : Nat) : Int) = 0) = false := by simp; omega
    have hs1 : IntKind.i64.wrap (((n + 1 : Nat) : Int) - 1) = (n : Int) := by rw [IntKind.wrap_i64]; omega
    have hnn : ((n + 1 : Nat) : Int) - 1 = (n : Int) := by omega
    have Hn := hide hn
    clear hn h
    have q0 := L0.cell 0 rfl
    have q1 := L0.cell 1 rfl
    go_enter Tryd.func25, Tryd.ntmps25
    go_wp2_with fail
    clear hw0
    refine (unhide AS _ (unhide H)).mono ?_
    rintro _ w1 ⟨rfl, b1⟩
    have cx := b1.cell (p := ⟨g, off, none⟩) (cell_lt c0)
    have cy := b1.cell (p := ⟨g, off + n, none⟩) (cell_lt c1)
    rw [c0] at cx
    rw [c1] at cy
    have BB := B0.trans (b1.mono B0.size)
    clear H AS c0 c1 b1 q0 q1 L0 B0
    cases q with
    | false =>
      go_wp2
      go_ret
      exact ⟨by rw [unhide FIN]; rfl, BB⟩
    | true =>
      by_cases h0 : 0 ≤ x
      · have d0 : decide (0 ≤ x) = true := by simpa using h0
        rw [d0] at FIN
        clear h0
        go_wp2
        go_ret
        exact ⟨by rw [unhide FIN]; rfl, BB⟩
      · have d0 : decide (0 ≤ x) = false := by simpa using h0
        rw [d0] at FIN
        clear h0
        go_wp2
        go_ret
        exact ⟨by rw [unhide FIN]; rfl, BB⟩
end Go.Proofs.YtehdchpolgihlaaDoor

/- PartCmpP: the order of parts in the program's words (below 0, 0, above 0), and where a part comes to stand in a table. -/
namespace Go.Proofs.YtehdchpolgihlaaDoor
open Go.RowKit
set_option linter.unusedSectionVars false
variable [∀ (n : Int) (s : List Int), Decidable (OkL n s)]

def cmpS (s t : ByteArray) : Int := if Op.bytesLess s.toList t.toList = true then -1 else if Op.bytesLess t.toList s.toList = true then 1 else 0
def cmpP (a b : Pt) : Int := if cmpI a.1 b.1 ≠ 0 then cmpI a.1 b.1 else cmpS a.2.1 b.2.1
theorem cmpS_lt (s t : ByteArray) : cmpS s t < 0 ↔ Op.bytesLess s.toList t.toList = true := by
  unfold cmpS
  split
  · simp_all
  · split <;> simp_all
theorem cmpS_eq (s t : ByteArray) : cmpS s t = 0 ↔ s.toList = t.toList := by
  unfold cmpS
  constructor
  · intro h
    split at h
    · simp at h
    · split at h
      · simp at h
      · rename_i h1 h2
        exact Classical.byContradiction fun hn => h2 (less_total (by simpa using h1) hn)
  · intro h
    rw [h]
    simp [less_irrefl]
theorem cmpS_in (s t : ByteArray) : -1 ≤ cmpS s t ∧ cmpS s t ≤ 1 := by
  unfold cmpS
  repeat' split
  all_goals omega
theorem cmpP_lt (a b : Pt) : cmpP a b < 0 ↔ befP a b = true := by
  have hs := cmpS_lt a.2.1 b.2.1
  unfold cmpP cmpI
  simp only [befP, Bool.or_eq_true, decide_eq_true_eq, Bool.and_eq_true]
  rcases Int.lt_trichotomy a.1 b.1 with h | h | h
  · simp [h]
  · simp [h, hs]
  · have h1 : ¬ a.1 < b.1 := by omega
    have h2 : ¬ a.1 = b.1 := by omega
    simp [h, h1, h2]
theorem cmpP_eq (a b : Pt) : cmpP a b = 0 ↔ samP a b = true := by
  have hs := cmpS_eq a.2.1 b.2.1
  unfold cmpP cmpI
  simp only [samP, decide_eq_true_eq, Bool.and_eq_true, beq_iff_eq]
  rcases Int.lt_trichotomy a.1 b.1 with h | h | h
  · have h2 : ¬ a.1 = b.1 := by omega
    simp [h, h2]
  · simp [h, hs]
  · have h1 : ¬ a.1 < b.1 := by omega
    have h2 : ¬ a.1 = b.1 := by omega
    simp [h, h1, h2]
theorem cmpP_in (a b : Pt) : -1 ≤ cmpP a b ∧ cmpP a b ≤ 1 := by
  have hs := cmpS_in a.2.1 b.2.1
  unfold cmpP cmpI
  repeat' split
  all_goals omega
theorem cmpP_head (a b a' b' : Pt) (h : phd a = phd a') (h' : phd b = phd b') : cmpP a b = cmpP a' b' := by
  simp only [phd, Prod.mk.injEq] at h h'
  unfold cmpP
  rw [h.1, h.2, h'.1, h'.2]

/-- What withPart makes of a table, when the search comes to place k. -/
def putP (p : Pt) : List Pt → List Pt
  | [] => [p]
  | x :: xs => if samP x p = true then joinP x p :: xs else p :: x :: xs
theorem putP_cons (p x : Pt) (xs : List Pt) : putP p (x :: xs) = if samP x p = true then joinP x p :: xs else p :: x :: xs := rfl
def insP (ps : List Pt) (p : Pt) (k : Nat) : List Pt := ps.take k ++ putP p (ps.drop k)
/-- Place k: what is ahead of it stands ahead of p, what is there doesn't. -/
def PlaceP (ps : List Pt) (p : Pt) (k : Nat) : Prop := k ≤ ps.length ∧ (∀ i, k = i + 1 → befP (ps.getD i zpt) p = true) ∧ (k < ps.length → befP (ps.getD k zpt) p = false)
def Bf (a b : Pt) : Prop := befP a b = true
theorem row_pair (ps : List Pt) : rowP ps = true ↔ ps.Pairwise Bf := by
  induction ps with
  | nil => simp [rowP]
  | cons t ts ih =>
    cases ts with
    | nil => simp [rowP]
    | cons u ts =>
      rw [rowP, Bool.and_eq_true, ih]
      constructor
      · rintro ⟨h1, h2⟩
        refine List.Pairwise.cons ?_ h2
        intro v hv
        rcases List.mem_cons.1 hv with rfl | hv
        · exact h1
        · exact bef_trans h1 ((List.pairwise_cons.1 h2).1 v hv)
      · intro h
        obtain ⟨h1, h2⟩ := List.pairwise_cons.1 h
        exact ⟨h1 u (by simp), h2⟩
theorem put_pair {ps qs : List Pt} {p : Pt} (h : (qs ++ putP p ps).Pairwise Bf) : (qs ++ ps).Pairwise Bf := by
  cases ps with
  | nil =>
    rw [List.append_nil]
    exact (List.pairwise_append.1 h).1
  | cons x xs =>
    rw [putP_cons] at h
    split at h
    · obtain ⟨h1, h2, h3⟩ := List.pairwise_append.1 h
      obtain ⟨h4, h5⟩ := List.pairwise_cons.1 h2
      refine List.pairwise_append.2 ⟨h1, List.pairwise_cons.2 ⟨fun y hy => h4 y hy, h5⟩, fun a ha b hb => ?_⟩
      rcases List.mem_cons.1 hb with rfl | hb
      · exact h3 a ha (joinP b p) (by simp)
      · exact h3 a ha b (by simp [hb])
    · exact h.sublist (List.sublist_append_right [p] (x :: xs) |>.append_left qs)
theorem ins_pair {ps : List Pt} {p : Pt} {k : Nat} (h : (insP ps p k).Pairwise Bf) : ps.Pairwise Bf := by
  have := put_pair h
  rwa [List.take_append_drop] at this
theorem add_ins (ps : List Pt) (p : Pt) : ∃ k, addP ps p = insP ps p k := by
  induction ps with
  | nil => exact ⟨0, rfl⟩
  | cons x xs ih =>
    unfold addP
    split
    · obtain ⟨k, hk⟩ := ih
      exact ⟨k + 1, by rw [hk]; simp [insP]⟩
    · exact ⟨0, by simp [insP, putP]⟩
theorem ins_add {ps : List Pt} {p : Pt} {k : Nat} (hp : ps.Pairwise Bf) (h : PlaceP ps p k) : insP ps p k = addP ps p := by
  induction ps generalizing k with
  | nil =>
    obtain rfl : k = 0 := by have := h.1; simp at this; exact this
    rfl
  | cons x xs ih =>
    obtain ⟨h1, h2, h3⟩ := h
    obtain ⟨p1, p2⟩ := List.pairwise_cons.1 hp
    cases k with
    | zero =>
      have h3 : befP x p = false := by simpa using h3 (by simp)
      simp [insP, putP, addP, h3]
    | succ k =>
      have hk : k ≤ xs.length := by simpa using h1
      have hx : befP x p = true := by
        have := h2 k rfl
        cases k with
        | zero => simpa using this
        | succ j =>
          have hj : j < xs.length := by omega
          have hm : xs.getD j zpt ∈ xs := pt_mem hj
          exact bef_trans (p1 _ hm) (by simpa using this)
      have := ih p2 (k := k) ⟨hk, fun i hi => by have := h2 (i + 1) (by omega); simpa using this, fun hl => by have := h3 (by simpa using hl); simpa using this⟩
      rw [addP, if_pos hx, ← this]
      simp [insP]
theorem ins_mem {ps : List Pt} {p q : Pt} {k : Nat} (h : q ∈ insP ps p k) : q ∈ ps ∨ q = p ∨ ∃ x ∈ ps, samP x p = true ∧ q = joinP x p := by
  unfold insP at h
  rcases List.mem_append.1 h with h | h
  · exact .inl (List.mem_of_mem_take h)
  · have hd : ∀ y ∈ ps.drop k, y ∈ ps := fun y hy => List.mem_of_mem_drop hy
    generalize ps.drop k = ds at *
    cases ds with
    | nil => simp [putP] at h; exact .inr (.inl h)
    | cons x xs =>
      rw [putP_cons] at h
      split at h
      · rename_i hs
        rcases List.mem_cons.1 h with rfl | h
        · exact .inr (.inr ⟨x, hd x (by simp), hs, rfl⟩)
        · exact .inl (hd q (by simp [h]))
      · rcases List.mem_cons.1 h with rfl | h
        · exact .inr (.inl rfl)
        · exact .inl (hd q h)
end Go.Proofs.YtehdchpolgihlaaDoor

/- PartCmp0: cmp.Compare of numbers and of texts, cmp.Or of two numbers. -/
namespace Go.Proofs.YtehdchpolgihlaaDoor
open Go.RowKit
set_option linter.unusedSectionVars false
variable [∀ (n : Int) (s : List Int), Decidable (OkL n s)]

set_option maxHeartbeats 800000 in
set_option maxRecDepth 100000 in
theorem isNaN_i (x : Int) (w : World) : Calls Tryd.prog 47 #[.int .i64 x] w fun e w' => e = .returned (.bool false) ∧ w' = w := by
  go_enter Tryd.func47, Tryd.ntmps47
  go_wp2
  go_ret
  exact ⟨by simp, rfl⟩

set_option maxHeartbeats 1600000 in
set_option maxRecDepth 100000 in
theorem compare_i (x y : Int) (w : World) : Calls Tryd.prog 34 #[.int .i64 x, .int .i64 y] w fun e w' => e = .returned (.int .i64 (cmpI x y)) ∧ w' = w := by
  have NN := hide isNaN_i
  unfold cmpI
  by_cases h1 : x < y
  · rw [if_pos h1]
    go_enter Tryd.func34, Tryd.ntmps34
    go_wp2_with (first | (go_at_call 47; refine (unhide NN _ _).mono ?_; rintro e w' ⟨rfl, rfl⟩))
    go_ret
    exact ⟨rfl, rfl⟩
  · rw [if_neg h1]
    by_cases h2 : y < x
    · rw [if_pos h2]
      go_enter Tryd.func34, Tryd.ntmps34
      go_wp2_with (first | (go_at_call 47; refine (unhide NN _ _).mono ?_; rintro e w' ⟨rfl, rfl⟩))
      go_ret
      exact ⟨rfl, rfl⟩
    · rw [if_neg h2]
      go_enter Tryd.func34, Tryd.ntmps34
      go_wp2_with (first | (go_at_call 47; refine (unhide NN _ _).mono ?_; rintro e w' ⟨rfl, rfl⟩))
      go_ret
      exact ⟨rfl, rfl⟩

set_option maxHeartbeats 800000 in
set_option maxRecDepth 100000 in
theorem isNaN_s (s : ByteArray) (w : World) : Calls Tryd.prog 57 #[.string s] w fun e w' => e = .returned (.bool false) ∧ w' = w := by
  go_enter Tryd.func57, Tryd.ntmps57
  go_wp2
  go_ret
  exact ⟨by simp, rfl⟩

set_option maxHeartbeats 1600000 in
set_option maxRecDepth 100000 in
theorem compare_s (s t : ByteArray) (w : World) : Calls Tryd.prog 50 #[.string s, .string t] w fun e w' => e = .returned (.int .i64 (cmpS s t)) ∧ w' = w := by
  have NN := hide isNaN_s
  unfold cmpS
  by_cases h1 : Op.bytesLess s.toList t.toList = true
  · rw [if_pos h1]
    go_enter Tryd.func50, Tryd.ntmps50
    go_wp2_with (first | (go_at_call 57; refine (unhide NN _ _).mono ?_; rintro e w' ⟨rfl, rfl⟩))
    go_ret
    exact ⟨rfl, rfl⟩
  · rw [if_neg h1]
    have h1 : Op.bytesLess s.toList t.toList = false := by simpa using h1
    by_cases h2 : Op.bytesLess t.toList s.toList = true
    · rw [if_pos h2]
      have h3 : (s.toList == t.toList) = false := by
        simp only [beq_eq_false_iff_ne]; intro e; rw [e, less_irrefl] at h2; cases h2
      go_enter Tryd.func50, Tryd.ntmps50
      go_wp2_with (first | (go_at_call 57; refine (unhide NN _ _).mono ?_; rintro e w' ⟨rfl, rfl⟩))
      go_ret
      exact ⟨rfl, rfl⟩
    · rw [if_neg h2]
      have h2 : Op.bytesLess t.toList s.toList = false := by simpa using h2
      have h3 : (s.toList == t.toList) = true := by
        rw [beq_iff_eq]; exact Classical.byContradiction fun e => by have := less_total h1 e; rw [h2] at this; cases this
      go_enter Tryd.func50, Tryd.ntmps50
      go_wp2_with (first | (go_at_call 57; refine (unhide NN _ _).mono ?_; rintro e w' ⟨rfl, rfl⟩))
      go_ret
      exact ⟨rfl, rfl⟩

set_option maxHeartbeats 1600000 in
set_option maxRecDepth 100000 in
theorem or_two (a b : Int) (g : Nat) (w : World) (h0 : w.cell? ⟨g, 0, none⟩ = some (.int .i64 a)) (h1 : w.cell? ⟨g, 1, none⟩ = some (.int .i64 b)) :
    Calls Tryd.prog 49 #[.slice (some ⟨g, 0, none⟩) 2 2] w fun e w' => e = .returned (.int .i64 (if a ≠ 0 then a else b)) ∧ w' = w := by
  by_cases ha : a = 0
  · have e : (if a ≠ 0 then a else b) = b := by simp [ha]
    rw [e]
    subst ha
    clear e
    by_cases hb : b = 0
    · subst hb
      go_enter Tryd.func49, Tryd.ntmps49
      go_wp2
      refine wp_loop_rounds 3 ?_
      rw [rounds_succ]
      go_wp2
      rw [rounds_succ]
      go_wp2
      rw [rounds_succ]
      go_wp2
      go_ret
      exact ⟨rfl, rfl⟩
    · go_enter Tryd.func49, Tryd.ntmps49
      go_wp2
      refine wp_loop_rounds 2 ?_
      rw [rounds_succ]
      go_wp2
      rw [rounds_succ]
      go_wp2
      go_ret
      exact ⟨rfl, rfl⟩
  · have e : (if a ≠ 0 then a else b) = a := by simp [ha]
    rw [e]
    clear e
    go_enter Tryd.func49, Tryd.ntmps49
    go_wp2
    refine wp_loop_rounds 1 ?_
    rw [rounds_succ]
    go_wp2
    go_ret
    exact ⟨rfl, rfl⟩

end Go.Proofs.YtehdchpolgihlaaDoor

/- PartCmp: impl.compareParts. -/
namespace Go.Proofs.YtehdchpolgihlaaDoor
open Go.RowKit
set_option linter.unusedSectionVars false
variable [∀ (n : Int) (s : List Int), Decidable (OkL n s)]

theorem compare_i' (x y : Int) (w : World) : Calls Tryd.prog 34 #[.int .i64 x, .int .i64 y] w fun e w' => e = .returned (.int .i64 (cmpI x y)) ∧ Below w.heap.size w w' :=
  (compare_i x y w).mono fun _ _ h => ⟨h.1, h.2 ▸ Below.refl _ _⟩
theorem compare_s' (s t : ByteArray) (w : World) : Calls Tryd.prog 50 #[.string s, .string t] w fun e w' => e = .returned (.int .i64 (cmpS s t)) ∧ Below w.heap.size w w' :=
  (compare_s s t w).mono fun _ _ h => ⟨h.1, h.2 ▸ Below.refl _ _⟩
set_option maxHeartbeats 8000000 in
set_option maxRecDepth 100000 in
theorem compareParts_any (m n : Int) (s t : ByteArray) (u v : Value) (xs ys : List Int) (w : World) :
    Calls Tryd.prog 37 #[qv m s u, qv n t v] w fun e w' => e = .returned (.int .i64 (cmpP (m, s, xs) (n, t, ys))) ∧ Below w.heap.size w w' := by
  have OR : Hid (∀ g w, w.cell? ⟨g, 0, none⟩ = some (.int .i64 (cmpI m n)) → w.cell? ⟨g, 1, none⟩ = some (.int .i64 (cmpS s t)) → Calls Tryd.prog 49 #[.slice (some ⟨g, 0, none⟩) 2 2] w fun e w' => e = .returned (.int .i64 (cmpP (m, s, xs) (n, t, ys))) ∧ Below w.heap.size w w') :=
    hide fun g w h0 h1 => (or_two (cmpI m n) (cmpS s t) g w h0 h1).mono fun _ _ h => ⟨h.1, h.2 ▸ Below.refl _ _⟩
  generalize cmpP (m, s, xs) (n, t, ys) = q at *
  obtain ⟨w0, hw0⟩ : ∃ y, (w.alloc (.cells #[.int .i64 m, .string s, u] 31)).alloc (.cells #[.int .i64 n, .string t, v] 31) = y := ⟨_, rfl⟩
  have Bw0 : Below w.heap.size w w0 := hw0 ▸ qalloc2 _ _ _
  have LX : Loc w0 w.heap.size #[.int .i64 m, .string s, u] := hw0 ▸ (loc_at w _ _ rfl).alloc _
  have LY : Loc w0 (w.heap.size + 1) #[.int .i64 n, .string t, v] := hw0 ▸ loc_at (w.alloc _) _ _ (by simp)
  go_enter Tryd.func37, Tryd.ntmps37
  have K : Hid (∀ w', Below w0.heap.size w0 w' → (fun w' => Below w0.heap.size w0 w' ∧ (w'.cell? ⟨w.heap.size, 0, none⟩ = some (.int .i64 m) ∧ w'.cell? ⟨w.heap.size, 1, none⟩ = some (.string s) ∧ w'.cell? ⟨w.heap.size, 2, none⟩ = some (u)) ∧ (w'.cell? ⟨w.heap.size + 1, 0, none⟩ = some (.int .i64 n) ∧ w'.cell? ⟨w.heap.size + 1, 1, none⟩ = some (.string t) ∧ w'.cell? ⟨w.heap.size + 1, 2, none⟩ = some (v))) w') := hide fun w' hb' => ⟨hb', ⟨(LX.below hb' LX.lt).cell 0 rfl, (LX.below hb' LX.lt).cell 1 rfl, (LX.below hb' LX.lt).cell 2 rfl⟩, ⟨(LY.below hb' LY.lt).cell 0 rfl, (LY.below hb' LY.lt).cell 1 rfl, (LY.below hb' LY.lt).cell 2 rfl⟩⟩
  go_upto_region 1 with fail
  clear hw0
  have bA : Below w0.heap.size w0 w0.drew := Below.drew (Below.refl _ _)
  refine wp_region_noPanic ?_
  refine wp_region_held_drew (S := fun w' => Below w0.heap.size w0 w' ∧ (w'.cell? ⟨w.heap.size, 0, none⟩ = some (.int .i64 m) ∧ w'.cell? ⟨w.heap.size, 1, none⟩ = some (.string s) ∧ w'.cell? ⟨w.heap.size, 2, none⟩ = some (u)) ∧ (w'.cell? ⟨w.heap.size + 1, 0, none⟩ = some (.int .i64 n) ∧ w'.cell? ⟨w.heap.size + 1, 1, none⟩ = some (.string t) ∧ w'.cell? ⟨w.heap.size + 1, 2, none⟩ = some (v))) (by kernel_rfl) (unhide K _ bA) (fun hHeld => ?_)
  refine take_at (i := 0) (d := 5) (v := ?_) rfl rfl (by kernel_rfl) (by kernel_rfl) (by kernel_rfl) (fun _ _ _ h => h) (Or.inl ⟨by rfl, ?_⟩) (by assumption) ?_
  rotate_left
  · intro w hSw
    try dsimp only at hSw
    go_simp
    try with_reducible rfl
  simp only [Act.put, List.setIfInBounds_toArray, List.set_cons_zero, List.set_cons_succ]
  refine take_at (i := 2) (d := 7) (v := ?_) rfl rfl (by kernel_rfl) (by kernel_rfl) (by kernel_rfl) (fun _ _ _ h => h) (Or.inl ⟨by rfl, ?_⟩) (by assumption) ?_
  rotate_left
  · intro w hSw
    try dsimp only at hSw
    go_simp
    try with_reducible rfl
  simp only [Act.put, List.setIfInBounds_toArray, List.set_cons_zero, List.set_cons_succ]
  refine take_at (i := 5) (d := 10) (v := ?_) rfl rfl (by kernel_rfl) (by kernel_rfl) (by kernel_rfl) (fun _ _ _ h => h) (Or.inl ⟨by rfl, ?_⟩) (by assumption) ?_
  rotate_left
  · intro w hSw
    try dsimp only at hSw
    go_simp
    try with_reducible rfl
  simp only [Act.put, List.setIfInBounds_toArray, List.set_cons_zero, List.set_cons_succ]
  refine take_at (i := 7) (d := 12) (v := ?_) rfl rfl (by kernel_rfl) (by kernel_rfl) (by kernel_rfl) (fun _ _ _ h => h) (Or.inl ⟨by rfl, ?_⟩) (by assumption) ?_
  rotate_left
  · intro w hSw
    try dsimp only at hSw
    go_simp
    try with_reducible rfl
  simp only [Act.put, List.setIfInBounds_toArray, List.set_cons_zero, List.set_cons_succ]
  refine take_at (i := 1) (d := 6) (v := ?_) rfl rfl (by kernel_rfl) (by kernel_rfl) (by kernel_rfl) (fun _ _ _ h => h) (Or.inl ⟨by rfl, ?_⟩) (by assumption) ?_
  rotate_left
  · intro w hSw
    try dsimp only at hSw
    go_simp
    try with_reducible rfl
  simp only [Act.put, List.setIfInBounds_toArray, List.set_cons_zero, List.set_cons_succ]
  refine take_at (i := 3) (d := 8) (v := ?_) rfl rfl (by kernel_rfl) (by kernel_rfl) (by kernel_rfl) (fun _ _ _ h => h) (Or.inl ⟨by rfl, ?_⟩) (by assumption) ?_
  rotate_left
  · intro w hSw
    try dsimp only at hSw
    go_simp
    try with_reducible rfl
  simp only [Act.put, List.setIfInBounds_toArray, List.set_cons_zero, List.set_cons_succ]
  refine take_at (i := 6) (d := 11) (v := ?_) rfl rfl (by kernel_rfl) (by kernel_rfl) (by kernel_rfl) (fun _ _ _ h => h) (Or.inl ⟨by rfl, ?_⟩) (by assumption) ?_
  rotate_left
  · intro w hSw
    try dsimp only at hSw
    go_simp
    try with_reducible rfl
  simp only [Act.put, List.setIfInBounds_toArray, List.set_cons_zero, List.set_cons_succ]
  refine take_at (i := 8) (d := 13) (v := ?_) rfl rfl (by kernel_rfl) (by kernel_rfl) (by kernel_rfl) (fun _ _ _ h => h) (Or.inl ⟨by rfl, ?_⟩) (by assumption) ?_
  rotate_left
  · intro w hSw
    try dsimp only at hSw
    go_simp
    try with_reducible rfl
  simp only [Act.put, List.setIfInBounds_toArray, List.set_cons_zero, List.set_cons_succ]
  refine ready_at (i := 4) rfl (by kernel_rfl) (fun KK hKK => ?_)
  go_simp
  have hgo := bA
  refine (compare_i' m n _).mono ?_
  rintro e wz1_1 ⟨rfl, bb⟩
  have bz1 : Below w0.heap.size w0 wz1_1 := bA.trans (bb.mono bA.size)
  clear bA hgo bb
  clear hHeld
  refine hKK.out _ _ (unhide K _ bz1) (fun hHeld => ?_)
  clear hKK KK
  refine ready_at (i := 9) rfl (by kernel_rfl) (fun KK hKK => ?_)
  go_simp
  have hgo := bz1
  refine (compare_s' s t _).mono ?_
  rintro e wz1_2 ⟨rfl, bb⟩
  have bz2 : Below w0.heap.size w0 wz1_2 := bz1.trans (bb.mono bz1.size)
  clear bz1 hgo bb
  clear hHeld
  refine hKK.out _ _ (unhide K _ bz2) (fun hHeld => ?_)
  clear hKK KK
  refine ready_at (i := 10) rfl (by kernel_rfl) (fun KK hKK => ?_)
  go_simp
  obtain ⟨wz1_3, hwz1_3⟩ : ∃ x, (wz1_2).alloc (.cells #[.int .i64 (cmpI m n), .int .i64 (cmpS s t)] 3) = x := ⟨_, rfl⟩
  have bz3 : Below w0.heap.size w0 wz1_3 := hwz1_3 ▸ bz2.alloc bz2.size _
  have LE : Loc wz1_3 (wz1_2).heap.size #[.int .i64 (cmpI m n), .int .i64 (cmpS s t)] := hwz1_3 ▸ loc_at (wz1_2) _ _ rfl
  rw [hwz1_3]
  clear bz2 hwz1_3
  clear hHeld
  refine hKK.out _ _ (unhide K _ bz3) (fun hHeld => ?_)
  clear hKK KK
  refine ready_at (i := 11) rfl (by kernel_rfl) (fun KK hKK => ?_)
  go_simp
  have hgo := bz3
  refine (unhide OR _ _ (LE.cell 0 rfl) (LE.cell 1 rfl)).mono ?_
  rintro e wz1_4 ⟨rfl, bb⟩
  have bz4 : Below w0.heap.size w0 wz1_4 := bz3.trans (bb.mono bz3.size)
  replace LE := LE.below bb LE.lt
  clear bz3 hgo bb
  clear hHeld
  refine hKK.out _ _ (unhide K _ bz4) (fun hHeld => ?_)
  clear hKK KK
  refine take_at (i := 12) (d := 4) (v := ?_) rfl rfl (by kernel_rfl) (by kernel_rfl) (by kernel_rfl) (fun _ _ _ h => h) (Or.inl ⟨by rfl, ?_⟩) (by assumption) ?_
  rotate_left
  · intro w hSw
    try dsimp only at hSw
    go_simp
    try with_reducible rfl
  simp only [Act.put, List.setIfInBounds_toArray, List.set_cons_zero, List.set_cons_succ]
  clear hHeld
  refine wpAnyH_done (by kernel_rfl) ?_ _
  refine NoPanic.normal ?_
  have bb := bz4
  have Bwz1_4 := Bw0.trans (bb.mono Bw0.size)
  have swz1_4 := bb.size
  replace LX := LX.below bb LX.lt
  replace LY := LY.below bb LY.lt
  clear Bw0
  clear bb bz4 K
  go_wp2
  go_ret
  exact ⟨rfl, Bwz1_4⟩
end Go.Proofs.YtehdchpolgihlaaDoor

/- PartIs: errors.Is where the target is an error of errors.New's make: of nil, and of that error itself. -/
namespace Go.Proofs.YtehdchpolgihlaaDoor
open Go.RowKit Go.Extern

theorem Tryd.isTypeOf (v : Value) (w : World) : (Extern.ReflectliteType.typeOf #[.iface 169 v]).run Tryd.prog w = .ok (.iface 87 (.agg #[.pointer (some ⟨8, 169, none⟩)])) w := by kernel_rfl
theorem Tryd.isComparable (w : World) : ((Extern.ReflectliteType.method fun t => do Go.Extern.Rtype.noPackHeld "Comparable" t; pure (.bool (← typeInfo t).comparable)) #[.agg #[.pointer (some ⟨8, 169, none⟩)]]).run Tryd.prog w = .ok (.bool true) w := by kernel_rfl
theorem Tryd.isMethodComparable (v : Value) (w : World) : (Go.method 318 87 v "Comparable").run Tryd.prog w = .ok (150, v) w := by kernel_rfl
theorem Tryd.isComp : (Tryd.prog.info? 169).map (·.comparable) = some true := by kernel_rfl
theorem Tryd.isSize : (Tryd.prog.info? 171).map (·.size) = some 1 := by kernel_rfl

set_option maxHeartbeats 1600000 in
set_option maxRecDepth 100000 in
/-- errors.is(x, x, true), x a pointer to an errors.errorString. -/
theorem is_same0 (a : Addr) (w : World) :
    Calls Tryd.prog 41 #[.iface 169 (.pointer (some a)), .iface 169 (.pointer (some a)), .bool true] w fun e w' => e = .returned (.bool true) ∧ w' = w := by
  obtain ⟨i, hi, hcmp⟩ := Option.map_eq_some_iff.1 Tryd.isComp
  obtain ⟨j, hj, hjs⟩ := Option.map_eq_some_iff.1 Tryd.isSize
  have heq := run_eql_iface_ptr_same (P := Tryd.prog) w a Tryd.underlying50 Tryd.underlying169 hi hcmp hj
  go_enter Tryd.func41, Tryd.ntmps41
  go_wp2
  refine wp_loop_rounds 1 ?_
  rw [rounds_succ]
  go_wp2
  go_ret
  exact ⟨rfl, rfl⟩

set_option maxHeartbeats 1600000 in
set_option maxRecDepth 100000 in
/-- errors.Is(x, x), x a pointer to an errors.errorString. -/
theorem is_same (a : Addr) (w : World) :
    Calls Tryd.prog 29 #[.iface 169 (.pointer (some a)), .iface 169 (.pointer (some a))] w fun e w' => e = .returned (.bool true) ∧ w' = w := by
  have h8 := @run_callFunc_extern Tryd.prog 40 _ Extern.ReflectliteType.typeOf Tryd.func40 (by kernel_rfl) (by kernel_rfl) (by kernel_rfl) (by kernel_rfl)
  have h32 := @run_callFunc_extern Tryd.prog 150 _ (Extern.ReflectliteType.method fun t => do Go.Extern.Rtype.noPackHeld "Comparable" t; pure (.bool (← typeInfo t).comparable)) Tryd.func150 (by kernel_rfl) (by kernel_rfl) (by kernel_rfl) (by kernel_rfl)
  have tT := Tryd.isTypeOf
  have cT := Tryd.isComparable
  have mR := Tryd.isMethodComparable
  generalize (Extern.ReflectliteType.method fun t => do Go.Extern.Rtype.noPackHeld "Comparable" t; pure (.bool (← typeInfo t).comparable)) = CE at h32 cT
  have IS := hide (is_same0 a)
  go_enter Tryd.func29, Tryd.ntmps29
  go_wp2_with (first | (go_at_call 41; refine (unhide IS _).mono ?_; rintro e w' ⟨rfl, rfl⟩))
  go_ret
  exact ⟨rfl, rfl⟩

set_option maxHeartbeats 1600000 in
set_option maxRecDepth 100000 in
/-- errors.Is(nil, x). -/
theorem is_nil (b : Addr) (w : World) :
    Calls Tryd.prog 29 #[.nilIface, .iface 169 (.pointer (some b))] w fun e w' => e = .returned (.bool false) ∧ w' = w := by
  have hn := run_eql_iface_nil_left (P := Tryd.prog) w 169 (.pointer (some b)) Tryd.underlying50
  go_enter Tryd.func29, Tryd.ntmps29
  go_wp2
  go_ret
  exact ⟨rfl, rfl⟩
end Go.Proofs.YtehdchpolgihlaaDoor

/- A map of numbers to how many: plain mathematics. -/
namespace Go.Proofs.YtehdchpolgihlaaDoor
open Go.RowKit

abbrev kl (x : Int) : Lit := .int .i64 x
abbrev nl (x : Int) : DataW Unit := .lit (.int .i64 x)
theorem kl_key (x : Int) : WideAt.IsKeyLit (kl x) := trivial
theorem kl_ne {x y : Int} (h : y ≠ x) : kl y ≠ kl x := fun e => h (by injection e)
theorem kl_same (x y : Int) : (kl y).sameKey (kl x) = decide (y = x) := by
  by_cases h : y = x
  · subst h; simp [Lit.sameKey]
  · simp [Lit.sameKey, h]
/-- The map D holds of each number at how many places of L it stands. -/
def Counts (D : DataW Unit) (L : List Int) : Prop :=
  Maps.IsMap D ∧ ∀ x : Int, Maps.has D (kl x) = decide (x ∈ L) ∧ D.atKey (kl x) (nl 0) = nl ((L.count x : Nat) : Int)
theorem Counts.start : Counts (.map []) [] := ⟨Maps.isMap_empty, fun x => ⟨by simp [Maps.has], by simp [DataW.atKey]⟩⟩
theorem Counts.put {D : DataW Unit} {L : List Int} (h : Counts D L) (x : Int) : Counts (D.put (kl x) (nl (((L.count x : Nat) : Int) + 1))) (L ++ [x]) := by
  refine ⟨h.1.put _ _, fun y => ?_⟩
  by_cases hy : y = x
  · subst hy
    rw [Maps.has_put_same h.1 (kl_key _), Maps.atKey_put_same h.1 (kl_key _)]
    simp [List.count_append]
  · rw [Maps.has_put_other (kl_ne hy), Maps.atKey_put_other (kl_ne hy), (h.2 y).1, (h.2 y).2]
    have hyx : ¬ x = y := fun e => hy e.symm
    simp [List.count_append, hy, hyx]
theorem Counts.del {D : DataW Unit} {L : List Int} (h : Counts D L) (x : Int) : Counts (D.del (kl x)) (L.filter fun y => decide (y ≠ x)) := by
  refine ⟨h.1.del _, fun y => ?_⟩
  by_cases hy : y = x
  · subst hy
    rw [Maps.has_del_same, Maps.atKey_del_same]
    have hc : (L.filter fun z => decide (z ≠ y)).count y = 0 := List.count_eq_zero.2 (by simp)
    rw [hc]
    exact ⟨by simp, rfl⟩
  · rw [Maps.has_del_other (kl_ne hy), Maps.atKey_del_other (kl_ne hy), (h.2 y).1, (h.2 y).2]
    have hc : (L.filter fun z => decide (z ≠ x)).count y = L.count y := List.count_filter (by simpa using hy)
    rw [hc]
    exact ⟨by simp [hy], rfl⟩
/-- Those of a that are in none of the first of b. -/
def loneL (a b : List Int) : List Int := a.filter fun x => decide (x ∉ b)
theorem lone_nil (a : List Int) : loneL a [] = a := by unfold loneL; simp
theorem lone_snoc (a b : List Int) (x : Int) : (loneL a b).filter (fun y => decide (y ≠ x)) = loneL a (b ++ [x]) := by
  unfold loneL
  rw [List.filter_filter]
  congr 1
  funext y
  by_cases h1 : y ∈ b <;> by_cases h2 : y = x <;> simp [h1, h2]
theorem lone_len (a b : List Int) : (a.length : Int) - ((loneL a b).length : Int) = (comL a b : Int) := by
  have := com_split a b
  unfold loneL
  omega
/-- How many places of L hold a number that has come. -/
def cameL (L : List Int) (left : Lit → Bool) : Nat := (L.filter fun y => !left (kl y)).length
theorem came_start {D : DataW Unit} {L : List Int} (h : Counts D L) : cameL L (Maps.has D) = 0 := by
  unfold cameL
  rw [List.length_eq_zero_iff, List.filter_eq_nil_iff]
  intro y hy
  simp [(h.2 y).1, hy]
theorem came_step (L : List Int) (left : Lit → Bool) (x : Int) (hx : left (kl x) = true) : cameL L (fun z => left z && !z.sameKey (kl x)) = cameL L left + L.count x := by
  unfold cameL
  induction L with
  | nil => rfl
  | cons c L ih =>
    rw [List.filter_cons, List.filter_cons, List.count_cons]
    by_cases hc : c = x
    · subst hc
      simp only [kl_same, hx, beq_self_eq_true]
      simp
      simp [kl_same] at ih
      omega
    · simp only [kl_same, decide_eq_false hc, Bool.not_false, Bool.and_true]
      have : (c == x) = false := by simpa using hc
      simp only [this]
      simp only [kl_same] at ih
      split <;> simp_all <;> omega
theorem came_end (L : List Int) (left : Lit → Bool) (h : ∀ z, left z = false) : cameL L left = L.length := by
  unfold cameL
  simp [h]
theorem came_le (L : List Int) (left : Lit → Bool) : cameL L left ≤ L.length := List.length_filter_le _ _
theorem Counts.count {D : DataW Unit} {L : List Int} (h : Counts D L) {x c : Int} (hat : ∀ zd, D.atKey (kl x) zd = nl c) : c = ((L.count x : Nat) : Int) := by
  have := (h.2 x).2
  rw [hat] at this
  simpa using this
/-- The keys that have come. -/
def Coll (D : DataW Unit) (left : Lit → Bool) (ss : List Int) : Prop := ss.Nodup ∧ ∀ x, x ∈ ss ↔ (Maps.has D (kl x) = true ∧ left (kl x) = false)
theorem Coll.start (D : DataW Unit) : Coll D (Maps.has D) [] := ⟨List.nodup_nil, fun x => by cases Maps.has D (kl x) <;> simp⟩
theorem Coll.step {D : DataW Unit} {left : Lit → Bool} {ss : List Int} (h : Coll D left ss) {x c : Int} (hlk : left (kl x) = true) (hat : ∀ zd, D.atKey (kl x) zd = nl c) : Coll D (fun z => left z && !z.sameKey (kl x)) (ss ++ [x]) := by
  have hhas : Maps.has D (kl x) = true := Maps.has_true_of_atKey hat
  have hnew : x ∉ ss := fun hx => by have := ((h.2 x).1 hx).2; rw [hlk] at this; cases this
  refine ⟨List.nodup_append.2 ⟨h.1, by simp, fun a ha b hb => by simp at hb; subst hb; exact fun e => hnew (e ▸ ha)⟩, fun y => ?_⟩
  by_cases hy : y = x
  · subst hy; simp [hhas, kl_same]
  · simp [h.2 y, hy, kl_same]
theorem sorted_asc {ss : List Int} (h : ss.Nodup) : (ss.mergeSort fun x y => decide (x ≤ y)).Pairwise (· < ·) := by
  have p1 : (ss.mergeSort fun x y => decide (x ≤ y)).Pairwise (fun x y => decide (x ≤ y) = true) := List.pairwise_mergeSort (fun a b c h1 h2 => by simp at *; omega) (fun a b => by simp; omega) ss
  have p2 : (ss.mergeSort fun x y => decide (x ≤ y)).Nodup := ((List.mergeSort_perm ss _).nodup_iff).2 h
  have := List.Pairwise.and p1 p2
  exact this.imp fun {a b} hh => by
    have h1 := hh.1
    have h2 := hh.2
    simp at h1
    omega
theorem Coll.joined {D : DataW Unit} {left : Lit → Bool} {ss a b : List Int} (h : Coll D left ss) (hc : Counts D (a ++ b)) (hl : ∀ z, left z = false) : (ss.mergeSort fun x y => decide (x ≤ y)) = joinL a b := by
  refine join_is (sorted_asc h.1) fun x => ?_
  rw [(List.mergeSort_perm ss _).mem_iff, h.2 x, (hc.2 x).1, hl]
  simp
end Go.Proofs.YtehdchpolgihlaaDoor
