/- Texts that belong together: SpecSets2, AscInts, QcSame, QcLater, QcOut. -/
import Derived.Test.YtbigcmcliamenaaGreatDoorNAAT
import Derived.BigQuiet
import Derived.Test.YtbigcmcliamenaaGreatDoorNAAA
import Derived.Test.YtbigcmcliamenaaGreatDoorNAAF
import Derived.Laws.EntriesVeiled
import Derived.Test.YtbigcmcliamenaaGreatDoorNAAK
import Derived.Test.YtbigcmcliamenaaGreatDoorNAAB
import Derived.Test.YtbigcmcliamenaaGreatDoorNAAO
import Derived.Deep.RegionWith
import Derived.Deep.RegionLaw
import Derived.Deep.DeepCutAuto
import Derived.Laws.CopyOwn
namespace Go.Proofs.YtbigcmcliamenaaGreatDoor
open Go.RowKit
set_option linter.unusedSectionVars false

variable [∀ (n : Int) (s : List Int), Decidable (OkL n s)]
theorem ok_more {n : Int} {xs : List Int} {k : Nat} (hk : k < xs.length) (h : OkL n (xs.take k)) (h0 : 0 ≤ xs.getD k 0) (h1 : xs.getD k 0 < n) (h2 : 0 < k → xs.getD (k - 1) 0 < xs.getD k 0) : OkL n (xs.take (k + 1)) := by
 rw [itake_more xs k hk]
 refine ⟨fun x hx => ?_, List.pairwise_append.2 ⟨h.2, by simp, fun x hx y hy => ?_⟩⟩
 ·rcases List.mem_append.1 hx with hx | hx
  ·exact h.1 x hx
  ·simp at hx; subst hx; exact ⟨h0, h1⟩
 ·simp at hy
  subst hy
  by_cases hk0 : 0 < k
  ·have h3 := h2 hk0
   have e : xs.take k = xs.take (k - 1) ++ [xs.getD (k - 1) 0] := by
    have := itake_more xs (k - 1) (by omega)
    rwa [show k - 1 + 1 = k by omega] at this
   have hp := h.2
   rw [e] at hx hp
   rcases List.mem_append.1 hx with hx | hx
   ·have := (List.pairwise_append.1 hp).2.2 x hx (xs.getD (k - 1) 0) (by simp)
    simp only [List.getD_eq_getElem?_getD] at *
    omega
   ·simp at hx
    simp only [List.getD_eq_getElem?_getD] at *
    omega
  ·have : k = 0 := by omega
   subst this; simp at hx
theorem ok_not {n : Int} {xs : List Int} {k : Nat} (hk : k < xs.length) (h : xs.getD k 0 < 0 ∨ n ≤ xs.getD k 0 ∨ (0 < k ∧ xs.getD k 0 ≤ xs.getD (k - 1) 0)) : ¬ OkL n xs := fun ho => by
 have hm := ho.1 _ (getD_mem_int hk)
 rcases h with h | h | ⟨h0, h⟩
 ·omega
 ·omega
 ·have := List.pairwise_iff_getElem.1 ho.2 (k - 1) k (by omega) hk (by omega)
  rw [List.getD_eq_getElem?_getD, List.getD_eq_getElem?_getD, List.getElem?_eq_getElem hk, List.getElem?_eq_getElem (show k - 1 < xs.length by omega)] at h
  simp at h
  omega

set_option maxHeartbeats 4000000 in
set_option maxRecDepth 100000 in
theorem specSetOk (m : Int) (v : Value) (xs : List Int) (w : World) (h : RI w v xs) :
 Calls Tryz.prog 111 #[.int .i64 m, v] w fun e w' => e = .returned (.bool (decide (OkL m xs))) ∧ Below w.heap.size w w' := by
 have hl := h.1
 obtain ⟨ao, ca, rfl⟩ := h.form
 have H := hide h
 obtain ⟨n, hn⟩ : ∃ n, xs.length = n := ⟨_, rfl⟩
 have Hn := hide hn
 obtain ⟨r, hr⟩ : ∃ r, decide (OkL m xs) = r := ⟨_, rfl⟩
 have HR := hide hr
 rw [hn] at hl H ⊢
 rw [hr]
 clear h hn hr
 go_enter Tryz.func111, Tryz.ntmps111
 go_wp2
 go_loopw [5] (fun j wr => ∃ k : Nat, k ≤ n ∧ j = .int .i64 k ∧ Hid (OkL m (xs.take k)) ∧ Below w.heap.size w wr) (fun j _ => n - (intOf j).toNat)
 case atStart => exact ⟨0, Nat.zero_le _, rfl, hide (by simp [OkL]), Below.refl _ _⟩
 case round =>
  obtain ⟨k, hk, rfl, HK, br⟩ := hrel
  have HR2 := hide ((unhide H).below br (Nat.le_refl _))
  by_cases hlt : k < n
  ·have hkx : k < xs.length := by have := unhide Hn; omega
   obtain ⟨b, off, rfl, c⟩ := (unhide HR2).at k hkx
   have HP : Hid (0 < k → wr.cell? ⟨b, off + (k - 1), none⟩ = some (.int .i64 (xs.getD (k - 1) 0))) := hide fun h0 => by
    obtain ⟨b', off', e, c'⟩ := (unhide HR2).at (k - 1) (by omega)
    cases e; exact c'
   have HG := hide fun h0 h1 h2 => ok_more hkx (unhide HK) h0 h1 h2
   have HB := hide fun h => ok_not (n := m) hkx h
   generalize xs.getD k 0 = d at *
   by_cases g0 : d < 0
   ·have hrr : r = false := by rw [← unhide HR]; exact decide_eq_false (unhide HB (.inl g0))
    subst hrr
    have g0' : decide (d < 0) = true := by simpa using g0
    clear HG HB HP HK
    go_wp2_with fail
    go_quiet (fail)
    go_wp2
    go_ret
    exact ⟨rfl, by first | exact br | exact below_drewN' br _⟩
   have g0' : decide (d < 0) = false := by simpa using g0
   by_cases g1 : m ≤ d
   ·have hrr : r = false := by rw [← unhide HR]; exact decide_eq_false (unhide HB (.inr (.inl g1)))
    subst hrr
    have g1' : decide (m ≤ d) = true := by simpa using g1
    clear HG HB HP HK
    go_wp2_with fail
    go_quiet (fail)
    go_wp2
    go_ret
    exact ⟨rfl, by first | exact br | exact below_drewN' br _⟩
   have g1' : decide (m ≤ d) = false := by simpa using g1
   by_cases hk0 : 0 < k
   ·have c2 := unhide HP hk0
    obtain ⟨j, rfl⟩ : ∃ j, k = j + 1 := ⟨k - 1, by omega⟩
    rw [show j + 1 - 1 = j by omega] at c2 HG HB
    generalize xs.getD j 0 = p at *
    have ej : (((j + 1 : Nat) : Int)) - 1 = (j : Int) := by omega
    have hk0' : decide ((0 : Int) < ((j + 1 : Nat) : Int)) = true := by rw [decide_eq_true_iff]; omega
    by_cases g2 : d ≤ p
    ·have hrr : r = false := by rw [← unhide HR]; exact decide_eq_false (unhide HB (.inr (.inr ⟨by omega, g2⟩)))
     subst hrr
     have g2' : decide (d ≤ p) = true := by simpa using g2
     clear HG HB HP HK
     go_wp2_with fail
     go_quiet (fail)
     go_wp2
     go_ret
     exact ⟨rfl, by first | exact br | exact below_drewN' br _⟩
    ·have g2' : decide (d ≤ p) = false := by simpa using g2
     have HK' := hide (unhide HG (by omega) (by omega) (fun _ => by omega))
     clear HG HB HP HK
     go_wp2_with fail
     go_quiet (fail)
     go_wp2
     go_roundw
     case rel => exact ⟨j + 1 + 1, by omega, by go_num, HK', by first | exact br | exact below_drewN' br _⟩
     case measure => simp [intOf]; omega
   ·obtain rfl : k = 0 := by omega
    rw [Nat.add_zero] at c
    have HK' := hide (unhide HG (by omega) (by omega) (fun h => by omega))
    clear HG HB HP HK
    go_wp2_with fail
    go_quiet (fail)
    go_wp2
    go_roundw
    case rel => exact ⟨1, by omega, by go_num, HK', by first | exact br | exact below_drewN' br _⟩
    case measure => simp [intOf]; omega
  ·have hkn : k = xs.length := by have := unhide Hn; omega
   have hrr : r = true := by
    rw [← unhide HR]
    have := unhide HK
    rw [List.take_of_length_le (by omega)] at this
    exact decide_eq_true this
   subst hrr
   have hd0 : decide ((k : Int) < (n : Int)) = false := by simp; omega
   clear HK
   go_wp2
   go_ret
   exact ⟨rfl, by first | exact br | exact below_drewN' br _⟩
end Go.Proofs.YtbigcmcliamenaaGreatDoor
namespace Go.Proofs.YtbigcmcliamenaaGreatDoor
open Go.RowKit
set_option linter.unusedSectionVars false
variable [∀ (n : Int) (s : List Int), Decidable (OkL n s)]

set_option maxHeartbeats 400000 in
set_option maxRecDepth 100000 in
theorem isNaN_int (x : Int) (w : World) : Calls Tryz.prog 167 #[.int .i64 x] w fun e w' => e = .returned (.bool false) ∧ Below w.heap.size w w' := by
 go_enter Tryz.func167, Tryz.ntmps167
 go_wp2
 go_ret
 exact ⟨rfl, Below.refl _ _⟩
def cmpI (x y : Int) : Int := if x < y then -1 else if y < x then 1 else 0
theorem cmpI_lt (x y : Int) : cmpI x y < 0 ↔ x < y := by
 unfold cmpI
 repeat' split
 all_goals omega
set_option maxHeartbeats 800000 in
set_option maxRecDepth 100000 in
theorem compare_int (x y : Int) (w : World) : Calls Tryz.prog 158 #[.int .i64 x, .int .i64 y] w fun e w' => e = .returned (.int .i64 (cmpI x y)) ∧ Below w.heap.size w w' := by
 have NA := hide fun x w => isNaN_int x w
 unfold cmpI
 by_cases h1 : x < y
 ·rw [if_pos h1]
  have d1 : decide (x < y) = true := by simpa using h1
  clear h1
  go_enter Tryz.func158, Tryz.ntmps158
  go_wp2_with fail
  refine (unhide NA _ _).mono ?_
  rintro _ w1 ⟨rfl, b1⟩
  go_wp2_with fail
  refine (unhide NA _ _).mono ?_
  rintro _ w2 ⟨rfl, b2⟩
  go_wp2
  go_ret
  exact ⟨rfl, b1.trans (b2.mono b1.size)⟩
 ·rw [if_neg h1]
  have d1 : decide (x < y) = false := by simpa using h1
  clear h1
  by_cases h2 : y < x
  ·rw [if_pos h2]
   have d2 : decide (y < x) = true := by simpa using h2
   have d3 : decide (x > y) = true := by simpa using h2
   clear h2
   go_enter Tryz.func158, Tryz.ntmps158
   go_wp2_with fail
   refine (unhide NA _ _).mono ?_
   rintro _ w1 ⟨rfl, b1⟩
   go_wp2_with fail
   refine (unhide NA _ _).mono ?_
   rintro _ w2 ⟨rfl, b2⟩
   go_wp2
   go_ret
   exact ⟨rfl, b1.trans (b2.mono b1.size)⟩
  ·rw [if_neg h2]
   have d2 : decide (y < x) = false := by simpa using h2
   have d3 : decide (x > y) = false := by simpa using h2
   clear h2
   go_enter Tryz.func158, Tryz.ntmps158
   go_wp2_with fail
   refine (unhide NA _ _).mono ?_
   rintro _ w1 ⟨rfl, b1⟩
   go_wp2_with fail
   refine (unhide NA _ _).mono ?_
   rintro _ w2 ⟨rfl, b2⟩
   go_wp2
   go_ret
   exact ⟨rfl, b1.trans (b2.mono b1.size)⟩
def AscI (xs : List Int) : Prop := ∀ j, j + 1 < xs.length → xs.getD j 0 < xs.getD (j + 1) 0
theorem ascI_iff (xs : List Int) : AscI xs ↔ xs.Pairwise (· < ·) := by
 constructor
 ·intro h
  refine List.pairwise_iff_getElem.2 fun i j hi hj hij => ?_
  have key : ∀ d, i + d + 1 < xs.length → xs.getD i 0 < xs.getD (i + d + 1) 0 := by
   intro d
   induction d with
   | zero => exact fun hd => h i hd
   | succ d ih => exact fun hd => Int.lt_trans (ih (by omega)) (h (i + d + 1) hd)
  have := key (j - i - 1) (by omega)
  rw [show i + (j - i - 1) + 1 = j from by omega] at this
  simpa [List.getD_eq_getElem?_getD, List.getElem?_eq_getElem hi, List.getElem?_eq_getElem hj] using this
 ·intro h j hj
  have := List.pairwise_iff_getElem.1 h j (j + 1) (by omega) hj (by omega)
  simpa [List.getD_eq_getElem?_getD, List.getElem?_eq_getElem hj, List.getElem?_eq_getElem (show j < xs.length by omega)] using this
set_option maxHeartbeats 1000000 in
set_option maxRecDepth 100000 in
theorem ascends_int (v : Value) (xs : List Int) (w : World) (h : RI w v xs) :
 Calls Tryz.prog 159 #[.agg #[v, .func (.func 158) #[] #[]]] w fun e w' => e = .returned (.bool (decide (xs.Pairwise (· < ·)))) ∧ Below w.heap.size w w' := by
 obtain ⟨ao, ca, rfl⟩ := h.form
 have hl := h.1
 have H := hide h
 obtain ⟨n, hn⟩ : ∃ n, xs.length = n := ⟨_, rfl⟩
 have Hn := hide hn
 rw [hn] at hl H ⊢
 clear h hn
 obtain ⟨w0, hw0⟩ : ∃ w0, w.alloc (.cells #[.slice ao n ca, .func (.func 158) #[] #[]] 211) = w0 := ⟨_, rfl⟩
 have B0 : Below w.heap.size w w0 := hw0 ▸ (Below.refl _ _).alloc (Nat.le_refl _) _
 have L0 : Loc w0 w.heap.size #[.slice ao n ca, .func (.func 158) #[] #[]] := hw0 ▸ loc_at w _ _ rfl
 go_enter Tryz.func159, Tryz.ntmps159
 go_wp2
 clear hw0
 go_loopw [3] (fun i wr => ∃ m : Nat, 1 ≤ m ∧ m ≤ n + 1 ∧ i = .int .i64 m ∧ Hid (∀ j, j + 1 < m → j + 1 < n → xs.getD j 0 < xs.getD (j + 1) 0) ∧ Loc wr w.heap.size #[.slice ao n ca, .func (.func 158) #[] #[]] ∧ Below w.heap.size w wr) (fun i _ => n + 1 - (intOf i).toNat)
 case atStart => exact ⟨1, Nat.le_refl _, by omega, by go_num, hide (fun j hj => absurd hj (by omega)), L0, B0⟩
 case round =>
  clear L0 B0
  obtain ⟨m, hm1, hm, rfl, HA, L, br⟩ := hrel
  have q0 := L.cell 0 rfl
  have q1 := L.cell 1 rfl
  by_cases hlt : m < n
  ·obtain ⟨k, hk⟩ : ∃ k, m = k + 1 := ⟨m - 1, by omega⟩
   have hk1 : (m : Int) - 1 = (k : Int) := by omega
   have hwk : IntKind.i64.wrap (k : Int) = (k : Int) := by rw [IntKind.wrap_i64]; omega
   have hkn : k < n := by omega
   obtain ⟨g, off, rfl, cx⟩ := ((unhide H).below br (Nat.le_refl _)).at k (by rw [unhide Hn]; omega)
   obtain ⟨g', off', e, cy⟩ := ((unhide H).below br (Nat.le_refl _)).at m (by rw [unhide Hn]; omega)
   cases e
   have CT := hide fun w => compare_int (xs.getD k 0) (xs.getD m 0) w
   have HS : Hid (xs.getD k 0 < xs.getD m 0 → ∀ j, j + 1 < m + 1 → j + 1 < n → xs.getD j 0 < xs.getD (j + 1) 0) := hide fun h j hj hj2 => by
    by_cases e : j = k
    ·rw [e, ← hk]; exact h
    ·exact unhide HA j (by omega) hj2
   have HN : Hid (xs.getD m 0 ≤ xs.getD k 0 → ¬ xs.Pairwise (· < ·)) := hide fun h ha => Int.not_lt.2 h (by have := (ascI_iff xs).2 ha k (by rw [unhide Hn]; omega); rwa [← hk] at this)
   clear HA
   generalize xs.getD k 0 = x at *
   generalize xs.getD m 0 = y at *
   replace hk := hide hk
   have K : Hid (∀ w', Below wr.heap.size wr w' → (w'.cell? ⟨w.heap.size, 0, none⟩ = some (.slice (some ⟨g, off, none⟩) n ca) ∧ w'.cell? ⟨w.heap.size, 1, none⟩ = some (.func (.func 158) #[] #[])) ∧ w'.cell? ⟨g, off + k, none⟩ = some (.int .i64 x) ∧ w'.cell? ⟨g, off + m, none⟩ = some (.int .i64 y)) := hide fun w' hb => by
    have l := L.below hb L.lt
    exact ⟨⟨l.cell 0 rfl, l.cell 1 rfl⟩, (hb.cell (cell_lt cx)).trans cx, (hb.cell (cell_lt cy)).trans cy⟩
   have bA : Below wr.heap.size wr wr.drew := Below.drew (Below.refl _ _)
   have hKeep := unhide K _ bA
   clear cx cy
   go_wp2_with fail
   refine wp_region_noPanic ?_
   refine wp_region_held_drew (S := (fun w' => (w'.cell? ⟨w.heap.size, 0, none⟩ = some (.slice (some ⟨g, off, none⟩) n ca) ∧ w'.cell? ⟨w.heap.size, 1, none⟩ = some (.func (.func 158) #[] #[])) ∧ w'.cell? ⟨g, off + k, none⟩ = some (.int .i64 x) ∧ w'.cell? ⟨g, off + m, none⟩ = some (.int .i64 y))) (by kernel_rfl) hKeep (fun hHeld => ?_)
   refine tk 0 11 (v := ?_) rfl (hy := .inl ⟨by rfl, ?_⟩) (h := ?_); rotate_left
   ·intro w hSw; (try dsimp only at hSw); go_simp; (try with_reducible rfl)
   simp only [pU]
   refine tk 1 12 (v := ?_) rfl (hy := .inl ⟨by rfl, ?_⟩) (h := ?_); rotate_left
   ·intro w hSw; (try dsimp only at hSw); go_simp; (try with_reducible rfl)
   simp only [pU]
   refine tk 2 13 (v := ?_) rfl (hy := .inl ⟨by rfl, ?_⟩) (h := ?_); rotate_left
   ·intro w hSw; (try dsimp only at hSw); go_simp; (try with_reducible rfl)
   simp only [pU]
   refine tk 3 14 (v := ?_) rfl (hy := .inl ⟨by rfl, ?_⟩) (h := ?_); rotate_left
   ·intro w hSw; (try dsimp only at hSw); go_simp; (try with_reducible rfl)
   simp only [pU]
   refine tk 4 15 (v := ?_) rfl (hy := .inl ⟨by rfl, ?_⟩) (h := ?_); rotate_left
   ·intro w hSw; (try dsimp only at hSw); go_simp; (try with_reducible rfl)
   simp only [pU]
   refine tk 5 16 (v := ?_) rfl (hy := .inl ⟨by rfl, ?_⟩) (h := ?_); rotate_left
   ·intro w hSw; (try dsimp only at hSw); go_simp; (try with_reducible rfl)
   simp only [pU]
   refine tk 6 17 (v := ?_) rfl (hy := .inl ⟨by rfl, ?_⟩) (h := ?_); rotate_left
   ·intro w hSw; (try dsimp only at hSw); go_simp; (try with_reducible rfl)
   simp only [pU]
   refine tk 7 18 (v := ?_) rfl (hy := .inl ⟨by rfl, ?_⟩) (h := ?_); rotate_left
   ·intro w hSw; (try dsimp only at hSw); go_simp; (try with_reducible rfl)
   simp only [pU]
   refine tk 8 19 (v := ?_) rfl (hy := .inl ⟨by rfl, ?_⟩) (h := ?_); rotate_left
   ·intro w hSw; (try dsimp only at hSw); go_simp; (try with_reducible rfl)
   simp only [pU]
   refine tk 9 20 (v := ?_) rfl (hy := .inl ⟨by rfl, ?_⟩) (h := ?_); rotate_left
   ·intro w hSw; (try dsimp only at hSw); go_simp; (try with_reducible rfl)
   simp only [pU]
   refine tk 10 21 (v := ?_) rfl (hy := .inl ⟨by rfl, ?_⟩) (h := ?_); rotate_left
   ·intro w hSw; (try dsimp only at hSw); go_simp; (try with_reducible rfl)
   simp only [pU]
   refine tk 11 22 (v := ?_) rfl (hy := .inl ⟨by rfl, ?_⟩) (h := ?_); rotate_left
   ·intro w hSw; (try dsimp only at hSw); go_simp; (try with_reducible rfl)
   simp only [pU]
   refine tk 12 23 (v := ?_) rfl (hy := .inl ⟨by rfl, ?_⟩) (h := ?_); rotate_left
   ·intro w hSw; (try dsimp only at hSw); go_simp; (try with_reducible rfl)
   simp only [pU]
   refine ready_at (i := 13) rfl (by kernel_rfl) (fun KK hKK => ?_)
   go_simp
   refine (unhide CT _).mono ?_
   rintro _ wa ⟨rfl, ba⟩
   have bB : Below wr.heap.size wr wa := bA.trans ba
   clear hHeld
   refine hKK.out _ _ (unhide K _ bB) (fun hHeld => ?_)
   clear hKK KK
   refine tk 14 25 (v := ?_) rfl (hy := .inl ⟨by rfl, ?_⟩) (h := ?_); rotate_left
   ·intro w hSw; (try dsimp only at hSw); go_simp; (try with_reducible rfl)
   simp only [pU]
   clear hHeld
   refine wpAnyH_done (by kernel_rfl) ?_ _
   refine NoPanic.normal ?_
   have LB := L.below bB L.lt
   have BB := br.trans (bB.mono br.size)
   have hcm := hide (cmpI_lt x y)
   generalize cmpI x y = q at *
   by_cases hq : q < 0
   ·have HS := hide (unhide HS ((unhide hcm).1 hq))
    have hq0 : ¬ 0 ≤ q := by omega
    clear hcm HN
    go_wp2
    go_roundw
    case rel => exact ⟨m + 1, by omega, by omega, by go_num, HS, LB, BB⟩
    case measure => simp [intOf]; omega
   ·have hno : decide (xs.Pairwise (· < ·)) = false := decide_eq_false (unhide HN (Int.not_lt.1 fun h => hq ((unhide hcm).2 h)))
    have hq0 : 0 ≤ q := by omega
    clear hcm HS HN
    go_wp2
    go_ret
    exact ⟨by first | rfl | (rw [hno]; rfl), BB⟩
  ·have hyes : decide (xs.Pairwise (· < ·)) = true := decide_eq_true ((ascI_iff xs).1 fun j hj => unhide HA j (by have := unhide Hn; omega) (by have := unhide Hn; omega))
   clear HA
   go_wp2
   go_ret
   exact ⟨by first | rfl | (rw [hyes]; rfl), br⟩
theorem ok_ends {n : Int} {xs : List Int} (h0 : 0 < xs.length) : OkL n xs ↔ xs.Pairwise (· < ·) ∧ 0 ≤ xs.getD 0 0 ∧ xs.getD (xs.length - 1) 0 < n := by
 have g : ∀ k (hk : k < xs.length), xs.getD k 0 = xs[k] := fun k hk => by rw [List.getD_eq_getElem?_getD, List.getElem?_eq_getElem hk]; rfl
 unfold OkL
 constructor
 ·rintro ⟨h1, h2⟩
  refine ⟨h2, ?_, ?_⟩
  ·rw [g 0 h0]; exact (h1 _ (List.getElem_mem h0)).1
  ·rw [g _ (by omega)]; exact (h1 _ (List.getElem_mem (by omega))).2
 ·rintro ⟨h2, h3, h4⟩
  refine ⟨fun x hx => ?_, h2⟩
  obtain ⟨j, hj, rfl⟩ := List.getElem_of_mem hx
  rw [g 0 h0] at h3
  rw [g _ (by omega)] at h4
  have hp := List.pairwise_iff_getElem.1 h2
  constructor
  ·by_cases e : j = 0
   ·subst e; exact h3
   ·have := hp 0 j h0 hj (by omega); omega
  ·by_cases e : j = xs.length - 1
   ·have : xs[j] = xs[xs.length - 1] := by congr 1
    omega
   ·have := hp j (xs.length - 1) hj (by omega) (by omega); omega
set_option maxHeartbeats 1600000 in
set_option maxRecDepth 100000 in
theorem implSetOk (m : Int) (v : Value) (xs : List Int) (w : World) (h : RI w v xs) :
 Calls Tryz.prog 137 #[.int .i64 m, v] w fun e w' => e = .returned (.bool (decide (OkL m xs))) ∧ Below w.heap.size w w' := by
 obtain ⟨ao, ca, rfl⟩ := h.form
 have hl := h.1
 by_cases hz : xs.length = 0
 ·obtain rfl : xs = [] := List.length_eq_zero_iff.1 hz
  have ed : decide (OkL m []) = true := decide_eq_true ⟨by simp, List.Pairwise.nil⟩
  rw [ed]
  clear ed h hl hz
  go_enter Tryz.func137, Tryz.ntmps137
  go_wp2
  go_ret
  exact ⟨rfl, Below.refl _ _⟩
 ·have AS := hide fun w h => ascends_int (.slice ao xs.length ca) xs w h
  obtain ⟨w0, hw0⟩ : ∃ w0, w.alloc (.cells #[.slice ao xs.length ca, .func (.func 158) #[] #[]] 211) = w0 := ⟨_, rfl⟩
  have B0 : Below w.heap.size w w0 := hw0 ▸ (Below.refl _ _).alloc (Nat.le_refl _) _
  have L0 : Loc w0 w.heap.size #[.slice ao xs.length ca, .func (.func 158) #[] #[]] := hw0 ▸ loc_at w _ _ rfl
  have H := hide (h.below B0 (Nat.le_refl _))
  obtain ⟨g, off, rfl, c0⟩ := (unhide H).at 0 (by omega)
  obtain ⟨g', off', e, c1⟩ := (unhide H).at (xs.length - 1) (by omega)
  cases e
  have HO := hide (ok_ends (n := m) (xs := xs) (by omega))
  generalize xs.getD 0 0 = x at *
  generalize xs.getD (xs.length - 1) 0 = y at *
  have FIN : Hid (decide (OkL m xs) = (decide (xs.Pairwise (· < ·)) && (decide (0 ≤ x) && decide (y < m)))) := hide (by
   have := unhide HO
   by_cases hp : xs.Pairwise (· < ·) <;> by_cases hx : 0 ≤ x <;> by_cases hy : y < m <;> simp [hp, hx, hy, this])
  generalize decide (OkL m xs) = qq at *
  clear HO
  generalize decide (xs.Pairwise (· < ·)) = q at *
  obtain ⟨n, hn⟩ : ∃ n, xs.length = n + 1 := ⟨xs.length - 1, by omega⟩
  rw [hn] at H AS L0 hw0 hl hz c1 ⊢
  rw [Nat.add_sub_cancel] at c1
  rw [Nat.add_zero] at c0
  have hnz : decide (((n + 1 : Nat) : Int) = 0) = false := by simp; omega
  have hs1 : IntKind.i64.wrap (((n + 1 : Nat) : Int) - 1) = (n : Int) := by rw [IntKind.wrap_i64]; omega
  have hnn : ((n + 1 : Nat) : Int) - 1 = (n : Int) := by omega
  have Hn := hide hn
  clear hn h
  have q0 := L0.cell 0 rfl
  have q1 := L0.cell 1 rfl
  go_enter Tryz.func137, Tryz.ntmps137
  go_wp2_with fail
  clear hw0
  refine (unhide AS _ (unhide H)).mono ?_
  rintro _ w1 ⟨rfl, b1⟩
  have cx := b1.cell (p := ⟨g, off, none⟩) (cell_lt c0)
  have cy := b1.cell (p := ⟨g, off + n, none⟩) (cell_lt c1)
  rw [c0] at cx
  rw [c1] at cy
  have BB := B0.trans (b1.mono B0.size)
  clear H AS c0 c1 b1 q0 q1 L0 B0
  cases q with
  | false =>
   go_wp2
   go_ret
   exact ⟨by rw [unhide FIN]; rfl, BB⟩
  | true =>
   by_cases h0 : 0 ≤ x
   ·have d0 : decide (0 ≤ x) = true := by simpa using h0
    rw [d0] at FIN
    clear h0
    go_wp2
    go_ret
    exact ⟨by rw [unhide FIN]; rfl, BB⟩
   ·have d0 : decide (0 ≤ x) = false := by simpa using h0
    rw [d0] at FIN
    clear h0
    go_wp2
    go_ret
    exact ⟨by rw [unhide FIN]; rfl, BB⟩
end Go.Proofs.YtbigcmcliamenaaGreatDoor
namespace Go.Proofs.YtbigcmcliamenaaGreatDoor
open Go.RowKit

theorem list_end {xs ys : List Int} {k : Nat} (h1 : k ≤ xs.length) (h2 : k ≤ ys.length) (h : ¬ (k < xs.length ∧ k < ys.length)) (he : ∀ j, j < k → xs.getD j 0 = ys.getD j 0) : xs.length = ys.length ↔ xs = ys := by
 constructor
 ·intro e
  apply List.ext_getElem e
  intro i p q
  have := he i (by omega)
  simpa [List.getD_eq_getElem?_getD, p, q] using this
 ·rintro rfl; rfl
theorem list_off {xs ys : List Int} {k : Nat} (h : xs.getD k 0 ≠ ys.getD k 0) : xs ≠ ys := fun e => h (e ▸ rfl)

set_option maxHeartbeats 1600000 in
set_option maxRecDepth 100000 in
theorem sEqual_any (va vb : Value) (xs ys : List Int) (w : World) (ha : RI w va xs) (hb : RI w vb ys) :
 Calls Tryz.prog 113 #[va, vb] w fun e w' => e = .returned (.bool (decide (xs = ys))) ∧ ∃ n, w' = w.drewN n := by
 obtain ⟨hl, ao, ca, rfl, ha⟩ := ha
 obtain ⟨hl', bo, cb, rfl, hb⟩ := hb
 have EN := hide fun k h1 h2 h he => list_end (xs := xs) (ys := ys) (k := k) h1 h2 h he
 have OF := hide fun k h => list_off (xs := xs) (ys := ys) (k := k) h
 have HE : Hid (∀ b, (xs = ys ↔ b = true) → decide (xs = ys) = b) := hide fun b h => by
  cases b
  ·simpa using h
  ·simpa using h
 have HL : Hid (xs = ys → xs.length = ys.length) := hide fun h => h ▸ rfl
 obtain ⟨n, hn⟩ : ∃ n, xs.length = n := ⟨_, rfl⟩
 obtain ⟨m, hm⟩ : ∃ m, ys.length = m := ⟨_, rfl⟩
 rw [hn] at ha EN hl HL ⊢
 rw [hm] at hb EN hl' HL ⊢
 have Hn : Hid (xs.length = n) := hn
 have Hm : Hid (ys.length = m) := hm
 clear hn hm
 generalize decide (xs = ys) = q at *
 by_cases hnm : n = m
 ·subst hnm
  go_enter Tryz.func113, Tryz.ntmps113
  go_wp2
  go_loopw [13] (fun i wr => ∃ k : Nat, k ≤ n ∧ i = .int .i64 k ∧ (∀ j, j < k → xs.getD j 0 = ys.getD j 0) ∧ ∃ d, wr = w.drewN d) (fun i _ => n - (intOf i).toNat)
  case atStart => exact ⟨0, Nat.zero_le _, rfl, fun j hj => by omega, 0, rfl⟩
  case round =>
   obtain ⟨k, hk, rfl, he, d, rfl⟩ := hrel
   have he := hide he
   by_cases hlt : k < n
   ·rcases ha with ha | ⟨b, off, rfl, ha⟩
    ·subst ha; have := Hn.out; simp at this; omega
    rcases hb with hb | ⟨b', off', rfl, hb⟩
    ·subst hb; have := Hm.out; simp at this; omega
    have ha' := ha k hlt
    have hb' := hb k hlt
    have ER := hide fun (e : xs.getD k 0 = ys.getD k 0) j (hj : j < k + 1) => (by
     by_cases h : j = k
     ·subst h; exact e
     ·exact unhide he j (by omega) : xs.getD j 0 = ys.getD j 0)
    have OK := hide fun h => unhide OF k h
    clear ha hb
    generalize xs.getD k 0 = x at *
    generalize ys.getD k 0 = y at *
    by_cases hxy : x = y
    ·subst hxy
     replace ER := hide (unhide ER rfl)
     clear OK
     go_wp2_with fail
     go_quiet (fail)
     go_wp2
     go_roundw
     case rel => exact ⟨k + 1, by omega, by go_num, unhide ER, _, rfl⟩
     case measure => simp [intOf]; omega
    ·have hq : q = false := unhide HE false (by simp; exact unhide OK hxy)
     subst hq
     have hx : (x == y) = false := by simpa using hxy
     go_wp2_with fail
     go_quiet (fail)
     go_wp2
     go_ret
     exact ⟨rfl, d + nq, by simp [World.drewN, Nat.add_assoc]⟩
   ·have hnm := unhide EN k hk hk (by omega) (unhide he)
    have hq : q = true := unhide HE true (by simpa using hnm)
    have hc : decide ((k : Int) < (n : Int)) = false := by simp; omega
    subst hq
    clear ha hb
    go_wp2
    go_ret
    exact ⟨rfl, _, rfl⟩
 ·have hq : q = false := unhide HE false (by simp; intro e; exact hnm (unhide HL e))
  have hd : ((n : Int) == (m : Int)) = false := by simp; omega
  subst hq
  clear ha hb
  go_enter Tryz.func113, Tryz.ntmps113
  go_wp2
  go_ret
  exact ⟨rfl, 0, rfl⟩

def alikeB (n m : Int) (s t : ByteArray) (xs ys : List Int) : Bool := decide (n = m ∧ s = t ∧ xs = ys)

set_option maxHeartbeats 1600000 in
set_option maxRecDepth 100000 in
theorem qsame_any (g g' : Nat) (n m : Int) (s t : ByteArray) (va vb : Value) (xs ys : List Int) (w : World) (hg : Loc w g #[.int .i64 n, .string s, va]) (hg' : Loc w g' #[.int .i64 m, .string t, vb]) (ha : RI w va xs) (hb : RI w vb ys) :
 Calls Tryz.prog 77 #[.pointer (some ⟨g, 0, none⟩), .pointer (some ⟨g', 0, none⟩)] w fun e w' => e = .returned (.bool (alikeB n m s t xs ys)) ∧ ∃ d, w' = w.drewN d := by
 have EQ := hide fun d => sEqual_any va vb xs ys (w.drewN d) (ha) (hb)
 have x0 := hg.cell 0 rfl
 have x1 := hg.cell 1 rfl
 have x2 := hg.cell 2 rfl
 have y0 := hg'.cell 0 rfl
 have y1 := hg'.cell 1 rfl
 have y2 := hg'.cell 2 rfl
 clear ha hb hg hg'
 by_cases h1 : n = m
 ·by_cases h2 : s = t
  ·have hq : alikeB n m s t xs ys = decide (xs = ys) := by simp [alikeB, h1, h2]
   rw [hq]
   subst h1 h2
   clear hq
   go_enter Tryz.func77, Tryz.ntmps77
   go_wp2_with fail
   go_quiet (first | (go_at_call 113; exact Calls.quiet_of (unhide EQ _)))
   go_wp2
   go_ret
   exact ⟨rfl, _, rfl⟩
  ·have hq : alikeB n m s t xs ys = false := by simp [alikeB, h2]
   rw [hq]
   subst h1
   have hd := str_ne h2
   clear hq
   go_enter Tryz.func77, Tryz.ntmps77
   go_wp2_with fail
   go_quiet (fail)
   go_wp2
   go_ret
   exact ⟨rfl, _, rfl⟩
 ·have hq : alikeB n m s t xs ys = false := by simp [alikeB, h1]
  rw [hq]
  have hd : (n == m) = false := by simpa using h1
  clear hq
  go_enter Tryz.func77, Tryz.ntmps77
  go_wp2_with fail
  go_quiet (fail)
  go_wp2
  go_ret
  exact ⟨rfl, _, rfl⟩

set_option maxHeartbeats 1600000 in
set_option maxRecDepth 100000 in
theorem implQcSame (n m : Int) (s t : ByteArray) (va vb : Value) (xs ys : List Int) (w : World) (ha : RI w va xs) (hb : RI w vb ys) :
 Calls Tryz.prog 29 #[qv n s va, qv m t vb] w fun e w' => e = .returned (.bool (alikeB n m s t xs ys)) ∧ Below w.heap.size w w' := by
 have B := hide (qalloc2 w (.cells #[.int .i64 n, .string s, va] 28) (.cells #[.int .i64 m, .string t, vb] 28))
 have SM := hide (qsame_any w.heap.size (w.heap.size + 1) n m s t va vb xs ys _ ((loc_at w #[.int .i64 n, .string s, va] 28 rfl).alloc _) (loc_at (w.alloc _) #[.int .i64 m, .string t, vb] 28 (by simp)) (ha.below (unhide B) (Nat.le_refl _)) (hb.below (unhide B) (Nat.le_refl _)))
 clear ha hb
 go_enter Tryz.func29, Tryz.ntmps29
 go_wp2_with fail
 refine (unhide SM).mono ?_
 rintro e w1 ⟨rfl, d, rfl⟩
 go_wp2
 go_ret
 exact ⟨rfl, below_drewN' (unhide B) _⟩

set_option maxHeartbeats 1600000 in
set_option maxRecDepth 100000 in
theorem implQcFirst (w : World) : Calls Tryz.prog 80 #[] w fun e w' => e = .returned (qv 0 ⟨#[]⟩ (.slice none 0 0)) ∧ Below w.heap.size w w' := by
 go_enter Tryz.func80, Tryz.ntmps80
 go_wp2
 refine bodyPost_ret (v := qv 0 ⟨#[]⟩ (.slice none 0 0)) (by simp [results, Tryz.results80, go_sem]) rfl ?_
 exact ⟨rfl, qalloc _ _⟩
end Go.Proofs.YtbigcmcliamenaaGreatDoor
