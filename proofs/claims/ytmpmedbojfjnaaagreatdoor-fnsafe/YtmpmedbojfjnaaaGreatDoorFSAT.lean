/- Texts that belong together: AscInts, Conf, Qc. -/
import Derived.Test.YtmpmedbojfjnaaaGreatDoorFSAS
import Derived.Laws.EntriesVeiled
import Derived.Test.YtmpmedbojfjnaaaGreatDoorFSAD
import Derived.Deep.RegionHeld3
import Derived.Deep.DeepCutAuto
import Derived.Test.YtmpmedbojfjnaaaGreatDoorFSAC
import Derived.Test.YtmpmedbojfjnaaaGreatDoorFSAR
namespace Go.Proofs.YtmpmedbojfjnaaaGreatDoor
open Go.RowKit
set_option linter.unusedSectionVars false
variable [∀ (n : Int) (s : List Int), Decidable (OkL n s)]

set_option maxHeartbeats 400000 in
set_option maxRecDepth 100000 in
theorem isNaN_int (x : Int) (w : World) : Calls Tryz.prog 151 #[.int .i64 x] w fun e w' => e = .returned (.bool false) ∧ Below w.heap.size w w' := by
 go_enter Tryz.func151, Tryz.ntmps151
 go_wp2
 go_ret
 exact ⟨rfl, Below.refl _ _⟩
def cmpI (x y : Int) : Int := if x < y then -1 else if y < x then 1 else 0
theorem cmpI_lt (x y : Int) : cmpI x y < 0 ↔ x < y := by
 unfold cmpI
 repeat' split
 all_goals omega
set_option maxHeartbeats 800000 in
set_option maxRecDepth 100000 in
theorem compare_int (x y : Int) (w : World) : Calls Tryz.prog 115 #[.int .i64 x, .int .i64 y] w fun e w' => e = .returned (.int .i64 (cmpI x y)) ∧ Below w.heap.size w w' := by
 have NA := hide fun x w => isNaN_int x w
 unfold cmpI
 by_cases h1 : x < y
 ·rw [if_pos h1]
  have d1 : decide (x < y) = true := by simpa using h1
  clear h1
  go_enter Tryz.func115, Tryz.ntmps115
  go_wp2_with fail
  refine (unhide NA _ _).mono ?_
  rintro _ w1 ⟨rfl, b1⟩
  go_wp2_with fail
  refine (unhide NA _ _).mono ?_
  rintro _ w2 ⟨rfl, b2⟩
  go_wp2
  go_ret
  exact ⟨rfl, b1.trans (b2.mono b1.size)⟩
 ·rw [if_neg h1]
  have d1 : decide (x < y) = false := by simpa using h1
  clear h1
  by_cases h2 : y < x
  ·rw [if_pos h2]
   have d2 : decide (y < x) = true := by simpa using h2
   have d3 : decide (x > y) = true := by simpa using h2
   clear h2
   go_enter Tryz.func115, Tryz.ntmps115
   go_wp2_with fail
   refine (unhide NA _ _).mono ?_
   rintro _ w1 ⟨rfl, b1⟩
   go_wp2_with fail
   refine (unhide NA _ _).mono ?_
   rintro _ w2 ⟨rfl, b2⟩
   go_wp2
   go_ret
   exact ⟨rfl, b1.trans (b2.mono b1.size)⟩
  ·rw [if_neg h2]
   have d2 : decide (y < x) = false := by simpa using h2
   have d3 : decide (x > y) = false := by simpa using h2
   clear h2
   go_enter Tryz.func115, Tryz.ntmps115
   go_wp2_with fail
   refine (unhide NA _ _).mono ?_
   rintro _ w1 ⟨rfl, b1⟩
   go_wp2_with fail
   refine (unhide NA _ _).mono ?_
   rintro _ w2 ⟨rfl, b2⟩
   go_wp2
   go_ret
   exact ⟨rfl, b1.trans (b2.mono b1.size)⟩
def AscI (xs : List Int) : Prop := ∀ j, j + 1 < xs.length → xs.getD j 0 < xs.getD (j + 1) 0
theorem ascI_iff (xs : List Int) : AscI xs ↔ xs.Pairwise (· < ·) := by
 constructor
 ·intro h
  refine List.pairwise_iff_getElem.2 fun i j hi hj hij => ?_
  have key : ∀ d, i + d + 1 < xs.length → xs.getD i 0 < xs.getD (i + d + 1) 0 := by
   intro d
   induction d with
   | zero => exact fun hd => h i hd
   | succ d ih => exact fun hd => Int.lt_trans (ih (by omega)) (h (i + d + 1) hd)
  have := key (j - i - 1) (by omega)
  rw [show i + (j - i - 1) + 1 = j from by omega] at this
  simpa [List.getD_eq_getElem?_getD, List.getElem?_eq_getElem hi, List.getElem?_eq_getElem hj] using this
 ·intro h j hj
  have := List.pairwise_iff_getElem.1 h j (j + 1) (by omega) hj (by omega)
  simpa [List.getD_eq_getElem?_getD, List.getElem?_eq_getElem hj, List.getElem?_eq_getElem (show j < xs.length by omega)] using this
set_option maxHeartbeats 1000000 in
set_option maxRecDepth 100000 in
theorem ascends_int (v : Value) (xs : List Int) (w : World) (h : RI w v xs) :
 Calls Tryz.prog 116 #[.agg #[v, .func (.func 115) #[] #[]]] w fun e w' => e = .returned (.bool (decide (xs.Pairwise (· < ·)))) ∧ Below w.heap.size w w' := by
 obtain ⟨ao, ca, rfl⟩ := h.form
 have hl := h.1
 have H := hide h
 obtain ⟨n, hn⟩ : ∃ n, xs.length = n := ⟨_, rfl⟩
 have Hn := hide hn
 rw [hn] at hl H ⊢
 clear h hn
 obtain ⟨w0, hw0⟩ : ∃ w0, w.alloc (.cells #[.slice ao n ca, .func (.func 115) #[] #[]] 134) = w0 := ⟨_, rfl⟩
 have B0 : Below w.heap.size w w0 := hw0 ▸ (Below.refl _ _).alloc (Nat.le_refl _) _
 have L0 : Loc w0 w.heap.size #[.slice ao n ca, .func (.func 115) #[] #[]] := hw0 ▸ loc_at w _ _ rfl
 go_enter Tryz.func116, Tryz.ntmps116
 go_wp2
 clear hw0
 go_loopw [3] (fun i wr => ∃ m : Nat, 1 ≤ m ∧ m ≤ n + 1 ∧ i = .int .i64 m ∧ Hid (∀ j, j + 1 < m → j + 1 < n → xs.getD j 0 < xs.getD (j + 1) 0) ∧ Loc wr w.heap.size #[.slice ao n ca, .func (.func 115) #[] #[]] ∧ Below w.heap.size w wr) (fun i _ => n + 1 - (intOf i).toNat)
 case atStart => exact ⟨1, Nat.le_refl _, by omega, by go_num, hide (fun j hj => absurd hj (by omega)), L0, B0⟩
 case round =>
  clear L0 B0
  obtain ⟨m, hm1, hm, rfl, HA, L, br⟩ := hrel
  have q0 := L.cell 0 rfl
  have q1 := L.cell 1 rfl
  by_cases hlt : m < n
  ·obtain ⟨k, hk⟩ : ∃ k, m = k + 1 := ⟨m - 1, by omega⟩
   have hk1 : (m : Int) - 1 = (k : Int) := by omega
   have hwk : IntKind.i64.wrap (k : Int) = (k : Int) := by rw [IntKind.wrap_i64]; omega
   have hkn : k < n := by omega
   obtain ⟨g, off, rfl, cx⟩ := ((unhide H).below br (Nat.le_refl _)).at k (by rw [unhide Hn]; omega)
   obtain ⟨g', off', e, cy⟩ := ((unhide H).below br (Nat.le_refl _)).at m (by rw [unhide Hn]; omega)
   cases e
   have CT := hide fun w => compare_int (xs.getD k 0) (xs.getD m 0) w
   have HS : Hid (xs.getD k 0 < xs.getD m 0 → ∀ j, j + 1 < m + 1 → j + 1 < n → xs.getD j 0 < xs.getD (j + 1) 0) := hide fun h j hj hj2 => by
    by_cases e : j = k
    ·rw [e, ← hk]; exact h
    ·exact unhide HA j (by omega) hj2
   have HN : Hid (xs.getD m 0 ≤ xs.getD k 0 → ¬ xs.Pairwise (· < ·)) := hide fun h ha => Int.not_lt.2 h (by have := (ascI_iff xs).2 ha k (by rw [unhide Hn]; omega); rwa [← hk] at this)
   clear HA
   generalize xs.getD k 0 = x at *
   generalize xs.getD m 0 = y at *
   replace hk := hide hk
   have K : Hid (∀ w', Below wr.heap.size wr w' → (w'.cell? ⟨w.heap.size, 0, none⟩ = some (.slice (some ⟨g, off, none⟩) n ca) ∧ w'.cell? ⟨w.heap.size, 1, none⟩ = some (.func (.func 115) #[] #[])) ∧ w'.cell? ⟨g, off + k, none⟩ = some (.int .i64 x) ∧ w'.cell? ⟨g, off + m, none⟩ = some (.int .i64 y)) := hide fun w' hb => by
    have l := L.below hb L.lt
    exact ⟨⟨l.cell 0 rfl, l.cell 1 rfl⟩, (hb.cell (cell_lt cx)).trans cx, (hb.cell (cell_lt cy)).trans cy⟩
   have bA : Below wr.heap.size wr wr.drew := Below.drew (Below.refl _ _)
   have hKeep := unhide K _ bA
   clear cx cy
   go_wp2_with fail
   refine wp_region_noPanic ?_
   refine wp_region_held_drew (S := (fun w' => (w'.cell? ⟨w.heap.size, 0, none⟩ = some (.slice (some ⟨g, off, none⟩) n ca) ∧ w'.cell? ⟨w.heap.size, 1, none⟩ = some (.func (.func 115) #[] #[])) ∧ w'.cell? ⟨g, off + k, none⟩ = some (.int .i64 x) ∧ w'.cell? ⟨g, off + m, none⟩ = some (.int .i64 y))) (by kernel_rfl) hKeep (fun hHeld => ?_)
   refine tk 0 11 (v := ?_) rfl (hy := .inl ⟨by rfl, ?_⟩) (h := ?_); rotate_left
   ·intro w hSw; (try dsimp only at hSw); go_simp; (try with_reducible rfl)
   simp only [ps]
   refine tk 1 12 (v := ?_) rfl (hy := .inl ⟨by rfl, ?_⟩) (h := ?_); rotate_left
   ·intro w hSw; (try dsimp only at hSw); go_simp; (try with_reducible rfl)
   simp only [ps]
   refine tk 2 13 (v := ?_) rfl (hy := .inl ⟨by rfl, ?_⟩) (h := ?_); rotate_left
   ·intro w hSw; (try dsimp only at hSw); go_simp; (try with_reducible rfl)
   simp only [ps]
   refine tk 3 14 (v := ?_) rfl (hy := .inl ⟨by rfl, ?_⟩) (h := ?_); rotate_left
   ·intro w hSw; (try dsimp only at hSw); go_simp; (try with_reducible rfl)
   simp only [ps]
   refine tk 4 15 (v := ?_) rfl (hy := .inl ⟨by rfl, ?_⟩) (h := ?_); rotate_left
   ·intro w hSw; (try dsimp only at hSw); go_simp; (try with_reducible rfl)
   simp only [ps]
   refine tk 5 16 (v := ?_) rfl (hy := .inl ⟨by rfl, ?_⟩) (h := ?_); rotate_left
   ·intro w hSw; (try dsimp only at hSw); go_simp; (try with_reducible rfl)
   simp only [ps]
   refine tk 6 17 (v := ?_) rfl (hy := .inl ⟨by rfl, ?_⟩) (h := ?_); rotate_left
   ·intro w hSw; (try dsimp only at hSw); go_simp; (try with_reducible rfl)
   simp only [ps]
   refine tk 7 18 (v := ?_) rfl (hy := .inl ⟨by rfl, ?_⟩) (h := ?_); rotate_left
   ·intro w hSw; (try dsimp only at hSw); go_simp; (try with_reducible rfl)
   simp only [ps]
   refine tk 8 19 (v := ?_) rfl (hy := .inl ⟨by rfl, ?_⟩) (h := ?_); rotate_left
   ·intro w hSw; (try dsimp only at hSw); go_simp; (try with_reducible rfl)
   simp only [ps]
   refine tk 9 20 (v := ?_) rfl (hy := .inl ⟨by rfl, ?_⟩) (h := ?_); rotate_left
   ·intro w hSw; (try dsimp only at hSw); go_simp; (try with_reducible rfl)
   simp only [ps]
   refine tk 10 21 (v := ?_) rfl (hy := .inl ⟨by rfl, ?_⟩) (h := ?_); rotate_left
   ·intro w hSw; (try dsimp only at hSw); go_simp; (try with_reducible rfl)
   simp only [ps]
   refine tk 11 22 (v := ?_) rfl (hy := .inl ⟨by rfl, ?_⟩) (h := ?_); rotate_left
   ·intro w hSw; (try dsimp only at hSw); go_simp; (try with_reducible rfl)
   simp only [ps]
   refine tk 12 23 (v := ?_) rfl (hy := .inl ⟨by rfl, ?_⟩) (h := ?_); rotate_left
   ·intro w hSw; (try dsimp only at hSw); go_simp; (try with_reducible rfl)
   simp only [ps]
   refine ready_at (i := 13) rfl (by kernel_rfl) (fun KK hKK => ?_)
   go_simp
   refine (unhide CT _).mono ?_
   rintro _ wa ⟨rfl, ba⟩
   have bB : Below wr.heap.size wr wa := bA.trans ba
   clear hHeld
   refine hKK.out _ _ (unhide K _ bB) (fun hHeld => ?_)
   clear hKK KK
   refine tk 14 25 (v := ?_) rfl (hy := .inl ⟨by rfl, ?_⟩) (h := ?_); rotate_left
   ·intro w hSw; (try dsimp only at hSw); go_simp; (try with_reducible rfl)
   simp only [ps]
   clear hHeld
   refine wpAnyH_done (by kernel_rfl) ?_ _
   refine NoPanic.normal ?_
   have LB := L.below bB L.lt
   have BB := br.trans (bB.mono br.size)
   have hcm := hide (cmpI_lt x y)
   generalize cmpI x y = q at *
   by_cases hq : q < 0
   ·have HS := hide (unhide HS ((unhide hcm).1 hq))
    have hq0 : ¬ 0 ≤ q := by omega
    clear hcm HN
    go_wp2
    go_roundw
    case rel => exact ⟨m + 1, by omega, by omega, by go_num, HS, LB, BB⟩
    case measure => simp [intOf]; omega
   ·have hno : decide (xs.Pairwise (· < ·)) = false := decide_eq_false (unhide HN (Int.not_lt.1 fun h => hq ((unhide hcm).2 h)))
    have hq0 : 0 ≤ q := by omega
    clear hcm HS HN
    go_wp2
    go_ret
    exact ⟨by first | rfl | (rw [hno]; rfl), BB⟩
  ·have hyes : decide (xs.Pairwise (· < ·)) = true := decide_eq_true ((ascI_iff xs).1 fun j hj => unhide HA j (by have := unhide Hn; omega) (by have := unhide Hn; omega))
   clear HA
   go_wp2
   go_ret
   exact ⟨by first | rfl | (rw [hyes]; rfl), br⟩
theorem ok_ends {n : Int} {xs : List Int} (h0 : 0 < xs.length) : OkL n xs ↔ xs.Pairwise (· < ·) ∧ 0 ≤ xs.getD 0 0 ∧ xs.getD (xs.length - 1) 0 < n := by
 have g : ∀ k (hk : k < xs.length), xs.getD k 0 = xs[k] := fun k hk => by rw [List.getD_eq_getElem?_getD, List.getElem?_eq_getElem hk]; rfl
 unfold OkL
 constructor
 ·rintro ⟨h1, h2⟩
  refine ⟨h2, ?_, ?_⟩
  ·rw [g 0 h0]; exact (h1 _ (List.getElem_mem h0)).1
  ·rw [g _ (by omega)]; exact (h1 _ (List.getElem_mem (by omega))).2
 ·rintro ⟨h2, h3, h4⟩
  refine ⟨fun x hx => ?_, h2⟩
  obtain ⟨j, hj, rfl⟩ := List.getElem_of_mem hx
  rw [g 0 h0] at h3
  rw [g _ (by omega)] at h4
  have hp := List.pairwise_iff_getElem.1 h2
  constructor
  ·by_cases e : j = 0
   ·subst e; exact h3
   ·have := hp 0 j h0 hj (by omega); omega
  ·by_cases e : j = xs.length - 1
   ·have : xs[j] = xs[xs.length - 1] := by congr 1
    omega
   ·have := hp j (xs.length - 1) hj (by omega) (by omega); omega
set_option maxHeartbeats 1600000 in
set_option maxRecDepth 100000 in
theorem implSetOk (m : Int) (v : Value) (xs : List Int) (w : World) (h : RI w v xs) :
 Calls Tryz.prog 50 #[.int .i64 m, v] w fun e w' => e = .returned (.bool (decide (OkL m xs))) ∧ Below w.heap.size w w' := by
 obtain ⟨ao, ca, rfl⟩ := h.form
 have hl := h.1
 by_cases hz : xs.length = 0
 ·obtain rfl : xs = [] := List.length_eq_zero_iff.1 hz
  have ed : decide (OkL m []) = true := decide_eq_true ⟨by simp, List.Pairwise.nil⟩
  rw [ed]
  clear ed h hl hz
  go_enter Tryz.func50, Tryz.ntmps50
  go_wp2
  go_ret
  exact ⟨rfl, Below.refl _ _⟩
 ·have AS := hide fun w h => ascends_int (.slice ao xs.length ca) xs w h
  obtain ⟨w0, hw0⟩ : ∃ w0, w.alloc (.cells #[.slice ao xs.length ca, .func (.func 115) #[] #[]] 134) = w0 := ⟨_, rfl⟩
  have B0 : Below w.heap.size w w0 := hw0 ▸ (Below.refl _ _).alloc (Nat.le_refl _) _
  have L0 : Loc w0 w.heap.size #[.slice ao xs.length ca, .func (.func 115) #[] #[]] := hw0 ▸ loc_at w _ _ rfl
  have H := hide (h.below B0 (Nat.le_refl _))
  obtain ⟨g, off, rfl, c0⟩ := (unhide H).at 0 (by omega)
  obtain ⟨g', off', e, c1⟩ := (unhide H).at (xs.length - 1) (by omega)
  cases e
  have HO := hide (ok_ends (n := m) (xs := xs) (by omega))
  generalize xs.getD 0 0 = x at *
  generalize xs.getD (xs.length - 1) 0 = y at *
  have FIN : Hid (decide (OkL m xs) = (decide (xs.Pairwise (· < ·)) && (decide (0 ≤ x) && decide (y < m)))) := hide (by
   have := unhide HO
   by_cases hp : xs.Pairwise (· < ·) <;> by_cases hx : 0 ≤ x <;> by_cases hy : y < m <;> simp [hp, hx, hy, this])
  generalize decide (OkL m xs) = qq at *
  clear HO
  generalize decide (xs.Pairwise (· < ·)) = q at *
  obtain ⟨n, hn⟩ : ∃ n, xs.length = n + 1 := ⟨xs.length - 1, by omega⟩
  rw [hn] at H AS L0 hw0 hl hz c1 ⊢
  rw [Nat.add_sub_cancel] at c1
  rw [Nat.add_zero] at c0
  have hnz : decide (((n + 1 : Nat) : Int) = 0) = false := by simp; omega
  have hs1 : IntKind.i64.wrap (((n + 1 : Nat) : Int) - 1) = (n : Int) := by rw [IntKind.wrap_i64]; omega
  have hnn : ((n + 1 : Nat) : Int) - 1 = (n : Int) := by omega
  have Hn := hide hn
  clear hn h
  have q0 := L0.cell 0 rfl
  have q1 := L0.cell 1 rfl
  go_enter Tryz.func50, Tryz.ntmps50
  go_wp2_with fail
  clear hw0
  refine (unhide AS _ (unhide H)).mono ?_
  rintro _ w1 ⟨rfl, b1⟩
  have cx := b1.cell (p := ⟨g, off, none⟩) (cell_lt c0)
  have cy := b1.cell (p := ⟨g, off + n, none⟩) (cell_lt c1)
  rw [c0] at cx
  rw [c1] at cy
  have BB := B0.trans (b1.mono B0.size)
  clear H AS c0 c1 b1 q0 q1 L0 B0
  cases q with
  | false =>
   go_wp2
   go_ret
   exact ⟨by rw [unhide FIN]; rfl, BB⟩
  | true =>
   by_cases h0 : 0 ≤ x
   ·have d0 : decide (0 ≤ x) = true := by simpa using h0
    rw [d0] at FIN
    clear h0
    go_wp2
    go_ret
    exact ⟨by rw [unhide FIN]; rfl, BB⟩
   ·have d0 : decide (0 ≤ x) = false := by simpa using h0
    rw [d0] at FIN
    clear h0
    go_wp2
    go_ret
    exact ⟨by rw [unhide FIN]; rfl, BB⟩
end Go.Proofs.YtmpmedbojfjnaaaGreatDoor
namespace Go.Proofs.YtmpmedbojfjnaaaGreatDoor
open Go.RowKit
set_option linter.unusedSectionVars false
variable [∀ (a b c d : Int), Decidable (Ok4 a b c d)]

abbrev cv (n f : Int) : Value := .agg #[.int .i64 n, .int .i64 f]
def COk (n f : Int) : Prop := (4 ≤ n ∧ n ≤ 7) ∧ 1 ≤ f ∧ f ≤ 6
variable [∀ (n f : Int), Decidable (COk n f)]
def faultsOf (n f : Int) : Int := if COk n f then (n - 1) / 3 else 0
def quorumOf (n f : Int) : Int := if COk n f then n - (n - 1) / 3 else 0
theorem cok_cases {n f : Int} (h : COk n f) : n = 4 ∨ n = 5 ∨ n = 6 ∨ n = 7 := by obtain ⟨h, _⟩ := h; omega
theorem conf_below (w : World) (o : Obj) : Below w.heap.size w (w.alloc o) := (Below.refl _ _).alloc (Nat.le_refl _) _

set_option maxHeartbeats 800000 in
set_option maxRecDepth 100000 in
theorem specConfOk (n f : Int) (w : World) :
 Calls Tryz.prog 113 #[cv n f] w fun e w' => e = .returned (.bool (decide (COk n f))) ∧ Below w.heap.size w w' := by
 by_cases h1 : 4 ≤ n ∧ n ≤ 7
 ·by_cases h2 : 1 ≤ f ∧ f ≤ 6
  ·have hd : decide (COk n f) = true := by simp [COk, h1, h2]
   rw [hd]
   go_enter Tryz.func113, Tryz.ntmps113
   go_wp2_with (first | (go_at_call 77; refine (in_yes _ _ _ _ (by omega) (by omega)).mono ?_; rintro e w' ⟨rfl, rfl⟩))
   go_ret
   exact ⟨rfl, conf_below _ _⟩
  ·have hd : decide (COk n f) = false := by simp [COk, h1]; omega
   rw [hd]
   go_enter Tryz.func113, Tryz.ntmps113
   go_wp2_with fail
   refine (in_yes _ _ _ _ (by omega) (by omega)).mono ?_
   rintro e w' ⟨rfl, rfl⟩
   go_wp2_with fail
   refine (in_no _ _ _ _ (by omega)).mono ?_
   rintro e w' ⟨rfl, rfl⟩
   go_wp2
   go_ret
   exact ⟨rfl, conf_below _ _⟩
 ·have hd : decide (COk n f) = false := by simp only [decide_eq_false_iff_not]; rintro ⟨h, _⟩; exact h1 h
  rw [hd]
  go_enter Tryz.func113, Tryz.ntmps113
  go_wp2_with fail
  refine (in_no _ _ _ _ (by omega)).mono ?_
  rintro e w' ⟨rfl, rfl⟩
  go_wp2
  go_ret
  exact ⟨rfl, conf_below _ _⟩

set_option maxHeartbeats 800000 in
set_option maxRecDepth 100000 in
theorem implConfOk (n f : Int) (w : World) :
 Calls Tryz.prog 84 #[cv n f] w fun e w' => e = .returned (.bool (decide (COk n f))) ∧ Below w.heap.size w w' := by
 by_cases h1 : 4 ≤ n ∧ n ≤ 7
 ·by_cases h2 : 1 ≤ f ∧ f ≤ 6
  ·have hd : decide (COk n f) = true := by simp [COk, h1, h2]
   rw [hd]
   go_enter Tryz.func84, Tryz.ntmps84
   go_wp2_with (first | (go_at_call 75; refine (within_yes _ _ _ _ (by omega) (by omega)).mono ?_; rintro e w' ⟨rfl, rfl⟩))
   go_ret
   exact ⟨rfl, conf_below _ _⟩
  ·have hd : decide (COk n f) = false := by simp [COk, h1]; omega
   rw [hd]
   go_enter Tryz.func84, Tryz.ntmps84
   go_wp2_with fail
   refine (within_yes _ _ _ _ (by omega) (by omega)).mono ?_
   rintro e w' ⟨rfl, rfl⟩
   go_wp2_with fail
   refine (within_no _ _ _ _ (by omega)).mono ?_
   rintro e w' ⟨rfl, rfl⟩
   go_wp2
   go_ret
   exact ⟨rfl, conf_below _ _⟩
 ·have hd : decide (COk n f) = false := by simp only [decide_eq_false_iff_not]; rintro ⟨h, _⟩; exact h1 h
  rw [hd]
  go_enter Tryz.func84, Tryz.ntmps84
  go_wp2_with fail
  refine (within_no _ _ _ _ (by omega)).mono ?_
  rintro e w' ⟨rfl, rfl⟩
  go_wp2
  go_ret
  exact ⟨rfl, conf_below _ _⟩

set_option maxHeartbeats 800000 in
set_option maxRecDepth 100000 in
theorem implFaults (n f : Int) (w : World) :
 Calls Tryz.prog 160 #[cv n f] w fun e w' => e = .returned (.int .i64 (faultsOf n f)) ∧ Below w.heap.size w w' := by
 have OK := hide fun w => implConfOk n f w
 by_cases h : COk n f
 ·have hd : decide (COk n f) = true := by simpa using h
  rw [hd] at OK
  have hf : faultsOf n f = (n - 1) / 3 := by simp [faultsOf, h]
  rw [hf]
  have L0 := loc_at w #[.int .i64 n, .int .i64 f] 25 rfl
  rcases cok_cases h with rfl | rfl | rfl | rfl
  all_goals
   clear h hd hf
   go_enter Tryz.func160, Tryz.ntmps160
   go_wp2_with fail
   refine (unhide OK _).mono ?_
   rintro e w1 ⟨rfl, b1⟩
   have L1 := L0.below b1 L0.lt
   have B1 := (conf_below _ _).trans (b1.mono (by simp))
   have p0 := L1.cell 0 rfl
   have p1 := L1.cell 1 rfl
   clear L0 b1
   go_wp2
   go_ret
   exact ⟨by go_num, B1⟩
 ·have hd : decide (COk n f) = false := by simpa using h
  rw [hd] at OK
  have hf : faultsOf n f = 0 := by simp [faultsOf, h]
  rw [hf]
  clear h hd hf
  go_enter Tryz.func160, Tryz.ntmps160
  go_wp2_with fail
  refine (unhide OK _).mono ?_
  rintro e w1 ⟨rfl, b1⟩
  go_wp2
  go_ret
  exact ⟨rfl, (conf_below _ _).trans (b1.mono (by simp))⟩

set_option maxHeartbeats 800000 in
set_option maxRecDepth 100000 in
theorem specQuorum (n f : Int) (w : World) :
 Calls Tryz.prog 134 #[cv n f] w fun e w' => e = .returned (.int .i64 (quorumOf n f)) ∧ Below w.heap.size w w' := by
 have OK := hide fun w => specConfOk n f w
 by_cases h : COk n f
 ·have hd : decide (COk n f) = true := by simpa using h
  rw [hd] at OK
  have hf : quorumOf n f = n - (n - 1) / 3 := by simp [quorumOf, h]
  rw [hf]
  have L0 := loc_at w #[.int .i64 n, .int .i64 f] 25 rfl
  rcases cok_cases h with rfl | rfl | rfl | rfl
  all_goals
   clear h hd hf
   go_enter Tryz.func134, Tryz.ntmps134
   go_wp2_with fail
   refine (unhide OK _).mono ?_
   rintro e w1 ⟨rfl, b1⟩
   have L1 := L0.below b1 L0.lt
   have B1 := (conf_below _ _).trans (b1.mono (by simp))
   have p0 := L1.cell 0 rfl
   have p1 := L1.cell 1 rfl
   clear L0 b1
   go_wp2
   go_ret
   exact ⟨by go_num, B1⟩
 ·have hd : decide (COk n f) = false := by simpa using h
  rw [hd] at OK
  have hf : quorumOf n f = 0 := by simp [quorumOf, h]
  rw [hf]
  clear h hd hf
  go_enter Tryz.func134, Tryz.ntmps134
  go_wp2_with fail
  refine (unhide OK _).mono ?_
  rintro e w1 ⟨rfl, b1⟩
  go_wp2
  go_ret
  exact ⟨rfl, (conf_below _ _).trans (b1.mono (by simp))⟩

set_option maxHeartbeats 800000 in
set_option maxRecDepth 100000 in
theorem implQuorum (n f : Int) (w : World) :
 Calls Tryz.prog 138 #[cv n f] w fun e w' => e = .returned (.int .i64 (quorumOf n f)) ∧ Below w.heap.size w w' := by
 have OK := hide fun w => implConfOk n f w
 have FA := hide fun w => implFaults n f w
 by_cases h : COk n f
 ·have hd : decide (COk n f) = true := by simpa using h
  rw [hd] at OK
  have hf : quorumOf n f = n - faultsOf n f := by simp [quorumOf, faultsOf, h]
  rw [hf]
  have h1 := h.1.1
  have h2 := h.1.2
  have hg : faultsOf n f = (n - 1) / 3 := by simp [faultsOf, h]
  have h3 : 1 ≤ faultsOf n f ∧ faultsOf n f ≤ 2 := by omega
  obtain ⟨h3, h4⟩ := h3
  clear hg hf hd h
  generalize faultsOf n f = q at *
  have L0 := loc_at w #[.int .i64 n, .int .i64 f] 25 rfl
  go_enter Tryz.func138, Tryz.ntmps138
  go_wp2_with fail
  refine (unhide OK _).mono ?_
  rintro e w1 ⟨rfl, b1⟩
  have L1 := L0.below b1 L0.lt
  have B1 : Below w.heap.size w w1 := (conf_below _ _).trans (b1.mono (by simp))
  have K : Hid (∀ w', Below w1.heap.size w1 w' → Below w1.heap.size w1 w' ∧ w'.cell? ⟨w.heap.size, 0, none⟩ = some (.int .i64 n) ∧ w'.cell? ⟨w.heap.size, 1, none⟩ = some (.int .i64 f)) := hide fun w' hb' =>
   ⟨hb', (L1.below hb' L1.lt).cell 0 rfl, (L1.below hb' L1.lt).cell 1 rfl⟩
  have bA : Below w1.heap.size w1 w1.drew := Below.drew (Below.refl _ _)
  have hKeep := unhide K _ bA
  clear L0 L1 b1
  go_upto_region 3 with fail
  first | go_region_held3 (fun w' => Below w1.heap.size w1 w' ∧ w'.cell? ⟨w.heap.size, 0, none⟩ = some (.int .i64 n) ∧ w'.cell? ⟨w.heap.size, 1, none⟩ = some (.int .i64 f)) (exact hKeep) (first
   | (go_at_call 160; have hgo := bA; refine (unhide FA _).mono ?_; rintro e wa ⟨rfl, ba⟩
      have bB : Below w1.heap.size w1 wa := bA.trans (ba.mono bA.size)
      have hKeep := unhide K _ bB; clear bA hgo ba)) | fail
  all_goals
   go_wp2
   go_ret
   exact ⟨by simp only [IntKind.wrap_i64]; simp; omega, B1.trans (bB.mono B1.size)⟩
 ·have hd : decide (COk n f) = false := by simpa using h
  rw [hd] at OK
  have hf : quorumOf n f = 0 := by simp [quorumOf, h]
  rw [hf]
  clear h hd hf
  go_enter Tryz.func138, Tryz.ntmps138
  go_wp2_with fail
  refine (unhide OK _).mono ?_
  rintro e w1 ⟨rfl, b1⟩
  go_wp2
  go_ret
  exact ⟨rfl, (conf_below _ _).trans (b1.mono (by simp))⟩

end Go.Proofs.YtmpmedbojfjnaaaGreatDoor
namespace Go.Proofs.YtmpmedbojfjnaaaGreatDoor
open Go.RowKit

abbrev qv (n : Int) (s : ByteArray) (v : Value) : Value := .agg #[.int .i64 n, .string s, v]
theorem qalloc (w : World) (o : Obj) : Below w.heap.size w (w.alloc o) := (Below.refl _ _).alloc (Nat.le_refl _) _
theorem qalloc2 (w : World) (o p : Obj) : Below w.heap.size w ((w.alloc o).alloc p) := ((Below.refl _ _).alloc (Nat.le_refl _) _).alloc (by simp) _
end Go.Proofs.YtmpmedbojfjnaaaGreatDoor
