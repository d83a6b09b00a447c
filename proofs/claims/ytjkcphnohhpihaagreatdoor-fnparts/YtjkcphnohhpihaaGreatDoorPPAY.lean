/- Lemmas; their conditions stand in each statement. -/
import Derived.Laws.CopyOwn
import Derived.Test.YtjkcphnohhpihaaGreatDoorPPAX
set_option maxRecDepth 100000
set_option maxHeartbeats 8000000
set_option linter.unusedSectionVars false
namespace Go.Proofs.YtjkcphnohhpihaaGreatDoor
section
open Go.RowKit
variable [∀ (n : Int) (s : List Int), Decidable (OkL n s)]
theorem isNaN_int (x : Int) (w : World) : Calls Tryz.prog 114 #[.int .i64 x] w fun e w' => e = .returned (.bool false) ∧ Below w.heap.size w w' := by
 go_enter Tryz.func114, Tryz.ntmps114
 go_wp2
 go_ret
 exact ⟨rfl, Below.refl _ _⟩
theorem cmpI_lt (x y : Int) : cmpI x y < 0 ↔ x < y := by
 unfold cmpI
 repeat' split
 all_goals omega
theorem compare_int (x y : Int) (w : World) : Calls Tryz.prog 90 #[.int .i64 x,.int .i64 y] w fun e w' => e = .returned (.int .i64 (cmpI x y)) ∧ Below w.heap.size w w' := by
 have NA:=hide fun x w => isNaN_int x w
 unfold cmpI
 by_cases h1 : x < y
 ·rw [if_pos h1]
  have d1 : decide (x < y) = true:=by simpa using h1
  clear h1
  go_enter Tryz.func90, Tryz.ntmps90
  go_wp2_with fail
  refine (NA.out _ _).mono ?_
  rintro _ w1 ⟨rfl, b1⟩
  go_wp2_with fail
  refine (NA.out _ _).mono ?_
  rintro _ w2 ⟨rfl, b2⟩
  go_wp2
  go_ret
  exact ⟨rfl, bu b1 b2⟩
 rw [if_neg h1]
 have d1 : decide (x < y) = false:=by simpa using h1
 clear h1
 by_cases h2 : y < x
 ·rw [if_pos h2]
  have d2 : decide (y < x) = true:=by simpa using h2
  have d3 : decide (x > y) = true:=by simpa using h2
  clear h2
  go_enter Tryz.func90, Tryz.ntmps90
  go_wp2_with fail
  refine (NA.out _ _).mono ?_
  rintro _ w1 ⟨rfl, b1⟩
  go_wp2_with fail
  refine (NA.out _ _).mono ?_
  rintro _ w2 ⟨rfl, b2⟩
  go_wp2
  go_ret
  exact ⟨rfl, bu b1 b2⟩
 rw [if_neg h2]
 have d2 : decide (y < x) = false:=by simpa using h2
 have d3 : decide (x > y) = false:=by simpa using h2
 clear h2
 go_enter Tryz.func90, Tryz.ntmps90
 go_wp2_with fail
 refine (NA.out _ _).mono ?_
 rintro _ w1 ⟨rfl, b1⟩
 go_wp2_with fail
 refine (NA.out _ _).mono ?_
 rintro _ w2 ⟨rfl, b2⟩
 go_wp2
 go_ret
 exact ⟨rfl, bu b1 b2⟩
def AscI (xs : List Int) : Prop := ∀ j, j + 1 < xs.length → xs.getD j 0 < xs.getD (j + 1) 0
theorem ascI_iff (xs : List Int) : AscI xs ↔ xs.Pairwise (· < ·) := by
 constructor
 ·intro h
  refine List.pairwise_iff_getElem.2 fun i j hi hj hij => ?_
  have key : ∀ d, i + d + 1 < xs.length → xs.getD i 0 < xs.getD (i + d + 1) 0:=by
   intro d
   induction d with
   | zero => exact fun hd => h i hd
   | succ d ih => exact fun hd => Int.lt_trans (ih (by omega)) (h (i + d + 1) hd)
  have:=key (j - i - 1) (by omega)
  rw [show i + (j - i - 1) + 1 = j from by omega] at this
  simpa [List.getD_eq_getElem?_getD, List.getElem?_eq_getElem hi, List.getElem?_eq_getElem hj] using this
 intro h j hj
 have:=List.pairwise_iff_getElem.1 h j (j + 1) (by omega) hj (by omega)
 simpa [List.getD_eq_getElem?_getD, List.getElem?_eq_getElem hj, List.getElem?_eq_getElem (show j < xs.length by omega)] using this
theorem ascends_int (v : Value) (xs : List Int) (w : World) (h : RI w v xs) :
 Calls Tryz.prog 91 #[.agg #[v,.func (.func 90) #[] #[]]] w fun e w' => e = .returned (.bool (decide (xs.Pairwise (· < ·)))) ∧ Below w.heap.size w w' := by
 obtain ⟨ao, ca, rfl⟩:=h.form
 have hl:=h.1
 have H:=hide h
 obtain ⟨n, hn⟩ : ∃ n, xs.length = n:=⟨_, rfl⟩
 have Hn:=hide hn
 rw [hn] at hl H ⊢
 clear h hn
 obtain ⟨w0, hw0⟩ : ∃ w0, w.alloc (.cells #[.slice ao n ca,.func (.func 90) #[] #[]] 111) = w0:=⟨_, rfl⟩
 have B0 : Below w.heap.size w w0:=hw0 ▸ (Below.refl _ _).alloc (Nat.le_refl _) _
 have L0 : Loc w0 w.heap.size #[.slice ao n ca,.func (.func 90) #[] #[]]:=hw0 ▸ loc_at w _ _ rfl
 go_enter Tryz.func91, Tryz.ntmps91
 go_wp2
 clear hw0
 go_loopw [3] (fun i wr => ∃ m : Nat, 1 ≤ m ∧ m ≤ n + 1 ∧ i = .int .i64 m ∧ Hid (∀ j, j + 1 < m → j + 1 < n → xs.getD j 0 < xs.getD (j + 1) 0) ∧ Loc wr w.heap.size #[.slice ao n ca,.func (.func 90) #[] #[]] ∧ Below w.heap.size w wr) (fun i _ => n + 1 - (intOf i).toNat)
 case atStart => exact ⟨1, Nat.le_refl _, by omega, by go_num, hide (fun j hj => absurd hj (by omega)), L0, B0⟩
 case round =>
  clear L0 B0
  obtain ⟨m, hm1, hm, rfl, HA, L, br⟩:=hrel
  have q0:=L.cell 0 rfl
  have q1:=L.cell 1 rfl
  by_cases hlt : m < n
  ·obtain ⟨k, hk⟩ : ∃ k, m = k + 1:=⟨m - 1, by omega⟩
   have hk1 : (m : Int) - 1 = (k : Int):=by omega
   have hwk : IntKind.i64.wrap (k : Int) = (k : Int):=by rw [IntKind.wrap_i64]; omega
   have hkn : k < n:=by omega
   obtain ⟨g, off, rfl, cx⟩:=(H.out.below br).at k (by rw [Hn.out]; omega)
   obtain ⟨g', off', e, cy⟩:=(H.out.below br).at m (by rw [Hn.out]; omega)
   cases e
   have CT:=hide fun w => compare_int (xs.getD k 0) (xs.getD m 0) w
   have HS : Hid (xs.getD k 0 < xs.getD m 0 → ∀ j, j + 1 < m + 1 → j + 1 < n → xs.getD j 0 < xs.getD (j + 1) 0):=hide fun h j hj hj2 => by
    by_cases e : j = k
    ·rw [e, ← hk]; exact h
    exact HA.out j (by omega) hj2
   have HN : Hid (xs.getD m 0 ≤ xs.getD k 0 → ¬ xs.Pairwise (· < ·)):=hide fun h ha => Int.not_lt.2 h (by have:=(ascI_iff xs).2 ha k (by rw [Hn.out]; omega); rwa [← hk] at this)
   clear HA
   generalize xs.getD k 0 = x at *
   generalize xs.getD m 0 = y at *
   replace hk:=hide hk
   have K : Hid (∀ w', Below wr.heap.size wr w' → (w'.cell? ⟨w.heap.size, 0, none⟩ = some (.slice (some ⟨g, off, none⟩) n ca) ∧ w'.cell? ⟨w.heap.size, 1, none⟩ = some (.func (.func 90) #[] #[])) ∧ w'.cell? ⟨g, off + k, none⟩ = some (.int .i64 x) ∧ w'.cell? ⟨g, off + m, none⟩ = some (.int .i64 y)):=hide fun w' hb => by
    have l:=L.up hb
    exact ⟨⟨l.cell 0 rfl, l.cell 1 rfl⟩, (hb.cell (cell_lt cx)).trans cx, (hb.cell (cell_lt cy)).trans cy⟩
   have bA : Below wr.heap.size wr wr.drew:=Below.drew (Below.refl _ _)
   have hKeep:=K.out _ bA
   clear cx cy
   go_wp2_with fail
   refine wp_region_noPanic ?_
   refine wp_region_held_drew (S := (fun w' => (w'.cell? ⟨w.heap.size, 0, none⟩ = some (.slice (some ⟨g, off, none⟩) n ca) ∧ w'.cell? ⟨w.heap.size, 1, none⟩ = some (.func (.func 90) #[] #[])) ∧ w'.cell? ⟨g, off + k, none⟩ = some (.int .i64 x) ∧ w'.cell? ⟨g, off + m, none⟩ = some (.int .i64 y))) (by kernel_rfl) hKeep (fun hHeld => ?_)
   refine tx 0 11 ?_
   refine tx 1 12 ?_
   refine tx 2 13 ?_
   refine tx 3 14 ?_
   refine tx 4 15 ?_
   refine tx 5 16 ?_
   refine tx 6 17 ?_
   refine tx 7 18 ?_
   refine tx 8 19 ?_
   refine tx 9 20 ?_
   refine tx 10 21 ?_
   refine tx 11 22 ?_
   refine tx 12 23 ?_
   refine rd 13 rfl (fun KK hKK => ?_)
   go_simp
   refine (CT.out _).mono ?_
   rintro _ wa ⟨rfl, ba⟩
   have bB : Below wr.heap.size wr wa:=bA.trans ba
   clear hHeld
   refine hKK.out _ _ (K.out _ bB) (fun hHeld => ?_)
   clear hKK KK
   refine tx 14 25 ?_
   clear hHeld
   refine wdn ?_
   have LB:=L.up bB
   have BB:=bu br bB
   have hcm:=hide (cmpI_lt x y)
   generalize cmpI x y = q at *
   by_cases hq : q < 0
   ·have HS:=hide (HS.out (hcm.out.1 hq))
    have hq0 : ¬ 0 ≤ q:=by omega
    clear hcm HN
    go_wp2
    go_roundw
    case rel => exact ⟨m + 1, by omega, by omega, by go_num, HS, LB, BB⟩
    case measure => simp [intOf]; omega
   have hno : decide (xs.Pairwise (· < ·)) = false:=decide_eq_false (HN.out (Int.not_lt.1 fun h => hq (hcm.out.2 h)))
   have hq0 : 0 ≤ q:=by omega
   clear hcm HS HN
   go_wp2
   go_ret
   exact ⟨by first | rfl | (rw [hno]; rfl), BB⟩
  have hyes : decide (xs.Pairwise (· < ·)) = true:=decide_eq_true ((ascI_iff xs).1 fun j hj => HA.out j (by have:=Hn.out; omega) (by have:=Hn.out; omega))
  clear HA
  go_wp2
  go_ret
  exact ⟨by first | rfl | (rw [hyes]; rfl), br⟩
theorem ok_ends {n : Int} {xs : List Int} (h0 : 0 < xs.length) : OkL n xs ↔ xs.Pairwise (· < ·) ∧ 0 ≤ xs.getD 0 0 ∧ xs.getD (xs.length - 1) 0 < n := by
 have g : ∀ k (hk : k < xs.length), xs.getD k 0 = xs[k]:=fun k hk => by rw [List.getD_eq_getElem?_getD, List.getElem?_eq_getElem hk]; rfl
 unfold OkL
 constructor
 ·rintro ⟨h1, h2⟩
  refine ⟨h2, ?_, ?_⟩
  ·rw [g 0 h0]; exact (h1 _ (List.getElem_mem h0)).1
  rw [g _ (by omega)]; exact (h1 _ (List.getElem_mem (by omega))).2
 rintro ⟨h2, h3, h4⟩
 refine ⟨fun x hx => ?_, h2⟩
 obtain ⟨j, hj, rfl⟩:=List.getElem_of_mem hx
 rw [g 0 h0] at h3
 rw [g _ (by omega)] at h4
 have hp:=List.pairwise_iff_getElem.1 h2
 constructor
 ·by_cases e : j = 0
  ·subst e; exact h3
  have:=hp 0 j h0 hj (by omega); omega
 by_cases e : j = xs.length - 1
 ·have : xs[j] = xs[xs.length - 1]:=by congr 1
  omega
 have:=hp j (xs.length - 1) hj (by omega) (by omega); omega
theorem implSetOk (m : Int) (v : Value) (xs : List Int) (w : World) (h : RI w v xs) :
 Calls Tryz.prog 41 #[.int .i64 m, v] w fun e w' => e = .returned (.bool (decide (OkL m xs))) ∧ Below w.heap.size w w' := by
 obtain ⟨ao, ca, rfl⟩:=h.form
 have hl:=h.1
 by_cases hz : xs.length = 0
 ·obtain rfl : xs = []:=List.length_eq_zero_iff.1 hz
  have ed : decide (OkL m []) = true:=decide_eq_true ⟨by simp, List.Pairwise.nil⟩
  rw [ed]
  clear ed h hl hz
  go_enter Tryz.func41, Tryz.ntmps41
  go_wp2
  go_ret
  exact ⟨rfl, Below.refl _ _⟩
 have AS:=hide fun w h => ascends_int (.slice ao xs.length ca) xs w h
 obtain ⟨w0, hw0⟩ : ∃ w0, w.alloc (.cells #[.slice ao xs.length ca,.func (.func 90) #[] #[]] 111) = w0:=⟨_, rfl⟩
 have B0 : Below w.heap.size w w0:=hw0 ▸ (Below.refl _ _).alloc (Nat.le_refl _) _
 have L0 : Loc w0 w.heap.size #[.slice ao xs.length ca,.func (.func 90) #[] #[]]:=hw0 ▸ loc_at w _ _ rfl
 have H:=hide (h.below B0)
 obtain ⟨g, off, rfl, c0⟩:=H.out.at 0 (by omega)
 obtain ⟨g', off', e, c1⟩:=H.out.at (xs.length - 1) (by omega)
 cases e
 have HO:=hide (ok_ends (n:=m) (xs:=xs) (by omega))
 generalize xs.getD 0 0 = x at *
 generalize xs.getD (xs.length - 1) 0 = y at *
 have FIN : Hid (decide (OkL m xs) = (decide (xs.Pairwise (· < ·)) && (decide (0 ≤ x) && decide (y < m)))):=hide (by
  have:=HO.out
  by_cases hp : xs.Pairwise (· < ·) <;> by_cases hx : 0 ≤ x <;> by_cases hy : y < m <;> simp [hp, hx, hy, this])
 generalize decide (OkL m xs) = qq at *
 clear HO
 generalize decide (xs.Pairwise (· < ·)) = q at *
 obtain ⟨n, hn⟩ : ∃ n, xs.length = n + 1:=⟨xs.length - 1, by omega⟩
 rw [hn] at H AS L0 hw0 hl hz c1 ⊢
 rw [Nat.add_sub_cancel] at c1
 rw [Nat.add_zero] at c0
 have hnz : decide (((n + 1 : Nat) : Int) = 0) = false:=by simp; omega
 have hs1 : IntKind.i64.wrap (((n + 1 : Nat) : Int) - 1) = (n : Int):=by rw [IntKind.wrap_i64]; omega
 have hnn : ((n + 1 : Nat) : Int) - 1 = (n : Int):=by omega
 have Hn:=hide hn
 clear hn h
 have q0:=L0.cell 0 rfl
 have q1:=L0.cell 1 rfl
 go_enter Tryz.func41, Tryz.ntmps41
 go_wp2_with fail
 clear hw0
 refine (AS.out _ H.out).mono ?_
 rintro _ w1 ⟨rfl, b1⟩
 have cx:=b1.cell (p:=⟨g, off, none⟩) (cell_lt c0)
 have cy:=b1.cell (p:=⟨g, off + n, none⟩) (cell_lt c1)
 rw [c0] at cx
 rw [c1] at cy
 have BB:=bu B0 b1
 clear H AS c0 c1 b1 q0 q1 L0 B0
 cases q with
 | false =>
  go_wp2
  go_ret
  exact ⟨by rw [FIN.out]; rfl, BB⟩
 | true =>
  by_cases h0 : 0 ≤ x
  ·have d0 : decide (0 ≤ x) = true:=by simpa using h0
   rw [d0] at FIN
   clear h0
   go_wp2
   go_ret
   exact ⟨by rw [FIN.out]; rfl, BB⟩
  have d0 : decide (0 ≤ x) = false:=by simpa using h0
  rw [d0] at FIN
  clear h0
  go_wp2
  go_ret
  exact ⟨by rw [FIN.out]; rfl, BB⟩
end
section
open Go.RowKit
theorem list_end {xs ys : List Int} {k : Nat} (h1 : k ≤ xs.length) (h2 : k ≤ ys.length) (h : ¬ (k < xs.length ∧ k < ys.length)) (he : ∀ j, j < k → xs.getD j 0 = ys.getD j 0) : xs.length = ys.length ↔ xs = ys := by
 constructor
 ·intro e
  apply List.ext_getElem e
  intro i p q
  have:=he i (by omega)
  simpa [List.getD_eq_getElem?_getD, p, q] using this
 rintro rfl; rfl
theorem list_off {xs ys : List Int} {k : Nat} (h : xs.getD k 0 ≠ ys.getD k 0) : xs ≠ ys := fun e => h (e ▸ rfl)

theorem sEqual_any (va vb : Value) (xs ys : List Int) (w : World) (ha : RI w va xs) (hb : RI w vb ys) :
 Calls Tryz.prog 108 #[va, vb] w fun e w' => e = .returned (.bool (decide (xs = ys))) ∧ ∃ n, w' = w.drewN n := by
 obtain ⟨hl, ao, ca, rfl, ha⟩:=ha
 obtain ⟨hl', bo, cb, rfl, hb⟩:=hb
 have EN:=hide fun k h1 h2 h he => list_end (xs:=xs) (ys:=ys) (k:=k) h1 h2 h he
 have OF:=hide fun k h => list_off (xs:=xs) (ys:=ys) (k:=k) h
 have HE : Hid (∀ b, (xs = ys ↔ b = true) → decide (xs = ys) = b):=hide fun b h => by
  cases b
  ·simpa using h
  simpa using h
 have HL : Hid (xs = ys → xs.length = ys.length):=hide fun h => h ▸ rfl
 obtain ⟨n, hn⟩ : ∃ n, xs.length = n:=⟨_, rfl⟩
 obtain ⟨m, hm⟩ : ∃ m, ys.length = m:=⟨_, rfl⟩
 rw [hn] at ha EN hl HL ⊢
 rw [hm] at hb EN hl' HL ⊢
 have Hn : Hid (xs.length = n):=hn
 have Hm : Hid (ys.length = m):=hm
 clear hn hm
 generalize decide (xs = ys) = q at *
 by_cases hnm : n = m
 ·subst hnm
  go_enter Tryz.func108, Tryz.ntmps108
  go_wp2
  go_loopw [13] (fun i wr => ∃ k : Nat, k ≤ n ∧ i = .int .i64 k ∧ (∀ j, j < k → xs.getD j 0 = ys.getD j 0) ∧ ∃ d, wr = w.drewN d) (fun i _ => n - (intOf i).toNat)
  case atStart => exact ⟨0, Nat.zero_le _, rfl, fun j hj => by omega, 0, rfl⟩
  case round =>
   obtain ⟨k, hk, rfl, he, d, rfl⟩:=hrel
   have he:=hide he
   by_cases hlt : k < n
   ·rcases ha with ha | ⟨b, off, rfl, ha⟩
    ·subst ha; have := Hn.out; simp at this; omega
    rcases hb with hb | ⟨b', off', rfl, hb⟩
    ·subst hb; have := Hm.out; simp at this; omega
    have ha':=ha k hlt
    have hb':=hb k hlt
    have ER:=hide fun (e : xs.getD k 0 = ys.getD k 0) j (hj : j < k + 1) => (by
     by_cases h : j = k
     ·subst h; exact e
     exact he.out j (by omega) : xs.getD j 0 = ys.getD j 0)
    have OK:=hide fun h => OF.out k h
    clear ha hb
    generalize xs.getD k 0 = x at *
    generalize ys.getD k 0 = y at *
    by_cases hxy : x = y
    ·subst hxy
     replace ER:=hide (ER.out rfl)
     clear OK
     go_wp2_with fail
     go_quiet (fail)
     go_wp2
     go_roundw
     case rel => exact ⟨k + 1, by omega, by go_num, ER.out, _, rfl⟩
     case measure => simp [intOf]; omega
    have hq : q = false:=HE.out false (by simp; exact OK.out hxy)
    subst hq
    have hx : (x == y) = false:=by simpa using hxy
    go_wp2_with fail
    go_quiet (fail)
    go_wp2
    go_ret
    exact ⟨rfl, d + nq, by simp [World.drewN, Nat.add_assoc]⟩
   have hnm:=EN.out k hk hk (by omega) he.out
   have hq : q = true:=HE.out true (by simpa using hnm)
   have hc : decide ((k : Int) < (n : Int)) = false:=by simp; omega
   subst hq
   clear ha hb
   go_wp2
   go_ret
   exact ⟨rfl, _, rfl⟩
 have hq : q = false:=HE.out false (by simp; intro e; exact hnm (HL.out e))
 have hd : ((n : Int) == (m : Int)) = false:=by simp; omega
 subst hq
 clear ha hb
 go_enter Tryz.func108, Tryz.ntmps108
 go_wp2
 go_ret
 exact ⟨rfl, 0, rfl⟩

def alikeB (n m : Int) (s t : ByteArray) (xs ys : List Int) : Bool := decide (n = m ∧ s = t ∧ xs = ys)

theorem qsame_any (g g' : Nat) (n m : Int) (s t : ByteArray) (va vb : Value) (xs ys : List Int) (w : World) (hg : Loc w g #[.int .i64 n,.string s, va]) (hg' : Loc w g' #[.int .i64 m,.string t, vb]) (ha : RI w va xs) (hb : RI w vb ys) :
 Calls Tryz.prog 69 #[.pointer (some ⟨g, 0, none⟩),.pointer (some ⟨g', 0, none⟩)] w fun e w' => e = .returned (.bool (alikeB n m s t xs ys)) ∧ ∃ d, w' = w.drewN d := by
 have EQ:=hide fun d => sEqual_any va vb xs ys (w.drewN d) (ha) (hb)
 have x0:=hg.cell 0 rfl
 have x1:=hg.cell 1 rfl
 have x2:=hg.cell 2 rfl
 have y0:=hg'.cell 0 rfl
 have y1:=hg'.cell 1 rfl
 have y2:=hg'.cell 2 rfl
 clear ha hb hg hg'
 by_cases h1 : n = m
 ·by_cases h2 : s = t
  ·have hq : alikeB n m s t xs ys = decide (xs = ys):=by simp [alikeB, h1, h2]
   rw [hq]
   subst h1 h2
   clear hq
   go_enter Tryz.func69, Tryz.ntmps69
   go_wp2_with fail
   go_quiet (first | (go_at_call 108; exact Calls.quiet_of (EQ.out _)))
   go_wp2
   go_ret
   exact ⟨rfl, _, rfl⟩
  have hq : alikeB n m s t xs ys = false:=by simp [alikeB, h2]
  rw [hq]
  subst h1
  have hd:=str_ne h2
  clear hq
  go_enter Tryz.func69, Tryz.ntmps69
  go_wp2_with fail
  go_quiet (fail)
  go_wp2
  go_ret
  exact ⟨rfl, _, rfl⟩
 have hq : alikeB n m s t xs ys = false:=by simp [alikeB, h1]
 rw [hq]
 have hd : (n == m) = false:=by simpa using h1
 clear hq
 go_enter Tryz.func69, Tryz.ntmps69
 go_wp2_with fail
 go_quiet (fail)
 go_wp2
 go_ret
 exact ⟨rfl, _, rfl⟩
theorem implQcSame (n m : Int) (s t : ByteArray) (va vb : Value) (xs ys : List Int) (w : World) (ha : RI w va xs) (hb : RI w vb ys) :
 Calls Tryz.prog 31 #[qv n s va, qv m t vb] w fun e w' => e = .returned (.bool (alikeB n m s t xs ys)) ∧ Below w.heap.size w w' := by
 have B:=hide (qalloc2 w (.cells #[.int .i64 n,.string s, va] 53) (.cells #[.int .i64 m,.string t, vb] 53))
 have SM:=hide (qsame_any w.heap.size (w.heap.size + 1) n m s t va vb xs ys _ ((loc_at w #[.int .i64 n,.string s, va] 53 rfl).alloc _) (loc_at (w.alloc _) #[.int .i64 m,.string t, vb] 53 (by simp)) (ha.below B.out (Nat.le_refl _)) (hb.below B.out (Nat.le_refl _)))
 clear ha hb
 go_enter Tryz.func31, Tryz.ntmps31
 go_wp2_with fail
 refine SM.out.mono ?_
 rintro e w1 ⟨rfl, d, rfl⟩
 go_wp2
 go_ret
 exact ⟨rfl, below_drewN' B.out _⟩

abbrev zq : Obj := .cells #[.int .i64 0,.string ⟨#[]⟩,.slice none 0 0] 53

theorem qtold_any (g : Nat) (n : Int) (s : ByteArray) (ao : Option Addr) (ca : Nat) (xs : List Int) (w : World) (hg : Loc w g #[.int .i64 n,.string s,.slice ao xs.length ca]) (ha : RI w (.slice ao xs.length ca) xs) (hs : s.size ≤ 281474976710656) :
 Calls Tryz.prog 64 #[.pointer (some ⟨g, 0, none⟩)] w fun e w' => ∃ u, e = .returned (qv n s u) ∧ OI w' w.heap.size u xs ∧ Below w.heap.size w w' := by
 have CL:=hide fun w => clone_any s w hs
 have hgl:=hg.lt
 obtain ⟨w0, hw0⟩ : ∃ w0, w.alloc zq = w0:=⟨_, rfl⟩
 have B0 : Below w.heap.size w w0:=hw0 ▸ qalloc _ _
 have Z0 : Loc w0 w.heap.size #[.int .i64 0,.string ⟨#[]⟩,.slice none 0 0]:=hw0 ▸ loc_at w _ _ rfl
 have s0 : w0.heap.size = w.heap.size + 1:=by rw [← hw0]; simp
 have G0:=hg.below B0 hgl
 have K : Hid (∀ w', Below w0.heap.size w0 w' → Below w0.heap.size w0 w' ∧ w'.cell? ⟨g, 0, none⟩ = some (.int .i64 n) ∧ w'.cell? ⟨g, 1, none⟩ = some (.string s)):=hide fun w' hb =>
  ⟨hb, (G0.up hb).cell 0 rfl, (G0.up hb).cell 1 rfl⟩
 have RA:=hide ha
 have HZ:=hide Z0
 have HG:=hide G0
 clear ha hg Z0 G0
 go_enter Tryz.func64, Tryz.ntmps64
 go_upto_region 1 with fail
 clear hw0
 go_cut [3] (fun c wx => ∃ h, c = .pointer (some ⟨h, 0, none⟩) ∧ w0.heap.size ≤ h ∧ Loc wx h #[.int .i64 n,.string s,.slice none 0 0] ∧ Below w0.heap.size w0 wx)
 case first =>
  clear HZ HG RA
  refine wrn K (Below.drew (Below.refl _ _)) (fun hHeld => ?_)
  obtain ⟨wd, hd⟩ : ∃ wd, w0.drew = wd:=⟨_, rfl⟩
  have bd : Below w0.heap.size w0 wd:=hd ▸ Below.drew (Below.refl _ _)
  have szd:=bd.size
  rw [hd] at hHeld ⊢
  clear hd
  refine tx 0 4 ?_
  refine tx 1 5 ?_
  refine tx 2 6 ?_
  refine tx 3 7 ?_
  refine tx 4 8 ?_
  refine tx 5 9 ?_
  refine tx 6 10 ?_
  refine tx 7 11 ?_
  refine wpAnyH_ready (rs := [8, 10]) (by kernel_rfl) (by simp) (AllReadyH.cons rfl (fun KK hKK => ?_) (AllReadyH.cons rfl (fun KK hKK => ?_) AllReadyH.nil))
  ·go_simp
   refine (CL.out _).mono ?_
   rintro e wc1 ⟨rfl, bnew⟩
   have bc1 : Below w0.heap.size w0 wc1:=bu bd bnew
   have zzwc1:=bnew.size
   clear hHeld bnew
   refine hKK.out _ _ (K.out _ bc1) (fun hHeld => ?_)
   clear hKK KK
   refine tx 9 13 ?_
   refine rd 10 rfl (fun KK hKK => ?_)
   go_simp
   obtain ⟨wl2, hwl2⟩ : ∃ x, wc1.alloc (.cells #[.int .i64 0,.string ⟨#[]⟩,.slice none 0 0] 53) = x:=⟨_, rfl⟩
   have bl2 : Below w0.heap.size w0 wl2:=hwl2 ▸ bc1.alloc bc1.size _
   have lg : Loc wl2 wc1.heap.size #[.int .i64 0,.string ⟨#[]⟩,.slice none 0 0]:=hwl2 ▸ loc_at wc1 _ _ rfl
   rw [hwl2]
   clear hHeld hwl2
   refine hKK.out _ _ (K.out _ bl2) (fun hHeld => ?_)
   clear hKK KK
   have q0:=lg.cell 0 rfl
   have q1:=lg.cell 1 rfl
   have q2:=lg.cell 2 rfl
   have FG:=lg.frozen
   refine rd 11 rfl (fun KK hKK => ?_)
   go_simp
   have bs : Below w0.heap.size w0 (((wl2.setCell ⟨wc1.heap.size, 0, none⟩ (.int .i64 n)).setCell ⟨wc1.heap.size, 1, none⟩ (.string s)).setCell ⟨wc1.heap.size, 2, none⟩ (.slice none 0 0)):=Below.set (Below.set (Below.set bl2 _ _ (by omega)) _ _ (by omega)) _ _ (by omega)
   clear hHeld
   refine hKK.out _ _ (K.out _ bs) (fun hHeld => ?_)
   clear hKK KK hHeld
   refine wdn ?_
   go_wp2_with fail
   go_meet
   exact ⟨_, rfl, by omega, ((lg.set 0 _ rfl).set 1 _ rfl).set 2 _ rfl, bs⟩
  go_simp
  obtain ⟨wl3, hwl3⟩ : ∃ x, wd.alloc (.cells #[.int .i64 0,.string ⟨#[]⟩,.slice none 0 0] 53) = x:=⟨_, rfl⟩
  have bl3 : Below w0.heap.size w0 wl3:=hwl3 ▸ bd.alloc bd.size _
  have lg : Loc wl3 wd.heap.size #[.int .i64 0,.string ⟨#[]⟩,.slice none 0 0]:=hwl3 ▸ loc_at wd _ _ rfl
  rw [hwl3]
  clear hHeld hwl3
  refine hKK.out _ _ (K.out _ bl3) (fun hHeld => ?_)
  clear hKK KK
  refine rd 8 rfl (fun KK hKK => ?_)
  go_simp
  refine (CL.out _).mono ?_
  rintro e wc4 ⟨rfl, bnew⟩
  have bc4 : Below w0.heap.size w0 wc4:=bu bl3 bnew
  have zzwc4:=bnew.size
  have lg:=lg.up bnew
  clear hHeld bnew
  refine hKK.out _ _ (K.out _ bc4) (fun hHeld => ?_)
  clear hKK KK
  refine tx 9 13 ?_
  have q0:=lg.cell 0 rfl
  have q1:=lg.cell 1 rfl
  have q2:=lg.cell 2 rfl
  have FG:=lg.frozen
  refine rd 11 rfl (fun KK hKK => ?_)
  go_simp
  have bs : Below w0.heap.size w0 (((wc4.setCell ⟨wd.heap.size, 0, none⟩ (.int .i64 n)).setCell ⟨wd.heap.size, 1, none⟩ (.string s)).setCell ⟨wd.heap.size, 2, none⟩ (.slice none 0 0)):=Below.set (Below.set (Below.set bc4 _ _ (by omega)) _ _ (by omega)) _ _ (by omega)
  clear hHeld
  refine hKK.out _ _ (K.out _ bs) (fun hHeld => ?_)
  clear hKK KK hHeld
  refine wdn ?_
  go_wp2_with fail
  go_meet
  exact ⟨_, rfl, by omega, ((lg.set 0 _ rfl).set 1 _ rfl).set 2 _ rfl, bs⟩
 case rest =>
 obtain ⟨h, rfl, hh, LH, bw⟩:=hcut
 have G1:=HG.out.below bw HG.out.lt
 have Z1:=HZ.out.below bw HZ.out.lt
 have R1:=RA.out
 have B1 : Below w.heap.size w wc:=bu B0 bw
 have s1:=bw.size
 have l1:=LH.lt
 have x2:=G1.cell 2 rfl
 have y0:=Z1.cell 0 rfl
 have y1:=Z1.cell 1 rfl
 have y2:=Z1.cell 2 rfl
 have fy:=Z1.frozen
 have h0:=LH.cell 0 rfl
 have h1:=LH.cell 1 rfl
 have h2:=LH.cell 2 rfl
 have fh:=LH.frozen
 have hl:=R1.1
 clear HG HZ RA K CL bw B0
 by_cases hx : xs = []
 ·subst hx
  go_wp2
  refine bodyPost_ret (v := qv n s (.slice none 0 0)) (by simp [results, Tryz.results64, go_sem, y0, y1, y2]) rfl ?_
  exact ⟨_, rfl, World.ownsRow_nil _ _ _ _, Below.set (Below.set (Below.set B1 _ _ (Nat.le_refl _)) _ _ (Nat.le_refl _)) _ _ (Nat.le_refl _)⟩
 have hp : 0 < xs.length:=List.length_pos_iff.2 hx
 obtain ⟨cs, hcs⟩ : ∃ cs, xs.map (Value.int .i64) = cs:=⟨_, rfl⟩
 have hcl : cs.length = xs.length:=by rw [← hcs]; simp
 have hone : ∀ v ∈ cs, v.oneCell' = true:=by rw [← hcs]; exact ints_plain64 xs
 obtain ⟨ad, rfl, hcells⟩ : ∃ ad, ao = some ad ∧ ∀ j u, cs[j]? = some u → w.cell? (ad.add j) = some u:=by
  obtain ⟨_, ao', ca', e, hr⟩:=R1
  cases e
  rcases hr with rfl | ⟨b, off, rfl, hr⟩
  ·exact absurd rfl hx
  exact ⟨_, rfl, hcs ▸ inews_cells hr⟩
 have hrows : ∀ w', Below w.heap.size w w' → ∀ j u, cs[j]? = some u → w'.cell? (ad.add j) = some u:=fun w' hb j u hj => (hb.cell (cell_lt (hcells j u hj))).trans (hcells j u hj)
 have HR:=hide hrows
 have HC:=hide hcs
 obtain ⟨i0, hi, hz0, hz1, hz2⟩:=info_parts Tryz.info3
 obtain ⟨m, hm⟩ : ∃ m, xs.length = m:=⟨_, rfl⟩
 rw [hm] at hl hcl hp x2 G1
 have Hm:=hide hm
 clear R1 hcells hrows hcs hm hx
 have hgt : decide ((0 : Int) < (m : Int)) = true:=by simpa using hp
 go_upto_region 4 with (first | (at_make; refine wpList_make_full _ rfl _ _ 25 rfl wc.heap.size 3 i0 (.int .i64 0) 1 Tryz.underlying25 hi hz0 hz1 .i64 .i64 m m m rfl rfl rfl rfl (by rw [hz2]; omega) (by unfold maxLen; omega) (Nat.le_refl _) ?_; intro w2 ho2 hg2
                                 have b2 : Below wc.heap.size wc w2:=(Below.refl _ _).grown hg2 (Nat.le_refl _) (by simp)
                                 have L2:=LH.up b2
                                 have k2:=L2.cell 2 rfl
                                 have f2:=L2.frozen))
 obtain ⟨hlen, hrow⟩:=ho2
 rcases hrow with ⟨e, _⟩ | ⟨row, cap, cur, e, hrb, hrh, _, hcm, hcz, hct⟩
 ·cases e
 cases e
 have hlt2 : wc.heap.size < w2.heap.size:=(Array.getElem?_eq_some_iff.1 hrh).1
 obtain ⟨w3, hw3⟩ : ∃ w3, w2.setCell ⟨h, 2, none⟩ (.slice (some ⟨wc.heap.size, 0, none⟩) m m) = w3:=⟨_, rfl⟩
 have B3 : Below w.heap.size w w3:=hw3 ▸ Below.set (bu B1 b2) (g:=h) 2 _ (by omega)
 have K3 : Kp w2 w3 (fun k => k = h):=hw3 ▸ set_kp w2 h 2 _
 have L3 : Loc w3 h #[.int .i64 n,.string s,.slice (some ⟨wc.heap.size, 0, none⟩) m m]:=hw3 ▸ L2.set 2 _ rfl
 have Z3:=(Z1.up b2).kp K3 (by omega)
 have G3:=(G1.up b2).kp K3 (by omega)
 have H3 : w3.heap[wc.heap.size]? = some (.cells cur.toList.toArray 3 (0, 0)):=by rw [K3.block _ hlt2 (by omega)]; simpa using hrh
 have c3:=HR.out w3 B3
 have z3:=K3.size
 have p2:=L3.cell 2 rfl
 have q2:=G3.cell 2 rfl
 have hcz' : cur.toList.length = m:=by simpa using hcz
 rw [hw3]
 clear hw3 k2 f2 h0 h1 h2 fh y0 y1 y2 fy x2
 have H3h:=hide H3
 have C3:=hide c3
 go_region_law (refine step_copy_splice rfl (.tmp 28) (.tmp 32) 25 25 rfl 3 Tryz.underlying25 (by rw [hi]; simp [hz1]) (some ⟨wc.heap.size, 0, none⟩) (some ad) m m m ca (by simp [Act.eval]) (by simp [Act.eval]) wc.heap.size 0 cur.toList 3 H3h.out cs (by rw [hcl]; simp) (fun _ => ⟨rfl, _, rfl, C3.out⟩) (by omega) hone wc.heap.size w3 ⟨rfl, rfl, rfl, Nat.le_refl _, fun _ _ => rfl⟩ (Nat.le_refl _) ?_; intro w4 hg4 hb4)
 all_goals
  have L4:=L3.below hb4 l1
  have Z4:=Z3.below hb4 (by omega)
  have B4 : Below w.heap.size w w4:=B3.trans (hb4.mono (by omega))
  have h0:=L4.cell 0 rfl
  have h1:=L4.cell 1 rfl
  have h2:=L4.cell 2 rfl
  have y0:=Z4.cell 0 rfl
  have y1:=Z4.cell 1 rfl
  have y2:=Z4.cell 2 rfl
  have fy:=Z4.frozen
  have O4 : OI w4 w.heap.size (.slice (some ⟨wc.heap.size, 0, none⟩) m m) xs:=by
   refine ⟨by rw [Hm.out]; simp [Hm.out], .inr ⟨wc.heap.size, m, _, by rw [Hm.out], by omega, hg4.out, by rw [Hm.out]; exact Nat.le_refl _, hcm, ?_, ?_⟩⟩
   ·rw [List.size_toArray, length_splice _ _ _ (by omega), hcz', Nat.mul_one]
   rw [HC.out]; simp [splice, Hm.out, hcl]
  have HO:=hide O4
  clear L3 Z3 G3 H3 c3 p2 q2 K3 L4 Z4 O4 hg4 hb4 LH Z1 G1 b2 L2 hlen hct hcz hrh
  go_wp2
  refine bodyPost_ret (v := qv n s (.slice (some ⟨wc.heap.size, 0, none⟩) m m)) (by simp [results, Tryz.results64, go_sem, y0, y1, y2]) rfl ?_
  have K5 : Kp w4 (((w4.setCell ⟨w.heap.size, 0, none⟩ (.int .i64 n)).setCell ⟨w.heap.size, 1, none⟩ (.string s)).setCell ⟨w.heap.size, 2, none⟩ (.slice (some ⟨wc.heap.size, 0, none⟩) m m)) (fun k => k = w.heap.size):=((set_kp _ _ _ _).trans (set_kp _ _ _ _)).trans (set_kp _ _ _ _)
  exact ⟨_, rfl, HO.out.kp K5 (fun k hk => by simp [Value.ownBlock] at hk; omega), Below.set (Below.set (Below.set B4 _ _ (Nat.le_refl _)) _ _ (Nat.le_refl _)) _ _ (Nat.le_refl _)⟩
theorem implQcFirst (w : World) : Calls Tryz.prog 88 #[] w fun e w' => e = .returned (qv 0 ⟨#[]⟩ (.slice none 0 0)) ∧ Below w.heap.size w w' := by
 go_enter Tryz.func88, Tryz.ntmps88
 go_wp2
 refine bodyPost_ret (v := qv 0 ⟨#[]⟩ (.slice none 0 0)) (by simp [results, Tryz.results88, go_sem]) rfl ?_
 exact ⟨rfl, qalloc _ _⟩
end
section
open Go.RowKit
variable [∀ (a b c d : Int), Decidable (Ok4 a b c d)]
variable [∀ (a b c d : Nat), Decidable (okN a b c d)]
variable [∀ (last : Int) (s : St), Decidable (GoodSt last s)]
variable [∀ (x : T4), Decidable (OkT x)]
variable [∀ (n : Int) (s : List Int), Decidable (OkL n s)]
variable [∀ (n f : Int), Decidable (COk n f)]
def votedB (n f v : Int) (s : ByteArray) (xs : List Int) : Bool := decide (0 < v) && (v == viewAns s) && decide (quorumOf n f ≤ (xs.length : Int)) && decide (OkL n xs)

theorem votedFor_any (g : Nat) (n f v : Int) (s : ByteArray) (ao : Option Addr) (ca : Nat) (xs : List Int) (w : World) (hs : s.size ≤ 33554432) (hE : Env w) (hg : Loc w g #[.int .i64 v,.string s,.slice ao xs.length ca]) (ha : RI w (.slice ao xs.length ca) xs) :
 Calls Tryz.prog 89 #[.pointer (some ⟨g, 0, none⟩), cv n f] w fun e w' => e = .returned (.bool (votedB n f v s xs)) ∧ Below w.heap.size w w' := by
 have hgl:=hg.lt
 have VO:=hide fun w hE => implViewOf s w hs hE
 have QU:=hide fun w => implQuorum n f w
 have SO:=hide fun w h => implSetOk n (.slice ao xs.length ca) xs w h
 have hvb : votedB n f v s xs = (decide (0 < v) && (v == viewAns s) && decide (quorumOf n f ≤ (xs.length : Int)) && decide (OkL n xs)):=rfl
 rw [hvb]
 clear hvb
 generalize viewAns s = q at *
 generalize quorumOf n f = qu at *
 generalize decide (OkL n xs) = ok at *
 obtain ⟨w0, hw0⟩ : ∃ w0, w.alloc (.cells #[.int .i64 n,.int .i64 f] 33) = w0:=⟨_, rfl⟩
 have B0 : Below w.heap.size w w0:=hw0 ▸ conf_below _ _
 have C0 : Loc w0 w.heap.size #[.int .i64 n,.int .i64 f]:=hw0 ▸ loc_at w _ _ rfl
 have G0:=hg.below B0 hgl
 have HE:=hide (hE.below B0)
 have HA:=hide (ha.below B0)
 have K:=kw (ka (kc3 G0 0 1 2) (kc2 C0 0 1))
 obtain ⟨m, hm⟩ : ∃ m, xs.length = m:=⟨_, rfl⟩
 rw [hm] at K HA SO ⊢
 clear hg ha hE G0 C0 hm
 by_cases h1 : 0 < v
 ·have d1 : decide (0 < v) = true:=by simpa using h1
  rw [d1, Bool.true_and]
  by_cases h2 : v = q
  ·have d2 : (v == q) = true:=by simpa using h2
   rw [d2, Bool.true_and]
   clear d2
   subst h2
   by_cases h3 : qu ≤ (m : Int)
   ·have d3 : decide (qu ≤ (m : Int)) = true:=by simpa using h3
    rw [d3, Bool.true_and]
    go_enter Tryz.func89, Tryz.ntmps89
    go_upto_region 1 with fail
    clear hw0
    have bA : Below w0.heap.size w0 w0.drew:=Below.drew (Below.refl _ _)
    refine wp_region_noPanic ?_
    refine wp_region_held_drew (S := fun w' => Below w0.heap.size w0 w' ∧ (w'.cell? ⟨g, 0, none⟩ = some (.int .i64 v) ∧ w'.cell? ⟨g, 1, none⟩ = some (.string s) ∧ w'.cell? ⟨g, 2, none⟩ = some (.slice ao m ca)) ∧ (w'.cell? ⟨w.heap.size, 0, none⟩ = some (.int .i64 n) ∧ w'.cell? ⟨w.heap.size, 1, none⟩ = some (.int .i64 f))) (by kernel_rfl) (K.out _ bA) (fun hHeld => ?_)
    refine tx 0 5 ?_
    refine tx 1 6 ?_
    refine tx 2 7 ?_
    refine tx 3 8 ?_
    refine tx 4 9 ?_
    refine tx 5 10 ?_
    refine tx 6 11 ?_
    refine tx 7 12 ?_
    refine tx 8 13 ?_
    refine tx 9 14 ?_
    refine tx 10 15 ?_
    refine tx 11 16 ?_
    refine tx 12 17 ?_
    refine tx 13 18 ?_
    refine rd 14 rfl (fun KK hKK => ?_)
    go_simp
    have hgo:=bA
    refine (VO.out _ (HE.out.below hgo)).mono ?_
    rintro e wy1 ⟨rfl, bb⟩
    have bB : Below w0.heap.size w0 wy1:=bu bA bb
    clear bA hgo bb hHeld
    refine hKK.out _ _ (K.out _ bB) (fun hHeld => ?_)
    clear hKK KK
    refine tx 15 20 ?_
    refine tx 16 21 ?_
    refine tx 17 22 ?_
    refine tx 18 23 ?_
    refine tx 19 24 ?_
    refine tx 20 25 ?_
    refine tx 21 26 ?_
    refine tx 22 27 ?_
    refine tx 23 28 ?_
    refine rd 24 rfl (fun KK hKK => ?_)
    go_simp
    have hgo:=bB
    refine (QU.out _).mono ?_
    rintro e wy2 ⟨rfl, bb⟩
    have bC : Below w0.heap.size w0 wy2:=bu bB bb
    clear bB hgo bb hHeld
    refine hKK.out _ _ (K.out _ bC) (fun hHeld => ?_)
    clear hKK KK
    refine tx 25 30 ?_
    refine tx 26 31 ?_
    refine tx 27 32 ?_
    refine tx 28 33 ?_
    refine tx 29 34 ?_
    refine tx 30 35 ?_
    refine tx 31 36 ?_
    refine tx 32 37 ?_
    refine tx 33 38 ?_
    refine rd 34 rfl (fun KK hKK => ?_)
    go_simp
    have hgo:=bC
    refine (SO.out _ (HA.out.below hgo)).mono ?_
    rintro e wy3 ⟨rfl, bb⟩
    have bD : Below w0.heap.size w0 wy3:=bu bC bb
    clear bC hgo bb hHeld
    refine hKK.out _ _ (K.out _ bD) (fun hHeld => ?_)
    clear hKK KK
    refine tx 35 40 ?_
    refine tx 36 4 ?_
    clear hHeld
    refine wdn ?_
    go_wp2
    go_ret
    exact ⟨rfl, bu B0 bD⟩
   have d3 : decide (qu ≤ (m : Int)) = false:=by simpa using h3
   rw [d3, Bool.false_and]
   go_enter Tryz.func89, Tryz.ntmps89
   go_upto_region 1 with fail
   clear hw0
   have bA : Below w0.heap.size w0 w0.drew:=Below.drew (Below.refl _ _)
   refine wp_region_noPanic ?_
   refine wp_region_held_drew (S := fun w' => Below w0.heap.size w0 w' ∧ (w'.cell? ⟨g, 0, none⟩ = some (.int .i64 v) ∧ w'.cell? ⟨g, 1, none⟩ = some (.string s) ∧ w'.cell? ⟨g, 2, none⟩ = some (.slice ao m ca)) ∧ (w'.cell? ⟨w.heap.size, 0, none⟩ = some (.int .i64 n) ∧ w'.cell? ⟨w.heap.size, 1, none⟩ = some (.int .i64 f))) (by kernel_rfl) (K.out _ bA) (fun hHeld => ?_)
   refine tx 0 5 ?_
   refine tx 1 6 ?_
   refine tx 2 7 ?_
   refine tx 3 8 ?_
   refine tx 4 9 ?_
   refine tx 5 10 ?_
   refine tx 6 11 ?_
   refine tx 7 12 ?_
   refine tx 8 13 ?_
   refine tx 9 14 ?_
   refine tx 10 15 ?_
   refine tx 11 16 ?_
   refine tx 12 17 ?_
   refine tx 13 18 ?_
   refine rd 14 rfl (fun KK hKK => ?_)
   go_simp
   have hgo:=bA
   refine (VO.out _ (HE.out.below hgo)).mono ?_
   rintro e wy1 ⟨rfl, bb⟩
   have bB : Below w0.heap.size w0 wy1:=bu bA bb
   clear bA hgo bb hHeld
   refine hKK.out _ _ (K.out _ bB) (fun hHeld => ?_)
   clear hKK KK
   refine tx 15 20 ?_
   refine tx 16 21 ?_
   refine tx 17 22 ?_
   refine tx 18 23 ?_
   refine tx 19 24 ?_
   refine tx 20 25 ?_
   refine tx 21 26 ?_
   refine tx 22 27 ?_
   refine tx 23 28 ?_
   refine rd 24 rfl (fun KK hKK => ?_)
   go_simp
   have hgo:=bB
   refine (QU.out _).mono ?_
   rintro e wy2 ⟨rfl, bb⟩
   have bC : Below w0.heap.size w0 wy2:=bu bB bb
   clear bB hgo bb hHeld
   refine hKK.out _ _ (K.out _ bC) (fun hHeld => ?_)
   clear hKK KK
   refine tx 25 30 ?_
   refine tx 26 31 ?_
   refine tx 27 32 ?_
   refine sx 28 33 ?_
   refine sx 29 34 ?_
   refine sx 30 35 ?_
   refine sx 31 36 ?_
   refine sx 32 37 ?_
   refine sx 33 38 ?_
   refine sx 34 39 ?_
   refine tx 35 40 ?_
   refine tx 36 4 ?_
   clear hHeld
   refine wdn ?_
   go_wp2
   go_ret
   exact ⟨rfl, bu B0 bC⟩
  have d2 : (v == q) = false:=by simpa using h2
  rw [d2, Bool.false_and, Bool.false_and]
  go_enter Tryz.func89, Tryz.ntmps89
  go_upto_region 1 with fail
  clear hw0
  have bA : Below w0.heap.size w0 w0.drew:=Below.drew (Below.refl _ _)
  refine wp_region_noPanic ?_
  refine wp_region_held_drew (S := fun w' => Below w0.heap.size w0 w' ∧ (w'.cell? ⟨g, 0, none⟩ = some (.int .i64 v) ∧ w'.cell? ⟨g, 1, none⟩ = some (.string s) ∧ w'.cell? ⟨g, 2, none⟩ = some (.slice ao m ca)) ∧ (w'.cell? ⟨w.heap.size, 0, none⟩ = some (.int .i64 n) ∧ w'.cell? ⟨w.heap.size, 1, none⟩ = some (.int .i64 f))) (by kernel_rfl) (K.out _ bA) (fun hHeld => ?_)
  refine tx 0 5 ?_
  refine tx 1 6 ?_
  refine tx 2 7 ?_
  refine tx 3 8 ?_
  refine tx 4 9 ?_
  refine tx 5 10 ?_
  refine tx 6 11 ?_
  refine tx 7 12 ?_
  refine tx 8 13 ?_
  refine tx 9 14 ?_
  refine tx 10 15 ?_
  refine tx 11 16 ?_
  refine tx 12 17 ?_
  refine tx 13 18 ?_
  refine rd 14 rfl (fun KK hKK => ?_)
  go_simp
  have hgo:=bA
  refine (VO.out _ (HE.out.below hgo)).mono ?_
  rintro e wy1 ⟨rfl, bb⟩
  have bB : Below w0.heap.size w0 wy1:=bu bA bb
  clear bA hgo bb hHeld
  refine hKK.out _ _ (K.out _ bB) (fun hHeld => ?_)
  clear hKK KK
  refine tx 15 20 ?_
  refine tx 16 21 ?_
  refine tx 17 22 ?_
  refine sx 18 23 ?_
  refine sx 19 24 ?_
  refine sx 20 25 ?_
  refine sx 21 26 ?_
  refine sx 22 27 ?_
  refine sx 23 28 ?_
  refine sx 24 29 ?_
  refine sx 25 30 ?_
  refine tx 26 31 ?_
  refine tx 27 32 ?_
  refine sx 28 33 ?_
  refine sx 29 34 ?_
  refine sx 30 35 ?_
  refine sx 31 36 ?_
  refine sx 32 37 ?_
  refine sx 33 38 ?_
  refine sx 34 39 ?_
  refine tx 35 40 ?_
  refine tx 36 4 ?_
  clear hHeld
  refine wdn ?_
  go_wp2
  go_ret
  exact ⟨rfl, bu B0 bB⟩
 have d1 : decide (0 < v) = false:=by simpa using h1
 rw [d1, Bool.false_and, Bool.false_and, Bool.false_and]
 go_enter Tryz.func89, Tryz.ntmps89
 go_upto_region 1 with fail
 clear hw0
 have bA : Below w0.heap.size w0 w0.drew:=Below.drew (Below.refl _ _)
 refine wp_region_noPanic ?_
 refine wp_region_held_drew (S := fun w' => Below w0.heap.size w0 w' ∧ (w'.cell? ⟨g, 0, none⟩ = some (.int .i64 v) ∧ w'.cell? ⟨g, 1, none⟩ = some (.string s) ∧ w'.cell? ⟨g, 2, none⟩ = some (.slice ao m ca)) ∧ (w'.cell? ⟨w.heap.size, 0, none⟩ = some (.int .i64 n) ∧ w'.cell? ⟨w.heap.size, 1, none⟩ = some (.int .i64 f))) (by kernel_rfl) (K.out _ bA) (fun hHeld => ?_)
 refine tx 0 5 ?_
 refine tx 1 6 ?_
 refine tx 2 7 ?_
 refine tx 3 8 ?_
 refine tx 4 9 ?_
 refine tx 5 10 ?_
 refine sx 6 11 ?_
 refine sx 7 12 ?_
 refine sx 8 13 ?_
 refine sx 9 14 ?_
 refine sx 10 15 ?_
 refine sx 11 16 ?_
 refine sx 12 17 ?_
 refine sx 13 18 ?_
 refine sx 14 19 ?_
 refine sx 15 20 ?_
 refine tx 16 21 ?_
 refine tx 17 22 ?_
 refine sx 18 23 ?_
 refine sx 19 24 ?_
 refine sx 20 25 ?_
 refine sx 21 26 ?_
 refine sx 22 27 ?_
 refine sx 23 28 ?_
 refine sx 24 29 ?_
 refine sx 25 30 ?_
 refine tx 26 31 ?_
 refine tx 27 32 ?_
 refine sx 28 33 ?_
 refine sx 29 34 ?_
 refine sx 30 35 ?_
 refine sx 31 36 ?_
 refine sx 32 37 ?_
 refine sx 33 38 ?_
 refine sx 34 39 ?_
 refine tx 35 40 ?_
 refine tx 36 4 ?_
 clear hHeld
 refine wdn ?_
 go_wp2
 go_ret
 exact ⟨rfl, bu B0 bA⟩
end
end Go.Proofs.YtjkcphnohhpihaaGreatDoor
