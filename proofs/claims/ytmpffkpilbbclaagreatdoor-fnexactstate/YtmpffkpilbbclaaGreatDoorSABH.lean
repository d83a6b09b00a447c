/- Lemmas; their conditions stand in each statement. -/
import Derived.Test.YtmpffkpilbbclaaGreatDoorSABG
set_option maxRecDepth 100000
set_option maxHeartbeats 16000000
set_option linter.unusedSectionVars false
namespace Go.Proofs.YtmpffkpilbbclaaGreatDoor
section
open Go.RowKit
variable [∀ (m a b c d : Int), Decidable (In4 m a b c d)]
def LOk (xs ys : List Int) : Prop := xs.length = 4 ∧ ys.length = 4 ∧ (∀ k, k < 4 → (0 ≤ xs.getD k 0 ∧ xs.getD k 0 ≤ 400) ∧ (0 ≤ ys.getD k 0 ∧ ys.getD k 0 ≤ 100))
theorem lok_four (a b c d e f g h : Int) : LOk [a, b, c, d] [e, f, g, h] ↔ In4 400 a b c d ∧ In4 100 e f g h := by
 unfold LOk In4
 constructor
 ·rintro ⟨_, _, h⟩
  have h0:=h 0 (by omega)
  have h1:=h 1 (by omega)
  have h2:=h 2 (by omega)
  have h3:=h 3 (by omega)
  simp at h0 h1 h2 h3
  exact ⟨⟨h0.1, h1.1, h2.1, h3.1⟩, ⟨h0.2, h1.2, h2.2, h3.2⟩⟩
 rintro ⟨⟨p0, p1, p2, p3⟩, ⟨q0, q1, q2, q3⟩⟩
 refine ⟨rfl, rfl, fun k hk => ?_⟩
 match k, hk with
 | 0, _ => exact ⟨p0, q0⟩
 | 1, _ => exact ⟨p1, q1⟩
 | 2, _ => exact ⟨p2, q2⟩
 | 3, _ => exact ⟨p3, q3⟩
def bookC (xs ys : List Int) : Array Value := if xs.length = 4 ∧ ys.length = 4 then b8 (xs.getD 0 0) (xs.getD 1 0) (xs.getD 2 0) (xs.getD 3 0) (ys.getD 0 0) (ys.getD 1 0) (ys.getD 2 0) (ys.getD 3 0) else b8 0 0 0 0 0 0 0 0

theorem bookOf_short (u v : Value) (xs ys : List Int) (w : World) (hu : RI w u xs) (hv : RI w v ys) (hn : xs.length ≠ 4 ∨ ys.length ≠ 4) :
 Calls Tryz.prog 154 #[lv u v] w fun o w' => o = .returned (.tuple #[bkv 0 0 0 0 0 0 0 0,.bool false]) ∧ Below w.heap.size w w' := by
 obtain ⟨l1, a1, c1, rfl, _⟩:=hu
 obtain ⟨l2, a2, c2, rfl, _⟩:=hv
 by_cases h1 : xs.length = 4
 ·have h2 : ys.length ≠ 4:=by omega
  clear hn
  go_enter Tryz.func154, Tryz.ntmps154
  go_wp2
  refine bodyPost_ret (v := .tuple #[bkv 0 0 0 0 0 0 0 0,.bool false]) (by simp [results, Tryz.results154, go_sem]) rfl ?_
  exact ⟨rfl, ((Below.refl _ _).alloc (Nat.le_refl _) _).alloc (by simp) _⟩
 clear hn
 go_enter Tryz.func154, Tryz.ntmps154
 go_wp2
 refine bodyPost_ret (v := .tuple #[bkv 0 0 0 0 0 0 0 0,.bool false]) (by simp [results, Tryz.results154, go_sem]) rfl ?_
 exact ⟨rfl, ((Below.refl _ _).alloc (Nat.le_refl _) _).alloc (by simp) _⟩

variable [∀ (xs ys : List Int), Decidable (LOk xs ys)]
theorem bookOf_any (u v : Value) (xs ys : List Int) (w : World) (hu : RI w u xs) (hv : RI w v ys) :
 Calls Tryz.prog 154 #[lv u v] w fun o w' => o = .returned (.tuple #[.agg (bookC xs ys),.bool (decide (LOk xs ys))]) ∧ Below w.heap.size w w' := by
 by_cases h : xs.length = 4 ∧ ys.length = 4
 ·obtain ⟨a, b, c, d, rfl⟩:=four_of h.1
  obtain ⟨e, f, g, k, rfl⟩:=four_of h.2
  have:=bookOf_four u v a b c d e f g k w hu hv
  simpa only [lok_four, bookC, h, and_self, if_true, List.getD_cons_zero, List.getD_cons_succ] using this
 have hn : ¬ LOk xs ys:=fun k => h ⟨k.1, k.2.1⟩
 have:=bookOf_short u v xs ys w hu hv (by omega)
 simpa only [bookC, h, if_false, hn, decide_false] using this
theorem bookC_form (xs ys : List Int) : ∃ a b c d e f g h : Int, bookC xs ys = b8 a b c d e f g h := by
 unfold bookC
 split
 ·exact ⟨_, _, _, _, _, _, _, _, rfl⟩
 exact ⟨_, _, _, _, _, _, _, _, rfl⟩

theorem specLedgerOk_four (u v : Value) (xs ys : List Int) (w : World) (hu : RI w u xs ∧ RI w v ys) (hx : xs.length = 4) (hy : ys.length = 4) :
 Calls Tryz.prog 122 #[lv u v] w fun o w' => o = .returned (.bool (decide (LOk xs ys))) ∧ Below w.heap.size w w' := by
 obtain ⟨⟨_, ua, uc, rfl, hu⟩, ⟨_, va, vc, rfl, hv⟩⟩:=hu
 obtain ⟨g1, o1, rfl, cu⟩ : ∃ g1 o1, ua = some ⟨g1, o1, none⟩ ∧ ∀ k, k < 4 → w.cell? ⟨g1, o1 + k, none⟩ = some (.int .i64 (xs.getD k 0)):=by
  rcases hu with rfl | ⟨g, o, h1, h2⟩
  ·cases hx
  exact ⟨g, o, h1, fun k hk => h2 k (by omega)⟩
 obtain ⟨g2, o2, rfl, cv⟩ : ∃ g1 o1, va = some ⟨g1, o1, none⟩ ∧ ∀ k, k < 4 → w.cell? ⟨g1, o1 + k, none⟩ = some (.int .i64 (ys.getD k 0)):=by
  rcases hv with rfl | ⟨g, o, h1, h2⟩
  ·cases hy
  exact ⟨g, o, h1, fun k hk => h2 k (by omega)⟩
 have HL : Hid (LOk xs ys ↔ ∀ k, k < 4 → (0 ≤ xs.getD k 0 ∧ xs.getD k 0 ≤ 400) ∧ (0 ≤ ys.getD k 0 ∧ ys.getD k 0 ≤ 100)):=hide ⟨fun h => h.2.2, fun h => ⟨hx, hy, h⟩⟩
 rw [hx, hy]
 clear hx hy hu hv
 obtain ⟨w0, hw0⟩ : ∃ w0, w.alloc (.cells #[.slice (some ⟨g1, o1, none⟩) 4 uc,.slice (some ⟨g2, o2, none⟩) 4 vc] 60) = w0:=⟨_, rfl⟩
 have B0 : Below w.heap.size w w0:=hw0 ▸ (Below.refl _ _).alloc (Nat.le_refl _) _
 have L0 : Loc w0 w.heap.size #[.slice (some ⟨g1, o1, none⟩) 4 uc,.slice (some ⟨g2, o2, none⟩) 4 vc]:=hw0 ▸ loc_at w _ _ rfl
 have p0:=L0.cell 0 rfl
 have p1:=L0.cell 1 rfl
 go_enter Tryz.func122, Tryz.ntmps122
 go_wp2
 clear hw0 L0
 go_loop [3] (fun i => ∃ k : Nat, k ≤ 4 ∧ i = .int .i64 k ∧ ∀ j, j < k → (0 ≤ xs.getD j 0 ∧ xs.getD j 0 ≤ 400) ∧ (0 ≤ ys.getD j 0 ∧ ys.getD j 0 ≤ 100)) (fun i => 4 - (intOf i).toNat)
 case atStart => exact ⟨0, Nat.zero_le _, rfl, fun j hj => by omega⟩
 case round =>
  obtain ⟨k, hk, rfl, hall⟩:=hrel
  have hall:=hide hall
  by_cases hlt : k < 4
  ·have x:=(B0.cell (cell_lt (cu k hlt))).trans (cu k hlt)
   have y:=(B0.cell (cell_lt (cv k hlt))).trans (cv k hlt)
   have HK:=hide fun (h : LOk xs ys) => HL.out.1 h k hlt
   have HS : Hid ((0 ≤ xs.getD k 0 ∧ xs.getD k 0 ≤ 400) ∧ (0 ≤ ys.getD k 0 ∧ ys.getD k 0 ≤ 100) → ∀ j, j < k + 1 → (0 ≤ xs.getD j 0 ∧ xs.getD j 0 ≤ 400) ∧ (0 ≤ ys.getD j 0 ∧ ys.getD j 0 ≤ 100)):=hide fun h j hj => by
    by_cases e : j = k
    ·subst e; exact h
    exact hall.out j (by omega)
   clear cu cv
   generalize xs.getD k 0 = p at *
   generalize ys.getD k 0 = q at *
   by_cases hp : 0 ≤ p ∧ p ≤ 400
   ·by_cases hq : 0 ≤ q ∧ q ≤ 100
    ·obtain ⟨hp1, hp2⟩:=hp
     obtain ⟨hq1, hq2⟩:=hq
     go_wp2_with (first | (go_at_call 67; refine (in_yes _ _ _ _ (by omega) (by omega)).mono ?_; rintro e w' ⟨rfl, rfl⟩))
     go_round
     case rel => exact ⟨k + 1, by omega, by go_num, HS.out ⟨⟨hp1, hp2⟩, ⟨hq1, hq2⟩⟩⟩
     case measure => simp [intOf]; omega
    have hno : decide (LOk xs ys) = false:=by simp; exact fun h => hq (HK.out h).2
    have hq' : q < 0 ∨ 100 < q:=by omega
    obtain ⟨hp1, hp2⟩:=hp
    clear hq
    go_wp2_with (first | (go_at_call 67; refine (in_yes _ _ _ _ (by omega) (by omega)).mono ?_; rintro e w' ⟨rfl, rfl⟩) | (go_at_call 67; refine (in_no _ _ _ _ (by omega)).mono ?_; rintro e w' ⟨rfl, rfl⟩))
    go_ret
    exact ⟨by first | rfl | (rw [hno]; rfl), B0⟩
   have hno : decide (LOk xs ys) = false:=by simp; exact fun h => hp (HK.out h).1
   have hp' : p < 0 ∨ 400 < p:=by omega
   clear hp
   go_wp2_with (first | (go_at_call 67; refine (in_no _ _ _ _ (by omega)).mono ?_; rintro e w' ⟨rfl, rfl⟩))
   go_ret
   exact ⟨by first | rfl | (rw [hno]; rfl), B0⟩
  have hyes : decide (LOk xs ys) = true:=by simp; exact HL.out.2 fun j hj => hall.out j (by omega)
  have hk4 : k = 4:=by omega
  subst hk4
  clear cu cv
  go_wp2
  go_ret
  exact ⟨by first | rfl | (rw [hyes]; rfl), B0⟩

theorem specLedgerOk_short (u v : Value) (xs ys : List Int) (w : World) (hu : RI w u xs ∧ RI w v ys) (hn : xs.length ≠ 4 ∨ ys.length ≠ 4) :
 Calls Tryz.prog 122 #[lv u v] w fun o w' => o = .returned (.bool false) ∧ Below w.heap.size w w' := by
 obtain ⟨⟨l1, a1, c1, rfl, _⟩, ⟨l2, a2, c2, rfl, _⟩⟩:=hu
 by_cases h1 : xs.length = 4
 ·have h2 : ys.length ≠ 4:=by omega
  clear hn
  go_enter Tryz.func122, Tryz.ntmps122
  go_wp2
  go_ret
  exact ⟨rfl, (Below.refl _ _).alloc (Nat.le_refl _) _⟩
 clear hn
 go_enter Tryz.func122, Tryz.ntmps122
 go_wp2
 go_ret
 exact ⟨rfl, (Below.refl _ _).alloc (Nat.le_refl _) _⟩
theorem specLedgerOk (u v : Value) (xs ys : List Int) (w : World) (hu : RI w u xs ∧ RI w v ys) :
 Calls Tryz.prog 122 #[lv u v] w fun o w' => o = .returned (.bool (decide (LOk xs ys))) ∧ Below w.heap.size w w' := by
 by_cases h : xs.length = 4 ∧ ys.length = 4
 ·exact specLedgerOk_four u v xs ys w hu h.1 h.2
 have hn : ¬ LOk xs ys:=fun k => h ⟨k.1, k.2.1⟩
 have:=specLedgerOk_short u v xs ys w hu (by omega)
 simpa only [hn, decide_false] using this
end
section
open Go.RowKit
variable [∀ (m a b c d : Int), Decidable (In4 m a b c d)]
variable [∀ (xs ys : List Int), Decidable (LOk xs ys)]
variable [∀ (a b c d : Int), Decidable (Ok4 a b c d)]
def paidB (xs ys : List Int) (a b c d : Int) : List Int × List Int × Int :=
 if ¬ Ok4 a b c d then (xs, ys, 1)
 else if d < ys.getD a.toNat 0 then (xs, ys, 2)
 else if ys.getD a.toNat 0 < d then (xs, ys, 3)
 else if xs.getD a.toNat 0 < c then (xs, ys.set a.toNat (d + 1), 4)
 else if LOk ((xs.set a.toNat (xs.getD a.toNat 0 - c)).set b.toNat ((xs.set a.toNat (xs.getD a.toNat 0 - c)).getD b.toNat 0 + c)) (ys.set a.toNat (d + 1)) then
  ((xs.set a.toNat (xs.getD a.toNat 0 - c)).set b.toNat ((xs.set a.toNat (xs.getD a.toNat 0 - c)).getD b.toNat 0 + c), ys.set a.toNat (d + 1), 0)
 else (xs, ys, 1)
def payAns (xs ys : List Int) (a b c d : Int) : List Int × List Int × Int := if LOk xs ys then paidB xs ys a b c d else (xs, ys, 1)

theorem getD_set {xs : List Int} {A j : Nat} {v : Int} (h : A < xs.length) : (xs.set A v).getD j 0 = if A = j then v else xs.getD j 0 := by
 rw [List.getD_eq_getElem?_getD, List.getElem?_set, List.getD_eq_getElem?_getD]
 by_cases e : A = j
 ·rw [if_pos e, if_pos e, if_pos h]; rfl
 rw [if_neg e, if_neg e]
theorem lok_set {xs ys : List Int} {A : Nat} {v : Int} (h : LOk xs ys) (hA : A < 4) (h0 : 0 ≤ v) (h1 : v ≤ 100) : LOk xs (ys.set A v) := by
 obtain ⟨hx, hy, h⟩:=h
 refine ⟨hx, by simpa using hy, fun k hk => ⟨(h k hk).1, ?_⟩⟩
 rw [getD_set (by omega)]
 split
 ·exact ⟨h0, h1⟩
 exact (h k hk).2
theorem paidB_ok {xs ys : List Int} {a b c d : Int} (h : LOk xs ys) : LOk (paidB xs ys a b c d).1 (paidB xs ys a b c d).2.1 := by
 unfold paidB
 split
 ·exact h
 rename_i ho
 simp only [Decidable.not_not] at ho
 have ho':=ho
 unfold Ok4 at ho'
 split
 ·exact h
 split
 ·exact h
 split
 ·exact lok_set h (by omega) (by omega) (by omega)
 split
 ·rename_i h5; exact h5
 exact h
theorem paidB_len {xs ys : List Int} {a b c d : Int} : (paidB xs ys a b c d).1.length = xs.length ∧ (paidB xs ys a b c d).2.1.length = ys.length := by
 unfold paidB
 repeat' split
 all_goals simp
theorem payAns_len {xs ys : List Int} {a b c d : Int} : (payAns xs ys a b c d).1.length = xs.length ∧ (payAns xs ys a b c d).2.1.length = ys.length := by
 unfold payAns
 split
 ·exact paidB_len
 simp

abbrev b8L (xs ys : List Int) : Array Value := b8 (xs.getD 0 0) (xs.getD 1 0) (xs.getD 2 0) (xs.getD 3 0) (ys.getD 0 0) (ys.getD 1 0) (ys.getD 2 0) (ys.getD 3 0)
theorem b8L_next {xs ys : List Int} (hy : ys.length = 4) (A : Nat) (hA : A < 4) (v : Int) : (b8L xs ys).setIfInBounds (4 + A) (.int .i64 v) = b8L xs (ys.set A v) := by
 obtain ⟨e, f, g, h, rfl⟩:=four_of hy
 match A, hA with
 | 0, _ => rfl
 | 1, _ => rfl
 | 2, _ => rfl
 | 3, _ => rfl
theorem b8L_has {xs ys : List Int} (hx : xs.length = 4) (A : Nat) (hA : A < 4) (v : Int) : (b8L xs ys).setIfInBounds A (.int .i64 v) = b8L (xs.set A v) ys := by
 obtain ⟨e, f, g, h, rfl⟩:=four_of hx
 match A, hA with
 | 0, _ => rfl
 | 1, _ => rfl
 | 2, _ => rfl
 | 3, _ => rfl
theorem Loc.hasAt {w : World} {G : Nat} {xs ys : List Int} (l : Loc w G (b8L xs ys)) (A : Nat) (hA : A < 4) : w.cell? ⟨G, A, none⟩ = some (.int .i64 (xs.getD A 0)) := by
 match A, hA with
 | 0, _ => exact l.cell 0 rfl
 | 1, _ => exact l.cell 1 rfl
 | 2, _ => exact l.cell 2 rfl
 | 3, _ => exact l.cell 3 rfl
theorem Loc.nextAt {w : World} {G : Nat} {xs ys : List Int} (l : Loc w G (b8L xs ys)) (A : Nat) (hA : A < 4) : w.cell? ⟨G, 4 + A, none⟩ = some (.int .i64 (ys.getD A 0)) := by
 match A, hA with
 | 0, _ => exact l.cell 4 rfl
 | 1, _ => exact l.cell 5 rfl
 | 2, _ => exact l.cell 6 rfl
 | 3, _ => exact l.cell 7 rfl
theorem paid_bad (a b c d : Int) (xs ys : List Int) (w : World) (h : ¬ Ok4 a b c d) :
 Calls Tryz.prog 95 #[txv a b c d,.agg (b8L xs ys)] w fun o w' => o = .returned (.tuple #[.agg (b8L xs ys),.int .i64 1]) ∧ Below w.heap.size w w' := by
 have TO:=hide fun w => implTxOk_no a b c d w h
 clear h
 unfold b8L
 generalize xs.getD 0 0 = x0 at *
 generalize xs.getD 1 0 = x1 at *
 generalize xs.getD 2 0 = x2 at *
 generalize xs.getD 3 0 = x3 at *
 generalize ys.getD 0 0 = y0 at *
 generalize ys.getD 1 0 = y1 at *
 generalize ys.getD 2 0 = y2 at *
 generalize ys.getD 3 0 = y3 at *
 obtain ⟨w0, hw0⟩ : ∃ w0, ((w.alloc (.cells (r4 a b c d) 119)).alloc (.cells (b8 x0 x1 x2 x3 y0 y1 y2 y3) 149)).alloc (.cells (b8 0 0 0 0 0 0 0 0) 149) = w0:=⟨_, rfl⟩
 have B0 : Below w.heap.size w w0:=hw0 ▸ (((Below.refl w.heap.size w).alloc (Nat.le_refl _) _).alloc (by simp) _).alloc (by simp; omega) _
 have T0 : Loc w0 w.heap.size (r4 a b c d):=hw0 ▸ ((loc_at w _ _ rfl).alloc _).alloc _
 have K0 : Loc w0 (w.heap.size + 1) (b8 x0 x1 x2 x3 y0 y1 y2 y3):=hw0 ▸ (loc_at _ _ _ (by simp)).alloc _
 have R0 : Loc w0 (w.heap.size + 1 + 1) (b8 0 0 0 0 0 0 0 0):=hw0 ▸ loc_at _ _ _ (by simp)
 obtain ⟨p0, p1, p2, p3⟩:=T0.cells4
 go_enter Tryz.func95, Tryz.ntmps95
 go_wp2_with fail
 clear hw0
 refine (TO.out _).mono ?_
 rintro _ w1 ⟨rfl, b1⟩
 have B1:=bu B0 b1
 have K1:=K0.up b1
 have R1:=R0.up b1
 clear B0 T0 K0 R0 p0 p1 p2 p3 b1
 obtain ⟨⟨p0, p1, p2, p3⟩, ⟨p4, p5, p6, p7⟩⟩:=K1.c8
 obtain ⟨⟨q0, q1, q2, q3⟩, ⟨q4, q5, q6, q7⟩⟩:=R1.c8
 have FR:=R1.frozen
 go_wp2
 refine bodyPost_ret (v := .tuple #[bkv x0 x1 x2 x3 y0 y1 y2 y3,.int .i64 1]) (by simp [results, Tryz.results95, go_sem, q0, q1, q2, q3, q4, q5, q6, q7]) rfl ?_
 exact ⟨rfl, put8_below B1 (by omega) _ _ _ _ _ _ _ _⟩

theorem paid_old (A : Nat) (b c d : Int) (xs ys : List Int) (w : World) (hA : A < 4) (ho : Ok4 A b c d) (h : d < ys.getD A 0) :
 Calls Tryz.prog 95 #[txv A b c d,.agg (b8L xs ys)] w fun o w' => o = .returned (.tuple #[.agg (b8L xs ys),.int .i64 2]) ∧ Below w.heap.size w w' := by
 have TO:=hide fun w => implTxOk_yes A b c d w ho
 obtain ⟨w0, hw0⟩ : ∃ w0, ((w.alloc (.cells (r4 A b c d) 119)).alloc (.cells (b8L xs ys) 149)).alloc (.cells (b8 0 0 0 0 0 0 0 0) 149) = w0:=⟨_, rfl⟩
 have B0 : Below w.heap.size w w0:=hw0 ▸ (((Below.refl w.heap.size w).alloc (Nat.le_refl _) _).alloc (by simp) _).alloc (by simp; omega) _
 have T0 : Loc w0 w.heap.size (r4 A b c d):=hw0 ▸ ((loc_at w _ _ rfl).alloc _).alloc _
 have K0 : Loc w0 (w.heap.size + 1) (b8L xs ys):=hw0 ▸ (loc_at _ _ _ (by simp)).alloc _
 have R0 : Loc w0 (w.heap.size + 1 + 1) (b8 0 0 0 0 0 0 0 0):=hw0 ▸ loc_at _ _ _ (by simp)
 have C0:=hide fun w' (hb : Below w0.heap.size w0 w') => (K0.up hb).nextAt A hA
 have D0:=hide fun w' (hb : Below w0.heap.size w0 w') => (K0.up hb).hasAt A hA
 unfold b8L at *
 generalize ys.getD A 0 = n at *
 generalize xs.getD A 0 = m at *
 generalize xs.getD 0 0 = x0 at *
 generalize xs.getD 1 0 = x1 at *
 generalize xs.getD 2 0 = x2 at *
 generalize xs.getD 3 0 = x3 at *
 generalize ys.getD 0 0 = y0 at *
 generalize ys.getD 1 0 = y1 at *
 generalize ys.getD 2 0 = y2 at *
 generalize ys.getD 3 0 = y3 at *
 obtain ⟨p0, p1, p2, p3⟩:=T0.cells4
 go_enter Tryz.func95, Tryz.ntmps95
 go_wp2_with fail
 clear hw0
 refine (TO.out _).mono ?_
 rintro _ w1 ⟨rfl, b1⟩
 have B1:=bu B0 b1
 have T1:=T0.up b1
 have K1:=K0.up b1
 have R1:=R0.up b1
 have c1:=C0.out _ b1
 have d1:=D0.out _ b1
 clear B0 T0 K0 R0 p0 p1 p2 p3 b1 C0 D0
 obtain ⟨t0, t1, t2, t3⟩:=T1.cells4
 obtain ⟨⟨p0, p1, p2, p3⟩, ⟨p4, p5, p6, p7⟩⟩:=K1.c8
 obtain ⟨⟨q0, q1, q2, q3⟩, ⟨q4, q5, q6, q7⟩⟩:=R1.c8
 have FR:=R1.frozen
 have hA1 : (A : Int) < 4:=by omega
 go_wp2_with fail
 go_quiet (fail)
 go_wp2
 refine bodyPost_ret (v := .tuple #[bkv x0 x1 x2 x3 y0 y1 y2 y3,.int .i64 2]) (by simp [results, Tryz.results95, go_sem, q0, q1, q2, q3, q4, q5, q6, q7]) rfl ?_
 exact ⟨rfl, put8_below (below_drewN' B1 _) (by omega) _ _ _ _ _ _ _ _⟩

theorem paid_early (A : Nat) (b c d : Int) (xs ys : List Int) (w : World) (hA : A < 4) (ho : Ok4 A b c d) (h : ys.getD A 0 < d) :
 Calls Tryz.prog 95 #[txv A b c d,.agg (b8L xs ys)] w fun o w' => o = .returned (.tuple #[.agg (b8L xs ys),.int .i64 3]) ∧ Below w.heap.size w w' := by
 have TO:=hide fun w => implTxOk_yes A b c d w ho
 obtain ⟨w0, hw0⟩ : ∃ w0, ((w.alloc (.cells (r4 A b c d) 119)).alloc (.cells (b8L xs ys) 149)).alloc (.cells (b8 0 0 0 0 0 0 0 0) 149) = w0:=⟨_, rfl⟩
 have B0 : Below w.heap.size w w0:=hw0 ▸ (((Below.refl w.heap.size w).alloc (Nat.le_refl _) _).alloc (by simp) _).alloc (by simp; omega) _
 have T0 : Loc w0 w.heap.size (r4 A b c d):=hw0 ▸ ((loc_at w _ _ rfl).alloc _).alloc _
 have K0 : Loc w0 (w.heap.size + 1) (b8L xs ys):=hw0 ▸ (loc_at _ _ _ (by simp)).alloc _
 have R0 : Loc w0 (w.heap.size + 1 + 1) (b8 0 0 0 0 0 0 0 0):=hw0 ▸ loc_at _ _ _ (by simp)
 have C0:=hide fun w' (hb : Below w0.heap.size w0 w') => (K0.up hb).nextAt A hA
 have D0:=hide fun w' (hb : Below w0.heap.size w0 w') => (K0.up hb).hasAt A hA
 unfold b8L at *
 generalize ys.getD A 0 = n at *
 generalize xs.getD A 0 = m at *
 generalize xs.getD 0 0 = x0 at *
 generalize xs.getD 1 0 = x1 at *
 generalize xs.getD 2 0 = x2 at *
 generalize xs.getD 3 0 = x3 at *
 generalize ys.getD 0 0 = y0 at *
 generalize ys.getD 1 0 = y1 at *
 generalize ys.getD 2 0 = y2 at *
 generalize ys.getD 3 0 = y3 at *
 obtain ⟨p0, p1, p2, p3⟩:=T0.cells4
 go_enter Tryz.func95, Tryz.ntmps95
 go_wp2_with fail
 clear hw0
 refine (TO.out _).mono ?_
 rintro _ w1 ⟨rfl, b1⟩
 have B1:=bu B0 b1
 have T1:=T0.up b1
 have K1:=K0.up b1
 have R1:=R0.up b1
 have c1:=C0.out _ b1
 have d1:=D0.out _ b1
 clear B0 T0 K0 R0 p0 p1 p2 p3 b1 C0 D0
 obtain ⟨t0, t1, t2, t3⟩:=T1.cells4
 obtain ⟨⟨p0, p1, p2, p3⟩, ⟨p4, p5, p6, p7⟩⟩:=K1.c8
 obtain ⟨⟨q0, q1, q2, q3⟩, ⟨q4, q5, q6, q7⟩⟩:=R1.c8
 have FR:=R1.frozen
 have hA1 : (A : Int) < 4:=by omega
 have h' : ¬ d < n:=by omega
 go_wp2_with fail
 go_quiet (fail)
 go_wp2_with fail
 go_quiet (fail)
 go_wp2
 refine bodyPost_ret (v := .tuple #[bkv x0 x1 x2 x3 y0 y1 y2 y3,.int .i64 3]) (by simp [results, Tryz.results95, go_sem, q0, q1, q2, q3, q4, q5, q6, q7]) rfl ?_
 exact ⟨rfl, put8_below (below_drewN' B1 _) (by omega) _ _ _ _ _ _ _ _⟩
theorem paid_poor (A : Nat) (b c d : Int) (xs ys : List Int) (w : World) (hA : A < 4) (hy : ys.length = 4) (ho : Ok4 A b c d) (hn : ys.getD A 0 = d) (h : xs.getD A 0 < c) :
 Calls Tryz.prog 95 #[txv A b c d,.agg (b8L xs ys)] w fun o w' => o = .returned (.tuple #[.agg (b8L xs (ys.set A (d + 1))),.int .i64 4]) ∧ Below w.heap.size w w' := by
 have TO:=hide fun w => implTxOk_yes A b c d w ho
 obtain ⟨w0, hw0⟩ : ∃ w0, ((w.alloc (.cells (r4 A b c d) 119)).alloc (.cells (b8L xs ys) 149)).alloc (.cells (b8 0 0 0 0 0 0 0 0) 149) = w0:=⟨_, rfl⟩
 have B0 : Below w.heap.size w w0:=hw0 ▸ (((Below.refl w.heap.size w).alloc (Nat.le_refl _) _).alloc (by simp) _).alloc (by simp; omega) _
 have T0 : Loc w0 w.heap.size (r4 A b c d):=hw0 ▸ ((loc_at w _ _ rfl).alloc _).alloc _
 have K0 : Loc w0 (w.heap.size + 1) (b8L xs ys):=hw0 ▸ (loc_at _ _ _ (by simp)).alloc _
 have R0 : Loc w0 (w.heap.size + 1 + 1) (b8 0 0 0 0 0 0 0 0):=hw0 ▸ loc_at _ _ _ (by simp)
 have C0:=hide fun w' (hb : Below w0.heap.size w0 w') => (K0.up hb).nextAt A hA
 have D0:=hide fun w' (hb : Below w0.heap.size w0 w') => (K0.up hb).hasAt A hA
 have HN : Hid (∀ w' G, Loc w' G (b8L xs ys) → w'.cell? ⟨G, 4 + A, none⟩ = some (.int .i64 (ys.getD A 0)) ∧ w'.cell? ⟨G, A, none⟩ = some (.int .i64 (xs.getD A 0))):=hide fun w' G l => ⟨l.nextAt A hA, l.hasAt A hA⟩
 have HS : Hid (∀ w' G, Loc w' G (b8L xs ys) → Loc (w'.setCell ⟨G, 4 + A, none⟩ (.int .i64 (d + 1))) G (b8L xs (ys.set A (d + 1)))):=hide fun w' G l => l.set _ _ (b8L_next hy A hA _)
 unfold b8L at *
 rw [hn] at *
 generalize xs.getD A 0 = m at *
 generalize (ys.set A (d + 1)).getD 0 0 = z0 at *
 generalize (ys.set A (d + 1)).getD 1 0 = z1 at *
 generalize (ys.set A (d + 1)).getD 2 0 = z2 at *
 generalize (ys.set A (d + 1)).getD 3 0 = z3 at *
 generalize xs.getD 0 0 = x0 at *
 generalize xs.getD 1 0 = x1 at *
 generalize xs.getD 2 0 = x2 at *
 generalize xs.getD 3 0 = x3 at *
 generalize ys.getD 0 0 = y0 at *
 generalize ys.getD 1 0 = y1 at *
 generalize ys.getD 2 0 = y2 at *
 generalize ys.getD 3 0 = y3 at *
 obtain ⟨p0, p1, p2, p3⟩:=T0.cells4
 go_enter Tryz.func95, Tryz.ntmps95
 go_wp2_with fail
 clear hw0
 refine (TO.out _).mono ?_
 rintro _ w1 ⟨rfl, b1⟩
 have B1:=bu B0 b1
 have T1:=T0.up b1
 have K1:=K0.up b1
 have R1:=R0.up b1
 have c1:=C0.out _ b1
 have d1:=D0.out _ b1
 clear B0 T0 K0 R0 p0 p1 p2 p3 b1 C0 D0
 obtain ⟨t0, t1, t2, t3⟩:=T1.cells4
 obtain ⟨⟨p0, p1, p2, p3⟩, ⟨p4, p5, p6, p7⟩⟩:=K1.c8
 obtain ⟨⟨q0, q1, q2, q3⟩, ⟨q4, q5, q6, q7⟩⟩:=R1.c8
 have FR:=R1.frozen
 have hA1 : (A : Int) < 4:=by omega
 have ho1 : 0 ≤ d ∧ d ≤ 99:=by unfold Ok4 at ho; omega
 go_wp2_with fail
 go_quiet (fail)
 go_wp2_with fail
 go_quiet (fail)
 generalize hwd : World.drewN (World.drewN w1 _) _ = w2
 have B2 : Below w.heap.size w w2:=hwd ▸ below_drewN' (below_drewN' B1 _) _
 have T2 : Loc w2 w.heap.size (r4 A b c d):=hwd ▸ (T1.drewN _).drewN _
 have K2 : Loc w2 (w.heap.size + 1) (b8 x0 x1 x2 x3 y0 y1 y2 y3):=hwd ▸ (K1.drewN _).drewN _
 have R2 : Loc w2 (w.heap.size + 1 + 1) (b8 0 0 0 0 0 0 0 0):=hwd ▸ (R1.drewN _).drewN _
 clear hwd B1 T1 K1 R1 c1 d1 t0 t1 t2 t3 p0 p1 p2 p3 p4 p5 p6 p7 q0 q1 q2 q3 q4 q5 q6 q7 FR
 have lr:=R2.lt
 obtain ⟨w3, hw3⟩ : ∃ w3, w2.alloc (.cells (b8 x0 x1 x2 x3 y0 y1 y2 y3) 149) = w3:=⟨_, rfl⟩
 have b3 : Below w2.heap.size w2 w3:=hw3 ▸ (Below.refl _ _).alloc (Nat.le_refl _) _
 have A3 : Loc w3 w2.heap.size (b8 x0 x1 x2 x3 y0 y1 y2 y3):=hw3 ▸ loc_at w2 _ _ rfl
 obtain ⟨w4, hw4⟩ : ∃ w4, w3.setCell ⟨w2.heap.size, 4 + A, none⟩ (.int .i64 (d + 1)) = w4:=⟨_, rfl⟩
 have A4 : Loc w4 w2.heap.size (b8 x0 x1 x2 x3 z0 z1 z2 z3):=hw4 ▸ HS.out _ _ A3
 have b4 : Below w2.heap.size w2 w4:=hw4 ▸ Below.set b3 _ _ (Nat.le_refl _)
 have T4:=T2.up b4
 have K4:=K2.up b4
 have R4:=R2.up b4
 have B4:=bu B2 b4
 obtain ⟨⟨p0, p1, p2, p3⟩, ⟨p4, p5, p6, p7⟩⟩:=K2.c8
 have n3:=(HN.out _ _ A3).1
 have FA:=A3.frozen
 obtain ⟨t0, t1, t2, t3⟩:=(T2.up b3).cells4
 obtain ⟨u0, u1, u2, u3⟩:=T4.cells4
 have m4:=(HN.out _ _ K4).2
 clear A3 b3 HN HS
 go_wp2_with fail
 clear hw3 hw4 n3 FA t0 t1 t2 t3 p0 p1 p2 p3 p4 p5 p6 p7
 go_quiet (fail)
 obtain ⟨⟨p0, p1, p2, p3⟩, ⟨p4, p5, p6, p7⟩⟩:=A4.c8
 obtain ⟨⟨q0, q1, q2, q3⟩, ⟨q4, q5, q6, q7⟩⟩:=R4.c8
 have FR:=R4.frozen
 go_wp2
 refine bodyPost_ret (v := .tuple #[bkv x0 x1 x2 x3 z0 z1 z2 z3,.int .i64 4]) (by simp [results, Tryz.results95, go_sem, q0, q1, q2, q3, q4, q5, q6, q7]) rfl ?_
 exact ⟨rfl, put8_below (below_drewN' B4 _) (by omega) _ _ _ _ _ _ _ _⟩
theorem ok_lists {xs ys : List Int} (w : World) (hx : xs.length = 4) (hy : ys.length = 4) :
 Calls Tryz.prog 153 #[.agg (b8L xs ys)] w fun o w' => o = .returned (.bool (decide (LOk xs ys))) ∧ Below w.heap.size w w' := by
 obtain ⟨a, b, c, d, rfl⟩:=four_of hx
 obtain ⟨e, f, g, h, rfl⟩:=four_of hy
 simp only [lok_four]
 exact ok_any a b c d e f g h w

theorem paid_done (A Bt : Nat) (c d : Int) (xs ys : List Int) (w : World) (hA : A < 4) (hB : Bt < 4) (hx : xs.length = 4) (hy : ys.length = 4) (ho : Ok4 A Bt c d) (hn : ys.getD A 0 = d) (h : c ≤ xs.getD A 0) (hm : xs.getD A 0 ≤ 400) (hr : 0 ≤ (xs.set A (xs.getD A 0 - c)).getD Bt 0 ∧ (xs.set A (xs.getD A 0 - c)).getD Bt 0 ≤ 400)
 (hq : decide (LOk ((xs.set A (xs.getD A 0 - c)).set Bt ((xs.set A (xs.getD A 0 - c)).getD Bt 0 + c)) (ys.set A (d + 1))) = true) :
 Calls Tryz.prog 95 #[txv A Bt c d,.agg (b8L xs ys)] w fun o w' => o = .returned (.tuple #[.agg (b8L ((xs.set A (xs.getD A 0 - c)).set Bt ((xs.set A (xs.getD A 0 - c)).getD Bt 0 + c)) (ys.set A (d + 1))),.int .i64 0]) ∧ Below w.heap.size w w' := by
 have TO:=hide fun w => implTxOk_yes A Bt c d w ho
 obtain ⟨w0, hw0⟩ : ∃ w0, ((w.alloc (.cells (r4 A Bt c d) 119)).alloc (.cells (b8L xs ys) 149)).alloc (.cells (b8 0 0 0 0 0 0 0 0) 149) = w0:=⟨_, rfl⟩
 have B0 : Below w.heap.size w w0:=hw0 ▸ (((Below.refl w.heap.size w).alloc (Nat.le_refl _) _).alloc (by simp) _).alloc (by simp; omega) _
 have T0 : Loc w0 w.heap.size (r4 A Bt c d):=hw0 ▸ ((loc_at w _ _ rfl).alloc _).alloc _
 have K0 : Loc w0 (w.heap.size + 1) (b8L xs ys):=hw0 ▸ (loc_at _ _ _ (by simp)).alloc _
 have R0 : Loc w0 (w.heap.size + 1 + 1) (b8 0 0 0 0 0 0 0 0):=hw0 ▸ loc_at _ _ _ (by simp)
 have C0:=hide fun w' (hb : Below w0.heap.size w0 w') => (K0.up hb).nextAt A hA
 have D0:=hide fun w' (hb : Below w0.heap.size w0 w') => (K0.up hb).hasAt A hA
 have HN : Hid (∀ w' G, Loc w' G (b8L xs ys) → w'.cell? ⟨G, 4 + A, none⟩ = some (.int .i64 (ys.getD A 0)) ∧ w'.cell? ⟨G, A, none⟩ = some (.int .i64 (xs.getD A 0))):=hide fun w' G l => ⟨l.nextAt A hA, l.hasAt A hA⟩
 have HS : Hid (∀ w' G, Loc w' G (b8L xs ys) → Loc (w'.setCell ⟨G, 4 + A, none⟩ (.int .i64 (d + 1))) G (b8L xs (ys.set A (d + 1)))):=hide fun w' G l => l.set _ _ (b8L_next hy A hA _)
 have HM : Hid (∀ w' G, Loc w' G (b8L xs (ys.set A (d + 1))) → w'.cell? ⟨G, A, none⟩ = some (.int .i64 (xs.getD A 0))):=hide fun w' G l => l.hasAt A hA
 have H1 : Hid (∀ w' G, Loc w' G (b8L xs (ys.set A (d + 1))) → Loc (w'.setCell ⟨G, A, none⟩ (.int .i64 (xs.getD A 0 - c))) G (b8L (xs.set A (xs.getD A 0 - c)) (ys.set A (d + 1)))):=hide fun w' G l => l.set _ _ (b8L_has hx A hA _)
 have HR : Hid (∀ w' G, Loc w' G (b8L (xs.set A (xs.getD A 0 - c)) (ys.set A (d + 1))) → w'.cell? ⟨G, Bt, none⟩ = some (.int .i64 ((xs.set A (xs.getD A 0 - c)).getD Bt 0))):=hide fun w' G l => l.hasAt Bt hB
 have H2 : Hid (∀ w' G, Loc w' G (b8L (xs.set A (xs.getD A 0 - c)) (ys.set A (d + 1))) → Loc (w'.setCell ⟨G, Bt, none⟩ (.int .i64 ((xs.set A (xs.getD A 0 - c)).getD Bt 0 + c))) G (b8L ((xs.set A (xs.getD A 0 - c)).set Bt ((xs.set A (xs.getD A 0 - c)).getD Bt 0 + c)) (ys.set A (d + 1)))):=hide fun w' G l => l.set _ _ (b8L_has (by simpa using hx) Bt hB _)
 have OK:=hide fun w => ok_lists (xs:=((xs.set A (xs.getD A 0 - c)).set Bt ((xs.set A (xs.getD A 0 - c)).getD Bt 0 + c))) (ys:=(ys.set A (d + 1))) w (by simpa using hx) (by simpa using hy)
 rw [hq] at OK
 unfold b8L at *
 rw [hn] at *
 generalize ((xs.set A (xs.getD A 0 - c)).set Bt ((xs.set A (xs.getD A 0 - c)).getD Bt 0 + c)).getD 0 0 = s0 at *
 generalize ((xs.set A (xs.getD A 0 - c)).set Bt ((xs.set A (xs.getD A 0 - c)).getD Bt 0 + c)).getD 1 0 = s1 at *
 generalize ((xs.set A (xs.getD A 0 - c)).set Bt ((xs.set A (xs.getD A 0 - c)).getD Bt 0 + c)).getD 2 0 = s2 at *
 generalize ((xs.set A (xs.getD A 0 - c)).set Bt ((xs.set A (xs.getD A 0 - c)).getD Bt 0 + c)).getD 3 0 = s3 at *
 generalize (xs.set A (xs.getD A 0 - c)).getD 0 0 = v0 at *
 generalize (xs.set A (xs.getD A 0 - c)).getD 1 0 = v1 at *
 generalize (xs.set A (xs.getD A 0 - c)).getD 2 0 = v2 at *
 generalize (xs.set A (xs.getD A 0 - c)).getD 3 0 = v3 at *
 generalize (xs.set A (xs.getD A 0 - c)).getD Bt 0 = r at *
 generalize xs.getD A 0 = m at *
 generalize (ys.set A (d + 1)).getD 0 0 = z0 at *
 generalize (ys.set A (d + 1)).getD 1 0 = z1 at *
 generalize (ys.set A (d + 1)).getD 2 0 = z2 at *
 generalize (ys.set A (d + 1)).getD 3 0 = z3 at *
 generalize xs.getD 0 0 = x0 at *
 generalize xs.getD 1 0 = x1 at *
 generalize xs.getD 2 0 = x2 at *
 generalize xs.getD 3 0 = x3 at *
 generalize ys.getD 0 0 = y0 at *
 generalize ys.getD 1 0 = y1 at *
 generalize ys.getD 2 0 = y2 at *
 generalize ys.getD 3 0 = y3 at *
 obtain ⟨p0, p1, p2, p3⟩:=T0.cells4
 go_enter Tryz.func95, Tryz.ntmps95
 go_wp2_with fail
 clear hw0
 refine (TO.out _).mono ?_
 rintro _ w1 ⟨rfl, b1⟩
 have B1:=bu B0 b1
 have T1:=T0.up b1
 have K1:=K0.up b1
 have R1:=R0.up b1
 have c1:=C0.out _ b1
 have d1:=D0.out _ b1
 clear B0 T0 K0 R0 p0 p1 p2 p3 b1 C0 D0
 obtain ⟨t0, t1, t2, t3⟩:=T1.cells4
 obtain ⟨⟨p0, p1, p2, p3⟩, ⟨p4, p5, p6, p7⟩⟩:=K1.c8
 obtain ⟨⟨q0, q1, q2, q3⟩, ⟨q4, q5, q6, q7⟩⟩:=R1.c8
 have FR:=R1.frozen
 have hA1 : (A : Int) < 4:=by omega
 have ho1 : 0 ≤ d ∧ d ≤ 99:=by unfold Ok4 at ho; omega
 have ho2 : 0 ≤ c ∧ c ≤ 1000:=by unfold Ok4 at ho; omega
 clear ho hq
 go_wp2_with fail
 go_quiet (fail)
 go_wp2_with fail
 go_quiet (fail)
 generalize hwd : World.drewN (World.drewN w1 _) _ = w2
 have B2 : Below w.heap.size w w2:=hwd ▸ below_drewN' (below_drewN' B1 _) _
 have T2 : Loc w2 w.heap.size (r4 A Bt c d):=hwd ▸ (T1.drewN _).drewN _
 have K2 : Loc w2 (w.heap.size + 1) (b8 x0 x1 x2 x3 y0 y1 y2 y3):=hwd ▸ (K1.drewN _).drewN _
 have R2 : Loc w2 (w.heap.size + 1 + 1) (b8 0 0 0 0 0 0 0 0):=hwd ▸ (R1.drewN _).drewN _
 clear hwd B1 T1 K1 R1 c1 d1 t0 t1 t2 t3 p0 p1 p2 p3 p4 p5 p6 p7 q0 q1 q2 q3 q4 q5 q6 q7 FR
 have lr:=R2.lt
 obtain ⟨w3, hw3⟩ : ∃ w3, w2.alloc (.cells (b8 x0 x1 x2 x3 y0 y1 y2 y3) 149) = w3:=⟨_, rfl⟩
 have b3 : Below w2.heap.size w2 w3:=hw3 ▸ (Below.refl _ _).alloc (Nat.le_refl _) _
 have A3 : Loc w3 w2.heap.size (b8 x0 x1 x2 x3 y0 y1 y2 y3):=hw3 ▸ loc_at w2 _ _ rfl
 obtain ⟨w4, hw4⟩ : ∃ w4, w3.setCell ⟨w2.heap.size, 4 + A, none⟩ (.int .i64 (d + 1)) = w4:=⟨_, rfl⟩
 have A4 : Loc w4 w2.heap.size (b8 x0 x1 x2 x3 z0 z1 z2 z3):=hw4 ▸ HS.out _ _ A3
 have b4 : Below w2.heap.size w2 w4:=hw4 ▸ Below.set b3 _ _ (Nat.le_refl _)
 have T4:=T2.up b4
 have K4:=K2.up b4
 have R4:=R2.up b4
 have B4:=bu B2 b4
 obtain ⟨⟨p0, p1, p2, p3⟩, ⟨p4, p5, p6, p7⟩⟩:=K2.c8
 have n3:=(HN.out _ _ A3).1
 have FA:=A3.frozen
 obtain ⟨t0, t1, t2, t3⟩:=(T2.up b3).cells4
 obtain ⟨u0, u1, u2, u3⟩:=T4.cells4
 have m4:=(HN.out _ _ K4).2
 clear A3 b3 HN HS
 go_wp2_with fail
 clear hw3 hw4 n3 FA t0 t1 t2 t3 p0 p1 p2 p3 p4 p5 p6 p7
 go_quiet (fail)
 generalize hwd : World.drewN w4 _ = w5
 have B5 : Below w.heap.size w w5:=hwd ▸ below_drewN' B4 _
 have T5 : Loc w5 w.heap.size (r4 A Bt c d):=hwd ▸ T4.drewN _
 have K5 : Loc w5 (w.heap.size + 1) (b8 x0 x1 x2 x3 y0 y1 y2 y3):=hwd ▸ K4.drewN _
 have R5 : Loc w5 (w.heap.size + 1 + 1) (b8 0 0 0 0 0 0 0 0):=hwd ▸ R4.drewN _
 have A5 : Loc w5 w2.heap.size (b8 x0 x1 x2 x3 z0 z1 z2 z3):=hwd ▸ A4.drewN _
 clear hwd B4 T4 K4 R4 A4 u0 u1 u2 u3 m4 T2 K2 R2 B2 b4
 have m5:=HM.out _ _ A5
 have FA:=A5.frozen
 have hB1 : (Bt : Int) < 4:=by omega
 have wr1 : IntKind.i64.wrap (m - c) = m - c:=by rw [IntKind.wrap_i64]; omega
 have wr2 : IntKind.i64.wrap (r + c) = r + c:=by rw [IntKind.wrap_i64]; omega
 obtain ⟨w6, hw6⟩ : ∃ w6, (w5.setCell ⟨w2.heap.size, A, none⟩ (.int .i64 (m - c))).drew = w6:=⟨_, rfl⟩
 have A6 : Loc w6 w2.heap.size (b8 v0 v1 v2 v3 z0 z1 z2 z3):=hw6 ▸ H1.out _ _ A5
 have T6 : Loc w6 w.heap.size (r4 A Bt c d):=hw6 ▸ T5.other (by simp; omega) _
 have K6 : Loc w6 (w.heap.size + 1) (b8 x0 x1 x2 x3 y0 y1 y2 y3):=hw6 ▸ K5.other (by simp; omega) _
 have R6 : Loc w6 (w.heap.size + 1 + 1) (b8 0 0 0 0 0 0 0 0):=hw6 ▸ R5.other (by simp; omega) _
 have B6 : Below w.heap.size w w6:=hw6 ▸ Below.drew (Below.set B5 _ _ (by omega))
 go_wp2_with fail
 refine wp_region_noPanic ?_
 refine wp_region_held_drew (S := (fun w' => (w'.cell? ⟨w.heap.size, 0, none⟩ = some (.int .i64 A) ∧ w'.cell? ⟨w.heap.size, 1, none⟩ = some (.int .i64 Bt)) ∧ w'.cell? ⟨w.heap.size, 2, none⟩ = some (.int .i64 c))) (by kernel_rfl) ⟨⟨T5.cell 0 rfl, T5.cell 1 rfl⟩, T5.cell 2 rfl⟩ (fun hHeld => ?_)
 refine tx 0 47 ?_
 refine tx 1 48 ?_
 refine tx 2 49 ?_
 refine tx 3 50 ?_
 refine tx 5 52 ?_
 refine tx 6 53 ?_
 refine tx 8 55 ?_
 refine rd 4 rfl (fun KK hKK => ?_)
 go_simp
 clear hHeld
 refine hKK.out _ _ ⟨⟨T5.cell 0 rfl, T5.cell 1 rfl⟩, T5.cell 2 rfl⟩ (fun hHeld => ?_)
 clear hKK KK
 refine tx 7 54 ?_
 refine tx 9 56 ?_
 refine rd 10 rfl (fun KK hKK => ?_)
 go_simp
 clear hHeld
 refine hKK.out _ _ ⟨⟨T6.cell 0 rfl, T6.cell 1 rfl⟩, T6.cell 2 rfl⟩ (fun hHeld => ?_)
 clear hKK KK hHeld hw6 m5 FA
 refine wdn ?_
 clear A5 T5 K5 R5 B5 HM H1
 have r6:=HR.out _ _ A6
 have FA:=A6.frozen
 obtain ⟨w7, hw7⟩ : ∃ w7, (w6.setCell ⟨w2.heap.size, Bt, none⟩ (.int .i64 (r + c))).drew = w7:=⟨_, rfl⟩
 have A7 : Loc w7 w2.heap.size (b8 s0 s1 s2 s3 z0 z1 z2 z3):=hw7 ▸ H2.out _ _ A6
 have T7 : Loc w7 w.heap.size (r4 A Bt c d):=hw7 ▸ T6.other (by simp; omega) _
 have K7 : Loc w7 (w.heap.size + 1) (b8 x0 x1 x2 x3 y0 y1 y2 y3):=hw7 ▸ K6.other (by simp; omega) _
 have R7 : Loc w7 (w.heap.size + 1 + 1) (b8 0 0 0 0 0 0 0 0):=hw7 ▸ R6.other (by simp; omega) _
 have B7 : Below w.heap.size w w7:=hw7 ▸ Below.drew (Below.set B6 _ _ (by omega))
 go_wp2_with fail
 refine wp_region_noPanic ?_
 refine wp_region_held_drew (S := (fun w' => (w'.cell? ⟨w.heap.size, 0, none⟩ = some (.int .i64 A) ∧ w'.cell? ⟨w.heap.size, 1, none⟩ = some (.int .i64 Bt)) ∧ w'.cell? ⟨w.heap.size, 2, none⟩ = some (.int .i64 c))) (by kernel_rfl) ⟨⟨T6.cell 0 rfl, T6.cell 1 rfl⟩, T6.cell 2 rfl⟩ (fun hHeld => ?_)
 refine tx 0 57 ?_
 refine tx 1 58 ?_
 refine tx 2 59 ?_
 refine tx 3 60 ?_
 refine tx 5 62 ?_
 refine tx 6 63 ?_
 refine tx 8 65 ?_
 refine rd 4 rfl (fun KK hKK => ?_)
 go_simp
 clear hHeld
 refine hKK.out _ _ ⟨⟨T6.cell 0 rfl, T6.cell 1 rfl⟩, T6.cell 2 rfl⟩ (fun hHeld => ?_)
 clear hKK KK
 refine tx 7 64 ?_
 refine tx 9 66 ?_
 refine rd 10 rfl (fun KK hKK => ?_)
 go_simp
 clear hHeld
 refine hKK.out _ _ ⟨⟨T7.cell 0 rfl, T7.cell 1 rfl⟩, T7.cell 2 rfl⟩ (fun hHeld => ?_)
 clear hKK KK hHeld hw7 r6 FA
 refine wdn ?_
 clear A6 T6 K6 R6 B6 HR H2 T7
 obtain ⟨⟨p0, p1, p2, p3⟩, ⟨p4, p5, p6, p7⟩⟩:=A7.c8
 go_wp2_with fail
 refine (OK.out _).mono ?_
 rintro _ w8 ⟨rfl, b8⟩
 have A8:=A7.up b8
 have K8:=K7.up b8
 have R8:=R7.up b8
 have B8:=bu B7 b8
 clear p0 p1 p2 p3 p4 p5 p6 p7 A7 K7 R7 B7 b8 OK
 obtain ⟨⟨q0, q1, q2, q3⟩, ⟨q4, q5, q6, q7⟩⟩:=R8.c8
 have FR:=R8.frozen
 obtain ⟨⟨p0, p1, p2, p3⟩, ⟨p4, p5, p6, p7⟩⟩:=A8.c8
 go_wp2
 refine bodyPost_ret (v := .tuple #[bkv s0 s1 s2 s3 z0 z1 z2 z3,.int .i64 0]) (by simp [results, Tryz.results95, go_sem, q0, q1, q2, q3, q4, q5, q6, q7]) rfl ?_
 exact ⟨rfl, put8_below B8 (by omega) _ _ _ _ _ _ _ _⟩
theorem paid_over (A Bt : Nat) (c d : Int) (xs ys : List Int) (w : World) (hA : A < 4) (hB : Bt < 4) (hx : xs.length = 4) (hy : ys.length = 4) (ho : Ok4 A Bt c d) (hn : ys.getD A 0 = d) (h : c ≤ xs.getD A 0) (hm : xs.getD A 0 ≤ 400) (hr : 0 ≤ (xs.set A (xs.getD A 0 - c)).getD Bt 0 ∧ (xs.set A (xs.getD A 0 - c)).getD Bt 0 ≤ 400)
 (hq : decide (LOk ((xs.set A (xs.getD A 0 - c)).set Bt ((xs.set A (xs.getD A 0 - c)).getD Bt 0 + c)) (ys.set A (d + 1))) = false) :
 Calls Tryz.prog 95 #[txv A Bt c d,.agg (b8L xs ys)] w fun o w' => o = .returned (.tuple #[.agg (b8L xs ys),.int .i64 1]) ∧ Below w.heap.size w w' := by
 have TO:=hide fun w => implTxOk_yes A Bt c d w ho
 obtain ⟨w0, hw0⟩ : ∃ w0, ((w.alloc (.cells (r4 A Bt c d) 119)).alloc (.cells (b8L xs ys) 149)).alloc (.cells (b8 0 0 0 0 0 0 0 0) 149) = w0:=⟨_, rfl⟩
 have B0 : Below w.heap.size w w0:=hw0 ▸ (((Below.refl w.heap.size w).alloc (Nat.le_refl _) _).alloc (by simp) _).alloc (by simp; omega) _
 have T0 : Loc w0 w.heap.size (r4 A Bt c d):=hw0 ▸ ((loc_at w _ _ rfl).alloc _).alloc _
 have K0 : Loc w0 (w.heap.size + 1) (b8L xs ys):=hw0 ▸ (loc_at _ _ _ (by simp)).alloc _
 have R0 : Loc w0 (w.heap.size + 1 + 1) (b8 0 0 0 0 0 0 0 0):=hw0 ▸ loc_at _ _ _ (by simp)
 have C0:=hide fun w' (hb : Below w0.heap.size w0 w') => (K0.up hb).nextAt A hA
 have D0:=hide fun w' (hb : Below w0.heap.size w0 w') => (K0.up hb).hasAt A hA
 have HN : Hid (∀ w' G, Loc w' G (b8L xs ys) → w'.cell? ⟨G, 4 + A, none⟩ = some (.int .i64 (ys.getD A 0)) ∧ w'.cell? ⟨G, A, none⟩ = some (.int .i64 (xs.getD A 0))):=hide fun w' G l => ⟨l.nextAt A hA, l.hasAt A hA⟩
 have HS : Hid (∀ w' G, Loc w' G (b8L xs ys) → Loc (w'.setCell ⟨G, 4 + A, none⟩ (.int .i64 (d + 1))) G (b8L xs (ys.set A (d + 1)))):=hide fun w' G l => l.set _ _ (b8L_next hy A hA _)
 have HM : Hid (∀ w' G, Loc w' G (b8L xs (ys.set A (d + 1))) → w'.cell? ⟨G, A, none⟩ = some (.int .i64 (xs.getD A 0))):=hide fun w' G l => l.hasAt A hA
 have H1 : Hid (∀ w' G, Loc w' G (b8L xs (ys.set A (d + 1))) → Loc (w'.setCell ⟨G, A, none⟩ (.int .i64 (xs.getD A 0 - c))) G (b8L (xs.set A (xs.getD A 0 - c)) (ys.set A (d + 1)))):=hide fun w' G l => l.set _ _ (b8L_has hx A hA _)
 have HR : Hid (∀ w' G, Loc w' G (b8L (xs.set A (xs.getD A 0 - c)) (ys.set A (d + 1))) → w'.cell? ⟨G, Bt, none⟩ = some (.int .i64 ((xs.set A (xs.getD A 0 - c)).getD Bt 0))):=hide fun w' G l => l.hasAt Bt hB
 have H2 : Hid (∀ w' G, Loc w' G (b8L (xs.set A (xs.getD A 0 - c)) (ys.set A (d + 1))) → Loc (w'.setCell ⟨G, Bt, none⟩ (.int .i64 ((xs.set A (xs.getD A 0 - c)).getD Bt 0 + c))) G (b8L ((xs.set A (xs.getD A 0 - c)).set Bt ((xs.set A (xs.getD A 0 - c)).getD Bt 0 + c)) (ys.set A (d + 1)))):=hide fun w' G l => l.set _ _ (b8L_has (by simpa using hx) Bt hB _)
 have OK:=hide fun w => ok_lists (xs:=((xs.set A (xs.getD A 0 - c)).set Bt ((xs.set A (xs.getD A 0 - c)).getD Bt 0 + c))) (ys:=(ys.set A (d + 1))) w (by simpa using hx) (by simpa using hy)
 rw [hq] at OK
 unfold b8L at *
 rw [hn] at *
 generalize ((xs.set A (xs.getD A 0 - c)).set Bt ((xs.set A (xs.getD A 0 - c)).getD Bt 0 + c)).getD 0 0 = s0 at *
 generalize ((xs.set A (xs.getD A 0 - c)).set Bt ((xs.set A (xs.getD A 0 - c)).getD Bt 0 + c)).getD 1 0 = s1 at *
 generalize ((xs.set A (xs.getD A 0 - c)).set Bt ((xs.set A (xs.getD A 0 - c)).getD Bt 0 + c)).getD 2 0 = s2 at *
 generalize ((xs.set A (xs.getD A 0 - c)).set Bt ((xs.set A (xs.getD A 0 - c)).getD Bt 0 + c)).getD 3 0 = s3 at *
 generalize (xs.set A (xs.getD A 0 - c)).getD 0 0 = v0 at *
 generalize (xs.set A (xs.getD A 0 - c)).getD 1 0 = v1 at *
 generalize (xs.set A (xs.getD A 0 - c)).getD 2 0 = v2 at *
 generalize (xs.set A (xs.getD A 0 - c)).getD 3 0 = v3 at *
 generalize (xs.set A (xs.getD A 0 - c)).getD Bt 0 = r at *
 generalize xs.getD A 0 = m at *
 generalize (ys.set A (d + 1)).getD 0 0 = z0 at *
 generalize (ys.set A (d + 1)).getD 1 0 = z1 at *
 generalize (ys.set A (d + 1)).getD 2 0 = z2 at *
 generalize (ys.set A (d + 1)).getD 3 0 = z3 at *
 generalize xs.getD 0 0 = x0 at *
 generalize xs.getD 1 0 = x1 at *
 generalize xs.getD 2 0 = x2 at *
 generalize xs.getD 3 0 = x3 at *
 generalize ys.getD 0 0 = y0 at *
 generalize ys.getD 1 0 = y1 at *
 generalize ys.getD 2 0 = y2 at *
 generalize ys.getD 3 0 = y3 at *
 obtain ⟨p0, p1, p2, p3⟩:=T0.cells4
 go_enter Tryz.func95, Tryz.ntmps95
 go_wp2_with fail
 clear hw0
 refine (TO.out _).mono ?_
 rintro _ w1 ⟨rfl, b1⟩
 have B1:=bu B0 b1
 have T1:=T0.up b1
 have K1:=K0.up b1
 have R1:=R0.up b1
 have c1:=C0.out _ b1
 have d1:=D0.out _ b1
 clear B0 T0 K0 R0 p0 p1 p2 p3 b1 C0 D0
 obtain ⟨t0, t1, t2, t3⟩:=T1.cells4
 obtain ⟨⟨p0, p1, p2, p3⟩, ⟨p4, p5, p6, p7⟩⟩:=K1.c8
 obtain ⟨⟨q0, q1, q2, q3⟩, ⟨q4, q5, q6, q7⟩⟩:=R1.c8
 have FR:=R1.frozen
 have hA1 : (A : Int) < 4:=by omega
 have ho1 : 0 ≤ d ∧ d ≤ 99:=by unfold Ok4 at ho; omega
 have ho2 : 0 ≤ c ∧ c ≤ 1000:=by unfold Ok4 at ho; omega
 clear ho hq
 go_wp2_with fail
 go_quiet (fail)
 go_wp2_with fail
 go_quiet (fail)
 generalize hwd : World.drewN (World.drewN w1 _) _ = w2
 have B2 : Below w.heap.size w w2:=hwd ▸ below_drewN' (below_drewN' B1 _) _
 have T2 : Loc w2 w.heap.size (r4 A Bt c d):=hwd ▸ (T1.drewN _).drewN _
 have K2 : Loc w2 (w.heap.size + 1) (b8 x0 x1 x2 x3 y0 y1 y2 y3):=hwd ▸ (K1.drewN _).drewN _
 have R2 : Loc w2 (w.heap.size + 1 + 1) (b8 0 0 0 0 0 0 0 0):=hwd ▸ (R1.drewN _).drewN _
 clear hwd B1 T1 K1 R1 c1 d1 t0 t1 t2 t3 p0 p1 p2 p3 p4 p5 p6 p7 q0 q1 q2 q3 q4 q5 q6 q7 FR
 have lr:=R2.lt
 obtain ⟨w3, hw3⟩ : ∃ w3, w2.alloc (.cells (b8 x0 x1 x2 x3 y0 y1 y2 y3) 149) = w3:=⟨_, rfl⟩
 have b3 : Below w2.heap.size w2 w3:=hw3 ▸ (Below.refl _ _).alloc (Nat.le_refl _) _
 have A3 : Loc w3 w2.heap.size (b8 x0 x1 x2 x3 y0 y1 y2 y3):=hw3 ▸ loc_at w2 _ _ rfl
 obtain ⟨w4, hw4⟩ : ∃ w4, w3.setCell ⟨w2.heap.size, 4 + A, none⟩ (.int .i64 (d + 1)) = w4:=⟨_, rfl⟩
 have A4 : Loc w4 w2.heap.size (b8 x0 x1 x2 x3 z0 z1 z2 z3):=hw4 ▸ HS.out _ _ A3
 have b4 : Below w2.heap.size w2 w4:=hw4 ▸ Below.set b3 _ _ (Nat.le_refl _)
 have T4:=T2.up b4
 have K4:=K2.up b4
 have R4:=R2.up b4
 have B4:=bu B2 b4
 obtain ⟨⟨p0, p1, p2, p3⟩, ⟨p4, p5, p6, p7⟩⟩:=K2.c8
 have n3:=(HN.out _ _ A3).1
 have FA:=A3.frozen
 obtain ⟨t0, t1, t2, t3⟩:=(T2.up b3).cells4
 obtain ⟨u0, u1, u2, u3⟩:=T4.cells4
 have m4:=(HN.out _ _ K4).2
 clear A3 b3 HN HS
 go_wp2_with fail
 clear hw3 hw4 n3 FA t0 t1 t2 t3 p0 p1 p2 p3 p4 p5 p6 p7
 go_quiet (fail)
 generalize hwd : World.drewN w4 _ = w5
 have B5 : Below w.heap.size w w5:=hwd ▸ below_drewN' B4 _
 have T5 : Loc w5 w.heap.size (r4 A Bt c d):=hwd ▸ T4.drewN _
 have K5 : Loc w5 (w.heap.size + 1) (b8 x0 x1 x2 x3 y0 y1 y2 y3):=hwd ▸ K4.drewN _
 have R5 : Loc w5 (w.heap.size + 1 + 1) (b8 0 0 0 0 0 0 0 0):=hwd ▸ R4.drewN _
 have A5 : Loc w5 w2.heap.size (b8 x0 x1 x2 x3 z0 z1 z2 z3):=hwd ▸ A4.drewN _
 clear hwd B4 T4 K4 R4 A4 u0 u1 u2 u3 m4 T2 K2 R2 B2 b4
 have m5:=HM.out _ _ A5
 have FA:=A5.frozen
 have hB1 : (Bt : Int) < 4:=by omega
 have wr1 : IntKind.i64.wrap (m - c) = m - c:=by rw [IntKind.wrap_i64]; omega
 have wr2 : IntKind.i64.wrap (r + c) = r + c:=by rw [IntKind.wrap_i64]; omega
 obtain ⟨w6, hw6⟩ : ∃ w6, (w5.setCell ⟨w2.heap.size, A, none⟩ (.int .i64 (m - c))).drew = w6:=⟨_, rfl⟩
 have A6 : Loc w6 w2.heap.size (b8 v0 v1 v2 v3 z0 z1 z2 z3):=hw6 ▸ H1.out _ _ A5
 have T6 : Loc w6 w.heap.size (r4 A Bt c d):=hw6 ▸ T5.other (by simp; omega) _
 have K6 : Loc w6 (w.heap.size + 1) (b8 x0 x1 x2 x3 y0 y1 y2 y3):=hw6 ▸ K5.other (by simp; omega) _
 have R6 : Loc w6 (w.heap.size + 1 + 1) (b8 0 0 0 0 0 0 0 0):=hw6 ▸ R5.other (by simp; omega) _
 have B6 : Below w.heap.size w w6:=hw6 ▸ Below.drew (Below.set B5 _ _ (by omega))
 go_wp2_with fail
 refine wp_region_noPanic ?_
 refine wp_region_held_drew (S := (fun w' => (w'.cell? ⟨w.heap.size, 0, none⟩ = some (.int .i64 A) ∧ w'.cell? ⟨w.heap.size, 1, none⟩ = some (.int .i64 Bt)) ∧ w'.cell? ⟨w.heap.size, 2, none⟩ = some (.int .i64 c))) (by kernel_rfl) ⟨⟨T5.cell 0 rfl, T5.cell 1 rfl⟩, T5.cell 2 rfl⟩ (fun hHeld => ?_)
 refine tx 0 47 ?_
 refine tx 1 48 ?_
 refine tx 2 49 ?_
 refine tx 3 50 ?_
 refine tx 5 52 ?_
 refine tx 6 53 ?_
 refine tx 8 55 ?_
 refine rd 4 rfl (fun KK hKK => ?_)
 go_simp
 clear hHeld
 refine hKK.out _ _ ⟨⟨T5.cell 0 rfl, T5.cell 1 rfl⟩, T5.cell 2 rfl⟩ (fun hHeld => ?_)
 clear hKK KK
 refine tx 7 54 ?_
 refine tx 9 56 ?_
 refine rd 10 rfl (fun KK hKK => ?_)
 go_simp
 clear hHeld
 refine hKK.out _ _ ⟨⟨T6.cell 0 rfl, T6.cell 1 rfl⟩, T6.cell 2 rfl⟩ (fun hHeld => ?_)
 clear hKK KK hHeld hw6 m5 FA
 refine wdn ?_
 clear A5 T5 K5 R5 B5 HM H1
 have r6:=HR.out _ _ A6
 have FA:=A6.frozen
 obtain ⟨w7, hw7⟩ : ∃ w7, (w6.setCell ⟨w2.heap.size, Bt, none⟩ (.int .i64 (r + c))).drew = w7:=⟨_, rfl⟩
 have A7 : Loc w7 w2.heap.size (b8 s0 s1 s2 s3 z0 z1 z2 z3):=hw7 ▸ H2.out _ _ A6
 have T7 : Loc w7 w.heap.size (r4 A Bt c d):=hw7 ▸ T6.other (by simp; omega) _
 have K7 : Loc w7 (w.heap.size + 1) (b8 x0 x1 x2 x3 y0 y1 y2 y3):=hw7 ▸ K6.other (by simp; omega) _
 have R7 : Loc w7 (w.heap.size + 1 + 1) (b8 0 0 0 0 0 0 0 0):=hw7 ▸ R6.other (by simp; omega) _
 have B7 : Below w.heap.size w w7:=hw7 ▸ Below.drew (Below.set B6 _ _ (by omega))
 go_wp2_with fail
 refine wp_region_noPanic ?_
 refine wp_region_held_drew (S := (fun w' => (w'.cell? ⟨w.heap.size, 0, none⟩ = some (.int .i64 A) ∧ w'.cell? ⟨w.heap.size, 1, none⟩ = some (.int .i64 Bt)) ∧ w'.cell? ⟨w.heap.size, 2, none⟩ = some (.int .i64 c))) (by kernel_rfl) ⟨⟨T6.cell 0 rfl, T6.cell 1 rfl⟩, T6.cell 2 rfl⟩ (fun hHeld => ?_)
 refine tx 0 57 ?_
 refine tx 1 58 ?_
 refine tx 2 59 ?_
 refine tx 3 60 ?_
 refine tx 5 62 ?_
 refine tx 6 63 ?_
 refine tx 8 65 ?_
 refine rd 4 rfl (fun KK hKK => ?_)
 go_simp
 clear hHeld
 refine hKK.out _ _ ⟨⟨T6.cell 0 rfl, T6.cell 1 rfl⟩, T6.cell 2 rfl⟩ (fun hHeld => ?_)
 clear hKK KK
 refine tx 7 64 ?_
 refine tx 9 66 ?_
 refine rd 10 rfl (fun KK hKK => ?_)
 go_simp
 clear hHeld
 refine hKK.out _ _ ⟨⟨T7.cell 0 rfl, T7.cell 1 rfl⟩, T7.cell 2 rfl⟩ (fun hHeld => ?_)
 clear hKK KK hHeld hw7 r6 FA
 refine wdn ?_
 clear A6 T6 K6 R6 B6 HR H2 T7
 obtain ⟨⟨p0, p1, p2, p3⟩, ⟨p4, p5, p6, p7⟩⟩:=A7.c8
 go_wp2_with fail
 refine (OK.out _).mono ?_
 rintro _ w8 ⟨rfl, b8⟩
 have A8:=A7.up b8
 have K8:=K7.up b8
 have R8:=R7.up b8
 have B8:=bu B7 b8
 clear p0 p1 p2 p3 p4 p5 p6 p7 A7 K7 R7 B7 b8 OK
 obtain ⟨⟨q0, q1, q2, q3⟩, ⟨q4, q5, q6, q7⟩⟩:=R8.c8
 have FR:=R8.frozen
 obtain ⟨⟨p0, p1, p2, p3⟩, ⟨p4, p5, p6, p7⟩⟩:=K8.c8
 go_wp2
 refine bodyPost_ret (v := .tuple #[bkv x0 x1 x2 x3 y0 y1 y2 y3,.int .i64 1]) (by simp [results, Tryz.results95, go_sem, q0, q1, q2, q3, q4, q5, q6, q7]) rfl ?_
 exact ⟨rfl, put8_below B8 (by omega) _ _ _ _ _ _ _ _⟩
end
end Go.Proofs.YtmpffkpilbbclaaGreatDoor
