/- Lemmas, as stated. -/
import Derived.Test.YtjdchloechcclaaGreatDoorSNAW
set_option maxRecDepth 100000
set_option maxHeartbeats 8000000
set_option linter.unusedSectionVars false
namespace Go.Proofs.YtjdchloechcclaaGreatDoor
section
open Go.RowKit
variable [∀ (n : Int) (s : List Int), Decidable (OkL n s)]
theorem isNaN_int (x : Int) (w : World) : Calls Tryz.prog 228 #[.int .i64 x] w fun e w' => e = .returned (.bool false) ∧ Below w.heap.size w w' := by
 go_enter Tryz.func228, Tryz.ntmps228
 go_wp2
 go_ret
 exact ⟨rfl, Below.refl _ _⟩
def cmpI (x y : Int) : Int := if x < y then -1 else if y < x then 1 else 0
theorem cmpI_lt (x y : Int) : cmpI x y < 0 ↔ x < y := by
 unfold cmpI
 repeat' split
 all_goals omega
theorem compare_int (x y : Int) (w : World) : Calls Tryz.prog 204 #[.int .i64 x,.int .i64 y] w fun e w' => e = .returned (.int .i64 (cmpI x y)) ∧ Below w.heap.size w w' := by
 have NA:=hide fun x w => isNaN_int x w
 unfold cmpI
 by_cases h1 : x < y
 ·rw [if_pos h1]
  have d1 : decide (x < y) = true:=by simpa using h1
  clear h1
  go_enter Tryz.func204, Tryz.ntmps204
  go_wp2_with fail
  refine (NA.out _ _).mono ?_
  rintro _ w1 ⟨rfl, b1⟩
  go_wp2_with fail
  refine (NA.out _ _).mono ?_
  rintro _ w2 ⟨rfl, b2⟩
  go_wp2
  go_ret
  exact ⟨rfl, bu b1 b2⟩
 rw [if_neg h1]
 have d1 : decide (x < y) = false:=by simpa using h1
 clear h1
 by_cases h2 : y < x
 ·rw [if_pos h2]
  have d2 : decide (y < x) = true:=by simpa using h2
  have d3 : decide (x > y) = true:=by simpa using h2
  clear h2
  go_enter Tryz.func204, Tryz.ntmps204
  go_wp2_with fail
  refine (NA.out _ _).mono ?_
  rintro _ w1 ⟨rfl, b1⟩
  go_wp2_with fail
  refine (NA.out _ _).mono ?_
  rintro _ w2 ⟨rfl, b2⟩
  go_wp2
  go_ret
  exact ⟨rfl, bu b1 b2⟩
 rw [if_neg h2]
 have d2 : decide (y < x) = false:=by simpa using h2
 have d3 : decide (x > y) = false:=by simpa using h2
 clear h2
 go_enter Tryz.func204, Tryz.ntmps204
 go_wp2_with fail
 refine (NA.out _ _).mono ?_
 rintro _ w1 ⟨rfl, b1⟩
 go_wp2_with fail
 refine (NA.out _ _).mono ?_
 rintro _ w2 ⟨rfl, b2⟩
 go_wp2
 go_ret
 exact ⟨rfl, bu b1 b2⟩
def AscI (xs : List Int) : Prop := ∀ j, j + 1 < xs.length → xs.getD j 0 < xs.getD (j + 1) 0
theorem ascI_iff (xs : List Int) : AscI xs ↔ xs.Pairwise (· < ·) := by
 constructor
 ·intro h
  refine List.pairwise_iff_getElem.2 fun i j hi hj hij => ?_
  have key : ∀ d, i + d + 1 < xs.length → xs.getD i 0 < xs.getD (i + d + 1) 0:=by
   intro d
   induction d with
   | zero => exact fun hd => h i hd
   | succ d ih => exact fun hd => Int.lt_trans (ih (by omega)) (h (i + d + 1) hd)
  have:=key (j - i - 1) (by omega)
  rw [show i + (j - i - 1) + 1 = j from by omega] at this
  simpa [List.getD_eq_getElem?_getD, List.getElem?_eq_getElem hi, List.getElem?_eq_getElem hj] using this
 intro h j hj
 have:=List.pairwise_iff_getElem.1 h j (j + 1) (by omega) hj (by omega)
 simpa [List.getD_eq_getElem?_getD, List.getElem?_eq_getElem hj, List.getElem?_eq_getElem (show j < xs.length by omega)] using this
theorem ascends_int (v : Value) (xs : List Int) (w : World) (h : RI w v xs) :
 Calls Tryz.prog 205 #[.agg #[v,.func (.func 204) #[] #[]]] w fun e w' => e = .returned (.bool (decide (xs.Pairwise (· < ·)))) ∧ Below w.heap.size w w' := by
 obtain ⟨ao, ca, rfl⟩:=h.form
 have hl:=h.1
 have H:=hide h
 obtain ⟨n, hn⟩ : ∃ n, xs.length = n:=⟨_, rfl⟩
 have Hn:=hide hn
 rw [hn] at hl H ⊢
 clear h hn
 obtain ⟨w0, hw0⟩ : ∃ w0, w.alloc (.cells #[.slice ao n ca,.func (.func 204) #[] #[]] 247) = w0:=⟨_, rfl⟩
 have B0 : Below w.heap.size w w0:=hw0 ▸ (Below.refl _ _).alloc (Nat.le_refl _) _
 have L0 : Loc w0 w.heap.size #[.slice ao n ca,.func (.func 204) #[] #[]]:=hw0 ▸ loc_at w _ _ rfl
 go_enter Tryz.func205, Tryz.ntmps205
 go_wp2
 clear hw0
 go_loopw [3] (fun i wr => ∃ m : Nat, 1 ≤ m ∧ m ≤ n + 1 ∧ i = .int .i64 m ∧ Hid (∀ j, j + 1 < m → j + 1 < n → xs.getD j 0 < xs.getD (j + 1) 0) ∧ Loc wr w.heap.size #[.slice ao n ca,.func (.func 204) #[] #[]] ∧ Below w.heap.size w wr) (fun i _ => n + 1 - (intOf i).toNat)
 case atStart => exact ⟨1, Nat.le_refl _, by omega, by go_num, hide (fun j hj => absurd hj (by omega)), L0, B0⟩
 case round =>
  clear L0 B0
  obtain ⟨m, hm1, hm, rfl, HA, L, br⟩:=hrel
  have q0:=L.cell 0 rfl
  have q1:=L.cell 1 rfl
  by_cases hlt : m < n
  ·obtain ⟨k, hk⟩ : ∃ k, m = k + 1:=⟨m - 1, by omega⟩
   have hk1 : (m : Int) - 1 = (k : Int):=by omega
   have hwk : IntKind.i64.wrap (k : Int) = (k : Int):=by rw [IntKind.wrap_i64]; omega
   have hkn : k < n:=by omega
   obtain ⟨g, off, rfl, cx⟩:=(H.out.below br).at k (by rw [Hn.out]; omega)
   obtain ⟨g', off', e, cy⟩:=(H.out.below br).at m (by rw [Hn.out]; omega)
   cases e
   have CT:=hide fun w => compare_int (xs.getD k 0) (xs.getD m 0) w
   have HS : Hid (xs.getD k 0 < xs.getD m 0 → ∀ j, j + 1 < m + 1 → j + 1 < n → xs.getD j 0 < xs.getD (j + 1) 0):=hide fun h j hj hj2 => by
    by_cases e : j = k
    ·rw [e, ← hk]; exact h
    exact HA.out j (by omega) hj2
   have HN : Hid (xs.getD m 0 ≤ xs.getD k 0 → ¬ xs.Pairwise (· < ·)):=hide fun h ha => Int.not_lt.2 h (by have:=(ascI_iff xs).2 ha k (by rw [Hn.out]; omega); rwa [← hk] at this)
   clear HA
   generalize xs.getD k 0 = x at *
   generalize xs.getD m 0 = y at *
   replace hk:=hide hk
   have K : Hid (∀ w', Below wr.heap.size wr w' → (w'.cell? ⟨w.heap.size, 0, none⟩ = some (.slice (some ⟨g, off, none⟩) n ca) ∧ w'.cell? ⟨w.heap.size, 1, none⟩ = some (.func (.func 204) #[] #[])) ∧ w'.cell? ⟨g, off + k, none⟩ = some (.int .i64 x) ∧ w'.cell? ⟨g, off + m, none⟩ = some (.int .i64 y)):=hide fun w' hb => by
    have l:=L.up hb
    exact ⟨⟨l.cell 0 rfl, l.cell 1 rfl⟩, (hb.cell (cell_lt cx)).trans cx, (hb.cell (cell_lt cy)).trans cy⟩
   have bA : Below wr.heap.size wr wr.drew:=Below.drew (Below.refl _ _)
   have hKeep:=K.out _ bA
   clear cx cy
   go_wp2_with fail
   refine wp_region_noPanic ?_
   refine wp_region_held_drew (S := (fun w' => (w'.cell? ⟨w.heap.size, 0, none⟩ = some (.slice (some ⟨g, off, none⟩) n ca) ∧ w'.cell? ⟨w.heap.size, 1, none⟩ = some (.func (.func 204) #[] #[])) ∧ w'.cell? ⟨g, off + k, none⟩ = some (.int .i64 x) ∧ w'.cell? ⟨g, off + m, none⟩ = some (.int .i64 y))) (by kernel_rfl) hKeep (fun hHeld => ?_)
   refine tx 0 11 ?_
   refine tx 1 12 ?_
   refine tx 2 13 ?_
   refine tx 3 14 ?_
   refine tx 4 15 ?_
   refine tx 5 16 ?_
   refine tx 6 17 ?_
   refine tx 7 18 ?_
   refine tx 8 19 ?_
   refine tx 9 20 ?_
   refine tx 10 21 ?_
   refine tx 11 22 ?_
   refine tx 12 23 ?_
   refine rd 13 rfl (fun KK hKK => ?_)
   go_simp
   refine (CT.out _).mono ?_
   rintro _ wa ⟨rfl, ba⟩
   have bB : Below wr.heap.size wr wa:=bA.trans ba
   clear hHeld
   refine hKK.out _ _ (K.out _ bB) (fun hHeld => ?_)
   clear hKK KK
   refine tx 14 25 ?_
   clear hHeld
   refine wdn ?_
   have LB:=L.up bB
   have BB:=bu br bB
   have hcm:=hide (cmpI_lt x y)
   generalize cmpI x y = q at *
   by_cases hq : q < 0
   ·have HS:=hide (HS.out (hcm.out.1 hq))
    have hq0 : ¬ 0 ≤ q:=by omega
    clear hcm HN
    go_wp2
    go_roundw
    case rel => exact ⟨m + 1, by omega, by omega, by go_num, HS, LB, BB⟩
    case measure => simp [intOf]; omega
   have hno : decide (xs.Pairwise (· < ·)) = false:=decide_eq_false (HN.out (Int.not_lt.1 fun h => hq (hcm.out.2 h)))
   have hq0 : 0 ≤ q:=by omega
   clear hcm HS HN
   go_wp2
   go_ret
   exact ⟨by first | rfl | (rw [hno]; rfl), BB⟩
  have hyes : decide (xs.Pairwise (· < ·)) = true:=decide_eq_true ((ascI_iff xs).1 fun j hj => HA.out j (by have:=Hn.out; omega) (by have:=Hn.out; omega))
  clear HA
  go_wp2
  go_ret
  exact ⟨by first | rfl | (rw [hyes]; rfl), br⟩
theorem ok_ends {n : Int} {xs : List Int} (h0 : 0 < xs.length) : OkL n xs ↔ xs.Pairwise (· < ·) ∧ 0 ≤ xs.getD 0 0 ∧ xs.getD (xs.length - 1) 0 < n := by
 have g : ∀ k (hk : k < xs.length), xs.getD k 0 = xs[k]:=fun k hk => by rw [List.getD_eq_getElem?_getD, List.getElem?_eq_getElem hk]; rfl
 unfold OkL
 constructor
 ·rintro ⟨h1, h2⟩
  refine ⟨h2, ?_, ?_⟩
  ·rw [g 0 h0]; exact (h1 _ (List.getElem_mem h0)).1
  rw [g _ (by omega)]; exact (h1 _ (List.getElem_mem (by omega))).2
 rintro ⟨h2, h3, h4⟩
 refine ⟨fun x hx => ?_, h2⟩
 obtain ⟨j, hj, rfl⟩:=List.getElem_of_mem hx
 rw [g 0 h0] at h3
 rw [g _ (by omega)] at h4
 have hp:=List.pairwise_iff_getElem.1 h2
 constructor
 ·by_cases e : j = 0
  ·subst e; exact h3
  have:=hp 0 j h0 hj (by omega); omega
 by_cases e : j = xs.length - 1
 ·have : xs[j] = xs[xs.length - 1]:=by congr 1
  omega
 have:=hp j (xs.length - 1) hj (by omega) (by omega); omega
theorem implSetOk (m : Int) (v : Value) (xs : List Int) (w : World) (h : RI w v xs) :
 Calls Tryz.prog 174 #[.int .i64 m, v] w fun e w' => e = .returned (.bool (decide (OkL m xs))) ∧ Below w.heap.size w w' := by
 obtain ⟨ao, ca, rfl⟩:=h.form
 have hl:=h.1
 by_cases hz : xs.length = 0
 ·obtain rfl : xs = []:=List.length_eq_zero_iff.1 hz
  have ed : decide (OkL m []) = true:=decide_eq_true ⟨by simp, List.Pairwise.nil⟩
  rw [ed]
  clear ed h hl hz
  go_enter Tryz.func174, Tryz.ntmps174
  go_wp2
  go_ret
  exact ⟨rfl, Below.refl _ _⟩
 have AS:=hide fun w h => ascends_int (.slice ao xs.length ca) xs w h
 obtain ⟨w0, hw0⟩ : ∃ w0, w.alloc (.cells #[.slice ao xs.length ca,.func (.func 204) #[] #[]] 247) = w0:=⟨_, rfl⟩
 have B0 : Below w.heap.size w w0:=hw0 ▸ (Below.refl _ _).alloc (Nat.le_refl _) _
 have L0 : Loc w0 w.heap.size #[.slice ao xs.length ca,.func (.func 204) #[] #[]]:=hw0 ▸ loc_at w _ _ rfl
 have H:=hide (h.below B0)
 obtain ⟨g, off, rfl, c0⟩:=H.out.at 0 (by omega)
 obtain ⟨g', off', e, c1⟩:=H.out.at (xs.length - 1) (by omega)
 cases e
 have HO:=hide (ok_ends (n:=m) (xs:=xs) (by omega))
 generalize xs.getD 0 0 = x at *
 generalize xs.getD (xs.length - 1) 0 = y at *
 have FIN : Hid (decide (OkL m xs) = (decide (xs.Pairwise (· < ·)) && (decide (0 ≤ x) && decide (y < m)))):=hide (by
  have:=HO.out
  by_cases hp : xs.Pairwise (· < ·) <;> by_cases hx : 0 ≤ x <;> by_cases hy : y < m <;> simp [hp, hx, hy, this])
 generalize decide (OkL m xs) = qq at *
 clear HO
 generalize decide (xs.Pairwise (· < ·)) = q at *
 obtain ⟨n, hn⟩ : ∃ n, xs.length = n + 1:=⟨xs.length - 1, by omega⟩
 rw [hn] at H AS L0 hw0 hl hz c1 ⊢
 rw [Nat.add_sub_cancel] at c1
 rw [Nat.add_zero] at c0
 have hnz : decide (((n + 1 : Nat) : Int) = 0) = false:=by simp; omega
 have hs1 : IntKind.i64.wrap (((n + 1 : Nat) : Int) - 1) = (n : Int):=by rw [IntKind.wrap_i64]; omega
 have hnn : ((n + 1 : Nat) : Int) - 1 = (n : Int):=by omega
 have Hn:=hide hn
 clear hn h
 have q0:=L0.cell 0 rfl
 have q1:=L0.cell 1 rfl
 go_enter Tryz.func174, Tryz.ntmps174
 go_wp2_with fail
 clear hw0
 refine (AS.out _ H.out).mono ?_
 rintro _ w1 ⟨rfl, b1⟩
 have cx:=b1.cell (p:=⟨g, off, none⟩) (cell_lt c0)
 have cy:=b1.cell (p:=⟨g, off + n, none⟩) (cell_lt c1)
 rw [c0] at cx
 rw [c1] at cy
 have BB:=bu B0 b1
 clear H AS c0 c1 b1 q0 q1 L0 B0
 cases q with
 | false =>
  go_wp2
  go_ret
  exact ⟨by rw [FIN.out]; rfl, BB⟩
 | true =>
  by_cases h0 : 0 ≤ x
  ·have d0 : decide (0 ≤ x) = true:=by simpa using h0
   rw [d0] at FIN
   clear h0
   go_wp2
   go_ret
   exact ⟨by rw [FIN.out]; rfl, BB⟩
  have d0 : decide (0 ≤ x) = false:=by simpa using h0
  rw [d0] at FIN
  clear h0
  go_wp2
  go_ret
  exact ⟨by rw [FIN.out]; rfl, BB⟩
end
section
open Go.RowKit
variable [∀ (a b c d : Int), Decidable (Ok4 a b c d)]
variable [∀ (a b c d : Nat), Decidable (okN a b c d)]
variable [∀ (last : Int) (s : St), Decidable (GoodSt last s)]
variable [∀ (x : T4), Decidable (OkT x)]
variable [∀ (n : Int) (s : List Int), Decidable (OkL n s)]
variable [∀ (n f : Int), Decidable (COk n f)]
def votedB (n f v : Int) (s : ByteArray) (xs : List Int) : Bool := decide (0 < v) && (v == viewAns s) && decide (quorumOf n f ≤ (xs.length : Int)) && decide (OkL n xs)

theorem votedFor_any (g : Nat) (n f v : Int) (s : ByteArray) (ao : Option Addr) (ca : Nat) (xs : List Int) (w : World) (hs : s.size ≤ 33554432) (hE : Env w) (hg : Loc w g #[.int .i64 v,.string s,.slice ao xs.length ca]) (ha : RI w (.slice ao xs.length ca) xs) :
 Calls Tryz.prog 168 #[.pointer (some ⟨g, 0, none⟩), cv n f] w fun e w' => e = .returned (.bool (votedB n f v s xs)) ∧ Below w.heap.size w w' := by
 have hgl:=hg.lt
 have VO:=hide fun w hE => implViewOf s w hs hE
 have QU:=hide fun w => implQuorum n f w
 have SO:=hide fun w h => implSetOk n (.slice ao xs.length ca) xs w h
 have hvb : votedB n f v s xs = (decide (0 < v) && (v == viewAns s) && decide (quorumOf n f ≤ (xs.length : Int)) && decide (OkL n xs)):=rfl
 rw [hvb]
 clear hvb
 generalize viewAns s = q at *
 generalize quorumOf n f = qu at *
 generalize decide (OkL n xs) = ok at *
 obtain ⟨w0, hw0⟩ : ∃ w0, w.alloc (.cells #[.int .i64 n,.int .i64 f] 49) = w0:=⟨_, rfl⟩
 have B0 : Below w.heap.size w w0:=hw0 ▸ conf_below _ _
 have C0 : Loc w0 w.heap.size #[.int .i64 n,.int .i64 f]:=hw0 ▸ loc_at w _ _ rfl
 have G0:=hg.below B0 hgl
 have HE:=hide (hE.below B0)
 have HA:=hide (ha.below B0)
 have K:=kw (ka (kc3 G0 0 1 2) (kc2 C0 0 1))
 obtain ⟨m, hm⟩ : ∃ m, xs.length = m:=⟨_, rfl⟩
 rw [hm] at K HA SO ⊢
 clear hg ha hE G0 C0 hm
 by_cases h1 : 0 < v
 ·have d1 : decide (0 < v) = true:=by simpa using h1
  rw [d1, Bool.true_and]
  by_cases h2 : v = q
  ·have d2 : (v == q) = true:=by simpa using h2
   rw [d2, Bool.true_and]
   clear d2
   subst h2
   by_cases h3 : qu ≤ (m : Int)
   ·have d3 : decide (qu ≤ (m : Int)) = true:=by simpa using h3
    rw [d3, Bool.true_and]
    go_enter Tryz.func168, Tryz.ntmps168
    go_upto_region 1 with fail
    clear hw0
    have bA : Below w0.heap.size w0 w0.drew:=Below.drew (Below.refl _ _)
    refine wp_region_noPanic ?_
    refine wp_region_held_drew (S := fun w' => Below w0.heap.size w0 w' ∧ (w'.cell? ⟨g, 0, none⟩ = some (.int .i64 v) ∧ w'.cell? ⟨g, 1, none⟩ = some (.string s) ∧ w'.cell? ⟨g, 2, none⟩ = some (.slice ao m ca)) ∧ (w'.cell? ⟨w.heap.size, 0, none⟩ = some (.int .i64 n) ∧ w'.cell? ⟨w.heap.size, 1, none⟩ = some (.int .i64 f))) (by kernel_rfl) (K.out _ bA) (fun hHeld => ?_)
    refine tx 0 5 ?_
    refine tx 1 6 ?_
    refine tx 2 7 ?_
    refine tx 3 8 ?_
    refine tx 4 9 ?_
    refine tx 5 10 ?_
    refine tx 6 11 ?_
    refine tx 7 12 ?_
    refine tx 8 13 ?_
    refine tx 9 14 ?_
    refine tx 10 15 ?_
    refine tx 11 16 ?_
    refine tx 12 17 ?_
    refine tx 13 18 ?_
    refine rd 14 rfl (fun KK hKK => ?_)
    go_simp
    have hgo:=bA
    refine (VO.out _ (HE.out.below hgo)).mono ?_
    rintro e wy1 ⟨rfl, bb⟩
    have bB : Below w0.heap.size w0 wy1:=bu bA bb
    clear bA hgo bb hHeld
    refine hKK.out _ _ (K.out _ bB) (fun hHeld => ?_)
    clear hKK KK
    refine tx 15 20 ?_
    refine tx 16 21 ?_
    refine tx 17 22 ?_
    refine tx 18 23 ?_
    refine tx 19 24 ?_
    refine tx 20 25 ?_
    refine tx 21 26 ?_
    refine tx 22 27 ?_
    refine tx 23 28 ?_
    refine rd 24 rfl (fun KK hKK => ?_)
    go_simp
    have hgo:=bB
    refine (QU.out _).mono ?_
    rintro e wy2 ⟨rfl, bb⟩
    have bC : Below w0.heap.size w0 wy2:=bu bB bb
    clear bB hgo bb hHeld
    refine hKK.out _ _ (K.out _ bC) (fun hHeld => ?_)
    clear hKK KK
    refine tx 25 30 ?_
    refine tx 26 31 ?_
    refine tx 27 32 ?_
    refine tx 28 33 ?_
    refine tx 29 34 ?_
    refine tx 30 35 ?_
    refine tx 31 36 ?_
    refine tx 32 37 ?_
    refine tx 33 38 ?_
    refine rd 34 rfl (fun KK hKK => ?_)
    go_simp
    have hgo:=bC
    refine (SO.out _ (HA.out.below hgo)).mono ?_
    rintro e wy3 ⟨rfl, bb⟩
    have bD : Below w0.heap.size w0 wy3:=bu bC bb
    clear bC hgo bb hHeld
    refine hKK.out _ _ (K.out _ bD) (fun hHeld => ?_)
    clear hKK KK
    refine tx 35 40 ?_
    refine tx 36 4 ?_
    clear hHeld
    refine wdn ?_
    go_wp2
    go_ret
    exact ⟨rfl, bu B0 bD⟩
   have d3 : decide (qu ≤ (m : Int)) = false:=by simpa using h3
   rw [d3, Bool.false_and]
   go_enter Tryz.func168, Tryz.ntmps168
   go_upto_region 1 with fail
   clear hw0
   have bA : Below w0.heap.size w0 w0.drew:=Below.drew (Below.refl _ _)
   refine wp_region_noPanic ?_
   refine wp_region_held_drew (S := fun w' => Below w0.heap.size w0 w' ∧ (w'.cell? ⟨g, 0, none⟩ = some (.int .i64 v) ∧ w'.cell? ⟨g, 1, none⟩ = some (.string s) ∧ w'.cell? ⟨g, 2, none⟩ = some (.slice ao m ca)) ∧ (w'.cell? ⟨w.heap.size, 0, none⟩ = some (.int .i64 n) ∧ w'.cell? ⟨w.heap.size, 1, none⟩ = some (.int .i64 f))) (by kernel_rfl) (K.out _ bA) (fun hHeld => ?_)
   refine tx 0 5 ?_
   refine tx 1 6 ?_
   refine tx 2 7 ?_
   refine tx 3 8 ?_
   refine tx 4 9 ?_
   refine tx 5 10 ?_
   refine tx 6 11 ?_
   refine tx 7 12 ?_
   refine tx 8 13 ?_
   refine tx 9 14 ?_
   refine tx 10 15 ?_
   refine tx 11 16 ?_
   refine tx 12 17 ?_
   refine tx 13 18 ?_
   refine rd 14 rfl (fun KK hKK => ?_)
   go_simp
   have hgo:=bA
   refine (VO.out _ (HE.out.below hgo)).mono ?_
   rintro e wy1 ⟨rfl, bb⟩
   have bB : Below w0.heap.size w0 wy1:=bu bA bb
   clear bA hgo bb hHeld
   refine hKK.out _ _ (K.out _ bB) (fun hHeld => ?_)
   clear hKK KK
   refine tx 15 20 ?_
   refine tx 16 21 ?_
   refine tx 17 22 ?_
   refine tx 18 23 ?_
   refine tx 19 24 ?_
   refine tx 20 25 ?_
   refine tx 21 26 ?_
   refine tx 22 27 ?_
   refine tx 23 28 ?_
   refine rd 24 rfl (fun KK hKK => ?_)
   go_simp
   have hgo:=bB
   refine (QU.out _).mono ?_
   rintro e wy2 ⟨rfl, bb⟩
   have bC : Below w0.heap.size w0 wy2:=bu bB bb
   clear bB hgo bb hHeld
   refine hKK.out _ _ (K.out _ bC) (fun hHeld => ?_)
   clear hKK KK
   refine tx 25 30 ?_
   refine tx 26 31 ?_
   refine tx 27 32 ?_
   refine sx 28 33 ?_
   refine sx 29 34 ?_
   refine sx 30 35 ?_
   refine sx 31 36 ?_
   refine sx 32 37 ?_
   refine sx 33 38 ?_
   refine sx 34 39 ?_
   refine tx 35 40 ?_
   refine tx 36 4 ?_
   clear hHeld
   refine wdn ?_
   go_wp2
   go_ret
   exact ⟨rfl, bu B0 bC⟩
  have d2 : (v == q) = false:=by simpa using h2
  rw [d2, Bool.false_and, Bool.false_and]
  go_enter Tryz.func168, Tryz.ntmps168
  go_upto_region 1 with fail
  clear hw0
  have bA : Below w0.heap.size w0 w0.drew:=Below.drew (Below.refl _ _)
  refine wp_region_noPanic ?_
  refine wp_region_held_drew (S := fun w' => Below w0.heap.size w0 w' ∧ (w'.cell? ⟨g, 0, none⟩ = some (.int .i64 v) ∧ w'.cell? ⟨g, 1, none⟩ = some (.string s) ∧ w'.cell? ⟨g, 2, none⟩ = some (.slice ao m ca)) ∧ (w'.cell? ⟨w.heap.size, 0, none⟩ = some (.int .i64 n) ∧ w'.cell? ⟨w.heap.size, 1, none⟩ = some (.int .i64 f))) (by kernel_rfl) (K.out _ bA) (fun hHeld => ?_)
  refine tx 0 5 ?_
  refine tx 1 6 ?_
  refine tx 2 7 ?_
  refine tx 3 8 ?_
  refine tx 4 9 ?_
  refine tx 5 10 ?_
  refine tx 6 11 ?_
  refine tx 7 12 ?_
  refine tx 8 13 ?_
  refine tx 9 14 ?_
  refine tx 10 15 ?_
  refine tx 11 16 ?_
  refine tx 12 17 ?_
  refine tx 13 18 ?_
  refine rd 14 rfl (fun KK hKK => ?_)
  go_simp
  have hgo:=bA
  refine (VO.out _ (HE.out.below hgo)).mono ?_
  rintro e wy1 ⟨rfl, bb⟩
  have bB : Below w0.heap.size w0 wy1:=bu bA bb
  clear bA hgo bb hHeld
  refine hKK.out _ _ (K.out _ bB) (fun hHeld => ?_)
  clear hKK KK
  refine tx 15 20 ?_
  refine tx 16 21 ?_
  refine tx 17 22 ?_
  refine sx 18 23 ?_
  refine sx 19 24 ?_
  refine sx 20 25 ?_
  refine sx 21 26 ?_
  refine sx 22 27 ?_
  refine sx 23 28 ?_
  refine sx 24 29 ?_
  refine sx 25 30 ?_
  refine tx 26 31 ?_
  refine tx 27 32 ?_
  refine sx 28 33 ?_
  refine sx 29 34 ?_
  refine sx 30 35 ?_
  refine sx 31 36 ?_
  refine sx 32 37 ?_
  refine sx 33 38 ?_
  refine sx 34 39 ?_
  refine tx 35 40 ?_
  refine tx 36 4 ?_
  clear hHeld
  refine wdn ?_
  go_wp2
  go_ret
  exact ⟨rfl, bu B0 bB⟩
 have d1 : decide (0 < v) = false:=by simpa using h1
 rw [d1, Bool.false_and, Bool.false_and, Bool.false_and]
 go_enter Tryz.func168, Tryz.ntmps168
 go_upto_region 1 with fail
 clear hw0
 have bA : Below w0.heap.size w0 w0.drew:=Below.drew (Below.refl _ _)
 refine wp_region_noPanic ?_
 refine wp_region_held_drew (S := fun w' => Below w0.heap.size w0 w' ∧ (w'.cell? ⟨g, 0, none⟩ = some (.int .i64 v) ∧ w'.cell? ⟨g, 1, none⟩ = some (.string s) ∧ w'.cell? ⟨g, 2, none⟩ = some (.slice ao m ca)) ∧ (w'.cell? ⟨w.heap.size, 0, none⟩ = some (.int .i64 n) ∧ w'.cell? ⟨w.heap.size, 1, none⟩ = some (.int .i64 f))) (by kernel_rfl) (K.out _ bA) (fun hHeld => ?_)
 refine tx 0 5 ?_
 refine tx 1 6 ?_
 refine tx 2 7 ?_
 refine tx 3 8 ?_
 refine tx 4 9 ?_
 refine tx 5 10 ?_
 refine sx 6 11 ?_
 refine sx 7 12 ?_
 refine sx 8 13 ?_
 refine sx 9 14 ?_
 refine sx 10 15 ?_
 refine sx 11 16 ?_
 refine sx 12 17 ?_
 refine sx 13 18 ?_
 refine sx 14 19 ?_
 refine sx 15 20 ?_
 refine tx 16 21 ?_
 refine tx 17 22 ?_
 refine sx 18 23 ?_
 refine sx 19 24 ?_
 refine sx 20 25 ?_
 refine sx 21 26 ?_
 refine sx 22 27 ?_
 refine sx 23 28 ?_
 refine sx 24 29 ?_
 refine sx 25 30 ?_
 refine tx 26 31 ?_
 refine tx 27 32 ?_
 refine sx 28 33 ?_
 refine sx 29 34 ?_
 refine sx 30 35 ?_
 refine sx 31 36 ?_
 refine sx 32 37 ?_
 refine sx 33 38 ?_
 refine sx 34 39 ?_
 refine tx 35 40 ?_
 refine tx 36 4 ?_
 clear hHeld
 refine wdn ?_
 go_wp2
 go_ret
 exact ⟨rfl, bu B0 bA⟩
theorem implQcOk_at (n f v : Int) (s : ByteArray) (ao : Option Addr) (ca : Nat) (xs : List Int) (w : World) (hs : s.size ≤ 33554432) (hE : Env w) (ha : RI w (.slice ao xs.length ca) xs) :
 Calls Tryz.prog 135 #[cv n f, qv v s (.slice ao xs.length ca)] w fun e w' => e = .returned (.bool (decide (COk n f) && (alikeB v 0 s ⟨#[]⟩ xs [] || votedB n f v s xs))) ∧ Below w.heap.size w w' := by
 have CO:=hide fun w => implConfOk n f w
 have QF:=hide fun w => implQcFirst w
 have QS:=hide fun w h => implQcSame v 0 s ⟨#[]⟩ (.slice ao xs.length ca) (.slice none 0 0) xs [] w h ⟨by simp, none, 0, rfl,.inl rfl⟩
 obtain ⟨w0, hw0⟩ : ∃ w0, (w.alloc (.cells #[.int .i64 n,.int .i64 f] 49)).alloc (.cells #[.int .i64 v,.string s,.slice ao xs.length ca] 38) = w0:=⟨_, rfl⟩
 have B0 : Below w.heap.size w w0:=hw0 ▸ qalloc2 _ _ _
 have C0 : Loc w0 w.heap.size #[.int .i64 n,.int .i64 f]:=hw0 ▸ (loc_at w _ _ rfl).alloc _
 have G0 : Loc w0 (w.heap.size + 1) #[.int .i64 v,.string s,.slice ao xs.length ca]:=hw0 ▸ loc_at (w.alloc _) _ _ (by simp)
 have HA:=hide (ha.below B0)
 have VF : Hid (∀ w', Below w0.heap.size w0 w' → Calls Tryz.prog 168 #[.pointer (some ⟨w.heap.size + 1, 0, none⟩), cv n f] w' fun e w'' => e = .returned (.bool (votedB n f v s xs)) ∧ Below w'.heap.size w' w''):=hide fun w' hb' => votedFor_any (w.heap.size + 1) n f v s ao ca xs w' hs ((hE.below B0).below hb') (G0.up hb') (HA.out.below hb')
 have K:=kw (ka (kc2 C0 0 1) (kc3 G0 0 1 2))
 generalize decide (COk n f) = cb at *
 generalize alikeB v 0 s ⟨#[]⟩ xs [] = ab at *
 generalize votedB n f v s xs = vb at *
 clear ha hE G0 C0
 cases cb
 ·simp only [Bool.false_and]
  go_enter Tryz.func135, Tryz.ntmps135
  go_upto_region 1 with fail
  clear hw0
  refine wra K (fun bA hHeld => ?_)
  refine tx 0 5 ?_
  refine rd 1 rfl (fun KK hKK => ?_)
  go_simp
  have hgo:=bA
  refine (CO.out _).mono ?_
  rintro e wy1 ⟨rfl, bb⟩
  have bB : Below w0.heap.size w0 wy1:=bu bA bb
  clear bA hgo bb hHeld
  refine hKK.out _ _ (K.out _ bB) (fun hHeld => ?_)
  clear hKK KK
  refine tx 2 7 ?_
  refine sx 3 8 ?_
  refine sx 4 9 ?_
  refine sx 5 10 ?_
  refine sx 6 11 ?_
  refine sx 7 12 ?_
  refine sx 8 13 ?_
  refine sx 9 14 ?_
  refine tx 10 15 ?_
  refine tx 11 4 ?_
  clear hHeld
  refine wdn ?_
  go_wp2
  go_ret
  exact ⟨rfl, bu B0 bB⟩
 simp only [Bool.true_and]
 cases ab
 ·simp only [Bool.false_or]
  go_enter Tryz.func135, Tryz.ntmps135
  go_upto_region 1 with fail
  clear hw0
  refine wra K (fun bA hHeld => ?_)
  refine tx 0 5 ?_
  refine rd 1 rfl (fun KK hKK => ?_)
  go_simp
  have hgo:=bA
  refine (CO.out _).mono ?_
  rintro e wy1 ⟨rfl, bb⟩
  have bB : Below w0.heap.size w0 wy1:=bu bA bb
  clear bA hgo bb hHeld
  refine hKK.out _ _ (K.out _ bB) (fun hHeld => ?_)
  clear hKK KK
  refine tx 2 7 ?_
  refine tx 3 8 ?_
  refine rd 4 rfl (fun KK hKK => ?_)
  go_simp
  have hgo:=bB
  refine (QF.out _).mono ?_
  rintro e wy2 ⟨rfl, bb⟩
  have bC : Below w0.heap.size w0 wy2:=bu bB bb
  clear bB hgo bb hHeld
  refine hKK.out _ _ (K.out _ bC) (fun hHeld => ?_)
  clear hKK KK
  refine rd 5 rfl (fun KK hKK => ?_)
  go_simp
  have hgo:=bC
  refine (QS.out _ (HA.out.below hgo)).mono ?_
  rintro e wy3 ⟨rfl, bb⟩
  have bD : Below w0.heap.size w0 wy3:=bu bC bb
  clear bC hgo bb hHeld
  refine hKK.out _ _ (K.out _ bD) (fun hHeld => ?_)
  clear hKK KK
  refine tx 6 11 ?_
  refine tx 7 12 ?_
  refine rd 8 rfl (fun KK hKK => ?_)
  go_simp
  have hgo:=bD
  refine (VF.out _ hgo).mono ?_
  rintro e wy4 ⟨rfl, bb⟩
  have bE : Below w0.heap.size w0 wy4:=bu bD bb
  clear bD hgo bb hHeld
  refine hKK.out _ _ (K.out _ bE) (fun hHeld => ?_)
  clear hKK KK
  refine tx 9 14 ?_
  refine tx 10 15 ?_
  refine tx 11 4 ?_
  clear hHeld
  refine wdn ?_
  go_wp2
  go_ret
  exact ⟨rfl, bu B0 bE⟩
 simp only [Bool.true_or]
 go_enter Tryz.func135, Tryz.ntmps135
 go_upto_region 1 with fail
 clear hw0
 refine wra K (fun bA hHeld => ?_)
 refine tx 0 5 ?_
 refine rd 1 rfl (fun KK hKK => ?_)
 go_simp
 have hgo:=bA
 refine (CO.out _).mono ?_
 rintro e wy1 ⟨rfl, bb⟩
 have bB : Below w0.heap.size w0 wy1:=bu bA bb
 clear bA hgo bb hHeld
 refine hKK.out _ _ (K.out _ bB) (fun hHeld => ?_)
 clear hKK KK
 refine tx 2 7 ?_
 refine tx 3 8 ?_
 refine rd 4 rfl (fun KK hKK => ?_)
 go_simp
 have hgo:=bB
 refine (QF.out _).mono ?_
 rintro e wy2 ⟨rfl, bb⟩
 have bC : Below w0.heap.size w0 wy2:=bu bB bb
 clear bB hgo bb hHeld
 refine hKK.out _ _ (K.out _ bC) (fun hHeld => ?_)
 clear hKK KK
 refine rd 5 rfl (fun KK hKK => ?_)
 go_simp
 have hgo:=bC
 refine (QS.out _ (HA.out.below hgo)).mono ?_
 rintro e wy3 ⟨rfl, bb⟩
 have bD : Below w0.heap.size w0 wy3:=bu bC bb
 clear bC hgo bb hHeld
 refine hKK.out _ _ (K.out _ bD) (fun hHeld => ?_)
 clear hKK KK
 refine tx 6 11 ?_
 refine sx 7 12 ?_
 refine sx 8 13 ?_
 refine tx 9 14 ?_
 refine tx 10 15 ?_
 refine tx 11 4 ?_
 clear hHeld
 refine wdn ?_
 go_wp2
 go_ret
 exact ⟨rfl, bu B0 bD⟩
end
end Go.Proofs.YtjdchloechcclaaGreatDoor
