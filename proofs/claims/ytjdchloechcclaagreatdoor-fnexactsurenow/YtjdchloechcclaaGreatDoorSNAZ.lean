/- Lemmas, as stated. -/
import Derived.Test.YtjdchloechcclaaGreatDoorSNAX
import Derived.Laws.Cover1
set_option maxRecDepth 100000
set_option maxHeartbeats 8000000
set_option linter.unusedSectionVars false
namespace Go.Proofs.YtjdchloechcclaaGreatDoor
section
open Go.RowKit
def befP (a b : Pt) : Bool := decide (a.1 < b.1) || (decide (a.1 = b.1) && Op.bytesLess a.2.1.toList b.2.1.toList)
def rowP : List Pt → Bool
 | [] => true
 | [_] => true
 | a :: b :: t => befP a b && rowP (b :: t)

theorem less_irrefl (x : List UInt8) : Op.bytesLess x x = false := by
 induction x with
 | nil => rfl
 | cons a x ih => simp [Op.bytesLess, ih]
theorem less_total {x y : List UInt8} (h : Op.bytesLess x y = false) (hn : x ≠ y) : Op.bytesLess y x = true := by
 induction x generalizing y with
 | nil =>
  cases y with
  | nil => exact absurd rfl hn
  | cons b y => simp [Op.bytesLess] at h
 | cons a x ih =>
  cases y with
  | nil => rfl
  | cons b y =>
   simp only [Op.bytesLess, Bool.or_eq_false_iff, decide_eq_false_iff_not, Bool.and_eq_false_imp, beq_iff_eq] at h
   simp only [Op.bytesLess, Bool.or_eq_true, decide_eq_true_eq, Bool.and_eq_true, beq_iff_eq]
   by_cases e : a = b
   ·subst e
    exact .inr ⟨rfl, ih (h.2 rfl) (fun e => hn (by rw [e]))⟩
   left
   have h1:=h.1
   rw [UInt8.lt_iff_toNat_lt] at h1 ⊢
   have : a.toNat ≠ b.toNat:=fun e' => e (UInt8.toNat_inj.1 e')
   omega
end
section
open Go.RowKit
variable [∀ (n : Int) (s : List Int), Decidable (OkL n s)]
def cmpS (s t : ByteArray) : Int := if Op.bytesLess s.toList t.toList = true then -1 else if Op.bytesLess t.toList s.toList = true then 1 else 0
def cmpP (a b : Pt) : Int := if cmpI a.1 b.1 ≠ 0 then cmpI a.1 b.1 else cmpS a.2.1 b.2.1
theorem cmpS_lt (s t : ByteArray) : cmpS s t < 0 ↔ Op.bytesLess s.toList t.toList = true := by
 unfold cmpS
 split
 ·simp_all
 split <;> simp_all
theorem cmpP_lt (a b : Pt) : cmpP a b < 0 ↔ befP a b = true := by
 have hs:=cmpS_lt a.2.1 b.2.1
 unfold cmpP cmpI
 simp only [befP, Bool.or_eq_true, decide_eq_true_eq, Bool.and_eq_true]
 rcases Int.lt_trichotomy a.1 b.1 with h | h | h
 ·simp [h]
 ·simp [h, hs]
 have h1 : ¬ a.1 < b.1:=by omega
 have h2 : ¬ a.1 = b.1:=by omega
 simp [h, h1, h2]
theorem isNaN_i (x : Int) (w : World) : Calls Tryz.prog 228 #[.int .i64 x] w fun e w' => e = .returned (.bool false) ∧ w' = w := by
 go_enter Tryz.func228, Tryz.ntmps228
 go_wp2
 go_ret
 exact ⟨by simp, rfl⟩

theorem compare_i (x y : Int) (w : World) : Calls Tryz.prog 204 #[.int .i64 x,.int .i64 y] w fun e w' => e = .returned (.int .i64 (cmpI x y)) ∧ w' = w := by
 have NN:=hide isNaN_i
 unfold cmpI
 by_cases h1 : x < y
 ·rw [if_pos h1]
  go_enter Tryz.func204, Tryz.ntmps204
  go_wp2_with (first | (go_at_call 228; refine (NN.out _ _).mono ?_; rintro e w' ⟨rfl, rfl⟩))
  go_ret
  exact ⟨rfl, rfl⟩
 rw [if_neg h1]
 by_cases h2 : y < x
 ·rw [if_pos h2]
  go_enter Tryz.func204, Tryz.ntmps204
  go_wp2_with (first | (go_at_call 228; refine (NN.out _ _).mono ?_; rintro e w' ⟨rfl, rfl⟩))
  go_ret
  exact ⟨rfl, rfl⟩
 rw [if_neg h2]
 go_enter Tryz.func204, Tryz.ntmps204
 go_wp2_with (first | (go_at_call 228; refine (NN.out _ _).mono ?_; rintro e w' ⟨rfl, rfl⟩))
 go_ret
 exact ⟨rfl, rfl⟩

theorem isNaN_s (s : ByteArray) (w : World) : Calls Tryz.prog 229 #[.string s] w fun e w' => e = .returned (.bool false) ∧ w' = w := by
 go_enter Tryz.func229, Tryz.ntmps229
 go_wp2
 go_ret
 exact ⟨by simp, rfl⟩

theorem compare_s (s t : ByteArray) (w : World) : Calls Tryz.prog 206 #[.string s,.string t] w fun e w' => e = .returned (.int .i64 (cmpS s t)) ∧ w' = w := by
 have NN:=hide isNaN_s
 unfold cmpS
 by_cases h1 : Op.bytesLess s.toList t.toList = true
 ·rw [if_pos h1]
  go_enter Tryz.func206, Tryz.ntmps206
  go_wp2_with (first | (go_at_call 229; refine (NN.out _ _).mono ?_; rintro e w' ⟨rfl, rfl⟩))
  go_ret
  exact ⟨rfl, rfl⟩
 rw [if_neg h1]
 have h1 : Op.bytesLess s.toList t.toList = false:=by simpa using h1
 by_cases h2 : Op.bytesLess t.toList s.toList = true
 ·rw [if_pos h2]
  have h3 : (s.toList == t.toList) = false:=by
   simp only [beq_eq_false_iff_ne]; intro e; rw [e, less_irrefl] at h2; cases h2
  go_enter Tryz.func206, Tryz.ntmps206
  go_wp2_with (first | (go_at_call 229; refine (NN.out _ _).mono ?_; rintro e w' ⟨rfl, rfl⟩))
  go_ret
  exact ⟨rfl, rfl⟩
 rw [if_neg h2]
 have h2 : Op.bytesLess t.toList s.toList = false:=by simpa using h2
 have h3 : (s.toList == t.toList) = true:=by
  rw [beq_iff_eq]; exact Classical.byContradiction fun e => by have := less_total h1 e; rw [h2] at this; cases this
 go_enter Tryz.func206, Tryz.ntmps206
 go_wp2_with (first | (go_at_call 229; refine (NN.out _ _).mono ?_; rintro e w' ⟨rfl, rfl⟩))
 go_ret
 exact ⟨rfl, rfl⟩

theorem or_two (a b : Int) (g : Nat) (w : World) (h0 : w.cell? ⟨g, 0, none⟩ = some (.int .i64 a)) (h1 : w.cell? ⟨g, 1, none⟩ = some (.int .i64 b)) :
 Calls Tryz.prog 203 #[.slice (some ⟨g, 0, none⟩) 2 2] w fun e w' => e = .returned (.int .i64 (if a ≠ 0 then a else b)) ∧ w' = w := by
 by_cases ha : a = 0
 ·have e : (if a ≠ 0 then a else b) = b:=by simp [ha]
  rw [e]
  subst ha
  clear e
  by_cases hb : b = 0
  ·subst hb
   go_enter Tryz.func203, Tryz.ntmps203
   go_wp2
   refine wp_loop_rounds 3 ?_
   rw [rounds_succ]
   go_wp2
   rw [rounds_succ]
   go_wp2
   rw [rounds_succ]
   go_wp2
   go_ret
   exact ⟨rfl, rfl⟩
  go_enter Tryz.func203, Tryz.ntmps203
  go_wp2
  refine wp_loop_rounds 2 ?_
  rw [rounds_succ]
  go_wp2
  rw [rounds_succ]
  go_wp2
  go_ret
  exact ⟨rfl, rfl⟩
 have e : (if a ≠ 0 then a else b) = a:=by simp [ha]
 rw [e]
 clear e
 go_enter Tryz.func203, Tryz.ntmps203
 go_wp2
 refine wp_loop_rounds 1 ?_
 rw [rounds_succ]
 go_wp2
 go_ret
 exact ⟨rfl, rfl⟩
end
section
open Go.RowKit
variable [∀ (a b c d : Int), Decidable (Ok4 a b c d)]
def Cells4K (w : World) (g k : Nat) (t : T4) : Prop := w.cell? ⟨g, k * 4, none⟩ = some (.int .i64 t.1) ∧ w.cell? ⟨g, k * 4 + 1, none⟩ = some (.int .i64 t.2.1) ∧ w.cell? ⟨g, k * 4 + 2, none⟩ = some (.int .i64 t.2.2.1) ∧ w.cell? ⟨g, k * 4 + 3, none⟩ = some (.int .i64 t.2.2.2)
end
section
open Go.RowKit
variable [∀ (n : Int) (s : List Int), Decidable (OkL n s)]
variable [∀ (a b c d : Int), Decidable (Ok4 a b c d)]
def Bef (x y : T4) : Prop := x.1 < y.1 ∨ (x.1 = y.1 ∧ x.2.2.2 < y.2.2.2)
variable [∀ (x y : T4), Decidable (Bef x y)]
def cmpT (x y : T4) : Int := if cmpI x.1 y.1 ≠ 0 then cmpI x.1 y.1 else cmpI x.2.2.2 y.2.2.2
theorem cmpT_lt (x y : T4) : cmpT x y < 0 ↔ Bef x y := by
 unfold cmpT cmpI Bef
 repeat' split
 all_goals omega
theorem Bef.trans {x y z : T4} (h : Bef x y) (k : Bef y z) : Bef x z := by unfold Bef at *; omega
theorem isNaN_no (x : Int) (w : World) : Calls Tryz.prog 228 #[.int .i64 x] w fun e w' => e = .returned (.bool false) ∧ w' = w := by
 go_enter Tryz.func228, Tryz.ntmps228
 go_wp2
 go_ret
 exact ⟨by simp, rfl⟩

theorem compare_any (x y : Int) (w : World) : Calls Tryz.prog 204 #[.int .i64 x,.int .i64 y] w fun e w' => e = .returned (.int .i64 (cmpI x y)) ∧ w' = w := by
 have NN:=hide isNaN_no
 unfold cmpI
 by_cases h1 : x < y
 ·rw [if_pos h1]
  go_enter Tryz.func204, Tryz.ntmps204
  go_wp2_with (first | (go_at_call 228; refine (NN.out _ _).mono ?_; rintro e w' ⟨rfl, rfl⟩))
  go_ret
  exact ⟨rfl, rfl⟩
 rw [if_neg h1]
 by_cases h2 : y < x
 ·rw [if_pos h2]
  go_enter Tryz.func204, Tryz.ntmps204
  go_wp2_with (first | (go_at_call 228; refine (NN.out _ _).mono ?_; rintro e w' ⟨rfl, rfl⟩))
  go_ret
  exact ⟨rfl, rfl⟩
 rw [if_neg h2]
 go_enter Tryz.func204, Tryz.ntmps204
 go_wp2_with (first | (go_at_call 228; refine (NN.out _ _).mono ?_; rintro e w' ⟨rfl, rfl⟩))
 go_ret
 exact ⟨rfl, rfl⟩

theorem compareTx_any (x y : T4) (w : World) :
 Calls Tryz.prog 172 #[txv x.1 x.2.1 x.2.2.1 x.2.2.2, txv y.1 y.2.1 y.2.2.1 y.2.2.2] w fun e w' => e = .returned (.int .i64 (cmpT x y)) ∧ Below w.heap.size w w' := by
 have OR : Hid (∀ g w, w.cell? ⟨g, 0, none⟩ = some (.int .i64 (cmpI x.1 y.1)) → w.cell? ⟨g, 1, none⟩ = some (.int .i64 (cmpI x.2.2.2 y.2.2.2)) → Calls Tryz.prog 203 #[.slice (some ⟨g, 0, none⟩) 2 2] w fun e w' => e = .returned (.int .i64 (cmpT x y)) ∧ w' = w):=hide fun g w h0 h1 => or_two _ _ g w h0 h1
 generalize cmpT x y = q at *
 obtain ⟨xa, xb, xc, xd⟩:=x
 obtain ⟨ya, yb, yc, yd⟩:=y
 dsimp only at OR ⊢
 obtain ⟨w0, hw0⟩ : ∃ w0, (w.alloc (.cells (r4 xa xb xc xd) 70)).alloc (.cells (r4 ya yb yc yd) 70) = w0:=⟨_, rfl⟩
 have B0 : Below w.heap.size w w0:=hw0 ▸ ((Below.refl _ _).alloc (Nat.le_refl _) _).alloc (by simp) _
 have LX : Loc w0 w.heap.size (r4 xa xb xc xd):=hw0 ▸ (loc_at w _ _ rfl).alloc _
 have LY : Loc w0 (w.heap.size + 1) (r4 ya yb yc yd):=hw0 ▸ loc_at _ _ _ (by simp)
 have K : Hid (∀ w', Below w0.heap.size w0 w' → (w'.cell? ⟨w.heap.size, 0, none⟩ = some (.int .i64 xa) ∧ w'.cell? ⟨w.heap.size, 3, none⟩ = some (.int .i64 xd)) ∧ (w'.cell? ⟨w.heap.size + 1, 0, none⟩ = some (.int .i64 ya) ∧ w'.cell? ⟨w.heap.size + 1, 3, none⟩ = some (.int .i64 yd))):=hide fun w' hb => by
  have l:=LX.up hb
  have m:=LY.up hb
  exact ⟨⟨l.cell 0 rfl, l.cell 3 rfl⟩, ⟨m.cell 0 rfl, m.cell 3 rfl⟩⟩
 go_enter Tryz.func172, Tryz.ntmps172
 go_wp2_with fail
 clear hw0
 refine wrn K (Below.drew (Below.refl _ _)) (fun hHeld => ?_)
 obtain ⟨wd, hd⟩ : ∃ wd, w0.drew = wd:=⟨_, rfl⟩
 have bd : Below w0.heap.size w0 wd:=hd ▸ Below.drew (Below.refl _ _)
 have szd:=bd.size
 rw [hd] at hHeld ⊢
 clear hd
 refine tx 0 5 ?_
 refine tx 1 6 ?_
 refine tx 2 7 ?_
 refine tx 3 8 ?_
 refine tx 5 10 ?_
 refine tx 6 11 ?_
 refine tx 7 12 ?_
 refine tx 8 13 ?_
 refine rd 4 rfl (fun KK hKK => ?_)
 go_simp
 refine (compare_any xa ya _).mono ?_
 rintro _ w9 ⟨rfl, e9⟩
 rw [e9]
 clear e9 hHeld
 refine hKK.out _ _ (K.out _ bd) (fun hHeld => ?_)
 clear hKK KK
 refine rd 9 rfl (fun KK hKK => ?_)
 go_simp
 refine (compare_any xd yd _).mono ?_
 rintro _ w9 ⟨rfl, e9⟩
 rw [e9]
 clear e9 hHeld
 refine hKK.out _ _ (K.out _ bd) (fun hHeld => ?_)
 clear hKK KK
 refine rd 10 rfl (fun KK hKK => ?_)
 go_simp
 obtain ⟨we, he⟩ : ∃ x, wd.alloc (.cells #[.int .i64 (cmpI xa ya),.int .i64 (cmpI xd yd)] 3) = x:=⟨_, rfl⟩
 have be : Below w0.heap.size w0 we:=he ▸ bd.alloc szd _
 have LE : Loc we wd.heap.size #[.int .i64 (cmpI xa ya),.int .i64 (cmpI xd yd)]:=he ▸ loc_at wd _ _ rfl
 rw [he]
 clear hHeld
 refine hKK.out _ _ (K.out _ be) (fun hHeld => ?_)
 clear hKK KK
 refine rd 11 rfl (fun KK hKK => ?_)
 go_simp
 refine (OR.out _ _ (LE.cell 0 rfl) (LE.cell 1 rfl)).mono ?_
 rintro _ w9 ⟨rfl, e9⟩
 rw [e9]
 clear e9 hHeld
 refine hKK.out _ _ (K.out _ be) (fun hHeld => ?_)
 clear hKK KK
 refine tx 12 4 ?_
 clear hHeld
 refine wdn ?_
 go_wp2
 go_ret
 exact ⟨rfl, bu B0 be⟩

theorem before_any (x y : T4) (w : World) :
 Calls Tryz.prog 131 #[txv x.1 x.2.1 x.2.2.1 x.2.2.2, txv y.1 y.2.1 y.2.2.1 y.2.2.2] w fun e w' => e = .returned (.bool (decide (Bef x y))) ∧ Below w.heap.size w w' := by
 obtain ⟨xa, xb, xc, xd⟩:=x
 obtain ⟨ya, yb, yc, yd⟩:=y
 dsimp only
 by_cases h1 : xa < ya
 ·rw [show decide (Bef (xa, xb, xc, xd) (ya, yb, yc, yd)) = true from decide_eq_true (Or.inl h1)]
  go_enter Tryz.func131, Tryz.ntmps131
  go_wp2
  go_ret
  exact ⟨rfl, ((Below.refl _ _).alloc (Nat.le_refl _) _).alloc (by simp) _⟩
 by_cases h2 : xa = ya
 ·have e : decide (Bef (xa, xb, xc, xd) (ya, yb, yc, yd)) = decide (xd < yd):=by
   have : Bef (xa, xb, xc, xd) (ya, yb, yc, yd) ↔ xd < yd:=by unfold Bef; dsimp only; omega
   simp only [this]
  rw [e]
  clear e
  subst h2
  go_enter Tryz.func131, Tryz.ntmps131
  go_wp2
  go_ret
  exact ⟨rfl, ((Below.refl _ _).alloc (Nat.le_refl _) _).alloc (by simp) _⟩
 rw [show decide (Bef (xa, xb, xc, xd) (ya, yb, yc, yd)) = false from decide_eq_false (by unfold Bef; dsimp only; omega)]
 have h2 : (xa == ya) = false:=by simpa using h2
 go_enter Tryz.func131, Tryz.ntmps131
 go_wp2
 go_ret
 exact ⟨rfl, ((Below.refl _ _).alloc (Nat.le_refl _) _).alloc (by simp) _⟩
end
section
open Go.RowKit
variable [∀ (n : Int) (s : List Int), Decidable (OkL n s)]
variable [∀ (a b c d : Int), Decidable (Ok4 a b c d)]
variable [∀ (x y : T4), Decidable (Bef x y)]
abbrev z4 : T4 := (0, 0, 0, 0)
def Asc (ts : List T4) : Prop := ∀ k, k < ts.length - 1 → Bef (ts.getD k z4) (ts.getD (k + 1) z4)
def AllOk (ts : List T4) : Prop := ∀ k, k < ts.length → Ok4 (ts.getD k z4).1 (ts.getD k z4).2.1 (ts.getD k z4).2.2.1 (ts.getD k z4).2.2.2
variable [∀ (ts : List T4), Decidable (Asc ts)]
variable [∀ (ts : List T4), Decidable (AllOk ts)]
def POk (ts : List T4) : Prop := ts.length ≤ 12 ∧ AllOk ts ∧ Asc ts
variable [∀ (ts : List T4), Decidable (POk ts)]
theorem RT.at {w : World} {ao : Option Addr} {n ca : Nat} {xs : List T4} (h : RT w (.slice ao n ca) xs) (k : Nat) (hk : k < xs.length) : ∃ g, ao = some ⟨g, 0, none⟩ ∧ Cells4K w g k (xs.getD k z4) := by
 obtain ⟨_, ao', ca', e, h⟩:=h
 cases e
 rcases h with rfl | ⟨g, rfl, h⟩
 ·simp at hk
 exact ⟨g, rfl, h k hk⟩
theorem RT.form {w : World} {v : Value} {xs : List T4} (h : RT w v xs) : ∃ ao ca, v = .slice ao xs.length ca := by obtain ⟨_, ao, ca, e, _⟩ := h; exact ⟨ao, ca, e⟩
theorem Cells4K.below {w w' : World} {B g k : Nat} {t : T4} (h : Cells4K w g k t) (hb : Below B w w') (hg : w.heap.size ≤ B := by exact Nat.le_refl _) : Cells4K w' g k t := by
 have hl : g < B:=Nat.lt_of_lt_of_le (cell_lt h.1) hg
 exact ⟨(hb.cell (p := ⟨g, k * 4, none⟩) hl).trans h.1, (hb.cell (p := ⟨g, k * 4 + 1, none⟩) hl).trans h.2.1, (hb.cell (p := ⟨g, k * 4 + 2, none⟩) hl).trans h.2.2.1, (hb.cell (p := ⟨g, k * 4 + 3, none⟩) hl).trans h.2.2.2⟩

theorem notTx_any (a b c d : Int) (w : World) :
 Calls Tryz.prog 138 #[txv a b c d] w fun e w' => e = .returned (.bool (!decide (Ok4 a b c d))) ∧ Below w.heap.size w w' := by
 have TO:=hide fun w => implTxOk a b c d w
 go_enter Tryz.func138, Tryz.ntmps138
 go_wp2_with (first | (go_at_call 171; refine (TO.out _).mono ?_; rintro e w' ⟨rfl, bb⟩))
 go_ret
 exact ⟨rfl, ((Below.refl _ _).alloc (Nat.le_refl _) _).trans (bb.mono (by simp))⟩

theorem index_any (v : Value) (ts : List T4) (w : World) (h : RT w v ts) :
 Calls Tryz.prog 170 #[v,.func (.func 138) #[] #[]] w fun e w' => ∃ i : Int, e = .returned (.int .i64 i) ∧ (0 ≤ i ↔ ¬ AllOk ts) ∧ Below w.heap.size w w' := by
 obtain ⟨ao, ca, rfl⟩:=h.form
 have hl:=h.1
 have H:=hide h
 obtain ⟨n, hn⟩ : ∃ n, ts.length = n:=⟨_, rfl⟩
 have Hn:=hide hn
 rw [hn] at hl H ⊢
 clear h hn
 go_enter Tryz.func170, Tryz.ntmps170
 go_wp2
 go_loopw [8] (fun i wr => ∃ k : Nat, k ≤ n ∧ i = .int .i64 k ∧ Hid (∀ j, j < k → Ok4 (ts.getD j z4).1 (ts.getD j z4).2.1 (ts.getD j z4).2.2.1 (ts.getD j z4).2.2.2) ∧ Below w.heap.size w wr) (fun i _ => n - (intOf i).toNat)
 case atStart => exact ⟨0, Nat.zero_le _, rfl, hide (fun j hj => absurd hj (Nat.not_lt_zero j)), Below.refl _ _⟩
 case round =>
  obtain ⟨k, hk, rfl, HA, br⟩:=hrel
  by_cases hlt : k < n
  ·obtain ⟨g, rfl, hc⟩:=H.out.at k (by rw [Hn.out]; exact hlt)
   obtain ⟨c0, c1, c2, c3⟩:=hc.below br
   have NT:=hide fun w => notTx_any (ts.getD k z4).1 (ts.getD k z4).2.1 (ts.getD k z4).2.2.1 (ts.getD k z4).2.2.2 w
   have HS:=hide fun (h : Ok4 (ts.getD k z4).1 (ts.getD k z4).2.1 (ts.getD k z4).2.2.1 (ts.getD k z4).2.2.2) => (show ∀ j, j < k + 1 → Ok4 (ts.getD j z4).1 (ts.getD j z4).2.1 (ts.getD j z4).2.2.1 (ts.getD j z4).2.2.2 from fun j hj => by
    by_cases e : j = k
    ·rw [e]; exact h
    exact HA.out j (by omega))
   have HN : Hid (¬ Ok4 (ts.getD k z4).1 (ts.getD k z4).2.1 (ts.getD k z4).2.2.1 (ts.getD k z4).2.2.2 → ¬ AllOk ts):=hide fun h ha => h (ha k (by rw [Hn.out]; exact hlt))
   clear HA hc
   generalize ts.getD k z4 = x at *
   obtain ⟨xa, xb, xc, xd⟩:=x
   dsimp only at c0 c1 c2 c3 NT HS HN
   by_cases ho : Ok4 xa xb xc xd
   ·rw [decide_eq_true ho] at NT
    have HS:=hide (HS.out ho)
    clear HN ho
    go_wp2_with (first | (go_at_call 138; refine (NT.out _).mono ?_; rintro e w2 ⟨rfl, b2⟩))
    go_roundw
    case rel => exact ⟨k + 1, by omega, by go_num, HS, bu br b2⟩
    case measure => simp [intOf]; omega
   rw [decide_eq_false ho] at NT
   have HN:=hide (HN.out ho)
   clear HS ho
   go_wp2_with (first | (go_at_call 138; refine (NT.out _).mono ?_; rintro e w2 ⟨rfl, b2⟩))
   go_ret
   exact ⟨k, rfl, by simp [HN.out], bu br b2⟩
  have hkn : k = n:=by omega
  have HN : Hid (AllOk ts):=hide fun j hj => HA.out j (by have:=Hn.out; omega)
  clear HA
  subst hkn
  go_wp2
  go_ret
  exact ⟨-1, rfl, by simp [HN.out], br⟩

theorem contains_any (v : Value) (ts : List T4) (w : World) (h : RT w v ts) :
 Calls Tryz.prog 137 #[v,.func (.func 138) #[] #[]] w fun e w' => e = .returned (.bool (!decide (AllOk ts))) ∧ Below w.heap.size w w' := by
 have IX:=hide fun w h => index_any v ts w h
 have H:=hide h
 obtain ⟨ao, ca, rfl⟩:=h.form
 clear h
 go_enter Tryz.func137, Tryz.ntmps137
 go_wp2_with fail
 refine (IX.out _ H.out).mono ?_
 rintro e w2 ⟨i, rfl, hi, b2⟩
 go_wp2
 go_ret
 refine ⟨?_, b2⟩
 by_cases hA : AllOk ts
 ·rw [decide_eq_true hA]
  have : ¬ 0 ≤ i:=fun h => hi.1 h hA
  simp
 rw [decide_eq_false hA]
 have : 0 ≤ i:=hi.2 hA
 simp

theorem waiting_any (ao : Option Addr) (n ca : Nat) (w : World) :
 Calls Tryz.prog 139 #[.slice ao n ca] w fun e w' => e = .returned (.agg #[.slice ao n ca,.func (.func 172) #[] #[]]) ∧ Below w.heap.size w w' := by
 go_enter Tryz.func139, Tryz.ntmps139
 go_wp2
 refine bodyPost_ret (v := .agg #[.slice ao n ca,.func (.func 172) #[] #[]]) (by simp [results, Tryz.results139, go_sem]) rfl ?_
 exact ⟨rfl, (Below.refl _ _).alloc (Nat.le_refl _) _⟩

theorem ascends_any (v : Value) (ts : List T4) (w : World) (h : RT w v ts) :
 Calls Tryz.prog 140 #[.agg #[v,.func (.func 172) #[] #[]]] w fun e w' => e = .returned (.bool (decide (Asc ts))) ∧ Below w.heap.size w w' := by
 obtain ⟨ao, ca, rfl⟩:=h.form
 have hl:=h.1
 have H:=hide h
 obtain ⟨n, hn⟩ : ∃ n, ts.length = n:=⟨_, rfl⟩
 have Hn:=hide hn
 rw [hn] at hl H ⊢
 clear h hn
 obtain ⟨w0, hw0⟩ : ∃ w0, w.alloc (.cells #[.slice ao n ca,.func (.func 172) #[] #[]] 181) = w0:=⟨_, rfl⟩
 have B0 : Below w.heap.size w w0:=hw0 ▸ (Below.refl _ _).alloc (Nat.le_refl _) _
 have L0 : Loc w0 w.heap.size #[.slice ao n ca,.func (.func 172) #[] #[]]:=hw0 ▸ loc_at w _ _ rfl
 go_enter Tryz.func140, Tryz.ntmps140
 go_wp2
 clear hw0
 go_loopw [3] (fun i wr => ∃ m : Nat, 1 ≤ m ∧ m ≤ n + 1 ∧ i = .int .i64 m ∧ Hid (∀ j, j + 1 < m → j < n - 1 → Bef (ts.getD j z4) (ts.getD (j + 1) z4)) ∧ Loc wr w.heap.size #[.slice ao n ca,.func (.func 172) #[] #[]] ∧ Below w.heap.size w wr) (fun i _ => n + 1 - (intOf i).toNat)
 case atStart => exact ⟨1, Nat.le_refl _, by omega, by go_num, hide (fun j hj => absurd hj (by omega)), L0, B0⟩
 case round =>
  clear L0 B0
  obtain ⟨m, hm1, hm, rfl, HA, L, br⟩:=hrel
  have q0:=L.cell 0 rfl
  have q1:=L.cell 1 rfl
  by_cases hlt : m < n
  ·obtain ⟨k, hk⟩ : ∃ k, m = k + 1:=⟨m - 1, by omega⟩
   have hk1 : (m : Int) - 1 = (k : Int):=by omega
   have hwk : IntKind.i64.wrap (k : Int) = (k : Int):=by rw [IntKind.wrap_i64]; omega
   have hkn : k < n:=by omega
   obtain ⟨g, rfl, hx⟩:=H.out.at k (by rw [Hn.out]; omega)
   obtain ⟨g', e, hy⟩:=H.out.at m (by rw [Hn.out]; omega)
   cases e
   have CX:=hide (hx.below br)
   have CY:=hide (hy.below br)
   have CT:=hide fun w => compareTx_any (ts.getD k z4) (ts.getD m z4) w
   have HS:=hide fun (h : Bef (ts.getD k z4) (ts.getD m z4)) => (show ∀ j, j + 1 < m + 1 → j < n - 1 → Bef (ts.getD j z4) (ts.getD (j + 1) z4) from fun j hj hj2 => by
    by_cases e : j = k
    ·rw [e, ← hk]; exact h
    exact HA.out j (by omega) hj2)
   have HN : Hid (¬ Bef (ts.getD k z4) (ts.getD m z4) → ¬ Asc ts):=hide fun h ha => h (by have:=ha k (by rw [Hn.out]; omega); rwa [← hk] at this)
   have hcm:=hide (cmpT_lt (ts.getD k z4) (ts.getD m z4))
   clear HA hx hy
   generalize cmpT (ts.getD k z4) (ts.getD m z4) = q at *
   generalize Bef (ts.getD k z4) (ts.getD m z4) = BF at *
   generalize ts.getD k z4 = x at *
   generalize ts.getD m z4 = y at *
   obtain ⟨xa, xb, xc, xd⟩:=x
   obtain ⟨ya, yb, yc, yd⟩:=y
   dsimp only at CT
   have K : Hid (∀ w', Below wr.heap.size wr w' → (w'.cell? ⟨w.heap.size, 0, none⟩ = some (.slice (some ⟨g, 0, none⟩) n ca) ∧ w'.cell? ⟨w.heap.size, 1, none⟩ = some (.func (.func 172) #[] #[])) ∧ (w'.cell? ⟨g, k * 4, none⟩ = some (.int .i64 xa) ∧ w'.cell? ⟨g, k * 4 + 1, none⟩ = some (.int .i64 xb) ∧ w'.cell? ⟨g, k * 4 + 2, none⟩ = some (.int .i64 xc) ∧ w'.cell? ⟨g, k * 4 + 3, none⟩ = some (.int .i64 xd)) ∧ (w'.cell? ⟨g, m * 4, none⟩ = some (.int .i64 ya) ∧ w'.cell? ⟨g, m * 4 + 1, none⟩ = some (.int .i64 yb) ∧ w'.cell? ⟨g, m * 4 + 2, none⟩ = some (.int .i64 yc) ∧ w'.cell? ⟨g, m * 4 + 3, none⟩ = some (.int .i64 yd))):=hide fun w' hb => by
    have l:=L.up hb
    have x:=CX.out.below hb
    have y:=CY.out.below hb
    exact ⟨⟨l.cell 0 rfl, l.cell 1 rfl⟩, x, y⟩
   have bA : Below wr.heap.size wr wr.drew:=Below.drew (Below.refl _ _)
   have hKeep:=K.out _ bA
   replace hk:=hide hk
   clear CX CY
   go_wp2_with fail
   refine wp_region_noPanic ?_
   refine wp_region_held_drew (S := (fun w' => (w'.cell? ⟨w.heap.size, 0, none⟩ = some (.slice (some ⟨g, 0, none⟩) n ca) ∧ w'.cell? ⟨w.heap.size, 1, none⟩ = some (.func (.func 172) #[] #[])) ∧ (w'.cell? ⟨g, k * 4, none⟩ = some (.int .i64 xa) ∧ w'.cell? ⟨g, k * 4 + 1, none⟩ = some (.int .i64 xb) ∧ w'.cell? ⟨g, k * 4 + 2, none⟩ = some (.int .i64 xc) ∧ w'.cell? ⟨g, k * 4 + 3, none⟩ = some (.int .i64 xd)) ∧ (w'.cell? ⟨g, m * 4, none⟩ = some (.int .i64 ya) ∧ w'.cell? ⟨g, m * 4 + 1, none⟩ = some (.int .i64 yb) ∧ w'.cell? ⟨g, m * 4 + 2, none⟩ = some (.int .i64 yc) ∧ w'.cell? ⟨g, m * 4 + 3, none⟩ = some (.int .i64 yd)))) (by kernel_rfl) hKeep (fun hHeld => ?_)
   refine tx 0 11 ?_
   refine tx 1 12 ?_
   refine tx 2 13 ?_
   refine tx 3 14 ?_
   refine tx 4 15 ?_
   refine tx 5 16 ?_
   refine tx 6 17 ?_
   refine tx 7 18 ?_
   refine tx 8 19 ?_
   refine tx 9 20 ?_
   refine tx 10 21 ?_
   refine tx 11 22 ?_
   refine tx 12 23 ?_
   refine rd 13 rfl (fun KK hKK => ?_)
   go_simp
   refine (CT.out _).mono ?_
   rintro _ wa ⟨rfl, ba⟩
   have bB : Below wr.heap.size wr wa:=bA.trans ba
   clear hHeld
   refine hKK.out _ _ (K.out _ bB) (fun hHeld => ?_)
   clear hKK KK
   refine tx 14 25 ?_
   clear hHeld
   refine wdn ?_
   have LB:=L.up bB
   have BB:=bu br bB
   by_cases hq : q < 0
   ·have HS:=hide (HS.out (hcm.out.1 hq))
    have hq0 : ¬ 0 ≤ q:=by omega
    clear hcm HN
    go_wp2
    go_roundw
    case rel => exact ⟨m + 1, by omega, by omega, by go_num, HS, LB, BB⟩
    case measure => simp [intOf]; omega
   have hno : decide (Asc ts) = false:=decide_eq_false (HN.out (fun h => hq (hcm.out.2 h)))
   have hq0 : 0 ≤ q:=by omega
   clear hcm HS HN
   go_wp2
   go_ret
   exact ⟨by first | rfl | (rw [hno]; rfl), BB⟩
  have hyes : decide (Asc ts) = true:=decide_eq_true fun j hj => HA.out j (by have:=Hn.out; omega) (by have:=Hn.out; omega)
  clear HA
  go_wp2
  go_ret
  exact ⟨by first | rfl | (rw [hyes]; rfl), br⟩
end
section
open Go.RowKit
variable [∀ (n : Int) (s : List Int), Decidable (OkL n s)]
variable [∀ (a b c d : Int), Decidable (Ok4 a b c d)]
variable [∀ (x y : T4), Decidable (Bef x y)]
variable [∀ (ts : List T4), Decidable (Asc ts)]
variable [∀ (ts : List T4), Decidable (AllOk ts)]
variable [∀ (ts : List T4), Decidable (POk ts)]
theorem implPoolOk (v : Value) (ts : List T4) (w : World) (h : RT w v ts) :
 Calls Tryz.prog 103 #[v] w fun e w' => e = .returned (.bool (decide (POk ts))) ∧ Below w.heap.size w w' := by
 have CF:=hide fun w h => contains_any v ts w h
 have AS:=hide fun w h => ascends_any v ts w h
 have H:=hide h
 have hl:=h.1
 obtain ⟨ao, ca, rfl⟩:=h.form
 clear h
 by_cases h1 : ts.length ≤ 12
 ·by_cases h2 : AllOk ts
  ·rw [decide_eq_true h2] at CF
   have e : decide (POk ts) = decide (Asc ts):=by
    by_cases h3 : Asc ts
    ·rw [decide_eq_true h3, decide_eq_true (show POk ts from ⟨h1, h2, h3⟩)]
    rw [decide_eq_false h3, decide_eq_false (fun h : POk ts => h3 h.2.2)]
   rw [e]
   clear e h2
   go_enter Tryz.func103, Tryz.ntmps103
   go_wp2_with fail
   refine (CF.out _ H.out).mono ?_
   rintro _ w1 ⟨rfl, b1⟩
   go_wp2_with fail
   refine (waiting_any _ _ _ _).mono ?_
   rintro _ w2 ⟨rfl, b2⟩
   have B2:=bu b1 b2
   go_wp2_with fail
   refine (AS.out _ (H.out.below B2)).mono ?_
   rintro _ w3 ⟨rfl, b3⟩
   have B3:=bu B2 b3
   go_wp2
   go_ret
   exact ⟨rfl, B3⟩
  rw [decide_eq_false h2] at CF
  rw [decide_eq_false (fun h : POk ts => h2 h.2.1)]
  clear h2 AS
  go_enter Tryz.func103, Tryz.ntmps103
  go_wp2_with fail
  refine (CF.out _ H.out).mono ?_
  rintro _ w1 ⟨rfl, b1⟩
  go_wp2
  go_ret
  exact ⟨rfl, b1⟩
 rw [decide_eq_false (fun h : POk ts => h1 h.1)]
 have h1 : decide ((ts.length : Int) ≤ 12) = false:=by simp; omega
 clear CF AS
 go_enter Tryz.func103, Tryz.ntmps103
 go_wp2
 go_ret
 exact ⟨rfl, Below.refl _ _⟩

def OkTo (ts : List T4) (m : Nat) : Prop := ∀ j, j < m → Ok4 (ts.getD j z4).1 (ts.getD j z4).2.1 (ts.getD j z4).2.2.1 (ts.getD j z4).2.2.2 ∧ (∀ i, j = i + 1 → Bef (ts.getD i z4) (ts.getD j z4))
theorem OkTo.succ {ts : List T4} {m : Nat} (h : OkTo ts m) (h1 : Ok4 (ts.getD m z4).1 (ts.getD m z4).2.1 (ts.getD m z4).2.2.1 (ts.getD m z4).2.2.2) (h2 : ∀ i, m = i + 1 → Bef (ts.getD i z4) (ts.getD m z4)) : OkTo ts (m + 1) := fun j hj => by
 by_cases e : j = m
 ·subst e; exact ⟨h1, h2⟩
 exact h j (by omega)
theorem OkTo.all {ts : List T4} (h : OkTo ts ts.length) : AllOk ts ∧ Asc ts := ⟨fun k hk => (h k hk).1, fun k hk => (h (k + 1) (by omega)).2 k rfl⟩

theorem specPoolOk (v : Value) (ts : List T4) (w : World) (h : RT w v ts) :
 Calls Tryz.prog 94 #[v] w fun e w' => e = .returned (.bool (decide (POk ts))) ∧ Below w.heap.size w w' := by
 obtain ⟨ao, ca, rfl⟩:=h.form
 have hl:=h.1
 have H:=hide h
 obtain ⟨n, hn⟩ : ∃ n, ts.length = n:=⟨_, rfl⟩
 have Hn:=hide hn
 rw [hn] at hl H ⊢
 clear h hn
 go_enter Tryz.func94, Tryz.ntmps94
 go_wp2
 go_loopw [3] (fun i wr => ∃ m : Nat, m ≤ n ∧ i = .int .i64 m ∧ Hid (OkTo ts m) ∧ Below w.heap.size w wr) (fun i _ => n - (intOf i).toNat)
 case atStart => exact ⟨0, Nat.zero_le _, rfl, hide (fun j hj => absurd hj (Nat.not_lt_zero j)), Below.refl _ _⟩
 case round =>
  obtain ⟨m, hm, rfl, HA, br⟩:=hrel
  by_cases hlt : m < n
  ·obtain ⟨g, rfl, hy⟩:=H.out.at m (by rw [Hn.out]; exact hlt)
   have CY:=hide (hy.below br)
   have TO:=hide fun w => specTxOk (ts.getD m z4).1 (ts.getD m z4).2.1 (ts.getD m z4).2.2.1 (ts.getD m z4).2.2.2 w
   have bA : Below wr.heap.size wr wr.drew:=Below.drew (Below.refl _ _)
   by_cases ho : Ok4 (ts.getD m z4).1 (ts.getD m z4).2.1 (ts.getD m z4).2.2.1 (ts.getD m z4).2.2.2
   ·rw [decide_eq_true ho] at TO
    by_cases h0 : m = 0
    ·have HS:=hide (HA.out.succ ho (fun i hi => by omega))
     subst h0
     clear ho HA hy
     generalize ts.getD 0 z4 = y at *
     obtain ⟨ya, yb, yc, yd⟩:=y
     dsimp only at TO
     have K : Hid (∀ w', Below wr.heap.size wr w' → (w'.cell? ⟨g, 0 * 4, none⟩ = some (.int .i64 ya) ∧ w'.cell? ⟨g, 0 * 4 + 1, none⟩ = some (.int .i64 yb) ∧ w'.cell? ⟨g, 0 * 4 + 2, none⟩ = some (.int .i64 yc) ∧ w'.cell? ⟨g, 0 * 4 + 3, none⟩ = some (.int .i64 yd))):=hide fun w' hb => CY.out.below hb
     clear CY
     go_wp2_with fail
     refine wrn K bA (fun hHeld => ?_)
     refine tx 0 10 ?_
     refine tx 1 11 ?_
     refine tx 2 12 ?_
     refine tx 3 13 ?_
     refine rd 4 rfl (fun KK hKK => ?_)
     go_simp
     refine (TO.out _).mono ?_
     rintro _ wa ⟨rfl, ba⟩
     have bB : Below wr.heap.size wr wa:=bA.trans ba
     clear hHeld
     refine hKK.out _ _ (K.out _ bB) (fun hHeld => ?_)
     clear hKK KK
     refine tx 5 15 ?_
     refine tx 6 16 ?_
     refine tx 7 17 ?_
     refine tx 8 18 ?_
     refine tx 9 19 ?_
     refine sx 10 20 ?_
     refine sx 11 21 ?_
     refine sx 12 22 ?_
     refine sx 13 23 ?_
     refine sx 14 24 ?_
     refine sx 15 25 ?_
     refine sx 16 26 ?_
     refine sx 17 27 ?_
     refine sx 18 28 ?_
     refine sx 19 29 ?_
     refine sx 20 30 ?_
     refine tx 21 31 ?_
     refine tx 22 32 ?_
     clear hHeld
     refine wdn ?_
     have BB:=bu br bB
     go_wp2
     go_roundw
     case rel => exact ⟨1, by omega, by go_num, HS, BB⟩
     case measure => simp [intOf]; omega
    obtain ⟨k, hk⟩ : ∃ k, m = k + 1:=⟨m - 1, by omega⟩
    have hk1 : (m : Int) - 1 = (k : Int):=by omega
    have hwk : IntKind.i64.wrap (k : Int) = (k : Int):=by rw [IntKind.wrap_i64]; omega
    have hkn : k < n:=by omega
    have hm0 : 0 < m:=by omega
    have hmd : decide ((0 : Int) < (m : Int)) = true:=by simp; omega
    obtain ⟨g', e, hx⟩:=H.out.at k (by rw [Hn.out]; exact hkn)
    cases e
    have CX:=hide (hx.below br)
    have BF:=hide fun w => before_any (ts.getD k z4) (ts.getD m z4) w
    have HS:=hide fun (hb : Bef (ts.getD k z4) (ts.getD m z4)) => HA.out.succ ho (fun i hi => by rw [show i = k from by omega]; exact hb)
    have HN : Hid (¬ Bef (ts.getD k z4) (ts.getD m z4) → ¬ POk ts):=hide fun h ha => h (by have:=ha.2.2 k (by rw [Hn.out]; omega); rwa [← hk] at this)
    replace hk:=hide hk
    clear ho HA hy hx h0
    by_cases hb : Bef (ts.getD k z4) (ts.getD m z4)
    ·rw [decide_eq_true hb] at BF
     replace HS:=hide (HS.out hb)
     clear HN hb
     generalize ts.getD m z4 = y at *
     generalize ts.getD k z4 = x at *
     obtain ⟨ya, yb, yc, yd⟩:=y
     obtain ⟨xa, xb, xc, xd⟩:=x
     dsimp only at TO BF
     have K : Hid (∀ w', Below wr.heap.size wr w' → (w'.cell? ⟨g, k * 4, none⟩ = some (.int .i64 xa) ∧ w'.cell? ⟨g, k * 4 + 1, none⟩ = some (.int .i64 xb) ∧ w'.cell? ⟨g, k * 4 + 2, none⟩ = some (.int .i64 xc) ∧ w'.cell? ⟨g, k * 4 + 3, none⟩ = some (.int .i64 xd)) ∧ (w'.cell? ⟨g, m * 4, none⟩ = some (.int .i64 ya) ∧ w'.cell? ⟨g, m * 4 + 1, none⟩ = some (.int .i64 yb) ∧ w'.cell? ⟨g, m * 4 + 2, none⟩ = some (.int .i64 yc) ∧ w'.cell? ⟨g, m * 4 + 3, none⟩ = some (.int .i64 yd))):=hide fun w' hb => ⟨CX.out.below hb, CY.out.below hb⟩
     clear CX CY
     go_wp2_with fail
     refine wrn K bA (fun hHeld => ?_)
     refine tx 0 10 ?_
     refine tx 1 11 ?_
     refine tx 2 12 ?_
     refine tx 3 13 ?_
     refine rd 4 rfl (fun KK hKK => ?_)
     go_simp
     refine (TO.out _).mono ?_
     rintro _ wa ⟨rfl, ba⟩
     have bB : Below wr.heap.size wr wa:=bA.trans ba
     clear hHeld
     refine hKK.out _ _ (K.out _ bB) (fun hHeld => ?_)
     clear hKK KK
     refine tx 5 15 ?_
     refine tx 6 16 ?_
     refine tx 7 17 ?_
     refine tx 8 18 ?_
     refine tx 9 19 ?_
     refine tx 10 20 ?_
     refine tx 11 21 ?_
     refine tx 12 22 ?_
     refine tx 13 23 ?_
     refine tx 14 24 ?_
     refine tx 15 25 ?_
     refine tx 16 26 ?_
     refine tx 17 27 ?_
     refine tx 18 28 ?_
     refine rd 19 rfl (fun KK hKK => ?_)
     go_simp
     refine (BF.out _).mono ?_
     rintro _ wb ⟨rfl, bb⟩
     have bC : Below wr.heap.size wr wb:=bu bB bb
     clear hHeld
     refine hKK.out _ _ (K.out _ bC) (fun hHeld => ?_)
     clear hKK KK
     refine tx 20 30 ?_
     refine tx 21 31 ?_
     refine tx 22 32 ?_
     clear hHeld
     refine wdn ?_
     have BB:=bu br bC
     go_wp2
     go_roundw
     case rel => exact ⟨m + 1, by omega, by go_num, HS, BB⟩
     case measure => simp [intOf]; omega
    rw [decide_eq_false hb] at BF
    have hno:=decide_eq_false (HN.out hb)
    clear HN hb HS
    generalize ts.getD m z4 = y at *
    generalize ts.getD k z4 = x at *
    obtain ⟨ya, yb, yc, yd⟩:=y
    obtain ⟨xa, xb, xc, xd⟩:=x
    dsimp only at TO BF
    have K : Hid (∀ w', Below wr.heap.size wr w' → (w'.cell? ⟨g, k * 4, none⟩ = some (.int .i64 xa) ∧ w'.cell? ⟨g, k * 4 + 1, none⟩ = some (.int .i64 xb) ∧ w'.cell? ⟨g, k * 4 + 2, none⟩ = some (.int .i64 xc) ∧ w'.cell? ⟨g, k * 4 + 3, none⟩ = some (.int .i64 xd)) ∧ (w'.cell? ⟨g, m * 4, none⟩ = some (.int .i64 ya) ∧ w'.cell? ⟨g, m * 4 + 1, none⟩ = some (.int .i64 yb) ∧ w'.cell? ⟨g, m * 4 + 2, none⟩ = some (.int .i64 yc) ∧ w'.cell? ⟨g, m * 4 + 3, none⟩ = some (.int .i64 yd))):=hide fun w' hb => ⟨CX.out.below hb, CY.out.below hb⟩
    clear CX CY
    go_wp2_with fail
    refine wrn K bA (fun hHeld => ?_)
    refine tx 0 10 ?_
    refine tx 1 11 ?_
    refine tx 2 12 ?_
    refine tx 3 13 ?_
    refine rd 4 rfl (fun KK hKK => ?_)
    go_simp
    refine (TO.out _).mono ?_
    rintro _ wa ⟨rfl, ba⟩
    have bB : Below wr.heap.size wr wa:=bA.trans ba
    clear hHeld
    refine hKK.out _ _ (K.out _ bB) (fun hHeld => ?_)
    clear hKK KK
    refine tx 5 15 ?_
    refine tx 6 16 ?_
    refine tx 7 17 ?_
    refine tx 8 18 ?_
    refine tx 9 19 ?_
    refine tx 10 20 ?_
    refine tx 11 21 ?_
    refine tx 12 22 ?_
    refine tx 13 23 ?_
    refine tx 14 24 ?_
    refine tx 15 25 ?_
    refine tx 16 26 ?_
    refine tx 17 27 ?_
    refine tx 18 28 ?_
    refine rd 19 rfl (fun KK hKK => ?_)
    go_simp
    refine (BF.out _).mono ?_
    rintro _ wb ⟨rfl, bb⟩
    have bC : Below wr.heap.size wr wb:=bu bB bb
    clear hHeld
    refine hKK.out _ _ (K.out _ bC) (fun hHeld => ?_)
    clear hKK KK
    refine tx 20 30 ?_
    refine tx 21 31 ?_
    refine tx 22 32 ?_
    clear hHeld
    refine wdn ?_
    have BB:=bu br bC
    go_wp2
    go_ret
    exact ⟨by first | rfl | (rw [hno]; rfl), BB⟩
   rw [decide_eq_false ho] at TO
   have hno:=decide_eq_false (fun h : POk ts => ho (h.2.1 m (by rw [Hn.out]; exact hlt)))
   clear ho HA hy
   generalize ts.getD m z4 = y at *
   obtain ⟨ya, yb, yc, yd⟩:=y
   dsimp only at TO
   have K : Hid (∀ w', Below wr.heap.size wr w' → (w'.cell? ⟨g, m * 4, none⟩ = some (.int .i64 ya) ∧ w'.cell? ⟨g, m * 4 + 1, none⟩ = some (.int .i64 yb) ∧ w'.cell? ⟨g, m * 4 + 2, none⟩ = some (.int .i64 yc) ∧ w'.cell? ⟨g, m * 4 + 3, none⟩ = some (.int .i64 yd))):=hide fun w' hb => CY.out.below hb
   clear CY
   go_wp2_with fail
   refine wrn K bA (fun hHeld => ?_)
   refine tx 0 10 ?_
   refine tx 1 11 ?_
   refine tx 2 12 ?_
   refine tx 3 13 ?_
   refine rd 4 rfl (fun KK hKK => ?_)
   go_simp
   refine (TO.out _).mono ?_
   rintro _ wa ⟨rfl, ba⟩
   have bB : Below wr.heap.size wr wa:=bA.trans ba
   clear hHeld
   refine hKK.out _ _ (K.out _ bB) (fun hHeld => ?_)
   clear hKK KK
   refine tx 5 15 ?_
   refine tx 6 16 ?_
   refine sx 7 17 ?_
   refine sx 8 18 ?_
   refine sx 9 19 ?_
   refine sx 10 20 ?_
   refine sx 11 21 ?_
   refine sx 12 22 ?_
   refine sx 13 23 ?_
   refine sx 14 24 ?_
   refine sx 15 25 ?_
   refine sx 16 26 ?_
   refine sx 17 27 ?_
   refine sx 18 28 ?_
   refine sx 19 29 ?_
   refine sx 20 30 ?_
   refine sx 21 31 ?_
   refine tx 22 32 ?_
   clear hHeld
   refine wdn ?_
   have BB:=bu br bB
   go_wp2
   go_ret
   exact ⟨by first | rfl | (rw [hno]; rfl), BB⟩
  have hmn : m = n:=by omega
  have e : decide (POk ts) = decide ((n : Int) ≤ 12):=by
   have hA:=HA.out
   rw [hmn, ← Hn.out] at hA
   have:=hA.all
   by_cases h12 : n ≤ 12
   ·rw [decide_eq_true (show POk ts from ⟨by rw [Hn.out]; exact h12, this.1, this.2⟩)]; simp; omega
   rw [decide_eq_false (fun h : POk ts => h12 (by rw [← Hn.out]; exact h.1))]; simp; omega
  clear HA
  subst hmn
  replace e:=hide e
  go_wp2
  go_ret
  exact ⟨by rw [e.out]; rfl, br⟩
end
end Go.Proofs.YtjdchloechcclaaGreatDoor
