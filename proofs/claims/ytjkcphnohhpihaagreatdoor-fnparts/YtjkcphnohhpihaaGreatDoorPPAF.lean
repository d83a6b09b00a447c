/- Lemmas; their conditions stand in each statement. -/
import Derived.Test.YtjkcphnohhpihaaGreatDoorPPAE
import Derived.Lib.ItoaNum
import Derived.Lib.Atoi
set_option maxRecDepth 100000
set_option maxHeartbeats 4000000
set_option linter.unusedSectionVars false
namespace Go.Proofs.YtjkcphnohhpihaaGreatDoor
section
open Go.RowKit
variable [∀ (n : Int) (s : List Int), Decidable (OkL n s)]
theorem ok_more {n : Int} {xs : List Int} {k : Nat} (hk : k < xs.length) (h : OkL n (xs.take k)) (h0 : 0 ≤ xs.getD k 0) (h1 : xs.getD k 0 < n) (h2 : 0 < k → xs.getD (k - 1) 0 < xs.getD k 0) : OkL n (xs.take (k + 1)) := by
 rw [itake_more xs k hk]
 refine ⟨fun x hx => ?_, List.pairwise_append.2 ⟨h.2, by simp, fun x hx y hy => ?_⟩⟩
 ·rcases List.mem_append.1 hx with hx | hx
  ·exact h.1 x hx
  simp at hx; subst hx; exact ⟨h0, h1⟩
 simp at hy
 subst hy
 by_cases hk0 : 0 < k
 ·have h3:=h2 hk0
  have e : xs.take k = xs.take (k - 1) ++ [xs.getD (k - 1) 0]:=by
   have:=itake_more xs (k - 1) (by omega)
   rwa [show k - 1 + 1 = k by omega] at this
  have hp:=h.2
  rw [e] at hx hp
  rcases List.mem_append.1 hx with hx | hx
  ·have:=(List.pairwise_append.1 hp).2.2 x hx (xs.getD (k - 1) 0) (by simp)
   simp only [List.getD_eq_getElem?_getD] at *
   omega
  simp at hx
  simp only [List.getD_eq_getElem?_getD] at *
  omega
 have : k = 0:=by omega
 subst this; simp at hx
theorem ok_not {n : Int} {xs : List Int} {k : Nat} (hk : k < xs.length) (h : xs.getD k 0 < 0 ∨ n ≤ xs.getD k 0 ∨ (0 < k ∧ xs.getD k 0 ≤ xs.getD (k - 1) 0)) : ¬ OkL n xs := fun ho => by
 have hm:=ho.1 _ (getD_mem_int hk)
 rcases h with h | h | ⟨h0, h⟩
 ·omega
 ·omega
 have:=List.pairwise_iff_getElem.1 ho.2 (k - 1) k (by omega) hk (by omega)
 rw [List.getD_eq_getElem?_getD, List.getD_eq_getElem?_getD, List.getElem?_eq_getElem hk, List.getElem?_eq_getElem (show k - 1 < xs.length by omega)] at h
 simp at h
 omega

theorem specSetOk (m : Int) (v : Value) (xs : List Int) (w : World) (h : RI w v xs) :
 Calls Tryz.prog 85 #[.int .i64 m, v] w fun e w' => e = .returned (.bool (decide (OkL m xs))) ∧ Below w.heap.size w w' := by
 have hl:=h.1
 obtain ⟨ao, ca, rfl⟩:=h.form
 have H:=hide h
 obtain ⟨n, hn⟩ : ∃ n, xs.length = n:=⟨_, rfl⟩
 have Hn:=hide hn
 obtain ⟨r, hr⟩ : ∃ r, decide (OkL m xs) = r:=⟨_, rfl⟩
 have HR:=hide hr
 rw [hn] at hl H ⊢
 rw [hr]
 clear h hn hr
 go_enter Tryz.func85, Tryz.ntmps85
 go_wp2
 go_loopw [5] (fun j wr => ∃ k : Nat, k ≤ n ∧ j = .int .i64 k ∧ Hid (OkL m (xs.take k)) ∧ Below w.heap.size w wr) (fun j _ => n - (intOf j).toNat)
 case atStart => exact ⟨0, Nat.zero_le _, rfl, hide (by simp [OkL]), Below.refl _ _⟩
 case round =>
  obtain ⟨k, hk, rfl, HK, br⟩:=hrel
  have HR2:=hide (H.out.below br)
  by_cases hlt : k < n
  ·have hkx : k < xs.length:=by have:=Hn.out; omega
   obtain ⟨b, off, rfl, c⟩:=HR2.out.at k hkx
   have HP : Hid (0 < k → wr.cell? ⟨b, off + (k - 1), none⟩ = some (.int .i64 (xs.getD (k - 1) 0))):=hide fun h0 => by
    obtain ⟨b', off', e, c'⟩:=HR2.out.at (k - 1) (by omega)
    cases e; exact c'
   have HG:=hide fun h0 h1 h2 => ok_more hkx HK.out h0 h1 h2
   have HB:=hide fun h => ok_not (n:=m) hkx h
   generalize xs.getD k 0 = d at *
   by_cases g0 : d < 0
   ·have hrr : r = false:=by rw [← HR.out]; exact decide_eq_false (HB.out (.inl g0))
    subst hrr
    have g0' : decide (d < 0) = true:=by simpa using g0
    clear HG HB HP HK
    go_wp2_with fail
    go_quiet (fail)
    go_wp2
    go_ret
    exact ⟨rfl, by first | exact br | exact below_drewN' br _⟩
   have g0' : decide (d < 0) = false:=by simpa using g0
   by_cases g1 : m ≤ d
   ·have hrr : r = false:=by rw [← HR.out]; exact decide_eq_false (HB.out (.inr (.inl g1)))
    subst hrr
    have g1' : decide (m ≤ d) = true:=by simpa using g1
    clear HG HB HP HK
    go_wp2_with fail
    go_quiet (fail)
    go_wp2
    go_ret
    exact ⟨rfl, by first | exact br | exact below_drewN' br _⟩
   have g1' : decide (m ≤ d) = false:=by simpa using g1
   by_cases hk0 : 0 < k
   ·have c2:=HP.out hk0
    obtain ⟨j, rfl⟩ : ∃ j, k = j + 1:=⟨k - 1, by omega⟩
    rw [show j + 1 - 1 = j by omega] at c2 HG HB
    generalize xs.getD j 0 = p at *
    have ej : (((j + 1 : Nat) : Int)) - 1 = (j : Int):=by omega
    have hk0' : decide ((0 : Int) < ((j + 1 : Nat) : Int)) = true:=by rw [decide_eq_true_iff]; omega
    by_cases g2 : d ≤ p
    ·have hrr : r = false:=by rw [← HR.out]; exact decide_eq_false (HB.out (.inr (.inr ⟨by omega, g2⟩)))
     subst hrr
     have g2' : decide (d ≤ p) = true:=by simpa using g2
     clear HG HB HP HK
     go_wp2_with fail
     go_quiet (fail)
     go_wp2
     go_ret
     exact ⟨rfl, by first | exact br | exact below_drewN' br _⟩
    have g2' : decide (d ≤ p) = false:=by simpa using g2
    have HK':=hide (HG.out (by omega) (by omega) (fun _ => by omega))
    clear HG HB HP HK
    go_wp2_with fail
    go_quiet (fail)
    go_wp2
    go_roundw
    case rel => exact ⟨j + 1 + 1, by omega, by go_num, HK', by first | exact br | exact below_drewN' br _⟩
    case measure => simp [intOf]; omega
   obtain rfl : k = 0:=by omega
   rw [Nat.add_zero] at c
   have HK':=hide (HG.out (by omega) (by omega) (fun h => by omega))
   clear HG HB HP HK
   go_wp2_with fail
   go_quiet (fail)
   go_wp2
   go_roundw
   case rel => exact ⟨1, by omega, by go_num, HK', by first | exact br | exact below_drewN' br _⟩
   case measure => simp [intOf]; omega
  have hkn : k = xs.length:=by have:=Hn.out; omega
  have hrr : r = true:=by
   rw [← HR.out]
   have:=HK.out
   rw [List.take_of_length_le (by omega)] at this
   exact decide_eq_true this
  subst hrr
  have hd0 : decide ((k : Int) < (n : Int)) = false:=by simp; omega
  clear HK
  go_wp2
  go_ret
  exact ⟨rfl, by first | exact br | exact below_drewN' br _⟩
end
section
open Go.RowKit
variable [∀ (a b c d : Int), Decidable (Ok4 a b c d)]
def Cells4 (w : World) (g : Nat) (a b c d : Int) : Prop := w.cell? ⟨g, 0, none⟩ = some (.int .i64 a) ∧ w.cell? ⟨g, 1, none⟩ = some (.int .i64 b) ∧ w.cell? ⟨g, 2, none⟩ = some (.int .i64 c) ∧ w.cell? ⟨g, 3, none⟩ = some (.int .i64 d)
theorem cells4_new (w : World) (a b c d : Int) (t : TypeId) : Cells4 (w.alloc (.cells #[.int .i64 a,.int .i64 b,.int .i64 c,.int .i64 d] t)) w.heap.size a b c d := by
 refine ⟨?_, ?_, ?_, ?_⟩ <;> simp
theorem Cells4.below {w w' : World} {g B : Nat} {a b c d : Int} (h : Cells4 w g a b c d) (hb : Below B w w') (hg : g < B) : Cells4 w' g a b c d :=
 ⟨(hb.cell (p := ⟨g, 0, none⟩) hg).trans h.1, (hb.cell (p := ⟨g, 1, none⟩) hg).trans h.2.1, (hb.cell (p := ⟨g, 2, none⟩) hg).trans h.2.2.1, (hb.cell (p := ⟨g, 3, none⟩) hg).trans h.2.2.2⟩
abbrev T4 := Int × Int × Int × Int
def tcell (x : T4) : List Value := [.int .i64 x.1, .int .i64 x.2.1, .int .i64 x.2.2.1, .int .i64 x.2.2.2]
def tcells (xs : List T4) : List Value := xs.flatMap tcell
theorem tcell_len (x : T4) : (tcell x).length = 4 := rfl
theorem tcells_append (xs ys : List T4) : tcells (xs ++ ys) = tcells xs ++ tcells ys := by simp [tcells]
theorem tcells_get (xs : List T4) (k j : Nat) (hk : k < xs.length) (hj : j < 4) : (tcells xs)[k * 4 + j]? = (tcell (xs.getD k (0, 0, 0, 0)))[j]? := by
 induction xs generalizing k with
 | nil => simp at hk
 | cons x xs ih =>
  have e : tcells (x :: xs) = tcell x ++ tcells xs:=by simp [tcells]
  rw [e]
  cases k with
  | zero => rw [Nat.zero_mul, Nat.zero_add, List.getElem?_append_left (by rw [tcell_len]; exact hj)]; rfl
  | succ k =>
   rw [List.getElem?_append_right (by rw [tcell_len]; omega), tcell_len, show (k + 1) * 4 + j - 4 = k * 4 + j from by omega, ih k (by simpa using hk)]
   rfl
def OT (w : World) (base : Nat) (v : Value) (xs : List T4) : Prop := w.ownsRow base 132 4 v xs.length (tcells xs)
def RT (w : World) (v : Value) (xs : List T4) : Prop :=
 xs.length ≤ 35184372088832 ∧ ∃ ao cap, v = .slice ao xs.length cap ∧ (xs = [] ∨ ∃ g, ao = some ⟨g, 0, none⟩ ∧ ∀ k, k < xs.length → w.cell? ⟨g, k * 4, none⟩ = some (.int .i64 (xs.getD k (0, 0, 0, 0)).1) ∧ w.cell? ⟨g, k * 4 + 1, none⟩ = some (.int .i64 (xs.getD k (0, 0, 0, 0)).2.1) ∧ w.cell? ⟨g, k * 4 + 2, none⟩ = some (.int .i64 (xs.getD k (0, 0, 0, 0)).2.2.1) ∧ w.cell? ⟨g, k * 4 + 3, none⟩ = some (.int .i64 (xs.getD k (0, 0, 0, 0)).2.2.2))
theorem OT.below {w w' : World} {base : Nat} {v : Value} {xs : List T4} (h : OT w base v xs) (hb : Below w.heap.size w w') : OT w' base v xs :=
 World.ownsRow.kept (row := none) h ⟨hb.os, hb.tape, hb.output, hb.size, fun k hk _ => hb.block k hk⟩ (by cases v.ownBlock <;> simp)
theorem OT.apart {w w' : World} {base N : Nat} {v u : Value} {xs : List T4} (h : OT w base v xs) (hg : w.grownBy w' u.ownBlock) (hv : ∀ k, v.ownBlock = some k → k < N) (hu : ∀ k, u.ownBlock = some k → N ≤ k) : OT w' base v xs := by
 refine World.ownsRow.kept h hg ?_
 cases hv' : v.ownBlock with
 | none => exact .inl rfl
 | some k => exact .inr fun e => by have := hv k hv'; have := hu k e.symm; omega
theorem OT.rt {w : World} {base : Nat} {v : Value} {xs : List T4} (h : OT w base v xs) (hl : xs.length ≤ 35184372088832) : RT w v xs := by
 refine ⟨hl, ?_⟩
 rcases h.2 with ⟨rfl, h0⟩ | ⟨g, cap, cur, rfl, _⟩
 ·exact ⟨none, 0, by rw [h0], .inl (List.length_eq_zero_iff.1 h0)⟩
 refine ⟨_, cap, rfl, .inr ⟨g, rfl, fun k hk => ?_⟩⟩
 have c0:=World.ownsRow.cellAt h (k * 4 + 0) (by omega)
 have c1:=World.ownsRow.cellAt h (k * 4 + 1) (by omega)
 have c2:=World.ownsRow.cellAt h (k * 4 + 2) (by omega)
 have c3:=World.ownsRow.cellAt h (k * 4 + 3) (by omega)
 rw [tcells_get xs k _ hk (by omega)] at c0 c1 c2 c3
 exact ⟨c0, c1, c2, c3⟩
theorem RT.below {w w' : World} {v : Value} {xs : List T4} (h : RT w v xs) (hb : Below w.heap.size w w') : RT w' v xs := by
 obtain ⟨hl, ao, cap, rfl, h⟩:=h
 refine ⟨hl, ao, cap, rfl, ?_⟩
 rcases h with h | ⟨g, rfl, h⟩
 ·exact .inl h
 refine .inr ⟨g, rfl, fun k hk => ?_⟩
 obtain ⟨c0, c1, c2, c3⟩:=h k hk
 have hg : g < w.heap.size:=cell_lt c0
 exact ⟨(hb.cell (p := ⟨g, k * 4, none⟩) hg).trans c0, (hb.cell (p := ⟨g, k * 4 + 1, none⟩) hg).trans c1, (hb.cell (p := ⟨g, k * 4 + 2, none⟩) hg).trans c2, (hb.cell (p := ⟨g, k * 4 + 3, none⟩) hg).trans c3⟩
end
section

theorem decFrom_append (l r : List UInt8) (acc : Nat) : Lib.decFrom acc (l ++ r) = (Lib.decFrom acc l).bind fun a => Lib.decFrom a r := by
 induction l generalizing acc with
 | nil => rfl
 | cons b l ih =>
  rw [List.cons_append, Lib.decFrom, Lib.decFrom]
  cases Lib.digitVal b with
  | none => rfl
  | some d => exact ih _
theorem digit_ofNat (k : Nat) (h : k < 10) : Lib.digitVal (UInt8.ofNat (48 + k)) = some k := by
 have e : (UInt8.ofNat (48 + k)).toNat = 48 + k:=by simp; omega
 rw [Lib.digitVal, if_pos (by omega), e]; congr 1; omega
theorem decFrom_digits (n : Nat) : Lib.decFrom 0 (Lib.decDigits n) = some n := by
 induction n using Nat.strongRecOn with
 | ind n ih =>
  rw [Lib.decDigits]
  by_cases h : n < 10
  ·rw [dif_pos h]
   simp only [Lib.decFrom, digit_ofNat n h]; simp
  rw [dif_neg h, decFrom_append, ih (n / 10) (by omega)]
  simp only [Option.bind_some, Lib.decFrom, digit_ofNat (n % 10) (by omega)]
  congr 1; omega
theorem digits_ne (n : Nat) : Lib.decDigits n ≠ [] := by
 intro h
 have:=Lib.decDigits_length n
 rw [h] at this
 have:=Lib.nDigits_pos n
 simp at *; omega
theorem atoi_digits (n : Nat) : Lib.atoi (Lib.decDigits n) = some (n : Int) := by
 have hd:=decFrom_digits n
 have hne:=digits_ne n
 cases hl : Lib.decDigits n with
 | nil => exact absurd hl hne
 | cons b r =>
  rw [hl] at hd
  obtain ⟨d, hb⟩:=Lib.digit_of_decFrom (b :: r) 0 n hd 0 b rfl
  have hb':=Lib.digitVal_eq hb
  have h45 : (b == 45) = false:=by
   rw [beq_eq_false_iff_ne]; intro e; subst e; simp at hb'
  have h43 : (b == 43) = false:=by
   rw [beq_eq_false_iff_ne]; intro e; subst e; simp at hb'
  simp [Lib.atoi, h45, h43, Lib.decNat, hd]
theorem nDigits_six (n : Nat) (h : n ≤ 999999) : Lib.nDigits n ≤ 6 := by
 have step : ∀ m k, (m < 10 → 1 ≤ k) → (¬ m < 10 → Lib.nDigits (m / 10) + 1 ≤ k) → Lib.nDigits m ≤ k:=by
  intro m k h1 h2
  by_cases hm : m < 10
  ·rw [Lib.nDigits_small hm]; exact h1 hm
  rw [Lib.nDigits_big hm]; exact h2 hm
 refine step _ _ (fun _ => by omega) fun _ => Nat.succ_le_of_lt (Nat.lt_of_le_of_lt (step _ 5 (fun _ => by omega) fun _ => Nat.succ_le_of_lt (Nat.lt_of_le_of_lt (step _ 4 (fun _ => by omega) fun _ => Nat.succ_le_of_lt (Nat.lt_of_le_of_lt (step _ 3 (fun _ => by omega) fun _ => Nat.succ_le_of_lt (Nat.lt_of_le_of_lt (step _ 2 (fun _ => by omega) fun _ => Nat.succ_le_of_lt (Nat.lt_of_le_of_lt (step _ 1 (fun _ => by omega) fun _ => ?_) (by omega))) (by omega))) (by omega))) (by omega))) (by omega))
 omega

def numOf (l : List UInt8) : Option Nat :=
 match Lib.decFrom 0 l with
 | some n => if n ≤ 999999 ∧ Lib.decDigits n = l then some n else none
 | none => none
theorem numOf_some {l : List UInt8} {n : Nat} (h : numOf l = some n) : n ≤ 999999 ∧ Lib.decDigits n = l := by
 unfold numOf at h
 cases hd : Lib.decFrom 0 l with
 | none => rw [hd] at h; cases h
 | some m =>
  rw [hd] at h
  by_cases hc : m ≤ 999999 ∧ Lib.decDigits m = l
  ·simp only [if_pos hc, Option.some.injEq] at h; subst h; exact hc
  simp only [if_neg hc] at h; cases h
theorem numOf_of {n : Nat} (h : n ≤ 999999) : numOf (Lib.decDigits n) = some n := by
 unfold numOf; rw [decFrom_digits]; simp [h]
theorem numOf_len {l : List UInt8} {n : Nat} (h : numOf l = some n) : 1 ≤ l.length ∧ l.length ≤ 6 := by
 obtain ⟨h1, rfl⟩:=numOf_some h
 rw [Lib.decDigits_length]
 exact ⟨Lib.nDigits_pos n, nDigits_six n h1⟩
theorem numOf_none_len {l : List UInt8} (h : l.length < 1 ∨ 6 < l.length) : numOf l = none := by
 cases hn : numOf l with
 | none => rfl
 | some n => have := numOf_len hn; omega
theorem numOf_none_dec {l : List UInt8} (h : Lib.decFrom 0 l = none) : numOf l = none := by unfold numOf; rw [h]
theorem numOf_none_byte {l : List UInt8} {k : Nat} {b : UInt8} (hk : l[k]? = some b) (hb : b.toNat < 48 ∨ 57 < b.toNat) : numOf l = none := by
 refine numOf_none_dec ?_
 cases hd : Lib.decFrom 0 l with
 | none => rfl
 | some n =>
  obtain ⟨d, h⟩:=Lib.digit_of_decFrom l 0 n hd k b hk
  have:=Lib.digitVal_eq h
  omega
theorem numOf_yes {l : List UInt8} {n : Nat} (hd : Lib.decFrom 0 l = some n) (hn : n ≤ 999999) (h : Lib.decDigits n = l) : numOf l = some n := by unfold numOf; rw [hd]; simp [hn, h]
theorem numOf_no {l : List UInt8} {n : Nat} (hd : Lib.decFrom 0 l = some n) (h : Lib.decDigits n ≠ l) : numOf l = none := by unfold numOf; rw [hd]; simp [h]
theorem itoa_nat (n : Nat) : Lib.itoa (n : Int) = Lib.decDigits n := by rw [Lib.itoa, if_neg (by omega), Int.toNat_natCast]
def nans (r : Option Nat) : Int := match r with | some n => (n : Int) | none => 0
def hd (m : UInt8) (l : List UInt8) : List UInt8 := l.takeWhile (· != m)
def tl (m : UInt8) (l : List UInt8) : List UInt8 := (l.dropWhile (· != m)).tail
theorem hd_none {m : UInt8} {l : List UInt8} (h : m ∉ l) : hd m l = l := by
 unfold hd
 induction l with
 | nil => rfl
 | cons b l ih =>
  simp at h
  rw [List.takeWhile_cons_of_pos (by simp; exact fun e => h.1 e.symm), ih h.2]
theorem tl_none {m : UInt8} {l : List UInt8} (h : m ∉ l) : tl m l = [] := by
 unfold tl
 induction l with
 | nil => rfl
 | cons b l ih =>
  simp at h
  rw [List.dropWhile_cons_of_pos (by simp; exact fun e => h.1 e.symm)]; exact ih h.2
theorem hd_some {m : UInt8} {x y : List UInt8} (h : m ∉ x) : hd m (x ++ m :: y) = x := by
 unfold hd
 induction x with
 | nil => simp
 | cons b x ih =>
  simp at h
  rw [List.cons_append, List.takeWhile_cons_of_pos (by simp; exact fun e => h.1 e.symm), ih h.2]
theorem tl_some {m : UInt8} {x y : List UInt8} (h : m ∉ x) : tl m (x ++ m :: y) = y := by
 unfold tl
 induction x with
 | nil => simp
 | cons b x ih =>
  simp at h
  rw [List.cons_append, List.dropWhile_cons_of_pos (by simp; exact fun e => h.1 e.symm)]; exact ih h.2
theorem hd_tl {m : UInt8} {l : List UInt8} (h : tl m l ≠ []) : l = hd m l ++ m :: tl m l := by
 unfold hd tl at *
 induction l with
 | nil => simp at h
 | cons b l ih =>
  by_cases hb : b = m
  ·subst hb; simp
  rw [List.takeWhile_cons_of_pos (by simpa using hb), List.dropWhile_cons_of_pos (by simpa using hb), List.cons_append]
  rw [List.dropWhile_cons_of_pos (by simpa using hb)] at h
  rw [← ih h]

def f0 (l : List UInt8) : List UInt8 := hd 62 l
def f1 (l : List UInt8) : List UInt8 := hd 58 (tl 62 l)
def f2 (l : List UInt8) : List UInt8 := hd 35 (tl 58 (tl 62 l))
def f3 (l : List UInt8) : List UInt8 := tl 35 (tl 58 (tl 62 l))

def okN (a b c d : Nat) : Prop := a ≤ 3 ∧ b ≤ 3 ∧ c ≤ 1000 ∧ d ≤ 99
def txl (a b c d : Nat) : List UInt8 := Lib.decDigits a ++ 62 :: (Lib.decDigits b ++ 58 :: (Lib.decDigits c ++ 35 :: Lib.decDigits d))
def IsTx (l : List UInt8) (a b c d : Nat) : Prop := okN a b c d ∧ txl a b c d = l

theorem digit_mem {n : Nat} {x : UInt8} (h : x ∈ Lib.decDigits n) : 48 ≤ x.toNat ∧ x.toNat ≤ 57 := by
 obtain ⟨k, hk, e⟩:=List.mem_iff_getElem.1 h
 obtain ⟨d, hd⟩:=Lib.digit_of_decFrom (Lib.decDigits n) 0 n (decFrom_digits n) k x (by rw [List.getElem?_eq_getElem hk, e])
 have:=Lib.digitVal_eq hd
 omega
theorem no_mark (n : Nat) (m : UInt8) (h : m.toNat < 48 ∨ 57 < m.toNat) : m ∉ Lib.decDigits n := fun hm => by
 have:=digit_mem hm; omega

theorem fields_of {l : List UInt8} {a b c d : Nat} (h : IsTx l a b c d) : f0 l = Lib.decDigits a ∧ f1 l = Lib.decDigits b ∧ f2 l = Lib.decDigits c ∧ f3 l = Lib.decDigits d := by
 obtain ⟨_, rfl⟩:=h
 have h0 : (62 : UInt8) ∉ Lib.decDigits a:=no_mark a 62 (by decide)
 have h1 : (58 : UInt8) ∉ Lib.decDigits b:=no_mark b 58 (by decide)
 have h2 : (35 : UInt8) ∉ Lib.decDigits c:=no_mark c 35 (by decide)
 unfold f0 f1 f2 f3 txl
 rw [hd_some h0, tl_some h0, hd_some h1, tl_some h1, hd_some h2, tl_some h2]
 exact ⟨rfl, rfl, rfl, rfl⟩
theorem nums_of {l : List UInt8} {a b c d : Nat} (h : IsTx l a b c d) : numOf (f0 l) = some a ∧ numOf (f1 l) = some b ∧ numOf (f2 l) = some c ∧ numOf (f3 l) = some d := by
 obtain ⟨e0, e1, e2, e3⟩:=fields_of h
 obtain ⟨⟨h0, h1, h2, h3⟩, _⟩:=h
 rw [e0, e1, e2, e3]
 exact ⟨numOf_of (by omega), numOf_of (by omega), numOf_of (by omega), numOf_of (by omega)⟩
theorem tl_nil (m : UInt8) : tl m [] = [] := rfl
theorem hd_nil (m : UInt8) : hd m [] = [] := rfl
theorem isTx_of {l : List UInt8} {a b c d : Nat} (h0 : numOf (f0 l) = some a) (h1 : numOf (f1 l) = some b) (h2 : numOf (f2 l) = some c) (h3 : numOf (f3 l) = some d) (hk : okN a b c d) : IsTx l a b c d := by
 refine ⟨hk, ?_⟩
 obtain ⟨_, e0⟩:=numOf_some h0
 obtain ⟨_, e1⟩:=numOf_some h1
 obtain ⟨_, e2⟩:=numOf_some h2
 obtain ⟨_, e3⟩:=numOf_some h3
 have n1:=digits_ne b
 have n2:=digits_ne c
 have n3:=digits_ne d
 unfold txl
 rw [e0, e1, e2, e3]
 rw [e1] at n1; rw [e2] at n2; rw [e3] at n3
 unfold f0 f1 f2 f3 at *
 have t0 : tl 62 l ≠ []:=fun e => n1 (by rw [e, hd_nil])
 have t1 : tl 58 (tl 62 l) ≠ []:=fun e => n2 (by rw [e, hd_nil])
 rw [← hd_tl n3, ← hd_tl t1, ← hd_tl t0]
end
section
open Go
theorem hit_hd {m : UInt8} {r : List UInt8} {j : Nat} (h : m ∉ r.take j) (hj : r[j]? = some m) : hd m r = r.take j ∧ tl m r = r.drop (j + 1) := by
 have hl : j < r.length:=(List.getElem?_eq_some_iff.1 hj).1
 have hm : r[j] = m:=(List.getElem?_eq_some_iff.1 hj).2
 have e : r = r.take j ++ m :: r.drop (j + 1):=by
  rw [← hm, List.getElem_cons_drop, List.take_append_drop]
 constructor
 ·conv => lhs; rw [e]
  exact hd_some h
 conv => lhs; rw [e]
 exact tl_some h
def rst (l : List UInt8) : Nat → List UInt8
 | 0 => l
 | 1 => tl 62 l
 | 2 => tl 58 (tl 62 l)
 | _ => tl 35 (tl 58 (tl 62 l))
def mrk : Nat → UInt8
 | 0 => 62
 | 1 => 58
 | _ => 35
def toB (l : List UInt8) : ByteArray := ⟨l.toArray⟩
theorem ext_list (s : ByteArray) (n p : Nat) : (s.extract n p).data.toList = (s.data.toList.drop n).take (p - n) := by
 rw [ByteArray.data_extract, Array.toList_extract]
theorem ext_toB (s : ByteArray) (n p : Nat) : s.extract n p = toB ((s.data.toList.drop n).take (p - n)) := by
 apply ByteArray.ext
 apply Array.toList_inj.1
 rw [ext_list s n p]; rfl
def CAt (s : ByteArray) (pos k n : Nat) : Prop := n ≤ pos ∧ n ≤ s.size ∧ s.data.toList.drop n = rst s.data.toList k ∧ (k < 3 → mrk k ∉ (s.data.toList.drop n).take (pos - n))
theorem cat_start (s : ByteArray) : CAt s 0 0 0 := ⟨by omega, by omega, rfl, by simp⟩
theorem cat_hit {s : ByteArray} {pos k n : Nat} (h : CAt s pos k n) (hp : pos < s.size) (hk : k < 3) (hb : s[pos] = mrk k) :
 s.extract n pos = toB (hd (mrk k) (rst s.data.toList k)) ∧ CAt s (pos + 1) (k + 1) (pos + 1) := by
 obtain ⟨h1, h2, h3, h4⟩:=h
 have hj : (s.data.toList.drop n)[pos - n]? = some (mrk k):=by
  rw [List.getElem?_drop, show n + (pos - n) = pos from by omega, List.getElem?_eq_getElem (by simpa using hp), ← hb]; rfl
 obtain ⟨e1, e2⟩:=hit_hd (h4 hk) hj
 refine ⟨?_, by omega, by omega, ?_, by simp⟩
 ·rw [ext_toB s n pos, ← h3, e1]
 rw [List.drop_drop, show n + (pos - n + 1) = pos + 1 from by omega] at e2
 rw [← e2, h3]
 match k, hk with
 | 0, _ => rfl
 | 1, _ => rfl
 | 2, _ => rfl
theorem not_mem_more {m : UInt8} {l : List UInt8} {n pos v : Nat} (hn : n ≤ pos) (h : m ∉ (l.drop n).take (pos - n)) (hv : ∀ j, j < v → l[pos + j]? ≠ some m) : m ∉ (l.drop n).take (pos + v - n) := by
 induction v with
 | zero => exact h
 | succ v ih =>
  have h':=ih (fun j hj => hv j (by omega))
  rw [show pos + (v + 1) - n = (pos + v - n) + 1 from by omega, List.take_add_one]
  intro hm
  rw [List.mem_append] at hm
  rcases hm with hm | hm
  ·exact h' hm
  rw [List.getElem?_drop, show n + (pos + v - n) = pos + v from by omega] at hm
  have:=hv v (by omega)
  cases hq : l[pos + v]? with
  | none => rw [hq] at hm; simp at hm
  | some x => rw [hq] at hm; simp at hm; rw [hq, hm] at this; exact this rfl
theorem mrk_small (k : Nat) : (mrk k).toNat < 128 := by unfold mrk; split <;> decide
theorem decode_tail (s : ByteArray) (pos j : Nat) (hj : 1 ≤ j) (h : j < (Utf8.decode s pos).2) : 128 ≤ (s.get! (pos + j)).toNat := by
 unfold Utf8.decode at h
 simp only at h
 split at h
 ·simp at h; omega
 split at h
 ·rename_i hc
  simp only [Bool.and_eq_true, beq_iff_eq, decide_eq_true_eq] at hc
  split at h
  ·simp at h
   obtain rfl : j = 1:=by omega
   omega
  simp at h; omega
 split at h
 ·rename_i hc
  simp only [Bool.and_eq_true, beq_iff_eq, decide_eq_true_eq] at hc
  split at h
  ·simp at h
   have : j = 1 ∨ j = 2:=by omega
   rcases this with rfl | rfl <;> omega
  simp at h; omega
 split at h
 ·rename_i hc
  simp only [Bool.and_eq_true, beq_iff_eq, decide_eq_true_eq] at hc
  split at h
  ·simp at h
   have : j = 1 ∨ j = 2 ∨ j = 3:=by omega
   rcases this with rfl | rfl | rfl <;> omega
  simp at h; omega
 simp at h; omega
theorem get_of {s : ByteArray} {i : Nat} {x : UInt8} (h : s.data.toList[i]? = some x) : s.get! i = x := by
 rw [Array.getElem?_toList] at h
 unfold ByteArray.get!
 cases s
 simp only at *
 obtain ⟨hi, e⟩:=Array.getElem?_eq_some_iff.1 h
 simp [hi, e]
theorem cat_miss {s : ByteArray} {pos k n : Nat} (h : CAt s pos k n) (hp : pos < s.size) (hb : k < 3 → s[pos] ≠ mrk k) :
 CAt s (pos + (Utf8.decode s pos).2) k n := by
 obtain ⟨h1, h2, h3, h4⟩:=h
 refine ⟨by omega, h2, h3, fun hk => ?_⟩
 refine not_mem_more h1 (h4 hk) fun j hj e => ?_
 by_cases h0 : j = 0
 ·subst h0
  rw [Nat.add_zero, List.getElem?_eq_getElem (by simpa using hp)] at e
  exact hb hk (Option.some.inj e)
 have:=decode_tail s pos j (by omega) hj
 rw [get_of e] at this
 have:=mrk_small k
 omega
theorem rst_all (s : ByteArray) (n : Nat) : s.extract n s.size = toB (s.data.toList.drop n) := by
 rw [ext_toB s n s.size, List.take_of_length_le (by simp)]
theorem cat_end {s : ByteArray} {pos k n : Nat} (h : CAt s pos k n) (hp : ¬ pos < s.size) : s.extract n s.size = toB (rst s.data.toList k) ∧ (k < 3 → hd (mrk k) (rst s.data.toList k) = rst s.data.toList k ∧ tl (mrk k) (rst s.data.toList k) = []) := by
 obtain ⟨h1, h2, h3, h4⟩:=h
 refine ⟨by rw [rst_all s n, h3], fun hk => ?_⟩
 have hm : mrk k ∉ rst s.data.toList k:=by
  have:=h4 hk
  rw [List.take_of_length_le (by simp; omega), h3] at this
  exact this
 exact ⟨hd_none hm, tl_none hm⟩
end
section
open Go.RowKit
def cw (w : World) (s g0 g1 g2 g3 : ByteArray) (pos : Nat) : World :=
 (((w.alloc (.cells #[.string ⟨#[]⟩,.string ⟨#[]⟩,.string ⟨#[]⟩,.string ⟨#[]⟩] 215)).alloc (.cells #[.int .i32 62,.int .i32 58,.int .i32 35] 220)).alloc (.cells #[.string g0,.string g1,.string g2,.string g3] 215)).iter s pos
theorem cw_marks (w : World) (s g0 g1 g2 g3 : ByteArray) (pos : Nat) : (cw w s g0 g1 g2 g3 pos).cell? ⟨w.heap.size + 1, 0, none⟩ = some (.int .i32 62) ∧ (cw w s g0 g1 g2 g3 pos).cell? ⟨w.heap.size + 1, 1, none⟩ = some (.int .i32 58) ∧ (cw w s g0 g1 g2 g3 pos).cell? ⟨w.heap.size + 1, 2, none⟩ = some (.int .i32 35) := by
 unfold cw World.iter
 simp [go_sem]
theorem cw_cells (w : World) (s g0 g1 g2 g3 : ByteArray) (pos : Nat) : (cw w s g0 g1 g2 g3 pos).cell? ⟨w.heap.size + 1 + 1, 0, none⟩ = some (.string g0) ∧ (cw w s g0 g1 g2 g3 pos).cell? ⟨w.heap.size + 1 + 1, 1, none⟩ = some (.string g1) ∧ (cw w s g0 g1 g2 g3 pos).cell? ⟨w.heap.size + 1 + 1, 2, none⟩ = some (.string g2) ∧ (cw w s g0 g1 g2 g3 pos).cell? ⟨w.heap.size + 1 + 1, 3, none⟩ = some (.string g3) := by
 unfold cw World.iter
 simp [go_sem]
theorem cw_free (w : World) (s g0 g1 g2 g3 : ByteArray) (pos j : Nat) : (cw w s g0 g1 g2 g3 pos).frozen? ⟨w.heap.size + 1 + 1, j, none⟩ = false := by
 unfold cw World.iter
 simp [go_sem]
theorem cw_set0 (w : World) (s g0 g1 g2 g3 x : ByteArray) (pos : Nat) : (cw w s g0 g1 g2 g3 pos).setCell ⟨w.heap.size + 1 + 1, 0, none⟩ (.string x) = cw w s x g1 g2 g3 pos := by
 unfold cw World.iter
 simp [go_sem]
theorem cw_set1 (w : World) (s g0 g1 g2 g3 x : ByteArray) (pos : Nat) : (cw w s g0 g1 g2 g3 pos).setCell ⟨w.heap.size + 1 + 1, 1, none⟩ (.string x) = cw w s g0 x g2 g3 pos := by
 unfold cw World.iter
 simp [go_sem]
theorem cw_set2 (w : World) (s g0 g1 g2 g3 x : ByteArray) (pos : Nat) : (cw w s g0 g1 g2 g3 pos).setCell ⟨w.heap.size + 1 + 1, 2, none⟩ (.string x) = cw w s g0 g1 x g3 pos := by
 unfold cw World.iter
 simp [go_sem]
theorem cw_size (w : World) (g0 g1 g2 g3 : ByteArray) : (((w.alloc (.cells #[.string ⟨#[]⟩,.string ⟨#[]⟩,.string ⟨#[]⟩,.string ⟨#[]⟩] 215)).alloc (.cells #[.int .i32 62,.int .i32 58,.int .i32 35] 220)).alloc (.cells #[.string g0,.string g1,.string g2,.string g3] 215)).heap.size = w.heap.size + 1 + 1 + 1 := by simp
theorem cw_next (w : World) (s g0 g1 g2 g3 : ByteArray) (pos : Nat) (h : pos < s.size) (ty : TypeId) : (Instr.next (.pointer (some ⟨w.heap.size + 1 + 1 + 1, 0, none⟩)) true ty).run Tryz.prog (cw w s g0 g1 g2 g3 pos) = .ok (.tuple #[.bool true,.int .i64 pos,.int .i32 (Utf8.decode s pos).1]) (cw w s g0 g1 g2 g3 (pos + (Utf8.decode s pos).2)) := by
 have:=run_next_any (P:=Tryz.prog) (((w.alloc (.cells #[.string ⟨#[]⟩,.string ⟨#[]⟩,.string ⟨#[]⟩,.string ⟨#[]⟩] 215)).alloc (.cells #[.int .i32 62,.int .i32 58,.int .i32 35] 220)).alloc (.cells #[.string g0,.string g1,.string g2,.string g3] 215)) s pos ty h
 rw [cw_size] at this
 exact this
theorem cw_end (w : World) (s g0 g1 g2 g3 : ByteArray) (pos : Nat) (h : ¬ pos < s.size) (ty : TypeId) : (Instr.next (.pointer (some ⟨w.heap.size + 1 + 1 + 1, 0, none⟩)) true ty).run Tryz.prog (cw w s g0 g1 g2 g3 pos) = .ok (.tuple #[.bool false]) (cw w s g0 g1 g2 g3 pos) := by
 have:=run_next_end (P:=Tryz.prog) (((w.alloc (.cells #[.string ⟨#[]⟩,.string ⟨#[]⟩,.string ⟨#[]⟩,.string ⟨#[]⟩] 215)).alloc (.cells #[.int .i32 62,.int .i32 58,.int .i32 35] 220)).alloc (.cells #[.string g0,.string g1,.string g2,.string g3] 215)) s pos ty h
 rw [cw_size] at this
 exact this
theorem cw_pos (w : World) (s g0 g1 g2 g3 : ByteArray) (pos : Nat) : (cw w s g0 g1 g2 g3 pos).iterPos (w.heap.size + 1 + 1 + 1) = pos := by
 rw [← cw_size w g0 g1 g2 g3]
 exact World.iterPos_iter _ _ _
def gs (l : List UInt8) : Nat → ByteArray × ByteArray × ByteArray × ByteArray
 | 0 => (⟨#[]⟩, ⟨#[]⟩, ⟨#[]⟩, ⟨#[]⟩)
 | 1 => (toB (f0 l), ⟨#[]⟩, ⟨#[]⟩, ⟨#[]⟩)
 | 2 => (toB (f0 l), toB (f1 l), ⟨#[]⟩, ⟨#[]⟩)
 | _ => (toB (f0 l), toB (f1 l), toB (f2 l), ⟨#[]⟩)
def CRel (s : ByteArray) (w : World) (a f : Value) (wr : World) : Prop := ∃ pos k n : Nat, k ≤ 3 ∧ n ≤ pos ∧ n ≤ s.size ∧ a = .int .i64 k ∧ f = .int .i64 n ∧ CAt s pos k n ∧ wr = cw w s (gs s.data.toList k).1 (gs s.data.toList k).2.1 (gs s.data.toList k).2.2.1 (gs s.data.toList k).2.2.2 pos
theorem cut_any (s : ByteArray) (w : World) (hs : s.size ≤ 33554432) :
 Calls Tryz.prog 178 #[.string s] w fun e w' => e = .returned (.agg #[.string (toB (f0 s.data.toList)),.string (toB (f1 s.data.toList)),.string (toB (f2 s.data.toList)),.string (toB (f3 s.data.toList))]) ∧ Below w.heap.size w w' := by
 go_enter Tryz.func178, Tryz.ntmps178
 go_wp2
 go_loopw [5, 6] (fun a f wr => CRel s w a f wr) (fun _ _ wr => s.size - wr.iterPos (w.heap.size + 1 + 1 + 1))
 case atStart => exact ⟨0, 0, 0, by omega, by omega, by omega, rfl, rfl, cat_start s, rfl⟩
 case round =>
  obtain ⟨pos, k, n, hk, hnp, hns, rfl, rfl, hc, rfl⟩:=hrel
  by_cases hp : pos < s.size
  ·have hps : pos ≤ s.size:=by omega
   have hwd : 1 ≤ (Utf8.decode s pos).2:=by
    by_cases ha : s[pos].toNat < 128
    ·rw [decode_ascii s pos hp ha]; exact Nat.le_refl _
    exact (decode_high s pos hp (by omega)).2
   have hm0:=fun g0 g1 g2 g3 p => (cw_marks w s g0 g1 g2 g3 p).1
   have hm1:=fun g0 g1 g2 g3 p => (cw_marks w s g0 g1 g2 g3 p).2.1
   have hm2:=fun g0 g1 g2 g3 p => (cw_marks w s g0 g1 g2 g3 p).2.2
   have hc0:=fun g0 g1 g2 g3 p => (cw_cells w s g0 g1 g2 g3 p).1
   have hc1:=fun g0 g1 g2 g3 p => (cw_cells w s g0 g1 g2 g3 p).2.1
   have hc2:=fun g0 g1 g2 g3 p => (cw_cells w s g0 g1 g2 g3 p).2.2.1
   have hz:=cw_free w s
   have hs0:=cw_set0 w s
   have hs1:=cw_set1 w s
   have hs2:=cw_set2 w s
   have hmp:=cw_pos w s
   have hcase : k = 0 ∨ k = 1 ∨ k = 2 ∨ k = 3:=by omega
   rcases hcase with rfl | rfl | rfl | rfl
   ·by_cases hb : s[pos] = mrk 0
    ·have hnx:=fun g0 g1 g2 g3 ty => cw_next w s g0 g1 g2 g3 pos hp ty
     have hde : Utf8.decode s pos = (62, 1):=by rw [decode_ascii s pos hp (by rw [hb]; decide), hb]; rfl
     rw [hde] at hnx
     have HH:=hide (cat_hit hc hp (by omega) hb)
     have hint : ((62 : Nat) : Int) = 62:=rfl
     simp only [hint] at hnx
     simp only [gs]
     clear hc hb hde hwd
     go_wp2
     go_roundw
     case rel =>
      refine ⟨pos + 1, 1, pos + 1, by omega, by omega, by omega, by go_num, by go_num, HH.out.2, ?_⟩
      rw [HH.out.1]; rfl
     case measure => rw [hmp, hmp]; omega
    have hnx:=fun g0 g1 g2 g3 ty => cw_next w s g0 g1 g2 g3 pos hp ty
    have HM:=hide (cat_miss hc hp (fun _ => hb))
    have hne : (((Utf8.decode s pos).1 : Int) == 62) = false:=by
     by_cases ha : s[pos].toNat < 128
     ·rw [decode_ascii s pos hp ha]
      have : s[pos].toNat ≠ 62:=fun e => hb (UInt8.toNat_inj.1 e)
      simp; omega
     have:=(decode_high s pos hp (by omega)).1
     simp; omega
    have hle : (Utf8.decode s pos).1 ≤ 2147483647:=decode_le s pos
    simp only [gs]
    generalize (Utf8.decode s pos).1 = r at *
    generalize (Utf8.decode s pos).2 = v at *
    clear hc hb
    go_wp2
    go_roundw
    case rel => exact ⟨pos + v, 0, n, by omega, by omega, by omega, by go_num, rfl, HM.out, rfl⟩
    case measure => rw [hmp, hmp]; omega
   ·by_cases hb : s[pos] = mrk 1
    ·have hnx:=fun g0 g1 g2 g3 ty => cw_next w s g0 g1 g2 g3 pos hp ty
     have hde : Utf8.decode s pos = (58, 1):=by rw [decode_ascii s pos hp (by rw [hb]; decide), hb]; rfl
     rw [hde] at hnx
     have HH:=hide (cat_hit hc hp (by omega) hb)
     have hint : ((58 : Nat) : Int) = 58:=rfl
     simp only [hint] at hnx
     simp only [gs]
     clear hc hb hde hwd
     go_wp2
     go_roundw
     case rel =>
      refine ⟨pos + 1, 2, pos + 1, by omega, by omega, by omega, by go_num, by go_num, HH.out.2, ?_⟩
      rw [HH.out.1]; rfl
     case measure => rw [hmp, hmp]; omega
    have hnx:=fun g0 g1 g2 g3 ty => cw_next w s g0 g1 g2 g3 pos hp ty
    have HM:=hide (cat_miss hc hp (fun _ => hb))
    have hne : (((Utf8.decode s pos).1 : Int) == 58) = false:=by
     by_cases ha : s[pos].toNat < 128
     ·rw [decode_ascii s pos hp ha]
      have : s[pos].toNat ≠ 58:=fun e => hb (UInt8.toNat_inj.1 e)
      simp; omega
     have:=(decode_high s pos hp (by omega)).1
     simp; omega
    have hle : (Utf8.decode s pos).1 ≤ 2147483647:=decode_le s pos
    simp only [gs]
    generalize (Utf8.decode s pos).1 = r at *
    generalize (Utf8.decode s pos).2 = v at *
    clear hc hb
    go_wp2
    go_roundw
    case rel => exact ⟨pos + v, 1, n, by omega, by omega, by omega, by go_num, rfl, HM.out, rfl⟩
    case measure => rw [hmp, hmp]; omega
   ·by_cases hb : s[pos] = mrk 2
    ·have hnx:=fun g0 g1 g2 g3 ty => cw_next w s g0 g1 g2 g3 pos hp ty
     have hde : Utf8.decode s pos = (35, 1):=by rw [decode_ascii s pos hp (by rw [hb]; decide), hb]; rfl
     rw [hde] at hnx
     have HH:=hide (cat_hit hc hp (by omega) hb)
     have hint : ((35 : Nat) : Int) = 35:=rfl
     simp only [hint] at hnx
     simp only [gs]
     clear hc hb hde hwd
     go_wp2
     go_roundw
     case rel =>
      refine ⟨pos + 1, 3, pos + 1, by omega, by omega, by omega, by go_num, by go_num, HH.out.2, ?_⟩
      rw [HH.out.1]; rfl
     case measure => rw [hmp, hmp]; omega
    have hnx:=fun g0 g1 g2 g3 ty => cw_next w s g0 g1 g2 g3 pos hp ty
    have HM:=hide (cat_miss hc hp (fun _ => hb))
    have hne : (((Utf8.decode s pos).1 : Int) == 35) = false:=by
     by_cases ha : s[pos].toNat < 128
     ·rw [decode_ascii s pos hp ha]
      have : s[pos].toNat ≠ 35:=fun e => hb (UInt8.toNat_inj.1 e)
      simp; omega
     have:=(decode_high s pos hp (by omega)).1
     simp; omega
    have hle : (Utf8.decode s pos).1 ≤ 2147483647:=decode_le s pos
    simp only [gs]
    generalize (Utf8.decode s pos).1 = r at *
    generalize (Utf8.decode s pos).2 = v at *
    clear hc hb
    go_wp2
    go_roundw
    case rel => exact ⟨pos + v, 2, n, by omega, by omega, by omega, by go_num, rfl, HM.out, rfl⟩
    case measure => rw [hmp, hmp]; omega
   have hnx:=fun g0 g1 g2 g3 ty => cw_next w s g0 g1 g2 g3 pos hp ty
   have HM:=hide (cat_miss hc hp (fun h => by omega))
   simp only [gs]
   generalize (Utf8.decode s pos).1 = r at *
   generalize (Utf8.decode s pos).2 = v at *
   clear hc
   go_wp2
   go_roundw
   case rel => exact ⟨pos + v, 3, n, by omega, by omega, by omega, by go_num, rfl, HM.out, rfl⟩
   case measure => rw [hmp, hmp]; omega
  have HE:=hide (cat_end hc hp)
  have hnx:=fun g0 g1 g2 g3 ty => cw_end w s g0 g1 g2 g3 pos hp ty
  have hcase : k = 0 ∨ k = 1 ∨ k = 2 ∨ k = 3:=by omega
  rcases hcase with rfl | rfl | rfl | rfl
  ·simp only [gs]
   unfold cw World.iter
   unfold cw World.iter at hnx
   clear hc
   go_wp2
   refine bodyPost_ret (v := .agg #[.string (s.extract n s.size),.string ⟨#[]⟩,.string ⟨#[]⟩,.string ⟨#[]⟩]) (by simp [results, Tryz.results178, go_sem]) rfl ?_
   refine ⟨?_, ((((Below.refl _ _).alloc (Nat.le_refl _) _).alloc (by simp) _).alloc (by simp; omega) _).alloc (by simp; omega) _⟩
   obtain ⟨x0, x1⟩:=HE.out
   rw [x0]
   obtain ⟨x2, x3⟩:=x1 (by omega)
   simp only [rst, mrk] at x2 x3
   simp only [rst, f0, f1, f2, f3, x2, x3, tl_nil, hd_nil]
   rfl
  ·simp only [gs]
   unfold cw World.iter
   unfold cw World.iter at hnx
   clear hc
   go_wp2
   refine bodyPost_ret (v := .agg #[.string (toB (f0 s.data.toList)),.string (s.extract n s.size),.string ⟨#[]⟩,.string ⟨#[]⟩]) (by simp [results, Tryz.results178, go_sem]) rfl ?_
   refine ⟨?_, ((((Below.refl _ _).alloc (Nat.le_refl _) _).alloc (by simp) _).alloc (by simp; omega) _).alloc (by simp; omega) _⟩
   obtain ⟨x0, x1⟩:=HE.out
   rw [x0]
   obtain ⟨x2, x3⟩:=x1 (by omega)
   simp only [rst, mrk] at x2 x3
   simp only [rst, f0, f1, f2, f3, x2, x3, tl_nil, hd_nil]
   rfl
  ·simp only [gs]
   unfold cw World.iter
   unfold cw World.iter at hnx
   clear hc
   go_wp2
   refine bodyPost_ret (v := .agg #[.string (toB (f0 s.data.toList)),.string (toB (f1 s.data.toList)),.string (s.extract n s.size),.string ⟨#[]⟩]) (by simp [results, Tryz.results178, go_sem]) rfl ?_
   refine ⟨?_, ((((Below.refl _ _).alloc (Nat.le_refl _) _).alloc (by simp) _).alloc (by simp; omega) _).alloc (by simp; omega) _⟩
   obtain ⟨x0, x1⟩:=HE.out
   rw [x0]
   obtain ⟨x2, x3⟩:=x1 (by omega)
   simp only [rst, mrk] at x2 x3
   simp only [rst, f0, f1, f2, f3, x2, x3]
   rfl
  simp only [gs]
  unfold cw World.iter
  unfold cw World.iter at hnx
  clear hc
  go_wp2
  refine bodyPost_ret (v := .agg #[.string (toB (f0 s.data.toList)),.string (toB (f1 s.data.toList)),.string (toB (f2 s.data.toList)),.string (s.extract n s.size)]) (by simp [results, Tryz.results178, go_sem]) rfl ?_
  refine ⟨?_, ((((Below.refl _ _).alloc (Nat.le_refl _) _).alloc (by simp) _).alloc (by simp; omega) _).alloc (by simp; omega) _⟩
  obtain ⟨x0, x1⟩:=HE.out
  rw [x0]
  clear x1
  rfl
theorem one_str (w : World) (c : Int) : (convert 43 9 (.slice (some ⟨w.heap.size, 0, none⟩) 1 1)).run Tryz.prog (w.alloc (.cells #[.int .u8 c] 5)) = .ok (.string (strOfNums [c])) (w.alloc (.cells #[.int .u8 c] 5)) := by
 refine run_convert_bytes_arg (P := Tryz.prog) _ 43 5 Tryz.underlying43 Tryz.underlying5 w.heap.size 0 1 1 [c] rfl (fun i hi => ?_) 9 Tryz.underlying9
 obtain rfl : i = 0:=by omega
 simp
end
end Go.Proofs.YtjkcphnohhpihaaGreatDoor
