/- Texts that belong together: Ints, Ledger, SameL, NumPlain, TxPlain, CutPlain, CutWorld. -/
import Derived.Test.YtmpmedbojfjnaaaGreatDoorFSAA
import Derived.OwnWalk
import Derived.WalkKit
import Derived.Lib.ItoaNum
import Derived.Lib.Atoi
import Derived.Laws.RangeString
import Derived.Laws.RangeAny
namespace Go.Proofs.YtmpmedbojfjnaaaGreatDoor
open Go.RowKit

theorem Tryz.info3 : (Tryz.prog.info? 3).map (fun i => (i.zero, i.size, i.bytes)) = some (some (.int .i64 0), 1, 8) := by kernel_rfl

def RI (w : World) (v : Value) (xs : List Int) : Prop :=
 xs.length ≤ 4194304 ∧ ∃ ao cap, v = .slice ao xs.length cap ∧ (xs = [] ∨ ∃ b off, ao = some ⟨b, off, none⟩ ∧ ∀ k, k < xs.length → w.cell? ⟨b, off + k, none⟩ = some (.int .i64 (xs.getD k 0)))
def OI (w : World) (base : Nat) (v : Value) (xs : List Int) : Prop := w.ownsRow base 3 1 v xs.length (xs.map (Value.int .i64))

theorem OI.ri {w : World} {base : Nat} {v : Value} {xs : List Int} (h : OI w base v xs) (hl : xs.length ≤ 4194304) : RI w v xs := by
 refine ⟨hl, ?_⟩
 rcases h.2 with ⟨rfl, h0⟩ | ⟨g, cap, cur, rfl, _⟩
 ·exact ⟨none, 0, by rw [h0], .inl (List.length_eq_zero_iff.1 h0)⟩
 ·refine ⟨_, cap, rfl, .inr ⟨g, 0, rfl, fun k hk => ?_⟩⟩
  have := World.ownsRow.cellAt h k (by omega)
  rw [Nat.zero_add, this]
  simp [List.getElem?_map, List.getElem?_eq_getElem hk]
theorem OI.below {w w' : World} {base : Nat} {v : Value} {xs : List Int} (h : OI w base v xs) (hb : Below w.heap.size w w') : OI w' base v xs :=
 World.ownsRow.kept (row := none) h ⟨hb.os, hb.tape, hb.output, hb.size, fun k hk _ => hb.block k hk⟩ (by cases v.ownBlock <;> simp)
theorem OI.grown {w w' : World} {base : Nat} {row : Option Nat} {v : Value} {xs : List Int} (h : OI w base v xs) (hg : w.grownBy w' row) (hv : ∀ k, v.ownBlock = some k → row ≠ some k) : OI w' base v xs := by
 refine World.ownsRow.kept h hg ?_
 cases hv' : v.ownBlock with
 | none => exact .inl rfl
 | some k => exact .inr fun e => hv k hv' e.symm
theorem RI.below {w w' : World} {B : Nat} {v : Value} {xs : List Int} (h : RI w v xs) (hb : Below B w w') (hB : w.heap.size ≤ B) : RI w' v xs := by
 obtain ⟨hl, ao, cap, rfl, h⟩ := h
 refine ⟨hl, ao, cap, rfl, ?_⟩
 rcases h with h | ⟨b, off, rfl, h⟩
 ·exact .inl h
 ·refine .inr ⟨b, off, rfl, fun k hk => ?_⟩
  have := h k hk
  exact (hb.cell (Nat.lt_of_lt_of_le (cell_lt this) hB)).trans this
theorem below_drewN' {B : Nat} {w w' : World} (h : Below B w w') (n : Nat) : Below B w (w'.drewN n) := ⟨h.os, h.tape, h.output, h.size, h.block⟩

structure Kp (w w' : World) (X : Nat → Prop) : Prop where
 os : w'.os = w.os
 tape : w'.tape = w.tape
 output : w'.output = w.output
 size : w.heap.size ≤ w'.heap.size
 block : ∀ k, k < w.heap.size → ¬ X k → w'.heap[k]? = w.heap[k]?
theorem Kp.refl (w : World) (X : Nat → Prop) : Kp w w X := ⟨rfl, rfl, rfl, Nat.le_refl _, fun _ _ _ => rfl⟩
theorem Kp.trans {a b c : World} {X : Nat → Prop} (h : Kp a b X) (k : Kp b c X) : Kp a c X :=
 ⟨k.os.trans h.os, k.tape.trans h.tape, k.output.trans h.output, Nat.le_trans h.size k.size, fun i hi hx => (k.block i (Nat.lt_of_lt_of_le hi h.size) hx).trans (h.block i hi hx)⟩
theorem Kp.mono {a b : World} {X Y : Nat → Prop} (h : Kp a b X) (hxy : ∀ k, X k → Y k) : Kp a b Y := ⟨h.os, h.tape, h.output, h.size, fun k hk hy => h.block k hk (fun hx => hy (hxy k hx))⟩
theorem Below.kpOf {w w' : World} (h : Below w.heap.size w w') (X : Nat → Prop) : Kp w w' X := ⟨h.os, h.tape, h.output, h.size, fun k hk _ => h.block k hk⟩
theorem kp_grown {w w' : World} {row : Option Nat} (h : w.grownBy w' row) : Kp w w' (fun k => row = some k) := ⟨h.os, h.tape, h.output, h.size, fun k hk hx => h.block k hk (fun e => hx e.symm)⟩
theorem Kp.cell {w w' : World} {X : Nat → Prop} (h : Kp w w' X) {a : Addr} {v : Value} (hc : w.cell? a = some v) (hx : ¬ X a.block) : w'.cell? a = some v :=
 (World.cell?_of_block (h.block a.block (cell_lt hc) hx)).trans hc
theorem Below.kp {B : Nat} {a w w' : World} {X : Nat → Prop} (h : Below B a w) (k : Kp w w' X) (hB : B ≤ w.heap.size) (hx : ∀ k, X k → B ≤ k) : Below B a w' :=
 ⟨k.os.trans h.os, k.tape.trans h.tape, k.output.trans h.output, Nat.le_trans h.size k.size, fun i hi => (k.block i (by omega) (fun h' => by have := hx i h'; omega)).trans (h.block i hi)⟩
theorem OI.kp {w w' : World} {base : Nat} {X : Nat → Prop} {v : Value} {xs : List Int} (h : OI w base v xs) (k : Kp w w' X) (hv : ∀ k, v.ownBlock = some k → ¬ X k) : OI w' base v xs := by
 refine ⟨h.1, ?_⟩
 rcases h.2 with hn | ⟨g, cap, cur, rfl, hb, hgg, rest⟩
 ·exact .inl hn
 ·refine .inr ⟨g, cap, cur, rfl, hb, ?_, rest⟩
  rw [k.block g (Array.getElem?_eq_some_iff.1 hgg).1 (hv g rfl)]
  exact hgg

theorem OI.mono {w : World} {base base' : Nat} {v : Value} {xs : List Int} (h : OI w base v xs) (hb : base' ≤ base) : OI w base' v xs := by
 refine ⟨h.1, ?_⟩
 rcases h.2 with hn | ⟨g, cap, cur, rfl, hg, rest⟩
 ·exact .inl hn
 ·exact .inr ⟨g, cap, cur, rfl, Nat.le_trans hb hg, rest⟩

theorem OI.form {w : World} {base : Nat} {v : Value} {xs : List Int} (h : OI w base v xs) : ∃ ao ca, v = .slice ao xs.length ca := by
 rcases h.2 with ⟨rfl, h0⟩ | ⟨g, cap, cur, rfl, _⟩
 ·exact ⟨none, 0, by rw [h0]⟩
 ·exact ⟨_, _, rfl⟩

def Loc2 (w : World) (g : Nat) (a b : Value) : Prop := ∃ t, w.heap[g]? = some (.cells #[a, b] t (0, 0))
theorem Loc2.lt {w : World} {g : Nat} {a b : Value} (h : Loc2 w g a b) : g < w.heap.size := by obtain ⟨t, h⟩ := h; exact (Array.getElem?_eq_some_iff.1 h).1
theorem Loc2.cells {w : World} {g : Nat} {a b : Value} (h : Loc2 w g a b) : w.cell? ⟨g, 0, none⟩ = some a ∧ w.cell? ⟨g, 1, none⟩ = some b ∧ w.frozen? ⟨g, 0, none⟩ = false ∧ w.frozen? ⟨g, 1, none⟩ = false := by
 obtain ⟨t, h⟩ := h
 refine ⟨?_, ?_, frozen_of_row w g 0 _ t h, frozen_of_row w g 1 _ t h⟩
 ·rw [cell_of_row w g 0 _ t (0, 0) h]; rfl
 ·rw [cell_of_row w g 1 _ t (0, 0) h]; rfl
theorem Loc2.below {w w' : World} {g B : Nat} {a b : Value} (h : Loc2 w g a b) (hb : Below B w w') (hg : g < B) : Loc2 w' g a b := by obtain ⟨t, h⟩ := h; exact ⟨t, (hb.block g hg).trans h⟩
theorem Loc2.kp {w w' : World} {g : Nat} {X : Nat → Prop} {a b : Value} (h : Loc2 w g a b) (k : Kp w w' X) (hg : ¬ X g) : Loc2 w' g a b := by have hl := h.lt; obtain ⟨t, h⟩ := h; exact ⟨t, (k.block g hl hg).trans h⟩
theorem Loc2.alloc {w : World} {g : Nat} {a b : Value} (h : Loc2 w g a b) (o : Obj) : Loc2 (w.alloc o) g a b := h.kp (X := fun _ => False) (Below.kpOf ((Below.refl _ _).alloc (Nat.le_refl _) o) _) (fun h => h)
theorem Loc2.drewN {w : World} {g : Nat} {a b : Value} (h : Loc2 w g a b) (n : Nat) : Loc2 (w.drewN n) g a b := h
theorem Loc2.other {w : World} {g : Nat} {a b : Value} (h : Loc2 w g a b) {p : Addr} (hp : g ≠ p.block) (u : Value) : Loc2 (w.setCell p u) g a b := by obtain ⟨t, h⟩ := h; exact ⟨t, (heap_setCell_other w p g u hp).trans h⟩

abbrev lv (a b : Value) : Value := .agg #[a, b]
structure OL (w : World) (lo hi : Nat) (a b : Value) (xs ys : List Int) : Prop where
 has : OI w lo a xs
 next : OI w lo b ys
 top : ∀ k, a.ownBlock = some k → k < hi
 top' : ∀ k, b.ownBlock = some k → k < hi
 ne : ∀ k, a.ownBlock = some k → b.ownBlock ≠ some k
theorem OL.kp {w w' : World} {lo hi : Nat} {X : Nat → Prop} {a b : Value} {xs ys : List Int} (h : OL w lo hi a b xs ys) (k : Kp w w' X) (hx : ∀ k, lo ≤ k → k < hi → ¬ X k) : OL w' lo hi a b xs ys :=
 ⟨h.has.kp k (fun j hj => hx j (World.ownsRow.lt h.has j hj).1 (h.top j hj)), h.next.kp k (fun j hj => hx j (World.ownsRow.lt h.next j hj).1 (h.top' j hj)), h.top, h.top', h.ne⟩
theorem OL.below {w w' : World} {lo hi : Nat} {a b : Value} {xs ys : List Int} (h : OL w lo hi a b xs ys) (hb : Below w.heap.size w w') : OL w' lo hi a b xs ys := h.kp (Below.kpOf hb (fun _ => False)) (fun _ _ _ h => h)
theorem OL.alloc {w : World} {lo hi : Nat} {a b : Value} {xs ys : List Int} (h : OL w lo hi a b xs ys) (o : Obj) : OL (w.alloc o) lo hi a b xs ys := h.below ((Below.refl _ _).alloc (Nat.le_refl _) _)
theorem OL.ri {w : World} {lo hi : Nat} {a b : Value} {xs ys : List Int} (h : OL w lo hi a b xs ys) (hl : xs.length ≤ 4194304) (hm : ys.length ≤ 4194304) : RI w a xs ∧ RI w b ys := ⟨h.has.ri hl, h.next.ri hm⟩
theorem OL.mono {w : World} {lo hi lo' hi' : Nat} {a b : Value} {xs ys : List Int} (h : OL w lo hi a b xs ys) (h1 : lo' ≤ lo) (h2 : hi ≤ hi') : OL w lo' hi' a b xs ys :=
 ⟨h.has.mono h1, h.next.mono h1, fun k hk => Nat.lt_of_lt_of_le (h.top k hk) h2, fun k hk => Nat.lt_of_lt_of_le (h.top' k hk) h2, h.ne⟩
theorem Below.set {B : Nat} {a w : World} (h : Below B a w) {g : Nat} (j : Nat) (u : Value) (hg : B ≤ g) : Below B a (w.setCell ⟨g, j, none⟩ u) := Below.setCell h (p := ⟨g, j, none⟩) hg u
theorem set_kp (w : World) (g j : Nat) (u : Value) : Kp w (w.setCell ⟨g, j, none⟩ u) (fun k => k = g) :=
 ⟨rfl, rfl, rfl, by simp, fun k _ hk => heap_setCell_other w ⟨g, j, none⟩ k u hk⟩

set_option maxHeartbeats 1600000 in
set_option maxRecDepth 100000 in
theorem big_any (ao : Option Addr) (n ca : Nat) (w : World) (hn : n ≤ 9223372036854775807) :
 Calls Tryz.prog 5 #[.slice ao n ca] w fun e w' => e = .returned (.bool (decide (1048576 < n))) ∧ Below w.heap.size w w' := by
 have hd : decide ((1048576 : Int) < (n : Int)) = decide (1048576 < n) := by simp; omega
 go_enter Tryz.func5, Tryz.ntmps5
 go_wp2
 go_ret
 refine ⟨?_, Below.refl _ _⟩
 simp
 try omega
end Go.Proofs.YtmpmedbojfjnaaaGreatDoor
namespace Go.Proofs.YtmpmedbojfjnaaaGreatDoor

theorem decFrom_append (l r : List UInt8) (acc : Nat) : Lib.decFrom acc (l ++ r) = (Lib.decFrom acc l).bind fun a => Lib.decFrom a r := by
 induction l generalizing acc with
 | nil => rfl
 | cons b l ih =>
  rw [List.cons_append, Lib.decFrom, Lib.decFrom]
  cases Lib.digitVal b with
  | none => rfl
  | some d => exact ih _
theorem digit_ofNat (k : Nat) (h : k < 10) : Lib.digitVal (UInt8.ofNat (48 + k)) = some k := by
 have e : (UInt8.ofNat (48 + k)).toNat = 48 + k := by simp; omega
 rw [Lib.digitVal, if_pos (by omega), e]; congr 1; omega
theorem decFrom_digits (n : Nat) : Lib.decFrom 0 (Lib.decDigits n) = some n := by
 induction n using Nat.strongRecOn with
 | ind n ih =>
  rw [Lib.decDigits]
  by_cases h : n < 10
  ·rw [dif_pos h]
   simp only [Lib.decFrom, digit_ofNat n h]; simp
  ·rw [dif_neg h, decFrom_append, ih (n / 10) (by omega)]
   simp only [Option.bind_some, Lib.decFrom, digit_ofNat (n % 10) (by omega)]
   congr 1; omega
theorem digits_ne (n : Nat) : Lib.decDigits n ≠ [] := by
 intro h
 have := Lib.decDigits_length n
 rw [h] at this
 have := Lib.nDigits_pos n
 simp at *; omega
theorem atoi_digits (n : Nat) : Lib.atoi (Lib.decDigits n) = some (n : Int) := by
 have hd := decFrom_digits n
 have hne := digits_ne n
 cases hl : Lib.decDigits n with
 | nil => exact absurd hl hne
 | cons b r =>
  rw [hl] at hd
  obtain ⟨d, hb⟩ := Lib.digit_of_decFrom (b :: r) 0 n hd 0 b rfl
  have hb' := Lib.digitVal_eq hb
  have h45 : (b == 45) = false := by
   rw [beq_eq_false_iff_ne]; intro e; subst e; simp at hb'
  have h43 : (b == 43) = false := by
   rw [beq_eq_false_iff_ne]; intro e; subst e; simp at hb'
  simp [Lib.atoi, h45, h43, Lib.decNat, hd]
theorem nDigits_six (n : Nat) (h : n ≤ 999999) : Lib.nDigits n ≤ 6 := by
 have step : ∀ m k, (m < 10 → 1 ≤ k) → (¬ m < 10 → Lib.nDigits (m / 10) + 1 ≤ k) → Lib.nDigits m ≤ k := by
  intro m k h1 h2
  by_cases hm : m < 10
  ·rw [Lib.nDigits_small hm]; exact h1 hm
  ·rw [Lib.nDigits_big hm]; exact h2 hm
 refine step _ _ (fun _ => by omega) fun _ => Nat.succ_le_of_lt (Nat.lt_of_le_of_lt (step _ 5 (fun _ => by omega) fun _ => Nat.succ_le_of_lt (Nat.lt_of_le_of_lt (step _ 4 (fun _ => by omega) fun _ => Nat.succ_le_of_lt (Nat.lt_of_le_of_lt (step _ 3 (fun _ => by omega) fun _ => Nat.succ_le_of_lt (Nat.lt_of_le_of_lt (step _ 2 (fun _ => by omega) fun _ => Nat.succ_le_of_lt (Nat.lt_of_le_of_lt (step _ 1 (fun _ => by omega) fun _ => ?_) (by omega))) (by omega))) (by omega))) (by omega))) (by omega))
 omega

def numOf (l : List UInt8) : Option Nat :=
 match Lib.decFrom 0 l with
 | some n => if n ≤ 999999 ∧ Lib.decDigits n = l then some n else none
 | none => none
theorem numOf_some {l : List UInt8} {n : Nat} (h : numOf l = some n) : n ≤ 999999 ∧ Lib.decDigits n = l := by
 unfold numOf at h
 cases hd : Lib.decFrom 0 l with
 | none => rw [hd] at h; cases h
 | some m =>
  rw [hd] at h
  by_cases hc : m ≤ 999999 ∧ Lib.decDigits m = l
  ·simp only [if_pos hc, Option.some.injEq] at h; subst h; exact hc
  ·simp only [if_neg hc] at h; cases h
theorem numOf_of {n : Nat} (h : n ≤ 999999) : numOf (Lib.decDigits n) = some n := by
 unfold numOf; rw [decFrom_digits]; simp [h]
theorem numOf_len {l : List UInt8} {n : Nat} (h : numOf l = some n) : 1 ≤ l.length ∧ l.length ≤ 6 := by
 obtain ⟨h1, rfl⟩ := numOf_some h
 rw [Lib.decDigits_length]
 exact ⟨Lib.nDigits_pos n, nDigits_six n h1⟩
theorem numOf_none_len {l : List UInt8} (h : l.length < 1 ∨ 6 < l.length) : numOf l = none := by
 cases hn : numOf l with
 | none => rfl
 | some n => have := numOf_len hn; omega
theorem numOf_none_dec {l : List UInt8} (h : Lib.decFrom 0 l = none) : numOf l = none := by unfold numOf; rw [h]
theorem numOf_none_byte {l : List UInt8} {k : Nat} {b : UInt8} (hk : l[k]? = some b) (hb : b.toNat < 48 ∨ 57 < b.toNat) : numOf l = none := by
 refine numOf_none_dec ?_
 cases hd : Lib.decFrom 0 l with
 | none => rfl
 | some n =>
  obtain ⟨d, h⟩ := Lib.digit_of_decFrom l 0 n hd k b hk
  have := Lib.digitVal_eq h
  omega
theorem numOf_yes {l : List UInt8} {n : Nat} (hd : Lib.decFrom 0 l = some n) (hn : n ≤ 999999) (h : Lib.decDigits n = l) : numOf l = some n := by unfold numOf; rw [hd]; simp [hn, h]
theorem numOf_no {l : List UInt8} {n : Nat} (hd : Lib.decFrom 0 l = some n) (h : Lib.decDigits n ≠ l) : numOf l = none := by unfold numOf; rw [hd]; simp [h]
theorem itoa_nat (n : Nat) : Lib.itoa (n : Int) = Lib.decDigits n := by rw [Lib.itoa, if_neg (by omega), Int.toNat_natCast]
def nans (r : Option Nat) : Int := match r with | some n => (n : Int) | none => 0

def hd (m : UInt8) (l : List UInt8) : List UInt8 := l.takeWhile (· != m)
def tl (m : UInt8) (l : List UInt8) : List UInt8 := (l.dropWhile (· != m)).tail
theorem hd_none {m : UInt8} {l : List UInt8} (h : m ∉ l) : hd m l = l := by
 unfold hd
 induction l with
 | nil => rfl
 | cons b l ih =>
  simp at h
  rw [List.takeWhile_cons_of_pos (by simp; exact fun e => h.1 e.symm), ih h.2]
theorem tl_none {m : UInt8} {l : List UInt8} (h : m ∉ l) : tl m l = [] := by
 unfold tl
 induction l with
 | nil => rfl
 | cons b l ih =>
  simp at h
  rw [List.dropWhile_cons_of_pos (by simp; exact fun e => h.1 e.symm)]; exact ih h.2
theorem hd_some {m : UInt8} {x y : List UInt8} (h : m ∉ x) : hd m (x ++ m :: y) = x := by
 unfold hd
 induction x with
 | nil => simp
 | cons b x ih =>
  simp at h
  rw [List.cons_append, List.takeWhile_cons_of_pos (by simp; exact fun e => h.1 e.symm), ih h.2]
theorem tl_some {m : UInt8} {x y : List UInt8} (h : m ∉ x) : tl m (x ++ m :: y) = y := by
 unfold tl
 induction x with
 | nil => simp
 | cons b x ih =>
  simp at h
  rw [List.cons_append, List.dropWhile_cons_of_pos (by simp; exact fun e => h.1 e.symm)]; exact ih h.2
theorem hd_tl {m : UInt8} {l : List UInt8} (h : tl m l ≠ []) : l = hd m l ++ m :: tl m l := by
 unfold hd tl at *
 induction l with
 | nil => simp at h
 | cons b l ih =>
  by_cases hb : b = m
  ·subst hb; simp
  ·rw [List.takeWhile_cons_of_pos (by simpa using hb), List.dropWhile_cons_of_pos (by simpa using hb), List.cons_append]
   rw [List.dropWhile_cons_of_pos (by simpa using hb)] at h
   rw [← ih h]

def f0 (l : List UInt8) : List UInt8 := hd 62 l
def f1 (l : List UInt8) : List UInt8 := hd 58 (tl 62 l)
def f2 (l : List UInt8) : List UInt8 := hd 35 (tl 58 (tl 62 l))
def f3 (l : List UInt8) : List UInt8 := tl 35 (tl 58 (tl 62 l))

def okN (a b c d : Nat) : Prop := a ≤ 3 ∧ b ≤ 3 ∧ c ≤ 1000 ∧ d ≤ 99
def txl (a b c d : Nat) : List UInt8 := Lib.decDigits a ++ 62 :: (Lib.decDigits b ++ 58 :: (Lib.decDigits c ++ 35 :: Lib.decDigits d))
def IsTx (l : List UInt8) (a b c d : Nat) : Prop := okN a b c d ∧ txl a b c d = l

theorem digit_mem {n : Nat} {x : UInt8} (h : x ∈ Lib.decDigits n) : 48 ≤ x.toNat ∧ x.toNat ≤ 57 := by
 obtain ⟨k, hk, e⟩ := List.mem_iff_getElem.1 h
 obtain ⟨d, hd⟩ := Lib.digit_of_decFrom (Lib.decDigits n) 0 n (decFrom_digits n) k x (by rw [List.getElem?_eq_getElem hk, e])
 have := Lib.digitVal_eq hd
 omega
theorem no_mark (n : Nat) (m : UInt8) (h : m.toNat < 48 ∨ 57 < m.toNat) : m ∉ Lib.decDigits n := fun hm => by
 have := digit_mem hm; omega

theorem fields_of {l : List UInt8} {a b c d : Nat} (h : IsTx l a b c d) : f0 l = Lib.decDigits a ∧ f1 l = Lib.decDigits b ∧ f2 l = Lib.decDigits c ∧ f3 l = Lib.decDigits d := by
 obtain ⟨_, rfl⟩ := h
 have h0 : (62 : UInt8) ∉ Lib.decDigits a := no_mark a 62 (by decide)
 have h1 : (58 : UInt8) ∉ Lib.decDigits b := no_mark b 58 (by decide)
 have h2 : (35 : UInt8) ∉ Lib.decDigits c := no_mark c 35 (by decide)
 unfold f0 f1 f2 f3 txl
 rw [hd_some h0, tl_some h0, hd_some h1, tl_some h1, hd_some h2, tl_some h2]
 exact ⟨rfl, rfl, rfl, rfl⟩
theorem nums_of {l : List UInt8} {a b c d : Nat} (h : IsTx l a b c d) : numOf (f0 l) = some a ∧ numOf (f1 l) = some b ∧ numOf (f2 l) = some c ∧ numOf (f3 l) = some d := by
 obtain ⟨e0, e1, e2, e3⟩ := fields_of h
 obtain ⟨⟨h0, h1, h2, h3⟩, _⟩ := h
 rw [e0, e1, e2, e3]
 exact ⟨numOf_of (by omega), numOf_of (by omega), numOf_of (by omega), numOf_of (by omega)⟩
theorem tl_nil (m : UInt8) : tl m [] = [] := rfl
theorem hd_nil (m : UInt8) : hd m [] = [] := rfl
theorem isTx_of {l : List UInt8} {a b c d : Nat} (h0 : numOf (f0 l) = some a) (h1 : numOf (f1 l) = some b) (h2 : numOf (f2 l) = some c) (h3 : numOf (f3 l) = some d) (hk : okN a b c d) : IsTx l a b c d := by
 refine ⟨hk, ?_⟩
 obtain ⟨_, e0⟩ := numOf_some h0
 obtain ⟨_, e1⟩ := numOf_some h1
 obtain ⟨_, e2⟩ := numOf_some h2
 obtain ⟨_, e3⟩ := numOf_some h3
 have n1 := digits_ne b
 have n2 := digits_ne c
 have n3 := digits_ne d
 unfold txl
 rw [e0, e1, e2, e3]
 rw [e1] at n1; rw [e2] at n2; rw [e3] at n3
 unfold f0 f1 f2 f3 at *
 have t0 : tl 62 l ≠ [] := fun e => n1 (by rw [e, hd_nil])
 have t1 : tl 58 (tl 62 l) ≠ [] := fun e => n2 (by rw [e, hd_nil])
 rw [← hd_tl n3, ← hd_tl t1, ← hd_tl t0]
end Go.Proofs.YtmpmedbojfjnaaaGreatDoor
namespace Go.Proofs.YtmpmedbojfjnaaaGreatDoor
open Go

theorem hit_hd {m : UInt8} {r : List UInt8} {j : Nat} (h : m ∉ r.take j) (hj : r[j]? = some m) : hd m r = r.take j ∧ tl m r = r.drop (j + 1) := by
 have hl : j < r.length := (List.getElem?_eq_some_iff.1 hj).1
 have hm : r[j] = m := (List.getElem?_eq_some_iff.1 hj).2
 have e : r = r.take j ++ m :: r.drop (j + 1) := by
  rw [← hm, List.getElem_cons_drop, List.take_append_drop]
 constructor
 ·conv => lhs; rw [e]
  exact hd_some h
 ·conv => lhs; rw [e]
  exact tl_some h
def rst (l : List UInt8) : Nat → List UInt8
 | 0 => l
 | 1 => tl 62 l
 | 2 => tl 58 (tl 62 l)
 | _ => tl 35 (tl 58 (tl 62 l))
def mrk : Nat → UInt8
 | 0 => 62
 | 1 => 58
 | _ => 35
def toB (l : List UInt8) : ByteArray := ⟨l.toArray⟩
theorem ext_list (s : ByteArray) (n p : Nat) : (s.extract n p).data.toList = (s.data.toList.drop n).take (p - n) := by
 rw [ByteArray.data_extract, Array.toList_extract]
theorem ext_toB (s : ByteArray) (n p : Nat) : s.extract n p = toB ((s.data.toList.drop n).take (p - n)) := by
 apply ByteArray.ext
 apply Array.toList_inj.1
 rw [ext_list s n p]; rfl
def CAt (s : ByteArray) (pos k n : Nat) : Prop := n ≤ pos ∧ n ≤ s.size ∧ s.data.toList.drop n = rst s.data.toList k ∧ (k < 3 → mrk k ∉ (s.data.toList.drop n).take (pos - n))
theorem cat_start (s : ByteArray) : CAt s 0 0 0 := ⟨by omega, by omega, rfl, by simp⟩
theorem cat_hit {s : ByteArray} {pos k n : Nat} (h : CAt s pos k n) (hp : pos < s.size) (hk : k < 3) (hb : s[pos] = mrk k) :
 s.extract n pos = toB (hd (mrk k) (rst s.data.toList k)) ∧ CAt s (pos + 1) (k + 1) (pos + 1) := by
 obtain ⟨h1, h2, h3, h4⟩ := h
 have hj : (s.data.toList.drop n)[pos - n]? = some (mrk k) := by
  rw [List.getElem?_drop, show n + (pos - n) = pos from by omega, List.getElem?_eq_getElem (by simpa using hp), ← hb]; rfl
 obtain ⟨e1, e2⟩ := hit_hd (h4 hk) hj
 refine ⟨?_, by omega, by omega, ?_, by simp⟩
 ·rw [ext_toB s n pos, ← h3, e1]
 ·rw [List.drop_drop, show n + (pos - n + 1) = pos + 1 from by omega] at e2
  rw [← e2, h3]
  match k, hk with
  | 0, _ => rfl
  | 1, _ => rfl
  | 2, _ => rfl
theorem not_mem_more {m : UInt8} {l : List UInt8} {n pos v : Nat} (hn : n ≤ pos) (h : m ∉ (l.drop n).take (pos - n)) (hv : ∀ j, j < v → l[pos + j]? ≠ some m) : m ∉ (l.drop n).take (pos + v - n) := by
 induction v with
 | zero => exact h
 | succ v ih =>
  have h' := ih (fun j hj => hv j (by omega))
  rw [show pos + (v + 1) - n = (pos + v - n) + 1 from by omega, List.take_add_one]
  intro hm
  rw [List.mem_append] at hm
  rcases hm with hm | hm
  ·exact h' hm
  ·rw [List.getElem?_drop, show n + (pos + v - n) = pos + v from by omega] at hm
   have := hv v (by omega)
   cases hq : l[pos + v]? with
   | none => rw [hq] at hm; simp at hm
   | some x => rw [hq] at hm; simp at hm; rw [hq, hm] at this; exact this rfl
theorem mrk_small (k : Nat) : (mrk k).toNat < 128 := by unfold mrk; split <;> decide
theorem decode_tail (s : ByteArray) (pos j : Nat) (hj : 1 ≤ j) (h : j < (Utf8.decode s pos).2) : 128 ≤ (s.get! (pos + j)).toNat := by
 unfold Utf8.decode at h
 simp only at h
 split at h
 ·simp at h; omega
 ·split at h
  ·rename_i hc
   simp only [Bool.and_eq_true, beq_iff_eq, decide_eq_true_eq] at hc
   split at h
   ·simp at h
    obtain rfl : j = 1 := by omega
    omega
   ·simp at h; omega
  ·split at h
   ·rename_i hc
    simp only [Bool.and_eq_true, beq_iff_eq, decide_eq_true_eq] at hc
    split at h
    ·simp at h
     have : j = 1 ∨ j = 2 := by omega
     rcases this with rfl | rfl <;> omega
    ·simp at h; omega
   ·split at h
    ·rename_i hc
     simp only [Bool.and_eq_true, beq_iff_eq, decide_eq_true_eq] at hc
     split at h
     ·simp at h
      have : j = 1 ∨ j = 2 ∨ j = 3 := by omega
      rcases this with rfl | rfl | rfl <;> omega
     ·simp at h; omega
    ·simp at h; omega
theorem get_of {s : ByteArray} {i : Nat} {x : UInt8} (h : s.data.toList[i]? = some x) : s.get! i = x := by
 rw [Array.getElem?_toList] at h
 unfold ByteArray.get!
 cases s
 simp only at *
 obtain ⟨hi, e⟩ := Array.getElem?_eq_some_iff.1 h
 simp [hi, e]
theorem cat_miss {s : ByteArray} {pos k n : Nat} (h : CAt s pos k n) (hp : pos < s.size) (hb : k < 3 → s[pos] ≠ mrk k) :
 CAt s (pos + (Utf8.decode s pos).2) k n := by
 obtain ⟨h1, h2, h3, h4⟩ := h
 refine ⟨by omega, h2, h3, fun hk => ?_⟩
 refine not_mem_more h1 (h4 hk) fun j hj e => ?_
 by_cases h0 : j = 0
 ·subst h0
  rw [Nat.add_zero, List.getElem?_eq_getElem (by simpa using hp)] at e
  exact hb hk (Option.some.inj e)
 ·have := decode_tail s pos j (by omega) hj
  rw [get_of e] at this
  have := mrk_small k
  omega
theorem rst_all (s : ByteArray) (n : Nat) : s.extract n s.size = toB (s.data.toList.drop n) := by
 rw [ext_toB s n s.size, List.take_of_length_le (by simp)]
theorem cat_end {s : ByteArray} {pos k n : Nat} (h : CAt s pos k n) (hp : ¬ pos < s.size) : s.extract n s.size = toB (rst s.data.toList k) ∧ (k < 3 → hd (mrk k) (rst s.data.toList k) = rst s.data.toList k ∧ tl (mrk k) (rst s.data.toList k) = []) := by
 obtain ⟨h1, h2, h3, h4⟩ := h
 refine ⟨by rw [rst_all s n, h3], fun hk => ?_⟩
 have hm : mrk k ∉ rst s.data.toList k := by
  have := h4 hk
  rw [List.take_of_length_le (by simp; omega), h3] at this
  exact this
 exact ⟨hd_none hm, tl_none hm⟩
end Go.Proofs.YtmpmedbojfjnaaaGreatDoor
namespace Go.Proofs.YtmpmedbojfjnaaaGreatDoor
open Go.RowKit

def cw (w : World) (s g0 g1 g2 g3 : ByteArray) (pos : Nat) : World :=
 (((w.alloc (.cells #[.string ⟨#[]⟩, .string ⟨#[]⟩, .string ⟨#[]⟩, .string ⟨#[]⟩] 217)).alloc (.cells #[.int .i32 62, .int .i32 58, .int .i32 35] 231)).alloc (.cells #[.string g0, .string g1, .string g2, .string g3] 217)).iter s pos
theorem cw_marks (w : World) (s g0 g1 g2 g3 : ByteArray) (pos : Nat) : (cw w s g0 g1 g2 g3 pos).cell? ⟨w.heap.size + 1, 0, none⟩ = some (.int .i32 62) ∧ (cw w s g0 g1 g2 g3 pos).cell? ⟨w.heap.size + 1, 1, none⟩ = some (.int .i32 58) ∧ (cw w s g0 g1 g2 g3 pos).cell? ⟨w.heap.size + 1, 2, none⟩ = some (.int .i32 35) := by
 unfold cw World.iter
 simp [go_sem]
theorem cw_cells (w : World) (s g0 g1 g2 g3 : ByteArray) (pos : Nat) : (cw w s g0 g1 g2 g3 pos).cell? ⟨w.heap.size + 1 + 1, 0, none⟩ = some (.string g0) ∧ (cw w s g0 g1 g2 g3 pos).cell? ⟨w.heap.size + 1 + 1, 1, none⟩ = some (.string g1) ∧ (cw w s g0 g1 g2 g3 pos).cell? ⟨w.heap.size + 1 + 1, 2, none⟩ = some (.string g2) ∧ (cw w s g0 g1 g2 g3 pos).cell? ⟨w.heap.size + 1 + 1, 3, none⟩ = some (.string g3) := by
 unfold cw World.iter
 simp [go_sem]
theorem cw_free (w : World) (s g0 g1 g2 g3 : ByteArray) (pos j : Nat) : (cw w s g0 g1 g2 g3 pos).frozen? ⟨w.heap.size + 1 + 1, j, none⟩ = false := by
 unfold cw World.iter
 simp [go_sem]
theorem cw_set0 (w : World) (s g0 g1 g2 g3 x : ByteArray) (pos : Nat) : (cw w s g0 g1 g2 g3 pos).setCell ⟨w.heap.size + 1 + 1, 0, none⟩ (.string x) = cw w s x g1 g2 g3 pos := by
 unfold cw World.iter
 simp [go_sem]
theorem cw_set1 (w : World) (s g0 g1 g2 g3 x : ByteArray) (pos : Nat) : (cw w s g0 g1 g2 g3 pos).setCell ⟨w.heap.size + 1 + 1, 1, none⟩ (.string x) = cw w s g0 x g2 g3 pos := by
 unfold cw World.iter
 simp [go_sem]
theorem cw_set2 (w : World) (s g0 g1 g2 g3 x : ByteArray) (pos : Nat) : (cw w s g0 g1 g2 g3 pos).setCell ⟨w.heap.size + 1 + 1, 2, none⟩ (.string x) = cw w s g0 g1 x g3 pos := by
 unfold cw World.iter
 simp [go_sem]
theorem cw_size (w : World) (g0 g1 g2 g3 : ByteArray) : (((w.alloc (.cells #[.string ⟨#[]⟩, .string ⟨#[]⟩, .string ⟨#[]⟩, .string ⟨#[]⟩] 217)).alloc (.cells #[.int .i32 62, .int .i32 58, .int .i32 35] 231)).alloc (.cells #[.string g0, .string g1, .string g2, .string g3] 217)).heap.size = w.heap.size + 1 + 1 + 1 := by simp
theorem cw_next (w : World) (s g0 g1 g2 g3 : ByteArray) (pos : Nat) (h : pos < s.size) (ty : TypeId) : (Instr.next (.pointer (some ⟨w.heap.size + 1 + 1 + 1, 0, none⟩)) true ty).run Tryz.prog (cw w s g0 g1 g2 g3 pos) = .ok (.tuple #[.bool true, .int .i64 pos, .int .i32 (Utf8.decode s pos).1]) (cw w s g0 g1 g2 g3 (pos + (Utf8.decode s pos).2)) := by
 have := run_next_any (P := Tryz.prog) (((w.alloc (.cells #[.string ⟨#[]⟩, .string ⟨#[]⟩, .string ⟨#[]⟩, .string ⟨#[]⟩] 217)).alloc (.cells #[.int .i32 62, .int .i32 58, .int .i32 35] 231)).alloc (.cells #[.string g0, .string g1, .string g2, .string g3] 217)) s pos ty h
 rw [cw_size] at this
 exact this
theorem cw_end (w : World) (s g0 g1 g2 g3 : ByteArray) (pos : Nat) (h : ¬ pos < s.size) (ty : TypeId) : (Instr.next (.pointer (some ⟨w.heap.size + 1 + 1 + 1, 0, none⟩)) true ty).run Tryz.prog (cw w s g0 g1 g2 g3 pos) = .ok (.tuple #[.bool false]) (cw w s g0 g1 g2 g3 pos) := by
 have := run_next_end (P := Tryz.prog) (((w.alloc (.cells #[.string ⟨#[]⟩, .string ⟨#[]⟩, .string ⟨#[]⟩, .string ⟨#[]⟩] 217)).alloc (.cells #[.int .i32 62, .int .i32 58, .int .i32 35] 231)).alloc (.cells #[.string g0, .string g1, .string g2, .string g3] 217)) s pos ty h
 rw [cw_size] at this
 exact this
theorem cw_pos (w : World) (s g0 g1 g2 g3 : ByteArray) (pos : Nat) : (cw w s g0 g1 g2 g3 pos).iterPos (w.heap.size + 1 + 1 + 1) = pos := by
 rw [← cw_size w g0 g1 g2 g3]
 exact World.iterPos_iter _ _ _
def gs (l : List UInt8) : Nat → ByteArray × ByteArray × ByteArray × ByteArray
 | 0 => (⟨#[]⟩, ⟨#[]⟩, ⟨#[]⟩, ⟨#[]⟩)
 | 1 => (toB (f0 l), ⟨#[]⟩, ⟨#[]⟩, ⟨#[]⟩)
 | 2 => (toB (f0 l), toB (f1 l), ⟨#[]⟩, ⟨#[]⟩)
 | _ => (toB (f0 l), toB (f1 l), toB (f2 l), ⟨#[]⟩)
def CRel (s : ByteArray) (w : World) (a f : Value) (wr : World) : Prop := ∃ pos k n : Nat, k ≤ 3 ∧ n ≤ pos ∧ n ≤ s.size ∧ a = .int .i64 k ∧ f = .int .i64 n ∧ CAt s pos k n ∧ wr = cw w s (gs s.data.toList k).1 (gs s.data.toList k).2.1 (gs s.data.toList k).2.2.1 (gs s.data.toList k).2.2.2 pos
end Go.Proofs.YtmpmedbojfjnaaaGreatDoor
