/- Payments one behind the other; lists of payments as function values. -/
import Derived.Test.YtlglekfmiacdnaaPaidAny
namespace Go.Proofs.Ytlglekfmiacdnaa
open Go.RowKit
set_option linter.unusedSectionVars false
variable [∀ (m a b c d : Int), Decidable (In4 m a b c d)]
variable [∀ (xs ys : List Int), Decidable (LOk xs ys)]
variable [∀ (a b c d : Int), Decidable (Ok4 a b c d)]

/-- A payment's four numbers. -/
abbrev T4 := Int × Int × Int × Int
/-- One payment more. -/
def payStep (p : List Int × List Int × List Int) (t : T4) : List Int × List Int × List Int :=
  ((paidB p.1 p.2.1 t.1 t.2.1 t.2.2.1 t.2.2.2).1, (paidB p.1 p.2.1 t.1 t.2.1 t.2.2.1 t.2.2.2).2.1, p.2.2 ++ [(paidB p.1 p.2.1 t.1 t.2.1 t.2.2.1 t.2.2.2).2.2])
/-- Payments of a right ledger. -/
def payRun (xs ys : List Int) (ts : List T4) : List Int × List Int × List Int := ts.foldl payStep (xs, ys, [])
theorem payRun_succ (xs ys : List Int) (ts : List T4) (k : Nat) (h : k < ts.length) : payRun xs ys (ts.take (k + 1)) = payStep (payRun xs ys (ts.take k)) (ts.getD k (0, 0, 0, 0)) := by
  unfold payRun
  rw [List.take_succ_eq_append_getElem h, List.getD_eq_getElem?_getD, List.getElem?_eq_getElem h, List.foldl_append]
  rfl
theorem payRun_inv (xs ys : List Int) (ts : List T4) (hl : LOk xs ys) (k : Nat) (h : k ≤ ts.length) : LOk (payRun xs ys (ts.take k)).1 (payRun xs ys (ts.take k)).2.1 ∧ (payRun xs ys (ts.take k)).2.2.length = k := by
  induction k with
  | zero => simp [payRun, hl]
  | succ k ih =>
    obtain ⟨h1, h2⟩ := ih (by omega)
    rw [payRun_succ xs ys ts k (by omega)]
    exact ⟨paidB_ok h1, by simp [payStep, h2]⟩
/-- What PayAll answers. -/
def eachAns (xs ys : List Int) (ts : List T4) : List Int × List Int × List Int := if LOk xs ys then payRun xs ys ts else (xs, ys, List.replicate ts.length 1)

/-- A payment as a function value. -/
abbrev pfun (t : T4) : Value := .func (.func 42) #[txv t.1 t.2.1 t.2.2.1 t.2.2.2] #[]
/-- v reads as the payments ts, as function values. -/
def RP (w : World) (v : Value) (ts : List T4) : Prop :=
  ts.length ≤ 4194304 ∧ ∃ ao cap, v = .slice ao ts.length cap ∧ (ts = [] ∨ ∃ b off, ao = some ⟨b, off, none⟩ ∧ ∀ k, k < ts.length → w.cell? ⟨b, off + k, none⟩ = some (pfun (ts.getD k (0, 0, 0, 0))))
theorem RP.below {w w' : World} {B : Nat} {v : Value} {ts : List T4} (h : RP w v ts) (hb : Below B w w') (hB : w.heap.size ≤ B) : RP w' v ts := by
  obtain ⟨hl, ao, cap, rfl, h⟩ := h
  refine ⟨hl, ao, cap, rfl, ?_⟩
  rcases h with h | ⟨b, off, rfl, h⟩
  · exact .inl h
  · refine .inr ⟨b, off, rfl, fun k hk => ?_⟩
    have := h k hk
    exact (hb.cell (Nat.lt_of_lt_of_le (cell_lt this) hB)).trans this
/-- The codes so far, and noughts. -/
def chalf (cs : List Int) (n : Nat) : List Value := (cs ++ List.replicate (n - cs.length) 0).map (Value.int .i64)
theorem chalf_len (cs : List Int) (n : Nat) (h : cs.length ≤ n) : (chalf cs n).length = n := by simp [chalf]; omega
theorem chalf_zero (n : Nat) : chalf [] n = List.replicate n (.int .i64 0) := by simp [chalf]
theorem chalf_all (cs : List Int) : chalf cs cs.length = cs.map (Value.int .i64) := by simp [chalf]
theorem chalf_set (cs : List Int) (n k : Nat) (c : Int) (hk : cs.length = k) (h : k < n) : (chalf cs n).set k (.int .i64 c) = chalf (cs ++ [c]) n := by
  unfold chalf
  have e : n - cs.length = (n - (cs ++ [c]).length) + 1 := by simp; omega
  rw [e, List.replicate_succ, List.map_append, List.map_append, List.map_append, List.set_append_right _ _ (by simp; omega), List.length_map, hk, Nat.sub_self]
  simp
end Go.Proofs.Ytlglekfmiacdnaa
