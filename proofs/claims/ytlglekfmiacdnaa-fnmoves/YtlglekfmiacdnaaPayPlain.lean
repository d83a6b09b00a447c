/- What Pay answers: plain mathematics of lists. -/
import Derived.Test.YtlglekfmiacdnaaLedgerOk
import Derived.Test.YtlglekfmiacdnaaTxOk
namespace Go.Proofs.Ytlglekfmiacdnaa
open Go.RowKit
set_option linter.unusedSectionVars false
variable [∀ (m a b c d : Int), Decidable (In4 m a b c d)]
variable [∀ (xs ys : List Int), Decidable (LOk xs ys)]
variable [∀ (a b c d : Int), Decidable (Ok4 a b c d)]

/-- What a payment makes of a right ledger, and its code. -/
def paidB (xs ys : List Int) (a b c d : Int) : List Int × List Int × Int :=
  if ¬ Ok4 a b c d then (xs, ys, 1)
  else if d < ys.getD a.toNat 0 then (xs, ys, 2)
  else if ys.getD a.toNat 0 < d then (xs, ys, 3)
  else if xs.getD a.toNat 0 < c then (xs, ys.set a.toNat (d + 1), 4)
  else if LOk ((xs.set a.toNat (xs.getD a.toNat 0 - c)).set b.toNat ((xs.set a.toNat (xs.getD a.toNat 0 - c)).getD b.toNat 0 + c)) (ys.set a.toNat (d + 1)) then
    ((xs.set a.toNat (xs.getD a.toNat 0 - c)).set b.toNat ((xs.set a.toNat (xs.getD a.toNat 0 - c)).getD b.toNat 0 + c), ys.set a.toNat (d + 1), 0)
  else (xs, ys, 1)
/-- What Pay answers. -/
def payAns (xs ys : List Int) (a b c d : Int) : List Int × List Int × Int := if LOk xs ys then paidB xs ys a b c d else (xs, ys, 1)

theorem getD_set {xs : List Int} {A j : Nat} {v : Int} (h : A < xs.length) : (xs.set A v).getD j 0 = if A = j then v else xs.getD j 0 := by
  rw [List.getD_eq_getElem?_getD, List.getElem?_set, List.getD_eq_getElem?_getD]
  by_cases e : A = j
  · rw [if_pos e, if_pos e, if_pos h]; rfl
  · rw [if_neg e, if_neg e]
theorem lok_set {xs ys : List Int} {A : Nat} {v : Int} (h : LOk xs ys) (hA : A < 4) (h0 : 0 ≤ v) (h1 : v ≤ 100) : LOk xs (ys.set A v) := by
  obtain ⟨hx, hy, h⟩ := h
  refine ⟨hx, by simpa using hy, fun k hk => ⟨(h k hk).1, ?_⟩⟩
  rw [getD_set (by omega)]
  split
  · exact ⟨h0, h1⟩
  · exact (h k hk).2
theorem paidB_ok {xs ys : List Int} {a b c d : Int} (h : LOk xs ys) : LOk (paidB xs ys a b c d).1 (paidB xs ys a b c d).2.1 := by
  unfold paidB
  split
  · exact h
  · rename_i ho
    simp only [Decidable.not_not] at ho
    have ho' := ho
    unfold Ok4 at ho'
    split
    · exact h
    · split
      · exact h
      · split
        · exact lok_set h (by omega) (by omega) (by omega)
        · split
          · rename_i h5; exact h5
          · exact h
theorem paidB_len {xs ys : List Int} {a b c d : Int} : (paidB xs ys a b c d).1.length = xs.length ∧ (paidB xs ys a b c d).2.1.length = ys.length := by
  unfold paidB
  repeat' split
  all_goals simp
theorem payAns_len {xs ys : List Int} {a b c d : Int} : (payAns xs ys a b c d).1.length = xs.length ∧ (payAns xs ys a b c d).2.1.length = ys.length := by
  unfold payAns
  split
  · exact paidB_len
  · simp

/-- The cells of a book of these lists. -/
abbrev b8L (xs ys : List Int) : Array Value := b8 (xs.getD 0 0) (xs.getD 1 0) (xs.getD 2 0) (xs.getD 3 0) (ys.getD 0 0) (ys.getD 1 0) (ys.getD 2 0) (ys.getD 3 0)
theorem b8L_next {xs ys : List Int} (hy : ys.length = 4) (A : Nat) (hA : A < 4) (v : Int) : (b8L xs ys).setIfInBounds (4 + A) (.int .i64 v) = b8L xs (ys.set A v) := by
  obtain ⟨e, f, g, h, rfl⟩ := four_of hy
  match A, hA with
  | 0, _ => rfl
  | 1, _ => rfl
  | 2, _ => rfl
  | 3, _ => rfl
theorem b8L_has {xs ys : List Int} (hx : xs.length = 4) (A : Nat) (hA : A < 4) (v : Int) : (b8L xs ys).setIfInBounds A (.int .i64 v) = b8L (xs.set A v) ys := by
  obtain ⟨e, f, g, h, rfl⟩ := four_of hx
  match A, hA with
  | 0, _ => rfl
  | 1, _ => rfl
  | 2, _ => rfl
  | 3, _ => rfl
theorem Loc.hasAt {w : World} {G : Nat} {xs ys : List Int} (l : Loc w G (b8L xs ys)) (A : Nat) (hA : A < 4) : w.cell? ⟨G, A, none⟩ = some (.int .i64 (xs.getD A 0)) := by
  match A, hA with
  | 0, _ => exact l.cell 0 rfl
  | 1, _ => exact l.cell 1 rfl
  | 2, _ => exact l.cell 2 rfl
  | 3, _ => exact l.cell 3 rfl
theorem Loc.nextAt {w : World} {G : Nat} {xs ys : List Int} (l : Loc w G (b8L xs ys)) (A : Nat) (hA : A < 4) : w.cell? ⟨G, 4 + A, none⟩ = some (.int .i64 (ys.getD A 0)) := by
  match A, hA with
  | 0, _ => exact l.cell 4 rfl
  | 1, _ => exact l.cell 5 rfl
  | 2, _ => exact l.cell 6 rfl
  | 3, _ => exact l.cell 7 rfl
end Go.Proofs.Ytlglekfmiacdnaa
