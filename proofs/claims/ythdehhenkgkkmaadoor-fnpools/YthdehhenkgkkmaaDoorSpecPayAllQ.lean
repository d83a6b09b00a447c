/- spec.PayAll. -/
import Derived.Test.YthdehhenkgkkmaaDoorBunF
import Derived.Test.YthdehhenkgkkmaaDoorBunD
/- spec.PayAll. -/
namespace Go.Proofs.YthdehhenkgkkmaaDoor
open Go.RowKit
set_option linter.unusedSectionVars false
variable [∀ (a b c d : Int), Decidable (Ok4 a b c d)]
variable [∀ (m a b c d : Int), Decidable (In4 m a b c d)]
variable [∀ (xs ys : List Int), Decidable (LOk xs ys)]

/-- One payment more, of any ledger. -/
def anyStep (p : List Int × List Int × List Int) (t : T4) : List Int × List Int × List Int :=
  ((payAns p.1 p.2.1 t.1 t.2.1 t.2.2.1 t.2.2.2).1, (payAns p.1 p.2.1 t.1 t.2.1 t.2.2.1 t.2.2.2).2.1, p.2.2 ++ [(payAns p.1 p.2.1 t.1 t.2.1 t.2.2.1 t.2.2.2).2.2])
def anyRun (xs ys : List Int) (ts : List T4) : List Int × List Int × List Int := ts.foldl anyStep (xs, ys, [])
theorem anyRun_succ (xs ys : List Int) (ts : List T4) (k : Nat) (h : k < ts.length) : anyRun xs ys (ts.take (k + 1)) = anyStep (anyRun xs ys (ts.take k)) (ts.getD k (0, 0, 0, 0)) := by
  unfold anyRun
  rw [List.take_succ_eq_append_getElem h, List.getD_eq_getElem?_getD, List.getElem?_eq_getElem h, List.foldl_append]
  rfl
theorem anyRun_len (xs ys : List Int) (ts : List T4) (k : Nat) (h : k ≤ ts.length) : (anyRun xs ys (ts.take k)).1.length = xs.length ∧ (anyRun xs ys (ts.take k)).2.1.length = ys.length ∧ (anyRun xs ys (ts.take k)).2.2.length = k := by
  induction k with
  | zero => simp [anyRun]
  | succ k ih =>
    obtain ⟨h1, h2, h3⟩ := ih (by omega)
    rw [anyRun_succ xs ys ts k (by omega)]
    exact ⟨(payAns_len.1).trans h1, (payAns_len.2).trans h2, by simp [anyStep, h3]⟩
theorem any_good (ts : List T4) : ∀ p : List Int × List Int × List Int, LOk p.1 p.2.1 → ts.foldl anyStep p = ts.foldl payStep p := by
  induction ts with
  | nil => intro p _; rfl
  | cons t ts ih =>
    intro p hp
    have e : anyStep p t = payStep p t := by unfold anyStep payStep payAns; rw [if_pos hp]
    rw [List.foldl_cons, List.foldl_cons, e]
    exact ih _ (paidB_ok hp)
theorem any_bad (ts : List T4) : ∀ p : List Int × List Int × List Int, ¬ LOk p.1 p.2.1 → ts.foldl anyStep p = (p.1, p.2.1, p.2.2 ++ List.replicate ts.length 1) := by
  induction ts with
  | nil => intro p _; simp
  | cons t ts ih =>
    intro p hp
    have e : anyStep p t = (p.1, p.2.1, p.2.2 ++ [1]) := by unfold anyStep payAns; rw [if_neg hp]
    rw [List.foldl_cons, e, ih (p.1, p.2.1, p.2.2 ++ [1]) hp]
    simp [List.replicate_succ]
theorem anyRun_each (xs ys : List Int) (ts : List T4) : anyRun xs ys ts = eachAns xs ys ts := by
  unfold anyRun eachAns
  by_cases h : LOk xs ys
  · rw [if_pos h, any_good ts _ h]; rfl
  · rw [if_neg h, any_bad ts _ h]; simp
/-- What spec.PayAll leaves. -/
def SpecEnd (w : World) (r : List Int × List Int × List Int) (o : Ending) (w' : World) : Prop :=
  ∃ u v cs, o = .returned (.tuple #[lv u v, cs]) ∧ OI w' w.heap.size u r.1 ∧ OI w' w.heap.size v r.2.1 ∧ OI w' w.heap.size cs r.2.2 ∧ Below w.heap.size w w'

end Go.Proofs.YthdehhenkgkkmaaDoor
