/- The plain mathematics of Split. Nothing of the program. -/
import Derived.WalkKit
namespace Go.Proofs.YtnbiphlificliaaDoor
set_option linter.unusedSectionVars false

/-- Behind the first k bytes: the pieces that are cut, and where the next one begins. -/
def pcs (s : ByteArray) (b : Int) : Nat → List ByteArray × Nat
  | 0 => ([], 0)
  | k + 1 => if ((s.data.toList.getD k 0).toNat : Int) = b then ((pcs s b k).1 ++ [s.extract (pcs s b k).2 k], k + 1) else pcs s b k
theorem pcs_le (s : ByteArray) (b : Int) (k : Nat) : (pcs s b k).2 ≤ k ∧ (pcs s b k).1.length ≤ k := by
  induction k with
  | zero => simp [pcs]
  | succ k ih =>
    rw [pcs]; split
    · simp; omega
    · omega
/-- What Split answers. -/
def splitAns (s : ByteArray) (b : Int) : List ByteArray := (pcs s b s.size).1 ++ [s.extract (pcs s b s.size).2 s.size]
theorem splitAns_len (s : ByteArray) (b : Int) : (splitAns s b).length ≤ s.size + 1 := by
  have := (pcs_le s b s.size).2
  simp [splitAns]; omega
theorem pcs_hit (s : ByteArray) (b : Int) (k : Nat) (h : k < s.size) (hb : (s[k].toNat : Int) = b) : pcs s b (k + 1) = ((pcs s b k).1 ++ [s.extract (pcs s b k).2 k], k + 1) := by
  rw [pcs, if_pos]
  rw [← hb]
  have : s.data.toList.getD k 0 = s[k] := by rw [List.getD_eq_getElem?_getD, List.getElem?_eq_getElem (by simpa using h)]; rfl
  rw [this]
theorem pcs_miss (s : ByteArray) (b : Int) (k : Nat) (h : k < s.size) (hb : (s[k].toNat : Int) ≠ b) : pcs s b (k + 1) = pcs s b k := by
  rw [pcs, if_neg]
  have : s.data.toList.getD k 0 = s[k] := by rw [List.getD_eq_getElem?_getD, List.getElem?_eq_getElem (by simpa using h)]; rfl
  rw [this]; exact hb
end Go.Proofs.YtnbiphlificliaaDoor
