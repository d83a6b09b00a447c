/- PartPlain: parts and tables of parts as plain words. -/
import Derived.Test.YtehdchpolgihlaaPartRows
import Derived.Test.YtehdchpolgihlaaSetPlain
namespace Go.Proofs.Ytehdchpolgihlaa
open Go.RowKit

/-- One stands ahead of another: by view, then by name. -/
def befP (a b : Pt) : Bool := decide (a.1 < b.1) || (decide (a.1 = b.1) && Op.bytesLess a.2.1.toList b.2.1.toList)
/-- They are of one view and name. -/
def samP (a b : Pt) : Bool := decide (a.1 = b.1) && (a.2.1.toList == b.2.1.toList)
def joinP (a b : Pt) : Pt := (a.1, a.2.1, joinL a.2.2 b.2.2)
/-- What TableAdd makes of a table. -/
def addP : List Pt → Pt → List Pt
  | [], p => [p]
  | x :: xs, p => if befP x p then x :: addP xs p else if samP x p then joinP x p :: xs else p :: x :: xs
/-- What TableGet answers. -/
def getP (ps : List Pt) (v : Int) (s : ByteArray) : Pt := (ps.find? fun x => decide (x.1 = v) && (x.2.1.toList == s.toList)).getD (v, s, [])
def dropP (ps : List Pt) (v : Int) : List Pt := ps.filter fun x => decide (v ≤ x.1)
/-- Each stands ahead of the next. -/
def rowP : List Pt → Bool
  | [] => true
  | [_] => true
  | a :: b :: t => befP a b && rowP (b :: t)

theorem less_irrefl (x : List UInt8) : Op.bytesLess x x = false := by
  induction x with
  | nil => rfl
  | cons a x ih => simp [Op.bytesLess, ih]
theorem less_total {x y : List UInt8} (h : Op.bytesLess x y = false) (hn : x ≠ y) : Op.bytesLess y x = true := by
  induction x generalizing y with
  | nil =>
    cases y with
    | nil => exact absurd rfl hn
    | cons b y => simp [Op.bytesLess] at h
  | cons a x ih =>
    cases y with
    | nil => rfl
    | cons b y =>
      simp only [Op.bytesLess, Bool.or_eq_false_iff, decide_eq_false_iff_not, Bool.and_eq_false_imp, beq_iff_eq] at h
      simp only [Op.bytesLess, Bool.or_eq_true, decide_eq_true_eq, Bool.and_eq_true, beq_iff_eq]
      by_cases e : a = b
      · subst e
        exact .inr ⟨rfl, ih (h.2 rfl) (fun e => hn (by rw [e]))⟩
      · left
        have h1 := h.1
        rw [UInt8.lt_iff_toNat_lt] at h1 ⊢
        have : a.toNat ≠ b.toNat := fun e' => e (UInt8.toNat_inj.1 e')
        omega
theorem less_trans {x y z : List UInt8} (h : Op.bytesLess x y = true) (h' : Op.bytesLess y z = true) : Op.bytesLess x z = true := by
  induction x generalizing y z with
  | nil =>
    cases z with
    | nil => cases y <;> simp [Op.bytesLess] at h'
    | cons c z => rfl
  | cons a x ih =>
    cases y with
    | nil => simp [Op.bytesLess] at h
    | cons b y =>
      cases z with
      | nil => simp [Op.bytesLess] at h'
      | cons c z =>
        simp only [Op.bytesLess, Bool.or_eq_true, decide_eq_true_eq, Bool.and_eq_true, beq_iff_eq] at h h' ⊢
        rcases h with h | ⟨rfl, h⟩
        · rcases h' with h' | ⟨rfl, h'⟩
          · left; rw [UInt8.lt_iff_toNat_lt] at *; omega
          · exact .inl h
        · rcases h' with h' | ⟨rfl, h'⟩
          · exact .inl h'
          · exact .inr ⟨rfl, ih h h'⟩
theorem bef_irrefl (a : Pt) : befP a a = false := by simp [befP, less_irrefl]
theorem bef_trans {a b c : Pt} (h : befP a b = true) (h' : befP b c = true) : befP a c = true := by
  simp only [befP, Bool.or_eq_true, decide_eq_true_eq, Bool.and_eq_true] at *
  rcases h with h | ⟨h, hs⟩
  · left
    rcases h' with h' | ⟨h', _⟩ <;> omega
  · rcases h' with h' | ⟨h', hs'⟩
    · left; omega
    · exact .inr ⟨by omega, less_trans hs hs'⟩
/-- Of two that are not of one view and name one stands ahead. -/
theorem bef_total {a b : Pt} (h : befP a b = false) (hs : samP a b = false) : befP b a = true := by
  simp only [befP, samP, Bool.or_eq_false_iff, Bool.or_eq_true, decide_eq_true_eq, decide_eq_false_iff_not, Bool.and_eq_false_imp, Bool.and_eq_true, beq_eq_false_iff_ne] at *
  by_cases e : a.1 = b.1
  · exact .inr ⟨e.symm, less_total (h.2 e) (hs e)⟩
  · left; omega
theorem sam_not_bef {a b : Pt} (h : samP a b = true) : befP a b = false := by
  simp only [samP, Bool.and_eq_true, decide_eq_true_eq, beq_iff_eq] at h
  simp [befP, h.1, h.2, less_irrefl]
theorem addP_len (ps : List Pt) (p : Pt) : (addP ps p).length ≤ ps.length + 1 := by
  induction ps with
  | nil => simp [addP]
  | cons x ps ih => unfold addP; split <;> (try split) <;> simp <;> omega
end Go.Proofs.Ytehdchpolgihlaa
