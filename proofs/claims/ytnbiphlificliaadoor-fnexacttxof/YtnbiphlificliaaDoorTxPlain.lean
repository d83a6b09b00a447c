/- The plain mathematics of payments as texts. Nothing of the program. -/
import Derived.Test.YtnbiphlificliaaDoorNumPlain
import Derived.Laws.RangeString
import Derived.Laws.RangeAny
namespace Go.Proofs.YtnbiphlificliaaDoor
set_option linter.unusedSectionVars false

/-- What stands ahead of the first m; what stands behind it (nothing, where there is none). -/
def hd (m : UInt8) (l : List UInt8) : List UInt8 := l.takeWhile (· != m)
def tl (m : UInt8) (l : List UInt8) : List UInt8 := (l.dropWhile (· != m)).tail
theorem hd_none {m : UInt8} {l : List UInt8} (h : m ∉ l) : hd m l = l := by
  unfold hd
  induction l with
  | nil => rfl
  | cons b l ih =>
    simp at h
    rw [List.takeWhile_cons_of_pos (by simp; exact fun e => h.1 e.symm), ih h.2]
theorem tl_none {m : UInt8} {l : List UInt8} (h : m ∉ l) : tl m l = [] := by
  unfold tl
  induction l with
  | nil => rfl
  | cons b l ih =>
    simp at h
    rw [List.dropWhile_cons_of_pos (by simp; exact fun e => h.1 e.symm)]; exact ih h.2
theorem hd_some {m : UInt8} {x y : List UInt8} (h : m ∉ x) : hd m (x ++ m :: y) = x := by
  unfold hd
  induction x with
  | nil => simp
  | cons b x ih =>
    simp at h
    rw [List.cons_append, List.takeWhile_cons_of_pos (by simp; exact fun e => h.1 e.symm), ih h.2]
theorem tl_some {m : UInt8} {x y : List UInt8} (h : m ∉ x) : tl m (x ++ m :: y) = y := by
  unfold tl
  induction x with
  | nil => simp
  | cons b x ih =>
    simp at h
    rw [List.cons_append, List.dropWhile_cons_of_pos (by simp; exact fun e => h.1 e.symm)]; exact ih h.2
theorem hd_tl {m : UInt8} {l : List UInt8} (h : tl m l ≠ []) : l = hd m l ++ m :: tl m l := by
  unfold hd tl at *
  induction l with
  | nil => simp at h
  | cons b l ih =>
    by_cases hb : b = m
    · subst hb; simp
    · rw [List.takeWhile_cons_of_pos (by simpa using hb), List.dropWhile_cons_of_pos (by simpa using hb), List.cons_append]
      rw [List.dropWhile_cons_of_pos (by simpa using hb)] at h
      rw [← ih h]

/-- The four fields of a text. -/
def f0 (l : List UInt8) : List UInt8 := hd 62 l
def f1 (l : List UInt8) : List UInt8 := hd 58 (tl 62 l)
def f2 (l : List UInt8) : List UInt8 := hd 35 (tl 58 (tl 62 l))
def f3 (l : List UInt8) : List UInt8 := tl 35 (tl 58 (tl 62 l))

/-- Four numbers that are right. -/
def okN (a b c d : Nat) : Prop := a ≤ 3 ∧ b ≤ 3 ∧ c ≤ 1000 ∧ d ≤ 99
/-- The bytes of a payment's text. -/
def txl (a b c d : Nat) : List UInt8 := Lib.decDigits a ++ 62 :: (Lib.decDigits b ++ 58 :: (Lib.decDigits c ++ 35 :: Lib.decDigits d))
/-- The payment of which l is the text. -/
def IsTx (l : List UInt8) (a b c d : Nat) : Prop := okN a b c d ∧ txl a b c d = l

theorem digit_mem {n : Nat} {x : UInt8} (h : x ∈ Lib.decDigits n) : 48 ≤ x.toNat ∧ x.toNat ≤ 57 := by
  obtain ⟨k, hk, e⟩ := List.mem_iff_getElem.1 h
  obtain ⟨d, hd⟩ := Lib.digit_of_decFrom (Lib.decDigits n) 0 n (decFrom_digits n) k x (by rw [List.getElem?_eq_getElem hk, e])
  have := Lib.digitVal_eq hd
  omega
theorem no_mark (n : Nat) (m : UInt8) (h : m.toNat < 48 ∨ 57 < m.toNat) : m ∉ Lib.decDigits n := fun hm => by
  have := digit_mem hm; omega

theorem fields_of {l : List UInt8} {a b c d : Nat} (h : IsTx l a b c d) : f0 l = Lib.decDigits a ∧ f1 l = Lib.decDigits b ∧ f2 l = Lib.decDigits c ∧ f3 l = Lib.decDigits d := by
  obtain ⟨_, rfl⟩ := h
  have h0 : (62 : UInt8) ∉ Lib.decDigits a := no_mark a 62 (by decide)
  have h1 : (58 : UInt8) ∉ Lib.decDigits b := no_mark b 58 (by decide)
  have h2 : (35 : UInt8) ∉ Lib.decDigits c := no_mark c 35 (by decide)
  unfold f0 f1 f2 f3 txl
  rw [hd_some h0, tl_some h0, hd_some h1, tl_some h1, hd_some h2, tl_some h2]
  exact ⟨rfl, rfl, rfl, rfl⟩
theorem nums_of {l : List UInt8} {a b c d : Nat} (h : IsTx l a b c d) : numOf (f0 l) = some a ∧ numOf (f1 l) = some b ∧ numOf (f2 l) = some c ∧ numOf (f3 l) = some d := by
  obtain ⟨e0, e1, e2, e3⟩ := fields_of h
  obtain ⟨⟨h0, h1, h2, h3⟩, _⟩ := h
  rw [e0, e1, e2, e3]
  exact ⟨numOf_of (by omega), numOf_of (by omega), numOf_of (by omega), numOf_of (by omega)⟩
theorem tl_nil (m : UInt8) : tl m [] = [] := rfl
theorem hd_nil (m : UInt8) : hd m [] = [] := rfl
theorem isTx_of {l : List UInt8} {a b c d : Nat} (h0 : numOf (f0 l) = some a) (h1 : numOf (f1 l) = some b) (h2 : numOf (f2 l) = some c) (h3 : numOf (f3 l) = some d) (hk : okN a b c d) : IsTx l a b c d := by
  refine ⟨hk, ?_⟩
  obtain ⟨_, e0⟩ := numOf_some h0
  obtain ⟨_, e1⟩ := numOf_some h1
  obtain ⟨_, e2⟩ := numOf_some h2
  obtain ⟨_, e3⟩ := numOf_some h3
  have n1 := digits_ne b
  have n2 := digits_ne c
  have n3 := digits_ne d
  unfold txl
  rw [e0, e1, e2, e3]
  rw [e1] at n1; rw [e2] at n2; rw [e3] at n3
  unfold f0 f1 f2 f3 at *
  have t0 : tl 62 l ≠ [] := fun e => n1 (by rw [e, hd_nil])
  have t1 : tl 58 (tl 62 l) ≠ [] := fun e => n2 (by rw [e, hd_nil])
  rw [← hd_tl n3, ← hd_tl t1, ← hd_tl t0]
theorem isTx_unique {l : List UInt8} {a b c d a' b' c' d' : Nat} (h : IsTx l a b c d) (h' : IsTx l a' b' c' d') : a = a' ∧ b = b' ∧ c = c' ∧ d = d' := by
  obtain ⟨e0, e1, e2, e3⟩ := nums_of h
  obtain ⟨g0, g1, g2, g3⟩ := nums_of h'
  rw [e0] at g0; rw [e1] at g1; rw [e2] at g2; rw [e3] at g3
  exact ⟨Option.some.inj g0, Option.some.inj g1, Option.some.inj g2, Option.some.inj g3⟩
end Go.Proofs.YtnbiphlificliaaDoor
