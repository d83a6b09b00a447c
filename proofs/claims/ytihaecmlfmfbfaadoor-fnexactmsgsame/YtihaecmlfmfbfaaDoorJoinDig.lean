/- Numbers told as digits with a comma between: plain mathematics. -/
import Derived.WalkKit
import Derived.Lib.ItoaNum
import Derived.Lib.ItoaLen
namespace Go.Proofs.YtihaecmlfmfbfaaDoor
open Go.RowKit

/-- What stands behind the first one. -/
def jnT (ps : List (List UInt8)) : List UInt8 := ps.flatMap fun t => 44 :: t
/-- Texts with a comma between. -/
def jnC : List (List UInt8) → List UInt8
  | [] => []
  | p :: ps => p ++ jnT ps
theorem jnT_cons (p : List UInt8) (ps : List (List UInt8)) : jnT (p :: ps) = 44 :: jnC (p :: ps) := by simp [jnT, jnC]
theorem jnT_take (ps : List (List UInt8)) (k : Nat) (h : k < ps.length) : jnT (ps.take (k + 1)) = jnT (ps.take k) ++ 44 :: ps.getD k [] := by
  rw [List.take_succ_eq_append_getElem h]
  unfold jnT
  rw [List.flatMap_append]
  congr 1
  simp [List.getD_eq_getElem?_getD, h]
theorem jn_len (ps : List (List UInt8)) (h : ∀ p ∈ ps, p.length ≤ 21) : (jnT ps).length ≤ ps.length * 22 := by
  induction ps with
  | nil => simp [jnT]
  | cons p ps ih =>
    have h1 := h p (by simp)
    have h2 := ih (fun q hq => h q (by simp [hq]))
    simp only [jnT, List.flatMap_cons, List.length_append, List.length_cons] at *
    omega
theorem comma_cut {a b x y : List UInt8} (ha : (44 : UInt8) ∉ a) (hb : (44 : UInt8) ∉ b) (h : a ++ 44 :: x = b ++ 44 :: y) : a = b ∧ x = y := by
  induction a generalizing b with
  | nil =>
    cases b with
    | nil => simpa using h
    | cons c b => simp at h; exact absurd (by simp [h.1]) hb
  | cons c a ih =>
    cases b with
    | nil => simp at h; exact absurd (by simp [h.1]) ha
    | cons d b =>
      simp only [List.cons_append, List.cons.injEq] at h
      have := ih (b := b) (fun q => ha (by simp [q])) (fun q => hb (by simp [q])) h.2
      exact ⟨by rw [h.1, this.1], this.2⟩
theorem jn_inj (ps qs : List (List UInt8)) (hp : ∀ p ∈ ps, p ≠ [] ∧ (44 : UInt8) ∉ p) (hq : ∀ q ∈ qs, q ≠ [] ∧ (44 : UInt8) ∉ q) (h : jnC ps = jnC qs) : ps = qs := by
  induction ps generalizing qs with
  | nil =>
    cases qs with
    | nil => rfl
    | cons q qs =>
      simp only [jnC] at h
      exact absurd (List.append_eq_nil_iff.1 h.symm).1 (hq q (by simp)).1
  | cons p ps ih =>
    cases qs with
    | nil =>
      simp only [jnC] at h
      exact absurd (List.append_eq_nil_iff.1 h).1 (hp p (by simp)).1
    | cons q qs =>
      have pc := (hp p (by simp)).2
      have qc := (hq q (by simp)).2
      simp only [jnC] at h
      cases ps with
      | nil =>
        cases qs with
        | nil => simpa [jnT] using h
        | cons q2 qs =>
          rw [jnT_cons] at h
          simp only [jnT, List.flatMap_nil, List.append_nil] at h
          exact absurd (by rw [h]; simp) pc
      | cons p2 ps =>
        cases qs with
        | nil =>
          rw [jnT_cons] at h
          simp only [jnT, List.flatMap_nil, List.append_nil] at h
          exact absurd (by rw [← h]; simp) qc
        | cons q2 qs =>
          rw [jnT_cons, jnT_cons] at h
          obtain ⟨e1, e2⟩ := comma_cut pc qc h
          rw [e1, ih (q2 :: qs) (fun x hx => hp x (by simp at hx ⊢; exact .inr hx)) (fun x hx => hq x (by simp at hx ⊢; exact .inr hx)) e2]
theorem dec_step10 (u : Nat) (h : ¬ u < 10) : Lib.decDigits u = Lib.decDigits (u / 10) ++ [UInt8.ofNat (48 + u % 10)] := by rw [Lib.decDigits, dif_neg h]
theorem dig_nat (d : Nat) (h : d < 10) : (UInt8.ofNat (48 + d)).toNat = 48 + d := by rw [UInt8.toNat_ofNat']; omega
theorem dec_range (u : Nat) : ∀ c ∈ Lib.decDigits u, 48 ≤ c.toNat ∧ c.toNat ≤ 57 := by
  induction u using Nat.strongRecOn with
  | ind u ih =>
    intro c hc
    by_cases h : u < 10
    · rw [Lib.decDigits_one h] at hc
      have e : c = UInt8.ofNat (48 + u) := by simpa using hc
      have := dig_nat u h
      rw [e]
      omega
    · rw [dec_step10 u h, List.mem_append] at hc
      rcases hc with hc | hc
      · exact ih (u / 10) (by omega) c hc
      · have e : c = UInt8.ofNat (48 + u % 10) := by simpa using hc
        have := dig_nat (u % 10) (by omega)
        rw [e]
        omega
theorem dec_ne (u : Nat) : Lib.decDigits u ≠ [] := by
  intro e
  have := congrArg List.length e
  rw [Lib.decDigits_length] at this
  have := Lib.nDigits_pos u
  simp at *
  omega
theorem dec_inj (u v : Nat) (e : Lib.decDigits u = Lib.decDigits v) : u = v := by
  induction u using Nat.strongRecOn generalizing v with
  | ind u ih =>
    by_cases h : u < 10
    · by_cases k : v < 10
      · rw [Lib.decDigits_one h, Lib.decDigits_one k] at e
        have := congrArg UInt8.toNat (List.cons.inj e).1
        rw [dig_nat u h, dig_nat v k] at this
        omega
      · rw [Lib.decDigits_one h, dec_step10 v k] at e
        have hl := congrArg List.length e
        have := List.length_pos_iff.2 (dec_ne (v / 10))
        simp only [List.length_append, List.length_cons, List.length_nil] at hl
        omega
    · by_cases k : v < 10
      · rw [Lib.decDigits_one k, dec_step10 u h] at e
        have hl := congrArg List.length e
        have := List.length_pos_iff.2 (dec_ne (u / 10))
        simp only [List.length_append, List.length_cons, List.length_nil] at hl
        omega
      · rw [dec_step10 u h, dec_step10 v k] at e
        obtain ⟨e1, e2⟩ := List.append_inj' e rfl
        have := ih (u / 10) (by omega) (v / 10) e1
        have e3 := congrArg UInt8.toNat (List.cons.inj e2).1
        rw [dig_nat _ (by omega), dig_nat _ (by omega)] at e3
        omega
theorem itoa_parts (n : Int) : Lib.itoa n ≠ [] ∧ (44 : UInt8) ∉ Lib.itoa n := by
  have no : ∀ u, (44 : UInt8) ∉ Lib.decDigits u := fun u hc => by have := dec_range u 44 hc; simp at this
  rw [Lib.itoa]
  split
  · exact ⟨by simp, by simp [no]⟩
  · exact ⟨dec_ne _, no _⟩
theorem itoa_inj {n m : Int} (e : Lib.itoa n = Lib.itoa m) : n = m := by
  have no : ∀ u r, (45 : UInt8) :: r ≠ Lib.decDigits u := fun u r h => by have := dec_range u 45 (by rw [← h]; simp); simp at this
  rw [Lib.itoa, Lib.itoa] at e
  split at e
  · split at e
    · have := dec_inj _ _ (List.cons.inj e).2
      omega
    · exact absurd e (no _ _)
  · split at e
    · exact absurd e.symm (no _ _)
    · have := dec_inj _ _ e
      omega
/-- The numbers xs told. -/
def digL (xs : List Int) : List UInt8 := jnC (xs.map Lib.itoa)
theorem digL_inj {xs ys : List Int} (e : digL xs = digL ys) : xs = ys := by
  have h := jn_inj _ _ (fun p hp => by obtain ⟨n, _, rfl⟩ := List.mem_map.1 hp; exact itoa_parts n) (fun p hp => by obtain ⟨n, _, rfl⟩ := List.mem_map.1 hp; exact itoa_parts n) e
  exact (List.map_inj_right (fun _ _ h => itoa_inj h)).1 h
end Go.Proofs.YtihaecmlfmfbfaaDoor
