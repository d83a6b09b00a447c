/- TreePlain: places, ways and kids as plain words. -/
import Derived.Test.YtkjmkcipalmonaaConf
namespace Go.Proofs.Ytkjmkcipalmonaa
open Go.RowKit
set_option linter.unusedSectionVars false
variable [∀ (a b c d : Int), Decidable (Ok4 a b c d)]
variable [∀ (n f : Int), Decidable (COk n f)]

/-- There is such a replica, or such a place. -/
def hpB (n f v i : Int) : Bool := decide (4 ≤ n) && decide (n ≤ 7) && decide (1 ≤ f) && decide (f ≤ 6) && decide (0 ≤ v) && decide (0 ≤ i) && decide (i < n)
abbrev HP (n f v i : Int) : Prop := hpB n f v i = true
theorem hp_iff {n f v i : Int} : HP n f v i ↔ COk n f ∧ 0 ≤ v ∧ 0 ≤ i ∧ i < n := by
  unfold HP hpB COk
  simp only [Bool.and_eq_true, decide_eq_true_eq]
  constructor
  · rintro ⟨⟨⟨⟨⟨⟨a, b⟩, c⟩, d⟩, e⟩, f⟩, g⟩; exact ⟨⟨⟨a, b⟩, c, d⟩, e, f, g⟩
  · rintro ⟨⟨⟨a, b⟩, c, d⟩, e, f, g⟩; exact ⟨⟨⟨⟨⟨⟨a, b⟩, c⟩, d⟩, e⟩, f⟩, g⟩
theorem HP.of {n f v i : Int} (h : HP n f v i) : COk n f ∧ 0 ≤ v ∧ 0 ≤ i ∧ i < n := hp_iff.1 h
def seatI (n f v i : Int) : Int := if HP n f v i then (i + n - v % n) % n else -1
def sitsI (n f v s : Int) : Int := if HP n f v s then (v % n + s) % n else -1
def upI (n f v i : Int) : Int := if seatI n f v i ≤ 0 then -1 else sitsI n f v ((seatI n f v i - 1) / f)
def rootI (n f v : Int) : Int := if HP n f v 0 then v % n else -1
/-- The way up, of so many steps at most. -/
def wayN (n f v : Int) : Nat → Int → List Int
  | 0, _ => []
  | k + 1, i => if HP n f v i then i :: wayN n f v k (upI n f v i) else []
def wayI (n f v i : Int) : List Int := wayN n f v 7 i
/-- The first k replicas that p picks. -/
def picked (p : Int → Bool) (k : Nat) : List Int := ((List.range k).map Int.ofNat).filter p
def kidsI (n f v i : Int) : List Int := if HP n f v i then picked (fun k => decide (upI n f v k = i)) n.toNat else []
def underI (n f v i : Int) : List Int := if HP n f v i then picked (fun k => decide (i ∈ wayI n f v k)) n.toNat else []

theorem seat_no {n f v i : Int} (h : ¬ HP n f v i) : seatI n f v i = -1 := if_neg h
theorem seat_yes {n f v i : Int} (h : HP n f v i) : seatI n f v i = (i + n - v % n) % n := if_pos h
theorem seat_range {n f v i : Int} (h : HP n f v i) : 0 ≤ seatI n f v i ∧ seatI n f v i < n := by
  rw [seat_yes h]
  obtain ⟨⟨⟨h1, h2⟩, _⟩, _⟩ := h.of
  exact ⟨Int.emod_nonneg _ (by omega), Int.emod_lt_of_pos _ (by omega)⟩
theorem sits_range {n f v s : Int} (h : HP n f v s) : 0 ≤ sitsI n f v s ∧ sitsI n f v s < n := by
  rw [show sitsI n f v s = (v % n + s) % n from if_pos h]
  obtain ⟨⟨⟨h1, h2⟩, _⟩, _⟩ := h.of
  exact ⟨Int.emod_nonneg _ (by omega), Int.emod_lt_of_pos _ (by omega)⟩
theorem root_sits (n f v : Int) : rootI n f v = sitsI n f v 0 := by
  unfold rootI sitsI
  by_cases h : HP n f v 0
  · rw [if_pos h, if_pos h, Int.add_zero, Int.emod_emod_of_dvd _ (Int.dvd_refl _)]
  · rw [if_neg h, if_neg h]
theorem hp_nobody {n f v : Int} : ¬ HP n f v (-1) := fun h => by have := h.of.2.2.1; omega
theorem hp_seat {n f v i : Int} : HP n f v i ↔ 0 ≤ seatI n f v i := by
  constructor
  · intro h; exact (seat_range h).1
  · intro h; refine Decidable.by_contra fun hn => ?_
    rw [seat_no hn] at h; omega
theorem div_lower {a b : Int} (hb : 1 ≤ b) (ha : 1 ≤ a) : 0 ≤ (a - 1) / b ∧ (a - 1) / b < a := by
  have h1 : 0 ≤ (a - 1) / b := Int.ediv_nonneg (by omega) (by omega)
  have h2 : (a - 1) / b ≤ a - 1 := Int.ediv_le_self b (by omega)
  omega
/-- The place of who sits there. -/
theorem seat_sits {n f v s : Int} (h : HP n f v s) : seatI n f v (sitsI n f v s) = s := by
  have hr := sits_range h
  have h' : HP n f v (sitsI n f v s) := hp_iff.2 ⟨h.of.1, h.of.2.1, hr.1, hr.2⟩
  rw [seat_yes h', show sitsI n f v s = (v % n + s) % n from if_pos h]
  obtain ⟨⟨⟨h1, h2⟩, _⟩, h3, h4, h5⟩ := h.of
  have e1 := Int.emod_nonneg v (by omega : n ≠ 0)
  have e2 := Int.emod_lt_of_pos v (by omega : 0 < n)
  generalize v % n = r at *
  have : n = 4 ∨ n = 5 ∨ n = 6 ∨ n = 7 := by omega
  rcases this with rfl | rfl | rfl | rfl <;> omega
theorem sits_seat {n f v i : Int} (h : HP n f v i) : sitsI n f v (seatI n f v i) = i := by
  have hr := seat_range h
  have h' : HP n f v (seatI n f v i) := hp_iff.2 ⟨h.of.1, h.of.2.1, hr.1, hr.2⟩
  rw [show sitsI n f v (seatI n f v i) = (v % n + seatI n f v i) % n from if_pos h', seat_yes h]
  obtain ⟨⟨⟨h1, h2⟩, _⟩, h3, h4, h5⟩ := h.of
  have e1 := Int.emod_nonneg v (by omega : n ≠ 0)
  have e2 := Int.emod_lt_of_pos v (by omega : 0 < n)
  generalize v % n = r at *
  have : n = 4 ∨ n = 5 ∨ n = 6 ∨ n = 7 := by omega
  rcases this with rfl | rfl | rfl | rfl <;> omega
/-- Up: nobody, or a replica whose place is lower. -/
theorem up_lower (n f v i : Int) : upI n f v i = -1 ∨ (HP n f v i ∧ HP n f v (upI n f v i) ∧ seatI n f v (upI n f v i) < seatI n f v i) := by
  unfold upI
  by_cases hs : seatI n f v i ≤ 0
  · rw [if_pos hs]; exact .inl rfl
  · rw [if_neg hs]
    have hh : HP n f v i := hp_seat.2 (by omega)
    have hr := seat_range hh
    have hd := div_lower hh.of.1.2.1 (by omega : 1 ≤ seatI n f v i)
    have h' : HP n f v ((seatI n f v i - 1) / f) := hp_iff.2 ⟨hh.of.1, hh.of.2.1, hd.1, by omega⟩
    have hq := sits_range h'
    refine .inr ⟨hh, hp_iff.2 ⟨hh.of.1, hh.of.2.1, hq.1, hq.2⟩, ?_⟩
    rw [seat_sits h']; exact hd.2
theorem up_range (n f v i : Int) : upI n f v i = -1 ∨ (0 ≤ upI n f v i ∧ upI n f v i < n) := by
  rcases up_lower n f v i with h | ⟨_, h, _⟩
  · exact .inl h
  · exact .inr ⟨h.of.2.2.1, h.of.2.2.2⟩
theorem up_none {n f v i : Int} (h : ¬ HP n f v i) : upI n f v i = -1 := by
  rcases up_lower n f v i with e | e
  · exact e
  · exact absurd e.1 h

/-- Where the way stands: nobody, or a replica that k steps suffice for. -/
def At (n f v : Int) (k : Nat) (i : Int) : Prop := i = -1 ∨ (HP n f v i ∧ seatI n f v i < k)
theorem at_start {n f v i : Int} (h : HP n f v i) : At n f v 7 i := .inr ⟨h, by have := (seat_range h).2; have := h.of.1.1.2; omega⟩
theorem at_next {n f v i : Int} {k : Nat} (h : At n f v (k + 1) i) (hi : i ≠ -1) : At n f v k (upI n f v i) := by
  rcases h with h | ⟨h, hs⟩
  · exact absurd h hi
  · rcases up_lower n f v i with e | ⟨_, e, e'⟩
    · exact .inl e
    · exact .inr ⟨e, by omega⟩
theorem at_pos {n f v i : Int} {k : Nat} (h : At n f v k i) (hi : i ≠ -1) : HP n f v i ∧ ∃ m, k = m + 1 := by
  rcases h with h | ⟨h, hs⟩
  · exact absurd h hi
  · have := (seat_range h).1
    exact ⟨h, k - 1, by omega⟩
theorem way_none (n f v : Int) (k : Nat) : wayN n f v k (-1) = [] := by
  cases k with
  | zero => rfl
  | succ k => exact if_neg hp_nobody
theorem way_out {n f v i : Int} (h : ¬ HP n f v i) (k : Nat) : wayN n f v k i = [] := by
  cases k with
  | zero => rfl
  | succ k => exact if_neg h
theorem way_more {n f v i : Int} (h : HP n f v i) (k : Nat) : wayN n f v (k + 1) i = i :: wayN n f v k (upI n f v i) := if_pos h
theorem way_len (n f v : Int) (k : Nat) (i : Int) : (wayN n f v k i).length ≤ k := by
  induction k generalizing i with
  | zero => simp [wayN]
  | succ k ih => unfold wayN; split <;> simp; exact ih _
theorem picked_succ (p : Int → Bool) (k : Nat) : picked p (k + 1) = picked p k ++ (if p k then [(k : Int)] else []) := by
  unfold picked
  rw [List.range_succ, List.map_append, List.filter_append]
  simp [List.filter_cons]
theorem picked_len (p : Int → Bool) (k : Nat) : (picked p k).length ≤ k := by
  induction k with
  | zero => simp [picked]
  | succ k ih => rw [picked_succ]; split <;> simp <;> omega
theorem mem_picked {p : Int → Bool} {k : Nat} {x : Int} (h : x ∈ picked p k) : p x = true ∧ 0 ≤ x ∧ x < k := by
  unfold picked at h
  obtain ⟨h1, h2⟩ := List.mem_filter.1 h
  obtain ⟨a, ha, rfl⟩ := List.mem_map.1 h1
  have := List.mem_range.1 ha
  exact ⟨h2, Int.natCast_nonneg a, by simp; exact this⟩

/-- A view counts by what is left of it by N. -/
theorem hp_left {n f v : Int} (hv : 0 ≤ v) (hn : 0 < n) (i : Int) : HP n f v i ↔ HP n f (v % n) i := by
  have := Int.emod_nonneg v (by omega : n ≠ 0)
  rw [hp_iff, hp_iff]
  simp [hv, this]
theorem ite_left {α : Type} {n f v : Int} (hv : 0 ≤ v) (hn : 0 < n) (i : Int) (a b : α) : (if HP n f v i then a else b) = if HP n f (v % n) i then a else b := by
  by_cases h : HP n f v i
  · rw [if_pos h, if_pos ((hp_left hv hn i).1 h)]
  · rw [if_neg h, if_neg (fun h' => h ((hp_left hv hn i).2 h'))]
theorem seat_left {n f v : Int} (hv : 0 ≤ v) (hn : 0 < n) (i : Int) : seatI n f v i = seatI n f (v % n) i := by
  unfold seatI
  rw [ite_left hv hn i]
  simp only [ Int.emod_emod_of_dvd v (Int.dvd_refl n)]
theorem sits_left {n f v : Int} (hv : 0 ≤ v) (hn : 0 < n) (i : Int) : sitsI n f v i = sitsI n f (v % n) i := by
  unfold sitsI
  rw [ite_left hv hn i]
  simp only [ Int.emod_emod_of_dvd v (Int.dvd_refl n)]
theorem up_left {n f v : Int} (hv : 0 ≤ v) (hn : 0 < n) (i : Int) : upI n f v i = upI n f (v % n) i := by
  unfold upI
  rw [seat_left hv hn, sits_left hv hn]
theorem way_left {n f v : Int} (hv : 0 ≤ v) (hn : 0 < n) (k : Nat) (i : Int) : wayN n f v k i = wayN n f (v % n) k i := by
  induction k generalizing i with
  | zero => rfl
  | succ k ih => unfold wayN; rw [ih, up_left hv hn, ite_left hv hn i]
theorem wayI_left {n f v : Int} (hv : 0 ≤ v) (hn : 0 < n) (i : Int) : wayI n f v i = wayI n f (v % n) i := way_left hv hn 7 i
theorem kids_left {n f v : Int} (hv : 0 ≤ v) (hn : 0 < n) (i : Int) : kidsI n f v i = kidsI n f (v % n) i := by
  unfold kidsI
  rw [show (fun k => decide (upI n f v k = i)) = (fun k => decide (upI n f (v % n) k = i)) from funext fun k => by rw [up_left hv hn]]
  rw [ite_left hv hn i]
theorem under_left {n f v : Int} (hv : 0 ≤ v) (hn : 0 < n) (i : Int) : underI n f v i = underI n f (v % n) i := by
  unfold underI
  rw [show (fun k => decide (i ∈ wayI n f v k)) = (fun k => decide (i ∈ wayI n f (v % n) k)) from funext fun k => by rw [wayI_left hv hn]]
  rw [ite_left hv hn i]
theorem root_left {n f v : Int} (hv : 0 ≤ v) (hn : 0 < n) : rootI n f v = rootI n f (v % n) := by
  rw [root_sits, root_sits, sits_left hv hn]
/-- Four numbers, all of them small: what holds of each such four holds of all. -/
def allFour (P : Int → Int → Int → Int → Bool) : Bool :=
  (List.range 4).all fun n => (List.range 6).all fun f => (List.range (n + 4)).all fun r => (List.range (n + 4)).all fun i => P ((n + 4 : Nat) : Int) ((f + 1 : Nat) : Int) ((r : Nat) : Int) ((i : Nat) : Int)
theorem small_four {P : Int → Int → Int → Int → Bool} (h : allFour P = true)
    {n f r i : Int} (hc : COk n f) (hr : 0 ≤ r) (hrn : r < n) (hi : 0 ≤ i) (hin : i < n) : P n f r i = true := by
  obtain ⟨⟨h1, h2⟩, h3, h4⟩ := hc
  unfold allFour at h
  have := List.all_eq_true.1 (List.all_eq_true.1 (List.all_eq_true.1 (List.all_eq_true.1 h (n - 4).toNat (List.mem_range.2 (by omega))) (f - 1).toNat (List.mem_range.2 (by omega))) r.toNat (List.mem_range.2 (by omega))) i.toNat (List.mem_range.2 (by omega))
  have e1 : (((n - 4).toNat + 4 : Nat) : Int) = n := by omega
  have e2 : (((f - 1).toNat + 1 : Nat) : Int) = f := by omega
  have e3 : (r.toNat : Int) = r := by omega
  have e4 : (i.toNat : Int) = i := by omega
  rw [e1, e2, e3, e4] at this
  exact this

/-- What FnTrees asks of a replica. -/
def treeOk (n f r i : Int) : Bool :=
  (wayI n f r i).head? == some i && (wayI n f r i).getLast? == some (rootI n f r) && decide ((wayI n f r i).length ≤ n.toNat) && decide ((kidsI n f r i).length ≤ f.toNat) && (kidsI n f r i).all (fun k => decide (k ∈ underI n f r i)) && decide (rootI n f r = r) && decide ((underI n f r r).length = n.toNat)
set_option maxRecDepth 100000 in
theorem tree_small : allFour treeOk = true := by decide +kernel
end Go.Proofs.Ytkjmkcipalmonaa
