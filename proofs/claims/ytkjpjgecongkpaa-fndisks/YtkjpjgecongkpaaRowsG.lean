/- RowsG: rows of so many cells each, read and owned. -/
import Derived.Test.YtkjpjgecongkpaaMsgBox
import Derived.Deep.MidRow
import Derived.OwnWalk
import Derived.Maps.AppendAt
namespace Go.Proofs.Ytkjpjgecongkpaa
open Go Go.RowKit

theorem rangeAt_below {w w' : World} {B b o : Nat} {cs : List Value} (h : w.rangeAt b o cs) (hb : Below B w w') (hB : b < B) : w'.rangeAt b o cs := fun j v hv => (hb.cell (p := ⟨b, o + j, none⟩) hB).trans (h j v hv)
theorem rangeAt_kp {w w' : World} {X : Nat → Prop} {b o : Nat} {cs : List Value} (h : w.rangeAt b o cs) (k : Kp w w' X) (hb : ¬ X b) : w'.rangeAt b o cs := fun j v hv => k.cell (h j v hv) hb
theorem rangeAt_lt {w : World} {b o : Nat} {cs : List Value} (h : w.rangeAt b o cs) (hc : 0 < cs.length) : b < w.heap.size := cell_lt (h 0 _ (List.getElem?_eq_getElem hc))
theorem rangeAt_cell {w : World} {b o : Nat} {cs : List Value} (h : w.rangeAt b o cs) (j : Nat) {v : Value} (hv : cs[j]? = some v) : w.cell? ⟨b, o + j, none⟩ = some v := h j v hv

/-- v reads as n rows of m cells each; of row k, whose cells are cs, R holds. -/
def RG (R : World → Nat → List Value → Prop) (m : Nat) (w : World) (v : Value) (n : Nat) : Prop :=
  ∃ ao cap, v = .slice ao n cap ∧ (n = 0 ∨ ∃ g off, ao = some ⟨g, off, none⟩ ∧ ∀ k, k < n → ∃ cs : List Value, cs.length = m ∧ w.rangeAt g (off + k * m) cs ∧ R w k cs)
theorem RG.form {R : World → Nat → List Value → Prop} {m n : Nat} {w : World} {v : Value} (h : RG R m w v n) : ∃ ao ca, v = .slice ao n ca := by obtain ⟨ao, ca, e, _⟩ := h; exact ⟨ao, ca, e⟩
theorem RG.at {R : World → Nat → List Value → Prop} {m n n' ca : Nat} {w : World} {ao : Option Addr} (h : RG R m w (.slice ao n' ca) n) (k : Nat) (hk : k < n) : ∃ g off, ∃ cs : List Value, ao = some ⟨g, off, none⟩ ∧ cs.length = m ∧ w.rangeAt g (off + k * m) cs ∧ R w k cs := by
  obtain ⟨ao', ca', e, h⟩ := h
  cases e
  rcases h with h | ⟨g, off, rfl, h⟩
  · omega
  · obtain ⟨cs, h⟩ := h k hk; exact ⟨g, off, cs, rfl, h⟩
theorem RG.below {R : World → Nat → List Value → Prop} {m n B : Nat} {w w' : World} {v : Value} (h : RG R m w v n) (hm : 0 < m) (hb : Below B w w') (hB : w.heap.size ≤ B) (hR : ∀ k cs, R w k cs → R w' k cs) : RG R m w' v n := by
  obtain ⟨ao, cap, rfl, h⟩ := h
  refine ⟨ao, cap, rfl, ?_⟩
  rcases h with h | ⟨g, off, rfl, h⟩
  · exact .inl h
  · refine .inr ⟨g, off, rfl, fun k hk => ?_⟩
    obtain ⟨cs, c0, c1, c2⟩ := h k hk
    exact ⟨cs, c0, rangeAt_below c1 hb (Nat.lt_of_lt_of_le (rangeAt_lt c1 (by omega)) hB), hR k cs c2⟩

/-! ### lists of lists -/
theorem rows_len {m : Nat} : ∀ {rows : List (List Value)}, (∀ c ∈ rows, c.length = m) → rows.flatten.length = rows.length * m
  | [], _ => by simp
  | c :: r, h => by
    rw [List.flatten_cons, List.length_append, rows_len (fun x hx => h x (List.mem_cons_of_mem _ hx)), h c (by simp), List.length_cons, Nat.add_mul]; omega
theorem rows_get {m : Nat} : ∀ {rows : List (List Value)}, (∀ c ∈ rows, c.length = m) → ∀ (k j : Nat), j < m → rows.flatten[k * m + j]? = (rows[k]?).bind (·[j]?)
  | [], _, _, _, _ => by simp
  | c :: r, h, 0, j, hj => by
    rw [List.flatten_cons, Nat.zero_mul, Nat.zero_add, List.getElem?_append_left (by rw [h c (by simp)]; exact hj)]; simp
  | c :: r, h, k + 1, j, hj => by
    have hc := h c (by simp)
    rw [List.flatten_cons, List.getElem?_append_right (by rw [hc, Nat.add_mul]; omega), hc, show (k + 1) * m + j - m = k * m + j by rw [Nat.add_mul]; omega, rows_get (fun x hx => h x (List.mem_cons_of_mem _ hx)) k j hj]
    simp
/-- cs is put over l from place o on. -/
def putAt (l : List Value) (o : Nat) : List Value → List Value
  | [] => l
  | v :: r => putAt (l.set o v) (o + 1) r
theorem putAt_get : ∀ (cs : List Value) (l : List Value) (o i : Nat), (putAt l o cs)[i]? = if o ≤ i ∧ i < o + cs.length ∧ i < l.length then cs[i - o]? else l[i]?
  | [], l, o, i => by rw [putAt, if_neg (by simp; omega)]
  | v :: r, l, o, i => by
    rw [putAt, putAt_get r (l.set o v) (o + 1) i]
    simp only [List.length_set, List.length_cons]
    by_cases h1 : o = i
    · subst h1
      by_cases hl : o < l.length
      · rw [if_neg (by omega), if_pos (by omega), List.getElem?_set_self hl, Nat.sub_self]; rfl
      · rw [if_neg (by omega), if_neg (by omega), List.getElem?_eq_none (by simp; omega), List.getElem?_eq_none (by omega)]
    · rw [List.getElem?_set_ne h1]
      by_cases h2 : o + 1 ≤ i ∧ i < o + 1 + r.length ∧ i < l.length
      · rw [if_pos h2, if_pos (by omega), show i - o = (i - (o + 1)) + 1 by omega]; rfl
      · rw [if_neg h2, if_neg (by omega)]
theorem putAt_flat {m : Nat} {rows : List (List Value)} (h : ∀ c ∈ rows, c.length = m) {k : Nat} (hk : k < rows.length) {cs : List Value} (hc : cs.length = m) (hm : 0 < m) : putAt rows.flatten (k * m) cs = (rows.set k cs).flatten := by
  have h' : ∀ c ∈ rows.set k cs, c.length = m := fun c hx => by
    rcases List.mem_or_eq_of_mem_set hx with e | e
    · exact h c e
    · rw [e, hc]
  apply List.ext_getElem?
  intro i
  have hd : i / m * m + i % m = i := by rw [Nat.mul_comm]; exact Nat.div_add_mod i m
  have hj := Nat.mod_lt i hm
  have e1 := rows_get h (i / m) (i % m) hj
  have e2 := rows_get h' (i / m) (i % m) hj
  rw [hd] at e1 e2
  rw [putAt_get, e1, e2, rows_len h, hc]
  have hki : k * m ≤ i ∧ i < k * m + m ↔ i / m = k := by
    constructor
    · rintro ⟨a, b⟩
      exact Nat.div_eq_of_lt_le a (by rw [Nat.add_mul]; omega)
    · rintro rfl; omega
  by_cases hq : i / m = k
  · have hki' := hki.2 hq
    have hlt : k * m + m ≤ rows.length * m := by rw [← Nat.succ_mul]; exact Nat.mul_le_mul_right m hk
    rw [if_pos ⟨hki'.1, hki'.2, by omega⟩, hq, List.getElem?_set_self hk, show i - k * m = i % m by rw [← hq]; omega]
    rfl
  · rw [if_neg (fun e => hq (hki.1 ⟨e.1, e.2.1⟩)), List.getElem?_set_ne (fun e => hq e.symm)]
theorem stored_all {base g n cap m : Nat} {T : TypeId} : ∀ (cs : List Value) (o : Nat) {w : World} {xs : List Value}, w.ownsRow base T m (.slice (some ⟨g, 0, none⟩) n cap) n xs →
    (w.setCells g o cs).ownsRow base T m (.slice (some ⟨g, 0, none⟩) n cap) n (putAt xs o cs) ∧ Kp w (w.setCells g o cs) (fun k => k = g)
  | [], _, _, _, h => ⟨h, Kp.refl _ _⟩
  | v :: r, o, w, xs, h => by
    obtain ⟨a, b⟩ := stored_all (base := base) (m := m) (T := T) (n := n) (cap := cap) r (o + 1) (h.stored o v).1
    exact ⟨a, (set_kp w g o v).trans b⟩

/-- Rows of the call's own. -/
structure OG (T : TypeId) (m : Nat) (w : World) (base : Nat) (v : Value) (rows : List (List Value)) : Prop where
  each : ∀ c ∈ rows, c.length = m
  row : w.ownsRow base T m v rows.length rows.flatten
section
variable {T : TypeId} {m : Nat} {w w' : World} {base : Nat} {v : Value} {rows : List (List Value)}
theorem OG.lt (h : OG T m w base v rows) : ∀ j, v.ownBlock = some j → base ≤ j ∧ j < w.heap.size := World.ownsRow.lt h.row
theorem OG.below (h : OG T m w base v rows) (hb : Below w.heap.size w w') : OG T m w' base v rows :=
  ⟨h.each, World.ownsRow.kept (row := none) h.row ⟨hb.os, hb.tape, hb.output, hb.size, fun k hk _ => hb.block k hk⟩ (by cases v.ownBlock <;> simp)⟩
theorem OG.kp {X : Nat → Prop} (h : OG T m w base v rows) (k : Kp w w' X) (hX : ∀ j, v.ownBlock = some j → ¬ X j) : OG T m w' base v rows := by
  have rl := h.lt
  refine ⟨h.each, ?_⟩
  rcases h.row with ⟨h1, ⟨e, h0⟩ | ⟨g, cap, cur, e, hg, hrow, rest⟩⟩
  · exact ⟨h1, .inl ⟨e, h0⟩⟩
  · have eo : v.ownBlock = some g := by rw [e]; rfl
    exact ⟨h1, .inr ⟨g, cap, cur, e, hg, (k.block g (rl g eo).2 (hX g eo)).trans hrow, rest⟩⟩
theorem OG.mono {base' : Nat} (h : OG T m w base v rows) (hb : base' ≤ base) : OG T m w base' v rows := by
  refine ⟨h.each, h.row.1, ?_⟩
  rcases h.row.2 with h2 | ⟨g, cap, cur, e, hg, rest⟩
  · exact .inl h2
  · exact .inr ⟨g, cap, cur, e, Nat.le_trans hb hg, rest⟩
theorem OG.nil (w : World) (base : Nat) : OG T m w base (.slice none 0 0) [] := ⟨fun c hc => by simp at hc, World.ownsRow_nil _ _ _ _⟩
theorem OG.form (h : OG T m w base v rows) : ∃ ao ca, v = .slice ao rows.length ca := by
  rcases h.row.2 with ⟨rfl, h0⟩ | ⟨g, cap, cur, rfl, _⟩
  · exact ⟨none, 0, by rw [h0]⟩
  · exact ⟨_, _, rfl⟩
/-- Row k of what is owned lies in memory, and may be written. -/
theorem OG.at {g cap : Nat} (h : OG T m w base (.slice (some ⟨g, 0, none⟩) rows.length cap) rows) (k : Nat) (hk : k < rows.length) : w.rangeAt g (k * m) (rows.getD k []) ∧ w.there g (k * m) m := by
  have hlen : (rows.getD k []).length = m := h.each _ (by rw [List.getD_eq_getElem?_getD, List.getElem?_eq_getElem hk]; exact List.getElem_mem hk)
  have hlt : k * m + m ≤ rows.length * m := by rw [← Nat.succ_mul]; exact Nat.mul_le_mul_right m hk
  have cell : ∀ j, j < m → w.cell? ⟨g, k * m + j, none⟩ = (rows.getD k [])[j]? := fun j hj => by
    rw [h.row.cellAt (k * m + j) (by omega), rows_get h.each k j hj]
    simp [List.getD_eq_getElem?_getD, List.getElem?_eq_getElem hk]
  refine ⟨fun j u hu => ?_, fun j hj => ⟨?_, h.row.frozenAt _⟩⟩
  · have hj : j < m := by rw [← hlen]; exact (List.getElem?_eq_some_iff.1 hu).1
    rw [cell j hj]; exact hu
  · rw [cell j hj, List.getElem?_eq_getElem (by rw [hlen]; exact hj)]; rfl
/-- Row k is written as a whole. -/
theorem OG.set {g cap : Nat} (h : OG T m w base (.slice (some ⟨g, 0, none⟩) rows.length cap) rows) (hm : 0 < m) (k : Nat) (hk : k < rows.length) (cs : List Value) (hc : cs.length = m) :
    OG T m (w.setCells g (k * m) cs) base (.slice (some ⟨g, 0, none⟩) rows.length cap) (rows.set k cs) ∧ Kp w (w.setCells g (k * m) cs) (fun k => k = g) := by
  obtain ⟨a, b⟩ := stored_all cs (k * m) h.row
  rw [putAt_flat h.each hk hc hm] at a
  refine ⟨⟨fun c hx => ?_, by rw [List.length_set]; exact a⟩, b⟩
  rcases List.mem_or_eq_of_mem_set hx with e | e
  · exact h.each c e
  · rw [e, hc]
/-- What is owned reads so. -/
theorem OG.rg {R : World → Nat → List Value → Prop} (h : OG T m w base v rows) (hR : ∀ k, k < rows.length → R w k (rows.getD k [])) : RG R m w v rows.length := by
  rcases h.row.2 with ⟨rfl, h0⟩ | ⟨g, cap, cur, rfl, _⟩
  · exact ⟨none, 0, by rw [h0], .inl h0⟩
  · refine ⟨_, cap, rfl, .inr ⟨g, 0, rfl, fun k hk => ⟨rows.getD k [], h.each _ (by rw [List.getD_eq_getElem?_getD, List.getElem?_eq_getElem hk]; exact List.getElem_mem hk), ?_, hR k hk⟩⟩⟩
    rw [Nat.zero_add]
    exact (h.at k hk).1
/-- Rows that are just made. -/
theorem made_flat (z : Array Value) (n : Nat) (hz : 0 < z.size) : (madeCells z (n * z.size)).toList = (List.replicate n z.toList).flatten := by
  have he : ∀ c ∈ List.replicate n z.toList, c.length = z.size := fun c hc => by rw [(List.mem_replicate.1 hc).2]; simp
  apply List.ext_getElem?
  intro i
  have hd : i / z.size * z.size + i % z.size = i := by rw [Nat.mul_comm]; exact Nat.div_add_mod i z.size
  have hj := Nat.mod_lt i hz
  have e1 := rows_get he (i / z.size) (i % z.size) hj
  rw [hd] at e1
  rw [e1]
  by_cases hi : i < n * z.size
  · have hq : i / z.size < n := by rw [Nat.div_lt_iff_lt_mul hz]; exact hi
    simp [madeCells, hi, hq, hj]
  · have hq : ¬ i / z.size < n := by rw [Nat.div_lt_iff_lt_mul hz]; exact hi
    rw [List.getElem?_eq_none (by rw [Array.length_toList, size_madeCells]; omega), List.getElem?_eq_none (by simp; omega)]
    rfl
theorem OG.made {z : Array Value} {n : Nat} (hz : 0 < z.size) (h : w.ownsRow base T z.size v n (madeCells z (n * z.size)).toList) : OG T z.size w base v (List.replicate n z.toList) :=
  ⟨fun c hc => by rw [(List.mem_replicate.1 hc).2]; simp, by rw [List.length_replicate, ← made_flat z n hz]; exact h⟩
end
end Go.Proofs.Ytkjpjgecongkpaa
