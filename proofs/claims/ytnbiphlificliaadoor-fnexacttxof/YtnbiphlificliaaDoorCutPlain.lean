/- The plain mathematics of cutAtMarks. Nothing of the program. -/
import Derived.Test.YtnbiphlificliaaDoorTxPlain
namespace Go.Proofs.YtnbiphlificliaaDoor
open Go
set_option linter.unusedSectionVars false

theorem hit_hd {m : UInt8} {r : List UInt8} {j : Nat} (h : m ∉ r.take j) (hj : r[j]? = some m) : hd m r = r.take j ∧ tl m r = r.drop (j + 1) := by
  have hl : j < r.length := (List.getElem?_eq_some_iff.1 hj).1
  have hm : r[j] = m := (List.getElem?_eq_some_iff.1 hj).2
  have e : r = r.take j ++ m :: r.drop (j + 1) := by
    rw [← hm, List.getElem_cons_drop, List.take_append_drop]
  constructor
  · conv => lhs; rw [e]
    exact hd_some h
  · conv => lhs; rw [e]
    exact tl_some h
/-- What lies behind k marks. -/
def rst (l : List UInt8) : Nat → List UInt8
  | 0 => l
  | 1 => tl 62 l
  | 2 => tl 58 (tl 62 l)
  | _ => tl 35 (tl 58 (tl 62 l))
def mrk : Nat → UInt8
  | 0 => 62
  | 1 => 58
  | _ => 35
def toB (l : List UInt8) : ByteArray := ⟨l.toArray⟩
theorem ext_list (s : ByteArray) (n p : Nat) : (s.extract n p).data.toList = (s.data.toList.drop n).take (p - n) := by
  rw [ByteArray.data_extract, Array.toList_extract]
theorem ext_toB (s : ByteArray) (n p : Nat) : s.extract n p = toB ((s.data.toList.drop n).take (p - n)) := by
  apply ByteArray.ext
  apply Array.toList_inj.1
  rw [ext_list s n p]; rfl
/-- Where the loop stands behind pos bytes: k marks are found, the next field begins at n. -/
def CAt (s : ByteArray) (pos k n : Nat) : Prop := n ≤ pos ∧ n ≤ s.size ∧ s.data.toList.drop n = rst s.data.toList k ∧ (k < 3 → mrk k ∉ (s.data.toList.drop n).take (pos - n))
theorem cat_start (s : ByteArray) : CAt s 0 0 0 := ⟨by omega, by omega, rfl, by simp⟩
theorem cat_hit {s : ByteArray} {pos k n : Nat} (h : CAt s pos k n) (hp : pos < s.size) (hk : k < 3) (hb : s[pos] = mrk k) :
    s.extract n pos = toB (hd (mrk k) (rst s.data.toList k)) ∧ CAt s (pos + 1) (k + 1) (pos + 1) := by
  obtain ⟨h1, h2, h3, h4⟩ := h
  have hj : (s.data.toList.drop n)[pos - n]? = some (mrk k) := by
    rw [List.getElem?_drop, show n + (pos - n) = pos from by omega, List.getElem?_eq_getElem (by simpa using hp), ← hb]; rfl
  obtain ⟨e1, e2⟩ := hit_hd (h4 hk) hj
  refine ⟨?_, by omega, by omega, ?_, by simp⟩
  · rw [ext_toB s n pos, ← h3, e1]
  · rw [List.drop_drop, show n + (pos - n + 1) = pos + 1 from by omega] at e2
    rw [← e2, h3]
    match k, hk with
    | 0, _ => rfl
    | 1, _ => rfl
    | 2, _ => rfl
theorem not_mem_more {m : UInt8} {l : List UInt8} {n pos v : Nat} (hn : n ≤ pos) (h : m ∉ (l.drop n).take (pos - n)) (hv : ∀ j, j < v → l[pos + j]? ≠ some m) : m ∉ (l.drop n).take (pos + v - n) := by
  induction v with
  | zero => exact h
  | succ v ih =>
    have h' := ih (fun j hj => hv j (by omega))
    rw [show pos + (v + 1) - n = (pos + v - n) + 1 from by omega, List.take_add_one]
    intro hm
    rw [List.mem_append] at hm
    rcases hm with hm | hm
    · exact h' hm
    · rw [List.getElem?_drop, show n + (pos + v - n) = pos + v from by omega] at hm
      have := hv v (by omega)
      cases hq : l[pos + v]? with
      | none => rw [hq] at hm; simp at hm
      | some x => rw [hq] at hm; simp at hm; rw [hq, hm] at this; exact this rfl
theorem mrk_small (k : Nat) : (mrk k).toNat < 128 := by unfold mrk; split <;> decide
/-- The bytes that a rune takes behind its first one are none of ASCII. -/
theorem decode_tail (s : ByteArray) (pos j : Nat) (hj : 1 ≤ j) (h : j < (Utf8.decode s pos).2) : 128 ≤ (s.get! (pos + j)).toNat := by
  unfold Utf8.decode at h
  simp only at h
  split at h
  · simp at h; omega
  · split at h
    · rename_i hc
      simp only [Bool.and_eq_true, beq_iff_eq, decide_eq_true_eq] at hc
      split at h
      · simp at h
        obtain rfl : j = 1 := by omega
        omega
      · simp at h; omega
    · split at h
      · rename_i hc
        simp only [Bool.and_eq_true, beq_iff_eq, decide_eq_true_eq] at hc
        split at h
        · simp at h
          have : j = 1 ∨ j = 2 := by omega
          rcases this with rfl | rfl <;> omega
        · simp at h; omega
      · split at h
        · rename_i hc
          simp only [Bool.and_eq_true, beq_iff_eq, decide_eq_true_eq] at hc
          split at h
          · simp at h
            have : j = 1 ∨ j = 2 ∨ j = 3 := by omega
            rcases this with rfl | rfl | rfl <;> omega
          · simp at h; omega
        · simp at h; omega
theorem get_of {s : ByteArray} {i : Nat} {x : UInt8} (h : s.data.toList[i]? = some x) : s.get! i = x := by
  rw [Array.getElem?_toList] at h
  unfold ByteArray.get!
  cases s
  simp only at *
  obtain ⟨hi, e⟩ := Array.getElem?_eq_some_iff.1 h
  simp [hi, e]
theorem cat_miss {s : ByteArray} {pos k n : Nat} (h : CAt s pos k n) (hp : pos < s.size) (hb : k < 3 → s[pos] ≠ mrk k) :
    CAt s (pos + (Utf8.decode s pos).2) k n := by
  obtain ⟨h1, h2, h3, h4⟩ := h
  refine ⟨by omega, h2, h3, fun hk => ?_⟩
  refine not_mem_more h1 (h4 hk) fun j hj e => ?_
  by_cases h0 : j = 0
  · subst h0
    rw [Nat.add_zero, List.getElem?_eq_getElem (by simpa using hp)] at e
    exact hb hk (Option.some.inj e)
  · have := decode_tail s pos j (by omega) hj
    rw [get_of e] at this
    have := mrk_small k
    omega
theorem rst_all (s : ByteArray) (n : Nat) : s.extract n s.size = toB (s.data.toList.drop n) := by
  rw [ext_toB s n s.size, List.take_of_length_le (by simp)]
/-- At the end: the last field that is found, and nothing in those behind it. -/
theorem cat_end {s : ByteArray} {pos k n : Nat} (h : CAt s pos k n) (hp : ¬ pos < s.size) : s.extract n s.size = toB (rst s.data.toList k) ∧ (k < 3 → hd (mrk k) (rst s.data.toList k) = rst s.data.toList k ∧ tl (mrk k) (rst s.data.toList k) = []) := by
  obtain ⟨h1, h2, h3, h4⟩ := h
  refine ⟨by rw [rst_all s n, h3], fun hk => ?_⟩
  have hm : mrk k ∉ rst s.data.toList k := by
    have := h4 hk
    rw [List.take_of_length_le (by simp; omega), h3] at this
    exact this
  exact ⟨hd_none hm, tl_none hm⟩
end Go.Proofs.YtnbiphlificliaaDoor
