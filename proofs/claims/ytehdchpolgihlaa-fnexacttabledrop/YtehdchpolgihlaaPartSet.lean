/- PartSet: a part of a table of the call's own is written. -/
import Derived.Test.YtehdchpolgihlaaPartRows
namespace Go.Proofs.Ytehdchpolgihlaa
open Go.RowKit

theorem pcells_set3 (l : List ((Int × ByteArray) × Value)) (k : Nat) (m : Int) (s : ByteArray) (u : Value) (hk : k < l.length) : (((pcells l).set (k * 3) (.int .i64 m)).set (k * 3 + 1) (.string s)).set (k * 3 + 2) u = pcells (l.set k ((m, s), u)) := by
  induction l generalizing k with
  | nil => simp at hk
  | cons p l ih =>
    cases k with
    | zero => simp [pcells_cons]
    | succ k =>
      rw [List.set_cons_succ, pcells_cons, pcells_cons, show (k + 1) * 3 = k * 3 + 1 + 1 + 1 by omega, show k * 3 + 1 + 1 + 1 + 1 = (k * 3 + 1) + 1 + 1 + 1 by omega, show k * 3 + 1 + 1 + 1 + 2 = (k * 3 + 2) + 1 + 1 + 1 by omega]
      simp only [List.set_cons_succ]
      rw [ih k (by simpa using hk)]
theorem pcells_set2 (l : List ((Int × ByteArray) × Value)) (k : Nat) (m : Int) (s : ByteArray) (hk : k < l.length) : ((pcells l).set (k * 3) (.int .i64 m)).set (k * 3 + 1) (.string s) = pcells (l.set k ((m, s), (l.getD k ((0, ⟨#[]⟩), .slice none 0 0)).2)) := by
  induction l generalizing k with
  | nil => simp at hk
  | cons p l ih =>
    cases k with
    | zero => simp [pcells_cons]
    | succ k =>
      rw [List.set_cons_succ, pcells_cons, pcells_cons, show (k + 1) * 3 = k * 3 + 1 + 1 + 1 by omega, show k * 3 + 1 + 1 + 1 + 1 = (k * 3 + 1) + 1 + 1 + 1 by omega]
      simp only [List.set_cons_succ]
      rw [ih k (by simpa using hk)]
      simp
theorem pzip_set (ps : List Pt) (vs : List Value) (k : Nat) (x : Pt) (u : Value) (hl : vs.length = ps.length) : ((ps.set k x).map phd).zip (vs.set k u) = ((ps.map phd).zip vs).set k (phd x, u) := by
  apply List.ext_getElem?
  intro j
  by_cases hj : j < ps.length
  · rw [List.getElem?_eq_getElem (by simp; omega), List.getElem?_eq_getElem (by simp; omega)]
    rw [List.getElem_set]
    by_cases e : k = j
    · subst e; simp
    · simp [e]
  · rw [List.getElem?_eq_none (by simp; omega), List.getElem?_eq_none (by simp; omega)]
theorem vset_same (vs : List Value) (k : Nat) (hk : k < vs.length) : vs.set k (vs.getD k (.slice none 0 0)) = vs := by
  apply List.ext_getElem?
  intro j
  rw [List.getElem?_set]
  split
  · rename_i e; subst e; simp [hk]
  · rfl
/-- A part is put into a table. -/
theorem opt_set {w : World} {base g cap k : Nat} {ps : List Pt} {vs : List Value} {m : Int} {s : ByteArray} {u : Value} {xs : List Int} (h : OPtV w base (.slice (some ⟨g, 0, none⟩) ps.length cap) ps vs) (hk : k < ps.length) (hu : OI w base u xs)
    (hap : ∀ j, j < ps.length → j ≠ k → ∀ b, (vs.getD j (.slice none 0 0)).ownBlock = some b → u.ownBlock ≠ some b) :
    OPtV (((w.setCell ⟨g, k * 3, none⟩ (.int .i64 m)).setCell ⟨g, k * 3 + 1, none⟩ (.string s)).setCell ⟨g, k * 3 + 2, none⟩ u) base (.slice (some ⟨g, 0, none⟩) ps.length cap) (ps.set k (m, s, xs)) (vs.set k u) := by
  have hz : ((ps.map phd).zip vs).length = ps.length := by simp [h.len]
  have K : Kp w (((w.setCell ⟨g, k * 3, none⟩ (.int .i64 m)).setCell ⟨g, k * 3 + 1, none⟩ (.string s)).setCell ⟨g, k * 3 + 2, none⟩ u) (fun b => b = g) := ((set_kp _ _ _ _).trans (set_kp _ _ _ _)).trans (set_kp _ _ _ _)
  have keep : ∀ (x : Value) (zs : List Int), OI w base x zs → OI (((w.setCell ⟨g, k * 3, none⟩ (.int .i64 m)).setCell ⟨g, k * 3 + 1, none⟩ (.string s)).setCell ⟨g, k * 3 + 2, none⟩ u) base x zs := fun x zs hx =>
    hx.kp K (fun b hb e => pt_oi h.row hx g rfl (by rw [← e]; exact hb))
  refine ⟨by simp [h.len], ?_, fun j hj => ?_, fun i j hij hj b hb => ?_⟩
  · rw [List.length_set, pzip_set ps vs k _ u h.len, show phd (m, s, xs) = (m, s) from rfl, ← pcells_set3 _ k m s u (by omega)]
    exact (((h.row.stored (k * 3) _).1.stored (k * 3 + 1) _).1.stored (k * 3 + 2) _).1
  · rw [List.length_set] at hj
    by_cases e : k = j
    · subst e
      have e1 : (ps.set k (m, s, xs)).getD k zpt = (m, s, xs) := by simp [hk]
      have e2 : (vs.set k u).getD k (.slice none 0 0) = u := by simp [h.len, hk]
      rw [e1, e2]; exact keep _ _ hu
    · have e1 : (ps.set k (m, s, xs)).getD j zpt = ps.getD j zpt := by simp [e]
      have e2 : (vs.set k u).getD j (.slice none 0 0) = vs.getD j (.slice none 0 0) := by simp [e]
      rw [e1, e2]; exact keep _ _ (h.each j hj)
  · rw [List.length_set] at hj
    by_cases e : k = i
    · subst e
      have e1 : (vs.set k u).getD k (.slice none 0 0) = u := by simp [h.len, hk]
      have e2 : (vs.set k u).getD j (.slice none 0 0) = vs.getD j (.slice none 0 0) := by simp [show k ≠ j by omega]
      rw [e1] at hb
      rw [e2]
      intro e3
      exact hap j hj (by omega) b e3 hb
    · by_cases e' : k = j
      · subst e'
        have e1 : (vs.set k u).getD k (.slice none 0 0) = u := by simp [h.len, hk]
        have e2 : (vs.set k u).getD i (.slice none 0 0) = vs.getD i (.slice none 0 0) := by simp [e]
        rw [e2] at hb
        rw [e1]
        exact hap i (by omega) (by omega) b hb
      · have e1 : (vs.set k u).getD i (.slice none 0 0) = vs.getD i (.slice none 0 0) := by simp [e]
        have e2 : (vs.set k u).getD j (.slice none 0 0) = vs.getD j (.slice none 0 0) := by simp [e']
        rw [e1] at hb
        rw [e2]
        exact h.apart i j hij hj b hb
/-- A part's view and name are written; its list is turned by itself. -/
theorem opt_mark {w w1 w2 : World} {base g n cap k : Nat} {ps : List Pt} {vs : List Value} {m : Int} {s : ByteArray} {xs : List Int} (h : OPtV w base (.slice (some ⟨g, 0, none⟩) n cap) ps vs) (hk : k < ps.length)
    (t : w1.ownsRow base 31 3 (.slice (some ⟨g, 0, none⟩) n cap) ps.length (((pcells ((ps.map phd).zip vs)).set (k * 3) (.int .i64 m)).set (k * 3 + 1) (.string s))) (g1 : Kp w w1 (fun b => b = g))
    (o2 : OI w2 base (vs.getD k (.slice none 0 0)) xs) (g2 : w1.grownBy w2 (vs.getD k (.slice none 0 0)).ownBlock) : OPtV w2 base (.slice (some ⟨g, 0, none⟩) n cap) (ps.set k (m, s, xs)) vs := by
  have hz : ((ps.map phd).zip vs).length = ps.length := by simp [h.len]
  have key1 : ∀ j, j < ps.length → OI w1 base (vs.getD j (.slice none 0 0)) (ps.getD j zpt).2.2 := fun j hj =>
    (h.each j hj).kp g1 (fun b hb e => pt_oi h.row (h.each j hj) g rfl (by rw [← e]; exact hb))
  refine ⟨by simp [h.len], ?_, fun j hj => ?_, fun i j hij hj => h.apart i j hij (by simpa using hj)⟩
  · have ev : vs = vs.set k (vs.getD k (.slice none 0 0)) := (vset_same vs k (by rw [h.len]; exact hk)).symm
    rw [List.length_set]
    have e : ((ps.set k (m, s, xs)).map phd).zip vs = ((ps.map phd).zip vs).set k ((m, s), vs.getD k (.slice none 0 0)) := by
      conv => lhs; rw [ev]
      exact pzip_set ps vs k _ _ h.len
    have e2 : (((ps.map phd).zip vs).getD k ((0, ⟨#[]⟩), .slice none 0 0)).2 = vs.getD k (.slice none 0 0) := by rw [pzip_get ps vs h.len k hk]
    rw [e, ← e2, ← pcells_set2 _ k m s (by omega)]
    refine World.ownsRow.kept t g2 (.inr fun e => ?_)
    exact pt_oi t (key1 k hk) g rfl (by rw [← e]; rfl)
  · rw [List.length_set] at hj
    by_cases e : k = j
    · subst e
      have : (ps.set k (m, s, xs)).getD k zpt = (m, s, xs) := by simp [hk]
      rw [this]; exact o2
    · have : (ps.set k (m, s, xs)).getD j zpt = ps.getD j zpt := by simp [e]
      rw [this]
      refine World.ownsRow.kept (key1 j hj) g2 ?_
      cases hv : (vs.getD j (.slice none 0 0)).ownBlock with
      | none => exact .inl rfl
      | some b =>
        refine .inr fun e2 => ?_
        rcases Nat.lt_or_ge k j with h3 | h3
        · exact h.apart k j h3 hj b e2.symm hv
        · exact h.apart j k (by omega) hk b hv e2.symm
end Go.Proofs.Ytehdchpolgihlaa
