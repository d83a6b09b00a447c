/- RowsM: many cells within a box or a row, loaded and stored at once. -/
import Derived.Test.YtkjpjgecongkpaaRowsG
namespace Go.Proofs.Ytkjpjgecongkpaa
open Go Go.RowKit

theorem setCells_kp (g : Nat) : ∀ (vs : List Value) (o : Nat) (w : World), Kp w (w.setCells g o vs) (fun k => k = g)
  | [], _, _ => Kp.refl _ _
  | v :: r, o, w => (set_kp w g o v).trans (setCells_kp g r (o + 1) _)
theorem putAt_len : ∀ (cs l : List Value) (o : Nat), (putAt l o cs).length = l.length
  | [], _, _ => rfl
  | v :: r, l, o => by rw [putAt, putAt_len r, List.length_set]
theorem Loc.setCells {g : Nat} : ∀ (vs : List Value) (o : Nat) {w : World} {cs cs' : Array Value}, Loc w g cs → putAt cs.toList o vs = cs'.toList → Loc (w.setCells g o vs) g cs'
  | [], o, w, cs, cs', h, e => by
    obtain rfl : cs = cs' := by cases cs; cases cs'; simpa [putAt] using e
    exact h
  | v :: r, o, w, cs, cs', h, e => Loc.setCells r (o + 1) (h.set o v rfl) (by rw [putAt] at e; simpa using e)
theorem Loc.range {w : World} {g : Nat} {cs : Array Value} (h : Loc w g cs) (o m : Nat) {sub : List Value} (e : (cs.toList.drop o).take m = sub) : w.rangeAt g o sub := fun j v hv => by
  subst e
  have hj : j < m := by have := (List.getElem?_eq_some_iff.1 hv).1; simp at this; omega
  refine h.cell (o + j) ?_
  rw [List.getElem?_take, if_pos hj, List.getElem?_drop] at hv
  simpa using hv
theorem Loc.there {w : World} {g : Nat} {cs : Array Value} (h : Loc w g cs) (o m : Nat) (hm : o + m ≤ cs.size) : w.there g o m := fun j hj =>
  ⟨by rw [h.cell (o + j) (Array.getElem?_eq_getElem (show o + j < cs.size by omega))]; rfl, h.frozen _⟩
section
variable {P : Program} {ops : Array Oper} {rest : List Oper} {op : Oper} {a : Act} {Q : Exit → Act → World → Prop}
theorem wloadM {w : World} {b o : Nat} (cs : List Value) (hc : w.rangeAt b o cs) (ty : TypeId) (d : TypeDesc) (hgd : Region.wanted op (yielded ops a.tmps) = true) (x : Operand) (ho : op.op = .load ty x) (hx : a.eval x = .pointer (some ⟨b, o, none⟩))
    (hu : P.underlying ty = some d) (hd : d.isRow = true) (hi : (P.info? ty).map (·.size) = some cs.length) (h : wpList P ops Q rest (a.put op.dst (.agg cs.toArray)) w) : wpList P ops Q (op :: rest) a w :=
  wpList_step fun K hK => by rw [if_pos hgd]; exact wp_load_mid ty x ho b o hx cs d hc hu hd hi (hK _ _ h)
theorem wstoreM {w : World} {b o : Nat} (cells : Array Value) (ht : w.there b o cells.size) (ty : TypeId) (hgd : Region.wanted op (yielded ops a.tmps) = true) (x y : Operand) (ho : op.op = .store ty x y) (hx : a.eval x = .pointer (some ⟨b, o, none⟩)) (hy : a.eval y = .agg cells)
    (hi : (P.info? ty).map (·.size) = some cells.size) (h1 : cells.all (·.oneCell') = true) (h : wpList P ops Q rest (a.put op.dst undef) (w.setCells b o cells.toList)) : wpList P ops Q (op :: rest) a w :=
  wpList_step fun K hK => by rw [if_pos hgd]; exact wp_store_mid ty x y ho b o cells hx hy ht hi h1 (hK _ _ h)
theorem yields_mid {S : World → Prop} (hw : Region.wanted op (yielded ops a.tmps) = true) (ty : TypeId) (x : Operand) (ho : op.op = .load ty x) {b o : Nat} (hx : a.eval x = .pointer (some ⟨b, o, none⟩)) (cs : List Value) (d : TypeDesc)
    (hS : ∀ w, S w → w.rangeAt b o cs) (hu : P.underlying ty = some d) (hd : d.isRow = true) (hi : (P.info? ty).map (·.size) = some cs.length) : YieldsIf P ops S op (.agg cs.toArray) a := yieldsIf_load_mid hw ty x ho b o hx cs d hS hu hd hi
end
end Go.Proofs.Ytkjpjgecongkpaa
