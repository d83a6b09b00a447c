/- MsgBox: a box of many cells, loaded and stored whole. -/
import Derived.Test.YtkjpjgecongkpaaHeldBy
import Derived.Test.YtkjpjgecongkpaaLoc
import Derived.Laws.Rows
namespace Go.Proofs.Ytkjpjgecongkpaa
open Go Go.RowKit

theorem Loc.row {w : World} {g : Nat} {cs cs' : Array Value} (h : Loc w g cs) : Loc (w.setRow g cs') g cs' := by obtain ⟨t, h⟩ := h; exact ⟨t, setRow_heap w g cs cs' t (0, 0) h⟩
theorem row_kp (w : World) (g : Nat) (cs : Array Value) : Kp w (w.setRow g cs) (fun k => k = g) := ⟨rfl, rfl, rfl, by simp, fun k _ hk => setRow_other w g k cs hk⟩
abbrev isRow : TypeDesc → Bool
  | .struct _ | .array _ _ => true
  | _ => false
section
variable {P : Program} {ops : Array Oper} {rest : List Oper} {o : Oper} {a : Act} {Q : Exit → Act → World → Prop}
theorem wload {w : World} {g : Nat} {cs : Array Value} (L : Loc w g cs) (ty : TypeId) (d : TypeDesc) (hgd : Region.wanted o (yielded ops a.tmps) = true) (x : Operand) (ho : o.op = .load ty x) (hx : a.eval x = .pointer (some ⟨g, 0, none⟩))
    (hu : P.underlying ty = some d) (hd : isRow d = true) (hi : (P.info? ty).map (·.size) = some cs.size) (h : wpList P ops Q rest (a.put o.dst (.agg cs)) w) : wpList P ops Q (o :: rest) a w := by
  obtain ⟨t, hg⟩ := L
  exact wpList_step fun K hK => by rw [if_pos hgd]; exact wp_load_row ty x ho g hx t cs (0, 0) d hg hu (by cases d <;> first | rfl | (simp [isRow] at hd)) hi (hK _ _ h)
theorem wstore {w : World} {g : Nat} {cs : Array Value} (L : Loc w g cs) (ty : TypeId) (cs' : Array Value) (hgd : o.guard = none) (x y : Operand) (ho : o.op = .store ty x y) (hx : a.eval x = .pointer (some ⟨g, 0, none⟩)) (hy : a.eval y = .agg cs')
    (hi : (P.info? ty).map (·.size) = some cs'.size) (hold : cs.size = cs'.size) (h1 : cs'.all (·.oneCell') = true) (h : wpList P ops Q rest (a.put o.dst undef) (w.setRow g cs')) : wpList P ops Q (o :: rest) a w := by
  obtain ⟨t, hg⟩ := L
  exact wpList_store_row hgd ty x y ho g cs' hx hy t cs hg hi hold h1 h
theorem res_row {fn : Func} {p : Tmp} {ty : TypeId} (h : fn.results = #[.cell p ty]) {tmps : Array Value} {w : World} {g : Nat} {cs : Array Value} (d : TypeDesc) (L : Loc w g cs) (hp : tmps.getD p undef = .pointer (some ⟨g, 0, none⟩))
    (hu : P.underlying ty = some d) (hd : isRow d = true) (hi : (P.info? ty).map (·.size) = some cs.size) : (results fn tmps).run P w = .ok (.agg cs) w := by
  obtain ⟨t, hg⟩ := L
  exact results_cell_row h tmps w g t cs (0, 0) d hp hg hu (by cases d <;> first | rfl | (simp [isRow] at hd)) hi
theorem load_row {w : World} {g : Nat} {cs : Array Value} (L : Loc w g cs) (ty : TypeId) (d : TypeDesc) (hu : P.underlying ty = some d) (hd : isRow d = true) (hi : (P.info? ty).map (·.size) = some cs.size) :
    (loadVar ty ⟨g, 0, none⟩).run P w = .ok (.agg cs) w := by
  obtain ⟨t, hg⟩ := L
  exact run_loadVar_row w g t ty cs (0, 0) d hg hu (by cases d <;> first | rfl | (simp [isRow] at hd)) hi
theorem yields_row {S : World → Prop} {op : Oper} (hw : Region.wanted op (yielded ops a.tmps) = true) (ty : TypeId) (x : Operand) (ho : op.op = .load ty x) {g : Nat} (hx : a.eval x = .pointer (some ⟨g, 0, none⟩)) {cs : Array Value} (d : TypeDesc)
    (hS : ∀ w, S w → Loc w g cs) (hu : P.underlying ty = some d) (hd : isRow d = true) (hi : (P.info? ty).map (·.size) = some cs.size) : YieldsIf P ops S op (.agg cs) a :=
  .inl ⟨hw, fun w hw' => by
    unfold execOp
    simp only [ho, hx, Instr.loadAt, Instr.sureAddr, Sem.run_bind, Sem.run_pure, Result.andThen_ok, load_row (hS w hw') ty d hu hd hi]⟩
end
theorem box_loc (w : World) (Z C : Array Value) (T : TypeId) : Loc ((w.alloc (.cells Z T)).setRow w.heap.size C) w.heap.size C := (loc_at w Z T rfl).row
theorem box_below (w : World) (Z C : Array Value) (T : TypeId) : Below w.heap.size w ((w.alloc (.cells Z T)).setRow w.heap.size C) := Below.kp ((Below.refl _ _).alloc (Nat.le_refl _) _) (row_kp _ _ _) (by simp) (fun k hk => by omega)
theorem box_size (w : World) (Z C : Array Value) (T : TypeId) : ((w.alloc (.cells Z T)).setRow w.heap.size C).heap.size = w.heap.size + 1 := by simp
end Go.Proofs.Ytkjpjgecongkpaa
