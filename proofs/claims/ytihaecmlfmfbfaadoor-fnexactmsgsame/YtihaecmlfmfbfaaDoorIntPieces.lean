/- Pieces of lists of numbers: at whatever place of a row; what an append of one does; what a cut is. -/
import Derived.Test.YtihaecmlfmfbfaaDoorLedger
import Derived.Test.YtihaecmlfmfbfaaDoorCopyInts
import Derived.Maps.AppendAt
import Derived.Laws.OwnMore
namespace Go.Proofs.YtihaecmlfmfbfaaDoor
open Go.RowKit

/-- v reads as the numbers xs, at whatever place. -/
def PI (w : World) (v : Value) (xs : List Int) : Prop :=
  ∃ ao cap, v = .slice ao xs.length cap ∧ (xs = [] ∨ ∃ ad : Addr, ao = some ad ∧ ∀ j u, (xs.map (Value.int .i64))[j]? = some u → w.cell? (ad.add j) = some u)
theorem PI.below {w w' : World} {v : Value} {xs : List Int} (h : PI w v xs) (hb : Below w.heap.size w w') : PI w' v xs := by
  obtain ⟨ao, cap, rfl, h⟩ := h
  refine ⟨ao, cap, rfl, ?_⟩
  rcases h with h | ⟨ad, rfl, h⟩
  · exact .inl h
  · exact .inr ⟨ad, rfl, fun j u hj => (hb.cell (cell_lt (h j u hj))).trans (h j u hj)⟩
theorem RI.pi {w : World} {v : Value} {xs : List Int} (h : RI w v xs) : PI w v xs := by
  obtain ⟨hl, ao, cap, rfl, h⟩ := h
  refine ⟨ao, cap, rfl, ?_⟩
  rcases h with h | ⟨b, off, rfl, h⟩
  · exact .inl h
  · exact .inr ⟨_, rfl, inews_cells h⟩
theorem RI.form {w : World} {v : Value} {xs : List Int} (h : RI w v xs) : ∃ ao ca, v = .slice ao xs.length ca := by obtain ⟨_, ao, ca, e, _⟩ := h; exact ⟨ao, ca, e⟩
theorem RI.at {w : World} {ao : Option Addr} {n ca : Nat} {xs : List Int} (h : RI w (.slice ao n ca) xs) (k : Nat) (hk : k < xs.length) : ∃ b off, ao = some ⟨b, off, none⟩ ∧ w.cell? ⟨b, off + k, none⟩ = some (.int .i64 (xs.getD k 0)) := by
  obtain ⟨_, ao', ca', e, h⟩ := h
  cases e
  rcases h with rfl | ⟨b, off, rfl, h⟩
  · simp at hk
  · exact ⟨b, off, rfl, h k hk⟩
/-- The first k. -/
theorem PI.take {w : World} {ao : Option Addr} {n cap : Nat} {xs : List Int} (h : PI w (.slice ao n cap) xs) (k : Nat) (hk : k ≤ n) (cap' : Nat) : PI w (.slice ao k cap') (xs.take k) := by
  obtain ⟨ao', cap2, e, h⟩ := h
  cases e
  refine ⟨ao, cap', by rw [List.length_take]; congr 1; omega, ?_⟩
  rcases h with rfl | ⟨ad, rfl, h⟩
  · left; simp
  · refine .inr ⟨ad, rfl, fun j u hj => h j u ?_⟩
    rw [List.map_take, List.getElem?_take] at hj
    split at hj
    · exact hj
    · cases hj
/-- All but the first k. -/
theorem PI.drop {w : World} {ao : Option Addr} {n cap : Nat} {xs : List Int} (h : PI w (.slice ao n cap) xs) (k : Nat) (cap' : Nat) {bo : Option Addr} (hb : k < n → bo = ao.map (·.add (k * 1))) : PI w (.slice bo (n - k) cap') (xs.drop k) := by
  obtain ⟨ao', cap2, e, h⟩ := h
  cases e
  refine ⟨bo, cap', by rw [List.length_drop], ?_⟩
  by_cases hlt : k < xs.length
  · rcases h with rfl | ⟨ad, rfl, h⟩
    · simp at hlt
    · refine .inr ⟨ad.add (k * 1), hb hlt, fun j u hj => ?_⟩
      rw [List.map_drop, List.getElem?_drop] at hj
      have := h _ u hj
      rw [← this]
      congr 1
      obtain ⟨b, o, s⟩ := ad
      unfold Addr.add
      split <;> split <;> simp_all <;> omega
  · left; rw [List.drop_of_length_le (by omega)]
theorem grown_same (w : World) (row : Option Nat) : w.grownBy w row := ⟨rfl, rfl, rfl, Nat.le_refl _, fun _ _ _ => rfl⟩
theorem run_append_none1 (ty : TypeId) (base cap : Nat) (v : Value) (n : Nat) (xs : List Value) (w : World) (hown : w.ownsRow base 3 1 v n xs) :
    (Builtin.append_ #[22, 22] ty #[v, .slice none 0 cap]).run Tryd.prog w = .ok v w := by
  obtain ⟨i0, hi, hz0, hz1, hz2⟩ := info_parts Tryd.info3
  rcases hown.2 with ⟨rfl, rfl⟩ | ⟨g, cp, cur, rfl, _, _, hnc, _⟩
  · simp [Builtin.append_, run_underlying Tryd.underlying22, sizeOf, typeInfo, hi, Builtin.lenOf, Builtin.firstCells]
  · simp [Builtin.append_, run_underlying Tryd.underlying22, sizeOf, typeInfo, hi, Builtin.lenOf, Builtin.firstCells, hnc, storeCells]
/-- An append of a piece onto what is owned. -/
theorem append_ints {ops : Array Oper} {rest : List Oper} {o : Oper} {a : Act} {Q : Exit → Act → World → Prop} {w : World} (hgd : o.guard = none) (s x : Operand)
    (ho : o.op = .call { callee := .builtin .append, args := #[s, x], argTypes := #[22, 22] }) (base : Nat) (v u : Value) (xs ys : List Int) (hs : a.eval s = v) (hx : a.eval x = u)
    (hown : OI w base v xs) (hp : PI w u ys) (hl : xs.length + ys.length ≤ 16777216) (hbase : base ≤ w.heap.size)
    (h : ∀ v' w', OI w' base v' (xs ++ ys) → w.grownBy w' v.ownBlock → (v'.ownBlock = v.ownBlock ∨ v'.ownBlock = some w.heap.size) → wpList Tryd.prog ops Q rest (a.put o.dst v') w') :
    wpList Tryd.prog ops Q (o :: rest) a w := by
  obtain ⟨i0, hi, hz0, hz1, hz2⟩ := info_parts Tryd.info3
  obtain ⟨ao, cap, rfl, hp⟩ := hp
  match ao, hx with
  | none, hx =>
    have hy : ys = [] := by rcases hp with h | ⟨ad, e, _⟩; exact h; cases e
    subst hy
    refine wpList_plain hgd fun K hK => ?_
    have hrun := run_append_none1 o.type base cap v xs.length (xs.map (Value.int .i64)) w hown
    unfold Oper.wp
    simp only [List.length_nil] at hx
    simp [execOp, ho, resolve, invoke, builtin, hs, hx, hrun, Result.andThen]
    exact hK _ _ (h v w (by simpa using hown) (grown_same _ _) (.inl rfl))
  | some ad, hx =>
    have hn : ∀ j u, (ys.map (Value.int .i64))[j]? = some u → w.cell? (ad.add j) = some u := by
      rcases hp with rfl | ⟨ad', e, h⟩
      · intro j u hj; simp at hj
      · cases e; exact h
    refine wpList_append_own_at _ hgd s x 22 ho base 3 i0 (.int .i64 0) 1 8 Tryd.underlying22 hi hz0 hz1 hz2 rfl (by decide) v xs.length (xs.map (Value.int .i64)) hs hown ad ys.length cap (ys.map (Value.int .i64)) hx (by simp) hn (ints_plain64 ys) (by unfold maxLen; omega) (by omega) hbase ?_
    intro v' w' ho' hg' _ hb'
    refine h v' w' ?_ hg' hb'
    unfold OI
    rw [List.map_append, List.length_append]
    exact ho'
set_option maxRecDepth 100000 in
theorem icut_to (ao : Option Addr) (n ca k : Nat) (w : World) (hk : k ≤ ca) :
    (Instr.slice 22 (.slice ao n ca) none (some (.int .i64 (k : Int))) none).run Tryd.prog w = .ok (.slice ao k ca) w := by
  obtain ⟨i0, hi, hz0, hz1, hz2⟩ := info_parts Tryd.info3
  rw [run_slice_h (ht := Tryd.underlying22) (kh := .i64) (h := (k : Int)) (h0 := by omega) (h2 := by omega)]
  have he : Tryd.prog.elem 22 = 3 := by simp [Program.elem, Tryd.underlying22]
  have hs : (sizeOf (Tryd.prog.elem 22)).run Tryd.prog w = .ok 1 w := by rw [he]; simp [sizeOf, typeInfo, hi, hz1]
  rw [hs]
  simp [sliced, Result.andThen]
  intro _; cases ao <;> rfl
set_option maxRecDepth 100000 in
theorem icut_from (ao : Option Addr) (n ca k : Nat) (w : World) (hk : k ≤ n) :
    (Instr.slice 22 (.slice ao n ca) (some (.int .i64 (k : Int))) none none).run Tryd.prog w = .ok (.slice (if ca = k then ao else ao.map (·.add (k * 1))) (n - k) (ca - k)) w := by
  obtain ⟨i0, hi, hz0, hz1, hz2⟩ := info_parts Tryd.info3
  rw [run_slice_l (ht := Tryd.underlying22) (kl := .i64) (l := (k : Int)) (h0 := by omega) (h1 := by omega)]
  have he : Tryd.prog.elem 22 = 3 := by simp [Program.elem, Tryd.underlying22]
  have hs : (sizeOf (Tryd.prog.elem 22)).run Tryd.prog w = .ok 1 w := by rw [he]; simp [sizeOf, typeInfo, hi, hz1]
  rw [hs]
  simp [sliced, Result.andThen]
/-- Its length is within its capacity. -/
def Cap (v : Value) : Prop := ∃ ao n cap, v = .slice ao n cap ∧ n ≤ cap ∧ cap ≤ maxLen
theorem OI.cap {w : World} {base : Nat} {v : Value} {xs : List Int} (h : OI w base v xs) : Cap v := by
  rcases h.2 with ⟨rfl, h0⟩ | ⟨g, cap, cur, rfl, _, _, h1, h2, h3⟩
  · exact ⟨_, _, _, rfl, by simp, by unfold maxLen; omega⟩
  · exact ⟨_, _, _, rfl, by first | exact h1 | exact h2 | exact h3 | omega, by first | exact h2 | exact h3 | omega⟩
end Go.Proofs.YtihaecmlfmfbfaaDoor
