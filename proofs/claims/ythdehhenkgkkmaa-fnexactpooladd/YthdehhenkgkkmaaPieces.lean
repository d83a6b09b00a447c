/- Pieces of lists of payments: at whatever place of a row; what an append of one does. -/
import Derived.Test.YthdehhenkgkkmaaToTxS
import Derived.Maps.AppendAt
import Derived.Laws.OwnMore
namespace Go.Proofs.Ythdehhenkgkkmaa
open Go.RowKit
set_option linter.unusedSectionVars false
variable [∀ (a b c d : Int), Decidable (Ok4 a b c d)]
variable [∀ (m a b c d : Int), Decidable (In4 m a b c d)]
variable [∀ (xs ys : List Int), Decidable (LOk xs ys)]

/-- v reads as the payments xs, at whatever place. -/
def PT (w : World) (v : Value) (xs : List T4) : Prop :=
  ∃ ao cap, v = .slice ao xs.length cap ∧ (xs = [] ∨ ∃ ad : Addr, ao = some ad ∧ ∀ j u, (tcells xs)[j]? = some u → w.cell? (ad.add j) = some u)
theorem PT.below {w w' : World} {v : Value} {xs : List T4} (h : PT w v xs) (hb : Below w.heap.size w w') : PT w' v xs := by
  obtain ⟨ao, cap, rfl, h⟩ := h
  refine ⟨ao, cap, rfl, ?_⟩
  rcases h with h | ⟨ad, rfl, h⟩
  · exact .inl h
  · exact .inr ⟨ad, rfl, fun j u hj => (hb.cell (cell_lt (h j u hj))).trans (h j u hj)⟩
theorem add_zero4 (b o j : Nat) : ((⟨b, o, none⟩ : Addr).add j) = ⟨b, o + j, none⟩ := by unfold Addr.add; split <;> simp_all
theorem OT.pt {w : World} {base : Nat} {v : Value} {xs : List T4} (h : OT w base v xs) : PT w v xs := by
  rcases h.2 with ⟨rfl, h0⟩ | ⟨g, cap, cur, rfl, _⟩
  · exact ⟨none, 0, by rw [h0], .inl (List.length_eq_zero_iff.1 h0)⟩
  · exact ⟨_, cap, rfl, .inr ⟨_, rfl, World.ownsRow.cells h rfl⟩⟩
theorem RT.pt {w : World} {v : Value} {xs : List T4} (h : RT w v xs) : PT w v xs := by
  obtain ⟨hl, ao, cap, rfl, h⟩ := h
  refine ⟨ao, cap, rfl, ?_⟩
  rcases h with h | ⟨g, rfl, h⟩
  · exact .inl h
  · refine .inr ⟨_, rfl, fun j u hj => ?_⟩
    have hlt : j < xs.length * 4 := by rw [← tcells_len]; exact (List.getElem?_eq_some_iff.1 hj).1
    obtain ⟨k, r, hr, rfl⟩ : ∃ k r, r < 4 ∧ j = k * 4 + r := ⟨j / 4, j % 4, by omega, by omega⟩
    have hk : k < xs.length := by omega
    rw [tcells_get xs k r hk hr] at hj
    obtain ⟨c0, c1, c2, c3⟩ := h k hk
    rw [add_zero4, Nat.zero_add]
    match r, hr with
    | 0, _ => exact c0.trans hj
    | 1, _ => exact c1.trans hj
    | 2, _ => exact c2.trans hj
    | 3, _ => exact c3.trans hj
theorem tcells_take (xs : List T4) (k j : Nat) (u : Value) (h : (tcells (xs.take k))[j]? = some u) : (tcells xs)[j]? = some u := by
  have e : tcells xs = tcells (xs.take k) ++ tcells (xs.drop k) := by rw [← tcells_append, List.take_append_drop]
  rw [e, List.getElem?_append_left (List.getElem?_eq_some_iff.1 h).1]
  exact h
theorem tcells_drop (xs : List T4) (k j : Nat) (u : Value) (hk : k ≤ xs.length) (h : (tcells (xs.drop k))[j]? = some u) : (tcells xs)[k * 4 + j]? = some u := by
  have e : tcells xs = tcells (xs.take k) ++ tcells (xs.drop k) := by rw [← tcells_append, List.take_append_drop]
  have hl : (tcells (xs.take k)).length = k * 4 := by rw [tcells_len, List.length_take]; omega
  rw [e, List.getElem?_append_right (by omega), hl, show k * 4 + j - k * 4 = j from by omega]
  exact h
/-- The first k. -/
theorem PT.take {w : World} {ao : Option Addr} {n cap : Nat} {xs : List T4} (h : PT w (.slice ao n cap) xs) (k : Nat) (hk : k ≤ n) (cap' : Nat) : PT w (.slice ao k cap') (xs.take k) := by
  obtain ⟨ao', cap2, e, h⟩ := h
  cases e
  refine ⟨ao, cap', by rw [List.length_take]; congr 1; omega, ?_⟩
  rcases h with rfl | ⟨ad, rfl, h⟩
  · left; simp
  · exact .inr ⟨ad, rfl, fun j u hj => h j u (tcells_take _ _ _ _ hj)⟩
/-- All but the first k. -/
theorem PT.drop {w : World} {ao : Option Addr} {n cap : Nat} {xs : List T4} (h : PT w (.slice ao n cap) xs) (k : Nat) (hk : k ≤ n) (cap' : Nat) {bo : Option Addr} (hb : k < n → bo = ao.map (·.add (k * 4))) : PT w (.slice bo (n - k) cap') (xs.drop k) := by
  obtain ⟨ao', cap2, e, h⟩ := h
  cases e
  refine ⟨bo, cap', by rw [List.length_drop], ?_⟩
  by_cases hlt : k < xs.length
  · rcases h with rfl | ⟨ad, rfl, h⟩
    · simp at hlt
    · refine .inr ⟨ad.add (k * 4), hb hlt, fun j u hj => ?_⟩
      have := h _ u (tcells_drop xs k j u hk hj)
      rw [← this]
      congr 1
      obtain ⟨b, o, s⟩ := ad
      unfold Addr.add
      split <;> split <;> simp_all <;> omega
  · left; rw [List.drop_of_length_le (by omega)]
theorem four_plains (xs : List T4) (u : Value) (h : u ∈ tcells xs) : u.oneCell' = true := by
  obtain ⟨x, _, hx⟩ := List.mem_flatMap.1 h
  simp [tcell] at hx; rcases hx with rfl | rfl | rfl | rfl <;> rfl
theorem run_append_nothing4 (ty : TypeId) (base cap : Nat) (v : Value) (n : Nat) (xs : List Value) (w : World) (hown : w.ownsRow base 33 4 v n xs) :
    (Builtin.append_ #[25, 25] ty #[v, .slice none 0 cap]).run Try.prog w = .ok v w := by
  obtain ⟨i0, hi, hz0, hz1, hz2⟩ := info_parts Try.infoTx
  rcases hown.2 with ⟨rfl, rfl⟩ | ⟨g, cp, cur, rfl, _, _, hnc, _⟩
  · simp [Builtin.append_, run_underlying Try.underlying25, sizeOf, typeInfo, hi, Builtin.lenOf, Builtin.firstCells]
  · simp [Builtin.append_, run_underlying Try.underlying25, sizeOf, typeInfo, hi, Builtin.lenOf, Builtin.firstCells, hnc, storeCells]
/-- An append of a piece onto what is owned. -/
theorem append_piece {ops : Array Oper} {rest : List Oper} {o : Oper} {a : Act} {Q : Exit → Act → World → Prop} {w : World} (hgd : o.guard = none) (s x : Operand)
    (ho : o.op = .call { callee := .builtin .append, args := #[s, x], argTypes := #[25, 25] }) (base : Nat) (v u : Value) (xs ys : List T4) (hs : a.eval s = v) (hx : a.eval x = u)
    (hown : OT w base v xs) (hp : PT w u ys) (hl : xs.length + ys.length ≤ 4194304) (hbase : base ≤ w.heap.size)
    (h : ∀ v' w', OT w' base v' (xs ++ ys) → w.grownBy w' v.ownBlock → (v'.ownBlock = v.ownBlock ∨ v'.ownBlock = some w.heap.size) → wpList Try.prog ops Q rest (a.put o.dst v') w') :
    wpList Try.prog ops Q (o :: rest) a w := by
  obtain ⟨i0, hi, hz0, hz1, hz2⟩ := info_parts Try.infoTx
  obtain ⟨ao, cap, rfl, hp⟩ := hp
  match ao, hx with
  | none, hx =>
    have hy : ys = [] := by rcases hp with h | ⟨ad, e, _⟩; exact h; cases e
    subst hy
    refine wpList_plain hgd fun K hK => ?_
    have hrun := run_append_nothing4 o.type base cap v xs.length (tcells xs) w hown
    unfold Oper.wp
    simp only [List.length_nil] at hx
    simp [execOp, ho, resolve, invoke, builtin, hs, hx, hrun, Result.andThen]
    exact hK _ _ (h v w (by simpa using hown) (grown_refl _ _) (.inl rfl))
  | some ad, hx =>
    have hn : ∀ j u, (tcells ys)[j]? = some u → w.cell? (ad.add j) = some u := by
      rcases hp with rfl | ⟨ad', e, h⟩
      · intro j u hj; simp [tcells] at hj
      · cases e; exact h
    refine wpList_append_own_at _ hgd s x 25 ho base 33 i0 (txv 0 0 0 0) 4 32 Try.underlying25 hi hz0 hz1 hz2 rfl (by decide) v xs.length (tcells xs) hs hown ad ys.length cap (tcells ys) hx (tcells_len ys) hn (four_plains ys) (by unfold maxLen; omega) (by omega) hbase ?_
    intro v' w' ho' hg' _ hb'
    refine h v' w' ?_ hg' hb'
    unfold OT
    rw [tcells_append, List.length_append]
    exact ho'
end Go.Proofs.Ythdehhenkgkkmaa
