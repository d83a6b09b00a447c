/- Texts that belong together: Pieces, Concat, Search, With, SpecPoolAdd. -/
import Derived.Test.YthdehhenkgkkmaaDoorBunD
import Derived.Maps.AppendAt
import Derived.Laws.OwnMore
import Derived.Test.YthdehhenkgkkmaaDoorBunA
import Derived.Lib.AppendZerosOnto
import Derived.Test.YthdehhenkgkkmaaDoorBunG
import Derived.Laws.EntriesVeiled
/- Pieces of lists of payments: at whatever place of a row; what an append of one does. -/
namespace Go.Proofs.YthdehhenkgkkmaaDoor
open Go.RowKit
set_option linter.unusedSectionVars false
variable [∀ (a b c d : Int), Decidable (Ok4 a b c d)]
variable [∀ (m a b c d : Int), Decidable (In4 m a b c d)]
variable [∀ (xs ys : List Int), Decidable (LOk xs ys)]
variable [∀ (x y : T4), Decidable (Bef x y)]
variable [∀ (ts : List T4), Decidable (Asc ts)]
variable [∀ (ts : List T4), Decidable (AllOk ts)]
variable [∀ (ts : List T4), Decidable (POk ts)]

/-- v reads as the payments xs, at whatever place. -/
def PT (w : World) (v : Value) (xs : List T4) : Prop :=
  ∃ ao cap, v = .slice ao xs.length cap ∧ (xs = [] ∨ ∃ ad : Addr, ao = some ad ∧ ∀ j u, (tcells xs)[j]? = some u → w.cell? (ad.add j) = some u)
theorem PT.below {w w' : World} {v : Value} {xs : List T4} (h : PT w v xs) (hb : Below w.heap.size w w') : PT w' v xs := by
  obtain ⟨ao, cap, rfl, h⟩ := h
  refine ⟨ao, cap, rfl, ?_⟩
  rcases h with h | ⟨ad, rfl, h⟩
  · exact .inl h
  · exact .inr ⟨ad, rfl, fun j u hj => (hb.cell (cell_lt (h j u hj))).trans (h j u hj)⟩
theorem add_zero4 (b o j : Nat) : ((⟨b, o, none⟩ : Addr).add j) = ⟨b, o + j, none⟩ := by unfold Addr.add; split <;> simp_all
theorem OT.pt {w : World} {base : Nat} {v : Value} {xs : List T4} (h : OT w base v xs) : PT w v xs := by
  rcases h.2 with ⟨rfl, h0⟩ | ⟨g, cap, cur, rfl, _⟩
  · exact ⟨none, 0, by rw [h0], .inl (List.length_eq_zero_iff.1 h0)⟩
  · exact ⟨_, cap, rfl, .inr ⟨_, rfl, World.ownsRow.cells h rfl⟩⟩
theorem RT.pt {w : World} {v : Value} {xs : List T4} (h : RT w v xs) : PT w v xs := by
  obtain ⟨hl, ao, cap, rfl, h⟩ := h
  refine ⟨ao, cap, rfl, ?_⟩
  rcases h with h | ⟨g, rfl, h⟩
  · exact .inl h
  · refine .inr ⟨_, rfl, fun j u hj => ?_⟩
    have hlt : j < xs.length * 4 := by rw [← tcells_len]; exact (List.getElem?_eq_some_iff.1 hj).1
    obtain ⟨k, r, hr, rfl⟩ : ∃ k r, r < 4 ∧ j = k * 4 + r := ⟨j / 4, j % 4, by omega, by omega⟩
    have hk : k < xs.length := by omega
    rw [tcells_get xs k r hk hr] at hj
    obtain ⟨c0, c1, c2, c3⟩ := h k hk
    rw [add_zero4, Nat.zero_add]
    match r, hr with
    | 0, _ => exact c0.trans hj
    | 1, _ => exact c1.trans hj
    | 2, _ => exact c2.trans hj
    | 3, _ => exact c3.trans hj
theorem tcells_take (xs : List T4) (k j : Nat) (u : Value) (h : (tcells (xs.take k))[j]? = some u) : (tcells xs)[j]? = some u := by
  have e : tcells xs = tcells (xs.take k) ++ tcells (xs.drop k) := by rw [← tcells_append, List.take_append_drop]
  rw [e, List.getElem?_append_left (List.getElem?_eq_some_iff.1 h).1]
  exact h
theorem tcells_drop (xs : List T4) (k j : Nat) (u : Value) (hk : k ≤ xs.length) (h : (tcells (xs.drop k))[j]? = some u) : (tcells xs)[k * 4 + j]? = some u := by
  have e : tcells xs = tcells (xs.take k) ++ tcells (xs.drop k) := by rw [← tcells_append, List.take_append_drop]
  have hl : (tcells (xs.take k)).length = k * 4 := by rw [tcells_len, List.length_take]; omega
  rw [e, List.getElem?_append_right (by omega), hl, show k * 4 + j - k * 4 = j from by omega]
  exact h
/-- The first k. -/
theorem PT.take {w : World} {ao : Option Addr} {n cap : Nat} {xs : List T4} (h : PT w (.slice ao n cap) xs) (k : Nat) (hk : k ≤ n) (cap' : Nat) : PT w (.slice ao k cap') (xs.take k) := by
  obtain ⟨ao', cap2, e, h⟩ := h
  cases e
  refine ⟨ao, cap', by rw [List.length_take]; congr 1; omega, ?_⟩
  rcases h with rfl | ⟨ad, rfl, h⟩
  · left; simp
  · exact .inr ⟨ad, rfl, fun j u hj => h j u (tcells_take _ _ _ _ hj)⟩
/-- All but the first k. -/
theorem PT.drop {w : World} {ao : Option Addr} {n cap : Nat} {xs : List T4} (h : PT w (.slice ao n cap) xs) (k : Nat) (hk : k ≤ n) (cap' : Nat) {bo : Option Addr} (hb : k < n → bo = ao.map (·.add (k * 4))) : PT w (.slice bo (n - k) cap') (xs.drop k) := by
  obtain ⟨ao', cap2, e, h⟩ := h
  cases e
  refine ⟨bo, cap', by rw [List.length_drop], ?_⟩
  by_cases hlt : k < xs.length
  · rcases h with rfl | ⟨ad, rfl, h⟩
    · simp at hlt
    · refine .inr ⟨ad.add (k * 4), hb hlt, fun j u hj => ?_⟩
      have := h _ u (tcells_drop xs k j u hk hj)
      rw [← this]
      congr 1
      obtain ⟨b, o, s⟩ := ad
      unfold Addr.add
      split <;> split <;> simp_all <;> omega
  · left; rw [List.drop_of_length_le (by omega)]
theorem four_plains (xs : List T4) (u : Value) (h : u ∈ tcells xs) : u.oneCell' = true := by
  obtain ⟨x, _, hx⟩ := List.mem_flatMap.1 h
  simp [tcell] at hx; rcases hx with rfl | rfl | rfl | rfl <;> rfl
theorem run_append_nothing4 (ty : TypeId) (base cap : Nat) (v : Value) (n : Nat) (xs : List Value) (w : World) (hown : w.ownsRow base 26 4 v n xs) :
    (Builtin.append_ #[24, 24] ty #[v, .slice none 0 cap]).run Tryd.prog w = .ok v w := by
  obtain ⟨i0, hi, hz0, hz1, hz2⟩ := info_parts Tryd.infoTx
  rcases hown.2 with ⟨rfl, rfl⟩ | ⟨g, cp, cur, rfl, _, _, hnc, _⟩
  · simp [Builtin.append_, run_underlying Tryd.underlying24, sizeOf, typeInfo, hi, Builtin.lenOf, Builtin.firstCells]
  · simp [Builtin.append_, run_underlying Tryd.underlying24, sizeOf, typeInfo, hi, Builtin.lenOf, Builtin.firstCells, hnc, storeCells]
/-- An append of a piece onto what is owned. -/
theorem append_piece {ops : Array Oper} {rest : List Oper} {o : Oper} {a : Act} {Q : Exit → Act → World → Prop} {w : World} (hgd : o.guard = none) (s x : Operand)
    (ho : o.op = .call { callee := .builtin .append, args := #[s, x], argTypes := #[24, 24] }) (base : Nat) (v u : Value) (xs ys : List T4) (hs : a.eval s = v) (hx : a.eval x = u)
    (hown : OT w base v xs) (hp : PT w u ys) (hl : xs.length + ys.length ≤ 4194304) (hbase : base ≤ w.heap.size)
    (h : ∀ v' w', OT w' base v' (xs ++ ys) → w.grownBy w' v.ownBlock → (v'.ownBlock = v.ownBlock ∨ v'.ownBlock = some w.heap.size) → wpList Tryd.prog ops Q rest (a.put o.dst v') w') :
    wpList Tryd.prog ops Q (o :: rest) a w := by
  obtain ⟨i0, hi, hz0, hz1, hz2⟩ := info_parts Tryd.infoTx
  obtain ⟨ao, cap, rfl, hp⟩ := hp
  match ao, hx with
  | none, hx =>
    have hy : ys = [] := by rcases hp with h | ⟨ad, e, _⟩; exact h; cases e
    subst hy
    refine wpList_plain hgd fun K hK => ?_
    have hrun := run_append_nothing4 o.type base cap v xs.length (tcells xs) w hown
    unfold Oper.wp
    simp only [List.length_nil] at hx
    simp [execOp, ho, resolve, invoke, builtin, hs, hx, hrun, Result.andThen]
    exact hK _ _ (h v w (by simpa using hown) (grown_refl _ _) (.inl rfl))
  | some ad, hx =>
    have hn : ∀ j u, (tcells ys)[j]? = some u → w.cell? (ad.add j) = some u := by
      rcases hp with rfl | ⟨ad', e, h⟩
      · intro j u hj; simp [tcells] at hj
      · cases e; exact h
    refine wpList_append_own_at _ hgd s x 24 ho base 26 i0 (txv 0 0 0 0) 4 32 Tryd.underlying24 hi hz0 hz1 hz2 rfl (by decide) v xs.length (tcells xs) hs hown ad ys.length cap (tcells ys) hx (tcells_len ys) hn (four_plains ys) (by unfold maxLen; omega) (by omega) hbase ?_
    intro v' w' ho' hg' _ hb'
    refine h v' w' ?_ hg' hb'
    unfold OT
    rw [tcells_append, List.length_append]
    exact ho'
end Go.Proofs.YthdehhenkgkkmaaDoor

/- slices.Grow of nothing, slices.Concat of three pieces. -/
namespace Go.Proofs.YthdehhenkgkkmaaDoor
open Go.RowKit
set_option linter.unusedSectionVars false
variable [∀ (a b c d : Int), Decidable (Ok4 a b c d)]
variable [∀ (m a b c d : Int), Decidable (In4 m a b c d)]
variable [∀ (xs ys : List Int), Decidable (LOk xs ys)]
variable [∀ (x y : T4), Decidable (Bef x y)]
variable [∀ (ts : List T4), Decidable (Asc ts)]
variable [∀ (ts : List T4), Decidable (AllOk ts)]
variable [∀ (ts : List T4), Decidable (POk ts)]

set_option maxHeartbeats 1600000 in
set_option maxRecDepth 100000 in
theorem grow_nil (n : Nat) (w : World) (hn : 0 < n) (hl : n ≤ 4194304) :
    Calls Tryd.prog 65 #[.slice none 0 0, .int .i64 n] w fun e w' => ∃ v, e = .returned v ∧ OT w' w.heap.size v [] ∧ Below w.heap.size w w' := by
  obtain ⟨i0, hi, hz0, hz1, hz2⟩ := info_parts Tryd.infoTx
  have hold : (Builtin.firstCells i0.size 0 (.slice none 0 0)).run Tryd.prog w.drew = .ok ([] : List Value).toArray w.drew := run_firstCells_none w.drew i0.size 0 0 0
  have hrz : ∀ ty, (Builtin.append_ #[24, 3] ty #[.slice none 0 0, .int .i64 (n : Int)]).run Tryd.prog w =
      .ok (.slice (some ⟨w.heap.size, 0, none⟩) (0 + n) (grownCap w (0 + n) 0 26)) (w.drew.alloc (.cells (([] : List Value).toArray ++ Builtin.zeroCells (txv 0 0 0 0).cells n ++ Builtin.zeroCells (txv 0 0 0 0).cells (grownCap w (0 + n) 0 26 - (0 + n))) 26)) := fun ty =>
    Lib.run_append_grow_zeros w 24 3 ty 26 i0 (txv 0 0 0 0) .i64 .i64 Tryd.underlying24 Tryd.underlying3 hi hz0 none 0 0 [] hold n hn (by rw [hz1]; decide) (by omega) (by omega)
      (by rw [hz2]; omega) (growslice_fits (by omega) (by rw [hz2]; omega))
  have hG : 0 + n ≤ grownCap w (0 + n) 0 26 := grownCap_ge w _ _ _
  have hG63 : grownCap w (0 + n) 0 26 ≤ maxLen := grownCap_le_maxLen w (0 + n) 0 _ (by unfold maxLen; omega)
  generalize grownCap w (0 + n) 0 26 = G at *
  have hcs : (([] : List Value).toArray ++ Builtin.zeroCells (txv 0 0 0 0).cells n ++ Builtin.zeroCells (txv 0 0 0 0).cells (G - (0 + n))).size = G * 4 := by
    have e4 : (txv 0 0 0 0).cells.size = 4 := rfl
    simp [Builtin.zeroCells, e4]
    omega
  generalize ([] : List Value).toArray ++ Builtin.zeroCells (txv 0 0 0 0).cells n ++ Builtin.zeroCells (txv 0 0 0 0).cells (G - (0 + n)) = cs at *
  have HO : Hid (OT (w.drew.alloc (.cells cs 26)) w.heap.size (.slice (some ⟨w.heap.size, 0, none⟩) 0 G) []) := hide (World.ownsRow_made w.drew cs G (Nat.le_refl _) hG63 hcs)
  rw [Nat.zero_add] at hrz hG
  have h2 : ¬ ((n : Int) < 0) := by omega
  have hG64 : G ≤ 9223372036854775807 := by unfold maxLen at hG63; omega
  clear hold hcs hG63
  go_enter Tryd.func65, Tryd.ntmps65
  go_wp2_with (at_builtin; refine Lib.wpList_append_run _ rfl _ _ _ _ rfl _ _ rfl rfl _ _ (hrz _) ?_)
  go_ret
  exact ⟨_, rfl, unhide HO, (Below.drew (Below.refl _ _)).alloc (Nat.le_refl _) _⟩
set_option maxHeartbeats 4000000 in
set_option maxRecDepth 100000 in
theorem concat3 (g : Nat) (v1 v2 v3 : Value) (xs ys zs : List T4) (w : World) (h0 : w.cell? ⟨g, 0, none⟩ = some v1) (h1 : w.cell? ⟨g, 1, none⟩ = some v2) (h2 : w.cell? ⟨g, 2, none⟩ = some v3)
    (p1 : PT w v1 xs) (p2 : PT w v2 ys) (p3 : PT w v3 zs) (hy : 0 < ys.length) (hl : xs.length + ys.length + zs.length ≤ 4194304) :
    Calls Tryd.prog 49 #[.slice (some ⟨g, 0, none⟩) 3 3] w fun e w' => ∃ v, e = .returned v ∧ OT w' w.heap.size v (xs ++ ys ++ zs) ∧ Below w.heap.size w w' := by
  have P1 := hide p1
  have P2 := hide p2
  have P3 := hide p3
  have GR := hide fun w => grow_nil (xs.length + ys.length + zs.length) w (by omega) hl
  have lg : g < w.heap.size := cell_lt h0
  obtain ⟨a1, k1, rfl, _⟩ := p1
  obtain ⟨a2, k2, rfl, _⟩ := p2
  obtain ⟨a3, k3, rfl, _⟩ := p3
  have e1 : IntKind.i64.wrap ((xs.length : Int) + (ys.length : Int)) = (xs.length : Int) + (ys.length : Int) := by rw [IntKind.wrap_i64]; omega
  have e2 : IntKind.i64.wrap ((xs.length : Int) + (ys.length : Int) + (zs.length : Int)) = ((xs.length + ys.length + zs.length : Nat) : Int) := by rw [IntKind.wrap_i64]; omega
  have n1 : ¬ ((xs.length : Int) + (ys.length : Int) < 0) := by omega
  obtain ⟨n, hn⟩ : ∃ n, xs.length + ys.length + zs.length = n := ⟨_, rfl⟩
  rw [hn] at GR e2
  have n2 : ¬ ((n : Int) < 0) := by omega
  go_enter Tryd.func49, Tryd.ntmps49
  go_wp2
  refine wp_loop_rounds 4 ?_
  rw [rounds_succ]
  go_wp2
  rw [rounds_succ]
  go_wp2
  rw [rounds_succ]
  go_wp2
  rw [rounds_succ]
  go_wp2_with fail
  refine (unhide GR _).mono ?_
  rintro _ w0 ⟨v0, rfl, o0, b0⟩
  have HO0 := hide o0
  have HB0 := hide b0
  have c0 := b0.cell (p := ⟨g, 0, none⟩) lg
  have c1 := b0.cell (p := ⟨g, 1, none⟩) lg
  have c2 := b0.cell (p := ⟨g, 2, none⟩) lg
  rw [h0] at c0
  rw [h1] at c1
  rw [h2] at c2
  clear o0 b0
  go_wp2
  refine wp_loop_rounds 4 ?_
  rw [rounds_succ]
  go_wp2_with (first | (at_builtin; refine append_piece rfl _ _ rfl w.heap.size v0 (.slice a1 xs.length k1) [] xs rfl rfl (unhide HO0) ((unhide P1).below (unhide HB0)) (by simp; omega) (unhide HB0).size ?_; intro v1 w1 ho1 hg1 _; have HO1 := hide ho1; have HB1 := hide ((unhide HB0).grown hg1 (unhide HB0).size (fun j hj => ((unhide HO0).lt j hj).1)); have c0 := (unhide HB1).cell (p := ⟨g, 0, none⟩) lg; have c1 := (unhide HB1).cell (p := ⟨g, 1, none⟩) lg; have c2 := (unhide HB1).cell (p := ⟨g, 2, none⟩) lg; rw [h0] at c0; rw [h1] at c1; rw [h2] at c2; clear ho1 hg1))
  rw [rounds_succ]
  go_wp2_with (first | (at_builtin; refine append_piece rfl _ _ rfl w.heap.size v1 (.slice a2 ys.length k2) ([] ++ xs) ys rfl rfl (unhide HO1) ((unhide P2).below (unhide HB1)) (by simp; omega) (unhide HB1).size ?_; intro v2 w2 ho2 hg2 _; have HO2 := hide ho2; have HB2 := hide ((unhide HB1).grown hg2 (unhide HB1).size (fun j hj => ((unhide HO1).lt j hj).1)); have c0 := (unhide HB2).cell (p := ⟨g, 0, none⟩) lg; have c1 := (unhide HB2).cell (p := ⟨g, 1, none⟩) lg; have c2 := (unhide HB2).cell (p := ⟨g, 2, none⟩) lg; rw [h0] at c0; rw [h1] at c1; rw [h2] at c2; clear ho2 hg2))
  rw [rounds_succ]
  go_wp2_with (first | (at_builtin; refine append_piece rfl _ _ rfl w.heap.size v2 (.slice a3 zs.length k3) ([] ++ xs ++ ys) zs rfl rfl (unhide HO2) ((unhide P3).below (unhide HB2)) (by simp; omega) (unhide HB2).size ?_; intro v3 w3 ho3 hg3 _; have HO3 := hide ho3; have HB3 := hide ((unhide HB2).grown hg3 (unhide HB2).size (fun j hj => ((unhide HO2).lt j hj).1)); have c0 := (unhide HB3).cell (p := ⟨g, 0, none⟩) lg; have c1 := (unhide HB3).cell (p := ⟨g, 1, none⟩) lg; have c2 := (unhide HB3).cell (p := ⟨g, 2, none⟩) lg; rw [h0] at c0; rw [h1] at c1; rw [h2] at c2; clear ho3 hg3))
  rw [rounds_succ]
  go_wp2
  go_ret
  exact ⟨_, rfl, unhide HO3, unhide HB3⟩
end Go.Proofs.YthdehhenkgkkmaaDoor

/- slices.BinarySearchFunc by impl.compareTx. -/
namespace Go.Proofs.YthdehhenkgkkmaaDoor
open Go.RowKit
set_option linter.unusedSectionVars false
variable [∀ (a b c d : Int), Decidable (Ok4 a b c d)]
variable [∀ (m a b c d : Int), Decidable (In4 m a b c d)]
variable [∀ (xs ys : List Int), Decidable (LOk xs ys)]
variable [∀ (x y : T4), Decidable (Bef x y)]
variable [∀ (ts : List T4), Decidable (Asc ts)]
variable [∀ (ts : List T4), Decidable (AllOk ts)]
variable [∀ (ts : List T4), Decidable (POk ts)]

set_option maxHeartbeats 4000000 in
set_option maxRecDepth 100000 in
theorem search_any (v : Value) (ts : List T4) (x : T4) (w : World) (h : RT w v ts) :
    Calls Tryd.prog 48 #[v, txv x.1 x.2.1 x.2.2.1 x.2.2.2, .func (.func 47) #[] #[]] w fun e w' => ∃ (k : Nat) (b : Bool), e = .returned (.tuple #[.int .i64 k, .bool b]) ∧ Place ts x k ∧ Below w.heap.size w w' := by
  obtain ⟨ao, ca, rfl⟩ := h.form
  have hl := h.1
  have H := hide h
  obtain ⟨n, hn⟩ : ∃ n, ts.length = n := ⟨_, rfl⟩
  have Hn := hide hn
  have HP : Hid (∀ k, k ≤ n → (∀ i, k = i + 1 → Bef (ts.getD i z4) x) → (k < n → ¬ Bef (ts.getD k z4) x) → Place ts x k) := hide fun k h0 h1 h2 => ⟨by omega, h1, fun h => h2 (by omega)⟩
  rw [hn] at hl H ⊢
  clear h hn
  have CX := hide fun y w => compareTx_any y x w
  have CL := hide fun y => cmpT_lt y x
  obtain ⟨xx, hxx⟩ : ∃ xx, x = xx := ⟨_, rfl⟩
  obtain ⟨xa, xb, xc, xd⟩ := xx
  have e1 : x.1 = xa := by rw [hxx]
  have e2 : x.2.1 = xb := by rw [hxx]
  have e3 : x.2.2.1 = xc := by rw [hxx]
  have e4 : x.2.2.2 = xd := by rw [hxx]
  rw [e1, e2, e3, e4] at CX ⊢
  clear hxx e1 e2 e3 e4
  obtain ⟨w0, hw0⟩ : ∃ w0, w.alloc (.cells (r4 xa xb xc xd) 26) = w0 := ⟨_, rfl⟩
  have B0 : Below w.heap.size w w0 := hw0 ▸ (Below.refl _ _).alloc (Nat.le_refl _) _
  have L0 : Loc w0 w.heap.size (r4 xa xb xc xd) := hw0 ▸ loc_at w _ _ rfl
  go_enter Tryd.func48, Tryd.ntmps48
  go_wp2
  clear hw0
  go_loopw [9, 10] (fun i j wr => ∃ lo hi : Nat, lo ≤ hi ∧ hi ≤ n ∧ i = .int .i64 lo ∧ j = .int .i64 hi ∧ Hid (∀ p, lo = p + 1 → Bef (ts.getD p z4) x) ∧ Hid (hi < n → ¬ Bef (ts.getD hi z4) x) ∧ Loc wr w.heap.size (r4 xa xb xc xd) ∧ Below w.heap.size w wr) (fun i j _ => (intOf j).toNat - (intOf i).toNat)
  case atStart => exact ⟨0, n, Nat.zero_le _, Nat.le_refl _, by go_num, rfl, hide (fun p hp => by omega), hide (fun h => absurd h (Nat.lt_irrefl n)), L0, B0⟩
  case round =>
    clear L0 B0
    obtain ⟨lo, hi, hlh, hhn, rfl, rfl, H1, H2, L, br⟩ := hrel
    have bA : Below wr.heap.size wr wr.drew := Below.drew (Below.refl _ _)
    by_cases hlt : lo < hi
    · obtain ⟨m, hm⟩ : ∃ m, (lo + hi) / 2 = m := ⟨_, rfl⟩
      have hm1 : lo ≤ m := by omega
      have hm2 : m < hi := by omega
      have hmn : m < n := by omega
      have em : ((lo : Int) + (hi : Int)) / 2 = (m : Int) := by omega
      have hwm : IntKind.i64.wrap (m : Int) = (m : Int) := by rw [IntKind.wrap_i64]; omega
      replace hm := hide hm
      obtain ⟨g, rfl, hy⟩ := (unhide H).at m (by rw [unhide Hn]; exact hmn)
      have CY := hide (hy.below br (Nat.le_refl _))
      have CT := hide (unhide CX (ts.getD m z4))
      have hcm := hide (unhide CL (ts.getD m z4))
      obtain ⟨y, hy0⟩ : ∃ y, ts.getD m z4 = y := ⟨_, rfl⟩
      have HM1 : Hid (Bef y x → ∀ p, m + 1 = p + 1 → Bef (ts.getD p z4) x) := hide fun h p hp => by rw [show p = m from by omega, hy0]; exact h
      have HM2 : Hid (¬ Bef y x → m < n → ¬ Bef (ts.getD m z4) x) := hide fun h _ => by rw [hy0]; exact h
      rw [hy0] at CY CT hcm
      clear hy0
      generalize cmpT y x = q at *
      obtain ⟨ya, yb, yc, yd⟩ := y
      dsimp only at CT
      have K : Hid (∀ w', Below wr.heap.size wr w' → (w'.cell? ⟨g, m * 4, none⟩ = some (.int .i64 ya) ∧ w'.cell? ⟨g, m * 4 + 1, none⟩ = some (.int .i64 yb) ∧ w'.cell? ⟨g, m * 4 + 2, none⟩ = some (.int .i64 yc) ∧ w'.cell? ⟨g, m * 4 + 3, none⟩ = some (.int .i64 yd)) ∧ (w'.cell? ⟨w.heap.size, 0, none⟩ = some (.int .i64 xa) ∧ w'.cell? ⟨w.heap.size, 1, none⟩ = some (.int .i64 xb) ∧ w'.cell? ⟨w.heap.size, 2, none⟩ = some (.int .i64 xc) ∧ w'.cell? ⟨w.heap.size, 3, none⟩ = some (.int .i64 xd))) := hide fun w' hb => by
        have l := L.below hb L.lt
        exact ⟨(unhide CY).below hb (Nat.le_refl _), l.cells4⟩
      clear CY hy
      go_wp2_with fail
      refine wp_region_noPanic ?_
      refine wp_region_held_drew (S := (fun w' => (w'.cell? ⟨g, m * 4, none⟩ = some (.int .i64 ya) ∧ w'.cell? ⟨g, m * 4 + 1, none⟩ = some (.int .i64 yb) ∧ w'.cell? ⟨g, m * 4 + 2, none⟩ = some (.int .i64 yc) ∧ w'.cell? ⟨g, m * 4 + 3, none⟩ = some (.int .i64 yd)) ∧ (w'.cell? ⟨w.heap.size, 0, none⟩ = some (.int .i64 xa) ∧ w'.cell? ⟨w.heap.size, 1, none⟩ = some (.int .i64 xb) ∧ w'.cell? ⟨w.heap.size, 2, none⟩ = some (.int .i64 xc) ∧ w'.cell? ⟨w.heap.size, 3, none⟩ = some (.int .i64 xd)))) (by kernel_rfl) (unhide K _ bA) (fun hHeld => ?_)
      refine take_at (i := 0) (d := 24) (v := ?_) rfl rfl (by kernel_rfl) (by kernel_rfl) (by kernel_rfl) (fun _ _ _ h => h) (Or.inl ⟨by rfl, ?_⟩) (by assumption) ?_
      rotate_left
      · intro w hSw
        try dsimp only at hSw
        go_simp
        try with_reducible rfl
      simp only [Act.put, List.setIfInBounds_toArray, List.set_cons_zero, List.set_cons_succ]
      refine take_at (i := 1) (d := 25) (v := ?_) rfl rfl (by kernel_rfl) (by kernel_rfl) (by kernel_rfl) (fun _ _ _ h => h) (Or.inl ⟨by rfl, ?_⟩) (by assumption) ?_
      rotate_left
      · intro w hSw
        try dsimp only at hSw
        go_simp
        try with_reducible rfl
      simp only [Act.put, List.setIfInBounds_toArray, List.set_cons_zero, List.set_cons_succ]
      refine take_at (i := 2) (d := 26) (v := ?_) rfl rfl (by kernel_rfl) (by kernel_rfl) (by kernel_rfl) (fun _ _ _ h => h) (Or.inl ⟨by rfl, ?_⟩) (by assumption) ?_
      rotate_left
      · intro w hSw
        try dsimp only at hSw
        go_simp
        try with_reducible rfl
      simp only [Act.put, List.setIfInBounds_toArray, List.set_cons_zero, List.set_cons_succ]
      refine take_at (i := 3) (d := 27) (v := ?_) rfl rfl (by kernel_rfl) (by kernel_rfl) (by kernel_rfl) (fun _ _ _ h => h) (Or.inl ⟨by rfl, ?_⟩) (by assumption) ?_
      rotate_left
      · intro w hSw
        try dsimp only at hSw
        go_simp
        try with_reducible rfl
      simp only [Act.put, List.setIfInBounds_toArray, List.set_cons_zero, List.set_cons_succ]
      refine take_at (i := 4) (d := 28) (v := ?_) rfl rfl (by kernel_rfl) (by kernel_rfl) (by kernel_rfl) (fun _ _ _ h => h) (Or.inl ⟨by rfl, ?_⟩) (by assumption) ?_
      rotate_left
      · intro w hSw
        try dsimp only at hSw
        go_simp
        try with_reducible rfl
      simp only [Act.put, List.setIfInBounds_toArray, List.set_cons_zero, List.set_cons_succ]
      refine take_at (i := 5) (d := 29) (v := ?_) rfl rfl (by kernel_rfl) (by kernel_rfl) (by kernel_rfl) (fun _ _ _ h => h) (Or.inl ⟨by rfl, ?_⟩) (by assumption) ?_
      rotate_left
      · intro w hSw
        try dsimp only at hSw
        go_simp
        try with_reducible rfl
      simp only [Act.put, List.setIfInBounds_toArray, List.set_cons_zero, List.set_cons_succ]
      refine ready_at (i := 6) rfl (by kernel_rfl) (fun KK hKK => ?_)
      go_simp
      refine (unhide CT _).mono ?_
      rintro _ wa ⟨rfl, ba⟩
      have bB : Below wr.heap.size wr wa := bA.trans ba
      clear hHeld
      refine hKK.out _ _ (unhide K _ bB) (fun hHeld => ?_)
      clear hKK KK
      refine take_at (i := 7) (d := 31) (v := ?_) rfl rfl (by kernel_rfl) (by kernel_rfl) (by kernel_rfl) (fun _ _ _ h => h) (Or.inl ⟨by rfl, ?_⟩) (by assumption) ?_
      rotate_left
      · intro w hSw
        try dsimp only at hSw
        go_simp
        try with_reducible rfl
      simp only [Act.put, List.setIfInBounds_toArray, List.set_cons_zero, List.set_cons_succ]
      clear hHeld
      refine wpAnyH_done (by kernel_rfl) ?_ _
      refine NoPanic.normal ?_
      have LB := L.below bB L.lt
      have BB := br.trans (bB.mono br.size)
      by_cases hq : q < 0
      · have HM := hide (unhide HM1 ((unhide hcm).1 hq))
        clear HM1 HM2 hcm
        go_wp2
        go_roundw
        case rel => exact ⟨m + 1, hi, by omega, by omega, by go_num, rfl, HM, H2, LB, BB⟩
        case measure => simp [intOf]; omega
      · have HM := hide (unhide HM2 (fun h => hq ((unhide hcm).2 h)))
        clear HM1 HM2 hcm
        go_wp2
        go_roundw
        case rel => exact ⟨lo, m, by omega, by omega, rfl, rfl, H1, HM, LB, BB⟩
        case measure => simp [intOf]; omega
    · obtain rfl : lo = hi := by omega
      have HQ := hide (unhide HP lo hhn (unhide H1) (unhide H2))
      by_cases hn : lo < n
      · obtain ⟨g, rfl, hy⟩ := (unhide H).at lo (by rw [unhide Hn]; exact hn)
        have CY := hide (hy.below br (Nat.le_refl _))
        have CT := hide (unhide CX (ts.getD lo z4))
        have hqi := cmpT_in (ts.getD lo z4) x
        clear H1 H2 HP CL CX
        generalize cmpT (ts.getD lo z4) x = q at *
        generalize ts.getD lo z4 = y at *
        obtain ⟨ya, yb, yc, yd⟩ := y
        dsimp only at CT
        have K : Hid (∀ w', Below wr.heap.size wr w' → (w'.cell? ⟨g, lo * 4, none⟩ = some (.int .i64 ya) ∧ w'.cell? ⟨g, lo * 4 + 1, none⟩ = some (.int .i64 yb) ∧ w'.cell? ⟨g, lo * 4 + 2, none⟩ = some (.int .i64 yc) ∧ w'.cell? ⟨g, lo * 4 + 3, none⟩ = some (.int .i64 yd)) ∧ (w'.cell? ⟨w.heap.size, 0, none⟩ = some (.int .i64 xa) ∧ w'.cell? ⟨w.heap.size, 1, none⟩ = some (.int .i64 xb) ∧ w'.cell? ⟨w.heap.size, 2, none⟩ = some (.int .i64 xc) ∧ w'.cell? ⟨w.heap.size, 3, none⟩ = some (.int .i64 xd))) := hide fun w' hb => by
          have l := L.below hb L.lt
          exact ⟨(unhide CY).below hb (Nat.le_refl _), l.cells4⟩
        clear CY hy
        go_wp2_with fail
        refine wp_region_noPanic ?_
        refine wp_region_held_drew (S := (fun w' => (w'.cell? ⟨g, lo * 4, none⟩ = some (.int .i64 ya) ∧ w'.cell? ⟨g, lo * 4 + 1, none⟩ = some (.int .i64 yb) ∧ w'.cell? ⟨g, lo * 4 + 2, none⟩ = some (.int .i64 yc) ∧ w'.cell? ⟨g, lo * 4 + 3, none⟩ = some (.int .i64 yd)) ∧ (w'.cell? ⟨w.heap.size, 0, none⟩ = some (.int .i64 xa) ∧ w'.cell? ⟨w.heap.size, 1, none⟩ = some (.int .i64 xb) ∧ w'.cell? ⟨w.heap.size, 2, none⟩ = some (.int .i64 xc) ∧ w'.cell? ⟨w.heap.size, 3, none⟩ = some (.int .i64 xd)))) (by kernel_rfl) (unhide K _ bA) (fun hHeld => ?_)
        refine take_at (i := 0) (d := 35) (v := ?_) rfl rfl (by kernel_rfl) (by kernel_rfl) (by kernel_rfl) (fun _ _ _ h => h) (Or.inl ⟨by rfl, ?_⟩) (by assumption) ?_
        rotate_left
        · intro w hSw
          try dsimp only at hSw
          go_simp
          try with_reducible rfl
        simp only [Act.put, List.setIfInBounds_toArray, List.set_cons_zero, List.set_cons_succ]
        refine take_at (i := 1) (d := 36) (v := ?_) rfl rfl (by kernel_rfl) (by kernel_rfl) (by kernel_rfl) (fun _ _ _ h => h) (Or.inl ⟨by rfl, ?_⟩) (by assumption) ?_
        rotate_left
        · intro w hSw
          try dsimp only at hSw
          go_simp
          try with_reducible rfl
        simp only [Act.put, List.setIfInBounds_toArray, List.set_cons_zero, List.set_cons_succ]
        refine take_at (i := 2) (d := 37) (v := ?_) rfl rfl (by kernel_rfl) (by kernel_rfl) (by kernel_rfl) (fun _ _ _ h => h) (Or.inl ⟨by rfl, ?_⟩) (by assumption) ?_
        rotate_left
        · intro w hSw
          try dsimp only at hSw
          go_simp
          try with_reducible rfl
        simp only [Act.put, List.setIfInBounds_toArray, List.set_cons_zero, List.set_cons_succ]
        refine take_at (i := 3) (d := 38) (v := ?_) rfl rfl (by kernel_rfl) (by kernel_rfl) (by kernel_rfl) (fun _ _ _ h => h) (Or.inl ⟨by rfl, ?_⟩) (by assumption) ?_
        rotate_left
        · intro w hSw
          try dsimp only at hSw
          go_simp
          try with_reducible rfl
        simp only [Act.put, List.setIfInBounds_toArray, List.set_cons_zero, List.set_cons_succ]
        refine take_at (i := 4) (d := 39) (v := ?_) rfl rfl (by kernel_rfl) (by kernel_rfl) (by kernel_rfl) (fun _ _ _ h => h) (Or.inl ⟨by rfl, ?_⟩) (by assumption) ?_
        rotate_left
        · intro w hSw
          try dsimp only at hSw
          go_simp
          try with_reducible rfl
        simp only [Act.put, List.setIfInBounds_toArray, List.set_cons_zero, List.set_cons_succ]
        refine take_at (i := 5) (d := 40) (v := ?_) rfl rfl (by kernel_rfl) (by kernel_rfl) (by kernel_rfl) (fun _ _ _ h => h) (Or.inl ⟨by rfl, ?_⟩) (by assumption) ?_
        rotate_left
        · intro w hSw
          try dsimp only at hSw
          go_simp
          try with_reducible rfl
        simp only [Act.put, List.setIfInBounds_toArray, List.set_cons_zero, List.set_cons_succ]
        refine take_at (i := 6) (d := 41) (v := ?_) rfl rfl (by kernel_rfl) (by kernel_rfl) (by kernel_rfl) (fun _ _ _ h => h) (Or.inl ⟨by rfl, ?_⟩) (by assumption) ?_
        rotate_left
        · intro w hSw
          try dsimp only at hSw
          go_simp
          try with_reducible rfl
        simp only [Act.put, List.setIfInBounds_toArray, List.set_cons_zero, List.set_cons_succ]
        refine take_at (i := 7) (d := 42) (v := ?_) rfl rfl (by kernel_rfl) (by kernel_rfl) (by kernel_rfl) (fun _ _ _ h => h) (Or.inl ⟨by rfl, ?_⟩) (by assumption) ?_
        rotate_left
        · intro w hSw
          try dsimp only at hSw
          go_simp
          try with_reducible rfl
        simp only [Act.put, List.setIfInBounds_toArray, List.set_cons_zero, List.set_cons_succ]
        refine take_at (i := 8) (d := 43) (v := ?_) rfl rfl (by kernel_rfl) (by kernel_rfl) (by kernel_rfl) (fun _ _ _ h => h) (Or.inl ⟨by rfl, ?_⟩) (by assumption) ?_
        rotate_left
        · intro w hSw
          try dsimp only at hSw
          go_simp
          try with_reducible rfl
        simp only [Act.put, List.setIfInBounds_toArray, List.set_cons_zero, List.set_cons_succ]
        refine take_at (i := 9) (d := 44) (v := ?_) rfl rfl (by kernel_rfl) (by kernel_rfl) (by kernel_rfl) (fun _ _ _ h => h) (Or.inl ⟨by rfl, ?_⟩) (by assumption) ?_
        rotate_left
        · intro w hSw
          try dsimp only at hSw
          go_simp
          try with_reducible rfl
        simp only [Act.put, List.setIfInBounds_toArray, List.set_cons_zero, List.set_cons_succ]
        refine take_at (i := 10) (d := 45) (v := ?_) rfl rfl (by kernel_rfl) (by kernel_rfl) (by kernel_rfl) (fun _ _ _ h => h) (Or.inl ⟨by rfl, ?_⟩) (by assumption) ?_
        rotate_left
        · intro w hSw
          try dsimp only at hSw
          go_simp
          try with_reducible rfl
        simp only [Act.put, List.setIfInBounds_toArray, List.set_cons_zero, List.set_cons_succ]
        refine ready_at (i := 11) rfl (by kernel_rfl) (fun KK hKK => ?_)
        go_simp
        refine (unhide CT _).mono ?_
        rintro _ wa ⟨rfl, ba⟩
        have bB : Below wr.heap.size wr wa := bA.trans ba
        clear hHeld
        refine hKK.out _ _ (unhide K _ bB) (fun hHeld => ?_)
        clear hKK KK
        refine take_at (i := 12) (d := 47) (v := ?_) rfl rfl (by kernel_rfl) (by kernel_rfl) (by kernel_rfl) (fun _ _ _ h => h) (Or.inl ⟨by rfl, ?_⟩) (by assumption) ?_
        rotate_left
        · intro w hSw
          try dsimp only at hSw
          go_simp
          try with_reducible rfl
        simp only [Act.put, List.setIfInBounds_toArray, List.set_cons_zero, List.set_cons_succ]
        refine take_at (i := 13) (d := 48) (v := ?_) rfl rfl (by kernel_rfl) (by kernel_rfl) (by kernel_rfl) (fun _ _ _ h => h) (Or.inl ⟨by rfl, ?_⟩) (by assumption) ?_
        rotate_left
        · intro w hSw
          try dsimp only at hSw
          go_simp
          try with_reducible rfl
        simp only [Act.put, List.setIfInBounds_toArray, List.set_cons_zero, List.set_cons_succ]
        refine take_at (i := 14) (d := 6) (v := ?_) rfl rfl (by kernel_rfl) (by kernel_rfl) (by kernel_rfl) (fun _ _ _ h => h) (Or.inl ⟨by rfl, ?_⟩) (by assumption) ?_
        rotate_left
        · intro w hSw
          try dsimp only at hSw
          go_simp
          try with_reducible rfl
        simp only [Act.put, List.setIfInBounds_toArray, List.set_cons_zero, List.set_cons_succ]
        refine take_at (i := 15) (d := 7) (v := ?_) rfl rfl (by kernel_rfl) (by kernel_rfl) (by kernel_rfl) (fun _ _ _ h => h) (Or.inl ⟨by rfl, ?_⟩) (by assumption) ?_
        rotate_left
        · intro w hSw
          try dsimp only at hSw
          go_simp
          try with_reducible rfl
        simp only [Act.put, List.setIfInBounds_toArray, List.set_cons_zero, List.set_cons_succ]
        clear hHeld
        refine wpAnyH_done (by kernel_rfl) ?_ _
        refine NoPanic.normal ?_
        have BB := br.trans (bB.mono br.size)
        go_wp2
        go_ret2
        exact ⟨lo, _, rfl, unhide HQ, BB⟩
      · have K : Hid (∀ w', Below wr.heap.size wr w' → (w'.cell? ⟨w.heap.size, 0, none⟩ = some (.int .i64 xa) ∧ w'.cell? ⟨w.heap.size, 1, none⟩ = some (.int .i64 xb) ∧ w'.cell? ⟨w.heap.size, 2, none⟩ = some (.int .i64 xc) ∧ w'.cell? ⟨w.heap.size, 3, none⟩ = some (.int .i64 xd))) := hide fun w' hb => by
          have l := L.below hb L.lt
          exact l.cells4
        have hnd : decide ((lo : Int) < (n : Int)) = false := by simp; omega
        clear H1 H2 HP CL CX
        go_wp2_with fail
        refine wp_region_noPanic ?_
        refine wp_region_held_drew (S := (fun w' => (w'.cell? ⟨w.heap.size, 0, none⟩ = some (.int .i64 xa) ∧ w'.cell? ⟨w.heap.size, 1, none⟩ = some (.int .i64 xb) ∧ w'.cell? ⟨w.heap.size, 2, none⟩ = some (.int .i64 xc) ∧ w'.cell? ⟨w.heap.size, 3, none⟩ = some (.int .i64 xd)))) (by kernel_rfl) (unhide K _ bA) (fun hHeld => ?_)
        refine take_at (i := 0) (d := 35) (v := ?_) rfl rfl (by kernel_rfl) (by kernel_rfl) (by kernel_rfl) (fun _ _ _ h => h) (Or.inl ⟨by rfl, ?_⟩) (by assumption) ?_
        rotate_left
        · intro w hSw
          try dsimp only at hSw
          go_simp
          try with_reducible rfl
        simp only [Act.put, List.setIfInBounds_toArray, List.set_cons_zero, List.set_cons_succ]
        refine take_at (i := 1) (d := 36) (v := ?_) rfl rfl (by kernel_rfl) (by kernel_rfl) (by kernel_rfl) (fun _ _ _ h => h) (Or.inl ⟨by rfl, ?_⟩) (by assumption) ?_
        rotate_left
        · intro w hSw
          try dsimp only at hSw
          go_simp
          try with_reducible rfl
        simp only [Act.put, List.setIfInBounds_toArray, List.set_cons_zero, List.set_cons_succ]
        refine take_at (i := 2) (d := 37) (v := ?_) rfl rfl (by kernel_rfl) (by kernel_rfl) (by kernel_rfl) (fun _ _ _ h => h) (Or.inl ⟨by rfl, ?_⟩) (by assumption) ?_
        rotate_left
        · intro w hSw
          try dsimp only at hSw
          go_simp
          try with_reducible rfl
        simp only [Act.put, List.setIfInBounds_toArray, List.set_cons_zero, List.set_cons_succ]
        refine take_at (i := 3) (d := 38) (v := ?_) rfl rfl (by kernel_rfl) (by kernel_rfl) (by kernel_rfl) (fun _ _ _ h => h) (Or.inl ⟨by rfl, ?_⟩) (by assumption) ?_
        rotate_left
        · intro w hSw
          try dsimp only at hSw
          go_simp
          try with_reducible rfl
        simp only [Act.put, List.setIfInBounds_toArray, List.set_cons_zero, List.set_cons_succ]
        refine take_at (i := 4) (d := 39) (v := ?_) rfl rfl (by kernel_rfl) (by kernel_rfl) (by kernel_rfl) (fun _ _ _ h => h) (Or.inl ⟨by rfl, ?_⟩) (by assumption) ?_
        rotate_left
        · intro w hSw
          try dsimp only at hSw
          go_simp
          try with_reducible rfl
        simp only [Act.put, List.setIfInBounds_toArray, List.set_cons_zero, List.set_cons_succ]
        refine take_at (i := 5) (d := 40) (v := undef) rfl rfl (by kernel_rfl) (by kernel_rfl) (by kernel_rfl) (fun _ _ _ h => h) (Or.inr ⟨by rfl, rfl⟩) (by assumption) ?_
        simp only [Act.put, List.setIfInBounds_toArray, List.set_cons_zero, List.set_cons_succ]
        refine take_at (i := 6) (d := 41) (v := undef) rfl rfl (by kernel_rfl) (by kernel_rfl) (by kernel_rfl) (fun _ _ _ h => h) (Or.inr ⟨by rfl, rfl⟩) (by assumption) ?_
        simp only [Act.put, List.setIfInBounds_toArray, List.set_cons_zero, List.set_cons_succ]
        refine take_at (i := 7) (d := 42) (v := undef) rfl rfl (by kernel_rfl) (by kernel_rfl) (by kernel_rfl) (fun _ _ _ h => h) (Or.inr ⟨by rfl, rfl⟩) (by assumption) ?_
        simp only [Act.put, List.setIfInBounds_toArray, List.set_cons_zero, List.set_cons_succ]
        refine take_at (i := 8) (d := 43) (v := undef) rfl rfl (by kernel_rfl) (by kernel_rfl) (by kernel_rfl) (fun _ _ _ h => h) (Or.inr ⟨by rfl, rfl⟩) (by assumption) ?_
        simp only [Act.put, List.setIfInBounds_toArray, List.set_cons_zero, List.set_cons_succ]
        refine take_at (i := 9) (d := 44) (v := undef) rfl rfl (by kernel_rfl) (by kernel_rfl) (by kernel_rfl) (fun _ _ _ h => h) (Or.inr ⟨by rfl, rfl⟩) (by assumption) ?_
        simp only [Act.put, List.setIfInBounds_toArray, List.set_cons_zero, List.set_cons_succ]
        refine take_at (i := 10) (d := 45) (v := undef) rfl rfl (by kernel_rfl) (by kernel_rfl) (by kernel_rfl) (fun _ _ _ h => h) (Or.inr ⟨by rfl, rfl⟩) (by assumption) ?_
        simp only [Act.put, List.setIfInBounds_toArray, List.set_cons_zero, List.set_cons_succ]
        refine take_at (i := 11) (d := 46) (v := undef) rfl rfl (by kernel_rfl) (by kernel_rfl) (by kernel_rfl) (fun _ _ _ h => h) (Or.inr ⟨by rfl, rfl⟩) (by assumption) ?_
        simp only [Act.put, List.setIfInBounds_toArray, List.set_cons_zero, List.set_cons_succ]
        refine take_at (i := 12) (d := 47) (v := undef) rfl rfl (by kernel_rfl) (by kernel_rfl) (by kernel_rfl) (fun _ _ _ h => h) (Or.inr ⟨by rfl, rfl⟩) (by assumption) ?_
        simp only [Act.put, List.setIfInBounds_toArray, List.set_cons_zero, List.set_cons_succ]
        refine take_at (i := 13) (d := 48) (v := ?_) rfl rfl (by kernel_rfl) (by kernel_rfl) (by kernel_rfl) (fun _ _ _ h => h) (Or.inl ⟨by rfl, ?_⟩) (by assumption) ?_
        rotate_left
        · intro w hSw
          try dsimp only at hSw
          go_simp
          try with_reducible rfl
        simp only [Act.put, List.setIfInBounds_toArray, List.set_cons_zero, List.set_cons_succ]
        refine take_at (i := 14) (d := 6) (v := ?_) rfl rfl (by kernel_rfl) (by kernel_rfl) (by kernel_rfl) (fun _ _ _ h => h) (Or.inl ⟨by rfl, ?_⟩) (by assumption) ?_
        rotate_left
        · intro w hSw
          try dsimp only at hSw
          go_simp
          try with_reducible rfl
        simp only [Act.put, List.setIfInBounds_toArray, List.set_cons_zero, List.set_cons_succ]
        refine take_at (i := 15) (d := 7) (v := ?_) rfl rfl (by kernel_rfl) (by kernel_rfl) (by kernel_rfl) (fun _ _ _ h => h) (Or.inl ⟨by rfl, ?_⟩) (by assumption) ?_
        rotate_left
        · intro w hSw
          try dsimp only at hSw
          go_simp
          try with_reducible rfl
        simp only [Act.put, List.setIfInBounds_toArray, List.set_cons_zero, List.set_cons_succ]
        clear hHeld
        refine wpAnyH_done (by kernel_rfl) ?_ _
        refine NoPanic.normal ?_
        go_wp2
        go_ret2
        exact ⟨lo, _, rfl, unhide HQ, br.trans (bA.mono br.size)⟩
end Go.Proofs.YthdehhenkgkkmaaDoor

/- (impl.inOrder).with, impl.PoolAdd. -/
namespace Go.Proofs.YthdehhenkgkkmaaDoor
open Go.RowKit
set_option linter.unusedSectionVars false
variable [∀ (a b c d : Int), Decidable (Ok4 a b c d)]
variable [∀ (m a b c d : Int), Decidable (In4 m a b c d)]
variable [∀ (xs ys : List Int), Decidable (LOk xs ys)]
variable [∀ (x y : T4), Decidable (Bef x y)]
variable [∀ (ts : List T4), Decidable (Asc ts)]
variable [∀ (ts : List T4), Decidable (AllOk ts)]
variable [∀ (ts : List T4), Decidable (POk ts)]

/-- A slice value within its capacity. -/
def Capped (v : Value) : Prop := ∃ ao n cap, v = .slice ao n cap ∧ n ≤ cap ∧ cap ≤ maxLen
theorem OT.capped {w : World} {base : Nat} {v : Value} {xs : List T4} (h : OT w base v xs) : Capped v := by
  rcases h.2 with ⟨rfl, _⟩ | ⟨g, cap, cur, rfl, _, _, h1, h2, _⟩
  · exact ⟨none, 0, 0, rfl, Nat.le_refl _, Nat.zero_le _⟩
  · exact ⟨_, _, cap, rfl, h1, h2⟩
theorem OT.mono {w : World} {base base' : Nat} {v : Value} {xs : List T4} (h : OT w base v xs) (hb : base' ≤ base) : OT w base' v xs := by
  refine ⟨h.1, ?_⟩
  rcases h.2 with hn | ⟨g, cap, cur, rfl, hg, rest⟩
  · exact .inl hn
  · exact .inr ⟨g, cap, cur, rfl, Nat.le_trans hb hg, rest⟩
theorem OT.form {w : World} {base : Nat} {v : Value} {xs : List T4} (h : OT w base v xs) : ∃ ao ca, v = .slice ao xs.length ca := by
  rcases h.2 with ⟨rfl, h0⟩ | ⟨g, cap, cur, rfl, _⟩
  · exact ⟨none, 0, by rw [h0]⟩
  · exact ⟨_, _, rfl⟩

theorem addr_map_zero (ao : Option Addr) : ao.map (·.add 0) = ao := by cases ao <;> rfl
set_option maxRecDepth 100000 in
theorem cut_to (ao : Option Addr) (n ca k : Nat) (w : World) (hk : k ≤ ca) :
    (Instr.slice 24 (.slice ao n ca) none (some (.int .i64 (k : Int))) none).run Tryd.prog w = .ok (.slice ao k ca) w := by
  obtain ⟨i0, hi, hz0, hz1, hz2⟩ := info_parts Tryd.infoTx
  rw [run_slice_h (ht := Tryd.underlying24) (kh := .i64) (h := (k : Int)) (h0 := by omega) (h2 := by omega)]
  have he : Tryd.prog.elem 24 = 26 := by simp [Program.elem, Tryd.underlying24]
  have hs : (sizeOf (Tryd.prog.elem 24)).run Tryd.prog w = .ok 4 w := by rw [he]; simp [sizeOf, typeInfo, hi, hz1]
  rw [hs]
  simp [sliced, Result.andThen]
  intro _; cases ao <;> rfl
set_option maxRecDepth 100000 in
theorem cut_from (ao : Option Addr) (n ca k : Nat) (w : World) (hk : k ≤ n) :
    (Instr.slice 24 (.slice ao n ca) (some (.int .i64 (k : Int))) none none).run Tryd.prog w = .ok (.slice (if ca = k then ao else ao.map (·.add (k * 4))) (n - k) (ca - k)) w := by
  obtain ⟨i0, hi, hz0, hz1, hz2⟩ := info_parts Tryd.infoTx
  rw [run_slice_l (ht := Tryd.underlying24) (kl := .i64) (l := (k : Int)) (h0 := by omega) (h1 := by omega)]
  have he : Tryd.prog.elem 24 = 26 := by simp [Program.elem, Tryd.underlying24]
  have hs : (sizeOf (Tryd.prog.elem 24)).run Tryd.prog w = .ok 4 w := by rw [he]; simp [sizeOf, typeInfo, hi, hz1]
  rw [hs]
  simp [sliced, Result.andThen]

set_option maxHeartbeats 4000000 in
set_option maxRecDepth 100000 in
theorem with_any (v : Value) (ts : List T4) (x : T4) (w : World) (h : RT w v ts) (hc : Capped v) (hl : ts.length ≤ 4000000) :
    Calls Tryd.prog 23 #[.agg #[v, .func (.func 47) #[] #[]], txv x.1 x.2.1 x.2.2.1 x.2.2.2] w fun e w' => ∃ (k : Nat) (u : Value), e = .returned u ∧ Place ts x k ∧ OT w' w.heap.size u (ins ts x k) ∧ Below w.heap.size w w' := by
  obtain ⟨ao, ca, rfl⟩ := h.form
  obtain ⟨hcn, hcm⟩ : ts.length ≤ ca ∧ ca ≤ maxLen := by obtain ⟨_, _, _, e, h1, h2⟩ := hc; cases e; exact ⟨h1, h2⟩
  unfold maxLen at hcm
  have SR := hide fun w h => search_any (.slice ao ts.length ca) ts x w h
  have H := hide h
  obtain ⟨xa, xb, xc, xd⟩ := x
  dsimp only at SR ⊢
  obtain ⟨n, hn⟩ : ∃ n, ts.length = n := ⟨_, rfl⟩
  have Hn := hide hn
  rw [hn] at hl H hcn SR ⊢
  clear h hn hc
  obtain ⟨w0, hw0⟩ : ∃ w0, (w.alloc (.cells #[.slice ao n ca, .func (.func 47) #[] #[]] 48)).alloc (.cells (r4 xa xb xc xd) 26) = w0 := ⟨_, rfl⟩
  have B0 : Below w.heap.size w w0 := hw0 ▸ ((Below.refl _ _).alloc (Nat.le_refl _) _).alloc (by simp) _
  have L0 : Loc w0 w.heap.size #[.slice ao n ca, .func (.func 47) #[] #[]] := hw0 ▸ (loc_at w _ _ rfl).alloc _
  have X0 : Loc w0 (w.heap.size + 1) (r4 xa xb xc xd) := hw0 ▸ loc_at _ _ _ (by simp)
  have q0 := L0.cell 0 rfl
  have q1 := L0.cell 1 rfl
  obtain ⟨x0, x1, x2, x3⟩ := X0.cells4
  go_enter Tryd.func23, Tryd.ntmps23
  go_wp2_with fail
  clear hw0 q0 q1 x0 x1 x2 x3
  refine (unhide SR _ ((unhide H).below B0)).mono ?_
  rintro _ w1 ⟨k, b, rfl, hp, b1⟩
  have B1 := B0.trans (b1.mono B0.size)
  replace L0 := L0.below b1 L0.lt
  replace X0 := X0.below b1 X0.lt
  have hk : k ≤ n := by have := hp.1; rw [unhide Hn] at this; exact this
  have s1 : w.heap.size ≤ w1.heap.size := B1.size
  have lx := X0.lt
  have HP := hide hp
  clear hp SR b1
  have PP := ((unhide H).below B1).pt
  have PA : Hid (PT w1 (.slice ao k ca) (ts.take k)) := hide (PP.take k hk ca)
  obtain ⟨bo, hbo⟩ : ∃ bo, (if ca = k then ao else ao.map (·.add (k * 4))) = bo := ⟨_, rfl⟩
  have PB : Hid (PT w1 (.slice bo (n - k) (ca - k)) (ts.drop k)) := hide (PP.drop k hk (ca - k) (fun h => by rw [← hbo, if_neg (by omega)]))
  have T1 : ∀ w', (Instr.slice 24 (.slice ao n ca) none (some (.int .i64 (k : Int))) none).run Tryd.prog w' = .ok (.slice ao k ca) w' := fun w' => cut_to ao n ca k w' (by omega)
  have T2 : ∀ w', (Instr.slice 24 (.slice ao n ca) (some (.int .i64 (k : Int))) none none).run Tryd.prog w' = .ok (.slice bo (n - k) (ca - k)) w' := fun w' => by rw [cut_from ao n ca k w' hk, hbo]
  have HL : Hid ((ts.take k).length + [(xa, xb, xc, xd)].length + (ts.drop k).length ≤ 4194304) := hide (by have := unhide Hn; simp; omega)
  have bA : Below w1.heap.size w1 w1.drew := Below.drew (Below.refl _ _)
  have K : Hid (∀ w', Below w1.heap.size w1 w' → (w'.cell? ⟨w.heap.size, 0, none⟩ = some (.slice ao n ca)) ∧ (w'.cell? ⟨w.heap.size + 1, 0, none⟩ = some (.int .i64 xa) ∧ w'.cell? ⟨w.heap.size + 1, 1, none⟩ = some (.int .i64 xb) ∧ w'.cell? ⟨w.heap.size + 1, 2, none⟩ = some (.int .i64 xc) ∧ w'.cell? ⟨w.heap.size + 1, 3, none⟩ = some (.int .i64 xd))) := hide fun w' hb => by
    have l := L0.below hb L0.lt
    have x := X0.below hb X0.lt
    exact ⟨l.cell 0 rfl, x.cells4⟩
  clear PP hbo
  go_wp2_with fail
  refine wp_region_noPanic ?_
  refine wp_region_held_drew (S := (fun w' => (w'.cell? ⟨w.heap.size, 0, none⟩ = some (.slice ao n ca)) ∧ (w'.cell? ⟨w.heap.size + 1, 0, none⟩ = some (.int .i64 xa) ∧ w'.cell? ⟨w.heap.size + 1, 1, none⟩ = some (.int .i64 xb) ∧ w'.cell? ⟨w.heap.size + 1, 2, none⟩ = some (.int .i64 xc) ∧ w'.cell? ⟨w.heap.size + 1, 3, none⟩ = some (.int .i64 xd)))) (by kernel_rfl) (unhide K _ bA) (fun hHeld => ?_)
  obtain ⟨wd, hd⟩ : ∃ wd, w1.drew = wd := ⟨_, rfl⟩
  have bd : Below w1.heap.size w1 wd := hd ▸ bA
  have szd := bd.size
  rw [hd] at hHeld ⊢
  clear hd
  refine take_at (i := 0) (d := 16) (v := ?_) rfl rfl (by kernel_rfl) (by kernel_rfl) (by kernel_rfl) (fun _ _ _ h => h) (Or.inl ⟨by rfl, ?_⟩) (by assumption) ?_
  rotate_left
  · intro w hSw
    try dsimp only at hSw
    go_simp
    try with_reducible rfl
  simp only [Act.put, List.setIfInBounds_toArray, List.set_cons_zero, List.set_cons_succ]
  refine take_at (i := 1) (d := 17) (v := ?_) rfl rfl (by kernel_rfl) (by kernel_rfl) (by kernel_rfl) (fun _ _ _ h => h) (Or.inl ⟨by rfl, ?_⟩) (by assumption) ?_
  rotate_left
  · intro w hSw
    try dsimp only at hSw
    go_simp
    try with_reducible rfl
  simp only [Act.put, List.setIfInBounds_toArray, List.set_cons_zero, List.set_cons_succ]
  refine take_at (i := 2) (d := 18) (v := ?_) rfl rfl (by kernel_rfl) (by kernel_rfl) (by kernel_rfl) (fun _ _ _ h => h) (Or.inl ⟨by rfl, ?_⟩) (by assumption) ?_
  rotate_left
  · intro w hSw
    try dsimp only at hSw
    go_simp
    try with_reducible rfl
  simp only [Act.put, List.setIfInBounds_toArray, List.set_cons_zero, List.set_cons_succ]
  refine take_at (i := 3) (d := 19) (v := ?_) rfl rfl (by kernel_rfl) (by kernel_rfl) (by kernel_rfl) (fun _ _ _ h => h) (Or.inl ⟨by rfl, ?_⟩) (by assumption) ?_
  rotate_left
  · intro w hSw
    try dsimp only at hSw
    go_simp
    try with_reducible rfl
  simp only [Act.put, List.setIfInBounds_toArray, List.set_cons_zero, List.set_cons_succ]
  refine take_at (i := 4) (d := 20) (v := ?_) rfl rfl (by kernel_rfl) (by kernel_rfl) (by kernel_rfl) (fun _ _ _ h => h) (Or.inl ⟨by rfl, ?_⟩) (by assumption) ?_
  rotate_left
  · intro w hSw
    try dsimp only at hSw
    go_simp
    try with_reducible rfl
  simp only [Act.put, List.setIfInBounds_toArray, List.set_cons_zero, List.set_cons_succ]
  refine take_at (i := 6) (d := 22) (v := ?_) rfl rfl (by kernel_rfl) (by kernel_rfl) (by kernel_rfl) (fun _ _ _ h => h) (Or.inl ⟨by rfl, ?_⟩) (by assumption) ?_
  rotate_left
  · intro w hSw
    try dsimp only at hSw
    go_simp
    try with_reducible rfl
  simp only [Act.put, List.setIfInBounds_toArray, List.set_cons_zero, List.set_cons_succ]
  refine take_at (i := 7) (d := 23) (v := ?_) rfl rfl (by kernel_rfl) (by kernel_rfl) (by kernel_rfl) (fun _ _ _ h => h) (Or.inl ⟨by rfl, ?_⟩) (by assumption) ?_
  rotate_left
  · intro w hSw
    try dsimp only at hSw
    go_simp
    try with_reducible rfl
  simp only [Act.put, List.setIfInBounds_toArray, List.set_cons_zero, List.set_cons_succ]
  refine take_at (i := 8) (d := 24) (v := ?_) rfl rfl (by kernel_rfl) (by kernel_rfl) (by kernel_rfl) (fun _ _ _ h => h) (Or.inl ⟨by rfl, ?_⟩) (by assumption) ?_
  rotate_left
  · intro w hSw
    try dsimp only at hSw
    go_simp
    try with_reducible rfl
  simp only [Act.put, List.setIfInBounds_toArray, List.set_cons_zero, List.set_cons_succ]
  refine take_at (i := 9) (d := 25) (v := ?_) rfl rfl (by kernel_rfl) (by kernel_rfl) (by kernel_rfl) (fun _ _ _ h => h) (Or.inl ⟨by rfl, ?_⟩) (by assumption) ?_
  rotate_left
  · intro w hSw
    try dsimp only at hSw
    go_simp
    try with_reducible rfl
  simp only [Act.put, List.setIfInBounds_toArray, List.set_cons_zero, List.set_cons_succ]
  refine ready_at (i := 5) rfl (by kernel_rfl) (fun KK hKK => ?_)
  go_simp
  obtain ⟨we, he⟩ : ∃ y, wd.alloc (.cells #[.int .i64 xa, .int .i64 xb, .int .i64 xc, .int .i64 xd] 26) = y := ⟨_, rfl⟩
  have be : Below w1.heap.size w1 we := he ▸ bd.alloc bd.size _
  have LE : OT we w1.heap.size (.slice (some ⟨wd.heap.size, 0, none⟩) 1 1) [(xa, xb, xc, xd)] := he ▸ World.ownsRow_lit wd #[.int .i64 xa, .int .i64 xb, .int .i64 xc, .int .i64 xd] 1 szd (by unfold maxLen; omega) rfl
  rw [he]
  clear hHeld
  refine hKK.out _ _ (unhide K _ be) (fun hHeld => ?_)
  clear hKK KK
  refine ready_at (i := 10) rfl (by kernel_rfl) (fun KK hKK => ?_)
  go_simp
  obtain ⟨wf, hf⟩ : ∃ y, we.alloc (.cells #[.slice ao k ca, .slice (some ⟨wd.heap.size, 0, none⟩) 1 1, .slice bo (n - k) (ca - k)] 24) = y := ⟨_, rfl⟩
  have bf : Below w1.heap.size w1 wf := hf ▸ be.alloc be.size _
  have bef : Below we.heap.size we wf := hf ▸ (Below.refl _ _).alloc (Nat.le_refl _) _
  have LF : Loc wf we.heap.size #[.slice ao k ca, .slice (some ⟨wd.heap.size, 0, none⟩) 1 1, .slice bo (n - k) (ca - k)] := hf ▸ loc_at we _ _ rfl
  replace LE := LE.below bef
  rw [hf]
  clear hHeld
  refine hKK.out _ _ (unhide K _ bf) (fun hHeld => ?_)
  clear hKK KK
  refine ready_at (i := 11) rfl (by kernel_rfl) (fun KK hKK => ?_)
  go_simp
  refine (concat3 _ _ _ _ (ts.take k) [(xa, xb, xc, xd)] (ts.drop k) _ (LF.cell 0 rfl) (LF.cell 1 rfl) (LF.cell 2 rfl) ((unhide PA).below bf) LE.pt ((unhide PB).below bf) (by simp) (unhide HL)).mono ?_
  rintro _ wg ⟨vg, rfl, og, bg⟩
  have Bg := bf.trans (bg.mono bf.size)
  replace og := hide (og.mono bf.size)
  clear hHeld
  refine hKK.out _ _ (unhide K _ Bg) (fun hHeld => ?_)
  clear hKK KK
  refine take_at (i := 12) (d := 4) (v := ?_) rfl rfl (by kernel_rfl) (by kernel_rfl) (by kernel_rfl) (fun _ _ _ h => h) (Or.inl ⟨by rfl, ?_⟩) (by assumption) ?_
  rotate_left
  · intro w hSw
    try dsimp only at hSw
    go_simp
    try with_reducible rfl
  simp only [Act.put, List.setIfInBounds_toArray, List.set_cons_zero, List.set_cons_succ]
  clear hHeld
  refine wpAnyH_done (by kernel_rfl) ?_ _
  refine NoPanic.normal ?_
  go_wp2
  go_ret
  exact ⟨k, _, rfl, unhide HP, (unhide og).mono s1, B1.trans (Bg.mono s1)⟩

set_option maxHeartbeats 4000000 in
set_option maxRecDepth 100000 in
theorem implPoolAdd (v : Value) (ts : List T4) (x : T4) (w : World) (h : RT w v ts) (hc : Capped v) (hl : ts.length ≤ 4000000) :
    Calls Tryd.prog 6 #[v, txv x.1 x.2.1 x.2.2.1 x.2.2.2] w fun e w' => ∃ u, e = .returned (.tuple #[u, .bool (addAns ts x).2]) ∧ OT w' w.heap.size u (addAns ts x).1 ∧ Below w.heap.size w w' := by
  have WA := hide fun w h => with_any v ts x w h hc hl
  have H := hide h
  have PL := hide fun k (h : Place ts x k) => place_ans h
  obtain ⟨ao, ca, rfl⟩ := h.form
  obtain ⟨xa, xb, xc, xd⟩ := x
  dsimp only at WA ⊢
  obtain ⟨w0, hw0⟩ : ∃ w0, w.alloc (.cells (r4 xa xb xc xd) 26) = w0 := ⟨_, rfl⟩
  have B0 : Below w.heap.size w w0 := hw0 ▸ (Below.refl _ _).alloc (Nat.le_refl _) _
  have X0 : Loc w0 w.heap.size (r4 xa xb xc xd) := hw0 ▸ loc_at _ _ _ rfl
  have bA : Below w0.heap.size w0 w0.drew := Below.drew (Below.refl _ _)
  have K : Hid (∀ w', Below w0.heap.size w0 w' → (w'.cell? ⟨w.heap.size, 0, none⟩ = some (.int .i64 xa) ∧ w'.cell? ⟨w.heap.size, 1, none⟩ = some (.int .i64 xb) ∧ w'.cell? ⟨w.heap.size, 2, none⟩ = some (.int .i64 xc) ∧ w'.cell? ⟨w.heap.size, 3, none⟩ = some (.int .i64 xd))) := hide fun w' hb => (X0.below hb X0.lt).cells4
  clear h hc
  go_enter Tryd.func6, Tryd.ntmps6
  go_wp2_with fail
  clear hw0
  refine wp_region_noPanic ?_
  refine wp_region_held_drew (S := (fun w' => (w'.cell? ⟨w.heap.size, 0, none⟩ = some (.int .i64 xa) ∧ w'.cell? ⟨w.heap.size, 1, none⟩ = some (.int .i64 xb) ∧ w'.cell? ⟨w.heap.size, 2, none⟩ = some (.int .i64 xc) ∧ w'.cell? ⟨w.heap.size, 3, none⟩ = some (.int .i64 xd)))) (by kernel_rfl) (unhide K _ bA) (fun hHeld => ?_)
  refine take_at (i := 0) (d := 7) (v := ?_) rfl rfl (by kernel_rfl) (by kernel_rfl) (by kernel_rfl) (fun _ _ _ h => h) (Or.inl ⟨by rfl, ?_⟩) (by assumption) ?_
  rotate_left
  · intro w hSw
    try dsimp only at hSw
    go_simp
    try with_reducible rfl
  simp only [Act.put, List.setIfInBounds_toArray, List.set_cons_zero, List.set_cons_succ]
  refine take_at (i := 2) (d := 9) (v := ?_) rfl rfl (by kernel_rfl) (by kernel_rfl) (by kernel_rfl) (fun _ _ _ h => h) (Or.inl ⟨by rfl, ?_⟩) (by assumption) ?_
  rotate_left
  · intro w hSw
    try dsimp only at hSw
    go_simp
    try with_reducible rfl
  simp only [Act.put, List.setIfInBounds_toArray, List.set_cons_zero, List.set_cons_succ]
  refine ready_at (i := 1) rfl (by kernel_rfl) (fun KK hKK => ?_)
  go_simp
  refine (waiting_any _ _ _ _).mono ?_
  rintro _ wa ⟨rfl, ba⟩
  have bB : Below w0.heap.size w0 wa := bA.trans ba
  clear hHeld
  refine hKK.out _ _ (unhide K _ bB) (fun hHeld => ?_)
  clear hKK KK
  refine ready_at (i := 3) rfl (by kernel_rfl) (fun KK hKK => ?_)
  go_simp
  refine (unhide WA _ ((unhide H).below (B0.trans (bB.mono B0.size)))).mono ?_
  rintro _ wb ⟨k, vm, rfl, hp, om, bb⟩
  have bC : Below w0.heap.size w0 wb := bB.trans (bb.mono bB.size)
  have HP := hide hp
  clear hp
  replace om := hide (om.mono bB.size)
  clear hHeld
  refine hKK.out _ _ (unhide K _ bC) (fun hHeld => ?_)
  clear hKK KK
  refine take_at (i := 4) (d := 6) (v := ?_) rfl rfl (by kernel_rfl) (by kernel_rfl) (by kernel_rfl) (fun _ _ _ h => h) (Or.inl ⟨by rfl, ?_⟩) (by assumption) ?_
  rotate_left
  · intro w hSw
    try dsimp only at hSw
    go_simp
    try with_reducible rfl
  simp only [Act.put, List.setIfInBounds_toArray, List.set_cons_zero, List.set_cons_succ]
  clear hHeld
  refine wpAnyH_done (by kernel_rfl) ?_ _
  refine NoPanic.normal ?_
  have BC := B0.trans (bC.mono B0.size)
  have e := unhide PL k (unhide HP)
  obtain ⟨ma, mc, hm⟩ := (unhide om).form
  subst hm
  have RM := (unhide om).rt (by rw [ins_len]; omega)
  have PO := hide (implPoolOk _ (ins ts (xa, xb, xc, xd) k) wb RM)
  by_cases hok : POk (ins ts (xa, xb, xc, xd) k)
  · rw [if_pos hok] at e
    rw [decide_eq_true hok] at PO
    replace e := hide e
    clear hok RM HP PL
    go_wp2_with fail
    refine (unhide PO).mono ?_
    rintro _ w2 ⟨rfl, b2⟩
    go_wp2
    go_ret2
    exact ⟨_, by rw [unhide e]; rfl, by rw [unhide e]; exact ((unhide om).below b2).mono B0.size, BC.trans (b2.mono BC.size)⟩
  · rw [if_neg hok] at e
    rw [decide_eq_false hok] at PO
    replace e := hide e
    clear hok RM HP PL om
    go_wp2_with fail
    refine (unhide PO).mono ?_
    rintro _ w2 ⟨rfl, b2⟩
    have B2 := BC.trans (b2.mono BC.size)
    have PP := hide ((unhide H).below B2).pt
    go_wp2_with (first | (at_builtin; refine append_piece rfl _ _ rfl w.heap.size (.slice none 0 0) (.slice ao ts.length ca) [] ts rfl rfl (World.ownsRow_nil _ _ _ _) (unhide PP) (by simp; omega) B2.size ?_; intro v3 w3 ho3 hg3 _; have HO3 := hide ho3; have B3 := hide (B2.grown hg3 B2.size (fun j hj => by simp [Value.ownBlock] at hj)); clear ho3 hg3))
    go_ret2
    exact ⟨_, by rw [unhide e]; rfl, by rw [unhide e]; exact unhide HO3, unhide B3⟩
end Go.Proofs.YthdehhenkgkkmaaDoor

/- spec.PoolAdd. -/
namespace Go.Proofs.YthdehhenkgkkmaaDoor
open Go.RowKit
set_option linter.unusedSectionVars false
variable [∀ (a b c d : Int), Decidable (Ok4 a b c d)]
variable [∀ (m a b c d : Int), Decidable (In4 m a b c d)]
variable [∀ (xs ys : List Int), Decidable (LOk xs ys)]
variable [∀ (x y : T4), Decidable (Bef x y)]
variable [∀ (ts : List T4), Decidable (Asc ts)]
variable [∀ (ts : List T4), Decidable (AllOk ts)]
variable [∀ (ts : List T4), Decidable (POk ts)]



set_option maxHeartbeats 4000000 in
set_option maxRecDepth 100000 in
theorem specPoolAdd (v : Value) (ts : List T4) (x : T4) (w : World) (h : RT w v ts) (hc : Capped v) (hl : ts.length ≤ 4000000) :
    Calls Tryd.prog 7 #[v, txv x.1 x.2.1 x.2.2.1 x.2.2.2] w fun e w' => ∃ u, e = .returned (.tuple #[u, .bool (addAns ts x).2]) ∧ OT w' w.heap.size u (addAns ts x).1 ∧ Below w.heap.size w w' := by
  obtain ⟨ao, ca, rfl⟩ := h.form
  obtain ⟨hcn, hcm⟩ : ts.length ≤ ca ∧ ca ≤ maxLen := by obtain ⟨_, _, _, e, h1, h2⟩ := hc; cases e; exact ⟨h1, h2⟩
  unfold maxLen at hcm
  have H := hide h
  obtain ⟨n, hn⟩ : ∃ n, ts.length = n := ⟨_, rfl⟩
  have Hn := hide hn
  rw [hn] at hl H hcn ⊢
  clear h hn hc
  have BX := hide fun y w => before_any y x w
  have PI := hide fun k h0 h1 h2 => pos_is ts x k h0 h1 h2
  have AN : Hid (addAns ts x = if POk (ins ts x (pos ts x)) then (ins ts x (pos ts x), true) else (ts, false)) := hide rfl
  obtain ⟨xx, hxx⟩ : ∃ xx, x = xx := ⟨_, rfl⟩
  obtain ⟨xa, xb, xc, xd⟩ := xx
  have e1 : x.1 = xa := by rw [hxx]
  have e2 : x.2.1 = xb := by rw [hxx]
  have e3 : x.2.2.1 = xc := by rw [hxx]
  have e4 : x.2.2.2 = xd := by rw [hxx]
  rw [e1, e2, e3, e4] at BX ⊢
  replace hxx := hide hxx
  clear e1 e2 e3 e4
  obtain ⟨w0, hw0⟩ : ∃ w0, w.alloc (.cells (r4 xa xb xc xd) 26) = w0 := ⟨_, rfl⟩
  have B0 : Below w.heap.size w w0 := hw0 ▸ (Below.refl _ _).alloc (Nat.le_refl _) _
  have L0 : Loc w0 w.heap.size (r4 xa xb xc xd) := hw0 ▸ loc_at w _ _ rfl
  have s0 : w0.heap.size = w.heap.size + 1 := by rw [← hw0]; simp
  go_enter Tryd.func7, Tryd.ntmps7
  go_wp2
  clear hw0
  go_loopw [6] (fun i wr => ∃ k : Nat, k ≤ n ∧ i = .int .i64 k ∧ Hid (∀ j, j < k → Bef (ts.getD j z4) x) ∧ Loc wr w.heap.size (r4 xa xb xc xd) ∧ w0.heap.size ≤ wr.heap.size ∧ Below w.heap.size w wr) (fun i _ => n - (intOf i).toNat)
  case atStart => exact ⟨0, Nat.zero_le _, by go_num, hide (fun j hj => absurd hj (Nat.not_lt_zero j)), L0, Nat.le_refl _, B0⟩
  case round =>
    clear L0 B0
    obtain ⟨k, hk, rfl, HA, L, sr, br⟩ := hrel
    have bA : Below wr.heap.size wr wr.drew := Below.drew (Below.refl _ _)
    by_cases hlt : k < n
    · obtain ⟨g, rfl, hy⟩ := (unhide H).at k (by rw [unhide Hn]; exact hlt)
      have CY := hide (hy.below br (Nat.le_refl _))
      have BF := hide (unhide BX (ts.getD k z4))
      obtain ⟨y, hy0⟩ : ∃ y, ts.getD k z4 = y := ⟨_, rfl⟩
      by_cases hb : Bef (ts.getD k z4) x
      · rw [decide_eq_true hb] at BF
        have HS : Hid (∀ j, j < k + 1 → Bef (ts.getD j z4) x) := hide fun j hj => by
          by_cases e : j = k
          · rw [e]; exact hb
          · exact unhide HA j (by omega)
        rw [hy0] at CY BF
        clear hb hy0 HA hy PI
        obtain ⟨ya, yb, yc, yd⟩ := y
        dsimp only at BF
        have K : Hid (∀ w', Below wr.heap.size wr w' → (w'.cell? ⟨g, k * 4, none⟩ = some (.int .i64 ya) ∧ w'.cell? ⟨g, k * 4 + 1, none⟩ = some (.int .i64 yb) ∧ w'.cell? ⟨g, k * 4 + 2, none⟩ = some (.int .i64 yc) ∧ w'.cell? ⟨g, k * 4 + 3, none⟩ = some (.int .i64 yd)) ∧ (w'.cell? ⟨w.heap.size, 0, none⟩ = some (.int .i64 xa) ∧ w'.cell? ⟨w.heap.size, 1, none⟩ = some (.int .i64 xb) ∧ w'.cell? ⟨w.heap.size, 2, none⟩ = some (.int .i64 xc) ∧ w'.cell? ⟨w.heap.size, 3, none⟩ = some (.int .i64 xd))) := hide fun w' hb => ⟨(unhide CY).below hb (Nat.le_refl _), (L.below hb L.lt).cells4⟩
        clear CY
        go_wp2_with fail
        refine wp_region_noPanic ?_
        refine wp_region_held_drew (S := (fun w' => (w'.cell? ⟨g, k * 4, none⟩ = some (.int .i64 ya) ∧ w'.cell? ⟨g, k * 4 + 1, none⟩ = some (.int .i64 yb) ∧ w'.cell? ⟨g, k * 4 + 2, none⟩ = some (.int .i64 yc) ∧ w'.cell? ⟨g, k * 4 + 3, none⟩ = some (.int .i64 yd)) ∧ (w'.cell? ⟨w.heap.size, 0, none⟩ = some (.int .i64 xa) ∧ w'.cell? ⟨w.heap.size, 1, none⟩ = some (.int .i64 xb) ∧ w'.cell? ⟨w.heap.size, 2, none⟩ = some (.int .i64 xc) ∧ w'.cell? ⟨w.heap.size, 3, none⟩ = some (.int .i64 xd)))) (by kernel_rfl) (unhide K _ bA) (fun hHeld => ?_)
        refine take_at (i := 0) (d := 8) (v := ?_) rfl rfl (by kernel_rfl) (by kernel_rfl) (by kernel_rfl) (fun _ _ _ h => h) (Or.inl ⟨by rfl, ?_⟩) (by assumption) ?_
        rotate_left
        · intro w hSw
          try dsimp only at hSw
          go_simp
          try with_reducible rfl
        simp only [Act.put, List.setIfInBounds_toArray, List.set_cons_zero, List.set_cons_succ]
        refine take_at (i := 1) (d := 9) (v := ?_) rfl rfl (by kernel_rfl) (by kernel_rfl) (by kernel_rfl) (fun _ _ _ h => h) (Or.inl ⟨by rfl, ?_⟩) (by assumption) ?_
        rotate_left
        · intro w hSw
          try dsimp only at hSw
          go_simp
          try with_reducible rfl
        simp only [Act.put, List.setIfInBounds_toArray, List.set_cons_zero, List.set_cons_succ]
        refine take_at (i := 2) (d := 10) (v := ?_) rfl rfl (by kernel_rfl) (by kernel_rfl) (by kernel_rfl) (fun _ _ _ h => h) (Or.inl ⟨by rfl, ?_⟩) (by assumption) ?_
        rotate_left
        · intro w hSw
          try dsimp only at hSw
          go_simp
          try with_reducible rfl
        simp only [Act.put, List.setIfInBounds_toArray, List.set_cons_zero, List.set_cons_succ]
        refine take_at (i := 3) (d := 11) (v := ?_) rfl rfl (by kernel_rfl) (by kernel_rfl) (by kernel_rfl) (fun _ _ _ h => h) (Or.inl ⟨by rfl, ?_⟩) (by assumption) ?_
        rotate_left
        · intro w hSw
          try dsimp only at hSw
          go_simp
          try with_reducible rfl
        simp only [Act.put, List.setIfInBounds_toArray, List.set_cons_zero, List.set_cons_succ]
        refine take_at (i := 4) (d := 12) (v := ?_) rfl rfl (by kernel_rfl) (by kernel_rfl) (by kernel_rfl) (fun _ _ _ h => h) (Or.inl ⟨by rfl, ?_⟩) (by assumption) ?_
        rotate_left
        · intro w hSw
          try dsimp only at hSw
          go_simp
          try with_reducible rfl
        simp only [Act.put, List.setIfInBounds_toArray, List.set_cons_zero, List.set_cons_succ]
        refine take_at (i := 5) (d := 13) (v := ?_) rfl rfl (by kernel_rfl) (by kernel_rfl) (by kernel_rfl) (fun _ _ _ h => h) (Or.inl ⟨by rfl, ?_⟩) (by assumption) ?_
        rotate_left
        · intro w hSw
          try dsimp only at hSw
          go_simp
          try with_reducible rfl
        simp only [Act.put, List.setIfInBounds_toArray, List.set_cons_zero, List.set_cons_succ]
        refine take_at (i := 6) (d := 14) (v := ?_) rfl rfl (by kernel_rfl) (by kernel_rfl) (by kernel_rfl) (fun _ _ _ h => h) (Or.inl ⟨by rfl, ?_⟩) (by assumption) ?_
        rotate_left
        · intro w hSw
          try dsimp only at hSw
          go_simp
          try with_reducible rfl
        simp only [Act.put, List.setIfInBounds_toArray, List.set_cons_zero, List.set_cons_succ]
        refine take_at (i := 7) (d := 15) (v := ?_) rfl rfl (by kernel_rfl) (by kernel_rfl) (by kernel_rfl) (fun _ _ _ h => h) (Or.inl ⟨by rfl, ?_⟩) (by assumption) ?_
        rotate_left
        · intro w hSw
          try dsimp only at hSw
          go_simp
          try with_reducible rfl
        simp only [Act.put, List.setIfInBounds_toArray, List.set_cons_zero, List.set_cons_succ]
        refine take_at (i := 8) (d := 16) (v := ?_) rfl rfl (by kernel_rfl) (by kernel_rfl) (by kernel_rfl) (fun _ _ _ h => h) (Or.inl ⟨by rfl, ?_⟩) (by assumption) ?_
        rotate_left
        · intro w hSw
          try dsimp only at hSw
          go_simp
          try with_reducible rfl
        simp only [Act.put, List.setIfInBounds_toArray, List.set_cons_zero, List.set_cons_succ]
        refine take_at (i := 9) (d := 17) (v := ?_) rfl rfl (by kernel_rfl) (by kernel_rfl) (by kernel_rfl) (fun _ _ _ h => h) (Or.inl ⟨by rfl, ?_⟩) (by assumption) ?_
        rotate_left
        · intro w hSw
          try dsimp only at hSw
          go_simp
          try with_reducible rfl
        simp only [Act.put, List.setIfInBounds_toArray, List.set_cons_zero, List.set_cons_succ]
        refine ready_at (i := 10) rfl (by kernel_rfl) (fun KK hKK => ?_)
        go_simp
        refine (unhide BF _).mono ?_
        rintro _ wa ⟨rfl, ba⟩
        have bB : Below wr.heap.size wr wa := bA.trans ba
        clear hHeld
        refine hKK.out _ _ (unhide K _ bB) (fun hHeld => ?_)
        clear hKK KK
        refine take_at (i := 11) (d := 19) (v := ?_) rfl rfl (by kernel_rfl) (by kernel_rfl) (by kernel_rfl) (fun _ _ _ h => h) (Or.inl ⟨by rfl, ?_⟩) (by assumption) ?_
        rotate_left
        · intro w hSw
          try dsimp only at hSw
          go_simp
          try with_reducible rfl
        simp only [Act.put, List.setIfInBounds_toArray, List.set_cons_zero, List.set_cons_succ]
        clear hHeld
        refine wpAnyH_done (by kernel_rfl) ?_ _
        refine NoPanic.normal ?_
        have LB := L.below bB L.lt
        have BB := br.trans (bB.mono br.size)
        have sB := Nat.le_trans sr bB.size
        go_wp2
        go_roundw
        case rel => exact ⟨k + 1, by omega, by go_num, HS, LB, sB, BB⟩
        case measure => simp [intOf]; omega
      · rw [decide_eq_false hb] at BF
        have HPOS : Hid (pos ts x = k) := hide (unhide PI k (by rw [unhide Hn]; exact hk) (unhide HA) (fun _ => hb))
        rw [hy0] at CY BF
        clear hb hy0 HA hy PI
        obtain ⟨ya, yb, yc, yd⟩ := y
        dsimp only at BF
        have K : Hid (∀ w', Below wr.heap.size wr w' → (w'.cell? ⟨g, k * 4, none⟩ = some (.int .i64 ya) ∧ w'.cell? ⟨g, k * 4 + 1, none⟩ = some (.int .i64 yb) ∧ w'.cell? ⟨g, k * 4 + 2, none⟩ = some (.int .i64 yc) ∧ w'.cell? ⟨g, k * 4 + 3, none⟩ = some (.int .i64 yd)) ∧ (w'.cell? ⟨w.heap.size, 0, none⟩ = some (.int .i64 xa) ∧ w'.cell? ⟨w.heap.size, 1, none⟩ = some (.int .i64 xb) ∧ w'.cell? ⟨w.heap.size, 2, none⟩ = some (.int .i64 xc) ∧ w'.cell? ⟨w.heap.size, 3, none⟩ = some (.int .i64 xd))) := hide fun w' hb => ⟨(unhide CY).below hb (Nat.le_refl _), (L.below hb L.lt).cells4⟩
        clear CY
        go_wp2_with fail
        refine wp_region_noPanic ?_
        refine wp_region_held_drew (S := (fun w' => (w'.cell? ⟨g, k * 4, none⟩ = some (.int .i64 ya) ∧ w'.cell? ⟨g, k * 4 + 1, none⟩ = some (.int .i64 yb) ∧ w'.cell? ⟨g, k * 4 + 2, none⟩ = some (.int .i64 yc) ∧ w'.cell? ⟨g, k * 4 + 3, none⟩ = some (.int .i64 yd)) ∧ (w'.cell? ⟨w.heap.size, 0, none⟩ = some (.int .i64 xa) ∧ w'.cell? ⟨w.heap.size, 1, none⟩ = some (.int .i64 xb) ∧ w'.cell? ⟨w.heap.size, 2, none⟩ = some (.int .i64 xc) ∧ w'.cell? ⟨w.heap.size, 3, none⟩ = some (.int .i64 xd)))) (by kernel_rfl) (unhide K _ bA) (fun hHeld => ?_)
        refine take_at (i := 0) (d := 8) (v := ?_) rfl rfl (by kernel_rfl) (by kernel_rfl) (by kernel_rfl) (fun _ _ _ h => h) (Or.inl ⟨by rfl, ?_⟩) (by assumption) ?_
        rotate_left
        · intro w hSw
          try dsimp only at hSw
          go_simp
          try with_reducible rfl
        simp only [Act.put, List.setIfInBounds_toArray, List.set_cons_zero, List.set_cons_succ]
        refine take_at (i := 1) (d := 9) (v := ?_) rfl rfl (by kernel_rfl) (by kernel_rfl) (by kernel_rfl) (fun _ _ _ h => h) (Or.inl ⟨by rfl, ?_⟩) (by assumption) ?_
        rotate_left
        · intro w hSw
          try dsimp only at hSw
          go_simp
          try with_reducible rfl
        simp only [Act.put, List.setIfInBounds_toArray, List.set_cons_zero, List.set_cons_succ]
        refine take_at (i := 2) (d := 10) (v := ?_) rfl rfl (by kernel_rfl) (by kernel_rfl) (by kernel_rfl) (fun _ _ _ h => h) (Or.inl ⟨by rfl, ?_⟩) (by assumption) ?_
        rotate_left
        · intro w hSw
          try dsimp only at hSw
          go_simp
          try with_reducible rfl
        simp only [Act.put, List.setIfInBounds_toArray, List.set_cons_zero, List.set_cons_succ]
        refine take_at (i := 3) (d := 11) (v := ?_) rfl rfl (by kernel_rfl) (by kernel_rfl) (by kernel_rfl) (fun _ _ _ h => h) (Or.inl ⟨by rfl, ?_⟩) (by assumption) ?_
        rotate_left
        · intro w hSw
          try dsimp only at hSw
          go_simp
          try with_reducible rfl
        simp only [Act.put, List.setIfInBounds_toArray, List.set_cons_zero, List.set_cons_succ]
        refine take_at (i := 4) (d := 12) (v := ?_) rfl rfl (by kernel_rfl) (by kernel_rfl) (by kernel_rfl) (fun _ _ _ h => h) (Or.inl ⟨by rfl, ?_⟩) (by assumption) ?_
        rotate_left
        · intro w hSw
          try dsimp only at hSw
          go_simp
          try with_reducible rfl
        simp only [Act.put, List.setIfInBounds_toArray, List.set_cons_zero, List.set_cons_succ]
        refine take_at (i := 5) (d := 13) (v := ?_) rfl rfl (by kernel_rfl) (by kernel_rfl) (by kernel_rfl) (fun _ _ _ h => h) (Or.inl ⟨by rfl, ?_⟩) (by assumption) ?_
        rotate_left
        · intro w hSw
          try dsimp only at hSw
          go_simp
          try with_reducible rfl
        simp only [Act.put, List.setIfInBounds_toArray, List.set_cons_zero, List.set_cons_succ]
        refine take_at (i := 6) (d := 14) (v := ?_) rfl rfl (by kernel_rfl) (by kernel_rfl) (by kernel_rfl) (fun _ _ _ h => h) (Or.inl ⟨by rfl, ?_⟩) (by assumption) ?_
        rotate_left
        · intro w hSw
          try dsimp only at hSw
          go_simp
          try with_reducible rfl
        simp only [Act.put, List.setIfInBounds_toArray, List.set_cons_zero, List.set_cons_succ]
        refine take_at (i := 7) (d := 15) (v := ?_) rfl rfl (by kernel_rfl) (by kernel_rfl) (by kernel_rfl) (fun _ _ _ h => h) (Or.inl ⟨by rfl, ?_⟩) (by assumption) ?_
        rotate_left
        · intro w hSw
          try dsimp only at hSw
          go_simp
          try with_reducible rfl
        simp only [Act.put, List.setIfInBounds_toArray, List.set_cons_zero, List.set_cons_succ]
        refine take_at (i := 8) (d := 16) (v := ?_) rfl rfl (by kernel_rfl) (by kernel_rfl) (by kernel_rfl) (fun _ _ _ h => h) (Or.inl ⟨by rfl, ?_⟩) (by assumption) ?_
        rotate_left
        · intro w hSw
          try dsimp only at hSw
          go_simp
          try with_reducible rfl
        simp only [Act.put, List.setIfInBounds_toArray, List.set_cons_zero, List.set_cons_succ]
        refine take_at (i := 9) (d := 17) (v := ?_) rfl rfl (by kernel_rfl) (by kernel_rfl) (by kernel_rfl) (fun _ _ _ h => h) (Or.inl ⟨by rfl, ?_⟩) (by assumption) ?_
        rotate_left
        · intro w hSw
          try dsimp only at hSw
          go_simp
          try with_reducible rfl
        simp only [Act.put, List.setIfInBounds_toArray, List.set_cons_zero, List.set_cons_succ]
        refine ready_at (i := 10) rfl (by kernel_rfl) (fun KK hKK => ?_)
        go_simp
        refine (unhide BF _).mono ?_
        rintro _ wa ⟨rfl, ba⟩
        have bB : Below wr.heap.size wr wa := bA.trans ba
        clear hHeld
        refine hKK.out _ _ (unhide K _ bB) (fun hHeld => ?_)
        clear hKK KK
        refine take_at (i := 11) (d := 19) (v := ?_) rfl rfl (by kernel_rfl) (by kernel_rfl) (by kernel_rfl) (fun _ _ _ h => h) (Or.inl ⟨by rfl, ?_⟩) (by assumption) ?_
        rotate_left
        · intro w hSw
          try dsimp only at hSw
          go_simp
          try with_reducible rfl
        simp only [Act.put, List.setIfInBounds_toArray, List.set_cons_zero, List.set_cons_succ]
        clear hHeld
        refine wpAnyH_done (by kernel_rfl) ?_ _
        refine NoPanic.normal ?_
        obtain ⟨we, hwe⟩ : ∃ we, wa = we := ⟨_, rfl⟩
        have LE := L.below bB L.lt
        have BE := br.trans (bB.mono br.size)
        have sE := Nat.le_trans sr bB.size
        rw [hwe] at LE BE sE ⊢
        clear hwe K BF BX bA bB ba L br sr
        obtain ⟨w2, hw2⟩ : ∃ y, we.alloc (.cells #[] 26) = y := ⟨_, rfl⟩
        have B2 : Below w.heap.size w w2 := hw2 ▸ BE.alloc BE.size _
        have S2 : Hid (w0.heap.size ≤ w2.heap.size) := hide (by rw [← hw2]; simp; omega)
        have sz2 := unhide S2
        have O2 : Hid (OT w2 w0.heap.size (.slice (some ⟨we.heap.size, 0, none⟩) 0 0) []) := hide (hw2 ▸ World.ownsRow_lit we #[] 0 sE (by unfold maxLen; omega) rfl)
        have PA : Hid (PT w2 (.slice (some ⟨g, 0, none⟩) k ca) (ts.take k)) := hide (((unhide H).below B2).pt.take k hk ca)
        have T1 : ∀ w', (Instr.slice 24 (.slice (some ⟨g, 0, none⟩) n ca) none (some (.int .i64 (k : Int))) none).run Tryd.prog w' = .ok (.slice (some ⟨g, 0, none⟩) k ca) w' := fun w' => cut_to (some ⟨g, 0, none⟩) n ca k w' (by omega)
        obtain ⟨bo, hbo⟩ : ∃ bo : Option Addr, (if ca = k then ((some ⟨g, 0, none⟩) : Option Addr) else ((some ⟨g, 0, none⟩) : Option Addr).map (·.add (k * 4))) = bo := ⟨_, rfl⟩
        have T2 : ∀ w', (Instr.slice 24 (.slice (some ⟨g, 0, none⟩) n ca) (some (.int .i64 (k : Int))) none none).run Tryd.prog w' = .ok (.slice bo (n - k) (ca - k)) w' := fun w' => by rw [cut_from (some ⟨g, 0, none⟩) n ca k w' hk, hbo]
        have PB : Hid (∀ w', Below w.heap.size w w' → PT w' (.slice bo (n - k) (ca - k)) (ts.drop k)) := hide fun w' hb => (((unhide H).below hb).pt.drop k hk (ca - k) (fun h => by rw [← hbo, if_neg (by omega)]))
        have tl : Hid ((ts.take k).length = k) := hide (by rw [List.length_take, unhide Hn]; omega)
        have dl : Hid ((ts.drop k).length = n - k) := hide (by rw [List.length_drop, unhide Hn])
        have LX2 : Hid (Loc w2 w.heap.size (r4 xa xb xc xd)) := hide (hw2 ▸ LE.alloc _)
        have le0 : w.heap.size < w0.heap.size := by omega
        clear hbo
        go_wp2_with (first
          | (at_builtin; have hgo := O2; refine append_piece rfl _ _ rfl w0.heap.size (.slice (some ⟨we.heap.size, 0, none⟩) 0 0) (.slice (some ⟨g, 0, none⟩) k ca) [] (ts.take k) rfl rfl (unhide O2) (unhide PA) (by rw [unhide tl]; simp; omega) (unhide S2) ?_; intro v3 w3 ho3 hg3 _; have O3 := hide ho3; have kp3 := kp_grown hg3; have B3 := Below.kp B2 kp3 B2.size (fun j hj => by have := (World.ownsRow.lt (unhide O2) j hj).1; omega); have X3 := hide ((unhide LX2).kp kp3 (fun hj => by have := (World.ownsRow.lt (unhide O2) _ hj).1; omega)); obtain ⟨c0, c1, c2, c3⟩ := (unhide X3).cells4; have sz3 := kp3.size; obtain ⟨a3, k3, hv3⟩ := ho3.form; rw [List.nil_append, unhide tl] at hv3; clear ho3 hg3 kp3 hgo O2 hw2; subst hv3; obtain ⟨w4, hw4⟩ : ∃ y, w3.alloc (.cells #[.int .i64 xa, .int .i64 xb, .int .i64 xc, .int .i64 xd] 26) = y := ⟨_, rfl⟩)
          | (at_builtin; have hgo := O3; have B4 : Below w.heap.size w w4 := hw4 ▸ B3.alloc B3.size _; have O4 : OT w4 w0.heap.size (.slice a3 k k3) ([] ++ ts.take k) := hw4 ▸ ot_alloc (unhide O3) _; have P4 : PT w4 (.slice (some ⟨w3.heap.size, 0, none⟩) 1 1) [(xa, xb, xc, xd)] := hw4 ▸ OT.pt (base := 0) (World.ownsRow_lit w3 #[.int .i64 xa, .int .i64 xb, .int .i64 xc, .int .i64 xd] 1 (Nat.zero_le _) (by unfold maxLen; omega) rfl); have X4 : Loc w4 w.heap.size (r4 xa xb xc xd) := hw4 ▸ (unhide X3).alloc _; have sz4 : w3.heap.size ≤ w4.heap.size := (by rw [← hw4]; simp); refine append_piece rfl _ _ rfl w0.heap.size (.slice a3 k k3) (.slice (some ⟨w3.heap.size, 0, none⟩) 1 1) ([] ++ ts.take k) [(xa, xb, xc, xd)] rfl rfl O4 P4 (by simp [unhide tl]; omega) (by omega) ?_; intro v5 w5 ho5 hg5 _; have O5 := hide ho5; have kp5 := kp_grown hg5; have B5 := Below.kp B4 kp5 B4.size (fun j hj => by have := (World.ownsRow.lt O4 j hj).1; omega); have sz5 := kp5.size; obtain ⟨a5, k5, hv5⟩ := ho5.form; rw [List.nil_append, List.length_append, unhide tl] at hv5; clear ho5 hg5 kp5 hgo O3 hw4 O4 P4 X4 B4; subst hv5)
          | (at_builtin; have hgo := O5; refine append_piece rfl _ _ rfl w0.heap.size _ (.slice bo (n - k) (ca - k)) ([] ++ ts.take k ++ [(xa, xb, xc, xd)]) (ts.drop k) rfl rfl (unhide O5) (unhide PB _ B5) (by simp [unhide tl, unhide dl]; omega) (by omega) ?_; intro v6 w6 ho6 hg6 _; have B6 := Below.kp B5 (kp_grown hg6) B5.size (fun j hj => by have := (World.ownsRow.lt (unhide O5) j hj).1; omega); have O6 : OT w6 w0.heap.size v6 (ins ts x k) := (by rw [unhide hxx]; unfold ins; rw [List.nil_append] at ho6; exact ho6); have sz6 := (kp_grown hg6).size; obtain ⟨a6, k6, hv6⟩ := O6.form; replace O6 := hide O6; clear ho6 hg6 hgo O5; subst hv6))
        have e := unhide AN
        rw [unhide HPOS] at e
        have PO := specPoolOk _ (ins ts x k) w6 ((unhide O6).rt (by rw [ins_len, unhide Hn]; omega))
        clear T1 T2 PB PA LX2 B2 B3 X3 c0 c1 c2 c3 LE BE
        by_cases hok : POk (ins ts x k)
        · rw [if_pos hok] at e
          rw [decide_eq_true hok] at PO
          replace e := hide e
          clear hok
          refine PO.mono ?_
          rintro _ w7 ⟨rfl, b7⟩
          go_wp2
          go_ret2
          exact ⟨_, by rw [unhide e]; rfl, by rw [unhide e]; exact ((unhide O6).below b7).mono (by omega), B6.trans (b7.mono B6.size)⟩
        · rw [if_neg hok] at e
          rw [decide_eq_false hok] at PO
          replace e := hide e
          clear hok O6
          refine PO.mono ?_
          rintro _ w7 ⟨rfl, b7⟩
          have B7 := B6.trans (b7.mono B6.size)
          obtain ⟨w8, hw8⟩ : ∃ y, w7.alloc (.cells #[] 26) = y := ⟨_, rfl⟩
          have B8 : Below w.heap.size w w8 := hw8 ▸ B7.alloc B7.size _
          have O8 : Hid (OT w8 w.heap.size (.slice (some ⟨w7.heap.size, 0, none⟩) 0 0) []) := hide (hw8 ▸ World.ownsRow_lit w7 #[] 0 B7.size (by unfold maxLen; omega) rfl)
          have P8 := hide ((unhide H).below B8).pt
          clear b7 B7 B6
          go_wp2_with (first | (at_builtin; refine append_piece rfl _ _ rfl w.heap.size (.slice (some ⟨w7.heap.size, 0, none⟩) 0 0) (.slice (some ⟨g, 0, none⟩) n ca) [] ts rfl rfl (unhide O8) (unhide P8) (by rw [unhide Hn]; simp; omega) B8.size ?_; intro v9 w9 ho9 hg9 _; have O9 := hide ho9; have B9 := hide (B8.grown hg9 B8.size (fun j hj => (World.ownsRow.lt (unhide O8) j hj).1)); clear ho9 hg9))
          go_ret2
          exact ⟨_, by rw [unhide e]; rfl, by rw [unhide e]; exact unhide O9, unhide B9⟩
    · have hkn : k = n := by omega
      have HPOS : Hid (pos ts x = k) := hide (unhide PI k (by rw [unhide Hn]; exact hk) (unhide HA) (fun h => by rw [unhide Hn] at h; omega))
      have hnd : decide ((k : Int) < (n : Int)) = false := by simp; omega
      have K : Hid (∀ w', Below wr.heap.size wr w' → (w'.cell? ⟨w.heap.size, 0, none⟩ = some (.int .i64 xa) ∧ w'.cell? ⟨w.heap.size, 1, none⟩ = some (.int .i64 xb) ∧ w'.cell? ⟨w.heap.size, 2, none⟩ = some (.int .i64 xc) ∧ w'.cell? ⟨w.heap.size, 3, none⟩ = some (.int .i64 xd))) := hide fun w' hb => (L.below hb L.lt).cells4
      replace hkn := hide hkn
      clear HA PI BX
      go_wp2_with fail
      refine wp_region_noPanic ?_
      refine wp_region_held_drew (S := (fun w' => (w'.cell? ⟨w.heap.size, 0, none⟩ = some (.int .i64 xa) ∧ w'.cell? ⟨w.heap.size, 1, none⟩ = some (.int .i64 xb) ∧ w'.cell? ⟨w.heap.size, 2, none⟩ = some (.int .i64 xc) ∧ w'.cell? ⟨w.heap.size, 3, none⟩ = some (.int .i64 xd)))) (by kernel_rfl) (unhide K _ bA) (fun hHeld => ?_)
      refine take_at (i := 0) (d := 8) (v := ?_) rfl rfl (by kernel_rfl) (by kernel_rfl) (by kernel_rfl) (fun _ _ _ h => h) (Or.inl ⟨by rfl, ?_⟩) (by assumption) ?_
      rotate_left
      · intro w hSw
        try dsimp only at hSw
        go_simp
        try with_reducible rfl
      simp only [Act.put, List.setIfInBounds_toArray, List.set_cons_zero, List.set_cons_succ]
      refine take_at (i := 1) (d := 9) (v := ?_) rfl rfl (by kernel_rfl) (by kernel_rfl) (by kernel_rfl) (fun _ _ _ h => h) (Or.inl ⟨by rfl, ?_⟩) (by assumption) ?_
      rotate_left
      · intro w hSw
        try dsimp only at hSw
        go_simp
        try with_reducible rfl
      simp only [Act.put, List.setIfInBounds_toArray, List.set_cons_zero, List.set_cons_succ]
      refine take_at (i := 2) (d := 10) (v := ?_) rfl rfl (by kernel_rfl) (by kernel_rfl) (by kernel_rfl) (fun _ _ _ h => h) (Or.inl ⟨by rfl, ?_⟩) (by assumption) ?_
      rotate_left
      · intro w hSw
        try dsimp only at hSw
        go_simp
        try with_reducible rfl
      simp only [Act.put, List.setIfInBounds_toArray, List.set_cons_zero, List.set_cons_succ]
      refine take_at (i := 3) (d := 11) (v := ?_) rfl rfl (by kernel_rfl) (by kernel_rfl) (by kernel_rfl) (fun _ _ _ h => h) (Or.inl ⟨by rfl, ?_⟩) (by assumption) ?_
      rotate_left
      · intro w hSw
        try dsimp only at hSw
        go_simp
        try with_reducible rfl
      simp only [Act.put, List.setIfInBounds_toArray, List.set_cons_zero, List.set_cons_succ]
      refine take_at (i := 4) (d := 12) (v := ?_) rfl rfl (by kernel_rfl) (by kernel_rfl) (by kernel_rfl) (fun _ _ _ h => h) (Or.inl ⟨by rfl, ?_⟩) (by assumption) ?_
      rotate_left
      · intro w hSw
        try dsimp only at hSw
        go_simp
        try with_reducible rfl
      simp only [Act.put, List.setIfInBounds_toArray, List.set_cons_zero, List.set_cons_succ]
      refine take_at (i := 5) (d := 13) (v := undef) rfl rfl (by kernel_rfl) (by kernel_rfl) (by kernel_rfl) (fun _ _ _ h => h) (Or.inr ⟨by rfl, rfl⟩) (by assumption) ?_
      simp only [Act.put, List.setIfInBounds_toArray, List.set_cons_zero, List.set_cons_succ]
      refine take_at (i := 6) (d := 14) (v := undef) rfl rfl (by kernel_rfl) (by kernel_rfl) (by kernel_rfl) (fun _ _ _ h => h) (Or.inr ⟨by rfl, rfl⟩) (by assumption) ?_
      simp only [Act.put, List.setIfInBounds_toArray, List.set_cons_zero, List.set_cons_succ]
      refine take_at (i := 7) (d := 15) (v := undef) rfl rfl (by kernel_rfl) (by kernel_rfl) (by kernel_rfl) (fun _ _ _ h => h) (Or.inr ⟨by rfl, rfl⟩) (by assumption) ?_
      simp only [Act.put, List.setIfInBounds_toArray, List.set_cons_zero, List.set_cons_succ]
      refine take_at (i := 8) (d := 16) (v := undef) rfl rfl (by kernel_rfl) (by kernel_rfl) (by kernel_rfl) (fun _ _ _ h => h) (Or.inr ⟨by rfl, rfl⟩) (by assumption) ?_
      simp only [Act.put, List.setIfInBounds_toArray, List.set_cons_zero, List.set_cons_succ]
      refine take_at (i := 9) (d := 17) (v := undef) rfl rfl (by kernel_rfl) (by kernel_rfl) (by kernel_rfl) (fun _ _ _ h => h) (Or.inr ⟨by rfl, rfl⟩) (by assumption) ?_
      simp only [Act.put, List.setIfInBounds_toArray, List.set_cons_zero, List.set_cons_succ]
      refine take_at (i := 10) (d := 18) (v := undef) rfl rfl (by kernel_rfl) (by kernel_rfl) (by kernel_rfl) (fun _ _ _ h => h) (Or.inr ⟨by rfl, rfl⟩) (by assumption) ?_
      simp only [Act.put, List.setIfInBounds_toArray, List.set_cons_zero, List.set_cons_succ]
      refine take_at (i := 11) (d := 19) (v := ?_) rfl rfl (by kernel_rfl) (by kernel_rfl) (by kernel_rfl) (fun _ _ _ h => h) (Or.inl ⟨by rfl, ?_⟩) (by assumption) ?_
      rotate_left
      · intro w hSw
        try dsimp only at hSw
        go_simp
        try with_reducible rfl
      simp only [Act.put, List.setIfInBounds_toArray, List.set_cons_zero, List.set_cons_succ]
      clear hHeld
      refine wpAnyH_done (by kernel_rfl) ?_ _
      refine NoPanic.normal ?_
      obtain ⟨we, hwe⟩ : ∃ we, wr.drew = we := ⟨_, rfl⟩
      have LE := L.below bA L.lt
      have BE := br.trans (bA.mono br.size)
      have sE := Nat.le_trans sr bA.size
      rw [hwe] at LE BE sE ⊢
      clear hwe K bA L br sr
      obtain ⟨w2, hw2⟩ : ∃ y, we.alloc (.cells #[] 26) = y := ⟨_, rfl⟩
      have B2 : Below w.heap.size w w2 := hw2 ▸ BE.alloc BE.size _
      have S2 : Hid (w0.heap.size ≤ w2.heap.size) := hide (by rw [← hw2]; simp; omega)
      have sz2 := unhide S2
      have O2 : Hid (OT w2 w0.heap.size (.slice (some ⟨we.heap.size, 0, none⟩) 0 0) []) := hide (hw2 ▸ World.ownsRow_lit we #[] 0 sE (by unfold maxLen; omega) rfl)
      have PA : Hid (PT w2 (.slice ao k ca) (ts.take k)) := hide (((unhide H).below B2).pt.take k hk ca)
      have T1 : ∀ w', (Instr.slice 24 (.slice ao n ca) none (some (.int .i64 (k : Int))) none).run Tryd.prog w' = .ok (.slice ao k ca) w' := fun w' => cut_to ao n ca k w' (by omega)
      obtain ⟨bo, hbo⟩ : ∃ bo : Option Addr, (if ca = k then (ao : Option Addr) else (ao : Option Addr).map (·.add (k * 4))) = bo := ⟨_, rfl⟩
      have T2 : ∀ w', (Instr.slice 24 (.slice ao n ca) (some (.int .i64 (k : Int))) none none).run Tryd.prog w' = .ok (.slice bo (n - k) (ca - k)) w' := fun w' => by rw [cut_from ao n ca k w' hk, hbo]
      have PB : Hid (∀ w', Below w.heap.size w w' → PT w' (.slice bo (n - k) (ca - k)) (ts.drop k)) := hide fun w' hb => (((unhide H).below hb).pt.drop k hk (ca - k) (fun h => by rw [← hbo, if_neg (by omega)]))
      have tl : Hid ((ts.take k).length = k) := hide (by rw [List.length_take, unhide Hn]; omega)
      have dl : Hid ((ts.drop k).length = n - k) := hide (by rw [List.length_drop, unhide Hn])
      have LX2 : Hid (Loc w2 w.heap.size (r4 xa xb xc xd)) := hide (hw2 ▸ LE.alloc _)
      have le0 : w.heap.size < w0.heap.size := by omega
      clear hbo
      go_wp2_with (first
        | (at_builtin; have hgo := O2; refine append_piece rfl _ _ rfl w0.heap.size (.slice (some ⟨we.heap.size, 0, none⟩) 0 0) (.slice ao k ca) [] (ts.take k) rfl rfl (unhide O2) (unhide PA) (by rw [unhide tl]; simp; omega) (unhide S2) ?_; intro v3 w3 ho3 hg3 _; have O3 := hide ho3; have kp3 := kp_grown hg3; have B3 := Below.kp B2 kp3 B2.size (fun j hj => by have := (World.ownsRow.lt (unhide O2) j hj).1; omega); have X3 := hide ((unhide LX2).kp kp3 (fun hj => by have := (World.ownsRow.lt (unhide O2) _ hj).1; omega)); obtain ⟨c0, c1, c2, c3⟩ := (unhide X3).cells4; have sz3 := kp3.size; obtain ⟨a3, k3, hv3⟩ := ho3.form; rw [List.nil_append, unhide tl] at hv3; clear ho3 hg3 kp3 hgo O2 hw2; subst hv3; obtain ⟨w4, hw4⟩ : ∃ y, w3.alloc (.cells #[.int .i64 xa, .int .i64 xb, .int .i64 xc, .int .i64 xd] 26) = y := ⟨_, rfl⟩)
        | (at_builtin; have hgo := O3; have B4 : Below w.heap.size w w4 := hw4 ▸ B3.alloc B3.size _; have O4 : OT w4 w0.heap.size (.slice a3 k k3) ([] ++ ts.take k) := hw4 ▸ ot_alloc (unhide O3) _; have P4 : PT w4 (.slice (some ⟨w3.heap.size, 0, none⟩) 1 1) [(xa, xb, xc, xd)] := hw4 ▸ OT.pt (base := 0) (World.ownsRow_lit w3 #[.int .i64 xa, .int .i64 xb, .int .i64 xc, .int .i64 xd] 1 (Nat.zero_le _) (by unfold maxLen; omega) rfl); have X4 : Loc w4 w.heap.size (r4 xa xb xc xd) := hw4 ▸ (unhide X3).alloc _; have sz4 : w3.heap.size ≤ w4.heap.size := (by rw [← hw4]; simp); refine append_piece rfl _ _ rfl w0.heap.size (.slice a3 k k3) (.slice (some ⟨w3.heap.size, 0, none⟩) 1 1) ([] ++ ts.take k) [(xa, xb, xc, xd)] rfl rfl O4 P4 (by simp [unhide tl]; omega) (by omega) ?_; intro v5 w5 ho5 hg5 _; have O5 := hide ho5; have kp5 := kp_grown hg5; have B5 := Below.kp B4 kp5 B4.size (fun j hj => by have := (World.ownsRow.lt O4 j hj).1; omega); have sz5 := kp5.size; obtain ⟨a5, k5, hv5⟩ := ho5.form; rw [List.nil_append, List.length_append, unhide tl] at hv5; clear ho5 hg5 kp5 hgo O3 hw4 O4 P4 X4 B4; subst hv5)
        | (at_builtin; have hgo := O5; refine append_piece rfl _ _ rfl w0.heap.size _ (.slice bo (n - k) (ca - k)) ([] ++ ts.take k ++ [(xa, xb, xc, xd)]) (ts.drop k) rfl rfl (unhide O5) (unhide PB _ B5) (by simp [unhide tl, unhide dl]; omega) (by omega) ?_; intro v6 w6 ho6 hg6 _; have B6 := Below.kp B5 (kp_grown hg6) B5.size (fun j hj => by have := (World.ownsRow.lt (unhide O5) j hj).1; omega); have O6 : OT w6 w0.heap.size v6 (ins ts x k) := (by rw [unhide hxx]; unfold ins; rw [List.nil_append] at ho6; exact ho6); have sz6 := (kp_grown hg6).size; obtain ⟨a6, k6, hv6⟩ := O6.form; replace O6 := hide O6; clear ho6 hg6 hgo O5; subst hv6))
      have e := unhide AN
      rw [unhide HPOS] at e
      have PO := specPoolOk _ (ins ts x k) w6 ((unhide O6).rt (by rw [ins_len, unhide Hn]; omega))
      clear T1 T2 PB PA LX2 B2 B3 X3 c0 c1 c2 c3 LE BE
      by_cases hok : POk (ins ts x k)
      · rw [if_pos hok] at e
        rw [decide_eq_true hok] at PO
        replace e := hide e
        clear hok
        refine PO.mono ?_
        rintro _ w7 ⟨rfl, b7⟩
        go_wp2
        go_ret2
        exact ⟨_, by rw [unhide e]; rfl, by rw [unhide e]; exact ((unhide O6).below b7).mono (by omega), B6.trans (b7.mono B6.size)⟩
      · rw [if_neg hok] at e
        rw [decide_eq_false hok] at PO
        replace e := hide e
        clear hok O6
        refine PO.mono ?_
        rintro _ w7 ⟨rfl, b7⟩
        have B7 := B6.trans (b7.mono B6.size)
        obtain ⟨w8, hw8⟩ : ∃ y, w7.alloc (.cells #[] 26) = y := ⟨_, rfl⟩
        have B8 : Below w.heap.size w w8 := hw8 ▸ B7.alloc B7.size _
        have O8 : Hid (OT w8 w.heap.size (.slice (some ⟨w7.heap.size, 0, none⟩) 0 0) []) := hide (hw8 ▸ World.ownsRow_lit w7 #[] 0 B7.size (by unfold maxLen; omega) rfl)
        have P8 := hide ((unhide H).below B8).pt
        clear b7 B7 B6
        go_wp2_with (first | (at_builtin; refine append_piece rfl _ _ rfl w.heap.size (.slice (some ⟨w7.heap.size, 0, none⟩) 0 0) (.slice ao n ca) [] ts rfl rfl (unhide O8) (unhide P8) (by rw [unhide Hn]; simp; omega) B8.size ?_; intro v9 w9 ho9 hg9 _; have O9 := hide ho9; have B9 := hide (B8.grown hg9 B8.size (fun j hj => (World.ownsRow.lt (unhide O8) j hj).1)); clear ho9 hg9))
        go_ret2
        exact ⟨_, by rw [unhide e]; rfl, by rw [unhide e]; exact unhide O9, unhide B9⟩
end Go.Proofs.YthdehhenkgkkmaaDoor
