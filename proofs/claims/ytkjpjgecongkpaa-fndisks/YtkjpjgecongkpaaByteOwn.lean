/- ByteOwn: pieces of lists of bytes: what an append of one does; slices.Grow of nothing, slices.Concat of three and of four. -/
import Derived.Test.YtkjpjgecongkpaaLoc
import Derived.Test.YtkjpjgecongkpaaText
import Derived.Test.YtkjpjgecongkpaaDrawList
import Derived.Test.YtkjpjgecongkpaaHeldBy
import Derived.Lib.AppendZerosOnto
import Derived.Laws.EntriesVeiled
import Derived.Maps.AppendAt
import Derived.Laws.OwnMore
import Derived.Deep.RegionLaw
namespace Go.Proofs.Ytkjpjgecongkpaa
open Go.RowKit

theorem OB.kp {w w' : World} {base : Nat} {X : Nat → Prop} {v : Value} {xs : List Int} (h : OB w base v xs) (k : Kp w w' X) (hv : ∀ k, v.ownBlock = some k → ¬ X k) : OB w' base v xs := by
  refine ⟨h.1, ?_⟩
  rcases h.2 with hn | ⟨g, cap, cur, rfl, hb, hgg, rest⟩
  · exact .inl hn
  · refine .inr ⟨g, cap, cur, rfl, hb, ?_, rest⟩
    rw [k.block g (Array.getElem?_eq_some_iff.1 hgg).1 (hv g rfl)]
    exact hgg

theorem OB.mono {w : World} {base base' : Nat} {v : Value} {xs : List Int} (h : OB w base v xs) (hb : base' ≤ base) : OB w base' v xs := by
  refine ⟨h.1, ?_⟩
  rcases h.2 with hn | ⟨g, cap, cur, rfl, hg, rest⟩
  · exact .inl hn
  · exact .inr ⟨g, cap, cur, rfl, Nat.le_trans hb hg, rest⟩

theorem OB.form {w : World} {base : Nat} {v : Value} {xs : List Int} (h : OB w base v xs) : ∃ ao ca, v = .slice ao xs.length ca := by
  rcases h.2 with ⟨rfl, h0⟩ | ⟨g, cap, cur, rfl, _⟩
  · exact ⟨none, 0, by rw [h0]⟩
  · exact ⟨_, _, rfl⟩

theorem bytes_plain (xs : List Int) (u : Value) (h : u ∈ xs.map (Value.int .u8)) : u.oneCell' = true := by
  obtain ⟨x, _, rfl⟩ := List.mem_map.1 h; rfl

theorem bnews_cells {w : World} {g off : Nat} {xs : List Int} (h : ∀ k, k < xs.length → w.cell? ⟨g, off + k, none⟩ = some (.int .u8 (xs.getD k 0))) :
    ∀ j u, (xs.map (Value.int .u8))[j]? = some u → w.cell? ((⟨g, off, none⟩ : Addr).add j) = some u := by
  intro j u hj
  rw [List.getElem?_map] at hj
  obtain ⟨x, hx, rfl⟩ := Option.map_eq_some_iff.1 hj
  have hlt := (List.getElem?_eq_some_iff.1 hx).1
  have e : ((⟨g, off, none⟩ : Addr).add j) = ⟨g, off + j, none⟩ := by unfold Addr.add; split <;> simp_all
  rw [e, h j hlt]
  simp [List.getD_eq_getElem?_getD, hx]

/-- v reads as the numbers xs, at whatever place. -/
def PB (w : World) (v : Value) (xs : List Int) : Prop :=
  ∃ ao cap, v = .slice ao xs.length cap ∧ (xs = [] ∨ ∃ ad : Addr, ao = some ad ∧ ∀ j u, (xs.map (Value.int .u8))[j]? = some u → w.cell? (ad.add j) = some u)
theorem PB.below {w w' : World} {v : Value} {xs : List Int} (h : PB w v xs) (hb : Below w.heap.size w w') : PB w' v xs := by
  obtain ⟨ao, cap, rfl, h⟩ := h
  refine ⟨ao, cap, rfl, ?_⟩
  rcases h with h | ⟨ad, rfl, h⟩
  · exact .inl h
  · exact .inr ⟨ad, rfl, fun j u hj => (hb.cell (cell_lt (h j u hj))).trans (h j u hj)⟩
theorem RB.pb {w : World} {v : Value} {xs : List Int} (h : RB w v xs) : PB w v xs := by
  obtain ⟨hl, ao, cap, rfl, _, h⟩ := h
  refine ⟨ao, cap, rfl, ?_⟩
  rcases h with h | ⟨b, off, rfl, h⟩
  · exact .inl h
  · exact .inr ⟨_, rfl, bnews_cells h⟩
theorem OB.pb {w : World} {base : Nat} {v : Value} {xs : List Int} (h : OB w base v xs) (hl : xs.length ≤ 140737488355328) : PB w v xs := (h.rb hl).pb
theorem OB.lt {w : World} {base : Nat} {v : Value} {xs : List Int} (h : OB w base v xs) : ∀ j, v.ownBlock = some j → base ≤ j ∧ j < w.heap.size := World.ownsRow.lt h
theorem run_append_noneB (ty : TypeId) (base cap : Nat) (v : Value) (n : Nat) (xs : List Value) (w : World) (hown : w.ownsRow base 5 1 v n xs) :
    (Builtin.append_ #[22, 22] ty #[v, .slice none 0 cap]).run Try.prog w = .ok v w := by
  obtain ⟨i0, hi, hz0, hz1, hz2⟩ := info_parts Try.info5
  rcases hown.2 with ⟨rfl, rfl⟩ | ⟨g, cp, cur, rfl, _, _, hnc, _⟩
  · simp [Builtin.append_, run_underlying Try.underlying22, sizeOf, typeInfo, hi, Builtin.lenOf, Builtin.firstCells]
  · simp [Builtin.append_, run_underlying Try.underlying22, sizeOf, typeInfo, hi, Builtin.lenOf, Builtin.firstCells, hnc, storeCells]
/-- An append of a piece onto what is owned. -/
theorem append_bytes {ops : Array Oper} {rest : List Oper} {o : Oper} {a : Act} {Q : Exit → Act → World → Prop} {w : World} (hgd : o.guard = none) (s x : Operand)
    (ho : o.op = .call { callee := .builtin .append, args := #[s, x], argTypes := #[22, 22] }) (base : Nat) (v u : Value) (xs ys : List Int) (hs : a.eval s = v) (hx : a.eval x = u)
    (hown : OB w base v xs) (hp : PB w u ys) (hl : xs.length + ys.length ≤ 16777216) (hbase : base ≤ w.heap.size)
    (h : ∀ v' w', OB w' base v' (xs ++ ys) → w.grownBy w' v.ownBlock → (v'.ownBlock = v.ownBlock ∨ v'.ownBlock = some w.heap.size) → wpList Try.prog ops Q rest (a.put o.dst v') w') :
    wpList Try.prog ops Q (o :: rest) a w := by
  obtain ⟨i0, hi, hz0, hz1, hz2⟩ := info_parts Try.info5
  obtain ⟨ao, cap, rfl, hp⟩ := hp
  match ao, hx with
  | none, hx =>
    have hy : ys = [] := by rcases hp with h | ⟨ad, e, _⟩; exact h; cases e
    subst hy
    refine wpList_plain hgd fun K hK => ?_
    have hrun := run_append_noneB o.type base cap v xs.length (xs.map (Value.int .u8)) w hown
    unfold Oper.wp
    simp only [List.length_nil] at hx
    simp [execOp, ho, resolve, invoke, builtin, hs, hx, hrun, Result.andThen]
    exact hK _ _ (h v w (by simpa using hown) (grown_refl _ _) (.inl rfl))
  | some ad, hx =>
    have hn : ∀ j u, (ys.map (Value.int .u8))[j]? = some u → w.cell? (ad.add j) = some u := by
      rcases hp with rfl | ⟨ad', e, h⟩
      · intro j u hj; simp at hj
      · cases e; exact h
    refine wpList_append_own_at _ hgd s x 22 ho base 5 i0 (.int .u8 0) 1 1 Try.underlying22 hi hz0 hz1 hz2 rfl (by decide) v xs.length (xs.map (Value.int .u8)) hs hown ad ys.length cap (ys.map (Value.int .u8)) hx (by simp) hn (bytes_plain ys) (by unfold maxLen; omega) (by omega) hbase ?_
    intro v' w' ho' hg' _ hb'
    refine h v' w' ?_ hg' hb'
    unfold OB
    rw [List.map_append, List.length_append]
    exact ho'
set_option maxHeartbeats 1600000 in
set_option maxRecDepth 100000 in
theorem grow_bytes (n : Nat) (w : World) (hn : 0 < n) (hl : n ≤ 4194304) :
    Calls Try.prog 57 #[.slice none 0 0, .int .i64 n] w fun e w' => ∃ v, e = .returned v ∧ OB w' w.heap.size v [] ∧ Below w.heap.size w w' := by
  obtain ⟨i0, hi, hz0, hz1, hz2⟩ := info_parts Try.info5
  have hold : (Builtin.firstCells i0.size 0 (.slice none 0 0)).run Try.prog w.drew = .ok ([] : List Value).toArray w.drew := run_firstCells_none w.drew i0.size 0 0 0
  have hrz : ∀ ty, (Builtin.append_ #[22, 3] ty #[.slice none 0 0, .int .i64 (n : Int)]).run Try.prog w =
      .ok (.slice (some ⟨w.heap.size, 0, none⟩) (0 + n) (grownCap w (0 + n) 0 5)) (w.drew.alloc (.cells (([] : List Value).toArray ++ Builtin.zeroCells (Value.int .u8 0).cells n ++ Builtin.zeroCells (Value.int .u8 0).cells (grownCap w (0 + n) 0 5 - (0 + n))) 5)) := fun ty =>
    Lib.run_append_grow_zeros w 22 3 ty 5 i0 (Value.int .u8 0) .i64 .i64 Try.underlying22 Try.underlying3 hi hz0 none 0 0 [] hold n hn (by rw [hz1]; decide) (by omega) (by omega)
      (by rw [hz2]; omega) (growslice_fits (by omega) (by rw [hz2]; omega))
  have hG : 0 + n ≤ grownCap w (0 + n) 0 5 := grownCap_ge w _ _ _
  have hG63 : grownCap w (0 + n) 0 5 ≤ maxLen := grownCap_le_maxLen w (0 + n) 0 _ (by unfold maxLen; omega)
  generalize grownCap w (0 + n) 0 5 = G at *
  have hcs : (([] : List Value).toArray ++ Builtin.zeroCells (Value.int .u8 0).cells n ++ Builtin.zeroCells (Value.int .u8 0).cells (G - (0 + n))).size = G * 1 := by
    have e4 : (Value.int .u8 0).cells.size = 1 := rfl
    simp [Builtin.zeroCells, e4]
    omega
  generalize ([] : List Value).toArray ++ Builtin.zeroCells (Value.int .u8 0).cells n ++ Builtin.zeroCells (Value.int .u8 0).cells (G - (0 + n)) = cs at *
  have HO : Hid (OB (w.drew.alloc (.cells cs 5)) w.heap.size (.slice (some ⟨w.heap.size, 0, none⟩) 0 G) []) := hide (World.ownsRow_made w.drew cs G (Nat.le_refl _) hG63 hcs)
  rw [Nat.zero_add] at hrz hG
  have h2 : ¬ ((n : Int) < 0) := by omega
  have hG64 : G ≤ 9223372036854775807 := by unfold maxLen at hG63; omega
  clear hold hcs hG63
  go_enter Try.func57, Try.ntmps57
  go_wp2_with (at_builtin; refine Lib.wpList_append_run _ rfl _ _ _ _ rfl _ _ rfl rfl _ _ (hrz _) ?_)
  go_ret
  exact ⟨_, rfl, unhide HO, (Below.drew (Below.refl _ _)).alloc (Nat.le_refl _) _⟩
theorem step_append_bytes {ops : Array Oper} {o : Oper} {a : Act} {w : World} {K : Act → World → Prop} {Q : Exit → Act → World → Prop} {E : Prop} (hgd : o.guard = none) (s x : Operand)
    (ho : o.op = .call { callee := .builtin .append, args := #[s, x], argTypes := #[22, 22] }) (base : Nat) (v u : Value) (xs ys : List Int) (hs : a.eval s = v) (hx : a.eval x = u)
    (hown : OB w base v xs) (hp : PB w u ys) (hl : xs.length + ys.length ≤ 16777216) (hbase : base ≤ w.heap.size)
    (h : ∀ v' w', OB w' base v' (xs ++ ys) → w.grownBy w' v.ownBlock → (v'.ownBlock = v.ownBlock ∨ v'.ownBlock = some w.heap.size) → K (a.put o.dst v') w') :
    if Region.wanted o (yielded ops a.tmps) = true then Oper.wp Try.prog o a w K Q else E := by
  have hw : Region.wanted o (yielded ops a.tmps) = true := by simp [Region.wanted, hgd]
  rw [if_pos hw]
  obtain ⟨i0, hi, hz0, hz1, hz2⟩ := info_parts Try.info5
  obtain ⟨ao, cap, rfl, hp⟩ := hp
  match ao, hx with
  | none, hx =>
    have hy : ys = [] := by rcases hp with h | ⟨ad, e, _⟩; exact h; cases e
    subst hy
    have hrun := run_append_noneB o.type base cap v xs.length (xs.map (Value.int .u8)) w hown
    unfold Oper.wp
    simp only [List.length_nil] at hx
    simp [execOp, ho, resolve, invoke, builtin, hs, hx, hrun, Result.andThen]
    exact h v w (by simpa using hown) (grown_refl _ _) (.inl rfl)
  | some ad, hx =>
    have hn : ∀ j u, (ys.map (Value.int .u8))[j]? = some u → w.cell? (ad.add j) = some u := by
      rcases hp with rfl | ⟨ad', e, h⟩
      · intro j u hj; simp at hj
      · cases e; exact h
    obtain ⟨v', w', hrun, r1, r2, _, r4⟩ := run_append_own_at (P := Try.prog) w base 22 o.type 5 i0 (.int .u8 0) 1 1 Try.underlying22 hi hz0 hz1 hz2 rfl (by decide) v xs.length (xs.map (Value.int .u8)) hown ad ys.length cap (ys.map (Value.int .u8)) (by simp) hn (bytes_plain ys) (by unfold maxLen; omega) (by omega) hbase
    unfold Oper.wp
    simp [execOp, ho, resolve, invoke, builtin, hs, hx, hrun, Result.andThen]
    refine h v' w' ?_ r2 r4
    unfold OB
    rw [List.map_append, List.length_append]
    exact r1
set_option maxHeartbeats 4000000 in
set_option maxRecDepth 100000 in
theorem concatB3 (g : Nat) (v1 v2 v3 : Value) (xs ys zs : List Int) (w : World) (h0 : w.cell? ⟨g, 0, none⟩ = some v1) (h1 : w.cell? ⟨g, 1, none⟩ = some v2) (h2 : w.cell? ⟨g, 2, none⟩ = some v3)
    (p1 : PB w v1 xs) (p2 : PB w v2 ys) (p3 : PB w v3 zs) (hy : 0 < xs.length + ys.length + zs.length) (hl : xs.length + ys.length + zs.length ≤ 4194304) :
    Calls Try.prog 51 #[.slice (some ⟨g, 0, none⟩) 3 3] w fun e w' => ∃ v, e = .returned v ∧ OB w' w.heap.size v (xs ++ ys ++ zs) ∧ Below w.heap.size w w' := by
  have P1 := hide p1
  have P2 := hide p2
  have P3 := hide p3
  have GR := hide fun w => grow_bytes (xs.length + ys.length + zs.length) w (by omega) hl
  have lg : g < w.heap.size := cell_lt h0
  obtain ⟨a1, k1, rfl, _⟩ := p1
  obtain ⟨a2, k2, rfl, _⟩ := p2
  obtain ⟨a3, k3, rfl, _⟩ := p3
  have e1 : IntKind.i64.wrap ((xs.length : Int) + (ys.length : Int)) = (xs.length : Int) + (ys.length : Int) := by rw [IntKind.wrap_i64]; omega
  have n1 : ¬ ((xs.length : Int) + (ys.length : Int) < 0) := by omega
  have e2 : IntKind.i64.wrap ((xs.length : Int) + (ys.length : Int) + (zs.length : Int)) = ((xs.length + ys.length + zs.length : Nat) : Int) := by rw [IntKind.wrap_i64]; omega
  obtain ⟨n, hn⟩ : ∃ n, xs.length + ys.length + zs.length = n := ⟨_, rfl⟩
  rw [hn] at GR e2
  have n2 : ¬ ((n : Int) < 0) := by omega
  go_enter Try.func51, Try.ntmps51
  go_wp2
  refine wp_loop_rounds 4 ?_
  rw [rounds_succ]
  go_wp2
  rw [rounds_succ]
  go_wp2
  rw [rounds_succ]
  go_wp2
  rw [rounds_succ]
  go_wp2_with fail
  refine (unhide GR _).mono ?_
  rintro _ w0 ⟨v0, rfl, o0, b0⟩
  have HO0 := hide o0
  have HB0 := hide b0
  have c0 := b0.cell (p := ⟨g, 0, none⟩) lg
  rw [h0] at c0
  have c1 := b0.cell (p := ⟨g, 1, none⟩) lg
  rw [h1] at c1
  have c2 := b0.cell (p := ⟨g, 2, none⟩) lg
  rw [h2] at c2
  clear o0 b0
  go_wp2
  refine wp_loop_rounds 4 ?_
  rw [rounds_succ]
  go_wp2_with (first | (at_builtin; refine append_bytes rfl _ _ rfl w.heap.size v0 (.slice a1 xs.length k1) ([]) xs rfl rfl (unhide HO0) ((unhide P1).below (unhide HB0)) (by simp; omega) (unhide HB0).size ?_; intro v1 w1 ho1 hg1 _; have HO1 := hide ho1; have HB1 := hide ((unhide HB0).grown hg1 (unhide HB0).size (fun j hj => ((unhide HO0).lt j hj).1)); have c0 := (unhide HB1).cell (p := ⟨g, 0, none⟩) lg; rw [h0] at c0; have c1 := (unhide HB1).cell (p := ⟨g, 1, none⟩) lg; rw [h1] at c1; have c2 := (unhide HB1).cell (p := ⟨g, 2, none⟩) lg; rw [h2] at c2; clear ho1 hg1))
  rw [rounds_succ]
  go_wp2_with (first | (at_builtin; refine append_bytes rfl _ _ rfl w.heap.size v1 (.slice a2 ys.length k2) ([] ++ xs) ys rfl rfl (unhide HO1) ((unhide P2).below (unhide HB1)) (by simp; omega) (unhide HB1).size ?_; intro v2 w2 ho2 hg2 _; have HO2 := hide ho2; have HB2 := hide ((unhide HB1).grown hg2 (unhide HB1).size (fun j hj => ((unhide HO1).lt j hj).1)); have c0 := (unhide HB2).cell (p := ⟨g, 0, none⟩) lg; rw [h0] at c0; have c1 := (unhide HB2).cell (p := ⟨g, 1, none⟩) lg; rw [h1] at c1; have c2 := (unhide HB2).cell (p := ⟨g, 2, none⟩) lg; rw [h2] at c2; clear ho2 hg2))
  rw [rounds_succ]
  go_wp2_with (first | (at_builtin; refine append_bytes rfl _ _ rfl w.heap.size v2 (.slice a3 zs.length k3) ([] ++ xs ++ ys) zs rfl rfl (unhide HO2) ((unhide P3).below (unhide HB2)) (by simp; omega) (unhide HB2).size ?_; intro v3 w3 ho3 hg3 _; have HO3 := hide ho3; have HB3 := hide ((unhide HB2).grown hg3 (unhide HB2).size (fun j hj => ((unhide HO2).lt j hj).1)); have c0 := (unhide HB3).cell (p := ⟨g, 0, none⟩) lg; rw [h0] at c0; have c1 := (unhide HB3).cell (p := ⟨g, 1, none⟩) lg; rw [h1] at c1; have c2 := (unhide HB3).cell (p := ⟨g, 2, none⟩) lg; rw [h2] at c2; clear ho3 hg3))
  rw [rounds_succ]
  go_wp2
  go_ret
  exact ⟨_, rfl, unhide HO3, unhide HB3⟩
set_option maxHeartbeats 4000000 in
set_option maxRecDepth 100000 in
theorem concatB4 (g : Nat) (v1 v2 v3 v4 : Value) (xs ys zs us : List Int) (w : World) (h0 : w.cell? ⟨g, 0, none⟩ = some v1) (h1 : w.cell? ⟨g, 1, none⟩ = some v2) (h2 : w.cell? ⟨g, 2, none⟩ = some v3) (h3 : w.cell? ⟨g, 3, none⟩ = some v4)
    (p1 : PB w v1 xs) (p2 : PB w v2 ys) (p3 : PB w v3 zs) (p4 : PB w v4 us) (hy : 0 < xs.length + ys.length + zs.length + us.length) (hl : xs.length + ys.length + zs.length + us.length ≤ 4194304) :
    Calls Try.prog 51 #[.slice (some ⟨g, 0, none⟩) 4 4] w fun e w' => ∃ v, e = .returned v ∧ OB w' w.heap.size v (xs ++ ys ++ zs ++ us) ∧ Below w.heap.size w w' := by
  have P1 := hide p1
  have P2 := hide p2
  have P3 := hide p3
  have P4 := hide p4
  have GR := hide fun w => grow_bytes (xs.length + ys.length + zs.length + us.length) w (by omega) hl
  have lg : g < w.heap.size := cell_lt h0
  obtain ⟨a1, k1, rfl, _⟩ := p1
  obtain ⟨a2, k2, rfl, _⟩ := p2
  obtain ⟨a3, k3, rfl, _⟩ := p3
  obtain ⟨a4, k4, rfl, _⟩ := p4
  have e1 : IntKind.i64.wrap ((xs.length : Int) + (ys.length : Int)) = (xs.length : Int) + (ys.length : Int) := by rw [IntKind.wrap_i64]; omega
  have n1 : ¬ ((xs.length : Int) + (ys.length : Int) < 0) := by omega
  have e2 : IntKind.i64.wrap ((xs.length : Int) + (ys.length : Int) + (zs.length : Int)) = (xs.length : Int) + (ys.length : Int) + (zs.length : Int) := by rw [IntKind.wrap_i64]; omega
  have n2 : ¬ ((xs.length : Int) + (ys.length : Int) + (zs.length : Int) < 0) := by omega
  have e3 : IntKind.i64.wrap ((xs.length : Int) + (ys.length : Int) + (zs.length : Int) + (us.length : Int)) = ((xs.length + ys.length + zs.length + us.length : Nat) : Int) := by rw [IntKind.wrap_i64]; omega
  obtain ⟨n, hn⟩ : ∃ n, xs.length + ys.length + zs.length + us.length = n := ⟨_, rfl⟩
  rw [hn] at GR e3
  have n3 : ¬ ((n : Int) < 0) := by omega
  go_enter Try.func51, Try.ntmps51
  go_wp2
  refine wp_loop_rounds 5 ?_
  rw [rounds_succ]
  go_wp2
  rw [rounds_succ]
  go_wp2
  rw [rounds_succ]
  go_wp2
  rw [rounds_succ]
  go_wp2
  rw [rounds_succ]
  go_wp2_with fail
  refine (unhide GR _).mono ?_
  rintro _ w0 ⟨v0, rfl, o0, b0⟩
  have HO0 := hide o0
  have HB0 := hide b0
  have c0 := b0.cell (p := ⟨g, 0, none⟩) lg
  rw [h0] at c0
  have c1 := b0.cell (p := ⟨g, 1, none⟩) lg
  rw [h1] at c1
  have c2 := b0.cell (p := ⟨g, 2, none⟩) lg
  rw [h2] at c2
  have c3 := b0.cell (p := ⟨g, 3, none⟩) lg
  rw [h3] at c3
  clear o0 b0
  go_wp2
  refine wp_loop_rounds 5 ?_
  rw [rounds_succ]
  go_wp2_with (first | (at_builtin; refine append_bytes rfl _ _ rfl w.heap.size v0 (.slice a1 xs.length k1) ([]) xs rfl rfl (unhide HO0) ((unhide P1).below (unhide HB0)) (by simp; omega) (unhide HB0).size ?_; intro v1 w1 ho1 hg1 _; have HO1 := hide ho1; have HB1 := hide ((unhide HB0).grown hg1 (unhide HB0).size (fun j hj => ((unhide HO0).lt j hj).1)); have c0 := (unhide HB1).cell (p := ⟨g, 0, none⟩) lg; rw [h0] at c0; have c1 := (unhide HB1).cell (p := ⟨g, 1, none⟩) lg; rw [h1] at c1; have c2 := (unhide HB1).cell (p := ⟨g, 2, none⟩) lg; rw [h2] at c2; have c3 := (unhide HB1).cell (p := ⟨g, 3, none⟩) lg; rw [h3] at c3; clear ho1 hg1))
  rw [rounds_succ]
  go_wp2_with (first | (at_builtin; refine append_bytes rfl _ _ rfl w.heap.size v1 (.slice a2 ys.length k2) ([] ++ xs) ys rfl rfl (unhide HO1) ((unhide P2).below (unhide HB1)) (by simp; omega) (unhide HB1).size ?_; intro v2 w2 ho2 hg2 _; have HO2 := hide ho2; have HB2 := hide ((unhide HB1).grown hg2 (unhide HB1).size (fun j hj => ((unhide HO1).lt j hj).1)); have c0 := (unhide HB2).cell (p := ⟨g, 0, none⟩) lg; rw [h0] at c0; have c1 := (unhide HB2).cell (p := ⟨g, 1, none⟩) lg; rw [h1] at c1; have c2 := (unhide HB2).cell (p := ⟨g, 2, none⟩) lg; rw [h2] at c2; have c3 := (unhide HB2).cell (p := ⟨g, 3, none⟩) lg; rw [h3] at c3; clear ho2 hg2))
  rw [rounds_succ]
  go_wp2_with (first | (at_builtin; refine append_bytes rfl _ _ rfl w.heap.size v2 (.slice a3 zs.length k3) ([] ++ xs ++ ys) zs rfl rfl (unhide HO2) ((unhide P3).below (unhide HB2)) (by simp; omega) (unhide HB2).size ?_; intro v3 w3 ho3 hg3 _; have HO3 := hide ho3; have HB3 := hide ((unhide HB2).grown hg3 (unhide HB2).size (fun j hj => ((unhide HO2).lt j hj).1)); have c0 := (unhide HB3).cell (p := ⟨g, 0, none⟩) lg; rw [h0] at c0; have c1 := (unhide HB3).cell (p := ⟨g, 1, none⟩) lg; rw [h1] at c1; have c2 := (unhide HB3).cell (p := ⟨g, 2, none⟩) lg; rw [h2] at c2; have c3 := (unhide HB3).cell (p := ⟨g, 3, none⟩) lg; rw [h3] at c3; clear ho3 hg3))
  rw [rounds_succ]
  go_wp2_with (first | (at_builtin; refine append_bytes rfl _ _ rfl w.heap.size v3 (.slice a4 us.length k4) ([] ++ xs ++ ys ++ zs) us rfl rfl (unhide HO3) ((unhide P4).below (unhide HB3)) (by simp; omega) (unhide HB3).size ?_; intro v4 w4 ho4 hg4 _; have HO4 := hide ho4; have HB4 := hide ((unhide HB3).grown hg4 (unhide HB3).size (fun j hj => ((unhide HO3).lt j hj).1)); have c0 := (unhide HB4).cell (p := ⟨g, 0, none⟩) lg; rw [h0] at c0; have c1 := (unhide HB4).cell (p := ⟨g, 1, none⟩) lg; rw [h1] at c1; have c2 := (unhide HB4).cell (p := ⟨g, 2, none⟩) lg; rw [h2] at c2; have c3 := (unhide HB4).cell (p := ⟨g, 3, none⟩) lg; rw [h3] at c3; clear ho4 hg4))
  rw [rounds_succ]
  go_wp2
  go_ret
  exact ⟨_, rfl, unhide HO4, unhide HB4⟩
end Go.Proofs.Ytkjpjgecongkpaa
