/- Texts that belong together: ByteOwn, NotePlain. -/
import Derived.Test.YtcclbejpgiogaaaGreatDoorNBAA
import Derived.Test.YtcclbejpgiogaaaGreatDoorNBAE
import Derived.Test.YtcclbejpgiogaaaGreatDoorNBAF
import Derived.Test.YtcclbejpgiogaaaGreatDoorNBAP
import Derived.Lib.AppendZerosOnto
import Derived.Laws.EntriesVeiled
import Derived.Maps.AppendAt
import Derived.Laws.OwnMore
import Derived.Deep.RegionLaw
import Derived.Test.YtcclbejpgiogaaaGreatDoorNBAL
import Derived.Test.YtcclbejpgiogaaaGreatDoorNBAS
set_option maxRecDepth 100000
set_option maxHeartbeats 4000000
namespace Go.Proofs.YtcclbejpgiogaaaGreatDoor
open Go.RowKit

theorem OB.kp {w w' : World} {base : Nat} {X : Nat → Prop} {v : Value} {xs : List Int} (h : OB w base v xs) (k : Kp w w' X) (hv : ∀ k, v.ownBlock = some k → ¬ X k) : OB w' base v xs := by
 refine ⟨h.1, ?_⟩
 rcases h.2 with hn | ⟨g, cap, cur, rfl, hb, hgg, rest⟩
 ·exact .inl hn
 ·refine .inr ⟨g, cap, cur, rfl, hb, ?_, rest⟩
  rw [k.block g (Array.getElem?_eq_some_iff.1 hgg).1 (hv g rfl)]
  exact hgg

theorem OB.mono {w : World} {base base' : Nat} {v : Value} {xs : List Int} (h : OB w base v xs) (hb : base' ≤ base) : OB w base' v xs := by
 refine ⟨h.1, ?_⟩
 rcases h.2 with hn | ⟨g, cap, cur, rfl, hg, rest⟩
 ·exact .inl hn
 ·exact .inr ⟨g, cap, cur, rfl, Nat.le_trans hb hg, rest⟩

theorem OB.form {w : World} {base : Nat} {v : Value} {xs : List Int} (h : OB w base v xs) : ∃ ao ca, v = .slice ao xs.length ca := by
 rcases h.2 with ⟨rfl, h0⟩ | ⟨g, cap, cur, rfl, _⟩
 ·exact ⟨none, 0, by rw [h0]⟩
 ·exact ⟨_, _, rfl⟩

theorem bytes_plain (xs : List Int) (u : Value) (h : u ∈ xs.map (Value.int .u8)) : u.oneCell' = true := by
 obtain ⟨x, _, rfl⟩ := List.mem_map.1 h; rfl

theorem bnews_cells {w : World} {g off : Nat} {xs : List Int} (h : ∀ k, k < xs.length → w.cell? ⟨g, off + k, none⟩ = some (.int .u8 (xs.getD k 0))) :
 ∀ j u, (xs.map (Value.int .u8))[j]? = some u → w.cell? ((⟨g, off, none⟩ : Addr).add j) = some u := by
 intro j u hj
 rw [List.getElem?_map] at hj
 obtain ⟨x, hx, rfl⟩ := Option.map_eq_some_iff.1 hj
 have hlt := (List.getElem?_eq_some_iff.1 hx).1
 have e : ((⟨g, off, none⟩ : Addr).add j) = ⟨g, off + j, none⟩ := by unfold Addr.add; split <;> simp_all
 rw [e, h j hlt]
 simp [List.getD_eq_getElem?_getD, hx]

def PB (w : World) (v : Value) (xs : List Int) : Prop :=
 ∃ ao cap, v = .slice ao xs.length cap ∧ (xs = [] ∨ ∃ ad : Addr, ao = some ad ∧ ∀ j u, (xs.map (Value.int .u8))[j]? = some u → w.cell? (ad.add j) = some u)
theorem PB.below {w w' : World} {v : Value} {xs : List Int} (h : PB w v xs) (hb : Below w.heap.size w w') : PB w' v xs := by
 obtain ⟨ao, cap, rfl, h⟩ := h
 refine ⟨ao, cap, rfl, ?_⟩
 rcases h with h | ⟨ad, rfl, h⟩
 ·exact .inl h
 ·exact .inr ⟨ad, rfl, fun j u hj => (hb.cell (cell_lt (h j u hj))).trans (h j u hj)⟩
theorem RB.pb {w : World} {v : Value} {xs : List Int} (h : RB w v xs) : PB w v xs := by
 obtain ⟨hl, ao, cap, rfl, _, h⟩ := h
 refine ⟨ao, cap, rfl, ?_⟩
 rcases h with h | ⟨b, off, rfl, h⟩
 ·exact .inl h
 ·exact .inr ⟨_, rfl, bnews_cells h⟩
theorem OB.pb {w : World} {base : Nat} {v : Value} {xs : List Int} (h : OB w base v xs) (hl : xs.length ≤ 140737488355328) : PB w v xs := (h.rb hl).pb
theorem OB.lt {w : World} {base : Nat} {v : Value} {xs : List Int} (h : OB w base v xs) : ∀ j, v.ownBlock = some j → base ≤ j ∧ j < w.heap.size := World.ownsRow.lt h
theorem run_append_noneB (ty : TypeId) (base cap : Nat) (v : Value) (n : Nat) (xs : List Value) (w : World) (hown : w.ownsRow base 5 1 v n xs) :
 (Builtin.append_ #[22, 22] ty #[v, .slice none 0 cap]).run Tryz.prog w = .ok v w := by
 obtain ⟨i0, hi, hz0, hz1, hz2⟩ := info_parts Tryz.info5
 rcases hown.2 with ⟨rfl, rfl⟩ | ⟨g, cp, cur, rfl, _, _, hnc, _⟩
 ·simp [Builtin.append_, run_underlying Tryz.underlying22, sizeOf, typeInfo, hi, Builtin.lenOf, Builtin.firstCells]
 ·simp [Builtin.append_, run_underlying Tryz.underlying22, sizeOf, typeInfo, hi, Builtin.lenOf, Builtin.firstCells, hnc, storeCells]
theorem append_bytes {ops : Array Oper} {rest : List Oper} {o : Oper} {a : Act} {Q : Exit → Act → World → Prop} {w : World} (hgd : o.guard = none) (s x : Operand)
 (ho : o.op = .call { callee := .builtin .append, args := #[s, x], argTypes := #[22, 22] }) (base : Nat) (v u : Value) (xs ys : List Int) (hs : a.eval s = v) (hx : a.eval x = u)
 (hown : OB w base v xs) (hp : PB w u ys) (hl : xs.length + ys.length ≤ 16777216) (hbase : base ≤ w.heap.size)
 (h : ∀ v' w', OB w' base v' (xs ++ ys) → w.grownBy w' v.ownBlock → (v'.ownBlock = v.ownBlock ∨ v'.ownBlock = some w.heap.size) → wpList Tryz.prog ops Q rest (a.put o.dst v') w') :
 wpList Tryz.prog ops Q (o :: rest) a w := by
 obtain ⟨i0, hi, hz0, hz1, hz2⟩ := info_parts Tryz.info5
 obtain ⟨ao, cap, rfl, hp⟩ := hp
 match ao, hx with
 | none, hx =>
  have hy : ys = [] := by rcases hp with h | ⟨ad, e, _⟩; exact h; cases e
  subst hy
  refine wpList_plain hgd fun K hK => ?_
  have hrun := run_append_noneB o.type base cap v xs.length (xs.map (Value.int .u8)) w hown
  unfold Oper.wp
  simp only [List.length_nil] at hx
  simp [execOp, ho, resolve, invoke, builtin, hs, hx, hrun, Result.andThen]
  exact hK _ _ (h v w (by simpa using hown) (grown_refl _ _) (.inl rfl))
 | some ad, hx =>
  have hn : ∀ j u, (ys.map (Value.int .u8))[j]? = some u → w.cell? (ad.add j) = some u := by
   rcases hp with rfl | ⟨ad', e, h⟩
   ·intro j u hj; simp at hj
   ·cases e; exact h
  refine wpList_append_own_at _ hgd s x 22 ho base 5 i0 (.int .u8 0) 1 1 Tryz.underlying22 hi hz0 hz1 hz2 rfl (by decide) v xs.length (xs.map (Value.int .u8)) hs hown ad ys.length cap (ys.map (Value.int .u8)) hx (by simp) hn (bytes_plain ys) (by unfold maxLen; omega) (by omega) hbase ?_
  intro v' w' ho' hg' _ hb'
  refine h v' w' ?_ hg' hb'
  unfold OB
  rw [List.map_append, List.length_append]
  exact ho'
theorem grow_bytes (n : Nat) (w : World) (hn : 0 < n) (hl : n ≤ 4194304) :
 Calls Tryz.prog 63 #[.slice none 0 0, .int .i64 n] w fun e w' => ∃ v, e = .returned v ∧ OB w' w.heap.size v [] ∧ Below w.heap.size w w' := by
 obtain ⟨i0, hi, hz0, hz1, hz2⟩ := info_parts Tryz.info5
 have hold : (Builtin.firstCells i0.size 0 (.slice none 0 0)).run Tryz.prog w.drew = .ok ([] : List Value).toArray w.drew := run_firstCells_none w.drew i0.size 0 0 0
 have hrz : ∀ ty, (Builtin.append_ #[22, 3] ty #[.slice none 0 0, .int .i64 (n : Int)]).run Tryz.prog w =
  .ok (.slice (some ⟨w.heap.size, 0, none⟩) (0 + n) (grownCap w (0 + n) 0 5)) (w.drew.alloc (.cells (([] : List Value).toArray ++ Builtin.zeroCells (Value.int .u8 0).cells n ++ Builtin.zeroCells (Value.int .u8 0).cells (grownCap w (0 + n) 0 5 - (0 + n))) 5)) := fun ty =>
  Lib.run_append_grow_zeros w 22 3 ty 5 i0 (Value.int .u8 0) .i64 .i64 Tryz.underlying22 Tryz.underlying3 hi hz0 none 0 0 [] hold n hn (by rw [hz1]; decide) (by omega) (by omega)
   (by rw [hz2]; omega) (growslice_fits (by omega) (by rw [hz2]; omega))
 have hG : 0 + n ≤ grownCap w (0 + n) 0 5 := grownCap_ge w _ _ _
 have hG63 : grownCap w (0 + n) 0 5 ≤ maxLen := grownCap_le_maxLen w (0 + n) 0 _ (by unfold maxLen; omega)
 generalize grownCap w (0 + n) 0 5 = G at *
 have hcs : (([] : List Value).toArray ++ Builtin.zeroCells (Value.int .u8 0).cells n ++ Builtin.zeroCells (Value.int .u8 0).cells (G - (0 + n))).size = G * 1 := by
  have e4 : (Value.int .u8 0).cells.size = 1 := rfl
  simp [Builtin.zeroCells, e4]
  omega
 generalize ([] : List Value).toArray ++ Builtin.zeroCells (Value.int .u8 0).cells n ++ Builtin.zeroCells (Value.int .u8 0).cells (G - (0 + n)) = cs at *
 have HO : Hid (OB (w.drew.alloc (.cells cs 5)) w.heap.size (.slice (some ⟨w.heap.size, 0, none⟩) 0 G) []) := hide (World.ownsRow_made w.drew cs G (Nat.le_refl _) hG63 hcs)
 rw [Nat.zero_add] at hrz hG
 have h2 : ¬ ((n : Int) < 0) := by omega
 have hG64 : G ≤ 9223372036854775807 := by unfold maxLen at hG63; omega
 clear hold hcs hG63
 go_enter Tryz.func63, Tryz.ntmps63
 go_wp2_with (at_builtin; refine Lib.wpList_append_run _ rfl _ _ _ _ rfl _ _ rfl rfl _ _ (hrz _) ?_)
 go_ret
 exact ⟨_, rfl, HO.out, (Below.drew (Below.refl _ _)).alloc (Nat.le_refl _) _⟩
theorem step_append_bytes {ops : Array Oper} {o : Oper} {a : Act} {w : World} {K : Act → World → Prop} {Q : Exit → Act → World → Prop} {E : Prop} (hgd : o.guard = none) (s x : Operand)
 (ho : o.op = .call { callee := .builtin .append, args := #[s, x], argTypes := #[22, 22] }) (base : Nat) (v u : Value) (xs ys : List Int) (hs : a.eval s = v) (hx : a.eval x = u)
 (hown : OB w base v xs) (hp : PB w u ys) (hl : xs.length + ys.length ≤ 16777216) (hbase : base ≤ w.heap.size)
 (h : ∀ v' w', OB w' base v' (xs ++ ys) → w.grownBy w' v.ownBlock → (v'.ownBlock = v.ownBlock ∨ v'.ownBlock = some w.heap.size) → K (a.put o.dst v') w') :
 if Region.wanted o (yielded ops a.tmps) = true then Oper.wp Tryz.prog o a w K Q else E := by
 have hw : Region.wanted o (yielded ops a.tmps) = true := by simp [Region.wanted, hgd]
 rw [if_pos hw]
 obtain ⟨i0, hi, hz0, hz1, hz2⟩ := info_parts Tryz.info5
 obtain ⟨ao, cap, rfl, hp⟩ := hp
 match ao, hx with
 | none, hx =>
  have hy : ys = [] := by rcases hp with h | ⟨ad, e, _⟩; exact h; cases e
  subst hy
  have hrun := run_append_noneB o.type base cap v xs.length (xs.map (Value.int .u8)) w hown
  unfold Oper.wp
  simp only [List.length_nil] at hx
  simp [execOp, ho, resolve, invoke, builtin, hs, hx, hrun, Result.andThen]
  exact h v w (by simpa using hown) (grown_refl _ _) (.inl rfl)
 | some ad, hx =>
  have hn : ∀ j u, (ys.map (Value.int .u8))[j]? = some u → w.cell? (ad.add j) = some u := by
   rcases hp with rfl | ⟨ad', e, h⟩
   ·intro j u hj; simp at hj
   ·cases e; exact h
  obtain ⟨v', w', hrun, r1, r2, _, r4⟩ := run_append_own_at (P := Tryz.prog) w base 22 o.type 5 i0 (.int .u8 0) 1 1 Tryz.underlying22 hi hz0 hz1 hz2 rfl (by decide) v xs.length (xs.map (Value.int .u8)) hown ad ys.length cap (ys.map (Value.int .u8)) (by simp) hn (bytes_plain ys) (by unfold maxLen; omega) (by omega) hbase
  unfold Oper.wp
  simp [execOp, ho, resolve, invoke, builtin, hs, hx, hrun, Result.andThen]
  refine h v' w' ?_ r2 r4
  unfold OB
  rw [List.map_append, List.length_append]
  exact r1
theorem concatB3 (g : Nat) (v1 v2 v3 : Value) (xs ys zs : List Int) (w : World) (h0 : w.cell? ⟨g, 0, none⟩ = some v1) (h1 : w.cell? ⟨g, 1, none⟩ = some v2) (h2 : w.cell? ⟨g, 2, none⟩ = some v3)
 (p1 : PB w v1 xs) (p2 : PB w v2 ys) (p3 : PB w v3 zs) (hy : 0 < xs.length + ys.length + zs.length) (hl : xs.length + ys.length + zs.length ≤ 4194304) :
 Calls Tryz.prog 27 #[.slice (some ⟨g, 0, none⟩) 3 3] w fun e w' => ∃ v, e = .returned v ∧ OB w' w.heap.size v (xs ++ ys ++ zs) ∧ Below w.heap.size w w' := by
 have P1 := hide p1
 have P2 := hide p2
 have P3 := hide p3
 have GR := hide fun w => grow_bytes (xs.length + ys.length + zs.length) w (by omega) hl
 have lg : g < w.heap.size := cell_lt h0
 obtain ⟨a1, k1, rfl, _⟩ := p1
 obtain ⟨a2, k2, rfl, _⟩ := p2
 obtain ⟨a3, k3, rfl, _⟩ := p3
 have e1 : IntKind.i64.wrap ((xs.length : Int) + (ys.length : Int)) = (xs.length : Int) + (ys.length : Int) := by rw [IntKind.wrap_i64]; omega
 have n1 : ¬ ((xs.length : Int) + (ys.length : Int) < 0) := by omega
 have e2 : IntKind.i64.wrap ((xs.length : Int) + (ys.length : Int) + (zs.length : Int)) = ((xs.length + ys.length + zs.length : Nat) : Int) := by rw [IntKind.wrap_i64]; omega
 obtain ⟨n, hn⟩ : ∃ n, xs.length + ys.length + zs.length = n := ⟨_, rfl⟩
 rw [hn] at GR e2
 have n2 : ¬ ((n : Int) < 0) := by omega
 go_enter Tryz.func27, Tryz.ntmps27
 go_wp2
 refine wp_loop_rounds 4 ?_
 rw [rounds_succ]
 go_wp2
 rw [rounds_succ]
 go_wp2
 rw [rounds_succ]
 go_wp2
 rw [rounds_succ]
 go_wp2_with fail
 refine (GR.out _).mono ?_
 rintro _ w0 ⟨v0, rfl, o0, b0⟩
 have HO0 := hide o0
 have HB0 := hide b0
 have c0 := b0.cell (p := ⟨g, 0, none⟩) lg
 rw [h0] at c0
 have c1 := b0.cell (p := ⟨g, 1, none⟩) lg
 rw [h1] at c1
 have c2 := b0.cell (p := ⟨g, 2, none⟩) lg
 rw [h2] at c2
 clear o0 b0
 go_wp2
 refine wp_loop_rounds 4 ?_
 rw [rounds_succ]
 go_wp2_with (first | (at_builtin; refine append_bytes rfl _ _ rfl w.heap.size v0 (.slice a1 xs.length k1) ([]) xs rfl rfl HO0.out (P1.out.below HB0.out) (by simp; omega) HB0.out.size ?_; intro v1 w1 ho1 hg1 _; have HO1 := hide ho1; have HB1 := hide (HB0.out.grown hg1 HB0.out.size (fun j hj => (HO0.out.lt j hj).1)); have c0 := HB1.out.cell (p := ⟨g, 0, none⟩) lg; rw [h0] at c0; have c1 := HB1.out.cell (p := ⟨g, 1, none⟩) lg; rw [h1] at c1; have c2 := HB1.out.cell (p := ⟨g, 2, none⟩) lg; rw [h2] at c2; clear ho1 hg1))
 rw [rounds_succ]
 go_wp2_with (first | (at_builtin; refine append_bytes rfl _ _ rfl w.heap.size v1 (.slice a2 ys.length k2) ([] ++ xs) ys rfl rfl HO1.out (P2.out.below HB1.out) (by simp; omega) HB1.out.size ?_; intro v2 w2 ho2 hg2 _; have HO2 := hide ho2; have HB2 := hide (HB1.out.grown hg2 HB1.out.size (fun j hj => (HO1.out.lt j hj).1)); have c0 := HB2.out.cell (p := ⟨g, 0, none⟩) lg; rw [h0] at c0; have c1 := HB2.out.cell (p := ⟨g, 1, none⟩) lg; rw [h1] at c1; have c2 := HB2.out.cell (p := ⟨g, 2, none⟩) lg; rw [h2] at c2; clear ho2 hg2))
 rw [rounds_succ]
 go_wp2_with (first | (at_builtin; refine append_bytes rfl _ _ rfl w.heap.size v2 (.slice a3 zs.length k3) ([] ++ xs ++ ys) zs rfl rfl HO2.out (P3.out.below HB2.out) (by simp; omega) HB2.out.size ?_; intro v3 w3 ho3 hg3 _; have HO3 := hide ho3; have HB3 := hide (HB2.out.grown hg3 HB2.out.size (fun j hj => (HO2.out.lt j hj).1)); have c0 := HB3.out.cell (p := ⟨g, 0, none⟩) lg; rw [h0] at c0; have c1 := HB3.out.cell (p := ⟨g, 1, none⟩) lg; rw [h1] at c1; have c2 := HB3.out.cell (p := ⟨g, 2, none⟩) lg; rw [h2] at c2; clear ho3 hg3))
 rw [rounds_succ]
 go_wp2
 go_ret
 exact ⟨_, rfl, HO3.out, HB3.out⟩
theorem concatB4 (g : Nat) (v1 v2 v3 v4 : Value) (xs ys zs us : List Int) (w : World) (h0 : w.cell? ⟨g, 0, none⟩ = some v1) (h1 : w.cell? ⟨g, 1, none⟩ = some v2) (h2 : w.cell? ⟨g, 2, none⟩ = some v3) (h3 : w.cell? ⟨g, 3, none⟩ = some v4)
 (p1 : PB w v1 xs) (p2 : PB w v2 ys) (p3 : PB w v3 zs) (p4 : PB w v4 us) (hy : 0 < xs.length + ys.length + zs.length + us.length) (hl : xs.length + ys.length + zs.length + us.length ≤ 4194304) :
 Calls Tryz.prog 27 #[.slice (some ⟨g, 0, none⟩) 4 4] w fun e w' => ∃ v, e = .returned v ∧ OB w' w.heap.size v (xs ++ ys ++ zs ++ us) ∧ Below w.heap.size w w' := by
 have P1 := hide p1
 have P2 := hide p2
 have P3 := hide p3
 have P4 := hide p4
 have GR := hide fun w => grow_bytes (xs.length + ys.length + zs.length + us.length) w (by omega) hl
 have lg : g < w.heap.size := cell_lt h0
 obtain ⟨a1, k1, rfl, _⟩ := p1
 obtain ⟨a2, k2, rfl, _⟩ := p2
 obtain ⟨a3, k3, rfl, _⟩ := p3
 obtain ⟨a4, k4, rfl, _⟩ := p4
 have e1 : IntKind.i64.wrap ((xs.length : Int) + (ys.length : Int)) = (xs.length : Int) + (ys.length : Int) := by rw [IntKind.wrap_i64]; omega
 have n1 : ¬ ((xs.length : Int) + (ys.length : Int) < 0) := by omega
 have e2 : IntKind.i64.wrap ((xs.length : Int) + (ys.length : Int) + (zs.length : Int)) = (xs.length : Int) + (ys.length : Int) + (zs.length : Int) := by rw [IntKind.wrap_i64]; omega
 have n2 : ¬ ((xs.length : Int) + (ys.length : Int) + (zs.length : Int) < 0) := by omega
 have e3 : IntKind.i64.wrap ((xs.length : Int) + (ys.length : Int) + (zs.length : Int) + (us.length : Int)) = ((xs.length + ys.length + zs.length + us.length : Nat) : Int) := by rw [IntKind.wrap_i64]; omega
 obtain ⟨n, hn⟩ : ∃ n, xs.length + ys.length + zs.length + us.length = n := ⟨_, rfl⟩
 rw [hn] at GR e3
 have n3 : ¬ ((n : Int) < 0) := by omega
 go_enter Tryz.func27, Tryz.ntmps27
 go_wp2
 refine wp_loop_rounds 5 ?_
 rw [rounds_succ]
 go_wp2
 rw [rounds_succ]
 go_wp2
 rw [rounds_succ]
 go_wp2
 rw [rounds_succ]
 go_wp2
 rw [rounds_succ]
 go_wp2_with fail
 refine (GR.out _).mono ?_
 rintro _ w0 ⟨v0, rfl, o0, b0⟩
 have HO0 := hide o0
 have HB0 := hide b0
 have c0 := b0.cell (p := ⟨g, 0, none⟩) lg
 rw [h0] at c0
 have c1 := b0.cell (p := ⟨g, 1, none⟩) lg
 rw [h1] at c1
 have c2 := b0.cell (p := ⟨g, 2, none⟩) lg
 rw [h2] at c2
 have c3 := b0.cell (p := ⟨g, 3, none⟩) lg
 rw [h3] at c3
 clear o0 b0
 go_wp2
 refine wp_loop_rounds 5 ?_
 rw [rounds_succ]
 go_wp2_with (first | (at_builtin; refine append_bytes rfl _ _ rfl w.heap.size v0 (.slice a1 xs.length k1) ([]) xs rfl rfl HO0.out (P1.out.below HB0.out) (by simp; omega) HB0.out.size ?_; intro v1 w1 ho1 hg1 _; have HO1 := hide ho1; have HB1 := hide (HB0.out.grown hg1 HB0.out.size (fun j hj => (HO0.out.lt j hj).1)); have c0 := HB1.out.cell (p := ⟨g, 0, none⟩) lg; rw [h0] at c0; have c1 := HB1.out.cell (p := ⟨g, 1, none⟩) lg; rw [h1] at c1; have c2 := HB1.out.cell (p := ⟨g, 2, none⟩) lg; rw [h2] at c2; have c3 := HB1.out.cell (p := ⟨g, 3, none⟩) lg; rw [h3] at c3; clear ho1 hg1))
 rw [rounds_succ]
 go_wp2_with (first | (at_builtin; refine append_bytes rfl _ _ rfl w.heap.size v1 (.slice a2 ys.length k2) ([] ++ xs) ys rfl rfl HO1.out (P2.out.below HB1.out) (by simp; omega) HB1.out.size ?_; intro v2 w2 ho2 hg2 _; have HO2 := hide ho2; have HB2 := hide (HB1.out.grown hg2 HB1.out.size (fun j hj => (HO1.out.lt j hj).1)); have c0 := HB2.out.cell (p := ⟨g, 0, none⟩) lg; rw [h0] at c0; have c1 := HB2.out.cell (p := ⟨g, 1, none⟩) lg; rw [h1] at c1; have c2 := HB2.out.cell (p := ⟨g, 2, none⟩) lg; rw [h2] at c2; have c3 := HB2.out.cell (p := ⟨g, 3, none⟩) lg; rw [h3] at c3; clear ho2 hg2))
 rw [rounds_succ]
 go_wp2_with (first | (at_builtin; refine append_bytes rfl _ _ rfl w.heap.size v2 (.slice a3 zs.length k3) ([] ++ xs ++ ys) zs rfl rfl HO2.out (P3.out.below HB2.out) (by simp; omega) HB2.out.size ?_; intro v3 w3 ho3 hg3 _; have HO3 := hide ho3; have HB3 := hide (HB2.out.grown hg3 HB2.out.size (fun j hj => (HO2.out.lt j hj).1)); have c0 := HB3.out.cell (p := ⟨g, 0, none⟩) lg; rw [h0] at c0; have c1 := HB3.out.cell (p := ⟨g, 1, none⟩) lg; rw [h1] at c1; have c2 := HB3.out.cell (p := ⟨g, 2, none⟩) lg; rw [h2] at c2; have c3 := HB3.out.cell (p := ⟨g, 3, none⟩) lg; rw [h3] at c3; clear ho3 hg3))
 rw [rounds_succ]
 go_wp2_with (first | (at_builtin; refine append_bytes rfl _ _ rfl w.heap.size v3 (.slice a4 us.length k4) ([] ++ xs ++ ys ++ zs) us rfl rfl HO3.out (P4.out.below HB3.out) (by simp; omega) HB3.out.size ?_; intro v4 w4 ho4 hg4 _; have HO4 := hide ho4; have HB4 := hide (HB3.out.grown hg4 HB3.out.size (fun j hj => (HO3.out.lt j hj).1)); have c0 := HB4.out.cell (p := ⟨g, 0, none⟩) lg; rw [h0] at c0; have c1 := HB4.out.cell (p := ⟨g, 1, none⟩) lg; rw [h1] at c1; have c2 := HB4.out.cell (p := ⟨g, 2, none⟩) lg; rw [h2] at c2; have c3 := HB4.out.cell (p := ⟨g, 3, none⟩) lg; rw [h3] at c3; clear ho4 hg4))
 rw [rounds_succ]
 go_wp2
 go_ret
 exact ⟨_, rfl, HO4.out, HB4.out⟩
end Go.Proofs.YtcclbejpgiogaaaGreatDoor
namespace Go.Proofs.YtcclbejpgiogaaaGreatDoor
set_option linter.unusedSectionVars false
variable [∀ (a b c d : Int), Decidable (Ok4 a b c d)]
variable [∀ (a b c d : Nat), Decidable (okN a b c d)]
variable [∀ (last : Int) (s : St), Decidable (GoodSt last s)]
variable [∀ (x : T4), Decidable (OkT x)]
variable [∀ (n : Int) (s : List Int), Decidable (OkL n s)]
variable [∀ (n f : Int), Decidable (COk n f)]

def StandsAt (xs : List Int) (p : Int) (ys : List Int) (q : Int) : Prop := ∃ pre post, xs = pre ++ ys ++ post ∧ p = (pre.length : Int) ∧ q = (pre.length : Int) + ys.length
theorem stands_le {xs : List Int} {p : Int} {a : List Int} {q : Int} (h : StandsAt xs p a q) : 0 ≤ p ∧ q = p + a.length ∧ q ≤ xs.length := by
 obtain ⟨pre, post, rfl, rfl, rfl⟩ := h
 refine ⟨by omega, by omega, ?_⟩
 simp only [List.length_append]; omega
theorem stands_nil {xs : List Int} {p q : Int} : StandsAt xs p [] q ↔ q = p ∧ 0 ≤ p ∧ p ≤ xs.length := by
 constructor
 ·intro h
  have := stands_le h
  simp at this
  omega
 ·rintro ⟨rfl, h0, h1⟩
  obtain ⟨k, rfl⟩ := Int.eq_ofNat_of_zero_le h0
  refine ⟨xs.take k, xs.drop k, by simp, ?_, ?_⟩ <;> simp <;> omega
theorem stands_app {xs : List Int} {p : Int} {a b : List Int} {q : Int} : StandsAt xs p (a ++ b) q ↔ ∃ r, StandsAt xs p a r ∧ StandsAt xs r b q := by
 constructor
 ·rintro ⟨pre, post, rfl, rfl, rfl⟩
  refine ⟨(pre.length : Int) + a.length, ⟨pre, b ++ post, by simp, rfl, rfl⟩, ⟨pre ++ a, post, by simp, by simp, by simp; omega⟩⟩
 ·rintro ⟨r, ⟨pre, post, h, rfl, rfl⟩, ⟨pre', post', h', hr, rfl⟩⟩
  have hl : (pre ++ a).length = pre'.length := by simp; omega
  have e : (pre ++ a) ++ post = pre' ++ (b ++ post') := by rw [← h, h', List.append_assoc]
  obtain ⟨e1, e2⟩ := List.append_inj e hl
  refine ⟨pre, post', ?_, rfl, ?_⟩
  ·rw [h, e2]; simp
  ·rw [← hl]; simp; omega
theorem stands_cut {xs : List Int} {p : Int} {a : List Int} {q : Int} (h : StandsAt xs p a q) : ∃ k : Nat, p = k ∧ q = ((k + a.length : Nat) : Int) ∧ k + a.length ≤ xs.length ∧ (xs.drop k).take a.length = a := by
 obtain ⟨pre, post, rfl, rfl, rfl⟩ := h
 exact ⟨pre.length, rfl, by omega, by simp, by simp⟩
theorem stands_mk {xs : List Int} {k e : Nat} {a : List Int} (hl : k + e ≤ xs.length) (h : (xs.drop k).take e = a) : StandsAt xs k a ((k : Int) + e) := by
 have hal : a.length = e := by rw [← h]; simp; omega
 refine ⟨xs.take k, xs.drop (k + e), ?_, ?_, ?_⟩
 ·rw [← h, List.append_assoc, ← List.drop_drop, List.take_append_drop, List.take_append_drop]
 ·simp; omega
 ·rw [hal]; simp; omega
theorem stands_one {xs : List Int} {k : Nat} {c : Int} (hk : k < xs.length) (h : xs.getD k 0 = c) : StandsAt xs k [c] ((k : Int) + 1) := by
 refine stands_mk (e := 1) (by omega) ?_
 rw [List.drop_eq_getElem_cons hk, List.take_succ_cons, List.take_zero]
 rw [List.getD_eq_getElem?_getD, List.getElem?_eq_getElem hk] at h
 simpa using h

theorem getNum_iff {xs : List Int} (hb : BytesL xs) (p m q : Int) : getNum xs p = some (m, q) ↔ (0 ≤ m ∧ m ≤ 2147483647) ∧ StandsAt xs p (putAns m) q := by
 constructor
 ·intro h
  obtain ⟨k, e, rfl, rfl, h5, h0, h1, h6⟩ := getNum_back xs hb p m q h
  exact ⟨⟨h0, h1⟩, stands_mk h5 h6⟩
 ·rintro ⟨⟨h0, h1⟩, pre, post, rfl, rfl, rfl⟩
  obtain ⟨n, rfl⟩ := Int.eq_ofNat_of_zero_le h0
  rw [putAns_yes n (by omega), getNum_nat]
  have := getF_put pre post 4 n 0 0 (by omega) (by omega) (by omega) (by simp; omega)
  simpa using this
theorem bs_bytes (s : ByteArray) : BytesL (bs s) := by
 intro y hy
 simp only [bs, List.mem_map] at hy
 obtain ⟨b, _, rfl⟩ := hy
 have := b.toNat_lt
 omega
theorem getText_iff {xs : List Int} (hb : BytesL xs) (p : Int) (s : ByteArray) (q : Int) : getText xs p = some (s, q) ↔ s.size ≤ 2147483647 ∧ StandsAt xs p (textAns s) q := by
 unfold textAns
 constructor
 ·intro h
  unfold getText at h
  cases hg : getNum xs p with
  | none => rw [hg] at h; cases h
  | some x =>
   obtain ⟨n, r⟩ := x
   rw [hg] at h
   obtain ⟨⟨h0, h1⟩, hs⟩ := (getNum_iff hb p n r).1 hg
   have hle := stands_le hs
   obtain ⟨n, rfl⟩ := Int.eq_ofNat_of_zero_le h0
   obtain ⟨r, rfl⟩ := Int.eq_ofNat_of_zero_le (show 0 ≤ r by omega)
   by_cases hn : (n : Int) ≤ (xs.length : Int) - r
   ·simp only [if_pos hn, Option.some.injEq, Prod.mk.injEq] at h
    obtain ⟨rfl, rfl⟩ := h
    have hw : ((xs.drop r).take n).length = n := win_len xs r n (by omega)
    have hbw : BytesL ((xs.drop r).take n) := fun y hy => hb y (List.mem_of_mem_drop (List.mem_of_mem_take hy))
    have hsz : (textAt xs ((r : Int)).toNat ((n : Int)).toNat).size = n := by
     unfold textAt; rw [strOfNums_size, Int.toNat_natCast, Int.toNat_natCast, hw]
    refine ⟨by omega, ?_⟩
    rw [stands_app]
    refine ⟨r, ?_, ?_⟩
    ·rw [hsz, ← putAns_yes n (by omega)]; exact hs
    ·refine stands_mk (by omega) ?_
     unfold textAt
     rw [Int.toNat_natCast, Int.toNat_natCast, bs_str _ hbw]
   ·simp [if_neg hn] at h
 ·rintro ⟨hs, h⟩
  rw [stands_app] at h
  obtain ⟨r, h1, h2⟩ := h
  rw [← putAns_yes s.size (by omega)] at h1
  have hg := (getNum_iff hb p s.size r).2 ⟨⟨by omega, by omega⟩, h1⟩
  obtain ⟨k, rfl, rfl, hk, ht⟩ := stands_cut h2
  rw [bs_len] at hk ht ⊢
  unfold getText
  rw [hg]
  simp only
  rw [if_pos (by omega)]
  congr 1
  refine Prod.ext ?_ (by show (k : Int) + _ = _; omega)
  show textAt _ _ _ = s
  unfold textAt
  rw [Int.toNat_natCast, Int.toNat_natCast, ht, str_bs]

def getN (xs : List Int) : Nat → Int → Option (List Int × Int)
 | 0, p => some ([], p)
 | k + 1, p => match getNum xs p with
  | none => none
  | some x => match getN xs k x.2 with
   | none => none
   | some y => some (x.1 :: y.1, y.2)
def Nums (ys : List Int) : Prop := ∀ y ∈ ys, 0 ≤ y ∧ y ≤ 2147483647
def flatP (ys : List Int) : List Int := (ys.map putAns).flatten
theorem flatP_cons (y : Int) (ys : List Int) : flatP (y :: ys) = putAns y ++ flatP ys := rfl
theorem flatP_snoc (ys : List Int) (y : Int) : flatP (ys ++ [y]) = flatP ys ++ putAns y := by simp [flatP]
theorem flatP_len (ys : List Int) : (flatP ys).length ≤ 5 * ys.length := by
 induction ys with
 | nil => simp [flatP]
 | cons y ys ih => rw [flatP_cons, List.length_append, List.length_cons]; have := putAns_len y; omega
theorem getN_iff {xs : List Int} (hb : BytesL xs) (k : Nat) (p : Int) (h0 : 0 ≤ p) (h1 : p ≤ xs.length) (ys : List Int) (q : Int) : getN xs k p = some (ys, q) ↔ ys.length = k ∧ Nums ys ∧ StandsAt xs p (flatP ys) q := by
 induction k generalizing p ys with
 | zero =>
  constructor
  ·intro h
   simp only [getN, Option.some.injEq, Prod.mk.injEq] at h
   obtain ⟨rfl, rfl⟩ := h
   exact ⟨rfl, (fun y hy => by cases hy), stands_nil.2 ⟨rfl, h0, h1⟩⟩
  ·rintro ⟨hl, _, hs⟩
   obtain rfl := List.length_eq_zero_iff.1 hl
   have := (stands_nil.1 hs).1
   subst this
   rfl
 | succ k ih =>
  constructor
  ·intro h
   rw [getN] at h
   cases hg : getNum xs p with
   | none => rw [hg] at h; cases h
   | some x =>
    rw [hg] at h
    simp only at h
    obtain ⟨m, r⟩ := x
    obtain ⟨hm, hs⟩ := (getNum_iff hb p m r).1 hg
    have hle := stands_le hs
    cases hg2 : getN xs k r with
    | none => rw [hg2] at h; cases h
    | some y =>
     rw [hg2] at h
     obtain ⟨zs, t⟩ := y
     simp only [Option.some.injEq, Prod.mk.injEq] at h
     obtain ⟨rfl, rfl⟩ := h
     obtain ⟨hl, hn, hz⟩ := (ih r (by omega) (by omega) zs).1 hg2
     refine ⟨by simp [hl], fun y hy => ?_, by rw [flatP_cons, stands_app]; exact ⟨_, hs, hz⟩⟩
     rcases List.mem_cons.1 hy with rfl | hy
     ·exact hm
     ·exact hn y hy
  ·rintro ⟨hl, hn, hs⟩
   obtain ⟨m, zs, rfl⟩ : ∃ m zs, ys = m :: zs := by
    cases ys with
    | nil => simp at hl
    | cons m zs => exact ⟨m, zs, rfl⟩
   rw [flatP_cons, stands_app] at hs
   obtain ⟨r, hs, hz⟩ := hs
   have hle := stands_le hs
   have hg := (getNum_iff hb p m r).2 ⟨hn m (by simp), hs⟩
   have hg2 := (ih r (by omega) (by omega) zs).2 ⟨by simpa using hl, fun y hy => hn y (by simp [hy]), hz⟩
   rw [getN, hg]
   simp only
   rw [hg2]
theorem getN_more (xs : List Int) (k : Nat) (p : Int) {m r : Int} (h : getNum xs p = some (m, r)) : getN xs (k + 1) p = (getN xs k r).map fun y => (m :: y.1, y.2) := by
 rw [getN, h]
 simp only
 cases getN xs k r <;> rfl
theorem getN_stop (xs : List Int) (k : Nat) (p : Int) (h : getNum xs p = none) : getN xs (k + 1) p = none := by rw [getN, h]

def getWho (L : Int) (xs : List Int) (p : Int) : Option (List Int × Int) := match getNum xs p with
 | none => none
 | some x => if x.1 ≤ L then getN xs x.1.toNat x.2 else none
def whoRaw (ys : List Int) : List Int := putAns ys.length ++ flatP ys
theorem whoRaw_len (ys : List Int) : (whoRaw ys).length ≤ 5 + 5 * ys.length := by
 unfold whoRaw; rw [List.length_append]; have := putAns_len ys.length; have := flatP_len ys; omega
theorem getWho_iff {xs : List Int} (hb : BytesL xs) (L : Int) (hL : L ≤ 2147483647) (p : Int) (ys : List Int) (q : Int) : getWho L xs p = some (ys, q) ↔ (ys.length : Int) ≤ L ∧ Nums ys ∧ StandsAt xs p (whoRaw ys) q := by
 unfold whoRaw
 rw [stands_app]
 constructor
 ·intro h
  unfold getWho at h
  cases hg : getNum xs p with
  | none => rw [hg] at h; cases h
  | some x =>
   obtain ⟨m, r⟩ := x
   rw [hg] at h
   simp only at h
   obtain ⟨hm, hs⟩ := (getNum_iff hb p m r).1 hg
   have hle := stands_le hs
   by_cases hl : m ≤ L
   ·rw [if_pos hl] at h
    obtain ⟨e, hn, hz⟩ := (getN_iff hb m.toNat r (by omega) (by omega) ys q).1 h
    refine ⟨by omega, hn, r, ?_, hz⟩
    rw [show ((ys.length : Nat) : Int) = m from by omega]; exact hs
   ·rw [if_neg hl] at h; cases h
 ·rintro ⟨hl, hn, r, hs, hz⟩
  have hle := stands_le hs
  have hg := (getNum_iff hb p ys.length r).2 ⟨by omega, hs⟩
  unfold getWho
  rw [hg]
  simp only
  rw [if_pos hl]
  exact (getN_iff hb _ r (by omega) (by omega) ys q).2 ⟨by simp, hn, hz⟩

abbrev QcT := Int × ByteArray × List Int
abbrev SafT := Int × Int × QcT × ByteArray
def getQc (L : Int) (xs : List Int) (p : Int) : Option (QcT × Int) := match getNum xs p with
 | none => none
 | some x => match getText xs x.2 with
  | none => none
  | some y => match getWho L xs y.2 with
   | none => none
   | some z => some ((x.1, y.1, z.1), z.2)
def qcRaw (v : Int) (s : ByteArray) (ys : List Int) : List Int := putAns v ++ textAns s ++ whoRaw ys
theorem getQc_iff {xs : List Int} (hb : BytesL xs) (L : Int) (hL : L ≤ 2147483647) (p v : Int) (s : ByteArray) (ys : List Int) (q : Int) : getQc L xs p = some ((v, s, ys), q) ↔ (0 ≤ v ∧ v ≤ 2147483647) ∧ s.size ≤ 2147483647 ∧ (ys.length : Int) ≤ L ∧ Nums ys ∧ StandsAt xs p (qcRaw v s ys) q := by
 unfold qcRaw
 rw [stands_app]
 constructor
 ·intro h
  unfold getQc at h
  cases hg : getNum xs p with
  | none => rw [hg] at h; cases h
  | some x =>
   rw [hg] at h
   obtain ⟨m, r⟩ := x
   simp only at h
   obtain ⟨hm, hs⟩ := (getNum_iff hb p m r).1 hg
   cases hg2 : getText xs r with
   | none => rw [hg2] at h; cases h
   | some y =>
    rw [hg2] at h
    obtain ⟨t, r2⟩ := y
    simp only at h
    obtain ⟨ht, hs2⟩ := (getText_iff hb r t r2).1 hg2
    cases hg3 : getWho L xs r2 with
    | none => rw [hg3] at h; cases h
    | some z =>
     rw [hg3] at h
     obtain ⟨zs, r3⟩ := z
     obtain ⟨hl, hn, hs3⟩ := (getWho_iff hb L hL r2 zs r3).1 hg3
     simp only [Option.some.injEq, Prod.mk.injEq] at h
     obtain ⟨⟨rfl, rfl, rfl⟩, rfl⟩ := h
     exact ⟨hm, ht, hl, hn, r2, stands_app.2 ⟨r, hs, hs2⟩, hs3⟩
 ·rintro ⟨hm, ht, hl, hn, r2, h12, hs3⟩
  obtain ⟨r, hs, hs2⟩ := stands_app.1 h12
  unfold getQc
  rw [(getNum_iff hb p v r).2 ⟨hm, hs⟩]
  simp only
  rw [(getText_iff hb r s r2).2 ⟨ht, hs2⟩]
  simp only
  rw [(getWho_iff hb L hL r2 ys q).2 ⟨hl, hn, hs3⟩]
def getSafe (L : Int) (xs : List Int) (p : Int) : Option (SafT × Int) := match getNum xs p with
 | none => none
 | some x => match getNum xs x.2 with
  | none => none
  | some y => match getQc L xs y.2 with
   | none => none
   | some z => match getText xs z.2 with
    | none => none
    | some t => some ((x.1, y.1, z.1, t.1), t.2)
def safRaw (vo lo v : Int) (s : ByteArray) (ys : List Int) (d : ByteArray) : List Int := putAns vo ++ putAns lo ++ qcRaw v s ys ++ textAns d
theorem getSafe_iff {xs : List Int} (hb : BytesL xs) (L : Int) (hL : L ≤ 2147483647) (p vo lo v : Int) (s : ByteArray) (ys : List Int) (d : ByteArray) (q : Int) :
 getSafe L xs p = some ((vo, lo, (v, s, ys), d), q) ↔ (0 ≤ vo ∧ vo ≤ 2147483647) ∧ (0 ≤ lo ∧ lo ≤ 2147483647) ∧ ((0 ≤ v ∧ v ≤ 2147483647) ∧ s.size ≤ 2147483647 ∧ (ys.length : Int) ≤ L ∧ Nums ys) ∧ d.size ≤ 2147483647 ∧ StandsAt xs p (safRaw vo lo v s ys d) q := by
 unfold safRaw
 rw [stands_app]
 constructor
 ·intro h
  unfold getSafe at h
  cases hg : getNum xs p with
  | none => rw [hg] at h; cases h
  | some x =>
   rw [hg] at h
   obtain ⟨m, r⟩ := x
   simp only at h
   obtain ⟨hm, hs⟩ := (getNum_iff hb p m r).1 hg
   cases hg1 : getNum xs r with
   | none => rw [hg1] at h; cases h
   | some x1 =>
    rw [hg1] at h
    obtain ⟨m1, r1⟩ := x1
    simp only at h
    obtain ⟨hm1, hs1⟩ := (getNum_iff hb r m1 r1).1 hg1
    cases hg2 : getQc L xs r1 with
    | none => rw [hg2] at h; cases h
    | some y =>
     rw [hg2] at h
     obtain ⟨⟨a, b, c⟩, r2⟩ := y
     simp only at h
     obtain ⟨ha, hb2, hc, hn, hs2⟩ := (getQc_iff hb L hL r1 a b c r2).1 hg2
     cases hg3 : getText xs r2 with
     | none => rw [hg3] at h; cases h
     | some z =>
      rw [hg3] at h
      obtain ⟨t, r3⟩ := z
      obtain ⟨ht, hs3⟩ := (getText_iff hb r2 t r3).1 hg3
      simp only [Option.some.injEq, Prod.mk.injEq] at h
      obtain ⟨⟨rfl, rfl, ⟨rfl, rfl, rfl⟩, rfl⟩, rfl⟩ := h
      exact ⟨hm, hm1, ⟨ha, hb2, hc, hn⟩, ht, r2, stands_app.2 ⟨r1, stands_app.2 ⟨r, hs, hs1⟩, hs2⟩, hs3⟩
 ·rintro ⟨hm, hm1, ⟨ha, hb2, hc, hn⟩, ht, r2, h12, hs3⟩
  obtain ⟨r1, h01, hs2⟩ := stands_app.1 h12
  obtain ⟨r, hs, hs1⟩ := stands_app.1 h01
  unfold getSafe
  rw [(getNum_iff hb p vo r).2 ⟨hm, hs⟩]
  simp only
  rw [(getNum_iff hb r lo r1).2 ⟨hm1, hs1⟩]
  simp only
  rw [(getQc_iff hb L hL r1 v s ys r2).2 ⟨ha, hb2, hc, hn, hs2⟩]
  simp only
  rw [(getText_iff hb r2 d q).2 ⟨ht, hs3⟩]

theorem okl_len {n : Int} {l : List Int} (hn : 0 ≤ n) (ho : OkL n l) : (l.length : Int) ≤ n := by
 generalize hk : l.length = k
 induction k generalizing l n with
 | zero => simpa using hn
 | succ k ih =>
  obtain ⟨l', x, rfl⟩ : ∃ l' x, l = l' ++ [x] := ⟨l.dropLast, l.getLast (fun e => by rw [e] at hk; simp at hk), (List.dropLast_concat_getLast _).symm⟩
  have hx := ho.1 x (by simp)
  have hp := ho.2
  rw [List.pairwise_append] at hp
  have := ih hx.1 (l := l') ⟨fun y hy => ⟨(ho.1 y (by simp [hy])).1, hp.2.2 y hy x (by simp)⟩, hp.1⟩ (by simpa using hk)
  push_cast
  omega
theorem qok_small {n f v : Int} {s : ByteArray} {ys : List Int} (h : qokB n f v s ys = true) : (0 ≤ v ∧ v ≤ 60) ∧ s.size ≤ 1920 ∧ ys.length ≤ 7 ∧ Nums ys := by
 have h' := h
 unfold qokB at h'
 simp only [Bool.and_eq_true, decide_eq_true_eq, beq_iff_eq] at h'
 obtain ⟨⟨⟨hc, hs⟩, hv⟩, hw⟩ := h'
 have hv2 := view_le s
 refine ⟨by omega, name_len hs, ?_⟩
 by_cases he : s = ⟨#[]⟩
 ·rw [if_pos he] at hw
  have : ys = [] := by simpa using hw
  subst this
  exact ⟨by simp, (fun y hy => by cases hy)⟩
 ·obtain ⟨hc, ho, _⟩ := qok_has h he
  have := okl_len (by have := hc.1; omega) ho
  have hc1 := hc.1
  exact ⟨by omega, fun y hy => by have := ho.1 y hy; omega⟩
def qcOfA (L n f : Int) (xs : List Int) (p : Int) : Option (QcT × Int) := match getQc L xs p with
 | none => none
 | some x => if qokB n f x.1.1 x.1.2.1 x.1.2.2 = true then some x else none
theorem qcOf_iff {xs : List Int} (hb : BytesL xs) (L : Int) (h7 : 7 ≤ L) (hL : L ≤ 2147483647) (n f p v : Int) (s : ByteArray) (ys : List Int) (q : Int) : qcOfA L n f xs p = some ((v, s, ys), q) ↔ qokB n f v s ys = true ∧ StandsAt xs p (qcRaw v s ys) q := by
 constructor
 ·intro h
  unfold qcOfA at h
  cases hg : getQc L xs p with
  | none => rw [hg] at h; cases h
  | some x =>
   rw [hg] at h
   obtain ⟨⟨a, b, c⟩, r⟩ := x
   simp only at h
   by_cases hq : qokB n f a b c = true
   ·rw [if_pos hq] at h
    simp only [Option.some.injEq, Prod.mk.injEq] at h
    obtain ⟨⟨rfl, rfl, rfl⟩, rfl⟩ := h
    exact ⟨hq, ((getQc_iff hb L hL p _ _ _ _).1 hg).2.2.2.2⟩
   ·rw [if_neg hq] at h; cases h
 ·rintro ⟨hq, hs⟩
  obtain ⟨h1, h2, h3, h4⟩ := qok_small hq
  unfold qcOfA
  rw [(getQc_iff hb L hL p v s ys q).2 ⟨by omega, by omega, by omega, h4, hs⟩]
  simp only
  rw [if_pos hq]
theorem qcOf_lim {xs : List Int} (hb : BytesL xs) (n f p : Int) : qcOfA 2147483647 n f xs p = qcOfA 7 n f xs p := by
 apply Option.ext
 rintro ⟨⟨v, s, ys⟩, q⟩
 rw [qcOf_iff hb 2147483647 (by omega) (by omega), qcOf_iff hb 7 (by omega) (by omega)]

def sokT (n f : Int) (t : SafT) : Bool := sokB n f t.1 t.2.1 t.2.2.1.1 t.2.2.1.2.1 t.2.2.1.2.2 t.2.2.2
def rawT (t : SafT) : List Int := safRaw t.1 t.2.1 t.2.2.1.1 t.2.2.1.2.1 t.2.2.1.2.2 t.2.2.2
theorem sok_small {n f : Int} {t : SafT} (h : sokT n f t = true) : (0 ≤ t.1 ∧ t.1 ≤ 60) ∧ (0 ≤ t.2.1 ∧ t.2.1 ≤ 60) ∧ ((0 ≤ t.2.2.1.1 ∧ t.2.2.1.1 ≤ 60) ∧ t.2.2.1.2.1.size ≤ 1920 ∧ t.2.2.1.2.2.length ≤ 7 ∧ Nums t.2.2.1.2.2) ∧ t.2.2.2.size ≤ 1920 := by
 obtain ⟨h1, h2, h3, h4⟩ := sok_done h
 exact ⟨h1, h2, qok_small h3, name_len h4⟩
theorem textAns_le (s : ByteArray) : (textAns s).length ≤ 5 + s.size := by rw [textAns_len]; have := (put_len 4 s.size).1; omega
theorem qcRaw_len (v : Int) (s : ByteArray) (ys : List Int) : (qcRaw v s ys).length ≤ 15 + s.size + 5 * ys.length := by
 unfold qcRaw; rw [List.length_append, List.length_append]; have := putAns_len v; have := textAns_le s; have := whoRaw_len ys; omega
theorem rawT_len {n f : Int} {t : SafT} (h : sokT n f t = true) : (rawT t).length ≤ 4000 := by
 obtain ⟨_, _, ⟨_, h1, h2, _⟩, h3⟩ := sok_small h
 unfold rawT safRaw
 rw [List.length_append, List.length_append, List.length_append]
 have := putAns_len t.1; have := putAns_len t.2.1; have := qcRaw_len t.2.2.1.1 t.2.2.1.2.1 t.2.2.1.2.2; have := textAns_le t.2.2.2
 omega
theorem putAns_pos (m : Int) (h0 : 0 ≤ m) (h1 : m ≤ 2147483647) : 0 < (putAns m).length := by
 obtain ⟨n, rfl⟩ := Int.eq_ofNat_of_zero_le h0
 rw [putAns_yes n (by omega)]; exact (put_len 4 n).2
theorem rawT_pos {n f : Int} {t : SafT} (h : sokT n f t = true) : 0 < (rawT t).length := by
 obtain ⟨h0, _⟩ := sok_small h
 unfold rawT safRaw
 rw [List.length_append, List.length_append, List.length_append]
 have := putAns_pos t.1 (by omega) (by omega)
 omega
theorem getSafe_sok {xs : List Int} (hb : BytesL xs) (L : Int) (h7 : 7 ≤ L) (hL : L ≤ 2147483647) (n f p : Int) (t : SafT) (q : Int) (ht : sokT n f t = true) : getSafe L xs p = some (t, q) ↔ StandsAt xs p (rawT t) q := by
 obtain ⟨h1, h2, ⟨h3, h4, h5, h6⟩, h8⟩ := sok_small ht
 obtain ⟨vo, lo, ⟨v, s, ys⟩, d⟩ := t
 rw [getSafe_iff hb L hL]
 simp only at h1 h2 h3 h4 h5 h6 h8
 constructor
 ·intro h; exact h.2.2.2.2
 ·intro h; exact ⟨by omega, by omega, ⟨by omega, by omega, by omega, h6⟩, by omega, h⟩
def safOfA (L n f : Int) (xs : List Int) : Option SafT := match getSafe L xs 0 with
 | none => none
 | some x => if (sokT n f x.1 && (x.2 == (xs.length : Int))) = true then some x.1 else none
theorem stands_all {xs a : List Int} : StandsAt xs 0 a xs.length ↔ xs = a := by
 constructor
 ·rintro ⟨pre, post, h, hp, hq⟩
  have e : pre = [] := List.length_eq_zero_iff.1 (by omega)
  subst e
  have hl := congrArg List.length h
  simp only [List.nil_append, List.length_append, List.length_nil] at hl hq h
  have e2 : post = [] := List.length_eq_zero_iff.1 (by omega)
  subst e2
  simpa using h
 ·rintro rfl
  exact ⟨[], [], by simp, rfl, by simp⟩
theorem safOf_iff {xs : List Int} (hb : BytesL xs) (L : Int) (h7 : 7 ≤ L) (hL : L ≤ 2147483647) (n f : Int) (t : SafT) : safOfA L n f xs = some t ↔ sokT n f t = true ∧ xs = rawT t := by
 constructor
 ·intro h
  unfold safOfA at h
  cases hg : getSafe L xs 0 with
  | none => rw [hg] at h; cases h
  | some x =>
   rw [hg] at h
   obtain ⟨u, r⟩ := x
   simp only at h
   by_cases hq : (sokT n f u && (r == (xs.length : Int))) = true
   ·rw [if_pos hq] at h
    simp only [Option.some.injEq] at h
    subst h
    simp only [Bool.and_eq_true, beq_iff_eq] at hq
    obtain ⟨h1, rfl⟩ := hq
    exact ⟨h1, stands_all.1 ((getSafe_sok hb L h7 hL n f 0 u _ h1).1 hg)⟩
   ·rw [if_neg hq] at h; cases h
 ·rintro ⟨hq, hx⟩
  have := (getSafe_sok hb L h7 hL n f 0 t xs.length hq).2 (stands_all.2 hx)
  unfold safOfA
  rw [this]
  simp only
  rw [if_pos (by simp [hq])]
theorem safOf_lim {xs : List Int} (hb : BytesL xs) (n f : Int) : safOfA 2147483647 n f xs = safOfA 7 n f xs := by
 apply Option.ext
 intro t
 rw [safOf_iff hb 2147483647 (by omega) (by omega), safOf_iff hb 7 (by omega) (by omega)]
end Go.Proofs.YtcclbejpgiogaaaGreatDoor
