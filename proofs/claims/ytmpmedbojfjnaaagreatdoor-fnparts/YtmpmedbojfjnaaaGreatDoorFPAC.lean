/- Texts that belong together: Ints, Ledger, CopyInts, IntPieces, Draw. -/
import Derived.Test.YtmpmedbojfjnaaaGreatDoorFPAA
import Derived.OwnWalk
import Derived.Maps.AppendAt
import Derived.Laws.OwnMore
import Derived.Laws.Bits128
namespace Go.Proofs.YtmpmedbojfjnaaaGreatDoor
open Go.RowKit

theorem Tryz.info3 : (Tryz.prog.info? 3).map (fun i => (i.zero, i.size, i.bytes)) = some (some (.int .i64 0), 1, 8) := by kernel_rfl

def RI (w : World) (v : Value) (xs : List Int) : Prop :=
 xs.length ≤ 4194304 ∧ ∃ ao cap, v = .slice ao xs.length cap ∧ (xs = [] ∨ ∃ b off, ao = some ⟨b, off, none⟩ ∧ ∀ k, k < xs.length → w.cell? ⟨b, off + k, none⟩ = some (.int .i64 (xs.getD k 0)))
def OI (w : World) (base : Nat) (v : Value) (xs : List Int) : Prop := w.ownsRow base 3 1 v xs.length (xs.map (Value.int .i64))

theorem OI.ri {w : World} {base : Nat} {v : Value} {xs : List Int} (h : OI w base v xs) (hl : xs.length ≤ 4194304) : RI w v xs := by
 refine ⟨hl, ?_⟩
 rcases h.2 with ⟨rfl, h0⟩ | ⟨g, cap, cur, rfl, _⟩
 ·exact ⟨none, 0, by rw [h0], .inl (List.length_eq_zero_iff.1 h0)⟩
 ·refine ⟨_, cap, rfl, .inr ⟨g, 0, rfl, fun k hk => ?_⟩⟩
  have := World.ownsRow.cellAt h k (by omega)
  rw [Nat.zero_add, this]
  simp [List.getElem?_map, List.getElem?_eq_getElem hk]
theorem OI.below {w w' : World} {base : Nat} {v : Value} {xs : List Int} (h : OI w base v xs) (hb : Below w.heap.size w w') : OI w' base v xs :=
 World.ownsRow.kept (row := none) h ⟨hb.os, hb.tape, hb.output, hb.size, fun k hk _ => hb.block k hk⟩ (by cases v.ownBlock <;> simp)
theorem OI.grown {w w' : World} {base : Nat} {row : Option Nat} {v : Value} {xs : List Int} (h : OI w base v xs) (hg : w.grownBy w' row) (hv : ∀ k, v.ownBlock = some k → row ≠ some k) : OI w' base v xs := by
 refine World.ownsRow.kept h hg ?_
 cases hv' : v.ownBlock with
 | none => exact .inl rfl
 | some k => exact .inr fun e => hv k hv' e.symm
theorem RI.below {w w' : World} {B : Nat} {v : Value} {xs : List Int} (h : RI w v xs) (hb : Below B w w') (hB : w.heap.size ≤ B) : RI w' v xs := by
 obtain ⟨hl, ao, cap, rfl, h⟩ := h
 refine ⟨hl, ao, cap, rfl, ?_⟩
 rcases h with h | ⟨b, off, rfl, h⟩
 ·exact .inl h
 ·refine .inr ⟨b, off, rfl, fun k hk => ?_⟩
  have := h k hk
  exact (hb.cell (Nat.lt_of_lt_of_le (cell_lt this) hB)).trans this
theorem below_drewN' {B : Nat} {w w' : World} (h : Below B w w') (n : Nat) : Below B w (w'.drewN n) := ⟨h.os, h.tape, h.output, h.size, h.block⟩

structure Kp (w w' : World) (X : Nat → Prop) : Prop where
 os : w'.os = w.os
 tape : w'.tape = w.tape
 output : w'.output = w.output
 size : w.heap.size ≤ w'.heap.size
 block : ∀ k, k < w.heap.size → ¬ X k → w'.heap[k]? = w.heap[k]?
theorem Kp.refl (w : World) (X : Nat → Prop) : Kp w w X := ⟨rfl, rfl, rfl, Nat.le_refl _, fun _ _ _ => rfl⟩
theorem Kp.trans {a b c : World} {X : Nat → Prop} (h : Kp a b X) (k : Kp b c X) : Kp a c X :=
 ⟨k.os.trans h.os, k.tape.trans h.tape, k.output.trans h.output, Nat.le_trans h.size k.size, fun i hi hx => (k.block i (Nat.lt_of_lt_of_le hi h.size) hx).trans (h.block i hi hx)⟩
theorem Kp.mono {a b : World} {X Y : Nat → Prop} (h : Kp a b X) (hxy : ∀ k, X k → Y k) : Kp a b Y := ⟨h.os, h.tape, h.output, h.size, fun k hk hy => h.block k hk (fun hx => hy (hxy k hx))⟩
theorem Below.kpOf {w w' : World} (h : Below w.heap.size w w') (X : Nat → Prop) : Kp w w' X := ⟨h.os, h.tape, h.output, h.size, fun k hk _ => h.block k hk⟩
theorem kp_grown {w w' : World} {row : Option Nat} (h : w.grownBy w' row) : Kp w w' (fun k => row = some k) := ⟨h.os, h.tape, h.output, h.size, fun k hk hx => h.block k hk (fun e => hx e.symm)⟩
theorem Kp.cell {w w' : World} {X : Nat → Prop} (h : Kp w w' X) {a : Addr} {v : Value} (hc : w.cell? a = some v) (hx : ¬ X a.block) : w'.cell? a = some v :=
 (World.cell?_of_block (h.block a.block (cell_lt hc) hx)).trans hc
theorem Below.kp {B : Nat} {a w w' : World} {X : Nat → Prop} (h : Below B a w) (k : Kp w w' X) (hB : B ≤ w.heap.size) (hx : ∀ k, X k → B ≤ k) : Below B a w' :=
 ⟨k.os.trans h.os, k.tape.trans h.tape, k.output.trans h.output, Nat.le_trans h.size k.size, fun i hi => (k.block i (by omega) (fun h' => by have := hx i h'; omega)).trans (h.block i hi)⟩
theorem OI.kp {w w' : World} {base : Nat} {X : Nat → Prop} {v : Value} {xs : List Int} (h : OI w base v xs) (k : Kp w w' X) (hv : ∀ k, v.ownBlock = some k → ¬ X k) : OI w' base v xs := by
 refine ⟨h.1, ?_⟩
 rcases h.2 with hn | ⟨g, cap, cur, rfl, hb, hgg, rest⟩
 ·exact .inl hn
 ·refine .inr ⟨g, cap, cur, rfl, hb, ?_, rest⟩
  rw [k.block g (Array.getElem?_eq_some_iff.1 hgg).1 (hv g rfl)]
  exact hgg

theorem OI.mono {w : World} {base base' : Nat} {v : Value} {xs : List Int} (h : OI w base v xs) (hb : base' ≤ base) : OI w base' v xs := by
 refine ⟨h.1, ?_⟩
 rcases h.2 with hn | ⟨g, cap, cur, rfl, hg, rest⟩
 ·exact .inl hn
 ·exact .inr ⟨g, cap, cur, rfl, Nat.le_trans hb hg, rest⟩

theorem OI.form {w : World} {base : Nat} {v : Value} {xs : List Int} (h : OI w base v xs) : ∃ ao ca, v = .slice ao xs.length ca := by
 rcases h.2 with ⟨rfl, h0⟩ | ⟨g, cap, cur, rfl, _⟩
 ·exact ⟨none, 0, by rw [h0]⟩
 ·exact ⟨_, _, rfl⟩

def Loc2 (w : World) (g : Nat) (a b : Value) : Prop := ∃ t, w.heap[g]? = some (.cells #[a, b] t (0, 0))
theorem Loc2.lt {w : World} {g : Nat} {a b : Value} (h : Loc2 w g a b) : g < w.heap.size := by obtain ⟨t, h⟩ := h; exact (Array.getElem?_eq_some_iff.1 h).1
theorem Loc2.cells {w : World} {g : Nat} {a b : Value} (h : Loc2 w g a b) : w.cell? ⟨g, 0, none⟩ = some a ∧ w.cell? ⟨g, 1, none⟩ = some b ∧ w.frozen? ⟨g, 0, none⟩ = false ∧ w.frozen? ⟨g, 1, none⟩ = false := by
 obtain ⟨t, h⟩ := h
 refine ⟨?_, ?_, frozen_of_row w g 0 _ t h, frozen_of_row w g 1 _ t h⟩
 ·rw [cell_of_row w g 0 _ t (0, 0) h]; rfl
 ·rw [cell_of_row w g 1 _ t (0, 0) h]; rfl
theorem Loc2.below {w w' : World} {g B : Nat} {a b : Value} (h : Loc2 w g a b) (hb : Below B w w') (hg : g < B) : Loc2 w' g a b := by obtain ⟨t, h⟩ := h; exact ⟨t, (hb.block g hg).trans h⟩
theorem Loc2.kp {w w' : World} {g : Nat} {X : Nat → Prop} {a b : Value} (h : Loc2 w g a b) (k : Kp w w' X) (hg : ¬ X g) : Loc2 w' g a b := by have hl := h.lt; obtain ⟨t, h⟩ := h; exact ⟨t, (k.block g hl hg).trans h⟩
theorem Loc2.alloc {w : World} {g : Nat} {a b : Value} (h : Loc2 w g a b) (o : Obj) : Loc2 (w.alloc o) g a b := h.kp (X := fun _ => False) (Below.kpOf ((Below.refl _ _).alloc (Nat.le_refl _) o) _) (fun h => h)
theorem Loc2.drewN {w : World} {g : Nat} {a b : Value} (h : Loc2 w g a b) (n : Nat) : Loc2 (w.drewN n) g a b := h
theorem Loc2.other {w : World} {g : Nat} {a b : Value} (h : Loc2 w g a b) {p : Addr} (hp : g ≠ p.block) (u : Value) : Loc2 (w.setCell p u) g a b := by obtain ⟨t, h⟩ := h; exact ⟨t, (heap_setCell_other w p g u hp).trans h⟩

abbrev lv (a b : Value) : Value := .agg #[a, b]
structure OL (w : World) (lo hi : Nat) (a b : Value) (xs ys : List Int) : Prop where
 has : OI w lo a xs
 next : OI w lo b ys
 top : ∀ k, a.ownBlock = some k → k < hi
 top' : ∀ k, b.ownBlock = some k → k < hi
 ne : ∀ k, a.ownBlock = some k → b.ownBlock ≠ some k
theorem OL.kp {w w' : World} {lo hi : Nat} {X : Nat → Prop} {a b : Value} {xs ys : List Int} (h : OL w lo hi a b xs ys) (k : Kp w w' X) (hx : ∀ k, lo ≤ k → k < hi → ¬ X k) : OL w' lo hi a b xs ys :=
 ⟨h.has.kp k (fun j hj => hx j (World.ownsRow.lt h.has j hj).1 (h.top j hj)), h.next.kp k (fun j hj => hx j (World.ownsRow.lt h.next j hj).1 (h.top' j hj)), h.top, h.top', h.ne⟩
theorem OL.below {w w' : World} {lo hi : Nat} {a b : Value} {xs ys : List Int} (h : OL w lo hi a b xs ys) (hb : Below w.heap.size w w') : OL w' lo hi a b xs ys := h.kp (Below.kpOf hb (fun _ => False)) (fun _ _ _ h => h)
theorem OL.alloc {w : World} {lo hi : Nat} {a b : Value} {xs ys : List Int} (h : OL w lo hi a b xs ys) (o : Obj) : OL (w.alloc o) lo hi a b xs ys := h.below ((Below.refl _ _).alloc (Nat.le_refl _) _)
theorem OL.ri {w : World} {lo hi : Nat} {a b : Value} {xs ys : List Int} (h : OL w lo hi a b xs ys) (hl : xs.length ≤ 4194304) (hm : ys.length ≤ 4194304) : RI w a xs ∧ RI w b ys := ⟨h.has.ri hl, h.next.ri hm⟩
theorem OL.mono {w : World} {lo hi lo' hi' : Nat} {a b : Value} {xs ys : List Int} (h : OL w lo hi a b xs ys) (h1 : lo' ≤ lo) (h2 : hi ≤ hi') : OL w lo' hi' a b xs ys :=
 ⟨h.has.mono h1, h.next.mono h1, fun k hk => Nat.lt_of_lt_of_le (h.top k hk) h2, fun k hk => Nat.lt_of_lt_of_le (h.top' k hk) h2, h.ne⟩
theorem Below.set {B : Nat} {a w : World} (h : Below B a w) {g : Nat} (j : Nat) (u : Value) (hg : B ≤ g) : Below B a (w.setCell ⟨g, j, none⟩ u) := Below.setCell h (p := ⟨g, j, none⟩) hg u
theorem set_kp (w : World) (g j : Nat) (u : Value) : Kp w (w.setCell ⟨g, j, none⟩ u) (fun k => k = g) :=
 ⟨rfl, rfl, rfl, by simp, fun k _ hk => heap_setCell_other w ⟨g, j, none⟩ k u hk⟩

theorem ints_plain64 (xs : List Int) (u : Value) (h : u ∈ xs.map (Value.int .i64)) : u.oneCell' = true := by
 obtain ⟨x, _, rfl⟩ := List.mem_map.1 h; rfl

theorem inews_cells {w : World} {g off : Nat} {xs : List Int} (h : ∀ k, k < xs.length → w.cell? ⟨g, off + k, none⟩ = some (.int .i64 (xs.getD k 0))) :
 ∀ j u, (xs.map (Value.int .i64))[j]? = some u → w.cell? ((⟨g, off, none⟩ : Addr).add j) = some u := by
 intro j u hj
 rw [List.getElem?_map] at hj
 obtain ⟨x, hx, rfl⟩ := Option.map_eq_some_iff.1 hj
 have hlt := (List.getElem?_eq_some_iff.1 hx).1
 have e : ((⟨g, off, none⟩ : Addr).add j) = ⟨g, off + j, none⟩ := by unfold Addr.add; split <;> simp_all
 rw [e, h j hlt]
 simp [List.getD_eq_getElem?_getD, hx]

def PI (w : World) (v : Value) (xs : List Int) : Prop :=
 ∃ ao cap, v = .slice ao xs.length cap ∧ (xs = [] ∨ ∃ ad : Addr, ao = some ad ∧ ∀ j u, (xs.map (Value.int .i64))[j]? = some u → w.cell? (ad.add j) = some u)
theorem PI.below {w w' : World} {v : Value} {xs : List Int} (h : PI w v xs) (hb : Below w.heap.size w w') : PI w' v xs := by
 obtain ⟨ao, cap, rfl, h⟩ := h
 refine ⟨ao, cap, rfl, ?_⟩
 rcases h with h | ⟨ad, rfl, h⟩
 ·exact .inl h
 ·exact .inr ⟨ad, rfl, fun j u hj => (hb.cell (cell_lt (h j u hj))).trans (h j u hj)⟩
theorem RI.pi {w : World} {v : Value} {xs : List Int} (h : RI w v xs) : PI w v xs := by
 obtain ⟨hl, ao, cap, rfl, h⟩ := h
 refine ⟨ao, cap, rfl, ?_⟩
 rcases h with h | ⟨b, off, rfl, h⟩
 ·exact .inl h
 ·exact .inr ⟨_, rfl, inews_cells h⟩
theorem RI.form {w : World} {v : Value} {xs : List Int} (h : RI w v xs) : ∃ ao ca, v = .slice ao xs.length ca := by obtain ⟨_, ao, ca, e, _⟩ := h; exact ⟨ao, ca, e⟩
theorem RI.at {w : World} {ao : Option Addr} {n ca : Nat} {xs : List Int} (h : RI w (.slice ao n ca) xs) (k : Nat) (hk : k < xs.length) : ∃ b off, ao = some ⟨b, off, none⟩ ∧ w.cell? ⟨b, off + k, none⟩ = some (.int .i64 (xs.getD k 0)) := by
 obtain ⟨_, ao', ca', e, h⟩ := h
 cases e
 rcases h with rfl | ⟨b, off, rfl, h⟩
 ·simp at hk
 ·exact ⟨b, off, rfl, h k hk⟩
theorem PI.take {w : World} {ao : Option Addr} {n cap : Nat} {xs : List Int} (h : PI w (.slice ao n cap) xs) (k : Nat) (hk : k ≤ n) (cap' : Nat) : PI w (.slice ao k cap') (xs.take k) := by
 obtain ⟨ao', cap2, e, h⟩ := h
 cases e
 refine ⟨ao, cap', by rw [List.length_take]; congr 1; omega, ?_⟩
 rcases h with rfl | ⟨ad, rfl, h⟩
 ·left; simp
 ·refine .inr ⟨ad, rfl, fun j u hj => h j u ?_⟩
  rw [List.map_take, List.getElem?_take] at hj
  split at hj
  ·exact hj
  ·cases hj
theorem PI.drop {w : World} {ao : Option Addr} {n cap : Nat} {xs : List Int} (h : PI w (.slice ao n cap) xs) (k : Nat) (cap' : Nat) {bo : Option Addr} (hb : k < n → bo = ao.map (·.add (k * 1))) : PI w (.slice bo (n - k) cap') (xs.drop k) := by
 obtain ⟨ao', cap2, e, h⟩ := h
 cases e
 refine ⟨bo, cap', by rw [List.length_drop], ?_⟩
 by_cases hlt : k < xs.length
 ·rcases h with rfl | ⟨ad, rfl, h⟩
  ·simp at hlt
  ·refine .inr ⟨ad.add (k * 1), hb hlt, fun j u hj => ?_⟩
   rw [List.map_drop, List.getElem?_drop] at hj
   have := h _ u hj
   rw [← this]
   congr 1
   obtain ⟨b, o, s⟩ := ad
   unfold Addr.add
   split <;> split <;> simp_all <;> omega
 ·left; rw [List.drop_of_length_le (by omega)]
theorem grown_same (w : World) (row : Option Nat) : w.grownBy w row := ⟨rfl, rfl, rfl, Nat.le_refl _, fun _ _ _ => rfl⟩
theorem run_append_none1 (ty : TypeId) (base cap : Nat) (v : Value) (n : Nat) (xs : List Value) (w : World) (hown : w.ownsRow base 3 1 v n xs) :
 (Builtin.append_ #[26, 26] ty #[v, .slice none 0 cap]).run Tryz.prog w = .ok v w := by
 obtain ⟨i0, hi, hz0, hz1, hz2⟩ := info_parts Tryz.info3
 rcases hown.2 with ⟨rfl, rfl⟩ | ⟨g, cp, cur, rfl, _, _, hnc, _⟩
 ·simp [Builtin.append_, run_underlying Tryz.underlying26, sizeOf, typeInfo, hi, Builtin.lenOf, Builtin.firstCells]
 ·simp [Builtin.append_, run_underlying Tryz.underlying26, sizeOf, typeInfo, hi, Builtin.lenOf, Builtin.firstCells, hnc, storeCells]
theorem append_ints {ops : Array Oper} {rest : List Oper} {o : Oper} {a : Act} {Q : Exit → Act → World → Prop} {w : World} (hgd : o.guard = none) (s x : Operand)
 (ho : o.op = .call { callee := .builtin .append, args := #[s, x], argTypes := #[26, 26] }) (base : Nat) (v u : Value) (xs ys : List Int) (hs : a.eval s = v) (hx : a.eval x = u)
 (hown : OI w base v xs) (hp : PI w u ys) (hl : xs.length + ys.length ≤ 16777216) (hbase : base ≤ w.heap.size)
 (h : ∀ v' w', OI w' base v' (xs ++ ys) → w.grownBy w' v.ownBlock → (v'.ownBlock = v.ownBlock ∨ v'.ownBlock = some w.heap.size) → wpList Tryz.prog ops Q rest (a.put o.dst v') w') :
 wpList Tryz.prog ops Q (o :: rest) a w := by
 obtain ⟨i0, hi, hz0, hz1, hz2⟩ := info_parts Tryz.info3
 obtain ⟨ao, cap, rfl, hp⟩ := hp
 match ao, hx with
 | none, hx =>
  have hy : ys = [] := by rcases hp with h | ⟨ad, e, _⟩; exact h; cases e
  subst hy
  refine wpList_plain hgd fun K hK => ?_
  have hrun := run_append_none1 o.type base cap v xs.length (xs.map (Value.int .i64)) w hown
  unfold Oper.wp
  simp only [List.length_nil] at hx
  simp [execOp, ho, resolve, invoke, builtin, hs, hx, hrun, Result.andThen]
  exact hK _ _ (h v w (by simpa using hown) (grown_same _ _) (.inl rfl))
 | some ad, hx =>
  have hn : ∀ j u, (ys.map (Value.int .i64))[j]? = some u → w.cell? (ad.add j) = some u := by
   rcases hp with rfl | ⟨ad', e, h⟩
   ·intro j u hj; simp at hj
   ·cases e; exact h
  refine wpList_append_own_at _ hgd s x 26 ho base 3 i0 (.int .i64 0) 1 8 Tryz.underlying26 hi hz0 hz1 hz2 rfl (by decide) v xs.length (xs.map (Value.int .i64)) hs hown ad ys.length cap (ys.map (Value.int .i64)) hx (by simp) hn (ints_plain64 ys) (by unfold maxLen; omega) (by omega) hbase ?_
  intro v' w' ho' hg' _ hb'
  refine h v' w' ?_ hg' hb'
  unfold OI
  rw [List.map_append, List.length_append]
  exact ho'
set_option maxRecDepth 100000 in
theorem icut_to (ao : Option Addr) (n ca k : Nat) (w : World) (hk : k ≤ ca) :
 (Instr.slice 26 (.slice ao n ca) none (some (.int .i64 (k : Int))) none).run Tryz.prog w = .ok (.slice ao k ca) w := by
 obtain ⟨i0, hi, hz0, hz1, hz2⟩ := info_parts Tryz.info3
 rw [run_slice_h (ht := Tryz.underlying26) (kh := .i64) (h := (k : Int)) (h0 := by omega) (h2 := by omega)]
 have he : Tryz.prog.elem 26 = 3 := by simp [Program.elem, Tryz.underlying26]
 have hs : (sizeOf (Tryz.prog.elem 26)).run Tryz.prog w = .ok 1 w := by rw [he]; simp [sizeOf, typeInfo, hi, hz1]
 rw [hs]
 simp [sliced, Result.andThen]
 intro _; cases ao <;> rfl
set_option maxRecDepth 100000 in
theorem icut_from (ao : Option Addr) (n ca k : Nat) (w : World) (hk : k ≤ n) :
 (Instr.slice 26 (.slice ao n ca) (some (.int .i64 (k : Int))) none none).run Tryz.prog w = .ok (.slice (if ca = k then ao else ao.map (·.add (k * 1))) (n - k) (ca - k)) w := by
 obtain ⟨i0, hi, hz0, hz1, hz2⟩ := info_parts Tryz.info3
 rw [run_slice_l (ht := Tryz.underlying26) (kl := .i64) (l := (k : Int)) (h0 := by omega) (h1 := by omega)]
 have he : Tryz.prog.elem 26 = 3 := by simp [Program.elem, Tryz.underlying26]
 have hs : (sizeOf (Tryz.prog.elem 26)).run Tryz.prog w = .ok 1 w := by rw [he]; simp [sizeOf, typeInfo, hi, hz1]
 rw [hs]
 simp [sliced, Result.andThen]
def Cap (v : Value) : Prop := ∃ ao n cap, v = .slice ao n cap ∧ n ≤ cap ∧ cap ≤ maxLen
theorem OI.cap {w : World} {base : Nat} {v : Value} {xs : List Int} (h : OI w base v xs) : Cap v := by
 rcases h.2 with ⟨rfl, h0⟩ | ⟨g, cap, cur, rfl, _, _, h1, h2, h3⟩
 ·exact ⟨_, _, _, rfl, by simp, by unfold maxLen; omega⟩
 ·exact ⟨_, _, _, rfl, by first | exact h1 | exact h2 | exact h3 | omega, by first | exact h2 | exact h3 | omega⟩

structure Cur (w : World) (base g : Nat) (ao : Option Addr) (ca : Nat) (xs : List Int) : Prop where
 low : base ≤ g
 len : xs.length ≤ 140737488355328
 cells : ∃ i h : Int, w.heap[g]? = some (.cells #[.slice ao xs.length ca, .int .i64 i, .int .i64 h] 139 (0, 0)) ∧ 0 ≤ i ∧ i ≤ xs.length
 code : xs = [] ∨ ∃ b off, b < base ∧ ao = some ⟨b, off, none⟩ ∧ ∀ k, k < xs.length → w.cell? ⟨b, off + k, none⟩ = some (.int .u8 (xs.getD k 0)) ∧ 0 ≤ xs.getD k 0 ∧ xs.getD k 0 ≤ 255

theorem i64_and255 (n : Int) : bits .and .i64 n 255 = n % 256 := by
 have h255 : (BitVec.ofInt 64 255).toNat = 2 ^ 8 - 1 := by decide
 have key : (BitVec.ofInt 64 n &&& BitVec.ofInt 64 255).toNat = (n % ((2 ^ 64 : Nat) : Int)).toNat % 2 ^ 8 := by
  rw [BitVec.toNat_and, BitVec.toNat_ofInt, h255, Nat.and_two_pow_sub_one_eq_mod]
 show IntKind.i64.wrap ((BitVec.ofInt 64 n &&& BitVec.ofInt 64 255).toNat : Nat) = n % 256
 rw [key, IntKind.wrap_i64]
 omega
theorem and255 (n : Int) : 0 ≤ bits .and .i64 n 255 ∧ bits .and .i64 n 255 ≤ 255 := by rw [i64_and255]; omega

theorem three_cells {w : World} {g : Nat} {x y z : Value} {t : TypeId} (h : w.heap[g]? = some (.cells #[x, y, z] t (0, 0))) :
 w.cell? ⟨g, 0, none⟩ = some x ∧ w.cell? ⟨g, 1, none⟩ = some y ∧ w.cell? ⟨g, 2, none⟩ = some z ∧ w.frozen? ⟨g, 0, none⟩ = false ∧ w.frozen? ⟨g, 1, none⟩ = false ∧ w.frozen? ⟨g, 2, none⟩ = false := by
 refine ⟨?_, ?_, ?_, frozen_of_row w g 0 _ t h, frozen_of_row w g 1 _ t h, frozen_of_row w g 2 _ t h⟩
 ·rw [cell_of_row w g 0 _ t (0, 0) h]; rfl
 ·rw [cell_of_row w g 1 _ t (0, 0) h]; rfl
 ·rw [cell_of_row w g 2 _ t (0, 0) h]; rfl

theorem set_two {w : World} {g : Nat} {x y z : Value} {t : TypeId} (h : w.heap[g]? = some (.cells #[x, y, z] t (0, 0))) (u : Value) : (w.setCell ⟨g, 2, none⟩ u).heap[g]? = some (.cells #[x, y, u] t (0, 0)) := by
 rw [heap_setCell_same w g 2 _ t u h]; rfl
theorem set_one {w : World} {g : Nat} {x y z : Value} {t : TypeId} (h : w.heap[g]? = some (.cells #[x, y, z] t (0, 0))) (u : Value) : (w.setCell ⟨g, 1, none⟩ u).heap[g]? = some (.cells #[x, u, z] t (0, 0)) := by
 rw [heap_setCell_same w g 1 _ t u h]; rfl
theorem set_grown (w : World) (g j : Nat) (u : Value) : w.grownBy (w.setCell ⟨g, j, none⟩ u) (some g) :=
 ⟨rfl, rfl, rfl, by simp, fun k _ hk => heap_setCell_other w ⟨g, j, none⟩ k u (fun e => hk (by simp [e]))⟩

theorem grown_drewN {a b : World} {row : Option Nat} (h : a.grownBy b row) (n : Nat) : a.grownBy (b.drewN n) row := ⟨h.os, h.tape, h.output, h.size, h.block⟩

def ByteEnd (w : World) (g ca : Nat) (ao : Option Addr) (xs : List Int) (e : Ending) (w' : World) : Prop :=
 ∃ x : Int, e = .returned (.int .i64 x) ∧ 0 ≤ x ∧ x ≤ 255 ∧ (∃ i h : Int, w'.heap[g]? = some (.cells #[.slice ao xs.length ca, .int .i64 i, .int .i64 h] 139 (0, 0)) ∧ 0 ≤ i ∧ i ≤ xs.length) ∧ w.grownBy w' (some g)

set_option maxHeartbeats 1600000 in
set_option maxRecDepth 100000 in
theorem byte_end (g ca : Nat) (ao : Option Addr) (xs : List Int) (h : Int) (w : World) (hl : xs.length ≤ 140737488355328)
 (hc : w.heap[g]? = some (.cells #[.slice ao xs.length ca, .int .i64 xs.length, .int .i64 h] 139 (0, 0))) :
 Calls Tryz.prog 144 #[.pointer (some ⟨g, 0, none⟩)] w (ByteEnd w g ca ao xs) := by
 obtain ⟨c0, c1, c2, f0, f1, f2⟩ := three_cells hc
 have HC := hide hc
 clear hc
 go_enter Tryz.func144, Tryz.ntmps144
 go_wp2_with fail
 go_quiet (fail)
 go_wp2_with fail
 go_quiet (fail)
 go_wp2
 go_ret
 exact ⟨_, rfl, (and255 _).1, (and255 _).2, ⟨_, _, set_two (unhide HC) _, by omega, by omega⟩, grown_drewN (grown_drewN (set_grown _ _ _ _) _) _⟩

set_option maxHeartbeats 1600000 in
set_option maxRecDepth 100000 in
theorem byte_mid (g ca b off : Nat) (xs : List Int) (i : Nat) (h : Int) (w : World) (hl : xs.length ≤ 140737488355328) (hbg : b ≠ g)
 (hc : w.heap[g]? = some (.cells #[.slice (some ⟨b, off, none⟩) xs.length ca, .int .i64 i, .int .i64 h] 139 (0, 0))) (hi : i < xs.length)
 (hb : w.cell? ⟨b, off + i, none⟩ = some (.int .u8 (xs.getD i 0))) (hx : 0 ≤ xs.getD i 0 ∧ xs.getD i 0 ≤ 255) :
 Calls Tryz.prog 144 #[.pointer (some ⟨g, 0, none⟩)] w (ByteEnd w g ca (some ⟨b, off, none⟩) xs) := by
 obtain ⟨c0, c1, c2, f0, f1, f2⟩ := three_cells hc
 have HC := hide hc
 clear hc
 generalize xs.getD i 0 = d at *
 go_enter Tryz.func144, Tryz.ntmps144
 go_wp2_with fail
 go_quiet (fail)
 go_wp2_with fail
 go_quiet (fail)
 go_wp2_with fail
 go_quiet (fail)
 go_wp2
 go_ret
 exact ⟨_, rfl, (and255 _).1, (and255 _).2, ⟨_, _, set_one (set_two (unhide HC) _) _, by omega, by omega⟩, grown_trans (grown_drewN (set_grown _ _ _ _) _) (set_grown _ _ _ _)⟩

theorem Cur.grown {w w' : World} {base g ca : Nat} {ao : Option Addr} {xs : List Int} (h : Cur w base g ao ca xs) (hg : w.grownBy w' (some g)) (hB : base ≤ w.heap.size)
 (hc : ∃ i h : Int, w'.heap[g]? = some (.cells #[.slice ao xs.length ca, .int .i64 i, .int .i64 h] 139 (0, 0)) ∧ 0 ≤ i ∧ i ≤ xs.length) : Cur w' base g ao ca xs := by
 refine ⟨h.low, h.len, hc, ?_⟩
 rcases h.code with h' | ⟨b, off, hb, ha, hx⟩
 ·exact .inl h'
 ·refine .inr ⟨b, off, hb, ha, fun k hk => ⟨?_, (hx k hk).2⟩⟩
  have hlow := h.low
  rw [World.cell?_of_block (w := w) (hg.block b (by omega) (by simp; omega))]
  exact (hx k hk).1
theorem byte_any (base g ca : Nat) (ao : Option Addr) (xs : List Int) (w : World) (hB : base ≤ w.heap.size) (h : Cur w base g ao ca xs) :
 Calls Tryz.prog 144 #[.pointer (some ⟨g, 0, none⟩)] w fun e w' => ∃ x : Int, e = .returned (.int .i64 x) ∧ 0 ≤ x ∧ x ≤ 255 ∧ Cur w' base g ao ca xs ∧ w.grownBy w' (some g) := by
 have key : Calls Tryz.prog 144 #[.pointer (some ⟨g, 0, none⟩)] w (ByteEnd w g ca ao xs) := by
  obtain ⟨i, hh, hc, h0, h1⟩ := h.cells
  by_cases hi : i = xs.length
  ·subst hi; exact byte_end g ca ao xs hh w h.len hc
  ·obtain ⟨k, rfl⟩ := Int.eq_ofNat_of_zero_le h0
   rcases h.code with h' | ⟨b, off, hb, rfl, hx⟩
   ·subst h'; simp at h1; simp at hi; omega
   ·have hlow := h.low
    exact byte_mid g ca b off xs k hh w h.len (by omega) hc (by omega) (hx k (by omega)).1 (hx k (by omega)).2
 refine key.mono ?_
 rintro e w' ⟨x, rfl, h0, h1, hc, hg⟩
 exact ⟨x, rfl, h0, h1, h.grown hg hB hc, hg⟩

set_option maxHeartbeats 400000 in
set_option maxRecDepth 100000 in
theorem below_any (base g ca : Nat) (ao : Option Addr) (xs : List Int) (n : Int) (w : World) (hB : base ≤ w.heap.size) (hn : 1 ≤ n) (hm : n ≤ 256) (h : Cur w base g ao ca xs) :
 Calls Tryz.prog 92 #[.pointer (some ⟨g, 0, none⟩), .int .i64 n] w fun e w' => ∃ x : Int, e = .returned (.int .i64 x) ∧ 0 ≤ x ∧ x < n ∧ Cur w' base g ao ca xs ∧ w.grownBy w' (some g) := by
 have HC := hide (byte_any base g ca ao xs w hB h)
 clear h
 go_enter Tryz.func92, Tryz.ntmps92
 go_wp2_with fail
 refine (unhide HC).mono ?_
 rintro e w' ⟨x, rfl, h0, h1, hc, hg⟩
 go_wp2
 go_ret
 exact ⟨_, rfl, Int.emod_nonneg _ (by omega), Int.emod_lt_of_pos _ (by omega), hc, hg⟩

set_option maxHeartbeats 400000 in
set_option maxRecDepth 100000 in
theorem once_any (base g ca : Nat) (ao : Option Addr) (xs : List Int) (n : Int) (w : World) (hB : base ≤ w.heap.size) (hn : 1 ≤ n) (hm : n ≤ 256) (h : Cur w base g ao ca xs) :
 Calls Tryz.prog 63 #[.pointer (some ⟨g, 0, none⟩), .int .i64 n] w fun e w' => ∃ b : Bool, e = .returned (.bool b) ∧ Cur w' base g ao ca xs ∧ w.grownBy w' (some g) := by
 have HC := hide (below_any base g ca ao xs n w hB hn hm h)
 clear h
 go_enter Tryz.func63, Tryz.ntmps63
 go_wp2_with fail
 refine (unhide HC).mono ?_
 rintro e w' ⟨x, rfl, h0, h1, hc, hg⟩
 go_wp2
 go_ret
 exact ⟨_, rfl, hc, hg⟩

set_option maxHeartbeats 400000 in
set_option maxRecDepth 100000 in
theorem pickInt_any (base g ca p : Nat) (ao : Option Addr) (xs zs : List Int) (w : World) (hB : base ≤ w.heap.size) (hp : p ≠ g) (hz : 1 ≤ zs.length) (hz2 : zs.length ≤ 256) (hc : ∀ k, k < zs.length → w.cell? ⟨p, k, none⟩ = some (.int .i64 (zs.getD k 0))) (h : Cur w base g ao ca xs) :
 Calls Tryz.prog 119 #[.pointer (some ⟨g, 0, none⟩), .slice (some ⟨p, 0, none⟩) zs.length zs.length] w fun e w' => ∃ k : Nat, k < zs.length ∧ e = .returned (.int .i64 (zs.getD k 0)) ∧ Cur w' base g ao ca xs ∧ w.grownBy w' (some g) := by
 have HC := hide (below_any base g ca ao xs zs.length w hB (by omega) (by omega) h)
 have HD := hide hc
 clear h hc
 go_enter Tryz.func119, Tryz.ntmps119
 go_wp2_with fail
 refine (unhide HC).mono ?_
 rintro e w' ⟨x, rfl, h0, h1, hcur, hg⟩
 obtain ⟨k, rfl⟩ := Int.eq_ofNat_of_zero_le h0
 have hk : k < zs.length := by omega
 have hcell : w'.cell? ⟨p, k, none⟩ = some (.int .i64 (zs.getD k 0)) := by
  have h1 := unhide HD k hk
  exact hg.cell h1 (by simp [hp])
 obtain ⟨z, hz'⟩ : ∃ z, zs.getD k 0 = z := ⟨_, rfl⟩
 rw [hz'] at hcell
 have HZ := hide hz'
 clear hz'
 go_wp2
 go_ret
 have hz'' := unhide HZ
 subst hz''
 exact ⟨k, hk, rfl, hcur, hg⟩

set_option maxHeartbeats 400000 in
set_option maxRecDepth 100000 in
theorem pick_any (base g ca p : Nat) (ao : Option Addr) (xs : List Int) (zs : List ByteArray) (w : World) (hB : base ≤ w.heap.size) (hp : p ≠ g) (hz : 1 ≤ zs.length) (hz2 : zs.length ≤ 256) (hc : ∀ k, k < zs.length → w.cell? ⟨p, k, none⟩ = some (.string (zs.getD k ByteArray.empty))) (h : Cur w base g ao ca xs) :
 Calls Tryz.prog 154 #[.pointer (some ⟨g, 0, none⟩), .slice (some ⟨p, 0, none⟩) zs.length zs.length] w fun e w' => ∃ k : Nat, k < zs.length ∧ e = .returned (.string (zs.getD k ByteArray.empty)) ∧ Cur w' base g ao ca xs ∧ w.grownBy w' (some g) := by
 have HC := hide (below_any base g ca ao xs zs.length w hB (by omega) (by omega) h)
 have HD := hide hc
 clear h hc
 go_enter Tryz.func154, Tryz.ntmps154
 go_wp2_with fail
 refine (unhide HC).mono ?_
 rintro e w' ⟨x, rfl, h0, h1, hcur, hg⟩
 obtain ⟨k, rfl⟩ := Int.eq_ofNat_of_zero_le h0
 have hk : k < zs.length := by omega
 have hcell : w'.cell? ⟨p, k, none⟩ = some (.string (zs.getD k ByteArray.empty)) := by
  have h1 := unhide HD k hk
  exact hg.cell h1 (by simp [hp])
 obtain ⟨z, hz'⟩ : ∃ z, zs.getD k ByteArray.empty = z := ⟨_, rfl⟩
 rw [hz'] at hcell
 have HZ := hide hz'
 clear hz'
 go_wp2
 go_ret
 have hz'' := unhide HZ
 subst hz''
 exact ⟨k, hk, rfl, hcur, hg⟩

theorem new_cur (ao : Option Addr) (ca : Nat) (xs : List Int) (z : Int) (w : World) (hl : xs.length ≤ 1048576)
 (h : xs = [] ∨ ∃ b off, ao = some ⟨b, off, none⟩ ∧ ∀ k, k < xs.length → w.cell? ⟨b, off + k, none⟩ = some (.int .u8 (xs.getD k 0))) (hb : ∀ k, k < xs.length → 0 ≤ xs.getD k 0 ∧ xs.getD k 0 ≤ 255) :
 Cur (w.alloc (.cells #[.slice ao xs.length ca, .int .i64 0, .int .i64 z] 139)) w.heap.size w.heap.size ao ca xs := by
 refine ⟨Nat.le_refl _, by omega, ⟨0, z, heap_alloc_new w _, by omega, by omega⟩, ?_⟩
 rcases h with h | ⟨b, off, rfl, hx⟩
 ·exact .inl h
 ·by_cases h0 : xs = []
  ·exact .inl h0
  ·have hpos : 0 < xs.length := List.length_pos_iff.2 h0
   have hlt : b < w.heap.size := cell_lt (hx 0 hpos)
   refine .inr ⟨b, off, hlt, rfl, fun k hk => ⟨?_, hb k hk⟩⟩
   rw [((Below.refl w.heap.size w).alloc (Nat.le_refl _) _).cell (p := ⟨b, off + k, none⟩) hlt]
   exact hx k hk

set_option maxHeartbeats 800000 in
set_option maxRecDepth 100000 in
theorem new_any (ao : Option Addr) (ca : Nat) (xs : List Int) (w : World) (hl : xs.length ≤ 1048576)
 (h : xs = [] ∨ ∃ b off, ao = some ⟨b, off, none⟩ ∧ ∀ k, k < xs.length → w.cell? ⟨b, off + k, none⟩ = some (.int .u8 (xs.getD k 0))) (hb : ∀ k, k < xs.length → 0 ≤ xs.getD k 0 ∧ xs.getD k 0 ≤ 255) :
 Calls Tryz.prog 52 #[.slice ao xs.length ca] w fun e w' => e = .returned (.pointer (some ⟨w.heap.size, 0, none⟩)) ∧ Cur w' w.heap.size w.heap.size ao ca xs ∧ Below w.heap.size w w' := by
 obtain ⟨n, hn⟩ : ∃ n, xs.length = n := ⟨_, rfl⟩
 have Hn := hide hn
 rw [hn] at hl h hb ⊢
 clear hn
 go_enter Tryz.func52, Tryz.ntmps52
 go_wp2
 go_loop [3, 4] (fun y i => ∃ (k : Nat) (z : Int), k ≤ n ∧ y = .int .i64 z ∧ i = .int .i64 k) (fun _ i => n - (intOf i).toNat)
 case atStart => exact ⟨0, _, by omega, rfl, rfl⟩
 case round =>
  obtain ⟨k, z, hk, rfl, rfl⟩ := hrel
  by_cases hlt : k < n
  ·by_cases h4 : k < 4000
   ·rcases h with rfl | ⟨b, off, rfl, hx⟩
    ·have := unhide Hn; simp at this; omega
    have hc := hx k hlt
    have hbd := hb k hlt
    clear hx hb
    generalize xs.getD k 0 = d at *
    go_wp2
    go_round
    case rel => exact ⟨k + 1, _, by omega, rfl, by go_num⟩
    case measure => simp [intOf]; omega
   ·have hd4 : decide ((k : Int) < 4000) = false := by simp; omega
    have HX := hide h
    have HB := hide hb
    clear h hb
    have HN := fun z => hide (new_cur ao ca xs z w (by rw [unhide Hn]; exact hl) (by rw [unhide Hn]; exact unhide HX) (by rw [unhide Hn]; exact unhide HB))
    rw [unhide Hn] at HN
    go_wp2
    go_ret
    exact ⟨rfl, unhide (HN z), (Below.refl _ _).alloc (Nat.le_refl _) _⟩
  ·have hd : decide ((k : Int) < (n : Int)) = false := by simp; omega
   have HN := fun z => hide (new_cur ao ca xs z w (by rw [unhide Hn]; exact hl) (by rw [unhide Hn]; exact h) (by rw [unhide Hn]; exact hb))
   rw [unhide Hn] at HN
   clear h hb
   go_wp2
   go_ret
   exact ⟨rfl, unhide (HN z), (Below.refl _ _).alloc (Nat.le_refl _) _⟩
end Go.Proofs.YtmpmedbojfjnaaaGreatDoor
