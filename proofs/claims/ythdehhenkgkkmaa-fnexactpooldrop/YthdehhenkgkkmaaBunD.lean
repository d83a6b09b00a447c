/- Texts that belong together: TxRows, ToTxS, MarkTxP, TxOpen, TxsOpen. -/
import Derived.Test.YthdehhenkgkkmaaBunA
import Derived.Test.YthdehhenkgkkmaaBunC
import Derived.Deep.RegionHeld3
import Derived.Deep.DeepCutAuto
import Derived.OwnWalk
import Derived.Deep.Slices
/- Lists of payments in memory. -/
namespace Go.Proofs.Ythdehhenkgkkmaa
open Go.RowKit
set_option linter.unusedSectionVars false
variable [∀ (a b c d : Int), Decidable (Ok4 a b c d)]
variable [∀ (m a b c d : Int), Decidable (In4 m a b c d)]
variable [∀ (xs ys : List Int), Decidable (LOk xs ys)]

def tcell (x : T4) : List Value := [.int .i64 x.1, .int .i64 x.2.1, .int .i64 x.2.2.1, .int .i64 x.2.2.2]
def tcells (xs : List T4) : List Value := xs.flatMap tcell
theorem tcell_len (x : T4) : (tcell x).length = 4 := rfl
theorem tcells_len (xs : List T4) : (tcells xs).length = xs.length * 4 := by
  induction xs with
  | nil => rfl
  | cons x xs ih => simp [tcells, tcell] at *; omega
theorem tcells_append (xs ys : List T4) : tcells (xs ++ ys) = tcells xs ++ tcells ys := by simp [tcells]
theorem tcells_get (xs : List T4) (k j : Nat) (hk : k < xs.length) (hj : j < 4) : (tcells xs)[k * 4 + j]? = (tcell (xs.getD k (0, 0, 0, 0)))[j]? := by
  induction xs generalizing k with
  | nil => simp at hk
  | cons x xs ih =>
    have e : tcells (x :: xs) = tcell x ++ tcells xs := by simp [tcells]
    rw [e]
    cases k with
    | zero => rw [Nat.zero_mul, Nat.zero_add, List.getElem?_append_left (by rw [tcell_len]; exact hj)]; rfl
    | succ k =>
      rw [List.getElem?_append_right (by rw [tcell_len]; omega), tcell_len, show (k + 1) * 4 + j - 4 = k * 4 + j from by omega, ih k (by simpa using hk)]
      rfl
/-- v is a list of the call's own, from block 'base' on, of the payments xs. -/
def OT (w : World) (base : Nat) (v : Value) (xs : List T4) : Prop := w.ownsRow base 33 4 v xs.length (tcells xs)
/-- The four cells of the k-th payment of a row. -/
def Cells4K (w : World) (g k : Nat) (t : T4) : Prop := w.cell? ⟨g, k * 4, none⟩ = some (.int .i64 t.1) ∧ w.cell? ⟨g, k * 4 + 1, none⟩ = some (.int .i64 t.2.1) ∧ w.cell? ⟨g, k * 4 + 2, none⟩ = some (.int .i64 t.2.2.1) ∧ w.cell? ⟨g, k * 4 + 3, none⟩ = some (.int .i64 t.2.2.2)
/-- v reads as the payments xs. -/
def RT (w : World) (v : Value) (xs : List T4) : Prop :=
  xs.length ≤ 35184372088832 ∧ ∃ ao cap, v = .slice ao xs.length cap ∧ (xs = [] ∨ ∃ g, ao = some ⟨g, 0, none⟩ ∧ ∀ k, k < xs.length → w.cell? ⟨g, k * 4, none⟩ = some (.int .i64 (xs.getD k (0, 0, 0, 0)).1) ∧ w.cell? ⟨g, k * 4 + 1, none⟩ = some (.int .i64 (xs.getD k (0, 0, 0, 0)).2.1) ∧ w.cell? ⟨g, k * 4 + 2, none⟩ = some (.int .i64 (xs.getD k (0, 0, 0, 0)).2.2.1) ∧ w.cell? ⟨g, k * 4 + 3, none⟩ = some (.int .i64 (xs.getD k (0, 0, 0, 0)).2.2.2))
theorem OT.below {w w' : World} {base : Nat} {v : Value} {xs : List T4} (h : OT w base v xs) (hb : Below w.heap.size w w') : OT w' base v xs :=
  World.ownsRow.kept (row := none) h ⟨hb.os, hb.tape, hb.output, hb.size, fun k hk _ => hb.block k hk⟩ (by cases v.ownBlock <;> simp)
theorem OT.apart {w w' : World} {base N : Nat} {v u : Value} {xs : List T4} (h : OT w base v xs) (hg : w.grownBy w' u.ownBlock) (hv : ∀ k, v.ownBlock = some k → k < N) (hu : ∀ k, u.ownBlock = some k → N ≤ k) : OT w' base v xs := by
  refine World.ownsRow.kept h hg ?_
  cases hv' : v.ownBlock with
  | none => exact .inl rfl
  | some k => exact .inr fun e => by have := hv k hv'; have := hu k e.symm; omega
theorem OT.rt {w : World} {base : Nat} {v : Value} {xs : List T4} (h : OT w base v xs) (hl : xs.length ≤ 35184372088832) : RT w v xs := by
  refine ⟨hl, ?_⟩
  rcases h.2 with ⟨rfl, h0⟩ | ⟨g, cap, cur, rfl, _⟩
  · exact ⟨none, 0, by rw [h0], .inl (List.length_eq_zero_iff.1 h0)⟩
  · refine ⟨_, cap, rfl, .inr ⟨g, rfl, fun k hk => ?_⟩⟩
    have c0 := World.ownsRow.cellAt h (k * 4 + 0) (by omega)
    have c1 := World.ownsRow.cellAt h (k * 4 + 1) (by omega)
    have c2 := World.ownsRow.cellAt h (k * 4 + 2) (by omega)
    have c3 := World.ownsRow.cellAt h (k * 4 + 3) (by omega)
    rw [tcells_get xs k _ hk (by omega)] at c0 c1 c2 c3
    exact ⟨c0, c1, c2, c3⟩
theorem RT.below {w w' : World} {v : Value} {xs : List T4} (h : RT w v xs) (hb : Below w.heap.size w w') : RT w' v xs := by
  obtain ⟨hl, ao, cap, rfl, h⟩ := h
  refine ⟨hl, ao, cap, rfl, ?_⟩
  rcases h with h | ⟨g, rfl, h⟩
  · exact .inl h
  · refine .inr ⟨g, rfl, fun k hk => ?_⟩
    obtain ⟨c0, c1, c2, c3⟩ := h k hk
    have hg : g < w.heap.size := cell_lt c0
    exact ⟨(hb.cell (p := ⟨g, k * 4, none⟩) hg).trans c0, (hb.cell (p := ⟨g, k * 4 + 1, none⟩) hg).trans c1, (hb.cell (p := ⟨g, k * 4 + 2, none⟩) hg).trans c2, (hb.cell (p := ⟨g, k * 4 + 3, none⟩) hg).trans c3⟩

set_option maxHeartbeats 1600000 in
set_option maxRecDepth 100000 in
theorem eqTxS_yes (v u : Value) (xs : List T4) (w : World) (hv : RT w v xs) (hu : RT w u xs) :
    Calls Try.prog 11 #[v, u] w fun e w' => e = .returned (.bool true) ∧ Below w.heap.size w w' := by
  obtain ⟨hl, ao, ca, rfl, ha⟩ := hv
  obtain ⟨_, bo, cb, rfl, hb⟩ := hu
  have hbnd : xs.length ≤ 9223372036854775807 := by omega
  go_enter Try.func11, Try.ntmps11
  go_wp2
  go_loopw [5] (fun i wr => ∃ k : Nat, k ≤ xs.length ∧ i = .int .i64 k ∧ Below w.heap.size w wr) (fun i _ => xs.length - (intOf i).toNat)
  case atStart => exact ⟨0, Nat.zero_le _, rfl, Below.refl _ _⟩
  case round =>
    obtain ⟨k, hk, rfl, br⟩ := hrel
    have hsr := br.size
    by_cases hlt : k < xs.length
    · rcases ha with ha | ⟨g, rfl, ha⟩
      · subst ha; simp at hlt
      rcases hb with hb | ⟨g', rfl, hb⟩
      · subst hb; simp at hlt
      obtain ⟨a0, a1, a2, a3⟩ := ha k hlt
      obtain ⟨b0, b1, b2, b3⟩ := hb k hlt
      have hg : g < w.heap.size := cell_lt a0
      have hg' : g' < w.heap.size := cell_lt b0
      generalize xs.getD k (0, 0, 0, 0) = x at *
      obtain ⟨xa, xb, xc, xd⟩ := x
      have K : Hid (∀ w', Below wr.heap.size wr w' → Below wr.heap.size wr w' ∧ (w'.cell? ⟨g, k * 4, none⟩ = some (.int .i64 xa) ∧ w'.cell? ⟨g, k * 4 + 1, none⟩ = some (.int .i64 xb) ∧ w'.cell? ⟨g, k * 4 + 2, none⟩ = some (.int .i64 xc) ∧ w'.cell? ⟨g, k * 4 + 3, none⟩ = some (.int .i64 xd)) ∧ (w'.cell? ⟨g', k * 4, none⟩ = some (.int .i64 xa) ∧ w'.cell? ⟨g', k * 4 + 1, none⟩ = some (.int .i64 xb) ∧ w'.cell? ⟨g', k * 4 + 2, none⟩ = some (.int .i64 xc) ∧ w'.cell? ⟨g', k * 4 + 3, none⟩ = some (.int .i64 xd))) := fun w' hb' => by
        have hw := br.trans (hb'.mono hsr)
        exact ⟨hb', ⟨(hw.cell (p := ⟨g, k * 4, none⟩) hg).trans a0, (hw.cell (p := ⟨g, k * 4 + 1, none⟩) hg).trans a1, (hw.cell (p := ⟨g, k * 4 + 2, none⟩) hg).trans a2, (hw.cell (p := ⟨g, k * 4 + 3, none⟩) hg).trans a3⟩, ⟨(hw.cell (p := ⟨g', k * 4, none⟩) hg').trans b0, (hw.cell (p := ⟨g', k * 4 + 1, none⟩) hg').trans b1, (hw.cell (p := ⟨g', k * 4 + 2, none⟩) hg').trans b2, (hw.cell (p := ⟨g', k * 4 + 3, none⟩) hg').trans b3⟩⟩
      have bA : Below wr.heap.size wr wr.drew := Below.drew (Below.refl _ _)
      have hKeep := unhide K _ bA
      have EQ := hide fun w => eqTx_same xa xb xc xd w
      clear ha hb a0 a1 a2 a3 b0 b1 b2 b3
      go_wp2_with fail
      go_region_held3 (fun w' => Below wr.heap.size wr w' ∧ (w'.cell? ⟨g, k * 4, none⟩ = some (.int .i64 xa) ∧ w'.cell? ⟨g, k * 4 + 1, none⟩ = some (.int .i64 xb) ∧ w'.cell? ⟨g, k * 4 + 2, none⟩ = some (.int .i64 xc) ∧ w'.cell? ⟨g, k * 4 + 3, none⟩ = some (.int .i64 xd)) ∧ (w'.cell? ⟨g', k * 4, none⟩ = some (.int .i64 xa) ∧ w'.cell? ⟨g', k * 4 + 1, none⟩ = some (.int .i64 xb) ∧ w'.cell? ⟨g', k * 4 + 2, none⟩ = some (.int .i64 xc) ∧ w'.cell? ⟨g', k * 4 + 3, none⟩ = some (.int .i64 xd))) (exact hKeep) (first
        | (go_at_call 31; have hgo := bA; refine (unhide EQ _).mono ?_; rintro e wa ⟨rfl, ba⟩
           have bB : Below wr.heap.size wr wa := bA.trans ba
           have hKeep := unhide K _ bB; clear bA hgo))
      all_goals
        go_wp2
        go_roundw
        case rel => exact ⟨k + 1, by omega, by go_num, br.trans (bB.mono hsr)⟩
        case measure => simp [intOf]; omega
    · have hkn : k = xs.length := by omega
      subst hkn
      go_wp2
      go_ret
      exact ⟨rfl, br⟩
end Go.Proofs.Ythdehhenkgkkmaa

/- laws.toTxS, laws.szTxS. -/
namespace Go.Proofs.Ythdehhenkgkkmaa
open Go.RowKit
set_option linter.unusedSectionVars false
variable [∀ (a b c d : Int), Decidable (Ok4 a b c d)]
variable [∀ (m a b c d : Int), Decidable (In4 m a b c d)]
variable [∀ (xs ys : List Int), Decidable (LOk xs ys)]

theorem Try.infoTx : (Try.prog.info? 33).map (fun i => (i.zero, i.size, i.bytes)) = some (some (txv 0 0 0 0), 4, 32) := by kernel_rfl
/-- A list of payments that came in. -/
def AR (w : World) (ao : Option Addr) (xs : List T4) : Prop :=
  xs = [] ∨ ∃ b off, ao = some ⟨b, off, none⟩ ∧ ∀ k, k < xs.length → w.cell? ⟨b, off + k * 4, none⟩ = some (.int .i64 (xs.getD k (0, 0, 0, 0)).1) ∧ w.cell? ⟨b, off + k * 4 + 1, none⟩ = some (.int .i64 (xs.getD k (0, 0, 0, 0)).2.1) ∧ w.cell? ⟨b, off + k * 4 + 2, none⟩ = some (.int .i64 (xs.getD k (0, 0, 0, 0)).2.2.1) ∧ w.cell? ⟨b, off + k * 4 + 3, none⟩ = some (.int .i64 (xs.getD k (0, 0, 0, 0)).2.2.2)
theorem AR.below {w w' : World} {ao : Option Addr} {xs : List T4} (h : AR w ao xs) (hb : Below w.heap.size w w') : AR w' ao xs := by
  rcases h with h | ⟨b, off, rfl, h⟩
  · exact .inl h
  · refine .inr ⟨b, off, rfl, fun k hk => ?_⟩
    obtain ⟨c0, c1, c2, c3⟩ := h k hk
    have hg : b < w.heap.size := cell_lt c0
    exact ⟨(hb.cell (p := ⟨b, off + k * 4, none⟩) hg).trans c0, (hb.cell (p := ⟨b, off + k * 4 + 1, none⟩) hg).trans c1, (hb.cell (p := ⟨b, off + k * 4 + 2, none⟩) hg).trans c2, (hb.cell (p := ⟨b, off + k * 4 + 3, none⟩) hg).trans c3⟩
/-- The cells behind k rounds. -/
def part4 (xs : List T4) (cs : List Value) (k : Nat) : List Value := tcells (xs.take k) ++ cs.drop (k * 4)
theorem part4_set (xs : List T4) (cs : List Value) (k : Nat) (hk : k < xs.length) (hc : cs.length = xs.length * 4) (x : T4) (hx : xs.getD k (0, 0, 0, 0) = x) :
    ((((part4 xs cs k).set (k * 4) (.int .i64 x.1)).set (k * 4 + 1) (.int .i64 x.2.1)).set (k * 4 + 2) (.int .i64 x.2.2.1)).set (k * 4 + 3) (.int .i64 x.2.2.2) = part4 xs cs (k + 1) := by
  unfold part4
  have hp : (tcells (xs.take k)).length = k * 4 := by rw [tcells_len, List.length_take]; omega
  have ht : xs.take (k + 1) = xs.take k ++ [x] := by
    rw [List.take_succ_eq_append_getElem hk, ← hx, List.getD_eq_getElem?_getD, List.getElem?_eq_getElem hk]; rfl
  rw [ht, tcells_append]
  generalize tcells (xs.take k) = P at *
  have hr : 4 ≤ (cs.drop (k * 4)).length := by rw [List.length_drop]; omega
  have hd : cs.drop ((k + 1) * 4) = (cs.drop (k * 4)).drop 4 := by rw [List.drop_drop]; congr 1; omega
  rw [hd]
  match cs.drop (k * 4), hr with
  | r0 :: r1 :: r2 :: r3 :: R, _ =>
    rw [← hp]
    simp [List.set_append_right, tcells, tcell]
theorem part4_zero (xs : List T4) (cs : List Value) : part4 xs cs 0 = cs := by simp [part4, tcells]
theorem part4_all (xs : List T4) (cs : List Value) (hc : cs.length = xs.length * 4) : part4 xs cs xs.length = tcells xs := by
  unfold part4; rw [List.take_of_length_le (Nat.le_refl _), List.drop_of_length_le (by omega)]; simp

theorem OT.kp {w w' : World} {base : Nat} {X : Nat → Prop} {v : Value} {xs : List T4} (h : OT w base v xs) (k : Kp w w' X) (hv : ∀ k, v.ownBlock = some k → ¬ X k) : OT w' base v xs := by
  refine ⟨h.1, ?_⟩
  rcases h.2 with hn | ⟨g, cap, cur, rfl, hb, hgg, rest⟩
  · exact .inl hn
  · refine .inr ⟨g, cap, cur, rfl, hb, ?_, rest⟩
    rw [k.block g (Array.getElem?_eq_some_iff.1 hgg).1 (hv g rfl)]
    exact hgg

set_option maxHeartbeats 4000000 in
set_option maxRecDepth 100000 in
theorem toTxS_any (ao : Option Addr) (ca : Nat) (xs : List T4) (w : World) (hl : xs.length ≤ 1048577) (h : AR w ao xs) :
    Calls Try.prog 9 #[.slice ao xs.length ca] w fun e w' => ∃ v, e = .returned v ∧ OT w' w.heap.size v xs ∧ Below w.heap.size w w' := by
  obtain ⟨i0, hi, hz0, hz1, hz2⟩ := info_parts Try.infoTx
  go_enter Try.func9, Try.ntmps9
  go_wp2_with (first | (at_make; refine wpList_make_full _ rfl _ _ 25 rfl w.heap.size 33 i0 (txv 0 0 0 0) 4 Try.underlying25 hi hz0 hz1 .i64 .i64 _ _ xs.length rfl rfl rfl rfl (by rw [hz2]; omega) (by unfold maxLen; omega) (Nat.le_refl _) ?_; intro w0 ho0 hg0))
  have hcs : (madeCells (txv 0 0 0 0).cells (xs.length * 4)).toList.length = xs.length * 4 := by rw [Array.length_toList, size_madeCells]
  generalize (madeCells (txv 0 0 0 0).cells (xs.length * 4)).toList = cs at *
  go_loopw [4] (fun i wr => ∃ k : Nat, k ≤ xs.length ∧ i = .int .i64 k ∧ wr.ownsRow w.heap.size 33 4 (.slice (some ⟨w.heap.size, 0, none⟩) xs.length xs.length) xs.length (part4 xs cs k) ∧ Below w.heap.size w wr) (fun i _ => xs.length - (intOf i).toNat)
  case atStart => exact ⟨0, Nat.zero_le _, rfl, by rw [part4_zero]; exact ho0, (Below.refl _ _).grown hg0 (Nat.le_refl _) (by simp)⟩
  case round =>
    clear ho0 hg0
    obtain ⟨k, hk, rfl, ho, br⟩ := hrel
    by_cases hlt : k < xs.length
    · rcases h with h | ⟨b, off, rfl, h⟩
      · subst h; simp at hlt
      obtain ⟨a0, a1, a2, a3⟩ := h k hlt
      have hg : b < w.heap.size := cell_lt a0
      have c0 := (br.cell (p := ⟨b, off + k * 4, none⟩) hg).trans a0
      have c1 := (br.cell (p := ⟨b, off + k * 4 + 1, none⟩) hg).trans a1
      have c2 := (br.cell (p := ⟨b, off + k * 4 + 2, none⟩) hg).trans a2
      have c3 := (br.cell (p := ⟨b, off + k * 4 + 3, none⟩) hg).trans a3
      clear a0 a1 a2 a3 h
      have hsr := br.size
      obtain ⟨x, hxk⟩ : ∃ x, xs.getD k (0, 0, 0, 0) = x := ⟨_, rfl⟩
      rw [hxk] at c0 c1 c2 c3
      have HP := hide (part4_set xs cs k hlt hcs x hxk)
      clear hxk
      obtain ⟨xa, xb, xc, xd⟩ := x
      simp only at c0 c1 c2 c3
      have hplen : (part4 xs cs k).length = xs.length * 4 := by
        unfold part4; rw [List.length_append, tcells_len, List.length_take, List.length_drop, hcs]; omega
      have HO := hide ho
      clear ho
      go_wp2_with fail
      refine (toTx_any xa xb xc xd _).mono ?_
      rintro e w2 ⟨rfl, b2⟩
      have s2 := b2.size
      have ho2 := World.ownsRow.kept (row := none) (unhide HO) ⟨b2.os, b2.tape, b2.output, b2.size, fun k hk _ => b2.block k hk⟩ (by simp [Value.ownBlock])
      have bw2 := br.trans (b2.mono hsr)
      obtain ⟨y0, y1, y2, y3⟩ : (∃ u, w2.cell? ⟨w.heap.size, k * 4, none⟩ = some u) ∧ (∃ u, w2.cell? ⟨w.heap.size, k * 4 + 1, none⟩ = some u) ∧ (∃ u, w2.cell? ⟨w.heap.size, k * 4 + 2, none⟩ = some u) ∧ (∃ u, w2.cell? ⟨w.heap.size, k * 4 + 3, none⟩ = some u) := by
        have gt : ∀ j, j < xs.length * 4 → ∃ u, w2.cell? ⟨w.heap.size, j, none⟩ = some u := fun j hj => ⟨_, (ho2.cellAt j hj).trans (List.getElem?_eq_getElem (by rw [hplen]; exact hj))⟩
        exact ⟨gt _ (by omega), gt _ (by omega), gt _ (by omega), gt _ (by omega)⟩
      obtain ⟨u0, y0⟩ := y0
      obtain ⟨u1, y1⟩ := y1
      obtain ⟨u2, y2⟩ := y2
      obtain ⟨u3, y3⟩ := y3
      have hfr := ho2.frozenAt
      have t0 := ho2.stored (k * 4) (.int .i64 xa)
      have t1 := t0.1.stored (k * 4 + 1) (.int .i64 xb)
      have t2 := t1.1.stored (k * 4 + 2) (.int .i64 xc)
      have t3 := t2.1.stored (k * 4 + 3) (.int .i64 xd)
      have H3 := hide t3.1
      clear t0 t1 t2 t3 ho2 c0 c1 c2 c3
      go_wp2
      go_roundw
      case rel => exact ⟨k + 1, by omega, by go_num, by rw [← unhide HP]; exact unhide H3, (((bw2.setCell (Nat.le_refl _) _).setCell (Nat.le_refl _) _).setCell (Nat.le_refl _) _).setCell (Nat.le_refl _) _⟩
      case measure => simp [intOf]; omega
    · have hkn : k = xs.length := by omega
      have HO : Hid (OT wr w.heap.size (.slice (some ⟨w.heap.size, 0, none⟩) xs.length xs.length) xs) := by
        show OT _ _ _ _
        unfold OT
        rw [← part4_all xs cs hcs, ← hkn]; rw [← hkn] at ho; exact ho
      clear ho h
      go_wp2
      go_ret
      exact ⟨_, rfl, HO.out, br⟩

set_option maxHeartbeats 400000 in
set_option maxRecDepth 100000 in
theorem szTxS_yes (ao : Option Addr) (n ca : Nat) (left : Int) (w : World) (hn : (n : Int) ≤ left) (hl : left ≤ 1048576) :
    Calls Try.prog 7 #[.slice ao n ca, .int .i64 left] w fun e w' => e = .returned (.int .i64 (left - n)) ∧ w' = w := by
  have hd : decide (left - (n : Int) < 0) = false := by simp; omega
  go_enter Try.func7, Try.ntmps7
  go_wp2
  go_ret
  exact ⟨rfl, rfl⟩
set_option maxHeartbeats 400000 in
set_option maxRecDepth 100000 in
theorem szTxS_no (ao : Option Addr) (n ca : Nat) (left : Int) (w : World) (h0 : 0 ≤ left) (hl : left ≤ 1048576) (hn : left < n) (hm : n ≤ 9223372036854775807) :
    Calls Try.prog 7 #[.slice ao n ca, .int .i64 left] w fun e w' => e = .returned (.int .i64 (-1)) ∧ w' = w := by
  have hd : decide (left - (n : Int) < 0) = true := by simp; omega
  go_enter Try.func7, Try.ntmps7
  go_wp2
  go_ret
  exact ⟨rfl, rfl⟩

end Go.Proofs.Ythdehhenkgkkmaa

/- laws.markTxS and heldTxS. -/
namespace Go.Proofs.Ythdehhenkgkkmaa
open Go.RowKit
set_option linter.unusedSectionVars false
variable [∀ (a b c d : Int), Decidable (Ok4 a b c d)]
variable [∀ (m a b c d : Int), Decidable (In4 m a b c d)]
variable [∀ (xs ys : List Int), Decidable (LOk xs ys)]

/-- What markTxS writes. -/
def tmark (k0 i : Nat) : T4 := ((k0 : Int) + (i : Int) * 4, (k0 : Int) + (i : Int) * 4 + 1, (k0 : Int) + (i : Int) * 4 + 2, (k0 : Int) + (i : Int) * 4 + 3)
def tmarks (k0 n : Nat) : List T4 := (List.range n).map (tmark k0)
theorem tmarks_len (k0 n : Nat) : (tmarks k0 n).length = n := by simp [tmarks]
theorem tmarks_get (k0 n i : Nat) (h : i < n) : (tmarks k0 n).getD i (0, 0, 0, 0) = tmark k0 i := by simp [tmarks, h]
theorem tmarks_succ (k0 n : Nat) : tmarks k0 (n + 1) = tmarks k0 n ++ [tmark k0 n] := by simp [tmarks, List.range_succ]
/-- The payments behind k rounds. -/
def tmixed (k0 k : Nat) (vs : List T4) : List T4 := tmarks k0 k ++ vs.drop k
theorem tmixed_zero (k0 : Nat) (vs : List T4) : tmixed k0 0 vs = vs := by simp [tmixed, tmarks]
theorem tmixed_all (k0 : Nat) (vs : List T4) : tmixed k0 vs.length vs = tmarks k0 vs.length := by simp [tmixed]
theorem tmixed_len (k0 k : Nat) (vs : List T4) (h : k ≤ vs.length) : (tmixed k0 k vs).length = vs.length := by simp [tmixed, tmarks_len]; omega
theorem tcells_set (xs : List T4) (k : Nat) (x : T4) (hk : k < xs.length) : ((((tcells xs).set (k * 4) (.int .i64 x.1)).set (k * 4 + 1) (.int .i64 x.2.1)).set (k * 4 + 2) (.int .i64 x.2.2.1)).set (k * 4 + 3) (.int .i64 x.2.2.2) = tcells (xs.set k x) := by
  induction xs generalizing k with
  | nil => simp at hk
  | cons y ys ih =>
    have e : ∀ z : T4, ∀ zs, tcells (z :: zs) = .int .i64 z.1 :: .int .i64 z.2.1 :: .int .i64 z.2.2.1 :: .int .i64 z.2.2.2 :: tcells zs := fun z zs => by simp [tcells, tcell]
    cases k with
    | zero => rw [e]; simp [e]
    | succ k =>
      rw [e, List.set_cons_succ, e, ← ih k (by simpa using hk)]
      rw [show (k + 1) * 4 = k * 4 + 1 + 1 + 1 + 1 from by omega]
      simp only [List.set_cons_succ]
theorem tmixed_set (k0 k : Nat) (vs : List T4) (h : k < vs.length) : (tmixed k0 k vs).set k (tmark k0 k) = tmixed k0 (k + 1) vs := by
  unfold tmixed
  rw [tmarks_succ, List.set_append_right _ _ (by simp [tmarks_len]), tmarks_len, Nat.sub_self, List.drop_eq_getElem_cons h, List.set_cons_zero]
  simp

set_option maxHeartbeats 4000000 in
set_option maxRecDepth 100000 in
theorem tmark_row (base g n cap k0 : Nat) (vs : List T4) (w : World) (hn : n ≤ 4194304) (hk1 : k0 ≤ 100000000) (hv : vs.length = n) (h : OT w base (.slice (some ⟨g, 0, none⟩) n cap) vs) :
    Calls Try.prog 15 #[.slice (some ⟨g, 0, none⟩) n cap, .int .i64 k0] w fun e w' => e = .returned (.int .i64 (k0 + n * 4)) ∧
      OT w' base (.slice (some ⟨g, 0, none⟩) n cap) (tmarks k0 n) ∧ w.grownBy w' (some g) := by
  have Hv := hide hv
  clear hv
  go_enter Try.func15, Try.ntmps15
  go_wp2
  go_loopw [1, 5] (fun c i wr => ∃ k : Nat, k ≤ n ∧ i = .int .i64 k ∧ c = .int .i64 ((k0 : Int) + (k : Int) * 4) ∧ OT wr base (.slice (some ⟨g, 0, none⟩) n cap) (tmixed k0 k vs) ∧ w.grownBy wr (some g)) (fun _ i _ => n - (intOf i).toNat)
  case atStart => exact ⟨0, Nat.zero_le _, rfl, by go_num, by rw [tmixed_zero]; exact h, ⟨rfl, rfl, rfl, Nat.le_refl _, fun _ _ _ => rfl⟩⟩
  case round =>
    obtain ⟨k, hk, rfl, rfl, ho, hg⟩ := hrel
    by_cases hlt : k < n
    · have hkv : k < vs.length := by rw [unhide Hv]; exact hlt
      have hlen : (tmixed k0 k vs).length = n := by rw [tmixed_len k0 k vs (by omega), unhide Hv]
      have ho0 : wr.ownsRow base 33 4 (.slice (some ⟨g, 0, none⟩) n cap) n (tcells (tmixed k0 k vs)) := by have := ho; unfold OT at this; rw [hlen] at this; exact this
      obtain ⟨y0, y1, y2, y3⟩ : (∃ u, wr.cell? ⟨g, k * 4, none⟩ = some u) ∧ (∃ u, wr.cell? ⟨g, k * 4 + 1, none⟩ = some u) ∧ (∃ u, wr.cell? ⟨g, k * 4 + 2, none⟩ = some u) ∧ (∃ u, wr.cell? ⟨g, k * 4 + 3, none⟩ = some u) := by
        have gt : ∀ j, j < n * 4 → ∃ u, wr.cell? ⟨g, j, none⟩ = some u := fun j hj => ⟨_, (ho0.cellAt j hj).trans (List.getElem?_eq_getElem (by rw [tcells_len, hlen]; exact hj))⟩
        exact ⟨gt _ (by omega), gt _ (by omega), gt _ (by omega), gt _ (by omega)⟩
      obtain ⟨u0, y0⟩ := y0
      obtain ⟨u1, y1⟩ := y1
      obtain ⟨u2, y2⟩ := y2
      obtain ⟨u3, y3⟩ := y3
      have hfr := ho0.frozenAt
      have t0 := ho0.stored (k * 4) (.int .i64 ((k0 : Int) + (k : Int) * 4))
      have t1 := t0.1.stored (k * 4 + 1) (.int .i64 ((k0 : Int) + (k : Int) * 4 + 1))
      have t2 := t1.1.stored (k * 4 + 2) (.int .i64 ((k0 : Int) + (k : Int) * 4 + 2))
      have t3 := t2.1.stored (k * 4 + 3) (.int .i64 ((k0 : Int) + (k : Int) * 4 + 3))
      have HO := hide t3.1
      have HG := hide (grown_trans hg (grown_trans t0.2 (grown_trans t1.2 (grown_trans t2.2 t3.2))))
      have hlen' : (tmixed k0 (k + 1) vs).length = n := by rw [tmixed_len k0 (k + 1) vs (by omega), unhide Hv]
      clear t0 t1 t2 t3 ho ho0 hg
      go_wp2
      go_roundw
      case rel =>
        refine ⟨k + 1, by omega, by go_num, by go_num, ?_, ?_⟩
        · unfold OT
          rw [hlen', ← tmixed_set k0 k vs hkv, ← tcells_set _ _ _ (by rw [hlen]; exact hlt)]
          exact unhide HO
        · exact unhide HG
      case measure => simp [intOf]; omega
    · have hkn : k = n := by omega
      have HO : Hid (OT wr base (.slice (some ⟨g, 0, none⟩) n cap) (tmarks k0 n)) := by
        have := tmixed_all k0 vs; rw [unhide Hv] at this; rw [← this, ← hkn]; rw [← hkn] at ho; exact ho
      clear ho
      subst hkn
      go_wp2
      go_ret
      exact ⟨rfl, HO.out, hg⟩

set_option maxHeartbeats 400000 in
set_option maxRecDepth 100000 in
theorem tmark_none (w : World) (k0 : Nat) : Calls Try.prog 15 #[.slice none 0 0, .int .i64 k0] w fun e w' => e = .returned (.int .i64 k0) ∧ w' = w := by
  go_enter Try.func15, Try.ntmps15
  go_wp2
  refine wp_loop_rounds 1 ?_
  rw [rounds_succ]
  go_wp2
  go_ret
  exact ⟨rfl, rfl⟩
theorem tmark_any (base k0 : Nat) (v : Value) (xs : List T4) (w : World) (hl : xs.length ≤ 4194304) (hk0 : k0 ≤ 100000000) (h : OT w base v xs) :
    Calls Try.prog 15 #[v, .int .i64 k0] w fun e w' => e = .returned (.int .i64 (k0 + xs.length * 4)) ∧ OT w' base v (tmarks k0 xs.length) ∧ w.grownBy w' v.ownBlock := by
  have h' := h
  rcases h.2 with ⟨rfl, h0⟩ | ⟨g, cap, cur, rfl, _⟩
  · refine (tmark_none w k0).mono ?_
    rintro e w' ⟨rfl, rfl⟩
    have hx : xs = [] := List.length_eq_zero_iff.1 h0
    subst hx
    exact ⟨by simp, World.ownsRow_nil _ _ _ _, ⟨rfl, rfl, rfl, Nat.le_refl _, fun _ _ _ => rfl⟩⟩
  · refine (tmark_row base g xs.length cap k0 xs w hl hk0 rfl h').mono ?_
    rintro e w' ⟨rfl, ho, hg⟩
    exact ⟨rfl, ho, hg⟩
set_option maxHeartbeats 4000000 in
set_option maxRecDepth 100000 in
theorem theld_row (v : Value) (n k0 : Nat) (w : World) (hn : n ≤ 4194304) (hk1 : k0 ≤ 100000000) (h : RT w v (tmarks k0 n)) :
    Calls Try.prog 16 #[v, .int .i64 k0] w fun e w' => e = .returned (.int .i64 (k0 + n * 4)) ∧ Below w.heap.size w w' := by
  obtain ⟨hl, ao, ca, rfl, ha⟩ := h
  rw [tmarks_len] at hl ha ⊢
  go_enter Try.func16, Try.ntmps16
  go_wp2
  go_loopw [1, 5] (fun c i wr => ∃ k : Nat, k ≤ n ∧ i = .int .i64 k ∧ c = .int .i64 ((k0 : Int) + (k : Int) * 4) ∧ Below w.heap.size w wr) (fun _ i _ => n - (intOf i).toNat)
  case atStart => exact ⟨0, Nat.zero_le _, rfl, by go_num, Below.refl _ _⟩
  case round =>
    obtain ⟨k, hk, rfl, rfl, hb⟩ := hrel
    by_cases hlt : k < n
    · rcases ha with ha | ⟨b, rfl, ha⟩
      · have := congrArg List.length ha; rw [tmarks_len] at this; simp at this; omega
      obtain ⟨a0, a1, a2, a3⟩ := ha k hlt
      rw [tmarks_get k0 n k hlt] at a0 a1 a2 a3
      simp only [tmark] at a0 a1 a2 a3
      have hlb : b < w.heap.size := cell_lt a0
      have c0 := (hb.cell (p := ⟨b, k * 4, none⟩) hlb).trans a0
      have c1 := (hb.cell (p := ⟨b, k * 4 + 1, none⟩) hlb).trans a1
      have c2 := (hb.cell (p := ⟨b, k * 4 + 2, none⟩) hlb).trans a2
      have c3 := (hb.cell (p := ⟨b, k * 4 + 3, none⟩) hlb).trans a3
      clear ha a0 a1 a2 a3
      go_wp2
      go_roundw
      case rel => exact ⟨k + 1, by omega, by go_num, by go_num, hb⟩
      case measure => simp [intOf]; omega
    · have hkn : k = n := by omega
      subst hkn
      clear ha
      go_wp2
      go_ret
      exact ⟨rfl, hb⟩
end Go.Proofs.Ythdehhenkgkkmaa

/- A payment that came in. -/
namespace Go.Proofs.Ythdehhenkgkkmaa
open Go.ChangeShapes Go.WideShapes Go.ChangeAt Go.RowKit
open Go.Joins
set_option linter.unusedSectionVars false
variable [∀ (a b c d : Int), Decidable (Ok4 a b c d)]
variable [∀ (m a b c d : Int), Decidable (In4 m a b c d)]
variable [∀ (xs ys : List Int), Decidable (LOk xs ys)]

theorem cellsTx : Try.prog.cellsOf 30 = 4 := by kernel_rfl
theorem open_tx {H : Type} {enc : TypeId × Value → H} {W : World} {base : Nat} {v : Value} {d : DataW H} {p : List MemPlace} (hv : Value.okWide Try.prog W .any base 30 v)
    (h : DataW.Trod enc Try.prog W 0 (fun _ => true) true 30 v d p) : ∃ a b c d : Int, v = txv a b c d := by
  obtain ⟨c0, c1, c2, c3, y0, y1, y2, y3, m, rfl, _, _, hy0, hy1, hy2, hy3⟩ := open_agg4 Try.underlying30 (by kernel_rfl) cellsTx hv h
  obtain ⟨a, e0, _, _⟩ := DataW.trod_int Try.underlying3 hy0
  obtain ⟨b, e1, _, _⟩ := DataW.trod_int Try.underlying3 hy1
  obtain ⟨c, e2, _, _⟩ := DataW.trod_int Try.underlying3 hy2
  obtain ⟨d, e3, _, _⟩ := DataW.trod_int Try.underlying3 hy3
  simp at e0 e1 e2 e3
  exact ⟨a, b, c, d, by rw [e0, e1, e2, e3]⟩
end Go.Proofs.Ythdehhenkgkkmaa

/- A list of payments that came in. -/
namespace Go.Proofs.Ythdehhenkgkkmaa
open Go.ChangeShapes Go.WideShapes Go.ChangeAt Go.RowKit
open Go.Joins
set_option linter.unusedSectionVars false
variable [∀ (a b c d : Int), Decidable (Ok4 a b c d)]
variable [∀ (m a b c d : Int), Decidable (In4 m a b c d)]
variable [∀ (xs ys : List Int), Decidable (LOk xs ys)]

theorem field_int {H : Type} {enc : TypeId × Value → H} {W : World} {n : Nat} {c : Value} {y : DataW H × List MemPlace} (h : DataW.trod enc Try.prog W 0 (fun _ => true) true n 3 [c] = some y) : ∃ a : Int, c = .int .i64 a := by
  obtain ⟨a, e0, _, _⟩ := DataW.trod_int Try.underlying3 h
  simp at e0
  exact ⟨a, e0⟩
theorem four_list {α : Type} {l : List α} (h : l.length = 4) : ∃ a b c d, l = [a, b, c, d] := by
  match l, h with
  | [a, b, c, d], _ => exact ⟨a, b, c, d, rfl⟩
/-- What came in: a list of payments. -/
theorem open_txs0 {H : Type} {enc : TypeId × Value → H} {W : World} {fuel : Nat} {a : Option Addr} {len cap : Nat} {x : DataW H × List MemPlace} (h : DataW.trod enc Try.prog W 0 (fun _ => true) true fuel 22 (Value.slice a len cap).cells.toList = some x) :
    ∃ xs : List T4, len = xs.length ∧ xs.length ≤ maxLen ∧ AR W a xs := by
  rcases Go.Deep.open_slice Try.underlying22 h with ⟨hcs, _⟩ | ⟨ad, l, c, m, n, D, Pl, hcs, _, hl, hm, hmm, _, hx⟩
  · simp [Value.cells] at hcs
    obtain ⟨rfl, rfl, rfl⟩ := hcs
    exact ⟨[], rfl, by simp, .inl rfl⟩
  · simp [Value.cells] at hcs
    obtain ⟨rfl, rfl, rfl⟩ := hcs
    have hm' : m = cap := by simpa using hmm
    have each : ∀ i, ∃ q : T4, i < len → W.cell? (ad.add (i * 4)) = some (.int .i64 q.1) ∧ W.cell? (ad.add (i * 4 + 1)) = some (.int .i64 q.2.1) ∧ W.cell? (ad.add (i * 4 + 2)) = some (.int .i64 q.2.2.1) ∧ W.cell? (ad.add (i * 4 + 3)) = some (.int .i64 q.2.2.2) := by
      intro i
      by_cases hi : i < len
      · obtain ⟨cs', h1, h2⟩ := hx i (by omega)
        rw [cellsTx] at h1
        obtain ⟨_, hlen, hcell⟩ := World.cells?_some h1
        obtain ⟨y0, y1, y2, y3, k, _, _, g0, g1, g2, g3⟩ := trod_struct4 Try.underlying30 h2
        obtain ⟨v0, v1, v2, v3, rfl⟩ := four_list hlen
        have e0 := hcell 0 (by omega)
        have e1 := hcell 1 (by omega)
        have e2 := hcell 2 (by omega)
        have e3 := hcell 3 (by omega)
        rw [Go.Deep.add_add] at e0 e1 e2 e3
        have ci : Try.prog.cellsOf 3 = 1 := by kernel_rfl
        simp [ci] at g0 g1 g2 g3
        obtain ⟨a0, rfl⟩ := field_int g0
        obtain ⟨a1, rfl⟩ := field_int g1
        obtain ⟨a2, rfl⟩ := field_int g2
        obtain ⟨a3, rfl⟩ := field_int g3
        exact ⟨(a0, a1, a2, a3), fun _ => ⟨by simpa using e0, by simpa using e1, by simpa using e2, by simpa using e3⟩⟩
      · exact ⟨(0, 0, 0, 0), fun h => absurd h hi⟩
    obtain ⟨q, hq⟩ := Classical.axiomOfChoice each
    refine ⟨(List.range len).map q, by simp, by simp; omega, ?_⟩
    by_cases h0 : len = 0
    · left; simp [h0]
    · right
      obtain ⟨b, off, spot⟩ := ad
      have hc := (hq 0 (by omega)).1
      have hspot : spot = none := by simpa [Addr.add] using World.cell?_spot hc
      subst hspot
      refine ⟨b, off, rfl, fun k hk => ?_⟩
      rw [List.length_map, List.length_range] at hk
      have := hq k hk
      have ea : ∀ j, ((⟨b, off, none⟩ : Addr).add j) = ⟨b, off + j, none⟩ := fun j => by unfold Addr.add; split <;> simp_all
      rw [ea, ea, ea, ea] at this
      have eg : ((List.range len).map q).getD k (0, 0, 0, 0) = q k := by simp [hk]
      rw [eg]
      simpa [Nat.add_assoc] using this

theorem open_txs {H : Type} {enc : TypeId × Value → H} {W : World} {base : Nat} {v : Value} {d : DataW H} {p : List MemPlace} (hv : Value.okWide Try.prog W .any base 22 v)
    (h : DataW.Trod enc Try.prog W 0 (fun _ => true) true 22 v d p) : ∃ al cl, ∃ ts : List T4, v = .slice al ts.length cl ∧ ts.length ≤ maxLen ∧ AR W al ts := by
  obtain ⟨a, len, cap, rfl⟩ := okWide_slice Try.underlying22 hv
  obtain ⟨fuel, hf⟩ := h
  obtain ⟨xs, rfl, hm, hr⟩ := open_txs0 hf
  exact ⟨a, cap, xs, rfl, hm, hr⟩
end Go.Proofs.Ythdehhenkgkkmaa
