/- laws.toTxS, laws.szTxS. -/
import Derived.Test.YtlglekfmiacdnaaTxRows
import Derived.OwnWalk
namespace Go.Proofs.Ytlglekfmiacdnaa
open Go.RowKit
set_option linter.unusedSectionVars false
variable [∀ (a b c d : Int), Decidable (Ok4 a b c d)]
variable [∀ (m a b c d : Int), Decidable (In4 m a b c d)]
variable [∀ (xs ys : List Int), Decidable (LOk xs ys)]

theorem Try.infoTx : (Try.prog.info? 33).map (fun i => (i.zero, i.size, i.bytes)) = some (some (txv 0 0 0 0), 4, 32) := by kernel_rfl
/-- A list of payments that came in. -/
def AR (w : World) (ao : Option Addr) (xs : List T4) : Prop :=
  xs = [] ∨ ∃ b off, ao = some ⟨b, off, none⟩ ∧ ∀ k, k < xs.length → w.cell? ⟨b, off + k * 4, none⟩ = some (.int .i64 (xs.getD k (0, 0, 0, 0)).1) ∧ w.cell? ⟨b, off + k * 4 + 1, none⟩ = some (.int .i64 (xs.getD k (0, 0, 0, 0)).2.1) ∧ w.cell? ⟨b, off + k * 4 + 2, none⟩ = some (.int .i64 (xs.getD k (0, 0, 0, 0)).2.2.1) ∧ w.cell? ⟨b, off + k * 4 + 3, none⟩ = some (.int .i64 (xs.getD k (0, 0, 0, 0)).2.2.2)
theorem AR.below {w w' : World} {ao : Option Addr} {xs : List T4} (h : AR w ao xs) (hb : Below w.heap.size w w') : AR w' ao xs := by
  rcases h with h | ⟨b, off, rfl, h⟩
  · exact .inl h
  · refine .inr ⟨b, off, rfl, fun k hk => ?_⟩
    obtain ⟨c0, c1, c2, c3⟩ := h k hk
    have hg : b < w.heap.size := cell_lt c0
    exact ⟨(hb.cell (p := ⟨b, off + k * 4, none⟩) hg).trans c0, (hb.cell (p := ⟨b, off + k * 4 + 1, none⟩) hg).trans c1, (hb.cell (p := ⟨b, off + k * 4 + 2, none⟩) hg).trans c2, (hb.cell (p := ⟨b, off + k * 4 + 3, none⟩) hg).trans c3⟩
/-- The cells behind k rounds. -/
def part4 (xs : List T4) (cs : List Value) (k : Nat) : List Value := tcells (xs.take k) ++ cs.drop (k * 4)
theorem part4_set (xs : List T4) (cs : List Value) (k : Nat) (hk : k < xs.length) (hc : cs.length = xs.length * 4) (x : T4) (hx : xs.getD k (0, 0, 0, 0) = x) :
    ((((part4 xs cs k).set (k * 4) (.int .i64 x.1)).set (k * 4 + 1) (.int .i64 x.2.1)).set (k * 4 + 2) (.int .i64 x.2.2.1)).set (k * 4 + 3) (.int .i64 x.2.2.2) = part4 xs cs (k + 1) := by
  unfold part4
  have hp : (tcells (xs.take k)).length = k * 4 := by rw [tcells_len, List.length_take]; omega
  have ht : xs.take (k + 1) = xs.take k ++ [x] := by
    rw [List.take_succ_eq_append_getElem hk, ← hx, List.getD_eq_getElem?_getD, List.getElem?_eq_getElem hk]; rfl
  rw [ht, tcells_append]
  generalize tcells (xs.take k) = P at *
  have hr : 4 ≤ (cs.drop (k * 4)).length := by rw [List.length_drop]; omega
  have hd : cs.drop ((k + 1) * 4) = (cs.drop (k * 4)).drop 4 := by rw [List.drop_drop]; congr 1; omega
  rw [hd]
  match cs.drop (k * 4), hr with
  | r0 :: r1 :: r2 :: r3 :: R, _ =>
    rw [← hp]
    simp [List.set_append_right, tcells, tcell]
theorem part4_zero (xs : List T4) (cs : List Value) : part4 xs cs 0 = cs := by simp [part4, tcells]
theorem part4_all (xs : List T4) (cs : List Value) (hc : cs.length = xs.length * 4) : part4 xs cs xs.length = tcells xs := by
  unfold part4; rw [List.take_of_length_le (Nat.le_refl _), List.drop_of_length_le (by omega)]; simp

set_option maxHeartbeats 4000000 in
set_option maxRecDepth 100000 in
theorem toTxS_any (ao : Option Addr) (ca : Nat) (xs : List T4) (w : World) (hl : xs.length ≤ 1048577) (h : AR w ao xs) :
    Calls Try.prog 33 #[.slice ao xs.length ca] w fun e w' => ∃ v, e = .returned v ∧ OT w' w.heap.size v xs ∧ Below w.heap.size w w' := by
  obtain ⟨i0, hi, hz0, hz1, hz2⟩ := info_parts Try.infoTx
  go_enter Try.func33, Try.ntmps33
  go_wp2_with (first | (at_make; refine wpList_make_full _ rfl _ _ 27 rfl w.heap.size 33 i0 (txv 0 0 0 0) 4 Try.underlying27 hi hz0 hz1 .i64 .i64 _ _ xs.length rfl rfl rfl rfl (by rw [hz2]; omega) (by unfold maxLen; omega) (Nat.le_refl _) ?_; intro w0 ho0 hg0))
  have hcs : (madeCells (txv 0 0 0 0).cells (xs.length * 4)).toList.length = xs.length * 4 := by rw [Array.length_toList, size_madeCells]
  generalize (madeCells (txv 0 0 0 0).cells (xs.length * 4)).toList = cs at *
  go_loopw [4] (fun i wr => ∃ k : Nat, k ≤ xs.length ∧ i = .int .i64 k ∧ wr.ownsRow w.heap.size 33 4 (.slice (some ⟨w.heap.size, 0, none⟩) xs.length xs.length) xs.length (part4 xs cs k) ∧ Below w.heap.size w wr) (fun i _ => xs.length - (intOf i).toNat)
  case atStart => exact ⟨0, Nat.zero_le _, rfl, by rw [part4_zero]; exact ho0, (Below.refl _ _).grown hg0 (Nat.le_refl _) (by simp)⟩
  case round =>
    clear ho0 hg0
    obtain ⟨k, hk, rfl, ho, br⟩ := hrel
    by_cases hlt : k < xs.length
    · rcases h with h | ⟨b, off, rfl, h⟩
      · subst h; simp at hlt
      obtain ⟨a0, a1, a2, a3⟩ := h k hlt
      have hg : b < w.heap.size := cell_lt a0
      have c0 := (br.cell (p := ⟨b, off + k * 4, none⟩) hg).trans a0
      have c1 := (br.cell (p := ⟨b, off + k * 4 + 1, none⟩) hg).trans a1
      have c2 := (br.cell (p := ⟨b, off + k * 4 + 2, none⟩) hg).trans a2
      have c3 := (br.cell (p := ⟨b, off + k * 4 + 3, none⟩) hg).trans a3
      clear a0 a1 a2 a3 h
      have hsr := br.size
      obtain ⟨x, hxk⟩ : ∃ x, xs.getD k (0, 0, 0, 0) = x := ⟨_, rfl⟩
      rw [hxk] at c0 c1 c2 c3
      have HP := hide (part4_set xs cs k hlt hcs x hxk)
      clear hxk
      obtain ⟨xa, xb, xc, xd⟩ := x
      simp only at c0 c1 c2 c3
      have hplen : (part4 xs cs k).length = xs.length * 4 := by
        unfold part4; rw [List.length_append, tcells_len, List.length_take, List.length_drop, hcs]; omega
      have HO := hide ho
      clear ho
      go_wp2_with fail
      refine (toTx_any xa xb xc xd _).mono ?_
      rintro e w2 ⟨rfl, b2⟩
      have s2 := b2.size
      have ho2 := World.ownsRow.kept (row := none) (unhide HO) ⟨b2.os, b2.tape, b2.output, b2.size, fun k hk _ => b2.block k hk⟩ (by simp [Value.ownBlock])
      have bw2 := br.trans (b2.mono hsr)
      obtain ⟨y0, y1, y2, y3⟩ : (∃ u, w2.cell? ⟨w.heap.size, k * 4, none⟩ = some u) ∧ (∃ u, w2.cell? ⟨w.heap.size, k * 4 + 1, none⟩ = some u) ∧ (∃ u, w2.cell? ⟨w.heap.size, k * 4 + 2, none⟩ = some u) ∧ (∃ u, w2.cell? ⟨w.heap.size, k * 4 + 3, none⟩ = some u) := by
        have gt : ∀ j, j < xs.length * 4 → ∃ u, w2.cell? ⟨w.heap.size, j, none⟩ = some u := fun j hj => ⟨_, (ho2.cellAt j hj).trans (List.getElem?_eq_getElem (by rw [hplen]; exact hj))⟩
        exact ⟨gt _ (by omega), gt _ (by omega), gt _ (by omega), gt _ (by omega)⟩
      obtain ⟨u0, y0⟩ := y0
      obtain ⟨u1, y1⟩ := y1
      obtain ⟨u2, y2⟩ := y2
      obtain ⟨u3, y3⟩ := y3
      have hfr := ho2.frozenAt
      have t0 := ho2.stored (k * 4) (.int .i64 xa)
      have t1 := t0.1.stored (k * 4 + 1) (.int .i64 xb)
      have t2 := t1.1.stored (k * 4 + 2) (.int .i64 xc)
      have t3 := t2.1.stored (k * 4 + 3) (.int .i64 xd)
      have H3 := hide t3.1
      clear t0 t1 t2 t3 ho2 c0 c1 c2 c3
      go_wp2
      go_roundw
      case rel => exact ⟨k + 1, by omega, by go_num, by rw [← unhide HP]; exact unhide H3, (((bw2.setCell (Nat.le_refl _) _).setCell (Nat.le_refl _) _).setCell (Nat.le_refl _) _).setCell (Nat.le_refl _) _⟩
      case measure => simp [intOf]; omega
    · have hkn : k = xs.length := by omega
      have HO : Hid (OT wr w.heap.size (.slice (some ⟨w.heap.size, 0, none⟩) xs.length xs.length) xs) := by
        show OT _ _ _ _
        unfold OT
        rw [← part4_all xs cs hcs, ← hkn]; rw [← hkn] at ho; exact ho
      clear ho h
      go_wp2
      go_ret
      exact ⟨_, rfl, HO.out, br⟩

set_option maxHeartbeats 400000 in
set_option maxRecDepth 100000 in
theorem szTxS_yes (ao : Option Addr) (n ca : Nat) (left : Int) (w : World) (hn : (n : Int) ≤ left) (hl : left ≤ 1048576) :
    Calls Try.prog 32 #[.slice ao n ca, .int .i64 left] w fun e w' => e = .returned (.int .i64 (left - n)) ∧ w' = w := by
  have hd : decide (left - (n : Int) < 0) = false := by simp; omega
  go_enter Try.func32, Try.ntmps32
  go_wp2
  go_ret
  exact ⟨rfl, rfl⟩
set_option maxHeartbeats 400000 in
set_option maxRecDepth 100000 in
theorem szTxS_no (ao : Option Addr) (n ca : Nat) (left : Int) (w : World) (h0 : 0 ≤ left) (hl : left ≤ 1048576) (hn : left < n) (hm : n ≤ 9223372036854775807) :
    Calls Try.prog 32 #[.slice ao n ca, .int .i64 left] w fun e w' => e = .returned (.int .i64 (-1)) ∧ w' = w := by
  have hd : decide (left - (n : Int) < 0) = true := by simp; omega
  go_enter Try.func32, Try.ntmps32
  go_wp2
  go_ret
  exact ⟨rfl, rfl⟩

end Go.Proofs.Ytlglekfmiacdnaa
