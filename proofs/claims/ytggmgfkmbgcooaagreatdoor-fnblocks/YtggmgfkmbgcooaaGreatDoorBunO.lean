/- Texts that belong together: TxsTextWalk, MarkTx, BlockTx. -/
import Derived.Test.YtggmgfkmbgcooaaGreatDoorBunN
import Derived.Test.YtggmgfkmbgcooaaGreatDoorBunC
import Derived.OwnWalk
import Derived.Test.YtggmgfkmbgcooaaGreatDoorBunA
import Derived.Test.YtggmgfkmbgcooaaGreatDoorBunH
/- laws.toTxS, laws.szTxS, and the walk of laws.FnExactTxsText. -/
namespace Go.Proofs.YtggmgfkmbgcooaaGreatDoor
open Go.RowKit
set_option linter.unusedSectionVars false
variable [∀ (a b c d : Int), Decidable (Ok4 a b c d)]
variable [∀ (a b c d : Nat), Decidable (okN a b c d)]
variable [∀ (x : T4), Decidable (OkT x)]

/-- A list of payments that came in. -/
def AR (w : World) (ao : Option Addr) (xs : List T4) : Prop :=
  xs = [] ∨ ∃ b off, ao = some ⟨b, off, none⟩ ∧ ∀ k, k < xs.length → w.cell? ⟨b, off + k * 4, none⟩ = some (.int .i64 (xs.getD k (0, 0, 0, 0)).1) ∧ w.cell? ⟨b, off + k * 4 + 1, none⟩ = some (.int .i64 (xs.getD k (0, 0, 0, 0)).2.1) ∧ w.cell? ⟨b, off + k * 4 + 2, none⟩ = some (.int .i64 (xs.getD k (0, 0, 0, 0)).2.2.1) ∧ w.cell? ⟨b, off + k * 4 + 3, none⟩ = some (.int .i64 (xs.getD k (0, 0, 0, 0)).2.2.2)
theorem AR.below {w w' : World} {ao : Option Addr} {xs : List T4} (h : AR w ao xs) (hb : Below w.heap.size w w') : AR w' ao xs := by
  rcases h with h | ⟨b, off, rfl, h⟩
  · exact .inl h
  · refine .inr ⟨b, off, rfl, fun k hk => ?_⟩
    obtain ⟨c0, c1, c2, c3⟩ := h k hk
    have hg : b < w.heap.size := cell_lt c0
    exact ⟨(hb.cell (p := ⟨b, off + k * 4, none⟩) hg).trans c0, (hb.cell (p := ⟨b, off + k * 4 + 1, none⟩) hg).trans c1, (hb.cell (p := ⟨b, off + k * 4 + 2, none⟩) hg).trans c2, (hb.cell (p := ⟨b, off + k * 4 + 3, none⟩) hg).trans c3⟩
/-- The cells behind k rounds. -/
def part4 (xs : List T4) (cs : List Value) (k : Nat) : List Value := tcells (xs.take k) ++ cs.drop (k * 4)
theorem part4_set (xs : List T4) (cs : List Value) (k : Nat) (hk : k < xs.length) (hc : cs.length = xs.length * 4) (x : T4) (hx : xs.getD k (0, 0, 0, 0) = x) :
    ((((part4 xs cs k).set (k * 4) (.int .i64 x.1)).set (k * 4 + 1) (.int .i64 x.2.1)).set (k * 4 + 2) (.int .i64 x.2.2.1)).set (k * 4 + 3) (.int .i64 x.2.2.2) = part4 xs cs (k + 1) := by
  unfold part4
  have hp : (tcells (xs.take k)).length = k * 4 := by rw [tcells_len, List.length_take]; omega
  have ht : xs.take (k + 1) = xs.take k ++ [x] := by
    rw [List.take_succ_eq_append_getElem hk, ← hx, List.getD_eq_getElem?_getD, List.getElem?_eq_getElem hk]; rfl
  rw [ht, tcells_append]
  generalize tcells (xs.take k) = P at *
  have hr : 4 ≤ (cs.drop (k * 4)).length := by rw [List.length_drop]; omega
  have hd : cs.drop ((k + 1) * 4) = (cs.drop (k * 4)).drop 4 := by rw [List.drop_drop]; congr 1; omega
  rw [hd]
  match cs.drop (k * 4), hr with
  | r0 :: r1 :: r2 :: r3 :: R, _ =>
    rw [← hp]
    simp [List.set_append_right, tcells, tcell]
theorem part4_zero (xs : List T4) (cs : List Value) : part4 xs cs 0 = cs := by simp [part4, tcells]
theorem part4_all (xs : List T4) (cs : List Value) (hc : cs.length = xs.length * 4) : part4 xs cs xs.length = tcells xs := by
  unfold part4; rw [List.take_of_length_le (Nat.le_refl _), List.drop_of_length_le (by omega)]; simp

set_option maxHeartbeats 4000000 in
set_option maxRecDepth 100000 in
theorem toTxS_any (ao : Option Addr) (ca : Nat) (xs : List T4) (w : World) (hl : xs.length ≤ 1048577) (h : AR w ao xs) :
    Calls Tryz.prog 27 #[.slice ao xs.length ca] w fun e w' => ∃ v, e = .returned v ∧ OT w' w.heap.size v xs ∧ Below w.heap.size w w' := by
  obtain ⟨i0, hi, hz0, hz1, hz2⟩ := info_parts Tryz.infoTx
  go_enter Tryz.func27, Tryz.ntmps27
  go_wp2_with (first | (at_make; refine wpList_make_full _ rfl _ _ 33 rfl w.heap.size 90 i0 (txv 0 0 0 0) 4 Tryz.underlying33 hi hz0 hz1 .i64 .i64 _ _ xs.length rfl rfl rfl rfl (by rw [hz2]; omega) (by unfold maxLen; omega) (Nat.le_refl _) ?_; intro w0 ho0 hg0))
  have hcs : (madeCells (txv 0 0 0 0).cells (xs.length * 4)).toList.length = xs.length * 4 := by rw [Array.length_toList, size_madeCells]
  generalize (madeCells (txv 0 0 0 0).cells (xs.length * 4)).toList = cs at *
  go_loopw [4] (fun i wr => ∃ k : Nat, k ≤ xs.length ∧ i = .int .i64 k ∧ wr.ownsRow w.heap.size 90 4 (.slice (some ⟨w.heap.size, 0, none⟩) xs.length xs.length) xs.length (part4 xs cs k) ∧ Below w.heap.size w wr) (fun i _ => xs.length - (intOf i).toNat)
  case atStart => exact ⟨0, Nat.zero_le _, rfl, by rw [part4_zero]; exact ho0, (Below.refl _ _).grown hg0 (Nat.le_refl _) (by simp)⟩
  case round =>
    clear ho0 hg0
    obtain ⟨k, hk, rfl, ho, br⟩ := hrel
    by_cases hlt : k < xs.length
    · rcases h with h | ⟨b, off, rfl, h⟩
      · subst h; simp at hlt
      obtain ⟨a0, a1, a2, a3⟩ := h k hlt
      have hg : b < w.heap.size := cell_lt a0
      have c0 := (br.cell (p := ⟨b, off + k * 4, none⟩) hg).trans a0
      have c1 := (br.cell (p := ⟨b, off + k * 4 + 1, none⟩) hg).trans a1
      have c2 := (br.cell (p := ⟨b, off + k * 4 + 2, none⟩) hg).trans a2
      have c3 := (br.cell (p := ⟨b, off + k * 4 + 3, none⟩) hg).trans a3
      clear a0 a1 a2 a3 h
      have hsr := br.size
      obtain ⟨x, hxk⟩ : ∃ x, xs.getD k (0, 0, 0, 0) = x := ⟨_, rfl⟩
      rw [hxk] at c0 c1 c2 c3
      have HP := hide (part4_set xs cs k hlt hcs x hxk)
      clear hxk
      obtain ⟨xa, xb, xc, xd⟩ := x
      simp only at c0 c1 c2 c3
      have hplen : (part4 xs cs k).length = xs.length * 4 := by
        unfold part4; rw [List.length_append, tcells_len, List.length_take, List.length_drop, hcs]; omega
      have HO := hide ho
      clear ho
      go_wp2_with fail
      refine (toTx_any xa xb xc xd _).mono ?_
      rintro e w2 ⟨rfl, b2⟩
      have s2 := b2.size
      have ho2 := World.ownsRow.kept (row := none) (unhide HO) ⟨b2.os, b2.tape, b2.output, b2.size, fun k hk _ => b2.block k hk⟩ (by simp [Value.ownBlock])
      have bw2 := br.trans (b2.mono hsr)
      obtain ⟨y0, y1, y2, y3⟩ : (∃ u, w2.cell? ⟨w.heap.size, k * 4, none⟩ = some u) ∧ (∃ u, w2.cell? ⟨w.heap.size, k * 4 + 1, none⟩ = some u) ∧ (∃ u, w2.cell? ⟨w.heap.size, k * 4 + 2, none⟩ = some u) ∧ (∃ u, w2.cell? ⟨w.heap.size, k * 4 + 3, none⟩ = some u) := by
        have gt : ∀ j, j < xs.length * 4 → ∃ u, w2.cell? ⟨w.heap.size, j, none⟩ = some u := fun j hj => ⟨_, (ho2.cellAt j hj).trans (List.getElem?_eq_getElem (by rw [hplen]; exact hj))⟩
        exact ⟨gt _ (by omega), gt _ (by omega), gt _ (by omega), gt _ (by omega)⟩
      obtain ⟨u0, y0⟩ := y0
      obtain ⟨u1, y1⟩ := y1
      obtain ⟨u2, y2⟩ := y2
      obtain ⟨u3, y3⟩ := y3
      have hfr := ho2.frozenAt
      have t0 := ho2.stored (k * 4) (.int .i64 xa)
      have t1 := t0.1.stored (k * 4 + 1) (.int .i64 xb)
      have t2 := t1.1.stored (k * 4 + 2) (.int .i64 xc)
      have t3 := t2.1.stored (k * 4 + 3) (.int .i64 xd)
      have H3 := hide t3.1
      clear t0 t1 t2 t3 ho2 c0 c1 c2 c3
      go_wp2
      go_roundw
      case rel => exact ⟨k + 1, by omega, by go_num, by rw [← unhide HP]; exact unhide H3, (((bw2.setCell (Nat.le_refl _) _).setCell (Nat.le_refl _) _).setCell (Nat.le_refl _) _).setCell (Nat.le_refl _) _⟩
      case measure => simp [intOf]; omega
    · have hkn : k = xs.length := by omega
      have HO : Hid (OT wr w.heap.size (.slice (some ⟨w.heap.size, 0, none⟩) xs.length xs.length) xs) := by
        show OT _ _ _ _
        unfold OT
        rw [← part4_all xs cs hcs, ← hkn]; rw [← hkn] at ho; exact ho
      clear ho h
      go_wp2
      go_ret
      exact ⟨_, rfl, HO.out, br⟩

set_option maxHeartbeats 400000 in
set_option maxRecDepth 100000 in
theorem sz_yes (ao : Option Addr) (n ca : Nat) (w : World) (hn : n ≤ 1048576) :
    Calls Tryz.prog 25 #[.slice ao n ca, .int .i64 1048576] w fun e w' => e = .returned (.int .i64 (1048576 - n)) ∧ w' = w := by
  have hd : decide ((1048576 : Int) - (n : Int) < 0) = false := by simp; omega
  go_enter Tryz.func25, Tryz.ntmps25
  go_wp2
  go_ret
  exact ⟨rfl, rfl⟩
set_option maxHeartbeats 400000 in
set_option maxRecDepth 100000 in
theorem sz_no (ao : Option Addr) (n ca : Nat) (w : World) (hn : 1048576 < n) (hm : n ≤ 9223372036854775807) :
    Calls Tryz.prog 25 #[.slice ao n ca, .int .i64 1048576] w fun e w' => e = .returned (.int .i64 (-1)) ∧ w' = w := by
  have hd : decide ((1048576 : Int) - (n : Int) < 0) = true := by simp; omega
  go_enter Tryz.func25, Tryz.ntmps25
  go_wp2
  go_ret
  exact ⟨rfl, rfl⟩

end Go.Proofs.YtggmgfkmbgcooaaGreatDoor

/- laws.markTxS and heldTxS. -/
namespace Go.Proofs.YtggmgfkmbgcooaaGreatDoor
open Go.RowKit
set_option linter.unusedSectionVars false
variable [∀ (a b c d : Int), Decidable (Ok4 a b c d)]

/-- What markTxS writes. -/
def tmark (k0 i : Nat) : T4 := ((k0 : Int) + (i : Int) * 4, (k0 : Int) + (i : Int) * 4 + 1, (k0 : Int) + (i : Int) * 4 + 2, (k0 : Int) + (i : Int) * 4 + 3)
def tmarks (k0 n : Nat) : List T4 := (List.range n).map (tmark k0)
theorem tmarks_len (k0 n : Nat) : (tmarks k0 n).length = n := by simp [tmarks]
theorem tmarks_get (k0 n i : Nat) (h : i < n) : (tmarks k0 n).getD i (0, 0, 0, 0) = tmark k0 i := by simp [tmarks, h]
theorem tmarks_succ (k0 n : Nat) : tmarks k0 (n + 1) = tmarks k0 n ++ [tmark k0 n] := by simp [tmarks, List.range_succ]
/-- The payments behind k rounds. -/
def tmixed (k0 k : Nat) (vs : List T4) : List T4 := tmarks k0 k ++ vs.drop k
theorem tmixed_zero (k0 : Nat) (vs : List T4) : tmixed k0 0 vs = vs := by simp [tmixed, tmarks]
theorem tmixed_all (k0 : Nat) (vs : List T4) : tmixed k0 vs.length vs = tmarks k0 vs.length := by simp [tmixed]
theorem tmixed_len (k0 k : Nat) (vs : List T4) (h : k ≤ vs.length) : (tmixed k0 k vs).length = vs.length := by simp [tmixed, tmarks_len]; omega
theorem tcells_set (xs : List T4) (k : Nat) (x : T4) (hk : k < xs.length) : ((((tcells xs).set (k * 4) (.int .i64 x.1)).set (k * 4 + 1) (.int .i64 x.2.1)).set (k * 4 + 2) (.int .i64 x.2.2.1)).set (k * 4 + 3) (.int .i64 x.2.2.2) = tcells (xs.set k x) := by
  induction xs generalizing k with
  | nil => simp at hk
  | cons y ys ih =>
    have e : ∀ z : T4, ∀ zs, tcells (z :: zs) = .int .i64 z.1 :: .int .i64 z.2.1 :: .int .i64 z.2.2.1 :: .int .i64 z.2.2.2 :: tcells zs := fun z zs => by simp [tcells, tcell]
    cases k with
    | zero => rw [e]; simp [e]
    | succ k =>
      rw [e, List.set_cons_succ, e, ← ih k (by simpa using hk)]
      rw [show (k + 1) * 4 = k * 4 + 1 + 1 + 1 + 1 from by omega]
      simp only [List.set_cons_succ]
theorem tmixed_set (k0 k : Nat) (vs : List T4) (h : k < vs.length) : (tmixed k0 k vs).set k (tmark k0 k) = tmixed k0 (k + 1) vs := by
  unfold tmixed
  rw [tmarks_succ, List.set_append_right _ _ (by simp [tmarks_len]), tmarks_len, Nat.sub_self, List.drop_eq_getElem_cons h, List.set_cons_zero]
  simp

set_option maxHeartbeats 4000000 in
set_option maxRecDepth 100000 in
theorem tmark_row (base g n cap k0 : Nat) (vs : List T4) (w : World) (hn : n ≤ 4194304) (hk1 : k0 ≤ 100000000) (hv : vs.length = n) (h : OT w base (.slice (some ⟨g, 0, none⟩) n cap) vs) :
    Calls Tryz.prog 31 #[.slice (some ⟨g, 0, none⟩) n cap, .int .i64 k0] w fun e w' => e = .returned (.int .i64 (k0 + n * 4)) ∧
      OT w' base (.slice (some ⟨g, 0, none⟩) n cap) (tmarks k0 n) ∧ w.grownBy w' (some g) := by
  have Hv := hide hv
  clear hv
  go_enter Tryz.func31, Tryz.ntmps31
  go_wp2
  go_loopw [1, 5] (fun c i wr => ∃ k : Nat, k ≤ n ∧ i = .int .i64 k ∧ c = .int .i64 ((k0 : Int) + (k : Int) * 4) ∧ OT wr base (.slice (some ⟨g, 0, none⟩) n cap) (tmixed k0 k vs) ∧ w.grownBy wr (some g)) (fun _ i _ => n - (intOf i).toNat)
  case atStart => exact ⟨0, Nat.zero_le _, rfl, by go_num, by rw [tmixed_zero]; exact h, ⟨rfl, rfl, rfl, Nat.le_refl _, fun _ _ _ => rfl⟩⟩
  case round =>
    obtain ⟨k, hk, rfl, rfl, ho, hg⟩ := hrel
    by_cases hlt : k < n
    · have hkv : k < vs.length := by rw [unhide Hv]; exact hlt
      have hlen : (tmixed k0 k vs).length = n := by rw [tmixed_len k0 k vs (by omega), unhide Hv]
      have ho0 : wr.ownsRow base 90 4 (.slice (some ⟨g, 0, none⟩) n cap) n (tcells (tmixed k0 k vs)) := by have := ho; unfold OT at this; rw [hlen] at this; exact this
      obtain ⟨y0, y1, y2, y3⟩ : (∃ u, wr.cell? ⟨g, k * 4, none⟩ = some u) ∧ (∃ u, wr.cell? ⟨g, k * 4 + 1, none⟩ = some u) ∧ (∃ u, wr.cell? ⟨g, k * 4 + 2, none⟩ = some u) ∧ (∃ u, wr.cell? ⟨g, k * 4 + 3, none⟩ = some u) := by
        have gt : ∀ j, j < n * 4 → ∃ u, wr.cell? ⟨g, j, none⟩ = some u := fun j hj => ⟨_, (ho0.cellAt j hj).trans (List.getElem?_eq_getElem (by rw [tcells_len, hlen]; exact hj))⟩
        exact ⟨gt _ (by omega), gt _ (by omega), gt _ (by omega), gt _ (by omega)⟩
      obtain ⟨u0, y0⟩ := y0
      obtain ⟨u1, y1⟩ := y1
      obtain ⟨u2, y2⟩ := y2
      obtain ⟨u3, y3⟩ := y3
      have hfr := ho0.frozenAt
      have t0 := ho0.stored (k * 4) (.int .i64 ((k0 : Int) + (k : Int) * 4))
      have t1 := t0.1.stored (k * 4 + 1) (.int .i64 ((k0 : Int) + (k : Int) * 4 + 1))
      have t2 := t1.1.stored (k * 4 + 2) (.int .i64 ((k0 : Int) + (k : Int) * 4 + 2))
      have t3 := t2.1.stored (k * 4 + 3) (.int .i64 ((k0 : Int) + (k : Int) * 4 + 3))
      have HO := hide t3.1
      have HG := hide (grown_trans hg (grown_trans t0.2 (grown_trans t1.2 (grown_trans t2.2 t3.2))))
      have hlen' : (tmixed k0 (k + 1) vs).length = n := by rw [tmixed_len k0 (k + 1) vs (by omega), unhide Hv]
      clear t0 t1 t2 t3 ho ho0 hg
      go_wp2
      go_roundw
      case rel =>
        refine ⟨k + 1, by omega, by go_num, by go_num, ?_, ?_⟩
        · unfold OT
          rw [hlen', ← tmixed_set k0 k vs hkv, ← tcells_set _ _ _ (by rw [hlen]; exact hlt)]
          exact unhide HO
        · exact unhide HG
      case measure => simp [intOf]; omega
    · have hkn : k = n := by omega
      have HO : Hid (OT wr base (.slice (some ⟨g, 0, none⟩) n cap) (tmarks k0 n)) := by
        have := tmixed_all k0 vs; rw [unhide Hv] at this; rw [← this, ← hkn]; rw [← hkn] at ho; exact ho
      clear ho
      subst hkn
      go_wp2
      go_ret
      exact ⟨rfl, HO.out, hg⟩

end Go.Proofs.YtggmgfkmbgcooaaGreatDoor

/- Lists of payments beside others: szTxS with what is left, markTxS at any list of the call's own. -/
namespace Go.Proofs.YtggmgfkmbgcooaaGreatDoor
open Go.RowKit
set_option linter.unusedSectionVars false
variable [∀ (a b c d : Int), Decidable (Ok4 a b c d)]
variable [∀ (a b c d : Nat), Decidable (okN a b c d)]
variable [∀ (x : T4), Decidable (OkT x)]

theorem OT.kp {w w' : World} {base : Nat} {X : Nat → Prop} {v : Value} {xs : List T4} (h : OT w base v xs) (k : Kp w w' X) (hv : ∀ k, v.ownBlock = some k → ¬ X k) : OT w' base v xs := by
  refine ⟨h.1, ?_⟩
  rcases h.2 with hn | ⟨g, cap, cur, rfl, hb, hgg, rest⟩
  · exact .inl hn
  · refine .inr ⟨g, cap, cur, rfl, hb, ?_, rest⟩
    rw [k.block g (Array.getElem?_eq_some_iff.1 hgg).1 (hv g rfl)]
    exact hgg
set_option maxHeartbeats 400000 in
set_option maxRecDepth 100000 in
theorem szL_yes (ao : Option Addr) (n ca : Nat) (left : Int) (w : World) (hn : (n : Int) ≤ left) (hl : left ≤ 1048576) :
    Calls Tryz.prog 25 #[.slice ao n ca, .int .i64 left] w fun e w' => e = .returned (.int .i64 (left - n)) ∧ w' = w := by
  have hd : decide ((left : Int) - (n : Int) < 0) = false := by simp; omega
  go_enter Tryz.func25, Tryz.ntmps25
  go_wp2
  go_ret
  exact ⟨rfl, rfl⟩
set_option maxHeartbeats 400000 in
set_option maxRecDepth 100000 in
theorem szL_no (ao : Option Addr) (n ca : Nat) (left : Int) (w : World) (h0 : 0 ≤ left) (hn : left < (n : Int)) (hm : n ≤ 9223372036854775807) (hl : left ≤ 1048576) :
    Calls Tryz.prog 25 #[.slice ao n ca, .int .i64 left] w fun e w' => e = .returned (.int .i64 (-1)) ∧ w' = w := by
  have hd : decide ((left : Int) - (n : Int) < 0) = true := by simp; omega
  go_enter Tryz.func25, Tryz.ntmps25
  go_wp2
  go_ret
  exact ⟨rfl, rfl⟩
set_option maxHeartbeats 400000 in
set_option maxRecDepth 100000 in
theorem tmark_none (k0 : Int) (w : World) :
    Calls Tryz.prog 31 #[.slice none 0 0, .int .i64 k0] w fun e w' => e = .returned (.int .i64 k0) ∧ w' = w := by
  go_enter Tryz.func31, Tryz.ntmps31
  go_wp2
  refine wp_loop_rounds 1 ?_
  rw [rounds_succ]
  go_wp2
  go_ret
  exact ⟨rfl, rfl⟩
theorem tmark_any (base k0 : Nat) (v : Value) (xs : List T4) (w : World) (hl : xs.length ≤ 1048577) (hk : k0 ≤ 100000000) (h : OT w base v xs) :
    Calls Tryz.prog 31 #[v, .int .i64 k0] w fun e w' => e = .returned (.int .i64 (k0 + xs.length * 4)) ∧ Kp w w' (fun k => v.ownBlock = some k) := by
  have h' := h
  rcases h.2 with ⟨rfl, h0⟩ | ⟨g, cap, cur, rfl, _⟩
  · refine (tmark_none k0 w).mono ?_
    rintro e w' ⟨rfl, rfl⟩
    exact ⟨by rw [h0]; simp, Kp.refl _ _⟩
  · refine (tmark_row base g xs.length cap k0 xs w (by omega) hk rfl h').mono ?_
    rintro e w' ⟨rfl, _, hg⟩
    exact ⟨rfl, (kp_grown hg).mono fun k e => by simpa [Value.ownBlock] using e⟩
end Go.Proofs.YtggmgfkmbgcooaaGreatDoor
