/- spec.l1DrawNums, DrawGetNum and DrawGetText. -/
import Derived.Test.YtkjpjgecongkpaaDrawNum
import Derived.Test.YtkjpjgecongkpaaText
namespace Go.Proofs.Ytkjpjgecongkpaa
open Go.RowKit

/-- Each of a list is a byte. -/
def BytesL (ys : List Int) : Prop := ∀ y ∈ ys, 0 ≤ y ∧ y ≤ 255
theorem bytes_nil : BytesL [] := fun y hy => by cases hy
theorem BytesL.append {a b : List Int} (ha : BytesL a) (hb : BytesL b) : BytesL (a ++ b) := fun y hy => by
  rcases List.mem_append.1 hy with h | h
  · exact ha y h
  · exact hb y h
theorem BytesL.get {ys : List Int} (h : BytesL ys) : ∀ k, k < ys.length → 0 ≤ ys.getD k 0 ∧ ys.getD k 0 ≤ 255 := fun k hk => by
  rw [List.getD_eq_getElem?_getD, List.getElem?_eq_getElem hk]; exact h _ (List.getElem_mem hk)
theorem put_bytes (f n : Nat) (h : n < 128 ^ (f + 1)) : BytesL (put f n) := by
  induction f generalizing n with
  | zero => intro y hy; simp [put] at hy; simp at h; omega
  | succ f ih =>
    by_cases hn : n ≤ 127
    · intro y hy; rw [put_small (f + 1) n hn] at hy; simp at hy; omega
    · rw [put_great f n (by omega)]
      intro y hy
      rcases List.mem_cons.1 hy with rfl | hy
      · omega
      · exact ih (n / 128) (by rw [Nat.pow_succ] at h; exact Nat.div_lt_of_lt_mul (by rw [Nat.mul_comm]; exact h)) y hy
theorem putAns_bytes (n : Int) : BytesL (putAns n) := by
  unfold putAns
  split
  · exact put_bytes 4 _ (by omega)
  · intro y hy; cases hy

theorem OB.grown {w w' : World} {base g : Nat} {v : Value} {xs : List Int} (h : OB w base v xs) (hg : w.grownBy w' (some g)) (hlt : g < base) : OB w' base v xs :=
  World.ownsRow.kept h hg (by
    cases hv : v.ownBlock with
    | none => exact .inl rfl
    | some k => exact .inr fun e => by have := (World.ownsRow.lt h k hv).1; simp at e; omega)
theorem Cur.lt {w : World} {base g ca : Nat} {ao : Option Addr} {xs : List Int} (h : Cur w base g ao ca xs) : g < w.heap.size := by
  obtain ⟨i, hh, hc, _⟩ := h.cells
  exact (Array.getElem?_eq_some_iff.1 hc).1
theorem Cur.below {w w' : World} {base g ca : Nat} {ao : Option Addr} {xs : List Int} (h : Cur w base g ao ca xs) (hB : base ≤ w.heap.size) (hb : Below w.heap.size w w') : Cur w' base g ao ca xs := by
  have hg := h.lt
  refine ⟨h.low, h.len, ?_, ?_⟩
  · obtain ⟨i, hh, hc, h0, h1⟩ := h.cells
    exact ⟨i, hh, (hb.block g hg).trans hc, h0, h1⟩
  · rcases h.code with h' | ⟨b, off, hbb, ha, hx⟩
    · exact .inl h'
    · exact .inr ⟨b, off, hbb, ha, fun k hk => ⟨(hb.cell (p := ⟨b, off + k, none⟩) (by show b < _; omega)).trans (hx k hk).1, (hx k hk).2⟩⟩
theorem grown_below {w w' : World} (h : Below w.heap.size w w') (row : Option Nat) : w.grownBy w' row := ⟨h.os, h.tape, h.output, h.size, fun k hk _ => h.block k hk⟩
/-- A write into a row that was not there leaves what was. -/
theorem grown_new {a b c : World} {row row' : Option Nat} (h : a.grownBy b row) (k : b.grownBy c row') (hr : ∀ j, row' = some j → a.heap.size ≤ j) : a.grownBy c row :=
  ⟨k.os.trans h.os, k.tape.trans h.tape, k.output.trans h.output, Nat.le_trans h.size k.size, fun i hi hne => (k.block i (Nat.lt_of_lt_of_le hi h.size) (fun e => by have := hr i e.symm; omega)).trans (h.block i hi hne)⟩
theorem Cur.grownNew {w w' : World} {base g ca : Nat} {ao : Option Addr} {xs : List Int} {row : Option Nat} (h : Cur w base g ao ca xs) (hg : w.grownBy w' row) (hr : ∀ j, row = some j → g < j) : Cur w' base g ao ca xs := by
  have hlt := h.lt
  have hlow := h.low
  refine ⟨h.low, h.len, ?_, ?_⟩
  · obtain ⟨i, hh, hc, h0, h1⟩ := h.cells
    exact ⟨i, hh, (hg.block g hlt (fun e => by have := hr g e.symm; omega)).trans hc, h0, h1⟩
  · rcases h.code with h' | ⟨b, off, hbb, ha, hx⟩
    · exact .inl h'
    · refine .inr ⟨b, off, hbb, ha, fun k hk => ⟨?_, (hx k hk).2⟩⟩
      rw [World.cell?_of_block (w := w) (hg.block b (by omega) (fun e => by have := hr b e.symm; omega))]
      exact (hx k hk).1

/-- What a list that is drawn leaves. -/
def ListEnd (w : World) (base g ca : Nat) (ao : Option Addr) (xs : List Int) (v : Value) (ys : List Int) (w' : World) : Prop :=
  OB w' w.heap.size v ys ∧ BytesL ys ∧ Cur w' base g ao ca xs ∧ w.grownBy w' (some g)

theorem ints_plain (ys : List Int) (u : Value) (h : u ∈ ys.map (Value.int .u8)) : u.oneCell' = true := by simp at h; obtain ⟨a, _, rfl⟩ := h; rfl
/-- A list behind a list that is drawn. -/
theorem list_app {w w3 w4 : World} {base g ca : Nat} {ao : Option Addr} {xs : List Int} {v v' : Value} {ys zs : List Int} (hlt : g < w.heap.size) (ho : OB w3 w.heap.size v ys) (hy : BytesL ys) (hz : BytesL zs) (hc : Cur w3 base g ao ca xs) (hg : w.grownBy w3 (some g))
    (ho' : w4.ownsRow w.heap.size 5 1 v' (ys.length + zs.length) (ys.map (Value.int .u8) ++ zs.map (Value.int .u8))) (hg' : w3.grownBy w4 v.ownBlock) : ListEnd w base g ca ao xs v' (ys ++ zs) w4 := by
  have hlow : ∀ j, v.ownBlock = some j → w.heap.size ≤ j := fun j hj => (World.ownsRow.lt ho j hj).1
  refine ⟨?_, hy.append hz, hc.grownNew hg' (fun j hj => by have := hlow j hj; omega), grown_new hg hg' hlow⟩
  unfold OB
  rw [List.length_append, List.map_append]
  exact ho'
theorem some_ne (a : Addr) (n c : Nat) : Value.slice (some a) n c ≠ .slice none 0 0 := by simp
theorem two_cells (w : World) (x y : Value) (t : TypeId) (j : Nat) (u : Value) (h : [x, y][j]? = some u) : (w.alloc (.cells #[x, y] t)).cell? ((⟨w.heap.size, 0, none⟩ : Addr).add j) = some u := by
  match j, h with
  | 0, h => simp at h; subst h; simp [Addr.add]
  | 1, h => simp at h; subst h; simp [Addr.add]

set_option maxHeartbeats 3200000 in
set_option maxRecDepth 100000 in
theorem drawNums_any (base g ca : Nat) (ao : Option Addr) (xs : List Int) (w : World) (hB : base ≤ w.heap.size) (h : Cur w base g ao ca xs) :
    Calls Try.prog 34 #[.pointer (some ⟨g, 0, none⟩)] w fun e w' => ∃ v ys, e = .returned v ∧ ys.length ≤ 30 ∧ v ≠ .slice none 0 0 ∧ ListEnd w base g ca ao xs v ys w' := by
  obtain ⟨i0, hi, hz0, hz1, hz2⟩ := info_parts Try.info5
  have hlt := h.lt
  have HC := hide h
  clear h
  go_enter Try.func34, Try.ntmps34
  go_wp2
  go_loopw [3, 4] (fun v i wr => ∃ (k : Nat) (ys : List Int), k ≤ 4 ∧ i = .int .i64 k ∧ ys.length ≤ 5 * k ∧ Hid (v ≠ .slice none 0 0) ∧ ListEnd w base g ca ao xs v ys wr) (fun _ i _ => 4 - (intOf i).toNat)
  case atStart => exact ⟨0, [], by omega, rfl, by simp, hide (some_ne _ _ _), World.ownsRow_lit w #[] 0 (Nat.le_refl _) (by unfold maxLen; omega) rfl, bytes_nil, (unhide HC).alloc hB _, World.grownBy_alloc w _ _⟩
  case round =>
    obtain ⟨k, ys, hk, rfl, hyl, HV, ho, hby, hcur, hgr⟩ := hrel
    have hsz := hgr.size
    go_wp2_with fail
    refine (below_any base g ca ao xs 4 _ (by omega) (by omega) (by omega) hcur).mono ?_
    rintro e w1 ⟨x, rfl, hx0, hx1, hc1, hg1⟩
    have ho1 := OB.grown ho hg1 (by omega)
    have hgr1 := grown_trans hgr hg1
    have hsz1 := hgr1.size
    clear ho hcur hgr hg1
    by_cases hkx : (k : Int) < x
    · go_wp2_with fail
      refine (pickInt_lit base g ca ao xs [0, 1, 127, 128, 300, 2147483647] w1 (by omega) (by decide) (by decide) hc1).mono ?_
      rintro e w2 ⟨x2, rfl, hx2, hc2, hg2⟩
      have ho2 := OB.grown ho1 hg2 (by omega)
      have hgr2 := grown_trans hgr1 hg2
      have hsz2 := hgr2.size
      have hx2b : 0 ≤ x2 ∧ x2 ≤ 2147483647 := by simp at hx2; omega
      clear ho1 hc1 hgr1 hg2 hx2
      go_wp2_with fail
      refine (specPut x2 _).mono ?_
      rintro e w3 ⟨v2, rfl, o3, b3⟩
      have ho3 := OB.below ho2 b3
      have hc3 := hc2.below (by omega) b3
      have hgr3 := grown_trans hgr2 (grown_below b3 _)
      have hpl := putAns_len x2
      have hpos : 0 < (putAns x2).length := by
        obtain ⟨m, rfl⟩ := Int.eq_ofNat_of_zero_le hx2b.1
        rw [putAns_yes m (by omega)]; exact (put_len 4 m).2
      have hpb := putAns_bytes x2
      rcases o3.2 with ⟨_, h0⟩ | ⟨g2, cap2, cur2, rfl, _⟩
      · omega
      have hcl := World.ownsRow.cells o3 (g := g2) rfl
      have hsz3 := hgr3.size
      have HO := hide ho3
      have HX := hide (And.intro hpb (And.intro hc3 hgr3))
      have HCL := hide hcl
      clear ho2 hc2 hgr2 b3 o3 hpb hc3 hgr3 hcl
      generalize putAns x2 = zs at *
      go_wp2_with (first
        | (at_builtin; refine wpList_append_own _ rfl (.tmp 12) (.tmp 16) 22 rfl w.heap.size 5 i0 (.int .u8 0) 1 1 Try.underlying22 hi hz0 hz1 hz2 rfl (by decide) _ _ _ rfl ho3 ⟨g2, 0, none⟩ zs.length cap2 (zs.map (Value.int .u8)) rfl (by simp) (unhide HCL) (ints_plain zs) (by unfold maxLen; omega) (by omega) hsz3 ?_; intro v' w4 ho' hg' hnil; have HV' : Hid (v' ≠ .slice none 0 0) := (fun e => HV.out (hnil.1 e).1); clear hnil; have R := list_app hlt (unhide HO) hby (unhide HX).1 (unhide HX).2.1 (unhide HX).2.2 ho' hg'; clear ho' hg' ho3))
      go_roundw
      case rel => exact ⟨k + 1, _, by omega, by go_num, by rw [List.length_append]; omega, HV', R⟩
      case measure => simp [intOf]; omega
    · go_wp2_with fail
      refine (once_any base g ca ao xs 3 _ (by omega) (by omega) (by omega) hc1).mono ?_
      rintro e w2 ⟨bb, rfl, hc2, hg2⟩
      have ho2 := OB.grown ho1 hg2 (by omega)
      have hgr2 := grown_trans hgr1 hg2
      have hsz2 := hgr2.size
      clear ho1 hc1 hgr1 hg2
      cases bb
      · have R : ListEnd w base g ca ao xs _ ys w2 := ⟨ho2, hby, hc2, hgr2⟩
        have HR := hide R
        clear ho2 hc2 hgr2 R
        go_wp2
        go_ret
        exact ⟨_, ys, rfl, by omega, HV.out, unhide HR⟩
      · go_wp2_with fail
        refine (pickInt_lit base g ca ao xs [0, 128, 255] w2 (by omega) (by decide) (by decide) hc2).mono ?_
        rintro e w3 ⟨x3, rfl, hx3, hc3, hg3⟩
        have ho3 := OB.grown ho2 hg3 (by omega)
        have hgr3 := grown_trans hgr2 hg3
        have hsz3 := hgr3.size
        have hx3b : 0 ≤ x3 ∧ x3 ≤ 255 := by simp at hx3; omega
        clear ho2 hc2 hgr2 hg3 hx3
        go_wp2_with fail
        refine (below_any base g ca ao xs 3 _ (by omega) (by omega) (by omega) hc3).mono ?_
        rintro e w4 ⟨x4, rfl, hx40, hx41, hc4, hg4⟩
        have ho4 := OB.grown ho3 hg4 (by omega)
        have hgr4 := grown_trans hgr3 hg4
        have hsz4 := hgr4.size
        have HX := hide (And.intro hc4 hgr4)
        have HO := hide ho4
        clear ho3 hc3 hgr3 hg4 hc4 hgr4
        go_wp2_with (first
          | (at_builtin; refine wpList_append_own _ rfl (.tmp 20) (.tmp 28) 22 rfl w.heap.size 5 i0 (.int .u8 0) 1 1 Try.underlying22 hi hz0 hz1 hz2 rfl (by decide) _ _ _ rfl (World.ownsRow.alloc ho4 _) ⟨w4.heap.size, 0, none⟩ 2 2 ([x3, x4].map (Value.int .u8)) rfl rfl (two_cells _ _ _ _) (ints_plain [x3, x4]) (by unfold maxLen; omega) (by omega) (by simp; omega) ?_; intro v' w5 ho' hg' hnil; have HV' : Hid (v' ≠ .slice none 0 0) := (fun e => HV.out (hnil.1 e).1); clear hnil; have R := list_app (zs := [x3, x4]) hlt (World.ownsRow.alloc (unhide HO) _) hby (fun y hy => by simp at hy; omega) ((unhide HX).1.alloc (by omega) _) (grown_trans (unhide HX).2 (World.grownBy_alloc _ _ _)) ho' hg'; clear ho' hg' ho4))
        go_ret
        exact ⟨_, _, rfl, by rw [List.length_append]; simp; omega, HV'.out, R⟩
end Go.Proofs.Ytkjpjgecongkpaa
