/- Texts that belong together: DrawList, ToTx, TxList, NumPlain, TxPlain, CutPlain, CutWorld. -/
import Derived.Test.YtcclbejpgiogaaaGreatDoorNBAE
import Derived.Test.YtcclbejpgiogaaaGreatDoorNBAA
import Derived.Deep.RegionHeld3
import Derived.Deep.DeepCutAuto
import Derived.WalkKit
import Derived.Lib.ItoaNum
import Derived.Lib.Atoi
import Derived.Laws.RangeString
import Derived.Laws.RangeAny
namespace Go.Proofs.YtcclbejpgiogaaaGreatDoor
open Go.RowKit

def BytesL (ys : List Int) : Prop := ∀ y ∈ ys, 0 ≤ y ∧ y ≤ 255
theorem bytes_nil : BytesL [] := fun y hy => by cases hy
theorem BytesL.append {a b : List Int} (ha : BytesL a) (hb : BytesL b) : BytesL (a ++ b) := fun y hy => by
 rcases List.mem_append.1 hy with h | h
 ·exact ha y h
 ·exact hb y h
theorem BytesL.get {ys : List Int} (h : BytesL ys) : ∀ k, k < ys.length → 0 ≤ ys.getD k 0 ∧ ys.getD k 0 ≤ 255 := fun k hk => by
 rw [List.getD_eq_getElem?_getD, List.getElem?_eq_getElem hk]; exact h _ (List.getElem_mem hk)
theorem put_bytes (f n : Nat) (h : n < 128 ^ (f + 1)) : BytesL (put f n) := by
 induction f generalizing n with
 | zero => intro y hy; simp [put] at hy; simp at h; omega
 | succ f ih =>
  by_cases hn : n ≤ 127
  ·intro y hy; rw [put_small (f + 1) n hn] at hy; simp at hy; omega
  ·rw [put_great f n (by omega)]
   intro y hy
   rcases List.mem_cons.1 hy with rfl | hy
   ·omega
   ·exact ih (n / 128) (by rw [Nat.pow_succ] at h; exact Nat.div_lt_of_lt_mul (by rw [Nat.mul_comm]; exact h)) y hy
theorem putAns_bytes (n : Int) : BytesL (putAns n) := by
 unfold putAns
 split
 ·exact put_bytes 4 _ (by omega)
 ·intro y hy; cases hy

theorem OB.grown {w w' : World} {base g : Nat} {v : Value} {xs : List Int} (h : OB w base v xs) (hg : w.grownBy w' (some g)) (hlt : g < base) : OB w' base v xs :=
 World.ownsRow.kept h hg (by
  cases hv : v.ownBlock with
  | none => exact .inl rfl
  | some k => exact .inr fun e => by have := (World.ownsRow.lt h k hv).1; simp at e; omega)
theorem Cur.lt {w : World} {base g ca : Nat} {ao : Option Addr} {xs : List Int} (h : Cur w base g ao ca xs) : g < w.heap.size := by
 obtain ⟨i, hh, hc, _⟩ := h.cells
 exact (Array.getElem?_eq_some_iff.1 hc).1
theorem Cur.below {w w' : World} {base g ca : Nat} {ao : Option Addr} {xs : List Int} (h : Cur w base g ao ca xs) (hB : base ≤ w.heap.size) (hb : Below w.heap.size w w') : Cur w' base g ao ca xs := by
 have hg := h.lt
 refine ⟨h.low, h.len, ?_, ?_⟩
 ·obtain ⟨i, hh, hc, h0, h1⟩ := h.cells
  exact ⟨i, hh, (hb.block g hg).trans hc, h0, h1⟩
 ·rcases h.code with h' | ⟨b, off, hbb, ha, hx⟩
  ·exact .inl h'
  ·exact .inr ⟨b, off, hbb, ha, fun k hk => ⟨(hb.cell (p := ⟨b, off + k, none⟩) (by show b < _; omega)).trans (hx k hk).1, (hx k hk).2⟩⟩
theorem grown_below {w w' : World} (h : Below w.heap.size w w') (row : Option Nat) : w.grownBy w' row := ⟨h.os, h.tape, h.output, h.size, fun k hk _ => h.block k hk⟩
theorem grown_new {a b c : World} {row row' : Option Nat} (h : a.grownBy b row) (k : b.grownBy c row') (hr : ∀ j, row' = some j → a.heap.size ≤ j) : a.grownBy c row :=
 ⟨k.os.trans h.os, k.tape.trans h.tape, k.output.trans h.output, Nat.le_trans h.size k.size, fun i hi hne => (k.block i (Nat.lt_of_lt_of_le hi h.size) (fun e => by have := hr i e.symm; omega)).trans (h.block i hi hne)⟩
theorem Cur.grownNew {w w' : World} {base g ca : Nat} {ao : Option Addr} {xs : List Int} {row : Option Nat} (h : Cur w base g ao ca xs) (hg : w.grownBy w' row) (hr : ∀ j, row = some j → g < j) : Cur w' base g ao ca xs := by
 have hlt := h.lt
 have hlow := h.low
 refine ⟨h.low, h.len, ?_, ?_⟩
 ·obtain ⟨i, hh, hc, h0, h1⟩ := h.cells
  exact ⟨i, hh, (hg.block g hlt (fun e => by have := hr g e.symm; omega)).trans hc, h0, h1⟩
 ·rcases h.code with h' | ⟨b, off, hbb, ha, hx⟩
  ·exact .inl h'
  ·refine .inr ⟨b, off, hbb, ha, fun k hk => ⟨?_, (hx k hk).2⟩⟩
   rw [World.cell?_of_block (w := w) (hg.block b (by omega) (fun e => by have := hr b e.symm; omega))]
   exact (hx k hk).1

def ListEnd (w : World) (base g ca : Nat) (ao : Option Addr) (xs : List Int) (v : Value) (ys : List Int) (w' : World) : Prop :=
 OB w' w.heap.size v ys ∧ BytesL ys ∧ Cur w' base g ao ca xs ∧ w.grownBy w' (some g)

theorem ints_plain (ys : List Int) (u : Value) (h : u ∈ ys.map (Value.int .u8)) : u.oneCell' = true := by simp at h; obtain ⟨a, _, rfl⟩ := h; rfl
theorem list_app {w w3 w4 : World} {base g ca : Nat} {ao : Option Addr} {xs : List Int} {v v' : Value} {ys zs : List Int} (hlt : g < w.heap.size) (ho : OB w3 w.heap.size v ys) (hy : BytesL ys) (hz : BytesL zs) (hc : Cur w3 base g ao ca xs) (hg : w.grownBy w3 (some g))
 (ho' : w4.ownsRow w.heap.size 5 1 v' (ys.length + zs.length) (ys.map (Value.int .u8) ++ zs.map (Value.int .u8))) (hg' : w3.grownBy w4 v.ownBlock) : ListEnd w base g ca ao xs v' (ys ++ zs) w4 := by
 have hlow : ∀ j, v.ownBlock = some j → w.heap.size ≤ j := fun j hj => (World.ownsRow.lt ho j hj).1
 refine ⟨?_, hy.append hz, hc.grownNew hg' (fun j hj => by have := hlow j hj; omega), grown_new hg hg' hlow⟩
 unfold OB
 rw [List.length_append, List.map_append]
 exact ho'
theorem some_ne (a : Addr) (n c : Nat) : Value.slice (some a) n c ≠ .slice none 0 0 := by simp
theorem two_cells (w : World) (x y : Value) (t : TypeId) (j : Nat) (u : Value) (h : [x, y][j]? = some u) : (w.alloc (.cells #[x, y] t)).cell? ((⟨w.heap.size, 0, none⟩ : Addr).add j) = some u := by
 match j, h with
 | 0, h => simp at h; subst h; simp [Addr.add]
 | 1, h => simp at h; subst h; simp [Addr.add]

set_option maxHeartbeats 3200000 in
set_option maxRecDepth 100000 in
theorem drawNums_any (base g ca : Nat) (ao : Option Addr) (xs : List Int) (w : World) (hB : base ≤ w.heap.size) (h : Cur w base g ao ca xs) :
 Calls Tryz.prog 47 #[.pointer (some ⟨g, 0, none⟩)] w fun e w' => ∃ v ys, e = .returned v ∧ ys.length ≤ 30 ∧ v ≠ .slice none 0 0 ∧ ListEnd w base g ca ao xs v ys w' := by
 obtain ⟨i0, hi, hz0, hz1, hz2⟩ := info_parts Tryz.info5
 have hlt := h.lt
 have HC := hide h
 clear h
 go_enter Tryz.func47, Tryz.ntmps47
 go_wp2
 go_loopw [3, 4] (fun v i wr => ∃ (k : Nat) (ys : List Int), k ≤ 4 ∧ i = .int .i64 k ∧ ys.length ≤ 5 * k ∧ Hid (v ≠ .slice none 0 0) ∧ ListEnd w base g ca ao xs v ys wr) (fun _ i _ => 4 - (intOf i).toNat)
 case atStart => exact ⟨0, [], by omega, rfl, by simp, hide (some_ne _ _ _), World.ownsRow_lit w #[] 0 (Nat.le_refl _) (by unfold maxLen; omega) rfl, bytes_nil, HC.out.alloc hB _, World.grownBy_alloc w _ _⟩
 case round =>
  obtain ⟨k, ys, hk, rfl, hyl, HV, ho, hby, hcur, hgr⟩ := hrel
  have hsz := hgr.size
  go_wp2_with fail
  refine (below_any base g ca ao xs 4 _ (by omega) (by omega) (by omega) hcur).mono ?_
  rintro e w1 ⟨x, rfl, hx0, hx1, hc1, hg1⟩
  have ho1 := OB.grown ho hg1 (by omega)
  have hgr1 := grown_trans hgr hg1
  have hsz1 := hgr1.size
  clear ho hcur hgr hg1
  by_cases hkx : (k : Int) < x
  ·go_wp2_with fail
   refine (pickInt_lit base g ca ao xs [0, 1, 127, 128, 300, 2147483647] w1 (by omega) (by decide) (by decide) hc1).mono ?_
   rintro e w2 ⟨x2, rfl, hx2, hc2, hg2⟩
   have ho2 := OB.grown ho1 hg2 (by omega)
   have hgr2 := grown_trans hgr1 hg2
   have hsz2 := hgr2.size
   have hx2b : 0 ≤ x2 ∧ x2 ≤ 2147483647 := by simp at hx2; omega
   clear ho1 hc1 hgr1 hg2 hx2
   go_wp2_with fail
   refine (specPut x2 _).mono ?_
   rintro e w3 ⟨v2, rfl, o3, b3⟩
   have ho3 := OB.below ho2 b3
   have hc3 := hc2.below (by omega) b3
   have hgr3 := grown_trans hgr2 (grown_below b3 _)
   have hpl := putAns_len x2
   have hpos : 0 < (putAns x2).length := by
    obtain ⟨m, rfl⟩ := Int.eq_ofNat_of_zero_le hx2b.1
    rw [putAns_yes m (by omega)]; exact (put_len 4 m).2
   have hpb := putAns_bytes x2
   rcases o3.2 with ⟨_, h0⟩ | ⟨g2, cap2, cur2, rfl, _⟩
   ·omega
   have hcl := World.ownsRow.cells o3 (g := g2) rfl
   have hsz3 := hgr3.size
   have HO := hide ho3
   have HX := hide (And.intro hpb (And.intro hc3 hgr3))
   have HCL := hide hcl
   clear ho2 hc2 hgr2 b3 o3 hpb hc3 hgr3 hcl
   generalize putAns x2 = zs at *
   go_wp2_with (first
    | (at_builtin; refine wpList_append_own _ rfl (.tmp 12) (.tmp 16) 22 rfl w.heap.size 5 i0 (.int .u8 0) 1 1 Tryz.underlying22 hi hz0 hz1 hz2 rfl (by decide) _ _ _ rfl ho3 ⟨g2, 0, none⟩ zs.length cap2 (zs.map (Value.int .u8)) rfl (by simp) HCL.out (ints_plain zs) (by unfold maxLen; omega) (by omega) hsz3 ?_; intro v' w4 ho' hg' hnil; have HV' : Hid (v' ≠ .slice none 0 0) := (fun e => HV.out (hnil.1 e).1); clear hnil; have R := list_app hlt HO.out hby HX.out.1 HX.out.2.1 HX.out.2.2 ho' hg'; clear ho' hg' ho3))
   go_roundw
   case rel => exact ⟨k + 1, _, by omega, by go_num, by rw [List.length_append]; omega, HV', R⟩
   case measure => simp [intOf]; omega
  ·go_wp2_with fail
   refine (once_any base g ca ao xs 3 _ (by omega) (by omega) (by omega) hc1).mono ?_
   rintro e w2 ⟨bb, rfl, hc2, hg2⟩
   have ho2 := OB.grown ho1 hg2 (by omega)
   have hgr2 := grown_trans hgr1 hg2
   have hsz2 := hgr2.size
   clear ho1 hc1 hgr1 hg2
   cases bb
   ·have R : ListEnd w base g ca ao xs _ ys w2 := ⟨ho2, hby, hc2, hgr2⟩
    have HR := hide R
    clear ho2 hc2 hgr2 R
    go_wp2
    go_ret
    exact ⟨_, ys, rfl, by omega, HV.out, HR.out⟩
   ·go_wp2_with fail
    refine (pickInt_lit base g ca ao xs [0, 128, 255] w2 (by omega) (by decide) (by decide) hc2).mono ?_
    rintro e w3 ⟨x3, rfl, hx3, hc3, hg3⟩
    have ho3 := OB.grown ho2 hg3 (by omega)
    have hgr3 := grown_trans hgr2 hg3
    have hsz3 := hgr3.size
    have hx3b : 0 ≤ x3 ∧ x3 ≤ 255 := by simp at hx3; omega
    clear ho2 hc2 hgr2 hg3 hx3
    go_wp2_with fail
    refine (below_any base g ca ao xs 3 _ (by omega) (by omega) (by omega) hc3).mono ?_
    rintro e w4 ⟨x4, rfl, hx40, hx41, hc4, hg4⟩
    have ho4 := OB.grown ho3 hg4 (by omega)
    have hgr4 := grown_trans hgr3 hg4
    have hsz4 := hgr4.size
    have HX := hide (And.intro hc4 hgr4)
    have HO := hide ho4
    clear ho3 hc3 hgr3 hg4 hc4 hgr4
    go_wp2_with (first
     | (at_builtin; refine wpList_append_own _ rfl (.tmp 20) (.tmp 28) 22 rfl w.heap.size 5 i0 (.int .u8 0) 1 1 Tryz.underlying22 hi hz0 hz1 hz2 rfl (by decide) _ _ _ rfl (World.ownsRow.alloc ho4 _) ⟨w4.heap.size, 0, none⟩ 2 2 ([x3, x4].map (Value.int .u8)) rfl rfl (two_cells _ _ _ _) (ints_plain [x3, x4]) (by unfold maxLen; omega) (by omega) (by simp; omega) ?_; intro v' w5 ho' hg' hnil; have HV' : Hid (v' ≠ .slice none 0 0) := (fun e => HV.out (hnil.1 e).1); clear hnil; have R := list_app (zs := [x3, x4]) hlt (World.ownsRow.alloc HO.out _) hby (fun y hy => by simp at hy; omega) (HX.out.1.alloc (by omega) _) (grown_trans HX.out.2 (World.grownBy_alloc _ _ _)) ho' hg'; clear ho' hg' ho4))
    go_ret
    exact ⟨_, _, rfl, by rw [List.length_append]; simp; omega, HV'.out, R⟩
end Go.Proofs.YtcclbejpgiogaaaGreatDoor
namespace Go.Proofs.YtcclbejpgiogaaaGreatDoor
open Go.RowKit
set_option linter.unusedSectionVars false
variable [∀ (a b c d : Int), Decidable (Ok4 a b c d)]

def Cells4 (w : World) (g : Nat) (a b c d : Int) : Prop := w.cell? ⟨g, 0, none⟩ = some (.int .i64 a) ∧ w.cell? ⟨g, 1, none⟩ = some (.int .i64 b) ∧ w.cell? ⟨g, 2, none⟩ = some (.int .i64 c) ∧ w.cell? ⟨g, 3, none⟩ = some (.int .i64 d)
theorem cells4_new (w : World) (a b c d : Int) (t : TypeId) : Cells4 (w.alloc (.cells #[.int .i64 a, .int .i64 b, .int .i64 c, .int .i64 d] t)) w.heap.size a b c d := by
 refine ⟨?_, ?_, ?_, ?_⟩ <;> simp
theorem Cells4.below {w w' : World} {g B : Nat} {a b c d : Int} (h : Cells4 w g a b c d) (hb : Below B w w') (hg : g < B) : Cells4 w' g a b c d :=
 ⟨(hb.cell (p := ⟨g, 0, none⟩) hg).trans h.1, (hb.cell (p := ⟨g, 1, none⟩) hg).trans h.2.1, (hb.cell (p := ⟨g, 2, none⟩) hg).trans h.2.2.1, (hb.cell (p := ⟨g, 3, none⟩) hg).trans h.2.2.2⟩

abbrev T4 := Int × Int × Int × Int
def tcell (x : T4) : List Value := [.int .i64 x.1, .int .i64 x.2.1, .int .i64 x.2.2.1, .int .i64 x.2.2.2]
def tcells (xs : List T4) : List Value := xs.flatMap tcell
theorem tcell_len (x : T4) : (tcell x).length = 4 := rfl
theorem tcells_append (xs ys : List T4) : tcells (xs ++ ys) = tcells xs ++ tcells ys := by simp [tcells]
theorem tcells_get (xs : List T4) (k j : Nat) (hk : k < xs.length) (hj : j < 4) : (tcells xs)[k * 4 + j]? = (tcell (xs.getD k (0, 0, 0, 0)))[j]? := by
 induction xs generalizing k with
 | nil => simp at hk
 | cons x xs ih =>
  have e : tcells (x :: xs) = tcell x ++ tcells xs := by simp [tcells]
  rw [e]
  cases k with
  | zero => rw [Nat.zero_mul, Nat.zero_add, List.getElem?_append_left (by rw [tcell_len]; exact hj)]; rfl
  | succ k =>
   rw [List.getElem?_append_right (by rw [tcell_len]; omega), tcell_len, show (k + 1) * 4 + j - 4 = k * 4 + j from by omega, ih k (by simpa using hk)]
   rfl
def OT (w : World) (base : Nat) (v : Value) (xs : List T4) : Prop := w.ownsRow base 123 4 v xs.length (tcells xs)
def RT (w : World) (v : Value) (xs : List T4) : Prop :=
 xs.length ≤ 35184372088832 ∧ ∃ ao cap, v = .slice ao xs.length cap ∧ (xs = [] ∨ ∃ g, ao = some ⟨g, 0, none⟩ ∧ ∀ k, k < xs.length → w.cell? ⟨g, k * 4, none⟩ = some (.int .i64 (xs.getD k (0, 0, 0, 0)).1) ∧ w.cell? ⟨g, k * 4 + 1, none⟩ = some (.int .i64 (xs.getD k (0, 0, 0, 0)).2.1) ∧ w.cell? ⟨g, k * 4 + 2, none⟩ = some (.int .i64 (xs.getD k (0, 0, 0, 0)).2.2.1) ∧ w.cell? ⟨g, k * 4 + 3, none⟩ = some (.int .i64 (xs.getD k (0, 0, 0, 0)).2.2.2))
theorem OT.below {w w' : World} {base : Nat} {v : Value} {xs : List T4} (h : OT w base v xs) (hb : Below w.heap.size w w') : OT w' base v xs :=
 World.ownsRow.kept (row := none) h ⟨hb.os, hb.tape, hb.output, hb.size, fun k hk _ => hb.block k hk⟩ (by cases v.ownBlock <;> simp)
theorem OT.apart {w w' : World} {base N : Nat} {v u : Value} {xs : List T4} (h : OT w base v xs) (hg : w.grownBy w' u.ownBlock) (hv : ∀ k, v.ownBlock = some k → k < N) (hu : ∀ k, u.ownBlock = some k → N ≤ k) : OT w' base v xs := by
 refine World.ownsRow.kept h hg ?_
 cases hv' : v.ownBlock with
 | none => exact .inl rfl
 | some k => exact .inr fun e => by have := hv k hv'; have := hu k e.symm; omega
theorem OT.rt {w : World} {base : Nat} {v : Value} {xs : List T4} (h : OT w base v xs) (hl : xs.length ≤ 35184372088832) : RT w v xs := by
 refine ⟨hl, ?_⟩
 rcases h.2 with ⟨rfl, h0⟩ | ⟨g, cap, cur, rfl, _⟩
 ·exact ⟨none, 0, by rw [h0], .inl (List.length_eq_zero_iff.1 h0)⟩
 ·refine ⟨_, cap, rfl, .inr ⟨g, rfl, fun k hk => ?_⟩⟩
  have c0 := World.ownsRow.cellAt h (k * 4 + 0) (by omega)
  have c1 := World.ownsRow.cellAt h (k * 4 + 1) (by omega)
  have c2 := World.ownsRow.cellAt h (k * 4 + 2) (by omega)
  have c3 := World.ownsRow.cellAt h (k * 4 + 3) (by omega)
  rw [tcells_get xs k _ hk (by omega)] at c0 c1 c2 c3
  exact ⟨c0, c1, c2, c3⟩
theorem RT.below {w w' : World} {v : Value} {xs : List T4} (h : RT w v xs) (hb : Below w.heap.size w w') : RT w' v xs := by
 obtain ⟨hl, ao, cap, rfl, h⟩ := h
 refine ⟨hl, ao, cap, rfl, ?_⟩
 rcases h with h | ⟨g, rfl, h⟩
 ·exact .inl h
 ·refine .inr ⟨g, rfl, fun k hk => ?_⟩
  obtain ⟨c0, c1, c2, c3⟩ := h k hk
  have hg : g < w.heap.size := cell_lt c0
  exact ⟨(hb.cell (p := ⟨g, k * 4, none⟩) hg).trans c0, (hb.cell (p := ⟨g, k * 4 + 1, none⟩) hg).trans c1, (hb.cell (p := ⟨g, k * 4 + 2, none⟩) hg).trans c2, (hb.cell (p := ⟨g, k * 4 + 3, none⟩) hg).trans c3⟩
end Go.Proofs.YtcclbejpgiogaaaGreatDoor
namespace Go.Proofs.YtcclbejpgiogaaaGreatDoor

theorem decFrom_append (l r : List UInt8) (acc : Nat) : Lib.decFrom acc (l ++ r) = (Lib.decFrom acc l).bind fun a => Lib.decFrom a r := by
 induction l generalizing acc with
 | nil => rfl
 | cons b l ih =>
  rw [List.cons_append, Lib.decFrom, Lib.decFrom]
  cases Lib.digitVal b with
  | none => rfl
  | some d => exact ih _
theorem digit_ofNat (k : Nat) (h : k < 10) : Lib.digitVal (UInt8.ofNat (48 + k)) = some k := by
 have e : (UInt8.ofNat (48 + k)).toNat = 48 + k := by simp; omega
 rw [Lib.digitVal, if_pos (by omega), e]; congr 1; omega
theorem decFrom_digits (n : Nat) : Lib.decFrom 0 (Lib.decDigits n) = some n := by
 induction n using Nat.strongRecOn with
 | ind n ih =>
  rw [Lib.decDigits]
  by_cases h : n < 10
  ·rw [dif_pos h]
   simp only [Lib.decFrom, digit_ofNat n h]; simp
  ·rw [dif_neg h, decFrom_append, ih (n / 10) (by omega)]
   simp only [Option.bind_some, Lib.decFrom, digit_ofNat (n % 10) (by omega)]
   congr 1; omega
theorem digits_ne (n : Nat) : Lib.decDigits n ≠ [] := by
 intro h
 have := Lib.decDigits_length n
 rw [h] at this
 have := Lib.nDigits_pos n
 simp at *; omega
theorem atoi_digits (n : Nat) : Lib.atoi (Lib.decDigits n) = some (n : Int) := by
 have hd := decFrom_digits n
 have hne := digits_ne n
 cases hl : Lib.decDigits n with
 | nil => exact absurd hl hne
 | cons b r =>
  rw [hl] at hd
  obtain ⟨d, hb⟩ := Lib.digit_of_decFrom (b :: r) 0 n hd 0 b rfl
  have hb' := Lib.digitVal_eq hb
  have h45 : (b == 45) = false := by
   rw [beq_eq_false_iff_ne]; intro e; subst e; simp at hb'
  have h43 : (b == 43) = false := by
   rw [beq_eq_false_iff_ne]; intro e; subst e; simp at hb'
  simp [Lib.atoi, h45, h43, Lib.decNat, hd]
theorem nDigits_six (n : Nat) (h : n ≤ 999999) : Lib.nDigits n ≤ 6 := by
 have step : ∀ m k, (m < 10 → 1 ≤ k) → (¬ m < 10 → Lib.nDigits (m / 10) + 1 ≤ k) → Lib.nDigits m ≤ k := by
  intro m k h1 h2
  by_cases hm : m < 10
  ·rw [Lib.nDigits_small hm]; exact h1 hm
  ·rw [Lib.nDigits_big hm]; exact h2 hm
 refine step _ _ (fun _ => by omega) fun _ => Nat.succ_le_of_lt (Nat.lt_of_le_of_lt (step _ 5 (fun _ => by omega) fun _ => Nat.succ_le_of_lt (Nat.lt_of_le_of_lt (step _ 4 (fun _ => by omega) fun _ => Nat.succ_le_of_lt (Nat.lt_of_le_of_lt (step _ 3 (fun _ => by omega) fun _ => Nat.succ_le_of_lt (Nat.lt_of_le_of_lt (step _ 2 (fun _ => by omega) fun _ => Nat.succ_le_of_lt (Nat.lt_of_le_of_lt (step _ 1 (fun _ => by omega) fun _ => ?_) (by omega))) (by omega))) (by omega))) (by omega))) (by omega))
 omega

def numOf (l : List UInt8) : Option Nat :=
 match Lib.decFrom 0 l with
 | some n => if n ≤ 999999 ∧ Lib.decDigits n = l then some n else none
 | none => none
theorem numOf_some {l : List UInt8} {n : Nat} (h : numOf l = some n) : n ≤ 999999 ∧ Lib.decDigits n = l := by
 unfold numOf at h
 cases hd : Lib.decFrom 0 l with
 | none => rw [hd] at h; cases h
 | some m =>
  rw [hd] at h
  by_cases hc : m ≤ 999999 ∧ Lib.decDigits m = l
  ·simp only [if_pos hc, Option.some.injEq] at h; subst h; exact hc
  ·simp only [if_neg hc] at h; cases h
theorem numOf_of {n : Nat} (h : n ≤ 999999) : numOf (Lib.decDigits n) = some n := by
 unfold numOf; rw [decFrom_digits]; simp [h]
theorem numOf_len {l : List UInt8} {n : Nat} (h : numOf l = some n) : 1 ≤ l.length ∧ l.length ≤ 6 := by
 obtain ⟨h1, rfl⟩ := numOf_some h
 rw [Lib.decDigits_length]
 exact ⟨Lib.nDigits_pos n, nDigits_six n h1⟩
theorem numOf_none_len {l : List UInt8} (h : l.length < 1 ∨ 6 < l.length) : numOf l = none := by
 cases hn : numOf l with
 | none => rfl
 | some n => have := numOf_len hn; omega
theorem numOf_none_dec {l : List UInt8} (h : Lib.decFrom 0 l = none) : numOf l = none := by unfold numOf; rw [h]
theorem numOf_none_byte {l : List UInt8} {k : Nat} {b : UInt8} (hk : l[k]? = some b) (hb : b.toNat < 48 ∨ 57 < b.toNat) : numOf l = none := by
 refine numOf_none_dec ?_
 cases hd : Lib.decFrom 0 l with
 | none => rfl
 | some n =>
  obtain ⟨d, h⟩ := Lib.digit_of_decFrom l 0 n hd k b hk
  have := Lib.digitVal_eq h
  omega
theorem numOf_yes {l : List UInt8} {n : Nat} (hd : Lib.decFrom 0 l = some n) (hn : n ≤ 999999) (h : Lib.decDigits n = l) : numOf l = some n := by unfold numOf; rw [hd]; simp [hn, h]
theorem numOf_no {l : List UInt8} {n : Nat} (hd : Lib.decFrom 0 l = some n) (h : Lib.decDigits n ≠ l) : numOf l = none := by unfold numOf; rw [hd]; simp [h]
theorem itoa_nat (n : Nat) : Lib.itoa (n : Int) = Lib.decDigits n := by rw [Lib.itoa, if_neg (by omega), Int.toNat_natCast]
def nans (r : Option Nat) : Int := match r with | some n => (n : Int) | none => 0

def hd (m : UInt8) (l : List UInt8) : List UInt8 := l.takeWhile (· != m)
def tl (m : UInt8) (l : List UInt8) : List UInt8 := (l.dropWhile (· != m)).tail
theorem hd_none {m : UInt8} {l : List UInt8} (h : m ∉ l) : hd m l = l := by
 unfold hd
 induction l with
 | nil => rfl
 | cons b l ih =>
  simp at h
  rw [List.takeWhile_cons_of_pos (by simp; exact fun e => h.1 e.symm), ih h.2]
theorem tl_none {m : UInt8} {l : List UInt8} (h : m ∉ l) : tl m l = [] := by
 unfold tl
 induction l with
 | nil => rfl
 | cons b l ih =>
  simp at h
  rw [List.dropWhile_cons_of_pos (by simp; exact fun e => h.1 e.symm)]; exact ih h.2
theorem hd_some {m : UInt8} {x y : List UInt8} (h : m ∉ x) : hd m (x ++ m :: y) = x := by
 unfold hd
 induction x with
 | nil => simp
 | cons b x ih =>
  simp at h
  rw [List.cons_append, List.takeWhile_cons_of_pos (by simp; exact fun e => h.1 e.symm), ih h.2]
theorem tl_some {m : UInt8} {x y : List UInt8} (h : m ∉ x) : tl m (x ++ m :: y) = y := by
 unfold tl
 induction x with
 | nil => simp
 | cons b x ih =>
  simp at h
  rw [List.cons_append, List.dropWhile_cons_of_pos (by simp; exact fun e => h.1 e.symm)]; exact ih h.2
theorem hd_tl {m : UInt8} {l : List UInt8} (h : tl m l ≠ []) : l = hd m l ++ m :: tl m l := by
 unfold hd tl at *
 induction l with
 | nil => simp at h
 | cons b l ih =>
  by_cases hb : b = m
  ·subst hb; simp
  ·rw [List.takeWhile_cons_of_pos (by simpa using hb), List.dropWhile_cons_of_pos (by simpa using hb), List.cons_append]
   rw [List.dropWhile_cons_of_pos (by simpa using hb)] at h
   rw [← ih h]

def f0 (l : List UInt8) : List UInt8 := hd 62 l
def f1 (l : List UInt8) : List UInt8 := hd 58 (tl 62 l)
def f2 (l : List UInt8) : List UInt8 := hd 35 (tl 58 (tl 62 l))
def f3 (l : List UInt8) : List UInt8 := tl 35 (tl 58 (tl 62 l))

def okN (a b c d : Nat) : Prop := a ≤ 3 ∧ b ≤ 3 ∧ c ≤ 1000 ∧ d ≤ 99
def txl (a b c d : Nat) : List UInt8 := Lib.decDigits a ++ 62 :: (Lib.decDigits b ++ 58 :: (Lib.decDigits c ++ 35 :: Lib.decDigits d))
def IsTx (l : List UInt8) (a b c d : Nat) : Prop := okN a b c d ∧ txl a b c d = l

theorem digit_mem {n : Nat} {x : UInt8} (h : x ∈ Lib.decDigits n) : 48 ≤ x.toNat ∧ x.toNat ≤ 57 := by
 obtain ⟨k, hk, e⟩ := List.mem_iff_getElem.1 h
 obtain ⟨d, hd⟩ := Lib.digit_of_decFrom (Lib.decDigits n) 0 n (decFrom_digits n) k x (by rw [List.getElem?_eq_getElem hk, e])
 have := Lib.digitVal_eq hd
 omega
theorem no_mark (n : Nat) (m : UInt8) (h : m.toNat < 48 ∨ 57 < m.toNat) : m ∉ Lib.decDigits n := fun hm => by
 have := digit_mem hm; omega

theorem fields_of {l : List UInt8} {a b c d : Nat} (h : IsTx l a b c d) : f0 l = Lib.decDigits a ∧ f1 l = Lib.decDigits b ∧ f2 l = Lib.decDigits c ∧ f3 l = Lib.decDigits d := by
 obtain ⟨_, rfl⟩ := h
 have h0 : (62 : UInt8) ∉ Lib.decDigits a := no_mark a 62 (by decide)
 have h1 : (58 : UInt8) ∉ Lib.decDigits b := no_mark b 58 (by decide)
 have h2 : (35 : UInt8) ∉ Lib.decDigits c := no_mark c 35 (by decide)
 unfold f0 f1 f2 f3 txl
 rw [hd_some h0, tl_some h0, hd_some h1, tl_some h1, hd_some h2, tl_some h2]
 exact ⟨rfl, rfl, rfl, rfl⟩
theorem nums_of {l : List UInt8} {a b c d : Nat} (h : IsTx l a b c d) : numOf (f0 l) = some a ∧ numOf (f1 l) = some b ∧ numOf (f2 l) = some c ∧ numOf (f3 l) = some d := by
 obtain ⟨e0, e1, e2, e3⟩ := fields_of h
 obtain ⟨⟨h0, h1, h2, h3⟩, _⟩ := h
 rw [e0, e1, e2, e3]
 exact ⟨numOf_of (by omega), numOf_of (by omega), numOf_of (by omega), numOf_of (by omega)⟩
theorem tl_nil (m : UInt8) : tl m [] = [] := rfl
theorem hd_nil (m : UInt8) : hd m [] = [] := rfl
theorem isTx_of {l : List UInt8} {a b c d : Nat} (h0 : numOf (f0 l) = some a) (h1 : numOf (f1 l) = some b) (h2 : numOf (f2 l) = some c) (h3 : numOf (f3 l) = some d) (hk : okN a b c d) : IsTx l a b c d := by
 refine ⟨hk, ?_⟩
 obtain ⟨_, e0⟩ := numOf_some h0
 obtain ⟨_, e1⟩ := numOf_some h1
 obtain ⟨_, e2⟩ := numOf_some h2
 obtain ⟨_, e3⟩ := numOf_some h3
 have n1 := digits_ne b
 have n2 := digits_ne c
 have n3 := digits_ne d
 unfold txl
 rw [e0, e1, e2, e3]
 rw [e1] at n1; rw [e2] at n2; rw [e3] at n3
 unfold f0 f1 f2 f3 at *
 have t0 : tl 62 l ≠ [] := fun e => n1 (by rw [e, hd_nil])
 have t1 : tl 58 (tl 62 l) ≠ [] := fun e => n2 (by rw [e, hd_nil])
 rw [← hd_tl n3, ← hd_tl t1, ← hd_tl t0]
end Go.Proofs.YtcclbejpgiogaaaGreatDoor
namespace Go.Proofs.YtcclbejpgiogaaaGreatDoor
open Go

theorem hit_hd {m : UInt8} {r : List UInt8} {j : Nat} (h : m ∉ r.take j) (hj : r[j]? = some m) : hd m r = r.take j ∧ tl m r = r.drop (j + 1) := by
 have hl : j < r.length := (List.getElem?_eq_some_iff.1 hj).1
 have hm : r[j] = m := (List.getElem?_eq_some_iff.1 hj).2
 have e : r = r.take j ++ m :: r.drop (j + 1) := by
  rw [← hm, List.getElem_cons_drop, List.take_append_drop]
 constructor
 ·conv => lhs; rw [e]
  exact hd_some h
 ·conv => lhs; rw [e]
  exact tl_some h
def rst (l : List UInt8) : Nat → List UInt8
 | 0 => l
 | 1 => tl 62 l
 | 2 => tl 58 (tl 62 l)
 | _ => tl 35 (tl 58 (tl 62 l))
def mrk : Nat → UInt8
 | 0 => 62
 | 1 => 58
 | _ => 35
def toB (l : List UInt8) : ByteArray := ⟨l.toArray⟩
theorem ext_list (s : ByteArray) (n p : Nat) : (s.extract n p).data.toList = (s.data.toList.drop n).take (p - n) := by
 rw [ByteArray.data_extract, Array.toList_extract]
theorem ext_toB (s : ByteArray) (n p : Nat) : s.extract n p = toB ((s.data.toList.drop n).take (p - n)) := by
 apply ByteArray.ext
 apply Array.toList_inj.1
 rw [ext_list s n p]; rfl
def CAt (s : ByteArray) (pos k n : Nat) : Prop := n ≤ pos ∧ n ≤ s.size ∧ s.data.toList.drop n = rst s.data.toList k ∧ (k < 3 → mrk k ∉ (s.data.toList.drop n).take (pos - n))
theorem cat_start (s : ByteArray) : CAt s 0 0 0 := ⟨by omega, by omega, rfl, by simp⟩
theorem cat_hit {s : ByteArray} {pos k n : Nat} (h : CAt s pos k n) (hp : pos < s.size) (hk : k < 3) (hb : s[pos] = mrk k) :
 s.extract n pos = toB (hd (mrk k) (rst s.data.toList k)) ∧ CAt s (pos + 1) (k + 1) (pos + 1) := by
 obtain ⟨h1, h2, h3, h4⟩ := h
 have hj : (s.data.toList.drop n)[pos - n]? = some (mrk k) := by
  rw [List.getElem?_drop, show n + (pos - n) = pos from by omega, List.getElem?_eq_getElem (by simpa using hp), ← hb]; rfl
 obtain ⟨e1, e2⟩ := hit_hd (h4 hk) hj
 refine ⟨?_, by omega, by omega, ?_, by simp⟩
 ·rw [ext_toB s n pos, ← h3, e1]
 ·rw [List.drop_drop, show n + (pos - n + 1) = pos + 1 from by omega] at e2
  rw [← e2, h3]
  match k, hk with
  | 0, _ => rfl
  | 1, _ => rfl
  | 2, _ => rfl
theorem not_mem_more {m : UInt8} {l : List UInt8} {n pos v : Nat} (hn : n ≤ pos) (h : m ∉ (l.drop n).take (pos - n)) (hv : ∀ j, j < v → l[pos + j]? ≠ some m) : m ∉ (l.drop n).take (pos + v - n) := by
 induction v with
 | zero => exact h
 | succ v ih =>
  have h' := ih (fun j hj => hv j (by omega))
  rw [show pos + (v + 1) - n = (pos + v - n) + 1 from by omega, List.take_add_one]
  intro hm
  rw [List.mem_append] at hm
  rcases hm with hm | hm
  ·exact h' hm
  ·rw [List.getElem?_drop, show n + (pos + v - n) = pos + v from by omega] at hm
   have := hv v (by omega)
   cases hq : l[pos + v]? with
   | none => rw [hq] at hm; simp at hm
   | some x => rw [hq] at hm; simp at hm; rw [hq, hm] at this; exact this rfl
theorem mrk_small (k : Nat) : (mrk k).toNat < 128 := by unfold mrk; split <;> decide
theorem decode_tail (s : ByteArray) (pos j : Nat) (hj : 1 ≤ j) (h : j < (Utf8.decode s pos).2) : 128 ≤ (s.get! (pos + j)).toNat := by
 unfold Utf8.decode at h
 simp only at h
 split at h
 ·simp at h; omega
 ·split at h
  ·rename_i hc
   simp only [Bool.and_eq_true, beq_iff_eq, decide_eq_true_eq] at hc
   split at h
   ·simp at h
    obtain rfl : j = 1 := by omega
    omega
   ·simp at h; omega
  ·split at h
   ·rename_i hc
    simp only [Bool.and_eq_true, beq_iff_eq, decide_eq_true_eq] at hc
    split at h
    ·simp at h
     have : j = 1 ∨ j = 2 := by omega
     rcases this with rfl | rfl <;> omega
    ·simp at h; omega
   ·split at h
    ·rename_i hc
     simp only [Bool.and_eq_true, beq_iff_eq, decide_eq_true_eq] at hc
     split at h
     ·simp at h
      have : j = 1 ∨ j = 2 ∨ j = 3 := by omega
      rcases this with rfl | rfl | rfl <;> omega
     ·simp at h; omega
    ·simp at h; omega
theorem get_of {s : ByteArray} {i : Nat} {x : UInt8} (h : s.data.toList[i]? = some x) : s.get! i = x := by
 rw [Array.getElem?_toList] at h
 unfold ByteArray.get!
 cases s
 simp only at *
 obtain ⟨hi, e⟩ := Array.getElem?_eq_some_iff.1 h
 simp [hi, e]
theorem cat_miss {s : ByteArray} {pos k n : Nat} (h : CAt s pos k n) (hp : pos < s.size) (hb : k < 3 → s[pos] ≠ mrk k) :
 CAt s (pos + (Utf8.decode s pos).2) k n := by
 obtain ⟨h1, h2, h3, h4⟩ := h
 refine ⟨by omega, h2, h3, fun hk => ?_⟩
 refine not_mem_more h1 (h4 hk) fun j hj e => ?_
 by_cases h0 : j = 0
 ·subst h0
  rw [Nat.add_zero, List.getElem?_eq_getElem (by simpa using hp)] at e
  exact hb hk (Option.some.inj e)
 ·have := decode_tail s pos j (by omega) hj
  rw [get_of e] at this
  have := mrk_small k
  omega
theorem rst_all (s : ByteArray) (n : Nat) : s.extract n s.size = toB (s.data.toList.drop n) := by
 rw [ext_toB s n s.size, List.take_of_length_le (by simp)]
theorem cat_end {s : ByteArray} {pos k n : Nat} (h : CAt s pos k n) (hp : ¬ pos < s.size) : s.extract n s.size = toB (rst s.data.toList k) ∧ (k < 3 → hd (mrk k) (rst s.data.toList k) = rst s.data.toList k ∧ tl (mrk k) (rst s.data.toList k) = []) := by
 obtain ⟨h1, h2, h3, h4⟩ := h
 refine ⟨by rw [rst_all s n, h3], fun hk => ?_⟩
 have hm : mrk k ∉ rst s.data.toList k := by
  have := h4 hk
  rw [List.take_of_length_le (by simp; omega), h3] at this
  exact this
 exact ⟨hd_none hm, tl_none hm⟩
end Go.Proofs.YtcclbejpgiogaaaGreatDoor
namespace Go.Proofs.YtcclbejpgiogaaaGreatDoor
open Go.RowKit

def cw (w : World) (s g0 g1 g2 g3 : ByteArray) (pos : Nat) : World :=
 (((w.alloc (.cells #[.string ⟨#[]⟩, .string ⟨#[]⟩, .string ⟨#[]⟩, .string ⟨#[]⟩] 210)).alloc (.cells #[.int .i32 62, .int .i32 58, .int .i32 35] 216)).alloc (.cells #[.string g0, .string g1, .string g2, .string g3] 210)).iter s pos
theorem cw_marks (w : World) (s g0 g1 g2 g3 : ByteArray) (pos : Nat) : (cw w s g0 g1 g2 g3 pos).cell? ⟨w.heap.size + 1, 0, none⟩ = some (.int .i32 62) ∧ (cw w s g0 g1 g2 g3 pos).cell? ⟨w.heap.size + 1, 1, none⟩ = some (.int .i32 58) ∧ (cw w s g0 g1 g2 g3 pos).cell? ⟨w.heap.size + 1, 2, none⟩ = some (.int .i32 35) := by
 unfold cw World.iter
 simp [go_sem]
theorem cw_cells (w : World) (s g0 g1 g2 g3 : ByteArray) (pos : Nat) : (cw w s g0 g1 g2 g3 pos).cell? ⟨w.heap.size + 1 + 1, 0, none⟩ = some (.string g0) ∧ (cw w s g0 g1 g2 g3 pos).cell? ⟨w.heap.size + 1 + 1, 1, none⟩ = some (.string g1) ∧ (cw w s g0 g1 g2 g3 pos).cell? ⟨w.heap.size + 1 + 1, 2, none⟩ = some (.string g2) ∧ (cw w s g0 g1 g2 g3 pos).cell? ⟨w.heap.size + 1 + 1, 3, none⟩ = some (.string g3) := by
 unfold cw World.iter
 simp [go_sem]
theorem cw_free (w : World) (s g0 g1 g2 g3 : ByteArray) (pos j : Nat) : (cw w s g0 g1 g2 g3 pos).frozen? ⟨w.heap.size + 1 + 1, j, none⟩ = false := by
 unfold cw World.iter
 simp [go_sem]
theorem cw_set0 (w : World) (s g0 g1 g2 g3 x : ByteArray) (pos : Nat) : (cw w s g0 g1 g2 g3 pos).setCell ⟨w.heap.size + 1 + 1, 0, none⟩ (.string x) = cw w s x g1 g2 g3 pos := by
 unfold cw World.iter
 simp [go_sem]
theorem cw_set1 (w : World) (s g0 g1 g2 g3 x : ByteArray) (pos : Nat) : (cw w s g0 g1 g2 g3 pos).setCell ⟨w.heap.size + 1 + 1, 1, none⟩ (.string x) = cw w s g0 x g2 g3 pos := by
 unfold cw World.iter
 simp [go_sem]
theorem cw_set2 (w : World) (s g0 g1 g2 g3 x : ByteArray) (pos : Nat) : (cw w s g0 g1 g2 g3 pos).setCell ⟨w.heap.size + 1 + 1, 2, none⟩ (.string x) = cw w s g0 g1 x g3 pos := by
 unfold cw World.iter
 simp [go_sem]
theorem cw_size (w : World) (g0 g1 g2 g3 : ByteArray) : (((w.alloc (.cells #[.string ⟨#[]⟩, .string ⟨#[]⟩, .string ⟨#[]⟩, .string ⟨#[]⟩] 210)).alloc (.cells #[.int .i32 62, .int .i32 58, .int .i32 35] 216)).alloc (.cells #[.string g0, .string g1, .string g2, .string g3] 210)).heap.size = w.heap.size + 1 + 1 + 1 := by simp
theorem cw_next (w : World) (s g0 g1 g2 g3 : ByteArray) (pos : Nat) (h : pos < s.size) (ty : TypeId) : (Instr.next (.pointer (some ⟨w.heap.size + 1 + 1 + 1, 0, none⟩)) true ty).run Tryz.prog (cw w s g0 g1 g2 g3 pos) = .ok (.tuple #[.bool true, .int .i64 pos, .int .i32 (Utf8.decode s pos).1]) (cw w s g0 g1 g2 g3 (pos + (Utf8.decode s pos).2)) := by
 have := run_next_any (P := Tryz.prog) (((w.alloc (.cells #[.string ⟨#[]⟩, .string ⟨#[]⟩, .string ⟨#[]⟩, .string ⟨#[]⟩] 210)).alloc (.cells #[.int .i32 62, .int .i32 58, .int .i32 35] 216)).alloc (.cells #[.string g0, .string g1, .string g2, .string g3] 210)) s pos ty h
 rw [cw_size] at this
 exact this
theorem cw_end (w : World) (s g0 g1 g2 g3 : ByteArray) (pos : Nat) (h : ¬ pos < s.size) (ty : TypeId) : (Instr.next (.pointer (some ⟨w.heap.size + 1 + 1 + 1, 0, none⟩)) true ty).run Tryz.prog (cw w s g0 g1 g2 g3 pos) = .ok (.tuple #[.bool false]) (cw w s g0 g1 g2 g3 pos) := by
 have := run_next_end (P := Tryz.prog) (((w.alloc (.cells #[.string ⟨#[]⟩, .string ⟨#[]⟩, .string ⟨#[]⟩, .string ⟨#[]⟩] 210)).alloc (.cells #[.int .i32 62, .int .i32 58, .int .i32 35] 216)).alloc (.cells #[.string g0, .string g1, .string g2, .string g3] 210)) s pos ty h
 rw [cw_size] at this
 exact this
theorem cw_pos (w : World) (s g0 g1 g2 g3 : ByteArray) (pos : Nat) : (cw w s g0 g1 g2 g3 pos).iterPos (w.heap.size + 1 + 1 + 1) = pos := by
 rw [← cw_size w g0 g1 g2 g3]
 exact World.iterPos_iter _ _ _
def gs (l : List UInt8) : Nat → ByteArray × ByteArray × ByteArray × ByteArray
 | 0 => (⟨#[]⟩, ⟨#[]⟩, ⟨#[]⟩, ⟨#[]⟩)
 | 1 => (toB (f0 l), ⟨#[]⟩, ⟨#[]⟩, ⟨#[]⟩)
 | 2 => (toB (f0 l), toB (f1 l), ⟨#[]⟩, ⟨#[]⟩)
 | _ => (toB (f0 l), toB (f1 l), toB (f2 l), ⟨#[]⟩)
def CRel (s : ByteArray) (w : World) (a f : Value) (wr : World) : Prop := ∃ pos k n : Nat, k ≤ 3 ∧ n ≤ pos ∧ n ≤ s.size ∧ a = .int .i64 k ∧ f = .int .i64 n ∧ CAt s pos k n ∧ wr = cw w s (gs s.data.toList k).1 (gs s.data.toList k).2.1 (gs s.data.toList k).2.2.1 (gs s.data.toList k).2.2.2 pos
end Go.Proofs.YtcclbejpgiogaaaGreatDoor
