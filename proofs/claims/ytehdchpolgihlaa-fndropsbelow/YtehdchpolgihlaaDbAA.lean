/- Texts that belong together: Base, Draw, DrawNum, In, Plain, Put, Text, DrawList, TxOk, ToTx, EqTx, TxList, NumPlain, TxPlain. -/
import Derived.Test.YtehdchpolgihlaaRows
import Derived.WalkKit
import Derived.WalkSmall
import Derived.BigQuiet
import Derived.Deep.QuietTactic
import Derived.Laws.Bits128
import Derived.Lib.AppendStr
import Derived.Laws.IdiomStrings
import Derived.Deep.RegionHeld3
import Derived.Deep.DeepCutAuto
import Derived.Lib.ItoaNum
import Derived.Lib.Atoi
import Derived.Laws.RangeString
import Derived.Laws.RangeAny
/- Lists of bytes in memory: what it means that a slice value reads as such a list, or is a list of the call's own. -/
namespace Go.Proofs.Ytehdchpolgihlaa
open Go.RowKit

theorem hide {p : Prop} (h : p) : Hid p := h
theorem unhide {p : Prop} (h : Hid p) : p := h

/-- The slice value v reads as the bytes xs. -/
def RB (w : World) (v : Value) (xs : List Int) : Prop :=
  xs.length ≤ 140737488355328 ∧ ∃ ao cap, v = .slice ao xs.length cap ∧ (xs.length ≤ cap ∧ cap ≤ maxLen) ∧ (xs = [] ∨ ∃ b off, ao = some ⟨b, off, none⟩ ∧ ∀ k, k < xs.length → w.cell? ⟨b, off + k, none⟩ = some (.int .u8 (xs.getD k 0)))

/-- v is a list of the call's own, from block 'base' on, of the bytes xs. -/
def OB (w : World) (base : Nat) (v : Value) (xs : List Int) : Prop := w.ownsRow base 5 1 v xs.length (xs.map (Value.int .u8))

theorem OB.rb {w : World} {base : Nat} {v : Value} {xs : List Int} (h : OB w base v xs) (hl : xs.length ≤ 140737488355328) : RB w v xs := by
  refine ⟨hl, ?_⟩
  rcases h.2 with ⟨rfl, h0⟩ | ⟨g, cap, cur, rfl, _, _, hca, hcm, _⟩
  · exact ⟨none, 0, by rw [h0], ⟨by omega, by unfold maxLen; omega⟩, .inl (List.length_eq_zero_iff.1 h0)⟩
  · refine ⟨_, cap, rfl, ⟨hca, hcm⟩, .inr ⟨g, 0, rfl, fun k hk => ?_⟩⟩
    have := World.ownsRow.cellAt h k (by omega)
    rw [Nat.zero_add, this]
    simp [List.getElem?_map, List.getElem?_eq_getElem hk]
theorem OB.below {w w' : World} {base : Nat} {v : Value} {xs : List Int} (h : OB w base v xs) (hb : Below w.heap.size w w') : OB w' base v xs :=
  World.ownsRow.kept (row := none) h ⟨hb.os, hb.tape, hb.output, hb.size, fun k hk _ => hb.block k hk⟩ (by cases v.ownBlock <;> simp)
theorem OB.drewN {w : World} {base : Nat} {v : Value} {xs : List Int} (h : OB w base v xs) (n : Nat) : OB (w.drewN n) base v xs := h
theorem OB.apart {w w' : World} {base N : Nat} {v u : Value} {xs : List Int} (h : OB w base v xs) (hg : w.grownBy w' u.ownBlock) (hv : ∀ k, v.ownBlock = some k → k < N) (hu : ∀ k, u.ownBlock = some k → N ≤ k) : OB w' base v xs := by
  refine World.ownsRow.kept h hg ?_
  cases hv' : v.ownBlock with
  | none => exact .inl rfl
  | some k => exact .inr fun e => by have := hv k hv'; have := hu k e.symm; omega

theorem cell_lt {w : World} {a : Addr} {v : Value} (h : w.cell? a = some v) : a.block < w.heap.size := World.block_lt_of_cell? w a h
theorem RB.below {w w' : World} {B : Nat} {v : Value} {xs : List Int} (h : RB w v xs) (hb : Below B w w') (hB : w.heap.size ≤ B) : RB w' v xs := by
  obtain ⟨hl, ao, cap, rfl, hcap, h⟩ := h
  refine ⟨hl, ao, cap, rfl, hcap, ?_⟩
  rcases h with h | ⟨b, off, rfl, h⟩
  · exact .inl h
  · refine .inr ⟨b, off, rfl, fun k hk => ?_⟩
    have := h k hk
    exact (hb.cell (Nat.lt_of_lt_of_le (cell_lt this) hB)).trans this
theorem RB.drewN {w : World} {v : Value} {xs : List Int} (h : RB w v xs) (n : Nat) : RB (w.drewN n) v xs := h
theorem grown_trans {a b c : World} {row : Option Nat} (h : a.grownBy b row) (k : b.grownBy c row) : a.grownBy c row :=
  ⟨k.os.trans h.os, k.tape.trans h.tape, k.output.trans h.output, Nat.le_trans h.size k.size, fun i hi hr => (k.block i (Nat.lt_of_lt_of_le hi h.size) hr).trans (h.block i hi hr)⟩
theorem grown_refl (a : World) (row : Option Nat) : a.grownBy a row := ⟨rfl, rfl, rfl, Nat.le_refl _, fun _ _ _ => rfl⟩

theorem Try.info5 : (Try.prog.info? 5).map (fun i => (i.zero, i.size, i.bytes)) = some (some (.int .u8 0), 1, 1) := by kernel_rfl
theorem Try.info9 : (Try.prog.info? 9).map (fun i => (i.zero, i.size, i.bytes)) = some (some (.string ⟨#[]⟩), 1, 16) := by kernel_rfl
/-- The one cell that an append of one value lays first. -/
theorem one_cell (w : World) (x : Value) (t : TypeId) (j : Nat) (u : Value) (h : [x][j]? = some u) : (w.alloc (.cells #[x] t)).cell? ((⟨w.heap.size, 0, none⟩ : Addr).add j) = some u := by
  match j, h with
  | 0, h => simp at h; subst h; simp [Addr.add]
theorem one_plain (k : IntKind) (c : Int) (u : Value) (h : u ∈ [Value.int k c]) : u.oneCell' = true := by simp at h; subst h; rfl
theorem one_text (s : ByteArray) (u : Value) (h : u ∈ [Value.string s]) : u.oneCell' = true := by simp at h; subst h; rfl
end Go.Proofs.Ytehdchpolgihlaa

/- The cursor of the draws: spec.l1New, l1Byte, l1Below, l1Once, l1Pick, l1PickInt. -/
namespace Go.Proofs.Ytehdchpolgihlaa
open Go.RowKit

/-- Block g is a cursor over the bytes xs, which lie below block 'base'. -/
structure Cur (w : World) (base g : Nat) (ao : Option Addr) (ca : Nat) (xs : List Int) : Prop where
  low : base ≤ g
  len : xs.length ≤ 140737488355328
  cells : ∃ i h : Int, w.heap[g]? = some (.cells #[.slice ao xs.length ca, .int .i64 i, .int .i64 h] 65 (0, 0)) ∧ 0 ≤ i ∧ i ≤ xs.length
  code : xs = [] ∨ ∃ b off, b < base ∧ ao = some ⟨b, off, none⟩ ∧ ∀ k, k < xs.length → w.cell? ⟨b, off + k, none⟩ = some (.int .u8 (xs.getD k 0)) ∧ 0 ≤ xs.getD k 0 ∧ xs.getD k 0 ≤ 255

theorem i64_and255 (n : Int) : bits .and .i64 n 255 = n % 256 := by
  have h255 : (BitVec.ofInt 64 255).toNat = 2 ^ 8 - 1 := by decide
  have key : (BitVec.ofInt 64 n &&& BitVec.ofInt 64 255).toNat = (n % ((2 ^ 64 : Nat) : Int)).toNat % 2 ^ 8 := by
    rw [BitVec.toNat_and, BitVec.toNat_ofInt, h255, Nat.and_two_pow_sub_one_eq_mod]
  show IntKind.i64.wrap ((BitVec.ofInt 64 n &&& BitVec.ofInt 64 255).toNat : Nat) = n % 256
  rw [key, IntKind.wrap_i64]
  omega
theorem and255 (n : Int) : 0 ≤ bits .and .i64 n 255 ∧ bits .and .i64 n 255 ≤ 255 := by rw [i64_and255]; omega

theorem three_cells {w : World} {g : Nat} {x y z : Value} {t : TypeId} (h : w.heap[g]? = some (.cells #[x, y, z] t (0, 0))) :
    w.cell? ⟨g, 0, none⟩ = some x ∧ w.cell? ⟨g, 1, none⟩ = some y ∧ w.cell? ⟨g, 2, none⟩ = some z ∧ w.frozen? ⟨g, 0, none⟩ = false ∧ w.frozen? ⟨g, 1, none⟩ = false ∧ w.frozen? ⟨g, 2, none⟩ = false := by
  refine ⟨?_, ?_, ?_, frozen_of_row w g 0 _ t h, frozen_of_row w g 1 _ t h, frozen_of_row w g 2 _ t h⟩
  · rw [cell_of_row w g 0 _ t (0, 0) h]; rfl
  · rw [cell_of_row w g 1 _ t (0, 0) h]; rfl
  · rw [cell_of_row w g 2 _ t (0, 0) h]; rfl

theorem set_two {w : World} {g : Nat} {x y z : Value} {t : TypeId} (h : w.heap[g]? = some (.cells #[x, y, z] t (0, 0))) (u : Value) : (w.setCell ⟨g, 2, none⟩ u).heap[g]? = some (.cells #[x, y, u] t (0, 0)) := by
  rw [heap_setCell_same w g 2 _ t u h]; rfl
theorem set_one {w : World} {g : Nat} {x y z : Value} {t : TypeId} (h : w.heap[g]? = some (.cells #[x, y, z] t (0, 0))) (u : Value) : (w.setCell ⟨g, 1, none⟩ u).heap[g]? = some (.cells #[x, u, z] t (0, 0)) := by
  rw [heap_setCell_same w g 1 _ t u h]; rfl
theorem set_grown (w : World) (g j : Nat) (u : Value) : w.grownBy (w.setCell ⟨g, j, none⟩ u) (some g) :=
  ⟨rfl, rfl, rfl, by simp, fun k _ hk => heap_setCell_other w ⟨g, j, none⟩ k u (fun e => hk (by simp [e]))⟩

theorem grown_drewN {a b : World} {row : Option Nat} (h : a.grownBy b row) (n : Nat) : a.grownBy (b.drewN n) row := ⟨h.os, h.tape, h.output, h.size, h.block⟩

/-- What a byte that is drawn leaves. -/
def ByteEnd (w : World) (g ca : Nat) (ao : Option Addr) (xs : List Int) (e : Ending) (w' : World) : Prop :=
  ∃ x : Int, e = .returned (.int .i64 x) ∧ 0 ≤ x ∧ x ≤ 255 ∧ (∃ i h : Int, w'.heap[g]? = some (.cells #[.slice ao xs.length ca, .int .i64 i, .int .i64 h] 65 (0, 0)) ∧ 0 ≤ i ∧ i ≤ xs.length) ∧ w.grownBy w' (some g)

set_option maxHeartbeats 1600000 in
set_option maxRecDepth 100000 in
theorem byte_end (g ca : Nat) (ao : Option Addr) (xs : List Int) (h : Int) (w : World) (hl : xs.length ≤ 140737488355328)
    (hc : w.heap[g]? = some (.cells #[.slice ao xs.length ca, .int .i64 xs.length, .int .i64 h] 65 (0, 0))) :
    Calls Try.prog 46 #[.pointer (some ⟨g, 0, none⟩)] w (ByteEnd w g ca ao xs) := by
  obtain ⟨c0, c1, c2, f0, f1, f2⟩ := three_cells hc
  have HC := hide hc
  clear hc
  go_enter Try.func46, Try.ntmps46
  go_wp2_with fail
  go_quiet (fail)
  go_wp2_with fail
  go_quiet (fail)
  go_wp2
  go_ret
  exact ⟨_, rfl, (and255 _).1, (and255 _).2, ⟨_, _, set_two (unhide HC) _, by omega, by omega⟩, grown_drewN (grown_drewN (set_grown _ _ _ _) _) _⟩

set_option maxHeartbeats 1600000 in
set_option maxRecDepth 100000 in
theorem byte_mid (g ca b off : Nat) (xs : List Int) (i : Nat) (h : Int) (w : World) (hl : xs.length ≤ 140737488355328) (hbg : b ≠ g)
    (hc : w.heap[g]? = some (.cells #[.slice (some ⟨b, off, none⟩) xs.length ca, .int .i64 i, .int .i64 h] 65 (0, 0))) (hi : i < xs.length)
    (hb : w.cell? ⟨b, off + i, none⟩ = some (.int .u8 (xs.getD i 0))) (hx : 0 ≤ xs.getD i 0 ∧ xs.getD i 0 ≤ 255) :
    Calls Try.prog 46 #[.pointer (some ⟨g, 0, none⟩)] w (ByteEnd w g ca (some ⟨b, off, none⟩) xs) := by
  obtain ⟨c0, c1, c2, f0, f1, f2⟩ := three_cells hc
  have HC := hide hc
  clear hc
  generalize xs.getD i 0 = d at *
  go_enter Try.func46, Try.ntmps46
  go_wp2_with fail
  go_quiet (fail)
  go_wp2_with fail
  go_quiet (fail)
  go_wp2_with fail
  go_quiet (fail)
  go_wp2
  go_ret
  exact ⟨_, rfl, (and255 _).1, (and255 _).2, ⟨_, _, set_one (set_two (unhide HC) _) _, by omega, by omega⟩, grown_trans (grown_drewN (set_grown _ _ _ _) _) (set_grown _ _ _ _)⟩

theorem Cur.grown {w w' : World} {base g ca : Nat} {ao : Option Addr} {xs : List Int} (h : Cur w base g ao ca xs) (hg : w.grownBy w' (some g)) (hB : base ≤ w.heap.size)
    (hc : ∃ i h : Int, w'.heap[g]? = some (.cells #[.slice ao xs.length ca, .int .i64 i, .int .i64 h] 65 (0, 0)) ∧ 0 ≤ i ∧ i ≤ xs.length) : Cur w' base g ao ca xs := by
  refine ⟨h.low, h.len, hc, ?_⟩
  rcases h.code with h' | ⟨b, off, hb, ha, hx⟩
  · exact .inl h'
  · refine .inr ⟨b, off, hb, ha, fun k hk => ⟨?_, (hx k hk).2⟩⟩
    have hlow := h.low
    rw [World.cell?_of_block (w := w) (hg.block b (by omega) (by simp; omega))]
    exact (hx k hk).1
/-- A byte is drawn: from 0 to 255; the cursor stays one; nothing else turns. -/
theorem byte_any (base g ca : Nat) (ao : Option Addr) (xs : List Int) (w : World) (hB : base ≤ w.heap.size) (h : Cur w base g ao ca xs) :
    Calls Try.prog 46 #[.pointer (some ⟨g, 0, none⟩)] w fun e w' => ∃ x : Int, e = .returned (.int .i64 x) ∧ 0 ≤ x ∧ x ≤ 255 ∧ Cur w' base g ao ca xs ∧ w.grownBy w' (some g) := by
  have key : Calls Try.prog 46 #[.pointer (some ⟨g, 0, none⟩)] w (ByteEnd w g ca ao xs) := by
    obtain ⟨i, hh, hc, h0, h1⟩ := h.cells
    by_cases hi : i = xs.length
    · subst hi; exact byte_end g ca ao xs hh w h.len hc
    · obtain ⟨k, rfl⟩ := Int.eq_ofNat_of_zero_le h0
      rcases h.code with h' | ⟨b, off, hb, rfl, hx⟩
      · subst h'; simp at h1; simp at hi; omega
      · have hlow := h.low
        exact byte_mid g ca b off xs k hh w h.len (by omega) hc (by omega) (hx k (by omega)).1 (hx k (by omega)).2
  refine key.mono ?_
  rintro e w' ⟨x, rfl, h0, h1, hc, hg⟩
  exact ⟨x, rfl, h0, h1, h.grown hg hB hc, hg⟩

set_option maxHeartbeats 400000 in
set_option maxRecDepth 100000 in
/-- A number below n is drawn, n from 1 to 256. -/
theorem below_any (base g ca : Nat) (ao : Option Addr) (xs : List Int) (n : Int) (w : World) (hB : base ≤ w.heap.size) (hn : 1 ≤ n) (hm : n ≤ 256) (h : Cur w base g ao ca xs) :
    Calls Try.prog 25 #[.pointer (some ⟨g, 0, none⟩), .int .i64 n] w fun e w' => ∃ x : Int, e = .returned (.int .i64 x) ∧ 0 ≤ x ∧ x < n ∧ Cur w' base g ao ca xs ∧ w.grownBy w' (some g) := by
  have HC := hide (byte_any base g ca ao xs w hB h)
  clear h
  go_enter Try.func25, Try.ntmps25
  go_wp2_with fail
  refine (unhide HC).mono ?_
  rintro e w' ⟨x, rfl, h0, h1, hc, hg⟩
  go_wp2
  go_ret
  exact ⟨_, rfl, Int.emod_nonneg _ (by omega), Int.emod_lt_of_pos _ (by omega), hc, hg⟩

set_option maxHeartbeats 400000 in
set_option maxRecDepth 100000 in
theorem once_any (base g ca : Nat) (ao : Option Addr) (xs : List Int) (n : Int) (w : World) (hB : base ≤ w.heap.size) (hn : 1 ≤ n) (hm : n ≤ 256) (h : Cur w base g ao ca xs) :
    Calls Try.prog 44 #[.pointer (some ⟨g, 0, none⟩), .int .i64 n] w fun e w' => ∃ b : Bool, e = .returned (.bool b) ∧ Cur w' base g ao ca xs ∧ w.grownBy w' (some g) := by
  have HC := hide (below_any base g ca ao xs n w hB hn hm h)
  clear h
  go_enter Try.func44, Try.ntmps44
  go_wp2_with fail
  refine (unhide HC).mono ?_
  rintro e w' ⟨x, rfl, h0, h1, hc, hg⟩
  go_wp2
  go_ret
  exact ⟨_, rfl, hc, hg⟩

set_option maxHeartbeats 400000 in
set_option maxRecDepth 100000 in
/-- One of a list of numbers is drawn; the list lies in block p. -/
theorem pickInt_any (base g ca p : Nat) (ao : Option Addr) (xs zs : List Int) (w : World) (hB : base ≤ w.heap.size) (hp : p ≠ g) (hz : 1 ≤ zs.length) (hz2 : zs.length ≤ 256) (hc : ∀ k, k < zs.length → w.cell? ⟨p, k, none⟩ = some (.int .i64 (zs.getD k 0))) (h : Cur w base g ao ca xs) :
    Calls Try.prog 62 #[.pointer (some ⟨g, 0, none⟩), .slice (some ⟨p, 0, none⟩) zs.length zs.length] w fun e w' => ∃ k : Nat, k < zs.length ∧ e = .returned (.int .i64 (zs.getD k 0)) ∧ Cur w' base g ao ca xs ∧ w.grownBy w' (some g) := by
  have HC := hide (below_any base g ca ao xs zs.length w hB (by omega) (by omega) h)
  have HD := hide hc
  clear h hc
  go_enter Try.func62, Try.ntmps62
  go_wp2_with fail
  refine (unhide HC).mono ?_
  rintro e w' ⟨x, rfl, h0, h1, hcur, hg⟩
  obtain ⟨k, rfl⟩ := Int.eq_ofNat_of_zero_le h0
  have hk : k < zs.length := by omega
  have hcell : w'.cell? ⟨p, k, none⟩ = some (.int .i64 (zs.getD k 0)) := by
    have h1 := unhide HD k hk
    exact hg.cell h1 (by simp [hp])
  obtain ⟨z, hz'⟩ : ∃ z, zs.getD k 0 = z := ⟨_, rfl⟩
  rw [hz'] at hcell
  have HZ := hide hz'
  clear hz'
  go_wp2
  go_ret
  have hz'' := unhide HZ
  subst hz''
  exact ⟨k, hk, rfl, hcur, hg⟩

set_option maxHeartbeats 400000 in
set_option maxRecDepth 100000 in
/-- One of a list of texts is drawn; the list lies in block p. -/
theorem pick_any (base g ca p : Nat) (ao : Option Addr) (xs : List Int) (zs : List ByteArray) (w : World) (hB : base ≤ w.heap.size) (hp : p ≠ g) (hz : 1 ≤ zs.length) (hz2 : zs.length ≤ 256) (hc : ∀ k, k < zs.length → w.cell? ⟨p, k, none⟩ = some (.string (zs.getD k ByteArray.empty))) (h : Cur w base g ao ca xs) :
    Calls Try.prog 86 #[.pointer (some ⟨g, 0, none⟩), .slice (some ⟨p, 0, none⟩) zs.length zs.length] w fun e w' => ∃ k : Nat, k < zs.length ∧ e = .returned (.string (zs.getD k ByteArray.empty)) ∧ Cur w' base g ao ca xs ∧ w.grownBy w' (some g) := by
  have HC := hide (below_any base g ca ao xs zs.length w hB (by omega) (by omega) h)
  have HD := hide hc
  clear h hc
  go_enter Try.func86, Try.ntmps86
  go_wp2_with fail
  refine (unhide HC).mono ?_
  rintro e w' ⟨x, rfl, h0, h1, hcur, hg⟩
  obtain ⟨k, rfl⟩ := Int.eq_ofNat_of_zero_le h0
  have hk : k < zs.length := by omega
  have hcell : w'.cell? ⟨p, k, none⟩ = some (.string (zs.getD k ByteArray.empty)) := by
    have h1 := unhide HD k hk
    exact hg.cell h1 (by simp [hp])
  obtain ⟨z, hz'⟩ : ∃ z, zs.getD k ByteArray.empty = z := ⟨_, rfl⟩
  rw [hz'] at hcell
  have HZ := hide hz'
  clear hz'
  go_wp2
  go_ret
  have hz'' := unhide HZ
  subst hz''
  exact ⟨k, hk, rfl, hcur, hg⟩

theorem new_cur (ao : Option Addr) (ca : Nat) (xs : List Int) (z : Int) (w : World) (hl : xs.length ≤ 1048576)
    (h : xs = [] ∨ ∃ b off, ao = some ⟨b, off, none⟩ ∧ ∀ k, k < xs.length → w.cell? ⟨b, off + k, none⟩ = some (.int .u8 (xs.getD k 0))) (hb : ∀ k, k < xs.length → 0 ≤ xs.getD k 0 ∧ xs.getD k 0 ≤ 255) :
    Cur (w.alloc (.cells #[.slice ao xs.length ca, .int .i64 0, .int .i64 z] 65)) w.heap.size w.heap.size ao ca xs := by
  refine ⟨Nat.le_refl _, by omega, ⟨0, z, heap_alloc_new w _, by omega, by omega⟩, ?_⟩
  rcases h with h | ⟨b, off, rfl, hx⟩
  · exact .inl h
  · by_cases h0 : xs = []
    · exact .inl h0
    · have hpos : 0 < xs.length := List.length_pos_iff.2 h0
      have hlt : b < w.heap.size := cell_lt (hx 0 hpos)
      refine .inr ⟨b, off, hlt, rfl, fun k hk => ⟨?_, hb k hk⟩⟩
      rw [((Below.refl w.heap.size w).alloc (Nat.le_refl _) _).cell (p := ⟨b, off + k, none⟩) hlt]
      exact hx k hk

set_option maxHeartbeats 800000 in
set_option maxRecDepth 100000 in
/-- A new cursor. -/
theorem new_any (ao : Option Addr) (ca : Nat) (xs : List Int) (w : World) (hl : xs.length ≤ 1048576)
    (h : xs = [] ∨ ∃ b off, ao = some ⟨b, off, none⟩ ∧ ∀ k, k < xs.length → w.cell? ⟨b, off + k, none⟩ = some (.int .u8 (xs.getD k 0))) (hb : ∀ k, k < xs.length → 0 ≤ xs.getD k 0 ∧ xs.getD k 0 ≤ 255) :
    Calls Try.prog 22 #[.slice ao xs.length ca] w fun e w' => e = .returned (.pointer (some ⟨w.heap.size, 0, none⟩)) ∧ Cur w' w.heap.size w.heap.size ao ca xs ∧ Below w.heap.size w w' := by
  obtain ⟨n, hn⟩ : ∃ n, xs.length = n := ⟨_, rfl⟩
  have Hn := hide hn
  rw [hn] at hl h hb ⊢
  clear hn
  go_enter Try.func22, Try.ntmps22
  go_wp2
  go_loop [3, 4] (fun y i => ∃ (k : Nat) (z : Int), k ≤ n ∧ y = .int .i64 z ∧ i = .int .i64 k) (fun _ i => n - (intOf i).toNat)
  case atStart => exact ⟨0, _, by omega, rfl, rfl⟩
  case round =>
    obtain ⟨k, z, hk, rfl, rfl⟩ := hrel
    by_cases hlt : k < n
    · by_cases h4 : k < 4000
      · rcases h with rfl | ⟨b, off, rfl, hx⟩
        · have := unhide Hn; simp at this; omega
        have hc := hx k hlt
        have hbd := hb k hlt
        clear hx hb
        generalize xs.getD k 0 = d at *
        go_wp2
        go_round
        case rel => exact ⟨k + 1, _, by omega, rfl, by go_num⟩
        case measure => simp [intOf]; omega
      · have hd4 : decide ((k : Int) < 4000) = false := by simp; omega
        have HX := hide h
        have HB := hide hb
        clear h hb
        have HN := fun z => hide (new_cur ao ca xs z w (by rw [unhide Hn]; exact hl) (by rw [unhide Hn]; exact unhide HX) (by rw [unhide Hn]; exact unhide HB))
        rw [unhide Hn] at HN
        go_wp2
        go_ret
        exact ⟨rfl, unhide (HN z), (Below.refl _ _).alloc (Nat.le_refl _) _⟩
    · have hd : decide ((k : Int) < (n : Int)) = false := by simp; omega
      have HN := fun z => hide (new_cur ao ca xs z w (by rw [unhide Hn]; exact hl) (by rw [unhide Hn]; exact h) (by rw [unhide Hn]; exact hb))
      rw [unhide Hn] at HN
      clear h hb
      go_wp2
      go_ret
      exact ⟨rfl, unhide (HN z), (Below.refl _ _).alloc (Nat.le_refl _) _⟩
end Go.Proofs.Ytehdchpolgihlaa

/- The draws of chapter 1 that answer one number or one text. -/
namespace Go.Proofs.Ytehdchpolgihlaa
open Go.RowKit

theorem lit_ints (w : World) (t : TypeId) (zs : List Int) (k : Nat) (hk : k < zs.length) : (w.alloc (.cells (zs.map (Value.int .i64)).toArray t)).cell? ⟨w.heap.size, k, none⟩ = some (.int .i64 (zs.getD k 0)) := by
  rw [cell_of_row _ w.heap.size k _ t (0, 0) (heap_alloc_new w _)]
  simp [List.getElem?_eq_getElem hk]
theorem lit_texts (w : World) (t : TypeId) (zs : List ByteArray) (k : Nat) (hk : k < zs.length) : (w.alloc (.cells (zs.map Value.string).toArray t)).cell? ⟨w.heap.size, k, none⟩ = some (.string (zs.getD k ByteArray.empty)) := by
  rw [cell_of_row _ w.heap.size k _ t (0, 0) (heap_alloc_new w _)]
  simp [List.getElem?_eq_getElem hk]
theorem Cur.alloc {w : World} {base g ca : Nat} {ao : Option Addr} {xs : List Int} (h : Cur w base g ao ca xs) (hB : base ≤ w.heap.size) (o : Obj) : Cur (w.alloc o) base g ao ca xs := by
  have hg : g < w.heap.size := by
    obtain ⟨i, hh, hc, _⟩ := h.cells
    exact (Array.getElem?_eq_some_iff.1 hc).1
  have hb : Below w.heap.size w (w.alloc o) := (Below.refl _ _).alloc (Nat.le_refl _) o
  refine ⟨h.low, h.len, ?_, ?_⟩
  · obtain ⟨i, hh, hc, h0, h1⟩ := h.cells
    exact ⟨i, hh, (hb.block g hg).trans hc, h0, h1⟩
  · rcases h.code with h' | ⟨b, off, hbb, ha, hx⟩
    · exact .inl h'
    · exact .inr ⟨b, off, hbb, ha, fun k hk => ⟨(hb.cell (p := ⟨b, off + k, none⟩) (by show b < _; omega)).trans (hx k hk).1, (hx k hk).2⟩⟩

/-- The code that is drawn from. -/
structure DCode (w : World) (ao : Option Addr) (xs : List Int) : Prop where
  len : xs.length ≤ 1048576
  code : xs = [] ∨ ∃ b off, ao = some ⟨b, off, none⟩ ∧ ∀ k, k < xs.length → w.cell? ⟨b, off + k, none⟩ = some (.int .u8 (xs.getD k 0))
  fit : ∀ k, k < xs.length → 0 ≤ xs.getD k 0 ∧ xs.getD k 0 ≤ 255
theorem DCode.below {w w' : World} {B : Nat} {ao : Option Addr} {xs : List Int} (h : DCode w ao xs) (hb : Below B w w') (hB : w.heap.size ≤ B) : DCode w' ao xs := by
  refine ⟨h.len, ?_, h.fit⟩
  rcases h.code with h' | ⟨b, off, ha, hx⟩
  · exact .inl h'
  · exact .inr ⟨b, off, ha, fun k hk => (hb.cell (Nat.lt_of_lt_of_le (cell_lt (hx k hk)) hB)).trans (hx k hk)⟩

theorem pickInt_lit (base g ca : Nat) (ao : Option Addr) (xs zs : List Int) (w : World) (hB : base ≤ w.heap.size) (hz : 1 ≤ zs.length) (hz2 : zs.length ≤ 256) (h : Cur w base g ao ca xs) :
    Calls Try.prog 62 #[.pointer (some ⟨g, 0, none⟩), .slice (some ⟨w.heap.size, 0, none⟩) zs.length zs.length] (w.alloc (.cells (zs.map (Value.int .i64)).toArray 3)) fun e w' =>
      ∃ x : Int, e = .returned (.int .i64 x) ∧ x ∈ zs ∧ Cur w' base g ao ca xs ∧ w.grownBy w' (some g) := by
  have hg : g < w.heap.size := by
    obtain ⟨i, hh, hc, _⟩ := h.cells
    exact (Array.getElem?_eq_some_iff.1 hc).1
  refine (pickInt_any base g ca w.heap.size ao xs zs _ (by simp; omega) (by omega) hz hz2 (fun k hk => lit_ints w _ zs k hk) (h.alloc hB _)).mono ?_
  rintro e w' ⟨k, hk, rfl, hc, hgr⟩
  refine ⟨_, rfl, ?_, hc, grown_trans (World.grownBy_alloc w _ _) hgr⟩
  rw [List.getD_eq_getElem?_getD, List.getElem?_eq_getElem hk]
  exact List.getElem_mem hk
theorem pick_lit (base g ca : Nat) (ao : Option Addr) (xs : List Int) (zs : List ByteArray) (w : World) (hB : base ≤ w.heap.size) (hz : 1 ≤ zs.length) (hz2 : zs.length ≤ 256) (h : Cur w base g ao ca xs) :
    Calls Try.prog 86 #[.pointer (some ⟨g, 0, none⟩), .slice (some ⟨w.heap.size, 0, none⟩) zs.length zs.length] (w.alloc (.cells (zs.map Value.string).toArray 9)) fun e w' =>
      ∃ x : ByteArray, e = .returned (.string x) ∧ x ∈ zs ∧ Cur w' base g ao ca xs ∧ w.grownBy w' (some g) := by
  have hg : g < w.heap.size := by
    obtain ⟨i, hh, hc, _⟩ := h.cells
    exact (Array.getElem?_eq_some_iff.1 hc).1
  refine (pick_any base g ca w.heap.size ao xs zs _ (by simp; omega) (by omega) hz hz2 (fun k hk => lit_texts w _ zs k hk) (h.alloc hB _)).mono ?_
  rintro e w' ⟨k, hk, rfl, hc, hgr⟩
  refine ⟨_, rfl, ?_, hc, grown_trans (World.grownBy_alloc w _ _) hgr⟩
  rw [List.getD_eq_getElem?_getD, List.getElem?_eq_getElem hk]
  exact List.getElem_mem hk
theorem cur_below {w w' : World} {g : Nat} (hg : w.grownBy w' (some g)) {a : World} {B : Nat} (hb : Below B a w) (hB : B ≤ w.heap.size) (hlow : B ≤ g) : Below B a w' :=
  hb.grown hg hB (fun k hk => by simp at hk; omega)

def putNums : List Int := [0, 1, 127, 128, 300, 16384, 2147483647, 2147483648, -1, 9223372036854775807]
def digNums : List Int := [0, 7, -12, 100000, 9223372036854775807, -9223372036854775808]
def putTexts : List ByteArray := [⟨#[]⟩, ⟨#[97]⟩, ⟨#[116, 119, 111, 32, 119, 111, 114, 100, 115]⟩, ⟨#[0, 255]⟩]
def numTexts : List ByteArray := [⟨#[48]⟩, ⟨#[55]⟩, ⟨#[57, 57, 57, 57, 57, 57]⟩, ⟨#[49, 48, 48, 48, 48, 48, 48]⟩, ⟨#[48, 49]⟩, ⟨#[]⟩, ⟨#[45, 49]⟩, ⟨#[120]⟩, ⟨#[49, 50, 97]⟩]

def splitTexts : List ByteArray := [⟨#[]⟩, ⟨#[97]⟩, ⟨#[97, 44, 98]⟩, ⟨#[44]⟩, ⟨#[97, 44, 44, 98, 44]⟩, ⟨#[97, 47, 98, 44, 99, 47]⟩]
end Go.Proofs.Ytehdchpolgihlaa

/- spec.l1In: whether a number lies between two. -/
namespace Go.Proofs.Ytehdchpolgihlaa
open Go.RowKit

set_option maxHeartbeats 800000 in
set_option maxRecDepth 100000 in
theorem in_yes (x lo hi : Int) (w : World) (h1 : lo ≤ x) (h2 : x ≤ hi) : Calls Try.prog 70 #[.int .i64 x, .int .i64 lo, .int .i64 hi] w fun e w' => e = .returned (.bool true) ∧ w' = w := by
  go_enter Try.func70, Try.ntmps70
  go_wp2
  go_ret
  exact ⟨rfl, rfl⟩

set_option maxHeartbeats 800000 in
set_option maxRecDepth 100000 in
theorem in_no (x lo hi : Int) (w : World) (h : x < lo ∨ hi < x) : Calls Try.prog 70 #[.int .i64 x, .int .i64 lo, .int .i64 hi] w fun e w' => e = .returned (.bool false) ∧ w' = w := by
  by_cases h1 : lo ≤ x
  · have h2 : ¬ x ≤ hi := by omega
    clear h
    go_enter Try.func70, Try.ntmps70
    go_wp2
    go_ret
    exact ⟨rfl, rfl⟩
  · have hd : decide (lo ≤ x) = false := by simpa using h1
    clear h
    go_enter Try.func70, Try.ntmps70
    go_wp2
    go_ret
    exact ⟨rfl, rfl⟩
end Go.Proofs.Ytehdchpolgihlaa

/- The plain mathematics of PutNum: seven bits a byte, the low ones first. Nothing of the program. -/
namespace Go.Proofs.Ytehdchpolgihlaa

/-- The bytes of n, at most f + 1 of them. -/
def put : Nat → Nat → List Int
  | 0, n => [(n : Int)]
  | f + 1, n => if n ≤ 127 then [(n : Int)] else ((n : Int) % 128 + 128) :: put f (n / 128)
theorem put_small (f n : Nat) (h : n ≤ 127) : put f n = [(n : Int)] := by cases f <;> simp [put, h]
theorem put_great (f n : Nat) (h : 127 < n) : put (f + 1) n = ((n : Int) % 128 + 128) :: put f (n / 128) := by simp [put]; omega
theorem put_len (f n : Nat) : (put f n).length ≤ f + 1 ∧ 0 < (put f n).length := by
  induction f generalizing n with
  | zero => simp [put]
  | succ f ih => by_cases h : n ≤ 127
                 · simp [put, h]
                 · simp [put, h]; have := (ih (n / 128)).1; omega

/-- What PutNum answers. -/
def putAns (n : Int) : List Int := if 0 ≤ n ∧ n ≤ 2147483647 then put 4 n.toNat else []
theorem putAns_yes (n : Nat) (h : n ≤ 2147483647) : putAns n = put 4 n := by unfold putAns; rw [if_pos (by omega), Int.toNat_natCast]
theorem putAns_no (n : Int) (h : n < 0 ∨ 2147483647 < n) : putAns n = [] := by unfold putAns; rw [if_neg (by omega)]
theorem putAns_len (n : Int) : (putAns n).length ≤ 5 := by
  unfold putAns; split
  · exact (put_len 4 _).1
  · simp

/-- Where a loop over n stands: behind the bytes 'done', with m left. -/
def At (n : Nat) (f m : Nat) (done : List Int) : Prop := done ++ put f m = put 4 n ∧ m < 128 ^ (f + 1) ∧ done.length + f = 4
theorem at_start (n : Nat) (h : n ≤ 2147483647) : At n 4 n [] := ⟨by simp, by omega, rfl⟩
theorem at_step {n f m : Nat} {done : List Int} (h : At n f m done) (hm : 127 < m) : ∃ f', f = f' + 1 ∧ At n f' (m / 128) (done ++ [(m : Int) % 128 + 128]) := by
  obtain ⟨h1, h2, h3⟩ := h
  cases f with
  | zero => simp at h2; omega
  | succ f =>
    refine ⟨f, rfl, ?_, ?_, ?_⟩
    · rw [put_great f m hm] at h1; simpa using h1
    · rw [Nat.pow_succ] at h2; exact Nat.div_lt_of_lt_mul (by rw [Nat.mul_comm]; exact h2)
    · simp; omega
theorem at_end {n f m : Nat} {done : List Int} (h : At n f m done) (hm : m ≤ 127) : done ++ [(m : Int)] = put 4 n := by
  have := h.1; rwa [put_small f m hm] at this
end Go.Proofs.Ytehdchpolgihlaa

/- What spec.PutNum and impl.PutNum answer: one and the same list of bytes, in memory of its own. -/
namespace Go.Proofs.Ytehdchpolgihlaa
open Go.RowKit

/-- One byte more behind what is owned. -/
theorem own_more {B : Nat} {w wr w1 : World} {v v' : Value} {o : Obj} {xs : List Int} {c : Int} (hB : B ≤ wr.heap.size) (ho : wr.ownsRow B 5 1 v xs.length (xs.map (Value.int .u8))) (hb : Below B w wr)
    (ho' : w1.ownsRow B 5 1 v' (xs.length + 1) (xs.map (Value.int .u8) ++ [.int .u8 c])) (hg : (wr.alloc o).grownBy w1 v.ownBlock) :
    w1.ownsRow B 5 1 v' (xs ++ [c]).length ((xs ++ [c]).map (Value.int .u8)) ∧ Below B w w1 :=
  ⟨by simpa using ho', (hb.alloc hB o).grown hg (by simp; omega) (fun j hj => (ho.lt j hj).1)⟩

end Go.Proofs.Ytehdchpolgihlaa

/- What spec.PutText and impl.PutText answer. -/
namespace Go.Proofs.Ytehdchpolgihlaa
open Go.RowKit

/-- The bytes of a text. -/
def bs (s : ByteArray) : List Int := s.data.toList.map fun b => (b.toNat : Int)
theorem bs_len (s : ByteArray) : (bs s).length = s.size := by rw [bs, List.length_map, Array.length_toList]; rfl
theorem bs_cells (s : ByteArray) : (bs s).map (Value.int .u8) = Lib.strCells s := by simp [bs, Lib.strCells]
/-- What PutText answers of a text that is not too long. -/
def textAns (s : ByteArray) : List Int := put 4 s.size ++ bs s
theorem textAns_len (s : ByteArray) : (textAns s).length = (put 4 s.size).length + s.size := by rw [textAns, List.length_append, bs_len]

theorem news_cells (w : World) (s : ByteArray) (cap : Nat) (e : TypeId) (fr : Nat × Nat) (j : Nat) (u : Value) (h : (Lib.strCells s)[j]? = some u) :
    (w.alloc (.cells (bytesRow s cap) e fr)).cell? ((⟨w.heap.size, 0, none⟩ : Addr).add j) = some u := by
  have hj : j < s.data.size := by
    have := (List.getElem?_eq_some_iff.1 h).1; simpa [Lib.strCells] using this
  have h1 := bytesRow_at s cap j hj
  have h2 : u = .int .u8 (s.data[j].toNat : Int) := by
    rw [Lib.strCells, List.getElem?_map, Array.getElem?_toList, Array.getElem?_eq_getElem hj] at h
    simpa using h.symm
  subst h2
  rw [show ((⟨w.heap.size, 0, none⟩ : Addr).add j) = ⟨w.heap.size, j, none⟩ from by unfold Addr.add; split <;> simp_all]
  rw [cell_of_row _ w.heap.size j _ e fr (heap_alloc_new w _)]
  exact h1
theorem news_plain (s : ByteArray) (u : Value) (h : u ∈ Lib.strCells s) : u.oneCell' = true := by
  simp [Lib.strCells] at h; obtain ⟨a, _, rfl⟩ := h; rfl

/-- A text behind what is owned. -/
theorem own_text {B : Nat} {w wr w1 : World} {v v' : Value} {xs : List Int} {s : ByteArray} (hB : B ≤ wr.heap.size) (ho : wr.ownsRow B 5 1 v xs.length (xs.map (Value.int .u8))) (hb : Below B w wr)
    (ho' : w1.ownsRow B 5 1 v' (xs.length + s.size) (xs.map (Value.int .u8) ++ Lib.strCells s)) (hg : wr.grownBy w1 v.ownBlock) :
    OB w1 B v' (xs ++ bs s) ∧ Below B w w1 := by
  refine ⟨?_, hb.grown hg hB (fun j hj => (ho.lt j hj).1)⟩
  unfold OB
  rw [List.length_append, bs_len, List.map_append, bs_cells]
  exact ho'

end Go.Proofs.Ytehdchpolgihlaa

/- spec.l1DrawNums, DrawGetNum and DrawGetText. -/
namespace Go.Proofs.Ytehdchpolgihlaa
open Go.RowKit

/-- Each of a list is a byte. -/
def BytesL (ys : List Int) : Prop := ∀ y ∈ ys, 0 ≤ y ∧ y ≤ 255
theorem bytes_nil : BytesL [] := fun y hy => by cases hy
theorem BytesL.append {a b : List Int} (ha : BytesL a) (hb : BytesL b) : BytesL (a ++ b) := fun y hy => by
  rcases List.mem_append.1 hy with h | h
  · exact ha y h
  · exact hb y h
theorem BytesL.get {ys : List Int} (h : BytesL ys) : ∀ k, k < ys.length → 0 ≤ ys.getD k 0 ∧ ys.getD k 0 ≤ 255 := fun k hk => by
  rw [List.getD_eq_getElem?_getD, List.getElem?_eq_getElem hk]; exact h _ (List.getElem_mem hk)
theorem put_bytes (f n : Nat) (h : n < 128 ^ (f + 1)) : BytesL (put f n) := by
  induction f generalizing n with
  | zero => intro y hy; simp [put] at hy; simp at h; omega
  | succ f ih =>
    by_cases hn : n ≤ 127
    · intro y hy; rw [put_small (f + 1) n hn] at hy; simp at hy; omega
    · rw [put_great f n (by omega)]
      intro y hy
      rcases List.mem_cons.1 hy with rfl | hy
      · omega
      · exact ih (n / 128) (by rw [Nat.pow_succ] at h; exact Nat.div_lt_of_lt_mul (by rw [Nat.mul_comm]; exact h)) y hy
theorem putAns_bytes (n : Int) : BytesL (putAns n) := by
  unfold putAns
  split
  · exact put_bytes 4 _ (by omega)
  · intro y hy; cases hy

theorem OB.grown {w w' : World} {base g : Nat} {v : Value} {xs : List Int} (h : OB w base v xs) (hg : w.grownBy w' (some g)) (hlt : g < base) : OB w' base v xs :=
  World.ownsRow.kept h hg (by
    cases hv : v.ownBlock with
    | none => exact .inl rfl
    | some k => exact .inr fun e => by have := (World.ownsRow.lt h k hv).1; simp at e; omega)
theorem Cur.lt {w : World} {base g ca : Nat} {ao : Option Addr} {xs : List Int} (h : Cur w base g ao ca xs) : g < w.heap.size := by
  obtain ⟨i, hh, hc, _⟩ := h.cells
  exact (Array.getElem?_eq_some_iff.1 hc).1
theorem Cur.below {w w' : World} {base g ca : Nat} {ao : Option Addr} {xs : List Int} (h : Cur w base g ao ca xs) (hB : base ≤ w.heap.size) (hb : Below w.heap.size w w') : Cur w' base g ao ca xs := by
  have hg := h.lt
  refine ⟨h.low, h.len, ?_, ?_⟩
  · obtain ⟨i, hh, hc, h0, h1⟩ := h.cells
    exact ⟨i, hh, (hb.block g hg).trans hc, h0, h1⟩
  · rcases h.code with h' | ⟨b, off, hbb, ha, hx⟩
    · exact .inl h'
    · exact .inr ⟨b, off, hbb, ha, fun k hk => ⟨(hb.cell (p := ⟨b, off + k, none⟩) (by show b < _; omega)).trans (hx k hk).1, (hx k hk).2⟩⟩
theorem grown_below {w w' : World} (h : Below w.heap.size w w') (row : Option Nat) : w.grownBy w' row := ⟨h.os, h.tape, h.output, h.size, fun k hk _ => h.block k hk⟩
/-- A write into a row that was not there leaves what was. -/
theorem grown_new {a b c : World} {row row' : Option Nat} (h : a.grownBy b row) (k : b.grownBy c row') (hr : ∀ j, row' = some j → a.heap.size ≤ j) : a.grownBy c row :=
  ⟨k.os.trans h.os, k.tape.trans h.tape, k.output.trans h.output, Nat.le_trans h.size k.size, fun i hi hne => (k.block i (Nat.lt_of_lt_of_le hi h.size) (fun e => by have := hr i e.symm; omega)).trans (h.block i hi hne)⟩
theorem Cur.grownNew {w w' : World} {base g ca : Nat} {ao : Option Addr} {xs : List Int} {row : Option Nat} (h : Cur w base g ao ca xs) (hg : w.grownBy w' row) (hr : ∀ j, row = some j → g < j) : Cur w' base g ao ca xs := by
  have hlt := h.lt
  have hlow := h.low
  refine ⟨h.low, h.len, ?_, ?_⟩
  · obtain ⟨i, hh, hc, h0, h1⟩ := h.cells
    exact ⟨i, hh, (hg.block g hlt (fun e => by have := hr g e.symm; omega)).trans hc, h0, h1⟩
  · rcases h.code with h' | ⟨b, off, hbb, ha, hx⟩
    · exact .inl h'
    · refine .inr ⟨b, off, hbb, ha, fun k hk => ⟨?_, (hx k hk).2⟩⟩
      rw [World.cell?_of_block (w := w) (hg.block b (by omega) (fun e => by have := hr b e.symm; omega))]
      exact (hx k hk).1

/-- What a list that is drawn leaves. -/
def ListEnd (w : World) (base g ca : Nat) (ao : Option Addr) (xs : List Int) (v : Value) (ys : List Int) (w' : World) : Prop :=
  OB w' w.heap.size v ys ∧ BytesL ys ∧ Cur w' base g ao ca xs ∧ w.grownBy w' (some g)

theorem ints_plain (ys : List Int) (u : Value) (h : u ∈ ys.map (Value.int .u8)) : u.oneCell' = true := by simp at h; obtain ⟨a, _, rfl⟩ := h; rfl
/-- A list behind a list that is drawn. -/
theorem list_app {w w3 w4 : World} {base g ca : Nat} {ao : Option Addr} {xs : List Int} {v v' : Value} {ys zs : List Int} (hlt : g < w.heap.size) (ho : OB w3 w.heap.size v ys) (hy : BytesL ys) (hz : BytesL zs) (hc : Cur w3 base g ao ca xs) (hg : w.grownBy w3 (some g))
    (ho' : w4.ownsRow w.heap.size 5 1 v' (ys.length + zs.length) (ys.map (Value.int .u8) ++ zs.map (Value.int .u8))) (hg' : w3.grownBy w4 v.ownBlock) : ListEnd w base g ca ao xs v' (ys ++ zs) w4 := by
  have hlow : ∀ j, v.ownBlock = some j → w.heap.size ≤ j := fun j hj => (World.ownsRow.lt ho j hj).1
  refine ⟨?_, hy.append hz, hc.grownNew hg' (fun j hj => by have := hlow j hj; omega), grown_new hg hg' hlow⟩
  unfold OB
  rw [List.length_append, List.map_append]
  exact ho'
theorem some_ne (a : Addr) (n c : Nat) : Value.slice (some a) n c ≠ .slice none 0 0 := by simp
theorem two_cells (w : World) (x y : Value) (t : TypeId) (j : Nat) (u : Value) (h : [x, y][j]? = some u) : (w.alloc (.cells #[x, y] t)).cell? ((⟨w.heap.size, 0, none⟩ : Addr).add j) = some u := by
  match j, h with
  | 0, h => simp at h; subst h; simp [Addr.add]
  | 1, h => simp at h; subst h; simp [Addr.add]

end Go.Proofs.Ytehdchpolgihlaa

/- TxOk of the program and of the specification; toTx. -/
namespace Go.Proofs.Ytehdchpolgihlaa
open Go.RowKit
set_option linter.unusedSectionVars false

/-- Whether a payment of these four numbers is right. -/
def Ok4 (a b c d : Int) : Prop := (0 ≤ a ∧ a ≤ 3) ∧ (0 ≤ b ∧ b ≤ 3) ∧ (0 ≤ c ∧ c ≤ 1000) ∧ (0 ≤ d ∧ d ≤ 99)
variable [∀ (a b c d : Int), Decidable (Ok4 a b c d)]
/-- A payment as a value. -/
abbrev txv (a b c d : Int) : Value := .agg #[.int .i64 a, .int .i64 b, .int .i64 c, .int .i64 d]

set_option maxHeartbeats 1600000 in
set_option maxRecDepth 100000 in
theorem specTxOk_yes (a b c d : Int) (w : World) (h : Ok4 a b c d) :
    Calls Try.prog 80 #[txv a b c d] w fun e w' => e = .returned (.bool true) ∧ Below w.heap.size w w' := by
  obtain ⟨⟨a1, a2⟩, ⟨b1, b2⟩, ⟨c1, c2⟩, ⟨d1, d2⟩⟩ := h
  go_enter Try.func80, Try.ntmps80
  go_wp2_with (first | (go_at_call 70; refine (in_yes _ _ _ _ (by omega) (by omega)).mono ?_; rintro e w' ⟨rfl, rfl⟩))
  go_ret
  exact ⟨rfl, (Below.refl _ _).alloc (Nat.le_refl _) _⟩

set_option maxHeartbeats 1600000 in
set_option maxRecDepth 100000 in
theorem specTxOk_no (a b c d : Int) (w : World) (h : ¬ Ok4 a b c d) :
    Calls Try.prog 80 #[txv a b c d] w fun e w' => e = .returned (.bool false) ∧ Below w.heap.size w w' := by
  by_cases ha : 0 ≤ a ∧ a ≤ 3
  · obtain ⟨a1, a2⟩ := ha
    by_cases hb : 0 ≤ b ∧ b ≤ 3
    · obtain ⟨b1, b2⟩ := hb
      by_cases hc : 0 ≤ c ∧ c ≤ 1000
      · obtain ⟨c1, c2⟩ := hc
        have hd : d < 0 ∨ 99 < d := by unfold Ok4 at h; omega
        clear h
        go_enter Try.func80, Try.ntmps80
        go_wp2_with (first | (go_at_call 70; refine (in_yes _ _ _ _ (by omega) (by omega)).mono ?_; rintro e w' ⟨rfl, rfl⟩) | (go_at_call 70; refine (in_no _ _ _ _ (by omega)).mono ?_; rintro e w' ⟨rfl, rfl⟩))
        go_ret
        exact ⟨rfl, (Below.refl _ _).alloc (Nat.le_refl _) _⟩
      · have hc' : c < 0 ∨ 1000 < c := by omega
        clear h hc
        go_enter Try.func80, Try.ntmps80
        go_wp2_with (first | (go_at_call 70; refine (in_yes _ _ _ _ (by omega) (by omega)).mono ?_; rintro e w' ⟨rfl, rfl⟩) | (go_at_call 70; refine (in_no _ _ _ _ (by omega)).mono ?_; rintro e w' ⟨rfl, rfl⟩))
        go_ret
        exact ⟨rfl, (Below.refl _ _).alloc (Nat.le_refl _) _⟩
    · have hb' : b < 0 ∨ 3 < b := by omega
      clear h hb
      go_enter Try.func80, Try.ntmps80
      go_wp2_with (first | (go_at_call 70; refine (in_yes _ _ _ _ (by omega) (by omega)).mono ?_; rintro e w' ⟨rfl, rfl⟩) | (go_at_call 70; refine (in_no _ _ _ _ (by omega)).mono ?_; rintro e w' ⟨rfl, rfl⟩))
      go_ret
      exact ⟨rfl, (Below.refl _ _).alloc (Nat.le_refl _) _⟩
  · have ha' : a < 0 ∨ 3 < a := by omega
    clear h ha
    go_enter Try.func80, Try.ntmps80
    go_wp2_with (first | (go_at_call 70; refine (in_yes _ _ _ _ (by omega) (by omega)).mono ?_; rintro e w' ⟨rfl, rfl⟩) | (go_at_call 70; refine (in_no _ _ _ _ (by omega)).mono ?_; rintro e w' ⟨rfl, rfl⟩))
    go_ret
    exact ⟨rfl, (Below.refl _ _).alloc (Nat.le_refl _) _⟩

theorem specTxOk (a b c d : Int) (w : World) :
    Calls Try.prog 80 #[txv a b c d] w fun e w' => e = .returned (.bool (decide (Ok4 a b c d))) ∧ Below w.heap.size w w' := by
  by_cases h : Ok4 a b c d
  · rw [decide_eq_true h]; exact specTxOk_yes a b c d w h
  · rw [decide_eq_false h]; exact specTxOk_no a b c d w h
end Go.Proofs.Ytehdchpolgihlaa

/- laws.toTx: the same payment. -/
namespace Go.Proofs.Ytehdchpolgihlaa
open Go.RowKit
set_option linter.unusedSectionVars false
variable [∀ (a b c d : Int), Decidable (Ok4 a b c d)]

/-- The four cells of a payment at block g. -/
def Cells4 (w : World) (g : Nat) (a b c d : Int) : Prop := w.cell? ⟨g, 0, none⟩ = some (.int .i64 a) ∧ w.cell? ⟨g, 1, none⟩ = some (.int .i64 b) ∧ w.cell? ⟨g, 2, none⟩ = some (.int .i64 c) ∧ w.cell? ⟨g, 3, none⟩ = some (.int .i64 d)
theorem cells4_new (w : World) (a b c d : Int) (t : TypeId) : Cells4 (w.alloc (.cells #[.int .i64 a, .int .i64 b, .int .i64 c, .int .i64 d] t)) w.heap.size a b c d := by
  refine ⟨?_, ?_, ?_, ?_⟩ <;> simp
theorem Cells4.below {w w' : World} {g B : Nat} {a b c d : Int} (h : Cells4 w g a b c d) (hb : Below B w w') (hg : g < B) : Cells4 w' g a b c d :=
  ⟨(hb.cell (p := ⟨g, 0, none⟩) hg).trans h.1, (hb.cell (p := ⟨g, 1, none⟩) hg).trans h.2.1, (hb.cell (p := ⟨g, 2, none⟩) hg).trans h.2.2.1, (hb.cell (p := ⟨g, 3, none⟩) hg).trans h.2.2.2⟩
end Go.Proofs.Ytehdchpolgihlaa

/- laws.eqTx of a payment with itself. -/
namespace Go.Proofs.Ytehdchpolgihlaa
open Go.RowKit
set_option linter.unusedSectionVars false
variable [∀ (a b c d : Int), Decidable (Ok4 a b c d)]

end Go.Proofs.Ytehdchpolgihlaa

/- Lists of payments in memory. -/
namespace Go.Proofs.Ytehdchpolgihlaa
open Go.RowKit
set_option linter.unusedSectionVars false
variable [∀ (a b c d : Int), Decidable (Ok4 a b c d)]

/-- A payment's four numbers. -/
abbrev T4 := Int × Int × Int × Int
def tcell (x : T4) : List Value := [.int .i64 x.1, .int .i64 x.2.1, .int .i64 x.2.2.1, .int .i64 x.2.2.2]
def tcells (xs : List T4) : List Value := xs.flatMap tcell
theorem tcell_len (x : T4) : (tcell x).length = 4 := rfl
theorem tcells_len (xs : List T4) : (tcells xs).length = xs.length * 4 := by
  induction xs with
  | nil => rfl
  | cons x xs ih => simp [tcells, tcell] at *; omega
theorem tcells_append (xs ys : List T4) : tcells (xs ++ ys) = tcells xs ++ tcells ys := by simp [tcells]
theorem tcells_get (xs : List T4) (k j : Nat) (hk : k < xs.length) (hj : j < 4) : (tcells xs)[k * 4 + j]? = (tcell (xs.getD k (0, 0, 0, 0)))[j]? := by
  induction xs generalizing k with
  | nil => simp at hk
  | cons x xs ih =>
    have e : tcells (x :: xs) = tcell x ++ tcells xs := by simp [tcells]
    rw [e]
    cases k with
    | zero => rw [Nat.zero_mul, Nat.zero_add, List.getElem?_append_left (by rw [tcell_len]; exact hj)]; rfl
    | succ k =>
      rw [List.getElem?_append_right (by rw [tcell_len]; omega), tcell_len, show (k + 1) * 4 + j - 4 = k * 4 + j from by omega, ih k (by simpa using hk)]
      rfl
/-- v is a list of the call's own, from block 'base' on, of the payments xs. -/
def OT (w : World) (base : Nat) (v : Value) (xs : List T4) : Prop := w.ownsRow base 97 4 v xs.length (tcells xs)
/-- v reads as the payments xs. -/
def RT (w : World) (v : Value) (xs : List T4) : Prop :=
  xs.length ≤ 35184372088832 ∧ ∃ ao cap, v = .slice ao xs.length cap ∧ (xs = [] ∨ ∃ g, ao = some ⟨g, 0, none⟩ ∧ ∀ k, k < xs.length → w.cell? ⟨g, k * 4, none⟩ = some (.int .i64 (xs.getD k (0, 0, 0, 0)).1) ∧ w.cell? ⟨g, k * 4 + 1, none⟩ = some (.int .i64 (xs.getD k (0, 0, 0, 0)).2.1) ∧ w.cell? ⟨g, k * 4 + 2, none⟩ = some (.int .i64 (xs.getD k (0, 0, 0, 0)).2.2.1) ∧ w.cell? ⟨g, k * 4 + 3, none⟩ = some (.int .i64 (xs.getD k (0, 0, 0, 0)).2.2.2))
theorem OT.below {w w' : World} {base : Nat} {v : Value} {xs : List T4} (h : OT w base v xs) (hb : Below w.heap.size w w') : OT w' base v xs :=
  World.ownsRow.kept (row := none) h ⟨hb.os, hb.tape, hb.output, hb.size, fun k hk _ => hb.block k hk⟩ (by cases v.ownBlock <;> simp)
theorem OT.apart {w w' : World} {base N : Nat} {v u : Value} {xs : List T4} (h : OT w base v xs) (hg : w.grownBy w' u.ownBlock) (hv : ∀ k, v.ownBlock = some k → k < N) (hu : ∀ k, u.ownBlock = some k → N ≤ k) : OT w' base v xs := by
  refine World.ownsRow.kept h hg ?_
  cases hv' : v.ownBlock with
  | none => exact .inl rfl
  | some k => exact .inr fun e => by have := hv k hv'; have := hu k e.symm; omega
theorem OT.rt {w : World} {base : Nat} {v : Value} {xs : List T4} (h : OT w base v xs) (hl : xs.length ≤ 35184372088832) : RT w v xs := by
  refine ⟨hl, ?_⟩
  rcases h.2 with ⟨rfl, h0⟩ | ⟨g, cap, cur, rfl, _⟩
  · exact ⟨none, 0, by rw [h0], .inl (List.length_eq_zero_iff.1 h0)⟩
  · refine ⟨_, cap, rfl, .inr ⟨g, rfl, fun k hk => ?_⟩⟩
    have c0 := World.ownsRow.cellAt h (k * 4 + 0) (by omega)
    have c1 := World.ownsRow.cellAt h (k * 4 + 1) (by omega)
    have c2 := World.ownsRow.cellAt h (k * 4 + 2) (by omega)
    have c3 := World.ownsRow.cellAt h (k * 4 + 3) (by omega)
    rw [tcells_get xs k _ hk (by omega)] at c0 c1 c2 c3
    exact ⟨c0, c1, c2, c3⟩
theorem RT.below {w w' : World} {v : Value} {xs : List T4} (h : RT w v xs) (hb : Below w.heap.size w w') : RT w' v xs := by
  obtain ⟨hl, ao, cap, rfl, h⟩ := h
  refine ⟨hl, ao, cap, rfl, ?_⟩
  rcases h with h | ⟨g, rfl, h⟩
  · exact .inl h
  · refine .inr ⟨g, rfl, fun k hk => ?_⟩
    obtain ⟨c0, c1, c2, c3⟩ := h k hk
    have hg : g < w.heap.size := cell_lt c0
    exact ⟨(hb.cell (p := ⟨g, k * 4, none⟩) hg).trans c0, (hb.cell (p := ⟨g, k * 4 + 1, none⟩) hg).trans c1, (hb.cell (p := ⟨g, k * 4 + 2, none⟩) hg).trans c2, (hb.cell (p := ⟨g, k * 4 + 3, none⟩) hg).trans c3⟩

end Go.Proofs.Ytehdchpolgihlaa

/- The plain mathematics of Number. Nothing of the program. -/
namespace Go.Proofs.Ytehdchpolgihlaa

theorem decFrom_append (l r : List UInt8) (acc : Nat) : Lib.decFrom acc (l ++ r) = (Lib.decFrom acc l).bind fun a => Lib.decFrom a r := by
  induction l generalizing acc with
  | nil => rfl
  | cons b l ih =>
    rw [List.cons_append, Lib.decFrom, Lib.decFrom]
    cases Lib.digitVal b with
    | none => rfl
    | some d => exact ih _
theorem digit_ofNat (k : Nat) (h : k < 10) : Lib.digitVal (UInt8.ofNat (48 + k)) = some k := by
  have e : (UInt8.ofNat (48 + k)).toNat = 48 + k := by simp; omega
  rw [Lib.digitVal, if_pos (by omega), e]; congr 1; omega
theorem decFrom_digits (n : Nat) : Lib.decFrom 0 (Lib.decDigits n) = some n := by
  induction n using Nat.strongRecOn with
  | ind n ih =>
    rw [Lib.decDigits]
    by_cases h : n < 10
    · rw [dif_pos h]
      simp only [Lib.decFrom, digit_ofNat n h]; simp
    · rw [dif_neg h, decFrom_append, ih (n / 10) (by omega)]
      simp only [Option.bind_some, Lib.decFrom, digit_ofNat (n % 10) (by omega)]
      congr 1; omega
theorem digits_ne (n : Nat) : Lib.decDigits n ≠ [] := by
  intro h
  have := Lib.decDigits_length n
  rw [h] at this
  have := Lib.nDigits_pos n
  simp at *; omega
theorem atoi_digits (n : Nat) : Lib.atoi (Lib.decDigits n) = some (n : Int) := by
  have hd := decFrom_digits n
  have hne := digits_ne n
  cases hl : Lib.decDigits n with
  | nil => exact absurd hl hne
  | cons b r =>
    rw [hl] at hd
    obtain ⟨d, hb⟩ := Lib.digit_of_decFrom (b :: r) 0 n hd 0 b rfl
    have hb' := Lib.digitVal_eq hb
    have h45 : (b == 45) = false := by
      rw [beq_eq_false_iff_ne]; intro e; subst e; simp at hb'
    have h43 : (b == 43) = false := by
      rw [beq_eq_false_iff_ne]; intro e; subst e; simp at hb'
    simp [Lib.atoi, h45, h43, Lib.decNat, hd]
theorem nDigits_six (n : Nat) (h : n ≤ 999999) : Lib.nDigits n ≤ 6 := by
  have step : ∀ m k, (m < 10 → 1 ≤ k) → (¬ m < 10 → Lib.nDigits (m / 10) + 1 ≤ k) → Lib.nDigits m ≤ k := by
    intro m k h1 h2
    by_cases hm : m < 10
    · rw [Lib.nDigits_small hm]; exact h1 hm
    · rw [Lib.nDigits_big hm]; exact h2 hm
  refine step _ _ (fun _ => by omega) fun _ => Nat.succ_le_of_lt (Nat.lt_of_le_of_lt (step _ 5 (fun _ => by omega) fun _ => Nat.succ_le_of_lt (Nat.lt_of_le_of_lt (step _ 4 (fun _ => by omega) fun _ => Nat.succ_le_of_lt (Nat.lt_of_le_of_lt (step _ 3 (fun _ => by omega) fun _ => Nat.succ_le_of_lt (Nat.lt_of_le_of_lt (step _ 2 (fun _ => by omega) fun _ => Nat.succ_le_of_lt (Nat.lt_of_le_of_lt (step _ 1 (fun _ => by omega) fun _ => ?_) (by omega))) (by omega))) (by omega))) (by omega))) (by omega))
  omega

/-- The number that a text is the numeral of. -/
def numOf (l : List UInt8) : Option Nat :=
  match Lib.decFrom 0 l with
  | some n => if n ≤ 999999 ∧ Lib.decDigits n = l then some n else none
  | none => none
theorem numOf_some {l : List UInt8} {n : Nat} (h : numOf l = some n) : n ≤ 999999 ∧ Lib.decDigits n = l := by
  unfold numOf at h
  cases hd : Lib.decFrom 0 l with
  | none => rw [hd] at h; cases h
  | some m =>
    rw [hd] at h
    by_cases hc : m ≤ 999999 ∧ Lib.decDigits m = l
    · simp only [if_pos hc, Option.some.injEq] at h; subst h; exact hc
    · simp only [if_neg hc] at h; cases h
theorem numOf_of {n : Nat} (h : n ≤ 999999) : numOf (Lib.decDigits n) = some n := by
  unfold numOf; rw [decFrom_digits]; simp [h]
theorem numOf_len {l : List UInt8} {n : Nat} (h : numOf l = some n) : 1 ≤ l.length ∧ l.length ≤ 6 := by
  obtain ⟨h1, rfl⟩ := numOf_some h
  rw [Lib.decDigits_length]
  exact ⟨Lib.nDigits_pos n, nDigits_six n h1⟩
theorem numOf_none_len {l : List UInt8} (h : l.length < 1 ∨ 6 < l.length) : numOf l = none := by
  cases hn : numOf l with
  | none => rfl
  | some n => have := numOf_len hn; omega
theorem numOf_none_dec {l : List UInt8} (h : Lib.decFrom 0 l = none) : numOf l = none := by unfold numOf; rw [h]
theorem numOf_none_byte {l : List UInt8} {k : Nat} {b : UInt8} (hk : l[k]? = some b) (hb : b.toNat < 48 ∨ 57 < b.toNat) : numOf l = none := by
  refine numOf_none_dec ?_
  cases hd : Lib.decFrom 0 l with
  | none => rfl
  | some n =>
    obtain ⟨d, h⟩ := Lib.digit_of_decFrom l 0 n hd k b hk
    have := Lib.digitVal_eq h
    omega
theorem numOf_yes {l : List UInt8} {n : Nat} (hd : Lib.decFrom 0 l = some n) (hn : n ≤ 999999) (h : Lib.decDigits n = l) : numOf l = some n := by unfold numOf; rw [hd]; simp [hn, h]
theorem numOf_no {l : List UInt8} {n : Nat} (hd : Lib.decFrom 0 l = some n) (h : Lib.decDigits n ≠ l) : numOf l = none := by unfold numOf; rw [hd]; simp [h]
theorem itoa_nat (n : Nat) : Lib.itoa (n : Int) = Lib.decDigits n := by rw [Lib.itoa, if_neg (by omega), Int.toNat_natCast]
/-- What Number answers. -/
def nans (r : Option Nat) : Int := match r with | some n => (n : Int) | none => 0
end Go.Proofs.Ytehdchpolgihlaa

/- The plain mathematics of payments as texts. Nothing of the program. -/
namespace Go.Proofs.Ytehdchpolgihlaa

/-- What stands ahead of the first m; what stands behind it (nothing, where there is none). -/
def hd (m : UInt8) (l : List UInt8) : List UInt8 := l.takeWhile (· != m)
def tl (m : UInt8) (l : List UInt8) : List UInt8 := (l.dropWhile (· != m)).tail
theorem hd_none {m : UInt8} {l : List UInt8} (h : m ∉ l) : hd m l = l := by
  unfold hd
  induction l with
  | nil => rfl
  | cons b l ih =>
    simp at h
    rw [List.takeWhile_cons_of_pos (by simp; exact fun e => h.1 e.symm), ih h.2]
theorem tl_none {m : UInt8} {l : List UInt8} (h : m ∉ l) : tl m l = [] := by
  unfold tl
  induction l with
  | nil => rfl
  | cons b l ih =>
    simp at h
    rw [List.dropWhile_cons_of_pos (by simp; exact fun e => h.1 e.symm)]; exact ih h.2
theorem hd_some {m : UInt8} {x y : List UInt8} (h : m ∉ x) : hd m (x ++ m :: y) = x := by
  unfold hd
  induction x with
  | nil => simp
  | cons b x ih =>
    simp at h
    rw [List.cons_append, List.takeWhile_cons_of_pos (by simp; exact fun e => h.1 e.symm), ih h.2]
theorem tl_some {m : UInt8} {x y : List UInt8} (h : m ∉ x) : tl m (x ++ m :: y) = y := by
  unfold tl
  induction x with
  | nil => simp
  | cons b x ih =>
    simp at h
    rw [List.cons_append, List.dropWhile_cons_of_pos (by simp; exact fun e => h.1 e.symm)]; exact ih h.2
theorem hd_tl {m : UInt8} {l : List UInt8} (h : tl m l ≠ []) : l = hd m l ++ m :: tl m l := by
  unfold hd tl at *
  induction l with
  | nil => simp at h
  | cons b l ih =>
    by_cases hb : b = m
    · subst hb; simp
    · rw [List.takeWhile_cons_of_pos (by simpa using hb), List.dropWhile_cons_of_pos (by simpa using hb), List.cons_append]
      rw [List.dropWhile_cons_of_pos (by simpa using hb)] at h
      rw [← ih h]

/-- The four fields of a text. -/
def f0 (l : List UInt8) : List UInt8 := hd 62 l
def f1 (l : List UInt8) : List UInt8 := hd 58 (tl 62 l)
def f2 (l : List UInt8) : List UInt8 := hd 35 (tl 58 (tl 62 l))
def f3 (l : List UInt8) : List UInt8 := tl 35 (tl 58 (tl 62 l))

/-- Four numbers that are right. -/
def okN (a b c d : Nat) : Prop := a ≤ 3 ∧ b ≤ 3 ∧ c ≤ 1000 ∧ d ≤ 99
/-- The bytes of a payment's text. -/
def txl (a b c d : Nat) : List UInt8 := Lib.decDigits a ++ 62 :: (Lib.decDigits b ++ 58 :: (Lib.decDigits c ++ 35 :: Lib.decDigits d))
/-- The payment of which l is the text. -/
def IsTx (l : List UInt8) (a b c d : Nat) : Prop := okN a b c d ∧ txl a b c d = l

theorem digit_mem {n : Nat} {x : UInt8} (h : x ∈ Lib.decDigits n) : 48 ≤ x.toNat ∧ x.toNat ≤ 57 := by
  obtain ⟨k, hk, e⟩ := List.mem_iff_getElem.1 h
  obtain ⟨d, hd⟩ := Lib.digit_of_decFrom (Lib.decDigits n) 0 n (decFrom_digits n) k x (by rw [List.getElem?_eq_getElem hk, e])
  have := Lib.digitVal_eq hd
  omega
theorem no_mark (n : Nat) (m : UInt8) (h : m.toNat < 48 ∨ 57 < m.toNat) : m ∉ Lib.decDigits n := fun hm => by
  have := digit_mem hm; omega

theorem fields_of {l : List UInt8} {a b c d : Nat} (h : IsTx l a b c d) : f0 l = Lib.decDigits a ∧ f1 l = Lib.decDigits b ∧ f2 l = Lib.decDigits c ∧ f3 l = Lib.decDigits d := by
  obtain ⟨_, rfl⟩ := h
  have h0 : (62 : UInt8) ∉ Lib.decDigits a := no_mark a 62 (by decide)
  have h1 : (58 : UInt8) ∉ Lib.decDigits b := no_mark b 58 (by decide)
  have h2 : (35 : UInt8) ∉ Lib.decDigits c := no_mark c 35 (by decide)
  unfold f0 f1 f2 f3 txl
  rw [hd_some h0, tl_some h0, hd_some h1, tl_some h1, hd_some h2, tl_some h2]
  exact ⟨rfl, rfl, rfl, rfl⟩
theorem nums_of {l : List UInt8} {a b c d : Nat} (h : IsTx l a b c d) : numOf (f0 l) = some a ∧ numOf (f1 l) = some b ∧ numOf (f2 l) = some c ∧ numOf (f3 l) = some d := by
  obtain ⟨e0, e1, e2, e3⟩ := fields_of h
  obtain ⟨⟨h0, h1, h2, h3⟩, _⟩ := h
  rw [e0, e1, e2, e3]
  exact ⟨numOf_of (by omega), numOf_of (by omega), numOf_of (by omega), numOf_of (by omega)⟩
theorem tl_nil (m : UInt8) : tl m [] = [] := rfl
theorem hd_nil (m : UInt8) : hd m [] = [] := rfl
theorem isTx_of {l : List UInt8} {a b c d : Nat} (h0 : numOf (f0 l) = some a) (h1 : numOf (f1 l) = some b) (h2 : numOf (f2 l) = some c) (h3 : numOf (f3 l) = some d) (hk : okN a b c d) : IsTx l a b c d := by
  refine ⟨hk, ?_⟩
  obtain ⟨_, e0⟩ := numOf_some h0
  obtain ⟨_, e1⟩ := numOf_some h1
  obtain ⟨_, e2⟩ := numOf_some h2
  obtain ⟨_, e3⟩ := numOf_some h3
  have n1 := digits_ne b
  have n2 := digits_ne c
  have n3 := digits_ne d
  unfold txl
  rw [e0, e1, e2, e3]
  rw [e1] at n1; rw [e2] at n2; rw [e3] at n3
  unfold f0 f1 f2 f3 at *
  have t0 : tl 62 l ≠ [] := fun e => n1 (by rw [e, hd_nil])
  have t1 : tl 58 (tl 62 l) ≠ [] := fun e => n2 (by rw [e, hd_nil])
  rw [← hd_tl n3, ← hd_tl t1, ← hd_tl t0]
theorem isTx_unique {l : List UInt8} {a b c d a' b' c' d' : Nat} (h : IsTx l a b c d) (h' : IsTx l a' b' c' d') : a = a' ∧ b = b' ∧ c = c' ∧ d = d' := by
  obtain ⟨e0, e1, e2, e3⟩ := nums_of h
  obtain ⟨g0, g1, g2, g3⟩ := nums_of h'
  rw [e0] at g0; rw [e1] at g1; rw [e2] at g2; rw [e3] at g3
  exact ⟨Option.some.inj g0, Option.some.inj g1, Option.some.inj g2, Option.some.inj g3⟩
end Go.Proofs.Ytehdchpolgihlaa
