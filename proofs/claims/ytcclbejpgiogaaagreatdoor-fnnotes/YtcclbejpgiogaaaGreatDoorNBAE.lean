/- Texts that belong together: SameL, Draw, DrawNum, Plain, Put, Text. -/
import Derived.Test.YtcclbejpgiogaaaGreatDoorNBAA
import Derived.Laws.Bits128
import Derived.WalkKit
import Derived.Lib.AppendStr
import Derived.Laws.IdiomStrings
set_option maxRecDepth 100000
set_option maxHeartbeats 1600000
namespace Go.Proofs.YtcclbejpgiogaaaGreatDoor
open Go.RowKit

theorem big_any (ao : Option Addr) (n ca : Nat) (w : World) (hn : n ≤ 9223372036854775807) :
 Calls Tryz.prog 4 #[.slice ao n ca] w fun e w' => e = .returned (.bool (decide (1048576 < n))) ∧ Below w.heap.size w w' := by
 have hd : decide ((1048576 : Int) < (n : Int)) = decide (1048576 < n) := by simp; omega
 go_enter Tryz.func4, Tryz.ntmps4
 go_wp2
 go_ret
 refine ⟨?_, Below.refl _ _⟩
 simp
 try omega

structure Cur (w : World) (base g : Nat) (ao : Option Addr) (ca : Nat) (xs : List Int) : Prop where
 low : base ≤ g
 len : xs.length ≤ 140737488355328
 cells : ∃ i h : Int, w.heap[g]? = some (.cells #[.slice ao xs.length ca, .int .i64 i, .int .i64 h] 91 (0, 0)) ∧ 0 ≤ i ∧ i ≤ xs.length
 code : xs = [] ∨ ∃ b off, b < base ∧ ao = some ⟨b, off, none⟩ ∧ ∀ k, k < xs.length → w.cell? ⟨b, off + k, none⟩ = some (.int .u8 (xs.getD k 0)) ∧ 0 ≤ xs.getD k 0 ∧ xs.getD k 0 ≤ 255

theorem i64_and255 (n : Int) : bits .and .i64 n 255 = n % 256 := by
 have h255 : (BitVec.ofInt 64 255).toNat = 2 ^ 8 - 1 := by decide
 have key : (BitVec.ofInt 64 n &&& BitVec.ofInt 64 255).toNat = (n % ((2 ^ 64 : Nat) : Int)).toNat % 2 ^ 8 := by
  rw [BitVec.toNat_and, BitVec.toNat_ofInt, h255, Nat.and_two_pow_sub_one_eq_mod]
 show IntKind.i64.wrap ((BitVec.ofInt 64 n &&& BitVec.ofInt 64 255).toNat : Nat) = n % 256
 rw [key, IntKind.wrap_i64]
 omega
theorem and255 (n : Int) : 0 ≤ bits .and .i64 n 255 ∧ bits .and .i64 n 255 ≤ 255 := by rw [i64_and255]; omega

theorem three_cells {w : World} {g : Nat} {x y z : Value} {t : TypeId} (h : w.heap[g]? = some (.cells #[x, y, z] t (0, 0))) :
 w.cell? ⟨g, 0, none⟩ = some x ∧ w.cell? ⟨g, 1, none⟩ = some y ∧ w.cell? ⟨g, 2, none⟩ = some z ∧ w.frozen? ⟨g, 0, none⟩ = false ∧ w.frozen? ⟨g, 1, none⟩ = false ∧ w.frozen? ⟨g, 2, none⟩ = false := by
 refine ⟨?_, ?_, ?_, frozen_of_row w g 0 _ t h, frozen_of_row w g 1 _ t h, frozen_of_row w g 2 _ t h⟩
 ·rw [cell_of_row w g 0 _ t (0, 0) h]; rfl
 ·rw [cell_of_row w g 1 _ t (0, 0) h]; rfl
 ·rw [cell_of_row w g 2 _ t (0, 0) h]; rfl

theorem set_two {w : World} {g : Nat} {x y z : Value} {t : TypeId} (h : w.heap[g]? = some (.cells #[x, y, z] t (0, 0))) (u : Value) : (w.setCell ⟨g, 2, none⟩ u).heap[g]? = some (.cells #[x, y, u] t (0, 0)) := by
 rw [heap_setCell_same w g 2 _ t u h]; rfl
theorem set_one {w : World} {g : Nat} {x y z : Value} {t : TypeId} (h : w.heap[g]? = some (.cells #[x, y, z] t (0, 0))) (u : Value) : (w.setCell ⟨g, 1, none⟩ u).heap[g]? = some (.cells #[x, u, z] t (0, 0)) := by
 rw [heap_setCell_same w g 1 _ t u h]; rfl
theorem set_grown (w : World) (g j : Nat) (u : Value) : w.grownBy (w.setCell ⟨g, j, none⟩ u) (some g) :=
 ⟨rfl, rfl, rfl, by simp, fun k _ hk => heap_setCell_other w ⟨g, j, none⟩ k u (fun e => hk (by simp [e]))⟩

theorem grown_drewN {a b : World} {row : Option Nat} (h : a.grownBy b row) (n : Nat) : a.grownBy (b.drewN n) row := ⟨h.os, h.tape, h.output, h.size, h.block⟩

def ByteEnd (w : World) (g ca : Nat) (ao : Option Addr) (xs : List Int) (e : Ending) (w' : World) : Prop :=
 ∃ x : Int, e = .returned (.int .i64 x) ∧ 0 ≤ x ∧ x ≤ 255 ∧ (∃ i h : Int, w'.heap[g]? = some (.cells #[.slice ao xs.length ca, .int .i64 i, .int .i64 h] 91 (0, 0)) ∧ 0 ≤ i ∧ i ≤ xs.length) ∧ w.grownBy w' (some g)

theorem byte_end (g ca : Nat) (ao : Option Addr) (xs : List Int) (h : Int) (w : World) (hl : xs.length ≤ 140737488355328)
 (hc : w.heap[g]? = some (.cells #[.slice ao xs.length ca, .int .i64 xs.length, .int .i64 h] 91 (0, 0))) :
 Calls Tryz.prog 75 #[.pointer (some ⟨g, 0, none⟩)] w (ByteEnd w g ca ao xs) := by
 obtain ⟨c0, c1, c2, f0, f1, f2⟩ := three_cells hc
 have HC := hide hc
 clear hc
 go_enter Tryz.func75, Tryz.ntmps75
 go_wp2_with fail
 go_quiet (fail)
 go_wp2_with fail
 go_quiet (fail)
 go_wp2
 go_ret
 exact ⟨_, rfl, (and255 _).1, (and255 _).2, ⟨_, _, set_two HC.out _, by omega, by omega⟩, grown_drewN (grown_drewN (set_grown _ _ _ _) _) _⟩

theorem byte_mid (g ca b off : Nat) (xs : List Int) (i : Nat) (h : Int) (w : World) (hl : xs.length ≤ 140737488355328) (hbg : b ≠ g)
 (hc : w.heap[g]? = some (.cells #[.slice (some ⟨b, off, none⟩) xs.length ca, .int .i64 i, .int .i64 h] 91 (0, 0))) (hi : i < xs.length)
 (hb : w.cell? ⟨b, off + i, none⟩ = some (.int .u8 (xs.getD i 0))) (hx : 0 ≤ xs.getD i 0 ∧ xs.getD i 0 ≤ 255) :
 Calls Tryz.prog 75 #[.pointer (some ⟨g, 0, none⟩)] w (ByteEnd w g ca (some ⟨b, off, none⟩) xs) := by
 obtain ⟨c0, c1, c2, f0, f1, f2⟩ := three_cells hc
 have HC := hide hc
 clear hc
 generalize xs.getD i 0 = d at *
 go_enter Tryz.func75, Tryz.ntmps75
 go_wp2_with fail
 go_quiet (fail)
 go_wp2_with fail
 go_quiet (fail)
 go_wp2_with fail
 go_quiet (fail)
 go_wp2
 go_ret
 exact ⟨_, rfl, (and255 _).1, (and255 _).2, ⟨_, _, set_one (set_two HC.out _) _, by omega, by omega⟩, grown_trans (grown_drewN (set_grown _ _ _ _) _) (set_grown _ _ _ _)⟩

theorem Cur.grown {w w' : World} {base g ca : Nat} {ao : Option Addr} {xs : List Int} (h : Cur w base g ao ca xs) (hg : w.grownBy w' (some g)) (hB : base ≤ w.heap.size)
 (hc : ∃ i h : Int, w'.heap[g]? = some (.cells #[.slice ao xs.length ca, .int .i64 i, .int .i64 h] 91 (0, 0)) ∧ 0 ≤ i ∧ i ≤ xs.length) : Cur w' base g ao ca xs := by
 refine ⟨h.low, h.len, hc, ?_⟩
 rcases h.code with h' | ⟨b, off, hb, ha, hx⟩
 ·exact .inl h'
 ·refine .inr ⟨b, off, hb, ha, fun k hk => ⟨?_, (hx k hk).2⟩⟩
  have hlow := h.low
  rw [World.cell?_of_block (w := w) (hg.block b (by omega) (by simp; omega))]
  exact (hx k hk).1
theorem byte_any (base g ca : Nat) (ao : Option Addr) (xs : List Int) (w : World) (hB : base ≤ w.heap.size) (h : Cur w base g ao ca xs) :
 Calls Tryz.prog 75 #[.pointer (some ⟨g, 0, none⟩)] w fun e w' => ∃ x : Int, e = .returned (.int .i64 x) ∧ 0 ≤ x ∧ x ≤ 255 ∧ Cur w' base g ao ca xs ∧ w.grownBy w' (some g) := by
 have key : Calls Tryz.prog 75 #[.pointer (some ⟨g, 0, none⟩)] w (ByteEnd w g ca ao xs) := by
  obtain ⟨i, hh, hc, h0, h1⟩ := h.cells
  by_cases hi : i = xs.length
  ·subst hi; exact byte_end g ca ao xs hh w h.len hc
  ·obtain ⟨k, rfl⟩ := Int.eq_ofNat_of_zero_le h0
   rcases h.code with h' | ⟨b, off, hb, rfl, hx⟩
   ·subst h'; simp at h1; simp at hi; omega
   ·have hlow := h.low
    exact byte_mid g ca b off xs k hh w h.len (by omega) hc (by omega) (hx k (by omega)).1 (hx k (by omega)).2
 refine key.mono ?_
 rintro e w' ⟨x, rfl, h0, h1, hc, hg⟩
 exact ⟨x, rfl, h0, h1, h.grown hg hB hc, hg⟩

theorem below_any (base g ca : Nat) (ao : Option Addr) (xs : List Int) (n : Int) (w : World) (hB : base ≤ w.heap.size) (hn : 1 ≤ n) (hm : n ≤ 256) (h : Cur w base g ao ca xs) :
 Calls Tryz.prog 41 #[.pointer (some ⟨g, 0, none⟩), .int .i64 n] w fun e w' => ∃ x : Int, e = .returned (.int .i64 x) ∧ 0 ≤ x ∧ x < n ∧ Cur w' base g ao ca xs ∧ w.grownBy w' (some g) := by
 have HC := hide (byte_any base g ca ao xs w hB h)
 clear h
 go_enter Tryz.func41, Tryz.ntmps41
 go_wp2_with fail
 refine HC.out.mono ?_
 rintro e w' ⟨x, rfl, h0, h1, hc, hg⟩
 go_wp2
 go_ret
 exact ⟨_, rfl, Int.emod_nonneg _ (by omega), Int.emod_lt_of_pos _ (by omega), hc, hg⟩

theorem once_any (base g ca : Nat) (ao : Option Addr) (xs : List Int) (n : Int) (w : World) (hB : base ≤ w.heap.size) (hn : 1 ≤ n) (hm : n ≤ 256) (h : Cur w base g ao ca xs) :
 Calls Tryz.prog 61 #[.pointer (some ⟨g, 0, none⟩), .int .i64 n] w fun e w' => ∃ b : Bool, e = .returned (.bool b) ∧ Cur w' base g ao ca xs ∧ w.grownBy w' (some g) := by
 have HC := hide (below_any base g ca ao xs n w hB hn hm h)
 clear h
 go_enter Tryz.func61, Tryz.ntmps61
 go_wp2_with fail
 refine HC.out.mono ?_
 rintro e w' ⟨x, rfl, h0, h1, hc, hg⟩
 go_wp2
 go_ret
 exact ⟨_, rfl, hc, hg⟩

theorem pickInt_any (base g ca p : Nat) (ao : Option Addr) (xs zs : List Int) (w : World) (hB : base ≤ w.heap.size) (hp : p ≠ g) (hz : 1 ≤ zs.length) (hz2 : zs.length ≤ 256) (hc : ∀ k, k < zs.length → w.cell? ⟨p, k, none⟩ = some (.int .i64 (zs.getD k 0))) (h : Cur w base g ao ca xs) :
 Calls Tryz.prog 48 #[.pointer (some ⟨g, 0, none⟩), .slice (some ⟨p, 0, none⟩) zs.length zs.length] w fun e w' => ∃ k : Nat, k < zs.length ∧ e = .returned (.int .i64 (zs.getD k 0)) ∧ Cur w' base g ao ca xs ∧ w.grownBy w' (some g) := by
 have HC := hide (below_any base g ca ao xs zs.length w hB (by omega) (by omega) h)
 have HD := hide hc
 clear h hc
 go_enter Tryz.func48, Tryz.ntmps48
 go_wp2_with fail
 refine HC.out.mono ?_
 rintro e w' ⟨x, rfl, h0, h1, hcur, hg⟩
 obtain ⟨k, rfl⟩ := Int.eq_ofNat_of_zero_le h0
 have hk : k < zs.length := by omega
 have hcell : w'.cell? ⟨p, k, none⟩ = some (.int .i64 (zs.getD k 0)) := by
  have h1 := HD.out k hk
  exact hg.cell h1 (by simp [hp])
 obtain ⟨z, hz'⟩ : ∃ z, zs.getD k 0 = z := ⟨_, rfl⟩
 rw [hz'] at hcell
 have HZ := hide hz'
 clear hz'
 go_wp2
 go_ret
 have hz'' := HZ.out
 subst hz''
 exact ⟨k, hk, rfl, hcur, hg⟩

theorem pick_any (base g ca p : Nat) (ao : Option Addr) (xs : List Int) (zs : List ByteArray) (w : World) (hB : base ≤ w.heap.size) (hp : p ≠ g) (hz : 1 ≤ zs.length) (hz2 : zs.length ≤ 256) (hc : ∀ k, k < zs.length → w.cell? ⟨p, k, none⟩ = some (.string (zs.getD k ByteArray.empty))) (h : Cur w base g ao ca xs) :
 Calls Tryz.prog 130 #[.pointer (some ⟨g, 0, none⟩), .slice (some ⟨p, 0, none⟩) zs.length zs.length] w fun e w' => ∃ k : Nat, k < zs.length ∧ e = .returned (.string (zs.getD k ByteArray.empty)) ∧ Cur w' base g ao ca xs ∧ w.grownBy w' (some g) := by
 have HC := hide (below_any base g ca ao xs zs.length w hB (by omega) (by omega) h)
 have HD := hide hc
 clear h hc
 go_enter Tryz.func130, Tryz.ntmps130
 go_wp2_with fail
 refine HC.out.mono ?_
 rintro e w' ⟨x, rfl, h0, h1, hcur, hg⟩
 obtain ⟨k, rfl⟩ := Int.eq_ofNat_of_zero_le h0
 have hk : k < zs.length := by omega
 have hcell : w'.cell? ⟨p, k, none⟩ = some (.string (zs.getD k ByteArray.empty)) := by
  have h1 := HD.out k hk
  exact hg.cell h1 (by simp [hp])
 obtain ⟨z, hz'⟩ : ∃ z, zs.getD k ByteArray.empty = z := ⟨_, rfl⟩
 rw [hz'] at hcell
 have HZ := hide hz'
 clear hz'
 go_wp2
 go_ret
 have hz'' := HZ.out
 subst hz''
 exact ⟨k, hk, rfl, hcur, hg⟩

theorem new_cur (ao : Option Addr) (ca : Nat) (xs : List Int) (z : Int) (w : World) (hl : xs.length ≤ 1048576)
 (h : xs = [] ∨ ∃ b off, ao = some ⟨b, off, none⟩ ∧ ∀ k, k < xs.length → w.cell? ⟨b, off + k, none⟩ = some (.int .u8 (xs.getD k 0))) (hb : ∀ k, k < xs.length → 0 ≤ xs.getD k 0 ∧ xs.getD k 0 ≤ 255) :
 Cur (w.alloc (.cells #[.slice ao xs.length ca, .int .i64 0, .int .i64 z] 91)) w.heap.size w.heap.size ao ca xs := by
 refine ⟨Nat.le_refl _, by omega, ⟨0, z, heap_alloc_new w _, by omega, by omega⟩, ?_⟩
 rcases h with h | ⟨b, off, rfl, hx⟩
 ·exact .inl h
 ·by_cases h0 : xs = []
  ·exact .inl h0
  ·have hpos : 0 < xs.length := List.length_pos_iff.2 h0
   have hlt : b < w.heap.size := cell_lt (hx 0 hpos)
   refine .inr ⟨b, off, hlt, rfl, fun k hk => ⟨?_, hb k hk⟩⟩
   rw [((Below.refl w.heap.size w).alloc (Nat.le_refl _) _).cell (p := ⟨b, off + k, none⟩) hlt]
   exact hx k hk

theorem new_any (ao : Option Addr) (ca : Nat) (xs : List Int) (w : World) (hl : xs.length ≤ 1048576)
 (h : xs = [] ∨ ∃ b off, ao = some ⟨b, off, none⟩ ∧ ∀ k, k < xs.length → w.cell? ⟨b, off + k, none⟩ = some (.int .u8 (xs.getD k 0))) (hb : ∀ k, k < xs.length → 0 ≤ xs.getD k 0 ∧ xs.getD k 0 ≤ 255) :
 Calls Tryz.prog 30 #[.slice ao xs.length ca] w fun e w' => e = .returned (.pointer (some ⟨w.heap.size, 0, none⟩)) ∧ Cur w' w.heap.size w.heap.size ao ca xs ∧ Below w.heap.size w w' := by
 obtain ⟨n, hn⟩ : ∃ n, xs.length = n := ⟨_, rfl⟩
 have Hn := hide hn
 rw [hn] at hl h hb ⊢
 clear hn
 go_enter Tryz.func30, Tryz.ntmps30
 go_wp2
 go_loop [3, 4] (fun y i => ∃ (k : Nat) (z : Int), k ≤ n ∧ y = .int .i64 z ∧ i = .int .i64 k) (fun _ i => n - (intOf i).toNat)
 case atStart => exact ⟨0, _, by omega, rfl, rfl⟩
 case round =>
  obtain ⟨k, z, hk, rfl, rfl⟩ := hrel
  by_cases hlt : k < n
  ·by_cases h4 : k < 4000
   ·rcases h with rfl | ⟨b, off, rfl, hx⟩
    ·have := Hn.out; simp at this; omega
    have hc := hx k hlt
    have hbd := hb k hlt
    clear hx hb
    generalize xs.getD k 0 = d at *
    go_wp2
    go_round
    case rel => exact ⟨k + 1, _, by omega, rfl, by go_num⟩
    case measure => simp [intOf]; omega
   ·have hd4 : decide ((k : Int) < 4000) = false := by simp; omega
    have HX := hide h
    have HB := hide hb
    clear h hb
    have HN := fun z => hide (new_cur ao ca xs z w (by rw [Hn.out]; exact hl) (by rw [Hn.out]; exact HX.out) (by rw [Hn.out]; exact HB.out))
    rw [Hn.out] at HN
    go_wp2
    go_ret
    exact ⟨rfl, unhide (HN z), (Below.refl _ _).alloc (Nat.le_refl _) _⟩
  ·have hd : decide ((k : Int) < (n : Int)) = false := by simp; omega
   have HN := fun z => hide (new_cur ao ca xs z w (by rw [Hn.out]; exact hl) (by rw [Hn.out]; exact h) (by rw [Hn.out]; exact hb))
   rw [Hn.out] at HN
   clear h hb
   go_wp2
   go_ret
   exact ⟨rfl, unhide (HN z), (Below.refl _ _).alloc (Nat.le_refl _) _⟩

theorem lit_ints (w : World) (t : TypeId) (zs : List Int) (k : Nat) (hk : k < zs.length) : (w.alloc (.cells (zs.map (Value.int .i64)).toArray t)).cell? ⟨w.heap.size, k, none⟩ = some (.int .i64 (zs.getD k 0)) := by
 rw [cell_of_row _ w.heap.size k _ t (0, 0) (heap_alloc_new w _)]
 simp [List.getElem?_eq_getElem hk]
theorem lit_texts (w : World) (t : TypeId) (zs : List ByteArray) (k : Nat) (hk : k < zs.length) : (w.alloc (.cells (zs.map Value.string).toArray t)).cell? ⟨w.heap.size, k, none⟩ = some (.string (zs.getD k ByteArray.empty)) := by
 rw [cell_of_row _ w.heap.size k _ t (0, 0) (heap_alloc_new w _)]
 simp [List.getElem?_eq_getElem hk]
theorem Cur.alloc {w : World} {base g ca : Nat} {ao : Option Addr} {xs : List Int} (h : Cur w base g ao ca xs) (hB : base ≤ w.heap.size) (o : Obj) : Cur (w.alloc o) base g ao ca xs := by
 have hg : g < w.heap.size := by
  obtain ⟨i, hh, hc, _⟩ := h.cells
  exact (Array.getElem?_eq_some_iff.1 hc).1
 have hb : Below w.heap.size w (w.alloc o) := (Below.refl _ _).alloc (Nat.le_refl _) o
 refine ⟨h.low, h.len, ?_, ?_⟩
 ·obtain ⟨i, hh, hc, h0, h1⟩ := h.cells
  exact ⟨i, hh, (hb.block g hg).trans hc, h0, h1⟩
 ·rcases h.code with h' | ⟨b, off, hbb, ha, hx⟩
  ·exact .inl h'
  ·exact .inr ⟨b, off, hbb, ha, fun k hk => ⟨(hb.cell (p := ⟨b, off + k, none⟩) (by show b < _; omega)).trans (hx k hk).1, (hx k hk).2⟩⟩

structure DCode (w : World) (ao : Option Addr) (xs : List Int) : Prop where
 len : xs.length ≤ 1048576
 code : xs = [] ∨ ∃ b off, ao = some ⟨b, off, none⟩ ∧ ∀ k, k < xs.length → w.cell? ⟨b, off + k, none⟩ = some (.int .u8 (xs.getD k 0))
 fit : ∀ k, k < xs.length → 0 ≤ xs.getD k 0 ∧ xs.getD k 0 ≤ 255
theorem DCode.below {w w' : World} {B : Nat} {ao : Option Addr} {xs : List Int} (h : DCode w ao xs) (hb : Below B w w') (hB : w.heap.size ≤ B := by exact Nat.le_refl _) : DCode w' ao xs := by
 refine ⟨h.len, ?_, h.fit⟩
 rcases h.code with h' | ⟨b, off, ha, hx⟩
 ·exact .inl h'
 ·exact .inr ⟨b, off, ha, fun k hk => (hb.cell (Nat.lt_of_lt_of_le (cell_lt (hx k hk)) hB)).trans (hx k hk)⟩

theorem pickInt_lit (base g ca : Nat) (ao : Option Addr) (xs zs : List Int) (w : World) (hB : base ≤ w.heap.size) (hz : 1 ≤ zs.length) (hz2 : zs.length ≤ 256) (h : Cur w base g ao ca xs) :
 Calls Tryz.prog 48 #[.pointer (some ⟨g, 0, none⟩), .slice (some ⟨w.heap.size, 0, none⟩) zs.length zs.length] (w.alloc (.cells (zs.map (Value.int .i64)).toArray 3)) fun e w' =>
  ∃ x : Int, e = .returned (.int .i64 x) ∧ x ∈ zs ∧ Cur w' base g ao ca xs ∧ w.grownBy w' (some g) := by
 have hg : g < w.heap.size := by
  obtain ⟨i, hh, hc, _⟩ := h.cells
  exact (Array.getElem?_eq_some_iff.1 hc).1
 refine (pickInt_any base g ca w.heap.size ao xs zs _ (by simp; omega) (by omega) hz hz2 (fun k hk => lit_ints w _ zs k hk) (h.alloc hB _)).mono ?_
 rintro e w' ⟨k, hk, rfl, hc, hgr⟩
 refine ⟨_, rfl, ?_, hc, grown_trans (World.grownBy_alloc w _ _) hgr⟩
 rw [List.getD_eq_getElem?_getD, List.getElem?_eq_getElem hk]
 exact List.getElem_mem hk
theorem pick_lit (base g ca : Nat) (ao : Option Addr) (xs : List Int) (zs : List ByteArray) (w : World) (hB : base ≤ w.heap.size) (hz : 1 ≤ zs.length) (hz2 : zs.length ≤ 256) (h : Cur w base g ao ca xs) :
 Calls Tryz.prog 130 #[.pointer (some ⟨g, 0, none⟩), .slice (some ⟨w.heap.size, 0, none⟩) zs.length zs.length] (w.alloc (.cells (zs.map Value.string).toArray 9)) fun e w' =>
  ∃ x : ByteArray, e = .returned (.string x) ∧ x ∈ zs ∧ Cur w' base g ao ca xs ∧ w.grownBy w' (some g) := by
 have hg : g < w.heap.size := by
  obtain ⟨i, hh, hc, _⟩ := h.cells
  exact (Array.getElem?_eq_some_iff.1 hc).1
 refine (pick_any base g ca w.heap.size ao xs zs _ (by simp; omega) (by omega) hz hz2 (fun k hk => lit_texts w _ zs k hk) (h.alloc hB _)).mono ?_
 rintro e w' ⟨k, hk, rfl, hc, hgr⟩
 refine ⟨_, rfl, ?_, hc, grown_trans (World.grownBy_alloc w _ _) hgr⟩
 rw [List.getD_eq_getElem?_getD, List.getElem?_eq_getElem hk]
 exact List.getElem_mem hk
theorem cur_below {w w' : World} {g : Nat} (hg : w.grownBy w' (some g)) {a : World} {B : Nat} (hb : Below B a w) (hB : B ≤ w.heap.size) (hlow : B ≤ g) : Below B a w' :=
 hb.grown hg hB (fun k hk => by simp at hk; omega)
end Go.Proofs.YtcclbejpgiogaaaGreatDoor
namespace Go.Proofs.YtcclbejpgiogaaaGreatDoor

def put : Nat → Nat → List Int
 | 0, n => [(n : Int)]
 | f + 1, n => if n ≤ 127 then [(n : Int)] else ((n : Int) % 128 + 128) :: put f (n / 128)
theorem put_small (f n : Nat) (h : n ≤ 127) : put f n = [(n : Int)] := by cases f <;> simp [put, h]
theorem put_great (f n : Nat) (h : 127 < n) : put (f + 1) n = ((n : Int) % 128 + 128) :: put f (n / 128) := by simp [put]; omega
theorem put_len (f n : Nat) : (put f n).length ≤ f + 1 ∧ 0 < (put f n).length := by
 induction f generalizing n with
 | zero => simp [put]
 | succ f ih => by_cases h : n ≤ 127
                ·simp [put, h]
                ·simp [put, h]; have := (ih (n / 128)).1; omega

def putAns (n : Int) : List Int := if 0 ≤ n ∧ n ≤ 2147483647 then put 4 n.toNat else []
theorem putAns_yes (n : Nat) (h : n ≤ 2147483647) : putAns n = put 4 n := by unfold putAns; rw [if_pos (by omega), Int.toNat_natCast]
theorem putAns_no (n : Int) (h : n < 0 ∨ 2147483647 < n) : putAns n = [] := by unfold putAns; rw [if_neg (by omega)]
theorem putAns_len (n : Int) : (putAns n).length ≤ 5 := by
 unfold putAns; split
 ·exact (put_len 4 _).1
 ·simp

def At (n : Nat) (f m : Nat) (done : List Int) : Prop := done ++ put f m = put 4 n ∧ m < 128 ^ (f + 1) ∧ done.length + f = 4
theorem at_start (n : Nat) (h : n ≤ 2147483647) : At n 4 n [] := ⟨by simp, by omega, rfl⟩
theorem at_step {n f m : Nat} {done : List Int} (h : At n f m done) (hm : 127 < m) : ∃ f', f = f' + 1 ∧ At n f' (m / 128) (done ++ [(m : Int) % 128 + 128]) := by
 obtain ⟨h1, h2, h3⟩ := h
 cases f with
 | zero => simp at h2; omega
 | succ f =>
  refine ⟨f, rfl, ?_, ?_, ?_⟩
  ·rw [put_great f m hm] at h1; simpa using h1
  ·rw [Nat.pow_succ] at h2; exact Nat.div_lt_of_lt_mul (by rw [Nat.mul_comm]; exact h2)
  ·simp; omega
theorem at_end {n f m : Nat} {done : List Int} (h : At n f m done) (hm : m ≤ 127) : done ++ [(m : Int)] = put 4 n := by
 have := h.1; rwa [put_small f m hm] at this
end Go.Proofs.YtcclbejpgiogaaaGreatDoor
namespace Go.Proofs.YtcclbejpgiogaaaGreatDoor
open Go.RowKit

theorem own_more {B : Nat} {w wr w1 : World} {v v' : Value} {o : Obj} {xs : List Int} {c : Int} (hB : B ≤ wr.heap.size) (ho : wr.ownsRow B 5 1 v xs.length (xs.map (Value.int .u8))) (hb : Below B w wr)
 (ho' : w1.ownsRow B 5 1 v' (xs.length + 1) (xs.map (Value.int .u8) ++ [.int .u8 c])) (hg : (wr.alloc o).grownBy w1 v.ownBlock) :
 w1.ownsRow B 5 1 v' (xs ++ [c]).length ((xs ++ [c]).map (Value.int .u8)) ∧ Below B w w1 :=
 ⟨by simpa using ho', (hb.alloc hB o).grown hg (by simp; omega) (fun j hj => (ho.lt j hj).1)⟩

theorem specPut_yes (n : Nat) (w : World) (hn : n ≤ 2147483647) :
 Calls Tryz.prog 52 #[.int .i64 n] w fun e w' => ∃ v, e = .returned v ∧ w'.ownsRow w.heap.size 5 1 v (put 4 n).length ((put 4 n).map (Value.int .u8)) ∧ Below w.heap.size w w' := by
 obtain ⟨i0, hi, hz0, hz1, hz2⟩ := info_parts Tryz.info5
 go_enter Tryz.func52, Tryz.ntmps52
 go_wp2_with (first | (go_at_call 73; refine (in_yes _ _ _ _ (by omega) (by omega)).mono ?_; rintro e w' ⟨rfl, rfl⟩))
 go_loopw [0, 3] (fun x v wr => ∃ (f m : Nat) (done : List Int), m ≤ 2147483647 ∧ x = .int .i64 m ∧ At n f m done ∧ wr.ownsRow w.heap.size 5 1 v done.length (done.map (Value.int .u8)) ∧ Below w.heap.size w wr) (fun x _ _ => (intOf x).toNat)
 case atStart => exact ⟨4, n, [], hn, rfl, at_start n hn, World.ownsRow_lit w #[] 0 (Nat.le_refl _) (by unfold maxLen; omega) rfl, (Below.refl _ _).alloc (Nat.le_refl _) _⟩
 case round =>
  obtain ⟨f, m, done, hm, rfl, hat, ho, hb⟩ := hrel
  have hsz := hb.size
  have hdl : done.length ≤ 4 := by have := hat.2.2; omega
  by_cases hlt : 127 < m
  ·obtain ⟨f', rfl, hat'⟩ := at_step hat hlt
   have HA : Hid (At n f' (m / 128) (done ++ [(m : Int) % 128 + 128])) := hat'
   clear hat hat'
   go_wp2_with (first
    | (at_builtin; refine wpList_append_own _ rfl _ _ 22 rfl w.heap.size 5 i0 (.int .u8 0) 1 1 Tryz.underlying22 hi hz0 hz1 hz2 rfl (by decide) _ _ _ rfl (ho.alloc _) ⟨wr.heap.size, 0, none⟩ 1 1 [.int .u8 ((m : Int) % 128 + 128)] rfl rfl (one_cell _ _ _) (one_plain _ _) (by unfold maxLen; omega) (by omega) (by simp; omega) ?_; intro v' w1 ho' hg' _; have R := own_more hsz ho hb ho' hg'; clear ho ho' hg' hb))
   go_roundw
   case rel => exact ⟨f', m / 128, _, by omega, by go_num, HA.out, R.1, R.2⟩
   case measure => simp [intOf]; omega
  ·have HE : Hid (done ++ [(m : Int)] = put 4 n) := at_end hat (by omega)
   clear hat
   go_wp2_with (first
    | (at_builtin; refine wpList_append_own _ rfl _ _ 22 rfl w.heap.size 5 i0 (.int .u8 0) 1 1 Tryz.underlying22 hi hz0 hz1 hz2 rfl (by decide) _ _ _ rfl (ho.alloc _) ⟨wr.heap.size, 0, none⟩ 1 1 [.int .u8 (m : Int)] rfl rfl (one_cell _ _ _) (one_plain _ _) (by unfold maxLen; omega) (by omega) (by simp; omega) ?_; intro v' w1 ho' hg' _; have R := own_more hsz ho hb ho' hg'; clear ho ho' hg' hb))
   go_ret
   rw [HE.out] at R
   exact ⟨_, rfl, R.1, R.2⟩

theorem specPut_no (n : Int) (w : World) (hn : n < 0 ∨ 2147483647 < n) :
 Calls Tryz.prog 52 #[.int .i64 n] w fun e w' => ∃ v, e = .returned v ∧ w'.ownsRow w.heap.size 5 1 v 0 [] ∧ Below w.heap.size w w' := by
 go_enter Tryz.func52, Tryz.ntmps52
 go_wp2_with (first | (go_at_call 73; refine (in_no _ _ _ _ (by omega)).mono ?_; rintro e w' ⟨rfl, rfl⟩))
 go_ret
 exact ⟨_, rfl, World.ownsRow_lit w #[] 0 (Nat.le_refl _) (by unfold maxLen; omega) rfl, (Below.refl _ _).alloc (Nat.le_refl _) _⟩

theorem implPut_no (n : Int) (w : World) (hn : n < 0 ∨ 2147483647 < n) :
 Calls Tryz.prog 28 #[.int .i64 n] w fun e w' => ∃ v, e = .returned v ∧ w'.ownsRow w.heap.size 5 1 v 0 [] ∧ Below w.heap.size w w' := by
 rcases hn with hn | hn
 ·go_enter Tryz.func28, Tryz.ntmps28
  go_wp2
  go_ret
  exact ⟨_, rfl, World.ownsRow_nil _ _ _ _, Below.refl _ _⟩
 ·have hd : decide (n < 0) = false := by simp; omega
  go_enter Tryz.func28, Tryz.ntmps28
  go_wp2
  go_ret
  exact ⟨_, rfl, World.ownsRow_nil _ _ _ _, Below.refl _ _⟩

theorem implPut_yes (n : Nat) (w : World) (hn : n ≤ 2147483647) :
 Calls Tryz.prog 28 #[.int .i64 n] w fun e w' => ∃ v, e = .returned v ∧ w'.ownsRow w.heap.size 5 1 v (put 4 n).length ((put 4 n).map (Value.int .u8)) ∧ Below w.heap.size w w' := by
 obtain ⟨i0, hi, hz0, hz1, hz2⟩ := info_parts Tryz.info5
 have hd : decide ((n : Int) < 0) = false := by simp
 go_enter Tryz.func28, Tryz.ntmps28
 go_wp2_with (first | (at_make; refine wpList_make_own _ rfl _ _ 22 rfl w.heap.size 5 i0 (.int .u8 0) 1 Tryz.underlying22 hi hz0 hz1 .i64 .i64 5 5 rfl rfl rfl (by omega) (by unfold maxLen; omega) (Nat.le_refl _) ?_; intro w0 ho0 hg0))
 go_loopw [0, 3] (fun x v wr => ∃ (f m : Nat) (done : List Int), m ≤ 2147483647 ∧ x = .int .i64 m ∧ At n f m done ∧ wr.ownsRow w.heap.size 5 1 v done.length (done.map (Value.int .u8)) ∧ Below w.heap.size w wr) (fun x _ _ => (intOf x).toNat)
 case atStart => exact ⟨4, n, [], hn, rfl, at_start n hn, ho0, (Below.refl _ _).grown hg0 (Nat.le_refl _) (by simp)⟩
 case round =>
  obtain ⟨f, m, done, hm, rfl, hat, ho, hb⟩ := hrel
  clear ho0 hg0 hd
  have hsz := hb.size
  have hdl : done.length ≤ 4 := by have := hat.2.2; omega
  by_cases hlt : 127 < m
  ·obtain ⟨f', rfl, hat'⟩ := at_step hat hlt
   have HA : Hid (At n f' (m / 128) (done ++ [(m : Int) % 128 + 128])) := hat'
   clear hat hat'
   go_wp2_with (first
    | (at_builtin; refine wpList_append_own _ rfl _ _ 22 rfl w.heap.size 5 i0 (.int .u8 0) 1 1 Tryz.underlying22 hi hz0 hz1 hz2 rfl (by decide) _ _ _ rfl (ho.alloc _) ⟨wr.heap.size, 0, none⟩ 1 1 [.int .u8 ((m : Int) % 128 + 128)] rfl rfl (one_cell _ _ _) (one_plain _ _) (by unfold maxLen; omega) (by omega) (by simp; omega) ?_; intro v' w1 ho' hg' _; have R := own_more hsz ho hb ho' hg'; clear ho ho' hg' hb))
   go_roundw
   case rel => exact ⟨f', m / 128, _, by omega, by go_num, HA.out, R.1, R.2⟩
   case measure => simp [intOf]; omega
  ·have HE : Hid (done ++ [(m : Int)] = put 4 n) := at_end hat (by omega)
   clear hat
   go_wp2_with (first
    | (at_builtin; refine wpList_append_own _ rfl _ _ 22 rfl w.heap.size 5 i0 (.int .u8 0) 1 1 Tryz.underlying22 hi hz0 hz1 hz2 rfl (by decide) _ _ _ rfl (ho.alloc _) ⟨wr.heap.size, 0, none⟩ 1 1 [.int .u8 (m : Int)] rfl rfl (one_cell _ _ _) (one_plain _ _) (by unfold maxLen; omega) (by omega) (by simp; omega) ?_; intro v' w1 ho' hg' _; have R := own_more hsz ho hb ho' hg'; clear ho ho' hg' hb))
   go_ret
   rw [HE.out] at R
   exact ⟨_, rfl, R.1, R.2⟩

theorem specPut (n : Int) (w : World) :
 Calls Tryz.prog 52 #[.int .i64 n] w fun e w' => ∃ v, e = .returned v ∧ w'.ownsRow w.heap.size 5 1 v (putAns n).length ((putAns n).map (Value.int .u8)) ∧ Below w.heap.size w w' := by
 by_cases h : 0 ≤ n ∧ n ≤ 2147483647
 ·obtain ⟨m, rfl⟩ := Int.eq_ofNat_of_zero_le h.1
  rw [putAns_yes m (by omega)]; exact specPut_yes m w (by omega)
 ·rw [putAns_no n (by omega)]; exact specPut_no n w (by omega)
theorem implPut (n : Int) (w : World) :
 Calls Tryz.prog 28 #[.int .i64 n] w fun e w' => ∃ v, e = .returned v ∧ w'.ownsRow w.heap.size 5 1 v (putAns n).length ((putAns n).map (Value.int .u8)) ∧ Below w.heap.size w w' := by
 by_cases h : 0 ≤ n ∧ n ≤ 2147483647
 ·obtain ⟨m, rfl⟩ := Int.eq_ofNat_of_zero_le h.1
  rw [putAns_yes m (by omega)]; exact implPut_yes m w (by omega)
 ·rw [putAns_no n (by omega)]; exact implPut_no n w (by omega)

def bs (s : ByteArray) : List Int := s.data.toList.map fun b => (b.toNat : Int)
theorem bs_len (s : ByteArray) : (bs s).length = s.size := by rw [bs, List.length_map, Array.length_toList]; rfl
theorem bs_cells (s : ByteArray) : (bs s).map (Value.int .u8) = Lib.strCells s := by simp [bs, Lib.strCells]
def textAns (s : ByteArray) : List Int := put 4 s.size ++ bs s
theorem textAns_len (s : ByteArray) : (textAns s).length = (put 4 s.size).length + s.size := by rw [textAns, List.length_append, bs_len]

theorem news_cells (w : World) (s : ByteArray) (cap : Nat) (e : TypeId) (fr : Nat × Nat) (j : Nat) (u : Value) (h : (Lib.strCells s)[j]? = some u) :
 (w.alloc (.cells (bytesRow s cap) e fr)).cell? ((⟨w.heap.size, 0, none⟩ : Addr).add j) = some u := by
 have hj : j < s.data.size := by
  have := (List.getElem?_eq_some_iff.1 h).1; simpa [Lib.strCells] using this
 have h1 := bytesRow_at s cap j hj
 have h2 : u = .int .u8 (s.data[j].toNat : Int) := by
  rw [Lib.strCells, List.getElem?_map, Array.getElem?_toList, Array.getElem?_eq_getElem hj] at h
  simpa using h.symm
 subst h2
 rw [show ((⟨w.heap.size, 0, none⟩ : Addr).add j) = ⟨w.heap.size, j, none⟩ from by unfold Addr.add; split <;> simp_all]
 rw [cell_of_row _ w.heap.size j _ e fr (heap_alloc_new w _)]
 exact h1
theorem news_plain (s : ByteArray) (u : Value) (h : u ∈ Lib.strCells s) : u.oneCell' = true := by
 simp [Lib.strCells] at h; obtain ⟨a, _, rfl⟩ := h; rfl

theorem own_text {B : Nat} {w wr w1 : World} {v v' : Value} {xs : List Int} {s : ByteArray} (hB : B ≤ wr.heap.size) (ho : wr.ownsRow B 5 1 v xs.length (xs.map (Value.int .u8))) (hb : Below B w wr)
 (ho' : w1.ownsRow B 5 1 v' (xs.length + s.size) (xs.map (Value.int .u8) ++ Lib.strCells s)) (hg : wr.grownBy w1 v.ownBlock) :
 OB w1 B v' (xs ++ bs s) ∧ Below B w w1 := by
 refine ⟨?_, hb.grown hg hB (fun j hj => (ho.lt j hj).1)⟩
 unfold OB
 rw [List.length_append, bs_len, List.map_append, bs_cells]
 exact ho'

theorem specText (s : ByteArray) (w : World) (hs : s.size ≤ 1048576) :
 Calls Tryz.prog 53 #[.string s] w fun e w' => ∃ v, e = .returned v ∧ OB w' w.heap.size v (textAns s) ∧ Below w.heap.size w w' := by
 obtain ⟨i0, hi, hz0, hz1, hz2⟩ := info_parts Tryz.info5
 have hcv := fun w => run_bytes_of_string (P := Tryz.prog) w 9 22 5 s Tryz.underlying9 Tryz.underlying22 Tryz.underlying5
 have hpl := put_len 4 s.size
 go_enter Tryz.func53, Tryz.ntmps53
 go_wp2_with fail
 refine (specPut_yes s.size _ (by omega)).mono ?_
 rintro e w1 ⟨v0, rfl, o0, b0⟩
 have s0 := b0.size
 go_wp2_with (first
       | (at_builtin; refine wpList_append_own _ rfl (.tmp 5) (.tmp 7) 22 rfl w.heap.size 5 i0 (.int .u8 0) 1 1 Tryz.underlying22 hi hz0 hz1 hz2 rfl (by decide) _ _ _ rfl ((o0.alloc _).drew) ⟨w1.heap.size, 0, none⟩ s.size _ (Lib.strCells s) rfl (by rw [Lib.strCells_length]; omega) (news_cells _ _ _ _ _) (news_plain s) (by unfold maxLen; omega) (by omega) (by simp; omega) ?_; intro v' w2 ho' hg' _; have R := own_text (by simp; omega) ((o0.alloc _).drew) ((b0.alloc s0 _).drew) ho' hg'; clear ho' hg' hcv o0))
 go_ret
 exact ⟨_, rfl, R.1, R.2⟩

theorem implText (s : ByteArray) (w : World) (hs : s.size ≤ 1048576) :
 Calls Tryz.prog 29 #[.string s] w fun e w' => ∃ v, e = .returned v ∧ OB w' w.heap.size v (textAns s) ∧ Below w.heap.size w w' := by
 obtain ⟨i0, hi, hz0, hz1, hz2⟩ := info_parts Tryz.info5
 have hpl := put_len 4 s.size
 go_enter Tryz.func29, Tryz.ntmps29
 go_wp2_with fail
 refine (implPut_yes s.size _ (by omega)).mono ?_
 rintro e w1 ⟨v0, rfl, o0, b0⟩
 have s0 := b0.size
 go_wp2_with (first
       | (at_builtin; refine Lib.wpList_append_own_string _ rfl _ _ 22 9 rfl w.heap.size 5 i0 Tryz.underlying22 Tryz.underlying9 hi hz0 hz1 hz2 _ _ _ rfl o0 s rfl (by unfold maxLen; omega) (by omega) s0 ?_; intro v' w2 ho' hg' _; have R := own_text s0 o0 b0 ho' hg'; clear ho' hg' o0))
 go_ret
 exact ⟨_, rfl, R.1, R.2⟩
end Go.Proofs.YtcclbejpgiogaaaGreatDoor
