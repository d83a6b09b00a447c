/- Texts that belong together: Draw, DrawNum, Plain, Text, DrawList, RoundPlain. -/
import Derived.Test.YtmpmedbojfjnaaaGreatDoorFSAA
import Derived.Laws.Bits128
import Derived.WalkKit
import Derived.Test.YtmpmedbojfjnaaaGreatDoorFSAD
import Derived.Lib.AppendStr
import Derived.Laws.IdiomStrings
import Derived.Laws.BitsAllLaws
import Derived.Test.YtmpmedbojfjnaaaGreatDoorFSAF
import Derived.Laws.BytesArg
import Derived.Test.YtmpmedbojfjnaaaGreatDoorFSAI
namespace Go.Proofs.YtmpmedbojfjnaaaGreatDoor
open Go.RowKit

structure Cur (w : World) (base g : Nat) (ao : Option Addr) (ca : Nat) (xs : List Int) : Prop where
 low : base ≤ g
 len : xs.length ≤ 140737488355328
 cells : ∃ i h : Int, w.heap[g]? = some (.cells #[.slice ao xs.length ca, .int .i64 i, .int .i64 h] 139 (0, 0)) ∧ 0 ≤ i ∧ i ≤ xs.length
 code : xs = [] ∨ ∃ b off, b < base ∧ ao = some ⟨b, off, none⟩ ∧ ∀ k, k < xs.length → w.cell? ⟨b, off + k, none⟩ = some (.int .u8 (xs.getD k 0)) ∧ 0 ≤ xs.getD k 0 ∧ xs.getD k 0 ≤ 255

theorem i64_and255 (n : Int) : bits .and .i64 n 255 = n % 256 := by
 have h255 : (BitVec.ofInt 64 255).toNat = 2 ^ 8 - 1 := by decide
 have key : (BitVec.ofInt 64 n &&& BitVec.ofInt 64 255).toNat = (n % ((2 ^ 64 : Nat) : Int)).toNat % 2 ^ 8 := by
  rw [BitVec.toNat_and, BitVec.toNat_ofInt, h255, Nat.and_two_pow_sub_one_eq_mod]
 show IntKind.i64.wrap ((BitVec.ofInt 64 n &&& BitVec.ofInt 64 255).toNat : Nat) = n % 256
 rw [key, IntKind.wrap_i64]
 omega
theorem and255 (n : Int) : 0 ≤ bits .and .i64 n 255 ∧ bits .and .i64 n 255 ≤ 255 := by rw [i64_and255]; omega

theorem three_cells {w : World} {g : Nat} {x y z : Value} {t : TypeId} (h : w.heap[g]? = some (.cells #[x, y, z] t (0, 0))) :
 w.cell? ⟨g, 0, none⟩ = some x ∧ w.cell? ⟨g, 1, none⟩ = some y ∧ w.cell? ⟨g, 2, none⟩ = some z ∧ w.frozen? ⟨g, 0, none⟩ = false ∧ w.frozen? ⟨g, 1, none⟩ = false ∧ w.frozen? ⟨g, 2, none⟩ = false := by
 refine ⟨?_, ?_, ?_, frozen_of_row w g 0 _ t h, frozen_of_row w g 1 _ t h, frozen_of_row w g 2 _ t h⟩
 ·rw [cell_of_row w g 0 _ t (0, 0) h]; rfl
 ·rw [cell_of_row w g 1 _ t (0, 0) h]; rfl
 ·rw [cell_of_row w g 2 _ t (0, 0) h]; rfl

theorem set_two {w : World} {g : Nat} {x y z : Value} {t : TypeId} (h : w.heap[g]? = some (.cells #[x, y, z] t (0, 0))) (u : Value) : (w.setCell ⟨g, 2, none⟩ u).heap[g]? = some (.cells #[x, y, u] t (0, 0)) := by
 rw [heap_setCell_same w g 2 _ t u h]; rfl
theorem set_one {w : World} {g : Nat} {x y z : Value} {t : TypeId} (h : w.heap[g]? = some (.cells #[x, y, z] t (0, 0))) (u : Value) : (w.setCell ⟨g, 1, none⟩ u).heap[g]? = some (.cells #[x, u, z] t (0, 0)) := by
 rw [heap_setCell_same w g 1 _ t u h]; rfl
theorem set_grown (w : World) (g j : Nat) (u : Value) : w.grownBy (w.setCell ⟨g, j, none⟩ u) (some g) :=
 ⟨rfl, rfl, rfl, by simp, fun k _ hk => heap_setCell_other w ⟨g, j, none⟩ k u (fun e => hk (by simp [e]))⟩

theorem grown_drewN {a b : World} {row : Option Nat} (h : a.grownBy b row) (n : Nat) : a.grownBy (b.drewN n) row := ⟨h.os, h.tape, h.output, h.size, h.block⟩

def ByteEnd (w : World) (g ca : Nat) (ao : Option Addr) (xs : List Int) (e : Ending) (w' : World) : Prop :=
 ∃ x : Int, e = .returned (.int .i64 x) ∧ 0 ≤ x ∧ x ≤ 255 ∧ (∃ i h : Int, w'.heap[g]? = some (.cells #[.slice ao xs.length ca, .int .i64 i, .int .i64 h] 139 (0, 0)) ∧ 0 ≤ i ∧ i ≤ xs.length) ∧ w.grownBy w' (some g)

set_option maxHeartbeats 1600000 in
set_option maxRecDepth 100000 in
theorem byte_end (g ca : Nat) (ao : Option Addr) (xs : List Int) (h : Int) (w : World) (hl : xs.length ≤ 140737488355328)
 (hc : w.heap[g]? = some (.cells #[.slice ao xs.length ca, .int .i64 xs.length, .int .i64 h] 139 (0, 0))) :
 Calls Tryz.prog 144 #[.pointer (some ⟨g, 0, none⟩)] w (ByteEnd w g ca ao xs) := by
 obtain ⟨c0, c1, c2, f0, f1, f2⟩ := three_cells hc
 have HC := hide hc
 clear hc
 go_enter Tryz.func144, Tryz.ntmps144
 go_wp2_with fail
 go_quiet (fail)
 go_wp2_with fail
 go_quiet (fail)
 go_wp2
 go_ret
 exact ⟨_, rfl, (and255 _).1, (and255 _).2, ⟨_, _, set_two (unhide HC) _, by omega, by omega⟩, grown_drewN (grown_drewN (set_grown _ _ _ _) _) _⟩

set_option maxHeartbeats 1600000 in
set_option maxRecDepth 100000 in
theorem byte_mid (g ca b off : Nat) (xs : List Int) (i : Nat) (h : Int) (w : World) (hl : xs.length ≤ 140737488355328) (hbg : b ≠ g)
 (hc : w.heap[g]? = some (.cells #[.slice (some ⟨b, off, none⟩) xs.length ca, .int .i64 i, .int .i64 h] 139 (0, 0))) (hi : i < xs.length)
 (hb : w.cell? ⟨b, off + i, none⟩ = some (.int .u8 (xs.getD i 0))) (hx : 0 ≤ xs.getD i 0 ∧ xs.getD i 0 ≤ 255) :
 Calls Tryz.prog 144 #[.pointer (some ⟨g, 0, none⟩)] w (ByteEnd w g ca (some ⟨b, off, none⟩) xs) := by
 obtain ⟨c0, c1, c2, f0, f1, f2⟩ := three_cells hc
 have HC := hide hc
 clear hc
 generalize xs.getD i 0 = d at *
 go_enter Tryz.func144, Tryz.ntmps144
 go_wp2_with fail
 go_quiet (fail)
 go_wp2_with fail
 go_quiet (fail)
 go_wp2_with fail
 go_quiet (fail)
 go_wp2
 go_ret
 exact ⟨_, rfl, (and255 _).1, (and255 _).2, ⟨_, _, set_one (set_two (unhide HC) _) _, by omega, by omega⟩, grown_trans (grown_drewN (set_grown _ _ _ _) _) (set_grown _ _ _ _)⟩

theorem Cur.grown {w w' : World} {base g ca : Nat} {ao : Option Addr} {xs : List Int} (h : Cur w base g ao ca xs) (hg : w.grownBy w' (some g)) (hB : base ≤ w.heap.size)
 (hc : ∃ i h : Int, w'.heap[g]? = some (.cells #[.slice ao xs.length ca, .int .i64 i, .int .i64 h] 139 (0, 0)) ∧ 0 ≤ i ∧ i ≤ xs.length) : Cur w' base g ao ca xs := by
 refine ⟨h.low, h.len, hc, ?_⟩
 rcases h.code with h' | ⟨b, off, hb, ha, hx⟩
 ·exact .inl h'
 ·refine .inr ⟨b, off, hb, ha, fun k hk => ⟨?_, (hx k hk).2⟩⟩
  have hlow := h.low
  rw [World.cell?_of_block (w := w) (hg.block b (by omega) (by simp; omega))]
  exact (hx k hk).1
theorem byte_any (base g ca : Nat) (ao : Option Addr) (xs : List Int) (w : World) (hB : base ≤ w.heap.size) (h : Cur w base g ao ca xs) :
 Calls Tryz.prog 144 #[.pointer (some ⟨g, 0, none⟩)] w fun e w' => ∃ x : Int, e = .returned (.int .i64 x) ∧ 0 ≤ x ∧ x ≤ 255 ∧ Cur w' base g ao ca xs ∧ w.grownBy w' (some g) := by
 have key : Calls Tryz.prog 144 #[.pointer (some ⟨g, 0, none⟩)] w (ByteEnd w g ca ao xs) := by
  obtain ⟨i, hh, hc, h0, h1⟩ := h.cells
  by_cases hi : i = xs.length
  ·subst hi; exact byte_end g ca ao xs hh w h.len hc
  ·obtain ⟨k, rfl⟩ := Int.eq_ofNat_of_zero_le h0
   rcases h.code with h' | ⟨b, off, hb, rfl, hx⟩
   ·subst h'; simp at h1; simp at hi; omega
   ·have hlow := h.low
    exact byte_mid g ca b off xs k hh w h.len (by omega) hc (by omega) (hx k (by omega)).1 (hx k (by omega)).2
 refine key.mono ?_
 rintro e w' ⟨x, rfl, h0, h1, hc, hg⟩
 exact ⟨x, rfl, h0, h1, h.grown hg hB hc, hg⟩

set_option maxHeartbeats 400000 in
set_option maxRecDepth 100000 in
theorem below_any (base g ca : Nat) (ao : Option Addr) (xs : List Int) (n : Int) (w : World) (hB : base ≤ w.heap.size) (hn : 1 ≤ n) (hm : n ≤ 256) (h : Cur w base g ao ca xs) :
 Calls Tryz.prog 92 #[.pointer (some ⟨g, 0, none⟩), .int .i64 n] w fun e w' => ∃ x : Int, e = .returned (.int .i64 x) ∧ 0 ≤ x ∧ x < n ∧ Cur w' base g ao ca xs ∧ w.grownBy w' (some g) := by
 have HC := hide (byte_any base g ca ao xs w hB h)
 clear h
 go_enter Tryz.func92, Tryz.ntmps92
 go_wp2_with fail
 refine (unhide HC).mono ?_
 rintro e w' ⟨x, rfl, h0, h1, hc, hg⟩
 go_wp2
 go_ret
 exact ⟨_, rfl, Int.emod_nonneg _ (by omega), Int.emod_lt_of_pos _ (by omega), hc, hg⟩

set_option maxHeartbeats 400000 in
set_option maxRecDepth 100000 in
theorem once_any (base g ca : Nat) (ao : Option Addr) (xs : List Int) (n : Int) (w : World) (hB : base ≤ w.heap.size) (hn : 1 ≤ n) (hm : n ≤ 256) (h : Cur w base g ao ca xs) :
 Calls Tryz.prog 63 #[.pointer (some ⟨g, 0, none⟩), .int .i64 n] w fun e w' => ∃ b : Bool, e = .returned (.bool b) ∧ Cur w' base g ao ca xs ∧ w.grownBy w' (some g) := by
 have HC := hide (below_any base g ca ao xs n w hB hn hm h)
 clear h
 go_enter Tryz.func63, Tryz.ntmps63
 go_wp2_with fail
 refine (unhide HC).mono ?_
 rintro e w' ⟨x, rfl, h0, h1, hc, hg⟩
 go_wp2
 go_ret
 exact ⟨_, rfl, hc, hg⟩

set_option maxHeartbeats 400000 in
set_option maxRecDepth 100000 in
theorem pickInt_any (base g ca p : Nat) (ao : Option Addr) (xs zs : List Int) (w : World) (hB : base ≤ w.heap.size) (hp : p ≠ g) (hz : 1 ≤ zs.length) (hz2 : zs.length ≤ 256) (hc : ∀ k, k < zs.length → w.cell? ⟨p, k, none⟩ = some (.int .i64 (zs.getD k 0))) (h : Cur w base g ao ca xs) :
 Calls Tryz.prog 119 #[.pointer (some ⟨g, 0, none⟩), .slice (some ⟨p, 0, none⟩) zs.length zs.length] w fun e w' => ∃ k : Nat, k < zs.length ∧ e = .returned (.int .i64 (zs.getD k 0)) ∧ Cur w' base g ao ca xs ∧ w.grownBy w' (some g) := by
 have HC := hide (below_any base g ca ao xs zs.length w hB (by omega) (by omega) h)
 have HD := hide hc
 clear h hc
 go_enter Tryz.func119, Tryz.ntmps119
 go_wp2_with fail
 refine (unhide HC).mono ?_
 rintro e w' ⟨x, rfl, h0, h1, hcur, hg⟩
 obtain ⟨k, rfl⟩ := Int.eq_ofNat_of_zero_le h0
 have hk : k < zs.length := by omega
 have hcell : w'.cell? ⟨p, k, none⟩ = some (.int .i64 (zs.getD k 0)) := by
  have h1 := unhide HD k hk
  exact hg.cell h1 (by simp [hp])
 obtain ⟨z, hz'⟩ : ∃ z, zs.getD k 0 = z := ⟨_, rfl⟩
 rw [hz'] at hcell
 have HZ := hide hz'
 clear hz'
 go_wp2
 go_ret
 have hz'' := unhide HZ
 subst hz''
 exact ⟨k, hk, rfl, hcur, hg⟩

set_option maxHeartbeats 400000 in
set_option maxRecDepth 100000 in
theorem pick_any (base g ca p : Nat) (ao : Option Addr) (xs : List Int) (zs : List ByteArray) (w : World) (hB : base ≤ w.heap.size) (hp : p ≠ g) (hz : 1 ≤ zs.length) (hz2 : zs.length ≤ 256) (hc : ∀ k, k < zs.length → w.cell? ⟨p, k, none⟩ = some (.string (zs.getD k ByteArray.empty))) (h : Cur w base g ao ca xs) :
 Calls Tryz.prog 154 #[.pointer (some ⟨g, 0, none⟩), .slice (some ⟨p, 0, none⟩) zs.length zs.length] w fun e w' => ∃ k : Nat, k < zs.length ∧ e = .returned (.string (zs.getD k ByteArray.empty)) ∧ Cur w' base g ao ca xs ∧ w.grownBy w' (some g) := by
 have HC := hide (below_any base g ca ao xs zs.length w hB (by omega) (by omega) h)
 have HD := hide hc
 clear h hc
 go_enter Tryz.func154, Tryz.ntmps154
 go_wp2_with fail
 refine (unhide HC).mono ?_
 rintro e w' ⟨x, rfl, h0, h1, hcur, hg⟩
 obtain ⟨k, rfl⟩ := Int.eq_ofNat_of_zero_le h0
 have hk : k < zs.length := by omega
 have hcell : w'.cell? ⟨p, k, none⟩ = some (.string (zs.getD k ByteArray.empty)) := by
  have h1 := unhide HD k hk
  exact hg.cell h1 (by simp [hp])
 obtain ⟨z, hz'⟩ : ∃ z, zs.getD k ByteArray.empty = z := ⟨_, rfl⟩
 rw [hz'] at hcell
 have HZ := hide hz'
 clear hz'
 go_wp2
 go_ret
 have hz'' := unhide HZ
 subst hz''
 exact ⟨k, hk, rfl, hcur, hg⟩

theorem new_cur (ao : Option Addr) (ca : Nat) (xs : List Int) (z : Int) (w : World) (hl : xs.length ≤ 1048576)
 (h : xs = [] ∨ ∃ b off, ao = some ⟨b, off, none⟩ ∧ ∀ k, k < xs.length → w.cell? ⟨b, off + k, none⟩ = some (.int .u8 (xs.getD k 0))) (hb : ∀ k, k < xs.length → 0 ≤ xs.getD k 0 ∧ xs.getD k 0 ≤ 255) :
 Cur (w.alloc (.cells #[.slice ao xs.length ca, .int .i64 0, .int .i64 z] 139)) w.heap.size w.heap.size ao ca xs := by
 refine ⟨Nat.le_refl _, by omega, ⟨0, z, heap_alloc_new w _, by omega, by omega⟩, ?_⟩
 rcases h with h | ⟨b, off, rfl, hx⟩
 ·exact .inl h
 ·by_cases h0 : xs = []
  ·exact .inl h0
  ·have hpos : 0 < xs.length := List.length_pos_iff.2 h0
   have hlt : b < w.heap.size := cell_lt (hx 0 hpos)
   refine .inr ⟨b, off, hlt, rfl, fun k hk => ⟨?_, hb k hk⟩⟩
   rw [((Below.refl w.heap.size w).alloc (Nat.le_refl _) _).cell (p := ⟨b, off + k, none⟩) hlt]
   exact hx k hk

set_option maxHeartbeats 800000 in
set_option maxRecDepth 100000 in
theorem new_any (ao : Option Addr) (ca : Nat) (xs : List Int) (w : World) (hl : xs.length ≤ 1048576)
 (h : xs = [] ∨ ∃ b off, ao = some ⟨b, off, none⟩ ∧ ∀ k, k < xs.length → w.cell? ⟨b, off + k, none⟩ = some (.int .u8 (xs.getD k 0))) (hb : ∀ k, k < xs.length → 0 ≤ xs.getD k 0 ∧ xs.getD k 0 ≤ 255) :
 Calls Tryz.prog 52 #[.slice ao xs.length ca] w fun e w' => e = .returned (.pointer (some ⟨w.heap.size, 0, none⟩)) ∧ Cur w' w.heap.size w.heap.size ao ca xs ∧ Below w.heap.size w w' := by
 obtain ⟨n, hn⟩ : ∃ n, xs.length = n := ⟨_, rfl⟩
 have Hn := hide hn
 rw [hn] at hl h hb ⊢
 clear hn
 go_enter Tryz.func52, Tryz.ntmps52
 go_wp2
 go_loop [3, 4] (fun y i => ∃ (k : Nat) (z : Int), k ≤ n ∧ y = .int .i64 z ∧ i = .int .i64 k) (fun _ i => n - (intOf i).toNat)
 case atStart => exact ⟨0, _, by omega, rfl, rfl⟩
 case round =>
  obtain ⟨k, z, hk, rfl, rfl⟩ := hrel
  by_cases hlt : k < n
  ·by_cases h4 : k < 4000
   ·rcases h with rfl | ⟨b, off, rfl, hx⟩
    ·have := unhide Hn; simp at this; omega
    have hc := hx k hlt
    have hbd := hb k hlt
    clear hx hb
    generalize xs.getD k 0 = d at *
    go_wp2
    go_round
    case rel => exact ⟨k + 1, _, by omega, rfl, by go_num⟩
    case measure => simp [intOf]; omega
   ·have hd4 : decide ((k : Int) < 4000) = false := by simp; omega
    have HX := hide h
    have HB := hide hb
    clear h hb
    have HN := fun z => hide (new_cur ao ca xs z w (by rw [unhide Hn]; exact hl) (by rw [unhide Hn]; exact unhide HX) (by rw [unhide Hn]; exact unhide HB))
    rw [unhide Hn] at HN
    go_wp2
    go_ret
    exact ⟨rfl, unhide (HN z), (Below.refl _ _).alloc (Nat.le_refl _) _⟩
  ·have hd : decide ((k : Int) < (n : Int)) = false := by simp; omega
   have HN := fun z => hide (new_cur ao ca xs z w (by rw [unhide Hn]; exact hl) (by rw [unhide Hn]; exact h) (by rw [unhide Hn]; exact hb))
   rw [unhide Hn] at HN
   clear h hb
   go_wp2
   go_ret
   exact ⟨rfl, unhide (HN z), (Below.refl _ _).alloc (Nat.le_refl _) _⟩

theorem lit_ints (w : World) (t : TypeId) (zs : List Int) (k : Nat) (hk : k < zs.length) : (w.alloc (.cells (zs.map (Value.int .i64)).toArray t)).cell? ⟨w.heap.size, k, none⟩ = some (.int .i64 (zs.getD k 0)) := by
 rw [cell_of_row _ w.heap.size k _ t (0, 0) (heap_alloc_new w _)]
 simp [List.getElem?_eq_getElem hk]
theorem lit_texts (w : World) (t : TypeId) (zs : List ByteArray) (k : Nat) (hk : k < zs.length) : (w.alloc (.cells (zs.map Value.string).toArray t)).cell? ⟨w.heap.size, k, none⟩ = some (.string (zs.getD k ByteArray.empty)) := by
 rw [cell_of_row _ w.heap.size k _ t (0, 0) (heap_alloc_new w _)]
 simp [List.getElem?_eq_getElem hk]
theorem Cur.alloc {w : World} {base g ca : Nat} {ao : Option Addr} {xs : List Int} (h : Cur w base g ao ca xs) (hB : base ≤ w.heap.size) (o : Obj) : Cur (w.alloc o) base g ao ca xs := by
 have hg : g < w.heap.size := by
  obtain ⟨i, hh, hc, _⟩ := h.cells
  exact (Array.getElem?_eq_some_iff.1 hc).1
 have hb : Below w.heap.size w (w.alloc o) := (Below.refl _ _).alloc (Nat.le_refl _) o
 refine ⟨h.low, h.len, ?_, ?_⟩
 ·obtain ⟨i, hh, hc, h0, h1⟩ := h.cells
  exact ⟨i, hh, (hb.block g hg).trans hc, h0, h1⟩
 ·rcases h.code with h' | ⟨b, off, hbb, ha, hx⟩
  ·exact .inl h'
  ·exact .inr ⟨b, off, hbb, ha, fun k hk => ⟨(hb.cell (p := ⟨b, off + k, none⟩) (by show b < _; omega)).trans (hx k hk).1, (hx k hk).2⟩⟩

structure DCode (w : World) (ao : Option Addr) (xs : List Int) : Prop where
 len : xs.length ≤ 1048576
 code : xs = [] ∨ ∃ b off, ao = some ⟨b, off, none⟩ ∧ ∀ k, k < xs.length → w.cell? ⟨b, off + k, none⟩ = some (.int .u8 (xs.getD k 0))
 fit : ∀ k, k < xs.length → 0 ≤ xs.getD k 0 ∧ xs.getD k 0 ≤ 255
theorem DCode.below {w w' : World} {B : Nat} {ao : Option Addr} {xs : List Int} (h : DCode w ao xs) (hb : Below B w w') (hB : w.heap.size ≤ B) : DCode w' ao xs := by
 refine ⟨h.len, ?_, h.fit⟩
 rcases h.code with h' | ⟨b, off, ha, hx⟩
 ·exact .inl h'
 ·exact .inr ⟨b, off, ha, fun k hk => (hb.cell (Nat.lt_of_lt_of_le (cell_lt (hx k hk)) hB)).trans (hx k hk)⟩

theorem pickInt_lit (base g ca : Nat) (ao : Option Addr) (xs zs : List Int) (w : World) (hB : base ≤ w.heap.size) (hz : 1 ≤ zs.length) (hz2 : zs.length ≤ 256) (h : Cur w base g ao ca xs) :
 Calls Tryz.prog 119 #[.pointer (some ⟨g, 0, none⟩), .slice (some ⟨w.heap.size, 0, none⟩) zs.length zs.length] (w.alloc (.cells (zs.map (Value.int .i64)).toArray 3)) fun e w' =>
  ∃ x : Int, e = .returned (.int .i64 x) ∧ x ∈ zs ∧ Cur w' base g ao ca xs ∧ w.grownBy w' (some g) := by
 have hg : g < w.heap.size := by
  obtain ⟨i, hh, hc, _⟩ := h.cells
  exact (Array.getElem?_eq_some_iff.1 hc).1
 refine (pickInt_any base g ca w.heap.size ao xs zs _ (by simp; omega) (by omega) hz hz2 (fun k hk => lit_ints w _ zs k hk) (h.alloc hB _)).mono ?_
 rintro e w' ⟨k, hk, rfl, hc, hgr⟩
 refine ⟨_, rfl, ?_, hc, grown_trans (World.grownBy_alloc w _ _) hgr⟩
 rw [List.getD_eq_getElem?_getD, List.getElem?_eq_getElem hk]
 exact List.getElem_mem hk
theorem pick_lit (base g ca : Nat) (ao : Option Addr) (xs : List Int) (zs : List ByteArray) (w : World) (hB : base ≤ w.heap.size) (hz : 1 ≤ zs.length) (hz2 : zs.length ≤ 256) (h : Cur w base g ao ca xs) :
 Calls Tryz.prog 154 #[.pointer (some ⟨g, 0, none⟩), .slice (some ⟨w.heap.size, 0, none⟩) zs.length zs.length] (w.alloc (.cells (zs.map Value.string).toArray 9)) fun e w' =>
  ∃ x : ByteArray, e = .returned (.string x) ∧ x ∈ zs ∧ Cur w' base g ao ca xs ∧ w.grownBy w' (some g) := by
 have hg : g < w.heap.size := by
  obtain ⟨i, hh, hc, _⟩ := h.cells
  exact (Array.getElem?_eq_some_iff.1 hc).1
 refine (pick_any base g ca w.heap.size ao xs zs _ (by simp; omega) (by omega) hz hz2 (fun k hk => lit_texts w _ zs k hk) (h.alloc hB _)).mono ?_
 rintro e w' ⟨k, hk, rfl, hc, hgr⟩
 refine ⟨_, rfl, ?_, hc, grown_trans (World.grownBy_alloc w _ _) hgr⟩
 rw [List.getD_eq_getElem?_getD, List.getElem?_eq_getElem hk]
 exact List.getElem_mem hk
theorem cur_below {w w' : World} {g : Nat} (hg : w.grownBy w' (some g)) {a : World} {B : Nat} (hb : Below B a w) (hB : B ≤ w.heap.size) (hlow : B ≤ g) : Below B a w' :=
 hb.grown hg hB (fun k hk => by simp at hk; omega)
end Go.Proofs.YtmpmedbojfjnaaaGreatDoor
namespace Go.Proofs.YtmpmedbojfjnaaaGreatDoor

def put : Nat → Nat → List Int
 | 0, n => [(n : Int)]
 | f + 1, n => if n ≤ 127 then [(n : Int)] else ((n : Int) % 128 + 128) :: put f (n / 128)
def At (n : Nat) (f m : Nat) (done : List Int) : Prop := done ++ put f m = put 4 n ∧ m < 128 ^ (f + 1) ∧ done.length + f = 4
end Go.Proofs.YtmpmedbojfjnaaaGreatDoor
namespace Go.Proofs.YtmpmedbojfjnaaaGreatDoor
open Go.RowKit

def bs (s : ByteArray) : List Int := s.data.toList.map fun b => (b.toNat : Int)

def BytesL (ys : List Int) : Prop := ∀ y ∈ ys, 0 ≤ y ∧ y ≤ 255
theorem BytesL.append {a b : List Int} (ha : BytesL a) (hb : BytesL b) : BytesL (a ++ b) := fun y hy => by
 rcases List.mem_append.1 hy with h | h
 ·exact ha y h
 ·exact hb y h
theorem OB.grown {w w' : World} {base g : Nat} {v : Value} {xs : List Int} (h : OB w base v xs) (hg : w.grownBy w' (some g)) (hlt : g < base) : OB w' base v xs :=
 World.ownsRow.kept h hg (by
  cases hv : v.ownBlock with
  | none => exact .inl rfl
  | some k => exact .inr fun e => by have := (World.ownsRow.lt h k hv).1; simp at e; omega)
theorem Cur.lt {w : World} {base g ca : Nat} {ao : Option Addr} {xs : List Int} (h : Cur w base g ao ca xs) : g < w.heap.size := by
 obtain ⟨i, hh, hc, _⟩ := h.cells
 exact (Array.getElem?_eq_some_iff.1 hc).1
theorem Cur.below {w w' : World} {base g ca : Nat} {ao : Option Addr} {xs : List Int} (h : Cur w base g ao ca xs) (hB : base ≤ w.heap.size) (hb : Below w.heap.size w w') : Cur w' base g ao ca xs := by
 have hg := h.lt
 refine ⟨h.low, h.len, ?_, ?_⟩
 ·obtain ⟨i, hh, hc, h0, h1⟩ := h.cells
  exact ⟨i, hh, (hb.block g hg).trans hc, h0, h1⟩
 ·rcases h.code with h' | ⟨b, off, hbb, ha, hx⟩
  ·exact .inl h'
  ·exact .inr ⟨b, off, hbb, ha, fun k hk => ⟨(hb.cell (p := ⟨b, off + k, none⟩) (by show b < _; omega)).trans (hx k hk).1, (hx k hk).2⟩⟩
theorem grown_below {w w' : World} (h : Below w.heap.size w w') (row : Option Nat) : w.grownBy w' row := ⟨h.os, h.tape, h.output, h.size, fun k hk _ => h.block k hk⟩
theorem grown_new {a b c : World} {row row' : Option Nat} (h : a.grownBy b row) (k : b.grownBy c row') (hr : ∀ j, row' = some j → a.heap.size ≤ j) : a.grownBy c row :=
 ⟨k.os.trans h.os, k.tape.trans h.tape, k.output.trans h.output, Nat.le_trans h.size k.size, fun i hi hne => (k.block i (Nat.lt_of_lt_of_le hi h.size) (fun e => by have := hr i e.symm; omega)).trans (h.block i hi hne)⟩
theorem Cur.grownNew {w w' : World} {base g ca : Nat} {ao : Option Addr} {xs : List Int} {row : Option Nat} (h : Cur w base g ao ca xs) (hg : w.grownBy w' row) (hr : ∀ j, row = some j → g < j) : Cur w' base g ao ca xs := by
 have hlt := h.lt
 have hlow := h.low
 refine ⟨h.low, h.len, ?_, ?_⟩
 ·obtain ⟨i, hh, hc, h0, h1⟩ := h.cells
  exact ⟨i, hh, (hg.block g hlt (fun e => by have := hr g e.symm; omega)).trans hc, h0, h1⟩
 ·rcases h.code with h' | ⟨b, off, hbb, ha, hx⟩
  ·exact .inl h'
  ·refine .inr ⟨b, off, hbb, ha, fun k hk => ⟨?_, (hx k hk).2⟩⟩
   rw [World.cell?_of_block (w := w) (hg.block b (by omega) (fun e => by have := hr b e.symm; omega))]
   exact (hx k hk).1
end Go.Proofs.YtmpmedbojfjnaaaGreatDoor
namespace Go.Proofs.YtmpmedbojfjnaaaGreatDoor

def joinTo (b : UInt8) (ps : List ByteArray) : Nat → List UInt8
 | 0 => []
 | j + 1 => (if 0 < j then joinTo b ps j ++ [b] else joinTo b ps j) ++ (ps.getD j ByteArray.empty).data.toList
theorem joinTo_pre (b : UInt8) (ps qs : List ByteArray) (j : Nat) (h : j ≤ ps.length) : joinTo b (ps ++ qs) j = joinTo b ps j := by
 induction j with
 | zero => rfl
 | succ j ih =>
  have e : (ps ++ qs).getD j ByteArray.empty = ps.getD j ByteArray.empty := by
   rw [List.getD_eq_getElem?_getD, List.getD_eq_getElem?_getD, List.getElem?_append_left (by omega)]
  rw [joinTo, joinTo, ih (by omega), e]
theorem joinTo_snoc (b : UInt8) (ps : List ByteArray) (x : ByteArray) : joinTo b (ps ++ [x]) (ps.length + 1) = (if 0 < ps.length then joinTo b ps ps.length ++ [b] else joinTo b ps ps.length) ++ x.data.toList := by
 have e : (ps ++ [x]).getD ps.length ByteArray.empty = x := by simp
 rw [joinTo, joinTo_pre b ps [x] ps.length (Nat.le_refl _), e]
theorem ext_cut (s : ByteArray) (i j : Nat) : (s.extract i j).data.toList = (s.data.toList.drop i).take (j - i) := by
 rw [ByteArray.data_extract, Array.toList_extract]
theorem split_inv (s : ByteArray) (b : UInt8) (k : Nat) (hk : k ≤ s.size) :
 ((pcs s b.toNat k).1 = [] ∧ (pcs s b.toNat k).2 = 0) ∨ (0 < (pcs s b.toNat k).1.length ∧ joinTo b (pcs s b.toNat k).1 (pcs s b.toNat k).1.length ++ [b] = s.data.toList.take (pcs s b.toNat k).2) := by
 induction k with
 | zero => left; simp [pcs]
 | succ k ih =>
  have ih := ih (by omega)
  have hks : k < s.size := by omega
  by_cases hb : (s[k].toNat : Int) = b.toNat
  ·rw [pcs_hit s _ k hks hb]
   right
   have hle := (pcs_le s b.toNat k).1
   have hbb : s[k] = b := by
    apply UInt8.toNat_inj.1; omega
   have htk : s.data.toList.take (k + 1) = s.data.toList.take k ++ [b] := by
    rw [List.take_succ_eq_append_getElem (by simpa using hks)]
    congr 1
    rw [← hbb]; rfl
   refine ⟨by simp, ?_⟩
   simp only [List.length_append, List.length_cons, List.length_nil, Nat.zero_add]
   rw [joinTo_snoc, ext_cut, htk]
   congr 1
   rcases ih with ⟨h1, h2⟩ | ⟨h1, h2⟩
   ·rw [h1, h2]; simp [joinTo]
   ·rw [if_pos h1, h2]
    rw [← List.take_add]
    congr 1; omega
  ·rw [pcs_miss s _ k hks hb]; exact ih
theorem split_join (s : ByteArray) (b : UInt8) : joinTo b (splitAns s b.toNat) (splitAns s b.toNat).length = s.data.toList := by
 have hle := (pcs_le s b.toNat s.size).1
 have hinv := split_inv s b s.size (Nat.le_refl _)
 have hlen : s.data.toList.length = s.size := by simp
 unfold splitAns
 simp only [List.length_append, List.length_cons, List.length_nil, Nat.zero_add]
 rw [joinTo_snoc, ext_cut]
 rcases hinv with ⟨h1, h2⟩ | ⟨h1, h2⟩
 ·rw [h1, h2]
  simp only [List.length_nil, joinTo, List.drop_zero, Nat.sub_zero]
  rw [List.take_of_length_le (by omega)]; simp
 ·rw [if_pos h1, h2, ← List.take_add, List.take_of_length_le (by omega)]
end Go.Proofs.YtmpmedbojfjnaaaGreatDoor
