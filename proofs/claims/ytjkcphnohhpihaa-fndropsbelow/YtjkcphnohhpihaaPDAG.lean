/- Lemmas; their conditions stand in each statement. -/
import Derived.Lib.Atoi
import Derived.Test.YtjkcphnohhpihaaPDAD
import Derived.Lib.AtoiErrMem
set_option maxRecDepth 100000
set_option maxHeartbeats 4000000
set_option linter.unusedSectionVars false
namespace Go.Proofs.Ytjkcphnohhpihaa
section
open Go.RowKit
structure Cur (w : World) (base g : Nat) (ao : Option Addr) (ca : Nat) (xs : List Int) : Prop where
 low : base ≤ g
 len : xs.length ≤ 140737488355328
 cells : ∃ i h : Int, w.heap[g]? = some (.cells #[.slice ao xs.length ca,.int .i64 i,.int .i64 h] 62 (0, 0)) ∧ 0 ≤ i ∧ i ≤ xs.length
 code : xs = [] ∨ ∃ b off, b < base ∧ ao = some ⟨b, off, none⟩ ∧ ∀ k, k < xs.length → w.cell? ⟨b, off + k, none⟩ = some (.int .u8 (xs.getD k 0)) ∧ 0 ≤ xs.getD k 0 ∧ xs.getD k 0 ≤ 255

theorem i64_and255 (n : Int) : bits .and .i64 n 255 = n % 256 := by
 have h255 : (BitVec.ofInt 64 255).toNat = 2 ^ 8 - 1:=by decide
 have key : (BitVec.ofInt 64 n &&& BitVec.ofInt 64 255).toNat = (n % ((2 ^ 64 : Nat) : Int)).toNat % 2 ^ 8:=by
  rw [BitVec.toNat_and, BitVec.toNat_ofInt, h255, Nat.and_two_pow_sub_one_eq_mod]
 show IntKind.i64.wrap ((BitVec.ofInt 64 n &&& BitVec.ofInt 64 255).toNat : Nat) = n % 256
 rw [key, IntKind.wrap_i64]
 omega
theorem and255 (n : Int) : 0 ≤ bits .and .i64 n 255 ∧ bits .and .i64 n 255 ≤ 255 := by rw [i64_and255]; omega

theorem three_cells {w : World} {g : Nat} {x y z : Value} {t : TypeId} (h : w.heap[g]? = some (.cells #[x, y, z] t (0, 0))) :
 w.cell? ⟨g, 0, none⟩ = some x ∧ w.cell? ⟨g, 1, none⟩ = some y ∧ w.cell? ⟨g, 2, none⟩ = some z ∧ w.frozen? ⟨g, 0, none⟩ = false ∧ w.frozen? ⟨g, 1, none⟩ = false ∧ w.frozen? ⟨g, 2, none⟩ = false := by
 refine ⟨?_, ?_, ?_, frozen_of_row w g 0 _ t h, frozen_of_row w g 1 _ t h, frozen_of_row w g 2 _ t h⟩
 ·rw [cell_of_row w g 0 _ t (0, 0) h]; rfl
 ·rw [cell_of_row w g 1 _ t (0, 0) h]; rfl
 rw [cell_of_row w g 2 _ t (0, 0) h]; rfl

theorem set_two {w : World} {g : Nat} {x y z : Value} {t : TypeId} (h : w.heap[g]? = some (.cells #[x, y, z] t (0, 0))) (u : Value) : (w.setCell ⟨g, 2, none⟩ u).heap[g]? = some (.cells #[x, y, u] t (0, 0)) := by
 rw [heap_setCell_same w g 2 _ t u h]; rfl
theorem set_one {w : World} {g : Nat} {x y z : Value} {t : TypeId} (h : w.heap[g]? = some (.cells #[x, y, z] t (0, 0))) (u : Value) : (w.setCell ⟨g, 1, none⟩ u).heap[g]? = some (.cells #[x, u, z] t (0, 0)) := by
 rw [heap_setCell_same w g 1 _ t u h]; rfl
theorem set_grown (w : World) (g j : Nat) (u : Value) : w.grownBy (w.setCell ⟨g, j, none⟩ u) (some g) :=
 ⟨rfl, rfl, rfl, by simp, fun k _ hk => heap_setCell_other w ⟨g, j, none⟩ k u (fun e => hk (by simp [e]))⟩

theorem grown_drewN {a b : World} {row : Option Nat} (h : a.grownBy b row) (n : Nat) : a.grownBy (b.drewN n) row := ⟨h.os, h.tape, h.output, h.size, h.block⟩

def ByteEnd (w : World) (g ca : Nat) (ao : Option Addr) (xs : List Int) (e : Ending) (w' : World) : Prop :=
 ∃ x : Int, e = .returned (.int .i64 x) ∧ 0 ≤ x ∧ x ≤ 255 ∧ (∃ i h : Int, w'.heap[g]? = some (.cells #[.slice ao xs.length ca,.int .i64 i,.int .i64 h] 62 (0, 0)) ∧ 0 ≤ i ∧ i ≤ xs.length) ∧ w.grownBy w' (some g)

theorem byte_end (g ca : Nat) (ao : Option Addr) (xs : List Int) (h : Int) (w : World) (hl : xs.length ≤ 140737488355328)
 (hc : w.heap[g]? = some (.cells #[.slice ao xs.length ca,.int .i64 xs.length,.int .i64 h] 62 (0, 0))) :
 Calls Try.prog 40 #[.pointer (some ⟨g, 0, none⟩)] w (ByteEnd w g ca ao xs) := by
 obtain ⟨c0, c1, c2, f0, f1, f2⟩:=three_cells hc
 have HC:=hide hc
 clear hc
 go_enter Try.func40, Try.ntmps40
 go_wp2_with fail
 go_quiet (fail)
 go_wp2_with fail
 go_quiet (fail)
 go_wp2
 go_ret
 exact ⟨_, rfl, (and255 _).1, (and255 _).2, ⟨_, _, set_two HC.out _, by omega, by omega⟩, grown_drewN (grown_drewN (set_grown _ _ _ _) _) _⟩

theorem byte_mid (g ca b off : Nat) (xs : List Int) (i : Nat) (h : Int) (w : World) (hl : xs.length ≤ 140737488355328) (hbg : b ≠ g)
 (hc : w.heap[g]? = some (.cells #[.slice (some ⟨b, off, none⟩) xs.length ca,.int .i64 i,.int .i64 h] 62 (0, 0))) (hi : i < xs.length)
 (hb : w.cell? ⟨b, off + i, none⟩ = some (.int .u8 (xs.getD i 0))) (hx : 0 ≤ xs.getD i 0 ∧ xs.getD i 0 ≤ 255) :
 Calls Try.prog 40 #[.pointer (some ⟨g, 0, none⟩)] w (ByteEnd w g ca (some ⟨b, off, none⟩) xs) := by
 obtain ⟨c0, c1, c2, f0, f1, f2⟩:=three_cells hc
 have HC:=hide hc
 clear hc
 generalize xs.getD i 0 = d at *
 go_enter Try.func40, Try.ntmps40
 go_wp2_with fail
 go_quiet (fail)
 go_wp2_with fail
 go_quiet (fail)
 go_wp2_with fail
 go_quiet (fail)
 go_wp2
 go_ret
 exact ⟨_, rfl, (and255 _).1, (and255 _).2, ⟨_, _, set_one (set_two HC.out _) _, by omega, by omega⟩, grown_trans (grown_drewN (set_grown _ _ _ _) _) (set_grown _ _ _ _)⟩

theorem Cur.grown {w w' : World} {base g ca : Nat} {ao : Option Addr} {xs : List Int} (h : Cur w base g ao ca xs) (hg : w.grownBy w' (some g)) (hB : base ≤ w.heap.size)
 (hc : ∃ i h : Int, w'.heap[g]? = some (.cells #[.slice ao xs.length ca,.int .i64 i,.int .i64 h] 62 (0, 0)) ∧ 0 ≤ i ∧ i ≤ xs.length) : Cur w' base g ao ca xs := by
 refine ⟨h.low, h.len, hc, ?_⟩
 rcases h.code with h' | ⟨b, off, hb, ha, hx⟩
 ·exact .inl h'
 refine .inr ⟨b, off, hb, ha, fun k hk => ⟨?_, (hx k hk).2⟩⟩
 have hlow:=h.low
 rw [World.cell?_of_block (w := w) (hg.block b (by omega) (by simp; omega))]
 exact (hx k hk).1
theorem byte_any (base g ca : Nat) (ao : Option Addr) (xs : List Int) (w : World) (hB : base ≤ w.heap.size) (h : Cur w base g ao ca xs) :
 Calls Try.prog 40 #[.pointer (some ⟨g, 0, none⟩)] w fun e w' => ∃ x : Int, e = .returned (.int .i64 x) ∧ 0 ≤ x ∧ x ≤ 255 ∧ Cur w' base g ao ca xs ∧ w.grownBy w' (some g) := by
 have key : Calls Try.prog 40 #[.pointer (some ⟨g, 0, none⟩)] w (ByteEnd w g ca ao xs):=by
  obtain ⟨i, hh, hc, h0, h1⟩:=h.cells
  by_cases hi : i = xs.length
  ·subst hi; exact byte_end g ca ao xs hh w h.len hc
  obtain ⟨k, rfl⟩:=Int.eq_ofNat_of_zero_le h0
  rcases h.code with h' | ⟨b, off, hb, rfl, hx⟩
  ·subst h'; simp at h1; simp at hi; omega
  have hlow:=h.low
  exact byte_mid g ca b off xs k hh w h.len (by omega) hc (by omega) (hx k (by omega)).1 (hx k (by omega)).2
 refine key.mono ?_
 rintro e w' ⟨x, rfl, h0, h1, hc, hg⟩
 exact ⟨x, rfl, h0, h1, h.grown hg hB hc, hg⟩

theorem below_any (base g ca : Nat) (ao : Option Addr) (xs : List Int) (n : Int) (w : World) (hB : base ≤ w.heap.size) (hn : 1 ≤ n) (hm : n ≤ 256) (h : Cur w base g ao ca xs) :
 Calls Try.prog 30 #[.pointer (some ⟨g, 0, none⟩),.int .i64 n] w fun e w' => ∃ x : Int, e = .returned (.int .i64 x) ∧ 0 ≤ x ∧ x < n ∧ Cur w' base g ao ca xs ∧ w.grownBy w' (some g) := by
 have HC:=hide (byte_any base g ca ao xs w hB h)
 clear h
 go_enter Try.func30, Try.ntmps30
 go_wp2_with fail
 refine HC.out.mono ?_
 rintro e w' ⟨x, rfl, h0, h1, hc, hg⟩
 go_wp2
 go_ret
 exact ⟨_, rfl, Int.emod_nonneg _ (by omega), Int.emod_lt_of_pos _ (by omega), hc, hg⟩

theorem once_any (base g ca : Nat) (ao : Option Addr) (xs : List Int) (n : Int) (w : World) (hB : base ≤ w.heap.size) (hn : 1 ≤ n) (hm : n ≤ 256) (h : Cur w base g ao ca xs) :
 Calls Try.prog 38 #[.pointer (some ⟨g, 0, none⟩),.int .i64 n] w fun e w' => ∃ b : Bool, e = .returned (.bool b) ∧ Cur w' base g ao ca xs ∧ w.grownBy w' (some g) := by
 have HC:=hide (below_any base g ca ao xs n w hB hn hm h)
 clear h
 go_enter Try.func38, Try.ntmps38
 go_wp2_with fail
 refine HC.out.mono ?_
 rintro e w' ⟨x, rfl, h0, h1, hc, hg⟩
 go_wp2
 go_ret
 exact ⟨_, rfl, hc, hg⟩

theorem pickInt_any (base g ca p : Nat) (ao : Option Addr) (xs zs : List Int) (w : World) (hB : base ≤ w.heap.size) (hp : p ≠ g) (hz : 1 ≤ zs.length) (hz2 : zs.length ≤ 256) (hc : ∀ k, k < zs.length → w.cell? ⟨p, k, none⟩ = some (.int .i64 (zs.getD k 0))) (h : Cur w base g ao ca xs) :
 Calls Try.prog 53 #[.pointer (some ⟨g, 0, none⟩),.slice (some ⟨p, 0, none⟩) zs.length zs.length] w fun e w' => ∃ k : Nat, k < zs.length ∧ e = .returned (.int .i64 (zs.getD k 0)) ∧ Cur w' base g ao ca xs ∧ w.grownBy w' (some g) := by
 have HC:=hide (below_any base g ca ao xs zs.length w hB (by omega) (by omega) h)
 have HD:=hide hc
 clear h hc
 go_enter Try.func53, Try.ntmps53
 go_wp2_with fail
 refine HC.out.mono ?_
 rintro e w' ⟨x, rfl, h0, h1, hcur, hg⟩
 obtain ⟨k, rfl⟩:=Int.eq_ofNat_of_zero_le h0
 have hk : k < zs.length:=by omega
 have hcell : w'.cell? ⟨p, k, none⟩ = some (.int .i64 (zs.getD k 0)):=by
  have h1:=HD.out k hk
  exact hg.cell h1 (by simp [hp])
 obtain ⟨z, hz'⟩ : ∃ z, zs.getD k 0 = z:=⟨_, rfl⟩
 rw [hz'] at hcell
 have HZ:=hide hz'
 clear hz'
 go_wp2
 go_ret
 have hz'':=HZ.out
 subst hz''
 exact ⟨k, hk, rfl, hcur, hg⟩

theorem pick_any (base g ca p : Nat) (ao : Option Addr) (xs : List Int) (zs : List ByteArray) (w : World) (hB : base ≤ w.heap.size) (hp : p ≠ g) (hz : 1 ≤ zs.length) (hz2 : zs.length ≤ 256) (hc : ∀ k, k < zs.length → w.cell? ⟨p, k, none⟩ = some (.string (zs.getD k ByteArray.empty))) (h : Cur w base g ao ca xs) :
 Calls Try.prog 75 #[.pointer (some ⟨g, 0, none⟩),.slice (some ⟨p, 0, none⟩) zs.length zs.length] w fun e w' => ∃ k : Nat, k < zs.length ∧ e = .returned (.string (zs.getD k ByteArray.empty)) ∧ Cur w' base g ao ca xs ∧ w.grownBy w' (some g) := by
 have HC:=hide (below_any base g ca ao xs zs.length w hB (by omega) (by omega) h)
 have HD:=hide hc
 clear h hc
 go_enter Try.func75, Try.ntmps75
 go_wp2_with fail
 refine HC.out.mono ?_
 rintro e w' ⟨x, rfl, h0, h1, hcur, hg⟩
 obtain ⟨k, rfl⟩:=Int.eq_ofNat_of_zero_le h0
 have hk : k < zs.length:=by omega
 have hcell : w'.cell? ⟨p, k, none⟩ = some (.string (zs.getD k ByteArray.empty)):=by
  have h1:=HD.out k hk
  exact hg.cell h1 (by simp [hp])
 obtain ⟨z, hz'⟩ : ∃ z, zs.getD k ByteArray.empty = z:=⟨_, rfl⟩
 rw [hz'] at hcell
 have HZ:=hide hz'
 clear hz'
 go_wp2
 go_ret
 have hz'':=HZ.out
 subst hz''
 exact ⟨k, hk, rfl, hcur, hg⟩

theorem new_cur (ao : Option Addr) (ca : Nat) (xs : List Int) (z : Int) (w : World) (hl : xs.length ≤ 1048576)
 (h : xs = [] ∨ ∃ b off, ao = some ⟨b, off, none⟩ ∧ ∀ k, k < xs.length → w.cell? ⟨b, off + k, none⟩ = some (.int .u8 (xs.getD k 0))) (hb : ∀ k, k < xs.length → 0 ≤ xs.getD k 0 ∧ xs.getD k 0 ≤ 255) :
 Cur (w.alloc (.cells #[.slice ao xs.length ca,.int .i64 0,.int .i64 z] 62)) w.heap.size w.heap.size ao ca xs := by
 refine ⟨Nat.le_refl _, by omega, ⟨0, z, heap_alloc_new w _, by omega, by omega⟩, ?_⟩
 rcases h with h | ⟨b, off, rfl, hx⟩
 ·exact .inl h
 by_cases h0 : xs = []
 ·exact .inl h0
 have hpos : 0 < xs.length:=List.length_pos_iff.2 h0
 have hlt : b < w.heap.size:=cell_lt (hx 0 hpos)
 refine .inr ⟨b, off, hlt, rfl, fun k hk => ⟨?_, hb k hk⟩⟩
 rw [((Below.refl w.heap.size w).alloc (Nat.le_refl _) _).cell (p := ⟨b, off + k, none⟩) hlt]
 exact hx k hk

theorem new_any (ao : Option Addr) (ca : Nat) (xs : List Int) (w : World) (hl : xs.length ≤ 1048576)
 (h : xs = [] ∨ ∃ b off, ao = some ⟨b, off, none⟩ ∧ ∀ k, k < xs.length → w.cell? ⟨b, off + k, none⟩ = some (.int .u8 (xs.getD k 0))) (hb : ∀ k, k < xs.length → 0 ≤ xs.getD k 0 ∧ xs.getD k 0 ≤ 255) :
 Calls Try.prog 27 #[.slice ao xs.length ca] w fun e w' => e = .returned (.pointer (some ⟨w.heap.size, 0, none⟩)) ∧ Cur w' w.heap.size w.heap.size ao ca xs ∧ Below w.heap.size w w' := by
 obtain ⟨n, hn⟩ : ∃ n, xs.length = n:=⟨_, rfl⟩
 have Hn:=hide hn
 rw [hn] at hl h hb ⊢
 clear hn
 go_enter Try.func27, Try.ntmps27
 go_wp2
 go_loop [3, 4] (fun y i => ∃ (k : Nat) (z : Int), k ≤ n ∧ y = .int .i64 z ∧ i = .int .i64 k) (fun _ i => n - (intOf i).toNat)
 case atStart => exact ⟨0, _, by omega, rfl, rfl⟩
 case round =>
  obtain ⟨k, z, hk, rfl, rfl⟩:=hrel
  by_cases hlt : k < n
  ·by_cases h4 : k < 4000
   ·rcases h with rfl | ⟨b, off, rfl, hx⟩
    ·have:=Hn.out; simp at this; omega
    have hc:=hx k hlt
    have hbd:=hb k hlt
    clear hx hb
    generalize xs.getD k 0 = d at *
    go_wp2
    go_round
    case rel => exact ⟨k + 1, _, by omega, rfl, by go_num⟩
    case measure => simp [intOf]; omega
   have hd4 : decide ((k : Int) < 4000) = false:=by simp; omega
   have HX:=hide h
   have HB:=hide hb
   clear h hb
   have HN:=fun z => hide (new_cur ao ca xs z w (by rw [Hn.out]; exact hl) (by rw [Hn.out]; exact HX.out) (by rw [Hn.out]; exact HB.out))
   rw [Hn.out] at HN
   go_wp2
   go_ret
   exact ⟨rfl, unhide (HN z), (Below.refl _ _).alloc (Nat.le_refl _) _⟩
  have hd : decide ((k : Int) < (n : Int)) = false:=by simp; omega
  have HN:=fun z => hide (new_cur ao ca xs z w (by rw [Hn.out]; exact hl) (by rw [Hn.out]; exact h) (by rw [Hn.out]; exact hb))
  rw [Hn.out] at HN
  clear h hb
  go_wp2
  go_ret
  exact ⟨rfl, unhide (HN z), (Below.refl _ _).alloc (Nat.le_refl _) _⟩
theorem lit_ints (w : World) (t : TypeId) (zs : List Int) (k : Nat) (hk : k < zs.length) : (w.alloc (.cells (zs.map (Value.int .i64)).toArray t)).cell? ⟨w.heap.size, k, none⟩ = some (.int .i64 (zs.getD k 0)) := by
 rw [cell_of_row _ w.heap.size k _ t (0, 0) (heap_alloc_new w _)]
 simp [List.getElem?_eq_getElem hk]
theorem lit_texts (w : World) (t : TypeId) (zs : List ByteArray) (k : Nat) (hk : k < zs.length) : (w.alloc (.cells (zs.map Value.string).toArray t)).cell? ⟨w.heap.size, k, none⟩ = some (.string (zs.getD k ByteArray.empty)) := by
 rw [cell_of_row _ w.heap.size k _ t (0, 0) (heap_alloc_new w _)]
 simp [List.getElem?_eq_getElem hk]
theorem Cur.alloc {w : World} {base g ca : Nat} {ao : Option Addr} {xs : List Int} (h : Cur w base g ao ca xs) (hB : base ≤ w.heap.size) (o : Obj) : Cur (w.alloc o) base g ao ca xs := by
 have hg : g < w.heap.size:=by
  obtain ⟨i, hh, hc, _⟩:=h.cells
  exact (Array.getElem?_eq_some_iff.1 hc).1
 have hb : Below w.heap.size w (w.alloc o):=(Below.refl _ _).alloc (Nat.le_refl _) o
 refine ⟨h.low, h.len, ?_, ?_⟩
 ·obtain ⟨i, hh, hc, h0, h1⟩:=h.cells
  exact ⟨i, hh, (hb.block g hg).trans hc, h0, h1⟩
 rcases h.code with h' | ⟨b, off, hbb, ha, hx⟩
 ·exact .inl h'
 exact .inr ⟨b, off, hbb, ha, fun k hk => ⟨(hb.cell (p := ⟨b, off + k, none⟩) (by show b < _; omega)).trans (hx k hk).1, (hx k hk).2⟩⟩

structure DCode (w : World) (ao : Option Addr) (xs : List Int) : Prop where
 len : xs.length ≤ 1048576
 code : xs = [] ∨ ∃ b off, ao = some ⟨b, off, none⟩ ∧ ∀ k, k < xs.length → w.cell? ⟨b, off + k, none⟩ = some (.int .u8 (xs.getD k 0))
 fit : ∀ k, k < xs.length → 0 ≤ xs.getD k 0 ∧ xs.getD k 0 ≤ 255
theorem DCode.below {w w' : World} {B : Nat} {ao : Option Addr} {xs : List Int} (h : DCode w ao xs) (hb : Below B w w') (hB : w.heap.size ≤ B := by exact Nat.le_refl _) : DCode w' ao xs := by
 refine ⟨h.len, ?_, h.fit⟩
 rcases h.code with h' | ⟨b, off, ha, hx⟩
 ·exact .inl h'
 exact .inr ⟨b, off, ha, fun k hk => (hb.cell (Nat.lt_of_lt_of_le (cell_lt (hx k hk)) hB)).trans (hx k hk)⟩

theorem pickInt_lit (base g ca : Nat) (ao : Option Addr) (xs zs : List Int) (w : World) (hB : base ≤ w.heap.size) (hz : 1 ≤ zs.length) (hz2 : zs.length ≤ 256) (h : Cur w base g ao ca xs) :
 Calls Try.prog 53 #[.pointer (some ⟨g, 0, none⟩),.slice (some ⟨w.heap.size, 0, none⟩) zs.length zs.length] (w.alloc (.cells (zs.map (Value.int .i64)).toArray 3)) fun e w' =>
  ∃ x : Int, e = .returned (.int .i64 x) ∧ x ∈ zs ∧ Cur w' base g ao ca xs ∧ w.grownBy w' (some g) := by
 have hg : g < w.heap.size:=by
  obtain ⟨i, hh, hc, _⟩:=h.cells
  exact (Array.getElem?_eq_some_iff.1 hc).1
 refine (pickInt_any base g ca w.heap.size ao xs zs _ (by simp; omega) (by omega) hz hz2 (fun k hk => lit_ints w _ zs k hk) (h.alloc hB _)).mono ?_
 rintro e w' ⟨k, hk, rfl, hc, hgr⟩
 refine ⟨_, rfl, ?_, hc, grown_trans (World.grownBy_alloc w _ _) hgr⟩
 rw [List.getD_eq_getElem?_getD, List.getElem?_eq_getElem hk]
 exact List.getElem_mem hk
theorem pick_lit (base g ca : Nat) (ao : Option Addr) (xs : List Int) (zs : List ByteArray) (w : World) (hB : base ≤ w.heap.size) (hz : 1 ≤ zs.length) (hz2 : zs.length ≤ 256) (h : Cur w base g ao ca xs) :
 Calls Try.prog 75 #[.pointer (some ⟨g, 0, none⟩),.slice (some ⟨w.heap.size, 0, none⟩) zs.length zs.length] (w.alloc (.cells (zs.map Value.string).toArray 9)) fun e w' =>
  ∃ x : ByteArray, e = .returned (.string x) ∧ x ∈ zs ∧ Cur w' base g ao ca xs ∧ w.grownBy w' (some g) := by
 have hg : g < w.heap.size:=by
  obtain ⟨i, hh, hc, _⟩:=h.cells
  exact (Array.getElem?_eq_some_iff.1 hc).1
 refine (pick_any base g ca w.heap.size ao xs zs _ (by simp; omega) (by omega) hz hz2 (fun k hk => lit_texts w _ zs k hk) (h.alloc hB _)).mono ?_
 rintro e w' ⟨k, hk, rfl, hc, hgr⟩
 refine ⟨_, rfl, ?_, hc, grown_trans (World.grownBy_alloc w _ _) hgr⟩
 rw [List.getD_eq_getElem?_getD, List.getElem?_eq_getElem hk]
 exact List.getElem_mem hk
theorem cur_below {w w' : World} {g : Nat} (hg : w.grownBy w' (some g)) {a : World} {B : Nat} (hb : Below B a w) (hB : B ≤ w.heap.size) (hlow : B ≤ g) : Below B a w' :=
 hb.grown hg hB (fun k hk => by simp at hk; omega)
end
section

def put : Nat → Nat → List Int
 | 0, n => [(n : Int)]
 | f + 1, n => if n ≤ 127 then [(n : Int)] else ((n : Int) % 128 + 128) :: put f (n / 128)
end
section
open Go.RowKit
def bs (s : ByteArray) : List Int := s.data.toList.map fun b => (b.toNat : Int)
def BytesL (ys : List Int) : Prop := ∀ y ∈ ys, 0 ≤ y ∧ y ≤ 255
theorem BytesL.append {a b : List Int} (ha : BytesL a) (hb : BytesL b) : BytesL (a ++ b) := fun y hy => by
 rcases List.mem_append.1 hy with h | h
 ·exact ha y h
 exact hb y h
theorem OB.grown {w w' : World} {base g : Nat} {v : Value} {xs : List Int} (h : OB w base v xs) (hg : w.grownBy w' (some g)) (hlt : g < base) : OB w' base v xs :=
 World.ownsRow.kept h hg (by
  cases hv : v.ownBlock with
  | none => exact .inl rfl
  | some k => exact .inr fun e => by have := (World.ownsRow.lt h k hv).1; simp at e; omega)
theorem Cur.lt {w : World} {base g ca : Nat} {ao : Option Addr} {xs : List Int} (h : Cur w base g ao ca xs) : g < w.heap.size := by
 obtain ⟨i, hh, hc, _⟩:=h.cells
 exact (Array.getElem?_eq_some_iff.1 hc).1
theorem Cur.below {w w' : World} {base g ca : Nat} {ao : Option Addr} {xs : List Int} (h : Cur w base g ao ca xs) (hB : base ≤ w.heap.size) (hb : Below w.heap.size w w') : Cur w' base g ao ca xs := by
 have hg:=h.lt
 refine ⟨h.low, h.len, ?_, ?_⟩
 ·obtain ⟨i, hh, hc, h0, h1⟩:=h.cells
  exact ⟨i, hh, (hb.block g hg).trans hc, h0, h1⟩
 rcases h.code with h' | ⟨b, off, hbb, ha, hx⟩
 ·exact .inl h'
 exact .inr ⟨b, off, hbb, ha, fun k hk => ⟨(hb.cell (p := ⟨b, off + k, none⟩) (by show b < _; omega)).trans (hx k hk).1, (hx k hk).2⟩⟩
theorem grown_new {a b c : World} {row row' : Option Nat} (h : a.grownBy b row) (k : b.grownBy c row') (hr : ∀ j, row' = some j → a.heap.size ≤ j) : a.grownBy c row :=
 ⟨k.os.trans h.os, k.tape.trans h.tape, k.output.trans h.output, Nat.le_trans h.size k.size, fun i hi hne => (k.block i (Nat.lt_of_lt_of_le hi h.size) (fun e => by have := hr i e.symm; omega)).trans (h.block i hi hne)⟩
theorem Cur.grownNew {w w' : World} {base g ca : Nat} {ao : Option Addr} {xs : List Int} {row : Option Nat} (h : Cur w base g ao ca xs) (hg : w.grownBy w' row) (hr : ∀ j, row = some j → g < j) : Cur w' base g ao ca xs := by
 have hlt:=h.lt
 have hlow:=h.low
 refine ⟨h.low, h.len, ?_, ?_⟩
 ·obtain ⟨i, hh, hc, h0, h1⟩:=h.cells
  exact ⟨i, hh, (hg.block g hlt (fun e => by have := hr g e.symm; omega)).trans hc, h0, h1⟩
 rcases h.code with h' | ⟨b, off, hbb, ha, hx⟩
 ·exact .inl h'
 refine .inr ⟨b, off, hbb, ha, fun k hk => ⟨?_, (hx k hk).2⟩⟩
 rw [World.cell?_of_block (w := w) (hg.block b (by omega) (fun e => by have := hr b e.symm; omega))]
 exact (hx k hk).1
end
section
open Go.RowKit
variable [∀ (a b c d : Int), Decidable (Ok4 a b c d)]
def Cells4 (w : World) (g : Nat) (a b c d : Int) : Prop := w.cell? ⟨g, 0, none⟩ = some (.int .i64 a) ∧ w.cell? ⟨g, 1, none⟩ = some (.int .i64 b) ∧ w.cell? ⟨g, 2, none⟩ = some (.int .i64 c) ∧ w.cell? ⟨g, 3, none⟩ = some (.int .i64 d)
theorem cells4_new (w : World) (a b c d : Int) (t : TypeId) : Cells4 (w.alloc (.cells #[.int .i64 a,.int .i64 b,.int .i64 c,.int .i64 d] t)) w.heap.size a b c d := by
 refine ⟨?_, ?_, ?_, ?_⟩ <;> simp
theorem Cells4.below {w w' : World} {g B : Nat} {a b c d : Int} (h : Cells4 w g a b c d) (hb : Below B w w') (hg : g < B) : Cells4 w' g a b c d :=
 ⟨(hb.cell (p := ⟨g, 0, none⟩) hg).trans h.1, (hb.cell (p := ⟨g, 1, none⟩) hg).trans h.2.1, (hb.cell (p := ⟨g, 2, none⟩) hg).trans h.2.2.1, (hb.cell (p := ⟨g, 3, none⟩) hg).trans h.2.2.2⟩
abbrev T4 := Int × Int × Int × Int
def tcell (x : T4) : List Value := [.int .i64 x.1, .int .i64 x.2.1, .int .i64 x.2.2.1, .int .i64 x.2.2.2]
def tcells (xs : List T4) : List Value := xs.flatMap tcell
theorem tcell_len (x : T4) : (tcell x).length = 4 := rfl
theorem tcells_append (xs ys : List T4) : tcells (xs ++ ys) = tcells xs ++ tcells ys := by simp [tcells]
theorem tcells_get (xs : List T4) (k j : Nat) (hk : k < xs.length) (hj : j < 4) : (tcells xs)[k * 4 + j]? = (tcell (xs.getD k (0, 0, 0, 0)))[j]? := by
 induction xs generalizing k with
 | nil => simp at hk
 | cons x xs ih =>
  have e : tcells (x :: xs) = tcell x ++ tcells xs:=by simp [tcells]
  rw [e]
  cases k with
  | zero => rw [Nat.zero_mul, Nat.zero_add, List.getElem?_append_left (by rw [tcell_len]; exact hj)]; rfl
  | succ k =>
   rw [List.getElem?_append_right (by rw [tcell_len]; omega), tcell_len, show (k + 1) * 4 + j - 4 = k * 4 + j from by omega, ih k (by simpa using hk)]
   rfl
def OT (w : World) (base : Nat) (v : Value) (xs : List T4) : Prop := w.ownsRow base 89 4 v xs.length (tcells xs)
def RT (w : World) (v : Value) (xs : List T4) : Prop :=
 xs.length ≤ 35184372088832 ∧ ∃ ao cap, v = .slice ao xs.length cap ∧ (xs = [] ∨ ∃ g, ao = some ⟨g, 0, none⟩ ∧ ∀ k, k < xs.length → w.cell? ⟨g, k * 4, none⟩ = some (.int .i64 (xs.getD k (0, 0, 0, 0)).1) ∧ w.cell? ⟨g, k * 4 + 1, none⟩ = some (.int .i64 (xs.getD k (0, 0, 0, 0)).2.1) ∧ w.cell? ⟨g, k * 4 + 2, none⟩ = some (.int .i64 (xs.getD k (0, 0, 0, 0)).2.2.1) ∧ w.cell? ⟨g, k * 4 + 3, none⟩ = some (.int .i64 (xs.getD k (0, 0, 0, 0)).2.2.2))
theorem OT.below {w w' : World} {base : Nat} {v : Value} {xs : List T4} (h : OT w base v xs) (hb : Below w.heap.size w w') : OT w' base v xs :=
 World.ownsRow.kept (row := none) h ⟨hb.os, hb.tape, hb.output, hb.size, fun k hk _ => hb.block k hk⟩ (by cases v.ownBlock <;> simp)
theorem OT.apart {w w' : World} {base N : Nat} {v u : Value} {xs : List T4} (h : OT w base v xs) (hg : w.grownBy w' u.ownBlock) (hv : ∀ k, v.ownBlock = some k → k < N) (hu : ∀ k, u.ownBlock = some k → N ≤ k) : OT w' base v xs := by
 refine World.ownsRow.kept h hg ?_
 cases hv' : v.ownBlock with
 | none => exact .inl rfl
 | some k => exact .inr fun e => by have := hv k hv'; have := hu k e.symm; omega
theorem OT.rt {w : World} {base : Nat} {v : Value} {xs : List T4} (h : OT w base v xs) (hl : xs.length ≤ 35184372088832) : RT w v xs := by
 refine ⟨hl, ?_⟩
 rcases h.2 with ⟨rfl, h0⟩ | ⟨g, cap, cur, rfl, _⟩
 ·exact ⟨none, 0, by rw [h0], .inl (List.length_eq_zero_iff.1 h0)⟩
 refine ⟨_, cap, rfl, .inr ⟨g, rfl, fun k hk => ?_⟩⟩
 have c0:=World.ownsRow.cellAt h (k * 4 + 0) (by omega)
 have c1:=World.ownsRow.cellAt h (k * 4 + 1) (by omega)
 have c2:=World.ownsRow.cellAt h (k * 4 + 2) (by omega)
 have c3:=World.ownsRow.cellAt h (k * 4 + 3) (by omega)
 rw [tcells_get xs k _ hk (by omega)] at c0 c1 c2 c3
 exact ⟨c0, c1, c2, c3⟩
theorem RT.below {w w' : World} {v : Value} {xs : List T4} (h : RT w v xs) (hb : Below w.heap.size w w') : RT w' v xs := by
 obtain ⟨hl, ao, cap, rfl, h⟩:=h
 refine ⟨hl, ao, cap, rfl, ?_⟩
 rcases h with h | ⟨g, rfl, h⟩
 ·exact .inl h
 refine .inr ⟨g, rfl, fun k hk => ?_⟩
 obtain ⟨c0, c1, c2, c3⟩:=h k hk
 have hg : g < w.heap.size:=cell_lt c0
 exact ⟨(hb.cell (p := ⟨g, k * 4, none⟩) hg).trans c0, (hb.cell (p := ⟨g, k * 4 + 1, none⟩) hg).trans c1, (hb.cell (p := ⟨g, k * 4 + 2, none⟩) hg).trans c2, (hb.cell (p := ⟨g, k * 4 + 3, none⟩) hg).trans c3⟩
end
section

theorem decFrom_append (l r : List UInt8) (acc : Nat) : Lib.decFrom acc (l ++ r) = (Lib.decFrom acc l).bind fun a => Lib.decFrom a r := by
 induction l generalizing acc with
 | nil => rfl
 | cons b l ih =>
  rw [List.cons_append, Lib.decFrom, Lib.decFrom]
  cases Lib.digitVal b with
  | none => rfl
  | some d => exact ih _
theorem digit_ofNat (k : Nat) (h : k < 10) : Lib.digitVal (UInt8.ofNat (48 + k)) = some k := by
 have e : (UInt8.ofNat (48 + k)).toNat = 48 + k:=by simp; omega
 rw [Lib.digitVal, if_pos (by omega), e]; congr 1; omega
theorem decFrom_digits (n : Nat) : Lib.decFrom 0 (Lib.decDigits n) = some n := by
 induction n using Nat.strongRecOn with
 | ind n ih =>
  rw [Lib.decDigits]
  by_cases h : n < 10
  ·rw [dif_pos h]
   simp only [Lib.decFrom, digit_ofNat n h]; simp
  rw [dif_neg h, decFrom_append, ih (n / 10) (by omega)]
  simp only [Option.bind_some, Lib.decFrom, digit_ofNat (n % 10) (by omega)]
  congr 1; omega
theorem digits_ne (n : Nat) : Lib.decDigits n ≠ [] := by
 intro h
 have:=Lib.decDigits_length n
 rw [h] at this
 have:=Lib.nDigits_pos n
 simp at *; omega
theorem nDigits_six (n : Nat) (h : n ≤ 999999) : Lib.nDigits n ≤ 6 := by
 have step : ∀ m k, (m < 10 → 1 ≤ k) → (¬ m < 10 → Lib.nDigits (m / 10) + 1 ≤ k) → Lib.nDigits m ≤ k:=by
  intro m k h1 h2
  by_cases hm : m < 10
  ·rw [Lib.nDigits_small hm]; exact h1 hm
  rw [Lib.nDigits_big hm]; exact h2 hm
 refine step _ _ (fun _ => by omega) fun _ => Nat.succ_le_of_lt (Nat.lt_of_le_of_lt (step _ 5 (fun _ => by omega) fun _ => Nat.succ_le_of_lt (Nat.lt_of_le_of_lt (step _ 4 (fun _ => by omega) fun _ => Nat.succ_le_of_lt (Nat.lt_of_le_of_lt (step _ 3 (fun _ => by omega) fun _ => Nat.succ_le_of_lt (Nat.lt_of_le_of_lt (step _ 2 (fun _ => by omega) fun _ => Nat.succ_le_of_lt (Nat.lt_of_le_of_lt (step _ 1 (fun _ => by omega) fun _ => ?_) (by omega))) (by omega))) (by omega))) (by omega))) (by omega))
 omega

def numOf (l : List UInt8) : Option Nat :=
 match Lib.decFrom 0 l with
 | some n => if n ≤ 999999 ∧ Lib.decDigits n = l then some n else none
 | none => none
theorem numOf_some {l : List UInt8} {n : Nat} (h : numOf l = some n) : n ≤ 999999 ∧ Lib.decDigits n = l := by
 unfold numOf at h
 cases hd : Lib.decFrom 0 l with
 | none => rw [hd] at h; cases h
 | some m =>
  rw [hd] at h
  by_cases hc : m ≤ 999999 ∧ Lib.decDigits m = l
  ·simp only [if_pos hc, Option.some.injEq] at h; subst h; exact hc
  simp only [if_neg hc] at h; cases h
theorem numOf_of {n : Nat} (h : n ≤ 999999) : numOf (Lib.decDigits n) = some n := by
 unfold numOf; rw [decFrom_digits]; simp [h]
theorem numOf_len {l : List UInt8} {n : Nat} (h : numOf l = some n) : 1 ≤ l.length ∧ l.length ≤ 6 := by
 obtain ⟨h1, rfl⟩:=numOf_some h
 rw [Lib.decDigits_length]
 exact ⟨Lib.nDigits_pos n, nDigits_six n h1⟩
theorem numOf_none_len {l : List UInt8} (h : l.length < 1 ∨ 6 < l.length) : numOf l = none := by
 cases hn : numOf l with
 | none => rfl
 | some n => have := numOf_len hn; omega
theorem numOf_none_dec {l : List UInt8} (h : Lib.decFrom 0 l = none) : numOf l = none := by unfold numOf; rw [h]
theorem numOf_none_byte {l : List UInt8} {k : Nat} {b : UInt8} (hk : l[k]? = some b) (hb : b.toNat < 48 ∨ 57 < b.toNat) : numOf l = none := by
 refine numOf_none_dec ?_
 cases hd : Lib.decFrom 0 l with
 | none => rfl
 | some n =>
  obtain ⟨d, h⟩:=Lib.digit_of_decFrom l 0 n hd k b hk
  have:=Lib.digitVal_eq h
  omega
theorem numOf_yes {l : List UInt8} {n : Nat} (hd : Lib.decFrom 0 l = some n) (hn : n ≤ 999999) (h : Lib.decDigits n = l) : numOf l = some n := by unfold numOf; rw [hd]; simp [hn, h]
theorem numOf_no {l : List UInt8} {n : Nat} (hd : Lib.decFrom 0 l = some n) (h : Lib.decDigits n ≠ l) : numOf l = none := by unfold numOf; rw [hd]; simp [h]
theorem itoa_nat (n : Nat) : Lib.itoa (n : Int) = Lib.decDigits n := by rw [Lib.itoa, if_neg (by omega), Int.toNat_natCast]
def nans (r : Option Nat) : Int := match r with | some n => (n : Int) | none => 0
def hd (m : UInt8) (l : List UInt8) : List UInt8 := l.takeWhile (· != m)
def tl (m : UInt8) (l : List UInt8) : List UInt8 := (l.dropWhile (· != m)).tail
theorem hd_some {m : UInt8} {x y : List UInt8} (h : m ∉ x) : hd m (x ++ m :: y) = x := by
 unfold hd
 induction x with
 | nil => simp
 | cons b x ih =>
  simp at h
  rw [List.cons_append, List.takeWhile_cons_of_pos (by simp; exact fun e => h.1 e.symm), ih h.2]
theorem tl_some {m : UInt8} {x y : List UInt8} (h : m ∉ x) : tl m (x ++ m :: y) = y := by
 unfold tl
 induction x with
 | nil => simp
 | cons b x ih =>
  simp at h
  rw [List.cons_append, List.dropWhile_cons_of_pos (by simp; exact fun e => h.1 e.symm)]; exact ih h.2
theorem hd_tl {m : UInt8} {l : List UInt8} (h : tl m l ≠ []) : l = hd m l ++ m :: tl m l := by
 unfold hd tl at *
 induction l with
 | nil => simp at h
 | cons b l ih =>
  by_cases hb : b = m
  ·subst hb; simp
  rw [List.takeWhile_cons_of_pos (by simpa using hb), List.dropWhile_cons_of_pos (by simpa using hb), List.cons_append]
  rw [List.dropWhile_cons_of_pos (by simpa using hb)] at h
  rw [← ih h]

def f0 (l : List UInt8) : List UInt8 := hd 62 l
def f1 (l : List UInt8) : List UInt8 := hd 58 (tl 62 l)
def f2 (l : List UInt8) : List UInt8 := hd 35 (tl 58 (tl 62 l))
def f3 (l : List UInt8) : List UInt8 := tl 35 (tl 58 (tl 62 l))

def okN (a b c d : Nat) : Prop := a ≤ 3 ∧ b ≤ 3 ∧ c ≤ 1000 ∧ d ≤ 99
def txl (a b c d : Nat) : List UInt8 := Lib.decDigits a ++ 62 :: (Lib.decDigits b ++ 58 :: (Lib.decDigits c ++ 35 :: Lib.decDigits d))
def IsTx (l : List UInt8) (a b c d : Nat) : Prop := okN a b c d ∧ txl a b c d = l

theorem digit_mem {n : Nat} {x : UInt8} (h : x ∈ Lib.decDigits n) : 48 ≤ x.toNat ∧ x.toNat ≤ 57 := by
 obtain ⟨k, hk, e⟩:=List.mem_iff_getElem.1 h
 obtain ⟨d, hd⟩:=Lib.digit_of_decFrom (Lib.decDigits n) 0 n (decFrom_digits n) k x (by rw [List.getElem?_eq_getElem hk, e])
 have:=Lib.digitVal_eq hd
 omega
theorem no_mark (n : Nat) (m : UInt8) (h : m.toNat < 48 ∨ 57 < m.toNat) : m ∉ Lib.decDigits n := fun hm => by
 have:=digit_mem hm; omega

theorem fields_of {l : List UInt8} {a b c d : Nat} (h : IsTx l a b c d) : f0 l = Lib.decDigits a ∧ f1 l = Lib.decDigits b ∧ f2 l = Lib.decDigits c ∧ f3 l = Lib.decDigits d := by
 obtain ⟨_, rfl⟩:=h
 have h0 : (62 : UInt8) ∉ Lib.decDigits a:=no_mark a 62 (by decide)
 have h1 : (58 : UInt8) ∉ Lib.decDigits b:=no_mark b 58 (by decide)
 have h2 : (35 : UInt8) ∉ Lib.decDigits c:=no_mark c 35 (by decide)
 unfold f0 f1 f2 f3 txl
 rw [hd_some h0, tl_some h0, hd_some h1, tl_some h1, hd_some h2, tl_some h2]
 exact ⟨rfl, rfl, rfl, rfl⟩
theorem nums_of {l : List UInt8} {a b c d : Nat} (h : IsTx l a b c d) : numOf (f0 l) = some a ∧ numOf (f1 l) = some b ∧ numOf (f2 l) = some c ∧ numOf (f3 l) = some d := by
 obtain ⟨e0, e1, e2, e3⟩:=fields_of h
 obtain ⟨⟨h0, h1, h2, h3⟩, _⟩:=h
 rw [e0, e1, e2, e3]
 exact ⟨numOf_of (by omega), numOf_of (by omega), numOf_of (by omega), numOf_of (by omega)⟩
theorem hd_nil (m : UInt8) : hd m [] = [] := rfl
theorem isTx_of {l : List UInt8} {a b c d : Nat} (h0 : numOf (f0 l) = some a) (h1 : numOf (f1 l) = some b) (h2 : numOf (f2 l) = some c) (h3 : numOf (f3 l) = some d) (hk : okN a b c d) : IsTx l a b c d := by
 refine ⟨hk, ?_⟩
 obtain ⟨_, e0⟩:=numOf_some h0
 obtain ⟨_, e1⟩:=numOf_some h1
 obtain ⟨_, e2⟩:=numOf_some h2
 obtain ⟨_, e3⟩:=numOf_some h3
 have n1:=digits_ne b
 have n2:=digits_ne c
 have n3:=digits_ne d
 unfold txl
 rw [e0, e1, e2, e3]
 rw [e1] at n1; rw [e2] at n2; rw [e3] at n3
 unfold f0 f1 f2 f3 at *
 have t0 : tl 62 l ≠ []:=fun e => n1 (by rw [e, hd_nil])
 have t1 : tl 58 (tl 62 l) ≠ []:=fun e => n2 (by rw [e, hd_nil])
 rw [← hd_tl n3, ← hd_tl t1, ← hd_tl t0]
end
section
open Go
theorem hit_hd {m : UInt8} {r : List UInt8} {j : Nat} (h : m ∉ r.take j) (hj : r[j]? = some m) : hd m r = r.take j ∧ tl m r = r.drop (j + 1) := by
 have hl : j < r.length:=(List.getElem?_eq_some_iff.1 hj).1
 have hm : r[j] = m:=(List.getElem?_eq_some_iff.1 hj).2
 have e : r = r.take j ++ m :: r.drop (j + 1):=by
  rw [← hm, List.getElem_cons_drop, List.take_append_drop]
 constructor
 ·conv => lhs; rw [e]
  exact hd_some h
 conv => lhs; rw [e]
 exact tl_some h
def rst (l : List UInt8) : Nat → List UInt8
 | 0 => l
 | 1 => tl 62 l
 | 2 => tl 58 (tl 62 l)
 | _ => tl 35 (tl 58 (tl 62 l))
def toB (l : List UInt8) : ByteArray := ⟨l.toArray⟩
theorem ext_list (s : ByteArray) (n p : Nat) : (s.extract n p).data.toList = (s.data.toList.drop n).take (p - n) := by
 rw [ByteArray.data_extract, Array.toList_extract]
theorem not_mem_more {m : UInt8} {l : List UInt8} {n pos v : Nat} (hn : n ≤ pos) (h : m ∉ (l.drop n).take (pos - n)) (hv : ∀ j, j < v → l[pos + j]? ≠ some m) : m ∉ (l.drop n).take (pos + v - n) := by
 induction v with
 | zero => exact h
 | succ v ih =>
  have h':=ih (fun j hj => hv j (by omega))
  rw [show pos + (v + 1) - n = (pos + v - n) + 1 from by omega, List.take_add_one]
  intro hm
  rw [List.mem_append] at hm
  rcases hm with hm | hm
  ·exact h' hm
  rw [List.getElem?_drop, show n + (pos + v - n) = pos + v from by omega] at hm
  have:=hv v (by omega)
  cases hq : l[pos + v]? with
  | none => rw [hq] at hm; simp at hm
  | some x => rw [hq] at hm; simp at hm; rw [hq, hm] at this; exact this rfl
end
section
open Go.RowKit
def gs (l : List UInt8) : Nat → ByteArray × ByteArray × ByteArray × ByteArray
 | 0 => (⟨#[]⟩, ⟨#[]⟩, ⟨#[]⟩, ⟨#[]⟩)
 | 1 => (toB (f0 l), ⟨#[]⟩, ⟨#[]⟩, ⟨#[]⟩)
 | 2 => (toB (f0 l), toB (f1 l), ⟨#[]⟩, ⟨#[]⟩)
 | _ => (toB (f0 l), toB (f1 l), toB (f2 l), ⟨#[]⟩)
theorem specDigits_pos (n : Nat) (w : World) (hn : 0 < n) (hm : n ≤ 9223372036854775807) :
 Calls Try.prog 67 #[.int .i64 n] w fun e w' => e = .returned (.string ⟨(Lib.decDigits n).toArray⟩) ∧ Below w.heap.size w w' := by
 have hcv:=one_str
 have hsz:=one_size
 have hne : ((n : Int) == 0) = false:=by simp; omega
 have hlt : decide ((n : Int) < 0) = false:=by simp
 go_enter Try.func67, Try.ntmps67
 go_wp2
 go_loopw [0, 4] (fun x s wr => ∃ (m : Nat) (t : List UInt8), m ≤ 9223372036854775807 ∧ DAt n m t ∧ x = .int .i64 m ∧ s = .string ⟨t.toArray⟩ ∧ Below w.heap.size w wr) (fun x _ _ => (intOf x).toNat)
 case atStart => exact ⟨n, [], hm, dat_start n (by omega), rfl, rfl, Below.refl _ _⟩
 case round =>
  obtain ⟨m, t, hm', hd, rfl, rfl, hb⟩:=hrel
  by_cases h0 : m = 0
  ·subst h0
   have HE:=hide (dat_end hd (by omega))
   clear hd
   go_wp2
   go_ret
   have HE':=HE.out
   subst HE'
   exact ⟨rfl, hb⟩
  have hne' : ((m : Int) != 0) = true:=by simp [h0]
  obtain ⟨hd', hl⟩:=dat_step hd h0
  have HD:=hide hd'
  clear hd hd'
  have hs0:=hb.size
  have hmo:=one_more (m % 10) t (by omega)
  have hbl : Below w.heap.size w (wr.alloc (.cells #[.int .u8 (48 + (m : Int) % 10)] 5)):=hb.alloc hs0 _
  go_wp2
  go_roundw
  case rel => exact ⟨m / 10, _, by omega, HD.out, by go_num, by rw [← hmo]; rfl, hbl⟩
  case measure => simp [intOf]; omega

theorem specDigits_neg (n : Nat) (w : World) (hn : 0 < n) (hm : n ≤ 9223372036854775808) :
 Calls Try.prog 67 #[.int .i64 (-(n : Int))] w fun e w' => e = .returned (.string ⟨(45 :: Lib.decDigits n).toArray⟩) ∧ Below w.heap.size w w' := by
 have hcv:=one_str
 have hsz:=one_size
 have hne : ((-(n : Int)) == 0) = false:=by simp; omega
 have hlt : decide (-(n : Int) < 0) = true:=by simp; omega
 go_enter Try.func67, Try.ntmps67
 go_wp2
 go_loopw [0, 4] (fun x s wr => ∃ (m : Nat) (t : List UInt8), m ≤ 9223372036854775808 ∧ DAt n m t ∧ x = .int .i64 (-(m : Int)) ∧ s = .string ⟨t.toArray⟩ ∧ Below w.heap.size w wr) (fun x _ _ => (-(intOf x)).toNat)
 case atStart => exact ⟨n, [], hm, dat_start n hm, rfl, rfl, Below.refl _ _⟩
 case round =>
  obtain ⟨m, t, hm', hd, rfl, rfl, hb⟩:=hrel
  by_cases h0 : m = 0
  ·subst h0
   have HE:=hide (dat_end hd (by omega))
   have hl:=hd.2.1
   clear hd
   go_wp2
   go_ret
   have HE':=HE.out
   subst HE'
   exact ⟨by apply congrArg Ending.returned; apply congrArg Value.string; apply ByteArray.ext; apply Array.toList_inj.1; simp, hb⟩
  have hne' : ((-(m : Int)) != 0) = true:=by simp [h0]
  obtain ⟨hd', hl⟩:=dat_step hd h0
  have HD:=hide hd'
  clear hd hd'
  have hs0:=hb.size
  have hmo:=one_more (m % 10) t (by omega)
  have ht : (-(m : Int)).tmod 10 = -((m % 10 : Nat) : Int):=by rw [Int.neg_tmod]; rfl
  have hq : (-(m : Int)).tdiv 10 = -((m / 10 : Nat) : Int):=by rw [Int.neg_tdiv]; rfl
  by_cases hz : m % 10 = 0
  ·have hbl : Below w.heap.size w (wr.alloc (.cells #[.int .u8 48] 5)):=hb.alloc hs0 _
   go_wp2
   go_roundw
   case rel => exact ⟨m / 10, _, by omega, HD.out, by go_num, by rw [← hmo, hz]; rfl, hbl⟩
   case measure => simp [intOf]; omega
  have hbl : Below w.heap.size w (wr.alloc (.cells #[.int .u8 (48 + (m : Int) % 10)] 5)):=hb.alloc hs0 _
  go_wp2
  go_roundw
  case rel => exact ⟨m / 10, _, by omega, HD.out, by go_num, by rw [← hmo]; rfl, hbl⟩
  case measure => simp [intOf]; omega

theorem specDigits_zero (w : World) :
 Calls Try.prog 67 #[.int .i64 0] w fun e w' => e = .returned (.string ⟨(Lib.decDigits 0).toArray⟩) ∧ Below w.heap.size w w' := by
 go_enter Try.func67, Try.ntmps67
 go_wp2
 go_ret
 exact ⟨by rw [Lib.decDigits]; rfl, Below.refl _ _⟩

theorem specDigits_any (n : Int) (w : World) (h0 : -9223372036854775808 ≤ n) (h1 : n ≤ 9223372036854775807) :
 Calls Try.prog 67 #[.int .i64 n] w fun e w' => e = .returned (.string ⟨(Lib.itoa n).toArray⟩) ∧ Below w.heap.size w w' := by
 unfold Lib.itoa
 by_cases hn : n < 0
 ·obtain ⟨m, rfl⟩ : ∃ m : Nat, n = -(m : Int):=⟨n.natAbs, by omega⟩
  rw [if_pos hn, show (-(m : Int)).natAbs = m from by omega]
  exact specDigits_neg m w (by omega) (by omega)
 obtain ⟨m, rfl⟩:=Int.eq_ofNat_of_zero_le (Int.not_lt.1 hn)
 rw [if_neg hn, Int.toNat_natCast]
 by_cases hm : m = 0
 ·subst hm; exact specDigits_zero w
 exact specDigits_pos m w (by omega) (by omega)
theorem take_snoc (s : ByteArray) (k : Nat) (h : k < s.size) : s.data.toList.take (k + 1) = s.data.toList.take k ++ [s[k]] := by
 rw [List.take_succ_eq_append_getElem (by simpa using h)]; rfl
theorem byte_get (s : ByteArray) (k : Nat) (h : k < s.size) : s.data.toList[k]? = some s[k] := by
 rw [List.getElem?_eq_getElem (by simpa using h)]; rfl
theorem dec_step (s : ByteArray) (k n : Nat) (h : k < s.size) (hd : Lib.decFrom 0 (s.data.toList.take k) = some n) (h1 : 48 ≤ s[k].toNat) (h2 : s[k].toNat ≤ 57) :
 Lib.decFrom 0 (s.data.toList.take (k + 1)) = some (n * 10 + (s[k].toNat - 48)) :=
 Lib.decFrom_take s.data.toList k 0 n s[k] _ hd (byte_get s k h) (by rw [Lib.digitVal, if_pos ⟨h1, h2⟩])
theorem len_data (s : ByteArray) : s.data.toList.length = s.size := by simp

theorem specNumber_len (s : ByteArray) (w : World) (hm : s.size ≤ maxLen) (h : s.size < 1 ∨ 6 < s.size) :
 Calls Try.prog 73 #[.string s] w fun e w' => e = .returned (.tuple #[.int .i64 0,.bool false]) ∧ w' = w := by
 unfold maxLen at hm
 by_cases h1 : s.size < 1
 ·clear h
  go_enter Try.func73, Try.ntmps73
  go_wp2
  go_ret2
  exact ⟨rfl, rfl⟩
 have hd : decide ((s.size : Int) < 1) = false:=by simp; omega
 have h2 : 6 < s.size:=by omega
 clear h
 go_enter Try.func73, Try.ntmps73
 go_wp2
 go_ret2
 exact ⟨rfl, rfl⟩

theorem specNumber_six (s : ByteArray) (w : World) (h1 : 1 ≤ s.size) (h6 : s.size ≤ 6) :
 Calls Try.prog 73 #[.string s] w fun e w' => e = .returned (.tuple #[.int .i64 (nans (numOf s.data.toList)),.bool (numOf s.data.toList).isSome]) ∧ Below w.heap.size w w' := by
 have hd : decide ((s.size : Int) < 1) = false:=by simp; omega
 go_enter Try.func73, Try.ntmps73
 go_wp2
 go_loop [4, 5] (fun y i => ∃ k n : Nat, k ≤ s.size ∧ y = .int .i64 n ∧ i = .int .i64 k ∧ n < 10 ^ k ∧ Hid (Lib.decFrom 0 (s.data.toList.take k) = some n)) (fun _ i => s.size - (intOf i).toNat)
 case atStart => exact ⟨0, 0, by omega, rfl, rfl, by simp, rfl⟩
 case round =>
  obtain ⟨k, n, hk, rfl, rfl, hn, HD⟩:=hrel
  have hn6 : n ≤ 999999:=by
   have : 10 ^ k ≤ 10 ^ 6:=Nat.pow_le_pow_right (by omega) (by omega)
   omega
  by_cases hlt : k < s.size
  ·by_cases hb : 48 ≤ s[k].toNat ∧ s[k].toNat ≤ 57
   ·have HS:=hide (dec_step s k n hlt HD.out hb.1 hb.2)
    have hb1:=hb.1
    have hb2:=hb.2
    have hpow : n * 10 + (s[k].toNat - 48) < 10 ^ (k + 1):=by rw [Nat.pow_succ]; omega
    clear hb
    go_wp2
    go_round
    case rel => exact ⟨k + 1, n * 10 + (s[k].toNat - 48), by omega, by go_num, by go_num, hpow, HS⟩
    case measure => simp [intOf]; omega
   have HN:=hide (numOf_none_byte (byte_get s k hlt) (by omega))
   by_cases hb1 : s[k].toNat < 48
   ·clear hb
    go_wp2
    go_ret2
    exact ⟨by rw [HN.out]; rfl, Below.refl _ _⟩
   have hb2 : 57 < s[k].toNat:=by omega
   clear hb
   go_wp2
   go_ret2
   exact ⟨by rw [HN.out]; rfl, Below.refl _ _⟩
  have hks : k = s.size:=by omega
  have HD' : Hid (Lib.decFrom 0 s.data.toList = some n):=by
   have:=HD.out; rw [hks, List.take_of_length_le (by rw [len_data]; omega)] at this; exact this
  clear HD
  by_cases he : Lib.decDigits n = s.data.toList
  ·have HY:=hide (numOf_yes HD'.out hn6 he)
   have hs : (⟨(Lib.itoa (n : Int)).toArray⟩ : ByteArray) = s:=by rw [itoa_nat, he]
   have HC:=hide fun w => specDigits_any (n : Int) w (by omega) (by omega)
   rw [hs] at HC
   clear hs he
   go_wp2_with fail
   refine (HC.out _).mono ?_
   rintro e w1 ⟨rfl, b1⟩
   go_wp2
   go_ret2
   exact ⟨by rw [HY.out]; rfl, b1⟩
  have HN:=hide (numOf_no HD'.out he)
  have HC:=hide fun w => specDigits_any (n : Int) w (by omega) (by omega)
  obtain ⟨t, ht⟩ : ∃ t : ByteArray, t = ⟨(Lib.itoa (n : Int)).toArray⟩:=⟨_, rfl⟩
  rw [← ht] at HC
  have hne : t ≠ s:=by intro e; rw [ht, itoa_nat] at e; apply he; rw [← e]
  have hne':=str_ne hne
  clear ht he
  go_wp2_with fail
  refine (HC.out _).mono ?_
  rintro e w1 ⟨rfl, b1⟩
  go_wp2
  go_ret2
  exact ⟨by rw [HN.out]; rfl, b1⟩

theorem specNumber_any (s : ByteArray) (w : World) (hm : s.size ≤ maxLen) :
 Calls Try.prog 73 #[.string s] w fun e w' => e = .returned (.tuple #[.int .i64 (nans (numOf s.data.toList)),.bool (numOf s.data.toList).isSome]) ∧ Below w.heap.size w w' := by
 by_cases h : s.size < 1 ∨ 6 < s.size
 ·refine (specNumber_len s w hm h).mono ?_
  rintro e w' ⟨rfl, rfl⟩
  exact ⟨by rw [numOf_none_len (by rw [len_data]; exact h)]; rfl, Below.refl _ _⟩
 exact specNumber_six s w (by omega) (by omega)
end
section
open Go.RowKit
variable [∀ (a b c d : Int), Decidable (Ok4 a b c d)]
variable [∀ (a b c d : Nat), Decidable (okN a b c d)]
def txAns (l : List UInt8) : Option (Nat × Nat × Nat × Nat) :=
 match numOf (f0 l), numOf (f1 l), numOf (f2 l), numOf (f3 l) with
 | some a, some b, some c, some d => if okN a b c d then some (a, b, c, d) else none
 | _, _, _, _ => none
theorem txAns_some {l : List UInt8} {a b c d : Nat} (h : IsTx l a b c d) : txAns l = some (a, b, c, d) := by
 obtain ⟨h0, h1, h2, h3⟩:=nums_of h
 unfold txAns
 rw [h0, h1, h2, h3]
 simp [h.1]
theorem txAns_is {l : List UInt8} {a b c d : Nat} (h : txAns l = some (a, b, c, d)) : IsTx l a b c d := by
 unfold txAns at h
 split at h
 ·rename_i a' b' c' d' e0 e1 e2 e3
  split at h
  ·rename_i hk
   simp at h
   obtain ⟨rfl, rfl, rfl, rfl⟩:=h
   exact isTx_of e0 e1 e2 e3 hk
  cases h
 cases h
def txval : Option (Nat × Nat × Nat × Nat) → Value
 | some (a, b, c, d) => .tuple #[txv a b c d,.bool true]
 | none => .tuple #[txv 0 0 0 0,.bool false]
theorem ok_cast {a b c d : Nat} : Ok4 a b c d ↔ okN a b c d := by unfold Ok4 okN; omega

theorem toB_list (x : List UInt8) : (toB x).data.toList = x := rfl
theorem toB_size (x : List UInt8) : (toB x).size = x.length := by unfold toB ByteArray.size; simp
theorem hd_len (m : UInt8) (l : List UInt8) : (hd m l).length ≤ l.length := by unfold hd; exact (List.takeWhile_sublist _).length_le
theorem tl_len (m : UInt8) (l : List UInt8) : (tl m l).length ≤ l.length := by
 unfold tl
 have:=(List.dropWhile_sublist (fun x => x != m) (l:=l)).length_le
 simp only [List.length_tail]; omega
theorem frozen_below {w w' : World} {B g : Nat} (hb : Below B w w') (hg : g < B) (h : ∀ j, w.frozen? ⟨g, j, none⟩ = false) : ∀ j, w'.frozen? ⟨g, j, none⟩ = false := fun j => (hb.frozen (p := ⟨g, j, none⟩) hg).trans (h j)
end
section
open Go.RowKit
variable [∀ (a b c d : Int), Decidable (Ok4 a b c d)]
def dg (n : Int) : ByteArray := ⟨(Lib.itoa n).toArray⟩
theorem dg_size (n : Int) (h0 : 0 ≤ n) (h1 : n ≤ 999999) : (⟨(Lib.itoa n).toArray⟩ : ByteArray).size ≤ 6 := by
 obtain ⟨m, rfl⟩:=Int.eq_ofNat_of_zero_le h0
 have:=nDigits_six m (by omega)
 rw [itoa_nat]
 have e : (⟨(Lib.decDigits m).toArray⟩ : ByteArray).size = (Lib.decDigits m).length:=by simp [ByteArray.size]
 rw [e, Lib.decDigits_length]; exact this
def txs (a b c d : Int) : ByteArray := dg a ++ (⟨#[62]⟩ : ByteArray) ++ dg b ++ (⟨#[58]⟩ : ByteArray) ++ dg c ++ (⟨#[35]⟩ : ByteArray) ++ dg d

theorem specTxText_yes (a b c d : Int) (w : World) (h : Ok4 a b c d) :
 Calls Try.prog 76 #[txv a b c d] w fun e w' => e = .returned (.string (txs a b c d)) ∧ Below w.heap.size w w' := by
 have OK:=hide fun w => specTxOk_yes a b c d w h
 obtain ⟨⟨a1, a2⟩, ⟨b1, b2⟩, ⟨c1, c2⟩, ⟨d1, d2⟩⟩:=h
 have CA:=hide fun w => specDigits_any a w (by omega) (by omega)
 have CB:=hide fun w => specDigits_any b w (by omega) (by omega)
 have CC:=hide fun w => specDigits_any c w (by omega) (by omega)
 have CD:=hide fun w => specDigits_any d w (by omega) (by omega)
 have HX : Hid (txs a b c d = dg a ++ (⟨#[62]⟩ : ByteArray) ++ dg b ++ (⟨#[58]⟩ : ByteArray) ++ dg c ++ (⟨#[35]⟩ : ByteArray) ++ dg d):=rfl
 unfold dg at HX
 have za:=dg_size a (by omega) (by omega)
 have zb:=dg_size b (by omega) (by omega)
 have zc:=dg_size c (by omega) (by omega)
 have zd:=dg_size d (by omega) (by omega)
 generalize (⟨(Lib.itoa a).toArray⟩ : ByteArray) = sa at *
 generalize (⟨(Lib.itoa b).toArray⟩ : ByteArray) = sb at *
 generalize (⟨(Lib.itoa c).toArray⟩ : ByteArray) = sc at *
 generalize (⟨(Lib.itoa d).toArray⟩ : ByteArray) = sd at *
 generalize txs a b c d = r at *
 obtain ⟨s1, e1⟩ : ∃ x, x = sa ++ (⟨#[62]⟩ : ByteArray):=⟨_, rfl⟩
 obtain ⟨s2, e2⟩ : ∃ x, x = s1 ++ sb:=⟨_, rfl⟩
 obtain ⟨s3, e3⟩ : ∃ x, x = s2 ++ (⟨#[58]⟩ : ByteArray):=⟨_, rfl⟩
 obtain ⟨s4, e4⟩ : ∃ x, x = s3 ++ sc:=⟨_, rfl⟩
 obtain ⟨s5, e5⟩ : ∃ x, x = s4 ++ (⟨#[35]⟩ : ByteArray):=⟨_, rfl⟩
 rw [← e1, ← e2, ← e3, ← e4, ← e5] at HX
 have o : ∀ c : UInt8, (⟨#[c]⟩ : ByteArray).size = 1:=fun _ => rfl
 have y1 : s1.size ≤ 7:=by rw [e1, ByteArray.size_append, o]; omega
 have y2 : s2.size ≤ 13:=by rw [e2, ByteArray.size_append]; omega
 have y3 : s3.size ≤ 14:=by rw [e3, ByteArray.size_append, o]; omega
 have y4 : s4.size ≤ 20:=by rw [e4, ByteArray.size_append]; omega
 have y5 : s5.size ≤ 21:=by rw [e5, ByteArray.size_append, o]; omega
 have q1 : ∀ w, (Op.stringOp .add sa (⟨#[62]⟩ : ByteArray)).run Try.prog w = .ok (.string s1) w:=fun w => by rw [e1]; exact run_string_add_sum w _ _ (by rw [o]; omega)
 have q2 : ∀ w, (Op.stringOp .add s1 sb).run Try.prog w = .ok (.string s2) w:=fun w => by rw [e2]; exact run_string_add_sum w _ _ (by omega)
 have q3 : ∀ w, (Op.stringOp .add s2 (⟨#[58]⟩ : ByteArray)).run Try.prog w = .ok (.string s3) w:=fun w => by rw [e3]; exact run_string_add_sum w _ _ (by rw [o]; omega)
 have q4 : ∀ w, (Op.stringOp .add s3 sc).run Try.prog w = .ok (.string s4) w:=fun w => by rw [e4]; exact run_string_add_sum w _ _ (by omega)
 have q5 : ∀ w, (Op.stringOp .add s4 (⟨#[35]⟩ : ByteArray)).run Try.prog w = .ok (.string s5) w:=fun w => by rw [e5]; exact run_string_add_sum w _ _ (by rw [o]; omega)
 have q6 : ∀ w, (Op.stringOp .add s5 sd).run Try.prog w = .ok (.string r) w:=fun w => by rw [HX.out]; exact run_string_add_sum w _ _ (by omega)
 clear HX e1 e2 e3 e4 e5 y1 y2 y3 y4 y5 za zb zc zd o a1 a2 b1 b2 c1 c2 d1 d2
 go_enter Try.func76, Try.ntmps76
 go_wp2_with fail
 refine (OK.out _).mono ?_
 rintro e w1 ⟨rfl, q1⟩
 have bel : Below w.heap.size w w1:=((Below.refl _ _).alloc (Nat.le_refl _) _).trans (q1.mono (by simp))
 have hsz : w.heap.size + 1 ≤ w1.heap.size:=by have:=q1.size; simp at this; exact this
 have X1:=hide ((cells4_new w a b c d 89).below q1 (by simp))
 have K : Hid (∀ w', Below w1.heap.size w1 w' → Below w1.heap.size w1 w' ∧ (w'.cell? ⟨w.heap.size, 0, none⟩ = some (.int .i64 a) ∧ w'.cell? ⟨w.heap.size, 1, none⟩ = some (.int .i64 b) ∧ w'.cell? ⟨w.heap.size, 2, none⟩ = some (.int .i64 c) ∧ w'.cell? ⟨w.heap.size, 3, none⟩ = some (.int .i64 d))) :=
  fun w' hb => ⟨hb, X1.out.below hb (by omega)⟩
 have hKeep:=K.out _ (Below.drew (Below.refl _ w1))
 have bA : Below w1.heap.size w1 w1.drew:=Below.drew (Below.refl _ _)
 clear q1
 go_upto_region 3 with fail
 first | go_region_held3 (fun w' => Below w1.heap.size w1 w' ∧ (w'.cell? ⟨w.heap.size, 0, none⟩ = some (.int .i64 a) ∧ w'.cell? ⟨w.heap.size, 1, none⟩ = some (.int .i64 b) ∧ w'.cell? ⟨w.heap.size, 2, none⟩ = some (.int .i64 c) ∧ w'.cell? ⟨w.heap.size, 3, none⟩ = some (.int .i64 d))) (exact hKeep) (first
  | (go_at_call 67; have hgo := bA; refine (CA.out _).mono ?_; rintro e wa ⟨rfl, ba⟩
     have bB : Below w1.heap.size w1 wa:=bA.trans ba
     have hKeep:=K.out _ bB; clear bA hgo)
  | (go_at_call 67; have hgo := bB; refine (CB.out _).mono ?_; rintro e wb ⟨rfl, bb⟩
     have bC : Below w1.heap.size w1 wb:=bu bB bb
     have hKeep:=K.out _ bC; clear bB hgo)
  | (go_at_call 67; have hgo := bC; refine (CC.out _).mono ?_; rintro e wc ⟨rfl, bc⟩
     have bD : Below w1.heap.size w1 wc:=bu bC bc
     have hKeep:=K.out _ bD; clear bC hgo)
  | (go_at_call 67; have hgo := bD; refine (CD.out _).mono ?_; rintro e wd ⟨rfl, bd⟩
     have bE : Below w1.heap.size w1 wd:=bu bD bd
     have hKeep:=K.out _ bE; clear bD hgo)) | fail
 all_goals
  go_wp2
  go_ret
  exact ⟨rfl, bel.trans (bE.mono (by omega))⟩

theorem specTxText_no (a b c d : Int) (w : World) (h : ¬ Ok4 a b c d) :
 Calls Try.prog 76 #[txv a b c d] w fun e w' => e = .returned (.string ⟨#[]⟩) ∧ Below w.heap.size w w' := by
 go_enter Try.func76, Try.ntmps76
 go_wp2_with fail
 refine (specTxOk_no a b c d _ h).mono ?_
 rintro e w1 ⟨rfl, q1⟩
 go_wp2
 go_ret
 exact ⟨rfl, ((Below.refl _ _).alloc (Nat.le_refl _) _).trans (q1.mono (by simp))⟩

def txt (a b c d : Int) : ByteArray := if Ok4 a b c d then txs a b c d else ⟨#[]⟩
theorem specTxText (a b c d : Int) (w : World) :
 Calls Try.prog 76 #[txv a b c d] w fun e w' => e = .returned (.string (txt a b c d)) ∧ Below w.heap.size w w' := by
 unfold txt
 by_cases h : Ok4 a b c d
 ·rw [if_pos h]; exact specTxText_yes a b c d w h
 rw [if_neg h]; exact specTxText_no a b c d w h
end
end Go.Proofs.Ytjkcphnohhpihaa
