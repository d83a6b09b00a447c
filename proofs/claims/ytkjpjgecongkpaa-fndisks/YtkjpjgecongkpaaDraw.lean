/- The cursor of the draws: spec.l1New, l1Byte, l1Below, l1Once, l1Pick, l1PickInt. -/
import Derived.Test.YtkjpjgecongkpaaBase
import Derived.Laws.Bits128
namespace Go.Proofs.Ytkjpjgecongkpaa
open Go.RowKit

/-- Block g is a cursor over the bytes xs, which lie below block 'base'. -/
structure Cur (w : World) (base g : Nat) (ao : Option Addr) (ca : Nat) (xs : List Int) : Prop where
  low : base ≤ g
  len : xs.length ≤ 140737488355328
  cells : ∃ i h : Int, w.heap[g]? = some (.cells #[.slice ao xs.length ca, .int .i64 i, .int .i64 h] 70 (0, 0)) ∧ 0 ≤ i ∧ i ≤ xs.length
  code : xs = [] ∨ ∃ b off, b < base ∧ ao = some ⟨b, off, none⟩ ∧ ∀ k, k < xs.length → w.cell? ⟨b, off + k, none⟩ = some (.int .u8 (xs.getD k 0)) ∧ 0 ≤ xs.getD k 0 ∧ xs.getD k 0 ≤ 255

theorem i64_and255 (n : Int) : bits .and .i64 n 255 = n % 256 := by
  have h255 : (BitVec.ofInt 64 255).toNat = 2 ^ 8 - 1 := by decide
  have key : (BitVec.ofInt 64 n &&& BitVec.ofInt 64 255).toNat = (n % ((2 ^ 64 : Nat) : Int)).toNat % 2 ^ 8 := by
    rw [BitVec.toNat_and, BitVec.toNat_ofInt, h255, Nat.and_two_pow_sub_one_eq_mod]
  show IntKind.i64.wrap ((BitVec.ofInt 64 n &&& BitVec.ofInt 64 255).toNat : Nat) = n % 256
  rw [key, IntKind.wrap_i64]
  omega
theorem and255 (n : Int) : 0 ≤ bits .and .i64 n 255 ∧ bits .and .i64 n 255 ≤ 255 := by rw [i64_and255]; omega

theorem three_cells {w : World} {g : Nat} {x y z : Value} {t : TypeId} (h : w.heap[g]? = some (.cells #[x, y, z] t (0, 0))) :
    w.cell? ⟨g, 0, none⟩ = some x ∧ w.cell? ⟨g, 1, none⟩ = some y ∧ w.cell? ⟨g, 2, none⟩ = some z ∧ w.frozen? ⟨g, 0, none⟩ = false ∧ w.frozen? ⟨g, 1, none⟩ = false ∧ w.frozen? ⟨g, 2, none⟩ = false := by
  refine ⟨?_, ?_, ?_, frozen_of_row w g 0 _ t h, frozen_of_row w g 1 _ t h, frozen_of_row w g 2 _ t h⟩
  · rw [cell_of_row w g 0 _ t (0, 0) h]; rfl
  · rw [cell_of_row w g 1 _ t (0, 0) h]; rfl
  · rw [cell_of_row w g 2 _ t (0, 0) h]; rfl

theorem set_two {w : World} {g : Nat} {x y z : Value} {t : TypeId} (h : w.heap[g]? = some (.cells #[x, y, z] t (0, 0))) (u : Value) : (w.setCell ⟨g, 2, none⟩ u).heap[g]? = some (.cells #[x, y, u] t (0, 0)) := by
  rw [heap_setCell_same w g 2 _ t u h]; rfl
theorem set_one {w : World} {g : Nat} {x y z : Value} {t : TypeId} (h : w.heap[g]? = some (.cells #[x, y, z] t (0, 0))) (u : Value) : (w.setCell ⟨g, 1, none⟩ u).heap[g]? = some (.cells #[x, u, z] t (0, 0)) := by
  rw [heap_setCell_same w g 1 _ t u h]; rfl
theorem set_grown (w : World) (g j : Nat) (u : Value) : w.grownBy (w.setCell ⟨g, j, none⟩ u) (some g) :=
  ⟨rfl, rfl, rfl, by simp, fun k _ hk => heap_setCell_other w ⟨g, j, none⟩ k u (fun e => hk (by simp [e]))⟩

theorem grown_drewN {a b : World} {row : Option Nat} (h : a.grownBy b row) (n : Nat) : a.grownBy (b.drewN n) row := ⟨h.os, h.tape, h.output, h.size, h.block⟩

/-- What a byte that is drawn leaves. -/
def ByteEnd (w : World) (g ca : Nat) (ao : Option Addr) (xs : List Int) (e : Ending) (w' : World) : Prop :=
  ∃ x : Int, e = .returned (.int .i64 x) ∧ 0 ≤ x ∧ x ≤ 255 ∧ (∃ i h : Int, w'.heap[g]? = some (.cells #[.slice ao xs.length ca, .int .i64 i, .int .i64 h] 70 (0, 0)) ∧ 0 ≤ i ∧ i ≤ xs.length) ∧ w.grownBy w' (some g)

set_option maxHeartbeats 1600000 in
set_option maxRecDepth 100000 in
theorem byte_end (g ca : Nat) (ao : Option Addr) (xs : List Int) (h : Int) (w : World) (hl : xs.length ≤ 140737488355328)
    (hc : w.heap[g]? = some (.cells #[.slice ao xs.length ca, .int .i64 xs.length, .int .i64 h] 70 (0, 0))) :
    Calls Try.prog 52 #[.pointer (some ⟨g, 0, none⟩)] w (ByteEnd w g ca ao xs) := by
  obtain ⟨c0, c1, c2, f0, f1, f2⟩ := three_cells hc
  have HC := hide hc
  clear hc
  go_enter Try.func52, Try.ntmps52
  go_wp2_with fail
  go_quiet (fail)
  go_wp2_with fail
  go_quiet (fail)
  go_wp2
  go_ret
  exact ⟨_, rfl, (and255 _).1, (and255 _).2, ⟨_, _, set_two (unhide HC) _, by omega, by omega⟩, grown_drewN (grown_drewN (set_grown _ _ _ _) _) _⟩

set_option maxHeartbeats 1600000 in
set_option maxRecDepth 100000 in
theorem byte_mid (g ca b off : Nat) (xs : List Int) (i : Nat) (h : Int) (w : World) (hl : xs.length ≤ 140737488355328) (hbg : b ≠ g)
    (hc : w.heap[g]? = some (.cells #[.slice (some ⟨b, off, none⟩) xs.length ca, .int .i64 i, .int .i64 h] 70 (0, 0))) (hi : i < xs.length)
    (hb : w.cell? ⟨b, off + i, none⟩ = some (.int .u8 (xs.getD i 0))) (hx : 0 ≤ xs.getD i 0 ∧ xs.getD i 0 ≤ 255) :
    Calls Try.prog 52 #[.pointer (some ⟨g, 0, none⟩)] w (ByteEnd w g ca (some ⟨b, off, none⟩) xs) := by
  obtain ⟨c0, c1, c2, f0, f1, f2⟩ := three_cells hc
  have HC := hide hc
  clear hc
  generalize xs.getD i 0 = d at *
  go_enter Try.func52, Try.ntmps52
  go_wp2_with fail
  go_quiet (fail)
  go_wp2_with fail
  go_quiet (fail)
  go_wp2_with fail
  go_quiet (fail)
  go_wp2
  go_ret
  exact ⟨_, rfl, (and255 _).1, (and255 _).2, ⟨_, _, set_one (set_two (unhide HC) _) _, by omega, by omega⟩, grown_trans (grown_drewN (set_grown _ _ _ _) _) (set_grown _ _ _ _)⟩

theorem Cur.grown {w w' : World} {base g ca : Nat} {ao : Option Addr} {xs : List Int} (h : Cur w base g ao ca xs) (hg : w.grownBy w' (some g)) (hB : base ≤ w.heap.size)
    (hc : ∃ i h : Int, w'.heap[g]? = some (.cells #[.slice ao xs.length ca, .int .i64 i, .int .i64 h] 70 (0, 0)) ∧ 0 ≤ i ∧ i ≤ xs.length) : Cur w' base g ao ca xs := by
  refine ⟨h.low, h.len, hc, ?_⟩
  rcases h.code with h' | ⟨b, off, hb, ha, hx⟩
  · exact .inl h'
  · refine .inr ⟨b, off, hb, ha, fun k hk => ⟨?_, (hx k hk).2⟩⟩
    have hlow := h.low
    rw [World.cell?_of_block (w := w) (hg.block b (by omega) (by simp; omega))]
    exact (hx k hk).1
/-- A byte is drawn: from 0 to 255; the cursor stays one; nothing else turns. -/
theorem byte_any (base g ca : Nat) (ao : Option Addr) (xs : List Int) (w : World) (hB : base ≤ w.heap.size) (h : Cur w base g ao ca xs) :
    Calls Try.prog 52 #[.pointer (some ⟨g, 0, none⟩)] w fun e w' => ∃ x : Int, e = .returned (.int .i64 x) ∧ 0 ≤ x ∧ x ≤ 255 ∧ Cur w' base g ao ca xs ∧ w.grownBy w' (some g) := by
  have key : Calls Try.prog 52 #[.pointer (some ⟨g, 0, none⟩)] w (ByteEnd w g ca ao xs) := by
    obtain ⟨i, hh, hc, h0, h1⟩ := h.cells
    by_cases hi : i = xs.length
    · subst hi; exact byte_end g ca ao xs hh w h.len hc
    · obtain ⟨k, rfl⟩ := Int.eq_ofNat_of_zero_le h0
      rcases h.code with h' | ⟨b, off, hb, rfl, hx⟩
      · subst h'; simp at h1; simp at hi; omega
      · have hlow := h.low
        exact byte_mid g ca b off xs k hh w h.len (by omega) hc (by omega) (hx k (by omega)).1 (hx k (by omega)).2
  refine key.mono ?_
  rintro e w' ⟨x, rfl, h0, h1, hc, hg⟩
  exact ⟨x, rfl, h0, h1, h.grown hg hB hc, hg⟩

set_option maxHeartbeats 400000 in
set_option maxRecDepth 100000 in
/-- A number below n is drawn, n from 1 to 256. -/
theorem below_any (base g ca : Nat) (ao : Option Addr) (xs : List Int) (n : Int) (w : World) (hB : base ≤ w.heap.size) (hn : 1 ≤ n) (hm : n ≤ 256) (h : Cur w base g ao ca xs) :
    Calls Try.prog 43 #[.pointer (some ⟨g, 0, none⟩), .int .i64 n] w fun e w' => ∃ x : Int, e = .returned (.int .i64 x) ∧ 0 ≤ x ∧ x < n ∧ Cur w' base g ao ca xs ∧ w.grownBy w' (some g) := by
  have HC := hide (byte_any base g ca ao xs w hB h)
  clear h
  go_enter Try.func43, Try.ntmps43
  go_wp2_with fail
  refine (unhide HC).mono ?_
  rintro e w' ⟨x, rfl, h0, h1, hc, hg⟩
  go_wp2
  go_ret
  exact ⟨_, rfl, Int.emod_nonneg _ (by omega), Int.emod_lt_of_pos _ (by omega), hc, hg⟩

set_option maxHeartbeats 400000 in
set_option maxRecDepth 100000 in
theorem once_any (base g ca : Nat) (ao : Option Addr) (xs : List Int) (n : Int) (w : World) (hB : base ≤ w.heap.size) (hn : 1 ≤ n) (hm : n ≤ 256) (h : Cur w base g ao ca xs) :
    Calls Try.prog 50 #[.pointer (some ⟨g, 0, none⟩), .int .i64 n] w fun e w' => ∃ b : Bool, e = .returned (.bool b) ∧ Cur w' base g ao ca xs ∧ w.grownBy w' (some g) := by
  have HC := hide (below_any base g ca ao xs n w hB hn hm h)
  clear h
  go_enter Try.func50, Try.ntmps50
  go_wp2_with fail
  refine (unhide HC).mono ?_
  rintro e w' ⟨x, rfl, h0, h1, hc, hg⟩
  go_wp2
  go_ret
  exact ⟨_, rfl, hc, hg⟩

set_option maxHeartbeats 400000 in
set_option maxRecDepth 100000 in
/-- One of a list of numbers is drawn; the list lies in block p. -/
theorem pickInt_any (base g ca p : Nat) (ao : Option Addr) (xs zs : List Int) (w : World) (hB : base ≤ w.heap.size) (hp : p ≠ g) (hz : 1 ≤ zs.length) (hz2 : zs.length ≤ 256) (hc : ∀ k, k < zs.length → w.cell? ⟨p, k, none⟩ = some (.int .i64 (zs.getD k 0))) (h : Cur w base g ao ca xs) :
    Calls Try.prog 30 #[.pointer (some ⟨g, 0, none⟩), .slice (some ⟨p, 0, none⟩) zs.length zs.length] w fun e w' => ∃ k : Nat, k < zs.length ∧ e = .returned (.int .i64 (zs.getD k 0)) ∧ Cur w' base g ao ca xs ∧ w.grownBy w' (some g) := by
  have HC := hide (below_any base g ca ao xs zs.length w hB (by omega) (by omega) h)
  have HD := hide hc
  clear h hc
  go_enter Try.func30, Try.ntmps30
  go_wp2_with fail
  refine (unhide HC).mono ?_
  rintro e w' ⟨x, rfl, h0, h1, hcur, hg⟩
  obtain ⟨k, rfl⟩ := Int.eq_ofNat_of_zero_le h0
  have hk : k < zs.length := by omega
  have hcell : w'.cell? ⟨p, k, none⟩ = some (.int .i64 (zs.getD k 0)) := by
    have h1 := unhide HD k hk
    exact hg.cell h1 (by simp [hp])
  obtain ⟨z, hz'⟩ : ∃ z, zs.getD k 0 = z := ⟨_, rfl⟩
  rw [hz'] at hcell
  have HZ := hide hz'
  clear hz'
  go_wp2
  go_ret
  have hz'' := unhide HZ
  subst hz''
  exact ⟨k, hk, rfl, hcur, hg⟩

theorem new_cur (ao : Option Addr) (ca : Nat) (xs : List Int) (z : Int) (w : World) (hl : xs.length ≤ 1048576)
    (h : xs = [] ∨ ∃ b off, ao = some ⟨b, off, none⟩ ∧ ∀ k, k < xs.length → w.cell? ⟨b, off + k, none⟩ = some (.int .u8 (xs.getD k 0))) (hb : ∀ k, k < xs.length → 0 ≤ xs.getD k 0 ∧ xs.getD k 0 ≤ 255) :
    Cur (w.alloc (.cells #[.slice ao xs.length ca, .int .i64 0, .int .i64 z] 70)) w.heap.size w.heap.size ao ca xs := by
  refine ⟨Nat.le_refl _, by omega, ⟨0, z, heap_alloc_new w _, by omega, by omega⟩, ?_⟩
  rcases h with h | ⟨b, off, rfl, hx⟩
  · exact .inl h
  · by_cases h0 : xs = []
    · exact .inl h0
    · have hpos : 0 < xs.length := List.length_pos_iff.2 h0
      have hlt : b < w.heap.size := cell_lt (hx 0 hpos)
      refine .inr ⟨b, off, hlt, rfl, fun k hk => ⟨?_, hb k hk⟩⟩
      rw [((Below.refl w.heap.size w).alloc (Nat.le_refl _) _).cell (p := ⟨b, off + k, none⟩) hlt]
      exact hx k hk

set_option maxHeartbeats 800000 in
set_option maxRecDepth 100000 in
/-- A new cursor. -/
theorem new_any (ao : Option Addr) (ca : Nat) (xs : List Int) (w : World) (hl : xs.length ≤ 1048576)
    (h : xs = [] ∨ ∃ b off, ao = some ⟨b, off, none⟩ ∧ ∀ k, k < xs.length → w.cell? ⟨b, off + k, none⟩ = some (.int .u8 (xs.getD k 0))) (hb : ∀ k, k < xs.length → 0 ≤ xs.getD k 0 ∧ xs.getD k 0 ≤ 255) :
    Calls Try.prog 28 #[.slice ao xs.length ca] w fun e w' => e = .returned (.pointer (some ⟨w.heap.size, 0, none⟩)) ∧ Cur w' w.heap.size w.heap.size ao ca xs ∧ Below w.heap.size w w' := by
  obtain ⟨n, hn⟩ : ∃ n, xs.length = n := ⟨_, rfl⟩
  have Hn := hide hn
  rw [hn] at hl h hb ⊢
  clear hn
  go_enter Try.func28, Try.ntmps28
  go_wp2
  go_loop [3, 4] (fun y i => ∃ (k : Nat) (z : Int), k ≤ n ∧ y = .int .i64 z ∧ i = .int .i64 k) (fun _ i => n - (intOf i).toNat)
  case atStart => exact ⟨0, _, by omega, rfl, rfl⟩
  case round =>
    obtain ⟨k, z, hk, rfl, rfl⟩ := hrel
    by_cases hlt : k < n
    · by_cases h4 : k < 4000
      · rcases h with rfl | ⟨b, off, rfl, hx⟩
        · have := unhide Hn; simp at this; omega
        have hc := hx k hlt
        have hbd := hb k hlt
        clear hx hb
        generalize xs.getD k 0 = d at *
        go_wp2
        go_round
        case rel => exact ⟨k + 1, _, by omega, rfl, by go_num⟩
        case measure => simp [intOf]; omega
      · have hd4 : decide ((k : Int) < 4000) = false := by simp; omega
        have HX := hide h
        have HB := hide hb
        clear h hb
        have HN := fun z => hide (new_cur ao ca xs z w (by rw [unhide Hn]; exact hl) (by rw [unhide Hn]; exact unhide HX) (by rw [unhide Hn]; exact unhide HB))
        rw [unhide Hn] at HN
        go_wp2
        go_ret
        exact ⟨rfl, unhide (HN z), (Below.refl _ _).alloc (Nat.le_refl _) _⟩
    · have hd : decide ((k : Int) < (n : Int)) = false := by simp; omega
      have HN := fun z => hide (new_cur ao ca xs z w (by rw [unhide Hn]; exact hl) (by rw [unhide Hn]; exact h) (by rw [unhide Hn]; exact hb))
      rw [unhide Hn] at HN
      clear h hb
      go_wp2
      go_ret
      exact ⟨rfl, unhide (HN z), (Below.refl _ _).alloc (Nat.le_refl _) _⟩
end Go.Proofs.Ytkjpjgecongkpaa
