/- Texts that belong together: DrawL, DrawTxL, DrawLedger. -/
import Derived.Test.YthdehhenkgkkmaaDoorBunA
import Derived.Laws.Bits128
import Derived.Test.YthdehhenkgkkmaaDoorBunD
import Derived.Test.YthdehhenkgkkmaaDoorBunF
/- The cursor of the draws: spec.l1New, l1Byte, l1Below, l1Once, l1Pick, l1PickInt. -/
namespace Go.Proofs.YthdehhenkgkkmaaDoor
open Go.RowKit
set_option linter.unusedSectionVars false
variable [∀ (a b c d : Int), Decidable (Ok4 a b c d)]
variable [∀ (m a b c d : Int), Decidable (In4 m a b c d)]
variable [∀ (xs ys : List Int), Decidable (LOk xs ys)]

/-- Block g is a cursor over the bytes xs, which lie below block 'base'. -/
structure Cur (w : World) (base g : Nat) (ao : Option Addr) (ca : Nat) (xs : List Int) : Prop where
  low : base ≤ g
  len : xs.length ≤ 140737488355328
  cells : ∃ i h : Int, w.heap[g]? = some (.cells #[.slice ao xs.length ca, .int .i64 i, .int .i64 h] 75 (0, 0)) ∧ 0 ≤ i ∧ i ≤ xs.length
  code : xs = [] ∨ ∃ b off, b < base ∧ ao = some ⟨b, off, none⟩ ∧ ∀ k, k < xs.length → w.cell? ⟨b, off + k, none⟩ = some (.int .u8 (xs.getD k 0)) ∧ 0 ≤ xs.getD k 0 ∧ xs.getD k 0 ≤ 255

theorem i64_and255 (n : Int) : bits .and .i64 n 255 = n % 256 := by
  have h255 : (BitVec.ofInt 64 255).toNat = 2 ^ 8 - 1 := by decide
  have key : (BitVec.ofInt 64 n &&& BitVec.ofInt 64 255).toNat = (n % ((2 ^ 64 : Nat) : Int)).toNat % 2 ^ 8 := by
    rw [BitVec.toNat_and, BitVec.toNat_ofInt, h255, Nat.and_two_pow_sub_one_eq_mod]
  show IntKind.i64.wrap ((BitVec.ofInt 64 n &&& BitVec.ofInt 64 255).toNat : Nat) = n % 256
  rw [key, IntKind.wrap_i64]
  omega
theorem and255 (n : Int) : 0 ≤ bits .and .i64 n 255 ∧ bits .and .i64 n 255 ≤ 255 := by rw [i64_and255]; omega

theorem three_cells {w : World} {g : Nat} {x y z : Value} {t : TypeId} (h : w.heap[g]? = some (.cells #[x, y, z] t (0, 0))) :
    w.cell? ⟨g, 0, none⟩ = some x ∧ w.cell? ⟨g, 1, none⟩ = some y ∧ w.cell? ⟨g, 2, none⟩ = some z ∧ w.frozen? ⟨g, 0, none⟩ = false ∧ w.frozen? ⟨g, 1, none⟩ = false ∧ w.frozen? ⟨g, 2, none⟩ = false := by
  refine ⟨?_, ?_, ?_, frozen_of_row w g 0 _ t h, frozen_of_row w g 1 _ t h, frozen_of_row w g 2 _ t h⟩
  · rw [cell_of_row w g 0 _ t (0, 0) h]; rfl
  · rw [cell_of_row w g 1 _ t (0, 0) h]; rfl
  · rw [cell_of_row w g 2 _ t (0, 0) h]; rfl

theorem set_two {w : World} {g : Nat} {x y z : Value} {t : TypeId} (h : w.heap[g]? = some (.cells #[x, y, z] t (0, 0))) (u : Value) : (w.setCell ⟨g, 2, none⟩ u).heap[g]? = some (.cells #[x, y, u] t (0, 0)) := by
  rw [heap_setCell_same w g 2 _ t u h]; rfl
theorem set_one {w : World} {g : Nat} {x y z : Value} {t : TypeId} (h : w.heap[g]? = some (.cells #[x, y, z] t (0, 0))) (u : Value) : (w.setCell ⟨g, 1, none⟩ u).heap[g]? = some (.cells #[x, u, z] t (0, 0)) := by
  rw [heap_setCell_same w g 1 _ t u h]; rfl
theorem set_grown (w : World) (g j : Nat) (u : Value) : w.grownBy (w.setCell ⟨g, j, none⟩ u) (some g) :=
  ⟨rfl, rfl, rfl, by simp, fun k _ hk => heap_setCell_other w ⟨g, j, none⟩ k u (fun e => hk (by simp [e]))⟩

theorem grown_drewN {a b : World} {row : Option Nat} (h : a.grownBy b row) (n : Nat) : a.grownBy (b.drewN n) row := ⟨h.os, h.tape, h.output, h.size, h.block⟩

/-- What a byte that is drawn leaves. -/
def ByteEnd (w : World) (g ca : Nat) (ao : Option Addr) (xs : List Int) (e : Ending) (w' : World) : Prop :=
  ∃ x : Int, e = .returned (.int .i64 x) ∧ 0 ≤ x ∧ x ≤ 255 ∧ (∃ i h : Int, w'.heap[g]? = some (.cells #[.slice ao xs.length ca, .int .i64 i, .int .i64 h] 75 (0, 0)) ∧ 0 ≤ i ∧ i ≤ xs.length) ∧ w.grownBy w' (some g)

set_option maxHeartbeats 1600000 in
set_option maxRecDepth 100000 in
theorem byte_end (g ca : Nat) (ao : Option Addr) (xs : List Int) (h : Int) (w : World) (hl : xs.length ≤ 140737488355328)
    (hc : w.heap[g]? = some (.cells #[.slice ao xs.length ca, .int .i64 xs.length, .int .i64 h] 75 (0, 0))) :
    Calls Tryd.prog 62 #[.pointer (some ⟨g, 0, none⟩)] w (ByteEnd w g ca ao xs) := by
  obtain ⟨c0, c1, c2, f0, f1, f2⟩ := three_cells hc
  have HC := hide hc
  clear hc
  go_enter Tryd.func62, Tryd.ntmps62
  go_wp2_with fail
  go_quiet (fail)
  go_wp2_with fail
  go_quiet (fail)
  go_wp2
  go_ret
  exact ⟨_, rfl, (and255 _).1, (and255 _).2, ⟨_, _, set_two (unhide HC) _, by omega, by omega⟩, grown_drewN (grown_drewN (set_grown _ _ _ _) _) _⟩

set_option maxHeartbeats 1600000 in
set_option maxRecDepth 100000 in
theorem byte_mid (g ca b off : Nat) (xs : List Int) (i : Nat) (h : Int) (w : World) (hl : xs.length ≤ 140737488355328) (hbg : b ≠ g)
    (hc : w.heap[g]? = some (.cells #[.slice (some ⟨b, off, none⟩) xs.length ca, .int .i64 i, .int .i64 h] 75 (0, 0))) (hi : i < xs.length)
    (hb : w.cell? ⟨b, off + i, none⟩ = some (.int .u8 (xs.getD i 0))) (hx : 0 ≤ xs.getD i 0 ∧ xs.getD i 0 ≤ 255) :
    Calls Tryd.prog 62 #[.pointer (some ⟨g, 0, none⟩)] w (ByteEnd w g ca (some ⟨b, off, none⟩) xs) := by
  obtain ⟨c0, c1, c2, f0, f1, f2⟩ := three_cells hc
  have HC := hide hc
  clear hc
  generalize xs.getD i 0 = d at *
  go_enter Tryd.func62, Tryd.ntmps62
  go_wp2_with fail
  go_quiet (fail)
  go_wp2_with fail
  go_quiet (fail)
  go_wp2_with fail
  go_quiet (fail)
  go_wp2
  go_ret
  exact ⟨_, rfl, (and255 _).1, (and255 _).2, ⟨_, _, set_one (set_two (unhide HC) _) _, by omega, by omega⟩, grown_trans (grown_drewN (set_grown _ _ _ _) _) (set_grown _ _ _ _)⟩

theorem Cur.grown {w w' : World} {base g ca : Nat} {ao : Option Addr} {xs : List Int} (h : Cur w base g ao ca xs) (hg : w.grownBy w' (some g)) (hB : base ≤ w.heap.size)
    (hc : ∃ i h : Int, w'.heap[g]? = some (.cells #[.slice ao xs.length ca, .int .i64 i, .int .i64 h] 75 (0, 0)) ∧ 0 ≤ i ∧ i ≤ xs.length) : Cur w' base g ao ca xs := by
  refine ⟨h.low, h.len, hc, ?_⟩
  rcases h.code with h' | ⟨b, off, hb, ha, hx⟩
  · exact .inl h'
  · refine .inr ⟨b, off, hb, ha, fun k hk => ⟨?_, (hx k hk).2⟩⟩
    have hlow := h.low
    rw [World.cell?_of_block (w := w) (hg.block b (by omega) (by simp; omega))]
    exact (hx k hk).1
/-- A byte is drawn: from 0 to 255; the cursor stays one; nothing else turns. -/
theorem byte_any (base g ca : Nat) (ao : Option Addr) (xs : List Int) (w : World) (hB : base ≤ w.heap.size) (h : Cur w base g ao ca xs) :
    Calls Tryd.prog 62 #[.pointer (some ⟨g, 0, none⟩)] w fun e w' => ∃ x : Int, e = .returned (.int .i64 x) ∧ 0 ≤ x ∧ x ≤ 255 ∧ Cur w' base g ao ca xs ∧ w.grownBy w' (some g) := by
  have key : Calls Tryd.prog 62 #[.pointer (some ⟨g, 0, none⟩)] w (ByteEnd w g ca ao xs) := by
    obtain ⟨i, hh, hc, h0, h1⟩ := h.cells
    by_cases hi : i = xs.length
    · subst hi; exact byte_end g ca ao xs hh w h.len hc
    · obtain ⟨k, rfl⟩ := Int.eq_ofNat_of_zero_le h0
      rcases h.code with h' | ⟨b, off, hb, rfl, hx⟩
      · subst h'; simp at h1; simp at hi; omega
      · have hlow := h.low
        exact byte_mid g ca b off xs k hh w h.len (by omega) hc (by omega) (hx k (by omega)).1 (hx k (by omega)).2
  refine key.mono ?_
  rintro e w' ⟨x, rfl, h0, h1, hc, hg⟩
  exact ⟨x, rfl, h0, h1, h.grown hg hB hc, hg⟩

set_option maxHeartbeats 400000 in
set_option maxRecDepth 100000 in
/-- A number below n is drawn, n from 1 to 256. -/
theorem below_any (base g ca : Nat) (ao : Option Addr) (xs : List Int) (n : Int) (w : World) (hB : base ≤ w.heap.size) (hn : 1 ≤ n) (hm : n ≤ 256) (h : Cur w base g ao ca xs) :
    Calls Tryd.prog 44 #[.pointer (some ⟨g, 0, none⟩), .int .i64 n] w fun e w' => ∃ x : Int, e = .returned (.int .i64 x) ∧ 0 ≤ x ∧ x < n ∧ Cur w' base g ao ca xs ∧ w.grownBy w' (some g) := by
  have HC := hide (byte_any base g ca ao xs w hB h)
  clear h
  go_enter Tryd.func44, Tryd.ntmps44
  go_wp2_with fail
  refine (unhide HC).mono ?_
  rintro e w' ⟨x, rfl, h0, h1, hc, hg⟩
  go_wp2
  go_ret
  exact ⟨_, rfl, Int.emod_nonneg _ (by omega), Int.emod_lt_of_pos _ (by omega), hc, hg⟩

set_option maxHeartbeats 400000 in
set_option maxRecDepth 100000 in
/-- One of a list of numbers is drawn; the list lies in block p. -/
theorem pickInt_any (base g ca p : Nat) (ao : Option Addr) (xs zs : List Int) (w : World) (hB : base ≤ w.heap.size) (hp : p ≠ g) (hz : 1 ≤ zs.length) (hz2 : zs.length ≤ 256) (hc : ∀ k, k < zs.length → w.cell? ⟨p, k, none⟩ = some (.int .i64 (zs.getD k 0))) (h : Cur w base g ao ca xs) :
    Calls Tryd.prog 46 #[.pointer (some ⟨g, 0, none⟩), .slice (some ⟨p, 0, none⟩) zs.length zs.length] w fun e w' => ∃ k : Nat, k < zs.length ∧ e = .returned (.int .i64 (zs.getD k 0)) ∧ Cur w' base g ao ca xs ∧ w.grownBy w' (some g) := by
  have HC := hide (below_any base g ca ao xs zs.length w hB (by omega) (by omega) h)
  have HD := hide hc
  clear h hc
  go_enter Tryd.func46, Tryd.ntmps46
  go_wp2_with fail
  refine (unhide HC).mono ?_
  rintro e w' ⟨x, rfl, h0, h1, hcur, hg⟩
  obtain ⟨k, rfl⟩ := Int.eq_ofNat_of_zero_le h0
  have hk : k < zs.length := by omega
  have hcell : w'.cell? ⟨p, k, none⟩ = some (.int .i64 (zs.getD k 0)) := by
    have h1 := unhide HD k hk
    exact hg.cell h1 (by simp [hp])
  obtain ⟨z, hz'⟩ : ∃ z, zs.getD k 0 = z := ⟨_, rfl⟩
  rw [hz'] at hcell
  have HZ := hide hz'
  clear hz'
  go_wp2
  go_ret
  have hz'' := unhide HZ
  subst hz''
  exact ⟨k, hk, rfl, hcur, hg⟩

theorem new_cur (ao : Option Addr) (ca : Nat) (xs : List Int) (z : Int) (w : World) (hl : xs.length ≤ 1048576)
    (h : xs = [] ∨ ∃ b off, ao = some ⟨b, off, none⟩ ∧ ∀ k, k < xs.length → w.cell? ⟨b, off + k, none⟩ = some (.int .u8 (xs.getD k 0))) (hb : ∀ k, k < xs.length → 0 ≤ xs.getD k 0 ∧ xs.getD k 0 ≤ 255) :
    Cur (w.alloc (.cells #[.slice ao xs.length ca, .int .i64 0, .int .i64 z] 75)) w.heap.size w.heap.size ao ca xs := by
  refine ⟨Nat.le_refl _, by omega, ⟨0, z, heap_alloc_new w _, by omega, by omega⟩, ?_⟩
  rcases h with h | ⟨b, off, rfl, hx⟩
  · exact .inl h
  · by_cases h0 : xs = []
    · exact .inl h0
    · have hpos : 0 < xs.length := List.length_pos_iff.2 h0
      have hlt : b < w.heap.size := cell_lt (hx 0 hpos)
      refine .inr ⟨b, off, hlt, rfl, fun k hk => ⟨?_, hb k hk⟩⟩
      rw [((Below.refl w.heap.size w).alloc (Nat.le_refl _) _).cell (p := ⟨b, off + k, none⟩) hlt]
      exact hx k hk

set_option maxHeartbeats 800000 in
set_option maxRecDepth 100000 in
/-- A new cursor. -/
theorem new_any (ao : Option Addr) (ca : Nat) (xs : List Int) (w : World) (hl : xs.length ≤ 1048576)
    (h : xs = [] ∨ ∃ b off, ao = some ⟨b, off, none⟩ ∧ ∀ k, k < xs.length → w.cell? ⟨b, off + k, none⟩ = some (.int .u8 (xs.getD k 0))) (hb : ∀ k, k < xs.length → 0 ≤ xs.getD k 0 ∧ xs.getD k 0 ≤ 255) :
    Calls Tryd.prog 19 #[.slice ao xs.length ca] w fun e w' => e = .returned (.pointer (some ⟨w.heap.size, 0, none⟩)) ∧ Cur w' w.heap.size w.heap.size ao ca xs ∧ Below w.heap.size w w' := by
  obtain ⟨n, hn⟩ : ∃ n, xs.length = n := ⟨_, rfl⟩
  have Hn := hide hn
  rw [hn] at hl h hb ⊢
  clear hn
  go_enter Tryd.func19, Tryd.ntmps19
  go_wp2
  go_loop [3, 4] (fun y i => ∃ (k : Nat) (z : Int), k ≤ n ∧ y = .int .i64 z ∧ i = .int .i64 k) (fun _ i => n - (intOf i).toNat)
  case atStart => exact ⟨0, _, by omega, rfl, rfl⟩
  case round =>
    obtain ⟨k, z, hk, rfl, rfl⟩ := hrel
    by_cases hlt : k < n
    · by_cases h4 : k < 4000
      · rcases h with rfl | ⟨b, off, rfl, hx⟩
        · have := unhide Hn; simp at this; omega
        have hc := hx k hlt
        have hbd := hb k hlt
        clear hx hb
        generalize xs.getD k 0 = d at *
        go_wp2
        go_round
        case rel => exact ⟨k + 1, _, by omega, rfl, by go_num⟩
        case measure => simp [intOf]; omega
      · have hd4 : decide ((k : Int) < 4000) = false := by simp; omega
        have HX := hide h
        have HB := hide hb
        clear h hb
        have HN := fun z => hide (new_cur ao ca xs z w (by rw [unhide Hn]; exact hl) (by rw [unhide Hn]; exact unhide HX) (by rw [unhide Hn]; exact unhide HB))
        rw [unhide Hn] at HN
        go_wp2
        go_ret
        exact ⟨rfl, unhide (HN z), (Below.refl _ _).alloc (Nat.le_refl _) _⟩
    · have hd : decide ((k : Int) < (n : Int)) = false := by simp; omega
      have HN := fun z => hide (new_cur ao ca xs z w (by rw [unhide Hn]; exact hl) (by rw [unhide Hn]; exact h) (by rw [unhide Hn]; exact hb))
      rw [unhide Hn] at HN
      clear h hb
      go_wp2
      go_ret
      exact ⟨rfl, unhide (HN z), (Below.refl _ _).alloc (Nat.le_refl _) _⟩
end Go.Proofs.YthdehhenkgkkmaaDoor

/- The draws of payments: spec.l2DrawRight, l2Draw, l2DrawList. -/
namespace Go.Proofs.YthdehhenkgkkmaaDoor
open Go.RowKit
set_option linter.unusedSectionVars false
variable [∀ (a b c d : Int), Decidable (Ok4 a b c d)]
variable [∀ (m a b c d : Int), Decidable (In4 m a b c d)]
variable [∀ (xs ys : List Int), Decidable (LOk xs ys)]

theorem Cur.lt {w : World} {base g ca : Nat} {ao : Option Addr} {xs : List Int} (h : Cur w base g ao ca xs) : g < w.heap.size := by
  obtain ⟨i, hh, hc, _⟩ := h.cells
  exact (Array.getElem?_eq_some_iff.1 hc).1
theorem Cur.below {w w' : World} {base g ca : Nat} {ao : Option Addr} {xs : List Int} (h : Cur w base g ao ca xs) (hB : base ≤ w.heap.size) (hb : Below w.heap.size w w') : Cur w' base g ao ca xs := by
  have hg := h.lt
  refine ⟨h.low, h.len, ?_, ?_⟩
  · obtain ⟨i, hh, hc, h0, h1⟩ := h.cells
    exact ⟨i, hh, (hb.block g hg).trans hc, h0, h1⟩
  · rcases h.code with h' | ⟨b, off, hbb, ha, hx⟩
    · exact .inl h'
    · exact .inr ⟨b, off, hbb, ha, fun k hk => ⟨(hb.cell (p := ⟨b, off + k, none⟩) (by show b < _; omega)).trans (hx k hk).1, (hx k hk).2⟩⟩
theorem grown_new {a b c : World} {row row' : Option Nat} (h : a.grownBy b row) (k : b.grownBy c row') (hr : ∀ j, row' = some j → a.heap.size ≤ j) : a.grownBy c row :=
  ⟨k.os.trans h.os, k.tape.trans h.tape, k.output.trans h.output, Nat.le_trans h.size k.size, fun i hi hne => (k.block i (Nat.lt_of_lt_of_le hi h.size) (fun e => by have := hr i e.symm; omega)).trans (h.block i hi hne)⟩
theorem Cur.grownNew {w w' : World} {base g ca : Nat} {ao : Option Addr} {xs : List Int} {row : Option Nat} (h : Cur w base g ao ca xs) (hg : w.grownBy w' row) (hr : ∀ j, row = some j → g < j) : Cur w' base g ao ca xs := by
  have hlt := h.lt
  have hlow := h.low
  refine ⟨h.low, h.len, ?_, ?_⟩
  · obtain ⟨i, hh, hc, h0, h1⟩ := h.cells
    exact ⟨i, hh, (hg.block g hlt (fun e => by have := hr g e.symm; omega)).trans hc, h0, h1⟩
  · rcases h.code with h' | ⟨b, off, hbb, ha, hx⟩
    · exact .inl h'
    · refine .inr ⟨b, off, hbb, ha, fun k hk => ⟨?_, (hx k hk).2⟩⟩
      rw [World.cell?_of_block (w := w) (hg.block b (by omega) (fun e => by have := hr b e.symm; omega))]
      exact (hx k hk).1
theorem Cur.alloc {w : World} {base g ca : Nat} {ao : Option Addr} {xs : List Int} (h : Cur w base g ao ca xs) (hB : base ≤ w.heap.size) (o : Obj) : Cur (w.alloc o) base g ao ca xs := by
  have hg : g < w.heap.size := by
    obtain ⟨i, hh, hc, _⟩ := h.cells
    exact (Array.getElem?_eq_some_iff.1 hc).1
  have hb : Below w.heap.size w (w.alloc o) := (Below.refl _ _).alloc (Nat.le_refl _) o
  refine ⟨h.low, h.len, ?_, ?_⟩
  · obtain ⟨i, hh, hc, h0, h1⟩ := h.cells
    exact ⟨i, hh, (hb.block g hg).trans hc, h0, h1⟩
  · rcases h.code with h' | ⟨b, off, hbb, ha, hx⟩
    · exact .inl h'
    · exact .inr ⟨b, off, hbb, ha, fun k hk => ⟨(hb.cell (p := ⟨b, off + k, none⟩) (by show b < _; omega)).trans (hx k hk).1, (hx k hk).2⟩⟩
theorem four_cell (w : World) (x : T4) (t : TypeId) (j : Nat) (u : Value) (h : (tcell x)[j]? = some u) : (w.alloc (.cells #[.int .i64 x.1, .int .i64 x.2.1, .int .i64 x.2.2.1, .int .i64 x.2.2.2] t)).cell? ((⟨w.heap.size, 0, none⟩ : Addr).add j) = some u := by
  match j, h with
  | 0, h => simp [tcell] at h; subst h; simp [Addr.add]
  | 1, h => simp [tcell] at h; subst h; simp [Addr.add]
  | 2, h => simp [tcell] at h; subst h; simp [Addr.add]
  | 3, h => simp [tcell] at h; subst h; simp [Addr.add]
  | j + 4, h => simp [tcell] at h
theorem four_plain (x : T4) (u : Value) (h : u ∈ tcell x) : u.oneCell' = true := by
  simp [tcell] at h; rcases h with rfl | rfl | rfl | rfl <;> rfl
theorem lit_ints (w : World) (t : TypeId) (zs : List Int) (k : Nat) (hk : k < zs.length) : (w.alloc (.cells (zs.map (Value.int .i64)).toArray t)).cell? ⟨w.heap.size, k, none⟩ = some (.int .i64 (zs.getD k 0)) := by
  rw [cell_of_row _ w.heap.size k _ t (0, 0) (heap_alloc_new w _)]
  simp [List.getElem?_eq_getElem hk]
theorem pickInt_lit (base g ca : Nat) (ao : Option Addr) (xs zs : List Int) (w : World) (hB : base ≤ w.heap.size) (hz : 1 ≤ zs.length) (hz2 : zs.length ≤ 256) (h : Cur w base g ao ca xs) :
    Calls Tryd.prog 46 #[.pointer (some ⟨g, 0, none⟩), .slice (some ⟨w.heap.size, 0, none⟩) zs.length zs.length] (w.alloc (.cells (zs.map (Value.int .i64)).toArray 3)) fun e w' =>
      ∃ x : Int, e = .returned (.int .i64 x) ∧ x ∈ zs ∧ Cur w' base g ao ca xs ∧ w.grownBy w' (some g) := by
  have hg : g < w.heap.size := by
    obtain ⟨i, hh, hc, _⟩ := h.cells
    exact (Array.getElem?_eq_some_iff.1 hc).1
  refine (pickInt_any base g ca w.heap.size ao xs zs _ (by simp; omega) (by omega) hz hz2 (fun k hk => lit_ints w _ zs k hk) (h.alloc hB _)).mono ?_
  rintro e w' ⟨k, hk, rfl, hc, hgr⟩
  refine ⟨_, rfl, ?_, hc, grown_trans (World.grownBy_alloc w _ _) hgr⟩
  rw [List.getD_eq_getElem?_getD, List.getElem?_eq_getElem hk]
  exact List.getElem_mem hk
theorem frozen_below {w w' : World} {B g : Nat} (hb : Below B w w') (hg : g < B) (h : ∀ j, w.frozen? ⟨g, j, none⟩ = false) : ∀ j, w'.frozen? ⟨g, j, none⟩ = false := fun j => (hb.frozen (p := ⟨g, j, none⟩) hg).trans (h j)
theorem c4_other {w : World} {g g' : Nat} {a b c d : Int} (h : Cells4 w g' a b c d) (hg : g' ≠ g) (j : Nat) (v : Value) : Cells4 (w.setCell ⟨g, j, none⟩ v) g' a b c d :=
  ⟨(World.cell?_setCell_other _ _ _ _ (fun e => hg (congrArg Addr.block e.symm))).trans h.1, (World.cell?_setCell_other _ _ _ _ (fun e => hg (congrArg Addr.block e.symm))).trans h.2.1, (World.cell?_setCell_other _ _ _ _ (fun e => hg (congrArg Addr.block e.symm))).trans h.2.2.1, (World.cell?_setCell_other _ _ _ _ (fun e => hg (congrArg Addr.block e.symm))).trans h.2.2.2⟩
theorem fr_set {w : World} {g g' j : Nat} {v : Value} (h : ∀ i, w.frozen? ⟨g', i, none⟩ = false) : ∀ i, (w.setCell ⟨g, j, none⟩ v).frozen? ⟨g', i, none⟩ = false := fun i => by rw [World.frozen?_setCell]; exact h i

theorem c4_set0 {w : World} {g : Nat} {a b c d : Int} (h : Cells4 w g a b c d) (p : Int) : Cells4 (w.setCell ⟨g, 0, none⟩ (.int .i64 p)) g p b c d :=
  ⟨World.cell?_setCell_same _ _ _ h.1, (World.cell?_setCell_other _ _ _ _ (by simp)).trans h.2.1, (World.cell?_setCell_other _ _ _ _ (by simp)).trans h.2.2.1, (World.cell?_setCell_other _ _ _ _ (by simp)).trans h.2.2.2⟩
theorem c4_set1 {w : World} {g : Nat} {a b c d : Int} (h : Cells4 w g a b c d) (p : Int) : Cells4 (w.setCell ⟨g, 1, none⟩ (.int .i64 p)) g a p c d :=
  ⟨(World.cell?_setCell_other _ _ _ _ (by simp)).trans h.1, World.cell?_setCell_same _ _ _ h.2.1, (World.cell?_setCell_other _ _ _ _ (by simp)).trans h.2.2.1, (World.cell?_setCell_other _ _ _ _ (by simp)).trans h.2.2.2⟩
theorem c4_set2 {w : World} {g : Nat} {a b c d : Int} (h : Cells4 w g a b c d) (p : Int) : Cells4 (w.setCell ⟨g, 2, none⟩ (.int .i64 p)) g a b p d :=
  ⟨(World.cell?_setCell_other _ _ _ _ (by simp)).trans h.1, (World.cell?_setCell_other _ _ _ _ (by simp)).trans h.2.1, World.cell?_setCell_same _ _ _ h.2.2.1, (World.cell?_setCell_other _ _ _ _ (by simp)).trans h.2.2.2⟩
theorem c4_set3 {w : World} {g : Nat} {a b c d : Int} (h : Cells4 w g a b c d) (p : Int) : Cells4 (w.setCell ⟨g, 3, none⟩ (.int .i64 p)) g a b c p :=
  ⟨(World.cell?_setCell_other _ _ _ _ (by simp)).trans h.1, (World.cell?_setCell_other _ _ _ _ (by simp)).trans h.2.1, (World.cell?_setCell_other _ _ _ _ (by simp)).trans h.2.2.1, World.cell?_setCell_same _ _ _ h.2.2.2⟩
theorem c4_grown {w w' : World} {r g : Nat} {a b c d : Int} (h : Cells4 w r a b c d) (hg : w.grownBy w' (some g)) (hr : r ≠ g) : Cells4 w' r a b c d :=
  ⟨hg.cell h.1 (by simpa using hr), hg.cell h.2.1 (by simpa using hr), hg.cell h.2.2.1 (by simpa using hr), hg.cell h.2.2.2 (by simpa using hr)⟩
theorem fr_grown {w w' : World} {r g : Nat} (h : ∀ j, w.frozen? ⟨r, j, none⟩ = false) (hl : r < w.heap.size) (hg : w.grownBy w' (some g)) (hr : r ≠ g) : ∀ j, w'.frozen? ⟨r, j, none⟩ = false := fun j =>
  (World.frozen?_of_block (a := ⟨r, j, none⟩) (hg.block r hl (by simpa using hr))).trans (h j)
theorem grown_set {w w' : World} {row : Option Nat} (h : w.grownBy w' row) {r : Nat} (hr : w.heap.size ≤ r) (j : Nat) (v : Value) : w.grownBy (w'.setCell ⟨r, j, none⟩ v) row :=
  grown_new h (set_grown w' r j v) (fun k e => by simp at e; omega)
theorem Cur.set {w : World} {base g ca : Nat} {ao : Option Addr} {xs : List Int} (h : Cur w base g ao ca xs) {r : Nat} (hr : g < r) (j : Nat) (v : Value) : Cur (w.setCell ⟨r, j, none⟩ v) base g ao ca xs :=
  h.grownNew (set_grown w r j v) (fun k e => by simp at e; omega)

set_option maxHeartbeats 2000000 in
set_option maxRecDepth 100000 in
theorem drawRight (base g ca : Nat) (ao : Option Addr) (xs : List Int) (w : World) (hB : base ≤ w.heap.size) (h : Cur w base g ao ca xs) :
    Calls Tryd.prog 45 #[.pointer (some ⟨g, 0, none⟩)] w fun e w' => ∃ a b c d : Int, e = .returned (txv a b c d) ∧ (0 ≤ a ∧ a < 4) ∧ Cur w' base g ao ca xs ∧ w.grownBy w' (some g) := by
  have hlt := h.lt
  have h0 := h.alloc hB (.cells #[.int .i64 0, .int .i64 0, .int .i64 0, .int .i64 0] 26)
  have g0 := World.grownBy_alloc w (.cells #[.int .i64 0, .int .i64 0, .int .i64 0, .int .i64 0] 26) (some g)
  have z0 := cells4_new w 0 0 0 0 26
  have f0 : ∀ j, (w.alloc (.cells #[.int .i64 0, .int .i64 0, .int .i64 0, .int .i64 0] 26)).frozen? ⟨w.heap.size, j, none⟩ = false := fun j => by simp [go_sem]
  clear h
  have P := hide (And.intro h0 (And.intro g0 (And.intro z0 f0)))
  clear h0 g0 z0 f0
  go_enter Tryd.func45, Tryd.ntmps45
  go_wp2_with fail
  refine (below_any base g ca ao xs 4 _ (by simp; omega) (by omega) (by omega) (unhide P).1).mono ?_
  rintro e w1 ⟨a, rfl, a1, a2, c1, e1⟩
  have P1 := hide (And.intro c1 (And.intro (grown_trans (unhide P).2.1 e1) (And.intro (c4_grown (unhide P).2.2.1 e1 (by omega)) (fr_grown (unhide P).2.2.2 (by simp) e1 (by omega)))))
  have s1 : w.heap.size + 1 ≤ w1.heap.size := by have := e1.size; simp at this; omega
  clear P c1 e1
  go_wp2_with fail
  refine (below_any base g ca ao xs 4 _ (by omega) (by omega) (by omega) (unhide P1).1).mono ?_
  rintro e w2 ⟨b, rfl, _, _, c2, e2⟩
  have P2 := hide (And.intro c2 (And.intro (grown_trans (unhide P1).2.1 e2) (And.intro (c4_grown (unhide P1).2.2.1 e2 (by omega)) (fr_grown (unhide P1).2.2.2 (by omega) e2 (by omega)))))
  have s2 : w.heap.size + 1 ≤ w2.heap.size := by have := e2.size; omega
  clear P1 c2 e2
  go_wp2_with fail
  refine (pickInt_lit base g ca ao xs [0, 5, 60, 100, 1000] w2 (by omega) (by decide) (by decide) (unhide P2).1).mono ?_
  rintro e w3 ⟨c, rfl, _, c3, e3⟩
  have P3 := hide (And.intro c3 (And.intro (grown_trans (unhide P2).2.1 e3) (And.intro (c4_grown (unhide P2).2.2.1 e3 (by omega)) (fr_grown (unhide P2).2.2.2 (by omega) e3 (by omega)))))
  have s3 : w.heap.size + 1 ≤ w3.heap.size := by have := e3.size; omega
  clear P2 c3 e3
  go_wp2_with fail
  refine (below_any base g ca ao xs 3 _ (by omega) (by omega) (by omega) (unhide P3).1).mono ?_
  rintro e w4 ⟨d, rfl, _, _, c4, e4⟩
  have gg := grown_trans (unhide P3).2.1 e4
  obtain ⟨z0, z1, z2, z3⟩ := c4_grown (unhide P3).2.2.1 e4 (by omega)
  have zf := fr_grown (unhide P3).2.2.2 (by omega) e4 (by omega)
  have HC := hide c4
  clear P3 e4 c4
  go_wp2
  refine bodyPost_ret (v := txv a b c d) (by simp [results, Tryd.results45, go_sem, z0, z1, z2, z3]) rfl ?_
  exact ⟨a, b, c, d, rfl, ⟨a1, a2⟩, ((((unhide HC).set (by omega) _ _).set (by omega) _ _).set (by omega) _ _).set (by omega) _ _, grown_set (grown_set (grown_set (grown_set gg (Nat.le_refl _) _ _) (Nat.le_refl _) _ _) (Nat.le_refl _) _ _) (Nat.le_refl _) _ _⟩

set_option maxHeartbeats 4000000 in
set_option maxRecDepth 100000 in
theorem drawTx (base g ca : Nat) (ao : Option Addr) (xs : List Int) (w : World) (hB : base ≤ w.heap.size) (h : Cur w base g ao ca xs) :
    Calls Tryd.prog 21 #[.pointer (some ⟨g, 0, none⟩)] w fun e w' => ∃ a b c d : Int, e = .returned (txv a b c d) ∧ Cur w' base g ao ca xs ∧ w.grownBy w' (some g) := by
  have hlt := h.lt
  have h0 := h.alloc hB (.cells #[.int .i64 0, .int .i64 0, .int .i64 0, .int .i64 0] 26)
  have g0 := World.grownBy_alloc w (.cells #[.int .i64 0, .int .i64 0, .int .i64 0, .int .i64 0] 26) (some g)
  have z0 := cells4_new w 0 0 0 0 26
  have f0 : ∀ j, (w.alloc (.cells #[.int .i64 0, .int .i64 0, .int .i64 0, .int .i64 0] 26)).frozen? ⟨w.heap.size, j, none⟩ = false := fun j => by simp [go_sem]
  clear h
  have P := hide (And.intro h0 (And.intro g0 (And.intro z0 f0)))
  clear h0 g0 z0 f0
  go_enter Tryd.func21, Tryd.ntmps21
  go_wp2_with fail
  refine (drawRight base g ca ao xs _ (by simp; omega) (unhide P).1).mono ?_
  rintro e w1 ⟨a, b, c, d, rfl, _, c1, e1⟩
  have s1 : w.heap.size + 1 ≤ w1.heap.size := by have := e1.size; simp at this; omega
  have bn : Below w1.heap.size w1 (w1.alloc (.cells #[.int .i64 a, .int .i64 b, .int .i64 c, .int .i64 d] 26)) := (Below.refl _ _).alloc (Nat.le_refl _) _
  have P1 := hide (And.intro (c1.alloc (by omega) (.cells #[.int .i64 a, .int .i64 b, .int .i64 c, .int .i64 d] 26)) (And.intro (grown_trans (grown_trans (unhide P).2.1 e1) (World.grownBy_alloc w1 (.cells #[.int .i64 a, .int .i64 b, .int .i64 c, .int .i64 d] 26) (some g))) (And.intro ((c4_grown (unhide P).2.2.1 e1 (by omega)).below bn (by omega)) (And.intro (frozen_below bn (g := w.heap.size) (by omega) (fr_grown (unhide P).2.2.2 (by simp) e1 (by omega))) (And.intro (cells4_new w1 a b c d 26) (show ∀ j, (w1.alloc (.cells #[.int .i64 a, .int .i64 b, .int .i64 c, .int .i64 d] 26)).frozen? ⟨w1.heap.size, j, none⟩ = false from fun j => by simp [go_sem]))))))
  clear P c1 e1 bn
  go_wp2_with fail
  refine (below_any base g ca ao xs 12 _ (by simp; omega) (by omega) (by omega) (unhide P1).1).mono ?_
  rintro e w2 ⟨k, rfl, k0, k1, c2, e2⟩
  have s2 : w1.heap.size + 1 ≤ w2.heap.size := by have := e2.size; simp at this; omega
  have P2 := hide (And.intro c2 (And.intro (grown_trans (unhide P1).2.1 e2) (And.intro (c4_grown (unhide P1).2.2.1 e2 (by omega)) (And.intro (fr_grown (unhide P1).2.2.2.1 (by simp; omega) e2 (by omega)) (And.intro (c4_grown (unhide P1).2.2.2.2.1 e2 (by omega)) (fr_grown (unhide P1).2.2.2.2.2 (by simp) e2 (by omega)))))))
  clear P1 c2 e2
  by_cases hk0 : k = 0
  · subst hk0
    go_wp2_with fail
    refine (pickInt_lit base g ca ao xs [-1, 4] w2 (by omega) (by decide) (by decide) (unhide P2).1).mono ?_
    rintro e w3 ⟨q, rfl, _, c3, e3⟩
    have gg := grown_trans (unhide P2).2.1 e3
    have X3 := c4_grown (unhide P2).2.2.2.2.1 e3 (by omega)
    have Y3 := fr_grown (unhide P2).2.2.2.2.2 (by omega) e3 (by omega)
    have Z3 := c4_grown (unhide P2).2.2.1 e3 (by omega)
    have F3 := fr_grown (unhide P2).2.2.2.1 (by omega) e3 (by omega)
    have X3' := X3
    obtain ⟨y0, y1, y2, y3⟩ := X3
    obtain ⟨x0, x1, x2, x3⟩ := c4_set0 X3' q
    obtain ⟨z0, z1, z2, z3⟩ := c4_other (g := w1.heap.size) Z3 (by omega) 0 (.int .i64 q)
    have zf := fr_set (g := w1.heap.size) (j := 0) (v := .int .i64 q) F3
    have HC := hide c3
    clear P2 e3 c3 Z3
    go_wp2
    refine bodyPost_ret (v := txv q b c d) (by simp [results, Tryd.results21, go_sem, z0, z1, z2, z3]) rfl ?_
    exact ⟨_, _, _, _, rfl, (((((unhide HC).set (by omega) _ _).set (by omega) _ _).set (by omega) _ _).set (by omega) _ _).set (by omega) _ _, grown_set (grown_set (grown_set (grown_set (grown_set gg (by omega) _ _) (Nat.le_refl _) _ _) (Nat.le_refl _) _ _) (Nat.le_refl _) _ _) (Nat.le_refl _) _ _⟩
  by_cases hk1 : k = 1
  · subst hk1
    go_wp2_with fail
    refine (pickInt_lit base g ca ao xs [-1, 4] w2 (by omega) (by decide) (by decide) (unhide P2).1).mono ?_
    rintro e w3 ⟨q, rfl, _, c3, e3⟩
    have gg := grown_trans (unhide P2).2.1 e3
    have X3 := c4_grown (unhide P2).2.2.2.2.1 e3 (by omega)
    have Y3 := fr_grown (unhide P2).2.2.2.2.2 (by omega) e3 (by omega)
    have Z3 := c4_grown (unhide P2).2.2.1 e3 (by omega)
    have F3 := fr_grown (unhide P2).2.2.2.1 (by omega) e3 (by omega)
    have X3' := X3
    obtain ⟨y0, y1, y2, y3⟩ := X3
    obtain ⟨x0, x1, x2, x3⟩ := c4_set1 X3' q
    obtain ⟨z0, z1, z2, z3⟩ := c4_other (g := w1.heap.size) Z3 (by omega) 1 (.int .i64 q)
    have zf := fr_set (g := w1.heap.size) (j := 1) (v := .int .i64 q) F3
    have HC := hide c3
    clear P2 e3 c3 Z3
    go_wp2
    refine bodyPost_ret (v := txv a q c d) (by simp [results, Tryd.results21, go_sem, z0, z1, z2, z3]) rfl ?_
    exact ⟨_, _, _, _, rfl, (((((unhide HC).set (by omega) _ _).set (by omega) _ _).set (by omega) _ _).set (by omega) _ _).set (by omega) _ _, grown_set (grown_set (grown_set (grown_set (grown_set gg (by omega) _ _) (Nat.le_refl _) _ _) (Nat.le_refl _) _ _) (Nat.le_refl _) _ _) (Nat.le_refl _) _ _⟩
  by_cases hk2 : k = 2
  · subst hk2
    go_wp2_with fail
    refine (pickInt_lit base g ca ao xs [-1, 1001] w2 (by omega) (by decide) (by decide) (unhide P2).1).mono ?_
    rintro e w3 ⟨q, rfl, _, c3, e3⟩
    have gg := grown_trans (unhide P2).2.1 e3
    have X3 := c4_grown (unhide P2).2.2.2.2.1 e3 (by omega)
    have Y3 := fr_grown (unhide P2).2.2.2.2.2 (by omega) e3 (by omega)
    have Z3 := c4_grown (unhide P2).2.2.1 e3 (by omega)
    have F3 := fr_grown (unhide P2).2.2.2.1 (by omega) e3 (by omega)
    have X3' := X3
    obtain ⟨y0, y1, y2, y3⟩ := X3
    obtain ⟨x0, x1, x2, x3⟩ := c4_set2 X3' q
    obtain ⟨z0, z1, z2, z3⟩ := c4_other (g := w1.heap.size) Z3 (by omega) 2 (.int .i64 q)
    have zf := fr_set (g := w1.heap.size) (j := 2) (v := .int .i64 q) F3
    have HC := hide c3
    clear P2 e3 c3 Z3
    go_wp2
    refine bodyPost_ret (v := txv a b q d) (by simp [results, Tryd.results21, go_sem, z0, z1, z2, z3]) rfl ?_
    exact ⟨_, _, _, _, rfl, (((((unhide HC).set (by omega) _ _).set (by omega) _ _).set (by omega) _ _).set (by omega) _ _).set (by omega) _ _, grown_set (grown_set (grown_set (grown_set (grown_set gg (by omega) _ _) (Nat.le_refl _) _ _) (Nat.le_refl _) _ _) (Nat.le_refl _) _ _) (Nat.le_refl _) _ _⟩
  by_cases hk3 : k = 3
  · subst hk3
    go_wp2_with fail
    refine (pickInt_lit base g ca ao xs [-1, 99, 100] w2 (by omega) (by decide) (by decide) (unhide P2).1).mono ?_
    rintro e w3 ⟨q, rfl, _, c3, e3⟩
    have gg := grown_trans (unhide P2).2.1 e3
    have X3 := c4_grown (unhide P2).2.2.2.2.1 e3 (by omega)
    have Y3 := fr_grown (unhide P2).2.2.2.2.2 (by omega) e3 (by omega)
    have Z3 := c4_grown (unhide P2).2.2.1 e3 (by omega)
    have F3 := fr_grown (unhide P2).2.2.2.1 (by omega) e3 (by omega)
    have X3' := X3
    obtain ⟨y0, y1, y2, y3⟩ := X3
    obtain ⟨x0, x1, x2, x3⟩ := c4_set3 X3' q
    obtain ⟨z0, z1, z2, z3⟩ := c4_other (g := w1.heap.size) Z3 (by omega) 3 (.int .i64 q)
    have zf := fr_set (g := w1.heap.size) (j := 3) (v := .int .i64 q) F3
    have HC := hide c3
    clear P2 e3 c3 Z3
    go_wp2
    refine bodyPost_ret (v := txv a b c q) (by simp [results, Tryd.results21, go_sem, z0, z1, z2, z3]) rfl ?_
    exact ⟨_, _, _, _, rfl, (((((unhide HC).set (by omega) _ _).set (by omega) _ _).set (by omega) _ _).set (by omega) _ _).set (by omega) _ _, grown_set (grown_set (grown_set (grown_set (grown_set gg (by omega) _ _) (Nat.le_refl _) _ _) (Nat.le_refl _) _ _) (Nat.le_refl _) _ _) (Nat.le_refl _) _ _⟩
  have n0 : (k == 0) = false := by simp [hk0]
  have n1 : (k == 1) = false := by simp [hk1]
  have n2 : (k == 2) = false := by simp [hk2]
  have n3 : (k == 3) = false := by simp [hk3]
  obtain ⟨x0, x1, x2, x3⟩ := (unhide P2).2.2.2.2.1
  obtain ⟨z0, z1, z2, z3⟩ := (unhide P2).2.2.1
  have zf := (unhide P2).2.2.2.1
  have gg := (unhide P2).2.1
  have HC := hide (unhide P2).1
  clear P2 hk0 hk1 hk2 hk3
  go_wp2
  refine bodyPost_ret (v := txv a b c d) (by simp [results, Tryd.results21, go_sem, z0, z1, z2, z3]) rfl ?_
  exact ⟨_, _, _, _, rfl, ((((unhide HC).set (by omega) _ _).set (by omega) _ _).set (by omega) _ _).set (by omega) _ _, grown_set (grown_set (grown_set (grown_set gg (Nat.le_refl _) _ _) (Nat.le_refl _) _ _) (Nat.le_refl _) _ _) (Nat.le_refl _) _ _⟩

theorem OT.grown {w w' : World} {base g : Nat} {v : Value} {xs : List T4} (h : OT w base v xs) (hg : w.grownBy w' (some g)) (hlt : g < base) : OT w' base v xs :=
  World.ownsRow.kept h hg (by
    cases hv : v.ownBlock with
    | none => exact .inl rfl
    | some k => exact .inr fun e => by have := (World.ownsRow.lt h k hv).1; simp at e; omega)

end Go.Proofs.YthdehhenkgkkmaaDoor

/- The draws of ledgers: spec.l3DrawRight. -/
namespace Go.Proofs.YthdehhenkgkkmaaDoor
open Go.RowKit
set_option linter.unusedSectionVars false
variable [∀ (a b c d : Int), Decidable (Ok4 a b c d)]
variable [∀ (m a b c d : Int), Decidable (In4 m a b c d)]
variable [∀ (xs ys : List Int), Decidable (LOk xs ys)]

theorem Cur.kpBelow {w w' : World} {base g ca : Nat} {ao : Option Addr} {xs : List Int} (h : Cur w base g ao ca xs) (hB : base ≤ w.heap.size) (hb : Below w.heap.size w w') : Cur w' base g ao ca xs := h.below hB hb

theorem Kp.up {a b c : World} {X Y : Nat → Prop} (h : Kp a b X) (k : Kp b c Y) (hy : ∀ j, Y j → a.heap.size ≤ j ∨ X j) : Kp a c X :=
  ⟨k.os.trans h.os, k.tape.trans h.tape, k.output.trans h.output, Nat.le_trans h.size k.size, fun j hj hx => (k.block j (Nat.lt_of_lt_of_le hj h.size) (fun e => (hy j e).elim (fun q => by omega) hx)).trans (h.block j hj hx)⟩
theorem Kp.grown {a b : World} {g : Nat} (h : Kp a b (fun k => k = g)) : a.grownBy b (some g) :=
  ⟨h.os, h.tape, h.output, h.size, fun j hj hx => h.block j hj (fun e => hx (e ▸ rfl))⟩

set_option maxHeartbeats 8000000 in
set_option maxRecDepth 100000 in
theorem drawRight3 (base g ca : Nat) (ao : Option Addr) (zs : List Int) (w : World) (hB : base ≤ w.heap.size) (h : Cur w base g ao ca zs) :
    Calls Tryd.prog 50 #[.pointer (some ⟨g, 0, none⟩)] w fun e w' => ∃ u v, ∃ xs ys : List Int, e = .returned (lv u v) ∧ xs.length = 4 ∧ ys.length = 4 ∧ OL w' w.heap.size w'.heap.size u v xs ys ∧ Cur w' base g ao ca zs ∧ w.grownBy w' (some g) := by
  have hlt := h.lt
  obtain ⟨w0, hw0⟩ : ∃ w0, w.alloc (.cells #[.slice none 0 0, .slice none 0 0] 33) = w0 := ⟨_, rfl⟩
  have b0 : Below w.heap.size w w0 := hw0 ▸ (Below.refl _ _).alloc (Nat.le_refl _) _
  have R0 : Loc w0 w.heap.size #[.slice none 0 0, .slice none 0 0] := hw0 ▸ loc_at w _ _ rfl
  have C0 := h.below hB b0
  clear h
  go_enter Tryd.func50, Tryd.ntmps50
  go_wp2_with fail
  clear hw0
  refine (specLedgerNew _).mono ?_
  rintro _ w1 ⟨u1, v1, rfl, o1, b1⟩
  have s0 := b0.size
  obtain ⟨ua, uc, rfl⟩ := o1.has.form
  obtain ⟨va, vc, rfl⟩ := o1.next.form
  obtain ⟨w2, hw2⟩ : ∃ w2, w1.alloc (.cells #[.slice ua 4 uc, .slice va 4 vc] 33) = w2 := ⟨_, rfl⟩
  have b2 : Below w0.heap.size w0 w2 := hw2 ▸ b1.alloc b1.size _
  have lr0 := R0.lt
  have R2 := R0.below b2 R0.lt
  have C2 := C0.below (by omega) b2
  have G2 : Loc w2 w1.heap.size #[.slice ua 4 uc, .slice va 4 vc] := hw2 ▸ loc_at w1 _ _ rfl
  have P2 : OL w2 w0.heap.size w1.heap.size (.slice ua 4 uc) (.slice va 4 vc) [100, 100, 100, 100] [0, 0, 0, 0] := hw2 ▸ o1.alloc _
  have K2 : Kp w w2 (fun k => k = g) := Below.kpOf (b0.trans (b2.mono s0)) _
  have s1 := b1.size
  clear C0 R0 b0 b2 o1 b1
  go_wp2
  clear hw2
  go_loopw [4] (fun i wr => ∃ (k : Nat) (u v : Value) (xs ys : List Int), k ≤ 5 ∧ i = .int .i64 k ∧ xs.length = 4 ∧ ys.length = 4 ∧ Loc wr w1.heap.size #[u, v] ∧ (∃ lo hi, w0.heap.size ≤ lo ∧ hi ≤ wr.heap.size ∧ OL wr lo hi u v xs ys) ∧ Loc wr w.heap.size #[.slice none 0 0, .slice none 0 0] ∧ Cur wr base g ao ca zs ∧ Kp w wr (fun k => k = g)) (fun i _ => 6 - (intOf i).toNat)
  case atStart => exact ⟨0, _, _, _, _, by omega, rfl, rfl, rfl, G2, ⟨_, _, Nat.le_refl _, by have := G2.lt; omega, P2⟩, R2, C2, K2⟩
  case round =>
    clear G2 P2 R2 C2 K2
    obtain ⟨k, u, v, xs, ys, hk, rfl, hx, hy, G, ⟨lo, hi, hlo, hhi, P⟩, R, C, K⟩ := hrel
    have sk := K.size
    have lg := G.lt
    go_wp2_with fail
    refine (below_any base g ca ao zs 6 _ (by omega) (by omega) (by omega) C).mono ?_
    rintro _ w3 ⟨n, rfl, _, n1, C3, e3⟩
    have k3 := kp_grown e3
    have s3 := k3.size
    have G3 := G.kp k3 (fun e => by simp at e; omega)
    have P3 := P.kp k3 (fun j _ _ e => by simp at e; omega)
    have R3 := R.kp k3 (fun e => by simp at e; omega)
    have K3 := K.trans (k3.mono (fun j e => by simpa using e.symm))
    clear G P R K C k3 e3
    by_cases hkn : (k : Int) < n
    · go_wp2_with fail
      refine (drawRight base g ca ao zs _ (by omega) C3).mono ?_
      rintro _ w4 ⟨a, b, c, d, rfl, ⟨a1, a2⟩, C4, e4⟩
      obtain ⟨A, rfl⟩ := Int.eq_ofNat_of_zero_le a1
      have k4 := kp_grown e4
      have s4 := k4.size
      have G4 := G3.kp k4 (fun e => by simp at e; omega)
      have P4 := P3.kp k4 (fun j _ _ e => by simp at e; omega)
      have R4 := R3.kp k4 (fun e => by simp at e; omega)
      have K4 := K3.trans (k4.mono (fun j e => by simpa using e.symm))
      clear G3 P3 R3 K3 C3 k4 e4
      obtain ⟨ph, hc, rfl⟩ := own_form (n := xs.length) P4.has (by omega)
      obtain ⟨pk, kc, rfl⟩ := own_form (n := ys.length) P4.next (by omega)
      rw [hx, hy] at G4 P4
      obtain ⟨w5, hw5⟩ : ∃ w5, w4.alloc (.cells (r4 A b c d) 26) = w5 := ⟨_, rfl⟩
      have b5 : Below w4.heap.size w4 w5 := hw5 ▸ (Below.refl _ _).alloc (Nat.le_refl _) _
      have X5 : Loc w5 w4.heap.size (r4 A b c d) := hw5 ▸ loc_at w4 _ _ rfl
      have G5 := G4.below b5 G4.lt
      have P5 := P4.below b5
      have n5 := (P5.next.cellAt hy.symm A (by omega)).1
      obtain ⟨m, hm⟩ : ∃ m, ys.getD A 0 = m := ⟨_, rfl⟩
      rw [hm] at n5
      obtain ⟨w6, hw6⟩ : ∃ w6, w5.setCell ⟨w4.heap.size, 3, none⟩ (.int .i64 m) = w6 := ⟨_, rfl⟩
      have b6 : Below w4.heap.size w4 w6 := hw6 ▸ Below.set b5 _ _ (Nat.le_refl _)
      have X6 : Loc w6 w4.heap.size (r4 A b c m) := hw6 ▸ X5.set 3 _ rfl
      have G6 := G4.below b6 G4.lt
      have P6 := P4.below b6
      have R6 := R4.below b6 R4.lt
      have C6 := C4.below (by omega) b6
      have K6 := K4.trans (Below.kpOf b6 _)
      have s6 := b6.size
      obtain ⟨x0, x1, x2, x3⟩ := X5.cells4
      obtain ⟨y0, y1, y2, y3⟩ := X6.cells4
      have FX := X5.frozen
      have q1 := G5.cell 1 rfl
      have p0 := G6.cell 0 rfl
      have p1 := G6.cell 1 rfl
      have hA1 : (A : Int) < 4 := by omega
      clear hm P5 G5 b5 X5 X6 b6 G4 P4 R4 C4 K4
      go_wp2_with fail
      clear hw5 hw6
      refine (specPay _ _ A b c m xs ys _ (P6.ri (by omega) (by omega))).mono ?_
      rintro _ w7 ⟨up, vp, rfl, P7, b7⟩
      have hrl := payAns_len (xs := xs) (ys := ys) (a := (A : Int)) (b := b) (c := c) (d := m)
      obtain ⟨r, hr⟩ : ∃ r, payAns xs ys A b c m = r := ⟨_, rfl⟩
      rw [hr] at P7 hrl ⊢
      have G7 := G6.below b7 G6.lt
      have R7 := R6.below b7 R6.lt
      have C7 := C6.below (by omega) b7
      have K7 := K6.trans (Below.kpOf b7 _)
      have s7 := b7.size
      obtain ⟨pa, pc, rfl⟩ := P7.has.form
      obtain ⟨qa, qc, rfl⟩ := P7.next.form
      have g0 := G7.cell 0 rfl
      have g1 := G7.cell 1 rfl
      have FG := G7.frozen
      have HRL := hide hrl
      have P7 := hide P7
      have C7 := hide C7
      have K7 := hide K7
      clear x0 x1 x2 x3 y0 y1 y2 y3 FX q1 p0 p1 G6 P6 R6 C6 K6 b7 hr hrl n5
      go_wp2
      go_roundw
      case rel =>
        refine ⟨k + 1, .slice pa r.1.length pc, .slice qa r.2.1.length qc, r.1, r.2.1, by omega, by go_num, (unhide HRL).1.trans hx, (unhide HRL).2.trans hy, (G7.set 0 _ rfl).set 1 _ rfl, ⟨w6.heap.size, w7.heap.size, by omega, by simp, ?_⟩, (R7.other (by simp; omega) _).other (by simp; omega) _, ?_, ?_⟩
        · exact (unhide P7).kp ((set_kp w7 w1.heap.size 0 _).trans (set_kp _ w1.heap.size 1 _)) (fun j h1 h2 e => by omega)
        · exact ((unhide C7).set (by omega) _ _).set (by omega) _ _
        · exact (unhide K7).up ((set_kp w7 w1.heap.size 0 _).trans (set_kp _ w1.heap.size 1 _)) (fun j e => by omega)
      case measure => simp [intOf]; omega
    · have hK := K3.grown
      obtain ⟨ph, hc, rfl⟩ := P3.has.form
      obtain ⟨pk, kc, rfl⟩ := P3.next.form
      have g0 := G3.cell 0 rfl
      have g1 := G3.cell 1 rfl
      have FR := R3.frozen
      have o0 := R3.cell 0 rfl
      have o1 := R3.cell 1 rfl
      have hRR := hide R3
      have r0 := (R3.set 0 (.slice ph xs.length hc) rfl).set 1 (.slice pk ys.length kc) rfl
      have z0 := r0.cell 0 rfl
      have z1 := r0.cell 1 rfl
      have PK := hide P3
      have HX := hide hx
      have HY := hide hy
      clear P3 R3 K3 G3 r0 hx hy
      go_wp2
      refine bodyPost_ret (v := lv (.slice ph xs.length hc) (.slice pk ys.length kc)) (by simp [results, Tryd.results50, go_sem, z0, z1]) rfl ?_
      refine ⟨_, _, xs, ys, rfl, unhide HX, unhide HY, ?_, (C3.set (by omega) _ _).set (by omega) _ _, grown_set (grown_set hK (Nat.le_refl _) _ _) (Nat.le_refl _) _ _⟩
      exact ((unhide PK).kp ((set_kp w3 w.heap.size 0 _).trans (set_kp _ w.heap.size 1 _)) (fun j h1 h2 e => by omega)).mono (by omega) (by simp; omega)
end Go.Proofs.YthdehhenkgkkmaaDoor
