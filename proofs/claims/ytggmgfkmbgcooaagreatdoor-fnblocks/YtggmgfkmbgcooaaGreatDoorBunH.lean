/- Texts that belong together: Ints, Ledger, CopyInts, IntPieces, SetPlain, SpecSets, SpecSets2, DrawL, DrawSets, FromL. -/
import Derived.Test.YtggmgfkmbgcooaaGreatDoorBunA
import Derived.OwnWalk
import Derived.Maps.AppendAt
import Derived.Laws.OwnMore
import Derived.WalkKit
import Derived.Deep.RegionHeld3
import Derived.BigQuiet
import Derived.Test.YtggmgfkmbgcooaaGreatDoorBunD
import Derived.Laws.Bits128
/- Lists of numbers in memory; laws.szIntS, toIntS, eqIntS, markIntS, heldIntS. -/
namespace Go.Proofs.YtggmgfkmbgcooaaGreatDoor
open Go.RowKit

theorem Tryz.info3 : (Tryz.prog.info? 3).map (fun i => (i.zero, i.size, i.bytes)) = some (some (.int .i64 0), 1, 8) := by kernel_rfl

/-- The slice value v reads as the numbers xs. -/
def RI (w : World) (v : Value) (xs : List Int) : Prop :=
  xs.length ≤ 4194304 ∧ ∃ ao cap, v = .slice ao xs.length cap ∧ (xs = [] ∨ ∃ b off, ao = some ⟨b, off, none⟩ ∧ ∀ k, k < xs.length → w.cell? ⟨b, off + k, none⟩ = some (.int .i64 (xs.getD k 0)))
/-- v is a list of the call's own, from block 'base' on, of the numbers xs. -/
def OI (w : World) (base : Nat) (v : Value) (xs : List Int) : Prop := w.ownsRow base 3 1 v xs.length (xs.map (Value.int .i64))

theorem OI.ri {w : World} {base : Nat} {v : Value} {xs : List Int} (h : OI w base v xs) (hl : xs.length ≤ 4194304) : RI w v xs := by
  refine ⟨hl, ?_⟩
  rcases h.2 with ⟨rfl, h0⟩ | ⟨g, cap, cur, rfl, _⟩
  · exact ⟨none, 0, by rw [h0], .inl (List.length_eq_zero_iff.1 h0)⟩
  · refine ⟨_, cap, rfl, .inr ⟨g, 0, rfl, fun k hk => ?_⟩⟩
    have := World.ownsRow.cellAt h k (by omega)
    rw [Nat.zero_add, this]
    simp [List.getElem?_map, List.getElem?_eq_getElem hk]
theorem OI.below {w w' : World} {base : Nat} {v : Value} {xs : List Int} (h : OI w base v xs) (hb : Below w.heap.size w w') : OI w' base v xs :=
  World.ownsRow.kept (row := none) h ⟨hb.os, hb.tape, hb.output, hb.size, fun k hk _ => hb.block k hk⟩ (by cases v.ownBlock <;> simp)
theorem OI.belowB {w w' : World} {B base : Nat} {v : Value} {xs : List Int} (h : OI w base v xs) (hb : Below B w w') (hB : w.heap.size ≤ B) : OI w' base v xs := h.below (hb.mono hB)
theorem OI.grown {w w' : World} {base : Nat} {row : Option Nat} {v : Value} {xs : List Int} (h : OI w base v xs) (hg : w.grownBy w' row) (hv : ∀ k, v.ownBlock = some k → row ≠ some k) : OI w' base v xs := by
  refine World.ownsRow.kept h hg ?_
  cases hv' : v.ownBlock with
  | none => exact .inl rfl
  | some k => exact .inr fun e => hv k hv' e.symm
theorem RI.below {w w' : World} {B : Nat} {v : Value} {xs : List Int} (h : RI w v xs) (hb : Below B w w') (hB : w.heap.size ≤ B) : RI w' v xs := by
  obtain ⟨hl, ao, cap, rfl, h⟩ := h
  refine ⟨hl, ao, cap, rfl, ?_⟩
  rcases h with h | ⟨b, off, rfl, h⟩
  · exact .inl h
  · refine .inr ⟨b, off, rfl, fun k hk => ?_⟩
    have := h k hk
    exact (hb.cell (Nat.lt_of_lt_of_le (cell_lt this) hB)).trans this
theorem below_drewN' {B : Nat} {w w' : World} (h : Below B w w') (n : Nat) : Below B w (w'.drewN n) := ⟨h.os, h.tape, h.output, h.size, h.block⟩

set_option maxHeartbeats 800000 in
set_option maxRecDepth 100000 in
theorem eqIntS_yes (va vb : Value) (xs : List Int) (w : World) (ha : RI w va xs) (hb : RI w vb xs) :
    Calls Tryz.prog 62 #[va, vb] w fun e w' => e = .returned (.bool true) ∧ ∃ n, w' = w.drewN n := by
  obtain ⟨hl, ao, ca, rfl, ha⟩ := ha
  obtain ⟨_, bo, cb, rfl, hb⟩ := hb
  generalize hn : xs.length = n at *
  have Hn : Hid (xs.length = n) := hn
  clear hn
  go_enter Tryz.func62, Tryz.ntmps62
  go_wp2
  go_loopw [5] (fun i wr => ∃ k : Nat, k ≤ n ∧ i = .int .i64 k ∧ ∃ m, wr = w.drewN m) (fun i _ => n - (intOf i).toNat)
  case atStart => exact ⟨0, Nat.zero_le _, rfl, 0, rfl⟩
  case round =>
    obtain ⟨k, hk, rfl, m, rfl⟩ := hrel
    by_cases hlt : k < n
    · rcases ha with ha | ⟨b, off, rfl, ha⟩
      · subst ha; have := Hn.out; simp at this; omega
      rcases hb with hb | ⟨b', off', rfl, hb⟩
      · subst hb; have := Hn.out; simp at this; omega
      have ha' := ha k hlt
      have hb' := hb k hlt
      clear ha hb
      generalize xs.getD k 0 = d at *
      go_wp2_with fail
      go_quiet (fail)
      go_wp2
      go_roundw
      case rel => exact ⟨k + 1, by omega, by go_num, _, rfl⟩
      case measure => simp [intOf]; omega
    · clear ha hb
      go_wp2
      go_ret
      exact ⟨rfl, _, rfl⟩

/-- The cells behind k rounds of the copy. -/
def ihalf (xs : List Int) (k : Nat) : List Value := ((xs.take k) ++ List.replicate (xs.length - k) 0).map (Value.int .i64)
theorem ihalf_zero (xs : List Int) : ihalf xs 0 = List.replicate xs.length (.int .i64 0) := by simp [ihalf]
theorem ihalf_all (xs : List Int) : ihalf xs xs.length = xs.map (Value.int .i64) := by simp [ihalf]
theorem ihalf_len (xs : List Int) (k : Nat) (h : k ≤ xs.length) : (ihalf xs k).length = xs.length := by simp [ihalf]; omega
theorem ihalf_set (xs : List Int) (k : Nat) (h : k < xs.length) : (ihalf xs k).set k (.int .i64 (xs.getD k 0)) = ihalf xs (k + 1) := by
  have e : xs.length - k = (xs.length - (k + 1)) + 1 := by omega
  have hk : (xs.take k).length = k := by simp; omega
  unfold ihalf
  rw [List.take_succ_eq_append_getElem h, e, List.replicate_succ, List.map_append, List.map_append, List.map_append, List.set_append_right _ _ (by simp; omega), List.length_map, hk, Nat.sub_self]
  simp [List.getElem?_eq_getElem h]

set_option maxHeartbeats 1600000 in
set_option maxRecDepth 100000 in
theorem toIntS_any (v : Value) (xs : List Int) (w : World) (h : RI w v xs) :
    Calls Tryz.prog 60 #[v] w fun e w' => ∃ u, e = .returned u ∧ OI w' w.heap.size u xs ∧ Below w.heap.size w w' := by
  obtain ⟨i0, hi, hz0, hz1, hz2⟩ := info_parts Tryz.info3
  obtain ⟨hl, ao, ca, rfl, ha⟩ := h
  obtain ⟨n, hn⟩ : ∃ n, xs.length = n := ⟨_, rfl⟩
  have Hn : Hid (xs.length = n) := hn
  rw [hn] at hl ⊢
  rw [hn] at ha
  clear hn
  go_enter Tryz.func60, Tryz.ntmps60
  go_wp2_with (first | (at_make; refine wpList_make_full _ rfl _ _ 26 rfl w.heap.size 3 i0 (.int .i64 0) 1 Tryz.underlying26 hi hz0 hz1 .i64 .i64 n n n rfl rfl rfl rfl (by rw [hz2]; omega) (by unfold maxLen; omega) (Nat.le_refl _) ?_; intro w0 ho0 hg0))
  have hstart : w0.ownsRow w.heap.size 3 1 (.slice (some ⟨w.heap.size, 0, none⟩) n n) n (ihalf xs 0) := by
    have e : (madeCells (Value.int IntKind.i64 0).cells (n * 1)).toList = ihalf xs 0 := by
      rw [ihalf_zero, Hn.out, Nat.mul_one]; exact toList_madeCells_one _ _
    rw [← e]; exact ho0
  have HB : Hid (Below w.heap.size w w0) := (Below.refl _ _).grown hg0 (Nat.le_refl _) (by simp)
  clear ho0 hg0
  go_loopw [4] (fun i wr => ∃ k : Nat, k ≤ n ∧ i = .int .i64 k ∧ wr.ownsRow w.heap.size 3 1 (.slice (some ⟨w.heap.size, 0, none⟩) n n) n (ihalf xs k) ∧ Below w.heap.size w wr) (fun i _ => n - (intOf i).toNat)
  case atStart => exact ⟨0, Nat.zero_le _, rfl, hstart, HB.out⟩
  case round =>
    clear hstart
    obtain ⟨k, hk, rfl, ho, hbel⟩ := hrel
    by_cases hlt : k < n
    · rcases ha with ha | ⟨b, off, rfl, ha⟩
      · subst ha; have := Hn.out; simp at this; omega
      have hkx : k < xs.length := by rw [Hn.out]; exact hlt
      have hc0 := ha k hlt
      have hc : wr.cell? ⟨b, off + k, none⟩ = some (.int .i64 (xs.getD k 0)) := (hbel.cell (cell_lt hc0)).trans hc0
      obtain ⟨u, hu⟩ : ∃ u, wr.cell? ⟨w.heap.size, k, none⟩ = some u := by
        have h1 := ho.cellAt k (by omega)
        have h2 : k < (ihalf xs k).length := by rw [ihalf_len xs k (by omega)]; exact hkx
        exact ⟨_, h1.trans (List.getElem?_eq_getElem h2)⟩
      have hfr := ho.frozenAt k
      have HS : Hid ((wr.setCell ⟨w.heap.size, k, none⟩ (.int .i64 (xs.getD k 0))).ownsRow w.heap.size 3 1 (.slice (some ⟨w.heap.size, 0, none⟩) n n) n (ihalf xs (k + 1))) := by
        rw [← ihalf_set xs k hkx]; exact (ho.stored k _).1
      have HG : Hid (Below w.heap.size w (wr.setCell ⟨w.heap.size, k, none⟩ (.int .i64 (xs.getD k 0)))) := hbel.setCell (Nat.le_refl _) _
      clear ha ho hbel hc0
      generalize xs.getD k 0 = d at *
      go_wp2
      go_roundw
      case rel => exact ⟨k + 1, by omega, by go_num, HS.out, HG.out⟩
      case measure => simp [intOf]; omega
    · have hkn : k = n := by omega
      have HO : Hid (OI wr w.heap.size (.slice (some ⟨w.heap.size, 0, none⟩) n n) xs) := by
        have h1 := ihalf_all xs
        rw [Hn.out] at h1
        unfold OI Hid
        rw [Hn.out, ← h1, ← hkn]; rw [← hkn] at ho; exact ho
      clear ha ho
      go_wp2
      go_ret
      exact ⟨_, rfl, HO.out, hbel⟩

set_option maxHeartbeats 400000 in
set_option maxRecDepth 100000 in
theorem szIntS_yes (ao : Option Addr) (n ca : Nat) (left : Int) (w : World) (hn : (n : Int) ≤ left) (hl : left ≤ 1048576) :
    Calls Tryz.prog 59 #[.slice ao n ca, .int .i64 left] w fun e w' => e = .returned (.int .i64 (left - n)) ∧ w' = w := by
  have hd : decide (left - (n : Int) < 0) = false := by simp; omega
  go_enter Tryz.func59, Tryz.ntmps59
  go_wp2
  go_ret
  exact ⟨rfl, rfl⟩
set_option maxHeartbeats 400000 in
set_option maxRecDepth 100000 in
theorem szIntS_no (ao : Option Addr) (n ca : Nat) (left : Int) (w : World) (h0 : 0 ≤ left) (hn : left < n) (hl : left ≤ 1048576) (hm : n ≤ 9223372036854775807) :
    Calls Tryz.prog 59 #[.slice ao n ca, .int .i64 left] w fun e w' => e = .returned (.int .i64 (-1)) ∧ w' = w := by
  have hd : decide (left - (n : Int) < 0) = true := by simp; omega
  go_enter Tryz.func59, Tryz.ntmps59
  go_wp2
  go_ret
  exact ⟨rfl, rfl⟩
end Go.Proofs.YtggmgfkmbgcooaaGreatDoor

/- Ledgers in memory; laws.szLedger, toLedger, eqLedger. -/
namespace Go.Proofs.YtggmgfkmbgcooaaGreatDoor
open Go.RowKit

/-- From w to w' nothing turned but blocks of X. -/
structure Kp (w w' : World) (X : Nat → Prop) : Prop where
  os : w'.os = w.os
  tape : w'.tape = w.tape
  output : w'.output = w.output
  size : w.heap.size ≤ w'.heap.size
  block : ∀ k, k < w.heap.size → ¬ X k → w'.heap[k]? = w.heap[k]?
theorem Kp.refl (w : World) (X : Nat → Prop) : Kp w w X := ⟨rfl, rfl, rfl, Nat.le_refl _, fun _ _ _ => rfl⟩
theorem Kp.trans {a b c : World} {X : Nat → Prop} (h : Kp a b X) (k : Kp b c X) : Kp a c X :=
  ⟨k.os.trans h.os, k.tape.trans h.tape, k.output.trans h.output, Nat.le_trans h.size k.size, fun i hi hx => (k.block i (Nat.lt_of_lt_of_le hi h.size) hx).trans (h.block i hi hx)⟩
theorem Kp.mono {a b : World} {X Y : Nat → Prop} (h : Kp a b X) (hxy : ∀ k, X k → Y k) : Kp a b Y := ⟨h.os, h.tape, h.output, h.size, fun k hk hy => h.block k hk (fun hx => hy (hxy k hx))⟩
theorem Below.kpOf {w w' : World} (h : Below w.heap.size w w') (X : Nat → Prop) : Kp w w' X := ⟨h.os, h.tape, h.output, h.size, fun k hk _ => h.block k hk⟩
theorem kp_grown {w w' : World} {row : Option Nat} (h : w.grownBy w' row) : Kp w w' (fun k => row = some k) := ⟨h.os, h.tape, h.output, h.size, fun k hk hx => h.block k hk (fun e => hx e.symm)⟩
theorem Kp.cell {w w' : World} {X : Nat → Prop} (h : Kp w w' X) {a : Addr} {v : Value} (hc : w.cell? a = some v) (hx : ¬ X a.block) : w'.cell? a = some v :=
  (World.cell?_of_block (h.block a.block (cell_lt hc) hx)).trans hc
theorem Below.kp {B : Nat} {a w w' : World} {X : Nat → Prop} (h : Below B a w) (k : Kp w w' X) (hB : B ≤ w.heap.size) (hx : ∀ k, X k → B ≤ k) : Below B a w' :=
  ⟨k.os.trans h.os, k.tape.trans h.tape, k.output.trans h.output, Nat.le_trans h.size k.size, fun i hi => (k.block i (by omega) (fun h' => by have := hx i h'; omega)).trans (h.block i hi)⟩
theorem OI.kp {w w' : World} {base : Nat} {X : Nat → Prop} {v : Value} {xs : List Int} (h : OI w base v xs) (k : Kp w w' X) (hv : ∀ k, v.ownBlock = some k → ¬ X k) : OI w' base v xs := by
  refine ⟨h.1, ?_⟩
  rcases h.2 with hn | ⟨g, cap, cur, rfl, hb, hgg, rest⟩
  · exact .inl hn
  · refine .inr ⟨g, cap, cur, rfl, hb, ?_, rest⟩
    rw [k.block g (Array.getElem?_eq_some_iff.1 hgg).1 (hv g rfl)]
    exact hgg

theorem OI.mono {w : World} {base base' : Nat} {v : Value} {xs : List Int} (h : OI w base v xs) (hb : base' ≤ base) : OI w base' v xs := by
  refine ⟨h.1, ?_⟩
  rcases h.2 with hn | ⟨g, cap, cur, rfl, hg, rest⟩
  · exact .inl hn
  · exact .inr ⟨g, cap, cur, rfl, Nat.le_trans hb hg, rest⟩

theorem OI.form {w : World} {base : Nat} {v : Value} {xs : List Int} (h : OI w base v xs) : ∃ ao ca, v = .slice ao xs.length ca := by
  rcases h.2 with ⟨rfl, h0⟩ | ⟨g, cap, cur, rfl, _⟩
  · exact ⟨none, 0, by rw [h0]⟩
  · exact ⟨_, _, rfl⟩

/-- Block g has the two cells a, b. -/
def Loc2 (w : World) (g : Nat) (a b : Value) : Prop := ∃ t, w.heap[g]? = some (.cells #[a, b] t (0, 0))
theorem loc2_new (w : World) (a b : Value) (t : TypeId) : Loc2 (w.alloc (.cells #[a, b] t)) w.heap.size a b := ⟨t, heap_alloc_new w _⟩
theorem loc2_at (w : World) (a b : Value) (t : TypeId) {g : Nat} (h : w.heap.size = g) : Loc2 (w.alloc (.cells #[a, b] t)) g a b := h ▸ loc2_new w a b t
theorem Loc2.lt {w : World} {g : Nat} {a b : Value} (h : Loc2 w g a b) : g < w.heap.size := by obtain ⟨t, h⟩ := h; exact (Array.getElem?_eq_some_iff.1 h).1
theorem Loc2.cells {w : World} {g : Nat} {a b : Value} (h : Loc2 w g a b) : w.cell? ⟨g, 0, none⟩ = some a ∧ w.cell? ⟨g, 1, none⟩ = some b ∧ w.frozen? ⟨g, 0, none⟩ = false ∧ w.frozen? ⟨g, 1, none⟩ = false := by
  obtain ⟨t, h⟩ := h
  refine ⟨?_, ?_, frozen_of_row w g 0 _ t h, frozen_of_row w g 1 _ t h⟩
  · rw [cell_of_row w g 0 _ t (0, 0) h]; rfl
  · rw [cell_of_row w g 1 _ t (0, 0) h]; rfl
theorem Loc2.below {w w' : World} {g B : Nat} {a b : Value} (h : Loc2 w g a b) (hb : Below B w w') (hg : g < B) : Loc2 w' g a b := by obtain ⟨t, h⟩ := h; exact ⟨t, (hb.block g hg).trans h⟩
theorem Loc2.kp {w w' : World} {g : Nat} {X : Nat → Prop} {a b : Value} (h : Loc2 w g a b) (k : Kp w w' X) (hg : ¬ X g) : Loc2 w' g a b := by have hl := h.lt; obtain ⟨t, h⟩ := h; exact ⟨t, (k.block g hl hg).trans h⟩
theorem Loc2.alloc {w : World} {g : Nat} {a b : Value} (h : Loc2 w g a b) (o : Obj) : Loc2 (w.alloc o) g a b := h.kp (X := fun _ => False) (Below.kpOf ((Below.refl _ _).alloc (Nat.le_refl _) o) _) (fun h => h)
theorem Loc2.drewN {w : World} {g : Nat} {a b : Value} (h : Loc2 w g a b) (n : Nat) : Loc2 (w.drewN n) g a b := h
theorem Loc2.set0 {w : World} {g : Nat} {a b : Value} (h : Loc2 w g a b) (u : Value) : Loc2 (w.setCell ⟨g, 0, none⟩ u) g u b := by obtain ⟨t, h⟩ := h; exact ⟨t, by rw [heap_setCell_same w g 0 _ t u h]; rfl⟩
theorem Loc2.set1 {w : World} {g : Nat} {a b : Value} (h : Loc2 w g a b) (u : Value) : Loc2 (w.setCell ⟨g, 1, none⟩ u) g a u := by obtain ⟨t, h⟩ := h; exact ⟨t, by rw [heap_setCell_same w g 1 _ t u h]; rfl⟩
theorem Loc2.other {w : World} {g : Nat} {a b : Value} (h : Loc2 w g a b) {p : Addr} (hp : g ≠ p.block) (u : Value) : Loc2 (w.setCell p u) g a b := by obtain ⟨t, h⟩ := h; exact ⟨t, (heap_setCell_other w p g u hp).trans h⟩

/-- A ledger as a value. -/
abbrev lv (a b : Value) : Value := .agg #[a, b]
/-- a, b are the lists of a ledger of the call's own: they lie in blocks from lo on and below hi, and share none. -/
structure OL (w : World) (lo hi : Nat) (a b : Value) (xs ys : List Int) : Prop where
  has : OI w lo a xs
  next : OI w lo b ys
  top : ∀ k, a.ownBlock = some k → k < hi
  top' : ∀ k, b.ownBlock = some k → k < hi
  ne : ∀ k, a.ownBlock = some k → b.ownBlock ≠ some k
theorem OL.kp {w w' : World} {lo hi : Nat} {X : Nat → Prop} {a b : Value} {xs ys : List Int} (h : OL w lo hi a b xs ys) (k : Kp w w' X) (hx : ∀ k, lo ≤ k → k < hi → ¬ X k) : OL w' lo hi a b xs ys :=
  ⟨h.has.kp k (fun j hj => hx j (World.ownsRow.lt h.has j hj).1 (h.top j hj)), h.next.kp k (fun j hj => hx j (World.ownsRow.lt h.next j hj).1 (h.top' j hj)), h.top, h.top', h.ne⟩
theorem OL.below {w w' : World} {lo hi : Nat} {a b : Value} {xs ys : List Int} (h : OL w lo hi a b xs ys) (hb : Below w.heap.size w w') : OL w' lo hi a b xs ys := h.kp (Below.kpOf hb (fun _ => False)) (fun _ _ _ h => h)
theorem OL.alloc {w : World} {lo hi : Nat} {a b : Value} {xs ys : List Int} (h : OL w lo hi a b xs ys) (o : Obj) : OL (w.alloc o) lo hi a b xs ys := h.below ((Below.refl _ _).alloc (Nat.le_refl _) _)
theorem OL.ri {w : World} {lo hi : Nat} {a b : Value} {xs ys : List Int} (h : OL w lo hi a b xs ys) (hl : xs.length ≤ 4194304) (hm : ys.length ≤ 4194304) : RI w a xs ∧ RI w b ys := ⟨h.has.ri hl, h.next.ri hm⟩
theorem OL.mono {w : World} {lo hi lo' hi' : Nat} {a b : Value} {xs ys : List Int} (h : OL w lo hi a b xs ys) (h1 : lo' ≤ lo) (h2 : hi ≤ hi') : OL w lo' hi' a b xs ys :=
  ⟨h.has.mono h1, h.next.mono h1, fun k hk => Nat.lt_of_lt_of_le (h.top k hk) h2, fun k hk => Nat.lt_of_lt_of_le (h.top' k hk) h2, h.ne⟩
theorem Below.set {B : Nat} {a w : World} (h : Below B a w) {g : Nat} (j : Nat) (u : Value) (hg : B ≤ g) : Below B a (w.setCell ⟨g, j, none⟩ u) := Below.setCell h (p := ⟨g, j, none⟩) hg u
theorem set_kp (w : World) (g j : Nat) (u : Value) : Kp w (w.setCell ⟨g, j, none⟩ u) (fun k => k = g) :=
  ⟨rfl, rfl, rfl, by simp, fun k _ hk => heap_setCell_other w ⟨g, j, none⟩ k u hk⟩

end Go.Proofs.YtggmgfkmbgcooaaGreatDoor

/- impl.copyInts. -/
namespace Go.Proofs.YtggmgfkmbgcooaaGreatDoor
open Go.RowKit

theorem ints_plain64 (xs : List Int) (u : Value) (h : u ∈ xs.map (Value.int .i64)) : u.oneCell' = true := by
  obtain ⟨x, _, rfl⟩ := List.mem_map.1 h; rfl

theorem inews_cells {w : World} {g off : Nat} {xs : List Int} (h : ∀ k, k < xs.length → w.cell? ⟨g, off + k, none⟩ = some (.int .i64 (xs.getD k 0))) :
    ∀ j u, (xs.map (Value.int .i64))[j]? = some u → w.cell? ((⟨g, off, none⟩ : Addr).add j) = some u := by
  intro j u hj
  rw [List.getElem?_map] at hj
  obtain ⟨x, hx, rfl⟩ := Option.map_eq_some_iff.1 hj
  have hlt := (List.getElem?_eq_some_iff.1 hx).1
  have e : ((⟨g, off, none⟩ : Addr).add j) = ⟨g, off + j, none⟩ := by unfold Addr.add; split <;> simp_all
  rw [e, h j hlt]
  simp [List.getD_eq_getElem?_getD, hx]

end Go.Proofs.YtggmgfkmbgcooaaGreatDoor

/- Pieces of lists of numbers: at whatever place of a row; what an append of one does; what a cut is. -/
namespace Go.Proofs.YtggmgfkmbgcooaaGreatDoor
open Go.RowKit

/-- v reads as the numbers xs, at whatever place. -/
def PI (w : World) (v : Value) (xs : List Int) : Prop :=
  ∃ ao cap, v = .slice ao xs.length cap ∧ (xs = [] ∨ ∃ ad : Addr, ao = some ad ∧ ∀ j u, (xs.map (Value.int .i64))[j]? = some u → w.cell? (ad.add j) = some u)
theorem PI.below {w w' : World} {v : Value} {xs : List Int} (h : PI w v xs) (hb : Below w.heap.size w w') : PI w' v xs := by
  obtain ⟨ao, cap, rfl, h⟩ := h
  refine ⟨ao, cap, rfl, ?_⟩
  rcases h with h | ⟨ad, rfl, h⟩
  · exact .inl h
  · exact .inr ⟨ad, rfl, fun j u hj => (hb.cell (cell_lt (h j u hj))).trans (h j u hj)⟩
theorem RI.pi {w : World} {v : Value} {xs : List Int} (h : RI w v xs) : PI w v xs := by
  obtain ⟨hl, ao, cap, rfl, h⟩ := h
  refine ⟨ao, cap, rfl, ?_⟩
  rcases h with h | ⟨b, off, rfl, h⟩
  · exact .inl h
  · exact .inr ⟨_, rfl, inews_cells h⟩
theorem RI.form {w : World} {v : Value} {xs : List Int} (h : RI w v xs) : ∃ ao ca, v = .slice ao xs.length ca := by obtain ⟨_, ao, ca, e, _⟩ := h; exact ⟨ao, ca, e⟩
theorem RI.at {w : World} {ao : Option Addr} {n ca : Nat} {xs : List Int} (h : RI w (.slice ao n ca) xs) (k : Nat) (hk : k < xs.length) : ∃ b off, ao = some ⟨b, off, none⟩ ∧ w.cell? ⟨b, off + k, none⟩ = some (.int .i64 (xs.getD k 0)) := by
  obtain ⟨_, ao', ca', e, h⟩ := h
  cases e
  rcases h with rfl | ⟨b, off, rfl, h⟩
  · simp at hk
  · exact ⟨b, off, rfl, h k hk⟩
/-- The first k. -/
theorem PI.take {w : World} {ao : Option Addr} {n cap : Nat} {xs : List Int} (h : PI w (.slice ao n cap) xs) (k : Nat) (hk : k ≤ n) (cap' : Nat) : PI w (.slice ao k cap') (xs.take k) := by
  obtain ⟨ao', cap2, e, h⟩ := h
  cases e
  refine ⟨ao, cap', by rw [List.length_take]; congr 1; omega, ?_⟩
  rcases h with rfl | ⟨ad, rfl, h⟩
  · left; simp
  · refine .inr ⟨ad, rfl, fun j u hj => h j u ?_⟩
    rw [List.map_take, List.getElem?_take] at hj
    split at hj
    · exact hj
    · cases hj
/-- All but the first k. -/
theorem PI.drop {w : World} {ao : Option Addr} {n cap : Nat} {xs : List Int} (h : PI w (.slice ao n cap) xs) (k : Nat) (cap' : Nat) {bo : Option Addr} (hb : k < n → bo = ao.map (·.add (k * 1))) : PI w (.slice bo (n - k) cap') (xs.drop k) := by
  obtain ⟨ao', cap2, e, h⟩ := h
  cases e
  refine ⟨bo, cap', by rw [List.length_drop], ?_⟩
  by_cases hlt : k < xs.length
  · rcases h with rfl | ⟨ad, rfl, h⟩
    · simp at hlt
    · refine .inr ⟨ad.add (k * 1), hb hlt, fun j u hj => ?_⟩
      rw [List.map_drop, List.getElem?_drop] at hj
      have := h _ u hj
      rw [← this]
      congr 1
      obtain ⟨b, o, s⟩ := ad
      unfold Addr.add
      split <;> split <;> simp_all <;> omega
  · left; rw [List.drop_of_length_le (by omega)]
theorem grown_same (w : World) (row : Option Nat) : w.grownBy w row := ⟨rfl, rfl, rfl, Nat.le_refl _, fun _ _ _ => rfl⟩
theorem run_append_none1 (ty : TypeId) (base cap : Nat) (v : Value) (n : Nat) (xs : List Value) (w : World) (hown : w.ownsRow base 3 1 v n xs) :
    (Builtin.append_ #[26, 26] ty #[v, .slice none 0 cap]).run Tryz.prog w = .ok v w := by
  obtain ⟨i0, hi, hz0, hz1, hz2⟩ := info_parts Tryz.info3
  rcases hown.2 with ⟨rfl, rfl⟩ | ⟨g, cp, cur, rfl, _, _, hnc, _⟩
  · simp [Builtin.append_, run_underlying Tryz.underlying26, sizeOf, typeInfo, hi, Builtin.lenOf, Builtin.firstCells]
  · simp [Builtin.append_, run_underlying Tryz.underlying26, sizeOf, typeInfo, hi, Builtin.lenOf, Builtin.firstCells, hnc, storeCells]
/-- An append of a piece onto what is owned. -/
theorem append_ints {ops : Array Oper} {rest : List Oper} {o : Oper} {a : Act} {Q : Exit → Act → World → Prop} {w : World} (hgd : o.guard = none) (s x : Operand)
    (ho : o.op = .call { callee := .builtin .append, args := #[s, x], argTypes := #[26, 26] }) (base : Nat) (v u : Value) (xs ys : List Int) (hs : a.eval s = v) (hx : a.eval x = u)
    (hown : OI w base v xs) (hp : PI w u ys) (hl : xs.length + ys.length ≤ 16777216) (hbase : base ≤ w.heap.size)
    (h : ∀ v' w', OI w' base v' (xs ++ ys) → w.grownBy w' v.ownBlock → (v'.ownBlock = v.ownBlock ∨ v'.ownBlock = some w.heap.size) → wpList Tryz.prog ops Q rest (a.put o.dst v') w') :
    wpList Tryz.prog ops Q (o :: rest) a w := by
  obtain ⟨i0, hi, hz0, hz1, hz2⟩ := info_parts Tryz.info3
  obtain ⟨ao, cap, rfl, hp⟩ := hp
  match ao, hx with
  | none, hx =>
    have hy : ys = [] := by rcases hp with h | ⟨ad, e, _⟩; exact h; cases e
    subst hy
    refine wpList_plain hgd fun K hK => ?_
    have hrun := run_append_none1 o.type base cap v xs.length (xs.map (Value.int .i64)) w hown
    unfold Oper.wp
    simp only [List.length_nil] at hx
    simp [execOp, ho, resolve, invoke, builtin, hs, hx, hrun, Result.andThen]
    exact hK _ _ (h v w (by simpa using hown) (grown_same _ _) (.inl rfl))
  | some ad, hx =>
    have hn : ∀ j u, (ys.map (Value.int .i64))[j]? = some u → w.cell? (ad.add j) = some u := by
      rcases hp with rfl | ⟨ad', e, h⟩
      · intro j u hj; simp at hj
      · cases e; exact h
    refine wpList_append_own_at _ hgd s x 26 ho base 3 i0 (.int .i64 0) 1 8 Tryz.underlying26 hi hz0 hz1 hz2 rfl (by decide) v xs.length (xs.map (Value.int .i64)) hs hown ad ys.length cap (ys.map (Value.int .i64)) hx (by simp) hn (ints_plain64 ys) (by unfold maxLen; omega) (by omega) hbase ?_
    intro v' w' ho' hg' _ hb'
    refine h v' w' ?_ hg' hb'
    unfold OI
    rw [List.map_append, List.length_append]
    exact ho'
set_option maxRecDepth 100000 in
theorem icut_to (ao : Option Addr) (n ca k : Nat) (w : World) (hk : k ≤ ca) :
    (Instr.slice 26 (.slice ao n ca) none (some (.int .i64 (k : Int))) none).run Tryz.prog w = .ok (.slice ao k ca) w := by
  obtain ⟨i0, hi, hz0, hz1, hz2⟩ := info_parts Tryz.info3
  rw [run_slice_h (ht := Tryz.underlying26) (kh := .i64) (h := (k : Int)) (h0 := by omega) (h2 := by omega)]
  have he : Tryz.prog.elem 26 = 3 := by simp [Program.elem, Tryz.underlying26]
  have hs : (sizeOf (Tryz.prog.elem 26)).run Tryz.prog w = .ok 1 w := by rw [he]; simp [sizeOf, typeInfo, hi, hz1]
  rw [hs]
  simp [sliced, Result.andThen]
  intro _; cases ao <;> rfl
set_option maxRecDepth 100000 in
theorem icut_from (ao : Option Addr) (n ca k : Nat) (w : World) (hk : k ≤ n) :
    (Instr.slice 26 (.slice ao n ca) (some (.int .i64 (k : Int))) none none).run Tryz.prog w = .ok (.slice (if ca = k then ao else ao.map (·.add (k * 1))) (n - k) (ca - k)) w := by
  obtain ⟨i0, hi, hz0, hz1, hz2⟩ := info_parts Tryz.info3
  rw [run_slice_l (ht := Tryz.underlying26) (kl := .i64) (l := (k : Int)) (h0 := by omega) (h1 := by omega)]
  have he : Tryz.prog.elem 26 = 3 := by simp [Program.elem, Tryz.underlying26]
  have hs : (sizeOf (Tryz.prog.elem 26)).run Tryz.prog w = .ok 1 w := by rw [he]; simp [sizeOf, typeInfo, hi, hz1]
  rw [hs]
  simp [sliced, Result.andThen]
/-- Its length is within its capacity. -/
def Cap (v : Value) : Prop := ∃ ao n cap, v = .slice ao n cap ∧ n ≤ cap ∧ cap ≤ maxLen
theorem OI.cap {w : World} {base : Nat} {v : Value} {xs : List Int} (h : OI w base v xs) : Cap v := by
  rcases h.2 with ⟨rfl, h0⟩ | ⟨g, cap, cur, rfl, _, _, h1, h2, h3⟩
  · exact ⟨_, _, _, rfl, by simp, by unfold maxLen; omega⟩
  · exact ⟨_, _, _, rfl, by first | exact h1 | exact h2 | exact h3 | omega, by first | exact h2 | exact h3 | omega⟩
end Go.Proofs.YtggmgfkmbgcooaaGreatDoor

/- Sets as lists of numbers: plain mathematics. -/
namespace Go.Proofs.YtggmgfkmbgcooaaGreatDoor

/-- What SetAdd answers. -/
def addL (s : List Int) (i : Int) : List Int := if i ∈ s then s else s.takeWhile (fun x => decide (x < i)) ++ i :: s.dropWhile (fun x => decide (x < i))
/-- What SetJoin answers. -/
def joinL (a b : List Int) : List Int := (a ++ b).foldl addL []
/-- What Common answers. -/
def comL (a b : List Int) : Nat := (a.filter fun x => decide (x ∈ b)).length
/-- What SetOk answers. -/
def OkL (n : Int) (s : List Int) : Prop := (∀ x ∈ s, 0 ≤ x ∧ x < n) ∧ s.Pairwise (· < ·)
theorem mem_add (s : List Int) (i x : Int) : x ∈ addL s i ↔ x ∈ s ∨ x = i := by
  unfold addL
  split
  · rename_i h
    constructor
    · exact .inl
    · rintro (h1 | rfl)
      · exact h1
      · exact h
  · have e := List.takeWhile_append_dropWhile (p := fun x => decide (x < i)) (l := s)
    have h2 : x ∈ s ↔ x ∈ s.takeWhile (fun x => decide (x < i)) ∨ x ∈ s.dropWhile (fun x => decide (x < i)) := by
      conv => lhs; rw [← e]
      exact List.mem_append
    simp only [List.mem_append, List.mem_cons, h2]
    constructor
    · rintro (h | h | h)
      · exact .inl (.inl h)
      · exact .inr h
      · exact .inl (.inr h)
    · rintro ((h | h) | h)
      · exact .inl h
      · exact .inr (.inr h)
      · exact .inr (.inl h)
theorem tw_lt (i : Int) (s : List Int) : ∀ x ∈ s.takeWhile (fun x => decide (x < i)), x < i := fun x hx => by
  have := List.all_takeWhile (p := fun x => decide (x < i)) (l := s)
  simpa using List.all_eq_true.1 this x hx
theorem dw_ge (i : Int) (s : List Int) (hs : s.Pairwise (· < ·)) : ∀ x ∈ s.dropWhile (fun x => decide (x < i)), i ≤ x := by
  induction s with
  | nil => simp
  | cons c s ih =>
    rw [List.dropWhile_cons]
    obtain ⟨h1, h2⟩ := List.pairwise_cons.1 hs
    split
    · exact ih h2
    · rename_i hc
      simp at hc
      intro x hx
      rcases List.mem_cons.1 hx with rfl | hx
      · exact hc
      · have := h1 x hx; omega
theorem add_asc (s : List Int) (i : Int) (hs : s.Pairwise (· < ·)) : (addL s i).Pairwise (· < ·) := by
  unfold addL
  split
  · exact hs
  · rename_i hn
    have e := List.takeWhile_append_dropWhile (p := fun x => decide (x < i)) (l := s)
    have hs' := hs
    rw [← e] at hs'
    obtain ⟨h1, h2, h3⟩ := List.pairwise_append.1 hs'
    refine List.pairwise_append.2 ⟨h1, List.pairwise_cons.2 ⟨fun x hx => ?_, h2⟩, fun x hx y hy => ?_⟩
    · have h4 := dw_ge i s hs x hx
      have : x ≠ i := fun e2 => hn (by rw [← e2, ← e]; exact List.mem_append_right _ hx)
      omega
    · rcases List.mem_cons.1 hy with rfl | hy
      · exact tw_lt _ s x hx
      · exact h3 x hx y hy
theorem fold_mem (l s : List Int) (x : Int) : x ∈ l.foldl addL s ↔ x ∈ s ∨ x ∈ l := by
  induction l generalizing s with
  | nil => simp
  | cons c l ih => rw [List.foldl_cons, ih, mem_add, List.mem_cons, or_assoc]
theorem fold_asc (l s : List Int) (hs : s.Pairwise (· < ·)) : (l.foldl addL s).Pairwise (· < ·) := by
  induction l generalizing s with
  | nil => exact hs
  | cons c l ih => exact ih _ (add_asc s c hs)
theorem mem_join (a b : List Int) (x : Int) : x ∈ joinL a b ↔ x ∈ a ∨ x ∈ b := by
  unfold joinL; rw [fold_mem]; simp
theorem join_asc (a b : List Int) : (joinL a b).Pairwise (· < ·) := fold_asc _ _ List.Pairwise.nil
/-- Two ascending lists of the same numbers are one. -/
theorem asc_ext : ∀ {s t : List Int}, s.Pairwise (· < ·) → t.Pairwise (· < ·) → (∀ x, x ∈ s ↔ x ∈ t) → s = t
  | [], [], _, _, _ => rfl
  | [], b :: t, _, _, h => by have := (h b).2 (by simp); simp at this
  | a :: s, [], _, _, h => by have := (h a).1 (by simp); simp at this
  | a :: s, b :: t, hs, ht, h => by
    obtain ⟨h1, h2⟩ := List.pairwise_cons.1 hs
    obtain ⟨h3, h4⟩ := List.pairwise_cons.1 ht
    have e : a = b := by
      have ha := (h a).1 (by simp)
      have hb := (h b).2 (by simp)
      rcases List.mem_cons.1 ha with e | ha
      · exact e
      · rcases List.mem_cons.1 hb with e | hb
        · exact e.symm
        · have := h3 a ha; have := h1 b hb; omega
    subst e
    rw [asc_ext h2 h4 fun x => ?_]
    constructor
    · intro hx
      have := (h x).1 (by simp [hx])
      rcases List.mem_cons.1 this with e | h5
      · have := h1 x hx; omega
      · exact h5
    · intro hx
      have := (h x).2 (by simp [hx])
      rcases List.mem_cons.1 this with e | h5
      · have := h3 x hx; omega
      · exact h5
theorem join_comm (a b : List Int) : joinL a b = joinL b a := asc_ext (join_asc a b) (join_asc b a) fun x => by rw [mem_join, mem_join]; exact or_comm
/-- An ascending list of all numbers of both is what is joined. -/
theorem join_is {a b t : List Int} (ht : t.Pairwise (· < ·)) (h : ∀ x, x ∈ t ↔ x ∈ a ∨ x ∈ b) : t = joinL a b := asc_ext ht (join_asc a b) fun x => by rw [h, mem_join]
theorem asc_nodup {s : List Int} (h : s.Pairwise (· < ·)) : s.Nodup := h.imp fun hlt e => by omega
theorem com_split (a b : List Int) : (a.filter fun x => decide (x ∉ b)).length + comL a b = a.length := by
  unfold comL
  induction a with
  | nil => rfl
  | cons c a ih =>
    simp only [List.filter_cons, List.length_cons]
    by_cases h : c ∈ b
    · simp [h]; simp at ih; omega
    · simp [h]; simp at ih; omega
theorem join_len (a b : List Int) (ha : a.Pairwise (· < ·)) (hb : b.Pairwise (· < ·)) : (joinL a b).length + comL a b = a.length + b.length := by
  have hp : (joinL a b).Perm ((a.filter fun x => decide (x ∉ b)) ++ b) := by
    refine (List.perm_ext_iff_of_nodup (asc_nodup (join_asc a b)) ?_).2 fun x => ?_
    · refine List.nodup_append.2 ⟨(asc_nodup ha).filter _, asc_nodup hb, fun x hx y hy e => ?_⟩
      subst e
      have := (List.mem_filter.1 hx).2
      simp at this
      exact this hy
    · rw [mem_join, List.mem_append, List.mem_filter]
      by_cases h : x ∈ b
      · simp [h]
      · simp [h]
  rw [hp.length_eq, List.length_append]
  have := com_split a b
  omega
theorem com_comm (a b : List Int) (ha : a.Pairwise (· < ·)) (hb : b.Pairwise (· < ·)) : comL a b = comL b a := by
  have h1 := join_len a b ha hb
  have h2 := join_len b a hb ha
  rw [join_comm] at h1
  omega
theorem com_le (a b : List Int) : comL a b ≤ a.length := by have := com_split a b; omega
theorem add_len (s : List Int) (i : Int) : (addL s i).length ≤ s.length + 1 := by
  unfold addL
  split
  · omega
  · have e := congrArg List.length (List.takeWhile_append_dropWhile (p := fun x => decide (x < i)) (l := s))
    rw [List.length_append] at e
    rw [List.length_append, List.length_cons]; omega
theorem fold_len (l s : List Int) : (l.foldl addL s).length ≤ s.length + l.length := by
  induction l generalizing s with
  | nil => simp
  | cons c l ih =>
    have h1 := ih (addL s c)
    have h2 := add_len s c
    rw [List.foldl_cons, List.length_cons]; omega
theorem fold_snoc (l s : List Int) (x : Int) : (l ++ [x]).foldl addL s = addL (l.foldl addL s) x := by rw [List.foldl_append]; rfl
theorem ok_join {n : Int} {a b : List Int} (ha : OkL n a) (hb : OkL n b) : OkL n (joinL a b) := ⟨fun x hx => by
  rcases (mem_join a b x).1 hx with h | h
  · exact ha.1 x h
  · exact hb.1 x h, join_asc a b⟩
/-- Each is a number that the program's int holds. -/
def WfL (xs : List Int) : Prop := ∀ x ∈ xs, (Lit.int .i64 x).wf = true
theorem WfL.at {xs : List Int} (h : WfL xs) (k : Nat) (hk : k < xs.length) : (Lit.int .i64 (xs.getD k 0)).wf = true := by
  rw [List.getD_eq_getElem?_getD, List.getElem?_eq_getElem hk]; exact h _ (List.getElem_mem hk)
end Go.Proofs.YtggmgfkmbgcooaaGreatDoor

/- spec.SetHas, SetOk, SetAdd, SetJoin, Common. -/
namespace Go.Proofs.YtggmgfkmbgcooaaGreatDoor
open Go.RowKit

theorem itake_more (xs : List Int) (k : Nat) (h : k < xs.length) : xs.take (k + 1) = xs.take k ++ [xs.getD k 0] := by
  rw [List.take_succ_eq_append_getElem h, List.getD_eq_getElem?_getD, List.getElem?_eq_getElem h]; rfl
theorem getD_mem_int {xs : List Int} {k : Nat} (h : k < xs.length) : xs.getD k 0 ∈ xs := by
  rw [List.getD_eq_getElem?_getD, List.getElem?_eq_getElem h]; exact List.getElem_mem h

set_option maxHeartbeats 1600000 in
set_option maxRecDepth 100000 in
theorem specSetHas (v : Value) (xs : List Int) (i : Int) (w : World) (h : RI w v xs) :
    Calls Tryz.prog 124 #[v, .int .i64 i] w fun e w' => e = .returned (.bool (decide (i ∈ xs))) ∧ w' = w := by
  have hl := h.1
  obtain ⟨ao, ca, rfl⟩ := h.form
  have H := hide h
  obtain ⟨n, hn⟩ : ∃ n, xs.length = n := ⟨_, rfl⟩
  have Hn := hide hn
  obtain ⟨r, hr⟩ : ∃ r, decide (i ∈ xs) = r := ⟨_, rfl⟩
  have HR := hide hr
  rw [hn] at hl H ⊢
  rw [hr]
  clear h hn hr
  go_enter Tryz.func124, Tryz.ntmps124
  go_wp2
  go_loopw [5] (fun j wr => ∃ k : Nat, k ≤ n ∧ j = .int .i64 k ∧ Hid (i ∉ xs.take k) ∧ wr = w) (fun j _ => n - (intOf j).toNat)
  case atStart => exact ⟨0, Nat.zero_le _, rfl, hide (by simp), rfl⟩
  case round =>
    obtain ⟨k, hk, rfl, HK, rfl⟩ := hrel
    by_cases hlt : k < n
    · have hkx : k < xs.length := by have := unhide Hn; omega
      obtain ⟨b, off, rfl, c⟩ := (unhide H).at k hkx
      have HT := hide (itake_more xs k hkx)
      have HM := hide (getD_mem_int hkx)
      generalize xs.getD k 0 = d at *
      by_cases e : d = i
      · subst e
        have hrr : r = true := by rw [← unhide HR]; exact decide_eq_true (unhide HM)
        subst hrr
        clear HT HM HK
        go_wp2
        go_ret
        exact ⟨rfl, rfl⟩
      · have HK' : Hid (i ∉ xs.take (k + 1)) := hide (by rw [unhide HT]; simp; exact ⟨unhide HK, fun e2 => e e2.symm⟩)
        have e' : decide (d = i) = false := by simpa using e
        have e2 : (d == i) = false := by simpa using e
        clear HT HM HK
        go_wp2
        go_roundw
        case rel => exact ⟨k + 1, by omega, by go_num, HK', by first | rfl | trivial⟩
        case measure => simp [intOf]; omega
    · have hkn : k = xs.length := by have := unhide Hn; omega
      have hrr : r = false := by
        rw [← unhide HR]
        have := unhide HK
        rw [hkn, List.take_of_length_le (Nat.le_refl _)] at this
        exact decide_eq_false this
      subst hrr
      clear HK
      go_wp2
      go_ret
      exact ⟨rfl, rfl⟩

set_option maxHeartbeats 4000000 in
set_option maxRecDepth 100000 in
theorem specSetAdd (v : Value) (xs : List Int) (i : Int) (w : World) (h : RI w v xs) (hc : Cap v) (hx : xs.length ≤ 4194303) :
    Calls Tryz.prog 101 #[v, .int .i64 i] w fun e w' => ∃ u, e = .returned u ∧ OI w' w.heap.size u (addL xs i) ∧ Below w.heap.size w w' := by
  have SH := hide fun w h => specSetHas v xs i w h
  obtain ⟨ao, ca, rfl⟩ := h.form
  obtain ⟨hcn, hcm⟩ : xs.length ≤ ca ∧ ca ≤ maxLen := by obtain ⟨_, _, _, e, h1, h2⟩ := hc; cases e; exact ⟨h1, h2⟩
  unfold maxLen at hcm
  have H := hide h
  have HP := hide h.pi
  clear h hc
  have O0 : OI (w.alloc (.cells #[] 3)) w.heap.size (.slice (some ⟨w.heap.size, 0, none⟩) 0 0) [] := by
    have := World.ownsRow_lit (base := w.heap.size) (e := 3) (size := 1) w #[] 0 (Nat.le_refl _) (by unfold maxLen; omega) (by simp)
    simpa [OI] using this
  have b0 : Below w.heap.size w (w.alloc (.cells #[] 3)) := (Below.refl _ _).alloc (Nat.le_refl _) _
  have P0 := hide ((unhide HP).below b0)
  by_cases hm : i ∈ xs
  · have ea : addL xs i = xs := if_pos hm
    rw [ea]
    rw [decide_eq_true hm] at SH
    clear hm ea
    go_enter Tryz.func101, Tryz.ntmps101
    go_wp2_with fail
    refine (unhide SH _ (unhide H)).mono ?_
    rintro _ w1 ⟨rfl, rfl⟩
    go_wp2_with (first | (at_builtin; refine append_ints rfl _ _ rfl w1.heap.size (.slice (some ⟨w1.heap.size, 0, none⟩) 0 0) (.slice ao xs.length ca) [] xs rfl rfl O0 (unhide P0) (by simp; omega) (by simp) ?_; intro v' w2 ho' hg' _; have RB := b0.grown hg' (by simp) (fun j e => by simp [Value.ownBlock] at e; omega); clear hg'))
    go_ret
    exact ⟨_, rfl, by simpa using ho', RB⟩
  · have ea : addL xs i = xs.takeWhile (fun x => decide (x < i)) ++ i :: xs.dropWhile (fun x => decide (x < i)) := if_neg hm
    rw [decide_eq_false hm] at SH
    have EA := hide ea
    clear hm ea
    obtain ⟨n, hn⟩ : ∃ n, xs.length = n := ⟨_, rfl⟩
    have Hn := hide hn
    rw [hn] at H P0 hx hcn SH HP ⊢
    clear hn
    go_enter Tryz.func101, Tryz.ntmps101
    go_wp2_with fail
    refine (unhide SH _ (unhide H)).mono ?_
    rintro _ w1 ⟨rfl, rfl⟩
    go_wp2
    go_loopw [5] (fun j wr => ∃ k : Nat, k ≤ n ∧ j = .int .i64 k ∧ Hid (∀ x ∈ xs.take k, x < i) ∧ wr = w1) (fun j _ => n - (intOf j).toNat)
    case atStart => exact ⟨0, Nat.zero_le _, rfl, hide (by simp), rfl⟩
    case round =>
      obtain ⟨k, hk, rfl, HK, rfl⟩ := hrel
      have FIN : Hid ((k < n → ¬ xs.getD k 0 < i) → addL xs i = xs.take k ++ i :: xs.drop k) := hide fun hst => by
        have hkx : k ≤ xs.length := by have := unhide Hn; omega
        have e1 : xs.takeWhile (fun x => decide (x < i)) = xs.take k ∧ xs.dropWhile (fun x => decide (x < i)) = xs.drop k := by
          have hall : ∀ x ∈ xs.take k, (decide (x < i)) = true := fun x hx => by simpa using unhide HK x hx
          have hd : xs.drop k = [] ∨ ∃ c t, xs.drop k = c :: t ∧ ¬ c < i := by
            by_cases hlt : k < xs.length
            · right
              refine ⟨_, _, List.drop_eq_getElem_cons hlt, ?_⟩
              have := hst (by have := unhide Hn; omega)
              rwa [List.getD_eq_getElem?_getD, List.getElem?_eq_getElem hlt] at this
            · left; exact List.drop_of_length_le (by omega)
          conv => lhs; lhs; rw [← List.take_append_drop k xs]
          conv => rhs; lhs; rw [← List.take_append_drop k xs]
          rw [List.takeWhile_append_of_pos hall, List.dropWhile_append_of_pos hall]
          rcases hd with e | ⟨c, t, e, hc⟩
          · rw [e]; simp
          · rw [e]; simp [hc]
        rw [unhide EA, e1.1, e1.2]
      by_cases hgo : k < n ∧ xs.getD k 0 < i
      · obtain ⟨hlt, hd⟩ := hgo
        have hkx : k < xs.length := by have := unhide Hn; omega
        obtain ⟨b, off, rfl, c⟩ := (unhide H).at k hkx
        have HT := hide (itake_more xs k hkx)
        generalize xs.getD k 0 = d at *
        have HK' : Hid (∀ x ∈ xs.take (k + 1), x < i) := hide (by
          rw [unhide HT]; intro x hx
          rcases List.mem_append.1 hx with hx | hx
          · exact unhide HK x hx
          · simp at hx; subst hx; exact hd)
        have hd' : decide (d < i) = true := by simpa using hd
        clear HT HK FIN hd
        go_wp2
        go_roundw
        case rel => exact ⟨k + 1, by omega, by go_num, HK', by first | rfl | trivial⟩
        case measure => simp [intOf]; omega
      · have F := hide (unhide FIN fun hlt hd => hgo ⟨hlt, hd⟩)
        have p1 := (unhide P0).take k hk ca
        have p2 := (unhide HP).drop k (ca - k) (bo := if ca = k then ao else ao.map (·.add (k * 1))) (fun hlt => if_neg (by omega))
        have hs1 : ∀ w, (Instr.slice 26 (.slice ao n ca) none (some (.int .i64 (k : Int))) none).run Tryz.prog w = .ok (.slice ao k ca) w := fun w => icut_to ao n ca k w (by omega)
        have hs2 : ∀ w, (Instr.slice 26 (.slice ao n ca) (some (.int .i64 (k : Int))) none none).run Tryz.prog w = .ok (.slice (if ca = k then ao else ao.map (·.add (k * 1))) (n - k) (ca - k)) w := fun w => icut_from ao n ca k w hk
        generalize (if ca = k then ao else ao.map (·.add (k * 1))) = bo at *
        have P1 := hide p1
        have P2 := hide p2
        have hlk : (xs.take k).length = k := by rw [List.length_take]; have := unhide Hn; omega
        have hld : (xs.drop k).length = n - k := by rw [List.length_drop, unhide Hn]
        have HLK := hide hlk
        have HLD := hide hld
        clear p1 p2 hlk hld FIN HK
        generalize xs.take k = fs at *
        generalize xs.drop k = bs at *
        have sz0 : wr.heap.size + 1 = (wr.alloc (.cells #[] 3)).heap.size := by simp
        have A1 : Hid True := hide trivial
        have A2 : Hid True := hide trivial
        have A3 : Hid True := hide trivial
        have EX : Hid (k < n → ∃ b off d, ao = some ⟨b, off, none⟩ ∧ wr.cell? ⟨b, off + k, none⟩ = some (.int .i64 d) ∧ ¬ d < i) := hide fun hlt => by
          obtain ⟨b, off, e, c⟩ := (unhide H).at k (by have := unhide Hn; omega)
          exact ⟨b, off, _, e, c, fun hd => hgo ⟨hlt, hd⟩⟩
        clear hgo
        by_cases hlt : k < n
        · obtain ⟨b, off, d, rfl, c, hd⟩ := unhide EX hlt
          have hd' : decide (d < i) = false := by simpa using hd
          clear EX hd
          go_wp2_with (first
            | (at_builtin; have hh := A1; refine append_ints rfl _ _ rfl wr.heap.size (.slice (some ⟨wr.heap.size, 0, none⟩) 0 0) (.slice (some ⟨b, off, none⟩) k ca) [] (fs) rfl rfl O0 (unhide P1) (by rw [unhide HLK]; simp; omega) (by simp) ?_; intro v1 w2 ho1 hg1 hb1; have O1 : OI w2 wr.heap.size v1 (fs) := (by simpa using ho1); have B1 := b0.grown hg1 (by simp) (fun j e => by simp [Value.ownBlock] at e; omega); have l1 := World.ownsRow.lt O1; obtain ⟨a1, c1, rfl⟩ := O1.form; have O1' := hide (World.ownsRow.alloc O1 (.cells #[.int .i64 i] 3)); have B1' := B1.trans ((((Below.refl _ w2).alloc (Nat.le_refl _) (.cells #[.int .i64 i] 3))).mono B1.size); clear A1 ho1 hg1 hb1 O1)
            | (at_builtin; have hh := A2; refine append_ints rfl _ _ rfl wr.heap.size (.slice a1 fs.length c1) (.slice (some ⟨w2.heap.size, 0, none⟩) 1 1) (fs) [i] rfl rfl (unhide O1') ⟨_, _, rfl, .inr ⟨_, rfl, cell_one_new _ _ _⟩⟩ (by rw [unhide HLK]; simp; omega) B1'.size ?_; intro v2 w3 ho2 hg2 hb2; have B2 := B1'.grown hg2 B1'.size (fun j e => (l1 j e).1); obtain ⟨a2, c2, hv2⟩ := ho2.form; rw [List.length_append, List.length_singleton] at hv2; subst hv2; have O2 := hide ho2; have l2 := World.ownsRow.lt ho2; have P3 := hide ((unhide P2).below B2); clear A2 ho2 hg2 hb2)
            | (at_builtin; have hh := A3; refine append_ints rfl _ _ rfl wr.heap.size (.slice a2 (fs.length + 1) c2) (.slice bo (n - k) (ca - k)) (fs ++ [i]) (bs) rfl rfl (unhide O2) (unhide P3) (by rw [unhide HLD, List.length_append, unhide HLK]; simp; omega) B2.size ?_; intro v3 w4 ho3 hg3 hb3; have B3 := B2.grown hg3 B2.size (fun j e => (l2 j e).1); clear A3 hg3 hb3))
          go_ret
          exact ⟨_, rfl, by rw [unhide F]; simpa using ho3, B3⟩
        · have hd0 : decide ((k : Int) < (n : Int)) = false := by simp; omega
          clear EX
          go_wp2_with (first
            | (at_builtin; have hh := A1; refine append_ints rfl _ _ rfl wr.heap.size (.slice (some ⟨wr.heap.size, 0, none⟩) 0 0) (.slice ao k ca) [] (fs) rfl rfl O0 (unhide P1) (by rw [unhide HLK]; simp; omega) (by simp) ?_; intro v1 w2 ho1 hg1 hb1; have O1 : OI w2 wr.heap.size v1 (fs) := (by simpa using ho1); have B1 := b0.grown hg1 (by simp) (fun j e => by simp [Value.ownBlock] at e; omega); have l1 := World.ownsRow.lt O1; obtain ⟨a1, c1, rfl⟩ := O1.form; have O1' := hide (World.ownsRow.alloc O1 (.cells #[.int .i64 i] 3)); have B1' := B1.trans ((((Below.refl _ w2).alloc (Nat.le_refl _) (.cells #[.int .i64 i] 3))).mono B1.size); clear A1 ho1 hg1 hb1 O1)
            | (at_builtin; have hh := A2; refine append_ints rfl _ _ rfl wr.heap.size (.slice a1 fs.length c1) (.slice (some ⟨w2.heap.size, 0, none⟩) 1 1) (fs) [i] rfl rfl (unhide O1') ⟨_, _, rfl, .inr ⟨_, rfl, cell_one_new _ _ _⟩⟩ (by rw [unhide HLK]; simp; omega) B1'.size ?_; intro v2 w3 ho2 hg2 hb2; have B2 := B1'.grown hg2 B1'.size (fun j e => (l1 j e).1); obtain ⟨a2, c2, hv2⟩ := ho2.form; rw [List.length_append, List.length_singleton] at hv2; subst hv2; have O2 := hide ho2; have l2 := World.ownsRow.lt ho2; have P3 := hide ((unhide P2).below B2); clear A2 ho2 hg2 hb2)
            | (at_builtin; have hh := A3; refine append_ints rfl _ _ rfl wr.heap.size (.slice a2 (fs.length + 1) c2) (.slice bo (n - k) (ca - k)) (fs ++ [i]) (bs) rfl rfl (unhide O2) (unhide P3) (by rw [unhide HLD, List.length_append, unhide HLK]; simp; omega) B2.size ?_; intro v3 w4 ho3 hg3 hb3; have B3 := B2.grown hg3 B2.size (fun j e => (l2 j e).1); clear A3 hg3 hb3))
          go_ret
          exact ⟨_, rfl, by rw [unhide F]; simpa using ho3, B3⟩

end Go.Proofs.YtggmgfkmbgcooaaGreatDoor

/- spec.Common, spec.SetOk. -/
namespace Go.Proofs.YtggmgfkmbgcooaaGreatDoor
open Go.RowKit
set_option linter.unusedSectionVars false

theorem com_snoc (l bs : List Int) (x : Int) : comL (l ++ [x]) bs = comL l bs + (if decide (x ∈ bs) then 1 else 0) := by
  unfold comL
  rw [List.filter_append, List.length_append]
  by_cases h : x ∈ bs
  · simp [h]
  · simp [h]

variable [∀ (n : Int) (s : List Int), Decidable (OkL n s)]
theorem ok_more {n : Int} {xs : List Int} {k : Nat} (hk : k < xs.length) (h : OkL n (xs.take k)) (h0 : 0 ≤ xs.getD k 0) (h1 : xs.getD k 0 < n) (h2 : 0 < k → xs.getD (k - 1) 0 < xs.getD k 0) : OkL n (xs.take (k + 1)) := by
  rw [itake_more xs k hk]
  refine ⟨fun x hx => ?_, List.pairwise_append.2 ⟨h.2, by simp, fun x hx y hy => ?_⟩⟩
  · rcases List.mem_append.1 hx with hx | hx
    · exact h.1 x hx
    · simp at hx; subst hx; exact ⟨h0, h1⟩
  · simp at hy
    subst hy
    by_cases hk0 : 0 < k
    · have h3 := h2 hk0
      have e : xs.take k = xs.take (k - 1) ++ [xs.getD (k - 1) 0] := by
        have := itake_more xs (k - 1) (by omega)
        rwa [show k - 1 + 1 = k by omega] at this
      have hp := h.2
      rw [e] at hx hp
      rcases List.mem_append.1 hx with hx | hx
      · have := (List.pairwise_append.1 hp).2.2 x hx (xs.getD (k - 1) 0) (by simp)
        simp only [List.getD_eq_getElem?_getD] at *
        omega
      · simp at hx
        simp only [List.getD_eq_getElem?_getD] at *
        omega
    · have : k = 0 := by omega
      subst this; simp at hx
theorem ok_not {n : Int} {xs : List Int} {k : Nat} (hk : k < xs.length) (h : xs.getD k 0 < 0 ∨ n ≤ xs.getD k 0 ∨ (0 < k ∧ xs.getD k 0 ≤ xs.getD (k - 1) 0)) : ¬ OkL n xs := fun ho => by
  have hm := ho.1 _ (getD_mem_int hk)
  rcases h with h | h | ⟨h0, h⟩
  · omega
  · omega
  · have := List.pairwise_iff_getElem.1 ho.2 (k - 1) k (by omega) hk (by omega)
    rw [List.getD_eq_getElem?_getD, List.getD_eq_getElem?_getD, List.getElem?_eq_getElem hk, List.getElem?_eq_getElem (show k - 1 < xs.length by omega)] at h
    simp at h
    omega

set_option maxHeartbeats 4000000 in
set_option maxRecDepth 100000 in
theorem specSetOk (m : Int) (v : Value) (xs : List Int) (w : World) (h : RI w v xs) :
    Calls Tryz.prog 86 #[.int .i64 m, v] w fun e w' => e = .returned (.bool (decide (OkL m xs))) ∧ Below w.heap.size w w' := by
  have hl := h.1
  obtain ⟨ao, ca, rfl⟩ := h.form
  have H := hide h
  obtain ⟨n, hn⟩ : ∃ n, xs.length = n := ⟨_, rfl⟩
  have Hn := hide hn
  obtain ⟨r, hr⟩ : ∃ r, decide (OkL m xs) = r := ⟨_, rfl⟩
  have HR := hide hr
  rw [hn] at hl H ⊢
  rw [hr]
  clear h hn hr
  go_enter Tryz.func86, Tryz.ntmps86
  go_wp2
  go_loopw [5] (fun j wr => ∃ k : Nat, k ≤ n ∧ j = .int .i64 k ∧ Hid (OkL m (xs.take k)) ∧ Below w.heap.size w wr) (fun j _ => n - (intOf j).toNat)
  case atStart => exact ⟨0, Nat.zero_le _, rfl, hide (by simp [OkL]), Below.refl _ _⟩
  case round =>
    obtain ⟨k, hk, rfl, HK, br⟩ := hrel
    have HR2 := hide ((unhide H).below br (Nat.le_refl _))
    by_cases hlt : k < n
    · have hkx : k < xs.length := by have := unhide Hn; omega
      obtain ⟨b, off, rfl, c⟩ := (unhide HR2).at k hkx
      have HP : Hid (0 < k → wr.cell? ⟨b, off + (k - 1), none⟩ = some (.int .i64 (xs.getD (k - 1) 0))) := hide fun h0 => by
        obtain ⟨b', off', e, c'⟩ := (unhide HR2).at (k - 1) (by omega)
        cases e; exact c'
      have HG := hide fun h0 h1 h2 => ok_more hkx (unhide HK) h0 h1 h2
      have HB := hide fun h => ok_not (n := m) hkx h
      generalize xs.getD k 0 = d at *
      by_cases g0 : d < 0
      · have hrr : r = false := by rw [← unhide HR]; exact decide_eq_false (unhide HB (.inl g0))
        subst hrr
        have g0' : decide (d < 0) = true := by simpa using g0
        clear HG HB HP HK
        go_wp2_with fail
        go_quiet (fail)
        go_wp2
        go_ret
        exact ⟨rfl, by first | exact br | exact below_drewN' br _⟩
      have g0' : decide (d < 0) = false := by simpa using g0
      by_cases g1 : m ≤ d
      · have hrr : r = false := by rw [← unhide HR]; exact decide_eq_false (unhide HB (.inr (.inl g1)))
        subst hrr
        have g1' : decide (m ≤ d) = true := by simpa using g1
        clear HG HB HP HK
        go_wp2_with fail
        go_quiet (fail)
        go_wp2
        go_ret
        exact ⟨rfl, by first | exact br | exact below_drewN' br _⟩
      have g1' : decide (m ≤ d) = false := by simpa using g1
      by_cases hk0 : 0 < k
      · have c2 := unhide HP hk0
        obtain ⟨j, rfl⟩ : ∃ j, k = j + 1 := ⟨k - 1, by omega⟩
        rw [show j + 1 - 1 = j by omega] at c2 HG HB
        generalize xs.getD j 0 = p at *
        have ej : (((j + 1 : Nat) : Int)) - 1 = (j : Int) := by omega
        have hk0' : decide ((0 : Int) < ((j + 1 : Nat) : Int)) = true := by rw [decide_eq_true_iff]; omega
        by_cases g2 : d ≤ p
        · have hrr : r = false := by rw [← unhide HR]; exact decide_eq_false (unhide HB (.inr (.inr ⟨by omega, g2⟩)))
          subst hrr
          have g2' : decide (d ≤ p) = true := by simpa using g2
          clear HG HB HP HK
          go_wp2_with fail
          go_quiet (fail)
          go_wp2
          go_ret
          exact ⟨rfl, by first | exact br | exact below_drewN' br _⟩
        · have g2' : decide (d ≤ p) = false := by simpa using g2
          have HK' := hide (unhide HG (by omega) (by omega) (fun _ => by omega))
          clear HG HB HP HK
          go_wp2_with fail
          go_quiet (fail)
          go_wp2
          go_roundw
          case rel => exact ⟨j + 1 + 1, by omega, by go_num, HK', by first | exact br | exact below_drewN' br _⟩
          case measure => simp [intOf]; omega
      · obtain rfl : k = 0 := by omega
        rw [Nat.add_zero] at c
        have HK' := hide (unhide HG (by omega) (by omega) (fun h => by omega))
        clear HG HB HP HK
        go_wp2_with fail
        go_quiet (fail)
        go_wp2
        go_roundw
        case rel => exact ⟨1, by omega, by go_num, HK', by first | exact br | exact below_drewN' br _⟩
        case measure => simp [intOf]; omega
    · have hkn : k = xs.length := by have := unhide Hn; omega
      have hrr : r = true := by
        rw [← unhide HR]
        have := unhide HK
        rw [List.take_of_length_le (by omega)] at this
        exact decide_eq_true this
      subst hrr
      have hd0 : decide ((k : Int) < (n : Int)) = false := by simp; omega
      clear HK
      go_wp2
      go_ret
      exact ⟨rfl, by first | exact br | exact below_drewN' br _⟩
end Go.Proofs.YtggmgfkmbgcooaaGreatDoor

/- The cursor of the draws: spec.l1New, l1Byte, l1Below, l1Once, l1Pick, l1PickInt. -/
namespace Go.Proofs.YtggmgfkmbgcooaaGreatDoor
open Go.RowKit

end Go.Proofs.YtggmgfkmbgcooaaGreatDoor

/- The draws of sets: spec.l6DrawSet, DrawSetOk, DrawSetHas, DrawSetAdd, DrawSetJoin. -/
namespace Go.Proofs.YtggmgfkmbgcooaaGreatDoor
open Go.RowKit

theorem kp_to {a b : World} {g : Nat} (h : Kp a b (fun k => k = g)) : a.grownBy b (some g) :=
  ⟨h.os, h.tape, h.output, h.size, fun j hj hx => h.block j hj (fun e => hx (e ▸ rfl))⟩
theorem kp_of {a b : World} {g : Nat} (h : a.grownBy b (some g)) : Kp a b (fun k => k = g) := (kp_grown h).mono fun k e => by simpa using e.symm

theorem wf_small {x : Int} (h0 : -256 ≤ x) (h1 : x ≤ 256) : (Lit.int .i64 x).wf = true := by
  simp only [Lit.wf, IntKind.min, IntKind.max, IntKind.signed, IntKind.bits, Bool.and_eq_true, decide_eq_true_eq, if_true]
  omega
theorem wf_add {xs : List Int} {x : Int} (h : WfL xs) (hx : (Lit.int .i64 x).wf = true) : WfL (addL xs x) := fun y hy => by
  rcases (mem_add xs x y).1 hy with h1 | rfl
  · exact h y h1
  · exact hx
theorem wf_snoc {xs : List Int} {x : Int} (h : WfL xs) (hx : (Lit.int .i64 x).wf = true) : WfL (xs ++ [x]) := fun y hy => by
  rcases List.mem_append.1 hy with h1 | h1
  · exact h y h1
  · simp at h1; subst h1; exact hx
set_option maxHeartbeats 8000000 in
set_option maxRecDepth 100000 in
theorem drawSet (base g ca : Nat) (ao : Option Addr) (zs : List Int) (n : Int) (w : World) (hB : base ≤ w.heap.size) (hn : 1 ≤ n) (hm : n ≤ 256) (h : Cur w base g ao ca zs) :
    Calls Tryz.prog 71 #[.pointer (some ⟨g, 0, none⟩), .int .i64 n] w fun e w' => ∃ v, ∃ xs : List Int, e = .returned v ∧ xs.length ≤ 9 ∧ Hid (WfL xs) ∧ OI w' w.heap.size v xs ∧ Cur w' base g ao ca zs ∧ w.grownBy w' (some g) := by
  have hlt := h.lt
  have O0 : OI (w.alloc (.cells #[] 3)) w.heap.size (.slice (some ⟨w.heap.size, 0, none⟩) 0 0) [] := by
    have := World.ownsRow_lit (base := w.heap.size) (e := 3) (size := 1) w #[] 0 (Nat.le_refl _) (by unfold maxLen; omega) (by simp)
    simpa [OI] using this
  have b0 : Below w.heap.size w (w.alloc (.cells #[] 3)) := (Below.refl _ _).alloc (Nat.le_refl _) _
  have C0 := h.below hB b0
  have K0 : Kp w (w.alloc (.cells #[] 3)) (fun k => k = g) := Below.kpOf b0 _
  clear h b0
  go_enter Tryz.func71, Tryz.ntmps71
  go_wp2
  go_loopw [5, 6] (fun out j wr => ∃ (k : Nat) (xs : List Int), k ≤ 8 ∧ j = .int .i64 k ∧ xs.length ≤ k ∧ Hid (WfL xs) ∧ OI wr w.heap.size out xs ∧ Cur wr base g ao ca zs ∧ Kp w wr (fun k => k = g)) (fun _ j _ => 8 - (intOf j).toNat)
  case atStart => exact ⟨0, [], by omega, rfl, by simp, hide (fun x hx => by simp at hx), O0, C0, K0⟩
  case round =>
    clear O0 C0 K0
    obtain ⟨k, xs, hk, rfl, hxl, WX, ho, C, K⟩ := hrel
    have sk := K.size
    obtain ⟨oa, oc, rfl⟩ := ho.form
    go_wp2_with fail
    refine (below_any base g ca ao zs 8 _ (by omega) (by omega) (by omega) C).mono ?_
    rintro _ w1 ⟨r, rfl, r0, r1, C1, g1⟩
    have k1 := kp_of g1
    have s1 := k1.size
    have l0 := World.ownsRow.lt ho
    have O1 := OI.kp ho k1 (fun j hj e => by have := (l0 j hj).1; omega)
    have K1 := K.trans k1
    clear C K g1 k1 ho l0
    by_cases hlt2 : (k : Int) < r
    · have hd : decide ((k : Int) < r) = true := by simpa using hlt2
      go_wp2_with fail
      refine (below_any base g ca ao zs n _ (by omega) hn hm C1).mono ?_
      rintro _ w2 ⟨x, rfl, x0, x1, C2, g2⟩
      have k2 := kp_of g2
      have s2 := k2.size
      have l1 := World.ownsRow.lt O1
      have O2 := OI.kp O1 k2 (fun j hj e => by have := (l1 j hj).1; omega)
      have K2 := K1.trans k2
      have SA := hide (specSetAdd _ xs x w2 (O2.ri (by omega)) O2.cap (by omega))
      have hal := add_len xs x
      have WY := hide (wf_add (unhide WX) (wf_small (by omega) (by omega) : (Lit.int .i64 x).wf = true))
      clear C1 K1 g2 k2 O1 l1 O2
      generalize addL xs x = ys at *
      go_wp2_with fail
      refine (unhide SA).mono ?_
      rintro _ w3 ⟨u, rfl, o3, b3⟩
      have C3 := C2.below (by omega) b3
      have K3 := K2.trans (Below.kpOf b3 _)
      have O3 := OI.mono o3 (show w.heap.size ≤ w2.heap.size by omega)
      obtain ⟨ua, uc, rfl⟩ := o3.form
      clear SA C2 K2 b3 o3
      go_wp2
      go_roundw
      case rel => exact ⟨k + 1, ys, by omega, by go_num, by omega, WY, O3, C3, K3⟩
      case measure => simp [intOf]; omega
    · have hd : decide ((k : Int) < r) = false := by simpa using hlt2
      go_wp2_with fail
      refine (once_any base g ca ao zs 12 _ (by omega) (by omega) (by omega) C1).mono ?_
      rintro _ w2 ⟨q, rfl, C2, g2⟩
      have k2 := kp_of g2
      have s2 := k2.size
      have l1 := World.ownsRow.lt O1
      have O2 := OI.kp O1 k2 (fun j hj e => by have := (l1 j hj).1; omega)
      have K2 := K1.trans k2
      clear C1 K1 g2 k2 O1 l1
      cases q with
      | false =>
        go_wp2
        go_ret
        exact ⟨_, xs, rfl, by omega, WX, O2, C2, kp_to K2⟩
      | true =>
        obtain ⟨w3, hw3⟩ : ∃ w3, w2.alloc (.cells #[.int .i64 (-1), .int .i64 0, .int .i64 3, .int .i64 9] 3) = w3 := ⟨_, rfl⟩
        have b3 : Below w2.heap.size w2 w3 := hw3 ▸ (Below.refl _ _).alloc (Nat.le_refl _) _
        have h40 : w3.cell? ⟨w2.heap.size, 0, none⟩ = some (.int .i64 (-1)) := by rw [← hw3]; simp
        have h41 : w3.cell? ⟨w2.heap.size, 1, none⟩ = some (.int .i64 0) := by rw [← hw3]; simp
        have h42 : w3.cell? ⟨w2.heap.size, 2, none⟩ = some (.int .i64 3) := by rw [← hw3]; simp
        have h43 : w3.cell? ⟨w2.heap.size, 3, none⟩ = some (.int .i64 9) := by rw [← hw3]; simp
        have hc3 : ∀ k, k < ([-1, 0, 3, 9] : List Int).length → w3.cell? ⟨w2.heap.size, k, none⟩ = some (.int .i64 (([-1, 0, 3, 9] : List Int).getD k 0)) := fun k hk => by
          match k, hk with
          | 0, _ => exact h40
          | 1, _ => exact h41
          | 2, _ => exact h42
          | 3, _ => exact h43
          | k + 4, hk => simp at hk; omega
        have C3 := C2.below (by omega) b3
        have O3 := O2.below b3
        have K3 := K2.trans (Below.kpOf b3 _)
        have s3 := b3.size
        have hgl := C2.lt
        have PK := hide (pickInt_any base g ca w2.heap.size ao zs [-1, 0, 3, 9] w3 (by omega) (by omega) (by simp) (by simp) hc3 C3)
        clear C2 K2 O2 b3 hc3 h40 h41 h42 h43
        go_wp2_with fail
        refine (unhide PK).mono ?_
        rintro _ w4 ⟨kk, hkk, rfl, C4, g4⟩
        have k4 := kp_of g4
        have s4 := k4.size
        have l3 := World.ownsRow.lt O3
        have O4 := OI.kp O3 k4 (fun j hj e => by have := (l3 j hj).1; omega)
        have K4 := K3.trans k4
        have hdd : -256 ≤ ([-1, 0, 3, 9] : List Int).getD kk 0 ∧ ([-1, 0, 3, 9] : List Int).getD kk 0 ≤ 256 := by
          match kk, hkk with
          | 0, _ => decide
          | 1, _ => decide
          | 2, _ => decide
          | 3, _ => decide
          | k + 4, hk => simp at hk; omega
        generalize ([-1, 0, 3, 9] : List Int).getD kk 0 = dd at *
        have WY := hide (wf_snoc (unhide WX) (wf_small hdd.1 hdd.2))
        have b5 : Below w4.heap.size w4 (w4.alloc (.cells #[.int .i64 dd] 3)) := (Below.refl _ _).alloc (Nat.le_refl _) _
        have O5 := O4.below b5
        have C5 := C4.below (by omega) b5
        have K5 := K4.trans (Below.kpOf b5 _)
        have l5 := World.ownsRow.lt O5
        clear hw3 PK C3 K3 O3 C4 O4 K4 g4 k4 l3 b5
        go_wp2_with (first | (at_builtin; refine append_ints rfl _ _ rfl w.heap.size (.slice oa xs.length oc) (.slice (some ⟨w4.heap.size, 0, none⟩) 1 1) xs [dd] rfl rfl O5 ⟨_, _, rfl, .inr ⟨_, rfl, cell_one_new _ _ _⟩⟩ (by simp; omega) (by simp; omega) ?_; intro v' w6 ho6 hg6 _; have C6 := C5.grownNew hg6 (fun j e => by have := (l5 j e).1; omega); have K6 := grown_new (kp_to K5) hg6 (fun j e => (l5 j e).1); clear hg6))
        go_ret
        exact ⟨_, xs ++ [dd], rfl, by simp; omega, WY, ho6, C6, K6⟩

/-- What came in: the code of the draws. -/
structure SCode (w : World) (ao : Option Addr) (xs : List Int) : Prop where
  len : xs.length ≤ 1048576
  code : xs = [] ∨ ∃ b off, ao = some ⟨b, off, none⟩ ∧ ∀ k, k < xs.length → w.cell? ⟨b, off + k, none⟩ = some (.int .u8 (xs.getD k 0))
  fit : ∀ k, k < xs.length → 0 ≤ xs.getD k 0 ∧ xs.getD k 0 ≤ 255
theorem SCode.below {w w' : World} {ao : Option Addr} {xs : List Int} (h : SCode w ao xs) (hb : Below w.heap.size w w') : SCode w' ao xs := by
  refine ⟨h.len, ?_, h.fit⟩
  rcases h.code with h' | ⟨b, off, ha, hx⟩
  · exact .inl h'
  · exact .inr ⟨b, off, ha, fun k hk => (hb.cell (p := ⟨b, off + k, none⟩) (cell_lt (hx k hk))).trans (hx k hk)⟩

end Go.Proofs.YtggmgfkmbgcooaaGreatDoor

/- The numbers from f on: plain mathematics. -/
namespace Go.Proofs.YtggmgfkmbgcooaaGreatDoor
open Go.RowKit

/-- Those from f on. -/
def fromL (f : Int) (k : Nat) : List Int := (List.range k).map fun (i : Nat) => f + (i : Int)
theorem fromL_len (f : Int) (k : Nat) : (fromL f k).length = k := by simp [fromL]
theorem fromL_succ (f : Int) (k : Nat) : fromL f (k + 1) = fromL f k ++ [f + (k : Int)] := by simp [fromL, List.range_succ]
theorem fromL_ok {n f : Int} {k : Nat} (h0 : 0 ≤ f) (h : f + (k : Int) ≤ n) : OkL n (fromL f k) := by
  refine ⟨fun x hx => ?_, ?_⟩
  · obtain ⟨i, hi, rfl⟩ := List.mem_map.1 hx
    have := List.mem_range.1 hi
    omega
  · unfold fromL
    rw [List.pairwise_map]
    exact List.pairwise_lt_range.imp fun h => by omega
theorem wf_ok {n : Int} {xs : List Int} (hn : n ≤ 256) (h : OkL n xs) : WfL xs := fun x hx => wf_small (by have := h.1 x hx; omega) (by have := h.1 x hx; omega)
theorem WfL.sub {xs ys : List Int} (h : WfL xs) (hs : ∀ y ∈ ys, y ∈ xs) : WfL ys := fun y hy => h y (hs y hy)
end Go.Proofs.YtggmgfkmbgcooaaGreatDoor
