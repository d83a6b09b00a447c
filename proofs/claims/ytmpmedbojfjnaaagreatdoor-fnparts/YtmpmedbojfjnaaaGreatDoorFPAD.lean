/- Texts that belong together: DrawNum, In, Plain, Text, DrawList, SetPlain, SpecSets. -/
import Derived.Test.YtmpmedbojfjnaaaGreatDoorFPAC
import Derived.Test.YtmpmedbojfjnaaaGreatDoorFPAA
import Derived.WalkKit
import Derived.Lib.AppendStr
import Derived.Laws.IdiomStrings
import Derived.Deep.RegionHeld3
namespace Go.Proofs.YtmpmedbojfjnaaaGreatDoor
open Go.RowKit

theorem lit_ints (w : World) (t : TypeId) (zs : List Int) (k : Nat) (hk : k < zs.length) : (w.alloc (.cells (zs.map (Value.int .i64)).toArray t)).cell? ⟨w.heap.size, k, none⟩ = some (.int .i64 (zs.getD k 0)) := by
 rw [cell_of_row _ w.heap.size k _ t (0, 0) (heap_alloc_new w _)]
 simp [List.getElem?_eq_getElem hk]
theorem lit_texts (w : World) (t : TypeId) (zs : List ByteArray) (k : Nat) (hk : k < zs.length) : (w.alloc (.cells (zs.map Value.string).toArray t)).cell? ⟨w.heap.size, k, none⟩ = some (.string (zs.getD k ByteArray.empty)) := by
 rw [cell_of_row _ w.heap.size k _ t (0, 0) (heap_alloc_new w _)]
 simp [List.getElem?_eq_getElem hk]
theorem Cur.alloc {w : World} {base g ca : Nat} {ao : Option Addr} {xs : List Int} (h : Cur w base g ao ca xs) (hB : base ≤ w.heap.size) (o : Obj) : Cur (w.alloc o) base g ao ca xs := by
 have hg : g < w.heap.size := by
  obtain ⟨i, hh, hc, _⟩ := h.cells
  exact (Array.getElem?_eq_some_iff.1 hc).1
 have hb : Below w.heap.size w (w.alloc o) := (Below.refl _ _).alloc (Nat.le_refl _) o
 refine ⟨h.low, h.len, ?_, ?_⟩
 ·obtain ⟨i, hh, hc, h0, h1⟩ := h.cells
  exact ⟨i, hh, (hb.block g hg).trans hc, h0, h1⟩
 ·rcases h.code with h' | ⟨b, off, hbb, ha, hx⟩
  ·exact .inl h'
  ·exact .inr ⟨b, off, hbb, ha, fun k hk => ⟨(hb.cell (p := ⟨b, off + k, none⟩) (by show b < _; omega)).trans (hx k hk).1, (hx k hk).2⟩⟩

structure DCode (w : World) (ao : Option Addr) (xs : List Int) : Prop where
 len : xs.length ≤ 1048576
 code : xs = [] ∨ ∃ b off, ao = some ⟨b, off, none⟩ ∧ ∀ k, k < xs.length → w.cell? ⟨b, off + k, none⟩ = some (.int .u8 (xs.getD k 0))
 fit : ∀ k, k < xs.length → 0 ≤ xs.getD k 0 ∧ xs.getD k 0 ≤ 255
theorem DCode.below {w w' : World} {B : Nat} {ao : Option Addr} {xs : List Int} (h : DCode w ao xs) (hb : Below B w w') (hB : w.heap.size ≤ B) : DCode w' ao xs := by
 refine ⟨h.len, ?_, h.fit⟩
 rcases h.code with h' | ⟨b, off, ha, hx⟩
 ·exact .inl h'
 ·exact .inr ⟨b, off, ha, fun k hk => (hb.cell (Nat.lt_of_lt_of_le (cell_lt (hx k hk)) hB)).trans (hx k hk)⟩

theorem pickInt_lit (base g ca : Nat) (ao : Option Addr) (xs zs : List Int) (w : World) (hB : base ≤ w.heap.size) (hz : 1 ≤ zs.length) (hz2 : zs.length ≤ 256) (h : Cur w base g ao ca xs) :
 Calls Tryz.prog 119 #[.pointer (some ⟨g, 0, none⟩), .slice (some ⟨w.heap.size, 0, none⟩) zs.length zs.length] (w.alloc (.cells (zs.map (Value.int .i64)).toArray 3)) fun e w' =>
  ∃ x : Int, e = .returned (.int .i64 x) ∧ x ∈ zs ∧ Cur w' base g ao ca xs ∧ w.grownBy w' (some g) := by
 have hg : g < w.heap.size := by
  obtain ⟨i, hh, hc, _⟩ := h.cells
  exact (Array.getElem?_eq_some_iff.1 hc).1
 refine (pickInt_any base g ca w.heap.size ao xs zs _ (by simp; omega) (by omega) hz hz2 (fun k hk => lit_ints w _ zs k hk) (h.alloc hB _)).mono ?_
 rintro e w' ⟨k, hk, rfl, hc, hgr⟩
 refine ⟨_, rfl, ?_, hc, grown_trans (World.grownBy_alloc w _ _) hgr⟩
 rw [List.getD_eq_getElem?_getD, List.getElem?_eq_getElem hk]
 exact List.getElem_mem hk
theorem pick_lit (base g ca : Nat) (ao : Option Addr) (xs : List Int) (zs : List ByteArray) (w : World) (hB : base ≤ w.heap.size) (hz : 1 ≤ zs.length) (hz2 : zs.length ≤ 256) (h : Cur w base g ao ca xs) :
 Calls Tryz.prog 154 #[.pointer (some ⟨g, 0, none⟩), .slice (some ⟨w.heap.size, 0, none⟩) zs.length zs.length] (w.alloc (.cells (zs.map Value.string).toArray 9)) fun e w' =>
  ∃ x : ByteArray, e = .returned (.string x) ∧ x ∈ zs ∧ Cur w' base g ao ca xs ∧ w.grownBy w' (some g) := by
 have hg : g < w.heap.size := by
  obtain ⟨i, hh, hc, _⟩ := h.cells
  exact (Array.getElem?_eq_some_iff.1 hc).1
 refine (pick_any base g ca w.heap.size ao xs zs _ (by simp; omega) (by omega) hz hz2 (fun k hk => lit_texts w _ zs k hk) (h.alloc hB _)).mono ?_
 rintro e w' ⟨k, hk, rfl, hc, hgr⟩
 refine ⟨_, rfl, ?_, hc, grown_trans (World.grownBy_alloc w _ _) hgr⟩
 rw [List.getD_eq_getElem?_getD, List.getElem?_eq_getElem hk]
 exact List.getElem_mem hk
theorem cur_below {w w' : World} {g : Nat} (hg : w.grownBy w' (some g)) {a : World} {B : Nat} (hb : Below B a w) (hB : B ≤ w.heap.size) (hlow : B ≤ g) : Below B a w' :=
 hb.grown hg hB (fun k hk => by simp at hk; omega)

set_option maxHeartbeats 800000 in
set_option maxRecDepth 100000 in
theorem in_yes (x lo hi : Int) (w : World) (h1 : lo ≤ x) (h2 : x ≤ hi) : Calls Tryz.prog 77 #[.int .i64 x, .int .i64 lo, .int .i64 hi] w fun e w' => e = .returned (.bool true) ∧ w' = w := by
 go_enter Tryz.func77, Tryz.ntmps77
 go_wp2
 go_ret
 exact ⟨rfl, rfl⟩

set_option maxHeartbeats 800000 in
set_option maxRecDepth 100000 in
theorem in_no (x lo hi : Int) (w : World) (h : x < lo ∨ hi < x) : Calls Tryz.prog 77 #[.int .i64 x, .int .i64 lo, .int .i64 hi] w fun e w' => e = .returned (.bool false) ∧ w' = w := by
 by_cases h1 : lo ≤ x
 ·have h2 : ¬ x ≤ hi := by omega
  clear h
  go_enter Tryz.func77, Tryz.ntmps77
  go_wp2
  go_ret
  exact ⟨rfl, rfl⟩
 ·have hd : decide (lo ≤ x) = false := by simpa using h1
  clear h
  go_enter Tryz.func77, Tryz.ntmps77
  go_wp2
  go_ret
  exact ⟨rfl, rfl⟩
end Go.Proofs.YtmpmedbojfjnaaaGreatDoor
namespace Go.Proofs.YtmpmedbojfjnaaaGreatDoor

def put : Nat → Nat → List Int
 | 0, n => [(n : Int)]
 | f + 1, n => if n ≤ 127 then [(n : Int)] else ((n : Int) % 128 + 128) :: put f (n / 128)
def At (n : Nat) (f m : Nat) (done : List Int) : Prop := done ++ put f m = put 4 n ∧ m < 128 ^ (f + 1) ∧ done.length + f = 4
end Go.Proofs.YtmpmedbojfjnaaaGreatDoor
namespace Go.Proofs.YtmpmedbojfjnaaaGreatDoor
open Go.RowKit

def bs (s : ByteArray) : List Int := s.data.toList.map fun b => (b.toNat : Int)

def BytesL (ys : List Int) : Prop := ∀ y ∈ ys, 0 ≤ y ∧ y ≤ 255
theorem BytesL.append {a b : List Int} (ha : BytesL a) (hb : BytesL b) : BytesL (a ++ b) := fun y hy => by
 rcases List.mem_append.1 hy with h | h
 ·exact ha y h
 ·exact hb y h
theorem OB.grown {w w' : World} {base g : Nat} {v : Value} {xs : List Int} (h : OB w base v xs) (hg : w.grownBy w' (some g)) (hlt : g < base) : OB w' base v xs :=
 World.ownsRow.kept h hg (by
  cases hv : v.ownBlock with
  | none => exact .inl rfl
  | some k => exact .inr fun e => by have := (World.ownsRow.lt h k hv).1; simp at e; omega)
theorem Cur.lt {w : World} {base g ca : Nat} {ao : Option Addr} {xs : List Int} (h : Cur w base g ao ca xs) : g < w.heap.size := by
 obtain ⟨i, hh, hc, _⟩ := h.cells
 exact (Array.getElem?_eq_some_iff.1 hc).1
theorem Cur.below {w w' : World} {base g ca : Nat} {ao : Option Addr} {xs : List Int} (h : Cur w base g ao ca xs) (hB : base ≤ w.heap.size) (hb : Below w.heap.size w w') : Cur w' base g ao ca xs := by
 have hg := h.lt
 refine ⟨h.low, h.len, ?_, ?_⟩
 ·obtain ⟨i, hh, hc, h0, h1⟩ := h.cells
  exact ⟨i, hh, (hb.block g hg).trans hc, h0, h1⟩
 ·rcases h.code with h' | ⟨b, off, hbb, ha, hx⟩
  ·exact .inl h'
  ·exact .inr ⟨b, off, hbb, ha, fun k hk => ⟨(hb.cell (p := ⟨b, off + k, none⟩) (by show b < _; omega)).trans (hx k hk).1, (hx k hk).2⟩⟩
theorem grown_below {w w' : World} (h : Below w.heap.size w w') (row : Option Nat) : w.grownBy w' row := ⟨h.os, h.tape, h.output, h.size, fun k hk _ => h.block k hk⟩
theorem grown_new {a b c : World} {row row' : Option Nat} (h : a.grownBy b row) (k : b.grownBy c row') (hr : ∀ j, row' = some j → a.heap.size ≤ j) : a.grownBy c row :=
 ⟨k.os.trans h.os, k.tape.trans h.tape, k.output.trans h.output, Nat.le_trans h.size k.size, fun i hi hne => (k.block i (Nat.lt_of_lt_of_le hi h.size) (fun e => by have := hr i e.symm; omega)).trans (h.block i hi hne)⟩
theorem Cur.grownNew {w w' : World} {base g ca : Nat} {ao : Option Addr} {xs : List Int} {row : Option Nat} (h : Cur w base g ao ca xs) (hg : w.grownBy w' row) (hr : ∀ j, row = some j → g < j) : Cur w' base g ao ca xs := by
 have hlt := h.lt
 have hlow := h.low
 refine ⟨h.low, h.len, ?_, ?_⟩
 ·obtain ⟨i, hh, hc, h0, h1⟩ := h.cells
  exact ⟨i, hh, (hg.block g hlt (fun e => by have := hr g e.symm; omega)).trans hc, h0, h1⟩
 ·rcases h.code with h' | ⟨b, off, hbb, ha, hx⟩
  ·exact .inl h'
  ·refine .inr ⟨b, off, hbb, ha, fun k hk => ⟨?_, (hx k hk).2⟩⟩
   rw [World.cell?_of_block (w := w) (hg.block b (by omega) (fun e => by have := hr b e.symm; omega))]
   exact (hx k hk).1
end Go.Proofs.YtmpmedbojfjnaaaGreatDoor
namespace Go.Proofs.YtmpmedbojfjnaaaGreatDoor

def addL (s : List Int) (i : Int) : List Int := if i ∈ s then s else s.takeWhile (fun x => decide (x < i)) ++ i :: s.dropWhile (fun x => decide (x < i))
def joinL (a b : List Int) : List Int := (a ++ b).foldl addL []
def comL (a b : List Int) : Nat := (a.filter fun x => decide (x ∈ b)).length
def OkL (n : Int) (s : List Int) : Prop := (∀ x ∈ s, 0 ≤ x ∧ x < n) ∧ s.Pairwise (· < ·)
theorem mem_add (s : List Int) (i x : Int) : x ∈ addL s i ↔ x ∈ s ∨ x = i := by
 unfold addL
 split
 ·rename_i h
  constructor
  ·exact .inl
  ·rintro (h1 | rfl)
   ·exact h1
   ·exact h
 ·have e := List.takeWhile_append_dropWhile (p := fun x => decide (x < i)) (l := s)
  have h2 : x ∈ s ↔ x ∈ s.takeWhile (fun x => decide (x < i)) ∨ x ∈ s.dropWhile (fun x => decide (x < i)) := by
   conv => lhs; rw [← e]
   exact List.mem_append
  simp only [List.mem_append, List.mem_cons, h2]
  constructor
  ·rintro (h | h | h)
   ·exact .inl (.inl h)
   ·exact .inr h
   ·exact .inl (.inr h)
  ·rintro ((h | h) | h)
   ·exact .inl h
   ·exact .inr (.inr h)
   ·exact .inr (.inl h)
theorem tw_lt (i : Int) (s : List Int) : ∀ x ∈ s.takeWhile (fun x => decide (x < i)), x < i := fun x hx => by
 have := List.all_takeWhile (p := fun x => decide (x < i)) (l := s)
 simpa using List.all_eq_true.1 this x hx
theorem dw_ge (i : Int) (s : List Int) (hs : s.Pairwise (· < ·)) : ∀ x ∈ s.dropWhile (fun x => decide (x < i)), i ≤ x := by
 induction s with
 | nil => simp
 | cons c s ih =>
  rw [List.dropWhile_cons]
  obtain ⟨h1, h2⟩ := List.pairwise_cons.1 hs
  split
  ·exact ih h2
  ·rename_i hc
   simp at hc
   intro x hx
   rcases List.mem_cons.1 hx with rfl | hx
   ·exact hc
   ·have := h1 x hx; omega
theorem add_asc (s : List Int) (i : Int) (hs : s.Pairwise (· < ·)) : (addL s i).Pairwise (· < ·) := by
 unfold addL
 split
 ·exact hs
 ·rename_i hn
  have e := List.takeWhile_append_dropWhile (p := fun x => decide (x < i)) (l := s)
  have hs' := hs
  rw [← e] at hs'
  obtain ⟨h1, h2, h3⟩ := List.pairwise_append.1 hs'
  refine List.pairwise_append.2 ⟨h1, List.pairwise_cons.2 ⟨fun x hx => ?_, h2⟩, fun x hx y hy => ?_⟩
  ·have h4 := dw_ge i s hs x hx
   have : x ≠ i := fun e2 => hn (by rw [← e2, ← e]; exact List.mem_append_right _ hx)
   omega
  ·rcases List.mem_cons.1 hy with rfl | hy
   ·exact tw_lt _ s x hx
   ·exact h3 x hx y hy
theorem fold_mem (l s : List Int) (x : Int) : x ∈ l.foldl addL s ↔ x ∈ s ∨ x ∈ l := by
 induction l generalizing s with
 | nil => simp
 | cons c l ih => rw [List.foldl_cons, ih, mem_add, List.mem_cons, or_assoc]
theorem fold_asc (l s : List Int) (hs : s.Pairwise (· < ·)) : (l.foldl addL s).Pairwise (· < ·) := by
 induction l generalizing s with
 | nil => exact hs
 | cons c l ih => exact ih _ (add_asc s c hs)
theorem mem_join (a b : List Int) (x : Int) : x ∈ joinL a b ↔ x ∈ a ∨ x ∈ b := by
 unfold joinL; rw [fold_mem]; simp
theorem join_asc (a b : List Int) : (joinL a b).Pairwise (· < ·) := fold_asc _ _ List.Pairwise.nil
theorem asc_ext : ∀ {s t : List Int}, s.Pairwise (· < ·) → t.Pairwise (· < ·) → (∀ x, x ∈ s ↔ x ∈ t) → s = t
 | [], [], _, _, _ => rfl
 | [], b :: t, _, _, h => by have := (h b).2 (by simp); simp at this
 | a :: s, [], _, _, h => by have := (h a).1 (by simp); simp at this
 | a :: s, b :: t, hs, ht, h => by
  obtain ⟨h1, h2⟩ := List.pairwise_cons.1 hs
  obtain ⟨h3, h4⟩ := List.pairwise_cons.1 ht
  have e : a = b := by
   have ha := (h a).1 (by simp)
   have hb := (h b).2 (by simp)
   rcases List.mem_cons.1 ha with e | ha
   ·exact e
   ·rcases List.mem_cons.1 hb with e | hb
    ·exact e.symm
    ·have := h3 a ha; have := h1 b hb; omega
  subst e
  rw [asc_ext h2 h4 fun x => ?_]
  constructor
  ·intro hx
   have := (h x).1 (by simp [hx])
   rcases List.mem_cons.1 this with e | h5
   ·have := h1 x hx; omega
   ·exact h5
  ·intro hx
   have := (h x).2 (by simp [hx])
   rcases List.mem_cons.1 this with e | h5
   ·have := h3 x hx; omega
   ·exact h5
theorem join_comm (a b : List Int) : joinL a b = joinL b a := asc_ext (join_asc a b) (join_asc b a) fun x => by rw [mem_join, mem_join]; exact or_comm
theorem join_is {a b t : List Int} (ht : t.Pairwise (· < ·)) (h : ∀ x, x ∈ t ↔ x ∈ a ∨ x ∈ b) : t = joinL a b := asc_ext ht (join_asc a b) fun x => by rw [h, mem_join]
theorem com_split (a b : List Int) : (a.filter fun x => decide (x ∉ b)).length + comL a b = a.length := by
 unfold comL
 induction a with
 | nil => rfl
 | cons c a ih =>
  simp only [List.filter_cons, List.length_cons]
  by_cases h : c ∈ b
  ·simp [h]; simp at ih; omega
  ·simp [h]; simp at ih; omega
theorem add_len (s : List Int) (i : Int) : (addL s i).length ≤ s.length + 1 := by
 unfold addL
 split
 ·omega
 ·have e := congrArg List.length (List.takeWhile_append_dropWhile (p := fun x => decide (x < i)) (l := s))
  rw [List.length_append] at e
  rw [List.length_append, List.length_cons]; omega
theorem fold_len (l s : List Int) : (l.foldl addL s).length ≤ s.length + l.length := by
 induction l generalizing s with
 | nil => simp
 | cons c l ih =>
  have h1 := ih (addL s c)
  have h2 := add_len s c
  rw [List.foldl_cons, List.length_cons]; omega
theorem fold_snoc (l s : List Int) (x : Int) : (l ++ [x]).foldl addL s = addL (l.foldl addL s) x := by rw [List.foldl_append]; rfl
def WfL (xs : List Int) : Prop := ∀ x ∈ xs, (Lit.int .i64 x).wf = true
theorem WfL.at {xs : List Int} (h : WfL xs) (k : Nat) (hk : k < xs.length) : (Lit.int .i64 (xs.getD k 0)).wf = true := by
 rw [List.getD_eq_getElem?_getD, List.getElem?_eq_getElem hk]; exact h _ (List.getElem_mem hk)
end Go.Proofs.YtmpmedbojfjnaaaGreatDoor
namespace Go.Proofs.YtmpmedbojfjnaaaGreatDoor
open Go.RowKit

theorem itake_more (xs : List Int) (k : Nat) (h : k < xs.length) : xs.take (k + 1) = xs.take k ++ [xs.getD k 0] := by
 rw [List.take_succ_eq_append_getElem h, List.getD_eq_getElem?_getD, List.getElem?_eq_getElem h]; rfl
theorem getD_mem_int {xs : List Int} {k : Nat} (h : k < xs.length) : xs.getD k 0 ∈ xs := by
 rw [List.getD_eq_getElem?_getD, List.getElem?_eq_getElem h]; exact List.getElem_mem h

set_option maxHeartbeats 1600000 in
set_option maxRecDepth 100000 in
theorem specSetHas (v : Value) (xs : List Int) (i : Int) (w : World) (h : RI w v xs) :
 Calls Tryz.prog 162 #[v, .int .i64 i] w fun e w' => e = .returned (.bool (decide (i ∈ xs))) ∧ w' = w := by
 have hl := h.1
 obtain ⟨ao, ca, rfl⟩ := h.form
 have H := hide h
 obtain ⟨n, hn⟩ : ∃ n, xs.length = n := ⟨_, rfl⟩
 have Hn := hide hn
 obtain ⟨r, hr⟩ : ∃ r, decide (i ∈ xs) = r := ⟨_, rfl⟩
 have HR := hide hr
 rw [hn] at hl H ⊢
 rw [hr]
 clear h hn hr
 go_enter Tryz.func162, Tryz.ntmps162
 go_wp2
 go_loopw [5] (fun j wr => ∃ k : Nat, k ≤ n ∧ j = .int .i64 k ∧ Hid (i ∉ xs.take k) ∧ wr = w) (fun j _ => n - (intOf j).toNat)
 case atStart => exact ⟨0, Nat.zero_le _, rfl, hide (by simp), rfl⟩
 case round =>
  obtain ⟨k, hk, rfl, HK, rfl⟩ := hrel
  by_cases hlt : k < n
  ·have hkx : k < xs.length := by have := unhide Hn; omega
   obtain ⟨b, off, rfl, c⟩ := (unhide H).at k hkx
   have HT := hide (itake_more xs k hkx)
   have HM := hide (getD_mem_int hkx)
   generalize xs.getD k 0 = d at *
   by_cases e : d = i
   ·subst e
    have hrr : r = true := by rw [← unhide HR]; exact decide_eq_true (unhide HM)
    subst hrr
    clear HT HM HK
    go_wp2
    go_ret
    exact ⟨rfl, rfl⟩
   ·have HK' : Hid (i ∉ xs.take (k + 1)) := hide (by rw [unhide HT]; simp; exact ⟨unhide HK, fun e2 => e e2.symm⟩)
    have e' : decide (d = i) = false := by simpa using e
    have e2 : (d == i) = false := by simpa using e
    clear HT HM HK
    go_wp2
    go_roundw
    case rel => exact ⟨k + 1, by omega, by go_num, HK', by first | rfl | trivial⟩
    case measure => simp [intOf]; omega
  ·have hkn : k = xs.length := by have := unhide Hn; omega
   have hrr : r = false := by
    rw [← unhide HR]
    have := unhide HK
    rw [hkn, List.take_of_length_le (Nat.le_refl _)] at this
    exact decide_eq_false this
   subst hrr
   clear HK
   go_wp2
   go_ret
   exact ⟨rfl, rfl⟩

set_option maxHeartbeats 4000000 in
set_option maxRecDepth 100000 in
theorem specSetAdd (v : Value) (xs : List Int) (i : Int) (w : World) (h : RI w v xs) (hc : Cap v) (hx : xs.length ≤ 4194303) :
 Calls Tryz.prog 143 #[v, .int .i64 i] w fun e w' => ∃ u, e = .returned u ∧ OI w' w.heap.size u (addL xs i) ∧ Below w.heap.size w w' := by
 have SH := hide fun w h => specSetHas v xs i w h
 obtain ⟨ao, ca, rfl⟩ := h.form
 obtain ⟨hcn, hcm⟩ : xs.length ≤ ca ∧ ca ≤ maxLen := by obtain ⟨_, _, _, e, h1, h2⟩ := hc; cases e; exact ⟨h1, h2⟩
 unfold maxLen at hcm
 have H := hide h
 have HP := hide h.pi
 clear h hc
 have O0 : OI (w.alloc (.cells #[] 3)) w.heap.size (.slice (some ⟨w.heap.size, 0, none⟩) 0 0) [] := by
  have := World.ownsRow_lit (base := w.heap.size) (e := 3) (size := 1) w #[] 0 (Nat.le_refl _) (by unfold maxLen; omega) (by simp)
  simpa [OI] using this
 have b0 : Below w.heap.size w (w.alloc (.cells #[] 3)) := (Below.refl _ _).alloc (Nat.le_refl _) _
 have P0 := hide ((unhide HP).below b0)
 by_cases hm : i ∈ xs
 ·have ea : addL xs i = xs := if_pos hm
  rw [ea]
  rw [decide_eq_true hm] at SH
  clear hm ea
  go_enter Tryz.func143, Tryz.ntmps143
  go_wp2_with fail
  refine (unhide SH _ (unhide H)).mono ?_
  rintro _ w1 ⟨rfl, rfl⟩
  go_wp2_with (first | (at_builtin; refine append_ints rfl _ _ rfl w1.heap.size (.slice (some ⟨w1.heap.size, 0, none⟩) 0 0) (.slice ao xs.length ca) [] xs rfl rfl O0 (unhide P0) (by simp; omega) (by simp) ?_; intro v' w2 ho' hg' _; have RB := b0.grown hg' (by simp) (fun j e => by simp [Value.ownBlock] at e; omega); clear hg'))
  go_ret
  exact ⟨_, rfl, by simpa using ho', RB⟩
 ·have ea : addL xs i = xs.takeWhile (fun x => decide (x < i)) ++ i :: xs.dropWhile (fun x => decide (x < i)) := if_neg hm
  rw [decide_eq_false hm] at SH
  have EA := hide ea
  clear hm ea
  obtain ⟨n, hn⟩ : ∃ n, xs.length = n := ⟨_, rfl⟩
  have Hn := hide hn
  rw [hn] at H P0 hx hcn SH HP ⊢
  clear hn
  go_enter Tryz.func143, Tryz.ntmps143
  go_wp2_with fail
  refine (unhide SH _ (unhide H)).mono ?_
  rintro _ w1 ⟨rfl, rfl⟩
  go_wp2
  go_loopw [5] (fun j wr => ∃ k : Nat, k ≤ n ∧ j = .int .i64 k ∧ Hid (∀ x ∈ xs.take k, x < i) ∧ wr = w1) (fun j _ => n - (intOf j).toNat)
  case atStart => exact ⟨0, Nat.zero_le _, rfl, hide (by simp), rfl⟩
  case round =>
   obtain ⟨k, hk, rfl, HK, rfl⟩ := hrel
   have FIN : Hid ((k < n → ¬ xs.getD k 0 < i) → addL xs i = xs.take k ++ i :: xs.drop k) := hide fun hst => by
    have hkx : k ≤ xs.length := by have := unhide Hn; omega
    have e1 : xs.takeWhile (fun x => decide (x < i)) = xs.take k ∧ xs.dropWhile (fun x => decide (x < i)) = xs.drop k := by
     have hall : ∀ x ∈ xs.take k, (decide (x < i)) = true := fun x hx => by simpa using unhide HK x hx
     have hd : xs.drop k = [] ∨ ∃ c t, xs.drop k = c :: t ∧ ¬ c < i := by
      by_cases hlt : k < xs.length
      ·right
       refine ⟨_, _, List.drop_eq_getElem_cons hlt, ?_⟩
       have := hst (by have := unhide Hn; omega)
       rwa [List.getD_eq_getElem?_getD, List.getElem?_eq_getElem hlt] at this
      ·left; exact List.drop_of_length_le (by omega)
     conv => lhs; lhs; rw [← List.take_append_drop k xs]
     conv => rhs; lhs; rw [← List.take_append_drop k xs]
     rw [List.takeWhile_append_of_pos hall, List.dropWhile_append_of_pos hall]
     rcases hd with e | ⟨c, t, e, hc⟩
     ·rw [e]; simp
     ·rw [e]; simp [hc]
    rw [unhide EA, e1.1, e1.2]
   by_cases hgo : k < n ∧ xs.getD k 0 < i
   ·obtain ⟨hlt, hd⟩ := hgo
    have hkx : k < xs.length := by have := unhide Hn; omega
    obtain ⟨b, off, rfl, c⟩ := (unhide H).at k hkx
    have HT := hide (itake_more xs k hkx)
    generalize xs.getD k 0 = d at *
    have HK' : Hid (∀ x ∈ xs.take (k + 1), x < i) := hide (by
     rw [unhide HT]; intro x hx
     rcases List.mem_append.1 hx with hx | hx
     ·exact unhide HK x hx
     ·simp at hx; subst hx; exact hd)
    have hd' : decide (d < i) = true := by simpa using hd
    clear HT HK FIN hd
    go_wp2
    go_roundw
    case rel => exact ⟨k + 1, by omega, by go_num, HK', by first | rfl | trivial⟩
    case measure => simp [intOf]; omega
   ·have F := hide (unhide FIN fun hlt hd => hgo ⟨hlt, hd⟩)
    have p1 := (unhide P0).take k hk ca
    have p2 := (unhide HP).drop k (ca - k) (bo := if ca = k then ao else ao.map (·.add (k * 1))) (fun hlt => if_neg (by omega))
    have hs1 : ∀ w, (Instr.slice 26 (.slice ao n ca) none (some (.int .i64 (k : Int))) none).run Tryz.prog w = .ok (.slice ao k ca) w := fun w => icut_to ao n ca k w (by omega)
    have hs2 : ∀ w, (Instr.slice 26 (.slice ao n ca) (some (.int .i64 (k : Int))) none none).run Tryz.prog w = .ok (.slice (if ca = k then ao else ao.map (·.add (k * 1))) (n - k) (ca - k)) w := fun w => icut_from ao n ca k w hk
    generalize (if ca = k then ao else ao.map (·.add (k * 1))) = bo at *
    have P1 := hide p1
    have P2 := hide p2
    have hlk : (xs.take k).length = k := by rw [List.length_take]; have := unhide Hn; omega
    have hld : (xs.drop k).length = n - k := by rw [List.length_drop, unhide Hn]
    have HLK := hide hlk
    have HLD := hide hld
    clear p1 p2 hlk hld FIN HK
    generalize xs.take k = fs at *
    generalize xs.drop k = bs at *
    have sz0 : wr.heap.size + 1 = (wr.alloc (.cells #[] 3)).heap.size := by simp
    have A1 : Hid True := hide trivial
    have A2 : Hid True := hide trivial
    have A3 : Hid True := hide trivial
    have EX : Hid (k < n → ∃ b off d, ao = some ⟨b, off, none⟩ ∧ wr.cell? ⟨b, off + k, none⟩ = some (.int .i64 d) ∧ ¬ d < i) := hide fun hlt => by
     obtain ⟨b, off, e, c⟩ := (unhide H).at k (by have := unhide Hn; omega)
     exact ⟨b, off, _, e, c, fun hd => hgo ⟨hlt, hd⟩⟩
    clear hgo
    by_cases hlt : k < n
    ·obtain ⟨b, off, d, rfl, c, hd⟩ := unhide EX hlt
     have hd' : decide (d < i) = false := by simpa using hd
     clear EX hd
     go_wp2_with (first
      | (at_builtin; have hh := A1; refine append_ints rfl _ _ rfl wr.heap.size (.slice (some ⟨wr.heap.size, 0, none⟩) 0 0) (.slice (some ⟨b, off, none⟩) k ca) [] (fs) rfl rfl O0 (unhide P1) (by rw [unhide HLK]; simp; omega) (by simp) ?_; intro v1 w2 ho1 hg1 hb1; have O1 : OI w2 wr.heap.size v1 (fs) := (by simpa using ho1); have B1 := b0.grown hg1 (by simp) (fun j e => by simp [Value.ownBlock] at e; omega); have l1 := World.ownsRow.lt O1; obtain ⟨a1, c1, rfl⟩ := O1.form; have O1' := hide (World.ownsRow.alloc O1 (.cells #[.int .i64 i] 3)); have B1' := B1.trans ((((Below.refl _ w2).alloc (Nat.le_refl _) (.cells #[.int .i64 i] 3))).mono B1.size); clear A1 ho1 hg1 hb1 O1)
      | (at_builtin; have hh := A2; refine append_ints rfl _ _ rfl wr.heap.size (.slice a1 fs.length c1) (.slice (some ⟨w2.heap.size, 0, none⟩) 1 1) (fs) [i] rfl rfl (unhide O1') ⟨_, _, rfl, .inr ⟨_, rfl, cell_one_new _ _ _⟩⟩ (by rw [unhide HLK]; simp; omega) B1'.size ?_; intro v2 w3 ho2 hg2 hb2; have B2 := B1'.grown hg2 B1'.size (fun j e => (l1 j e).1); obtain ⟨a2, c2, hv2⟩ := ho2.form; rw [List.length_append, List.length_singleton] at hv2; subst hv2; have O2 := hide ho2; have l2 := World.ownsRow.lt ho2; have P3 := hide ((unhide P2).below B2); clear A2 ho2 hg2 hb2)
      | (at_builtin; have hh := A3; refine append_ints rfl _ _ rfl wr.heap.size (.slice a2 (fs.length + 1) c2) (.slice bo (n - k) (ca - k)) (fs ++ [i]) (bs) rfl rfl (unhide O2) (unhide P3) (by rw [unhide HLD, List.length_append, unhide HLK]; simp; omega) B2.size ?_; intro v3 w4 ho3 hg3 hb3; have B3 := B2.grown hg3 B2.size (fun j e => (l2 j e).1); clear A3 hg3 hb3))
     go_ret
     exact ⟨_, rfl, by rw [unhide F]; simpa using ho3, B3⟩
    ·have hd0 : decide ((k : Int) < (n : Int)) = false := by simp; omega
     clear EX
     go_wp2_with (first
      | (at_builtin; have hh := A1; refine append_ints rfl _ _ rfl wr.heap.size (.slice (some ⟨wr.heap.size, 0, none⟩) 0 0) (.slice ao k ca) [] (fs) rfl rfl O0 (unhide P1) (by rw [unhide HLK]; simp; omega) (by simp) ?_; intro v1 w2 ho1 hg1 hb1; have O1 : OI w2 wr.heap.size v1 (fs) := (by simpa using ho1); have B1 := b0.grown hg1 (by simp) (fun j e => by simp [Value.ownBlock] at e; omega); have l1 := World.ownsRow.lt O1; obtain ⟨a1, c1, rfl⟩ := O1.form; have O1' := hide (World.ownsRow.alloc O1 (.cells #[.int .i64 i] 3)); have B1' := B1.trans ((((Below.refl _ w2).alloc (Nat.le_refl _) (.cells #[.int .i64 i] 3))).mono B1.size); clear A1 ho1 hg1 hb1 O1)
      | (at_builtin; have hh := A2; refine append_ints rfl _ _ rfl wr.heap.size (.slice a1 fs.length c1) (.slice (some ⟨w2.heap.size, 0, none⟩) 1 1) (fs) [i] rfl rfl (unhide O1') ⟨_, _, rfl, .inr ⟨_, rfl, cell_one_new _ _ _⟩⟩ (by rw [unhide HLK]; simp; omega) B1'.size ?_; intro v2 w3 ho2 hg2 hb2; have B2 := B1'.grown hg2 B1'.size (fun j e => (l1 j e).1); obtain ⟨a2, c2, hv2⟩ := ho2.form; rw [List.length_append, List.length_singleton] at hv2; subst hv2; have O2 := hide ho2; have l2 := World.ownsRow.lt ho2; have P3 := hide ((unhide P2).below B2); clear A2 ho2 hg2 hb2)
      | (at_builtin; have hh := A3; refine append_ints rfl _ _ rfl wr.heap.size (.slice a2 (fs.length + 1) c2) (.slice bo (n - k) (ca - k)) (fs ++ [i]) (bs) rfl rfl (unhide O2) (unhide P3) (by rw [unhide HLD, List.length_append, unhide HLK]; simp; omega) B2.size ?_; intro v3 w4 ho3 hg3 hb3; have B3 := B2.grown hg3 B2.size (fun j e => (l2 j e).1); clear A3 hg3 hb3))
     go_ret
     exact ⟨_, rfl, by rw [unhide F]; simpa using ho3, B3⟩

set_option maxHeartbeats 4000000 in
set_option maxRecDepth 100000 in
theorem specSetJoin (va vb : Value) (xs bs : List Int) (w : World) (ha : RI w va xs) (hb : RI w vb bs) (hl : xs.length + bs.length ≤ 4194303) :
 Calls Tryz.prog 89 #[va, vb] w fun e w' => ∃ u, e = .returned u ∧ OI w' w.heap.size u (joinL xs bs) ∧ Below w.heap.size w w' := by
 obtain ⟨aa, ca, rfl⟩ := ha.form
 obtain ⟨ba, cb, rfl⟩ := hb.form
 have HA := hide ha
 have HB := hide hb
 obtain ⟨n, hn⟩ : ∃ n, xs.length = n := ⟨_, rfl⟩
 obtain ⟨m, hm⟩ : ∃ n, bs.length = n := ⟨_, rfl⟩
 have Hn := hide hn
 have Hm := hide hm
 rw [hn] at HA hl ⊢
 rw [hm] at HB hl ⊢
 clear ha hb hn hm
 have O0 : OI (w.alloc (.cells #[] 3)) w.heap.size (.slice (some ⟨w.heap.size, 0, none⟩) 0 0) [] := by
  have := World.ownsRow_lit (base := w.heap.size) (e := 3) (size := 1) w #[] 0 (Nat.le_refl _) (by unfold maxLen; omega) (by simp)
  simpa [OI] using this
 have b0 : Below w.heap.size w (w.alloc (.cells #[] 3)) := (Below.refl _ _).alloc (Nat.le_refl _) _
 go_enter Tryz.func89, Tryz.ntmps89
 go_wp2
 go_loopw [5, 6] (fun out j wr => ∃ k : Nat, k ≤ n ∧ j = .int .i64 k ∧ OI wr w.heap.size out ((xs.take k).foldl addL []) ∧ Below w.heap.size w wr) (fun _ j _ => n - (intOf j).toNat)
 case atStart => exact ⟨0, Nat.zero_le _, rfl, O0, b0⟩
 case round =>
  clear O0 b0
  obtain ⟨k, hk, rfl, ho, br⟩ := hrel
  have hsr := br.size
  by_cases hlt : k < n
  ·have hkx : k < xs.length := by have := unhide Hn; omega
   obtain ⟨b, off, rfl, c⟩ := ((unhide HA).below br (Nat.le_refl _)).at k hkx
   have HT := hide (show (xs.take (k + 1)).foldl addL [] = addL ((xs.take k).foldl addL []) (xs.getD k 0) by rw [itake_more xs k hkx, fold_snoc])
   have hfl := fold_len (xs.take k) []
   rw [List.length_take, List.length_nil] at hfl
   generalize xs.getD k 0 = d at *
   generalize (xs.take k).foldl addL [] = acc at *
   have SA := hide (specSetAdd _ acc d _ (ho.ri (by omega)) ho.cap (by omega))
   obtain ⟨oa, oc, rfl⟩ := ho.form
   clear ho hfl
   go_wp2_with fail
   refine (unhide SA).mono ?_
   rintro _ w1 ⟨u, rfl, o1, b1⟩
   obtain ⟨ua, uc, rfl⟩ := o1.form
   have O1 := OI.mono o1 hsr
   have B1 := br.trans (b1.mono hsr)
   clear o1 b1 SA
   go_wp2
   go_roundw
   case rel => exact ⟨k + 1, by omega, by go_num, by rw [unhide HT]; exact O1, B1⟩
   case measure => simp [intOf]; omega
  ·have hkn : k = xs.length := by have := unhide Hn; omega
   have e1 : xs.take k = xs := List.take_of_length_le (by omega)
   rw [e1] at ho
   have HO := hide ho
   have hd0 : decide ((k : Int) < (n : Int)) = false := by simp; omega
   clear ho hkn e1
   obtain ⟨oa, oc, ho0⟩ := (unhide HO).form
   go_wp2
   go_loopw [5, 7] (fun out j wq => ∃ k : Nat, k ≤ m ∧ j = .int .i64 k ∧ OI wq w.heap.size out ((xs ++ bs.take k).foldl addL []) ∧ Below w.heap.size w wq) (fun _ j _ => m - (intOf j).toNat)
   case atStart => exact ⟨0, Nat.zero_le _, rfl, by simpa using unhide HO, br⟩
   case round =>
    clear HO br
    obtain ⟨k2, hk2, rfl, ho, br⟩ := hrel
    have hsr2 := br.size
    by_cases hlt2 : k2 < m
    ·have hkx : k2 < bs.length := by have := unhide Hm; omega
     obtain ⟨b, off, rfl, c⟩ := ((unhide HB).below br (Nat.le_refl _)).at k2 hkx
     have HT := hide (show (xs ++ bs.take (k2 + 1)).foldl addL [] = addL ((xs ++ bs.take k2).foldl addL []) (bs.getD k2 0) by rw [itake_more bs k2 hkx, ← List.append_assoc, fold_snoc])
     have hfl := fold_len (xs ++ bs.take k2) []
     rw [List.length_append, unhide Hn, List.length_take, List.length_nil] at hfl
     generalize bs.getD k2 0 = d at *
     generalize (xs ++ bs.take k2).foldl addL [] = acc at *
     have SA := hide (specSetAdd _ acc d _ (ho.ri (by omega)) ho.cap (by omega))
     obtain ⟨oa2, oc2, rfl⟩ := ho.form
     clear ho hfl
     go_wp2_with fail
     refine (unhide SA).mono ?_
     rintro _ w1 ⟨u, rfl, o1, b1⟩
     obtain ⟨ua, uc, rfl⟩ := o1.form
     have O1 := OI.mono o1 hsr2
     have B1 := br.trans (b1.mono hsr2)
     clear o1 b1 SA
     go_wp2
     go_roundw
     case rel => exact ⟨k2 + 1, by omega, by go_num, by rw [unhide HT]; exact O1, B1⟩
     case measure => simp [intOf]; omega
    ·have hkn : k2 = bs.length := by have := unhide Hm; omega
     have e1 : bs.take k2 = bs := List.take_of_length_le (by omega)
     rw [e1] at ho
     have HO := hide ho
     have hd2 : decide ((k2 : Int) < (m : Int)) = false := by simp; omega
     clear ho hkn e1
     go_wp2
     go_ret
     exact ⟨_, rfl, unhide HO, br⟩
end Go.Proofs.YtmpmedbojfjnaaaGreatDoor
