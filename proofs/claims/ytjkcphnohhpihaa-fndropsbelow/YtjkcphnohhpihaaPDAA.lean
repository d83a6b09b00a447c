/- Lemmas; their conditions stand in each statement. -/
import Derived.Test.YtjkcphnohhpihaaRows
import Derived.WalkSmall
import Derived.BigQuiet
import Derived.Maps.AppendAt
set_option maxRecDepth 100000
set_option maxHeartbeats 1600000
namespace Go.Proofs.Ytjkcphnohhpihaa
section
open Go.RowKit
theorem hide {p : Prop} (h : p) : Hid p := h
theorem unhide {p : Prop} (h : Hid p) : p := h

def RB (w : World) (v : Value) (xs : List Int) : Prop :=
 xs.length ≤ 140737488355328 ∧ ∃ ao cap, v = .slice ao xs.length cap ∧ (xs.length ≤ cap ∧ cap ≤ maxLen) ∧ (xs = [] ∨ ∃ b off, ao = some ⟨b, off, none⟩ ∧ ∀ k, k < xs.length → w.cell? ⟨b, off + k, none⟩ = some (.int .u8 (xs.getD k 0)))

def OB (w : World) (base : Nat) (v : Value) (xs : List Int) : Prop := w.ownsRow base 5 1 v xs.length (xs.map (Value.int .u8))

theorem OB.rb {w : World} {base : Nat} {v : Value} {xs : List Int} (h : OB w base v xs) (hl : xs.length ≤ 140737488355328) : RB w v xs := by
 refine ⟨hl, ?_⟩
 rcases h.2 with ⟨rfl, h0⟩ | ⟨g, cap, cur, rfl, _, _, hca, hcm, _⟩
 ·exact ⟨none, 0, by rw [h0], ⟨by omega, by unfold maxLen; omega⟩, .inl (List.length_eq_zero_iff.1 h0)⟩
 refine ⟨_, cap, rfl, ⟨hca, hcm⟩, .inr ⟨g, 0, rfl, fun k hk => ?_⟩⟩
 have:=World.ownsRow.cellAt h k (by omega)
 rw [Nat.zero_add, this]
 simp [List.getElem?_map, List.getElem?_eq_getElem hk]
theorem OB.below {w w' : World} {base : Nat} {v : Value} {xs : List Int} (h : OB w base v xs) (hb : Below w.heap.size w w') : OB w' base v xs :=
 World.ownsRow.kept (row := none) h ⟨hb.os, hb.tape, hb.output, hb.size, fun k hk _ => hb.block k hk⟩ (by cases v.ownBlock <;> simp)
theorem OB.drewN {w : World} {base : Nat} {v : Value} {xs : List Int} (h : OB w base v xs) (n : Nat) : OB (w.drewN n) base v xs := h
theorem OB.apart {w w' : World} {base N : Nat} {v u : Value} {xs : List Int} (h : OB w base v xs) (hg : w.grownBy w' u.ownBlock) (hv : ∀ k, v.ownBlock = some k → k < N) (hu : ∀ k, u.ownBlock = some k → N ≤ k) : OB w' base v xs := by
 refine World.ownsRow.kept h hg ?_
 cases hv' : v.ownBlock with
 | none => exact .inl rfl
 | some k => exact .inr fun e => by have := hv k hv'; have := hu k e.symm; omega

theorem cell_lt {w : World} {a : Addr} {v : Value} (h : w.cell? a = some v) : a.block < w.heap.size := World.block_lt_of_cell? w a h
theorem RB.below {w w' : World} {B : Nat} {v : Value} {xs : List Int} (h : RB w v xs) (hb : Below B w w') (hB : w.heap.size ≤ B := by exact Nat.le_refl _) : RB w' v xs := by
 obtain ⟨hl, ao, cap, rfl, hcap, h⟩:=h
 refine ⟨hl, ao, cap, rfl, hcap, ?_⟩
 rcases h with h | ⟨b, off, rfl, h⟩
 ·exact .inl h
 refine .inr ⟨b, off, rfl, fun k hk => ?_⟩
 have:=h k hk
 exact (hb.cell (Nat.lt_of_lt_of_le (cell_lt this) hB)).trans this
theorem RB.drewN {w : World} {v : Value} {xs : List Int} (h : RB w v xs) (n : Nat) : RB (w.drewN n) v xs := h
theorem grown_trans {a b c : World} {row : Option Nat} (h : a.grownBy b row) (k : b.grownBy c row) : a.grownBy c row :=
 ⟨k.os.trans h.os, k.tape.trans h.tape, k.output.trans h.output, Nat.le_trans h.size k.size, fun i hi hr => (k.block i (Nat.lt_of_lt_of_le hi h.size) hr).trans (h.block i hi hr)⟩
theorem grown_refl (a : World) (row : Option Nat) : a.grownBy a row := ⟨rfl, rfl, rfl, Nat.le_refl _, fun _ _ _ => rfl⟩

theorem Try.info9 : (Try.prog.info? 9).map (fun i => (i.zero, i.size, i.bytes)) = some (some (.string ⟨#[]⟩), 1, 16) := by kernel_rfl
theorem one_cell (w : World) (x : Value) (t : TypeId) (j : Nat) (u : Value) (h : [x][j]? = some u) : (w.alloc (.cells #[x] t)).cell? ((⟨w.heap.size, 0, none⟩ : Addr).add j) = some u := by
 match j, h with
 | 0, h => simp at h; subst h; simp [Addr.add]
theorem one_text (s : ByteArray) (u : Value) (h : u ∈ [Value.string s]) : u.oneCell' = true := by simp at h; subst h; rfl
theorem bu {w a b : World} (h : Below w.heap.size w a) (k : Below a.heap.size a b) : Below w.heap.size w b := h.trans (k.mono h.size)
theorem Try.info3 : (Try.prog.info? 3).map (fun i => (i.zero, i.size, i.bytes)) = some (some (.int .i64 0), 1, 8) := by kernel_rfl

def RI (w : World) (v : Value) (xs : List Int) : Prop :=
 xs.length ≤ 4194304 ∧ ∃ ao cap, v = .slice ao xs.length cap ∧ (xs = [] ∨ ∃ b off, ao = some ⟨b, off, none⟩ ∧ ∀ k, k < xs.length → w.cell? ⟨b, off + k, none⟩ = some (.int .i64 (xs.getD k 0)))
def OI (w : World) (base : Nat) (v : Value) (xs : List Int) : Prop := w.ownsRow base 3 1 v xs.length (xs.map (Value.int .i64))

theorem OI.ri {w : World} {base : Nat} {v : Value} {xs : List Int} (h : OI w base v xs) (hl : xs.length ≤ 4194304) : RI w v xs := by
 refine ⟨hl, ?_⟩
 rcases h.2 with ⟨rfl, h0⟩ | ⟨g, cap, cur, rfl, _⟩
 ·exact ⟨none, 0, by rw [h0], .inl (List.length_eq_zero_iff.1 h0)⟩
 refine ⟨_, cap, rfl, .inr ⟨g, 0, rfl, fun k hk => ?_⟩⟩
 have:=World.ownsRow.cellAt h k (by omega)
 rw [Nat.zero_add, this]
 simp [List.getElem?_map, List.getElem?_eq_getElem hk]
theorem OI.below {w w' : World} {base : Nat} {v : Value} {xs : List Int} (h : OI w base v xs) (hb : Below w.heap.size w w') : OI w' base v xs :=
 World.ownsRow.kept (row := none) h ⟨hb.os, hb.tape, hb.output, hb.size, fun k hk _ => hb.block k hk⟩ (by cases v.ownBlock <;> simp)
theorem OI.grown {w w' : World} {base : Nat} {row : Option Nat} {v : Value} {xs : List Int} (h : OI w base v xs) (hg : w.grownBy w' row) (hv : ∀ k, v.ownBlock = some k → row ≠ some k) : OI w' base v xs := by
 refine World.ownsRow.kept h hg ?_
 cases hv' : v.ownBlock with
 | none => exact .inl rfl
 | some k => exact .inr fun e => hv k hv' e.symm
theorem RI.below {w w' : World} {B : Nat} {v : Value} {xs : List Int} (h : RI w v xs) (hb : Below B w w') (hB : w.heap.size ≤ B := by exact Nat.le_refl _) : RI w' v xs := by
 obtain ⟨hl, ao, cap, rfl, h⟩:=h
 refine ⟨hl, ao, cap, rfl, ?_⟩
 rcases h with h | ⟨b, off, rfl, h⟩
 ·exact .inl h
 refine .inr ⟨b, off, rfl, fun k hk => ?_⟩
 have:=h k hk
 exact (hb.cell (Nat.lt_of_lt_of_le (cell_lt this) hB)).trans this
theorem below_drewN' {B : Nat} {w w' : World} (h : Below B w w') (n : Nat) : Below B w (w'.drewN n) := ⟨h.os, h.tape, h.output, h.size, h.block⟩

theorem eqIntS_yes (va vb : Value) (xs : List Int) (w : World) (ha : RI w va xs) (hb : RI w vb xs) :
 Calls Try.prog 35 #[va, vb] w fun e w' => e = .returned (.bool true) ∧ ∃ n, w' = w.drewN n := by
 obtain ⟨hl, ao, ca, rfl, ha⟩:=ha
 obtain ⟨_, bo, cb, rfl, hb⟩:=hb
 generalize hn : xs.length = n at *
 have Hn : Hid (xs.length = n):=hn
 clear hn
 go_enter Try.func35, Try.ntmps35
 go_wp2
 go_loopw [5] (fun i wr => ∃ k : Nat, k ≤ n ∧ i = .int .i64 k ∧ ∃ m, wr = w.drewN m) (fun i _ => n - (intOf i).toNat)
 case atStart => exact ⟨0, Nat.zero_le _, rfl, 0, rfl⟩
 case round =>
  obtain ⟨k, hk, rfl, m, rfl⟩:=hrel
  by_cases hlt : k < n
  ·rcases ha with ha | ⟨b, off, rfl, ha⟩
   ·subst ha; have := Hn.out; simp at this; omega
   rcases hb with hb | ⟨b', off', rfl, hb⟩
   ·subst hb; have := Hn.out; simp at this; omega
   have ha':=ha k hlt
   have hb':=hb k hlt
   clear ha hb
   generalize xs.getD k 0 = d at *
   go_wp2_with fail
   go_quiet (fail)
   go_wp2
   go_roundw
   case rel => exact ⟨k + 1, by omega, by go_num, _, rfl⟩
   case measure => simp [intOf]; omega
  clear ha hb
  go_wp2
  go_ret
  exact ⟨rfl, _, rfl⟩

def ihalf (xs : List Int) (k : Nat) : List Value := ((xs.take k) ++ List.replicate (xs.length - k) 0).map (Value.int .i64)
theorem ihalf_zero (xs : List Int) : ihalf xs 0 = List.replicate xs.length (.int .i64 0) := by simp [ihalf]
theorem ihalf_all (xs : List Int) : ihalf xs xs.length = xs.map (Value.int .i64) := by simp [ihalf]
theorem ihalf_len (xs : List Int) (k : Nat) (h : k ≤ xs.length) : (ihalf xs k).length = xs.length := by simp [ihalf]; omega
theorem ihalf_set (xs : List Int) (k : Nat) (h : k < xs.length) : (ihalf xs k).set k (.int .i64 (xs.getD k 0)) = ihalf xs (k + 1) := by
 have e : xs.length - k = (xs.length - (k + 1)) + 1:=by omega
 have hk : (xs.take k).length = k:=by simp; omega
 unfold ihalf
 rw [List.take_succ_eq_append_getElem h, e, List.replicate_succ, List.map_append, List.map_append, List.map_append, List.set_append_right _ _ (by simp; omega), List.length_map, hk, Nat.sub_self]
 simp [List.getElem?_eq_getElem h]

theorem toIntS_any (v : Value) (xs : List Int) (w : World) (h : RI w v xs) :
 Calls Try.prog 33 #[v] w fun e w' => ∃ u, e = .returned u ∧ OI w' w.heap.size u xs ∧ Below w.heap.size w w' := by
 obtain ⟨i0, hi, hz0, hz1, hz2⟩:=info_parts Try.info3
 obtain ⟨hl, ao, ca, rfl, ha⟩:=h
 obtain ⟨n, hn⟩ : ∃ n, xs.length = n:=⟨_, rfl⟩
 have Hn : Hid (xs.length = n):=hn
 rw [hn] at hl ⊢
 rw [hn] at ha
 clear hn
 go_enter Try.func33, Try.ntmps33
 go_wp2_with (first | (at_make; refine wpList_make_full _ rfl _ _ 34 rfl w.heap.size 3 i0 (.int .i64 0) 1 Try.underlying34 hi hz0 hz1 .i64 .i64 n n n rfl rfl rfl rfl (by rw [hz2]; omega) (by unfold maxLen; omega) (Nat.le_refl _) ?_; intro w0 ho0 hg0))
 have hstart : w0.ownsRow w.heap.size 3 1 (.slice (some ⟨w.heap.size, 0, none⟩) n n) n (ihalf xs 0):=by
  have e : (madeCells (Value.int IntKind.i64 0).cells (n * 1)).toList = ihalf xs 0:=by
   rw [ihalf_zero, Hn.out, Nat.mul_one]; exact toList_madeCells_one _ _
  rw [← e]; exact ho0
 have HB : Hid (Below w.heap.size w w0):=(Below.refl _ _).grown hg0 (Nat.le_refl _) (by simp)
 clear ho0 hg0
 go_loopw [4] (fun i wr => ∃ k : Nat, k ≤ n ∧ i = .int .i64 k ∧ wr.ownsRow w.heap.size 3 1 (.slice (some ⟨w.heap.size, 0, none⟩) n n) n (ihalf xs k) ∧ Below w.heap.size w wr) (fun i _ => n - (intOf i).toNat)
 case atStart => exact ⟨0, Nat.zero_le _, rfl, hstart, HB.out⟩
 case round =>
  clear hstart
  obtain ⟨k, hk, rfl, ho, hbel⟩:=hrel
  by_cases hlt : k < n
  ·rcases ha with ha | ⟨b, off, rfl, ha⟩
   ·subst ha; have := Hn.out; simp at this; omega
   have hkx : k < xs.length:=by rw [Hn.out]; exact hlt
   have hc0:=ha k hlt
   have hc : wr.cell? ⟨b, off + k, none⟩ = some (.int .i64 (xs.getD k 0)):=(hbel.cell (cell_lt hc0)).trans hc0
   obtain ⟨u, hu⟩ : ∃ u, wr.cell? ⟨w.heap.size, k, none⟩ = some u:=by
    have h1:=ho.cellAt k (by omega)
    have h2 : k < (ihalf xs k).length:=by rw [ihalf_len xs k (by omega)]; exact hkx
    exact ⟨_, h1.trans (List.getElem?_eq_getElem h2)⟩
   have hfr:=ho.frozenAt k
   have HS : Hid ((wr.setCell ⟨w.heap.size, k, none⟩ (.int .i64 (xs.getD k 0))).ownsRow w.heap.size 3 1 (.slice (some ⟨w.heap.size, 0, none⟩) n n) n (ihalf xs (k + 1))):=by
    rw [← ihalf_set xs k hkx]; exact (ho.stored k _).1
   have HG : Hid (Below w.heap.size w (wr.setCell ⟨w.heap.size, k, none⟩ (.int .i64 (xs.getD k 0)))):=hbel.setCell (Nat.le_refl _) _
   clear ha ho hbel hc0
   generalize xs.getD k 0 = d at *
   go_wp2
   go_roundw
   case rel => exact ⟨k + 1, by omega, by go_num, HS.out, HG.out⟩
   case measure => simp [intOf]; omega
  have hkn : k = n:=by omega
  have HO : Hid (OI wr w.heap.size (.slice (some ⟨w.heap.size, 0, none⟩) n n) xs):=by
   have h1:=ihalf_all xs
   rw [Hn.out] at h1
   unfold OI Hid
   rw [Hn.out, ← h1, ← hkn]; rw [← hkn] at ho; exact ho
  clear ha ho
  go_wp2
  go_ret
  exact ⟨_, rfl, HO.out, hbel⟩

theorem szIntS_yes (ao : Option Addr) (n ca : Nat) (left : Int) (w : World) (hn : (n : Int) ≤ left) (hl : left ≤ 1048576) :
 Calls Try.prog 32 #[.slice ao n ca,.int .i64 left] w fun e w' => e = .returned (.int .i64 (left - n)) ∧ w' = w := by
 have hd : decide (left - (n : Int) < 0) = false:=by simp; omega
 go_enter Try.func32, Try.ntmps32
 go_wp2
 go_ret
 exact ⟨rfl, rfl⟩
theorem szIntS_no (ao : Option Addr) (n ca : Nat) (left : Int) (w : World) (h0 : 0 ≤ left) (hn : left < n) (hl : left ≤ 1048576) (hm : n ≤ 9223372036854775807) :
 Calls Try.prog 32 #[.slice ao n ca,.int .i64 left] w fun e w' => e = .returned (.int .i64 (-1)) ∧ w' = w := by
 have hd : decide (left - (n : Int) < 0) = true:=by simp; omega
 go_enter Try.func32, Try.ntmps32
 go_wp2
 go_ret
 exact ⟨rfl, rfl⟩
structure Kp (w w' : World) (X : Nat → Prop) : Prop where
 os : w'.os = w.os
 tape : w'.tape = w.tape
 output : w'.output = w.output
 size : w.heap.size ≤ w'.heap.size
 block : ∀ k, k < w.heap.size → ¬ X k → w'.heap[k]? = w.heap[k]?
theorem Kp.refl (w : World) (X : Nat → Prop) : Kp w w X := ⟨rfl, rfl, rfl, Nat.le_refl _, fun _ _ _ => rfl⟩
theorem Kp.trans {a b c : World} {X : Nat → Prop} (h : Kp a b X) (k : Kp b c X) : Kp a c X :=
 ⟨k.os.trans h.os, k.tape.trans h.tape, k.output.trans h.output, Nat.le_trans h.size k.size, fun i hi hx => (k.block i (Nat.lt_of_lt_of_le hi h.size) hx).trans (h.block i hi hx)⟩
theorem Kp.mono {a b : World} {X Y : Nat → Prop} (h : Kp a b X) (hxy : ∀ k, X k → Y k) : Kp a b Y := ⟨h.os, h.tape, h.output, h.size, fun k hk hy => h.block k hk (fun hx => hy (hxy k hx))⟩
theorem Below.kpOf {w w' : World} (h : Below w.heap.size w w') (X : Nat → Prop) : Kp w w' X := ⟨h.os, h.tape, h.output, h.size, fun k hk _ => h.block k hk⟩
theorem kp_grown {w w' : World} {row : Option Nat} (h : w.grownBy w' row) : Kp w w' (fun k => row = some k) := ⟨h.os, h.tape, h.output, h.size, fun k hk hx => h.block k hk (fun e => hx e.symm)⟩
theorem Kp.cell {w w' : World} {X : Nat → Prop} (h : Kp w w' X) {a : Addr} {v : Value} (hc : w.cell? a = some v) (hx : ¬ X a.block) : w'.cell? a = some v :=
 (World.cell?_of_block (h.block a.block (cell_lt hc) hx)).trans hc
theorem Below.kp {B : Nat} {a w w' : World} {X : Nat → Prop} (h : Below B a w) (k : Kp w w' X) (hB : B ≤ w.heap.size) (hx : ∀ k, X k → B ≤ k) : Below B a w' :=
 ⟨k.os.trans h.os, k.tape.trans h.tape, k.output.trans h.output, Nat.le_trans h.size k.size, fun i hi => (k.block i (by omega) (fun h' => by have := hx i h'; omega)).trans (h.block i hi)⟩
theorem OI.kp {w w' : World} {base : Nat} {X : Nat → Prop} {v : Value} {xs : List Int} (h : OI w base v xs) (k : Kp w w' X) (hv : ∀ k, v.ownBlock = some k → ¬ X k) : OI w' base v xs := by
 refine ⟨h.1, ?_⟩
 rcases h.2 with hn | ⟨g, cap, cur, rfl, hb, hgg, rest⟩
 ·exact .inl hn
 refine .inr ⟨g, cap, cur, rfl, hb, ?_, rest⟩
 rw [k.block g (Array.getElem?_eq_some_iff.1 hgg).1 (hv g rfl)]
 exact hgg

theorem OI.mono {w : World} {base base' : Nat} {v : Value} {xs : List Int} (h : OI w base v xs) (hb : base' ≤ base) : OI w base' v xs := by
 refine ⟨h.1, ?_⟩
 rcases h.2 with hn | ⟨g, cap, cur, rfl, hg, rest⟩
 ·exact .inl hn
 exact .inr ⟨g, cap, cur, rfl, Nat.le_trans hb hg, rest⟩

theorem OI.form {w : World} {base : Nat} {v : Value} {xs : List Int} (h : OI w base v xs) : ∃ ao ca, v = .slice ao xs.length ca := by
 rcases h.2 with ⟨rfl, h0⟩ | ⟨g, cap, cur, rfl, _⟩
 ·exact ⟨none, 0, by rw [h0]⟩
 exact ⟨_, _, rfl⟩

def Loc2 (w : World) (g : Nat) (a b : Value) : Prop := ∃ t, w.heap[g]? = some (.cells #[a, b] t (0, 0))
theorem Loc2.lt {w : World} {g : Nat} {a b : Value} (h : Loc2 w g a b) : g < w.heap.size := by obtain ⟨t, h⟩ := h; exact (Array.getElem?_eq_some_iff.1 h).1
theorem Loc2.cells {w : World} {g : Nat} {a b : Value} (h : Loc2 w g a b) : w.cell? ⟨g, 0, none⟩ = some a ∧ w.cell? ⟨g, 1, none⟩ = some b ∧ w.frozen? ⟨g, 0, none⟩ = false ∧ w.frozen? ⟨g, 1, none⟩ = false := by
 obtain ⟨t, h⟩:=h
 refine ⟨?_, ?_, frozen_of_row w g 0 _ t h, frozen_of_row w g 1 _ t h⟩
 ·rw [cell_of_row w g 0 _ t (0, 0) h]; rfl
 rw [cell_of_row w g 1 _ t (0, 0) h]; rfl
theorem Loc2.below {w w' : World} {g B : Nat} {a b : Value} (h : Loc2 w g a b) (hb : Below B w w') (hg : g < B) : Loc2 w' g a b := by obtain ⟨t, h⟩ := h; exact ⟨t, (hb.block g hg).trans h⟩
theorem Loc2.kp {w w' : World} {g : Nat} {X : Nat → Prop} {a b : Value} (h : Loc2 w g a b) (k : Kp w w' X) (hg : ¬ X g) : Loc2 w' g a b := by have hl := h.lt; obtain ⟨t, h⟩ := h; exact ⟨t, (k.block g hl hg).trans h⟩
theorem Loc2.alloc {w : World} {g : Nat} {a b : Value} (h : Loc2 w g a b) (o : Obj) : Loc2 (w.alloc o) g a b := h.kp (X := fun _ => False) (Below.kpOf ((Below.refl _ _).alloc (Nat.le_refl _) o) _) (fun h => h)
theorem Loc2.drewN {w : World} {g : Nat} {a b : Value} (h : Loc2 w g a b) (n : Nat) : Loc2 (w.drewN n) g a b := h
abbrev lv (a b : Value) : Value := .agg #[a, b]
structure OL (w : World) (lo hi : Nat) (a b : Value) (xs ys : List Int) : Prop where
 has : OI w lo a xs
 next : OI w lo b ys
 top : ∀ k, a.ownBlock = some k → k < hi
 top' : ∀ k, b.ownBlock = some k → k < hi
 ne : ∀ k, a.ownBlock = some k → b.ownBlock ≠ some k
theorem OL.kp {w w' : World} {lo hi : Nat} {X : Nat → Prop} {a b : Value} {xs ys : List Int} (h : OL w lo hi a b xs ys) (k : Kp w w' X) (hx : ∀ k, lo ≤ k → k < hi → ¬ X k) : OL w' lo hi a b xs ys :=
 ⟨h.has.kp k (fun j hj => hx j (World.ownsRow.lt h.has j hj).1 (h.top j hj)), h.next.kp k (fun j hj => hx j (World.ownsRow.lt h.next j hj).1 (h.top' j hj)), h.top, h.top', h.ne⟩
theorem OL.below {w w' : World} {lo hi : Nat} {a b : Value} {xs ys : List Int} (h : OL w lo hi a b xs ys) (hb : Below w.heap.size w w') : OL w' lo hi a b xs ys := h.kp (Below.kpOf hb (fun _ => False)) (fun _ _ _ h => h)
theorem OL.alloc {w : World} {lo hi : Nat} {a b : Value} {xs ys : List Int} (h : OL w lo hi a b xs ys) (o : Obj) : OL (w.alloc o) lo hi a b xs ys := h.below ((Below.refl _ _).alloc (Nat.le_refl _) _)
theorem OL.ri {w : World} {lo hi : Nat} {a b : Value} {xs ys : List Int} (h : OL w lo hi a b xs ys) (hl : xs.length ≤ 4194304) (hm : ys.length ≤ 4194304) : RI w a xs ∧ RI w b ys := ⟨h.has.ri hl, h.next.ri hm⟩
theorem OL.mono {w : World} {lo hi lo' hi' : Nat} {a b : Value} {xs ys : List Int} (h : OL w lo hi a b xs ys) (h1 : lo' ≤ lo) (h2 : hi ≤ hi') : OL w lo' hi' a b xs ys :=
 ⟨h.has.mono h1, h.next.mono h1, fun k hk => Nat.lt_of_lt_of_le (h.top k hk) h2, fun k hk => Nat.lt_of_lt_of_le (h.top' k hk) h2, h.ne⟩
theorem Below.set {B : Nat} {a w : World} (h : Below B a w) {g : Nat} (j : Nat) (u : Value) (hg : B ≤ g) : Below B a (w.setCell ⟨g, j, none⟩ u) := Below.setCell h (p := ⟨g, j, none⟩) hg u
theorem set_kp (w : World) (g j : Nat) (u : Value) : Kp w (w.setCell ⟨g, j, none⟩ u) (fun k => k = g) :=
 ⟨rfl, rfl, rfl, by simp, fun k _ hk => heap_setCell_other w ⟨g, j, none⟩ k u hk⟩
def imarks (k0 n : Nat) : List Int := (List.range n).map fun (i : Nat) => (k0 : Int) + (i : Int)
theorem imarks_len (k0 n : Nat) : (imarks k0 n).length = n := by simp [imarks]
theorem imarks_get (k0 n i : Nat) (h : i < n) : (imarks k0 n).getD i 0 = (k0 : Int) + (i : Int) := by simp [imarks, h]
theorem imarks_succ (k0 n : Nat) : imarks k0 (n + 1) = imarks k0 n ++ [(k0 : Int) + (n : Int)] := by simp [imarks, List.range_succ]
def imixed (k0 k : Nat) (vs : List Value) : List Value := (imarks k0 k).map (Value.int .i64) ++ vs.drop k
theorem imixed_zero (k0 : Nat) (vs : List Value) : imixed k0 0 vs = vs := by simp [imixed, imarks]
theorem imixed_all (k0 : Nat) (vs : List Value) : imixed k0 vs.length vs = (imarks k0 vs.length).map (Value.int .i64) := by simp [imixed]
theorem imixed_get (k0 k : Nat) (vs : List Value) (h : k < vs.length) : (imixed k0 k vs)[k]? = some (vs[k]) := by
 simp [imixed, List.getElem?_append, imarks_len, h]
theorem imixed_set (k0 k : Nat) (vs : List Value) (h : k < vs.length) : (imixed k0 k vs).set k (.int .i64 ((k0 : Int) + (k : Int))) = imixed k0 (k + 1) vs := by
 unfold imixed
 rw [imarks_succ, List.set_append_right _ _ (by simp [imarks_len]), List.length_map, imarks_len, Nat.sub_self, List.drop_eq_getElem_cons h, List.set_cons_zero]
 simp

theorem imark_row (base g n cap k0 : Nat) (vs : List Value) (w : World) (hn : n ≤ 4194304) (hk0 : k0 ≤ 100000000) (h : w.ownsRow base 3 1 (.slice (some ⟨g, 0, none⟩) n cap) n vs) :
 Calls Try.prog 25 #[.slice (some ⟨g, 0, none⟩) n cap,.int .i64 k0] w fun e w' => e = .returned (.int .i64 (k0 + n)) ∧
  w'.ownsRow base 3 1 (.slice (some ⟨g, 0, none⟩) n cap) n ((imarks k0 n).map (Value.int .i64)) ∧ w.grownBy w' (some g) := by
 have hv0 : vs.length = n:=by simpa using h.1
 have Hv : Hid (vs.length = n):=hv0
 clear hv0
 go_enter Try.func25, Try.ntmps25
 go_wp2
 go_loopw [1, 5] (fun c i wr => ∃ k : Nat, k ≤ n ∧ i = .int .i64 k ∧ c = .int .i64 (k0 + k) ∧ wr.ownsRow base 3 1 (.slice (some ⟨g, 0, none⟩) n cap) n (imixed k0 k vs) ∧ w.grownBy wr (some g)) (fun _ i _ => n - (intOf i).toNat)
 case atStart => exact ⟨0, Nat.zero_le _, rfl, by go_num, by rw [imixed_zero]; exact h, grown_refl _ _⟩
 case round =>
  obtain ⟨k, hk, rfl, rfl, ho, hg⟩:=hrel
  by_cases hlt : k < n
  ·have hkv : k < vs.length:=by rw [Hv.out]; exact hlt
   obtain ⟨u, hu⟩ : ∃ u, wr.cell? ⟨g, k, none⟩ = some u:=⟨_, (ho.cellAt k (by omega)).trans (imixed_get k0 k vs hkv)⟩
   have hfr:=ho.frozenAt k
   have hs:=ho.stored k (.int .i64 ((k0 : Int) + (k : Int)))
   have HS : Hid ((wr.setCell ⟨g, k, none⟩ (.int .i64 ((k0 : Int) + (k : Int)))).ownsRow base 3 1 (.slice (some ⟨g, 0, none⟩) n cap) n (imixed k0 (k + 1) vs)):=by
    rw [← imixed_set k0 k vs hkv]; exact hs.1
   have HG : Hid (w.grownBy (wr.setCell ⟨g, k, none⟩ (.int .i64 ((k0 : Int) + (k : Int)))) (some g)):=grown_trans hg hs.2
   clear hs ho hg
   go_wp2
   go_roundw
   case rel => exact ⟨k + 1, by omega, by go_num, by go_num, HS.out, HG.out⟩
   case measure => simp [intOf]; omega
  have hkn : k = n:=by omega
  have HO : Hid (wr.ownsRow base 3 1 (.slice (some ⟨g, 0, none⟩) n cap) n ((imarks k0 n).map (Value.int .i64))):=by
   have:=imixed_all k0 vs; rw [Hv.out] at this; rw [← this, ← hkn]; rw [← hkn] at ho; exact ho
  clear ho
  subst hkn
  go_wp2
  go_ret
  exact ⟨rfl, HO.out, hg⟩

theorem iheld_any (v : Value) (n k0 : Nat) (w : World) (hk0 : k0 ≤ 100000000) (h : RI w v (imarks k0 n)) :
 Calls Try.prog 26 #[v,.int .i64 k0] w fun e w' => e = .returned (.int .i64 (k0 + n)) ∧ w' = w := by
 obtain ⟨hl, ao, ca, rfl, ha⟩:=h
 rw [imarks_len] at hl ha ⊢
 go_enter Try.func26, Try.ntmps26
 go_wp2
 go_loop [1, 5] (fun c i => ∃ k : Nat, k ≤ n ∧ i = .int .i64 k ∧ c = .int .i64 (k0 + k)) (fun _ i => n - (intOf i).toNat)
 case atStart => exact ⟨0, Nat.zero_le _, rfl, by go_num⟩
 case round =>
  obtain ⟨k, hk, rfl, rfl⟩:=hrel
  by_cases hlt : k < n
  ·rcases ha with ha | ⟨b, off, rfl, ha⟩
   ·have:=congrArg List.length ha; rw [imarks_len] at this; simp at this; omega
   have ha':=ha k hlt
   rw [imarks_get k0 n k hlt] at ha'
   clear ha
   go_wp2
   go_round
   case rel => exact ⟨k + 1, by omega, by go_num, by go_num⟩
   case measure => simp [intOf]; omega
  have hkn : k = n:=by omega
  subst hkn
  clear ha
  go_wp2
  go_ret
  exact ⟨rfl, rfl⟩

theorem imark_none (w : World) (k0 : Nat) : Calls Try.prog 25 #[.slice none 0 0,.int .i64 k0] w fun e w' => e = .returned (.int .i64 k0) ∧ w' = w := by
 go_enter Try.func25, Try.ntmps25
 go_wp2
 refine wp_loop_rounds 1 ?_
 rw [rounds_succ]
 go_wp2
 go_ret
 exact ⟨rfl, rfl⟩

theorem imark_any (base k0 : Nat) (v : Value) (xs : List Int) (w : World) (hl : xs.length ≤ 4194304) (hk0 : k0 ≤ 100000000) (h : OI w base v xs) :
 Calls Try.prog 25 #[v,.int .i64 k0] w fun e w' => e = .returned (.int .i64 (k0 + xs.length)) ∧ OI w' base v (imarks k0 xs.length) ∧ w.grownBy w' v.ownBlock := by
 have h':=h
 rcases h.2 with ⟨rfl, h0⟩ | ⟨g, cap, cur, rfl, _⟩
 ·refine (imark_none w k0).mono ?_
  rintro e w' ⟨rfl, rfl⟩
  have hx : xs = []:=List.length_eq_zero_iff.1 h0
  subst hx
  exact ⟨by simp, World.ownsRow_nil _ _ _ _, grown_refl _ _⟩
 refine (imark_row base g xs.length cap k0 _ w hl hk0 h').mono ?_
 rintro e w' ⟨rfl, ho, hg⟩
 refine ⟨rfl, ?_, hg⟩
 unfold OI
 rw [imarks_len]
 exact ho
theorem ints_plain64 (xs : List Int) (u : Value) (h : u ∈ xs.map (Value.int .i64)) : u.oneCell' = true := by
 obtain ⟨x, _, rfl⟩:=List.mem_map.1 h; rfl

theorem inews_cells {w : World} {g off : Nat} {xs : List Int} (h : ∀ k, k < xs.length → w.cell? ⟨g, off + k, none⟩ = some (.int .i64 (xs.getD k 0))) :
 ∀ j u, (xs.map (Value.int .i64))[j]? = some u → w.cell? ((⟨g, off, none⟩ : Addr).add j) = some u := by
 intro j u hj
 rw [List.getElem?_map] at hj
 obtain ⟨x, hx, rfl⟩:=Option.map_eq_some_iff.1 hj
 have hlt:=(List.getElem?_eq_some_iff.1 hx).1
 have e : ((⟨g, off, none⟩ : Addr).add j) = ⟨g, off + j, none⟩:=by unfold Addr.add; split <;> simp_all
 rw [e, h j hlt]
 simp [List.getD_eq_getElem?_getD, hx]
def PI (w : World) (v : Value) (xs : List Int) : Prop :=
 ∃ ao cap, v = .slice ao xs.length cap ∧ (xs = [] ∨ ∃ ad : Addr, ao = some ad ∧ ∀ j u, (xs.map (Value.int .i64))[j]? = some u → w.cell? (ad.add j) = some u)
theorem PI.below {w w' : World} {v : Value} {xs : List Int} (h : PI w v xs) (hb : Below w.heap.size w w') : PI w' v xs := by
 obtain ⟨ao, cap, rfl, h⟩:=h
 refine ⟨ao, cap, rfl, ?_⟩
 rcases h with h | ⟨ad, rfl, h⟩
 ·exact .inl h
 exact .inr ⟨ad, rfl, fun j u hj => (hb.cell (cell_lt (h j u hj))).trans (h j u hj)⟩
theorem RI.pi {w : World} {v : Value} {xs : List Int} (h : RI w v xs) : PI w v xs := by
 obtain ⟨hl, ao, cap, rfl, h⟩:=h
 refine ⟨ao, cap, rfl, ?_⟩
 rcases h with h | ⟨b, off, rfl, h⟩
 ·exact .inl h
 exact .inr ⟨_, rfl, inews_cells h⟩
theorem RI.form {w : World} {v : Value} {xs : List Int} (h : RI w v xs) : ∃ ao ca, v = .slice ao xs.length ca := by obtain ⟨_, ao, ca, e, _⟩ := h; exact ⟨ao, ca, e⟩
theorem RI.at {w : World} {ao : Option Addr} {n ca : Nat} {xs : List Int} (h : RI w (.slice ao n ca) xs) (k : Nat) (hk : k < xs.length) : ∃ b off, ao = some ⟨b, off, none⟩ ∧ w.cell? ⟨b, off + k, none⟩ = some (.int .i64 (xs.getD k 0)) := by
 obtain ⟨_, ao', ca', e, h⟩:=h
 cases e
 rcases h with rfl | ⟨b, off, rfl, h⟩
 ·simp at hk
 exact ⟨b, off, rfl, h k hk⟩
theorem PI.take {w : World} {ao : Option Addr} {n cap : Nat} {xs : List Int} (h : PI w (.slice ao n cap) xs) (k : Nat) (hk : k ≤ n) (cap' : Nat) : PI w (.slice ao k cap') (xs.take k) := by
 obtain ⟨ao', cap2, e, h⟩:=h
 cases e
 refine ⟨ao, cap', by rw [List.length_take]; congr 1; omega, ?_⟩
 rcases h with rfl | ⟨ad, rfl, h⟩
 ·left; simp
 refine .inr ⟨ad, rfl, fun j u hj => h j u ?_⟩
 rw [List.map_take, List.getElem?_take] at hj
 split at hj
 ·exact hj
 cases hj
theorem PI.drop {w : World} {ao : Option Addr} {n cap : Nat} {xs : List Int} (h : PI w (.slice ao n cap) xs) (k : Nat) (cap' : Nat) {bo : Option Addr} (hb : k < n → bo = ao.map (·.add (k * 1))) : PI w (.slice bo (n - k) cap') (xs.drop k) := by
 obtain ⟨ao', cap2, e, h⟩:=h
 cases e
 refine ⟨bo, cap', by rw [List.length_drop], ?_⟩
 by_cases hlt : k < xs.length
 ·rcases h with rfl | ⟨ad, rfl, h⟩
  ·simp at hlt
  refine .inr ⟨ad.add (k * 1), hb hlt, fun j u hj => ?_⟩
  rw [List.map_drop, List.getElem?_drop] at hj
  have:=h _ u hj
  rw [← this]
  congr 1
  obtain ⟨b, o, s⟩:=ad
  unfold Addr.add
  split <;> split <;> simp_all <;> omega
 left; rw [List.drop_of_length_le (by omega)]
theorem grown_same (w : World) (row : Option Nat) : w.grownBy w row := ⟨rfl, rfl, rfl, Nat.le_refl _, fun _ _ _ => rfl⟩
theorem run_append_none1 (ty : TypeId) (base cap : Nat) (v : Value) (n : Nat) (xs : List Value) (w : World) (hown : w.ownsRow base 3 1 v n xs) :
 (Builtin.append_ #[34, 34] ty #[v,.slice none 0 cap]).run Try.prog w = .ok v w := by
 obtain ⟨i0, hi, hz0, hz1, hz2⟩:=info_parts Try.info3
 rcases hown.2 with ⟨rfl, rfl⟩ | ⟨g, cp, cur, rfl, _, _, hnc, _⟩
 ·simp [Builtin.append_, run_underlying Try.underlying34, sizeOf, typeInfo, hi, Builtin.lenOf, Builtin.firstCells]
 simp [Builtin.append_, run_underlying Try.underlying34, sizeOf, typeInfo, hi, Builtin.lenOf, Builtin.firstCells, hnc, storeCells]
theorem append_ints {ops : Array Oper} {rest : List Oper} {o : Oper} {a : Act} {Q : Exit → Act → World → Prop} {w : World} (hgd : o.guard = none) (s x : Operand)
 (ho : o.op = .call { callee := .builtin .append, args := #[s, x], argTypes := #[34, 34] }) (base : Nat) (v u : Value) (xs ys : List Int) (hs : a.eval s = v) (hx : a.eval x = u)
 (hown : OI w base v xs) (hp : PI w u ys) (hl : xs.length + ys.length ≤ 16777216) (hbase : base ≤ w.heap.size)
 (h : ∀ v' w', OI w' base v' (xs ++ ys) → w.grownBy w' v.ownBlock → (v'.ownBlock = v.ownBlock ∨ v'.ownBlock = some w.heap.size) → wpList Try.prog ops Q rest (a.put o.dst v') w') :
 wpList Try.prog ops Q (o :: rest) a w := by
 obtain ⟨i0, hi, hz0, hz1, hz2⟩:=info_parts Try.info3
 obtain ⟨ao, cap, rfl, hp⟩:=hp
 match ao, hx with
 | none, hx =>
  have hy : ys = []:=by rcases hp with h | ⟨ad, e, _⟩; exact h; cases e
  subst hy
  refine wpList_plain hgd fun K hK => ?_
  have hrun:=run_append_none1 o.type base cap v xs.length (xs.map (Value.int .i64)) w hown
  unfold Oper.wp
  simp only [List.length_nil] at hx
  simp [execOp, ho, resolve, invoke, builtin, hs, hx, hrun, Result.andThen]
  exact hK _ _ (h v w (by simpa using hown) (grown_same _ _) (.inl rfl))
 | some ad, hx =>
  have hn : ∀ j u, (ys.map (Value.int .i64))[j]? = some u → w.cell? (ad.add j) = some u:=by
   rcases hp with rfl | ⟨ad', e, h⟩
   ·intro j u hj; simp at hj
   cases e; exact h
  refine wpList_append_own_at _ hgd s x 34 ho base 3 i0 (.int .i64 0) 1 8 Try.underlying34 hi hz0 hz1 hz2 rfl (by decide) v xs.length (xs.map (Value.int .i64)) hs hown ad ys.length cap (ys.map (Value.int .i64)) hx (by simp) hn (ints_plain64 ys) (by unfold maxLen; omega) (by omega) hbase ?_
  intro v' w' ho' hg' _ hb'
  refine h v' w' ?_ hg' hb'
  unfold OI
  rw [List.map_append, List.length_append]
  exact ho'
theorem icut_to (ao : Option Addr) (n ca k : Nat) (w : World) (hk : k ≤ ca) :
 (Instr.slice 34 (.slice ao n ca) none (some (.int .i64 (k : Int))) none).run Try.prog w = .ok (.slice ao k ca) w := by
 obtain ⟨i0, hi, hz0, hz1, hz2⟩:=info_parts Try.info3
 rw [run_slice_h (ht := Try.underlying34) (kh := .i64) (h := (k : Int)) (h0 := by omega) (h2 := by omega)]
 have he : Try.prog.elem 34 = 3:=by simp [Program.elem, Try.underlying34]
 have hs : (sizeOf (Try.prog.elem 34)).run Try.prog w = .ok 1 w:=by rw [he]; simp [sizeOf, typeInfo, hi, hz1]
 rw [hs]
 simp [sliced, Result.andThen]
 intro _; cases ao <;> rfl
theorem icut_from (ao : Option Addr) (n ca k : Nat) (w : World) (hk : k ≤ n) :
 (Instr.slice 34 (.slice ao n ca) (some (.int .i64 (k : Int))) none none).run Try.prog w = .ok (.slice (if ca = k then ao else ao.map (·.add (k * 1))) (n - k) (ca - k)) w := by
 obtain ⟨i0, hi, hz0, hz1, hz2⟩:=info_parts Try.info3
 rw [run_slice_l (ht := Try.underlying34) (kl := .i64) (l := (k : Int)) (h0 := by omega) (h1 := by omega)]
 have he : Try.prog.elem 34 = 3:=by simp [Program.elem, Try.underlying34]
 have hs : (sizeOf (Try.prog.elem 34)).run Try.prog w = .ok 1 w:=by rw [he]; simp [sizeOf, typeInfo, hi, hz1]
 rw [hs]
 simp [sliced, Result.andThen]
def Cap (v : Value) : Prop := ∃ ao n cap, v = .slice ao n cap ∧ n ≤ cap ∧ cap ≤ maxLen
theorem OI.cap {w : World} {base : Nat} {v : Value} {xs : List Int} (h : OI w base v xs) : Cap v := by
 rcases h.2 with ⟨rfl, h0⟩ | ⟨g, cap, cur, rfl, _, _, h1, h2, h3⟩
 ·exact ⟨_, _, _, rfl, by simp, by unfold maxLen; omega⟩
 exact ⟨_, _, _, rfl, by first | exact h1 | exact h2 | exact h3 | omega, by first | exact h2 | exact h3 | omega⟩
def Loc (w : World) (g : Nat) (cs : Array Value) : Prop := ∃ t, w.heap[g]? = some (.cells cs t (0, 0))
theorem loc_at (w : World) (cs : Array Value) (t : TypeId) {g : Nat} (h : w.heap.size = g) : Loc (w.alloc (.cells cs t)) g cs := h ▸ ⟨t, heap_alloc_new w _⟩
theorem Loc.lt {w : World} {g : Nat} {cs : Array Value} (h : Loc w g cs) : g < w.heap.size := by obtain ⟨t, h⟩ := h; exact (Array.getElem?_eq_some_iff.1 h).1
theorem Loc.cell {w : World} {g : Nat} {cs : Array Value} (h : Loc w g cs) (j : Nat) {v : Value} (hj : cs[j]? = some v) : w.cell? ⟨g, j, none⟩ = some v := by
 obtain ⟨t, h⟩:=h
 rw [cell_of_row w g j _ t (0, 0) h]; exact hj
theorem Loc.frozen {w : World} {g : Nat} {cs : Array Value} (h : Loc w g cs) (j : Nat) : w.frozen? ⟨g, j, none⟩ = false := by obtain ⟨t, h⟩ := h; exact frozen_of_row w g j _ t h
theorem Loc.below {w w' : World} {g B : Nat} {cs : Array Value} (h : Loc w g cs) (hb : Below B w w') (hg : g < B) : Loc w' g cs := by obtain ⟨t, h⟩ := h; exact ⟨t, (hb.block g hg).trans h⟩
theorem Loc.kp {w w' : World} {g : Nat} {X : Nat → Prop} {cs : Array Value} (h : Loc w g cs) (k : Kp w w' X) (hg : ¬ X g) : Loc w' g cs := by have hl := h.lt; obtain ⟨t, h⟩ := h; exact ⟨t, (k.block g hl hg).trans h⟩
theorem Loc.alloc {w : World} {g : Nat} {cs : Array Value} (h : Loc w g cs) (o : Obj) : Loc (w.alloc o) g cs := h.kp (X := fun _ => False) (Below.kpOf ((Below.refl _ _).alloc (Nat.le_refl _) o) _) (fun h => h)
theorem Loc.drewN {w : World} {g : Nat} {cs : Array Value} (h : Loc w g cs) (n : Nat) : Loc (w.drewN n) g cs := h
theorem Loc.set {w : World} {g : Nat} {cs : Array Value} (h : Loc w g cs) (j : Nat) (u : Value) {cs' : Array Value} (e : cs.setIfInBounds j u = cs') : Loc (w.setCell ⟨g, j, none⟩ u) g cs' := by obtain ⟨t, h⟩ := h; exact ⟨t, by rw [heap_setCell_same w g j _ t u h, e]⟩
abbrev r4 (a b c d : Int) : Array Value := #[.int .i64 a,.int .i64 b,.int .i64 c,.int .i64 d]
theorem Loc.up {w w' : World} {g : Nat} {cs : Array Value} (h : Loc w g cs) (b : Below w.heap.size w w') : Loc w' g cs := Loc.below h b h.lt
theorem bx1 (w : World) (c : Array Value) (T : TypeId) : ∃ x, w.alloc (.cells c T) = x ∧ Below w.heap.size w x ∧ Loc x w.heap.size c ∧ w.heap.size + 1 ≤ x.heap.size := ⟨_, rfl, (Below.refl _ _).alloc (Nat.le_refl _) _, loc_at w _ _ rfl, by simp⟩
theorem bx2 (w : World) (c : Array Value) (T : TypeId) (d : Array Value) (U : TypeId) : ∃ x, (w.alloc (.cells c T)).alloc (.cells d U) = x ∧ Below w.heap.size w x ∧ Loc x w.heap.size c ∧ Loc x (w.heap.size + 1) d ∧ w.heap.size + 1 + 1 ≤ x.heap.size := ⟨_, rfl, ((Below.refl _ _).alloc (Nat.le_refl _) _).alloc (by simp) _, (loc_at w _ _ rfl).alloc _, loc_at (w.alloc _) _ _ (by simp), by simp⟩
theorem bx3 (w : World) (c : Array Value) (T : TypeId) (d : Array Value) (U : TypeId) (e : Array Value) (V : TypeId) : ∃ x, ((w.alloc (.cells c T)).alloc (.cells d U)).alloc (.cells e V) = x ∧ Below w.heap.size w x ∧ Loc x w.heap.size c ∧ Loc x (w.heap.size + 1) d ∧ Loc x (w.heap.size + 1 + 1) e ∧ w.heap.size + 1 + 1 + 1 ≤ x.heap.size := ⟨_, rfl, (((Below.refl _ _).alloc (Nat.le_refl _) _).alloc (by simp) _).alloc (by simp; omega) _, ((loc_at w _ _ rfl).alloc _).alloc _, (loc_at (w.alloc _) _ _ (by simp)).alloc _, loc_at ((w.alloc _).alloc _) _ _ (by simp), by simp⟩
theorem kl {w : World} {b : Nat} {cs : Array Value} (A : Loc w b cs) : ∀ w', Below w.heap.size w w' → Loc w' b cs := fun _ h => A.up h
theorem ka {w : World} {S T : World → Prop} (h : ∀ w', Below w.heap.size w w' → S w') (g : ∀ w', Below w.heap.size w w' → T w') : ∀ w', Below w.heap.size w w' → S w' ∧ T w' := fun w' b => ⟨h w' b, g w' b⟩
theorem kw {w : World} {S : World → Prop} (h : ∀ w', Below w.heap.size w w' → S w') : Hid (∀ w', Below w.heap.size w w' → Below w.heap.size w w' ∧ S w') := fun w' b => ⟨b, h w' b⟩
theorem kc2 {w : World} {b : Nat} {cs : Array Value} (A : Loc w b cs) (i0 i1 : Nat) {u0 u1 : Value} (h0 : cs[i0]? = some u0 := by rfl) (h1 : cs[i1]? = some u1 := by rfl) : ∀ w', Below w.heap.size w w' → w'.cell? ⟨b, i0, none⟩ = some u0 ∧ w'.cell? ⟨b, i1, none⟩ = some u1 := fun _ h => ⟨(A.up h).cell i0 h0, (A.up h).cell i1 h1⟩
theorem cc2 {w : World} {b : Nat} {cs : Array Value} (A : Loc w b cs) (i0 i1 : Nat) {u0 u1 : Value} (h0 : cs[i0]? = some u0 := by rfl) (h1 : cs[i1]? = some u1 := by rfl) : w.cell? ⟨b, i0, none⟩ = some u0 ∧ w.cell? ⟨b, i1, none⟩ = some u1 := ⟨A.cell i0 h0, A.cell i1 h1⟩
theorem kc3 {w : World} {b : Nat} {cs : Array Value} (A : Loc w b cs) (i0 i1 i2 : Nat) {u0 u1 u2 : Value} (h0 : cs[i0]? = some u0 := by rfl) (h1 : cs[i1]? = some u1 := by rfl) (h2 : cs[i2]? = some u2 := by rfl) : ∀ w', Below w.heap.size w w' → w'.cell? ⟨b, i0, none⟩ = some u0 ∧ w'.cell? ⟨b, i1, none⟩ = some u1 ∧ w'.cell? ⟨b, i2, none⟩ = some u2 := fun _ h => ⟨(A.up h).cell i0 h0, (A.up h).cell i1 h1, (A.up h).cell i2 h2⟩
theorem cc3 {w : World} {b : Nat} {cs : Array Value} (A : Loc w b cs) (i0 i1 i2 : Nat) {u0 u1 u2 : Value} (h0 : cs[i0]? = some u0 := by rfl) (h1 : cs[i1]? = some u1 := by rfl) (h2 : cs[i2]? = some u2 := by rfl) : w.cell? ⟨b, i0, none⟩ = some u0 ∧ w.cell? ⟨b, i1, none⟩ = some u1 ∧ w.cell? ⟨b, i2, none⟩ = some u2 := ⟨A.cell i0 h0, A.cell i1 h1, A.cell i2 h2⟩
abbrev qv (n : Int) (s : ByteArray) (v : Value) : Value := .agg #[.int .i64 n,.string s, v]
theorem qalloc (w : World) (o : Obj) : Below w.heap.size w (w.alloc o) := (Below.refl _ _).alloc (Nat.le_refl _) _
theorem qalloc2 (w : World) (o p : Obj) : Below w.heap.size w ((w.alloc o).alloc p) := ((Below.refl _ _).alloc (Nat.le_refl _) _).alloc (by simp) _
abbrev Pt := Int × ByteArray × List Int
def zpt : Pt := (0, ⟨#[]⟩, [])
def phd (p : Pt) : Int × ByteArray := (p.1, p.2.1)
theorem Try.infoPt : (Try.prog.info? 36).map (fun i => (i.zero, i.size, i.bytes)) = some (some (.agg #[.int .i64 0,.string ⟨#[]⟩,.slice none 0 0]), 3, 48) := by kernel_rfl
def pcell (p : (Int × ByteArray) × Value) : List Value := [.int .i64 p.1.1, .string p.1.2, p.2]
def pcells (ps : List ((Int × ByteArray) × Value)) : List Value := ps.flatMap pcell
theorem pcells_cons (p : (Int × ByteArray) × Value) (ps : List ((Int × ByteArray) × Value)) : pcells (p :: ps) = .int .i64 p.1.1 :: .string p.1.2 :: p.2 :: pcells ps := by simp [pcells, pcell]
theorem pcells_len (ps : List ((Int × ByteArray) × Value)) : (pcells ps).length = ps.length * 3 := by
 induction ps with
 | nil => rfl
 | cons p ps ih => rw [pcells_cons]; simp only [List.length_cons, ih]; omega
theorem pcells_append (ps qs : List ((Int × ByteArray) × Value)) : pcells (ps ++ qs) = pcells ps ++ pcells qs := by simp [pcells]
theorem pcells_get (ps : List ((Int × ByteArray) × Value)) (k j : Nat) (hk : k < ps.length) (hj : j < 3) : (pcells ps)[k * 3 + j]? = (pcell (ps.getD k ((0, ⟨#[]⟩),.slice none 0 0)))[j]? := by
 induction ps generalizing k with
 | nil => simp at hk
 | cons p ps ih =>
  have e : pcells (p :: ps) = pcell p ++ pcells ps:=by simp [pcells]
  rw [e]
  cases k with
  | zero => rw [Nat.zero_mul, Nat.zero_add, List.getElem?_append_left (by simp [pcell]; exact hj)]; rfl
  | succ k =>
   rw [List.getElem?_append_right (by simp [pcell]; omega), show (pcell p).length = 3 from rfl, show (k + 1) * 3 + j - 3 = k * 3 + j from by omega, ih k (by simpa using hk)]
   rfl
structure OPtV (w : World) (base : Nat) (v : Value) (ps : List Pt) (vs : List Value) : Prop where
 len : vs.length = ps.length
 row : w.ownsRow base 36 3 v ps.length (pcells ((ps.map phd).zip vs))
 each : ∀ k, k < ps.length → OI w base (vs.getD k (.slice none 0 0)) (ps.getD k zpt).2.2
 apart : ∀ i j, i < j → j < ps.length → ∀ b, (vs.getD i (.slice none 0 0)).ownBlock = some b → (vs.getD j (.slice none 0 0)).ownBlock ≠ some b
def OPt (w : World) (base : Nat) (v : Value) (ps : List Pt) : Prop := ∃ vs, OPtV w base v ps vs
theorem pt_oi {w : World} {B B' n : Nat} {v u : Value} {cs : List Value} {ys : List Int} (h : w.ownsRow B 36 3 v n cs) (h' : OI w B' u ys) (b : Nat) (hv : v.ownBlock = some b) : u.ownBlock ≠ some b := by
 rcases h.2 with ⟨rfl, _⟩ | ⟨g, cap, cur, rfl, _, hg, _⟩
 ·simp [Value.ownBlock] at hv
 rcases h'.2 with ⟨rfl, _⟩ | ⟨g', cap', cur', rfl, _, hg', _⟩
 ·simp [Value.ownBlock]
 intro e
 simp [Value.ownBlock] at e hv
 subst hv
 rw [e, hg] at hg'
 simp at hg'
theorem OPtV.below {w w' : World} {base : Nat} {v : Value} {ps : List Pt} {vs : List Value} (h : OPtV w base v ps vs) (hb : Below w.heap.size w w') : OPtV w' base v ps vs :=
 ⟨h.len, World.ownsRow.kept (row := none) h.row ⟨hb.os, hb.tape, hb.output, hb.size, fun k hk _ => hb.block k hk⟩ (by cases v.ownBlock <;> simp), fun k hk => (h.each k hk).below hb, h.apart⟩
theorem OPt.below {w w' : World} {base : Nat} {v : Value} {ps : List Pt} (h : OPt w base v ps) (hb : Below w.heap.size w w') : OPt w' base v ps := by
 obtain ⟨vs, h⟩:=h; exact ⟨vs, h.below hb⟩
theorem OPtV.kp {w w' : World} {base : Nat} {X : Nat → Prop} {v : Value} {ps : List Pt} {vs : List Value} (h : OPtV w base v ps vs) (k : Kp w w' X) (hX : ∀ j, base ≤ j → j < w.heap.size → ¬ X j) : OPtV w' base v ps vs := by
 have rl:=World.ownsRow.lt h.row
 refine ⟨h.len, ?_, fun j hj => (h.each j hj).kp k (fun b hb => by have := World.ownsRow.lt (h.each j hj) b hb; exact hX b this.1 this.2), h.apart⟩
 rcases h.row with ⟨h1, ⟨e, h0⟩ | ⟨g, cap, cur, e, hg, hrow, rest⟩⟩
 ·exact ⟨h1, .inl ⟨e, h0⟩⟩
 have hlt:=rl g (by rw [e]; rfl)
 exact ⟨h1, .inr ⟨g, cap, cur, e, hg, (k.block g hlt.2 (hX g hlt.1 hlt.2)).trans hrow, rest⟩⟩
theorem OPt.kp {w w' : World} {base : Nat} {X : Nat → Prop} {v : Value} {ps : List Pt} (h : OPt w base v ps) (k : Kp w w' X) (hX : ∀ j, base ≤ j → j < w.heap.size → ¬ X j) : OPt w' base v ps := by
 obtain ⟨vs, h⟩:=h; exact ⟨vs, h.kp k hX⟩
theorem OPtV.mono {w : World} {base base' : Nat} {v : Value} {ps : List Pt} {vs : List Value} (h : OPtV w base v ps vs) (hb : base' ≤ base) : OPtV w base' v ps vs := by
 refine ⟨h.len, ?_, fun k hk => OI.mono (h.each k hk) hb, h.apart⟩
 obtain ⟨h1, h2⟩:=h.row
 refine ⟨h1, ?_⟩
 rcases h2 with h2 | ⟨g, cap, cur, e, hg, rest⟩
 ·exact .inl h2
 exact .inr ⟨g, cap, cur, e, Nat.le_trans hb hg, rest⟩
theorem OPt.mono {w : World} {base base' : Nat} {v : Value} {ps : List Pt} (h : OPt w base v ps) (hb : base' ≤ base) : OPt w base' v ps := by
 obtain ⟨vs, h⟩:=h; exact ⟨vs, h.mono hb⟩
theorem OPt.form {w : World} {base : Nat} {v : Value} {ps : List Pt} (h : OPt w base v ps) : ∃ ao ca, v = .slice ao ps.length ca := by
 obtain ⟨vs, h⟩:=h
 rcases h.row.2 with ⟨rfl, h0⟩ | ⟨g, cap, cur, rfl, _⟩
 ·exact ⟨none, 0, by rw [h0]⟩
 exact ⟨_, _, rfl⟩
def RPt (w : World) (v : Value) (ps : List Pt) : Prop :=
 ∃ ao cap, v = .slice ao ps.length cap ∧ (ps = [] ∨ ∃ g off, ao = some ⟨g, off, none⟩ ∧ ∀ k, k < ps.length → ∃ u, w.cell? ⟨g, off + k * 3, none⟩ = some (.int .i64 (ps.getD k zpt).1) ∧ w.cell? ⟨g, off + k * 3 + 1, none⟩ = some (.string (ps.getD k zpt).2.1) ∧ w.cell? ⟨g, off + k * 3 + 2, none⟩ = some u ∧ RI w u (ps.getD k zpt).2.2)
theorem pzip_get (ps : List Pt) (vs : List Value) (hl : vs.length = ps.length) (k : Nat) (hk : k < ps.length) : ((ps.map phd).zip vs).getD k ((0, ⟨#[]⟩),.slice none 0 0) = (phd (ps.getD k zpt), vs.getD k (.slice none 0 0)) := by
 rw [List.getD_eq_getElem?_getD, List.getElem?_eq_getElem (by simp; omega)]
 simp [List.getElem?_eq_getElem hk, List.getElem?_eq_getElem (show k < vs.length by omega)]
theorem pt_mem {ps : List Pt} {k : Nat} (hk : k < ps.length) : ps.getD k zpt ∈ ps := by
 rw [List.getD_eq_getElem?_getD, List.getElem?_eq_getElem hk]; exact List.getElem_mem hk
theorem OPt.rpt {w : World} {base : Nat} {v : Value} {ps : List Pt} (h : OPt w base v ps) (hs : ∀ p ∈ ps, p.2.2.length ≤ 4194304) : RPt w v ps := by
 obtain ⟨vs, h⟩:=h
 have hz : ((ps.map phd).zip vs).length = ps.length:=by simp [h.len]
 rcases h.row.2 with ⟨rfl, h0⟩ | ⟨g, cap, cur, rfl, _⟩
 ·exact ⟨none, 0, by rw [h0], .inl (List.length_eq_zero_iff.1 h0)⟩
 refine ⟨_, cap, rfl, .inr ⟨g, 0, rfl, fun k hk => ?_⟩⟩
 have c0:=World.ownsRow.cellAt h.row (k * 3 + 0) (by omega)
 have c1:=World.ownsRow.cellAt h.row (k * 3 + 1) (by omega)
 have c2:=World.ownsRow.cellAt h.row (k * 3 + 2) (by omega)
 rw [pcells_get _ k _ (by omega) (by omega), pzip_get ps vs h.len k hk] at c0 c1 c2
 refine ⟨_, ?_, ?_, ?_, (h.each k hk).ri (hs _ (pt_mem hk))⟩
 ·rw [Nat.zero_add]; exact c0
 ·rw [Nat.zero_add]; exact c1
 rw [Nat.zero_add]; exact c2
theorem RPt.below {w w' : World} {B : Nat} {v : Value} {ps : List Pt} (h : RPt w v ps) (hb : Below B w w') (hB : w.heap.size ≤ B := by exact Nat.le_refl _) : RPt w' v ps := by
 obtain ⟨ao, cap, rfl, h⟩:=h
 refine ⟨ao, cap, rfl, ?_⟩
 rcases h with h | ⟨g, off, rfl, h⟩
 ·exact .inl h
 refine .inr ⟨g, off, rfl, fun k hk => ?_⟩
 obtain ⟨u, c0, c1, c2, r⟩:=h k hk
 have hg : g < B:=Nat.lt_of_lt_of_le (cell_lt c0) hB
 exact ⟨u, (hb.cell (p := ⟨g, off + k * 3, none⟩) hg).trans c0, (hb.cell (p := ⟨g, off + k * 3 + 1, none⟩) hg).trans c1, (hb.cell (p := ⟨g, off + k * 3 + 2, none⟩) hg).trans c2, r.below hb hB⟩
theorem RPt.form {w : World} {v : Value} {ps : List Pt} (h : RPt w v ps) : ∃ ao ca, v = .slice ao ps.length ca := by obtain ⟨ao, ca, e, _⟩ := h; exact ⟨ao, ca, e⟩
theorem RPt.at {w : World} {ao : Option Addr} {n ca : Nat} {ps : List Pt} (h : RPt w (.slice ao n ca) ps) (k : Nat) (hk : k < ps.length) : ∃ g off u, ao = some ⟨g, off, none⟩ ∧ w.cell? ⟨g, off + k * 3, none⟩ = some (.int .i64 (ps.getD k zpt).1) ∧ w.cell? ⟨g, off + k * 3 + 1, none⟩ = some (.string (ps.getD k zpt).2.1) ∧ w.cell? ⟨g, off + k * 3 + 2, none⟩ = some u ∧ RI w u (ps.getD k zpt).2.2 := by
 obtain ⟨ao', ca', e, h⟩:=h
 cases e
 rcases h with rfl | ⟨g, off, rfl, h⟩
 ·simp at hk
 obtain ⟨u, h⟩:=h k hk; exact ⟨g, off, u, rfl, h⟩
structure OPR (w : World) (lo hi : Nat) (v : Value) (ps : List Pt) (vs : List Value) : Prop where
 tab : OPtV w lo v ps vs
 top : hi ≤ w.heap.size
 rowHi : ∀ b, v.ownBlock = some b → b < hi
 eachHi : ∀ k, k < ps.length → ∀ b, (vs.getD k (.slice none 0 0)).ownBlock = some b → b < hi
theorem OPtV.opr {w : World} {base : Nat} {v : Value} {ps : List Pt} {vs : List Value} (h : OPtV w base v ps vs) : OPR w base w.heap.size v ps vs :=
 ⟨h, Nat.le_refl _, fun b hb => (World.ownsRow.lt h.row b hb).2, fun k hk b hb => (World.ownsRow.lt (h.each k hk) b hb).2⟩
theorem OPR.kp {w w' : World} {lo hi : Nat} {X : Nat → Prop} {v : Value} {ps : List Pt} {vs : List Value} (h : OPR w lo hi v ps vs) (k : Kp w w' X) (hX : ∀ j, lo ≤ j → j < hi → ¬ X j) : OPR w' lo hi v ps vs := by
 refine ⟨?_, Nat.le_trans h.top k.size, h.rowHi, h.eachHi⟩
 refine ⟨h.tab.len, ?_, fun j hj => (h.tab.each j hj).kp k (fun b hb => hX b (World.ownsRow.lt (h.tab.each j hj) b hb).1 (h.eachHi j hj b hb)), h.tab.apart⟩
 have rl:=World.ownsRow.lt h.tab.row
 rcases h.tab.row with ⟨h1, ⟨e, h0⟩ | ⟨g, cap, cur, e, hg, hrow, rest⟩⟩
 ·exact ⟨h1, .inl ⟨e, h0⟩⟩
 have eo : v.ownBlock = some g:=by rw [e]; rfl
 exact ⟨h1, .inr ⟨g, cap, cur, e, hg, (k.block g (rl g eo).2 (hX g (rl g eo).1 (h.rowHi g eo))).trans hrow, rest⟩⟩
theorem OPR.below {w w' : World} {lo hi : Nat} {v : Value} {ps : List Pt} {vs : List Value} (h : OPR w lo hi v ps vs) (hb : Below w.heap.size w w') : OPR w' lo hi v ps vs :=
 h.kp (Below.kpOf hb (fun _ => False)) (fun _ _ _ h => h)
theorem OPR.rpt {w : World} {lo hi : Nat} {v : Value} {ps : List Pt} {vs : List Value} (h : OPR w lo hi v ps vs) (hs : ∀ p ∈ ps, p.2.2.length ≤ 4194304) : RPt w v ps := OPt.rpt ⟨vs, h.tab⟩ hs
def CapP (v : Value) : Prop := ∃ ao n cap, v = .slice ao n cap ∧ n ≤ cap ∧ cap ≤ maxLen
theorem OPtV.cap {w : World} {base : Nat} {v : Value} {ps : List Pt} {vs : List Value} (h : OPtV w base v ps vs) : CapP v := by
 rcases h.row.2 with ⟨rfl, h0⟩ | ⟨g, cap, cur, rfl, _, _, hca, hcm, _⟩
 ·exact ⟨none, 0, 0, rfl, Nat.le_refl _, by unfold maxLen; omega⟩
 exact ⟨_, _, cap, rfl, hca, hcm⟩
theorem OPt.cap {w : World} {base : Nat} {v : Value} {ps : List Pt} (h : OPt w base v ps) : CapP v := by obtain ⟨vs, h⟩ := h; exact h.cap
theorem OPR.cap {w : World} {lo hi : Nat} {v : Value} {ps : List Pt} {vs : List Value} (h : OPR w lo hi v ps vs) : CapP v := h.tab.cap
theorem opt_more {w w' : World} {base N : Nat} {v v' : Value} {ps : List Pt} {vs : List Value} {n : Int} {s : ByteArray} {u : Value} {xs : List Int} (h : OPtV w base v ps vs) (hu : OI w N u xs) (hN : ∀ k, k < ps.length → ∀ b, (vs.getD k (.slice none 0 0)).ownBlock = some b → b < N) (hbN : base ≤ N)
 (hr : w'.ownsRow base 36 3 v' (ps.length + 1) (pcells ((ps.map phd).zip vs) ++ pcell ((n, s), u))) (hg : w.grownBy w' v.ownBlock) : OPtV w' base v' (ps ++ [(n, s, xs)]) (vs ++ [u]) := by
 have keep : ∀ (x : Value) (zs : List Int) (B : Nat), OI w B x zs → OI w' B x zs:=fun x zs B hx => World.ownsRow.kept hx hg (by
  cases hxo : x.ownBlock with
  | none => exact .inl rfl
  | some b => exact .inr fun e => pt_oi h.row hx b e.symm hxo)
 refine ⟨by simp [h.len], ?_, fun k hk => ?_, fun i j hij hj b hb => ?_⟩
 ·have e : ((ps ++ [(n, s, xs)]).map phd).zip (vs ++ [u]) = (ps.map phd).zip vs ++ [((n, s), u)]:=by
   rw [List.map_append, List.zip_append (by simp [h.len])]; rfl
  rw [e, pcells_append, List.length_append]
  simpa [pcells] using hr
 ·rw [List.length_append, List.length_singleton] at hk
  by_cases e : k < ps.length
  ·rw [List.getD_eq_getElem?_getD, List.getElem?_append_left (by rw [h.len]; exact e), ← List.getD_eq_getElem?_getD, List.getD_eq_getElem?_getD (l := ps ++ _), List.getElem?_append_left e, ← List.getD_eq_getElem?_getD]
   exact keep _ _ _ (h.each k e)
  obtain rfl : k = ps.length:=by omega
  have e1 : (vs ++ [u]).getD ps.length (.slice none 0 0) = u:=by rw [← h.len]; simp
  have e2 : (ps ++ [(n, s, xs)]).getD ps.length zpt = (n, s, xs):=by simp
  rw [e1, e2]
  exact OI.mono (keep _ _ _ hu) hbN
 rw [List.length_append, List.length_singleton] at hj
 have hi : i < ps.length:=by omega
 rw [List.getD_eq_getElem?_getD, List.getElem?_append_left (by rw [h.len]; exact hi), ← List.getD_eq_getElem?_getD] at hb
 by_cases e : j < ps.length
 ·rw [List.getD_eq_getElem?_getD, List.getElem?_append_left (by rw [h.len]; exact e), ← List.getD_eq_getElem?_getD]
  exact h.apart i j hij e b hb
 obtain rfl : j = ps.length:=by omega
 have e1 : (vs ++ [u]).getD ps.length (.slice none 0 0) = u:=by rw [← h.len]; simp
 rw [e1]
 intro e3
 have:=hN i hi b hb
 have:=(World.ownsRow.lt hu b e3).1
 omega
theorem pcells_set3 (l : List ((Int × ByteArray) × Value)) (k : Nat) (m : Int) (s : ByteArray) (u : Value) (hk : k < l.length) : (((pcells l).set (k * 3) (.int .i64 m)).set (k * 3 + 1) (.string s)).set (k * 3 + 2) u = pcells (l.set k ((m, s), u)) := by
 induction l generalizing k with
 | nil => simp at hk
 | cons p l ih =>
  cases k with
  | zero => simp [pcells_cons]
  | succ k =>
   rw [List.set_cons_succ, pcells_cons, pcells_cons, show (k + 1) * 3 = k * 3 + 1 + 1 + 1 by omega, show k * 3 + 1 + 1 + 1 + 1 = (k * 3 + 1) + 1 + 1 + 1 by omega, show k * 3 + 1 + 1 + 1 + 2 = (k * 3 + 2) + 1 + 1 + 1 by omega]
   simp only [List.set_cons_succ]
   rw [ih k (by simpa using hk)]
theorem pcells_set2 (l : List ((Int × ByteArray) × Value)) (k : Nat) (m : Int) (s : ByteArray) (hk : k < l.length) : ((pcells l).set (k * 3) (.int .i64 m)).set (k * 3 + 1) (.string s) = pcells (l.set k ((m, s), (l.getD k ((0, ⟨#[]⟩),.slice none 0 0)).2)) := by
 induction l generalizing k with
 | nil => simp at hk
 | cons p l ih =>
  cases k with
  | zero => simp [pcells_cons]
  | succ k =>
   rw [List.set_cons_succ, pcells_cons, pcells_cons, show (k + 1) * 3 = k * 3 + 1 + 1 + 1 by omega, show k * 3 + 1 + 1 + 1 + 1 = (k * 3 + 1) + 1 + 1 + 1 by omega]
   simp only [List.set_cons_succ]
   rw [ih k (by simpa using hk)]
   simp
theorem pzip_set (ps : List Pt) (vs : List Value) (k : Nat) (x : Pt) (u : Value) (hl : vs.length = ps.length) : ((ps.set k x).map phd).zip (vs.set k u) = ((ps.map phd).zip vs).set k (phd x, u) := by
 apply List.ext_getElem?
 intro j
 by_cases hj : j < ps.length
 ·rw [List.getElem?_eq_getElem (by simp; omega), List.getElem?_eq_getElem (by simp; omega)]
  rw [List.getElem_set]
  by_cases e : k = j
  ·subst e; simp
  simp [e]
 rw [List.getElem?_eq_none (by simp; omega), List.getElem?_eq_none (by simp; omega)]
theorem vset_same (vs : List Value) (k : Nat) (hk : k < vs.length) : vs.set k (vs.getD k (.slice none 0 0)) = vs := by
 apply List.ext_getElem?
 intro j
 rw [List.getElem?_set]
 split
 ·rename_i e; subst e; simp [hk]
 rfl
theorem opt_set {w : World} {base g cap k : Nat} {ps : List Pt} {vs : List Value} {m : Int} {s : ByteArray} {u : Value} {xs : List Int} (h : OPtV w base (.slice (some ⟨g, 0, none⟩) ps.length cap) ps vs) (hk : k < ps.length) (hu : OI w base u xs)
 (hap : ∀ j, j < ps.length → j ≠ k → ∀ b, (vs.getD j (.slice none 0 0)).ownBlock = some b → u.ownBlock ≠ some b) :
 OPtV (((w.setCell ⟨g, k * 3, none⟩ (.int .i64 m)).setCell ⟨g, k * 3 + 1, none⟩ (.string s)).setCell ⟨g, k * 3 + 2, none⟩ u) base (.slice (some ⟨g, 0, none⟩) ps.length cap) (ps.set k (m, s, xs)) (vs.set k u) := by
 have hz : ((ps.map phd).zip vs).length = ps.length:=by simp [h.len]
 have K : Kp w (((w.setCell ⟨g, k * 3, none⟩ (.int .i64 m)).setCell ⟨g, k * 3 + 1, none⟩ (.string s)).setCell ⟨g, k * 3 + 2, none⟩ u) (fun b => b = g):=((set_kp _ _ _ _).trans (set_kp _ _ _ _)).trans (set_kp _ _ _ _)
 have keep : ∀ (x : Value) (zs : List Int), OI w base x zs → OI (((w.setCell ⟨g, k * 3, none⟩ (.int .i64 m)).setCell ⟨g, k * 3 + 1, none⟩ (.string s)).setCell ⟨g, k * 3 + 2, none⟩ u) base x zs:=fun x zs hx =>
  hx.kp K (fun b hb e => pt_oi h.row hx g rfl (by rw [← e]; exact hb))
 refine ⟨by simp [h.len], ?_, fun j hj => ?_, fun i j hij hj b hb => ?_⟩
 ·rw [List.length_set, pzip_set ps vs k _ u h.len, show phd (m, s, xs) = (m, s) from rfl, ← pcells_set3 _ k m s u (by omega)]
  exact (((h.row.stored (k * 3) _).1.stored (k * 3 + 1) _).1.stored (k * 3 + 2) _).1
 ·rw [List.length_set] at hj
  by_cases e : k = j
  ·subst e
   have e1 : (ps.set k (m, s, xs)).getD k zpt = (m, s, xs):=by simp [hk]
   have e2 : (vs.set k u).getD k (.slice none 0 0) = u:=by simp [h.len, hk]
   rw [e1, e2]; exact keep _ _ hu
  have e1 : (ps.set k (m, s, xs)).getD j zpt = ps.getD j zpt:=by simp [e]
  have e2 : (vs.set k u).getD j (.slice none 0 0) = vs.getD j (.slice none 0 0):=by simp [e]
  rw [e1, e2]; exact keep _ _ (h.each j hj)
 rw [List.length_set] at hj
 by_cases e : k = i
 ·subst e
  have e1 : (vs.set k u).getD k (.slice none 0 0) = u:=by simp [h.len, hk]
  have e2 : (vs.set k u).getD j (.slice none 0 0) = vs.getD j (.slice none 0 0):=by simp [show k ≠ j by omega]
  rw [e1] at hb
  rw [e2]
  intro e3
  exact hap j hj (by omega) b e3 hb
 by_cases e' : k = j
 ·subst e'
  have e1 : (vs.set k u).getD k (.slice none 0 0) = u:=by simp [h.len, hk]
  have e2 : (vs.set k u).getD i (.slice none 0 0) = vs.getD i (.slice none 0 0):=by simp [e]
  rw [e2] at hb
  rw [e1]
  exact hap i (by omega) (by omega) b hb
 have e1 : (vs.set k u).getD i (.slice none 0 0) = vs.getD i (.slice none 0 0):=by simp [e]
 have e2 : (vs.set k u).getD j (.slice none 0 0) = vs.getD j (.slice none 0 0):=by simp [e']
 rw [e1] at hb
 rw [e2]
 exact h.apart i j hij hj b hb
theorem opt_mark {w w1 w2 : World} {base g n cap k : Nat} {ps : List Pt} {vs : List Value} {m : Int} {s : ByteArray} {xs : List Int} (h : OPtV w base (.slice (some ⟨g, 0, none⟩) n cap) ps vs) (hk : k < ps.length)
 (t : w1.ownsRow base 36 3 (.slice (some ⟨g, 0, none⟩) n cap) ps.length (((pcells ((ps.map phd).zip vs)).set (k * 3) (.int .i64 m)).set (k * 3 + 1) (.string s))) (g1 : Kp w w1 (fun b => b = g))
 (o2 : OI w2 base (vs.getD k (.slice none 0 0)) xs) (g2 : w1.grownBy w2 (vs.getD k (.slice none 0 0)).ownBlock) : OPtV w2 base (.slice (some ⟨g, 0, none⟩) n cap) (ps.set k (m, s, xs)) vs := by
 have hz : ((ps.map phd).zip vs).length = ps.length:=by simp [h.len]
 have key1 : ∀ j, j < ps.length → OI w1 base (vs.getD j (.slice none 0 0)) (ps.getD j zpt).2.2:=fun j hj =>
  (h.each j hj).kp g1 (fun b hb e => pt_oi h.row (h.each j hj) g rfl (by rw [← e]; exact hb))
 refine ⟨by simp [h.len], ?_, fun j hj => ?_, fun i j hij hj => h.apart i j hij (by simpa using hj)⟩
 ·have ev : vs = vs.set k (vs.getD k (.slice none 0 0)):=(vset_same vs k (by rw [h.len]; exact hk)).symm
  rw [List.length_set]
  have e : ((ps.set k (m, s, xs)).map phd).zip vs = ((ps.map phd).zip vs).set k ((m, s), vs.getD k (.slice none 0 0)):=by
   conv => lhs; rw [ev]
   exact pzip_set ps vs k _ _ h.len
  have e2 : (((ps.map phd).zip vs).getD k ((0, ⟨#[]⟩),.slice none 0 0)).2 = vs.getD k (.slice none 0 0):=by rw [pzip_get ps vs h.len k hk]
  rw [e, ← e2, ← pcells_set2 _ k m s (by omega)]
  refine World.ownsRow.kept t g2 (.inr fun e => ?_)
  exact pt_oi t (key1 k hk) g rfl (by rw [← e]; rfl)
 rw [List.length_set] at hj
 by_cases e : k = j
 ·subst e
  have : (ps.set k (m, s, xs)).getD k zpt = (m, s, xs):=by simp [hk]
  rw [this]; exact o2
 have : (ps.set k (m, s, xs)).getD j zpt = ps.getD j zpt:=by simp [e]
 rw [this]
 refine World.ownsRow.kept (key1 j hj) g2 ?_
 cases hv : (vs.getD j (.slice none 0 0)).ownBlock with
 | none => exact .inl rfl
 | some b =>
  refine .inr fun e2 => ?_
  rcases Nat.lt_or_ge k j with h3 | h3
  ·exact h.apart k j h3 hj b e2.symm hv
  exact h.apart j k (by omega) hk b hv e2.symm
end
end Go.Proofs.Ytjkcphnohhpihaa
