/- Block: a block as a value; laws.eqBlock, heldBlock, markBlock, szBlock, toBlock. -/
import Derived.Test.YtgfboghieejbkaaDoorZdAE
import Derived.Test.YtgfboghieejbkaaDoorZdAD
import Derived.Lib.LastIndexByte
import Derived.Test.YtgfboghieejbkaaDoorZdAA
import Derived.OwnWalk
import Derived.Maps.AppendAt
import Derived.Laws.OwnMore
import Derived.WalkKit
import Derived.Deep.RegionHeld3
import Derived.Below
import Derived.Deep.DeepCutAuto
import Derived.Test.YtgfboghieejbkaaDoorZdAC
import Derived.Laws.Bits128
import Derived.BigQuiet
import Derived.Laws.EntriesVeiled
import Derived.Test.YtgfboghieejbkaaDoorZdAB
import Derived.Deep.RegionWith
import Derived.Deep.RegionLaw
import Derived.Laws.CopyOwn
import Derived.Lib.ItoaLen
/- impl.NameOk, Height, ViewOf, Extends, Meets, UpOf. -/
namespace Go.Proofs.YtgfboghieejbkaaDoor
open Go.RowKit
set_option linter.unusedSectionVars false
variable [∀ (a b c d : Int), Decidable (Ok4 a b c d)]
variable [∀ (a b c d : Nat), Decidable (okN a b c d)]
variable [∀ (last : Int) (s : St), Decidable (GoodSt last s)]
variable [∀ (x : T4), Decidable (OkT x)]

set_option maxHeartbeats 8000000 in
set_option maxRecDepth 100000 in
theorem implHeight (s : ByteArray) (w : World) (hs : s.size ≤ 33554432) (hE : Env w) :
    Calls Tryd.prog 20 #[.string s] w fun e w' => e = .returned (.int .i64 (heightAns s)) ∧ Below w.heap.size w w' := by
  have ST := hide fun w hE => implSteps s w hs hE
  have hl : ∀ ss, stepsAns s = some ss → ss.length ≤ 30 := fun ss h => ((names_iff _ _).1 h).2.1
  unfold heightAns
  generalize stepsAns s = A at *
  go_enter Tryd.func20, Tryd.ntmps20
  go_wp2_with fail
  refine (unhide ST _ hE).mono ?_
  rintro e w1 ⟨v, rfl, o1, b1⟩
  obtain ⟨ao, ca, rfl⟩ := o1.form
  clear o1 ST hE
  cases A with
  | none =>
    go_wp2
    go_ret
    exact ⟨rfl, b1⟩
  | some ss =>
    have hl := hl ss rfl
    go_wp2
    go_ret
    exact ⟨rfl, b1⟩


set_option maxHeartbeats 8000000 in
set_option maxRecDepth 100000 in
theorem implViewOf (s : ByteArray) (w : World) (hs : s.size ≤ 33554432) (hE : Env w) :
    Calls Tryd.prog 9 #[.string s] w fun e w' => e = .returned (.int .i64 (viewAns s)) ∧ Below w.heap.size w w' := by
  have ST := hide fun w hE => implSteps s w hs hE
  have hl : ∀ ss, stepsAns s = some ss → ss.length ≤ 30 ∧ ∀ x ∈ ss, OkSt x := fun ss h => ⟨((names_iff _ _).1 h).2.1, ((names_iff _ _).1 h).2.2.1⟩
  unfold viewAns
  generalize stepsAns s = A at *
  go_enter Tryd.func9, Tryd.ntmps9
  go_wp2_with fail
  refine (unhide ST _ hE).mono ?_
  rintro e w1 ⟨v, rfl, o1, b1⟩
  cases A with
  | none =>
    obtain ⟨ao, ca, rfl⟩ := o1.form
    clear o1 ST hl
    go_wp2
    go_ret
    exact ⟨rfl, b1⟩
  | some ss =>
    obtain ⟨hl, hok⟩ := hl ss rfl
    obtain ⟨ao, ca, hv, r⟩ := o1.rst (fun x hx => by have := (hok x hx).2.1; omega)
    subst hv
    clear o1 ST hok
    simp only [Option.getD_some] at *
    rcases r with rfl | ⟨g, rfl, r⟩
    · go_wp2
      go_ret
      exact ⟨rfl, b1⟩
    · by_cases h0 : ss.length = 0
      · obtain rfl := List.length_eq_zero_iff.1 h0
        go_wp2
        go_ret
        exact ⟨rfl, b1⟩
      · obtain ⟨n, hn⟩ : ∃ n, ss.length = n + 1 := ⟨ss.length - 1, by omega⟩
        obtain ⟨u, c0, c1, _⟩ := r n (by omega)
        have hlast := hide (show (ss.getLast?.map (·.1)).getD 0 = (ss.getD n zst).1 by
          rw [List.getLast?_eq_getElem?, List.getD_eq_getElem?_getD, List.getElem?_eq_getElem (show ss.length - 1 < ss.length by omega), List.getElem?_eq_getElem (show n < ss.length by omega)]
          simp [hn])
        have hi : ((n + 1 : Nat) : Int) - 1 = n := by omega
        generalize (ss.getD n zst).1 = x at *
        clear r h0
        go_wp2
        go_ret
        exact ⟨by rw [show ((some ss).getD []) = ss from rfl, unhide hlast]; rfl, b1⟩


/-- The last mark of a name: what is ahead of it is the name's Up. -/
theorem last_up {s : ByteArray} {ss : List St} (h : stepsAns s = some ss) (h1 : 1 ≤ ss.length) : ∃ k : Nat, k < s.size ∧ Lib.lastIndexByte s 47 = k ∧ s.extract 0 k = upAns s := by
  have hat : ∀ j, j < s.size → s.data.toList[j]? = some s.data[j]! := fun j hj => by
    rw [getElem!_pos s.data j (by simpa using hj)]; simp
  have hl : s.data.toList.length = s.size := by simp
  rcases Lib.lastIndexByte_spec s 47 with ⟨_, h2⟩ | ⟨i, hi, e, hx, hn⟩
  · exfalso
    obtain ⟨h3, _⟩ := (names_iff _ _).1 h
    cases ss with
    | nil => simp at h1
    | cons x ss =>
      have h0 : s.data.toList[0]? = some 47 := by rw [h3]; rfl
      have hz : 0 < s.size := by
        have := (List.getElem?_eq_some_iff.1 h0).1
        omega
      have := h2 0 hz
      rw [hat 0 hz] at h0
      rw [Option.some.inj h0] at this
      exact this rfl
  · refine ⟨i, hi, e, ?_⟩
    have hi' : s.data.toList[i]? = some 47 := by
      rw [hat i hi]; congr 1
      exact UInt8.toNat_inj.1 (by show s.data[i]!.toNat = 47; omega)
    have hd : (47 : UInt8) ∉ s.data.toList.drop (i + 1) := fun hm => by
      obtain ⟨j, hj, e2⟩ := List.getElem_of_mem hm
      rw [List.length_drop] at hj
      rw [List.getElem_drop] at e2
      have hj2 : i + 1 + j < s.size := by omega
      have h4 := hat _ hj2
      rw [List.getElem?_eq_getElem (by omega), e2] at h4
      have := hn (i + 1 + j) (by omega) hj2
      rw [← Option.some.inj h4] at this
      exact this rfl
    have := up_cut h (i + 1) (by omega) hd (.inr hi')
    rw [← this, ext_toB]; simp

set_option maxHeartbeats 8000000 in
set_option maxRecDepth 100000 in
theorem implUpOf (s : ByteArray) (w : World) (hs : s.size ≤ 33554432) (hE : Env w) :
    Calls Tryd.prog 16 #[.string s] w fun e w' => e = .returned (.string (upAns s)) ∧ Below w.heap.size w w' := by
  have HT := hide fun w hE => implHeight s w hs hE
  have LM := hide fun w => last_mark 47 s w hs
  have hc : heightAns s < 1 → upAns s = ⟨#[]⟩ := fun h => by
    unfold heightAns at h
    unfold upAns
    cases e : stepsAns s with
    | none => rfl
    | some ss =>
      rw [e] at h
      have : ss = [] := List.length_eq_zero_iff.1 (by simp only at h; omega)
      subst this; rfl
  have hh : ¬ heightAns s < 1 → ∃ k : Nat, k < s.size ∧ Lib.lastIndexByte s 47 = k ∧ s.extract 0 k = upAns s := fun h => by
    unfold heightAns at h
    cases e : stepsAns s with
    | none => rw [e] at h; simp at h
    | some ss => rw [e] at h; exact last_up e (by simp only at h; omega)
  have e47 : (((47 : UInt8).toNat : Nat) : Int) = 47 := rfl
  rw [e47] at LM
  generalize heightAns s = n at *
  by_cases hn : n < 1
  · rw [hc hn]
    clear LM hc hh
    have hn' : decide (n < 1) = true := by simpa using hn
    go_enter Tryd.func16, Tryd.ntmps16
    go_wp2_with fail
    refine (unhide HT _ hE).mono ?_
    rintro _ w1 ⟨rfl, b1⟩
    clear HT hE
    go_wp2
    go_ret
    exact ⟨rfl, b1⟩
  · obtain ⟨k, hk, e1, e2⟩ := hh hn
    rw [e1] at LM
    rw [← e2]
    have CL := hide fun w => clone_any (s.extract 0 k) w (by rw [ByteArray.size_extract]; omega)
    clear hc hh e1 e2
    have hn' : decide (n < 1) = false := by simpa using hn
    go_enter Tryd.func16, Tryd.ntmps16
    go_wp2_with fail
    refine (unhide HT _ hE).mono ?_
    rintro _ w1 ⟨rfl, b1⟩
    clear HT hE
    go_wp2_with fail
    refine (unhide LM _).mono ?_
    rintro _ w2 ⟨rfl, rfl⟩
    go_wp2_with fail
    refine (unhide CL _).mono ?_
    rintro _ w3 ⟨rfl, b3⟩
    go_wp2
    go_ret
    exact ⟨rfl, b1.trans (b3.mono b1.size)⟩
end Go.Proofs.YtgfboghieejbkaaDoor

/- Lists of numbers in memory; laws.szIntS, toIntS, eqIntS, markIntS, heldIntS. -/
namespace Go.Proofs.YtgfboghieejbkaaDoor
open Go.RowKit

/-- The slice value v reads as the numbers xs. -/
def RI (w : World) (v : Value) (xs : List Int) : Prop :=
  xs.length ≤ 4194304 ∧ ∃ ao cap, v = .slice ao xs.length cap ∧ (xs = [] ∨ ∃ b off, ao = some ⟨b, off, none⟩ ∧ ∀ k, k < xs.length → w.cell? ⟨b, off + k, none⟩ = some (.int .i64 (xs.getD k 0)))
/-- v is a list of the call's own, from block 'base' on, of the numbers xs. -/
def OI (w : World) (base : Nat) (v : Value) (xs : List Int) : Prop := w.ownsRow base 3 1 v xs.length (xs.map (Value.int .i64))

theorem OI.below {w w' : World} {base : Nat} {v : Value} {xs : List Int} (h : OI w base v xs) (hb : Below w.heap.size w w') : OI w' base v xs :=
  World.ownsRow.kept (row := none) h ⟨hb.os, hb.tape, hb.output, hb.size, fun k hk _ => hb.block k hk⟩ (by cases v.ownBlock <;> simp)
theorem OI.grown {w w' : World} {base : Nat} {row : Option Nat} {v : Value} {xs : List Int} (h : OI w base v xs) (hg : w.grownBy w' row) (hv : ∀ k, v.ownBlock = some k → row ≠ some k) : OI w' base v xs := by
  refine World.ownsRow.kept h hg ?_
  cases hv' : v.ownBlock with
  | none => exact .inl rfl
  | some k => exact .inr fun e => hv k hv' e.symm
theorem RI.below {w w' : World} {B : Nat} {v : Value} {xs : List Int} (h : RI w v xs) (hb : Below B w w') (hB : w.heap.size ≤ B) : RI w' v xs := by
  obtain ⟨hl, ao, cap, rfl, h⟩ := h
  refine ⟨hl, ao, cap, rfl, ?_⟩
  rcases h with h | ⟨b, off, rfl, h⟩
  · exact .inl h
  · refine .inr ⟨b, off, rfl, fun k hk => ?_⟩
    have := h k hk
    exact (hb.cell (Nat.lt_of_lt_of_le (cell_lt this) hB)).trans this
end Go.Proofs.YtgfboghieejbkaaDoor

/- Ledgers in memory; laws.szLedger, toLedger, eqLedger. -/
namespace Go.Proofs.YtgfboghieejbkaaDoor
open Go.RowKit

/-- From w to w' nothing turned but blocks of X. -/
structure Kp (w w' : World) (X : Nat → Prop) : Prop where
  os : w'.os = w.os
  tape : w'.tape = w.tape
  output : w'.output = w.output
  size : w.heap.size ≤ w'.heap.size
  block : ∀ k, k < w.heap.size → ¬ X k → w'.heap[k]? = w.heap[k]?
theorem Kp.refl (w : World) (X : Nat → Prop) : Kp w w X := ⟨rfl, rfl, rfl, Nat.le_refl _, fun _ _ _ => rfl⟩
theorem Kp.trans {a b c : World} {X : Nat → Prop} (h : Kp a b X) (k : Kp b c X) : Kp a c X :=
  ⟨k.os.trans h.os, k.tape.trans h.tape, k.output.trans h.output, Nat.le_trans h.size k.size, fun i hi hx => (k.block i (Nat.lt_of_lt_of_le hi h.size) hx).trans (h.block i hi hx)⟩
theorem Kp.mono {a b : World} {X Y : Nat → Prop} (h : Kp a b X) (hxy : ∀ k, X k → Y k) : Kp a b Y := ⟨h.os, h.tape, h.output, h.size, fun k hk hy => h.block k hk (fun hx => hy (hxy k hx))⟩
theorem Below.kpOf {w w' : World} (h : Below w.heap.size w w') (X : Nat → Prop) : Kp w w' X := ⟨h.os, h.tape, h.output, h.size, fun k hk _ => h.block k hk⟩
theorem Kp.cell {w w' : World} {X : Nat → Prop} (h : Kp w w' X) {a : Addr} {v : Value} (hc : w.cell? a = some v) (hx : ¬ X a.block) : w'.cell? a = some v :=
  (World.cell?_of_block (h.block a.block (cell_lt hc) hx)).trans hc
theorem Below.kp {B : Nat} {a w w' : World} {X : Nat → Prop} (h : Below B a w) (k : Kp w w' X) (hB : B ≤ w.heap.size) (hx : ∀ k, X k → B ≤ k) : Below B a w' :=
  ⟨k.os.trans h.os, k.tape.trans h.tape, k.output.trans h.output, Nat.le_trans h.size k.size, fun i hi => (k.block i (by omega) (fun h' => by have := hx i h'; omega)).trans (h.block i hi)⟩
theorem OI.kp {w w' : World} {base : Nat} {X : Nat → Prop} {v : Value} {xs : List Int} (h : OI w base v xs) (k : Kp w w' X) (hv : ∀ k, v.ownBlock = some k → ¬ X k) : OI w' base v xs := by
  refine ⟨h.1, ?_⟩
  rcases h.2 with hn | ⟨g, cap, cur, rfl, hb, hgg, rest⟩
  · exact .inl hn
  · refine .inr ⟨g, cap, cur, rfl, hb, ?_, rest⟩
    rw [k.block g (Array.getElem?_eq_some_iff.1 hgg).1 (hv g rfl)]
    exact hgg

theorem OI.mono {w : World} {base base' : Nat} {v : Value} {xs : List Int} (h : OI w base v xs) (hb : base' ≤ base) : OI w base' v xs := by
  refine ⟨h.1, ?_⟩
  rcases h.2 with hn | ⟨g, cap, cur, rfl, hg, rest⟩
  · exact .inl hn
  · exact .inr ⟨g, cap, cur, rfl, Nat.le_trans hb hg, rest⟩

theorem OI.form {w : World} {base : Nat} {v : Value} {xs : List Int} (h : OI w base v xs) : ∃ ao ca, v = .slice ao xs.length ca := by
  rcases h.2 with ⟨rfl, h0⟩ | ⟨g, cap, cur, rfl, _⟩
  · exact ⟨none, 0, by rw [h0]⟩
  · exact ⟨_, _, rfl⟩

/-- Block g has the two cells a, b. -/
def Loc2 (w : World) (g : Nat) (a b : Value) : Prop := ∃ t, w.heap[g]? = some (.cells #[a, b] t (0, 0))
theorem Loc2.lt {w : World} {g : Nat} {a b : Value} (h : Loc2 w g a b) : g < w.heap.size := by obtain ⟨t, h⟩ := h; exact (Array.getElem?_eq_some_iff.1 h).1
theorem Loc2.cells {w : World} {g : Nat} {a b : Value} (h : Loc2 w g a b) : w.cell? ⟨g, 0, none⟩ = some a ∧ w.cell? ⟨g, 1, none⟩ = some b ∧ w.frozen? ⟨g, 0, none⟩ = false ∧ w.frozen? ⟨g, 1, none⟩ = false := by
  obtain ⟨t, h⟩ := h
  refine ⟨?_, ?_, frozen_of_row w g 0 _ t h, frozen_of_row w g 1 _ t h⟩
  · rw [cell_of_row w g 0 _ t (0, 0) h]; rfl
  · rw [cell_of_row w g 1 _ t (0, 0) h]; rfl
theorem Loc2.below {w w' : World} {g B : Nat} {a b : Value} (h : Loc2 w g a b) (hb : Below B w w') (hg : g < B) : Loc2 w' g a b := by obtain ⟨t, h⟩ := h; exact ⟨t, (hb.block g hg).trans h⟩
theorem Loc2.kp {w w' : World} {g : Nat} {X : Nat → Prop} {a b : Value} (h : Loc2 w g a b) (k : Kp w w' X) (hg : ¬ X g) : Loc2 w' g a b := by have hl := h.lt; obtain ⟨t, h⟩ := h; exact ⟨t, (k.block g hl hg).trans h⟩
theorem Loc2.alloc {w : World} {g : Nat} {a b : Value} (h : Loc2 w g a b) (o : Obj) : Loc2 (w.alloc o) g a b := h.kp (X := fun _ => False) (Below.kpOf ((Below.refl _ _).alloc (Nat.le_refl _) o) _) (fun h => h)
theorem Loc2.drewN {w : World} {g : Nat} {a b : Value} (h : Loc2 w g a b) (n : Nat) : Loc2 (w.drewN n) g a b := h
theorem Loc2.other {w : World} {g : Nat} {a b : Value} (h : Loc2 w g a b) {p : Addr} (hp : g ≠ p.block) (u : Value) : Loc2 (w.setCell p u) g a b := by obtain ⟨t, h⟩ := h; exact ⟨t, (heap_setCell_other w p g u hp).trans h⟩

/-- a, b are the lists of a ledger of the call's own: they lie in blocks from lo on and below hi, and share none. -/
structure OL (w : World) (lo hi : Nat) (a b : Value) (xs ys : List Int) : Prop where
  has : OI w lo a xs
  next : OI w lo b ys
  top : ∀ k, a.ownBlock = some k → k < hi
  top' : ∀ k, b.ownBlock = some k → k < hi
  ne : ∀ k, a.ownBlock = some k → b.ownBlock ≠ some k
theorem OL.kp {w w' : World} {lo hi : Nat} {X : Nat → Prop} {a b : Value} {xs ys : List Int} (h : OL w lo hi a b xs ys) (k : Kp w w' X) (hx : ∀ k, lo ≤ k → k < hi → ¬ X k) : OL w' lo hi a b xs ys :=
  ⟨h.has.kp k (fun j hj => hx j (World.ownsRow.lt h.has j hj).1 (h.top j hj)), h.next.kp k (fun j hj => hx j (World.ownsRow.lt h.next j hj).1 (h.top' j hj)), h.top, h.top', h.ne⟩
theorem OL.below {w w' : World} {lo hi : Nat} {a b : Value} {xs ys : List Int} (h : OL w lo hi a b xs ys) (hb : Below w.heap.size w w') : OL w' lo hi a b xs ys := h.kp (Below.kpOf hb (fun _ => False)) (fun _ _ _ h => h)
theorem OL.alloc {w : World} {lo hi : Nat} {a b : Value} {xs ys : List Int} (h : OL w lo hi a b xs ys) (o : Obj) : OL (w.alloc o) lo hi a b xs ys := h.below ((Below.refl _ _).alloc (Nat.le_refl _) _)
theorem OL.mono {w : World} {lo hi lo' hi' : Nat} {a b : Value} {xs ys : List Int} (h : OL w lo hi a b xs ys) (h1 : lo' ≤ lo) (h2 : hi ≤ hi') : OL w lo' hi' a b xs ys :=
  ⟨h.has.mono h1, h.next.mono h1, fun k hk => Nat.lt_of_lt_of_le (h.top k hk) h2, fun k hk => Nat.lt_of_lt_of_le (h.top' k hk) h2, h.ne⟩
theorem Below.set {B : Nat} {a w : World} (h : Below B a w) {g : Nat} (j : Nat) (u : Value) (hg : B ≤ g) : Below B a (w.setCell ⟨g, j, none⟩ u) := Below.setCell h (p := ⟨g, j, none⟩) hg u
theorem set_kp (w : World) (g j : Nat) (u : Value) : Kp w (w.setCell ⟨g, j, none⟩ u) (fun k => k = g) :=
  ⟨rfl, rfl, rfl, by simp, fun k _ hk => heap_setCell_other w ⟨g, j, none⟩ k u hk⟩

end Go.Proofs.YtgfboghieejbkaaDoor

/- Pieces of lists of numbers: at whatever place of a row; what an append of one does; what a cut is. -/
namespace Go.Proofs.YtgfboghieejbkaaDoor
open Go.RowKit

/-- v reads as the numbers xs, at whatever place. -/
def PI (w : World) (v : Value) (xs : List Int) : Prop :=
  ∃ ao cap, v = .slice ao xs.length cap ∧ (xs = [] ∨ ∃ ad : Addr, ao = some ad ∧ ∀ j u, (xs.map (Value.int .i64))[j]? = some u → w.cell? (ad.add j) = some u)
theorem PI.below {w w' : World} {v : Value} {xs : List Int} (h : PI w v xs) (hb : Below w.heap.size w w') : PI w' v xs := by
  obtain ⟨ao, cap, rfl, h⟩ := h
  refine ⟨ao, cap, rfl, ?_⟩
  rcases h with h | ⟨ad, rfl, h⟩
  · exact .inl h
  · exact .inr ⟨ad, rfl, fun j u hj => (hb.cell (cell_lt (h j u hj))).trans (h j u hj)⟩
theorem RI.form {w : World} {v : Value} {xs : List Int} (h : RI w v xs) : ∃ ao ca, v = .slice ao xs.length ca := by obtain ⟨_, ao, ca, e, _⟩ := h; exact ⟨ao, ca, e⟩
theorem RI.at {w : World} {ao : Option Addr} {n ca : Nat} {xs : List Int} (h : RI w (.slice ao n ca) xs) (k : Nat) (hk : k < xs.length) : ∃ b off, ao = some ⟨b, off, none⟩ ∧ w.cell? ⟨b, off + k, none⟩ = some (.int .i64 (xs.getD k 0)) := by
  obtain ⟨_, ao', ca', e, h⟩ := h
  cases e
  rcases h with rfl | ⟨b, off, rfl, h⟩
  · simp at hk
  · exact ⟨b, off, rfl, h k hk⟩
/-- The first k. -/
theorem PI.take {w : World} {ao : Option Addr} {n cap : Nat} {xs : List Int} (h : PI w (.slice ao n cap) xs) (k : Nat) (hk : k ≤ n) (cap' : Nat) : PI w (.slice ao k cap') (xs.take k) := by
  obtain ⟨ao', cap2, e, h⟩ := h
  cases e
  refine ⟨ao, cap', by rw [List.length_take]; congr 1; omega, ?_⟩
  rcases h with rfl | ⟨ad, rfl, h⟩
  · left; simp
  · refine .inr ⟨ad, rfl, fun j u hj => h j u ?_⟩
    rw [List.map_take, List.getElem?_take] at hj
    split at hj
    · exact hj
    · cases hj
/-- All but the first k. -/
theorem PI.drop {w : World} {ao : Option Addr} {n cap : Nat} {xs : List Int} (h : PI w (.slice ao n cap) xs) (k : Nat) (cap' : Nat) {bo : Option Addr} (hb : k < n → bo = ao.map (·.add (k * 1))) : PI w (.slice bo (n - k) cap') (xs.drop k) := by
  obtain ⟨ao', cap2, e, h⟩ := h
  cases e
  refine ⟨bo, cap', by rw [List.length_drop], ?_⟩
  by_cases hlt : k < xs.length
  · rcases h with rfl | ⟨ad, rfl, h⟩
    · simp at hlt
    · refine .inr ⟨ad.add (k * 1), hb hlt, fun j u hj => ?_⟩
      rw [List.map_drop, List.getElem?_drop] at hj
      have := h _ u hj
      rw [← this]
      congr 1
      obtain ⟨b, o, s⟩ := ad
      unfold Addr.add
      split <;> split <;> simp_all <;> omega
  · left; rw [List.drop_of_length_le (by omega)]
/-- Its length is within its capacity. -/
def Cap (v : Value) : Prop := ∃ ao n cap, v = .slice ao n cap ∧ n ≤ cap ∧ cap ≤ maxLen
theorem OI.cap {w : World} {base : Nat} {v : Value} {xs : List Int} (h : OI w base v xs) : Cap v := by
  rcases h.2 with ⟨rfl, h0⟩ | ⟨g, cap, cur, rfl, _, _, h1, h2, h3⟩
  · exact ⟨_, _, _, rfl, by simp, by unfold maxLen; omega⟩
  · exact ⟨_, _, _, rfl, by first | exact h1 | exact h2 | exact h3 | omega, by first | exact h2 | exact h3 | omega⟩
end Go.Proofs.YtgfboghieejbkaaDoor

/- Sets as lists of numbers: plain mathematics. -/
namespace Go.Proofs.YtgfboghieejbkaaDoor

/-- What SetOk answers. -/
def OkL (n : Int) (s : List Int) : Prop := (∀ x ∈ s, 0 ≤ x ∧ x < n) ∧ s.Pairwise (· < ·)
/-- Each is a number that the program's int holds. -/
def WfL (xs : List Int) : Prop := ∀ x ∈ xs, (Lit.int .i64 x).wf = true
theorem WfL.at {xs : List Int} (h : WfL xs) (k : Nat) (hk : k < xs.length) : (Lit.int .i64 (xs.getD k 0)).wf = true := by
  rw [List.getD_eq_getElem?_getD, List.getElem?_eq_getElem hk]; exact h _ (List.getElem_mem hk)
end Go.Proofs.YtgfboghieejbkaaDoor

/- Blocks of known cells. -/
namespace Go.Proofs.YtgfboghieejbkaaDoor
open Go.RowKit

/-- Block g has the cells cs. -/
def Loc (w : World) (g : Nat) (cs : Array Value) : Prop := ∃ t, w.heap[g]? = some (.cells cs t (0, 0))
theorem Loc.lt {w : World} {g : Nat} {cs : Array Value} (h : Loc w g cs) : g < w.heap.size := by obtain ⟨t, h⟩ := h; exact (Array.getElem?_eq_some_iff.1 h).1
theorem Loc.cell {w : World} {g : Nat} {cs : Array Value} (h : Loc w g cs) (j : Nat) {v : Value} (hj : cs[j]? = some v) : w.cell? ⟨g, j, none⟩ = some v := by
  obtain ⟨t, h⟩ := h
  rw [cell_of_row w g j _ t (0, 0) h]; exact hj
theorem Loc.frozen {w : World} {g : Nat} {cs : Array Value} (h : Loc w g cs) (j : Nat) : w.frozen? ⟨g, j, none⟩ = false := by obtain ⟨t, h⟩ := h; exact frozen_of_row w g j _ t h
theorem Loc.below {w w' : World} {g B : Nat} {cs : Array Value} (h : Loc w g cs) (hb : Below B w w') (hg : g < B) : Loc w' g cs := by obtain ⟨t, h⟩ := h; exact ⟨t, (hb.block g hg).trans h⟩
theorem Loc.kp {w w' : World} {g : Nat} {X : Nat → Prop} {cs : Array Value} (h : Loc w g cs) (k : Kp w w' X) (hg : ¬ X g) : Loc w' g cs := by have hl := h.lt; obtain ⟨t, h⟩ := h; exact ⟨t, (k.block g hl hg).trans h⟩
theorem Loc.alloc {w : World} {g : Nat} {cs : Array Value} (h : Loc w g cs) (o : Obj) : Loc (w.alloc o) g cs := h.kp (X := fun _ => False) (Below.kpOf ((Below.refl _ _).alloc (Nat.le_refl _) o) _) (fun h => h)
theorem Loc.drewN {w : World} {g : Nat} {cs : Array Value} (h : Loc w g cs) (n : Nat) : Loc (w.drewN n) g cs := h
theorem Loc.set {w : World} {g : Nat} {cs : Array Value} (h : Loc w g cs) (j : Nat) (u : Value) {cs' : Array Value} (e : cs.setIfInBounds j u = cs') : Loc (w.setCell ⟨g, j, none⟩ u) g cs' := by obtain ⟨t, h⟩ := h; exact ⟨t, by rw [heap_setCell_same w g j _ t u h, e]⟩
theorem Loc.other {w : World} {g : Nat} {cs : Array Value} (h : Loc w g cs) {p : Addr} (hp : g ≠ p.block) (u : Value) : Loc (w.setCell p u) g cs := by obtain ⟨t, h⟩ := h; exact ⟨t, (heap_setCell_other w p g u hp).trans h⟩

end Go.Proofs.YtgfboghieejbkaaDoor

/- An operation of a region that draws its order, taken first, its slot written out. -/
namespace Go.Proofs.YtgfboghieejbkaaDoor
open Go Go.RowKit
section
variable {P : Program} {ops : Array Oper} {Q : Exit → Act → World → Prop} {md : Region.Mode} {S : World → Prop}
theorem take_at {i d : Nat} {oi : Oper} {v : Value} {fuel : Nat} {listed : Array Bool} {a : Act} {w : World} (hi : ops[i]? = some oi) (hd : oi.dst = some d)
    (hs : Region.noSelect ops = true) (hf : Region.free md ops listed i = true) (hr : (Region.ready md ops listed).contains i = true)
    (hQ : ∀ c a w, Q (.panic c) (a.put (some d) v) w → Q (.panic c) a w) (hy : YieldsIf P ops S oi v a) (hS : S w)
    (h : wpAnyH P md ops Q S fuel (listed.setIfInBounds i true) (a.put (some d) v) w) : wpAnyH P md ops Q S (fuel + 1) listed a w :=
  wpAnyH_take hi hs hf hr (by rw [hd]; exact hQ) hy hS (by rw [hd]; exact h)
end
end Go.Proofs.YtgfboghieejbkaaDoor

/- Conf: ConfOk, Faults, Quorum of the program and of the specification; laws.toConf. -/
namespace Go.Proofs.YtgfboghieejbkaaDoor
open Go.RowKit
set_option linter.unusedSectionVars false
variable [∀ (a b c d : Int), Decidable (Ok4 a b c d)]

def COk (n f : Int) : Prop := (4 ≤ n ∧ n ≤ 7) ∧ 1 ≤ f ∧ f ≤ 6
variable [∀ (n f : Int), Decidable (COk n f)]
end Go.Proofs.YtgfboghieejbkaaDoor

/- The draws of sets: spec.l6DrawSet, DrawSetOk, DrawSetHas, DrawSetAdd, DrawSetJoin. -/
namespace Go.Proofs.YtgfboghieejbkaaDoor
open Go.RowKit

/-- What came in: the code of the draws. -/
structure SCode (w : World) (ao : Option Addr) (xs : List Int) : Prop where
  len : xs.length ≤ 1048576
  code : xs = [] ∨ ∃ b off, ao = some ⟨b, off, none⟩ ∧ ∀ k, k < xs.length → w.cell? ⟨b, off + k, none⟩ = some (.int .u8 (xs.getD k 0))
  fit : ∀ k, k < xs.length → 0 ≤ xs.getD k 0 ∧ xs.getD k 0 ≤ 255
theorem SCode.below {w w' : World} {ao : Option Addr} {xs : List Int} (h : SCode w ao xs) (hb : Below w.heap.size w w') : SCode w' ao xs := by
  refine ⟨h.len, ?_, h.fit⟩
  rcases h.code with h' | ⟨b, off, ha, hx⟩
  · exact .inl h'
  · exact .inr ⟨b, off, ha, fun k hk => (hb.cell (p := ⟨b, off + k, none⟩) (cell_lt (hx k hk))).trans (hx k hk)⟩

end Go.Proofs.YtgfboghieejbkaaDoor

/- Two certificates have more in common than there are liars: plain mathematics; QcOk of the program is that of the specification. -/
namespace Go.Proofs.YtgfboghieejbkaaDoor
open Go.RowKit
set_option linter.unusedSectionVars false
variable [∀ (a b c d : Int), Decidable (Ok4 a b c d)]
variable [∀ (a b c d : Nat), Decidable (okN a b c d)]
variable [∀ (last : Int) (s : St), Decidable (GoodSt last s)]
variable [∀ (x : T4), Decidable (OkT x)]
variable [∀ (n : Int) (s : List Int), Decidable (OkL n s)]
variable [∀ (n f : Int), Decidable (COk n f)]

theorem steps_nil : stepsAns ⟨#[]⟩ = some [] := by simp [stepsAns]
theorem view_none {s : ByteArray} (h : (stepsAns s).isSome = false) : viewAns s = 0 := by
  cases e : stepsAns s with
  | none => simp [viewAns, e]
  | some ss => rw [e] at h; cases h
end Go.Proofs.YtgfboghieejbkaaDoor

/- The draws of payments: spec.l2DrawRight, l2Draw, l2DrawList, l2Dent and what is drawn by them. -/
namespace Go.Proofs.YtgfboghieejbkaaDoor
open Go.RowKit
set_option linter.unusedSectionVars false
variable [∀ (a b c d : Int), Decidable (Ok4 a b c d)]
variable [∀ (a b c d : Nat), Decidable (okN a b c d)]
variable [∀ (x : T4), Decidable (OkT x)]

theorem OT.grown {w w' : World} {base g : Nat} {v : Value} {xs : List T4} (h : OT w base v xs) (hg : w.grownBy w' (some g)) (hlt : g < base) : OT w' base v xs :=
  World.ownsRow.kept h hg (by
    cases hv : v.ownBlock with
    | none => exact .inl rfl
    | some k => exact .inr fun e => by have := (World.ownsRow.lt h k hv).1; simp at e; omega)

end Go.Proofs.YtgfboghieejbkaaDoor

/- The draws of names: spec.l5DrawRight, l5Draw. -/
namespace Go.Proofs.YtgfboghieejbkaaDoor
open Go.RowKit
set_option linter.unusedSectionVars false
variable [∀ (a b c d : Int), Decidable (Ok4 a b c d)]
variable [∀ (a b c d : Nat), Decidable (okN a b c d)]
variable [∀ (x : T4), Decidable (OkT x)]
variable [∀ (last : Int) (s : St), Decidable (GoodSt last s)]

theorem nm_len (ss : List St) (h : ∀ s ∈ ss, OkSt s) : (nm ss).length ≤ ss.length * 64 := by
  induction ss with
  | nil => simp [nm]
  | cons s ss ih =>
    have h1 := h s (by simp)
    have h2 := ih fun x hx => h x (by simp [hx])
    have h3 := txsT_len2 s.2 h1.2.1
    have h4 := nDigits_six s.1.toNat (by have := h1.1; omega)
    have e : nm (s :: ss) = 47 :: stText s ++ nm ss := by simp [nm]
    rw [e, List.length_append, List.length_cons, List.length_cons]
    unfold stText
    rw [List.length_append, List.length_cons, Lib.decDigits_length]
    have e2 : (txsT s.2).data.toList.length = (txsT s.2).size := by simp
    omega
theorem name_len {s : ByteArray} (h : (stepsAns s).isSome = true) : s.size ≤ 1920 := by
  cases hs : stepsAns s with
  | none => rw [hs] at h; cases h
  | some ss =>
    obtain ⟨h1, h2⟩ := (names_iff _ _).1 hs
    have h3 := nm_len ss h2.2.1
    have h4 := h2.1
    have e : s.size = s.data.toList.length := by simp
    rw [e, h1]; omega
end Go.Proofs.YtgfboghieejbkaaDoor

/- What holds: what chapter 11 answers; plain mathematics. -/
namespace Go.Proofs.YtgfboghieejbkaaDoor
open Go.RowKit
set_option linter.unusedSectionVars false
variable [∀ (a b c d : Int), Decidable (Ok4 a b c d)]
variable [∀ (a b c d : Nat), Decidable (okN a b c d)]
variable [∀ (last : Int) (s : St), Decidable (GoodSt last s)]
variable [∀ (x : T4), Decidable (OkT x)]
variable [∀ (n : Int) (s : List Int), Decidable (OkL n s)]
variable [∀ (n f : Int), Decidable (COk n f)]

/-- The name two steps below. -/
def up2 (s : ByteArray) : ByteArray := upAns (upAns s)
/-- Whether a name settles what is two steps below; what it settles. -/
def stB (s : ByteArray) : Bool := decide (up2 s ≠ ⟨#[]⟩) && (viewAns s - viewAns (up2 s) == 2)
def stN (s : ByteArray) : ByteArray := if stB s = true then up2 s else ⟨#[]⟩
theorem up_none {s : ByteArray} (h : stepsAns s = none) : upAns s = ⟨#[]⟩ := by
  unfold upAns; rw [h]; rfl
theorem up_nil : upAns ⟨#[]⟩ = ⟨#[]⟩ := by unfold upAns; rw [steps_nil]; rfl
theorem up_size {s : ByteArray} : (upAns s).size ≤ 1920 := by
  cases h : stepsAns s with
  | none => rw [up_none h]; exact Nat.zero_le _
  | some ss => exact name_len (by rw [up_steps h]; rfl)
theorem up2_size {s : ByteArray} : (up2 s).size ≤ 1920 := up_size
theorem view_steps {s : ByteArray} {ss : List St} (h : stepsAns s = some ss) : viewAns s = (ss.getLast?.map (·.1)).getD 0 := by unfold viewAns; rw [h]; rfl
theorem st_none {s : ByteArray} (h : stepsAns s = none) : stB s = false := by
  unfold stB up2; rw [up_none h, up_nil]; simp
theorem st_few {s : ByteArray} {ss : List St} (h : stepsAns s = some ss) (hl : ss.length < 3) : stB s = false := by
  have h2 := up_steps (up_steps h)
  have he : ss.dropLast.dropLast = [] := List.length_eq_zero_iff.1 (by simp; omega)
  rw [he] at h2
  have : up2 s = ⟨#[]⟩ := ba_ext (by have := ((names_iff _ _).1 h2).1; simpa [nm, up2] using this)
  unfold stB; rw [this]; simp
theorem st_three {s : ByteArray} {tt : List St} {a b c : St} (h : stepsAns s = some (tt ++ [a, b, c])) : stB s = (c.1 == b.1 + 1 && b.1 == a.1 + 1) := by
  have h2 := up_steps (up_steps h)
  have e : (tt ++ [a, b, c]).dropLast.dropLast = tt ++ [a] := by
    rw [show tt ++ [a, b, c] = (tt ++ [a, b]) ++ [c] by simp, List.dropLast_concat, show tt ++ [a, b] = (tt ++ [a]) ++ [b] by simp, List.dropLast_concat]
  rw [e] at h2
  have hne : up2 s ≠ ⟨#[]⟩ := by
    intro e0
    unfold up2 at e0
    rw [e0, steps_nil] at h2
    simp at h2
  have ok := ((names_iff _ _).1 h).2.2.2
  rw [List.pairwise_append] at ok
  have hw := ok.2.1
  simp only [List.pairwise_cons, List.mem_cons, List.not_mem_nil, or_false] at hw
  have h1 := hw.1 b (.inl rfl)
  have h3 := hw.2.1 c rfl
  have v1 : viewAns s = c.1 := by rw [view_steps h]; simp
  have v2 : viewAns (up2 s) = a.1 := by unfold up2; rw [view_steps h2]; simp
  unfold stB
  rw [v1, v2, decide_eq_true hne, Bool.true_and, Bool.eq_iff_iff]
  simp only [Bool.and_eq_true, beq_iff_eq]
  omega
theorem last3 {ss : List St} (h : 3 ≤ ss.length) : ∃ tt, ss = tt ++ [ss.getD (ss.length - 3) zst, ss.getD (ss.length - 2) zst, ss.getD (ss.length - 1) zst] := by
  refine ⟨ss.take (ss.length - 3), ?_⟩
  conv => lhs; rw [← List.take_append_drop (ss.length - 3) ss]
  congr 1
  have d : ∀ k, k < ss.length → ss.drop k = ss.getD k zst :: ss.drop (k + 1) := fun k hk => by
    rw [List.drop_eq_getElem_cons hk, List.getD_eq_getElem?_getD, List.getElem?_eq_getElem hk]; rfl
  rw [d _ (by omega), d _ (by omega), d _ (by omega), show ss.length - 3 + 1 = ss.length - 2 by omega, show ss.length - 2 + 1 = ss.length - 1 by omega, List.drop_of_length_le (by omega)]
theorem st_last {s : ByteArray} {ss : List St} (h : stepsAns s = some ss) (hl : 3 ≤ ss.length) : stB s = ((ss.getD (ss.length - 1) zst).1 == (ss.getD (ss.length - 2) zst).1 + 1 && (ss.getD (ss.length - 2) zst).1 == (ss.getD (ss.length - 3) zst).1 + 1) := by
  obtain ⟨tt, e⟩ := last3 hl
  generalize ss.getD (ss.length - 1) zst = c at *
  generalize ss.getD (ss.length - 2) zst = b at *
  generalize ss.getD (ss.length - 3) zst = a at *
  rw [e] at h
  exact st_three h
theorem view_le (s : ByteArray) : 0 ≤ viewAns s ∧ viewAns s ≤ 60 := by
  refine ⟨?_, (height_view (s := s)).2.2⟩
  cases e : stepsAns s with
  | none => rw [view_none (by rw [e]; rfl)]; exact Int.le_refl _
  | some ss =>
    have := (height_view (s := s)).1
    unfold heightAns at this
    rw [e] at this
    simp only at this
    omega

end Go.Proofs.YtgfboghieejbkaaDoor

/- Block: a block as a value; laws.eqBlock, heldBlock, markBlock, szBlock, toBlock. -/
namespace Go.Proofs.YtgfboghieejbkaaDoor
open Go.RowKit

theorem Kp.same (w : World) (X : Nat → Prop) : Kp w w X := Below.kpOf (Below.refl w.heap.size w) X
theorem Kp.put {a b : World} {X : Nat → Prop} (h : Kp a b X) {g : Nat} (hg : X g) (j : Nat) (v : Value) : Kp a (b.setCell ⟨g, j, none⟩ v) X := h.trans ((set_kp _ _ _ _).mono fun _ e => e ▸ hg)
abbrev zb : Array Value := #[.string ⟨#[]⟩, .int .i64 0, .string ⟨#[]⟩, .slice none 0 0]
end Go.Proofs.YtgfboghieejbkaaDoor
