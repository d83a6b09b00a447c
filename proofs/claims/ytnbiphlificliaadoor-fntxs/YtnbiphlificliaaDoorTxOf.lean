/- impl.TxOf: what it answers. -/
import Derived.Test.YtnbiphlificliaaDoorCut
import Derived.Test.YtnbiphlificliaaDoorToTx
import Derived.Test.YtnbiphlificliaaDoorNumberFace
namespace Go.Proofs.YtnbiphlificliaaDoor
open Go.RowKit
set_option linter.unusedSectionVars false
variable [∀ (a b c d : Int), Decidable (Ok4 a b c d)]

variable [∀ (a b c d : Nat), Decidable (okN a b c d)]
/-- What TxOf answers. -/
def txAns (l : List UInt8) : Option (Nat × Nat × Nat × Nat) :=
  match numOf (f0 l), numOf (f1 l), numOf (f2 l), numOf (f3 l) with
  | some a, some b, some c, some d => if okN a b c d then some (a, b, c, d) else none
  | _, _, _, _ => none
theorem txAns_some {l : List UInt8} {a b c d : Nat} (h : IsTx l a b c d) : txAns l = some (a, b, c, d) := by
  obtain ⟨h0, h1, h2, h3⟩ := nums_of h
  unfold txAns
  rw [h0, h1, h2, h3]
  simp [h.1]
theorem txAns_is {l : List UInt8} {a b c d : Nat} (h : txAns l = some (a, b, c, d)) : IsTx l a b c d := by
  unfold txAns at h
  split at h
  · rename_i a' b' c' d' e0 e1 e2 e3
    split at h
    · rename_i hk
      simp at h
      obtain ⟨rfl, rfl, rfl, rfl⟩ := h
      exact isTx_of e0 e1 e2 e3 hk
    · cases h
  · cases h
/-- The value of an answer. -/
def txval : Option (Nat × Nat × Nat × Nat) → Value
  | some (a, b, c, d) => .tuple #[txv a b c d, .bool true]
  | none => .tuple #[txv 0 0 0 0, .bool false]
theorem ok_cast {a b c d : Nat} : Ok4 a b c d ↔ okN a b c d := by unfold Ok4 okN; omega

theorem toB_list (x : List UInt8) : (toB x).data.toList = x := rfl
theorem toB_size (x : List UInt8) : (toB x).size = x.length := by unfold toB ByteArray.size; simp
theorem hd_len (m : UInt8) (l : List UInt8) : (hd m l).length ≤ l.length := by unfold hd; exact (List.takeWhile_sublist _).length_le
theorem tl_len (m : UInt8) (l : List UInt8) : (tl m l).length ≤ l.length := by
  unfold tl
  have := (List.dropWhile_sublist (fun x => x != m) (l := l)).length_le
  simp only [List.length_tail]; omega
def fld (l : List UInt8) : Nat → List UInt8
  | 0 => f0 l
  | 1 => f1 l
  | 2 => f2 l
  | _ => f3 l
theorem fld_len (l : List UInt8) (j : Nat) : (fld l j).length ≤ l.length := by
  have h1 := tl_len 62 l
  have h2 := tl_len 58 (tl 62 l)
  have h3 := tl_len 35 (tl 58 (tl 62 l))
  unfold fld f0 f1 f2 f3
  split
  · exact hd_len _ _
  · exact Nat.le_trans (hd_len _ _) h1
  · exact Nat.le_trans (hd_len _ _) (by omega)
  · omega
theorem number_fld (x : List UInt8) (hx : x.length ≤ 1048576) (w : World) (hE : Env w) :
    Calls Tryd.prog 32 #[.string (toB x)] w fun e w' => e = .returned (.tuple #[.int .i64 (nans (numOf x)), .bool (numOf x).isSome]) ∧ Below w.heap.size w w' := by
  have := number_any (toB x) (by rw [toB_size]; exact hx) w hE
  rwa [toB_list] at this

theorem ix4 (a b c d : ByteArray) (w : World) : (Instr.index 69 (.agg #[.string a, .string b, .string c, .string d]) (.int .i64 0)).run Tryd.prog w = .ok (.string a) w ∧ (Instr.index 69 (.agg #[.string a, .string b, .string c, .string d]) (.int .i64 1)).run Tryd.prog w = .ok (.string b) w ∧ (Instr.index 69 (.agg #[.string a, .string b, .string c, .string d]) (.int .i64 2)).run Tryd.prog w = .ok (.string c) w ∧ (Instr.index 69 (.agg #[.string a, .string b, .string c, .string d]) (.int .i64 3)).run Tryd.prog w = .ok (.string d) w := by
  have h9 : Tryd.t9.size = 1 := by kernel_rfl
  refine ⟨?_, ?_, ?_, ?_⟩ <;> simp [Instr.index, asIntOf, run_underlying Tryd.underlying69, part, sizeOf, Sem.run_bind, Result.andThen, h9, go_sem]
/-- The numbers behind k rounds. -/
def nv (l : List UInt8) (k j : Nat) : Int := if j < k then nans (numOf (fld l j)) else 0
/-- What the loop keeps. -/
def TRel (l : List UInt8) (w : World) (i : Value) (wr : World) : Prop := ∃ k : Nat, k ≤ 4 ∧ i = .int .i64 k ∧ (∀ j, j < k → (numOf (fld l j)).isSome = true) ∧ Cells4 wr (w.heap.size + 1) (nv l k 0) (nv l k 1) (nv l k 2) (nv l k 3) ∧ (∀ j, wr.frozen? ⟨w.heap.size + 1, j, none⟩ = false) ∧ Cells4 wr w.heap.size 0 0 0 0 ∧ (∀ j, wr.frozen? ⟨w.heap.size, j, none⟩ = false) ∧ Below w.heap.size w wr ∧ w.heap.size + 2 ≤ wr.heap.size
theorem frozen_below {w w' : World} {B g : Nat} (hb : Below B w w') (hg : g < B) (h : ∀ j, w.frozen? ⟨g, j, none⟩ = false) : ∀ j, w'.frozen? ⟨g, j, none⟩ = false := fun j => (hb.frozen (p := ⟨g, j, none⟩) hg).trans (h j)
theorem none_ans {l : List UInt8} {j : Nat} (hj : j < 4) (h : (numOf (fld l j)).isSome = false) : txAns l = none := by
  cases hq : txAns l with
  | none => rfl
  | some q =>
    obtain ⟨a, b, c, d⟩ := q
    obtain ⟨h0, h1, h2, h3⟩ := nums_of (txAns_is hq)
    have : j = 0 ∨ j = 1 ∨ j = 2 ∨ j = 3 := by omega
    rcases this with rfl | rfl | rfl | rfl <;> simp only [fld, h0, h1, h2, h3] at h <;> cases h

set_option maxHeartbeats 4000000 in
set_option maxRecDepth 100000 in
theorem implTxOf (s : ByteArray) (w : World) (hs : s.size ≤ 1048576) (hE : Env w) :
    Calls Tryd.prog 13 #[.string s] w fun e w' => e = .returned (txval (txAns s.data.toList)) ∧ Below w.heap.size w w' := by
  obtain ⟨l, hl⟩ : ∃ l, s.data.toList = l := ⟨_, rfl⟩
  have hll : l.length ≤ 1048576 := by rw [← hl]; simpa using hs
  have CU := hide fun w => cut_any s w hs
  rw [hl] at CU ⊢
  have HE := hide hE
  clear hE hl
  go_enter Tryd.func13, Tryd.ntmps13
  go_wp2_with fail
  refine (unhide CU _).mono ?_
  rintro e w1 ⟨rfl, b1⟩
  have q1 := b1.size
  have hb0 : Below w.heap.size w w1 := (((Below.refl _ _).alloc (Nat.le_refl _) _).alloc (by simp) _).trans (b1.mono (by simp; omega))
  have hst : TRel l w (.int .i64 0) w1 := by
    refine ⟨0, by omega, rfl, fun j hj => by omega, ?_, ?_, ?_, ?_, hb0, by simp at q1; omega⟩
    · refine Cells4.below ?_ b1 (by simp)
      simp [Cells4, nv, go_sem]
    · exact frozen_below b1 (by simp) (fun j => by simp [go_sem])
    · refine Cells4.below ?_ b1 (by simp; omega)
      simp [Cells4, go_sem]
    · exact frozen_below b1 (by simp; omega) (fun j => by simp [go_sem])
  clear b1 q1 hb0
  go_wp2
  go_loopw [12] (fun i wr => TRel l w i wr) (fun i _ => 4 - (intOf i).toNat)
  case atStart => exact hst
  case round =>
    clear hst
    obtain ⟨k, hk, rfl, hsome, C, F, C', F', hb, hsz⟩ := hrel
    obtain ⟨y0, y1, y2, y3⟩ := C'
    have hx0 := fun a b c d w => (ix4 a b c d w).1
    have hx1 := fun a b c d w => (ix4 a b c d w).2.1
    have hx2 := fun a b c d w => (ix4 a b c d w).2.2.1
    have hx3 := fun a b c d w => (ix4 a b c d w).2.2.2
    have hcase : k = 0 ∨ k = 1 ∨ k = 2 ∨ k = 3 ∨ k = 4 := by omega
    rcases hcase with rfl | rfl | rfl | rfl | rfl
    · have CN := hide fun w hE => number_fld (f0 l) (Nat.le_trans (fld_len l 0) hll) w hE
      obtain ⟨q, hq⟩ : ∃ q, nans (numOf (f0 l)) = q := ⟨_, rfl⟩
      obtain ⟨o, ho⟩ : ∃ o, (numOf (f0 l)).isSome = o := ⟨_, rfl⟩
      rw [hq, ho] at CN
      have HQ := hide hq
      have HO := hide ho
      clear hq ho
      have HS := hide hsome
      have HC := hide C
      have HF := hide F
      clear hsome C F
      go_wp2_with fail
      refine (unhide CN _ ((unhide HE).below hb)).mono ?_
      rintro e w2 ⟨rfl, b2⟩
      have s2 := b2.size
      have z0 := (b2.cell (p := ⟨w.heap.size, 0, none⟩) (by show w.heap.size < _; omega)).trans y0
      have z1 := (b2.cell (p := ⟨w.heap.size, 1, none⟩) (by show w.heap.size < _; omega)).trans y1
      have z2 := (b2.cell (p := ⟨w.heap.size, 2, none⟩) (by show w.heap.size < _; omega)).trans y2
      have z3 := (b2.cell (p := ⟨w.heap.size, 3, none⟩) (by show w.heap.size < _; omega)).trans y3
      have zf := frozen_below b2 (by omega) F'
      have hb2 := hb.trans (b2.mono (by omega))
      have C2 := Cells4.below (unhide HC) b2 (by omega)
      have F2 := frozen_below b2 (by omega) (unhide HF)
      obtain ⟨n0, n1, n2, n3⟩ := C2
      cases o
      · clear n0 n1 n2 n3 F2 HC HF HS y0 y1 y2 y3 F'
        go_wp2
        refine bodyPost_ret (v := .tuple #[txv 0 0 0 0, .bool false]) (by simp [results, Tryd.results13, go_sem, z0, z1, z2, z3]) rfl ?_
        exact ⟨by rw [none_ans (l := l) (j := 0) (by omega) (unhide HO)]; rfl, (((hb2.setCell (Nat.le_refl _) _).setCell (Nat.le_refl _) _).setCell (Nat.le_refl _) _).setCell (Nat.le_refl _) _⟩
      · go_wp2
        go_roundw
        case rel =>
          refine ⟨1, by omega, by go_num, fun j hj => ?_, ?_, ?_, ?_, ?_, hb2.setCell (by simp) _, by simp; omega⟩
          · by_cases hj' : j = 0
            · subst hj'; exact unhide HO
            · exact unhide HS j (by omega)
          · exact ⟨(World.cell?_setCell_same _ _ _ n0).trans (by rw [← unhide HQ]; rfl), (World.cell?_setCell_other _ _ _ _ (by simp)).trans n1, (World.cell?_setCell_other _ _ _ _ (by simp)).trans n2, (World.cell?_setCell_other _ _ _ _ (by simp)).trans n3⟩
          · intro j; rw [World.frozen?_setCell]; exact F2 j
          · exact ⟨(World.cell?_setCell_other _ _ _ _ (by simp)).trans z0, (World.cell?_setCell_other _ _ _ _ (by simp)).trans z1, (World.cell?_setCell_other _ _ _ _ (by simp)).trans z2, (World.cell?_setCell_other _ _ _ _ (by simp)).trans z3⟩
          · intro j; rw [World.frozen?_setCell]; exact zf j
        case measure => simp [intOf]
    · have CN := hide fun w hE => number_fld (f1 l) (Nat.le_trans (fld_len l 1) hll) w hE
      obtain ⟨q, hq⟩ : ∃ q, nans (numOf (f1 l)) = q := ⟨_, rfl⟩
      obtain ⟨o, ho⟩ : ∃ o, (numOf (f1 l)).isSome = o := ⟨_, rfl⟩
      rw [hq, ho] at CN
      have HQ := hide hq
      have HO := hide ho
      clear hq ho
      have HS := hide hsome
      have HC := hide C
      have HF := hide F
      clear hsome C F
      go_wp2_with fail
      refine (unhide CN _ ((unhide HE).below hb)).mono ?_
      rintro e w2 ⟨rfl, b2⟩
      have s2 := b2.size
      have z0 := (b2.cell (p := ⟨w.heap.size, 0, none⟩) (by show w.heap.size < _; omega)).trans y0
      have z1 := (b2.cell (p := ⟨w.heap.size, 1, none⟩) (by show w.heap.size < _; omega)).trans y1
      have z2 := (b2.cell (p := ⟨w.heap.size, 2, none⟩) (by show w.heap.size < _; omega)).trans y2
      have z3 := (b2.cell (p := ⟨w.heap.size, 3, none⟩) (by show w.heap.size < _; omega)).trans y3
      have zf := frozen_below b2 (by omega) F'
      have hb2 := hb.trans (b2.mono (by omega))
      have C2 := Cells4.below (unhide HC) b2 (by omega)
      have F2 := frozen_below b2 (by omega) (unhide HF)
      obtain ⟨n0, n1, n2, n3⟩ := C2
      cases o
      · clear n0 n1 n2 n3 F2 HC HF HS y0 y1 y2 y3 F'
        go_wp2
        refine bodyPost_ret (v := .tuple #[txv 0 0 0 0, .bool false]) (by simp [results, Tryd.results13, go_sem, z0, z1, z2, z3]) rfl ?_
        exact ⟨by rw [none_ans (l := l) (j := 1) (by omega) (unhide HO)]; rfl, (((hb2.setCell (Nat.le_refl _) _).setCell (Nat.le_refl _) _).setCell (Nat.le_refl _) _).setCell (Nat.le_refl _) _⟩
      · go_wp2
        go_roundw
        case rel =>
          refine ⟨2, by omega, by go_num, fun j hj => ?_, ?_, ?_, ?_, ?_, hb2.setCell (by simp) _, by simp; omega⟩
          · by_cases hj' : j = 1
            · subst hj'; exact unhide HO
            · exact unhide HS j (by omega)
          · exact ⟨(World.cell?_setCell_other _ _ _ _ (by simp)).trans n0, (World.cell?_setCell_same _ _ _ n1).trans (by rw [← unhide HQ]; rfl), (World.cell?_setCell_other _ _ _ _ (by simp)).trans n2, (World.cell?_setCell_other _ _ _ _ (by simp)).trans n3⟩
          · intro j; rw [World.frozen?_setCell]; exact F2 j
          · exact ⟨(World.cell?_setCell_other _ _ _ _ (by simp)).trans z0, (World.cell?_setCell_other _ _ _ _ (by simp)).trans z1, (World.cell?_setCell_other _ _ _ _ (by simp)).trans z2, (World.cell?_setCell_other _ _ _ _ (by simp)).trans z3⟩
          · intro j; rw [World.frozen?_setCell]; exact zf j
        case measure => simp [intOf]
    · have CN := hide fun w hE => number_fld (f2 l) (Nat.le_trans (fld_len l 2) hll) w hE
      obtain ⟨q, hq⟩ : ∃ q, nans (numOf (f2 l)) = q := ⟨_, rfl⟩
      obtain ⟨o, ho⟩ : ∃ o, (numOf (f2 l)).isSome = o := ⟨_, rfl⟩
      rw [hq, ho] at CN
      have HQ := hide hq
      have HO := hide ho
      clear hq ho
      have HS := hide hsome
      have HC := hide C
      have HF := hide F
      clear hsome C F
      go_wp2_with fail
      refine (unhide CN _ ((unhide HE).below hb)).mono ?_
      rintro e w2 ⟨rfl, b2⟩
      have s2 := b2.size
      have z0 := (b2.cell (p := ⟨w.heap.size, 0, none⟩) (by show w.heap.size < _; omega)).trans y0
      have z1 := (b2.cell (p := ⟨w.heap.size, 1, none⟩) (by show w.heap.size < _; omega)).trans y1
      have z2 := (b2.cell (p := ⟨w.heap.size, 2, none⟩) (by show w.heap.size < _; omega)).trans y2
      have z3 := (b2.cell (p := ⟨w.heap.size, 3, none⟩) (by show w.heap.size < _; omega)).trans y3
      have zf := frozen_below b2 (by omega) F'
      have hb2 := hb.trans (b2.mono (by omega))
      have C2 := Cells4.below (unhide HC) b2 (by omega)
      have F2 := frozen_below b2 (by omega) (unhide HF)
      obtain ⟨n0, n1, n2, n3⟩ := C2
      cases o
      · clear n0 n1 n2 n3 F2 HC HF HS y0 y1 y2 y3 F'
        go_wp2
        refine bodyPost_ret (v := .tuple #[txv 0 0 0 0, .bool false]) (by simp [results, Tryd.results13, go_sem, z0, z1, z2, z3]) rfl ?_
        exact ⟨by rw [none_ans (l := l) (j := 2) (by omega) (unhide HO)]; rfl, (((hb2.setCell (Nat.le_refl _) _).setCell (Nat.le_refl _) _).setCell (Nat.le_refl _) _).setCell (Nat.le_refl _) _⟩
      · go_wp2
        go_roundw
        case rel =>
          refine ⟨3, by omega, by go_num, fun j hj => ?_, ?_, ?_, ?_, ?_, hb2.setCell (by simp) _, by simp; omega⟩
          · by_cases hj' : j = 2
            · subst hj'; exact unhide HO
            · exact unhide HS j (by omega)
          · exact ⟨(World.cell?_setCell_other _ _ _ _ (by simp)).trans n0, (World.cell?_setCell_other _ _ _ _ (by simp)).trans n1, (World.cell?_setCell_same _ _ _ n2).trans (by rw [← unhide HQ]; rfl), (World.cell?_setCell_other _ _ _ _ (by simp)).trans n3⟩
          · intro j; rw [World.frozen?_setCell]; exact F2 j
          · exact ⟨(World.cell?_setCell_other _ _ _ _ (by simp)).trans z0, (World.cell?_setCell_other _ _ _ _ (by simp)).trans z1, (World.cell?_setCell_other _ _ _ _ (by simp)).trans z2, (World.cell?_setCell_other _ _ _ _ (by simp)).trans z3⟩
          · intro j; rw [World.frozen?_setCell]; exact zf j
        case measure => simp [intOf]
    · have CN := hide fun w hE => number_fld (f3 l) (Nat.le_trans (fld_len l 3) hll) w hE
      obtain ⟨q, hq⟩ : ∃ q, nans (numOf (f3 l)) = q := ⟨_, rfl⟩
      obtain ⟨o, ho⟩ : ∃ o, (numOf (f3 l)).isSome = o := ⟨_, rfl⟩
      rw [hq, ho] at CN
      have HQ := hide hq
      have HO := hide ho
      clear hq ho
      have HS := hide hsome
      have HC := hide C
      have HF := hide F
      clear hsome C F
      go_wp2_with fail
      refine (unhide CN _ ((unhide HE).below hb)).mono ?_
      rintro e w2 ⟨rfl, b2⟩
      have s2 := b2.size
      have z0 := (b2.cell (p := ⟨w.heap.size, 0, none⟩) (by show w.heap.size < _; omega)).trans y0
      have z1 := (b2.cell (p := ⟨w.heap.size, 1, none⟩) (by show w.heap.size < _; omega)).trans y1
      have z2 := (b2.cell (p := ⟨w.heap.size, 2, none⟩) (by show w.heap.size < _; omega)).trans y2
      have z3 := (b2.cell (p := ⟨w.heap.size, 3, none⟩) (by show w.heap.size < _; omega)).trans y3
      have zf := frozen_below b2 (by omega) F'
      have hb2 := hb.trans (b2.mono (by omega))
      have C2 := Cells4.below (unhide HC) b2 (by omega)
      have F2 := frozen_below b2 (by omega) (unhide HF)
      obtain ⟨n0, n1, n2, n3⟩ := C2
      cases o
      · clear n0 n1 n2 n3 F2 HC HF HS y0 y1 y2 y3 F'
        go_wp2
        refine bodyPost_ret (v := .tuple #[txv 0 0 0 0, .bool false]) (by simp [results, Tryd.results13, go_sem, z0, z1, z2, z3]) rfl ?_
        exact ⟨by rw [none_ans (l := l) (j := 3) (by omega) (unhide HO)]; rfl, (((hb2.setCell (Nat.le_refl _) _).setCell (Nat.le_refl _) _).setCell (Nat.le_refl _) _).setCell (Nat.le_refl _) _⟩
      · go_wp2
        go_roundw
        case rel =>
          refine ⟨4, by omega, by go_num, fun j hj => ?_, ?_, ?_, ?_, ?_, hb2.setCell (by simp) _, by simp; omega⟩
          · by_cases hj' : j = 3
            · subst hj'; exact unhide HO
            · exact unhide HS j (by omega)
          · exact ⟨(World.cell?_setCell_other _ _ _ _ (by simp)).trans n0, (World.cell?_setCell_other _ _ _ _ (by simp)).trans n1, (World.cell?_setCell_other _ _ _ _ (by simp)).trans n2, (World.cell?_setCell_same _ _ _ n3).trans (by rw [← unhide HQ]; rfl)⟩
          · intro j; rw [World.frozen?_setCell]; exact F2 j
          · exact ⟨(World.cell?_setCell_other _ _ _ _ (by simp)).trans z0, (World.cell?_setCell_other _ _ _ _ (by simp)).trans z1, (World.cell?_setCell_other _ _ _ _ (by simp)).trans z2, (World.cell?_setCell_other _ _ _ _ (by simp)).trans z3⟩
          · intro j; rw [World.frozen?_setCell]; exact zf j
        case measure => simp [intOf]
    · obtain ⟨a, ea⟩ := Option.isSome_iff_exists.1 (hsome 0 (by omega))
      obtain ⟨b, eb⟩ := Option.isSome_iff_exists.1 (hsome 1 (by omega))
      obtain ⟨c, ec⟩ := Option.isSome_iff_exists.1 (hsome 2 (by omega))
      obtain ⟨d, ed⟩ := Option.isSome_iff_exists.1 (hsome 3 (by omega))
      have v0 : nv l 4 0 = (a : Int) := by unfold nv; rw [if_pos (by omega), ea]; rfl
      have v1 : nv l 4 1 = (b : Int) := by unfold nv; rw [if_pos (by omega), eb]; rfl
      have v2 : nv l 4 2 = (c : Int) := by unfold nv; rw [if_pos (by omega), ec]; rfl
      have v3 : nv l 4 3 = (d : Int) := by unfold nv; rw [if_pos (by omega), ed]; rfl
      have HA : Hid (txAns l = if okN a b c d then some (a, b, c, d) else none) := by
        show txAns l = _
        unfold txAns
        simp only [fld] at ea eb ec ed
        rw [ea, eb, ec, ed]
      rw [v0, v1, v2, v3] at C
      obtain ⟨n0, n1, n2, n3⟩ := C
      have HF := hide F
      clear v0 v1 v2 v3 ea eb ec ed hsome F CU HE
      by_cases hok : okN a b c d
      · have CK := hide fun w => implTxOk_yes (a : Int) b c d w (ok_cast.2 hok)
        go_wp2_with fail
        refine (unhide CK _).mono ?_
        rintro e w2 ⟨rfl, b2⟩
        have X := (cells4_new wr a b c d 25).below b2 (by simp)
        obtain ⟨x0, x1, x2, x3⟩ := X
        have bw : Below wr.heap.size wr w2 := ((Below.refl _ _).alloc (Nat.le_refl _) _).trans (b2.mono (by simp))
        have bx : Below w.heap.size w w2 := hb.trans (bw.mono (by omega))
        obtain ⟨z0, z1, z2, z3⟩ := Cells4.below ⟨y0, y1, y2, y3⟩ bw (by omega)
        have zf := frozen_below bw (by omega) F'
        clear y0 y1 y2 y3 F' n0 n1 n2 n3 b2 HF
        go_wp2
        refine bodyPost_ret (v := .tuple #[txv a b c d, .bool true]) (by simp [results, Tryd.results13, go_sem, z0, z1, z2, z3]) rfl ?_
        exact ⟨by rw [unhide HA, if_pos hok]; rfl, (((bx.setCell (Nat.le_refl _) _).setCell (Nat.le_refl _) _).setCell (Nat.le_refl _) _).setCell (Nat.le_refl _) _⟩
      · have CK := hide fun w => implTxOk_no (a : Int) b c d w (fun h => hok (ok_cast.1 h))
        go_wp2_with fail
        refine (unhide CK _).mono ?_
        rintro e w2 ⟨rfl, b2⟩
        have X := (cells4_new wr a b c d 25).below b2 (by simp)
        obtain ⟨x0, x1, x2, x3⟩ := X
        have bw : Below wr.heap.size wr w2 := ((Below.refl _ _).alloc (Nat.le_refl _) _).trans (b2.mono (by simp))
        have bx : Below w.heap.size w w2 := hb.trans (bw.mono (by omega))
        obtain ⟨z0, z1, z2, z3⟩ := Cells4.below ⟨y0, y1, y2, y3⟩ bw (by omega)
        have zf := frozen_below bw (by omega) F'
        clear y0 y1 y2 y3 F' n0 n1 n2 n3 b2 HF
        go_wp2
        refine bodyPost_ret (v := .tuple #[txv 0 0 0 0, .bool false]) (by simp [results, Tryd.results13, go_sem, z0, z1, z2, z3]) rfl ?_
        exact ⟨by rw [unhide HA, if_neg hok]; rfl, (((bx.setCell (Nat.le_refl _) _).setCell (Nat.le_refl _) _).setCell (Nat.le_refl _) _).setCell (Nat.le_refl _) _⟩
end Go.Proofs.YtnbiphlificliaaDoor
