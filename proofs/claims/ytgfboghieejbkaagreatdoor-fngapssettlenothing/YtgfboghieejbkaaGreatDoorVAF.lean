/- Texts that belong together: SpecTxOf, ShelfMarks, TxList, ShelfClone, Clone, SplitPlain, Split, SpecSplit, TxsOf, StepsPlain, Draw, DrawNum, Plain, Text, DrawList, RoundPlain. -/
import Derived.Test.YtgfboghieejbkaaGreatDoorVAE
import Derived.Shelf.Strings.Builder1
import Derived.Shelf.Small.Wraps
import Derived.Shelf.Strconv.Atoi
import Derived.Shelf.Strconv.Itoa0
import Derived.Shelf.Strconv.Itoa1
import Derived.Shelf.LaysM
import Derived.Shelf.Strconv.Itoa2
import Derived.Shelf.Strconv.Itoa3
import Derived.Shelf.Strconv.AtoiErrFast
import Derived.Shelf.Strconv.ParseIntEmpty
import Derived.Shelf.Strconv.AtoiFail
import Derived.Shelf.Strconv.Clone
import Derived.Shelf.Strconv.SyntaxError
import Derived.Shelf.LaysC
import Derived.Shelf.Strconv.ToError
import Derived.Shelf.Strconv.Lower
import Derived.Shelf.Strconv.ParseUint10
import Derived.Shelf.Strconv.ParseUint10Empty
import Derived.Shelf.Strconv.ParseUint10Any
import Derived.Shelf.Strconv.ParseInt10
import Derived.Shelf.Strconv.AtoiLong
import Derived.Shelf.Strconv.AtoiInnerAll
import Derived.Shelf.Strconv.RangeError
import Derived.Shelf.Strconv.ToErrorRange
import Derived.Shelf.Strconv.AtoiAll
import Derived.Shelf.Strconv.ErrVarAll
import Derived.Shelf.Strings.Search1
import Derived.Shelf.Sort.Plain
import Derived.Shelf.Strings.LastIndex
import Derived.Shelf.Strings.Prefix
import Derived.Shelf.Slices.In.SortNone
import Derived.Test.YtgfboghieejbkaaGreatDoorProg
import Derived.Test.YtgfboghieejbkaaGreatDoorVAD
import Derived.Deep.RegionHeld3
import Derived.Deep.DeepCutAuto
import Derived.Test.YtgfboghieejbkaaGreatDoorVAA
import Derived.WalkKit
import Derived.Laws.Bits128
import Derived.Lib.AppendStr
import Derived.Laws.IdiomStrings
import Derived.Laws.BitsAllLaws
import Derived.Laws.BytesArg
namespace Go.Proofs.YtgfboghieejbkaaGreatDoor
open Go.RowKit
set_option linter.unusedSectionVars false
variable [∀ (a b c d : Int), Decidable (Ok4 a b c d)]
variable [∀ (a b c d : Nat), Decidable (okN a b c d)]

theorem drewN_below (w : World) (n : Nat) : Below w.heap.size w (w.drewN n) := ⟨rfl, rfl, rfl, Nat.le_refl _, fun _ _ => rfl⟩
def cutS (m : UInt8) (l : List UInt8) : List UInt8 × List UInt8 × Bool := if m ∈ l then (hd m l, tl m l, true) else ([], [], false)

set_option maxHeartbeats 1600000 in
set_option maxRecDepth 100000 in
theorem l2Cut_any (m : UInt8) (b : Int) (hb : (m.toNat : Int) = b) (s : ByteArray) (w : World) (hs : s.size ≤ 33554432) :
    Calls Tryz.prog 178 #[.string s, .int .u8 b] w fun e w' => e = .returned (.tuple #[.string (toB (cutS m s.data.toList).1), .string (toB (cutS m s.data.toList).2.1), .bool (cutS m s.data.toList).2.2]) ∧ Below w.heap.size w w' := by
  go_enter Tryz.func178, Tryz.ntmps178
  go_wp2
  go_loop [7] (fun i => ∃ k : Nat, k ≤ s.size ∧ i = .int .i64 k ∧ Hid (m ∉ s.data.toList.take k)) (fun i => s.size - (intOf i).toNat)
  case atStart => exact ⟨0, by omega, rfl, hide (by simp)⟩
  case round =>
    obtain ⟨k, hk, rfl, HN⟩ := hrel
    by_cases hlt : k < s.size
    · by_cases hbk : s[k] = m
      · have hbk' : ((s[k].toNat : Int) == b) = true := by rw [hbk, hb]; simp
        have HA : Hid (cutS m s.data.toList = ((s.extract 0 k).data.toList, (s.extract (k + 1) s.size).data.toList, true)) := by
          have hj : s.data.toList[k]? = some m := by rw [List.getElem?_eq_getElem (by simpa using hlt), ← hbk]; rfl
          obtain ⟨e1, e2⟩ := hit_hd HN.out hj
          have hm : m ∈ s.data.toList := List.mem_of_getElem? hj
          show cutS m s.data.toList = _
          unfold cutS
          rw [if_pos hm, e1, e2, ext_list, ext_list, List.take_of_length_le (l := s.data.toList.drop (k + 1)) (by simp)]
          simp
        have hk1 : k + 1 ≤ s.size := by omega
        clear hbk HN
        go_wp2
        go_quiet (fail)
        go_wp2
        go_ret3
        exact ⟨by rw [unhide HA]; rfl, drewN_below _ _⟩
      · have hbk' : ((s[k].toNat : Int) == b) = false := by
          rw [← hb]; simp; intro e; exact hbk (UInt8.toNat_inj.1 (by omega))
        have HN' : Hid (m ∉ s.data.toList.take (k + 1)) := by
          show _ ∉ _
          rw [take_snoc s k hlt, List.mem_append]
          rintro (h | h)
          · exact HN.out h
          · simp at h; exact hbk h.symm
        clear hbk HN
        go_wp2
        go_round
        case rel => exact ⟨k + 1, by omega, by go_num, HN'⟩
        case measure => simp [intOf]; omega
    · have hks : k = s.size := by omega
      have HA : Hid (cutS m s.data.toList = ([], [], false)) := by
        have := HN.out
        rw [hks, List.take_of_length_le (by rw [len_data]; omega)] at this
        show cutS m s.data.toList = _
        unfold cutS; rw [if_neg this]
      clear HN hks
      go_wp2
      go_ret3
      exact ⟨by rw [unhide HA]; rfl, Below.refl _ _⟩

theorem cutS_len (m : UInt8) (l : List UInt8) : (cutS m l).1.length ≤ l.length ∧ (cutS m l).2.1.length ≤ l.length := by
  unfold cutS
  split
  · exact ⟨hd_len m l, tl_len m l⟩
  · simp
theorem dg_toB (n : Nat) : dg (n : Int) = toB (Lib.decDigits n) := by unfold dg toB; rw [itoa_nat]
theorem txs_toB (a b c d : Nat) : txs a b c d = toB (txl a b c d) := by
  unfold txs
  rw [dg_toB, dg_toB, dg_toB, dg_toB]
  apply ByteArray.ext
  apply Array.toList_inj.1
  simp [toB, txl]
theorem txl_ne (a b c d : Nat) : txl a b c d ≠ [] := by unfold txl; simp
theorem toB_data (s : ByteArray) : toB s.data.toList = s := by
  apply ByteArray.ext; apply Array.toList_inj.1; rfl
theorem isTx_txt {s : ByteArray} {a b c d : Nat} (h : IsTx s.data.toList a b c d) : txt (a : Int) b c d = s := by
  unfold txt
  rw [if_pos (ok_cast.2 h.1), txs_toB, h.2, toB_data]
theorem txt_isTx {s : ByteArray} {a b c d : Nat} (h : txt (a : Int) b c d = s) (hs : s ≠ ⟨#[]⟩) : IsTx s.data.toList a b c d := by
  unfold txt at h
  split at h
  · rename_i hk
    refine ⟨ok_cast.1 hk, ?_⟩
    rw [txs_toB] at h
    rw [← h]; rfl
  · exact absurd h.symm hs
theorem mem_of_tl {m : UInt8} {l : List UInt8} (h : tl m l ≠ []) : m ∈ l := by rw [hd_tl h]; simp
theorem cuts_of {l : List UInt8} {a b c d : Nat} (h : IsTx l a b c d) : (cutS 62 l).1 = f0 l ∧ (cutS 58 (cutS 62 l).2.1).1 = f1 l ∧ (cutS 35 (cutS 58 (cutS 62 l).2.1).2.1).1 = f2 l ∧ (cutS 35 (cutS 58 (cutS 62 l).2.1).2.1).2.1 = f3 l := by
  obtain ⟨e0, e1, e2, e3⟩ := fields_of h
  have n1 := digits_ne b
  have n2 := digits_ne c
  have n3 := digits_ne d
  rw [← e1] at n1; rw [← e2] at n2; rw [← e3] at n3
  unfold f0 f1 f2 f3 at *
  have t0 : tl 62 l ≠ [] := fun e => n1 (by rw [e, hd_nil])
  have t1 : tl 58 (tl 62 l) ≠ [] := fun e => n2 (by rw [e, hd_nil])
  have c0 : cutS 62 l = (hd 62 l, tl 62 l, true) := by unfold cutS; rw [if_pos (mem_of_tl t0)]
  have c1 : cutS 58 (tl 62 l) = (hd 58 (tl 62 l), tl 58 (tl 62 l), true) := by unfold cutS; rw [if_pos (mem_of_tl t1)]
  have c2 : cutS 35 (tl 58 (tl 62 l)) = (hd 35 (tl 58 (tl 62 l)), tl 35 (tl 58 (tl 62 l)), true) := by unfold cutS; rw [if_pos (mem_of_tl n3)]
  refine ⟨by rw [c0], by rw [c0]; exact congrArg Prod.fst c1, ?_, ?_⟩
  · rw [c0]; show (cutS 35 (cutS 58 (tl 62 l)).2.1).1 = _; rw [c1]; exact congrArg Prod.fst c2
  · rw [c0]; show (cutS 35 (cutS 58 (tl 62 l)).2.1).2.1 = _; rw [c1]; exact congrArg (fun x => x.2.1) c2
theorem l2Cut_B (m : UInt8) (b : Int) (hb : (m.toNat : Int) = b) (l : List UInt8) (w : World) (hs : l.length ≤ 33554432) :
    Calls Tryz.prog 178 #[.string (toB l), .int .u8 b] w fun e w' => e = .returned (.tuple #[.string (toB (cutS m l).1), .string (toB (cutS m l).2.1), .bool (cutS m l).2.2]) ∧ Below w.heap.size w w' := by
  have := l2Cut_any m b hb (toB l) w (by rw [toB_size]; exact hs)
  rwa [toB_list] at this
def nn (x : List UInt8) : Nat := (numOf x).getD 0
theorem nans_nn (x : List UInt8) : nans (numOf x) = (nn x : Int) := by unfold nn nans; cases numOf x <;> rfl
theorem specNumber_B (x : List UInt8) (w : World) (hx : x.length ≤ 33554432) :
    Calls Tryz.prog 179 #[.string (toB x)] w fun e w' => e = .returned (.tuple #[.int .i64 (nn x), .bool (numOf x).isSome]) ∧ Below w.heap.size w w' := by
  have := specNumber_any (toB x) w (by rw [toB_size]; unfold maxLen; omega)
  rwa [toB_list, nans_nn] at this

theorem c4_other {w : World} {g g' : Nat} {a b c d : Int} (h : Cells4 w g' a b c d) (hg : g' ≠ g) (j : Nat) (v : Value) : Cells4 (w.setCell ⟨g, j, none⟩ v) g' a b c d :=
  ⟨(World.cell?_setCell_other _ _ _ _ (fun e => hg (congrArg Addr.block e.symm))).trans h.1, (World.cell?_setCell_other _ _ _ _ (fun e => hg (congrArg Addr.block e.symm))).trans h.2.1, (World.cell?_setCell_other _ _ _ _ (fun e => hg (congrArg Addr.block e.symm))).trans h.2.2.1, (World.cell?_setCell_other _ _ _ _ (fun e => hg (congrArg Addr.block e.symm))).trans h.2.2.2⟩
theorem c4_set0 {w : World} {g : Nat} {a b c d : Int} (h : Cells4 w g a b c d) (p : Int) : Cells4 (w.setCell ⟨g, 0, none⟩ (.int .i64 p)) g p b c d :=
  ⟨World.cell?_setCell_same _ _ _ h.1, (World.cell?_setCell_other _ _ _ _ (by simp)).trans h.2.1, (World.cell?_setCell_other _ _ _ _ (by simp)).trans h.2.2.1, (World.cell?_setCell_other _ _ _ _ (by simp)).trans h.2.2.2⟩
theorem c4_set1 {w : World} {g : Nat} {a b c d : Int} (h : Cells4 w g a b c d) (p : Int) : Cells4 (w.setCell ⟨g, 1, none⟩ (.int .i64 p)) g a p c d :=
  ⟨(World.cell?_setCell_other _ _ _ _ (by simp)).trans h.1, World.cell?_setCell_same _ _ _ h.2.1, (World.cell?_setCell_other _ _ _ _ (by simp)).trans h.2.2.1, (World.cell?_setCell_other _ _ _ _ (by simp)).trans h.2.2.2⟩
theorem c4_set2 {w : World} {g : Nat} {a b c d : Int} (h : Cells4 w g a b c d) (p : Int) : Cells4 (w.setCell ⟨g, 2, none⟩ (.int .i64 p)) g a b p d :=
  ⟨(World.cell?_setCell_other _ _ _ _ (by simp)).trans h.1, (World.cell?_setCell_other _ _ _ _ (by simp)).trans h.2.1, World.cell?_setCell_same _ _ _ h.2.2.1, (World.cell?_setCell_other _ _ _ _ (by simp)).trans h.2.2.2⟩
theorem c4_set3 {w : World} {g : Nat} {a b c d : Int} (h : Cells4 w g a b c d) (p : Int) : Cells4 (w.setCell ⟨g, 3, none⟩ (.int .i64 p)) g a b c p :=
  ⟨(World.cell?_setCell_other _ _ _ _ (by simp)).trans h.1, (World.cell?_setCell_other _ _ _ _ (by simp)).trans h.2.1, (World.cell?_setCell_other _ _ _ _ (by simp)).trans h.2.2.1, World.cell?_setCell_same _ _ _ h.2.2.2⟩
theorem fr_set {w : World} {g g' j : Nat} {v : Value} (h : ∀ i, w.frozen? ⟨g', i, none⟩ = false) : ∀ i, (w.setCell ⟨g, j, none⟩ v).frozen? ⟨g', i, none⟩ = false := fun i => by rw [World.frozen?_setCell]; exact h i

set_option maxHeartbeats 4000000 in
set_option maxRecDepth 100000 in
theorem specTxOf (s : ByteArray) (w : World) (hs : s.size ≤ 33554432) :
    Calls Tryz.prog 199 #[.string s] w fun e w' => e = .returned (txval (txAns s.data.toList)) ∧ Below w.heap.size w w' := by
  obtain ⟨l, hl⟩ : ∃ l, s.data.toList = l := ⟨_, rfl⟩
  have hll : l.length ≤ 33554432 := by rw [← hl]; simpa using hs
  have hsl : s = toB l := by rw [← hl, toB_data]
  obtain ⟨x0, e0⟩ : ∃ x, x = (cutS 62 l).1 := ⟨_, rfl⟩
  obtain ⟨r0, g0⟩ : ∃ x, x = (cutS 62 l).2.1 := ⟨_, rfl⟩
  obtain ⟨x1, e1⟩ : ∃ x, x = (cutS 58 r0).1 := ⟨_, rfl⟩
  obtain ⟨r1, g1⟩ : ∃ x, x = (cutS 58 r0).2.1 := ⟨_, rfl⟩
  obtain ⟨x2, e2⟩ : ∃ x, x = (cutS 35 r1).1 := ⟨_, rfl⟩
  obtain ⟨x3, e3⟩ : ∃ x, x = (cutS 35 r1).2.1 := ⟨_, rfl⟩
  have l0 := cutS_len 62 l
  rw [← e0, ← g0] at l0
  have l1 := cutS_len 58 r0
  rw [← e1, ← g1] at l1
  have l2 := cutS_len 35 r1
  rw [← e2, ← e3] at l2
  have K0 := hide fun w => l2Cut_B 62 62 rfl l w hll
  have K1 := hide fun w => l2Cut_B 58 58 rfl r0 w (by omega)
  have K2 := hide fun w => l2Cut_B 35 35 rfl r1 w (by omega)
  rw [← e0, ← g0, ← hsl] at K0
  rw [← e1, ← g1] at K1
  rw [← e2, ← e3] at K2
  have M0 := hide fun w => specNumber_B x0 w (by omega)
  have M1 := hide fun w => specNumber_B x1 w (by omega)
  have M2 := hide fun w => specNumber_B x2 w (by omega)
  have M3 := hide fun w => specNumber_B x3 w (by omega)
  have T := hide fun w => specTxText (nn x0 : Int) (nn x1) (nn x2) (nn x3) w
  have HY : Hid (∀ a b c d, IsTx l a b c d → nn x0 = a ∧ nn x1 = b ∧ nn x2 = c ∧ nn x3 = d) := by
    intro a b c d h
    obtain ⟨c0, c1, c2, c3⟩ := cuts_of h
    obtain ⟨n0, n1, n2, n3⟩ := nums_of h
    rw [e3, e2, e1, e0, g1, g0, c0, c1, c2, c3]
    unfold nn
    rw [n0, n1, n2, n3]
    exact ⟨rfl, rfl, rfl, rfl⟩
  obtain ⟨t, ht⟩ : ∃ t, t = txt (nn x0 : Int) (nn x1) (nn x2) (nn x3) := ⟨_, rfl⟩
  have HA : Hid ((s ≠ ⟨#[]⟩ ∧ t = s ∧ txAns l = some (nn x0, nn x1, nn x2, nn x3)) ∨ (txAns l = none ∧ (s = ⟨#[]⟩ ∨ (s ≠ ⟨#[]⟩ ∧ t ≠ s)))) := by
    show _ ∨ _
    cases hq : txAns l with
    | some q =>
      obtain ⟨a, b, c, d⟩ := q
      have h := txAns_is hq
      obtain ⟨rfl, rfl, rfl, rfl⟩ := unhide HY a b c d h
      rw [← hl] at h
      refine .inl ⟨?_, by rw [ht]; exact isTx_txt h, rfl⟩
      intro e
      have := h.2
      rw [e] at this
      exact txl_ne _ _ _ _ this
    | none =>
      refine .inr ⟨rfl, ?_⟩
      by_cases hz : s = ⟨#[]⟩
      · exact .inl hz
      · refine .inr ⟨hz, fun e => ?_⟩
        rw [ht] at e
        have := txAns_some (txt_isTx e hz)
        rw [hl, hq] at this
        cases this
  rw [← ht] at T
  rw [hl]
  clear ht HY e0 e1 e2 e3 g0 g1 l0 l1 l2 hl hsl hll
  obtain ⟨p0, hp0⟩ : ∃ p, p = nn x0 := ⟨_, rfl⟩
  obtain ⟨p1, hp1⟩ : ∃ p, p = nn x1 := ⟨_, rfl⟩
  obtain ⟨p2, hp2⟩ : ∃ p, p = nn x2 := ⟨_, rfl⟩
  obtain ⟨p3, hp3⟩ : ∃ p, p = nn x3 := ⟨_, rfl⟩
  rw [← hp0] at M0 T HA
  rw [← hp1] at M1 T HA
  rw [← hp2] at M2 T HA
  rw [← hp3] at M3 T HA
  clear hp0 hp1 hp2 hp3
  go_enter Tryz.func199, Tryz.ntmps199
  go_wp2_with fail
  refine (unhide K0 _).mono ?_
  rintro e w1 ⟨rfl, b1⟩
  have z1 := (cells4_new w 0 0 0 0 183).below b1 (by simp)
  have f1 := frozen_below b1 (g := w.heap.size) (by simp) (fun j => by simp [go_sem])
  have c1 : Below w.heap.size w w1 := ((Below.refl _ _).alloc (Nat.le_refl _) _).trans (b1.mono (by simp))
  have s1 := b1.size
  simp at s1
  clear b1
  go_wp2_with fail
  refine (unhide K1 _).mono ?_
  rintro e w2 ⟨rfl, b2⟩
  have z2 := z1.below b2 (by omega)
  have f2 := frozen_below b2 (g := w.heap.size) (by omega) f1
  have c2 := c1.trans (b2.mono (by omega))
  have s2 := b2.size
  clear b2 z1 f1 c1
  go_wp2_with fail
  refine (unhide K2 _).mono ?_
  rintro e w3 ⟨rfl, b3⟩
  have z3 := z2.below b3 (by omega)
  have f3 := frozen_below b3 (g := w.heap.size) (by omega) f2
  have c3 := c2.trans (b3.mono (by omega))
  have s3 := b3.size
  clear b3 z2 f2 c2
  have bn : Below w3.heap.size w3 (w3.alloc (.cells #[.int .i64 0, .int .i64 0, .int .i64 0, .int .i64 0] 183)) := (Below.refl _ _).alloc (Nat.le_refl _) _
  have X0 := cells4_new w3 0 0 0 0 183
  have Y0 : ∀ j, (w3.alloc (.cells #[.int .i64 0, .int .i64 0, .int .i64 0, .int .i64 0] 183)).frozen? ⟨w3.heap.size, j, none⟩ = false := fun j => by simp [go_sem]
  have Z0 := z3.below bn (by omega)
  have F0 := frozen_below bn (g := w.heap.size) (by omega) f3
  have C0 := c3.trans (bn.mono (by omega))
  have S0 : w3.heap.size + 1 ≤ (w3.alloc (.cells #[.int .i64 0, .int .i64 0, .int .i64 0, .int .i64 0] 183)).heap.size := by simp
  clear bn z3 f3 c3
  have P := hide (And.intro X0 (And.intro Y0 (And.intro Z0 (And.intro F0 (And.intro C0 S0)))))
  clear X0 Y0 Z0 F0 C0 S0
  go_wp2_with fail
  refine (unhide M0 _).mono ?_
  rintro e w4 ⟨rfl, b⟩
  obtain ⟨X, Y, Z, F, C, S⟩ := unhide P
  clear P
  have S' := b.size
  have X' := X.below b (by omega)
  have Y' := frozen_below b (by omega) Y
  have Z' := Z.below b (by omega)
  have F' := frozen_below b (g := w.heap.size) (by omega) F
  have C' := C.trans (b.mono (by omega))
  have P := hide (And.intro (c4_set0 X' (p0 : Int)) (And.intro (fr_set (g := w3.heap.size) (j := 0) (v := .int .i64 (p0 : Int)) Y') (And.intro (c4_other (g := w3.heap.size) Z' (by omega) 0 (.int .i64 (p0 : Int))) (And.intro (fr_set (g := w3.heap.size) (j := 0) (v := .int .i64 (p0 : Int)) F') (And.intro (C'.setCell (p := ⟨w3.heap.size, 0, none⟩) (by show w.heap.size ≤ w3.heap.size; omega) (.int .i64 (p0 : Int))) (show w3.heap.size + 1 ≤ (w4.setCell ⟨w3.heap.size, 0, none⟩ (.int .i64 (p0 : Int))).heap.size by simp; omega))))))
  obtain ⟨y0, y1, y2, y3⟩ := X'
  have yf := Y' 0
  have S'' : w3.heap.size + 1 ≤ w4.heap.size := by omega
  clear X Y Z F C S b Y' Z' F' C'
  clear S'
  go_wp2_with fail
  refine (unhide M1 _).mono ?_
  rintro e w5 ⟨rfl, b⟩
  obtain ⟨X, Y, Z, F, C, S⟩ := unhide P
  clear P
  have S' := b.size
  have X' := X.below b (by omega)
  have Y' := frozen_below b (by omega) Y
  have Z' := Z.below b (by omega)
  have F' := frozen_below b (g := w.heap.size) (by omega) F
  have C' := C.trans (b.mono (by omega))
  have P := hide (And.intro (c4_set1 X' (p1 : Int)) (And.intro (fr_set (g := w3.heap.size) (j := 1) (v := .int .i64 (p1 : Int)) Y') (And.intro (c4_other (g := w3.heap.size) Z' (by omega) 1 (.int .i64 (p1 : Int))) (And.intro (fr_set (g := w3.heap.size) (j := 1) (v := .int .i64 (p1 : Int)) F') (And.intro (C'.setCell (p := ⟨w3.heap.size, 1, none⟩) (by show w.heap.size ≤ w3.heap.size; omega) (.int .i64 (p1 : Int))) (show w3.heap.size + 1 ≤ (w5.setCell ⟨w3.heap.size, 1, none⟩ (.int .i64 (p1 : Int))).heap.size by simp; omega))))))
  obtain ⟨y0, y1, y2, y3⟩ := X'
  have yf := Y' 1
  have S'' : w3.heap.size + 1 ≤ w5.heap.size := by omega
  clear X Y Z F C S b Y' Z' F' C'
  clear S'
  go_wp2_with fail
  refine (unhide M2 _).mono ?_
  rintro e w6 ⟨rfl, b⟩
  obtain ⟨X, Y, Z, F, C, S⟩ := unhide P
  clear P
  have S' := b.size
  have X' := X.below b (by omega)
  have Y' := frozen_below b (by omega) Y
  have Z' := Z.below b (by omega)
  have F' := frozen_below b (g := w.heap.size) (by omega) F
  have C' := C.trans (b.mono (by omega))
  have P := hide (And.intro (c4_set2 X' (p2 : Int)) (And.intro (fr_set (g := w3.heap.size) (j := 2) (v := .int .i64 (p2 : Int)) Y') (And.intro (c4_other (g := w3.heap.size) Z' (by omega) 2 (.int .i64 (p2 : Int))) (And.intro (fr_set (g := w3.heap.size) (j := 2) (v := .int .i64 (p2 : Int)) F') (And.intro (C'.setCell (p := ⟨w3.heap.size, 2, none⟩) (by show w.heap.size ≤ w3.heap.size; omega) (.int .i64 (p2 : Int))) (show w3.heap.size + 1 ≤ (w6.setCell ⟨w3.heap.size, 2, none⟩ (.int .i64 (p2 : Int))).heap.size by simp; omega))))))
  obtain ⟨y0, y1, y2, y3⟩ := X'
  have yf := Y' 2
  have S'' : w3.heap.size + 1 ≤ w6.heap.size := by omega
  clear X Y Z F C S b Y' Z' F' C'
  clear S'
  go_wp2_with fail
  refine (unhide M3 _).mono ?_
  rintro e w7 ⟨rfl, b⟩
  obtain ⟨X, Y, Z, F, C, S⟩ := unhide P
  clear P
  have S' := b.size
  have X' := X.below b (by omega)
  have Y' := frozen_below b (by omega) Y
  have Z' := Z.below b (by omega)
  have F' := frozen_below b (g := w.heap.size) (by omega) F
  have C' := C.trans (b.mono (by omega))
  have P := hide (And.intro (c4_set3 X' (p3 : Int)) (And.intro (fr_set (g := w3.heap.size) (j := 3) (v := .int .i64 (p3 : Int)) Y') (And.intro (c4_other (g := w3.heap.size) Z' (by omega) 3 (.int .i64 (p3 : Int))) (And.intro (fr_set (g := w3.heap.size) (j := 3) (v := .int .i64 (p3 : Int)) F') (And.intro (C'.setCell (p := ⟨w3.heap.size, 3, none⟩) (by show w.heap.size ≤ w3.heap.size; omega) (.int .i64 (p3 : Int))) (show w3.heap.size + 1 ≤ (w7.setCell ⟨w3.heap.size, 3, none⟩ (.int .i64 (p3 : Int))).heap.size by simp; omega))))))
  obtain ⟨y0, y1, y2, y3⟩ := X'
  have yf := Y' 3
  have S'' : w3.heap.size + 1 ≤ w7.heap.size := by omega
  clear X Y Z F C S b Y' Z' F' C'
  clear S'
  rcases unhide HA with ⟨hz, hts, hans⟩ | ⟨hans, hz | ⟨hz, hts⟩⟩
  · have hne := str_ne hz
    have hne2 : (s.toList == []) = false := by
      rw [beq_eq_false_iff_ne]; intro e; apply hz; apply ByteArray.ext; apply Array.toList_inj.1; rw [ByteArray.toList_eq] at e; exact e
    obtain ⟨n0, n1, n2, n3⟩ := (unhide P).1
    rw [hts] at T
    go_wp2_with fail
    refine (unhide T _).mono ?_
    rintro e w8 ⟨rfl, b8⟩
    obtain ⟨X, Y, Z, F, C, S⟩ := unhide P
    obtain ⟨m0, m1, m2, m3⟩ := Z.below b8 (by omega)
    have mf := frozen_below b8 (g := w.heap.size) (by omega) F
    obtain ⟨k0, k1, k2, k3⟩ := X.below b8 (by omega)
    have C8 := C.trans (b8.mono (by omega))
    clear P X Y Z F C S b8 n0 n1 n2 n3
    go_wp2
    refine bodyPost_ret (v := .tuple #[txv p0 p1 p2 p3, .bool true]) (by simp [results, Tryz.results199, go_sem, m0, m1, m2, m3]) rfl ?_
    exact ⟨by rw [hans]; rfl, (((C8.setCell (Nat.le_refl _) _).setCell (Nat.le_refl _) _).setCell (Nat.le_refl _) _).setCell (Nat.le_refl _) _⟩
  · subst hz
    obtain ⟨X, Y, Z, F, C, S⟩ := unhide P
    obtain ⟨n0, n1, n2, n3⟩ := X
    obtain ⟨m0, m1, m2, m3⟩ := Z
    clear P
    go_wp2
    refine bodyPost_ret (v := .tuple #[txv 0 0 0 0, .bool false]) (by simp [results, Tryz.results199, go_sem, m0, m1, m2, m3]) rfl ?_
    exact ⟨by rw [hans]; rfl, (((C.setCell (Nat.le_refl _) _).setCell (Nat.le_refl _) _).setCell (Nat.le_refl _) _).setCell (Nat.le_refl _) _⟩
  · have hne := str_ne hz
    have hne2 : (s.toList == []) = false := by
      rw [beq_eq_false_iff_ne]; intro e; apply hz; apply ByteArray.ext; apply Array.toList_inj.1; rw [ByteArray.toList_eq] at e; exact e
    have hnt := str_ne hts
    obtain ⟨n0, n1, n2, n3⟩ := (unhide P).1
    go_wp2_with fail
    refine (unhide T _).mono ?_
    rintro e w8 ⟨rfl, b8⟩
    obtain ⟨X, Y, Z, F, C, S⟩ := unhide P
    obtain ⟨m0, m1, m2, m3⟩ := Z.below b8 (by omega)
    have mf := frozen_below b8 (g := w.heap.size) (by omega) F
    obtain ⟨k0, k1, k2, k3⟩ := X.below b8 (by omega)
    have C8 := C.trans (b8.mono (by omega))
    clear P X Y Z F C S b8 n0 n1 n2 n3
    go_wp2
    refine bodyPost_ret (v := .tuple #[txv 0 0 0 0, .bool false]) (by simp [results, Tryz.results199, go_sem, m0, m1, m2, m3]) rfl ?_
    exact ⟨by rw [hans]; rfl, (((C8.setCell (Nat.le_refl _) _).setCell (Nat.le_refl _) _).setCell (Nat.le_refl _) _).setCell (Nat.le_refl _) _⟩
end Go.Proofs.YtgfboghieejbkaaGreatDoor
namespace Go.Proofs
open Go.Shelf
def Tryz.lays217_ren : Go.Shelf.Ren := ⟨fun | 217 => 246 | 266 => 262 | n => n, fun | 9 => 9 | 5 => 5 | 3 => 3 | n => n, fun | n => n⟩
theorem Tryz.lays217 : Go.Proofs.Lays.n217 Tryz.prog Tryz.lays217_ren := {
  mixed := by kernel_rfl
  f217 := Tryz.func246.trans (congrArg some (by kernel_rfl))
  f266 := Tryz.func262.trans (congrArg some (by kernel_rfl))
  t3 := Tryz.underlying3
  a3 := Tryz.isAgg3
  z3 := Tryz.sizeOf3
  v3 := Tryz.zeroValue3
  t5 := Tryz.underlying5
  a5 := Tryz.isAgg5
  z5 := Tryz.sizeOf5
  v5 := Tryz.zeroValue5
  t9 := Tryz.underlying9
  a9 := Tryz.isAgg9
  z9 := Tryz.sizeOf9
  v9 := Tryz.zeroValue9 }
open Go.RowKit Go.Lib in
theorem Tryz.stringslite_IndexByte (s : ByteArray) (c : Int) (w : World) :
    Calls Tryz.prog 246 #[.string s, .int .u8 c] w fun e w' => e = .returned (.int .i64 (Lib.indexByte s.data.toList c.toNat.toUInt8)) ∧ w' = w := Any.stringslite_IndexByte Tryz.lays217 s c w
def Tryz.lays222_ren : Go.Shelf.Ren := ⟨fun | 222 => 213 | n => n, fun | 9 => 9 | 5 => 5 | 3 => 3 | 4 => 4 | n => n, fun | n => n⟩
theorem Tryz.lays222 : Go.Proofs.Lays.n222 Tryz.prog Tryz.lays222_ren := {
  mixed := by kernel_rfl
  f222 := Tryz.func213.trans (congrArg some (by kernel_rfl))
  t3 := Tryz.underlying3
  a3 := Tryz.isAgg3
  z3 := Tryz.sizeOf3
  v3 := Tryz.zeroValue3
  t4 := Tryz.underlying4
  a4 := Tryz.isAgg4
  z4 := Tryz.sizeOf4
  v4 := Tryz.zeroValue4
  t5 := Tryz.underlying5
  a5 := Tryz.isAgg5
  z5 := Tryz.sizeOf5
  v5 := Tryz.zeroValue5
  t9 := Tryz.underlying9
  a9 := Tryz.isAgg9
  z9 := Tryz.sizeOf9
  v9 := Tryz.zeroValue9 }
open Go.RowKit Go.Lib in
theorem Tryz.bytealg_LastIndexByteString_nm (s : ByteArray) (c : Int) (hs : s.size < 4611686018427387904) (w : World) :
    Calls Tryz.prog 213 #[.string s, .int .u8 c] w fun e w' => e = .returned (.int .i64 (Lib.lastIndexByte s c)) ∧ w' = w := Any.bytealg_LastIndexByteString_nm Tryz.lays222 s c hs w
def Tryz.lays103_ren : Go.Shelf.Ren := ⟨fun | 103 => 216 | 210 => 226 | 206 => 182 | n => n, fun | 9 => 9 | 4 => 4 | 24 => 73 | 3 => 3 | n => n, fun | n => n⟩
theorem Tryz.lays103 : Go.Proofs.Lays.n103 Tryz.prog Tryz.lays103_ren := {
  mixed := by kernel_rfl
  f103 := Tryz.func216.trans (congrArg some (by kernel_rfl))
  f206 := Tryz.func182.trans (congrArg some (by kernel_rfl))
  f210 := Tryz.func226.trans (congrArg some (by kernel_rfl))
  t3 := Tryz.underlying3
  a3 := Tryz.isAgg3
  z3 := Tryz.sizeOf3
  v3 := Tryz.zeroValue3
  t4 := Tryz.underlying4
  a4 := Tryz.isAgg4
  z4 := Tryz.sizeOf4
  v4 := Tryz.zeroValue4
  t9 := Tryz.underlying9
  a9 := Tryz.isAgg9
  z9 := Tryz.sizeOf9
  v9 := Tryz.zeroValue9
  t24 := Tryz.underlying73
  a24 := Tryz.isAgg73
  z24 := Tryz.sizeOf73
  v24 := Tryz.zeroValue73 }
open Go.RowKit in
theorem Tryz.strings_CutPrefix (s p : ByteArray) (w : World) :
    Calls Tryz.prog 216 #[.string s, .string p] w fun e w' => e = .returned (.tuple #[.string ⟨(Lib.trimPrefix s.data.toList p.data.toList).toArray⟩, .bool (Lib.hasPrefix s.data.toList p.data.toList)]) ∧ w' = w := Any.strings_CutPrefix Tryz.lays103 s p w
def Tryz.lays99_ren : Go.Shelf.Ren := ⟨fun | 99 => 141 | 206 => 182 | n => n, fun | 9 => 9 | 4 => 4 | 3 => 3 | n => n, fun | n => n⟩
theorem Tryz.lays99 : Go.Proofs.Lays.n99 Tryz.prog Tryz.lays99_ren := {
  mixed := by kernel_rfl
  f99 := Tryz.func141.trans (congrArg some (by kernel_rfl))
  f206 := Tryz.func182.trans (congrArg some (by kernel_rfl))
  t3 := Tryz.underlying3
  a3 := Tryz.isAgg3
  z3 := Tryz.sizeOf3
  v3 := Tryz.zeroValue3
  t4 := Tryz.underlying4
  a4 := Tryz.isAgg4
  z4 := Tryz.sizeOf4
  v4 := Tryz.zeroValue4
  t9 := Tryz.underlying9
  a9 := Tryz.isAgg9
  z9 := Tryz.sizeOf9
  v9 := Tryz.zeroValue9 }
open Go.RowKit Go.Lib in
theorem Tryz.strings_HasPrefix (s p : ByteArray) (w : World) :
    Calls Tryz.prog 141 #[.string s, .string p] w fun e w' => e = .returned (.bool (Lib.hasPrefix s.data.toList p.data.toList)) ∧ w' = w := Any.strings_HasPrefix Tryz.lays99 s p w
end Go.Proofs
namespace Go.Proofs.YtgfboghieejbkaaGreatDoor
open Go.RowKit
set_option linter.unusedSectionVars false
variable [∀ (a b c d : Int), Decidable (Ok4 a b c d)]

abbrev T4 := Int × Int × Int × Int
def tcell (x : T4) : List Value := [.int .i64 x.1, .int .i64 x.2.1, .int .i64 x.2.2.1, .int .i64 x.2.2.2]
def tcells (xs : List T4) : List Value := xs.flatMap tcell
theorem tcell_len (x : T4) : (tcell x).length = 4 := rfl
theorem tcells_append (xs ys : List T4) : tcells (xs ++ ys) = tcells xs ++ tcells ys := by simp [tcells]
theorem tcells_get (xs : List T4) (k j : Nat) (hk : k < xs.length) (hj : j < 4) : (tcells xs)[k * 4 + j]? = (tcell (xs.getD k (0, 0, 0, 0)))[j]? := by
  induction xs generalizing k with
  | nil => simp at hk
  | cons x xs ih =>
    have e : tcells (x :: xs) = tcell x ++ tcells xs := by simp [tcells]
    rw [e]
    cases k with
    | zero => rw [Nat.zero_mul, Nat.zero_add, List.getElem?_append_left (by rw [tcell_len]; exact hj)]; rfl
    | succ k =>
      rw [List.getElem?_append_right (by rw [tcell_len]; omega), tcell_len, show (k + 1) * 4 + j - 4 = k * 4 + j from by omega, ih k (by simpa using hk)]
      rfl
def OT (w : World) (base : Nat) (v : Value) (xs : List T4) : Prop := w.ownsRow base 183 4 v xs.length (tcells xs)
def RT (w : World) (v : Value) (xs : List T4) : Prop :=
  xs.length ≤ 35184372088832 ∧ ∃ ao cap, v = .slice ao xs.length cap ∧ (xs = [] ∨ ∃ g, ao = some ⟨g, 0, none⟩ ∧ ∀ k, k < xs.length → w.cell? ⟨g, k * 4, none⟩ = some (.int .i64 (xs.getD k (0, 0, 0, 0)).1) ∧ w.cell? ⟨g, k * 4 + 1, none⟩ = some (.int .i64 (xs.getD k (0, 0, 0, 0)).2.1) ∧ w.cell? ⟨g, k * 4 + 2, none⟩ = some (.int .i64 (xs.getD k (0, 0, 0, 0)).2.2.1) ∧ w.cell? ⟨g, k * 4 + 3, none⟩ = some (.int .i64 (xs.getD k (0, 0, 0, 0)).2.2.2))
theorem OT.below {w w' : World} {base : Nat} {v : Value} {xs : List T4} (h : OT w base v xs) (hb : Below w.heap.size w w') : OT w' base v xs :=
  World.ownsRow.kept (row := none) h ⟨hb.os, hb.tape, hb.output, hb.size, fun k hk _ => hb.block k hk⟩ (by cases v.ownBlock <;> simp)
theorem OT.apart {w w' : World} {base N : Nat} {v u : Value} {xs : List T4} (h : OT w base v xs) (hg : w.grownBy w' u.ownBlock) (hv : ∀ k, v.ownBlock = some k → k < N) (hu : ∀ k, u.ownBlock = some k → N ≤ k) : OT w' base v xs := by
  refine World.ownsRow.kept h hg ?_
  cases hv' : v.ownBlock with
  | none => exact .inl rfl
  | some k => exact .inr fun e => by have := hv k hv'; have := hu k e.symm; omega
theorem OT.rt {w : World} {base : Nat} {v : Value} {xs : List T4} (h : OT w base v xs) (hl : xs.length ≤ 35184372088832) : RT w v xs := by
  refine ⟨hl, ?_⟩
  rcases h.2 with ⟨rfl, h0⟩ | ⟨g, cap, cur, rfl, _⟩
  · exact ⟨none, 0, by rw [h0], .inl (List.length_eq_zero_iff.1 h0)⟩
  · refine ⟨_, cap, rfl, .inr ⟨g, rfl, fun k hk => ?_⟩⟩
    have c0 := World.ownsRow.cellAt h (k * 4 + 0) (by omega)
    have c1 := World.ownsRow.cellAt h (k * 4 + 1) (by omega)
    have c2 := World.ownsRow.cellAt h (k * 4 + 2) (by omega)
    have c3 := World.ownsRow.cellAt h (k * 4 + 3) (by omega)
    rw [tcells_get xs k _ hk (by omega)] at c0 c1 c2 c3
    exact ⟨c0, c1, c2, c3⟩
theorem RT.below {w w' : World} {v : Value} {xs : List T4} (h : RT w v xs) (hb : Below w.heap.size w w') : RT w' v xs := by
  obtain ⟨hl, ao, cap, rfl, h⟩ := h
  refine ⟨hl, ao, cap, rfl, ?_⟩
  rcases h with h | ⟨g, rfl, h⟩
  · exact .inl h
  · refine .inr ⟨g, rfl, fun k hk => ?_⟩
    obtain ⟨c0, c1, c2, c3⟩ := h k hk
    have hg : g < w.heap.size := cell_lt c0
    exact ⟨(hb.cell (p := ⟨g, k * 4, none⟩) hg).trans c0, (hb.cell (p := ⟨g, k * 4 + 1, none⟩) hg).trans c1, (hb.cell (p := ⟨g, k * 4 + 2, none⟩) hg).trans c2, (hb.cell (p := ⟨g, k * 4 + 3, none⟩) hg).trans c3⟩
end Go.Proofs.YtgfboghieejbkaaGreatDoor
namespace Go.Proofs
open Go.Shelf
def Tryz.laysM316_ren : Go.Shelf.Ren := ⟨fun | 316 => 190 | n => n, fun | 9 => 9 | 3 => 3 | 4 => 4 | 37 => 22 | 0 => 0 | 127 => 236 | 5 => 5 | n => n, fun | n => n⟩
theorem Tryz.laysM316 : Go.Proofs.LaysM.n316 Tryz.prog Tryz.laysM316_ren := {
  mixed := by kernel_rfl
  f316 := Tryz.func190.trans (congrArg some (by kernel_rfl))
  t0 := Tryz.underlying0
  a0 := Tryz.isAgg0
  z0 := Tryz.sizeOf0
  v0 := Tryz.zeroValue0
  t3 := Tryz.underlying3
  a3 := Tryz.isAgg3
  z3 := Tryz.sizeOf3
  v3 := Tryz.zeroValue3
  t4 := Tryz.underlying4
  a4 := Tryz.isAgg4
  z4 := Tryz.sizeOf4
  v4 := Tryz.zeroValue4
  t9 := Tryz.underlying9
  a9 := Tryz.isAgg9
  z9 := Tryz.sizeOf9
  v9 := Tryz.zeroValue9
  t37 := Tryz.underlying22
  a37 := Tryz.isAgg22
  z37 := Tryz.sizeOf22
  v37 := Tryz.zeroValue22
  t127 := Tryz.underlying236
  a127 := Tryz.isAgg236
  z127 := Tryz.sizeOf236
  v127 := Tryz.zeroValue236
  t5 := Tryz.underlying5
  a5 := Tryz.isAgg5
  z5 := Tryz.sizeOf5
  v5 := Tryz.zeroValue5
  i0 := by kernel_rfl
  i3 := by kernel_rfl
  i4 := by kernel_rfl
  i5 := by kernel_rfl
  i9 := by kernel_rfl
  i37 := by kernel_rfl
  i127 := by kernel_rfl }
open Go.RowKit in
theorem Tryz.stringslite_Clone (s : ByteArray) (w : World) (hlim : s.size ≤ 281474976710656) :
    Calls Tryz.prog 190 #[.string s] w fun e w' => e = .returned (.string s) ∧ Below w.heap.size w w' := Any.stringslite_Clone Tryz.laysM316 s w hlim
end Go.Proofs
namespace Go.Proofs.YtgfboghieejbkaaGreatDoor
open Go.RowKit

def OS (w : World) (base : Nat) (v : Value) (xs : List ByteArray) : Prop := w.ownsRow base 9 1 v xs.length (xs.map Value.string)
theorem OS.below {w w' : World} {base : Nat} {v : Value} {xs : List ByteArray} (h : OS w base v xs) (hb : Below w.heap.size w w') : OS w' base v xs :=
  World.ownsRow.kept (row := none) h ⟨hb.os, hb.tape, hb.output, hb.size, fun k hk _ => hb.block k hk⟩ (by cases v.ownBlock <;> simp)

theorem clone_any (s : ByteArray) (w : World) (hs : s.size ≤ 281474976710656) :
    Calls Tryz.prog 155 #[.string s] w fun e w' => e = .returned (.string s) ∧ Below w.heap.size w w' := by
  go_enter Tryz.func155, Tryz.ntmps155
  go_wp2_with fail
  refine (Tryz.stringslite_Clone s _ hs).mono ?_
  rintro e w' ⟨rfl, b⟩
  go_wp2
  go_ret
  exact ⟨rfl, b⟩
end Go.Proofs.YtgfboghieejbkaaGreatDoor
namespace Go.Proofs.YtgfboghieejbkaaGreatDoor

def pcs (s : ByteArray) (b : Int) : Nat → List ByteArray × Nat
  | 0 => ([], 0)
  | k + 1 => if ((s.data.toList.getD k 0).toNat : Int) = b then ((pcs s b k).1 ++ [s.extract (pcs s b k).2 k], k + 1) else pcs s b k
theorem pcs_le (s : ByteArray) (b : Int) (k : Nat) : (pcs s b k).2 ≤ k ∧ (pcs s b k).1.length ≤ k := by
  induction k with
  | zero => simp [pcs]
  | succ k ih =>
    rw [pcs]; split
    · simp; omega
    · omega
def splitAns (s : ByteArray) (b : Int) : List ByteArray := (pcs s b s.size).1 ++ [s.extract (pcs s b s.size).2 s.size]
theorem splitAns_len (s : ByteArray) (b : Int) : (splitAns s b).length ≤ s.size + 1 := by
  have := (pcs_le s b s.size).2
  simp [splitAns]; omega
theorem pcs_hit (s : ByteArray) (b : Int) (k : Nat) (h : k < s.size) (hb : (s[k].toNat : Int) = b) : pcs s b (k + 1) = ((pcs s b k).1 ++ [s.extract (pcs s b k).2 k], k + 1) := by
  rw [pcs, if_pos]
  rw [← hb]
  have : s.data.toList.getD k 0 = s[k] := by rw [List.getD_eq_getElem?_getD, List.getElem?_eq_getElem (by simpa using h)]; rfl
  rw [this]
theorem pcs_miss (s : ByteArray) (b : Int) (k : Nat) (h : k < s.size) (hb : (s[k].toNat : Int) ≠ b) : pcs s b (k + 1) = pcs s b k := by
  rw [pcs, if_neg]
  have : s.data.toList.getD k 0 = s[k] := by rw [List.getD_eq_getElem?_getD, List.getElem?_eq_getElem (by simpa using h)]; rfl
  rw [this]; exact hb
end Go.Proofs.YtgfboghieejbkaaGreatDoor
namespace Go.Proofs.YtgfboghieejbkaaGreatDoor
open Go.RowKit

theorem os_more {B : Nat} {w wr w1 : World} {v v' : Value} {o : Obj} {xs : List ByteArray} {c : ByteArray} (hB : B ≤ wr.heap.size) (ho : OS wr B v xs) (hb : Below B w wr)
    (ho' : w1.ownsRow B 9 1 v' (xs.length + 1) (xs.map Value.string ++ [.string c])) (hg : (wr.alloc o).grownBy w1 v.ownBlock) :
    OS w1 B v' (xs ++ [c]) ∧ Below B w w1 :=
  ⟨by unfold OS; simpa using ho', (hb.alloc hB o).grown hg (by simp; omega) (fun j hj => (ho.lt j hj).1)⟩

theorem ext_size (s : ByteArray) (n k : Nat) : (s.extract n k).size ≤ s.size := by rw [ByteArray.size_extract]; omega

set_option maxHeartbeats 1600000 in
set_option maxRecDepth 100000 in
theorem split_any (s : ByteArray) (b : Int) (w : World) (hs : s.size ≤ 33554432) :
    Calls Tryz.prog 231 #[.string s, .int .u8 b] w fun e w' => ∃ v, e = .returned v ∧ OS w' w.heap.size v (splitAns s b) ∧ Below w.heap.size w w' := by
  obtain ⟨i0, hi, hz0, hz1, hz2⟩ := info_parts Tryz.info9
  go_enter Tryz.func231, Tryz.ntmps231
  go_wp2
  go_loopw [5, 6, 7] (fun v f i wr => ∃ k n : Nat, k ≤ s.size ∧ n ≤ k ∧ i = .int .i64 k ∧ f = .int .i64 n ∧ Hid (n = (pcs s b k).2) ∧ OS wr w.heap.size v (pcs s b k).1 ∧ Below w.heap.size w wr) (fun _ _ i _ => s.size - (intOf i).toNat)
  case atStart => exact ⟨0, 0, by omega, by omega, rfl, rfl, rfl, World.ownsRow_nil _ _ _ _, Below.refl _ _⟩
  case round =>
    obtain ⟨k, n, hk, hnk, rfl, rfl, HN, ho, hb⟩ := hrel
    have hsz := hb.size
    have hpl := (pcs_le s b k).2
    by_cases hlt : k < s.size
    · by_cases hbk : (s[k].toNat : Int) = b
      · have hbk' : ((s[k].toNat : Int) == b) = true := by simp [hbk]
        have HP := hide (pcs_hit s b k hlt hbk)
        clear hbk
        go_wp2_with fail
        refine (clone_any _ _ (by have := ext_size s n k; omega)).mono ?_
        rintro e w1 ⟨rfl, b1⟩
        have s1 := b1.size
        have ho1 := ho.below b1
        have hb1 := hb.trans (b1.mono hsz)
        clear ho hb
        go_wp2_with (first
          | (at_builtin; refine wpList_append_own _ rfl _ _ 85 rfl w.heap.size 9 i0 (.string ⟨#[]⟩) 1 16 Tryz.underlying85 hi hz0 hz1 hz2 rfl (by decide) _ _ _ rfl (World.ownsRow.alloc ho1 _) ⟨w1.heap.size, 0, none⟩ 1 1 [.string (s.extract n k)] rfl rfl (one_cell _ _ _) (one_text _) (by unfold maxLen; omega) (by omega) (by simp; omega) ?_; intro v' w2 ho' hg' _; have R := os_more (by omega) ho1 hb1 ho' hg'; clear ho1 ho' hg' hb1))
        go_roundw
        case rel => exact ⟨k + 1, k + 1, by omega, by omega, by go_num, by go_num, by rw [unhide HP]; rfl, by rw [unhide HP, ← HN.out]; exact R.1, R.2⟩
        case measure => simp [intOf]; omega
      · have hbk' : ((s[k].toNat : Int) == b) = false := by simp [hbk]
        have HP := hide (pcs_miss s b k hlt hbk)
        clear hbk
        have HO := hide ho
        clear ho
        go_wp2
        go_roundw
        case rel => exact ⟨k + 1, n, by omega, by omega, by go_num, rfl, by rw [unhide HP]; exact HN, by rw [unhide HP]; exact unhide HO, hb⟩
        case measure => simp [intOf]; omega
    · have hks : k = s.size := by omega
      have HA : Hid (splitAns s b = (pcs s b k).1 ++ [s.extract n s.size]) := by unfold splitAns; rw [HN.out, hks]; rfl
      clear hks
      go_wp2_with fail
      refine (clone_any _ _ (by have := ext_size s n s.size; omega)).mono ?_
      rintro e w1 ⟨rfl, b1⟩
      have s1 := b1.size
      have ho1 := ho.below b1
      have hb1 := hb.trans (b1.mono hsz)
      clear ho hb
      go_wp2_with (first
        | (at_builtin; refine wpList_append_own _ rfl _ _ 85 rfl w.heap.size 9 i0 (.string ⟨#[]⟩) 1 16 Tryz.underlying85 hi hz0 hz1 hz2 rfl (by decide) _ _ _ rfl (World.ownsRow.alloc ho1 _) ⟨w1.heap.size, 0, none⟩ 1 1 [.string (s.extract n s.size)] rfl rfl (one_cell _ _ _) (one_text _) (by unfold maxLen; omega) (by omega) (by simp; omega) ?_; intro v' w2 ho' hg' _; have R := os_more (by omega) ho1 hb1 ho' hg'; clear ho1 ho' hg' hb1))
      go_ret
      exact ⟨_, rfl, by rw [HA.out]; exact R.1, R.2⟩

set_option maxHeartbeats 1600000 in
set_option maxRecDepth 100000 in
theorem specSplit_any (s : ByteArray) (b : Int) (w : World) (hs : s.size ≤ 33554432) :
    Calls Tryz.prog 177 #[.string s, .int .u8 b] w fun e w' => ∃ v, e = .returned v ∧ OS w' w.heap.size v (splitAns s b) ∧ Below w.heap.size w w' := by
  obtain ⟨i0, hi, hz0, hz1, hz2⟩ := info_parts Tryz.info9
  go_enter Tryz.func177, Tryz.ntmps177
  go_wp2
  go_loopw [5, 6, 7] (fun v f i wr => ∃ k : Nat, k ≤ s.size + 1 ∧ i = .int .i64 k ∧ Below w.heap.size w wr ∧ ((k ≤ s.size ∧ ∃ n : Nat, n ≤ k ∧ f = .int .i64 n ∧ Hid (n = (pcs s b k).2) ∧ OS wr w.heap.size v (pcs s b k).1) ∨ (k = s.size + 1 ∧ OS wr w.heap.size v (splitAns s b)))) (fun _ _ i _ => s.size + 1 - (intOf i).toNat)
  case atStart => exact ⟨0, by omega, rfl, (Below.refl _ _).alloc (Nat.le_refl _) _, .inl ⟨by omega, 0, by omega, rfl, rfl, World.ownsRow_lit w #[] 0 (Nat.le_refl _) (by unfold maxLen; omega) rfl⟩⟩
  case round =>
    obtain ⟨k, hk, rfl, hb, hcase⟩ := hrel
    have hsz := hb.size
    rcases hcase with ⟨hks, n, hnk, rfl, HN, ho⟩ | ⟨rfl, ho⟩
    · have hpl := (pcs_le s b k).2
      by_cases hlt : k < s.size
      · have hke : ((k : Int) == (s.size : Int)) = false := by simp; omega
        by_cases hbk : (s[k].toNat : Int) = b
        · have hbk' : ((s[k].toNat : Int) == b) = true := by simp [hbk]
          have HP := hide (pcs_hit s b k hlt hbk)
          clear hbk
          go_wp2_with (first
            | (at_builtin; refine wpList_append_own _ rfl _ _ 85 rfl w.heap.size 9 i0 (.string ⟨#[]⟩) 1 16 Tryz.underlying85 hi hz0 hz1 hz2 rfl (by decide) _ _ _ rfl (World.ownsRow.alloc ho _) ⟨wr.heap.size, 0, none⟩ 1 1 [.string (s.extract n k)] rfl rfl (one_cell _ _ _) (one_text _) (by unfold maxLen; omega) (by omega) (by simp; omega) ?_; intro v' w2 ho' hg' _; have R := os_more hsz ho hb ho' hg'; clear ho ho' hg' hb))
          go_roundw
          case rel => exact ⟨k + 1, by omega, by go_num, R.2, .inl ⟨by omega, k + 1, by omega, by go_num, by rw [unhide HP]; rfl, by rw [unhide HP, ← HN.out]; exact R.1⟩⟩
          case measure => simp [intOf]; omega
        · have hbk' : ((s[k].toNat : Int) == b) = false := by simp [hbk]
          have HP := hide (pcs_miss s b k hlt hbk)
          clear hbk
          have HO := hide ho
          clear ho
          go_wp2
          go_roundw
          case rel => exact ⟨k + 1, by omega, by go_num, hb, .inl ⟨by omega, n, by omega, rfl, by rw [unhide HP]; exact HN, by rw [unhide HP]; exact unhide HO⟩⟩
          case measure => simp [intOf]; omega
      · have hks' : k = s.size := by omega
        have hke : ((k : Int) == (s.size : Int)) = true := by simp; omega
        have HA : Hid (splitAns s b = (pcs s b k).1 ++ [s.extract n k]) := by unfold splitAns; rw [HN.out, hks']; rfl
        have HK := hide hks'
        clear hks'
        go_wp2_with (first
          | (at_builtin; refine wpList_append_own _ rfl _ _ 85 rfl w.heap.size 9 i0 (.string ⟨#[]⟩) 1 16 Tryz.underlying85 hi hz0 hz1 hz2 rfl (by decide) _ _ _ rfl (World.ownsRow.alloc ho _) ⟨wr.heap.size, 0, none⟩ 1 1 [.string (s.extract n k)] rfl rfl (one_cell _ _ _) (one_text _) (by unfold maxLen; omega) (by omega) (by simp; omega) ?_; intro v' w2 ho' hg' _; have R := os_more hsz ho hb ho' hg'; clear ho ho' hg' hb))
        go_roundw
        case rel => exact ⟨k + 1, by omega, by go_num, R.2, .inr ⟨by rw [unhide HK], by rw [HA.out]; exact R.1⟩⟩
        case measure => simp [intOf]; omega
    · have HO := hide ho
      clear ho
      go_wp2
      go_ret
      exact ⟨_, rfl, unhide HO, hb⟩
end Go.Proofs.YtgfboghieejbkaaGreatDoor
namespace Go.Proofs.YtgfboghieejbkaaGreatDoor
open Go.RowKit
set_option linter.unusedSectionVars false
variable [∀ (a b c d : Int), Decidable (Ok4 a b c d)]
variable [∀ (a b c d : Nat), Decidable (okN a b c d)]

def toT (q : Nat × Nat × Nat × Nat) : T4 := (q.1, q.2.1, q.2.2.1, q.2.2.2)
def allTx : List ByteArray → Option (List T4)
  | [] => some []
  | p :: ps => match txAns p.data.toList with
    | some q => (allTx ps).map (toT q :: ·)
    | none => none
theorem allTx_more (ps : List ByteArray) (p : ByteArray) : allTx (ps ++ [p]) = (allTx ps).bind fun ys => (txAns p.data.toList).map fun q => ys ++ [toT q] := by
  induction ps with
  | nil => rw [List.nil_append, allTx, allTx]; cases txAns p.data.toList <;> simp [allTx]
  | cons r ps ih =>
    rw [List.cons_append, allTx, allTx]
    cases txAns r.data.toList with
    | none => rfl
    | some q => simp only [ih]; cases allTx ps <;> cases txAns p.data.toList <;> simp
theorem allTx_none {ps : List ByteArray} (k : Nat) (h : allTx (ps.take k) = none) : allTx ps = none := by
  rw [← List.take_append_drop k ps]
  generalize ps.drop k = r
  generalize ps.take k = l at h
  induction l with
  | nil => simp [allTx] at h
  | cons x l ih =>
    rw [List.cons_append, allTx]
    rw [allTx] at h
    cases hx : txAns x.data.toList with
    | none => rfl
    | some q => rw [hx] at h; simp at h; simp [ih h]
theorem take_more (ps : List ByteArray) (k : Nat) (hk : k < ps.length) : ps.take (k + 1) = ps.take k ++ [ps.getD k ByteArray.empty] := by
  rw [List.take_succ_eq_append_getElem hk, List.getD_eq_getElem?_getD, List.getElem?_eq_getElem hk]; rfl
def txsAns (s : ByteArray) : Option (List T4) := if s = ⟨#[]⟩ then some [] else allTx (splitAns s 44)
theorem pcs_size (s : ByteArray) (b : Int) (k : Nat) : ∀ p ∈ (pcs s b k).1, p.size ≤ s.size := by
  induction k with
  | zero => simp [pcs]
  | succ k ih =>
    rw [pcs]; split
    · intro p hp
      rw [List.mem_append] at hp
      rcases hp with hp | hp
      · exact ih p hp
      · simp at hp; rw [hp]; exact ext_size s _ _
    · exact ih
theorem split_size (s : ByteArray) (b : Int) : ∀ p ∈ splitAns s b, p.size ≤ s.size := by
  intro p hp
  unfold splitAns at hp
  rw [List.mem_append] at hp
  rcases hp with hp | hp
  · exact pcs_size s b _ p hp
  · simp at hp; rw [hp]; exact ext_size s _ _
theorem getD_mem {ps : List ByteArray} {k : Nat} (hk : k < ps.length) : ps.getD k ByteArray.empty ∈ ps := by
  rw [List.getD_eq_getElem?_getD, List.getElem?_eq_getElem hk]; exact List.getElem_mem hk

theorem Tryz.infoTx : (Tryz.prog.info? 183).map (fun i => (i.zero, i.size, i.bytes)) = some (some (txv 0 0 0 0), 4, 32) := by kernel_rfl
theorem four_cell (w : World) (x : T4) (t : TypeId) (j : Nat) (u : Value) (h : (tcell x)[j]? = some u) : (w.alloc (.cells #[.int .i64 x.1, .int .i64 x.2.1, .int .i64 x.2.2.1, .int .i64 x.2.2.2] t)).cell? ((⟨w.heap.size, 0, none⟩ : Addr).add j) = some u := by
  match j, h with
  | 0, h => simp [tcell] at h; subst h; simp [Addr.add]
  | 1, h => simp [tcell] at h; subst h; simp [Addr.add]
  | 2, h => simp [tcell] at h; subst h; simp [Addr.add]
  | 3, h => simp [tcell] at h; subst h; simp [Addr.add]
  | j + 4, h => simp [tcell] at h
theorem four_plain (x : T4) (u : Value) (h : u ∈ tcell x) : u.oneCell' = true := by
  simp [tcell] at h; rcases h with rfl | rfl | rfl | rfl <;> rfl
theorem os_ot {w : World} {B B' : Nat} {v u : Value} {ps : List ByteArray} {ys : List T4} (h : OS w B v ps) (h' : OT w B' u ys) : v.ownBlock = none ∨ v.ownBlock ≠ u.ownBlock := by
  rcases h.2 with ⟨rfl, _⟩ | ⟨g, cap, cur, rfl, _, hg, _⟩
  · exact .inl rfl
  · rcases h'.2 with ⟨rfl, _⟩ | ⟨g', cap', cur', rfl, _, hg', _⟩
    · exact .inr (by simp [Value.ownBlock])
    · refine .inr fun e => ?_
      simp [Value.ownBlock] at e
      rw [e, hg'] at hg
      simp at hg
theorem ot_more {B : Nat} {w wr w1 : World} {v v' : Value} {xs : List T4} {x : T4} (hB : B ≤ wr.heap.size) (ho : OT wr B v xs) (hb : Below B w wr)
    (ho' : w1.ownsRow B 183 4 v' (xs.length + 1) (tcells xs ++ tcell x)) (hg : wr.grownBy w1 v.ownBlock) :
    OT w1 B v' (xs ++ [x]) ∧ Below B w w1 :=
  ⟨by unfold OT; rw [tcells_append, List.length_append]; simpa [tcells] using ho', hb.grown hg hB (fun j hj => (ho.lt j hj).1)⟩
theorem os_alloc {w : World} {B : Nat} {v : Value} {xs : List ByteArray} (h : OS w B v xs) (o : Obj) : OS (w.alloc o) B v xs := World.ownsRow.alloc h o
theorem ot_alloc {w : World} {B : Nat} {v : Value} {xs : List T4} (h : OT w B v xs) (o : Obj) : OT (w.alloc o) B v xs := World.ownsRow.alloc h o
theorem os_cell {w : World} {B g n cap : Nat} {ps : List ByteArray} (h : OS w B (.slice (some ⟨g, 0, none⟩) n cap) ps) (hn : n = ps.length) (k : Nat) (hk : k < ps.length) : w.cell? ⟨g, k, none⟩ = some (.string (ps.getD k ByteArray.empty)) := by
  subst hn
  rw [World.ownsRow.cellAt h k (by omega)]; simp [List.getElem?_eq_getElem hk]

set_option maxHeartbeats 4000000 in
set_option maxRecDepth 100000 in
theorem implTxsOf (s : ByteArray) (w : World) (hs : s.size ≤ 33554432) (hE : Env w) :
    Calls Tryz.prog 219 #[.string s] w fun e w' => ∃ v, e = .returned (.tuple #[v, .bool (txsAns s).isSome]) ∧ OT w' w.heap.size v ((txsAns s).getD []) ∧ Below w.heap.size w w' := by
  obtain ⟨i0, hi, hz0, hz1, hz2⟩ := info_parts Tryz.infoTx
  unfold txsAns
  by_cases hz : s = ⟨#[]⟩
  · rw [if_pos hz]
    subst hz
    go_enter Tryz.func219, Tryz.ntmps219
    go_wp2
    go_ret2
    exact ⟨_, rfl, World.ownsRow_nil _ _ _ _, Below.refl _ _⟩
  · rw [if_neg hz]
    have hne := str_ne hz
    have hne2 : (s.toList == []) = false := by
      rw [beq_eq_false_iff_ne]; intro e; apply hz; apply ByteArray.ext; apply Array.toList_inj.1; rw [ByteArray.toList_eq] at e; exact e
    have SP := hide fun w => split_any s 44 w hs
    have hpn : 0 < (splitAns s 44).length := by simp [splitAns]
    have hpl := splitAns_len s 44
    have hpz : Hid (∀ p ∈ splitAns s 44, p.size ≤ 33554432) := fun p hp => Nat.le_trans (split_size s 44 p hp) hs
    generalize splitAns s 44 = ps at *
    have HE := hide hE
    clear hE hz
    go_enter Tryz.func219, Tryz.ntmps219
    go_wp2_with fail
    refine (unhide SP _).mono ?_
    rintro e w1 ⟨vp, rfl, op, b1⟩
    rcases op.2 with ⟨_, h0⟩ | ⟨gp, pc, pcur, rfl, _⟩
    · omega
    have OP := hide op
    clear op SP
    go_wp2
    go_loopw [4, 14] (fun v i wr => ∃ (k : Nat) (ys : List T4), k ≤ ps.length ∧ i = .int .i64 k ∧ ys.length = k ∧ Hid (allTx (ps.take k) = some ys) ∧ OT wr w.heap.size v ys ∧ OS wr w.heap.size (.slice (some ⟨gp, 0, none⟩) ps.length pc) ps ∧ Below w.heap.size w wr) (fun _ i _ => ps.length - (intOf i).toNat)
    case atStart => exact ⟨0, [], by omega, rfl, rfl, rfl, World.ownsRow_nil _ _ _ _, unhide OP, b1⟩
    case round =>
      obtain ⟨k, ys, hk, rfl, hyl, HA, ho, hp, hb⟩ := hrel
      have hsz := hb.size
      by_cases hlt : k < ps.length
      · have hc := os_cell hp rfl k hlt
        have hm := hpz.out _ (getD_mem hlt)
        have HT := hide (take_more ps k hlt)
        have CT := hide fun w hE => implTxOf (ps.getD k ByteArray.empty) w hm hE
        have HB := hide (And.intro ho (And.intro hp hb))
        clear ho hp hb hm
        generalize ps.getD k ByteArray.empty = p at *
        cases ht : txAns p.data.toList with
        | none =>
          have HN : Hid (allTx ps = none) := allTx_none (k + 1) (by rw [unhide HT, allTx_more, ht]; cases allTx (ps.take k) <;> rfl)
          rw [ht] at CT
          clear ht HT HA
          go_wp2_with fail
          refine (unhide CT _ ((unhide HE).below (unhide HB).2.2)).mono ?_
          rintro e w2 ⟨rfl, b2⟩
          have hw : Below w.heap.size w (w2.alloc (.cells #[.int .i64 0, .int .i64 0, .int .i64 0, .int .i64 0] 183)) := ((unhide HB).2.2.trans (b2.mono hsz)).alloc (by have := b2.size; omega) _
          unfold txval
          go_wp2
          go_ret2
          exact ⟨_, by rw [HN.out]; rfl, by rw [HN.out]; exact World.ownsRow_nil _ _ _ _, hw⟩
        | some q =>
          obtain ⟨a, b, c, d⟩ := q
          have HN : Hid (allTx (ps.take (k + 1)) = some (ys ++ [((a : Int), (b : Int), (c : Int), (d : Int))])) := by
            show allTx _ = _
            rw [unhide HT, allTx_more, HA.out, ht]; rfl
          rw [ht] at CT
          clear ht HT HA
          go_wp2_with fail
          refine (unhide CT _ ((unhide HE).below (unhide HB).2.2)).mono ?_
          rintro e w2 ⟨rfl, b2⟩
          obtain ⟨ho, hp, hb⟩ := unhide HB
          have s2 := b2.size
          have ho2 := ot_alloc (ot_alloc (ho.below b2) (.cells #[.int .i64 a, .int .i64 b, .int .i64 c, .int .i64 d] 183)) (.cells #[.int .i64 a, .int .i64 b, .int .i64 c, .int .i64 d] 183)
          have hp2 := os_alloc (os_alloc (hp.below b2) (.cells #[.int .i64 a, .int .i64 b, .int .i64 c, .int .i64 d] 183)) (.cells #[.int .i64 a, .int .i64 b, .int .i64 c, .int .i64 d] 183)
          have hb2 : Below w.heap.size w ((w2.alloc (.cells #[.int .i64 a, .int .i64 b, .int .i64 c, .int .i64 d] 183)).alloc (.cells #[.int .i64 a, .int .i64 b, .int .i64 c, .int .i64 d] 183)) := ((hb.trans (b2.mono hsz)).alloc (by omega) _).alloc (by simp; omega) _
          have hdis := os_ot hp2 ho2
          clear ho hp hb HB b2 hc
          unfold txval
          go_wp2_with (first
            | (at_builtin; refine wpList_append_own _ rfl _ _ 157 rfl w.heap.size 183 i0 (txv 0 0 0 0) 4 32 Tryz.underlying157 hi hz0 hz1 hz2 rfl (by decide) _ _ _ rfl ho2 ⟨w2.heap.size + 1, 0, none⟩ 1 1 (tcell ((a : Int), (b : Int), (c : Int), (d : Int))) rfl rfl (by have := four_cell (w2.alloc (.cells #[.int .i64 a, .int .i64 b, .int .i64 c, .int .i64 d] 183)) ((a : Int), (b : Int), (c : Int), (d : Int)) 183; simpa using this) (four_plain _) (by unfold maxLen; omega) (by omega) (by simp; omega) ?_; intro v' w3 ho' hg' _; have R := ot_more (by simp; omega) ho2 hb2 ho' hg'; have RP : OS w3 w.heap.size (.slice (some ⟨gp, 0, none⟩) ps.length pc) ps := World.ownsRow.kept hp2 hg' hdis; clear ho2 ho' hg' hb2 hp2 hdis))
          go_roundw
          case rel => exact ⟨k + 1, _, by omega, by go_num, by simp [hyl], HN, R.1, RP, R.2⟩
          case measure => simp [intOf]; omega
      · have hkn : k = ps.length := by omega
        have HN : Hid (allTx ps = some ys) := by
          have := HA.out
          rw [hkn, List.take_of_length_le (Nat.le_refl _)] at this
          exact this
        have HO := hide ho
        clear ho hp HA
        go_wp2
        go_ret2
        exact ⟨_, by rw [HN.out]; rfl, by rw [HN.out]; exact unhide HO, hb⟩
end Go.Proofs.YtgfboghieejbkaaGreatDoor
namespace Go.Proofs.YtgfboghieejbkaaGreatDoor
open Go.RowKit
set_option linter.unusedSectionVars false
variable [∀ (a b c d : Int), Decidable (Ok4 a b c d)]
variable [∀ (a b c d : Nat), Decidable (okN a b c d)]

abbrev St := Int × List T4
abbrev zst : St := (0, [])
def stepOf (p : ByteArray) : Option St :=
  if (124 : UInt8) ∈ p.data.toList then (numOf (hd 124 p.data.toList)).bind fun n => (txsAns (toB (tl 124 p.data.toList))).map fun ts => ((n : Int), ts) else none
def GoodSt (last : Int) (s : St) : Prop := last < s.1 ∧ s.1 ≤ 60 ∧ s.2.length ≤ 2
variable [∀ (last : Int) (s : St), Decidable (GoodSt last s)]
def stepAcc (o : Option (Int × List St)) (p : ByteArray) : Option (Int × List St) := o.bind fun q => (stepOf p).bind fun s => if GoodSt q.1 s then some (s.1, q.2 ++ [s]) else none
def stepsRun (ps : List ByteArray) : Option (Int × List St) := ps.foldl stepAcc (some (0, []))
def stepsAns (s : ByteArray) : Option (List St) :=
  if s = ⟨#[]⟩ then some []
  else if (splitAns s 47).getD 0 ByteArray.empty = ⟨#[]⟩ ∧ (splitAns s 47).length ≤ 31 then (stepsRun (splitAns s 47).tail).map (·.2) else none
theorem stepsRun_more (ps : List ByteArray) (p : ByteArray) : stepsRun (ps ++ [p]) = stepAcc (stepsRun ps) p := by
  unfold stepsRun; rw [List.foldl_append]; rfl
theorem acc_none (ps : List ByteArray) : ps.foldl stepAcc none = none := by
  induction ps with
  | nil => rfl
  | cons p ps ih => rw [List.foldl_cons]; exact ih
theorem stepsRun_none {ps : List ByteArray} (k : Nat) (h : stepsRun (ps.take k) = none) : stepsRun ps = none := by
  have e : stepsRun ps = (ps.drop k).foldl stepAcc (stepsRun (ps.take k)) := by
    unfold stepsRun
    rw [← List.foldl_append, List.take_append_drop]
  rw [e, h]
  exact acc_none _
theorem stepsRun_ok (ps : List ByteArray) (q : Int × List St) (h : stepsRun ps = some q) : q.2.length = ps.length ∧ (0 ≤ q.1 ∧ q.1 ≤ 60) ∧ (ps.length : Int) ≤ q.1 ∧ ∀ s ∈ q.2, (1 ≤ s.1 ∧ s.1 ≤ q.1) ∧ s.2.length ≤ 2 := by
  generalize hn : ps.length = n
  induction n generalizing ps q with
  | zero =>
    have : ps = [] := List.length_eq_zero_iff.1 hn
    subst this
    cases h
    exact ⟨rfl, by simp, by simp, fun s hs => by simp at hs⟩
  | succ n ih =>
    obtain ⟨ps', p, rfl⟩ : ∃ ps' p, ps = ps' ++ [p] := ⟨ps.dropLast, ps.getLast (fun e => by rw [e] at hn; simp at hn), (List.dropLast_concat_getLast _).symm⟩
    rw [stepsRun_more] at h
    unfold stepAcc at h
    cases hr : stepsRun ps' with
    | none => rw [hr] at h; cases h
    | some q' =>
      rw [hr] at h
      cases hs : stepOf p with
      | none => rw [hs] at h; simp at h
      | some s =>
        rw [hs] at h
        simp only [Option.bind_some] at h
        split at h
        · rename_i hg
          cases h
          obtain ⟨h1, h2, h3, h4⟩ := ih ps' q' hr (by simpa using hn)
          obtain ⟨g1, g2, g3⟩ := hg
          refine ⟨by simp [h1], ⟨by show 0 ≤ s.1; omega, g2⟩, by show (((n + 1 : Nat)) : Int) ≤ s.1; omega, fun y hy => ?_⟩
          rcases List.mem_append.1 hy with hy | hy
          · obtain ⟨⟨a1, a2⟩, a3⟩ := h4 y hy
            exact ⟨⟨a1, by show y.1 ≤ s.1; omega⟩, a3⟩
          · simp at hy
            subst hy
            exact ⟨⟨by omega, Int.le_refl _⟩, g3⟩
        · cases h
end Go.Proofs.YtgfboghieejbkaaGreatDoor
namespace Go.Proofs.YtgfboghieejbkaaGreatDoor
open Go.RowKit

structure Cur (w : World) (base g : Nat) (ao : Option Addr) (ca : Nat) (xs : List Int) : Prop where
  low : base ≤ g
  len : xs.length ≤ 140737488355328
  cells : ∃ i h : Int, w.heap[g]? = some (.cells #[.slice ao xs.length ca, .int .i64 i, .int .i64 h] 169 (0, 0)) ∧ 0 ≤ i ∧ i ≤ xs.length
  code : xs = [] ∨ ∃ b off, b < base ∧ ao = some ⟨b, off, none⟩ ∧ ∀ k, k < xs.length → w.cell? ⟨b, off + k, none⟩ = some (.int .u8 (xs.getD k 0)) ∧ 0 ≤ xs.getD k 0 ∧ xs.getD k 0 ≤ 255

theorem set_grown (w : World) (g j : Nat) (u : Value) : w.grownBy (w.setCell ⟨g, j, none⟩ u) (some g) :=
  ⟨rfl, rfl, rfl, by simp, fun k _ hk => heap_setCell_other w ⟨g, j, none⟩ k u (fun e => hk (by simp [e]))⟩

theorem Cur.grown {w w' : World} {base g ca : Nat} {ao : Option Addr} {xs : List Int} (h : Cur w base g ao ca xs) (hg : w.grownBy w' (some g)) (hB : base ≤ w.heap.size)
    (hc : ∃ i h : Int, w'.heap[g]? = some (.cells #[.slice ao xs.length ca, .int .i64 i, .int .i64 h] 169 (0, 0)) ∧ 0 ≤ i ∧ i ≤ xs.length) : Cur w' base g ao ca xs := by
  refine ⟨h.low, h.len, hc, ?_⟩
  rcases h.code with h' | ⟨b, off, hb, ha, hx⟩
  · exact .inl h'
  · refine .inr ⟨b, off, hb, ha, fun k hk => ⟨?_, (hx k hk).2⟩⟩
    have hlow := h.low
    rw [World.cell?_of_block (w := w) (hg.block b (by omega) (by simp; omega))]
    exact (hx k hk).1

theorem Cur.alloc {w : World} {base g ca : Nat} {ao : Option Addr} {xs : List Int} (h : Cur w base g ao ca xs) (hB : base ≤ w.heap.size) (o : Obj) : Cur (w.alloc o) base g ao ca xs := by
  have hg : g < w.heap.size := by
    obtain ⟨i, hh, hc, _⟩ := h.cells
    exact (Array.getElem?_eq_some_iff.1 hc).1
  have hb : Below w.heap.size w (w.alloc o) := (Below.refl _ _).alloc (Nat.le_refl _) o
  refine ⟨h.low, h.len, ?_, ?_⟩
  · obtain ⟨i, hh, hc, h0, h1⟩ := h.cells
    exact ⟨i, hh, (hb.block g hg).trans hc, h0, h1⟩
  · rcases h.code with h' | ⟨b, off, hbb, ha, hx⟩
    · exact .inl h'
    · exact .inr ⟨b, off, hbb, ha, fun k hk => ⟨(hb.cell (p := ⟨b, off + k, none⟩) (by show b < _; omega)).trans (hx k hk).1, (hx k hk).2⟩⟩

structure DCode (w : World) (ao : Option Addr) (xs : List Int) : Prop where
  len : xs.length ≤ 1048576
  code : xs = [] ∨ ∃ b off, ao = some ⟨b, off, none⟩ ∧ ∀ k, k < xs.length → w.cell? ⟨b, off + k, none⟩ = some (.int .u8 (xs.getD k 0))
  fit : ∀ k, k < xs.length → 0 ≤ xs.getD k 0 ∧ xs.getD k 0 ≤ 255
theorem DCode.below {w w' : World} {B : Nat} {ao : Option Addr} {xs : List Int} (h : DCode w ao xs) (hb : Below B w w') (hB : w.heap.size ≤ B) : DCode w' ao xs := by
  refine ⟨h.len, ?_, h.fit⟩
  rcases h.code with h' | ⟨b, off, ha, hx⟩
  · exact .inl h'
  · exact .inr ⟨b, off, ha, fun k hk => (hb.cell (Nat.lt_of_lt_of_le (cell_lt (hx k hk)) hB)).trans (hx k hk)⟩
end Go.Proofs.YtgfboghieejbkaaGreatDoor
namespace Go.Proofs.YtgfboghieejbkaaGreatDoor

def put : Nat → Nat → List Int
  | 0, n => [(n : Int)]
  | f + 1, n => if n ≤ 127 then [(n : Int)] else ((n : Int) % 128 + 128) :: put f (n / 128)
def At (n : Nat) (f m : Nat) (done : List Int) : Prop := done ++ put f m = put 4 n ∧ m < 128 ^ (f + 1) ∧ done.length + f = 4
end Go.Proofs.YtgfboghieejbkaaGreatDoor
namespace Go.Proofs.YtgfboghieejbkaaGreatDoor
open Go.RowKit

def bs (s : ByteArray) : List Int := s.data.toList.map fun b => (b.toNat : Int)

def BytesL (ys : List Int) : Prop := ∀ y ∈ ys, 0 ≤ y ∧ y ≤ 255
theorem BytesL.append {a b : List Int} (ha : BytesL a) (hb : BytesL b) : BytesL (a ++ b) := fun y hy => by
  rcases List.mem_append.1 hy with h | h
  · exact ha y h
  · exact hb y h
theorem OB.grown {w w' : World} {base g : Nat} {v : Value} {xs : List Int} (h : OB w base v xs) (hg : w.grownBy w' (some g)) (hlt : g < base) : OB w' base v xs :=
  World.ownsRow.kept h hg (by
    cases hv : v.ownBlock with
    | none => exact .inl rfl
    | some k => exact .inr fun e => by have := (World.ownsRow.lt h k hv).1; simp at e; omega)
theorem Cur.lt {w : World} {base g ca : Nat} {ao : Option Addr} {xs : List Int} (h : Cur w base g ao ca xs) : g < w.heap.size := by
  obtain ⟨i, hh, hc, _⟩ := h.cells
  exact (Array.getElem?_eq_some_iff.1 hc).1
theorem Cur.below {w w' : World} {base g ca : Nat} {ao : Option Addr} {xs : List Int} (h : Cur w base g ao ca xs) (hB : base ≤ w.heap.size) (hb : Below w.heap.size w w') : Cur w' base g ao ca xs := by
  have hg := h.lt
  refine ⟨h.low, h.len, ?_, ?_⟩
  · obtain ⟨i, hh, hc, h0, h1⟩ := h.cells
    exact ⟨i, hh, (hb.block g hg).trans hc, h0, h1⟩
  · rcases h.code with h' | ⟨b, off, hbb, ha, hx⟩
    · exact .inl h'
    · exact .inr ⟨b, off, hbb, ha, fun k hk => ⟨(hb.cell (p := ⟨b, off + k, none⟩) (by show b < _; omega)).trans (hx k hk).1, (hx k hk).2⟩⟩
theorem Cur.grownNew {w w' : World} {base g ca : Nat} {ao : Option Addr} {xs : List Int} {row : Option Nat} (h : Cur w base g ao ca xs) (hg : w.grownBy w' row) (hr : ∀ j, row = some j → g < j) : Cur w' base g ao ca xs := by
  have hlt := h.lt
  have hlow := h.low
  refine ⟨h.low, h.len, ?_, ?_⟩
  · obtain ⟨i, hh, hc, h0, h1⟩ := h.cells
    exact ⟨i, hh, (hg.block g hlt (fun e => by have := hr g e.symm; omega)).trans hc, h0, h1⟩
  · rcases h.code with h' | ⟨b, off, hbb, ha, hx⟩
    · exact .inl h'
    · refine .inr ⟨b, off, hbb, ha, fun k hk => ⟨?_, (hx k hk).2⟩⟩
      rw [World.cell?_of_block (w := w) (hg.block b (by omega) (fun e => by have := hr b e.symm; omega))]
      exact (hx k hk).1
end Go.Proofs.YtgfboghieejbkaaGreatDoor
namespace Go.Proofs.YtgfboghieejbkaaGreatDoor

def joinTo (b : UInt8) (ps : List ByteArray) : Nat → List UInt8
  | 0 => []
  | j + 1 => (if 0 < j then joinTo b ps j ++ [b] else joinTo b ps j) ++ (ps.getD j ByteArray.empty).data.toList
theorem joinTo_pre (b : UInt8) (ps qs : List ByteArray) (j : Nat) (h : j ≤ ps.length) : joinTo b (ps ++ qs) j = joinTo b ps j := by
  induction j with
  | zero => rfl
  | succ j ih =>
    have e : (ps ++ qs).getD j ByteArray.empty = ps.getD j ByteArray.empty := by
      rw [List.getD_eq_getElem?_getD, List.getD_eq_getElem?_getD, List.getElem?_append_left (by omega)]
    rw [joinTo, joinTo, ih (by omega), e]
theorem joinTo_snoc (b : UInt8) (ps : List ByteArray) (x : ByteArray) : joinTo b (ps ++ [x]) (ps.length + 1) = (if 0 < ps.length then joinTo b ps ps.length ++ [b] else joinTo b ps ps.length) ++ x.data.toList := by
  have e : (ps ++ [x]).getD ps.length ByteArray.empty = x := by simp
  rw [joinTo, joinTo_pre b ps [x] ps.length (Nat.le_refl _), e]
theorem ext_cut (s : ByteArray) (i j : Nat) : (s.extract i j).data.toList = (s.data.toList.drop i).take (j - i) := by
  rw [ByteArray.data_extract, Array.toList_extract]
theorem split_inv (s : ByteArray) (b : UInt8) (k : Nat) (hk : k ≤ s.size) :
    ((pcs s b.toNat k).1 = [] ∧ (pcs s b.toNat k).2 = 0) ∨ (0 < (pcs s b.toNat k).1.length ∧ joinTo b (pcs s b.toNat k).1 (pcs s b.toNat k).1.length ++ [b] = s.data.toList.take (pcs s b.toNat k).2) := by
  induction k with
  | zero => left; simp [pcs]
  | succ k ih =>
    have ih := ih (by omega)
    have hks : k < s.size := by omega
    by_cases hb : (s[k].toNat : Int) = b.toNat
    · rw [pcs_hit s _ k hks hb]
      right
      have hle := (pcs_le s b.toNat k).1
      have hbb : s[k] = b := by
        apply UInt8.toNat_inj.1; omega
      have htk : s.data.toList.take (k + 1) = s.data.toList.take k ++ [b] := by
        rw [List.take_succ_eq_append_getElem (by simpa using hks)]
        congr 1
        rw [← hbb]; rfl
      refine ⟨by simp, ?_⟩
      simp only [List.length_append, List.length_cons, List.length_nil, Nat.zero_add]
      rw [joinTo_snoc, ext_cut, htk]
      congr 1
      rcases ih with ⟨h1, h2⟩ | ⟨h1, h2⟩
      · rw [h1, h2]; simp [joinTo]
      · rw [if_pos h1, h2]
        rw [← List.take_add]
        congr 1; omega
    · rw [pcs_miss s _ k hks hb]; exact ih
theorem split_join (s : ByteArray) (b : UInt8) : joinTo b (splitAns s b.toNat) (splitAns s b.toNat).length = s.data.toList := by
  have hle := (pcs_le s b.toNat s.size).1
  have hinv := split_inv s b s.size (Nat.le_refl _)
  have hlen : s.data.toList.length = s.size := by simp
  unfold splitAns
  simp only [List.length_append, List.length_cons, List.length_nil, Nat.zero_add]
  rw [joinTo_snoc, ext_cut]
  rcases hinv with ⟨h1, h2⟩ | ⟨h1, h2⟩
  · rw [h1, h2]
    simp only [List.length_nil, joinTo, List.drop_zero, Nat.sub_zero]
    rw [List.take_of_length_le (by omega)]; simp
  · rw [if_pos h1, h2, ← List.take_add, List.take_of_length_le (by omega)]
end Go.Proofs.YtgfboghieejbkaaGreatDoor
