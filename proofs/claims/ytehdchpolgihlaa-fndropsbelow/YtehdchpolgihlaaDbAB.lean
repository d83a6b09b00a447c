/- Texts that belong together: CutPlain, CutWorld, Cut, OneStr, DigPlain, SpecDigits, Digits, Atoi, Ints, Ledger, MarkInts, CopyInts, IntPieces, Loc, Qc, QcSame, SpecNumber, Readable, Number, NumberFace. -/
import Derived.Test.YtehdchpolgihlaaDbAA
import Derived.Laws.BytesArg
import Derived.WalkKit
import Derived.Lib.ItoaNum
import Derived.Lib.LaidTab
import Derived.Sort.Grow
import Derived.Lib.AtoiErrMem
import Derived.OwnWalk
import Derived.Maps.AppendAt
import Derived.Laws.OwnMore
import Derived.BigQuiet
import Derived.Defers
import Derived.Recover
import Derived.Laws.Pointers
/- The plain mathematics of cutAtMarks. Nothing of the program. -/
namespace Go.Proofs.Ytehdchpolgihlaa
open Go

theorem hit_hd {m : UInt8} {r : List UInt8} {j : Nat} (h : m ∉ r.take j) (hj : r[j]? = some m) : hd m r = r.take j ∧ tl m r = r.drop (j + 1) := by
  have hl : j < r.length := (List.getElem?_eq_some_iff.1 hj).1
  have hm : r[j] = m := (List.getElem?_eq_some_iff.1 hj).2
  have e : r = r.take j ++ m :: r.drop (j + 1) := by
    rw [← hm, List.getElem_cons_drop, List.take_append_drop]
  constructor
  · conv => lhs; rw [e]
    exact hd_some h
  · conv => lhs; rw [e]
    exact tl_some h
/-- What lies behind k marks. -/
def rst (l : List UInt8) : Nat → List UInt8
  | 0 => l
  | 1 => tl 62 l
  | 2 => tl 58 (tl 62 l)
  | _ => tl 35 (tl 58 (tl 62 l))
def mrk : Nat → UInt8
  | 0 => 62
  | 1 => 58
  | _ => 35
def toB (l : List UInt8) : ByteArray := ⟨l.toArray⟩
theorem ext_list (s : ByteArray) (n p : Nat) : (s.extract n p).data.toList = (s.data.toList.drop n).take (p - n) := by
  rw [ByteArray.data_extract, Array.toList_extract]
theorem ext_toB (s : ByteArray) (n p : Nat) : s.extract n p = toB ((s.data.toList.drop n).take (p - n)) := by
  apply ByteArray.ext
  apply Array.toList_inj.1
  rw [ext_list s n p]; rfl
/-- Where the loop stands behind pos bytes: k marks are found, the next field begins at n. -/
def CAt (s : ByteArray) (pos k n : Nat) : Prop := n ≤ pos ∧ n ≤ s.size ∧ s.data.toList.drop n = rst s.data.toList k ∧ (k < 3 → mrk k ∉ (s.data.toList.drop n).take (pos - n))
theorem cat_start (s : ByteArray) : CAt s 0 0 0 := ⟨by omega, by omega, rfl, by simp⟩
theorem cat_hit {s : ByteArray} {pos k n : Nat} (h : CAt s pos k n) (hp : pos < s.size) (hk : k < 3) (hb : s[pos] = mrk k) :
    s.extract n pos = toB (hd (mrk k) (rst s.data.toList k)) ∧ CAt s (pos + 1) (k + 1) (pos + 1) := by
  obtain ⟨h1, h2, h3, h4⟩ := h
  have hj : (s.data.toList.drop n)[pos - n]? = some (mrk k) := by
    rw [List.getElem?_drop, show n + (pos - n) = pos from by omega, List.getElem?_eq_getElem (by simpa using hp), ← hb]; rfl
  obtain ⟨e1, e2⟩ := hit_hd (h4 hk) hj
  refine ⟨?_, by omega, by omega, ?_, by simp⟩
  · rw [ext_toB s n pos, ← h3, e1]
  · rw [List.drop_drop, show n + (pos - n + 1) = pos + 1 from by omega] at e2
    rw [← e2, h3]
    match k, hk with
    | 0, _ => rfl
    | 1, _ => rfl
    | 2, _ => rfl
theorem not_mem_more {m : UInt8} {l : List UInt8} {n pos v : Nat} (hn : n ≤ pos) (h : m ∉ (l.drop n).take (pos - n)) (hv : ∀ j, j < v → l[pos + j]? ≠ some m) : m ∉ (l.drop n).take (pos + v - n) := by
  induction v with
  | zero => exact h
  | succ v ih =>
    have h' := ih (fun j hj => hv j (by omega))
    rw [show pos + (v + 1) - n = (pos + v - n) + 1 from by omega, List.take_add_one]
    intro hm
    rw [List.mem_append] at hm
    rcases hm with hm | hm
    · exact h' hm
    · rw [List.getElem?_drop, show n + (pos + v - n) = pos + v from by omega] at hm
      have := hv v (by omega)
      cases hq : l[pos + v]? with
      | none => rw [hq] at hm; simp at hm
      | some x => rw [hq] at hm; simp at hm; rw [hq, hm] at this; exact this rfl
theorem mrk_small (k : Nat) : (mrk k).toNat < 128 := by unfold mrk; split <;> decide
/-- The bytes that a rune takes behind its first one are none of ASCII. -/
theorem decode_tail (s : ByteArray) (pos j : Nat) (hj : 1 ≤ j) (h : j < (Utf8.decode s pos).2) : 128 ≤ (s.get! (pos + j)).toNat := by
  unfold Utf8.decode at h
  simp only at h
  split at h
  · simp at h; omega
  · split at h
    · rename_i hc
      simp only [Bool.and_eq_true, beq_iff_eq, decide_eq_true_eq] at hc
      split at h
      · simp at h
        obtain rfl : j = 1 := by omega
        omega
      · simp at h; omega
    · split at h
      · rename_i hc
        simp only [Bool.and_eq_true, beq_iff_eq, decide_eq_true_eq] at hc
        split at h
        · simp at h
          have : j = 1 ∨ j = 2 := by omega
          rcases this with rfl | rfl <;> omega
        · simp at h; omega
      · split at h
        · rename_i hc
          simp only [Bool.and_eq_true, beq_iff_eq, decide_eq_true_eq] at hc
          split at h
          · simp at h
            have : j = 1 ∨ j = 2 ∨ j = 3 := by omega
            rcases this with rfl | rfl | rfl <;> omega
          · simp at h; omega
        · simp at h; omega
theorem get_of {s : ByteArray} {i : Nat} {x : UInt8} (h : s.data.toList[i]? = some x) : s.get! i = x := by
  rw [Array.getElem?_toList] at h
  unfold ByteArray.get!
  cases s
  simp only at *
  obtain ⟨hi, e⟩ := Array.getElem?_eq_some_iff.1 h
  simp [hi, e]
theorem cat_miss {s : ByteArray} {pos k n : Nat} (h : CAt s pos k n) (hp : pos < s.size) (hb : k < 3 → s[pos] ≠ mrk k) :
    CAt s (pos + (Utf8.decode s pos).2) k n := by
  obtain ⟨h1, h2, h3, h4⟩ := h
  refine ⟨by omega, h2, h3, fun hk => ?_⟩
  refine not_mem_more h1 (h4 hk) fun j hj e => ?_
  by_cases h0 : j = 0
  · subst h0
    rw [Nat.add_zero, List.getElem?_eq_getElem (by simpa using hp)] at e
    exact hb hk (Option.some.inj e)
  · have := decode_tail s pos j (by omega) hj
    rw [get_of e] at this
    have := mrk_small k
    omega
theorem rst_all (s : ByteArray) (n : Nat) : s.extract n s.size = toB (s.data.toList.drop n) := by
  rw [ext_toB s n s.size, List.take_of_length_le (by simp)]
/-- At the end: the last field that is found, and nothing in those behind it. -/
theorem cat_end {s : ByteArray} {pos k n : Nat} (h : CAt s pos k n) (hp : ¬ pos < s.size) : s.extract n s.size = toB (rst s.data.toList k) ∧ (k < 3 → hd (mrk k) (rst s.data.toList k) = rst s.data.toList k ∧ tl (mrk k) (rst s.data.toList k) = []) := by
  obtain ⟨h1, h2, h3, h4⟩ := h
  refine ⟨by rw [rst_all s n, h3], fun hk => ?_⟩
  have hm : mrk k ∉ rst s.data.toList k := by
    have := h4 hk
    rw [List.take_of_length_le (by simp; omega), h3] at this
    exact this
  exact ⟨hd_none hm, tl_none hm⟩
end Go.Proofs.Ytehdchpolgihlaa

/- impl.cutAtMarks. -/
namespace Go.Proofs.Ytehdchpolgihlaa
open Go.RowKit

/-- The fields behind k marks. -/
def gs (l : List UInt8) : Nat → ByteArray × ByteArray × ByteArray × ByteArray
  | 0 => (⟨#[]⟩, ⟨#[]⟩, ⟨#[]⟩, ⟨#[]⟩)
  | 1 => (toB (f0 l), ⟨#[]⟩, ⟨#[]⟩, ⟨#[]⟩)
  | 2 => (toB (f0 l), toB (f1 l), ⟨#[]⟩, ⟨#[]⟩)
  | _ => (toB (f0 l), toB (f1 l), toB (f2 l), ⟨#[]⟩)
end Go.Proofs.Ytehdchpolgihlaa

/- impl.cutAtMarks: what it answers. -/
namespace Go.Proofs.Ytehdchpolgihlaa
open Go.RowKit

end Go.Proofs.Ytehdchpolgihlaa

/- A text of one byte. -/
namespace Go.Proofs.Ytehdchpolgihlaa
open Go.RowKit

theorem one_str (w : World) (c : Int) : (convert 22 9 (.slice (some ⟨w.heap.size, 0, none⟩) 1 1)).run Try.prog (w.alloc (.cells #[.int .u8 c] 5)) = .ok (.string (strOfNums [c])) (w.alloc (.cells #[.int .u8 c] 5)) := by
  refine run_convert_bytes_arg (P := Try.prog) _ 22 5 Try.underlying22 Try.underlying5 w.heap.size 0 1 1 [c] rfl (fun i hi => ?_) 9 Try.underlying9
  obtain rfl : i = 0 := by omega
  simp
end Go.Proofs.Ytehdchpolgihlaa

/- The plain mathematics of decimal numerals, digit by digit. Nothing of the program. -/
namespace Go.Proofs.Ytehdchpolgihlaa

/-- The digits that are still to come. -/
def rest (m : Nat) : List UInt8 := if m = 0 then [] else Lib.decDigits m
theorem rest_step (m : Nat) (h : m ≠ 0) : rest m = rest (m / 10) ++ [UInt8.ofNat (48 + m % 10)] := by
  by_cases h10 : m < 10
  · have e : m / 10 = 0 := by omega
    rw [rest, if_neg h, Lib.decDigits, dif_pos h10, e, rest, if_pos rfl, Nat.mod_eq_of_lt h10]; rfl
  · have e : m / 10 ≠ 0 := by omega
    rw [rest, if_neg h, Lib.decDigits, dif_neg h10, rest, if_neg e]
/-- Where the loop stands: m is left, the text t is made. -/
def DAt (n m : Nat) (t : List UInt8) : Prop := rest m ++ t = rest n ∧ t.length ≤ 20 ∧ m < 10 ^ (20 - t.length)
theorem dat_start (n : Nat) (h : n ≤ 9223372036854775808) : DAt n n [] := ⟨by simp, by simp, by simp; omega⟩
theorem dat_step {n m : Nat} {t : List UInt8} (h : DAt n m t) (h0 : m ≠ 0) : DAt n (m / 10) (UInt8.ofNat (48 + m % 10) :: t) ∧ t.length ≤ 19 := by
  obtain ⟨h1, h2, h3⟩ := h
  have hl : t.length ≤ 19 := by
    by_cases e : t.length = 20
    · rw [e] at h3; simp at h3; omega
    · omega
  refine ⟨⟨?_, by simp; omega, ?_⟩, hl⟩
  · rw [rest_step m h0] at h1; simpa using h1
  · have e : 20 - t.length = (20 - (t.length + 1)) + 1 := by omega
    rw [e, Nat.pow_succ] at h3
    simp only [List.length_cons]
    exact Nat.div_lt_of_lt_mul (by rw [Nat.mul_comm]; exact h3)
theorem dat_end {n : Nat} {t : List UInt8} (h : DAt n 0 t) (hn : n ≠ 0) : t = Lib.decDigits n := by
  have := h.1
  rwa [rest, if_pos rfl, List.nil_append, rest, if_neg hn] at this

theorem one_more (k : Nat) (t : List UInt8) (h : k < 10) : strOfNums [48 + (k : Int)] ++ (⟨t.toArray⟩ : ByteArray) = ⟨(UInt8.ofNat (48 + k) :: t).toArray⟩ := by
  have e : (48 + (k : Int)).toNat = 48 + k := by omega
  apply ByteArray.ext
  apply Array.toList_inj.1
  simp [strOfNums, e]
theorem one_size (c : Int) : (strOfNums [c]).size = 1 := rfl
end Go.Proofs.Ytehdchpolgihlaa

/- spec.Digits: the decimal numeral. -/
namespace Go.Proofs.Ytehdchpolgihlaa
open Go.RowKit

set_option maxHeartbeats 800000 in
set_option maxRecDepth 100000 in
theorem specDigits_pos (n : Nat) (w : World) (hn : 0 < n) (hm : n ≤ 9223372036854775807) :
    Calls Try.prog 77 #[.int .i64 n] w fun e w' => e = .returned (.string ⟨(Lib.decDigits n).toArray⟩) ∧ Below w.heap.size w w' := by
  have hcv := one_str
  have hsz := one_size
  have hne : ((n : Int) == 0) = false := by simp; omega
  have hlt : decide ((n : Int) < 0) = false := by simp
  go_enter Try.func77, Try.ntmps77
  go_wp2
  go_loopw [0, 4] (fun x s wr => ∃ (m : Nat) (t : List UInt8), m ≤ 9223372036854775807 ∧ DAt n m t ∧ x = .int .i64 m ∧ s = .string ⟨t.toArray⟩ ∧ Below w.heap.size w wr) (fun x _ _ => (intOf x).toNat)
  case atStart => exact ⟨n, [], hm, dat_start n (by omega), rfl, rfl, Below.refl _ _⟩
  case round =>
    obtain ⟨m, t, hm', hd, rfl, rfl, hb⟩ := hrel
    by_cases h0 : m = 0
    · subst h0
      have HE := hide (dat_end hd (by omega))
      clear hd
      go_wp2
      go_ret
      have HE' := unhide HE
      subst HE'
      exact ⟨rfl, hb⟩
    · have hne' : ((m : Int) != 0) = true := by simp [h0]
      obtain ⟨hd', hl⟩ := dat_step hd h0
      have HD := hide hd'
      clear hd hd'
      have hs0 := hb.size
      have hmo := one_more (m % 10) t (by omega)
      have hbl : Below w.heap.size w (wr.alloc (.cells #[.int .u8 (48 + (m : Int) % 10)] 5)) := hb.alloc hs0 _
      go_wp2
      go_roundw
      case rel => exact ⟨m / 10, _, by omega, unhide HD, by go_num, by rw [← hmo]; rfl, hbl⟩
      case measure => simp [intOf]; omega

set_option maxHeartbeats 800000 in
set_option maxRecDepth 100000 in
theorem specDigits_neg (n : Nat) (w : World) (hn : 0 < n) (hm : n ≤ 9223372036854775808) :
    Calls Try.prog 77 #[.int .i64 (-(n : Int))] w fun e w' => e = .returned (.string ⟨(45 :: Lib.decDigits n).toArray⟩) ∧ Below w.heap.size w w' := by
  have hcv := one_str
  have hsz := one_size
  have hne : ((-(n : Int)) == 0) = false := by simp; omega
  have hlt : decide (-(n : Int) < 0) = true := by simp; omega
  go_enter Try.func77, Try.ntmps77
  go_wp2
  go_loopw [0, 4] (fun x s wr => ∃ (m : Nat) (t : List UInt8), m ≤ 9223372036854775808 ∧ DAt n m t ∧ x = .int .i64 (-(m : Int)) ∧ s = .string ⟨t.toArray⟩ ∧ Below w.heap.size w wr) (fun x _ _ => (-(intOf x)).toNat)
  case atStart => exact ⟨n, [], hm, dat_start n hm, rfl, rfl, Below.refl _ _⟩
  case round =>
    obtain ⟨m, t, hm', hd, rfl, rfl, hb⟩ := hrel
    by_cases h0 : m = 0
    · subst h0
      have HE := hide (dat_end hd (by omega))
      have hl := hd.2.1
      clear hd
      go_wp2
      go_ret
      have HE' := unhide HE
      subst HE'
      exact ⟨by apply congrArg Ending.returned; apply congrArg Value.string; apply ByteArray.ext; apply Array.toList_inj.1; simp, hb⟩
    · have hne' : ((-(m : Int)) != 0) = true := by simp [h0]
      obtain ⟨hd', hl⟩ := dat_step hd h0
      have HD := hide hd'
      clear hd hd'
      have hs0 := hb.size
      have hmo := one_more (m % 10) t (by omega)
      have ht : (-(m : Int)).tmod 10 = -((m % 10 : Nat) : Int) := by rw [Int.neg_tmod]; rfl
      have hq : (-(m : Int)).tdiv 10 = -((m / 10 : Nat) : Int) := by rw [Int.neg_tdiv]; rfl
      by_cases hz : m % 10 = 0
      · have hbl : Below w.heap.size w (wr.alloc (.cells #[.int .u8 48] 5)) := hb.alloc hs0 _
        go_wp2
        go_roundw
        case rel => exact ⟨m / 10, _, by omega, unhide HD, by go_num, by rw [← hmo, hz]; rfl, hbl⟩
        case measure => simp [intOf]; omega
      · have hbl : Below w.heap.size w (wr.alloc (.cells #[.int .u8 (48 + (m : Int) % 10)] 5)) := hb.alloc hs0 _
        go_wp2
        go_roundw
        case rel => exact ⟨m / 10, _, by omega, unhide HD, by go_num, by rw [← hmo]; rfl, hbl⟩
        case measure => simp [intOf]; omega

set_option maxHeartbeats 400000 in
set_option maxRecDepth 100000 in
theorem specDigits_zero (w : World) :
    Calls Try.prog 77 #[.int .i64 0] w fun e w' => e = .returned (.string ⟨(Lib.decDigits 0).toArray⟩) ∧ Below w.heap.size w w' := by
  go_enter Try.func77, Try.ntmps77
  go_wp2
  go_ret
  exact ⟨by rw [Lib.decDigits]; rfl, Below.refl _ _⟩

theorem specDigits_any (n : Int) (w : World) (h0 : -9223372036854775808 ≤ n) (h1 : n ≤ 9223372036854775807) :
    Calls Try.prog 77 #[.int .i64 n] w fun e w' => e = .returned (.string ⟨(Lib.itoa n).toArray⟩) ∧ Below w.heap.size w w' := by
  unfold Lib.itoa
  by_cases hn : n < 0
  · obtain ⟨m, rfl⟩ : ∃ m : Nat, n = -(m : Int) := ⟨n.natAbs, by omega⟩
    rw [if_pos hn, show (-(m : Int)).natAbs = m from by omega]
    exact specDigits_neg m w (by omega) (by omega)
  · obtain ⟨m, rfl⟩ := Int.eq_ofNat_of_zero_le (Int.not_lt.1 hn)
    rw [if_neg hn, Int.toNat_natCast]
    by_cases hm : m = 0
    · subst hm; exact specDigits_zero w
    · exact specDigits_pos m w (by omega) (by omega)
end Go.Proofs.Ytehdchpolgihlaa

/- impl.Digits, and the walk of laws.FnExactDigits. -/
namespace Go.Proofs.Ytehdchpolgihlaa
open Go.RowKit

theorem grow_below (w : World) (k : Nat) (os : Array Obj) : Below w.heap.size w (Sort.grow (w.drewN k) os) :=
  ⟨rfl, rfl, rfl, by simp [Sort.grow], fun i hi => by simp only [Sort.grow, World.heap_drewN]; rw [Array.getElem?_append_left hi]⟩

/-- The table of powers lies as the library's text lays it. -/
abbrev Pow (w : World) : Prop := Lib.TabIs Try.prog w "internal/strconv.uint64pow10" .u64 Lib.pow10Tab
end Go.Proofs.Ytehdchpolgihlaa

/- strconv.Atoi at this program: at a numeral it answers the number; else a number or an error. -/
namespace Go.Proofs.Ytehdchpolgihlaa
open Go.RowKit

theorem bytes_below (w : World) (e : TypeId) (t : ByteArray) : Below w.heap.size w (Lib.bytesWorld w e t) := Lib.bytesWorld_below w e t

/-- How Atoi ends at a text: a number, or an error that is not nil. -/
def AtoiEnd (e : Ending) : Prop := (∃ v : Int, e = .returned (.tuple #[.int .i64 v, .nilIface])) ∨ ∃ (v : Int) (t : TypeId) (x : Value), e = .returned (.tuple #[.int .i64 v, .iface t x])
end Go.Proofs.Ytehdchpolgihlaa

/- Lists of numbers in memory; laws.szIntS, toIntS, eqIntS, markIntS, heldIntS. -/
namespace Go.Proofs.Ytehdchpolgihlaa
open Go.RowKit

theorem Try.info3 : (Try.prog.info? 3).map (fun i => (i.zero, i.size, i.bytes)) = some (some (.int .i64 0), 1, 8) := by kernel_rfl

/-- The slice value v reads as the numbers xs. -/
def RI (w : World) (v : Value) (xs : List Int) : Prop :=
  xs.length ≤ 4194304 ∧ ∃ ao cap, v = .slice ao xs.length cap ∧ (xs = [] ∨ ∃ b off, ao = some ⟨b, off, none⟩ ∧ ∀ k, k < xs.length → w.cell? ⟨b, off + k, none⟩ = some (.int .i64 (xs.getD k 0)))
/-- v is a list of the call's own, from block 'base' on, of the numbers xs. -/
def OI (w : World) (base : Nat) (v : Value) (xs : List Int) : Prop := w.ownsRow base 3 1 v xs.length (xs.map (Value.int .i64))

theorem OI.ri {w : World} {base : Nat} {v : Value} {xs : List Int} (h : OI w base v xs) (hl : xs.length ≤ 4194304) : RI w v xs := by
  refine ⟨hl, ?_⟩
  rcases h.2 with ⟨rfl, h0⟩ | ⟨g, cap, cur, rfl, _⟩
  · exact ⟨none, 0, by rw [h0], .inl (List.length_eq_zero_iff.1 h0)⟩
  · refine ⟨_, cap, rfl, .inr ⟨g, 0, rfl, fun k hk => ?_⟩⟩
    have := World.ownsRow.cellAt h k (by omega)
    rw [Nat.zero_add, this]
    simp [List.getElem?_map, List.getElem?_eq_getElem hk]
theorem OI.below {w w' : World} {base : Nat} {v : Value} {xs : List Int} (h : OI w base v xs) (hb : Below w.heap.size w w') : OI w' base v xs :=
  World.ownsRow.kept (row := none) h ⟨hb.os, hb.tape, hb.output, hb.size, fun k hk _ => hb.block k hk⟩ (by cases v.ownBlock <;> simp)
theorem OI.belowB {w w' : World} {B base : Nat} {v : Value} {xs : List Int} (h : OI w base v xs) (hb : Below B w w') (hB : w.heap.size ≤ B) : OI w' base v xs := h.below (hb.mono hB)
theorem OI.grown {w w' : World} {base : Nat} {row : Option Nat} {v : Value} {xs : List Int} (h : OI w base v xs) (hg : w.grownBy w' row) (hv : ∀ k, v.ownBlock = some k → row ≠ some k) : OI w' base v xs := by
  refine World.ownsRow.kept h hg ?_
  cases hv' : v.ownBlock with
  | none => exact .inl rfl
  | some k => exact .inr fun e => hv k hv' e.symm
theorem RI.below {w w' : World} {B : Nat} {v : Value} {xs : List Int} (h : RI w v xs) (hb : Below B w w') (hB : w.heap.size ≤ B) : RI w' v xs := by
  obtain ⟨hl, ao, cap, rfl, h⟩ := h
  refine ⟨hl, ao, cap, rfl, ?_⟩
  rcases h with h | ⟨b, off, rfl, h⟩
  · exact .inl h
  · refine .inr ⟨b, off, rfl, fun k hk => ?_⟩
    have := h k hk
    exact (hb.cell (Nat.lt_of_lt_of_le (cell_lt this) hB)).trans this
theorem below_drewN' {B : Nat} {w w' : World} (h : Below B w w') (n : Nat) : Below B w (w'.drewN n) := ⟨h.os, h.tape, h.output, h.size, h.block⟩

set_option maxHeartbeats 800000 in
set_option maxRecDepth 100000 in
theorem eqIntS_yes (va vb : Value) (xs : List Int) (w : World) (ha : RI w va xs) (hb : RI w vb xs) :
    Calls Try.prog 38 #[va, vb] w fun e w' => e = .returned (.bool true) ∧ ∃ n, w' = w.drewN n := by
  obtain ⟨hl, ao, ca, rfl, ha⟩ := ha
  obtain ⟨_, bo, cb, rfl, hb⟩ := hb
  generalize hn : xs.length = n at *
  have Hn : Hid (xs.length = n) := hn
  clear hn
  go_enter Try.func38, Try.ntmps38
  go_wp2
  go_loopw [5] (fun i wr => ∃ k : Nat, k ≤ n ∧ i = .int .i64 k ∧ ∃ m, wr = w.drewN m) (fun i _ => n - (intOf i).toNat)
  case atStart => exact ⟨0, Nat.zero_le _, rfl, 0, rfl⟩
  case round =>
    obtain ⟨k, hk, rfl, m, rfl⟩ := hrel
    by_cases hlt : k < n
    · rcases ha with ha | ⟨b, off, rfl, ha⟩
      · subst ha; have := Hn.out; simp at this; omega
      rcases hb with hb | ⟨b', off', rfl, hb⟩
      · subst hb; have := Hn.out; simp at this; omega
      have ha' := ha k hlt
      have hb' := hb k hlt
      clear ha hb
      generalize xs.getD k 0 = d at *
      go_wp2_with fail
      go_quiet (fail)
      go_wp2
      go_roundw
      case rel => exact ⟨k + 1, by omega, by go_num, _, rfl⟩
      case measure => simp [intOf]; omega
    · clear ha hb
      go_wp2
      go_ret
      exact ⟨rfl, _, rfl⟩

/-- The cells behind k rounds of the copy. -/
def ihalf (xs : List Int) (k : Nat) : List Value := ((xs.take k) ++ List.replicate (xs.length - k) 0).map (Value.int .i64)
theorem ihalf_zero (xs : List Int) : ihalf xs 0 = List.replicate xs.length (.int .i64 0) := by simp [ihalf]
theorem ihalf_all (xs : List Int) : ihalf xs xs.length = xs.map (Value.int .i64) := by simp [ihalf]
theorem ihalf_len (xs : List Int) (k : Nat) (h : k ≤ xs.length) : (ihalf xs k).length = xs.length := by simp [ihalf]; omega
theorem ihalf_set (xs : List Int) (k : Nat) (h : k < xs.length) : (ihalf xs k).set k (.int .i64 (xs.getD k 0)) = ihalf xs (k + 1) := by
  have e : xs.length - k = (xs.length - (k + 1)) + 1 := by omega
  have hk : (xs.take k).length = k := by simp; omega
  unfold ihalf
  rw [List.take_succ_eq_append_getElem h, e, List.replicate_succ, List.map_append, List.map_append, List.map_append, List.set_append_right _ _ (by simp; omega), List.length_map, hk, Nat.sub_self]
  simp [List.getElem?_eq_getElem h]

set_option maxHeartbeats 1600000 in
set_option maxRecDepth 100000 in
theorem toIntS_any (v : Value) (xs : List Int) (w : World) (h : RI w v xs) :
    Calls Try.prog 48 #[v] w fun e w' => ∃ u, e = .returned u ∧ OI w' w.heap.size u xs ∧ Below w.heap.size w w' := by
  obtain ⟨i0, hi, hz0, hz1, hz2⟩ := info_parts Try.info3
  obtain ⟨hl, ao, ca, rfl, ha⟩ := h
  obtain ⟨n, hn⟩ : ∃ n, xs.length = n := ⟨_, rfl⟩
  have Hn : Hid (xs.length = n) := hn
  rw [hn] at hl ⊢
  rw [hn] at ha
  clear hn
  go_enter Try.func48, Try.ntmps48
  go_wp2_with (first | (at_make; refine wpList_make_full _ rfl _ _ 29 rfl w.heap.size 3 i0 (.int .i64 0) 1 Try.underlying29 hi hz0 hz1 .i64 .i64 n n n rfl rfl rfl rfl (by rw [hz2]; omega) (by unfold maxLen; omega) (Nat.le_refl _) ?_; intro w0 ho0 hg0))
  have hstart : w0.ownsRow w.heap.size 3 1 (.slice (some ⟨w.heap.size, 0, none⟩) n n) n (ihalf xs 0) := by
    have e : (madeCells (Value.int IntKind.i64 0).cells (n * 1)).toList = ihalf xs 0 := by
      rw [ihalf_zero, Hn.out, Nat.mul_one]; exact toList_madeCells_one _ _
    rw [← e]; exact ho0
  have HB : Hid (Below w.heap.size w w0) := (Below.refl _ _).grown hg0 (Nat.le_refl _) (by simp)
  clear ho0 hg0
  go_loopw [4] (fun i wr => ∃ k : Nat, k ≤ n ∧ i = .int .i64 k ∧ wr.ownsRow w.heap.size 3 1 (.slice (some ⟨w.heap.size, 0, none⟩) n n) n (ihalf xs k) ∧ Below w.heap.size w wr) (fun i _ => n - (intOf i).toNat)
  case atStart => exact ⟨0, Nat.zero_le _, rfl, hstart, HB.out⟩
  case round =>
    clear hstart
    obtain ⟨k, hk, rfl, ho, hbel⟩ := hrel
    by_cases hlt : k < n
    · rcases ha with ha | ⟨b, off, rfl, ha⟩
      · subst ha; have := Hn.out; simp at this; omega
      have hkx : k < xs.length := by rw [Hn.out]; exact hlt
      have hc0 := ha k hlt
      have hc : wr.cell? ⟨b, off + k, none⟩ = some (.int .i64 (xs.getD k 0)) := (hbel.cell (cell_lt hc0)).trans hc0
      obtain ⟨u, hu⟩ : ∃ u, wr.cell? ⟨w.heap.size, k, none⟩ = some u := by
        have h1 := ho.cellAt k (by omega)
        have h2 : k < (ihalf xs k).length := by rw [ihalf_len xs k (by omega)]; exact hkx
        exact ⟨_, h1.trans (List.getElem?_eq_getElem h2)⟩
      have hfr := ho.frozenAt k
      have HS : Hid ((wr.setCell ⟨w.heap.size, k, none⟩ (.int .i64 (xs.getD k 0))).ownsRow w.heap.size 3 1 (.slice (some ⟨w.heap.size, 0, none⟩) n n) n (ihalf xs (k + 1))) := by
        rw [← ihalf_set xs k hkx]; exact (ho.stored k _).1
      have HG : Hid (Below w.heap.size w (wr.setCell ⟨w.heap.size, k, none⟩ (.int .i64 (xs.getD k 0)))) := hbel.setCell (Nat.le_refl _) _
      clear ha ho hbel hc0
      generalize xs.getD k 0 = d at *
      go_wp2
      go_roundw
      case rel => exact ⟨k + 1, by omega, by go_num, HS.out, HG.out⟩
      case measure => simp [intOf]; omega
    · have hkn : k = n := by omega
      have HO : Hid (OI wr w.heap.size (.slice (some ⟨w.heap.size, 0, none⟩) n n) xs) := by
        have h1 := ihalf_all xs
        rw [Hn.out] at h1
        unfold OI Hid
        rw [Hn.out, ← h1, ← hkn]; rw [← hkn] at ho; exact ho
      clear ha ho
      go_wp2
      go_ret
      exact ⟨_, rfl, HO.out, hbel⟩

set_option maxHeartbeats 400000 in
set_option maxRecDepth 100000 in
theorem szIntS_yes (ao : Option Addr) (n ca : Nat) (left : Int) (w : World) (hn : (n : Int) ≤ left) (hl : left ≤ 1048576) :
    Calls Try.prog 47 #[.slice ao n ca, .int .i64 left] w fun e w' => e = .returned (.int .i64 (left - n)) ∧ w' = w := by
  have hd : decide (left - (n : Int) < 0) = false := by simp; omega
  go_enter Try.func47, Try.ntmps47
  go_wp2
  go_ret
  exact ⟨rfl, rfl⟩
set_option maxHeartbeats 400000 in
set_option maxRecDepth 100000 in
theorem szIntS_no (ao : Option Addr) (n ca : Nat) (left : Int) (w : World) (h0 : 0 ≤ left) (hn : left < n) (hl : left ≤ 1048576) (hm : n ≤ 9223372036854775807) :
    Calls Try.prog 47 #[.slice ao n ca, .int .i64 left] w fun e w' => e = .returned (.int .i64 (-1)) ∧ w' = w := by
  have hd : decide (left - (n : Int) < 0) = true := by simp; omega
  go_enter Try.func47, Try.ntmps47
  go_wp2
  go_ret
  exact ⟨rfl, rfl⟩
end Go.Proofs.Ytehdchpolgihlaa

/- Ledgers in memory; laws.szLedger, toLedger, eqLedger. -/
namespace Go.Proofs.Ytehdchpolgihlaa
open Go.RowKit

/-- From w to w' nothing turned but blocks of X. -/
structure Kp (w w' : World) (X : Nat → Prop) : Prop where
  os : w'.os = w.os
  tape : w'.tape = w.tape
  output : w'.output = w.output
  size : w.heap.size ≤ w'.heap.size
  block : ∀ k, k < w.heap.size → ¬ X k → w'.heap[k]? = w.heap[k]?
theorem Kp.refl (w : World) (X : Nat → Prop) : Kp w w X := ⟨rfl, rfl, rfl, Nat.le_refl _, fun _ _ _ => rfl⟩
theorem Kp.trans {a b c : World} {X : Nat → Prop} (h : Kp a b X) (k : Kp b c X) : Kp a c X :=
  ⟨k.os.trans h.os, k.tape.trans h.tape, k.output.trans h.output, Nat.le_trans h.size k.size, fun i hi hx => (k.block i (Nat.lt_of_lt_of_le hi h.size) hx).trans (h.block i hi hx)⟩
theorem Kp.mono {a b : World} {X Y : Nat → Prop} (h : Kp a b X) (hxy : ∀ k, X k → Y k) : Kp a b Y := ⟨h.os, h.tape, h.output, h.size, fun k hk hy => h.block k hk (fun hx => hy (hxy k hx))⟩
theorem Below.kpOf {w w' : World} (h : Below w.heap.size w w') (X : Nat → Prop) : Kp w w' X := ⟨h.os, h.tape, h.output, h.size, fun k hk _ => h.block k hk⟩
theorem kp_grown {w w' : World} {row : Option Nat} (h : w.grownBy w' row) : Kp w w' (fun k => row = some k) := ⟨h.os, h.tape, h.output, h.size, fun k hk hx => h.block k hk (fun e => hx e.symm)⟩
theorem Kp.cell {w w' : World} {X : Nat → Prop} (h : Kp w w' X) {a : Addr} {v : Value} (hc : w.cell? a = some v) (hx : ¬ X a.block) : w'.cell? a = some v :=
  (World.cell?_of_block (h.block a.block (cell_lt hc) hx)).trans hc
theorem Below.kp {B : Nat} {a w w' : World} {X : Nat → Prop} (h : Below B a w) (k : Kp w w' X) (hB : B ≤ w.heap.size) (hx : ∀ k, X k → B ≤ k) : Below B a w' :=
  ⟨k.os.trans h.os, k.tape.trans h.tape, k.output.trans h.output, Nat.le_trans h.size k.size, fun i hi => (k.block i (by omega) (fun h' => by have := hx i h'; omega)).trans (h.block i hi)⟩
theorem OI.kp {w w' : World} {base : Nat} {X : Nat → Prop} {v : Value} {xs : List Int} (h : OI w base v xs) (k : Kp w w' X) (hv : ∀ k, v.ownBlock = some k → ¬ X k) : OI w' base v xs := by
  refine ⟨h.1, ?_⟩
  rcases h.2 with hn | ⟨g, cap, cur, rfl, hb, hgg, rest⟩
  · exact .inl hn
  · refine .inr ⟨g, cap, cur, rfl, hb, ?_, rest⟩
    rw [k.block g (Array.getElem?_eq_some_iff.1 hgg).1 (hv g rfl)]
    exact hgg

theorem OI.mono {w : World} {base base' : Nat} {v : Value} {xs : List Int} (h : OI w base v xs) (hb : base' ≤ base) : OI w base' v xs := by
  refine ⟨h.1, ?_⟩
  rcases h.2 with hn | ⟨g, cap, cur, rfl, hg, rest⟩
  · exact .inl hn
  · exact .inr ⟨g, cap, cur, rfl, Nat.le_trans hb hg, rest⟩

theorem OI.form {w : World} {base : Nat} {v : Value} {xs : List Int} (h : OI w base v xs) : ∃ ao ca, v = .slice ao xs.length ca := by
  rcases h.2 with ⟨rfl, h0⟩ | ⟨g, cap, cur, rfl, _⟩
  · exact ⟨none, 0, by rw [h0]⟩
  · exact ⟨_, _, rfl⟩

/-- Block g has the two cells a, b. -/
def Loc2 (w : World) (g : Nat) (a b : Value) : Prop := ∃ t, w.heap[g]? = some (.cells #[a, b] t (0, 0))
theorem loc2_new (w : World) (a b : Value) (t : TypeId) : Loc2 (w.alloc (.cells #[a, b] t)) w.heap.size a b := ⟨t, heap_alloc_new w _⟩
theorem loc2_at (w : World) (a b : Value) (t : TypeId) {g : Nat} (h : w.heap.size = g) : Loc2 (w.alloc (.cells #[a, b] t)) g a b := h ▸ loc2_new w a b t
theorem Loc2.lt {w : World} {g : Nat} {a b : Value} (h : Loc2 w g a b) : g < w.heap.size := by obtain ⟨t, h⟩ := h; exact (Array.getElem?_eq_some_iff.1 h).1
theorem Loc2.cells {w : World} {g : Nat} {a b : Value} (h : Loc2 w g a b) : w.cell? ⟨g, 0, none⟩ = some a ∧ w.cell? ⟨g, 1, none⟩ = some b ∧ w.frozen? ⟨g, 0, none⟩ = false ∧ w.frozen? ⟨g, 1, none⟩ = false := by
  obtain ⟨t, h⟩ := h
  refine ⟨?_, ?_, frozen_of_row w g 0 _ t h, frozen_of_row w g 1 _ t h⟩
  · rw [cell_of_row w g 0 _ t (0, 0) h]; rfl
  · rw [cell_of_row w g 1 _ t (0, 0) h]; rfl
theorem Loc2.below {w w' : World} {g B : Nat} {a b : Value} (h : Loc2 w g a b) (hb : Below B w w') (hg : g < B) : Loc2 w' g a b := by obtain ⟨t, h⟩ := h; exact ⟨t, (hb.block g hg).trans h⟩
theorem Loc2.kp {w w' : World} {g : Nat} {X : Nat → Prop} {a b : Value} (h : Loc2 w g a b) (k : Kp w w' X) (hg : ¬ X g) : Loc2 w' g a b := by have hl := h.lt; obtain ⟨t, h⟩ := h; exact ⟨t, (k.block g hl hg).trans h⟩
theorem Loc2.alloc {w : World} {g : Nat} {a b : Value} (h : Loc2 w g a b) (o : Obj) : Loc2 (w.alloc o) g a b := h.kp (X := fun _ => False) (Below.kpOf ((Below.refl _ _).alloc (Nat.le_refl _) o) _) (fun h => h)
theorem Loc2.drewN {w : World} {g : Nat} {a b : Value} (h : Loc2 w g a b) (n : Nat) : Loc2 (w.drewN n) g a b := h
theorem Loc2.set0 {w : World} {g : Nat} {a b : Value} (h : Loc2 w g a b) (u : Value) : Loc2 (w.setCell ⟨g, 0, none⟩ u) g u b := by obtain ⟨t, h⟩ := h; exact ⟨t, by rw [heap_setCell_same w g 0 _ t u h]; rfl⟩
theorem Loc2.set1 {w : World} {g : Nat} {a b : Value} (h : Loc2 w g a b) (u : Value) : Loc2 (w.setCell ⟨g, 1, none⟩ u) g a u := by obtain ⟨t, h⟩ := h; exact ⟨t, by rw [heap_setCell_same w g 1 _ t u h]; rfl⟩
theorem Loc2.other {w : World} {g : Nat} {a b : Value} (h : Loc2 w g a b) {p : Addr} (hp : g ≠ p.block) (u : Value) : Loc2 (w.setCell p u) g a b := by obtain ⟨t, h⟩ := h; exact ⟨t, (heap_setCell_other w p g u hp).trans h⟩

/-- A ledger as a value. -/
abbrev lv (a b : Value) : Value := .agg #[a, b]
/-- a, b are the lists of a ledger of the call's own: they lie in blocks from lo on and below hi, and share none. -/
structure OL (w : World) (lo hi : Nat) (a b : Value) (xs ys : List Int) : Prop where
  has : OI w lo a xs
  next : OI w lo b ys
  top : ∀ k, a.ownBlock = some k → k < hi
  top' : ∀ k, b.ownBlock = some k → k < hi
  ne : ∀ k, a.ownBlock = some k → b.ownBlock ≠ some k
theorem OL.kp {w w' : World} {lo hi : Nat} {X : Nat → Prop} {a b : Value} {xs ys : List Int} (h : OL w lo hi a b xs ys) (k : Kp w w' X) (hx : ∀ k, lo ≤ k → k < hi → ¬ X k) : OL w' lo hi a b xs ys :=
  ⟨h.has.kp k (fun j hj => hx j (World.ownsRow.lt h.has j hj).1 (h.top j hj)), h.next.kp k (fun j hj => hx j (World.ownsRow.lt h.next j hj).1 (h.top' j hj)), h.top, h.top', h.ne⟩
theorem OL.below {w w' : World} {lo hi : Nat} {a b : Value} {xs ys : List Int} (h : OL w lo hi a b xs ys) (hb : Below w.heap.size w w') : OL w' lo hi a b xs ys := h.kp (Below.kpOf hb (fun _ => False)) (fun _ _ _ h => h)
theorem OL.alloc {w : World} {lo hi : Nat} {a b : Value} {xs ys : List Int} (h : OL w lo hi a b xs ys) (o : Obj) : OL (w.alloc o) lo hi a b xs ys := h.below ((Below.refl _ _).alloc (Nat.le_refl _) _)
theorem OL.ri {w : World} {lo hi : Nat} {a b : Value} {xs ys : List Int} (h : OL w lo hi a b xs ys) (hl : xs.length ≤ 4194304) (hm : ys.length ≤ 4194304) : RI w a xs ∧ RI w b ys := ⟨h.has.ri hl, h.next.ri hm⟩
theorem OL.mono {w : World} {lo hi lo' hi' : Nat} {a b : Value} {xs ys : List Int} (h : OL w lo hi a b xs ys) (h1 : lo' ≤ lo) (h2 : hi ≤ hi') : OL w lo' hi' a b xs ys :=
  ⟨h.has.mono h1, h.next.mono h1, fun k hk => Nat.lt_of_lt_of_le (h.top k hk) h2, fun k hk => Nat.lt_of_lt_of_le (h.top' k hk) h2, h.ne⟩
theorem Below.set {B : Nat} {a w : World} (h : Below B a w) {g : Nat} (j : Nat) (u : Value) (hg : B ≤ g) : Below B a (w.setCell ⟨g, j, none⟩ u) := Below.setCell h (p := ⟨g, j, none⟩) hg u
theorem set_kp (w : World) (g j : Nat) (u : Value) : Kp w (w.setCell ⟨g, j, none⟩ u) (fun k => k = g) :=
  ⟨rfl, rfl, rfl, by simp, fun k _ hk => heap_setCell_other w ⟨g, j, none⟩ k u hk⟩

end Go.Proofs.Ytehdchpolgihlaa

/- What laws.markIntS and markLedger write, and what laws.heldIntS and heldLedger read of it. -/
namespace Go.Proofs.Ytehdchpolgihlaa
open Go.RowKit

/-- What markIntS writes: k0, k0 + 1, .. -/
def imarks (k0 n : Nat) : List Int := (List.range n).map fun (i : Nat) => (k0 : Int) + (i : Int)
theorem imarks_len (k0 n : Nat) : (imarks k0 n).length = n := by simp [imarks]
theorem imarks_get (k0 n i : Nat) (h : i < n) : (imarks k0 n).getD i 0 = (k0 : Int) + (i : Int) := by simp [imarks, h]
theorem imarks_succ (k0 n : Nat) : imarks k0 (n + 1) = imarks k0 n ++ [(k0 : Int) + (n : Int)] := by simp [imarks, List.range_succ]
/-- The cells behind k rounds. -/
def imixed (k0 k : Nat) (vs : List Value) : List Value := (imarks k0 k).map (Value.int .i64) ++ vs.drop k
theorem imixed_zero (k0 : Nat) (vs : List Value) : imixed k0 0 vs = vs := by simp [imixed, imarks]
theorem imixed_all (k0 : Nat) (vs : List Value) : imixed k0 vs.length vs = (imarks k0 vs.length).map (Value.int .i64) := by simp [imixed]
theorem imixed_get (k0 k : Nat) (vs : List Value) (h : k < vs.length) : (imixed k0 k vs)[k]? = some (vs[k]) := by
  simp [imixed, List.getElem?_append, imarks_len, h]
theorem imixed_set (k0 k : Nat) (vs : List Value) (h : k < vs.length) : (imixed k0 k vs).set k (.int .i64 ((k0 : Int) + (k : Int))) = imixed k0 (k + 1) vs := by
  unfold imixed
  rw [imarks_succ, List.set_append_right _ _ (by simp [imarks_len]), List.length_map, imarks_len, Nat.sub_self, List.drop_eq_getElem_cons h, List.set_cons_zero]
  simp

set_option maxHeartbeats 800000 in
set_option maxRecDepth 100000 in
theorem imark_row (base g n cap k0 : Nat) (vs : List Value) (w : World) (hn : n ≤ 4194304) (hk0 : k0 ≤ 100000000) (h : w.ownsRow base 3 1 (.slice (some ⟨g, 0, none⟩) n cap) n vs) :
    Calls Try.prog 40 #[.slice (some ⟨g, 0, none⟩) n cap, .int .i64 k0] w fun e w' => e = .returned (.int .i64 (k0 + n)) ∧
      w'.ownsRow base 3 1 (.slice (some ⟨g, 0, none⟩) n cap) n ((imarks k0 n).map (Value.int .i64)) ∧ w.grownBy w' (some g) := by
  have hv0 : vs.length = n := by simpa using h.1
  have Hv : Hid (vs.length = n) := hv0
  clear hv0
  go_enter Try.func40, Try.ntmps40
  go_wp2
  go_loopw [1, 5] (fun c i wr => ∃ k : Nat, k ≤ n ∧ i = .int .i64 k ∧ c = .int .i64 (k0 + k) ∧ wr.ownsRow base 3 1 (.slice (some ⟨g, 0, none⟩) n cap) n (imixed k0 k vs) ∧ w.grownBy wr (some g)) (fun _ i _ => n - (intOf i).toNat)
  case atStart => exact ⟨0, Nat.zero_le _, rfl, by go_num, by rw [imixed_zero]; exact h, grown_refl _ _⟩
  case round =>
    obtain ⟨k, hk, rfl, rfl, ho, hg⟩ := hrel
    by_cases hlt : k < n
    · have hkv : k < vs.length := by rw [Hv.out]; exact hlt
      obtain ⟨u, hu⟩ : ∃ u, wr.cell? ⟨g, k, none⟩ = some u := ⟨_, (ho.cellAt k (by omega)).trans (imixed_get k0 k vs hkv)⟩
      have hfr := ho.frozenAt k
      have hs := ho.stored k (.int .i64 ((k0 : Int) + (k : Int)))
      have HS : Hid ((wr.setCell ⟨g, k, none⟩ (.int .i64 ((k0 : Int) + (k : Int)))).ownsRow base 3 1 (.slice (some ⟨g, 0, none⟩) n cap) n (imixed k0 (k + 1) vs)) := by
        rw [← imixed_set k0 k vs hkv]; exact hs.1
      have HG : Hid (w.grownBy (wr.setCell ⟨g, k, none⟩ (.int .i64 ((k0 : Int) + (k : Int)))) (some g)) := grown_trans hg hs.2
      clear hs ho hg
      go_wp2
      go_roundw
      case rel => exact ⟨k + 1, by omega, by go_num, by go_num, HS.out, HG.out⟩
      case measure => simp [intOf]; omega
    · have hkn : k = n := by omega
      have HO : Hid (wr.ownsRow base 3 1 (.slice (some ⟨g, 0, none⟩) n cap) n ((imarks k0 n).map (Value.int .i64))) := by
        have := imixed_all k0 vs; rw [Hv.out] at this; rw [← this, ← hkn]; rw [← hkn] at ho; exact ho
      clear ho
      subst hkn
      go_wp2
      go_ret
      exact ⟨rfl, HO.out, hg⟩

set_option maxHeartbeats 800000 in
set_option maxRecDepth 100000 in
theorem iheld_any (v : Value) (n k0 : Nat) (w : World) (hk0 : k0 ≤ 100000000) (h : RI w v (imarks k0 n)) :
    Calls Try.prog 41 #[v, .int .i64 k0] w fun e w' => e = .returned (.int .i64 (k0 + n)) ∧ w' = w := by
  obtain ⟨hl, ao, ca, rfl, ha⟩ := h
  rw [imarks_len] at hl ha ⊢
  go_enter Try.func41, Try.ntmps41
  go_wp2
  go_loop [1, 5] (fun c i => ∃ k : Nat, k ≤ n ∧ i = .int .i64 k ∧ c = .int .i64 (k0 + k)) (fun _ i => n - (intOf i).toNat)
  case atStart => exact ⟨0, Nat.zero_le _, rfl, by go_num⟩
  case round =>
    obtain ⟨k, hk, rfl, rfl⟩ := hrel
    by_cases hlt : k < n
    · rcases ha with ha | ⟨b, off, rfl, ha⟩
      · have := congrArg List.length ha; rw [imarks_len] at this; simp at this; omega
      have ha' := ha k hlt
      rw [imarks_get k0 n k hlt] at ha'
      clear ha
      go_wp2
      go_round
      case rel => exact ⟨k + 1, by omega, by go_num, by go_num⟩
      case measure => simp [intOf]; omega
    · have hkn : k = n := by omega
      subst hkn
      clear ha
      go_wp2
      go_ret
      exact ⟨rfl, rfl⟩

set_option maxHeartbeats 400000 in
set_option maxRecDepth 100000 in
theorem imark_none (w : World) (k0 : Nat) : Calls Try.prog 40 #[.slice none 0 0, .int .i64 k0] w fun e w' => e = .returned (.int .i64 k0) ∧ w' = w := by
  go_enter Try.func40, Try.ntmps40
  go_wp2
  refine wp_loop_rounds 1 ?_
  rw [rounds_succ]
  go_wp2
  go_ret
  exact ⟨rfl, rfl⟩

theorem imark_any (base k0 : Nat) (v : Value) (xs : List Int) (w : World) (hl : xs.length ≤ 4194304) (hk0 : k0 ≤ 100000000) (h : OI w base v xs) :
    Calls Try.prog 40 #[v, .int .i64 k0] w fun e w' => e = .returned (.int .i64 (k0 + xs.length)) ∧ OI w' base v (imarks k0 xs.length) ∧ w.grownBy w' v.ownBlock := by
  have h' := h
  rcases h.2 with ⟨rfl, h0⟩ | ⟨g, cap, cur, rfl, _⟩
  · refine (imark_none w k0).mono ?_
    rintro e w' ⟨rfl, rfl⟩
    have hx : xs = [] := List.length_eq_zero_iff.1 h0
    subst hx
    exact ⟨by simp, World.ownsRow_nil _ _ _ _, grown_refl _ _⟩
  · refine (imark_row base g xs.length cap k0 _ w hl hk0 h').mono ?_
    rintro e w' ⟨rfl, ho, hg⟩
    refine ⟨rfl, ?_, hg⟩
    unfold OI
    rw [imarks_len]
    exact ho

end Go.Proofs.Ytehdchpolgihlaa

/- impl.copyInts. -/
namespace Go.Proofs.Ytehdchpolgihlaa
open Go.RowKit

theorem ints_plain64 (xs : List Int) (u : Value) (h : u ∈ xs.map (Value.int .i64)) : u.oneCell' = true := by
  obtain ⟨x, _, rfl⟩ := List.mem_map.1 h; rfl

theorem inews_cells {w : World} {g off : Nat} {xs : List Int} (h : ∀ k, k < xs.length → w.cell? ⟨g, off + k, none⟩ = some (.int .i64 (xs.getD k 0))) :
    ∀ j u, (xs.map (Value.int .i64))[j]? = some u → w.cell? ((⟨g, off, none⟩ : Addr).add j) = some u := by
  intro j u hj
  rw [List.getElem?_map] at hj
  obtain ⟨x, hx, rfl⟩ := Option.map_eq_some_iff.1 hj
  have hlt := (List.getElem?_eq_some_iff.1 hx).1
  have e : ((⟨g, off, none⟩ : Addr).add j) = ⟨g, off + j, none⟩ := by unfold Addr.add; split <;> simp_all
  rw [e, h j hlt]
  simp [List.getD_eq_getElem?_getD, hx]

end Go.Proofs.Ytehdchpolgihlaa

/- Pieces of lists of numbers: at whatever place of a row; what an append of one does; what a cut is. -/
namespace Go.Proofs.Ytehdchpolgihlaa
open Go.RowKit

/-- v reads as the numbers xs, at whatever place. -/
def PI (w : World) (v : Value) (xs : List Int) : Prop :=
  ∃ ao cap, v = .slice ao xs.length cap ∧ (xs = [] ∨ ∃ ad : Addr, ao = some ad ∧ ∀ j u, (xs.map (Value.int .i64))[j]? = some u → w.cell? (ad.add j) = some u)
theorem PI.below {w w' : World} {v : Value} {xs : List Int} (h : PI w v xs) (hb : Below w.heap.size w w') : PI w' v xs := by
  obtain ⟨ao, cap, rfl, h⟩ := h
  refine ⟨ao, cap, rfl, ?_⟩
  rcases h with h | ⟨ad, rfl, h⟩
  · exact .inl h
  · exact .inr ⟨ad, rfl, fun j u hj => (hb.cell (cell_lt (h j u hj))).trans (h j u hj)⟩
theorem RI.pi {w : World} {v : Value} {xs : List Int} (h : RI w v xs) : PI w v xs := by
  obtain ⟨hl, ao, cap, rfl, h⟩ := h
  refine ⟨ao, cap, rfl, ?_⟩
  rcases h with h | ⟨b, off, rfl, h⟩
  · exact .inl h
  · exact .inr ⟨_, rfl, inews_cells h⟩
theorem RI.form {w : World} {v : Value} {xs : List Int} (h : RI w v xs) : ∃ ao ca, v = .slice ao xs.length ca := by obtain ⟨_, ao, ca, e, _⟩ := h; exact ⟨ao, ca, e⟩
theorem RI.at {w : World} {ao : Option Addr} {n ca : Nat} {xs : List Int} (h : RI w (.slice ao n ca) xs) (k : Nat) (hk : k < xs.length) : ∃ b off, ao = some ⟨b, off, none⟩ ∧ w.cell? ⟨b, off + k, none⟩ = some (.int .i64 (xs.getD k 0)) := by
  obtain ⟨_, ao', ca', e, h⟩ := h
  cases e
  rcases h with rfl | ⟨b, off, rfl, h⟩
  · simp at hk
  · exact ⟨b, off, rfl, h k hk⟩
/-- The first k. -/
theorem PI.take {w : World} {ao : Option Addr} {n cap : Nat} {xs : List Int} (h : PI w (.slice ao n cap) xs) (k : Nat) (hk : k ≤ n) (cap' : Nat) : PI w (.slice ao k cap') (xs.take k) := by
  obtain ⟨ao', cap2, e, h⟩ := h
  cases e
  refine ⟨ao, cap', by rw [List.length_take]; congr 1; omega, ?_⟩
  rcases h with rfl | ⟨ad, rfl, h⟩
  · left; simp
  · refine .inr ⟨ad, rfl, fun j u hj => h j u ?_⟩
    rw [List.map_take, List.getElem?_take] at hj
    split at hj
    · exact hj
    · cases hj
/-- All but the first k. -/
theorem PI.drop {w : World} {ao : Option Addr} {n cap : Nat} {xs : List Int} (h : PI w (.slice ao n cap) xs) (k : Nat) (cap' : Nat) {bo : Option Addr} (hb : k < n → bo = ao.map (·.add (k * 1))) : PI w (.slice bo (n - k) cap') (xs.drop k) := by
  obtain ⟨ao', cap2, e, h⟩ := h
  cases e
  refine ⟨bo, cap', by rw [List.length_drop], ?_⟩
  by_cases hlt : k < xs.length
  · rcases h with rfl | ⟨ad, rfl, h⟩
    · simp at hlt
    · refine .inr ⟨ad.add (k * 1), hb hlt, fun j u hj => ?_⟩
      rw [List.map_drop, List.getElem?_drop] at hj
      have := h _ u hj
      rw [← this]
      congr 1
      obtain ⟨b, o, s⟩ := ad
      unfold Addr.add
      split <;> split <;> simp_all <;> omega
  · left; rw [List.drop_of_length_le (by omega)]
theorem grown_same (w : World) (row : Option Nat) : w.grownBy w row := ⟨rfl, rfl, rfl, Nat.le_refl _, fun _ _ _ => rfl⟩
theorem run_append_none1 (ty : TypeId) (base cap : Nat) (v : Value) (n : Nat) (xs : List Value) (w : World) (hown : w.ownsRow base 3 1 v n xs) :
    (Builtin.append_ #[29, 29] ty #[v, .slice none 0 cap]).run Try.prog w = .ok v w := by
  obtain ⟨i0, hi, hz0, hz1, hz2⟩ := info_parts Try.info3
  rcases hown.2 with ⟨rfl, rfl⟩ | ⟨g, cp, cur, rfl, _, _, hnc, _⟩
  · simp [Builtin.append_, run_underlying Try.underlying29, sizeOf, typeInfo, hi, Builtin.lenOf, Builtin.firstCells]
  · simp [Builtin.append_, run_underlying Try.underlying29, sizeOf, typeInfo, hi, Builtin.lenOf, Builtin.firstCells, hnc, storeCells]
/-- An append of a piece onto what is owned. -/
theorem append_ints {ops : Array Oper} {rest : List Oper} {o : Oper} {a : Act} {Q : Exit → Act → World → Prop} {w : World} (hgd : o.guard = none) (s x : Operand)
    (ho : o.op = .call { callee := .builtin .append, args := #[s, x], argTypes := #[29, 29] }) (base : Nat) (v u : Value) (xs ys : List Int) (hs : a.eval s = v) (hx : a.eval x = u)
    (hown : OI w base v xs) (hp : PI w u ys) (hl : xs.length + ys.length ≤ 16777216) (hbase : base ≤ w.heap.size)
    (h : ∀ v' w', OI w' base v' (xs ++ ys) → w.grownBy w' v.ownBlock → (v'.ownBlock = v.ownBlock ∨ v'.ownBlock = some w.heap.size) → wpList Try.prog ops Q rest (a.put o.dst v') w') :
    wpList Try.prog ops Q (o :: rest) a w := by
  obtain ⟨i0, hi, hz0, hz1, hz2⟩ := info_parts Try.info3
  obtain ⟨ao, cap, rfl, hp⟩ := hp
  match ao, hx with
  | none, hx =>
    have hy : ys = [] := by rcases hp with h | ⟨ad, e, _⟩; exact h; cases e
    subst hy
    refine wpList_plain hgd fun K hK => ?_
    have hrun := run_append_none1 o.type base cap v xs.length (xs.map (Value.int .i64)) w hown
    unfold Oper.wp
    simp only [List.length_nil] at hx
    simp [execOp, ho, resolve, invoke, builtin, hs, hx, hrun, Result.andThen]
    exact hK _ _ (h v w (by simpa using hown) (grown_same _ _) (.inl rfl))
  | some ad, hx =>
    have hn : ∀ j u, (ys.map (Value.int .i64))[j]? = some u → w.cell? (ad.add j) = some u := by
      rcases hp with rfl | ⟨ad', e, h⟩
      · intro j u hj; simp at hj
      · cases e; exact h
    refine wpList_append_own_at _ hgd s x 29 ho base 3 i0 (.int .i64 0) 1 8 Try.underlying29 hi hz0 hz1 hz2 rfl (by decide) v xs.length (xs.map (Value.int .i64)) hs hown ad ys.length cap (ys.map (Value.int .i64)) hx (by simp) hn (ints_plain64 ys) (by unfold maxLen; omega) (by omega) hbase ?_
    intro v' w' ho' hg' _ hb'
    refine h v' w' ?_ hg' hb'
    unfold OI
    rw [List.map_append, List.length_append]
    exact ho'
set_option maxRecDepth 100000 in
theorem icut_to (ao : Option Addr) (n ca k : Nat) (w : World) (hk : k ≤ ca) :
    (Instr.slice 29 (.slice ao n ca) none (some (.int .i64 (k : Int))) none).run Try.prog w = .ok (.slice ao k ca) w := by
  obtain ⟨i0, hi, hz0, hz1, hz2⟩ := info_parts Try.info3
  rw [run_slice_h (ht := Try.underlying29) (kh := .i64) (h := (k : Int)) (h0 := by omega) (h2 := by omega)]
  have he : Try.prog.elem 29 = 3 := by simp [Program.elem, Try.underlying29]
  have hs : (sizeOf (Try.prog.elem 29)).run Try.prog w = .ok 1 w := by rw [he]; simp [sizeOf, typeInfo, hi, hz1]
  rw [hs]
  simp [sliced, Result.andThen]
  intro _; cases ao <;> rfl
set_option maxRecDepth 100000 in
theorem icut_from (ao : Option Addr) (n ca k : Nat) (w : World) (hk : k ≤ n) :
    (Instr.slice 29 (.slice ao n ca) (some (.int .i64 (k : Int))) none none).run Try.prog w = .ok (.slice (if ca = k then ao else ao.map (·.add (k * 1))) (n - k) (ca - k)) w := by
  obtain ⟨i0, hi, hz0, hz1, hz2⟩ := info_parts Try.info3
  rw [run_slice_l (ht := Try.underlying29) (kl := .i64) (l := (k : Int)) (h0 := by omega) (h1 := by omega)]
  have he : Try.prog.elem 29 = 3 := by simp [Program.elem, Try.underlying29]
  have hs : (sizeOf (Try.prog.elem 29)).run Try.prog w = .ok 1 w := by rw [he]; simp [sizeOf, typeInfo, hi, hz1]
  rw [hs]
  simp [sliced, Result.andThen]
/-- Its length is within its capacity. -/
def Cap (v : Value) : Prop := ∃ ao n cap, v = .slice ao n cap ∧ n ≤ cap ∧ cap ≤ maxLen
theorem OI.cap {w : World} {base : Nat} {v : Value} {xs : List Int} (h : OI w base v xs) : Cap v := by
  rcases h.2 with ⟨rfl, h0⟩ | ⟨g, cap, cur, rfl, _, _, h1, h2, h3⟩
  · exact ⟨_, _, _, rfl, by simp, by unfold maxLen; omega⟩
  · exact ⟨_, _, _, rfl, by first | exact h1 | exact h2 | exact h3 | omega, by first | exact h2 | exact h3 | omega⟩
end Go.Proofs.Ytehdchpolgihlaa

/- Blocks of known cells. -/
namespace Go.Proofs.Ytehdchpolgihlaa
open Go.RowKit

/-- Block g has the cells cs. -/
def Loc (w : World) (g : Nat) (cs : Array Value) : Prop := ∃ t, w.heap[g]? = some (.cells cs t (0, 0))
theorem loc_at (w : World) (cs : Array Value) (t : TypeId) {g : Nat} (h : w.heap.size = g) : Loc (w.alloc (.cells cs t)) g cs := h ▸ ⟨t, heap_alloc_new w _⟩
theorem Loc.lt {w : World} {g : Nat} {cs : Array Value} (h : Loc w g cs) : g < w.heap.size := by obtain ⟨t, h⟩ := h; exact (Array.getElem?_eq_some_iff.1 h).1
theorem Loc.cell {w : World} {g : Nat} {cs : Array Value} (h : Loc w g cs) (j : Nat) {v : Value} (hj : cs[j]? = some v) : w.cell? ⟨g, j, none⟩ = some v := by
  obtain ⟨t, h⟩ := h
  rw [cell_of_row w g j _ t (0, 0) h]; exact hj
theorem Loc.frozen {w : World} {g : Nat} {cs : Array Value} (h : Loc w g cs) (j : Nat) : w.frozen? ⟨g, j, none⟩ = false := by obtain ⟨t, h⟩ := h; exact frozen_of_row w g j _ t h
theorem Loc.below {w w' : World} {g B : Nat} {cs : Array Value} (h : Loc w g cs) (hb : Below B w w') (hg : g < B) : Loc w' g cs := by obtain ⟨t, h⟩ := h; exact ⟨t, (hb.block g hg).trans h⟩
theorem Loc.kp {w w' : World} {g : Nat} {X : Nat → Prop} {cs : Array Value} (h : Loc w g cs) (k : Kp w w' X) (hg : ¬ X g) : Loc w' g cs := by have hl := h.lt; obtain ⟨t, h⟩ := h; exact ⟨t, (k.block g hl hg).trans h⟩
theorem Loc.alloc {w : World} {g : Nat} {cs : Array Value} (h : Loc w g cs) (o : Obj) : Loc (w.alloc o) g cs := h.kp (X := fun _ => False) (Below.kpOf ((Below.refl _ _).alloc (Nat.le_refl _) o) _) (fun h => h)
theorem Loc.drewN {w : World} {g : Nat} {cs : Array Value} (h : Loc w g cs) (n : Nat) : Loc (w.drewN n) g cs := h
theorem Loc.set {w : World} {g : Nat} {cs : Array Value} (h : Loc w g cs) (j : Nat) (u : Value) {cs' : Array Value} (e : cs.setIfInBounds j u = cs') : Loc (w.setCell ⟨g, j, none⟩ u) g cs' := by obtain ⟨t, h⟩ := h; exact ⟨t, by rw [heap_setCell_same w g j _ t u h, e]⟩
theorem Loc.other {w : World} {g : Nat} {cs : Array Value} (h : Loc w g cs) {p : Addr} (hp : g ≠ p.block) (u : Value) : Loc (w.setCell p u) g cs := by obtain ⟨t, h⟩ := h; exact ⟨t, (heap_setCell_other w p g u hp).trans h⟩

/-- A row of four numbers as a value; its cells. -/
abbrev rv (a b c d : Int) : Value := .agg #[.int .i64 a, .int .i64 b, .int .i64 c, .int .i64 d]
abbrev r4 (a b c d : Int) : Array Value := #[.int .i64 a, .int .i64 b, .int .i64 c, .int .i64 d]
theorem Loc.cells4 {w : World} {g : Nat} {a b c d : Int} (h : Loc w g (r4 a b c d)) :
    w.cell? ⟨g, 0, none⟩ = some (.int .i64 a) ∧ w.cell? ⟨g, 1, none⟩ = some (.int .i64 b) ∧ w.cell? ⟨g, 2, none⟩ = some (.int .i64 c) ∧ w.cell? ⟨g, 3, none⟩ = some (.int .i64 d) :=
  ⟨h.cell 0 rfl, h.cell 1 rfl, h.cell 2 rfl, h.cell 3 rfl⟩
end Go.Proofs.Ytehdchpolgihlaa

/- Qc: a certificate as a value; laws.eqQc, heldQc, szQc. -/
namespace Go.Proofs.Ytehdchpolgihlaa
open Go.RowKit

/-- A certificate: its view, its name, who voted. -/
abbrev qv (n : Int) (s : ByteArray) (v : Value) : Value := .agg #[.int .i64 n, .string s, v]
theorem qalloc (w : World) (o : Obj) : Below w.heap.size w (w.alloc o) := (Below.refl _ _).alloc (Nat.le_refl _) _
theorem qalloc2 (w : World) (o p : Obj) : Below w.heap.size w ((w.alloc o).alloc p) := ((Below.refl _ _).alloc (Nat.le_refl _) _).alloc (by simp) _

end Go.Proofs.Ytehdchpolgihlaa

/- Two certificates held against each other, by the specification and by the program. -/
namespace Go.Proofs.Ytehdchpolgihlaa
open Go.RowKit

theorem list_end {xs ys : List Int} {k : Nat} (h1 : k ≤ xs.length) (h2 : k ≤ ys.length) (h : ¬ (k < xs.length ∧ k < ys.length)) (he : ∀ j, j < k → xs.getD j 0 = ys.getD j 0) : xs.length = ys.length ↔ xs = ys := by
  constructor
  · intro e
    apply List.ext_getElem e
    intro i p q
    have := he i (by omega)
    simpa [List.getD_eq_getElem?_getD, p, q] using this
  · rintro rfl; rfl
theorem str_ne {t s : ByteArray} (h : t ≠ s) : (t.toList == s.toList) = false := by
  rw [beq_eq_false_iff_ne]
  intro e
  rw [ByteArray.toList_eq, ByteArray.toList_eq] at e
  exact h (ByteArray.ext (Array.toList_inj.1 e))
theorem list_off {xs ys : List Int} {k : Nat} (h : xs.getD k 0 ≠ ys.getD k 0) : xs ≠ ys := fun e => h (e ▸ rfl)

/-- Whether two certificates are alike. -/
def alikeB (n m : Int) (s t : ByteArray) (xs ys : List Int) : Bool := decide (n = m ∧ s = t ∧ xs = ys)

end Go.Proofs.Ytehdchpolgihlaa

/- spec.Number: what it answers. -/
namespace Go.Proofs.Ytehdchpolgihlaa
open Go.RowKit

theorem take_snoc (s : ByteArray) (k : Nat) (h : k < s.size) : s.data.toList.take (k + 1) = s.data.toList.take k ++ [s[k]] := by
  rw [List.take_succ_eq_append_getElem (by simpa using h)]; rfl
theorem byte_get (s : ByteArray) (k : Nat) (h : k < s.size) : s.data.toList[k]? = some s[k] := by
  rw [List.getElem?_eq_getElem (by simpa using h)]; rfl
theorem dec_step (s : ByteArray) (k n : Nat) (h : k < s.size) (hd : Lib.decFrom 0 (s.data.toList.take k) = some n) (h1 : 48 ≤ s[k].toNat) (h2 : s[k].toNat ≤ 57) :
    Lib.decFrom 0 (s.data.toList.take (k + 1)) = some (n * 10 + (s[k].toNat - 48)) :=
  Lib.decFrom_take s.data.toList k 0 n s[k] _ hd (byte_get s k h) (by rw [Lib.digitVal, if_pos ⟨h1, h2⟩])
theorem len_data (s : ByteArray) : s.data.toList.length = s.size := by simp

set_option maxHeartbeats 400000 in
set_option maxRecDepth 100000 in
theorem specNumber_len (s : ByteArray) (w : World) (hm : s.size ≤ maxLen) (h : s.size < 1 ∨ 6 < s.size) :
    Calls Try.prog 84 #[.string s] w fun e w' => e = .returned (.tuple #[.int .i64 0, .bool false]) ∧ w' = w := by
  unfold maxLen at hm
  by_cases h1 : s.size < 1
  · clear h
    go_enter Try.func84, Try.ntmps84
    go_wp2
    go_ret2
    exact ⟨rfl, rfl⟩
  · have hd : decide ((s.size : Int) < 1) = false := by simp; omega
    have h2 : 6 < s.size := by omega
    clear h
    go_enter Try.func84, Try.ntmps84
    go_wp2
    go_ret2
    exact ⟨rfl, rfl⟩

set_option maxHeartbeats 1600000 in
set_option maxRecDepth 100000 in
theorem specNumber_six (s : ByteArray) (w : World) (h1 : 1 ≤ s.size) (h6 : s.size ≤ 6) :
    Calls Try.prog 84 #[.string s] w fun e w' => e = .returned (.tuple #[.int .i64 (nans (numOf s.data.toList)), .bool (numOf s.data.toList).isSome]) ∧ Below w.heap.size w w' := by
  have hd : decide ((s.size : Int) < 1) = false := by simp; omega
  go_enter Try.func84, Try.ntmps84
  go_wp2
  go_loop [4, 5] (fun y i => ∃ k n : Nat, k ≤ s.size ∧ y = .int .i64 n ∧ i = .int .i64 k ∧ n < 10 ^ k ∧ Hid (Lib.decFrom 0 (s.data.toList.take k) = some n)) (fun _ i => s.size - (intOf i).toNat)
  case atStart => exact ⟨0, 0, by omega, rfl, rfl, by simp, rfl⟩
  case round =>
    obtain ⟨k, n, hk, rfl, rfl, hn, HD⟩ := hrel
    have hn6 : n ≤ 999999 := by
      have : 10 ^ k ≤ 10 ^ 6 := Nat.pow_le_pow_right (by omega) (by omega)
      omega
    by_cases hlt : k < s.size
    · by_cases hb : 48 ≤ s[k].toNat ∧ s[k].toNat ≤ 57
      · have HS := hide (dec_step s k n hlt HD.out hb.1 hb.2)
        have hb1 := hb.1
        have hb2 := hb.2
        have hpow : n * 10 + (s[k].toNat - 48) < 10 ^ (k + 1) := by rw [Nat.pow_succ]; omega
        clear hb
        go_wp2
        go_round
        case rel => exact ⟨k + 1, n * 10 + (s[k].toNat - 48), by omega, by go_num, by go_num, hpow, HS⟩
        case measure => simp [intOf]; omega
      · have HN := hide (numOf_none_byte (byte_get s k hlt) (by omega))
        by_cases hb1 : s[k].toNat < 48
        · clear hb
          go_wp2
          go_ret2
          exact ⟨by rw [unhide HN]; rfl, Below.refl _ _⟩
        · have hb2 : 57 < s[k].toNat := by omega
          clear hb
          go_wp2
          go_ret2
          exact ⟨by rw [unhide HN]; rfl, Below.refl _ _⟩
    · have hks : k = s.size := by omega
      have HD' : Hid (Lib.decFrom 0 s.data.toList = some n) := by
        have := HD.out; rw [hks, List.take_of_length_le (by rw [len_data]; omega)] at this; exact this
      clear HD
      by_cases he : Lib.decDigits n = s.data.toList
      · have HY := hide (numOf_yes HD'.out hn6 he)
        have hs : (⟨(Lib.itoa (n : Int)).toArray⟩ : ByteArray) = s := by rw [itoa_nat, he]
        have HC := hide fun w => specDigits_any (n : Int) w (by omega) (by omega)
        rw [hs] at HC
        clear hs he
        go_wp2_with fail
        refine (unhide HC _).mono ?_
        rintro e w1 ⟨rfl, b1⟩
        go_wp2
        go_ret2
        exact ⟨by rw [unhide HY]; rfl, b1⟩
      · have HN := hide (numOf_no HD'.out he)
        have HC := hide fun w => specDigits_any (n : Int) w (by omega) (by omega)
        obtain ⟨t, ht⟩ : ∃ t : ByteArray, t = ⟨(Lib.itoa (n : Int)).toArray⟩ := ⟨_, rfl⟩
        rw [← ht] at HC
        have hne : t ≠ s := by intro e; rw [ht, itoa_nat] at e; apply he; rw [← e]
        have hne' := str_ne hne
        clear ht he
        go_wp2_with fail
        refine (unhide HC _).mono ?_
        rintro e w1 ⟨rfl, b1⟩
        go_wp2
        go_ret2
        exact ⟨by rw [unhide HN]; rfl, b1⟩

theorem specNumber_any (s : ByteArray) (w : World) (hm : s.size ≤ maxLen) :
    Calls Try.prog 84 #[.string s] w fun e w' => e = .returned (.tuple #[.int .i64 (nans (numOf s.data.toList)), .bool (numOf s.data.toList).isSome]) ∧ Below w.heap.size w w' := by
  by_cases h : s.size < 1 ∨ 6 < s.size
  · refine (specNumber_len s w hm h).mono ?_
    rintro e w' ⟨rfl, rfl⟩
    exact ⟨by rw [numOf_none_len (by rw [len_data]; exact h)]; rfl, Below.refl _ _⟩
  · exact specNumber_six s w (by omega) (by omega)
end Go.Proofs.Ytehdchpolgihlaa

/- impl.readable: it calls what it is handed; a panic there is caught. -/
namespace Go.Proofs.Ytehdchpolgihlaa
open Go.RowKit

end Go.Proofs.Ytehdchpolgihlaa

/- impl.Number: what it answers. -/
namespace Go.Proofs.Ytehdchpolgihlaa
open Go.RowKit

end Go.Proofs.Ytehdchpolgihlaa

/- impl.Number: its closure, its face. -/
namespace Go.Proofs.Ytehdchpolgihlaa
open Go.RowKit

theorem new_cell (w : World) (x : Value) (t : TypeId) : (w.alloc (.cells #[x] t)).cell? ⟨w.heap.size, 0, none⟩ = some x := by simp
theorem new_free (w : World) (x : Value) (t : TypeId) : (w.alloc (.cells #[x] t)).frozen? ⟨w.heap.size, 0, none⟩ = false := by simp [go_sem]
/-- The two variables that Number's closure captures, laid. -/
abbrev nboxes (w : World) (s : ByteArray) : World := (w.alloc (.cells #[.string s] 9)).alloc (.cells #[.int .i64 0] 3)
theorem nboxes_below (w : World) (s : ByteArray) : Below w.heap.size w (nboxes w s) := ((Below.refl _ _).alloc (Nat.le_refl _) _).alloc (by simp) _
theorem nboxes_size (w : World) (s : ByteArray) : (nboxes w s).heap.size = w.heap.size + 2 := by simp
theorem nboxes_ok (w : World) (s : ByteArray) (o : Obj) :
    ((nboxes w s).alloc o).cell? ⟨w.heap.size, 0, none⟩ = some (.string s) ∧ ((nboxes w s).alloc o).cell? ⟨w.heap.size + 1, 0, none⟩ = some (.int .i64 0) ∧ ((nboxes w s).alloc o).frozen? ⟨w.heap.size + 1, 0, none⟩ = false := by
  simp [nboxes, go_sem]

end Go.Proofs.Ytehdchpolgihlaa
