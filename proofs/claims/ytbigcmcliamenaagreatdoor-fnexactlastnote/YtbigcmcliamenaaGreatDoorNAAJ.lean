/- Texts that belong together: CutPlain, CutWorld, Cut, ToTx, OneStr, DigPlain, SpecDigits. -/
import Derived.Test.YtbigcmcliamenaaGreatDoorNAAI
import Derived.Test.YtbigcmcliamenaaGreatDoorNAAA
import Derived.Laws.BytesArg
import Derived.WalkKit
import Derived.Lib.ItoaNum
namespace Go.Proofs.YtbigcmcliamenaaGreatDoor
open Go

theorem hit_hd {m : UInt8} {r : List UInt8} {j : Nat} (h : m ∉ r.take j) (hj : r[j]? = some m) : hd m r = r.take j ∧ tl m r = r.drop (j + 1) := by
 have hl : j < r.length := (List.getElem?_eq_some_iff.1 hj).1
 have hm : r[j] = m := (List.getElem?_eq_some_iff.1 hj).2
 have e : r = r.take j ++ m :: r.drop (j + 1) := by
  rw [← hm, List.getElem_cons_drop, List.take_append_drop]
 constructor
 ·conv => lhs; rw [e]
  exact hd_some h
 ·conv => lhs; rw [e]
  exact tl_some h
def rst (l : List UInt8) : Nat → List UInt8
 | 0 => l
 | 1 => tl 62 l
 | 2 => tl 58 (tl 62 l)
 | _ => tl 35 (tl 58 (tl 62 l))
def mrk : Nat → UInt8
 | 0 => 62
 | 1 => 58
 | _ => 35
def toB (l : List UInt8) : ByteArray := ⟨l.toArray⟩
theorem ext_list (s : ByteArray) (n p : Nat) : (s.extract n p).data.toList = (s.data.toList.drop n).take (p - n) := by
 rw [ByteArray.data_extract, Array.toList_extract]
theorem ext_toB (s : ByteArray) (n p : Nat) : s.extract n p = toB ((s.data.toList.drop n).take (p - n)) := by
 apply ByteArray.ext
 apply Array.toList_inj.1
 rw [ext_list s n p]; rfl
def CAt (s : ByteArray) (pos k n : Nat) : Prop := n ≤ pos ∧ n ≤ s.size ∧ s.data.toList.drop n = rst s.data.toList k ∧ (k < 3 → mrk k ∉ (s.data.toList.drop n).take (pos - n))
theorem cat_start (s : ByteArray) : CAt s 0 0 0 := ⟨by omega, by omega, rfl, by simp⟩
theorem cat_hit {s : ByteArray} {pos k n : Nat} (h : CAt s pos k n) (hp : pos < s.size) (hk : k < 3) (hb : s[pos] = mrk k) :
 s.extract n pos = toB (hd (mrk k) (rst s.data.toList k)) ∧ CAt s (pos + 1) (k + 1) (pos + 1) := by
 obtain ⟨h1, h2, h3, h4⟩ := h
 have hj : (s.data.toList.drop n)[pos - n]? = some (mrk k) := by
  rw [List.getElem?_drop, show n + (pos - n) = pos from by omega, List.getElem?_eq_getElem (by simpa using hp), ← hb]; rfl
 obtain ⟨e1, e2⟩ := hit_hd (h4 hk) hj
 refine ⟨?_, by omega, by omega, ?_, by simp⟩
 ·rw [ext_toB s n pos, ← h3, e1]
 ·rw [List.drop_drop, show n + (pos - n + 1) = pos + 1 from by omega] at e2
  rw [← e2, h3]
  match k, hk with
  | 0, _ => rfl
  | 1, _ => rfl
  | 2, _ => rfl
theorem not_mem_more {m : UInt8} {l : List UInt8} {n pos v : Nat} (hn : n ≤ pos) (h : m ∉ (l.drop n).take (pos - n)) (hv : ∀ j, j < v → l[pos + j]? ≠ some m) : m ∉ (l.drop n).take (pos + v - n) := by
 induction v with
 | zero => exact h
 | succ v ih =>
  have h' := ih (fun j hj => hv j (by omega))
  rw [show pos + (v + 1) - n = (pos + v - n) + 1 from by omega, List.take_add_one]
  intro hm
  rw [List.mem_append] at hm
  rcases hm with hm | hm
  ·exact h' hm
  ·rw [List.getElem?_drop, show n + (pos + v - n) = pos + v from by omega] at hm
   have := hv v (by omega)
   cases hq : l[pos + v]? with
   | none => rw [hq] at hm; simp at hm
   | some x => rw [hq] at hm; simp at hm; rw [hq, hm] at this; exact this rfl
theorem mrk_small (k : Nat) : (mrk k).toNat < 128 := by unfold mrk; split <;> decide
theorem decode_tail (s : ByteArray) (pos j : Nat) (hj : 1 ≤ j) (h : j < (Utf8.decode s pos).2) : 128 ≤ (s.get! (pos + j)).toNat := by
 unfold Utf8.decode at h
 simp only at h
 split at h
 ·simp at h; omega
 ·split at h
  ·rename_i hc
   simp only [Bool.and_eq_true, beq_iff_eq, decide_eq_true_eq] at hc
   split at h
   ·simp at h
    obtain rfl : j = 1 := by omega
    omega
   ·simp at h; omega
  ·split at h
   ·rename_i hc
    simp only [Bool.and_eq_true, beq_iff_eq, decide_eq_true_eq] at hc
    split at h
    ·simp at h
     have : j = 1 ∨ j = 2 := by omega
     rcases this with rfl | rfl <;> omega
    ·simp at h; omega
   ·split at h
    ·rename_i hc
     simp only [Bool.and_eq_true, beq_iff_eq, decide_eq_true_eq] at hc
     split at h
     ·simp at h
      have : j = 1 ∨ j = 2 ∨ j = 3 := by omega
      rcases this with rfl | rfl | rfl <;> omega
     ·simp at h; omega
    ·simp at h; omega
theorem get_of {s : ByteArray} {i : Nat} {x : UInt8} (h : s.data.toList[i]? = some x) : s.get! i = x := by
 rw [Array.getElem?_toList] at h
 unfold ByteArray.get!
 cases s
 simp only at *
 obtain ⟨hi, e⟩ := Array.getElem?_eq_some_iff.1 h
 simp [hi, e]
theorem cat_miss {s : ByteArray} {pos k n : Nat} (h : CAt s pos k n) (hp : pos < s.size) (hb : k < 3 → s[pos] ≠ mrk k) :
 CAt s (pos + (Utf8.decode s pos).2) k n := by
 obtain ⟨h1, h2, h3, h4⟩ := h
 refine ⟨by omega, h2, h3, fun hk => ?_⟩
 refine not_mem_more h1 (h4 hk) fun j hj e => ?_
 by_cases h0 : j = 0
 ·subst h0
  rw [Nat.add_zero, List.getElem?_eq_getElem (by simpa using hp)] at e
  exact hb hk (Option.some.inj e)
 ·have := decode_tail s pos j (by omega) hj
  rw [get_of e] at this
  have := mrk_small k
  omega
theorem rst_all (s : ByteArray) (n : Nat) : s.extract n s.size = toB (s.data.toList.drop n) := by
 rw [ext_toB s n s.size, List.take_of_length_le (by simp)]
theorem cat_end {s : ByteArray} {pos k n : Nat} (h : CAt s pos k n) (hp : ¬ pos < s.size) : s.extract n s.size = toB (rst s.data.toList k) ∧ (k < 3 → hd (mrk k) (rst s.data.toList k) = rst s.data.toList k ∧ tl (mrk k) (rst s.data.toList k) = []) := by
 obtain ⟨h1, h2, h3, h4⟩ := h
 refine ⟨by rw [rst_all s n, h3], fun hk => ?_⟩
 have hm : mrk k ∉ rst s.data.toList k := by
  have := h4 hk
  rw [List.take_of_length_le (by simp; omega), h3] at this
  exact this
 exact ⟨hd_none hm, tl_none hm⟩
end Go.Proofs.YtbigcmcliamenaaGreatDoor
namespace Go.Proofs.YtbigcmcliamenaaGreatDoor
open Go.RowKit

def cw (w : World) (s g0 g1 g2 g3 : ByteArray) (pos : Nat) : World :=
 (((w.alloc (.cells #[.string ⟨#[]⟩, .string ⟨#[]⟩, .string ⟨#[]⟩, .string ⟨#[]⟩] 229)).alloc (.cells #[.int .i32 62, .int .i32 58, .int .i32 35] 235)).alloc (.cells #[.string g0, .string g1, .string g2, .string g3] 229)).iter s pos
theorem cw_marks (w : World) (s g0 g1 g2 g3 : ByteArray) (pos : Nat) : (cw w s g0 g1 g2 g3 pos).cell? ⟨w.heap.size + 1, 0, none⟩ = some (.int .i32 62) ∧ (cw w s g0 g1 g2 g3 pos).cell? ⟨w.heap.size + 1, 1, none⟩ = some (.int .i32 58) ∧ (cw w s g0 g1 g2 g3 pos).cell? ⟨w.heap.size + 1, 2, none⟩ = some (.int .i32 35) := by
 unfold cw World.iter
 simp [go_sem]
theorem cw_cells (w : World) (s g0 g1 g2 g3 : ByteArray) (pos : Nat) : (cw w s g0 g1 g2 g3 pos).cell? ⟨w.heap.size + 1 + 1, 0, none⟩ = some (.string g0) ∧ (cw w s g0 g1 g2 g3 pos).cell? ⟨w.heap.size + 1 + 1, 1, none⟩ = some (.string g1) ∧ (cw w s g0 g1 g2 g3 pos).cell? ⟨w.heap.size + 1 + 1, 2, none⟩ = some (.string g2) ∧ (cw w s g0 g1 g2 g3 pos).cell? ⟨w.heap.size + 1 + 1, 3, none⟩ = some (.string g3) := by
 unfold cw World.iter
 simp [go_sem]
theorem cw_free (w : World) (s g0 g1 g2 g3 : ByteArray) (pos j : Nat) : (cw w s g0 g1 g2 g3 pos).frozen? ⟨w.heap.size + 1 + 1, j, none⟩ = false := by
 unfold cw World.iter
 simp [go_sem]
theorem cw_set0 (w : World) (s g0 g1 g2 g3 x : ByteArray) (pos : Nat) : (cw w s g0 g1 g2 g3 pos).setCell ⟨w.heap.size + 1 + 1, 0, none⟩ (.string x) = cw w s x g1 g2 g3 pos := by
 unfold cw World.iter
 simp [go_sem]
theorem cw_set1 (w : World) (s g0 g1 g2 g3 x : ByteArray) (pos : Nat) : (cw w s g0 g1 g2 g3 pos).setCell ⟨w.heap.size + 1 + 1, 1, none⟩ (.string x) = cw w s g0 x g2 g3 pos := by
 unfold cw World.iter
 simp [go_sem]
theorem cw_set2 (w : World) (s g0 g1 g2 g3 x : ByteArray) (pos : Nat) : (cw w s g0 g1 g2 g3 pos).setCell ⟨w.heap.size + 1 + 1, 2, none⟩ (.string x) = cw w s g0 g1 x g3 pos := by
 unfold cw World.iter
 simp [go_sem]
theorem cw_size (w : World) (g0 g1 g2 g3 : ByteArray) : (((w.alloc (.cells #[.string ⟨#[]⟩, .string ⟨#[]⟩, .string ⟨#[]⟩, .string ⟨#[]⟩] 229)).alloc (.cells #[.int .i32 62, .int .i32 58, .int .i32 35] 235)).alloc (.cells #[.string g0, .string g1, .string g2, .string g3] 229)).heap.size = w.heap.size + 1 + 1 + 1 := by simp
theorem cw_next (w : World) (s g0 g1 g2 g3 : ByteArray) (pos : Nat) (h : pos < s.size) (ty : TypeId) : (Instr.next (.pointer (some ⟨w.heap.size + 1 + 1 + 1, 0, none⟩)) true ty).run Tryz.prog (cw w s g0 g1 g2 g3 pos) = .ok (.tuple #[.bool true, .int .i64 pos, .int .i32 (Utf8.decode s pos).1]) (cw w s g0 g1 g2 g3 (pos + (Utf8.decode s pos).2)) := by
 have := run_next_any (P := Tryz.prog) (((w.alloc (.cells #[.string ⟨#[]⟩, .string ⟨#[]⟩, .string ⟨#[]⟩, .string ⟨#[]⟩] 229)).alloc (.cells #[.int .i32 62, .int .i32 58, .int .i32 35] 235)).alloc (.cells #[.string g0, .string g1, .string g2, .string g3] 229)) s pos ty h
 rw [cw_size] at this
 exact this
theorem cw_end (w : World) (s g0 g1 g2 g3 : ByteArray) (pos : Nat) (h : ¬ pos < s.size) (ty : TypeId) : (Instr.next (.pointer (some ⟨w.heap.size + 1 + 1 + 1, 0, none⟩)) true ty).run Tryz.prog (cw w s g0 g1 g2 g3 pos) = .ok (.tuple #[.bool false]) (cw w s g0 g1 g2 g3 pos) := by
 have := run_next_end (P := Tryz.prog) (((w.alloc (.cells #[.string ⟨#[]⟩, .string ⟨#[]⟩, .string ⟨#[]⟩, .string ⟨#[]⟩] 229)).alloc (.cells #[.int .i32 62, .int .i32 58, .int .i32 35] 235)).alloc (.cells #[.string g0, .string g1, .string g2, .string g3] 229)) s pos ty h
 rw [cw_size] at this
 exact this
theorem cw_pos (w : World) (s g0 g1 g2 g3 : ByteArray) (pos : Nat) : (cw w s g0 g1 g2 g3 pos).iterPos (w.heap.size + 1 + 1 + 1) = pos := by
 rw [← cw_size w g0 g1 g2 g3]
 exact World.iterPos_iter _ _ _
def gs (l : List UInt8) : Nat → ByteArray × ByteArray × ByteArray × ByteArray
 | 0 => (⟨#[]⟩, ⟨#[]⟩, ⟨#[]⟩, ⟨#[]⟩)
 | 1 => (toB (f0 l), ⟨#[]⟩, ⟨#[]⟩, ⟨#[]⟩)
 | 2 => (toB (f0 l), toB (f1 l), ⟨#[]⟩, ⟨#[]⟩)
 | _ => (toB (f0 l), toB (f1 l), toB (f2 l), ⟨#[]⟩)
def CRel (s : ByteArray) (w : World) (a f : Value) (wr : World) : Prop := ∃ pos k n : Nat, k ≤ 3 ∧ n ≤ pos ∧ n ≤ s.size ∧ a = .int .i64 k ∧ f = .int .i64 n ∧ CAt s pos k n ∧ wr = cw w s (gs s.data.toList k).1 (gs s.data.toList k).2.1 (gs s.data.toList k).2.2.1 (gs s.data.toList k).2.2.2 pos

set_option maxHeartbeats 4000000 in
set_option maxRecDepth 100000 in
theorem cut_any (s : ByteArray) (w : World) (hs : s.size ≤ 33554432) :
 Calls Tryz.prog 188 #[.string s] w fun e w' => e = .returned (.agg #[.string (toB (f0 s.data.toList)), .string (toB (f1 s.data.toList)), .string (toB (f2 s.data.toList)), .string (toB (f3 s.data.toList))]) ∧ Below w.heap.size w w' := by
 go_enter Tryz.func188, Tryz.ntmps188
 go_wp2
 go_loopw [5, 6] (fun a f wr => CRel s w a f wr) (fun _ _ wr => s.size - wr.iterPos (w.heap.size + 1 + 1 + 1))
 case atStart => exact ⟨0, 0, 0, by omega, by omega, by omega, rfl, rfl, cat_start s, rfl⟩
 case round =>
  obtain ⟨pos, k, n, hk, hnp, hns, rfl, rfl, hc, rfl⟩ := hrel
  by_cases hp : pos < s.size
  ·have hps : pos ≤ s.size := by omega
   have hwd : 1 ≤ (Utf8.decode s pos).2 := by
    by_cases ha : s[pos].toNat < 128
    ·rw [decode_ascii s pos hp ha]; exact Nat.le_refl _
    ·exact (decode_high s pos hp (by omega)).2
   have hm0 := fun g0 g1 g2 g3 p => (cw_marks w s g0 g1 g2 g3 p).1
   have hm1 := fun g0 g1 g2 g3 p => (cw_marks w s g0 g1 g2 g3 p).2.1
   have hm2 := fun g0 g1 g2 g3 p => (cw_marks w s g0 g1 g2 g3 p).2.2
   have hc0 := fun g0 g1 g2 g3 p => (cw_cells w s g0 g1 g2 g3 p).1
   have hc1 := fun g0 g1 g2 g3 p => (cw_cells w s g0 g1 g2 g3 p).2.1
   have hc2 := fun g0 g1 g2 g3 p => (cw_cells w s g0 g1 g2 g3 p).2.2.1
   have hz := cw_free w s
   have hs0 := cw_set0 w s
   have hs1 := cw_set1 w s
   have hs2 := cw_set2 w s
   have hmp := cw_pos w s
   have hcase : k = 0 ∨ k = 1 ∨ k = 2 ∨ k = 3 := by omega
   rcases hcase with rfl | rfl | rfl | rfl
   ·by_cases hb : s[pos] = mrk 0
    ·have hnx := fun g0 g1 g2 g3 ty => cw_next w s g0 g1 g2 g3 pos hp ty
     have hde : Utf8.decode s pos = (62, 1) := by rw [decode_ascii s pos hp (by rw [hb]; decide), hb]; rfl
     rw [hde] at hnx
     have HH := hide (cat_hit hc hp (by omega) hb)
     have hint : ((62 : Nat) : Int) = 62 := rfl
     simp only [hint] at hnx
     simp only [gs]
     clear hc hb hde hwd
     go_wp2
     go_roundw
     case rel =>
      refine ⟨pos + 1, 1, pos + 1, by omega, by omega, by omega, by go_num, by go_num, (unhide HH).2, ?_⟩
      rw [(unhide HH).1]; rfl
     case measure => rw [hmp, hmp]; omega
    ·have hnx := fun g0 g1 g2 g3 ty => cw_next w s g0 g1 g2 g3 pos hp ty
     have HM := hide (cat_miss hc hp (fun _ => hb))
     have hne : (((Utf8.decode s pos).1 : Int) == 62) = false := by
      by_cases ha : s[pos].toNat < 128
      ·rw [decode_ascii s pos hp ha]
       have : s[pos].toNat ≠ 62 := fun e => hb (UInt8.toNat_inj.1 e)
       simp; omega
      ·have := (decode_high s pos hp (by omega)).1
       simp; omega
     have hle : (Utf8.decode s pos).1 ≤ 2147483647 := decode_le s pos
     simp only [gs]
     generalize (Utf8.decode s pos).1 = r at *
     generalize (Utf8.decode s pos).2 = v at *
     clear hc hb
     go_wp2
     go_roundw
     case rel => exact ⟨pos + v, 0, n, by omega, by omega, by omega, by go_num, rfl, unhide HM, rfl⟩
     case measure => rw [hmp, hmp]; omega
   ·by_cases hb : s[pos] = mrk 1
    ·have hnx := fun g0 g1 g2 g3 ty => cw_next w s g0 g1 g2 g3 pos hp ty
     have hde : Utf8.decode s pos = (58, 1) := by rw [decode_ascii s pos hp (by rw [hb]; decide), hb]; rfl
     rw [hde] at hnx
     have HH := hide (cat_hit hc hp (by omega) hb)
     have hint : ((58 : Nat) : Int) = 58 := rfl
     simp only [hint] at hnx
     simp only [gs]
     clear hc hb hde hwd
     go_wp2
     go_roundw
     case rel =>
      refine ⟨pos + 1, 2, pos + 1, by omega, by omega, by omega, by go_num, by go_num, (unhide HH).2, ?_⟩
      rw [(unhide HH).1]; rfl
     case measure => rw [hmp, hmp]; omega
    ·have hnx := fun g0 g1 g2 g3 ty => cw_next w s g0 g1 g2 g3 pos hp ty
     have HM := hide (cat_miss hc hp (fun _ => hb))
     have hne : (((Utf8.decode s pos).1 : Int) == 58) = false := by
      by_cases ha : s[pos].toNat < 128
      ·rw [decode_ascii s pos hp ha]
       have : s[pos].toNat ≠ 58 := fun e => hb (UInt8.toNat_inj.1 e)
       simp; omega
      ·have := (decode_high s pos hp (by omega)).1
       simp; omega
     have hle : (Utf8.decode s pos).1 ≤ 2147483647 := decode_le s pos
     simp only [gs]
     generalize (Utf8.decode s pos).1 = r at *
     generalize (Utf8.decode s pos).2 = v at *
     clear hc hb
     go_wp2
     go_roundw
     case rel => exact ⟨pos + v, 1, n, by omega, by omega, by omega, by go_num, rfl, unhide HM, rfl⟩
     case measure => rw [hmp, hmp]; omega
   ·by_cases hb : s[pos] = mrk 2
    ·have hnx := fun g0 g1 g2 g3 ty => cw_next w s g0 g1 g2 g3 pos hp ty
     have hde : Utf8.decode s pos = (35, 1) := by rw [decode_ascii s pos hp (by rw [hb]; decide), hb]; rfl
     rw [hde] at hnx
     have HH := hide (cat_hit hc hp (by omega) hb)
     have hint : ((35 : Nat) : Int) = 35 := rfl
     simp only [hint] at hnx
     simp only [gs]
     clear hc hb hde hwd
     go_wp2
     go_roundw
     case rel =>
      refine ⟨pos + 1, 3, pos + 1, by omega, by omega, by omega, by go_num, by go_num, (unhide HH).2, ?_⟩
      rw [(unhide HH).1]; rfl
     case measure => rw [hmp, hmp]; omega
    ·have hnx := fun g0 g1 g2 g3 ty => cw_next w s g0 g1 g2 g3 pos hp ty
     have HM := hide (cat_miss hc hp (fun _ => hb))
     have hne : (((Utf8.decode s pos).1 : Int) == 35) = false := by
      by_cases ha : s[pos].toNat < 128
      ·rw [decode_ascii s pos hp ha]
       have : s[pos].toNat ≠ 35 := fun e => hb (UInt8.toNat_inj.1 e)
       simp; omega
      ·have := (decode_high s pos hp (by omega)).1
       simp; omega
     have hle : (Utf8.decode s pos).1 ≤ 2147483647 := decode_le s pos
     simp only [gs]
     generalize (Utf8.decode s pos).1 = r at *
     generalize (Utf8.decode s pos).2 = v at *
     clear hc hb
     go_wp2
     go_roundw
     case rel => exact ⟨pos + v, 2, n, by omega, by omega, by omega, by go_num, rfl, unhide HM, rfl⟩
     case measure => rw [hmp, hmp]; omega
   ·have hnx := fun g0 g1 g2 g3 ty => cw_next w s g0 g1 g2 g3 pos hp ty
    have HM := hide (cat_miss hc hp (fun h => by omega))
    simp only [gs]
    generalize (Utf8.decode s pos).1 = r at *
    generalize (Utf8.decode s pos).2 = v at *
    clear hc
    go_wp2
    go_roundw
    case rel => exact ⟨pos + v, 3, n, by omega, by omega, by omega, by go_num, rfl, unhide HM, rfl⟩
    case measure => rw [hmp, hmp]; omega
  ·have HE := hide (cat_end hc hp)
   have hnx := fun g0 g1 g2 g3 ty => cw_end w s g0 g1 g2 g3 pos hp ty
   have hcase : k = 0 ∨ k = 1 ∨ k = 2 ∨ k = 3 := by omega
   rcases hcase with rfl | rfl | rfl | rfl
   ·simp only [gs]
    unfold cw World.iter
    unfold cw World.iter at hnx
    clear hc
    go_wp2
    refine bodyPost_ret (v := .agg #[.string (s.extract n s.size), .string ⟨#[]⟩, .string ⟨#[]⟩, .string ⟨#[]⟩]) (by simp [results, Tryz.results188, go_sem]) rfl ?_
    refine ⟨?_, ((((Below.refl _ _).alloc (Nat.le_refl _) _).alloc (by simp) _).alloc (by simp; omega) _).alloc (by simp; omega) _⟩
    obtain ⟨x0, x1⟩ := unhide HE
    rw [x0]
    obtain ⟨x2, x3⟩ := x1 (by omega)
    simp only [rst, mrk] at x2 x3
    simp only [rst, f0, f1, f2, f3, x2, x3, tl_nil, hd_nil]
    rfl
   ·simp only [gs]
    unfold cw World.iter
    unfold cw World.iter at hnx
    clear hc
    go_wp2
    refine bodyPost_ret (v := .agg #[.string (toB (f0 s.data.toList)), .string (s.extract n s.size), .string ⟨#[]⟩, .string ⟨#[]⟩]) (by simp [results, Tryz.results188, go_sem]) rfl ?_
    refine ⟨?_, ((((Below.refl _ _).alloc (Nat.le_refl _) _).alloc (by simp) _).alloc (by simp; omega) _).alloc (by simp; omega) _⟩
    obtain ⟨x0, x1⟩ := unhide HE
    rw [x0]
    obtain ⟨x2, x3⟩ := x1 (by omega)
    simp only [rst, mrk] at x2 x3
    simp only [rst, f0, f1, f2, f3, x2, x3, tl_nil, hd_nil]
    rfl
   ·simp only [gs]
    unfold cw World.iter
    unfold cw World.iter at hnx
    clear hc
    go_wp2
    refine bodyPost_ret (v := .agg #[.string (toB (f0 s.data.toList)), .string (toB (f1 s.data.toList)), .string (s.extract n s.size), .string ⟨#[]⟩]) (by simp [results, Tryz.results188, go_sem]) rfl ?_
    refine ⟨?_, ((((Below.refl _ _).alloc (Nat.le_refl _) _).alloc (by simp) _).alloc (by simp; omega) _).alloc (by simp; omega) _⟩
    obtain ⟨x0, x1⟩ := unhide HE
    rw [x0]
    obtain ⟨x2, x3⟩ := x1 (by omega)
    simp only [rst, mrk] at x2 x3
    simp only [rst, f0, f1, f2, f3, x2, x3]
    rfl
   ·simp only [gs]
    unfold cw World.iter
    unfold cw World.iter at hnx
    clear hc
    go_wp2
    refine bodyPost_ret (v := .agg #[.string (toB (f0 s.data.toList)), .string (toB (f1 s.data.toList)), .string (toB (f2 s.data.toList)), .string (s.extract n s.size)]) (by simp [results, Tryz.results188, go_sem]) rfl ?_
    refine ⟨?_, ((((Below.refl _ _).alloc (Nat.le_refl _) _).alloc (by simp) _).alloc (by simp; omega) _).alloc (by simp; omega) _⟩
    obtain ⟨x0, x1⟩ := unhide HE
    rw [x0]
    clear x1
    rfl
end Go.Proofs.YtbigcmcliamenaaGreatDoor
namespace Go.Proofs.YtbigcmcliamenaaGreatDoor
open Go.RowKit
set_option linter.unusedSectionVars false
variable [∀ (a b c d : Int), Decidable (Ok4 a b c d)]

def Cells4 (w : World) (g : Nat) (a b c d : Int) : Prop := w.cell? ⟨g, 0, none⟩ = some (.int .i64 a) ∧ w.cell? ⟨g, 1, none⟩ = some (.int .i64 b) ∧ w.cell? ⟨g, 2, none⟩ = some (.int .i64 c) ∧ w.cell? ⟨g, 3, none⟩ = some (.int .i64 d)
theorem cells4_new (w : World) (a b c d : Int) (t : TypeId) : Cells4 (w.alloc (.cells #[.int .i64 a, .int .i64 b, .int .i64 c, .int .i64 d] t)) w.heap.size a b c d := by
 refine ⟨?_, ?_, ?_, ?_⟩ <;> simp
theorem Cells4.below {w w' : World} {g B : Nat} {a b c d : Int} (h : Cells4 w g a b c d) (hb : Below B w w') (hg : g < B) : Cells4 w' g a b c d :=
 ⟨(hb.cell (p := ⟨g, 0, none⟩) hg).trans h.1, (hb.cell (p := ⟨g, 1, none⟩) hg).trans h.2.1, (hb.cell (p := ⟨g, 2, none⟩) hg).trans h.2.2.1, (hb.cell (p := ⟨g, 3, none⟩) hg).trans h.2.2.2⟩
end Go.Proofs.YtbigcmcliamenaaGreatDoor
namespace Go.Proofs.YtbigcmcliamenaaGreatDoor
open Go.RowKit

theorem one_str (w : World) (c : Int) : (convert 22 9 (.slice (some ⟨w.heap.size, 0, none⟩) 1 1)).run Tryz.prog (w.alloc (.cells #[.int .u8 c] 5)) = .ok (.string (strOfNums [c])) (w.alloc (.cells #[.int .u8 c] 5)) := by
 refine run_convert_bytes_arg (P := Tryz.prog) _ 22 5 Tryz.underlying22 Tryz.underlying5 w.heap.size 0 1 1 [c] rfl (fun i hi => ?_) 9 Tryz.underlying9
 obtain rfl : i = 0 := by omega
 simp
end Go.Proofs.YtbigcmcliamenaaGreatDoor
namespace Go.Proofs.YtbigcmcliamenaaGreatDoor

def rest (m : Nat) : List UInt8 := if m = 0 then [] else Lib.decDigits m
theorem rest_step (m : Nat) (h : m ≠ 0) : rest m = rest (m / 10) ++ [UInt8.ofNat (48 + m % 10)] := by
 by_cases h10 : m < 10
 ·have e : m / 10 = 0 := by omega
  rw [rest, if_neg h, Lib.decDigits, dif_pos h10, e, rest, if_pos rfl, Nat.mod_eq_of_lt h10]; rfl
 ·have e : m / 10 ≠ 0 := by omega
  rw [rest, if_neg h, Lib.decDigits, dif_neg h10, rest, if_neg e]
def DAt (n m : Nat) (t : List UInt8) : Prop := rest m ++ t = rest n ∧ t.length ≤ 20 ∧ m < 10 ^ (20 - t.length)
theorem dat_start (n : Nat) (h : n ≤ 9223372036854775808) : DAt n n [] := ⟨by simp, by simp, by simp; omega⟩
theorem dat_step {n m : Nat} {t : List UInt8} (h : DAt n m t) (h0 : m ≠ 0) : DAt n (m / 10) (UInt8.ofNat (48 + m % 10) :: t) ∧ t.length ≤ 19 := by
 obtain ⟨h1, h2, h3⟩ := h
 have hl : t.length ≤ 19 := by
  by_cases e : t.length = 20
  ·rw [e] at h3; simp at h3; omega
  ·omega
 refine ⟨⟨?_, by simp; omega, ?_⟩, hl⟩
 ·rw [rest_step m h0] at h1; simpa using h1
 ·have e : 20 - t.length = (20 - (t.length + 1)) + 1 := by omega
  rw [e, Nat.pow_succ] at h3
  simp only [List.length_cons]
  exact Nat.div_lt_of_lt_mul (by rw [Nat.mul_comm]; exact h3)
theorem dat_end {n : Nat} {t : List UInt8} (h : DAt n 0 t) (hn : n ≠ 0) : t = Lib.decDigits n := by
 have := h.1
 rwa [rest, if_pos rfl, List.nil_append, rest, if_neg hn] at this

theorem one_more (k : Nat) (t : List UInt8) (h : k < 10) : strOfNums [48 + (k : Int)] ++ (⟨t.toArray⟩ : ByteArray) = ⟨(UInt8.ofNat (48 + k) :: t).toArray⟩ := by
 have e : (48 + (k : Int)).toNat = 48 + k := by omega
 apply ByteArray.ext
 apply Array.toList_inj.1
 simp [strOfNums, e]
theorem one_size (c : Int) : (strOfNums [c]).size = 1 := rfl
end Go.Proofs.YtbigcmcliamenaaGreatDoor
namespace Go.Proofs.YtbigcmcliamenaaGreatDoor
open Go.RowKit

set_option maxHeartbeats 800000 in
set_option maxRecDepth 100000 in
theorem specDigits_pos (n : Nat) (w : World) (hn : 0 < n) (hm : n ≤ 9223372036854775807) :
 Calls Tryz.prog 133 #[.int .i64 n] w fun e w' => e = .returned (.string ⟨(Lib.decDigits n).toArray⟩) ∧ Below w.heap.size w w' := by
 have hcv := one_str
 have hsz := one_size
 have hne : ((n : Int) == 0) = false := by simp; omega
 have hlt : decide ((n : Int) < 0) = false := by simp
 go_enter Tryz.func133, Tryz.ntmps133
 go_wp2
 go_loopw [0, 4] (fun x s wr => ∃ (m : Nat) (t : List UInt8), m ≤ 9223372036854775807 ∧ DAt n m t ∧ x = .int .i64 m ∧ s = .string ⟨t.toArray⟩ ∧ Below w.heap.size w wr) (fun x _ _ => (intOf x).toNat)
 case atStart => exact ⟨n, [], hm, dat_start n (by omega), rfl, rfl, Below.refl _ _⟩
 case round =>
  obtain ⟨m, t, hm', hd, rfl, rfl, hb⟩ := hrel
  by_cases h0 : m = 0
  ·subst h0
   have HE := hide (dat_end hd (by omega))
   clear hd
   go_wp2
   go_ret
   have HE' := unhide HE
   subst HE'
   exact ⟨rfl, hb⟩
  ·have hne' : ((m : Int) != 0) = true := by simp [h0]
   obtain ⟨hd', hl⟩ := dat_step hd h0
   have HD := hide hd'
   clear hd hd'
   have hs0 := hb.size
   have hmo := one_more (m % 10) t (by omega)
   have hbl : Below w.heap.size w (wr.alloc (.cells #[.int .u8 (48 + (m : Int) % 10)] 5)) := hb.alloc hs0 _
   go_wp2
   go_roundw
   case rel => exact ⟨m / 10, _, by omega, unhide HD, by go_num, by rw [← hmo]; rfl, hbl⟩
   case measure => simp [intOf]; omega

set_option maxHeartbeats 800000 in
set_option maxRecDepth 100000 in
theorem specDigits_neg (n : Nat) (w : World) (hn : 0 < n) (hm : n ≤ 9223372036854775808) :
 Calls Tryz.prog 133 #[.int .i64 (-(n : Int))] w fun e w' => e = .returned (.string ⟨(45 :: Lib.decDigits n).toArray⟩) ∧ Below w.heap.size w w' := by
 have hcv := one_str
 have hsz := one_size
 have hne : ((-(n : Int)) == 0) = false := by simp; omega
 have hlt : decide (-(n : Int) < 0) = true := by simp; omega
 go_enter Tryz.func133, Tryz.ntmps133
 go_wp2
 go_loopw [0, 4] (fun x s wr => ∃ (m : Nat) (t : List UInt8), m ≤ 9223372036854775808 ∧ DAt n m t ∧ x = .int .i64 (-(m : Int)) ∧ s = .string ⟨t.toArray⟩ ∧ Below w.heap.size w wr) (fun x _ _ => (-(intOf x)).toNat)
 case atStart => exact ⟨n, [], hm, dat_start n hm, rfl, rfl, Below.refl _ _⟩
 case round =>
  obtain ⟨m, t, hm', hd, rfl, rfl, hb⟩ := hrel
  by_cases h0 : m = 0
  ·subst h0
   have HE := hide (dat_end hd (by omega))
   have hl := hd.2.1
   clear hd
   go_wp2
   go_ret
   have HE' := unhide HE
   subst HE'
   exact ⟨by apply congrArg Ending.returned; apply congrArg Value.string; apply ByteArray.ext; apply Array.toList_inj.1; simp, hb⟩
  ·have hne' : ((-(m : Int)) != 0) = true := by simp [h0]
   obtain ⟨hd', hl⟩ := dat_step hd h0
   have HD := hide hd'
   clear hd hd'
   have hs0 := hb.size
   have hmo := one_more (m % 10) t (by omega)
   have ht : (-(m : Int)).tmod 10 = -((m % 10 : Nat) : Int) := by rw [Int.neg_tmod]; rfl
   have hq : (-(m : Int)).tdiv 10 = -((m / 10 : Nat) : Int) := by rw [Int.neg_tdiv]; rfl
   by_cases hz : m % 10 = 0
   ·have hbl : Below w.heap.size w (wr.alloc (.cells #[.int .u8 48] 5)) := hb.alloc hs0 _
    go_wp2
    go_roundw
    case rel => exact ⟨m / 10, _, by omega, unhide HD, by go_num, by rw [← hmo, hz]; rfl, hbl⟩
    case measure => simp [intOf]; omega
   ·have hbl : Below w.heap.size w (wr.alloc (.cells #[.int .u8 (48 + (m : Int) % 10)] 5)) := hb.alloc hs0 _
    go_wp2
    go_roundw
    case rel => exact ⟨m / 10, _, by omega, unhide HD, by go_num, by rw [← hmo]; rfl, hbl⟩
    case measure => simp [intOf]; omega

set_option maxHeartbeats 400000 in
set_option maxRecDepth 100000 in
theorem specDigits_zero (w : World) :
 Calls Tryz.prog 133 #[.int .i64 0] w fun e w' => e = .returned (.string ⟨(Lib.decDigits 0).toArray⟩) ∧ Below w.heap.size w w' := by
 go_enter Tryz.func133, Tryz.ntmps133
 go_wp2
 go_ret
 exact ⟨by rw [Lib.decDigits]; rfl, Below.refl _ _⟩

theorem specDigits_any (n : Int) (w : World) (h0 : -9223372036854775808 ≤ n) (h1 : n ≤ 9223372036854775807) :
 Calls Tryz.prog 133 #[.int .i64 n] w fun e w' => e = .returned (.string ⟨(Lib.itoa n).toArray⟩) ∧ Below w.heap.size w w' := by
 unfold Lib.itoa
 by_cases hn : n < 0
 ·obtain ⟨m, rfl⟩ : ∃ m : Nat, n = -(m : Int) := ⟨n.natAbs, by omega⟩
  rw [if_pos hn, show (-(m : Int)).natAbs = m from by omega]
  exact specDigits_neg m w (by omega) (by omega)
 ·obtain ⟨m, rfl⟩ := Int.eq_ofNat_of_zero_le (Int.not_lt.1 hn)
  rw [if_neg hn, Int.toNat_natCast]
  by_cases hm : m = 0
  ·subst hm; exact specDigits_zero w
  ·exact specDigits_pos m w (by omega) (by omega)
end Go.Proofs.YtbigcmcliamenaaGreatDoor
