/- Lemmas, as stated. -/
import Derived.Test.YtjdchloechcclaaGreatDoorSNAK
import Derived.Test.YtjdchloechcclaaGreatDoorSNAG
set_option maxRecDepth 100000
set_option maxHeartbeats 4000000
namespace Go.Proofs.YtjdchloechcclaaGreatDoor
section

def hd (m : UInt8) (l : List UInt8) : List UInt8 := l.takeWhile (· != m)
def tl (m : UInt8) (l : List UInt8) : List UInt8 := (l.dropWhile (· != m)).tail
theorem hd_none {m : UInt8} {l : List UInt8} (h : m ∉ l) : hd m l = l := by
 unfold hd
 induction l with
 | nil => rfl
 | cons b l ih =>
  simp at h
  rw [List.takeWhile_cons_of_pos (by simp; exact fun e => h.1 e.symm), ih h.2]
theorem tl_none {m : UInt8} {l : List UInt8} (h : m ∉ l) : tl m l = [] := by
 unfold tl
 induction l with
 | nil => rfl
 | cons b l ih =>
  simp at h
  rw [List.dropWhile_cons_of_pos (by simp; exact fun e => h.1 e.symm)]; exact ih h.2
theorem hd_some {m : UInt8} {x y : List UInt8} (h : m ∉ x) : hd m (x ++ m :: y) = x := by
 unfold hd
 induction x with
 | nil => simp
 | cons b x ih =>
  simp at h
  rw [List.cons_append, List.takeWhile_cons_of_pos (by simp; exact fun e => h.1 e.symm), ih h.2]
theorem tl_some {m : UInt8} {x y : List UInt8} (h : m ∉ x) : tl m (x ++ m :: y) = y := by
 unfold tl
 induction x with
 | nil => simp
 | cons b x ih =>
  simp at h
  rw [List.cons_append, List.dropWhile_cons_of_pos (by simp; exact fun e => h.1 e.symm)]; exact ih h.2
theorem hd_tl {m : UInt8} {l : List UInt8} (h : tl m l ≠ []) : l = hd m l ++ m :: tl m l := by
 unfold hd tl at *
 induction l with
 | nil => simp at h
 | cons b l ih =>
  by_cases hb : b = m
  ·subst hb; simp
  rw [List.takeWhile_cons_of_pos (by simpa using hb), List.dropWhile_cons_of_pos (by simpa using hb), List.cons_append]
  rw [List.dropWhile_cons_of_pos (by simpa using hb)] at h
  rw [← ih h]

def f0 (l : List UInt8) : List UInt8 := hd 62 l
def f1 (l : List UInt8) : List UInt8 := hd 58 (tl 62 l)
def f2 (l : List UInt8) : List UInt8 := hd 35 (tl 58 (tl 62 l))
def f3 (l : List UInt8) : List UInt8 := tl 35 (tl 58 (tl 62 l))

def okN (a b c d : Nat) : Prop := a ≤ 3 ∧ b ≤ 3 ∧ c ≤ 1000 ∧ d ≤ 99
def txl (a b c d : Nat) : List UInt8 := Lib.decDigits a ++ 62 :: (Lib.decDigits b ++ 58 :: (Lib.decDigits c ++ 35 :: Lib.decDigits d))
def IsTx (l : List UInt8) (a b c d : Nat) : Prop := okN a b c d ∧ txl a b c d = l

theorem digit_mem {n : Nat} {x : UInt8} (h : x ∈ Lib.decDigits n) : 48 ≤ x.toNat ∧ x.toNat ≤ 57 := by
 obtain ⟨k, hk, e⟩:=List.mem_iff_getElem.1 h
 obtain ⟨d, hd⟩:=Lib.digit_of_decFrom (Lib.decDigits n) 0 n (decFrom_digits n) k x (by rw [List.getElem?_eq_getElem hk, e])
 have:=Lib.digitVal_eq hd
 omega
theorem no_mark (n : Nat) (m : UInt8) (h : m.toNat < 48 ∨ 57 < m.toNat) : m ∉ Lib.decDigits n := fun hm => by
 have:=digit_mem hm; omega

theorem fields_of {l : List UInt8} {a b c d : Nat} (h : IsTx l a b c d) : f0 l = Lib.decDigits a ∧ f1 l = Lib.decDigits b ∧ f2 l = Lib.decDigits c ∧ f3 l = Lib.decDigits d := by
 obtain ⟨_, rfl⟩:=h
 have h0 : (62 : UInt8) ∉ Lib.decDigits a:=no_mark a 62 (by decide)
 have h1 : (58 : UInt8) ∉ Lib.decDigits b:=no_mark b 58 (by decide)
 have h2 : (35 : UInt8) ∉ Lib.decDigits c:=no_mark c 35 (by decide)
 unfold f0 f1 f2 f3 txl
 rw [hd_some h0, tl_some h0, hd_some h1, tl_some h1, hd_some h2, tl_some h2]
 exact ⟨rfl, rfl, rfl, rfl⟩
theorem nums_of {l : List UInt8} {a b c d : Nat} (h : IsTx l a b c d) : numOf (f0 l) = some a ∧ numOf (f1 l) = some b ∧ numOf (f2 l) = some c ∧ numOf (f3 l) = some d := by
 obtain ⟨e0, e1, e2, e3⟩:=fields_of h
 obtain ⟨⟨h0, h1, h2, h3⟩, _⟩:=h
 rw [e0, e1, e2, e3]
 exact ⟨numOf_of (by omega), numOf_of (by omega), numOf_of (by omega), numOf_of (by omega)⟩
theorem tl_nil (m : UInt8) : tl m [] = [] := rfl
theorem hd_nil (m : UInt8) : hd m [] = [] := rfl
theorem isTx_of {l : List UInt8} {a b c d : Nat} (h0 : numOf (f0 l) = some a) (h1 : numOf (f1 l) = some b) (h2 : numOf (f2 l) = some c) (h3 : numOf (f3 l) = some d) (hk : okN a b c d) : IsTx l a b c d := by
 refine ⟨hk, ?_⟩
 obtain ⟨_, e0⟩:=numOf_some h0
 obtain ⟨_, e1⟩:=numOf_some h1
 obtain ⟨_, e2⟩:=numOf_some h2
 obtain ⟨_, e3⟩:=numOf_some h3
 have n1:=digits_ne b
 have n2:=digits_ne c
 have n3:=digits_ne d
 unfold txl
 rw [e0, e1, e2, e3]
 rw [e1] at n1; rw [e2] at n2; rw [e3] at n3
 unfold f0 f1 f2 f3 at *
 have t0 : tl 62 l ≠ []:=fun e => n1 (by rw [e, hd_nil])
 have t1 : tl 58 (tl 62 l) ≠ []:=fun e => n2 (by rw [e, hd_nil])
 rw [← hd_tl n3, ← hd_tl t1, ← hd_tl t0]
end
section
open Go
theorem hit_hd {m : UInt8} {r : List UInt8} {j : Nat} (h : m ∉ r.take j) (hj : r[j]? = some m) : hd m r = r.take j ∧ tl m r = r.drop (j + 1) := by
 have hl : j < r.length:=(List.getElem?_eq_some_iff.1 hj).1
 have hm : r[j] = m:=(List.getElem?_eq_some_iff.1 hj).2
 have e : r = r.take j ++ m :: r.drop (j + 1):=by
  rw [← hm, List.getElem_cons_drop, List.take_append_drop]
 constructor
 ·conv => lhs; rw [e]
  exact hd_some h
 conv => lhs; rw [e]
 exact tl_some h
def rst (l : List UInt8) : Nat → List UInt8
 | 0 => l
 | 1 => tl 62 l
 | 2 => tl 58 (tl 62 l)
 | _ => tl 35 (tl 58 (tl 62 l))
def mrk : Nat → UInt8
 | 0 => 62
 | 1 => 58
 | _ => 35
def toB (l : List UInt8) : ByteArray := ⟨l.toArray⟩
theorem ext_list (s : ByteArray) (n p : Nat) : (s.extract n p).data.toList = (s.data.toList.drop n).take (p - n) := by
 rw [ByteArray.data_extract, Array.toList_extract]
theorem ext_toB (s : ByteArray) (n p : Nat) : s.extract n p = toB ((s.data.toList.drop n).take (p - n)) := by
 apply ByteArray.ext
 apply Array.toList_inj.1
 rw [ext_list s n p]; rfl
def CAt (s : ByteArray) (pos k n : Nat) : Prop := n ≤ pos ∧ n ≤ s.size ∧ s.data.toList.drop n = rst s.data.toList k ∧ (k < 3 → mrk k ∉ (s.data.toList.drop n).take (pos - n))
theorem cat_start (s : ByteArray) : CAt s 0 0 0 := ⟨by omega, by omega, rfl, by simp⟩
theorem cat_hit {s : ByteArray} {pos k n : Nat} (h : CAt s pos k n) (hp : pos < s.size) (hk : k < 3) (hb : s[pos] = mrk k) :
 s.extract n pos = toB (hd (mrk k) (rst s.data.toList k)) ∧ CAt s (pos + 1) (k + 1) (pos + 1) := by
 obtain ⟨h1, h2, h3, h4⟩:=h
 have hj : (s.data.toList.drop n)[pos - n]? = some (mrk k):=by
  rw [List.getElem?_drop, show n + (pos - n) = pos from by omega, List.getElem?_eq_getElem (by simpa using hp), ← hb]; rfl
 obtain ⟨e1, e2⟩:=hit_hd (h4 hk) hj
 refine ⟨?_, by omega, by omega, ?_, by simp⟩
 ·rw [ext_toB s n pos, ← h3, e1]
 rw [List.drop_drop, show n + (pos - n + 1) = pos + 1 from by omega] at e2
 rw [← e2, h3]
 match k, hk with
 | 0, _ => rfl
 | 1, _ => rfl
 | 2, _ => rfl
theorem not_mem_more {m : UInt8} {l : List UInt8} {n pos v : Nat} (hn : n ≤ pos) (h : m ∉ (l.drop n).take (pos - n)) (hv : ∀ j, j < v → l[pos + j]? ≠ some m) : m ∉ (l.drop n).take (pos + v - n) := by
 induction v with
 | zero => exact h
 | succ v ih =>
  have h':=ih (fun j hj => hv j (by omega))
  rw [show pos + (v + 1) - n = (pos + v - n) + 1 from by omega, List.take_add_one]
  intro hm
  rw [List.mem_append] at hm
  rcases hm with hm | hm
  ·exact h' hm
  rw [List.getElem?_drop, show n + (pos + v - n) = pos + v from by omega] at hm
  have:=hv v (by omega)
  cases hq : l[pos + v]? with
  | none => rw [hq] at hm; simp at hm
  | some x => rw [hq] at hm; simp at hm; rw [hq, hm] at this; exact this rfl
theorem mrk_small (k : Nat) : (mrk k).toNat < 128 := by unfold mrk; split <;> decide
theorem decode_tail (s : ByteArray) (pos j : Nat) (hj : 1 ≤ j) (h : j < (Utf8.decode s pos).2) : 128 ≤ (s.get! (pos + j)).toNat := by
 unfold Utf8.decode at h
 simp only at h
 split at h
 ·simp at h; omega
 split at h
 ·rename_i hc
  simp only [Bool.and_eq_true, beq_iff_eq, decide_eq_true_eq] at hc
  split at h
  ·simp at h
   obtain rfl : j = 1:=by omega
   omega
  simp at h; omega
 split at h
 ·rename_i hc
  simp only [Bool.and_eq_true, beq_iff_eq, decide_eq_true_eq] at hc
  split at h
  ·simp at h
   have : j = 1 ∨ j = 2:=by omega
   rcases this with rfl | rfl <;> omega
  simp at h; omega
 split at h
 ·rename_i hc
  simp only [Bool.and_eq_true, beq_iff_eq, decide_eq_true_eq] at hc
  split at h
  ·simp at h
   have : j = 1 ∨ j = 2 ∨ j = 3:=by omega
   rcases this with rfl | rfl | rfl <;> omega
  simp at h; omega
 simp at h; omega
theorem get_of {s : ByteArray} {i : Nat} {x : UInt8} (h : s.data.toList[i]? = some x) : s.get! i = x := by
 rw [Array.getElem?_toList] at h
 unfold ByteArray.get!
 cases s
 simp only at *
 obtain ⟨hi, e⟩:=Array.getElem?_eq_some_iff.1 h
 simp [hi, e]
theorem cat_miss {s : ByteArray} {pos k n : Nat} (h : CAt s pos k n) (hp : pos < s.size) (hb : k < 3 → s[pos] ≠ mrk k) :
 CAt s (pos + (Utf8.decode s pos).2) k n := by
 obtain ⟨h1, h2, h3, h4⟩:=h
 refine ⟨by omega, h2, h3, fun hk => ?_⟩
 refine not_mem_more h1 (h4 hk) fun j hj e => ?_
 by_cases h0 : j = 0
 ·subst h0
  rw [Nat.add_zero, List.getElem?_eq_getElem (by simpa using hp)] at e
  exact hb hk (Option.some.inj e)
 have:=decode_tail s pos j (by omega) hj
 rw [get_of e] at this
 have:=mrk_small k
 omega
theorem rst_all (s : ByteArray) (n : Nat) : s.extract n s.size = toB (s.data.toList.drop n) := by
 rw [ext_toB s n s.size, List.take_of_length_le (by simp)]
theorem cat_end {s : ByteArray} {pos k n : Nat} (h : CAt s pos k n) (hp : ¬ pos < s.size) : s.extract n s.size = toB (rst s.data.toList k) ∧ (k < 3 → hd (mrk k) (rst s.data.toList k) = rst s.data.toList k ∧ tl (mrk k) (rst s.data.toList k) = []) := by
 obtain ⟨h1, h2, h3, h4⟩:=h
 refine ⟨by rw [rst_all s n, h3], fun hk => ?_⟩
 have hm : mrk k ∉ rst s.data.toList k:=by
  have:=h4 hk
  rw [List.take_of_length_le (by simp; omega), h3] at this
  exact this
 exact ⟨hd_none hm, tl_none hm⟩
end
section
open Go.RowKit
def cw (w : World) (s g0 g1 g2 g3 : ByteArray) (pos : Nat) : World :=
 (((w.alloc (.cells #[.string ⟨#[]⟩,.string ⟨#[]⟩,.string ⟨#[]⟩,.string ⟨#[]⟩] 314)).alloc (.cells #[.int .i32 62,.int .i32 58,.int .i32 35] 335)).alloc (.cells #[.string g0,.string g1,.string g2,.string g3] 314)).iter s pos
theorem cw_marks (w : World) (s g0 g1 g2 g3 : ByteArray) (pos : Nat) : (cw w s g0 g1 g2 g3 pos).cell? ⟨w.heap.size + 1, 0, none⟩ = some (.int .i32 62) ∧ (cw w s g0 g1 g2 g3 pos).cell? ⟨w.heap.size + 1, 1, none⟩ = some (.int .i32 58) ∧ (cw w s g0 g1 g2 g3 pos).cell? ⟨w.heap.size + 1, 2, none⟩ = some (.int .i32 35) := by
 unfold cw World.iter
 simp [go_sem]
theorem cw_cells (w : World) (s g0 g1 g2 g3 : ByteArray) (pos : Nat) : (cw w s g0 g1 g2 g3 pos).cell? ⟨w.heap.size + 1 + 1, 0, none⟩ = some (.string g0) ∧ (cw w s g0 g1 g2 g3 pos).cell? ⟨w.heap.size + 1 + 1, 1, none⟩ = some (.string g1) ∧ (cw w s g0 g1 g2 g3 pos).cell? ⟨w.heap.size + 1 + 1, 2, none⟩ = some (.string g2) ∧ (cw w s g0 g1 g2 g3 pos).cell? ⟨w.heap.size + 1 + 1, 3, none⟩ = some (.string g3) := by
 unfold cw World.iter
 simp [go_sem]
theorem cw_free (w : World) (s g0 g1 g2 g3 : ByteArray) (pos j : Nat) : (cw w s g0 g1 g2 g3 pos).frozen? ⟨w.heap.size + 1 + 1, j, none⟩ = false := by
 unfold cw World.iter
 simp [go_sem]
theorem cw_set0 (w : World) (s g0 g1 g2 g3 x : ByteArray) (pos : Nat) : (cw w s g0 g1 g2 g3 pos).setCell ⟨w.heap.size + 1 + 1, 0, none⟩ (.string x) = cw w s x g1 g2 g3 pos := by
 unfold cw World.iter
 simp [go_sem]
theorem cw_set1 (w : World) (s g0 g1 g2 g3 x : ByteArray) (pos : Nat) : (cw w s g0 g1 g2 g3 pos).setCell ⟨w.heap.size + 1 + 1, 1, none⟩ (.string x) = cw w s g0 x g2 g3 pos := by
 unfold cw World.iter
 simp [go_sem]
theorem cw_set2 (w : World) (s g0 g1 g2 g3 x : ByteArray) (pos : Nat) : (cw w s g0 g1 g2 g3 pos).setCell ⟨w.heap.size + 1 + 1, 2, none⟩ (.string x) = cw w s g0 g1 x g3 pos := by
 unfold cw World.iter
 simp [go_sem]
theorem cw_size (w : World) (g0 g1 g2 g3 : ByteArray) : (((w.alloc (.cells #[.string ⟨#[]⟩,.string ⟨#[]⟩,.string ⟨#[]⟩,.string ⟨#[]⟩] 314)).alloc (.cells #[.int .i32 62,.int .i32 58,.int .i32 35] 335)).alloc (.cells #[.string g0,.string g1,.string g2,.string g3] 314)).heap.size = w.heap.size + 1 + 1 + 1 := by simp
theorem cw_next (w : World) (s g0 g1 g2 g3 : ByteArray) (pos : Nat) (h : pos < s.size) (ty : TypeId) : (Instr.next (.pointer (some ⟨w.heap.size + 1 + 1 + 1, 0, none⟩)) true ty).run Tryz.prog (cw w s g0 g1 g2 g3 pos) = .ok (.tuple #[.bool true,.int .i64 pos,.int .i32 (Utf8.decode s pos).1]) (cw w s g0 g1 g2 g3 (pos + (Utf8.decode s pos).2)) := by
 have:=run_next_any (P:=Tryz.prog) (((w.alloc (.cells #[.string ⟨#[]⟩,.string ⟨#[]⟩,.string ⟨#[]⟩,.string ⟨#[]⟩] 314)).alloc (.cells #[.int .i32 62,.int .i32 58,.int .i32 35] 335)).alloc (.cells #[.string g0,.string g1,.string g2,.string g3] 314)) s pos ty h
 rw [cw_size] at this
 exact this
theorem cw_end (w : World) (s g0 g1 g2 g3 : ByteArray) (pos : Nat) (h : ¬ pos < s.size) (ty : TypeId) : (Instr.next (.pointer (some ⟨w.heap.size + 1 + 1 + 1, 0, none⟩)) true ty).run Tryz.prog (cw w s g0 g1 g2 g3 pos) = .ok (.tuple #[.bool false]) (cw w s g0 g1 g2 g3 pos) := by
 have:=run_next_end (P:=Tryz.prog) (((w.alloc (.cells #[.string ⟨#[]⟩,.string ⟨#[]⟩,.string ⟨#[]⟩,.string ⟨#[]⟩] 314)).alloc (.cells #[.int .i32 62,.int .i32 58,.int .i32 35] 335)).alloc (.cells #[.string g0,.string g1,.string g2,.string g3] 314)) s pos ty h
 rw [cw_size] at this
 exact this
theorem cw_pos (w : World) (s g0 g1 g2 g3 : ByteArray) (pos : Nat) : (cw w s g0 g1 g2 g3 pos).iterPos (w.heap.size + 1 + 1 + 1) = pos := by
 rw [← cw_size w g0 g1 g2 g3]
 exact World.iterPos_iter _ _ _
def gs (l : List UInt8) : Nat → ByteArray × ByteArray × ByteArray × ByteArray
 | 0 => (⟨#[]⟩, ⟨#[]⟩, ⟨#[]⟩, ⟨#[]⟩)
 | 1 => (toB (f0 l), ⟨#[]⟩, ⟨#[]⟩, ⟨#[]⟩)
 | 2 => (toB (f0 l), toB (f1 l), ⟨#[]⟩, ⟨#[]⟩)
 | _ => (toB (f0 l), toB (f1 l), toB (f2 l), ⟨#[]⟩)
def CRel (s : ByteArray) (w : World) (a f : Value) (wr : World) : Prop := ∃ pos k n : Nat, k ≤ 3 ∧ n ≤ pos ∧ n ≤ s.size ∧ a = .int .i64 k ∧ f = .int .i64 n ∧ CAt s pos k n ∧ wr = cw w s (gs s.data.toList k).1 (gs s.data.toList k).2.1 (gs s.data.toList k).2.2.1 (gs s.data.toList k).2.2.2 pos
theorem cut_any (s : ByteArray) (w : World) (hs : s.size ≤ 33554432) :
 Calls Tryz.prog 268 #[.string s] w fun e w' => e = .returned (.agg #[.string (toB (f0 s.data.toList)),.string (toB (f1 s.data.toList)),.string (toB (f2 s.data.toList)),.string (toB (f3 s.data.toList))]) ∧ Below w.heap.size w w' := by
 go_enter Tryz.func268, Tryz.ntmps268
 go_wp2
 go_loopw [5, 6] (fun a f wr => CRel s w a f wr) (fun _ _ wr => s.size - wr.iterPos (w.heap.size + 1 + 1 + 1))
 case atStart => exact ⟨0, 0, 0, by omega, by omega, by omega, rfl, rfl, cat_start s, rfl⟩
 case round =>
  obtain ⟨pos, k, n, hk, hnp, hns, rfl, rfl, hc, rfl⟩:=hrel
  by_cases hp : pos < s.size
  ·have hps : pos ≤ s.size:=by omega
   have hwd : 1 ≤ (Utf8.decode s pos).2:=by
    by_cases ha : s[pos].toNat < 128
    ·rw [decode_ascii s pos hp ha]; exact Nat.le_refl _
    exact (decode_high s pos hp (by omega)).2
   have hm0:=fun g0 g1 g2 g3 p => (cw_marks w s g0 g1 g2 g3 p).1
   have hm1:=fun g0 g1 g2 g3 p => (cw_marks w s g0 g1 g2 g3 p).2.1
   have hm2:=fun g0 g1 g2 g3 p => (cw_marks w s g0 g1 g2 g3 p).2.2
   have hc0:=fun g0 g1 g2 g3 p => (cw_cells w s g0 g1 g2 g3 p).1
   have hc1:=fun g0 g1 g2 g3 p => (cw_cells w s g0 g1 g2 g3 p).2.1
   have hc2:=fun g0 g1 g2 g3 p => (cw_cells w s g0 g1 g2 g3 p).2.2.1
   have hz:=cw_free w s
   have hs0:=cw_set0 w s
   have hs1:=cw_set1 w s
   have hs2:=cw_set2 w s
   have hmp:=cw_pos w s
   have hcase : k = 0 ∨ k = 1 ∨ k = 2 ∨ k = 3:=by omega
   rcases hcase with rfl | rfl | rfl | rfl
   ·by_cases hb : s[pos] = mrk 0
    ·have hnx:=fun g0 g1 g2 g3 ty => cw_next w s g0 g1 g2 g3 pos hp ty
     have hde : Utf8.decode s pos = (62, 1):=by rw [decode_ascii s pos hp (by rw [hb]; decide), hb]; rfl
     rw [hde] at hnx
     have HH:=hide (cat_hit hc hp (by omega) hb)
     have hint : ((62 : Nat) : Int) = 62:=rfl
     simp only [hint] at hnx
     simp only [gs]
     clear hc hb hde hwd
     go_wp2
     go_roundw
     case rel =>
      refine ⟨pos + 1, 1, pos + 1, by omega, by omega, by omega, by go_num, by go_num, HH.out.2, ?_⟩
      rw [HH.out.1]; rfl
     case measure => rw [hmp, hmp]; omega
    have hnx:=fun g0 g1 g2 g3 ty => cw_next w s g0 g1 g2 g3 pos hp ty
    have HM:=hide (cat_miss hc hp (fun _ => hb))
    have hne : (((Utf8.decode s pos).1 : Int) == 62) = false:=by
     by_cases ha : s[pos].toNat < 128
     ·rw [decode_ascii s pos hp ha]
      have : s[pos].toNat ≠ 62:=fun e => hb (UInt8.toNat_inj.1 e)
      simp; omega
     have:=(decode_high s pos hp (by omega)).1
     simp; omega
    have hle : (Utf8.decode s pos).1 ≤ 2147483647:=decode_le s pos
    simp only [gs]
    generalize (Utf8.decode s pos).1 = r at *
    generalize (Utf8.decode s pos).2 = v at *
    clear hc hb
    go_wp2
    go_roundw
    case rel => exact ⟨pos + v, 0, n, by omega, by omega, by omega, by go_num, rfl, HM.out, rfl⟩
    case measure => rw [hmp, hmp]; omega
   ·by_cases hb : s[pos] = mrk 1
    ·have hnx:=fun g0 g1 g2 g3 ty => cw_next w s g0 g1 g2 g3 pos hp ty
     have hde : Utf8.decode s pos = (58, 1):=by rw [decode_ascii s pos hp (by rw [hb]; decide), hb]; rfl
     rw [hde] at hnx
     have HH:=hide (cat_hit hc hp (by omega) hb)
     have hint : ((58 : Nat) : Int) = 58:=rfl
     simp only [hint] at hnx
     simp only [gs]
     clear hc hb hde hwd
     go_wp2
     go_roundw
     case rel =>
      refine ⟨pos + 1, 2, pos + 1, by omega, by omega, by omega, by go_num, by go_num, HH.out.2, ?_⟩
      rw [HH.out.1]; rfl
     case measure => rw [hmp, hmp]; omega
    have hnx:=fun g0 g1 g2 g3 ty => cw_next w s g0 g1 g2 g3 pos hp ty
    have HM:=hide (cat_miss hc hp (fun _ => hb))
    have hne : (((Utf8.decode s pos).1 : Int) == 58) = false:=by
     by_cases ha : s[pos].toNat < 128
     ·rw [decode_ascii s pos hp ha]
      have : s[pos].toNat ≠ 58:=fun e => hb (UInt8.toNat_inj.1 e)
      simp; omega
     have:=(decode_high s pos hp (by omega)).1
     simp; omega
    have hle : (Utf8.decode s pos).1 ≤ 2147483647:=decode_le s pos
    simp only [gs]
    generalize (Utf8.decode s pos).1 = r at *
    generalize (Utf8.decode s pos).2 = v at *
    clear hc hb
    go_wp2
    go_roundw
    case rel => exact ⟨pos + v, 1, n, by omega, by omega, by omega, by go_num, rfl, HM.out, rfl⟩
    case measure => rw [hmp, hmp]; omega
   ·by_cases hb : s[pos] = mrk 2
    ·have hnx:=fun g0 g1 g2 g3 ty => cw_next w s g0 g1 g2 g3 pos hp ty
     have hde : Utf8.decode s pos = (35, 1):=by rw [decode_ascii s pos hp (by rw [hb]; decide), hb]; rfl
     rw [hde] at hnx
     have HH:=hide (cat_hit hc hp (by omega) hb)
     have hint : ((35 : Nat) : Int) = 35:=rfl
     simp only [hint] at hnx
     simp only [gs]
     clear hc hb hde hwd
     go_wp2
     go_roundw
     case rel =>
      refine ⟨pos + 1, 3, pos + 1, by omega, by omega, by omega, by go_num, by go_num, HH.out.2, ?_⟩
      rw [HH.out.1]; rfl
     case measure => rw [hmp, hmp]; omega
    have hnx:=fun g0 g1 g2 g3 ty => cw_next w s g0 g1 g2 g3 pos hp ty
    have HM:=hide (cat_miss hc hp (fun _ => hb))
    have hne : (((Utf8.decode s pos).1 : Int) == 35) = false:=by
     by_cases ha : s[pos].toNat < 128
     ·rw [decode_ascii s pos hp ha]
      have : s[pos].toNat ≠ 35:=fun e => hb (UInt8.toNat_inj.1 e)
      simp; omega
     have:=(decode_high s pos hp (by omega)).1
     simp; omega
    have hle : (Utf8.decode s pos).1 ≤ 2147483647:=decode_le s pos
    simp only [gs]
    generalize (Utf8.decode s pos).1 = r at *
    generalize (Utf8.decode s pos).2 = v at *
    clear hc hb
    go_wp2
    go_roundw
    case rel => exact ⟨pos + v, 2, n, by omega, by omega, by omega, by go_num, rfl, HM.out, rfl⟩
    case measure => rw [hmp, hmp]; omega
   have hnx:=fun g0 g1 g2 g3 ty => cw_next w s g0 g1 g2 g3 pos hp ty
   have HM:=hide (cat_miss hc hp (fun h => by omega))
   simp only [gs]
   generalize (Utf8.decode s pos).1 = r at *
   generalize (Utf8.decode s pos).2 = v at *
   clear hc
   go_wp2
   go_roundw
   case rel => exact ⟨pos + v, 3, n, by omega, by omega, by omega, by go_num, rfl, HM.out, rfl⟩
   case measure => rw [hmp, hmp]; omega
  have HE:=hide (cat_end hc hp)
  have hnx:=fun g0 g1 g2 g3 ty => cw_end w s g0 g1 g2 g3 pos hp ty
  have hcase : k = 0 ∨ k = 1 ∨ k = 2 ∨ k = 3:=by omega
  rcases hcase with rfl | rfl | rfl | rfl
  ·simp only [gs]
   unfold cw World.iter
   unfold cw World.iter at hnx
   clear hc
   go_wp2
   refine bodyPost_ret (v := .agg #[.string (s.extract n s.size),.string ⟨#[]⟩,.string ⟨#[]⟩,.string ⟨#[]⟩]) (by simp [results, Tryz.results268, go_sem]) rfl ?_
   refine ⟨?_, ((((Below.refl _ _).alloc (Nat.le_refl _) _).alloc (by simp) _).alloc (by simp; omega) _).alloc (by simp; omega) _⟩
   obtain ⟨x0, x1⟩:=HE.out
   rw [x0]
   obtain ⟨x2, x3⟩:=x1 (by omega)
   simp only [rst, mrk] at x2 x3
   simp only [rst, f0, f1, f2, f3, x2, x3, tl_nil, hd_nil]
   rfl
  ·simp only [gs]
   unfold cw World.iter
   unfold cw World.iter at hnx
   clear hc
   go_wp2
   refine bodyPost_ret (v := .agg #[.string (toB (f0 s.data.toList)),.string (s.extract n s.size),.string ⟨#[]⟩,.string ⟨#[]⟩]) (by simp [results, Tryz.results268, go_sem]) rfl ?_
   refine ⟨?_, ((((Below.refl _ _).alloc (Nat.le_refl _) _).alloc (by simp) _).alloc (by simp; omega) _).alloc (by simp; omega) _⟩
   obtain ⟨x0, x1⟩:=HE.out
   rw [x0]
   obtain ⟨x2, x3⟩:=x1 (by omega)
   simp only [rst, mrk] at x2 x3
   simp only [rst, f0, f1, f2, f3, x2, x3, tl_nil, hd_nil]
   rfl
  ·simp only [gs]
   unfold cw World.iter
   unfold cw World.iter at hnx
   clear hc
   go_wp2
   refine bodyPost_ret (v := .agg #[.string (toB (f0 s.data.toList)),.string (toB (f1 s.data.toList)),.string (s.extract n s.size),.string ⟨#[]⟩]) (by simp [results, Tryz.results268, go_sem]) rfl ?_
   refine ⟨?_, ((((Below.refl _ _).alloc (Nat.le_refl _) _).alloc (by simp) _).alloc (by simp; omega) _).alloc (by simp; omega) _⟩
   obtain ⟨x0, x1⟩:=HE.out
   rw [x0]
   obtain ⟨x2, x3⟩:=x1 (by omega)
   simp only [rst, mrk] at x2 x3
   simp only [rst, f0, f1, f2, f3, x2, x3]
   rfl
  simp only [gs]
  unfold cw World.iter
  unfold cw World.iter at hnx
  clear hc
  go_wp2
  refine bodyPost_ret (v := .agg #[.string (toB (f0 s.data.toList)),.string (toB (f1 s.data.toList)),.string (toB (f2 s.data.toList)),.string (s.extract n s.size)]) (by simp [results, Tryz.results268, go_sem]) rfl ?_
  refine ⟨?_, ((((Below.refl _ _).alloc (Nat.le_refl _) _).alloc (by simp) _).alloc (by simp; omega) _).alloc (by simp; omega) _⟩
  obtain ⟨x0, x1⟩:=HE.out
  rw [x0]
  clear x1
  rfl
end
end Go.Proofs.YtjdchloechcclaaGreatDoor
namespace Go.Proofs
open Go.Shelf
def Tryz.lays172_ren : Go.Shelf.Ren := ⟨fun | 172 => 267 | 244 => 286 | 245 => 287 | 247 => 296 | 279 => 297 | 280 => 298 | 281 => 299 | 282 => 300 | 287 => 308 | 316 => 181 | 171 => 257 | 205 => 309 | 321 => 314 | 322 => 315 | 243 => 269 | 246 => 288 | 283 => 301 | 284 => 302 | 285 => 303 | 286 => 304 | 129 => 283 | 317 => 310 | 318 => 311 | 319 => 312 | 320 => 313 | 337 => 316 | 338 => 317 | n => n, fun | 9 => 9 | 3 => 3 | 75 => 229 | 76 => 311 | 4 => 4 | 5 => 5 | 167 => 343 | 37 => 31 | 0 => 0 | 85 => 344 | 2 => 2 | 168 => 346 | 53 => 331 | 175 => 358 | 46 => 263 | 210 => 361 | 127 => 254 | 145 => 369 | 143 => 367 | 21 => 21 | 171 => 349 | 173 => 351 | 212 => 364 | 51 => 151 | 20 => 20 | 213 => 365 | 232 => 370 | 233 => 371 | 80 => 320 | n => n, fun | 15 => 3 | 16 => 4 | 17 => 5 | 18 => 6 | 19 => 7 | n => n⟩
theorem Tryz.lays172 : Go.Proofs.Lays.n172 Tryz.prog Tryz.lays172_ren := {
 mixed := by kernel_rfl
 f129 := Tryz.func283.trans (congrArg some (by kernel_rfl))
 f171 := Tryz.func257.trans (congrArg some (by kernel_rfl))
 f172 := Tryz.func267.trans (congrArg some (by kernel_rfl))
 f205 := Tryz.func309.trans (congrArg some (by kernel_rfl))
 f243 := Tryz.func269.trans (congrArg some (by kernel_rfl))
 f244 := Tryz.func286.trans (congrArg some (by kernel_rfl))
 f245 := Tryz.func287.trans (congrArg some (by kernel_rfl))
 f246 := Tryz.func288.trans (congrArg some (by kernel_rfl))
 f247 := Tryz.func296.trans (congrArg some (by kernel_rfl))
 f279 := Tryz.func297.trans (congrArg some (by kernel_rfl))
 f280 := Tryz.func298.trans (congrArg some (by kernel_rfl))
 f281 := Tryz.func299.trans (congrArg some (by kernel_rfl))
 f282 := Tryz.func300.trans (congrArg some (by kernel_rfl))
 f283 := Tryz.func301.trans (congrArg some (by kernel_rfl))
 f284 := Tryz.func302.trans (congrArg some (by kernel_rfl))
 f285 := Tryz.func303.trans (congrArg some (by kernel_rfl))
 f286 := Tryz.func304.trans (congrArg some (by kernel_rfl))
 f287 := Tryz.func308.trans (congrArg some (by kernel_rfl))
 f316 := Tryz.func181.trans (congrArg some (by kernel_rfl))
 f317 := Tryz.func310.trans (congrArg some (by kernel_rfl))
 f318 := Tryz.func311.trans (congrArg some (by kernel_rfl))
 f319 := Tryz.func312.trans (congrArg some (by kernel_rfl))
 f320 := Tryz.func313.trans (congrArg some (by kernel_rfl))
 f321 := Tryz.func314.trans (congrArg some (by kernel_rfl))
 f322 := Tryz.func315.trans (congrArg some (by kernel_rfl))
 f337 := Tryz.func316.trans (congrArg some (by kernel_rfl))
 f338 := Tryz.func317.trans (congrArg some (by kernel_rfl))
 t0 := Tryz.underlying0
 a0 := Tryz.isAgg0
 z0 := Tryz.sizeOf0
 v0 := Tryz.zeroValue0
 t2 := Tryz.underlying2
 a2 := Tryz.isAgg2
 z2 := Tryz.sizeOf2
 v2 := Tryz.zeroValue2
 t3 := Tryz.underlying3
 a3 := Tryz.isAgg3
 z3 := Tryz.sizeOf3
 v3 := Tryz.zeroValue3
 t4 := Tryz.underlying4
 a4 := Tryz.isAgg4
 z4 := Tryz.sizeOf4
 v4 := Tryz.zeroValue4
 t5 := Tryz.underlying5
 a5 := Tryz.isAgg5
 z5 := Tryz.sizeOf5
 v5 := Tryz.zeroValue5
 t9 := Tryz.underlying9
 a9 := Tryz.isAgg9
 z9 := Tryz.sizeOf9
 v9 := Tryz.zeroValue9
 t20 := Tryz.underlying20
 a20 := Tryz.isAgg20
 z20 := Tryz.sizeOf20
 v20 := Tryz.zeroValue20
 t21 := Tryz.underlying21
 a21 := Tryz.isAgg21
 z21 := Tryz.sizeOf21
 v21 := Tryz.zeroValue21
 t37 := Tryz.underlying31
 a37 := Tryz.isAgg31
 z37 := Tryz.sizeOf31
 v37 := Tryz.zeroValue31
 t46 := Tryz.underlying263
 a46 := Tryz.isAgg263
 z46 := Tryz.sizeOf263
 v46 := Tryz.zeroValue263
 t51 := Tryz.underlying151
 a51 := Tryz.isAgg151
 z51 := Tryz.sizeOf151
 v51 := Tryz.zeroValue151
 t53 := Tryz.underlying331
 a53 := Tryz.isAgg331
 z53 := Tryz.sizeOf331
 v53 := Tryz.zeroValue331
 t75 := Tryz.underlying229
 a75 := Tryz.isAgg229
 z75 := Tryz.sizeOf229
 v75 := Tryz.zeroValue229
 t76 := Tryz.underlying311
 a76 := Tryz.isAgg311
 z76 := Tryz.sizeOf311
 v76 := Tryz.zeroValue311
 t85 := Tryz.underlying344
 a85 := Tryz.isAgg344
 z85 := Tryz.sizeOf344
 v85 := Tryz.zeroValue344
 t127 := Tryz.underlying254
 a127 := Tryz.isAgg254
 z127 := Tryz.sizeOf254
 v127 := Tryz.zeroValue254
 t143 := Tryz.underlying367
 a143 := Tryz.isAgg367
 z143 := Tryz.sizeOf367
 v143 := Tryz.zeroValue367
 t145 := Tryz.underlying369
 a145 := Tryz.isAgg369
 z145 := Tryz.sizeOf369
 v145 := Tryz.zeroValue369
 t167 := Tryz.underlying343
 a167 := Tryz.isAgg343
 z167 := Tryz.sizeOf343
 v167 := Tryz.zeroValue343
 t168 := Tryz.underlying346
 a168 := Tryz.isAgg346
 z168 := Tryz.sizeOf346
 v168 := Tryz.zeroValue346
 t171 := Tryz.underlying349
 a171 := Tryz.isAgg349
 z171 := Tryz.sizeOf349
 v171 := Tryz.zeroValue349
 t173 := Tryz.underlying351
 a173 := Tryz.isAgg351
 z173 := Tryz.sizeOf351
 v173 := Tryz.zeroValue351
 t175 := Tryz.underlying358
 a175 := Tryz.isAgg358
 z175 := Tryz.sizeOf358
 v175 := Tryz.zeroValue358
 t210 := Tryz.underlying361
 a210 := Tryz.isAgg361
 z210 := Tryz.sizeOf361
 v210 := Tryz.zeroValue361
 t212 := Tryz.underlying364
 a212 := Tryz.isAgg364
 z212 := Tryz.sizeOf364
 v212 := Tryz.zeroValue364
 t213 := Tryz.underlying365
 a213 := Tryz.isAgg365
 z213 := Tryz.sizeOf365
 t232 := Tryz.underlying370
 a232 := Tryz.isAgg370
 z232 := Tryz.sizeOf370
 v232 := Tryz.zeroValue370
 t233 := Tryz.underlying371
 a233 := Tryz.isAgg371
 z233 := Tryz.sizeOf371
 v233 := Tryz.zeroValue371
 g15 := by kernel_rfl
 g16 := by kernel_rfl
 g17 := by kernel_rfl
 g18 := by kernel_rfl
 g19 := by kernel_rfl }
open Go.RowKit in
theorem Tryz.strconv_Atoi (s : ByteArray) (n : Int) (hl : s.size ≤ 18) (h : Lib.atoi s.data.toList = some n) (w : World) :
 Calls Tryz.prog 267 #[.string s] w fun e w' => e = .returned (.tuple #[.int .i64 n,.nilIface]) ∧ ∃ t, w' = Lib.bytesWorld w 5 t := Any.strconv_Atoi Tryz.lays172 s n hl h w
def Tryz.laysC172_ren : Go.Shelf.Ren := ⟨fun | 172 => 267 | 244 => 286 | 245 => 287 | 247 => 296 | 279 => 297 | 280 => 298 | 281 => 299 | 282 => 300 | 287 => 308 | 316 => 181 | 171 => 257 | 205 => 309 | 321 => 314 | 322 => 315 | 243 => 269 | 246 => 288 | 283 => 301 | 284 => 302 | 285 => 303 | 286 => 304 | 129 => 283 | 317 => 310 | 318 => 311 | 319 => 312 | 320 => 313 | 337 => 316 | 338 => 317 | n => n, fun | 9 => 9 | 3 => 3 | 75 => 229 | 76 => 311 | 4 => 4 | 5 => 5 | 167 => 343 | 37 => 31 | 0 => 0 | 85 => 344 | 2 => 2 | 168 => 346 | 53 => 331 | 175 => 358 | 46 => 263 | 210 => 361 | 127 => 254 | 145 => 369 | 143 => 367 | 21 => 21 | 171 => 349 | 173 => 351 | 212 => 364 | 51 => 151 | 20 => 20 | 213 => 365 | 232 => 370 | 233 => 371 | 80 => 320 | n => n, fun | 15 => 3 | 16 => 4 | 17 => 5 | 18 => 6 | 19 => 7 | n => n⟩
theorem Tryz.laysC172 : Go.Proofs.LaysC.n172 Tryz.prog Tryz.laysC172_ren := {
 mixed := by kernel_rfl
 f129 := Tryz.func283.trans (congrArg some (by kernel_rfl))
 f171 := Tryz.func257.trans (congrArg some (by kernel_rfl))
 f172 := Tryz.func267.trans (congrArg some (by kernel_rfl))
 f205 := Tryz.func309.trans (congrArg some (by kernel_rfl))
 f243 := Tryz.func269.trans (congrArg some (by kernel_rfl))
 f244 := Tryz.func286.trans (congrArg some (by kernel_rfl))
 f245 := Tryz.func287.trans (congrArg some (by kernel_rfl))
 f246 := Tryz.func288.trans (congrArg some (by kernel_rfl))
 f247 := Tryz.func296.trans (congrArg some (by kernel_rfl))
 f279 := Tryz.func297.trans (congrArg some (by kernel_rfl))
 f280 := Tryz.func298.trans (congrArg some (by kernel_rfl))
 f281 := Tryz.func299.trans (congrArg some (by kernel_rfl))
 f282 := Tryz.func300.trans (congrArg some (by kernel_rfl))
 f283 := Tryz.func301.trans (congrArg some (by kernel_rfl))
 f284 := Tryz.func302.trans (congrArg some (by kernel_rfl))
 f285 := Tryz.func303.trans (congrArg some (by kernel_rfl))
 f286 := Tryz.func304.trans (congrArg some (by kernel_rfl))
 f287 := Tryz.func308.trans (congrArg some (by kernel_rfl))
 f316 := Tryz.func181.trans (congrArg some (by kernel_rfl))
 f317 := Tryz.func310.trans (congrArg some (by kernel_rfl))
 f318 := Tryz.func311.trans (congrArg some (by kernel_rfl))
 f319 := Tryz.func312.trans (congrArg some (by kernel_rfl))
 f320 := Tryz.func313.trans (congrArg some (by kernel_rfl))
 f321 := Tryz.func314.trans (congrArg some (by kernel_rfl))
 f322 := Tryz.func315.trans (congrArg some (by kernel_rfl))
 f337 := Tryz.func316.trans (congrArg some (by kernel_rfl))
 f338 := Tryz.func317.trans (congrArg some (by kernel_rfl))
 t0 := Tryz.underlying0
 a0 := Tryz.isAgg0
 z0 := Tryz.sizeOf0
 v0 := Tryz.zeroValue0
 t2 := Tryz.underlying2
 a2 := Tryz.isAgg2
 z2 := Tryz.sizeOf2
 v2 := Tryz.zeroValue2
 t3 := Tryz.underlying3
 a3 := Tryz.isAgg3
 z3 := Tryz.sizeOf3
 v3 := Tryz.zeroValue3
 t4 := Tryz.underlying4
 a4 := Tryz.isAgg4
 z4 := Tryz.sizeOf4
 v4 := Tryz.zeroValue4
 t5 := Tryz.underlying5
 a5 := Tryz.isAgg5
 z5 := Tryz.sizeOf5
 v5 := Tryz.zeroValue5
 t9 := Tryz.underlying9
 a9 := Tryz.isAgg9
 z9 := Tryz.sizeOf9
 v9 := Tryz.zeroValue9
 t20 := Tryz.underlying20
 a20 := Tryz.isAgg20
 z20 := Tryz.sizeOf20
 v20 := Tryz.zeroValue20
 t21 := Tryz.underlying21
 a21 := Tryz.isAgg21
 z21 := Tryz.sizeOf21
 v21 := Tryz.zeroValue21
 t37 := Tryz.underlying31
 a37 := Tryz.isAgg31
 z37 := Tryz.sizeOf31
 v37 := Tryz.zeroValue31
 t46 := Tryz.underlying263
 a46 := Tryz.isAgg263
 z46 := Tryz.sizeOf263
 v46 := Tryz.zeroValue263
 t51 := Tryz.underlying151
 a51 := Tryz.isAgg151
 z51 := Tryz.sizeOf151
 v51 := Tryz.zeroValue151
 t53 := Tryz.underlying331
 a53 := Tryz.isAgg331
 z53 := Tryz.sizeOf331
 v53 := Tryz.zeroValue331
 t75 := Tryz.underlying229
 a75 := Tryz.isAgg229
 z75 := Tryz.sizeOf229
 v75 := Tryz.zeroValue229
 t76 := Tryz.underlying311
 a76 := Tryz.isAgg311
 z76 := Tryz.sizeOf311
 v76 := Tryz.zeroValue311
 t85 := Tryz.underlying344
 a85 := Tryz.isAgg344
 z85 := Tryz.sizeOf344
 v85 := Tryz.zeroValue344
 t127 := Tryz.underlying254
 a127 := Tryz.isAgg254
 z127 := Tryz.sizeOf254
 v127 := Tryz.zeroValue254
 t143 := Tryz.underlying367
 a143 := Tryz.isAgg367
 z143 := Tryz.sizeOf367
 v143 := Tryz.zeroValue367
 t145 := Tryz.underlying369
 a145 := Tryz.isAgg369
 z145 := Tryz.sizeOf369
 v145 := Tryz.zeroValue369
 t167 := Tryz.underlying343
 a167 := Tryz.isAgg343
 z167 := Tryz.sizeOf343
 v167 := Tryz.zeroValue343
 t168 := Tryz.underlying346
 a168 := Tryz.isAgg346
 z168 := Tryz.sizeOf346
 v168 := Tryz.zeroValue346
 t171 := Tryz.underlying349
 a171 := Tryz.isAgg349
 z171 := Tryz.sizeOf349
 v171 := Tryz.zeroValue349
 t173 := Tryz.underlying351
 a173 := Tryz.isAgg351
 z173 := Tryz.sizeOf351
 v173 := Tryz.zeroValue351
 t175 := Tryz.underlying358
 a175 := Tryz.isAgg358
 z175 := Tryz.sizeOf358
 v175 := Tryz.zeroValue358
 t210 := Tryz.underlying361
 a210 := Tryz.isAgg361
 z210 := Tryz.sizeOf361
 v210 := Tryz.zeroValue361
 t212 := Tryz.underlying364
 a212 := Tryz.isAgg364
 z212 := Tryz.sizeOf364
 v212 := Tryz.zeroValue364
 t213 := Tryz.underlying365
 a213 := Tryz.isAgg365
 z213 := Tryz.sizeOf365
 t232 := Tryz.underlying370
 a232 := Tryz.isAgg370
 z232 := Tryz.sizeOf370
 v232 := Tryz.zeroValue370
 t233 := Tryz.underlying371
 a233 := Tryz.isAgg371
 z233 := Tryz.sizeOf371
 v233 := Tryz.zeroValue371
 g15 := by kernel_rfl
 g16 := by kernel_rfl
 g17 := by kernel_rfl
 g18 := by kernel_rfl
 g19 := by kernel_rfl
 t80 := Tryz.underlying320
 a80 := Tryz.isAgg320
 z80 := Tryz.sizeOf320
 v80 := Tryz.zeroValue320
 i0 := by kernel_rfl
 i2 := by kernel_rfl
 i3 := by kernel_rfl
 i4 := by kernel_rfl
 i5 := by kernel_rfl
 i9 := by kernel_rfl
 i20 := by kernel_rfl
 i21 := by kernel_rfl
 i37 := by kernel_rfl
 i46 := by kernel_rfl
 i51 := by kernel_rfl
 i53 := by kernel_rfl
 i75 := by kernel_rfl
 i76 := by kernel_rfl
 i80 := by kernel_rfl
 i85 := by kernel_rfl
 i127 := by kernel_rfl
 i143 := by kernel_rfl
 i145 := by kernel_rfl
 i167 := by kernel_rfl
 i168 := by kernel_rfl
 i171 := by kernel_rfl
 i173 := by kernel_rfl
 i175 := by kernel_rfl
 i210 := by kernel_rfl
 i212 := by kernel_rfl
 i232 := by kernel_rfl
 i233 := by kernel_rfl
 m15 := by kernel_rfl
 m16 := by kernel_rfl
 m17 := by kernel_rfl
 m18 := by kernel_rfl
 m19 := by kernel_rfl
 c0 := by kernel_rfl
 c2 := by kernel_rfl
 c3 := by kernel_rfl
 c4 := by kernel_rfl
 c5 := by kernel_rfl
 c9 := by kernel_rfl
 c20 := by kernel_rfl
 c21 := by kernel_rfl
 c37 := by kernel_rfl
 c46 := by kernel_rfl
 c51 := by kernel_rfl
 c53 := by kernel_rfl
 c75 := by kernel_rfl
 c76 := by kernel_rfl
 c80 := by kernel_rfl
 c85 := by kernel_rfl
 c127 := by kernel_rfl
 c143 := by kernel_rfl
 c145 := by kernel_rfl
 c167 := by kernel_rfl
 c168 := by kernel_rfl
 c171 := by kernel_rfl
 c173 := by kernel_rfl
 c175 := by kernel_rfl
 c210 := by kernel_rfl
 c212 := by kernel_rfl
 c213 := by kernel_rfl
 c232 := by kernel_rfl
 c233 := by kernel_rfl }
open Go.RowKit in
theorem Tryz.strconv_Atoi_ok (s : ByteArray) (hmax : s.size ≤ 9223372036854775806) (v : Int) (h : Lib.atoiAll s.data.toList = .ok v) (w : World) :
 Calls Tryz.prog 267 #[.string s] w fun e w' => e = .returned (.tuple #[.int .i64 v,.nilIface]) ∧ (w' = w ∨ ∃ t, w' = Lib.bytesWorld w 5 t) := Any.strconv_Atoi_ok Tryz.laysC172 s hmax v h w
end Go.Proofs
namespace Go.Proofs.YtjdchloechcclaaGreatDoor
section
open Go.RowKit
theorem bytes_below (w : World) (e : TypeId) (t : ByteArray) : Below w.heap.size w (Lib.bytesWorld w e t) := Lib.bytesWorld_below w e t

theorem atoi_num (s : ByteArray) (n : Nat) (w : World) (h : Hid (numOf s.data.toList = some n)) :
 Calls Tryz.prog 267 #[.string s] w fun e w' => e = .returned (.tuple #[.int .i64 n,.nilIface]) ∧ Below w.heap.size w w' := by
 obtain ⟨h1, h2⟩:=numOf_some h.out
 have hl:=numOf_len h.out
 have hs : s.size ≤ 18:=by simp at hl; omega
 refine (Tryz.strconv_Atoi s (n : Int) hs (by rw [← h2]; exact atoi_digits n) w).mono ?_
 rintro e w' ⟨rfl, t, rfl⟩
 exact ⟨rfl, bytes_below _ _ _⟩

def AtoiEnd (e : Ending) : Prop := (∃ v : Int, e = .returned (.tuple #[.int .i64 v,.nilIface])) ∨ ∃ (v : Int) (t : TypeId) (x : Value), e = .returned (.tuple #[.int .i64 v,.iface t x])
theorem atoi_any (s : ByteArray) (hs : s.size ≤ 33554432) (w : World) (u1 u2 : TypeId) (p1 p2 : Value) (hy : w.cell? ⟨3, 0, none⟩ = some (.iface u1 p1)) (hr : w.cell? ⟨4, 0, none⟩ = some (.iface u2 p2)) :
 Calls Tryz.prog 267 #[.string s] w fun e w' => AtoiEnd e ∧ Below w.heap.size w w' := by
 cases h : Lib.atoiAll s.data.toList
 ·refine (Tryz.strconv_Atoi_ok s (by omega) _ h w).mono ?_
  rintro e w' ⟨rfl, h1⟩
  refine ⟨.inl ⟨_, rfl⟩, ?_⟩
  rcases h1 with rfl | ⟨t, rfl⟩
  ·exact Below.refl _ _
  exact bytes_below _ _ _
 ·refine Calls.mono (Any.strconv_Atoi_syntax Tryz.laysC172 s (by omega) h _ w hy (.inr ⟨_, _, rfl⟩)) ?_
  rintro e w' ⟨N, rfl, _, _, hb⟩
  exact ⟨.inr ⟨_, _, _, rfl⟩, hb⟩
 refine Calls.mono (Any.strconv_Atoi_range Tryz.laysC172 s (by omega) h _ w hr (.inr ⟨_, _, rfl⟩)) ?_
 rintro e w' ⟨N, rfl, _, _, hb⟩
 exact ⟨.inr ⟨_, _, _, rfl⟩, hb⟩
theorem take_snoc (s : ByteArray) (k : Nat) (h : k < s.size) : s.data.toList.take (k + 1) = s.data.toList.take k ++ [s[k]] := by
 rw [List.take_succ_eq_append_getElem (by simpa using h)]; rfl
theorem byte_get (s : ByteArray) (k : Nat) (h : k < s.size) : s.data.toList[k]? = some s[k] := by
 rw [List.getElem?_eq_getElem (by simpa using h)]; rfl
theorem dec_step (s : ByteArray) (k n : Nat) (h : k < s.size) (hd : Lib.decFrom 0 (s.data.toList.take k) = some n) (h1 : 48 ≤ s[k].toNat) (h2 : s[k].toNat ≤ 57) :
 Lib.decFrom 0 (s.data.toList.take (k + 1)) = some (n * 10 + (s[k].toNat - 48)) :=
 Lib.decFrom_take s.data.toList k 0 n s[k] _ hd (byte_get s k h) (by rw [Lib.digitVal, if_pos ⟨h1, h2⟩])
theorem len_data (s : ByteArray) : s.data.toList.length = s.size := by simp

theorem specNumber_len (s : ByteArray) (w : World) (hm : s.size ≤ maxLen) (h : s.size < 1 ∨ 6 < s.size) :
 Calls Tryz.prog 193 #[.string s] w fun e w' => e = .returned (.tuple #[.int .i64 0,.bool false]) ∧ w' = w := by
 unfold maxLen at hm
 by_cases h1 : s.size < 1
 ·clear h
  go_enter Tryz.func193, Tryz.ntmps193
  go_wp2
  go_ret2
  exact ⟨rfl, rfl⟩
 have hd : decide ((s.size : Int) < 1) = false:=by simp; omega
 have h2 : 6 < s.size:=by omega
 clear h
 go_enter Tryz.func193, Tryz.ntmps193
 go_wp2
 go_ret2
 exact ⟨rfl, rfl⟩

theorem specNumber_six (s : ByteArray) (w : World) (h1 : 1 ≤ s.size) (h6 : s.size ≤ 6) :
 Calls Tryz.prog 193 #[.string s] w fun e w' => e = .returned (.tuple #[.int .i64 (nans (numOf s.data.toList)),.bool (numOf s.data.toList).isSome]) ∧ Below w.heap.size w w' := by
 have hd : decide ((s.size : Int) < 1) = false:=by simp; omega
 go_enter Tryz.func193, Tryz.ntmps193
 go_wp2
 go_loop [4, 5] (fun y i => ∃ k n : Nat, k ≤ s.size ∧ y = .int .i64 n ∧ i = .int .i64 k ∧ n < 10 ^ k ∧ Hid (Lib.decFrom 0 (s.data.toList.take k) = some n)) (fun _ i => s.size - (intOf i).toNat)
 case atStart => exact ⟨0, 0, by omega, rfl, rfl, by simp, rfl⟩
 case round =>
  obtain ⟨k, n, hk, rfl, rfl, hn, HD⟩:=hrel
  have hn6 : n ≤ 999999:=by
   have : 10 ^ k ≤ 10 ^ 6:=Nat.pow_le_pow_right (by omega) (by omega)
   omega
  by_cases hlt : k < s.size
  ·by_cases hb : 48 ≤ s[k].toNat ∧ s[k].toNat ≤ 57
   ·have HS:=hide (dec_step s k n hlt HD.out hb.1 hb.2)
    have hb1:=hb.1
    have hb2:=hb.2
    have hpow : n * 10 + (s[k].toNat - 48) < 10 ^ (k + 1):=by rw [Nat.pow_succ]; omega
    clear hb
    go_wp2
    go_round
    case rel => exact ⟨k + 1, n * 10 + (s[k].toNat - 48), by omega, by go_num, by go_num, hpow, HS⟩
    case measure => simp [intOf]; omega
   have HN:=hide (numOf_none_byte (byte_get s k hlt) (by omega))
   by_cases hb1 : s[k].toNat < 48
   ·clear hb
    go_wp2
    go_ret2
    exact ⟨by rw [HN.out]; rfl, Below.refl _ _⟩
   have hb2 : 57 < s[k].toNat:=by omega
   clear hb
   go_wp2
   go_ret2
   exact ⟨by rw [HN.out]; rfl, Below.refl _ _⟩
  have hks : k = s.size:=by omega
  have HD' : Hid (Lib.decFrom 0 s.data.toList = some n):=by
   have:=HD.out; rw [hks, List.take_of_length_le (by rw [len_data]; omega)] at this; exact this
  clear HD
  by_cases he : Lib.decDigits n = s.data.toList
  ·have HY:=hide (numOf_yes HD'.out hn6 he)
   have hs : (⟨(Lib.itoa (n : Int)).toArray⟩ : ByteArray) = s:=by rw [itoa_nat, he]
   have HC:=hide fun w => specDigits_any (n : Int) w (by omega) (by omega)
   rw [hs] at HC
   clear hs he
   go_wp2_with fail
   refine (HC.out _).mono ?_
   rintro e w1 ⟨rfl, b1⟩
   go_wp2
   go_ret2
   exact ⟨by rw [HY.out]; rfl, b1⟩
  have HN:=hide (numOf_no HD'.out he)
  have HC:=hide fun w => specDigits_any (n : Int) w (by omega) (by omega)
  obtain ⟨t, ht⟩ : ∃ t : ByteArray, t = ⟨(Lib.itoa (n : Int)).toArray⟩:=⟨_, rfl⟩
  rw [← ht] at HC
  have hne : t ≠ s:=by intro e; rw [ht, itoa_nat] at e; apply he; rw [← e]
  have hne':=str_ne hne
  clear ht he
  go_wp2_with fail
  refine (HC.out _).mono ?_
  rintro e w1 ⟨rfl, b1⟩
  go_wp2
  go_ret2
  exact ⟨by rw [HN.out]; rfl, b1⟩

theorem specNumber_any (s : ByteArray) (w : World) (hm : s.size ≤ maxLen) :
 Calls Tryz.prog 193 #[.string s] w fun e w' => e = .returned (.tuple #[.int .i64 (nans (numOf s.data.toList)),.bool (numOf s.data.toList).isSome]) ∧ Below w.heap.size w w' := by
 by_cases h : s.size < 1 ∨ 6 < s.size
 ·refine (specNumber_len s w hm h).mono ?_
  rintro e w' ⟨rfl, rfl⟩
  exact ⟨by rw [numOf_none_len (by rw [len_data]; exact h)]; rfl, Below.refl _ _⟩
 exact specNumber_six s w (by omega) (by omega)
theorem catch_panicking (p : Addr) (x : Bool) (u : TypeId) (pv : Value) (older : List PanicEntry) (w : World) (hc : w.cell? p = some (.bool x)) (hz : w.frozen? p = false) :
 CallsD Tryz.prog 266 #[.pointer (some p)] (.panicking ({ v := .iface u pv, recovered := false } :: older)) w fun e u' w' =>
  e = .returned (.tuple #[]) ∧ u' = .panicking ({ v := .iface u pv, recovered := true } :: older) ∧ w' = w.setCell p (.bool false) := by
 refine callsD_of_wpS Tryz.func266 rfl fun c₀ cs hu => ?_
 apply wpS_seq
 apply wpS_region
 simp [wpOpsS, go_sem, recoverD, hu, Tryz.ntmps266, Exit.thenS]
 refine wpS_cond (t := true) (by simp [Act.eval, Array.replicate]) ?_
 simp only [if_true]
 apply wpS_region
 simp [wpOpsS, go_sem, hc, hz, bodyPostS, results, Tryz.results266]

theorem catch_idle (p : Addr) (w : World) :
 CallsD Tryz.prog 266 #[.pointer (some p)] .returning w fun e u' w' => e = .returned (.tuple #[]) ∧ u' = .returning ∧ w' = w := by
 refine callsD_of_wpS Tryz.func266 rfl fun c₀ cs hu => ?_
 apply wpS_seq
 apply wpS_region
 simp [wpOpsS, go_sem, recoverD, hu, Tryz.ntmps266, Exit.thenS]
 refine wpS_cond (t := false) (by simp [Act.eval, Array.replicate]) ?_
 simp only [Bool.false_eq_true, if_false]
 refine wpS_of_wp (wp_skip ?_)
 cases c₀
 simp_all [bodyPostS, results, Tryz.results266]

theorem readable_ok (g : FuncId) (cap : Array Value) (w : World) (R : World → Prop) (hcf : ∀ w, (callFunc g cap).run Tryz.prog w = .ok (.enter g cap) w)
 (h : Calls Tryz.prog g cap (w.alloc (.cells #[.bool false] 4)) fun e w' => e = .returned (.tuple #[]) ∧ R w' ∧ w'.cell? ⟨w.heap.size, 0, none⟩ = some (.bool false) ∧ w'.frozen? ⟨w.heap.size, 0, none⟩ = false) :
 Calls Tryz.prog 252 #[.func (.func g) #[] cap] w fun e w' => e = .returned (.bool true) ∧ ∃ w1, R w1 ∧ w' = w1.setCell ⟨w.heap.size, 0, none⟩ (.bool true) := by
 have hmf : ∀ (fn : Fn) (first cap : Array Value) (w : World), (Instr.makeFunc fn first cap).run Tryz.prog w = .ok (.func fn first cap) w:=fun _ _ _ _ => rfl
 go_enter_defers Tryz.func252, Tryz.ntmps252
 go_wp2_with fail
 refine h.mono ?_
 rintro e w1 ⟨rfl, hR, hc, hz⟩
 go_wp2
 refine leaves_cons (f := 266) (args := #[.pointer (some ⟨w.heap.size, 0, none⟩)]) (by simp) (by simp [go_sem]) ?_
 refine (catch_idle ⟨w.heap.size, 0, none⟩ _).mono ?_
 rintro e u' w'' ⟨rfl, rfl, rfl⟩
 simp [Leaves, settle, results, Tryz.results252, go_sem]
 exact ⟨_, by rw [World.cell?_setCell_same _ _ _ hc], rfl, w1, hR, rfl⟩

theorem readable_no (g : FuncId) (cap : Array Value) (w : World) (R : World → Prop) (u : TypeId) (pv : Value) (hcf : ∀ w, (callFunc g cap).run Tryz.prog w = .ok (.enter g cap) w)
 (h : Calls Tryz.prog g cap (w.alloc (.cells #[.bool false] 4)) fun e w' => e = .panicked [{ v := .iface u pv, recovered := false }] ∧ R w' ∧ w'.cell? ⟨w.heap.size, 0, none⟩ = some (.bool false) ∧ w'.frozen? ⟨w.heap.size, 0, none⟩ = false) :
 Calls Tryz.prog 252 #[.func (.func g) #[] cap] w fun e w' => e = .returned (.bool false) ∧ ∃ w1, R w1 ∧ w' = w1.setCell ⟨w.heap.size, 0, none⟩ (.bool false) := by
 have hmf : ∀ (fn : Fn) (first cap : Array Value) (w : World), (Instr.makeFunc fn first cap).run Tryz.prog w = .ok (.func fn first cap) w:=fun _ _ _ _ => rfl
 go_enter_defers Tryz.func252, Tryz.ntmps252
 go_wp2_with fail
 refine h.mono ?_
 rintro e w1 ⟨rfl, hR, hc, hz⟩
 go_wp2
 refine leaves_cons (f := 266) (args := #[.pointer (some ⟨w.heap.size, 0, none⟩)]) (by simp) (by simp [go_sem]) ?_
 refine (catch_panicking ⟨w.heap.size, 0, none⟩ false u pv [] _ hc hz).mono ?_
 rintro e u' w'' ⟨rfl, rfl, rfl⟩
 simp [Leaves, settle, results, Tryz.results252, go_sem]
 exact ⟨_, by rw [World.cell?_setCell_same _ _ _ hc], rfl, w1, hR, rfl⟩
end
end Go.Proofs.YtjdchloechcclaaGreatDoor
