/- Texts that belong together: Cut, OneStr, DigPlain, SpecDigits, ShelfItoa, Digits, ShelfAtoi, Atoi. -/
import Derived.Test.YtcclbejpgiogaaaGreatDoorNBAF
import Derived.Test.YtcclbejpgiogaaaGreatDoorNBAA
import Derived.Laws.BytesArg
import Derived.WalkKit
import Derived.Lib.ItoaNum
import Derived.Shelf.Small.Wraps
import Derived.Shelf.Strconv.Atoi
import Derived.Shelf.Strconv.Itoa0
import Derived.Shelf.Strconv.Itoa1
import Derived.Shelf.LaysM
import Derived.Shelf.Strconv.Itoa2
import Derived.Shelf.Strconv.Itoa3
import Derived.Shelf.Strconv.AtoiErrFast
import Derived.Shelf.Strconv.ParseIntEmpty
import Derived.Shelf.Strconv.AtoiFail
import Derived.Shelf.Strconv.Clone
import Derived.Shelf.Strconv.SyntaxError
import Derived.Shelf.LaysC
import Derived.Shelf.Strconv.ToError
import Derived.Shelf.Strconv.Lower
import Derived.Shelf.Strconv.ParseUint10
import Derived.Shelf.Strconv.ParseUint10Empty
import Derived.Shelf.Strconv.ParseUint10Any
import Derived.Shelf.Strconv.ParseInt10
import Derived.Shelf.Strconv.AtoiLong
import Derived.Shelf.Strconv.AtoiInnerAll
import Derived.Shelf.Strconv.RangeError
import Derived.Shelf.Strconv.ToErrorRange
import Derived.Shelf.Strconv.AtoiAll
import Derived.Shelf.Strconv.ErrVarAll
import Derived.Shelf.Strings.Search1
import Derived.Shelf.Strings.Search2
import Derived.Shelf.Strings.Search3
import Derived.Shelf.Strings.Cut
import Derived.Shelf.Strings.Shaped
import Derived.Shelf.Strings.Prefix
import Derived.Test.YtcclbejpgiogaaaGreatDoorProg
import Derived.Lib.LaidTab
import Derived.Sort.Grow
import Derived.Lib.AtoiErrMem
set_option maxRecDepth 100000
set_option maxHeartbeats 4000000
namespace Go.Proofs.YtcclbejpgiogaaaGreatDoor
open Go.RowKit

theorem cut_any (s : ByteArray) (w : World) (hs : s.size ≤ 33554432) :
 Calls Tryz.prog 162 #[.string s] w fun e w' => e = .returned (.agg #[.string (toB (f0 s.data.toList)), .string (toB (f1 s.data.toList)), .string (toB (f2 s.data.toList)), .string (toB (f3 s.data.toList))]) ∧ Below w.heap.size w w' := by
 go_enter Tryz.func162, Tryz.ntmps162
 go_wp2
 go_loopw [5, 6] (fun a f wr => CRel s w a f wr) (fun _ _ wr => s.size - wr.iterPos (w.heap.size + 1 + 1 + 1))
 case atStart => exact ⟨0, 0, 0, by omega, by omega, by omega, rfl, rfl, cat_start s, rfl⟩
 case round =>
  obtain ⟨pos, k, n, hk, hnp, hns, rfl, rfl, hc, rfl⟩ := hrel
  by_cases hp : pos < s.size
  ·have hps : pos ≤ s.size := by omega
   have hwd : 1 ≤ (Utf8.decode s pos).2 := by
    by_cases ha : s[pos].toNat < 128
    ·rw [decode_ascii s pos hp ha]; exact Nat.le_refl _
    ·exact (decode_high s pos hp (by omega)).2
   have hm0 := fun g0 g1 g2 g3 p => (cw_marks w s g0 g1 g2 g3 p).1
   have hm1 := fun g0 g1 g2 g3 p => (cw_marks w s g0 g1 g2 g3 p).2.1
   have hm2 := fun g0 g1 g2 g3 p => (cw_marks w s g0 g1 g2 g3 p).2.2
   have hc0 := fun g0 g1 g2 g3 p => (cw_cells w s g0 g1 g2 g3 p).1
   have hc1 := fun g0 g1 g2 g3 p => (cw_cells w s g0 g1 g2 g3 p).2.1
   have hc2 := fun g0 g1 g2 g3 p => (cw_cells w s g0 g1 g2 g3 p).2.2.1
   have hz := cw_free w s
   have hs0 := cw_set0 w s
   have hs1 := cw_set1 w s
   have hs2 := cw_set2 w s
   have hmp := cw_pos w s
   have hcase : k = 0 ∨ k = 1 ∨ k = 2 ∨ k = 3 := by omega
   rcases hcase with rfl | rfl | rfl | rfl
   ·by_cases hb : s[pos] = mrk 0
    ·have hnx := fun g0 g1 g2 g3 ty => cw_next w s g0 g1 g2 g3 pos hp ty
     have hde : Utf8.decode s pos = (62, 1) := by rw [decode_ascii s pos hp (by rw [hb]; decide), hb]; rfl
     rw [hde] at hnx
     have HH := hide (cat_hit hc hp (by omega) hb)
     have hint : ((62 : Nat) : Int) = 62 := rfl
     simp only [hint] at hnx
     simp only [gs]
     clear hc hb hde hwd
     go_wp2
     go_roundw
     case rel =>
      refine ⟨pos + 1, 1, pos + 1, by omega, by omega, by omega, by go_num, by go_num, HH.out.2, ?_⟩
      rw [HH.out.1]; rfl
     case measure => rw [hmp, hmp]; omega
    ·have hnx := fun g0 g1 g2 g3 ty => cw_next w s g0 g1 g2 g3 pos hp ty
     have HM := hide (cat_miss hc hp (fun _ => hb))
     have hne : (((Utf8.decode s pos).1 : Int) == 62) = false := by
      by_cases ha : s[pos].toNat < 128
      ·rw [decode_ascii s pos hp ha]
       have : s[pos].toNat ≠ 62 := fun e => hb (UInt8.toNat_inj.1 e)
       simp; omega
      ·have := (decode_high s pos hp (by omega)).1
       simp; omega
     have hle : (Utf8.decode s pos).1 ≤ 2147483647 := decode_le s pos
     simp only [gs]
     generalize (Utf8.decode s pos).1 = r at *
     generalize (Utf8.decode s pos).2 = v at *
     clear hc hb
     go_wp2
     go_roundw
     case rel => exact ⟨pos + v, 0, n, by omega, by omega, by omega, by go_num, rfl, HM.out, rfl⟩
     case measure => rw [hmp, hmp]; omega
   ·by_cases hb : s[pos] = mrk 1
    ·have hnx := fun g0 g1 g2 g3 ty => cw_next w s g0 g1 g2 g3 pos hp ty
     have hde : Utf8.decode s pos = (58, 1) := by rw [decode_ascii s pos hp (by rw [hb]; decide), hb]; rfl
     rw [hde] at hnx
     have HH := hide (cat_hit hc hp (by omega) hb)
     have hint : ((58 : Nat) : Int) = 58 := rfl
     simp only [hint] at hnx
     simp only [gs]
     clear hc hb hde hwd
     go_wp2
     go_roundw
     case rel =>
      refine ⟨pos + 1, 2, pos + 1, by omega, by omega, by omega, by go_num, by go_num, HH.out.2, ?_⟩
      rw [HH.out.1]; rfl
     case measure => rw [hmp, hmp]; omega
    ·have hnx := fun g0 g1 g2 g3 ty => cw_next w s g0 g1 g2 g3 pos hp ty
     have HM := hide (cat_miss hc hp (fun _ => hb))
     have hne : (((Utf8.decode s pos).1 : Int) == 58) = false := by
      by_cases ha : s[pos].toNat < 128
      ·rw [decode_ascii s pos hp ha]
       have : s[pos].toNat ≠ 58 := fun e => hb (UInt8.toNat_inj.1 e)
       simp; omega
      ·have := (decode_high s pos hp (by omega)).1
       simp; omega
     have hle : (Utf8.decode s pos).1 ≤ 2147483647 := decode_le s pos
     simp only [gs]
     generalize (Utf8.decode s pos).1 = r at *
     generalize (Utf8.decode s pos).2 = v at *
     clear hc hb
     go_wp2
     go_roundw
     case rel => exact ⟨pos + v, 1, n, by omega, by omega, by omega, by go_num, rfl, HM.out, rfl⟩
     case measure => rw [hmp, hmp]; omega
   ·by_cases hb : s[pos] = mrk 2
    ·have hnx := fun g0 g1 g2 g3 ty => cw_next w s g0 g1 g2 g3 pos hp ty
     have hde : Utf8.decode s pos = (35, 1) := by rw [decode_ascii s pos hp (by rw [hb]; decide), hb]; rfl
     rw [hde] at hnx
     have HH := hide (cat_hit hc hp (by omega) hb)
     have hint : ((35 : Nat) : Int) = 35 := rfl
     simp only [hint] at hnx
     simp only [gs]
     clear hc hb hde hwd
     go_wp2
     go_roundw
     case rel =>
      refine ⟨pos + 1, 3, pos + 1, by omega, by omega, by omega, by go_num, by go_num, HH.out.2, ?_⟩
      rw [HH.out.1]; rfl
     case measure => rw [hmp, hmp]; omega
    ·have hnx := fun g0 g1 g2 g3 ty => cw_next w s g0 g1 g2 g3 pos hp ty
     have HM := hide (cat_miss hc hp (fun _ => hb))
     have hne : (((Utf8.decode s pos).1 : Int) == 35) = false := by
      by_cases ha : s[pos].toNat < 128
      ·rw [decode_ascii s pos hp ha]
       have : s[pos].toNat ≠ 35 := fun e => hb (UInt8.toNat_inj.1 e)
       simp; omega
      ·have := (decode_high s pos hp (by omega)).1
       simp; omega
     have hle : (Utf8.decode s pos).1 ≤ 2147483647 := decode_le s pos
     simp only [gs]
     generalize (Utf8.decode s pos).1 = r at *
     generalize (Utf8.decode s pos).2 = v at *
     clear hc hb
     go_wp2
     go_roundw
     case rel => exact ⟨pos + v, 2, n, by omega, by omega, by omega, by go_num, rfl, HM.out, rfl⟩
     case measure => rw [hmp, hmp]; omega
   ·have hnx := fun g0 g1 g2 g3 ty => cw_next w s g0 g1 g2 g3 pos hp ty
    have HM := hide (cat_miss hc hp (fun h => by omega))
    simp only [gs]
    generalize (Utf8.decode s pos).1 = r at *
    generalize (Utf8.decode s pos).2 = v at *
    clear hc
    go_wp2
    go_roundw
    case rel => exact ⟨pos + v, 3, n, by omega, by omega, by omega, by go_num, rfl, HM.out, rfl⟩
    case measure => rw [hmp, hmp]; omega
  ·have HE := hide (cat_end hc hp)
   have hnx := fun g0 g1 g2 g3 ty => cw_end w s g0 g1 g2 g3 pos hp ty
   have hcase : k = 0 ∨ k = 1 ∨ k = 2 ∨ k = 3 := by omega
   rcases hcase with rfl | rfl | rfl | rfl
   ·simp only [gs]
    unfold cw World.iter
    unfold cw World.iter at hnx
    clear hc
    go_wp2
    refine bodyPost_ret (v := .agg #[.string (s.extract n s.size), .string ⟨#[]⟩, .string ⟨#[]⟩, .string ⟨#[]⟩]) (by simp [results, Tryz.results162, go_sem]) rfl ?_
    refine ⟨?_, ((((Below.refl _ _).alloc (Nat.le_refl _) _).alloc (by simp) _).alloc (by simp; omega) _).alloc (by simp; omega) _⟩
    obtain ⟨x0, x1⟩ := HE.out
    rw [x0]
    obtain ⟨x2, x3⟩ := x1 (by omega)
    simp only [rst, mrk] at x2 x3
    simp only [rst, f0, f1, f2, f3, x2, x3, tl_nil, hd_nil]
    rfl
   ·simp only [gs]
    unfold cw World.iter
    unfold cw World.iter at hnx
    clear hc
    go_wp2
    refine bodyPost_ret (v := .agg #[.string (toB (f0 s.data.toList)), .string (s.extract n s.size), .string ⟨#[]⟩, .string ⟨#[]⟩]) (by simp [results, Tryz.results162, go_sem]) rfl ?_
    refine ⟨?_, ((((Below.refl _ _).alloc (Nat.le_refl _) _).alloc (by simp) _).alloc (by simp; omega) _).alloc (by simp; omega) _⟩
    obtain ⟨x0, x1⟩ := HE.out
    rw [x0]
    obtain ⟨x2, x3⟩ := x1 (by omega)
    simp only [rst, mrk] at x2 x3
    simp only [rst, f0, f1, f2, f3, x2, x3, tl_nil, hd_nil]
    rfl
   ·simp only [gs]
    unfold cw World.iter
    unfold cw World.iter at hnx
    clear hc
    go_wp2
    refine bodyPost_ret (v := .agg #[.string (toB (f0 s.data.toList)), .string (toB (f1 s.data.toList)), .string (s.extract n s.size), .string ⟨#[]⟩]) (by simp [results, Tryz.results162, go_sem]) rfl ?_
    refine ⟨?_, ((((Below.refl _ _).alloc (Nat.le_refl _) _).alloc (by simp) _).alloc (by simp; omega) _).alloc (by simp; omega) _⟩
    obtain ⟨x0, x1⟩ := HE.out
    rw [x0]
    obtain ⟨x2, x3⟩ := x1 (by omega)
    simp only [rst, mrk] at x2 x3
    simp only [rst, f0, f1, f2, f3, x2, x3]
    rfl
   ·simp only [gs]
    unfold cw World.iter
    unfold cw World.iter at hnx
    clear hc
    go_wp2
    refine bodyPost_ret (v := .agg #[.string (toB (f0 s.data.toList)), .string (toB (f1 s.data.toList)), .string (toB (f2 s.data.toList)), .string (s.extract n s.size)]) (by simp [results, Tryz.results162, go_sem]) rfl ?_
    refine ⟨?_, ((((Below.refl _ _).alloc (Nat.le_refl _) _).alloc (by simp) _).alloc (by simp; omega) _).alloc (by simp; omega) _⟩
    obtain ⟨x0, x1⟩ := HE.out
    rw [x0]
    clear x1
    rfl

theorem one_str (w : World) (c : Int) : (convert 22 9 (.slice (some ⟨w.heap.size, 0, none⟩) 1 1)).run Tryz.prog (w.alloc (.cells #[.int .u8 c] 5)) = .ok (.string (strOfNums [c])) (w.alloc (.cells #[.int .u8 c] 5)) := by
 refine run_convert_bytes_arg (P := Tryz.prog) _ 22 5 Tryz.underlying22 Tryz.underlying5 w.heap.size 0 1 1 [c] rfl (fun i hi => ?_) 9 Tryz.underlying9
 obtain rfl : i = 0 := by omega
 simp
end Go.Proofs.YtcclbejpgiogaaaGreatDoor
namespace Go.Proofs.YtcclbejpgiogaaaGreatDoor

def rest (m : Nat) : List UInt8 := if m = 0 then [] else Lib.decDigits m
theorem rest_step (m : Nat) (h : m ≠ 0) : rest m = rest (m / 10) ++ [UInt8.ofNat (48 + m % 10)] := by
 by_cases h10 : m < 10
 ·have e : m / 10 = 0 := by omega
  rw [rest, if_neg h, Lib.decDigits, dif_pos h10, e, rest, if_pos rfl, Nat.mod_eq_of_lt h10]; rfl
 ·have e : m / 10 ≠ 0 := by omega
  rw [rest, if_neg h, Lib.decDigits, dif_neg h10, rest, if_neg e]
def DAt (n m : Nat) (t : List UInt8) : Prop := rest m ++ t = rest n ∧ t.length ≤ 20 ∧ m < 10 ^ (20 - t.length)
theorem dat_start (n : Nat) (h : n ≤ 9223372036854775808) : DAt n n [] := ⟨by simp, by simp, by simp; omega⟩
theorem dat_step {n m : Nat} {t : List UInt8} (h : DAt n m t) (h0 : m ≠ 0) : DAt n (m / 10) (UInt8.ofNat (48 + m % 10) :: t) ∧ t.length ≤ 19 := by
 obtain ⟨h1, h2, h3⟩ := h
 have hl : t.length ≤ 19 := by
  by_cases e : t.length = 20
  ·rw [e] at h3; simp at h3; omega
  ·omega
 refine ⟨⟨?_, by simp; omega, ?_⟩, hl⟩
 ·rw [rest_step m h0] at h1; simpa using h1
 ·have e : 20 - t.length = (20 - (t.length + 1)) + 1 := by omega
  rw [e, Nat.pow_succ] at h3
  simp only [List.length_cons]
  exact Nat.div_lt_of_lt_mul (by rw [Nat.mul_comm]; exact h3)
theorem dat_end {n : Nat} {t : List UInt8} (h : DAt n 0 t) (hn : n ≠ 0) : t = Lib.decDigits n := by
 have := h.1
 rwa [rest, if_pos rfl, List.nil_append, rest, if_neg hn] at this

theorem one_more (k : Nat) (t : List UInt8) (h : k < 10) : strOfNums [48 + (k : Int)] ++ (⟨t.toArray⟩ : ByteArray) = ⟨(UInt8.ofNat (48 + k) :: t).toArray⟩ := by
 have e : (48 + (k : Int)).toNat = 48 + k := by omega
 apply ByteArray.ext
 apply Array.toList_inj.1
 simp [strOfNums, e]
theorem one_size (c : Int) : (strOfNums [c]).size = 1 := rfl
end Go.Proofs.YtcclbejpgiogaaaGreatDoor
namespace Go.Proofs.YtcclbejpgiogaaaGreatDoor
open Go.RowKit

theorem specDigits_pos (n : Nat) (w : World) (hn : 0 < n) (hm : n ≤ 9223372036854775807) :
 Calls Tryz.prog 107 #[.int .i64 n] w fun e w' => e = .returned (.string ⟨(Lib.decDigits n).toArray⟩) ∧ Below w.heap.size w w' := by
 have hcv := one_str
 have hsz := one_size
 have hne : ((n : Int) == 0) = false := by simp; omega
 have hlt : decide ((n : Int) < 0) = false := by simp
 go_enter Tryz.func107, Tryz.ntmps107
 go_wp2
 go_loopw [0, 4] (fun x s wr => ∃ (m : Nat) (t : List UInt8), m ≤ 9223372036854775807 ∧ DAt n m t ∧ x = .int .i64 m ∧ s = .string ⟨t.toArray⟩ ∧ Below w.heap.size w wr) (fun x _ _ => (intOf x).toNat)
 case atStart => exact ⟨n, [], hm, dat_start n (by omega), rfl, rfl, Below.refl _ _⟩
 case round =>
  obtain ⟨m, t, hm', hd, rfl, rfl, hb⟩ := hrel
  by_cases h0 : m = 0
  ·subst h0
   have HE := hide (dat_end hd (by omega))
   clear hd
   go_wp2
   go_ret
   have HE' := HE.out
   subst HE'
   exact ⟨rfl, hb⟩
  ·have hne' : ((m : Int) != 0) = true := by simp [h0]
   obtain ⟨hd', hl⟩ := dat_step hd h0
   have HD := hide hd'
   clear hd hd'
   have hs0 := hb.size
   have hmo := one_more (m % 10) t (by omega)
   have hbl : Below w.heap.size w (wr.alloc (.cells #[.int .u8 (48 + (m : Int) % 10)] 5)) := hb.alloc hs0 _
   go_wp2
   go_roundw
   case rel => exact ⟨m / 10, _, by omega, HD.out, by go_num, by rw [← hmo]; rfl, hbl⟩
   case measure => simp [intOf]; omega

theorem specDigits_neg (n : Nat) (w : World) (hn : 0 < n) (hm : n ≤ 9223372036854775808) :
 Calls Tryz.prog 107 #[.int .i64 (-(n : Int))] w fun e w' => e = .returned (.string ⟨(45 :: Lib.decDigits n).toArray⟩) ∧ Below w.heap.size w w' := by
 have hcv := one_str
 have hsz := one_size
 have hne : ((-(n : Int)) == 0) = false := by simp; omega
 have hlt : decide (-(n : Int) < 0) = true := by simp; omega
 go_enter Tryz.func107, Tryz.ntmps107
 go_wp2
 go_loopw [0, 4] (fun x s wr => ∃ (m : Nat) (t : List UInt8), m ≤ 9223372036854775808 ∧ DAt n m t ∧ x = .int .i64 (-(m : Int)) ∧ s = .string ⟨t.toArray⟩ ∧ Below w.heap.size w wr) (fun x _ _ => (-(intOf x)).toNat)
 case atStart => exact ⟨n, [], hm, dat_start n hm, rfl, rfl, Below.refl _ _⟩
 case round =>
  obtain ⟨m, t, hm', hd, rfl, rfl, hb⟩ := hrel
  by_cases h0 : m = 0
  ·subst h0
   have HE := hide (dat_end hd (by omega))
   have hl := hd.2.1
   clear hd
   go_wp2
   go_ret
   have HE' := HE.out
   subst HE'
   exact ⟨by apply congrArg Ending.returned; apply congrArg Value.string; apply ByteArray.ext; apply Array.toList_inj.1; simp, hb⟩
  ·have hne' : ((-(m : Int)) != 0) = true := by simp [h0]
   obtain ⟨hd', hl⟩ := dat_step hd h0
   have HD := hide hd'
   clear hd hd'
   have hs0 := hb.size
   have hmo := one_more (m % 10) t (by omega)
   have ht : (-(m : Int)).tmod 10 = -((m % 10 : Nat) : Int) := by rw [Int.neg_tmod]; rfl
   have hq : (-(m : Int)).tdiv 10 = -((m / 10 : Nat) : Int) := by rw [Int.neg_tdiv]; rfl
   by_cases hz : m % 10 = 0
   ·have hbl : Below w.heap.size w (wr.alloc (.cells #[.int .u8 48] 5)) := hb.alloc hs0 _
    go_wp2
    go_roundw
    case rel => exact ⟨m / 10, _, by omega, HD.out, by go_num, by rw [← hmo, hz]; rfl, hbl⟩
    case measure => simp [intOf]; omega
   ·have hbl : Below w.heap.size w (wr.alloc (.cells #[.int .u8 (48 + (m : Int) % 10)] 5)) := hb.alloc hs0 _
    go_wp2
    go_roundw
    case rel => exact ⟨m / 10, _, by omega, HD.out, by go_num, by rw [← hmo]; rfl, hbl⟩
    case measure => simp [intOf]; omega

theorem specDigits_zero (w : World) :
 Calls Tryz.prog 107 #[.int .i64 0] w fun e w' => e = .returned (.string ⟨(Lib.decDigits 0).toArray⟩) ∧ Below w.heap.size w w' := by
 go_enter Tryz.func107, Tryz.ntmps107
 go_wp2
 go_ret
 exact ⟨by rw [Lib.decDigits]; rfl, Below.refl _ _⟩

theorem specDigits_any (n : Int) (w : World) (h0 : -9223372036854775808 ≤ n) (h1 : n ≤ 9223372036854775807) :
 Calls Tryz.prog 107 #[.int .i64 n] w fun e w' => e = .returned (.string ⟨(Lib.itoa n).toArray⟩) ∧ Below w.heap.size w w' := by
 unfold Lib.itoa
 by_cases hn : n < 0
 ·obtain ⟨m, rfl⟩ : ∃ m : Nat, n = -(m : Int) := ⟨n.natAbs, by omega⟩
  rw [if_pos hn, show (-(m : Int)).natAbs = m from by omega]
  exact specDigits_neg m w (by omega) (by omega)
 ·obtain ⟨m, rfl⟩ := Int.eq_ofNat_of_zero_le (Int.not_lt.1 hn)
  rw [if_neg hn, Int.toNat_natCast]
  by_cases hm : m = 0
  ·subst hm; exact specDigits_zero w
  ·exact specDigits_pos m w (by omega) (by omega)
end Go.Proofs.YtcclbejpgiogaaaGreatDoor
namespace Go.Proofs
open Go.Shelf
def Tryz.laysM171_ren : Go.Shelf.Ren := ⟨fun | 171 => 168 | 243 => 175 | 246 => 178 | 283 => 181 | 284 => 182 | 285 => 183 | 286 => 184 | 129 => 186 | 317 => 185 | 318 => 187 | 319 => 188 | 320 => 189 | 337 => 190 | 338 => 191 | n => n, fun | 3 => 3 | 9 => 9 | 2 => 2 | 4 => 4 | 171 => 235 | 0 => 0 | 53 => 224 | 37 => 22 | 5 => 5 | 173 => 238 | 212 => 241 | 51 => 212 | 20 => 20 | 213 => 242 | 46 => 148 | 232 => 245 | 233 => 246 | n => n, fun | 17 => 5 | 18 => 6 | 19 => 7 | n => n⟩
theorem Tryz.laysM171 : Go.Proofs.LaysM.n171 Tryz.prog Tryz.laysM171_ren := {
 mixed := by kernel_rfl
 f129 := Tryz.func186.trans (congrArg some (by kernel_rfl))
 f171 := Tryz.func168.trans (congrArg some (by kernel_rfl))
 f243 := Tryz.func175.trans (congrArg some (by kernel_rfl))
 f246 := Tryz.func178.trans (congrArg some (by kernel_rfl))
 f283 := Tryz.func181.trans (congrArg some (by kernel_rfl))
 f284 := Tryz.func182.trans (congrArg some (by kernel_rfl))
 f285 := Tryz.func183.trans (congrArg some (by kernel_rfl))
 f286 := Tryz.func184.trans (congrArg some (by kernel_rfl))
 f317 := Tryz.func185.trans (congrArg some (by kernel_rfl))
 f318 := Tryz.func187.trans (congrArg some (by kernel_rfl))
 f319 := Tryz.func188.trans (congrArg some (by kernel_rfl))
 f320 := Tryz.func189.trans (congrArg some (by kernel_rfl))
 f337 := Tryz.func190.trans (congrArg some (by kernel_rfl))
 f338 := Tryz.func191.trans (congrArg some (by kernel_rfl))
 t0 := Tryz.underlying0
 a0 := Tryz.isAgg0
 z0 := Tryz.sizeOf0
 v0 := Tryz.zeroValue0
 t2 := Tryz.underlying2
 a2 := Tryz.isAgg2
 z2 := Tryz.sizeOf2
 v2 := Tryz.zeroValue2
 t3 := Tryz.underlying3
 a3 := Tryz.isAgg3
 z3 := Tryz.sizeOf3
 v3 := Tryz.zeroValue3
 t4 := Tryz.underlying4
 a4 := Tryz.isAgg4
 z4 := Tryz.sizeOf4
 v4 := Tryz.zeroValue4
 t5 := Tryz.underlying5
 a5 := Tryz.isAgg5
 z5 := Tryz.sizeOf5
 v5 := Tryz.zeroValue5
 t9 := Tryz.underlying9
 a9 := Tryz.isAgg9
 z9 := Tryz.sizeOf9
 v9 := Tryz.zeroValue9
 t20 := Tryz.underlying20
 a20 := Tryz.isAgg20
 z20 := Tryz.sizeOf20
 v20 := Tryz.zeroValue20
 t37 := Tryz.underlying22
 a37 := Tryz.isAgg22
 z37 := Tryz.sizeOf22
 v37 := Tryz.zeroValue22
 t46 := Tryz.underlying148
 a46 := Tryz.isAgg148
 z46 := Tryz.sizeOf148
 v46 := Tryz.zeroValue148
 t51 := Tryz.underlying212
 a51 := Tryz.isAgg212
 z51 := Tryz.sizeOf212
 v51 := Tryz.zeroValue212
 t53 := Tryz.underlying224
 a53 := Tryz.isAgg224
 z53 := Tryz.sizeOf224
 v53 := Tryz.zeroValue224
 t171 := Tryz.underlying235
 a171 := Tryz.isAgg235
 z171 := Tryz.sizeOf235
 v171 := Tryz.zeroValue235
 t173 := Tryz.underlying238
 a173 := Tryz.isAgg238
 z173 := Tryz.sizeOf238
 v173 := Tryz.zeroValue238
 t212 := Tryz.underlying241
 a212 := Tryz.isAgg241
 z212 := Tryz.sizeOf241
 v212 := Tryz.zeroValue241
 t213 := Tryz.underlying242
 a213 := Tryz.isAgg242
 z213 := Tryz.sizeOf242
 t232 := Tryz.underlying245
 a232 := Tryz.isAgg245
 z232 := Tryz.sizeOf245
 v232 := Tryz.zeroValue245
 t233 := Tryz.underlying246
 a233 := Tryz.isAgg246
 z233 := Tryz.sizeOf246
 v233 := Tryz.zeroValue246
 g17 := by kernel_rfl
 g18 := by kernel_rfl
 g19 := by kernel_rfl
 i0 := by kernel_rfl
 i2 := by kernel_rfl
 i3 := by kernel_rfl
 i4 := by kernel_rfl
 i5 := by kernel_rfl
 i9 := by kernel_rfl
 i20 := by kernel_rfl
 i37 := by kernel_rfl
 i46 := by kernel_rfl
 i51 := by kernel_rfl
 i53 := by kernel_rfl
 i171 := by kernel_rfl
 i173 := by kernel_rfl
 i212 := by kernel_rfl
 i232 := by kernel_rfl
 i233 := by kernel_rfl
 m17 := by kernel_rfl
 m18 := by kernel_rfl
 m19 := by kernel_rfl }
open Go.RowKit Go.Sort Go.Lib in
theorem Tryz.strconv_Itoa (n : Int) (h0 : -9223372036854775808 ≤ n) (h1 : n ≤ 9223372036854775807) (w : World) (htab : Lib.TabIs Tryz.prog w "internal/strconv.uint64pow10" .u64 Lib.pow10Tab) :
 Calls Tryz.prog 168 #[.int .i64 n] w fun e w' => e = .returned (.string ⟨(Lib.itoa n).toArray⟩) ∧ ∃ k os, w' = grow (w.drewN k) os := Any.strconv_Itoa Tryz.laysM171 n h0 h1 w htab
end Go.Proofs
namespace Go.Proofs.YtcclbejpgiogaaaGreatDoor
open Go.RowKit

theorem grow_below (w : World) (k : Nat) (os : Array Obj) : Below w.heap.size w (Sort.grow (w.drewN k) os) :=
 ⟨rfl, rfl, rfl, by simp [Sort.grow], fun i hi => by simp only [Sort.grow, World.heap_drewN]; rw [Array.getElem?_append_left hi]⟩

abbrev Pow (w : World) : Prop := Lib.TabIs Tryz.prog w "internal/strconv.uint64pow10" .u64 Lib.pow10Tab
theorem gPow : Tryz.prog.globalNamed "internal/strconv.uint64pow10" = some 5 := by kernel_rfl
theorem Pow.below {w w' : World} (h : Pow w) (hb : Below w.heap.size w w') : Pow w' := by
 have hlt : 5 < w.heap.size := cell_lt (h.cell gPow 0 (by decide))
 exact var?_below hb gPow hlt h

theorem implDigits_any (n : Int) (w : World) (h0 : -9223372036854775808 ≤ n) (h1 : n ≤ 9223372036854775807) (ht : Pow w) :
 Calls Tryz.prog 160 #[.int .i64 n] w fun e w' => e = .returned (.string ⟨(Lib.itoa n).toArray⟩) ∧ Below w.heap.size w w' := by
 go_enter Tryz.func160, Tryz.ntmps160
 go_wp2_with fail
 refine (Tryz.strconv_Itoa n h0 h1 _ ht).mono ?_
 rintro e w' ⟨rfl, k, os, rfl⟩
 go_wp2
 go_ret
 exact ⟨rfl, grow_below _ _ _⟩
end Go.Proofs.YtcclbejpgiogaaaGreatDoor
namespace Go.Proofs
open Go.Shelf
def Tryz.lays172_ren : Go.Shelf.Ren := ⟨fun | 172 => 159 | 244 => 166 | 245 => 167 | 247 => 170 | 279 => 171 | 280 => 172 | 281 => 173 | 282 => 174 | 287 => 176 | 316 => 169 | 171 => 168 | 205 => 177 | 321 => 179 | 322 => 180 | 243 => 175 | 246 => 178 | 283 => 181 | 284 => 182 | 285 => 183 | 286 => 184 | 129 => 186 | 317 => 185 | 318 => 187 | 319 => 188 | 320 => 189 | 337 => 190 | 338 => 191 | n => n, fun | 9 => 9 | 3 => 3 | 75 => 60 | 76 => 207 | 4 => 4 | 5 => 5 | 167 => 217 | 37 => 22 | 0 => 0 | 85 => 218 | 2 => 2 | 168 => 220 | 53 => 224 | 175 => 225 | 46 => 148 | 210 => 228 | 127 => 223 | 145 => 234 | 143 => 232 | 21 => 21 | 171 => 235 | 173 => 238 | 212 => 241 | 51 => 212 | 20 => 20 | 213 => 242 | 232 => 245 | 233 => 246 | 80 => 99 | n => n, fun | 15 => 3 | 16 => 4 | 17 => 5 | 18 => 6 | 19 => 7 | n => n⟩
theorem Tryz.lays172 : Go.Proofs.Lays.n172 Tryz.prog Tryz.lays172_ren := {
 mixed := by kernel_rfl
 f129 := Tryz.func186.trans (congrArg some (by kernel_rfl))
 f171 := Tryz.func168.trans (congrArg some (by kernel_rfl))
 f172 := Tryz.func159.trans (congrArg some (by kernel_rfl))
 f205 := Tryz.func177.trans (congrArg some (by kernel_rfl))
 f243 := Tryz.func175.trans (congrArg some (by kernel_rfl))
 f244 := Tryz.func166.trans (congrArg some (by kernel_rfl))
 f245 := Tryz.func167.trans (congrArg some (by kernel_rfl))
 f246 := Tryz.func178.trans (congrArg some (by kernel_rfl))
 f247 := Tryz.func170.trans (congrArg some (by kernel_rfl))
 f279 := Tryz.func171.trans (congrArg some (by kernel_rfl))
 f280 := Tryz.func172.trans (congrArg some (by kernel_rfl))
 f281 := Tryz.func173.trans (congrArg some (by kernel_rfl))
 f282 := Tryz.func174.trans (congrArg some (by kernel_rfl))
 f283 := Tryz.func181.trans (congrArg some (by kernel_rfl))
 f284 := Tryz.func182.trans (congrArg some (by kernel_rfl))
 f285 := Tryz.func183.trans (congrArg some (by kernel_rfl))
 f286 := Tryz.func184.trans (congrArg some (by kernel_rfl))
 f287 := Tryz.func176.trans (congrArg some (by kernel_rfl))
 f316 := Tryz.func169.trans (congrArg some (by kernel_rfl))
 f317 := Tryz.func185.trans (congrArg some (by kernel_rfl))
 f318 := Tryz.func187.trans (congrArg some (by kernel_rfl))
 f319 := Tryz.func188.trans (congrArg some (by kernel_rfl))
 f320 := Tryz.func189.trans (congrArg some (by kernel_rfl))
 f321 := Tryz.func179.trans (congrArg some (by kernel_rfl))
 f322 := Tryz.func180.trans (congrArg some (by kernel_rfl))
 f337 := Tryz.func190.trans (congrArg some (by kernel_rfl))
 f338 := Tryz.func191.trans (congrArg some (by kernel_rfl))
 t0 := Tryz.underlying0
 a0 := Tryz.isAgg0
 z0 := Tryz.sizeOf0
 v0 := Tryz.zeroValue0
 t2 := Tryz.underlying2
 a2 := Tryz.isAgg2
 z2 := Tryz.sizeOf2
 v2 := Tryz.zeroValue2
 t3 := Tryz.underlying3
 a3 := Tryz.isAgg3
 z3 := Tryz.sizeOf3
 v3 := Tryz.zeroValue3
 t4 := Tryz.underlying4
 a4 := Tryz.isAgg4
 z4 := Tryz.sizeOf4
 v4 := Tryz.zeroValue4
 t5 := Tryz.underlying5
 a5 := Tryz.isAgg5
 z5 := Tryz.sizeOf5
 v5 := Tryz.zeroValue5
 t9 := Tryz.underlying9
 a9 := Tryz.isAgg9
 z9 := Tryz.sizeOf9
 v9 := Tryz.zeroValue9
 t20 := Tryz.underlying20
 a20 := Tryz.isAgg20
 z20 := Tryz.sizeOf20
 v20 := Tryz.zeroValue20
 t21 := Tryz.underlying21
 a21 := Tryz.isAgg21
 z21 := Tryz.sizeOf21
 v21 := Tryz.zeroValue21
 t37 := Tryz.underlying22
 a37 := Tryz.isAgg22
 z37 := Tryz.sizeOf22
 v37 := Tryz.zeroValue22
 t46 := Tryz.underlying148
 a46 := Tryz.isAgg148
 z46 := Tryz.sizeOf148
 v46 := Tryz.zeroValue148
 t51 := Tryz.underlying212
 a51 := Tryz.isAgg212
 z51 := Tryz.sizeOf212
 v51 := Tryz.zeroValue212
 t53 := Tryz.underlying224
 a53 := Tryz.isAgg224
 z53 := Tryz.sizeOf224
 v53 := Tryz.zeroValue224
 t75 := Tryz.underlying60
 a75 := Tryz.isAgg60
 z75 := Tryz.sizeOf60
 v75 := Tryz.zeroValue60
 t76 := Tryz.underlying207
 a76 := Tryz.isAgg207
 z76 := Tryz.sizeOf207
 v76 := Tryz.zeroValue207
 t85 := Tryz.underlying218
 a85 := Tryz.isAgg218
 z85 := Tryz.sizeOf218
 v85 := Tryz.zeroValue218
 t127 := Tryz.underlying223
 a127 := Tryz.isAgg223
 z127 := Tryz.sizeOf223
 v127 := Tryz.zeroValue223
 t143 := Tryz.underlying232
 a143 := Tryz.isAgg232
 z143 := Tryz.sizeOf232
 v143 := Tryz.zeroValue232
 t145 := Tryz.underlying234
 a145 := Tryz.isAgg234
 z145 := Tryz.sizeOf234
 v145 := Tryz.zeroValue234
 t167 := Tryz.underlying217
 a167 := Tryz.isAgg217
 z167 := Tryz.sizeOf217
 v167 := Tryz.zeroValue217
 t168 := Tryz.underlying220
 a168 := Tryz.isAgg220
 z168 := Tryz.sizeOf220
 v168 := Tryz.zeroValue220
 t171 := Tryz.underlying235
 a171 := Tryz.isAgg235
 z171 := Tryz.sizeOf235
 v171 := Tryz.zeroValue235
 t173 := Tryz.underlying238
 a173 := Tryz.isAgg238
 z173 := Tryz.sizeOf238
 v173 := Tryz.zeroValue238
 t175 := Tryz.underlying225
 a175 := Tryz.isAgg225
 z175 := Tryz.sizeOf225
 v175 := Tryz.zeroValue225
 t210 := Tryz.underlying228
 a210 := Tryz.isAgg228
 z210 := Tryz.sizeOf228
 v210 := Tryz.zeroValue228
 t212 := Tryz.underlying241
 a212 := Tryz.isAgg241
 z212 := Tryz.sizeOf241
 v212 := Tryz.zeroValue241
 t213 := Tryz.underlying242
 a213 := Tryz.isAgg242
 z213 := Tryz.sizeOf242
 t232 := Tryz.underlying245
 a232 := Tryz.isAgg245
 z232 := Tryz.sizeOf245
 v232 := Tryz.zeroValue245
 t233 := Tryz.underlying246
 a233 := Tryz.isAgg246
 z233 := Tryz.sizeOf246
 v233 := Tryz.zeroValue246
 g15 := by kernel_rfl
 g16 := by kernel_rfl
 g17 := by kernel_rfl
 g18 := by kernel_rfl
 g19 := by kernel_rfl }
open Go.RowKit in
theorem Tryz.strconv_Atoi (s : ByteArray) (n : Int) (hl : s.size ≤ 18) (h : Lib.atoi s.data.toList = some n) (w : World) :
 Calls Tryz.prog 159 #[.string s] w fun e w' => e = .returned (.tuple #[.int .i64 n, .nilIface]) ∧ ∃ t, w' = Lib.bytesWorld w 5 t := Any.strconv_Atoi Tryz.lays172 s n hl h w
def Tryz.laysC172_ren : Go.Shelf.Ren := ⟨fun | 172 => 159 | 244 => 166 | 245 => 167 | 247 => 170 | 279 => 171 | 280 => 172 | 281 => 173 | 282 => 174 | 287 => 176 | 316 => 169 | 171 => 168 | 205 => 177 | 321 => 179 | 322 => 180 | 243 => 175 | 246 => 178 | 283 => 181 | 284 => 182 | 285 => 183 | 286 => 184 | 129 => 186 | 317 => 185 | 318 => 187 | 319 => 188 | 320 => 189 | 337 => 190 | 338 => 191 | n => n, fun | 9 => 9 | 3 => 3 | 75 => 60 | 76 => 207 | 4 => 4 | 5 => 5 | 167 => 217 | 37 => 22 | 0 => 0 | 85 => 218 | 2 => 2 | 168 => 220 | 53 => 224 | 175 => 225 | 46 => 148 | 210 => 228 | 127 => 223 | 145 => 234 | 143 => 232 | 21 => 21 | 171 => 235 | 173 => 238 | 212 => 241 | 51 => 212 | 20 => 20 | 213 => 242 | 232 => 245 | 233 => 246 | 80 => 99 | n => n, fun | 15 => 3 | 16 => 4 | 17 => 5 | 18 => 6 | 19 => 7 | n => n⟩
theorem Tryz.laysC172 : Go.Proofs.LaysC.n172 Tryz.prog Tryz.laysC172_ren := {
 mixed := by kernel_rfl
 f129 := Tryz.func186.trans (congrArg some (by kernel_rfl))
 f171 := Tryz.func168.trans (congrArg some (by kernel_rfl))
 f172 := Tryz.func159.trans (congrArg some (by kernel_rfl))
 f205 := Tryz.func177.trans (congrArg some (by kernel_rfl))
 f243 := Tryz.func175.trans (congrArg some (by kernel_rfl))
 f244 := Tryz.func166.trans (congrArg some (by kernel_rfl))
 f245 := Tryz.func167.trans (congrArg some (by kernel_rfl))
 f246 := Tryz.func178.trans (congrArg some (by kernel_rfl))
 f247 := Tryz.func170.trans (congrArg some (by kernel_rfl))
 f279 := Tryz.func171.trans (congrArg some (by kernel_rfl))
 f280 := Tryz.func172.trans (congrArg some (by kernel_rfl))
 f281 := Tryz.func173.trans (congrArg some (by kernel_rfl))
 f282 := Tryz.func174.trans (congrArg some (by kernel_rfl))
 f283 := Tryz.func181.trans (congrArg some (by kernel_rfl))
 f284 := Tryz.func182.trans (congrArg some (by kernel_rfl))
 f285 := Tryz.func183.trans (congrArg some (by kernel_rfl))
 f286 := Tryz.func184.trans (congrArg some (by kernel_rfl))
 f287 := Tryz.func176.trans (congrArg some (by kernel_rfl))
 f316 := Tryz.func169.trans (congrArg some (by kernel_rfl))
 f317 := Tryz.func185.trans (congrArg some (by kernel_rfl))
 f318 := Tryz.func187.trans (congrArg some (by kernel_rfl))
 f319 := Tryz.func188.trans (congrArg some (by kernel_rfl))
 f320 := Tryz.func189.trans (congrArg some (by kernel_rfl))
 f321 := Tryz.func179.trans (congrArg some (by kernel_rfl))
 f322 := Tryz.func180.trans (congrArg some (by kernel_rfl))
 f337 := Tryz.func190.trans (congrArg some (by kernel_rfl))
 f338 := Tryz.func191.trans (congrArg some (by kernel_rfl))
 t0 := Tryz.underlying0
 a0 := Tryz.isAgg0
 z0 := Tryz.sizeOf0
 v0 := Tryz.zeroValue0
 t2 := Tryz.underlying2
 a2 := Tryz.isAgg2
 z2 := Tryz.sizeOf2
 v2 := Tryz.zeroValue2
 t3 := Tryz.underlying3
 a3 := Tryz.isAgg3
 z3 := Tryz.sizeOf3
 v3 := Tryz.zeroValue3
 t4 := Tryz.underlying4
 a4 := Tryz.isAgg4
 z4 := Tryz.sizeOf4
 v4 := Tryz.zeroValue4
 t5 := Tryz.underlying5
 a5 := Tryz.isAgg5
 z5 := Tryz.sizeOf5
 v5 := Tryz.zeroValue5
 t9 := Tryz.underlying9
 a9 := Tryz.isAgg9
 z9 := Tryz.sizeOf9
 v9 := Tryz.zeroValue9
 t20 := Tryz.underlying20
 a20 := Tryz.isAgg20
 z20 := Tryz.sizeOf20
 v20 := Tryz.zeroValue20
 t21 := Tryz.underlying21
 a21 := Tryz.isAgg21
 z21 := Tryz.sizeOf21
 v21 := Tryz.zeroValue21
 t37 := Tryz.underlying22
 a37 := Tryz.isAgg22
 z37 := Tryz.sizeOf22
 v37 := Tryz.zeroValue22
 t46 := Tryz.underlying148
 a46 := Tryz.isAgg148
 z46 := Tryz.sizeOf148
 v46 := Tryz.zeroValue148
 t51 := Tryz.underlying212
 a51 := Tryz.isAgg212
 z51 := Tryz.sizeOf212
 v51 := Tryz.zeroValue212
 t53 := Tryz.underlying224
 a53 := Tryz.isAgg224
 z53 := Tryz.sizeOf224
 v53 := Tryz.zeroValue224
 t75 := Tryz.underlying60
 a75 := Tryz.isAgg60
 z75 := Tryz.sizeOf60
 v75 := Tryz.zeroValue60
 t76 := Tryz.underlying207
 a76 := Tryz.isAgg207
 z76 := Tryz.sizeOf207
 v76 := Tryz.zeroValue207
 t85 := Tryz.underlying218
 a85 := Tryz.isAgg218
 z85 := Tryz.sizeOf218
 v85 := Tryz.zeroValue218
 t127 := Tryz.underlying223
 a127 := Tryz.isAgg223
 z127 := Tryz.sizeOf223
 v127 := Tryz.zeroValue223
 t143 := Tryz.underlying232
 a143 := Tryz.isAgg232
 z143 := Tryz.sizeOf232
 v143 := Tryz.zeroValue232
 t145 := Tryz.underlying234
 a145 := Tryz.isAgg234
 z145 := Tryz.sizeOf234
 v145 := Tryz.zeroValue234
 t167 := Tryz.underlying217
 a167 := Tryz.isAgg217
 z167 := Tryz.sizeOf217
 v167 := Tryz.zeroValue217
 t168 := Tryz.underlying220
 a168 := Tryz.isAgg220
 z168 := Tryz.sizeOf220
 v168 := Tryz.zeroValue220
 t171 := Tryz.underlying235
 a171 := Tryz.isAgg235
 z171 := Tryz.sizeOf235
 v171 := Tryz.zeroValue235
 t173 := Tryz.underlying238
 a173 := Tryz.isAgg238
 z173 := Tryz.sizeOf238
 v173 := Tryz.zeroValue238
 t175 := Tryz.underlying225
 a175 := Tryz.isAgg225
 z175 := Tryz.sizeOf225
 v175 := Tryz.zeroValue225
 t210 := Tryz.underlying228
 a210 := Tryz.isAgg228
 z210 := Tryz.sizeOf228
 v210 := Tryz.zeroValue228
 t212 := Tryz.underlying241
 a212 := Tryz.isAgg241
 z212 := Tryz.sizeOf241
 v212 := Tryz.zeroValue241
 t213 := Tryz.underlying242
 a213 := Tryz.isAgg242
 z213 := Tryz.sizeOf242
 t232 := Tryz.underlying245
 a232 := Tryz.isAgg245
 z232 := Tryz.sizeOf245
 v232 := Tryz.zeroValue245
 t233 := Tryz.underlying246
 a233 := Tryz.isAgg246
 z233 := Tryz.sizeOf246
 v233 := Tryz.zeroValue246
 g15 := by kernel_rfl
 g16 := by kernel_rfl
 g17 := by kernel_rfl
 g18 := by kernel_rfl
 g19 := by kernel_rfl
 t80 := Tryz.underlying99
 a80 := Tryz.isAgg99
 z80 := Tryz.sizeOf99
 v80 := Tryz.zeroValue99
 i0 := by kernel_rfl
 i2 := by kernel_rfl
 i3 := by kernel_rfl
 i4 := by kernel_rfl
 i5 := by kernel_rfl
 i9 := by kernel_rfl
 i20 := by kernel_rfl
 i21 := by kernel_rfl
 i37 := by kernel_rfl
 i46 := by kernel_rfl
 i51 := by kernel_rfl
 i53 := by kernel_rfl
 i75 := by kernel_rfl
 i76 := by kernel_rfl
 i80 := by kernel_rfl
 i85 := by kernel_rfl
 i127 := by kernel_rfl
 i143 := by kernel_rfl
 i145 := by kernel_rfl
 i167 := by kernel_rfl
 i168 := by kernel_rfl
 i171 := by kernel_rfl
 i173 := by kernel_rfl
 i175 := by kernel_rfl
 i210 := by kernel_rfl
 i212 := by kernel_rfl
 i232 := by kernel_rfl
 i233 := by kernel_rfl
 m15 := by kernel_rfl
 m16 := by kernel_rfl
 m17 := by kernel_rfl
 m18 := by kernel_rfl
 m19 := by kernel_rfl
 c0 := by kernel_rfl
 c2 := by kernel_rfl
 c3 := by kernel_rfl
 c4 := by kernel_rfl
 c5 := by kernel_rfl
 c9 := by kernel_rfl
 c20 := by kernel_rfl
 c21 := by kernel_rfl
 c37 := by kernel_rfl
 c46 := by kernel_rfl
 c51 := by kernel_rfl
 c53 := by kernel_rfl
 c75 := by kernel_rfl
 c76 := by kernel_rfl
 c80 := by kernel_rfl
 c85 := by kernel_rfl
 c127 := by kernel_rfl
 c143 := by kernel_rfl
 c145 := by kernel_rfl
 c167 := by kernel_rfl
 c168 := by kernel_rfl
 c171 := by kernel_rfl
 c173 := by kernel_rfl
 c175 := by kernel_rfl
 c210 := by kernel_rfl
 c212 := by kernel_rfl
 c213 := by kernel_rfl
 c232 := by kernel_rfl
 c233 := by kernel_rfl }
open Go.RowKit in
theorem Tryz.strconv_Atoi_ok (s : ByteArray) (hmax : s.size ≤ 9223372036854775806) (v : Int) (h : Lib.atoiAll s.data.toList = .ok v) (w : World) :
 Calls Tryz.prog 159 #[.string s] w fun e w' => e = .returned (.tuple #[.int .i64 v, .nilIface]) ∧ (w' = w ∨ ∃ t, w' = Lib.bytesWorld w 5 t) := Any.strconv_Atoi_ok Tryz.laysC172 s hmax v h w
end Go.Proofs
namespace Go.Proofs.YtcclbejpgiogaaaGreatDoor
open Go.RowKit

theorem bytes_below (w : World) (e : TypeId) (t : ByteArray) : Below w.heap.size w (Lib.bytesWorld w e t) := Lib.bytesWorld_below w e t

theorem atoi_num (s : ByteArray) (n : Nat) (w : World) (h : Hid (numOf s.data.toList = some n)) :
 Calls Tryz.prog 159 #[.string s] w fun e w' => e = .returned (.tuple #[.int .i64 n, .nilIface]) ∧ Below w.heap.size w w' := by
 obtain ⟨h1, h2⟩ := numOf_some h.out
 have hl := numOf_len h.out
 have hs : s.size ≤ 18 := by simp at hl; omega
 refine (Tryz.strconv_Atoi s (n : Int) hs (by rw [← h2]; exact atoi_digits n) w).mono ?_
 rintro e w' ⟨rfl, t, rfl⟩
 exact ⟨rfl, bytes_below _ _ _⟩

def AtoiEnd (e : Ending) : Prop := (∃ v : Int, e = .returned (.tuple #[.int .i64 v, .nilIface])) ∨ ∃ (v : Int) (t : TypeId) (x : Value), e = .returned (.tuple #[.int .i64 v, .iface t x])
theorem atoi_any (s : ByteArray) (hs : s.size ≤ 33554432) (w : World) (u1 u2 : TypeId) (p1 p2 : Value) (hy : w.cell? ⟨3, 0, none⟩ = some (.iface u1 p1)) (hr : w.cell? ⟨4, 0, none⟩ = some (.iface u2 p2)) :
 Calls Tryz.prog 159 #[.string s] w fun e w' => AtoiEnd e ∧ Below w.heap.size w w' := by
 cases h : Lib.atoiAll s.data.toList
 ·refine (Tryz.strconv_Atoi_ok s (by omega) _ h w).mono ?_
  rintro e w' ⟨rfl, h1⟩
  refine ⟨.inl ⟨_, rfl⟩, ?_⟩
  ·rcases h1 with rfl | ⟨t, rfl⟩
   ·exact Below.refl _ _
   ·exact bytes_below _ _ _
 ·refine Calls.mono (Any.strconv_Atoi_syntax Tryz.laysC172 s (by omega) h _ w hy (.inr ⟨_, _, rfl⟩)) ?_
  rintro e w' ⟨N, rfl, _, _, hb⟩
  exact ⟨.inr ⟨_, _, _, rfl⟩, hb⟩
 ·refine Calls.mono (Any.strconv_Atoi_range Tryz.laysC172 s (by omega) h _ w hr (.inr ⟨_, _, rfl⟩)) ?_
  rintro e w' ⟨N, rfl, _, _, hb⟩
  exact ⟨.inr ⟨_, _, _, rfl⟩, hb⟩
end Go.Proofs.YtcclbejpgiogaaaGreatDoor
