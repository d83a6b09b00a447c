/- Texts that belong together: ToTx, OneStr, DigPlain, SpecDigits, ShelfItoa, Digits, ShelfAtoi. -/
import Derived.Test.YtgfboghieejbkaaGreatDoorWSAA
import Derived.Laws.BytesArg
import Derived.WalkKit
import Derived.Lib.ItoaNum
import Derived.Shelf.Strings.Builder1
import Derived.Shelf.Small.Wraps
import Derived.Shelf.Strconv.Atoi
import Derived.Shelf.Strconv.Itoa0
import Derived.Shelf.Strconv.Itoa1
import Derived.Shelf.LaysM
import Derived.Shelf.Strconv.Itoa2
import Derived.Shelf.Strconv.Itoa3
import Derived.Shelf.Strconv.AtoiErrFast
import Derived.Shelf.Strconv.ParseIntEmpty
import Derived.Shelf.Strconv.AtoiFail
import Derived.Shelf.Strconv.Clone
import Derived.Shelf.Strconv.SyntaxError
import Derived.Shelf.LaysC
import Derived.Shelf.Strconv.ToError
import Derived.Shelf.Strconv.Lower
import Derived.Shelf.Strconv.ParseUint10
import Derived.Shelf.Strconv.ParseUint10Empty
import Derived.Shelf.Strconv.ParseUint10Any
import Derived.Shelf.Strconv.ParseInt10
import Derived.Shelf.Strconv.AtoiLong
import Derived.Shelf.Strconv.AtoiInnerAll
import Derived.Shelf.Strconv.RangeError
import Derived.Shelf.Strconv.ToErrorRange
import Derived.Shelf.Strconv.AtoiAll
import Derived.Shelf.Strconv.ErrVarAll
import Derived.Shelf.Strings.Search1
import Derived.Shelf.Sort.Plain
import Derived.Shelf.Strings.LastIndex
import Derived.Shelf.Strings.Prefix
import Derived.Shelf.Slices.In.SortNone
import Derived.Test.YtgfboghieejbkaaGreatDoorProg
import Derived.Lib.LaidTab
import Derived.Sort.Grow
namespace Go.Proofs.YtgfboghieejbkaaGreatDoor
open Go.RowKit
set_option linter.unusedSectionVars false
variable [∀ (a b c d : Int), Decidable (Ok4 a b c d)]

def Cells4 (w : World) (g : Nat) (a b c d : Int) : Prop := w.cell? ⟨g, 0, none⟩ = some (.int .i64 a) ∧ w.cell? ⟨g, 1, none⟩ = some (.int .i64 b) ∧ w.cell? ⟨g, 2, none⟩ = some (.int .i64 c) ∧ w.cell? ⟨g, 3, none⟩ = some (.int .i64 d)
theorem cells4_new (w : World) (a b c d : Int) (t : TypeId) : Cells4 (w.alloc (.cells #[.int .i64 a, .int .i64 b, .int .i64 c, .int .i64 d] t)) w.heap.size a b c d := by
 refine ⟨?_, ?_, ?_, ?_⟩ <;> simp
theorem Cells4.below {w w' : World} {g B : Nat} {a b c d : Int} (h : Cells4 w g a b c d) (hb : Below B w w') (hg : g < B) : Cells4 w' g a b c d :=
 ⟨(hb.cell (p := ⟨g, 0, none⟩) hg).trans h.1, (hb.cell (p := ⟨g, 1, none⟩) hg).trans h.2.1, (hb.cell (p := ⟨g, 2, none⟩) hg).trans h.2.2.1, (hb.cell (p := ⟨g, 3, none⟩) hg).trans h.2.2.2⟩
end Go.Proofs.YtgfboghieejbkaaGreatDoor
namespace Go.Proofs.YtgfboghieejbkaaGreatDoor
open Go.RowKit

theorem one_str (w : World) (c : Int) : (convert 22 9 (.slice (some ⟨w.heap.size, 0, none⟩) 1 1)).run Tryz.prog (w.alloc (.cells #[.int .u8 c] 5)) = .ok (.string (strOfNums [c])) (w.alloc (.cells #[.int .u8 c] 5)) := by
 refine run_convert_bytes_arg (P := Tryz.prog) _ 22 5 Tryz.underlying22 Tryz.underlying5 w.heap.size 0 1 1 [c] rfl (fun i hi => ?_) 9 Tryz.underlying9
 obtain rfl : i = 0 := by omega
 simp
end Go.Proofs.YtgfboghieejbkaaGreatDoor
namespace Go.Proofs.YtgfboghieejbkaaGreatDoor

def rest (m : Nat) : List UInt8 := if m = 0 then [] else Lib.decDigits m
theorem rest_step (m : Nat) (h : m ≠ 0) : rest m = rest (m / 10) ++ [UInt8.ofNat (48 + m % 10)] := by
 by_cases h10 : m < 10
 ·have e : m / 10 = 0 := by omega
  rw [rest, if_neg h, Lib.decDigits, dif_pos h10, e, rest, if_pos rfl, Nat.mod_eq_of_lt h10]; rfl
 ·have e : m / 10 ≠ 0 := by omega
  rw [rest, if_neg h, Lib.decDigits, dif_neg h10, rest, if_neg e]
def DAt (n m : Nat) (t : List UInt8) : Prop := rest m ++ t = rest n ∧ t.length ≤ 20 ∧ m < 10 ^ (20 - t.length)
theorem dat_start (n : Nat) (h : n ≤ 9223372036854775808) : DAt n n [] := ⟨by simp, by simp, by simp; omega⟩
theorem dat_step {n m : Nat} {t : List UInt8} (h : DAt n m t) (h0 : m ≠ 0) : DAt n (m / 10) (UInt8.ofNat (48 + m % 10) :: t) ∧ t.length ≤ 19 := by
 obtain ⟨h1, h2, h3⟩ := h
 have hl : t.length ≤ 19 := by
  by_cases e : t.length = 20
  ·rw [e] at h3; simp at h3; omega
  ·omega
 refine ⟨⟨?_, by simp; omega, ?_⟩, hl⟩
 ·rw [rest_step m h0] at h1; simpa using h1
 ·have e : 20 - t.length = (20 - (t.length + 1)) + 1 := by omega
  rw [e, Nat.pow_succ] at h3
  simp only [List.length_cons]
  exact Nat.div_lt_of_lt_mul (by rw [Nat.mul_comm]; exact h3)
theorem dat_end {n : Nat} {t : List UInt8} (h : DAt n 0 t) (hn : n ≠ 0) : t = Lib.decDigits n := by
 have := h.1
 rwa [rest, if_pos rfl, List.nil_append, rest, if_neg hn] at this

theorem one_more (k : Nat) (t : List UInt8) (h : k < 10) : strOfNums [48 + (k : Int)] ++ (⟨t.toArray⟩ : ByteArray) = ⟨(UInt8.ofNat (48 + k) :: t).toArray⟩ := by
 have e : (48 + (k : Int)).toNat = 48 + k := by omega
 apply ByteArray.ext
 apply Array.toList_inj.1
 simp [strOfNums, e]
theorem one_size (c : Int) : (strOfNums [c]).size = 1 := rfl
end Go.Proofs.YtgfboghieejbkaaGreatDoor
namespace Go.Proofs.YtgfboghieejbkaaGreatDoor
open Go.RowKit

set_option maxHeartbeats 800000 in
set_option maxRecDepth 100000 in
theorem specDigits_pos (n : Nat) (w : World) (hn : 0 < n) (hm : n ≤ 9223372036854775807) :
 Calls Tryz.prog 174 #[.int .i64 n] w fun e w' => e = .returned (.string ⟨(Lib.decDigits n).toArray⟩) ∧ Below w.heap.size w w' := by
 have hcv := one_str
 have hsz := one_size
 have hne : ((n : Int) == 0) = false := by simp; omega
 have hlt : decide ((n : Int) < 0) = false := by simp
 go_enter Tryz.func174, Tryz.ntmps174
 go_wp2
 go_loopw [0, 4] (fun x s wr => ∃ (m : Nat) (t : List UInt8), m ≤ 9223372036854775807 ∧ DAt n m t ∧ x = .int .i64 m ∧ s = .string ⟨t.toArray⟩ ∧ Below w.heap.size w wr) (fun x _ _ => (intOf x).toNat)
 case atStart => exact ⟨n, [], hm, dat_start n (by omega), rfl, rfl, Below.refl _ _⟩
 case round =>
  obtain ⟨m, t, hm', hd, rfl, rfl, hb⟩ := hrel
  by_cases h0 : m = 0
  ·subst h0
   have HE := hide (dat_end hd (by omega))
   clear hd
   go_wp2
   go_ret
   have HE' := unhide HE
   subst HE'
   exact ⟨rfl, hb⟩
  ·have hne' : ((m : Int) != 0) = true := by simp [h0]
   obtain ⟨hd', hl⟩ := dat_step hd h0
   have HD := hide hd'
   clear hd hd'
   have hs0 := hb.size
   have hmo := one_more (m % 10) t (by omega)
   have hbl : Below w.heap.size w (wr.alloc (.cells #[.int .u8 (48 + (m : Int) % 10)] 5)) := hb.alloc hs0 _
   go_wp2
   go_roundw
   case rel => exact ⟨m / 10, _, by omega, unhide HD, by go_num, by rw [← hmo]; rfl, hbl⟩
   case measure => simp [intOf]; omega

set_option maxHeartbeats 800000 in
set_option maxRecDepth 100000 in
theorem specDigits_neg (n : Nat) (w : World) (hn : 0 < n) (hm : n ≤ 9223372036854775808) :
 Calls Tryz.prog 174 #[.int .i64 (-(n : Int))] w fun e w' => e = .returned (.string ⟨(45 :: Lib.decDigits n).toArray⟩) ∧ Below w.heap.size w w' := by
 have hcv := one_str
 have hsz := one_size
 have hne : ((-(n : Int)) == 0) = false := by simp; omega
 have hlt : decide (-(n : Int) < 0) = true := by simp; omega
 go_enter Tryz.func174, Tryz.ntmps174
 go_wp2
 go_loopw [0, 4] (fun x s wr => ∃ (m : Nat) (t : List UInt8), m ≤ 9223372036854775808 ∧ DAt n m t ∧ x = .int .i64 (-(m : Int)) ∧ s = .string ⟨t.toArray⟩ ∧ Below w.heap.size w wr) (fun x _ _ => (-(intOf x)).toNat)
 case atStart => exact ⟨n, [], hm, dat_start n hm, rfl, rfl, Below.refl _ _⟩
 case round =>
  obtain ⟨m, t, hm', hd, rfl, rfl, hb⟩ := hrel
  by_cases h0 : m = 0
  ·subst h0
   have HE := hide (dat_end hd (by omega))
   have hl := hd.2.1
   clear hd
   go_wp2
   go_ret
   have HE' := unhide HE
   subst HE'
   exact ⟨by apply congrArg Ending.returned; apply congrArg Value.string; apply ByteArray.ext; apply Array.toList_inj.1; simp, hb⟩
  ·have hne' : ((-(m : Int)) != 0) = true := by simp [h0]
   obtain ⟨hd', hl⟩ := dat_step hd h0
   have HD := hide hd'
   clear hd hd'
   have hs0 := hb.size
   have hmo := one_more (m % 10) t (by omega)
   have ht : (-(m : Int)).tmod 10 = -((m % 10 : Nat) : Int) := by rw [Int.neg_tmod]; rfl
   have hq : (-(m : Int)).tdiv 10 = -((m / 10 : Nat) : Int) := by rw [Int.neg_tdiv]; rfl
   by_cases hz : m % 10 = 0
   ·have hbl : Below w.heap.size w (wr.alloc (.cells #[.int .u8 48] 5)) := hb.alloc hs0 _
    go_wp2
    go_roundw
    case rel => exact ⟨m / 10, _, by omega, unhide HD, by go_num, by rw [← hmo, hz]; rfl, hbl⟩
    case measure => simp [intOf]; omega
   ·have hbl : Below w.heap.size w (wr.alloc (.cells #[.int .u8 (48 + (m : Int) % 10)] 5)) := hb.alloc hs0 _
    go_wp2
    go_roundw
    case rel => exact ⟨m / 10, _, by omega, unhide HD, by go_num, by rw [← hmo]; rfl, hbl⟩
    case measure => simp [intOf]; omega

set_option maxHeartbeats 400000 in
set_option maxRecDepth 100000 in
theorem specDigits_zero (w : World) :
 Calls Tryz.prog 174 #[.int .i64 0] w fun e w' => e = .returned (.string ⟨(Lib.decDigits 0).toArray⟩) ∧ Below w.heap.size w w' := by
 go_enter Tryz.func174, Tryz.ntmps174
 go_wp2
 go_ret
 exact ⟨by rw [Lib.decDigits]; rfl, Below.refl _ _⟩

theorem specDigits_any (n : Int) (w : World) (h0 : -9223372036854775808 ≤ n) (h1 : n ≤ 9223372036854775807) :
 Calls Tryz.prog 174 #[.int .i64 n] w fun e w' => e = .returned (.string ⟨(Lib.itoa n).toArray⟩) ∧ Below w.heap.size w w' := by
 unfold Lib.itoa
 by_cases hn : n < 0
 ·obtain ⟨m, rfl⟩ : ∃ m : Nat, n = -(m : Int) := ⟨n.natAbs, by omega⟩
  rw [if_pos hn, show (-(m : Int)).natAbs = m from by omega]
  exact specDigits_neg m w (by omega) (by omega)
 ·obtain ⟨m, rfl⟩ := Int.eq_ofNat_of_zero_le (Int.not_lt.1 hn)
  rw [if_neg hn, Int.toNat_natCast]
  by_cases hm : m = 0
  ·subst hm; exact specDigits_zero w
  ·exact specDigits_pos m w (by omega) (by omega)
end Go.Proofs.YtgfboghieejbkaaGreatDoor
namespace Go.Proofs
open Go.Shelf
def Tryz.laysM171_ren : Go.Shelf.Ren := ⟨fun | 171 => 204 | 243 => 220 | 246 => 233 | 283 => 253 | 284 => 254 | 285 => 255 | 286 => 256 | 129 => 245 | 317 => 266 | 318 => 267 | 319 => 268 | 320 => 269 | 337 => 276 | 338 => 277 | n => n, fun | 3 => 3 | 9 => 9 | 2 => 2 | 4 => 4 | 171 => 265 | 0 => 0 | 53 => 260 | 37 => 22 | 5 => 5 | 173 => 267 | 212 => 278 | 51 => 243 | 20 => 20 | 213 => 279 | 46 => 218 | 232 => 294 | 233 => 295 | n => n, fun | 17 => 3 | 18 => 6 | 19 => 7 | n => n⟩
theorem Tryz.laysM171 : Go.Proofs.LaysM.n171 Tryz.prog Tryz.laysM171_ren := {
 mixed := by kernel_rfl
 f129 := Tryz.func245.trans (congrArg some (by kernel_rfl))
 f171 := Tryz.func204.trans (congrArg some (by kernel_rfl))
 f243 := Tryz.func220.trans (congrArg some (by kernel_rfl))
 f246 := Tryz.func233.trans (congrArg some (by kernel_rfl))
 f283 := Tryz.func253.trans (congrArg some (by kernel_rfl))
 f284 := Tryz.func254.trans (congrArg some (by kernel_rfl))
 f285 := Tryz.func255.trans (congrArg some (by kernel_rfl))
 f286 := Tryz.func256.trans (congrArg some (by kernel_rfl))
 f317 := Tryz.func266.trans (congrArg some (by kernel_rfl))
 f318 := Tryz.func267.trans (congrArg some (by kernel_rfl))
 f319 := Tryz.func268.trans (congrArg some (by kernel_rfl))
 f320 := Tryz.func269.trans (congrArg some (by kernel_rfl))
 f337 := Tryz.func276.trans (congrArg some (by kernel_rfl))
 f338 := Tryz.func277.trans (congrArg some (by kernel_rfl))
 t0 := Tryz.underlying0
 a0 := Tryz.isAgg0
 z0 := Tryz.sizeOf0
 v0 := Tryz.zeroValue0
 t2 := Tryz.underlying2
 a2 := Tryz.isAgg2
 z2 := Tryz.sizeOf2
 v2 := Tryz.zeroValue2
 t3 := Tryz.underlying3
 a3 := Tryz.isAgg3
 z3 := Tryz.sizeOf3
 v3 := Tryz.zeroValue3
 t4 := Tryz.underlying4
 a4 := Tryz.isAgg4
 z4 := Tryz.sizeOf4
 v4 := Tryz.zeroValue4
 t5 := Tryz.underlying5
 a5 := Tryz.isAgg5
 z5 := Tryz.sizeOf5
 v5 := Tryz.zeroValue5
 t9 := Tryz.underlying9
 a9 := Tryz.isAgg9
 z9 := Tryz.sizeOf9
 v9 := Tryz.zeroValue9
 t20 := Tryz.underlying20
 a20 := Tryz.isAgg20
 z20 := Tryz.sizeOf20
 v20 := Tryz.zeroValue20
 t37 := Tryz.underlying22
 a37 := Tryz.isAgg22
 z37 := Tryz.sizeOf22
 v37 := Tryz.zeroValue22
 t46 := Tryz.underlying218
 a46 := Tryz.isAgg218
 z46 := Tryz.sizeOf218
 v46 := Tryz.zeroValue218
 t51 := Tryz.underlying243
 a51 := Tryz.isAgg243
 z51 := Tryz.sizeOf243
 v51 := Tryz.zeroValue243
 t53 := Tryz.underlying260
 a53 := Tryz.isAgg260
 z53 := Tryz.sizeOf260
 v53 := Tryz.zeroValue260
 t171 := Tryz.underlying265
 a171 := Tryz.isAgg265
 z171 := Tryz.sizeOf265
 v171 := Tryz.zeroValue265
 t173 := Tryz.underlying267
 a173 := Tryz.isAgg267
 z173 := Tryz.sizeOf267
 v173 := Tryz.zeroValue267
 t212 := Tryz.underlying278
 a212 := Tryz.isAgg278
 z212 := Tryz.sizeOf278
 v212 := Tryz.zeroValue278
 t213 := Tryz.underlying279
 a213 := Tryz.isAgg279
 z213 := Tryz.sizeOf279
 t232 := Tryz.underlying294
 a232 := Tryz.isAgg294
 z232 := Tryz.sizeOf294
 v232 := Tryz.zeroValue294
 t233 := Tryz.underlying295
 a233 := Tryz.isAgg295
 z233 := Tryz.sizeOf295
 v233 := Tryz.zeroValue295
 g17 := by kernel_rfl
 g18 := by kernel_rfl
 g19 := by kernel_rfl
 i0 := by kernel_rfl
 i2 := by kernel_rfl
 i3 := by kernel_rfl
 i4 := by kernel_rfl
 i5 := by kernel_rfl
 i9 := by kernel_rfl
 i20 := by kernel_rfl
 i37 := by kernel_rfl
 i46 := by kernel_rfl
 i51 := by kernel_rfl
 i53 := by kernel_rfl
 i171 := by kernel_rfl
 i173 := by kernel_rfl
 i212 := by kernel_rfl
 i232 := by kernel_rfl
 i233 := by kernel_rfl
 m17 := by kernel_rfl
 m18 := by kernel_rfl
 m19 := by kernel_rfl }
open Go.RowKit Go.Sort Go.Lib in
theorem Tryz.strconv_Itoa (n : Int) (h0 : -9223372036854775808 ≤ n) (h1 : n ≤ 9223372036854775807) (w : World) (htab : Lib.TabIs Tryz.prog w "internal/strconv.uint64pow10" .u64 Lib.pow10Tab) :
 Calls Tryz.prog 204 #[.int .i64 n] w fun e w' => e = .returned (.string ⟨(Lib.itoa n).toArray⟩) ∧ ∃ k os, w' = grow (w.drewN k) os := Any.strconv_Itoa Tryz.laysM171 n h0 h1 w htab
end Go.Proofs
namespace Go.Proofs.YtgfboghieejbkaaGreatDoor
open Go.RowKit

theorem grow_below (w : World) (k : Nat) (os : Array Obj) : Below w.heap.size w (Sort.grow (w.drewN k) os) :=
 ⟨rfl, rfl, rfl, by simp [Sort.grow], fun i hi => by simp only [Sort.grow, World.heap_drewN]; rw [Array.getElem?_append_left hi]⟩

abbrev Pow (w : World) : Prop := Lib.TabIs Tryz.prog w "internal/strconv.uint64pow10" .u64 Lib.pow10Tab
theorem gPow : Tryz.prog.globalNamed "internal/strconv.uint64pow10" = some 3 := by kernel_rfl
theorem Pow.below {w w' : World} (h : Pow w) (hb : Below w.heap.size w w') : Pow w' := by
 have hlt : 3 < w.heap.size := cell_lt (h.cell gPow 0 (by decide))
 exact var?_below hb gPow hlt h

set_option maxHeartbeats 400000 in
set_option maxRecDepth 100000 in
theorem implDigits_any (n : Int) (w : World) (h0 : -9223372036854775808 ≤ n) (h1 : n ≤ 9223372036854775807) (ht : Pow w) :
 Calls Tryz.prog 185 #[.int .i64 n] w fun e w' => e = .returned (.string ⟨(Lib.itoa n).toArray⟩) ∧ Below w.heap.size w w' := by
 go_enter Tryz.func185, Tryz.ntmps185
 go_wp2_with fail
 refine (Tryz.strconv_Itoa n h0 h1 _ ht).mono ?_
 rintro e w' ⟨rfl, k, os, rfl⟩
 go_wp2
 go_ret
 exact ⟨rfl, grow_below _ _ _⟩
end Go.Proofs.YtgfboghieejbkaaGreatDoor
namespace Go.Proofs
open Go.Shelf
def Tryz.lays172_ren : Go.Shelf.Ren := ⟨fun | 172 => 251 | 244 => 264 | 245 => 265 | 247 => 271 | 279 => 272 | 280 => 273 | 281 => 274 | 282 => 275 | 287 => 278 | 316 => 190 | 171 => 204 | 205 => 279 | 321 => 280 | 322 => 281 | 243 => 220 | 246 => 233 | 283 => 253 | 284 => 254 | 285 => 255 | 286 => 256 | 129 => 245 | 317 => 266 | 318 => 267 | 319 => 268 | 320 => 269 | 337 => 276 | 338 => 277 | n => n, fun | 9 => 9 | 3 => 3 | 75 => 114 | 76 => 232 | 4 => 4 | 5 => 5 | 167 => 283 | 37 => 22 | 0 => 0 | 85 => 284 | 2 => 2 | 168 => 286 | 53 => 260 | 175 => 289 | 46 => 218 | 210 => 292 | 127 => 236 | 145 => 299 | 143 => 297 | 21 => 21 | 171 => 265 | 173 => 267 | 212 => 278 | 51 => 243 | 20 => 20 | 213 => 279 | 232 => 294 | 233 => 295 | 80 => 234 | n => n, fun | 15 => 4 | 16 => 5 | 17 => 3 | 18 => 6 | 19 => 7 | n => n⟩
theorem Tryz.lays172 : Go.Proofs.Lays.n172 Tryz.prog Tryz.lays172_ren := {
 mixed := by kernel_rfl
 f129 := Tryz.func245.trans (congrArg some (by kernel_rfl))
 f171 := Tryz.func204.trans (congrArg some (by kernel_rfl))
 f172 := Tryz.func251.trans (congrArg some (by kernel_rfl))
 f205 := Tryz.func279.trans (congrArg some (by kernel_rfl))
 f243 := Tryz.func220.trans (congrArg some (by kernel_rfl))
 f244 := Tryz.func264.trans (congrArg some (by kernel_rfl))
 f245 := Tryz.func265.trans (congrArg some (by kernel_rfl))
 f246 := Tryz.func233.trans (congrArg some (by kernel_rfl))
 f247 := Tryz.func271.trans (congrArg some (by kernel_rfl))
 f279 := Tryz.func272.trans (congrArg some (by kernel_rfl))
 f280 := Tryz.func273.trans (congrArg some (by kernel_rfl))
 f281 := Tryz.func274.trans (congrArg some (by kernel_rfl))
 f282 := Tryz.func275.trans (congrArg some (by kernel_rfl))
 f283 := Tryz.func253.trans (congrArg some (by kernel_rfl))
 f284 := Tryz.func254.trans (congrArg some (by kernel_rfl))
 f285 := Tryz.func255.trans (congrArg some (by kernel_rfl))
 f286 := Tryz.func256.trans (congrArg some (by kernel_rfl))
 f287 := Tryz.func278.trans (congrArg some (by kernel_rfl))
 f316 := Tryz.func190.trans (congrArg some (by kernel_rfl))
 f317 := Tryz.func266.trans (congrArg some (by kernel_rfl))
 f318 := Tryz.func267.trans (congrArg some (by kernel_rfl))
 f319 := Tryz.func268.trans (congrArg some (by kernel_rfl))
 f320 := Tryz.func269.trans (congrArg some (by kernel_rfl))
 f321 := Tryz.func280.trans (congrArg some (by kernel_rfl))
 f322 := Tryz.func281.trans (congrArg some (by kernel_rfl))
 f337 := Tryz.func276.trans (congrArg some (by kernel_rfl))
 f338 := Tryz.func277.trans (congrArg some (by kernel_rfl))
 t0 := Tryz.underlying0
 a0 := Tryz.isAgg0
 z0 := Tryz.sizeOf0
 v0 := Tryz.zeroValue0
 t2 := Tryz.underlying2
 a2 := Tryz.isAgg2
 z2 := Tryz.sizeOf2
 v2 := Tryz.zeroValue2
 t3 := Tryz.underlying3
 a3 := Tryz.isAgg3
 z3 := Tryz.sizeOf3
 v3 := Tryz.zeroValue3
 t4 := Tryz.underlying4
 a4 := Tryz.isAgg4
 z4 := Tryz.sizeOf4
 v4 := Tryz.zeroValue4
 t5 := Tryz.underlying5
 a5 := Tryz.isAgg5
 z5 := Tryz.sizeOf5
 v5 := Tryz.zeroValue5
 t9 := Tryz.underlying9
 a9 := Tryz.isAgg9
 z9 := Tryz.sizeOf9
 v9 := Tryz.zeroValue9
 t20 := Tryz.underlying20
 a20 := Tryz.isAgg20
 z20 := Tryz.sizeOf20
 v20 := Tryz.zeroValue20
 t21 := Tryz.underlying21
 a21 := Tryz.isAgg21
 z21 := Tryz.sizeOf21
 v21 := Tryz.zeroValue21
 t37 := Tryz.underlying22
 a37 := Tryz.isAgg22
 z37 := Tryz.sizeOf22
 v37 := Tryz.zeroValue22
 t46 := Tryz.underlying218
 a46 := Tryz.isAgg218
 z46 := Tryz.sizeOf218
 v46 := Tryz.zeroValue218
 t51 := Tryz.underlying243
 a51 := Tryz.isAgg243
 z51 := Tryz.sizeOf243
 v51 := Tryz.zeroValue243
 t53 := Tryz.underlying260
 a53 := Tryz.isAgg260
 z53 := Tryz.sizeOf260
 v53 := Tryz.zeroValue260
 t75 := Tryz.underlying114
 a75 := Tryz.isAgg114
 z75 := Tryz.sizeOf114
 v75 := Tryz.zeroValue114
 t76 := Tryz.underlying232
 a76 := Tryz.isAgg232
 z76 := Tryz.sizeOf232
 v76 := Tryz.zeroValue232
 t85 := Tryz.underlying284
 a85 := Tryz.isAgg284
 z85 := Tryz.sizeOf284
 v85 := Tryz.zeroValue284
 t127 := Tryz.underlying236
 a127 := Tryz.isAgg236
 z127 := Tryz.sizeOf236
 v127 := Tryz.zeroValue236
 t143 := Tryz.underlying297
 a143 := Tryz.isAgg297
 z143 := Tryz.sizeOf297
 v143 := Tryz.zeroValue297
 t145 := Tryz.underlying299
 a145 := Tryz.isAgg299
 z145 := Tryz.sizeOf299
 v145 := Tryz.zeroValue299
 t167 := Tryz.underlying283
 a167 := Tryz.isAgg283
 z167 := Tryz.sizeOf283
 v167 := Tryz.zeroValue283
 t168 := Tryz.underlying286
 a168 := Tryz.isAgg286
 z168 := Tryz.sizeOf286
 v168 := Tryz.zeroValue286
 t171 := Tryz.underlying265
 a171 := Tryz.isAgg265
 z171 := Tryz.sizeOf265
 v171 := Tryz.zeroValue265
 t173 := Tryz.underlying267
 a173 := Tryz.isAgg267
 z173 := Tryz.sizeOf267
 v173 := Tryz.zeroValue267
 t175 := Tryz.underlying289
 a175 := Tryz.isAgg289
 z175 := Tryz.sizeOf289
 v175 := Tryz.zeroValue289
 t210 := Tryz.underlying292
 a210 := Tryz.isAgg292
 z210 := Tryz.sizeOf292
 v210 := Tryz.zeroValue292
 t212 := Tryz.underlying278
 a212 := Tryz.isAgg278
 z212 := Tryz.sizeOf278
 v212 := Tryz.zeroValue278
 t213 := Tryz.underlying279
 a213 := Tryz.isAgg279
 z213 := Tryz.sizeOf279
 t232 := Tryz.underlying294
 a232 := Tryz.isAgg294
 z232 := Tryz.sizeOf294
 v232 := Tryz.zeroValue294
 t233 := Tryz.underlying295
 a233 := Tryz.isAgg295
 z233 := Tryz.sizeOf295
 v233 := Tryz.zeroValue295
 g15 := by kernel_rfl
 g16 := by kernel_rfl
 g17 := by kernel_rfl
 g18 := by kernel_rfl
 g19 := by kernel_rfl }
open Go.RowKit in
theorem Tryz.strconv_Atoi (s : ByteArray) (n : Int) (hl : s.size ≤ 18) (h : Lib.atoi s.data.toList = some n) (w : World) :
 Calls Tryz.prog 251 #[.string s] w fun e w' => e = .returned (.tuple #[.int .i64 n, .nilIface]) ∧ ∃ t, w' = Lib.bytesWorld w 5 t := Any.strconv_Atoi Tryz.lays172 s n hl h w
def Tryz.laysC172_ren : Go.Shelf.Ren := ⟨fun | 172 => 251 | 244 => 264 | 245 => 265 | 247 => 271 | 279 => 272 | 280 => 273 | 281 => 274 | 282 => 275 | 287 => 278 | 316 => 190 | 171 => 204 | 205 => 279 | 321 => 280 | 322 => 281 | 243 => 220 | 246 => 233 | 283 => 253 | 284 => 254 | 285 => 255 | 286 => 256 | 129 => 245 | 317 => 266 | 318 => 267 | 319 => 268 | 320 => 269 | 337 => 276 | 338 => 277 | n => n, fun | 9 => 9 | 3 => 3 | 75 => 114 | 76 => 232 | 4 => 4 | 5 => 5 | 167 => 283 | 37 => 22 | 0 => 0 | 85 => 284 | 2 => 2 | 168 => 286 | 53 => 260 | 175 => 289 | 46 => 218 | 210 => 292 | 127 => 236 | 145 => 299 | 143 => 297 | 21 => 21 | 171 => 265 | 173 => 267 | 212 => 278 | 51 => 243 | 20 => 20 | 213 => 279 | 232 => 294 | 233 => 295 | 80 => 234 | n => n, fun | 15 => 4 | 16 => 5 | 17 => 3 | 18 => 6 | 19 => 7 | n => n⟩
theorem Tryz.laysC172 : Go.Proofs.LaysC.n172 Tryz.prog Tryz.laysC172_ren := {
 mixed := by kernel_rfl
 f129 := Tryz.func245.trans (congrArg some (by kernel_rfl))
 f171 := Tryz.func204.trans (congrArg some (by kernel_rfl))
 f172 := Tryz.func251.trans (congrArg some (by kernel_rfl))
 f205 := Tryz.func279.trans (congrArg some (by kernel_rfl))
 f243 := Tryz.func220.trans (congrArg some (by kernel_rfl))
 f244 := Tryz.func264.trans (congrArg some (by kernel_rfl))
 f245 := Tryz.func265.trans (congrArg some (by kernel_rfl))
 f246 := Tryz.func233.trans (congrArg some (by kernel_rfl))
 f247 := Tryz.func271.trans (congrArg some (by kernel_rfl))
 f279 := Tryz.func272.trans (congrArg some (by kernel_rfl))
 f280 := Tryz.func273.trans (congrArg some (by kernel_rfl))
 f281 := Tryz.func274.trans (congrArg some (by kernel_rfl))
 f282 := Tryz.func275.trans (congrArg some (by kernel_rfl))
 f283 := Tryz.func253.trans (congrArg some (by kernel_rfl))
 f284 := Tryz.func254.trans (congrArg some (by kernel_rfl))
 f285 := Tryz.func255.trans (congrArg some (by kernel_rfl))
 f286 := Tryz.func256.trans (congrArg some (by kernel_rfl))
 f287 := Tryz.func278.trans (congrArg some (by kernel_rfl))
 f316 := Tryz.func190.trans (congrArg some (by kernel_rfl))
 f317 := Tryz.func266.trans (congrArg some (by kernel_rfl))
 f318 := Tryz.func267.trans (congrArg some (by kernel_rfl))
 f319 := Tryz.func268.trans (congrArg some (by kernel_rfl))
 f320 := Tryz.func269.trans (congrArg some (by kernel_rfl))
 f321 := Tryz.func280.trans (congrArg some (by kernel_rfl))
 f322 := Tryz.func281.trans (congrArg some (by kernel_rfl))
 f337 := Tryz.func276.trans (congrArg some (by kernel_rfl))
 f338 := Tryz.func277.trans (congrArg some (by kernel_rfl))
 t0 := Tryz.underlying0
 a0 := Tryz.isAgg0
 z0 := Tryz.sizeOf0
 v0 := Tryz.zeroValue0
 t2 := Tryz.underlying2
 a2 := Tryz.isAgg2
 z2 := Tryz.sizeOf2
 v2 := Tryz.zeroValue2
 t3 := Tryz.underlying3
 a3 := Tryz.isAgg3
 z3 := Tryz.sizeOf3
 v3 := Tryz.zeroValue3
 t4 := Tryz.underlying4
 a4 := Tryz.isAgg4
 z4 := Tryz.sizeOf4
 v4 := Tryz.zeroValue4
 t5 := Tryz.underlying5
 a5 := Tryz.isAgg5
 z5 := Tryz.sizeOf5
 v5 := Tryz.zeroValue5
 t9 := Tryz.underlying9
 a9 := Tryz.isAgg9
 z9 := Tryz.sizeOf9
 v9 := Tryz.zeroValue9
 t20 := Tryz.underlying20
 a20 := Tryz.isAgg20
 z20 := Tryz.sizeOf20
 v20 := Tryz.zeroValue20
 t21 := Tryz.underlying21
 a21 := Tryz.isAgg21
 z21 := Tryz.sizeOf21
 v21 := Tryz.zeroValue21
 t37 := Tryz.underlying22
 a37 := Tryz.isAgg22
 z37 := Tryz.sizeOf22
 v37 := Tryz.zeroValue22
 t46 := Tryz.underlying218
 a46 := Tryz.isAgg218
 z46 := Tryz.sizeOf218
 v46 := Tryz.zeroValue218
 t51 := Tryz.underlying243
 a51 := Tryz.isAgg243
 z51 := Tryz.sizeOf243
 v51 := Tryz.zeroValue243
 t53 := Tryz.underlying260
 a53 := Tryz.isAgg260
 z53 := Tryz.sizeOf260
 v53 := Tryz.zeroValue260
 t75 := Tryz.underlying114
 a75 := Tryz.isAgg114
 z75 := Tryz.sizeOf114
 v75 := Tryz.zeroValue114
 t76 := Tryz.underlying232
 a76 := Tryz.isAgg232
 z76 := Tryz.sizeOf232
 v76 := Tryz.zeroValue232
 t85 := Tryz.underlying284
 a85 := Tryz.isAgg284
 z85 := Tryz.sizeOf284
 v85 := Tryz.zeroValue284
 t127 := Tryz.underlying236
 a127 := Tryz.isAgg236
 z127 := Tryz.sizeOf236
 v127 := Tryz.zeroValue236
 t143 := Tryz.underlying297
 a143 := Tryz.isAgg297
 z143 := Tryz.sizeOf297
 v143 := Tryz.zeroValue297
 t145 := Tryz.underlying299
 a145 := Tryz.isAgg299
 z145 := Tryz.sizeOf299
 v145 := Tryz.zeroValue299
 t167 := Tryz.underlying283
 a167 := Tryz.isAgg283
 z167 := Tryz.sizeOf283
 v167 := Tryz.zeroValue283
 t168 := Tryz.underlying286
 a168 := Tryz.isAgg286
 z168 := Tryz.sizeOf286
 v168 := Tryz.zeroValue286
 t171 := Tryz.underlying265
 a171 := Tryz.isAgg265
 z171 := Tryz.sizeOf265
 v171 := Tryz.zeroValue265
 t173 := Tryz.underlying267
 a173 := Tryz.isAgg267
 z173 := Tryz.sizeOf267
 v173 := Tryz.zeroValue267
 t175 := Tryz.underlying289
 a175 := Tryz.isAgg289
 z175 := Tryz.sizeOf289
 v175 := Tryz.zeroValue289
 t210 := Tryz.underlying292
 a210 := Tryz.isAgg292
 z210 := Tryz.sizeOf292
 v210 := Tryz.zeroValue292
 t212 := Tryz.underlying278
 a212 := Tryz.isAgg278
 z212 := Tryz.sizeOf278
 v212 := Tryz.zeroValue278
 t213 := Tryz.underlying279
 a213 := Tryz.isAgg279
 z213 := Tryz.sizeOf279
 t232 := Tryz.underlying294
 a232 := Tryz.isAgg294
 z232 := Tryz.sizeOf294
 v232 := Tryz.zeroValue294
 t233 := Tryz.underlying295
 a233 := Tryz.isAgg295
 z233 := Tryz.sizeOf295
 v233 := Tryz.zeroValue295
 g15 := by kernel_rfl
 g16 := by kernel_rfl
 g17 := by kernel_rfl
 g18 := by kernel_rfl
 g19 := by kernel_rfl
 t80 := Tryz.underlying234
 a80 := Tryz.isAgg234
 z80 := Tryz.sizeOf234
 v80 := Tryz.zeroValue234
 i0 := by kernel_rfl
 i2 := by kernel_rfl
 i3 := by kernel_rfl
 i4 := by kernel_rfl
 i5 := by kernel_rfl
 i9 := by kernel_rfl
 i20 := by kernel_rfl
 i21 := by kernel_rfl
 i37 := by kernel_rfl
 i46 := by kernel_rfl
 i51 := by kernel_rfl
 i53 := by kernel_rfl
 i75 := by kernel_rfl
 i76 := by kernel_rfl
 i80 := by kernel_rfl
 i85 := by kernel_rfl
 i127 := by kernel_rfl
 i143 := by kernel_rfl
 i145 := by kernel_rfl
 i167 := by kernel_rfl
 i168 := by kernel_rfl
 i171 := by kernel_rfl
 i173 := by kernel_rfl
 i175 := by kernel_rfl
 i210 := by kernel_rfl
 i212 := by kernel_rfl
 i232 := by kernel_rfl
 i233 := by kernel_rfl
 m15 := by kernel_rfl
 m16 := by kernel_rfl
 m17 := by kernel_rfl
 m18 := by kernel_rfl
 m19 := by kernel_rfl
 c0 := by kernel_rfl
 c2 := by kernel_rfl
 c3 := by kernel_rfl
 c4 := by kernel_rfl
 c5 := by kernel_rfl
 c9 := by kernel_rfl
 c20 := by kernel_rfl
 c21 := by kernel_rfl
 c37 := by kernel_rfl
 c46 := by kernel_rfl
 c51 := by kernel_rfl
 c53 := by kernel_rfl
 c75 := by kernel_rfl
 c76 := by kernel_rfl
 c80 := by kernel_rfl
 c85 := by kernel_rfl
 c127 := by kernel_rfl
 c143 := by kernel_rfl
 c145 := by kernel_rfl
 c167 := by kernel_rfl
 c168 := by kernel_rfl
 c171 := by kernel_rfl
 c173 := by kernel_rfl
 c175 := by kernel_rfl
 c210 := by kernel_rfl
 c212 := by kernel_rfl
 c213 := by kernel_rfl
 c232 := by kernel_rfl
 c233 := by kernel_rfl }
open Go.RowKit in
theorem Tryz.strconv_Atoi_ok (s : ByteArray) (hmax : s.size ≤ 9223372036854775806) (v : Int) (h : Lib.atoiAll s.data.toList = .ok v) (w : World) :
 Calls Tryz.prog 251 #[.string s] w fun e w' => e = .returned (.tuple #[.int .i64 v, .nilIface]) ∧ (w' = w ∨ ∃ t, w' = Lib.bytesWorld w 5 t) := Any.strconv_Atoi_ok Tryz.laysC172 s hmax v h w
end Go.Proofs
