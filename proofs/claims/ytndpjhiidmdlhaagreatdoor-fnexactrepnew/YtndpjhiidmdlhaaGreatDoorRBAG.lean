/- Texts that belong together: ShelfItoa, Digits, BlockDig, EqText, QcSame, BlockSames. -/
import Derived.Shelf.Strings.Builder1
import Derived.Shelf.Small.Wraps
import Derived.Shelf.Strconv.Atoi
import Derived.Shelf.Strconv.Itoa0
import Derived.Shelf.Strconv.Itoa1
import Derived.Shelf.LaysM
import Derived.Shelf.Strconv.Itoa2
import Derived.Shelf.Strconv.Itoa3
import Derived.Shelf.Strconv.AtoiErrFast
import Derived.Shelf.Strconv.ParseIntEmpty
import Derived.Shelf.Strconv.AtoiFail
import Derived.Shelf.Strconv.Clone
import Derived.Shelf.Strconv.SyntaxError
import Derived.Shelf.LaysC
import Derived.Shelf.Strconv.ToError
import Derived.Shelf.Strconv.Lower
import Derived.Shelf.Strconv.ParseUint10
import Derived.Shelf.Strconv.ParseUint10Empty
import Derived.Shelf.Strconv.ParseUint10Any
import Derived.Shelf.Strconv.ParseInt10
import Derived.Shelf.Strconv.AtoiLong
import Derived.Shelf.Strconv.AtoiInnerAll
import Derived.Shelf.Strconv.RangeError
import Derived.Shelf.Strconv.ToErrorRange
import Derived.Shelf.Strconv.AtoiAll
import Derived.Shelf.Strconv.ErrVarAll
import Derived.Shelf.Strings.Search1
import Derived.Shelf.Strings.Search2
import Derived.Shelf.Strings.Search3
import Derived.Shelf.Strings.Cut
import Derived.Shelf.Strings.Shaped
import Derived.Shelf.Strings.LastIndex
import Derived.Shelf.Strings.Prefix
import Derived.Ground.Names2Prog
import Derived.Shelf.Slices.SearchI
import Derived.Test.YtndpjhiidmdlhaaGreatDoorProg
import Derived.Test.YtndpjhiidmdlhaaGreatDoorRBAF
import Derived.Lib.LaidTab
import Derived.Sort.Grow
import Derived.Test.YtndpjhiidmdlhaaGreatDoorRBAA
import Derived.Laws.StructEq
import Derived.KernelRfl
import Derived.Test.YtndpjhiidmdlhaaGreatDoorRBAB
import Derived.BigQuiet
import Derived.Test.YtndpjhiidmdlhaaGreatDoorRBAE
import Derived.Deep.DeepCutAuto
set_option maxRecDepth 100000
set_option maxHeartbeats 8000000
namespace Go.Proofs
open Go.Shelf
def Tryz.laysM171_ren : Go.Shelf.Ren := ⟨fun | 171 => 289 | 243 => 309 | 246 => 317 | 283 => 325 | 284 => 326 | 285 => 327 | 286 => 328 | 129 => 334 | 317 => 333 | 318 => 335 | 319 => 336 | 320 => 337 | 337 => 340 | 338 => 341 | n => n, fun | 3 => 3 | 9 => 9 | 2 => 2 | 4 => 4 | 171 => 375 | 0 => 0 | 53 => 376 | 37 => 31 | 5 => 5 | 173 => 379 | 212 => 388 | 51 => 244 | 20 => 20 | 213 => 389 | 46 => 351 | 232 => 396 | 233 => 397 | n => n, fun | 17 => 5 | 18 => 6 | 19 => 7 | n => n⟩
theorem Tryz.laysM171 : Go.Proofs.LaysM.n171 Tryz.prog Tryz.laysM171_ren := {
 mixed := by kernel_rfl
 f129 := Tryz.func334.trans (congrArg some (by kernel_rfl))
 f171 := Tryz.func289.trans (congrArg some (by kernel_rfl))
 f243 := Tryz.func309.trans (congrArg some (by kernel_rfl))
 f246 := Tryz.func317.trans (congrArg some (by kernel_rfl))
 f283 := Tryz.func325.trans (congrArg some (by kernel_rfl))
 f284 := Tryz.func326.trans (congrArg some (by kernel_rfl))
 f285 := Tryz.func327.trans (congrArg some (by kernel_rfl))
 f286 := Tryz.func328.trans (congrArg some (by kernel_rfl))
 f317 := Tryz.func333.trans (congrArg some (by kernel_rfl))
 f318 := Tryz.func335.trans (congrArg some (by kernel_rfl))
 f319 := Tryz.func336.trans (congrArg some (by kernel_rfl))
 f320 := Tryz.func337.trans (congrArg some (by kernel_rfl))
 f337 := Tryz.func340.trans (congrArg some (by kernel_rfl))
 f338 := Tryz.func341.trans (congrArg some (by kernel_rfl))
 t0 := Tryz.underlying0
 a0 := Tryz.isAgg0
 z0 := Tryz.sizeOf0
 v0 := Tryz.zeroValue0
 t2 := Tryz.underlying2
 a2 := Tryz.isAgg2
 z2 := Tryz.sizeOf2
 v2 := Tryz.zeroValue2
 t3 := Tryz.underlying3
 a3 := Tryz.isAgg3
 z3 := Tryz.sizeOf3
 v3 := Tryz.zeroValue3
 t4 := Tryz.underlying4
 a4 := Tryz.isAgg4
 z4 := Tryz.sizeOf4
 v4 := Tryz.zeroValue4
 t5 := Tryz.underlying5
 a5 := Tryz.isAgg5
 z5 := Tryz.sizeOf5
 v5 := Tryz.zeroValue5
 t9 := Tryz.underlying9
 a9 := Tryz.isAgg9
 z9 := Tryz.sizeOf9
 v9 := Tryz.zeroValue9
 t20 := Tryz.underlying20
 a20 := Tryz.isAgg20
 z20 := Tryz.sizeOf20
 v20 := Tryz.zeroValue20
 t37 := Tryz.underlying31
 a37 := Tryz.isAgg31
 z37 := Tryz.sizeOf31
 v37 := Tryz.zeroValue31
 t46 := Tryz.underlying351
 a46 := Tryz.isAgg351
 z46 := Tryz.sizeOf351
 v46 := Tryz.zeroValue351
 t51 := Tryz.underlying244
 a51 := Tryz.isAgg244
 z51 := Tryz.sizeOf244
 v51 := Tryz.zeroValue244
 t53 := Tryz.underlying376
 a53 := Tryz.isAgg376
 z53 := Tryz.sizeOf376
 v53 := Tryz.zeroValue376
 t171 := Tryz.underlying375
 a171 := Tryz.isAgg375
 z171 := Tryz.sizeOf375
 v171 := Tryz.zeroValue375
 t173 := Tryz.underlying379
 a173 := Tryz.isAgg379
 z173 := Tryz.sizeOf379
 v173 := Tryz.zeroValue379
 t212 := Tryz.underlying388
 a212 := Tryz.isAgg388
 z212 := Tryz.sizeOf388
 v212 := Tryz.zeroValue388
 t213 := Tryz.underlying389
 a213 := Tryz.isAgg389
 z213 := Tryz.sizeOf389
 t232 := Tryz.underlying396
 a232 := Tryz.isAgg396
 z232 := Tryz.sizeOf396
 v232 := Tryz.zeroValue396
 t233 := Tryz.underlying397
 a233 := Tryz.isAgg397
 z233 := Tryz.sizeOf397
 v233 := Tryz.zeroValue397
 g17 := by kernel_rfl
 g18 := by kernel_rfl
 g19 := by kernel_rfl
 i0 := by kernel_rfl
 i2 := by kernel_rfl
 i3 := by kernel_rfl
 i4 := by kernel_rfl
 i5 := by kernel_rfl
 i9 := by kernel_rfl
 i20 := by kernel_rfl
 i37 := by kernel_rfl
 i46 := by kernel_rfl
 i51 := by kernel_rfl
 i53 := by kernel_rfl
 i171 := by kernel_rfl
 i173 := by kernel_rfl
 i212 := by kernel_rfl
 i232 := by kernel_rfl
 i233 := by kernel_rfl
 m17 := by kernel_rfl
 m18 := by kernel_rfl
 m19 := by kernel_rfl }
open Go.RowKit Go.Sort Go.Lib in
theorem Tryz.strconv_Itoa (n : Int) (h0 : -9223372036854775808 ≤ n) (h1 : n ≤ 9223372036854775807) (w : World) (htab : Lib.TabIs Tryz.prog w "internal/strconv.uint64pow10" .u64 Lib.pow10Tab) :
 Calls Tryz.prog 289 #[.int .i64 n] w fun e w' => e = .returned (.string ⟨(Lib.itoa n).toArray⟩) ∧ ∃ k os, w' = grow (w.drewN k) os := Any.strconv_Itoa Tryz.laysM171 n h0 h1 w htab
end Go.Proofs
namespace Go.Proofs.YtndpjhiidmdlhaaGreatDoor
open Go.RowKit

theorem grow_below (w : World) (k : Nat) (os : Array Obj) : Below w.heap.size w (Sort.grow (w.drewN k) os) :=
 ⟨rfl, rfl, rfl, by simp [Sort.grow], fun i hi => by simp only [Sort.grow, World.heap_drewN]; rw [Array.getElem?_append_left hi]⟩

abbrev Pow (w : World) : Prop := Lib.TabIs Tryz.prog w "internal/strconv.uint64pow10" .u64 Lib.pow10Tab
theorem gPow : Tryz.prog.globalNamed "internal/strconv.uint64pow10" = some 5 := by kernel_rfl
theorem Pow.below {w w' : World} (h : Pow w) (hb : Below w.heap.size w w') : Pow w' := by
 have hlt : 5 < w.heap.size := cell_lt (h.cell gPow 0 (by decide))
 exact var?_below hb gPow hlt h

theorem implDigits_any (n : Int) (w : World) (h0 : -9223372036854775808 ≤ n) (h1 : n ≤ 9223372036854775807) (ht : Pow w) :
 Calls Tryz.prog 264 #[.int .i64 n] w fun e w' => e = .returned (.string ⟨(Lib.itoa n).toArray⟩) ∧ Below w.heap.size w w' := by
 go_enter Tryz.func264, Tryz.ntmps264
 go_wp2_with fail
 refine (Tryz.strconv_Itoa n h0 h1 _ ht).mono ?_
 rintro e w' ⟨rfl, k, os, rfl⟩
 go_wp2
 go_ret
 exact ⟨rfl, grow_below _ _ _⟩

def dgt (n : Int) : ByteArray := ⟨(Lib.itoa n).toArray⟩
theorem dgt_list (n : Int) : (dgt n).data.toList = Lib.itoa n := by simp [dgt]
def shalf (xs : List Int) (k : Nat) : List Value := ((xs.take k).map dgt ++ List.replicate (xs.length - k) (⟨#[]⟩ : ByteArray)).map Value.string
theorem shalf_zero (xs : List Int) : shalf xs 0 = List.replicate xs.length (.string ⟨#[]⟩) := by simp [shalf]
theorem shalf_all (xs : List Int) : shalf xs xs.length = (xs.map dgt).map Value.string := by simp [shalf]
theorem shalf_len (xs : List Int) (k : Nat) (h : k ≤ xs.length) : (shalf xs k).length = xs.length := by simp [shalf]; omega
theorem shalf_set (xs : List Int) (k : Nat) (h : k < xs.length) : (shalf xs k).set k (.string (dgt (xs.getD k 0))) = shalf xs (k + 1) := by
 have e : xs.length - k = (xs.length - (k + 1)) + 1 := by omega
 have hk : ((xs.take k).map dgt).length = k := by simp; omega
 unfold shalf
 rw [List.take_succ_eq_append_getElem h, e, List.replicate_succ, List.map_append, List.map_append, List.map_append, List.map_append, List.set_append_right _ _ (by rw [List.length_map, hk]; exact Nat.le_refl _), List.length_map, hk, Nat.sub_self]
 simp [List.getElem?_eq_getElem h]
theorem getD_memI {xs : List Int} {k : Nat} (h : k < xs.length) : xs.getD k 0 ∈ xs := by
 rw [List.getD_eq_getElem?_getD, List.getElem?_eq_getElem h]
 exact List.getElem_mem h
def In64 (xs : List Int) : Prop := ∀ x ∈ xs, -9223372036854775808 ≤ x ∧ x ≤ 9223372036854775807
theorem dgt_size {n : Int} (h0 : -9223372036854775808 ≤ n) (h1 : n ≤ 9223372036854775807) : 0 < (dgt n).size ∧ (dgt n).size ≤ 21 := by
 have h2 : (dgt n).size = (Lib.itoa n).length := by simp [dgt, ByteArray.size]
 have h3 := Lib.itoa_length_le n h0 h1
 have h4 := List.length_pos_iff.2 (itoa_parts n).1
 omega

theorem digitsOf_any (v : Value) (xs : List Int) (w : World) (h : RI w v xs) (hw : In64 xs) (hP : Pow w) :
 Calls Tryz.prog 265 #[v] w fun e w' => e = .returned (.string ⟨(digL xs).toArray⟩) ∧ Below w.heap.size w w' := by
 obtain ⟨i0, hi, hz0, hz1, hz2⟩ := info_parts Tryz.info9
 obtain ⟨hl, ao, ca, rfl, ha⟩ := h
 have HJ : Hid (∀ w', (∀ k, k < (xs.map dgt).length → w'.cell? ⟨w.heap.size, k, none⟩ = some (.string ((xs.map dgt).getD k ⟨#[]⟩))) →
  Calls Tryz.prog 290 #[.slice (some ⟨w.heap.size, 0, none⟩) (xs.map dgt).length (xs.map dgt).length, .string ⟨#[44]⟩] w' fun e w'' => e = .returned (.string ⟨(digL xs).toArray⟩) ∧ Below w'.heap.size w' w'') := hide fun w' hc => by
  have := join_any w.heap.size (xs.map dgt).length (xs.map dgt) w' (by simpa using hl) (Nat.le_refl _) (fun s hs => by obtain ⟨n, hn, rfl⟩ := List.mem_map.1 hs; exact dgt_size (hw n hn).1 (hw n hn).2) hc
  have e : (xs.map dgt).map (fun x => x.data.toList) = xs.map Lib.itoa := by simp [List.map_map, Function.comp_def, dgt_list]
  rw [e] at this
  exact this
 rw [List.length_map] at HJ
 have HD : Hid (∀ k, k < xs.length → ∀ w', Pow w' → Calls Tryz.prog 264 #[.int .i64 (xs.getD k 0)] w' fun e w'' => e = .returned (.string (dgt (xs.getD k 0))) ∧ Below w'.heap.size w' w'') := hide fun k hk w' hp => implDigits_any _ w' (hw _ (getD_memI hk)).1 (hw _ (getD_memI hk)).2 hp
 have HP := hide hP
 obtain ⟨n, hn⟩ : ∃ n, xs.length = n := ⟨_, rfl⟩
 have Hn : Hid (xs.length = n) := hn
 rw [hn] at hl HJ HD ⊢
 rw [hn] at ha
 clear hn hw hP
 go_enter Tryz.func265, Tryz.ntmps265
 go_wp2_with (first | (at_make; refine wpList_make_full _ rfl _ _ 228 rfl w.heap.size 9 i0 (.string ⟨#[]⟩) 1 Tryz.underlying228 hi hz0 hz1 .i64 .i64 n n n rfl rfl rfl rfl (by rw [hz2]; omega) (by unfold maxLen; omega) (Nat.le_refl _) ?_; intro w0 ho0 hg0))
 have hstart : w0.ownsRow w.heap.size 9 1 (.slice (some ⟨w.heap.size, 0, none⟩) n n) n (shalf xs 0) := by
  have e : (madeCells (Value.string ⟨#[]⟩).cells (n * 1)).toList = shalf xs 0 := by
   rw [shalf_zero, Hn.out, Nat.mul_one]; exact toList_madeCells_one _ _
  rw [← e]; exact ho0
 have HB : Hid (Below w.heap.size w w0) := (Below.refl _ _).grown hg0 (Nat.le_refl _) (by simp)
 clear ho0 hg0
 go_loopw [11] (fun i wr => ∃ k : Nat, k ≤ n ∧ i = .int .i64 k ∧ wr.ownsRow w.heap.size 9 1 (.slice (some ⟨w.heap.size, 0, none⟩) n n) n (shalf xs k) ∧ Below w.heap.size w wr) (fun i _ => n - (intOf i).toNat)
 case atStart => exact ⟨0, Nat.zero_le _, rfl, hstart, HB.out⟩
 case round =>
  clear hstart
  obtain ⟨k, hk, rfl, ho, hbel⟩ := hrel
  have hsz := hbel.size
  by_cases hlt : k < n
  ·rcases ha with ha | ⟨b, off, rfl, ha⟩
   ·subst ha; have := Hn.out; simp at this; omega
   have hkx : k < xs.length := by rw [Hn.out]; exact hlt
   have hc0 := ha k hlt
   have hc : wr.cell? ⟨b, off + k, none⟩ = some (.int .i64 (xs.getD k 0)) := (hbel.cell (cell_lt hc0)).trans hc0
   have DI := hide (HD.out k hlt wr (HP.out.below hbel))
   have HE := hide (shalf_set xs k hkx)
   have HO := hide ho
   clear ho hc0 ha
   generalize xs.getD k 0 = d at *
   go_wp2_with fail
   refine DI.out.mono ?_
   rintro e w1 ⟨rfl, b1⟩
   have ho1 := World.ownsRow.kept (row := none) HO.out ⟨b1.os, b1.tape, b1.output, b1.size, fun k hk _ => b1.block k hk⟩ (by simp [Value.ownBlock])
   have bw1 := hbel.trans (b1.mono hsz)
   obtain ⟨u, hu⟩ : ∃ u, w1.cell? ⟨w.heap.size, k, none⟩ = some u := by
    have h1 := ho1.cellAt k (by omega)
    have h2 : k < (shalf xs k).length := by rw [shalf_len xs k (by omega)]; exact hkx
    exact ⟨_, h1.trans (List.getElem?_eq_getElem h2)⟩
   have hfr := ho1.frozenAt k
   have HS : Hid ((w1.setCell ⟨w.heap.size, k, none⟩ (.string (dgt d))).ownsRow w.heap.size 9 1 (.slice (some ⟨w.heap.size, 0, none⟩) n n) n (shalf xs (k + 1))) := by
    rw [← HE.out]; exact (ho1.stored k _).1
   have HG : Hid (Below w.heap.size w (w1.setCell ⟨w.heap.size, k, none⟩ (.string (dgt d)))) := bw1.setCell (Nat.le_refl _) _
   clear ho1 hbel b1 bw1 hc DI HE HO
   go_wp2
   go_roundw
   case rel => exact ⟨k + 1, by omega, by go_num, HS.out, HG.out⟩
   case measure => simp [intOf]; omega
  ·have hkn : k = n := by omega
   have hcl : ∀ j, j < n → wr.cell? ⟨w.heap.size, j, none⟩ = some (.string ((xs.map dgt).getD j ⟨#[]⟩)) := fun j hj => by
    have h1 := ho.cellAt j (by omega)
    rw [hkn, ← Hn.out, shalf_all] at h1
    rw [h1]
    have hj' : j < xs.length := by rw [Hn.out]; exact hj
    simp [hj']
   have JA := hide (HJ.out wr hcl)
   clear ha ho hcl hkn
   go_wp2_with fail
   refine JA.out.mono ?_
   rintro e w1 ⟨rfl, b1⟩
   have bw1 := hbel.trans (b1.mono hsz)
   go_wp2
   go_ret
   exact ⟨rfl, bw1⟩

abbrev tv (m d s x : ByteArray) : Value := .agg #[.string m, .string d, .string s, .string x]
theorem eq_text (m d s x m' d' s' x' : ByteArray) (w : World) :
 (binOp .eql 295 (tv m d s x) (tv m' d' s' x')).run Tryz.prog w = .ok (.bool (m.toList == m'.toList && (d.toList == d'.toList && (s.toList == s'.toList && x.toList == x'.toList)))) w := by
 have hS : Tryz.prog.underlying 295 = some (.struct (Tryz.prog.fieldsOf 295)) := by kernel_rfl
 have hp : Tryz.prog.stoodInHeld 295 = false := by kernel_rfl
 rw [run_eql_struct, show (10000 : Nat) = 9999 + 1 from rfl, run_equalIn_struct w 9999 295 _ _ hS hp]
 simp only [Program.fieldsOf, Tryz.underlying295]
 go_simp
 by_cases h1 : m.toList = m'.toList <;> by_cases h2 : d.toList = d'.toList <;> by_cases h3 : s.toList = s'.toList <;> by_cases h4 : x.toList = x'.toList <;> simp [h1, h2, h3, h4]
theorem guard_text (x y : Operand) (xs ys : Array Value) (w : World) : (eqGuard .eql 295 x y (.agg xs) (.agg ys)).run Tryz.prog w = .ok () w := run_eqGuard_agg w .eql _ x y xs ys (by kernel_rfl)

theorem list_end {xs ys : List Int} {k : Nat} (h1 : k ≤ xs.length) (h2 : k ≤ ys.length) (h : ¬ (k < xs.length ∧ k < ys.length)) (he : ∀ j, j < k → xs.getD j 0 = ys.getD j 0) : xs.length = ys.length ↔ xs = ys := by
 constructor
 ·intro e
  apply List.ext_getElem e
  intro i p q
  have := he i (by omega)
  simpa [List.getD_eq_getElem?_getD, p, q] using this
 ·rintro rfl; rfl
theorem str_ne {t s : ByteArray} (h : t ≠ s) : (t.toList == s.toList) = false := by
 rw [beq_eq_false_iff_ne]
 intro e
 rw [ByteArray.toList_eq, ByteArray.toList_eq] at e
 exact h (ByteArray.ext (Array.toList_inj.1 e))
theorem list_off {xs ys : List Int} {k : Nat} (h : xs.getD k 0 ≠ ys.getD k 0) : xs ≠ ys := fun e => h (e ▸ rfl)

theorem l7Ints_any (va vb : Value) (xs ys : List Int) (w : World) (ha : RI w va xs) (hb : RI w vb ys) :
 Calls Tryz.prog 182 #[va, vb] w fun e w' => e = .returned (.bool (decide (xs = ys))) ∧ ∃ n, w' = w.drewN n := by
 obtain ⟨hl, ao, ca, rfl, ha⟩ := ha
 obtain ⟨hl', bo, cb, rfl, hb⟩ := hb
 have EN := hide fun k h1 h2 h he => list_end (xs := xs) (ys := ys) (k := k) h1 h2 h he
 have OF := hide fun k h => list_off (xs := xs) (ys := ys) (k := k) h
 have HE : Hid (∀ b, (xs = ys ↔ b = true) → decide (xs = ys) = b) := hide fun b h => by
  cases b
  ·simpa using h
  ·simpa using h
 obtain ⟨n, hn⟩ : ∃ n, xs.length = n := ⟨_, rfl⟩
 obtain ⟨m, hm⟩ : ∃ m, ys.length = m := ⟨_, rfl⟩
 rw [hn] at ha EN hl ⊢
 rw [hm] at hb EN hl' ⊢
 have Hn : Hid (xs.length = n) := hn
 have Hm : Hid (ys.length = m) := hm
 clear hn hm
 generalize decide (xs = ys) = q at *
 go_enter Tryz.func182, Tryz.ntmps182
 go_wp2
 go_loopw [5] (fun i wr => ∃ k : Nat, k ≤ n ∧ k ≤ m ∧ i = .int .i64 k ∧ (∀ j, j < k → xs.getD j 0 = ys.getD j 0) ∧ ∃ d, wr = w.drewN d) (fun i _ => n - (intOf i).toNat)
 case atStart => exact ⟨0, Nat.zero_le _, Nat.zero_le _, rfl, fun j hj => by omega, 0, rfl⟩
 case round =>
  obtain ⟨k, hk, hk', rfl, he, d, rfl⟩ := hrel
  have he := hide he
  by_cases hlt : k < n
  ·by_cases hlt' : k < m
   ·rcases ha with ha | ⟨b, off, rfl, ha⟩
    ·subst ha; have := Hn.out; simp at this; omega
    rcases hb with hb | ⟨b', off', rfl, hb⟩
    ·subst hb; have := Hm.out; simp at this; omega
    have ha' := ha k hlt
    have hb' := hb k hlt'
    have ER := hide fun (e : xs.getD k 0 = ys.getD k 0) j (hj : j < k + 1) => (by
     by_cases h : j = k
     ·subst h; exact e
     ·exact he.out j (by omega) : xs.getD j 0 = ys.getD j 0)
    have OK := hide fun h => OF.out k h
    clear ha hb
    generalize xs.getD k 0 = x at *
    generalize ys.getD k 0 = y at *
    by_cases hxy : x = y
    ·subst hxy
     replace ER := hide (ER.out rfl)
     clear OK
     go_wp2_with fail
     go_quiet (fail)
     go_wp2
     go_roundw
     case rel => exact ⟨k + 1, by omega, by omega, by go_num, ER.out, _, rfl⟩
     case measure => simp [intOf]; omega
    ·have hq : q = false := HE.out false (by simp; exact OK.out hxy)
     subst hq
     have hx : (x == y) = false := by simpa using hxy
     go_wp2_with fail
     go_quiet (fail)
     go_wp2
     go_ret
     exact ⟨rfl, d + nq, by simp [World.drewN, Nat.add_assoc]⟩
   ·have hnm := EN.out k hk hk' (by omega) he.out
    have hq : q = false := HE.out false (by simp; intro e; have := hnm.2 e; omega)
    have hd : ((n : Int) == (m : Int)) = false := by simp; omega
    have hc : decide ((k : Int) < (m : Int)) = false := by simp; omega
    subst hq
    clear ha hb
    go_wp2
    go_ret
    exact ⟨rfl, _, rfl⟩
  ·have hnm := EN.out k hk hk' (by omega) he.out
   have hq : q = decide ((n : Int) = (m : Int)) := HE.out _ (by rw [← hnm, decide_eq_true_eq]; omega)
   have hd : ((n : Int) == (m : Int)) = q := by rw [hq]; rfl
   have hc : decide ((k : Int) < (n : Int)) = false := by simp; omega
   clear ha hb
   go_wp2
   go_ret
   exact ⟨by show Ending.returned (Value.bool ((n : Int) == (m : Int))) = _; rw [hd], _, rfl⟩

theorem sEqual_any (va vb : Value) (xs ys : List Int) (w : World) (ha : RI w va xs) (hb : RI w vb ys) :
 Calls Tryz.prog 225 #[va, vb] w fun e w' => e = .returned (.bool (decide (xs = ys))) ∧ ∃ n, w' = w.drewN n := by
 obtain ⟨hl, ao, ca, rfl, ha⟩ := ha
 obtain ⟨hl', bo, cb, rfl, hb⟩ := hb
 have EN := hide fun k h1 h2 h he => list_end (xs := xs) (ys := ys) (k := k) h1 h2 h he
 have OF := hide fun k h => list_off (xs := xs) (ys := ys) (k := k) h
 have HE : Hid (∀ b, (xs = ys ↔ b = true) → decide (xs = ys) = b) := hide fun b h => by
  cases b
  ·simpa using h
  ·simpa using h
 have HL : Hid (xs = ys → xs.length = ys.length) := hide fun h => h ▸ rfl
 obtain ⟨n, hn⟩ : ∃ n, xs.length = n := ⟨_, rfl⟩
 obtain ⟨m, hm⟩ : ∃ m, ys.length = m := ⟨_, rfl⟩
 rw [hn] at ha EN hl HL ⊢
 rw [hm] at hb EN hl' HL ⊢
 have Hn : Hid (xs.length = n) := hn
 have Hm : Hid (ys.length = m) := hm
 clear hn hm
 generalize decide (xs = ys) = q at *
 by_cases hnm : n = m
 ·subst hnm
  go_enter Tryz.func225, Tryz.ntmps225
  go_wp2
  go_loopw [13] (fun i wr => ∃ k : Nat, k ≤ n ∧ i = .int .i64 k ∧ (∀ j, j < k → xs.getD j 0 = ys.getD j 0) ∧ ∃ d, wr = w.drewN d) (fun i _ => n - (intOf i).toNat)
  case atStart => exact ⟨0, Nat.zero_le _, rfl, fun j hj => by omega, 0, rfl⟩
  case round =>
   obtain ⟨k, hk, rfl, he, d, rfl⟩ := hrel
   have he := hide he
   by_cases hlt : k < n
   ·rcases ha with ha | ⟨b, off, rfl, ha⟩
    ·subst ha; have := Hn.out; simp at this; omega
    rcases hb with hb | ⟨b', off', rfl, hb⟩
    ·subst hb; have := Hm.out; simp at this; omega
    have ha' := ha k hlt
    have hb' := hb k hlt
    have ER := hide fun (e : xs.getD k 0 = ys.getD k 0) j (hj : j < k + 1) => (by
     by_cases h : j = k
     ·subst h; exact e
     ·exact he.out j (by omega) : xs.getD j 0 = ys.getD j 0)
    have OK := hide fun h => OF.out k h
    clear ha hb
    generalize xs.getD k 0 = x at *
    generalize ys.getD k 0 = y at *
    by_cases hxy : x = y
    ·subst hxy
     replace ER := hide (ER.out rfl)
     clear OK
     go_wp2_with fail
     go_quiet (fail)
     go_wp2
     go_roundw
     case rel => exact ⟨k + 1, by omega, by go_num, ER.out, _, rfl⟩
     case measure => simp [intOf]; omega
    ·have hq : q = false := HE.out false (by simp; exact OK.out hxy)
     subst hq
     have hx : (x == y) = false := by simpa using hxy
     go_wp2_with fail
     go_quiet (fail)
     go_wp2
     go_ret
     exact ⟨rfl, d + nq, by simp [World.drewN, Nat.add_assoc]⟩
   ·have hnm := EN.out k hk hk (by omega) he.out
    have hq : q = true := HE.out true (by simpa using hnm)
    have hc : decide ((k : Int) < (n : Int)) = false := by simp; omega
    subst hq
    clear ha hb
    go_wp2
    go_ret
    exact ⟨rfl, _, rfl⟩
 ·have hq : q = false := HE.out false (by simp; intro e; exact hnm (HL.out e))
  have hd : ((n : Int) == (m : Int)) = false := by simp; omega
  subst hq
  clear ha hb
  go_enter Tryz.func225, Tryz.ntmps225
  go_wp2
  go_ret
  exact ⟨rfl, 0, rfl⟩

def alikeB (n m : Int) (s t : ByteArray) (xs ys : List Int) : Bool := decide (n = m ∧ s = t ∧ xs = ys)

theorem specQcSame (n m : Int) (s t : ByteArray) (va vb : Value) (xs ys : List Int) (w : World) (ha : RI w va xs) (hb : RI w vb ys) :
 Calls Tryz.prog 134 #[qv n s va, qv m t vb] w fun e w' => e = .returned (.bool (alikeB n m s t xs ys)) ∧ Below w.heap.size w w' := by
 have R1 := hide ha
 have R2 := hide hb
 have B := hide (qalloc2 w (.cells #[.int .i64 n, .string s, va] 41) (.cells #[.int .i64 m, .string t, vb] 41))
 clear ha hb
 by_cases h1 : n = m
 ·by_cases h2 : s = t
  ·have hq : alikeB n m s t xs ys = decide (xs = ys) := by simp [alikeB, h1, h2]
   rw [hq]
   subst h1 h2
   clear hq
   go_enter Tryz.func134, Tryz.ntmps134
   go_wp2_with fail
   refine (l7Ints_any va vb xs ys _ (R1.out.below B.out (Nat.le_refl _)) (R2.out.below B.out (Nat.le_refl _))).mono ?_
   rintro e w1 ⟨rfl, d, rfl⟩
   go_wp2
   go_ret
   exact ⟨rfl, below_drewN' B.out _⟩
  ·have hq : alikeB n m s t xs ys = false := by simp [alikeB, h2]
   rw [hq]
   subst h1
   have hd := str_ne h2
   clear hq
   go_enter Tryz.func134, Tryz.ntmps134
   go_wp2
   go_ret
   exact ⟨rfl, B.out⟩
 ·have hq : alikeB n m s t xs ys = false := by simp [alikeB, h1]
  rw [hq]
  have hd : (n == m) = false := by simpa using h1
  clear hq
  go_enter Tryz.func134, Tryz.ntmps134
  go_wp2
  go_ret
  exact ⟨rfl, B.out⟩

theorem qsame_any (g g' : Nat) (n m : Int) (s t : ByteArray) (va vb : Value) (xs ys : List Int) (w : World) (hg : Loc w g #[.int .i64 n, .string s, va]) (hg' : Loc w g' #[.int .i64 m, .string t, vb]) (ha : RI w va xs) (hb : RI w vb ys) :
 Calls Tryz.prog 185 #[.pointer (some ⟨g, 0, none⟩), .pointer (some ⟨g', 0, none⟩)] w fun e w' => e = .returned (.bool (alikeB n m s t xs ys)) ∧ ∃ d, w' = w.drewN d := by
 have EQ := hide fun d => sEqual_any va vb xs ys (w.drewN d) (ha) (hb)
 have x0 := hg.cell 0 rfl
 have x1 := hg.cell 1 rfl
 have x2 := hg.cell 2 rfl
 have y0 := hg'.cell 0 rfl
 have y1 := hg'.cell 1 rfl
 have y2 := hg'.cell 2 rfl
 clear ha hb hg hg'
 by_cases h1 : n = m
 ·by_cases h2 : s = t
  ·have hq : alikeB n m s t xs ys = decide (xs = ys) := by simp [alikeB, h1, h2]
   rw [hq]
   subst h1 h2
   clear hq
   go_enter Tryz.func185, Tryz.ntmps185
   go_wp2_with fail
   go_quiet (first | (go_at_call 225; exact Calls.quiet_of (EQ.out _)))
   go_wp2
   go_ret
   exact ⟨rfl, _, rfl⟩
  ·have hq : alikeB n m s t xs ys = false := by simp [alikeB, h2]
   rw [hq]
   subst h1
   have hd := str_ne h2
   clear hq
   go_enter Tryz.func185, Tryz.ntmps185
   go_wp2_with fail
   go_quiet (fail)
   go_wp2
   go_ret
   exact ⟨rfl, _, rfl⟩
 ·have hq : alikeB n m s t xs ys = false := by simp [alikeB, h1]
  rw [hq]
  have hd : (n == m) = false := by simpa using h1
  clear hq
  go_enter Tryz.func185, Tryz.ntmps185
  go_wp2_with fail
  go_quiet (fail)
  go_wp2
  go_ret
  exact ⟨rfl, _, rfl⟩

def bsamB (m m' : ByteArray) (v v' : Int) (s s' : ByteArray) (xs ys : List Int) : Bool := decide (m = m' ∧ v = v' ∧ s = s' ∧ xs = ys)
theorem str_same {s t : ByteArray} (h : s = t) : (s.toList == t.toList) = true := by simp [h]
theorem str_other {t s : ByteArray} (h : t ≠ s) : (t.toList == s.toList) = false := by
 rw [beq_eq_false_iff_ne]
 intro e
 rw [ByteArray.toList_eq, ByteArray.toList_eq] at e
 exact h (ByteArray.ext (Array.toList_inj.1 e))
def xt (xs : List Int) : ByteArray := ⟨(digL xs).toArray⟩
theorem xt_inj {xs ys : List Int} (h : xt xs = xt ys) : xs = ys := by
 have := congrArg (fun s : ByteArray => s.data.toList) h
 exact digL_inj (by simpa [xt] using this)
theorem dgt_inj {n m : Int} (h : dgt n = dgt m) : n = m := by
 have := congrArg (fun s : ByteArray => s.data.toList) h
 exact itoa_inj (by simpa [dgt] using this)
theorem str_dec (s t : ByteArray) : (s.toList == t.toList) = decide (s = t) := by
 by_cases h : s = t
 ·rw [str_same h]; simp [h]
 ·rw [str_other h]; simp [h]
theorem bsame_eq (m m' : ByteArray) (v v' : Int) (s s' : ByteArray) (xs ys : List Int) : (m.toList == m'.toList && ((dgt v).toList == (dgt v').toList && (s.toList == s'.toList && (xt xs).toList == (xt ys).toList))) = bsamB m m' v v' s s' xs ys := by
 rw [str_dec, str_dec, str_dec, str_dec]
 have e1 : (dgt v = dgt v') ↔ v = v' := ⟨dgt_inj, fun h => by rw [h]⟩
 have e2 : (xt xs = xt ys) ↔ xs = ys := ⟨xt_inj, fun h => by rw [h]⟩
 simp [bsamB, e1, e2]

theorem text_any (m : ByteArray) (v : Int) (s : ByteArray) (ao : Option Addr) (ca : Nat) (xs : List Int) (w : World) (h0 : -9223372036854775808 ≤ v) (h1 : v ≤ 9223372036854775807) (hw : In64 xs) (hP : Pow w) (ha : RI w (.slice ao xs.length ca) xs) :
 Calls Tryz.prog 245 #[bv m v s (.slice ao xs.length ca)] w fun e w' => e = .returned (tv m (dgt v) s (xt xs)) ∧ Below w.heap.size w w' := by
 obtain ⟨w0, hw0⟩ : ∃ w0, (w.alloc (.cells #[.string m, .int .i64 v, .string s, .slice ao xs.length ca] 81)).alloc (.cells #[.string ⟨#[]⟩, .string ⟨#[]⟩, .string ⟨#[]⟩, .string ⟨#[]⟩] 295) = w0 := ⟨_, rfl⟩
 have Bw0 : Below w.heap.size w w0 := hw0 ▸ qalloc2 _ _ _
 have LB : Loc w0 w.heap.size #[.string m, .int .i64 v, .string s, .slice ao xs.length ca] := hw0 ▸ (loc_at w _ _ rfl).alloc _
 have LT : Loc w0 (w.heap.size + 1) #[.string ⟨#[]⟩, .string ⟨#[]⟩, .string ⟨#[]⟩, .string ⟨#[]⟩] := hw0 ▸ loc_at (w.alloc _) _ _ (by simp)
 have DI := hide fun w' (b : Below w0.heap.size w0 w') => implDigits_any v w' h0 h1 ((hP.below Bw0).below b)
 have DO := hide fun w' (b : Below w0.heap.size w0 w') => digitsOf_any (.slice ao xs.length ca) xs w' ((ha.below Bw0).below b) hw ((hP.below Bw0).below b)
 have e1 : (⟨(Lib.itoa v).toArray⟩ : ByteArray) = dgt v := rfl
 have e2 : (⟨(digL xs).toArray⟩ : ByteArray) = xt xs := rfl
 rw [e1] at DI
 rw [e2] at DO
 clear e1 e2 ha hw hP
 generalize dgt v = d at *
 generalize xt xs = x at *
 go_enter Tryz.func245, Tryz.ntmps245
 have K : Hid (∀ w', Below w0.heap.size w0 w' → (fun w' => w'.cell? ⟨w.heap.size, 0, none⟩ = some (.string m) ∧ w'.cell? ⟨w.heap.size, 1, none⟩ = some (.int .i64 v) ∧ w'.cell? ⟨w.heap.size, 2, none⟩ = some (.string s) ∧ w'.cell? ⟨w.heap.size, 3, none⟩ = some (.slice ao xs.length ca)) w') := hide fun w' hb' => ⟨(LB.up hb').cell 0 rfl, (LB.up hb').cell 1 rfl, (LB.up hb').cell 2 rfl, (LB.up hb').cell 3 rfl⟩
 go_upto_region 1 with fail
 clear hw0
 have bA : Below w0.heap.size w0 w0.drew := Below.drew (Below.refl _ _)
 refine wrn K bA (fun hHeld => ?_)
 refine' tj 0 3 rfl ?_ ?_;rotate_left
 ·intro w h; (try dsimp only at h); go_simp; try with_reducible rfl
 simp only [pU]
 refine' tj 2 5 rfl ?_ ?_;rotate_left
 ·intro w h; (try dsimp only at h); go_simp; try with_reducible rfl
 simp only [pU]
 refine' tj 6 9 rfl ?_ ?_;rotate_left
 ·intro w h; (try dsimp only at h); go_simp; try with_reducible rfl
 simp only [pU]
 refine' tj 9 12 rfl ?_ ?_;rotate_left
 ·intro w h; (try dsimp only at h); go_simp; try with_reducible rfl
 simp only [pU]
 refine' tj 1 4 rfl ?_ ?_;rotate_left
 ·intro w h; (try dsimp only at h); go_simp; try with_reducible rfl
 simp only [pU]
 refine' tj 3 6 rfl ?_ ?_;rotate_left
 ·intro w h; (try dsimp only at h); go_simp; try with_reducible rfl
 simp only [pU]
 refine' tj 7 10 rfl ?_ ?_;rotate_left
 ·intro w h; (try dsimp only at h); go_simp; try with_reducible rfl
 simp only [pU]
 refine' tj 10 13 rfl ?_ ?_;rotate_left
 ·intro w h; (try dsimp only at h); go_simp; try with_reducible rfl
 simp only [pU]
 refine' tj 4 7 rfl ?_ ?_;rotate_left
 ·intro w h; (try dsimp only at h); go_simp; try with_reducible rfl
 simp only [pU]
 refine' tj 8 11 rfl ?_ ?_;rotate_left
 ·intro w h; (try dsimp only at h); go_simp; try with_reducible rfl
 simp only [pU]
 refine' tj 11 14 rfl ?_ ?_;rotate_left
 ·intro w h; (try dsimp only at h); go_simp; try with_reducible rfl
 simp only [pU]
 refine rd 5 rfl (fun KK hKK => ?_)
 go_simp
 have hgo := bA
 refine (DI.out _ hgo).mono ?_
 rintro e wz1 ⟨rfl, bb⟩
 have bz1 : Below w0.heap.size w0 wz1 := bu bA bb
 clear bA hgo bb
 clear hHeld
 refine hKK.out _ _ (K.out _ bz1) (fun hHeld => ?_)
 clear hKK KK
 refine rd 12 rfl (fun KK hKK => ?_)
 go_simp
 have hgo := bz1
 refine (DO.out _ hgo).mono ?_
 rintro e wz2 ⟨rfl, bb⟩
 have bz2 : Below w0.heap.size w0 wz2 := bu bz1 bb
 clear bz1 hgo bb
 clear hHeld
 refine hKK.out _ _ (K.out _ bz2) (fun hHeld => ?_)
 clear hKK KK
 refine' tj 13 16 rfl ?_ ?_;rotate_left
 ·intro w h; (try dsimp only at h); go_simp; try with_reducible rfl
 simp only [pU]
 have LT2 := LT.up bz2
 have q0 := LT2.cell 0 rfl
 have q1 := LT2.cell 1 rfl
 have q2 := LT2.cell 2 rfl
 have q3 := LT2.cell 3 rfl
 have fq := LT2.frozen
 have hl := LT.lt
 have ll := bz2.size
 have LB2 := LB.up bz2
 have k4 := kp4 wz2 (w.heap.size + 1) (.string m) (.string d) (.string s) (.string x)
 have LB3 := LB2.kp k4 (by omega)
 refine rd 14 rfl (fun KK hKK => ?_)
 go_simp
 clear hHeld
 refine hKK.out _ _ ⟨LB3.cell 0 rfl, LB3.cell 1 rfl, LB3.cell 2 rfl, LB3.cell 3 rfl⟩ (fun hHeld => ?_)
 clear hKK KK
 clear hHeld
 refine wdn ?_
 go_wp2
 refine bodyPost_ret (v := tv m d s x) (by simp [results, Tryz.results245, go_sem, q0, q1, q2, q3]) rfl ?_
 exact ⟨rfl, Below.kp (bu Bw0 bz2) k4 (by have := Bw0.size; omega) (fun k hk => by omega)⟩

theorem implBlockSame (m m' : ByteArray) (v v' : Int) (s s' : ByteArray) (ao bo : Option Addr) (ca cb : Nat) (xs ys : List Int) (w : World) (h0 : -9223372036854775808 ≤ v) (h1 : v ≤ 9223372036854775807) (h0' : -9223372036854775808 ≤ v') (h1' : v' ≤ 9223372036854775807) (hw : In64 xs) (hw' : In64 ys) (hP : Pow w) (ha : RI w (.slice ao xs.length ca) xs) (hb : RI w (.slice bo ys.length cb) ys) :
 Calls Tryz.prog 217 #[bv m v s (.slice ao xs.length ca), bv m' v' s' (.slice bo ys.length cb)] w fun e w' => e = .returned (.bool (bsamB m m' v v' s s' xs ys)) ∧ Below w.heap.size w w' := by
 obtain ⟨w0, hw0⟩ : ∃ w0, (w.alloc (.cells #[.string m, .int .i64 v, .string s, .slice ao xs.length ca] 81)).alloc (.cells #[.string m', .int .i64 v', .string s', .slice bo ys.length cb] 81) = w0 := ⟨_, rfl⟩
 have Bw0 : Below w.heap.size w w0 := hw0 ▸ qalloc2 _ _ _
 have LA : Loc w0 w.heap.size #[.string m, .int .i64 v, .string s, .slice ao xs.length ca] := hw0 ▸ (loc_at w _ _ rfl).alloc _
 have LB : Loc w0 (w.heap.size + 1) #[.string m', .int .i64 v', .string s', .slice bo ys.length cb] := hw0 ▸ loc_at (w.alloc _) _ _ (by simp)
 have TA := hide fun w' (b : Below w0.heap.size w0 w') => text_any m v s ao ca xs w' h0 h1 hw ((hP.below Bw0).below b) ((ha.below Bw0).below b)
 have TB := hide fun w' (b : Below w0.heap.size w0 w') => text_any m' v' s' bo cb ys w' h0' h1' hw' ((hP.below Bw0).below b) ((hb.below Bw0).below b)
 have hEQ : ∀ w, (binOp .eql 295 (tv m (dgt v) s (xt xs)) (tv m' (dgt v') s' (xt ys))).run Tryz.prog w = .ok (.bool (bsamB m m' v v' s s' xs ys)) w := fun w => by rw [eq_text, bsame_eq]
 have hG : ∀ x y w, (eqGuard .eql 295 x y (tv m (dgt v) s (xt xs)) (tv m' (dgt v') s' (xt ys))).run Tryz.prog w = .ok () w := fun x y w => guard_text x y _ _ w
 clear ha hb hw hw' hP
 generalize tv m (dgt v) s (xt xs) = A at *
 generalize tv m' (dgt v') s' (xt ys) = C at *
 generalize bsamB m m' v v' s s' xs ys = q at *
 go_enter Tryz.func217, Tryz.ntmps217
 have K : Hid (∀ w', Below w0.heap.size w0 w' → (fun w' => Below w0.heap.size w0 w' ∧ (w'.cell? ⟨w.heap.size, 0, none⟩ = some (.string m) ∧ w'.cell? ⟨w.heap.size, 1, none⟩ = some (.int .i64 v) ∧ w'.cell? ⟨w.heap.size, 2, none⟩ = some (.string s) ∧ w'.cell? ⟨w.heap.size, 3, none⟩ = some (.slice ao xs.length ca)) ∧ (w'.cell? ⟨w.heap.size + 1, 0, none⟩ = some (.string m') ∧ w'.cell? ⟨w.heap.size + 1, 1, none⟩ = some (.int .i64 v') ∧ w'.cell? ⟨w.heap.size + 1, 2, none⟩ = some (.string s') ∧ w'.cell? ⟨w.heap.size + 1, 3, none⟩ = some (.slice bo ys.length cb))) w') := hide fun w' hb' => ⟨hb', ⟨(LA.up hb').cell 0 rfl, (LA.up hb').cell 1 rfl, (LA.up hb').cell 2 rfl, (LA.up hb').cell 3 rfl⟩, ⟨(LB.up hb').cell 0 rfl, (LB.up hb').cell 1 rfl, (LB.up hb').cell 2 rfl, (LB.up hb').cell 3 rfl⟩⟩
 go_upto_region 1 with fail
 clear hw0
 have bA : Below w0.heap.size w0 w0.drew := Below.drew (Below.refl _ _)
 refine wrn K bA (fun hHeld => ?_)
 refine' tj 0 5 rfl ?_ ?_;rotate_left
 ·intro w h; (try dsimp only at h); go_simp; try with_reducible rfl
 simp only [pU]
 refine' tj 2 7 rfl ?_ ?_;rotate_left
 ·intro w h; (try dsimp only at h); go_simp; try with_reducible rfl
 simp only [pU]
 refine rd 1 rfl (fun KK hKK => ?_)
 go_simp
 have hgo := bA
 refine (TA.out _ hgo).mono ?_
 rintro e wz1_1 ⟨rfl, bb⟩
 have bz1 : Below w0.heap.size w0 wz1_1 := bu bA bb
 clear bA hgo bb
 clear hHeld
 refine hKK.out _ _ (K.out _ bz1) (fun hHeld => ?_)
 clear hKK KK
 refine rd 3 rfl (fun KK hKK => ?_)
 go_simp
 have hgo := bz1
 refine (TB.out _ hgo).mono ?_
 rintro e wz1_2 ⟨rfl, bb⟩
 have bz2 : Below w0.heap.size w0 wz1_2 := bu bz1 bb
 clear bz1 hgo bb
 clear hHeld
 refine hKK.out _ _ (K.out _ bz2) (fun hHeld => ?_)
 clear hKK KK
 refine' tj 4 9 rfl ?_ ?_;rotate_left
 ·intro w h; (try dsimp only at h); go_simp; try with_reducible rfl
 simp only [pU]
 refine' tj 5 4 rfl ?_ ?_;rotate_left
 ·intro w h; (try dsimp only at h); go_simp; try with_reducible rfl
 simp only [pU]
 clear hHeld
 refine wdn ?_
 have bb := bz2
 have Bwz1_2 := bu Bw0 bb
 have swz1_2 := bb.size
 replace LA := LA.up bb
 replace LB := LB.up bb
 clear Bw0
 clear bb bz2 K
 go_wp2
 go_ret
 exact ⟨rfl, Bwz1_2⟩

theorem specBlockSame (m m' : ByteArray) (v v' : Int) (s s' : ByteArray) (ao bo : Option Addr) (ca cb : Nat) (xs ys : List Int) (w : World) (ha : RI w (.slice ao xs.length ca) xs) (hb : RI w (.slice bo ys.length cb) ys) :
 Calls Tryz.prog 208 #[bv m v s (.slice ao xs.length ca), bv m' v' s' (.slice bo ys.length cb)] w fun e w' => e = .returned (.bool (bsamB m m' v v' s s' xs ys)) ∧ Below w.heap.size w w' := by
 obtain ⟨w0, hw0⟩ : ∃ w0, (w.alloc (.cells #[.string m, .int .i64 v, .string s, .slice ao xs.length ca] 81)).alloc (.cells #[.string m', .int .i64 v', .string s', .slice bo ys.length cb] 81) = w0 := ⟨_, rfl⟩
 have Bw0 : Below w.heap.size w w0 := hw0 ▸ qalloc2 _ _ _
 have LA : Loc w0 w.heap.size #[.string m, .int .i64 v, .string s, .slice ao xs.length ca] := hw0 ▸ (loc_at w _ _ rfl).alloc _
 have LB : Loc w0 (w.heap.size + 1) #[.string m', .int .i64 v', .string s', .slice bo ys.length cb] := hw0 ▸ loc_at (w.alloc _) _ _ (by simp)
 have QS := hide (specQcSame v v' s s' (.slice ao xs.length ca) (.slice bo ys.length cb) xs ys w0 (ha.below Bw0) (hb.below Bw0))
 have hB : bsamB m m' v v' s s' xs ys = (decide (m = m') && alikeB v v' s s' xs ys) := by simp [bsamB, alikeB]
 rw [hB]
 clear hB ha hb
 generalize alikeB v v' s s' xs ys = q at *
 have cLA0 := LA.cell 0 rfl
 have cLA1 := LA.cell 1 rfl
 have cLA2 := LA.cell 2 rfl
 have cLA3 := LA.cell 3 rfl
 have cLB0 := LB.cell 0 rfl
 have cLB1 := LB.cell 1 rfl
 have cLB2 := LB.cell 2 rfl
 have cLB3 := LB.cell 3 rfl
 by_cases hm : m = m'
 ·have hy := str_same hm
  have hd : decide (m = m') = true := by simpa using hm
  rw [hd, Bool.true_and]
  clear hm hd
  go_enter Tryz.func208, Tryz.ntmps208
  go_wp2_with fail
  clear hw0
  refine QS.out.mono ?_
  rintro e w1 ⟨rfl, b1⟩
  have B1 := bu Bw0 b1
  go_wp2
  go_ret
  exact ⟨rfl, B1⟩
 ·have hy := str_other hm
  have hd : decide (m = m') = false := by simpa using hm
  rw [hd, Bool.false_and]
  clear hm hd
  go_enter Tryz.func208, Tryz.ntmps208
  go_wp2
  go_ret
  exact ⟨rfl, Bw0⟩
end Go.Proofs.YtndpjhiidmdlhaaGreatDoor
