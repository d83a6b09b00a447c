/- Texts that belong together: TextRead, SplitPlain, RoundPlain, NumPlain, TxPlain. -/
import Derived.Test.YtbigcmcliamenaaGreatDoorNAAH
import Derived.Laws.BytesArg
import Derived.WalkKit
import Derived.Test.YtbigcmcliamenaaGreatDoorNAAF
import Derived.Test.YtbigcmcliamenaaGreatDoorNAAE
import Derived.Lib.ItoaNum
import Derived.Lib.Atoi
import Derived.Laws.RangeString
import Derived.Laws.RangeAny
namespace Go.Proofs.YtbigcmcliamenaaGreatDoor
open Go.RowKit

theorem getF_bd (xs : List Int) (hb : Bytes xs) (f i p : Nat) (n : Int) (h0 : 0 ≤ n) (m q : Int) (h : getF xs f i p n = some (m, q)) : 0 ≤ m ∧ m ≤ 2147483647 ∧ (p : Int) < q ∧ q ≤ xs.length := by
 induction f generalizing i p n with
 | zero => simp [getF] at h
 | succ f ih =>
  by_cases hp : p < xs.length
  ·have hx := hb p hp
   have h128 : (0 : Int) ≤ 128 ^ i := Int.pow_nonneg (by omega)
   have hmul : 0 ≤ xs.getD p 0 % 128 * 128 ^ i := Int.mul_nonneg (by omega) h128
   by_cases hd : 128 ≤ xs.getD p 0
   ·rw [getF_more xs f i p n hp hd] at h
    have := ih (i + 1) (p + 1) _ (by omega) h
    omega
   ·by_cases hbad : 2147483647 < n + xs.getD p 0 % 128 * 128 ^ i ∨ (xs.getD p 0 = 0 ∧ 0 < i)
    ·rw [getF_bad xs f i p n hp hd hbad] at h; cases h
    ·rw [getF_end xs f i p n hp hd hbad] at h
     simp only [Option.some.injEq, Prod.mk.injEq] at h
     omega
  ·rw [getF_out xs _ i p n hp] at h; cases h
theorem getNum_bd (xs : List Int) (hb : Bytes xs) (p m q : Int) (h : getNum xs p = some (m, q)) : 0 ≤ m ∧ m ≤ 2147483647 ∧ 0 < q ∧ q ≤ xs.length := by
 by_cases hp : p < 0
 ·rw [getNum_neg xs p hp] at h; cases h
 ·rw [getNum, if_neg hp] at h
  have := getF_bd xs hb 5 0 p.toNat 0 (by omega) m q h
  omega

def textAt (xs : List Int) (q n : Nat) : ByteArray := strOfNums ((xs.drop q).take n)
theorem win_cells {w : World} {b off q n : Nat} {xs : List Int} (h : ∀ k, k < xs.length → w.cell? ⟨b, off + k, none⟩ = some (.int .u8 (xs.getD k 0))) (hq : q + n ≤ xs.length) :
 ∀ i, i < n → w.cell? ⟨b, off + q + i, none⟩ = some (.int .u8 (((xs.drop q).take n).getD i 0)) := by
 intro i hi
 rw [Nat.add_assoc, h (q + i) (by omega)]
 simp [List.getD_eq_getElem?_getD, List.getElem?_drop, hi]
theorem win_len (xs : List Int) (q n : Nat) (hq : q + n ≤ xs.length) : ((xs.drop q).take n).length = n := by simp; omega

set_option maxHeartbeats 800000 in
set_option maxRecDepth 100000 in
theorem readText_some (v : Value) (xs : List Int) (p : Int) (n q : Nat) (u : TypeId) (pv : Value) (w : World) (h : RB w v xs) (hb : Bytes xs) (he : w.cell? ⟨1, 0, none⟩ = some (.iface u pv)) (hr : Hid (getNum xs p = some ((n : Int), (q : Int)))) (hn : n ≤ 2147483647) (hq : 0 < q) (hl : q + n ≤ xs.length) :
 Calls Tryz.prog 145 #[v, .int .i64 p] w fun e w' => e = .returned (.tuple #[.string (textAt xs q n), .int .i64 ((q : Int) + n)]) ∧ w' = w := by
 have hr1 := fun w (h : RB w v xs) (he : w.cell? ⟨1, 0, none⟩ = some (.iface u pv)) => readNum_some v xs p n q u pv w h hb he hr.out
 have HR := hide hr1
 clear hr1
 have h' := h
 obtain ⟨hlen, ao, ca, rfl, ⟨hcap, hcm⟩, hc⟩ := h'
 unfold maxLen at hcm
 rcases hc with rfl | ⟨b, off, rfl, hc⟩
 ·simp at hl; omega
 by_cases hcq : ca = q
 ·obtain rfl : n = 0 := by omega
  have hcv := run_convert_bytes_arg (P := Tryz.prog) w 22 5 Tryz.underlying22 Tryz.underlying5 b off 0 0 [] rfl (fun i hi => by omega) 9 Tryz.underlying9
  clear hc
  subst hcq
  go_enter Tryz.func145, Tryz.ntmps145
  go_wp2_with fail
  refine (unhide HR _ h he).mono ?_
  rintro e w' ⟨rfl, rfl⟩
  go_wp2
  go_ret2
  exact ⟨by simp [textAt], rfl⟩
 ·have hcv := run_convert_bytes_arg (P := Tryz.prog) w 22 5 Tryz.underlying22 Tryz.underlying5 b (off + q) n (ca - q) ((xs.drop q).take n) (win_len xs q n hl) (win_cells hc hl) 9 Tryz.underlying9
  clear hc
  go_enter Tryz.func145, Tryz.ntmps145
  go_wp2_with fail
  refine (unhide HR _ h he).mono ?_
  rintro e w' ⟨rfl, rfl⟩
  go_wp2
  go_ret2
  exact ⟨rfl, rfl⟩

set_option maxHeartbeats 800000 in
set_option maxRecDepth 100000 in
theorem readText_far (v : Value) (xs : List Int) (p : Int) (n q : Nat) (u : TypeId) (pv : Value) (w : World) (h : RB w v xs) (hb : Bytes xs) (he : w.cell? ⟨1, 0, none⟩ = some (.iface u pv)) (hr : Hid (getNum xs p = some ((n : Int), (q : Int)))) (hn : n ≤ 2147483647) (hq : q ≤ xs.length) (hl : xs.length < q + n) :
 Calls Tryz.prog 145 #[v, .int .i64 p] w fun e w' => e = .panicked [{ v := .iface u pv, recovered := false }] ∧ w' = w := by
 have hr1 := fun w (h : RB w v xs) (he : w.cell? ⟨1, 0, none⟩ = some (.iface u pv)) => readNum_some v xs p n q u pv w h hb he hr.out
 have HR := hide hr1
 clear hr1
 have h' := h
 obtain ⟨hlen, ao, ca, rfl, _, hc⟩ := h'
 clear hc
 go_enter Tryz.func145, Tryz.ntmps145
 go_wp2_with fail
 refine (unhide HR _ h he).mono ?_
 rintro e w' ⟨rfl, rfl⟩
 go_wp2
 exact ⟨rfl, rfl, rfl⟩

set_option maxHeartbeats 800000 in
set_option maxRecDepth 100000 in
theorem readText_none (v : Value) (xs : List Int) (p : Int) (u : TypeId) (pv : Value) (w : World) (h : RB w v xs) (hb : Bytes xs) (he : w.cell? ⟨1, 0, none⟩ = some (.iface u pv)) (hr : Hid (getNum xs p = none)) :
 Calls Tryz.prog 145 #[v, .int .i64 p] w fun e w' => e = .panicked [{ v := .iface u pv, recovered := false }] ∧ w' = w := by
 have hr1 := fun w (h : RB w v xs) (he : w.cell? ⟨1, 0, none⟩ = some (.iface u pv)) => readNum_none v xs p u pv w h hb he hr.out
 have HR := hide hr1
 clear hr1
 have h' := h
 obtain ⟨hlen, ao, ca, rfl, _, hc⟩ := h'
 clear hc
 go_enter Tryz.func145, Tryz.ntmps145
 go_wp2_with fail
 refine (unhide HR _ h he).mono ?_
 rintro e w' ⟨rfl, rfl⟩
 go_wp2
 exact ⟨rfl, rfl, rfl⟩

def getText (xs : List Int) (p : Int) : Option (ByteArray × Int) :=
 match getNum xs p with
 | some (n, q) => if n ≤ (xs.length : Int) - q then some (textAt xs q.toNat n.toNat, q + n) else none
 | none => none

theorem readText_yes (v : Value) (xs : List Int) (p : Int) (s : ByteArray) (r : Int) (u : TypeId) (pv : Value) (w : World) (h : RB w v xs) (hb : Bytes xs) (he : w.cell? ⟨1, 0, none⟩ = some (.iface u pv)) (hr : getText xs p = some (s, r)) :
 Calls Tryz.prog 145 #[v, .int .i64 p] w fun e w' => e = .returned (.tuple #[.string s, .int .i64 r]) ∧ w' = w := by
 unfold getText at hr
 cases hg : getNum xs p with
 | none => rw [hg] at hr; cases hr
 | some x =>
  obtain ⟨n, q⟩ := x
  have bd := getNum_bd xs hb p n q hg
  rw [hg] at hr
  by_cases hl : n ≤ (xs.length : Int) - q
  ·simp only [if_pos hl, Option.some.injEq, Prod.mk.injEq] at hr
   obtain ⟨rfl, rfl⟩ := hr
   obtain ⟨n, rfl⟩ := Int.eq_ofNat_of_zero_le bd.1
   obtain ⟨q, rfl⟩ := Int.eq_ofNat_of_zero_le (show 0 ≤ q by omega)
   exact readText_some v xs p n q u pv w h hb he hg (by omega) (by omega) (by omega)
  ·simp [if_neg hl] at hr
theorem readText_no (v : Value) (xs : List Int) (p : Int) (u : TypeId) (pv : Value) (w : World) (h : RB w v xs) (hb : Bytes xs) (he : w.cell? ⟨1, 0, none⟩ = some (.iface u pv)) (hr : getText xs p = none) :
 Calls Tryz.prog 145 #[v, .int .i64 p] w fun e w' => e = .panicked [{ v := .iface u pv, recovered := false }] ∧ w' = w := by
 unfold getText at hr
 cases hg : getNum xs p with
 | none => exact readText_none v xs p u pv w h hb he hg
 | some x =>
  obtain ⟨n, q⟩ := x
  have bd := getNum_bd xs hb p n q hg
  rw [hg] at hr
  by_cases hl : n ≤ (xs.length : Int) - q
  ·simp [if_pos hl] at hr
  ·obtain ⟨n, rfl⟩ := Int.eq_ofNat_of_zero_le bd.1
   obtain ⟨q, rfl⟩ := Int.eq_ofNat_of_zero_le (show 0 ≤ q by omega)
   exact readText_far v xs p n q u pv w h hb he hg (by omega) (by omega) (by omega)
end Go.Proofs.YtbigcmcliamenaaGreatDoor
namespace Go.Proofs.YtbigcmcliamenaaGreatDoor

def pcs (s : ByteArray) (b : Int) : Nat → List ByteArray × Nat
 | 0 => ([], 0)
 | k + 1 => if ((s.data.toList.getD k 0).toNat : Int) = b then ((pcs s b k).1 ++ [s.extract (pcs s b k).2 k], k + 1) else pcs s b k
theorem pcs_le (s : ByteArray) (b : Int) (k : Nat) : (pcs s b k).2 ≤ k ∧ (pcs s b k).1.length ≤ k := by
 induction k with
 | zero => simp [pcs]
 | succ k ih =>
  rw [pcs]; split
  ·simp; omega
  ·omega
def splitAns (s : ByteArray) (b : Int) : List ByteArray := (pcs s b s.size).1 ++ [s.extract (pcs s b s.size).2 s.size]
theorem splitAns_len (s : ByteArray) (b : Int) : (splitAns s b).length ≤ s.size + 1 := by
 have := (pcs_le s b s.size).2
 simp [splitAns]; omega
theorem pcs_hit (s : ByteArray) (b : Int) (k : Nat) (h : k < s.size) (hb : (s[k].toNat : Int) = b) : pcs s b (k + 1) = ((pcs s b k).1 ++ [s.extract (pcs s b k).2 k], k + 1) := by
 rw [pcs, if_pos]
 rw [← hb]
 have : s.data.toList.getD k 0 = s[k] := by rw [List.getD_eq_getElem?_getD, List.getElem?_eq_getElem (by simpa using h)]; rfl
 rw [this]
theorem pcs_miss (s : ByteArray) (b : Int) (k : Nat) (h : k < s.size) (hb : (s[k].toNat : Int) ≠ b) : pcs s b (k + 1) = pcs s b k := by
 rw [pcs, if_neg]
 have : s.data.toList.getD k 0 = s[k] := by rw [List.getD_eq_getElem?_getD, List.getElem?_eq_getElem (by simpa using h)]; rfl
 rw [this]; exact hb

theorem getF_put (pre post : List Int) (f m i : Nat) (n : Int) (h0 : 0 ≤ n) (hm : m < 128 ^ (f + 1)) (hi : 0 < i → 0 < m) (hle : n + (m : Int) * 128 ^ i ≤ 2147483647) :
 getF (pre ++ put f m ++ post) (f + 1) i pre.length n = some (n + (m : Int) * 128 ^ i, (pre.length : Int) + (put f m).length) := by
 induction f generalizing pre m i n with
 | zero =>
  have hm' : m ≤ 127 := by simp at hm; omega
  have hp : pre.length < (pre ++ put 0 m ++ post).length := by simp [put]
  have hd : (pre ++ put 0 m ++ post).getD pre.length 0 = (m : Int) := by simp [put]
  have hmod : (m : Int) % 128 = m := by omega
  rw [getF_end _ 0 i pre.length n hp (by rw [hd]; omega) (by rw [hd, hmod]; omega), hd, hmod]
  simp [put]
 | succ f ih =>
  by_cases hs : m ≤ 127
  ·have hpt : put (f + 1) m = [(m : Int)] := put_small (f + 1) m hs
   rw [hpt]
   have hp : pre.length < (pre ++ [(m : Int)] ++ post).length := by simp
   have hd : (pre ++ [(m : Int)] ++ post).getD pre.length 0 = (m : Int) := by simp
   have hmod : (m : Int) % 128 = m := by omega
   rw [getF_end _ (f + 1) i pre.length n hp (by rw [hd]; omega) (by rw [hd, hmod]; omega), hd, hmod]
   simp
  ·have hpt : put (f + 1) m = ((m : Int) % 128 + 128) :: put f (m / 128) := put_great f m (by omega)
   rw [hpt]
   have hp : pre.length < (pre ++ (((m : Int) % 128 + 128) :: put f (m / 128)) ++ post).length := by simp
   have hd : (pre ++ (((m : Int) % 128 + 128) :: put f (m / 128)) ++ post).getD pre.length 0 = (m : Int) % 128 + 128 := by simp
   have hmod : ((m : Int) % 128 + 128) % 128 = (m : Int) % 128 := by omega
   rw [getF_more _ (f + 1) i pre.length n hp (by rw [hd]; omega), hd, hmod]
   have hl : pre ++ (((m : Int) % 128 + 128) :: put f (m / 128)) ++ post = (pre ++ [(m : Int) % 128 + 128]) ++ put f (m / 128) ++ post := by simp
   have hpow : (128 : Int) ^ (i + 1) = 128 ^ i * 128 := Int.pow_succ 128 i
   have h128 : (0 : Int) ≤ 128 ^ i := Int.pow_nonneg (by omega)
   have hval : n + (m : Int) % 128 * 128 ^ i + ((m / 128 : Nat) : Int) * 128 ^ (i + 1) = n + (m : Int) * 128 ^ i := by
    rw [hpow]
    have hdm : (m : Int) = (m : Int) % 128 + 128 * ((m / 128 : Nat) : Int) := by omega
    have : (m : Int) * 128 ^ i = ((m : Int) % 128 + 128 * ((m / 128 : Nat) : Int)) * 128 ^ i := by rw [← hdm]
    rw [this, Int.add_mul, Int.mul_comm (128 ^ i) 128, ← Int.mul_assoc, Int.mul_comm ((m / 128 : Nat) : Int) 128]
    omega
   have hge : 0 ≤ (m : Int) % 128 * 128 ^ i := Int.mul_nonneg (by omega) h128
   have := ih (pre ++ [(m : Int) % 128 + 128]) (m / 128) (i + 1) (n + (m : Int) % 128 * 128 ^ i) (by omega) (by rw [Nat.pow_succ] at hm; exact Nat.div_lt_of_lt_mul (by rw [Nat.mul_comm]; exact hm)) (by omega) (by rw [hval]; exact hle)
   rw [hl]
   rw [show (pre ++ [(m : Int) % 128 + 128]).length = pre.length + 1 from by simp] at this
   rw [this, hval]
   simp; omega

theorem getF_back (xs : List Int) (hb : ∀ k, k < xs.length → 0 ≤ xs.getD k 0 ∧ xs.getD k 0 ≤ 255) (f i p : Nat) (n m q : Int) (h : getF xs (f + 1) i p n = some (m, q)) :
 ∃ (r e : Nat), m = n + (r : Int) * 128 ^ i ∧ r < 128 ^ (f + 1) ∧ (0 < i → 0 < r) ∧ q = (p : Int) + e ∧ p + e ≤ xs.length ∧ (xs.drop p).take e = put f r := by
 induction f generalizing i p n with
 | zero =>
  by_cases hp : p < xs.length
  ·have hx := hb p hp
   by_cases hd : 128 ≤ xs.getD p 0
   ·rw [getF_more xs 0 i p n hp hd] at h; simp [getF] at h
   ·by_cases hbad : 2147483647 < n + xs.getD p 0 % 128 * 128 ^ i ∨ (xs.getD p 0 = 0 ∧ 0 < i)
    ·rw [getF_bad xs 0 i p n hp hd hbad] at h; cases h
    ·rw [getF_end xs 0 i p n hp hd hbad] at h
     simp only [Option.some.injEq, Prod.mk.injEq] at h
     obtain ⟨d, hdd⟩ := Int.eq_ofNat_of_zero_le hx.1
     have hdrop : (xs.drop p).take 1 = [xs.getD p 0] := by
      rw [List.drop_eq_getElem_cons hp, List.take_succ_cons, List.take_zero, List.getD_eq_getElem?_getD, List.getElem?_eq_getElem hp]; rfl
     refine ⟨d, 1, ?_, by simp; omega, by omega, by omega, by omega, ?_⟩
     ·rw [← h.1, hdd, show ((d : Int) % 128) = d from by omega]
     ·rw [hdrop, hdd]; simp [put]
  ·rw [getF_out xs _ i p n hp] at h; cases h
 | succ f ih =>
  by_cases hp : p < xs.length
  ·have hx := hb p hp
   have hdrop : xs.drop p = xs.getD p 0 :: xs.drop (p + 1) := by
    rw [List.drop_eq_getElem_cons hp, List.getD_eq_getElem?_getD, List.getElem?_eq_getElem hp]; rfl
   obtain ⟨d, hdd⟩ := Int.eq_ofNat_of_zero_le hx.1
   by_cases hd : 128 ≤ xs.getD p 0
   ·rw [getF_more xs (f + 1) i p n hp hd] at h
    obtain ⟨r, e, h1, h2, h3, h4, h5, h6⟩ := ih (i + 1) (p + 1) _ h
    have hr := h3 (by omega)
    refine ⟨d % 128 + 128 * r, e + 1, ?_, ?_, by omega, by omega, by omega, ?_⟩
    ·rw [h1, hdd, Int.pow_succ, Int.natCast_add, Int.natCast_mul, Int.add_mul, Int.natCast_emod]
     have e1 : ((128 : Nat) : Int) * (r : Int) * 128 ^ i = (r : Int) * (128 ^ i * 128) := by
      rw [Int.mul_comm ((128 : Nat) : Int) (r : Int), Int.mul_assoc, Int.mul_comm ((128 : Nat) : Int) (128 ^ i)]; rfl
     rw [e1]
     have e2 : ((128 : Nat) : Int) = 128 := rfl
     rw [e2]; omega
    ·rw [Nat.pow_succ]; omega
    ·rw [hdrop, List.take_succ_cons, h6, put_great f _ (by omega)]
     rw [show (d % 128 + 128 * r) / 128 = r from by omega, hdd]
     congr 1; omega
   ·by_cases hbad : 2147483647 < n + xs.getD p 0 % 128 * 128 ^ i ∨ (xs.getD p 0 = 0 ∧ 0 < i)
    ·rw [getF_bad xs (f + 1) i p n hp hd hbad] at h; cases h
    ·rw [getF_end xs (f + 1) i p n hp hd hbad] at h
     simp only [Option.some.injEq, Prod.mk.injEq] at h
     refine ⟨d, 1, ?_, ?_, by omega, by omega, by omega, ?_⟩
     ·rw [← h.1, hdd, show ((d : Int) % 128) = d from by omega]
     ·have : (128 : Nat) ≤ 128 ^ (f + 1 + 1) := by
       rw [Nat.pow_succ]; have : 0 < 128 ^ (f + 1) := Nat.pow_pos (by omega); omega
      omega
     ·rw [hdrop, hdd, put_small (f + 1) d (by omega)]; simp
  ·rw [getF_out xs _ i p n hp] at h; cases h

theorem getNum_back (xs : List Int) (hb : BytesL xs) (p m q : Int) (h : getNum xs p = some (m, q)) :
 ∃ (k e : Nat), p = k ∧ q = (k : Int) + e ∧ k + e ≤ xs.length ∧ 0 ≤ m ∧ m ≤ 2147483647 ∧ (xs.drop k).take e = putAns m := by
 have bd := getNum_bd xs hb.get p m q h
 by_cases hp : p < 0
 ·rw [getNum_neg xs p hp] at h; cases h
 ·obtain ⟨k, rfl⟩ := Int.eq_ofNat_of_zero_le (Int.not_lt.1 hp)
  rw [getNum_nat] at h
  obtain ⟨r, e, h1, h2, _, h4, h5, h6⟩ := getF_back xs hb.get 4 0 k 0 m q h
  have hm : m = (r : Int) := by rw [h1]; simp
  subst hm
  exact ⟨k, e, rfl, h4, h5, by omega, by omega, by rw [h6, putAns_yes r (by omega)]⟩

theorem bs_str (l : List Int) (h : BytesL l) : bs (strOfNums l) = l := by
 unfold bs
 rw [strOfNums_data, List.map_map]
 conv => rhs; rw [← List.map_id l]
 apply List.map_congr_left
 intro x hx
 have := h x hx
 simp; omega
theorem str_bs (s : ByteArray) : strOfNums (bs s) = s := by
 apply ByteArray.ext
 apply Array.toList_inj.1
 rw [strOfNums_data, bs, List.map_map]
 conv => rhs; rw [← List.map_id s.data.toList]
 apply List.map_congr_left
 intro x _
 simp

def joinTo (b : UInt8) (ps : List ByteArray) : Nat → List UInt8
 | 0 => []
 | j + 1 => (if 0 < j then joinTo b ps j ++ [b] else joinTo b ps j) ++ (ps.getD j ByteArray.empty).data.toList
theorem joinTo_pre (b : UInt8) (ps qs : List ByteArray) (j : Nat) (h : j ≤ ps.length) : joinTo b (ps ++ qs) j = joinTo b ps j := by
 induction j with
 | zero => rfl
 | succ j ih =>
  have e : (ps ++ qs).getD j ByteArray.empty = ps.getD j ByteArray.empty := by
   rw [List.getD_eq_getElem?_getD, List.getD_eq_getElem?_getD, List.getElem?_append_left (by omega)]
  rw [joinTo, joinTo, ih (by omega), e]
theorem joinTo_snoc (b : UInt8) (ps : List ByteArray) (x : ByteArray) : joinTo b (ps ++ [x]) (ps.length + 1) = (if 0 < ps.length then joinTo b ps ps.length ++ [b] else joinTo b ps ps.length) ++ x.data.toList := by
 have e : (ps ++ [x]).getD ps.length ByteArray.empty = x := by simp
 rw [joinTo, joinTo_pre b ps [x] ps.length (Nat.le_refl _), e]
theorem ext_cut (s : ByteArray) (i j : Nat) : (s.extract i j).data.toList = (s.data.toList.drop i).take (j - i) := by
 rw [ByteArray.data_extract, Array.toList_extract]
theorem split_inv (s : ByteArray) (b : UInt8) (k : Nat) (hk : k ≤ s.size) :
 ((pcs s b.toNat k).1 = [] ∧ (pcs s b.toNat k).2 = 0) ∨ (0 < (pcs s b.toNat k).1.length ∧ joinTo b (pcs s b.toNat k).1 (pcs s b.toNat k).1.length ++ [b] = s.data.toList.take (pcs s b.toNat k).2) := by
 induction k with
 | zero => left; simp [pcs]
 | succ k ih =>
  have ih := ih (by omega)
  have hks : k < s.size := by omega
  by_cases hb : (s[k].toNat : Int) = b.toNat
  ·rw [pcs_hit s _ k hks hb]
   right
   have hle := (pcs_le s b.toNat k).1
   have hbb : s[k] = b := by
    apply UInt8.toNat_inj.1; omega
   have htk : s.data.toList.take (k + 1) = s.data.toList.take k ++ [b] := by
    rw [List.take_succ_eq_append_getElem (by simpa using hks)]
    congr 1
    rw [← hbb]; rfl
   refine ⟨by simp, ?_⟩
   simp only [List.length_append, List.length_cons, List.length_nil, Nat.zero_add]
   rw [joinTo_snoc, ext_cut, htk]
   congr 1
   rcases ih with ⟨h1, h2⟩ | ⟨h1, h2⟩
   ·rw [h1, h2]; simp [joinTo]
   ·rw [if_pos h1, h2]
    rw [← List.take_add]
    congr 1; omega
  ·rw [pcs_miss s _ k hks hb]; exact ih
theorem split_join (s : ByteArray) (b : UInt8) : joinTo b (splitAns s b.toNat) (splitAns s b.toNat).length = s.data.toList := by
 have hle := (pcs_le s b.toNat s.size).1
 have hinv := split_inv s b s.size (Nat.le_refl _)
 have hlen : s.data.toList.length = s.size := by simp
 unfold splitAns
 simp only [List.length_append, List.length_cons, List.length_nil, Nat.zero_add]
 rw [joinTo_snoc, ext_cut]
 rcases hinv with ⟨h1, h2⟩ | ⟨h1, h2⟩
 ·rw [h1, h2]
  simp only [List.length_nil, joinTo, List.drop_zero, Nat.sub_zero]
  rw [List.take_of_length_le (by omega)]; simp
 ·rw [if_pos h1, h2, ← List.take_add, List.take_of_length_le (by omega)]

theorem decFrom_append (l r : List UInt8) (acc : Nat) : Lib.decFrom acc (l ++ r) = (Lib.decFrom acc l).bind fun a => Lib.decFrom a r := by
 induction l generalizing acc with
 | nil => rfl
 | cons b l ih =>
  rw [List.cons_append, Lib.decFrom, Lib.decFrom]
  cases Lib.digitVal b with
  | none => rfl
  | some d => exact ih _
theorem digit_ofNat (k : Nat) (h : k < 10) : Lib.digitVal (UInt8.ofNat (48 + k)) = some k := by
 have e : (UInt8.ofNat (48 + k)).toNat = 48 + k := by simp; omega
 rw [Lib.digitVal, if_pos (by omega), e]; congr 1; omega
theorem decFrom_digits (n : Nat) : Lib.decFrom 0 (Lib.decDigits n) = some n := by
 induction n using Nat.strongRecOn with
 | ind n ih =>
  rw [Lib.decDigits]
  by_cases h : n < 10
  ·rw [dif_pos h]
   simp only [Lib.decFrom, digit_ofNat n h]; simp
  ·rw [dif_neg h, decFrom_append, ih (n / 10) (by omega)]
   simp only [Option.bind_some, Lib.decFrom, digit_ofNat (n % 10) (by omega)]
   congr 1; omega
theorem digits_ne (n : Nat) : Lib.decDigits n ≠ [] := by
 intro h
 have := Lib.decDigits_length n
 rw [h] at this
 have := Lib.nDigits_pos n
 simp at *; omega
theorem atoi_digits (n : Nat) : Lib.atoi (Lib.decDigits n) = some (n : Int) := by
 have hd := decFrom_digits n
 have hne := digits_ne n
 cases hl : Lib.decDigits n with
 | nil => exact absurd hl hne
 | cons b r =>
  rw [hl] at hd
  obtain ⟨d, hb⟩ := Lib.digit_of_decFrom (b :: r) 0 n hd 0 b rfl
  have hb' := Lib.digitVal_eq hb
  have h45 : (b == 45) = false := by
   rw [beq_eq_false_iff_ne]; intro e; subst e; simp at hb'
  have h43 : (b == 43) = false := by
   rw [beq_eq_false_iff_ne]; intro e; subst e; simp at hb'
  simp [Lib.atoi, h45, h43, Lib.decNat, hd]
theorem nDigits_six (n : Nat) (h : n ≤ 999999) : Lib.nDigits n ≤ 6 := by
 have step : ∀ m k, (m < 10 → 1 ≤ k) → (¬ m < 10 → Lib.nDigits (m / 10) + 1 ≤ k) → Lib.nDigits m ≤ k := by
  intro m k h1 h2
  by_cases hm : m < 10
  ·rw [Lib.nDigits_small hm]; exact h1 hm
  ·rw [Lib.nDigits_big hm]; exact h2 hm
 refine step _ _ (fun _ => by omega) fun _ => Nat.succ_le_of_lt (Nat.lt_of_le_of_lt (step _ 5 (fun _ => by omega) fun _ => Nat.succ_le_of_lt (Nat.lt_of_le_of_lt (step _ 4 (fun _ => by omega) fun _ => Nat.succ_le_of_lt (Nat.lt_of_le_of_lt (step _ 3 (fun _ => by omega) fun _ => Nat.succ_le_of_lt (Nat.lt_of_le_of_lt (step _ 2 (fun _ => by omega) fun _ => Nat.succ_le_of_lt (Nat.lt_of_le_of_lt (step _ 1 (fun _ => by omega) fun _ => ?_) (by omega))) (by omega))) (by omega))) (by omega))) (by omega))
 omega

def numOf (l : List UInt8) : Option Nat :=
 match Lib.decFrom 0 l with
 | some n => if n ≤ 999999 ∧ Lib.decDigits n = l then some n else none
 | none => none
theorem numOf_some {l : List UInt8} {n : Nat} (h : numOf l = some n) : n ≤ 999999 ∧ Lib.decDigits n = l := by
 unfold numOf at h
 cases hd : Lib.decFrom 0 l with
 | none => rw [hd] at h; cases h
 | some m =>
  rw [hd] at h
  by_cases hc : m ≤ 999999 ∧ Lib.decDigits m = l
  ·simp only [if_pos hc, Option.some.injEq] at h; subst h; exact hc
  ·simp only [if_neg hc] at h; cases h
theorem numOf_of {n : Nat} (h : n ≤ 999999) : numOf (Lib.decDigits n) = some n := by
 unfold numOf; rw [decFrom_digits]; simp [h]
theorem numOf_len {l : List UInt8} {n : Nat} (h : numOf l = some n) : 1 ≤ l.length ∧ l.length ≤ 6 := by
 obtain ⟨h1, rfl⟩ := numOf_some h
 rw [Lib.decDigits_length]
 exact ⟨Lib.nDigits_pos n, nDigits_six n h1⟩
theorem numOf_none_len {l : List UInt8} (h : l.length < 1 ∨ 6 < l.length) : numOf l = none := by
 cases hn : numOf l with
 | none => rfl
 | some n => have := numOf_len hn; omega
theorem numOf_none_dec {l : List UInt8} (h : Lib.decFrom 0 l = none) : numOf l = none := by unfold numOf; rw [h]
theorem numOf_none_byte {l : List UInt8} {k : Nat} {b : UInt8} (hk : l[k]? = some b) (hb : b.toNat < 48 ∨ 57 < b.toNat) : numOf l = none := by
 refine numOf_none_dec ?_
 cases hd : Lib.decFrom 0 l with
 | none => rfl
 | some n =>
  obtain ⟨d, h⟩ := Lib.digit_of_decFrom l 0 n hd k b hk
  have := Lib.digitVal_eq h
  omega
theorem numOf_yes {l : List UInt8} {n : Nat} (hd : Lib.decFrom 0 l = some n) (hn : n ≤ 999999) (h : Lib.decDigits n = l) : numOf l = some n := by unfold numOf; rw [hd]; simp [hn, h]
theorem numOf_no {l : List UInt8} {n : Nat} (hd : Lib.decFrom 0 l = some n) (h : Lib.decDigits n ≠ l) : numOf l = none := by unfold numOf; rw [hd]; simp [h]
theorem itoa_nat (n : Nat) : Lib.itoa (n : Int) = Lib.decDigits n := by rw [Lib.itoa, if_neg (by omega), Int.toNat_natCast]
def nans (r : Option Nat) : Int := match r with | some n => (n : Int) | none => 0

def hd (m : UInt8) (l : List UInt8) : List UInt8 := l.takeWhile (· != m)
def tl (m : UInt8) (l : List UInt8) : List UInt8 := (l.dropWhile (· != m)).tail
theorem hd_none {m : UInt8} {l : List UInt8} (h : m ∉ l) : hd m l = l := by
 unfold hd
 induction l with
 | nil => rfl
 | cons b l ih =>
  simp at h
  rw [List.takeWhile_cons_of_pos (by simp; exact fun e => h.1 e.symm), ih h.2]
theorem tl_none {m : UInt8} {l : List UInt8} (h : m ∉ l) : tl m l = [] := by
 unfold tl
 induction l with
 | nil => rfl
 | cons b l ih =>
  simp at h
  rw [List.dropWhile_cons_of_pos (by simp; exact fun e => h.1 e.symm)]; exact ih h.2
theorem hd_some {m : UInt8} {x y : List UInt8} (h : m ∉ x) : hd m (x ++ m :: y) = x := by
 unfold hd
 induction x with
 | nil => simp
 | cons b x ih =>
  simp at h
  rw [List.cons_append, List.takeWhile_cons_of_pos (by simp; exact fun e => h.1 e.symm), ih h.2]
theorem tl_some {m : UInt8} {x y : List UInt8} (h : m ∉ x) : tl m (x ++ m :: y) = y := by
 unfold tl
 induction x with
 | nil => simp
 | cons b x ih =>
  simp at h
  rw [List.cons_append, List.dropWhile_cons_of_pos (by simp; exact fun e => h.1 e.symm)]; exact ih h.2
theorem hd_tl {m : UInt8} {l : List UInt8} (h : tl m l ≠ []) : l = hd m l ++ m :: tl m l := by
 unfold hd tl at *
 induction l with
 | nil => simp at h
 | cons b l ih =>
  by_cases hb : b = m
  ·subst hb; simp
  ·rw [List.takeWhile_cons_of_pos (by simpa using hb), List.dropWhile_cons_of_pos (by simpa using hb), List.cons_append]
   rw [List.dropWhile_cons_of_pos (by simpa using hb)] at h
   rw [← ih h]

def f0 (l : List UInt8) : List UInt8 := hd 62 l
def f1 (l : List UInt8) : List UInt8 := hd 58 (tl 62 l)
def f2 (l : List UInt8) : List UInt8 := hd 35 (tl 58 (tl 62 l))
def f3 (l : List UInt8) : List UInt8 := tl 35 (tl 58 (tl 62 l))

def okN (a b c d : Nat) : Prop := a ≤ 3 ∧ b ≤ 3 ∧ c ≤ 1000 ∧ d ≤ 99
def txl (a b c d : Nat) : List UInt8 := Lib.decDigits a ++ 62 :: (Lib.decDigits b ++ 58 :: (Lib.decDigits c ++ 35 :: Lib.decDigits d))
def IsTx (l : List UInt8) (a b c d : Nat) : Prop := okN a b c d ∧ txl a b c d = l

theorem digit_mem {n : Nat} {x : UInt8} (h : x ∈ Lib.decDigits n) : 48 ≤ x.toNat ∧ x.toNat ≤ 57 := by
 obtain ⟨k, hk, e⟩ := List.mem_iff_getElem.1 h
 obtain ⟨d, hd⟩ := Lib.digit_of_decFrom (Lib.decDigits n) 0 n (decFrom_digits n) k x (by rw [List.getElem?_eq_getElem hk, e])
 have := Lib.digitVal_eq hd
 omega
theorem no_mark (n : Nat) (m : UInt8) (h : m.toNat < 48 ∨ 57 < m.toNat) : m ∉ Lib.decDigits n := fun hm => by
 have := digit_mem hm; omega

theorem fields_of {l : List UInt8} {a b c d : Nat} (h : IsTx l a b c d) : f0 l = Lib.decDigits a ∧ f1 l = Lib.decDigits b ∧ f2 l = Lib.decDigits c ∧ f3 l = Lib.decDigits d := by
 obtain ⟨_, rfl⟩ := h
 have h0 : (62 : UInt8) ∉ Lib.decDigits a := no_mark a 62 (by decide)
 have h1 : (58 : UInt8) ∉ Lib.decDigits b := no_mark b 58 (by decide)
 have h2 : (35 : UInt8) ∉ Lib.decDigits c := no_mark c 35 (by decide)
 unfold f0 f1 f2 f3 txl
 rw [hd_some h0, tl_some h0, hd_some h1, tl_some h1, hd_some h2, tl_some h2]
 exact ⟨rfl, rfl, rfl, rfl⟩
theorem nums_of {l : List UInt8} {a b c d : Nat} (h : IsTx l a b c d) : numOf (f0 l) = some a ∧ numOf (f1 l) = some b ∧ numOf (f2 l) = some c ∧ numOf (f3 l) = some d := by
 obtain ⟨e0, e1, e2, e3⟩ := fields_of h
 obtain ⟨⟨h0, h1, h2, h3⟩, _⟩ := h
 rw [e0, e1, e2, e3]
 exact ⟨numOf_of (by omega), numOf_of (by omega), numOf_of (by omega), numOf_of (by omega)⟩
theorem tl_nil (m : UInt8) : tl m [] = [] := rfl
theorem hd_nil (m : UInt8) : hd m [] = [] := rfl
theorem isTx_of {l : List UInt8} {a b c d : Nat} (h0 : numOf (f0 l) = some a) (h1 : numOf (f1 l) = some b) (h2 : numOf (f2 l) = some c) (h3 : numOf (f3 l) = some d) (hk : okN a b c d) : IsTx l a b c d := by
 refine ⟨hk, ?_⟩
 obtain ⟨_, e0⟩ := numOf_some h0
 obtain ⟨_, e1⟩ := numOf_some h1
 obtain ⟨_, e2⟩ := numOf_some h2
 obtain ⟨_, e3⟩ := numOf_some h3
 have n1 := digits_ne b
 have n2 := digits_ne c
 have n3 := digits_ne d
 unfold txl
 rw [e0, e1, e2, e3]
 rw [e1] at n1; rw [e2] at n2; rw [e3] at n3
 unfold f0 f1 f2 f3 at *
 have t0 : tl 62 l ≠ [] := fun e => n1 (by rw [e, hd_nil])
 have t1 : tl 58 (tl 62 l) ≠ [] := fun e => n2 (by rw [e, hd_nil])
 rw [← hd_tl n3, ← hd_tl t1, ← hd_tl t0]
end Go.Proofs.YtbigcmcliamenaaGreatDoor
