/- Texts that belong together: ImplNames, SpecSets, SpecSets2, AscInts, QcOut, QcVoted. -/
import Derived.Test.YtndpjhiidmdlhaaGreatDoorRCAT
import Derived.Lib.LastIndexByte
import Derived.Test.YtndpjhiidmdlhaaGreatDoorRCAA
import Derived.Test.YtndpjhiidmdlhaaGreatDoorRCAB
import Derived.Deep.RegionHeld3
import Derived.BigQuiet
import Derived.Test.YtndpjhiidmdlhaaGreatDoorRCAE
import Derived.Laws.EntriesVeiled
import Derived.Test.YtndpjhiidmdlhaaGreatDoorRCAG
set_option maxRecDepth 100000
set_option maxHeartbeats 8000000
namespace Go.Proofs.YtndpjhiidmdlhaaGreatDoor
open Go.RowKit
set_option linter.unusedSectionVars false
variable [∀ (a b c d : Int), Decidable (Ok4 a b c d)]
variable [∀ (a b c d : Nat), Decidable (okN a b c d)]
variable [∀ (last : Int) (s : St), Decidable (GoodSt last s)]
variable [∀ (x : T4), Decidable (OkT x)]

theorem implNameOk (s : ByteArray) (w : World) (hs : s.size ≤ 33554432) (hE : Env w) :
 Calls Tryz.prog 109 #[.string s] w fun e w' => e = .returned (.bool (stepsAns s).isSome) ∧ Below w.heap.size w w' := by
 have ST:=hide fun w hE => implSteps s w hs hE
 generalize stepsAns s = A at *
 go_enter Tryz.func109, Tryz.ntmps109
 go_wp2_with fail
 refine (ST.out _ hE).mono ?_
 rintro e w1 ⟨v, rfl, _, b1⟩
 go_wp2
 go_ret
 exact ⟨rfl, b1⟩


theorem implHeight (s : ByteArray) (w : World) (hs : s.size ≤ 33554432) (hE : Env w) :
 Calls Tryz.prog 366 #[.string s] w fun e w' => e = .returned (.int .i64 (heightAns s)) ∧ Below w.heap.size w w' := by
 have ST:=hide fun w hE => implSteps s w hs hE
 have hl : ∀ ss, stepsAns s = some ss → ss.length ≤ 30:=fun ss h => ((names_iff _ _).1 h).2.1
 unfold heightAns
 generalize stepsAns s = A at *
 go_enter Tryz.func366, Tryz.ntmps366
 go_wp2_with fail
 refine (ST.out _ hE).mono ?_
 rintro e w1 ⟨v, rfl, o1, b1⟩
 obtain ⟨ao, ca, rfl⟩:=o1.form
 clear o1 ST hE
 cases A with
 | none =>
  go_wp2
  go_ret
  exact ⟨rfl, b1⟩
 | some ss =>
  have hl:=hl ss rfl
  go_wp2
  go_ret
  exact ⟨rfl, b1⟩


theorem implViewOf (s : ByteArray) (w : World) (hs : s.size ≤ 33554432) (hE : Env w) :
 Calls Tryz.prog 211 #[.string s] w fun e w' => e = .returned (.int .i64 (viewAns s)) ∧ Below w.heap.size w w' := by
 have ST:=hide fun w hE => implSteps s w hs hE
 have hl : ∀ ss, stepsAns s = some ss → ss.length ≤ 30 ∧ ∀ x ∈ ss, OkSt x:=fun ss h => ⟨((names_iff _ _).1 h).2.1, ((names_iff _ _).1 h).2.2.1⟩
 unfold viewAns
 generalize stepsAns s = A at *
 go_enter Tryz.func211, Tryz.ntmps211
 go_wp2_with fail
 refine (ST.out _ hE).mono ?_
 rintro e w1 ⟨v, rfl, o1, b1⟩
 cases A with
 | none =>
  obtain ⟨ao, ca, rfl⟩:=o1.form
  clear o1 ST hl
  go_wp2
  go_ret
  exact ⟨rfl, b1⟩
 | some ss =>
  obtain ⟨hl, hok⟩:=hl ss rfl
  obtain ⟨ao, ca, hv, r⟩:=o1.rst (fun x hx => by have:=(hok x hx).2.1; omega)
  subst hv
  clear o1 ST hok
  simp only [Option.getD_some] at *
  rcases r with rfl | ⟨g, rfl, r⟩
  ·go_wp2
   go_ret
   exact ⟨rfl, b1⟩
  ·by_cases h0 : ss.length = 0
   ·obtain rfl:=List.length_eq_zero_iff.1 h0
    go_wp2
    go_ret
    exact ⟨rfl, b1⟩
   ·obtain ⟨n, hn⟩ : ∃ n, ss.length = n + 1:=⟨ss.length - 1, by omega⟩
    obtain ⟨u, c0, c1, _⟩:=r n (by omega)
    have hlast:=hide (show (ss.getLast?.map (·.1)).getD 0 = (ss.getD n zst).1 by
     rw [List.getLast?_eq_getElem?, List.getD_eq_getElem?_getD, List.getElem?_eq_getElem (show ss.length - 1 < ss.length by omega), List.getElem?_eq_getElem (show n < ss.length by omega)]
     simp [hn])
    have hi : ((n + 1 : Nat) : Int) - 1 = n:=by omega
    generalize (ss.getD n zst).1 = x at *
    clear r h0
    go_wp2
    go_ret
    exact ⟨by rw [show ((some ss).getD []) = ss from rfl, hlast.out]; rfl, b1⟩


theorem last_up {s : ByteArray} {ss : List St} (h : stepsAns s = some ss) (h1 : 1 ≤ ss.length) : ∃ k : Nat, k < s.size ∧ Lib.lastIndexByte s 47 = k ∧ s.extract 0 k = upAns s := by
 have hat : ∀ j, j < s.size → s.data.toList[j]? = some s.data[j]!:=fun j hj => by
  rw [getElem!_pos s.data j (by simpa using hj)]; simp
 have hl : s.data.toList.length = s.size:=by simp
 rcases Lib.lastIndexByte_spec s 47 with ⟨_, h2⟩ | ⟨i, hi, e, hx, hn⟩
 ·exfalso
  obtain ⟨h3, _⟩:=(names_iff _ _).1 h
  cases ss with
  | nil => simp at h1
  | cons x ss =>
   have h0 : s.data.toList[0]? = some 47:=by rw [h3]; rfl
   have hz : 0 < s.size:=by
    have:=(List.getElem?_eq_some_iff.1 h0).1
    omega
   have:=h2 0 hz
   rw [hat 0 hz] at h0
   rw [Option.some.inj h0] at this
   exact this rfl
 ·refine ⟨i, hi, e, ?_⟩
  have hi' : s.data.toList[i]? = some 47:=by
   rw [hat i hi]; congr 1
   exact UInt8.toNat_inj.1 (by show s.data[i]!.toNat = 47; omega)
  have hd : (47 : UInt8) ∉ s.data.toList.drop (i + 1):=fun hm => by
   obtain ⟨j, hj, e2⟩:=List.getElem_of_mem hm
   rw [List.length_drop] at hj
   rw [List.getElem_drop] at e2
   have hj2 : i + 1 + j < s.size:=by omega
   have h4:=hat _ hj2
   rw [List.getElem?_eq_getElem (by omega), e2] at h4
   have:=hn (i + 1 + j) (by omega) hj2
   rw [← Option.some.inj h4] at this
   exact this rfl
  have:=up_cut h (i + 1) (by omega) hd (.inr hi')
  rw [← this, ext_toB]; simp

theorem implUpOf (s : ByteArray) (w : World) (hs : s.size ≤ 33554432) (hE : Env w) :
 Calls Tryz.prog 367 #[.string s] w fun e w' => e = .returned (.string (upAns s)) ∧ Below w.heap.size w w' := by
 have HT:=hide fun w hE => implHeight s w hs hE
 have LM:=hide fun w => last_mark 47 s w hs
 have hc : heightAns s < 1 → upAns s = ⟨#[]⟩:=fun h => by
  unfold heightAns at h
  unfold upAns
  cases e : stepsAns s with
  | none => rfl
  | some ss =>
   rw [e] at h
   have : ss = []:=List.length_eq_zero_iff.1 (by simp only at h; omega)
   subst this; rfl
 have hh : ¬ heightAns s < 1 → ∃ k : Nat, k < s.size ∧ Lib.lastIndexByte s 47 = k ∧ s.extract 0 k = upAns s:=fun h => by
  unfold heightAns at h
  cases e : stepsAns s with
  | none => rw [e] at h; simp at h
  | some ss => rw [e] at h; exact last_up e (by simp only at h; omega)
 have e47 : (((47 : UInt8).toNat : Nat) : Int) = 47:=rfl
 rw [e47] at LM
 generalize heightAns s = n at *
 by_cases hn : n < 1
 ·rw [hc hn]
  clear LM hc hh
  have hn' : decide (n < 1) = true:=by simpa using hn
  go_enter Tryz.func367, Tryz.ntmps367
  go_wp2_with fail
  refine (HT.out _ hE).mono ?_
  rintro _ w1 ⟨rfl, b1⟩
  clear HT hE
  go_wp2
  go_ret
  exact ⟨rfl, b1⟩
 ·obtain ⟨k, hk, e1, e2⟩:=hh hn
  rw [e1] at LM
  rw [← e2]
  have CL:=hide fun w => clone_any (s.extract 0 k) w (by rw [ByteArray.size_extract]; omega)
  clear hc hh e1 e2
  have hn' : decide (n < 1) = false:=by simpa using hn
  go_enter Tryz.func367, Tryz.ntmps367
  go_wp2_with fail
  refine (HT.out _ hE).mono ?_
  rintro _ w1 ⟨rfl, b1⟩
  clear HT hE
  go_wp2_with fail
  refine (LM.out _).mono ?_
  rintro _ w2 ⟨rfl, rfl⟩
  go_wp2_with fail
  refine (CL.out _).mono ?_
  rintro _ w3 ⟨rfl, b3⟩
  go_wp2
  go_ret
  exact ⟨rfl, bu b1 b3⟩
end Go.Proofs.YtndpjhiidmdlhaaGreatDoor
namespace Go.Proofs.YtndpjhiidmdlhaaGreatDoor
open Go.RowKit

theorem itake_more (xs : List Int) (k : Nat) (h : k < xs.length) : xs.take (k + 1) = xs.take k ++ [xs.getD k 0] := by
 rw [List.take_succ_eq_append_getElem h, List.getD_eq_getElem?_getD, List.getElem?_eq_getElem h]; rfl
theorem getD_mem_int {xs : List Int} {k : Nat} (h : k < xs.length) : xs.getD k 0 ∈ xs := by
 rw [List.getD_eq_getElem?_getD, List.getElem?_eq_getElem h]; exact List.getElem_mem h
end Go.Proofs.YtndpjhiidmdlhaaGreatDoor
namespace Go.Proofs.YtndpjhiidmdlhaaGreatDoor
open Go.RowKit
set_option linter.unusedSectionVars false

variable [∀ (n : Int) (s : List Int), Decidable (OkL n s)]
theorem ok_more {n : Int} {xs : List Int} {k : Nat} (hk : k < xs.length) (h : OkL n (xs.take k)) (h0 : 0 ≤ xs.getD k 0) (h1 : xs.getD k 0 < n) (h2 : 0 < k → xs.getD (k - 1) 0 < xs.getD k 0) : OkL n (xs.take (k + 1)) := by
 rw [itake_more xs k hk]
 refine ⟨fun x hx => ?_, List.pairwise_append.2 ⟨h.2, by simp, fun x hx y hy => ?_⟩⟩
 ·rcases List.mem_append.1 hx with hx | hx
  ·exact h.1 x hx
  ·simp at hx; subst hx; exact ⟨h0, h1⟩
 ·simp at hy
  subst hy
  by_cases hk0 : 0 < k
  ·have h3:=h2 hk0
   have e : xs.take k = xs.take (k - 1) ++ [xs.getD (k - 1) 0]:=by
    have:=itake_more xs (k - 1) (by omega)
    rwa [show k - 1 + 1 = k by omega] at this
   have hp:=h.2
   rw [e] at hx hp
   rcases List.mem_append.1 hx with hx | hx
   ·have:=(List.pairwise_append.1 hp).2.2 x hx (xs.getD (k - 1) 0) (by simp)
    simp only [List.getD_eq_getElem?_getD] at *
    omega
   ·simp at hx
    simp only [List.getD_eq_getElem?_getD] at *
    omega
  ·have : k = 0:=by omega
   subst this; simp at hx
theorem ok_not {n : Int} {xs : List Int} {k : Nat} (hk : k < xs.length) (h : xs.getD k 0 < 0 ∨ n ≤ xs.getD k 0 ∨ (0 < k ∧ xs.getD k 0 ≤ xs.getD (k - 1) 0)) : ¬ OkL n xs := fun ho => by
 have hm:=ho.1 _ (getD_mem_int hk)
 rcases h with h | h | ⟨h0, h⟩
 ·omega
 ·omega
 ·have:=List.pairwise_iff_getElem.1 ho.2 (k - 1) k (by omega) hk (by omega)
  rw [List.getD_eq_getElem?_getD, List.getD_eq_getElem?_getD, List.getElem?_eq_getElem hk, List.getElem?_eq_getElem (show k - 1 < xs.length by omega)] at h
  simp at h
  omega

theorem specSetOk (m : Int) (v : Value) (xs : List Int) (w : World) (h : RI w v xs) :
 Calls Tryz.prog 160 #[.int .i64 m, v] w fun e w' => e = .returned (.bool (decide (OkL m xs))) ∧ Below w.heap.size w w' := by
 have hl:=h.1
 obtain ⟨ao, ca, rfl⟩:=h.form
 have H:=hide h
 obtain ⟨n, hn⟩ : ∃ n, xs.length = n:=⟨_, rfl⟩
 have Hn:=hide hn
 obtain ⟨r, hr⟩ : ∃ r, decide (OkL m xs) = r:=⟨_, rfl⟩
 have HR:=hide hr
 rw [hn] at hl H ⊢
 rw [hr]
 clear h hn hr
 go_enter Tryz.func160, Tryz.ntmps160
 go_wp2
 go_loopw [5] (fun j wr => ∃ k : Nat, k ≤ n ∧ j = .int .i64 k ∧ Hid (OkL m (xs.take k)) ∧ Below w.heap.size w wr) (fun j _ => n - (intOf j).toNat)
 case atStart => exact ⟨0, Nat.zero_le _, rfl, hide (by simp [OkL]), Below.refl _ _⟩
 case round =>
  obtain ⟨k, hk, rfl, HK, br⟩:=hrel
  have HR2:=hide (H.out.below br)
  by_cases hlt : k < n
  ·have hkx : k < xs.length:=by have:=Hn.out; omega
   obtain ⟨b, off, rfl, c⟩:=HR2.out.at k hkx
   have HP : Hid (0 < k → wr.cell? ⟨b, off + (k - 1), none⟩ = some (.int .i64 (xs.getD (k - 1) 0))):=hide fun h0 => by
    obtain ⟨b', off', e, c'⟩:=HR2.out.at (k - 1) (by omega)
    cases e; exact c'
   have HG:=hide fun h0 h1 h2 => ok_more hkx HK.out h0 h1 h2
   have HB:=hide fun h => ok_not (n:=m) hkx h
   generalize xs.getD k 0 = d at *
   by_cases g0 : d < 0
   ·have hrr : r = false:=by rw [← HR.out]; exact decide_eq_false (HB.out (.inl g0))
    subst hrr
    have g0' : decide (d < 0) = true:=by simpa using g0
    clear HG HB HP HK
    go_wp2_with fail
    go_quiet (fail)
    go_wp2
    go_ret
    exact ⟨rfl, by first | exact br | exact below_drewN' br _⟩
   have g0' : decide (d < 0) = false:=by simpa using g0
   by_cases g1 : m ≤ d
   ·have hrr : r = false:=by rw [← HR.out]; exact decide_eq_false (HB.out (.inr (.inl g1)))
    subst hrr
    have g1' : decide (m ≤ d) = true:=by simpa using g1
    clear HG HB HP HK
    go_wp2_with fail
    go_quiet (fail)
    go_wp2
    go_ret
    exact ⟨rfl, by first | exact br | exact below_drewN' br _⟩
   have g1' : decide (m ≤ d) = false:=by simpa using g1
   by_cases hk0 : 0 < k
   ·have c2:=HP.out hk0
    obtain ⟨j, rfl⟩ : ∃ j, k = j + 1:=⟨k - 1, by omega⟩
    rw [show j + 1 - 1 = j by omega] at c2 HG HB
    generalize xs.getD j 0 = p at *
    have ej : (((j + 1 : Nat) : Int)) - 1 = (j : Int):=by omega
    have hk0' : decide ((0 : Int) < ((j + 1 : Nat) : Int)) = true:=by rw [decide_eq_true_iff]; omega
    by_cases g2 : d ≤ p
    ·have hrr : r = false:=by rw [← HR.out]; exact decide_eq_false (HB.out (.inr (.inr ⟨by omega, g2⟩)))
     subst hrr
     have g2' : decide (d ≤ p) = true:=by simpa using g2
     clear HG HB HP HK
     go_wp2_with fail
     go_quiet (fail)
     go_wp2
     go_ret
     exact ⟨rfl, by first | exact br | exact below_drewN' br _⟩
    ·have g2' : decide (d ≤ p) = false:=by simpa using g2
     have HK':=hide (HG.out (by omega) (by omega) (fun _ => by omega))
     clear HG HB HP HK
     go_wp2_with fail
     go_quiet (fail)
     go_wp2
     go_roundw
     case rel => exact ⟨j + 1 + 1, by omega, by go_num, HK', by first | exact br | exact below_drewN' br _⟩
     case measure => simp [intOf]; omega
   ·obtain rfl : k = 0:=by omega
    rw [Nat.add_zero] at c
    have HK':=hide (HG.out (by omega) (by omega) (fun h => by omega))
    clear HG HB HP HK
    go_wp2_with fail
    go_quiet (fail)
    go_wp2
    go_roundw
    case rel => exact ⟨1, by omega, by go_num, HK', by first | exact br | exact below_drewN' br _⟩
    case measure => simp [intOf]; omega
  ·have hkn : k = xs.length:=by have:=Hn.out; omega
   have hrr : r = true:=by
    rw [← HR.out]
    have:=HK.out
    rw [List.take_of_length_le (by omega)] at this
    exact decide_eq_true this
   subst hrr
   have hd0 : decide ((k : Int) < (n : Int)) = false:=by simp; omega
   clear HK
   go_wp2
   go_ret
   exact ⟨rfl, by first | exact br | exact below_drewN' br _⟩
end Go.Proofs.YtndpjhiidmdlhaaGreatDoor
namespace Go.Proofs.YtndpjhiidmdlhaaGreatDoor
open Go.RowKit
set_option linter.unusedSectionVars false
variable [∀ (n : Int) (s : List Int), Decidable (OkL n s)]

theorem isNaN_int (x : Int) (w : World) : Calls Tryz.prog 243 #[.int .i64 x] w fun e w' => e = .returned (.bool false) ∧ Below w.heap.size w w' := by
 go_enter Tryz.func243, Tryz.ntmps243
 go_wp2
 go_ret
 exact ⟨rfl, Below.refl _ _⟩
def cmpI (x y : Int) : Int := if x < y then -1 else if y < x then 1 else 0
theorem cmpI_lt (x y : Int) : cmpI x y < 0 ↔ x < y := by
 unfold cmpI
 repeat' split
 all_goals omega
theorem compare_int (x y : Int) (w : World) : Calls Tryz.prog 214 #[.int .i64 x,.int .i64 y] w fun e w' => e = .returned (.int .i64 (cmpI x y)) ∧ Below w.heap.size w w' := by
 have NA:=hide fun x w => isNaN_int x w
 unfold cmpI
 by_cases h1 : x < y
 ·rw [if_pos h1]
  have d1 : decide (x < y) = true:=by simpa using h1
  clear h1
  go_enter Tryz.func214, Tryz.ntmps214
  go_wp2_with fail
  refine (NA.out _ _).mono ?_
  rintro _ w1 ⟨rfl, b1⟩
  go_wp2_with fail
  refine (NA.out _ _).mono ?_
  rintro _ w2 ⟨rfl, b2⟩
  go_wp2
  go_ret
  exact ⟨rfl, bu b1 b2⟩
 ·rw [if_neg h1]
  have d1 : decide (x < y) = false:=by simpa using h1
  clear h1
  by_cases h2 : y < x
  ·rw [if_pos h2]
   have d2 : decide (y < x) = true:=by simpa using h2
   have d3 : decide (x > y) = true:=by simpa using h2
   clear h2
   go_enter Tryz.func214, Tryz.ntmps214
   go_wp2_with fail
   refine (NA.out _ _).mono ?_
   rintro _ w1 ⟨rfl, b1⟩
   go_wp2_with fail
   refine (NA.out _ _).mono ?_
   rintro _ w2 ⟨rfl, b2⟩
   go_wp2
   go_ret
   exact ⟨rfl, bu b1 b2⟩
  ·rw [if_neg h2]
   have d2 : decide (y < x) = false:=by simpa using h2
   have d3 : decide (x > y) = false:=by simpa using h2
   clear h2
   go_enter Tryz.func214, Tryz.ntmps214
   go_wp2_with fail
   refine (NA.out _ _).mono ?_
   rintro _ w1 ⟨rfl, b1⟩
   go_wp2_with fail
   refine (NA.out _ _).mono ?_
   rintro _ w2 ⟨rfl, b2⟩
   go_wp2
   go_ret
   exact ⟨rfl, bu b1 b2⟩
def AscI (xs : List Int) : Prop := ∀ j, j + 1 < xs.length → xs.getD j 0 < xs.getD (j + 1) 0
theorem ascI_iff (xs : List Int) : AscI xs ↔ xs.Pairwise (· < ·) := by
 constructor
 ·intro h
  refine List.pairwise_iff_getElem.2 fun i j hi hj hij => ?_
  have key : ∀ d, i + d + 1 < xs.length → xs.getD i 0 < xs.getD (i + d + 1) 0:=by
   intro d
   induction d with
   | zero => exact fun hd => h i hd
   | succ d ih => exact fun hd => Int.lt_trans (ih (by omega)) (h (i + d + 1) hd)
  have:=key (j - i - 1) (by omega)
  rw [show i + (j - i - 1) + 1 = j from by omega] at this
  simpa [List.getD_eq_getElem?_getD, List.getElem?_eq_getElem hi, List.getElem?_eq_getElem hj] using this
 ·intro h j hj
  have:=List.pairwise_iff_getElem.1 h j (j + 1) (by omega) hj (by omega)
  simpa [List.getD_eq_getElem?_getD, List.getElem?_eq_getElem hj, List.getElem?_eq_getElem (show j < xs.length by omega)] using this
theorem ascends_int (v : Value) (xs : List Int) (w : World) (h : RI w v xs) :
 Calls Tryz.prog 215 #[.agg #[v,.func (.func 214) #[] #[]]] w fun e w' => e = .returned (.bool (decide (xs.Pairwise (· < ·)))) ∧ Below w.heap.size w w' := by
 obtain ⟨ao, ca, rfl⟩:=h.form
 have hl:=h.1
 have H:=hide h
 obtain ⟨n, hn⟩ : ∃ n, xs.length = n:=⟨_, rfl⟩
 have Hn:=hide hn
 rw [hn] at hl H ⊢
 clear h hn
 obtain ⟨w0, hw0⟩ : ∃ w0, w.alloc (.cells #[.slice ao n ca,.func (.func 214) #[] #[]] 262) = w0:=⟨_, rfl⟩
 have B0 : Below w.heap.size w w0:=hw0 ▸ (Below.refl _ _).alloc (Nat.le_refl _) _
 have L0 : Loc w0 w.heap.size #[.slice ao n ca,.func (.func 214) #[] #[]]:=hw0 ▸ loc_at w _ _ rfl
 go_enter Tryz.func215, Tryz.ntmps215
 go_wp2
 clear hw0
 go_loopw [3] (fun i wr => ∃ m : Nat, 1 ≤ m ∧ m ≤ n + 1 ∧ i = .int .i64 m ∧ Hid (∀ j, j + 1 < m → j + 1 < n → xs.getD j 0 < xs.getD (j + 1) 0) ∧ Loc wr w.heap.size #[.slice ao n ca,.func (.func 214) #[] #[]] ∧ Below w.heap.size w wr) (fun i _ => n + 1 - (intOf i).toNat)
 case atStart => exact ⟨1, Nat.le_refl _, by omega, by go_num, hide (fun j hj => absurd hj (by omega)), L0, B0⟩
 case round =>
  clear L0 B0
  obtain ⟨m, hm1, hm, rfl, HA, L, br⟩:=hrel
  have q0:=L.cell 0 rfl
  have q1:=L.cell 1 rfl
  by_cases hlt : m < n
  ·obtain ⟨k, hk⟩ : ∃ k, m = k + 1:=⟨m - 1, by omega⟩
   have hk1 : (m : Int) - 1 = (k : Int):=by omega
   have hwk : IntKind.i64.wrap (k : Int) = (k : Int):=by rw [IntKind.wrap_i64]; omega
   have hkn : k < n:=by omega
   obtain ⟨g, off, rfl, cx⟩:=(H.out.below br).at k (by rw [Hn.out]; omega)
   obtain ⟨g', off', e, cy⟩:=(H.out.below br).at m (by rw [Hn.out]; omega)
   cases e
   have CT:=hide fun w => compare_int (xs.getD k 0) (xs.getD m 0) w
   have HS : Hid (xs.getD k 0 < xs.getD m 0 → ∀ j, j + 1 < m + 1 → j + 1 < n → xs.getD j 0 < xs.getD (j + 1) 0):=hide fun h j hj hj2 => by
    by_cases e : j = k
    ·rw [e, ← hk]; exact h
    ·exact HA.out j (by omega) hj2
   have HN : Hid (xs.getD m 0 ≤ xs.getD k 0 → ¬ xs.Pairwise (· < ·)):=hide fun h ha => Int.not_lt.2 h (by have:=(ascI_iff xs).2 ha k (by rw [Hn.out]; omega); rwa [← hk] at this)
   clear HA
   generalize xs.getD k 0 = x at *
   generalize xs.getD m 0 = y at *
   replace hk:=hide hk
   have K : Hid (∀ w', Below wr.heap.size wr w' → (w'.cell? ⟨w.heap.size, 0, none⟩ = some (.slice (some ⟨g, off, none⟩) n ca) ∧ w'.cell? ⟨w.heap.size, 1, none⟩ = some (.func (.func 214) #[] #[])) ∧ w'.cell? ⟨g, off + k, none⟩ = some (.int .i64 x) ∧ w'.cell? ⟨g, off + m, none⟩ = some (.int .i64 y)):=hide fun w' hb => by
    have l:=L.up hb
    exact ⟨⟨l.cell 0 rfl, l.cell 1 rfl⟩, (hb.cell (cell_lt cx)).trans cx, (hb.cell (cell_lt cy)).trans cy⟩
   have bA : Below wr.heap.size wr wr.drew:=Below.drew (Below.refl _ _)
   have hKeep:=K.out _ bA
   clear cx cy
   go_wp2_with fail
   refine wp_region_noPanic ?_
   refine wp_region_held_drew (S := (fun w' => (w'.cell? ⟨w.heap.size, 0, none⟩ = some (.slice (some ⟨g, off, none⟩) n ca) ∧ w'.cell? ⟨w.heap.size, 1, none⟩ = some (.func (.func 214) #[] #[])) ∧ w'.cell? ⟨g, off + k, none⟩ = some (.int .i64 x) ∧ w'.cell? ⟨g, off + m, none⟩ = some (.int .i64 y))) (by kernel_rfl) hKeep (fun hHeld => ?_)
   refine' tj 0 11 rfl ?_ ?_;rotate_left
   ·intro w h;go_simp;try rfl
   simp only [pU]
   refine' tj 1 12 rfl ?_ ?_;rotate_left
   ·intro w h;go_simp;try rfl
   simp only [pU]
   refine' tj 2 13 rfl ?_ ?_;rotate_left
   ·intro w h;go_simp;try rfl
   simp only [pU]
   refine' tj 3 14 rfl ?_ ?_;rotate_left
   ·intro w h;go_simp;try rfl
   simp only [pU]
   refine' tj 4 15 rfl ?_ ?_;rotate_left
   ·intro w h;go_simp;try rfl
   simp only [pU]
   refine' tj 5 16 rfl ?_ ?_;rotate_left
   ·intro w h;go_simp;try rfl
   simp only [pU]
   refine' tj 6 17 rfl ?_ ?_;rotate_left
   ·intro w h;go_simp;try rfl
   simp only [pU]
   refine' tj 7 18 rfl ?_ ?_;rotate_left
   ·intro w h;go_simp;try rfl
   simp only [pU]
   refine' tj 8 19 rfl ?_ ?_;rotate_left
   ·intro w h;go_simp;try rfl
   simp only [pU]
   refine' tj 9 20 rfl ?_ ?_;rotate_left
   ·intro w h;go_simp;try rfl
   simp only [pU]
   refine' tj 10 21 rfl ?_ ?_;rotate_left
   ·intro w h;go_simp;try rfl
   simp only [pU]
   refine' tj 11 22 rfl ?_ ?_;rotate_left
   ·intro w h;go_simp;try rfl
   simp only [pU]
   refine' tj 12 23 rfl ?_ ?_;rotate_left
   ·intro w h;go_simp;try rfl
   simp only [pU]
   refine rd 13 rfl (fun KK hKK => ?_)
   go_simp
   refine (CT.out _).mono ?_
   rintro _ wa ⟨rfl, ba⟩
   have bB : Below wr.heap.size wr wa:=bA.trans ba
   clear hHeld
   refine hKK.out _ _ (K.out _ bB) (fun hHeld => ?_)
   clear hKK KK
   refine' tj 14 25 rfl ?_ ?_;rotate_left
   ·intro w h;go_simp;try rfl
   simp only [pU]
   clear hHeld
   refine wdn ?_
   have LB:=L.up bB
   have BB:=bu br bB
   have hcm:=hide (cmpI_lt x y)
   generalize cmpI x y = q at *
   by_cases hq : q < 0
   ·have HS:=hide (HS.out (hcm.out.1 hq))
    have hq0 : ¬ 0 ≤ q:=by omega
    clear hcm HN
    go_wp2
    go_roundw
    case rel => exact ⟨m + 1, by omega, by omega, by go_num, HS, LB, BB⟩
    case measure => simp [intOf]; omega
   ·have hno : decide (xs.Pairwise (· < ·)) = false:=decide_eq_false (HN.out (Int.not_lt.1 fun h => hq (hcm.out.2 h)))
    have hq0 : 0 ≤ q:=by omega
    clear hcm HS HN
    go_wp2
    go_ret
    exact ⟨by first | rfl | (rw [hno]; rfl), BB⟩
  ·have hyes : decide (xs.Pairwise (· < ·)) = true:=decide_eq_true ((ascI_iff xs).1 fun j hj => HA.out j (by have:=Hn.out; omega) (by have:=Hn.out; omega))
   clear HA
   go_wp2
   go_ret
   exact ⟨by first | rfl | (rw [hyes]; rfl), br⟩
theorem ok_ends {n : Int} {xs : List Int} (h0 : 0 < xs.length) : OkL n xs ↔ xs.Pairwise (· < ·) ∧ 0 ≤ xs.getD 0 0 ∧ xs.getD (xs.length - 1) 0 < n := by
 have g : ∀ k (hk : k < xs.length), xs.getD k 0 = xs[k]:=fun k hk => by rw [List.getD_eq_getElem?_getD, List.getElem?_eq_getElem hk]; rfl
 unfold OkL
 constructor
 ·rintro ⟨h1, h2⟩
  refine ⟨h2, ?_, ?_⟩
  ·rw [g 0 h0]; exact (h1 _ (List.getElem_mem h0)).1
  ·rw [g _ (by omega)]; exact (h1 _ (List.getElem_mem (by omega))).2
 ·rintro ⟨h2, h3, h4⟩
  refine ⟨fun x hx => ?_, h2⟩
  obtain ⟨j, hj, rfl⟩:=List.getElem_of_mem hx
  rw [g 0 h0] at h3
  rw [g _ (by omega)] at h4
  have hp:=List.pairwise_iff_getElem.1 h2
  constructor
  ·by_cases e : j = 0
   ·subst e; exact h3
   ·have:=hp 0 j h0 hj (by omega); omega
  ·by_cases e : j = xs.length - 1
   ·have : xs[j] = xs[xs.length - 1]:=by congr 1
    omega
   ·have:=hp j (xs.length - 1) hj (by omega) (by omega); omega
theorem implSetOk (m : Int) (v : Value) (xs : List Int) (w : World) (h : RI w v xs) :
 Calls Tryz.prog 171 #[.int .i64 m, v] w fun e w' => e = .returned (.bool (decide (OkL m xs))) ∧ Below w.heap.size w w' := by
 obtain ⟨ao, ca, rfl⟩:=h.form
 have hl:=h.1
 by_cases hz : xs.length = 0
 ·obtain rfl : xs = []:=List.length_eq_zero_iff.1 hz
  have ed : decide (OkL m []) = true:=decide_eq_true ⟨by simp, List.Pairwise.nil⟩
  rw [ed]
  clear ed h hl hz
  go_enter Tryz.func171, Tryz.ntmps171
  go_wp2
  go_ret
  exact ⟨rfl, Below.refl _ _⟩
 ·have AS:=hide fun w h => ascends_int (.slice ao xs.length ca) xs w h
  obtain ⟨w0, hw0⟩ : ∃ w0, w.alloc (.cells #[.slice ao xs.length ca,.func (.func 214) #[] #[]] 262) = w0:=⟨_, rfl⟩
  have B0 : Below w.heap.size w w0:=hw0 ▸ (Below.refl _ _).alloc (Nat.le_refl _) _
  have L0 : Loc w0 w.heap.size #[.slice ao xs.length ca,.func (.func 214) #[] #[]]:=hw0 ▸ loc_at w _ _ rfl
  have H:=hide (h.below B0)
  obtain ⟨g, off, rfl, c0⟩:=H.out.at 0 (by omega)
  obtain ⟨g', off', e, c1⟩:=H.out.at (xs.length - 1) (by omega)
  cases e
  have HO:=hide (ok_ends (n:=m) (xs:=xs) (by omega))
  generalize xs.getD 0 0 = x at *
  generalize xs.getD (xs.length - 1) 0 = y at *
  have FIN : Hid (decide (OkL m xs) = (decide (xs.Pairwise (· < ·)) && (decide (0 ≤ x) && decide (y < m)))):=hide (by
   have:=HO.out
   by_cases hp : xs.Pairwise (· < ·) <;> by_cases hx : 0 ≤ x <;> by_cases hy : y < m <;> simp [hp, hx, hy, this])
  generalize decide (OkL m xs) = qq at *
  clear HO
  generalize decide (xs.Pairwise (· < ·)) = q at *
  obtain ⟨n, hn⟩ : ∃ n, xs.length = n + 1:=⟨xs.length - 1, by omega⟩
  rw [hn] at H AS L0 hw0 hl hz c1 ⊢
  rw [Nat.add_sub_cancel] at c1
  rw [Nat.add_zero] at c0
  have hnz : decide (((n + 1 : Nat) : Int) = 0) = false:=by simp; omega
  have hs1 : IntKind.i64.wrap (((n + 1 : Nat) : Int) - 1) = (n : Int):=by rw [IntKind.wrap_i64]; omega
  have hnn : ((n + 1 : Nat) : Int) - 1 = (n : Int):=by omega
  have Hn:=hide hn
  clear hn h
  have q0:=L0.cell 0 rfl
  have q1:=L0.cell 1 rfl
  go_enter Tryz.func171, Tryz.ntmps171
  go_wp2_with fail
  clear hw0
  refine (AS.out _ H.out).mono ?_
  rintro _ w1 ⟨rfl, b1⟩
  have cx:=b1.cell (p:=⟨g, off, none⟩) (cell_lt c0)
  have cy:=b1.cell (p:=⟨g, off + n, none⟩) (cell_lt c1)
  rw [c0] at cx
  rw [c1] at cy
  have BB:=bu B0 b1
  clear H AS c0 c1 b1 q0 q1 L0 B0
  cases q with
  | false =>
   go_wp2
   go_ret
   exact ⟨by rw [FIN.out]; rfl, BB⟩
  | true =>
   by_cases h0 : 0 ≤ x
   ·have d0 : decide (0 ≤ x) = true:=by simpa using h0
    rw [d0] at FIN
    clear h0
    go_wp2
    go_ret
    exact ⟨by rw [FIN.out]; rfl, BB⟩
   ·have d0 : decide (0 ≤ x) = false:=by simpa using h0
    rw [d0] at FIN
    clear h0
    go_wp2
    go_ret
    exact ⟨by rw [FIN.out]; rfl, BB⟩
end Go.Proofs.YtndpjhiidmdlhaaGreatDoor
namespace Go.Proofs.YtndpjhiidmdlhaaGreatDoor
open Go.RowKit

theorem implQcFirst (w : World) : Calls Tryz.prog 126 #[] w fun e w' => e = .returned (qv 0 ⟨#[]⟩ (.slice none 0 0)) ∧ Below w.heap.size w w' := by
 go_enter Tryz.func126, Tryz.ntmps126
 go_wp2
 refine bodyPost_ret (v := qv 0 ⟨#[]⟩ (.slice none 0 0)) (by simp [results, Tryz.results126, go_sem]) rfl ?_
 exact ⟨rfl, qalloc _ _⟩
end Go.Proofs.YtndpjhiidmdlhaaGreatDoor
namespace Go.Proofs.YtndpjhiidmdlhaaGreatDoor
open Go.RowKit
set_option linter.unusedSectionVars false
variable [∀ (a b c d : Int), Decidable (Ok4 a b c d)]
variable [∀ (a b c d : Nat), Decidable (okN a b c d)]
variable [∀ (last : Int) (s : St), Decidable (GoodSt last s)]
variable [∀ (x : T4), Decidable (OkT x)]
variable [∀ (n : Int) (s : List Int), Decidable (OkL n s)]
variable [∀ (n f : Int), Decidable (COk n f)]

def votedB (n f v : Int) (s : ByteArray) (xs : List Int) : Bool := decide (0 < v) && (v == viewAns s) && decide (quorumOf n f ≤ (xs.length : Int)) && decide (OkL n xs)

theorem votedFor_any (g : Nat) (n f v : Int) (s : ByteArray) (ao : Option Addr) (ca : Nat) (xs : List Int) (w : World) (hs : s.size ≤ 33554432) (hE : Env w) (hg : Loc w g #[.int .i64 v,.string s,.slice ao xs.length ca]) (ha : RI w (.slice ao xs.length ca) xs) :
 Calls Tryz.prog 166 #[.pointer (some ⟨g, 0, none⟩), cv n f] w fun e w' => e = .returned (.bool (votedB n f v s xs)) ∧ Below w.heap.size w w' := by
 have hgl:=hg.lt
 have VO:=hide fun w hE => implViewOf s w hs hE
 have QU:=hide fun w => implQuorum n f w
 have SO:=hide fun w h => implSetOk n (.slice ao xs.length ca) xs w h
 have hvb : votedB n f v s xs = (decide (0 < v) && (v == viewAns s) && decide (quorumOf n f ≤ (xs.length : Int)) && decide (OkL n xs)):=rfl
 rw [hvb]
 clear hvb
 generalize viewAns s = q at *
 generalize quorumOf n f = qu at *
 generalize decide (OkL n xs) = ok at *
 obtain ⟨w0, hw0⟩ : ∃ w0, w.alloc (.cells #[.int .i64 n,.int .i64 f] 39) = w0:=⟨_, rfl⟩
 have B0 : Below w.heap.size w w0:=hw0 ▸ conf_below _ _
 have C0 : Loc w0 w.heap.size #[.int .i64 n,.int .i64 f]:=hw0 ▸ loc_at w _ _ rfl
 have G0:=hg.below B0 hgl
 have HE:=hide (hE.below B0)
 have HA:=hide (ha.below B0)
 have K : Hid (∀ w', Below w0.heap.size w0 w' → (fun w' => Below w0.heap.size w0 w' ∧ (w'.cell? ⟨g, 0, none⟩ = some (.int .i64 v) ∧ w'.cell? ⟨g, 1, none⟩ = some (.string s) ∧ w'.cell? ⟨g, 2, none⟩ = some (.slice ao xs.length ca)) ∧ (w'.cell? ⟨w.heap.size, 0, none⟩ = some (.int .i64 n) ∧ w'.cell? ⟨w.heap.size, 1, none⟩ = some (.int .i64 f))) w'):=hide fun w' hb' => ⟨hb', ⟨(G0.up hb').cell 0 rfl, (G0.up hb').cell 1 rfl, (G0.up hb').cell 2 rfl⟩, ⟨(C0.up hb').cell 0 rfl, (C0.up hb').cell 1 rfl⟩⟩
 obtain ⟨m, hm⟩ : ∃ m, xs.length = m:=⟨_, rfl⟩
 rw [hm] at K HA SO ⊢
 clear hg ha hE G0 C0 hm
 by_cases h1 : 0 < v
 ·have d1 : decide (0 < v) = true:=by simpa using h1
  rw [d1, Bool.true_and]
  by_cases h2 : v = q
  ·have d2 : (v == q) = true:=by simpa using h2
   rw [d2, Bool.true_and]
   clear d2
   subst h2
   by_cases h3 : qu ≤ (m : Int)
   ·have d3 : decide (qu ≤ (m : Int)) = true:=by simpa using h3
    rw [d3, Bool.true_and]
    go_enter Tryz.func166, Tryz.ntmps166
    go_upto_region 1 with fail
    clear hw0
    have bA : Below w0.heap.size w0 w0.drew:=Below.drew (Below.refl _ _)
    refine wp_region_noPanic ?_
    refine wp_region_held_drew (S := fun w' => Below w0.heap.size w0 w' ∧ (w'.cell? ⟨g, 0, none⟩ = some (.int .i64 v) ∧ w'.cell? ⟨g, 1, none⟩ = some (.string s) ∧ w'.cell? ⟨g, 2, none⟩ = some (.slice ao m ca)) ∧ (w'.cell? ⟨w.heap.size, 0, none⟩ = some (.int .i64 n) ∧ w'.cell? ⟨w.heap.size, 1, none⟩ = some (.int .i64 f))) (by kernel_rfl) (K.out _ bA) (fun hHeld => ?_)
    refine' tj 0 5 rfl ?_ ?_;rotate_left
    ·intro w h;go_simp;try rfl
    simp only [pU]
    refine' tj 1 6 rfl ?_ ?_;rotate_left
    ·intro w h;go_simp;try rfl
    simp only [pU]
    refine' tj 2 7 rfl ?_ ?_;rotate_left
    ·intro w h;go_simp;try rfl
    simp only [pU]
    refine' tj 3 8 rfl ?_ ?_;rotate_left
    ·intro w h;go_simp;try rfl
    simp only [pU]
    refine' tj 4 9 rfl ?_ ?_;rotate_left
    ·intro w h;go_simp;try rfl
    simp only [pU]
    refine' tj 5 10 rfl ?_ ?_;rotate_left
    ·intro w h;go_simp;try rfl
    simp only [pU]
    refine' tj 6 11 rfl ?_ ?_;rotate_left
    ·intro w h;go_simp;try rfl
    simp only [pU]
    refine' tj 7 12 rfl ?_ ?_;rotate_left
    ·intro w h;go_simp;try rfl
    simp only [pU]
    refine' tj 8 13 rfl ?_ ?_;rotate_left
    ·intro w h;go_simp;try rfl
    simp only [pU]
    refine' tj 9 14 rfl ?_ ?_;rotate_left
    ·intro w h;go_simp;try rfl
    simp only [pU]
    refine' tj 10 15 rfl ?_ ?_;rotate_left
    ·intro w h;go_simp;try rfl
    simp only [pU]
    refine' tj 11 16 rfl ?_ ?_;rotate_left
    ·intro w h;go_simp;try rfl
    simp only [pU]
    refine' tj 12 17 rfl ?_ ?_;rotate_left
    ·intro w h;go_simp;try rfl
    simp only [pU]
    refine' tj 13 18 rfl ?_ ?_;rotate_left
    ·intro w h;go_simp;try rfl
    simp only [pU]
    refine rd 14 rfl (fun KK hKK => ?_)
    go_simp
    have hgo:=bA
    refine (VO.out _ (HE.out.below hgo)).mono ?_
    rintro e wy1 ⟨rfl, bb⟩
    have bB : Below w0.heap.size w0 wy1:=bu bA bb
    clear bA hgo bb
    clear hHeld
    refine hKK.out _ _ (K.out _ bB) (fun hHeld => ?_)
    clear hKK KK
    refine' tj 15 20 rfl ?_ ?_;rotate_left
    ·intro w h;go_simp;try rfl
    simp only [pU]
    refine' tj 16 21 rfl ?_ ?_;rotate_left
    ·intro w h;go_simp;try rfl
    simp only [pU]
    refine' tj 17 22 rfl ?_ ?_;rotate_left
    ·intro w h;go_simp;try rfl
    simp only [pU]
    refine' tj 18 23 rfl ?_ ?_;rotate_left
    ·intro w h;go_simp;try rfl
    simp only [pU]
    refine' tj 19 24 rfl ?_ ?_;rotate_left
    ·intro w h;go_simp;try rfl
    simp only [pU]
    refine' tj 20 25 rfl ?_ ?_;rotate_left
    ·intro w h;go_simp;try rfl
    simp only [pU]
    refine' tj 21 26 rfl ?_ ?_;rotate_left
    ·intro w h;go_simp;try rfl
    simp only [pU]
    refine' tj 22 27 rfl ?_ ?_;rotate_left
    ·intro w h;go_simp;try rfl
    simp only [pU]
    refine' tj 23 28 rfl ?_ ?_;rotate_left
    ·intro w h;go_simp;try rfl
    simp only [pU]
    refine rd 24 rfl (fun KK hKK => ?_)
    go_simp
    have hgo:=bB
    refine (QU.out _).mono ?_
    rintro e wy2 ⟨rfl, bb⟩
    have bC : Below w0.heap.size w0 wy2:=bu bB bb
    clear bB hgo bb
    clear hHeld
    refine hKK.out _ _ (K.out _ bC) (fun hHeld => ?_)
    clear hKK KK
    refine' tj 25 30 rfl ?_ ?_;rotate_left
    ·intro w h;go_simp;try rfl
    simp only [pU]
    refine' tj 26 31 rfl ?_ ?_;rotate_left
    ·intro w h;go_simp;try rfl
    simp only [pU]
    refine' tj 27 32 rfl ?_ ?_;rotate_left
    ·intro w h;go_simp;try rfl
    simp only [pU]
    refine' tj 28 33 rfl ?_ ?_;rotate_left
    ·intro w h;go_simp;try rfl
    simp only [pU]
    refine' tj 29 34 rfl ?_ ?_;rotate_left
    ·intro w h;go_simp;try rfl
    simp only [pU]
    refine' tj 30 35 rfl ?_ ?_;rotate_left
    ·intro w h;go_simp;try rfl
    simp only [pU]
    refine' tj 31 36 rfl ?_ ?_;rotate_left
    ·intro w h;go_simp;try rfl
    simp only [pU]
    refine' tj 32 37 rfl ?_ ?_;rotate_left
    ·intro w h;go_simp;try rfl
    simp only [pU]
    refine' tj 33 38 rfl ?_ ?_;rotate_left
    ·intro w h;go_simp;try rfl
    simp only [pU]
    refine rd 34 rfl (fun KK hKK => ?_)
    go_simp
    have hgo:=bC
    refine (SO.out _ (HA.out.below hgo)).mono ?_
    rintro e wy3 ⟨rfl, bb⟩
    have bD : Below w0.heap.size w0 wy3:=bu bC bb
    clear bC hgo bb
    clear hHeld
    refine hKK.out _ _ (K.out _ bD) (fun hHeld => ?_)
    clear hKK KK
    refine' tj 35 40 rfl ?_ ?_;rotate_left
    ·intro w h;go_simp;try rfl
    simp only [pU]
    refine' tj 36 4 rfl ?_ ?_;rotate_left
    ·intro w h;go_simp;try rfl
    simp only [pU]
    clear hHeld
    refine wdn ?_
    go_wp2
    go_ret
    exact ⟨rfl, bu B0 bD⟩
   ·have d3 : decide (qu ≤ (m : Int)) = false:=by simpa using h3
    rw [d3, Bool.false_and]
    go_enter Tryz.func166, Tryz.ntmps166
    go_upto_region 1 with fail
    clear hw0
    have bA : Below w0.heap.size w0 w0.drew:=Below.drew (Below.refl _ _)
    refine wp_region_noPanic ?_
    refine wp_region_held_drew (S := fun w' => Below w0.heap.size w0 w' ∧ (w'.cell? ⟨g, 0, none⟩ = some (.int .i64 v) ∧ w'.cell? ⟨g, 1, none⟩ = some (.string s) ∧ w'.cell? ⟨g, 2, none⟩ = some (.slice ao m ca)) ∧ (w'.cell? ⟨w.heap.size, 0, none⟩ = some (.int .i64 n) ∧ w'.cell? ⟨w.heap.size, 1, none⟩ = some (.int .i64 f))) (by kernel_rfl) (K.out _ bA) (fun hHeld => ?_)
    refine' tj 0 5 rfl ?_ ?_;rotate_left
    ·intro w h;go_simp;try rfl
    simp only [pU]
    refine' tj 1 6 rfl ?_ ?_;rotate_left
    ·intro w h;go_simp;try rfl
    simp only [pU]
    refine' tj 2 7 rfl ?_ ?_;rotate_left
    ·intro w h;go_simp;try rfl
    simp only [pU]
    refine' tj 3 8 rfl ?_ ?_;rotate_left
    ·intro w h;go_simp;try rfl
    simp only [pU]
    refine' tj 4 9 rfl ?_ ?_;rotate_left
    ·intro w h;go_simp;try rfl
    simp only [pU]
    refine' tj 5 10 rfl ?_ ?_;rotate_left
    ·intro w h;go_simp;try rfl
    simp only [pU]
    refine' tj 6 11 rfl ?_ ?_;rotate_left
    ·intro w h;go_simp;try rfl
    simp only [pU]
    refine' tj 7 12 rfl ?_ ?_;rotate_left
    ·intro w h;go_simp;try rfl
    simp only [pU]
    refine' tj 8 13 rfl ?_ ?_;rotate_left
    ·intro w h;go_simp;try rfl
    simp only [pU]
    refine' tj 9 14 rfl ?_ ?_;rotate_left
    ·intro w h;go_simp;try rfl
    simp only [pU]
    refine' tj 10 15 rfl ?_ ?_;rotate_left
    ·intro w h;go_simp;try rfl
    simp only [pU]
    refine' tj 11 16 rfl ?_ ?_;rotate_left
    ·intro w h;go_simp;try rfl
    simp only [pU]
    refine' tj 12 17 rfl ?_ ?_;rotate_left
    ·intro w h;go_simp;try rfl
    simp only [pU]
    refine' tj 13 18 rfl ?_ ?_;rotate_left
    ·intro w h;go_simp;try rfl
    simp only [pU]
    refine rd 14 rfl (fun KK hKK => ?_)
    go_simp
    have hgo:=bA
    refine (VO.out _ (HE.out.below hgo)).mono ?_
    rintro e wy1 ⟨rfl, bb⟩
    have bB : Below w0.heap.size w0 wy1:=bu bA bb
    clear bA hgo bb
    clear hHeld
    refine hKK.out _ _ (K.out _ bB) (fun hHeld => ?_)
    clear hKK KK
    refine' tj 15 20 rfl ?_ ?_;rotate_left
    ·intro w h;go_simp;try rfl
    simp only [pU]
    refine' tj 16 21 rfl ?_ ?_;rotate_left
    ·intro w h;go_simp;try rfl
    simp only [pU]
    refine' tj 17 22 rfl ?_ ?_;rotate_left
    ·intro w h;go_simp;try rfl
    simp only [pU]
    refine' tj 18 23 rfl ?_ ?_;rotate_left
    ·intro w h;go_simp;try rfl
    simp only [pU]
    refine' tj 19 24 rfl ?_ ?_;rotate_left
    ·intro w h;go_simp;try rfl
    simp only [pU]
    refine' tj 20 25 rfl ?_ ?_;rotate_left
    ·intro w h;go_simp;try rfl
    simp only [pU]
    refine' tj 21 26 rfl ?_ ?_;rotate_left
    ·intro w h;go_simp;try rfl
    simp only [pU]
    refine' tj 22 27 rfl ?_ ?_;rotate_left
    ·intro w h;go_simp;try rfl
    simp only [pU]
    refine' tj 23 28 rfl ?_ ?_;rotate_left
    ·intro w h;go_simp;try rfl
    simp only [pU]
    refine rd 24 rfl (fun KK hKK => ?_)
    go_simp
    have hgo:=bB
    refine (QU.out _).mono ?_
    rintro e wy2 ⟨rfl, bb⟩
    have bC : Below w0.heap.size w0 wy2:=bu bB bb
    clear bB hgo bb
    clear hHeld
    refine hKK.out _ _ (K.out _ bC) (fun hHeld => ?_)
    clear hKK KK
    refine' tj 25 30 rfl ?_ ?_;rotate_left
    ·intro w h;go_simp;try rfl
    simp only [pU]
    refine' tj 26 31 rfl ?_ ?_;rotate_left
    ·intro w h;go_simp;try rfl
    simp only [pU]
    refine' tj 27 32 rfl ?_ ?_;rotate_left
    ·intro w h;go_simp;try rfl
    simp only [pU]
    refine sk 28 33 rfl (h := ?_)
    simp only [pU]
    refine sk 29 34 rfl (h := ?_)
    simp only [pU]
    refine sk 30 35 rfl (h := ?_)
    simp only [pU]
    refine sk 31 36 rfl (h := ?_)
    simp only [pU]
    refine sk 32 37 rfl (h := ?_)
    simp only [pU]
    refine sk 33 38 rfl (h := ?_)
    simp only [pU]
    refine sk 34 39 rfl (h := ?_)
    simp only [pU]
    refine' tj 35 40 rfl ?_ ?_;rotate_left
    ·intro w h;go_simp;try rfl
    simp only [pU]
    refine' tj 36 4 rfl ?_ ?_;rotate_left
    ·intro w h;go_simp;try rfl
    simp only [pU]
    clear hHeld
    refine wdn ?_
    go_wp2
    go_ret
    exact ⟨rfl, bu B0 bC⟩
  ·have d2 : (v == q) = false:=by simpa using h2
   rw [d2, Bool.false_and, Bool.false_and]
   go_enter Tryz.func166, Tryz.ntmps166
   go_upto_region 1 with fail
   clear hw0
   have bA : Below w0.heap.size w0 w0.drew:=Below.drew (Below.refl _ _)
   refine wp_region_noPanic ?_
   refine wp_region_held_drew (S := fun w' => Below w0.heap.size w0 w' ∧ (w'.cell? ⟨g, 0, none⟩ = some (.int .i64 v) ∧ w'.cell? ⟨g, 1, none⟩ = some (.string s) ∧ w'.cell? ⟨g, 2, none⟩ = some (.slice ao m ca)) ∧ (w'.cell? ⟨w.heap.size, 0, none⟩ = some (.int .i64 n) ∧ w'.cell? ⟨w.heap.size, 1, none⟩ = some (.int .i64 f))) (by kernel_rfl) (K.out _ bA) (fun hHeld => ?_)
   refine' tj 0 5 rfl ?_ ?_;rotate_left
   ·intro w h;go_simp;try rfl
   simp only [pU]
   refine' tj 1 6 rfl ?_ ?_;rotate_left
   ·intro w h;go_simp;try rfl
   simp only [pU]
   refine' tj 2 7 rfl ?_ ?_;rotate_left
   ·intro w h;go_simp;try rfl
   simp only [pU]
   refine' tj 3 8 rfl ?_ ?_;rotate_left
   ·intro w h;go_simp;try rfl
   simp only [pU]
   refine' tj 4 9 rfl ?_ ?_;rotate_left
   ·intro w h;go_simp;try rfl
   simp only [pU]
   refine' tj 5 10 rfl ?_ ?_;rotate_left
   ·intro w h;go_simp;try rfl
   simp only [pU]
   refine' tj 6 11 rfl ?_ ?_;rotate_left
   ·intro w h;go_simp;try rfl
   simp only [pU]
   refine' tj 7 12 rfl ?_ ?_;rotate_left
   ·intro w h;go_simp;try rfl
   simp only [pU]
   refine' tj 8 13 rfl ?_ ?_;rotate_left
   ·intro w h;go_simp;try rfl
   simp only [pU]
   refine' tj 9 14 rfl ?_ ?_;rotate_left
   ·intro w h;go_simp;try rfl
   simp only [pU]
   refine' tj 10 15 rfl ?_ ?_;rotate_left
   ·intro w h;go_simp;try rfl
   simp only [pU]
   refine' tj 11 16 rfl ?_ ?_;rotate_left
   ·intro w h;go_simp;try rfl
   simp only [pU]
   refine' tj 12 17 rfl ?_ ?_;rotate_left
   ·intro w h;go_simp;try rfl
   simp only [pU]
   refine' tj 13 18 rfl ?_ ?_;rotate_left
   ·intro w h;go_simp;try rfl
   simp only [pU]
   refine rd 14 rfl (fun KK hKK => ?_)
   go_simp
   have hgo:=bA
   refine (VO.out _ (HE.out.below hgo)).mono ?_
   rintro e wy1 ⟨rfl, bb⟩
   have bB : Below w0.heap.size w0 wy1:=bu bA bb
   clear bA hgo bb
   clear hHeld
   refine hKK.out _ _ (K.out _ bB) (fun hHeld => ?_)
   clear hKK KK
   refine' tj 15 20 rfl ?_ ?_;rotate_left
   ·intro w h;go_simp;try rfl
   simp only [pU]
   refine' tj 16 21 rfl ?_ ?_;rotate_left
   ·intro w h;go_simp;try rfl
   simp only [pU]
   refine' tj 17 22 rfl ?_ ?_;rotate_left
   ·intro w h;go_simp;try rfl
   simp only [pU]
   refine sk 18 23 rfl (h := ?_)
   simp only [pU]
   refine sk 19 24 rfl (h := ?_)
   simp only [pU]
   refine sk 20 25 rfl (h := ?_)
   simp only [pU]
   refine sk 21 26 rfl (h := ?_)
   simp only [pU]
   refine sk 22 27 rfl (h := ?_)
   simp only [pU]
   refine sk 23 28 rfl (h := ?_)
   simp only [pU]
   refine sk 24 29 rfl (h := ?_)
   simp only [pU]
   refine sk 25 30 rfl (h := ?_)
   simp only [pU]
   refine' tj 26 31 rfl ?_ ?_;rotate_left
   ·intro w h;go_simp;try rfl
   simp only [pU]
   refine' tj 27 32 rfl ?_ ?_;rotate_left
   ·intro w h;go_simp;try rfl
   simp only [pU]
   refine sk 28 33 rfl (h := ?_)
   simp only [pU]
   refine sk 29 34 rfl (h := ?_)
   simp only [pU]
   refine sk 30 35 rfl (h := ?_)
   simp only [pU]
   refine sk 31 36 rfl (h := ?_)
   simp only [pU]
   refine sk 32 37 rfl (h := ?_)
   simp only [pU]
   refine sk 33 38 rfl (h := ?_)
   simp only [pU]
   refine sk 34 39 rfl (h := ?_)
   simp only [pU]
   refine' tj 35 40 rfl ?_ ?_;rotate_left
   ·intro w h;go_simp;try rfl
   simp only [pU]
   refine' tj 36 4 rfl ?_ ?_;rotate_left
   ·intro w h;go_simp;try rfl
   simp only [pU]
   clear hHeld
   refine wdn ?_
   go_wp2
   go_ret
   exact ⟨rfl, bu B0 bB⟩
 ·have d1 : decide (0 < v) = false:=by simpa using h1
  rw [d1, Bool.false_and, Bool.false_and, Bool.false_and]
  go_enter Tryz.func166, Tryz.ntmps166
  go_upto_region 1 with fail
  clear hw0
  have bA : Below w0.heap.size w0 w0.drew:=Below.drew (Below.refl _ _)
  refine wp_region_noPanic ?_
  refine wp_region_held_drew (S := fun w' => Below w0.heap.size w0 w' ∧ (w'.cell? ⟨g, 0, none⟩ = some (.int .i64 v) ∧ w'.cell? ⟨g, 1, none⟩ = some (.string s) ∧ w'.cell? ⟨g, 2, none⟩ = some (.slice ao m ca)) ∧ (w'.cell? ⟨w.heap.size, 0, none⟩ = some (.int .i64 n) ∧ w'.cell? ⟨w.heap.size, 1, none⟩ = some (.int .i64 f))) (by kernel_rfl) (K.out _ bA) (fun hHeld => ?_)
  refine' tj 0 5 rfl ?_ ?_;rotate_left
  ·intro w h;go_simp;try rfl
  simp only [pU]
  refine' tj 1 6 rfl ?_ ?_;rotate_left
  ·intro w h;go_simp;try rfl
  simp only [pU]
  refine' tj 2 7 rfl ?_ ?_;rotate_left
  ·intro w h;go_simp;try rfl
  simp only [pU]
  refine' tj 3 8 rfl ?_ ?_;rotate_left
  ·intro w h;go_simp;try rfl
  simp only [pU]
  refine' tj 4 9 rfl ?_ ?_;rotate_left
  ·intro w h;go_simp;try rfl
  simp only [pU]
  refine' tj 5 10 rfl ?_ ?_;rotate_left
  ·intro w h;go_simp;try rfl
  simp only [pU]
  refine sk 6 11 rfl (h := ?_)
  simp only [pU]
  refine sk 7 12 rfl (h := ?_)
  simp only [pU]
  refine sk 8 13 rfl (h := ?_)
  simp only [pU]
  refine sk 9 14 rfl (h := ?_)
  simp only [pU]
  refine sk 10 15 rfl (h := ?_)
  simp only [pU]
  refine sk 11 16 rfl (h := ?_)
  simp only [pU]
  refine sk 12 17 rfl (h := ?_)
  simp only [pU]
  refine sk 13 18 rfl (h := ?_)
  simp only [pU]
  refine sk 14 19 rfl (h := ?_)
  simp only [pU]
  refine sk 15 20 rfl (h := ?_)
  simp only [pU]
  refine' tj 16 21 rfl ?_ ?_;rotate_left
  ·intro w h;go_simp;try rfl
  simp only [pU]
  refine' tj 17 22 rfl ?_ ?_;rotate_left
  ·intro w h;go_simp;try rfl
  simp only [pU]
  refine sk 18 23 rfl (h := ?_)
  simp only [pU]
  refine sk 19 24 rfl (h := ?_)
  simp only [pU]
  refine sk 20 25 rfl (h := ?_)
  simp only [pU]
  refine sk 21 26 rfl (h := ?_)
  simp only [pU]
  refine sk 22 27 rfl (h := ?_)
  simp only [pU]
  refine sk 23 28 rfl (h := ?_)
  simp only [pU]
  refine sk 24 29 rfl (h := ?_)
  simp only [pU]
  refine sk 25 30 rfl (h := ?_)
  simp only [pU]
  refine' tj 26 31 rfl ?_ ?_;rotate_left
  ·intro w h;go_simp;try rfl
  simp only [pU]
  refine' tj 27 32 rfl ?_ ?_;rotate_left
  ·intro w h;go_simp;try rfl
  simp only [pU]
  refine sk 28 33 rfl (h := ?_)
  simp only [pU]
  refine sk 29 34 rfl (h := ?_)
  simp only [pU]
  refine sk 30 35 rfl (h := ?_)
  simp only [pU]
  refine sk 31 36 rfl (h := ?_)
  simp only [pU]
  refine sk 32 37 rfl (h := ?_)
  simp only [pU]
  refine sk 33 38 rfl (h := ?_)
  simp only [pU]
  refine sk 34 39 rfl (h := ?_)
  simp only [pU]
  refine' tj 35 40 rfl ?_ ?_;rotate_left
  ·intro w h;go_simp;try rfl
  simp only [pU]
  refine' tj 36 4 rfl ?_ ?_;rotate_left
  ·intro w h;go_simp;try rfl
  simp only [pU]
  clear hHeld
  refine wdn ?_
  go_wp2
  go_ret
  exact ⟨rfl, bu B0 bA⟩
end Go.Proofs.YtndpjhiidmdlhaaGreatDoor
