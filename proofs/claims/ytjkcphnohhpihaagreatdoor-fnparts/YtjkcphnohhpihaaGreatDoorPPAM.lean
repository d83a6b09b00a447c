/- Lemmas; their conditions stand in each statement. -/
import Derived.Test.YtjkcphnohhpihaaGreatDoorPPAL
set_option maxRecDepth 100000
set_option maxHeartbeats 8000000
set_option linter.unusedSectionVars false
namespace Go.Proofs.YtjkcphnohhpihaaGreatDoor
section
open Go.RowKit
variable [∀ (a b c d : Int), Decidable (Ok4 a b c d)]
variable [∀ (a b c d : Nat), Decidable (okN a b c d)]
variable [∀ (last : Int) (s : St), Decidable (GoodSt last s)]
variable [∀ (x : T4), Decidable (OkT x)]
theorem specNameOk (s : ByteArray) (w : World) (hs : s.size ≤ 33554432) :
 Calls Tryz.prog 86 #[.string s] w fun e w' => e = .returned (.bool (stepsAns s).isSome) ∧ Below w.heap.size w w' := by
 have ST:=hide fun w => specSteps s w hs
 generalize stepsAns s = A at *
 go_enter Tryz.func86, Tryz.ntmps86
 go_wp2_with fail
 refine (ST.out _).mono ?_
 rintro e w1 ⟨v, rfl, _, b1⟩
 go_wp2
 go_ret
 exact ⟨rfl, b1⟩

theorem specViewOf (s : ByteArray) (w : World) (hs : s.size ≤ 33554432) :
 Calls Tryz.prog 87 #[.string s] w fun e w' => e = .returned (.int .i64 (viewAns s)) ∧ Below w.heap.size w w' := by
 have ST:=hide fun w => specSteps s w hs
 have hl : ∀ ss, stepsAns s = some ss → ss.length ≤ 30 ∧ ∀ x ∈ ss, OkSt x:=fun ss h => ⟨((names_iff _ _).1 h).2.1, ((names_iff _ _).1 h).2.2.1⟩
 unfold viewAns
 generalize stepsAns s = A at *
 go_enter Tryz.func87, Tryz.ntmps87
 go_wp2_with fail
 refine (ST.out _).mono ?_
 rintro e w1 ⟨v, rfl, o1, b1⟩
 cases A with
 | none =>
  obtain ⟨ao, ca, rfl⟩:=o1.form
  clear o1 ST hl
  go_wp2
  go_ret
  exact ⟨rfl, b1⟩
 | some ss =>
  obtain ⟨hl, hok⟩:=hl ss rfl
  obtain ⟨ao, ca, hv, r⟩:=o1.rst (fun x hx => by have:=(hok x hx).2.1; omega)
  subst hv
  clear o1 ST hok
  simp only [Option.getD_some] at *
  rcases r with rfl | ⟨g, rfl, r⟩
  ·go_wp2
   go_ret
   exact ⟨rfl, b1⟩
  by_cases h0 : ss.length = 0
  ·obtain rfl:=List.length_eq_zero_iff.1 h0
   go_wp2
   go_ret
   exact ⟨rfl, b1⟩
  obtain ⟨n, hn⟩ : ∃ n, ss.length = n + 1:=⟨ss.length - 1, by omega⟩
  obtain ⟨u, c0, c1, _⟩:=r n (by omega)
  have hlast:=hide (show (ss.getLast?.map (·.1)).getD 0 = (ss.getD n zst).1 by
   rw [List.getLast?_eq_getElem?, List.getD_eq_getElem?_getD, List.getElem?_eq_getElem (show ss.length - 1 < ss.length by omega), List.getElem?_eq_getElem (show n < ss.length by omega)]
   simp [hn])
  have hi : ((n + 1 : Nat) : Int) - 1 = n:=by omega
  generalize (ss.getD n zst).1 = x at *
  clear r h0
  go_wp2
  go_ret
  exact ⟨by rw [show ((some ss).getD []) = ss from rfl, hlast.out]; rfl, b1⟩
end
section
open Go.RowKit
variable [∀ (a b c d : Int), Decidable (Ok4 a b c d)]
variable [∀ (n f : Int), Decidable (COk n f)]
variable [∀ (n : Int) (s : List Int), Decidable (OkL n s)]
variable [∀ (a b c d : Nat), Decidable (okN a b c d)]
variable [∀ (last : Int) (s : St), Decidable (GoodSt last s)]
variable [∀ (x : T4), Decidable (OkT x)]
def pokB (n f m : Int) (s : ByteArray) (xs : List Int) : Bool := decide (COk n f) && decide (1 ≤ m ∧ m ≤ 60) && decide (OkL n xs) && decide (xs ≠ []) && (decide (s = ⟨#[]⟩) || ((stepsAns s).isSome && decide (viewAns s = m)))
theorem in_bool (x lo hi : Int) (w : World) : Calls Tryz.prog 84 #[.int .i64 x,.int .i64 lo,.int .i64 hi] w fun e w' => e = .returned (.bool (decide (lo ≤ x ∧ x ≤ hi))) ∧ w' = w := by
 by_cases h : lo ≤ x ∧ x ≤ hi
 ·rw [decide_eq_true h]; exact in_yes x lo hi w h.1 h.2
 rw [decide_eq_false h]; exact in_no x lo hi w (by omega)

theorem specPartOk (n f m : Int) (s : ByteArray) (u : Value) (xs : List Int) (w : World) (hs : s.size ≤ 1048576) (hu : RI w u xs) :
 Calls Tryz.prog 39 #[cv n f, qv m s u] w fun e w' => e = .returned (.bool (pokB n f m s xs)) ∧ Below w.heap.size w w' := by
 obtain ⟨ua, uc, rfl⟩:=hu.form
 obtain ⟨w0, hw0, Bw0, LC, LP, _⟩:=bx2 w #[.int .i64 n,.int .i64 f] 33 #[.int .i64 m,.string s,.slice ua xs.length uc] 36
 have RU:=hu.below Bw0
 have CO:=hide fun w => specConfOk n f w
 have IN:=hide fun w => in_bool m 1 60 w
 have SO:=hide fun w h => specSetOk n (.slice ua xs.length uc) xs w h
 have NO:=hide fun w => specNameOk s w (by omega)
 have VO:=hide fun w => specViewOf s w (by omega)
 have hp : pokB n f m s xs = (decide (COk n f) && decide (1 ≤ m ∧ m ≤ 60) && decide (OkL n xs) && decide (xs ≠ []) && (decide (s = ⟨#[]⟩) || ((stepsAns s).isSome && decide (viewAns s = m)))):=rfl
 have hxe : decide (xs ≠ []) = !((xs.length : Int) == 0):=by cases xs with | nil => rfl | cons a l => simp; omega
 rw [hp, hxe]
 obtain ⟨k, hk⟩ : ∃ k, xs.length = k:=⟨_, rfl⟩
 rw [hk] at SO LP hw0 RU ⊢
 clear hp hxe hu hk
 generalize decide (COk n f) = c at *
 generalize decide (1 ≤ m ∧ m ≤ 60) = r at *
 generalize decide (OkL n xs) = o at *
 generalize (stepsAns s).isSome = nk at *
 generalize viewAns s = vw at *
 cases c
 ·simp only [Bool.false_and]
  go_enter Tryz.func39, Tryz.ntmps39
  obtain ⟨cLC0,cLC1⟩:=cc2 LC 0 1
  go_wp2_with fail
  clear hw0
  refine (CO.out _).mono ?_
  rintro _ w1 ⟨rfl, bb⟩
  clear cLC0 cLC1
  have Bw1:=bu Bw0 bb
  have sw1:=bb.size
  replace LC:=LC.up bb
  replace LP:=LP.up bb
  clear Bw0
  replace RU:=RU.below bb
  clear bb CO
  obtain ⟨cLC0,cLC1⟩:=cc2 LC 0 1
  obtain ⟨cLP0,cLP1,cLP2⟩:=cc3 LP 0 1 2
  go_wp2
  go_ret
  exact ⟨rfl, Bw1⟩
 simp only [Bool.true_and]
 cases r
 ·simp only [Bool.false_and]
  go_enter Tryz.func39, Tryz.ntmps39
  obtain ⟨cLC0,cLC1⟩:=cc2 LC 0 1
  go_wp2_with fail
  clear hw0
  refine (CO.out _).mono ?_
  rintro _ w1 ⟨rfl, bb⟩
  clear cLC0 cLC1
  have Bw1:=bu Bw0 bb
  have sw1:=bb.size
  replace LC:=LC.up bb
  replace LP:=LP.up bb
  clear Bw0
  replace RU:=RU.below bb
  clear bb CO
  obtain ⟨cLP0,cLP1,cLP2⟩:=cc3 LP 0 1 2
  go_wp2_with fail
  refine (IN.out _).mono ?_
  rintro _ w9 ⟨rfl, e9⟩
  rw [e9]
  clear e9 IN cLP0 cLP1 cLP2
  obtain ⟨cLC0,cLC1⟩:=cc2 LC 0 1
  obtain ⟨cLP0,cLP1,cLP2⟩:=cc3 LP 0 1 2
  go_wp2
  go_ret
  exact ⟨rfl, Bw1⟩
 simp only [Bool.true_and]
 cases o
 ·simp only [Bool.false_and]
  go_enter Tryz.func39, Tryz.ntmps39
  obtain ⟨cLC0,cLC1⟩:=cc2 LC 0 1
  go_wp2_with fail
  clear hw0
  refine (CO.out _).mono ?_
  rintro _ w1 ⟨rfl, bb⟩
  clear cLC0 cLC1
  have Bw1:=bu Bw0 bb
  have sw1:=bb.size
  replace LC:=LC.up bb
  replace LP:=LP.up bb
  clear Bw0
  replace RU:=RU.below bb
  clear bb CO
  obtain ⟨cLP0,cLP1,cLP2⟩:=cc3 LP 0 1 2
  go_wp2_with fail
  refine (IN.out _).mono ?_
  rintro _ w9 ⟨rfl, e9⟩
  rw [e9]
  clear e9 IN cLP0 cLP1 cLP2
  obtain ⟨cLC0,cLC1⟩:=cc2 LC 0 1
  obtain ⟨cLP0,cLP1,cLP2⟩:=cc3 LP 0 1 2
  go_wp2_with fail
  refine (SO.out _ RU).mono ?_
  rintro _ w2 ⟨rfl, bb⟩
  clear cLC0 cLC1 cLP0 cLP1 cLP2
  have Bw2:=bu Bw1 bb
  have sw2:=bb.size
  replace LC:=LC.up bb
  replace LP:=LP.up bb
  clear Bw1 bb SO RU
  obtain ⟨cLC0,cLC1⟩:=cc2 LC 0 1
  obtain ⟨cLP0,cLP1,cLP2⟩:=cc3 LP 0 1 2
  go_wp2
  go_ret
  exact ⟨rfl, Bw2⟩
 simp only [Bool.true_and]
 by_cases hk : k = 0
 ·subst hk
  have hd0 : ((((0 : Nat) : Int) == 0)) = true:=rfl
  rw [hd0]
  simp only [Bool.not_true, Bool.false_and]
  go_enter Tryz.func39, Tryz.ntmps39
  obtain ⟨cLC0,cLC1⟩:=cc2 LC 0 1
  go_wp2_with fail
  clear hw0
  refine (CO.out _).mono ?_
  rintro _ w1 ⟨rfl, bb⟩
  clear cLC0 cLC1
  have Bw1:=bu Bw0 bb
  have sw1:=bb.size
  replace LC:=LC.up bb
  replace LP:=LP.up bb
  clear Bw0
  replace RU:=RU.below bb
  clear bb CO
  obtain ⟨cLP0,cLP1,cLP2⟩:=cc3 LP 0 1 2
  go_wp2_with fail
  refine (IN.out _).mono ?_
  rintro _ w9 ⟨rfl, e9⟩
  rw [e9]
  clear e9 IN cLP0 cLP1 cLP2
  obtain ⟨cLC0,cLC1⟩:=cc2 LC 0 1
  obtain ⟨cLP0,cLP1,cLP2⟩:=cc3 LP 0 1 2
  go_wp2_with fail
  refine (SO.out _ RU).mono ?_
  rintro _ w2 ⟨rfl, bb⟩
  clear cLC0 cLC1 cLP0 cLP1 cLP2
  have Bw2:=bu Bw1 bb
  have sw2:=bb.size
  replace LC:=LC.up bb
  replace LP:=LP.up bb
  clear Bw1 bb SO RU
  obtain ⟨cLC0,cLC1⟩:=cc2 LC 0 1
  obtain ⟨cLP0,cLP1,cLP2⟩:=cc3 LP 0 1 2
  go_wp2
  go_ret
  exact ⟨rfl, Bw2⟩
 have hd0 : ((k : Int) == 0) = false:=by simp; omega
 rw [hd0]
 simp only [Bool.not_false, Bool.true_and]
 by_cases he : s = ⟨#[]⟩
 ·have hd : decide (s = ⟨#[]⟩) = true:=by simpa using he
  have hy : (s.toList == []) = true:=by rw [he, ByteArray.toList_eq]; rfl
  rw [hd, Bool.true_or]
  clear he hd
  go_enter Tryz.func39, Tryz.ntmps39
  obtain ⟨cLC0,cLC1⟩:=cc2 LC 0 1
  go_wp2_with fail
  clear hw0
  refine (CO.out _).mono ?_
  rintro _ w1 ⟨rfl, bb⟩
  clear cLC0 cLC1
  have Bw1:=bu Bw0 bb
  have sw1:=bb.size
  replace LC:=LC.up bb
  replace LP:=LP.up bb
  clear Bw0
  replace RU:=RU.below bb
  clear bb CO
  obtain ⟨cLP0,cLP1,cLP2⟩:=cc3 LP 0 1 2
  go_wp2_with fail
  refine (IN.out _).mono ?_
  rintro _ w9 ⟨rfl, e9⟩
  rw [e9]
  clear e9 IN cLP0 cLP1 cLP2
  obtain ⟨cLC0,cLC1⟩:=cc2 LC 0 1
  obtain ⟨cLP0,cLP1,cLP2⟩:=cc3 LP 0 1 2
  go_wp2_with fail
  refine (SO.out _ RU).mono ?_
  rintro _ w2 ⟨rfl, bb⟩
  clear cLC0 cLC1 cLP0 cLP1 cLP2
  have Bw2:=bu Bw1 bb
  have sw2:=bb.size
  replace LC:=LC.up bb
  replace LP:=LP.up bb
  clear Bw1 bb SO RU
  obtain ⟨cLP0,cLP1,cLP2⟩:=cc3 LP 0 1 2
  have K:=kw (kc3 LP 0 1 2)
  go_upto_region 3 with fail
  refine wra K (fun bA hHeld => ?_)
  refine tx 0 28 ?_
  refine tx 1 29 ?_
  refine tx 2 30 ?_
  refine tx 3 31 ?_
  refine sx 4 32 ?_
  refine sx 5 33 ?_
  refine sx 6 34 ?_
  refine sx 7 35 ?_
  refine sx 8 36 ?_
  refine sx 11 39 ?_
  refine sx 9 37 ?_
  refine sx 12 40 ?_
  refine sx 10 38 ?_
  refine sx 13 41 ?_
  refine sx 14 42 ?_
  refine tx 15 43 ?_
  refine tx 16 4 ?_
  clear hHeld
  refine wdn ?_
  obtain ⟨wd3, hwd⟩ : ∃ y, w2.drew = y:=⟨_, rfl⟩
  rw [hwd] at bA ⊢
  clear hwd
  have bb:=bA
  have Bwd3:=bu Bw2 bb
  have swd3:=bb.size
  replace LC:=LC.up bb
  replace LP:=LP.up bb
  clear Bw2 bb bA K cLP0 cLP1 cLP2
  go_wp2
  go_ret
  exact ⟨rfl, Bwd3⟩
 have hd : decide (s = ⟨#[]⟩) = false:=by simpa using he
 have hne:=ne2 he
 rw [hd, Bool.false_or]
 clear he hd
 cases nk
 ·simp only [Bool.false_and]
  go_enter Tryz.func39, Tryz.ntmps39
  obtain ⟨cLC0,cLC1⟩:=cc2 LC 0 1
  go_wp2_with fail
  clear hw0
  refine (CO.out _).mono ?_
  rintro _ w1 ⟨rfl, bb⟩
  clear cLC0 cLC1
  have Bw1:=bu Bw0 bb
  have sw1:=bb.size
  replace LC:=LC.up bb
  replace LP:=LP.up bb
  clear Bw0
  replace RU:=RU.below bb
  clear bb CO
  obtain ⟨cLP0,cLP1,cLP2⟩:=cc3 LP 0 1 2
  go_wp2_with fail
  refine (IN.out _).mono ?_
  rintro _ w9 ⟨rfl, e9⟩
  rw [e9]
  clear e9 IN cLP0 cLP1 cLP2
  obtain ⟨cLC0,cLC1⟩:=cc2 LC 0 1
  obtain ⟨cLP0,cLP1,cLP2⟩:=cc3 LP 0 1 2
  go_wp2_with fail
  refine (SO.out _ RU).mono ?_
  rintro _ w2 ⟨rfl, bb⟩
  clear cLC0 cLC1 cLP0 cLP1 cLP2
  have Bw2:=bu Bw1 bb
  have sw2:=bb.size
  replace LC:=LC.up bb
  replace LP:=LP.up bb
  clear Bw1 bb SO RU
  obtain ⟨cLP0,cLP1,cLP2⟩:=cc3 LP 0 1 2
  have K:=kw (kc3 LP 0 1 2)
  go_upto_region 3 with fail
  refine wra K (fun bA hHeld => ?_)
  refine tx 0 28 ?_
  refine tx 1 29 ?_
  refine tx 2 30 ?_
  refine tx 3 31 ?_
  refine tx 4 32 ?_
  refine tx 5 33 ?_
  refine rd 6 rfl (fun KK hKK => ?_)
  go_simp
  have hgo:=bA
  refine (NO.out _).mono ?_
  rintro e wz3_1 ⟨rfl, bb⟩
  have bz1 : Below w2.heap.size w2 wz3_1:=bu bA bb
  clear bA hgo bb hHeld
  refine hKK.out _ _ (K.out _ bz1) (fun hHeld => ?_)
  clear hKK KK
  refine tx 7 35 ?_
  refine sx 8 36 ?_
  refine sx 11 39 ?_
  refine sx 9 37 ?_
  refine sx 12 40 ?_
  refine sx 10 38 ?_
  refine sx 13 41 ?_
  refine tx 14 42 ?_
  refine tx 15 43 ?_
  refine tx 16 4 ?_
  clear hHeld
  refine wdn ?_
  have bb:=bz1
  have Bwz3_1:=bu Bw2 bb
  have swz3_1:=bb.size
  replace LC:=LC.up bb
  replace LP:=LP.up bb
  clear Bw2 bb bz1 K cLP0 cLP1 cLP2
  go_wp2
  go_ret
  exact ⟨rfl, Bwz3_1⟩
 simp only [Bool.true_and]
 by_cases hv : vw = m
 ·have hd : decide (vw = m) = true:=by simpa using hv
  rw [hd]
  clear hd
  have hv2:=hv.symm
  subst hv2
  go_enter Tryz.func39, Tryz.ntmps39
  obtain ⟨cLC0,cLC1⟩:=cc2 LC 0 1
  go_wp2_with fail
  clear hw0
  refine (CO.out _).mono ?_
  rintro _ w1 ⟨rfl, bb⟩
  clear cLC0 cLC1
  have Bw1:=bu Bw0 bb
  have sw1:=bb.size
  replace LC:=LC.up bb
  replace LP:=LP.up bb
  clear Bw0
  replace RU:=RU.below bb
  clear bb CO
  obtain ⟨cLP0,cLP1,cLP2⟩:=cc3 LP 0 1 2
  go_wp2_with fail
  refine (IN.out _).mono ?_
  rintro _ w9 ⟨rfl, e9⟩
  rw [e9]
  clear e9 IN cLP0 cLP1 cLP2
  obtain ⟨cLC0,cLC1⟩:=cc2 LC 0 1
  obtain ⟨cLP0,cLP1,cLP2⟩:=cc3 LP 0 1 2
  go_wp2_with fail
  refine (SO.out _ RU).mono ?_
  rintro _ w2 ⟨rfl, bb⟩
  clear cLC0 cLC1 cLP0 cLP1 cLP2
  have Bw2:=bu Bw1 bb
  have sw2:=bb.size
  replace LC:=LC.up bb
  replace LP:=LP.up bb
  clear Bw1 bb SO RU
  obtain ⟨cLP0,cLP1,cLP2⟩:=cc3 LP 0 1 2
  have K:=kw (kc3 LP 0 1 2)
  go_upto_region 3 with fail
  refine wra K (fun bA hHeld => ?_)
  refine tx 0 28 ?_
  refine tx 1 29 ?_
  refine tx 2 30 ?_
  refine tx 3 31 ?_
  refine tx 4 32 ?_
  refine tx 5 33 ?_
  refine rd 6 rfl (fun KK hKK => ?_)
  go_simp
  have hgo:=bA
  refine (NO.out _).mono ?_
  rintro e wz3_1 ⟨rfl, bb⟩
  have bz1 : Below w2.heap.size w2 wz3_1:=bu bA bb
  clear bA hgo bb hHeld
  refine hKK.out _ _ (K.out _ bz1) (fun hHeld => ?_)
  clear hKK KK
  refine tx 7 35 ?_
  refine tx 8 36 ?_
  refine tx 11 39 ?_
  refine tx 9 37 ?_
  refine tx 12 40 ?_
  refine rd 10 rfl (fun KK hKK => ?_)
  go_simp
  have hgo:=bz1
  refine (VO.out _).mono ?_
  rintro e wz3_2 ⟨rfl, bb⟩
  have bz2 : Below w2.heap.size w2 wz3_2:=bu bz1 bb
  clear bz1 hgo bb hHeld
  refine hKK.out _ _ (K.out _ bz2) (fun hHeld => ?_)
  clear hKK KK
  refine tx 13 41 ?_
  refine tx 14 42 ?_
  refine tx 15 43 ?_
  refine tx 16 4 ?_
  clear hHeld
  refine wdn ?_
  have bb:=bz2
  have Bwz3_2:=bu Bw2 bb
  have swz3_2:=bb.size
  replace LC:=LC.up bb
  replace LP:=LP.up bb
  clear Bw2 bb bz2 K cLP0 cLP1 cLP2
  go_wp2
  go_ret
  exact ⟨rfl, Bwz3_2⟩
 have hd : decide (vw = m) = false:=by simpa using hv
 rw [hd]
 go_enter Tryz.func39, Tryz.ntmps39
 obtain ⟨cLC0,cLC1⟩:=cc2 LC 0 1
 go_wp2_with fail
 clear hw0
 refine (CO.out _).mono ?_
 rintro _ w1 ⟨rfl, bb⟩
 clear cLC0 cLC1
 have Bw1:=bu Bw0 bb
 have sw1:=bb.size
 replace LC:=LC.up bb
 replace LP:=LP.up bb
 clear Bw0
 replace RU:=RU.below bb
 clear bb CO
 obtain ⟨cLP0,cLP1,cLP2⟩:=cc3 LP 0 1 2
 go_wp2_with fail
 refine (IN.out _).mono ?_
 rintro _ w9 ⟨rfl, e9⟩
 rw [e9]
 clear e9 IN cLP0 cLP1 cLP2
 obtain ⟨cLC0,cLC1⟩:=cc2 LC 0 1
 obtain ⟨cLP0,cLP1,cLP2⟩:=cc3 LP 0 1 2
 go_wp2_with fail
 refine (SO.out _ RU).mono ?_
 rintro _ w2 ⟨rfl, bb⟩
 clear cLC0 cLC1 cLP0 cLP1 cLP2
 have Bw2:=bu Bw1 bb
 have sw2:=bb.size
 replace LC:=LC.up bb
 replace LP:=LP.up bb
 clear Bw1 bb SO RU
 obtain ⟨cLP0,cLP1,cLP2⟩:=cc3 LP 0 1 2
 have K:=kw (kc3 LP 0 1 2)
 go_upto_region 3 with fail
 refine wra K (fun bA hHeld => ?_)
 refine tx 0 28 ?_
 refine tx 1 29 ?_
 refine tx 2 30 ?_
 refine tx 3 31 ?_
 refine tx 4 32 ?_
 refine tx 5 33 ?_
 refine rd 6 rfl (fun KK hKK => ?_)
 go_simp
 have hgo:=bA
 refine (NO.out _).mono ?_
 rintro e wz3_1 ⟨rfl, bb⟩
 have bz1 : Below w2.heap.size w2 wz3_1:=bu bA bb
 clear bA hgo bb hHeld
 refine hKK.out _ _ (K.out _ bz1) (fun hHeld => ?_)
 clear hKK KK
 refine tx 7 35 ?_
 refine tx 8 36 ?_
 refine tx 11 39 ?_
 refine tx 9 37 ?_
 refine tx 12 40 ?_
 refine rd 10 rfl (fun KK hKK => ?_)
 go_simp
 have hgo:=bz1
 refine (VO.out _).mono ?_
 rintro e wz3_2 ⟨rfl, bb⟩
 have bz2 : Below w2.heap.size w2 wz3_2:=bu bz1 bb
 clear bz1 hgo bb hHeld
 refine hKK.out _ _ (K.out _ bz2) (fun hHeld => ?_)
 clear hKK KK
 refine tx 13 41 ?_
 refine tx 14 42 ?_
 refine tx 15 43 ?_
 refine tx 16 4 ?_
 clear hHeld
 refine wdn ?_
 have bb:=bz2
 have Bwz3_2:=bu Bw2 bb
 have swz3_2:=bb.size
 replace LC:=LC.up bb
 replace LP:=LP.up bb
 clear Bw2 bb bz2 K cLP0 cLP1 cLP2
 go_wp2
 go_ret
 exact ⟨by simp [hv], Bwz3_2⟩
end
section
open Go.RowKit
abbrev Pt := Int × ByteArray × List Int
def zpt : Pt := (0, ⟨#[]⟩, [])
def phd (p : Pt) : Int × ByteArray := (p.1, p.2.1)
theorem Tryz.infoPt : (Tryz.prog.info? 36).map (fun i => (i.zero, i.size, i.bytes)) = some (some (.agg #[.int .i64 0,.string ⟨#[]⟩,.slice none 0 0]), 3, 48) := by kernel_rfl
def pcell (p : (Int × ByteArray) × Value) : List Value := [.int .i64 p.1.1, .string p.1.2, p.2]
def pcells (ps : List ((Int × ByteArray) × Value)) : List Value := ps.flatMap pcell
theorem pcells_cons (p : (Int × ByteArray) × Value) (ps : List ((Int × ByteArray) × Value)) : pcells (p :: ps) = .int .i64 p.1.1 :: .string p.1.2 :: p.2 :: pcells ps := by simp [pcells, pcell]
theorem pcells_len (ps : List ((Int × ByteArray) × Value)) : (pcells ps).length = ps.length * 3 := by
 induction ps with
 | nil => rfl
 | cons p ps ih => rw [pcells_cons]; simp only [List.length_cons, ih]; omega
theorem pcells_append (ps qs : List ((Int × ByteArray) × Value)) : pcells (ps ++ qs) = pcells ps ++ pcells qs := by simp [pcells]
theorem pcells_get (ps : List ((Int × ByteArray) × Value)) (k j : Nat) (hk : k < ps.length) (hj : j < 3) : (pcells ps)[k * 3 + j]? = (pcell (ps.getD k ((0, ⟨#[]⟩),.slice none 0 0)))[j]? := by
 induction ps generalizing k with
 | nil => simp at hk
 | cons p ps ih =>
  have e : pcells (p :: ps) = pcell p ++ pcells ps:=by simp [pcells]
  rw [e]
  cases k with
  | zero => rw [Nat.zero_mul, Nat.zero_add, List.getElem?_append_left (by simp [pcell]; exact hj)]; rfl
  | succ k =>
   rw [List.getElem?_append_right (by simp [pcell]; omega), show (pcell p).length = 3 from rfl, show (k + 1) * 3 + j - 3 = k * 3 + j from by omega, ih k (by simpa using hk)]
   rfl
structure OPtV (w : World) (base : Nat) (v : Value) (ps : List Pt) (vs : List Value) : Prop where
 len : vs.length = ps.length
 row : w.ownsRow base 36 3 v ps.length (pcells ((ps.map phd).zip vs))
 each : ∀ k, k < ps.length → OI w base (vs.getD k (.slice none 0 0)) (ps.getD k zpt).2.2
 apart : ∀ i j, i < j → j < ps.length → ∀ b, (vs.getD i (.slice none 0 0)).ownBlock = some b → (vs.getD j (.slice none 0 0)).ownBlock ≠ some b
def OPt (w : World) (base : Nat) (v : Value) (ps : List Pt) : Prop := ∃ vs, OPtV w base v ps vs
theorem pt_oi {w : World} {B B' n : Nat} {v u : Value} {cs : List Value} {ys : List Int} (h : w.ownsRow B 36 3 v n cs) (h' : OI w B' u ys) (b : Nat) (hv : v.ownBlock = some b) : u.ownBlock ≠ some b := by
 rcases h.2 with ⟨rfl, _⟩ | ⟨g, cap, cur, rfl, _, hg, _⟩
 ·simp [Value.ownBlock] at hv
 rcases h'.2 with ⟨rfl, _⟩ | ⟨g', cap', cur', rfl, _, hg', _⟩
 ·simp [Value.ownBlock]
 intro e
 simp [Value.ownBlock] at e hv
 subst hv
 rw [e, hg] at hg'
 simp at hg'
theorem OPtV.below {w w' : World} {base : Nat} {v : Value} {ps : List Pt} {vs : List Value} (h : OPtV w base v ps vs) (hb : Below w.heap.size w w') : OPtV w' base v ps vs :=
 ⟨h.len, World.ownsRow.kept (row := none) h.row ⟨hb.os, hb.tape, hb.output, hb.size, fun k hk _ => hb.block k hk⟩ (by cases v.ownBlock <;> simp), fun k hk => (h.each k hk).below hb, h.apart⟩
theorem OPt.below {w w' : World} {base : Nat} {v : Value} {ps : List Pt} (h : OPt w base v ps) (hb : Below w.heap.size w w') : OPt w' base v ps := by
 obtain ⟨vs, h⟩:=h; exact ⟨vs, h.below hb⟩
theorem OPtV.kp {w w' : World} {base : Nat} {X : Nat → Prop} {v : Value} {ps : List Pt} {vs : List Value} (h : OPtV w base v ps vs) (k : Kp w w' X) (hX : ∀ j, base ≤ j → j < w.heap.size → ¬ X j) : OPtV w' base v ps vs := by
 have rl:=World.ownsRow.lt h.row
 refine ⟨h.len, ?_, fun j hj => (h.each j hj).kp k (fun b hb => by have := World.ownsRow.lt (h.each j hj) b hb; exact hX b this.1 this.2), h.apart⟩
 rcases h.row with ⟨h1, ⟨e, h0⟩ | ⟨g, cap, cur, e, hg, hrow, rest⟩⟩
 ·exact ⟨h1, .inl ⟨e, h0⟩⟩
 have hlt:=rl g (by rw [e]; rfl)
 exact ⟨h1, .inr ⟨g, cap, cur, e, hg, (k.block g hlt.2 (hX g hlt.1 hlt.2)).trans hrow, rest⟩⟩
theorem OPt.kp {w w' : World} {base : Nat} {X : Nat → Prop} {v : Value} {ps : List Pt} (h : OPt w base v ps) (k : Kp w w' X) (hX : ∀ j, base ≤ j → j < w.heap.size → ¬ X j) : OPt w' base v ps := by
 obtain ⟨vs, h⟩:=h; exact ⟨vs, h.kp k hX⟩
theorem OPtV.mono {w : World} {base base' : Nat} {v : Value} {ps : List Pt} {vs : List Value} (h : OPtV w base v ps vs) (hb : base' ≤ base) : OPtV w base' v ps vs := by
 refine ⟨h.len, ?_, fun k hk => OI.mono (h.each k hk) hb, h.apart⟩
 obtain ⟨h1, h2⟩:=h.row
 refine ⟨h1, ?_⟩
 rcases h2 with h2 | ⟨g, cap, cur, e, hg, rest⟩
 ·exact .inl h2
 exact .inr ⟨g, cap, cur, e, Nat.le_trans hb hg, rest⟩
theorem OPt.mono {w : World} {base base' : Nat} {v : Value} {ps : List Pt} (h : OPt w base v ps) (hb : base' ≤ base) : OPt w base' v ps := by
 obtain ⟨vs, h⟩:=h; exact ⟨vs, h.mono hb⟩
theorem OPt.form {w : World} {base : Nat} {v : Value} {ps : List Pt} (h : OPt w base v ps) : ∃ ao ca, v = .slice ao ps.length ca := by
 obtain ⟨vs, h⟩:=h
 rcases h.row.2 with ⟨rfl, h0⟩ | ⟨g, cap, cur, rfl, _⟩
 ·exact ⟨none, 0, by rw [h0]⟩
 exact ⟨_, _, rfl⟩
def RPt (w : World) (v : Value) (ps : List Pt) : Prop :=
 ∃ ao cap, v = .slice ao ps.length cap ∧ (ps = [] ∨ ∃ g off, ao = some ⟨g, off, none⟩ ∧ ∀ k, k < ps.length → ∃ u, w.cell? ⟨g, off + k * 3, none⟩ = some (.int .i64 (ps.getD k zpt).1) ∧ w.cell? ⟨g, off + k * 3 + 1, none⟩ = some (.string (ps.getD k zpt).2.1) ∧ w.cell? ⟨g, off + k * 3 + 2, none⟩ = some u ∧ RI w u (ps.getD k zpt).2.2)
theorem pzip_get (ps : List Pt) (vs : List Value) (hl : vs.length = ps.length) (k : Nat) (hk : k < ps.length) : ((ps.map phd).zip vs).getD k ((0, ⟨#[]⟩),.slice none 0 0) = (phd (ps.getD k zpt), vs.getD k (.slice none 0 0)) := by
 rw [List.getD_eq_getElem?_getD, List.getElem?_eq_getElem (by simp; omega)]
 simp [List.getElem?_eq_getElem hk, List.getElem?_eq_getElem (show k < vs.length by omega)]
theorem pt_mem {ps : List Pt} {k : Nat} (hk : k < ps.length) : ps.getD k zpt ∈ ps := by
 rw [List.getD_eq_getElem?_getD, List.getElem?_eq_getElem hk]; exact List.getElem_mem hk
theorem OPt.rpt {w : World} {base : Nat} {v : Value} {ps : List Pt} (h : OPt w base v ps) (hs : ∀ p ∈ ps, p.2.2.length ≤ 4194304) : RPt w v ps := by
 obtain ⟨vs, h⟩:=h
 have hz : ((ps.map phd).zip vs).length = ps.length:=by simp [h.len]
 rcases h.row.2 with ⟨rfl, h0⟩ | ⟨g, cap, cur, rfl, _⟩
 ·exact ⟨none, 0, by rw [h0], .inl (List.length_eq_zero_iff.1 h0)⟩
 refine ⟨_, cap, rfl, .inr ⟨g, 0, rfl, fun k hk => ?_⟩⟩
 have c0:=World.ownsRow.cellAt h.row (k * 3 + 0) (by omega)
 have c1:=World.ownsRow.cellAt h.row (k * 3 + 1) (by omega)
 have c2:=World.ownsRow.cellAt h.row (k * 3 + 2) (by omega)
 rw [pcells_get _ k _ (by omega) (by omega), pzip_get ps vs h.len k hk] at c0 c1 c2
 refine ⟨_, ?_, ?_, ?_, (h.each k hk).ri (hs _ (pt_mem hk))⟩
 ·rw [Nat.zero_add]; exact c0
 ·rw [Nat.zero_add]; exact c1
 rw [Nat.zero_add]; exact c2
theorem RPt.below {w w' : World} {B : Nat} {v : Value} {ps : List Pt} (h : RPt w v ps) (hb : Below B w w') (hB : w.heap.size ≤ B := by exact Nat.le_refl _) : RPt w' v ps := by
 obtain ⟨ao, cap, rfl, h⟩:=h
 refine ⟨ao, cap, rfl, ?_⟩
 rcases h with h | ⟨g, off, rfl, h⟩
 ·exact .inl h
 refine .inr ⟨g, off, rfl, fun k hk => ?_⟩
 obtain ⟨u, c0, c1, c2, r⟩:=h k hk
 have hg : g < B:=Nat.lt_of_lt_of_le (cell_lt c0) hB
 exact ⟨u, (hb.cell (p := ⟨g, off + k * 3, none⟩) hg).trans c0, (hb.cell (p := ⟨g, off + k * 3 + 1, none⟩) hg).trans c1, (hb.cell (p := ⟨g, off + k * 3 + 2, none⟩) hg).trans c2, r.below hb hB⟩
theorem RPt.form {w : World} {v : Value} {ps : List Pt} (h : RPt w v ps) : ∃ ao ca, v = .slice ao ps.length ca := by obtain ⟨ao, ca, e, _⟩ := h; exact ⟨ao, ca, e⟩
theorem RPt.at {w : World} {ao : Option Addr} {n ca : Nat} {ps : List Pt} (h : RPt w (.slice ao n ca) ps) (k : Nat) (hk : k < ps.length) : ∃ g off u, ao = some ⟨g, off, none⟩ ∧ w.cell? ⟨g, off + k * 3, none⟩ = some (.int .i64 (ps.getD k zpt).1) ∧ w.cell? ⟨g, off + k * 3 + 1, none⟩ = some (.string (ps.getD k zpt).2.1) ∧ w.cell? ⟨g, off + k * 3 + 2, none⟩ = some u ∧ RI w u (ps.getD k zpt).2.2 := by
 obtain ⟨ao', ca', e, h⟩:=h
 cases e
 rcases h with rfl | ⟨g, off, rfl, h⟩
 ·simp at hk
 obtain ⟨u, h⟩:=h k hk; exact ⟨g, off, u, rfl, h⟩
structure OPR (w : World) (lo hi : Nat) (v : Value) (ps : List Pt) (vs : List Value) : Prop where
 tab : OPtV w lo v ps vs
 top : hi ≤ w.heap.size
 rowHi : ∀ b, v.ownBlock = some b → b < hi
 eachHi : ∀ k, k < ps.length → ∀ b, (vs.getD k (.slice none 0 0)).ownBlock = some b → b < hi
theorem OPtV.opr {w : World} {base : Nat} {v : Value} {ps : List Pt} {vs : List Value} (h : OPtV w base v ps vs) : OPR w base w.heap.size v ps vs :=
 ⟨h, Nat.le_refl _, fun b hb => (World.ownsRow.lt h.row b hb).2, fun k hk b hb => (World.ownsRow.lt (h.each k hk) b hb).2⟩
theorem OPR.kp {w w' : World} {lo hi : Nat} {X : Nat → Prop} {v : Value} {ps : List Pt} {vs : List Value} (h : OPR w lo hi v ps vs) (k : Kp w w' X) (hX : ∀ j, lo ≤ j → j < hi → ¬ X j) : OPR w' lo hi v ps vs := by
 refine ⟨?_, Nat.le_trans h.top k.size, h.rowHi, h.eachHi⟩
 refine ⟨h.tab.len, ?_, fun j hj => (h.tab.each j hj).kp k (fun b hb => hX b (World.ownsRow.lt (h.tab.each j hj) b hb).1 (h.eachHi j hj b hb)), h.tab.apart⟩
 have rl:=World.ownsRow.lt h.tab.row
 rcases h.tab.row with ⟨h1, ⟨e, h0⟩ | ⟨g, cap, cur, e, hg, hrow, rest⟩⟩
 ·exact ⟨h1, .inl ⟨e, h0⟩⟩
 have eo : v.ownBlock = some g:=by rw [e]; rfl
 exact ⟨h1, .inr ⟨g, cap, cur, e, hg, (k.block g (rl g eo).2 (hX g (rl g eo).1 (h.rowHi g eo))).trans hrow, rest⟩⟩
theorem OPR.below {w w' : World} {lo hi : Nat} {v : Value} {ps : List Pt} {vs : List Value} (h : OPR w lo hi v ps vs) (hb : Below w.heap.size w w') : OPR w' lo hi v ps vs :=
 h.kp (Below.kpOf hb (fun _ => False)) (fun _ _ _ h => h)
theorem OPR.rpt {w : World} {lo hi : Nat} {v : Value} {ps : List Pt} {vs : List Value} (h : OPR w lo hi v ps vs) (hs : ∀ p ∈ ps, p.2.2.length ≤ 4194304) : RPt w v ps := OPt.rpt ⟨vs, h.tab⟩ hs
def CapP (v : Value) : Prop := ∃ ao n cap, v = .slice ao n cap ∧ n ≤ cap ∧ cap ≤ maxLen
theorem OPtV.cap {w : World} {base : Nat} {v : Value} {ps : List Pt} {vs : List Value} (h : OPtV w base v ps vs) : CapP v := by
 rcases h.row.2 with ⟨rfl, h0⟩ | ⟨g, cap, cur, rfl, _, _, hca, hcm, _⟩
 ·exact ⟨none, 0, 0, rfl, Nat.le_refl _, by unfold maxLen; omega⟩
 exact ⟨_, _, cap, rfl, hca, hcm⟩
theorem OPt.cap {w : World} {base : Nat} {v : Value} {ps : List Pt} (h : OPt w base v ps) : CapP v := by obtain ⟨vs, h⟩ := h; exact h.cap
theorem OPR.cap {w : World} {lo hi : Nat} {v : Value} {ps : List Pt} {vs : List Value} (h : OPR w lo hi v ps vs) : CapP v := h.tab.cap
theorem opt_more {w w' : World} {base N : Nat} {v v' : Value} {ps : List Pt} {vs : List Value} {n : Int} {s : ByteArray} {u : Value} {xs : List Int} (h : OPtV w base v ps vs) (hu : OI w N u xs) (hN : ∀ k, k < ps.length → ∀ b, (vs.getD k (.slice none 0 0)).ownBlock = some b → b < N) (hbN : base ≤ N)
 (hr : w'.ownsRow base 36 3 v' (ps.length + 1) (pcells ((ps.map phd).zip vs) ++ pcell ((n, s), u))) (hg : w.grownBy w' v.ownBlock) : OPtV w' base v' (ps ++ [(n, s, xs)]) (vs ++ [u]) := by
 have keep : ∀ (x : Value) (zs : List Int) (B : Nat), OI w B x zs → OI w' B x zs:=fun x zs B hx => World.ownsRow.kept hx hg (by
  cases hxo : x.ownBlock with
  | none => exact .inl rfl
  | some b => exact .inr fun e => pt_oi h.row hx b e.symm hxo)
 refine ⟨by simp [h.len], ?_, fun k hk => ?_, fun i j hij hj b hb => ?_⟩
 ·have e : ((ps ++ [(n, s, xs)]).map phd).zip (vs ++ [u]) = (ps.map phd).zip vs ++ [((n, s), u)]:=by
   rw [List.map_append, List.zip_append (by simp [h.len])]; rfl
  rw [e, pcells_append, List.length_append]
  simpa [pcells] using hr
 ·rw [List.length_append, List.length_singleton] at hk
  by_cases e : k < ps.length
  ·rw [List.getD_eq_getElem?_getD, List.getElem?_append_left (by rw [h.len]; exact e), ← List.getD_eq_getElem?_getD, List.getD_eq_getElem?_getD (l := ps ++ _), List.getElem?_append_left e, ← List.getD_eq_getElem?_getD]
   exact keep _ _ _ (h.each k e)
  obtain rfl : k = ps.length:=by omega
  have e1 : (vs ++ [u]).getD ps.length (.slice none 0 0) = u:=by rw [← h.len]; simp
  have e2 : (ps ++ [(n, s, xs)]).getD ps.length zpt = (n, s, xs):=by simp
  rw [e1, e2]
  exact OI.mono (keep _ _ _ hu) hbN
 rw [List.length_append, List.length_singleton] at hj
 have hi : i < ps.length:=by omega
 rw [List.getD_eq_getElem?_getD, List.getElem?_append_left (by rw [h.len]; exact hi), ← List.getD_eq_getElem?_getD] at hb
 by_cases e : j < ps.length
 ·rw [List.getD_eq_getElem?_getD, List.getElem?_append_left (by rw [h.len]; exact e), ← List.getD_eq_getElem?_getD]
  exact h.apart i j hij e b hb
 obtain rfl : j = ps.length:=by omega
 have e1 : (vs ++ [u]).getD ps.length (.slice none 0 0) = u:=by rw [← h.len]; simp
 rw [e1]
 intro e3
 have:=hN i hi b hb
 have:=(World.ownsRow.lt hu b e3).1
 omega
def befP (a b : Pt) : Bool := decide (a.1 < b.1) || (decide (a.1 = b.1) && Op.bytesLess a.2.1.toList b.2.1.toList)
def samP (a b : Pt) : Bool := decide (a.1 = b.1) && (a.2.1.toList == b.2.1.toList)
def joinP (a b : Pt) : Pt := (a.1, a.2.1, joinL a.2.2 b.2.2)
def addP : List Pt → Pt → List Pt
 | [], p => [p]
 | x :: xs, p => if befP x p then x :: addP xs p else if samP x p then joinP x p :: xs else p :: x :: xs
def getP (ps : List Pt) (v : Int) (s : ByteArray) : Pt := (ps.find? fun x => decide (x.1 = v) && (x.2.1.toList == s.toList)).getD (v, s, [])
def dropP (ps : List Pt) (v : Int) : List Pt := ps.filter fun x => decide (v ≤ x.1)
def rowP : List Pt → Bool
 | [] => true
 | [_] => true
 | a :: b :: t => befP a b && rowP (b :: t)

theorem less_irrefl (x : List UInt8) : Op.bytesLess x x = false := by
 induction x with
 | nil => rfl
 | cons a x ih => simp [Op.bytesLess, ih]
theorem less_total {x y : List UInt8} (h : Op.bytesLess x y = false) (hn : x ≠ y) : Op.bytesLess y x = true := by
 induction x generalizing y with
 | nil =>
  cases y with
  | nil => exact absurd rfl hn
  | cons b y => simp [Op.bytesLess] at h
 | cons a x ih =>
  cases y with
  | nil => rfl
  | cons b y =>
   simp only [Op.bytesLess, Bool.or_eq_false_iff, decide_eq_false_iff_not, Bool.and_eq_false_imp, beq_iff_eq] at h
   simp only [Op.bytesLess, Bool.or_eq_true, decide_eq_true_eq, Bool.and_eq_true, beq_iff_eq]
   by_cases e : a = b
   ·subst e
    exact .inr ⟨rfl, ih (h.2 rfl) (fun e => hn (by rw [e]))⟩
   left
   have h1:=h.1
   rw [UInt8.lt_iff_toNat_lt] at h1 ⊢
   have : a.toNat ≠ b.toNat:=fun e' => e (UInt8.toNat_inj.1 e')
   omega
theorem less_trans {x y z : List UInt8} (h : Op.bytesLess x y = true) (h' : Op.bytesLess y z = true) : Op.bytesLess x z = true := by
 induction x generalizing y z with
 | nil =>
  cases z with
  | nil => cases y <;> simp [Op.bytesLess] at h'
  | cons c z => rfl
 | cons a x ih =>
  cases y with
  | nil => simp [Op.bytesLess] at h
  | cons b y =>
   cases z with
   | nil => simp [Op.bytesLess] at h'
   | cons c z =>
    simp only [Op.bytesLess, Bool.or_eq_true, decide_eq_true_eq, Bool.and_eq_true, beq_iff_eq] at h h' ⊢
    rcases h with h | ⟨rfl, h⟩
    ·rcases h' with h' | ⟨rfl, h'⟩
     ·left; rw [UInt8.lt_iff_toNat_lt] at *; omega
     exact .inl h
    rcases h' with h' | ⟨rfl, h'⟩
    ·exact .inl h'
    exact .inr ⟨rfl, ih h h'⟩
theorem bef_trans {a b c : Pt} (h : befP a b = true) (h' : befP b c = true) : befP a c = true := by
 simp only [befP, Bool.or_eq_true, decide_eq_true_eq, Bool.and_eq_true] at *
 rcases h with h | ⟨h, hs⟩
 ·left
  rcases h' with h' | ⟨h', _⟩ <;> omega
 rcases h' with h' | ⟨h', hs'⟩
 ·left; omega
 exact .inr ⟨by omega, less_trans hs hs'⟩
theorem sam_not_bef {a b : Pt} (h : samP a b = true) : befP a b = false := by
 simp only [samP, Bool.and_eq_true, decide_eq_true_eq, beq_iff_eq] at h
 simp [befP, h.1, h.2, less_irrefl]
theorem addP_len (ps : List Pt) (p : Pt) : (addP ps p).length ≤ ps.length + 1 := by
 induction ps with
 | nil => simp [addP]
 | cons x ps ih => unfold addP; split <;> (try split) <;> simp <;> omega
end
end Go.Proofs.YtjkcphnohhpihaaGreatDoor
