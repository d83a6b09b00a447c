/- Lemmas, as stated. -/
import Derived.Test.YtjdchloechcclaaGreatDoorSNAZ
import Derived.Conc.MuLone
set_option maxRecDepth 100000
set_option maxHeartbeats 8000000
set_option linter.unusedSectionVars false
namespace Go.Proofs.YtjdchloechcclaaGreatDoor
section
open Go.RowKit
variable [∀ (a b c d : Int), Decidable (Ok4 a b c d)]
variable [∀ (n f : Int), Decidable (COk n f)]
variable [∀ (n : Int) (s : List Int), Decidable (OkL n s)]
variable [∀ (a b c d : Nat), Decidable (okN a b c d)]
variable [∀ (last : Int) (s : St), Decidable (GoodSt last s)]
variable [∀ (x : T4), Decidable (OkT x)]
def pokB (n f m : Int) (s : ByteArray) (xs : List Int) : Bool := decide (COk n f) && decide (1 ≤ m ∧ m ≤ 60) && decide (OkL n xs) && decide (xs ≠ []) && (decide (s = ⟨#[]⟩) || ((stepsAns s).isSome && decide (viewAns s = m)))
theorem in_bool (x lo hi : Int) (w : World) : Calls Tryz.prog 92 #[.int .i64 x,.int .i64 lo,.int .i64 hi] w fun e w' => e = .returned (.bool (decide (lo ≤ x ∧ x ≤ hi))) ∧ w' = w := by
 by_cases h : lo ≤ x ∧ x ≤ hi
 ·rw [decide_eq_true h]; exact in_yes x lo hi w h.1 h.2
 rw [decide_eq_false h]; exact in_no x lo hi w (by omega)

theorem specPartOk (n f m : Int) (s : ByteArray) (u : Value) (xs : List Int) (w : World) (hs : s.size ≤ 1048576) (hu : RI w u xs) :
 Calls Tryz.prog 123 #[cv n f, qv m s u] w fun e w' => e = .returned (.bool (pokB n f m s xs)) ∧ Below w.heap.size w w' := by
 obtain ⟨ua, uc, rfl⟩:=hu.form
 obtain ⟨w0, hw0, Bw0, LC, LP, _⟩:=bx2 w #[.int .i64 n,.int .i64 f] 49 #[.int .i64 m,.string s,.slice ua xs.length uc] 69
 have RU:=hu.below Bw0
 have CO:=hide fun w => specConfOk n f w
 have IN:=hide fun w => in_bool m 1 60 w
 have SO:=hide fun w h => specSetOk n (.slice ua xs.length uc) xs w h
 have NO:=hide fun w => specNameOk s w (by omega)
 have VO:=hide fun w => specViewOf s w (by omega)
 have hp : pokB n f m s xs = (decide (COk n f) && decide (1 ≤ m ∧ m ≤ 60) && decide (OkL n xs) && decide (xs ≠ []) && (decide (s = ⟨#[]⟩) || ((stepsAns s).isSome && decide (viewAns s = m)))):=rfl
 have hxe : decide (xs ≠ []) = !((xs.length : Int) == 0):=by cases xs with | nil => rfl | cons a l => simp; omega
 rw [hp, hxe]
 obtain ⟨k, hk⟩ : ∃ k, xs.length = k:=⟨_, rfl⟩
 rw [hk] at SO LP hw0 RU ⊢
 clear hp hxe hu hk
 generalize decide (COk n f) = c at *
 generalize decide (1 ≤ m ∧ m ≤ 60) = r at *
 generalize decide (OkL n xs) = o at *
 generalize (stepsAns s).isSome = nk at *
 generalize viewAns s = vw at *
 cases c
 ·simp only [Bool.false_and]
  go_enter Tryz.func123, Tryz.ntmps123
  obtain ⟨cLC0,cLC1⟩:=cc2 LC 0 1
  go_wp2_with fail
  clear hw0
  refine (CO.out _).mono ?_
  rintro _ w1 ⟨rfl, bb⟩
  clear cLC0 cLC1
  have Bw1:=bu Bw0 bb
  have sw1:=bb.size
  replace LC:=LC.up bb
  replace LP:=LP.up bb
  clear Bw0
  replace RU:=RU.below bb
  clear bb CO
  obtain ⟨cLC0,cLC1⟩:=cc2 LC 0 1
  obtain ⟨cLP0,cLP1,cLP2⟩:=cc3 LP 0 1 2
  go_wp2
  go_ret
  exact ⟨rfl, Bw1⟩
 simp only [Bool.true_and]
 cases r
 ·simp only [Bool.false_and]
  go_enter Tryz.func123, Tryz.ntmps123
  obtain ⟨cLC0,cLC1⟩:=cc2 LC 0 1
  go_wp2_with fail
  clear hw0
  refine (CO.out _).mono ?_
  rintro _ w1 ⟨rfl, bb⟩
  clear cLC0 cLC1
  have Bw1:=bu Bw0 bb
  have sw1:=bb.size
  replace LC:=LC.up bb
  replace LP:=LP.up bb
  clear Bw0
  replace RU:=RU.below bb
  clear bb CO
  obtain ⟨cLP0,cLP1,cLP2⟩:=cc3 LP 0 1 2
  go_wp2_with fail
  refine (IN.out _).mono ?_
  rintro _ w9 ⟨rfl, e9⟩
  rw [e9]
  clear e9 IN cLP0 cLP1 cLP2
  obtain ⟨cLC0,cLC1⟩:=cc2 LC 0 1
  obtain ⟨cLP0,cLP1,cLP2⟩:=cc3 LP 0 1 2
  go_wp2
  go_ret
  exact ⟨rfl, Bw1⟩
 simp only [Bool.true_and]
 cases o
 ·simp only [Bool.false_and]
  go_enter Tryz.func123, Tryz.ntmps123
  obtain ⟨cLC0,cLC1⟩:=cc2 LC 0 1
  go_wp2_with fail
  clear hw0
  refine (CO.out _).mono ?_
  rintro _ w1 ⟨rfl, bb⟩
  clear cLC0 cLC1
  have Bw1:=bu Bw0 bb
  have sw1:=bb.size
  replace LC:=LC.up bb
  replace LP:=LP.up bb
  clear Bw0
  replace RU:=RU.below bb
  clear bb CO
  obtain ⟨cLP0,cLP1,cLP2⟩:=cc3 LP 0 1 2
  go_wp2_with fail
  refine (IN.out _).mono ?_
  rintro _ w9 ⟨rfl, e9⟩
  rw [e9]
  clear e9 IN cLP0 cLP1 cLP2
  obtain ⟨cLC0,cLC1⟩:=cc2 LC 0 1
  obtain ⟨cLP0,cLP1,cLP2⟩:=cc3 LP 0 1 2
  go_wp2_with fail
  refine (SO.out _ RU).mono ?_
  rintro _ w2 ⟨rfl, bb⟩
  clear cLC0 cLC1 cLP0 cLP1 cLP2
  have Bw2:=bu Bw1 bb
  have sw2:=bb.size
  replace LC:=LC.up bb
  replace LP:=LP.up bb
  clear Bw1 bb SO RU
  obtain ⟨cLC0,cLC1⟩:=cc2 LC 0 1
  obtain ⟨cLP0,cLP1,cLP2⟩:=cc3 LP 0 1 2
  go_wp2
  go_ret
  exact ⟨rfl, Bw2⟩
 simp only [Bool.true_and]
 by_cases hk : k = 0
 ·subst hk
  have hd0 : ((((0 : Nat) : Int) == 0)) = true:=rfl
  rw [hd0]
  simp only [Bool.not_true, Bool.false_and]
  go_enter Tryz.func123, Tryz.ntmps123
  obtain ⟨cLC0,cLC1⟩:=cc2 LC 0 1
  go_wp2_with fail
  clear hw0
  refine (CO.out _).mono ?_
  rintro _ w1 ⟨rfl, bb⟩
  clear cLC0 cLC1
  have Bw1:=bu Bw0 bb
  have sw1:=bb.size
  replace LC:=LC.up bb
  replace LP:=LP.up bb
  clear Bw0
  replace RU:=RU.below bb
  clear bb CO
  obtain ⟨cLP0,cLP1,cLP2⟩:=cc3 LP 0 1 2
  go_wp2_with fail
  refine (IN.out _).mono ?_
  rintro _ w9 ⟨rfl, e9⟩
  rw [e9]
  clear e9 IN cLP0 cLP1 cLP2
  obtain ⟨cLC0,cLC1⟩:=cc2 LC 0 1
  obtain ⟨cLP0,cLP1,cLP2⟩:=cc3 LP 0 1 2
  go_wp2_with fail
  refine (SO.out _ RU).mono ?_
  rintro _ w2 ⟨rfl, bb⟩
  clear cLC0 cLC1 cLP0 cLP1 cLP2
  have Bw2:=bu Bw1 bb
  have sw2:=bb.size
  replace LC:=LC.up bb
  replace LP:=LP.up bb
  clear Bw1 bb SO RU
  obtain ⟨cLC0,cLC1⟩:=cc2 LC 0 1
  obtain ⟨cLP0,cLP1,cLP2⟩:=cc3 LP 0 1 2
  go_wp2
  go_ret
  exact ⟨rfl, Bw2⟩
 have hd0 : ((k : Int) == 0) = false:=by simp; omega
 rw [hd0]
 simp only [Bool.not_false, Bool.true_and]
 by_cases he : s = ⟨#[]⟩
 ·have hd : decide (s = ⟨#[]⟩) = true:=by simpa using he
  have hy : (s.toList == []) = true:=by rw [he, ByteArray.toList_eq]; rfl
  rw [hd, Bool.true_or]
  clear he hd
  go_enter Tryz.func123, Tryz.ntmps123
  obtain ⟨cLC0,cLC1⟩:=cc2 LC 0 1
  go_wp2_with fail
  clear hw0
  refine (CO.out _).mono ?_
  rintro _ w1 ⟨rfl, bb⟩
  clear cLC0 cLC1
  have Bw1:=bu Bw0 bb
  have sw1:=bb.size
  replace LC:=LC.up bb
  replace LP:=LP.up bb
  clear Bw0
  replace RU:=RU.below bb
  clear bb CO
  obtain ⟨cLP0,cLP1,cLP2⟩:=cc3 LP 0 1 2
  go_wp2_with fail
  refine (IN.out _).mono ?_
  rintro _ w9 ⟨rfl, e9⟩
  rw [e9]
  clear e9 IN cLP0 cLP1 cLP2
  obtain ⟨cLC0,cLC1⟩:=cc2 LC 0 1
  obtain ⟨cLP0,cLP1,cLP2⟩:=cc3 LP 0 1 2
  go_wp2_with fail
  refine (SO.out _ RU).mono ?_
  rintro _ w2 ⟨rfl, bb⟩
  clear cLC0 cLC1 cLP0 cLP1 cLP2
  have Bw2:=bu Bw1 bb
  have sw2:=bb.size
  replace LC:=LC.up bb
  replace LP:=LP.up bb
  clear Bw1 bb SO RU
  obtain ⟨cLP0,cLP1,cLP2⟩:=cc3 LP 0 1 2
  have K:=kw (kc3 LP 0 1 2)
  go_upto_region 3 with fail
  refine wra K (fun bA hHeld => ?_)
  refine tx 0 28 ?_
  refine tx 1 29 ?_
  refine tx 2 30 ?_
  refine tx 3 31 ?_
  refine sx 4 32 ?_
  refine sx 5 33 ?_
  refine sx 6 34 ?_
  refine sx 7 35 ?_
  refine sx 8 36 ?_
  refine sx 11 39 ?_
  refine sx 9 37 ?_
  refine sx 12 40 ?_
  refine sx 10 38 ?_
  refine sx 13 41 ?_
  refine sx 14 42 ?_
  refine tx 15 43 ?_
  refine tx 16 4 ?_
  clear hHeld
  refine wdn ?_
  obtain ⟨wd3, hwd⟩ : ∃ y, w2.drew = y:=⟨_, rfl⟩
  rw [hwd] at bA ⊢
  clear hwd
  have bb:=bA
  have Bwd3:=bu Bw2 bb
  have swd3:=bb.size
  replace LC:=LC.up bb
  replace LP:=LP.up bb
  clear Bw2 bb bA K cLP0 cLP1 cLP2
  go_wp2
  go_ret
  exact ⟨rfl, Bwd3⟩
 have hd : decide (s = ⟨#[]⟩) = false:=by simpa using he
 have hne:=ne2 he
 rw [hd, Bool.false_or]
 clear he hd
 cases nk
 ·simp only [Bool.false_and]
  go_enter Tryz.func123, Tryz.ntmps123
  obtain ⟨cLC0,cLC1⟩:=cc2 LC 0 1
  go_wp2_with fail
  clear hw0
  refine (CO.out _).mono ?_
  rintro _ w1 ⟨rfl, bb⟩
  clear cLC0 cLC1
  have Bw1:=bu Bw0 bb
  have sw1:=bb.size
  replace LC:=LC.up bb
  replace LP:=LP.up bb
  clear Bw0
  replace RU:=RU.below bb
  clear bb CO
  obtain ⟨cLP0,cLP1,cLP2⟩:=cc3 LP 0 1 2
  go_wp2_with fail
  refine (IN.out _).mono ?_
  rintro _ w9 ⟨rfl, e9⟩
  rw [e9]
  clear e9 IN cLP0 cLP1 cLP2
  obtain ⟨cLC0,cLC1⟩:=cc2 LC 0 1
  obtain ⟨cLP0,cLP1,cLP2⟩:=cc3 LP 0 1 2
  go_wp2_with fail
  refine (SO.out _ RU).mono ?_
  rintro _ w2 ⟨rfl, bb⟩
  clear cLC0 cLC1 cLP0 cLP1 cLP2
  have Bw2:=bu Bw1 bb
  have sw2:=bb.size
  replace LC:=LC.up bb
  replace LP:=LP.up bb
  clear Bw1 bb SO RU
  obtain ⟨cLP0,cLP1,cLP2⟩:=cc3 LP 0 1 2
  have K:=kw (kc3 LP 0 1 2)
  go_upto_region 3 with fail
  refine wra K (fun bA hHeld => ?_)
  refine tx 0 28 ?_
  refine tx 1 29 ?_
  refine tx 2 30 ?_
  refine tx 3 31 ?_
  refine tx 4 32 ?_
  refine tx 5 33 ?_
  refine rd 6 rfl (fun KK hKK => ?_)
  go_simp
  have hgo:=bA
  refine (NO.out _).mono ?_
  rintro e wz3_1 ⟨rfl, bb⟩
  have bz1 : Below w2.heap.size w2 wz3_1:=bu bA bb
  clear bA hgo bb hHeld
  refine hKK.out _ _ (K.out _ bz1) (fun hHeld => ?_)
  clear hKK KK
  refine tx 7 35 ?_
  refine sx 8 36 ?_
  refine sx 11 39 ?_
  refine sx 9 37 ?_
  refine sx 12 40 ?_
  refine sx 10 38 ?_
  refine sx 13 41 ?_
  refine tx 14 42 ?_
  refine tx 15 43 ?_
  refine tx 16 4 ?_
  clear hHeld
  refine wdn ?_
  have bb:=bz1
  have Bwz3_1:=bu Bw2 bb
  have swz3_1:=bb.size
  replace LC:=LC.up bb
  replace LP:=LP.up bb
  clear Bw2 bb bz1 K cLP0 cLP1 cLP2
  go_wp2
  go_ret
  exact ⟨rfl, Bwz3_1⟩
 simp only [Bool.true_and]
 by_cases hv : vw = m
 ·have hd : decide (vw = m) = true:=by simpa using hv
  rw [hd]
  clear hd
  have hv2:=hv.symm
  subst hv2
  go_enter Tryz.func123, Tryz.ntmps123
  obtain ⟨cLC0,cLC1⟩:=cc2 LC 0 1
  go_wp2_with fail
  clear hw0
  refine (CO.out _).mono ?_
  rintro _ w1 ⟨rfl, bb⟩
  clear cLC0 cLC1
  have Bw1:=bu Bw0 bb
  have sw1:=bb.size
  replace LC:=LC.up bb
  replace LP:=LP.up bb
  clear Bw0
  replace RU:=RU.below bb
  clear bb CO
  obtain ⟨cLP0,cLP1,cLP2⟩:=cc3 LP 0 1 2
  go_wp2_with fail
  refine (IN.out _).mono ?_
  rintro _ w9 ⟨rfl, e9⟩
  rw [e9]
  clear e9 IN cLP0 cLP1 cLP2
  obtain ⟨cLC0,cLC1⟩:=cc2 LC 0 1
  obtain ⟨cLP0,cLP1,cLP2⟩:=cc3 LP 0 1 2
  go_wp2_with fail
  refine (SO.out _ RU).mono ?_
  rintro _ w2 ⟨rfl, bb⟩
  clear cLC0 cLC1 cLP0 cLP1 cLP2
  have Bw2:=bu Bw1 bb
  have sw2:=bb.size
  replace LC:=LC.up bb
  replace LP:=LP.up bb
  clear Bw1 bb SO RU
  obtain ⟨cLP0,cLP1,cLP2⟩:=cc3 LP 0 1 2
  have K:=kw (kc3 LP 0 1 2)
  go_upto_region 3 with fail
  refine wra K (fun bA hHeld => ?_)
  refine tx 0 28 ?_
  refine tx 1 29 ?_
  refine tx 2 30 ?_
  refine tx 3 31 ?_
  refine tx 4 32 ?_
  refine tx 5 33 ?_
  refine rd 6 rfl (fun KK hKK => ?_)
  go_simp
  have hgo:=bA
  refine (NO.out _).mono ?_
  rintro e wz3_1 ⟨rfl, bb⟩
  have bz1 : Below w2.heap.size w2 wz3_1:=bu bA bb
  clear bA hgo bb hHeld
  refine hKK.out _ _ (K.out _ bz1) (fun hHeld => ?_)
  clear hKK KK
  refine tx 7 35 ?_
  refine tx 8 36 ?_
  refine tx 11 39 ?_
  refine tx 9 37 ?_
  refine tx 12 40 ?_
  refine rd 10 rfl (fun KK hKK => ?_)
  go_simp
  have hgo:=bz1
  refine (VO.out _).mono ?_
  rintro e wz3_2 ⟨rfl, bb⟩
  have bz2 : Below w2.heap.size w2 wz3_2:=bu bz1 bb
  clear bz1 hgo bb hHeld
  refine hKK.out _ _ (K.out _ bz2) (fun hHeld => ?_)
  clear hKK KK
  refine tx 13 41 ?_
  refine tx 14 42 ?_
  refine tx 15 43 ?_
  refine tx 16 4 ?_
  clear hHeld
  refine wdn ?_
  have bb:=bz2
  have Bwz3_2:=bu Bw2 bb
  have swz3_2:=bb.size
  replace LC:=LC.up bb
  replace LP:=LP.up bb
  clear Bw2 bb bz2 K cLP0 cLP1 cLP2
  go_wp2
  go_ret
  exact ⟨rfl, Bwz3_2⟩
 have hd : decide (vw = m) = false:=by simpa using hv
 rw [hd]
 go_enter Tryz.func123, Tryz.ntmps123
 obtain ⟨cLC0,cLC1⟩:=cc2 LC 0 1
 go_wp2_with fail
 clear hw0
 refine (CO.out _).mono ?_
 rintro _ w1 ⟨rfl, bb⟩
 clear cLC0 cLC1
 have Bw1:=bu Bw0 bb
 have sw1:=bb.size
 replace LC:=LC.up bb
 replace LP:=LP.up bb
 clear Bw0
 replace RU:=RU.below bb
 clear bb CO
 obtain ⟨cLP0,cLP1,cLP2⟩:=cc3 LP 0 1 2
 go_wp2_with fail
 refine (IN.out _).mono ?_
 rintro _ w9 ⟨rfl, e9⟩
 rw [e9]
 clear e9 IN cLP0 cLP1 cLP2
 obtain ⟨cLC0,cLC1⟩:=cc2 LC 0 1
 obtain ⟨cLP0,cLP1,cLP2⟩:=cc3 LP 0 1 2
 go_wp2_with fail
 refine (SO.out _ RU).mono ?_
 rintro _ w2 ⟨rfl, bb⟩
 clear cLC0 cLC1 cLP0 cLP1 cLP2
 have Bw2:=bu Bw1 bb
 have sw2:=bb.size
 replace LC:=LC.up bb
 replace LP:=LP.up bb
 clear Bw1 bb SO RU
 obtain ⟨cLP0,cLP1,cLP2⟩:=cc3 LP 0 1 2
 have K:=kw (kc3 LP 0 1 2)
 go_upto_region 3 with fail
 refine wra K (fun bA hHeld => ?_)
 refine tx 0 28 ?_
 refine tx 1 29 ?_
 refine tx 2 30 ?_
 refine tx 3 31 ?_
 refine tx 4 32 ?_
 refine tx 5 33 ?_
 refine rd 6 rfl (fun KK hKK => ?_)
 go_simp
 have hgo:=bA
 refine (NO.out _).mono ?_
 rintro e wz3_1 ⟨rfl, bb⟩
 have bz1 : Below w2.heap.size w2 wz3_1:=bu bA bb
 clear bA hgo bb hHeld
 refine hKK.out _ _ (K.out _ bz1) (fun hHeld => ?_)
 clear hKK KK
 refine tx 7 35 ?_
 refine tx 8 36 ?_
 refine tx 11 39 ?_
 refine tx 9 37 ?_
 refine tx 12 40 ?_
 refine rd 10 rfl (fun KK hKK => ?_)
 go_simp
 have hgo:=bz1
 refine (VO.out _).mono ?_
 rintro e wz3_2 ⟨rfl, bb⟩
 have bz2 : Below w2.heap.size w2 wz3_2:=bu bz1 bb
 clear bz1 hgo bb hHeld
 refine hKK.out _ _ (K.out _ bz2) (fun hHeld => ?_)
 clear hKK KK
 refine tx 13 41 ?_
 refine tx 14 42 ?_
 refine tx 15 43 ?_
 refine tx 16 4 ?_
 clear hHeld
 refine wdn ?_
 have bb:=bz2
 have Bwz3_2:=bu Bw2 bb
 have swz3_2:=bb.size
 replace LC:=LC.up bb
 replace LP:=LP.up bb
 clear Bw2 bb bz2 K cLP0 cLP1 cLP2
 go_wp2
 go_ret
 exact ⟨by simp [hv], Bwz3_2⟩
end
section
open Go.RowKit
theorem l10Before_any (m n : Int) (s t : ByteArray) (u v : Value) (xs ys : List Int) (w : World) :
 Calls Tryz.prog 121 #[qv m s u, qv n t v] w fun e w' => e = .returned (.bool (befP (m, s, xs) (n, t, ys))) ∧ Below w.heap.size w w' := by
 have B:=hide (qalloc2 w (.cells #[.int .i64 m,.string s, u] 69) (.cells #[.int .i64 n,.string t, v] 69))
 unfold befP
 simp only
 by_cases h1 : m < n
 ·rw [decide_eq_true h1, Bool.true_or]
  go_enter Tryz.func121, Tryz.ntmps121
  go_wp2
  go_ret
  exact ⟨rfl, B.out⟩
 have hd1:=decide_eq_false h1
 rw [hd1, Bool.false_or]
 by_cases h2 : m = n
 ·subst h2
  rw [decide_eq_true rfl, Bool.true_and]
  clear hd1
  generalize hb : Op.bytesLess s.toList t.toList = q
  go_enter Tryz.func121, Tryz.ntmps121
  go_wp2
  go_ret
  exact ⟨rfl, B.out⟩
 have hd2:=decide_eq_false h2
 rw [hd2, Bool.false_and]
 go_enter Tryz.func121, Tryz.ntmps121
 go_wp2
 go_ret
 exact ⟨rfl, B.out⟩
end
section
open Go.RowKit
variable [∀ (a b c d : Int), Decidable (Ok4 a b c d)]
variable [∀ (n f : Int), Decidable (COk n f)]
variable [∀ (n : Int) (s : List Int), Decidable (OkL n s)]
variable [∀ (a b c d : Nat), Decidable (okN a b c d)]
variable [∀ (last : Int) (s : St), Decidable (GoodSt last s)]
variable [∀ (x : T4), Decidable (OkT x)]
def tokB (n f : Int) (ps : List Pt) : Bool := ps.all (fun p => pokB n f p.1 p.2.1 p.2.2) && rowP ps && decide (ps.length ≤ 20)
theorem row_iff (ps : List Pt) : rowP ps = true ↔ ∀ j, j + 1 < ps.length → befP (ps.getD j zpt) (ps.getD (j + 1) zpt) = true := by
 induction ps with
 | nil => simp [rowP]
 | cons a t ih =>
  cases t with
  | nil => simp [rowP]
  | cons b t =>
   rw [rowP, Bool.and_eq_true, ih]
   constructor
   ·rintro ⟨h1, h2⟩ j hj
    cases j with
    | zero => simpa using h1
    | succ j => simpa using h2 j (by simpa using hj)
   intro h
   refine ⟨by simpa using h 0 (by simp), fun j hj => ?_⟩
   have:=h (j + 1) (by simpa using hj)
   simpa using this
theorem tok_no1 {n f : Int} {ps : List Pt} {k : Nat} (hk : k < ps.length) (h : pokB n f (ps.getD k zpt).1 (ps.getD k zpt).2.1 (ps.getD k zpt).2.2 = false) : tokB n f ps = false := by
 unfold tokB
 have : ps.all (fun p => pokB n f p.1 p.2.1 p.2.2) = false:=by
  rw [List.all_eq_false]
  exact ⟨_, pt_mem hk, by rw [h]; simp⟩
 rw [this]; rfl
theorem tok_no2 {n f : Int} {ps : List Pt} {j : Nat} (hj : j + 1 < ps.length) (h : befP (ps.getD j zpt) (ps.getD (j + 1) zpt) = false) : tokB n f ps = false := by
 unfold tokB
 have : rowP ps = false:=by
  rw [Bool.eq_false_iff]
  intro e
  have:=(row_iff ps).1 e j hj
  rw [h] at this
  cases this
 rw [this]; simp
theorem tok_yes {n f : Int} {ps : List Pt} (h1 : ∀ j, j < ps.length → pokB n f (ps.getD j zpt).1 (ps.getD j zpt).2.1 (ps.getD j zpt).2.2 = true) (h2 : ∀ j, j + 1 < ps.length → befP (ps.getD j zpt) (ps.getD (j + 1) zpt) = true) : tokB n f ps = decide (ps.length ≤ 20) := by
 unfold tokB
 have e1 : ps.all (fun p => pokB n f p.1 p.2.1 p.2.2) = true:=by
  rw [List.all_eq_true]
  intro p hp
  obtain ⟨j, hj, rfl⟩:=List.getElem_of_mem hp
  have:=h1 j hj
  simpa [List.getElem?_eq_getElem hj] using this
 rw [e1, (row_iff ps).2 h2]; rfl

theorem specTableOk (n f : Int) (v : Value) (ps : List Pt) (w : World) (hl : ps.length ≤ 4194304) (hs : ∀ p ∈ ps, p.2.1.size ≤ 1048576) (h : RPt w v ps) :
 Calls Tryz.prog 95 #[cv n f, v] w fun e w' => e = .returned (.bool (tokB n f ps)) ∧ Below w.heap.size w w' := by
 obtain ⟨ao, ca, rfl⟩:=h.form
 obtain ⟨len, hn⟩ : ∃ len, ps.length = len:=⟨_, rfl⟩
 have Hn:=hide hn
 have HSZ:=hide hs
 obtain ⟨w0, hw0⟩ : ∃ y, w.alloc (.cells #[.int .i64 n,.int .i64 f] 49) = y:=⟨_, rfl⟩
 have B0 : Below w.heap.size w w0:=hw0 ▸ qalloc _ _
 have L0 : Loc w0 w.heap.size #[.int .i64 n,.int .i64 f]:=hw0 ▸ loc_at w _ _ rfl
 have H:=hide (h.below B0)
 obtain ⟨r, hr⟩ : ∃ r, tokB n f ps = r:=⟨_, rfl⟩
 have N1 : Hid (∀ k, k < ps.length → pokB n f (ps.getD k zpt).1 (ps.getD k zpt).2.1 (ps.getD k zpt).2.2 = false → r = false):=hide fun k hk h => hr ▸ tok_no1 hk h
 have N2 : Hid (∀ j, j + 1 < ps.length → befP (ps.getD j zpt) (ps.getD (j + 1) zpt) = false → r = false):=hide fun j hj h => hr ▸ tok_no2 hj h
 have YE : Hid ((∀ j, j < ps.length → pokB n f (ps.getD j zpt).1 (ps.getD j zpt).2.1 (ps.getD j zpt).2.2 = true) → (∀ j, j + 1 < ps.length → befP (ps.getD j zpt) (ps.getD (j + 1) zpt) = true) → r = decide (len ≤ 20)):=hide fun h1 h2 => by rw [← hr, tok_yes h1 h2, hn]
 rw [hn] at hl H ⊢
 rw [hr]
 clear h hn hs hr
 go_enter Tryz.func95, Tryz.ntmps95
 go_wp2
 clear hw0
 go_loopw [5] (fun i wr => ∃ k : Nat, k ≤ len ∧ i = .int .i64 k ∧ Hid (∀ j, j < k → pokB n f (ps.getD j zpt).1 (ps.getD j zpt).2.1 (ps.getD j zpt).2.2 = true) ∧ Hid (∀ j, j + 1 < k → befP (ps.getD j zpt) (ps.getD (j + 1) zpt) = true) ∧ Below w0.heap.size w0 wr) (fun i _ => len - (intOf i).toNat)
 case atStart => exact ⟨0, Nat.zero_le _, rfl, hide (fun j hj => by omega), hide (fun j hj => by omega), Below.refl _ _⟩
 case round =>
  obtain ⟨k, hk, rfl, HA, HB, bb⟩:=hrel
  have Bwr:=bu B0 bb
  have LC:=L0.up bb
  have Br:=bb
  have HW:=H.out.below bb
  by_cases hlt : k < len
  ·have hkx : k < ps.length:=by have:=Hn.out; omega
   obtain ⟨g, off, u, hao, c0, c1, c2, ru⟩:=HW.at k hkx
   have hsz:=HSZ.out _ (pt_mem hkx)
   have N1k:=hide (N1.out k hkx)
   have N2k : Hid (∀ j, k = j + 1 → befP (ps.getD j zpt) (ps.getD k zpt) = false → r = false):=hide fun j hj h => N2.out j (by omega) (by rw [← hj]; exact h)
   have HA2 : Hid (pokB n f (ps.getD k zpt).1 (ps.getD k zpt).2.1 (ps.getD k zpt).2.2 = true → ∀ j, j < k + 1 → pokB n f (ps.getD j zpt).1 (ps.getD j zpt).2.1 (ps.getD j zpt).2.2 = true):=hide fun h j hj => by by_cases e : j = k; subst e; exact h; exact HA.out j (by omega)
   have HB2 : Hid ((∀ j, k = j + 1 → befP (ps.getD j zpt) (ps.getD k zpt) = true) → ∀ j, j + 1 < k + 1 → befP (ps.getD j zpt) (ps.getD (j + 1) zpt) = true):=hide fun h j hj => by by_cases e : k = j + 1; have:=h j e; rwa [e] at this; exact HB.out j (by omega)
   have PREV : Hid (∀ j, k = j + 1 → ∃ u', wr.cell? ⟨g, off + j * 3, none⟩ = some (.int .i64 (ps.getD j zpt).1) ∧ wr.cell? ⟨g, off + j * 3 + 1, none⟩ = some (.string (ps.getD j zpt).2.1) ∧ wr.cell? ⟨g, off + j * 3 + 2, none⟩ = some u' ∧ RI wr u' (ps.getD j zpt).2.2):=hide fun j hj => by
    obtain ⟨g', off', u', e, d0, d1, d2, ru'⟩:=HW.at j (by omega)
    rw [hao] at e
    injection e with e
    injection e with e1 e2
    subst e1 e2
    exact ⟨u', d0, d1, d2, ru'⟩
   subst hao
   generalize hx : ps.getD k zpt = x at *
   obtain ⟨m, s, xs⟩:=x
   simp only at c0 c1 ru hsz N1k HA2
   have PO:=hide fun w h => specPartOk n f m s u xs w hsz h
   obtain ⟨ua, uc, rfl⟩:=ru.form
   have RU:=hide fun w' (hb' : Below wr.heap.size wr w') => ru.below hb'
   generalize pokB n f m s xs = pk at *
   obtain ⟨xl, hxl⟩ : ∃ l, xs.length = l:=⟨_, rfl⟩
   rw [hxl] at PO RU c2
   clear ru HW H N1 N2 YE HA HB hx hxl
   cases pk
   ·have e:=N1k.out rfl
    subst e
    clear N1k N2k HA2 HB2 PREV
    obtain ⟨cLC0,cLC1⟩:=cc2 LC 0 1
    have K : Hid (∀ w', Below wr.heap.size wr w' → (fun w' => Below wr.heap.size wr w' ∧ (w'.cell? ⟨w.heap.size, 0, none⟩ = some (.int .i64 n) ∧ w'.cell? ⟨w.heap.size, 1, none⟩ = some (.int .i64 f)) ∧ w'.cell? ⟨g, off + k * 3, none⟩ = some (.int .i64 m) ∧ w'.cell? ⟨g, off + k * 3 + 1, none⟩ = some (.string s) ∧ w'.cell? ⟨g, off + k * 3 + 2, none⟩ = some (.slice ua xl uc)) w'):=hide fun w' hb' => ⟨hb', ⟨(LC.up hb').cell 0 rfl, (LC.up hb').cell 1 rfl⟩, (hb'.cell (p:=⟨g, off + k * 3, none⟩) (cell_lt c0)).trans c0, (hb'.cell (p:=⟨g, off + k * 3 + 1, none⟩) (cell_lt c1)).trans c1, (hb'.cell (p:=⟨g, off + k * 3 + 2, none⟩) (cell_lt c2)).trans c2⟩
    go_upto_region 4 with fail
    refine wra K (fun bA hHeld => ?_)
    refine tx 0 12 ?_
    refine tx 1 13 ?_
    refine tx 2 14 ?_
    refine tx 3 15 ?_
    refine tx 4 16 ?_
    refine rd 5 rfl (fun KK hKK => ?_)
    go_simp
    have hgo:=bA
    refine (PO.out _ (RU.out _ hgo)).mono ?_
    rintro e wz4_1 ⟨rfl, bb⟩
    have bz1 : Below wr.heap.size wr wz4_1:=bu bA bb
    clear RU bA hgo bb hHeld
    refine hKK.out _ _ (K.out _ bz1) (fun hHeld => ?_)
    clear hKK KK
    refine tx 6 18 ?_
    refine tx 7 19 ?_
    refine sx 8 20 ?_
    refine sx 9 21 ?_
    refine sx 10 22 ?_
    refine sx 11 23 ?_
    refine sx 12 24 ?_
    refine sx 16 28 ?_
    refine sx 17 29 ?_
    refine sx 13 25 ?_
    refine sx 18 30 ?_
    refine sx 14 26 ?_
    refine sx 19 31 ?_
    refine sx 15 27 ?_
    refine sx 20 32 ?_
    refine sx 21 33 ?_
    refine sx 22 34 ?_
    refine tx 23 35 ?_
    clear hHeld
    refine wdn ?_
    have bb:=bz1
    have Bwz4_1:=bu Bwr bb
    have swz4_1:=bb.size
    replace LC:=LC.up bb
    replace Br:=bu Br bb
    clear Bwr bb bz1 K cLC0 cLC1
    go_wp2
    go_ret
    exact ⟨rfl, Bwz4_1⟩
   have HA3:=hide (HA2.out rfl)
   clear N1k HA2
   by_cases hk0 : k = 0
   ·have HB3:=hide (HB2.out (fun j hj => by omega))
    clear N2k HB2 PREV
    subst hk0
    simp only [Nat.zero_mul, Nat.add_zero] at c0 c1 c2
    obtain ⟨cLC0,cLC1⟩:=cc2 LC 0 1
    have K : Hid (∀ w', Below wr.heap.size wr w' → (fun w' => Below wr.heap.size wr w' ∧ (w'.cell? ⟨w.heap.size, 0, none⟩ = some (.int .i64 n) ∧ w'.cell? ⟨w.heap.size, 1, none⟩ = some (.int .i64 f)) ∧ w'.cell? ⟨g, off, none⟩ = some (.int .i64 m) ∧ w'.cell? ⟨g, off + 1, none⟩ = some (.string s) ∧ w'.cell? ⟨g, off + 2, none⟩ = some (.slice ua xl uc)) w'):=hide fun w' hb' => ⟨hb', ⟨(LC.up hb').cell 0 rfl, (LC.up hb').cell 1 rfl⟩, (hb'.cell (p:=⟨g, off, none⟩) (cell_lt c0)).trans c0, (hb'.cell (p:=⟨g, off + 1, none⟩) (cell_lt c1)).trans c1, (hb'.cell (p:=⟨g, off + 2, none⟩) (cell_lt c2)).trans c2⟩
    go_upto_region 4 with fail
    refine wra K (fun bA hHeld => ?_)
    refine tx 0 12 ?_
    refine tx 1 13 ?_
    refine tx 2 14 ?_
    refine tx 3 15 ?_
    refine tx 4 16 ?_
    refine rd 5 rfl (fun KK hKK => ?_)
    go_simp
    have hgo:=bA
    refine (PO.out _ (RU.out _ hgo)).mono ?_
    rintro e wz4_1 ⟨rfl, bb⟩
    have bz1 : Below wr.heap.size wr wz4_1:=bu bA bb
    clear RU bA hgo bb hHeld
    refine hKK.out _ _ (K.out _ bz1) (fun hHeld => ?_)
    clear hKK KK
    refine tx 6 18 ?_
    refine tx 7 19 ?_
    refine tx 8 20 ?_
    refine tx 9 21 ?_
    refine tx 10 22 ?_
    refine sx 11 23 ?_
    refine sx 12 24 ?_
    refine sx 16 28 ?_
    refine sx 17 29 ?_
    refine sx 13 25 ?_
    refine sx 18 30 ?_
    refine sx 14 26 ?_
    refine sx 19 31 ?_
    refine sx 15 27 ?_
    refine sx 20 32 ?_
    refine sx 21 33 ?_
    refine tx 22 34 ?_
    refine tx 23 35 ?_
    clear hHeld
    refine wdn ?_
    have bb:=bz1
    have Bwz4_1:=bu Bwr bb
    have swz4_1:=bb.size
    replace LC:=LC.up bb
    replace Br:=bu Br bb
    clear Bwr bb bz1 K cLC0 cLC1
    go_wp2
    go_roundw
    case rel => exact ⟨0 + 1, by omega, by go_num, HA3, HB3, Br⟩
    case measure => simp [intOf]; omega
   obtain ⟨j, hj⟩ : ∃ j, k = j + 1:=⟨k - 1, by omega⟩
   have N2j:=hide (N2k.out j hj)
   obtain ⟨u', d0, d1, d2, ru'⟩:=PREV.out j hj
   have HB3 : Hid (befP (ps.getD j zpt) (m, s, xs) = true → ∀ j, j + 1 < k + 1 → befP (ps.getD j zpt) (ps.getD (j + 1) zpt) = true):=hide fun h => HB2.out (fun i hi => by obtain rfl : i = j:=(by omega); exact h)
   clear N2k HB2 PREV hk0
   subst hj
   generalize ps.getD j zpt = y at *
   obtain ⟨m', s', xs'⟩:=y
   simp only at d0 d1 ru' N2j HB3
   obtain ⟨va, vc, rfl⟩:=ru'.form
   generalize xs'.length = yl at *
   clear ru'
   have BE:=hide fun w => l10Before_any m' m s' s (.slice va yl vc) (.slice ua xl uc) xs' xs w
   generalize befP (m', s', xs') (m, s, xs) = be at *
   have hg1 : decide ((0 : Int) < (j : Int) + 1) = true:=decide_eq_true (by omega)
   have hwm : IntKind.i64.wrap (j : Int) = j:=by simp only [IntKind.wrap_i64]; omega
   cases be
   ·have e:=N2j.out rfl
    subst e
    clear N2j HB3
    obtain ⟨cLC0,cLC1⟩:=cc2 LC 0 1
    have K : Hid (∀ w', Below wr.heap.size wr w' → (fun w' => Below wr.heap.size wr w' ∧ (w'.cell? ⟨w.heap.size, 0, none⟩ = some (.int .i64 n) ∧ w'.cell? ⟨w.heap.size, 1, none⟩ = some (.int .i64 f)) ∧ w'.cell? ⟨g, off + (j + 1) * 3, none⟩ = some (.int .i64 m) ∧ w'.cell? ⟨g, off + (j + 1) * 3 + 1, none⟩ = some (.string s) ∧ w'.cell? ⟨g, off + (j + 1) * 3 + 2, none⟩ = some (.slice ua xl uc) ∧ w'.cell? ⟨g, off + j * 3, none⟩ = some (.int .i64 m') ∧ w'.cell? ⟨g, off + j * 3 + 1, none⟩ = some (.string s') ∧ w'.cell? ⟨g, off + j * 3 + 2, none⟩ = some (.slice va yl vc)) w'):=hide fun w' hb' => ⟨hb', ⟨(LC.up hb').cell 0 rfl, (LC.up hb').cell 1 rfl⟩, (hb'.cell (p:=⟨g, off + (j + 1) * 3, none⟩) (cell_lt c0)).trans c0, (hb'.cell (p:=⟨g, off + (j + 1) * 3 + 1, none⟩) (cell_lt c1)).trans c1, (hb'.cell (p:=⟨g, off + (j + 1) * 3 + 2, none⟩) (cell_lt c2)).trans c2, (hb'.cell (p:=⟨g, off + j * 3, none⟩) (cell_lt d0)).trans d0, (hb'.cell (p:=⟨g, off + j * 3 + 1, none⟩) (cell_lt d1)).trans d1, (hb'.cell (p:=⟨g, off + j * 3 + 2, none⟩) (cell_lt d2)).trans d2⟩
    go_upto_region 4 with fail
    refine wra K (fun bA hHeld => ?_)
    refine tx 0 12 ?_
    refine tx 1 13 ?_
    refine tx 2 14 ?_
    refine take_at (i := 3) (d := 15) (v := ?_) rfl rfl (by kernel_rfl) (by kernel_rfl) (by kernel_rfl) (fun _ _ _ h => h) (Or.inl ⟨by rfl, ?_⟩) (by assumption) ?_
    rotate_left
    ·intro w hSw
     try dsimp only at hSw
     go_simp
     try rw [if_pos (by omega)]
     try with_reducible rfl
    simp only [pU]
    refine tx 4 16 ?_
    refine rd 5 rfl (fun KK hKK => ?_)
    go_simp
    have hgo:=bA
    refine (PO.out _ (RU.out _ hgo)).mono ?_
    rintro e wz4_1 ⟨rfl, bb⟩
    have bz1 : Below wr.heap.size wr wz4_1:=bu bA bb
    clear RU bA hgo bb hHeld
    refine hKK.out _ _ (K.out _ bz1) (fun hHeld => ?_)
    clear hKK KK
    refine tx 6 18 ?_
    refine tx 7 19 ?_
    refine tx 8 20 ?_
    refine tx 9 21 ?_
    refine tx 10 22 ?_
    refine tx 11 23 ?_
    refine tx 12 24 ?_
    refine tx 16 28 ?_
    refine tx 17 29 ?_
    refine tx 13 25 ?_
    refine take_at (i := 18) (d := 30) (v := ?_) rfl rfl (by kernel_rfl) (by kernel_rfl) (by kernel_rfl) (fun _ _ _ h => h) (Or.inl ⟨by rfl, ?_⟩) (by assumption) ?_
    rotate_left
    ·intro w hSw
     try dsimp only at hSw
     go_simp
     try rw [if_pos (by omega)]
     try with_reducible rfl
    simp only [pU]
    refine take_at (i := 14) (d := 26) (v := ?_) rfl rfl (by kernel_rfl) (by kernel_rfl) (by kernel_rfl) (fun _ _ _ h => h) (Or.inl ⟨by rfl, ?_⟩) (by assumption) ?_
    rotate_left
    ·intro w hSw
     try dsimp only at hSw
     go_simp
     try rw [if_pos (by omega)]
     try with_reducible rfl
    simp only [pU]
    refine tx 19 31 ?_
    refine tx 15 27 ?_
    refine rd 20 rfl (fun KK hKK => ?_)
    go_simp
    have hgo:=bz1
    refine (BE.out _).mono ?_
    rintro e wz4_2 ⟨rfl, bb⟩
    have bz2 : Below wr.heap.size wr wz4_2:=bu bz1 bb
    clear bz1 hgo bb hHeld
    refine hKK.out _ _ (K.out _ bz2) (fun hHeld => ?_)
    clear hKK KK
    refine tx 21 33 ?_
    refine tx 22 34 ?_
    refine tx 23 35 ?_
    clear hHeld
    refine wdn ?_
    have bb:=bz2
    have Bwz4_2:=bu Bwr bb
    have swz4_2:=bb.size
    replace LC:=LC.up bb
    replace Br:=bu Br bb
    clear Bwr bb bz2 K cLC0 cLC1
    go_wp2
    go_ret
    exact ⟨rfl, Bwz4_2⟩
   have HB4:=hide (HB3.out rfl)
   clear N2j HB3
   obtain ⟨cLC0,cLC1⟩:=cc2 LC 0 1
   have K : Hid (∀ w', Below wr.heap.size wr w' → (fun w' => Below wr.heap.size wr w' ∧ (w'.cell? ⟨w.heap.size, 0, none⟩ = some (.int .i64 n) ∧ w'.cell? ⟨w.heap.size, 1, none⟩ = some (.int .i64 f)) ∧ w'.cell? ⟨g, off + (j + 1) * 3, none⟩ = some (.int .i64 m) ∧ w'.cell? ⟨g, off + (j + 1) * 3 + 1, none⟩ = some (.string s) ∧ w'.cell? ⟨g, off + (j + 1) * 3 + 2, none⟩ = some (.slice ua xl uc) ∧ w'.cell? ⟨g, off + j * 3, none⟩ = some (.int .i64 m') ∧ w'.cell? ⟨g, off + j * 3 + 1, none⟩ = some (.string s') ∧ w'.cell? ⟨g, off + j * 3 + 2, none⟩ = some (.slice va yl vc)) w'):=hide fun w' hb' => ⟨hb', ⟨(LC.up hb').cell 0 rfl, (LC.up hb').cell 1 rfl⟩, (hb'.cell (p:=⟨g, off + (j + 1) * 3, none⟩) (cell_lt c0)).trans c0, (hb'.cell (p:=⟨g, off + (j + 1) * 3 + 1, none⟩) (cell_lt c1)).trans c1, (hb'.cell (p:=⟨g, off + (j + 1) * 3 + 2, none⟩) (cell_lt c2)).trans c2, (hb'.cell (p:=⟨g, off + j * 3, none⟩) (cell_lt d0)).trans d0, (hb'.cell (p:=⟨g, off + j * 3 + 1, none⟩) (cell_lt d1)).trans d1, (hb'.cell (p:=⟨g, off + j * 3 + 2, none⟩) (cell_lt d2)).trans d2⟩
   go_upto_region 4 with fail
   refine wra K (fun bA hHeld => ?_)
   refine tx 0 12 ?_
   refine tx 1 13 ?_
   refine tx 2 14 ?_
   refine take_at (i := 3) (d := 15) (v := ?_) rfl rfl (by kernel_rfl) (by kernel_rfl) (by kernel_rfl) (fun _ _ _ h => h) (Or.inl ⟨by rfl, ?_⟩) (by assumption) ?_
   rotate_left
   ·intro w hSw
    try dsimp only at hSw
    go_simp
    try rw [if_pos (by omega)]
    try with_reducible rfl
   simp only [pU]
   refine tx 4 16 ?_
   refine rd 5 rfl (fun KK hKK => ?_)
   go_simp
   have hgo:=bA
   refine (PO.out _ (RU.out _ hgo)).mono ?_
   rintro e wz4_1 ⟨rfl, bb⟩
   have bz1 : Below wr.heap.size wr wz4_1:=bu bA bb
   clear RU bA hgo bb hHeld
   refine hKK.out _ _ (K.out _ bz1) (fun hHeld => ?_)
   clear hKK KK
   refine tx 6 18 ?_
   refine tx 7 19 ?_
   refine tx 8 20 ?_
   refine tx 9 21 ?_
   refine tx 10 22 ?_
   refine tx 11 23 ?_
   refine tx 12 24 ?_
   refine tx 16 28 ?_
   refine tx 17 29 ?_
   refine tx 13 25 ?_
   refine take_at (i := 18) (d := 30) (v := ?_) rfl rfl (by kernel_rfl) (by kernel_rfl) (by kernel_rfl) (fun _ _ _ h => h) (Or.inl ⟨by rfl, ?_⟩) (by assumption) ?_
   rotate_left
   ·intro w hSw
    try dsimp only at hSw
    go_simp
    try rw [if_pos (by omega)]
    try with_reducible rfl
   simp only [pU]
   refine take_at (i := 14) (d := 26) (v := ?_) rfl rfl (by kernel_rfl) (by kernel_rfl) (by kernel_rfl) (fun _ _ _ h => h) (Or.inl ⟨by rfl, ?_⟩) (by assumption) ?_
   rotate_left
   ·intro w hSw
    try dsimp only at hSw
    go_simp
    try rw [if_pos (by omega)]
    try with_reducible rfl
   simp only [pU]
   refine tx 19 31 ?_
   refine tx 15 27 ?_
   refine rd 20 rfl (fun KK hKK => ?_)
   go_simp
   have hgo:=bz1
   refine (BE.out _).mono ?_
   rintro e wz4_2 ⟨rfl, bb⟩
   have bz2 : Below wr.heap.size wr wz4_2:=bu bz1 bb
   clear bz1 hgo bb hHeld
   refine hKK.out _ _ (K.out _ bz2) (fun hHeld => ?_)
   clear hKK KK
   refine tx 21 33 ?_
   refine tx 22 34 ?_
   refine tx 23 35 ?_
   clear hHeld
   refine wdn ?_
   have bb:=bz2
   have Bwz4_2:=bu Bwr bb
   have swz4_2:=bb.size
   replace LC:=LC.up bb
   replace Br:=bu Br bb
   clear Bwr bb bz2 K cLC0 cLC1
   go_wp2
   go_roundw
   case rel => exact ⟨j + 1 + 1, by omega, by go_num, HA3, HB4, Br⟩
   case measure => simp [intOf]; omega
  have e:=YE.out (fun j hj => HA.out j (by have:=Hn.out; omega)) (fun j hj => HB.out j (by have:=Hn.out; omega))
  have hd : decide ((len : Int) ≤ 20) = decide (len ≤ 20):=by simp; omega
  subst e
  clear HA HB HW LC Br bb N1 N2 YE H
  go_wp2
  go_ret
  exact ⟨rfl, Bwr⟩
end
section
open Go.RowKit
abbrev muLink : Go.Conc.Locks.MuLink := { lock := 151, unlock := 152, ilock := 182, iunlock := 183, lockSlow := 212, unlockSlow := 215, disable := 208, enable := 210, acquire := 211, relMerge := 213, cas32 := 209, add32 := 214, tMutex := 155, tIMutex := 153, tPMutex := 217, tPIMutex := 255, tPI32 := 257, tUP := 259, tNoCopy := 150, tU32 := 151 }
theorem muLib : Go.Conc.Locks.MuLib Tryz.prog muLink :=
 ⟨Tryz.func151, Tryz.func152, Tryz.func182, Tryz.func183, Tryz.func208, Tryz.func210, Tryz.func211, Tryz.func213, Tryz.func209, Tryz.func214, Tryz.underlying153, Tryz.runUnderlying153, Tryz.sizeOf153, Tryz.isAgg153, Tryz.zeroValue153, Tryz.underlying155, Tryz.runUnderlying155, Tryz.sizeOf155, Tryz.isAgg155, Tryz.zeroValue155, Tryz.underlying217, Tryz.runUnderlying217, Tryz.sizeOf217, Tryz.isAgg217, Tryz.zeroValue217, Tryz.underlying255, Tryz.runUnderlying255, Tryz.sizeOf255, Tryz.isAgg255, Tryz.zeroValue255, Tryz.underlying257, Tryz.runUnderlying257, Tryz.sizeOf257, Tryz.isAgg257, Tryz.zeroValue257, Tryz.underlying259, Tryz.runUnderlying259, Tryz.sizeOf259, Tryz.isAgg259, Tryz.zeroValue259, Tryz.underlying150, Tryz.runUnderlying150, Tryz.sizeOf150, Tryz.isAgg150, Tryz.zeroValue150, Tryz.underlying21, Tryz.runUnderlying21, Tryz.sizeOf21, Tryz.isAgg21, Tryz.zeroValue21, (by kernel_rfl)⟩

theorem atomicAdd (g j : Nat) (x : Int) (w : World) (hc : w.cell? ⟨g, j, none⟩ = some (.int .i64 x)) (hz : w.frozen? ⟨g, j, none⟩ = false) (h0 : 0 ≤ x) (h1 : x ≤ 1000) :
 Calls Tryz.prog 153 #[.pointer (some ⟨g, j, none⟩),.int .i64 1] w fun e w' => e = .returned (.int .i64 (x + 1)) ∧ w' = w.setCell ⟨g, j, none⟩ (.int .i64 (x + 1)) := by
 have hw : IntKind.i64.wrap (x + 1) = x + 1:=by rw [IntKind.wrap_i64]; omega
 have hadd:=run_call_add (P:=Tryz.prog) Tryz.func184 (by kernel_rfl) (by kernel_rfl) (by kernel_rfl) .i64 (by kernel_rfl) (y:=1) (s:=x + 1) hc hz (by simp [go_sem, hw])
 go_enter Tryz.func153, Tryz.ntmps153
 go_wp2
 go_ret
 exact ⟨rfl, rfl⟩
theorem atomicLoad (g j : Nat) (x : Int) (w : World) (hc : w.cell? ⟨g, j, none⟩ = some (.int .i64 x)) :
 Calls Tryz.prog 154 #[.pointer (some ⟨g, j, none⟩)] w fun e w' => e = .returned (.int .i64 x) ∧ w' = w := by
 have hl:=run_call_load (P:=Tryz.prog) Tryz.func185 (by kernel_rfl) (by kernel_rfl) (by kernel_rfl) .i64 (by kernel_rfl) hc
 go_enter Tryz.func154, Tryz.ntmps154
 go_wp2
 go_ret
 exact ⟨rfl, rfl⟩
def dokB (n : Nat) (s : Int) : Bool := decide (n ≤ 100000) && (decide (0 ≤ s) && decide (s ≤ (n : Int)))
theorem withinD (x lo hi : Int) (w : World) : Calls Tryz.prog 101 #[.int .i64 x,.int .i64 lo,.int .i64 hi] w fun e w' => e = .returned (.bool (decide (lo ≤ x) && decide (x ≤ hi))) ∧ w' = w := by
 by_cases h1 : lo ≤ x <;> by_cases h2 : x ≤ hi <;> simp only [h1, h2, decide_true, decide_false, Bool.and_true, Bool.and_false]
 all_goals
  go_enter Tryz.func101, Tryz.ntmps101
  go_wp2
  go_ret
  exact ⟨rfl, rfl⟩
theorem l1InD (x lo hi : Int) (w : World) : Calls Tryz.prog 92 #[.int .i64 x,.int .i64 lo,.int .i64 hi] w fun e w' => e = .returned (.bool (decide (lo ≤ x) && decide (x ≤ hi))) ∧ w' = w := by
 by_cases h1 : lo ≤ x <;> by_cases h2 : x ≤ hi <;> simp only [h1, h2, decide_true, decide_false, Bool.and_true, Bool.and_false]
 all_goals
  go_enter Tryz.func92, Tryz.ntmps92
  go_wp2
  go_ret
  exact ⟨rfl, rfl⟩
theorem implDiskOk (ao : Option Addr) (n ca : Nat) (s : Int) (w : World) :
 Calls Tryz.prog 105 #[dv (.slice ao n ca) s] w fun e w' => e = .returned (.bool (dokB n s)) ∧ Below w.heap.size w w' := by
 have WI:=hide fun w => withinD s 0 (n : Int) w
 by_cases h1 : n ≤ 100000
 ·have hd : dokB n s = (decide (0 ≤ s) && decide (s ≤ (n : Int))):=by simp [dokB, h1]
  have h2 : ((n : Int) ≤ 100000):=by omega
  rw [hd]
  generalize (decide (0 ≤ s) && decide (s ≤ (n : Int))) = b at *
  clear hd
  go_enter Tryz.func105, Tryz.ntmps105
  go_wp2_with fail
  refine (WI.out _).mono ?_
  rintro e w1 ⟨rfl, rfl⟩
  go_wp2
  go_ret
  exact ⟨rfl, qalloc _ _⟩
 have hd : dokB n s = false:=by simp [dokB, h1]
 have h2 : ¬ ((n : Int) ≤ 100000):=by omega
 rw [hd]
 clear hd
 go_enter Tryz.func105, Tryz.ntmps105
 go_wp2
 go_ret
 exact ⟨rfl, qalloc _ _⟩
theorem specDiskOk (ao : Option Addr) (n ca : Nat) (s : Int) (w : World) :
 Calls Tryz.prog 96 #[dv (.slice ao n ca) s] w fun e w' => e = .returned (.bool (dokB n s)) ∧ Below w.heap.size w w' := by
 have WI:=hide fun w => l1InD s 0 (n : Int) w
 by_cases h1 : n ≤ 100000
 ·have hd : dokB n s = (decide (0 ≤ s) && decide (s ≤ (n : Int))):=by simp [dokB, h1]
  have h2 : ((n : Int) ≤ 100000):=by omega
  rw [hd]
  generalize (decide (0 ≤ s) && decide (s ≤ (n : Int))) = b at *
  clear hd
  go_enter Tryz.func96, Tryz.ntmps96
  go_wp2_with fail
  refine (WI.out _).mono ?_
  rintro e w1 ⟨rfl, rfl⟩
  go_wp2
  go_ret
  exact ⟨rfl, qalloc _ _⟩
 have hd : dokB n s = false:=by simp [dokB, h1]
 have h2 : ¬ ((n : Int) ≤ 100000):=by omega
 rw [hd]
 clear hd
 go_enter Tryz.func96, Tryz.ntmps96
 go_wp2
 go_ret
 exact ⟨rfl, qalloc _ _⟩

def RF (w : World) (g : Nat) (v : Value) (xs : List Int) : Prop :=
 xs.length ≤ 4194304 ∧ ∃ ao cap, v = .slice ao xs.length cap ∧ (xs.length ≤ cap ∧ cap ≤ maxLen) ∧ (xs = [] ∨ ∃ b off, ao = some ⟨b, off, none⟩ ∧ b ≠ g ∧ ∀ k, k < xs.length → w.cell? ⟨b, off + k, none⟩ = some (.int .u8 (xs.getD k 0)))
theorem RF.rb {w : World} {g : Nat} {v : Value} {xs : List Int} (h : RF w g v xs) : RB w v xs := by
 obtain ⟨hl, ao, cap, e, hc, h⟩:=h
 refine ⟨by omega, ao, cap, e, hc, ?_⟩
 rcases h with h | ⟨b, off, e, _, h⟩
 ·exact .inl h
 exact .inr ⟨b, off, e, h⟩
theorem RF.kp {w w' : World} {g : Nat} {v : Value} {xs : List Int} (h : RF w g v xs) (k : Kp w w' (fun k => k = g)) : RF w' g v xs := by
 obtain ⟨hl, ao, cap, e, hc, h⟩:=h
 refine ⟨hl, ao, cap, e, hc, ?_⟩
 rcases h with h | ⟨b, off, e, hb, h⟩
 ·exact .inl h
 exact .inr ⟨b, off, e, hb, fun j hj => k.cell (h j hj) hb⟩
theorem RF.below {w w' : World} {g : Nat} {v : Value} {xs : List Int} (h : RF w g v xs) (b : Below w.heap.size w w') : RF w' g v xs := h.kp (Below.kpOf b _)
theorem RB.rf {w : World} {g : Nat} {v : Value} {xs : List Int} (h : RB w v xs) (hl : xs.length ≤ 4194304) (hg : w.heap.size ≤ g) : RF w g v xs := by
 obtain ⟨_, ao, cap, e, hc, h⟩:=h
 refine ⟨hl, ao, cap, e, hc, ?_⟩
 rcases h with h | ⟨b, off, e, h⟩
 ·exact .inl h
 by_cases h0 : xs = []
 ·exact .inl h0
 have hp : 0 < xs.length:=List.length_pos_iff.2 h0
 exact .inr ⟨b, off, e, fun e' => by have := cell_lt (h 0 hp); simp at this; omega, h⟩
theorem OB.rf {w : World} {base g : Nat} {v : Value} {xs : List Int} (h : OB w base v xs) (hl : xs.length ≤ 4194304) (hg : g < base) : RF w g v xs := by
 refine ⟨hl, ?_⟩
 rcases h.2 with ⟨rfl, h0⟩ | ⟨b, cap, cur, rfl, hb, _, hca, hcm, _⟩
 ·exact ⟨none, 0, by rw [h0], ⟨by omega, by unfold maxLen; omega⟩, .inl (List.length_eq_zero_iff.1 h0)⟩
 refine ⟨_, cap, rfl, ⟨hca, hcm⟩, .inr ⟨b, 0, rfl, by omega, fun k hk => ?_⟩⟩
 have:=World.ownsRow.cellAt h k (by omega)
 rw [Nat.zero_add, this]
 simp [List.getElem?_map, List.getElem?_eq_getElem hk]
theorem RF.form {w : World} {g : Nat} {v : Value} {xs : List Int} (h : RF w g v xs) : ∃ ao ca, v = .slice ao xs.length ca := by
 obtain ⟨_, ao, cap, e, _⟩:=h
 exact ⟨ao, cap, e⟩

abbrev drv (m : Int) (v : Value) (s n : Int) : Array Value := #[.int .i32 m,.int .u32 0, v,.int .i64 s,.int .i64 n]
theorem lockL (g : Nat) (v : Value) (s n : Int) (w : World) (h : Loc w g (drv 0 v s n)) :
 Calls Tryz.prog 151 #[.pointer (some ⟨g, 0, none⟩)] w fun e w' => e = .returned (.tuple #[]) ∧ Loc w' g (drv 1 v s n) ∧ Kp w w' (fun k => k = g) := by
 refine (Go.MuLone.lock_free muLib ⟨g, 0, none⟩ w (h.cell 0 rfl) (h.frozen 0)).mono ?_
 rintro e w' ⟨rfl, rfl⟩
 exact ⟨rfl, h.set 0 _ rfl, set_kp _ _ _ _⟩
theorem unlockL (g : Nat) (v : Value) (s n : Int) (u : FrameMode) (w : World) (h : Loc w g (drv 1 v s n)) :
 CallsD Tryz.prog 152 #[.pointer (some ⟨g, 0, none⟩)] u w fun e u' w' => u' = u ∧ (e = .returned (.tuple #[]) ∧ Loc w' g (drv 0 v s n) ∧ Kp w w' (fun k => k = g)) := by
 refine (Go.MuLone.unlock_deferred muLib ⟨g, 0, none⟩ u w (h.cell 0 rfl) (h.frozen 0)).mono ?_
 rintro e u' w' ⟨rfl, rfl, rfl⟩
 exact ⟨rfl, rfl, h.set 0 _ rfl, set_kp _ _ _ _⟩

theorem makeSure_yes (g : Nat) (ao : Option Addr) (m ca : Nat) (s : Int) (w : World) (h : Loc w g (drv 0 (.slice ao m ca) s 0)) (hd : dokB m s = true) :
 Calls Tryz.prog 110 #[.pointer (some ⟨g, 0, none⟩)] w fun e w' => e = .returned (.tuple #[]) ∧ Loc w' g (drv 0 (.slice ao m ca) s 1) ∧ Kp w w' (fun k => k = g) := by
 have LK:=hide (lockL g (.slice ao m ca) s 0 w h)
 have DK:=hide fun w => implDiskOk ao m ca s w
 rw [hd] at DK
 clear h hd
 go_enter_defers Tryz.func110, Tryz.ntmps110
 go_wp2_with fail
 refine LK.out.mono ?_
 rintro e w1 ⟨rfl, L1, k1⟩
 have c2:=L1.cell 2 rfl
 have c3:=L1.cell 3 rfl
 go_wp2_with fail
 refine (DK.out _).mono ?_
 rintro e w2 ⟨rfl, b2⟩
 have L2:=L1.up b2
 have K2:=k1.trans (Below.kpOf b2 _)
 clear L1 k1 b2 c2 c3
 have AD:=hide (atomicAdd g 4 0 w2 (L2.cell 4 rfl) (L2.frozen 4) (by omega) (by omega))
 go_wp2_with fail
 refine AD.out.mono ?_
 rintro e w3 ⟨rfl, hw3⟩
 have L3 : Loc w3 g (drv 1 (.slice ao m ca) s 1):=hw3 ▸ L2.set 4 _ rfl
 have K3 : Kp w w3 (fun k => k = g):=K2.trans (hw3 ▸ set_kp _ _ _ _)
 clear hw3 L2 K2 AD
 go_wp2
 refine leaves_cons (f := 152) (args := #[.pointer (some ⟨g, 0, none⟩)]) (by simp) (by simp [go_sem]) ?_
 refine (unlockL g (.slice ao m ca) s 1 .returning _ L3).mono ?_
 rintro e u' w4 ⟨rfl, rfl, L4, k4⟩
 exact ⟨_, results_none rfl _ _ _, rfl, L4, K3.trans k4⟩
theorem makeSure_no (g : Nat) (ao : Option Addr) (m ca : Nat) (s : Int) (w : World) (h : Loc w g (drv 0 (.slice ao m ca) s 0)) (hd : dokB m s = false) :
 Calls Tryz.prog 110 #[.pointer (some ⟨g, 0, none⟩)] w fun e w' => e = .returned (.tuple #[]) ∧ Loc w' g (drv 0 (.slice ao m ca) s 0) ∧ Kp w w' (fun k => k = g) := by
 have LK:=hide (lockL g (.slice ao m ca) s 0 w h)
 have DK:=hide fun w => implDiskOk ao m ca s w
 rw [hd] at DK
 clear h hd
 go_enter_defers Tryz.func110, Tryz.ntmps110
 go_wp2_with fail
 refine LK.out.mono ?_
 rintro e w1 ⟨rfl, L1, k1⟩
 have c2:=L1.cell 2 rfl
 have c3:=L1.cell 3 rfl
 go_wp2_with fail
 refine (DK.out _).mono ?_
 rintro e w2 ⟨rfl, b2⟩
 have L2:=L1.up b2
 have K2:=k1.trans (Below.kpOf b2 _)
 clear L1 k1 b2 c2 c3
 go_wp2
 refine leaves_cons (f := 152) (args := #[.pointer (some ⟨g, 0, none⟩)]) (by simp) (by simp [go_sem]) ?_
 refine (unlockL g (.slice ao m ca) s 0 .returning _ L2).mono ?_
 rintro e u' w4 ⟨rfl, rfl, L4, k4⟩
 exact ⟨_, results_none rfl _ _ _, rfl, L4, K2.trans k4⟩
end
end Go.Proofs.YtjdchloechcclaaGreatDoor
