/- Lemmas, as stated. -/
import Derived.Test.YtjdchloechcclaaGreatDoorSNBA
import Derived.Test.YtjdchloechcclaaGreatDoorSNBB
set_option maxRecDepth 100000
set_option maxHeartbeats 16000000
set_option linter.unusedSectionVars false
namespace Go.Proofs.YtjdchloechcclaaGreatDoor
section
open Go.RowKit
variable [∀ (a b c d : Int), Decidable (Ok4 a b c d)]
variable [∀ (a b c d : Nat), Decidable (okN a b c d)]
variable [∀ (last : Int) (s : St), Decidable (GoodSt last s)]
variable [∀ (x : T4), Decidable (OkT x)]
variable [∀ (n : Int) (s : List Int), Decidable (OkL n s)]
variable [∀ (n f : Int), Decidable (COk n f)]
theorem pok_alt (n f m : Int) (s : ByteArray) (xs : List Int) : pokB n f m s xs = (decide (COk n f) && (decide (1 ≤ m ∧ m ≤ 60) && ((decide (s = ⟨#[]⟩) || (viewAns s == m)) && (decide ((0 : Int) < (xs.length : Int)) && decide (OkL n xs))))) := by
 have hx : decide (xs ≠ []) = decide ((0 : Int) < (xs.length : Int)):=by cases xs with | nil => rfl | cons a l => simp <;> omega
 have hv : (viewAns s == m) = decide (viewAns s = m):=by rw [Bool.eq_iff_iff, beq_iff_eq, decide_eq_true_iff]
 unfold pokB
 rw [hx, hv]
 by_cases hm : 1 ≤ m ∧ m ≤ 60
 ·cases hk : (stepsAns s).isSome with
  | true => simp only [Bool.true_and]; cases decide (COk n f) <;> cases decide (1 ≤ m ∧ m ≤ 60) <;> cases decide (OkL n xs) <;> cases decide ((0 : Int) < (xs.length : Int)) <;> simp
  | false =>
   have h0:=view_none hk
   have : decide (viewAns s = m) = false:=by simp; omega
   rw [this]
   cases decide (COk n f) <;> cases decide (1 ≤ m ∧ m ≤ 60) <;> cases decide (OkL n xs) <;> cases decide ((0 : Int) < (xs.length : Int)) <;> simp
 rw [decide_eq_false hm]; simp
theorem within_bool (x lo hi : Int) (w : World) : Calls Tryz.prog 101 #[.int .i64 x,.int .i64 lo,.int .i64 hi] w fun e w' => e = .returned (.bool (decide (lo ≤ x ∧ x ≤ hi))) ∧ Below w.heap.size w w' := by
 by_cases h : lo ≤ x ∧ x ≤ hi
 ·rw [decide_eq_true h]; exact (within_yes x lo hi w h.1 h.2).mono fun _ _ h => ⟨h.1, h.2 ▸ Below.refl _ _⟩
 rw [decide_eq_false h]; exact (within_no x lo hi w (by omega)).mono fun _ _ h => ⟨h.1, h.2 ▸ Below.refl _ _⟩

theorem namesIts_any (m : Int) (s : ByteArray) (u : Value) (w : World) (hs : s.size ≤ 33554432) (hE : Env w) :
 Calls Tryz.prog 173 #[qv m s u] w fun e w' => e = .returned (.bool (decide (s = ⟨#[]⟩) || (viewAns s == m))) ∧ Below w.heap.size w w' := by
 obtain ⟨w0, hw0, Bw0, LP, _⟩:=bx1 w #[.int .i64 m,.string s, u] 69
 have HE:=hide (hE.below Bw0)
 have VO:=hide fun w hE => implViewOf s w hs hE
 generalize viewAns s = vw at *
 clear hE
 by_cases he : s = ⟨#[]⟩
 ·have hd : decide (s = ⟨#[]⟩) = true:=by simpa using he
  have hy : (s.toList == []) = true:=by rw [he, ByteArray.toList_eq]; rfl
  rw [hd, Bool.true_or]
  clear he hd
  go_enter Tryz.func173, Tryz.ntmps173
  have K:=kw (kc3 LP 0 1 2)
  go_upto_region 1 with fail
  clear hw0
  refine wra K (fun bA hHeld => ?_)
  refine tx 0 3 ?_
  refine tx 1 4 ?_
  refine tx 2 5 ?_
  refine tx 3 6 ?_
  refine sx 4 7 ?_
  refine sx 7 10 ?_
  refine sx 5 8 ?_
  refine sx 8 11 ?_
  refine sx 6 9 ?_
  refine sx 9 12 ?_
  refine tx 10 13 ?_
  refine tx 11 2 ?_
  clear hHeld
  refine wdn ?_
  obtain ⟨wd1, hwd⟩ : ∃ y, w0.drew = y:=⟨_, rfl⟩
  rw [hwd] at bA ⊢
  clear hwd
  have bb:=bA
  have Bwd1:=bu Bw0 bb
  have swd1:=bb.size
  replace LP:=LP.up bb
  clear Bw0 bb bA K
  go_wp2
  go_ret
  exact ⟨rfl, Bwd1⟩
 have hd : decide (s = ⟨#[]⟩) = false:=by simpa using he
 have hne:=ne2 he
 rw [hd, Bool.false_or]
 clear he hd
 go_enter Tryz.func173, Tryz.ntmps173
 have K:=kw (kc3 LP 0 1 2)
 go_upto_region 1 with fail
 clear hw0
 refine wra K (fun bA hHeld => ?_)
 refine tx 0 3 ?_
 refine tx 1 4 ?_
 refine tx 2 5 ?_
 refine tx 3 6 ?_
 refine tx 4 7 ?_
 refine tx 7 10 ?_
 refine tx 5 8 ?_
 refine tx 8 11 ?_
 refine rd 6 rfl (fun KK hKK => ?_)
 go_simp
 have hgo:=bA
 refine (VO.out _ (HE.out.below hgo)).mono ?_
 rintro e wz1_1 ⟨rfl, bb⟩
 have bz1 : Below w0.heap.size w0 wz1_1:=bu bA bb
 clear bA hgo bb hHeld
 refine hKK.out _ _ (K.out _ bz1) (fun hHeld => ?_)
 clear hKK KK
 refine tx 9 12 ?_
 refine tx 10 13 ?_
 refine tx 11 2 ?_
 clear hHeld
 refine wdn ?_
 have bb:=bz1
 have Bwz1_1:=bu Bw0 bb
 have swz1_1:=bb.size
 replace LP:=LP.up bb
 clear Bw0 bb bz1 K
 go_wp2
 go_ret
 exact ⟨rfl, Bwz1_1⟩

theorem implPartOk (n f m : Int) (s : ByteArray) (u : Value) (xs : List Int) (w : World) (hs : s.size ≤ 33554432) (hE : Env w) (hu : RI w u xs) :
 Calls Tryz.prog 142 #[cv n f, qv m s u] w fun e w' => e = .returned (.bool (pokB n f m s xs)) ∧ Below w.heap.size w w' := by
 obtain ⟨ua, uc, rfl⟩:=hu.form
 rw [pok_alt]
 obtain ⟨k, hk⟩ : ∃ k, xs.length = k:=⟨_, rfl⟩
 have CO:=hide fun w => implConfOk n f w
 have IN:=hide fun w => within_bool m 1 60 w
 have NI:=hide fun w hE => namesIts_any m s (.slice ua xs.length uc) w hs hE
 have SO:=hide fun w h => implSetOk n (.slice ua xs.length uc) xs w h
 obtain ⟨w0, hw0, Bw0, LC, LP, _⟩:=bx2 w #[.int .i64 n,.int .i64 f] 49 #[.int .i64 m,.string s,.slice ua xs.length uc] 69
 have HEw:=hide fun w' (hb : Below w.heap.size w w') => hE.below hb
 have RU:=hide fun w' (hb : Below w.heap.size w w') => hu.below hb
 rw [hk] at NI SO LP RU hw0 ⊢
 clear hu hE hk
 generalize decide (COk n f) = c at *
 generalize decide (1 ≤ m ∧ m ≤ 60) = r at *
 generalize (decide (s = ⟨#[]⟩) || (viewAns s == m)) = v at *
 generalize decide (OkL n xs) = o at *
 cases c
 ·simp only [Bool.false_and]
  go_enter Tryz.func142, Tryz.ntmps142
  obtain ⟨cLC0,cLC1⟩:=cc2 LC 0 1
  go_wp2_with fail
  clear hw0
  refine (CO.out _).mono ?_
  rintro _ w1 ⟨rfl, bb⟩
  clear cLC0 cLC1
  have Bw1:=bu Bw0 bb
  have sw1:=bb.size
  replace LC:=LC.up bb
  replace LP:=LP.up bb
  clear Bw0 bb
  obtain ⟨cLC0,cLC1⟩:=cc2 LC 0 1
  obtain ⟨cLP0,cLP1,cLP2⟩:=cc3 LP 0 1 2
  go_wp2
  go_ret
  exact ⟨rfl, Bw1⟩
 simp only [Bool.true_and]
 cases r
 ·simp only [Bool.false_and]
  go_enter Tryz.func142, Tryz.ntmps142
  obtain ⟨cLC0,cLC1⟩:=cc2 LC 0 1
  go_wp2_with fail
  clear hw0
  refine (CO.out _).mono ?_
  rintro _ w1 ⟨rfl, bb⟩
  clear cLC0 cLC1
  have Bw1:=bu Bw0 bb
  have sw1:=bb.size
  replace LC:=LC.up bb
  replace LP:=LP.up bb
  clear Bw0 bb
  obtain ⟨cLP0,cLP1,cLP2⟩:=cc3 LP 0 1 2
  go_wp2_with fail
  refine (IN.out _).mono ?_
  rintro _ w2 ⟨rfl, bb⟩
  clear cLP0 cLP1 cLP2
  have Bw2:=bu Bw1 bb
  have sw2:=bb.size
  replace LC:=LC.up bb
  replace LP:=LP.up bb
  clear Bw1 bb
  obtain ⟨cLC0,cLC1⟩:=cc2 LC 0 1
  obtain ⟨cLP0,cLP1,cLP2⟩:=cc3 LP 0 1 2
  go_wp2
  go_ret
  exact ⟨rfl, Bw2⟩
 simp only [Bool.true_and]
 cases v
 ·simp only [Bool.false_and]
  go_enter Tryz.func142, Tryz.ntmps142
  obtain ⟨cLC0,cLC1⟩:=cc2 LC 0 1
  go_wp2_with fail
  clear hw0
  refine (CO.out _).mono ?_
  rintro _ w1 ⟨rfl, bb⟩
  clear cLC0 cLC1
  have Bw1:=bu Bw0 bb
  have sw1:=bb.size
  replace LC:=LC.up bb
  replace LP:=LP.up bb
  clear Bw0 bb
  obtain ⟨cLP0,cLP1,cLP2⟩:=cc3 LP 0 1 2
  go_wp2_with fail
  refine (IN.out _).mono ?_
  rintro _ w2 ⟨rfl, bb⟩
  clear cLP0 cLP1 cLP2
  have Bw2:=bu Bw1 bb
  have sw2:=bb.size
  replace LC:=LC.up bb
  replace LP:=LP.up bb
  clear Bw1 bb
  obtain ⟨cLP0,cLP1,cLP2⟩:=cc3 LP 0 1 2
  go_wp2_with fail
  refine (NI.out _ (HEw.out _ Bw2)).mono ?_
  rintro _ w3 ⟨rfl, bb⟩
  clear cLP0 cLP1 cLP2
  have Bw3:=bu Bw2 bb
  have sw3:=bb.size
  replace LC:=LC.up bb
  replace LP:=LP.up bb
  clear Bw2 bb
  obtain ⟨cLC0,cLC1⟩:=cc2 LC 0 1
  obtain ⟨cLP0,cLP1,cLP2⟩:=cc3 LP 0 1 2
  go_wp2
  go_ret
  exact ⟨rfl, Bw3⟩
 simp only [Bool.true_and]
 by_cases hk : k = 0
 ·subst hk
  have hd0 : decide ((0 : Int) < ((0 : Nat) : Int)) = false:=rfl
  rw [hd0]
  simp only [Bool.false_and]
  go_enter Tryz.func142, Tryz.ntmps142
  obtain ⟨cLC0,cLC1⟩:=cc2 LC 0 1
  go_wp2_with fail
  clear hw0
  refine (CO.out _).mono ?_
  rintro _ w1 ⟨rfl, bb⟩
  clear cLC0 cLC1
  have Bw1:=bu Bw0 bb
  have sw1:=bb.size
  replace LC:=LC.up bb
  replace LP:=LP.up bb
  clear Bw0 bb
  obtain ⟨cLP0,cLP1,cLP2⟩:=cc3 LP 0 1 2
  go_wp2_with fail
  refine (IN.out _).mono ?_
  rintro _ w2 ⟨rfl, bb⟩
  clear cLP0 cLP1 cLP2
  have Bw2:=bu Bw1 bb
  have sw2:=bb.size
  replace LC:=LC.up bb
  replace LP:=LP.up bb
  clear Bw1 bb
  obtain ⟨cLP0,cLP1,cLP2⟩:=cc3 LP 0 1 2
  go_wp2_with fail
  refine (NI.out _ (HEw.out _ Bw2)).mono ?_
  rintro _ w3 ⟨rfl, bb⟩
  clear cLP0 cLP1 cLP2
  have Bw3:=bu Bw2 bb
  have sw3:=bb.size
  replace LC:=LC.up bb
  replace LP:=LP.up bb
  clear Bw2 bb
  obtain ⟨cLC0,cLC1⟩:=cc2 LC 0 1
  obtain ⟨cLP0,cLP1,cLP2⟩:=cc3 LP 0 1 2
  go_wp2
  go_ret
  exact ⟨rfl, Bw3⟩
 have hd0 : decide ((0 : Int) < (k : Int)) = true:=by simp; omega
 rw [hd0]
 simp only [Bool.true_and]
 cases o
 ·go_enter Tryz.func142, Tryz.ntmps142
  obtain ⟨cLC0,cLC1⟩:=cc2 LC 0 1
  go_wp2_with fail
  clear hw0
  refine (CO.out _).mono ?_
  rintro _ w1 ⟨rfl, bb⟩
  clear cLC0 cLC1
  have Bw1:=bu Bw0 bb
  have sw1:=bb.size
  replace LC:=LC.up bb
  replace LP:=LP.up bb
  clear Bw0 bb
  obtain ⟨cLP0,cLP1,cLP2⟩:=cc3 LP 0 1 2
  go_wp2_with fail
  refine (IN.out _).mono ?_
  rintro _ w2 ⟨rfl, bb⟩
  clear cLP0 cLP1 cLP2
  have Bw2:=bu Bw1 bb
  have sw2:=bb.size
  replace LC:=LC.up bb
  replace LP:=LP.up bb
  clear Bw1 bb
  obtain ⟨cLP0,cLP1,cLP2⟩:=cc3 LP 0 1 2
  go_wp2_with fail
  refine (NI.out _ (HEw.out _ Bw2)).mono ?_
  rintro _ w3 ⟨rfl, bb⟩
  clear cLP0 cLP1 cLP2
  have Bw3:=bu Bw2 bb
  have sw3:=bb.size
  replace LC:=LC.up bb
  replace LP:=LP.up bb
  clear Bw2 bb
  obtain ⟨cLC0,cLC1⟩:=cc2 LC 0 1
  obtain ⟨cLP0,cLP1,cLP2⟩:=cc3 LP 0 1 2
  go_wp2_with fail
  refine (SO.out _ (RU.out _ Bw3)).mono ?_
  rintro _ w4 ⟨rfl, bb⟩
  clear cLC0 cLC1 cLP0 cLP1 cLP2
  have Bw4:=bu Bw3 bb
  have sw4:=bb.size
  replace LC:=LC.up bb
  replace LP:=LP.up bb
  clear Bw3 bb
  obtain ⟨cLC0,cLC1⟩:=cc2 LC 0 1
  obtain ⟨cLP0,cLP1,cLP2⟩:=cc3 LP 0 1 2
  go_wp2
  go_ret
  exact ⟨rfl, Bw4⟩
 go_enter Tryz.func142, Tryz.ntmps142
 obtain ⟨cLC0,cLC1⟩:=cc2 LC 0 1
 go_wp2_with fail
 clear hw0
 refine (CO.out _).mono ?_
 rintro _ w1 ⟨rfl, bb⟩
 clear cLC0 cLC1
 have Bw1:=bu Bw0 bb
 have sw1:=bb.size
 replace LC:=LC.up bb
 replace LP:=LP.up bb
 clear Bw0 bb
 obtain ⟨cLP0,cLP1,cLP2⟩:=cc3 LP 0 1 2
 go_wp2_with fail
 refine (IN.out _).mono ?_
 rintro _ w2 ⟨rfl, bb⟩
 clear cLP0 cLP1 cLP2
 have Bw2:=bu Bw1 bb
 have sw2:=bb.size
 replace LC:=LC.up bb
 replace LP:=LP.up bb
 clear Bw1 bb
 obtain ⟨cLP0,cLP1,cLP2⟩:=cc3 LP 0 1 2
 go_wp2_with fail
 refine (NI.out _ (HEw.out _ Bw2)).mono ?_
 rintro _ w3 ⟨rfl, bb⟩
 clear cLP0 cLP1 cLP2
 have Bw3:=bu Bw2 bb
 have sw3:=bb.size
 replace LC:=LC.up bb
 replace LP:=LP.up bb
 clear Bw2 bb
 obtain ⟨cLC0,cLC1⟩:=cc2 LC 0 1
 obtain ⟨cLP0,cLP1,cLP2⟩:=cc3 LP 0 1 2
 go_wp2_with fail
 refine (SO.out _ (RU.out _ Bw3)).mono ?_
 rintro _ w4 ⟨rfl, bb⟩
 clear cLC0 cLC1 cLP0 cLP1 cLP2
 have Bw4:=bu Bw3 bb
 have sw4:=bb.size
 replace LC:=LC.up bb
 replace LP:=LP.up bb
 clear Bw3 bb
 obtain ⟨cLC0,cLC1⟩:=cc2 LC 0 1
 obtain ⟨cLP0,cLP1,cLP2⟩:=cc3 LP 0 1 2
 go_wp2
 go_ret
 exact ⟨rfl, Bw4⟩
abbrev sB (bn : ByteArray) (bv : Int) (bs : ByteArray) (a : Value) : Value := .agg #[.string bn,.int .i64 bv,.string bs, a]
abbrev sP (v : Int) (s : ByteArray) (a : Value) : Value := .agg #[.int .i64 v,.string s, a]
abbrev sV (v h : Int) (q : Int) (s : ByteArray) (a : Value) : Value := .agg #[.int .i64 v,.int .i64 h,.int .i64 q,.string s, a]
abbrev sX (a b c d : Int) : Value := .agg #[.int .i64 a,.int .i64 b,.int .i64 c,.int .i64 d]
def mB (bn : ByteArray) (bv : Int) (bs : ByteArray) (bw : List Int) : MT := ⟨1, 0, bn, bv, bs, bw, 0, ⟨#[]⟩, [], 0, ⟨#[]⟩, [], 0, 0, 0, 0, 0⟩
def mP (v : Int) (s : ByteArray) (xs : List Int) : MT := ⟨2, 0, ⟨#[]⟩, 0, ⟨#[]⟩, [], v, s, xs, 0, ⟨#[]⟩, [], 0, 0, 0, 0, 0⟩
def mV (v h q : Int) (s : ByteArray) (xs : List Int) : MT := ⟨3, v, ⟨#[]⟩, 0, ⟨#[]⟩, [], 0, ⟨#[]⟩, [], q, s, xs, h, 0, 0, 0, 0⟩
def mX (a b c d : Int) : MT := ⟨4, 0, ⟨#[]⟩, 0, ⟨#[]⟩, [], 0, ⟨#[]⟩, [], 0, ⟨#[]⟩, [], 0, a, b, c, d⟩
def mN : MT := ⟨0, 0, ⟨#[]⟩, 0, ⟨#[]⟩, [], 0, ⟨#[]⟩, [], 0, ⟨#[]⟩, [], 0, 0, 0, 0, 0⟩
theorem namB_m {t : MT} (h : t.k = 1) : namB t = mB t.bn t.bv t.bs t.bw := by unfold namB mB; rw [h]
theorem namP_m {t : MT} (h : t.k = 2) : namP t = mP t.pv t.ps t.pw := by unfold namP mP; rw [h]
theorem namV_m {t : MT} (h : t.k = 3) : namV t = mV t.vw t.wh t.qv t.qs t.qw := by unfold namV mV; rw [h]
theorem namX_m {t : MT} (h : t.k = 4) : namX t = mX t.fr t.tu t.am t.no := by unfold namX mX; rw [h]
abbrev nilL : Value := .slice none 0 0
theorem ta11 (v : Value) (w : World) : (Instr.typeAssert (.iface 249 v) 212 249 true).run Tryz.prog w = .ok (.tuple #[v,.bool true]) w := by kernel_rfl
theorem ta21 (v : Value) (w : World) : (Instr.typeAssert (.iface 250 v) 212 249 true).run Tryz.prog w = .ok (.tuple #[.agg #[.string ⟨#[]⟩,.int .i64 0,.string ⟨#[]⟩,.slice none 0 0],.bool false]) w := by kernel_rfl
theorem ta22 (v : Value) (w : World) : (Instr.typeAssert (.iface 250 v) 212 250 true).run Tryz.prog w = .ok (.tuple #[v,.bool true]) w := by kernel_rfl
theorem ta31 (v : Value) (w : World) : (Instr.typeAssert (.iface 252 v) 212 249 true).run Tryz.prog w = .ok (.tuple #[.agg #[.string ⟨#[]⟩,.int .i64 0,.string ⟨#[]⟩,.slice none 0 0],.bool false]) w := by kernel_rfl
theorem ta32 (v : Value) (w : World) : (Instr.typeAssert (.iface 252 v) 212 250 true).run Tryz.prog w = .ok (.tuple #[.agg #[.int .i64 0,.string ⟨#[]⟩,.slice none 0 0],.bool false]) w := by kernel_rfl
theorem ta33 (v : Value) (w : World) : (Instr.typeAssert (.iface 252 v) 212 252 true).run Tryz.prog w = .ok (.tuple #[v,.bool true]) w := by kernel_rfl
theorem ta41 (v : Value) (w : World) : (Instr.typeAssert (.iface 253 v) 212 249 true).run Tryz.prog w = .ok (.tuple #[.agg #[.string ⟨#[]⟩,.int .i64 0,.string ⟨#[]⟩,.slice none 0 0],.bool false]) w := by kernel_rfl
theorem ta42 (v : Value) (w : World) : (Instr.typeAssert (.iface 253 v) 212 250 true).run Tryz.prog w = .ok (.tuple #[.agg #[.int .i64 0,.string ⟨#[]⟩,.slice none 0 0],.bool false]) w := by kernel_rfl
theorem ta43 (v : Value) (w : World) : (Instr.typeAssert (.iface 253 v) 212 252 true).run Tryz.prog w = .ok (.tuple #[.agg #[.int .i64 0,.int .i64 0,.int .i64 0,.string ⟨#[]⟩,.slice none 0 0],.bool false]) w := by kernel_rfl
theorem ta44 (v : Value) (w : World) : (Instr.typeAssert (.iface 253 v) 212 253 true).run Tryz.prog w = .ok (.tuple #[v,.bool true]) w := by kernel_rfl
theorem implSaying_1 (t : MT) (a b c : Value) (w : World) (hk : t.k = 1) :
 Calls Tryz.prog 177 #[mgv t a b c] w fun e w' => e = .returned (.iface 249 (sB t.bn t.bv t.bs a)) ∧ Below w.heap.size w w' := by
 have dk1 : decide (t.k = 1) = true:=by simpa using hk
 have ek1 : (t.k == 1) = true:=by simpa using hk
 clear hk
 obtain ⟨w0, hw0, Bw0, A, zw0⟩:=bx1 w #[.int .i64 t.k,.int .i64 t.vw,.string t.bn,.int .i64 t.bv,.string t.bs, a,.int .i64 t.pv,.string t.ps, b,.int .i64 t.qv,.string t.qs, c,.int .i64 t.wh,.int .i64 t.fr,.int .i64 t.tu,.int .i64 t.am,.int .i64 t.no] 72
 go_enter Tryz.func177, Tryz.ntmps177
 obtain ⟨cA0,cA2,cA3,cA4,cA5⟩:=cc5 A 0 2 3 4 5
 go_wp2
 clear hw0
 go_ret
 exact ⟨rfl, Bw0⟩
theorem implSaying_2 (t : MT) (a b c : Value) (w : World) (hk : t.k = 2) :
 Calls Tryz.prog 177 #[mgv t a b c] w fun e w' => e = .returned (.iface 250 (sP t.pv t.ps b)) ∧ Below w.heap.size w w' := by
 have dk1 : decide (t.k = 1) = false:=by simp; omega
 have ek1 : (t.k == 1) = false:=by simp; omega
 have dk2 : decide (t.k = 2) = true:=by simpa using hk
 have ek2 : (t.k == 2) = true:=by simpa using hk
 clear hk
 obtain ⟨w0, hw0, Bw0, A, zw0⟩:=bx1 w #[.int .i64 t.k,.int .i64 t.vw,.string t.bn,.int .i64 t.bv,.string t.bs, a,.int .i64 t.pv,.string t.ps, b,.int .i64 t.qv,.string t.qs, c,.int .i64 t.wh,.int .i64 t.fr,.int .i64 t.tu,.int .i64 t.am,.int .i64 t.no] 72
 go_enter Tryz.func177, Tryz.ntmps177
 obtain ⟨cA0,cA6,cA7,cA8⟩:=cc4 A 0 6 7 8
 go_wp2
 clear hw0
 go_ret
 exact ⟨rfl, Bw0⟩
theorem implSaying_3 (t : MT) (a b c : Value) (w : World) (hk : t.k = 3) :
 Calls Tryz.prog 177 #[mgv t a b c] w fun e w' => e = .returned (.iface 252 (sV t.vw t.wh t.qv t.qs c)) ∧ Below w.heap.size w w' := by
 have dk1 : decide (t.k = 1) = false:=by simp; omega
 have ek1 : (t.k == 1) = false:=by simp; omega
 have dk2 : decide (t.k = 2) = false:=by simp; omega
 have ek2 : (t.k == 2) = false:=by simp; omega
 have dk3 : decide (t.k = 3) = true:=by simpa using hk
 have ek3 : (t.k == 3) = true:=by simpa using hk
 clear hk
 obtain ⟨w0, hw0, Bw0, A, zw0⟩:=bx1 w #[.int .i64 t.k,.int .i64 t.vw,.string t.bn,.int .i64 t.bv,.string t.bs, a,.int .i64 t.pv,.string t.ps, b,.int .i64 t.qv,.string t.qs, c,.int .i64 t.wh,.int .i64 t.fr,.int .i64 t.tu,.int .i64 t.am,.int .i64 t.no] 72
 go_enter Tryz.func177, Tryz.ntmps177
 obtain ⟨cA0,cA1,cA9,cA10,cA11,cA12⟩:=cc6 A 0 1 9 10 11 12
 go_wp2
 clear hw0
 go_ret
 exact ⟨rfl, Bw0⟩
theorem implSaying_4 (t : MT) (a b c : Value) (w : World) (hk : t.k = 4) :
 Calls Tryz.prog 177 #[mgv t a b c] w fun e w' => e = .returned (.iface 253 (sX t.fr t.tu t.am t.no)) ∧ Below w.heap.size w w' := by
 have dk1 : decide (t.k = 1) = false:=by simp; omega
 have ek1 : (t.k == 1) = false:=by simp; omega
 have dk2 : decide (t.k = 2) = false:=by simp; omega
 have ek2 : (t.k == 2) = false:=by simp; omega
 have dk3 : decide (t.k = 3) = false:=by simp; omega
 have ek3 : (t.k == 3) = false:=by simp; omega
 have dk4 : decide (t.k = 4) = true:=by simpa using hk
 have ek4 : (t.k == 4) = true:=by simpa using hk
 clear hk
 obtain ⟨w0, hw0, Bw0, A, zw0⟩:=bx1 w #[.int .i64 t.k,.int .i64 t.vw,.string t.bn,.int .i64 t.bv,.string t.bs, a,.int .i64 t.pv,.string t.ps, b,.int .i64 t.qv,.string t.qs, c,.int .i64 t.wh,.int .i64 t.fr,.int .i64 t.tu,.int .i64 t.am,.int .i64 t.no] 72
 go_enter Tryz.func177, Tryz.ntmps177
 obtain ⟨cA0,cA13,cA14,cA15,cA16⟩:=cc5 A 0 13 14 15 16
 go_wp2
 clear hw0
 go_ret
 exact ⟨rfl, Bw0⟩
theorem implSaying_0 (t : MT) (a b c : Value) (w : World) (h1 : ¬ t.k = 1) (h2 : ¬ t.k = 2) (h3 : ¬ t.k = 3) (h4 : ¬ t.k = 4) :
 Calls Tryz.prog 177 #[mgv t a b c] w fun e w' => e = .returned (.nilIface) ∧ Below w.heap.size w w' := by
 have dk1 : decide (t.k = 1) = false:=by simp; omega
 have ek1 : (t.k == 1) = false:=by simp; omega
 have dk2 : decide (t.k = 2) = false:=by simp; omega
 have ek2 : (t.k == 2) = false:=by simp; omega
 have dk3 : decide (t.k = 3) = false:=by simp; omega
 have ek3 : (t.k == 3) = false:=by simp; omega
 have dk4 : decide (t.k = 4) = false:=by simp; omega
 have ek4 : (t.k == 4) = false:=by simp; omega
 obtain ⟨w0, hw0, Bw0, A, zw0⟩:=bx1 w #[.int .i64 t.k,.int .i64 t.vw,.string t.bn,.int .i64 t.bv,.string t.bs, a,.int .i64 t.pv,.string t.ps, b,.int .i64 t.qv,.string t.qs, c,.int .i64 t.wh,.int .i64 t.fr,.int .i64 t.tu,.int .i64 t.am,.int .i64 t.no] 72
 go_enter Tryz.func177, Tryz.ntmps177
 have cA0:=A.cell 0 rfl
 go_wp2
 clear hw0
 go_ret
 exact ⟨rfl, Bw0⟩
theorem implMessageOf_1 (bn : ByteArray) (bv : Int) (bs : ByteArray) (xs : List Int) (u : Value) (hu : ∃ uo un uc, u = .slice uo un uc) (w : World) :
 Calls Tryz.prog 179 #[.iface 249 (sB bn bv bs u)] w fun e w' => e = .returned (mgv (mB bn bv bs xs) u nilL nilL) ∧ Below w.heap.size w w' := by
 have ta1:=ta11
 obtain ⟨uo, un, uc, rfl⟩ : ∃ uo un uc, u = .slice uo un uc:=hu
 obtain ⟨w0, hw0, Bw0, R, zw0⟩:=bx1 w #[.int .i64 0,.int .i64 0,.string ⟨#[]⟩,.int .i64 0,.string ⟨#[]⟩,.slice none 0 0,.int .i64 0,.string ⟨#[]⟩,.slice none 0 0,.int .i64 0,.string ⟨#[]⟩,.slice none 0 0,.int .i64 0,.int .i64 0,.int .i64 0,.int .i64 0,.int .i64 0] 72
 go_enter Tryz.func179, Tryz.ntmps179
 go_upto_region 4 with (refine wstore (loc_at w0 #[.string ⟨#[]⟩,.int .i64 0,.string ⟨#[]⟩,.slice none 0 0] 249 rfl) 249 #[.string bn,.int .i64 bv,.string bs,.slice uo un uc] rfl _ _ rfl rfl rfl (by kernel_rfl) rfl (by simp [Value.oneCell']) ?_)
 clear hw0
 obtain ⟨w1, hw1⟩ : ∃ y, (w0.alloc (.cells #[.string ⟨#[]⟩,.int .i64 0,.string ⟨#[]⟩,.slice none 0 0] 249)).setRow w0.heap.size #[.string bn,.int .i64 bv,.string bs,.slice uo un uc] = y:=⟨_, rfl⟩
 rw [hw1]
 have bb : Below w0.heap.size w0 w1:=hw1 ▸ box_below _ _ _ _
 have X : Loc w1 w0.heap.size #[.string bn,.int .i64 bv,.string bs,.slice uo un uc]:=hw1 ▸ box_loc _ _ _ _
 have zw1 : w1.heap.size = w0.heap.size + 1:=by rw [← hw1]; exact box_size _ _ _ _
 clear hw1
 have Bw1:=bu Bw0 bb
 have sw1:=bb.size
 replace R:=R.up bb
 clear Bw0 bb
 go_wp2_with (first | (refine wload X 249 _ rfl _ rfl rfl Tryz.underlying249 rfl (by kernel_rfl) ?_) | (refine wstore R 72 #[.int .i64 1,.int .i64 0,.string bn,.int .i64 bv,.string bs,.slice uo un uc,.int .i64 0,.string ⟨#[]⟩,.slice none 0 0,.int .i64 0,.string ⟨#[]⟩,.slice none 0 0,.int .i64 0,.int .i64 0,.int .i64 0,.int .i64 0,.int .i64 0] rfl _ _ rfl rfl rfl (by kernel_rfl) rfl (by simp [Value.oneCell']) ?_))
 obtain ⟨wE, hwE⟩ : ∃ w9_, w1.setRow (w.heap.size) #[.int .i64 1,.int .i64 0,.string bn,.int .i64 bv,.string bs,.slice uo un uc,.int .i64 0,.string ⟨#[]⟩,.slice none 0 0,.int .i64 0,.string ⟨#[]⟩,.slice none 0 0,.int .i64 0,.int .i64 0,.int .i64 0,.int .i64 0,.int .i64 0] = w9_:=⟨_, rfl⟩
 have kN : Kp w1 wE (fun k => k = w.heap.size):=hwE ▸ row_kp _ _ _
 replace R : Loc wE (w.heap.size) #[.int .i64 1,.int .i64 0,.string bn,.int .i64 bv,.string bs,.slice uo un uc,.int .i64 0,.string ⟨#[]⟩,.slice none 0 0,.int .i64 0,.string ⟨#[]⟩,.slice none 0 0,.int .i64 0,.int .i64 0,.int .i64 0,.int .i64 0,.int .i64 0]:=hwE ▸ R.row
 replace X:=X.kp kN (by omega)
 have BwE:=Below.kp Bw1 kN Bw1.size (fun k hk => by omega)
 have swE:=kN.size
 rw [hwE]
 clear hwE kN Bw1
 refine bodyPost_ret (v := mgv (mB bn bv bs xs) (.slice uo un uc) nilL nilL) (res_row Tryz.results179 _ R rfl Tryz.underlying72 rfl (by kernel_rfl)) rfl ?_
 exact ⟨rfl, BwE⟩
theorem implMessageOf_2 (v : Int) (s : ByteArray) (xs : List Int) (u : Value) (hu : ∃ uo un uc, u = .slice uo un uc) (w : World) :
 Calls Tryz.prog 179 #[.iface 250 (sP v s u)] w fun e w' => e = .returned (mgv (mP v s xs) nilL u nilL) ∧ Below w.heap.size w w' := by
 have ta1:=ta21
 have ta2:=ta22
 obtain ⟨uo, un, uc, rfl⟩ : ∃ uo un uc, u = .slice uo un uc:=hu
 obtain ⟨w0, hw0, Bw0, R, zw0⟩:=bx1 w #[.int .i64 0,.int .i64 0,.string ⟨#[]⟩,.int .i64 0,.string ⟨#[]⟩,.slice none 0 0,.int .i64 0,.string ⟨#[]⟩,.slice none 0 0,.int .i64 0,.string ⟨#[]⟩,.slice none 0 0,.int .i64 0,.int .i64 0,.int .i64 0,.int .i64 0,.int .i64 0] 72
 go_enter Tryz.func179, Tryz.ntmps179
 go_upto_region 7 with (refine wstore (loc_at w0 #[.int .i64 0,.string ⟨#[]⟩,.slice none 0 0] 250 rfl) 250 #[.int .i64 v,.string s,.slice uo un uc] rfl _ _ rfl rfl rfl (by kernel_rfl) rfl (by simp [Value.oneCell']) ?_)
 clear hw0
 obtain ⟨w1, hw1⟩ : ∃ y, (w0.alloc (.cells #[.int .i64 0,.string ⟨#[]⟩,.slice none 0 0] 250)).setRow w0.heap.size #[.int .i64 v,.string s,.slice uo un uc] = y:=⟨_, rfl⟩
 rw [hw1]
 have bb : Below w0.heap.size w0 w1:=hw1 ▸ box_below _ _ _ _
 have X : Loc w1 w0.heap.size #[.int .i64 v,.string s,.slice uo un uc]:=hw1 ▸ box_loc _ _ _ _
 have zw1 : w1.heap.size = w0.heap.size + 1:=by rw [← hw1]; exact box_size _ _ _ _
 clear hw1
 have Bw1:=bu Bw0 bb
 have sw1:=bb.size
 replace R:=R.up bb
 clear Bw0 bb
 go_wp2_with (first | (refine wload X 250 _ rfl _ rfl rfl Tryz.underlying250 rfl (by kernel_rfl) ?_) | (refine wstore R 72 #[.int .i64 2,.int .i64 0,.string ⟨#[]⟩,.int .i64 0,.string ⟨#[]⟩,.slice none 0 0,.int .i64 v,.string s,.slice uo un uc,.int .i64 0,.string ⟨#[]⟩,.slice none 0 0,.int .i64 0,.int .i64 0,.int .i64 0,.int .i64 0,.int .i64 0] rfl _ _ rfl rfl rfl (by kernel_rfl) rfl (by simp [Value.oneCell']) ?_))
 obtain ⟨wE, hwE⟩ : ∃ w9_, w1.setRow (w.heap.size) #[.int .i64 2,.int .i64 0,.string ⟨#[]⟩,.int .i64 0,.string ⟨#[]⟩,.slice none 0 0,.int .i64 v,.string s,.slice uo un uc,.int .i64 0,.string ⟨#[]⟩,.slice none 0 0,.int .i64 0,.int .i64 0,.int .i64 0,.int .i64 0,.int .i64 0] = w9_:=⟨_, rfl⟩
 have kN : Kp w1 wE (fun k => k = w.heap.size):=hwE ▸ row_kp _ _ _
 replace R : Loc wE (w.heap.size) #[.int .i64 2,.int .i64 0,.string ⟨#[]⟩,.int .i64 0,.string ⟨#[]⟩,.slice none 0 0,.int .i64 v,.string s,.slice uo un uc,.int .i64 0,.string ⟨#[]⟩,.slice none 0 0,.int .i64 0,.int .i64 0,.int .i64 0,.int .i64 0,.int .i64 0]:=hwE ▸ R.row
 replace X:=X.kp kN (by omega)
 have BwE:=Below.kp Bw1 kN Bw1.size (fun k hk => by omega)
 have swE:=kN.size
 rw [hwE]
 clear hwE kN Bw1
 refine bodyPost_ret (v := mgv (mP v s xs) nilL (.slice uo un uc) nilL) (res_row Tryz.results179 _ R rfl Tryz.underlying72 rfl (by kernel_rfl)) rfl ?_
 exact ⟨rfl, BwE⟩
theorem implMessageOf_3 (v h q : Int) (s : ByteArray) (xs : List Int) (u : Value) (hu : ∃ uo un uc, u = .slice uo un uc) (w : World) :
 Calls Tryz.prog 179 #[.iface 252 (sV v h q s u)] w fun e w' => e = .returned (mgv (mV v h q s xs) nilL nilL u) ∧ Below w.heap.size w w' := by
 have ta1:=ta31
 have ta2:=ta32
 have ta3:=ta33
 obtain ⟨uo, un, uc, rfl⟩ : ∃ uo un uc, u = .slice uo un uc:=hu
 obtain ⟨w0, hw0, Bw0, R, zw0⟩:=bx1 w #[.int .i64 0,.int .i64 0,.string ⟨#[]⟩,.int .i64 0,.string ⟨#[]⟩,.slice none 0 0,.int .i64 0,.string ⟨#[]⟩,.slice none 0 0,.int .i64 0,.string ⟨#[]⟩,.slice none 0 0,.int .i64 0,.int .i64 0,.int .i64 0,.int .i64 0,.int .i64 0] 72
 go_enter Tryz.func179, Tryz.ntmps179
 go_upto_region 10 with (refine wstore (loc_at w0 #[.int .i64 0,.int .i64 0,.int .i64 0,.string ⟨#[]⟩,.slice none 0 0] 252 rfl) 252 #[.int .i64 v,.int .i64 h,.int .i64 q,.string s,.slice uo un uc] rfl _ _ rfl rfl rfl (by kernel_rfl) rfl (by simp [Value.oneCell']) ?_)
 clear hw0
 obtain ⟨w1, hw1⟩ : ∃ y, (w0.alloc (.cells #[.int .i64 0,.int .i64 0,.int .i64 0,.string ⟨#[]⟩,.slice none 0 0] 252)).setRow w0.heap.size #[.int .i64 v,.int .i64 h,.int .i64 q,.string s,.slice uo un uc] = y:=⟨_, rfl⟩
 rw [hw1]
 have bb : Below w0.heap.size w0 w1:=hw1 ▸ box_below _ _ _ _
 have X : Loc w1 w0.heap.size #[.int .i64 v,.int .i64 h,.int .i64 q,.string s,.slice uo un uc]:=hw1 ▸ box_loc _ _ _ _
 have zw1 : w1.heap.size = w0.heap.size + 1:=by rw [← hw1]; exact box_size _ _ _ _
 clear hw1
 have Bw1:=bu Bw0 bb
 have sw1:=bb.size
 replace R:=R.up bb
 clear Bw0 bb
 obtain ⟨cX0,cX1,cX2,cX3,cX4⟩:=cc5 X 0 1 2 3 4
 go_wp2_with (first | (refine wstore R 72 #[.int .i64 3,.int .i64 v,.string ⟨#[]⟩,.int .i64 0,.string ⟨#[]⟩,.slice none 0 0,.int .i64 0,.string ⟨#[]⟩,.slice none 0 0,.int .i64 q,.string s,.slice uo un uc,.int .i64 h,.int .i64 0,.int .i64 0,.int .i64 0,.int .i64 0] rfl _ _ rfl rfl rfl (by kernel_rfl) rfl (by simp [Value.oneCell']) ?_))
 clear cX0 cX1 cX2 cX3 cX4
 obtain ⟨wE, hwE⟩ : ∃ w9_, w1.setRow (w.heap.size) #[.int .i64 3,.int .i64 v,.string ⟨#[]⟩,.int .i64 0,.string ⟨#[]⟩,.slice none 0 0,.int .i64 0,.string ⟨#[]⟩,.slice none 0 0,.int .i64 q,.string s,.slice uo un uc,.int .i64 h,.int .i64 0,.int .i64 0,.int .i64 0,.int .i64 0] = w9_:=⟨_, rfl⟩
 have kN : Kp w1 wE (fun k => k = w.heap.size):=hwE ▸ row_kp _ _ _
 replace R : Loc wE (w.heap.size) #[.int .i64 3,.int .i64 v,.string ⟨#[]⟩,.int .i64 0,.string ⟨#[]⟩,.slice none 0 0,.int .i64 0,.string ⟨#[]⟩,.slice none 0 0,.int .i64 q,.string s,.slice uo un uc,.int .i64 h,.int .i64 0,.int .i64 0,.int .i64 0,.int .i64 0]:=hwE ▸ R.row
 replace X:=X.kp kN (by omega)
 have BwE:=Below.kp Bw1 kN Bw1.size (fun k hk => by omega)
 have swE:=kN.size
 rw [hwE]
 clear hwE kN Bw1
 refine bodyPost_ret (v := mgv (mV v h q s xs) nilL nilL (.slice uo un uc)) (res_row Tryz.results179 _ R rfl Tryz.underlying72 rfl (by kernel_rfl)) rfl ?_
 exact ⟨rfl, BwE⟩
theorem implMessageOf_4 (a b c d : Int) (w : World) :
 Calls Tryz.prog 179 #[.iface 253 (sX a b c d)] w fun e w' => e = .returned (mgv (mX a b c d) nilL nilL nilL) ∧ Below w.heap.size w w' := by
 have ta1:=ta41
 have ta2:=ta42
 have ta3:=ta43
 have ta4:=ta44
 obtain ⟨w0, hw0, Bw0, R, zw0⟩:=bx1 w #[.int .i64 0,.int .i64 0,.string ⟨#[]⟩,.int .i64 0,.string ⟨#[]⟩,.slice none 0 0,.int .i64 0,.string ⟨#[]⟩,.slice none 0 0,.int .i64 0,.string ⟨#[]⟩,.slice none 0 0,.int .i64 0,.int .i64 0,.int .i64 0,.int .i64 0,.int .i64 0] 72
 go_enter Tryz.func179, Tryz.ntmps179
 go_upto_region 13 with (refine wstore (loc_at w0 #[.int .i64 0,.int .i64 0,.int .i64 0,.int .i64 0] 253 rfl) 253 #[.int .i64 a,.int .i64 b,.int .i64 c,.int .i64 d] rfl _ _ rfl rfl rfl (by kernel_rfl) rfl (by simp [Value.oneCell']) ?_)
 clear hw0
 obtain ⟨w1, hw1⟩ : ∃ y, (w0.alloc (.cells #[.int .i64 0,.int .i64 0,.int .i64 0,.int .i64 0] 253)).setRow w0.heap.size #[.int .i64 a,.int .i64 b,.int .i64 c,.int .i64 d] = y:=⟨_, rfl⟩
 rw [hw1]
 have bb : Below w0.heap.size w0 w1:=hw1 ▸ box_below _ _ _ _
 have X : Loc w1 w0.heap.size #[.int .i64 a,.int .i64 b,.int .i64 c,.int .i64 d]:=hw1 ▸ box_loc _ _ _ _
 have zw1 : w1.heap.size = w0.heap.size + 1:=by rw [← hw1]; exact box_size _ _ _ _
 clear hw1
 have Bw1:=bu Bw0 bb
 have sw1:=bb.size
 replace R:=R.up bb
 clear Bw0 bb
 go_wp2_with (first | (refine wload X 253 _ rfl _ rfl rfl Tryz.underlying253 rfl (by kernel_rfl) ?_) | (refine wstore R 72 #[.int .i64 4,.int .i64 0,.string ⟨#[]⟩,.int .i64 0,.string ⟨#[]⟩,.slice none 0 0,.int .i64 0,.string ⟨#[]⟩,.slice none 0 0,.int .i64 0,.string ⟨#[]⟩,.slice none 0 0,.int .i64 0,.int .i64 a,.int .i64 b,.int .i64 c,.int .i64 d] rfl _ _ rfl rfl rfl (by kernel_rfl) rfl (by simp [Value.oneCell']) ?_))
 obtain ⟨wE, hwE⟩ : ∃ w9_, w1.setRow (w.heap.size) #[.int .i64 4,.int .i64 0,.string ⟨#[]⟩,.int .i64 0,.string ⟨#[]⟩,.slice none 0 0,.int .i64 0,.string ⟨#[]⟩,.slice none 0 0,.int .i64 0,.string ⟨#[]⟩,.slice none 0 0,.int .i64 0,.int .i64 a,.int .i64 b,.int .i64 c,.int .i64 d] = w9_:=⟨_, rfl⟩
 have kN : Kp w1 wE (fun k => k = w.heap.size):=hwE ▸ row_kp _ _ _
 replace R : Loc wE (w.heap.size) #[.int .i64 4,.int .i64 0,.string ⟨#[]⟩,.int .i64 0,.string ⟨#[]⟩,.slice none 0 0,.int .i64 0,.string ⟨#[]⟩,.slice none 0 0,.int .i64 0,.string ⟨#[]⟩,.slice none 0 0,.int .i64 0,.int .i64 a,.int .i64 b,.int .i64 c,.int .i64 d]:=hwE ▸ R.row
 replace X:=X.kp kN (by omega)
 have BwE:=Below.kp Bw1 kN Bw1.size (fun k hk => by omega)
 have swE:=kN.size
 rw [hwE]
 clear hwE kN Bw1
 refine bodyPost_ret (v := mgv (mX a b c d) nilL nilL nilL) (res_row Tryz.results179 _ R rfl Tryz.underlying72 rfl (by kernel_rfl)) rfl ?_
 exact ⟨rfl, BwE⟩
theorem implRightB (n f : Int) (bn : ByteArray) (bv : Int) (bs : ByteArray) (ao : Option Addr) (ca : Nat) (xs : List Int) (w : World) (h1 : bn.size ≤ 33554432) (h2 : bs.size ≤ 33554432) (hE : Env w) (ha : RI w (.slice ao xs.length ca) xs) :
 Calls Tryz.prog 339 #[sB bn bv bs (.slice ao xs.length ca), cv n f] w fun e w' => e = .returned (.bool (bokB n f bn bv bs xs)) ∧ Below w.heap.size w w' := by
 have BO:=hide fun w hE h => implBlockOk n f bn bv bs ao ca xs w h1 h2 hE h
 have HE:=hide hE
 have HA:=hide ha
 clear hE ha h1 h2
 obtain ⟨w0, hw0, Bw0, A, LC, zw0⟩:=bx2 w #[.string bn,.int .i64 bv,.string bs,.slice ao xs.length ca] 249 #[.int .i64 n,.int .i64 f] 49
 go_enter Tryz.func339, Tryz.ntmps339
 obtain ⟨cA0,cA1,cA2,cA3⟩:=cc4 A 0 1 2 3
 obtain ⟨cLC0,cLC1⟩:=cc2 LC 0 1
 go_wp2_with fail
 clear hw0
 refine (BO.out _ (HE.out.below Bw0) (HA.out.below Bw0)).mono ?_
 rintro _ w1 ⟨rfl, bb⟩
 clear cA0 cA1 cA2 cA3 cLC0 cLC1
 have Bw1:=bu Bw0 bb
 have sw1:=bb.size
 replace A:=A.up bb
 replace LC:=LC.up bb
 clear Bw0 bb
 go_wp2
 go_ret
 exact ⟨rfl, Bw1⟩
theorem implRightP (n f v : Int) (s : ByteArray) (ao : Option Addr) (ca : Nat) (xs : List Int) (w : World) (h1 : s.size ≤ 33554432) (hE : Env w) (ha : RI w (.slice ao xs.length ca) xs) :
 Calls Tryz.prog 348 #[sP v s (.slice ao xs.length ca), cv n f] w fun e w' => e = .returned (.bool (pokB n f v s xs && !(s.toList == []))) ∧ Below w.heap.size w w' := by
 have PO:=hide fun w hE h => implPartOk n f v s (.slice ao xs.length ca) xs w h1 hE h
 have HE:=hide hE
 have HA:=hide ha
 clear hE ha h1
 generalize pokB n f v s xs = r at *
 obtain ⟨z, hz⟩ : ∃ z, (s.toList == []) = z:=⟨_, rfl⟩
 rw [hz]
 obtain ⟨w0, hw0, Bw0, A, LC, zw0⟩:=bx2 w #[.int .i64 v,.string s,.slice ao xs.length ca] 250 #[.int .i64 n,.int .i64 f] 49
 go_enter Tryz.func348, Tryz.ntmps348
 cases z
 ·obtain ⟨cA0,cA1,cA2⟩:=cc3 A 0 1 2
  obtain ⟨cLC0,cLC1⟩:=cc2 LC 0 1
  go_wp2_with fail
  clear hw0
  refine (PO.out _ (HE.out.below Bw0) (HA.out.below Bw0)).mono ?_
  rintro _ w1 ⟨rfl, bb⟩
  clear cA0 cA1 cA2 cLC0 cLC1
  have Bw1:=bu Bw0 bb
  have sw1:=bb.size
  replace A:=A.up bb
  replace LC:=LC.up bb
  clear Bw0 bb
  go_wp2
  go_ret
  exact ⟨by simp, Bw1⟩
 obtain ⟨cA0,cA1,cA2⟩:=cc3 A 0 1 2
 obtain ⟨cLC0,cLC1⟩:=cc2 LC 0 1
 go_wp2
 clear hw0
 go_ret
 exact ⟨by simp, Bw0⟩
theorem implRightV (n f v h q : Int) (s : ByteArray) (ao : Option Addr) (ca : Nat) (xs : List Int) (w : World) (hn : IntKind.i64.wrap (n - 1) = n - 1) (h1 : s.size ≤ 33554432) (hE : Env w) (ha : RI w (.slice ao xs.length ca) xs) :
 Calls Tryz.prog 350 #[sV v h q s (.slice ao xs.length ca), cv n f] w fun e w' => e = .returned (.bool (decide (1 ≤ v ∧ v ≤ 60) && (qokB n f q s xs && decide (0 ≤ h ∧ h ≤ n - 1)))) ∧ Below w.heap.size w w' := by
 have QO:=hide fun w hE h => implQcOk n f q s ao ca xs w h1 hE h
 have HE:=hide hE
 have HA:=hide ha
 have i1:=hide fun w => within_bool v 1 60 w
 have i2:=hide fun w => within_bool h 0 (n - 1) w
 clear hE ha h1
 generalize decide (1 ≤ v ∧ v ≤ 60) = r1 at *
 generalize decide (0 ≤ h ∧ h ≤ n - 1) = r3 at *
 generalize qokB n f q s xs = r2 at *
 obtain ⟨w0, hw0, Bw0, A, LC, zw0⟩:=bx2 w #[.int .i64 v,.int .i64 h,.int .i64 q,.string s,.slice ao xs.length ca] 252 #[.int .i64 n,.int .i64 f] 49
 go_enter Tryz.func350, Tryz.ntmps350
 obtain ⟨cA0,cA1,cA2,cA3,cA4⟩:=cc5 A 0 1 2 3 4
 obtain ⟨cLC0,cLC1⟩:=cc2 LC 0 1
 go_wp2_with fail
 clear hw0
 refine (i1.out _).mono ?_
 rintro _ w1 ⟨rfl, bb⟩
 clear cA0 cA1 cA2 cA3 cA4 cLC0 cLC1
 have Bw1:=bu Bw0 bb
 have sw1:=bb.size
 replace A:=A.up bb
 replace LC:=LC.up bb
 clear Bw0 bb
 cases r1
 ·obtain ⟨cA0,cA1,cA2,cA3,cA4⟩:=cc5 A 0 1 2 3 4
  obtain ⟨cLC0,cLC1⟩:=cc2 LC 0 1
  go_wp2
  go_ret
  exact ⟨by simp, Bw1⟩
 obtain ⟨cA0,cA1,cA2,cA3,cA4⟩:=cc5 A 0 1 2 3 4
 obtain ⟨cLC0,cLC1⟩:=cc2 LC 0 1
 go_wp2_with fail
 refine (i2.out _).mono ?_
 rintro _ w2 ⟨rfl, bb⟩
 clear cA0 cA1 cA2 cA3 cA4 cLC0 cLC1
 have Bw2:=bu Bw1 bb
 have sw2:=bb.size
 replace A:=A.up bb
 replace LC:=LC.up bb
 clear Bw1 bb
 cases r3
 ·obtain ⟨cA0,cA1,cA2,cA3,cA4⟩:=cc5 A 0 1 2 3 4
  obtain ⟨cLC0,cLC1⟩:=cc2 LC 0 1
  go_wp2
  go_ret
  exact ⟨by simp, Bw2⟩
 obtain ⟨cA0,cA1,cA2,cA3,cA4⟩:=cc5 A 0 1 2 3 4
 obtain ⟨cLC0,cLC1⟩:=cc2 LC 0 1
 go_wp2_with fail
 refine (QO.out _ (HE.out.below Bw2) (HA.out.below Bw2)).mono ?_
 rintro _ w3 ⟨rfl, bb⟩
 clear cA0 cA1 cA2 cA3 cA4 cLC0 cLC1
 have Bw3:=bu Bw2 bb
 have sw3:=bb.size
 replace A:=A.up bb
 replace LC:=LC.up bb
 clear Bw2 bb
 go_wp2
 go_ret
 exact ⟨by simp, Bw3⟩
theorem implRightX (n f a b c d : Int) (w : World) :
 Calls Tryz.prog 352 #[sX a b c d, cv n f] w fun e w' => e = .returned (.bool (decide (Ok4 a b c d))) ∧ Below w.heap.size w w' := by
 have TO:=hide fun w => implTxOk a b c d w
 generalize decide (Ok4 a b c d) = r at *
 obtain ⟨w0, hw0, Bw0, A, LC, zw0⟩:=bx2 w #[.int .i64 a,.int .i64 b,.int .i64 c,.int .i64 d] 253 #[.int .i64 n,.int .i64 f] 49
 go_enter Tryz.func352, Tryz.ntmps352
 obtain ⟨cA0,cA1,cA2,cA3⟩:=cc4 A 0 1 2 3
 go_wp2_with fail
 clear hw0
 refine (TO.out _).mono ?_
 rintro _ w1 ⟨rfl, bb⟩
 clear cA0 cA1 cA2 cA3
 have Bw1:=bu Bw0 bb
 have sw1:=bb.size
 replace A:=A.up bb
 replace LC:=LC.up bb
 clear Bw0 bb
 go_wp2
 go_ret
 exact ⟨rfl, Bw1⟩
end
end Go.Proofs.YtjdchloechcclaaGreatDoor
