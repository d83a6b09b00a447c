/- Texts that belong together: DiskImpl, MsgZero. -/
import Derived.Test.YtndpjhiidmdlhaaGreatDoorRCAA
import Derived.Conc.MuLib
import Derived.Conc.MuLone
import Derived.Defers
import Derived.Laws.LoneSync
import Derived.KernelRfl
import Derived.Test.YtndpjhiidmdlhaaGreatDoorRCAK
import Derived.Test.YtndpjhiidmdlhaaGreatDoorRCAG
import Derived.Test.YtndpjhiidmdlhaaGreatDoorRCAH
set_option maxRecDepth 100000
set_option maxHeartbeats 16000000
namespace Go.Proofs.YtndpjhiidmdlhaaGreatDoor
open Go.RowKit

def dokB (n : Nat) (s : Int) : Bool := decide (n ≤ 100000) && (decide (0 ≤ s) && decide (s ≤ (n : Int)))
theorem withinD (x lo hi : Int) (w : World) : Calls Tryz.prog 49 #[.int .i64 x,.int .i64 lo,.int .i64 hi] w fun e w' => e = .returned (.bool (decide (lo ≤ x) && decide (x ≤ hi))) ∧ w' = w := by
 by_cases h1 : lo ≤ x <;> by_cases h2 : x ≤ hi <;> simp only [h1, h2, decide_true, decide_false, Bool.and_true, Bool.and_false]
 all_goals
  go_enter Tryz.func49, Tryz.ntmps49
  go_wp2
  go_ret
  exact ⟨rfl, rfl⟩
theorem l1InD (x lo hi : Int) (w : World) : Calls Tryz.prog 39 #[.int .i64 x,.int .i64 lo,.int .i64 hi] w fun e w' => e = .returned (.bool (decide (lo ≤ x) && decide (x ≤ hi))) ∧ w' = w := by
 by_cases h1 : lo ≤ x <;> by_cases h2 : x ≤ hi <;> simp only [h1, h2, decide_true, decide_false, Bool.and_true, Bool.and_false]
 all_goals
  go_enter Tryz.func39, Tryz.ntmps39
  go_wp2
  go_ret
  exact ⟨rfl, rfl⟩
theorem implDiskOk (ao : Option Addr) (n ca : Nat) (s : Int) (w : World) :
 Calls Tryz.prog 53 #[dv (.slice ao n ca) s] w fun e w' => e = .returned (.bool (dokB n s)) ∧ Below w.heap.size w w' := by
 have WI:=hide fun w => withinD s 0 (n : Int) w
 by_cases h1 : n ≤ 100000
 ·have hd : dokB n s = (decide (0 ≤ s) && decide (s ≤ (n : Int))):=by simp [dokB, h1]
  have h2 : ((n : Int) ≤ 100000):=by omega
  rw [hd]
  generalize (decide (0 ≤ s) && decide (s ≤ (n : Int))) = b at *
  clear hd
  go_enter Tryz.func53, Tryz.ntmps53
  go_wp2_with fail
  refine (WI.out _).mono ?_
  rintro e w1 ⟨rfl, rfl⟩
  go_wp2
  go_ret
  exact ⟨rfl, qalloc _ _⟩
 ·have hd : dokB n s = false:=by simp [dokB, h1]
  have h2 : ¬ ((n : Int) ≤ 100000):=by omega
  rw [hd]
  clear hd
  go_enter Tryz.func53, Tryz.ntmps53
  go_wp2
  go_ret
  exact ⟨rfl, qalloc _ _⟩
theorem specDiskOk (ao : Option Addr) (n ca : Nat) (s : Int) (w : World) :
 Calls Tryz.prog 43 #[dv (.slice ao n ca) s] w fun e w' => e = .returned (.bool (dokB n s)) ∧ Below w.heap.size w w' := by
 have WI:=hide fun w => l1InD s 0 (n : Int) w
 by_cases h1 : n ≤ 100000
 ·have hd : dokB n s = (decide (0 ≤ s) && decide (s ≤ (n : Int))):=by simp [dokB, h1]
  have h2 : ((n : Int) ≤ 100000):=by omega
  rw [hd]
  generalize (decide (0 ≤ s) && decide (s ≤ (n : Int))) = b at *
  clear hd
  go_enter Tryz.func43, Tryz.ntmps43
  go_wp2_with fail
  refine (WI.out _).mono ?_
  rintro e w1 ⟨rfl, rfl⟩
  go_wp2
  go_ret
  exact ⟨rfl, qalloc _ _⟩
 ·have hd : dokB n s = false:=by simp [dokB, h1]
  have h2 : ¬ ((n : Int) ≤ 100000):=by omega
  rw [hd]
  clear hd
  go_enter Tryz.func43, Tryz.ntmps43
  go_wp2
  go_ret
  exact ⟨rfl, qalloc _ _⟩

def RF (w : World) (g : Nat) (v : Value) (xs : List Int) : Prop :=
 xs.length ≤ 4194304 ∧ ∃ ao cap, v = .slice ao xs.length cap ∧ (xs.length ≤ cap ∧ cap ≤ maxLen) ∧ (xs = [] ∨ ∃ b off, ao = some ⟨b, off, none⟩ ∧ b ≠ g ∧ ∀ k, k < xs.length → w.cell? ⟨b, off + k, none⟩ = some (.int .u8 (xs.getD k 0)))
theorem RF.rb {w : World} {g : Nat} {v : Value} {xs : List Int} (h : RF w g v xs) : RB w v xs := by
 obtain ⟨hl, ao, cap, e, hc, h⟩:=h
 refine ⟨by omega, ao, cap, e, hc, ?_⟩
 rcases h with h | ⟨b, off, e, _, h⟩
 ·exact .inl h
 ·exact .inr ⟨b, off, e, h⟩
theorem RF.kp {w w' : World} {g : Nat} {v : Value} {xs : List Int} (h : RF w g v xs) (k : Kp w w' (fun k => k = g)) : RF w' g v xs := by
 obtain ⟨hl, ao, cap, e, hc, h⟩:=h
 refine ⟨hl, ao, cap, e, hc, ?_⟩
 rcases h with h | ⟨b, off, e, hb, h⟩
 ·exact .inl h
 ·exact .inr ⟨b, off, e, hb, fun j hj => k.cell (h j hj) hb⟩
theorem RF.below {w w' : World} {g : Nat} {v : Value} {xs : List Int} (h : RF w g v xs) (b : Below w.heap.size w w') : RF w' g v xs := h.kp (Below.kpOf b _)
theorem RF.form {w : World} {g : Nat} {v : Value} {xs : List Int} (h : RF w g v xs) : ∃ ao ca, v = .slice ao xs.length ca := by
 obtain ⟨_, ao, cap, e, _⟩:=h
 exact ⟨ao, cap, e⟩
end Go.Proofs.YtndpjhiidmdlhaaGreatDoor
namespace Go.Proofs.YtndpjhiidmdlhaaGreatDoor
open Go.RowKit
set_option linter.unusedSectionVars false
variable [∀ (a b c d : Int), Decidable (Ok4 a b c d)]

def namB (t : MT) : MT := ⟨t.k, 0, t.bn, t.bv, t.bs, t.bw, 0, ⟨#[]⟩, [], 0, ⟨#[]⟩, [], 0, 0, 0, 0, 0⟩
def namP (t : MT) : MT := ⟨t.k, 0, ⟨#[]⟩, 0, ⟨#[]⟩, [], t.pv, t.ps, t.pw, 0, ⟨#[]⟩, [], 0, 0, 0, 0, 0⟩
def namV (t : MT) : MT := ⟨t.k, t.vw, ⟨#[]⟩, 0, ⟨#[]⟩, [], 0, ⟨#[]⟩, [], t.qv, t.qs, t.qw, t.wh, 0, 0, 0, 0⟩
def namX (t : MT) : MT := ⟨t.k, 0, ⟨#[]⟩, 0, ⟨#[]⟩, [], 0, ⟨#[]⟩, [], 0, ⟨#[]⟩, [], 0, t.fr, t.tu, t.am, t.no⟩
def namN (t : MT) : MT := ⟨t.k, 0, ⟨#[]⟩, 0, ⟨#[]⟩, [], 0, ⟨#[]⟩, [], 0, ⟨#[]⟩, [], 0, 0, 0, 0, 0⟩
def namT (t : MT) : MT := if t.k = 1 then namB t else if t.k = 2 then namP t else if t.k = 3 then namV t else if t.k = 4 then namX t else namN t
theorem nam1 {t : MT} (h : t.k = 1) : namT t = namB t := by unfold namT; rw [if_pos h]
theorem nam2 {t : MT} (h : t.k = 2) : namT t = namP t := by unfold namT; rw [if_neg (by omega), if_pos h]
theorem nam3 {t : MT} (h : t.k = 3) : namT t = namV t := by unfold namT; rw [if_neg (by omega), if_neg (by omega), if_pos h]
theorem nam4 {t : MT} (h : t.k = 4) : namT t = namX t := by unfold namT; rw [if_neg (by omega), if_neg (by omega), if_neg (by omega), if_pos h]
theorem nam0 {t : MT} (h1 : ¬ t.k = 1) (h2 : ¬ t.k = 2) (h3 : ¬ t.k = 3) (h4 : ¬ t.k = 4) : namT t = namN t := by unfold namT; rw [if_neg h1, if_neg h2, if_neg h3, if_neg h4]
def zerB (t : MT) : Bool := msamB (namT t) t
theorem RI.none (w : World) : RI w (.slice none 0 0) [] := ⟨by simp, .none, 0, rfl, .inl rfl⟩
theorem kinds (k : Int) : k = 1 ∨ k = 2 ∨ k = 3 ∨ k = 4 ∨ (¬ k = 1 ∧ ¬ k = 2 ∧ ¬ k = 3 ∧ ¬ k = 4) := by omega
theorem l14Zero_1 (t : MT) (ao bo co : Option Addr) (ca cb cc : Nat) (w : World) (hk : t.k = 1) (ha : RI w (.slice ao t.bw.length ca) t.bw) (hb : RI w (.slice bo t.pw.length cb) t.pw) (hc : RI w (.slice co t.qw.length cc) t.qw) :
 Calls Tryz.prog 102 #[mgv t (.slice ao t.bw.length ca) (.slice bo t.pw.length cb) (.slice co t.qw.length cc)] w fun e w' => e = .returned (.bool (msamB (namB t) t)) ∧ Below w.heap.size w w' := by
 have dk1 : decide (t.k = 1) = true:=by simpa using hk
 have ek1 : (t.k == 1) = true:=by simpa using hk
 have SM:=hide fun w h1 h2 h3 h4 h5 h6 => specMsgSame (namB t) t ao .none .none ao bo co ca 0 0 ca cb cc w h1 h2 h3 h4 h5 h6
 have HK:=hide hk
 clear hk
 have ha1:=hide ha
 have hb1:=hide hb
 have hc1:=hide hc
 clear ha hb hc
 obtain ⟨w0, hw0, Bw0, A, zw0⟩:=bx1 w #[.int .i64 t.k,.int .i64 t.vw,.string t.bn,.int .i64 t.bv,.string t.bs,.slice ao t.bw.length ca,.int .i64 t.pv,.string t.ps,.slice bo t.pw.length cb,.int .i64 t.qv,.string t.qs,.slice co t.qw.length cc,.int .i64 t.wh,.int .i64 t.fr,.int .i64 t.tu,.int .i64 t.am,.int .i64 t.no] 86
 go_enter Tryz.func102, Tryz.ntmps102
 have cA0:=A.cell 0 rfl
 go_upto_region 2 with fail
 clear hw0
 clear cA0
 obtain ⟨w1, hw1⟩ : ∃ y, w0.alloc (.cells #[.int .i64 t.k,.int .i64 0,.string ⟨#[]⟩,.int .i64 0,.string ⟨#[]⟩,.slice none 0 0,.int .i64 0,.string ⟨#[]⟩,.slice none 0 0,.int .i64 0,.string ⟨#[]⟩,.slice none 0 0,.int .i64 0,.int .i64 0,.int .i64 0,.int .i64 0,.int .i64 0] 86) = y:=⟨_, rfl⟩
 have bb : Below w0.heap.size w0 w1:=hw1 ▸ qalloc _ _
 have X : Loc w1 w0.heap.size #[.int .i64 t.k,.int .i64 0,.string ⟨#[]⟩,.int .i64 0,.string ⟨#[]⟩,.slice none 0 0,.int .i64 0,.string ⟨#[]⟩,.slice none 0 0,.int .i64 0,.string ⟨#[]⟩,.slice none 0 0,.int .i64 0,.int .i64 0,.int .i64 0,.int .i64 0,.int .i64 0]:=hw1 ▸ loc_at w0 _ _ rfl
 have zw1 : w0.heap.size + 1 ≤ w1.heap.size:=by rw [← hw1]; simp
 rw [hw1]
 clear hw1
 have Bw1:=bu Bw0 bb
 have sw1:=bb.size
 replace A:=A.up bb
 clear Bw0
 clear bb
 have cA0:=A.cell 0 rfl
 have cA2:=A.cell 2 rfl
 have cA3:=A.cell 3 rfl
 have cA4:=A.cell 4 rfl
 have cA5:=A.cell 5 rfl
 have cX2:=X.cell 2 rfl
 have cX3:=X.cell 3 rfl
 have cX4:=X.cell 4 rfl
 have cX5:=X.cell 5 rfl
 have fX:=X.frozen
 go_upto_region 13 with fail
 clear cA0 cA2 cA3 cA4 cA5 cX2 cX3 cX4 cX5
 clear fX
 obtain ⟨w2, hw2⟩ : ∃ w9_, ((((w1.setCell ⟨w0.heap.size, 2, none⟩ (.string t.bn)).setCell ⟨w0.heap.size, 3, none⟩ (.int .i64 t.bv)).setCell ⟨w0.heap.size, 4, none⟩ (.string t.bs)).setCell ⟨w0.heap.size, 5, none⟩ (.slice ao t.bw.length ca)) = w9_:=⟨_, rfl⟩
 have kN : Kp w1 w2 (fun k => k = w0.heap.size):=hw2 ▸ (((set_kp _ _ _ _).trans (set_kp _ _ _ _)).trans (set_kp _ _ _ _)).trans (set_kp _ _ _ _)
 replace X : Loc w2 (w0.heap.size) #[.int .i64 t.k,.int .i64 0,.string t.bn,.int .i64 t.bv,.string t.bs,.slice ao t.bw.length ca,.int .i64 0,.string ⟨#[]⟩,.slice none 0 0,.int .i64 0,.string ⟨#[]⟩,.slice none 0 0,.int .i64 0,.int .i64 0,.int .i64 0,.int .i64 0,.int .i64 0]:=hw2 ▸ ((((X.set 2 _ rfl).set 3 _ rfl).set 4 _ rfl).set 5 _ rfl)
 replace A:=A.kp kN (by omega)
 have Bw2:=Below.kp Bw1 kN Bw1.size (fun k hk => by omega)
 have sw2:=kN.size
 rw [hw2]
 clear hw2 kN Bw1
 have SM':=SM.out _ (ha1.out.below Bw2) (RI.none _) (RI.none _) (ha1.out.below Bw2) (hb1.out.below Bw2) (hc1.out.below Bw2)
 clear SM ha1 hb1 hc1
 have H5:=hide SM'
 clear SM'
 go_wp2_with (first | (refine wload X 86 _ rfl _ rfl rfl Tryz.underlying86 rfl (by kernel_rfl) ?_) | (refine wload A 86 _ rfl _ rfl rfl Tryz.underlying86 rfl (by kernel_rfl) ?_))
 refine H5.out.mono ?_
 rintro _ w3 ⟨rfl, bb⟩
 have Bw3:=bu Bw2 bb
 have sw3:=bb.size
 replace A:=A.up bb
 replace X:=X.up bb
 clear Bw2
 clear bb
 go_wp2
 go_ret
 exact ⟨rfl, Bw3⟩

theorem l14Zero_2 (t : MT) (ao bo co : Option Addr) (ca cb cc : Nat) (w : World) (hk : t.k = 2) (ha : RI w (.slice ao t.bw.length ca) t.bw) (hb : RI w (.slice bo t.pw.length cb) t.pw) (hc : RI w (.slice co t.qw.length cc) t.qw) :
 Calls Tryz.prog 102 #[mgv t (.slice ao t.bw.length ca) (.slice bo t.pw.length cb) (.slice co t.qw.length cc)] w fun e w' => e = .returned (.bool (msamB (namP t) t)) ∧ Below w.heap.size w w' := by
 have dk1 : decide (t.k = 1) = false:=by simp; omega
 have ek1 : (t.k == 1) = false:=by simp; omega
 have dk2 : decide (t.k = 2) = true:=by simpa using hk
 have ek2 : (t.k == 2) = true:=by simpa using hk
 have SM:=hide fun w h1 h2 h3 h4 h5 h6 => specMsgSame (namP t) t .none bo .none ao bo co 0 cb 0 ca cb cc w h1 h2 h3 h4 h5 h6
 have HK:=hide hk
 clear hk
 have ha1:=hide ha
 have hb1:=hide hb
 have hc1:=hide hc
 clear ha hb hc
 obtain ⟨w0, hw0, Bw0, A, zw0⟩:=bx1 w #[.int .i64 t.k,.int .i64 t.vw,.string t.bn,.int .i64 t.bv,.string t.bs,.slice ao t.bw.length ca,.int .i64 t.pv,.string t.ps,.slice bo t.pw.length cb,.int .i64 t.qv,.string t.qs,.slice co t.qw.length cc,.int .i64 t.wh,.int .i64 t.fr,.int .i64 t.tu,.int .i64 t.am,.int .i64 t.no] 86
 go_enter Tryz.func102, Tryz.ntmps102
 have cA0:=A.cell 0 rfl
 go_upto_region 2 with fail
 clear hw0
 clear cA0
 obtain ⟨w1, hw1⟩ : ∃ y, w0.alloc (.cells #[.int .i64 t.k,.int .i64 0,.string ⟨#[]⟩,.int .i64 0,.string ⟨#[]⟩,.slice none 0 0,.int .i64 0,.string ⟨#[]⟩,.slice none 0 0,.int .i64 0,.string ⟨#[]⟩,.slice none 0 0,.int .i64 0,.int .i64 0,.int .i64 0,.int .i64 0,.int .i64 0] 86) = y:=⟨_, rfl⟩
 have bb : Below w0.heap.size w0 w1:=hw1 ▸ qalloc _ _
 have X : Loc w1 w0.heap.size #[.int .i64 t.k,.int .i64 0,.string ⟨#[]⟩,.int .i64 0,.string ⟨#[]⟩,.slice none 0 0,.int .i64 0,.string ⟨#[]⟩,.slice none 0 0,.int .i64 0,.string ⟨#[]⟩,.slice none 0 0,.int .i64 0,.int .i64 0,.int .i64 0,.int .i64 0,.int .i64 0]:=hw1 ▸ loc_at w0 _ _ rfl
 have zw1 : w0.heap.size + 1 ≤ w1.heap.size:=by rw [← hw1]; simp
 rw [hw1]
 clear hw1
 have Bw1:=bu Bw0 bb
 have sw1:=bb.size
 replace A:=A.up bb
 clear Bw0
 clear bb
 have cA0:=A.cell 0 rfl
 have cA6:=A.cell 6 rfl
 have cA7:=A.cell 7 rfl
 have cA8:=A.cell 8 rfl
 have cX6:=X.cell 6 rfl
 have cX7:=X.cell 7 rfl
 have cX8:=X.cell 8 rfl
 have fX:=X.frozen
 go_upto_region 13 with fail
 clear cA0 cA6 cA7 cA8 cX6 cX7 cX8
 clear fX
 obtain ⟨w2, hw2⟩ : ∃ w9_, (((w1.setCell ⟨w0.heap.size, 6, none⟩ (.int .i64 t.pv)).setCell ⟨w0.heap.size, 7, none⟩ (.string t.ps)).setCell ⟨w0.heap.size, 8, none⟩ (.slice bo t.pw.length cb)) = w9_:=⟨_, rfl⟩
 have kN : Kp w1 w2 (fun k => k = w0.heap.size):=hw2 ▸ ((set_kp _ _ _ _).trans (set_kp _ _ _ _)).trans (set_kp _ _ _ _)
 replace X : Loc w2 (w0.heap.size) #[.int .i64 t.k,.int .i64 0,.string ⟨#[]⟩,.int .i64 0,.string ⟨#[]⟩,.slice none 0 0,.int .i64 t.pv,.string t.ps,.slice bo t.pw.length cb,.int .i64 0,.string ⟨#[]⟩,.slice none 0 0,.int .i64 0,.int .i64 0,.int .i64 0,.int .i64 0,.int .i64 0]:=hw2 ▸ (((X.set 6 _ rfl).set 7 _ rfl).set 8 _ rfl)
 replace A:=A.kp kN (by omega)
 have Bw2:=Below.kp Bw1 kN Bw1.size (fun k hk => by omega)
 have sw2:=kN.size
 rw [hw2]
 clear hw2 kN Bw1
 have SM':=SM.out _ (RI.none _) (hb1.out.below Bw2) (RI.none _) (ha1.out.below Bw2) (hb1.out.below Bw2) (hc1.out.below Bw2)
 clear SM ha1 hb1 hc1
 have H5:=hide SM'
 clear SM'
 go_wp2_with (first | (refine wload X 86 _ rfl _ rfl rfl Tryz.underlying86 rfl (by kernel_rfl) ?_) | (refine wload A 86 _ rfl _ rfl rfl Tryz.underlying86 rfl (by kernel_rfl) ?_))
 refine H5.out.mono ?_
 rintro _ w3 ⟨rfl, bb⟩
 have Bw3:=bu Bw2 bb
 have sw3:=bb.size
 replace A:=A.up bb
 replace X:=X.up bb
 clear Bw2
 clear bb
 go_wp2
 go_ret
 exact ⟨rfl, Bw3⟩

theorem l14Zero_3 (t : MT) (ao bo co : Option Addr) (ca cb cc : Nat) (w : World) (hk : t.k = 3) (ha : RI w (.slice ao t.bw.length ca) t.bw) (hb : RI w (.slice bo t.pw.length cb) t.pw) (hc : RI w (.slice co t.qw.length cc) t.qw) :
 Calls Tryz.prog 102 #[mgv t (.slice ao t.bw.length ca) (.slice bo t.pw.length cb) (.slice co t.qw.length cc)] w fun e w' => e = .returned (.bool (msamB (namV t) t)) ∧ Below w.heap.size w w' := by
 have dk1 : decide (t.k = 1) = false:=by simp; omega
 have ek1 : (t.k == 1) = false:=by simp; omega
 have dk2 : decide (t.k = 2) = false:=by simp; omega
 have ek2 : (t.k == 2) = false:=by simp; omega
 have dk3 : decide (t.k = 3) = true:=by simpa using hk
 have ek3 : (t.k == 3) = true:=by simpa using hk
 have SM:=hide fun w h1 h2 h3 h4 h5 h6 => specMsgSame (namV t) t .none .none co ao bo co 0 0 cc ca cb cc w h1 h2 h3 h4 h5 h6
 have HK:=hide hk
 clear hk
 have ha1:=hide ha
 have hb1:=hide hb
 have hc1:=hide hc
 clear ha hb hc
 obtain ⟨w0, hw0, Bw0, A, zw0⟩:=bx1 w #[.int .i64 t.k,.int .i64 t.vw,.string t.bn,.int .i64 t.bv,.string t.bs,.slice ao t.bw.length ca,.int .i64 t.pv,.string t.ps,.slice bo t.pw.length cb,.int .i64 t.qv,.string t.qs,.slice co t.qw.length cc,.int .i64 t.wh,.int .i64 t.fr,.int .i64 t.tu,.int .i64 t.am,.int .i64 t.no] 86
 go_enter Tryz.func102, Tryz.ntmps102
 have cA0:=A.cell 0 rfl
 go_upto_region 2 with fail
 clear hw0
 clear cA0
 obtain ⟨w1, hw1⟩ : ∃ y, w0.alloc (.cells #[.int .i64 t.k,.int .i64 0,.string ⟨#[]⟩,.int .i64 0,.string ⟨#[]⟩,.slice none 0 0,.int .i64 0,.string ⟨#[]⟩,.slice none 0 0,.int .i64 0,.string ⟨#[]⟩,.slice none 0 0,.int .i64 0,.int .i64 0,.int .i64 0,.int .i64 0,.int .i64 0] 86) = y:=⟨_, rfl⟩
 have bb : Below w0.heap.size w0 w1:=hw1 ▸ qalloc _ _
 have X : Loc w1 w0.heap.size #[.int .i64 t.k,.int .i64 0,.string ⟨#[]⟩,.int .i64 0,.string ⟨#[]⟩,.slice none 0 0,.int .i64 0,.string ⟨#[]⟩,.slice none 0 0,.int .i64 0,.string ⟨#[]⟩,.slice none 0 0,.int .i64 0,.int .i64 0,.int .i64 0,.int .i64 0,.int .i64 0]:=hw1 ▸ loc_at w0 _ _ rfl
 have zw1 : w0.heap.size + 1 ≤ w1.heap.size:=by rw [← hw1]; simp
 rw [hw1]
 clear hw1
 have Bw1:=bu Bw0 bb
 have sw1:=bb.size
 replace A:=A.up bb
 clear Bw0
 clear bb
 have cA0:=A.cell 0 rfl
 have cA1:=A.cell 1 rfl
 have cX1:=X.cell 1 rfl
 have fX:=X.frozen
 go_upto_region 9 with fail
 clear cA0 cA1 cX1
 clear fX
 obtain ⟨w2, hw2⟩ : ∃ w9_, (w1.setCell ⟨w0.heap.size, 1, none⟩ (.int .i64 t.vw)) = w9_:=⟨_, rfl⟩
 have kN : Kp w1 w2 (fun k => k = w0.heap.size):=hw2 ▸ set_kp _ _ _ _
 replace X : Loc w2 (w0.heap.size) #[.int .i64 t.k,.int .i64 t.vw,.string ⟨#[]⟩,.int .i64 0,.string ⟨#[]⟩,.slice none 0 0,.int .i64 0,.string ⟨#[]⟩,.slice none 0 0,.int .i64 0,.string ⟨#[]⟩,.slice none 0 0,.int .i64 0,.int .i64 0,.int .i64 0,.int .i64 0,.int .i64 0]:=hw2 ▸ (X.set 1 _ rfl)
 replace A:=A.kp kN (by omega)
 have Bw2:=Below.kp Bw1 kN Bw1.size (fun k hk => by omega)
 have sw2:=kN.size
 rw [hw2]
 clear hw2 kN Bw1
 have cA9:=A.cell 9 rfl
 have cA10:=A.cell 10 rfl
 have cA11:=A.cell 11 rfl
 have cX9:=X.cell 9 rfl
 have cX10:=X.cell 10 rfl
 have cX11:=X.cell 11 rfl
 have fX:=X.frozen
 go_upto_region 10 with fail
 clear cA9 cA10 cA11 cX9 cX10 cX11
 clear fX
 obtain ⟨w3, hw3⟩ : ∃ w9_, (((w2.setCell ⟨w0.heap.size, 9, none⟩ (.int .i64 t.qv)).setCell ⟨w0.heap.size, 10, none⟩ (.string t.qs)).setCell ⟨w0.heap.size, 11, none⟩ (.slice co t.qw.length cc)) = w9_:=⟨_, rfl⟩
 have kN : Kp w2 w3 (fun k => k = w0.heap.size):=hw3 ▸ ((set_kp _ _ _ _).trans (set_kp _ _ _ _)).trans (set_kp _ _ _ _)
 replace X : Loc w3 (w0.heap.size) #[.int .i64 t.k,.int .i64 t.vw,.string ⟨#[]⟩,.int .i64 0,.string ⟨#[]⟩,.slice none 0 0,.int .i64 0,.string ⟨#[]⟩,.slice none 0 0,.int .i64 t.qv,.string t.qs,.slice co t.qw.length cc,.int .i64 0,.int .i64 0,.int .i64 0,.int .i64 0,.int .i64 0]:=hw3 ▸ (((X.set 9 _ rfl).set 10 _ rfl).set 11 _ rfl)
 replace A:=A.kp kN (by omega)
 have Bw3:=Below.kp Bw2 kN Bw2.size (fun k hk => by omega)
 have sw3:=kN.size
 rw [hw3]
 clear hw3 kN Bw2
 have cA12:=A.cell 12 rfl
 have cX12:=X.cell 12 rfl
 have fX:=X.frozen
 go_upto_region 13 with fail
 clear cA12 cX12
 clear fX
 obtain ⟨w4, hw4⟩ : ∃ w9_, (w3.setCell ⟨w0.heap.size, 12, none⟩ (.int .i64 t.wh)) = w9_:=⟨_, rfl⟩
 have kN : Kp w3 w4 (fun k => k = w0.heap.size):=hw4 ▸ set_kp _ _ _ _
 replace X : Loc w4 (w0.heap.size) #[.int .i64 t.k,.int .i64 t.vw,.string ⟨#[]⟩,.int .i64 0,.string ⟨#[]⟩,.slice none 0 0,.int .i64 0,.string ⟨#[]⟩,.slice none 0 0,.int .i64 t.qv,.string t.qs,.slice co t.qw.length cc,.int .i64 t.wh,.int .i64 0,.int .i64 0,.int .i64 0,.int .i64 0]:=hw4 ▸ (X.set 12 _ rfl)
 replace A:=A.kp kN (by omega)
 have Bw4:=Below.kp Bw3 kN Bw3.size (fun k hk => by omega)
 have sw4:=kN.size
 rw [hw4]
 clear hw4 kN Bw3
 have SM':=SM.out _ (RI.none _) (RI.none _) (hc1.out.below Bw4) (ha1.out.below Bw4) (hb1.out.below Bw4) (hc1.out.below Bw4)
 clear SM ha1 hb1 hc1
 have H5:=hide SM'
 clear SM'
 go_wp2_with (first | (refine wload X 86 _ rfl _ rfl rfl Tryz.underlying86 rfl (by kernel_rfl) ?_) | (refine wload A 86 _ rfl _ rfl rfl Tryz.underlying86 rfl (by kernel_rfl) ?_))
 refine H5.out.mono ?_
 rintro _ w5 ⟨rfl, bb⟩
 have Bw5:=bu Bw4 bb
 have sw5:=bb.size
 replace A:=A.up bb
 replace X:=X.up bb
 clear Bw4
 clear bb
 go_wp2
 go_ret
 exact ⟨rfl, Bw5⟩

theorem l14Zero_4 (t : MT) (ao bo co : Option Addr) (ca cb cc : Nat) (w : World) (hk : t.k = 4) (ha : RI w (.slice ao t.bw.length ca) t.bw) (hb : RI w (.slice bo t.pw.length cb) t.pw) (hc : RI w (.slice co t.qw.length cc) t.qw) :
 Calls Tryz.prog 102 #[mgv t (.slice ao t.bw.length ca) (.slice bo t.pw.length cb) (.slice co t.qw.length cc)] w fun e w' => e = .returned (.bool (msamB (namX t) t)) ∧ Below w.heap.size w w' := by
 have dk1 : decide (t.k = 1) = false:=by simp; omega
 have ek1 : (t.k == 1) = false:=by simp; omega
 have dk2 : decide (t.k = 2) = false:=by simp; omega
 have ek2 : (t.k == 2) = false:=by simp; omega
 have dk3 : decide (t.k = 3) = false:=by simp; omega
 have ek3 : (t.k == 3) = false:=by simp; omega
 have dk4 : decide (t.k = 4) = true:=by simpa using hk
 have ek4 : (t.k == 4) = true:=by simpa using hk
 have SM:=hide fun w h1 h2 h3 h4 h5 h6 => specMsgSame (namX t) t .none .none .none ao bo co 0 0 0 ca cb cc w h1 h2 h3 h4 h5 h6
 have HK:=hide hk
 clear hk
 have ha1:=hide ha
 have hb1:=hide hb
 have hc1:=hide hc
 clear ha hb hc
 obtain ⟨w0, hw0, Bw0, A, zw0⟩:=bx1 w #[.int .i64 t.k,.int .i64 t.vw,.string t.bn,.int .i64 t.bv,.string t.bs,.slice ao t.bw.length ca,.int .i64 t.pv,.string t.ps,.slice bo t.pw.length cb,.int .i64 t.qv,.string t.qs,.slice co t.qw.length cc,.int .i64 t.wh,.int .i64 t.fr,.int .i64 t.tu,.int .i64 t.am,.int .i64 t.no] 86
 go_enter Tryz.func102, Tryz.ntmps102
 have cA0:=A.cell 0 rfl
 go_upto_region 2 with fail
 clear hw0
 clear cA0
 obtain ⟨w1, hw1⟩ : ∃ y, w0.alloc (.cells #[.int .i64 t.k,.int .i64 0,.string ⟨#[]⟩,.int .i64 0,.string ⟨#[]⟩,.slice none 0 0,.int .i64 0,.string ⟨#[]⟩,.slice none 0 0,.int .i64 0,.string ⟨#[]⟩,.slice none 0 0,.int .i64 0,.int .i64 0,.int .i64 0,.int .i64 0,.int .i64 0] 86) = y:=⟨_, rfl⟩
 have bb : Below w0.heap.size w0 w1:=hw1 ▸ qalloc _ _
 have X : Loc w1 w0.heap.size #[.int .i64 t.k,.int .i64 0,.string ⟨#[]⟩,.int .i64 0,.string ⟨#[]⟩,.slice none 0 0,.int .i64 0,.string ⟨#[]⟩,.slice none 0 0,.int .i64 0,.string ⟨#[]⟩,.slice none 0 0,.int .i64 0,.int .i64 0,.int .i64 0,.int .i64 0,.int .i64 0]:=hw1 ▸ loc_at w0 _ _ rfl
 have zw1 : w0.heap.size + 1 ≤ w1.heap.size:=by rw [← hw1]; simp
 rw [hw1]
 clear hw1
 have Bw1:=bu Bw0 bb
 have sw1:=bb.size
 replace A:=A.up bb
 clear Bw0
 clear bb
 have cA0:=A.cell 0 rfl
 have cA13:=A.cell 13 rfl
 have cA14:=A.cell 14 rfl
 have cA15:=A.cell 15 rfl
 have cA16:=A.cell 16 rfl
 have cX13:=X.cell 13 rfl
 have cX14:=X.cell 14 rfl
 have cX15:=X.cell 15 rfl
 have cX16:=X.cell 16 rfl
 have fX:=X.frozen
 go_upto_region 13 with fail
 clear cA0 cA13 cA14 cA15 cA16 cX13 cX14 cX15 cX16
 clear fX
 obtain ⟨w2, hw2⟩ : ∃ w9_, ((((w1.setCell ⟨w0.heap.size, 13, none⟩ (.int .i64 t.fr)).setCell ⟨w0.heap.size, 14, none⟩ (.int .i64 t.tu)).setCell ⟨w0.heap.size, 15, none⟩ (.int .i64 t.am)).setCell ⟨w0.heap.size, 16, none⟩ (.int .i64 t.no)) = w9_:=⟨_, rfl⟩
 have kN : Kp w1 w2 (fun k => k = w0.heap.size):=hw2 ▸ (((set_kp _ _ _ _).trans (set_kp _ _ _ _)).trans (set_kp _ _ _ _)).trans (set_kp _ _ _ _)
 replace X : Loc w2 (w0.heap.size) #[.int .i64 t.k,.int .i64 0,.string ⟨#[]⟩,.int .i64 0,.string ⟨#[]⟩,.slice none 0 0,.int .i64 0,.string ⟨#[]⟩,.slice none 0 0,.int .i64 0,.string ⟨#[]⟩,.slice none 0 0,.int .i64 0,.int .i64 t.fr,.int .i64 t.tu,.int .i64 t.am,.int .i64 t.no]:=hw2 ▸ ((((X.set 13 _ rfl).set 14 _ rfl).set 15 _ rfl).set 16 _ rfl)
 replace A:=A.kp kN (by omega)
 have Bw2:=Below.kp Bw1 kN Bw1.size (fun k hk => by omega)
 have sw2:=kN.size
 rw [hw2]
 clear hw2 kN Bw1
 have SM':=SM.out _ (RI.none _) (RI.none _) (RI.none _) (ha1.out.below Bw2) (hb1.out.below Bw2) (hc1.out.below Bw2)
 clear SM ha1 hb1 hc1
 have H5:=hide SM'
 clear SM'
 go_wp2_with (first | (refine wload X 86 _ rfl _ rfl rfl Tryz.underlying86 rfl (by kernel_rfl) ?_) | (refine wload A 86 _ rfl _ rfl rfl Tryz.underlying86 rfl (by kernel_rfl) ?_))
 refine H5.out.mono ?_
 rintro _ w3 ⟨rfl, bb⟩
 have Bw3:=bu Bw2 bb
 have sw3:=bb.size
 replace A:=A.up bb
 replace X:=X.up bb
 clear Bw2
 clear bb
 go_wp2
 go_ret
 exact ⟨rfl, Bw3⟩

theorem l14Zero_0 (t : MT) (ao bo co : Option Addr) (ca cb cc : Nat) (w : World) (h1 : ¬ t.k = 1) (h2 : ¬ t.k = 2) (h3 : ¬ t.k = 3) (h4 : ¬ t.k = 4) (ha : RI w (.slice ao t.bw.length ca) t.bw) (hb : RI w (.slice bo t.pw.length cb) t.pw) (hc : RI w (.slice co t.qw.length cc) t.qw) :
 Calls Tryz.prog 102 #[mgv t (.slice ao t.bw.length ca) (.slice bo t.pw.length cb) (.slice co t.qw.length cc)] w fun e w' => e = .returned (.bool (msamB (namN t) t)) ∧ Below w.heap.size w w' := by
 have dk1 : decide (t.k = 1) = false:=by simp; omega
 have ek1 : (t.k == 1) = false:=by simp; omega
 have dk2 : decide (t.k = 2) = false:=by simp; omega
 have ek2 : (t.k == 2) = false:=by simp; omega
 have dk3 : decide (t.k = 3) = false:=by simp; omega
 have ek3 : (t.k == 3) = false:=by simp; omega
 have dk4 : decide (t.k = 4) = false:=by simp; omega
 have ek4 : (t.k == 4) = false:=by simp; omega
 have SM:=hide fun w h1 h2 h3 h4 h5 h6 => specMsgSame (namN t) t .none .none .none ao bo co 0 0 0 ca cb cc w h1 h2 h3 h4 h5 h6
 have HK:=hide True.intro
 have ha1:=hide ha
 have hb1:=hide hb
 have hc1:=hide hc
 clear ha hb hc
 obtain ⟨w0, hw0, Bw0, A, zw0⟩:=bx1 w #[.int .i64 t.k,.int .i64 t.vw,.string t.bn,.int .i64 t.bv,.string t.bs,.slice ao t.bw.length ca,.int .i64 t.pv,.string t.ps,.slice bo t.pw.length cb,.int .i64 t.qv,.string t.qs,.slice co t.qw.length cc,.int .i64 t.wh,.int .i64 t.fr,.int .i64 t.tu,.int .i64 t.am,.int .i64 t.no] 86
 go_enter Tryz.func102, Tryz.ntmps102
 have cA0:=A.cell 0 rfl
 go_upto_region 2 with fail
 clear hw0
 clear cA0
 obtain ⟨w1, hw1⟩ : ∃ y, w0.alloc (.cells #[.int .i64 t.k,.int .i64 0,.string ⟨#[]⟩,.int .i64 0,.string ⟨#[]⟩,.slice none 0 0,.int .i64 0,.string ⟨#[]⟩,.slice none 0 0,.int .i64 0,.string ⟨#[]⟩,.slice none 0 0,.int .i64 0,.int .i64 0,.int .i64 0,.int .i64 0,.int .i64 0] 86) = y:=⟨_, rfl⟩
 have bb : Below w0.heap.size w0 w1:=hw1 ▸ qalloc _ _
 have X : Loc w1 w0.heap.size #[.int .i64 t.k,.int .i64 0,.string ⟨#[]⟩,.int .i64 0,.string ⟨#[]⟩,.slice none 0 0,.int .i64 0,.string ⟨#[]⟩,.slice none 0 0,.int .i64 0,.string ⟨#[]⟩,.slice none 0 0,.int .i64 0,.int .i64 0,.int .i64 0,.int .i64 0,.int .i64 0]:=hw1 ▸ loc_at w0 _ _ rfl
 have zw1 : w0.heap.size + 1 ≤ w1.heap.size:=by rw [← hw1]; simp
 rw [hw1]
 clear hw1
 have Bw1:=bu Bw0 bb
 have sw1:=bb.size
 replace A:=A.up bb
 clear Bw0
 clear bb
 have SM':=SM.out _ (RI.none _) (RI.none _) (RI.none _) (ha1.out.below Bw1) (hb1.out.below Bw1) (hc1.out.below Bw1)
 clear SM ha1 hb1 hc1
 have H5:=hide SM'
 clear SM'
 have cA0:=A.cell 0 rfl
 go_wp2_with (first | (refine wload X 86 _ rfl _ rfl rfl Tryz.underlying86 rfl (by kernel_rfl) ?_) | (refine wload A 86 _ rfl _ rfl rfl Tryz.underlying86 rfl (by kernel_rfl) ?_))
 refine H5.out.mono ?_
 rintro _ w2 ⟨rfl, bb⟩
 clear cA0
 have Bw2:=bu Bw1 bb
 have sw2:=bb.size
 replace A:=A.up bb
 replace X:=X.up bb
 clear Bw1
 clear bb
 go_wp2
 go_ret
 exact ⟨rfl, Bw2⟩

theorem l14Zero_any (t : MT) (ao bo co : Option Addr) (ca cb cc : Nat) (w : World) (ha : RI w (.slice ao t.bw.length ca) t.bw) (hb : RI w (.slice bo t.pw.length cb) t.pw) (hc : RI w (.slice co t.qw.length cc) t.qw) :
 Calls Tryz.prog 102 #[mgv t (.slice ao t.bw.length ca) (.slice bo t.pw.length cb) (.slice co t.qw.length cc)] w fun e w' => e = .returned (.bool (zerB t)) ∧ Below w.heap.size w w' := by
 unfold zerB
 rcases kinds t.k with h | h | h | h | ⟨h1, h2, h3, h4⟩
 ·rw [nam1 h]; exact l14Zero_1 t ao bo co ca cb cc w h ha hb hc
 ·rw [nam2 h]; exact l14Zero_2 t ao bo co ca cb cc w h ha hb hc
 ·rw [nam3 h]; exact l14Zero_3 t ao bo co ca cb cc w h ha hb hc
 ·rw [nam4 h]; exact l14Zero_4 t ao bo co ca cb cc w h ha hb hc
 ·rw [nam0 h1 h2 h3 h4]; exact l14Zero_0 t ao bo co ca cb cc w h1 h2 h3 h4 ha hb hc
end Go.Proofs.YtndpjhiidmdlhaaGreatDoor
