/- Lemmas; their conditions stand in each statement. -/
import Derived.Test.YtmpffkpilbbclaaGreatDoorSABH
set_option maxRecDepth 100000
set_option maxHeartbeats 16000000
set_option linter.unusedSectionVars false
namespace Go.Proofs.YtmpffkpilbbclaaGreatDoor
section
open Go.RowKit
variable [∀ (m a b c d : Int), Decidable (In4 m a b c d)]
variable [∀ (xs ys : List Int), Decidable (LOk xs ys)]
variable [∀ (a b c d : Int), Decidable (Ok4 a b c d)]
theorem paid_any (a b c d : Int) (xs ys : List Int) (w : World) (hl : LOk xs ys) :
 Calls Tryz.prog 95 #[txv a b c d,.agg (b8L xs ys)] w fun o w' => o = .returned (.tuple #[.agg (b8L (paidB xs ys a b c d).1 (paidB xs ys a b c d).2.1),.int .i64 (paidB xs ys a b c d).2.2]) ∧ Below w.heap.size w w' := by
 have hx:=hl.1
 have hy:=hl.2.1
 by_cases ho : Ok4 a b c d
 ·obtain ⟨A, rfl⟩ : ∃ A : Nat, a = A:=⟨a.toNat, by unfold Ok4 at ho; omega⟩
  obtain ⟨B, rfl⟩ : ∃ B : Nat, b = B:=⟨b.toNat, by unfold Ok4 at ho; omega⟩
  have hA : A < 4:=by unfold Ok4 at ho; omega
  have hB : B < 4:=by unfold Ok4 at ho; omega
  have hc : 0 ≤ c ∧ c ≤ 1000:=by unfold Ok4 at ho; omega
  unfold paidB
  rw [if_neg (by simpa using ho), Int.toNat_natCast, Int.toNat_natCast]
  by_cases h1 : d < ys.getD A 0
  ·rw [if_pos h1]; exact paid_old A B c d xs ys w hA ho h1
  rw [if_neg h1]
  by_cases h2 : ys.getD A 0 < d
  ·rw [if_pos h2]; exact paid_early A B c d xs ys w hA ho h2
  rw [if_neg h2]
  have hn : ys.getD A 0 = d:=by omega
  by_cases h3 : xs.getD A 0 < c
  ·rw [if_pos h3]; exact paid_poor A B c d xs ys w hA hy ho hn h3
  rw [if_neg h3]
  have hmA:=(hl.2.2 A hA).1
  have hmB:=(hl.2.2 B hB).1
  have hr : 0 ≤ (xs.set A (xs.getD A 0 - c)).getD B 0 ∧ (xs.set A (xs.getD A 0 - c)).getD B 0 ≤ 400:=by
   rw [getD_set (by omega)]; split <;> omega
  by_cases h4 : LOk ((xs.set A (xs.getD A 0 - c)).set B ((xs.set A (xs.getD A 0 - c)).getD B 0 + c)) (ys.set A (d + 1))
  ·rw [if_pos h4]; exact paid_done A B c d xs ys w hA hB hx hy ho hn (by omega) (by omega) hr (decide_eq_true h4)
  rw [if_neg h4]; exact paid_over A B c d xs ys w hA hB hx hy ho hn (by omega) (by omega) hr (decide_eq_false h4)
 unfold paidB
 rw [if_pos (by simpa using ho)]
 exact paid_bad a b c d xs ys w ho
end
section
open Go.RowKit
variable [∀ (a b c d : Int), Decidable (Ok4 a b c d)]
variable [∀ (m a b c d : Int), Decidable (In4 m a b c d)]
variable [∀ (xs ys : List Int), Decidable (LOk xs ys)]
def payStep (p : List Int × List Int × List Int) (t : T4) : List Int × List Int × List Int :=
 ((paidB p.1 p.2.1 t.1 t.2.1 t.2.2.1 t.2.2.2).1, (paidB p.1 p.2.1 t.1 t.2.1 t.2.2.1 t.2.2.2).2.1, p.2.2 ++ [(paidB p.1 p.2.1 t.1 t.2.1 t.2.2.1 t.2.2.2).2.2])
def payRun (xs ys : List Int) (ts : List T4) : List Int × List Int × List Int := ts.foldl payStep (xs, ys, [])
theorem payRun_succ (xs ys : List Int) (ts : List T4) (k : Nat) (h : k < ts.length) : payRun xs ys (ts.take (k + 1)) = payStep (payRun xs ys (ts.take k)) (ts.getD k (0, 0, 0, 0)) := by
 unfold payRun
 rw [List.take_succ_eq_append_getElem h, List.getD_eq_getElem?_getD, List.getElem?_eq_getElem h, List.foldl_append]
 rfl
theorem payRun_inv (xs ys : List Int) (ts : List T4) (hl : LOk xs ys) (k : Nat) (h : k ≤ ts.length) : LOk (payRun xs ys (ts.take k)).1 (payRun xs ys (ts.take k)).2.1 ∧ (payRun xs ys (ts.take k)).2.2.length = k := by
 induction k with
 | zero => simp [payRun, hl]
 | succ k ih =>
  obtain ⟨h1, h2⟩:=ih (by omega)
  rw [payRun_succ xs ys ts k (by omega)]
  exact ⟨paidB_ok h1, by simp [payStep, h2]⟩
def eachAns (xs ys : List Int) (ts : List T4) : List Int × List Int × List Int := if LOk xs ys then payRun xs ys ts else (xs, ys, List.replicate ts.length 1)

abbrev pfun (t : T4) : Value := .func (.func 95) #[txv t.1 t.2.1 t.2.2.1 t.2.2.2] #[]
def RP (w : World) (v : Value) (ts : List T4) : Prop :=
 ts.length ≤ 4194304 ∧ ∃ ao cap, v = .slice ao ts.length cap ∧ (ts = [] ∨ ∃ b off, ao = some ⟨b, off, none⟩ ∧ ∀ k, k < ts.length → w.cell? ⟨b, off + k, none⟩ = some (pfun (ts.getD k (0, 0, 0, 0))))
theorem RP.below {w w' : World} {B : Nat} {v : Value} {ts : List T4} (h : RP w v ts) (hb : Below B w w') (hB : w.heap.size ≤ B := by exact Nat.le_refl _) : RP w' v ts := by
 obtain ⟨hl, ao, cap, rfl, h⟩:=h
 refine ⟨hl, ao, cap, rfl, ?_⟩
 rcases h with h | ⟨b, off, rfl, h⟩
 ·exact .inl h
 refine .inr ⟨b, off, rfl, fun k hk => ?_⟩
 have:=h k hk
 exact (hb.cell (Nat.lt_of_lt_of_le (cell_lt this) hB)).trans this
def chalf (cs : List Int) (n : Nat) : List Value := (cs ++ List.replicate (n - cs.length) 0).map (Value.int .i64)
theorem chalf_len (cs : List Int) (n : Nat) (h : cs.length ≤ n) : (chalf cs n).length = n := by simp [chalf]; omega
theorem chalf_zero (n : Nat) : chalf [] n = List.replicate n (.int .i64 0) := by simp [chalf]
theorem chalf_all (cs : List Int) : chalf cs cs.length = cs.map (Value.int .i64) := by simp [chalf]
theorem chalf_set (cs : List Int) (n k : Nat) (c : Int) (hk : cs.length = k) (h : k < n) : (chalf cs n).set k (.int .i64 c) = chalf (cs ++ [c]) n := by
 unfold chalf
 have e : n - cs.length = (n - (cs ++ [c]).length) + 1:=by simp; omega
 rw [e, List.replicate_succ, List.map_append, List.map_append, List.map_append, List.set_append_right _ _ (by simp; omega), List.length_map, hk, Nat.sub_self]
 simp
def EachEnd (w : World) (r : List Int × List Int × List Int) (o : Ending) (w' : World) : Prop :=
 ∃ u v cs mid, o = .returned (.tuple #[lv u v, cs]) ∧ OI w' w.heap.size cs r.2.2 ∧ (∀ k, cs.ownBlock = some k → k < mid) ∧ w.heap.size ≤ mid ∧ OL w' mid w'.heap.size u v r.1 r.2.1 ∧ Below w.heap.size w w'

theorem bookC_ok {xs ys : List Int} (h : LOk xs ys) : bookC xs ys = b8L xs ys := by unfold bookC; rw [if_pos ⟨h.1, h.2.1⟩]

theorem payEach_ok (u v p : Value) (xs ys : List Int) (ts : List T4) (w : World) (hu : RI w u xs ∧ RI w v ys) (hp : RP w p ts) (hl : LOk xs ys) :
 Calls Tryz.prog 96 #[lv u v, p] w (EachEnd w (payRun xs ys ts)) := by
 obtain ⟨i0, hi, hz0, hz1, hz2⟩:=info_parts Tryz.info3
 have BO:=hide fun w h1 h2 => bookOf_any u v xs ys w h1 h2
 rw [bookC_ok hl, decide_eq_true hl] at BO
 have RU:=hide hu
 have HP:=hide hp
 obtain ⟨ua, uc, rfl⟩ : ∃ ua uc, u = .slice ua xs.length uc:=by obtain ⟨_, ua, uc, h, _⟩:=hu.1; exact ⟨ua, uc, h⟩
 obtain ⟨va, vc, rfl⟩ : ∃ va vc, v = .slice va ys.length vc:=by obtain ⟨_, va, vc, h, _⟩:=hu.2; exact ⟨va, vc, h⟩
 obtain ⟨hpl, pa, pc, rfl, hpc⟩:=hp
 have HPC:=hide hpc
 obtain ⟨n, hn⟩ : ∃ n, ts.length = n:=⟨_, rfl⟩
 have Hn:=hide hn
 rw [hn] at hpl ⊢
 clear hu hpc hn
 obtain ⟨w0, hw0⟩ : ∃ w0, (w.alloc (.cells #[.slice ua xs.length uc,.slice va ys.length vc] 60)).alloc (.cells #[.slice none 0 0,.slice none 0 0] 60) = w0:=⟨_, rfl⟩
 have B0 : Below w.heap.size w w0:=hw0 ▸ ((Below.refl w.heap.size w).alloc (Nat.le_refl _) _).alloc (by simp) _
 have L0 : Loc w0 w.heap.size #[.slice ua xs.length uc,.slice va ys.length vc]:=hw0 ▸ (loc_at w _ _ rfl).alloc _
 have R0 : Loc w0 (w.heap.size + 1) #[.slice none 0 0,.slice none 0 0]:=hw0 ▸ loc_at _ _ _ (by simp)
 have s0 : w0.heap.size = w.heap.size + 2:=by rw [← hw0]; simp
 go_enter Tryz.func96, Tryz.ntmps96
 go_wp2_with (first
  | (at_make; refine wpList_make_full _ rfl _ _ 24 rfl (w.heap.size + 2) 3 i0 (.int .i64 0) 1 Tryz.underlying24 hi hz0 hz1 .i64 .i64 n n n rfl rfl rfl rfl (by rw [hz2]; omega) (by unfold maxLen; omega) (by omega) ?_; intro w1 ho1 hg1
     have k1:=kp_grown hg1
     have L1:=L0.kp k1 (by simp)
     have R1:=R0.kp k1 (by simp)
     have B1:=Below.kp B0 k1 B0.size (by simp)
     have x0:=L1.cell 0 rfl
     have x1:=L1.cell 1 rfl
     have s1:=hg1.size
     rw [s0] at ho1
     clear k1 hg1 L0 R0 B0 hw0))
 have ho1 : w1.ownsRow (w.heap.size + 2) 3 1 (.slice (some ⟨w.heap.size + 2, 0, none⟩) n n) n (chalf [] n):=by
  have e : (madeCells (Value.int IntKind.i64 0).cells (n * 1)).toList = chalf [] n:=by
   rw [chalf_zero, Nat.mul_one]; exact toList_madeCells_one _ _
  rw [← e]; exact ho1
 have lc:=(World.ownsRow.lt ho1 (w.heap.size + 2) rfl).2
 refine (BO.out _ (RU.out.1.below B1) (RU.out.2.below B1)).mono ?_
 rintro _ w2 ⟨rfl, b2⟩
 have s2:=b2.size
 have B2:=bu B1 b2
 have R2:=R1.up b2
 have ho2 : w2.ownsRow (w.heap.size + 2) 3 1 (.slice (some ⟨w.heap.size + 2, 0, none⟩) n n) n (chalf [] n):=World.ownsRow.kept (row:=none) ho1 ⟨b2.os, b2.tape, b2.output, b2.size, fun k hk _ => b2.block k hk⟩ (by simp [Value.ownBlock])
 clear BO RU L1 R1 B1 x0 x1 ho1 b2
 obtain ⟨x0, x1, x2, x3, y0, y1, y2, y3, hb⟩ : ∃ x0 x1 x2 x3 y0 y1 y2 y3 : Int, b8L xs ys = b8 x0 x1 x2 x3 y0 y1 y2 y3:=⟨_, _, _, _, _, _, _, _, rfl⟩
 rw [hb]
 have B3:=B2.alloc B2.size (.cells (b8 x0 x1 x2 x3 y0 y1 y2 y3) 149)
 have R3:=R2.alloc (.cells (b8 x0 x1 x2 x3 y0 y1 y2 y3) 149)
 have ho3:=ho2.alloc (.cells (b8 x0 x1 x2 x3 y0 y1 y2 y3) 149)
 have K3 : Loc (w2.alloc (.cells (b8 x0 x1 x2 x3 y0 y1 y2 y3) 149)) w2.heap.size (b8L xs ys):=by rw [hb]; exact loc_at w2 _ _ rfl
 generalize hw3 : w2.alloc (.cells (b8 x0 x1 x2 x3 y0 y1 y2 y3) 149) = w3 at *
 clear hb B2 R2 ho2
 go_wp2
 clear hw3
 go_loopw [41] (fun i wr => ∃ k : Nat, k ≤ n ∧ i = .int .i64 k ∧ Loc wr w2.heap.size (b8L (payRun xs ys (ts.take k)).1 (payRun xs ys (ts.take k)).2.1) ∧ wr.ownsRow (w.heap.size + 2) 3 1 (.slice (some ⟨w.heap.size + 2, 0, none⟩) n n) n (chalf (payRun xs ys (ts.take k)).2.2 n) ∧ Loc wr (w.heap.size + 1) #[.slice none 0 0,.slice none 0 0] ∧ Below w.heap.size w wr) (fun i _ => n - (intOf i).toNat)
 case atStart => exact ⟨0, Nat.zero_le _, rfl, K3, ho3, R3, B3⟩
 case round =>
  clear K3 ho3 R3 B3
  obtain ⟨k, hk, rfl, K, ho, R, B⟩:=hrel
  have INV:=payRun_inv xs ys ts hl k (by rw [Hn.out]; exact hk)
  have lk:=K.lt
  by_cases hlt : k < n
  ·have SUC:=hide (payRun_succ xs ys ts k (by rw [Hn.out]; exact hlt))
   obtain ⟨g, off, rfl, hc⟩ : ∃ g off, pa = some ⟨g, off, none⟩ ∧ wr.cell? ⟨g, off + k, none⟩ = some (pfun (ts.getD k (0, 0, 0, 0))):=by
    rcases HPC.out with h | ⟨g, off, h1, h2⟩
    ·have:=Hn.out; rw [h] at this; simp at this; omega
    have h3:=h2 k (by rw [Hn.out]; exact hlt)
    exact ⟨g, off, h1, (B.cell (cell_lt h3)).trans h3⟩
   obtain ⟨t, ht⟩ : ∃ t, ts.getD k (0, 0, 0, 0) = t:=⟨_, rfl⟩
   rw [ht] at SUC hc
   obtain ⟨a, b, c, d⟩:=t
   obtain ⟨r, hr⟩ : ∃ r, payRun xs ys (ts.take k) = r:=⟨_, rfl⟩
   rw [hr] at SUC K ho INV
   have PA:=hide fun w => paid_any a b c d r.1 r.2.1 w INV.1
   have HSET:=hide fun c => chalf_set r.2.2 n k c INV.2 hlt
   have CLEN:=chalf_len r.2.2 n (by omega)
   unfold payStep at SUC
   simp only at SUC
   clear ht hr INV
   obtain ⟨x0, x1, x2, x3, y0, y1, y2, y3, hb⟩ : ∃ x0 x1 x2 x3 y0 y1 y2 y3 : Int, b8L r.1 r.2.1 = b8 x0 x1 x2 x3 y0 y1 y2 y3:=⟨_, _, _, _, _, _, _, _, rfl⟩
   obtain ⟨z0, z1, z2, z3, v0, v1, v2, v3, hb2⟩ : ∃ x0 x1 x2 x3 y0 y1 y2 y3 : Int, b8L (paidB r.1 r.2.1 a b c d).1 (paidB r.1 r.2.1 a b c d).2.1 = b8 x0 x1 x2 x3 y0 y1 y2 y3:=⟨_, _, _, _, _, _, _, _, rfl⟩
   rw [hb, hb2] at PA
   rw [hb] at K
   obtain ⟨cd, hcd⟩ : ∃ cd, (paidB r.1 r.2.1 a b c d).2.2 = cd:=⟨_, rfl⟩
   rw [hcd] at SUC PA
   obtain ⟨⟨p0, p1, p2, p3⟩, ⟨p4, p5, p6, p7⟩⟩:=K.c8
   have SUC:=hide (hide SUC)
   have hb2:=hide hb2
   clear hb hcd
   have ho:=hide ho
   go_wp2_with fail
   refine (PA.out _).mono ?_
   rintro _ w4 ⟨rfl, b4⟩
   have K4:=K.up b4
   have R4:=R.up b4
   have B4:=bu B b4
   have ho4 : w4.ownsRow (w.heap.size + 2) 3 1 (.slice (some ⟨w.heap.size + 2, 0, none⟩) n n) n (chalf r.2.2 n):=World.ownsRow.kept (row:=none) ho.out ⟨b4.os, b4.tape, b4.output, b4.size, fun k hk _ => b4.block k hk⟩ (by simp [Value.ownBlock])
   clear p0 p1 p2 p3 p4 p5 p6 p7 PA K R B ho b4 hc
   obtain ⟨⟨p0, p1, p2, p3⟩, ⟨p4, p5, p6, p7⟩⟩:=K4.c8
   have FK:=K4.frozen
   have K5 : Loc (put8 w4 w2.heap.size z0 z1 z2 z3 v0 v1 v2 v3) w2.heap.size (b8 z0 z1 z2 z3 v0 v1 v2 v3):=K4.put8
   have R5:=R4.put8_other (G:=w2.heap.size) (by omega) z0 z1 z2 z3 v0 v1 v2 v3
   have B5:=put8_below (G:=w2.heap.size) B4 (by omega) z0 z1 z2 z3 v0 v1 v2 v3
   have g5:=put8_kp w4 w2.heap.size z0 z1 z2 z3 v0 v1 v2 v3
   have ho5 : (put8 w4 w2.heap.size z0 z1 z2 z3 v0 v1 v2 v3).ownsRow (w.heap.size + 2) 3 1 (.slice (some ⟨w.heap.size + 2, 0, none⟩) n n) n (chalf r.2.2 n):=World.ownsRow.kept (row:=some w2.heap.size) ho4 ⟨g5.os, g5.tape, g5.output, g5.size, fun k hk hn => g5.block k hk (fun e => hn (by rw [e]))⟩ (by right; simp [Value.ownBlock]; omega)
   generalize hw5 : put8 w4 w2.heap.size z0 z1 z2 z3 v0 v1 v2 v3 = w5 at *
   unfold put8 at hw5
   clear g5 ho4 R4 B4 K4
   obtain ⟨e5, he5⟩ : ∃ e5, w5.cell? ⟨w.heap.size + 2, k, none⟩ = some e5:=⟨_, (ho5.cellAt k (by omega)).trans (List.getElem?_eq_getElem (by rw [CLEN]; exact hlt))⟩
   have F5:=ho5.frozenAt k
   have HS5 : Hid ((w5.setCell ⟨w.heap.size + 2, k, none⟩ (.int .i64 cd)).ownsRow (w.heap.size + 2) 3 1 (.slice (some ⟨w.heap.size + 2, 0, none⟩) n n) n (chalf (r.2.2 ++ [cd]) n)):=by
    rw [← HSET.out cd]; exact (ho5.stored k _).1
   clear ho5
   go_wp2
   go_roundw
   case rel =>
    refine ⟨k + 1, by omega, by go_num, ?_, ?_, R5.other (by simp) _, Below.set B5 _ _ (by omega)⟩
    ·rw [SUC.out.out]
     simp only
     rw [hb2.out]
     exact K5.other (by simp; omega) _
    rw [SUC.out.out]
    exact HS5.out
   case measure => simp [intOf]; omega
  have hkn : k = n:=by omega
  have e1 : ts.take k = ts:=List.take_of_length_le (by rw [Hn.out]; omega)
  rw [e1] at K ho INV
  obtain ⟨r, hr⟩ : ∃ r, payRun xs ys ts = r:=⟨_, rfl⟩
  rw [hr] at K ho INV
  obtain ⟨x0, x1, x2, x3, y0, y1, y2, y3, e2, e3⟩ : ∃ x0 x1 x2 x3 y0 y1 y2 y3 : Int, r.1 = [x0, x1, x2, x3] ∧ r.2.1 = [y0, y1, y2, y3]:=by
   obtain ⟨a, b, c, d, h1⟩:=four_of INV.1.1
   obtain ⟨e, f, g, h, h2⟩:=four_of INV.1.2.1
   exact ⟨a, b, c, d, e, f, g, h, h1, h2⟩
  have ho6 : OI wr (w.heap.size + 2) (.slice (some ⟨w.heap.size + 2, 0, none⟩) n n) r.2.2:=by
   unfold OI
   rw [← chalf_all r.2.2, INV.2, hkn]; exact ho
  rw [e2, e3] at K
  have K : Loc wr w2.heap.size (b8 x0 x1 x2 x3 y0 y1 y2 y3):=K
  obtain ⟨⟨p0, p1, p2, p3⟩, ⟨p4, p5, p6, p7⟩⟩:=K.c8
  have ho6:=hide ho6
  subst hkn
  clear ho e1
  go_wp2_with fail
  refine (ledger_any x0 x1 x2 x3 y0 y1 y2 y3 _).mono ?_
  rintro _ w6 ⟨ul, vl, rfl, ol, b6⟩
  have R6:=R.up b6
  have B6:=bu B b6
  have s6:=b6.size
  have ho7:=hide (ho6.out.below b6)
  obtain ⟨la, lc1, rfl⟩:=ol.has.form
  obtain ⟨ma, mc, rfl⟩:=ol.next.form
  have q0:=R6.cell 0 rfl
  have q1:=R6.cell 1 rfl
  have FR:=R6.frozen
  have ol:=hide ol
  clear p0 p1 p2 p3 p4 p5 p6 p7 R B b6 ho6 K
  go_wp2
  refine bodyPost_ret (v := .tuple #[lv (.slice la [x0, x1, x2, x3].length lc1) (.slice ma [y0, y1, y2, y3].length mc),.slice (some ⟨w.heap.size + 2, 0, none⟩) k k]) (by simp [results, Tryz.results96, go_sem, q0, q1]) rfl ?_
  have K7 : Kp w6 ((w6.setCell ⟨w.heap.size + 1, 0, none⟩ (.slice la [x0, x1, x2, x3].length lc1)).setCell ⟨w.heap.size + 1, 1, none⟩ (.slice ma [y0, y1, y2, y3].length mc)) (fun k => k = w.heap.size + 1):=(set_kp w6 _ 0 _).trans (set_kp _ _ 1 _)
  refine ⟨_, _, _, wr.heap.size, rfl, ?_, ?_, by omega, ?_, ?_⟩
  ·rw [hr]; exact (ho7.out.kp K7 (fun j hj => by simp [Value.ownBlock] at hj; omega)).mono (by omega)
  ·intro j hj; simp [Value.ownBlock] at hj; omega
  ·rw [hr, e2, e3]
   exact (ol.out.kp K7 (fun j h1 _ e => by omega)).mono (Nat.le_refl _) (by simp)
  exact Below.set (Below.set B6 _ _ (by omega)) _ _ (by omega)
theorem payEach_bad (u v p : Value) (xs ys : List Int) (ts : List T4) (w : World) (hu : RI w u xs ∧ RI w v ys) (hp : RP w p ts) (hl : ¬ LOk xs ys) :
 Calls Tryz.prog 96 #[lv u v, p] w (EachEnd w (xs, ys, List.replicate ts.length 1)) := by
 obtain ⟨i0, hi, hz0, hz1, hz2⟩:=info_parts Tryz.info3
 have BO:=hide fun w h1 h2 => bookOf_any u v xs ys w h1 h2
 obtain ⟨k0, k1, k2, k3, k4, k5, k6, k7, hb⟩:=bookC_form xs ys
 rw [hb, decide_eq_false hl] at BO
 clear hb
 have RU:=hide hu
 obtain ⟨ua, uc, rfl⟩ : ∃ ua uc, u = .slice ua xs.length uc:=by obtain ⟨_, ua, uc, h, _⟩:=hu.1; exact ⟨ua, uc, h⟩
 obtain ⟨va, vc, rfl⟩ : ∃ va vc, v = .slice va ys.length vc:=by obtain ⟨_, va, vc, h, _⟩:=hu.2; exact ⟨va, vc, h⟩
 obtain ⟨hpl, pa, pc, rfl, hpc⟩:=hp
 obtain ⟨n, hn⟩ : ∃ n, ts.length = n:=⟨_, rfl⟩
 have Hn:=hide hn
 rw [hn] at hpl ⊢
 clear hu hpc hn
 obtain ⟨w0, hw0⟩ : ∃ w0, (w.alloc (.cells #[.slice ua xs.length uc,.slice va ys.length vc] 60)).alloc (.cells #[.slice none 0 0,.slice none 0 0] 60) = w0:=⟨_, rfl⟩
 have B0 : Below w.heap.size w w0:=hw0 ▸ ((Below.refl w.heap.size w).alloc (Nat.le_refl _) _).alloc (by simp) _
 have L0 : Loc w0 w.heap.size #[.slice ua xs.length uc,.slice va ys.length vc]:=hw0 ▸ (loc_at w _ _ rfl).alloc _
 have R0 : Loc w0 (w.heap.size + 1) #[.slice none 0 0,.slice none 0 0]:=hw0 ▸ loc_at _ _ _ (by simp)
 have s0 : w0.heap.size = w.heap.size + 2:=by rw [← hw0]; simp
 go_enter Tryz.func96, Tryz.ntmps96
 go_wp2_with (first
  | (at_make; refine wpList_make_full _ rfl _ _ 24 rfl (w.heap.size + 2) 3 i0 (.int .i64 0) 1 Tryz.underlying24 hi hz0 hz1 .i64 .i64 n n n rfl rfl rfl rfl (by rw [hz2]; omega) (by unfold maxLen; omega) (by omega) ?_; intro w1 ho1 hg1
     have k1:=kp_grown hg1
     have L1:=L0.kp k1 (by simp)
     have R1:=R0.kp k1 (by simp)
     have B1:=Below.kp B0 k1 B0.size (by simp)
     have x0:=L1.cell 0 rfl
     have x1:=L1.cell 1 rfl
     have s1:=hg1.size
     rw [s0] at ho1
     clear k1 hg1 L0 R0 B0 hw0))
 have ho1 : w1.ownsRow (w.heap.size + 2) 3 1 (.slice (some ⟨w.heap.size + 2, 0, none⟩) n n) n (chalf [] n):=by
  have e : (madeCells (Value.int IntKind.i64 0).cells (n * 1)).toList = chalf [] n:=by
   rw [chalf_zero, Nat.mul_one]; exact toList_madeCells_one _ _
  rw [← e]; exact ho1
 have lc:=(World.ownsRow.lt ho1 (w.heap.size + 2) rfl).2
 refine (BO.out _ (RU.out.1.below B1) (RU.out.2.below B1)).mono ?_
 rintro _ w2 ⟨rfl, b2⟩
 have s2:=b2.size
 have B2:=bu B1 b2
 have R2:=R1.up b2
 have ho2 : w2.ownsRow (w.heap.size + 2) 3 1 (.slice (some ⟨w.heap.size + 2, 0, none⟩) n n) n (chalf [] n):=World.ownsRow.kept (row:=none) ho1 ⟨b2.os, b2.tape, b2.output, b2.size, fun k hk _ => b2.block k hk⟩ (by simp [Value.ownBlock])
 have L2:=L1.up b2
 clear BO L1 R1 B1 x0 x1 ho1 b2
 have B3:=B2.alloc B2.size (.cells (b8 k0 k1 k2 k3 k4 k5 k6 k7) 149)
 have R3:=R2.alloc (.cells (b8 k0 k1 k2 k3 k4 k5 k6 k7) 149)
 have L3:=L2.alloc (.cells (b8 k0 k1 k2 k3 k4 k5 k6 k7) 149)
 have ho3:=ho2.alloc (.cells (b8 k0 k1 k2 k3 k4 k5 k6 k7) 149)
 generalize hw3 : w2.alloc (.cells (b8 k0 k1 k2 k3 k4 k5 k6 k7) 149) = w3 at *
 clear B2 R2 ho2 L2
 go_wp2
 clear hw3
 go_loopw [24] (fun i wr => ∃ k : Nat, k ≤ n ∧ i = .int .i64 k ∧ wr.ownsRow (w.heap.size + 2) 3 1 (.slice (some ⟨w.heap.size + 2, 0, none⟩) n n) n (chalf (List.replicate k 1) n) ∧ Loc wr w.heap.size #[.slice ua xs.length uc,.slice va ys.length vc] ∧ Loc wr (w.heap.size + 1) #[.slice none 0 0,.slice none 0 0] ∧ Below w.heap.size w wr) (fun i _ => n - (intOf i).toNat)
 case atStart => exact ⟨0, Nat.zero_le _, rfl, ho3, L3, R3, B3⟩
 case round =>
  clear ho3 L3 R3 B3
  obtain ⟨k, hk, rfl, ho, L, R, B⟩:=hrel
  by_cases hlt : k < n
  ·obtain ⟨e5, he5⟩ : ∃ e5, wr.cell? ⟨w.heap.size + 2, k, none⟩ = some e5:=⟨_, (ho.cellAt k (by omega)).trans (List.getElem?_eq_getElem (by rw [chalf_len _ _ (by simp; omega)]; exact hlt))⟩
   have F5:=ho.frozenAt k
   have HS5 : Hid ((wr.setCell ⟨w.heap.size + 2, k, none⟩ (.int .i64 1)).ownsRow (w.heap.size + 2) 3 1 (.slice (some ⟨w.heap.size + 2, 0, none⟩) n n) n (chalf (List.replicate (k + 1) 1) n)):=by
    rw [List.replicate_succ', ← chalf_set _ n k 1 (by simp) hlt]; exact (ho.stored k _).1
   clear ho
   go_wp2
   go_roundw
   case rel => exact ⟨k + 1, by omega, by go_num, HS5.out, L.other (by simp) _, R.other (by simp) _, Below.set B _ _ (by omega)⟩
   case measure => simp [intOf]; omega
  have hkn : k = n:=by omega
  have ho6 : OI wr (w.heap.size + 2) (.slice (some ⟨w.heap.size + 2, 0, none⟩) n n) (List.replicate n 1):=by
   have e:=chalf_all (List.replicate n (1 : Int))
   rw [List.length_replicate] at e
   unfold OI
   rw [List.length_replicate, ← e, ← hkn]; rw [← hkn] at ho; exact ho
  have ho6:=hide ho6
  have lc2:=World.ownsRow.lt ho6.out (w.heap.size + 2) rfl
  subst hkn
  clear ho
  go_wp2_with fail
  refine wp_region_noPanic ?_
  refine wp_region_held_drew (S := (fun w' => w'.cell? ⟨w.heap.size, 0, none⟩ = some (.slice ua xs.length uc) ∧ w'.cell? ⟨w.heap.size, 1, none⟩ = some (.slice va ys.length vc))) (by kernel_rfl) ⟨L.cell 0 rfl, L.cell 1 rfl⟩ (fun hHeld => ?_)
  refine tx 0 31 ?_
  refine tx 1 32 ?_
  refine tx 3 34 ?_
  refine tx 4 35 ?_
  refine tx 7 38 ?_
  refine rd 2 rfl (fun KK hKK => ?_)
  go_simp
  refine (copyInts_any _ xs _ (RU.out.1.below (Below.drew B) (Nat.le_refl _))).mono ?_
  rintro _ w4 ⟨u4, rfl, o4, b4⟩
  have b4:=undrew b4
  have L4:=L.up b4
  have R4:=R.up b4
  have B4:=bu B b4
  have s4:=b4.size
  have t4:=World.ownsRow.lt o4
  have h4:=ho6.out.below b4
  clear hHeld
  refine hKK.out _ _ ⟨L4.cell 0 rfl, L4.cell 1 rfl⟩ (fun hHeld => ?_)
  clear hKK KK
  refine rd 5 rfl (fun KK hKK => ?_)
  go_simp
  refine (copyInts_any _ ys _ (RU.out.2.below B4)).mono ?_
  rintro _ w5 ⟨u5, rfl, o5, b5⟩
  have L5:=L4.up b5
  have R5:=R4.up b5
  have B5:=bu B4 b5
  have s5:=b5.size
  have t5:=World.ownsRow.lt o5
  have o4':=o4.below b5
  have h5:=h4.below b5
  clear hHeld
  refine hKK.out _ _ ⟨L5.cell 0 rfl, L5.cell 1 rfl⟩ (fun hHeld => ?_)
  clear hKK KK
  obtain ⟨la, lc1, rfl⟩:=o4.form
  obtain ⟨ma, mc, rfl⟩:=o5.form
  refine tx 6 37 ?_
  have q0:=R5.cell 0 rfl
  have q1:=R5.cell 1 rfl
  have FR:=R5.frozen
  refine rd 8 rfl (fun KK hKK => ?_)
  go_simp
  have L6:=(L5.other (p:=⟨w.heap.size + 1, 0, none⟩) (by simp) (.slice la xs.length lc1)).other (p:=⟨w.heap.size + 1, 1, none⟩) (by simp) (.slice ma ys.length mc)
  clear hHeld
  refine hKK.out _ _ ⟨L6.cell 0 rfl, L6.cell 1 rfl⟩ (fun hHeld => ?_)
  clear hKK KK
  refine tx 9 5 ?_
  clear hHeld L6 L5 L4 L
  refine wdn ?_
  go_wp2
  refine bodyPost_ret (v := .tuple #[lv (.slice la xs.length lc1) (.slice ma ys.length mc),.slice (some ⟨w.heap.size + 2, 0, none⟩) k k]) (by simp [results, Tryz.results96, go_sem, q0, q1]) rfl ?_
  have K7 : Kp w5 ((w5.setCell ⟨w.heap.size + 1, 0, none⟩ (.slice la xs.length lc1)).setCell ⟨w.heap.size + 1, 1, none⟩ (.slice ma ys.length mc)) (fun k => k = w.heap.size + 1):=(set_kp w5 _ 0 _).trans (set_kp _ _ 1 _)
  have e0 : wr.drew.heap.size = wr.heap.size:=rfl
  rw [e0] at t4
  refine ⟨_, _, _, wr.heap.size, rfl, ?_, ?_, by omega, ⟨?_, ?_, ?_, ?_, ?_⟩, ?_⟩
  ·exact (h5.kp K7 (fun j hj => by simp [Value.ownBlock] at hj; omega)).mono (by omega)
  ·intro j hj; simp [Value.ownBlock] at hj; omega
  ·exact (o4'.kp K7 (fun j hj => by have := t4 j hj; omega)).mono (Nat.le_refl _)
  ·exact (o5.kp K7 (fun j hj => by have := t5 j hj; omega)).mono (by omega)
  ·intro j hj; have := t4 j hj; simp; omega
  ·intro j hj; have := t5 j hj; simp; omega
  ·intro j hj h'; have := t4 j hj; have := t5 j h'; omega
  exact Below.set (Below.set B5 _ _ (by omega)) _ _ (by omega)

theorem payEach_any (u v p : Value) (xs ys : List Int) (ts : List T4) (w : World) (hu : RI w u xs ∧ RI w v ys) (hp : RP w p ts) :
 Calls Tryz.prog 96 #[lv u v, p] w (EachEnd w (eachAns xs ys ts)) := by
 unfold eachAns
 by_cases h : LOk xs ys
 ·rw [if_pos h]; exact payEach_ok u v p xs ys ts w hu hp h
 rw [if_neg h]; exact payEach_bad u v p xs ys ts w hu hp h
def PayEnd (w : World) (r : List Int × List Int × Int) (o : Ending) (w' : World) : Prop :=
 ∃ u v, o = .returned (.tuple #[lv u v,.int .i64 r.2.2]) ∧ OL w' w.heap.size w'.heap.size u v r.1 r.2.1 ∧ Below w.heap.size w w'
theorem RI.at4 {w : World} {v : Value} {xs : List Int} (h : RI w v xs) (hx : xs.length = 4) : ∃ g o c, v = .slice (some ⟨g, o, none⟩) 4 c ∧ ∀ k, k < 4 → w.cell? ⟨g, o + k, none⟩ = some (.int .i64 (xs.getD k 0)) := by
 obtain ⟨_, ao, cap, rfl, h⟩:=h
 rcases h with rfl | ⟨g, off, rfl, h⟩
 ·cases hx
 exact ⟨g, off, cap, by rw [hx], fun k hk => h k (by omega)⟩
theorem OI.set {w : World} {base g n cap : Nat} {xs : List Int} (h : OI w base (.slice (some ⟨g, 0, none⟩) n cap) xs) (hn : n = xs.length) (k : Nat) (v : Int) :
 OI (w.setCell ⟨g, k, none⟩ (.int .i64 v)) base (.slice (some ⟨g, 0, none⟩) n cap) (xs.set k v) := by
 subst hn
 unfold OI
 rw [List.length_set, List.map_set]
 exact (World.ownsRow.stored h k _).1
theorem OL.setNext {w : World} {lo hi g n cap : Nat} {a : Value} {xs ys : List Int} (h : OL w lo hi a (.slice (some ⟨g, 0, none⟩) n cap) xs ys) (hn : n = ys.length) (k : Nat) (v : Int) :
 OL (w.setCell ⟨g, k, none⟩ (.int .i64 v)) lo hi a (.slice (some ⟨g, 0, none⟩) n cap) xs (ys.set k v) :=
 ⟨h.has.kp (set_kp w g k _) (fun j hj e => h.ne j hj (by rw [e]; rfl)), h.next.set hn k v, h.top, h.top', h.ne⟩
theorem OL.setHas {w : World} {lo hi g n cap : Nat} {b : Value} {xs ys : List Int} (h : OL w lo hi (.slice (some ⟨g, 0, none⟩) n cap) b xs ys) (hn : n = xs.length) (k : Nat) (v : Int) :
 OL (w.setCell ⟨g, k, none⟩ (.int .i64 v)) lo hi (.slice (some ⟨g, 0, none⟩) n cap) b (xs.set k v) ys :=
 ⟨h.has.set hn k v, h.next.kp (set_kp w g k _) (fun j hj e => h.ne g rfl (by rw [← e]; exact hj)), h.top, h.top', h.ne⟩
theorem OI.cellAt {w : World} {base g n cap : Nat} {xs : List Int} (h : OI w base (.slice (some ⟨g, 0, none⟩) n cap) xs) (hn : n = xs.length) (k : Nat) (hk : k < xs.length) : w.cell? ⟨g, k, none⟩ = some (.int .i64 (xs.getD k 0)) ∧ w.frozen? ⟨g, k, none⟩ = false := by
 subst hn
 refine ⟨?_, World.ownsRow.frozenAt h k⟩
 rw [World.ownsRow.cellAt h k (by omega)]
 simp [List.getElem?_map, List.getElem?_eq_getElem hk]

theorem specPay_old (u v : Value) (A Bt : Nat) (c d : Int) (xs ys : List Int) (w : World) (hu : RI w u xs ∧ RI w v ys) (hA : A < 4) (ho : Ok4 A Bt c d) (hl : LOk xs ys) (h : d < ys.getD A 0) :
 Calls Tryz.prog 75 #[lv u v, txv A Bt c d] w (PayEnd w (xs, ys, 2)) := by
 have RU:=hide hu
 have LC:=hide fun w h => l3Copy_any u v xs ys w h
 have LO:=hide fun w h => specLedgerOk u v xs ys w h
 rw [decide_eq_true hl] at LO
 have TO:=hide fun w => specTxOk_yes A Bt c d w ho
 have hx4:=hl.1
 have hy4:=hl.2.1
 obtain ⟨g1, o1, c1, rfl, H1⟩:=RI.at4 hu.1 hx4
 obtain ⟨g2, o2, c2, rfl, H2⟩:=RI.at4 hu.2 hy4
 have RX:=hide fun w' (hb : Below w.heap.size w w') => (hb.cell (cell_lt (H1 A hA))).trans (H1 A hA)
 have RY:=hide fun w' (hb : Below w.heap.size w w') => (hb.cell (cell_lt (H2 A hA))).trans (H2 A hA)
 clear H1 H2 hu hl
 obtain ⟨w0, hw0⟩ : ∃ w0, ((w.alloc (.cells #[.slice (some ⟨g1, o1, none⟩) 4 c1,.slice (some ⟨g2, o2, none⟩) 4 c2] 60)).alloc (.cells (r4 A Bt c d) 119)).alloc (.cells #[.slice none 0 0,.slice none 0 0] 60) = w0:=⟨_, rfl⟩
 have B0 : Below w.heap.size w w0:=hw0 ▸ (((Below.refl w.heap.size w).alloc (Nat.le_refl _) _).alloc (by simp) _).alloc (by simp; omega) _
 have L0 : Loc w0 w.heap.size #[.slice (some ⟨g1, o1, none⟩) 4 c1,.slice (some ⟨g2, o2, none⟩) 4 c2]:=hw0 ▸ ((loc_at w _ _ rfl).alloc _).alloc _
 have X0 : Loc w0 (w.heap.size + 1) (r4 A Bt c d):=hw0 ▸ (loc_at _ _ _ (by simp)).alloc _
 have R0 : Loc w0 (w.heap.size + 1 + 1) #[.slice none 0 0,.slice none 0 0]:=hw0 ▸ loc_at _ _ _ (by simp)
 have q0:=L0.cell 0 rfl
 have q1:=L0.cell 1 rfl
 have lr:=R0.lt
 go_enter Tryz.func75, Tryz.ntmps75
 go_wp2_with fail
 clear hw0 q0 q1
 refine (LC.out _ ⟨RU.out.1.below B0, RU.out.2.below B0⟩).mono ?_
 rintro _ w1 ⟨uo, vo, rfl, ol, b1⟩
 have s1:=b1.size
 obtain ⟨ph, hc, rfl⟩:=own_form (n:=xs.length) ol.has (by omega)
 obtain ⟨pk, kc, rfl⟩:=own_form (n:=ys.length) ol.next (by omega)
 rw [hx4, hy4] at ol ⊢
 obtain ⟨w2, hw2⟩ : ∃ w2, w1.alloc (.cells #[(.slice (some ⟨ph, 0, none⟩) 4 hc), (.slice (some ⟨pk, 0, none⟩) 4 kc)] 60) = w2:=⟨_, rfl⟩
 have b2 : Below w0.heap.size w0 w2:=hw2 ▸ b1.alloc b1.size _
 have B2:=bu B0 b2
 have L2:=L0.up b2
 have X2:=X0.up b2
 have R2:=R0.up b2
 have O2 : Loc w2 w1.heap.size #[(.slice (some ⟨ph, 0, none⟩) 4 hc), (.slice (some ⟨pk, 0, none⟩) 4 kc)]:=hw2 ▸ loc_at w1 _ _ rfl
 have ol2 : OL w2 w0.heap.size w1.heap.size (.slice (some ⟨ph, 0, none⟩) 4 hc) (.slice (some ⟨pk, 0, none⟩) 4 kc) xs ys:=hw2 ▸ ol.alloc _
 have q0:=L2.cell 0 rfl
 have q1:=L2.cell 1 rfl
 clear ol b1 b2 B0 L0 X0 R0
 go_wp2_with fail
 clear hw2 q0 q1
 refine (LO.out _ ⟨RU.out.1.below B2, RU.out.2.below B2⟩).mono ?_
 rintro _ w3 ⟨rfl, b3⟩
 have B3:=bu B2 b3
 have L3:=L2.up b3
 have X3:=X2.up b3
 have R3:=R2.up b3
 have O3:=O2.up b3
 have ol3:=ol2.below b3
 obtain ⟨t0, t1, t2, t3⟩:=X3.cells4
 clear LO b3 B2 L2 X2 R2 O2 ol2
 go_wp2_with fail
 refine (TO.out _).mono ?_
 rintro _ w4 ⟨rfl, b4⟩
 have B4:=bu B3 b4
 have L4:=L3.up b4
 have X4:=X3.up b4
 have R4:=R3.up b4
 have O4:=O3.up b4
 have ol4:=ol3.below b4
 have hA1 : (A : Int) < 4:=by omega
 have lo4:=O4.lt
 have e1:=(World.ownsRow.lt ol4.has ph rfl).1
 have e2:=(World.ownsRow.lt ol4.next pk rfl).1
 have e3:=ol4.top ph rfl
 have e4:=ol4.top' pk rfl
 have e5 : pk ≠ ph:=fun e => ol4.ne ph rfl (by rw [e]; rfl)
 clear TO t0 t1 t2 t3 b4 B3 L3 X3 R3 O3 ol3
 generalize ys.getD A 0 = n at *
 generalize xs.getD A 0 = m at *
 obtain ⟨t0, t1, t2, t3⟩:=X4.cells4
 have p0:=L4.cell 0 rfl
 have p1:=L4.cell 1 rfl
 have ry:=RY.out _ B4
 have rx:=RX.out _ B4
 go_wp2_with fail
 go_quiet (fail)
 generalize hwd : World.drewN w4 _ = w5
 have B5 : Below w.heap.size w w5:=hwd ▸ (below_drewN' B4 _)
 have L5 : Loc w5 _ _:=hwd ▸ (L4.drewN _)
 have X5 : Loc w5 _ _:=hwd ▸ (X4.drewN _)
 have R5 : Loc w5 _ _:=hwd ▸ (R4.drewN _)
 have O5 : Loc w5 _ _:=hwd ▸ (O4.drewN _)
 have ol5 : OL w5 w0.heap.size w1.heap.size (.slice (some ⟨ph, 0, none⟩) 4 hc) (.slice (some ⟨pk, 0, none⟩) 4 kc) xs ys:=hwd ▸ ol4.below (below_drewN' (Below.refl _ _) _)
 clear hwd B4 L4 X4 R4 O4 ol4 t0 t1 t2 t3 p0 p1 ry rx
 have q0:=R5.cell 0 rfl
 have q1:=R5.cell 1 rfl
 have FR:=R5.frozen
 have y0:=O5.cell 0 rfl
 have y1:=O5.cell 1 rfl
 go_wp2
 refine bodyPost_ret (v := .tuple #[lv (.slice (some ⟨ph, 0, none⟩) 4 hc) (.slice (some ⟨pk, 0, none⟩) 4 kc),.int .i64 2]) (by simp [results, Tryz.results75, go_sem, q0, q1]) rfl ?_
 have K7 : Kp w5 ((w5.setCell ⟨w.heap.size + 1 + 1, 0, none⟩ (.slice (some ⟨ph, 0, none⟩) 4 hc)).setCell ⟨w.heap.size + 1 + 1, 1, none⟩ (.slice (some ⟨pk, 0, none⟩) 4 kc)) (fun k => k = w.heap.size + 1 + 1):=(set_kp w5 _ 0 _).trans (set_kp _ _ 1 _)
 have sl:=O5.lt
 refine ⟨_, _, rfl, (ol5.kp K7 (fun k h1 h2 e => by omega)).mono (by omega) (by simp; omega), ?_⟩
 exact Below.set (Below.set B5 _ _ (by omega)) _ _ (by omega)

theorem specPay_early (u v : Value) (A Bt : Nat) (c d : Int) (xs ys : List Int) (w : World) (hu : RI w u xs ∧ RI w v ys) (hA : A < 4) (ho : Ok4 A Bt c d) (hl : LOk xs ys) (h : ys.getD A 0 < d) :
 Calls Tryz.prog 75 #[lv u v, txv A Bt c d] w (PayEnd w (xs, ys, 3)) := by
 have RU:=hide hu
 have LC:=hide fun w h => l3Copy_any u v xs ys w h
 have LO:=hide fun w h => specLedgerOk u v xs ys w h
 rw [decide_eq_true hl] at LO
 have TO:=hide fun w => specTxOk_yes A Bt c d w ho
 have hx4:=hl.1
 have hy4:=hl.2.1
 obtain ⟨g1, o1, c1, rfl, H1⟩:=RI.at4 hu.1 hx4
 obtain ⟨g2, o2, c2, rfl, H2⟩:=RI.at4 hu.2 hy4
 have RX:=hide fun w' (hb : Below w.heap.size w w') => (hb.cell (cell_lt (H1 A hA))).trans (H1 A hA)
 have RY:=hide fun w' (hb : Below w.heap.size w w') => (hb.cell (cell_lt (H2 A hA))).trans (H2 A hA)
 clear H1 H2 hu hl
 obtain ⟨w0, hw0⟩ : ∃ w0, ((w.alloc (.cells #[.slice (some ⟨g1, o1, none⟩) 4 c1,.slice (some ⟨g2, o2, none⟩) 4 c2] 60)).alloc (.cells (r4 A Bt c d) 119)).alloc (.cells #[.slice none 0 0,.slice none 0 0] 60) = w0:=⟨_, rfl⟩
 have B0 : Below w.heap.size w w0:=hw0 ▸ (((Below.refl w.heap.size w).alloc (Nat.le_refl _) _).alloc (by simp) _).alloc (by simp; omega) _
 have L0 : Loc w0 w.heap.size #[.slice (some ⟨g1, o1, none⟩) 4 c1,.slice (some ⟨g2, o2, none⟩) 4 c2]:=hw0 ▸ ((loc_at w _ _ rfl).alloc _).alloc _
 have X0 : Loc w0 (w.heap.size + 1) (r4 A Bt c d):=hw0 ▸ (loc_at _ _ _ (by simp)).alloc _
 have R0 : Loc w0 (w.heap.size + 1 + 1) #[.slice none 0 0,.slice none 0 0]:=hw0 ▸ loc_at _ _ _ (by simp)
 have q0:=L0.cell 0 rfl
 have q1:=L0.cell 1 rfl
 have lr:=R0.lt
 go_enter Tryz.func75, Tryz.ntmps75
 go_wp2_with fail
 clear hw0 q0 q1
 refine (LC.out _ ⟨RU.out.1.below B0, RU.out.2.below B0⟩).mono ?_
 rintro _ w1 ⟨uo, vo, rfl, ol, b1⟩
 have s1:=b1.size
 obtain ⟨ph, hc, rfl⟩:=own_form (n:=xs.length) ol.has (by omega)
 obtain ⟨pk, kc, rfl⟩:=own_form (n:=ys.length) ol.next (by omega)
 rw [hx4, hy4] at ol ⊢
 obtain ⟨w2, hw2⟩ : ∃ w2, w1.alloc (.cells #[(.slice (some ⟨ph, 0, none⟩) 4 hc), (.slice (some ⟨pk, 0, none⟩) 4 kc)] 60) = w2:=⟨_, rfl⟩
 have b2 : Below w0.heap.size w0 w2:=hw2 ▸ b1.alloc b1.size _
 have B2:=bu B0 b2
 have L2:=L0.up b2
 have X2:=X0.up b2
 have R2:=R0.up b2
 have O2 : Loc w2 w1.heap.size #[(.slice (some ⟨ph, 0, none⟩) 4 hc), (.slice (some ⟨pk, 0, none⟩) 4 kc)]:=hw2 ▸ loc_at w1 _ _ rfl
 have ol2 : OL w2 w0.heap.size w1.heap.size (.slice (some ⟨ph, 0, none⟩) 4 hc) (.slice (some ⟨pk, 0, none⟩) 4 kc) xs ys:=hw2 ▸ ol.alloc _
 have q0:=L2.cell 0 rfl
 have q1:=L2.cell 1 rfl
 clear ol b1 b2 B0 L0 X0 R0
 go_wp2_with fail
 clear hw2 q0 q1
 refine (LO.out _ ⟨RU.out.1.below B2, RU.out.2.below B2⟩).mono ?_
 rintro _ w3 ⟨rfl, b3⟩
 have B3:=bu B2 b3
 have L3:=L2.up b3
 have X3:=X2.up b3
 have R3:=R2.up b3
 have O3:=O2.up b3
 have ol3:=ol2.below b3
 obtain ⟨t0, t1, t2, t3⟩:=X3.cells4
 clear LO b3 B2 L2 X2 R2 O2 ol2
 go_wp2_with fail
 refine (TO.out _).mono ?_
 rintro _ w4 ⟨rfl, b4⟩
 have B4:=bu B3 b4
 have L4:=L3.up b4
 have X4:=X3.up b4
 have R4:=R3.up b4
 have O4:=O3.up b4
 have ol4:=ol3.below b4
 have hA1 : (A : Int) < 4:=by omega
 have lo4:=O4.lt
 have e1:=(World.ownsRow.lt ol4.has ph rfl).1
 have e2:=(World.ownsRow.lt ol4.next pk rfl).1
 have e3:=ol4.top ph rfl
 have e4:=ol4.top' pk rfl
 have e5 : pk ≠ ph:=fun e => ol4.ne ph rfl (by rw [e]; rfl)
 clear TO t0 t1 t2 t3 b4 B3 L3 X3 R3 O3 ol3
 generalize ys.getD A 0 = n at *
 generalize xs.getD A 0 = m at *
 have h' : ¬ d < n:=by omega
 obtain ⟨t0, t1, t2, t3⟩:=X4.cells4
 have p0:=L4.cell 0 rfl
 have p1:=L4.cell 1 rfl
 have ry:=RY.out _ B4
 have rx:=RX.out _ B4
 go_wp2_with fail
 go_quiet (fail)
 go_wp2_with fail
 go_quiet (fail)
 generalize hwd : World.drewN (World.drewN w4 _) _ = w5
 have B5 : Below w.heap.size w w5:=hwd ▸ (below_drewN' (below_drewN' B4 _) _)
 have L5 : Loc w5 _ _:=hwd ▸ ((L4.drewN _).drewN _)
 have X5 : Loc w5 _ _:=hwd ▸ ((X4.drewN _).drewN _)
 have R5 : Loc w5 _ _:=hwd ▸ ((R4.drewN _).drewN _)
 have O5 : Loc w5 _ _:=hwd ▸ ((O4.drewN _).drewN _)
 have ol5 : OL w5 w0.heap.size w1.heap.size (.slice (some ⟨ph, 0, none⟩) 4 hc) (.slice (some ⟨pk, 0, none⟩) 4 kc) xs ys:=hwd ▸ ol4.below (below_drewN' (below_drewN' (Below.refl _ _) _) _)
 clear hwd B4 L4 X4 R4 O4 ol4 t0 t1 t2 t3 p0 p1 ry rx
 have q0:=R5.cell 0 rfl
 have q1:=R5.cell 1 rfl
 have FR:=R5.frozen
 have y0:=O5.cell 0 rfl
 have y1:=O5.cell 1 rfl
 go_wp2
 refine bodyPost_ret (v := .tuple #[lv (.slice (some ⟨ph, 0, none⟩) 4 hc) (.slice (some ⟨pk, 0, none⟩) 4 kc),.int .i64 3]) (by simp [results, Tryz.results75, go_sem, q0, q1]) rfl ?_
 have K7 : Kp w5 ((w5.setCell ⟨w.heap.size + 1 + 1, 0, none⟩ (.slice (some ⟨ph, 0, none⟩) 4 hc)).setCell ⟨w.heap.size + 1 + 1, 1, none⟩ (.slice (some ⟨pk, 0, none⟩) 4 kc)) (fun k => k = w.heap.size + 1 + 1):=(set_kp w5 _ 0 _).trans (set_kp _ _ 1 _)
 have sl:=O5.lt
 refine ⟨_, _, rfl, (ol5.kp K7 (fun k h1 h2 e => by omega)).mono (by omega) (by simp; omega), ?_⟩
 exact Below.set (Below.set B5 _ _ (by omega)) _ _ (by omega)
theorem specPay_poor (u v : Value) (A Bt : Nat) (c d : Int) (xs ys : List Int) (w : World) (hu : RI w u xs ∧ RI w v ys) (hA : A < 4) (ho : Ok4 A Bt c d) (hl : LOk xs ys) (hn : ys.getD A 0 = d) (h : xs.getD A 0 < c) :
 Calls Tryz.prog 75 #[lv u v, txv A Bt c d] w (PayEnd w (xs, (ys.set A (d + 1)), 4)) := by
 have RU:=hide hu
 have LC:=hide fun w h => l3Copy_any u v xs ys w h
 have LO:=hide fun w h => specLedgerOk u v xs ys w h
 rw [decide_eq_true hl] at LO
 have TO:=hide fun w => specTxOk_yes A Bt c d w ho
 have hx4:=hl.1
 have hy4:=hl.2.1
 obtain ⟨g1, o1, c1, rfl, H1⟩:=RI.at4 hu.1 hx4
 obtain ⟨g2, o2, c2, rfl, H2⟩:=RI.at4 hu.2 hy4
 have RX:=hide fun w' (hb : Below w.heap.size w w') => (hb.cell (cell_lt (H1 A hA))).trans (H1 A hA)
 have RY:=hide fun w' (hb : Below w.heap.size w w') => (hb.cell (cell_lt (H2 A hA))).trans (H2 A hA)
 clear H1 H2 hu hl
 obtain ⟨w0, hw0⟩ : ∃ w0, ((w.alloc (.cells #[.slice (some ⟨g1, o1, none⟩) 4 c1,.slice (some ⟨g2, o2, none⟩) 4 c2] 60)).alloc (.cells (r4 A Bt c d) 119)).alloc (.cells #[.slice none 0 0,.slice none 0 0] 60) = w0:=⟨_, rfl⟩
 have B0 : Below w.heap.size w w0:=hw0 ▸ (((Below.refl w.heap.size w).alloc (Nat.le_refl _) _).alloc (by simp) _).alloc (by simp; omega) _
 have L0 : Loc w0 w.heap.size #[.slice (some ⟨g1, o1, none⟩) 4 c1,.slice (some ⟨g2, o2, none⟩) 4 c2]:=hw0 ▸ ((loc_at w _ _ rfl).alloc _).alloc _
 have X0 : Loc w0 (w.heap.size + 1) (r4 A Bt c d):=hw0 ▸ (loc_at _ _ _ (by simp)).alloc _
 have R0 : Loc w0 (w.heap.size + 1 + 1) #[.slice none 0 0,.slice none 0 0]:=hw0 ▸ loc_at _ _ _ (by simp)
 have q0:=L0.cell 0 rfl
 have q1:=L0.cell 1 rfl
 have lr:=R0.lt
 go_enter Tryz.func75, Tryz.ntmps75
 go_wp2_with fail
 clear hw0 q0 q1
 refine (LC.out _ ⟨RU.out.1.below B0, RU.out.2.below B0⟩).mono ?_
 rintro _ w1 ⟨uo, vo, rfl, ol, b1⟩
 have s1:=b1.size
 obtain ⟨ph, hc, rfl⟩:=own_form (n:=xs.length) ol.has (by omega)
 obtain ⟨pk, kc, rfl⟩:=own_form (n:=ys.length) ol.next (by omega)
 rw [hx4, hy4] at ol ⊢
 obtain ⟨w2, hw2⟩ : ∃ w2, w1.alloc (.cells #[(.slice (some ⟨ph, 0, none⟩) 4 hc), (.slice (some ⟨pk, 0, none⟩) 4 kc)] 60) = w2:=⟨_, rfl⟩
 have b2 : Below w0.heap.size w0 w2:=hw2 ▸ b1.alloc b1.size _
 have B2:=bu B0 b2
 have L2:=L0.up b2
 have X2:=X0.up b2
 have R2:=R0.up b2
 have O2 : Loc w2 w1.heap.size #[(.slice (some ⟨ph, 0, none⟩) 4 hc), (.slice (some ⟨pk, 0, none⟩) 4 kc)]:=hw2 ▸ loc_at w1 _ _ rfl
 have ol2 : OL w2 w0.heap.size w1.heap.size (.slice (some ⟨ph, 0, none⟩) 4 hc) (.slice (some ⟨pk, 0, none⟩) 4 kc) xs ys:=hw2 ▸ ol.alloc _
 have q0:=L2.cell 0 rfl
 have q1:=L2.cell 1 rfl
 clear ol b1 b2 B0 L0 X0 R0
 go_wp2_with fail
 clear hw2 q0 q1
 refine (LO.out _ ⟨RU.out.1.below B2, RU.out.2.below B2⟩).mono ?_
 rintro _ w3 ⟨rfl, b3⟩
 have B3:=bu B2 b3
 have L3:=L2.up b3
 have X3:=X2.up b3
 have R3:=R2.up b3
 have O3:=O2.up b3
 have ol3:=ol2.below b3
 obtain ⟨t0, t1, t2, t3⟩:=X3.cells4
 clear LO b3 B2 L2 X2 R2 O2 ol2
 go_wp2_with fail
 refine (TO.out _).mono ?_
 rintro _ w4 ⟨rfl, b4⟩
 have B4:=bu B3 b4
 have L4:=L3.up b4
 have X4:=X3.up b4
 have R4:=R3.up b4
 have O4:=O3.up b4
 have ol4:=ol3.below b4
 have hA1 : (A : Int) < 4:=by omega
 have lo4:=O4.lt
 have e1:=(World.ownsRow.lt ol4.has ph rfl).1
 have e2:=(World.ownsRow.lt ol4.next pk rfl).1
 have e3:=ol4.top ph rfl
 have e4:=ol4.top' pk rfl
 have e5 : pk ≠ ph:=fun e => ol4.ne ph rfl (by rw [e]; rfl)
 clear TO t0 t1 t2 t3 b4 B3 L3 X3 R3 O3 ol3
 rw [hn] at RY
 have ho1 : 0 ≤ d ∧ d ≤ 99:=by unfold Ok4 at ho; omega
 have ho2 : 0 ≤ c ∧ c ≤ 1000:=by unfold Ok4 at ho; omega
 obtain ⟨t0, t1, t2, t3⟩:=X4.cells4
 have p0:=L4.cell 0 rfl
 have p1:=L4.cell 1 rfl
 have ry:=RY.out _ B4
 have rx:=RX.out _ B4
 go_wp2_with fail
 go_quiet (fail)
 go_wp2_with fail
 go_quiet (fail)
 generalize hwd : World.drewN (World.drewN w4 _) _ = w5
 have B5 : Below w.heap.size w w5:=hwd ▸ (below_drewN' (below_drewN' B4 _) _)
 have L5 : Loc w5 _ _:=hwd ▸ ((L4.drewN _).drewN _)
 have X5 : Loc w5 _ _:=hwd ▸ ((X4.drewN _).drewN _)
 have R5 : Loc w5 _ _:=hwd ▸ ((R4.drewN _).drewN _)
 have O5 : Loc w5 _ _:=hwd ▸ ((O4.drewN _).drewN _)
 have ol5 : OL w5 w0.heap.size w1.heap.size (.slice (some ⟨ph, 0, none⟩) 4 hc) (.slice (some ⟨pk, 0, none⟩) 4 kc) xs ys:=hwd ▸ ol4.below (below_drewN' (below_drewN' (Below.refl _ _) _) _)
 clear hwd B4 L4 X4 R4 O4 ol4 t0 t1 t2 t3 p0 p1 ry rx
 obtain ⟨n5, f5⟩:=ol5.next.cellAt hy4.symm A (by omega)
 rw [hn] at n5
 obtain ⟨t0, t1, t2, t3⟩:=X5.cells4
 have y1:=O5.cell 1 rfl
 obtain ⟨w6, hw6⟩ : ∃ w6, w5.setCell ⟨pk, A, none⟩ (.int .i64 (d + 1)) = w6:=⟨_, rfl⟩
 have B6 : Below w.heap.size w w6:=hw6 ▸ Below.set B5 _ _ (by omega)
 have L6 : Loc w6 _ _:=hw6 ▸ L5.other (by simp; omega) _
 have X6 : Loc w6 _ _:=hw6 ▸ X5.other (by simp; omega) _
 have R6 : Loc w6 _ _:=hw6 ▸ R5.other (by simp; omega) _
 have O6 : Loc w6 _ _:=hw6 ▸ O5.other (by simp; omega) _
 have ol6 : OL w6 w0.heap.size w1.heap.size (.slice (some ⟨ph, 0, none⟩) 4 hc) (.slice (some ⟨pk, 0, none⟩) 4 kc) xs (ys.set A (d + 1)):=hw6 ▸ ol5.setNext hy4.symm A (d + 1)
 go_wp2_with fail
 clear hw6 n5 f5 t0 t1 t2 t3 y1 B5 L5 X5 R5 O5 ol5
 generalize xs.getD A 0 = m at *
 obtain ⟨t0, t1, t2, t3⟩:=X6.cells4
 have p0:=L6.cell 0 rfl
 have p1:=L6.cell 1 rfl
 have ry:=RY.out _ B6
 have rx:=RX.out _ B6
 go_quiet (fail)
 generalize hwd : World.drewN w6 _ = w7
 have B7 : Below w.heap.size w w7:=hwd ▸ (below_drewN' B6 _)
 have L7 : Loc w7 _ _:=hwd ▸ (L6.drewN _)
 have X7 : Loc w7 _ _:=hwd ▸ (X6.drewN _)
 have R7 : Loc w7 _ _:=hwd ▸ (R6.drewN _)
 have O7 : Loc w7 _ _:=hwd ▸ (O6.drewN _)
 have ol7 : OL w7 w0.heap.size w1.heap.size (.slice (some ⟨ph, 0, none⟩) 4 hc) (.slice (some ⟨pk, 0, none⟩) 4 kc) xs (ys.set A (d + 1)):=hwd ▸ ol6.below (below_drewN' (Below.refl _ _) _)
 clear hwd B6 L6 X6 R6 O6 ol6 t0 t1 t2 t3 p0 p1 ry rx
 have q0:=R7.cell 0 rfl
 have q1:=R7.cell 1 rfl
 have FR:=R7.frozen
 have y0:=O7.cell 0 rfl
 have y1:=O7.cell 1 rfl
 go_wp2
 refine bodyPost_ret (v := .tuple #[lv (.slice (some ⟨ph, 0, none⟩) 4 hc) (.slice (some ⟨pk, 0, none⟩) 4 kc),.int .i64 4]) (by simp [results, Tryz.results75, go_sem, q0, q1]) rfl ?_
 have K7 : Kp w7 ((w7.setCell ⟨w.heap.size + 1 + 1, 0, none⟩ (.slice (some ⟨ph, 0, none⟩) 4 hc)).setCell ⟨w.heap.size + 1 + 1, 1, none⟩ (.slice (some ⟨pk, 0, none⟩) 4 kc)) (fun k => k = w.heap.size + 1 + 1):=(set_kp w7 _ 0 _).trans (set_kp _ _ 1 _)
 have sl:=O7.lt
 refine ⟨_, _, rfl, (ol7.kp K7 (fun k h1 h2 e => by omega)).mono (by omega) (by simp; omega), ?_⟩
 exact Below.set (Below.set B7 _ _ (by omega)) _ _ (by omega)
end
end Go.Proofs.YtmpffkpilbbclaaGreatDoor
