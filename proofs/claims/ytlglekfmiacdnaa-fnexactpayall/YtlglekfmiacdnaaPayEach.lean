/- impl.payEach of a right ledger. -/
import Derived.Test.YtlglekfmiacdnaaPayRun
import Derived.Test.YtlglekfmiacdnaaBookLedger
namespace Go.Proofs.Ytlglekfmiacdnaa
open Go.RowKit
set_option linter.unusedSectionVars false
variable [∀ (m a b c d : Int), Decidable (In4 m a b c d)]
variable [∀ (xs ys : List Int), Decidable (LOk xs ys)]
variable [∀ (a b c d : Int), Decidable (Ok4 a b c d)]

/-- What payEach and PayAll leave: the ledger and the codes, in memory of their own. -/
def EachEnd (w : World) (r : List Int × List Int × List Int) (o : Ending) (w' : World) : Prop :=
  ∃ u v cs mid, o = .returned (.tuple #[lv u v, cs]) ∧ OI w' w.heap.size cs r.2.2 ∧ (∀ k, cs.ownBlock = some k → k < mid) ∧ w.heap.size ≤ mid ∧ OL w' mid w'.heap.size u v r.1 r.2.1 ∧ Below w.heap.size w w'

theorem bookC_ok {xs ys : List Int} (h : LOk xs ys) : bookC xs ys = b8L xs ys := by unfold bookC; rw [if_pos ⟨h.1, h.2.1⟩]

set_option maxHeartbeats 16000000 in
set_option maxRecDepth 100000 in
theorem payEach_ok (u v p : Value) (xs ys : List Int) (ts : List T4) (w : World) (hu : RI w u xs ∧ RI w v ys) (hp : RP w p ts) (hl : LOk xs ys) :
    Calls Try.prog 43 #[lv u v, p] w (EachEnd w (payRun xs ys ts)) := by
  obtain ⟨i0, hi, hz0, hz1, hz2⟩ := info_parts Try.info3
  have BO := hide fun w h1 h2 => bookOf_any u v xs ys w h1 h2
  rw [bookC_ok hl, decide_eq_true hl] at BO
  have RU := hide hu
  have HP := hide hp
  obtain ⟨ua, uc, rfl⟩ : ∃ ua uc, u = .slice ua xs.length uc := by obtain ⟨_, ua, uc, h, _⟩ := hu.1; exact ⟨ua, uc, h⟩
  obtain ⟨va, vc, rfl⟩ : ∃ va vc, v = .slice va ys.length vc := by obtain ⟨_, va, vc, h, _⟩ := hu.2; exact ⟨va, vc, h⟩
  obtain ⟨hpl, pa, pc, rfl, hpc⟩ := hp
  have HPC := hide hpc
  obtain ⟨n, hn⟩ : ∃ n, ts.length = n := ⟨_, rfl⟩
  have Hn := hide hn
  rw [hn] at hpl ⊢
  clear hu hpc hn
  obtain ⟨w0, hw0⟩ : ∃ w0, (w.alloc (.cells #[.slice ua xs.length uc, .slice va ys.length vc] 26)).alloc (.cells #[.slice none 0 0, .slice none 0 0] 26) = w0 := ⟨_, rfl⟩
  have B0 : Below w.heap.size w w0 := hw0 ▸ ((Below.refl w.heap.size w).alloc (Nat.le_refl _) _).alloc (by simp) _
  have L0 : Loc w0 w.heap.size #[.slice ua xs.length uc, .slice va ys.length vc] := hw0 ▸ (loc_at w _ _ rfl).alloc _
  have R0 : Loc w0 (w.heap.size + 1) #[.slice none 0 0, .slice none 0 0] := hw0 ▸ loc_at _ _ _ (by simp)
  have s0 : w0.heap.size = w.heap.size + 2 := by rw [← hw0]; simp
  go_enter Try.func43, Try.ntmps43
  go_wp2_with (first
    | (at_make; refine wpList_make_full _ rfl _ _ 24 rfl (w.heap.size + 2) 3 i0 (.int .i64 0) 1 Try.underlying24 hi hz0 hz1 .i64 .i64 n n n rfl rfl rfl rfl (by rw [hz2]; omega) (by unfold maxLen; omega) (by omega) ?_; intro w1 ho1 hg1
       have k1 := kp_grown hg1
       have L1 := L0.kp k1 (by simp)
       have R1 := R0.kp k1 (by simp)
       have B1 := Below.kp B0 k1 B0.size (by simp)
       have x0 := L1.cell 0 rfl
       have x1 := L1.cell 1 rfl
       have s1 := hg1.size
       rw [s0] at ho1
       clear k1 hg1 L0 R0 B0 hw0))
  have ho1 : w1.ownsRow (w.heap.size + 2) 3 1 (.slice (some ⟨w.heap.size + 2, 0, none⟩) n n) n (chalf [] n) := by
    have e : (madeCells (Value.int IntKind.i64 0).cells (n * 1)).toList = chalf [] n := by
      rw [chalf_zero, Nat.mul_one]; exact toList_madeCells_one _ _
    rw [← e]; exact ho1
  have lc := (World.ownsRow.lt ho1 (w.heap.size + 2) rfl).2
  refine (unhide BO _ ((unhide RU).1.below B1 (Nat.le_refl _)) ((unhide RU).2.below B1 (Nat.le_refl _))).mono ?_
  rintro _ w2 ⟨rfl, b2⟩
  have s2 := b2.size
  have B2 := B1.trans (b2.mono B1.size)
  have R2 := R1.below b2 R1.lt
  have ho2 : w2.ownsRow (w.heap.size + 2) 3 1 (.slice (some ⟨w.heap.size + 2, 0, none⟩) n n) n (chalf [] n) := World.ownsRow.kept (row := none) ho1 ⟨b2.os, b2.tape, b2.output, b2.size, fun k hk _ => b2.block k hk⟩ (by simp [Value.ownBlock])
  clear BO RU L1 R1 B1 x0 x1 ho1 b2
  obtain ⟨x0, x1, x2, x3, y0, y1, y2, y3, hb⟩ : ∃ x0 x1 x2 x3 y0 y1 y2 y3 : Int, b8L xs ys = b8 x0 x1 x2 x3 y0 y1 y2 y3 := ⟨_, _, _, _, _, _, _, _, rfl⟩
  rw [hb]
  have B3 := B2.alloc B2.size (.cells (b8 x0 x1 x2 x3 y0 y1 y2 y3) 73)
  have R3 := R2.alloc (.cells (b8 x0 x1 x2 x3 y0 y1 y2 y3) 73)
  have ho3 := ho2.alloc (.cells (b8 x0 x1 x2 x3 y0 y1 y2 y3) 73)
  have K3 : Loc (w2.alloc (.cells (b8 x0 x1 x2 x3 y0 y1 y2 y3) 73)) w2.heap.size (b8L xs ys) := by rw [hb]; exact loc_at w2 _ _ rfl
  generalize hw3 : w2.alloc (.cells (b8 x0 x1 x2 x3 y0 y1 y2 y3) 73) = w3 at *
  clear hb B2 R2 ho2
  go_wp2
  clear hw3
  go_loopw [41] (fun i wr => ∃ k : Nat, k ≤ n ∧ i = .int .i64 k ∧ Loc wr w2.heap.size (b8L (payRun xs ys (ts.take k)).1 (payRun xs ys (ts.take k)).2.1) ∧ wr.ownsRow (w.heap.size + 2) 3 1 (.slice (some ⟨w.heap.size + 2, 0, none⟩) n n) n (chalf (payRun xs ys (ts.take k)).2.2 n) ∧ Loc wr (w.heap.size + 1) #[.slice none 0 0, .slice none 0 0] ∧ Below w.heap.size w wr) (fun i _ => n - (intOf i).toNat)
  case atStart => exact ⟨0, Nat.zero_le _, rfl, K3, ho3, R3, B3⟩
  case round =>
    clear K3 ho3 R3 B3
    obtain ⟨k, hk, rfl, K, ho, R, B⟩ := hrel
    have INV := payRun_inv xs ys ts hl k (by rw [unhide Hn]; exact hk)
    have lk := K.lt
    by_cases hlt : k < n
    · have SUC := hide (payRun_succ xs ys ts k (by rw [unhide Hn]; exact hlt))
      obtain ⟨g, off, rfl, hc⟩ : ∃ g off, pa = some ⟨g, off, none⟩ ∧ wr.cell? ⟨g, off + k, none⟩ = some (pfun (ts.getD k (0, 0, 0, 0))) := by
        rcases unhide HPC with h | ⟨g, off, h1, h2⟩
        · have := unhide Hn; rw [h] at this; simp at this; omega
        · have h3 := h2 k (by rw [unhide Hn]; exact hlt)
          exact ⟨g, off, h1, (B.cell (cell_lt h3)).trans h3⟩
      obtain ⟨t, ht⟩ : ∃ t, ts.getD k (0, 0, 0, 0) = t := ⟨_, rfl⟩
      rw [ht] at SUC hc
      obtain ⟨a, b, c, d⟩ := t
      obtain ⟨r, hr⟩ : ∃ r, payRun xs ys (ts.take k) = r := ⟨_, rfl⟩
      rw [hr] at SUC K ho INV
      have PA := hide fun w => paid_any a b c d r.1 r.2.1 w INV.1
      have HSET := hide fun c => chalf_set r.2.2 n k c INV.2 hlt
      have CLEN := chalf_len r.2.2 n (by omega)
      unfold payStep at SUC
      simp only at SUC
      clear ht hr INV
      obtain ⟨x0, x1, x2, x3, y0, y1, y2, y3, hb⟩ : ∃ x0 x1 x2 x3 y0 y1 y2 y3 : Int, b8L r.1 r.2.1 = b8 x0 x1 x2 x3 y0 y1 y2 y3 := ⟨_, _, _, _, _, _, _, _, rfl⟩
      obtain ⟨z0, z1, z2, z3, v0, v1, v2, v3, hb2⟩ : ∃ x0 x1 x2 x3 y0 y1 y2 y3 : Int, b8L (paidB r.1 r.2.1 a b c d).1 (paidB r.1 r.2.1 a b c d).2.1 = b8 x0 x1 x2 x3 y0 y1 y2 y3 := ⟨_, _, _, _, _, _, _, _, rfl⟩
      rw [hb, hb2] at PA
      rw [hb] at K
      obtain ⟨cd, hcd⟩ : ∃ cd, (paidB r.1 r.2.1 a b c d).2.2 = cd := ⟨_, rfl⟩
      rw [hcd] at SUC PA
      obtain ⟨⟨p0, p1, p2, p3⟩, ⟨p4, p5, p6, p7⟩⟩ := K.c8
      have SUC := hide (hide SUC)
      have hb2 := hide hb2
      clear hb hcd
      have ho := hide ho
      go_wp2_with fail
      refine (unhide PA _).mono ?_
      rintro _ w4 ⟨rfl, b4⟩
      have K4 := K.below b4 K.lt
      have R4 := R.below b4 R.lt
      have B4 := B.trans (b4.mono B.size)
      have ho4 : w4.ownsRow (w.heap.size + 2) 3 1 (.slice (some ⟨w.heap.size + 2, 0, none⟩) n n) n (chalf r.2.2 n) := World.ownsRow.kept (row := none) (unhide ho) ⟨b4.os, b4.tape, b4.output, b4.size, fun k hk _ => b4.block k hk⟩ (by simp [Value.ownBlock])
      clear p0 p1 p2 p3 p4 p5 p6 p7 PA K R B ho b4 hc
      obtain ⟨⟨p0, p1, p2, p3⟩, ⟨p4, p5, p6, p7⟩⟩ := K4.c8
      have FK := K4.frozen
      have K5 : Loc (put8 w4 w2.heap.size z0 z1 z2 z3 v0 v1 v2 v3) w2.heap.size (b8 z0 z1 z2 z3 v0 v1 v2 v3) := K4.put8
      have R5 := R4.put8_other (G := w2.heap.size) (by omega) z0 z1 z2 z3 v0 v1 v2 v3
      have B5 := put8_below (G := w2.heap.size) B4 (by omega) z0 z1 z2 z3 v0 v1 v2 v3
      have g5 := put8_kp w4 w2.heap.size z0 z1 z2 z3 v0 v1 v2 v3
      have ho5 : (put8 w4 w2.heap.size z0 z1 z2 z3 v0 v1 v2 v3).ownsRow (w.heap.size + 2) 3 1 (.slice (some ⟨w.heap.size + 2, 0, none⟩) n n) n (chalf r.2.2 n) := World.ownsRow.kept (row := some w2.heap.size) ho4 ⟨g5.os, g5.tape, g5.output, g5.size, fun k hk hn => g5.block k hk (fun e => hn (by rw [e]))⟩ (by right; simp [Value.ownBlock]; omega)
      generalize hw5 : put8 w4 w2.heap.size z0 z1 z2 z3 v0 v1 v2 v3 = w5 at *
      unfold put8 at hw5
      clear g5 ho4 R4 B4 K4
      obtain ⟨e5, he5⟩ : ∃ e5, w5.cell? ⟨w.heap.size + 2, k, none⟩ = some e5 := ⟨_, (ho5.cellAt k (by omega)).trans (List.getElem?_eq_getElem (by rw [CLEN]; exact hlt))⟩
      have F5 := ho5.frozenAt k
      have HS5 : Hid ((w5.setCell ⟨w.heap.size + 2, k, none⟩ (.int .i64 cd)).ownsRow (w.heap.size + 2) 3 1 (.slice (some ⟨w.heap.size + 2, 0, none⟩) n n) n (chalf (r.2.2 ++ [cd]) n)) := by
        rw [← unhide HSET cd]; exact (ho5.stored k _).1
      clear ho5
      go_wp2
      go_roundw
      case rel =>
        refine ⟨k + 1, by omega, by go_num, ?_, ?_, R5.other (by simp) _, Below.set B5 _ _ (by omega)⟩
        · rw [unhide (unhide SUC)]
          simp only
          rw [unhide hb2]
          exact K5.other (by simp; omega) _
        · rw [unhide (unhide SUC)]
          exact unhide HS5
      case measure => simp [intOf]; omega
    · have hkn : k = n := by omega
      have e1 : ts.take k = ts := List.take_of_length_le (by rw [unhide Hn]; omega)
      rw [e1] at K ho INV
      obtain ⟨r, hr⟩ : ∃ r, payRun xs ys ts = r := ⟨_, rfl⟩
      rw [hr] at K ho INV
      obtain ⟨x0, x1, x2, x3, y0, y1, y2, y3, e2, e3⟩ : ∃ x0 x1 x2 x3 y0 y1 y2 y3 : Int, r.1 = [x0, x1, x2, x3] ∧ r.2.1 = [y0, y1, y2, y3] := by
        obtain ⟨a, b, c, d, h1⟩ := four_of INV.1.1
        obtain ⟨e, f, g, h, h2⟩ := four_of INV.1.2.1
        exact ⟨a, b, c, d, e, f, g, h, h1, h2⟩
      have ho6 : OI wr (w.heap.size + 2) (.slice (some ⟨w.heap.size + 2, 0, none⟩) n n) r.2.2 := by
        unfold OI
        rw [← chalf_all r.2.2, INV.2, hkn]; exact ho
      rw [e2, e3] at K
      have K : Loc wr w2.heap.size (b8 x0 x1 x2 x3 y0 y1 y2 y3) := K
      obtain ⟨⟨p0, p1, p2, p3⟩, ⟨p4, p5, p6, p7⟩⟩ := K.c8
      have ho6 := hide ho6
      subst hkn
      clear ho e1
      go_wp2_with fail
      refine (ledger_any x0 x1 x2 x3 y0 y1 y2 y3 _).mono ?_
      rintro _ w6 ⟨ul, vl, rfl, ol, b6⟩
      have R6 := R.below b6 R.lt
      have B6 := B.trans (b6.mono B.size)
      have s6 := b6.size
      have ho7 := hide ((unhide ho6).below b6)
      obtain ⟨la, lc1, rfl⟩ := ol.has.form
      obtain ⟨ma, mc, rfl⟩ := ol.next.form
      have q0 := R6.cell 0 rfl
      have q1 := R6.cell 1 rfl
      have FR := R6.frozen
      have ol := hide ol
      clear p0 p1 p2 p3 p4 p5 p6 p7 R B b6 ho6 K
      go_wp2
      refine bodyPost_ret (v := .tuple #[lv (.slice la [x0, x1, x2, x3].length lc1) (.slice ma [y0, y1, y2, y3].length mc), .slice (some ⟨w.heap.size + 2, 0, none⟩) k k]) (by simp [results, Try.results43, go_sem, q0, q1]) rfl ?_
      have K7 : Kp w6 ((w6.setCell ⟨w.heap.size + 1, 0, none⟩ (.slice la [x0, x1, x2, x3].length lc1)).setCell ⟨w.heap.size + 1, 1, none⟩ (.slice ma [y0, y1, y2, y3].length mc)) (fun k => k = w.heap.size + 1) := (set_kp w6 _ 0 _).trans (set_kp _ _ 1 _)
      refine ⟨_, _, _, wr.heap.size, rfl, ?_, ?_, by omega, ?_, ?_⟩
      · rw [hr]; exact ((unhide ho7).kp K7 (fun j hj => by simp [Value.ownBlock] at hj; omega)).mono (by omega)
      · intro j hj; simp [Value.ownBlock] at hj; omega
      · rw [hr, e2, e3]
        exact ((unhide ol).kp K7 (fun j h1 _ e => by omega)).mono (Nat.le_refl _) (by simp)
      · exact Below.set (Below.set B6 _ _ (by omega)) _ _ (by omega)
end Go.Proofs.Ytlglekfmiacdnaa
