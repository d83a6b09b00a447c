/- Texts that belong together: PayEach, PayEachBad, ImplPay, CopyStep, L3Copy, ImplPayAll. -/
import Derived.Test.YthdehhenkgkkmaaDoorBunC
import Derived.Test.YthdehhenkgkkmaaDoorBunB
import Derived.Test.YthdehhenkgkkmaaDoorBunA
import Derived.Deep.RegionLawGrows
import Derived.Test.YthdehhenkgkkmaaDoorBunD
import Derived.Laws.EntriesVeiled
/- impl.payEach of a right ledger. -/
namespace Go.Proofs.YthdehhenkgkkmaaDoor
open Go.RowKit
set_option linter.unusedSectionVars false
variable [∀ (a b c d : Int), Decidable (Ok4 a b c d)]
variable [∀ (m a b c d : Int), Decidable (In4 m a b c d)]
variable [∀ (xs ys : List Int), Decidable (LOk xs ys)]

/-- What payEach and PayAll leave: the ledger and the codes, in memory of their own. -/
def EachEnd (w : World) (r : List Int × List Int × List Int) (o : Ending) (w' : World) : Prop :=
  ∃ u v cs mid, o = .returned (.tuple #[lv u v, cs]) ∧ OI w' w.heap.size cs r.2.2 ∧ (∀ k, cs.ownBlock = some k → k < mid) ∧ w.heap.size ≤ mid ∧ OL w' mid w'.heap.size u v r.1 r.2.1 ∧ Below w.heap.size w w'

theorem bookC_ok {xs ys : List Int} (h : LOk xs ys) : bookC xs ys = b8L xs ys := by unfold bookC; rw [if_pos ⟨h.1, h.2.1⟩]

set_option maxHeartbeats 16000000 in
set_option maxRecDepth 100000 in
theorem payEach_ok (u v p : Value) (xs ys : List Int) (ts : List T4) (w : World) (hu : RI w u xs ∧ RI w v ys) (hp : RP w p ts) (hl : LOk xs ys) :
    Calls Tryd.prog 42 #[lv u v, p] w (EachEnd w (payRun xs ys ts)) := by
  obtain ⟨i0, hi, hz0, hz1, hz2⟩ := info_parts Tryd.info3
  have BO := hide fun w h1 h2 => bookOf_any u v xs ys w h1 h2
  rw [bookC_ok hl, decide_eq_true hl] at BO
  have RU := hide hu
  have HP := hide hp
  obtain ⟨ua, uc, rfl⟩ : ∃ ua uc, u = .slice ua xs.length uc := by obtain ⟨_, ua, uc, h, _⟩ := hu.1; exact ⟨ua, uc, h⟩
  obtain ⟨va, vc, rfl⟩ : ∃ va vc, v = .slice va ys.length vc := by obtain ⟨_, va, vc, h, _⟩ := hu.2; exact ⟨va, vc, h⟩
  obtain ⟨hpl, pa, pc, rfl, hpc⟩ := hp
  have HPC := hide hpc
  obtain ⟨n, hn⟩ : ∃ n, ts.length = n := ⟨_, rfl⟩
  have Hn := hide hn
  rw [hn] at hpl ⊢
  clear hu hpc hn
  obtain ⟨w0, hw0⟩ : ∃ w0, (w.alloc (.cells #[.slice ua xs.length uc, .slice va ys.length vc] 33)).alloc (.cells #[.slice none 0 0, .slice none 0 0] 33) = w0 := ⟨_, rfl⟩
  have B0 : Below w.heap.size w w0 := hw0 ▸ ((Below.refl w.heap.size w).alloc (Nat.le_refl _) _).alloc (by simp) _
  have L0 : Loc w0 w.heap.size #[.slice ua xs.length uc, .slice va ys.length vc] := hw0 ▸ (loc_at w _ _ rfl).alloc _
  have R0 : Loc w0 (w.heap.size + 1) #[.slice none 0 0, .slice none 0 0] := hw0 ▸ loc_at _ _ _ (by simp)
  have s0 : w0.heap.size = w.heap.size + 2 := by rw [← hw0]; simp
  go_enter Tryd.func42, Tryd.ntmps42
  go_wp2_with (first
    | (at_make; refine wpList_make_full _ rfl _ _ 31 rfl (w.heap.size + 2) 3 i0 (.int .i64 0) 1 Tryd.underlying31 hi hz0 hz1 .i64 .i64 n n n rfl rfl rfl rfl (by rw [hz2]; omega) (by unfold maxLen; omega) (by omega) ?_; intro w1 ho1 hg1
       have k1 := kp_grown hg1
       have L1 := L0.kp k1 (by simp)
       have R1 := R0.kp k1 (by simp)
       have B1 := Below.kp B0 k1 B0.size (by simp)
       have x0 := L1.cell 0 rfl
       have x1 := L1.cell 1 rfl
       have s1 := hg1.size
       rw [s0] at ho1
       clear k1 hg1 L0 R0 B0 hw0))
  have ho1 : w1.ownsRow (w.heap.size + 2) 3 1 (.slice (some ⟨w.heap.size + 2, 0, none⟩) n n) n (chalf [] n) := by
    have e : (madeCells (Value.int IntKind.i64 0).cells (n * 1)).toList = chalf [] n := by
      rw [chalf_zero, Nat.mul_one]; exact toList_madeCells_one _ _
    rw [← e]; exact ho1
  have lc := (World.ownsRow.lt ho1 (w.heap.size + 2) rfl).2
  refine (unhide BO _ ((unhide RU).1.below B1 (Nat.le_refl _)) ((unhide RU).2.below B1 (Nat.le_refl _))).mono ?_
  rintro _ w2 ⟨rfl, b2⟩
  have s2 := b2.size
  have B2 := B1.trans (b2.mono B1.size)
  have R2 := R1.below b2 R1.lt
  have ho2 : w2.ownsRow (w.heap.size + 2) 3 1 (.slice (some ⟨w.heap.size + 2, 0, none⟩) n n) n (chalf [] n) := World.ownsRow.kept (row := none) ho1 ⟨b2.os, b2.tape, b2.output, b2.size, fun k hk _ => b2.block k hk⟩ (by simp [Value.ownBlock])
  clear BO RU L1 R1 B1 x0 x1 ho1 b2
  obtain ⟨x0, x1, x2, x3, y0, y1, y2, y3, hb⟩ : ∃ x0 x1 x2 x3 y0 y1 y2 y3 : Int, b8L xs ys = b8 x0 x1 x2 x3 y0 y1 y2 y3 := ⟨_, _, _, _, _, _, _, _, rfl⟩
  rw [hb]
  have B3 := B2.alloc B2.size (.cells (b8 x0 x1 x2 x3 y0 y1 y2 y3) 89)
  have R3 := R2.alloc (.cells (b8 x0 x1 x2 x3 y0 y1 y2 y3) 89)
  have ho3 := ho2.alloc (.cells (b8 x0 x1 x2 x3 y0 y1 y2 y3) 89)
  have K3 : Loc (w2.alloc (.cells (b8 x0 x1 x2 x3 y0 y1 y2 y3) 89)) w2.heap.size (b8L xs ys) := by rw [hb]; exact loc_at w2 _ _ rfl
  generalize hw3 : w2.alloc (.cells (b8 x0 x1 x2 x3 y0 y1 y2 y3) 89) = w3 at *
  clear hb B2 R2 ho2
  go_wp2
  clear hw3
  go_loopw [41] (fun i wr => ∃ k : Nat, k ≤ n ∧ i = .int .i64 k ∧ Loc wr w2.heap.size (b8L (payRun xs ys (ts.take k)).1 (payRun xs ys (ts.take k)).2.1) ∧ wr.ownsRow (w.heap.size + 2) 3 1 (.slice (some ⟨w.heap.size + 2, 0, none⟩) n n) n (chalf (payRun xs ys (ts.take k)).2.2 n) ∧ Loc wr (w.heap.size + 1) #[.slice none 0 0, .slice none 0 0] ∧ Below w.heap.size w wr) (fun i _ => n - (intOf i).toNat)
  case atStart => exact ⟨0, Nat.zero_le _, rfl, K3, ho3, R3, B3⟩
  case round =>
    clear K3 ho3 R3 B3
    obtain ⟨k, hk, rfl, K, ho, R, B⟩ := hrel
    have INV := payRun_inv xs ys ts hl k (by rw [unhide Hn]; exact hk)
    have lk := K.lt
    by_cases hlt : k < n
    · have SUC := hide (payRun_succ xs ys ts k (by rw [unhide Hn]; exact hlt))
      obtain ⟨g, off, rfl, hc⟩ : ∃ g off, pa = some ⟨g, off, none⟩ ∧ wr.cell? ⟨g, off + k, none⟩ = some (pfun (ts.getD k (0, 0, 0, 0))) := by
        rcases unhide HPC with h | ⟨g, off, h1, h2⟩
        · have := unhide Hn; rw [h] at this; simp at this; omega
        · have h3 := h2 k (by rw [unhide Hn]; exact hlt)
          exact ⟨g, off, h1, (B.cell (cell_lt h3)).trans h3⟩
      obtain ⟨t, ht⟩ : ∃ t, ts.getD k (0, 0, 0, 0) = t := ⟨_, rfl⟩
      rw [ht] at SUC hc
      obtain ⟨a, b, c, d⟩ := t
      obtain ⟨r, hr⟩ : ∃ r, payRun xs ys (ts.take k) = r := ⟨_, rfl⟩
      rw [hr] at SUC K ho INV
      have PA := hide fun w => paid_any a b c d r.1 r.2.1 w INV.1
      have HSET := hide fun c => chalf_set r.2.2 n k c INV.2 hlt
      have CLEN := chalf_len r.2.2 n (by omega)
      unfold payStep at SUC
      simp only at SUC
      clear ht hr INV
      obtain ⟨x0, x1, x2, x3, y0, y1, y2, y3, hb⟩ : ∃ x0 x1 x2 x3 y0 y1 y2 y3 : Int, b8L r.1 r.2.1 = b8 x0 x1 x2 x3 y0 y1 y2 y3 := ⟨_, _, _, _, _, _, _, _, rfl⟩
      obtain ⟨z0, z1, z2, z3, v0, v1, v2, v3, hb2⟩ : ∃ x0 x1 x2 x3 y0 y1 y2 y3 : Int, b8L (paidB r.1 r.2.1 a b c d).1 (paidB r.1 r.2.1 a b c d).2.1 = b8 x0 x1 x2 x3 y0 y1 y2 y3 := ⟨_, _, _, _, _, _, _, _, rfl⟩
      rw [hb, hb2] at PA
      rw [hb] at K
      obtain ⟨cd, hcd⟩ : ∃ cd, (paidB r.1 r.2.1 a b c d).2.2 = cd := ⟨_, rfl⟩
      rw [hcd] at SUC PA
      obtain ⟨⟨p0, p1, p2, p3⟩, ⟨p4, p5, p6, p7⟩⟩ := K.c8
      have SUC := hide (hide SUC)
      have hb2 := hide hb2
      clear hb hcd
      have ho := hide ho
      go_wp2_with fail
      refine (unhide PA _).mono ?_
      rintro _ w4 ⟨rfl, b4⟩
      have K4 := K.below b4 K.lt
      have R4 := R.below b4 R.lt
      have B4 := B.trans (b4.mono B.size)
      have ho4 : w4.ownsRow (w.heap.size + 2) 3 1 (.slice (some ⟨w.heap.size + 2, 0, none⟩) n n) n (chalf r.2.2 n) := World.ownsRow.kept (row := none) (unhide ho) ⟨b4.os, b4.tape, b4.output, b4.size, fun k hk _ => b4.block k hk⟩ (by simp [Value.ownBlock])
      clear p0 p1 p2 p3 p4 p5 p6 p7 PA K R B ho b4 hc
      obtain ⟨⟨p0, p1, p2, p3⟩, ⟨p4, p5, p6, p7⟩⟩ := K4.c8
      have FK := K4.frozen
      have K5 : Loc (put8 w4 w2.heap.size z0 z1 z2 z3 v0 v1 v2 v3) w2.heap.size (b8 z0 z1 z2 z3 v0 v1 v2 v3) := K4.put8
      have R5 := R4.put8_other (G := w2.heap.size) (by omega) z0 z1 z2 z3 v0 v1 v2 v3
      have B5 := put8_below (G := w2.heap.size) B4 (by omega) z0 z1 z2 z3 v0 v1 v2 v3
      have g5 := put8_kp w4 w2.heap.size z0 z1 z2 z3 v0 v1 v2 v3
      have ho5 : (put8 w4 w2.heap.size z0 z1 z2 z3 v0 v1 v2 v3).ownsRow (w.heap.size + 2) 3 1 (.slice (some ⟨w.heap.size + 2, 0, none⟩) n n) n (chalf r.2.2 n) := World.ownsRow.kept (row := some w2.heap.size) ho4 ⟨g5.os, g5.tape, g5.output, g5.size, fun k hk hn => g5.block k hk (fun e => hn (by rw [e]))⟩ (by right; simp [Value.ownBlock]; omega)
      generalize hw5 : put8 w4 w2.heap.size z0 z1 z2 z3 v0 v1 v2 v3 = w5 at *
      unfold put8 at hw5
      clear g5 ho4 R4 B4 K4
      obtain ⟨e5, he5⟩ : ∃ e5, w5.cell? ⟨w.heap.size + 2, k, none⟩ = some e5 := ⟨_, (ho5.cellAt k (by omega)).trans (List.getElem?_eq_getElem (by rw [CLEN]; exact hlt))⟩
      have F5 := ho5.frozenAt k
      have HS5 : Hid ((w5.setCell ⟨w.heap.size + 2, k, none⟩ (.int .i64 cd)).ownsRow (w.heap.size + 2) 3 1 (.slice (some ⟨w.heap.size + 2, 0, none⟩) n n) n (chalf (r.2.2 ++ [cd]) n)) := by
        rw [← unhide HSET cd]; exact (ho5.stored k _).1
      clear ho5
      go_wp2
      go_roundw
      case rel =>
        refine ⟨k + 1, by omega, by go_num, ?_, ?_, R5.other (by simp) _, Below.set B5 _ _ (by omega)⟩
        · rw [unhide (unhide SUC)]
          simp only
          rw [unhide hb2]
          exact K5.other (by simp; omega) _
        · rw [unhide (unhide SUC)]
          exact unhide HS5
      case measure => simp [intOf]; omega
    · have hkn : k = n := by omega
      have e1 : ts.take k = ts := List.take_of_length_le (by rw [unhide Hn]; omega)
      rw [e1] at K ho INV
      obtain ⟨r, hr⟩ : ∃ r, payRun xs ys ts = r := ⟨_, rfl⟩
      rw [hr] at K ho INV
      obtain ⟨x0, x1, x2, x3, y0, y1, y2, y3, e2, e3⟩ : ∃ x0 x1 x2 x3 y0 y1 y2 y3 : Int, r.1 = [x0, x1, x2, x3] ∧ r.2.1 = [y0, y1, y2, y3] := by
        obtain ⟨a, b, c, d, h1⟩ := four_of INV.1.1
        obtain ⟨e, f, g, h, h2⟩ := four_of INV.1.2.1
        exact ⟨a, b, c, d, e, f, g, h, h1, h2⟩
      have ho6 : OI wr (w.heap.size + 2) (.slice (some ⟨w.heap.size + 2, 0, none⟩) n n) r.2.2 := by
        unfold OI
        rw [← chalf_all r.2.2, INV.2, hkn]; exact ho
      rw [e2, e3] at K
      have K : Loc wr w2.heap.size (b8 x0 x1 x2 x3 y0 y1 y2 y3) := K
      obtain ⟨⟨p0, p1, p2, p3⟩, ⟨p4, p5, p6, p7⟩⟩ := K.c8
      have ho6 := hide ho6
      subst hkn
      clear ho e1
      go_wp2_with fail
      refine (ledger_any x0 x1 x2 x3 y0 y1 y2 y3 _).mono ?_
      rintro _ w6 ⟨ul, vl, rfl, ol, b6⟩
      have R6 := R.below b6 R.lt
      have B6 := B.trans (b6.mono B.size)
      have s6 := b6.size
      have ho7 := hide ((unhide ho6).below b6)
      obtain ⟨la, lc1, rfl⟩ := ol.has.form
      obtain ⟨ma, mc, rfl⟩ := ol.next.form
      have q0 := R6.cell 0 rfl
      have q1 := R6.cell 1 rfl
      have FR := R6.frozen
      have ol := hide ol
      clear p0 p1 p2 p3 p4 p5 p6 p7 R B b6 ho6 K
      go_wp2
      refine bodyPost_ret (v := .tuple #[lv (.slice la [x0, x1, x2, x3].length lc1) (.slice ma [y0, y1, y2, y3].length mc), .slice (some ⟨w.heap.size + 2, 0, none⟩) k k]) (by simp [results, Tryd.results42, go_sem, q0, q1]) rfl ?_
      have K7 : Kp w6 ((w6.setCell ⟨w.heap.size + 1, 0, none⟩ (.slice la [x0, x1, x2, x3].length lc1)).setCell ⟨w.heap.size + 1, 1, none⟩ (.slice ma [y0, y1, y2, y3].length mc)) (fun k => k = w.heap.size + 1) := (set_kp w6 _ 0 _).trans (set_kp _ _ 1 _)
      refine ⟨_, _, _, wr.heap.size, rfl, ?_, ?_, by omega, ?_, ?_⟩
      · rw [hr]; exact ((unhide ho7).kp K7 (fun j hj => by simp [Value.ownBlock] at hj; omega)).mono (by omega)
      · intro j hj; simp [Value.ownBlock] at hj; omega
      · rw [hr, e2, e3]
        exact ((unhide ol).kp K7 (fun j h1 _ e => by omega)).mono (Nat.le_refl _) (by simp)
      · exact Below.set (Below.set B6 _ _ (by omega)) _ _ (by omega)
end Go.Proofs.YthdehhenkgkkmaaDoor

/- impl.payEach of a ledger that is not right; of every ledger. -/
namespace Go.Proofs.YthdehhenkgkkmaaDoor
open Go.RowKit
set_option linter.unusedSectionVars false
variable [∀ (a b c d : Int), Decidable (Ok4 a b c d)]
variable [∀ (m a b c d : Int), Decidable (In4 m a b c d)]
variable [∀ (xs ys : List Int), Decidable (LOk xs ys)]

set_option maxHeartbeats 16000000 in
set_option maxRecDepth 100000 in
theorem payEach_bad (u v p : Value) (xs ys : List Int) (ts : List T4) (w : World) (hu : RI w u xs ∧ RI w v ys) (hp : RP w p ts) (hl : ¬ LOk xs ys) :
    Calls Tryd.prog 42 #[lv u v, p] w (EachEnd w (xs, ys, List.replicate ts.length 1)) := by
  obtain ⟨i0, hi, hz0, hz1, hz2⟩ := info_parts Tryd.info3
  have BO := hide fun w h1 h2 => bookOf_any u v xs ys w h1 h2
  obtain ⟨k0, k1, k2, k3, k4, k5, k6, k7, hb⟩ := bookC_form xs ys
  rw [hb, decide_eq_false hl] at BO
  clear hb
  have RU := hide hu
  obtain ⟨ua, uc, rfl⟩ : ∃ ua uc, u = .slice ua xs.length uc := by obtain ⟨_, ua, uc, h, _⟩ := hu.1; exact ⟨ua, uc, h⟩
  obtain ⟨va, vc, rfl⟩ : ∃ va vc, v = .slice va ys.length vc := by obtain ⟨_, va, vc, h, _⟩ := hu.2; exact ⟨va, vc, h⟩
  obtain ⟨hpl, pa, pc, rfl, hpc⟩ := hp
  obtain ⟨n, hn⟩ : ∃ n, ts.length = n := ⟨_, rfl⟩
  have Hn := hide hn
  rw [hn] at hpl ⊢
  clear hu hpc hn
  obtain ⟨w0, hw0⟩ : ∃ w0, (w.alloc (.cells #[.slice ua xs.length uc, .slice va ys.length vc] 33)).alloc (.cells #[.slice none 0 0, .slice none 0 0] 33) = w0 := ⟨_, rfl⟩
  have B0 : Below w.heap.size w w0 := hw0 ▸ ((Below.refl w.heap.size w).alloc (Nat.le_refl _) _).alloc (by simp) _
  have L0 : Loc w0 w.heap.size #[.slice ua xs.length uc, .slice va ys.length vc] := hw0 ▸ (loc_at w _ _ rfl).alloc _
  have R0 : Loc w0 (w.heap.size + 1) #[.slice none 0 0, .slice none 0 0] := hw0 ▸ loc_at _ _ _ (by simp)
  have s0 : w0.heap.size = w.heap.size + 2 := by rw [← hw0]; simp
  go_enter Tryd.func42, Tryd.ntmps42
  go_wp2_with (first
    | (at_make; refine wpList_make_full _ rfl _ _ 31 rfl (w.heap.size + 2) 3 i0 (.int .i64 0) 1 Tryd.underlying31 hi hz0 hz1 .i64 .i64 n n n rfl rfl rfl rfl (by rw [hz2]; omega) (by unfold maxLen; omega) (by omega) ?_; intro w1 ho1 hg1
       have k1 := kp_grown hg1
       have L1 := L0.kp k1 (by simp)
       have R1 := R0.kp k1 (by simp)
       have B1 := Below.kp B0 k1 B0.size (by simp)
       have x0 := L1.cell 0 rfl
       have x1 := L1.cell 1 rfl
       have s1 := hg1.size
       rw [s0] at ho1
       clear k1 hg1 L0 R0 B0 hw0))
  have ho1 : w1.ownsRow (w.heap.size + 2) 3 1 (.slice (some ⟨w.heap.size + 2, 0, none⟩) n n) n (chalf [] n) := by
    have e : (madeCells (Value.int IntKind.i64 0).cells (n * 1)).toList = chalf [] n := by
      rw [chalf_zero, Nat.mul_one]; exact toList_madeCells_one _ _
    rw [← e]; exact ho1
  have lc := (World.ownsRow.lt ho1 (w.heap.size + 2) rfl).2
  refine (unhide BO _ ((unhide RU).1.below B1 (Nat.le_refl _)) ((unhide RU).2.below B1 (Nat.le_refl _))).mono ?_
  rintro _ w2 ⟨rfl, b2⟩
  have s2 := b2.size
  have B2 := B1.trans (b2.mono B1.size)
  have R2 := R1.below b2 R1.lt
  have ho2 : w2.ownsRow (w.heap.size + 2) 3 1 (.slice (some ⟨w.heap.size + 2, 0, none⟩) n n) n (chalf [] n) := World.ownsRow.kept (row := none) ho1 ⟨b2.os, b2.tape, b2.output, b2.size, fun k hk _ => b2.block k hk⟩ (by simp [Value.ownBlock])
  have L2 := L1.below b2 L1.lt
  clear BO L1 R1 B1 x0 x1 ho1 b2
  have B3 := B2.alloc B2.size (.cells (b8 k0 k1 k2 k3 k4 k5 k6 k7) 89)
  have R3 := R2.alloc (.cells (b8 k0 k1 k2 k3 k4 k5 k6 k7) 89)
  have L3 := L2.alloc (.cells (b8 k0 k1 k2 k3 k4 k5 k6 k7) 89)
  have ho3 := ho2.alloc (.cells (b8 k0 k1 k2 k3 k4 k5 k6 k7) 89)
  generalize hw3 : w2.alloc (.cells (b8 k0 k1 k2 k3 k4 k5 k6 k7) 89) = w3 at *
  clear B2 R2 ho2 L2
  go_wp2
  clear hw3
  go_loopw [24] (fun i wr => ∃ k : Nat, k ≤ n ∧ i = .int .i64 k ∧ wr.ownsRow (w.heap.size + 2) 3 1 (.slice (some ⟨w.heap.size + 2, 0, none⟩) n n) n (chalf (List.replicate k 1) n) ∧ Loc wr w.heap.size #[.slice ua xs.length uc, .slice va ys.length vc] ∧ Loc wr (w.heap.size + 1) #[.slice none 0 0, .slice none 0 0] ∧ Below w.heap.size w wr) (fun i _ => n - (intOf i).toNat)
  case atStart => exact ⟨0, Nat.zero_le _, rfl, ho3, L3, R3, B3⟩
  case round =>
    clear ho3 L3 R3 B3
    obtain ⟨k, hk, rfl, ho, L, R, B⟩ := hrel
    by_cases hlt : k < n
    · obtain ⟨e5, he5⟩ : ∃ e5, wr.cell? ⟨w.heap.size + 2, k, none⟩ = some e5 := ⟨_, (ho.cellAt k (by omega)).trans (List.getElem?_eq_getElem (by rw [chalf_len _ _ (by simp; omega)]; exact hlt))⟩
      have F5 := ho.frozenAt k
      have HS5 : Hid ((wr.setCell ⟨w.heap.size + 2, k, none⟩ (.int .i64 1)).ownsRow (w.heap.size + 2) 3 1 (.slice (some ⟨w.heap.size + 2, 0, none⟩) n n) n (chalf (List.replicate (k + 1) 1) n)) := by
        rw [List.replicate_succ', ← chalf_set _ n k 1 (by simp) hlt]; exact (ho.stored k _).1
      clear ho
      go_wp2
      go_roundw
      case rel => exact ⟨k + 1, by omega, by go_num, unhide HS5, L.other (by simp) _, R.other (by simp) _, Below.set B _ _ (by omega)⟩
      case measure => simp [intOf]; omega
    · have hkn : k = n := by omega
      have ho6 : OI wr (w.heap.size + 2) (.slice (some ⟨w.heap.size + 2, 0, none⟩) n n) (List.replicate n 1) := by
        have e := chalf_all (List.replicate n (1 : Int))
        rw [List.length_replicate] at e
        unfold OI
        rw [List.length_replicate, ← e, ← hkn]; rw [← hkn] at ho; exact ho
      have ho6 := hide ho6
      have lc2 := World.ownsRow.lt (unhide ho6) (w.heap.size + 2) rfl
      subst hkn
      clear ho
      go_wp2_with fail
      refine wp_region_noPanic ?_
      refine wp_region_held_drew (S := (fun w' => w'.cell? ⟨w.heap.size, 0, none⟩ = some (.slice ua xs.length uc) ∧ w'.cell? ⟨w.heap.size, 1, none⟩ = some (.slice va ys.length vc))) (by kernel_rfl) ⟨L.cell 0 rfl, L.cell 1 rfl⟩ (fun hHeld => ?_)
      refine take_at (i := 0) (d := 31) (v := ?_) rfl rfl (by kernel_rfl) (by kernel_rfl) (by kernel_rfl) (fun _ _ _ h => h) (Or.inl ⟨by rfl, ?_⟩) (by assumption) ?_
      rotate_left
      · intro w hSw
        try dsimp only at hSw
        go_simp
        try with_reducible rfl
      simp only [Act.put, List.setIfInBounds_toArray, List.set_cons_zero, List.set_cons_succ]
      refine take_at (i := 1) (d := 32) (v := ?_) rfl rfl (by kernel_rfl) (by kernel_rfl) (by kernel_rfl) (fun _ _ _ h => h) (Or.inl ⟨by rfl, ?_⟩) (by assumption) ?_
      rotate_left
      · intro w hSw
        try dsimp only at hSw
        go_simp
        try with_reducible rfl
      simp only [Act.put, List.setIfInBounds_toArray, List.set_cons_zero, List.set_cons_succ]
      refine take_at (i := 3) (d := 34) (v := ?_) rfl rfl (by kernel_rfl) (by kernel_rfl) (by kernel_rfl) (fun _ _ _ h => h) (Or.inl ⟨by rfl, ?_⟩) (by assumption) ?_
      rotate_left
      · intro w hSw
        try dsimp only at hSw
        go_simp
        try with_reducible rfl
      simp only [Act.put, List.setIfInBounds_toArray, List.set_cons_zero, List.set_cons_succ]
      refine take_at (i := 4) (d := 35) (v := ?_) rfl rfl (by kernel_rfl) (by kernel_rfl) (by kernel_rfl) (fun _ _ _ h => h) (Or.inl ⟨by rfl, ?_⟩) (by assumption) ?_
      rotate_left
      · intro w hSw
        try dsimp only at hSw
        go_simp
        try with_reducible rfl
      simp only [Act.put, List.setIfInBounds_toArray, List.set_cons_zero, List.set_cons_succ]
      refine take_at (i := 7) (d := 38) (v := ?_) rfl rfl (by kernel_rfl) (by kernel_rfl) (by kernel_rfl) (fun _ _ _ h => h) (Or.inl ⟨by rfl, ?_⟩) (by assumption) ?_
      rotate_left
      · intro w hSw
        try dsimp only at hSw
        go_simp
        try with_reducible rfl
      simp only [Act.put, List.setIfInBounds_toArray, List.set_cons_zero, List.set_cons_succ]
      refine ready_at (i := 2) rfl (by kernel_rfl) (fun KK hKK => ?_)
      go_simp
      refine (copyInts_any _ xs _ ((unhide RU).1.below (Below.drew B) (Nat.le_refl _))).mono ?_
      rintro _ w4 ⟨u4, rfl, o4, b4⟩
      have b4 := undrew b4
      have L4 := L.below b4 L.lt
      have R4 := R.below b4 R.lt
      have B4 := B.trans (b4.mono B.size)
      have s4 := b4.size
      have t4 := World.ownsRow.lt o4
      have h4 := (unhide ho6).below b4
      clear hHeld
      refine hKK.out _ _ ⟨L4.cell 0 rfl, L4.cell 1 rfl⟩ (fun hHeld => ?_)
      clear hKK KK
      refine ready_at (i := 5) rfl (by kernel_rfl) (fun KK hKK => ?_)
      go_simp
      refine (copyInts_any _ ys _ ((unhide RU).2.below B4 (Nat.le_refl _))).mono ?_
      rintro _ w5 ⟨u5, rfl, o5, b5⟩
      have L5 := L4.below b5 L4.lt
      have R5 := R4.below b5 R4.lt
      have B5 := B4.trans (b5.mono B4.size)
      have s5 := b5.size
      have t5 := World.ownsRow.lt o5
      have o4' := o4.below b5
      have h5 := h4.below b5
      clear hHeld
      refine hKK.out _ _ ⟨L5.cell 0 rfl, L5.cell 1 rfl⟩ (fun hHeld => ?_)
      clear hKK KK
      obtain ⟨la, lc1, rfl⟩ := o4.form
      obtain ⟨ma, mc, rfl⟩ := o5.form
      refine take_at (i := 6) (d := 37) (v := ?_) rfl rfl (by kernel_rfl) (by kernel_rfl) (by kernel_rfl) (fun _ _ _ h => h) (Or.inl ⟨by rfl, ?_⟩) (by assumption) ?_
      rotate_left
      · intro w hSw
        try dsimp only at hSw
        go_simp
        try with_reducible rfl
      simp only [Act.put, List.setIfInBounds_toArray, List.set_cons_zero, List.set_cons_succ]
      have q0 := R5.cell 0 rfl
      have q1 := R5.cell 1 rfl
      have FR := R5.frozen
      refine ready_at (i := 8) rfl (by kernel_rfl) (fun KK hKK => ?_)
      go_simp
      have L6 := (L5.other (p := ⟨w.heap.size + 1, 0, none⟩) (by simp) (.slice la xs.length lc1)).other (p := ⟨w.heap.size + 1, 1, none⟩) (by simp) (.slice ma ys.length mc)
      clear hHeld
      refine hKK.out _ _ ⟨L6.cell 0 rfl, L6.cell 1 rfl⟩ (fun hHeld => ?_)
      clear hKK KK
      refine take_at (i := 9) (d := 5) (v := ?_) rfl rfl (by kernel_rfl) (by kernel_rfl) (by kernel_rfl) (fun _ _ _ h => h) (Or.inl ⟨by rfl, ?_⟩) (by assumption) ?_
      rotate_left
      · intro w hSw
        try dsimp only at hSw
        go_simp
        try with_reducible rfl
      simp only [Act.put, List.setIfInBounds_toArray, List.set_cons_zero, List.set_cons_succ]
      clear hHeld L6 L5 L4 L
      refine wpAnyH_done (by kernel_rfl) ?_ _
      refine NoPanic.normal ?_
      go_wp2
      refine bodyPost_ret (v := .tuple #[lv (.slice la xs.length lc1) (.slice ma ys.length mc), .slice (some ⟨w.heap.size + 2, 0, none⟩) k k]) (by simp [results, Tryd.results42, go_sem, q0, q1]) rfl ?_
      have K7 : Kp w5 ((w5.setCell ⟨w.heap.size + 1, 0, none⟩ (.slice la xs.length lc1)).setCell ⟨w.heap.size + 1, 1, none⟩ (.slice ma ys.length mc)) (fun k => k = w.heap.size + 1) := (set_kp w5 _ 0 _).trans (set_kp _ _ 1 _)
      have e0 : wr.drew.heap.size = wr.heap.size := rfl
      rw [e0] at t4
      refine ⟨_, _, _, wr.heap.size, rfl, ?_, ?_, by omega, ⟨?_, ?_, ?_, ?_, ?_⟩, ?_⟩
      · exact (h5.kp K7 (fun j hj => by simp [Value.ownBlock] at hj; omega)).mono (by omega)
      · intro j hj; simp [Value.ownBlock] at hj; omega
      · exact (o4'.kp K7 (fun j hj => by have := t4 j hj; omega)).mono (Nat.le_refl _)
      · exact (o5.kp K7 (fun j hj => by have := t5 j hj; omega)).mono (by omega)
      · intro j hj; have := t4 j hj; simp; omega
      · intro j hj; have := t5 j hj; simp; omega
      · intro j hj h'; have := t4 j hj; have := t5 j h'; omega
      · exact Below.set (Below.set B5 _ _ (by omega)) _ _ (by omega)

theorem payEach_any (u v p : Value) (xs ys : List Int) (ts : List T4) (w : World) (hu : RI w u xs ∧ RI w v ys) (hp : RP w p ts) :
    Calls Tryd.prog 42 #[lv u v, p] w (EachEnd w (eachAns xs ys ts)) := by
  unfold eachAns
  by_cases h : LOk xs ys
  · rw [if_pos h]; exact payEach_ok u v p xs ys ts w hu hp h
  · rw [if_neg h]; exact payEach_bad u v p xs ys ts w hu hp h
end Go.Proofs.YthdehhenkgkkmaaDoor

/- impl.Pay. -/
namespace Go.Proofs.YthdehhenkgkkmaaDoor
open Go.RowKit
set_option linter.unusedSectionVars false
variable [∀ (a b c d : Int), Decidable (Ok4 a b c d)]
variable [∀ (m a b c d : Int), Decidable (In4 m a b c d)]
variable [∀ (xs ys : List Int), Decidable (LOk xs ys)]

theorem each_one (xs ys : List Int) (a b c d : Int) : eachAns xs ys [(a, b, c, d)] = ((payAns xs ys a b c d).1, (payAns xs ys a b c d).2.1, [(payAns xs ys a b c d).2.2]) := by
  unfold eachAns payAns
  split <;> rfl
/-- What Pay leaves. -/
def PayEnd (w : World) (r : List Int × List Int × Int) (o : Ending) (w' : World) : Prop :=
  ∃ u v, o = .returned (.tuple #[lv u v, .int .i64 r.2.2]) ∧ OL w' w.heap.size w'.heap.size u v r.1 r.2.1 ∧ Below w.heap.size w w'

set_option maxHeartbeats 8000000 in
set_option maxRecDepth 100000 in
theorem implPay (u v : Value) (a b c d : Int) (xs ys : List Int) (w : World) (hu : RI w u xs ∧ RI w v ys) :
    Calls Tryd.prog 28 #[lv u v, txv a b c d] w (PayEnd w (payAns xs ys a b c d)) := by
  have EA := hide fun p w h1 h2 => payEach_any u v p xs ys [(a, b, c, d)] w h1 h2
  rw [each_one] at EA
  have RU := hide hu
  obtain ⟨ua, uc, rfl⟩ : ∃ ua uc, u = .slice ua xs.length uc := by obtain ⟨_, ua, uc, h, _⟩ := hu.1; exact ⟨ua, uc, h⟩
  obtain ⟨va, vc, rfl⟩ : ∃ va vc, v = .slice va ys.length vc := by obtain ⟨_, va, vc, h, _⟩ := hu.2; exact ⟨va, vc, h⟩
  obtain ⟨r, hr⟩ : ∃ r, payAns xs ys a b c d = r := ⟨_, rfl⟩
  rw [hr] at EA ⊢
  clear hu hr
  obtain ⟨w0, hw0⟩ : ∃ w0, (((w.alloc (.cells #[.slice ua xs.length uc, .slice va ys.length vc] 33)).alloc (.cells (r4 a b c d) 26)).alloc (.cells #[.slice none 0 0, .slice none 0 0] 33)).alloc (.cells #[pfun (a, b, c, d)] 72) = w0 := ⟨_, rfl⟩
  have B0 : Below w.heap.size w w0 := hw0 ▸ ((((Below.refl w.heap.size w).alloc (Nat.le_refl _) _).alloc (by simp) _).alloc (by simp; omega) _).alloc (by simp; omega) _
  have R0 : Loc w0 (w.heap.size + 1 + 1) #[.slice none 0 0, .slice none 0 0] := hw0 ▸ (loc_at _ _ _ (by simp)).alloc _
  have P0 : Loc w0 (w.heap.size + 1 + 1 + 1) #[pfun (a, b, c, d)] := hw0 ▸ loc_at _ _ _ (by simp)
  have HP : RP w0 (.slice (some ⟨w.heap.size + 1 + 1 + 1, 0, none⟩) 1 1) [(a, b, c, d)] := by
    refine ⟨by simp, _, 1, rfl, .inr ⟨_, 0, rfl, fun k hk => ?_⟩⟩
    match k, hk with
    | 0, _ => exact P0.cell 0 rfl
  go_enter Tryd.func28, Tryd.ntmps28
  go_wp2_with fail
  clear hw0
  refine (unhide EA _ _ ⟨(unhide RU).1.below B0 (Nat.le_refl _), (unhide RU).2.below B0 (Nat.le_refl _)⟩ HP).mono ?_
  rintro _ w1 ⟨ul, vl, cs, mid, rfl, oc, lt1, hm, ol, b1⟩
  have s1 := b1.size
  have R1 := R0.below b1 R0.lt
  have B1 := B0.trans (b1.mono B0.size)
  have lr := R0.lt
  obtain ⟨la, lc, rfl⟩ := ol.has.form
  obtain ⟨ma, mc, rfl⟩ := ol.next.form
  obtain ⟨g, cc, rfl⟩ : ∃ g cc, cs = .slice (some ⟨g, 0, none⟩) 1 cc := by
    rcases oc.2 with ⟨_, h0⟩ | ⟨g, cap, cur, h1, _⟩
    · cases h0
    · exact ⟨g, cap, h1⟩
  have c1 : w1.cell? ⟨g, 0, none⟩ = some (.int .i64 r.2.2) := World.ownsRow.cellAt oc 0 (by simp)
  have lg := World.ownsRow.lt oc g rfl
  obtain ⟨w2, hw2⟩ : ∃ w2, w1.alloc (.cells #[.slice la r.1.length lc, .slice ma r.2.1.length mc] 33) = w2 := ⟨_, rfl⟩
  have A2 : Loc w2 w1.heap.size #[.slice la r.1.length lc, .slice ma r.2.1.length mc] := hw2 ▸ loc_at w1 _ _ rfl
  have R2 : Loc w2 (w.heap.size + 1 + 1) #[.slice none 0 0, .slice none 0 0] := hw2 ▸ R1.alloc _
  have B2 : Below w.heap.size w w2 := hw2 ▸ B1.alloc B1.size _
  have ol2 := hide (show OL w2 mid w1.heap.size (.slice la r.1.length lc) (.slice ma r.2.1.length mc) r.1 r.2.1 from hw2 ▸ ol.alloc _)
  have s2 : w2.heap.size = w1.heap.size + 1 := by rw [← hw2]; simp
  have c2 : w2.cell? ⟨g, 0, none⟩ = some (.int .i64 r.2.2) := by rw [← hw2]; exact (((Below.refl w1.heap.size w1).alloc (Nat.le_refl _) _).cell (p := ⟨g, 0, none⟩) lg.2).trans c1
  clear oc ol b1 R0 P0 HP B0 EA R1 B1 c1
  go_wp2_with fail
  clear hw2
  refine wp_region_noPanic ?_
  refine wp_region_held_drew (S := (fun w' => (w'.cell? ⟨w1.heap.size, 0, none⟩ = some (.slice la r.1.length lc) ∧ w'.cell? ⟨w1.heap.size, 1, none⟩ = some (.slice ma r.2.1.length mc)) ∧ w'.cell? ⟨g, 0, none⟩ = some (.int .i64 r.2.2))) (by kernel_rfl) ⟨⟨A2.cell 0 rfl, A2.cell 1 rfl⟩, c2⟩ (fun hHeld => ?_)
  refine take_at (i := 0) (d := 16) (v := ?_) rfl rfl (by kernel_rfl) (by kernel_rfl) (by kernel_rfl) (fun _ _ _ h => h) (Or.inl ⟨by rfl, ?_⟩) (by assumption) ?_
  rotate_left
  · intro w hSw
    try dsimp only at hSw
    go_simp
    try with_reducible rfl
  simp only [Act.put, List.setIfInBounds_toArray, List.set_cons_zero, List.set_cons_succ]
  refine take_at (i := 1) (d := 17) (v := ?_) rfl rfl (by kernel_rfl) (by kernel_rfl) (by kernel_rfl) (fun _ _ _ h => h) (Or.inl ⟨by rfl, ?_⟩) (by assumption) ?_
  rotate_left
  · intro w hSw
    try dsimp only at hSw
    go_simp
    try with_reducible rfl
  simp only [Act.put, List.setIfInBounds_toArray, List.set_cons_zero, List.set_cons_succ]
  refine take_at (i := 2) (d := 18) (v := ?_) rfl rfl (by kernel_rfl) (by kernel_rfl) (by kernel_rfl) (fun _ _ _ h => h) (Or.inl ⟨by rfl, ?_⟩) (by assumption) ?_
  rotate_left
  · intro w hSw
    try dsimp only at hSw
    go_simp
    try with_reducible rfl
  simp only [Act.put, List.setIfInBounds_toArray, List.set_cons_zero, List.set_cons_succ]
  refine take_at (i := 3) (d := 19) (v := ?_) rfl rfl (by kernel_rfl) (by kernel_rfl) (by kernel_rfl) (fun _ _ _ h => h) (Or.inl ⟨by rfl, ?_⟩) (by assumption) ?_
  rotate_left
  · intro w hSw
    try dsimp only at hSw
    go_simp
    try with_reducible rfl
  simp only [Act.put, List.setIfInBounds_toArray, List.set_cons_zero, List.set_cons_succ]
  have q0 := R2.cell 0 rfl
  have q1 := R2.cell 1 rfl
  have FR := R2.frozen
  refine ready_at (i := 4) rfl (by kernel_rfl) (fun KK hKK => ?_)
  go_simp
  have A3 := (A2.other (p := ⟨w.heap.size + 1 + 1, 0, none⟩) (by simp; omega) (.slice la r.1.length lc)).other (p := ⟨w.heap.size + 1 + 1, 1, none⟩) (by simp; omega) (.slice ma r.2.1.length mc)
  have K3 : Kp w2 ((w2.setCell ⟨w.heap.size + 1 + 1, 0, none⟩ (.slice la r.1.length lc)).setCell ⟨w.heap.size + 1 + 1, 1, none⟩ (.slice ma r.2.1.length mc)) (fun k => k = w.heap.size + 1 + 1) := (set_kp w2 _ 0 _).trans (set_kp _ _ 1 _)
  have c3 := K3.cell c2 (show ¬ g = w.heap.size + 1 + 1 by omega)
  clear hHeld
  refine hKK.out _ _ ⟨⟨A3.cell 0 rfl, A3.cell 1 rfl⟩, c3⟩ (fun hHeld => ?_)
  clear hKK KK
  refine take_at (i := 5) (d := 5) (v := ?_) rfl rfl (by kernel_rfl) (by kernel_rfl) (by kernel_rfl) (fun _ _ _ h => h) (Or.inl ⟨by rfl, ?_⟩) (by assumption) ?_
  rotate_left
  · intro w hSw
    try dsimp only at hSw
    go_simp
    try with_reducible rfl
  simp only [Act.put, List.setIfInBounds_toArray, List.set_cons_zero, List.set_cons_succ]
  clear hHeld A3 c3
  refine wpAnyH_done (by kernel_rfl) ?_ _
  refine NoPanic.normal ?_
  go_wp2
  refine bodyPost_ret (v := .tuple #[lv (.slice la r.1.length lc) (.slice ma r.2.1.length mc), .int .i64 r.2.2]) (by simp [results, Tryd.results28, go_sem, q0, q1]) rfl ?_
  refine ⟨_, _, rfl, (((unhide ol2).kp K3 (fun k h1 h2 e => by omega)).below (Below.drew (Below.refl _ _))).mono (by omega) (by simp; omega), ?_⟩
  exact Below.drew (Below.set (Below.set B2 _ _ (by omega)) _ _ (by omega))
end Go.Proofs.YthdehhenkgkkmaaDoor

/- 'append([]int(..), list...)' onto an empty list, as one step of a region that draws. -/
namespace Go.Proofs.YthdehhenkgkkmaaDoor
open Go.RowKit
set_option linter.unusedSectionVars false
variable [∀ (a b c d : Int), Decidable (Ok4 a b c d)]
variable [∀ (m a b c d : Int), Decidable (In4 m a b c d)]
variable [∀ (xs ys : List Int), Decidable (LOk xs ys)]

theorem run_append_nothing (ty : TypeId) (g cap : Nat) (w : World) : (Builtin.append_ #[31, 31] ty #[.slice (some ⟨g, 0, none⟩) 0 0, .slice none 0 cap]).run Tryd.prog w = .ok (.slice (some ⟨g, 0, none⟩) 0 0) w := by
  obtain ⟨i0, hi, hz0, hz1, hz2⟩ := info_parts Tryd.info3
  simp [Builtin.append_, run_underlying Tryd.underlying31, sizeOf, typeInfo, hi, Builtin.lenOf, Builtin.firstCells, storeCells]
theorem step_copy {ops : Array Oper} {o : Oper} {a : Act} {w : World} {K : Act → World → Prop} {Q : Exit → Act → World → Prop} {E : Prop}
    {d : Nat} (hd : o.dst = some d) (hg : o.guard = none) (s x : Operand) (hop : o.op = Op.call { callee := Callee.builtin Builtin.append, args := #[s, x], argTypes := #[31, 31] })
    (g : Nat) (hs : a.eval s = .slice (some ⟨g, 0, none⟩) 0 0) (xs : List Int) (hx : RI w (a.eval x) xs) (hown : OI w g (.slice (some ⟨g, 0, none⟩) 0 0) [])
    (hK : ∀ v' w', OI w' g v' xs → (∀ k, v'.ownBlock = some k → k = g ∨ w.heap.size ≤ k) → Below w.heap.size w w' → K (a.put (some d) v') w') :
    if Region.wanted o (yielded ops a.tmps) = true then Oper.wp Tryd.prog o a w K Q else E := by
  rw [← hd] at hK
  obtain ⟨i0, hi, hz0, hz1, hz2⟩ := info_parts Tryd.info3
  obtain ⟨hl, ao, cap, hv, h⟩ := hx
  have hw : Region.wanted o (yielded ops a.tmps) = true := by simp [Region.wanted, hg]
  by_cases h0 : xs = []
  · subst h0
    match ao with
    | some ad =>
      refine step_append_room hg s x 31 hop 3 i0 1 Tryd.underlying31 hi hz1 g 0 0 0 hs ad 0 cap [] hv rfl (fun j u hj => by simp at hj) (fun u hu => by simp at hu) (Nat.le_refl _) (fun j hj => by simp at hj) ?_
      exact hK _ _ hown (fun k hk => .inl (by simpa [Value.ownBlock] using hk.symm)) (Below.refl _ _)
    | none =>
      have hrun := run_append_nothing o.type g cap w
      rw [if_pos hw]
      unfold Oper.wp
      simp [execOp, hop, resolve, invoke, builtin, hs, hv, hrun, Result.andThen]
      exact hK _ _ hown (fun k hk => .inl (by simpa [Value.ownBlock] using hk.symm)) (Below.refl _ _)
  · obtain ⟨b, off, rfl, hc⟩ := h.resolve_left h0
    have hn : 0 < xs.length := List.length_pos_iff.2 h0
    refine step_append_grows hg s x 31 hop 3 i0 (.int .i64 0) 1 8 Tryd.underlying31 hi hz0 hz1 hz2 rfl (by decide) (some ⟨g, 0, none⟩) 0 0 [] hs (by simp) (by simp) (fun b hb j u hj => by simp at hj) ⟨b, off, none⟩ xs.length cap (xs.map (Value.int .i64)) hv (by simp) (news_cells hc) (ints_plain xs) (by omega) (by unfold maxLen; omega) (by omega) ?_
    intro v' w' ho hgr
    have ho' : OI w' w.heap.size v' xs := by simpa [OI] using ho
    exact hK _ _ (ho'.mono (Nat.le_of_lt (World.ownsRow.lt hown g rfl).2)) (fun k hk => .inr (World.ownsRow.lt ho' k hk).1) ((Below.refl _ _).grown hgr (Nat.le_refl _) (by simp))
end Go.Proofs.YthdehhenkgkkmaaDoor

/- spec.l3Copy. -/
namespace Go.Proofs.YthdehhenkgkkmaaDoor
open Go.RowKit
set_option linter.unusedSectionVars false
variable [∀ (a b c d : Int), Decidable (Ok4 a b c d)]
variable [∀ (m a b c d : Int), Decidable (In4 m a b c d)]
variable [∀ (xs ys : List Int), Decidable (LOk xs ys)]

set_option maxHeartbeats 16000000 in
set_option maxRecDepth 100000 in
theorem l3Copy_any (u v : Value) (xs ys : List Int) (w : World) (hu : RI w u xs ∧ RI w v ys) :
    Calls Tryd.prog 36 #[lv u v] w fun o w' => ∃ u' v', o = .returned (lv u' v') ∧ OL w' w.heap.size w'.heap.size u' v' xs ys ∧ Below w.heap.size w w' := by
  have RU := hide hu
  obtain ⟨ua, uc, rfl⟩ : ∃ ua uc, u = .slice ua xs.length uc := by obtain ⟨_, ua, uc, h, _⟩ := hu.1; exact ⟨ua, uc, h⟩
  obtain ⟨va, vc, rfl⟩ : ∃ va vc, v = .slice va ys.length vc := by obtain ⟨_, va, vc, h, _⟩ := hu.2; exact ⟨va, vc, h⟩
  clear hu
  obtain ⟨w0, hw0⟩ : ∃ w0, (w.alloc (.cells #[.slice ua xs.length uc, .slice va ys.length vc] 33)).alloc (.cells #[.slice none 0 0, .slice none 0 0] 33) = w0 := ⟨_, rfl⟩
  have B0 : Below w.heap.size w w0 := hw0 ▸ ((Below.refl w.heap.size w).alloc (Nat.le_refl _) _).alloc (by simp) _
  have L0 : Loc w0 w.heap.size #[.slice ua xs.length uc, .slice va ys.length vc] := hw0 ▸ (loc_at w _ _ rfl).alloc _
  have R0 : Loc w0 (w.heap.size + 1) #[.slice none 0 0, .slice none 0 0] := hw0 ▸ loc_at _ _ _ (by simp)
  go_enter Tryd.func36, Tryd.ntmps36
  go_wp2_with fail
  clear hw0
  refine wp_region_noPanic ?_
  refine wp_region_held_drew (S := (fun w' => w'.cell? ⟨w.heap.size, 0, none⟩ = some (.slice ua xs.length uc) ∧ w'.cell? ⟨w.heap.size, 1, none⟩ = some (.slice va ys.length vc))) (by kernel_rfl) ⟨L0.cell 0 rfl, L0.cell 1 rfl⟩ (fun hHeld => ?_)
  obtain ⟨wd, hd⟩ : ∃ wd, w0.drew = wd := ⟨_, rfl⟩
  have Lwd : Loc wd w.heap.size #[.slice ua xs.length uc, .slice va ys.length vc] := hd ▸ L0
  have Rwd : Loc wd (w.heap.size + 1) #[.slice none 0 0, .slice none 0 0] := hd ▸ R0
  have Bwd : Below w.heap.size w wd := hd ▸ Below.drew B0
  have lwd := Rwd.lt
  rw [hd] at hHeld ⊢
  clear hd
  refine take_at (i := 1) (d := 4) (v := ?_) rfl rfl (by kernel_rfl) (by kernel_rfl) (by kernel_rfl) (fun _ _ _ h => h) (Or.inl ⟨by rfl, ?_⟩) (by assumption) ?_
  rotate_left
  · intro w hSw
    try dsimp only at hSw
    go_simp
    try with_reducible rfl
  simp only [Act.put, List.setIfInBounds_toArray, List.set_cons_zero, List.set_cons_succ]
  refine take_at (i := 2) (d := 5) (v := ?_) rfl rfl (by kernel_rfl) (by kernel_rfl) (by kernel_rfl) (fun _ _ _ h => h) (Or.inl ⟨by rfl, ?_⟩) (by assumption) ?_
  rotate_left
  · intro w hSw
    try dsimp only at hSw
    go_simp
    try with_reducible rfl
  simp only [Act.put, List.setIfInBounds_toArray, List.set_cons_zero, List.set_cons_succ]
  refine take_at (i := 5) (d := 8) (v := ?_) rfl rfl (by kernel_rfl) (by kernel_rfl) (by kernel_rfl) (fun _ _ _ h => h) (Or.inl ⟨by rfl, ?_⟩) (by assumption) ?_
  rotate_left
  · intro w hSw
    try dsimp only at hSw
    go_simp
    try with_reducible rfl
  simp only [Act.put, List.setIfInBounds_toArray, List.set_cons_zero, List.set_cons_succ]
  refine take_at (i := 6) (d := 9) (v := ?_) rfl rfl (by kernel_rfl) (by kernel_rfl) (by kernel_rfl) (fun _ _ _ h => h) (Or.inl ⟨by rfl, ?_⟩) (by assumption) ?_
  rotate_left
  · intro w hSw
    try dsimp only at hSw
    go_simp
    try with_reducible rfl
  simp only [Act.put, List.setIfInBounds_toArray, List.set_cons_zero, List.set_cons_succ]
  refine wpAnyH_ready (rs := [0, 4]) (by kernel_rfl) (by simp) (AllReadyH.cons rfl (fun KK hKK => ?_) (AllReadyH.cons rfl (fun KK hKK => ?_) AllReadyH.nil))
  · go_simp
    obtain ⟨a1, ha1⟩ : ∃ x, wd.alloc (.cells #[] 3) = x := ⟨_, rfl⟩
    have ba1 : Below wd.heap.size wd a1 := ha1 ▸ (Below.refl _ _).alloc (Nat.le_refl _) _
    have za1 : wd.heap.size < a1.heap.size := by rw [← ha1]; simp
    have La1 := Lwd.below ba1 Lwd.lt
    have Ra1 := Rwd.below ba1 Rwd.lt
    have Ba1 := Bwd.trans (ba1.mono Bwd.size)
    have sa1 := ba1.size
    have E0a1 : OI a1 wd.heap.size (.slice (some ⟨wd.heap.size, 0, none⟩) 0 0) [] := ha1 ▸ World.ownsRow_lit wd #[] 0 (Nat.le_refl _) (by unfold maxLen; omega) rfl
    rw [ha1]
    clear hHeld ha1
    refine hKK.out _ _ ⟨La1.cell 0 rfl, La1.cell 1 rfl⟩ (fun hHeld => ?_)
    clear hKK KK
    refine wpAnyH_ready (rs := [3, 4]) (by kernel_rfl) (by simp) (AllReadyH.cons rfl (fun KK hKK => ?_) (AllReadyH.cons rfl (fun KK hKK => ?_) AllReadyH.nil))
    · refine step_copy (d := 6) rfl rfl (.tmp 3) (.tmp 5) rfl wd.heap.size rfl xs ((unhide RU).1.below Ba1 (Nat.le_refl _)) E0a1 ?_
      intro v3 a2 o3 n3 ba2
      have La2 := La1.below ba2 La1.lt
      have Ra2 := Ra1.below ba2 Ra1.lt
      have Ba2 := Ba1.trans (ba2.mono Ba1.size)
      have sa2 := ba2.size
      have E0a2 := E0a1.below ba2
      have OHa2 := o3
      have t3 := World.ownsRow.lt o3
      clear hHeld
      refine hKK.out _ _ ⟨La2.cell 0 rfl, La2.cell 1 rfl⟩ (fun hHeld => ?_)
      clear hKK KK
      simp only [Act.put, List.setIfInBounds_toArray, List.set_cons_zero, List.set_cons_succ]
      refine ready_at (i := 4) rfl (by kernel_rfl) (fun KK hKK => ?_)
      go_simp
      obtain ⟨a3, ha3⟩ : ∃ x, a2.alloc (.cells #[] 3) = x := ⟨_, rfl⟩
      have ba3 : Below a2.heap.size a2 a3 := ha3 ▸ (Below.refl _ _).alloc (Nat.le_refl _) _
      have za3 : a2.heap.size < a3.heap.size := by rw [← ha3]; simp
      have La3 := La2.below ba3 La2.lt
      have Ra3 := Ra2.below ba3 Ra2.lt
      have Ba3 := Ba2.trans (ba3.mono Ba2.size)
      have sa3 := ba3.size
      have E0a3 := E0a2.below ba3
      have OHa3 := OHa2.below ba3
      have E4a3 : OI a3 a2.heap.size (.slice (some ⟨a2.heap.size, 0, none⟩) 0 0) [] := ha3 ▸ World.ownsRow_lit a2 #[] 0 (Nat.le_refl _) (by unfold maxLen; omega) rfl
      rw [ha3]
      clear hHeld ha3
      refine hKK.out _ _ ⟨La3.cell 0 rfl, La3.cell 1 rfl⟩ (fun hHeld => ?_)
      clear hKK KK
      refine ready_at (i := 7) rfl (by kernel_rfl) (fun KK hKK => ?_)
      refine step_copy (d := 10) rfl rfl (.tmp 7) (.tmp 9) rfl a2.heap.size rfl ys ((unhide RU).2.below Ba3 (Nat.le_refl _)) E4a3 ?_
      intro v7 a4 o7 n7 ba4
      have La4 := La3.below ba4 La3.lt
      have Ra4 := Ra3.below ba4 Ra3.lt
      have Ba4 := Ba3.trans (ba4.mono Ba3.size)
      have sa4 := ba4.size
      have E0a4 := E0a3.below ba4
      have E4a4 := E4a3.below ba4
      have OHa4 := OHa3.below ba4
      have t7 := World.ownsRow.lt o7
      clear hHeld
      refine hKK.out _ _ ⟨La4.cell 0 rfl, La4.cell 1 rfl⟩ (fun hHeld => ?_)
      clear hKK KK
      simp only [Act.put, List.setIfInBounds_toArray, List.set_cons_zero, List.set_cons_succ]
      obtain ⟨la, lc, hla⟩ := OHa4.form
      obtain ⟨ma, mc, hma⟩ := o7.form
      subst hla hma
      refine take_at (i := 8) (d := 11) (v := ?_) rfl rfl (by kernel_rfl) (by kernel_rfl) (by kernel_rfl) (fun _ _ _ h => h) (Or.inl ⟨by rfl, ?_⟩) (by assumption) ?_
      rotate_left
      · intro w hSw
        try dsimp only at hSw
        go_simp
        try with_reducible rfl
      simp only [Act.put, List.setIfInBounds_toArray, List.set_cons_zero, List.set_cons_succ]
      have q0 := Ra4.cell 0 rfl
      have q1 := Ra4.cell 1 rfl
      have FR := Ra4.frozen
      refine ready_at (i := 9) rfl (by kernel_rfl) (fun KK hKK => ?_)
      go_simp
      have L9 := (La4.other (p := ⟨w.heap.size + 1, 0, none⟩) (by simp) (.slice la xs.length lc)).other (p := ⟨w.heap.size + 1, 1, none⟩) (by simp) (.slice ma ys.length mc)
      clear hHeld
      refine hKK.out _ _ ⟨L9.cell 0 rfl, L9.cell 1 rfl⟩ (fun hHeld => ?_)
      clear hKK KK
      clear hHeld L9
      refine wpAnyH_done (by kernel_rfl) ?_ _
      refine NoPanic.normal ?_
      go_wp2
      refine bodyPost_ret (v := lv (.slice la xs.length lc) (.slice ma ys.length mc)) (by simp [results, Tryd.results36, go_sem, q0, q1]) rfl ?_
      have K7 : Kp a4 ((a4.setCell ⟨w.heap.size + 1, 0, none⟩ (.slice la xs.length lc)).setCell ⟨w.heap.size + 1, 1, none⟩ (.slice ma ys.length mc)) (fun k => k = w.heap.size + 1) := (set_kp a4 _ 0 _).trans (set_kp _ _ 1 _)
      refine ⟨_, _, rfl, ⟨?_, ?_, ?_, ?_, ?_⟩, ?_⟩
      · exact (OHa4.kp K7 (fun j hj => by have := t3 j hj; omega)).mono (by omega)
      · exact (o7.kp K7 (fun j hj => by have := t7 j hj; omega)).mono (by omega)
      · intro j hj; have := t3 j hj; simp; omega
      · intro j hj; have := t7 j hj; simp; omega
      · intro j hj h'; have := t3 j hj; have := t7 j h'; have := n3 j hj; have := n7 j h'; omega
      · exact Below.set (Below.set Ba4 _ _ (by omega)) _ _ (by omega)
    · go_simp
      obtain ⟨a5, ha5⟩ : ∃ x, a1.alloc (.cells #[] 3) = x := ⟨_, rfl⟩
      have ba5 : Below a1.heap.size a1 a5 := ha5 ▸ (Below.refl _ _).alloc (Nat.le_refl _) _
      have za5 : a1.heap.size < a5.heap.size := by rw [← ha5]; simp
      have La5 := La1.below ba5 La1.lt
      have Ra5 := Ra1.below ba5 Ra1.lt
      have Ba5 := Ba1.trans (ba5.mono Ba1.size)
      have sa5 := ba5.size
      have E0a5 := E0a1.below ba5
      have E4a5 : OI a5 a1.heap.size (.slice (some ⟨a1.heap.size, 0, none⟩) 0 0) [] := ha5 ▸ World.ownsRow_lit a1 #[] 0 (Nat.le_refl _) (by unfold maxLen; omega) rfl
      rw [ha5]
      clear hHeld ha5
      refine hKK.out _ _ ⟨La5.cell 0 rfl, La5.cell 1 rfl⟩ (fun hHeld => ?_)
      clear hKK KK
      refine ready_at (i := 3) rfl (by kernel_rfl) (fun KK hKK => ?_)
      refine step_copy (d := 6) rfl rfl (.tmp 3) (.tmp 5) rfl wd.heap.size rfl xs ((unhide RU).1.below Ba5 (Nat.le_refl _)) E0a5 ?_
      intro v3 a6 o3 n3 ba6
      have La6 := La5.below ba6 La5.lt
      have Ra6 := Ra5.below ba6 Ra5.lt
      have Ba6 := Ba5.trans (ba6.mono Ba5.size)
      have sa6 := ba6.size
      have E0a6 := E0a5.below ba6
      have E4a6 := E4a5.below ba6
      have OHa6 := o3
      have t3 := World.ownsRow.lt o3
      clear hHeld
      refine hKK.out _ _ ⟨La6.cell 0 rfl, La6.cell 1 rfl⟩ (fun hHeld => ?_)
      clear hKK KK
      simp only [Act.put, List.setIfInBounds_toArray, List.set_cons_zero, List.set_cons_succ]
      refine ready_at (i := 7) rfl (by kernel_rfl) (fun KK hKK => ?_)
      refine step_copy (d := 10) rfl rfl (.tmp 7) (.tmp 9) rfl a1.heap.size rfl ys ((unhide RU).2.below Ba6 (Nat.le_refl _)) E4a6 ?_
      intro v7 a7 o7 n7 ba7
      have La7 := La6.below ba7 La6.lt
      have Ra7 := Ra6.below ba7 Ra6.lt
      have Ba7 := Ba6.trans (ba7.mono Ba6.size)
      have sa7 := ba7.size
      have E0a7 := E0a6.below ba7
      have E4a7 := E4a6.below ba7
      have OHa7 := OHa6.below ba7
      have t7 := World.ownsRow.lt o7
      clear hHeld
      refine hKK.out _ _ ⟨La7.cell 0 rfl, La7.cell 1 rfl⟩ (fun hHeld => ?_)
      clear hKK KK
      simp only [Act.put, List.setIfInBounds_toArray, List.set_cons_zero, List.set_cons_succ]
      obtain ⟨la, lc, hla⟩ := OHa7.form
      obtain ⟨ma, mc, hma⟩ := o7.form
      subst hla hma
      refine take_at (i := 8) (d := 11) (v := ?_) rfl rfl (by kernel_rfl) (by kernel_rfl) (by kernel_rfl) (fun _ _ _ h => h) (Or.inl ⟨by rfl, ?_⟩) (by assumption) ?_
      rotate_left
      · intro w hSw
        try dsimp only at hSw
        go_simp
        try with_reducible rfl
      simp only [Act.put, List.setIfInBounds_toArray, List.set_cons_zero, List.set_cons_succ]
      have q0 := Ra7.cell 0 rfl
      have q1 := Ra7.cell 1 rfl
      have FR := Ra7.frozen
      refine ready_at (i := 9) rfl (by kernel_rfl) (fun KK hKK => ?_)
      go_simp
      have L9 := (La7.other (p := ⟨w.heap.size + 1, 0, none⟩) (by simp) (.slice la xs.length lc)).other (p := ⟨w.heap.size + 1, 1, none⟩) (by simp) (.slice ma ys.length mc)
      clear hHeld
      refine hKK.out _ _ ⟨L9.cell 0 rfl, L9.cell 1 rfl⟩ (fun hHeld => ?_)
      clear hKK KK
      clear hHeld L9
      refine wpAnyH_done (by kernel_rfl) ?_ _
      refine NoPanic.normal ?_
      go_wp2
      refine bodyPost_ret (v := lv (.slice la xs.length lc) (.slice ma ys.length mc)) (by simp [results, Tryd.results36, go_sem, q0, q1]) rfl ?_
      have K7 : Kp a7 ((a7.setCell ⟨w.heap.size + 1, 0, none⟩ (.slice la xs.length lc)).setCell ⟨w.heap.size + 1, 1, none⟩ (.slice ma ys.length mc)) (fun k => k = w.heap.size + 1) := (set_kp a7 _ 0 _).trans (set_kp _ _ 1 _)
      refine ⟨_, _, rfl, ⟨?_, ?_, ?_, ?_, ?_⟩, ?_⟩
      · exact (OHa7.kp K7 (fun j hj => by have := t3 j hj; omega)).mono (by omega)
      · exact (o7.kp K7 (fun j hj => by have := t7 j hj; omega)).mono (by omega)
      · intro j hj; have := t3 j hj; simp; omega
      · intro j hj; have := t7 j hj; simp; omega
      · intro j hj h'; have := t3 j hj; have := t7 j h'; have := n3 j hj; have := n7 j h'; omega
      · exact Below.set (Below.set Ba7 _ _ (by omega)) _ _ (by omega)
  · go_simp
    obtain ⟨a8, ha8⟩ : ∃ x, wd.alloc (.cells #[] 3) = x := ⟨_, rfl⟩
    have ba8 : Below wd.heap.size wd a8 := ha8 ▸ (Below.refl _ _).alloc (Nat.le_refl _) _
    have za8 : wd.heap.size < a8.heap.size := by rw [← ha8]; simp
    have La8 := Lwd.below ba8 Lwd.lt
    have Ra8 := Rwd.below ba8 Rwd.lt
    have Ba8 := Bwd.trans (ba8.mono Bwd.size)
    have sa8 := ba8.size
    have E4a8 : OI a8 wd.heap.size (.slice (some ⟨wd.heap.size, 0, none⟩) 0 0) [] := ha8 ▸ World.ownsRow_lit wd #[] 0 (Nat.le_refl _) (by unfold maxLen; omega) rfl
    rw [ha8]
    clear hHeld ha8
    refine hKK.out _ _ ⟨La8.cell 0 rfl, La8.cell 1 rfl⟩ (fun hHeld => ?_)
    clear hKK KK
    refine ready_at (i := 0) rfl (by kernel_rfl) (fun KK hKK => ?_)
    go_simp
    obtain ⟨a9, ha9⟩ : ∃ x, a8.alloc (.cells #[] 3) = x := ⟨_, rfl⟩
    have ba9 : Below a8.heap.size a8 a9 := ha9 ▸ (Below.refl _ _).alloc (Nat.le_refl _) _
    have za9 : a8.heap.size < a9.heap.size := by rw [← ha9]; simp
    have La9 := La8.below ba9 La8.lt
    have Ra9 := Ra8.below ba9 Ra8.lt
    have Ba9 := Ba8.trans (ba9.mono Ba8.size)
    have sa9 := ba9.size
    have E4a9 := E4a8.below ba9
    have E0a9 : OI a9 a8.heap.size (.slice (some ⟨a8.heap.size, 0, none⟩) 0 0) [] := ha9 ▸ World.ownsRow_lit a8 #[] 0 (Nat.le_refl _) (by unfold maxLen; omega) rfl
    rw [ha9]
    clear hHeld ha9
    refine hKK.out _ _ ⟨La9.cell 0 rfl, La9.cell 1 rfl⟩ (fun hHeld => ?_)
    clear hKK KK
    refine ready_at (i := 3) rfl (by kernel_rfl) (fun KK hKK => ?_)
    refine step_copy (d := 6) rfl rfl (.tmp 3) (.tmp 5) rfl a8.heap.size rfl xs ((unhide RU).1.below Ba9 (Nat.le_refl _)) E0a9 ?_
    intro v3 a10 o3 n3 ba10
    have La10 := La9.below ba10 La9.lt
    have Ra10 := Ra9.below ba10 Ra9.lt
    have Ba10 := Ba9.trans (ba10.mono Ba9.size)
    have sa10 := ba10.size
    have E0a10 := E0a9.below ba10
    have E4a10 := E4a9.below ba10
    have OHa10 := o3
    have t3 := World.ownsRow.lt o3
    clear hHeld
    refine hKK.out _ _ ⟨La10.cell 0 rfl, La10.cell 1 rfl⟩ (fun hHeld => ?_)
    clear hKK KK
    simp only [Act.put, List.setIfInBounds_toArray, List.set_cons_zero, List.set_cons_succ]
    refine ready_at (i := 7) rfl (by kernel_rfl) (fun KK hKK => ?_)
    refine step_copy (d := 10) rfl rfl (.tmp 7) (.tmp 9) rfl wd.heap.size rfl ys ((unhide RU).2.below Ba10 (Nat.le_refl _)) E4a10 ?_
    intro v7 a11 o7 n7 ba11
    have La11 := La10.below ba11 La10.lt
    have Ra11 := Ra10.below ba11 Ra10.lt
    have Ba11 := Ba10.trans (ba11.mono Ba10.size)
    have sa11 := ba11.size
    have E0a11 := E0a10.below ba11
    have E4a11 := E4a10.below ba11
    have OHa11 := OHa10.below ba11
    have t7 := World.ownsRow.lt o7
    clear hHeld
    refine hKK.out _ _ ⟨La11.cell 0 rfl, La11.cell 1 rfl⟩ (fun hHeld => ?_)
    clear hKK KK
    simp only [Act.put, List.setIfInBounds_toArray, List.set_cons_zero, List.set_cons_succ]
    obtain ⟨la, lc, hla⟩ := OHa11.form
    obtain ⟨ma, mc, hma⟩ := o7.form
    subst hla hma
    refine take_at (i := 8) (d := 11) (v := ?_) rfl rfl (by kernel_rfl) (by kernel_rfl) (by kernel_rfl) (fun _ _ _ h => h) (Or.inl ⟨by rfl, ?_⟩) (by assumption) ?_
    rotate_left
    · intro w hSw
      try dsimp only at hSw
      go_simp
      try with_reducible rfl
    simp only [Act.put, List.setIfInBounds_toArray, List.set_cons_zero, List.set_cons_succ]
    have q0 := Ra11.cell 0 rfl
    have q1 := Ra11.cell 1 rfl
    have FR := Ra11.frozen
    refine ready_at (i := 9) rfl (by kernel_rfl) (fun KK hKK => ?_)
    go_simp
    have L9 := (La11.other (p := ⟨w.heap.size + 1, 0, none⟩) (by simp) (.slice la xs.length lc)).other (p := ⟨w.heap.size + 1, 1, none⟩) (by simp) (.slice ma ys.length mc)
    clear hHeld
    refine hKK.out _ _ ⟨L9.cell 0 rfl, L9.cell 1 rfl⟩ (fun hHeld => ?_)
    clear hKK KK
    clear hHeld L9
    refine wpAnyH_done (by kernel_rfl) ?_ _
    refine NoPanic.normal ?_
    go_wp2
    refine bodyPost_ret (v := lv (.slice la xs.length lc) (.slice ma ys.length mc)) (by simp [results, Tryd.results36, go_sem, q0, q1]) rfl ?_
    have K7 : Kp a11 ((a11.setCell ⟨w.heap.size + 1, 0, none⟩ (.slice la xs.length lc)).setCell ⟨w.heap.size + 1, 1, none⟩ (.slice ma ys.length mc)) (fun k => k = w.heap.size + 1) := (set_kp a11 _ 0 _).trans (set_kp _ _ 1 _)
    refine ⟨_, _, rfl, ⟨?_, ?_, ?_, ?_, ?_⟩, ?_⟩
    · exact (OHa11.kp K7 (fun j hj => by have := t3 j hj; omega)).mono (by omega)
    · exact (o7.kp K7 (fun j hj => by have := t7 j hj; omega)).mono (by omega)
    · intro j hj; have := t3 j hj; simp; omega
    · intro j hj; have := t7 j hj; simp; omega
    · intro j hj h'; have := t3 j hj; have := t7 j h'; have := n3 j hj; have := n7 j h'; omega
    · exact Below.set (Below.set Ba11 _ _ (by omega)) _ _ (by omega)
end Go.Proofs.YthdehhenkgkkmaaDoor

/- impl.PayAll. -/
namespace Go.Proofs.YthdehhenkgkkmaaDoor
open Go.RowKit
set_option linter.unusedSectionVars false
variable [∀ (a b c d : Int), Decidable (Ok4 a b c d)]
variable [∀ (m a b c d : Int), Decidable (In4 m a b c d)]
variable [∀ (xs ys : List Int), Decidable (LOk xs ys)]

theorem Tryd.infoPay : (Tryd.prog.info? 72).map (fun i => (i.zero, i.size, i.bytes)) = some (some .nilFunc, 1, 8) := by kernel_rfl
/-- The payments behind k rounds. -/
def phalf (ts : List T4) (k : Nat) : List Value := (ts.take k).map pfun ++ List.replicate (ts.length - k) .nilFunc
theorem phalf_zero (ts : List T4) : phalf ts 0 = List.replicate ts.length .nilFunc := by simp [phalf]
theorem phalf_all (ts : List T4) : phalf ts ts.length = ts.map pfun := by simp [phalf]
theorem phalf_len (ts : List T4) (k : Nat) (h : k ≤ ts.length) : (phalf ts k).length = ts.length := by simp [phalf]; omega
theorem phalf_set (ts : List T4) (k : Nat) (h : k < ts.length) : (phalf ts k).set k (pfun (ts.getD k (0, 0, 0, 0))) = phalf ts (k + 1) := by
  have e : ts.length - k = (ts.length - (k + 1)) + 1 := by omega
  have hk : (ts.take k).length = k := by simp; omega
  unfold phalf
  rw [List.take_succ_eq_append_getElem h, e, List.replicate_succ, List.map_append, List.set_append_right _ _ (by simp; omega), List.length_map, hk, Nat.sub_self]
  simp [List.getElem?_eq_getElem h]

set_option maxHeartbeats 16000000 in
set_option maxRecDepth 100000 in
theorem implPayAll (u v p : Value) (xs ys : List Int) (ts : List T4) (w : World) (hu : RI w u xs ∧ RI w v ys) (hp : RT w p ts) (htl : ts.length ≤ 4194304) :
    Calls Tryd.prog 18 #[lv u v, p] w (EachEnd w (eachAns xs ys ts)) := by
  obtain ⟨i0, hi, hz0, hz1, hz2⟩ := info_parts Tryd.infoPay
  have EA := hide fun p w h1 h2 => payEach_any u v p xs ys ts w h1 h2
  have RU := hide hu
  obtain ⟨ua, uc, rfl⟩ : ∃ ua uc, u = .slice ua xs.length uc := by obtain ⟨_, ua, uc, h, _⟩ := hu.1; exact ⟨ua, uc, h⟩
  obtain ⟨va, vc, rfl⟩ : ∃ va vc, v = .slice va ys.length vc := by obtain ⟨_, va, vc, h, _⟩ := hu.2; exact ⟨va, vc, h⟩
  obtain ⟨_, pa, pc, rfl, hpc⟩ := hp
  have HPC := hide hpc
  obtain ⟨n, hn⟩ : ∃ n, ts.length = n := ⟨_, rfl⟩
  have Hn := hide hn
  rw [hn] at htl ⊢
  clear hu hpc hn
  obtain ⟨r, hr⟩ : ∃ r, eachAns xs ys ts = r := ⟨_, rfl⟩
  rw [hr] at EA ⊢
  clear hr
  obtain ⟨w0, hw0⟩ : ∃ w0, (w.alloc (.cells #[.slice ua xs.length uc, .slice va ys.length vc] 33)).alloc (.cells #[.slice none 0 0, .slice none 0 0] 33) = w0 := ⟨_, rfl⟩
  have B0 : Below w.heap.size w w0 := hw0 ▸ ((Below.refl w.heap.size w).alloc (Nat.le_refl _) _).alloc (by simp) _
  have L0 : Loc w0 w.heap.size #[.slice ua xs.length uc, .slice va ys.length vc] := hw0 ▸ (loc_at w _ _ rfl).alloc _
  have R0 : Loc w0 (w.heap.size + 1) #[.slice none 0 0, .slice none 0 0] := hw0 ▸ loc_at _ _ _ (by simp)
  have s0 : w0.heap.size = w.heap.size + 2 := by rw [← hw0]; simp
  go_enter Tryd.func18, Tryd.ntmps18
  go_wp2_with (first
    | (at_make; refine wpList_make_full _ rfl _ _ 70 rfl (w.heap.size + 2) 72 i0 .nilFunc 1 Tryd.underlying70 hi hz0 hz1 .i64 .i64 n n n rfl rfl rfl rfl (by rw [hz2]; omega) (by unfold maxLen; omega) (by omega) ?_; intro w1 ho1 hg1
       have k1 := kp_grown hg1
       have L1 := L0.kp k1 (by simp)
       have R1 := R0.kp k1 (by simp)
       have B1 := Below.kp B0 k1 B0.size (by simp)
       have s1 := hg1.size
       rw [s0] at ho1
       clear k1 hg1 L0 R0 B0 hw0))
  have ho1 : w1.ownsRow (w.heap.size + 2) 72 1 (.slice (some ⟨w.heap.size + 2, 0, none⟩) n n) n (phalf ts 0) := by
    have e : (madeCells Value.nilFunc.cells (n * 1)).toList = phalf ts 0 := by
      rw [phalf_zero, unhide Hn, Nat.mul_one]; exact toList_madeCells_one _ _
    rw [← e]; exact ho1
  go_loopw [14] (fun i wr => ∃ k : Nat, k ≤ n ∧ i = .int .i64 k ∧ wr.ownsRow (w.heap.size + 2) 72 1 (.slice (some ⟨w.heap.size + 2, 0, none⟩) n n) n (phalf ts k) ∧ Loc wr w.heap.size #[.slice ua xs.length uc, .slice va ys.length vc] ∧ Loc wr (w.heap.size + 1) #[.slice none 0 0, .slice none 0 0] ∧ Below w.heap.size w wr) (fun i _ => n - (intOf i).toNat)
  case atStart => exact ⟨0, Nat.zero_le _, rfl, ho1, L1, R1, B1⟩
  case round =>
    clear ho1 L1 R1 B1
    obtain ⟨k, hk, rfl, ho, L, R, B⟩ := hrel
    have lw := (World.ownsRow.lt ho (w.heap.size + 2) rfl).2
    by_cases hlt : k < n
    · have hkx : k < ts.length := by rw [unhide Hn]; exact hlt
      obtain ⟨g, rfl, hc⟩ : ∃ g, pa = some ⟨g, 0, none⟩ ∧ Cells4K wr g k (ts.getD k (0, 0, 0, 0)) := by
        rcases unhide HPC with h | ⟨g, h1, h2⟩
        · subst h; simp at hkx
        · obtain ⟨c0, c1, c2, c3⟩ := h2 k hkx
          have hg : g < w.heap.size := cell_lt c0
          exact ⟨g, h1, (B.cell (p := ⟨g, k * 4, none⟩) hg).trans c0, (B.cell (p := ⟨g, k * 4 + 1, none⟩) hg).trans c1, (B.cell (p := ⟨g, k * 4 + 2, none⟩) hg).trans c2, (B.cell (p := ⟨g, k * 4 + 3, none⟩) hg).trans c3⟩
      have PS := hide (phalf_set ts k hkx)
      have PL := phalf_len ts k (by omega)
      obtain ⟨t, ht⟩ : ∃ t, ts.getD k (0, 0, 0, 0) = t := ⟨_, rfl⟩
      rw [ht] at PS hc
      clear ht
      obtain ⟨a, b, c, d⟩ := t
      obtain ⟨c0, c1, c2, c3⟩ := hc
      simp only at c0 c1 c2 c3
      obtain ⟨w2, hw2⟩ : ∃ w2, wr.alloc (.cells (r4 a b c d) 26) = w2 := ⟨_, rfl⟩
      have b2 : Below wr.heap.size wr w2 := hw2 ▸ (Below.refl _ _).alloc (Nat.le_refl _) _
      have X2 : Loc w2 wr.heap.size (r4 a b c d) := hw2 ▸ loc_at wr _ _ rfl
      have ho2 : w2.ownsRow (w.heap.size + 2) 72 1 (.slice (some ⟨w.heap.size + 2, 0, none⟩) n n) n (phalf ts k) := hw2 ▸ ho.alloc _
      have L2 := L.below b2 L.lt
      have R2 := R.below b2 R.lt
      have B2 := B.trans (b2.mono B.size)
      obtain ⟨x0, x1, x2, x3⟩ := X2.cells4
      obtain ⟨e5, he5⟩ : ∃ e5, w2.cell? ⟨w.heap.size + 2, k, none⟩ = some e5 := ⟨_, (ho2.cellAt k (by omega)).trans (List.getElem?_eq_getElem (by rw [PL]; exact hkx))⟩
      have F5 := ho2.frozenAt k
      have HS : Hid ((w2.setCell ⟨w.heap.size + 2, k, none⟩ (pfun (a, b, c, d))).ownsRow (w.heap.size + 2) 72 1 (.slice (some ⟨w.heap.size + 2, 0, none⟩) n n) n (phalf ts (k + 1))) := by
        rw [← unhide PS]; exact (ho2.stored k _).1
      clear ho ho2 L R B X2
      go_wp2
      go_roundw
      case rel => exact ⟨k + 1, by omega, by go_num, unhide HS, L2.other (by simp) _, R2.other (by simp) _, Below.set B2 _ _ (by omega)⟩
      case measure => simp [intOf]; omega
    · have hkn : k = n := by omega
      have HP : RP wr (.slice (some ⟨w.heap.size + 2, 0, none⟩) n n) ts := by
        refine ⟨by rw [unhide Hn]; omega, _, n, by rw [unhide Hn], .inr ⟨_, 0, rfl, fun j hj => ?_⟩⟩
        rw [unhide Hn] at hj
        rw [Nat.zero_add, ho.cellAt j (by omega), hkn]
        have e := phalf_all ts
        rw [unhide Hn] at e
        rw [e]
        have hj' : j < ts.length := by rw [unhide Hn]; exact hj
        simp [List.getElem?_map, List.getElem?_eq_getElem hj']
      have HP := hide HP
      have q0 := L.cell 0 rfl
      have q1 := L.cell 1 rfl
      subst hkn
      clear ho
      go_wp2_with fail
      refine (unhide EA _ _ ⟨(unhide RU).1.below B (Nat.le_refl _), (unhide RU).2.below B (Nat.le_refl _)⟩ (unhide HP)).mono ?_
      rintro _ w5 ⟨ul, vl, cs, mid, rfl, oc, lt1, hm, ol, b5⟩
      have R5 := R.below b5 R.lt
      have B5 := B.trans (b5.mono B.size)
      obtain ⟨la, lc, rfl⟩ := ol.has.form
      obtain ⟨ma, mc, rfl⟩ := ol.next.form
      have y0 := R5.cell 0 rfl
      have y1 := R5.cell 1 rfl
      have FR := R5.frozen
      have tc := World.ownsRow.lt oc
      have oc := hide oc
      have ol := hide ol
      have lr := R.lt
      clear q0 q1 b5 L R B
      go_wp2
      refine bodyPost_ret (v := .tuple #[lv (.slice la r.1.length lc) (.slice ma r.2.1.length mc), cs]) (by simp [results, Tryd.results18, go_sem, y0, y1]) rfl ?_
      have K7 : Kp w5 ((w5.setCell ⟨w.heap.size + 1, 0, none⟩ (.slice la r.1.length lc)).setCell ⟨w.heap.size + 1, 1, none⟩ (.slice ma r.2.1.length mc)) (fun k => k = w.heap.size + 1) := (set_kp w5 _ 0 _).trans (set_kp _ _ 1 _)
      refine ⟨_, _, _, mid, rfl, ?_, lt1, by omega, ?_, ?_⟩
      · exact ((unhide oc).kp K7 (fun j hj => by have := (tc j hj).1; omega)).mono (by omega)
      · exact ((unhide ol).kp K7 (fun j h1 _ e => by omega)).mono (Nat.le_refl _) (by simp)
      · exact Below.set (Below.set B5 _ _ (by omega)) _ _ (by omega)
end Go.Proofs.YthdehhenkgkkmaaDoor
