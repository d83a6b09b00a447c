/- The draws of ledgers: spec.l3DrawRight. -/
import Derived.Test.YtlglekfmiacdnaaDrawTxL
import Derived.Test.YtlglekfmiacdnaaSpecPayAny
namespace Go.Proofs.Ytlglekfmiacdnaa
open Go.RowKit
set_option linter.unusedSectionVars false
variable [∀ (a b c d : Int), Decidable (Ok4 a b c d)]
variable [∀ (m a b c d : Int), Decidable (In4 m a b c d)]
variable [∀ (xs ys : List Int), Decidable (LOk xs ys)]

theorem Cur.kpBelow {w w' : World} {base g ca : Nat} {ao : Option Addr} {xs : List Int} (h : Cur w base g ao ca xs) (hB : base ≤ w.heap.size) (hb : Below w.heap.size w w') : Cur w' base g ao ca xs := h.below hB hb

theorem Kp.up {a b c : World} {X Y : Nat → Prop} (h : Kp a b X) (k : Kp b c Y) (hy : ∀ j, Y j → a.heap.size ≤ j ∨ X j) : Kp a c X :=
  ⟨k.os.trans h.os, k.tape.trans h.tape, k.output.trans h.output, Nat.le_trans h.size k.size, fun j hj hx => (k.block j (Nat.lt_of_lt_of_le hj h.size) (fun e => (hy j e).elim (fun q => by omega) hx)).trans (h.block j hj hx)⟩
theorem Kp.grown {a b : World} {g : Nat} (h : Kp a b (fun k => k = g)) : a.grownBy b (some g) :=
  ⟨h.os, h.tape, h.output, h.size, fun j hj hx => h.block j hj (fun e => hx (e ▸ rfl))⟩

set_option maxHeartbeats 8000000 in
set_option maxRecDepth 100000 in
theorem drawRight3 (base g ca : Nat) (ao : Option Addr) (zs : List Int) (w : World) (hB : base ≤ w.heap.size) (h : Cur w base g ao ca zs) :
    Calls Try.prog 53 #[.pointer (some ⟨g, 0, none⟩)] w fun e w' => ∃ u v, ∃ xs ys : List Int, e = .returned (lv u v) ∧ xs.length = 4 ∧ ys.length = 4 ∧ OL w' w.heap.size w'.heap.size u v xs ys ∧ Cur w' base g ao ca zs ∧ w.grownBy w' (some g) := by
  have hlt := h.lt
  obtain ⟨w0, hw0⟩ : ∃ w0, w.alloc (.cells #[.slice none 0 0, .slice none 0 0] 26) = w0 := ⟨_, rfl⟩
  have b0 : Below w.heap.size w w0 := hw0 ▸ (Below.refl _ _).alloc (Nat.le_refl _) _
  have R0 : Loc w0 w.heap.size #[.slice none 0 0, .slice none 0 0] := hw0 ▸ loc_at w _ _ rfl
  have C0 := h.below hB b0
  clear h
  go_enter Try.func53, Try.ntmps53
  go_wp2_with fail
  clear hw0
  refine (specLedgerNew _).mono ?_
  rintro _ w1 ⟨u1, v1, rfl, o1, b1⟩
  have s0 := b0.size
  obtain ⟨ua, uc, rfl⟩ := o1.has.form
  obtain ⟨va, vc, rfl⟩ := o1.next.form
  obtain ⟨w2, hw2⟩ : ∃ w2, w1.alloc (.cells #[.slice ua 4 uc, .slice va 4 vc] 26) = w2 := ⟨_, rfl⟩
  have b2 : Below w0.heap.size w0 w2 := hw2 ▸ b1.alloc b1.size _
  have lr0 := R0.lt
  have R2 := R0.below b2 R0.lt
  have C2 := C0.below (by omega) b2
  have G2 : Loc w2 w1.heap.size #[.slice ua 4 uc, .slice va 4 vc] := hw2 ▸ loc_at w1 _ _ rfl
  have P2 : OL w2 w0.heap.size w1.heap.size (.slice ua 4 uc) (.slice va 4 vc) [100, 100, 100, 100] [0, 0, 0, 0] := hw2 ▸ o1.alloc _
  have K2 : Kp w w2 (fun k => k = g) := Below.kpOf (b0.trans (b2.mono s0)) _
  have s1 := b1.size
  clear C0 R0 b0 b2 o1 b1
  go_wp2
  clear hw2
  go_loopw [4] (fun i wr => ∃ (k : Nat) (u v : Value) (xs ys : List Int), k ≤ 5 ∧ i = .int .i64 k ∧ xs.length = 4 ∧ ys.length = 4 ∧ Loc wr w1.heap.size #[u, v] ∧ (∃ lo hi, w0.heap.size ≤ lo ∧ hi ≤ wr.heap.size ∧ OL wr lo hi u v xs ys) ∧ Loc wr w.heap.size #[.slice none 0 0, .slice none 0 0] ∧ Cur wr base g ao ca zs ∧ Kp w wr (fun k => k = g)) (fun i _ => 6 - (intOf i).toNat)
  case atStart => exact ⟨0, _, _, _, _, by omega, rfl, rfl, rfl, G2, ⟨_, _, Nat.le_refl _, by have := G2.lt; omega, P2⟩, R2, C2, K2⟩
  case round =>
    clear G2 P2 R2 C2 K2
    obtain ⟨k, u, v, xs, ys, hk, rfl, hx, hy, G, ⟨lo, hi, hlo, hhi, P⟩, R, C, K⟩ := hrel
    have sk := K.size
    have lg := G.lt
    go_wp2_with fail
    refine (below_any base g ca ao zs 6 _ (by omega) (by omega) (by omega) C).mono ?_
    rintro _ w3 ⟨n, rfl, _, n1, C3, e3⟩
    have k3 := kp_grown e3
    have s3 := k3.size
    have G3 := G.kp k3 (fun e => by simp at e; omega)
    have P3 := P.kp k3 (fun j _ _ e => by simp at e; omega)
    have R3 := R.kp k3 (fun e => by simp at e; omega)
    have K3 := K.trans (k3.mono (fun j e => by simpa using e.symm))
    clear G P R K C k3 e3
    by_cases hkn : (k : Int) < n
    · go_wp2_with fail
      refine (drawRight base g ca ao zs _ (by omega) C3).mono ?_
      rintro _ w4 ⟨a, b, c, d, rfl, ⟨a1, a2⟩, C4, e4⟩
      obtain ⟨A, rfl⟩ := Int.eq_ofNat_of_zero_le a1
      have k4 := kp_grown e4
      have s4 := k4.size
      have G4 := G3.kp k4 (fun e => by simp at e; omega)
      have P4 := P3.kp k4 (fun j _ _ e => by simp at e; omega)
      have R4 := R3.kp k4 (fun e => by simp at e; omega)
      have K4 := K3.trans (k4.mono (fun j e => by simpa using e.symm))
      clear G3 P3 R3 K3 C3 k4 e4
      obtain ⟨ph, hc, rfl⟩ := own_form (n := xs.length) P4.has (by omega)
      obtain ⟨pk, kc, rfl⟩ := own_form (n := ys.length) P4.next (by omega)
      rw [hx, hy] at G4 P4
      obtain ⟨w5, hw5⟩ : ∃ w5, w4.alloc (.cells (r4 A b c d) 33) = w5 := ⟨_, rfl⟩
      have b5 : Below w4.heap.size w4 w5 := hw5 ▸ (Below.refl _ _).alloc (Nat.le_refl _) _
      have X5 : Loc w5 w4.heap.size (r4 A b c d) := hw5 ▸ loc_at w4 _ _ rfl
      have G5 := G4.below b5 G4.lt
      have P5 := P4.below b5
      have n5 := (P5.next.cellAt hy.symm A (by omega)).1
      obtain ⟨m, hm⟩ : ∃ m, ys.getD A 0 = m := ⟨_, rfl⟩
      rw [hm] at n5
      obtain ⟨w6, hw6⟩ : ∃ w6, w5.setCell ⟨w4.heap.size, 3, none⟩ (.int .i64 m) = w6 := ⟨_, rfl⟩
      have b6 : Below w4.heap.size w4 w6 := hw6 ▸ Below.set b5 _ _ (Nat.le_refl _)
      have X6 : Loc w6 w4.heap.size (r4 A b c m) := hw6 ▸ X5.set 3 _ rfl
      have G6 := G4.below b6 G4.lt
      have P6 := P4.below b6
      have R6 := R4.below b6 R4.lt
      have C6 := C4.below (by omega) b6
      have K6 := K4.trans (Below.kpOf b6 _)
      have s6 := b6.size
      obtain ⟨x0, x1, x2, x3⟩ := X5.cells4
      obtain ⟨y0, y1, y2, y3⟩ := X6.cells4
      have FX := X5.frozen
      have q1 := G5.cell 1 rfl
      have p0 := G6.cell 0 rfl
      have p1 := G6.cell 1 rfl
      have hA1 : (A : Int) < 4 := by omega
      clear hm P5 G5 b5 X5 X6 b6 G4 P4 R4 C4 K4
      go_wp2_with fail
      clear hw5 hw6
      refine (specPay _ _ A b c m xs ys _ (P6.ri (by omega) (by omega))).mono ?_
      rintro _ w7 ⟨up, vp, rfl, P7, b7⟩
      have hrl := payAns_len (xs := xs) (ys := ys) (a := (A : Int)) (b := b) (c := c) (d := m)
      obtain ⟨r, hr⟩ : ∃ r, payAns xs ys A b c m = r := ⟨_, rfl⟩
      rw [hr] at P7 hrl ⊢
      have G7 := G6.below b7 G6.lt
      have R7 := R6.below b7 R6.lt
      have C7 := C6.below (by omega) b7
      have K7 := K6.trans (Below.kpOf b7 _)
      have s7 := b7.size
      obtain ⟨pa, pc, rfl⟩ := P7.has.form
      obtain ⟨qa, qc, rfl⟩ := P7.next.form
      have g0 := G7.cell 0 rfl
      have g1 := G7.cell 1 rfl
      have FG := G7.frozen
      have HRL := hide hrl
      have P7 := hide P7
      have C7 := hide C7
      have K7 := hide K7
      clear x0 x1 x2 x3 y0 y1 y2 y3 FX q1 p0 p1 G6 P6 R6 C6 K6 b7 hr hrl n5
      go_wp2
      go_roundw
      case rel =>
        refine ⟨k + 1, .slice pa r.1.length pc, .slice qa r.2.1.length qc, r.1, r.2.1, by omega, by go_num, (unhide HRL).1.trans hx, (unhide HRL).2.trans hy, (G7.set 0 _ rfl).set 1 _ rfl, ⟨w6.heap.size, w7.heap.size, by omega, by simp, ?_⟩, (R7.other (by simp; omega) _).other (by simp; omega) _, ?_, ?_⟩
        · exact (unhide P7).kp ((set_kp w7 w1.heap.size 0 _).trans (set_kp _ w1.heap.size 1 _)) (fun j h1 h2 e => by omega)
        · exact ((unhide C7).set (by omega) _ _).set (by omega) _ _
        · exact (unhide K7).up ((set_kp w7 w1.heap.size 0 _).trans (set_kp _ w1.heap.size 1 _)) (fun j e => by omega)
      case measure => simp [intOf]; omega
    · have hK := K3.grown
      obtain ⟨ph, hc, rfl⟩ := P3.has.form
      obtain ⟨pk, kc, rfl⟩ := P3.next.form
      have g0 := G3.cell 0 rfl
      have g1 := G3.cell 1 rfl
      have FR := R3.frozen
      have o0 := R3.cell 0 rfl
      have o1 := R3.cell 1 rfl
      have hRR := hide R3
      have r0 := (R3.set 0 (.slice ph xs.length hc) rfl).set 1 (.slice pk ys.length kc) rfl
      have z0 := r0.cell 0 rfl
      have z1 := r0.cell 1 rfl
      have PK := hide P3
      have HX := hide hx
      have HY := hide hy
      clear P3 R3 K3 G3 r0 hx hy
      go_wp2
      refine bodyPost_ret (v := lv (.slice ph xs.length hc) (.slice pk ys.length kc)) (by simp [results, Try.results53, go_sem, z0, z1]) rfl ?_
      refine ⟨_, _, xs, ys, rfl, unhide HX, unhide HY, ?_, (C3.set (by omega) _ _).set (by omega) _ _, grown_set (grown_set hK (Nat.le_refl _) _ _) (Nat.le_refl _) _ _⟩
      exact ((unhide PK).kp ((set_kp w3 w.heap.size 0 _).trans (set_kp _ w.heap.size 1 _)) (fun j h1 h2 e => by omega)).mono (by omega) (by simp; omega)
end Go.Proofs.Ytlglekfmiacdnaa
