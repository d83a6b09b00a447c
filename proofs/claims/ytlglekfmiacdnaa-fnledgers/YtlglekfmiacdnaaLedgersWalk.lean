/- The walk of laws.FnLedgers. -/
import Derived.Test.YtlglekfmiacdnaaLedgersPlain
import Derived.Test.YtlglekfmiacdnaaDrawPayAllL
import Derived.Test.YtlglekfmiacdnaaImplPayAll
import Derived.Test.YtlglekfmiacdnaaSpecPayAll
namespace Go.Proofs.Ytlglekfmiacdnaa
open Go.RowKit
set_option linter.unusedSectionVars false
variable [∀ (a b c d : Int), Decidable (Ok4 a b c d)]
variable [∀ (m a b c d : Int), Decidable (In4 m a b c d)]
variable [∀ (xs ys : List Int), Decidable (LOk xs ys)]

set_option maxHeartbeats 800000 in
set_option maxRecDepth 100000 in
theorem fnLedgers_big (ao : Option Addr) (n ca : Nat) (w : World) (h : 1048576 < n) (hn : n ≤ 9223372036854775807) :
    Calls Try.prog 3 #[.slice ao n ca] w fun e w' => e = .returned (.bool true) ∧ Below w.heap.size w w' := by
  have BG := hide fun w => big_any ao n ca w hn
  rw [decide_eq_true h] at BG
  go_enter Try.func3, Try.ntmps3
  go_wp2_with fail
  refine (unhide BG _).mono ?_
  rintro e w1 ⟨rfl, b1⟩
  go_wp2
  go_ret
  exact ⟨rfl, b1⟩

abbrev two (a b : Value) : Array Value := #[a, b]
/-- Both lists of a ledger read so. -/
def R2 (w : World) (u v : Value) (xs ys : List Int) : Prop := RI w u xs ∧ RI w v ys
theorem R2.below {w w' : World} {u v : Value} {xs ys : List Int} (h : R2 w u v xs ys) (hb : Below w.heap.size w w') : R2 w' u v xs ys := ⟨h.1.below hb (Nat.le_refl _), h.2.below hb (Nat.le_refl _)⟩

set_option maxHeartbeats 64000000 in
set_option maxRecDepth 100000 in
theorem fnLedgers_small (ao : Option Addr) (ca : Nat) (zs : List Int) (w : World) (h : Code w ao zs) :
    Calls Try.prog 3 #[.slice ao zs.length ca] w fun e w' => e = .returned (.bool true) ∧ Below w.heap.size w w' := by
  have hn := h.1
  have BG := hide fun w => big_any ao zs.length ca w (by omega)
  rw [decide_eq_false (by omega : ¬ 1048576 < zs.length)] at BG
  go_enter Try.func3, Try.ntmps3
  go_wp2_with fail
  refine (unhide BG _).mono ?_
  rintro e w0 ⟨rfl, b0⟩
  have C0 := h.below b0
  clear BG h hn
  go_wp2_with fail
  refine (drawPayAll ao ca zs _ C0).mono ?_
  rintro _ w1 ⟨u, v, xs, ys, p, ts, rfl, htl, T1, hx, hy, o1, b1⟩
  have B1 := b0.trans (b1.mono b0.size)
  have C1 := C0.below b1
  have l1 : R2 w1 u v xs ys := o1.ri (by omega) (by omega)
  obtain ⟨ha, hc, rfl⟩ := o1.has.form
  obtain ⟨na, nc, rfl⟩ := o1.next.form
  obtain ⟨pa, pc, rfl⟩ : ∃ pa pc, p = .slice pa ts.length pc := by rcases T1.2 with ⟨rfl, h0⟩ | ⟨g, cap, cur, rfl, _⟩; exact ⟨none, 0, by rw [h0]⟩; exact ⟨_, _, rfl⟩
  obtain ⟨w2, hw2⟩ : ∃ w2, w1.alloc (.cells (two (.slice ha xs.length hc) (.slice na ys.length nc)) 26) = w2 := ⟨_, rfl⟩
  have b2 : Below w1.heap.size w1 w2 := hw2 ▸ (Below.refl _ _).alloc (Nat.le_refl _) _
  have B2 := B1.trans (b2.mono B1.size)
  have C2 := C1.below b2
  have l2 := l1.below b2
  have T2 := T1.below b2
  have L2 : Loc w2 w1.heap.size (two (.slice ha xs.length hc) (.slice na ys.length nc)) := hw2 ▸ loc_at w1 _ _ rfl
  obtain ⟨d0, d1⟩ : w2.cell? ⟨w1.heap.size, 0, none⟩ = some (.slice ha xs.length hc) ∧ w2.cell? ⟨w1.heap.size, 1, none⟩ = some (.slice na ys.length nc) := ⟨L2.cell 0 rfl, L2.cell 1 rfl⟩
  have EL := hide (eachAns_len xs ys ts)
  have ET := hide (eachAns_tot xs ys ts)
  have EO := hide (fun h => eachAns_ok (xs := xs) (ys := ys) (ts := ts) h)
  have IM := hide fun u v p w h h' => implPayAll u v p xs ys ts w h h' (by omega)
  have SP := hide fun u v p w h h' => specPayAll u v p xs ys ts w h h' (by omega)
  obtain ⟨r, hr⟩ : ∃ r, eachAns xs ys ts = r := ⟨_, rfl⟩
  rw [hr] at EL ET EO IM SP
  have q1 : r.1.length ≤ 5 := by have := (unhide EL).1; omega
  have q2 : r.2.1.length ≤ 5 := by have := (unhide EL).2.1; omega
  have q3 : r.2.2.length ≤ 5 := by have := (unhide EL).2.2; omega
  have HTL := hide htl
  clear hr hx hy EL C0 C1 b0 b1 b2 B1 l1 T1 o1 htl
  go_wp2_with fail
  clear hw2 d0 d1
  refine (unhide IM _ _ _ _ l2 (T2.rt (by have := unhide HTL; omega))).mono ?_
  rintro _ w3 ⟨u3, v3, c3, mid, rfl, oc3, _, _, o3, b3⟩
  have m3 : R2 w3 u3 v3 r.1 r.2.1 := o3.ri (by omega) (by omega)
  have x3 := oc3.ri (by omega)
  obtain ⟨ma, mc, rfl⟩ := o3.has.form
  obtain ⟨ka, kc, rfl⟩ := o3.next.form
  obtain ⟨ca3, cc3, rfl⟩ := oc3.form
  obtain ⟨w4, hw4⟩ : ∃ w4, w3.alloc (.cells (two (.slice ma r.1.length mc) (.slice ka r.2.1.length kc)) 26) = w4 := ⟨_, rfl⟩
  have b34 : Below w3.heap.size w3 w4 := hw4 ▸ (Below.refl _ _).alloc (Nat.le_refl _) _
  have b4 : Below w2.heap.size w2 w4 := b3.trans (b34.mono b3.size)
  have B4 := B2.trans (b4.mono B2.size)
  have C4 := C2.below b4
  have l4 := l2.below b4
  have T4' := T2.below b4
  have L4 := L2.below b4 L2.lt
  have m4 := m3.below b34
  have x4 := x3.below b34 (Nat.le_refl _)
  have M4 : Loc w4 w3.heap.size (two (.slice ma r.1.length mc) (.slice ka r.2.1.length kc)) := hw4 ▸ loc_at w3 _ _ rfl
  obtain ⟨d0, d1⟩ : w4.cell? ⟨w1.heap.size, 0, none⟩ = some (.slice ha xs.length hc) ∧ w4.cell? ⟨w1.heap.size, 1, none⟩ = some (.slice na ys.length nc) := ⟨L4.cell 0 rfl, L4.cell 1 rfl⟩
  clear IM B2 C2 l2 T2 L2 oc3 o3 b3 b34 b4 m3 x3
  go_wp2_with fail
  clear hw4 d0 d1
  refine (unhide SP _ _ _ _ l4 (T4'.rt (by have := unhide HTL; omega))).mono ?_
  rintro _ w5 ⟨u5, v5, c5, rfl, ou5, ov5, oc5, b5⟩
  have n5 : R2 w5 u5 v5 r.1 r.2.1 := ⟨ou5.ri (by omega), ov5.ri (by omega)⟩
  have y5 := oc5.ri (by omega)
  obtain ⟨sa, sc, rfl⟩ := ou5.form
  obtain ⟨ta, tc, rfl⟩ := ov5.form
  obtain ⟨ca5, cc5, rfl⟩ := oc5.form
  obtain ⟨w6, hw6⟩ : ∃ w6, w5.alloc (.cells (two (.slice sa r.1.length sc) (.slice ta r.2.1.length tc)) 26) = w6 := ⟨_, rfl⟩
  have b56 : Below w5.heap.size w5 w6 := hw6 ▸ (Below.refl _ _).alloc (Nat.le_refl _) _
  have b6 : Below w4.heap.size w4 w6 := b5.trans (b56.mono b5.size)
  have B6 := B4.trans (b6.mono B4.size)
  have C6 := C4.below b6
  have l6 := l4.below b6
  have L6 := L4.below b6 L4.lt
  have m6 := m4.below b6
  have x6 := x4.below b6 (Nat.le_refl _)
  have M6 := M4.below b6 M4.lt
  have n6 := n5.below b56
  have y6 := y5.below b56 (Nat.le_refl _)
  have N6 : Loc w6 w5.heap.size (two (.slice sa r.1.length sc) (.slice ta r.2.1.length tc)) := hw6 ▸ loc_at w5 _ _ rfl
  clear SP HTL B4 C4 l4 T4' L4 m4 x4 M4 ou5 ov5 oc5 b5 b56 b6 n5 y5
  go_wp2_with fail
  clear hw6
  refine (drawPay ao ca zs _ C6).mono ?_
  rintro _ w7 ⟨u7, v7, xs', ys', a, b, c, d, rfl, hx, hy, o7, b7⟩
  have a7 : R2 w7 u7 v7 xs' ys' := o7.ri (by omega) (by omega)
  obtain ⟨fa, fc, rfl⟩ := o7.has.form
  obtain ⟨ga, gc, rfl⟩ := o7.next.form
  obtain ⟨w8, hw8⟩ : ∃ w8, (w7.alloc (.cells (two (.slice fa xs'.length fc) (.slice ga ys'.length gc)) 26)).alloc (.cells (r4 a b c d) 33) = w8 := ⟨_, rfl⟩
  have b78 : Below w7.heap.size w7 w8 := hw8 ▸ ((Below.refl _ _).alloc (Nat.le_refl _) _).alloc (by simp) _
  have b8 : Below w6.heap.size w6 w8 := b7.trans (b78.mono b7.size)
  have B8 := B6.trans (b8.mono B6.size)
  have l8 := l6.below b8
  have L8 := L6.below b8 L6.lt
  have m8 := m6.below b8
  have x8 := x6.below b8 (Nat.le_refl _)
  have M8 := M6.below b8 M6.lt
  have n8 := n6.below b8
  have y8 := y6.below b8 (Nat.le_refl _)
  have N8 := N6.below b8 N6.lt
  have a8 := a7.below b78
  have A8 : Loc w8 w7.heap.size (two (.slice fa xs'.length fc) (.slice ga ys'.length gc)) := hw8 ▸ (loc_at w7 _ _ rfl).alloc _
  have X8 : Loc w8 (w7.heap.size + 1) (r4 a b c d) := hw8 ▸ loc_at _ _ _ (by simp)
  obtain ⟨d0, d1⟩ : w8.cell? ⟨w7.heap.size, 0, none⟩ = some (.slice fa xs'.length fc) ∧ w8.cell? ⟨w7.heap.size, 1, none⟩ = some (.slice ga ys'.length gc) := ⟨A8.cell 0 rfl, A8.cell 1 rfl⟩
  obtain ⟨t0, t1, t2, t3⟩ := X8.cells4
  have PL := hide (payAns_len (xs := xs') (ys := ys') (a := a) (b := b) (c := c) (d := d))
  have PT := hide (payAns_tot xs' ys' a b c d)
  have PA := hide (payAns_again xs' ys' a b c d)
  have IM := hide fun u v w h => implPay u v a b c d xs' ys' w h
  have SP := hide fun u v w h => specPay u v a b c d xs' ys' w h
  obtain ⟨r', hr⟩ : ∃ r', payAns xs' ys' a b c d = r' := ⟨_, rfl⟩
  rw [hr] at PL PT PA IM SP
  have q4 : r'.1.length ≤ 5 := by have := (unhide PL).1; omega
  have q5 : r'.2.1.length ≤ 5 := by have := (unhide PL).2; omega
  clear hr hx hy PL B6 C6 l6 L6 m6 x6 M6 n6 y6 N6 o7 b7 b78 b8 a7
  go_wp2_with fail
  clear hw8 d0 d1 t0 t1 t2 t3
  refine (unhide IM _ _ _ a8).mono ?_
  rintro _ w9 ⟨u9, v9, rfl, o9, b9⟩
  have e9 : R2 w9 u9 v9 r'.1 r'.2.1 := o9.ri (by omega) (by omega)
  obtain ⟨ia, ic, rfl⟩ := o9.has.form
  obtain ⟨ja, jc, rfl⟩ := o9.next.form
  obtain ⟨w10, hw10⟩ : ∃ w10, w9.alloc (.cells (two (.slice ia r'.1.length ic) (.slice ja r'.2.1.length jc)) 26) = w10 := ⟨_, rfl⟩
  have b910 : Below w9.heap.size w9 w10 := hw10 ▸ (Below.refl _ _).alloc (Nat.le_refl _) _
  have b10 : Below w8.heap.size w8 w10 := b9.trans (b910.mono b9.size)
  have B10 := B8.trans (b10.mono B8.size)
  have l10 := l8.below b10
  have L10 := L8.below b10 L8.lt
  have m10 := m8.below b10
  have x10 := x8.below b10 (Nat.le_refl _)
  have M10 := M8.below b10 M8.lt
  have n10 := n8.below b10
  have y10 := y8.below b10 (Nat.le_refl _)
  have N10 := N8.below b10 N8.lt
  have a10 := a8.below b10
  have A10 := A8.below b10 A8.lt
  have X10 := X8.below b10 X8.lt
  have e10 := e9.below b910
  have E10 : Loc w10 w9.heap.size (two (.slice ia r'.1.length ic) (.slice ja r'.2.1.length jc)) := hw10 ▸ loc_at w9 _ _ rfl
  obtain ⟨d0, d1⟩ : w10.cell? ⟨w7.heap.size, 0, none⟩ = some (.slice fa xs'.length fc) ∧ w10.cell? ⟨w7.heap.size, 1, none⟩ = some (.slice ga ys'.length gc) := ⟨A10.cell 0 rfl, A10.cell 1 rfl⟩
  obtain ⟨t0, t1, t2, t3⟩ := X10.cells4
  clear B8 l8 L8 m8 x8 M8 n8 y8 N8 a8 A8 X8 o9 b9 b910 b10 e9
  go_wp2_with fail
  clear hw10 d0 d1 t0 t1 t2 t3
  refine (unhide SP _ _ _ a10).mono ?_
  rintro _ w11 ⟨u11, v11, rfl, o11, b11⟩
  have f11 : R2 w11 u11 v11 r'.1 r'.2.1 := o11.ri (by omega) (by omega)
  obtain ⟨oa, oc, rfl⟩ := o11.has.form
  obtain ⟨ra, rc, rfl⟩ := o11.next.form
  obtain ⟨w12, hw12⟩ : ∃ w12, w11.alloc (.cells (two (.slice oa r'.1.length oc) (.slice ra r'.2.1.length rc)) 26) = w12 := ⟨_, rfl⟩
  have b1112 : Below w11.heap.size w11 w12 := hw12 ▸ (Below.refl _ _).alloc (Nat.le_refl _) _
  have b12 : Below w10.heap.size w10 w12 := b11.trans (b1112.mono b11.size)
  have B12 := B10.trans (b12.mono B10.size)
  have l12 := l10.below b12
  have L12 := L10.below b12 L10.lt
  have m12 := m10.below b12
  have x12 := x10.below b12 (Nat.le_refl _)
  have M12 := M10.below b12 M10.lt
  have n12 := n10.below b12
  have y12 := y10.below b12 (Nat.le_refl _)
  have N12 := N10.below b12 N10.lt
  have a12 := a10.below b12
  have A12 := A10.below b12 A10.lt
  have X12 := X10.below b12 X10.lt
  have e12 := e10.below b12
  have E12 := E10.below b12 E10.lt
  have f12 := f11.below b1112
  have F12 : Loc w12 w11.heap.size (two (.slice oa r'.1.length oc) (.slice ra r'.2.1.length rc)) := hw12 ▸ loc_at w11 _ _ rfl
  clear SP B10 l10 L10 m10 x10 M10 n10 y10 N10 a10 A10 X10 e10 E10 o11 b11 b1112 b12 f11
  go_wp2_with fail
  clear hw12
  obtain ⟨x, y, cs⟩ := r
  obtain ⟨x', y', q'⟩ := r'
  dsimp only at *
  have sInts := hide fun u v xs w h h' => (sameInts_yes u v xs w h h').mono (fun e w' (k : e = .returned (.bool true) ∧ ∃ n, w' = w.drewN n) => (show e = .returned (.bool true) ∧ Below w.heap.size w w' from ⟨k.1, by obtain ⟨n, e⟩ := k.2; exact e ▸ below_drewN' (Below.refl _ _) _⟩))
  have K : Hid (∀ w', Below w12.heap.size w12 w' → (fun w' => (w'.cell? ⟨w1.heap.size, 0, none⟩ = some (.slice ha xs.length hc) ∧ w'.cell? ⟨w1.heap.size, 1, none⟩ = some (.slice na ys.length nc)) ∧ (w'.cell? ⟨w3.heap.size, 0, none⟩ = some (.slice ma x.length mc) ∧ w'.cell? ⟨w3.heap.size, 1, none⟩ = some (.slice ka y.length kc)) ∧ (w'.cell? ⟨w5.heap.size, 0, none⟩ = some (.slice sa x.length sc) ∧ w'.cell? ⟨w5.heap.size, 1, none⟩ = some (.slice ta y.length tc)) ∧ (w'.cell? ⟨w7.heap.size, 0, none⟩ = some (.slice fa xs'.length fc) ∧ w'.cell? ⟨w7.heap.size, 1, none⟩ = some (.slice ga ys'.length gc)) ∧ (w'.cell? ⟨w9.heap.size, 0, none⟩ = some (.slice ia x'.length ic) ∧ w'.cell? ⟨w9.heap.size, 1, none⟩ = some (.slice ja y'.length jc)) ∧ (w'.cell? ⟨w11.heap.size, 0, none⟩ = some (.slice oa x'.length oc) ∧ w'.cell? ⟨w11.heap.size, 1, none⟩ = some (.slice ra y'.length rc))) w') := hide fun w' hb' => ⟨⟨(L12.below hb' L12.lt).cell 0 rfl, (L12.below hb' L12.lt).cell 1 rfl⟩, ⟨(M12.below hb' M12.lt).cell 0 rfl, (M12.below hb' M12.lt).cell 1 rfl⟩, ⟨(N12.below hb' N12.lt).cell 0 rfl, (N12.below hb' N12.lt).cell 1 rfl⟩, ⟨(A12.below hb' A12.lt).cell 0 rfl, (A12.below hb' A12.lt).cell 1 rfl⟩, ⟨(E12.below hb' E12.lt).cell 0 rfl, (E12.below hb' E12.lt).cell 1 rfl⟩, ⟨(F12.below hb' F12.lt).cell 0 rfl, (F12.below hb' F12.lt).cell 1 rfl⟩⟩
  have RL : Hid (∀ w', Below w12.heap.size w12 w' → R2 w' (.slice ha xs.length hc) (.slice na ys.length nc) xs ys) := hide fun w' hb' => l12.below hb'
  have RM : Hid (∀ w', Below w12.heap.size w12 w' → R2 w' (.slice ma x.length mc) (.slice ka y.length kc) x y) := hide fun w' hb' => m12.below hb'
  have RN : Hid (∀ w', Below w12.heap.size w12 w' → R2 w' (.slice sa x.length sc) (.slice ta y.length tc) x y) := hide fun w' hb' => n12.below hb'
  have RA : Hid (∀ w', Below w12.heap.size w12 w' → R2 w' (.slice fa xs'.length fc) (.slice ga ys'.length gc) xs' ys') := hide fun w' hb' => a12.below hb'
  have RE : Hid (∀ w', Below w12.heap.size w12 w' → R2 w' (.slice ia x'.length ic) (.slice ja y'.length jc) x' y') := hide fun w' hb' => e12.below hb'
  have RF : Hid (∀ w', Below w12.heap.size w12 w' → R2 w' (.slice oa x'.length oc) (.slice ra y'.length rc) x' y') := hide fun w' hb' => f12.below hb'
  have RX : Hid (∀ w', Below w12.heap.size w12 w' → RI w' (.slice ca3 cs.length cc3) cs) := hide fun w' hb' => x12.below hb' (Nat.le_refl _)
  have RY : Hid (∀ w', Below w12.heap.size w12 w' → RI w' (.slice ca5 cs.length cc5) cs) := hide fun w' hb' => y12.below hb' (Nat.le_refl _)
  have KX : Hid (∀ w', Below w12.heap.size w12 w' → Loc w' (w7.heap.size + 1) (r4 a b c d)) := hide fun w' hb' => X12.below hb' X12.lt
  have IL := hide fun u v w h => implLedgerOk u v xs ys w h
  have SLk := hide fun u v w h => specLedgerOk u v xs ys w h
  have IK := hide fun u v w h => implLedgerOk u v x y w h
  have IT := hide fun u v w h => implTotal u v xs w h
  have ST := hide fun u v w h => specTotal u v xs w h
  have JT := hide fun u v w h => implTotal u v x w h
  have IT' := hide fun u v w h => implTotal u v xs' w h
  have JT' := hide fun u v w h => implTotal u v x' w h
  rw [unhide ET] at JT
  rw [unhide PT] at JT'
  have PA := unhide PA
  obtain ⟨tq, htq⟩ : ∃ tq, tot xs = tq := ⟨_, rfl⟩
  obtain ⟨tq', htq'⟩ : ∃ tq, tot xs' = tq := ⟨_, rfl⟩
  rw [htq] at IT ST JT
  rw [htq'] at IT' JT'
  have B12 := hide B12
  clear l12 L12 m12 x12 M12 n12 y12 N12 a12 A12 X12 e12 E12 f12 F12 ET PT htq htq'
  by_cases hok : LOk xs ys
  · have hok' := unhide EO hok
    rw [decide_eq_true hok] at IL SLk
    rw [decide_eq_true hok'] at IK
    clear EO
    refine wp_region_noPanic ?_
    refine wp_region_held_drew (S := (fun w' => (w'.cell? ⟨w1.heap.size, 0, none⟩ = some (.slice ha xs.length hc) ∧ w'.cell? ⟨w1.heap.size, 1, none⟩ = some (.slice na ys.length nc)) ∧ (w'.cell? ⟨w3.heap.size, 0, none⟩ = some (.slice ma x.length mc) ∧ w'.cell? ⟨w3.heap.size, 1, none⟩ = some (.slice ka y.length kc)) ∧ (w'.cell? ⟨w5.heap.size, 0, none⟩ = some (.slice sa x.length sc) ∧ w'.cell? ⟨w5.heap.size, 1, none⟩ = some (.slice ta y.length tc)) ∧ (w'.cell? ⟨w7.heap.size, 0, none⟩ = some (.slice fa xs'.length fc) ∧ w'.cell? ⟨w7.heap.size, 1, none⟩ = some (.slice ga ys'.length gc)) ∧ (w'.cell? ⟨w9.heap.size, 0, none⟩ = some (.slice ia x'.length ic) ∧ w'.cell? ⟨w9.heap.size, 1, none⟩ = some (.slice ja y'.length jc)) ∧ (w'.cell? ⟨w11.heap.size, 0, none⟩ = some (.slice oa x'.length oc) ∧ w'.cell? ⟨w11.heap.size, 1, none⟩ = some (.slice ra y'.length rc)))) (by kernel_rfl) (unhide K _ (Below.drew (Below.refl _ _))) (fun hHeld => ?_)
    have bv0 : Below w12.heap.size w12 w12.drew := Below.drew (Below.refl _ _)
    refine take_at (i := 0) (d := 53) (v := ?_) rfl rfl (by kernel_rfl) (by kernel_rfl) (by kernel_rfl) (fun _ _ _ h => h) (Or.inl ⟨by rfl, ?_⟩) (by assumption) ?_
    rotate_left
    · intro w hSw
      try dsimp only at hSw
      go_simp
      try with_reducible rfl
    simp only [Act.put, List.setIfInBounds_toArray, List.set_cons_zero, List.set_cons_succ]
    refine take_at (i := 1) (d := 54) (v := ?_) rfl rfl (by kernel_rfl) (by kernel_rfl) (by kernel_rfl) (fun _ _ _ h => h) (Or.inl ⟨by rfl, ?_⟩) (by assumption) ?_
    rotate_left
    · intro w hSw
      try dsimp only at hSw
      go_simp
      try with_reducible rfl
    simp only [Act.put, List.setIfInBounds_toArray, List.set_cons_zero, List.set_cons_succ]
    refine ready_at (i := 2) rfl (by kernel_rfl) (fun KK hKK => ?_)
    go_simp
    refine (sameLedger_yes _ _ _ _ x y _ (unhide RM _ bv0) (unhide RN _ bv0)).mono ?_
    rintro _ v1 ⟨rfl, bn⟩
    have bv1 : Below w12.heap.size w12 v1 := bv0.trans (bn.mono bv0.size)
    clear hHeld bn bv0
    refine hKK.out _ _ (unhide K _ bv1) (fun hHeld => ?_)
    clear hKK KK
    refine take_at (i := 3) (d := 56) (v := ?_) rfl rfl (by kernel_rfl) (by kernel_rfl) (by kernel_rfl) (fun _ _ _ h => h) (Or.inl ⟨by rfl, ?_⟩) (by assumption) ?_
    rotate_left
    · intro w hSw
      try dsimp only at hSw
      go_simp
      try with_reducible rfl
    simp only [Act.put, List.setIfInBounds_toArray, List.set_cons_zero, List.set_cons_succ]
    refine take_at (i := 4) (d := 57) (v := ?_) rfl rfl (by kernel_rfl) (by kernel_rfl) (by kernel_rfl) (fun _ _ _ h => h) (Or.inl ⟨by rfl, ?_⟩) (by assumption) ?_
    rotate_left
    · intro w hSw
      try dsimp only at hSw
      go_simp
      try with_reducible rfl
    simp only [Act.put, List.setIfInBounds_toArray, List.set_cons_zero, List.set_cons_succ]
    refine take_at (i := 5) (d := 58) (v := ?_) rfl rfl (by kernel_rfl) (by kernel_rfl) (by kernel_rfl) (fun _ _ _ h => h) (Or.inl ⟨by rfl, ?_⟩) (by assumption) ?_
    rotate_left
    · intro w hSw
      try dsimp only at hSw
      go_simp
      try with_reducible rfl
    simp only [Act.put, List.setIfInBounds_toArray, List.set_cons_zero, List.set_cons_succ]
    refine take_at (i := 6) (d := 59) (v := ?_) rfl rfl (by kernel_rfl) (by kernel_rfl) (by kernel_rfl) (fun _ _ _ h => h) (Or.inl ⟨by rfl, ?_⟩) (by assumption) ?_
    rotate_left
    · intro w hSw
      try dsimp only at hSw
      go_simp
      try with_reducible rfl
    simp only [Act.put, List.setIfInBounds_toArray, List.set_cons_zero, List.set_cons_succ]
    refine ready_at (i := 7) rfl (by kernel_rfl) (fun KK hKK => ?_)
    go_simp
    refine (unhide sInts _ _ cs _ (unhide RX _ bv1) (unhide RY _ bv1)).mono ?_
    rintro _ v2 ⟨rfl, bn⟩
    have bv2 : Below w12.heap.size w12 v2 := bv1.trans (bn.mono bv1.size)
    clear hHeld bn bv1
    refine hKK.out _ _ (unhide K _ bv2) (fun hHeld => ?_)
    clear hKK KK
    refine take_at (i := 8) (d := 61) (v := ?_) rfl rfl (by kernel_rfl) (by kernel_rfl) (by kernel_rfl) (fun _ _ _ h => h) (Or.inl ⟨by rfl, ?_⟩) (by assumption) ?_
    rotate_left
    · intro w hSw
      try dsimp only at hSw
      go_simp
      try with_reducible rfl
    simp only [Act.put, List.setIfInBounds_toArray, List.set_cons_zero, List.set_cons_succ]
    refine take_at (i := 9) (d := 62) (v := ?_) rfl rfl (by kernel_rfl) (by kernel_rfl) (by kernel_rfl) (fun _ _ _ h => h) (Or.inl ⟨by rfl, ?_⟩) (by assumption) ?_
    rotate_left
    · intro w hSw
      try dsimp only at hSw
      go_simp
      try with_reducible rfl
    simp only [Act.put, List.setIfInBounds_toArray, List.set_cons_zero, List.set_cons_succ]
    refine take_at (i := 10) (d := 63) (v := ?_) rfl rfl (by kernel_rfl) (by kernel_rfl) (by kernel_rfl) (fun _ _ _ h => h) (Or.inl ⟨by rfl, ?_⟩) (by assumption) ?_
    rotate_left
    · intro w hSw
      try dsimp only at hSw
      go_simp
      try with_reducible rfl
    simp only [Act.put, List.setIfInBounds_toArray, List.set_cons_zero, List.set_cons_succ]
    refine take_at (i := 11) (d := 64) (v := ?_) rfl rfl (by kernel_rfl) (by kernel_rfl) (by kernel_rfl) (fun _ _ _ h => h) (Or.inl ⟨by rfl, ?_⟩) (by assumption) ?_
    rotate_left
    · intro w hSw
      try dsimp only at hSw
      go_simp
      try with_reducible rfl
    simp only [Act.put, List.setIfInBounds_toArray, List.set_cons_zero, List.set_cons_succ]
    refine take_at (i := 12) (d := 65) (v := ?_) rfl rfl (by kernel_rfl) (by kernel_rfl) (by kernel_rfl) (fun _ _ _ h => h) (Or.inl ⟨by rfl, ?_⟩) (by assumption) ?_
    rotate_left
    · intro w hSw
      try dsimp only at hSw
      go_simp
      try with_reducible rfl
    simp only [Act.put, List.setIfInBounds_toArray, List.set_cons_zero, List.set_cons_succ]
    refine take_at (i := 13) (d := 66) (v := ?_) rfl rfl (by kernel_rfl) (by kernel_rfl) (by kernel_rfl) (fun _ _ _ h => h) (Or.inl ⟨by rfl, ?_⟩) (by assumption) ?_
    rotate_left
    · intro w hSw
      try dsimp only at hSw
      go_simp
      try with_reducible rfl
    simp only [Act.put, List.setIfInBounds_toArray, List.set_cons_zero, List.set_cons_succ]
    refine take_at (i := 14) (d := 67) (v := ?_) rfl rfl (by kernel_rfl) (by kernel_rfl) (by kernel_rfl) (fun _ _ _ h => h) (Or.inl ⟨by rfl, ?_⟩) (by assumption) ?_
    rotate_left
    · intro w hSw
      try dsimp only at hSw
      go_simp
      try with_reducible rfl
    simp only [Act.put, List.setIfInBounds_toArray, List.set_cons_zero, List.set_cons_succ]
    refine take_at (i := 15) (d := 68) (v := ?_) rfl rfl (by kernel_rfl) (by kernel_rfl) (by kernel_rfl) (fun _ _ _ h => h) (Or.inl ⟨by rfl, ?_⟩) (by assumption) ?_
    rotate_left
    · intro w hSw
      try dsimp only at hSw
      go_simp
      try with_reducible rfl
    simp only [Act.put, List.setIfInBounds_toArray, List.set_cons_zero, List.set_cons_succ]
    refine take_at (i := 16) (d := 69) (v := ?_) rfl rfl (by kernel_rfl) (by kernel_rfl) (by kernel_rfl) (fun _ _ _ h => h) (Or.inl ⟨by rfl, ?_⟩) (by assumption) ?_
    rotate_left
    · intro w hSw
      try dsimp only at hSw
      go_simp
      try with_reducible rfl
    simp only [Act.put, List.setIfInBounds_toArray, List.set_cons_zero, List.set_cons_succ]
    refine take_at (i := 17) (d := 70) (v := ?_) rfl rfl (by kernel_rfl) (by kernel_rfl) (by kernel_rfl) (fun _ _ _ h => h) (Or.inl ⟨by rfl, ?_⟩) (by assumption) ?_
    rotate_left
    · intro w hSw
      try dsimp only at hSw
      go_simp
      try with_reducible rfl
    simp only [Act.put, List.setIfInBounds_toArray, List.set_cons_zero, List.set_cons_succ]
    refine ready_at (i := 18) rfl (by kernel_rfl) (fun KK hKK => ?_)
    go_simp
    refine (sameLedger_yes _ _ _ _ x' y' _ (unhide RE _ bv2) (unhide RF _ bv2)).mono ?_
    rintro _ v3 ⟨rfl, bn⟩
    have bv3 : Below w12.heap.size w12 v3 := bv2.trans (bn.mono bv2.size)
    clear hHeld bn bv2
    refine hKK.out _ _ (unhide K _ bv3) (fun hHeld => ?_)
    clear hKK KK
    refine take_at (i := 19) (d := 72) (v := ?_) rfl rfl (by kernel_rfl) (by kernel_rfl) (by kernel_rfl) (fun _ _ _ h => h) (Or.inl ⟨by rfl, ?_⟩) (by assumption) ?_
    rotate_left
    · intro w hSw
      try dsimp only at hSw
      go_simp
      try with_reducible rfl
    simp only [Act.put, List.setIfInBounds_toArray, List.set_cons_zero, List.set_cons_succ]
    refine take_at (i := 20) (d := 73) (v := ?_) rfl rfl (by kernel_rfl) (by kernel_rfl) (by kernel_rfl) (fun _ _ _ h => h) (Or.inl ⟨by rfl, ?_⟩) (by assumption) ?_
    rotate_left
    · intro w hSw
      try dsimp only at hSw
      go_simp
      try with_reducible rfl
    simp only [Act.put, List.setIfInBounds_toArray, List.set_cons_zero, List.set_cons_succ]
    refine take_at (i := 21) (d := 74) (v := ?_) rfl rfl (by kernel_rfl) (by kernel_rfl) (by kernel_rfl) (fun _ _ _ h => h) (Or.inl ⟨by rfl, ?_⟩) (by assumption) ?_
    rotate_left
    · intro w hSw
      try dsimp only at hSw
      go_simp
      try with_reducible rfl
    simp only [Act.put, List.setIfInBounds_toArray, List.set_cons_zero, List.set_cons_succ]
    refine take_at (i := 22) (d := 75) (v := ?_) rfl rfl (by kernel_rfl) (by kernel_rfl) (by kernel_rfl) (fun _ _ _ h => h) (Or.inl ⟨by rfl, ?_⟩) (by assumption) ?_
    rotate_left
    · intro w hSw
      try dsimp only at hSw
      go_simp
      try with_reducible rfl
    simp only [Act.put, List.setIfInBounds_toArray, List.set_cons_zero, List.set_cons_succ]
    refine take_at (i := 24) (d := 77) (v := ?_) rfl rfl (by kernel_rfl) (by kernel_rfl) (by kernel_rfl) (fun _ _ _ h => h) (Or.inl ⟨by rfl, ?_⟩) (by assumption) ?_
    rotate_left
    · intro w hSw
      try dsimp only at hSw
      go_simp
      try with_reducible rfl
    simp only [Act.put, List.setIfInBounds_toArray, List.set_cons_zero, List.set_cons_succ]
    refine ready_at (i := 23) rfl (by kernel_rfl) (fun KK hKK => ?_)
    go_simp
    refine (unhide IL _ _ _ (unhide RL _ bv3)).mono ?_
    rintro _ v4 ⟨rfl, bn⟩
    have bv4 : Below w12.heap.size w12 v4 := bv3.trans (bn.mono bv3.size)
    clear hHeld bn bv3
    refine hKK.out _ _ (unhide K _ bv4) (fun hHeld => ?_)
    clear hKK KK
    refine ready_at (i := 25) rfl (by kernel_rfl) (fun KK hKK => ?_)
    go_simp
    refine (unhide SLk _ _ _ (unhide RL _ bv4)).mono ?_
    rintro _ v5 ⟨rfl, bn⟩
    have bv5 : Below w12.heap.size w12 v5 := bv4.trans (bn.mono bv4.size)
    clear hHeld bn bv4
    refine hKK.out _ _ (unhide K _ bv5) (fun hHeld => ?_)
    clear hKK KK
    refine take_at (i := 26) (d := 79) (v := ?_) rfl rfl (by kernel_rfl) (by kernel_rfl) (by kernel_rfl) (fun _ _ _ h => h) (Or.inl ⟨by rfl, ?_⟩) (by assumption) ?_
    rotate_left
    · intro w hSw
      try dsimp only at hSw
      go_simp
      try with_reducible rfl
    simp only [Act.put, List.setIfInBounds_toArray, List.set_cons_zero, List.set_cons_succ]
    refine take_at (i := 27) (d := 80) (v := ?_) rfl rfl (by kernel_rfl) (by kernel_rfl) (by kernel_rfl) (fun _ _ _ h => h) (Or.inl ⟨by rfl, ?_⟩) (by assumption) ?_
    rotate_left
    · intro w hSw
      try dsimp only at hSw
      go_simp
      try with_reducible rfl
    simp only [Act.put, List.setIfInBounds_toArray, List.set_cons_zero, List.set_cons_succ]
    refine take_at (i := 28) (d := 81) (v := ?_) rfl rfl (by kernel_rfl) (by kernel_rfl) (by kernel_rfl) (fun _ _ _ h => h) (Or.inl ⟨by rfl, ?_⟩) (by assumption) ?_
    rotate_left
    · intro w hSw
      try dsimp only at hSw
      go_simp
      try with_reducible rfl
    simp only [Act.put, List.setIfInBounds_toArray, List.set_cons_zero, List.set_cons_succ]
    refine take_at (i := 29) (d := 82) (v := ?_) rfl rfl (by kernel_rfl) (by kernel_rfl) (by kernel_rfl) (fun _ _ _ h => h) (Or.inl ⟨by rfl, ?_⟩) (by assumption) ?_
    rotate_left
    · intro w hSw
      try dsimp only at hSw
      go_simp
      try with_reducible rfl
    simp only [Act.put, List.setIfInBounds_toArray, List.set_cons_zero, List.set_cons_succ]
    refine take_at (i := 31) (d := 84) (v := ?_) rfl rfl (by kernel_rfl) (by kernel_rfl) (by kernel_rfl) (fun _ _ _ h => h) (Or.inl ⟨by rfl, ?_⟩) (by assumption) ?_
    rotate_left
    · intro w hSw
      try dsimp only at hSw
      go_simp
      try with_reducible rfl
    simp only [Act.put, List.setIfInBounds_toArray, List.set_cons_zero, List.set_cons_succ]
    refine ready_at (i := 30) rfl (by kernel_rfl) (fun KK hKK => ?_)
    go_simp
    refine (unhide IT _ _ _ (unhide RL _ bv5).1).mono ?_
    rintro _ v6 ⟨rfl, bn⟩
    have bv6 : Below w12.heap.size w12 v6 := bv5.trans (bn.mono bv5.size)
    clear hHeld bn bv5
    refine hKK.out _ _ (unhide K _ bv6) (fun hHeld => ?_)
    clear hKK KK
    refine ready_at (i := 32) rfl (by kernel_rfl) (fun KK hKK => ?_)
    go_simp
    refine (unhide ST _ _ _ (unhide RL _ bv6).1).mono ?_
    rintro _ v7 ⟨rfl, bn⟩
    have bv7 : Below w12.heap.size w12 v7 := bv6.trans (bn.mono bv6.size)
    clear hHeld bn bv6
    refine hKK.out _ _ (unhide K _ bv7) (fun hHeld => ?_)
    clear hKK KK
    refine take_at (i := 33) (d := 86) (v := ?_) rfl rfl (by kernel_rfl) (by kernel_rfl) (by kernel_rfl) (fun _ _ _ h => h) (Or.inl ⟨by rfl, ?_⟩) (by assumption) ?_
    rotate_left
    · intro w hSw
      try dsimp only at hSw
      go_simp
      try with_reducible rfl
    simp only [Act.put, List.setIfInBounds_toArray, List.set_cons_zero, List.set_cons_succ]
    refine take_at (i := 34) (d := 87) (v := ?_) rfl rfl (by kernel_rfl) (by kernel_rfl) (by kernel_rfl) (fun _ _ _ h => h) (Or.inl ⟨by rfl, ?_⟩) (by assumption) ?_
    rotate_left
    · intro w hSw
      try dsimp only at hSw
      go_simp
      try with_reducible rfl
    simp only [Act.put, List.setIfInBounds_toArray, List.set_cons_zero, List.set_cons_succ]
    refine take_at (i := 35) (d := 88) (v := ?_) rfl rfl (by kernel_rfl) (by kernel_rfl) (by kernel_rfl) (fun _ _ _ h => h) (Or.inl ⟨by rfl, ?_⟩) (by assumption) ?_
    rotate_left
    · intro w hSw
      try dsimp only at hSw
      go_simp
      try with_reducible rfl
    simp only [Act.put, List.setIfInBounds_toArray, List.set_cons_zero, List.set_cons_succ]
    refine ready_at (i := 36) rfl (by kernel_rfl) (fun KK hKK => ?_)
    go_simp
    refine (implLedgerNew _).mono ?_
    rintro _ v8 ⟨u1, v1', rfl, o1, bn⟩
    have bv8 : Below w12.heap.size w12 v8 := bv7.trans (bn.mono bv7.size)
    have n1 : R2 v8 u1 v1' _ _ := o1.ri (by simp) (by simp)
    clear o1
    clear hHeld bn bv7
    refine hKK.out _ _ (unhide K _ bv8) (fun hHeld => ?_)
    clear hKK KK
    refine ready_at (i := 37) rfl (by kernel_rfl) (fun KK hKK => ?_)
    go_simp
    refine (specLedgerNew _).mono ?_
    rintro _ v9 ⟨u2, v2', rfl, o2, bn⟩
    have bv9 : Below w12.heap.size w12 v9 := bv8.trans (bn.mono bv8.size)
    have n2 : R2 v9 u2 v2' _ _ := o2.ri (by simp) (by simp)
    have n1 := n1.below bn
    clear o2
    clear hHeld bn bv8
    refine hKK.out _ _ (unhide K _ bv9) (fun hHeld => ?_)
    clear hKK KK
    refine ready_at (i := 38) rfl (by kernel_rfl) (fun KK hKK => ?_)
    go_simp
    refine (sameLedger_yes _ _ _ _ _ _ _ n1 n2).mono ?_
    rintro _ v10 ⟨rfl, bn⟩
    have bv10 : Below w12.heap.size w12 v10 := bv9.trans (bn.mono bv9.size)
    clear n1 n2
    clear hHeld bn bv9
    refine hKK.out _ _ (unhide K _ bv10) (fun hHeld => ?_)
    clear hKK KK
    refine take_at (i := 39) (d := 92) (v := ?_) rfl rfl (by kernel_rfl) (by kernel_rfl) (by kernel_rfl) (fun _ _ _ h => h) (Or.inl ⟨by rfl, ?_⟩) (by assumption) ?_
    rotate_left
    · intro w hSw
      try dsimp only at hSw
      go_simp
      try with_reducible rfl
    simp only [Act.put, List.setIfInBounds_toArray, List.set_cons_zero, List.set_cons_succ]
    refine take_at (i := 40) (d := 93) (v := ?_) rfl rfl (by kernel_rfl) (by kernel_rfl) (by kernel_rfl) (fun _ _ _ h => h) (Or.inl ⟨by rfl, ?_⟩) (by assumption) ?_
    rotate_left
    · intro w hSw
      try dsimp only at hSw
      go_simp
      try with_reducible rfl
    simp only [Act.put, List.setIfInBounds_toArray, List.set_cons_zero, List.set_cons_succ]
    clear hHeld
    refine wpAnyH_done (by kernel_rfl) ?_ _
    refine NoPanic.normal ?_
    by_cases h0 : q' = 0
    · subst h0
      have hag := PA (.inl rfl)
      obtain ⟨e0, e1⟩ : v10.cell? ⟨w9.heap.size, 0, none⟩ = some (.slice ia x'.length ic) ∧ v10.cell? ⟨w9.heap.size, 1, none⟩ = some (.slice ja y'.length jc) := (unhide K _ bv10).2.2.2.2.1
      obtain ⟨t0, t1, t2, t3⟩ := (unhide KX _ bv10).cells4
      go_wp2_with fail
      clear e0 e1 t0 t1 t2 t3
      refine (implPay _ _ a b c d x' y' _ (unhide RE _ bv10)).mono ?_
      rintro _ v11 ⟨u3, v3', rfl, o3, bn⟩
      rw [hag]
      obtain ⟨ka', kc', rfl⟩ := o3.has.form
      obtain ⟨kb', kd', rfl⟩ := o3.next.form
      obtain ⟨v12, hv12⟩ : ∃ v12, v11.alloc (.cells (two (.slice ka' (payAns x' y' a b c d).1.length kc') (.slice kb' (payAns x' y' a b c d).2.1.length kd')) 26) = v12 := ⟨_, rfl⟩
      have bv12 : Below w12.heap.size w12 v12 := hv12 ▸ (bv10.trans (bn.mono bv10.size)).alloc (bv10.trans (bn.mono bv10.size)).size _
      clear o3 bn
      go_wp2_with fail
      clear hv12
      refine wp_region_noPanic ?_
      refine wp_region_held_drew (S := (fun w' => (w'.cell? ⟨w1.heap.size, 0, none⟩ = some (.slice ha xs.length hc) ∧ w'.cell? ⟨w1.heap.size, 1, none⟩ = some (.slice na ys.length nc)) ∧ (w'.cell? ⟨w3.heap.size, 0, none⟩ = some (.slice ma x.length mc) ∧ w'.cell? ⟨w3.heap.size, 1, none⟩ = some (.slice ka y.length kc)) ∧ (w'.cell? ⟨w5.heap.size, 0, none⟩ = some (.slice sa x.length sc) ∧ w'.cell? ⟨w5.heap.size, 1, none⟩ = some (.slice ta y.length tc)) ∧ (w'.cell? ⟨w7.heap.size, 0, none⟩ = some (.slice fa xs'.length fc) ∧ w'.cell? ⟨w7.heap.size, 1, none⟩ = some (.slice ga ys'.length gc)) ∧ (w'.cell? ⟨w9.heap.size, 0, none⟩ = some (.slice ia x'.length ic) ∧ w'.cell? ⟨w9.heap.size, 1, none⟩ = some (.slice ja y'.length jc)) ∧ (w'.cell? ⟨w11.heap.size, 0, none⟩ = some (.slice oa x'.length oc) ∧ w'.cell? ⟨w11.heap.size, 1, none⟩ = some (.slice ra y'.length rc)))) (by kernel_rfl) (unhide K _ (Below.drew bv12)) (fun hHeld => ?_)
      have bz0 : Below w12.heap.size w12 v12.drew := Below.drew bv12
      refine take_at (i := 0) (d := 108) (v := ?_) rfl rfl (by kernel_rfl) (by kernel_rfl) (by kernel_rfl) (fun _ _ _ h => h) (Or.inl ⟨by rfl, ?_⟩) (by assumption) ?_
      rotate_left
      · intro w hSw
        try dsimp only at hSw
        go_simp
        try with_reducible rfl
      simp only [Act.put, List.setIfInBounds_toArray, List.set_cons_zero, List.set_cons_succ]
      refine take_at (i := 2) (d := 110) (v := ?_) rfl rfl (by kernel_rfl) (by kernel_rfl) (by kernel_rfl) (fun _ _ _ h => h) (Or.inl ⟨by rfl, ?_⟩) (by assumption) ?_
      rotate_left
      · intro w hSw
        try dsimp only at hSw
        go_simp
        try with_reducible rfl
      simp only [Act.put, List.setIfInBounds_toArray, List.set_cons_zero, List.set_cons_succ]
      refine ready_at (i := 1) rfl (by kernel_rfl) (fun KK hKK => ?_)
      go_simp
      refine (unhide JT _ _ _ (unhide RM _ bz0).1).mono ?_
      rintro _ z1 ⟨rfl, bn⟩
      have bz1 : Below w12.heap.size w12 z1 := bz0.trans (bn.mono bz0.size)
      clear hHeld bn bz0
      refine hKK.out _ _ (unhide K _ bz1) (fun hHeld => ?_)
      clear hKK KK
      refine ready_at (i := 3) rfl (by kernel_rfl) (fun KK hKK => ?_)
      go_simp
      refine (unhide IT _ _ _ (unhide RL _ bz1).1).mono ?_
      rintro _ z2 ⟨rfl, bn⟩
      have bz2 : Below w12.heap.size w12 z2 := bz1.trans (bn.mono bz1.size)
      clear hHeld bn bz1
      refine hKK.out _ _ (unhide K _ bz2) (fun hHeld => ?_)
      clear hKK KK
      refine take_at (i := 4) (d := 112) (v := ?_) rfl rfl (by kernel_rfl) (by kernel_rfl) (by kernel_rfl) (fun _ _ _ h => h) (Or.inl ⟨by rfl, ?_⟩) (by assumption) ?_
      rotate_left
      · intro w hSw
        try dsimp only at hSw
        go_simp
        try with_reducible rfl
      simp only [Act.put, List.setIfInBounds_toArray, List.set_cons_zero, List.set_cons_succ]
      refine take_at (i := 5) (d := 113) (v := ?_) rfl rfl (by kernel_rfl) (by kernel_rfl) (by kernel_rfl) (fun _ _ _ h => h) (Or.inl ⟨by rfl, ?_⟩) (by assumption) ?_
      rotate_left
      · intro w hSw
        try dsimp only at hSw
        go_simp
        try with_reducible rfl
      simp only [Act.put, List.setIfInBounds_toArray, List.set_cons_zero, List.set_cons_succ]
      refine take_at (i := 6) (d := 114) (v := ?_) rfl rfl (by kernel_rfl) (by kernel_rfl) (by kernel_rfl) (fun _ _ _ h => h) (Or.inl ⟨by rfl, ?_⟩) (by assumption) ?_
      rotate_left
      · intro w hSw
        try dsimp only at hSw
        go_simp
        try with_reducible rfl
      simp only [Act.put, List.setIfInBounds_toArray, List.set_cons_zero, List.set_cons_succ]
      refine take_at (i := 8) (d := 116) (v := ?_) rfl rfl (by kernel_rfl) (by kernel_rfl) (by kernel_rfl) (fun _ _ _ h => h) (Or.inl ⟨by rfl, ?_⟩) (by assumption) ?_
      rotate_left
      · intro w hSw
        try dsimp only at hSw
        go_simp
        try with_reducible rfl
      simp only [Act.put, List.setIfInBounds_toArray, List.set_cons_zero, List.set_cons_succ]
      refine ready_at (i := 7) rfl (by kernel_rfl) (fun KK hKK => ?_)
      go_simp
      refine (unhide JT' _ _ _ (unhide RE _ bz2).1).mono ?_
      rintro _ z3 ⟨rfl, bn⟩
      have bz3 : Below w12.heap.size w12 z3 := bz2.trans (bn.mono bz2.size)
      clear hHeld bn bz2
      refine hKK.out _ _ (unhide K _ bz3) (fun hHeld => ?_)
      clear hKK KK
      refine ready_at (i := 9) rfl (by kernel_rfl) (fun KK hKK => ?_)
      go_simp
      refine (unhide IT' _ _ _ (unhide RA _ bz3).1).mono ?_
      rintro _ z4 ⟨rfl, bn⟩
      have bz4 : Below w12.heap.size w12 z4 := bz3.trans (bn.mono bz3.size)
      clear hHeld bn bz3
      refine hKK.out _ _ (unhide K _ bz4) (fun hHeld => ?_)
      clear hKK KK
      refine take_at (i := 10) (d := 118) (v := ?_) rfl rfl (by kernel_rfl) (by kernel_rfl) (by kernel_rfl) (fun _ _ _ h => h) (Or.inl ⟨by rfl, ?_⟩) (by assumption) ?_
      rotate_left
      · intro w hSw
        try dsimp only at hSw
        go_simp
        try with_reducible rfl
      simp only [Act.put, List.setIfInBounds_toArray, List.set_cons_zero, List.set_cons_succ]
      refine take_at (i := 11) (d := 119) (v := ?_) rfl rfl (by kernel_rfl) (by kernel_rfl) (by kernel_rfl) (fun _ _ _ h => h) (Or.inl ⟨by rfl, ?_⟩) (by assumption) ?_
      rotate_left
      · intro w hSw
        try dsimp only at hSw
        go_simp
        try with_reducible rfl
      simp only [Act.put, List.setIfInBounds_toArray, List.set_cons_zero, List.set_cons_succ]
      refine take_at (i := 12) (d := 120) (v := ?_) rfl rfl (by kernel_rfl) (by kernel_rfl) (by kernel_rfl) (fun _ _ _ h => h) (Or.inl ⟨by rfl, ?_⟩) (by assumption) ?_
      rotate_left
      · intro w hSw
        try dsimp only at hSw
        go_simp
        try with_reducible rfl
      simp only [Act.put, List.setIfInBounds_toArray, List.set_cons_zero, List.set_cons_succ]
      refine take_at (i := 13) (d := 121) (v := ?_) rfl rfl (by kernel_rfl) (by kernel_rfl) (by kernel_rfl) (fun _ _ _ h => h) (Or.inl ⟨by rfl, ?_⟩) (by assumption) ?_
      rotate_left
      · intro w hSw
        try dsimp only at hSw
        go_simp
        try with_reducible rfl
      simp only [Act.put, List.setIfInBounds_toArray, List.set_cons_zero, List.set_cons_succ]
      refine ready_at (i := 14) rfl (by kernel_rfl) (fun KK hKK => ?_)
      go_simp
      refine (unhide IL _ _ _ (unhide RL _ bz4)).mono ?_
      rintro _ z5 ⟨rfl, bn⟩
      have bz5 : Below w12.heap.size w12 z5 := bz4.trans (bn.mono bz4.size)
      clear hHeld bn bz4
      refine hKK.out _ _ (unhide K _ bz5) (fun hHeld => ?_)
      clear hKK KK
      refine take_at (i := 15) (d := 123) (v := ?_) rfl rfl (by kernel_rfl) (by kernel_rfl) (by kernel_rfl) (fun _ _ _ h => h) (Or.inl ⟨by rfl, ?_⟩) (by assumption) ?_
      rotate_left
      · intro w hSw
        try dsimp only at hSw
        go_simp
        try with_reducible rfl
      simp only [Act.put, List.setIfInBounds_toArray, List.set_cons_zero, List.set_cons_succ]
      refine take_at (i := 16) (d := 124) (v := ?_) rfl rfl (by kernel_rfl) (by kernel_rfl) (by kernel_rfl) (fun _ _ _ h => h) (Or.inl ⟨by rfl, ?_⟩) (by assumption) ?_
      rotate_left
      · intro w hSw
        try dsimp only at hSw
        go_simp
        try with_reducible rfl
      simp only [Act.put, List.setIfInBounds_toArray, List.set_cons_zero, List.set_cons_succ]
      refine take_at (i := 17) (d := 125) (v := ?_) rfl rfl (by kernel_rfl) (by kernel_rfl) (by kernel_rfl) (fun _ _ _ h => h) (Or.inl ⟨by rfl, ?_⟩) (by assumption) ?_
      rotate_left
      · intro w hSw
        try dsimp only at hSw
        go_simp
        try with_reducible rfl
      simp only [Act.put, List.setIfInBounds_toArray, List.set_cons_zero, List.set_cons_succ]
      refine ready_at (i := 18) rfl (by kernel_rfl) (fun KK hKK => ?_)
      go_simp
      refine (unhide IK _ _ _ (unhide RM _ bz5)).mono ?_
      rintro _ z6 ⟨rfl, bn⟩
      have bz6 : Below w12.heap.size w12 z6 := bz5.trans (bn.mono bz5.size)
      clear hHeld bn bz5
      refine hKK.out _ _ (unhide K _ bz6) (fun hHeld => ?_)
      clear hKK KK
      refine take_at (i := 19) (d := 127) (v := ?_) rfl rfl (by kernel_rfl) (by kernel_rfl) (by kernel_rfl) (fun _ _ _ h => h) (Or.inl ⟨by rfl, ?_⟩) (by assumption) ?_
      rotate_left
      · intro w hSw
        try dsimp only at hSw
        go_simp
        try with_reducible rfl
      simp only [Act.put, List.setIfInBounds_toArray, List.set_cons_zero, List.set_cons_succ]
      refine take_at (i := 20) (d := 128) (v := ?_) rfl rfl (by kernel_rfl) (by kernel_rfl) (by kernel_rfl) (fun _ _ _ h => h) (Or.inl ⟨by rfl, ?_⟩) (by assumption) ?_
      rotate_left
      · intro w hSw
        try dsimp only at hSw
        go_simp
        try with_reducible rfl
      simp only [Act.put, List.setIfInBounds_toArray, List.set_cons_zero, List.set_cons_succ]
      refine take_at (i := 21) (d := 2) (v := ?_) rfl rfl (by kernel_rfl) (by kernel_rfl) (by kernel_rfl) (fun _ _ _ h => h) (Or.inl ⟨by rfl, ?_⟩) (by assumption) ?_
      rotate_left
      · intro w hSw
        try dsimp only at hSw
        go_simp
        try with_reducible rfl
      simp only [Act.put, List.setIfInBounds_toArray, List.set_cons_zero, List.set_cons_succ]
      clear hHeld
      refine wpAnyH_done (by kernel_rfl) ?_ _
      refine NoPanic.normal ?_
      go_wp2
      go_ret
      exact ⟨by simp, (unhide B12).trans (bz6.mono (unhide B12).size)⟩
    by_cases h4 : q' = 4
    · subst h4
      have hag := PA (.inr rfl)
      obtain ⟨e0, e1⟩ : v10.cell? ⟨w9.heap.size, 0, none⟩ = some (.slice ia x'.length ic) ∧ v10.cell? ⟨w9.heap.size, 1, none⟩ = some (.slice ja y'.length jc) := (unhide K _ bv10).2.2.2.2.1
      obtain ⟨t0, t1, t2, t3⟩ := (unhide KX _ bv10).cells4
      go_wp2_with fail
      clear e0 e1 t0 t1 t2 t3
      refine (implPay _ _ a b c d x' y' _ (unhide RE _ bv10)).mono ?_
      rintro _ v11 ⟨u3, v3', rfl, o3, bn⟩
      rw [hag]
      obtain ⟨ka', kc', rfl⟩ := o3.has.form
      obtain ⟨kb', kd', rfl⟩ := o3.next.form
      obtain ⟨v12, hv12⟩ : ∃ v12, v11.alloc (.cells (two (.slice ka' (payAns x' y' a b c d).1.length kc') (.slice kb' (payAns x' y' a b c d).2.1.length kd')) 26) = v12 := ⟨_, rfl⟩
      have bv12 : Below w12.heap.size w12 v12 := hv12 ▸ (bv10.trans (bn.mono bv10.size)).alloc (bv10.trans (bn.mono bv10.size)).size _
      clear o3 bn
      go_wp2_with fail
      clear hv12
      refine wp_region_noPanic ?_
      refine wp_region_held_drew (S := (fun w' => (w'.cell? ⟨w1.heap.size, 0, none⟩ = some (.slice ha xs.length hc) ∧ w'.cell? ⟨w1.heap.size, 1, none⟩ = some (.slice na ys.length nc)) ∧ (w'.cell? ⟨w3.heap.size, 0, none⟩ = some (.slice ma x.length mc) ∧ w'.cell? ⟨w3.heap.size, 1, none⟩ = some (.slice ka y.length kc)) ∧ (w'.cell? ⟨w5.heap.size, 0, none⟩ = some (.slice sa x.length sc) ∧ w'.cell? ⟨w5.heap.size, 1, none⟩ = some (.slice ta y.length tc)) ∧ (w'.cell? ⟨w7.heap.size, 0, none⟩ = some (.slice fa xs'.length fc) ∧ w'.cell? ⟨w7.heap.size, 1, none⟩ = some (.slice ga ys'.length gc)) ∧ (w'.cell? ⟨w9.heap.size, 0, none⟩ = some (.slice ia x'.length ic) ∧ w'.cell? ⟨w9.heap.size, 1, none⟩ = some (.slice ja y'.length jc)) ∧ (w'.cell? ⟨w11.heap.size, 0, none⟩ = some (.slice oa x'.length oc) ∧ w'.cell? ⟨w11.heap.size, 1, none⟩ = some (.slice ra y'.length rc)))) (by kernel_rfl) (unhide K _ (Below.drew bv12)) (fun hHeld => ?_)
      have bz0 : Below w12.heap.size w12 v12.drew := Below.drew bv12
      refine take_at (i := 0) (d := 108) (v := ?_) rfl rfl (by kernel_rfl) (by kernel_rfl) (by kernel_rfl) (fun _ _ _ h => h) (Or.inl ⟨by rfl, ?_⟩) (by assumption) ?_
      rotate_left
      · intro w hSw
        try dsimp only at hSw
        go_simp
        try with_reducible rfl
      simp only [Act.put, List.setIfInBounds_toArray, List.set_cons_zero, List.set_cons_succ]
      refine take_at (i := 2) (d := 110) (v := ?_) rfl rfl (by kernel_rfl) (by kernel_rfl) (by kernel_rfl) (fun _ _ _ h => h) (Or.inl ⟨by rfl, ?_⟩) (by assumption) ?_
      rotate_left
      · intro w hSw
        try dsimp only at hSw
        go_simp
        try with_reducible rfl
      simp only [Act.put, List.setIfInBounds_toArray, List.set_cons_zero, List.set_cons_succ]
      refine ready_at (i := 1) rfl (by kernel_rfl) (fun KK hKK => ?_)
      go_simp
      refine (unhide JT _ _ _ (unhide RM _ bz0).1).mono ?_
      rintro _ z1 ⟨rfl, bn⟩
      have bz1 : Below w12.heap.size w12 z1 := bz0.trans (bn.mono bz0.size)
      clear hHeld bn bz0
      refine hKK.out _ _ (unhide K _ bz1) (fun hHeld => ?_)
      clear hKK KK
      refine ready_at (i := 3) rfl (by kernel_rfl) (fun KK hKK => ?_)
      go_simp
      refine (unhide IT _ _ _ (unhide RL _ bz1).1).mono ?_
      rintro _ z2 ⟨rfl, bn⟩
      have bz2 : Below w12.heap.size w12 z2 := bz1.trans (bn.mono bz1.size)
      clear hHeld bn bz1
      refine hKK.out _ _ (unhide K _ bz2) (fun hHeld => ?_)
      clear hKK KK
      refine take_at (i := 4) (d := 112) (v := ?_) rfl rfl (by kernel_rfl) (by kernel_rfl) (by kernel_rfl) (fun _ _ _ h => h) (Or.inl ⟨by rfl, ?_⟩) (by assumption) ?_
      rotate_left
      · intro w hSw
        try dsimp only at hSw
        go_simp
        try with_reducible rfl
      simp only [Act.put, List.setIfInBounds_toArray, List.set_cons_zero, List.set_cons_succ]
      refine take_at (i := 5) (d := 113) (v := ?_) rfl rfl (by kernel_rfl) (by kernel_rfl) (by kernel_rfl) (fun _ _ _ h => h) (Or.inl ⟨by rfl, ?_⟩) (by assumption) ?_
      rotate_left
      · intro w hSw
        try dsimp only at hSw
        go_simp
        try with_reducible rfl
      simp only [Act.put, List.setIfInBounds_toArray, List.set_cons_zero, List.set_cons_succ]
      refine take_at (i := 6) (d := 114) (v := ?_) rfl rfl (by kernel_rfl) (by kernel_rfl) (by kernel_rfl) (fun _ _ _ h => h) (Or.inl ⟨by rfl, ?_⟩) (by assumption) ?_
      rotate_left
      · intro w hSw
        try dsimp only at hSw
        go_simp
        try with_reducible rfl
      simp only [Act.put, List.setIfInBounds_toArray, List.set_cons_zero, List.set_cons_succ]
      refine take_at (i := 8) (d := 116) (v := ?_) rfl rfl (by kernel_rfl) (by kernel_rfl) (by kernel_rfl) (fun _ _ _ h => h) (Or.inl ⟨by rfl, ?_⟩) (by assumption) ?_
      rotate_left
      · intro w hSw
        try dsimp only at hSw
        go_simp
        try with_reducible rfl
      simp only [Act.put, List.setIfInBounds_toArray, List.set_cons_zero, List.set_cons_succ]
      refine ready_at (i := 7) rfl (by kernel_rfl) (fun KK hKK => ?_)
      go_simp
      refine (unhide JT' _ _ _ (unhide RE _ bz2).1).mono ?_
      rintro _ z3 ⟨rfl, bn⟩
      have bz3 : Below w12.heap.size w12 z3 := bz2.trans (bn.mono bz2.size)
      clear hHeld bn bz2
      refine hKK.out _ _ (unhide K _ bz3) (fun hHeld => ?_)
      clear hKK KK
      refine ready_at (i := 9) rfl (by kernel_rfl) (fun KK hKK => ?_)
      go_simp
      refine (unhide IT' _ _ _ (unhide RA _ bz3).1).mono ?_
      rintro _ z4 ⟨rfl, bn⟩
      have bz4 : Below w12.heap.size w12 z4 := bz3.trans (bn.mono bz3.size)
      clear hHeld bn bz3
      refine hKK.out _ _ (unhide K _ bz4) (fun hHeld => ?_)
      clear hKK KK
      refine take_at (i := 10) (d := 118) (v := ?_) rfl rfl (by kernel_rfl) (by kernel_rfl) (by kernel_rfl) (fun _ _ _ h => h) (Or.inl ⟨by rfl, ?_⟩) (by assumption) ?_
      rotate_left
      · intro w hSw
        try dsimp only at hSw
        go_simp
        try with_reducible rfl
      simp only [Act.put, List.setIfInBounds_toArray, List.set_cons_zero, List.set_cons_succ]
      refine take_at (i := 11) (d := 119) (v := ?_) rfl rfl (by kernel_rfl) (by kernel_rfl) (by kernel_rfl) (fun _ _ _ h => h) (Or.inl ⟨by rfl, ?_⟩) (by assumption) ?_
      rotate_left
      · intro w hSw
        try dsimp only at hSw
        go_simp
        try with_reducible rfl
      simp only [Act.put, List.setIfInBounds_toArray, List.set_cons_zero, List.set_cons_succ]
      refine take_at (i := 12) (d := 120) (v := ?_) rfl rfl (by kernel_rfl) (by kernel_rfl) (by kernel_rfl) (fun _ _ _ h => h) (Or.inl ⟨by rfl, ?_⟩) (by assumption) ?_
      rotate_left
      · intro w hSw
        try dsimp only at hSw
        go_simp
        try with_reducible rfl
      simp only [Act.put, List.setIfInBounds_toArray, List.set_cons_zero, List.set_cons_succ]
      refine take_at (i := 13) (d := 121) (v := ?_) rfl rfl (by kernel_rfl) (by kernel_rfl) (by kernel_rfl) (fun _ _ _ h => h) (Or.inl ⟨by rfl, ?_⟩) (by assumption) ?_
      rotate_left
      · intro w hSw
        try dsimp only at hSw
        go_simp
        try with_reducible rfl
      simp only [Act.put, List.setIfInBounds_toArray, List.set_cons_zero, List.set_cons_succ]
      refine ready_at (i := 14) rfl (by kernel_rfl) (fun KK hKK => ?_)
      go_simp
      refine (unhide IL _ _ _ (unhide RL _ bz4)).mono ?_
      rintro _ z5 ⟨rfl, bn⟩
      have bz5 : Below w12.heap.size w12 z5 := bz4.trans (bn.mono bz4.size)
      clear hHeld bn bz4
      refine hKK.out _ _ (unhide K _ bz5) (fun hHeld => ?_)
      clear hKK KK
      refine take_at (i := 15) (d := 123) (v := ?_) rfl rfl (by kernel_rfl) (by kernel_rfl) (by kernel_rfl) (fun _ _ _ h => h) (Or.inl ⟨by rfl, ?_⟩) (by assumption) ?_
      rotate_left
      · intro w hSw
        try dsimp only at hSw
        go_simp
        try with_reducible rfl
      simp only [Act.put, List.setIfInBounds_toArray, List.set_cons_zero, List.set_cons_succ]
      refine take_at (i := 16) (d := 124) (v := ?_) rfl rfl (by kernel_rfl) (by kernel_rfl) (by kernel_rfl) (fun _ _ _ h => h) (Or.inl ⟨by rfl, ?_⟩) (by assumption) ?_
      rotate_left
      · intro w hSw
        try dsimp only at hSw
        go_simp
        try with_reducible rfl
      simp only [Act.put, List.setIfInBounds_toArray, List.set_cons_zero, List.set_cons_succ]
      refine take_at (i := 17) (d := 125) (v := ?_) rfl rfl (by kernel_rfl) (by kernel_rfl) (by kernel_rfl) (fun _ _ _ h => h) (Or.inl ⟨by rfl, ?_⟩) (by assumption) ?_
      rotate_left
      · intro w hSw
        try dsimp only at hSw
        go_simp
        try with_reducible rfl
      simp only [Act.put, List.setIfInBounds_toArray, List.set_cons_zero, List.set_cons_succ]
      refine ready_at (i := 18) rfl (by kernel_rfl) (fun KK hKK => ?_)
      go_simp
      refine (unhide IK _ _ _ (unhide RM _ bz5)).mono ?_
      rintro _ z6 ⟨rfl, bn⟩
      have bz6 : Below w12.heap.size w12 z6 := bz5.trans (bn.mono bz5.size)
      clear hHeld bn bz5
      refine hKK.out _ _ (unhide K _ bz6) (fun hHeld => ?_)
      clear hKK KK
      refine take_at (i := 19) (d := 127) (v := ?_) rfl rfl (by kernel_rfl) (by kernel_rfl) (by kernel_rfl) (fun _ _ _ h => h) (Or.inl ⟨by rfl, ?_⟩) (by assumption) ?_
      rotate_left
      · intro w hSw
        try dsimp only at hSw
        go_simp
        try with_reducible rfl
      simp only [Act.put, List.setIfInBounds_toArray, List.set_cons_zero, List.set_cons_succ]
      refine take_at (i := 20) (d := 128) (v := ?_) rfl rfl (by kernel_rfl) (by kernel_rfl) (by kernel_rfl) (fun _ _ _ h => h) (Or.inl ⟨by rfl, ?_⟩) (by assumption) ?_
      rotate_left
      · intro w hSw
        try dsimp only at hSw
        go_simp
        try with_reducible rfl
      simp only [Act.put, List.setIfInBounds_toArray, List.set_cons_zero, List.set_cons_succ]
      refine take_at (i := 21) (d := 2) (v := ?_) rfl rfl (by kernel_rfl) (by kernel_rfl) (by kernel_rfl) (fun _ _ _ h => h) (Or.inl ⟨by rfl, ?_⟩) (by assumption) ?_
      rotate_left
      · intro w hSw
        try dsimp only at hSw
        go_simp
        try with_reducible rfl
      simp only [Act.put, List.setIfInBounds_toArray, List.set_cons_zero, List.set_cons_succ]
      clear hHeld
      refine wpAnyH_done (by kernel_rfl) ?_ _
      refine NoPanic.normal ?_
      go_wp2
      go_ret
      exact ⟨by simp, (unhide B12).trans (bz6.mono (unhide B12).size)⟩
    have g0 : (q' == 0) = false := by simpa using h0
    have g4 : (q' == 4) = false := by simpa using h4
    go_wp2_with fail
    refine wp_region_noPanic ?_
    refine wp_region_held_drew (S := (fun w' => (w'.cell? ⟨w1.heap.size, 0, none⟩ = some (.slice ha xs.length hc) ∧ w'.cell? ⟨w1.heap.size, 1, none⟩ = some (.slice na ys.length nc)) ∧ (w'.cell? ⟨w3.heap.size, 0, none⟩ = some (.slice ma x.length mc) ∧ w'.cell? ⟨w3.heap.size, 1, none⟩ = some (.slice ka y.length kc)) ∧ (w'.cell? ⟨w5.heap.size, 0, none⟩ = some (.slice sa x.length sc) ∧ w'.cell? ⟨w5.heap.size, 1, none⟩ = some (.slice ta y.length tc)) ∧ (w'.cell? ⟨w7.heap.size, 0, none⟩ = some (.slice fa xs'.length fc) ∧ w'.cell? ⟨w7.heap.size, 1, none⟩ = some (.slice ga ys'.length gc)) ∧ (w'.cell? ⟨w9.heap.size, 0, none⟩ = some (.slice ia x'.length ic) ∧ w'.cell? ⟨w9.heap.size, 1, none⟩ = some (.slice ja y'.length jc)) ∧ (w'.cell? ⟨w11.heap.size, 0, none⟩ = some (.slice oa x'.length oc) ∧ w'.cell? ⟨w11.heap.size, 1, none⟩ = some (.slice ra y'.length rc)))) (by kernel_rfl) (unhide K _ (Below.drew bv10)) (fun hHeld => ?_)
    have bz0 : Below w12.heap.size w12 v10.drew := Below.drew bv10
    refine take_at (i := 0) (d := 108) (v := ?_) rfl rfl (by kernel_rfl) (by kernel_rfl) (by kernel_rfl) (fun _ _ _ h => h) (Or.inl ⟨by rfl, ?_⟩) (by assumption) ?_
    rotate_left
    · intro w hSw
      try dsimp only at hSw
      go_simp
      try with_reducible rfl
    simp only [Act.put, List.setIfInBounds_toArray, List.set_cons_zero, List.set_cons_succ]
    refine take_at (i := 2) (d := 110) (v := ?_) rfl rfl (by kernel_rfl) (by kernel_rfl) (by kernel_rfl) (fun _ _ _ h => h) (Or.inl ⟨by rfl, ?_⟩) (by assumption) ?_
    rotate_left
    · intro w hSw
      try dsimp only at hSw
      go_simp
      try with_reducible rfl
    simp only [Act.put, List.setIfInBounds_toArray, List.set_cons_zero, List.set_cons_succ]
    refine ready_at (i := 1) rfl (by kernel_rfl) (fun KK hKK => ?_)
    go_simp
    refine (unhide JT _ _ _ (unhide RM _ bz0).1).mono ?_
    rintro _ z1 ⟨rfl, bn⟩
    have bz1 : Below w12.heap.size w12 z1 := bz0.trans (bn.mono bz0.size)
    clear hHeld bn bz0
    refine hKK.out _ _ (unhide K _ bz1) (fun hHeld => ?_)
    clear hKK KK
    refine ready_at (i := 3) rfl (by kernel_rfl) (fun KK hKK => ?_)
    go_simp
    refine (unhide IT _ _ _ (unhide RL _ bz1).1).mono ?_
    rintro _ z2 ⟨rfl, bn⟩
    have bz2 : Below w12.heap.size w12 z2 := bz1.trans (bn.mono bz1.size)
    clear hHeld bn bz1
    refine hKK.out _ _ (unhide K _ bz2) (fun hHeld => ?_)
    clear hKK KK
    refine take_at (i := 4) (d := 112) (v := ?_) rfl rfl (by kernel_rfl) (by kernel_rfl) (by kernel_rfl) (fun _ _ _ h => h) (Or.inl ⟨by rfl, ?_⟩) (by assumption) ?_
    rotate_left
    · intro w hSw
      try dsimp only at hSw
      go_simp
      try with_reducible rfl
    simp only [Act.put, List.setIfInBounds_toArray, List.set_cons_zero, List.set_cons_succ]
    refine take_at (i := 5) (d := 113) (v := ?_) rfl rfl (by kernel_rfl) (by kernel_rfl) (by kernel_rfl) (fun _ _ _ h => h) (Or.inl ⟨by rfl, ?_⟩) (by assumption) ?_
    rotate_left
    · intro w hSw
      try dsimp only at hSw
      go_simp
      try with_reducible rfl
    simp only [Act.put, List.setIfInBounds_toArray, List.set_cons_zero, List.set_cons_succ]
    refine take_at (i := 6) (d := 114) (v := ?_) rfl rfl (by kernel_rfl) (by kernel_rfl) (by kernel_rfl) (fun _ _ _ h => h) (Or.inl ⟨by rfl, ?_⟩) (by assumption) ?_
    rotate_left
    · intro w hSw
      try dsimp only at hSw
      go_simp
      try with_reducible rfl
    simp only [Act.put, List.setIfInBounds_toArray, List.set_cons_zero, List.set_cons_succ]
    refine take_at (i := 8) (d := 116) (v := ?_) rfl rfl (by kernel_rfl) (by kernel_rfl) (by kernel_rfl) (fun _ _ _ h => h) (Or.inl ⟨by rfl, ?_⟩) (by assumption) ?_
    rotate_left
    · intro w hSw
      try dsimp only at hSw
      go_simp
      try with_reducible rfl
    simp only [Act.put, List.setIfInBounds_toArray, List.set_cons_zero, List.set_cons_succ]
    refine ready_at (i := 7) rfl (by kernel_rfl) (fun KK hKK => ?_)
    go_simp
    refine (unhide JT' _ _ _ (unhide RE _ bz2).1).mono ?_
    rintro _ z3 ⟨rfl, bn⟩
    have bz3 : Below w12.heap.size w12 z3 := bz2.trans (bn.mono bz2.size)
    clear hHeld bn bz2
    refine hKK.out _ _ (unhide K _ bz3) (fun hHeld => ?_)
    clear hKK KK
    refine ready_at (i := 9) rfl (by kernel_rfl) (fun KK hKK => ?_)
    go_simp
    refine (unhide IT' _ _ _ (unhide RA _ bz3).1).mono ?_
    rintro _ z4 ⟨rfl, bn⟩
    have bz4 : Below w12.heap.size w12 z4 := bz3.trans (bn.mono bz3.size)
    clear hHeld bn bz3
    refine hKK.out _ _ (unhide K _ bz4) (fun hHeld => ?_)
    clear hKK KK
    refine take_at (i := 10) (d := 118) (v := ?_) rfl rfl (by kernel_rfl) (by kernel_rfl) (by kernel_rfl) (fun _ _ _ h => h) (Or.inl ⟨by rfl, ?_⟩) (by assumption) ?_
    rotate_left
    · intro w hSw
      try dsimp only at hSw
      go_simp
      try with_reducible rfl
    simp only [Act.put, List.setIfInBounds_toArray, List.set_cons_zero, List.set_cons_succ]
    refine take_at (i := 11) (d := 119) (v := ?_) rfl rfl (by kernel_rfl) (by kernel_rfl) (by kernel_rfl) (fun _ _ _ h => h) (Or.inl ⟨by rfl, ?_⟩) (by assumption) ?_
    rotate_left
    · intro w hSw
      try dsimp only at hSw
      go_simp
      try with_reducible rfl
    simp only [Act.put, List.setIfInBounds_toArray, List.set_cons_zero, List.set_cons_succ]
    refine take_at (i := 12) (d := 120) (v := ?_) rfl rfl (by kernel_rfl) (by kernel_rfl) (by kernel_rfl) (fun _ _ _ h => h) (Or.inl ⟨by rfl, ?_⟩) (by assumption) ?_
    rotate_left
    · intro w hSw
      try dsimp only at hSw
      go_simp
      try with_reducible rfl
    simp only [Act.put, List.setIfInBounds_toArray, List.set_cons_zero, List.set_cons_succ]
    refine take_at (i := 13) (d := 121) (v := ?_) rfl rfl (by kernel_rfl) (by kernel_rfl) (by kernel_rfl) (fun _ _ _ h => h) (Or.inl ⟨by rfl, ?_⟩) (by assumption) ?_
    rotate_left
    · intro w hSw
      try dsimp only at hSw
      go_simp
      try with_reducible rfl
    simp only [Act.put, List.setIfInBounds_toArray, List.set_cons_zero, List.set_cons_succ]
    refine ready_at (i := 14) rfl (by kernel_rfl) (fun KK hKK => ?_)
    go_simp
    refine (unhide IL _ _ _ (unhide RL _ bz4)).mono ?_
    rintro _ z5 ⟨rfl, bn⟩
    have bz5 : Below w12.heap.size w12 z5 := bz4.trans (bn.mono bz4.size)
    clear hHeld bn bz4
    refine hKK.out _ _ (unhide K _ bz5) (fun hHeld => ?_)
    clear hKK KK
    refine take_at (i := 15) (d := 123) (v := ?_) rfl rfl (by kernel_rfl) (by kernel_rfl) (by kernel_rfl) (fun _ _ _ h => h) (Or.inl ⟨by rfl, ?_⟩) (by assumption) ?_
    rotate_left
    · intro w hSw
      try dsimp only at hSw
      go_simp
      try with_reducible rfl
    simp only [Act.put, List.setIfInBounds_toArray, List.set_cons_zero, List.set_cons_succ]
    refine take_at (i := 16) (d := 124) (v := ?_) rfl rfl (by kernel_rfl) (by kernel_rfl) (by kernel_rfl) (fun _ _ _ h => h) (Or.inl ⟨by rfl, ?_⟩) (by assumption) ?_
    rotate_left
    · intro w hSw
      try dsimp only at hSw
      go_simp
      try with_reducible rfl
    simp only [Act.put, List.setIfInBounds_toArray, List.set_cons_zero, List.set_cons_succ]
    refine take_at (i := 17) (d := 125) (v := ?_) rfl rfl (by kernel_rfl) (by kernel_rfl) (by kernel_rfl) (fun _ _ _ h => h) (Or.inl ⟨by rfl, ?_⟩) (by assumption) ?_
    rotate_left
    · intro w hSw
      try dsimp only at hSw
      go_simp
      try with_reducible rfl
    simp only [Act.put, List.setIfInBounds_toArray, List.set_cons_zero, List.set_cons_succ]
    refine ready_at (i := 18) rfl (by kernel_rfl) (fun KK hKK => ?_)
    go_simp
    refine (unhide IK _ _ _ (unhide RM _ bz5)).mono ?_
    rintro _ z6 ⟨rfl, bn⟩
    have bz6 : Below w12.heap.size w12 z6 := bz5.trans (bn.mono bz5.size)
    clear hHeld bn bz5
    refine hKK.out _ _ (unhide K _ bz6) (fun hHeld => ?_)
    clear hKK KK
    refine take_at (i := 19) (d := 127) (v := ?_) rfl rfl (by kernel_rfl) (by kernel_rfl) (by kernel_rfl) (fun _ _ _ h => h) (Or.inl ⟨by rfl, ?_⟩) (by assumption) ?_
    rotate_left
    · intro w hSw
      try dsimp only at hSw
      go_simp
      try with_reducible rfl
    simp only [Act.put, List.setIfInBounds_toArray, List.set_cons_zero, List.set_cons_succ]
    refine take_at (i := 20) (d := 128) (v := ?_) rfl rfl (by kernel_rfl) (by kernel_rfl) (by kernel_rfl) (fun _ _ _ h => h) (Or.inl ⟨by rfl, ?_⟩) (by assumption) ?_
    rotate_left
    · intro w hSw
      try dsimp only at hSw
      go_simp
      try with_reducible rfl
    simp only [Act.put, List.setIfInBounds_toArray, List.set_cons_zero, List.set_cons_succ]
    refine take_at (i := 21) (d := 2) (v := ?_) rfl rfl (by kernel_rfl) (by kernel_rfl) (by kernel_rfl) (fun _ _ _ h => h) (Or.inl ⟨by rfl, ?_⟩) (by assumption) ?_
    rotate_left
    · intro w hSw
      try dsimp only at hSw
      go_simp
      try with_reducible rfl
    simp only [Act.put, List.setIfInBounds_toArray, List.set_cons_zero, List.set_cons_succ]
    clear hHeld
    refine wpAnyH_done (by kernel_rfl) ?_ _
    refine NoPanic.normal ?_
    go_wp2
    go_ret
    exact ⟨by simp, (unhide B12).trans (bz6.mono (unhide B12).size)⟩
  · rw [decide_eq_false hok] at IL SLk
    clear EO
    refine wp_region_noPanic ?_
    refine wp_region_held_drew (S := (fun w' => (w'.cell? ⟨w1.heap.size, 0, none⟩ = some (.slice ha xs.length hc) ∧ w'.cell? ⟨w1.heap.size, 1, none⟩ = some (.slice na ys.length nc)) ∧ (w'.cell? ⟨w3.heap.size, 0, none⟩ = some (.slice ma x.length mc) ∧ w'.cell? ⟨w3.heap.size, 1, none⟩ = some (.slice ka y.length kc)) ∧ (w'.cell? ⟨w5.heap.size, 0, none⟩ = some (.slice sa x.length sc) ∧ w'.cell? ⟨w5.heap.size, 1, none⟩ = some (.slice ta y.length tc)) ∧ (w'.cell? ⟨w7.heap.size, 0, none⟩ = some (.slice fa xs'.length fc) ∧ w'.cell? ⟨w7.heap.size, 1, none⟩ = some (.slice ga ys'.length gc)) ∧ (w'.cell? ⟨w9.heap.size, 0, none⟩ = some (.slice ia x'.length ic) ∧ w'.cell? ⟨w9.heap.size, 1, none⟩ = some (.slice ja y'.length jc)) ∧ (w'.cell? ⟨w11.heap.size, 0, none⟩ = some (.slice oa x'.length oc) ∧ w'.cell? ⟨w11.heap.size, 1, none⟩ = some (.slice ra y'.length rc)))) (by kernel_rfl) (unhide K _ (Below.drew (Below.refl _ _))) (fun hHeld => ?_)
    have bv0 : Below w12.heap.size w12 w12.drew := Below.drew (Below.refl _ _)
    refine take_at (i := 0) (d := 53) (v := ?_) rfl rfl (by kernel_rfl) (by kernel_rfl) (by kernel_rfl) (fun _ _ _ h => h) (Or.inl ⟨by rfl, ?_⟩) (by assumption) ?_
    rotate_left
    · intro w hSw
      try dsimp only at hSw
      go_simp
      try with_reducible rfl
    simp only [Act.put, List.setIfInBounds_toArray, List.set_cons_zero, List.set_cons_succ]
    refine take_at (i := 1) (d := 54) (v := ?_) rfl rfl (by kernel_rfl) (by kernel_rfl) (by kernel_rfl) (fun _ _ _ h => h) (Or.inl ⟨by rfl, ?_⟩) (by assumption) ?_
    rotate_left
    · intro w hSw
      try dsimp only at hSw
      go_simp
      try with_reducible rfl
    simp only [Act.put, List.setIfInBounds_toArray, List.set_cons_zero, List.set_cons_succ]
    refine ready_at (i := 2) rfl (by kernel_rfl) (fun KK hKK => ?_)
    go_simp
    refine (sameLedger_yes _ _ _ _ x y _ (unhide RM _ bv0) (unhide RN _ bv0)).mono ?_
    rintro _ v1 ⟨rfl, bn⟩
    have bv1 : Below w12.heap.size w12 v1 := bv0.trans (bn.mono bv0.size)
    clear hHeld bn bv0
    refine hKK.out _ _ (unhide K _ bv1) (fun hHeld => ?_)
    clear hKK KK
    refine take_at (i := 3) (d := 56) (v := ?_) rfl rfl (by kernel_rfl) (by kernel_rfl) (by kernel_rfl) (fun _ _ _ h => h) (Or.inl ⟨by rfl, ?_⟩) (by assumption) ?_
    rotate_left
    · intro w hSw
      try dsimp only at hSw
      go_simp
      try with_reducible rfl
    simp only [Act.put, List.setIfInBounds_toArray, List.set_cons_zero, List.set_cons_succ]
    refine take_at (i := 4) (d := 57) (v := ?_) rfl rfl (by kernel_rfl) (by kernel_rfl) (by kernel_rfl) (fun _ _ _ h => h) (Or.inl ⟨by rfl, ?_⟩) (by assumption) ?_
    rotate_left
    · intro w hSw
      try dsimp only at hSw
      go_simp
      try with_reducible rfl
    simp only [Act.put, List.setIfInBounds_toArray, List.set_cons_zero, List.set_cons_succ]
    refine take_at (i := 5) (d := 58) (v := ?_) rfl rfl (by kernel_rfl) (by kernel_rfl) (by kernel_rfl) (fun _ _ _ h => h) (Or.inl ⟨by rfl, ?_⟩) (by assumption) ?_
    rotate_left
    · intro w hSw
      try dsimp only at hSw
      go_simp
      try with_reducible rfl
    simp only [Act.put, List.setIfInBounds_toArray, List.set_cons_zero, List.set_cons_succ]
    refine take_at (i := 6) (d := 59) (v := ?_) rfl rfl (by kernel_rfl) (by kernel_rfl) (by kernel_rfl) (fun _ _ _ h => h) (Or.inl ⟨by rfl, ?_⟩) (by assumption) ?_
    rotate_left
    · intro w hSw
      try dsimp only at hSw
      go_simp
      try with_reducible rfl
    simp only [Act.put, List.setIfInBounds_toArray, List.set_cons_zero, List.set_cons_succ]
    refine ready_at (i := 7) rfl (by kernel_rfl) (fun KK hKK => ?_)
    go_simp
    refine (unhide sInts _ _ cs _ (unhide RX _ bv1) (unhide RY _ bv1)).mono ?_
    rintro _ v2 ⟨rfl, bn⟩
    have bv2 : Below w12.heap.size w12 v2 := bv1.trans (bn.mono bv1.size)
    clear hHeld bn bv1
    refine hKK.out _ _ (unhide K _ bv2) (fun hHeld => ?_)
    clear hKK KK
    refine take_at (i := 8) (d := 61) (v := ?_) rfl rfl (by kernel_rfl) (by kernel_rfl) (by kernel_rfl) (fun _ _ _ h => h) (Or.inl ⟨by rfl, ?_⟩) (by assumption) ?_
    rotate_left
    · intro w hSw
      try dsimp only at hSw
      go_simp
      try with_reducible rfl
    simp only [Act.put, List.setIfInBounds_toArray, List.set_cons_zero, List.set_cons_succ]
    refine take_at (i := 9) (d := 62) (v := ?_) rfl rfl (by kernel_rfl) (by kernel_rfl) (by kernel_rfl) (fun _ _ _ h => h) (Or.inl ⟨by rfl, ?_⟩) (by assumption) ?_
    rotate_left
    · intro w hSw
      try dsimp only at hSw
      go_simp
      try with_reducible rfl
    simp only [Act.put, List.setIfInBounds_toArray, List.set_cons_zero, List.set_cons_succ]
    refine take_at (i := 10) (d := 63) (v := ?_) rfl rfl (by kernel_rfl) (by kernel_rfl) (by kernel_rfl) (fun _ _ _ h => h) (Or.inl ⟨by rfl, ?_⟩) (by assumption) ?_
    rotate_left
    · intro w hSw
      try dsimp only at hSw
      go_simp
      try with_reducible rfl
    simp only [Act.put, List.setIfInBounds_toArray, List.set_cons_zero, List.set_cons_succ]
    refine take_at (i := 11) (d := 64) (v := ?_) rfl rfl (by kernel_rfl) (by kernel_rfl) (by kernel_rfl) (fun _ _ _ h => h) (Or.inl ⟨by rfl, ?_⟩) (by assumption) ?_
    rotate_left
    · intro w hSw
      try dsimp only at hSw
      go_simp
      try with_reducible rfl
    simp only [Act.put, List.setIfInBounds_toArray, List.set_cons_zero, List.set_cons_succ]
    refine take_at (i := 12) (d := 65) (v := ?_) rfl rfl (by kernel_rfl) (by kernel_rfl) (by kernel_rfl) (fun _ _ _ h => h) (Or.inl ⟨by rfl, ?_⟩) (by assumption) ?_
    rotate_left
    · intro w hSw
      try dsimp only at hSw
      go_simp
      try with_reducible rfl
    simp only [Act.put, List.setIfInBounds_toArray, List.set_cons_zero, List.set_cons_succ]
    refine take_at (i := 13) (d := 66) (v := ?_) rfl rfl (by kernel_rfl) (by kernel_rfl) (by kernel_rfl) (fun _ _ _ h => h) (Or.inl ⟨by rfl, ?_⟩) (by assumption) ?_
    rotate_left
    · intro w hSw
      try dsimp only at hSw
      go_simp
      try with_reducible rfl
    simp only [Act.put, List.setIfInBounds_toArray, List.set_cons_zero, List.set_cons_succ]
    refine take_at (i := 14) (d := 67) (v := ?_) rfl rfl (by kernel_rfl) (by kernel_rfl) (by kernel_rfl) (fun _ _ _ h => h) (Or.inl ⟨by rfl, ?_⟩) (by assumption) ?_
    rotate_left
    · intro w hSw
      try dsimp only at hSw
      go_simp
      try with_reducible rfl
    simp only [Act.put, List.setIfInBounds_toArray, List.set_cons_zero, List.set_cons_succ]
    refine take_at (i := 15) (d := 68) (v := ?_) rfl rfl (by kernel_rfl) (by kernel_rfl) (by kernel_rfl) (fun _ _ _ h => h) (Or.inl ⟨by rfl, ?_⟩) (by assumption) ?_
    rotate_left
    · intro w hSw
      try dsimp only at hSw
      go_simp
      try with_reducible rfl
    simp only [Act.put, List.setIfInBounds_toArray, List.set_cons_zero, List.set_cons_succ]
    refine take_at (i := 16) (d := 69) (v := ?_) rfl rfl (by kernel_rfl) (by kernel_rfl) (by kernel_rfl) (fun _ _ _ h => h) (Or.inl ⟨by rfl, ?_⟩) (by assumption) ?_
    rotate_left
    · intro w hSw
      try dsimp only at hSw
      go_simp
      try with_reducible rfl
    simp only [Act.put, List.setIfInBounds_toArray, List.set_cons_zero, List.set_cons_succ]
    refine take_at (i := 17) (d := 70) (v := ?_) rfl rfl (by kernel_rfl) (by kernel_rfl) (by kernel_rfl) (fun _ _ _ h => h) (Or.inl ⟨by rfl, ?_⟩) (by assumption) ?_
    rotate_left
    · intro w hSw
      try dsimp only at hSw
      go_simp
      try with_reducible rfl
    simp only [Act.put, List.setIfInBounds_toArray, List.set_cons_zero, List.set_cons_succ]
    refine ready_at (i := 18) rfl (by kernel_rfl) (fun KK hKK => ?_)
    go_simp
    refine (sameLedger_yes _ _ _ _ x' y' _ (unhide RE _ bv2) (unhide RF _ bv2)).mono ?_
    rintro _ v3 ⟨rfl, bn⟩
    have bv3 : Below w12.heap.size w12 v3 := bv2.trans (bn.mono bv2.size)
    clear hHeld bn bv2
    refine hKK.out _ _ (unhide K _ bv3) (fun hHeld => ?_)
    clear hKK KK
    refine take_at (i := 19) (d := 72) (v := ?_) rfl rfl (by kernel_rfl) (by kernel_rfl) (by kernel_rfl) (fun _ _ _ h => h) (Or.inl ⟨by rfl, ?_⟩) (by assumption) ?_
    rotate_left
    · intro w hSw
      try dsimp only at hSw
      go_simp
      try with_reducible rfl
    simp only [Act.put, List.setIfInBounds_toArray, List.set_cons_zero, List.set_cons_succ]
    refine take_at (i := 20) (d := 73) (v := ?_) rfl rfl (by kernel_rfl) (by kernel_rfl) (by kernel_rfl) (fun _ _ _ h => h) (Or.inl ⟨by rfl, ?_⟩) (by assumption) ?_
    rotate_left
    · intro w hSw
      try dsimp only at hSw
      go_simp
      try with_reducible rfl
    simp only [Act.put, List.setIfInBounds_toArray, List.set_cons_zero, List.set_cons_succ]
    refine take_at (i := 21) (d := 74) (v := ?_) rfl rfl (by kernel_rfl) (by kernel_rfl) (by kernel_rfl) (fun _ _ _ h => h) (Or.inl ⟨by rfl, ?_⟩) (by assumption) ?_
    rotate_left
    · intro w hSw
      try dsimp only at hSw
      go_simp
      try with_reducible rfl
    simp only [Act.put, List.setIfInBounds_toArray, List.set_cons_zero, List.set_cons_succ]
    refine take_at (i := 22) (d := 75) (v := ?_) rfl rfl (by kernel_rfl) (by kernel_rfl) (by kernel_rfl) (fun _ _ _ h => h) (Or.inl ⟨by rfl, ?_⟩) (by assumption) ?_
    rotate_left
    · intro w hSw
      try dsimp only at hSw
      go_simp
      try with_reducible rfl
    simp only [Act.put, List.setIfInBounds_toArray, List.set_cons_zero, List.set_cons_succ]
    refine take_at (i := 24) (d := 77) (v := ?_) rfl rfl (by kernel_rfl) (by kernel_rfl) (by kernel_rfl) (fun _ _ _ h => h) (Or.inl ⟨by rfl, ?_⟩) (by assumption) ?_
    rotate_left
    · intro w hSw
      try dsimp only at hSw
      go_simp
      try with_reducible rfl
    simp only [Act.put, List.setIfInBounds_toArray, List.set_cons_zero, List.set_cons_succ]
    refine ready_at (i := 23) rfl (by kernel_rfl) (fun KK hKK => ?_)
    go_simp
    refine (unhide IL _ _ _ (unhide RL _ bv3)).mono ?_
    rintro _ v4 ⟨rfl, bn⟩
    have bv4 : Below w12.heap.size w12 v4 := bv3.trans (bn.mono bv3.size)
    clear hHeld bn bv3
    refine hKK.out _ _ (unhide K _ bv4) (fun hHeld => ?_)
    clear hKK KK
    refine ready_at (i := 25) rfl (by kernel_rfl) (fun KK hKK => ?_)
    go_simp
    refine (unhide SLk _ _ _ (unhide RL _ bv4)).mono ?_
    rintro _ v5 ⟨rfl, bn⟩
    have bv5 : Below w12.heap.size w12 v5 := bv4.trans (bn.mono bv4.size)
    clear hHeld bn bv4
    refine hKK.out _ _ (unhide K _ bv5) (fun hHeld => ?_)
    clear hKK KK
    refine take_at (i := 26) (d := 79) (v := ?_) rfl rfl (by kernel_rfl) (by kernel_rfl) (by kernel_rfl) (fun _ _ _ h => h) (Or.inl ⟨by rfl, ?_⟩) (by assumption) ?_
    rotate_left
    · intro w hSw
      try dsimp only at hSw
      go_simp
      try with_reducible rfl
    simp only [Act.put, List.setIfInBounds_toArray, List.set_cons_zero, List.set_cons_succ]
    refine take_at (i := 27) (d := 80) (v := ?_) rfl rfl (by kernel_rfl) (by kernel_rfl) (by kernel_rfl) (fun _ _ _ h => h) (Or.inl ⟨by rfl, ?_⟩) (by assumption) ?_
    rotate_left
    · intro w hSw
      try dsimp only at hSw
      go_simp
      try with_reducible rfl
    simp only [Act.put, List.setIfInBounds_toArray, List.set_cons_zero, List.set_cons_succ]
    refine take_at (i := 28) (d := 81) (v := ?_) rfl rfl (by kernel_rfl) (by kernel_rfl) (by kernel_rfl) (fun _ _ _ h => h) (Or.inl ⟨by rfl, ?_⟩) (by assumption) ?_
    rotate_left
    · intro w hSw
      try dsimp only at hSw
      go_simp
      try with_reducible rfl
    simp only [Act.put, List.setIfInBounds_toArray, List.set_cons_zero, List.set_cons_succ]
    refine take_at (i := 29) (d := 82) (v := ?_) rfl rfl (by kernel_rfl) (by kernel_rfl) (by kernel_rfl) (fun _ _ _ h => h) (Or.inl ⟨by rfl, ?_⟩) (by assumption) ?_
    rotate_left
    · intro w hSw
      try dsimp only at hSw
      go_simp
      try with_reducible rfl
    simp only [Act.put, List.setIfInBounds_toArray, List.set_cons_zero, List.set_cons_succ]
    refine take_at (i := 31) (d := 84) (v := ?_) rfl rfl (by kernel_rfl) (by kernel_rfl) (by kernel_rfl) (fun _ _ _ h => h) (Or.inl ⟨by rfl, ?_⟩) (by assumption) ?_
    rotate_left
    · intro w hSw
      try dsimp only at hSw
      go_simp
      try with_reducible rfl
    simp only [Act.put, List.setIfInBounds_toArray, List.set_cons_zero, List.set_cons_succ]
    refine ready_at (i := 30) rfl (by kernel_rfl) (fun KK hKK => ?_)
    go_simp
    refine (unhide IT _ _ _ (unhide RL _ bv5).1).mono ?_
    rintro _ v6 ⟨rfl, bn⟩
    have bv6 : Below w12.heap.size w12 v6 := bv5.trans (bn.mono bv5.size)
    clear hHeld bn bv5
    refine hKK.out _ _ (unhide K _ bv6) (fun hHeld => ?_)
    clear hKK KK
    refine ready_at (i := 32) rfl (by kernel_rfl) (fun KK hKK => ?_)
    go_simp
    refine (unhide ST _ _ _ (unhide RL _ bv6).1).mono ?_
    rintro _ v7 ⟨rfl, bn⟩
    have bv7 : Below w12.heap.size w12 v7 := bv6.trans (bn.mono bv6.size)
    clear hHeld bn bv6
    refine hKK.out _ _ (unhide K _ bv7) (fun hHeld => ?_)
    clear hKK KK
    refine take_at (i := 33) (d := 86) (v := ?_) rfl rfl (by kernel_rfl) (by kernel_rfl) (by kernel_rfl) (fun _ _ _ h => h) (Or.inl ⟨by rfl, ?_⟩) (by assumption) ?_
    rotate_left
    · intro w hSw
      try dsimp only at hSw
      go_simp
      try with_reducible rfl
    simp only [Act.put, List.setIfInBounds_toArray, List.set_cons_zero, List.set_cons_succ]
    refine take_at (i := 34) (d := 87) (v := ?_) rfl rfl (by kernel_rfl) (by kernel_rfl) (by kernel_rfl) (fun _ _ _ h => h) (Or.inl ⟨by rfl, ?_⟩) (by assumption) ?_
    rotate_left
    · intro w hSw
      try dsimp only at hSw
      go_simp
      try with_reducible rfl
    simp only [Act.put, List.setIfInBounds_toArray, List.set_cons_zero, List.set_cons_succ]
    refine take_at (i := 35) (d := 88) (v := ?_) rfl rfl (by kernel_rfl) (by kernel_rfl) (by kernel_rfl) (fun _ _ _ h => h) (Or.inl ⟨by rfl, ?_⟩) (by assumption) ?_
    rotate_left
    · intro w hSw
      try dsimp only at hSw
      go_simp
      try with_reducible rfl
    simp only [Act.put, List.setIfInBounds_toArray, List.set_cons_zero, List.set_cons_succ]
    refine ready_at (i := 36) rfl (by kernel_rfl) (fun KK hKK => ?_)
    go_simp
    refine (implLedgerNew _).mono ?_
    rintro _ v8 ⟨u1, v1', rfl, o1, bn⟩
    have bv8 : Below w12.heap.size w12 v8 := bv7.trans (bn.mono bv7.size)
    have n1 : R2 v8 u1 v1' _ _ := o1.ri (by simp) (by simp)
    clear o1
    clear hHeld bn bv7
    refine hKK.out _ _ (unhide K _ bv8) (fun hHeld => ?_)
    clear hKK KK
    refine ready_at (i := 37) rfl (by kernel_rfl) (fun KK hKK => ?_)
    go_simp
    refine (specLedgerNew _).mono ?_
    rintro _ v9 ⟨u2, v2', rfl, o2, bn⟩
    have bv9 : Below w12.heap.size w12 v9 := bv8.trans (bn.mono bv8.size)
    have n2 : R2 v9 u2 v2' _ _ := o2.ri (by simp) (by simp)
    have n1 := n1.below bn
    clear o2
    clear hHeld bn bv8
    refine hKK.out _ _ (unhide K _ bv9) (fun hHeld => ?_)
    clear hKK KK
    refine ready_at (i := 38) rfl (by kernel_rfl) (fun KK hKK => ?_)
    go_simp
    refine (sameLedger_yes _ _ _ _ _ _ _ n1 n2).mono ?_
    rintro _ v10 ⟨rfl, bn⟩
    have bv10 : Below w12.heap.size w12 v10 := bv9.trans (bn.mono bv9.size)
    clear n1 n2
    clear hHeld bn bv9
    refine hKK.out _ _ (unhide K _ bv10) (fun hHeld => ?_)
    clear hKK KK
    refine take_at (i := 39) (d := 92) (v := ?_) rfl rfl (by kernel_rfl) (by kernel_rfl) (by kernel_rfl) (fun _ _ _ h => h) (Or.inl ⟨by rfl, ?_⟩) (by assumption) ?_
    rotate_left
    · intro w hSw
      try dsimp only at hSw
      go_simp
      try with_reducible rfl
    simp only [Act.put, List.setIfInBounds_toArray, List.set_cons_zero, List.set_cons_succ]
    refine take_at (i := 40) (d := 93) (v := ?_) rfl rfl (by kernel_rfl) (by kernel_rfl) (by kernel_rfl) (fun _ _ _ h => h) (Or.inl ⟨by rfl, ?_⟩) (by assumption) ?_
    rotate_left
    · intro w hSw
      try dsimp only at hSw
      go_simp
      try with_reducible rfl
    simp only [Act.put, List.setIfInBounds_toArray, List.set_cons_zero, List.set_cons_succ]
    clear hHeld
    refine wpAnyH_done (by kernel_rfl) ?_ _
    refine NoPanic.normal ?_
    by_cases h0 : q' = 0
    · subst h0
      have hag := PA (.inl rfl)
      obtain ⟨e0, e1⟩ : v10.cell? ⟨w9.heap.size, 0, none⟩ = some (.slice ia x'.length ic) ∧ v10.cell? ⟨w9.heap.size, 1, none⟩ = some (.slice ja y'.length jc) := (unhide K _ bv10).2.2.2.2.1
      obtain ⟨t0, t1, t2, t3⟩ := (unhide KX _ bv10).cells4
      go_wp2_with fail
      clear e0 e1 t0 t1 t2 t3
      refine (implPay _ _ a b c d x' y' _ (unhide RE _ bv10)).mono ?_
      rintro _ v11 ⟨u3, v3', rfl, o3, bn⟩
      rw [hag]
      obtain ⟨ka', kc', rfl⟩ := o3.has.form
      obtain ⟨kb', kd', rfl⟩ := o3.next.form
      obtain ⟨v12, hv12⟩ : ∃ v12, v11.alloc (.cells (two (.slice ka' (payAns x' y' a b c d).1.length kc') (.slice kb' (payAns x' y' a b c d).2.1.length kd')) 26) = v12 := ⟨_, rfl⟩
      have bv12 : Below w12.heap.size w12 v12 := hv12 ▸ (bv10.trans (bn.mono bv10.size)).alloc (bv10.trans (bn.mono bv10.size)).size _
      clear o3 bn
      go_wp2_with fail
      clear hv12
      refine wp_region_noPanic ?_
      refine wp_region_held_drew (S := (fun w' => (w'.cell? ⟨w1.heap.size, 0, none⟩ = some (.slice ha xs.length hc) ∧ w'.cell? ⟨w1.heap.size, 1, none⟩ = some (.slice na ys.length nc)) ∧ (w'.cell? ⟨w3.heap.size, 0, none⟩ = some (.slice ma x.length mc) ∧ w'.cell? ⟨w3.heap.size, 1, none⟩ = some (.slice ka y.length kc)) ∧ (w'.cell? ⟨w5.heap.size, 0, none⟩ = some (.slice sa x.length sc) ∧ w'.cell? ⟨w5.heap.size, 1, none⟩ = some (.slice ta y.length tc)) ∧ (w'.cell? ⟨w7.heap.size, 0, none⟩ = some (.slice fa xs'.length fc) ∧ w'.cell? ⟨w7.heap.size, 1, none⟩ = some (.slice ga ys'.length gc)) ∧ (w'.cell? ⟨w9.heap.size, 0, none⟩ = some (.slice ia x'.length ic) ∧ w'.cell? ⟨w9.heap.size, 1, none⟩ = some (.slice ja y'.length jc)) ∧ (w'.cell? ⟨w11.heap.size, 0, none⟩ = some (.slice oa x'.length oc) ∧ w'.cell? ⟨w11.heap.size, 1, none⟩ = some (.slice ra y'.length rc)))) (by kernel_rfl) (unhide K _ (Below.drew bv12)) (fun hHeld => ?_)
      have bz0 : Below w12.heap.size w12 v12.drew := Below.drew bv12
      refine take_at (i := 0) (d := 108) (v := ?_) rfl rfl (by kernel_rfl) (by kernel_rfl) (by kernel_rfl) (fun _ _ _ h => h) (Or.inl ⟨by rfl, ?_⟩) (by assumption) ?_
      rotate_left
      · intro w hSw
        try dsimp only at hSw
        go_simp
        try with_reducible rfl
      simp only [Act.put, List.setIfInBounds_toArray, List.set_cons_zero, List.set_cons_succ]
      refine take_at (i := 2) (d := 110) (v := ?_) rfl rfl (by kernel_rfl) (by kernel_rfl) (by kernel_rfl) (fun _ _ _ h => h) (Or.inl ⟨by rfl, ?_⟩) (by assumption) ?_
      rotate_left
      · intro w hSw
        try dsimp only at hSw
        go_simp
        try with_reducible rfl
      simp only [Act.put, List.setIfInBounds_toArray, List.set_cons_zero, List.set_cons_succ]
      refine ready_at (i := 1) rfl (by kernel_rfl) (fun KK hKK => ?_)
      go_simp
      refine (unhide JT _ _ _ (unhide RM _ bz0).1).mono ?_
      rintro _ z1 ⟨rfl, bn⟩
      have bz1 : Below w12.heap.size w12 z1 := bz0.trans (bn.mono bz0.size)
      clear hHeld bn bz0
      refine hKK.out _ _ (unhide K _ bz1) (fun hHeld => ?_)
      clear hKK KK
      refine ready_at (i := 3) rfl (by kernel_rfl) (fun KK hKK => ?_)
      go_simp
      refine (unhide IT _ _ _ (unhide RL _ bz1).1).mono ?_
      rintro _ z2 ⟨rfl, bn⟩
      have bz2 : Below w12.heap.size w12 z2 := bz1.trans (bn.mono bz1.size)
      clear hHeld bn bz1
      refine hKK.out _ _ (unhide K _ bz2) (fun hHeld => ?_)
      clear hKK KK
      refine take_at (i := 4) (d := 112) (v := ?_) rfl rfl (by kernel_rfl) (by kernel_rfl) (by kernel_rfl) (fun _ _ _ h => h) (Or.inl ⟨by rfl, ?_⟩) (by assumption) ?_
      rotate_left
      · intro w hSw
        try dsimp only at hSw
        go_simp
        try with_reducible rfl
      simp only [Act.put, List.setIfInBounds_toArray, List.set_cons_zero, List.set_cons_succ]
      refine take_at (i := 5) (d := 113) (v := ?_) rfl rfl (by kernel_rfl) (by kernel_rfl) (by kernel_rfl) (fun _ _ _ h => h) (Or.inl ⟨by rfl, ?_⟩) (by assumption) ?_
      rotate_left
      · intro w hSw
        try dsimp only at hSw
        go_simp
        try with_reducible rfl
      simp only [Act.put, List.setIfInBounds_toArray, List.set_cons_zero, List.set_cons_succ]
      refine take_at (i := 6) (d := 114) (v := ?_) rfl rfl (by kernel_rfl) (by kernel_rfl) (by kernel_rfl) (fun _ _ _ h => h) (Or.inl ⟨by rfl, ?_⟩) (by assumption) ?_
      rotate_left
      · intro w hSw
        try dsimp only at hSw
        go_simp
        try with_reducible rfl
      simp only [Act.put, List.setIfInBounds_toArray, List.set_cons_zero, List.set_cons_succ]
      refine take_at (i := 8) (d := 116) (v := ?_) rfl rfl (by kernel_rfl) (by kernel_rfl) (by kernel_rfl) (fun _ _ _ h => h) (Or.inl ⟨by rfl, ?_⟩) (by assumption) ?_
      rotate_left
      · intro w hSw
        try dsimp only at hSw
        go_simp
        try with_reducible rfl
      simp only [Act.put, List.setIfInBounds_toArray, List.set_cons_zero, List.set_cons_succ]
      refine ready_at (i := 7) rfl (by kernel_rfl) (fun KK hKK => ?_)
      go_simp
      refine (unhide JT' _ _ _ (unhide RE _ bz2).1).mono ?_
      rintro _ z3 ⟨rfl, bn⟩
      have bz3 : Below w12.heap.size w12 z3 := bz2.trans (bn.mono bz2.size)
      clear hHeld bn bz2
      refine hKK.out _ _ (unhide K _ bz3) (fun hHeld => ?_)
      clear hKK KK
      refine ready_at (i := 9) rfl (by kernel_rfl) (fun KK hKK => ?_)
      go_simp
      refine (unhide IT' _ _ _ (unhide RA _ bz3).1).mono ?_
      rintro _ z4 ⟨rfl, bn⟩
      have bz4 : Below w12.heap.size w12 z4 := bz3.trans (bn.mono bz3.size)
      clear hHeld bn bz3
      refine hKK.out _ _ (unhide K _ bz4) (fun hHeld => ?_)
      clear hKK KK
      refine take_at (i := 10) (d := 118) (v := ?_) rfl rfl (by kernel_rfl) (by kernel_rfl) (by kernel_rfl) (fun _ _ _ h => h) (Or.inl ⟨by rfl, ?_⟩) (by assumption) ?_
      rotate_left
      · intro w hSw
        try dsimp only at hSw
        go_simp
        try with_reducible rfl
      simp only [Act.put, List.setIfInBounds_toArray, List.set_cons_zero, List.set_cons_succ]
      refine take_at (i := 11) (d := 119) (v := ?_) rfl rfl (by kernel_rfl) (by kernel_rfl) (by kernel_rfl) (fun _ _ _ h => h) (Or.inl ⟨by rfl, ?_⟩) (by assumption) ?_
      rotate_left
      · intro w hSw
        try dsimp only at hSw
        go_simp
        try with_reducible rfl
      simp only [Act.put, List.setIfInBounds_toArray, List.set_cons_zero, List.set_cons_succ]
      refine take_at (i := 12) (d := 120) (v := ?_) rfl rfl (by kernel_rfl) (by kernel_rfl) (by kernel_rfl) (fun _ _ _ h => h) (Or.inl ⟨by rfl, ?_⟩) (by assumption) ?_
      rotate_left
      · intro w hSw
        try dsimp only at hSw
        go_simp
        try with_reducible rfl
      simp only [Act.put, List.setIfInBounds_toArray, List.set_cons_zero, List.set_cons_succ]
      refine take_at (i := 13) (d := 121) (v := ?_) rfl rfl (by kernel_rfl) (by kernel_rfl) (by kernel_rfl) (fun _ _ _ h => h) (Or.inl ⟨by rfl, ?_⟩) (by assumption) ?_
      rotate_left
      · intro w hSw
        try dsimp only at hSw
        go_simp
        try with_reducible rfl
      simp only [Act.put, List.setIfInBounds_toArray, List.set_cons_zero, List.set_cons_succ]
      refine ready_at (i := 14) rfl (by kernel_rfl) (fun KK hKK => ?_)
      go_simp
      refine (unhide IL _ _ _ (unhide RL _ bz4)).mono ?_
      rintro _ z5 ⟨rfl, bn⟩
      have bz5 : Below w12.heap.size w12 z5 := bz4.trans (bn.mono bz4.size)
      clear hHeld bn bz4
      refine hKK.out _ _ (unhide K _ bz5) (fun hHeld => ?_)
      clear hKK KK
      refine take_at (i := 15) (d := 123) (v := ?_) rfl rfl (by kernel_rfl) (by kernel_rfl) (by kernel_rfl) (fun _ _ _ h => h) (Or.inl ⟨by rfl, ?_⟩) (by assumption) ?_
      rotate_left
      · intro w hSw
        try dsimp only at hSw
        go_simp
        try with_reducible rfl
      simp only [Act.put, List.setIfInBounds_toArray, List.set_cons_zero, List.set_cons_succ]
      refine take_at (i := 16) (d := 124) (v := ?_) rfl rfl (by kernel_rfl) (by kernel_rfl) (by kernel_rfl) (fun _ _ _ h => h) (Or.inl ⟨by rfl, ?_⟩) (by assumption) ?_
      rotate_left
      · intro w hSw
        try dsimp only at hSw
        go_simp
        try with_reducible rfl
      simp only [Act.put, List.setIfInBounds_toArray, List.set_cons_zero, List.set_cons_succ]
      refine take_at (i := 17) (d := 125) (v := undef) rfl rfl (by kernel_rfl) (by kernel_rfl) (by kernel_rfl) (fun _ _ _ h => h) (Or.inr ⟨by rfl, rfl⟩) (by assumption) ?_
      simp only [Act.put, List.setIfInBounds_toArray, List.set_cons_zero, List.set_cons_succ]
      refine take_at (i := 18) (d := 126) (v := undef) rfl rfl (by kernel_rfl) (by kernel_rfl) (by kernel_rfl) (fun _ _ _ h => h) (Or.inr ⟨by rfl, rfl⟩) (by assumption) ?_
      simp only [Act.put, List.setIfInBounds_toArray, List.set_cons_zero, List.set_cons_succ]
      refine take_at (i := 19) (d := 127) (v := ?_) rfl rfl (by kernel_rfl) (by kernel_rfl) (by kernel_rfl) (fun _ _ _ h => h) (Or.inl ⟨by rfl, ?_⟩) (by assumption) ?_
      rotate_left
      · intro w hSw
        try dsimp only at hSw
        go_simp
        try with_reducible rfl
      simp only [Act.put, List.setIfInBounds_toArray, List.set_cons_zero, List.set_cons_succ]
      refine take_at (i := 20) (d := 128) (v := ?_) rfl rfl (by kernel_rfl) (by kernel_rfl) (by kernel_rfl) (fun _ _ _ h => h) (Or.inl ⟨by rfl, ?_⟩) (by assumption) ?_
      rotate_left
      · intro w hSw
        try dsimp only at hSw
        go_simp
        try with_reducible rfl
      simp only [Act.put, List.setIfInBounds_toArray, List.set_cons_zero, List.set_cons_succ]
      refine take_at (i := 21) (d := 2) (v := ?_) rfl rfl (by kernel_rfl) (by kernel_rfl) (by kernel_rfl) (fun _ _ _ h => h) (Or.inl ⟨by rfl, ?_⟩) (by assumption) ?_
      rotate_left
      · intro w hSw
        try dsimp only at hSw
        go_simp
        try with_reducible rfl
      simp only [Act.put, List.setIfInBounds_toArray, List.set_cons_zero, List.set_cons_succ]
      clear hHeld
      refine wpAnyH_done (by kernel_rfl) ?_ _
      refine NoPanic.normal ?_
      go_wp2
      go_ret
      exact ⟨by simp, (unhide B12).trans (bz5.mono (unhide B12).size)⟩
    by_cases h4 : q' = 4
    · subst h4
      have hag := PA (.inr rfl)
      obtain ⟨e0, e1⟩ : v10.cell? ⟨w9.heap.size, 0, none⟩ = some (.slice ia x'.length ic) ∧ v10.cell? ⟨w9.heap.size, 1, none⟩ = some (.slice ja y'.length jc) := (unhide K _ bv10).2.2.2.2.1
      obtain ⟨t0, t1, t2, t3⟩ := (unhide KX _ bv10).cells4
      go_wp2_with fail
      clear e0 e1 t0 t1 t2 t3
      refine (implPay _ _ a b c d x' y' _ (unhide RE _ bv10)).mono ?_
      rintro _ v11 ⟨u3, v3', rfl, o3, bn⟩
      rw [hag]
      obtain ⟨ka', kc', rfl⟩ := o3.has.form
      obtain ⟨kb', kd', rfl⟩ := o3.next.form
      obtain ⟨v12, hv12⟩ : ∃ v12, v11.alloc (.cells (two (.slice ka' (payAns x' y' a b c d).1.length kc') (.slice kb' (payAns x' y' a b c d).2.1.length kd')) 26) = v12 := ⟨_, rfl⟩
      have bv12 : Below w12.heap.size w12 v12 := hv12 ▸ (bv10.trans (bn.mono bv10.size)).alloc (bv10.trans (bn.mono bv10.size)).size _
      clear o3 bn
      go_wp2_with fail
      clear hv12
      refine wp_region_noPanic ?_
      refine wp_region_held_drew (S := (fun w' => (w'.cell? ⟨w1.heap.size, 0, none⟩ = some (.slice ha xs.length hc) ∧ w'.cell? ⟨w1.heap.size, 1, none⟩ = some (.slice na ys.length nc)) ∧ (w'.cell? ⟨w3.heap.size, 0, none⟩ = some (.slice ma x.length mc) ∧ w'.cell? ⟨w3.heap.size, 1, none⟩ = some (.slice ka y.length kc)) ∧ (w'.cell? ⟨w5.heap.size, 0, none⟩ = some (.slice sa x.length sc) ∧ w'.cell? ⟨w5.heap.size, 1, none⟩ = some (.slice ta y.length tc)) ∧ (w'.cell? ⟨w7.heap.size, 0, none⟩ = some (.slice fa xs'.length fc) ∧ w'.cell? ⟨w7.heap.size, 1, none⟩ = some (.slice ga ys'.length gc)) ∧ (w'.cell? ⟨w9.heap.size, 0, none⟩ = some (.slice ia x'.length ic) ∧ w'.cell? ⟨w9.heap.size, 1, none⟩ = some (.slice ja y'.length jc)) ∧ (w'.cell? ⟨w11.heap.size, 0, none⟩ = some (.slice oa x'.length oc) ∧ w'.cell? ⟨w11.heap.size, 1, none⟩ = some (.slice ra y'.length rc)))) (by kernel_rfl) (unhide K _ (Below.drew bv12)) (fun hHeld => ?_)
      have bz0 : Below w12.heap.size w12 v12.drew := Below.drew bv12
      refine take_at (i := 0) (d := 108) (v := ?_) rfl rfl (by kernel_rfl) (by kernel_rfl) (by kernel_rfl) (fun _ _ _ h => h) (Or.inl ⟨by rfl, ?_⟩) (by assumption) ?_
      rotate_left
      · intro w hSw
        try dsimp only at hSw
        go_simp
        try with_reducible rfl
      simp only [Act.put, List.setIfInBounds_toArray, List.set_cons_zero, List.set_cons_succ]
      refine take_at (i := 2) (d := 110) (v := ?_) rfl rfl (by kernel_rfl) (by kernel_rfl) (by kernel_rfl) (fun _ _ _ h => h) (Or.inl ⟨by rfl, ?_⟩) (by assumption) ?_
      rotate_left
      · intro w hSw
        try dsimp only at hSw
        go_simp
        try with_reducible rfl
      simp only [Act.put, List.setIfInBounds_toArray, List.set_cons_zero, List.set_cons_succ]
      refine ready_at (i := 1) rfl (by kernel_rfl) (fun KK hKK => ?_)
      go_simp
      refine (unhide JT _ _ _ (unhide RM _ bz0).1).mono ?_
      rintro _ z1 ⟨rfl, bn⟩
      have bz1 : Below w12.heap.size w12 z1 := bz0.trans (bn.mono bz0.size)
      clear hHeld bn bz0
      refine hKK.out _ _ (unhide K _ bz1) (fun hHeld => ?_)
      clear hKK KK
      refine ready_at (i := 3) rfl (by kernel_rfl) (fun KK hKK => ?_)
      go_simp
      refine (unhide IT _ _ _ (unhide RL _ bz1).1).mono ?_
      rintro _ z2 ⟨rfl, bn⟩
      have bz2 : Below w12.heap.size w12 z2 := bz1.trans (bn.mono bz1.size)
      clear hHeld bn bz1
      refine hKK.out _ _ (unhide K _ bz2) (fun hHeld => ?_)
      clear hKK KK
      refine take_at (i := 4) (d := 112) (v := ?_) rfl rfl (by kernel_rfl) (by kernel_rfl) (by kernel_rfl) (fun _ _ _ h => h) (Or.inl ⟨by rfl, ?_⟩) (by assumption) ?_
      rotate_left
      · intro w hSw
        try dsimp only at hSw
        go_simp
        try with_reducible rfl
      simp only [Act.put, List.setIfInBounds_toArray, List.set_cons_zero, List.set_cons_succ]
      refine take_at (i := 5) (d := 113) (v := ?_) rfl rfl (by kernel_rfl) (by kernel_rfl) (by kernel_rfl) (fun _ _ _ h => h) (Or.inl ⟨by rfl, ?_⟩) (by assumption) ?_
      rotate_left
      · intro w hSw
        try dsimp only at hSw
        go_simp
        try with_reducible rfl
      simp only [Act.put, List.setIfInBounds_toArray, List.set_cons_zero, List.set_cons_succ]
      refine take_at (i := 6) (d := 114) (v := ?_) rfl rfl (by kernel_rfl) (by kernel_rfl) (by kernel_rfl) (fun _ _ _ h => h) (Or.inl ⟨by rfl, ?_⟩) (by assumption) ?_
      rotate_left
      · intro w hSw
        try dsimp only at hSw
        go_simp
        try with_reducible rfl
      simp only [Act.put, List.setIfInBounds_toArray, List.set_cons_zero, List.set_cons_succ]
      refine take_at (i := 8) (d := 116) (v := ?_) rfl rfl (by kernel_rfl) (by kernel_rfl) (by kernel_rfl) (fun _ _ _ h => h) (Or.inl ⟨by rfl, ?_⟩) (by assumption) ?_
      rotate_left
      · intro w hSw
        try dsimp only at hSw
        go_simp
        try with_reducible rfl
      simp only [Act.put, List.setIfInBounds_toArray, List.set_cons_zero, List.set_cons_succ]
      refine ready_at (i := 7) rfl (by kernel_rfl) (fun KK hKK => ?_)
      go_simp
      refine (unhide JT' _ _ _ (unhide RE _ bz2).1).mono ?_
      rintro _ z3 ⟨rfl, bn⟩
      have bz3 : Below w12.heap.size w12 z3 := bz2.trans (bn.mono bz2.size)
      clear hHeld bn bz2
      refine hKK.out _ _ (unhide K _ bz3) (fun hHeld => ?_)
      clear hKK KK
      refine ready_at (i := 9) rfl (by kernel_rfl) (fun KK hKK => ?_)
      go_simp
      refine (unhide IT' _ _ _ (unhide RA _ bz3).1).mono ?_
      rintro _ z4 ⟨rfl, bn⟩
      have bz4 : Below w12.heap.size w12 z4 := bz3.trans (bn.mono bz3.size)
      clear hHeld bn bz3
      refine hKK.out _ _ (unhide K _ bz4) (fun hHeld => ?_)
      clear hKK KK
      refine take_at (i := 10) (d := 118) (v := ?_) rfl rfl (by kernel_rfl) (by kernel_rfl) (by kernel_rfl) (fun _ _ _ h => h) (Or.inl ⟨by rfl, ?_⟩) (by assumption) ?_
      rotate_left
      · intro w hSw
        try dsimp only at hSw
        go_simp
        try with_reducible rfl
      simp only [Act.put, List.setIfInBounds_toArray, List.set_cons_zero, List.set_cons_succ]
      refine take_at (i := 11) (d := 119) (v := ?_) rfl rfl (by kernel_rfl) (by kernel_rfl) (by kernel_rfl) (fun _ _ _ h => h) (Or.inl ⟨by rfl, ?_⟩) (by assumption) ?_
      rotate_left
      · intro w hSw
        try dsimp only at hSw
        go_simp
        try with_reducible rfl
      simp only [Act.put, List.setIfInBounds_toArray, List.set_cons_zero, List.set_cons_succ]
      refine take_at (i := 12) (d := 120) (v := ?_) rfl rfl (by kernel_rfl) (by kernel_rfl) (by kernel_rfl) (fun _ _ _ h => h) (Or.inl ⟨by rfl, ?_⟩) (by assumption) ?_
      rotate_left
      · intro w hSw
        try dsimp only at hSw
        go_simp
        try with_reducible rfl
      simp only [Act.put, List.setIfInBounds_toArray, List.set_cons_zero, List.set_cons_succ]
      refine take_at (i := 13) (d := 121) (v := ?_) rfl rfl (by kernel_rfl) (by kernel_rfl) (by kernel_rfl) (fun _ _ _ h => h) (Or.inl ⟨by rfl, ?_⟩) (by assumption) ?_
      rotate_left
      · intro w hSw
        try dsimp only at hSw
        go_simp
        try with_reducible rfl
      simp only [Act.put, List.setIfInBounds_toArray, List.set_cons_zero, List.set_cons_succ]
      refine ready_at (i := 14) rfl (by kernel_rfl) (fun KK hKK => ?_)
      go_simp
      refine (unhide IL _ _ _ (unhide RL _ bz4)).mono ?_
      rintro _ z5 ⟨rfl, bn⟩
      have bz5 : Below w12.heap.size w12 z5 := bz4.trans (bn.mono bz4.size)
      clear hHeld bn bz4
      refine hKK.out _ _ (unhide K _ bz5) (fun hHeld => ?_)
      clear hKK KK
      refine take_at (i := 15) (d := 123) (v := ?_) rfl rfl (by kernel_rfl) (by kernel_rfl) (by kernel_rfl) (fun _ _ _ h => h) (Or.inl ⟨by rfl, ?_⟩) (by assumption) ?_
      rotate_left
      · intro w hSw
        try dsimp only at hSw
        go_simp
        try with_reducible rfl
      simp only [Act.put, List.setIfInBounds_toArray, List.set_cons_zero, List.set_cons_succ]
      refine take_at (i := 16) (d := 124) (v := ?_) rfl rfl (by kernel_rfl) (by kernel_rfl) (by kernel_rfl) (fun _ _ _ h => h) (Or.inl ⟨by rfl, ?_⟩) (by assumption) ?_
      rotate_left
      · intro w hSw
        try dsimp only at hSw
        go_simp
        try with_reducible rfl
      simp only [Act.put, List.setIfInBounds_toArray, List.set_cons_zero, List.set_cons_succ]
      refine take_at (i := 17) (d := 125) (v := undef) rfl rfl (by kernel_rfl) (by kernel_rfl) (by kernel_rfl) (fun _ _ _ h => h) (Or.inr ⟨by rfl, rfl⟩) (by assumption) ?_
      simp only [Act.put, List.setIfInBounds_toArray, List.set_cons_zero, List.set_cons_succ]
      refine take_at (i := 18) (d := 126) (v := undef) rfl rfl (by kernel_rfl) (by kernel_rfl) (by kernel_rfl) (fun _ _ _ h => h) (Or.inr ⟨by rfl, rfl⟩) (by assumption) ?_
      simp only [Act.put, List.setIfInBounds_toArray, List.set_cons_zero, List.set_cons_succ]
      refine take_at (i := 19) (d := 127) (v := ?_) rfl rfl (by kernel_rfl) (by kernel_rfl) (by kernel_rfl) (fun _ _ _ h => h) (Or.inl ⟨by rfl, ?_⟩) (by assumption) ?_
      rotate_left
      · intro w hSw
        try dsimp only at hSw
        go_simp
        try with_reducible rfl
      simp only [Act.put, List.setIfInBounds_toArray, List.set_cons_zero, List.set_cons_succ]
      refine take_at (i := 20) (d := 128) (v := ?_) rfl rfl (by kernel_rfl) (by kernel_rfl) (by kernel_rfl) (fun _ _ _ h => h) (Or.inl ⟨by rfl, ?_⟩) (by assumption) ?_
      rotate_left
      · intro w hSw
        try dsimp only at hSw
        go_simp
        try with_reducible rfl
      simp only [Act.put, List.setIfInBounds_toArray, List.set_cons_zero, List.set_cons_succ]
      refine take_at (i := 21) (d := 2) (v := ?_) rfl rfl (by kernel_rfl) (by kernel_rfl) (by kernel_rfl) (fun _ _ _ h => h) (Or.inl ⟨by rfl, ?_⟩) (by assumption) ?_
      rotate_left
      · intro w hSw
        try dsimp only at hSw
        go_simp
        try with_reducible rfl
      simp only [Act.put, List.setIfInBounds_toArray, List.set_cons_zero, List.set_cons_succ]
      clear hHeld
      refine wpAnyH_done (by kernel_rfl) ?_ _
      refine NoPanic.normal ?_
      go_wp2
      go_ret
      exact ⟨by simp, (unhide B12).trans (bz5.mono (unhide B12).size)⟩
    have g0 : (q' == 0) = false := by simpa using h0
    have g4 : (q' == 4) = false := by simpa using h4
    go_wp2_with fail
    refine wp_region_noPanic ?_
    refine wp_region_held_drew (S := (fun w' => (w'.cell? ⟨w1.heap.size, 0, none⟩ = some (.slice ha xs.length hc) ∧ w'.cell? ⟨w1.heap.size, 1, none⟩ = some (.slice na ys.length nc)) ∧ (w'.cell? ⟨w3.heap.size, 0, none⟩ = some (.slice ma x.length mc) ∧ w'.cell? ⟨w3.heap.size, 1, none⟩ = some (.slice ka y.length kc)) ∧ (w'.cell? ⟨w5.heap.size, 0, none⟩ = some (.slice sa x.length sc) ∧ w'.cell? ⟨w5.heap.size, 1, none⟩ = some (.slice ta y.length tc)) ∧ (w'.cell? ⟨w7.heap.size, 0, none⟩ = some (.slice fa xs'.length fc) ∧ w'.cell? ⟨w7.heap.size, 1, none⟩ = some (.slice ga ys'.length gc)) ∧ (w'.cell? ⟨w9.heap.size, 0, none⟩ = some (.slice ia x'.length ic) ∧ w'.cell? ⟨w9.heap.size, 1, none⟩ = some (.slice ja y'.length jc)) ∧ (w'.cell? ⟨w11.heap.size, 0, none⟩ = some (.slice oa x'.length oc) ∧ w'.cell? ⟨w11.heap.size, 1, none⟩ = some (.slice ra y'.length rc)))) (by kernel_rfl) (unhide K _ (Below.drew bv10)) (fun hHeld => ?_)
    have bz0 : Below w12.heap.size w12 v10.drew := Below.drew bv10
    refine take_at (i := 0) (d := 108) (v := ?_) rfl rfl (by kernel_rfl) (by kernel_rfl) (by kernel_rfl) (fun _ _ _ h => h) (Or.inl ⟨by rfl, ?_⟩) (by assumption) ?_
    rotate_left
    · intro w hSw
      try dsimp only at hSw
      go_simp
      try with_reducible rfl
    simp only [Act.put, List.setIfInBounds_toArray, List.set_cons_zero, List.set_cons_succ]
    refine take_at (i := 2) (d := 110) (v := ?_) rfl rfl (by kernel_rfl) (by kernel_rfl) (by kernel_rfl) (fun _ _ _ h => h) (Or.inl ⟨by rfl, ?_⟩) (by assumption) ?_
    rotate_left
    · intro w hSw
      try dsimp only at hSw
      go_simp
      try with_reducible rfl
    simp only [Act.put, List.setIfInBounds_toArray, List.set_cons_zero, List.set_cons_succ]
    refine ready_at (i := 1) rfl (by kernel_rfl) (fun KK hKK => ?_)
    go_simp
    refine (unhide JT _ _ _ (unhide RM _ bz0).1).mono ?_
    rintro _ z1 ⟨rfl, bn⟩
    have bz1 : Below w12.heap.size w12 z1 := bz0.trans (bn.mono bz0.size)
    clear hHeld bn bz0
    refine hKK.out _ _ (unhide K _ bz1) (fun hHeld => ?_)
    clear hKK KK
    refine ready_at (i := 3) rfl (by kernel_rfl) (fun KK hKK => ?_)
    go_simp
    refine (unhide IT _ _ _ (unhide RL _ bz1).1).mono ?_
    rintro _ z2 ⟨rfl, bn⟩
    have bz2 : Below w12.heap.size w12 z2 := bz1.trans (bn.mono bz1.size)
    clear hHeld bn bz1
    refine hKK.out _ _ (unhide K _ bz2) (fun hHeld => ?_)
    clear hKK KK
    refine take_at (i := 4) (d := 112) (v := ?_) rfl rfl (by kernel_rfl) (by kernel_rfl) (by kernel_rfl) (fun _ _ _ h => h) (Or.inl ⟨by rfl, ?_⟩) (by assumption) ?_
    rotate_left
    · intro w hSw
      try dsimp only at hSw
      go_simp
      try with_reducible rfl
    simp only [Act.put, List.setIfInBounds_toArray, List.set_cons_zero, List.set_cons_succ]
    refine take_at (i := 5) (d := 113) (v := ?_) rfl rfl (by kernel_rfl) (by kernel_rfl) (by kernel_rfl) (fun _ _ _ h => h) (Or.inl ⟨by rfl, ?_⟩) (by assumption) ?_
    rotate_left
    · intro w hSw
      try dsimp only at hSw
      go_simp
      try with_reducible rfl
    simp only [Act.put, List.setIfInBounds_toArray, List.set_cons_zero, List.set_cons_succ]
    refine take_at (i := 6) (d := 114) (v := ?_) rfl rfl (by kernel_rfl) (by kernel_rfl) (by kernel_rfl) (fun _ _ _ h => h) (Or.inl ⟨by rfl, ?_⟩) (by assumption) ?_
    rotate_left
    · intro w hSw
      try dsimp only at hSw
      go_simp
      try with_reducible rfl
    simp only [Act.put, List.setIfInBounds_toArray, List.set_cons_zero, List.set_cons_succ]
    refine take_at (i := 8) (d := 116) (v := ?_) rfl rfl (by kernel_rfl) (by kernel_rfl) (by kernel_rfl) (fun _ _ _ h => h) (Or.inl ⟨by rfl, ?_⟩) (by assumption) ?_
    rotate_left
    · intro w hSw
      try dsimp only at hSw
      go_simp
      try with_reducible rfl
    simp only [Act.put, List.setIfInBounds_toArray, List.set_cons_zero, List.set_cons_succ]
    refine ready_at (i := 7) rfl (by kernel_rfl) (fun KK hKK => ?_)
    go_simp
    refine (unhide JT' _ _ _ (unhide RE _ bz2).1).mono ?_
    rintro _ z3 ⟨rfl, bn⟩
    have bz3 : Below w12.heap.size w12 z3 := bz2.trans (bn.mono bz2.size)
    clear hHeld bn bz2
    refine hKK.out _ _ (unhide K _ bz3) (fun hHeld => ?_)
    clear hKK KK
    refine ready_at (i := 9) rfl (by kernel_rfl) (fun KK hKK => ?_)
    go_simp
    refine (unhide IT' _ _ _ (unhide RA _ bz3).1).mono ?_
    rintro _ z4 ⟨rfl, bn⟩
    have bz4 : Below w12.heap.size w12 z4 := bz3.trans (bn.mono bz3.size)
    clear hHeld bn bz3
    refine hKK.out _ _ (unhide K _ bz4) (fun hHeld => ?_)
    clear hKK KK
    refine take_at (i := 10) (d := 118) (v := ?_) rfl rfl (by kernel_rfl) (by kernel_rfl) (by kernel_rfl) (fun _ _ _ h => h) (Or.inl ⟨by rfl, ?_⟩) (by assumption) ?_
    rotate_left
    · intro w hSw
      try dsimp only at hSw
      go_simp
      try with_reducible rfl
    simp only [Act.put, List.setIfInBounds_toArray, List.set_cons_zero, List.set_cons_succ]
    refine take_at (i := 11) (d := 119) (v := ?_) rfl rfl (by kernel_rfl) (by kernel_rfl) (by kernel_rfl) (fun _ _ _ h => h) (Or.inl ⟨by rfl, ?_⟩) (by assumption) ?_
    rotate_left
    · intro w hSw
      try dsimp only at hSw
      go_simp
      try with_reducible rfl
    simp only [Act.put, List.setIfInBounds_toArray, List.set_cons_zero, List.set_cons_succ]
    refine take_at (i := 12) (d := 120) (v := ?_) rfl rfl (by kernel_rfl) (by kernel_rfl) (by kernel_rfl) (fun _ _ _ h => h) (Or.inl ⟨by rfl, ?_⟩) (by assumption) ?_
    rotate_left
    · intro w hSw
      try dsimp only at hSw
      go_simp
      try with_reducible rfl
    simp only [Act.put, List.setIfInBounds_toArray, List.set_cons_zero, List.set_cons_succ]
    refine take_at (i := 13) (d := 121) (v := ?_) rfl rfl (by kernel_rfl) (by kernel_rfl) (by kernel_rfl) (fun _ _ _ h => h) (Or.inl ⟨by rfl, ?_⟩) (by assumption) ?_
    rotate_left
    · intro w hSw
      try dsimp only at hSw
      go_simp
      try with_reducible rfl
    simp only [Act.put, List.setIfInBounds_toArray, List.set_cons_zero, List.set_cons_succ]
    refine ready_at (i := 14) rfl (by kernel_rfl) (fun KK hKK => ?_)
    go_simp
    refine (unhide IL _ _ _ (unhide RL _ bz4)).mono ?_
    rintro _ z5 ⟨rfl, bn⟩
    have bz5 : Below w12.heap.size w12 z5 := bz4.trans (bn.mono bz4.size)
    clear hHeld bn bz4
    refine hKK.out _ _ (unhide K _ bz5) (fun hHeld => ?_)
    clear hKK KK
    refine take_at (i := 15) (d := 123) (v := ?_) rfl rfl (by kernel_rfl) (by kernel_rfl) (by kernel_rfl) (fun _ _ _ h => h) (Or.inl ⟨by rfl, ?_⟩) (by assumption) ?_
    rotate_left
    · intro w hSw
      try dsimp only at hSw
      go_simp
      try with_reducible rfl
    simp only [Act.put, List.setIfInBounds_toArray, List.set_cons_zero, List.set_cons_succ]
    refine take_at (i := 16) (d := 124) (v := ?_) rfl rfl (by kernel_rfl) (by kernel_rfl) (by kernel_rfl) (fun _ _ _ h => h) (Or.inl ⟨by rfl, ?_⟩) (by assumption) ?_
    rotate_left
    · intro w hSw
      try dsimp only at hSw
      go_simp
      try with_reducible rfl
    simp only [Act.put, List.setIfInBounds_toArray, List.set_cons_zero, List.set_cons_succ]
    refine take_at (i := 17) (d := 125) (v := undef) rfl rfl (by kernel_rfl) (by kernel_rfl) (by kernel_rfl) (fun _ _ _ h => h) (Or.inr ⟨by rfl, rfl⟩) (by assumption) ?_
    simp only [Act.put, List.setIfInBounds_toArray, List.set_cons_zero, List.set_cons_succ]
    refine take_at (i := 18) (d := 126) (v := undef) rfl rfl (by kernel_rfl) (by kernel_rfl) (by kernel_rfl) (fun _ _ _ h => h) (Or.inr ⟨by rfl, rfl⟩) (by assumption) ?_
    simp only [Act.put, List.setIfInBounds_toArray, List.set_cons_zero, List.set_cons_succ]
    refine take_at (i := 19) (d := 127) (v := ?_) rfl rfl (by kernel_rfl) (by kernel_rfl) (by kernel_rfl) (fun _ _ _ h => h) (Or.inl ⟨by rfl, ?_⟩) (by assumption) ?_
    rotate_left
    · intro w hSw
      try dsimp only at hSw
      go_simp
      try with_reducible rfl
    simp only [Act.put, List.setIfInBounds_toArray, List.set_cons_zero, List.set_cons_succ]
    refine take_at (i := 20) (d := 128) (v := ?_) rfl rfl (by kernel_rfl) (by kernel_rfl) (by kernel_rfl) (fun _ _ _ h => h) (Or.inl ⟨by rfl, ?_⟩) (by assumption) ?_
    rotate_left
    · intro w hSw
      try dsimp only at hSw
      go_simp
      try with_reducible rfl
    simp only [Act.put, List.setIfInBounds_toArray, List.set_cons_zero, List.set_cons_succ]
    refine take_at (i := 21) (d := 2) (v := ?_) rfl rfl (by kernel_rfl) (by kernel_rfl) (by kernel_rfl) (fun _ _ _ h => h) (Or.inl ⟨by rfl, ?_⟩) (by assumption) ?_
    rotate_left
    · intro w hSw
      try dsimp only at hSw
      go_simp
      try with_reducible rfl
    simp only [Act.put, List.setIfInBounds_toArray, List.set_cons_zero, List.set_cons_succ]
    clear hHeld
    refine wpAnyH_done (by kernel_rfl) ?_ _
    refine NoPanic.normal ?_
    go_wp2
    go_ret
    exact ⟨by simp, (unhide B12).trans (bz5.mono (unhide B12).size)⟩

theorem fnLedgers_walk (ao : Option Addr) (ca : Nat) (zs : List Int) (w : World) (hn : zs.length ≤ maxLen) (hx : zs = [] ∨ ∃ b off, ao = some ⟨b, off, none⟩ ∧ ∀ k, k < zs.length → w.cell? ⟨b, off + k, none⟩ = some (.int .u8 (zs.getD k 0))) (hf : ∀ k, k < zs.length → 0 ≤ zs.getD k 0 ∧ zs.getD k 0 ≤ 255) :
    Calls Try.prog 3 #[.slice ao zs.length ca] w fun e w' => e = .returned (.bool true) ∧ Below w.heap.size w w' := by
  unfold maxLen at hn
  by_cases h : zs.length ≤ 1048576
  · exact fnLedgers_small ao ca zs w ⟨h, hx, hf⟩
  · exact fnLedgers_big ao zs.length ca w (by omega) (by omega)
end Go.Proofs.Ytlglekfmiacdnaa
