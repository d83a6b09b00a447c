/- MsgTo: laws.toMsg. -/
import Derived.Test.YtihaecmlfmfbfaaDoorMsgRows
import Derived.Test.YtihaecmlfmfbfaaDoorMsgBox
namespace Go.Proofs.YtihaecmlfmfbfaaDoor
open Go.RowKit
set_option linter.unusedSectionVars false
variable [∀ (a b c d : Int), Decidable (Ok4 a b c d)]

set_option maxHeartbeats 16000000 in
set_option maxRecDepth 100000 in
theorem toMsg_any (t : MT) (a b c : Value) (xs ys zs : List Int) (w : World) (ha : RI w a xs) (hb : RI w b ys) (hc : RI w c zs) :
    Calls Tryd.prog 6 #[mgv t a b c] w fun e w' => ∃ u v x, e = .returned (mgv t u v x) ∧ OM w' w.heap.size u v x xs ys zs ∧ Below w.heap.size w w' := by
  have T1 := hide fun w h => toBlock_any t.bn t.bv t.bs a xs w h
  have T2 := hide fun w h => toPart_any t.pv t.ps b ys w h
  have T3 := hide fun w h => toQc_any t.qv t.qs c zs w h
  have T4 := hide fun w => toTx_any t.fr t.tu t.am t.no w
  have HA := hide ha
  have HB := hide hb
  have HC := hide hc
  clear ha hb hc
  obtain ⟨w0, hw0⟩ : ∃ w0, (((w.alloc (.cells #[.int .i64 t.k, .int .i64 t.vw, .string t.bn, .int .i64 t.bv, .string t.bs, a, .int .i64 t.pv, .string t.ps, b, .int .i64 t.qv, .string t.qs, c, .int .i64 t.wh, .int .i64 t.fr, .int .i64 t.tu, .int .i64 t.am, .int .i64 t.no] 31)).alloc (.cells #[.int .i64 0, .int .i64 0, .string ⟨#[]⟩, .int .i64 0, .string ⟨#[]⟩, .slice none 0 0, .int .i64 0, .string ⟨#[]⟩, .slice none 0 0, .int .i64 0, .string ⟨#[]⟩, .slice none 0 0, .int .i64 0, .int .i64 0, .int .i64 0, .int .i64 0, .int .i64 0] 40)).alloc (.cells #[.int .i64 0, .int .i64 0, .string ⟨#[]⟩, .int .i64 0, .string ⟨#[]⟩, .slice none 0 0, .int .i64 0, .string ⟨#[]⟩, .slice none 0 0, .int .i64 0, .string ⟨#[]⟩, .slice none 0 0, .int .i64 0, .int .i64 0, .int .i64 0, .int .i64 0, .int .i64 0] 40)) = w0 := ⟨_, rfl⟩
  have Bw0 : Below w.heap.size w w0 := hw0 ▸ (((Below.refl _ _).alloc (Nat.le_refl _) _).alloc (by simp) _).alloc (by simp; omega) _
  have P : Loc w0 (w.heap.size) #[.int .i64 t.k, .int .i64 t.vw, .string t.bn, .int .i64 t.bv, .string t.bs, a, .int .i64 t.pv, .string t.ps, b, .int .i64 t.qv, .string t.qs, c, .int .i64 t.wh, .int .i64 t.fr, .int .i64 t.tu, .int .i64 t.am, .int .i64 t.no] := hw0 ▸ ((loc_at (w) _ _ rfl).alloc _).alloc _
  have R : Loc w0 (w.heap.size + 1) #[.int .i64 0, .int .i64 0, .string ⟨#[]⟩, .int .i64 0, .string ⟨#[]⟩, .slice none 0 0, .int .i64 0, .string ⟨#[]⟩, .slice none 0 0, .int .i64 0, .string ⟨#[]⟩, .slice none 0 0, .int .i64 0, .int .i64 0, .int .i64 0, .int .i64 0, .int .i64 0] := hw0 ▸ (loc_at (w.alloc _) _ _ (by simp)).alloc _
  have O : Loc w0 (w.heap.size + 1 + 1) #[.int .i64 0, .int .i64 0, .string ⟨#[]⟩, .int .i64 0, .string ⟨#[]⟩, .slice none 0 0, .int .i64 0, .string ⟨#[]⟩, .slice none 0 0, .int .i64 0, .string ⟨#[]⟩, .slice none 0 0, .int .i64 0, .int .i64 0, .int .i64 0, .int .i64 0, .int .i64 0] := hw0 ▸ loc_at ((w.alloc _).alloc _) _ _ (by simp)
  have zw0 : w.heap.size + 1 + 1 + 1 ≤ w0.heap.size := by rw [← hw0]; simp
  go_enter Tryd.func6, Tryd.ntmps6
  have cP0 := P.cell 0 rfl
  have cO0 := O.cell 0 rfl
  have fO := O.frozen
  go_upto_region 3 with fail
  clear hw0
  clear cP0 cO0
  clear fO
  obtain ⟨w1, hw1⟩ : ∃ w9_, (w0.setCell ⟨w.heap.size + 1 + 1, 0, none⟩ (.int .i64 t.k)) = w9_ := ⟨_, rfl⟩
  have kN : Kp w0 w1 (fun k => k = w.heap.size + 1 + 1) := hw1 ▸ set_kp _ _ _ _
  replace O : Loc w1 (w.heap.size + 1 + 1) #[.int .i64 t.k, .int .i64 0, .string ⟨#[]⟩, .int .i64 0, .string ⟨#[]⟩, .slice none 0 0, .int .i64 0, .string ⟨#[]⟩, .slice none 0 0, .int .i64 0, .string ⟨#[]⟩, .slice none 0 0, .int .i64 0, .int .i64 0, .int .i64 0, .int .i64 0, .int .i64 0] := hw1 ▸ (O.set 0 _ rfl)
  replace P := P.kp kN (by omega)
  replace R := R.kp kN (by omega)
  have Bw1 := Below.kp Bw0 kN Bw0.size (fun k hk => by omega)
  have sw1 := kN.size
  rw [hw1]
  clear hw1 kN Bw0
  have cP1 := P.cell 1 rfl
  have cO1 := O.cell 1 rfl
  have fO := O.frozen
  go_upto_region 4 with fail
  clear cP1 cO1
  clear fO
  obtain ⟨w2, hw2⟩ : ∃ w9_, (w1.setCell ⟨w.heap.size + 1 + 1, 1, none⟩ (.int .i64 t.vw)) = w9_ := ⟨_, rfl⟩
  have kN : Kp w1 w2 (fun k => k = w.heap.size + 1 + 1) := hw2 ▸ set_kp _ _ _ _
  replace O : Loc w2 (w.heap.size + 1 + 1) #[.int .i64 t.k, .int .i64 t.vw, .string ⟨#[]⟩, .int .i64 0, .string ⟨#[]⟩, .slice none 0 0, .int .i64 0, .string ⟨#[]⟩, .slice none 0 0, .int .i64 0, .string ⟨#[]⟩, .slice none 0 0, .int .i64 0, .int .i64 0, .int .i64 0, .int .i64 0, .int .i64 0] := hw2 ▸ (O.set 1 _ rfl)
  replace P := P.kp kN (by omega)
  replace R := R.kp kN (by omega)
  have Bw2 := Below.kp Bw1 kN Bw1.size (fun k hk => by omega)
  have sw2 := kN.size
  rw [hw2]
  clear hw2 kN Bw1
  have cP2 := P.cell 2 rfl
  have cP3 := P.cell 3 rfl
  have cP4 := P.cell 4 rfl
  have cP5 := P.cell 5 rfl
  go_wp2_with fail
  refine (unhide T1 _ ((unhide HA).below Bw2 (Nat.le_refl _))).mono ?_
  rintro _ w3 ⟨u1, rfl, o1, bb⟩
  clear cP2 cP3 cP4 cP5
  have Bw3 := Bw2.trans (bb.mono Bw2.size)
  have sw3 := bb.size
  replace P := P.below bb P.lt
  replace R := R.below bb R.lt
  replace O := O.below bb O.lt
  clear Bw2
  clear bb
  have to1 := World.ownsRow.lt o1
  obtain ⟨ao1, ko1, rfl⟩ := o1.form
  have cO2 := O.cell 2 rfl
  have cO3 := O.cell 3 rfl
  have cO4 := O.cell 4 rfl
  have cO5 := O.cell 5 rfl
  have fO := O.frozen
  go_upto_region 5 with fail
  clear cO2 cO3 cO4 cO5
  clear fO
  obtain ⟨w4, hw4⟩ : ∃ w9_, ((((w3.setCell ⟨w.heap.size + 1 + 1, 2, none⟩ (.string t.bn)).setCell ⟨w.heap.size + 1 + 1, 3, none⟩ (.int .i64 t.bv)).setCell ⟨w.heap.size + 1 + 1, 4, none⟩ (.string t.bs)).setCell ⟨w.heap.size + 1 + 1, 5, none⟩ (.slice ao1 xs.length ko1)) = w9_ := ⟨_, rfl⟩
  have kN : Kp w3 w4 (fun k => k = w.heap.size + 1 + 1) := hw4 ▸ (((set_kp _ _ _ _).trans (set_kp _ _ _ _)).trans (set_kp _ _ _ _)).trans (set_kp _ _ _ _)
  replace O : Loc w4 (w.heap.size + 1 + 1) #[.int .i64 t.k, .int .i64 t.vw, .string t.bn, .int .i64 t.bv, .string t.bs, .slice ao1 xs.length ko1, .int .i64 0, .string ⟨#[]⟩, .slice none 0 0, .int .i64 0, .string ⟨#[]⟩, .slice none 0 0, .int .i64 0, .int .i64 0, .int .i64 0, .int .i64 0, .int .i64 0] := hw4 ▸ ((((O.set 2 _ rfl).set 3 _ rfl).set 4 _ rfl).set 5 _ rfl)
  replace P := P.kp kN (by omega)
  replace R := R.kp kN (by omega)
  replace o1 := o1.kp kN (fun j hj e => by have := to1 j hj; omega)
  have Bw4 := Below.kp Bw3 kN Bw3.size (fun k hk => by omega)
  have sw4 := kN.size
  rw [hw4]
  clear hw4 kN Bw3
  as_aux_lemma =>
    have cP6 := P.cell 6 rfl
    have cP7 := P.cell 7 rfl
    have cP8 := P.cell 8 rfl
    go_wp2_with fail
    refine (unhide T2 _ ((unhide HB).below Bw4 (Nat.le_refl _))).mono ?_
    rintro _ w5 ⟨u2, rfl, o2, bb⟩
    clear cP6 cP7 cP8
    have Bw5 := Bw4.trans (bb.mono Bw4.size)
    have sw5 := bb.size
    replace P := P.below bb P.lt
    replace R := R.below bb R.lt
    replace O := O.below bb O.lt
    replace o1 := o1.below bb
    clear Bw4
    clear bb
    have to2 := World.ownsRow.lt o2
    obtain ⟨ao2, ko2, rfl⟩ := o2.form
    have cO6 := O.cell 6 rfl
    have cO7 := O.cell 7 rfl
    have cO8 := O.cell 8 rfl
    have fO := O.frozen
    go_upto_region 6 with fail
    clear cO6 cO7 cO8
    clear fO
    obtain ⟨w6, hw6⟩ : ∃ w9_, (((w5.setCell ⟨w.heap.size + 1 + 1, 6, none⟩ (.int .i64 t.pv)).setCell ⟨w.heap.size + 1 + 1, 7, none⟩ (.string t.ps)).setCell ⟨w.heap.size + 1 + 1, 8, none⟩ (.slice ao2 ys.length ko2)) = w9_ := ⟨_, rfl⟩
    have kN : Kp w5 w6 (fun k => k = w.heap.size + 1 + 1) := hw6 ▸ ((set_kp _ _ _ _).trans (set_kp _ _ _ _)).trans (set_kp _ _ _ _)
    replace O : Loc w6 (w.heap.size + 1 + 1) #[.int .i64 t.k, .int .i64 t.vw, .string t.bn, .int .i64 t.bv, .string t.bs, .slice ao1 xs.length ko1, .int .i64 t.pv, .string t.ps, .slice ao2 ys.length ko2, .int .i64 0, .string ⟨#[]⟩, .slice none 0 0, .int .i64 0, .int .i64 0, .int .i64 0, .int .i64 0, .int .i64 0] := hw6 ▸ (((O.set 6 _ rfl).set 7 _ rfl).set 8 _ rfl)
    replace P := P.kp kN (by omega)
    replace R := R.kp kN (by omega)
    replace o1 := o1.kp kN (fun j hj e => by have := to1 j hj; omega)
    replace o2 := o2.kp kN (fun j hj e => by have := to2 j hj; omega)
    have Bw6 := Below.kp Bw5 kN Bw5.size (fun k hk => by omega)
    have sw6 := kN.size
    rw [hw6]
    clear hw6 kN Bw5
    have cP9 := P.cell 9 rfl
    have cP10 := P.cell 10 rfl
    have cP11 := P.cell 11 rfl
    go_wp2_with fail
    refine (unhide T3 _ ((unhide HC).below Bw6 (Nat.le_refl _))).mono ?_
    rintro _ w7 ⟨u3, rfl, o3, bb⟩
    clear cP9 cP10 cP11
    have Bw7 := Bw6.trans (bb.mono Bw6.size)
    have sw7 := bb.size
    replace P := P.below bb P.lt
    replace R := R.below bb R.lt
    replace O := O.below bb O.lt
    replace o1 := o1.below bb
    replace o2 := o2.below bb
    clear Bw6
    clear bb
    have to3 := World.ownsRow.lt o3
    obtain ⟨ao3, ko3, rfl⟩ := o3.form
    have cO9 := O.cell 9 rfl
    have cO10 := O.cell 10 rfl
    have cO11 := O.cell 11 rfl
    have fO := O.frozen
    go_upto_region 7 with fail
    clear cO9 cO10 cO11
    clear fO
    obtain ⟨w8, hw8⟩ : ∃ w9_, (((w7.setCell ⟨w.heap.size + 1 + 1, 9, none⟩ (.int .i64 t.qv)).setCell ⟨w.heap.size + 1 + 1, 10, none⟩ (.string t.qs)).setCell ⟨w.heap.size + 1 + 1, 11, none⟩ (.slice ao3 zs.length ko3)) = w9_ := ⟨_, rfl⟩
    have kN : Kp w7 w8 (fun k => k = w.heap.size + 1 + 1) := hw8 ▸ ((set_kp _ _ _ _).trans (set_kp _ _ _ _)).trans (set_kp _ _ _ _)
    replace O : Loc w8 (w.heap.size + 1 + 1) #[.int .i64 t.k, .int .i64 t.vw, .string t.bn, .int .i64 t.bv, .string t.bs, .slice ao1 xs.length ko1, .int .i64 t.pv, .string t.ps, .slice ao2 ys.length ko2, .int .i64 t.qv, .string t.qs, .slice ao3 zs.length ko3, .int .i64 0, .int .i64 0, .int .i64 0, .int .i64 0, .int .i64 0] := hw8 ▸ (((O.set 9 _ rfl).set 10 _ rfl).set 11 _ rfl)
    replace P := P.kp kN (by omega)
    replace R := R.kp kN (by omega)
    replace o1 := o1.kp kN (fun j hj e => by have := to1 j hj; omega)
    replace o2 := o2.kp kN (fun j hj e => by have := to2 j hj; omega)
    replace o3 := o3.kp kN (fun j hj e => by have := to3 j hj; omega)
    have Bw8 := Below.kp Bw7 kN Bw7.size (fun k hk => by omega)
    have sw8 := kN.size
    rw [hw8]
    clear hw8 kN Bw7
    have cP12 := P.cell 12 rfl
    have cO12 := O.cell 12 rfl
    have fO := O.frozen
    go_upto_region 8 with fail
    clear cP12 cO12
    clear fO
    obtain ⟨w9, hw9⟩ : ∃ w9_, (w8.setCell ⟨w.heap.size + 1 + 1, 12, none⟩ (.int .i64 t.wh)) = w9_ := ⟨_, rfl⟩
    have kN : Kp w8 w9 (fun k => k = w.heap.size + 1 + 1) := hw9 ▸ set_kp _ _ _ _
    replace O : Loc w9 (w.heap.size + 1 + 1) #[.int .i64 t.k, .int .i64 t.vw, .string t.bn, .int .i64 t.bv, .string t.bs, .slice ao1 xs.length ko1, .int .i64 t.pv, .string t.ps, .slice ao2 ys.length ko2, .int .i64 t.qv, .string t.qs, .slice ao3 zs.length ko3, .int .i64 t.wh, .int .i64 0, .int .i64 0, .int .i64 0, .int .i64 0] := hw9 ▸ (O.set 12 _ rfl)
    replace P := P.kp kN (by omega)
    replace R := R.kp kN (by omega)
    replace o1 := o1.kp kN (fun j hj e => by have := to1 j hj; omega)
    replace o2 := o2.kp kN (fun j hj e => by have := to2 j hj; omega)
    replace o3 := o3.kp kN (fun j hj e => by have := to3 j hj; omega)
    have Bw9 := Below.kp Bw8 kN Bw8.size (fun k hk => by omega)
    have sw9 := kN.size
    rw [hw9]
    clear hw9 kN Bw8
    as_aux_lemma =>
      have cP13 := P.cell 13 rfl
      have cP14 := P.cell 14 rfl
      have cP15 := P.cell 15 rfl
      have cP16 := P.cell 16 rfl
      go_wp2_with fail
      refine (unhide T4 _).mono ?_
      rintro _ w10 ⟨rfl, bb⟩
      clear cP13 cP14 cP15 cP16
      have Bw10 := Bw9.trans (bb.mono Bw9.size)
      have sw10 := bb.size
      replace P := P.below bb P.lt
      replace R := R.below bb R.lt
      replace O := O.below bb O.lt
      replace o1 := o1.below bb
      replace o2 := o2.below bb
      replace o3 := o3.below bb
      clear Bw9
      clear bb
      have cO13 := O.cell 13 rfl
      have cO14 := O.cell 14 rfl
      have cO15 := O.cell 15 rfl
      have cO16 := O.cell 16 rfl
      have fO := O.frozen
      go_upto_region 9 with fail
      clear cO13 cO14 cO15 cO16
      clear fO
      obtain ⟨w11, hw11⟩ : ∃ w9_, ((((w10.setCell ⟨w.heap.size + 1 + 1, 13, none⟩ (.int .i64 t.fr)).setCell ⟨w.heap.size + 1 + 1, 14, none⟩ (.int .i64 t.tu)).setCell ⟨w.heap.size + 1 + 1, 15, none⟩ (.int .i64 t.am)).setCell ⟨w.heap.size + 1 + 1, 16, none⟩ (.int .i64 t.no)) = w9_ := ⟨_, rfl⟩
      have kN : Kp w10 w11 (fun k => k = w.heap.size + 1 + 1) := hw11 ▸ (((set_kp _ _ _ _).trans (set_kp _ _ _ _)).trans (set_kp _ _ _ _)).trans (set_kp _ _ _ _)
      replace O : Loc w11 (w.heap.size + 1 + 1) #[.int .i64 t.k, .int .i64 t.vw, .string t.bn, .int .i64 t.bv, .string t.bs, .slice ao1 xs.length ko1, .int .i64 t.pv, .string t.ps, .slice ao2 ys.length ko2, .int .i64 t.qv, .string t.qs, .slice ao3 zs.length ko3, .int .i64 t.wh, .int .i64 t.fr, .int .i64 t.tu, .int .i64 t.am, .int .i64 t.no] := hw11 ▸ ((((O.set 13 _ rfl).set 14 _ rfl).set 15 _ rfl).set 16 _ rfl)
      replace P := P.kp kN (by omega)
      replace R := R.kp kN (by omega)
      replace o1 := o1.kp kN (fun j hj e => by have := to1 j hj; omega)
      replace o2 := o2.kp kN (fun j hj e => by have := to2 j hj; omega)
      replace o3 := o3.kp kN (fun j hj e => by have := to3 j hj; omega)
      have Bw11 := Below.kp Bw10 kN Bw10.size (fun k hk => by omega)
      have sw11 := kN.size
      rw [hw11]
      clear hw11 kN Bw10
      as_aux_lemma =>
        go_wp2_with (first | (refine wload O 40 _ rfl _ rfl rfl Tryd.underlying40 rfl (by kernel_rfl) ?_) | (refine wstore R 40 #[.int .i64 t.k, .int .i64 t.vw, .string t.bn, .int .i64 t.bv, .string t.bs, .slice ao1 xs.length ko1, .int .i64 t.pv, .string t.ps, .slice ao2 ys.length ko2, .int .i64 t.qv, .string t.qs, .slice ao3 zs.length ko3, .int .i64 t.wh, .int .i64 t.fr, .int .i64 t.tu, .int .i64 t.am, .int .i64 t.no] rfl _ _ rfl rfl rfl (by kernel_rfl) rfl (by simp [Value.oneCell']) ?_))
        obtain ⟨wE, hwE⟩ : ∃ w9_, w11.setRow (w.heap.size + 1) #[.int .i64 t.k, .int .i64 t.vw, .string t.bn, .int .i64 t.bv, .string t.bs, .slice ao1 xs.length ko1, .int .i64 t.pv, .string t.ps, .slice ao2 ys.length ko2, .int .i64 t.qv, .string t.qs, .slice ao3 zs.length ko3, .int .i64 t.wh, .int .i64 t.fr, .int .i64 t.tu, .int .i64 t.am, .int .i64 t.no] = w9_ := ⟨_, rfl⟩
        have kN : Kp w11 wE (fun k => k = w.heap.size + 1) := hwE ▸ row_kp _ _ _
        replace R : Loc wE (w.heap.size + 1) #[.int .i64 t.k, .int .i64 t.vw, .string t.bn, .int .i64 t.bv, .string t.bs, .slice ao1 xs.length ko1, .int .i64 t.pv, .string t.ps, .slice ao2 ys.length ko2, .int .i64 t.qv, .string t.qs, .slice ao3 zs.length ko3, .int .i64 t.wh, .int .i64 t.fr, .int .i64 t.tu, .int .i64 t.am, .int .i64 t.no] := hwE ▸ R.row
        replace P := P.kp kN (by omega)
        replace O := O.kp kN (by omega)
        replace o1 := o1.kp kN (fun j hj e => by have := to1 j hj; omega)
        replace o2 := o2.kp kN (fun j hj e => by have := to2 j hj; omega)
        replace o3 := o3.kp kN (fun j hj e => by have := to3 j hj; omega)
        have BwE := Below.kp Bw11 kN Bw11.size (fun k hk => by omega)
        have swE := kN.size
        rw [hwE]
        clear hwE kN Bw11
        refine bodyPost_ret (v := mgv t (.slice ao1 xs.length ko1) (.slice ao2 ys.length ko2) (.slice ao3 zs.length ko3)) (res_row Tryd.results6 _ R rfl Tryd.underlying40 rfl (by kernel_rfl)) rfl ?_
        exact ⟨_, _, _, rfl, ⟨w3.heap.size, w5.heap.size, o1.mono (by omega), fun j hj => (to1 j hj).2, o2.mono (by omega), fun j hj => (to2 j hj).2, o3.mono (by omega), by omega, by omega⟩, BwE⟩
end Go.Proofs.YtihaecmlfmfbfaaDoor
