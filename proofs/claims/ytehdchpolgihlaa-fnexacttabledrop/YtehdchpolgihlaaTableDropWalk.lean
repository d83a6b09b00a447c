/- TableDropWalk: the walk of laws.FnExactTableDrop, over what the program's TableDrop answers. -/
import Derived.Test.YtehdchpolgihlaaPartGet
import Derived.Test.YtehdchpolgihlaaPartSum
import Derived.Deep.DeepCutAuto
namespace Go.Proofs.Ytehdchpolgihlaa
open Go.RowKit
set_option linter.unusedSectionVars false
variable [∀ (a b c d : Int), Decidable (Ok4 a b c d)]
variable [∀ (n f : Int), Decidable (COk n f)]

theorem whos_drop (ps : List Pt) (v : Int) : whos (dropP ps v) ≤ whos ps ∧ (dropP ps v).length ≤ ps.length := by
  refine ⟨?_, List.length_filter_le _ _⟩
  induction ps with
  | nil => simp [dropP, whos]
  | cons p ps ih =>
    unfold dropP at *
    rw [List.filter_cons]
    split
    · simp only [whos]; omega
    · simp only [whos]; omega

set_option maxHeartbeats 8000000 in
set_option maxRecDepth 100000 in
theorem fnTableDrop_short (IM0 : ∀ (v : Value) (ps : List Pt) (view : Int) (w : World), ps.length ≤ 1048576 → (∀ p ∈ ps, p.2.1.size ≤ 1048576 ∧ p.2.2.length ≤ 1048576) → RPt w v ps → Calls Try.prog 8 #[v, .int .i64 view] w fun e w' => ∃ u, e = .returned u ∧ OPt w' w.heap.size u (dropP ps view) ∧ Below w.heap.size w w')
    (al : Option Addr) (cl : Nat) (rs : List Pr) (view : Int) (w : World) (h : ATab w al rs) (ha : ∀ r ∈ rs, AIW w r.2.2.1 r.2.2.2.2) (hs : rs.length + psum rs ≤ 1048576) :
    Calls Try.prog 5 #[.slice al rs.length cl, .int .i64 view] w fun e w' => e = .returned (.bool true) ∧ Below w.heap.size w w' := by
  have RA := hide fun w' (hb : Below w.heap.size w w') => (ATab.rpt (ca := cl) h ha (fun r hr => by have := psum_each hr; omega)).below hb (Nat.le_refl _)
  have HA := hide fun w' (hb : Below w.heap.size w w') => h.below hb
  have ZA := hide fun w h => szPartS_yes al cl rs 1048576 w h (by omega) (by omega)
  have hpm : ∀ p ∈ rs.map prp, p.2.1.size ≤ 1048576 ∧ p.2.2.length ≤ 1048576 := fun p hp => by have := prp_mem hp; omega
  have hpl : (rs.map prp).length = rs.length := by simp
  have hd0 : decide ((1048576 : Int) - (rs.length : Int) - (psum rs : Int) < 0) = false := by simp; omega
  obtain ⟨len, hlen⟩ : ∃ l, rs.length = l := ⟨_, rfl⟩
  rw [hlen] at hpl RA ZA hd0 hs ⊢
  have hps := pend_sum 1 (rs.map prp)
  have hpw := whos_le rs
  generalize psum rs = sm at *
  generalize rs.map prp = ps at *
  have hw : ∀ p ∈ ps, p.2.2.length ≤ 4194304 := fun p hp => by have := hpm p hp; omega
  have TP := hide fun w h => toPartS_any (.slice al len cl) ps w (by omega) h
  have EQ := hide fun v u w h h' => eqPartS_yes v u ps w (by omega) h h'
  have SP := hide fun v w h => specTableDrop v ps view w (by omega) h
  have IM := hide fun v w h => IM0 v ps view w (by omega) hpm h
  have hrl : ∀ q ∈ dropP ps view, q.2.2.length ≤ 4194304 := fun q hq => hw q (List.mem_filter.1 hq).1
  have hrn := (whos_drop ps view).2
  have hrw := (whos_drop ps view).1
  have hrp := pend_sum 1 (dropP ps view)
  generalize dropP ps view = rl at *
  have hpe : pend 1 ps ≤ 5000000 := by omega
  have hre : pend 1 rl ≤ 9000000 := by omega
  clear hps hrp hrw hpw
  have ER := hide fun v u w h h' => eqPartS_yes v u rl w (by omega) h h'
  have Bw := Below.refl w.heap.size w
  clear h ha IM0 hlen
  go_enter Try.func5, Try.ntmps5
  go_wp2_with fail
  refine (unhide ZA _ (unhide HA _ Bw)).mono ?_
  rintro _ w1 ⟨rfl, bb⟩
  have Bw1 := Bw.trans (bb.mono Bw.size)
  have sw1 := bb.size
  clear Bw
  clear bb
  clear ZA HA
  go_wp2_with fail
  refine (unhide TP _ (unhide RA _ Bw1)).mono ?_
  rintro _ w2 ⟨v1, rfl, o1, bb⟩
  have Bw2 := Bw1.trans (bb.mono Bw1.size)
  have sw2 := bb.size
  clear Bw1
  clear bb
  obtain ⟨a1, k1, rfl⟩ := OPt.form o1
  rw [hpl] at o1 ⊢
  go_wp2_with fail
  refine (unhide SP _ _ (o1.rpt hw)).mono ?_
  rintro _ w3 ⟨tW, rfl, oW, bb⟩
  have Bw3 := Bw2.trans (bb.mono Bw2.size)
  have sw3 := bb.size
  clear Bw2
  clear bb
  clear o1 SP
  obtain ⟨vsoW, oW⟩ := oW
  obtain ⟨aoW, koW, rfl⟩ := OPt.form ⟨_, oW⟩
  replace oW := oW.opr
  go_wp2_with fail
  refine (unhide TP _ (unhide RA _ Bw3)).mono ?_
  rintro _ w4 ⟨v2, rfl, oX, bb⟩
  have Bw4 := Bw3.trans (bb.mono Bw3.size)
  have sw4 := bb.size
  replace oW := oW.below bb
  clear Bw3
  clear bb
  obtain ⟨vsoX, oX⟩ := oX
  obtain ⟨aoX, koX, rfl⟩ := OPt.form ⟨_, oX⟩
  replace oX := oX.opr
  rw [hpl] at oX ⊢
  go_wp2_with fail
  refine (unhide IM _ _ (oX.rpt hw)).mono ?_
  rintro _ w5 ⟨tG, rfl, oG, bb⟩
  have Bw5 := Bw4.trans (bb.mono Bw4.size)
  have sw5 := bb.size
  replace oW := oW.below bb
  replace oX := oX.below bb
  clear Bw4
  clear bb
  obtain ⟨vsoG, oG⟩ := oG
  obtain ⟨aoG, koG, rfl⟩ := OPt.form ⟨_, oG⟩
  replace oG := oG.opr
  go_wp2_with fail
  refine (unhide ER _ _ _ (oG.rpt hrl) (oW.rpt hrl)).mono ?_
  rintro _ w6 ⟨rfl, bb⟩
  have Bw6 := Bw5.trans (bb.mono Bw5.size)
  have sw6 := bb.size
  replace oW := oW.below bb
  replace oX := oX.below bb
  replace oG := oG.below bb
  clear Bw5
  clear bb
  go_wp2_with fail
  refine (unhide TP _ (unhide RA _ Bw6)).mono ?_
  rintro _ w7 ⟨v3, rfl, oY, bb⟩
  have Bw7 := Bw6.trans (bb.mono Bw6.size)
  have sw7 := bb.size
  replace oW := oW.below bb
  replace oX := oX.below bb
  replace oG := oG.below bb
  clear Bw6
  clear bb
  obtain ⟨aY, kY, rfl⟩ := OPt.form oY
  rw [hpl] at oY ⊢
  go_wp2_with fail
  refine (unhide EQ _ _ _ (oX.rpt hw) (oY.rpt hw)).mono ?_
  rintro _ w8 ⟨rfl, bb⟩
  have Bw8 := Bw7.trans (bb.mono Bw7.size)
  have sw8 := bb.size
  replace oW := oW.below bb
  replace oX := oX.below bb
  replace oG := oG.below bb
  clear Bw7
  clear bb
  clear oY EQ
  have hkk : decide (((pend 1 ps : Nat) : Int) < 0) = false := by simp
  go_wp2_with fail
  refine (markPartS_any _ _ _ ps _ 1 _ (by omega) hw (by omega) oX).mono ?_
  rintro _ w9 ⟨rfl, om, k1⟩
  clear oX
  have Bw9 := Below.kp Bw8 k1 Bw8.size (fun k hk => by omega)
  have sw9 := k1.size
  replace oW := oW.kp k1 (fun j h1 h2 h3 => by omega)
  replace oG := oG.kp k1 (fun j h1 h2 h3 => by omega)
  clear Bw8 k1
  clear om
  go_wp2_with fail
  refine (unhide ER _ _ _ (oG.rpt hrl) (oW.rpt hrl)).mono ?_
  rintro _ w10 ⟨rfl, bb⟩
  have Bw10 := Bw9.trans (bb.mono Bw9.size)
  have sw10 := bb.size
  replace oW := oW.below bb
  replace oG := oG.below bb
  clear Bw9
  clear bb
  go_wp2_with fail
  refine (markPartS_any _ _ _ rl _ 1 _ (by omega) hrl (by omega) oG).mono ?_
  rintro _ w11 ⟨rfl, om, k3⟩
  clear oG
  have Bw11 := Below.kp Bw10 k3 Bw10.size (fun k hk => by omega)
  have sw11 := k3.size
  replace oW := oW.kp k3 (fun j h1 h2 h3 => by omega)
  clear Bw10 k3
  have oG := om
  clear om
  have hrm := pmk_small 1 rl hrl
  have hkm : decide (((pend 1 rl : Nat) : Int) < 0) = false := by simp
  go_wp2_with fail
  refine (heldPartS_any _ rl 1 _ (by omega) (by omega) (oG.rpt hrm)).mono ?_
  rintro _ w12 ⟨rfl, bb⟩
  have Bw12 := Bw11.trans (bb.mono Bw11.size)
  have sw12 := bb.size
  replace oW := oW.below bb
  replace oG := oG.below bb
  clear Bw11
  clear bb
  go_wp2_with fail
  refine (unhide TP _ (unhide RA _ Bw12)).mono ?_
  rintro _ w13 ⟨v5, rfl, o5, bb⟩
  have Bw13 := Bw12.trans (bb.mono Bw12.size)
  have sw13 := bb.size
  replace oW := oW.below bb
  replace oG := oG.below bb
  clear Bw12
  clear bb
  obtain ⟨a5, k5, rfl⟩ := OPt.form o5
  rw [hpl] at o5 ⊢
  go_wp2_with fail
  refine (unhide IM _ _ (o5.rpt hw)).mono ?_
  rintro _ w14 ⟨tH, rfl, oH, bb⟩
  have Bw14 := Bw13.trans (bb.mono Bw13.size)
  have sw14 := bb.size
  replace oW := oW.below bb
  replace oG := oG.below bb
  clear Bw13
  clear bb
  clear o5
  obtain ⟨aH, kH, rfl⟩ := OPt.form oH
  go_wp2_with fail
  refine (unhide ER _ _ _ (oH.rpt hrl) (oW.rpt hrl)).mono ?_
  rintro _ w15 ⟨rfl, bb⟩
  have Bw15 := Bw14.trans (bb.mono Bw14.size)
  have sw15 := bb.size
  replace oW := oW.below bb
  replace oG := oG.below bb
  clear Bw14
  clear bb
  clear oH
  go_wp2_with fail
  refine (heldPartS_any _ rl 1 _ (by omega) (by omega) (oG.rpt hrm)).mono ?_
  rintro _ w16 ⟨rfl, bb⟩
  have Bw16 := Bw15.trans (bb.mono Bw15.size)
  have sw16 := bb.size
  replace oW := oW.below bb
  replace oG := oG.below bb
  clear Bw15
  clear bb
  go_wp2
  go_ret
  exact ⟨rfl, Bw16⟩
end Go.Proofs.Ytehdchpolgihlaa
