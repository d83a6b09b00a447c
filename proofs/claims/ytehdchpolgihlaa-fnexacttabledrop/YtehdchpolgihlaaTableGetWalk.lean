/- TableGetWalk: the walk of laws.FnExactTableGet, over what the program's TableGet answers. -/
import Derived.Test.YtehdchpolgihlaaPartGet
import Derived.Test.YtehdchpolgihlaaPartSum
import Derived.Deep.DeepCutAuto
namespace Go.Proofs.Ytehdchpolgihlaa
open Go.RowKit
set_option linter.unusedSectionVars false
variable [∀ (a b c d : Int), Decidable (Ok4 a b c d)]
variable [∀ (n f : Int), Decidable (COk n f)]

theorem get_small (ps : List Pt) (v : Int) (s : ByteArray) (h : ∀ p ∈ ps, p.2.2.length ≤ 4194304) : (getP ps v s).2.2.length ≤ 4194304 := by
  unfold getP
  cases e : ps.find? (fun x => decide (x.1 = v) && (x.2.1.toList == s.toList)) with
  | none => simp
  | some p => exact h p (List.mem_of_find?_eq_some e)

set_option maxHeartbeats 8000000 in
set_option maxRecDepth 100000 in
theorem fnTableGet_short (IM0 : ∀ (v : Value) (ps : List Pt) (view : Int) (name : ByteArray) (w : World), ps.length ≤ 1048576 → name.size ≤ 1048576 → (∀ p ∈ ps, p.2.1.size ≤ 1048576 ∧ p.2.2.length ≤ 1048576) → RPt w v ps → Calls Try.prog 15 #[v, .int .i64 view, .string name] w fun e w' => ∃ u, e = .returned (qv (getP ps view name).1 (getP ps view name).2.1 u) ∧ OI w' w.heap.size u (getP ps view name).2.2 ∧ Below w.heap.size w w')
    (al : Option Addr) (cl : Nat) (rs : List Pr) (view : Int) (name : ByteArray) (w : World) (h : ATab w al rs) (ha : ∀ r ∈ rs, AIW w r.2.2.1 r.2.2.2.2) (hs : rs.length + psum rs ≤ 1048576) (hnm : name.size ≤ 1048576) :
    Calls Try.prog 4 #[.slice al rs.length cl, .int .i64 view, .string name] w fun e w' => e = .returned (.bool true) ∧ Below w.heap.size w w' := by
  have RA := hide fun w' (hb : Below w.heap.size w w') => (ATab.rpt (ca := cl) h ha (fun r hr => by have := psum_each hr; omega)).below hb (Nat.le_refl _)
  have HA := hide fun w' (hb : Below w.heap.size w w') => h.below hb
  have ZA := hide fun w h => szPartS_yes al cl rs 1048576 w h (by omega) (by omega)
  have hpm : ∀ p ∈ rs.map prp, p.2.1.size ≤ 1048576 ∧ p.2.2.length ≤ 1048576 := fun p hp => by have := prp_mem hp; omega
  have hpl : (rs.map prp).length = rs.length := by simp
  have hd0 : decide ((1048576 : Int) - (rs.length : Int) - (psum rs : Int) < 0) = false := by simp; omega
  obtain ⟨len, hlen⟩ : ∃ l, rs.length = l := ⟨_, rfl⟩
  rw [hlen] at hpl RA ZA hd0 hs ⊢
  have hps := pend_sum 1 (rs.map prp)
  have hpw := whos_le rs
  generalize psum rs = sm at *
  generalize rs.map prp = ps at *
  have hw : ∀ p ∈ ps, p.2.2.length ≤ 4194304 := fun p hp => by have := hpm p hp; omega
  have TP := hide fun w h => toPartS_any (.slice al len cl) ps w (by omega) h
  have EQ := hide fun v u w h h' => eqPartS_yes v u ps w (by omega) h h'
  have SP := hide fun v w h => specTableGet v ps view name w (by omega) h
  have IM := hide fun v w h => IM0 v ps view name w (by omega) hnm hpm h
  have hgw := get_small ps view name hw
  obtain ⟨g3, hg3⟩ : ∃ g, getP ps view name = g := ⟨_, rfl⟩
  rw [hg3] at SP IM hgw
  clear hg3
  obtain ⟨gm, gs, gw⟩ := g3
  simp only at SP IM hgw
  obtain ⟨gl, hgl⟩ : ∃ l, gw.length = l := ⟨_, rfl⟩
  have hgw2 : gl ≤ 4194304 := by omega
  have EP := hide fun u v w h h' => eqPart_yes gm gs u v gw w h h'
  have hpe : pend 1 ps ≤ 5000000 := by omega
  have hdn : decide ((1048576 : Int) < (name.size : Int)) = false := by simp; omega
  clear hps hpw
  have Bw := Below.refl w.heap.size w
  clear h ha IM0 hlen
  go_enter Try.func4, Try.ntmps4
  go_wp2_with fail
  refine (unhide ZA _ (unhide HA _ Bw)).mono ?_
  rintro _ w1 ⟨rfl, bb⟩
  have Bw1 := Bw.trans (bb.mono Bw.size)
  have sw1 := bb.size
  clear Bw
  clear bb
  clear ZA HA
  go_wp2_with fail
  refine (unhide TP _ (unhide RA _ Bw1)).mono ?_
  rintro _ w2 ⟨v1, rfl, o1, bb⟩
  have Bw2 := Bw1.trans (bb.mono Bw1.size)
  have sw2 := bb.size
  clear Bw1
  clear bb
  obtain ⟨a1, k1, rfl⟩ := OPt.form o1
  rw [hpl] at o1 ⊢
  go_wp2_with fail
  refine (unhide SP _ _ (o1.rpt hw)).mono ?_
  rintro _ w3 ⟨uW, rfl, oW, bb⟩
  have Bw3 := Bw2.trans (bb.mono Bw2.size)
  have sw3 := bb.size
  clear Bw2
  clear bb
  clear o1 SP
  have toW := World.ownsRow.lt oW
  obtain ⟨aoW, koW, rfl⟩ := oW.form
  rw [hgl] at oW toW ⊢
  obtain ⟨w4, hw4⟩ : ∃ x, w3.alloc (.cells #[.int .i64 gm, .string gs, .slice aoW gl koW] 31) = x := ⟨_, rfl⟩
  have bb : Below w3.heap.size w3 w4 := hw4 ▸ qalloc _ _
  have LW : Loc w4 w3.heap.size #[.int .i64 gm, .string gs, .slice aoW gl koW] := hw4 ▸ loc_at w3 _ _ rfl
  have zw4 : w4.heap.size = w3.heap.size + 1 := by rw [← hw4]; simp
  have Bw4 := Bw3.trans (bb.mono Bw3.size)
  have sw4 := bb.size
  replace oW := oW.below bb
  clear Bw3
  clear bb
  go_wp2_with fail
  clear hw4
  refine (unhide TP _ (unhide RA _ Bw4)).mono ?_
  rintro _ w5 ⟨v2, rfl, oX, bb⟩
  have Bw5 := Bw4.trans (bb.mono Bw4.size)
  have sw5 := bb.size
  replace LW := LW.below bb LW.lt
  replace oW := oW.below bb
  clear Bw4
  clear bb
  obtain ⟨vsoX, oX⟩ := oX
  obtain ⟨aoX, koX, rfl⟩ := OPt.form ⟨_, oX⟩
  replace oX := oX.opr
  rw [hpl] at oX ⊢
  go_wp2_with fail
  refine (unhide IM _ _ (oX.rpt hw)).mono ?_
  rintro _ w6 ⟨uG, rfl, oG, bb⟩
  have Bw6 := Bw5.trans (bb.mono Bw5.size)
  have sw6 := bb.size
  replace LW := LW.below bb LW.lt
  replace oW := oW.below bb
  replace oX := oX.below bb
  clear Bw5
  clear bb
  have toG := World.ownsRow.lt oG
  obtain ⟨aoG, koG, rfl⟩ := oG.form
  rw [hgl] at oG toG ⊢
  obtain ⟨w7, hw7⟩ : ∃ x, w6.alloc (.cells #[.int .i64 gm, .string gs, .slice aoG gl koG] 31) = x := ⟨_, rfl⟩
  have bb : Below w6.heap.size w6 w7 := hw7 ▸ qalloc _ _
  have LG : Loc w7 w6.heap.size #[.int .i64 gm, .string gs, .slice aoG gl koG] := hw7 ▸ loc_at w6 _ _ rfl
  have zw7 : w7.heap.size = w6.heap.size + 1 := by rw [← hw7]; simp
  have Bw7 := Bw6.trans (bb.mono Bw6.size)
  have sw7 := bb.size
  replace LW := LW.below bb LW.lt
  replace oW := oW.below bb
  replace oX := oX.below bb
  replace oG := oG.below bb
  clear Bw6
  clear bb
  have cLG0 := LG.cell 0 rfl
  have cLG1 := LG.cell 1 rfl
  have cLG2 := LG.cell 2 rfl
  have cLW0 := LW.cell 0 rfl
  have cLW1 := LW.cell 1 rfl
  have cLW2 := LW.cell 2 rfl
  go_wp2_with fail
  clear hw7
  refine (unhide EP _ _ _ (oG.ri (by omega)) (oW.ri (by omega))).mono ?_
  rintro _ w8 ⟨rfl, bb⟩
  clear cLG0 cLG1 cLG2 cLW0 cLW1 cLW2
  have Bw8 := Bw7.trans (bb.mono Bw7.size)
  have sw8 := bb.size
  replace LW := LW.below bb LW.lt
  replace LG := LG.below bb LG.lt
  replace oW := oW.below bb
  replace oX := oX.below bb
  replace oG := oG.below bb
  clear Bw7
  clear bb
  go_wp2_with fail
  refine (unhide TP _ (unhide RA _ Bw8)).mono ?_
  rintro _ w9 ⟨v3, rfl, oY, bb⟩
  have Bw9 := Bw8.trans (bb.mono Bw8.size)
  have sw9 := bb.size
  replace LW := LW.below bb LW.lt
  replace LG := LG.below bb LG.lt
  replace oW := oW.below bb
  replace oX := oX.below bb
  replace oG := oG.below bb
  clear Bw8
  clear bb
  obtain ⟨aY, kY, rfl⟩ := OPt.form oY
  rw [hpl] at oY ⊢
  go_wp2_with fail
  refine (unhide EQ _ _ _ (oX.rpt hw) (oY.rpt hw)).mono ?_
  rintro _ w10 ⟨rfl, bb⟩
  have Bw10 := Bw9.trans (bb.mono Bw9.size)
  have sw10 := bb.size
  replace LW := LW.below bb LW.lt
  replace LG := LG.below bb LG.lt
  replace oW := oW.below bb
  replace oX := oX.below bb
  replace oG := oG.below bb
  clear Bw9
  clear bb
  clear oY EQ
  have hkk : decide (((pend 1 ps : Nat) : Int) < 0) = false := by simp
  go_wp2_with fail
  refine (markPartS_any _ _ _ ps _ 1 _ (by omega) hw (by omega) oX).mono ?_
  rintro _ w11 ⟨rfl, om, k1⟩
  clear oX
  have Bw11 := Below.kp Bw10 k1 Bw10.size (fun k hk => by omega)
  have sw11 := k1.size
  replace LW := LW.kp k1 (fun h => by omega)
  replace LG := LG.kp k1 (fun h => by omega)
  replace oW := oW.kp k1 (fun j hj h => by have := toW j hj; omega)
  replace oG := oG.kp k1 (fun j hj h => by have := toG j hj; omega)
  clear Bw10 k1
  clear om
  have cLG0 := LG.cell 0 rfl
  have cLG1 := LG.cell 1 rfl
  have cLG2 := LG.cell 2 rfl
  have cLW0 := LW.cell 0 rfl
  have cLW1 := LW.cell 1 rfl
  have cLW2 := LW.cell 2 rfl
  go_wp2_with fail
  refine (unhide EP _ _ _ (oG.ri (by omega)) (oW.ri (by omega))).mono ?_
  rintro _ w12 ⟨rfl, bb⟩
  clear cLG0 cLG1 cLG2 cLW0 cLW1 cLW2
  have Bw12 := Bw11.trans (bb.mono Bw11.size)
  have sw12 := bb.size
  replace LW := LW.below bb LW.lt
  replace LG := LG.below bb LG.lt
  replace oW := oW.below bb
  replace oG := oG.below bb
  clear Bw11
  clear bb
  have cLG0 := LG.cell 0 rfl
  have cLG1 := LG.cell 1 rfl
  have cLG2 := LG.cell 2 rfl
  go_wp2_with fail
  refine (markPart_any gm gs _ _ gw 1 _ (by omega) (by omega) oG).mono ?_
  rintro _ w13 ⟨rfl, om, k3⟩
  rw [hgl] at om ⊢
  clear oG
  clear cLG0 cLG1 cLG2
  have Bw13 := Below.kp Bw12 k3 Bw12.size (fun k hk => by have := toG k hk; omega)
  have sw13 := k3.size
  replace LW := LW.kp k3 (fun h => by have := toG _ h; omega)
  replace LG := LG.kp k3 (fun h => by have := toG _ h; omega)
  replace oW := oW.kp k3 (fun j hj h => by have := toW j hj; have := toG j h; omega)
  clear Bw12 k3
  have oG := om
  clear om
  have hkm : decide ((1 : Int) + (gl : Int) < 0) = false := by simp; omega
  have hgi : (imarks 1 gl).length ≤ 4194304 := by rw [imarks_len]; omega
  have cLG0 := LG.cell 0 rfl
  have cLG1 := LG.cell 1 rfl
  have cLG2 := LG.cell 2 rfl
  go_wp2_with fail
  refine (heldPart_any gm gs _ gl _ (oG.ri hgi)).mono ?_
  rintro _ w14 ⟨rfl, bb⟩
  clear cLG0 cLG1 cLG2
  have Bw14 := Bw13.trans (bb.mono Bw13.size)
  have sw14 := bb.size
  replace LW := LW.below bb LW.lt
  replace LG := LG.below bb LG.lt
  replace oW := oW.below bb
  replace oG := oG.below bb
  clear Bw13
  clear bb
  go_wp2_with fail
  refine (unhide TP _ (unhide RA _ Bw14)).mono ?_
  rintro _ w15 ⟨v5, rfl, o5, bb⟩
  have Bw15 := Bw14.trans (bb.mono Bw14.size)
  have sw15 := bb.size
  replace LW := LW.below bb LW.lt
  replace LG := LG.below bb LG.lt
  replace oW := oW.below bb
  replace oG := oG.below bb
  clear Bw14
  clear bb
  obtain ⟨a5, k5, rfl⟩ := OPt.form o5
  rw [hpl] at o5 ⊢
  go_wp2_with fail
  refine (unhide IM _ _ (o5.rpt hw)).mono ?_
  rintro _ w16 ⟨uH, rfl, oH, bb⟩
  have Bw16 := Bw15.trans (bb.mono Bw15.size)
  have sw16 := bb.size
  replace LW := LW.below bb LW.lt
  replace LG := LG.below bb LG.lt
  replace oW := oW.below bb
  replace oG := oG.below bb
  clear Bw15
  clear bb
  clear o5
  have toH := World.ownsRow.lt oH
  obtain ⟨aoH, koH, rfl⟩ := oH.form
  rw [hgl] at oH toH ⊢
  obtain ⟨w17, hw17⟩ : ∃ x, w16.alloc (.cells #[.int .i64 gm, .string gs, .slice aoH gl koH] 31) = x := ⟨_, rfl⟩
  have bb : Below w16.heap.size w16 w17 := hw17 ▸ qalloc _ _
  have LH : Loc w17 w16.heap.size #[.int .i64 gm, .string gs, .slice aoH gl koH] := hw17 ▸ loc_at w16 _ _ rfl
  have zw17 : w17.heap.size = w16.heap.size + 1 := by rw [← hw17]; simp
  have Bw17 := Bw16.trans (bb.mono Bw16.size)
  have sw17 := bb.size
  replace LW := LW.below bb LW.lt
  replace LG := LG.below bb LG.lt
  replace oW := oW.below bb
  replace oG := oG.below bb
  replace oH := oH.below bb
  clear Bw16
  clear bb
  have cLH0 := LH.cell 0 rfl
  have cLH1 := LH.cell 1 rfl
  have cLH2 := LH.cell 2 rfl
  have cLW0 := LW.cell 0 rfl
  have cLW1 := LW.cell 1 rfl
  have cLW2 := LW.cell 2 rfl
  go_wp2_with fail
  clear hw17
  refine (unhide EP _ _ _ (oH.ri (by omega)) (oW.ri (by omega))).mono ?_
  rintro _ w18 ⟨rfl, bb⟩
  clear cLH0 cLH1 cLH2 cLW0 cLW1 cLW2
  have Bw18 := Bw17.trans (bb.mono Bw17.size)
  have sw18 := bb.size
  replace LW := LW.below bb LW.lt
  replace LG := LG.below bb LG.lt
  replace LH := LH.below bb LH.lt
  replace oW := oW.below bb
  replace oG := oG.below bb
  replace oH := oH.below bb
  clear Bw17
  clear bb
  have cLG0 := LG.cell 0 rfl
  have cLG1 := LG.cell 1 rfl
  have cLG2 := LG.cell 2 rfl
  go_wp2_with fail
  refine (heldPart_any gm gs _ gl _ (oG.ri hgi)).mono ?_
  rintro _ w19 ⟨rfl, bb⟩
  clear cLG0 cLG1 cLG2
  have Bw19 := Bw18.trans (bb.mono Bw18.size)
  have sw19 := bb.size
  replace LW := LW.below bb LW.lt
  replace LG := LG.below bb LG.lt
  replace LH := LH.below bb LH.lt
  replace oW := oW.below bb
  replace oG := oG.below bb
  replace oH := oH.below bb
  clear Bw18
  clear bb
  go_wp2
  go_ret
  exact ⟨rfl, Bw19⟩
end Go.Proofs.Ytehdchpolgihlaa
