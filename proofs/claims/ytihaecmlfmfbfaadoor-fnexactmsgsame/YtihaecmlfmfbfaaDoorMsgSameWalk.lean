/- The walk of laws.FnExactMsgSame. -/
import Derived.Test.YtihaecmlfmfbfaaDoorMsgSameI
import Derived.Test.YtihaecmlfmfbfaaDoorMsgTo
import Derived.Test.YtihaecmlfmfbfaaDoorMsgOwn
import Derived.Test.YtihaecmlfmfbfaaDoorMsgLong
namespace Go.Proofs.YtihaecmlfmfbfaaDoor
open Go.RowKit
set_option linter.unusedSectionVars false
variable [∀ (a b c d : Int), Decidable (Ok4 a b c d)]
variable [∀ (n f : Int), Decidable (COk n f)]

set_option maxHeartbeats 16000000 in
set_option maxRecDepth 100000 in
theorem fnMsgSame_short (t t' : MT) (ao bo co ao' bo' co' : Option Addr) (ca cb cc ca' cb' cc' : Nat) (w : World) (hz : (t.bn.size : Int) + t.bs.size + t.bw.length + t.ps.size + t.pw.length + t.qs.size + t.qw.length + t'.bn.size + t'.bs.size + t'.bw.length + t'.ps.size + t'.pw.length + t'.qs.size + t'.qw.length ≤ 1048576) (hm : MI t) (hm' : MI t') (hP : Pow w) (ha : RI w (.slice ao t.bw.length ca) t.bw) (hb : RI w (.slice bo t.pw.length cb) t.pw) (hc : RI w (.slice co t.qw.length cc) t.qw) (ha' : RI w (.slice ao' t'.bw.length ca') t'.bw) (hb' : RI w (.slice bo' t'.pw.length cb') t'.pw) (hc' : RI w (.slice co' t'.qw.length cc') t'.qw) :
    Calls Tryd.prog 3 #[mgv t (.slice ao t.bw.length ca) (.slice bo t.pw.length cb) (.slice co t.qw.length cc), mgv t' (.slice ao' t'.bw.length ca') (.slice bo' t'.pw.length cb') (.slice co' t'.qw.length cc')] w fun e w' => e = .returned (.bool true) ∧ Below w.heap.size w w' := by
  have HA := hide ha
  have HB := hide hb
  have HC := hide hc
  have HA' := hide ha'
  have HB' := hide hb'
  have HC' := hide hc'
  have HP := hide hP
  have ZA := hide fun w => szMsg_yes t ao bo co t.bw.length ca t.pw.length cb t.qw.length cc 1048576 w (by omega) (by omega)
  have ZB := hide fun w => szMsg_yes t' ao' bo' co' t'.bw.length ca' t'.pw.length cb' t'.qw.length cc' (1048576 - t.bn.size - t.bs.size - t.bw.length - t.ps.size - t.pw.length - t.qs.size - t.qw.length) w (by omega) (by omega)
  have TA := hide fun w h1 h2 h3 => toMsg_any t (.slice ao t.bw.length ca) (.slice bo t.pw.length cb) (.slice co t.qw.length cc) t.bw t.pw t.qw w h1 h2 h3
  have TB := hide fun w h1 h2 h3 => toMsg_any t' (.slice ao' t'.bw.length ca') (.slice bo' t'.pw.length cb') (.slice co' t'.qw.length cc') t'.bw t'.pw t'.qw w h1 h2 h3
  have d1 : decide ((1048576 : Int) - t.bn.size - t.bs.size - t.bw.length - t.ps.size - t.pw.length - t.qs.size - t.qw.length < 0) = false := by simp; omega
  have d2 : decide ((1048576 : Int) - t.bn.size - t.bs.size - t.bw.length - t.ps.size - t.pw.length - t.qs.size - t.qw.length - t'.bn.size - t'.bs.size - t'.bw.length - t'.ps.size - t'.pw.length - t'.qs.size - t'.qw.length < 0) = false := by simp; omega
  have SP := hide fun a b c a' b' c' k l m k' l' m' w h1 h2 h3 h4 h5 h6 => specMsgSame t t' a b c a' b' c' k l m k' l' m' w h1 h2 h3 h4 h5 h6
  have IM := hide fun a b c a' b' c' k l m k' l' m' w p h1 h2 h3 h4 h5 h6 => implMsgSame t t' a b c a' b' c' k l m k' l' m' w hm hm' p h1 h2 h3 h4 h5 h6
  have lx : t.bw.length ≤ 4194304 ∧ t.pw.length ≤ 4194304 ∧ t.qw.length ≤ 4194304 := ⟨by omega, by omega, by omega⟩
  have ly : t'.bw.length ≤ 4194304 ∧ t'.pw.length ≤ 4194304 ∧ t'.qw.length ≤ 4194304 := ⟨by omega, by omega, by omega⟩
  generalize msamB t t' = q at *
  have hq : (q != q) = false := by simp
  have lx := hide lx
  have ly := hide ly
  clear ha hb hc ha' hb' hc' hP hm hm' hz
  obtain ⟨w0, hw0⟩ : ∃ w0, ((w.alloc (.cells #[.int .i64 t.k, .int .i64 t.vw, .string t.bn, .int .i64 t.bv, .string t.bs, .slice ao t.bw.length ca, .int .i64 t.pv, .string t.ps, .slice bo t.pw.length cb, .int .i64 t.qv, .string t.qs, .slice co t.qw.length cc, .int .i64 t.wh, .int .i64 t.fr, .int .i64 t.tu, .int .i64 t.am, .int .i64 t.no] 31)).alloc (.cells #[.int .i64 t'.k, .int .i64 t'.vw, .string t'.bn, .int .i64 t'.bv, .string t'.bs, .slice ao' t'.bw.length ca', .int .i64 t'.pv, .string t'.ps, .slice bo' t'.pw.length cb', .int .i64 t'.qv, .string t'.qs, .slice co' t'.qw.length cc', .int .i64 t'.wh, .int .i64 t'.fr, .int .i64 t'.tu, .int .i64 t'.am, .int .i64 t'.no] 31)) = w0 := ⟨_, rfl⟩
  have Bw0 : Below w.heap.size w w0 := hw0 ▸ ((Below.refl _ _).alloc (Nat.le_refl _) _).alloc (by simp) _
  have LA : Loc w0 (w.heap.size) #[.int .i64 t.k, .int .i64 t.vw, .string t.bn, .int .i64 t.bv, .string t.bs, .slice ao t.bw.length ca, .int .i64 t.pv, .string t.ps, .slice bo t.pw.length cb, .int .i64 t.qv, .string t.qs, .slice co t.qw.length cc, .int .i64 t.wh, .int .i64 t.fr, .int .i64 t.tu, .int .i64 t.am, .int .i64 t.no] := hw0 ▸ (loc_at (w) _ _ rfl).alloc _
  have LB : Loc w0 (w.heap.size + 1) #[.int .i64 t'.k, .int .i64 t'.vw, .string t'.bn, .int .i64 t'.bv, .string t'.bs, .slice ao' t'.bw.length ca', .int .i64 t'.pv, .string t'.ps, .slice bo' t'.pw.length cb', .int .i64 t'.qv, .string t'.qs, .slice co' t'.qw.length cc', .int .i64 t'.wh, .int .i64 t'.fr, .int .i64 t'.tu, .int .i64 t'.am, .int .i64 t'.no] := hw0 ▸ loc_at (w.alloc _) _ _ (by simp)
  have zw0 : w.heap.size + 1 + 1 ≤ w0.heap.size := by rw [← hw0]; simp
  go_enter Tryd.func3, Tryd.ntmps3
  go_wp2_with (first | (refine wload LA 31 _ rfl _ rfl rfl Tryd.underlying31 rfl (by kernel_rfl) ?_))
  clear hw0
  refine (unhide ZA _).mono ?_
  rintro _ w1 ⟨rfl, bb⟩
  have Bw1 := Bw0.trans (bb.mono Bw0.size)
  have sw1 := bb.size
  replace LA := LA.below bb LA.lt
  replace LB := LB.below bb LB.lt
  clear Bw0
  clear bb
  clear ZA
  go_wp2_with (first | (refine wload LB 31 _ rfl _ rfl rfl Tryd.underlying31 rfl (by kernel_rfl) ?_))
  refine (unhide ZB _).mono ?_
  rintro _ w2 ⟨rfl, bb⟩
  have Bw2 := Bw1.trans (bb.mono Bw1.size)
  have sw2 := bb.size
  replace LA := LA.below bb LA.lt
  replace LB := LB.below bb LB.lt
  clear Bw1
  clear bb
  clear ZB
  have K : Hid (∀ w', Below w2.heap.size w2 w' → (fun w' => Below w2.heap.size w2 w' ∧ Loc w' (w.heap.size) #[.int .i64 t.k, .int .i64 t.vw, .string t.bn, .int .i64 t.bv, .string t.bs, .slice ao t.bw.length ca, .int .i64 t.pv, .string t.ps, .slice bo t.pw.length cb, .int .i64 t.qv, .string t.qs, .slice co t.qw.length cc, .int .i64 t.wh, .int .i64 t.fr, .int .i64 t.tu, .int .i64 t.am, .int .i64 t.no] ∧ Loc w' (w.heap.size + 1) #[.int .i64 t'.k, .int .i64 t'.vw, .string t'.bn, .int .i64 t'.bv, .string t'.bs, .slice ao' t'.bw.length ca', .int .i64 t'.pv, .string t'.ps, .slice bo' t'.pw.length cb', .int .i64 t'.qv, .string t'.qs, .slice co' t'.qw.length cc', .int .i64 t'.wh, .int .i64 t'.fr, .int .i64 t'.tu, .int .i64 t'.am, .int .i64 t'.no]) w') := hide fun w' hb' => ⟨hb', LA.below hb' LA.lt, LB.below hb' LB.lt⟩
  go_upto_region 8 with fail
  have bA : Below w2.heap.size w2 w2.drew := Below.drew (Below.refl _ _)
  refine wp_region_noPanic ?_
  refine wp_region_held_drew (S := fun w' => Below w2.heap.size w2 w' ∧ Loc w' (w.heap.size) #[.int .i64 t.k, .int .i64 t.vw, .string t.bn, .int .i64 t.bv, .string t.bs, .slice ao t.bw.length ca, .int .i64 t.pv, .string t.ps, .slice bo t.pw.length cb, .int .i64 t.qv, .string t.qs, .slice co t.qw.length cc, .int .i64 t.wh, .int .i64 t.fr, .int .i64 t.tu, .int .i64 t.am, .int .i64 t.no] ∧ Loc w' (w.heap.size + 1) #[.int .i64 t'.k, .int .i64 t'.vw, .string t'.bn, .int .i64 t'.bv, .string t'.bs, .slice ao' t'.bw.length ca', .int .i64 t'.pv, .string t'.ps, .slice bo' t'.pw.length cb', .int .i64 t'.qv, .string t'.qs, .slice co' t'.qw.length cc', .int .i64 t'.wh, .int .i64 t'.fr, .int .i64 t'.tu, .int .i64 t'.am, .int .i64 t'.no]) (by kernel_rfl) (unhide K _ bA) (fun hHeld => ?_)
  refine take_at (i := 0) (d := 20) (v := .agg #[.int .i64 t.k, .int .i64 t.vw, .string t.bn, .int .i64 t.bv, .string t.bs, .slice ao t.bw.length ca, .int .i64 t.pv, .string t.ps, .slice bo t.pw.length cb, .int .i64 t.qv, .string t.qs, .slice co t.qw.length cc, .int .i64 t.wh, .int .i64 t.fr, .int .i64 t.tu, .int .i64 t.am, .int .i64 t.no]) rfl rfl (by kernel_rfl) (by kernel_rfl) (by kernel_rfl) (fun _ _ _ h => h) ?_ (by assumption) ?_
  · exact yields_row rfl 31 _ rfl rfl _ (fun w h => h.2.1) Tryd.underlying31 rfl (by kernel_rfl)
  simp only [Act.put, List.setIfInBounds_toArray, List.set_cons_zero, List.set_cons_succ]
  refine take_at (i := 2) (d := 22) (v := .agg #[.int .i64 t'.k, .int .i64 t'.vw, .string t'.bn, .int .i64 t'.bv, .string t'.bs, .slice ao' t'.bw.length ca', .int .i64 t'.pv, .string t'.ps, .slice bo' t'.pw.length cb', .int .i64 t'.qv, .string t'.qs, .slice co' t'.qw.length cc', .int .i64 t'.wh, .int .i64 t'.fr, .int .i64 t'.tu, .int .i64 t'.am, .int .i64 t'.no]) rfl rfl (by kernel_rfl) (by kernel_rfl) (by kernel_rfl) (fun _ _ _ h => h) ?_ (by assumption) ?_
  · exact yields_row rfl 31 _ rfl rfl _ (fun w h => h.2.2) Tryd.underlying31 rfl (by kernel_rfl)
  simp only [Act.put, List.setIfInBounds_toArray, List.set_cons_zero, List.set_cons_succ]
  refine ready_at (i := 1) rfl (by kernel_rfl) (fun KK hKK => ?_)
  go_simp
  have hgo := bA
  refine (unhide TA _ ((unhide HA).below (Bw2.trans (hgo.mono Bw2.size)) (Nat.le_refl _)) ((unhide HB).below (Bw2.trans (hgo.mono Bw2.size)) (Nat.le_refl _)) ((unhide HC).below (Bw2.trans (hgo.mono Bw2.size)) (Nat.le_refl _))).mono ?_
  rintro e wz8_1 ⟨u1, u2, u3, rfl, m1, bb⟩
  have bz1 : Below w2.heap.size w2 wz8_1 := bA.trans (bb.mono bA.size)
  have R1 := hide fun w' (hb' : Below wz8_1.heap.size wz8_1 w') => (m1.below hb').ri3 (unhide lx)
  obtain ⟨a1, k1, b1, l1, c1, n1, rfl, rfl, rfl⟩ := m1.form
  clear m1
  clear bA hgo bb
  clear hHeld
  refine hKK.out _ _ (unhide K _ bz1) (fun hHeld => ?_)
  clear hKK KK
  refine ready_at (i := 3) rfl (by kernel_rfl) (fun KK hKK => ?_)
  go_simp
  have hgo := bz1
  refine (unhide TB _ ((unhide HA').below (Bw2.trans (hgo.mono Bw2.size)) (Nat.le_refl _)) ((unhide HB').below (Bw2.trans (hgo.mono Bw2.size)) (Nat.le_refl _)) ((unhide HC').below (Bw2.trans (hgo.mono Bw2.size)) (Nat.le_refl _))).mono ?_
  rintro e wz8_2 ⟨v1, v2, v3, rfl, m2, bb⟩
  have bz2 : Below w2.heap.size w2 wz8_2 := bz1.trans (bb.mono bz1.size)
  have R2 := hide (m2.ri3 (unhide ly))
  have R3 := hide (unhide R1 _ bb)
  obtain ⟨a2, k2, b2_, l2, c2, n2, rfl, rfl, rfl⟩ := m2.form
  clear m2 R1
  clear bz1 hgo bb
  clear hHeld
  refine hKK.out _ _ (unhide K _ bz2) (fun hHeld => ?_)
  clear hKK KK
  refine ready_at (i := 4) rfl (by kernel_rfl) (fun KK hKK => ?_)
  go_simp
  have hgo := bz2
  refine (unhide SP _ _ _ _ _ _ _ _ _ _ _ _ _ (unhide R3).1 (unhide R3).2.1 (unhide R3).2.2 (unhide R2).1 (unhide R2).2.1 (unhide R2).2.2).mono ?_
  rintro e wz8_3 ⟨rfl, bb⟩
  have bz3 : Below w2.heap.size w2 wz8_3 := bz2.trans (bb.mono bz2.size)
  clear R2 R3
  clear bz2 hgo bb
  clear hHeld
  refine hKK.out _ _ (unhide K _ bz3) (fun hHeld => ?_)
  clear hKK KK
  refine take_at (i := 5) (d := 6) (v := ?_) rfl rfl (by kernel_rfl) (by kernel_rfl) (by kernel_rfl) (fun _ _ _ h => h) (Or.inl ⟨by rfl, ?_⟩) (by assumption) ?_
  rotate_left
  · intro w hSw
    try dsimp only at hSw
    go_simp
    try with_reducible rfl
  simp only [Act.put, List.setIfInBounds_toArray, List.set_cons_zero, List.set_cons_succ]
  clear hHeld
  refine wpAnyH_done (by kernel_rfl) ?_ _
  refine NoPanic.normal ?_
  have bb := bz3
  have Bwz8_3 := Bw2.trans (bb.mono Bw2.size)
  have swz8_3 := bb.size
  replace LA := LA.below bb LA.lt
  replace LB := LB.below bb LB.lt
  clear Bw2
  clear bb bz3 K
  clear SP
  go_wp2_with (first | (refine wload LA 31 _ rfl _ rfl rfl Tryd.underlying31 rfl (by kernel_rfl) ?_))
  refine (unhide TA _ ((unhide HA).below Bwz8_3 (Nat.le_refl _)) ((unhide HB).below Bwz8_3 (Nat.le_refl _)) ((unhide HC).below Bwz8_3 (Nat.le_refl _))).mono ?_
  rintro _ w3 ⟨u1, u2, u3, rfl, mX, bb⟩
  have Bw3 := Bwz8_3.trans (bb.mono Bwz8_3.size)
  have sw3 := bb.size
  replace LA := LA.below bb LA.lt
  replace LB := LB.below bb LB.lt
  clear Bwz8_3
  clear bb
  obtain ⟨aX, kX, bX, lX, cX, nX, rfl, rfl, rfl⟩ := mX.form
  go_upto_region 10 with (refine wstore (loc_at w3 #[.int .i64 0, .int .i64 0, .string ⟨#[]⟩, .int .i64 0, .string ⟨#[]⟩, .slice none 0 0, .int .i64 0, .string ⟨#[]⟩, .slice none 0 0, .int .i64 0, .string ⟨#[]⟩, .slice none 0 0, .int .i64 0, .int .i64 0, .int .i64 0, .int .i64 0, .int .i64 0] 40 rfl) 40 #[.int .i64 t.k, .int .i64 t.vw, .string t.bn, .int .i64 t.bv, .string t.bs, .slice aX t.bw.length kX, .int .i64 t.pv, .string t.ps, .slice bX t.pw.length lX, .int .i64 t.qv, .string t.qs, .slice cX t.qw.length nX, .int .i64 t.wh, .int .i64 t.fr, .int .i64 t.tu, .int .i64 t.am, .int .i64 t.no] rfl _ _ rfl rfl rfl (by kernel_rfl) rfl (by simp [Value.oneCell']) ?_)
  obtain ⟨w4, hw4⟩ : ∃ y, (w3.alloc (.cells #[.int .i64 0, .int .i64 0, .string ⟨#[]⟩, .int .i64 0, .string ⟨#[]⟩, .slice none 0 0, .int .i64 0, .string ⟨#[]⟩, .slice none 0 0, .int .i64 0, .string ⟨#[]⟩, .slice none 0 0, .int .i64 0, .int .i64 0, .int .i64 0, .int .i64 0, .int .i64 0] 40)).setRow w3.heap.size #[.int .i64 t.k, .int .i64 t.vw, .string t.bn, .int .i64 t.bv, .string t.bs, .slice aX t.bw.length kX, .int .i64 t.pv, .string t.ps, .slice bX t.pw.length lX, .int .i64 t.qv, .string t.qs, .slice cX t.qw.length nX, .int .i64 t.wh, .int .i64 t.fr, .int .i64 t.tu, .int .i64 t.am, .int .i64 t.no] = y := ⟨_, rfl⟩
  rw [hw4]
  have bb : Below w3.heap.size w3 w4 := hw4 ▸ box_below _ _ _ _
  have X : Loc w4 w3.heap.size #[.int .i64 t.k, .int .i64 t.vw, .string t.bn, .int .i64 t.bv, .string t.bs, .slice aX t.bw.length kX, .int .i64 t.pv, .string t.ps, .slice bX t.pw.length lX, .int .i64 t.qv, .string t.qs, .slice cX t.qw.length nX, .int .i64 t.wh, .int .i64 t.fr, .int .i64 t.tu, .int .i64 t.am, .int .i64 t.no] := hw4 ▸ box_loc _ _ _ _
  have zw4 : w4.heap.size = w3.heap.size + 1 := by rw [← hw4]; exact box_size _ _ _ _
  clear hw4
  have Bw4 := Bw3.trans (bb.mono Bw3.size)
  have sw4 := bb.size
  replace LA := LA.below bb LA.lt
  replace LB := LB.below bb LB.lt
  replace mX := mX.below bb
  clear Bw3
  clear bb
  go_wp2_with (first | (refine wload LB 31 _ rfl _ rfl rfl Tryd.underlying31 rfl (by kernel_rfl) ?_))
  refine (unhide TB _ ((unhide HA').below Bw4 (Nat.le_refl _)) ((unhide HB').below Bw4 (Nat.le_refl _)) ((unhide HC').below Bw4 (Nat.le_refl _))).mono ?_
  rintro _ w5 ⟨u1, u2, u3, rfl, mY, bb⟩
  have Bw5 := Bw4.trans (bb.mono Bw4.size)
  have sw5 := bb.size
  replace LA := LA.below bb LA.lt
  replace LB := LB.below bb LB.lt
  replace X := X.below bb X.lt
  replace mX := mX.below bb
  clear Bw4
  clear bb
  obtain ⟨aY, kY, bY, lY, cY, nY, rfl, rfl, rfl⟩ := mY.form
  go_upto_region 11 with (refine wstore (loc_at w5 #[.int .i64 0, .int .i64 0, .string ⟨#[]⟩, .int .i64 0, .string ⟨#[]⟩, .slice none 0 0, .int .i64 0, .string ⟨#[]⟩, .slice none 0 0, .int .i64 0, .string ⟨#[]⟩, .slice none 0 0, .int .i64 0, .int .i64 0, .int .i64 0, .int .i64 0, .int .i64 0] 40 rfl) 40 #[.int .i64 t'.k, .int .i64 t'.vw, .string t'.bn, .int .i64 t'.bv, .string t'.bs, .slice aY t'.bw.length kY, .int .i64 t'.pv, .string t'.ps, .slice bY t'.pw.length lY, .int .i64 t'.qv, .string t'.qs, .slice cY t'.qw.length nY, .int .i64 t'.wh, .int .i64 t'.fr, .int .i64 t'.tu, .int .i64 t'.am, .int .i64 t'.no] rfl _ _ rfl rfl rfl (by kernel_rfl) rfl (by simp [Value.oneCell']) ?_)
  obtain ⟨w6, hw6⟩ : ∃ y, (w5.alloc (.cells #[.int .i64 0, .int .i64 0, .string ⟨#[]⟩, .int .i64 0, .string ⟨#[]⟩, .slice none 0 0, .int .i64 0, .string ⟨#[]⟩, .slice none 0 0, .int .i64 0, .string ⟨#[]⟩, .slice none 0 0, .int .i64 0, .int .i64 0, .int .i64 0, .int .i64 0, .int .i64 0] 40)).setRow w5.heap.size #[.int .i64 t'.k, .int .i64 t'.vw, .string t'.bn, .int .i64 t'.bv, .string t'.bs, .slice aY t'.bw.length kY, .int .i64 t'.pv, .string t'.ps, .slice bY t'.pw.length lY, .int .i64 t'.qv, .string t'.qs, .slice cY t'.qw.length nY, .int .i64 t'.wh, .int .i64 t'.fr, .int .i64 t'.tu, .int .i64 t'.am, .int .i64 t'.no] = y := ⟨_, rfl⟩
  rw [hw6]
  have bb : Below w5.heap.size w5 w6 := hw6 ▸ box_below _ _ _ _
  have Y : Loc w6 w5.heap.size #[.int .i64 t'.k, .int .i64 t'.vw, .string t'.bn, .int .i64 t'.bv, .string t'.bs, .slice aY t'.bw.length kY, .int .i64 t'.pv, .string t'.ps, .slice bY t'.pw.length lY, .int .i64 t'.qv, .string t'.qs, .slice cY t'.qw.length nY, .int .i64 t'.wh, .int .i64 t'.fr, .int .i64 t'.tu, .int .i64 t'.am, .int .i64 t'.no] := hw6 ▸ box_loc _ _ _ _
  have zw6 : w6.heap.size = w5.heap.size + 1 := by rw [← hw6]; exact box_size _ _ _ _
  clear hw6
  have Bw6 := Bw5.trans (bb.mono Bw5.size)
  have sw6 := bb.size
  replace LA := LA.below bb LA.lt
  replace LB := LB.below bb LB.lt
  replace X := X.below bb X.lt
  replace mX := mX.below bb
  replace mY := mY.below bb
  clear Bw5
  clear bb
  have RX := mX.ri3 (unhide lx)
  have RY := mY.ri3 (unhide ly)
  have HX := hide RX
  have HY := hide RY
  clear RX RY
  go_wp2_with (first | (refine wload X 40 _ rfl _ rfl rfl Tryd.underlying40 rfl (by kernel_rfl) ?_) | (refine wload Y 40 _ rfl _ rfl rfl Tryd.underlying40 rfl (by kernel_rfl) ?_))
  refine (unhide IM _ _ _ _ _ _ _ _ _ _ _ _ _ ((unhide HP).below Bw6) (unhide HX).1 (unhide HX).2.1 (unhide HX).2.2 (unhide HY).1 (unhide HY).2.1 (unhide HY).2.2).mono ?_
  rintro _ w7 ⟨rfl, bb⟩
  have Bw7 := Bw6.trans (bb.mono Bw6.size)
  have sw7 := bb.size
  replace LA := LA.below bb LA.lt
  replace LB := LB.below bb LB.lt
  replace X := X.below bb X.lt
  replace Y := Y.below bb Y.lt
  replace mX := mX.below bb
  replace mY := mY.below bb
  clear Bw6
  clear bb
  clear IM HX HY
  have RX := hide fun w' (hb' : Below w7.heap.size w7 w') => (mX.below hb').ri3 (unhide lx)
  have K : Hid (∀ w', Below w7.heap.size w7 w' → (fun w' => Below w7.heap.size w7 w' ∧ Loc w' (w.heap.size) #[.int .i64 t.k, .int .i64 t.vw, .string t.bn, .int .i64 t.bv, .string t.bs, .slice ao t.bw.length ca, .int .i64 t.pv, .string t.ps, .slice bo t.pw.length cb, .int .i64 t.qv, .string t.qs, .slice co t.qw.length cc, .int .i64 t.wh, .int .i64 t.fr, .int .i64 t.tu, .int .i64 t.am, .int .i64 t.no] ∧ Loc w' (w3.heap.size) #[.int .i64 t.k, .int .i64 t.vw, .string t.bn, .int .i64 t.bv, .string t.bs, .slice aX t.bw.length kX, .int .i64 t.pv, .string t.ps, .slice bX t.pw.length lX, .int .i64 t.qv, .string t.qs, .slice cX t.qw.length nX, .int .i64 t.wh, .int .i64 t.fr, .int .i64 t.tu, .int .i64 t.am, .int .i64 t.no]) w') := hide fun w' hb' => ⟨hb', LA.below hb' LA.lt, X.below hb' X.lt⟩
  go_upto_region 14 with fail
  have bA : Below w7.heap.size w7 w7.drew := Below.drew (Below.refl _ _)
  refine wp_region_noPanic ?_
  refine wp_region_held_drew (S := fun w' => Below w7.heap.size w7 w' ∧ Loc w' (w.heap.size) #[.int .i64 t.k, .int .i64 t.vw, .string t.bn, .int .i64 t.bv, .string t.bs, .slice ao t.bw.length ca, .int .i64 t.pv, .string t.ps, .slice bo t.pw.length cb, .int .i64 t.qv, .string t.qs, .slice co t.qw.length cc, .int .i64 t.wh, .int .i64 t.fr, .int .i64 t.tu, .int .i64 t.am, .int .i64 t.no] ∧ Loc w' (w3.heap.size) #[.int .i64 t.k, .int .i64 t.vw, .string t.bn, .int .i64 t.bv, .string t.bs, .slice aX t.bw.length kX, .int .i64 t.pv, .string t.ps, .slice bX t.pw.length lX, .int .i64 t.qv, .string t.qs, .slice cX t.qw.length nX, .int .i64 t.wh, .int .i64 t.fr, .int .i64 t.tu, .int .i64 t.am, .int .i64 t.no]) (by kernel_rfl) (unhide K _ bA) (fun hHeld => ?_)
  refine take_at (i := 0) (d := 35) (v := .agg #[.int .i64 t.k, .int .i64 t.vw, .string t.bn, .int .i64 t.bv, .string t.bs, .slice aX t.bw.length kX, .int .i64 t.pv, .string t.ps, .slice bX t.pw.length lX, .int .i64 t.qv, .string t.qs, .slice cX t.qw.length nX, .int .i64 t.wh, .int .i64 t.fr, .int .i64 t.tu, .int .i64 t.am, .int .i64 t.no]) rfl rfl (by kernel_rfl) (by kernel_rfl) (by kernel_rfl) (fun _ _ _ h => h) ?_ (by assumption) ?_
  · exact yields_row rfl 40 _ rfl rfl _ (fun w h => h.2.2) Tryd.underlying40 rfl (by kernel_rfl)
  simp only [Act.put, List.setIfInBounds_toArray, List.set_cons_zero, List.set_cons_succ]
  refine take_at (i := 1) (d := 36) (v := .agg #[.int .i64 t.k, .int .i64 t.vw, .string t.bn, .int .i64 t.bv, .string t.bs, .slice ao t.bw.length ca, .int .i64 t.pv, .string t.ps, .slice bo t.pw.length cb, .int .i64 t.qv, .string t.qs, .slice co t.qw.length cc, .int .i64 t.wh, .int .i64 t.fr, .int .i64 t.tu, .int .i64 t.am, .int .i64 t.no]) rfl rfl (by kernel_rfl) (by kernel_rfl) (by kernel_rfl) (fun _ _ _ h => h) ?_ (by assumption) ?_
  · exact yields_row rfl 31 _ rfl rfl _ (fun w h => h.2.1) Tryd.underlying31 rfl (by kernel_rfl)
  simp only [Act.put, List.setIfInBounds_toArray, List.set_cons_zero, List.set_cons_succ]
  refine ready_at (i := 2) rfl (by kernel_rfl) (fun KK hKK => ?_)
  go_simp
  have hgo := bA
  refine (unhide TA _ ((unhide HA).below (Bw7.trans (hgo.mono Bw7.size)) (Nat.le_refl _)) ((unhide HB).below (Bw7.trans (hgo.mono Bw7.size)) (Nat.le_refl _)) ((unhide HC).below (Bw7.trans (hgo.mono Bw7.size)) (Nat.le_refl _))).mono ?_
  rintro e wz14_1 ⟨u1, u2, u3, rfl, m1, bb⟩
  have bz1 : Below w7.heap.size w7 wz14_1 := bA.trans (bb.mono bA.size)
  have R1 := hide (m1.ri3 (unhide lx))
  clear m1
  clear bA hgo bb
  clear hHeld
  refine hKK.out _ _ (unhide K _ bz1) (fun hHeld => ?_)
  clear hKK KK
  refine ready_at (i := 3) rfl (by kernel_rfl) (fun KK hKK => ?_)
  go_simp
  have hgo := bz1
  refine (eqMsg_yes t _ _ _ _ _ _ t.bw t.pw t.qw _ (unhide RX _ hgo).1 (unhide RX _ hgo).2.1 (unhide RX _ hgo).2.2 (unhide R1).1 (unhide R1).2.1 (unhide R1).2.2).mono ?_
  rintro e wz14_2 ⟨rfl, bb⟩
  have bz2 : Below w7.heap.size w7 wz14_2 := bz1.trans (bb.mono bz1.size)
  clear R1 RX
  clear bz1 hgo bb
  clear hHeld
  refine hKK.out _ _ (unhide K _ bz2) (fun hHeld => ?_)
  clear hKK KK
  refine take_at (i := 4) (d := 39) (v := ?_) rfl rfl (by kernel_rfl) (by kernel_rfl) (by kernel_rfl) (fun _ _ _ h => h) (Or.inl ⟨by rfl, ?_⟩) (by assumption) ?_
  rotate_left
  · intro w hSw
    try dsimp only at hSw
    go_simp
    try with_reducible rfl
  simp only [Act.put, List.setIfInBounds_toArray, List.set_cons_zero, List.set_cons_succ]
  clear hHeld
  refine wpAnyH_done (by kernel_rfl) ?_ _
  refine NoPanic.normal ?_
  have bb := bz2
  have Bwz14_2 := Bw7.trans (bb.mono Bw7.size)
  have swz14_2 := bb.size
  replace LA := LA.below bb LA.lt
  replace LB := LB.below bb LB.lt
  replace X := X.below bb X.lt
  replace Y := Y.below bb Y.lt
  replace mX := mX.below bb
  replace mY := mY.below bb
  clear Bw7
  clear bb bz2 K
  have RX := hide fun w' (hb' : Below wz14_2.heap.size wz14_2 w') => (mY.below hb').ri3 (unhide ly)
  have K : Hid (∀ w', Below wz14_2.heap.size wz14_2 w' → (fun w' => Below wz14_2.heap.size wz14_2 w' ∧ Loc w' (w.heap.size + 1) #[.int .i64 t'.k, .int .i64 t'.vw, .string t'.bn, .int .i64 t'.bv, .string t'.bs, .slice ao' t'.bw.length ca', .int .i64 t'.pv, .string t'.ps, .slice bo' t'.pw.length cb', .int .i64 t'.qv, .string t'.qs, .slice co' t'.qw.length cc', .int .i64 t'.wh, .int .i64 t'.fr, .int .i64 t'.tu, .int .i64 t'.am, .int .i64 t'.no] ∧ Loc w' (w5.heap.size) #[.int .i64 t'.k, .int .i64 t'.vw, .string t'.bn, .int .i64 t'.bv, .string t'.bs, .slice aY t'.bw.length kY, .int .i64 t'.pv, .string t'.ps, .slice bY t'.pw.length lY, .int .i64 t'.qv, .string t'.qs, .slice cY t'.qw.length nY, .int .i64 t'.wh, .int .i64 t'.fr, .int .i64 t'.tu, .int .i64 t'.am, .int .i64 t'.no]) w') := hide fun w' hb' => ⟨hb', LB.below hb' LB.lt, Y.below hb' Y.lt⟩
  go_upto_region 16 with fail
  have bA : Below wz14_2.heap.size wz14_2 wz14_2.drew := Below.drew (Below.refl _ _)
  refine wp_region_noPanic ?_
  refine wp_region_held_drew (S := fun w' => Below wz14_2.heap.size wz14_2 w' ∧ Loc w' (w.heap.size + 1) #[.int .i64 t'.k, .int .i64 t'.vw, .string t'.bn, .int .i64 t'.bv, .string t'.bs, .slice ao' t'.bw.length ca', .int .i64 t'.pv, .string t'.ps, .slice bo' t'.pw.length cb', .int .i64 t'.qv, .string t'.qs, .slice co' t'.qw.length cc', .int .i64 t'.wh, .int .i64 t'.fr, .int .i64 t'.tu, .int .i64 t'.am, .int .i64 t'.no] ∧ Loc w' (w5.heap.size) #[.int .i64 t'.k, .int .i64 t'.vw, .string t'.bn, .int .i64 t'.bv, .string t'.bs, .slice aY t'.bw.length kY, .int .i64 t'.pv, .string t'.ps, .slice bY t'.pw.length lY, .int .i64 t'.qv, .string t'.qs, .slice cY t'.qw.length nY, .int .i64 t'.wh, .int .i64 t'.fr, .int .i64 t'.tu, .int .i64 t'.am, .int .i64 t'.no]) (by kernel_rfl) (unhide K _ bA) (fun hHeld => ?_)
  refine take_at (i := 0) (d := 40) (v := .agg #[.int .i64 t'.k, .int .i64 t'.vw, .string t'.bn, .int .i64 t'.bv, .string t'.bs, .slice aY t'.bw.length kY, .int .i64 t'.pv, .string t'.ps, .slice bY t'.pw.length lY, .int .i64 t'.qv, .string t'.qs, .slice cY t'.qw.length nY, .int .i64 t'.wh, .int .i64 t'.fr, .int .i64 t'.tu, .int .i64 t'.am, .int .i64 t'.no]) rfl rfl (by kernel_rfl) (by kernel_rfl) (by kernel_rfl) (fun _ _ _ h => h) ?_ (by assumption) ?_
  · exact yields_row rfl 40 _ rfl rfl _ (fun w h => h.2.2) Tryd.underlying40 rfl (by kernel_rfl)
  simp only [Act.put, List.setIfInBounds_toArray, List.set_cons_zero, List.set_cons_succ]
  refine take_at (i := 1) (d := 41) (v := .agg #[.int .i64 t'.k, .int .i64 t'.vw, .string t'.bn, .int .i64 t'.bv, .string t'.bs, .slice ao' t'.bw.length ca', .int .i64 t'.pv, .string t'.ps, .slice bo' t'.pw.length cb', .int .i64 t'.qv, .string t'.qs, .slice co' t'.qw.length cc', .int .i64 t'.wh, .int .i64 t'.fr, .int .i64 t'.tu, .int .i64 t'.am, .int .i64 t'.no]) rfl rfl (by kernel_rfl) (by kernel_rfl) (by kernel_rfl) (fun _ _ _ h => h) ?_ (by assumption) ?_
  · exact yields_row rfl 31 _ rfl rfl _ (fun w h => h.2.1) Tryd.underlying31 rfl (by kernel_rfl)
  simp only [Act.put, List.setIfInBounds_toArray, List.set_cons_zero, List.set_cons_succ]
  refine ready_at (i := 2) rfl (by kernel_rfl) (fun KK hKK => ?_)
  go_simp
  have hgo := bA
  refine (unhide TB _ ((unhide HA').below (Bwz14_2.trans (hgo.mono Bwz14_2.size)) (Nat.le_refl _)) ((unhide HB').below (Bwz14_2.trans (hgo.mono Bwz14_2.size)) (Nat.le_refl _)) ((unhide HC').below (Bwz14_2.trans (hgo.mono Bwz14_2.size)) (Nat.le_refl _))).mono ?_
  rintro e wz16_1 ⟨u1, u2, u3, rfl, m1, bb⟩
  have bz1 : Below wz14_2.heap.size wz14_2 wz16_1 := bA.trans (bb.mono bA.size)
  have R1 := hide (m1.ri3 (unhide ly))
  clear m1
  clear bA hgo bb
  clear hHeld
  refine hKK.out _ _ (unhide K _ bz1) (fun hHeld => ?_)
  clear hKK KK
  refine ready_at (i := 3) rfl (by kernel_rfl) (fun KK hKK => ?_)
  go_simp
  have hgo := bz1
  refine (eqMsg_yes t' _ _ _ _ _ _ t'.bw t'.pw t'.qw _ (unhide RX _ hgo).1 (unhide RX _ hgo).2.1 (unhide RX _ hgo).2.2 (unhide R1).1 (unhide R1).2.1 (unhide R1).2.2).mono ?_
  rintro e wz16_2 ⟨rfl, bb⟩
  have bz2 : Below wz14_2.heap.size wz14_2 wz16_2 := bz1.trans (bb.mono bz1.size)
  clear R1 RX
  clear bz1 hgo bb
  clear hHeld
  refine hKK.out _ _ (unhide K _ bz2) (fun hHeld => ?_)
  clear hKK KK
  refine take_at (i := 4) (d := 44) (v := ?_) rfl rfl (by kernel_rfl) (by kernel_rfl) (by kernel_rfl) (fun _ _ _ h => h) (Or.inl ⟨by rfl, ?_⟩) (by assumption) ?_
  rotate_left
  · intro w hSw
    try dsimp only at hSw
    go_simp
    try with_reducible rfl
  simp only [Act.put, List.setIfInBounds_toArray, List.set_cons_zero, List.set_cons_succ]
  clear hHeld
  refine wpAnyH_done (by kernel_rfl) ?_ _
  refine NoPanic.normal ?_
  have bb := bz2
  have Bwz16_2 := Bwz14_2.trans (bb.mono Bwz14_2.size)
  have swz16_2 := bb.size
  replace LA := LA.below bb LA.lt
  replace LB := LB.below bb LB.lt
  replace X := X.below bb X.lt
  replace Y := Y.below bb Y.lt
  replace mX := mX.below bb
  replace mY := mY.below bb
  clear Bwz14_2
  clear bb bz2 K
  go_wp2
  go_ret
  exact ⟨rfl, Bwz16_2⟩
set_option maxHeartbeats 16000000 in
set_option maxRecDepth 100000 in
theorem fnMsgSame_long1 (t t' : MT) (ao bo co ao' bo' co' : Option Addr) (ca cb cc ca' cb' cc' : Nat) (w : World) (h : 1048576 < (t.bn.size : Int) + t.bs.size + t.bw.length + t.ps.size + t.pw.length + t.qs.size + t.qw.length) (hm : MB t) :
    Calls Tryd.prog 3 #[mgv t (.slice ao t.bw.length ca) (.slice bo t.pw.length cb) (.slice co t.qw.length cc), mgv t' (.slice ao' t'.bw.length ca') (.slice bo' t'.pw.length cb') (.slice co' t'.qw.length cc')] w fun e w' => e = .returned (.bool true) ∧ Below w.heap.size w w' := by
  have ZA := hide fun w => szMsg_no t ao bo co ca cb cc 1048576 w (by omega) (by omega) hm (by omega)
  clear h hm
  obtain ⟨w0, hw0⟩ : ∃ w0, ((w.alloc (.cells #[.int .i64 t.k, .int .i64 t.vw, .string t.bn, .int .i64 t.bv, .string t.bs, .slice ao t.bw.length ca, .int .i64 t.pv, .string t.ps, .slice bo t.pw.length cb, .int .i64 t.qv, .string t.qs, .slice co t.qw.length cc, .int .i64 t.wh, .int .i64 t.fr, .int .i64 t.tu, .int .i64 t.am, .int .i64 t.no] 31)).alloc (.cells #[.int .i64 t'.k, .int .i64 t'.vw, .string t'.bn, .int .i64 t'.bv, .string t'.bs, .slice ao' t'.bw.length ca', .int .i64 t'.pv, .string t'.ps, .slice bo' t'.pw.length cb', .int .i64 t'.qv, .string t'.qs, .slice co' t'.qw.length cc', .int .i64 t'.wh, .int .i64 t'.fr, .int .i64 t'.tu, .int .i64 t'.am, .int .i64 t'.no] 31)) = w0 := ⟨_, rfl⟩
  have Bw0 : Below w.heap.size w w0 := hw0 ▸ ((Below.refl _ _).alloc (Nat.le_refl _) _).alloc (by simp) _
  have LA : Loc w0 (w.heap.size) #[.int .i64 t.k, .int .i64 t.vw, .string t.bn, .int .i64 t.bv, .string t.bs, .slice ao t.bw.length ca, .int .i64 t.pv, .string t.ps, .slice bo t.pw.length cb, .int .i64 t.qv, .string t.qs, .slice co t.qw.length cc, .int .i64 t.wh, .int .i64 t.fr, .int .i64 t.tu, .int .i64 t.am, .int .i64 t.no] := hw0 ▸ (loc_at (w) _ _ rfl).alloc _
  have LB : Loc w0 (w.heap.size + 1) #[.int .i64 t'.k, .int .i64 t'.vw, .string t'.bn, .int .i64 t'.bv, .string t'.bs, .slice ao' t'.bw.length ca', .int .i64 t'.pv, .string t'.ps, .slice bo' t'.pw.length cb', .int .i64 t'.qv, .string t'.qs, .slice co' t'.qw.length cc', .int .i64 t'.wh, .int .i64 t'.fr, .int .i64 t'.tu, .int .i64 t'.am, .int .i64 t'.no] := hw0 ▸ loc_at (w.alloc _) _ _ (by simp)
  have zw0 : w.heap.size + 1 + 1 ≤ w0.heap.size := by rw [← hw0]; simp
  go_enter Tryd.func3, Tryd.ntmps3
  go_wp2_with (first | (refine wload LA 31 _ rfl _ rfl rfl Tryd.underlying31 rfl (by kernel_rfl) ?_))
  clear hw0
  refine (unhide ZA _).mono ?_
  rintro _ w1 ⟨rfl, bb⟩
  have Bw1 := Bw0.trans (bb.mono Bw0.size)
  have sw1 := bb.size
  replace LA := LA.below bb LA.lt
  replace LB := LB.below bb LB.lt
  clear Bw0
  clear bb
  go_wp2
  go_ret
  exact ⟨rfl, Bw1⟩
set_option maxHeartbeats 16000000 in
set_option maxRecDepth 100000 in
theorem fnMsgSame_long2 (t t' : MT) (ao bo co ao' bo' co' : Option Addr) (ca cb cc ca' cb' cc' : Nat) (w : World) (g : (t.bn.size : Int) + t.bs.size + t.bw.length + t.ps.size + t.pw.length + t.qs.size + t.qw.length ≤ 1048576) (h : 1048576 < (t.bn.size : Int) + t.bs.size + t.bw.length + t.ps.size + t.pw.length + t.qs.size + t.qw.length + t'.bn.size + t'.bs.size + t'.bw.length + t'.ps.size + t'.pw.length + t'.qs.size + t'.qw.length) (hm : MB t') :
    Calls Tryd.prog 3 #[mgv t (.slice ao t.bw.length ca) (.slice bo t.pw.length cb) (.slice co t.qw.length cc), mgv t' (.slice ao' t'.bw.length ca') (.slice bo' t'.pw.length cb') (.slice co' t'.qw.length cc')] w fun e w' => e = .returned (.bool true) ∧ Below w.heap.size w w' := by
  have ZA := hide fun w => szMsg_yes t ao bo co t.bw.length ca t.pw.length cb t.qw.length cc 1048576 w (by omega) (by omega)
  have ZB := hide fun w => szMsg_no t' ao' bo' co' ca' cb' cc' (1048576 - t.bn.size - t.bs.size - t.bw.length - t.ps.size - t.pw.length - t.qs.size - t.qw.length) w (by omega) (by omega) hm (by omega)
  have d1 : decide ((1048576 : Int) - t.bn.size - t.bs.size - t.bw.length - t.ps.size - t.pw.length - t.qs.size - t.qw.length < 0) = false := by simp; omega
  clear g h hm
  obtain ⟨w0, hw0⟩ : ∃ w0, ((w.alloc (.cells #[.int .i64 t.k, .int .i64 t.vw, .string t.bn, .int .i64 t.bv, .string t.bs, .slice ao t.bw.length ca, .int .i64 t.pv, .string t.ps, .slice bo t.pw.length cb, .int .i64 t.qv, .string t.qs, .slice co t.qw.length cc, .int .i64 t.wh, .int .i64 t.fr, .int .i64 t.tu, .int .i64 t.am, .int .i64 t.no] 31)).alloc (.cells #[.int .i64 t'.k, .int .i64 t'.vw, .string t'.bn, .int .i64 t'.bv, .string t'.bs, .slice ao' t'.bw.length ca', .int .i64 t'.pv, .string t'.ps, .slice bo' t'.pw.length cb', .int .i64 t'.qv, .string t'.qs, .slice co' t'.qw.length cc', .int .i64 t'.wh, .int .i64 t'.fr, .int .i64 t'.tu, .int .i64 t'.am, .int .i64 t'.no] 31)) = w0 := ⟨_, rfl⟩
  have Bw0 : Below w.heap.size w w0 := hw0 ▸ ((Below.refl _ _).alloc (Nat.le_refl _) _).alloc (by simp) _
  have LA : Loc w0 (w.heap.size) #[.int .i64 t.k, .int .i64 t.vw, .string t.bn, .int .i64 t.bv, .string t.bs, .slice ao t.bw.length ca, .int .i64 t.pv, .string t.ps, .slice bo t.pw.length cb, .int .i64 t.qv, .string t.qs, .slice co t.qw.length cc, .int .i64 t.wh, .int .i64 t.fr, .int .i64 t.tu, .int .i64 t.am, .int .i64 t.no] := hw0 ▸ (loc_at (w) _ _ rfl).alloc _
  have LB : Loc w0 (w.heap.size + 1) #[.int .i64 t'.k, .int .i64 t'.vw, .string t'.bn, .int .i64 t'.bv, .string t'.bs, .slice ao' t'.bw.length ca', .int .i64 t'.pv, .string t'.ps, .slice bo' t'.pw.length cb', .int .i64 t'.qv, .string t'.qs, .slice co' t'.qw.length cc', .int .i64 t'.wh, .int .i64 t'.fr, .int .i64 t'.tu, .int .i64 t'.am, .int .i64 t'.no] := hw0 ▸ loc_at (w.alloc _) _ _ (by simp)
  have zw0 : w.heap.size + 1 + 1 ≤ w0.heap.size := by rw [← hw0]; simp
  go_enter Tryd.func3, Tryd.ntmps3
  go_wp2_with (first | (refine wload LA 31 _ rfl _ rfl rfl Tryd.underlying31 rfl (by kernel_rfl) ?_))
  clear hw0
  refine (unhide ZA _).mono ?_
  rintro _ w1 ⟨rfl, bb⟩
  have Bw1 := Bw0.trans (bb.mono Bw0.size)
  have sw1 := bb.size
  replace LA := LA.below bb LA.lt
  replace LB := LB.below bb LB.lt
  clear Bw0
  clear bb
  go_wp2_with (first | (refine wload LB 31 _ rfl _ rfl rfl Tryd.underlying31 rfl (by kernel_rfl) ?_))
  refine (unhide ZB _).mono ?_
  rintro _ w2 ⟨rfl, bb⟩
  have Bw2 := Bw1.trans (bb.mono Bw1.size)
  have sw2 := bb.size
  replace LA := LA.below bb LA.lt
  replace LB := LB.below bb LB.lt
  clear Bw1
  clear bb
  go_wp2
  go_ret
  exact ⟨rfl, Bw2⟩
theorem fnMsgSame_walk (t t' : MT) (ao bo co ao' bo' co' : Option Addr) (ca cb cc ca' cb' cc' : Nat) (w : World) (hb1 : MB t) (hb2 : MB t') (hm : MI t) (hm' : MI t') (hP : Pow w) (ha : AIW w ao t.bw ∧ AIW w bo t.pw ∧ AIW w co t.qw) (ha' : AIW w ao' t'.bw ∧ AIW w bo' t'.pw ∧ AIW w co' t'.qw) :
    Calls Tryd.prog 3 #[mgv t (.slice ao t.bw.length ca) (.slice bo t.pw.length cb) (.slice co t.qw.length cc), mgv t' (.slice ao' t'.bw.length ca') (.slice bo' t'.pw.length cb') (.slice co' t'.qw.length cc')] w fun e w' => e = .returned (.bool true) ∧ Below w.heap.size w w' := by
  by_cases h2 : (t.bn.size : Int) + t.bs.size + t.bw.length + t.ps.size + t.pw.length + t.qs.size + t.qw.length ≤ 1048576
  · by_cases h3 : (t.bn.size : Int) + t.bs.size + t.bw.length + t.ps.size + t.pw.length + t.qs.size + t.qw.length + t'.bn.size + t'.bs.size + t'.bw.length + t'.ps.size + t'.pw.length + t'.qs.size + t'.qw.length ≤ 1048576
    · exact fnMsgSame_short t t' ao bo co ao' bo' co' ca cb cc ca' cb' cc' w h3 hm hm' hP (ha.1.ri (by omega)) (ha.2.1.ri (by omega)) (ha.2.2.ri (by omega)) (ha'.1.ri (by omega)) (ha'.2.1.ri (by omega)) (ha'.2.2.ri (by omega))
    · exact fnMsgSame_long2 t t' ao bo co ao' bo' co' ca cb cc ca' cb' cc' w h2 (by omega) hb2
  · exact fnMsgSame_long1 t t' ao bo co ao' bo' co' ca cb cc ca' cb' cc' w (by omega) hb1
end Go.Proofs.YtihaecmlfmfbfaaDoor
