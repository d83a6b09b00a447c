/- Lemmas; their conditions stand in each statement. -/
import Derived.Test.YtmpffkpilbbclaaGreatDoorSAAN
set_option maxRecDepth 100000
set_option maxHeartbeats 16000000
set_option linter.unusedSectionVars false
namespace Go.Proofs.YtmpffkpilbbclaaGreatDoor
section
open Go.RowKit
variable [∀ (a b c d : Int), Decidable (Ok4 a b c d)]
variable [∀ (n f : Int), Decidable (COk n f)]
theorem szPartS_no (al : Option Addr) (cl : Nat) (rs : List Pr) (left : Int) (w : World) (h : ATab w al rs) (hb : ∀ r ∈ rs, r.2.1.size ≤ maxLen ∧ r.2.2.2.2.length ≤ maxLen) (h0 : 0 ≤ left) (hm : rs.length ≤ maxLen) (hs : left < (rs.length : Int) + psum rs) (hl : left ≤ 1048576) :
 Calls Tryz.prog 22 #[.slice al rs.length cl,.int .i64 left] w fun e w' => e = .returned (.int .i64 (-1)) ∧ Below w.heap.size w w' := by
 obtain ⟨n, hn⟩ : ∃ n, rs.length = n:=⟨_, rfl⟩
 have Hn:=hide hn
 have H:=hide h
 have HB:=hide hb
 unfold maxLen at hm
 rw [hn] at hs hm ⊢
 clear hn h hb
 by_cases h1 : left < n
 ·have hd0 : decide (left - (n : Int) < 0) = true:=by simp; omega
  clear H HB
  go_enter Tryz.func22, Tryz.ntmps22
  go_wp2
  go_ret
  exact ⟨rfl, Below.refl _ _⟩
 have hd0 : decide (left - (n : Int) < 0) = false:=by simp; omega
 go_enter Tryz.func22, Tryz.ntmps22
 go_wp2
 go_loopw [1, 5] (fun a i wr => ∃ k : Nat, k ≤ n ∧ i = .int .i64 k ∧ a = .int .i64 (left - n - (psum (rs.take k) : Nat)) ∧ (psum (rs.take k) : Int) ≤ left - n ∧ Below w.heap.size w wr) (fun _ i _ => n - (intOf i).toNat)
 case atStart => exact ⟨0, Nat.zero_le _, rfl, by simp [psum], by simp [psum]; omega, Below.refl _ _⟩
 case round =>
  obtain ⟨k, hk, rfl, rfl, hp, br⟩:=hrel
  by_cases hlt : k < n
  ·have hkx : k < rs.length:=by have:=Hn.out; omega
   have HP1:=hide (psum_take rs k hkx)
   have hbk:=HB.out (rs.getD k prz) (by rw [List.getD_eq_getElem?_getD, List.getElem?_eq_getElem hkx]; exact List.getElem_mem hkx)
   rcases H.out with h | ⟨g, off, rfl, h⟩
   ·subst h; simp at hkx
   obtain ⟨c0, c1, c2⟩:=h k hkx
   have hg : g < w.heap.size:=cell_lt c0
   replace c0:=(br.cell (p:=⟨g, off + k * 3, none⟩) hg).trans c0
   replace c1:=(br.cell (p:=⟨g, off + k * 3 + 1, none⟩) hg).trans c1
   replace c2:=(br.cell (p:=⟨g, off + k * 3 + 2, none⟩) hg).trans c2
   clear h H HB
   generalize (rs.getD k prz).1 = m at *
   generalize (rs.getD k prz).2.1 = s at *
   generalize (rs.getD k prz).2.2.2.2.length = x at *
   generalize (rs.getD k prz).2.2.1 = ao at *
   generalize (rs.getD k prz).2.2.2.1 = ca at *
   generalize psum (rs.take k) = q at *
   obtain ⟨hb1, hb2⟩:=hbk
   unfold maxLen at hb1 hb2
   by_cases hfit : (s.size : Int) + x ≤ left - n - q
   ·have SZ:=hide fun w => szPart_yes m s ao x ca (left - n - q) w hfit (by omega)
    have hd1 : decide (left - (n : Int) - (q : Int) - (s.size : Int) - (x : Int) < 0) = false:=by simp; omega
    go_wp2_with fail
    refine (SZ.out _).mono ?_
    rintro e w1 ⟨rfl, b1⟩
    have B1:=bu br b1
    clear c0 c1 c2 SZ b1
    go_wp2
    go_roundw
    case rel => exact ⟨k + 1, by omega, by go_num, by rw [HP1.out]; simp; omega, by rw [HP1.out]; simp; omega, B1⟩
    case measure => simp [intOf]; omega
   have SZ:=hide fun w => szPart_no m s ao x ca (left - n - q) w (by omega) (by omega) (by omega) (by omega) (by omega)
   go_wp2_with fail
   refine (SZ.out _).mono ?_
   rintro e w1 ⟨rfl, b1⟩
   have B1:=bu br b1
   clear c0 c1 c2 SZ b1
   go_wp2
   go_ret
   exact ⟨rfl, B1⟩
  have hkn : rs.take k = rs:=List.take_of_length_le (by have:=Hn.out; omega)
  rw [hkn] at hp
  omega
theorem psum_each {rs : List Pr} {r : Pr} (h : r ∈ rs) : r.2.1.size + r.2.2.2.2.length ≤ psum rs := by
 induction rs with
 | nil => simp at h
 | cons x rs ih =>
  rcases List.mem_cons.1 h with rfl | h
  ·simp only [psum]; omega
  have:=ih h; simp only [psum]; omega
theorem prp_mem {rs : List Pr} {p : Pt} (h : p ∈ rs.map prp) : p.2.1.size + p.2.2.length ≤ psum rs := by
 obtain ⟨r, hr, rfl⟩:=List.mem_map.1 h
 exact psum_each hr
theorem ATab.below {W W' : World} {ao : Option Addr} {rs : List Pr} (h : ATab W ao rs) (hb : Below W.heap.size W W') : ATab W' ao rs := by
 rcases h with h | ⟨g, off, rfl, h⟩
 ·exact .inl h
 refine .inr ⟨g, off, rfl, fun k hk => ?_⟩
 obtain ⟨c0, c1, c2⟩:=h k hk
 have hg:=cell_lt c0
 exact ⟨(hb.cell (p := ⟨g, off + k * 3, none⟩) hg).trans c0, (hb.cell (p := ⟨g, off + k * 3 + 1, none⟩) hg).trans c1, (hb.cell (p := ⟨g, off + k * 3 + 2, none⟩) hg).trans c2⟩
def whos : List Pt → Nat
 | [] => 0
 | p :: ps => p.2.2.length + whos ps
theorem pend_sum (k : Nat) (ps : List Pt) : pend k ps = k + 2 * ps.length + whos ps := by
 induction ps generalizing k with
 | nil => simp [pend, whos]
 | cons p ps ih => simp only [pend, whos, ih, List.length_cons]; omega
end
section
open Go.RowKit
variable [∀ (a b c d : Int), Decidable (Ok4 a b c d)]
variable [∀ (n f : Int), Decidable (COk n f)]
variable [∀ (a b c d : Nat), Decidable (okN a b c d)]
variable [∀ (x : T4), Decidable (OkT x)]
theorem RT.form1 {w : World} {v : Value} {xs : List T4} (h : RT w v xs) : ∃ ao ca, v = .slice ao xs.length ca := by obtain ⟨_, ao, ca, e, _⟩ := h; exact ⟨ao, ca, e⟩
theorem eqRep_yes (t : RpT) (a b c d e a' b' c' d' e' : Value) (w : World) (hs : RSm t) (h : RRep w t a b c d e) (h' : RRep w t a' b' c' d' e') :
 Calls Tryz.prog 11 #[rpv t a b c d e, rpv t a' b' c' d' e'] w fun r w' => r = .returned (.bool true) ∧ Below w.heap.size w w' := by
 have HX:=hide h
 have HY:=hide h'
 have T1:=hide fun w h h' => eqSafe_yes t.vo t.lo t.n t.s a a' t.qw t.d w h h'
 have T2:=hide fun w h h' => eqTxS_yes b b' t.pool w h h'
 have T3:=hide fun w h h' => eqPartS_yes c c' t.tab w (by have:=hs.tb; omega) h h'
 have T4_:=hide fun w h h' => eqDisk_yes d d' t.dsk t.su w h h'
 have T5:=hide fun w h h' => eqPostS_yes e e' t.held w (by have:=hs.h; omega) h h'
 obtain ⟨oa, ka, rfl⟩:=h.q.form
 obtain ⟨ob, kb, rfl⟩:=RT.form1 h.p
 obtain ⟨oc, kc, rfl⟩:=h.tb.form
 obtain ⟨od, kd, rfl⟩:=RB.form1 h.d
 obtain ⟨oe, ke, rfl⟩:=h.h.form
 obtain ⟨oa', ka', rfl⟩:=h'.q.form
 obtain ⟨ob', kb', rfl⟩:=RT.form1 h'.p
 obtain ⟨oc', kc', rfl⟩:=h'.tb.form
 obtain ⟨od', kd', rfl⟩:=RB.form1 h'.d
 obtain ⟨oe', ke', rfl⟩:=h'.h.form
 clear h h' hs
 obtain ⟨w0, hw0, Bw0, A, B, zw0⟩:=bx2 w #[.int .i64 t.id,.int .i64 t.vw,.int .i64 t.ak,.int .i64 t.vo,.int .i64 t.lo,.int .i64 t.n,.string t.s,.slice oa t.qw.length ka,.string t.d,.slice ob t.pool.length kb,.slice oc t.tab.length kc,.slice od t.dsk.length kd,.int .i64 t.su,.slice oe t.held.length ke] 52 #[.int .i64 t.id,.int .i64 t.vw,.int .i64 t.ak,.int .i64 t.vo,.int .i64 t.lo,.int .i64 t.n,.string t.s,.slice oa' t.qw.length ka',.string t.d,.slice ob' t.pool.length kb',.slice oc' t.tab.length kc',.slice od' t.dsk.length kd',.int .i64 t.su,.slice oe' t.held.length ke'] 52
 go_enter Tryz.func11, Tryz.ntmps11
 obtain ⟨cA0,cA1,cA2⟩:=cc3 A 0 1 2
 obtain ⟨cB0,cB1,cB2⟩:=cc3 B 0 1 2
 go_wp2_with (first | (refine wloadM [.int .i64 t.vo, .int .i64 t.lo, .int .i64 t.n, .string t.s, .slice oa t.qw.length ka, .string t.d] (A.range 3 6 rfl) 46 _ rfl _ rfl rfl Tryz.underlying46 rfl (by kernel_rfl) ?_) | (refine wloadM [.int .i64 t.vo, .int .i64 t.lo, .int .i64 t.n, .string t.s, .slice oa' t.qw.length ka', .string t.d] (B.range 3 6 rfl) 46 _ rfl _ rfl rfl Tryz.underlying46 rfl (by kernel_rfl) ?_))
 clear hw0
 refine (T1.out _ (HX.out.q.below Bw0) (HY.out.q.below Bw0)).mono ?_
 rintro _ w1 ⟨rfl, bb⟩
 clear cA0 cA1 cA2 cB0 cB1 cB2
 have Bw1:=bu Bw0 bb
 have sw1:=bb.size
 replace A:=A.up bb
 replace B:=B.up bb
 clear Bw0 bb
 have cA9:=A.cell 9 rfl
 have cB9:=B.cell 9 rfl
 go_wp2_with fail
 refine (T2.out _ (HX.out.p.below Bw1) (HY.out.p.below Bw1)).mono ?_
 rintro _ w2 ⟨rfl, bb⟩
 clear cA9 cB9
 have Bw2:=bu Bw1 bb
 have sw2:=bb.size
 replace A:=A.up bb
 replace B:=B.up bb
 clear Bw1 bb
 have cA10:=A.cell 10 rfl
 have cB10:=B.cell 10 rfl
 go_wp2_with fail
 refine (T3.out _ (HX.out.tb.below Bw2) (HY.out.tb.below Bw2)).mono ?_
 rintro _ w3 ⟨rfl, bb⟩
 clear cA10 cB10
 have Bw3:=bu Bw2 bb
 have sw3:=bb.size
 replace A:=A.up bb
 replace B:=B.up bb
 clear Bw2 bb
 go_wp2_with (first | (refine wloadM [.slice od t.dsk.length kd, .int .i64 t.su] (A.range 11 2 rfl) 49 _ rfl _ rfl rfl Tryz.underlying49 rfl (by kernel_rfl) ?_) | (refine wloadM [.slice od' t.dsk.length kd', .int .i64 t.su] (B.range 11 2 rfl) 49 _ rfl _ rfl rfl Tryz.underlying49 rfl (by kernel_rfl) ?_))
 refine (T4_.out _ (HX.out.d.below Bw3) (HY.out.d.below Bw3)).mono ?_
 rintro _ w4 ⟨rfl, bb⟩
 have Bw4:=bu Bw3 bb
 have sw4:=bb.size
 replace A:=A.up bb
 replace B:=B.up bb
 clear Bw3 bb
 have cA13:=A.cell 13 rfl
 have cB13:=B.cell 13 rfl
 go_wp2_with fail
 refine (T5.out _ (HX.out.h.below Bw4) (HY.out.h.below Bw4)).mono ?_
 rintro _ w5 ⟨rfl, bb⟩
 clear cA13 cB13
 have Bw5:=bu Bw4 bb
 have sw5:=bb.size
 replace A:=A.up bb
 replace B:=B.up bb
 clear Bw4 bb
 go_wp2
 go_ret
 exact ⟨rfl, Bw5⟩
end
section
open Go.RowKit
theorem implQcFirst (w : World) : Calls Tryz.prog 172 #[] w fun e w' => e = .returned (qv 0 ⟨#[]⟩ (.slice none 0 0)) ∧ Below w.heap.size w w' := by
 go_enter Tryz.func172, Tryz.ntmps172
 go_wp2
 refine bodyPost_ret (v := qv 0 ⟨#[]⟩ (.slice none 0 0)) (by simp [results, Tryz.results172, go_sem]) rfl ?_
 exact ⟨rfl, qalloc _ _⟩
end
section
open Go.RowKit
variable [∀ (a b c d : Int), Decidable (Ok4 a b c d)]
variable [∀ (n f : Int), Decidable (COk n f)]
theorem tableOf_any (ao : Option Addr) (n ca : Nat) (w : World) :
 Calls Tryz.prog 140 #[.slice ao n ca] w fun e w' => e = .returned (.agg #[.slice ao n ca,.func (.func 147) #[] #[]]) ∧ Below w.heap.size w w' := by
 go_enter Tryz.func140, Tryz.ntmps140
 go_wp2
 refine bodyPost_ret (v := .agg #[.slice ao n ca,.func (.func 147) #[] #[]]) (by simp [results, Tryz.results140, go_sem]) rfl ?_
 exact ⟨rfl, (Below.refl _ _).alloc (Nat.le_refl _) _⟩
end
section
open Go Go.RowKit
section
variable {P : Program} {ops : Array Oper} {Q : Exit → Act → World → Prop} {md : Region.Mode} {S : World → Prop} {D : Nat → Bool}
def anyD (P : Program) (md : Region.Mode) (ops : Array Oper) (Q : Exit → Act → World → Prop) (S : World → Prop) (D : Nat → Bool) : Nat → Array Bool → Act → World → Prop
 | 0, l, a, w => Region.ready md ops l = [] ∧ Q .normal a w
 | n + 1, l, a, w => (Region.ready md ops l = [] → Q .normal a w) ∧ ∀ i ∈ Region.ready md ops l, wpOp P ops Q i (fun a' w' => (D i = false → S w → S w') ∧ anyD P md ops Q S D n (l.setIfInBounds i true) a' w') a w
theorem anyD.any : ∀ (n : Nat) (l : Array Bool) (a : Act) (w : World), anyD P md ops Q S D n l a w → wpAny P md ops Q n l a w
 | 0, _, _, _, h => h
 | n + 1, _, _, _, h => ⟨h.1, fun i hi => wpOp_mono (fun a' w' h' => anyD.any n _ a' w' h'.2) (h.2 i hi)⟩
theorem anyD.first {S' : World → Prop} {i : Nat} {oi : Oper} {v : Value} (hi : ops[i]? = some oi) (hsel : Region.noSelect ops = true) (hD : ∀ j oj, ops[j]? = some oj → (∀ e ∈ oj.after, Region.binds md e = true → e.on ≠ i) → ∀ w w', (D j = false → S w → S w') → S' w → S' w')
 (hQ : ∀ c a w, Q (.panic c) (a.put oi.dst v) w → Q (.panic c) a w) : ∀ (n : Nat) (l : Array Bool) (a : Act) (w : World),
 (∀ j oj, ops[j]? = some oj → j ≠ i → l.getD j true = false → (∀ e ∈ oj.after, Region.binds md e = true → e.on ≠ i) → oi.apart ops oj = true) → i ∈ Region.ready md ops l → YieldsIf P ops S' oi v a → S' w →
 anyD P md ops Q S D n (l.setIfInBounds i true) (a.put oi.dst v) w → anyD P md ops Q S D (n + 1) l a w := by
 intro n
 induction n with
 | zero =>
  intro l a w _ hr hy hS H
  refine ⟨fun h0 => (by rw [h0] at hr; cases hr), fun j hj => ?_⟩
  by_cases e : j = i
  ·rw [e]; exact hy.wpOp hi hS ⟨fun _ h => h, H⟩
  ·have:=ready_mono hj e
   rw [H.1] at this; cases this
 | succ n ih =>
  intro l a w hf hr hy hS H
  refine ⟨fun h0 => (by rw [h0] at hr; cases hr), fun j hj => ?_⟩
  by_cases e : j = i
  ·rw [e]; exact hy.wpOp hi hS ⟨fun _ h => h, H⟩
  obtain ⟨u1, oj, hoj, u2⟩:=mem_ready.1 hj
  have hli : l.getD i true = false:=(mem_ready.1 hr).1
  have un : ∀ x ∈ oj.after, Region.binds md x = true → x.on ≠ i:=fun x hx hb hq => by
   have h1:=u2 x hx hb
   rw [hq] at h1
   by_cases hs : i < l.size
   ·simp [Array.getD_eq_getD_getElem?, hs] at h1 hli
    rw [h1] at hli; cases hli
   simp [Array.getD_eq_getD_getElem?, Array.getElem?_eq_none (Nat.le_of_not_lt hs)] at h1
  have step:=wpOp_putIf hoj (hf j oj hoj e u1 un) (fun cs b => Region.noSelect_spec hsel i oi cs b hi) (fun cs b => Region.noSelect_spec hsel j oj cs b hoj) hQ hy (H.2 j (ready_mono hj e))
  refine wpOp_mono (fun a' w' h3 => ⟨h3.2.1, ih _ a' w' (fun k ok hk hki hun hno => hf k ok hk hki ?_ hno) (ready_mono hr (Ne.symm e)) h3.1 (hD j oj hoj un w w' h3.2.1 hS) ?_⟩) step
  ·by_cases hjk : j = k
   ·rw [← hjk]; exact u1
   rw [getD_set_ne true hjk] at hun; exact hun
  rw [Array.setIfInBounds_comm _ _ e]; exact h3.2.2
end
end
section
open Go Go.RowKit
variable [∀ (a b c d : Int), Decidable (Ok4 a b c d)]
variable [∀ (n f : Int), Decidable (COk n f)]
variable [∀ (a b c d : Nat), Decidable (okN a b c d)]
variable [∀ (x : T4), Decidable (OkT x)]
def OPCA (w : World) (ps : List PoT) (rows : List (List Value)) (cut : Nat → Nat) (k : Nat) : Prop := ∀ j, j < k → cut j ≤ cut (j + 1) ∧ ∃ a b c, rows.getD j [] = pocs (ps.getD j zpost).1 (ps.getD j zpost).2 a b c ∧ OM w (cut j) a b c (ps.getD j zpost).2.bw (ps.getD j zpost).2.pw (ps.getD j zpost).2.qw ∧ ∀ i, (a.ownBlock = some i ∨ b.ownBlock = some i ∨ c.ownBlock = some i) → i < cut (j + 1)
theorem OPCA.cuts {w : World} {ps : List PoT} {rows : List (List Value)} {cut : Nat → Nat} {k : Nat} (h : OPCA w ps rows cut k) : ∀ j, j ≤ k → cut 0 ≤ cut j
 | 0, _ => Nat.le_refl _
 | j + 1, hj => Nat.le_trans (h.cuts j (by omega)) (h j (by omega)).1
theorem OPCA.ends {w : World} {ps : List PoT} {rows : List (List Value)} {cut : Nat → Nat} {k : Nat} (h : OPCA w ps rows cut k) (d : Nat) : ∀ j, j + d = k → cut j ≤ cut k := by
 induction d with
 | zero => intro j e; rw [show j = k by omega]; exact Nat.le_refl _
 | succ d ih => intro j e; exact Nat.le_trans (h j (by omega)).1 (ih (j + 1) (by omega))
theorem OPCA.below {w w' : World} {ps : List PoT} {rows : List (List Value)} {cut : Nat → Nat} {k : Nat} (h : OPCA w ps rows cut k) (hb : Below w.heap.size w w') : OPCA w' ps rows cut k := fun j hj => by
 obtain ⟨c0, a, b, c, e, m, l⟩:=h j hj; exact ⟨c0, a, b, c, e, m.below hb, l⟩
theorem OPCA.kp {w w' : World} {X : Nat → Prop} {ps : List PoT} {rows : List (List Value)} {cut : Nat → Nat} {k : Nat} (h : OPCA w ps rows cut k) (hk : Kp w w' X) (hX : ∀ j, cut 0 ≤ j → j < cut k → ¬ X j) : OPCA w' ps rows cut k := fun j hj => by
 obtain ⟨c0, a, b, c, e, m, l⟩:=h j hj
 have h1:=h.cuts j (by omega)
 have h2:=h.ends (k - (j + 1)) (j + 1) (by omega)
 exact ⟨c0, a, b, c, e, m.kp hk (fun i hi _ ho => hX i (by omega) (Nat.lt_of_lt_of_le (l i ho) h2)), l⟩
def OPC (w : World) (base hi : Nat) (v : Value) (ps : List PoT) : Prop := ∃ rows cut, OG 123 18 w base v rows ∧ rows.length = ps.length ∧ (∀ j, v.ownBlock = some j → j < cut 0) ∧ base ≤ cut 0 ∧ cut ps.length ≤ hi ∧ OPCA w ps rows cut ps.length
theorem OPC.below {w w' : World} {base hi : Nat} {v : Value} {ps : List PoT} (h : OPC w base hi v ps) (hb : Below w.heap.size w w') : OPC w' base hi v ps := by
 obtain ⟨rows, cut, g, l, t, c0, c1, a⟩:=h; exact ⟨rows, cut, g.below hb, l, t, c0, c1, a.below hb⟩
theorem OPC.kp {w w' : World} {X : Nat → Prop} {base hi : Nat} {v : Value} {ps : List PoT} (h : OPC w base hi v ps) (k : Kp w w' X) (hX : ∀ j, base ≤ j → j < hi → ¬ X j) : OPC w' base hi v ps := by
 obtain ⟨rows, cut, g, l, t, c0, c1, a⟩:=h
 have h1:=a.cuts _ (Nat.le_refl _)
 exact ⟨rows, cut, g.kp k (fun j e => hX j (g.lt j e).1 (by have := t j e; omega)), l, t, c0, c1, a.kp k (fun j h2 h3 => hX j (by omega) (by omega))⟩
theorem OPC.mono {w : World} {base base' hi hi' : Nat} {v : Value} {ps : List PoT} (h : OPC w base hi v ps) (hb : base' ≤ base) (hh : hi ≤ hi') : OPC w base' hi' v ps := by
 obtain ⟨rows, cut, g, l, t, c0, c1, a⟩:=h; exact ⟨rows, cut, g.mono hb, l, t, by omega, by omega, a⟩
theorem OPC.opo {w : World} {base hi : Nat} {v : Value} {ps : List PoT} (h : OPC w base hi v ps) : OPo w base v ps := by
 obtain ⟨rows, cut, g, l, t, c0, c1, a⟩:=h
 exact ⟨rows, g, l, fun j hj => by obtain ⟨_, x, y, z, e, m, _⟩ := a j hj; exact ⟨x, y, z, e, m.mono (by have := a.cuts j (by omega); omega)⟩⟩
theorem OPC.form {w : World} {base hi : Nat} {v : Value} {ps : List PoT} (h : OPC w base hi v ps) : ∃ ao ca, v = .slice ao ps.length ca := h.opo.form
theorem OPC.none (w : World) (base hi : Nat) (h : base ≤ hi) : OPC w base hi (.slice none 0 0) [] := ⟨[], fun _ => base, OG.nil w base, rfl, fun j e => (by cases e), Nat.le_refl _, h, fun j hj => absurd hj (Nat.not_lt_zero j)⟩
theorem toPostC_any (v : Value) (ps : List PoT) (w : World) (hl : ps.length ≤ 1048577) (h : RPo w v ps) :
 Calls Tryz.prog 38 #[v] w fun e w' => ∃ u, e = .returned u ∧ OPC w' w.heap.size w'.heap.size u ps ∧ Below w.heap.size w w' := by
 obtain ⟨i0, hi, hz0, hz1, hz2⟩:=info_parts Tryz.infoPo
 obtain ⟨ao, ca, rfl⟩:=h.form
 have H:=hide h
 obtain ⟨n, hn⟩ : ∃ n, ps.length = n:=⟨_, rfl⟩
 have Hn:=hide hn
 rw [hn] at hl H ⊢
 clear h hn
 go_enter Tryz.func38, Tryz.ntmps38
 go_wp2_with (first | (at_make; refine wpList_make_full _ rfl _ _ 50 rfl w.heap.size 123 i0 (pov 0 zMT (.slice none 0 0) (.slice none 0 0) (.slice none 0 0)) 18 Tryz.underlying50 hi hz0 hz1 .i64 .i64 _ _ n rfl rfl rfl rfl (by rw [hz2]; omega) (by unfold maxLen; omega) (Nat.le_refl _) ?_; intro w0 ho0 hg0))
 have T0 : OG 123 18 w0 w.heap.size (.slice (some ⟨w.heap.size, 0, none⟩) n n) ([] ++ List.replicate (n - 0) (pocs 0 zMT (.slice none 0 0) (.slice none 0 0) (.slice none 0 0))):=OG.made (z:=#[.int .i64 0,.int .i64 zMT.k,.int .i64 zMT.vw,.string zMT.bn,.int .i64 zMT.bv,.string zMT.bs,.slice none 0 0,.int .i64 zMT.pv,.string zMT.ps,.slice none 0 0,.int .i64 zMT.qv,.string zMT.qs,.slice none 0 0,.int .i64 zMT.wh,.int .i64 zMT.fr,.int .i64 zMT.tu,.int .i64 zMT.am,.int .i64 zMT.no]) (by decide) ho0
 have B0 : Below w.heap.size w w0:=(Below.refl _ _).grown hg0 (Nat.le_refl _) (by simp)
 have z0 : w.heap.size + 1 ≤ w0.heap.size:=(T0.lt w.heap.size rfl).2
 clear ho0 hg0 hz0 hz1 hz2 hi
 go_loopw [4] (fun i wr => ∃ (k : Nat) (R : List (List Value)) (cut : Nat → Nat), k ≤ n ∧ i = .int .i64 k ∧ R.length = k ∧ OG 123 18 wr w.heap.size (.slice (some ⟨w.heap.size, 0, none⟩) n n) (R ++ List.replicate (n - k) (pocs 0 zMT (.slice none 0 0) (.slice none 0 0) (.slice none 0 0))) ∧ (cut 0 = w.heap.size + 1 ∧ cut k ≤ wr.heap.size ∧ OPCA wr ps R cut k) ∧ Below w.heap.size w wr ∧ w.heap.size + 1 ≤ wr.heap.size) (fun i _ => n - (intOf i).toNat)
 case atStart => exact ⟨0, [], fun _ => w.heap.size + 1, Nat.zero_le _, rfl, rfl, T0, ⟨rfl, z0, fun j hj => by omega⟩, B0, z0⟩
 case round =>
  clear T0 B0 z0
  obtain ⟨k, R, cut, hk, rfl, hR, T, ⟨cz, ck, A⟩, br, zr⟩:=hrel
  have CZ:=hide cz
  have CK:=hide ck
  clear cz ck
  by_cases hlt : k < n
  ·have hkx : k < ps.length:=by have:=Hn.out; omega
   have HR:=H.out.below br
   obtain ⟨g, off, cs, rfl, _, c1, a, b, c, e, ra, rb, rc⟩:=RG.at HR k hkx
   subst e
   obtain ⟨x, hx⟩ : ∃ x, ps.getD k zpost = x:=⟨_, rfl⟩
   have Hx:=hide hx
   rw [hx] at c1 ra rb rc
   clear hx
   obtain ⟨m, t⟩:=x
   simp only at c1 ra rb rc
   have TP:=hide fun w h1 h2 h3 => toPost_any m t a b c t.bw t.pw t.qw w h1 h2 h3
   obtain ⟨oa, ka, rfl⟩:=ra.form
   obtain ⟨ob, kb, rfl⟩:=rb.form
   obtain ⟨oc, kc, rfl⟩:=rc.form
   have RA:=hide ra
   have RB:=hide rb
   have RC:=hide rc
   have HT:=hide T
   have HA:=hide A
   have HRl:=hide hR
   generalize t.bw.length = xl at *
   generalize t.pw.length = yl at *
   generalize t.qw.length = zl at *
   clear HR H ra rb rc T A hR
   go_wp2_with (first | (refine wloadM _ c1 112 _ rfl _ rfl rfl Tryz.underlying112 rfl (by kernel_rfl) ?_))
   refine (TP.out _ RA.out RB.out RC.out).mono ?_
   rintro e w2 ⟨u, v, x, rfl, m2, b2⟩
   obtain ⟨aX, kX, bX, lX, cX, nX, rfl, rfl, rfl⟩:=m2.form
   have T2:=HT.out.below b2
   have A2:=HA.out.below b2
   have B2:=bu br b2
   have z2:=b2.size
   have hlen : (R ++ List.replicate (n - k) (pocs 0 zMT (.slice none 0 0) (.slice none 0 0) (.slice none 0 0))).length = n:=by have:=HRl.out; simp; omega
   obtain ⟨_, th⟩:=OG.at (g:=w.heap.size) (cap:=n) (by rw [hlen]; exact T2) k (by rw [hlen]; exact hlt)
   have ST:=hide (OG.set (m:=18) (g:=w.heap.size) (cap:=n) (by rw [hlen]; exact T2) (by decide) k (by rw [hlen]; exact hlt) (pocs m t (.slice aX t.bw.length kX) (.slice bX t.pw.length lX) (.slice cX t.qw.length nX)) rfl)
   have M2:=hide m2
   have A2h:=hide A2
   have BR:=hide B2
   clear T2 HT HA A2 B2 m2 RA RB RC TP c1 b2
   generalize t.bw.length = xl at *
   generalize t.pw.length = yl at *
   generalize t.qw.length = zl at *
   go_upto_region 4 with (refine wstoreM #[.int .i64 m,.int .i64 t.k,.int .i64 t.vw,.string t.bn,.int .i64 t.bv,.string t.bs,.slice aX xl kX,.int .i64 t.pv,.string t.ps,.slice bX yl lX,.int .i64 t.qv,.string t.qs,.slice cX zl nX,.int .i64 t.wh,.int .i64 t.fr,.int .i64 t.tu,.int .i64 t.am,.int .i64 t.no] th 123 rfl _ _ rfl rfl rfl (by kernel_rfl) (by simp [Value.oneCell']) ?_)
   obtain ⟨w3, h3⟩ : ∃ y, w2.setCells w.heap.size (k * 18) ([.int .i64 m, .int .i64 t.k, .int .i64 t.vw, .string t.bn, .int .i64 t.bv, .string t.bs, .slice aX xl kX, .int .i64 t.pv, .string t.ps, .slice bX yl lX, .int .i64 t.qv, .string t.qs, .slice cX zl nX, .int .i64 t.wh, .int .i64 t.fr, .int .i64 t.tu, .int .i64 t.am, .int .i64 t.no]) = y:=⟨_, rfl⟩
   rw [h3]
   rw [show pocs m t (.slice aX xl kX) (.slice bX yl lX) (.slice cX zl nX) = [.int .i64 m, .int .i64 t.k, .int .i64 t.vw, .string t.bn, .int .i64 t.bv, .string t.bs, .slice aX xl kX, .int .i64 t.pv, .string t.ps, .slice bX yl lX, .int .i64 t.qv, .string t.qs, .slice cX zl nX, .int .i64 t.wh, .int .i64 t.fr, .int .i64 t.tu, .int .i64 t.am, .int .i64 t.no] from rfl, h3] at ST
   clear h3
   go_wp2
   go_roundw
   case rel =>
    obtain ⟨S1, KS⟩:=ST.out
    rw [rows_step HRl.out hlt] at S1
    rw [hlen] at S1
    have hR:=HRl.out
    have cz:=CZ.out
    have ck:=CK.out
    have A2:=A2h.out
    have M2:=M2.out
    have lt2:=M2.lt
    have k3:=KS.size
    obtain ⟨cut2, hcl, hch⟩ : ∃ c2 : Nat → Nat, (∀ j, j ≤ k → c2 j = cut j) ∧ c2 (k + 1) = w2.heap.size:=⟨fun j => if j ≤ k then cut j else w2.heap.size, fun j hj => if_pos hj, if_neg (by omega)⟩
    refine ⟨k + 1, _, cut2, by omega, by go_num, by simp [hR], S1, ⟨(hcl 0 (by omega)).trans cz, by rw [hch]; exact k3, fun j hj => ?_⟩, Below.kp BR.out KS BR.out.size (fun i hi => by omega), by have := KS.size; omega⟩
    by_cases e : j < k
    ·obtain ⟨c0, x, y, z, e1, e2, e3⟩:=A2 j e
     have h0:=A2.cuts j (by omega)
     rw [hcl j (by omega), hcl (j + 1) (by omega)]
     refine ⟨c0, x, y, z, ?_, e2.kp KS (fun i h1 _ _ => by omega), e3⟩
     rw [List.getD_eq_getElem?_getD, List.getElem?_append_left (by omega), ← List.getD_eq_getElem?_getD]; exact e1
    obtain rfl : j = k:=by omega
    have h0:=A2.cuts j (Nat.le_refl _)
    rw [hcl j (Nat.le_refl _), hch]
    refine ⟨by omega, _, _, _, ?_, (by rw [Hx.out]; exact (M2.mono (by omega)).kp KS (fun i h1 _ _ => by omega)), fun i hi => ?_⟩
    ·rw [Hx.out, List.getD_eq_getElem?_getD, List.getElem?_append_right (by omega), hR, Nat.sub_self]; rfl
    rcases hi with hi | hi | hi
    ·exact (lt2.1 i hi).2
    ·exact (lt2.2.1 i hi).2
    exact (lt2.2.2 i hi).2
   case measure => simp [intOf]; omega
  obtain rfl : k = n:=by omega
  have T':=hide T
  have A':=hide A
  clear T A H
  go_wp2
  go_ret
  have A2:=A'.out
  have cz:=CZ.out
  have ck:=CK.out
  have hn2:=Hn.out
  refine ⟨_, rfl, ⟨R, cut, ?_, by rw [hR, Hn.out], fun j hj => ?_, by omega, by rw [hn2]; exact ck, by rw [hn2]; exact A2⟩, br⟩
  ·have:=T'.out
   rw [Nat.sub_self, List.replicate_zero, List.append_nil] at this
   exact this
  have h1 : some w.heap.size = some j:=hj
  cases h1
  omega
def pol (p : PoT) : Nat := 15 + p.2.bw.length + p.2.pw.length + p.2.qw.length
def pomk1 (q : Nat) (p : PoT) : PoT := ((q : Int), ⟨q + 1, q + 2, markT (q + 3), q + 4, markT (q + 5), imarks (q + 6) p.2.bw.length, ((q + 6 + p.2.bw.length : Nat) : Int), markT (q + 6 + p.2.bw.length + 1), imarks (q + 6 + p.2.bw.length + 2) p.2.pw.length, ((q + 8 + p.2.bw.length + p.2.pw.length : Nat) : Int), markT (q + 8 + p.2.bw.length + p.2.pw.length + 1), imarks (q + 8 + p.2.bw.length + p.2.pw.length + 2) p.2.qw.length, ((q + 10 + p.2.bw.length + p.2.pw.length + p.2.qw.length : Nat) : Int), ((q + 11 + p.2.bw.length + p.2.pw.length + p.2.qw.length : Nat) : Int), ((q + 12 + p.2.bw.length + p.2.pw.length + p.2.qw.length : Nat) : Int), ((q + 13 + p.2.bw.length + p.2.pw.length + p.2.qw.length : Nat) : Int), ((q + 14 + p.2.bw.length + p.2.pw.length + p.2.qw.length : Nat) : Int)⟩)
def pomk : Nat → List PoT → List PoT
 | _, [] => []
 | k, p :: ps => pomk1 k p :: pomk (k + pol p) ps
def poend : Nat → List PoT → Nat
 | k, [] => k
 | k, p :: ps => poend (k + pol p) ps
theorem pomk_len (k : Nat) (ps : List PoT) : (pomk k ps).length = ps.length := by
 induction ps generalizing k with
 | nil => rfl
 | cons p ps ih => simp [pomk, ih]
theorem pomk_snoc (k : Nat) (ps : List PoT) (p : PoT) : pomk k (ps ++ [p]) = pomk k ps ++ [pomk1 (poend k ps) p] ∧ poend k (ps ++ [p]) = poend k ps + pol p := by
 induction ps generalizing k with
 | nil => exact ⟨rfl, rfl⟩
 | cons x ps ih => simp only [List.cons_append, pomk, poend, (ih _).1, (ih _).2]; exact ⟨trivial, trivial⟩
theorem poend_take (k0 : Nat) (ps : List PoT) (k : Nat) (hk : k < ps.length) : poend k0 (ps.take (k + 1)) = poend k0 (ps.take k) + pol (ps.getD k zpost) := by
 rw [List.take_succ_eq_append_getElem hk, (pomk_snoc _ _ _).2]
 simp [List.getElem?_eq_getElem hk]
theorem poend_ge (k0 : Nat) (ps : List PoT) : k0 ≤ poend k0 ps := by
 induction ps generalizing k0 with
 | nil => exact Nat.le_refl _
 | cons p ps ih => have := ih (k0 + pol p); simp only [poend]; omega
theorem poend_le (k0 : Nat) (ps : List PoT) (k : Nat) : poend k0 (ps.take k) ≤ poend k0 ps := by
 induction ps generalizing k0 k with
 | nil => simp [poend]
 | cons p ps ih =>
  cases k with
  | zero => simp only [List.take_zero, poend]; have := poend_ge (k0 + pol p) ps; omega
  | succ k => simp only [List.take_succ_cons, poend]; exact ih _ _
def pomix (k0 k : Nat) (ps : List PoT) : List PoT := pomk k0 (ps.take k) ++ ps.drop k
theorem pomix_len (k0 k : Nat) (ps : List PoT) (h : k ≤ ps.length) : (pomix k0 k ps).length = ps.length := by
 simp [pomix, pomk_len]; omega
theorem pomix_get (k0 k : Nat) (ps : List PoT) (h : k < ps.length) : (pomix k0 k ps).getD k zpost = ps.getD k zpost := by
 have hl : (pomk k0 (ps.take k)).length = k:=by rw [pomk_len]; simp; omega
 unfold pomix
 rw [List.getD_eq_getElem?_getD, List.getElem?_append_right (by omega), hl, Nat.sub_self, List.getElem?_drop, Nat.add_zero, ← List.getD_eq_getElem?_getD]
theorem pomix_set (k0 k : Nat) (ps : List PoT) (h : k < ps.length) : (pomix k0 k ps).set k (pomk1 (poend k0 (ps.take k)) (ps.getD k zpost)) = pomix k0 (k + 1) ps := by
 have hl : (pomk k0 (ps.take k)).length = k:=by rw [pomk_len]; simp; omega
 unfold pomix
 rw [List.set_append_right _ _ (by omega), hl, Nat.sub_self, List.drop_eq_getElem_cons h, List.set_cons_zero, List.take_succ_eq_append_getElem h, (pomk_snoc _ _ _).1, List.append_assoc]
 simp [List.getElem?_eq_getElem h]
theorem OG.put {T : TypeId} {m : Nat} {w : World} {base g cap n : Nat} {rows : List (List Value)} {k : Nat} {r : List Value} (h : OG T m w base (.slice (some ⟨g, 0, none⟩) n cap) (rows.set k r)) (he : ∀ c ∈ rows, c.length = m) (hn : rows.length = n) (hk : k < rows.length) (j : Nat) (hj : j < m) (v : Value) :
 OG T m (w.setCell ⟨g, k * m + j, none⟩ v) base (.slice (some ⟨g, 0, none⟩) n cap) (rows.set k (r.set j v)) := by
 have hl : (rows.set k r).length = n:=by rw [List.length_set, hn]
 have hr : r.length = m:=h.each r (List.mem_set hk r)
 have row:=h.row
 rw [hl] at row
 have st:=(row.stored (k * m + j) v).1
 have e : (rows.set k r).flatten.set (k * m + j) v = (rows.set k (r.set j v)).flatten:=by
  have hc : (r.set j v).length = m:=by rw [List.length_set, hr]
  have hk2 : k < (rows.set k r).length:=by rw [List.length_set]; exact hk
  have h1:=putAt_flat h.each hk2 hc (by omega)
  rw [List.set_set] at h1
  rw [← h1]
  apply List.ext_getElem?
  intro i
  rw [putAt_get, hc, rows_len h.each, List.getElem?_set, rows_len h.each, List.length_set]
  have hlt : k * m + m ≤ rows.length * m:=by rw [← Nat.succ_mul]; exact Nat.mul_le_mul_right m hk
  by_cases hi : k * m + j = i
  ·subst hi
   rw [if_pos rfl, if_pos (by omega), if_pos (by omega), show k * m + j - k * m = j by omega, List.getElem?_set_self (by omega)]
  rw [if_neg hi]
  by_cases h2 : k * m ≤ i ∧ i < k * m + m ∧ i < rows.length * m
  ·rw [if_pos h2]
   have:=rows_get h.each k (i - k * m) (by omega)
   rw [show k * m + (i - k * m) = i by omega, List.getElem?_set_self hk] at this
   rw [this, List.getElem?_set_ne (by omega)]
   rfl
  rw [if_neg h2]
 refine ⟨fun c hc => ?_, by rw [List.length_set, hn, ← e]; exact st⟩
 rcases List.mem_or_eq_of_mem_set hc with x | x
 ·exact he c x
 rw [x, List.length_set, hr]
end
end Go.Proofs.YtmpffkpilbbclaaGreatDoor
