/- Lemmas, as stated. -/
import Derived.Test.YtjdchloechcclaaGreatDoorSNAO
set_option maxRecDepth 100000
set_option maxHeartbeats 16000000
set_option linter.unusedSectionVars false
set_option linter.unusedSimpArgs false
namespace Go.Proofs.YtjdchloechcclaaGreatDoor
section
open Go.RowKit
theorem qtold_at (g o : Nat) (n : Int) (s : ByteArray) (ao : Option Addr) (ca : Nat) (xs : List Int) (w : World) (hg : w.rangeAt g o [.int .i64 n, .string s, .slice ao xs.length ca]) (ha : RI w (.slice ao xs.length ca) xs) (hs : s.size ≤ 281474976710656) :
 Calls Tryz.prog 149 #[.pointer (some ⟨g, o, none⟩)] w fun e w' => ∃ u, e = .returned (qv n s u) ∧ OI w' w.heap.size u xs ∧ Below w.heap.size w w' := by
 have CL:=hide fun w => clone_any s w hs
 have hgl:=rangeAt_lt hg (by simp)
 obtain ⟨w0, hw0⟩ : ∃ w0, w.alloc zq = w0:=⟨_, rfl⟩
 have B0 : Below w.heap.size w w0:=hw0 ▸ qalloc _ _
 have Z0 : Loc w0 w.heap.size #[.int .i64 0,.string ⟨#[]⟩,.slice none 0 0]:=hw0 ▸ loc_at w _ _ rfl
 have s0 : w0.heap.size = w.heap.size + 1:=by rw [← hw0]; simp
 have G0:=rangeAt_below hg B0 hgl
 have G0l:=rangeAt_lt G0 (by simp)
 have K : Hid (∀ w', Below w0.heap.size w0 w' → Below w0.heap.size w0 w' ∧ w'.cell? ⟨g, o, none⟩ = some (.int .i64 n) ∧ w'.cell? ⟨g, o + 1, none⟩ = some (.string s)):=hide fun w' hb =>
  ⟨hb, rangeAt_cell (rangeAt_below G0 hb G0l) 0 rfl, rangeAt_cell (rangeAt_below G0 hb G0l) 1 rfl⟩
 have RA:=hide ha
 have HZ:=hide Z0
 have HG:=hide G0
 clear ha hg Z0 G0 G0l
 go_enter Tryz.func149, Tryz.ntmps149
 go_upto_region 1 with fail
 clear hw0
 go_cut [3] (fun c wx => ∃ h, c = .pointer (some ⟨h, 0, none⟩) ∧ w0.heap.size ≤ h ∧ Loc wx h #[.int .i64 n,.string s,.slice none 0 0] ∧ Below w0.heap.size w0 wx)
 case first =>
  clear HZ HG RA
  refine wrn K (Below.drew (Below.refl _ _)) (fun hHeld => ?_)
  obtain ⟨wd, hd⟩ : ∃ wd, w0.drew = wd:=⟨_, rfl⟩
  have bd : Below w0.heap.size w0 wd:=hd ▸ Below.drew (Below.refl _ _)
  have szd:=bd.size
  rw [hd] at hHeld ⊢
  clear hd
  refine tx 0 4 ?_
  refine tx 1 5 ?_
  refine tx 2 6 ?_
  refine tx 3 7 ?_
  refine tx 4 8 ?_
  refine tx 5 9 ?_
  refine tx 6 10 ?_
  refine tx 7 11 ?_
  refine wpAnyH_ready (rs := [8, 10]) (by kernel_rfl) (by simp) (AllReadyH.cons rfl (fun KK hKK => ?_) (AllReadyH.cons rfl (fun KK hKK => ?_) AllReadyH.nil))
  ·go_simp
   refine (CL.out _).mono ?_
   rintro e wc1 ⟨rfl, bnew⟩
   have bc1 : Below w0.heap.size w0 wc1:=bu bd bnew
   have zzwc1:=bnew.size
   clear hHeld bnew
   refine hKK.out _ _ (K.out _ bc1) (fun hHeld => ?_)
   clear hKK KK
   refine tx 9 13 ?_
   refine rd 10 rfl (fun KK hKK => ?_)
   go_simp
   obtain ⟨wl2, hwl2⟩ : ∃ x, wc1.alloc (.cells #[.int .i64 0,.string ⟨#[]⟩,.slice none 0 0] 38) = x:=⟨_, rfl⟩
   have bl2 : Below w0.heap.size w0 wl2:=hwl2 ▸ bc1.alloc bc1.size _
   have lg : Loc wl2 wc1.heap.size #[.int .i64 0,.string ⟨#[]⟩,.slice none 0 0]:=hwl2 ▸ loc_at wc1 _ _ rfl
   rw [hwl2]
   clear hHeld hwl2
   refine hKK.out _ _ (K.out _ bl2) (fun hHeld => ?_)
   clear hKK KK
   have q0:=lg.cell 0 rfl
   have q1:=lg.cell 1 rfl
   have q2:=lg.cell 2 rfl
   have FG:=lg.frozen
   refine rd 11 rfl (fun KK hKK => ?_)
   go_simp
   have bs : Below w0.heap.size w0 (((wl2.setCell ⟨wc1.heap.size, 0, none⟩ (.int .i64 n)).setCell ⟨wc1.heap.size, 1, none⟩ (.string s)).setCell ⟨wc1.heap.size, 2, none⟩ (.slice none 0 0)):=Below.set (Below.set (Below.set bl2 _ _ (by omega)) _ _ (by omega)) _ _ (by omega)
   clear hHeld
   refine hKK.out _ _ (K.out _ bs) (fun hHeld => ?_)
   clear hKK KK hHeld
   refine wdn ?_
   go_wp2_with fail
   go_meet
   exact ⟨_, rfl, by omega, ((lg.set 0 _ rfl).set 1 _ rfl).set 2 _ rfl, bs⟩
  go_simp
  obtain ⟨wl3, hwl3⟩ : ∃ x, wd.alloc (.cells #[.int .i64 0,.string ⟨#[]⟩,.slice none 0 0] 38) = x:=⟨_, rfl⟩
  have bl3 : Below w0.heap.size w0 wl3:=hwl3 ▸ bd.alloc bd.size _
  have lg : Loc wl3 wd.heap.size #[.int .i64 0,.string ⟨#[]⟩,.slice none 0 0]:=hwl3 ▸ loc_at wd _ _ rfl
  rw [hwl3]
  clear hHeld hwl3
  refine hKK.out _ _ (K.out _ bl3) (fun hHeld => ?_)
  clear hKK KK
  refine rd 8 rfl (fun KK hKK => ?_)
  go_simp
  refine (CL.out _).mono ?_
  rintro e wc4 ⟨rfl, bnew⟩
  have bc4 : Below w0.heap.size w0 wc4:=bu bl3 bnew
  have zzwc4:=bnew.size
  have lg:=lg.up bnew
  clear hHeld bnew
  refine hKK.out _ _ (K.out _ bc4) (fun hHeld => ?_)
  clear hKK KK
  refine tx 9 13 ?_
  have q0:=lg.cell 0 rfl
  have q1:=lg.cell 1 rfl
  have q2:=lg.cell 2 rfl
  have FG:=lg.frozen
  refine rd 11 rfl (fun KK hKK => ?_)
  go_simp
  have bs : Below w0.heap.size w0 (((wc4.setCell ⟨wd.heap.size, 0, none⟩ (.int .i64 n)).setCell ⟨wd.heap.size, 1, none⟩ (.string s)).setCell ⟨wd.heap.size, 2, none⟩ (.slice none 0 0)):=Below.set (Below.set (Below.set bc4 _ _ (by omega)) _ _ (by omega)) _ _ (by omega)
  clear hHeld
  refine hKK.out _ _ (K.out _ bs) (fun hHeld => ?_)
  clear hKK KK hHeld
  refine wdn ?_
  go_wp2_with fail
  go_meet
  exact ⟨_, rfl, by omega, ((lg.set 0 _ rfl).set 1 _ rfl).set 2 _ rfl, bs⟩
 case rest =>
 obtain ⟨h, rfl, hh, LH, bw⟩:=hcut
 have G1:=rangeAt_below HG.out bw (rangeAt_lt HG.out (by simp))
 have Z1:=HZ.out.below bw HZ.out.lt
 have R1:=RA.out
 have B1 : Below w.heap.size w wc:=bu B0 bw
 have s1:=bw.size
 have l1:=LH.lt
 have x2:=rangeAt_cell G1 2 rfl
 have y0:=Z1.cell 0 rfl
 have y1:=Z1.cell 1 rfl
 have y2:=Z1.cell 2 rfl
 have fy:=Z1.frozen
 have h0:=LH.cell 0 rfl
 have h1:=LH.cell 1 rfl
 have h2:=LH.cell 2 rfl
 have fh:=LH.frozen
 have hl:=R1.1
 clear HG HZ RA K CL bw B0
 by_cases hx : xs = []
 ·subst hx
  go_wp2
  refine bodyPost_ret (v := qv n s (.slice none 0 0)) (by simp [results, Tryz.results149, go_sem, y0, y1, y2]) rfl ?_
  exact ⟨_, rfl, World.ownsRow_nil _ _ _ _, Below.set (Below.set (Below.set B1 _ _ (Nat.le_refl _)) _ _ (Nat.le_refl _)) _ _ (Nat.le_refl _)⟩
 have hp : 0 < xs.length:=List.length_pos_iff.2 hx
 obtain ⟨cs, hcs⟩ : ∃ cs, xs.map (Value.int .i64) = cs:=⟨_, rfl⟩
 have hcl : cs.length = xs.length:=by rw [← hcs]; simp
 have hone : ∀ v ∈ cs, v.oneCell' = true:=by rw [← hcs]; exact ints_plain64 xs
 obtain ⟨ad, rfl, hcells⟩ : ∃ ad, ao = some ad ∧ ∀ j u, cs[j]? = some u → w.cell? (ad.add j) = some u:=by
  obtain ⟨_, ao', ca', e, hr⟩:=R1
  cases e
  rcases hr with rfl | ⟨b, off, rfl, hr⟩
  ·exact absurd rfl hx
  exact ⟨_, rfl, hcs ▸ inews_cells hr⟩
 have hrows : ∀ w', Below w.heap.size w w' → ∀ j u, cs[j]? = some u → w'.cell? (ad.add j) = some u:=fun w' hb j u hj => (hb.cell (cell_lt (hcells j u hj))).trans (hcells j u hj)
 have HR:=hide hrows
 have HC:=hide hcs
 obtain ⟨i0, hi, hz0, hz1, hz2⟩:=info_parts Tryz.info3
 obtain ⟨m, hm⟩ : ∃ m, xs.length = m:=⟨_, rfl⟩
 rw [hm] at hl hcl hp x2 G1
 have Hm:=hide hm
 clear R1 hcells hrows hcs hm hx
 have hgt : decide ((0 : Int) < (m : Int)) = true:=by simpa using hp
 go_upto_region 4 with (first | (at_make; refine wpList_make_full _ rfl _ _ 24 rfl wc.heap.size 3 i0 (.int .i64 0) 1 Tryz.underlying24 hi hz0 hz1 .i64 .i64 m m m rfl rfl rfl rfl (by rw [hz2]; omega) (by unfold maxLen; omega) (Nat.le_refl _) ?_; intro w2 ho2 hg2
                                 have b2 : Below wc.heap.size wc w2:=(Below.refl _ _).grown hg2 (Nat.le_refl _) (by simp)
                                 have L2:=LH.up b2
                                 have k2:=L2.cell 2 rfl
                                 have f2:=L2.frozen))
 obtain ⟨hlen, hrow⟩:=ho2
 rcases hrow with ⟨e, _⟩ | ⟨row, cap, cur, e, hrb, hrh, _, hcm, hcz, hct⟩
 ·cases e
 cases e
 have hlt2 : wc.heap.size < w2.heap.size:=(Array.getElem?_eq_some_iff.1 hrh).1
 obtain ⟨w3, hw3⟩ : ∃ w3, w2.setCell ⟨h, 2, none⟩ (.slice (some ⟨wc.heap.size, 0, none⟩) m m) = w3:=⟨_, rfl⟩
 have B3 : Below w.heap.size w w3:=hw3 ▸ Below.set (bu B1 b2) (g:=h) 2 _ (by omega)
 have K3 : Kp w2 w3 (fun k => k = h):=hw3 ▸ set_kp w2 h 2 _
 have L3 : Loc w3 h #[.int .i64 n,.string s,.slice (some ⟨wc.heap.size, 0, none⟩) m m]:=hw3 ▸ L2.set 2 _ rfl
 have Z3:=(Z1.up b2).kp K3 (by omega)
 have G1l:=rangeAt_lt G1 (by simp)
 have G3:=rangeAt_kp (rangeAt_below G1 b2 G1l) K3 (by omega)
 have H3 : w3.heap[wc.heap.size]? = some (.cells cur.toList.toArray 3 (0, 0)):=by rw [K3.block _ hlt2 (by omega)]; simpa using hrh
 have c3:=HR.out w3 B3
 have z3:=K3.size
 have p2:=L3.cell 2 rfl
 have q2:=rangeAt_cell G3 2 rfl
 have hcz' : cur.toList.length = m:=by simpa using hcz
 rw [hw3]
 clear hw3 k2 f2 h0 h1 h2 fh y0 y1 y2 fy x2
 have H3h:=hide H3
 have C3:=hide c3
 go_region_law (refine step_copy_splice rfl (.tmp 28) (.tmp 32) 24 24 rfl 3 Tryz.underlying24 (by rw [hi]; simp [hz1]) (some ⟨wc.heap.size, 0, none⟩) (some ad) m m m ca (by simp [Act.eval]) (by simp [Act.eval]) wc.heap.size 0 cur.toList 3 H3h.out cs (by rw [hcl]; simp) (fun _ => ⟨rfl, _, rfl, C3.out⟩) (by omega) hone wc.heap.size w3 ⟨rfl, rfl, rfl, Nat.le_refl _, fun _ _ => rfl⟩ (Nat.le_refl _) ?_; intro w4 hg4 hb4)
 all_goals
  have L4:=L3.below hb4 l1
  have Z4:=Z3.below hb4 (by omega)
  have B4 : Below w.heap.size w w4:=B3.trans (hb4.mono (by omega))
  have h0:=L4.cell 0 rfl
  have h1:=L4.cell 1 rfl
  have h2:=L4.cell 2 rfl
  have y0:=Z4.cell 0 rfl
  have y1:=Z4.cell 1 rfl
  have y2:=Z4.cell 2 rfl
  have fy:=Z4.frozen
  have O4 : OI w4 w.heap.size (.slice (some ⟨wc.heap.size, 0, none⟩) m m) xs:=by
   refine ⟨by rw [Hm.out]; simp [Hm.out], .inr ⟨wc.heap.size, m, _, by rw [Hm.out], by omega, hg4.out, by rw [Hm.out]; exact Nat.le_refl _, hcm, ?_, ?_⟩⟩
   ·rw [List.size_toArray, length_splice _ _ _ (by omega), hcz', Nat.mul_one]
   rw [HC.out]; simp [splice, Hm.out, hcl]
  have HO:=hide O4
  clear L3 Z3 G3 H3 c3 p2 q2 K3 L4 Z4 O4 hg4 hb4 LH Z1 G1 G1l b2 L2 hlen hct hcz hrh
  go_wp2
  refine bodyPost_ret (v := qv n s (.slice (some ⟨wc.heap.size, 0, none⟩) m m)) (by simp [results, Tryz.results149, go_sem, y0, y1, y2]) rfl ?_
  have K5 : Kp w4 (((w4.setCell ⟨w.heap.size, 0, none⟩ (.int .i64 n)).setCell ⟨w.heap.size, 1, none⟩ (.string s)).setCell ⟨w.heap.size, 2, none⟩ (.slice (some ⟨wc.heap.size, 0, none⟩) m m)) (fun k => k = w.heap.size):=((set_kp _ _ _ _).trans (set_kp _ _ _ _)).trans (set_kp _ _ _ _)
  exact ⟨_, rfl, HO.out.kp K5 (fun k hk => by simp [Value.ownBlock] at hk; omega), Below.set (Below.set (Below.set B4 _ _ (Nat.le_refl _)) _ _ (Nat.le_refl _)) _ _ (Nat.le_refl _)⟩
end
section
open Go.RowKit
variable [∀ (a b c d : Int), Decidable (Ok4 a b c d)]
variable [∀ (n f : Int), Decidable (COk n f)]
theorem ptold_any (n : Int) (s : ByteArray) (v : Value) (xs : List Int) (w : World) (h : RI w v xs) (hs : s.size ≤ 281474976710656) :
 Calls Tryz.prog 334 #[qv n s v] w fun e w' => ∃ u, e = .returned (qv n s u) ∧ OI w' w.heap.size u xs ∧ Below w.heap.size w w' := by
 obtain ⟨ao, ca, rfl⟩:=h.form
 obtain ⟨w0, hw0⟩ : ∃ y, ((w.alloc (.cells #[.int .i64 n,.string s,.slice ao xs.length ca] 69)).alloc zpo).alloc (.cells #[.int .i64 n,.string s,.slice ao xs.length ca] 38) = y:=⟨_, rfl⟩
 have B0 : Below w.heap.size w w0:=hw0 ▸ ((qalloc2 _ _ _).alloc (by simp; omega) _)
 have LZ : Loc w0 (w.heap.size + 1) #[.int .i64 0,.string ⟨#[]⟩,.slice none 0 0]:=hw0 ▸ (loc_at (w.alloc _) _ _ (by simp)).alloc _
 have LQ : Loc w0 (w.heap.size + 1 + 1) #[.int .i64 n,.string s,.slice ao xs.length ca]:=hw0 ▸ (loc_at ((w.alloc _).alloc _) _ _ (by simp))
 have s0 : w0.heap.size = w.heap.size + 1 + 1 + 1:=by rw [← hw0]; simp
 have TO:=hide (qtold_any (w.heap.size + 1 + 1) n s ao ca xs w0 LQ (h.below B0) hs)
 have HZ:=hide LZ
 clear h LZ LQ
 go_enter Tryz.func334, Tryz.ntmps334
 go_wp2_with fail
 clear hw0
 refine TO.out.mono ?_
 rintro e w2 ⟨u, rfl, o2, b2⟩
 have B2 : Below w.heap.size w w2:=bu B0 b2
 have Z2:=HZ.out.below b2 HZ.out.lt
 have y0:=Z2.cell 0 rfl
 have y1:=Z2.cell 1 rfl
 have y2:=Z2.cell 2 rfl
 have fy:=Z2.frozen
 have lt2:=World.ownsRow.lt o2
 obtain ⟨ua, uc, rfl⟩:=o2.form
 have O2:=hide o2
 clear o2 b2 Z2 HZ TO
 go_wp2
 refine bodyPost_ret (v := qv n s (.slice ua xs.length uc)) (by simp [results, Tryz.results334, go_sem, y0, y1, y2]) rfl ?_
 have K5 : Kp w2 (((w2.setCell ⟨w.heap.size + 1, 0, none⟩ (.int .i64 n)).setCell ⟨w.heap.size + 1, 1, none⟩ (.string s)).setCell ⟨w.heap.size + 1, 2, none⟩ (.slice ua xs.length uc)) (fun k => k = w.heap.size + 1):=((set_kp _ _ _ _).trans (set_kp _ _ _ _)).trans (set_kp _ _ _ _)
 exact ⟨_, rfl, (O2.out.kp K5 (fun k hk => by have := lt2 k hk; omega)).mono (by omega), Below.kp B2 K5 B2.size (fun k hk => by omega)⟩

theorem tableOf_any (ao : Option Addr) (n ca : Nat) (w : World) :
 Calls Tryz.prog 144 #[.slice ao n ca] w fun e w' => e = .returned (.agg #[.slice ao n ca,.func (.func 176) #[] #[]]) ∧ Below w.heap.size w w' := by
 go_enter Tryz.func144, Tryz.ntmps144
 go_wp2
 refine bodyPost_ret (v := .agg #[.slice ao n ca,.func (.func 176) #[] #[]]) (by simp [results, Tryz.results144, go_sem]) rfl ?_
 exact ⟨rfl, (Below.refl _ _).alloc (Nat.le_refl _) _⟩
end
section
open Go Go.RowKit
section
variable {P : Program} {ops : Array Oper} {Q : Exit → Act → World → Prop} {md : Region.Mode} {S : World → Prop} {D : Nat → Bool}
def anyD (P : Program) (md : Region.Mode) (ops : Array Oper) (Q : Exit → Act → World → Prop) (S : World → Prop) (D : Nat → Bool) : Nat → Array Bool → Act → World → Prop
 | 0, l, a, w => Region.ready md ops l = [] ∧ Q .normal a w
 | n + 1, l, a, w => (Region.ready md ops l = [] → Q .normal a w) ∧ ∀ i ∈ Region.ready md ops l, wpOp P ops Q i (fun a' w' => (D i = false → S w → S w') ∧ anyD P md ops Q S D n (l.setIfInBounds i true) a' w') a w
theorem anyD.any : ∀ (n : Nat) (l : Array Bool) (a : Act) (w : World), anyD P md ops Q S D n l a w → wpAny P md ops Q n l a w
 | 0, _, _, _, h => h
 | n + 1, _, _, _, h => ⟨h.1, fun i hi => wpOp_mono (fun a' w' h' => anyD.any n _ a' w' h'.2) (h.2 i hi)⟩
def lateB (md : Region.Mode) (ops : Array Oper) (D : Nat → Bool) (i : Nat) : Bool := (List.range ops.size).all fun j => !D j || (match ops[j]? with | some o => o.after.any (fun e => Region.binds md e && e.on == i) | none => true)
theorem lateB_spec {i j : Nat} {o : Oper} (h : lateB md ops D i = true) (ho : ops[j]? = some o) (hd : D j = true) : ∃ e ∈ o.after, Region.binds md e = true ∧ e.on = i := by
 have hj : j < ops.size:=(Array.getElem?_eq_some_iff.1 ho).1
 have h1:=List.all_eq_true.1 h j (List.mem_range.2 hj)
 rw [hd, ho] at h1
 simp only [Bool.not_true, Bool.false_or, Array.any_eq_true', Bool.and_eq_true, beq_iff_eq] at h1
 exact h1
theorem anyD.first {S' : World → Prop} {i : Nat} {oi : Oper} {v : Value} (hi : ops[i]? = some oi) (hsel : Region.noSelect ops = true) (hD : ∀ j oj, ops[j]? = some oj → (∀ e ∈ oj.after, Region.binds md e = true → e.on ≠ i) → ∀ w w', (D j = false → S w → S w') → S' w → S' w')
 (hQ : ∀ c a w, Q (.panic c) (a.put oi.dst v) w → Q (.panic c) a w) : ∀ (n : Nat) (l : Array Bool) (a : Act) (w : World),
 (∀ j oj, ops[j]? = some oj → j ≠ i → l.getD j true = false → (∀ e ∈ oj.after, Region.binds md e = true → e.on ≠ i) → oi.apart ops oj = true) → i ∈ Region.ready md ops l → YieldsIf P ops S' oi v a → S' w →
 anyD P md ops Q S D n (l.setIfInBounds i true) (a.put oi.dst v) w → anyD P md ops Q S D (n + 1) l a w := by
 intro n
 induction n with
 | zero =>
  intro l a w _ hr hy hS H
  refine ⟨fun h0 => (by rw [h0] at hr; cases hr), fun j hj => ?_⟩
  by_cases e : j = i
  ·rw [e]; exact hy.wpOp hi hS ⟨fun _ h => h, H⟩
  ·have:=ready_mono hj e
   rw [H.1] at this; cases this
 | succ n ih =>
  intro l a w hf hr hy hS H
  refine ⟨fun h0 => (by rw [h0] at hr; cases hr), fun j hj => ?_⟩
  by_cases e : j = i
  ·rw [e]; exact hy.wpOp hi hS ⟨fun _ h => h, H⟩
  obtain ⟨u1, oj, hoj, u2⟩:=mem_ready.1 hj
  have hli : l.getD i true = false:=(mem_ready.1 hr).1
  have un : ∀ x ∈ oj.after, Region.binds md x = true → x.on ≠ i:=fun x hx hb hq => by
   have h1:=u2 x hx hb
   rw [hq] at h1
   by_cases hs : i < l.size
   ·simp [Array.getD_eq_getD_getElem?, hs] at h1 hli
    rw [h1] at hli; cases hli
   simp [Array.getD_eq_getD_getElem?, Array.getElem?_eq_none (Nat.le_of_not_lt hs)] at h1
  have step:=wpOp_putIf hoj (hf j oj hoj e u1 un) (fun cs b => Region.noSelect_spec hsel i oi cs b hi) (fun cs b => Region.noSelect_spec hsel j oj cs b hoj) hQ hy (H.2 j (ready_mono hj e))
  refine wpOp_mono (fun a' w' h3 => ⟨h3.2.1, ih _ a' w' (fun k ok hk hki hun hno => hf k ok hk hki ?_ hno) (ready_mono hr (Ne.symm e)) h3.1 (hD j oj hoj un w w' h3.2.1 hS) ?_⟩) step
  ·by_cases hjk : j = k
   ·rw [← hjk]; exact u1
   rw [getD_set_ne true hjk] at hun; exact hun
  rw [Array.setIfInBounds_comm _ _ e]; exact h3.2.2
theorem late_take {i d : Nat} {oi : Oper} {v : Value} {n : Nat} {l : Array Bool} {a : Act} {w : World} (hi : ops[i]? = some oi) (hd : oi.dst = some d)
 (hs : Region.noSelect ops = true) (hD : lateB md ops D i = true) (hf : Region.free md ops l i = true) (hr : (Region.ready md ops l).contains i = true)
 (hQ : ∀ c a w, Q (.panic c) (a.put (some d) v) w → Q (.panic c) a w) (hy : YieldsIf P ops S oi v a) (hS : S w)
 (h : anyD P md ops Q S D n (l.setIfInBounds i true) (a.put (some d) v) w) : anyD P md ops Q S D (n + 1) l a w :=
 anyD.first hi hs (fun j oj hoj un w w' hw h' => by
  cases hc : D j with
  | false => exact hw hc h'
  | true => obtain ⟨x, hx, hb, ho⟩ := lateB_spec hD hoj hc; exact absurd ho (un x hx hb)) (by rw [hd]; exact hQ) n l a w (Region.free_spec hi hf) (by simpa using hr) hy hS (by rw [hd]; exact h)
theorem late_pure {i d : Nat} {oi : Oper} {v : Value} {n : Nat} {l : Array Bool} {a : Act} {w : World} (hi : ops[i]? = some oi) (hd : oi.dst = some d)
 (hs : Region.noSelect ops = true) (hf : Region.free md ops l i = true) (hr : (Region.ready md ops l).contains i = true)
 (hQ : ∀ c a w, Q (.panic c) (a.put (some d) v) w → Q (.panic c) a w) (hy : YieldsIf P ops (fun _ => True) oi v a)
 (h : anyD P md ops Q S D n (l.setIfInBounds i true) (a.put (some d) v) w) : anyD P md ops Q S D (n + 1) l a w :=
 anyD.first (S' := fun _ => True) hi hs (fun _ _ _ _ _ _ _ _ => trivial) (by rw [hd]; exact hQ) n l a w (Region.free_spec hi hf) (by simpa using hr) hy trivial (by rw [hd]; exact h)
theorem late_ready {i : Nat} {o : Oper} {n : Nat} {l : Array Bool} {a : Act} {w : World} (ho : ops[i]? = some o) (hr : Region.ready md ops l = [i])
 (h : ∀ K' : Act → World → Prop, Shut (∀ a' w', (D i = false → S w → S w') → anyD P md ops Q S D n (l.setIfInBounds i true) a' w' → K' a' w') → if Region.wanted o (yielded ops a.tmps) = true then Oper.wp P o a w K' Q else K' (a.put o.dst undef) w) :
 anyD P md ops Q S D (n + 1) l a w :=
 ⟨fun h0 => (by rw [hr] at h0; cases h0), fun j hj => by
  rw [hr] at hj
  obtain rfl:=List.mem_singleton.1 hj
  exact wpOp_step ho fun K' hK => h K' (fun a w h1 h2 => hK a w ⟨h1, h2⟩)⟩
theorem late_done {l : Array Bool} {a : Act} {w : World} (hr : Region.ready md ops l = []) (h : Q .normal a w) : ∀ n, anyD P md ops Q S D n l a w
 | 0 => ⟨hr, h⟩
 | _ + 1 => ⟨fun _ => h, by rw [hr]; simp⟩
theorem late_begin (D : Nat → Bool) {id : Nat} {a : Act} {w : World} (hm : P.follows .mixedOrders = true) (h : anyD P .any ops Q S D ops.size (Array.replicate ops.size false) a w.drew) : (Code.region id ops true).wp P Q a w :=
 wp_region_any hm (anyD.any _ _ _ _ h)
end
end
section
open Go Go.RowKit
variable [∀ (a b c d : Int), Decidable (Ok4 a b c d)]
variable [∀ (n f : Int), Decidable (COk n f)]
variable [∀ (a b c d : Nat), Decidable (okN a b c d)]
variable [∀ (x : T4), Decidable (OkT x)]
theorem btold_any (m : ByteArray) (v : Int) (s : ByteArray) (ao : Option Addr) (ca : Nat) (xs : List Int) (w : World) (hm : m.size ≤ 281474976710656) (hs : s.size ≤ 281474976710656) (ha : RI w (.slice ao xs.length ca) xs) :
 Calls Tryz.prog 333 #[bv m v s (.slice ao xs.length ca)] w fun e w' => ∃ u, e = .returned (bv m v s u) ∧ OI w' w.heap.size u xs ∧ Below w.heap.size w w' := by
 have CL:=hide fun w' => clone_any m w' hm
 have TO:=hide fun g w' (hg : w'.rangeAt g 1 [.int .i64 v, .string s, .slice ao xs.length ca]) h => qtold_at g 1 v s ao ca xs w' hg h hs
 have HA:=hide ha
 clear ha hm hs
 obtain ⟨w0, hw0, Bw0, P, O, zw0⟩:=bx2 w #[.string m,.int .i64 v,.string s,.slice ao xs.length ca] 68 #[.string ⟨#[]⟩,.int .i64 0,.string ⟨#[]⟩,.slice none 0 0] 68
 go_enter Tryz.func333, Tryz.ntmps333
 have cP0:=P.cell 0 rfl
 go_wp2_with fail
 clear hw0
 refine (CL.out _).mono ?_
 rintro _ w1 ⟨rfl, bb⟩
 clear cP0
 have Bw1:=bu Bw0 bb
 have sw1:=bb.size
 replace P:=P.up bb
 replace O:=O.up bb
 clear Bw0 bb
 go_wp2_with fail
 refine (TO.out _ _ (P.range 1 3 rfl) (HA.out.below Bw1)).mono ?_
 rintro _ w2 ⟨u, rfl, oA, bb⟩
 have Bw2:=bu Bw1 bb
 have sw2:=bb.size
 replace P:=P.up bb
 replace O:=O.up bb
 clear Bw1 bb
 have toA:=World.ownsRow.lt oA
 obtain ⟨aoA, koA, rfl⟩:=oA.form
 go_wp2_with (first | (refine wstore O 68 #[.string m,.int .i64 v,.string s,.slice aoA xs.length koA] rfl _ _ rfl rfl rfl (by kernel_rfl) rfl (by simp [Value.oneCell']) ?_))
 obtain ⟨wE, hwE⟩ : ∃ w9_, w2.setRow (w.heap.size + 1) #[.string m,.int .i64 v,.string s,.slice aoA xs.length koA] = w9_:=⟨_, rfl⟩
 have kN : Kp w2 wE (fun k => k = w.heap.size + 1):=hwE ▸ row_kp _ _ _
 replace O : Loc wE (w.heap.size + 1) #[.string m,.int .i64 v,.string s,.slice aoA xs.length koA]:=hwE ▸ O.row
 replace P:=P.kp kN (by omega)
 replace oA:=oA.kp kN (fun j hj e => by have:=toA j hj; omega)
 have BwE:=Below.kp Bw2 kN Bw2.size (fun k hk => by omega)
 have swE:=kN.size
 rw [hwE]
 clear hwE kN Bw2
 refine bodyPost_ret (v := bv m v s (.slice aoA xs.length koA)) (res_row Tryz.results333 _ O rfl Tryz.underlying68 rfl (by kernel_rfl)) rfl ?_
 exact ⟨_, rfl, oA.mono (by omega), BwE⟩
structure MZ (t : MT) : Prop where
 bn : t.bn.size ≤ 281474976710656
 bs : t.bs.size ≤ 281474976710656
 ps : t.ps.size ≤ 281474976710656
 qs : t.qs.size ≤ 281474976710656
theorem mtold_any (t : MT) (ao bo co : Option Addr) (ca cb cc : Nat) (w : World) (hs : MZ t) (ha : RI w (.slice ao t.bw.length ca) t.bw) (hb : RI w (.slice bo t.pw.length cb) t.pw) (hc : RI w (.slice co t.qw.length cc) t.qw) :
 Calls Tryz.prog 336 #[mgv t (.slice ao t.bw.length ca) (.slice bo t.pw.length cb) (.slice co t.qw.length cc)] w fun e w' => ∃ u v x, e = .returned (mgv t u v x) ∧ OM w' w.heap.size u v x t.bw t.pw t.qw ∧ Below w.heap.size w w' := by
 have T1:=hide fun w' h => btold_any t.bn t.bv t.bs ao ca t.bw w' hs.bn hs.bs h
 have T2:=hide fun w' h => ptold_any t.pv t.ps (.slice bo t.pw.length cb) t.pw w' h hs.ps
 have T3:=hide fun g w' (hg : w'.rangeAt g 9 [.int .i64 t.qv, .string t.qs, .slice co t.qw.length cc]) h => qtold_at g 9 t.qv t.qs co cc t.qw w' hg h hs.qs
 have HA:=hide ha
 have HB:=hide hb
 have HC:=hide hc
 clear ha hb hc hs
 obtain ⟨w0, hw0, Bw0, P, O, zw0⟩:=bx2 w #[.int .i64 t.k,.int .i64 t.vw,.string t.bn,.int .i64 t.bv,.string t.bs,.slice ao t.bw.length ca,.int .i64 t.pv,.string t.ps,.slice bo t.pw.length cb,.int .i64 t.qv,.string t.qs,.slice co t.qw.length cc,.int .i64 t.wh,.int .i64 t.fr,.int .i64 t.tu,.int .i64 t.am,.int .i64 t.no] 72 #[.int .i64 0,.int .i64 0,.string ⟨#[]⟩,.int .i64 0,.string ⟨#[]⟩,.slice none 0 0,.int .i64 0,.string ⟨#[]⟩,.slice none 0 0,.int .i64 0,.string ⟨#[]⟩,.slice none 0 0,.int .i64 0,.int .i64 0,.int .i64 0,.int .i64 0,.int .i64 0] 72
 go_enter Tryz.func336, Tryz.ntmps336
 have K:=kw (kL P)
 go_upto_region 1 with fail
 clear hw0
 have bA : Below w0.heap.size w0 w0.drew:=Below.drew (Below.refl _ _)
 refine wp_region_noPanic ?_
 refine late_begin (S := fun w' => Below w0.heap.size w0 w' ∧ Loc w' (w.heap.size) #[.int .i64 t.k,.int .i64 t.vw,.string t.bn,.int .i64 t.bv,.string t.bs,.slice ao t.bw.length ca,.int .i64 t.pv,.string t.ps,.slice bo t.pw.length cb,.int .i64 t.qv,.string t.qs,.slice co t.qw.length cc,.int .i64 t.wh,.int .i64 t.fr,.int .i64 t.tu,.int .i64 t.am,.int .i64 t.no]) (fun j => j == 9 || j == 11 || j == 13) (by kernel_rfl) ?_
 obtain ⟨wd1, hwd⟩ : ∃ y, w0.drew = y:=⟨_, rfl⟩
 rw [hwd] at bA ⊢
 clear hwd
 have bb:=bA
 have Bwd1:=bu Bw0 bb
 have swd1:=bb.size
 replace P:=P.up bb
 replace O:=O.up bb
 clear Bw0 bb
 refine late_pure (i := 0) (d := 3) (v := ?_) rfl rfl (by kernel_rfl) (by kernel_rfl) (by kernel_rfl) (fun _ _ _ h => h) (Or.inl ⟨by rfl, ?_⟩) ?_
 rotate_left
 ·intro w hSw
  try dsimp only at hSw
  go_simp
  try with_reducible rfl
 simp only [Act.put, List.setIfInBounds_toArray, List.set_cons_zero, List.set_cons_succ]
 refine late_pure (i := 3) (d := 6) (v := ?_) rfl rfl (by kernel_rfl) (by kernel_rfl) (by kernel_rfl) (fun _ _ _ h => h) (Or.inl ⟨by rfl, ?_⟩) ?_
 rotate_left
 ·intro w hSw
  try dsimp only at hSw
  go_simp
  try with_reducible rfl
 simp only [Act.put, List.setIfInBounds_toArray, List.set_cons_zero, List.set_cons_succ]
 refine late_pure (i := 6) (d := 9) (v := ?_) rfl rfl (by kernel_rfl) (by kernel_rfl) (by kernel_rfl) (fun _ _ _ h => h) (Or.inl ⟨by rfl, ?_⟩) ?_
 rotate_left
 ·intro w hSw
  try dsimp only at hSw
  go_simp
  try with_reducible rfl
 simp only [Act.put, List.setIfInBounds_toArray, List.set_cons_zero, List.set_cons_succ]
 refine late_take (i := 1) (d := 4) (v := .agg #[.string t.bn,.int .i64 t.bv,.string t.bs,.slice ao t.bw.length ca]) rfl rfl (by kernel_rfl) (by kernel_rfl) (by kernel_rfl) (by kernel_rfl) (fun _ _ _ h => h) ?_ (K.out _ bA) ?_
 ·exact yields_mid rfl 68 _ rfl rfl [.string t.bn, .int .i64 t.bv, .string t.bs, .slice ao t.bw.length ca] _ (fun w h => (h.2).range 2 4 rfl) Tryz.underlying68 rfl (by kernel_rfl)
 simp only [Act.put, List.setIfInBounds_toArray, List.set_cons_zero, List.set_cons_succ]
 refine late_take (i := 4) (d := 7) (v := .agg #[.int .i64 t.pv,.string t.ps,.slice bo t.pw.length cb]) rfl rfl (by kernel_rfl) (by kernel_rfl) (by kernel_rfl) (by kernel_rfl) (fun _ _ _ h => h) ?_ (K.out _ bA) ?_
 ·exact yields_mid rfl 69 _ rfl rfl [.int .i64 t.pv, .string t.ps, .slice bo t.pw.length cb] _ (fun w h => (h.2).range 6 3 rfl) Tryz.underlying69 rfl (by kernel_rfl)
 simp only [Act.put, List.setIfInBounds_toArray, List.set_cons_zero, List.set_cons_succ]
 refine late_ready (i := 2) rfl (by kernel_rfl) (fun KK hKK => ?_)
 go_simp
 refine (T1.out _ (HA.out.below Bwd1)).mono ?_
 rintro e w1 ⟨u, rfl, oA, bb⟩
 have bz1 : Below w0.heap.size w0 w1:=bu bA bb
 refine hKK.out _ _ (fun _ _ => K.out _ bz1) ?_
 clear hKK KK bA
 have Bw1:=bu Bwd1 bb
 have sw1:=bb.size
 replace P:=P.up bb
 replace O:=O.up bb
 clear Bwd1 bb
 have toA:=World.ownsRow.lt oA
 obtain ⟨aoA, koA, rfl⟩:=oA.form
 refine late_ready (i := 5) rfl (by kernel_rfl) (fun KK hKK => ?_)
 go_simp
 refine (T2.out _ (HB.out.below Bw1)).mono ?_
 rintro e w2 ⟨u, rfl, oB, bb⟩
 have bz2 : Below w0.heap.size w0 w2:=bu bz1 bb
 refine hKK.out _ _ (fun _ _ => K.out _ bz2) ?_
 clear hKK KK bz1
 have Bw2:=bu Bw1 bb
 have sw2:=bb.size
 replace P:=P.up bb
 replace O:=O.up bb
 replace oA:=oA.below bb
 clear Bw1 bb
 have toB:=World.ownsRow.lt oB
 obtain ⟨aoB, koB, rfl⟩:=oB.form
 refine late_ready (i := 7) rfl (by kernel_rfl) (fun KK hKK => ?_)
 go_simp
 refine (T3.out _ _ (P.range 9 3 rfl) (HC.out.below Bw2)).mono ?_
 rintro e w3 ⟨u, rfl, oC, bb⟩
 have bz3 : Below w0.heap.size w0 w3:=bu bz2 bb
 refine hKK.out _ _ (fun _ _ => K.out _ bz3) ?_
 clear hKK KK bz2
 have Bw3:=bu Bw2 bb
 have sw3:=bb.size
 replace P:=P.up bb
 replace O:=O.up bb
 replace oA:=oA.below bb
 replace oB:=oB.below bb
 clear Bw2 bb
 have toC:=World.ownsRow.lt oC
 obtain ⟨aoC, koC, rfl⟩:=oC.form
 refine late_pure (i := 8) (d := 11) (v := ?_) rfl rfl (by kernel_rfl) (by kernel_rfl) (by kernel_rfl) (fun _ _ _ h => h) (Or.inl ⟨by rfl, ?_⟩) ?_
 rotate_left
 ·intro w hSw
  try dsimp only at hSw
  go_simp
  try with_reducible rfl
 simp only [Act.put, List.setIfInBounds_toArray, List.set_cons_zero, List.set_cons_succ]
 refine late_ready (i := 9) rfl (by kernel_rfl) (fun KK hKK => ?_)
 rw [if_pos (by rfl)]
 refine wp_store_mid 68 (.tmp 11) (.tmp 5) rfl (w.heap.size) 2 #[.string t.bn,.int .i64 t.bv,.string t.bs,.slice aoA t.bw.length koA] rfl rfl (P.there 2 4 (by simp)) (by kernel_rfl) (by simp [Value.oneCell']) ?_
 refine hKK.out _ _ (fun h => absurd h (by decide)) ?_
 clear hKK KK
 obtain ⟨w4, hw4⟩ : ∃ y, w3.setCells (w.heap.size) 2 [.string t.bn, .int .i64 t.bv, .string t.bs, .slice aoA t.bw.length koA] = y:=⟨_, rfl⟩
 rw [hw4]
 have kN : Kp w3 w4 (fun k => k = w.heap.size):=hw4 ▸ setCells_kp _ _ _ _
 replace P : Loc w4 (w.heap.size) #[.int .i64 t.k,.int .i64 t.vw,.string t.bn,.int .i64 t.bv,.string t.bs,.slice aoA t.bw.length koA,.int .i64 t.pv,.string t.ps,.slice bo t.pw.length cb,.int .i64 t.qv,.string t.qs,.slice co t.qw.length cc,.int .i64 t.wh,.int .i64 t.fr,.int .i64 t.tu,.int .i64 t.am,.int .i64 t.no]:=hw4 ▸ P.setCells _ _ rfl
 replace O:=O.kp kN (by omega)
 replace oA:=oA.kp kN (fun j hj e => by have:=toA j hj; omega)
 replace oB:=oB.kp kN (fun j hj e => by have:=toB j hj; omega)
 replace oC:=oC.kp kN (fun j hj e => by have:=toC j hj; omega)
 have Bw4:=Below.kp Bw3 kN Bw3.size (fun k hk => by omega)
 have sw4:=kN.size
 clear hw4 kN Bw3
 refine late_pure (i := 10) (d := 12) (v := ?_) rfl rfl (by kernel_rfl) (by kernel_rfl) (by kernel_rfl) (fun _ _ _ h => h) (Or.inl ⟨by rfl, ?_⟩) ?_
 rotate_left
 ·intro w hSw
  try dsimp only at hSw
  go_simp
  try with_reducible rfl
 simp only [Act.put, List.setIfInBounds_toArray, List.set_cons_zero, List.set_cons_succ]
 refine late_ready (i := 11) rfl (by kernel_rfl) (fun KK hKK => ?_)
 rw [if_pos (by rfl)]
 refine wp_store_mid 69 (.tmp 12) (.tmp 8) rfl (w.heap.size) 6 #[.int .i64 t.pv,.string t.ps,.slice aoB t.pw.length koB] rfl rfl (P.there 6 3 (by simp)) (by kernel_rfl) (by simp [Value.oneCell']) ?_
 refine hKK.out _ _ (fun h => absurd h (by decide)) ?_
 clear hKK KK
 obtain ⟨w5, hw5⟩ : ∃ y, w4.setCells (w.heap.size) 6 [.int .i64 t.pv, .string t.ps, .slice aoB t.pw.length koB] = y:=⟨_, rfl⟩
 rw [hw5]
 have kN : Kp w4 w5 (fun k => k = w.heap.size):=hw5 ▸ setCells_kp _ _ _ _
 replace P : Loc w5 (w.heap.size) #[.int .i64 t.k,.int .i64 t.vw,.string t.bn,.int .i64 t.bv,.string t.bs,.slice aoA t.bw.length koA,.int .i64 t.pv,.string t.ps,.slice aoB t.pw.length koB,.int .i64 t.qv,.string t.qs,.slice co t.qw.length cc,.int .i64 t.wh,.int .i64 t.fr,.int .i64 t.tu,.int .i64 t.am,.int .i64 t.no]:=hw5 ▸ P.setCells _ _ rfl
 replace O:=O.kp kN (by omega)
 replace oA:=oA.kp kN (fun j hj e => by have:=toA j hj; omega)
 replace oB:=oB.kp kN (fun j hj e => by have:=toB j hj; omega)
 replace oC:=oC.kp kN (fun j hj e => by have:=toC j hj; omega)
 have Bw5:=Below.kp Bw4 kN Bw4.size (fun k hk => by omega)
 have sw5:=kN.size
 clear hw5 kN Bw4
 refine late_pure (i := 12) (d := 13) (v := ?_) rfl rfl (by kernel_rfl) (by kernel_rfl) (by kernel_rfl) (fun _ _ _ h => h) (Or.inl ⟨by rfl, ?_⟩) ?_
 rotate_left
 ·intro w hSw
  try dsimp only at hSw
  go_simp
  try with_reducible rfl
 simp only [Act.put, List.setIfInBounds_toArray, List.set_cons_zero, List.set_cons_succ]
 refine late_ready (i := 13) rfl (by kernel_rfl) (fun KK hKK => ?_)
 rw [if_pos (by rfl)]
 refine wp_store_mid 38 (.tmp 13) (.tmp 10) rfl (w.heap.size) 9 #[.int .i64 t.qv,.string t.qs,.slice aoC t.qw.length koC] rfl rfl (P.there 9 3 (by simp)) (by kernel_rfl) (by simp [Value.oneCell']) ?_
 refine hKK.out _ _ (fun h => absurd h (by decide)) ?_
 clear hKK KK
 obtain ⟨w6, hw6⟩ : ∃ y, w5.setCells (w.heap.size) 9 [.int .i64 t.qv, .string t.qs, .slice aoC t.qw.length koC] = y:=⟨_, rfl⟩
 rw [hw6]
 have kN : Kp w5 w6 (fun k => k = w.heap.size):=hw6 ▸ setCells_kp _ _ _ _
 replace P : Loc w6 (w.heap.size) #[.int .i64 t.k,.int .i64 t.vw,.string t.bn,.int .i64 t.bv,.string t.bs,.slice aoA t.bw.length koA,.int .i64 t.pv,.string t.ps,.slice aoB t.pw.length koB,.int .i64 t.qv,.string t.qs,.slice aoC t.qw.length koC,.int .i64 t.wh,.int .i64 t.fr,.int .i64 t.tu,.int .i64 t.am,.int .i64 t.no]:=hw6 ▸ P.setCells _ _ rfl
 replace O:=O.kp kN (by omega)
 replace oA:=oA.kp kN (fun j hj e => by have:=toA j hj; omega)
 replace oB:=oB.kp kN (fun j hj e => by have:=toB j hj; omega)
 replace oC:=oC.kp kN (fun j hj e => by have:=toC j hj; omega)
 have Bw6:=Below.kp Bw5 kN Bw5.size (fun k hk => by omega)
 have sw6:=kN.size
 clear hw6 kN Bw5
 refine late_done (by kernel_rfl) ?_ _
 refine NoPanic.normal ?_
 clear K bz3
 go_wp2_with (first | (refine wload P 72 _ rfl _ rfl rfl Tryz.underlying72 rfl (by kernel_rfl) ?_) | (refine wstore O 72 #[.int .i64 t.k,.int .i64 t.vw,.string t.bn,.int .i64 t.bv,.string t.bs,.slice aoA t.bw.length koA,.int .i64 t.pv,.string t.ps,.slice aoB t.pw.length koB,.int .i64 t.qv,.string t.qs,.slice aoC t.qw.length koC,.int .i64 t.wh,.int .i64 t.fr,.int .i64 t.tu,.int .i64 t.am,.int .i64 t.no] rfl _ _ rfl rfl rfl (by kernel_rfl) rfl (by simp [Value.oneCell']) ?_))
 obtain ⟨wE, hwE⟩ : ∃ w9_, w6.setRow (w.heap.size + 1) #[.int .i64 t.k,.int .i64 t.vw,.string t.bn,.int .i64 t.bv,.string t.bs,.slice aoA t.bw.length koA,.int .i64 t.pv,.string t.ps,.slice aoB t.pw.length koB,.int .i64 t.qv,.string t.qs,.slice aoC t.qw.length koC,.int .i64 t.wh,.int .i64 t.fr,.int .i64 t.tu,.int .i64 t.am,.int .i64 t.no] = w9_:=⟨_, rfl⟩
 have kN : Kp w6 wE (fun k => k = w.heap.size + 1):=hwE ▸ row_kp _ _ _
 replace O : Loc wE (w.heap.size + 1) #[.int .i64 t.k,.int .i64 t.vw,.string t.bn,.int .i64 t.bv,.string t.bs,.slice aoA t.bw.length koA,.int .i64 t.pv,.string t.ps,.slice aoB t.pw.length koB,.int .i64 t.qv,.string t.qs,.slice aoC t.qw.length koC,.int .i64 t.wh,.int .i64 t.fr,.int .i64 t.tu,.int .i64 t.am,.int .i64 t.no]:=hwE ▸ O.row
 replace P:=P.kp kN (by omega)
 replace oA:=oA.kp kN (fun j hj e => by have:=toA j hj; omega)
 replace oB:=oB.kp kN (fun j hj e => by have:=toB j hj; omega)
 replace oC:=oC.kp kN (fun j hj e => by have:=toC j hj; omega)
 have BwE:=Below.kp Bw6 kN Bw6.size (fun k hk => by omega)
 have swE:=kN.size
 rw [hwE]
 clear hwE kN Bw6
 refine bodyPost_ret (v := mgv t (.slice aoA t.bw.length koA) (.slice aoB t.pw.length koB) (.slice aoC t.qw.length koC)) (res_row Tryz.results336 _ O rfl Tryz.underlying72 rfl (by kernel_rfl)) rfl ?_
 exact ⟨_, _, _, rfl, ⟨w1.heap.size, w2.heap.size, oA.mono (by omega), fun j hj => (toA j hj).2, oB.mono (by omega), fun j hj => (toB j hj).2, oC.mono (by omega), by omega, by omega⟩, BwE⟩
theorem potold_any (n : Int) (t : MT) (ao bo co : Option Addr) (ca cb cc : Nat) (w : World) (hs : MZ t) (ha : RI w (.slice ao t.bw.length ca) t.bw) (hb : RI w (.slice bo t.pw.length cb) t.pw) (hc : RI w (.slice co t.qw.length cc) t.qw) :
 Calls Tryz.prog 337 #[pov n t (.slice ao t.bw.length ca) (.slice bo t.pw.length cb) (.slice co t.qw.length cc)] w fun e w' => ∃ u v x, e = .returned (pov n t u v x) ∧ OM w' w.heap.size u v x t.bw t.pw t.qw ∧ Below w.heap.size w w' := by
 have T1:=hide fun w' h1 h2 h3 => mtold_any t ao bo co ca cb cc w' hs h1 h2 h3
 have HA:=hide ha
 have HB:=hide hb
 have HC:=hide hc
 clear ha hb hc hs
 obtain ⟨w0, hw0, Bw0, P, O, zw0⟩:=bx2 w #[.int .i64 n,.int .i64 t.k,.int .i64 t.vw,.string t.bn,.int .i64 t.bv,.string t.bs,.slice ao t.bw.length ca,.int .i64 t.pv,.string t.ps,.slice bo t.pw.length cb,.int .i64 t.qv,.string t.qs,.slice co t.qw.length cc,.int .i64 t.wh,.int .i64 t.fr,.int .i64 t.tu,.int .i64 t.am,.int .i64 t.no] 96 #[.int .i64 0,.int .i64 0,.int .i64 0,.string ⟨#[]⟩,.int .i64 0,.string ⟨#[]⟩,.slice none 0 0,.int .i64 0,.string ⟨#[]⟩,.slice none 0 0,.int .i64 0,.string ⟨#[]⟩,.slice none 0 0,.int .i64 0,.int .i64 0,.int .i64 0,.int .i64 0,.int .i64 0] 96
 go_enter Tryz.func337, Tryz.ntmps337
 go_wp2_with (first | (refine wloadM [.int .i64 t.k, .int .i64 t.vw, .string t.bn, .int .i64 t.bv, .string t.bs, .slice ao t.bw.length ca, .int .i64 t.pv, .string t.ps, .slice bo t.pw.length cb, .int .i64 t.qv, .string t.qs, .slice co t.qw.length cc, .int .i64 t.wh, .int .i64 t.fr, .int .i64 t.tu, .int .i64 t.am, .int .i64 t.no] (P.range 1 17 rfl) 72 _ rfl _ rfl rfl Tryz.underlying72 rfl (by kernel_rfl) ?_))
 clear hw0
 refine (T1.out _ (HA.out.below Bw0) (HB.out.below Bw0) (HC.out.below Bw0)).mono ?_
 rintro _ w1 ⟨u, v, x, rfl, m1, bb⟩
 have Bw1:=bu Bw0 bb
 have sw1:=bb.size
 replace P:=P.up bb
 replace O:=O.up bb
 clear Bw0 bb
 obtain ⟨a1, k1, b1, l1, c1, n1, rfl, rfl, rfl⟩:=m1.form
 go_upto_region 2 with (first | (refine wstoreM #[.int .i64 t.k,.int .i64 t.vw,.string t.bn,.int .i64 t.bv,.string t.bs,.slice a1 t.bw.length k1,.int .i64 t.pv,.string t.ps,.slice b1 t.pw.length l1,.int .i64 t.qv,.string t.qs,.slice c1 t.qw.length n1,.int .i64 t.wh,.int .i64 t.fr,.int .i64 t.tu,.int .i64 t.am,.int .i64 t.no] (P.there 1 17 (by simp)) 72 rfl _ _ rfl rfl rfl (by kernel_rfl) (by simp [Value.oneCell']) ?_))
 obtain ⟨w2, hw2⟩ : ∃ y, (w1.setCells (w.heap.size) 1 [.int .i64 t.k, .int .i64 t.vw, .string t.bn, .int .i64 t.bv, .string t.bs, .slice a1 t.bw.length k1, .int .i64 t.pv, .string t.ps, .slice b1 t.pw.length l1, .int .i64 t.qv, .string t.qs, .slice c1 t.qw.length n1, .int .i64 t.wh, .int .i64 t.fr, .int .i64 t.tu, .int .i64 t.am, .int .i64 t.no]) = y:=⟨_, rfl⟩
 rw [hw2]
 have kN : Kp w1 w2 (fun k => k = w.heap.size):=hw2 ▸ setCells_kp _ _ _ _
 replace P : Loc w2 (w.heap.size) #[.int .i64 n,.int .i64 t.k,.int .i64 t.vw,.string t.bn,.int .i64 t.bv,.string t.bs,.slice a1 t.bw.length k1,.int .i64 t.pv,.string t.ps,.slice b1 t.pw.length l1,.int .i64 t.qv,.string t.qs,.slice c1 t.qw.length n1,.int .i64 t.wh,.int .i64 t.fr,.int .i64 t.tu,.int .i64 t.am,.int .i64 t.no]:=hw2 ▸ (Loc.setCells (cs':=#[.int .i64 n,.int .i64 t.k,.int .i64 t.vw,.string t.bn,.int .i64 t.bv,.string t.bs,.slice a1 t.bw.length k1,.int .i64 t.pv,.string t.ps,.slice b1 t.pw.length l1,.int .i64 t.qv,.string t.qs,.slice c1 t.qw.length n1,.int .i64 t.wh,.int .i64 t.fr,.int .i64 t.tu,.int .i64 t.am,.int .i64 t.no]) [.int .i64 t.k,.int .i64 t.vw,.string t.bn,.int .i64 t.bv,.string t.bs,.slice a1 t.bw.length k1,.int .i64 t.pv,.string t.ps,.slice b1 t.pw.length l1,.int .i64 t.qv,.string t.qs,.slice c1 t.qw.length n1,.int .i64 t.wh,.int .i64 t.fr,.int .i64 t.tu,.int .i64 t.am,.int .i64 t.no] 1 P rfl)
 replace O:=O.kp kN (by omega)
 replace m1:=m1.kp kN (fun j h1 h2 h3 e => by omega)
 have Bw2:=Below.kp Bw1 kN Bw1.size (fun k hk => by omega)
 have sw2:=kN.size
 clear hw2 kN Bw1
 go_wp2_with (first | (refine wload P 96 _ rfl _ rfl rfl Tryz.underlying96 rfl (by kernel_rfl) ?_) | (refine wstore O 96 #[.int .i64 n,.int .i64 t.k,.int .i64 t.vw,.string t.bn,.int .i64 t.bv,.string t.bs,.slice a1 t.bw.length k1,.int .i64 t.pv,.string t.ps,.slice b1 t.pw.length l1,.int .i64 t.qv,.string t.qs,.slice c1 t.qw.length n1,.int .i64 t.wh,.int .i64 t.fr,.int .i64 t.tu,.int .i64 t.am,.int .i64 t.no] rfl _ _ rfl rfl rfl (by kernel_rfl) rfl (by simp [Value.oneCell']) ?_))
 obtain ⟨wE, hwE⟩ : ∃ w9_, w2.setRow (w.heap.size + 1) #[.int .i64 n,.int .i64 t.k,.int .i64 t.vw,.string t.bn,.int .i64 t.bv,.string t.bs,.slice a1 t.bw.length k1,.int .i64 t.pv,.string t.ps,.slice b1 t.pw.length l1,.int .i64 t.qv,.string t.qs,.slice c1 t.qw.length n1,.int .i64 t.wh,.int .i64 t.fr,.int .i64 t.tu,.int .i64 t.am,.int .i64 t.no] = w9_:=⟨_, rfl⟩
 have kN : Kp w2 wE (fun k => k = w.heap.size + 1):=hwE ▸ row_kp _ _ _
 replace O : Loc wE (w.heap.size + 1) #[.int .i64 n,.int .i64 t.k,.int .i64 t.vw,.string t.bn,.int .i64 t.bv,.string t.bs,.slice a1 t.bw.length k1,.int .i64 t.pv,.string t.ps,.slice b1 t.pw.length l1,.int .i64 t.qv,.string t.qs,.slice c1 t.qw.length n1,.int .i64 t.wh,.int .i64 t.fr,.int .i64 t.tu,.int .i64 t.am,.int .i64 t.no]:=hwE ▸ O.row
 replace P:=P.kp kN (by omega)
 replace m1:=m1.kp kN (fun j h1 h2 h3 e => by omega)
 have BwE:=Below.kp Bw2 kN Bw2.size (fun k hk => by omega)
 have swE:=kN.size
 rw [hwE]
 clear hwE kN Bw2
 refine bodyPost_ret (v := pov n t (.slice a1 t.bw.length k1) (.slice b1 t.pw.length l1) (.slice c1 t.qw.length n1)) (res_row Tryz.results337 _ O rfl Tryz.underlying96 rfl (by kernel_rfl)) rfl ?_
 exact ⟨_, _, _, rfl, m1.mono (by omega), BwE⟩
end
section
open Go.RowKit
variable [∀ (a b c d : Int), Decidable (Ok4 a b c d)]
variable [∀ (n f : Int), Decidable (COk n f)]
variable [∀ (a b c d : Nat), Decidable (okN a b c d)]
variable [∀ (x : T4), Decidable (OkT x)]
theorem toldEachP_any (v : Value) (ps : List Pt) (w : World) (hl : ps.length ≤ 4194305) (hs : ∀ p ∈ ps, p.2.1.size ≤ 281474976710656) (h : RPt w v ps) :
 Calls Tryz.prog 109 #[v] w fun e w' => ∃ u, e = .returned u ∧ OPt w' w.heap.size u ps ∧ Below w.heap.size w w' := by
 obtain ⟨i0, hi, hz0, hz1, hz2⟩:=info_parts Tryz.infoPt
 obtain ⟨ao, ca, rfl⟩:=h.form
 have HS0:=hide hs
 have H:=hide h
 clear hs
 obtain ⟨n, hn⟩ : ∃ n, ps.length = n:=⟨_, rfl⟩
 have Hn:=hide hn
 rw [hn] at hl H ⊢
 clear h hn
 go_enter Tryz.func109, Tryz.ntmps109
 go_wp2_with (first | (at_make; refine wpList_make_full _ rfl _ _ 42 rfl w.heap.size 69 i0 (qv 0 ⟨#[]⟩ (.slice none 0 0)) 3 Tryz.underlying42 hi hz0 hz1 .i64 .i64 _ _ n rfl rfl rfl rfl (by rw [hz2]; omega) (by unfold maxLen; omega) (Nat.le_refl _) ?_; intro w0 ho0 hg0))
 have T0 : OPtV w0 w.heap.size (.slice (some ⟨w.heap.size, 0, none⟩) n n) (pthalf ps 0) (List.replicate n (.slice none 0 0)):=by
  rw [made_pcells] at ho0
  have:=opt_zero ho0
  simpa [pthalf, Hn.out] using this
 have B0 : Below w.heap.size w w0:=(Below.refl _ _).grown hg0 (Nat.le_refl _) (by simp)
 clear ho0 hg0 hz0 hz1 hz2 hi
 go_loopw [11] (fun i wr => ∃ (k : Nat) (vs : List Value), k ≤ n ∧ i = .int .i64 k ∧ OPtV wr w.heap.size (.slice (some ⟨w.heap.size, 0, none⟩) n n) (pthalf ps k) vs ∧ Below w.heap.size w wr) (fun i _ => n - (intOf i).toNat)
 case atStart => exact ⟨0, _, Nat.zero_le _, rfl, T0, B0⟩
 case round =>
  clear T0
  obtain ⟨k, vs, hk, rfl, T, br⟩:=hrel
  by_cases hlt : k < n
  ·have hkx : k < ps.length:=by have:=Hn.out; omega
   have hlen:=pthalf_len ps k (by omega)
   have HR:=H.out.below br
   obtain ⟨g, off, u, rfl, c0, c1, c2, ru⟩:=HR.at k hkx
   have HS:=hide (pthalf_set ps k hkx)
   have hsz:=HS0.out _ (pt_mem hkx)
   obtain ⟨x, hx⟩ : ∃ x, ps.getD k zpt = x:=⟨_, rfl⟩
   rw [hx] at c0 c1 ru HS hsz
   clear hx
   obtain ⟨m, s, xs⟩:=x
   simp only at c0 c1 ru hsz
   have TP:=hide fun w h => ptold_any m s u xs w h hsz
   obtain ⟨ua, uc, rfl⟩:=ru.form
   have RU:=hide ru
   have HT:=hide T
   generalize xs.length = xl at *
   obtain ⟨w1, hw1⟩ : ∃ y, wr.alloc (.cells #[.int .i64 m,.string s,.slice ua xl uc] 69) = y:=⟨_, rfl⟩
   have b1 : Below wr.heap.size wr w1:=hw1 ▸ qalloc _ _
   have L1 : Loc w1 wr.heap.size #[.int .i64 m,.string s,.slice ua xl uc]:=hw1 ▸ loc_at wr _ _ rfl
   have p0:=L1.cell 0 rfl
   have p1:=L1.cell 1 rfl
   have p2:=L1.cell 2 rfl
   have s1:=b1.size
   replace RU:=hide (RU.out.below b1)
   replace HT:=hide (HT.out.below b1)
   replace br:=bu br b1
   clear HR H ru T b1 hsz
   go_wp2_with fail
   clear hw1 p0 p1 p2 L1
   refine (TP.out _ RU.out).mono ?_
   rintro e w2 ⟨u2, rfl, o2, b2⟩
   have T2:=HT.out.below b2
   have B2:=bu br b2
   have lt2:=World.ownsRow.lt o2
   have hrow:=T2.row
   rw [hlen, Hn.out] at hrow
   have hplen : (pcells (((pthalf ps k).map phd).zip vs)).length = n * 3:=by rw [pcells_len]; simp [T2.len, hlen, Hn.out]
   have gt : ∀ j, j < n * 3 → ∃ u, w2.cell? ⟨w.heap.size, j, none⟩ = some u:=fun j hj => ⟨_, (hrow.cellAt j hj).trans (List.getElem?_eq_getElem (by rw [hplen]; exact hj))⟩
   obtain ⟨y0, d0⟩:=gt (k * 3) (by omega)
   obtain ⟨y1, d1⟩:=gt (k * 3 + 1) (by omega)
   obtain ⟨y2, d2⟩:=gt (k * 3 + 2) (by omega)
   have f0:=hrow.frozenAt (k * 3)
   have f1:=hrow.frozenAt (k * 3 + 1)
   have f2:=hrow.frozenAt (k * 3 + 2)
   have R:=hide (show OPtV (((w2.setCell ⟨w.heap.size, k * 3, none⟩ (.int .i64 m)).setCell ⟨w.heap.size, k * 3 + 1, none⟩ (.string s)).setCell ⟨w.heap.size, k * 3 + 2, none⟩ u2) w.heap.size (.slice (some ⟨w.heap.size, 0, none⟩) n n) (pthalf ps (k + 1)) (vs.set k u2) by
    have T3:=T2
    have en : n = (pthalf ps k).length:=by rw [hlen, Hn.out]
    rw [← HS.out]
    have:=opt_set (m:=m) (s:=s) (u:=u2) (xs:=xs) (k:=k) (cap:=n) (g:=w.heap.size) (w:=w2) (base:=w.heap.size) (ps:=pthalf ps k) (vs:=vs) (by rw [← en]; exact T3) (by rw [hlen]; exact hkx) (OI.mono o2 br.size) (fun j hj _ b hb e => by
     have h1:=World.ownsRow.lt (HT.out.each j hj) b hb
     have h2:=lt2 b e
     omega)
    rw [← en] at this
    exact this)
   have BR:=hide (((B2.setCell (p:=⟨w.heap.size, k * 3, none⟩) (Nat.le_refl _) (.int .i64 m)).setCell (p:=⟨w.heap.size, k * 3 + 1, none⟩) (Nat.le_refl _) (.string s)).setCell (p:=⟨w.heap.size, k * 3 + 2, none⟩) (Nat.le_refl _) u2)
   obtain ⟨va, vc, rfl⟩:=o2.form
   generalize xs.length = zl at *
   clear T2 B2 hrow hplen gt o2 lt2 HT TP RU c0 c1 c2
   go_wp2
   go_roundw
   case rel => exact ⟨k + 1, _, by omega, by go_num, R.out, BR.out⟩
   case measure => simp [intOf]; omega
  have hkn : pthalf ps k = ps:=by
   have:=Hn.out
   unfold pthalf
   rw [List.take_of_length_le (by omega), show ps.length - k = 0 by omega]
   simp
  rw [hkn] at T
  have T':=hide T
  clear T hkn H
  go_wp2
  go_ret
  exact ⟨_, rfl, ⟨_, T'.out⟩, br⟩
end
end Go.Proofs.YtjdchloechcclaaGreatDoor
