/- Lemmas; their conditions stand in each statement. -/
import Derived.Test.YtjkcphnohhpihaaGreatDoorPPBA
set_option maxRecDepth 100000
set_option maxHeartbeats 8000000
set_option linter.unusedSectionVars false
namespace Go.Proofs.YtjkcphnohhpihaaGreatDoor
section
open Go.RowKit
variable [∀ (a b c d : Int), Decidable (Ok4 a b c d)]
variable [∀ (n f : Int), Decidable (COk n f)]
theorem toldEachP_any (v : Value) (ps : List Pt) (w : World) (hl : ps.length ≤ 4194305) (hs : ∀ p ∈ ps, p.2.1.size ≤ 281474976710656) (h : RPt w v ps) :
 Calls Tryz.prog 49 #[v] w fun e w' => ∃ u, e = .returned u ∧ OPt w' w.heap.size u ps ∧ Below w.heap.size w w' := by
 obtain ⟨i0, hi, hz0, hz1, hz2⟩:=info_parts Tryz.infoPt
 obtain ⟨ao, ca, rfl⟩:=h.form
 have HS0:=hide hs
 have H:=hide h
 clear hs
 obtain ⟨n, hn⟩ : ∃ n, ps.length = n:=⟨_, rfl⟩
 have Hn:=hide hn
 rw [hn] at hl H ⊢
 clear h hn
 go_enter Tryz.func49, Tryz.ntmps49
 go_wp2_with (first | (at_make; refine wpList_make_full _ rfl _ _ 30 rfl w.heap.size 36 i0 (qv 0 ⟨#[]⟩ (.slice none 0 0)) 3 Tryz.underlying30 hi hz0 hz1 .i64 .i64 _ _ n rfl rfl rfl rfl (by rw [hz2]; omega) (by unfold maxLen; omega) (Nat.le_refl _) ?_; intro w0 ho0 hg0))
 have T0 : OPtV w0 w.heap.size (.slice (some ⟨w.heap.size, 0, none⟩) n n) (pthalf ps 0) (List.replicate n (.slice none 0 0)):=by
  rw [made_pcells] at ho0
  have:=opt_zero ho0
  simpa [pthalf, Hn.out] using this
 have B0 : Below w.heap.size w w0:=(Below.refl _ _).grown hg0 (Nat.le_refl _) (by simp)
 clear ho0 hg0 hz0 hz1 hz2 hi
 go_loopw [11] (fun i wr => ∃ (k : Nat) (vs : List Value), k ≤ n ∧ i = .int .i64 k ∧ OPtV wr w.heap.size (.slice (some ⟨w.heap.size, 0, none⟩) n n) (pthalf ps k) vs ∧ Below w.heap.size w wr) (fun i _ => n - (intOf i).toNat)
 case atStart => exact ⟨0, _, Nat.zero_le _, rfl, T0, B0⟩
 case round =>
  clear T0
  obtain ⟨k, vs, hk, rfl, T, br⟩:=hrel
  by_cases hlt : k < n
  ·have hkx : k < ps.length:=by have:=Hn.out; omega
   have hlen:=pthalf_len ps k (by omega)
   have HR:=H.out.below br
   obtain ⟨g, off, u, rfl, c0, c1, c2, ru⟩:=HR.at k hkx
   have HS:=hide (pthalf_set ps k hkx)
   have hsz:=HS0.out _ (pt_mem hkx)
   obtain ⟨x, hx⟩ : ∃ x, ps.getD k zpt = x:=⟨_, rfl⟩
   rw [hx] at c0 c1 ru HS hsz
   clear hx
   obtain ⟨m, s, xs⟩:=x
   simp only at c0 c1 ru hsz
   have TP:=hide fun w h => ptold_any m s u xs w h hsz
   obtain ⟨ua, uc, rfl⟩:=ru.form
   have RU:=hide ru
   have HT:=hide T
   generalize xs.length = xl at *
   obtain ⟨w1, hw1⟩ : ∃ y, wr.alloc (.cells #[.int .i64 m,.string s,.slice ua xl uc] 36) = y:=⟨_, rfl⟩
   have b1 : Below wr.heap.size wr w1:=hw1 ▸ qalloc _ _
   have L1 : Loc w1 wr.heap.size #[.int .i64 m,.string s,.slice ua xl uc]:=hw1 ▸ loc_at wr _ _ rfl
   have p0:=L1.cell 0 rfl
   have p1:=L1.cell 1 rfl
   have p2:=L1.cell 2 rfl
   have s1:=b1.size
   replace RU:=hide (RU.out.below b1)
   replace HT:=hide (HT.out.below b1)
   replace br:=bu br b1
   clear HR H ru T b1 hsz
   go_wp2_with fail
   clear hw1 p0 p1 p2 L1
   refine (TP.out _ RU.out).mono ?_
   rintro e w2 ⟨u2, rfl, o2, b2⟩
   have T2:=HT.out.below b2
   have B2:=bu br b2
   have lt2:=World.ownsRow.lt o2
   have hrow:=T2.row
   rw [hlen, Hn.out] at hrow
   have hplen : (pcells (((pthalf ps k).map phd).zip vs)).length = n * 3:=by rw [pcells_len]; simp [T2.len, hlen, Hn.out]
   have gt : ∀ j, j < n * 3 → ∃ u, w2.cell? ⟨w.heap.size, j, none⟩ = some u:=fun j hj => ⟨_, (hrow.cellAt j hj).trans (List.getElem?_eq_getElem (by rw [hplen]; exact hj))⟩
   obtain ⟨y0, d0⟩:=gt (k * 3) (by omega)
   obtain ⟨y1, d1⟩:=gt (k * 3 + 1) (by omega)
   obtain ⟨y2, d2⟩:=gt (k * 3 + 2) (by omega)
   have f0:=hrow.frozenAt (k * 3)
   have f1:=hrow.frozenAt (k * 3 + 1)
   have f2:=hrow.frozenAt (k * 3 + 2)
   have R:=hide (show OPtV (((w2.setCell ⟨w.heap.size, k * 3, none⟩ (.int .i64 m)).setCell ⟨w.heap.size, k * 3 + 1, none⟩ (.string s)).setCell ⟨w.heap.size, k * 3 + 2, none⟩ u2) w.heap.size (.slice (some ⟨w.heap.size, 0, none⟩) n n) (pthalf ps (k + 1)) (vs.set k u2) by
    have T3:=T2
    have en : n = (pthalf ps k).length:=by rw [hlen, Hn.out]
    rw [← HS.out]
    have:=opt_set (m:=m) (s:=s) (u:=u2) (xs:=xs) (k:=k) (cap:=n) (g:=w.heap.size) (w:=w2) (base:=w.heap.size) (ps:=pthalf ps k) (vs:=vs) (by rw [← en]; exact T3) (by rw [hlen]; exact hkx) (OI.mono o2 br.size) (fun j hj _ b hb e => by
     have h1:=World.ownsRow.lt (HT.out.each j hj) b hb
     have h2:=lt2 b e
     omega)
    rw [← en] at this
    exact this)
   have BR:=hide (((B2.setCell (p:=⟨w.heap.size, k * 3, none⟩) (Nat.le_refl _) (.int .i64 m)).setCell (p:=⟨w.heap.size, k * 3 + 1, none⟩) (Nat.le_refl _) (.string s)).setCell (p:=⟨w.heap.size, k * 3 + 2, none⟩) (Nat.le_refl _) u2)
   obtain ⟨va, vc, rfl⟩:=o2.form
   generalize xs.length = zl at *
   clear T2 B2 hrow hplen gt o2 lt2 HT TP RU c0 c1 c2
   go_wp2
   go_roundw
   case rel => exact ⟨k + 1, _, by omega, by go_num, R.out, BR.out⟩
   case measure => simp [intOf]; omega
  have hkn : pthalf ps k = ps:=by
   have:=Hn.out
   unfold pthalf
   rw [List.take_of_length_le (by omega), show ps.length - k = 0 by omega]
   simp
  rw [hkn] at T
  have T':=hide T
  clear T hkn H
  go_wp2
  go_ret
  exact ⟨_, rfl, ⟨_, T'.out⟩, br⟩
end
section
open Go.RowKit
variable [∀ (n : Int) (s : List Int), Decidable (OkL n s)]
variable [∀ (a b c d : Int), Decidable (Ok4 a b c d)]
variable [∀ (n f : Int), Decidable (COk n f)]
variable [∀ (a b c d : Nat), Decidable (okN a b c d)]
variable [∀ (last : Int) (s : St), Decidable (GoodSt last s)]
variable [∀ (x : T4), Decidable (OkT x)]
theorem tok_row {n f : Int} {ps : List Pt} (h : tokB n f ps = true) : ps.Pairwise Bf := by
 unfold tokB at h
 simp only [Bool.and_eq_true] at h
 exact (row_pair ps).1 h.1.2
theorem tok_ins {n f : Int} {ps : List Pt} {p : Pt} {k : Nat} (h : PlaceP ps p k) : tokB n f (insP ps p k) = tokB n f (addP ps p) ∧ (tokB n f (addP ps p) = true → insP ps p k = addP ps p) := by
 by_cases hp : ps.Pairwise Bf
 ·have e:=ins_add hp h
  exact ⟨by rw [e], fun _ => e⟩
 have h1 : tokB n f (insP ps p k) = false:=by
  cases e : tokB n f (insP ps p k) with
  | false => rfl
  | true => exact absurd (ins_pair (tok_row e)) hp
 have h2 : tokB n f (addP ps p) = false:=by
  cases e : tokB n f (addP ps p) with
  | false => rfl
  | true =>
   obtain ⟨j, hj⟩:=add_ins ps p
   rw [hj] at e
   exact absurd (ins_pair (tok_row e)) hp
 exact ⟨by rw [h1, h2], fun e => by rw [h2] at e; cases e⟩

theorem implTableAdd (n f : Int) (v : Value) (ps : List Pt) (m : Int) (s : ByteArray) (u : Value) (xs : List Int) (a : Addr) (w : World) (hl : ps.length ≤ 1048576) (hs : s.size ≤ 1048576) (hx : xs.length ≤ 1048576) (hw : ∀ q ∈ ps, q.2.1.size ≤ 1048576 ∧ q.2.2.length ≤ 1048576 ∧ WfL q.2.2) (wx : WfL xs) (hE : Env w) (G : Gv w a) (h : RPt w v ps) (hc : CapP v) (hu : RI w u xs) :
 Calls Tryz.prog 11 #[cv n f, v, qv m s u] w fun e w' => ∃ t, e = .returned (.tuple #[t,.bool (tokB n f (addP ps (m, s, xs)) && pokB n f m s xs)]) ∧ OPt w' w.heap.size t (if (tokB n f (addP ps (m, s, xs)) && pokB n f m s xs) then addP ps (m, s, xs) else ps) ∧ Below w.heap.size w w' := by
 obtain ⟨ao, ca, rfl⟩:=h.form
 obtain ⟨ua, uc, rfl⟩:=hu.form
 have hca : ps.length ≤ ca:=by obtain ⟨_, _, _, e, h1, _⟩:=hc; cases e; exact h1
 obtain ⟨w0, hw0⟩ : ∃ y, (w.alloc (.cells #[.int .i64 n,.int .i64 f] 33)).alloc (.cells #[.int .i64 m,.string s,.slice ua xs.length uc] 36) = y:=⟨_, rfl⟩
 have B : Below w.heap.size w w0:=hw0 ▸ qalloc2 _ _ _
 have C : Loc w0 w.heap.size #[.int .i64 n,.int .i64 f]:=hw0 ▸ (loc_at w _ _ rfl).alloc _
 have P : Loc w0 (w.heap.size + 1) #[.int .i64 m,.string s,.slice ua xs.length uc]:=hw0 ▸ loc_at (w.alloc _) _ _ (by simp)
 have WP:=hide (withPart_any ao ca ps m s ua uc xs a w0 (by omega) hca hx (fun q hq => ⟨by have:=(hw q hq).1; omega, (hw q hq).2.1, (hw q hq).2.2⟩) wx (h.below B) (hu.below B) (G.up B))
 have PO:=hide fun w' (hb : Below w.heap.size w w') => implPartOk n f m s (.slice ua xs.length uc) xs w' (by omega) (hE.below hb) (hu.below hb)
 have hsz : ∀ k, ∀ q ∈ insP ps (m, s, xs) k, q.2.1.size ≤ 1048576:=fun k q hq => by
  rcases ins_mem hq with h | rfl | ⟨x, h, _, rfl⟩
  ·exact (hw q h).1
  ·exact hs
  exact (hw x h).1
 have hil : ∀ k, (insP ps (m, s, xs) k).length ≤ ps.length + 1:=fun k => by
  unfold insP
  cases e : ps.drop k with
  | nil => simp [putP]; omega
  | cons x l =>
   have hd : (ps.drop k).length = l.length + 1:=by rw [e]; rfl
   rw [List.length_drop] at hd
   rw [putP_cons]
   split <;> simp <;> omega
 have TO:=hide fun k r w' (hE' : Env w') h => implTableOk n f r (insP ps (m, s, xs) k) w' (by have:=hil k; omega) (fun q hq => by have:=hsz k q hq; omega) hE' h
 have HE:=hide fun w' (hb : Below w.heap.size w w') => hE.below hb
 have TL:=hide fun w' (hb : Below w.heap.size w w') => toldEachP_any (.slice ao ps.length ca) ps w' (by omega) (fun q hq => by have:=(hw q hq).1; omega) (h.below hb)
 have TM:=hide fun k r w' h => toldEachP_any r (insP ps (m, s, xs) k) w' (by have:=hil k; omega) (fun q hq => by have:=hsz k q hq; omega) h
 have TI:=hide fun k (h : PlaceP ps (m, s, xs) k) => tok_ins (n:=n) (f:=f) h
 obtain ⟨ln, hln⟩ : ∃ l, ps.length = l:=⟨_, rfl⟩
 obtain ⟨xl, hxl⟩ : ∃ l, xs.length = l:=⟨_, rfl⟩
 rw [hln] at WP TL ⊢
 rw [hxl] at hw0 P WP PO ⊢
 generalize pokB n f m s xs = pb at *
 generalize tokB n f (addP ps (m, s, xs)) = tb at *
 have p0:=P.cell 0 rfl
 have p1:=P.cell 1 rfl
 have p2:=P.cell 2 rfl
 clear h hu hw wx hE G hc hca hsz hil hln hxl hl
 cases pb with
 | false =>
  rw [Bool.and_false]
  simp only [Bool.false_eq_true, if_false]
  go_enter Tryz.func11, Tryz.ntmps11
  go_wp2_with fail
  clear hw0 p0 p1 p2
  refine WP.out.mono ?_
  rintro e w1 ⟨r, k, rfl, HP, R1, b1⟩
  obtain ⟨ra, rc, rfl⟩:=R1.form
  generalize (insP ps (m, s, xs) k).length = il at *
  have B1:=bu B b1
  replace C:=C.up b1
  replace P:=P.up b1
  have c0:=C.cell 0 rfl
  have c1:=C.cell 1 rfl
  have p0:=P.cell 0 rfl
  have p1:=P.cell 1 rfl
  have p2:=P.cell 2 rfl
  clear HP R1 b1 B TO TM TI WP C P
  go_wp2_with fail
  clear c0 c1 p0 p1 p2
  refine (PO.out _ B1).mono ?_
  rintro e w2 ⟨rfl, b2⟩
  have B2:=bu B1 b2
  clear b2
  go_wp2_with fail
  refine (TL.out _ B2).mono ?_
  rintro e w3 ⟨t, rfl, o3, b3⟩
  have B3:=bu B2 b3
  have o3':=hide (o3.mono B2.size)
  obtain ⟨ta, tc, rfl⟩:=o3.form
  clear o3 b3
  go_wp2
  go_ret2
  exact ⟨_, rfl, o3'.out, B3⟩
 | true =>
  rw [Bool.and_true]
  go_enter Tryz.func11, Tryz.ntmps11
  go_wp2_with fail
  clear hw0 p0 p1 p2
  refine WP.out.mono ?_
  rintro e w1 ⟨r, k, rfl, HP, R1, b1⟩
  obtain ⟨h1, h2⟩:=TI.out k HP
  replace TO:=hide (fun w' hE' h => TO.out k r w' hE' h)
  rw [h1] at TO
  replace TM:=hide (fun w' h => TM.out k r w' h)
  have HI:=hide h2
  obtain ⟨ra, rc, hr⟩:=R1.form
  have RR:=hide fun w' (hb : Below w1.heap.size w1 w') => R1.below hb
  have HLN:=hide hr
  obtain ⟨il, hil⟩ : ∃ l, (insP ps (m, s, xs) k).length = l:=⟨_, rfl⟩
  rw [hil] at hr
  subst hr
  have B1:=bu B b1
  replace C:=C.up b1
  replace P:=P.up b1
  have c0:=C.cell 0 rfl
  have c1:=C.cell 1 rfl
  have p0:=P.cell 0 rfl
  have p1:=P.cell 1 rfl
  have p2:=P.cell 2 rfl
  clear HP R1 b1 B TI WP h1 h2 hil HLN
  go_wp2_with fail
  clear c0 c1 p0 p1 p2
  refine (PO.out _ B1).mono ?_
  rintro e w2 ⟨rfl, b2⟩
  have B2:=bu B1 b2
  replace C:=C.up b2
  have c0:=C.cell 0 rfl
  have c1:=C.cell 1 rfl
  have s1:=b2.size
  clear P C
  go_wp2_with fail
  clear c0 c1
  refine (TO.out w2 (HE.out _ B2) (RR.out _ b2)).mono ?_
  rintro e w3 ⟨rfl, b3⟩
  have B3:=bu B2 b3
  have b13 : Below w1.heap.size w1 w3:=bu b2 b3
  clear b2 b3 B1 B2 TO PO HE
  cases tb with
  | false =>
   go_wp2_with fail
   refine (TL.out _ B3).mono ?_
   rintro e w4 ⟨t, rfl, o4, b4⟩
   have B4:=bu B3 b4
   have o4':=hide (o4.mono B3.size)
   obtain ⟨ta, tc, rfl⟩:=o4.form
   clear o4 b4
   go_wp2
   go_ret2
   exact ⟨_, rfl, o4'.out, B4⟩
  | true =>
   have e:=HI.out rfl
   replace TM:=hide (TM.out w3 (RR.out _ b13))
   rw [e] at TM
   clear HI RR b13 e
   go_wp2_with fail
   refine TM.out.mono ?_
   rintro e w4 ⟨t, rfl, o4, b4⟩
   have B4:=bu B3 b4
   have o4':=hide (o4.mono B3.size)
   obtain ⟨ta, tc, rfl⟩:=o4.form
   clear o4 b4
   go_wp2
   go_ret2
   exact ⟨_, rfl, o4'.out, B4⟩
end
section
open Go.RowKit
variable [∀ (a b c d : Int), Decidable (Ok4 a b c d)]
variable [∀ (n f : Int), Decidable (COk n f)]
variable [∀ (n : Int) (s : List Int), Decidable (OkL n s)]
variable [∀ (a b c d : Nat), Decidable (okN a b c d)]
variable [∀ (last : Int) (s : St), Decidable (GoodSt last s)]
variable [∀ (x : T4), Decidable (OkT x)]
theorem fnTableAdd_long1 (n f : Int) (al : Option Addr) (cl : Nat) (rs : List Pr) (m : Int) (s : ByteArray) (u : Value) (w : World) (h : ATab w al rs) (hb : ∀ r ∈ rs, r.2.1.size ≤ maxLen ∧ r.2.2.2.2.length ≤ maxLen) (hm : rs.length ≤ maxLen) (hs : 1048576 < rs.length + psum rs) :
 Calls Tryz.prog 3 #[cv n f,.slice al rs.length cl, qv m s u] w fun e w' => e = .returned (.bool true) ∧ Below w.heap.size w w' := by
 obtain ⟨w0, hw0⟩ : ∃ y, (w.alloc (.cells #[.int .i64 n,.int .i64 f] 23)).alloc (.cells #[.int .i64 m,.string s, u] 27) = y:=⟨_, rfl⟩
 have B0 : Below w.heap.size w w0:=hw0 ▸ qalloc2 _ _ _
 have ZN:=hide (szPartS_no al cl rs 1048576 w0 (h.below B0) hb (by omega) hm (by omega) (by omega))
 generalize rs.length = l at *
 clear h hb hm hs
 go_enter Tryz.func3, Tryz.ntmps3
 go_wp2_with fail
 clear hw0
 refine ZN.out.mono ?_
 rintro e w1 ⟨rfl, b1⟩
 have B1:=bu B0 b1
 go_wp2
 go_ret
 exact ⟨rfl, B1⟩
theorem fnTableAdd_long2 (n f : Int) (al : Option Addr) (cl : Nat) (rs : List Pr) (m : Int) (s : ByteArray) (pa : Option Addr) (pc k : Nat) (w : World) (h : ATab w al rs) (h0 : rs.length + psum rs ≤ 1048576) (hs : 1048576 < rs.length + psum rs + s.size + k) (hsz : s.size ≤ maxLen) (hk : k ≤ maxLen) :
 Calls Tryz.prog 3 #[cv n f,.slice al rs.length cl, qv m s (.slice pa k pc)] w fun e w' => e = .returned (.bool true) ∧ Below w.heap.size w w' := by
 unfold maxLen at hsz hk
 obtain ⟨w0, hw0⟩ : ∃ y, (w.alloc (.cells #[.int .i64 n,.int .i64 f] 23)).alloc (.cells #[.int .i64 m,.string s,.slice pa k pc] 27) = y:=⟨_, rfl⟩
 have B0 : Below w.heap.size w w0:=hw0 ▸ qalloc2 _ _ _
 have P : Loc w0 (w.heap.size + 1) #[.int .i64 m,.string s,.slice pa k pc]:=hw0 ▸ loc_at (w.alloc _) _ _ (by simp)
 have ZA:=hide (szPartS_yes al cl rs 1048576 w0 (h.below B0) (by omega) (by omega))
 have ZB:=hide fun w => szPart_no m s pa k pc (1048576 - rs.length - psum rs) w (by omega) (by omega) (by omega) (by omega) (by omega)
 have hd : decide ((1048576 : Int) - (rs.length : Int) - (psum rs : Int) < 0) = false:=by simp; omega
 generalize rs.length = l at *
 generalize psum rs = sm at *
 clear h
 go_enter Tryz.func3, Tryz.ntmps3
 go_wp2_with fail
 clear hw0
 refine ZA.out.mono ?_
 rintro e w1 ⟨rfl, b1⟩
 have B1:=bu B0 b1
 replace P:=P.up b1
 have p0:=P.cell 0 rfl
 have p1:=P.cell 1 rfl
 have p2:=P.cell 2 rfl
 go_wp2_with fail
 refine (ZB.out _).mono ?_
 rintro e w2 ⟨rfl, b2⟩
 have B2:=bu B1 b2
 go_wp2
 go_ret
 exact ⟨rfl, B2⟩
abbrev AllP (w : World) (rs : List Pr) : Prop := ∀ r ∈ rs, r.2.1.size ≤ maxLen ∧ r.2.2.2.2.length ≤ maxLen ∧ AIW w r.2.2.1 r.2.2.2.2 ∧ WfL r.2.2.2.2
theorem fnTableAdd_walk (n f : Int) (al : Option Addr) (cl : Nat) (rs : List Pr) (m : Int) (s : ByteArray) (pa : Option Addr) (pc : Nat) (xs : List Int) (a : Addr) (w : World) (hm : rs.length ≤ maxLen) (h : ATab w al rs) (he : AllP w rs) (hs : s.size ≤ maxLen) (hn : xs.length ≤ maxLen) (hp : AIW w pa xs) (wx : WfL xs) (hE : Env w) (G : Gv w a) :
 Calls Tryz.prog 3 #[cv n f,.slice al rs.length cl, qv m s (.slice pa xs.length pc)] w fun e w' => e = .returned (.bool true) ∧ Below w.heap.size w w' := by
 by_cases h2 : 1048576 < rs.length + psum rs
 ·exact fnTableAdd_long1 n f al cl rs m s _ w h (fun r hr => ⟨(he r hr).1, (he r hr).2.1⟩) hm h2
 by_cases h3 : 1048576 < rs.length + psum rs + s.size + xs.length
 ·exact fnTableAdd_long2 n f al cl rs m s pa pc xs.length w h (by omega) h3 hs hn
 refine fnTableAdd_short (fun w => Env w ∧ Gv w a) (fun w w' h hb => ⟨h.1.below hb, h.2.below hb h.2.lt⟩) n f al cl rs m s pa pc xs w (fun v u w hEG hr hc hu => implTableAdd n f v (rs.map prp) m s u xs a w (by simp; omega) (by omega) (by omega) (fun q hq => ?_) wx hEG.1 hEG.2 hr hc hu) h (fun r hr => (he r hr).2.2.1) (hp.ri (by omega)) (by omega) ⟨hE, G⟩
 have hq2:=prp_mem hq
 obtain ⟨r, hr, rfl⟩:=List.mem_map.1 hq
 exact ⟨by omega, by omega, (he r hr).2.2.2⟩
end
end Go.Proofs.YtjkcphnohhpihaaGreatDoor
