/- Lemmas; their conditions stand in each statement. -/
import Derived.Test.YtjkcphnohhpihaaGreatDoorPPBL
import Derived.Test.YtjkcphnohhpihaaGreatDoorPPBB
set_option maxRecDepth 100000
set_option maxHeartbeats 4000000
set_option linter.unusedSectionVars false
namespace Go.Proofs.YtjkcphnohhpihaaGreatDoor
section
open Go.RowKit
variable [∀ (a b c d : Int), Decidable (Ok4 a b c d)]
variable [∀ (n f : Int), Decidable (COk n f)]
theorem getClo (m : Int) (s : ByteArray) (ua : Option Addr) (ul uc : Nat) (view : Int) (name : ByteArray) (g : Nat) (w : World) (hg : Loc w g #[.int .i64 view,.string name,.slice none 0 0]) :
 Calls Tryz.prog 71 #[qv m s (.slice ua ul uc),.pointer (some ⟨g, 0, none⟩)] w fun e w' => e = .returned (.bool (decide (m = view) && (s.toList == name.toList))) ∧ Below w.heap.size w w' := by
 have CT:=hide fun w => compareParts_any m view s name (.slice ua ul uc) (.slice none 0 0) [] [] w
 have hq : (cmpP (m, s, []) (view, name, []) == 0) = (decide (m = view) && (s.toList == name.toList)):=by
  have:=cmpP_eq (m, s, []) (view, name, [])
  rw [Bool.eq_iff_iff, beq_iff_eq, this]; rfl
 rw [← hq]
 clear hq
 generalize cmpP (m, s, []) (view, name, []) = q at *
 obtain ⟨w0, hw0⟩ : ∃ y, w.alloc (.cells #[.int .i64 m,.string s,.slice ua ul uc] 36) = y:=⟨_, rfl⟩
 have B0 : Below w.heap.size w w0:=hw0 ▸ qalloc _ _
 have L0 : Loc w0 w.heap.size #[.int .i64 m,.string s,.slice ua ul uc]:=hw0 ▸ loc_at w _ _ rfl
 have LG:=hg.up B0
 have a0:=L0.cell 0 rfl
 have a1:=L0.cell 1 rfl
 have a2:=L0.cell 2 rfl
 have c0:=LG.cell 0 rfl
 have c1:=LG.cell 1 rfl
 have c2:=LG.cell 2 rfl
 clear L0 LG hg
 go_enter Tryz.func71, Tryz.ntmps71
 go_wp2_with fail
 clear hw0
 refine (CT.out _).mono ?_
 rintro e w2 ⟨rfl, b2⟩
 have B2:=bu B0 b2
 go_wp2
 go_ret
 exact ⟨rfl, B2⟩

theorem indexP (v : Value) (ps : List Pt) (view : Int) (name : ByteArray) (g : Nat) (w : World) (hl : ps.length ≤ 4194304) (h : RPt w v ps) (hg : Loc w g #[.int .i64 view,.string name,.slice none 0 0]) :
 Calls Tryz.prog 70 #[v,.func (.func 71) #[] #[.pointer (some ⟨g, 0, none⟩)]] w fun e w' => ∃ q : Int, e = .returned (.int .i64 q) ∧ Hid ((∃ k : Nat, q = k ∧ k < ps.length ∧ getP ps view name = ps.getD k zpt) ∨ (q = -1 ∧ getP ps view name = (view, name, []))) ∧ Below w.heap.size w w' := by
 obtain ⟨ao, ca, rfl⟩:=h.form
 obtain ⟨n, hn⟩ : ∃ n, ps.length = n:=⟨_, rfl⟩
 have Hn:=hide hn
 have H:=hide h
 rw [hn] at hl H ⊢
 clear h hn
 have HG:=hide hg
 clear hg
 go_enter Tryz.func70, Tryz.ntmps70
 go_wp2
 go_loopw [8] (fun j wr => ∃ k : Nat, k ≤ n ∧ j = .int .i64 k ∧ Hid ((ps.take k).find? (fun x => decide (x.1 = view) && (x.2.1.toList == name.toList)) = none) ∧ Below w.heap.size w wr) (fun j _ => n - (intOf j).toNat)
 case atStart => exact ⟨0, Nat.zero_le _, rfl, hide (by simp), Below.refl _ _⟩
 case round =>
  obtain ⟨k, hk, rfl, HK, br⟩:=hrel
  by_cases hlt : k < n
  ·have hkx : k < ps.length:=by rw [Hn.out]; exact hlt
   obtain ⟨b, off, u, rfl, c0, c1, c2, ru⟩:=(H.out.below br).at k hkx
   obtain ⟨ua, uc, rfl⟩:=ru.form
   have LG:=HG.out.below (br.mono (Nat.le_refl _)) HG.out.lt
   have HF : Hid ((ps.getD k zpt).1 = view → ((ps.getD k zpt).2.1.toList == name.toList) = true → getP ps view name = ps.getD k zpt):=hide (get_first hkx HK.out)
   have HM : Hid ((decide ((ps.getD k zpt).1 = view) && ((ps.getD k zpt).2.1.toList == name.toList)) = false → (ps.take (k + 1)).find? (fun x => decide (x.1 = view) && (x.2.1.toList == name.toList)) = none):=hide (find_more hkx HK.out)
   have GC:=hide (getClo (ps.getD k zpt).1 (ps.getD k zpt).2.1 ua (ps.getD k zpt).2.2.length uc view name g wr LG)
   obtain ⟨x, hx⟩ : ∃ x, ps.getD k zpt = x:=⟨_, rfl⟩
   have HF2 : Hid (x.1 = view → (x.2.1.toList == name.toList) = true → getP ps view name = ps.getD k zpt):=hide (by rw [← hx]; exact HF.out)
   rw [hx] at c0 c1 c2 GC HM
   clear hx ru HK H HF LG
   obtain ⟨m, s, xs⟩:=x
   simp only at c0 c1 c2 GC HM HF2
   generalize xs.length = xl at *
   cases hq : (decide (m = view) && (s.toList == name.toList)) with
   | true =>
    rw [hq] at GC
    rw [Bool.and_eq_true, decide_eq_true_iff] at hq
    have F:=hide (HF2.out hq.1 hq.2)
    clear hq HF2 HM
    go_wp2_with fail
    refine GC.out.mono ?_
    rintro _ w2 ⟨rfl, b2⟩
    go_wp2
    go_ret
    exact ⟨k, rfl, hide (.inl ⟨k, rfl, hlt, F.out⟩), bu br b2⟩
   | false =>
    rw [hq] at GC
    have F:=hide (HM.out hq)
    clear hq HF2 HM
    go_wp2_with fail
    refine GC.out.mono ?_
    rintro _ w2 ⟨rfl, b2⟩
    go_wp2
    go_roundw
    case rel => exact ⟨k + 1, by omega, by go_num, F, bu br b2⟩
    case measure => simp [intOf]; omega
  have hkn : ps.take k = ps:=List.take_of_length_le (by have:=Hn.out; omega)
  have h0:=HK.out
  rw [hkn] at h0
  have F:=hide (get_none h0)
  have hd2 : decide ((k : Int) < (n : Int)) = false:=by simp; omega
  clear HK h0 hkn H
  go_wp2
  go_ret
  exact ⟨-1, rfl, hide (.inr ⟨rfl, F.out⟩), br⟩

theorem implTableGet (v : Value) (ps : List Pt) (view : Int) (name : ByteArray) (w : World) (hl : ps.length ≤ 4194304) (hn : name.size ≤ 281474976710656) (hs : ∀ p ∈ ps, p.2.1.size ≤ 281474976710656) (h : RPt w v ps) :
 Calls Tryz.prog 32 #[v,.int .i64 view,.string name] w fun e w' => ∃ u, e = .returned (qv (getP ps view name).1 (getP ps view name).2.1 u) ∧ OI w' w.heap.size u (getP ps view name).2.2 ∧ Below w.heap.size w w' := by
 obtain ⟨ao, ca, rfl⟩:=h.form
 have IX:=hide fun g w h hg => indexP (.slice ao ps.length ca) ps view name g w hl h hg
 generalize getP ps view name = r at *
 obtain ⟨m, s, xs⟩:=r
 simp only at IX ⊢
 obtain ⟨xl, hxl⟩ : ∃ l, xs.length = l:=⟨_, rfl⟩
 replace hxl:=hide hxl
 obtain ⟨w0, hw0⟩ : ∃ y, (w.alloc zpo).alloc (.cells #[.int .i64 view,.string name,.slice none 0 0] 36) = y:=⟨_, rfl⟩
 have B0 : Below w.heap.size w w0:=hw0 ▸ qalloc2 _ _ _
 have LZ : Loc w0 w.heap.size #[.int .i64 0,.string ⟨#[]⟩,.slice none 0 0]:=hw0 ▸ (loc_at w _ _ rfl).alloc _
 have LW : Loc w0 (w.heap.size + 1) #[.int .i64 view,.string name,.slice none 0 0]:=hw0 ▸ loc_at (w.alloc _) _ _ (by simp)
 have s0 : w0.heap.size = w.heap.size + 2:=by rw [← hw0]; simp
 have HR:=hide (h.below B0)
 replace hw0:=hide hw0
 obtain ⟨n, hnn⟩ : ∃ n, ps.length = n:=⟨_, rfl⟩
 have Hn:=hide hnn
 have HS:=hide hs
 rw [hnn] at IX HR hl ⊢
 clear h hnn hs
 have FIN : Hid (∀ w2 m s u xs, OI w2 w0.heap.size u xs → Below w.heap.size w w2 → Loc w2 w.heap.size #[.int .i64 0,.string ⟨#[]⟩,.slice none 0 0] → OI (((w2.setCell ⟨w.heap.size, 0, none⟩ (.int .i64 m)).setCell ⟨w.heap.size, 1, none⟩ (.string s)).setCell ⟨w.heap.size, 2, none⟩ u) w.heap.size u xs ∧ Below w.heap.size w (((w2.setCell ⟨w.heap.size, 0, none⟩ (.int .i64 m)).setCell ⟨w.heap.size, 1, none⟩ (.string s)).setCell ⟨w.heap.size, 2, none⟩ u)):=hide fun w2 m s u xs o b _ => by
  have K5 : Kp w2 (((w2.setCell ⟨w.heap.size, 0, none⟩ (.int .i64 m)).setCell ⟨w.heap.size, 1, none⟩ (.string s)).setCell ⟨w.heap.size, 2, none⟩ u) (fun k => k = w.heap.size):=((set_kp _ _ _ _).trans (set_kp _ _ _ _)).trans (set_kp _ _ _ _)
  have lt2:=World.ownsRow.lt o
  exact ⟨(o.kp K5 (fun k hk => by have := lt2 k hk; omega)).mono (by omega), Below.kp b K5 b.size (fun k hk => by omega)⟩
 go_enter Tryz.func32, Tryz.ntmps32
 go_upto_region 2 with fail
 rw [hw0.out]
 clear hw0
 go_wp2_with fail
 refine (IX.out _ _ HR.out LW).mono ?_
 rintro e w1 ⟨q, rfl, HQ, b1⟩
 have Z1:=LZ.up b1
 have W1:=LW.up b1
 have B1:=bu B0 b1
 have sz1:=b1.size
 have R1:=HR.out.below b1
 clear LZ LW B0 b1 HR IX
 rcases HQ.out with ⟨k, rfl, hk, hg⟩ | ⟨rfl, hg⟩
 ·obtain ⟨b, off, u, rfl, c0, c1, c2, ru⟩:=R1.at k (by have:=Hn.out; omega)
  obtain ⟨ua, uc, rfl⟩:=ru.form
  have hd : decide ((k : Int) < 0) = false:=by simp
  have hsz:=HS.out _ (pt_mem (show k < ps.length by have:=Hn.out; omega))
  rw [← hg] at c0 c1 c2 ru hsz
  simp only at c0 c1 c2 ru hsz
  have TP:=hide (ptold_any m s _ xs w1 ru hsz)
  rw [hxl.out] at c2 TP
  clear hg HQ R1 W1 ru HS
  go_wp2_with fail
  refine TP.out.mono ?_
  rintro e w2 ⟨u2, rfl, o2, b2⟩
  have Z2:=Z1.up b2
  have B2:=bu B1 b2
  have y0:=Z2.cell 0 rfl
  have y1:=Z2.cell 1 rfl
  have y2:=Z2.cell 2 rfl
  have fy:=Z2.frozen
  have R:=hide (FIN.out w2 m s u2 xs (OI.mono o2 sz1) B2 Z2)
  obtain ⟨va, vc, hu2⟩:=o2.form
  rw [hxl.out] at hu2
  subst hu2
  clear o2 b2 Z2 Z1 B1 FIN TP c0 c1 c2
  go_wp2
  refine bodyPost_ret (v := qv m s (.slice va xl vc)) (by simp [results, Tryz.results32, go_sem, y0, y1, y2]) rfl ?_
  exact ⟨_, rfl, R.out.1, R.out.2⟩
 simp only [Prod.mk.injEq] at hg
 obtain ⟨e1, e2, e3⟩:=hg
 rw [← e1, ← e2] at W1
 rw [← e2] at hn
 have TP:=hide (ptold_any m s (.slice none 0 0) xs w1 (by rw [e3]; exact OI.ri (World.ownsRow_nil _ 0 _ _) (by simp)) hn)
 clear e1 e2 e3
 have x0:=W1.cell 0 rfl
 have x1:=W1.cell 1 rfl
 have x2:=W1.cell 2 rfl
 clear HQ R1 HS
 go_wp2_with fail
 refine TP.out.mono ?_
 rintro e w2 ⟨u2, rfl, o2, b2⟩
 have Z2:=Z1.up b2
 have B2:=bu B1 b2
 have y0:=Z2.cell 0 rfl
 have y1:=Z2.cell 1 rfl
 have y2:=Z2.cell 2 rfl
 have fy:=Z2.frozen
 have R:=hide (FIN.out w2 m s u2 xs (OI.mono o2 sz1) B2 Z2)
 obtain ⟨va, vc, hu2⟩:=o2.form
 rw [hxl.out] at hu2
 subst hu2
 clear o2 b2 Z2 Z1 B1 FIN TP x0 x1 x2 W1
 go_wp2
 refine bodyPost_ret (v := qv m s (.slice va xl vc)) (by simp [results, Tryz.results32, go_sem, y0, y1, y2]) rfl ?_
 exact ⟨_, rfl, R.out.1, R.out.2⟩
theorem dropClo (m : Int) (s : ByteArray) (u : Value) (view : Int) (g : Nat) (w : World) (hg : w.cell? ⟨g, 0, none⟩ = some (.int .i64 view)) :
 Calls Tryz.prog 76 #[qv m s u,.pointer (some ⟨g, 0, none⟩)] w fun e w' => e = .returned (.bool (decide (view ≤ m))) ∧ Below w.heap.size w w' := by
 obtain ⟨w0, hw0⟩ : ∃ y, w.alloc (.cells #[.int .i64 m,.string s, u] 36) = y:=⟨_, rfl⟩
 have B0 : Below w.heap.size w w0:=hw0 ▸ qalloc _ _
 have L0 : Loc w0 w.heap.size #[.int .i64 m,.string s, u]:=hw0 ▸ loc_at w _ _ rfl
 have hg0:=(B0.cell (p:=⟨g, 0, none⟩) (cell_lt hg)).trans hg
 have a0:=L0.cell 0 rfl
 clear L0 hg
 go_enter Tryz.func76, Tryz.ntmps76
 go_wp2_with fail
 go_ret
 exact ⟨by simp, B0⟩

theorem pick_parts (v : Value) (ps : List Pt) (view : Int) (g : Nat) (fv : Value) (w : World) (hl : ps.length ≤ 4194304) (h : RPt w v ps) (hg : w.cell? ⟨g, 0, none⟩ = some (.int .i64 view)) :
 Calls Tryz.prog 75 #[.agg #[v, fv],.int .i64 ps.length,.func (.func 76) #[] #[.pointer (some ⟨g, 0, none⟩)]] w fun e w' => ∃ u us, e = .returned u ∧ XPt w w' u (dropP ps view) us ∧ Below w.heap.size w w' := by
 obtain ⟨ao, ca, rfl⟩:=h.form
 obtain ⟨n, hn⟩ : ∃ n, ps.length = n:=⟨_, rfl⟩
 have Hn:=hide hn
 obtain ⟨rs, HRS⟩ : ∃ r, Hid (dropP ps view = r):=⟨_, hide rfl⟩
 rw [HRS.out]
 obtain ⟨w0, hw0⟩ : ∃ y, w.alloc (.cells #[.slice ao n ca, fv] 100) = y:=⟨_, rfl⟩
 have B0 : Below w.heap.size w w0:=hw0 ▸ qalloc _ _
 have L0 : Loc w0 w.heap.size #[.slice ao n ca, fv]:=hw0 ▸ loc_at w _ _ rfl
 have q0:=L0.cell 0 rfl
 have H:=hide h
 have HG:=hide hg
 rw [hn] at hl H ⊢
 clear h hn hg L0
 go_enter Tryz.func75, Tryz.ntmps75
 go_wp2
 clear hw0
 go_loopw [7, 13] (fun t i wr => ∃ (k : Nat) (ds : List Pt) (us : List Value) (ta : Option Addr) (tc : Nat), k ≤ n ∧ i = .int .i64 k ∧ t = .slice ta ds.length tc ∧ ds.length ≤ k ∧ Hid (dropP (ps.take k) view = ds) ∧ XPt w wr (.slice ta ds.length tc) ds us ∧ Below w.heap.size w wr) (fun _ i _ => n - (intOf i).toNat)
 case atStart => exact ⟨0, [], [], none, 0, Nat.zero_le _, rfl, rfl, Nat.le_refl _, hide (by simp [dropP]), xpt_nil _ _, B0⟩
 case round =>
  clear B0 q0
  obtain ⟨k, ds, us, ta, tc, hk, rfl, rfl, hdl, HD, T, br⟩:=hrel
  by_cases hlt : k < n
  ·have hkx : k < ps.length:=by have:=Hn.out; omega
   have HT:=hide (drop_take ps k view hkx)
   rw [HD.out] at HT
   obtain ⟨b, off, u, rfl, c0, c1, c2, ru⟩:=H.out.at k hkx
   have lb:=cell_lt c0
   have c0:=(br.cell (p:=⟨b, off + k * 3, none⟩) lb).trans c0
   have c1:=(br.cell (p:=⟨b, off + k * 3 + 1, none⟩) lb).trans c1
   have c2:=(br.cell (p:=⟨b, off + k * 3 + 2, none⟩) lb).trans c2
   obtain ⟨x, hx⟩ : ∃ x, ps.getD k zpt = x:=⟨_, rfl⟩
   rw [hx] at c0 c1 ru HT
   clear hx
   obtain ⟨m, s, xs⟩:=x
   simp only at c0 c1 ru
   obtain ⟨ua, uc, rfl⟩:=ru.form
   have RU:=hide ru
   obtain ⟨w1, hw1⟩ : ∃ y, wr.alloc (.cells #[.int .i64 m,.string s,.slice ua xs.length uc] 36) = y:=⟨_, rfl⟩
   have b1 : Below wr.heap.size wr w1:=hw1 ▸ qalloc _ _
   have L1 : Loc w1 wr.heap.size #[.int .i64 m,.string s,.slice ua xs.length uc]:=hw1 ▸ loc_at wr _ _ rfl
   have p0:=L1.cell 0 rfl
   have p1:=L1.cell 1 rfl
   have p2:=L1.cell 2 rfl
   have TT:=hide (T.below b1)
   replace br:=bu br b1
   have cg:=(br.cell (p:=⟨g, 0, none⟩) (cell_lt HG.out)).trans HG.out
   have DC:=hide (dropClo m s (.slice ua xs.length uc) view g w1 cg)
   have hne : ((ds.length : Int) == (n : Int)) = false:=by simp; omega
   obtain ⟨dl, hdl2⟩ : ∃ l, ds.length = l:=⟨_, rfl⟩
   replace hdl2:=hide hdl2
   generalize xs.length = xl at *
   clear ru T H b1 cg lb
   by_cases hv : view ≤ m
   ·rw [decide_eq_true hv] at DC
    rw [if_pos hv] at HT
    clear hv
    go_wp2_with fail
    clear hw1 p0 p1 p2 c0 c1 c2
    refine DC.out.mono ?_
    rintro e w2 ⟨rfl, b2⟩
    have L2:=L1.up b2
    have p0:=L2.cell 0 rfl
    have p1:=L2.cell 1 rfl
    have p2:=L2.cell 2 rfl
    obtain ⟨w3, hw3⟩ : ∃ y, w2.alloc (.cells #[.int .i64 m,.string s,.slice ua xl uc] 36) = y:=⟨_, rfl⟩
    have b3 : Below w2.heap.size w2 w3:=hw3 ▸ qalloc _ _
    have L3 : Loc w3 w2.heap.size #[.int .i64 m,.string s,.slice ua xl uc]:=hw3 ▸ loc_at w2 _ _ rfl
    have d0:=L3.cell 0 rfl
    have d1:=L3.cell 1 rfl
    have d2:=L3.cell 2 rfl
    have T3:=hide ((TT.out.below b2).below b3)
    have B3:=(bu br b2).trans (b3.mono (Nat.le_trans br.size b2.size))
    have s3:=B3.size
    clear L1 L2 L3 b2 b3 TT DC
    go_wp2_with (first
     | (at_builtin; clear hw3 p0 p1 p2; refine append_x rfl _ _ rfl w (.slice ta ds.length tc) ds us w2.heap.size 1 m s _ xs rfl rfl T3.out d0 d1 d2 RU.out (by omega) s3 ?_; intro v4 w4 ho4 hg4
        have r4:=World.ownsRow.lt T3.out.row
        have B4:=B3.grown hg4 s3 (fun j e => (r4 j e).1)
        obtain ⟨a4, c4, hv4⟩:=ho4.form
        have hl4 : (ds ++ [(m, s, xs)]).length ≤ k + 1:=by simp; omega
        have HT4:=hide HT.out
        generalize ds ++ [(m, s, xs)] = es at *
        subst hv4
        have O4:=hide ho4
        clear T3 B3 ho4 hg4 r4 d0 d1 d2 HD hdl2))
    go_roundw
    case rel => exact ⟨k + 1, _, _, a4, c4, by omega, by go_num, rfl, hl4, HT4, O4.out, B4⟩
    case measure => simp [intOf]; omega
   rw [decide_eq_false hv] at DC
   rw [if_neg hv, List.append_nil] at HT
   clear hv
   go_wp2_with fail
   clear hw1 p0 p1 p2 c0 c1 c2
   refine DC.out.mono ?_
   rintro e w2 ⟨rfl, b2⟩
   have T2:=hide (TT.out.below b2)
   have B2:=bu br b2
   clear L1 TT DC b2
   go_wp2
   go_roundw
   case rel => exact ⟨k + 1, ds, us, ta, tc, by omega, by go_num, rfl, by omega, HT, T2.out, B2⟩
   case measure => simp [intOf]; omega
  have hkn : ps.take k = ps:=List.take_of_length_le (by have:=Hn.out; omega)
  rw [hkn] at HD
  have hd2 : decide ((k : Int) < (n : Int)) = false:=by simp; omega
  obtain rfl : rs = ds:=HRS.out.symm.trans HD.out
  have T':=hide T
  clear T hkn H HD hdl HRS
  go_wp2
  go_ret
  exact ⟨_, us, rfl, T'.out, br⟩

theorem implTableDrop (v : Value) (ps : List Pt) (view : Int) (w : World) (hl : ps.length ≤ 4194304) (hs : ∀ p ∈ ps, p.2.1.size ≤ 281474976710656) (h : RPt w v ps) :
 Calls Tryz.prog 34 #[v,.int .i64 view] w fun e w' => ∃ u, e = .returned u ∧ OPt w' w.heap.size u (dropP ps view) ∧ Below w.heap.size w w' := by
 obtain ⟨ao, ca, rfl⟩:=h.form
 obtain ⟨w0, hw0⟩ : ∃ y, w.alloc (.cells #[.int .i64 view] 3) = y:=⟨_, rfl⟩
 have B0 : Below w.heap.size w w0:=hw0 ▸ qalloc _ _
 have L0 : Loc w0 w.heap.size #[.int .i64 view]:=hw0 ▸ loc_at w _ _ rfl
 have c0:=L0.cell 0 rfl
 have hlen : (dropP ps view).length ≤ ps.length:=List.length_filter_le _ _
 have hs2 : ∀ p ∈ dropP ps view, p.2.1.size ≤ 281474976710656:=fun p hp => hs p (List.mem_filter.1 hp).1
 have PK:=hide fun g fv w h hg => pick_parts (.slice ao ps.length ca) ps view g fv w hl h hg
 have TP:=hide fun u w h => toldEachP_any u (dropP ps view) w (by omega) hs2 h
 have TO:=hide fun w => tableOf_any ao ps.length ca w
 have HR:=hide (h.below B0)
 generalize dropP ps view = ds at *
 generalize ps.length = n at *
 clear h hs hs2 L0
 go_enter Tryz.func34, Tryz.ntmps34
 go_wp2_with fail
 clear hw0
 refine (TO.out _).mono ?_
 rintro e w1 ⟨rfl, b1⟩
 have R1:=HR.out.below b1
 have g1:=(b1.cell (p:=⟨w.heap.size, 0, none⟩) (cell_lt c0)).trans c0
 have B1:=bu B0 b1
 clear b1 c0 TO HR
 go_wp2_with fail
 refine (PK.out _ _ _ R1 g1).mono ?_
 rintro e w2 ⟨u, us, rfl, X, b2⟩
 have B2:=bu B1 b2
 have R2:=X.rpt b2
 have s2:=B2.size
 obtain ⟨ua, uc, rfl⟩:=X.form
 clear X b2 PK R1 g1
 go_wp2_with fail
 refine (TP.out _ _ R2).mono ?_
 rintro e w3 ⟨t, rfl, o3, b3⟩
 have B3:=B2.trans (b3.mono s2)
 obtain ⟨ta, tc, rfl⟩:=o3.form
 go_wp2
 go_ret
 exact ⟨_, rfl, o3.mono s2, B3⟩
end
section
open Go.RowKit
theorem sameInts_yes (va vb : Value) (xs : List Int) (w : World) (ha : RI w va xs) (hb : RI w vb xs) :
 Calls Tryz.prog 68 #[va, vb] w fun e w' => e = .returned (.bool true) ∧ ∃ n, w' = w.drewN n := by
 obtain ⟨hl, ao, ca, rfl, ha⟩:=ha
 obtain ⟨_, bo, cb, rfl, hb⟩:=hb
 generalize hn : xs.length = n at *
 have Hn : Hid (xs.length = n):=hn
 clear hn
 go_enter Tryz.func68, Tryz.ntmps68
 go_wp2
 go_loopw [5] (fun i wr => ∃ k : Nat, k ≤ n ∧ i = .int .i64 k ∧ ∃ m, wr = w.drewN m) (fun i _ => n - (intOf i).toNat)
 case atStart => exact ⟨0, Nat.zero_le _, rfl, 0, rfl⟩
 case round =>
  obtain ⟨k, hk, rfl, m, rfl⟩:=hrel
  by_cases hlt : k < n
  ·rcases ha with ha | ⟨b, off, rfl, ha⟩
   ·subst ha; have := Hn.out; simp at this; omega
   rcases hb with hb | ⟨b', off', rfl, hb⟩
   ·subst hb; have := Hn.out; simp at this; omega
   have ha':=ha k hlt
   have hb':=hb k hlt
   clear ha hb
   generalize xs.getD k 0 = d at *
   go_wp2_with fail
   go_quiet (fail)
   go_wp2
   go_roundw
   case rel => exact ⟨k + 1, by omega, by go_num, _, rfl⟩
   case measure => simp [intOf]; omega
  clear ha hb
  go_wp2
  go_ret
  exact ⟨rfl, _, rfl⟩

theorem big_any (ao : Option Addr) (n ca : Nat) (w : World) (hn : n ≤ 9223372036854775807) :
 Calls Tryz.prog 17 #[.slice ao n ca] w fun e w' => e = .returned (.bool (decide (1048576 < n))) ∧ Below w.heap.size w w' := by
 have hd : decide ((1048576 : Int) < (n : Int)) = decide (1048576 < n):=by simp; omega
 go_enter Tryz.func17, Tryz.ntmps17
 go_wp2
 go_ret
 refine ⟨?_, Below.refl _ _⟩
 simp
 try omega
theorem samePart_yes (n : Int) (s : ByteArray) (a b : Value) (xs : List Int) (w : World) (ha : RI w a xs) (hb : RI w b xs) :
 Calls Tryz.prog 29 #[qv n s a, qv n s b] w fun e w' => e = .returned (.bool true) ∧ Below w.heap.size w w' := by
 obtain ⟨aa, ac, rfl⟩:=ha.form
 obtain ⟨ba, bc, rfl⟩:=hb.form
 obtain ⟨w0, hw0⟩ : ∃ y, (w.alloc (.cells #[.int .i64 n,.string s,.slice aa xs.length ac] 36)).alloc (.cells #[.int .i64 n,.string s,.slice ba xs.length bc] 36) = y:=⟨_, rfl⟩
 have B0 : Below w.heap.size w w0:=hw0 ▸ qalloc2 _ _ _
 have X : Loc w0 w.heap.size #[.int .i64 n,.string s,.slice aa xs.length ac]:=hw0 ▸ (loc_at w _ _ rfl).alloc _
 have Y : Loc w0 (w.heap.size + 1) #[.int .i64 n,.string s,.slice ba xs.length bc]:=hw0 ▸ loc_at (w.alloc _) _ _ (by simp)
 have SI:=hide (sameInts_yes _ _ xs w0 (ha.below B0) (hb.below B0))
 obtain ⟨xl, hxl⟩ : ∃ l, xs.length = l:=⟨_, rfl⟩
 rw [hxl] at hw0 X Y SI ⊢
 have x0:=X.cell 0 rfl
 have x1:=X.cell 1 rfl
 have x2:=X.cell 2 rfl
 have y0:=Y.cell 0 rfl
 have y1:=Y.cell 1 rfl
 have y2:=Y.cell 2 rfl
 clear ha hb X Y hxl
 go_enter Tryz.func29, Tryz.ntmps29
 go_wp2_with fail
 clear hw0
 refine SI.out.mono ?_
 rintro e w1 ⟨rfl, nd, rfl⟩
 clear x0 x1 x2 y0 y1 y2
 go_wp2
 go_ret
 exact ⟨rfl, below_drewN' B0 _⟩

theorem sameTable_yes (v u : Value) (ps : List Pt) (w : World) (hl : ps.length ≤ 4194304) (hv : RPt w v ps) (hu : RPt w u ps) :
 Calls Tryz.prog 30 #[v, u] w fun e w' => e = .returned (.bool true) ∧ Below w.heap.size w w' := by
 obtain ⟨ao, ca, rfl, ha⟩:=hv
 obtain ⟨bo, cb, rfl, hb⟩:=hu
 obtain ⟨n, hn⟩ : ∃ n, ps.length = n:=⟨_, rfl⟩
 have Hn:=hide hn
 rw [hn] at hl ha hb ⊢
 clear hn
 go_enter Tryz.func30, Tryz.ntmps30
 go_wp2
 go_loopw [5] (fun i wr => ∃ k : Nat, k ≤ n ∧ i = .int .i64 k ∧ Below w.heap.size w wr) (fun i _ => n - (intOf i).toNat)
 case atStart => exact ⟨0, Nat.zero_le _, rfl, Below.refl _ _⟩
 case round =>
  obtain ⟨k, hk, rfl, br⟩:=hrel
  have hsr:=br.size
  by_cases hlt : k < n
  ·rcases ha with ha | ⟨g, o, rfl, ha⟩
   ·subst ha; have := Hn.out; simp at this; omega
   rcases hb with hb | ⟨g', o', rfl, hb⟩
   ·subst hb; have := Hn.out; simp at this; omega
   obtain ⟨p, a0, a1, a2, ra⟩:=ha k hlt
   obtain ⟨q, b0, b1, b2, rb⟩:=hb k hlt
   have hg : g < w.heap.size:=cell_lt a0
   have hg' : g' < w.heap.size:=cell_lt b0
   generalize (ps.getD k zpt).1 = m at *
   generalize (ps.getD k zpt).2.1 = s at *
   generalize (ps.getD k zpt).2.2 = xs at *
   have K : Hid (∀ w', Below wr.heap.size wr w' → Below wr.heap.size wr w' ∧ (w'.cell? ⟨g, o + k * 3, none⟩ = some (.int .i64 m) ∧ w'.cell? ⟨g, o + k * 3 + 1, none⟩ = some (.string s) ∧ w'.cell? ⟨g, o + k * 3 + 2, none⟩ = some p) ∧ (w'.cell? ⟨g', o' + k * 3, none⟩ = some (.int .i64 m) ∧ w'.cell? ⟨g', o' + k * 3 + 1, none⟩ = some (.string s) ∧ w'.cell? ⟨g', o' + k * 3 + 2, none⟩ = some q)):=fun w' hb' => by
    have hw:=br.trans (hb'.mono hsr)
    exact ⟨hb', ⟨(hw.cell (p := ⟨g, o + k * 3, none⟩) hg).trans a0, (hw.cell (p := ⟨g, o + k * 3 + 1, none⟩) hg).trans a1, (hw.cell (p := ⟨g, o + k * 3 + 2, none⟩) hg).trans a2⟩, ⟨(hw.cell (p := ⟨g', o' + k * 3, none⟩) hg').trans b0, (hw.cell (p := ⟨g', o' + k * 3 + 1, none⟩) hg').trans b1, (hw.cell (p := ⟨g', o' + k * 3 + 2, none⟩) hg').trans b2⟩⟩
   have EQ : Hid (∀ w', Below wr.heap.size wr w' → Calls Tryz.prog 29 #[qv m s p, qv m s q] w' fun e w'' => e = .returned (.bool true) ∧ Below w'.heap.size w' w''):=hide fun w' hb' => by
    have hw:=br.trans (hb'.mono hsr)
    exact samePart_yes m s p q xs w' (ra.below hw) (rb.below hw)
   obtain ⟨pa, pc, rfl⟩:=ra.form
   obtain ⟨qa, qc, rfl⟩:=rb.form
   have bA : Below wr.heap.size wr wr.drew:=Below.drew (Below.refl _ _)
   have hKeep:=K.out _ bA
   clear ha hb a0 a1 a2 b0 b1 b2 ra rb
   generalize xs.length = xl at *
   go_wp2_with fail
   first | go_region_held3 (fun w' => Below wr.heap.size wr w' ∧ (w'.cell? ⟨g, o + k * 3, none⟩ = some (.int .i64 m) ∧ w'.cell? ⟨g, o + k * 3 + 1, none⟩ = some (.string s) ∧ w'.cell? ⟨g, o + k * 3 + 2, none⟩ = some (.slice pa xl pc)) ∧ (w'.cell? ⟨g', o' + k * 3, none⟩ = some (.int .i64 m) ∧ w'.cell? ⟨g', o' + k * 3 + 1, none⟩ = some (.string s) ∧ w'.cell? ⟨g', o' + k * 3 + 2, none⟩ = some (.slice qa xl qc))) (exact hKeep) (first
    | (go_at_call 29; have hgo := bA; refine (EQ.out _ bA).mono ?_; rintro e wa ⟨rfl, ba⟩
       have bB : Below wr.heap.size wr wa:=bA.trans ba
       have hKeep:=K.out _ bB; clear bA hgo)) | fail
   all_goals
    go_wp2
    go_roundw
    case rel => exact ⟨k + 1, by omega, by go_num, br.trans (bB.mono hsr)⟩
    case measure => simp [intOf]; omega
  have hkn : k = n:=by omega
  subst hkn
  clear ha hb
  go_wp2
  go_ret
  exact ⟨rfl, br⟩
end
end Go.Proofs.YtjkcphnohhpihaaGreatDoor
