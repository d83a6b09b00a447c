/- Lemmas; their conditions stand in each statement. -/
import Derived.Test.YtmpffkpilbbclaaGreatDoorSABD
set_option maxRecDepth 100000
set_option maxHeartbeats 16000000
set_option linter.unusedSectionVars false
set_option linter.unusedSimpArgs false
namespace Go.Proofs.YtmpffkpilbbclaaGreatDoor
section
open Go.RowKit
variable [∀ (n : Int) (s : List Int), Decidable (OkL n s)]
variable [∀ (a b c d : Int), Decidable (Ok4 a b c d)]
variable [∀ (n f : Int), Decidable (COk n f)]
variable [∀ (a b c d : Nat), Decidable (okN a b c d)]
variable [∀ (last : Int) (s : St), Decidable (GoodSt last s)]
variable [∀ (x : T4), Decidable (OkT x)]
theorem notPart_any (n f m : Int) (s : ByteArray) (u : Value) (xs : List Int) (g : Nat) (w : World) (hs : s.size ≤ 33554432) (hE : Env w) (hu : RI w u xs) (hg : Loc w g #[.int .i64 n,.int .i64 f]) :
 Calls Tryz.prog 137 #[qv m s u,.pointer (some ⟨g, 0, none⟩)] w fun e w' => e = .returned (.bool (!pokB n f m s xs)) ∧ Below w.heap.size w w' := by
 obtain ⟨ua, uc, rfl⟩:=hu.form
 obtain ⟨ul, hul⟩ : ∃ l, xs.length = l:=⟨_, rfl⟩
 obtain ⟨w0, hw0⟩ : ∃ y, w.alloc (.cells #[.int .i64 m,.string s,.slice ua xs.length uc] 71) = y:=⟨_, rfl⟩
 have B0 : Below w.heap.size w w0:=hw0 ▸ qalloc _ _
 have L0 : Loc w0 w.heap.size #[.int .i64 m,.string s,.slice ua xs.length uc]:=hw0 ▸ loc_at w _ _ rfl
 have LG:=hg.up B0
 have PO:=hide (implPartOk n f m s (.slice ua xs.length uc) xs w0 hs (hE.below B0) (hu.below B0))
 rw [hul] at L0 PO hw0 ⊢
 have a0:=L0.cell 0 rfl
 have a1:=L0.cell 1 rfl
 have a2:=L0.cell 2 rfl
 have c0:=LG.cell 0 rfl
 have c1:=LG.cell 1 rfl
 generalize pokB n f m s xs = b at *
 clear L0 LG hg hu hE hul
 go_enter Tryz.func137, Tryz.ntmps137
 go_wp2_with fail
 clear hw0
 refine PO.out.mono ?_
 rintro e w2 ⟨rfl, b2⟩
 have B2:=bu B0 b2
 go_wp2
 go_ret
 exact ⟨rfl, B2⟩

theorem all_take {n f : Int} {ps : List Pt} {k : Nat} (hk : k < ps.length) (h : (ps.take k).all (fun p => pokB n f p.1 p.2.1 p.2.2) = true) (h1 : pokB n f (ps.getD k zpt).1 (ps.getD k zpt).2.1 (ps.getD k zpt).2.2 = true) : (ps.take (k + 1)).all (fun p => pokB n f p.1 p.2.1 p.2.2) = true := by
 have e : ps.take (k + 1) = ps.take k ++ [ps.getD k zpt]:=by
  rw [List.take_succ_eq_append_getElem hk]; simp [List.getElem?_eq_getElem hk]
 rw [e, List.all_append, h, List.all_cons, h1]
 rfl
theorem all_bad {n f : Int} {ps : List Pt} {k : Nat} (hk : k < ps.length) (h1 : pokB n f (ps.getD k zpt).1 (ps.getD k zpt).2.1 (ps.getD k zpt).2.2 = false) : ps.all (fun p => pokB n f p.1 p.2.1 p.2.2) = false := by
 cases e : ps.all (fun p => pokB n f p.1 p.2.1 p.2.2) with
 | false => rfl
 | true => rw [List.all_eq_true] at e; have := e _ (pt_mem hk); rw [h1] at this; cases this

theorem indexNot (n f : Int) (v : Value) (ps : List Pt) (g : Nat) (w : World) (hl : ps.length ≤ 4194304) (hs : ∀ p ∈ ps, p.2.1.size ≤ 33554432) (hE : Env w) (h : RPt w v ps) (hg : Loc w g #[.int .i64 n,.int .i64 f]) :
 Calls Tryz.prog 145 #[v,.func (.func 137) #[] #[.pointer (some ⟨g, 0, none⟩)]] w fun e w' => ∃ q : Int, e = .returned (.int .i64 q) ∧ decide (q ≥ 0) = !(ps.all fun p => pokB n f p.1 p.2.1 p.2.2) ∧ Below w.heap.size w w' := by
 obtain ⟨ao, ca, rfl⟩:=h.form
 obtain ⟨len, hn⟩ : ∃ n, ps.length = n:=⟨_, rfl⟩
 have Hn:=hide hn
 have H:=hide h
 rw [hn] at hl H ⊢
 have HS:=hide hs
 have HG:=hide hg
 have HE:=hide hE
 clear h hn hg hs hE
 go_enter Tryz.func145, Tryz.ntmps145
 go_wp2
 go_loopw [8] (fun j wr => ∃ k : Nat, k ≤ len ∧ j = .int .i64 k ∧ Hid ((ps.take k).all (fun p => pokB n f p.1 p.2.1 p.2.2) = true) ∧ Below w.heap.size w wr) (fun j _ => len - (intOf j).toNat)
 case atStart => exact ⟨0, Nat.zero_le _, rfl, hide (by simp), Below.refl _ _⟩
 case round =>
  obtain ⟨k, hk, rfl, HK, br⟩:=hrel
  by_cases hlt : k < len
  ·have hkx : k < ps.length:=by rw [Hn.out]; exact hlt
   obtain ⟨b, off, u, rfl, c0, c1, c2, ru⟩:=(H.out.below br).at k hkx
   have GC:=hide (notPart_any n f (ps.getD k zpt).1 (ps.getD k zpt).2.1 u (ps.getD k zpt).2.2 g wr (HS.out _ (pt_mem hkx)) (HE.out.below br) ru (HG.out.below br HG.out.lt))
   have HF:=hide fun h1 => all_bad (n:=n) (f:=f) hkx h1
   have HM:=hide fun h1 => all_take (n:=n) (f:=f) hkx HK.out h1
   obtain ⟨ua, uc, rfl⟩:=ru.form
   clear ru HK H
   generalize pokB n f (ps.getD k zpt).1 (ps.getD k zpt).2.1 (ps.getD k zpt).2.2 = pb at *
   generalize (ps.getD k zpt).1 = m at *
   generalize (ps.getD k zpt).2.1 = s at *
   generalize (ps.getD k zpt).2.2.length = xl at *
   cases pb with
   | false =>
    have F:=hide (HF.out rfl)
    clear HF HM
    go_wp2_with fail
    refine GC.out.mono ?_
    rintro _ w2 ⟨rfl, b2⟩
    go_wp2
    go_ret
    exact ⟨k, rfl, by rw [F.out]; simp, bu br b2⟩
   | true =>
    have F:=hide (HM.out rfl)
    clear HF HM
    go_wp2_with fail
    refine GC.out.mono ?_
    rintro _ w2 ⟨rfl, b2⟩
    go_wp2
    go_roundw
    case rel => exact ⟨k + 1, by omega, by go_num, F, bu br b2⟩
    case measure => simp [intOf]; omega
  have hkn : ps.take k = ps:=List.take_of_length_le (by have:=Hn.out; omega)
  have h0:=HK.out
  rw [hkn] at h0
  have F:=hide h0
  have hd2 : decide ((k : Int) < (len : Int)) = false:=by simp; omega
  clear HK h0 hkn H
  go_wp2
  go_ret
  exact ⟨-1, rfl, by rw [F.out]; simp, br⟩

theorem containsNot (n f : Int) (v : Value) (ps : List Pt) (g : Nat) (w : World) (hl : ps.length ≤ 4194304) (hs : ∀ p ∈ ps, p.2.1.size ≤ 33554432) (hE : Env w) (h : RPt w v ps) (hg : Loc w g #[.int .i64 n,.int .i64 f]) :
 Calls Tryz.prog 139 #[v,.func (.func 137) #[] #[.pointer (some ⟨g, 0, none⟩)]] w fun e w' => e = .returned (.bool (!(ps.all fun p => pokB n f p.1 p.2.1 p.2.2))) ∧ Below w.heap.size w w' := by
 have IX:=hide (indexNot n f v ps g w hl hs hE h hg)
 obtain ⟨ao, ca, rfl⟩:=h.form
 generalize ps.length = len at *
 generalize (ps.all fun p => pokB n f p.1 p.2.1 p.2.2) = b at *
 clear h hg hE hs
 go_enter Tryz.func139, Tryz.ntmps139
 go_wp2_with fail
 refine IX.out.mono ?_
 rintro e w2 ⟨q, rfl, hq, b2⟩
 go_wp2
 go_ret
 exact ⟨by rw [← hq]; rfl, b2⟩

theorem tok_alt (n f : Int) (ps : List Pt) : tokB n f ps = (decide ((ps.length : Int) ≤ 20) && ((ps.all fun p => pokB n f p.1 p.2.1 p.2.2) && rowP ps)) := by
 unfold tokB
 have : decide (ps.length ≤ 20) = decide ((ps.length : Int) ≤ 20):=by rw [decide_eq_decide]; omega
 rw [this, Bool.and_comm]

theorem implTableOk (n f : Int) (v : Value) (ps : List Pt) (w : World) (hl : ps.length ≤ 4194304) (hs : ∀ p ∈ ps, p.2.1.size ≤ 33554432) (hE : Env w) (h : RPt w v ps) :
 Calls Tryz.prog 89 #[cv n f, v] w fun e w' => e = .returned (.bool (tokB n f ps)) ∧ Below w.heap.size w w' := by
 rw [tok_alt]
 obtain ⟨ao, ca, rfl⟩:=h.form
 obtain ⟨w0, hw0⟩ : ∃ y, w.alloc (.cells #[.int .i64 n,.int .i64 f] 43) = y:=⟨_, rfl⟩
 have B0 : Below w.heap.size w w0:=hw0 ▸ qalloc _ _
 have L0 : Loc w0 w.heap.size #[.int .i64 n,.int .i64 f]:=hw0 ▸ loc_at w _ _ rfl
 have CN:=hide (containsNot n f (.slice ao ps.length ca) ps w.heap.size w0 hl hs (hE.below B0) (h.below B0) L0)
 have AS:=hide fun w h => ascendsP_any (.slice ao ps.length ca) ps w hl h
 have TO:=hide fun w => tableOf_any ao ps.length ca w
 have HR:=hide fun w' (hb : Below w.heap.size w w') => h.below hb
 generalize ps.length = len at *
 generalize (ps.all fun p => pokB n f p.1 p.2.1 p.2.2) = b at *
 generalize rowP ps = r at *
 clear h hE hs L0
 by_cases h20 : (len : Int) ≤ 20
 ·have hd : decide ((len : Int) ≤ 20) = true:=by simpa using h20
  rw [hd, Bool.true_and]
  cases b with
  | false =>
   rw [Bool.false_and]
   go_enter Tryz.func89, Tryz.ntmps89
   go_wp2_with fail
   clear hw0
   refine CN.out.mono ?_
   rintro e w1 ⟨rfl, b1⟩
   have B1:=bu B0 b1
   go_wp2
   go_ret
   exact ⟨rfl, B1⟩
  | true =>
   rw [Bool.true_and]
   go_enter Tryz.func89, Tryz.ntmps89
   go_wp2_with fail
   clear hw0
   refine CN.out.mono ?_
   rintro e w1 ⟨rfl, b1⟩
   have B1:=bu B0 b1
   clear b1 CN
   go_wp2_with fail
   refine (TO.out _).mono ?_
   rintro e w2 ⟨rfl, b2⟩
   have B2:=bu B1 b2
   clear b2 TO
   go_wp2_with fail
   refine (AS.out _ (HR.out _ B2)).mono ?_
   rintro e w3 ⟨rfl, b3⟩
   have B3:=bu B2 b3
   go_wp2
   go_ret
   exact ⟨rfl, B3⟩
 have hd : decide ((len : Int) ≤ 20) = false:=by simpa using h20
 rw [hd, Bool.false_and]
 go_enter Tryz.func89, Tryz.ntmps89
 go_wp2
 go_ret
 exact ⟨rfl, B0⟩
end
section
open Go Go.RowKit
variable [∀ (a b c d : Int), Decidable (Ok4 a b c d)]
variable [∀ (n f : Int), Decidable (COk n f)]
variable [∀ (a b c d : Nat), Decidable (okN a b c d)]
variable [∀ (x : T4), Decidable (OkT x)]
variable [∀ (last : Int) (s : St), Decidable (GoodSt last s)]
variable [∀ (n : Int) (s : List Int), Decidable (OkL n s)]
variable [∀ (x y : T4), Decidable (Bef x y)]
variable [∀ (ts : List T4), Decidable (Asc ts)]
variable [∀ (ts : List T4), Decidable (AllOk ts)]
variable [∀ (ts : List T4), Decidable (POk ts)]
theorem notPost_any (n f id m : Int) (u : MT) (oa ob oc : Option Addr) (ka kb kc gc gr : Nat) (x1 x2 x3 x4 x5 x6 x7 x8 x9 x10 x11 x12 x13 : Value) (w : World) (hs : MH u) (hi : MI u) (wrapn : IntKind.i64.wrap (n - 1) = n - 1) (hE : Env w) (ra : RI w (.slice oa u.bw.length ka) u.bw) (rb : RI w (.slice ob u.pw.length kb) u.pw) (rc : RI w (.slice oc u.qw.length kc) u.qw) (hg : Loc w gc #[.int .i64 n,.int .i64 f]) (hr : Loc w gr #[.int .i64 id, x1, x2, x3, x4, x5, x6, x7, x8, x9, x10, x11, x12, x13]) :
 Calls Tryz.prog 142 #[pov m u (.slice oa u.bw.length ka) (.slice ob u.pw.length kb) (.slice oc u.qw.length kc),.pointer (some ⟨gc, 0, none⟩),.pointer (some ⟨gr, 0, none⟩)] w fun e w' => e = .returned (.bool (!pstB n f id (m, u))) ∧ Below w.heap.size w w' := by
 have I4:=hide fun w => within_bool m 0 (n - 1) w
 have MO:=hide fun w he h1 h2 h3 => implMsgOk n f u oa ob oc ka kb kc w hs hi he h1 h2 h3
 have HE:=hide hE
 have H1:=hide ra
 have H2:=hide rb
 have H3:=hide rc
 have wn:=wrapn
 have hq3 : (m == id) = decide (m = id):=by by_cases h : m = id <;> simp [h]
 unfold pstB
 generalize mokB n f u = p1 at *
 generalize decide (0 ≤ m ∧ m ≤ n - 1) = p2 at *
 generalize hp3 : decide (m = id) = p3 at *
 clear hE ra rb rc hs hi wrapn hp3
 have gl:=hg.lt
 have rl:=hr.lt
 obtain ⟨w0, hw0, Bw0, P, zw0⟩:=bx1 w #[.int .i64 m,.int .i64 u.k,.int .i64 u.vw,.string u.bn,.int .i64 u.bv,.string u.bs,.slice oa u.bw.length ka,.int .i64 u.pv,.string u.ps,.slice ob u.pw.length kb,.int .i64 u.qv,.string u.qs,.slice oc u.qw.length kc,.int .i64 u.wh,.int .i64 u.fr,.int .i64 u.tu,.int .i64 u.am,.int .i64 u.no] 123
 go_enter Tryz.func142, Tryz.ntmps142
 have GC:=hg.below Bw0 gl
 have GR:=hr.below Bw0 rl
 clear hg hr gl rl
 have cP0:=P.cell 0 rfl
 have cGC0:=GC.cell 0 rfl
 go_wp2_with fail
 clear hw0
 refine (I4.out _).mono ?_
 rintro _ w1 ⟨rfl, bb⟩
 clear cP0 cGC0
 have Bw1:=bu Bw0 bb
 have sw1:=bb.size
 replace P:=P.up bb
 replace GC:=GC.up bb
 replace GR:=GR.up bb
 clear Bw0 bb
 cases p2
 ·go_wp2
  go_ret
  exact ⟨by simp, Bw1⟩
 cases p3
 ·have cP0:=P.cell 0 rfl
  have cGR0:=GR.cell 0 rfl
  obtain ⟨cGC0,cGC1⟩:=cc2 GC 0 1
  go_wp2_with (first | (refine wloadM [.int .i64 u.k, .int .i64 u.vw, .string u.bn, .int .i64 u.bv, .string u.bs, .slice oa u.bw.length ka, .int .i64 u.pv, .string u.ps, .slice ob u.pw.length kb, .int .i64 u.qv, .string u.qs, .slice oc u.qw.length kc, .int .i64 u.wh, .int .i64 u.fr, .int .i64 u.tu, .int .i64 u.am, .int .i64 u.no] (P.range 1 17 rfl) 121 _ rfl _ rfl rfl Tryz.underlying121 rfl (by kernel_rfl) ?_))
  refine (MO.out _ (HE.out.below Bw1) (H1.out.below Bw1) (H2.out.below Bw1) (H3.out.below Bw1)).mono ?_
  rintro _ w2 ⟨rfl, bb⟩
  clear cP0 cGR0 cGC0 cGC1
  have Bw2:=bu Bw1 bb
  have sw2:=bb.size
  replace P:=P.up bb
  replace GC:=GC.up bb
  replace GR:=GR.up bb
  clear Bw1 bb
  go_wp2
  go_ret
  exact ⟨by simp, Bw2⟩
 have cP0:=P.cell 0 rfl
 have cGR0:=GR.cell 0 rfl
 go_wp2
 go_ret
 exact ⟨by simp, Bw1⟩
theorem indexPost (n f id : Int) (ao : Option Addr) (ca : Nat) (ps : List PoT) (gc gr : Nat) (x1 x2 x3 x4 x5 x6 x7 x8 x9 x10 x11 x12 x13 : Value) (w : World) (hl : ps.length ≤ 1048577) (hs : ∀ j, j < ps.length → MH (ps.getD j zpost).2 ∧ MI (ps.getD j zpost).2) (wrapn : IntKind.i64.wrap (n - 1) = n - 1) (hE : Env w) (h : RPo w (.slice ao ps.length ca) ps) (hg : Loc w gc #[.int .i64 n,.int .i64 f]) (hr : Loc w gr #[.int .i64 id, x1, x2, x3, x4, x5, x6, x7, x8, x9, x10, x11, x12, x13]) :
 Calls Tryz.prog 180 #[.slice ao ps.length ca, (.func (.func 142) #[] #[.pointer (some ⟨gc, 0, none⟩),.pointer (some ⟨gr, 0, none⟩)])] w fun e w' => ∃ q : Int, e = .returned (.int .i64 q) ∧ decide (q ≥ 0) = !(hokB n f id ps) ∧ Below w.heap.size w w' := by
 obtain ⟨len, hn⟩ : ∃ n, ps.length = n:=⟨_, rfl⟩
 have Hn:=hide hn
 have H:=hide h
 rw [hn] at hl H ⊢
 have HS:=hide hs
 have HG:=hide hg
 have HR:=hide hr
 have HE:=hide hE
 have WN:=hide wrapn
 clear h hn hg hr hs hE wrapn
 go_enter Tryz.func180, Tryz.ntmps180
 go_wp2
 go_loopw [8] (fun j wr => ∃ k : Nat, k ≤ len ∧ j = .int .i64 k ∧ Hid (hokB n f id (ps.take k) = true) ∧ Below w.heap.size w wr) (fun j _ => len - (intOf j).toNat)
 case atStart => exact ⟨0, Nat.zero_le _, rfl, hide (by simp [hokB]), Below.refl _ _⟩
 case round =>
  obtain ⟨k, hk, rfl, HK, br⟩:=hrel
  by_cases hlt : k < len
  ·have hkx : k < ps.length:=by rw [Hn.out]; exact hlt
   have RP:=H.out.below br
   obtain ⟨g, off, cs, rfl, _, c1, a, b, c, e, ra, rb, rc⟩:=RG.at RP k hkx
   subst e
   obtain ⟨oa, ka, rfl⟩:=ra.form
   obtain ⟨ob, kb, rfl⟩:=rb.form
   obtain ⟨oc, kc, rfl⟩:=rc.form
   have GC:=hide (notPost_any n f id (ps.getD k zpost).1 (ps.getD k zpost).2 oa ob oc ka kb kc gc gr x1 x2 x3 x4 x5 x6 x7 x8 x9 x10 x11 x12 x13 wr (HS.out _ hkx).1 (HS.out _ hkx).2 WN.out (HE.out.below br) ra rb rc (HG.out.below br HG.out.lt) (HR.out.below br HR.out.lt))
   have HF:=hide fun h1 => hok_no (n:=n) (f:=f) (id:=id) hkx h1
   have HM:=hide fun h1 => hok_next (n:=n) (f:=f) (id:=id) hkx HK.out h1
   have ep : ((ps.getD k zpost).1, (ps.getD k zpost).2) = ps.getD k zpost:=rfl
   rw [ep] at GC
   clear ra rb rc HK H RP ep
   generalize pstB n f id (ps.getD k zpost) = pb at *
   generalize (ps.getD k zpost).1 = m at *
   generalize (ps.getD k zpost).2 = u at *
   cases pb with
   | false =>
    have F:=hide (HF.out rfl)
    clear HF HM
    go_wp2_with (first | (refine wloadM _ c1 123 _ rfl _ rfl rfl Tryz.underlying123 rfl (by kernel_rfl) ?_))
    refine GC.out.mono ?_
    rintro _ w2 ⟨rfl, b2⟩
    go_wp2
    go_ret
    exact ⟨k, rfl, by rw [F.out]; simp, bu br b2⟩
   | true =>
    have F:=hide (HM.out rfl)
    clear HF HM
    go_wp2_with (first | (refine wloadM _ c1 123 _ rfl _ rfl rfl Tryz.underlying123 rfl (by kernel_rfl) ?_))
    refine GC.out.mono ?_
    rintro _ w2 ⟨rfl, b2⟩
    go_wp2
    go_roundw
    case rel => exact ⟨k + 1, by omega, by go_num, F, bu br b2⟩
    case measure => simp [intOf]; omega
  have hkn : ps.take k = ps:=List.take_of_length_le (by have:=Hn.out; omega)
  have h0:=HK.out
  rw [hkn] at h0
  have F:=hide h0
  have hd2 : decide ((k : Int) < (len : Int)) = false:=by simp; omega
  clear HK h0 hkn H
  go_wp2
  go_ret
  exact ⟨-1, rfl, by rw [F.out]; simp, br⟩
theorem containsPost (n f id : Int) (ao : Option Addr) (ca : Nat) (ps : List PoT) (gc gr : Nat) (x1 x2 x3 x4 x5 x6 x7 x8 x9 x10 x11 x12 x13 : Value) (w : World) (hl : ps.length ≤ 1048577) (hs : ∀ j, j < ps.length → MH (ps.getD j zpost).2 ∧ MI (ps.getD j zpost).2) (wrapn : IntKind.i64.wrap (n - 1) = n - 1) (hE : Env w) (h : RPo w (.slice ao ps.length ca) ps) (hg : Loc w gc #[.int .i64 n,.int .i64 f]) (hr : Loc w gr #[.int .i64 id, x1, x2, x3, x4, x5, x6, x7, x8, x9, x10, x11, x12, x13]) :
 Calls Tryz.prog 144 #[.slice ao ps.length ca, (.func (.func 142) #[] #[.pointer (some ⟨gc, 0, none⟩),.pointer (some ⟨gr, 0, none⟩)])] w fun e w' => e = .returned (.bool (!(hokB n f id ps))) ∧ Below w.heap.size w w' := by
 have IX:=hide (indexPost n f id ao ca ps gc gr x1 x2 x3 x4 x5 x6 x7 x8 x9 x10 x11 x12 x13 w hl hs wrapn hE h hg hr)
 generalize ps.length = len at *
 generalize hokB n f id ps = b at *
 clear h hg hE hs hr wrapn
 go_enter Tryz.func144, Tryz.ntmps144
 go_wp2_with fail
 refine IX.out.mono ?_
 rintro e w2 ⟨q, rfl, hq, b2⟩
 go_wp2
 go_ret
 exact ⟨by rw [← hq]; rfl, b2⟩
theorem holdsRight_any (n f : Int) (t : RpT) (ao bo co od oe : Option Addr) (ca cb cc cd ce : Nat) (w : World) (hl : t.held.length ≤ 1048577) (hh : ∀ j, j < t.held.length → MH (t.held.getD j zpost).2 ∧ MI (t.held.getD j zpost).2) (wrapn : IntKind.i64.wrap (n - 1) = n - 1) (hE : Env w) (h : RPo w (.slice oe t.held.length ce) t.held) :
 Calls Tryz.prog 91 #[rpv t (.slice ao t.qw.length ca) (.slice bo t.pool.length cb) (.slice co t.tab.length cc) (.slice od t.dsk.length cd) (.slice oe t.held.length ce), cv n f] w fun e w' => e = .returned (.bool (decide (t.held.length ≤ 30) && hokB n f t.id t.held)) ∧ Below w.heap.size w w' := by
 have CP:=hide fun gc gr x1 x2 x3 x4 x5 x6 x7 x8 x9 x10 x11 x12 x13 w he h hg hr => containsPost n f t.id oe ce t.held gc gr x1 x2 x3 x4 x5 x6 x7 x8 x9 x10 x11 x12 x13 w hl hh wrapn he h hg hr
 have HE:=hide hE
 have HR:=hide h
 clear hE h hh wrapn
 have hb5 : decide ((t.held.length : Int) ≤ 30) = decide (t.held.length ≤ 30):=by rw [decide_eq_decide]; omega
 generalize hokB n f t.id t.held = b1 at *
 generalize decide (t.held.length ≤ 30) = b0 at *
 generalize t.held.length = hn at *
 obtain ⟨w0, hw0, Bw0, A, LC, zw0⟩:=bx2 w #[.int .i64 t.id,.int .i64 t.vw,.int .i64 t.ak,.int .i64 t.vo,.int .i64 t.lo,.int .i64 t.n,.string t.s,.slice ao t.qw.length ca,.string t.d,.slice bo t.pool.length cb,.slice co t.tab.length cc,.slice od t.dsk.length cd,.int .i64 t.su,.slice oe hn ce] 52 #[.int .i64 n,.int .i64 f] 43
 go_enter Tryz.func91, Tryz.ntmps91
 have cA13:=A.cell 13 rfl
 cases b0
 ·go_wp2
  go_ret
  exact ⟨by simp, Bw0⟩
 go_wp2_with fail
 clear hw0
 refine (CP.out _ _ _ _ _ _ _ _ _ _ _ _ _ _ _ _ (HE.out.below Bw0) (HR.out.below Bw0) LC A).mono ?_
 rintro _ w1 ⟨rfl, bb⟩
 clear cA13
 have Bw1:=bu Bw0 bb
 have sw1:=bb.size
 replace A:=A.up bb
 replace LC:=LC.up bb
 clear Bw0 bb
 go_wp2
 go_ret
 exact ⟨by simp, Bw1⟩
theorem rep_alt (n f : Int) (t : RpT) : repB n f t = (decide (0 ≤ t.id ∧ t.id ≤ IntKind.i64.wrap (n - 1)) && (decide (1 ≤ t.vw ∧ t.vw ≤ 60) && (decide (0 ≤ t.ak ∧ t.ak ≤ 60) && (sokB n f t.vo t.lo t.n t.s t.qw t.d && (decide (POk t.pool) && (tokB n f t.tab && (dokB t.dsk.length t.su && (decide (t.held.length ≤ 30) && hokB n f t.id t.held)))))))) := by
 unfold repB
 by_cases h : COk n f
 ·have : IntKind.i64.wrap (n - 1) = n - 1:=by unfold COk at h; rw [IntKind.wrap_i64] <;> omega
  rw [this, decide_eq_true h, Bool.true_and]
 have : sokB n f t.vo t.lo t.n t.s t.qw t.d = false:=by
  cases e : sokB n f t.vo t.lo t.n t.s t.qw t.d with
  | false => rfl
  | true =>
   have:=(sok_done e).2.2.1
   unfold qokB at this
   rw [decide_eq_false h] at this
   simp at this
 rw [decide_eq_false h, this]
 simp
structure RI_ (t : RpT) : Prop where
 s : t.s.size ≤ 33554432
 d : t.d.size ≤ 33554432
 tb : ∀ p ∈ t.tab, p.2.1.size ≤ 33554432
 h : ∀ j, j < t.held.length → MH (t.held.getD j zpost).2 ∧ MI (t.held.getD j zpost).2
theorem implRepOk (n f : Int) (t : RpT) (ao bo co od oe : Option Addr) (ca cb cc cd ce : Nat) (w : World) (hm : RSm t) (hs : RI_ t) (hE : Env w) (h : RRep w t (.slice ao t.qw.length ca) (.slice bo t.pool.length cb) (.slice co t.tab.length cc) (.slice od t.dsk.length cd) (.slice oe t.held.length ce)) :
 Calls Tryz.prog 39 #[cv n f, rpv t (.slice ao t.qw.length ca) (.slice bo t.pool.length cb) (.slice co t.tab.length cc) (.slice od t.dsk.length cd) (.slice oe t.held.length ce)] w fun e w' => e = .returned (.bool (repB n f t)) ∧ Below w.heap.size w w' := by
 rw [rep_alt]
 obtain ⟨nm, wn⟩ : ∃ m, IntKind.i64.wrap (n - 1) = m:=⟨_, rfl⟩
 rw [wn]
 have i1:=hide fun w => within_bool t.id 0 nm w
 have i2:=hide fun w => within_bool t.vw 1 60 w
 have i3:=hide fun w => within_bool t.ak 0 60 w
 have SO:=hide fun w he h => implSafeOk n f t.vo t.lo t.n t.s ao ca t.qw t.d w hs.s hs.d he h
 have PO:=hide fun w h => implPoolOk (.slice bo t.pool.length cb) t.pool w h
 have TO:=hide fun w he h => implTableOk n f (.slice co t.tab.length cc) t.tab w (by have:=hm.tb; omega) hs.tb he h
 have DO:=hide fun w => implDiskOk od t.dsk.length cd t.su w
 have HO : Hid (sokB n f t.vo t.lo t.n t.s t.qw t.d = true → ∀ w, Env w → RPo w (.slice oe t.held.length ce) t.held → Calls Tryz.prog 91 #[rpv t (.slice ao t.qw.length ca) (.slice bo t.pool.length cb) (.slice co t.tab.length cc) (.slice od t.dsk.length cd) (.slice oe t.held.length ce), cv n f] w fun e w' => e = .returned (.bool (decide (t.held.length ≤ 30) && hokB n f t.id t.held)) ∧ Below w.heap.size w w'):=hide fun hb w he h => holdsRight_any n f t ao bo co od oe ca cb cc cd ce w hm.h hs.h (by
  have h1:=(sok_done hb).2.2.1
  have h2 : COk n f:=by
   unfold qokB at h1
   simp only [Bool.and_eq_true, decide_eq_true_eq] at h1
   exact h1.1.1.1
  unfold COk at h2
  rw [IntKind.wrap_i64] <;> omega) he h
 have HR:=hide h
 have HE:=hide hE
 clear h hs hm hE
 generalize decide (0 ≤ t.id ∧ t.id ≤ nm) = b1 at *
 generalize decide (1 ≤ t.vw ∧ t.vw ≤ 60) = b2 at *
 generalize decide (0 ≤ t.ak ∧ t.ak ≤ 60) = b3 at *
 generalize sokB n f t.vo t.lo t.n t.s t.qw t.d = b4 at *
 generalize decide (POk t.pool) = b5 at *
 generalize tokB n f t.tab = b6 at *
 generalize dokB t.dsk.length t.su = b7 at *
 generalize (decide (t.held.length ≤ 30) && hokB n f t.id t.held) = b8 at *
 obtain ⟨w0, hw0, Bw0, LC, A, zw0⟩:=bx2 w #[.int .i64 n,.int .i64 f] 43 #[.int .i64 t.id,.int .i64 t.vw,.int .i64 t.ak,.int .i64 t.vo,.int .i64 t.lo,.int .i64 t.n,.string t.s,.slice ao t.qw.length ca,.string t.d,.slice bo t.pool.length cb,.slice co t.tab.length cc,.slice od t.dsk.length cd,.int .i64 t.su,.slice oe t.held.length ce] 52
 go_enter Tryz.func39, Tryz.ntmps39
 obtain ⟨cLC0,cLC1⟩:=cc2 LC 0 1
 have cA0:=A.cell 0 rfl
 go_wp2_with fail
 clear hw0
 refine (i1.out _).mono ?_
 rintro _ w1 ⟨rfl, bb⟩
 clear cLC0 cLC1 cA0
 have Bw1:=bu Bw0 bb
 have sw1:=bb.size
 replace LC:=LC.up bb
 replace A:=A.up bb
 clear Bw0 bb
 cases b1
 ·go_wp2
  go_ret
  exact ⟨by simp, Bw1⟩
 have cLC0:=LC.cell 0 rfl
 obtain ⟨cA0,cA1⟩:=cc2 A 0 1
 go_wp2_with fail
 refine (i2.out _).mono ?_
 rintro _ w2 ⟨rfl, bb⟩
 clear cLC0 cA0 cA1
 have Bw2:=bu Bw1 bb
 have sw2:=bb.size
 replace LC:=LC.up bb
 replace A:=A.up bb
 clear Bw1 bb
 cases b2
 ·go_wp2
  go_ret
  exact ⟨by simp, Bw2⟩
 have cLC0:=LC.cell 0 rfl
 obtain ⟨cA0,cA1,cA2⟩:=cc3 A 0 1 2
 go_wp2_with fail
 refine (i3.out _).mono ?_
 rintro _ w3 ⟨rfl, bb⟩
 clear cLC0 cA0 cA1 cA2
 have Bw3:=bu Bw2 bb
 have sw3:=bb.size
 replace LC:=LC.up bb
 replace A:=A.up bb
 clear Bw2 bb
 cases b3
 ·go_wp2
  go_ret
  exact ⟨by simp, Bw3⟩
 obtain ⟨cLC0,cLC1⟩:=cc2 LC 0 1
 go_wp2_with (first | (refine wloadM [.int .i64 t.vo, .int .i64 t.lo, .int .i64 t.n, .string t.s, .slice ao t.qw.length ca, .string t.d] (A.range 3 6 rfl) 46 _ rfl _ rfl rfl Tryz.underlying46 rfl (by kernel_rfl) ?_))
 refine (SO.out _ (HE.out.below Bw3) (HR.out.q.below Bw3)).mono ?_
 rintro _ w4 ⟨rfl, bb⟩
 clear cLC0 cLC1
 have Bw4:=bu Bw3 bb
 have sw4:=bb.size
 replace LC:=LC.up bb
 replace A:=A.up bb
 clear Bw3 bb
 cases b4
 ·go_wp2
  go_ret
  exact ⟨by simp, Bw4⟩
 have HO2:=HO.out rfl
 replace HO2:=hide HO2
 clear HO
 obtain ⟨cLC0,cLC1⟩:=cc2 LC 0 1
 have cA9:=A.cell 9 rfl
 go_wp2_with fail
 refine (PO.out _ (HR.out.p.below Bw4)).mono ?_
 rintro _ w5 ⟨rfl, bb⟩
 clear cLC0 cLC1 cA9
 have Bw5:=bu Bw4 bb
 have sw5:=bb.size
 replace LC:=LC.up bb
 replace A:=A.up bb
 clear Bw4 bb
 cases b5
 ·go_wp2
  go_ret
  exact ⟨by simp, Bw5⟩
 obtain ⟨cLC0,cLC1⟩:=cc2 LC 0 1
 have cA10:=A.cell 10 rfl
 go_wp2_with fail
 refine (TO.out _ (HE.out.below Bw5) (HR.out.tb.below Bw5)).mono ?_
 rintro _ w6 ⟨rfl, bb⟩
 clear cLC0 cLC1 cA10
 have Bw6:=bu Bw5 bb
 have sw6:=bb.size
 replace LC:=LC.up bb
 replace A:=A.up bb
 clear Bw5 bb
 cases b6
 ·go_wp2
  go_ret
  exact ⟨by simp, Bw6⟩
 obtain ⟨cLC0,cLC1⟩:=cc2 LC 0 1
 go_wp2_with (first | (refine wloadM [.slice od t.dsk.length cd, .int .i64 t.su] (A.range 11 2 rfl) 49 _ rfl _ rfl rfl Tryz.underlying49 rfl (by kernel_rfl) ?_))
 refine (DO.out _).mono ?_
 rintro _ w7 ⟨rfl, bb⟩
 clear cLC0 cLC1
 have Bw7:=bu Bw6 bb
 have sw7:=bb.size
 replace LC:=LC.up bb
 replace A:=A.up bb
 clear Bw6 bb
 cases b7
 ·go_wp2
  go_ret
  exact ⟨by simp, Bw7⟩
 obtain ⟨cLC0,cLC1⟩:=cc2 LC 0 1
 go_wp2_with (first | (refine wload A 52 _ rfl _ rfl rfl Tryz.underlying52 rfl (by kernel_rfl) ?_))
 refine (HO2.out _ (HE.out.below Bw7) (HR.out.h.below Bw7)).mono ?_
 rintro _ w8 ⟨rfl, bb⟩
 clear cLC0 cLC1
 have Bw8:=bu Bw7 bb
 have sw8:=bb.size
 replace LC:=LC.up bb
 replace A:=A.up bb
 clear Bw7 bb
 go_wp2
 go_ret
 exact ⟨by simp, Bw8⟩
end
end Go.Proofs.YtmpffkpilbbclaaGreatDoor
