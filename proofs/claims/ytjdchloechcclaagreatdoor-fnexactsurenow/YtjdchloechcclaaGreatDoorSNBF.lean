/- Lemmas, as stated. -/
import Derived.Test.YtjdchloechcclaaGreatDoorSNBE
import Derived.Test.YtjdchloechcclaaGreatDoorSNAP
set_option maxRecDepth 100000
set_option maxHeartbeats 16000000
set_option linter.unusedSectionVars false
set_option linter.unusedSimpArgs false
namespace Go.Proofs.YtjdchloechcclaaGreatDoor
section
open Go.RowKit
variable [∀ (n : Int) (s : List Int), Decidable (OkL n s)]
variable [∀ (a b c d : Int), Decidable (Ok4 a b c d)]
variable [∀ (n f : Int), Decidable (COk n f)]
variable [∀ (a b c d : Nat), Decidable (okN a b c d)]
variable [∀ (last : Int) (s : St), Decidable (GoodSt last s)]
variable [∀ (x : T4), Decidable (OkT x)]
theorem notPart_any (n f m : Int) (s : ByteArray) (u : Value) (xs : List Int) (g : Nat) (w : World) (hs : s.size ≤ 33554432) (hE : Env w) (hu : RI w u xs) (hg : Loc w g #[.int .i64 n,.int .i64 f]) :
 Calls Tryz.prog 141 #[qv m s u,.pointer (some ⟨g, 0, none⟩)] w fun e w' => e = .returned (.bool (!pokB n f m s xs)) ∧ Below w.heap.size w w' := by
 obtain ⟨ua, uc, rfl⟩:=hu.form
 obtain ⟨ul, hul⟩ : ∃ l, xs.length = l:=⟨_, rfl⟩
 obtain ⟨w0, hw0⟩ : ∃ y, w.alloc (.cells #[.int .i64 m,.string s,.slice ua xs.length uc] 69) = y:=⟨_, rfl⟩
 have B0 : Below w.heap.size w w0:=hw0 ▸ qalloc _ _
 have L0 : Loc w0 w.heap.size #[.int .i64 m,.string s,.slice ua xs.length uc]:=hw0 ▸ loc_at w _ _ rfl
 have LG:=hg.up B0
 have PO:=hide (implPartOk n f m s (.slice ua xs.length uc) xs w0 hs (hE.below B0) (hu.below B0))
 rw [hul] at L0 PO hw0 ⊢
 have a0:=L0.cell 0 rfl
 have a1:=L0.cell 1 rfl
 have a2:=L0.cell 2 rfl
 have c0:=LG.cell 0 rfl
 have c1:=LG.cell 1 rfl
 generalize pokB n f m s xs = b at *
 clear L0 LG hg hu hE hul
 go_enter Tryz.func141, Tryz.ntmps141
 go_wp2_with fail
 clear hw0
 refine PO.out.mono ?_
 rintro e w2 ⟨rfl, b2⟩
 have B2:=bu B0 b2
 go_wp2
 go_ret
 exact ⟨rfl, B2⟩

theorem all_take {n f : Int} {ps : List Pt} {k : Nat} (hk : k < ps.length) (h : (ps.take k).all (fun p => pokB n f p.1 p.2.1 p.2.2) = true) (h1 : pokB n f (ps.getD k zpt).1 (ps.getD k zpt).2.1 (ps.getD k zpt).2.2 = true) : (ps.take (k + 1)).all (fun p => pokB n f p.1 p.2.1 p.2.2) = true := by
 have e : ps.take (k + 1) = ps.take k ++ [ps.getD k zpt]:=by
  rw [List.take_succ_eq_append_getElem hk]; simp [List.getElem?_eq_getElem hk]
 rw [e, List.all_append, h, List.all_cons, h1]
 rfl
theorem all_bad {n f : Int} {ps : List Pt} {k : Nat} (hk : k < ps.length) (h1 : pokB n f (ps.getD k zpt).1 (ps.getD k zpt).2.1 (ps.getD k zpt).2.2 = false) : ps.all (fun p => pokB n f p.1 p.2.1 p.2.2) = false := by
 cases e : ps.all (fun p => pokB n f p.1 p.2.1 p.2.2) with
 | false => rfl
 | true => rw [List.all_eq_true] at e; have := e _ (pt_mem hk); rw [h1] at this; cases this

theorem indexNot (n f : Int) (v : Value) (ps : List Pt) (g : Nat) (w : World) (hl : ps.length ≤ 4194304) (hs : ∀ p ∈ ps, p.2.1.size ≤ 33554432) (hE : Env w) (h : RPt w v ps) (hg : Loc w g #[.int .i64 n,.int .i64 f]) :
 Calls Tryz.prog 175 #[v,.func (.func 141) #[] #[.pointer (some ⟨g, 0, none⟩)]] w fun e w' => ∃ q : Int, e = .returned (.int .i64 q) ∧ decide (q ≥ 0) = !(ps.all fun p => pokB n f p.1 p.2.1 p.2.2) ∧ Below w.heap.size w w' := by
 obtain ⟨ao, ca, rfl⟩:=h.form
 obtain ⟨len, hn⟩ : ∃ n, ps.length = n:=⟨_, rfl⟩
 have Hn:=hide hn
 have H:=hide h
 rw [hn] at hl H ⊢
 have HS:=hide hs
 have HG:=hide hg
 have HE:=hide hE
 clear h hn hg hs hE
 go_enter Tryz.func175, Tryz.ntmps175
 go_wp2
 go_loopw [8] (fun j wr => ∃ k : Nat, k ≤ len ∧ j = .int .i64 k ∧ Hid ((ps.take k).all (fun p => pokB n f p.1 p.2.1 p.2.2) = true) ∧ Below w.heap.size w wr) (fun j _ => len - (intOf j).toNat)
 case atStart => exact ⟨0, Nat.zero_le _, rfl, hide (by simp), Below.refl _ _⟩
 case round =>
  obtain ⟨k, hk, rfl, HK, br⟩:=hrel
  by_cases hlt : k < len
  ·have hkx : k < ps.length:=by rw [Hn.out]; exact hlt
   obtain ⟨b, off, u, rfl, c0, c1, c2, ru⟩:=(H.out.below br).at k hkx
   have GC:=hide (notPart_any n f (ps.getD k zpt).1 (ps.getD k zpt).2.1 u (ps.getD k zpt).2.2 g wr (HS.out _ (pt_mem hkx)) (HE.out.below br) ru (HG.out.below br HG.out.lt))
   have HF:=hide fun h1 => all_bad (n:=n) (f:=f) hkx h1
   have HM:=hide fun h1 => all_take (n:=n) (f:=f) hkx HK.out h1
   obtain ⟨ua, uc, rfl⟩:=ru.form
   clear ru HK H
   generalize pokB n f (ps.getD k zpt).1 (ps.getD k zpt).2.1 (ps.getD k zpt).2.2 = pb at *
   generalize (ps.getD k zpt).1 = m at *
   generalize (ps.getD k zpt).2.1 = s at *
   generalize (ps.getD k zpt).2.2.length = xl at *
   cases pb with
   | false =>
    have F:=hide (HF.out rfl)
    clear HF HM
    go_wp2_with fail
    refine GC.out.mono ?_
    rintro _ w2 ⟨rfl, b2⟩
    go_wp2
    go_ret
    exact ⟨k, rfl, by rw [F.out]; simp, bu br b2⟩
   | true =>
    have F:=hide (HM.out rfl)
    clear HF HM
    go_wp2_with fail
    refine GC.out.mono ?_
    rintro _ w2 ⟨rfl, b2⟩
    go_wp2
    go_roundw
    case rel => exact ⟨k + 1, by omega, by go_num, F, bu br b2⟩
    case measure => simp [intOf]; omega
  have hkn : ps.take k = ps:=List.take_of_length_le (by have:=Hn.out; omega)
  have h0:=HK.out
  rw [hkn] at h0
  have F:=hide h0
  have hd2 : decide ((k : Int) < (len : Int)) = false:=by simp; omega
  clear HK h0 hkn H
  go_wp2
  go_ret
  exact ⟨-1, rfl, by rw [F.out]; simp, br⟩

theorem containsNot (n f : Int) (v : Value) (ps : List Pt) (g : Nat) (w : World) (hl : ps.length ≤ 4194304) (hs : ∀ p ∈ ps, p.2.1.size ≤ 33554432) (hE : Env w) (h : RPt w v ps) (hg : Loc w g #[.int .i64 n,.int .i64 f]) :
 Calls Tryz.prog 143 #[v,.func (.func 141) #[] #[.pointer (some ⟨g, 0, none⟩)]] w fun e w' => e = .returned (.bool (!(ps.all fun p => pokB n f p.1 p.2.1 p.2.2))) ∧ Below w.heap.size w w' := by
 have IX:=hide (indexNot n f v ps g w hl hs hE h hg)
 obtain ⟨ao, ca, rfl⟩:=h.form
 generalize ps.length = len at *
 generalize (ps.all fun p => pokB n f p.1 p.2.1 p.2.2) = b at *
 clear h hg hE hs
 go_enter Tryz.func143, Tryz.ntmps143
 go_wp2_with fail
 refine IX.out.mono ?_
 rintro e w2 ⟨q, rfl, hq, b2⟩
 go_wp2
 go_ret
 exact ⟨by rw [← hq]; rfl, b2⟩

theorem tok_alt (n f : Int) (ps : List Pt) : tokB n f ps = (decide ((ps.length : Int) ≤ 20) && ((ps.all fun p => pokB n f p.1 p.2.1 p.2.2) && rowP ps)) := by
 unfold tokB
 have : decide (ps.length ≤ 20) = decide ((ps.length : Int) ≤ 20):=by rw [decide_eq_decide]; omega
 rw [this, Bool.and_comm]

theorem implTableOk (n f : Int) (v : Value) (ps : List Pt) (w : World) (hl : ps.length ≤ 4194304) (hs : ∀ p ∈ ps, p.2.1.size ≤ 33554432) (hE : Env w) (h : RPt w v ps) :
 Calls Tryz.prog 104 #[cv n f, v] w fun e w' => e = .returned (.bool (tokB n f ps)) ∧ Below w.heap.size w w' := by
 rw [tok_alt]
 obtain ⟨ao, ca, rfl⟩:=h.form
 obtain ⟨w0, hw0⟩ : ∃ y, w.alloc (.cells #[.int .i64 n,.int .i64 f] 49) = y:=⟨_, rfl⟩
 have B0 : Below w.heap.size w w0:=hw0 ▸ qalloc _ _
 have L0 : Loc w0 w.heap.size #[.int .i64 n,.int .i64 f]:=hw0 ▸ loc_at w _ _ rfl
 have CN:=hide (containsNot n f (.slice ao ps.length ca) ps w.heap.size w0 hl hs (hE.below B0) (h.below B0) L0)
 have AS:=hide fun w h => ascendsP_any (.slice ao ps.length ca) ps w hl h
 have TO:=hide fun w => tableOf_any ao ps.length ca w
 have HR:=hide fun w' (hb : Below w.heap.size w w') => h.below hb
 generalize ps.length = len at *
 generalize (ps.all fun p => pokB n f p.1 p.2.1 p.2.2) = b at *
 generalize rowP ps = r at *
 clear h hE hs L0
 by_cases h20 : (len : Int) ≤ 20
 ·have hd : decide ((len : Int) ≤ 20) = true:=by simpa using h20
  rw [hd, Bool.true_and]
  cases b with
  | false =>
   rw [Bool.false_and]
   go_enter Tryz.func104, Tryz.ntmps104
   go_wp2_with fail
   clear hw0
   refine CN.out.mono ?_
   rintro e w1 ⟨rfl, b1⟩
   have B1:=bu B0 b1
   go_wp2
   go_ret
   exact ⟨rfl, B1⟩
  | true =>
   rw [Bool.true_and]
   go_enter Tryz.func104, Tryz.ntmps104
   go_wp2_with fail
   clear hw0
   refine CN.out.mono ?_
   rintro e w1 ⟨rfl, b1⟩
   have B1:=bu B0 b1
   clear b1 CN
   go_wp2_with fail
   refine (TO.out _).mono ?_
   rintro e w2 ⟨rfl, b2⟩
   have B2:=bu B1 b2
   clear b2 TO
   go_wp2_with fail
   refine (AS.out _ (HR.out _ B2)).mono ?_
   rintro e w3 ⟨rfl, b3⟩
   have B3:=bu B2 b3
   go_wp2
   go_ret
   exact ⟨rfl, B3⟩
 have hd : decide ((len : Int) ≤ 20) = false:=by simpa using h20
 rw [hd, Bool.false_and]
 go_enter Tryz.func104, Tryz.ntmps104
 go_wp2
 go_ret
 exact ⟨rfl, B0⟩
end
section
open Go Go.RowKit
variable [∀ (a b c d : Int), Decidable (Ok4 a b c d)]
variable [∀ (n f : Int), Decidable (COk n f)]
variable [∀ (a b c d : Nat), Decidable (okN a b c d)]
variable [∀ (x : T4), Decidable (OkT x)]
variable [∀ (last : Int) (s : St), Decidable (GoodSt last s)]
variable [∀ (n : Int) (s : List Int), Decidable (OkL n s)]
variable [∀ (x y : T4), Decidable (Bef x y)]
variable [∀ (ts : List T4), Decidable (Asc ts)]
variable [∀ (ts : List T4), Decidable (AllOk ts)]
variable [∀ (ts : List T4), Decidable (POk ts)]
theorem notPost_any (n f id m : Int) (u : MT) (oa ob oc : Option Addr) (ka kb kc gc gr : Nat) (x1 x2 x3 x4 x5 x6 x7 x8 x9 x10 x11 x12 x13 : Value) (w : World) (hs : MH u) (hi : MI u) (wrapn : IntKind.i64.wrap (n - 1) = n - 1) (hE : Env w) (ra : RI w (.slice oa u.bw.length ka) u.bw) (rb : RI w (.slice ob u.pw.length kb) u.pw) (rc : RI w (.slice oc u.qw.length kc) u.qw) (hg : Loc w gc #[.int .i64 n,.int .i64 f]) (hr : Loc w gr #[.int .i64 id, x1, x2, x3, x4, x5, x6, x7, x8, x9, x10, x11, x12, x13]) :
 Calls Tryz.prog 146 #[pov m u (.slice oa u.bw.length ka) (.slice ob u.pw.length kb) (.slice oc u.qw.length kc),.pointer (some ⟨gc, 0, none⟩),.pointer (some ⟨gr, 0, none⟩)] w fun e w' => e = .returned (.bool (!pstB n f id (m, u))) ∧ Below w.heap.size w w' := by
 have I4:=hide fun w => within_bool m 0 (n - 1) w
 have MO:=hide fun w he h1 h2 h3 => implMsgOk n f u oa ob oc ka kb kc w hs hi he h1 h2 h3
 have HE:=hide hE
 have H1:=hide ra
 have H2:=hide rb
 have H3:=hide rc
 have wn:=wrapn
 have hq3 : (m == id) = decide (m = id):=by by_cases h : m = id <;> simp [h]
 unfold pstB
 generalize mokB n f u = p1 at *
 generalize decide (0 ≤ m ∧ m ≤ n - 1) = p2 at *
 generalize hp3 : decide (m = id) = p3 at *
 clear hE ra rb rc hs hi wrapn hp3
 have gl:=hg.lt
 have rl:=hr.lt
 obtain ⟨w0, hw0, Bw0, P, zw0⟩:=bx1 w #[.int .i64 m,.int .i64 u.k,.int .i64 u.vw,.string u.bn,.int .i64 u.bv,.string u.bs,.slice oa u.bw.length ka,.int .i64 u.pv,.string u.ps,.slice ob u.pw.length kb,.int .i64 u.qv,.string u.qs,.slice oc u.qw.length kc,.int .i64 u.wh,.int .i64 u.fr,.int .i64 u.tu,.int .i64 u.am,.int .i64 u.no] 96
 go_enter Tryz.func146, Tryz.ntmps146
 have GC:=hg.below Bw0 gl
 have GR:=hr.below Bw0 rl
 clear hg hr gl rl
 have cP0:=P.cell 0 rfl
 have cGC0:=GC.cell 0 rfl
 go_wp2_with fail
 clear hw0
 refine (I4.out _).mono ?_
 rintro _ w1 ⟨rfl, bb⟩
 clear cP0 cGC0
 have Bw1:=bu Bw0 bb
 have sw1:=bb.size
 replace P:=P.up bb
 replace GC:=GC.up bb
 replace GR:=GR.up bb
 clear Bw0 bb
 cases p2
 ·go_wp2
  go_ret
  exact ⟨by simp, Bw1⟩
 cases p3
 ·have cP0:=P.cell 0 rfl
  have cGR0:=GR.cell 0 rfl
  obtain ⟨cGC0,cGC1⟩:=cc2 GC 0 1
  go_wp2_with (first | (refine wloadM [.int .i64 u.k, .int .i64 u.vw, .string u.bn, .int .i64 u.bv, .string u.bs, .slice oa u.bw.length ka, .int .i64 u.pv, .string u.ps, .slice ob u.pw.length kb, .int .i64 u.qv, .string u.qs, .slice oc u.qw.length kc, .int .i64 u.wh, .int .i64 u.fr, .int .i64 u.tu, .int .i64 u.am, .int .i64 u.no] (P.range 1 17 rfl) 72 _ rfl _ rfl rfl Tryz.underlying72 rfl (by kernel_rfl) ?_))
  refine (MO.out _ (HE.out.below Bw1) (H1.out.below Bw1) (H2.out.below Bw1) (H3.out.below Bw1)).mono ?_
  rintro _ w2 ⟨rfl, bb⟩
  clear cP0 cGR0 cGC0 cGC1
  have Bw2:=bu Bw1 bb
  have sw2:=bb.size
  replace P:=P.up bb
  replace GC:=GC.up bb
  replace GR:=GR.up bb
  clear Bw1 bb
  go_wp2
  go_ret
  exact ⟨by simp, Bw2⟩
 have cP0:=P.cell 0 rfl
 have cGR0:=GR.cell 0 rfl
 go_wp2
 go_ret
 exact ⟨by simp, Bw1⟩
theorem indexPost (n f id : Int) (ao : Option Addr) (ca : Nat) (ps : List PoT) (gc gr : Nat) (x1 x2 x3 x4 x5 x6 x7 x8 x9 x10 x11 x12 x13 : Value) (w : World) (hl : ps.length ≤ 1048577) (hs : ∀ j, j < ps.length → MH (ps.getD j zpost).2 ∧ MI (ps.getD j zpost).2) (wrapn : IntKind.i64.wrap (n - 1) = n - 1) (hE : Env w) (h : RPo w (.slice ao ps.length ca) ps) (hg : Loc w gc #[.int .i64 n,.int .i64 f]) (hr : Loc w gr #[.int .i64 id, x1, x2, x3, x4, x5, x6, x7, x8, x9, x10, x11, x12, x13]) :
 Calls Tryz.prog 180 #[.slice ao ps.length ca, (.func (.func 146) #[] #[.pointer (some ⟨gc, 0, none⟩),.pointer (some ⟨gr, 0, none⟩)])] w fun e w' => ∃ q : Int, e = .returned (.int .i64 q) ∧ decide (q ≥ 0) = !(hokB n f id ps) ∧ Below w.heap.size w w' := by
 obtain ⟨len, hn⟩ : ∃ n, ps.length = n:=⟨_, rfl⟩
 have Hn:=hide hn
 have H:=hide h
 rw [hn] at hl H ⊢
 have HS:=hide hs
 have HG:=hide hg
 have HR:=hide hr
 have HE:=hide hE
 have WN:=hide wrapn
 clear h hn hg hr hs hE wrapn
 go_enter Tryz.func180, Tryz.ntmps180
 go_wp2
 go_loopw [8] (fun j wr => ∃ k : Nat, k ≤ len ∧ j = .int .i64 k ∧ Hid (hokB n f id (ps.take k) = true) ∧ Below w.heap.size w wr) (fun j _ => len - (intOf j).toNat)
 case atStart => exact ⟨0, Nat.zero_le _, rfl, hide (by simp [hokB]), Below.refl _ _⟩
 case round =>
  obtain ⟨k, hk, rfl, HK, br⟩:=hrel
  by_cases hlt : k < len
  ·have hkx : k < ps.length:=by rw [Hn.out]; exact hlt
   have RP:=H.out.below br
   obtain ⟨g, off, cs, rfl, _, c1, a, b, c, e, ra, rb, rc⟩:=RG.at RP k hkx
   subst e
   obtain ⟨oa, ka, rfl⟩:=ra.form
   obtain ⟨ob, kb, rfl⟩:=rb.form
   obtain ⟨oc, kc, rfl⟩:=rc.form
   have GC:=hide (notPost_any n f id (ps.getD k zpost).1 (ps.getD k zpost).2 oa ob oc ka kb kc gc gr x1 x2 x3 x4 x5 x6 x7 x8 x9 x10 x11 x12 x13 wr (HS.out _ hkx).1 (HS.out _ hkx).2 WN.out (HE.out.below br) ra rb rc (HG.out.below br HG.out.lt) (HR.out.below br HR.out.lt))
   have HF:=hide fun h1 => hok_no (n:=n) (f:=f) (id:=id) hkx h1
   have HM:=hide fun h1 => hok_next (n:=n) (f:=f) (id:=id) hkx HK.out h1
   have ep : ((ps.getD k zpost).1, (ps.getD k zpost).2) = ps.getD k zpost:=rfl
   rw [ep] at GC
   clear ra rb rc HK H RP ep
   generalize pstB n f id (ps.getD k zpost) = pb at *
   generalize (ps.getD k zpost).1 = m at *
   generalize (ps.getD k zpost).2 = u at *
   cases pb with
   | false =>
    have F:=hide (HF.out rfl)
    clear HF HM
    go_wp2_with (first | (refine wloadM _ c1 96 _ rfl _ rfl rfl Tryz.underlying96 rfl (by kernel_rfl) ?_))
    refine GC.out.mono ?_
    rintro _ w2 ⟨rfl, b2⟩
    go_wp2
    go_ret
    exact ⟨k, rfl, by rw [F.out]; simp, bu br b2⟩
   | true =>
    have F:=hide (HM.out rfl)
    clear HF HM
    go_wp2_with (first | (refine wloadM _ c1 96 _ rfl _ rfl rfl Tryz.underlying96 rfl (by kernel_rfl) ?_))
    refine GC.out.mono ?_
    rintro _ w2 ⟨rfl, b2⟩
    go_wp2
    go_roundw
    case rel => exact ⟨k + 1, by omega, by go_num, F, bu br b2⟩
    case measure => simp [intOf]; omega
  have hkn : ps.take k = ps:=List.take_of_length_le (by have:=Hn.out; omega)
  have h0:=HK.out
  rw [hkn] at h0
  have F:=hide h0
  have hd2 : decide ((k : Int) < (len : Int)) = false:=by simp; omega
  clear HK h0 hkn H
  go_wp2
  go_ret
  exact ⟨-1, rfl, by rw [F.out]; simp, br⟩
theorem containsPost (n f id : Int) (ao : Option Addr) (ca : Nat) (ps : List PoT) (gc gr : Nat) (x1 x2 x3 x4 x5 x6 x7 x8 x9 x10 x11 x12 x13 : Value) (w : World) (hl : ps.length ≤ 1048577) (hs : ∀ j, j < ps.length → MH (ps.getD j zpost).2 ∧ MI (ps.getD j zpost).2) (wrapn : IntKind.i64.wrap (n - 1) = n - 1) (hE : Env w) (h : RPo w (.slice ao ps.length ca) ps) (hg : Loc w gc #[.int .i64 n,.int .i64 f]) (hr : Loc w gr #[.int .i64 id, x1, x2, x3, x4, x5, x6, x7, x8, x9, x10, x11, x12, x13]) :
 Calls Tryz.prog 148 #[.slice ao ps.length ca, (.func (.func 146) #[] #[.pointer (some ⟨gc, 0, none⟩),.pointer (some ⟨gr, 0, none⟩)])] w fun e w' => e = .returned (.bool (!(hokB n f id ps))) ∧ Below w.heap.size w w' := by
 have IX:=hide (indexPost n f id ao ca ps gc gr x1 x2 x3 x4 x5 x6 x7 x8 x9 x10 x11 x12 x13 w hl hs wrapn hE h hg hr)
 generalize ps.length = len at *
 generalize hokB n f id ps = b at *
 clear h hg hE hs hr wrapn
 go_enter Tryz.func148, Tryz.ntmps148
 go_wp2_with fail
 refine IX.out.mono ?_
 rintro e w2 ⟨q, rfl, hq, b2⟩
 go_wp2
 go_ret
 exact ⟨by rw [← hq]; rfl, b2⟩
theorem holdsRight_any (n f : Int) (t : RpT) (ao bo co od oe : Option Addr) (ca cb cc cd ce : Nat) (w : World) (hl : t.held.length ≤ 1048577) (hh : ∀ j, j < t.held.length → MH (t.held.getD j zpost).2 ∧ MI (t.held.getD j zpost).2) (wrapn : IntKind.i64.wrap (n - 1) = n - 1) (hE : Env w) (h : RPo w (.slice oe t.held.length ce) t.held) :
 Calls Tryz.prog 106 #[rpv t (.slice ao t.qw.length ca) (.slice bo t.pool.length cb) (.slice co t.tab.length cc) (.slice od t.dsk.length cd) (.slice oe t.held.length ce), cv n f] w fun e w' => e = .returned (.bool (decide (t.held.length ≤ 30) && hokB n f t.id t.held)) ∧ Below w.heap.size w w' := by
 have CP:=hide fun gc gr x1 x2 x3 x4 x5 x6 x7 x8 x9 x10 x11 x12 x13 w he h hg hr => containsPost n f t.id oe ce t.held gc gr x1 x2 x3 x4 x5 x6 x7 x8 x9 x10 x11 x12 x13 w hl hh wrapn he h hg hr
 have HE:=hide hE
 have HR:=hide h
 clear hE h hh wrapn
 have hb5 : decide ((t.held.length : Int) ≤ 30) = decide (t.held.length ≤ 30):=by rw [decide_eq_decide]; omega
 generalize hokB n f t.id t.held = b1 at *
 generalize decide (t.held.length ≤ 30) = b0 at *
 generalize t.held.length = hn at *
 obtain ⟨w0, hw0, Bw0, A, LC, zw0⟩:=bx2 w #[.int .i64 t.id,.int .i64 t.vw,.int .i64 t.ak,.int .i64 t.vo,.int .i64 t.lo,.int .i64 t.n,.string t.s,.slice ao t.qw.length ca,.string t.d,.slice bo t.pool.length cb,.slice co t.tab.length cc,.slice od t.dsk.length cd,.int .i64 t.su,.slice oe hn ce] 46 #[.int .i64 n,.int .i64 f] 49
 go_enter Tryz.func106, Tryz.ntmps106
 have cA13:=A.cell 13 rfl
 cases b0
 ·go_wp2
  go_ret
  exact ⟨by simp, Bw0⟩
 go_wp2_with fail
 clear hw0
 refine (CP.out _ _ _ _ _ _ _ _ _ _ _ _ _ _ _ _ (HE.out.below Bw0) (HR.out.below Bw0) LC A).mono ?_
 rintro _ w1 ⟨rfl, bb⟩
 clear cA13
 have Bw1:=bu Bw0 bb
 have sw1:=bb.size
 replace A:=A.up bb
 replace LC:=LC.up bb
 clear Bw0 bb
 go_wp2
 go_ret
 exact ⟨by simp, Bw1⟩
theorem rep_alt (n f : Int) (t : RpT) : repB n f t = (decide (0 ≤ t.id ∧ t.id ≤ IntKind.i64.wrap (n - 1)) && (decide (1 ≤ t.vw ∧ t.vw ≤ 60) && (decide (0 ≤ t.ak ∧ t.ak ≤ 60) && (sokB n f t.vo t.lo t.n t.s t.qw t.d && (decide (POk t.pool) && (tokB n f t.tab && (dokB t.dsk.length t.su && (decide (t.held.length ≤ 30) && hokB n f t.id t.held)))))))) := by
 unfold repB
 by_cases h : COk n f
 ·have : IntKind.i64.wrap (n - 1) = n - 1:=by unfold COk at h; rw [IntKind.wrap_i64] <;> omega
  rw [this, decide_eq_true h, Bool.true_and]
 have : sokB n f t.vo t.lo t.n t.s t.qw t.d = false:=by
  cases e : sokB n f t.vo t.lo t.n t.s t.qw t.d with
  | false => rfl
  | true =>
   have:=(sok_done e).2.2.1
   unfold qokB at this
   rw [decide_eq_false h] at this
   simp at this
 rw [decide_eq_false h, this]
 simp
structure RI_ (t : RpT) : Prop where
 s : t.s.size ≤ 33554432
 d : t.d.size ≤ 33554432
 tb : ∀ p ∈ t.tab, p.2.1.size ≤ 33554432
 h : ∀ j, j < t.held.length → MH (t.held.getD j zpost).2 ∧ MI (t.held.getD j zpost).2
theorem implRepOk (n f : Int) (t : RpT) (ao bo co od oe : Option Addr) (ca cb cc cd ce : Nat) (w : World) (hm : RSm t) (hs : RI_ t) (hE : Env w) (h : RRep w t (.slice ao t.qw.length ca) (.slice bo t.pool.length cb) (.slice co t.tab.length cc) (.slice od t.dsk.length cd) (.slice oe t.held.length ce)) :
 Calls Tryz.prog 42 #[cv n f, rpv t (.slice ao t.qw.length ca) (.slice bo t.pool.length cb) (.slice co t.tab.length cc) (.slice od t.dsk.length cd) (.slice oe t.held.length ce)] w fun e w' => e = .returned (.bool (repB n f t)) ∧ Below w.heap.size w w' := by
 rw [rep_alt]
 obtain ⟨nm, wn⟩ : ∃ m, IntKind.i64.wrap (n - 1) = m:=⟨_, rfl⟩
 rw [wn]
 have i1:=hide fun w => within_bool t.id 0 nm w
 have i2:=hide fun w => within_bool t.vw 1 60 w
 have i3:=hide fun w => within_bool t.ak 0 60 w
 have SO:=hide fun w he h => implSafeOk n f t.vo t.lo t.n t.s ao ca t.qw t.d w hs.s hs.d he h
 have PO:=hide fun w h => implPoolOk (.slice bo t.pool.length cb) t.pool w h
 have TO:=hide fun w he h => implTableOk n f (.slice co t.tab.length cc) t.tab w (by have:=hm.tb; omega) hs.tb he h
 have DO:=hide fun w => implDiskOk od t.dsk.length cd t.su w
 have HO : Hid (sokB n f t.vo t.lo t.n t.s t.qw t.d = true → ∀ w, Env w → RPo w (.slice oe t.held.length ce) t.held → Calls Tryz.prog 106 #[rpv t (.slice ao t.qw.length ca) (.slice bo t.pool.length cb) (.slice co t.tab.length cc) (.slice od t.dsk.length cd) (.slice oe t.held.length ce), cv n f] w fun e w' => e = .returned (.bool (decide (t.held.length ≤ 30) && hokB n f t.id t.held)) ∧ Below w.heap.size w w'):=hide fun hb w he h => holdsRight_any n f t ao bo co od oe ca cb cc cd ce w hm.h hs.h (by
  have h1:=(sok_done hb).2.2.1
  have h2 : COk n f:=by
   unfold qokB at h1
   simp only [Bool.and_eq_true, decide_eq_true_eq] at h1
   exact h1.1.1.1
  unfold COk at h2
  rw [IntKind.wrap_i64] <;> omega) he h
 have HR:=hide h
 have HE:=hide hE
 clear h hs hm hE
 generalize decide (0 ≤ t.id ∧ t.id ≤ nm) = b1 at *
 generalize decide (1 ≤ t.vw ∧ t.vw ≤ 60) = b2 at *
 generalize decide (0 ≤ t.ak ∧ t.ak ≤ 60) = b3 at *
 generalize sokB n f t.vo t.lo t.n t.s t.qw t.d = b4 at *
 generalize decide (POk t.pool) = b5 at *
 generalize tokB n f t.tab = b6 at *
 generalize dokB t.dsk.length t.su = b7 at *
 generalize (decide (t.held.length ≤ 30) && hokB n f t.id t.held) = b8 at *
 obtain ⟨w0, hw0, Bw0, LC, A, zw0⟩:=bx2 w #[.int .i64 n,.int .i64 f] 49 #[.int .i64 t.id,.int .i64 t.vw,.int .i64 t.ak,.int .i64 t.vo,.int .i64 t.lo,.int .i64 t.n,.string t.s,.slice ao t.qw.length ca,.string t.d,.slice bo t.pool.length cb,.slice co t.tab.length cc,.slice od t.dsk.length cd,.int .i64 t.su,.slice oe t.held.length ce] 46
 go_enter Tryz.func42, Tryz.ntmps42
 obtain ⟨cLC0,cLC1⟩:=cc2 LC 0 1
 have cA0:=A.cell 0 rfl
 go_wp2_with fail
 clear hw0
 refine (i1.out _).mono ?_
 rintro _ w1 ⟨rfl, bb⟩
 clear cLC0 cLC1 cA0
 have Bw1:=bu Bw0 bb
 have sw1:=bb.size
 replace LC:=LC.up bb
 replace A:=A.up bb
 clear Bw0 bb
 cases b1
 ·go_wp2
  go_ret
  exact ⟨by simp, Bw1⟩
 have cLC0:=LC.cell 0 rfl
 obtain ⟨cA0,cA1⟩:=cc2 A 0 1
 go_wp2_with fail
 refine (i2.out _).mono ?_
 rintro _ w2 ⟨rfl, bb⟩
 clear cLC0 cA0 cA1
 have Bw2:=bu Bw1 bb
 have sw2:=bb.size
 replace LC:=LC.up bb
 replace A:=A.up bb
 clear Bw1 bb
 cases b2
 ·go_wp2
  go_ret
  exact ⟨by simp, Bw2⟩
 have cLC0:=LC.cell 0 rfl
 obtain ⟨cA0,cA1,cA2⟩:=cc3 A 0 1 2
 go_wp2_with fail
 refine (i3.out _).mono ?_
 rintro _ w3 ⟨rfl, bb⟩
 clear cLC0 cA0 cA1 cA2
 have Bw3:=bu Bw2 bb
 have sw3:=bb.size
 replace LC:=LC.up bb
 replace A:=A.up bb
 clear Bw2 bb
 cases b3
 ·go_wp2
  go_ret
  exact ⟨by simp, Bw3⟩
 obtain ⟨cLC0,cLC1⟩:=cc2 LC 0 1
 go_wp2_with (first | (refine wloadM [.int .i64 t.vo, .int .i64 t.lo, .int .i64 t.n, .string t.s, .slice ao t.qw.length ca, .string t.d] (A.range 3 6 rfl) 40 _ rfl _ rfl rfl Tryz.underlying40 rfl (by kernel_rfl) ?_))
 refine (SO.out _ (HE.out.below Bw3) (HR.out.q.below Bw3)).mono ?_
 rintro _ w4 ⟨rfl, bb⟩
 clear cLC0 cLC1
 have Bw4:=bu Bw3 bb
 have sw4:=bb.size
 replace LC:=LC.up bb
 replace A:=A.up bb
 clear Bw3 bb
 cases b4
 ·go_wp2
  go_ret
  exact ⟨by simp, Bw4⟩
 have HO2:=HO.out rfl
 replace HO2:=hide HO2
 clear HO
 obtain ⟨cLC0,cLC1⟩:=cc2 LC 0 1
 have cA9:=A.cell 9 rfl
 go_wp2_with fail
 refine (PO.out _ (HR.out.p.below Bw4)).mono ?_
 rintro _ w5 ⟨rfl, bb⟩
 clear cLC0 cLC1 cA9
 have Bw5:=bu Bw4 bb
 have sw5:=bb.size
 replace LC:=LC.up bb
 replace A:=A.up bb
 clear Bw4 bb
 cases b5
 ·go_wp2
  go_ret
  exact ⟨by simp, Bw5⟩
 obtain ⟨cLC0,cLC1⟩:=cc2 LC 0 1
 have cA10:=A.cell 10 rfl
 go_wp2_with fail
 refine (TO.out _ (HE.out.below Bw5) (HR.out.tb.below Bw5)).mono ?_
 rintro _ w6 ⟨rfl, bb⟩
 clear cLC0 cLC1 cA10
 have Bw6:=bu Bw5 bb
 have sw6:=bb.size
 replace LC:=LC.up bb
 replace A:=A.up bb
 clear Bw5 bb
 cases b6
 ·go_wp2
  go_ret
  exact ⟨by simp, Bw6⟩
 obtain ⟨cLC0,cLC1⟩:=cc2 LC 0 1
 go_wp2_with (first | (refine wloadM [.slice od t.dsk.length cd, .int .i64 t.su] (A.range 11 2 rfl) 43 _ rfl _ rfl rfl Tryz.underlying43 rfl (by kernel_rfl) ?_))
 refine (DO.out _).mono ?_
 rintro _ w7 ⟨rfl, bb⟩
 clear cLC0 cLC1
 have Bw7:=bu Bw6 bb
 have sw7:=bb.size
 replace LC:=LC.up bb
 replace A:=A.up bb
 clear Bw6 bb
 cases b7
 ·go_wp2
  go_ret
  exact ⟨by simp, Bw7⟩
 obtain ⟨cLC0,cLC1⟩:=cc2 LC 0 1
 go_wp2_with (first | (refine wload A 46 _ rfl _ rfl rfl Tryz.underlying46 rfl (by kernel_rfl) ?_))
 refine (HO2.out _ (HE.out.below Bw7) (HR.out.h.below Bw7)).mono ?_
 rintro _ w8 ⟨rfl, bb⟩
 clear cLC0 cLC1
 have Bw8:=bu Bw7 bb
 have sw8:=bb.size
 replace LC:=LC.up bb
 replace A:=A.up bb
 clear Bw7 bb
 go_wp2
 go_ret
 exact ⟨by simp, Bw8⟩
end
section
open Go.RowKit
theorem qtold_in (g : Nat) (x0 x1 : Value) (n : Int) (s : ByteArray) (ao : Option Addr) (ca : Nat) (xs : List Int) (w : World) (x5 : Value) (hg : Loc w g #[x0, x1,.int .i64 n,.string s,.slice ao xs.length ca, x5]) (ha : RI w (.slice ao xs.length ca) xs) (hs : s.size ≤ 281474976710656) :
 Calls Tryz.prog 149 #[.pointer (some ⟨g, 2, none⟩)] w fun e w' => ∃ u, e = .returned (qv n s u) ∧ OI w' w.heap.size u xs ∧ Below w.heap.size w w' := by
 have CL:=hide fun w => clone_any s w hs
 have hgl:=hg.lt
 obtain ⟨w0, hw0⟩ : ∃ w0, w.alloc zq = w0:=⟨_, rfl⟩
 have B0 : Below w.heap.size w w0:=hw0 ▸ qalloc _ _
 have Z0 : Loc w0 w.heap.size #[.int .i64 0,.string ⟨#[]⟩,.slice none 0 0]:=hw0 ▸ loc_at w _ _ rfl
 have s0 : w0.heap.size = w.heap.size + 1:=by rw [← hw0]; simp
 have G0:=hg.below B0 hgl
 have K : Hid (∀ w', Below w0.heap.size w0 w' → Below w0.heap.size w0 w' ∧ w'.cell? ⟨g, 2, none⟩ = some (.int .i64 n) ∧ w'.cell? ⟨g, 3, none⟩ = some (.string s)):=hide fun w' hb =>
  ⟨hb, (G0.up hb).cell 2 rfl, (G0.up hb).cell 3 rfl⟩
 have RA:=hide ha
 have HZ:=hide Z0
 have HG:=hide G0
 clear ha hg Z0 G0
 go_enter Tryz.func149, Tryz.ntmps149
 go_upto_region 1 with fail
 clear hw0
 go_cut [3] (fun c wx => ∃ h, c = .pointer (some ⟨h, 0, none⟩) ∧ w0.heap.size ≤ h ∧ Loc wx h #[.int .i64 n,.string s,.slice none 0 0] ∧ Below w0.heap.size w0 wx)
 case first =>
  clear HZ HG RA
  refine wrn K (Below.drew (Below.refl _ _)) (fun hHeld => ?_)
  obtain ⟨wd, hd⟩ : ∃ wd, w0.drew = wd:=⟨_, rfl⟩
  have bd : Below w0.heap.size w0 wd:=hd ▸ Below.drew (Below.refl _ _)
  have szd:=bd.size
  rw [hd] at hHeld ⊢
  clear hd
  refine tx 0 4 ?_
  refine tx 1 5 ?_
  refine tx 2 6 ?_
  refine tx 3 7 ?_
  refine tx 4 8 ?_
  refine tx 5 9 ?_
  refine tx 6 10 ?_
  refine tx 7 11 ?_
  refine wpAnyH_ready (rs := [8, 10]) (by kernel_rfl) (by simp) (AllReadyH.cons rfl (fun KK hKK => ?_) (AllReadyH.cons rfl (fun KK hKK => ?_) AllReadyH.nil))
  ·go_simp
   refine (CL.out _).mono ?_
   rintro e wc1 ⟨rfl, bnew⟩
   have bc1 : Below w0.heap.size w0 wc1:=bu bd bnew
   have zzwc1:=bnew.size
   clear hHeld bnew
   refine hKK.out _ _ (K.out _ bc1) (fun hHeld => ?_)
   clear hKK KK
   refine tx 9 13 ?_
   refine rd 10 rfl (fun KK hKK => ?_)
   go_simp
   obtain ⟨wl2, hwl2⟩ : ∃ x, wc1.alloc (.cells #[.int .i64 0,.string ⟨#[]⟩,.slice none 0 0] 38) = x:=⟨_, rfl⟩
   have bl2 : Below w0.heap.size w0 wl2:=hwl2 ▸ bc1.alloc bc1.size _
   have lg : Loc wl2 wc1.heap.size #[.int .i64 0,.string ⟨#[]⟩,.slice none 0 0]:=hwl2 ▸ loc_at wc1 _ _ rfl
   rw [hwl2]
   clear hHeld hwl2
   refine hKK.out _ _ (K.out _ bl2) (fun hHeld => ?_)
   clear hKK KK
   have q0:=lg.cell 0 rfl
   have q1:=lg.cell 1 rfl
   have q2:=lg.cell 2 rfl
   have FG:=lg.frozen
   refine rd 11 rfl (fun KK hKK => ?_)
   go_simp
   have bs : Below w0.heap.size w0 (((wl2.setCell ⟨wc1.heap.size, 0, none⟩ (.int .i64 n)).setCell ⟨wc1.heap.size, 1, none⟩ (.string s)).setCell ⟨wc1.heap.size, 2, none⟩ (.slice none 0 0)):=Below.set (Below.set (Below.set bl2 _ _ (by omega)) _ _ (by omega)) _ _ (by omega)
   clear hHeld
   refine hKK.out _ _ (K.out _ bs) (fun hHeld => ?_)
   clear hKK KK hHeld
   refine wdn ?_
   go_wp2_with fail
   go_meet
   exact ⟨_, rfl, by omega, ((lg.set 0 _ rfl).set 1 _ rfl).set 2 _ rfl, bs⟩
  go_simp
  obtain ⟨wl3, hwl3⟩ : ∃ x, wd.alloc (.cells #[.int .i64 0,.string ⟨#[]⟩,.slice none 0 0] 38) = x:=⟨_, rfl⟩
  have bl3 : Below w0.heap.size w0 wl3:=hwl3 ▸ bd.alloc bd.size _
  have lg : Loc wl3 wd.heap.size #[.int .i64 0,.string ⟨#[]⟩,.slice none 0 0]:=hwl3 ▸ loc_at wd _ _ rfl
  rw [hwl3]
  clear hHeld hwl3
  refine hKK.out _ _ (K.out _ bl3) (fun hHeld => ?_)
  clear hKK KK
  refine rd 8 rfl (fun KK hKK => ?_)
  go_simp
  refine (CL.out _).mono ?_
  rintro e wc4 ⟨rfl, bnew⟩
  have bc4 : Below w0.heap.size w0 wc4:=bu bl3 bnew
  have zzwc4:=bnew.size
  have lg:=lg.up bnew
  clear hHeld bnew
  refine hKK.out _ _ (K.out _ bc4) (fun hHeld => ?_)
  clear hKK KK
  refine tx 9 13 ?_
  have q0:=lg.cell 0 rfl
  have q1:=lg.cell 1 rfl
  have q2:=lg.cell 2 rfl
  have FG:=lg.frozen
  refine rd 11 rfl (fun KK hKK => ?_)
  go_simp
  have bs : Below w0.heap.size w0 (((wc4.setCell ⟨wd.heap.size, 0, none⟩ (.int .i64 n)).setCell ⟨wd.heap.size, 1, none⟩ (.string s)).setCell ⟨wd.heap.size, 2, none⟩ (.slice none 0 0)):=Below.set (Below.set (Below.set bc4 _ _ (by omega)) _ _ (by omega)) _ _ (by omega)
  clear hHeld
  refine hKK.out _ _ (K.out _ bs) (fun hHeld => ?_)
  clear hKK KK hHeld
  refine wdn ?_
  go_wp2_with fail
  go_meet
  exact ⟨_, rfl, by omega, ((lg.set 0 _ rfl).set 1 _ rfl).set 2 _ rfl, bs⟩
 case rest =>
 obtain ⟨h, rfl, hh, LH, bw⟩:=hcut
 have G1:=HG.out.below bw HG.out.lt
 have Z1:=HZ.out.below bw HZ.out.lt
 have R1:=RA.out
 have B1 : Below w.heap.size w wc:=bu B0 bw
 have s1:=bw.size
 have l1:=LH.lt
 have x2:=G1.cell 4 rfl
 have y0:=Z1.cell 0 rfl
 have y1:=Z1.cell 1 rfl
 have y2:=Z1.cell 2 rfl
 have fy:=Z1.frozen
 have h0:=LH.cell 0 rfl
 have h1:=LH.cell 1 rfl
 have h2:=LH.cell 2 rfl
 have fh:=LH.frozen
 have hl:=R1.1
 clear HG HZ RA K CL bw B0
 by_cases hx : xs = []
 ·subst hx
  go_wp2
  refine bodyPost_ret (v := qv n s (.slice none 0 0)) (by simp [results, Tryz.results149, go_sem, y0, y1, y2]) rfl ?_
  exact ⟨_, rfl, World.ownsRow_nil _ _ _ _, Below.set (Below.set (Below.set B1 _ _ (Nat.le_refl _)) _ _ (Nat.le_refl _)) _ _ (Nat.le_refl _)⟩
 have hp : 0 < xs.length:=List.length_pos_iff.2 hx
 obtain ⟨cs, hcs⟩ : ∃ cs, xs.map (Value.int .i64) = cs:=⟨_, rfl⟩
 have hcl : cs.length = xs.length:=by rw [← hcs]; simp
 have hone : ∀ v ∈ cs, v.oneCell' = true:=by rw [← hcs]; exact ints_plain64 xs
 obtain ⟨ad, rfl, hcells⟩ : ∃ ad, ao = some ad ∧ ∀ j u, cs[j]? = some u → w.cell? (ad.add j) = some u:=by
  obtain ⟨_, ao', ca', e, hr⟩:=R1
  cases e
  rcases hr with rfl | ⟨b, off, rfl, hr⟩
  ·exact absurd rfl hx
  exact ⟨_, rfl, hcs ▸ inews_cells hr⟩
 have hrows : ∀ w', Below w.heap.size w w' → ∀ j u, cs[j]? = some u → w'.cell? (ad.add j) = some u:=fun w' hb j u hj => (hb.cell (cell_lt (hcells j u hj))).trans (hcells j u hj)
 have HR:=hide hrows
 have HC:=hide hcs
 obtain ⟨i0, hi, hz0, hz1, hz2⟩:=info_parts Tryz.info3
 obtain ⟨m, hm⟩ : ∃ m, xs.length = m:=⟨_, rfl⟩
 rw [hm] at hl hcl hp x2 G1
 have Hm:=hide hm
 clear R1 hcells hrows hcs hm hx
 have hgt : decide ((0 : Int) < (m : Int)) = true:=by simpa using hp
 go_upto_region 4 with (first | (at_make; refine wpList_make_full _ rfl _ _ 24 rfl wc.heap.size 3 i0 (.int .i64 0) 1 Tryz.underlying24 hi hz0 hz1 .i64 .i64 m m m rfl rfl rfl rfl (by rw [hz2]; omega) (by unfold maxLen; omega) (Nat.le_refl _) ?_; intro w2 ho2 hg2
                                 have b2 : Below wc.heap.size wc w2:=(Below.refl _ _).grown hg2 (Nat.le_refl _) (by simp)
                                 have L2:=LH.up b2
                                 have k2:=L2.cell 2 rfl
                                 have f2:=L2.frozen))
 obtain ⟨hlen, hrow⟩:=ho2
 rcases hrow with ⟨e, _⟩ | ⟨row, cap, cur, e, hrb, hrh, _, hcm, hcz, hct⟩
 ·cases e
 cases e
 have hlt2 : wc.heap.size < w2.heap.size:=(Array.getElem?_eq_some_iff.1 hrh).1
 obtain ⟨w3, hw3⟩ : ∃ w3, w2.setCell ⟨h, 2, none⟩ (.slice (some ⟨wc.heap.size, 0, none⟩) m m) = w3:=⟨_, rfl⟩
 have B3 : Below w.heap.size w w3:=hw3 ▸ Below.set (bu B1 b2) (g:=h) 2 _ (by omega)
 have K3 : Kp w2 w3 (fun k => k = h):=hw3 ▸ set_kp w2 h 2 _
 have L3 : Loc w3 h #[.int .i64 n,.string s,.slice (some ⟨wc.heap.size, 0, none⟩) m m]:=hw3 ▸ L2.set 2 _ rfl
 have Z3:=(Z1.up b2).kp K3 (by omega)
 have G3:=(G1.up b2).kp K3 (by omega)
 have H3 : w3.heap[wc.heap.size]? = some (.cells cur.toList.toArray 3 (0, 0)):=by rw [K3.block _ hlt2 (by omega)]; simpa using hrh
 have c3:=HR.out w3 B3
 have z3:=K3.size
 have p2:=L3.cell 2 rfl
 have q2:=G3.cell 4 rfl
 have hcz' : cur.toList.length = m:=by simpa using hcz
 rw [hw3]
 clear hw3 k2 f2 h0 h1 h2 fh y0 y1 y2 fy x2
 have H3h:=hide H3
 have C3:=hide c3
 go_region_law (refine step_copy_splice rfl (.tmp 28) (.tmp 32) 24 24 rfl 3 Tryz.underlying24 (by rw [hi]; simp [hz1]) (some ⟨wc.heap.size, 0, none⟩) (some ad) m m m ca (by simp [Act.eval]) (by simp [Act.eval]) wc.heap.size 0 cur.toList 3 H3h.out cs (by rw [hcl]; simp) (fun _ => ⟨rfl, _, rfl, C3.out⟩) (by omega) hone wc.heap.size w3 ⟨rfl, rfl, rfl, Nat.le_refl _, fun _ _ => rfl⟩ (Nat.le_refl _) ?_; intro w4 hg4 hb4)
 all_goals
  have L4:=L3.below hb4 l1
  have Z4:=Z3.below hb4 (by omega)
  have B4 : Below w.heap.size w w4:=B3.trans (hb4.mono (by omega))
  have h0:=L4.cell 0 rfl
  have h1:=L4.cell 1 rfl
  have h2:=L4.cell 2 rfl
  have y0:=Z4.cell 0 rfl
  have y1:=Z4.cell 1 rfl
  have y2:=Z4.cell 2 rfl
  have fy:=Z4.frozen
  have O4 : OI w4 w.heap.size (.slice (some ⟨wc.heap.size, 0, none⟩) m m) xs:=by
   refine ⟨by rw [Hm.out]; simp [Hm.out], .inr ⟨wc.heap.size, m, _, by rw [Hm.out], by omega, hg4.out, by rw [Hm.out]; exact Nat.le_refl _, hcm, ?_, ?_⟩⟩
   ·rw [List.size_toArray, length_splice _ _ _ (by omega), hcz', Nat.mul_one]
   rw [HC.out]; simp [splice, Hm.out, hcl]
  have HO:=hide O4
  clear L3 Z3 G3 H3 c3 p2 q2 K3 L4 Z4 O4 hg4 hb4 LH Z1 G1 b2 L2 hlen hct hcz hrh
  go_wp2
  refine bodyPost_ret (v := qv n s (.slice (some ⟨wc.heap.size, 0, none⟩) m m)) (by simp [results, Tryz.results149, go_sem, y0, y1, y2]) rfl ?_
  have K5 : Kp w4 (((w4.setCell ⟨w.heap.size, 0, none⟩ (.int .i64 n)).setCell ⟨w.heap.size, 1, none⟩ (.string s)).setCell ⟨w.heap.size, 2, none⟩ (.slice (some ⟨wc.heap.size, 0, none⟩) m m)) (fun k => k = w.heap.size):=((set_kp _ _ _ _).trans (set_kp _ _ _ _)).trans (set_kp _ _ _ _)
  exact ⟨_, rfl, HO.out.kp K5 (fun k hk => by simp [Value.ownBlock] at hk; omega), Below.set (Below.set (Below.set B4 _ _ (Nat.le_refl _)) _ _ (Nat.le_refl _)) _ _ (Nat.le_refl _)⟩
theorem stold_any (vo lo v : Int) (s : ByteArray) (ao : Option Addr) (ca : Nat) (xs : List Int) (d : ByteArray) (w : World) (hs : s.size ≤ 281474976710656) (hd : d.size ≤ 281474976710656) (ha : RI w (.slice ao xs.length ca) xs) :
 Calls Tryz.prog 107 #[sv vo lo v s (.slice ao xs.length ca) d] w fun e w' => ∃ u, e = .returned (sv vo lo v s u d) ∧ OI w' w.heap.size u xs ∧ Below w.heap.size w w' := by
 have TO:=hide fun g x0 x1 x5 w' (b : Below w.heap.size w w') (h : Loc w' g #[x0, x1,.int .i64 v,.string s,.slice ao xs.length ca, x5]) => qtold_in g x0 x1 v s ao ca xs w' x5 h (ha.below b) hs
 have CL:=hide fun w' => clone_any d w' hd
 clear ha
 obtain ⟨w0, hw0, Bw0, LS, LZ, zw0⟩:=bx2 w #[.int .i64 vo,.int .i64 lo,.int .i64 v,.string s,.slice ao xs.length ca,.string d] 40 #[.int .i64 0,.int .i64 0,.int .i64 0,.string ⟨#[]⟩,.slice none 0 0,.string ⟨#[]⟩] 40
 go_enter Tryz.func107, Tryz.ntmps107
 obtain ⟨cLS0,cLS1,cLS2,cLS3,cLS4,cLS5⟩:=cc6 LS 0 1 2 3 4 5
 go_wp2_with fail
 clear hw0
 refine (TO.out _ _ _ _ _ Bw0 LS).mono ?_
 rintro _ w1 ⟨u1, rfl, o1, bb⟩
 clear cLS0 cLS1 cLS2 cLS3 cLS4 cLS5
 have Bw1:=bu Bw0 bb
 have sw1:=bb.size
 replace LS:=LS.up bb
 replace LZ:=LZ.up bb
 clear Bw0 bb
 have to1:=World.ownsRow.lt o1
 obtain ⟨ao1, ko1, rfl⟩:=o1.form
 obtain ⟨cLS0,cLS1,cLS2,cLS3,cLS4,cLS5⟩:=cc6 LS 0 1 2 3 4 5
 have fLS:=LS.frozen
 go_upto_region 2 with fail
 clear cLS0 cLS1 cLS2 cLS3 cLS4 cLS5 fLS
 obtain ⟨w2, hw2⟩ : ∃ y, (((w1.setCell ⟨w.heap.size, 2, none⟩ (.int .i64 v)).setCell ⟨w.heap.size, 3, none⟩ (.string s)).setCell ⟨w.heap.size, 4, none⟩ (.slice ao1 xs.length ko1)) = y:=⟨_, rfl⟩
 have kN : Kp w1 w2 (fun k => k = w.heap.size):=hw2 ▸ ((set_kp _ _ _ _).trans (set_kp _ _ _ _)).trans (set_kp _ _ _ _)
 replace LS : Loc w2 (w.heap.size) #[.int .i64 vo,.int .i64 lo,.int .i64 v,.string s,.slice ao1 xs.length ko1,.string d]:=hw2 ▸ (((LS.set 2 _ rfl).set 3 _ rfl).set 4 _ rfl)
 replace LZ:=LZ.kp kN (by omega)
 replace o1:=o1.kp kN (fun j hj e => by have:=to1 j hj; omega)
 have Bw2:=Below.kp Bw1 kN Bw1.size (fun k hk => by omega)
 have sw2:=kN.size
 rw [hw2]
 clear hw2 kN Bw1
 obtain ⟨cLS0,cLS1,cLS2,cLS3,cLS4,cLS5⟩:=cc6 LS 0 1 2 3 4 5
 go_wp2_with fail
 refine (CL.out _).mono ?_
 rintro _ w3 ⟨rfl, bb⟩
 clear cLS0 cLS1 cLS2 cLS3 cLS4 cLS5
 have Bw3:=bu Bw2 bb
 have sw3:=bb.size
 replace LS:=LS.up bb
 replace LZ:=LZ.up bb
 replace o1:=o1.below bb
 clear Bw2 bb
 obtain ⟨cLS0,cLS1,cLS2,cLS3,cLS4,cLS5⟩:=cc6 LS 0 1 2 3 4 5
 have fLS:=LS.frozen
 go_upto_region 3 with fail
 clear cLS0 cLS1 cLS2 cLS3 cLS4 cLS5 fLS
 obtain ⟨w4, hw4⟩ : ∃ y, (w3.setCell ⟨w.heap.size, 5, none⟩ (.string d)) = y:=⟨_, rfl⟩
 have kN : Kp w3 w4 (fun k => k = w.heap.size):=hw4 ▸ set_kp _ _ _ _
 replace LS : Loc w4 (w.heap.size) #[.int .i64 vo,.int .i64 lo,.int .i64 v,.string s,.slice ao1 xs.length ko1,.string d]:=hw4 ▸ (LS.set 5 _ rfl)
 replace LZ:=LZ.kp kN (by omega)
 replace o1:=o1.kp kN (fun j hj e => by have:=to1 j hj; omega)
 have Bw4:=Below.kp Bw3 kN Bw3.size (fun k hk => by omega)
 have sw4:=kN.size
 rw [hw4]
 clear hw4 kN Bw3
 have K6:=kp6 w4 (w.heap.size + 1) (.int .i64 vo) (.int .i64 lo) (.int .i64 v) (.string s) (.slice ao1 xs.length ko1) (.string d)
 obtain ⟨cLZ0,cLZ1,cLZ2,cLZ3,cLZ4,cLZ5⟩:=cc6 LZ 0 1 2 3 4 5
 obtain ⟨cLS0,cLS1,cLS2,cLS3,cLS4,cLS5⟩:=cc6 LS 0 1 2 3 4 5
 have fLZ:=LZ.frozen
 go_wp2
 refine bodyPost_ret (v := sv (vo) (lo) (v) (s) (.slice ao1 xs.length ko1) (d)) (by simp [results, Tryz.results107, go_sem, cLZ0, cLZ1, cLZ2, cLZ3, cLZ4, cLZ5]) rfl ?_
 exact ⟨_, rfl, (o1.kp K6 (fun j hj e => by have := to1 j hj; omega)).mono (by omega), Below.kp Bw4 K6 Bw4.size (fun k hk => by omega)⟩

theorem l11Copy_any (vo lo v : Int) (s : ByteArray) (ao : Option Addr) (ca : Nat) (xs : List Int) (d : ByteArray) (w : World) (ha : RI w (.slice ao xs.length ca) xs) :
 Calls Tryz.prog 88 #[sv vo lo v s (.slice ao xs.length ca) d] w fun e w' => ∃ u, e = .returned (sv vo lo v s u d) ∧ OI w' w.heap.size u xs ∧ Below w.heap.size w w' := by
 have CP:=hide fun w' (b : Below w.heap.size w w') => l7Copy_any v s (.slice ao xs.length ca) xs w' (ha.below b)
 clear ha
 obtain ⟨w0, hw0, Bw0, LS, LZ, zw0⟩:=bx2 w #[.int .i64 vo,.int .i64 lo,.int .i64 v,.string s,.slice ao xs.length ca,.string d] 40 #[.int .i64 0,.int .i64 0,.int .i64 0,.string ⟨#[]⟩,.slice none 0 0,.string ⟨#[]⟩] 40
 go_enter Tryz.func88, Tryz.ntmps88
 obtain ⟨cLS0,cLS1,cLS2,cLS3,cLS4,cLS5⟩:=cc6 LS 0 1 2 3 4 5
 go_wp2_with fail
 clear hw0
 refine (CP.out _ Bw0).mono ?_
 rintro _ w1 ⟨u1, rfl, o1, bb⟩
 clear cLS0 cLS1 cLS2 cLS3 cLS4 cLS5
 have Bw1:=bu Bw0 bb
 have sw1:=bb.size
 replace LS:=LS.up bb
 replace LZ:=LZ.up bb
 clear Bw0 bb
 have to1:=World.ownsRow.lt o1
 obtain ⟨ao1, ko1, rfl⟩:=o1.form
 obtain ⟨cLS0,cLS1,cLS2,cLS3,cLS4,cLS5⟩:=cc6 LS 0 1 2 3 4 5
 have fLS:=LS.frozen
 go_upto_region 2 with fail
 clear cLS0 cLS1 cLS2 cLS3 cLS4 cLS5 fLS
 obtain ⟨w2, hw2⟩ : ∃ y, (((w1.setCell ⟨w.heap.size, 2, none⟩ (.int .i64 v)).setCell ⟨w.heap.size, 3, none⟩ (.string s)).setCell ⟨w.heap.size, 4, none⟩ (.slice ao1 xs.length ko1)) = y:=⟨_, rfl⟩
 have kN : Kp w1 w2 (fun k => k = w.heap.size):=hw2 ▸ ((set_kp _ _ _ _).trans (set_kp _ _ _ _)).trans (set_kp _ _ _ _)
 replace LS : Loc w2 (w.heap.size) #[.int .i64 vo,.int .i64 lo,.int .i64 v,.string s,.slice ao1 xs.length ko1,.string d]:=hw2 ▸ (((LS.set 2 _ rfl).set 3 _ rfl).set 4 _ rfl)
 replace LZ:=LZ.kp kN (by omega)
 replace o1:=o1.kp kN (fun j hj e => by have:=to1 j hj; omega)
 have Bw2:=Below.kp Bw1 kN Bw1.size (fun k hk => by omega)
 have sw2:=kN.size
 rw [hw2]
 clear hw2 kN Bw1
 have K6:=kp6 w2 (w.heap.size + 1) (.int .i64 vo) (.int .i64 lo) (.int .i64 v) (.string s) (.slice ao1 xs.length ko1) (.string d)
 obtain ⟨cLZ0,cLZ1,cLZ2,cLZ3,cLZ4,cLZ5⟩:=cc6 LZ 0 1 2 3 4 5
 obtain ⟨cLS0,cLS1,cLS2,cLS3,cLS4,cLS5⟩:=cc6 LS 0 1 2 3 4 5
 have fLZ:=LZ.frozen
 go_wp2
 refine bodyPost_ret (v := sv (vo) (lo) (v) (s) (.slice ao1 xs.length ko1) (d)) (by simp [results, Tryz.results88, go_sem, cLZ0, cLZ1, cLZ2, cLZ3, cLZ4, cLZ5]) rfl ?_
 exact ⟨_, rfl, (o1.kp K6 (fun j hj e => by have := to1 j hj; omega)).mono (by omega), Below.kp Bw2 K6 Bw2.size (fun k hk => by omega)⟩
end
section
open Go Go.RowKit
theorem dtold_any (ao : Option Addr) (ca : Nat) (s : Int) (xs : List Int) (w : World) (hl : xs.length ≤ 16777216) (hr : RB w (.slice ao xs.length ca) xs) :
 Calls Tryz.prog 108 #[dv (.slice ao xs.length ca) s] w fun e w' => ∃ u, e = .returned (dv u s) ∧ OB w' w.heap.size u xs ∧ Below w.heap.size w w' := by
 have HR:=hide hr
 clear hr
 obtain ⟨w0, hw0, Bw0, P, O, zw0⟩:=bx2 w #[.slice ao xs.length ca,.int .i64 s] 43 #[.slice none 0 0,.int .i64 0] 43
 go_enter Tryz.func108, Tryz.ntmps108
 have K : Hid (∀ w', Kp w0 w' (fun k => k = w.heap.size + 1) → (fun w' => Kp w0 w' (fun k => k = w.heap.size + 1) ∧ (w'.cell? ⟨w.heap.size, 0, none⟩ = some (.slice ao xs.length ca) ∧ w'.cell? ⟨w.heap.size, 1, none⟩ = some (.int .i64 s))) w'):=hide fun w' hk' => ⟨hk', ⟨(P.kp hk' (by omega)).cell 0 rfl, (P.kp hk' (by omega)).cell 1 rfl⟩⟩
 go_upto_region 1 with fail
 clear hw0
 refine wrk K (fun wd1 bA bb hHeld => ?_)
 have Bwd1:=bu Bw0 bb
 have swd1:=bb.size
 replace P:=P.up bb
 replace O:=O.up bb
 clear Bw0 bb
 refine tx 0 3 ?_
 refine tx 3 6 ?_
 refine tx 1 4 ?_
 refine tx 4 7 ?_
 refine rd 2 rfl (fun KK hKK => ?_)
 refine step_append_bytes rfl (.const (.slice none 0 0)) (.tmp 4) rfl w0.heap.size (.slice none 0 0) (.slice ao xs.length ca) [] (xs) rfl rfl (World.ownsRow_nil _ _ _ _) ((HR.out.below Bwd1).pb) (by simp; omega) bA.size ?_
 intro u wx1_1 oU g7 _
 have bb : Below wd1.heap.size wd1 wx1_1:=(Below.refl _ _).grown g7 (Nat.le_refl _) (fun j hj => by simp [Value.ownBlock] at hj)
 rw [List.nil_append] at oU
 have bx1_2 : Kp w0 wx1_1 (fun k => k = w.heap.size + 1):=bA.trans (Below.kpOf bb _)
 clear hHeld g7
 refine hKK.out _ _ (K.out _ bx1_2) (fun hHeld => ?_)
 clear hKK KK bA
 have Bwx1_1:=bu Bwd1 bb
 have swx1_1:=bb.size
 replace P:=P.up bb
 replace O:=O.up bb
 clear Bwd1 bb
 change wpAnyH _ _ _ _ _ _ _ (Act.put _ (some 5) _) _
 have toU:=World.ownsRow.lt oU
 obtain ⟨aoU, koU, rfl⟩:=oU.form
 simp only [pU]
 refine tx 5 8 ?_
 refine rd 6 rfl (fun KK hKK => ?_)
 rw [if_pos (by rfl)]
 refine wp_store_mid 43 (.tmp 2) (.tmp 8) rfl (w.heap.size + 1) 0 #[.slice aoU xs.length koU,.int .i64 s] rfl rfl (O.there 0 2 (by simp)) (by kernel_rfl) (by simp [Value.oneCell']) ?_
 obtain ⟨wx1_3, hq⟩ : ∃ y, wx1_1.setCells (w.heap.size + 1) 0 [.slice aoU xs.length koU, .int .i64 s] = y:=⟨_, rfl⟩
 have kN : Kp wx1_1 wx1_3 (fun k => k = w.heap.size + 1):=hq ▸ setCells_kp _ _ _ _
 have bx1_4 : Kp w0 wx1_3 (fun k => k = w.heap.size + 1):=bx1_2.trans (kN.mono (fun k e => e))
 replace O : Loc wx1_3 (w.heap.size + 1) #[.slice aoU xs.length koU,.int .i64 s]:=hq ▸ O.setCells _ _ rfl
 rw [show wx1_1.setCells (w.heap.size + 1) 0 (Array.toList #[.slice aoU xs.length koU,.int .i64 s]) = wx1_3 from hq]
 clear hHeld
 refine hKK.out _ _ (K.out _ bx1_4) (fun hHeld => ?_)
 clear hKK KK bx1_2
 replace P:=P.kp kN (by omega)
 replace oU:=oU.kp kN (fun j hj e => by have:=toU j hj; omega)
 have Bwx1_3:=Below.kp Bwx1_1 kN Bwx1_1.size (fun k hk => by omega)
 have swx1_3:=kN.size
 clear hq kN Bwx1_1 hHeld
 refine wdn ?_
 clear K bx1_4
 go_wp2
 refine bodyPost_ret (v := dv (.slice aoU xs.length koU) s) (res_row Tryz.results108 _ O rfl Tryz.underlying43 rfl (by kernel_rfl)) rfl ?_
 exact ⟨_, rfl, oU.mono (by omega), Bwx1_3⟩
end
end Go.Proofs.YtjdchloechcclaaGreatDoor
