/- Texts that belong together: RepOkI, NoteAs, NoteRead, WhoPlain, LedgerNew0, NotePlain2, NoteSpecLast, RepKeptS, RepNewS. -/
import Derived.Test.YtndpjhiidmdlhaaGreatDoorRBBH
import Derived.Test.YtndpjhiidmdlhaaGreatDoorRBBK
import Derived.Test.YtndpjhiidmdlhaaGreatDoorRBBL
import Derived.Test.YtndpjhiidmdlhaaGreatDoorRBBD
import Derived.Test.YtndpjhiidmdlhaaGreatDoorRBAA
import Derived.LaidEql
import Derived.RowKitTokens
import Derived.Test.YtndpjhiidmdlhaaGreatDoorRBAT
import Derived.Test.YtndpjhiidmdlhaaGreatDoorRBBA
import Derived.Deep.RegionHeld3
import Derived.Deep.DeepCutAuto
import Derived.Test.YtndpjhiidmdlhaaGreatDoorRBAW
import Derived.Lib.ItoaLen
import Derived.Test.YtndpjhiidmdlhaaGreatDoorRBAN
import Derived.Test.YtndpjhiidmdlhaaGreatDoorRBAE
import Derived.Laws.EntriesVeiled
import Derived.WalkKit
import Derived.Laws.BitsAllLaws
import Derived.Test.YtndpjhiidmdlhaaGreatDoorRBAL
import Derived.Laws.ResultCell
set_option maxRecDepth 100000
set_option maxHeartbeats 16000000
namespace Go.Proofs.YtndpjhiidmdlhaaGreatDoor
open Go Go.RowKit
set_option linter.unusedSectionVars false
variable [∀ (a b c d : Int), Decidable (Ok4 a b c d)]
variable [∀ (n f : Int), Decidable (COk n f)]
variable [∀ (a b c d : Nat), Decidable (okN a b c d)]
variable [∀ (x : T4), Decidable (OkT x)]
variable [∀ (last : Int) (s : St), Decidable (GoodSt last s)]
variable [∀ (n : Int) (s : List Int), Decidable (OkL n s)]
variable [∀ (x y : T4), Decidable (Bef x y)]
variable [∀ (ts : List T4), Decidable (Asc ts)]
variable [∀ (ts : List T4), Decidable (AllOk ts)]
variable [∀ (ts : List T4), Decidable (POk ts)]

set_option linter.unusedSimpArgs false in
theorem notPost_any (n f id m : Int) (u : MT) (oa ob oc : Option Addr) (ka kb kc gc gr : Nat) (x1 x2 x3 x4 x5 x6 x7 x8 x9 x10 x11 x12 x13 : Value) (w : World) (hs : MH u) (hi : MI u) (wrapn : IntKind.i64.wrap (n - 1) = n - 1) (hE : Env w) (ra : RI w (.slice oa u.bw.length ka) u.bw) (rb : RI w (.slice ob u.pw.length kb) u.pw) (rc : RI w (.slice oc u.qw.length kc) u.qw) (hg : Loc w gc #[.int .i64 n, .int .i64 f]) (hr : Loc w gr #[.int .i64 id, x1, x2, x3, x4, x5, x6, x7, x8, x9, x10, x11, x12, x13]) :
 Calls Tryz.prog 119 #[pov m u (.slice oa u.bw.length ka) (.slice ob u.pw.length kb) (.slice oc u.qw.length kc), .pointer (some ⟨gc, 0, none⟩), .pointer (some ⟨gr, 0, none⟩)] w fun e w' => e = .returned (.bool (!pstB n f id (m, u))) ∧ Below w.heap.size w w' := by
 have I4 := hide fun w => within_bool m 0 (n - 1) w
 have MO := hide fun w he h1 h2 h3 => implMsgOk n f u oa ob oc ka kb kc w hs hi he h1 h2 h3
 have HE := hide hE
 have H1 := hide ra
 have H2 := hide rb
 have H3 := hide rc
 have wn := wrapn
 have hq3 : (m == id) = decide (m = id) := by by_cases h : m = id <;> simp [h]
 unfold pstB
 generalize mokB n f u = p1 at *
 generalize decide (0 ≤ m ∧ m ≤ n - 1) = p2 at *
 generalize hp3 : decide (m = id) = p3 at *
 clear hE ra rb rc hs hi wrapn hp3
 have gl := hg.lt
 have rl := hr.lt
 obtain ⟨w0, hw0⟩ : ∃ w0, (w.alloc (.cells #[.int .i64 m, .int .i64 u.k, .int .i64 u.vw, .string u.bn, .int .i64 u.bv, .string u.bs, .slice oa u.bw.length ka, .int .i64 u.pv, .string u.ps, .slice ob u.pw.length kb, .int .i64 u.qv, .string u.qs, .slice oc u.qw.length kc, .int .i64 u.wh, .int .i64 u.fr, .int .i64 u.tu, .int .i64 u.am, .int .i64 u.no] 88)) = w0 := ⟨_, rfl⟩
 have Bw0 : Below w.heap.size w w0 := hw0 ▸ (Below.refl _ _).alloc (Nat.le_refl _) _
 have P : Loc w0 (w.heap.size) #[.int .i64 m, .int .i64 u.k, .int .i64 u.vw, .string u.bn, .int .i64 u.bv, .string u.bs, .slice oa u.bw.length ka, .int .i64 u.pv, .string u.ps, .slice ob u.pw.length kb, .int .i64 u.qv, .string u.qs, .slice oc u.qw.length kc, .int .i64 u.wh, .int .i64 u.fr, .int .i64 u.tu, .int .i64 u.am, .int .i64 u.no] := hw0 ▸ loc_at (w) _ _ rfl
 have zw0 : w.heap.size + 1 ≤ w0.heap.size := by rw [← hw0]; simp
 go_enter Tryz.func119, Tryz.ntmps119
 have GC := hg.below Bw0 gl
 have GR := hr.below Bw0 rl
 clear hg hr gl rl
 have cP0 := P.cell 0 rfl
 have cGC0 := GC.cell 0 rfl
 go_wp2_with fail
 clear hw0
 refine (I4.out _).mono ?_
 rintro _ w1 ⟨rfl, bb⟩
 clear cP0 cGC0
 have Bw1 := bu Bw0 bb
 have sw1 := bb.size
 replace P := P.up bb
 replace GC := GC.up bb
 replace GR := GR.up bb
 clear Bw0
 clear bb
 cases p2
 ·go_wp2
  go_ret
  exact ⟨by simp, Bw1⟩
 ·cases p3
  ·have cP0 := P.cell 0 rfl
   have cGR0 := GR.cell 0 rfl
   have cGC0 := GC.cell 0 rfl
   have cGC1 := GC.cell 1 rfl
   go_wp2_with (first | (refine wloadM [.int .i64 u.k, .int .i64 u.vw, .string u.bn, .int .i64 u.bv, .string u.bs, .slice oa u.bw.length ka, .int .i64 u.pv, .string u.ps, .slice ob u.pw.length kb, .int .i64 u.qv, .string u.qs, .slice oc u.qw.length kc, .int .i64 u.wh, .int .i64 u.fr, .int .i64 u.tu, .int .i64 u.am, .int .i64 u.no] (P.range 1 17 rfl) 86 _ rfl _ rfl rfl Tryz.underlying86 rfl (by kernel_rfl) ?_))
   refine (MO.out _ (HE.out.below Bw1) (H1.out.below Bw1) (H2.out.below Bw1) (H3.out.below Bw1)).mono ?_
   rintro _ w2 ⟨rfl, bb⟩
   clear cP0 cGR0 cGC0 cGC1
   have Bw2 := bu Bw1 bb
   have sw2 := bb.size
   replace P := P.up bb
   replace GC := GC.up bb
   replace GR := GR.up bb
   clear Bw1
   clear bb
   go_wp2
   go_ret
   exact ⟨by simp, Bw2⟩
  ·have cP0 := P.cell 0 rfl
   have cGR0 := GR.cell 0 rfl
   go_wp2
   go_ret
   exact ⟨by simp, Bw1⟩
set_option linter.unusedSimpArgs false in
theorem indexPost (n f id : Int) (ao : Option Addr) (ca : Nat) (ps : List PoT) (gc gr : Nat) (x1 x2 x3 x4 x5 x6 x7 x8 x9 x10 x11 x12 x13 : Value) (w : World) (hl : ps.length ≤ 1048577) (hs : ∀ j, j < ps.length → MH (ps.getD j zpost).2 ∧ MI (ps.getD j zpost).2) (wrapn : IntKind.i64.wrap (n - 1) = n - 1) (hE : Env w) (h : RPo w (.slice ao ps.length ca) ps) (hg : Loc w gc #[.int .i64 n, .int .i64 f]) (hr : Loc w gr #[.int .i64 id, x1, x2, x3, x4, x5, x6, x7, x8, x9, x10, x11, x12, x13]) :
 Calls Tryz.prog 177 #[.slice ao ps.length ca, (.func (.func 119) #[] #[.pointer (some ⟨gc, 0, none⟩), .pointer (some ⟨gr, 0, none⟩)])] w fun e w' => ∃ q : Int, e = .returned (.int .i64 q) ∧ decide (q ≥ 0) = !(hokB n f id ps) ∧ Below w.heap.size w w' := by
 obtain ⟨len, hn⟩ : ∃ n, ps.length = n := ⟨_, rfl⟩
 have Hn := hide hn
 have H := hide h
 rw [hn] at hl H ⊢
 have HS := hide hs
 have HG := hide hg
 have HR := hide hr
 have HE := hide hE
 have WN := hide wrapn
 clear h hn hg hr hs hE wrapn
 go_enter Tryz.func177, Tryz.ntmps177
 go_wp2
 go_loopw [8] (fun j wr => ∃ k : Nat, k ≤ len ∧ j = .int .i64 k ∧ Hid (hokB n f id (ps.take k) = true) ∧ Below w.heap.size w wr) (fun j _ => len - (intOf j).toNat)
 case atStart => exact ⟨0, Nat.zero_le _, rfl, hide (by simp [hokB]), Below.refl _ _⟩
 case round =>
  obtain ⟨k, hk, rfl, HK, br⟩ := hrel
  by_cases hlt : k < len
  ·have hkx : k < ps.length := by rw [Hn.out]; exact hlt
   have RP := H.out.below br
   obtain ⟨g, off, cs, rfl, _, c1, a, b, c, e, ra, rb, rc⟩ := RG.at RP k hkx
   subst e
   obtain ⟨oa, ka, rfl⟩ := ra.form
   obtain ⟨ob, kb, rfl⟩ := rb.form
   obtain ⟨oc, kc, rfl⟩ := rc.form
   have GC := hide (notPost_any n f id (ps.getD k zpost).1 (ps.getD k zpost).2 oa ob oc ka kb kc gc gr x1 x2 x3 x4 x5 x6 x7 x8 x9 x10 x11 x12 x13 wr (HS.out _ hkx).1 (HS.out _ hkx).2 WN.out (HE.out.below br) ra rb rc (HG.out.below br HG.out.lt) (HR.out.below br HR.out.lt))
   have HF := hide fun h1 => hok_no (n := n) (f := f) (id := id) hkx h1
   have HM := hide fun h1 => hok_next (n := n) (f := f) (id := id) hkx HK.out h1
   have ep : ((ps.getD k zpost).1, (ps.getD k zpost).2) = ps.getD k zpost := rfl
   rw [ep] at GC
   clear ra rb rc HK H RP ep
   generalize pstB n f id (ps.getD k zpost) = pb at *
   generalize (ps.getD k zpost).1 = m at *
   generalize (ps.getD k zpost).2 = u at *
   cases pb with
   | false =>
    have F := hide (HF.out rfl)
    clear HF HM
    go_wp2_with (first | (refine wloadM _ c1 88 _ rfl _ rfl rfl Tryz.underlying88 rfl (by kernel_rfl) ?_))
    refine GC.out.mono ?_
    rintro _ w2 ⟨rfl, b2⟩
    go_wp2
    go_ret
    exact ⟨k, rfl, by rw [F.out]; simp, bu br b2⟩
   | true =>
    have F := hide (HM.out rfl)
    clear HF HM
    go_wp2_with (first | (refine wloadM _ c1 88 _ rfl _ rfl rfl Tryz.underlying88 rfl (by kernel_rfl) ?_))
    refine GC.out.mono ?_
    rintro _ w2 ⟨rfl, b2⟩
    go_wp2
    go_roundw
    case rel => exact ⟨k + 1, by omega, by go_num, F, bu br b2⟩
    case measure => simp [intOf]; omega
  ·have hkn : ps.take k = ps := List.take_of_length_le (by have := Hn.out; omega)
   have h0 := HK.out
   rw [hkn] at h0
   have F := hide h0
   have hd2 : decide ((k : Int) < (len : Int)) = false := by simp; omega
   clear HK h0 hkn H
   go_wp2
   go_ret
   exact ⟨-1, rfl, by rw [F.out]; simp, br⟩
set_option linter.unusedSimpArgs false in
theorem containsPost (n f id : Int) (ao : Option Addr) (ca : Nat) (ps : List PoT) (gc gr : Nat) (x1 x2 x3 x4 x5 x6 x7 x8 x9 x10 x11 x12 x13 : Value) (w : World) (hl : ps.length ≤ 1048577) (hs : ∀ j, j < ps.length → MH (ps.getD j zpost).2 ∧ MI (ps.getD j zpost).2) (wrapn : IntKind.i64.wrap (n - 1) = n - 1) (hE : Env w) (h : RPo w (.slice ao ps.length ca) ps) (hg : Loc w gc #[.int .i64 n, .int .i64 f]) (hr : Loc w gr #[.int .i64 id, x1, x2, x3, x4, x5, x6, x7, x8, x9, x10, x11, x12, x13]) :
 Calls Tryz.prog 121 #[.slice ao ps.length ca, (.func (.func 119) #[] #[.pointer (some ⟨gc, 0, none⟩), .pointer (some ⟨gr, 0, none⟩)])] w fun e w' => e = .returned (.bool (!(hokB n f id ps))) ∧ Below w.heap.size w w' := by
 have IX := hide (indexPost n f id ao ca ps gc gr x1 x2 x3 x4 x5 x6 x7 x8 x9 x10 x11 x12 x13 w hl hs wrapn hE h hg hr)
 generalize ps.length = len at *
 generalize hokB n f id ps = b at *
 clear h hg hE hs hr wrapn
 go_enter Tryz.func121, Tryz.ntmps121
 go_wp2_with fail
 refine IX.out.mono ?_
 rintro e w2 ⟨q, rfl, hq, b2⟩
 go_wp2
 go_ret
 exact ⟨by rw [← hq]; rfl, b2⟩
set_option linter.unusedSimpArgs false in
theorem holdsRight_any (n f : Int) (t : RpT) (ao bo co od oe : Option Addr) (ca cb cc cd ce : Nat) (w : World) (hl : t.held.length ≤ 1048577) (hh : ∀ j, j < t.held.length → MH (t.held.getD j zpost).2 ∧ MI (t.held.getD j zpost).2) (wrapn : IntKind.i64.wrap (n - 1) = n - 1) (hE : Env w) (h : RPo w (.slice oe t.held.length ce) t.held) :
 Calls Tryz.prog 54 #[rpv t (.slice ao t.qw.length ca) (.slice bo t.pool.length cb) (.slice co t.tab.length cc) (.slice od t.dsk.length cd) (.slice oe t.held.length ce), cv n f] w fun e w' => e = .returned (.bool (decide (t.held.length ≤ 30) && hokB n f t.id t.held)) ∧ Below w.heap.size w w' := by
 have CP := hide fun gc gr x1 x2 x3 x4 x5 x6 x7 x8 x9 x10 x11 x12 x13 w he h hg hr => containsPost n f t.id oe ce t.held gc gr x1 x2 x3 x4 x5 x6 x7 x8 x9 x10 x11 x12 x13 w hl hh wrapn he h hg hr
 have HE := hide hE
 have HR := hide h
 clear hE h hh wrapn
 have hb5 : decide ((t.held.length : Int) ≤ 30) = decide (t.held.length ≤ 30) := by rw [decide_eq_decide]; omega
 generalize hokB n f t.id t.held = b1 at *
 generalize decide (t.held.length ≤ 30) = b0 at *
 generalize t.held.length = hn at *
 obtain ⟨w0, hw0⟩ : ∃ w0, ((w.alloc (.cells #[.int .i64 t.id, .int .i64 t.vw, .int .i64 t.ak, .int .i64 t.vo, .int .i64 t.lo, .int .i64 t.n, .string t.s, .slice ao t.qw.length ca, .string t.d, .slice bo t.pool.length cb, .slice co t.tab.length cc, .slice od t.dsk.length cd, .int .i64 t.su, .slice oe hn ce] 49)).alloc (.cells #[.int .i64 n, .int .i64 f] 39)) = w0 := ⟨_, rfl⟩
 have Bw0 : Below w.heap.size w w0 := hw0 ▸ ((Below.refl _ _).alloc (Nat.le_refl _) _).alloc (by simp) _
 have A : Loc w0 (w.heap.size) #[.int .i64 t.id, .int .i64 t.vw, .int .i64 t.ak, .int .i64 t.vo, .int .i64 t.lo, .int .i64 t.n, .string t.s, .slice ao t.qw.length ca, .string t.d, .slice bo t.pool.length cb, .slice co t.tab.length cc, .slice od t.dsk.length cd, .int .i64 t.su, .slice oe hn ce] := hw0 ▸ (loc_at (w) _ _ rfl).alloc _
 have LC : Loc w0 (w.heap.size + 1) #[.int .i64 n, .int .i64 f] := hw0 ▸ loc_at (w.alloc _) _ _ (by simp)
 have zw0 : w.heap.size + 1 + 1 ≤ w0.heap.size := by rw [← hw0]; simp
 go_enter Tryz.func54, Tryz.ntmps54
 have cA13 := A.cell 13 rfl
 cases b0
 ·go_wp2
  go_ret
  exact ⟨by simp, Bw0⟩
 ·go_wp2_with fail
  clear hw0
  refine (CP.out _ _ _ _ _ _ _ _ _ _ _ _ _ _ _ _ (HE.out.below Bw0) (HR.out.below Bw0) LC A).mono ?_
  rintro _ w1 ⟨rfl, bb⟩
  clear cA13
  have Bw1 := bu Bw0 bb
  have sw1 := bb.size
  replace A := A.up bb
  replace LC := LC.up bb
  clear Bw0
  clear bb
  go_wp2
  go_ret
  exact ⟨by simp, Bw1⟩
theorem rep_alt (n f : Int) (t : RpT) : repB n f t = (decide (0 ≤ t.id ∧ t.id ≤ IntKind.i64.wrap (n - 1)) && (decide (1 ≤ t.vw ∧ t.vw ≤ 60) && (decide (0 ≤ t.ak ∧ t.ak ≤ 60) && (sokB n f t.vo t.lo t.n t.s t.qw t.d && (decide (POk t.pool) && (tokB n f t.tab && (dokB t.dsk.length t.su && (decide (t.held.length ≤ 30) && hokB n f t.id t.held)))))))) := by
 unfold repB
 by_cases h : COk n f
 ·have : IntKind.i64.wrap (n - 1) = n - 1 := by unfold COk at h; rw [IntKind.wrap_i64] <;> omega
  rw [this, decide_eq_true h, Bool.true_and]
 ·have : sokB n f t.vo t.lo t.n t.s t.qw t.d = false := by
   cases e : sokB n f t.vo t.lo t.n t.s t.qw t.d with
   | false => rfl
   | true =>
    have := (sok_done e).2.2.1
    unfold qokB at this
    rw [decide_eq_false h] at this
    simp at this
  rw [decide_eq_false h, this]
  simp
structure RI_ (t : RpT) : Prop where
 s : t.s.size ≤ 33554432
 d : t.d.size ≤ 33554432
 tb : ∀ p ∈ t.tab, p.2.1.size ≤ 33554432
 h : ∀ j, j < t.held.length → MH (t.held.getD j zpost).2 ∧ MI (t.held.getD j zpost).2
set_option linter.unusedSimpArgs false in
theorem implRepOk (n f : Int) (t : RpT) (ao bo co od oe : Option Addr) (ca cb cc cd ce : Nat) (w : World) (hm : RSm t) (hs : RI_ t) (hE : Env w) (h : RRep w t (.slice ao t.qw.length ca) (.slice bo t.pool.length cb) (.slice co t.tab.length cc) (.slice od t.dsk.length cd) (.slice oe t.held.length ce)) :
 Calls Tryz.prog 13 #[cv n f, rpv t (.slice ao t.qw.length ca) (.slice bo t.pool.length cb) (.slice co t.tab.length cc) (.slice od t.dsk.length cd) (.slice oe t.held.length ce)] w fun e w' => e = .returned (.bool (repB n f t)) ∧ Below w.heap.size w w' := by
 rw [rep_alt]
 obtain ⟨nm, wn⟩ : ∃ m, IntKind.i64.wrap (n - 1) = m := ⟨_, rfl⟩
 rw [wn]
 have i1 := hide fun w => within_bool t.id 0 nm w
 have i2 := hide fun w => within_bool t.vw 1 60 w
 have i3 := hide fun w => within_bool t.ak 0 60 w
 have SO := hide fun w he h => implSafeOk n f t.vo t.lo t.n t.s ao ca t.qw t.d w hs.s hs.d he h
 have PO := hide fun w h => implPoolOk (.slice bo t.pool.length cb) t.pool w h
 have TO := hide fun w he h => implTableOk n f (.slice co t.tab.length cc) t.tab w (by have := hm.tb; omega) hs.tb he h
 have DO := hide fun w => implDiskOk od t.dsk.length cd t.su w
 have HO : Hid (sokB n f t.vo t.lo t.n t.s t.qw t.d = true → ∀ w, Env w → RPo w (.slice oe t.held.length ce) t.held → Calls Tryz.prog 54 #[rpv t (.slice ao t.qw.length ca) (.slice bo t.pool.length cb) (.slice co t.tab.length cc) (.slice od t.dsk.length cd) (.slice oe t.held.length ce), cv n f] w fun e w' => e = .returned (.bool (decide (t.held.length ≤ 30) && hokB n f t.id t.held)) ∧ Below w.heap.size w w') := hide fun hb w he h => holdsRight_any n f t ao bo co od oe ca cb cc cd ce w hm.h hs.h (by
  have h1 := (sok_done hb).2.2.1
  have h2 : COk n f := by
   unfold qokB at h1
   simp only [Bool.and_eq_true, decide_eq_true_eq] at h1
   exact h1.1.1.1
  unfold COk at h2
  rw [IntKind.wrap_i64] <;> omega) he h
 have HR := hide h
 have HE := hide hE
 clear h hs hm hE
 generalize decide (0 ≤ t.id ∧ t.id ≤ nm) = b1 at *
 generalize decide (1 ≤ t.vw ∧ t.vw ≤ 60) = b2 at *
 generalize decide (0 ≤ t.ak ∧ t.ak ≤ 60) = b3 at *
 generalize sokB n f t.vo t.lo t.n t.s t.qw t.d = b4 at *
 generalize decide (POk t.pool) = b5 at *
 generalize tokB n f t.tab = b6 at *
 generalize dokB t.dsk.length t.su = b7 at *
 generalize (decide (t.held.length ≤ 30) && hokB n f t.id t.held) = b8 at *
 obtain ⟨w0, hw0⟩ : ∃ w0, ((w.alloc (.cells #[.int .i64 n, .int .i64 f] 39)).alloc (.cells #[.int .i64 t.id, .int .i64 t.vw, .int .i64 t.ak, .int .i64 t.vo, .int .i64 t.lo, .int .i64 t.n, .string t.s, .slice ao t.qw.length ca, .string t.d, .slice bo t.pool.length cb, .slice co t.tab.length cc, .slice od t.dsk.length cd, .int .i64 t.su, .slice oe t.held.length ce] 49)) = w0 := ⟨_, rfl⟩
 have Bw0 : Below w.heap.size w w0 := hw0 ▸ ((Below.refl _ _).alloc (Nat.le_refl _) _).alloc (by simp) _
 have LC : Loc w0 (w.heap.size) #[.int .i64 n, .int .i64 f] := hw0 ▸ (loc_at (w) _ _ rfl).alloc _
 have A : Loc w0 (w.heap.size + 1) #[.int .i64 t.id, .int .i64 t.vw, .int .i64 t.ak, .int .i64 t.vo, .int .i64 t.lo, .int .i64 t.n, .string t.s, .slice ao t.qw.length ca, .string t.d, .slice bo t.pool.length cb, .slice co t.tab.length cc, .slice od t.dsk.length cd, .int .i64 t.su, .slice oe t.held.length ce] := hw0 ▸ loc_at (w.alloc _) _ _ (by simp)
 have zw0 : w.heap.size + 1 + 1 ≤ w0.heap.size := by rw [← hw0]; simp
 go_enter Tryz.func13, Tryz.ntmps13
 have cLC0 := LC.cell 0 rfl
 have cLC1 := LC.cell 1 rfl
 have cA0 := A.cell 0 rfl
 go_wp2_with fail
 clear hw0
 refine (i1.out _).mono ?_
 rintro _ w1 ⟨rfl, bb⟩
 clear cLC0 cLC1 cA0
 have Bw1 := bu Bw0 bb
 have sw1 := bb.size
 replace LC := LC.up bb
 replace A := A.up bb
 clear Bw0
 clear bb
 cases b1
 ·go_wp2
  go_ret
  exact ⟨by simp, Bw1⟩
 ·have cLC0 := LC.cell 0 rfl
  have cA0 := A.cell 0 rfl
  have cA1 := A.cell 1 rfl
  go_wp2_with fail
  refine (i2.out _).mono ?_
  rintro _ w2 ⟨rfl, bb⟩
  clear cLC0 cA0 cA1
  have Bw2 := bu Bw1 bb
  have sw2 := bb.size
  replace LC := LC.up bb
  replace A := A.up bb
  clear Bw1
  clear bb
  cases b2
  ·go_wp2
   go_ret
   exact ⟨by simp, Bw2⟩
  ·have cLC0 := LC.cell 0 rfl
   have cA0 := A.cell 0 rfl
   have cA1 := A.cell 1 rfl
   have cA2 := A.cell 2 rfl
   go_wp2_with fail
   refine (i3.out _).mono ?_
   rintro _ w3 ⟨rfl, bb⟩
   clear cLC0 cA0 cA1 cA2
   have Bw3 := bu Bw2 bb
   have sw3 := bb.size
   replace LC := LC.up bb
   replace A := A.up bb
   clear Bw2
   clear bb
   cases b3
   ·go_wp2
    go_ret
    exact ⟨by simp, Bw3⟩
   ·have cLC0 := LC.cell 0 rfl
    have cLC1 := LC.cell 1 rfl
    go_wp2_with (first | (refine wloadM [.int .i64 t.vo, .int .i64 t.lo, .int .i64 t.n, .string t.s, .slice ao t.qw.length ca, .string t.d] (A.range 3 6 rfl) 43 _ rfl _ rfl rfl Tryz.underlying43 rfl (by kernel_rfl) ?_))
    refine (SO.out _ (HE.out.below Bw3) (HR.out.q.below Bw3)).mono ?_
    rintro _ w4 ⟨rfl, bb⟩
    clear cLC0 cLC1
    have Bw4 := bu Bw3 bb
    have sw4 := bb.size
    replace LC := LC.up bb
    replace A := A.up bb
    clear Bw3
    clear bb
    cases b4
    ·go_wp2
     go_ret
     exact ⟨by simp, Bw4⟩
    ·have HO2 := HO.out rfl
     replace HO2 := hide HO2
     clear HO
     have cLC0 := LC.cell 0 rfl
     have cLC1 := LC.cell 1 rfl
     have cA9 := A.cell 9 rfl
     go_wp2_with fail
     refine (PO.out _ (HR.out.p.below Bw4)).mono ?_
     rintro _ w5 ⟨rfl, bb⟩
     clear cLC0 cLC1 cA9
     have Bw5 := bu Bw4 bb
     have sw5 := bb.size
     replace LC := LC.up bb
     replace A := A.up bb
     clear Bw4
     clear bb
     cases b5
     ·go_wp2
      go_ret
      exact ⟨by simp, Bw5⟩
     ·have cLC0 := LC.cell 0 rfl
      have cLC1 := LC.cell 1 rfl
      have cA10 := A.cell 10 rfl
      go_wp2_with fail
      refine (TO.out _ (HE.out.below Bw5) (HR.out.tb.below Bw5)).mono ?_
      rintro _ w6 ⟨rfl, bb⟩
      clear cLC0 cLC1 cA10
      have Bw6 := bu Bw5 bb
      have sw6 := bb.size
      replace LC := LC.up bb
      replace A := A.up bb
      clear Bw5
      clear bb
      cases b6
      ·go_wp2
       go_ret
       exact ⟨by simp, Bw6⟩
      ·have cLC0 := LC.cell 0 rfl
       have cLC1 := LC.cell 1 rfl
       go_wp2_with (first | (refine wloadM [.slice od t.dsk.length cd, .int .i64 t.su] (A.range 11 2 rfl) 46 _ rfl _ rfl rfl Tryz.underlying46 rfl (by kernel_rfl) ?_))
       refine (DO.out _).mono ?_
       rintro _ w7 ⟨rfl, bb⟩
       clear cLC0 cLC1
       have Bw7 := bu Bw6 bb
       have sw7 := bb.size
       replace LC := LC.up bb
       replace A := A.up bb
       clear Bw6
       clear bb
       cases b7
       ·go_wp2
        go_ret
        exact ⟨by simp, Bw7⟩
       ·have cLC0 := LC.cell 0 rfl
        have cLC1 := LC.cell 1 rfl
        go_wp2_with (first | (refine wload A 49 _ rfl _ rfl rfl Tryz.underlying49 rfl (by kernel_rfl) ?_))
        refine (HO2.out _ (HE.out.below Bw7) (HR.out.h.below Bw7)).mono ?_
        rintro _ w8 ⟨rfl, bb⟩
        clear cLC0 cLC1
        have Bw8 := bu Bw7 bb
        have sw8 := bb.size
        replace LC := LC.up bb
        replace A := A.up bb
        clear Bw7
        clear bb
        go_wp2
        go_ret
        exact ⟨by simp, Bw8⟩
end Go.Proofs.YtndpjhiidmdlhaaGreatDoor
namespace Go.Proofs.YtndpjhiidmdlhaaGreatDoor
open Go.RowKit Go.Extern

def EnvT (w : World) : Prop := w.cell? ⟨0, 0, none⟩ = some (.iface 327 (.agg #[.pointer (some ⟨8, 214, none⟩)]))
theorem EnvT.below {w w' : World} (h : EnvT w) (hb : Below w.heap.size w w') : EnvT w' := (hb.cell (cell_lt h)).trans h
theorem EnvT.kp {w w' : World} {X : Nat → Prop} (h : EnvT w) (k : Kp w w' X) (hx : ¬ X 0) : EnvT w' := k.cell h hx
end Go.Proofs.YtndpjhiidmdlhaaGreatDoor
namespace Go.Proofs.YtndpjhiidmdlhaaGreatDoor
open Go.RowKit
set_option linter.unusedSectionVars false
variable [∀ (a b c d : Int), Decidable (Ok4 a b c d)]
variable [∀ (a b c d : Nat), Decidable (okN a b c d)]
variable [∀ (last : Int) (s : St), Decidable (GoodSt last s)]
variable [∀ (x : T4), Decidable (OkT x)]
variable [∀ (n : Int) (s : List Int), Decidable (OkL n s)]
variable [∀ (n f : Int), Decidable (COk n f)]

def Stays (xs : List Int) (p q : Int) : Prop := q = p ∨ (0 ≤ q ∧ q ≤ xs.length)
theorem Stays.trans {xs : List Int} {p q r : Int} (h : Stays xs p q) (k : Stays xs q r) : Stays xs p r := by unfold Stays at *; omega

theorem Kp.over {a b c : World} {X Y : Nat → Prop} (h : Kp a b X) (k : Kp b c Y) (hy : ∀ j, Y j → a.heap.size ≤ j ∨ X j) : Kp a c X :=
 ⟨k.os.trans h.os, k.tape.trans h.tape, k.output.trans h.output, Nat.le_trans h.size k.size, fun i hi hx => (k.block i (Nat.lt_of_lt_of_le hi h.size) (fun hj => by rcases hy i hj with h1 | h1 <;> first | omega | exact hx h1)).trans (h.block i hi hx)⟩
end Go.Proofs.YtndpjhiidmdlhaaGreatDoor
namespace Go.Proofs.YtndpjhiidmdlhaaGreatDoor
open Go.RowKit

theorem OI.more {B : Nat} {w1 : World} {v' : Value} {xs : List Int} {c : Int} (ho' : w1.ownsRow B 3 1 v' (xs.length + 1) (xs.map (Value.int .i64) ++ [.int .i64 c])) : OI w1 B v' (xs ++ [c]) := by
 unfold OI
 rw [List.length_append, List.map_append]
 exact ho'
end Go.Proofs.YtndpjhiidmdlhaaGreatDoor
namespace Go.Proofs.YtndpjhiidmdlhaaGreatDoor
set_option linter.unusedSectionVars false
variable [∀ (a b c d : Int), Decidable (Ok4 a b c d)]
variable [∀ (a b c d : Nat), Decidable (okN a b c d)]
variable [∀ (last : Int) (s : St), Decidable (GoodSt last s)]
variable [∀ (x : T4), Decidable (OkT x)]
variable [∀ (n : Int) (s : List Int), Decidable (OkL n s)]
variable [∀ (n f : Int), Decidable (COk n f)]

theorem BytesL.piece {xs : List Int} (hb : BytesL xs) (k m : Nat) : BytesL ((xs.drop k).take m) := fun y hy => hb y (List.mem_of_mem_drop (List.mem_of_mem_take hy))
end Go.Proofs.YtndpjhiidmdlhaaGreatDoor
namespace Go.Proofs.YtndpjhiidmdlhaaGreatDoor
open Go.RowKit
set_option linter.unusedSectionVars false
variable [∀ (a b c d : Int), Decidable (Ok4 a b c d)]
variable [∀ (a b c d : Nat), Decidable (okN a b c d)]
variable [∀ (last : Int) (s : St), Decidable (GoodSt last s)]
variable [∀ (x : T4), Decidable (OkT x)]
variable [∀ (n : Int) (s : List Int), Decidable (OkL n s)]
variable [∀ (n f : Int), Decidable (COk n f)]

theorem RB.sub {w : World} {b off n ca : Nat} {xs : List Int} (h : RB w (.slice (some ⟨b, off, none⟩) n ca) xs) (q m : Nat) (hq : q + m ≤ xs.length) : RB w (.slice (some ⟨b, off + q, none⟩) m (ca - q)) ((xs.drop q).take m) := by
 obtain ⟨hl, ao, cap, e, hc, h⟩ := h
 cases e
 have hw := win_len xs q m hq
 refine ⟨by omega, _, _, by rw [hw], ⟨by omega, by unfold maxLen at *; omega⟩, ?_⟩
 rcases h with rfl | ⟨b', off', e, h⟩
 ·left; simp
 ·cases e
  right
  refine ⟨b, off + q, rfl, fun k hk => ?_⟩
  rw [hw] at hk
  exact win_cells h hq k hk
theorem RB.at {w : World} {ao : Option Addr} {n ca : Nat} {xs : List Int} (h : RB w (.slice ao n ca) xs) (hx : 0 < xs.length) : (n = xs.length ∧ n ≤ ca) ∧ ∃ b off, ao = some ⟨b, off, none⟩ ∧ ∀ k, k < xs.length → w.cell? ⟨b, off + k, none⟩ = some (.int .u8 (xs.getD k 0)) := by
 obtain ⟨hl, ao', ca', e, hc, h⟩ := h
 cases e
 rcases h with rfl | ⟨b, off, rfl, h⟩
 ·simp at hx
 ·exact ⟨⟨rfl, hc.1⟩, b, off, rfl, h⟩
end Go.Proofs.YtndpjhiidmdlhaaGreatDoor
namespace Go.Proofs.YtndpjhiidmdlhaaGreatDoor
open Go Go.RowKit
set_option linter.unusedSectionVars false
variable [∀ (a b c d : Int), Decidable (Ok4 a b c d)]
variable [∀ (n f : Int), Decidable (COk n f)]
variable [∀ (a b c d : Nat), Decidable (okN a b c d)]
variable [∀ (x : T4), Decidable (OkT x)]
variable [∀ (last : Int) (s : St), Decidable (GoodSt last s)]
variable [∀ (n : Int) (s : List Int), Decidable (OkL n s)]
variable [∀ (x y : T4), Decidable (Bef x y)]
variable [∀ (ts : List T4), Decidable (Asc ts)]
variable [∀ (ts : List T4), Decidable (AllOk ts)]
variable [∀ (ts : List T4), Decidable (POk ts)]

theorem RRep.below {w w' : World} {t : RpT} {a b c d e : Value} (h : RRep w t a b c d e) (hb : Below w.heap.size w w') : RRep w' t a b c d e :=
 ⟨h.q.below hb, h.p.below hb, h.tb.below hb, h.d.below hb, h.h.below hb⟩

def newR (id : Int) : RpT := ⟨id, 1, 0, 0, 0, 0, ⟨#[]⟩, [], ⟨#[]⟩, [], [], [], 0, []⟩
def zeroR : RpT := ⟨0, 0, 0, 0, 0, 0, ⟨#[]⟩, [], ⟨#[]⟩, [], [], [], 0, []⟩
theorem RRep.new (w : World) (id : Int) : RRep w (newR id) (.slice none 0 0) (.slice none 0 0) (.slice none 0 0) (.slice none 0 0) (.slice none 0 0) :=
 ⟨⟨by simp [newR], none, 0, rfl, .inl rfl⟩, ⟨by simp [newR], none, 0, rfl, .inl rfl⟩, ⟨none, 0, rfl, .inl rfl⟩, ⟨by simp [newR], none, 0, rfl, ⟨by simp [newR], by unfold maxLen; omega⟩, .inl rfl⟩, RPo.nil w⟩
theorem RSm.new (id : Int) : RSm (newR id) := ⟨by simp [newR], by simp [newR], by simp [newR], by simp [newR], by simp [newR], fun p hp => by simp [newR] at hp, fun j hj => by simp [newR] at hj⟩
theorem RS.new (id : Int) : RS (newR id) := ⟨(Nat.zero_le _ : 0 ≤ 1048576), (Nat.zero_le _ : 0 ≤ 1048576), fun p hp => by simp [newR] at hp, fun j hj => by simp [newR] at hj⟩
theorem res_row2 {P : Program} {fn : Func} {p u : Tmp} {ty : TypeId} (h : fn.results = #[.cell p ty, .tmp u]) {tmps : Array Value} {w : World} {g : Nat} {cs : Array Value} (d : TypeDesc) (L : Loc w g cs) (hp : tmps.getD p undef = .pointer (some ⟨g, 0, none⟩))
 (hu : P.underlying ty = some d) (hd : isRow d = true) (hi : (P.info? ty).map (·.size) = some cs.size) : (results fn tmps).run P w = .ok (.tuple #[.agg cs, tmps.getD u undef]) w := by
 rw [results_cell_tmp h, hp]
 have := load_row L ty d hu hd hi
 simp [asAddr, this, Result.andThen]
theorem specRepNew (n f id : Int) (w : World) :
 Calls Tryz.prog 15 #[cv n f, .int .i64 id] w fun e w' => e = .returned (.tuple #[rpv (if repB n f (newR id) = true then newR id else zeroR) (.slice none 0 0) (.slice none 0 0) (.slice none 0 0) (.slice none 0 0) (.slice none 0 0), .bool (repB n f (newR id))]) ∧ Below w.heap.size w w' := by
 have RO := hide fun w => specRepOk n f (newR id) none none none none none 0 0 0 0 0 w (RSm.new id) (RS.new id) (RRep.new w id)
 generalize repB n f (newR id) = b0 at *
 obtain ⟨w0, hw0⟩ : ∃ w0, ((w.alloc (.cells #[.int .i64 n, .int .i64 f] 39)).alloc (.cells #[.int .i64 0, .int .i64 0, .int .i64 0, .int .i64 0, .int .i64 0, .int .i64 0, .string ⟨#[]⟩, .slice none 0 0, .string ⟨#[]⟩, .slice none 0 0, .slice none 0 0, .slice none 0 0, .int .i64 0, .slice none 0 0] 49)) = w0 := ⟨_, rfl⟩
 have Bw0 : Below w.heap.size w w0 := hw0 ▸ ((Below.refl _ _).alloc (Nat.le_refl _) _).alloc (by simp) _
 have LC : Loc w0 (w.heap.size) #[.int .i64 n, .int .i64 f] := hw0 ▸ (loc_at (w) _ _ rfl).alloc _
 have O : Loc w0 (w.heap.size + 1) #[.int .i64 0, .int .i64 0, .int .i64 0, .int .i64 0, .int .i64 0, .int .i64 0, .string ⟨#[]⟩, .slice none 0 0, .string ⟨#[]⟩, .slice none 0 0, .slice none 0 0, .slice none 0 0, .int .i64 0, .slice none 0 0] := hw0 ▸ loc_at (w.alloc _) _ _ (by simp)
 have zw0 : w.heap.size + 1 + 1 ≤ w0.heap.size := by rw [← hw0]; simp
 go_enter Tryz.func15, Tryz.ntmps15
 go_upto_region 2 with (refine wstore (loc_at w0 #[.int .i64 0, .int .i64 0, .int .i64 0, .int .i64 0, .int .i64 0, .int .i64 0, .string ⟨#[]⟩, .slice none 0 0, .string ⟨#[]⟩, .slice none 0 0, .slice none 0 0, .slice none 0 0, .int .i64 0, .slice none 0 0] 49 rfl) 49 #[.int .i64 id, .int .i64 1, .int .i64 0, .int .i64 0, .int .i64 0, .int .i64 0, .string ⟨#[]⟩, .slice none 0 0, .string ⟨#[]⟩, .slice none 0 0, .slice none 0 0, .slice none 0 0, .int .i64 0, .slice none 0 0] rfl _ _ rfl rfl rfl (by kernel_rfl) rfl (by simp [Value.oneCell']) ?_)
 clear hw0
 obtain ⟨w1, hw1⟩ : ∃ y, (w0.alloc (.cells #[.int .i64 0, .int .i64 0, .int .i64 0, .int .i64 0, .int .i64 0, .int .i64 0, .string ⟨#[]⟩, .slice none 0 0, .string ⟨#[]⟩, .slice none 0 0, .slice none 0 0, .slice none 0 0, .int .i64 0, .slice none 0 0] 49)).setRow w0.heap.size #[.int .i64 id, .int .i64 1, .int .i64 0, .int .i64 0, .int .i64 0, .int .i64 0, .string ⟨#[]⟩, .slice none 0 0, .string ⟨#[]⟩, .slice none 0 0, .slice none 0 0, .slice none 0 0, .int .i64 0, .slice none 0 0] = y := ⟨_, rfl⟩
 rw [hw1]
 have bb : Below w0.heap.size w0 w1 := hw1 ▸ box_below _ _ _ _
 have X : Loc w1 w0.heap.size #[.int .i64 id, .int .i64 1, .int .i64 0, .int .i64 0, .int .i64 0, .int .i64 0, .string ⟨#[]⟩, .slice none 0 0, .string ⟨#[]⟩, .slice none 0 0, .slice none 0 0, .slice none 0 0, .int .i64 0, .slice none 0 0] := hw1 ▸ box_loc _ _ _ _
 have zw1 : w1.heap.size = w0.heap.size + 1 := by rw [← hw1]; exact box_size _ _ _ _
 clear hw1
 have Bw1 := bu Bw0 bb
 have sw1 := bb.size
 replace LC := LC.up bb
 replace O := O.up bb
 clear Bw0
 clear bb
 have cLC0 := LC.cell 0 rfl
 have cLC1 := LC.cell 1 rfl
 go_wp2_with (first | (refine wload X 49 _ rfl _ rfl rfl Tryz.underlying49 rfl (by kernel_rfl) ?_))
 refine (RO.out _).mono ?_
 rintro _ w2 ⟨rfl, bb⟩
 clear cLC0 cLC1
 have Bw2 := bu Bw1 bb
 have sw2 := bb.size
 replace LC := LC.up bb
 replace O := O.up bb
 replace X := X.up bb
 clear Bw1
 clear bb
 cases b0
 ·go_wp2_with (first | (refine wload X 49 _ rfl _ rfl rfl Tryz.underlying49 rfl (by kernel_rfl) ?_) | (refine wstore O 49 #[.int .i64 0, .int .i64 0, .int .i64 0, .int .i64 0, .int .i64 0, .int .i64 0, .string ⟨#[]⟩, .slice none 0 0, .string ⟨#[]⟩, .slice none 0 0, .slice none 0 0, .slice none 0 0, .int .i64 0, .slice none 0 0] rfl _ _ rfl rfl rfl (by kernel_rfl) rfl (by simp [Value.oneCell']) ?_))
  obtain ⟨wE, hwE⟩ : ∃ w9_, w2.setRow (w.heap.size + 1) #[.int .i64 0, .int .i64 0, .int .i64 0, .int .i64 0, .int .i64 0, .int .i64 0, .string ⟨#[]⟩, .slice none 0 0, .string ⟨#[]⟩, .slice none 0 0, .slice none 0 0, .slice none 0 0, .int .i64 0, .slice none 0 0] = w9_ := ⟨_, rfl⟩
  have kN : Kp w2 wE (fun k => k = w.heap.size + 1) := hwE ▸ row_kp _ _ _
  replace O : Loc wE (w.heap.size + 1) #[.int .i64 0, .int .i64 0, .int .i64 0, .int .i64 0, .int .i64 0, .int .i64 0, .string ⟨#[]⟩, .slice none 0 0, .string ⟨#[]⟩, .slice none 0 0, .slice none 0 0, .slice none 0 0, .int .i64 0, .slice none 0 0] := hwE ▸ O.row
  replace LC := LC.kp kN (by omega)
  replace X := X.kp kN (by omega)
  have BwE := Below.kp Bw2 kN Bw2.size (fun k hk => by omega)
  have swE := kN.size
  rw [hwE]
  clear hwE kN Bw2
  refine bodyPost_ret (v := .tuple #[rpv zeroR (.slice none 0 0) (.slice none 0 0) (.slice none 0 0) (.slice none 0 0) (.slice none 0 0), .bool false]) (res_row2 Tryz.results15 _ O rfl Tryz.underlying49 rfl (by kernel_rfl)) rfl ?_
  exact ⟨by simp, BwE⟩
 ·go_wp2_with (first | (refine wload X 49 _ rfl _ rfl rfl Tryz.underlying49 rfl (by kernel_rfl) ?_) | (refine wstore O 49 #[.int .i64 id, .int .i64 1, .int .i64 0, .int .i64 0, .int .i64 0, .int .i64 0, .string ⟨#[]⟩, .slice none 0 0, .string ⟨#[]⟩, .slice none 0 0, .slice none 0 0, .slice none 0 0, .int .i64 0, .slice none 0 0] rfl _ _ rfl rfl rfl (by kernel_rfl) rfl (by simp [Value.oneCell']) ?_))
  obtain ⟨wE, hwE⟩ : ∃ w9_, w2.setRow (w.heap.size + 1) #[.int .i64 id, .int .i64 1, .int .i64 0, .int .i64 0, .int .i64 0, .int .i64 0, .string ⟨#[]⟩, .slice none 0 0, .string ⟨#[]⟩, .slice none 0 0, .slice none 0 0, .slice none 0 0, .int .i64 0, .slice none 0 0] = w9_ := ⟨_, rfl⟩
  have kN : Kp w2 wE (fun k => k = w.heap.size + 1) := hwE ▸ row_kp _ _ _
  replace O : Loc wE (w.heap.size + 1) #[.int .i64 id, .int .i64 1, .int .i64 0, .int .i64 0, .int .i64 0, .int .i64 0, .string ⟨#[]⟩, .slice none 0 0, .string ⟨#[]⟩, .slice none 0 0, .slice none 0 0, .slice none 0 0, .int .i64 0, .slice none 0 0] := hwE ▸ O.row
  replace LC := LC.kp kN (by omega)
  replace X := X.kp kN (by omega)
  have BwE := Below.kp Bw2 kN Bw2.size (fun k hk => by omega)
  have swE := kN.size
  rw [hwE]
  clear hwE kN Bw2
  refine bodyPost_ret (v := .tuple #[rpv (newR id) (.slice none 0 0) (.slice none 0 0) (.slice none 0 0) (.slice none 0 0) (.slice none 0 0), .bool true]) (res_row2 Tryz.results15 _ O rfl Tryz.underlying49 rfl (by kernel_rfl)) rfl ?_
  exact ⟨by simp, BwE⟩
end Go.Proofs.YtndpjhiidmdlhaaGreatDoor
