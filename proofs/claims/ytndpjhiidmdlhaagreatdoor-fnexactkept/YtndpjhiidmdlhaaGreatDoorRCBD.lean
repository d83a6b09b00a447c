/- Texts that belong together: RepOkS, RepEnds. -/
import Derived.Test.YtndpjhiidmdlhaaGreatDoorRCAO
import Derived.Test.YtndpjhiidmdlhaaGreatDoorRCAX
import Derived.Test.YtndpjhiidmdlhaaGreatDoorRCAY
import Derived.Test.YtndpjhiidmdlhaaGreatDoorRCAZ
import Derived.Test.YtndpjhiidmdlhaaGreatDoorRCBA
import Derived.Test.YtndpjhiidmdlhaaGreatDoorRCBC
import Derived.Test.YtndpjhiidmdlhaaGreatDoorRCAP
namespace Go.Proofs.YtndpjhiidmdlhaaGreatDoor
open Go Go.RowKit
set_option linter.unusedSectionVars false
variable [∀ (a b c d : Int), Decidable (Ok4 a b c d)]
variable [∀ (n f : Int), Decidable (COk n f)]
variable [∀ (a b c d : Nat), Decidable (okN a b c d)]
variable [∀ (x : T4), Decidable (OkT x)]
variable [∀ (last : Int) (s : St), Decidable (GoodSt last s)]
variable [∀ (n : Int) (s : List Int), Decidable (OkL n s)]
variable [∀ (x y : T4), Decidable (Bef x y)]
variable [∀ (ts : List T4), Decidable (Asc ts)]
variable [∀ (ts : List T4), Decidable (AllOk ts)]
variable [∀ (ts : List T4), Decidable (POk ts)]

def pstB (n f id : Int) (p : PoT) : Bool := mokB n f p.2 && (decide (0 ≤ p.1 ∧ p.1 ≤ n - 1) && !(decide (p.1 = id)))
def hokB (n f id : Int) (ps : List PoT) : Bool := ps.all (pstB n f id)
def repB (n f : Int) (t : RpT) : Bool := decide (COk n f) && (decide (0 ≤ t.id ∧ t.id ≤ n - 1) && (decide (1 ≤ t.vw ∧ t.vw ≤ 60) && (decide (0 ≤ t.ak ∧ t.ak ≤ 60) && (sokB n f t.vo t.lo t.n t.s t.qw t.d && (decide (POk t.pool) && (tokB n f t.tab && (dokB t.dsk.length t.su && (decide (t.held.length ≤ 30) && hokB n f t.id t.held))))))))
theorem hok_no {n f id : Int} {ps : List PoT} {k : Nat} (hk : k < ps.length) (h : pstB n f id (ps.getD k zpost) = false) : hokB n f id ps = false := by
 unfold hokB
 rw [List.all_eq_false]
 exact ⟨ps.getD k zpost, by rw [List.getD_eq_getElem?_getD, List.getElem?_eq_getElem hk]; exact List.getElem_mem hk, by rw [h]; simp⟩
theorem hok_next {n f id : Int} {ps : List PoT} {k : Nat} (hk : k < ps.length) (h0 : hokB n f id (ps.take k) = true) (h : pstB n f id (ps.getD k zpost) = true) : hokB n f id (ps.take (k + 1)) = true := by
 unfold hokB at h0 ⊢
 rw [List.take_succ_eq_append_getElem hk, List.all_append, h0]
 have : ps.getD k zpost = ps[k]:=by simp [List.getElem?_eq_getElem hk]
 rw [← this]
 simp only [List.all_cons, List.all_nil, h, Bool.and_true]
theorem rangeAt_tail {w : World} {b o : Nat} {c : Value} {cs : List Value} (h : w.rangeAt b o (c :: cs)) : w.rangeAt b (o + 1) cs := fun j v hv => by
 have:=h (j + 1) v (by simpa using hv)
 rw [show o + 1 + j = o + (j + 1) by omega]; exact this
structure RS (t : RpT) : Prop where
 s : t.s.size ≤ 1048576
 d : t.d.size ≤ 1048576
 tb : ∀ p ∈ t.tab, p.2.1.size ≤ 1048576
 h : ∀ j, j < t.held.length → MS (t.held.getD j zpost).2
set_option maxHeartbeats 16000000 in
set_option maxRecDepth 100000 in
theorem specRepOk (n f : Int) (t : RpT) (ao bo co od oe : Option Addr) (ca cb cc cd ce : Nat) (w : World) (hm : RSm t) (hs : RS t) (h : RRep w t (.slice ao t.qw.length ca) (.slice bo t.pool.length cb) (.slice co t.tab.length cc) (.slice od t.dsk.length cd) (.slice oe t.held.length ce)) :
 Calls Tryz.prog 10 #[cv n f, rpv t (.slice ao t.qw.length ca) (.slice bo t.pool.length cb) (.slice co t.tab.length cc) (.slice od t.dsk.length cd) (.slice oe t.held.length ce)] w fun e w' => e = .returned (.bool (repB n f t)) ∧ Below w.heap.size w w' := by
 have IN : Hid (∀ (x lo hi : Int) (w : World), Calls Tryz.prog 39 #[.int .i64 x,.int .i64 lo,.int .i64 hi] w fun e w' => e = .returned (.bool (decide (lo ≤ x ∧ x ≤ hi))) ∧ Below w.heap.size w w'):=hide fun x lo hi w => (in_bool x lo hi w).mono (by rintro e w' ⟨h, rfl⟩; exact ⟨h, Below.refl _ _⟩)
 have CO:=hide fun w => specConfOk n f w
 have SO:=hide fun w h => specSafeOk n f t.vo t.lo t.n t.s ao ca t.qw t.d w hs.s hs.d h
 have PO:=hide fun w h => specPoolOk (.slice bo t.pool.length cb) t.pool w h
 have TO:=hide fun w h => specTableOk n f (.slice co t.tab.length cc) t.tab w (by have:=hm.tb; omega) hs.tb h
 have DO:=hide fun w => specDiskOk od t.dsk.length cd t.su w
 have MO:=hide fun j hj a b c ka kb kc w h1 h2 h3 => specMsgOk n f (t.held.getD j zpost).2 a b c ka kb kc w (hs.h j hj) h1 h2 h3
 have HR:=hide h
 have HCO : Hid (decide (COk n f) = true → IntKind.i64.wrap (n - 1) = n - 1):=hide fun h => by have:=of_decide_eq_true h; rw [IntKind.wrap_i64] <;> (unfold COk at this; omega)
 clear h hs
 have i1:=hide fun w => IN.out t.id 0 (n - 1) w
 have i2:=hide fun w => IN.out t.vw 1 60 w
 have i3:=hide fun w => IN.out t.ak 0 60 w
 have i4:=hide fun x w => IN.out x 0 (n - 1) w
 unfold repB
 have NX:=hide fun k (hk : k < t.held.length) (h0 : hokB n f t.id (t.held.take k) = true) (h : pstB n f t.id (t.held.getD k zpost) = true) => hok_next hk h0 h
 have NO:=hide fun k (hk : k < t.held.length) (h : pstB n f t.id (t.held.getD k zpost) = false) => hok_no hk h
 have FU : Hid (hokB n f t.id (t.held.take t.held.length) = true → hokB n f t.id t.held = true):=hide fun h => by rwa [List.take_of_length_le (Nat.le_refl _)] at h
 have hb5 : decide ((t.held.length : Int) > 30) = !decide (t.held.length ≤ 30):=by by_cases h : t.held.length ≤ 30 <;> simp [h] <;> omega
 generalize decide (COk n f) = b0 at *
 generalize decide (0 ≤ t.id ∧ t.id ≤ n - 1) = b1 at *
 generalize decide (1 ≤ t.vw ∧ t.vw ≤ 60) = b2 at *
 generalize decide (0 ≤ t.ak ∧ t.ak ≤ 60) = b3 at *
 generalize sokB n f t.vo t.lo t.n t.s t.qw t.d = b4 at *
 generalize decide (POk t.pool) = b5 at *
 generalize tokB n f t.tab = b6 at *
 generalize dokB t.dsk.length t.su = b7 at *
 generalize decide (t.held.length ≤ 30) = b8 at *
 obtain ⟨w0, hw0, Bw0, LC, A, zw0⟩:=bx2 w #[.int .i64 n,.int .i64 f] 39 #[.int .i64 t.id,.int .i64 t.vw,.int .i64 t.ak,.int .i64 t.vo,.int .i64 t.lo,.int .i64 t.n,.string t.s,.slice ao t.qw.length ca,.string t.d,.slice bo t.pool.length cb,.slice co t.tab.length cc,.slice od t.dsk.length cd,.int .i64 t.su,.slice oe t.held.length ce] 49
 go_enter Tryz.func10, Tryz.ntmps10
 have cLC0:=LC.cell 0 rfl
 have cLC1:=LC.cell 1 rfl
 go_wp2_with fail
 clear hw0
 refine (CO.out _).mono ?_
 rintro _ w1 ⟨rfl, bb⟩
 clear cLC0 cLC1
 have Bw1:=bu Bw0 bb
 have sw1:=bb.size
 replace LC:=LC.up bb
 replace A:=A.up bb
 clear Bw0
 clear bb
 cases b0
 ·have cA13:=A.cell 13 rfl
  go_wp2
  go_ret
  exact ⟨by simp, Bw1⟩
 ·have wn:=HCO.out rfl
  have cLC0:=LC.cell 0 rfl
  have cLC1:=LC.cell 1 rfl
  have cA0:=A.cell 0 rfl
  go_wp2_with fail
  refine (i1.out _).mono ?_
  rintro _ w2 ⟨rfl, bb⟩
  clear cLC0 cLC1 cA0
  have Bw2:=bu Bw1 bb
  have sw2:=bb.size
  replace LC:=LC.up bb
  replace A:=A.up bb
  clear Bw1
  clear bb
  cases b1
  ·have cA13:=A.cell 13 rfl
   go_wp2
   go_ret
   exact ⟨by simp, Bw2⟩
  ·have cLC0:=LC.cell 0 rfl
   have cA0:=A.cell 0 rfl
   have cA1:=A.cell 1 rfl
   go_wp2_with fail
   refine (i2.out _).mono ?_
   rintro _ w3 ⟨rfl, bb⟩
   clear cLC0 cA0 cA1
   have Bw3:=bu Bw2 bb
   have sw3:=bb.size
   replace LC:=LC.up bb
   replace A:=A.up bb
   clear Bw2
   clear bb
   cases b2
   ·have cA13:=A.cell 13 rfl
    go_wp2
    go_ret
    exact ⟨by simp, Bw3⟩
   ·have cLC0:=LC.cell 0 rfl
    have cA0:=A.cell 0 rfl
    have cA1:=A.cell 1 rfl
    have cA2:=A.cell 2 rfl
    go_wp2_with fail
    refine (i3.out _).mono ?_
    rintro _ w4 ⟨rfl, bb⟩
    clear cLC0 cA0 cA1 cA2
    have Bw4:=bu Bw3 bb
    have sw4:=bb.size
    replace LC:=LC.up bb
    replace A:=A.up bb
    clear Bw3
    clear bb
    cases b3
    ·have cA13:=A.cell 13 rfl
     go_wp2
     go_ret
     exact ⟨by simp, Bw4⟩
    ·have cLC0:=LC.cell 0 rfl
     have cLC1:=LC.cell 1 rfl
     have cA0:=A.cell 0 rfl
     have cA1:=A.cell 1 rfl
     have cA2:=A.cell 2 rfl
     go_wp2_with (first | (refine wloadM [.int .i64 t.vo, .int .i64 t.lo, .int .i64 t.n, .string t.s, .slice ao t.qw.length ca, .string t.d] (A.range 3 6 rfl) 43 _ rfl _ rfl rfl Tryz.underlying43 rfl (by kernel_rfl) ?_))
     refine (SO.out _ (HR.out.q.below Bw4)).mono ?_
     rintro _ w5 ⟨rfl, bb⟩
     clear cLC0 cLC1 cA0 cA1 cA2
     have Bw5:=bu Bw4 bb
     have sw5:=bb.size
     replace LC:=LC.up bb
     replace A:=A.up bb
     clear Bw4
     clear bb
     cases b4
     ·have cA13:=A.cell 13 rfl
      go_wp2
      go_ret
      exact ⟨by simp, Bw5⟩
     ·have cLC0:=LC.cell 0 rfl
      have cLC1:=LC.cell 1 rfl
      have cA9:=A.cell 9 rfl
      go_wp2_with fail
      refine (PO.out _ (HR.out.p.below Bw5)).mono ?_
      rintro _ w6 ⟨rfl, bb⟩
      clear cLC0 cLC1 cA9
      have Bw6:=bu Bw5 bb
      have sw6:=bb.size
      replace LC:=LC.up bb
      replace A:=A.up bb
      clear Bw5
      clear bb
      cases b5
      ·have cA13:=A.cell 13 rfl
       go_wp2
       go_ret
       exact ⟨by simp, Bw6⟩
      ·have cLC0:=LC.cell 0 rfl
       have cLC1:=LC.cell 1 rfl
       have cA10:=A.cell 10 rfl
       go_wp2_with fail
       refine (TO.out _ (HR.out.tb.below Bw6)).mono ?_
       rintro _ w7 ⟨rfl, bb⟩
       clear cLC0 cLC1 cA10
       have Bw7:=bu Bw6 bb
       have sw7:=bb.size
       replace LC:=LC.up bb
       replace A:=A.up bb
       clear Bw6
       clear bb
       cases b6
       ·have cA13:=A.cell 13 rfl
        go_wp2
        go_ret
        exact ⟨by simp, Bw7⟩
       ·have cLC0:=LC.cell 0 rfl
        have cLC1:=LC.cell 1 rfl
        have cA10:=A.cell 10 rfl
        go_wp2_with (first | (refine wloadM [.slice od t.dsk.length cd, .int .i64 t.su] (A.range 11 2 rfl) 46 _ rfl _ rfl rfl Tryz.underlying46 rfl (by kernel_rfl) ?_))
        refine (DO.out _).mono ?_
        rintro _ w8 ⟨rfl, bb⟩
        clear cLC0 cLC1 cA10
        have Bw8:=bu Bw7 bb
        have sw8:=bb.size
        replace LC:=LC.up bb
        replace A:=A.up bb
        clear Bw7
        clear bb
        cases b7
        ·have cA13:=A.cell 13 rfl
         go_wp2
         go_ret
         exact ⟨by simp, Bw8⟩
        ·have cA13:=A.cell 13 rfl
         cases b8
         ·clear cA13
          have cA13:=A.cell 13 rfl
          go_wp2
          go_ret
          exact ⟨by simp, Bw8⟩
         ·clear cA13
          have cA13:=A.cell 13 rfl
          have cLC0:=LC.cell 0 rfl
          have cLC1:=LC.cell 1 rfl
          have hlen : (t.held.length : Int) ≤ 1048577:=by have:=hm.h; omega
          go_wp2
          clear cA13 cLC0 cLC1
          go_loopw [5] (fun i wr => ∃ k : Nat, k ≤ t.held.length ∧ i = .int .i64 k ∧ Below w8.heap.size w8 wr ∧ hokB n f t.id (t.held.take k) = true) (fun i _ => t.held.length - (intOf i).toNat)
          case atStart => exact ⟨0, Nat.zero_le _, rfl, Below.refl _ _, rfl⟩
          case round =>
           obtain ⟨k, hk, rfl, br, ho⟩:=hrel
           have LCr:=LC.up br
           have Ar:=A.up br
           have BR:=bu Bw8 br
           have a13:=Ar.cell 13 rfl
           have lc0:=LCr.cell 0 rfl
           have lc1:=LCr.cell 1 rfl
           have a0:=Ar.cell 0 rfl
           by_cases hlt : k < t.held.length
           ·have hr:=HR.out.h.below BR
            obtain ⟨g, off, cs, rfl, _, c1, a, b, c, e, ra, rb, rc⟩:=RG.at hr k hlt
            subst e
            have PN : Hid (pstB n f t.id (t.held.getD k zpost) = false → hokB n f t.id t.held = false):=hide fun h => NO.out k hlt h
            have PY : Hid (pstB n f t.id (t.held.getD k zpost) = true → hokB n f t.id (t.held.take (k + 1)) = true):=hide fun h => NX.out k hlt ho h
            have MOk:=hide fun a b c ka kb kc w h1 h2 h3 => MO.out k hlt a b c ka kb kc w h1 h2 h3
            clear hr NO NX MO ho
            unfold pstB at PN PY
            generalize (t.held.getD k zpost).1 = m at *
            generalize (t.held.getD k zpost).2 = u at *
            have I4:=hide fun w => i4.out m w
            have hq3 : (m == t.id) = decide (m = t.id):=by by_cases h : m = t.id <;> simp [h]
            generalize mokB n f u = p1 at *
            generalize decide (0 ≤ m ∧ m ≤ n - 1) = p2 at *
            generalize hp3 : decide (m = t.id) = p3 at *
            clear i4 IN hp3
            have c0 : wr.cell? ⟨g, off + k * 18, none⟩ = some (.int .i64 m):=c1 0 _ rfl
            have c17:=rangeAt_tail c1
            clear c1
            have R1:=hide ra
            have R2:=hide rb
            have R3:=hide rc
            obtain ⟨oa, ka, rfl⟩:=ra.form
            obtain ⟨ob, kb, rfl⟩:=rb.form
            obtain ⟨oc, kc, rfl⟩:=rc.form
            clear ra rb rc
            have g0 : g < wr.heap.size:=cell_lt c0
            have K : Hid (∀ w', Below wr.heap.size wr w' → (fun w' => Below wr.heap.size wr w' ∧ w'.cell? ⟨w.heap.size, 0, none⟩ = some (.int .i64 n) ∧ w'.cell? ⟨w.heap.size, 1, none⟩ = some (.int .i64 f) ∧ w'.cell? ⟨w.heap.size + 1, 13, none⟩ = some (.slice (some ⟨g, off, none⟩) t.held.length ce) ∧ w'.cell? ⟨w.heap.size + 1, 0, none⟩ = some (.int .i64 t.id) ∧ w'.cell? ⟨g, off + k * 18, none⟩ = some (.int .i64 m) ∧ w'.rangeAt g (off + k * 18 + 1) [.int .i64 u.k, .int .i64 u.vw, .string u.bn, .int .i64 u.bv, .string u.bs, .slice oa u.bw.length ka, .int .i64 u.pv, .string u.ps, .slice ob u.pw.length kb, .int .i64 u.qv, .string u.qs, .slice oc u.qw.length kc, .int .i64 u.wh, .int .i64 u.fr, .int .i64 u.tu, .int .i64 u.am, .int .i64 u.no]) w'):=hide fun w' hb' => ⟨hb', (LCr.up hb').cell 0 rfl, (LCr.up hb').cell 1 rfl, (Ar.up hb').cell 13 rfl, (Ar.up hb').cell 0 rfl, (hb'.cell (p:=⟨g, off + k * 18, none⟩) g0).trans c0, rangeAt_below c17 hb' (rangeAt_lt c17 (by simp))⟩
            clear c17 c0 g0
            cases p1
            ·go_upto_region 6 with fail
             have bA : Below wr.heap.size wr wr.drew:=Below.drew (Below.refl _ _)
             refine wrn K bA (fun hHeld => ?_)
             refine' tj 0 69 rfl ?_ ?_;rotate_left
             ·intro w h;go_simp;try rfl
             simp only [pU]
             refine' tj 1 70 rfl ?_ ?_;rotate_left
             ·intro w h;go_simp;try rfl
             simp only [pU]
             refine' tj 3 72 rfl ?_ ?_;rotate_left
             ·intro w h;go_simp;try rfl
             simp only [pU]
             refine' tj 2 71 rfl ?_ ?_;rotate_left
             ·intro w h;go_simp;try rfl
             simp only [pU]
             refine' tj 4 73 rfl ?_ ?_;rotate_left
             ·intro w h;go_simp;try rfl
             simp only [pU]
             refine' tj 5 74 rfl ?_ ?_;rotate_left
             ·intro w h;go_simp;try rfl
             simp only [pU]
             refine take_at (i := 6) (d := 75) (v := .agg #[.int .i64 u.k,.int .i64 u.vw,.string u.bn,.int .i64 u.bv,.string u.bs,.slice oa u.bw.length ka,.int .i64 u.pv,.string u.ps,.slice ob u.pw.length kb,.int .i64 u.qv,.string u.qs,.slice oc u.qw.length kc,.int .i64 u.wh,.int .i64 u.fr,.int .i64 u.tu,.int .i64 u.am,.int .i64 u.no]) rfl rfl (by kernel_rfl) (by kernel_rfl) (by kernel_rfl) (fun _ _ _ h => h) ?_ (by assumption) ?_
             ·exact yields_mid rfl 86 _ rfl rfl [.int .i64 u.k, .int .i64 u.vw, .string u.bn, .int .i64 u.bv, .string u.bs, .slice oa u.bw.length ka, .int .i64 u.pv, .string u.ps, .slice ob u.pw.length kb, .int .i64 u.qv, .string u.qs, .slice oc u.qw.length kc, .int .i64 u.wh, .int .i64 u.fr, .int .i64 u.tu, .int .i64 u.am, .int .i64 u.no] _ (fun w h => h.2.2.2.2.2.2) Tryz.underlying86 rfl (by kernel_rfl)
             simp only [pU]
             refine rd 7 rfl (fun KK hKK => ?_)
             go_simp
             have hgo:=bA
             refine (MOk.out _ _ _ _ _ _ _ (R1.out.below bA) (R2.out.below bA) (R3.out.below bA)).mono ?_
             rintro e wz1 ⟨rfl, bb⟩
             have bz1 : Below wr.heap.size wr wz1:=bu bA bb
             clear bA hgo bb
             clear hHeld
             refine hKK.out _ _ (K.out _ bz1) (fun hHeld => ?_)
             clear hKK KK
             refine' tj 8 77 rfl ?_ ?_;rotate_left
             ·intro w h;go_simp;try rfl
             simp only [pU]
             refine' tj 9 78 rfl ?_ ?_;rotate_left
             ·intro w h;go_simp;try rfl
             simp only [pU]
             refine sk 10 79 rfl (h := ?_)
             simp only [pU]
             refine sk 12 81 rfl (h := ?_)
             simp only [pU]
             refine sk 16 85 rfl (h := ?_)
             simp only [pU]
             refine sk 11 80 rfl (h := ?_)
             simp only [pU]
             refine sk 17 86 rfl (h := ?_)
             simp only [pU]
             refine sk 13 82 rfl (h := ?_)
             simp only [pU]
             refine sk 18 87 rfl (h := ?_)
             simp only [pU]
             refine sk 14 83 rfl (h := ?_)
             simp only [pU]
             refine sk 15 84 rfl (h := ?_)
             simp only [pU]
             refine sk 19 88 rfl (h := ?_)
             simp only [pU]
             refine sk 20 89 rfl (h := ?_)
             simp only [pU]
             refine' tj 21 90 rfl ?_ ?_;rotate_left
             ·intro w h;go_simp;try rfl
             simp only [pU]
             refine' tj 22 91 rfl ?_ ?_;rotate_left
             ·intro w h;go_simp;try rfl
             simp only [pU]
             refine sk 23 92 rfl (h := ?_)
             simp only [pU]
             refine sk 25 94 rfl (h := ?_)
             simp only [pU]
             refine sk 29 98 rfl (h := ?_)
             simp only [pU]
             refine sk 24 93 rfl (h := ?_)
             simp only [pU]
             refine sk 30 99 rfl (h := ?_)
             simp only [pU]
             refine sk 26 95 rfl (h := ?_)
             simp only [pU]
             refine sk 27 96 rfl (h := ?_)
             simp only [pU]
             refine sk 28 97 rfl (h := ?_)
             simp only [pU]
             refine sk 31 100 rfl (h := ?_)
             simp only [pU]
             refine' tj 32 101 rfl ?_ ?_;rotate_left
             ·intro w h;go_simp;try rfl
             simp only [pU]
             clear hHeld
             refine wdn ?_
             have BZ:=bu BR bz1
             have FA:=PN.out (by simp)
             clear PN PY K
             go_wp2
             go_ret
             exact ⟨by rw [FA]; simp, BZ⟩
            ·cases p2
             ·go_upto_region 6 with fail
              have bA : Below wr.heap.size wr wr.drew:=Below.drew (Below.refl _ _)
              refine wrn K bA (fun hHeld => ?_)
              refine' tj 0 69 rfl ?_ ?_;rotate_left
              ·intro w h;go_simp;try rfl
              simp only [pU]
              refine' tj 1 70 rfl ?_ ?_;rotate_left
              ·intro w h;go_simp;try rfl
              simp only [pU]
              refine' tj 3 72 rfl ?_ ?_;rotate_left
              ·intro w h;go_simp;try rfl
              simp only [pU]
              refine' tj 2 71 rfl ?_ ?_;rotate_left
              ·intro w h;go_simp;try rfl
              simp only [pU]
              refine' tj 4 73 rfl ?_ ?_;rotate_left
              ·intro w h;go_simp;try rfl
              simp only [pU]
              refine' tj 5 74 rfl ?_ ?_;rotate_left
              ·intro w h;go_simp;try rfl
              simp only [pU]
              refine take_at (i := 6) (d := 75) (v := .agg #[.int .i64 u.k,.int .i64 u.vw,.string u.bn,.int .i64 u.bv,.string u.bs,.slice oa u.bw.length ka,.int .i64 u.pv,.string u.ps,.slice ob u.pw.length kb,.int .i64 u.qv,.string u.qs,.slice oc u.qw.length kc,.int .i64 u.wh,.int .i64 u.fr,.int .i64 u.tu,.int .i64 u.am,.int .i64 u.no]) rfl rfl (by kernel_rfl) (by kernel_rfl) (by kernel_rfl) (fun _ _ _ h => h) ?_ (by assumption) ?_
              ·exact yields_mid rfl 86 _ rfl rfl [.int .i64 u.k, .int .i64 u.vw, .string u.bn, .int .i64 u.bv, .string u.bs, .slice oa u.bw.length ka, .int .i64 u.pv, .string u.ps, .slice ob u.pw.length kb, .int .i64 u.qv, .string u.qs, .slice oc u.qw.length kc, .int .i64 u.wh, .int .i64 u.fr, .int .i64 u.tu, .int .i64 u.am, .int .i64 u.no] _ (fun w h => h.2.2.2.2.2.2) Tryz.underlying86 rfl (by kernel_rfl)
              simp only [pU]
              refine rd 7 rfl (fun KK hKK => ?_)
              go_simp
              have hgo:=bA
              refine (MOk.out _ _ _ _ _ _ _ (R1.out.below bA) (R2.out.below bA) (R3.out.below bA)).mono ?_
              rintro e wz1 ⟨rfl, bb⟩
              have bz1 : Below wr.heap.size wr wz1:=bu bA bb
              clear bA hgo bb
              clear hHeld
              refine hKK.out _ _ (K.out _ bz1) (fun hHeld => ?_)
              clear hKK KK
              refine' tj 8 77 rfl ?_ ?_;rotate_left
              ·intro w h;go_simp;try rfl
              simp only [pU]
              refine' tj 9 78 rfl ?_ ?_;rotate_left
              ·intro w h;go_simp;try rfl
              simp only [pU]
              refine' tj 10 79 rfl ?_ ?_;rotate_left
              ·intro w h;go_simp;try rfl
              simp only [pU]
              refine' tj 12 81 rfl ?_ ?_;rotate_left
              ·intro w h;go_simp;try rfl
              simp only [pU]
              refine' tj 16 85 rfl ?_ ?_;rotate_left
              ·intro w h;go_simp;try rfl
              simp only [pU]
              refine' tj 11 80 rfl ?_ ?_;rotate_left
              ·intro w h;go_simp;try rfl
              simp only [pU]
              refine' tj 17 86 rfl ?_ ?_;rotate_left
              ·intro w h;go_simp;try rfl
              simp only [pU]
              refine' tj 13 82 rfl ?_ ?_;rotate_left
              ·intro w h;go_simp;try rfl
              simp only [pU]
              refine' tj 18 87 rfl ?_ ?_;rotate_left
              ·intro w h;go_simp;try rfl
              simp only [pU]
              refine' tj 14 83 rfl ?_ ?_;rotate_left
              ·intro w h;go_simp;try rfl
              simp only [pU]
              refine' tj 15 84 rfl ?_ ?_;rotate_left
              ·intro w h;go_simp;try rfl
              simp only [pU]
              refine rd 19 rfl (fun KK hKK => ?_)
              go_simp
              have hgo:=bz1
              refine (I4.out _).mono ?_
              rintro e wz2 ⟨rfl, bb⟩
              have bz2 : Below wr.heap.size wr wz2:=bu bz1 bb
              clear bz1 hgo bb
              clear hHeld
              refine hKK.out _ _ (K.out _ bz2) (fun hHeld => ?_)
              clear hKK KK
              refine' tj 20 89 rfl ?_ ?_;rotate_left
              ·intro w h;go_simp;try rfl
              simp only [pU]
              refine' tj 21 90 rfl ?_ ?_;rotate_left
              ·intro w h;go_simp;try rfl
              simp only [pU]
              refine' tj 22 91 rfl ?_ ?_;rotate_left
              ·intro w h;go_simp;try rfl
              simp only [pU]
              refine sk 23 92 rfl (h := ?_)
              simp only [pU]
              refine sk 25 94 rfl (h := ?_)
              simp only [pU]
              refine sk 29 98 rfl (h := ?_)
              simp only [pU]
              refine sk 24 93 rfl (h := ?_)
              simp only [pU]
              refine sk 30 99 rfl (h := ?_)
              simp only [pU]
              refine sk 26 95 rfl (h := ?_)
              simp only [pU]
              refine sk 27 96 rfl (h := ?_)
              simp only [pU]
              refine sk 28 97 rfl (h := ?_)
              simp only [pU]
              refine sk 31 100 rfl (h := ?_)
              simp only [pU]
              refine' tj 32 101 rfl ?_ ?_;rotate_left
              ·intro w h;go_simp;try rfl
              simp only [pU]
              clear hHeld
              refine wdn ?_
              have BZ:=bu BR bz2
              have FA:=PN.out (by simp)
              clear PN PY K
              go_wp2
              go_ret
              exact ⟨by rw [FA]; simp, BZ⟩
             ·cases p3
              ·go_upto_region 6 with fail
               have bA : Below wr.heap.size wr wr.drew:=Below.drew (Below.refl _ _)
               refine wrn K bA (fun hHeld => ?_)
               refine' tj 0 69 rfl ?_ ?_;rotate_left
               ·intro w h;go_simp;try rfl
               simp only [pU]
               refine' tj 1 70 rfl ?_ ?_;rotate_left
               ·intro w h;go_simp;try rfl
               simp only [pU]
               refine' tj 3 72 rfl ?_ ?_;rotate_left
               ·intro w h;go_simp;try rfl
               simp only [pU]
               refine' tj 2 71 rfl ?_ ?_;rotate_left
               ·intro w h;go_simp;try rfl
               simp only [pU]
               refine' tj 4 73 rfl ?_ ?_;rotate_left
               ·intro w h;go_simp;try rfl
               simp only [pU]
               refine' tj 5 74 rfl ?_ ?_;rotate_left
               ·intro w h;go_simp;try rfl
               simp only [pU]
               refine take_at (i := 6) (d := 75) (v := .agg #[.int .i64 u.k,.int .i64 u.vw,.string u.bn,.int .i64 u.bv,.string u.bs,.slice oa u.bw.length ka,.int .i64 u.pv,.string u.ps,.slice ob u.pw.length kb,.int .i64 u.qv,.string u.qs,.slice oc u.qw.length kc,.int .i64 u.wh,.int .i64 u.fr,.int .i64 u.tu,.int .i64 u.am,.int .i64 u.no]) rfl rfl (by kernel_rfl) (by kernel_rfl) (by kernel_rfl) (fun _ _ _ h => h) ?_ (by assumption) ?_
               ·exact yields_mid rfl 86 _ rfl rfl [.int .i64 u.k, .int .i64 u.vw, .string u.bn, .int .i64 u.bv, .string u.bs, .slice oa u.bw.length ka, .int .i64 u.pv, .string u.ps, .slice ob u.pw.length kb, .int .i64 u.qv, .string u.qs, .slice oc u.qw.length kc, .int .i64 u.wh, .int .i64 u.fr, .int .i64 u.tu, .int .i64 u.am, .int .i64 u.no] _ (fun w h => h.2.2.2.2.2.2) Tryz.underlying86 rfl (by kernel_rfl)
               simp only [pU]
               refine rd 7 rfl (fun KK hKK => ?_)
               go_simp
               have hgo:=bA
               refine (MOk.out _ _ _ _ _ _ _ (R1.out.below bA) (R2.out.below bA) (R3.out.below bA)).mono ?_
               rintro e wz1 ⟨rfl, bb⟩
               have bz1 : Below wr.heap.size wr wz1:=bu bA bb
               clear bA hgo bb
               clear hHeld
               refine hKK.out _ _ (K.out _ bz1) (fun hHeld => ?_)
               clear hKK KK
               refine' tj 8 77 rfl ?_ ?_;rotate_left
               ·intro w h;go_simp;try rfl
               simp only [pU]
               refine' tj 9 78 rfl ?_ ?_;rotate_left
               ·intro w h;go_simp;try rfl
               simp only [pU]
               refine' tj 10 79 rfl ?_ ?_;rotate_left
               ·intro w h;go_simp;try rfl
               simp only [pU]
               refine' tj 12 81 rfl ?_ ?_;rotate_left
               ·intro w h;go_simp;try rfl
               simp only [pU]
               refine' tj 16 85 rfl ?_ ?_;rotate_left
               ·intro w h;go_simp;try rfl
               simp only [pU]
               refine' tj 11 80 rfl ?_ ?_;rotate_left
               ·intro w h;go_simp;try rfl
               simp only [pU]
               refine' tj 17 86 rfl ?_ ?_;rotate_left
               ·intro w h;go_simp;try rfl
               simp only [pU]
               refine' tj 13 82 rfl ?_ ?_;rotate_left
               ·intro w h;go_simp;try rfl
               simp only [pU]
               refine' tj 18 87 rfl ?_ ?_;rotate_left
               ·intro w h;go_simp;try rfl
               simp only [pU]
               refine' tj 14 83 rfl ?_ ?_;rotate_left
               ·intro w h;go_simp;try rfl
               simp only [pU]
               refine' tj 15 84 rfl ?_ ?_;rotate_left
               ·intro w h;go_simp;try rfl
               simp only [pU]
               refine rd 19 rfl (fun KK hKK => ?_)
               go_simp
               have hgo:=bz1
               refine (I4.out _).mono ?_
               rintro e wz2 ⟨rfl, bb⟩
               have bz2 : Below wr.heap.size wr wz2:=bu bz1 bb
               clear bz1 hgo bb
               clear hHeld
               refine hKK.out _ _ (K.out _ bz2) (fun hHeld => ?_)
               clear hKK KK
               refine' tj 20 89 rfl ?_ ?_;rotate_left
               ·intro w h;go_simp;try rfl
               simp only [pU]
               refine' tj 21 90 rfl ?_ ?_;rotate_left
               ·intro w h;go_simp;try rfl
               simp only [pU]
               refine' tj 22 91 rfl ?_ ?_;rotate_left
               ·intro w h;go_simp;try rfl
               simp only [pU]
               refine' tj 23 92 rfl ?_ ?_;rotate_left
               ·intro w h;go_simp;try rfl
               simp only [pU]
               refine' tj 25 94 rfl ?_ ?_;rotate_left
               ·intro w h;go_simp;try rfl
               simp only [pU]
               refine' tj 29 98 rfl ?_ ?_;rotate_left
               ·intro w h;go_simp;try rfl
               simp only [pU]
               refine' tj 24 93 rfl ?_ ?_;rotate_left
               ·intro w h;go_simp;try rfl
               simp only [pU]
               refine' tj 30 99 rfl ?_ ?_;rotate_left
               ·intro w h;go_simp;try rfl
               simp only [pU]
               refine' tj 26 95 rfl ?_ ?_;rotate_left
               ·intro w h;go_simp;try rfl
               simp only [pU]
               refine' tj 27 96 rfl ?_ ?_;rotate_left
               ·intro w h;go_simp;try rfl
               simp only [pU]
               refine' tj 28 97 rfl ?_ ?_;rotate_left
               ·intro w h;go_simp;try rfl
               simp only [pU]
               refine' tj 31 100 rfl ?_ ?_;rotate_left
               ·intro w h;go_simp;try rfl
               simp only [pU]
               refine' tj 32 101 rfl ?_ ?_;rotate_left
               ·intro w h;go_simp;try rfl
               simp only [pU]
               clear hHeld
               refine wdn ?_
               have BZ:=bu br bz2
               have TR:=PY.out (by simp)
               clear PN PY K
               go_wp2
               go_roundw
               case rel => exact ⟨k + 1, by omega, by go_num, BZ, TR⟩
               case measure => simp [intOf]; omega
              ·go_upto_region 6 with fail
               have bA : Below wr.heap.size wr wr.drew:=Below.drew (Below.refl _ _)
               refine wrn K bA (fun hHeld => ?_)
               refine' tj 0 69 rfl ?_ ?_;rotate_left
               ·intro w h;go_simp;try rfl
               simp only [pU]
               refine' tj 1 70 rfl ?_ ?_;rotate_left
               ·intro w h;go_simp;try rfl
               simp only [pU]
               refine' tj 3 72 rfl ?_ ?_;rotate_left
               ·intro w h;go_simp;try rfl
               simp only [pU]
               refine' tj 2 71 rfl ?_ ?_;rotate_left
               ·intro w h;go_simp;try rfl
               simp only [pU]
               refine' tj 4 73 rfl ?_ ?_;rotate_left
               ·intro w h;go_simp;try rfl
               simp only [pU]
               refine' tj 5 74 rfl ?_ ?_;rotate_left
               ·intro w h;go_simp;try rfl
               simp only [pU]
               refine take_at (i := 6) (d := 75) (v := .agg #[.int .i64 u.k,.int .i64 u.vw,.string u.bn,.int .i64 u.bv,.string u.bs,.slice oa u.bw.length ka,.int .i64 u.pv,.string u.ps,.slice ob u.pw.length kb,.int .i64 u.qv,.string u.qs,.slice oc u.qw.length kc,.int .i64 u.wh,.int .i64 u.fr,.int .i64 u.tu,.int .i64 u.am,.int .i64 u.no]) rfl rfl (by kernel_rfl) (by kernel_rfl) (by kernel_rfl) (fun _ _ _ h => h) ?_ (by assumption) ?_
               ·exact yields_mid rfl 86 _ rfl rfl [.int .i64 u.k, .int .i64 u.vw, .string u.bn, .int .i64 u.bv, .string u.bs, .slice oa u.bw.length ka, .int .i64 u.pv, .string u.ps, .slice ob u.pw.length kb, .int .i64 u.qv, .string u.qs, .slice oc u.qw.length kc, .int .i64 u.wh, .int .i64 u.fr, .int .i64 u.tu, .int .i64 u.am, .int .i64 u.no] _ (fun w h => h.2.2.2.2.2.2) Tryz.underlying86 rfl (by kernel_rfl)
               simp only [pU]
               refine rd 7 rfl (fun KK hKK => ?_)
               go_simp
               have hgo:=bA
               refine (MOk.out _ _ _ _ _ _ _ (R1.out.below bA) (R2.out.below bA) (R3.out.below bA)).mono ?_
               rintro e wz1 ⟨rfl, bb⟩
               have bz1 : Below wr.heap.size wr wz1:=bu bA bb
               clear bA hgo bb
               clear hHeld
               refine hKK.out _ _ (K.out _ bz1) (fun hHeld => ?_)
               clear hKK KK
               refine' tj 8 77 rfl ?_ ?_;rotate_left
               ·intro w h;go_simp;try rfl
               simp only [pU]
               refine' tj 9 78 rfl ?_ ?_;rotate_left
               ·intro w h;go_simp;try rfl
               simp only [pU]
               refine' tj 10 79 rfl ?_ ?_;rotate_left
               ·intro w h;go_simp;try rfl
               simp only [pU]
               refine' tj 12 81 rfl ?_ ?_;rotate_left
               ·intro w h;go_simp;try rfl
               simp only [pU]
               refine' tj 16 85 rfl ?_ ?_;rotate_left
               ·intro w h;go_simp;try rfl
               simp only [pU]
               refine' tj 11 80 rfl ?_ ?_;rotate_left
               ·intro w h;go_simp;try rfl
               simp only [pU]
               refine' tj 17 86 rfl ?_ ?_;rotate_left
               ·intro w h;go_simp;try rfl
               simp only [pU]
               refine' tj 13 82 rfl ?_ ?_;rotate_left
               ·intro w h;go_simp;try rfl
               simp only [pU]
               refine' tj 18 87 rfl ?_ ?_;rotate_left
               ·intro w h;go_simp;try rfl
               simp only [pU]
               refine' tj 14 83 rfl ?_ ?_;rotate_left
               ·intro w h;go_simp;try rfl
               simp only [pU]
               refine' tj 15 84 rfl ?_ ?_;rotate_left
               ·intro w h;go_simp;try rfl
               simp only [pU]
               refine rd 19 rfl (fun KK hKK => ?_)
               go_simp
               have hgo:=bz1
               refine (I4.out _).mono ?_
               rintro e wz2 ⟨rfl, bb⟩
               have bz2 : Below wr.heap.size wr wz2:=bu bz1 bb
               clear bz1 hgo bb
               clear hHeld
               refine hKK.out _ _ (K.out _ bz2) (fun hHeld => ?_)
               clear hKK KK
               refine' tj 20 89 rfl ?_ ?_;rotate_left
               ·intro w h;go_simp;try rfl
               simp only [pU]
               refine' tj 21 90 rfl ?_ ?_;rotate_left
               ·intro w h;go_simp;try rfl
               simp only [pU]
               refine' tj 22 91 rfl ?_ ?_;rotate_left
               ·intro w h;go_simp;try rfl
               simp only [pU]
               refine' tj 23 92 rfl ?_ ?_;rotate_left
               ·intro w h;go_simp;try rfl
               simp only [pU]
               refine' tj 25 94 rfl ?_ ?_;rotate_left
               ·intro w h;go_simp;try rfl
               simp only [pU]
               refine' tj 29 98 rfl ?_ ?_;rotate_left
               ·intro w h;go_simp;try rfl
               simp only [pU]
               refine' tj 24 93 rfl ?_ ?_;rotate_left
               ·intro w h;go_simp;try rfl
               simp only [pU]
               refine' tj 30 99 rfl ?_ ?_;rotate_left
               ·intro w h;go_simp;try rfl
               simp only [pU]
               refine' tj 26 95 rfl ?_ ?_;rotate_left
               ·intro w h;go_simp;try rfl
               simp only [pU]
               refine' tj 27 96 rfl ?_ ?_;rotate_left
               ·intro w h;go_simp;try rfl
               simp only [pU]
               refine' tj 28 97 rfl ?_ ?_;rotate_left
               ·intro w h;go_simp;try rfl
               simp only [pU]
               refine' tj 31 100 rfl ?_ ?_;rotate_left
               ·intro w h;go_simp;try rfl
               simp only [pU]
               refine' tj 32 101 rfl ?_ ?_;rotate_left
               ·intro w h;go_simp;try rfl
               simp only [pU]
               clear hHeld
               refine wdn ?_
               have BZ:=bu BR bz2
               have FA:=PN.out (by simp)
               clear PN PY K
               go_wp2
               go_ret
               exact ⟨by rw [FA]; simp, BZ⟩
           ·have hkn : k = t.held.length:=by omega
            rw [hkn] at ho
            have FA:=FU.out ho
            subst hkn
            clear NO NX MO FU ho
            go_wp2
            go_ret
            exact ⟨by rw [FA]; simp, BR⟩

theorem rep_came {W : World} {t : RpT} {ao bo co od oe : Option Addr} {ca cc cd ce : Nat} {rs : List Pr} (ht : t.tab = rs.map prp) (g : (t.s.size : Int) + t.qw.length + t.d.size + t.pool.length + rs.length + psum rs + t.dsk.length + t.held.length + posum t.held ≤ 1048576) (aq : AIW W ao t.qw) (ap : AR W bo t.pool) (at_ : ATab W co rs) (he : ∀ r ∈ rs, AIW W r.2.2.1 r.2.2.2.2 ∧ WfL r.2.2.2.2) (ad : ABW W od cd t.dsk) (ah : RG (RPoA t.held) 18 W (.slice oe t.held.length ce) t.held.length) :
 RSm t ∧ RS t ∧ IRep W t (.slice ao t.qw.length ca) bo (.slice co t.tab.length cc) (.slice od t.dsk.length cd) (.slice oe t.held.length ce) := by
 obtain ⟨hsm, ⟨s1, s2⟩, h1, h2⟩:=rep_small ht g
 refine ⟨hsm, ⟨s1, s2, fun p hp => (h1 p hp).1, fun j hj => ?_⟩, ⟨aq.ri (by have := hsm.q; omega), ap, ?_, ad.rb (by omega), RPoA.rpo ah hsm.hh⟩⟩
 ·have:=h2 j hj; unfold msz at this; exact ⟨by omega, by omega, by omega, by omega⟩
 ·have h3 : ∀ r ∈ rs, r.2.2.2.2.length ≤ 4194304:=fun r hr => by have:=psum_each hr; omega
  have:=ATab.rpt (ca:=cc) at_ (fun r hr => (he r hr).1) h3
  rw [show rs.length = t.tab.length by rw [ht]; simp] at this
  rw [← ht] at this
  exact this
end Go.Proofs.YtndpjhiidmdlhaaGreatDoor
