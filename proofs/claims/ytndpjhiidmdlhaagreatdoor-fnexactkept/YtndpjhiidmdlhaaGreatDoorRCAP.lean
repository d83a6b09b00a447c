/- Texts that belong together: RepWalks, SafeOpen, DiskOpen, TxsOpenL, RepOpen, ShelfMarks, StepsPlain, GetPlain. -/
import Derived.Test.YtndpjhiidmdlhaaGreatDoorRCAO
import Derived.Test.YtndpjhiidmdlhaaGreatDoorRCAA
import Derived.Test.YtndpjhiidmdlhaaGreatDoorRCAE
import Derived.Test.YtndpjhiidmdlhaaGreatDoorRCAK
import Derived.Test.YtndpjhiidmdlhaaGreatDoorRCAC
import Derived.WalkKit
import Derived.ProofKit
import Derived.OpenShut
import Derived.ShutString
import Derived.ChangeOld
import Derived.Below
import Derived.Lib.SmallJoins
import Derived.Test.YtndpjhiidmdlhaaGreatDoorRCAN
import Derived.Deep.Slices
import Derived.Shelf.Strings.Builder1
import Derived.Shelf.Small.Wraps
import Derived.Shelf.Strconv.Atoi
import Derived.Shelf.Strconv.Itoa0
import Derived.Shelf.Strconv.Itoa1
import Derived.Shelf.LaysM
import Derived.Shelf.Strconv.Itoa2
import Derived.Shelf.Strconv.Itoa3
import Derived.Shelf.Strconv.AtoiErrFast
import Derived.Shelf.Strconv.ParseIntEmpty
import Derived.Shelf.Strconv.AtoiFail
import Derived.Shelf.Strconv.Clone
import Derived.Shelf.Strconv.SyntaxError
import Derived.Shelf.LaysC
import Derived.Shelf.Strconv.ToError
import Derived.Shelf.Strconv.Lower
import Derived.Shelf.Strconv.ParseUint10
import Derived.Shelf.Strconv.ParseUint10Empty
import Derived.Shelf.Strconv.ParseUint10Any
import Derived.Shelf.Strconv.ParseInt10
import Derived.Shelf.Strconv.AtoiLong
import Derived.Shelf.Strconv.AtoiInnerAll
import Derived.Shelf.Strconv.RangeError
import Derived.Shelf.Strconv.ToErrorRange
import Derived.Shelf.Strconv.AtoiAll
import Derived.Shelf.Strconv.ErrVarAll
import Derived.Shelf.Strings.Search1
import Derived.Shelf.Strings.Search2
import Derived.Shelf.Strings.Search3
import Derived.Shelf.Strings.Cut
import Derived.Shelf.Strings.Shaped
import Derived.Shelf.Strings.LastIndex
import Derived.Shelf.Strings.Prefix
import Derived.Ground.Names2Prog
import Derived.Shelf.Slices.SearchI
import Derived.Test.YtndpjhiidmdlhaaGreatDoorProg
import Derived.Laws.BitsAllLaws
set_option maxRecDepth 100000
set_option maxHeartbeats 16000000
namespace Go.Proofs.YtndpjhiidmdlhaaGreatDoor
open Go.RowKit
set_option linter.unusedSectionVars false
variable [∀ (a b c d : Int), Decidable (Ok4 a b c d)]
variable [∀ (n f : Int), Decidable (COk n f)]
variable [∀ (a b c d : Nat), Decidable (okN a b c d)]
variable [∀ (x : T4), Decidable (OkT x)]

theorem rep_small {t : RpT} {rs : List Pr} (ht : t.tab = rs.map prp) (g : (t.s.size : Int) + t.qw.length + t.d.size + t.pool.length + rs.length + psum rs + t.dsk.length + t.held.length + posum t.held ≤ 1048576) : RSm t ∧ (t.s.size ≤ 1048576 ∧ t.d.size ≤ 1048576) ∧ (∀ p ∈ t.tab, p.2.1.size ≤ 1048576 ∧ p.2.2.length ≤ 1048576) ∧ ∀ j, j < t.held.length → msz (t.held.getD j zpost).2 ≤ 1048576 := by
 have hl : t.tab.length = rs.length:=by rw [ht]; simp
 have h1 : ∀ p ∈ t.tab, p.2.1.size ≤ 1048576 ∧ p.2.2.length ≤ 1048576:=fun p hp => by
  have:=prp_mem (p:=p) (by rw [← ht]; exact hp); omega
 have h2 : ∀ j, j < t.held.length → msz (t.held.getD j zpost).2 ≤ 1048576:=fun j hj => by
  have:=posum_each (rs:=t.held) (r:=t.held.getD j zpost) (by rw [List.getD_eq_getElem?_getD, List.getElem?_eq_getElem hj]; exact List.getElem_mem hj)
  omega
 exact ⟨⟨by omega, by omega, by omega, by omega, by omega, fun p hp => by have := h1 p hp; omega, fun j hj => by have := h2 j hj; unfold msz at this; omega⟩, ⟨by omega, by omega⟩, h1, h2⟩
theorem fnKept_short (E : World → Prop) (hE : ∀ w w', E w → Below w.heap.size w w' → E w') (n f : Int) (t : RpT) (ao bo co od oe : Option Addr) (ca cb cc cd ce : Nat) (rs : List Pr) (w : World) (q : Bool) (ht : t.tab = rs.map prp) (g : (t.s.size : Int) + t.qw.length + t.d.size + t.pool.length + rs.length + psum rs + t.dsk.length + t.held.length + posum t.held ≤ 1048576) (hc : ATab w co rs) (hh : RPoL w (.slice oe t.held.length ce) t.held) (hsm : RSm t) (hI : IRep w t (.slice ao t.qw.length ca) bo (.slice co t.tab.length cc) (.slice od t.dsk.length cd) (.slice oe t.held.length ce)) (he : E w) (SP0 : (∀ (ao bo co od oe : Option Addr) (ca cb cc cd ce : Nat) (w : World), RRep w t (.slice ao t.qw.length ca) (.slice bo t.pool.length cb) (.slice co t.tab.length cc) (.slice od t.dsk.length cd) (.slice oe t.held.length ce) → Calls Tryz.prog 19 #[cv n f, rpv t (.slice ao t.qw.length ca) (.slice bo t.pool.length cb) (.slice co t.tab.length cc) (.slice od t.dsk.length cd) (.slice oe t.held.length ce)] w fun e w' => e = .returned (.bool q) ∧ Below w.heap.size w w')) (IM0 : (∀ (ao bo co od oe : Option Addr) (ca cb cc cd ce : Nat) (w : World), E w → RRep w t (.slice ao t.qw.length ca) (.slice bo t.pool.length cb) (.slice co t.tab.length cc) (.slice od t.dsk.length cd) (.slice oe t.held.length ce) → Calls Tryz.prog 20 #[cv n f, rpv t (.slice ao t.qw.length ca) (.slice bo t.pool.length cb) (.slice co t.tab.length cc) (.slice od t.dsk.length cd) (.slice oe t.held.length ce)] w fun e w' => e = .returned (.bool q) ∧ Below w.heap.size w w')) :
 Calls Tryz.prog 5 #[cv n f, rpv t (.slice ao t.qw.length ca) (.slice bo t.pool.length cb) (.slice co t.tab.length cc) (.slice od t.dsk.length cd) (.slice oe t.held.length ce)] w fun e w' => e = .returned (.bool true) ∧ Below w.heap.size w w' := by
 have HI:=hide hI
 have HE:=hide he
 have hrl : rs.length = t.tab.length:=by rw [ht]; simp
 have ZA:=hide fun w (h : ATab w co rs) (h' : RPoL w (.slice oe t.held.length ce) t.held) => szRep_yes t ao bo co od oe ca cb cc cd ce rs 1048576 w h h' (by omega) g
 rw [hrl] at ZA
 have TA:=hide fun w h => toRep_any t (.slice ao t.qw.length ca) bo cb (.slice co t.tab.length cc) (.slice od t.dsk.length cd) (.slice oe t.held.length ce) w hsm h
 have TC:=hide fun w => toConf_any n f w
 have hz : ∃ z : Int, (1048576 : Int) - ((t.s.size : Int) + t.qw.length + t.d.size + t.pool.length + t.tab.length + psum rs + t.dsk.length + t.held.length + posum t.held) = z ∧ 0 ≤ z:=⟨_, rfl, by omega⟩
 obtain ⟨z, hz, hz0⟩:=hz
 rw [hz] at ZA
 have d1 : decide (z < 0) = false:=by simp; omega
 have SP:=hide SP0
 have IM:=hide IM0
 have EB:=hide hE
 have SM:=hide hsm
 have EQ:=hide fun a b c d e a' b' c' d' e' w h h' => eqRep_yes t a b c d e a' b' c' d' e' w hsm h h'
 have HC:=hide hc
 have HH:=hide hh
 have hq : (q != q) = false:=by simp
 clear hI he SP0 IM0 hE hsm hc hh hz hz0 g hrl ht
 obtain ⟨w0, hw0, Bw0, LC, LA, zw0⟩:=bx2 w #[.int .i64 n,.int .i64 f] 23 #[.int .i64 t.id,.int .i64 t.vw,.int .i64 t.ak,.int .i64 t.vo,.int .i64 t.lo,.int .i64 t.n,.string t.s,.slice ao t.qw.length ca,.string t.d,.slice bo t.pool.length cb,.slice co t.tab.length cc,.slice od t.dsk.length cd,.int .i64 t.su,.slice oe t.held.length ce] 36
 go_enter Tryz.func5, Tryz.ntmps5
 go_wp2_with (first | (refine wload LA 36 _ rfl _ rfl rfl Tryz.underlying36 rfl (by kernel_rfl) ?_))
 clear hw0
 refine (ZA.out _ (HC.out.below Bw0) (HH.out.below Bw0)).mono ?_
 rintro _ w1 ⟨rfl, bb⟩
 have Bw1:=bu Bw0 bb
 have sw1:=bb.size
 replace LC:=LC.up bb
 replace LA:=LA.up bb
 clear Bw0
 clear bb
 clear ZA HC HH
 have K : Hid (∀ w', Below w1.heap.size w1 w' → (fun w' => Below w1.heap.size w1 w' ∧ (w'.cell? ⟨w.heap.size, 0, none⟩ = some (.int .i64 n) ∧ w'.cell? ⟨w.heap.size, 1, none⟩ = some (.int .i64 f)) ∧ Loc w' (w.heap.size + 1) #[.int .i64 t.id,.int .i64 t.vw,.int .i64 t.ak,.int .i64 t.vo,.int .i64 t.lo,.int .i64 t.n,.string t.s,.slice ao t.qw.length ca,.string t.d,.slice bo t.pool.length cb,.slice co t.tab.length cc,.slice od t.dsk.length cd,.int .i64 t.su,.slice oe t.held.length ce]) w'):=hide fun w' hb' => ⟨hb', ⟨(LC.up hb').cell 0 rfl, (LC.up hb').cell 1 rfl⟩, LA.up hb'⟩
 go_upto_region 5 with fail
 have bA : Below w1.heap.size w1 w1.drew:=Below.drew (Below.refl _ _)
 refine wrn K bA (fun hHeld => ?_)
 refine' tj 0 14 rfl ?_ ?_;rotate_left
 ·intro w h;go_simp;try rfl
 simp only [pU]
 refine take_at (i := 2) (d := 16) (v := .agg #[.int .i64 t.id,.int .i64 t.vw,.int .i64 t.ak,.int .i64 t.vo,.int .i64 t.lo,.int .i64 t.n,.string t.s,.slice ao t.qw.length ca,.string t.d,.slice bo t.pool.length cb,.slice co t.tab.length cc,.slice od t.dsk.length cd,.int .i64 t.su,.slice oe t.held.length ce]) rfl rfl (by kernel_rfl) (by kernel_rfl) (by kernel_rfl) (fun _ _ _ h => h) ?_ (by assumption) ?_
 ·exact yields_row rfl 36 _ rfl rfl _ (fun w h => h.2.2) Tryz.underlying36 rfl (by kernel_rfl)
 simp only [pU]
 refine rd 1 rfl (fun KK hKK => ?_)
 go_simp
 have hgo:=bA
 refine (TC.out _).mono ?_
 rintro e wz5_1 ⟨rfl, bb⟩
 have bz1 : Below w1.heap.size w1 wz5_1:=bu bA bb
 clear bA hgo bb
 clear hHeld
 refine hKK.out _ _ (K.out _ bz1) (fun hHeld => ?_)
 clear hKK KK
 refine rd 3 rfl (fun KK hKK => ?_)
 go_simp
 have hgo:=bz1
 refine (TA.out _ (HI.out.below (bu Bw1 hgo))).mono ?_
 rintro e wz5_2 ⟨u1, u2, u3, u4, u5, rfl, m1, bb⟩
 have bz2 : Below w1.heap.size w1 wz5_2:=bu bz1 bb
 have R1:=hide (m1.rrep SM.out)
 obtain ⟨a1, k1, b1, l1, c1, n1, d1_, p1, e1, q1, rfl, rfl, rfl, rfl, rfl⟩:=m1.form
 clear m1
 clear bz1 hgo bb
 clear hHeld
 refine hKK.out _ _ (K.out _ bz2) (fun hHeld => ?_)
 clear hKK KK
 refine rd 4 rfl (fun KK hKK => ?_)
 go_simp
 have hgo:=bz2
 refine (SP.out _ _ _ _ _ _ _ _ _ _ _ R1.out).mono ?_
 rintro e wz5_3 ⟨rfl, bb⟩
 have bz3 : Below w1.heap.size w1 wz5_3:=bu bz2 bb
 clear R1
 clear bz2 hgo bb
 clear hHeld
 refine hKK.out _ _ (K.out _ bz3) (fun hHeld => ?_)
 clear hKK KK
 refine' tj 5 6 rfl ?_ ?_;rotate_left
 ·intro w h;go_simp;try rfl
 simp only [pU]
 clear hHeld
 refine wdn ?_
 have bb:=bz3
 have Bwz5_3:=bu Bw1 bb
 have swz5_3:=bb.size
 replace LC:=LC.up bb
 replace LA:=LA.up bb
 clear Bw1
 clear bb bz3 K
 clear SP
 go_wp2_with (first | (refine wload LA 36 _ rfl _ rfl rfl Tryz.underlying36 rfl (by kernel_rfl) ?_))
 refine (TA.out _ (HI.out.below Bwz5_3)).mono ?_
 rintro _ w2 ⟨u1, u2, u3, u4, u5, rfl, mX, bb⟩
 have Bw2:=bu Bwz5_3 bb
 have sw2:=bb.size
 replace LC:=LC.up bb
 replace LA:=LA.up bb
 clear Bwz5_3
 clear bb
 obtain ⟨aX, kX, bX, lX, cX, nX, dX, pX, eX, qX, rfl, rfl, rfl, rfl, rfl⟩:=mX.form
 go_upto_region 7 with (refine wstore (loc_at w2 #[.int .i64 0,.int .i64 0,.int .i64 0,.int .i64 0,.int .i64 0,.int .i64 0,.string ⟨#[]⟩,.slice none 0 0,.string ⟨#[]⟩,.slice none 0 0,.slice none 0 0,.slice none 0 0,.int .i64 0,.slice none 0 0] 49 rfl) 49 #[.int .i64 t.id,.int .i64 t.vw,.int .i64 t.ak,.int .i64 t.vo,.int .i64 t.lo,.int .i64 t.n,.string t.s,.slice aX t.qw.length kX,.string t.d,.slice bX t.pool.length lX,.slice cX t.tab.length nX,.slice dX t.dsk.length pX,.int .i64 t.su,.slice eX t.held.length qX] rfl _ _ rfl rfl rfl (by kernel_rfl) rfl (by simp [Value.oneCell']) ?_)
 obtain ⟨w3, hw3⟩ : ∃ y, (w2.alloc (.cells #[.int .i64 0,.int .i64 0,.int .i64 0,.int .i64 0,.int .i64 0,.int .i64 0,.string ⟨#[]⟩,.slice none 0 0,.string ⟨#[]⟩,.slice none 0 0,.slice none 0 0,.slice none 0 0,.int .i64 0,.slice none 0 0] 49)).setRow w2.heap.size #[.int .i64 t.id,.int .i64 t.vw,.int .i64 t.ak,.int .i64 t.vo,.int .i64 t.lo,.int .i64 t.n,.string t.s,.slice aX t.qw.length kX,.string t.d,.slice bX t.pool.length lX,.slice cX t.tab.length nX,.slice dX t.dsk.length pX,.int .i64 t.su,.slice eX t.held.length qX] = y:=⟨_, rfl⟩
 rw [hw3]
 have bb : Below w2.heap.size w2 w3:=hw3 ▸ box_below _ _ _ _
 have X : Loc w3 w2.heap.size #[.int .i64 t.id,.int .i64 t.vw,.int .i64 t.ak,.int .i64 t.vo,.int .i64 t.lo,.int .i64 t.n,.string t.s,.slice aX t.qw.length kX,.string t.d,.slice bX t.pool.length lX,.slice cX t.tab.length nX,.slice dX t.dsk.length pX,.int .i64 t.su,.slice eX t.held.length qX]:=hw3 ▸ box_loc _ _ _ _
 have zw3 : w3.heap.size = w2.heap.size + 1:=by rw [← hw3]; exact box_size _ _ _ _
 clear hw3
 have Bw3:=bu Bw2 bb
 have sw3:=bb.size
 replace LC:=LC.up bb
 replace LA:=LA.up bb
 replace mX:=mX.below bb
 clear Bw2
 clear bb
 have RX:=hide fun w' (hb' : Below w3.heap.size w3 w') => (mX.below hb').rrep SM.out
 have K : Hid (∀ w', Below w3.heap.size w3 w' → (fun w' => Below w3.heap.size w3 w' ∧ (w'.cell? ⟨w.heap.size, 0, none⟩ = some (.int .i64 n) ∧ w'.cell? ⟨w.heap.size, 1, none⟩ = some (.int .i64 f)) ∧ Loc w' (w2.heap.size) #[.int .i64 t.id,.int .i64 t.vw,.int .i64 t.ak,.int .i64 t.vo,.int .i64 t.lo,.int .i64 t.n,.string t.s,.slice aX t.qw.length kX,.string t.d,.slice bX t.pool.length lX,.slice cX t.tab.length nX,.slice dX t.dsk.length pX,.int .i64 t.su,.slice eX t.held.length qX]) w'):=hide fun w' hb' => ⟨hb', ⟨(LC.up hb').cell 0 rfl, (LC.up hb').cell 1 rfl⟩, X.up hb'⟩
 go_upto_region 7 with fail
 have bA : Below w3.heap.size w3 w3.drew:=Below.drew (Below.refl _ _)
 refine wrn K bA (fun hHeld => ?_)
 refine' tj 0 21 rfl ?_ ?_;rotate_left
 ·intro w h;go_simp;try rfl
 simp only [pU]
 refine take_at (i := 2) (d := 23) (v := .agg #[.int .i64 t.id,.int .i64 t.vw,.int .i64 t.ak,.int .i64 t.vo,.int .i64 t.lo,.int .i64 t.n,.string t.s,.slice aX t.qw.length kX,.string t.d,.slice bX t.pool.length lX,.slice cX t.tab.length nX,.slice dX t.dsk.length pX,.int .i64 t.su,.slice eX t.held.length qX]) rfl rfl (by kernel_rfl) (by kernel_rfl) (by kernel_rfl) (fun _ _ _ h => h) ?_ (by assumption) ?_
 ·exact yields_row rfl 49 _ rfl rfl _ (fun w h => h.2.2) Tryz.underlying49 rfl (by kernel_rfl)
 simp only [pU]
 refine rd 1 rfl (fun KK hKK => ?_)
 go_simp
 have hgo:=bA
 refine (TC.out _).mono ?_
 rintro e wz7_1 ⟨rfl, bb⟩
 have bz1 : Below w3.heap.size w3 wz7_1:=bu bA bb
 have R2:=hide (RX.out _ bz1)
 clear bA hgo bb
 clear hHeld
 refine hKK.out _ _ (K.out _ bz1) (fun hHeld => ?_)
 clear hKK KK
 refine rd 3 rfl (fun KK hKK => ?_)
 go_simp
 have hgo:=bz1
 refine (IM.out _ _ _ _ _ _ _ _ _ _ _ (EB.out _ _ HE.out (bu Bw3 hgo)) R2.out).mono ?_
 rintro e wz7_2 ⟨rfl, bb⟩
 have bz2 : Below w3.heap.size w3 wz7_2:=bu bz1 bb
 clear R2 RX
 clear bz1 hgo bb
 clear hHeld
 refine hKK.out _ _ (K.out _ bz2) (fun hHeld => ?_)
 clear hKK KK
 refine' tj 4 8 rfl ?_ ?_;rotate_left
 ·intro w h;go_simp;try rfl
 simp only [pU]
 clear hHeld
 refine wdn ?_
 have bb:=bz2
 have Bwz7_2:=bu Bw3 bb
 have swz7_2:=bb.size
 replace LC:=LC.up bb
 replace LA:=LA.up bb
 replace X:=X.up bb
 replace mX:=mX.below bb
 clear Bw3
 clear bb bz2 K
 clear IM
 have RX:=hide fun w' (hb' : Below wz7_2.heap.size wz7_2 w') => (mX.below hb').rrep SM.out
 have K : Hid (∀ w', Below wz7_2.heap.size wz7_2 w' → (fun w' => Below wz7_2.heap.size wz7_2 w' ∧ Loc w' (w.heap.size + 1) #[.int .i64 t.id,.int .i64 t.vw,.int .i64 t.ak,.int .i64 t.vo,.int .i64 t.lo,.int .i64 t.n,.string t.s,.slice ao t.qw.length ca,.string t.d,.slice bo t.pool.length cb,.slice co t.tab.length cc,.slice od t.dsk.length cd,.int .i64 t.su,.slice oe t.held.length ce] ∧ Loc w' (w2.heap.size) #[.int .i64 t.id,.int .i64 t.vw,.int .i64 t.ak,.int .i64 t.vo,.int .i64 t.lo,.int .i64 t.n,.string t.s,.slice aX t.qw.length kX,.string t.d,.slice bX t.pool.length lX,.slice cX t.tab.length nX,.slice dX t.dsk.length pX,.int .i64 t.su,.slice eX t.held.length qX]) w'):=hide fun w' hb' => ⟨hb', LA.up hb', X.up hb'⟩
 go_upto_region 10 with fail
 have bA : Below wz7_2.heap.size wz7_2 wz7_2.drew:=Below.drew (Below.refl _ _)
 refine wrn K bA (fun hHeld => ?_)
 refine take_at (i := 0) (d := 28) (v := .agg #[.int .i64 t.id,.int .i64 t.vw,.int .i64 t.ak,.int .i64 t.vo,.int .i64 t.lo,.int .i64 t.n,.string t.s,.slice aX t.qw.length kX,.string t.d,.slice bX t.pool.length lX,.slice cX t.tab.length nX,.slice dX t.dsk.length pX,.int .i64 t.su,.slice eX t.held.length qX]) rfl rfl (by kernel_rfl) (by kernel_rfl) (by kernel_rfl) (fun _ _ _ h => h) ?_ (by assumption) ?_
 ·exact yields_row rfl 49 _ rfl rfl _ (fun w h => h.2.2) Tryz.underlying49 rfl (by kernel_rfl)
 simp only [pU]
 refine take_at (i := 1) (d := 29) (v := .agg #[.int .i64 t.id,.int .i64 t.vw,.int .i64 t.ak,.int .i64 t.vo,.int .i64 t.lo,.int .i64 t.n,.string t.s,.slice ao t.qw.length ca,.string t.d,.slice bo t.pool.length cb,.slice co t.tab.length cc,.slice od t.dsk.length cd,.int .i64 t.su,.slice oe t.held.length ce]) rfl rfl (by kernel_rfl) (by kernel_rfl) (by kernel_rfl) (fun _ _ _ h => h) ?_ (by assumption) ?_
 ·exact yields_row rfl 36 _ rfl rfl _ (fun w h => h.2.1) Tryz.underlying36 rfl (by kernel_rfl)
 simp only [pU]
 refine rd 2 rfl (fun KK hKK => ?_)
 go_simp
 have hgo:=bA
 refine (TA.out _ (HI.out.below (bu Bwz7_2 hgo))).mono ?_
 rintro e wz10_1 ⟨u1, u2, u3, u4, u5, rfl, m1, bb⟩
 have bz1 : Below wz7_2.heap.size wz7_2 wz10_1:=bu bA bb
 have R1:=hide (m1.rrep SM.out)
 clear m1
 clear bA hgo bb
 clear hHeld
 refine hKK.out _ _ (K.out _ bz1) (fun hHeld => ?_)
 clear hKK KK
 refine rd 3 rfl (fun KK hKK => ?_)
 go_simp
 have hgo:=bz1
 refine (EQ.out _ _ _ _ _ _ _ _ _ _ _ (RX.out _ hgo) R1.out).mono ?_
 rintro e wz10_2 ⟨rfl, bb⟩
 have bz2 : Below wz7_2.heap.size wz7_2 wz10_2:=bu bz1 bb
 clear R1 RX
 clear bz1 hgo bb
 clear hHeld
 refine hKK.out _ _ (K.out _ bz2) (fun hHeld => ?_)
 clear hKK KK
 refine' tj 4 32 rfl ?_ ?_;rotate_left
 ·intro w h;go_simp;try rfl
 simp only [pU]
 clear hHeld
 refine wdn ?_
 have bb:=bz2
 have Bwz10_2:=bu Bwz7_2 bb
 have swz10_2:=bb.size
 replace LC:=LC.up bb
 replace LA:=LA.up bb
 replace X:=X.up bb
 replace mX:=mX.below bb
 clear Bwz7_2
 clear bb bz2 K
 go_wp2
 go_ret
 exact ⟨rfl, Bwz10_2⟩
theorem fnKept_long (n f : Int) (t : RpT) (ao bo co od oe : Option Addr) (ca cb cc cd ce : Nat) (rs : List Pr) (w : World) (ht : t.tab = rs.map prp) (g : 1048576 < (t.s.size : Int) + t.qw.length + t.d.size + t.pool.length + rs.length + psum rs + t.dsk.length + t.held.length + posum t.held) (hc : ATab w co rs) (hh : RPoL w (.slice oe t.held.length ce) t.held) (m : RMx t rs) :
 Calls Tryz.prog 5 #[cv n f, rpv t (.slice ao t.qw.length ca) (.slice bo t.pool.length cb) (.slice co t.tab.length cc) (.slice od t.dsk.length cd) (.slice oe t.held.length ce)] w fun e w' => e = .returned (.bool true) ∧ Below w.heap.size w w' := by
 have hrl : rs.length = t.tab.length:=by rw [ht]; simp
 have ZA:=hide fun w (h : ATab w co rs) (h' : RPoL w (.slice oe t.held.length ce) t.held) => szRep_no t ao bo co od oe ca cb cc cd ce rs 1048576 w h h' (by omega) m (by omega) g
 rw [hrl] at ZA
 have d1 : decide ((-1 : Int) < 0) = true:=by decide
 have HC:=hide hc
 have HH:=hide hh
 clear hc hh g hrl ht m
 obtain ⟨w0, hw0, Bw0, LC, LA, zw0⟩:=bx2 w #[.int .i64 n,.int .i64 f] 23 #[.int .i64 t.id,.int .i64 t.vw,.int .i64 t.ak,.int .i64 t.vo,.int .i64 t.lo,.int .i64 t.n,.string t.s,.slice ao t.qw.length ca,.string t.d,.slice bo t.pool.length cb,.slice co t.tab.length cc,.slice od t.dsk.length cd,.int .i64 t.su,.slice oe t.held.length ce] 36
 go_enter Tryz.func5, Tryz.ntmps5
 go_wp2_with (first | (refine wload LA 36 _ rfl _ rfl rfl Tryz.underlying36 rfl (by kernel_rfl) ?_))
 clear hw0
 refine (ZA.out _ (HC.out.below Bw0) (HH.out.below Bw0)).mono ?_
 rintro _ w1 ⟨rfl, bb⟩
 have Bw1:=bu Bw0 bb
 have sw1:=bb.size
 replace LC:=LC.up bb
 replace LA:=LA.up bb
 clear Bw0
 clear bb
 go_wp2
 go_ret
 exact ⟨rfl, Bw1⟩
end Go.Proofs.YtndpjhiidmdlhaaGreatDoor
namespace Go.Proofs.YtndpjhiidmdlhaaGreatDoor
open Go.ChangeShapes Go.WideShapes Go.ChangeAt Go.RowKit
open Go.Joins
set_option linter.unusedSectionVars false
variable [∀ (a b c d : Int), Decidable (Ok4 a b c d)]
variable [∀ (n f : Int), Decidable (COk n f)]

theorem cellsSafe : Tryz.prog.cellsOf 28 = 6 := by kernel_rfl

theorem cellsD : Tryz.prog.cellsOf 33 = 2 := by kernel_rfl
def ABW (W : World) (ao : Option Addr) (ca : Nat) (zs : List Int) : Prop := zs.length ≤ ca ∧ ca ≤ maxLen ∧ (zs = [] ∨ ∃ b off, ao = some ⟨b, off, none⟩ ∧ ∀ k, k < zs.length → W.cell? ⟨b, off + k, none⟩ = some (.int .u8 (zs.getD k 0)))
theorem ABW.rb {W : World} {ao : Option Addr} {ca : Nat} {zs : List Int} (h : ABW W ao ca zs) (hl : zs.length ≤ 1048576) : RB W (.slice ao zs.length ca) zs := ⟨by omega, ao, ca, rfl, ⟨h.1, h.2.1⟩, h.2.2⟩
theorem open_byteW {H : Type} {enc : TypeId × Value → H} {W : World} {n : Nat} {c : Value} {y : DataW H × List MemPlace} (h : DataW.trod enc Tryz.prog W 0 (fun _ => true) true n 31 [c] = some y) :
 ∃ ao ca, ∃ zs : List Int, c = .slice ao zs.length ca ∧ zs.length ≤ maxLen ∧ ABW W ao ca zs ∧ ∀ k, k < zs.length → 0 ≤ zs.getD k 0 ∧ zs.getD k 0 ≤ 255 := by
 rcases open_ints Tryz.underlying31 Tryz.underlying5 (by kernel_rfl) h with ⟨hcs, _⟩ | ⟨x, len, cap, zs, hcs, _, hl, hm, hz, _, hcell, hwz⟩
 ·simp at hcs
  exact ⟨none, 0, [], hcs, by simp, ⟨by simp, by unfold maxLen; omega, .inl rfl⟩, fun k hk => by simp at hk⟩
 ·simp at hcs
  have hz' : zs.length = cap:=by simpa using hz
  have e : (zs.take len).length = len:=by simp; omega
  have hm' : cap ≤ maxLen:=by first | exact hm | omega
  refine ⟨some x, cap, zs.take len, by rw [hcs, e], by rw [e]; omega, ⟨by omega, hm', ?_⟩, ?_⟩
  ·by_cases h0 : len = 0
   ·left; simp [h0]
   ·right
    obtain ⟨b, off, spot⟩:=x
    have hc:=hcell 0 (by omega)
    have hspot : spot = none:=by simpa [Addr.add] using World.cell?_spot hc
    subst hspot
    refine ⟨b, off, rfl, fun k hk => ?_⟩
    rw [e] at hk
    have hk':=hcell k (by omega)
    rw [show ((⟨b, off, none⟩ : Addr).add k) = ⟨b, off + k, none⟩ from by unfold Addr.add; split <;> simp_all] at hk'
    rw [hk']
    simp [hk]
  ·intro k hk
   have hm2 : (zs.take len).getD k 0 ∈ zs:=by
    rw [List.getD_eq_getElem?_getD, List.getElem?_eq_getElem hk]
    exact List.mem_of_mem_take (List.getElem_mem hk)
   have:=bounds_u8 (hwz _ hm2)
   omega
end Go.Proofs.YtndpjhiidmdlhaaGreatDoor
namespace Go.Proofs.YtndpjhiidmdlhaaGreatDoor
open Go.ChangeShapes Go.WideShapes Go.ChangeAt Go.RowKit
open Go.Joins
set_option linter.unusedSectionVars false
variable [∀ (a b c d : Int), Decidable (Ok4 a b c d)]
variable [∀ (n f : Int), Decidable (COk n f)]
variable [∀ (a b c d : Nat), Decidable (okN a b c d)]
variable [∀ (x : T4), Decidable (OkT x)]

theorem cellsTx : Tryz.prog.cellsOf 128 = 4 := by kernel_rfl
theorem field_int {H : Type} {enc : TypeId × Value → H} {W : World} {n : Nat} {c : Value} {y : DataW H × List MemPlace} (h : DataW.trod enc Tryz.prog W 0 (fun _ => true) true n 3 [c] = some y) : ∃ a : Int, c = .int .i64 a := by
 obtain ⟨a, e0, _, _⟩:=DataW.trod_int Tryz.underlying3 h
 simp at e0
 exact ⟨a, e0⟩
theorem four_list {α : Type} {l : List α} (h : l.length = 4) : ∃ a b c d, l = [a, b, c, d] := by
 match l, h with
 | [a, b, c, d], _ => exact ⟨a, b, c, d, rfl⟩
theorem open_txs0 {H : Type} {enc : TypeId × Value → H} {W : World} {fuel : Nat} {a : Option Addr} {len cap : Nat} {x : DataW H × List MemPlace} (h : DataW.trod enc Tryz.prog W 0 (fun _ => true) true fuel 29 (Value.slice a len cap).cells.toList = some x) :
 ∃ xs : List T4, len = xs.length ∧ xs.length ≤ maxLen ∧ AR W a xs := by
 rcases Go.Deep.open_slice Tryz.underlying29 h with ⟨hcs, _⟩ | ⟨ad, l, c, m, n, D, Pl, hcs, _, hl, hm, hmm, _, hx⟩
 ·simp [Value.cells] at hcs
  obtain ⟨rfl, rfl, rfl⟩:=hcs
  exact ⟨[], rfl, by simp, .inl rfl⟩
 ·simp [Value.cells] at hcs
  obtain ⟨rfl, rfl, rfl⟩:=hcs
  have hm' : m = cap:=by simpa using hmm
  have each : ∀ i, ∃ q : T4, i < len → W.cell? (ad.add (i * 4)) = some (.int .i64 q.1) ∧ W.cell? (ad.add (i * 4 + 1)) = some (.int .i64 q.2.1) ∧ W.cell? (ad.add (i * 4 + 2)) = some (.int .i64 q.2.2.1) ∧ W.cell? (ad.add (i * 4 + 3)) = some (.int .i64 q.2.2.2):=by
   intro i
   by_cases hi : i < len
   ·obtain ⟨cs', h1, h2⟩:=hx i (by omega)
    rw [cellsTx] at h1
    obtain ⟨_, hlen, hcell⟩:=World.cells?_some h1
    obtain ⟨y0, y1, y2, y3, k, _, _, g0, g1, g2, g3⟩:=trod_struct4 Tryz.underlying128 h2
    obtain ⟨v0, v1, v2, v3, rfl⟩:=four_list hlen
    have e0:=hcell 0 (by omega)
    have e1:=hcell 1 (by omega)
    have e2:=hcell 2 (by omega)
    have e3:=hcell 3 (by omega)
    rw [Go.Deep.add_add] at e0 e1 e2 e3
    have ci : Tryz.prog.cellsOf 3 = 1:=by kernel_rfl
    simp [ci] at g0 g1 g2 g3
    obtain ⟨a0, rfl⟩:=field_int g0
    obtain ⟨a1, rfl⟩:=field_int g1
    obtain ⟨a2, rfl⟩:=field_int g2
    obtain ⟨a3, rfl⟩:=field_int g3
    exact ⟨(a0, a1, a2, a3), fun _ => ⟨by simpa using e0, by simpa using e1, by simpa using e2, by simpa using e3⟩⟩
   ·exact ⟨(0, 0, 0, 0), fun h => absurd h hi⟩
  obtain ⟨q, hq⟩:=Classical.axiomOfChoice each
  refine ⟨(List.range len).map q, by simp, by simp; omega, ?_⟩
  by_cases h0 : len = 0
  ·left; simp [h0]
  ·right
   obtain ⟨b, off, spot⟩:=ad
   have hc:=(hq 0 (by omega)).1
   have hspot : spot = none:=by simpa [Addr.add] using World.cell?_spot hc
   subst hspot
   refine ⟨b, off, rfl, fun k hk => ?_⟩
   rw [List.length_map, List.length_range] at hk
   have:=hq k hk
   have ea : ∀ j, ((⟨b, off, none⟩ : Addr).add j) = ⟨b, off + j, none⟩:=fun j => by unfold Addr.add; split <;> simp_all
   rw [ea, ea, ea, ea] at this
   have eg : ((List.range len).map q).getD k (0, 0, 0, 0) = q k:=by simp [hk]
   rw [eg]
   simpa [Nat.add_assoc] using this
end Go.Proofs.YtndpjhiidmdlhaaGreatDoor
namespace Go.Proofs.YtndpjhiidmdlhaaGreatDoor
open Go.ChangeShapes Go.WideShapes Go.ChangeAt Go.RowKit
open Go.Joins
set_option linter.unusedSectionVars false
variable [∀ (a b c d : Int), Decidable (Ok4 a b c d)]
variable [∀ (n f : Int), Decidable (COk n f)]
variable [∀ (a b c d : Nat), Decidable (okN a b c d)]
variable [∀ (x : T4), Decidable (OkT x)]

section
variable {H : Type} {enc : TypeId × Value → H} {P : Program} {w : World} {base : Nat} {spare : Bool}
theorem trod_struct8 {held : TypeId → Bool} {t : TypeId} {f0 f1 f2 f3 f4 f5 f6 f7 : Field} {fuel : Nat} {cs : List Value} {x : DataW H × List MemPlace} (ht : P.underlying t = some (.struct #[f0, f1, f2, f3, f4, f5, f6, f7])) (h : DataW.trod enc P w base held spare fuel t cs = some x) :
 ∃ y0 y1 y2 y3 y4 y5 y6 y7 n, DataW.trod enc P w base held spare n f0.type ((cs.drop f0.offset).take (P.cellsOf f0.type)) = some y0 ∧ DataW.trod enc P w base held spare n f1.type ((cs.drop f1.offset).take (P.cellsOf f1.type)) = some y1 ∧ DataW.trod enc P w base held spare n f2.type ((cs.drop f2.offset).take (P.cellsOf f2.type)) = some y2 ∧ DataW.trod enc P w base held spare n f3.type ((cs.drop f3.offset).take (P.cellsOf f3.type)) = some y3 ∧ DataW.trod enc P w base held spare n f4.type ((cs.drop f4.offset).take (P.cellsOf f4.type)) = some y4 ∧ DataW.trod enc P w base held spare n f5.type ((cs.drop f5.offset).take (P.cellsOf f5.type)) = some y5 ∧ DataW.trod enc P w base held spare n f6.type ((cs.drop f6.offset).take (P.cellsOf f6.type)) = some y6 ∧ DataW.trod enc P w base held spare n f7.type ((cs.drop f7.offset).take (P.cellsOf f7.type)) = some y7 := by
 obtain ⟨xs, n, _, rfl, hl, hlen, hf⟩:=DataW.trod_struct ht h
 match xs, hlen with
 | [y0, y1, y2, y3, y4, y5, y6, y7], _ => exact ⟨y0, y1, y2, y3, y4, y5, y6, y7, n, by simpa using hf 0 f0 rfl, by simpa using hf 1 f1 rfl, by simpa using hf 2 f2 rfl, by simpa using hf 3 f3 rfl, by simpa using hf 4 f4 rfl, by simpa using hf 5 f5 rfl, by simpa using hf 6 f6 rfl, by simpa using hf 7 f7 rfl⟩
end
theorem array14 {cs : Array Value} (h : cs.size = 14) : ∃ c0 c1 c2 c3 c4 c5 c6 c7 c8 c9 c10 c11 c12 c13, cs = #[c0, c1, c2, c3, c4, c5, c6, c7, c8, c9, c10, c11, c12, c13] := by
 obtain ⟨l⟩:=cs
 match l, h with
 | [c0, c1, c2, c3, c4, c5, c6, c7, c8, c9, c10, c11, c12, c13], _ => exact ⟨c0, c1, c2, c3, c4, c5, c6, c7, c8, c9, c10, c11, c12, c13, rfl⟩
theorem cellsRep : Tryz.prog.cellsOf 36 = 14 := by kernel_rfl
theorem cellsTxsL : Tryz.prog.cellsOf 29 = 1 := by kernel_rfl
theorem cellsPartsL : Tryz.prog.cellsOf 30 = 1 := by kernel_rfl
theorem cellsPostsL : Tryz.prog.cellsOf 34 = 1 := by kernel_rfl
theorem open_safe0 {H : Type} {enc : TypeId × Value → H} {W : World} {fuel : Nat} {c0 c1 c2 c3 c4 c5 : Value} {x : DataW H × List MemPlace} (hf : DataW.trod enc Tryz.prog W 0 (fun _ => true) true fuel 28 [c0, c1, c2, c3, c4, c5] = some x) :
 ∃ vo lo n s ao ca m, ∃ xs : List Int, [c0, c1, c2, c3, c4, c5] = [.int .i64 vo, .int .i64 lo, .int .i64 n, .string s, .slice ao xs.length ca, .string m] ∧ s.size ≤ maxLen ∧ xs.length ≤ maxLen ∧ m.size ≤ maxLen ∧ AIW W ao xs ∧ WfL xs := by
 obtain ⟨y0, y1, y2, y3, k, _, _, h0, h1, h2, h3⟩:=trod_struct4 Tryz.underlying28 hf
 have h0' : DataW.trod enc Tryz.prog W 0 (fun _ => true) true k 3 [c0] = some y0:=by simpa [cellsInt, cellsQc, cellsStr] using h0
 have h1' : DataW.trod enc Tryz.prog W 0 (fun _ => true) true k 3 [c1] = some y1:=by simpa [cellsInt, cellsQc, cellsStr] using h1
 have h2' : DataW.trod enc Tryz.prog W 0 (fun _ => true) true k 26 [c2, c3, c4] = some y2:=by simpa [cellsInt, cellsQc, cellsStr] using h2
 have h3' : DataW.trod enc Tryz.prog W 0 (fun _ => true) true k 9 [c5] = some y3:=by simpa [cellsInt, cellsQc, cellsStr] using h3
 obtain ⟨z0, z1, z2, j, _, _, g0, g1, g2⟩:=Go.Deep.trod_struct3 Tryz.underlying26 h2'
 have g0' : DataW.trod enc Tryz.prog W 0 (fun _ => true) true j 3 [c2] = some z0:=by simpa [cellsInt] using g0
 have g1' : DataW.trod enc Tryz.prog W 0 (fun _ => true) true j 9 [c3] = some z1:=by simpa [cellsStr] using g1
 have g2' : DataW.trod enc Tryz.prog W 0 (fun _ => true) true j 24 [c4] = some z2:=by simpa [cellsInts] using g2
 obtain ⟨a, e0, _, _⟩:=DataW.trod_int Tryz.underlying3 h0'
 obtain ⟨b, e1, _, _⟩:=DataW.trod_int Tryz.underlying3 h1'
 obtain ⟨n, e2, _, _⟩:=DataW.trod_int Tryz.underlying3 g0'
 obtain ⟨s, e3, _, hs⟩:=DataW.trod_string Tryz.underlying9 g1'
 obtain ⟨ao, ca, xs, rfl, hx, ax, wx⟩:=open_listW g2'
 obtain ⟨m, e5, _, hm⟩:=DataW.trod_string Tryz.underlying9 h3'
 simp at e0 e1 e2 e3 e5
 exact ⟨a, b, n, s, ao, ca, m, xs, by rw [e0, e1, e2, e3, e5], hs, hx, hm, ax, wx⟩
theorem slice_cell {H : Type} {enc : TypeId × Value → H} {P : Program} {W : World} {t e : TypeId} {fuel : Nat} {c : Value} {x : DataW H × List MemPlace} (ht : P.underlying t = some (.slice e)) (h : DataW.trod enc P W 0 (fun _ => true) true fuel t [c] = some x) : ∃ a l k, c = .slice a l k := by
 rcases Go.Deep.open_slice ht h with ⟨hcs, _⟩ | ⟨ad, l, k, m, n, D, Pl, hcs, _⟩
 ·exact ⟨_, _, _, by simpa using hcs⟩
 ·exact ⟨_, _, _, by simpa using hcs⟩
theorem open_rep {H : Type} {enc : TypeId × Value → H} {W : World} {base : Nat} {v : Value} {d : DataW H} {p : List MemPlace} (hv : Value.okWide Tryz.prog W .any base 36 v)
 (h : DataW.Trod enc Tryz.prog W 0 (fun _ => true) true 36 v d p) :
 ∃ (t : RpT) (ao bo co od oe : Option Addr) (ca cb cc cd ce : Nat) (rs : List Pr), t.tab = rs.map prp ∧ v = rpv t (.slice ao t.qw.length ca) (.slice bo t.pool.length cb) (.slice co rs.length cc) (.slice od t.dsk.length cd) (.slice oe t.held.length ce) ∧ RMx t rs ∧ AIW W ao t.qw ∧ WfL t.qw ∧ AR W bo t.pool ∧ ATab W co rs ∧ (∀ r ∈ rs, AIW W r.2.2.1 r.2.2.2.2 ∧ WfL r.2.2.2.2) ∧ (ABW W od cd t.dsk ∧ ∀ k, k < t.dsk.length → 0 ≤ t.dsk.getD k 0 ∧ t.dsk.getD k 0 ≤ 255) ∧ RG (RPoA t.held) 18 W (.slice oe t.held.length ce) t.held.length ∧ ∀ p ∈ t.held, (WfL p.2.bw ∧ WfL p.2.pw ∧ WfL p.2.qw) ∧ MI p.2 := by
 obtain ⟨cs, rfl, hsz⟩:=okWide_struct Tryz.underlying36 hv
 obtain ⟨c0, c1, c2, c3, c4, c5, c6, c7, c8, c9, c10, c11, c12, c13, rfl⟩:=array14 (hsz.trans cellsRep)
 obtain ⟨fuel, hf⟩:=h
 obtain ⟨y0, y1, y2, y3, y4, y5, y6, y7, k, h0, h1, h2, h3, h4, h5, h6, h7⟩:=trod_struct8 Tryz.underlying36 hf
 have g0 : DataW.trod enc Tryz.prog W 0 (fun _ => true) true k 3 [c0] = some y0:=by simpa [Value.cells, cellsInt, cellsStr, cellsSafe, cellsTxsL, cellsPartsL, cellsD, cellsPostsL] using h0
 have g1 : DataW.trod enc Tryz.prog W 0 (fun _ => true) true k 3 [c1] = some y1:=by simpa [Value.cells, cellsInt, cellsStr, cellsSafe, cellsTxsL, cellsPartsL, cellsD, cellsPostsL] using h1
 have g2 : DataW.trod enc Tryz.prog W 0 (fun _ => true) true k 3 [c2] = some y2:=by simpa [Value.cells, cellsInt, cellsStr, cellsSafe, cellsTxsL, cellsPartsL, cellsD, cellsPostsL] using h2
 have g3 : DataW.trod enc Tryz.prog W 0 (fun _ => true) true k 28 [c3, c4, c5, c6, c7, c8] = some y3:=by simpa [Value.cells, cellsInt, cellsStr, cellsSafe, cellsTxsL, cellsPartsL, cellsD, cellsPostsL] using h3
 have g4 : DataW.trod enc Tryz.prog W 0 (fun _ => true) true k 29 [c9] = some y4:=by simpa [Value.cells, cellsInt, cellsStr, cellsSafe, cellsTxsL, cellsPartsL, cellsD, cellsPostsL] using h4
 have g5 : DataW.trod enc Tryz.prog W 0 (fun _ => true) true k 30 [c10] = some y5:=by simpa [Value.cells, cellsInt, cellsStr, cellsSafe, cellsTxsL, cellsPartsL, cellsD, cellsPostsL] using h5
 have g6 : DataW.trod enc Tryz.prog W 0 (fun _ => true) true k 33 [c11, c12] = some y6:=by simpa [Value.cells, cellsInt, cellsStr, cellsSafe, cellsTxsL, cellsPartsL, cellsD, cellsPostsL] using h6
 have g7 : DataW.trod enc Tryz.prog W 0 (fun _ => true) true k 34 [c13] = some y7:=by simpa [Value.cells, cellsInt, cellsStr, cellsSafe, cellsTxsL, cellsPartsL, cellsD, cellsPostsL] using h7
 obtain ⟨id, e0, _, _⟩:=DataW.trod_int Tryz.underlying3 g0
 obtain ⟨vw, e1, _, _⟩:=DataW.trod_int Tryz.underlying3 g1
 obtain ⟨ak, e2, _, _⟩:=DataW.trod_int Tryz.underlying3 g2
 obtain ⟨vo, lo, n, s, ao, ca, m, qw, e3, l1, l2, l3, aq, fq⟩:=open_safe0 g3
 obtain ⟨bo, pl, cb, rfl⟩:=slice_cell Tryz.underlying29 g4
 obtain ⟨pool, rfl, l4, ap⟩:=open_txs0 (a:=bo) (len:=pl) (cap:=cb) g4
 obtain ⟨co, tl, cc, rfl⟩:=slice_cell Tryz.underlying30 g5
 obtain ⟨rs, rfl, l5, at_, he⟩:=open_parts0 (a:=co) (len:=tl) (cap:=cc) g5
 obtain ⟨z0, z1, kd, _, _, d0, d1⟩:=trod_struct2 Tryz.underlying33 g6
 have cB : Tryz.prog.cellsOf 31 = 1:=by kernel_rfl
 have d0' : DataW.trod enc Tryz.prog W 0 (fun _ => true) true kd 31 [c11] = some z0:=by simpa [cellsInt, cB] using d0
 have d1' : DataW.trod enc Tryz.prog W 0 (fun _ => true) true kd 3 [c12] = some z1:=by simpa [cellsInt, cB] using d1
 obtain ⟨od, cd, zs, rfl, l6, ad, fd⟩:=open_byteW d0'
 obtain ⟨su, e12, _, _⟩:=DataW.trod_int Tryz.underlying3 d1'
 obtain ⟨oe, hl, ce, rfl⟩:=slice_cell Tryz.underlying34 g7
 obtain ⟨ps, rfl, l7, ah, hp⟩:=open_posts0 (a:=oe) (len:=hl) (cap:=ce) g7
 simp at e0 e1 e2 e3 e12
 obtain ⟨e3, e4, e5, e6, e7, e8⟩:=e3
 exact ⟨⟨id, vw, ak, vo, lo, n, s, qw, m, pool, rs.map prp, zs, su, ps⟩, ao, bo, co, od, oe, ca, cb, cc, cd, ce, rs, rfl, by rw [e0, e1, e2, e3, e4, e5, e6, e7, e8, e12], ⟨l1, l2, l3, l4, l5, fun r hr => ⟨(he r hr).1, (he r hr).2.1⟩, l6, l7, fun p hp' => (hp p hp').1⟩, aq, fq, ap, at_, fun r hr => (he r hr).2.2, ⟨ad, fd⟩, ah, fun p hp' => (hp p hp').2⟩
end Go.Proofs.YtndpjhiidmdlhaaGreatDoor
namespace Go.Proofs
open Go.Shelf
def Tryz.lays217_ren : Go.Shelf.Ren := ⟨fun | 217 => 295 | 266 => 313 | n => n, fun | 9 => 9 | 5 => 5 | 3 => 3 | n => n, fun | n => n⟩
theorem Tryz.lays217 : Go.Proofs.Lays.n217 Tryz.prog Tryz.lays217_ren := {
 mixed := by kernel_rfl
 f217 := Tryz.func295.trans (congrArg some (by kernel_rfl))
 f266 := Tryz.func313.trans (congrArg some (by kernel_rfl))
 t3 := Tryz.underlying3
 a3 := Tryz.isAgg3
 z3 := Tryz.sizeOf3
 v3 := Tryz.zeroValue3
 t5 := Tryz.underlying5
 a5 := Tryz.isAgg5
 z5 := Tryz.sizeOf5
 v5 := Tryz.zeroValue5
 t9 := Tryz.underlying9
 a9 := Tryz.isAgg9
 z9 := Tryz.sizeOf9
 v9 := Tryz.zeroValue9 }
open Go.RowKit Go.Lib in
theorem Tryz.stringslite_IndexByte (s : ByteArray) (c : Int) (w : World) :
 Calls Tryz.prog 295 #[.string s,.int .u8 c] w fun e w' => e = .returned (.int .i64 (Lib.indexByte s.data.toList c.toNat.toUInt8)) ∧ w' = w := Any.stringslite_IndexByte Tryz.lays217 s c w
def Tryz.lays222_ren : Go.Shelf.Ren := ⟨fun | 222 => 369 | n => n, fun | 9 => 9 | 5 => 5 | 3 => 3 | 4 => 4 | n => n, fun | n => n⟩
theorem Tryz.lays222 : Go.Proofs.Lays.n222 Tryz.prog Tryz.lays222_ren := {
 mixed := by kernel_rfl
 f222 := Tryz.func369.trans (congrArg some (by kernel_rfl))
 t3 := Tryz.underlying3
 a3 := Tryz.isAgg3
 z3 := Tryz.sizeOf3
 v3 := Tryz.zeroValue3
 t4 := Tryz.underlying4
 a4 := Tryz.isAgg4
 z4 := Tryz.sizeOf4
 v4 := Tryz.zeroValue4
 t5 := Tryz.underlying5
 a5 := Tryz.isAgg5
 z5 := Tryz.sizeOf5
 v5 := Tryz.zeroValue5
 t9 := Tryz.underlying9
 a9 := Tryz.isAgg9
 z9 := Tryz.sizeOf9
 v9 := Tryz.zeroValue9 }
open Go.RowKit Go.Lib in
theorem Tryz.bytealg_LastIndexByteString_nm (s : ByteArray) (c : Int) (hs : s.size < 4611686018427387904) (w : World) :
 Calls Tryz.prog 369 #[.string s,.int .u8 c] w fun e w' => e = .returned (.int .i64 (Lib.lastIndexByte s c)) ∧ w' = w := Any.bytealg_LastIndexByteString_nm Tryz.lays222 s c hs w
def Tryz.lays103_ren : Go.Shelf.Ren := ⟨fun | 103 => 256 | 210 => 275 | 206 => 299 | n => n, fun | 9 => 9 | 4 => 4 | 24 => 313 | 3 => 3 | n => n, fun | n => n⟩
theorem Tryz.lays103 : Go.Proofs.Lays.n103 Tryz.prog Tryz.lays103_ren := {
 mixed := by kernel_rfl
 f103 := Tryz.func256.trans (congrArg some (by kernel_rfl))
 f206 := Tryz.func299.trans (congrArg some (by kernel_rfl))
 f210 := Tryz.func275.trans (congrArg some (by kernel_rfl))
 t3 := Tryz.underlying3
 a3 := Tryz.isAgg3
 z3 := Tryz.sizeOf3
 v3 := Tryz.zeroValue3
 t4 := Tryz.underlying4
 a4 := Tryz.isAgg4
 z4 := Tryz.sizeOf4
 v4 := Tryz.zeroValue4
 t9 := Tryz.underlying9
 a9 := Tryz.isAgg9
 z9 := Tryz.sizeOf9
 v9 := Tryz.zeroValue9
 t24 := Tryz.underlying313
 a24 := Tryz.isAgg313
 z24 := Tryz.sizeOf313
 v24 := Tryz.zeroValue313 }
open Go.RowKit in
theorem Tryz.strings_CutPrefix (s p : ByteArray) (w : World) :
 Calls Tryz.prog 256 #[.string s,.string p] w fun e w' => e = .returned (.tuple #[.string ⟨(Lib.trimPrefix s.data.toList p.data.toList).toArray⟩,.bool (Lib.hasPrefix s.data.toList p.data.toList)]) ∧ w' = w := Any.strings_CutPrefix Tryz.lays103 s p w
end Go.Proofs
namespace Go.Proofs.YtndpjhiidmdlhaaGreatDoor
open Go.RowKit
set_option linter.unusedSectionVars false
variable [∀ (a b c d : Int), Decidable (Ok4 a b c d)]
variable [∀ (a b c d : Nat), Decidable (okN a b c d)]

abbrev St := Int × List T4
abbrev zst : St := (0, [])
def stepOf (p : ByteArray) : Option St :=
 if (124 : UInt8) ∈ p.data.toList then (numOf (hd 124 p.data.toList)).bind fun n => (txsAns (toB (tl 124 p.data.toList))).map fun ts => ((n : Int), ts) else none
def GoodSt (last : Int) (s : St) : Prop := last < s.1 ∧ s.1 ≤ 60 ∧ s.2.length ≤ 2
variable [∀ (last : Int) (s : St), Decidable (GoodSt last s)]
def stepAcc (o : Option (Int × List St)) (p : ByteArray) : Option (Int × List St) := o.bind fun q => (stepOf p).bind fun s => if GoodSt q.1 s then some (s.1, q.2 ++ [s]) else none
def stepsRun (ps : List ByteArray) : Option (Int × List St) := ps.foldl stepAcc (some (0, []))
def stepsAns (s : ByteArray) : Option (List St) :=
 if s = ⟨#[]⟩ then some []
 else if (splitAns s 47).getD 0 ByteArray.empty = ⟨#[]⟩ ∧ (splitAns s 47).length ≤ 31 then (stepsRun (splitAns s 47).tail).map (·.2) else none
theorem stepsRun_more (ps : List ByteArray) (p : ByteArray) : stepsRun (ps ++ [p]) = stepAcc (stepsRun ps) p := by
 unfold stepsRun; rw [List.foldl_append]; rfl
theorem acc_none (ps : List ByteArray) : ps.foldl stepAcc none = none := by
 induction ps with
 | nil => rfl
 | cons p ps ih => rw [List.foldl_cons]; exact ih
theorem stepsRun_none {ps : List ByteArray} (k : Nat) (h : stepsRun (ps.take k) = none) : stepsRun ps = none := by
 have e : stepsRun ps = (ps.drop k).foldl stepAcc (stepsRun (ps.take k)):=by
  unfold stepsRun
  rw [← List.foldl_append, List.take_append_drop]
 rw [e, h]
 exact acc_none _
theorem stepsRun_ok (ps : List ByteArray) (q : Int × List St) (h : stepsRun ps = some q) : q.2.length = ps.length ∧ (0 ≤ q.1 ∧ q.1 ≤ 60) ∧ (ps.length : Int) ≤ q.1 ∧ ∀ s ∈ q.2, (1 ≤ s.1 ∧ s.1 ≤ q.1) ∧ s.2.length ≤ 2 := by
 generalize hn : ps.length = n
 induction n generalizing ps q with
 | zero =>
  have : ps = []:=List.length_eq_zero_iff.1 hn
  subst this
  cases h
  exact ⟨rfl, by simp, by simp, fun s hs => by simp at hs⟩
 | succ n ih =>
  obtain ⟨ps', p, rfl⟩ : ∃ ps' p, ps = ps' ++ [p]:=⟨ps.dropLast, ps.getLast (fun e => by rw [e] at hn; simp at hn), (List.dropLast_concat_getLast _).symm⟩
  rw [stepsRun_more] at h
  unfold stepAcc at h
  cases hr : stepsRun ps' with
  | none => rw [hr] at h; cases h
  | some q' =>
   rw [hr] at h
   cases hs : stepOf p with
   | none => rw [hs] at h; simp at h
   | some s =>
    rw [hs] at h
    simp only [Option.bind_some] at h
    split at h
    ·rename_i hg
     cases h
     obtain ⟨h1, h2, h3, h4⟩:=ih ps' q' hr (by simpa using hn)
     obtain ⟨g1, g2, g3⟩:=hg
     refine ⟨by simp [h1], ⟨by show 0 ≤ s.1; omega, g2⟩, by show (((n + 1 : Nat)) : Int) ≤ s.1; omega, fun y hy => ?_⟩
     rcases List.mem_append.1 hy with hy | hy
     ·obtain ⟨⟨a1, a2⟩, a3⟩:=h4 y hy
      exact ⟨⟨a1, by show y.1 ≤ s.1; omega⟩, a3⟩
     ·simp at hy
      subst hy
      exact ⟨⟨by omega, Int.le_refl _⟩, g3⟩
    ·cases h
end Go.Proofs.YtndpjhiidmdlhaaGreatDoor
namespace Go.Proofs.YtndpjhiidmdlhaaGreatDoor

def getF (xs : List Int) : Nat → Nat → Nat → Int → Option (Int × Int)
 | 0, _, _, _ => none
 | f + 1, i, p, n =>
  if p < xs.length then
   (if 128 ≤ xs.getD p 0 then getF xs f (i + 1) (p + 1) (n + xs.getD p 0 % 128 * 128 ^ i)
    else if 2147483647 < n + xs.getD p 0 % 128 * 128 ^ i ∨ (xs.getD p 0 = 0 ∧ 0 < i) then none
    else some (n + xs.getD p 0 % 128 * 128 ^ i, (p : Int) + 1))
  else none
def getNum (xs : List Int) (p : Int) : Option (Int × Int) := if p < 0 then none else getF xs 5 0 p.toNat 0

theorem getF_out (xs : List Int) (f i p : Nat) (n : Int) (h : ¬ p < xs.length) : getF xs f i p n = none := by cases f <;> simp [getF, h]
theorem getF_more (xs : List Int) (f i p : Nat) (n : Int) (h : p < xs.length) (hd : 128 ≤ xs.getD p 0) : getF xs (f + 1) i p n = getF xs f (i + 1) (p + 1) (n + xs.getD p 0 % 128 * 128 ^ i) := by
 rw [getF, if_pos h, if_pos hd]
theorem getF_bad (xs : List Int) (f i p : Nat) (n : Int) (h : p < xs.length) (hd : ¬ 128 ≤ xs.getD p 0) (hb : 2147483647 < n + xs.getD p 0 % 128 * 128 ^ i ∨ (xs.getD p 0 = 0 ∧ 0 < i)) : getF xs (f + 1) i p n = none := by
 rw [getF, if_pos h, if_neg hd, if_pos hb]
theorem getF_end (xs : List Int) (f i p : Nat) (n : Int) (h : p < xs.length) (hd : ¬ 128 ≤ xs.getD p 0) (hb : ¬ (2147483647 < n + xs.getD p 0 % 128 * 128 ^ i ∨ (xs.getD p 0 = 0 ∧ 0 < i))) : getF xs (f + 1) i p n = some (n + xs.getD p 0 % 128 * 128 ^ i, (p : Int) + 1) := by
 rw [getF, if_pos h, if_neg hd, if_neg hb]
theorem getF_step {xs : List Int} {f i q : Nat} {n d c : Int} {r : Option (Int × Int)} (hc : (128 : Int) ^ i = c) (hr : r = getF xs (f + 1) i q n) (hq : q < xs.length) (hd : xs.getD q 0 = d) (h1 : 128 ≤ d) : r = getF xs f (i + 1) (q + 1) (n + d % 128 * c) := by
 subst hc; subst hd; rw [hr]; exact getF_more xs f i q n hq h1
theorem getF_no {xs : List Int} {f i q : Nat} {n d c : Int} {r : Option (Int × Int)} (hc : (128 : Int) ^ i = c) (hr : r = getF xs (f + 1) i q n) (hq : q < xs.length) (hd : xs.getD q 0 = d) (h1 : ¬ 128 ≤ d) (hb : 2147483647 < n + d % 128 * c ∨ (d = 0 ∧ 0 < i)) : r = none := by
 subst hc; subst hd; rw [hr]; exact getF_bad xs f i q n hq h1 hb
theorem getF_yes {xs : List Int} {f i q : Nat} {n d c : Int} {r : Option (Int × Int)} (hc : (128 : Int) ^ i = c) (hr : r = getF xs (f + 1) i q n) (hq : q < xs.length) (hd : xs.getD q 0 = d) (h1 : ¬ 128 ≤ d) (hb : ¬ (2147483647 < n + d % 128 * c ∨ (d = 0 ∧ 0 < i))) : r = some (n + d % 128 * c, (q : Int) + 1) := by
 subst hc; subst hd; rw [hr]; exact getF_end xs f i q n hq h1 hb
theorem getNum_neg (xs : List Int) (p : Int) (h : p < 0) : getNum xs p = none := by simp [getNum, h]
theorem getNum_nat (xs : List Int) (p : Nat) : getNum xs p = getF xs 5 0 p 0 := by rw [getNum, if_neg (by omega), Int.toNat_natCast]
theorem or_mul (a b i m : Nat) (hm : m = 2 ^ i) (h : a < m) : a ||| (b * m) = b * m + a := by
 subst hm
 rw [Nat.or_comm, ← Nat.shiftLeft_eq, Nat.shiftLeft_add_eq_or_of_lt h]
theorem i64_or_nat (a b : Nat) (ha : a < 9223372036854775808) (hb : b < 9223372036854775808) : bits .or .i64 (a : Int) (b : Int) = ((a ||| b : Nat) : Int) := by
 have hx : a ||| b < 2 ^ 63:=Nat.or_lt_two_pow (by omega) (by omega)
 show IntKind.i64.wrap ((BitVec.ofInt 64 (a : Int) ||| BitVec.ofInt 64 (b : Int)).toNat : Int) = _
 rw [BitVec.toNat_or, ofInt_u64 a (by omega), ofInt_u64 b (by omega), IntKind.wrap_i64]
 omega
theorem or_sum (n d : Int) (m i : Nat) (hm : m = 2 ^ i) (hs : m ≤ 268435456) (a0 : 0 ≤ n) (b0 : n < m) (a1 : 0 ≤ d) (b1 : d < 128) : bits BinOp.or IntKind.i64 n (d * (m : Int)) = n + d * (m : Int) := by
 obtain ⟨a, rfl⟩:=Int.eq_ofNat_of_zero_le a0
 obtain ⟨b, rfl⟩:=Int.eq_ofNat_of_zero_le a1
 have hbm : b * m ≤ 127 * 268435456:=Nat.mul_le_mul (by omega) hs
 rw [← Int.natCast_mul, i64_or_nat a (b * m) (by omega) (by omega), or_mul a b i m hm (by omega)]
 rw [Int.natCast_add, Int.add_comm]
end Go.Proofs.YtndpjhiidmdlhaaGreatDoor
