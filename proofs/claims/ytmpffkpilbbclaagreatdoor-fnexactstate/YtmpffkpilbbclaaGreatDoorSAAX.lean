/- RepStateW: the walk of laws.FnExactState -/
import Derived.Test.YtmpffkpilbbclaaGreatDoorSAAW
set_option linter.unusedSectionVars false
set_option linter.unusedSimpArgs false
namespace Go.Proofs.YtmpffkpilbbclaaGreatDoor
section
open Go Go.RowKit
variable [∀ (a b c d : Int), Decidable (Ok4 a b c d)]
variable [∀ (n f : Int), Decidable (COk n f)]
variable [∀ (a b c d : Nat), Decidable (okN a b c d)]
variable [∀ (x : T4), Decidable (OkT x)]
variable [∀ (last : Int) (s : St), Decidable (GoodSt last s)]
variable [∀ (n : Int) (s : List Int), Decidable (OkL n s)]
set_option maxHeartbeats 16000000 in
set_option maxRecDepth 100000 in
theorem fnState_short (E : World → Prop) (hE : ∀ w w', E w → Below w.heap.size w w' → E w') (n f : Int) (t : RpT) (ao bo co od oe : Option Addr) (ca cb cc cd ce : Nat) (rs : List Pr) (w : World) (xs ys : List Int) (hx : xs.length ≤ 4 ∧ ys.length ≤ 4) (hq : rq5 1 t ≤ 100000000) (ht : t.tab = rs.map prp) (g : (t.s.size : Int) + t.qw.length + t.d.size + t.pool.length + rs.length + psum rs + t.dsk.length + t.held.length + posum t.held ≤ 1048576) (hc : ATab w co rs) (hh : RPoL w (.slice oe t.held.length ce) t.held) (hsm : RSm t) (hI : IRep w t (.slice ao t.qw.length ca) bo (.slice co t.tab.length cc) (.slice od t.dsk.length cd) (.slice oe t.held.length ce)) (he : E w) (SP0 : (∀ (ao bo co od oe : Option Addr) (ca cb cc cd ce : Nat) (w : World), RRep w t (.slice ao t.qw.length ca) (.slice bo t.pool.length cb) (.slice co t.tab.length cc) (.slice od t.dsk.length cd) (.slice oe t.held.length ce) → Calls Tryz.prog 15 #[cv n f, rpv t (.slice ao t.qw.length ca) (.slice bo t.pool.length cb) (.slice co t.tab.length cc) (.slice od t.dsk.length cd) (.slice oe t.held.length ce)] w fun e w' => ∃ u v, e = .returned (lv u v) ∧ OI w' w.heap.size u xs ∧ OI w' w.heap.size v ys ∧ Below w.heap.size w w')) (IM0 : (∀ (ao bo co od oe : Option Addr) (ca cb cc cd ce : Nat) (w : World), E w → RRep w t (.slice ao t.qw.length ca) (.slice bo t.pool.length cb) (.slice co t.tab.length cc) (.slice od t.dsk.length cd) (.slice oe t.held.length ce) → Calls Tryz.prog 16 #[cv n f, rpv t (.slice ao t.qw.length ca) (.slice bo t.pool.length cb) (.slice co t.tab.length cc) (.slice od t.dsk.length cd) (.slice oe t.held.length ce)] w fun e w' => ∃ u v, e = .returned (lv u v) ∧ OL w' w.heap.size w'.heap.size u v xs ys ∧ Below w.heap.size w w')) :
 Calls Tryz.prog 4 #[cv n f, rpv t (.slice ao t.qw.length ca) (.slice bo t.pool.length cb) (.slice co t.tab.length cc) (.slice od t.dsk.length cd) (.slice oe t.held.length ce)] w fun e w' => e = .returned (.bool true) ∧ Below w.heap.size w w' := by
 have HI:=hide hI
 have HE:=hide he
 have hrl : rs.length = t.tab.length:=by rw [ht]; simp
 have ZA:=hide fun w (h : ATab w co rs) (h' : RPoL w (.slice oe t.held.length ce) t.held) => szRep_yes t ao bo co od oe ca cb cc cd ce rs 1048576 w h h' (by omega) g
 rw [hrl] at ZA
 have TA:=hide fun w h => toRepC_any t (.slice ao t.qw.length ca) bo cb (.slice co t.tab.length cc) (.slice od t.dsk.length cd) (.slice oe t.held.length ce) w hsm h
 have TC:=hide fun w => toConf_any n f w
 have hz : ∃ z : Int, (1048576 : Int) - ((t.s.size : Int) + t.qw.length + t.d.size + t.pool.length + t.tab.length + psum rs + t.dsk.length + t.held.length + posum t.held) = z ∧ 0 ≤ z:=⟨_, rfl, by omega⟩
 obtain ⟨z, hz, hz0⟩:=hz
 rw [hz] at ZA
 have d1 : decide (z < 0) = false:=by simp; omega
 have SP:=hide SP0
 have IM:=hide IM0
 have EB:=hide hE
 have SM:=hide hsm
 have EQ:=hide fun a b c d e a' b' c' d' e' w h h' => eqRep_yes t a b c d e a' b' c' d' e' w hsm h h'
 have EL:=hide fun a b a' b' w h h' => eqLedger_yes a b a' b' xs ys w h h'
 have MR:=hide fun lo hi a b c d e w h => markRep_any lo hi t a b c d e 1 w hsm hq h
 have ML : Hid (∀ (lo hi : Nat) (a b : Value) (w : World), hi ≤ w.heap.size → OL w lo hi a b xs ys → Calls Tryz.prog 18 #[lv a b,.int .i64 1] w fun e w' => e = .returned (.int .i64 (1 + xs.length + ys.length)) ∧ OL w' lo hi a b (imarks 1 xs.length) (imarks (1 + xs.length) ys.length) ∧ Kp w w' (fun k => lo ≤ k ∧ k < hi)):=hide fun lo hi a b w hh h => markLedger_any lo hi a b xs ys w (by omega) (by omega) hh h
 have HL:=hide fun a b w h => heldLedger_any a b xs.length ys.length w (by omega) h
 obtain ⟨qe, hqe⟩ : ∃ x, rq5 1 t = x:=⟨_, rfl⟩
 rw [hqe] at MR
 have hd2 : decide ((qe : Int) < 0) = false:=by simp
 have hd3 : decide ((1 : Int) + (xs.length : Int) + (ys.length : Int) < 0) = false:=by simp; omega
 have HC:=hide hc
 have HH:=hide hh
 have hxl : xs.length ≤ 4194304:=by omega
 have hyl : ys.length ≤ 4194304:=by omega
 clear hI he SP0 IM0 hE hsm hc hh hz hz0 g hrl ht hq hqe
 obtain ⟨w0, hw0, Bw0, LC, LA, zw0⟩:=bx2 w #[.int .i64 n,.int .i64 f] 23 #[.int .i64 t.id,.int .i64 t.vw,.int .i64 t.ak,.int .i64 t.vo,.int .i64 t.lo,.int .i64 t.n,.string t.s,.slice ao t.qw.length ca,.string t.d,.slice bo t.pool.length cb,.slice co t.tab.length cc,.slice od t.dsk.length cd,.int .i64 t.su,.slice oe t.held.length ce] 36
 go_enter Tryz.func4, Tryz.ntmps4
 go_wp2_with (first | (refine wload LA 36 _ rfl _ rfl rfl Tryz.underlying36 rfl (by kernel_rfl) ?_))
 clear hw0
 refine (ZA.out _ (HC.out.below Bw0) (HH.out.below Bw0)).mono ?_
 rintro _ w1 ⟨rfl, bb⟩
 have Bw1:=bu Bw0 bb
 have sw1:=bb.size
 replace LC:=LC.up bb
 replace LA:=LA.up bb
 clear Bw0 bb ZA HC HH
 go_upto_region 5 with fail
 try simp only [Act.put, List.setIfInBounds_toArray, List.set_cons_zero, List.set_cons_succ]
 go_cut [6] (fun c wx => ∃ (h : Nat) (aG : Option Addr) (kG : Nat) (bG : Option Addr) (lG : Nat), c = .pointer (some ⟨h, 0, none⟩) ∧ w1.heap.size ≤ h ∧ h < wx.heap.size ∧ Loc wx h #[.slice aG xs.length kG,.slice bG ys.length lG] ∧ OI wx w1.heap.size (.slice aG xs.length kG) xs ∧ OI wx w1.heap.size (.slice bG ys.length lG) ys ∧ Below w1.heap.size w1 wx)
 case first =>
  have K:=kw (ka (kc2 LC 0 1) (kl LA))
  refine wra K (fun bA hHeld => ?_)
  obtain ⟨wd5, hwd⟩ : ∃ y, w1.drew = y:=⟨_, rfl⟩
  rw [hwd] at bA hHeld ⊢
  clear hwd
  have swd5:=bA.size
  refine tx 0 18 ?_
  refine take_at (i := 2) (d := 20) (v := .agg #[.int .i64 t.id,.int .i64 t.vw,.int .i64 t.ak,.int .i64 t.vo,.int .i64 t.lo,.int .i64 t.n,.string t.s,.slice ao t.qw.length ca,.string t.d,.slice bo t.pool.length cb,.slice co t.tab.length cc,.slice od t.dsk.length cd,.int .i64 t.su,.slice oe t.held.length ce]) rfl rfl (by kernel_rfl) (by kernel_rfl) (by kernel_rfl) (fun _ _ _ h => h) ?_ (by assumption) ?_
  ·exact yields_row rfl 36 _ rfl rfl _ (fun w h => h.2.2) Tryz.underlying36 rfl (by kernel_rfl)
  simp only [pU]
  refine wpAnyH_ready (rs := [1, 5]) (by kernel_rfl) (by simp) (AllReadyH.cons rfl (fun KK hKK => ?_) (AllReadyH.cons rfl (fun KK hKK => ?_) AllReadyH.nil))
  ·go_simp
   refine (TC.out _).mono ?_
   rintro e wx5_1 ⟨rfl, bb⟩
   have bx5_2 : Below w1.heap.size w1 wx5_1:=bu bA bb
   clear hHeld
   refine hKK.out _ _ (K.out _ bx5_2) (fun hHeld => ?_)
   clear hKK KK bA
   have swx5_1:=bb.size
   clear bb
   refine wpAnyH_ready (rs := [3, 5]) (by kernel_rfl) (by simp) (AllReadyH.cons rfl (fun KK hKK => ?_) (AllReadyH.cons rfl (fun KK hKK => ?_) AllReadyH.nil))
   ·go_simp
    refine (TA.out _ (HI.out.below (bu Bw1 bx5_2))).mono ?_
    rintro e wx5_3 ⟨u1, u2, u3, u4, u5, rfl, m1, bb⟩
    have bx5_4 : Below w1.heap.size w1 wx5_3:=bu bx5_2 bb
    clear hHeld
    refine hKK.out _ _ (K.out _ bx5_4) (fun hHeld => ?_)
    clear hKK KK bx5_2
    have swx5_3:=bb.size
    clear bb
    obtain ⟨a1, k1, b1, l1, c1, n1, d1_, p1, e1, q1, rfl, rfl, rfl, rfl, rfl⟩:=m1.form
    refine wpAnyH_ready (rs := [4, 5]) (by kernel_rfl) (by simp) (AllReadyH.cons rfl (fun KK hKK => ?_) (AllReadyH.cons rfl (fun KK hKK => ?_) AllReadyH.nil))
    ·go_simp
     refine (SP.out _ _ _ _ _ _ _ _ _ _ _ (m1.orep.rrep SM.out)).mono ?_
     rintro e wx5_5 ⟨u, v, rfl, oU, oV, bb⟩
     have bx5_6 : Below w1.heap.size w1 wx5_5:=bu bx5_4 bb
     clear hHeld
     refine hKK.out _ _ (K.out _ bx5_6) (fun hHeld => ?_)
     clear hKK KK bx5_4
     have swx5_5:=bb.size
     replace m1:=m1.below bb
     clear bb m1
     have toU:=World.ownsRow.lt oU
     obtain ⟨aoU, koU, rfl⟩:=oU.form
     have toV:=World.ownsRow.lt oV
     obtain ⟨aoV, koV, rfl⟩:=oV.form
     refine rd 5 rfl (fun KK hKK => ?_)
     go_simp
     obtain ⟨wx5_7, hq⟩ : ∃ y, wx5_5.alloc (.cells #[.slice none 0 0,.slice none 0 0] 60) = y:=⟨_, rfl⟩
     have bb : Below wx5_5.heap.size wx5_5 wx5_7:=hq ▸ qalloc _ _
     have bx5_8 : Below w1.heap.size w1 wx5_7:=bu bx5_6 bb
     have G : Loc wx5_7 wx5_5.heap.size #[.slice none 0 0,.slice none 0 0]:=hq ▸ loc_at wx5_5 _ _ rfl
     have zwx5_7 : wx5_7.heap.size = wx5_5.heap.size + 1:=by rw [← hq]; simp
     rw [hq]
     clear hHeld hq
     refine hKK.out _ _ (K.out _ bx5_8) (fun hHeld => ?_)
     clear hKK KK bx5_6
     have swx5_7:=bb.size
     replace oU:=oU.below bb
     replace oV:=oV.below bb
     clear bb
     refine rd 6 rfl (fun KK hKK => ?_)
     rw [if_pos (by rfl)]
     refine wp_store_mid 60 (.tmp 6) (.tmp 22) rfl (wx5_5.heap.size) 0 #[.slice aoU xs.length koU,.slice aoV ys.length koV] rfl rfl (G.there 0 2 (by simp)) (by kernel_rfl) (by simp [Value.oneCell']) ?_
     obtain ⟨wx5_9, hq⟩ : ∃ y, wx5_7.setCells (wx5_5.heap.size) 0 [.slice aoU xs.length koU, .slice aoV ys.length koV] = y:=⟨_, rfl⟩
     have kN : Kp wx5_7 wx5_9 (fun k => k = wx5_5.heap.size):=hq ▸ setCells_kp _ _ _ _
     have bx5_10:=Below.kp bx5_8 kN bx5_8.size (fun j e => by omega)
     replace G : Loc wx5_9 (wx5_5.heap.size) #[.slice aoU xs.length koU,.slice aoV ys.length koV]:=hq ▸ G.setCells _ _ rfl
     rw [show wx5_7.setCells (wx5_5.heap.size) 0 (Array.toList #[.slice aoU xs.length koU,.slice aoV ys.length koV]) = wx5_9 from hq]
     clear hHeld
     refine hKK.out _ _ (K.out _ bx5_10) (fun hHeld => ?_)
     clear hKK KK bx5_8
     replace oU:=oU.kp kN (fun j hj e => by have:=toU j hj; omega)
     replace oV:=oV.kp kN (fun j hj e => by have:=toV j hj; omega)
     have swx5_9:=kN.size
     clear hq kN hHeld
     refine wdn ?_
     have bW:=bx5_10
     clear K bx5_10
     go_wp2_with fail
     go_meet
     exact ⟨_, _, _, _, _, rfl, by omega, G.lt, G, oU.mono (by omega), oV.mono (by omega), bW⟩
    go_simp
    obtain ⟨wx5_11, hq⟩ : ∃ y, wx5_3.alloc (.cells #[.slice none 0 0,.slice none 0 0] 60) = y:=⟨_, rfl⟩
    have bb : Below wx5_3.heap.size wx5_3 wx5_11:=hq ▸ qalloc _ _
    have bx5_12 : Below w1.heap.size w1 wx5_11:=bu bx5_4 bb
    have G : Loc wx5_11 wx5_3.heap.size #[.slice none 0 0,.slice none 0 0]:=hq ▸ loc_at wx5_3 _ _ rfl
    have zwx5_11 : wx5_11.heap.size = wx5_3.heap.size + 1:=by rw [← hq]; simp
    rw [hq]
    clear hHeld hq
    refine hKK.out _ _ (K.out _ bx5_12) (fun hHeld => ?_)
    clear hKK KK bx5_4
    have swx5_11:=bb.size
    replace m1:=m1.below bb
    clear bb
    refine rd 4 rfl (fun KK hKK => ?_)
    go_simp
    refine (SP.out _ _ _ _ _ _ _ _ _ _ _ (m1.orep.rrep SM.out)).mono ?_
    rintro e wx5_13 ⟨u, v, rfl, oU, oV, bb⟩
    have bx5_14 : Below w1.heap.size w1 wx5_13:=bu bx5_12 bb
    clear hHeld
    refine hKK.out _ _ (K.out _ bx5_14) (fun hHeld => ?_)
    clear hKK KK bx5_12
    have swx5_13:=bb.size
    replace G:=G.up bb
    replace m1:=m1.below bb
    clear bb m1
    have toU:=World.ownsRow.lt oU
    obtain ⟨aoU, koU, rfl⟩:=oU.form
    have toV:=World.ownsRow.lt oV
    obtain ⟨aoV, koV, rfl⟩:=oV.form
    refine rd 6 rfl (fun KK hKK => ?_)
    rw [if_pos (by rfl)]
    refine wp_store_mid 60 (.tmp 6) (.tmp 22) rfl (wx5_3.heap.size) 0 #[.slice aoU xs.length koU,.slice aoV ys.length koV] rfl rfl (G.there 0 2 (by simp)) (by kernel_rfl) (by simp [Value.oneCell']) ?_
    obtain ⟨wx5_15, hq⟩ : ∃ y, wx5_13.setCells (wx5_3.heap.size) 0 [.slice aoU xs.length koU, .slice aoV ys.length koV] = y:=⟨_, rfl⟩
    have kN : Kp wx5_13 wx5_15 (fun k => k = wx5_3.heap.size):=hq ▸ setCells_kp _ _ _ _
    have bx5_16:=Below.kp bx5_14 kN bx5_14.size (fun j e => by omega)
    replace G : Loc wx5_15 (wx5_3.heap.size) #[.slice aoU xs.length koU,.slice aoV ys.length koV]:=hq ▸ G.setCells _ _ rfl
    rw [show wx5_13.setCells (wx5_3.heap.size) 0 (Array.toList #[.slice aoU xs.length koU,.slice aoV ys.length koV]) = wx5_15 from hq]
    clear hHeld
    refine hKK.out _ _ (K.out _ bx5_16) (fun hHeld => ?_)
    clear hKK KK bx5_14
    replace oU:=oU.kp kN (fun j hj e => by have:=toU j hj; omega)
    replace oV:=oV.kp kN (fun j hj e => by have:=toV j hj; omega)
    have swx5_15:=kN.size
    clear hq kN hHeld
    refine wdn ?_
    have bW:=bx5_16
    clear K bx5_16
    go_wp2_with fail
    go_meet
    exact ⟨_, _, _, _, _, rfl, by omega, G.lt, G, oU.mono (by omega), oV.mono (by omega), bW⟩
   go_simp
   obtain ⟨wx5_17, hq⟩ : ∃ y, wx5_1.alloc (.cells #[.slice none 0 0,.slice none 0 0] 60) = y:=⟨_, rfl⟩
   have bb : Below wx5_1.heap.size wx5_1 wx5_17:=hq ▸ qalloc _ _
   have bx5_18 : Below w1.heap.size w1 wx5_17:=bu bx5_2 bb
   have G : Loc wx5_17 wx5_1.heap.size #[.slice none 0 0,.slice none 0 0]:=hq ▸ loc_at wx5_1 _ _ rfl
   have zwx5_17 : wx5_17.heap.size = wx5_1.heap.size + 1:=by rw [← hq]; simp
   rw [hq]
   clear hHeld hq
   refine hKK.out _ _ (K.out _ bx5_18) (fun hHeld => ?_)
   clear hKK KK bx5_2
   have swx5_17:=bb.size
   clear bb
   refine rd 3 rfl (fun KK hKK => ?_)
   go_simp
   refine (TA.out _ (HI.out.below (bu Bw1 bx5_18))).mono ?_
   rintro e wx5_19 ⟨u1, u2, u3, u4, u5, rfl, m1, bb⟩
   have bx5_20 : Below w1.heap.size w1 wx5_19:=bu bx5_18 bb
   clear hHeld
   refine hKK.out _ _ (K.out _ bx5_20) (fun hHeld => ?_)
   clear hKK KK bx5_18
   have swx5_19:=bb.size
   replace G:=G.up bb
   clear bb
   obtain ⟨a1, k1, b1, l1, c1, n1, d1_, p1, e1, q1, rfl, rfl, rfl, rfl, rfl⟩:=m1.form
   refine rd 4 rfl (fun KK hKK => ?_)
   go_simp
   refine (SP.out _ _ _ _ _ _ _ _ _ _ _ (m1.orep.rrep SM.out)).mono ?_
   rintro e wx5_21 ⟨u, v, rfl, oU, oV, bb⟩
   have bx5_22 : Below w1.heap.size w1 wx5_21:=bu bx5_20 bb
   clear hHeld
   refine hKK.out _ _ (K.out _ bx5_22) (fun hHeld => ?_)
   clear hKK KK bx5_20
   have swx5_21:=bb.size
   replace G:=G.up bb
   replace m1:=m1.below bb
   clear bb m1
   have toU:=World.ownsRow.lt oU
   obtain ⟨aoU, koU, rfl⟩:=oU.form
   have toV:=World.ownsRow.lt oV
   obtain ⟨aoV, koV, rfl⟩:=oV.form
   refine rd 6 rfl (fun KK hKK => ?_)
   rw [if_pos (by rfl)]
   refine wp_store_mid 60 (.tmp 6) (.tmp 22) rfl (wx5_1.heap.size) 0 #[.slice aoU xs.length koU,.slice aoV ys.length koV] rfl rfl (G.there 0 2 (by simp)) (by kernel_rfl) (by simp [Value.oneCell']) ?_
   obtain ⟨wx5_23, hq⟩ : ∃ y, wx5_21.setCells (wx5_1.heap.size) 0 [.slice aoU xs.length koU, .slice aoV ys.length koV] = y:=⟨_, rfl⟩
   have kN : Kp wx5_21 wx5_23 (fun k => k = wx5_1.heap.size):=hq ▸ setCells_kp _ _ _ _
   have bx5_24:=Below.kp bx5_22 kN bx5_22.size (fun j e => by omega)
   replace G : Loc wx5_23 (wx5_1.heap.size) #[.slice aoU xs.length koU,.slice aoV ys.length koV]:=hq ▸ G.setCells _ _ rfl
   rw [show wx5_21.setCells (wx5_1.heap.size) 0 (Array.toList #[.slice aoU xs.length koU,.slice aoV ys.length koV]) = wx5_23 from hq]
   clear hHeld
   refine hKK.out _ _ (K.out _ bx5_24) (fun hHeld => ?_)
   clear hKK KK bx5_22
   replace oU:=oU.kp kN (fun j hj e => by have:=toU j hj; omega)
   replace oV:=oV.kp kN (fun j hj e => by have:=toV j hj; omega)
   have swx5_23:=kN.size
   clear hq kN hHeld
   refine wdn ?_
   have bW:=bx5_24
   clear K bx5_24
   go_wp2_with fail
   go_meet
   exact ⟨_, _, _, _, _, rfl, by omega, G.lt, G, oU.mono (by omega), oV.mono (by omega), bW⟩
  go_simp
  obtain ⟨wx5_25, hq⟩ : ∃ y, wd5.alloc (.cells #[.slice none 0 0,.slice none 0 0] 60) = y:=⟨_, rfl⟩
  have bb : Below wd5.heap.size wd5 wx5_25:=hq ▸ qalloc _ _
  have bx5_26 : Below w1.heap.size w1 wx5_25:=bu bA bb
  have G : Loc wx5_25 wd5.heap.size #[.slice none 0 0,.slice none 0 0]:=hq ▸ loc_at wd5 _ _ rfl
  have zwx5_25 : wx5_25.heap.size = wd5.heap.size + 1:=by rw [← hq]; simp
  rw [hq]
  clear hHeld hq
  refine hKK.out _ _ (K.out _ bx5_26) (fun hHeld => ?_)
  clear hKK KK bA
  have swx5_25:=bb.size
  clear bb
  refine rd 1 rfl (fun KK hKK => ?_)
  go_simp
  refine (TC.out _).mono ?_
  rintro e wx5_27 ⟨rfl, bb⟩
  have bx5_28 : Below w1.heap.size w1 wx5_27:=bu bx5_26 bb
  clear hHeld
  refine hKK.out _ _ (K.out _ bx5_28) (fun hHeld => ?_)
  clear hKK KK bx5_26
  have swx5_27:=bb.size
  replace G:=G.up bb
  clear bb
  refine rd 3 rfl (fun KK hKK => ?_)
  go_simp
  refine (TA.out _ (HI.out.below (bu Bw1 bx5_28))).mono ?_
  rintro e wx5_29 ⟨u1, u2, u3, u4, u5, rfl, m1, bb⟩
  have bx5_30 : Below w1.heap.size w1 wx5_29:=bu bx5_28 bb
  clear hHeld
  refine hKK.out _ _ (K.out _ bx5_30) (fun hHeld => ?_)
  clear hKK KK bx5_28
  have swx5_29:=bb.size
  replace G:=G.up bb
  clear bb
  obtain ⟨a1, k1, b1, l1, c1, n1, d1_, p1, e1, q1, rfl, rfl, rfl, rfl, rfl⟩:=m1.form
  refine rd 4 rfl (fun KK hKK => ?_)
  go_simp
  refine (SP.out _ _ _ _ _ _ _ _ _ _ _ (m1.orep.rrep SM.out)).mono ?_
  rintro e wx5_31 ⟨u, v, rfl, oU, oV, bb⟩
  have bx5_32 : Below w1.heap.size w1 wx5_31:=bu bx5_30 bb
  clear hHeld
  refine hKK.out _ _ (K.out _ bx5_32) (fun hHeld => ?_)
  clear hKK KK bx5_30
  have swx5_31:=bb.size
  replace G:=G.up bb
  replace m1:=m1.below bb
  clear bb m1
  have toU:=World.ownsRow.lt oU
  obtain ⟨aoU, koU, rfl⟩:=oU.form
  have toV:=World.ownsRow.lt oV
  obtain ⟨aoV, koV, rfl⟩:=oV.form
  refine rd 6 rfl (fun KK hKK => ?_)
  rw [if_pos (by rfl)]
  refine wp_store_mid 60 (.tmp 6) (.tmp 22) rfl (wd5.heap.size) 0 #[.slice aoU xs.length koU,.slice aoV ys.length koV] rfl rfl (G.there 0 2 (by simp)) (by kernel_rfl) (by simp [Value.oneCell']) ?_
  obtain ⟨wx5_33, hq⟩ : ∃ y, wx5_31.setCells (wd5.heap.size) 0 [.slice aoU xs.length koU, .slice aoV ys.length koV] = y:=⟨_, rfl⟩
  have kN : Kp wx5_31 wx5_33 (fun k => k = wd5.heap.size):=hq ▸ setCells_kp _ _ _ _
  have bx5_34:=Below.kp bx5_32 kN bx5_32.size (fun j e => by omega)
  replace G : Loc wx5_33 (wd5.heap.size) #[.slice aoU xs.length koU,.slice aoV ys.length koV]:=hq ▸ G.setCells _ _ rfl
  rw [show wx5_31.setCells (wd5.heap.size) 0 (Array.toList #[.slice aoU xs.length koU,.slice aoV ys.length koV]) = wx5_33 from hq]
  clear hHeld
  refine hKK.out _ _ (K.out _ bx5_34) (fun hHeld => ?_)
  clear hKK KK bx5_32
  replace oU:=oU.kp kN (fun j hj e => by have:=toU j hj; omega)
  replace oV:=oV.kp kN (fun j hj e => by have:=toV j hj; omega)
  have swx5_33:=kN.size
  clear hq kN hHeld
  refine wdn ?_
  have bW:=bx5_34
  clear K bx5_34
  go_wp2_with fail
  go_meet
  exact ⟨_, _, _, _, _, rfl, by omega, G.lt, G, oU.mono (by omega), oV.mono (by omega), bW⟩
 case rest =>
 obtain ⟨w2, hwq⟩ : ∃ x, x = wc:=⟨_, rfl⟩
 subst hwq
 obtain ⟨hG, aG, kG, bG, lG, rfl, hG1, hG2, G, oU, oV, bb⟩:=hcut
 have Bw2:=bu Bw1 bb
 have sw2:=bb.size
 replace LC:=LC.up bb
 replace LA:=LA.up bb
 clear Bw1 bb
 have toU:=World.ownsRow.lt oU
 have toV:=World.ownsRow.lt oV
 clear SP
 go_wp2_with (first | (refine wload LA 36 _ rfl _ rfl rfl Tryz.underlying36 rfl (by kernel_rfl) ?_))
 refine (TA.out _ (HI.out.below Bw2)).mono ?_
 rintro _ w3 ⟨u1, u2, u3, u4, u5, rfl, mX, bb⟩
 have Bw3:=bu Bw2 bb
 have sw3:=bb.size
 replace LC:=LC.up bb
 replace LA:=LA.up bb
 replace G:=G.up bb
 replace oU:=oU.below bb
 replace oV:=oV.below bb
 clear Bw2 bb
 obtain ⟨aX, kX, bX, lX, cX, nX, dX, pX, eX, qX, rfl, rfl, rfl, rfl, rfl⟩:=mX.form
 go_upto_region 7 with (refine wstore (loc_at w3 #[.int .i64 0,.int .i64 0,.int .i64 0,.int .i64 0,.int .i64 0,.int .i64 0,.string ⟨#[]⟩,.slice none 0 0,.string ⟨#[]⟩,.slice none 0 0,.slice none 0 0,.slice none 0 0,.int .i64 0,.slice none 0 0] 52 rfl) 52 #[.int .i64 t.id,.int .i64 t.vw,.int .i64 t.ak,.int .i64 t.vo,.int .i64 t.lo,.int .i64 t.n,.string t.s,.slice aX t.qw.length kX,.string t.d,.slice bX t.pool.length lX,.slice cX t.tab.length nX,.slice dX t.dsk.length pX,.int .i64 t.su,.slice eX t.held.length qX] rfl _ _ rfl rfl rfl (by kernel_rfl) rfl (by simp [Value.oneCell']) ?_)
 obtain ⟨w4, hw4⟩ : ∃ y, (w3.alloc (.cells #[.int .i64 0,.int .i64 0,.int .i64 0,.int .i64 0,.int .i64 0,.int .i64 0,.string ⟨#[]⟩,.slice none 0 0,.string ⟨#[]⟩,.slice none 0 0,.slice none 0 0,.slice none 0 0,.int .i64 0,.slice none 0 0] 52)).setRow w3.heap.size #[.int .i64 t.id,.int .i64 t.vw,.int .i64 t.ak,.int .i64 t.vo,.int .i64 t.lo,.int .i64 t.n,.string t.s,.slice aX t.qw.length kX,.string t.d,.slice bX t.pool.length lX,.slice cX t.tab.length nX,.slice dX t.dsk.length pX,.int .i64 t.su,.slice eX t.held.length qX] = y:=⟨_, rfl⟩
 rw [hw4]
 have bb : Below w3.heap.size w3 w4:=hw4 ▸ box_below _ _ _ _
 have X : Loc w4 w3.heap.size #[.int .i64 t.id,.int .i64 t.vw,.int .i64 t.ak,.int .i64 t.vo,.int .i64 t.lo,.int .i64 t.n,.string t.s,.slice aX t.qw.length kX,.string t.d,.slice bX t.pool.length lX,.slice cX t.tab.length nX,.slice dX t.dsk.length pX,.int .i64 t.su,.slice eX t.held.length qX]:=hw4 ▸ box_loc _ _ _ _
 have zw4 : w4.heap.size = w3.heap.size + 1:=by rw [← hw4]; exact box_size _ _ _ _
 clear hw4
 have Bw4:=bu Bw3 bb
 have sw4:=bb.size
 replace LC:=LC.up bb
 replace LA:=LA.up bb
 replace G:=G.up bb
 replace oU:=oU.below bb
 replace oV:=oV.below bb
 clear Bw3
 replace mX:=mX.below bb
 clear bb
 go_upto_region 7 with fail
 try simp only [Act.put, List.setIfInBounds_toArray, List.set_cons_zero, List.set_cons_succ]
 go_cut [8] (fun c wx => ∃ (h lo hi : Nat) (aG : Option Addr) (kG : Nat) (bG : Option Addr) (lG : Nat), c = .pointer (some ⟨h, 0, none⟩) ∧ w4.heap.size ≤ h ∧ h < wx.heap.size ∧ Loc wx h #[.slice aG xs.length kG,.slice bG ys.length lG] ∧ (w4.heap.size ≤ lo ∧ hi ≤ wx.heap.size ∧ (h < lo ∨ hi ≤ h)) ∧ OL wx lo hi (.slice aG xs.length kG) (.slice bG ys.length lG) xs ys ∧ Below w4.heap.size w4 wx)
 case first =>
  have K:=kw (ka (kc2 LC 0 1) (kl X))
  refine wra K (fun bA hHeld => ?_)
  obtain ⟨wd7, hwd⟩ : ∃ y, w4.drew = y:=⟨_, rfl⟩
  rw [hwd] at bA hHeld ⊢
  clear hwd
  have swd7:=bA.size
  refine tx 0 25 ?_
  refine take_at (i := 2) (d := 27) (v := .agg #[.int .i64 t.id,.int .i64 t.vw,.int .i64 t.ak,.int .i64 t.vo,.int .i64 t.lo,.int .i64 t.n,.string t.s,.slice aX t.qw.length kX,.string t.d,.slice bX t.pool.length lX,.slice cX t.tab.length nX,.slice dX t.dsk.length pX,.int .i64 t.su,.slice eX t.held.length qX]) rfl rfl (by kernel_rfl) (by kernel_rfl) (by kernel_rfl) (fun _ _ _ h => h) ?_ (by assumption) ?_
  ·exact yields_row rfl 52 _ rfl rfl _ (fun w h => h.2.2) Tryz.underlying52 rfl (by kernel_rfl)
  simp only [pU]
  refine wpAnyH_ready (rs := [1, 4]) (by kernel_rfl) (by simp) (AllReadyH.cons rfl (fun KK hKK => ?_) (AllReadyH.cons rfl (fun KK hKK => ?_) AllReadyH.nil))
  ·go_simp
   refine (TC.out _).mono ?_
   rintro e wx7_1 ⟨rfl, bb⟩
   have bx7_2 : Below w4.heap.size w4 wx7_1:=bu bA bb
   clear hHeld
   refine hKK.out _ _ (K.out _ bx7_2) (fun hHeld => ?_)
   clear hKK KK bA
   have swx7_1:=bb.size
   clear bb
   refine wpAnyH_ready (rs := [3, 4]) (by kernel_rfl) (by simp) (AllReadyH.cons rfl (fun KK hKK => ?_) (AllReadyH.cons rfl (fun KK hKK => ?_) AllReadyH.nil))
   ·go_simp
    refine (IM.out _ _ _ _ _ _ _ _ _ _ _ (EB.out _ _ HE.out (bu Bw4 bx7_2)) ((mX.below bx7_2).orep.rrep SM.out)).mono ?_
    rintro e wx7_3 ⟨u, v, rfl, oL, bb⟩
    have bx7_4 : Below w4.heap.size w4 wx7_3:=bu bx7_2 bb
    clear hHeld
    refine hKK.out _ _ (K.out _ bx7_4) (fun hHeld => ?_)
    clear hKK KK bx7_2
    have swx7_3:=bb.size
    clear bb
    obtain ⟨hiL, hhi⟩ : ∃ m, wx7_3.heap.size = m:=⟨_, rfl⟩
    rw [hhi] at oL
    have hh1:=Nat.le_of_eq hhi
    have hh2:=Nat.le_of_eq hhi.symm
    clear hhi
    obtain ⟨aoU, koU, rfl⟩:=oL.has.form
    obtain ⟨aoV, koV, rfl⟩:=oL.next.form
    refine rd 4 rfl (fun KK hKK => ?_)
    go_simp
    obtain ⟨wx7_5, hq⟩ : ∃ y, wx7_3.alloc (.cells #[.slice none 0 0,.slice none 0 0] 60) = y:=⟨_, rfl⟩
    have bb : Below wx7_3.heap.size wx7_3 wx7_5:=hq ▸ qalloc _ _
    have bx7_6 : Below w4.heap.size w4 wx7_5:=bu bx7_4 bb
    have H : Loc wx7_5 wx7_3.heap.size #[.slice none 0 0,.slice none 0 0]:=hq ▸ loc_at wx7_3 _ _ rfl
    have zwx7_5 : wx7_5.heap.size = wx7_3.heap.size + 1:=by rw [← hq]; simp
    rw [hq]
    clear hHeld hq
    refine hKK.out _ _ (K.out _ bx7_6) (fun hHeld => ?_)
    clear hKK KK bx7_4
    have swx7_5:=bb.size
    replace oL:=oL.below bb
    clear bb
    refine rd 5 rfl (fun KK hKK => ?_)
    rw [if_pos (by rfl)]
    refine wp_store_mid 60 (.tmp 8) (.tmp 28) rfl (wx7_3.heap.size) 0 #[.slice aoU xs.length koU,.slice aoV ys.length koV] rfl rfl (H.there 0 2 (by simp)) (by kernel_rfl) (by simp [Value.oneCell']) ?_
    obtain ⟨wx7_7, hq⟩ : ∃ y, wx7_5.setCells (wx7_3.heap.size) 0 [.slice aoU xs.length koU, .slice aoV ys.length koV] = y:=⟨_, rfl⟩
    have kN : Kp wx7_5 wx7_7 (fun k => k = wx7_3.heap.size):=hq ▸ setCells_kp _ _ _ _
    have bx7_8:=Below.kp bx7_6 kN bx7_6.size (fun j e => by omega)
    replace H : Loc wx7_7 (wx7_3.heap.size) #[.slice aoU xs.length koU,.slice aoV ys.length koV]:=hq ▸ H.setCells _ _ rfl
    rw [show wx7_5.setCells (wx7_3.heap.size) 0 (Array.toList #[.slice aoU xs.length koU,.slice aoV ys.length koV]) = wx7_7 from hq]
    clear hHeld
    refine hKK.out _ _ (K.out _ bx7_8) (fun hHeld => ?_)
    clear hKK KK bx7_6
    replace oL:=oL.kp kN (fun j h1 h2 e => by omega)
    have swx7_7:=kN.size
    clear hq kN hHeld
    refine wdn ?_
    have bW:=bx7_8
    clear K bx7_8
    go_wp2_with fail
    go_meet
    refine ⟨_, _, _, _, _, _, _, rfl, ?_, H.lt, H, ⟨?_, ?_, ?_⟩, oL, bW⟩ <;> omega
   go_simp
   obtain ⟨wx7_9, hq⟩ : ∃ y, wx7_1.alloc (.cells #[.slice none 0 0,.slice none 0 0] 60) = y:=⟨_, rfl⟩
   have bb : Below wx7_1.heap.size wx7_1 wx7_9:=hq ▸ qalloc _ _
   have bx7_10 : Below w4.heap.size w4 wx7_9:=bu bx7_2 bb
   have H : Loc wx7_9 wx7_1.heap.size #[.slice none 0 0,.slice none 0 0]:=hq ▸ loc_at wx7_1 _ _ rfl
   have zwx7_9 : wx7_9.heap.size = wx7_1.heap.size + 1:=by rw [← hq]; simp
   rw [hq]
   clear hHeld hq
   refine hKK.out _ _ (K.out _ bx7_10) (fun hHeld => ?_)
   clear hKK KK bx7_2
   have swx7_9:=bb.size
   clear bb
   refine rd 3 rfl (fun KK hKK => ?_)
   go_simp
   refine (IM.out _ _ _ _ _ _ _ _ _ _ _ (EB.out _ _ HE.out (bu Bw4 bx7_10)) ((mX.below bx7_10).orep.rrep SM.out)).mono ?_
   rintro e wx7_11 ⟨u, v, rfl, oL, bb⟩
   have bx7_12 : Below w4.heap.size w4 wx7_11:=bu bx7_10 bb
   clear hHeld
   refine hKK.out _ _ (K.out _ bx7_12) (fun hHeld => ?_)
   clear hKK KK bx7_10
   have swx7_11:=bb.size
   replace H:=H.up bb
   clear bb
   obtain ⟨hiL, hhi⟩ : ∃ m, wx7_11.heap.size = m:=⟨_, rfl⟩
   rw [hhi] at oL
   have hh1:=Nat.le_of_eq hhi
   have hh2:=Nat.le_of_eq hhi.symm
   clear hhi
   obtain ⟨aoU, koU, rfl⟩:=oL.has.form
   obtain ⟨aoV, koV, rfl⟩:=oL.next.form
   refine rd 5 rfl (fun KK hKK => ?_)
   rw [if_pos (by rfl)]
   refine wp_store_mid 60 (.tmp 8) (.tmp 28) rfl (wx7_1.heap.size) 0 #[.slice aoU xs.length koU,.slice aoV ys.length koV] rfl rfl (H.there 0 2 (by simp)) (by kernel_rfl) (by simp [Value.oneCell']) ?_
   obtain ⟨wx7_13, hq⟩ : ∃ y, wx7_11.setCells (wx7_1.heap.size) 0 [.slice aoU xs.length koU, .slice aoV ys.length koV] = y:=⟨_, rfl⟩
   have kN : Kp wx7_11 wx7_13 (fun k => k = wx7_1.heap.size):=hq ▸ setCells_kp _ _ _ _
   have bx7_14:=Below.kp bx7_12 kN bx7_12.size (fun j e => by omega)
   replace H : Loc wx7_13 (wx7_1.heap.size) #[.slice aoU xs.length koU,.slice aoV ys.length koV]:=hq ▸ H.setCells _ _ rfl
   rw [show wx7_11.setCells (wx7_1.heap.size) 0 (Array.toList #[.slice aoU xs.length koU,.slice aoV ys.length koV]) = wx7_13 from hq]
   clear hHeld
   refine hKK.out _ _ (K.out _ bx7_14) (fun hHeld => ?_)
   clear hKK KK bx7_12
   replace oL:=oL.kp kN (fun j h1 h2 e => by omega)
   have swx7_13:=kN.size
   clear hq kN hHeld
   refine wdn ?_
   have bW:=bx7_14
   clear K bx7_14
   go_wp2_with fail
   go_meet
   refine ⟨_, _, _, _, _, _, _, rfl, ?_, H.lt, H, ⟨?_, ?_, ?_⟩, oL, bW⟩ <;> omega
  go_simp
  obtain ⟨wx7_15, hq⟩ : ∃ y, wd7.alloc (.cells #[.slice none 0 0,.slice none 0 0] 60) = y:=⟨_, rfl⟩
  have bb : Below wd7.heap.size wd7 wx7_15:=hq ▸ qalloc _ _
  have bx7_16 : Below w4.heap.size w4 wx7_15:=bu bA bb
  have H : Loc wx7_15 wd7.heap.size #[.slice none 0 0,.slice none 0 0]:=hq ▸ loc_at wd7 _ _ rfl
  have zwx7_15 : wx7_15.heap.size = wd7.heap.size + 1:=by rw [← hq]; simp
  rw [hq]
  clear hHeld hq
  refine hKK.out _ _ (K.out _ bx7_16) (fun hHeld => ?_)
  clear hKK KK bA
  have swx7_15:=bb.size
  clear bb
  refine rd 1 rfl (fun KK hKK => ?_)
  go_simp
  refine (TC.out _).mono ?_
  rintro e wx7_17 ⟨rfl, bb⟩
  have bx7_18 : Below w4.heap.size w4 wx7_17:=bu bx7_16 bb
  clear hHeld
  refine hKK.out _ _ (K.out _ bx7_18) (fun hHeld => ?_)
  clear hKK KK bx7_16
  have swx7_17:=bb.size
  replace H:=H.up bb
  clear bb
  refine rd 3 rfl (fun KK hKK => ?_)
  go_simp
  refine (IM.out _ _ _ _ _ _ _ _ _ _ _ (EB.out _ _ HE.out (bu Bw4 bx7_18)) ((mX.below bx7_18).orep.rrep SM.out)).mono ?_
  rintro e wx7_19 ⟨u, v, rfl, oL, bb⟩
  have bx7_20 : Below w4.heap.size w4 wx7_19:=bu bx7_18 bb
  clear hHeld
  refine hKK.out _ _ (K.out _ bx7_20) (fun hHeld => ?_)
  clear hKK KK bx7_18
  have swx7_19:=bb.size
  replace H:=H.up bb
  clear bb
  obtain ⟨hiL, hhi⟩ : ∃ m, wx7_19.heap.size = m:=⟨_, rfl⟩
  rw [hhi] at oL
  have hh1:=Nat.le_of_eq hhi
  have hh2:=Nat.le_of_eq hhi.symm
  clear hhi
  obtain ⟨aoU, koU, rfl⟩:=oL.has.form
  obtain ⟨aoV, koV, rfl⟩:=oL.next.form
  refine rd 5 rfl (fun KK hKK => ?_)
  rw [if_pos (by rfl)]
  refine wp_store_mid 60 (.tmp 8) (.tmp 28) rfl (wd7.heap.size) 0 #[.slice aoU xs.length koU,.slice aoV ys.length koV] rfl rfl (H.there 0 2 (by simp)) (by kernel_rfl) (by simp [Value.oneCell']) ?_
  obtain ⟨wx7_21, hq⟩ : ∃ y, wx7_19.setCells (wd7.heap.size) 0 [.slice aoU xs.length koU, .slice aoV ys.length koV] = y:=⟨_, rfl⟩
  have kN : Kp wx7_19 wx7_21 (fun k => k = wd7.heap.size):=hq ▸ setCells_kp _ _ _ _
  have bx7_22:=Below.kp bx7_20 kN bx7_20.size (fun j e => by omega)
  replace H : Loc wx7_21 (wd7.heap.size) #[.slice aoU xs.length koU,.slice aoV ys.length koV]:=hq ▸ H.setCells _ _ rfl
  rw [show wx7_19.setCells (wd7.heap.size) 0 (Array.toList #[.slice aoU xs.length koU,.slice aoV ys.length koV]) = wx7_21 from hq]
  clear hHeld
  refine hKK.out _ _ (K.out _ bx7_22) (fun hHeld => ?_)
  clear hKK KK bx7_20
  replace oL:=oL.kp kN (fun j h1 h2 e => by omega)
  have swx7_21:=kN.size
  clear hq kN hHeld
  refine wdn ?_
  have bW:=bx7_22
  clear K bx7_22
  go_wp2_with fail
  go_meet
  refine ⟨_, _, _, _, _, _, _, rfl, ?_, H.lt, H, ⟨?_, ?_, ?_⟩, oL, bW⟩ <;> omega
 case rest =>
 obtain ⟨w5, hwq⟩ : ∃ x, x = wc:=⟨_, rfl⟩
 subst hwq
 obtain ⟨hH, loH, hiH, aH, kH, bH, lH, rfl, hH1, hH2, H, ⟨rH1, rH2, rH3⟩, oH, bb⟩:=hcut
 have Bw5:=bu Bw4 bb
 have sw5:=bb.size
 replace LC:=LC.up bb
 replace LA:=LA.up bb
 replace G:=G.up bb
 replace X:=X.up bb
 replace oU:=oU.below bb
 replace oV:=oV.below bb
 clear Bw4
 replace mX:=mX.below bb
 clear bb
 go_wp2_with (first | (refine wload H 60 _ rfl _ rfl rfl Tryz.underlying60 rfl (by kernel_rfl) ?_) | (refine wload G 60 _ rfl _ rfl rfl Tryz.underlying60 rfl (by kernel_rfl) ?_))
 refine (EL.out _ _ _ _ _ (oH.ri (by omega) (by omega)) ⟨oU.ri (by omega), oV.ri (by omega)⟩).mono ?_
 rintro _ w6 ⟨rfl, bb⟩
 have Bw6:=bu Bw5 bb
 have sw6:=bb.size
 replace LC:=LC.up bb
 replace LA:=LA.up bb
 replace G:=G.up bb
 replace X:=X.up bb
 replace H:=H.up bb
 replace oU:=oU.below bb
 replace oV:=oV.below bb
 clear Bw5
 replace mX:=mX.below bb
 replace oH:=oH.below bb
 clear bb
 have RX:=hide fun w' (hb' : Below w6.heap.size w6 w') => (mX.below hb').orep.rrep SM.out
 have K:=kw (ka (kl LA) (kl X))
 go_upto_region 10 with fail
 refine wra K (fun bA hHeld => ?_)
 refine take_at (i := 0) (d := 33) (v := .agg #[.int .i64 t.id,.int .i64 t.vw,.int .i64 t.ak,.int .i64 t.vo,.int .i64 t.lo,.int .i64 t.n,.string t.s,.slice aX t.qw.length kX,.string t.d,.slice bX t.pool.length lX,.slice cX t.tab.length nX,.slice dX t.dsk.length pX,.int .i64 t.su,.slice eX t.held.length qX]) rfl rfl (by kernel_rfl) (by kernel_rfl) (by kernel_rfl) (fun _ _ _ h => h) ?_ (by assumption) ?_
 ·exact yields_row rfl 52 _ rfl rfl _ (fun w h => h.2.2) Tryz.underlying52 rfl (by kernel_rfl)
 simp only [pU]
 refine take_at (i := 1) (d := 34) (v := .agg #[.int .i64 t.id,.int .i64 t.vw,.int .i64 t.ak,.int .i64 t.vo,.int .i64 t.lo,.int .i64 t.n,.string t.s,.slice ao t.qw.length ca,.string t.d,.slice bo t.pool.length cb,.slice co t.tab.length cc,.slice od t.dsk.length cd,.int .i64 t.su,.slice oe t.held.length ce]) rfl rfl (by kernel_rfl) (by kernel_rfl) (by kernel_rfl) (fun _ _ _ h => h) ?_ (by assumption) ?_
 ·exact yields_row rfl 36 _ rfl rfl _ (fun w h => h.2.1) Tryz.underlying36 rfl (by kernel_rfl)
 simp only [pU]
 refine rd 2 rfl (fun KK hKK => ?_)
 go_simp
 have hgo:=bA
 refine (TA.out _ (HI.out.below (bu Bw6 hgo))).mono ?_
 rintro e wz10_1 ⟨u1, u2, u3, u4, u5, rfl, m1, bb⟩
 have bz1 : Below w6.heap.size w6 wz10_1:=bu bA bb
 have R1:=hide (m1.orep.rrep SM.out)
 clear m1 bA hgo bb hHeld
 refine hKK.out _ _ (K.out _ bz1) (fun hHeld => ?_)
 clear hKK KK
 refine rd 3 rfl (fun KK hKK => ?_)
 go_simp
 have hgo:=bz1
 refine (EQ.out _ _ _ _ _ _ _ _ _ _ _ (RX.out _ hgo) R1.out).mono ?_
 rintro e wz10_2 ⟨rfl, bb⟩
 have bz2 : Below w6.heap.size w6 wz10_2:=bu bz1 bb
 clear R1 RX bz1 hgo bb hHeld
 refine hKK.out _ _ (K.out _ bz2) (fun hHeld => ?_)
 clear hKK KK
 refine tx 4 37 ?_
 clear hHeld
 refine wdn ?_
 have bb:=bz2
 have Bwz10_2:=bu Bw6 bb
 have swz10_2:=bb.size
 replace LC:=LC.up bb
 replace LA:=LA.up bb
 replace G:=G.up bb
 replace X:=X.up bb
 replace H:=H.up bb
 replace oU:=oU.below bb
 replace oV:=oV.below bb
 clear Bw6
 replace mX:=mX.below bb
 replace oH:=oH.below bb
 clear bb bz2 K
 have mX2:=hide mX
 clear mX
 go_wp2_with (first | (refine wload X 52 _ rfl _ rfl rfl Tryz.underlying52 rfl (by kernel_rfl) ?_))
 refine (MR.out _ _ _ _ _ _ _ _ mX2.out).mono ?_
 rintro _ w7 ⟨rfl, _, kN⟩
 replace LC:=LC.kp kN (fun e => by obtain ⟨h5, h6⟩:=e; omega)
 replace LA:=LA.kp kN (fun e => by obtain ⟨h5, h6⟩:=e; omega)
 replace G:=G.kp kN (fun e => by obtain ⟨h5, h6⟩:=e; omega)
 replace X:=X.kp kN (fun e => by obtain ⟨h5, h6⟩:=e; omega)
 replace H:=H.kp kN (fun e => by obtain ⟨h5, h6⟩:=e; omega)
 replace oU:=oU.kp kN (fun j hj e => by obtain ⟨h5, h6⟩:=e; have:=toU j hj; omega)
 replace oV:=oV.kp kN (fun j hj e => by obtain ⟨h5, h6⟩:=e; have:=toV j hj; omega)
 replace oH:=oH.kp kN (fun j h1 h2 e => by obtain ⟨h5, h6⟩:=e; omega)
 have Bw7:=Below.kp Bwz10_2 kN Bwz10_2.size (fun j e => by obtain ⟨h5, h6⟩:=e; omega)
 have sw7:=kN.size
 clear kN Bwz10_2 mX2 MR
 go_wp2_with (first | (refine wload H 60 _ rfl _ rfl rfl Tryz.underlying60 rfl (by kernel_rfl) ?_) | (refine wload G 60 _ rfl _ rfl rfl Tryz.underlying60 rfl (by kernel_rfl) ?_))
 refine (EL.out _ _ _ _ _ (oH.ri (by omega) (by omega)) ⟨oU.ri (by omega), oV.ri (by omega)⟩).mono ?_
 rintro _ w8 ⟨rfl, bb⟩
 have Bw8:=bu Bw7 bb
 have sw8:=bb.size
 replace LC:=LC.up bb
 replace LA:=LA.up bb
 replace G:=G.up bb
 replace X:=X.up bb
 replace H:=H.up bb
 replace oU:=oU.below bb
 replace oV:=oV.below bb
 clear Bw7
 replace oH:=oH.below bb
 clear bb
 have oH2:=hide oH
 clear oH
 go_wp2_with (first | (refine wload H 60 _ rfl _ rfl rfl Tryz.underlying60 rfl (by kernel_rfl) ?_))
 refine (ML.out _ _ _ _ _ (by omega) oH2.out).mono ?_
 rintro _ w9 ⟨rfl, oH, kN⟩
 replace LC:=LC.kp kN (fun e => by obtain ⟨h5, h6⟩:=e; omega)
 replace LA:=LA.kp kN (fun e => by obtain ⟨h5, h6⟩:=e; omega)
 replace G:=G.kp kN (fun e => by obtain ⟨h5, h6⟩:=e; omega)
 replace X:=X.kp kN (fun e => by obtain ⟨h5, h6⟩:=e; omega)
 replace H:=H.kp kN (fun e => by obtain ⟨h5, h6⟩:=e; omega)
 replace oU:=oU.kp kN (fun j hj e => by obtain ⟨h5, h6⟩:=e; have:=toU j hj; omega)
 replace oV:=oV.kp kN (fun j hj e => by obtain ⟨h5, h6⟩:=e; have:=toV j hj; omega)
 have Bw9:=Below.kp Bw8 kN Bw8.size (fun j e => by obtain ⟨h5, h6⟩:=e; omega)
 have sw9:=kN.size
 clear kN Bw8 oH2 ML
 go_wp2_with (first | (refine wload H 60 _ rfl _ rfl rfl Tryz.underlying60 rfl (by kernel_rfl) ?_))
 refine (HL.out _ _ _ ⟨oH.has.ri (by simp only [imarks_len]; omega), oH.next.ri (by simp only [imarks_len]; omega)⟩).mono ?_
 rintro _ w10 ⟨rfl, bb⟩
 have Bw10:=bu Bw9 bb
 have sw10:=bb.size
 replace LC:=LC.up bb
 replace LA:=LA.up bb
 replace G:=G.up bb
 replace X:=X.up bb
 replace H:=H.up bb
 replace oU:=oU.below bb
 replace oV:=oV.below bb
 clear Bw9
 replace oH:=oH.below bb
 clear bb
 go_upto_region 24 with fail
 try simp only [Act.put, List.setIfInBounds_toArray, List.set_cons_zero, List.set_cons_succ]
 go_cut [12] (fun c wx => ∃ (h lo hi : Nat) (aG : Option Addr) (kG : Nat) (bG : Option Addr) (lG : Nat), c = .pointer (some ⟨h, 0, none⟩) ∧ w10.heap.size ≤ h ∧ h < wx.heap.size ∧ Loc wx h #[.slice aG xs.length kG,.slice bG ys.length lG] ∧ (w10.heap.size ≤ lo ∧ hi ≤ wx.heap.size ∧ (h < lo ∨ hi ≤ h)) ∧ OL wx lo hi (.slice aG xs.length kG) (.slice bG ys.length lG) xs ys ∧ Below w10.heap.size w10 wx)
 case first =>
  have K:=kw (ka (kc2 LC 0 1) (kl LA))
  refine wra K (fun bA hHeld => ?_)
  obtain ⟨wd24, hwd⟩ : ∃ y, w10.drew = y:=⟨_, rfl⟩
  rw [hwd] at bA hHeld ⊢
  clear hwd
  have swd24:=bA.size
  refine tx 0 60 ?_
  refine take_at (i := 2) (d := 62) (v := .agg #[.int .i64 t.id,.int .i64 t.vw,.int .i64 t.ak,.int .i64 t.vo,.int .i64 t.lo,.int .i64 t.n,.string t.s,.slice ao t.qw.length ca,.string t.d,.slice bo t.pool.length cb,.slice co t.tab.length cc,.slice od t.dsk.length cd,.int .i64 t.su,.slice oe t.held.length ce]) rfl rfl (by kernel_rfl) (by kernel_rfl) (by kernel_rfl) (fun _ _ _ h => h) ?_ (by assumption) ?_
  ·exact yields_row rfl 36 _ rfl rfl _ (fun w h => h.2.2) Tryz.underlying36 rfl (by kernel_rfl)
  simp only [pU]
  refine wpAnyH_ready (rs := [1, 5]) (by kernel_rfl) (by simp) (AllReadyH.cons rfl (fun KK hKK => ?_) (AllReadyH.cons rfl (fun KK hKK => ?_) AllReadyH.nil))
  ·go_simp
   refine (TC.out _).mono ?_
   rintro e wx24_1 ⟨rfl, bb⟩
   have bx24_2 : Below w10.heap.size w10 wx24_1:=bu bA bb
   clear hHeld
   refine hKK.out _ _ (K.out _ bx24_2) (fun hHeld => ?_)
   clear hKK KK bA
   have swx24_1:=bb.size
   clear bb
   refine wpAnyH_ready (rs := [3, 5]) (by kernel_rfl) (by simp) (AllReadyH.cons rfl (fun KK hKK => ?_) (AllReadyH.cons rfl (fun KK hKK => ?_) AllReadyH.nil))
   ·go_simp
    refine (TA.out _ (HI.out.below (bu Bw10 bx24_2))).mono ?_
    rintro e wx24_3 ⟨u1, u2, u3, u4, u5, rfl, m1, bb⟩
    have bx24_4 : Below w10.heap.size w10 wx24_3:=bu bx24_2 bb
    clear hHeld
    refine hKK.out _ _ (K.out _ bx24_4) (fun hHeld => ?_)
    clear hKK KK bx24_2
    have swx24_3:=bb.size
    clear bb
    obtain ⟨a1, k1, b1, l1, c1, n1, d1_, p1, e1, q1, rfl, rfl, rfl, rfl, rfl⟩:=m1.form
    refine wpAnyH_ready (rs := [4, 5]) (by kernel_rfl) (by simp) (AllReadyH.cons rfl (fun KK hKK => ?_) (AllReadyH.cons rfl (fun KK hKK => ?_) AllReadyH.nil))
    ·go_simp
     refine (IM.out _ _ _ _ _ _ _ _ _ _ _ (EB.out _ _ HE.out (bu Bw10 bx24_4)) (m1.orep.rrep SM.out)).mono ?_
     rintro e wx24_5 ⟨u, v, rfl, oL, bb⟩
     have bx24_6 : Below w10.heap.size w10 wx24_5:=bu bx24_4 bb
     clear hHeld
     refine hKK.out _ _ (K.out _ bx24_6) (fun hHeld => ?_)
     clear hKK KK bx24_4
     have swx24_5:=bb.size
     replace m1:=m1.below bb
     clear bb m1
     obtain ⟨hiL, hhi⟩ : ∃ m, wx24_5.heap.size = m:=⟨_, rfl⟩
     rw [hhi] at oL
     have hh1:=Nat.le_of_eq hhi
     have hh2:=Nat.le_of_eq hhi.symm
     clear hhi
     obtain ⟨aoU, koU, rfl⟩:=oL.has.form
     obtain ⟨aoV, koV, rfl⟩:=oL.next.form
     refine rd 5 rfl (fun KK hKK => ?_)
     go_simp
     obtain ⟨wx24_7, hq⟩ : ∃ y, wx24_5.alloc (.cells #[.slice none 0 0,.slice none 0 0] 60) = y:=⟨_, rfl⟩
     have bb : Below wx24_5.heap.size wx24_5 wx24_7:=hq ▸ qalloc _ _
     have bx24_8 : Below w10.heap.size w10 wx24_7:=bu bx24_6 bb
     have N : Loc wx24_7 wx24_5.heap.size #[.slice none 0 0,.slice none 0 0]:=hq ▸ loc_at wx24_5 _ _ rfl
     have zwx24_7 : wx24_7.heap.size = wx24_5.heap.size + 1:=by rw [← hq]; simp
     rw [hq]
     clear hHeld hq
     refine hKK.out _ _ (K.out _ bx24_8) (fun hHeld => ?_)
     clear hKK KK bx24_6
     have swx24_7:=bb.size
     replace oL:=oL.below bb
     clear bb
     refine rd 6 rfl (fun KK hKK => ?_)
     rw [if_pos (by rfl)]
     refine wp_store_mid 60 (.tmp 12) (.tmp 64) rfl (wx24_5.heap.size) 0 #[.slice aoU xs.length koU,.slice aoV ys.length koV] rfl rfl (N.there 0 2 (by simp)) (by kernel_rfl) (by simp [Value.oneCell']) ?_
     obtain ⟨wx24_9, hq⟩ : ∃ y, wx24_7.setCells (wx24_5.heap.size) 0 [.slice aoU xs.length koU, .slice aoV ys.length koV] = y:=⟨_, rfl⟩
     have kN : Kp wx24_7 wx24_9 (fun k => k = wx24_5.heap.size):=hq ▸ setCells_kp _ _ _ _
     have bx24_10:=Below.kp bx24_8 kN bx24_8.size (fun j e => by omega)
     replace N : Loc wx24_9 (wx24_5.heap.size) #[.slice aoU xs.length koU,.slice aoV ys.length koV]:=hq ▸ N.setCells _ _ rfl
     rw [show wx24_7.setCells (wx24_5.heap.size) 0 (Array.toList #[.slice aoU xs.length koU,.slice aoV ys.length koV]) = wx24_9 from hq]
     clear hHeld
     refine hKK.out _ _ (K.out _ bx24_10) (fun hHeld => ?_)
     clear hKK KK bx24_8
     replace oL:=oL.kp kN (fun j h1 h2 e => by omega)
     have swx24_9:=kN.size
     clear hq kN hHeld
     refine wdn ?_
     have bW:=bx24_10
     clear K bx24_10
     go_wp2_with fail
     go_meet
     refine ⟨_, _, _, _, _, _, _, rfl, ?_, N.lt, N, ⟨?_, ?_, ?_⟩, oL, bW⟩ <;> omega
    go_simp
    obtain ⟨wx24_11, hq⟩ : ∃ y, wx24_3.alloc (.cells #[.slice none 0 0,.slice none 0 0] 60) = y:=⟨_, rfl⟩
    have bb : Below wx24_3.heap.size wx24_3 wx24_11:=hq ▸ qalloc _ _
    have bx24_12 : Below w10.heap.size w10 wx24_11:=bu bx24_4 bb
    have N : Loc wx24_11 wx24_3.heap.size #[.slice none 0 0,.slice none 0 0]:=hq ▸ loc_at wx24_3 _ _ rfl
    have zwx24_11 : wx24_11.heap.size = wx24_3.heap.size + 1:=by rw [← hq]; simp
    rw [hq]
    clear hHeld hq
    refine hKK.out _ _ (K.out _ bx24_12) (fun hHeld => ?_)
    clear hKK KK bx24_4
    have swx24_11:=bb.size
    replace m1:=m1.below bb
    clear bb
    refine rd 4 rfl (fun KK hKK => ?_)
    go_simp
    refine (IM.out _ _ _ _ _ _ _ _ _ _ _ (EB.out _ _ HE.out (bu Bw10 bx24_12)) (m1.orep.rrep SM.out)).mono ?_
    rintro e wx24_13 ⟨u, v, rfl, oL, bb⟩
    have bx24_14 : Below w10.heap.size w10 wx24_13:=bu bx24_12 bb
    clear hHeld
    refine hKK.out _ _ (K.out _ bx24_14) (fun hHeld => ?_)
    clear hKK KK bx24_12
    have swx24_13:=bb.size
    replace N:=N.up bb
    replace m1:=m1.below bb
    clear bb m1
    obtain ⟨hiL, hhi⟩ : ∃ m, wx24_13.heap.size = m:=⟨_, rfl⟩
    rw [hhi] at oL
    have hh1:=Nat.le_of_eq hhi
    have hh2:=Nat.le_of_eq hhi.symm
    clear hhi
    obtain ⟨aoU, koU, rfl⟩:=oL.has.form
    obtain ⟨aoV, koV, rfl⟩:=oL.next.form
    refine rd 6 rfl (fun KK hKK => ?_)
    rw [if_pos (by rfl)]
    refine wp_store_mid 60 (.tmp 12) (.tmp 64) rfl (wx24_3.heap.size) 0 #[.slice aoU xs.length koU,.slice aoV ys.length koV] rfl rfl (N.there 0 2 (by simp)) (by kernel_rfl) (by simp [Value.oneCell']) ?_
    obtain ⟨wx24_15, hq⟩ : ∃ y, wx24_13.setCells (wx24_3.heap.size) 0 [.slice aoU xs.length koU, .slice aoV ys.length koV] = y:=⟨_, rfl⟩
    have kN : Kp wx24_13 wx24_15 (fun k => k = wx24_3.heap.size):=hq ▸ setCells_kp _ _ _ _
    have bx24_16:=Below.kp bx24_14 kN bx24_14.size (fun j e => by omega)
    replace N : Loc wx24_15 (wx24_3.heap.size) #[.slice aoU xs.length koU,.slice aoV ys.length koV]:=hq ▸ N.setCells _ _ rfl
    rw [show wx24_13.setCells (wx24_3.heap.size) 0 (Array.toList #[.slice aoU xs.length koU,.slice aoV ys.length koV]) = wx24_15 from hq]
    clear hHeld
    refine hKK.out _ _ (K.out _ bx24_16) (fun hHeld => ?_)
    clear hKK KK bx24_14
    replace oL:=oL.kp kN (fun j h1 h2 e => by omega)
    have swx24_15:=kN.size
    clear hq kN hHeld
    refine wdn ?_
    have bW:=bx24_16
    clear K bx24_16
    go_wp2_with fail
    go_meet
    refine ⟨_, _, _, _, _, _, _, rfl, ?_, N.lt, N, ⟨?_, ?_, ?_⟩, oL, bW⟩ <;> omega
   go_simp
   obtain ⟨wx24_17, hq⟩ : ∃ y, wx24_1.alloc (.cells #[.slice none 0 0,.slice none 0 0] 60) = y:=⟨_, rfl⟩
   have bb : Below wx24_1.heap.size wx24_1 wx24_17:=hq ▸ qalloc _ _
   have bx24_18 : Below w10.heap.size w10 wx24_17:=bu bx24_2 bb
   have N : Loc wx24_17 wx24_1.heap.size #[.slice none 0 0,.slice none 0 0]:=hq ▸ loc_at wx24_1 _ _ rfl
   have zwx24_17 : wx24_17.heap.size = wx24_1.heap.size + 1:=by rw [← hq]; simp
   rw [hq]
   clear hHeld hq
   refine hKK.out _ _ (K.out _ bx24_18) (fun hHeld => ?_)
   clear hKK KK bx24_2
   have swx24_17:=bb.size
   clear bb
   refine rd 3 rfl (fun KK hKK => ?_)
   go_simp
   refine (TA.out _ (HI.out.below (bu Bw10 bx24_18))).mono ?_
   rintro e wx24_19 ⟨u1, u2, u3, u4, u5, rfl, m1, bb⟩
   have bx24_20 : Below w10.heap.size w10 wx24_19:=bu bx24_18 bb
   clear hHeld
   refine hKK.out _ _ (K.out _ bx24_20) (fun hHeld => ?_)
   clear hKK KK bx24_18
   have swx24_19:=bb.size
   replace N:=N.up bb
   clear bb
   obtain ⟨a1, k1, b1, l1, c1, n1, d1_, p1, e1, q1, rfl, rfl, rfl, rfl, rfl⟩:=m1.form
   refine rd 4 rfl (fun KK hKK => ?_)
   go_simp
   refine (IM.out _ _ _ _ _ _ _ _ _ _ _ (EB.out _ _ HE.out (bu Bw10 bx24_20)) (m1.orep.rrep SM.out)).mono ?_
   rintro e wx24_21 ⟨u, v, rfl, oL, bb⟩
   have bx24_22 : Below w10.heap.size w10 wx24_21:=bu bx24_20 bb
   clear hHeld
   refine hKK.out _ _ (K.out _ bx24_22) (fun hHeld => ?_)
   clear hKK KK bx24_20
   have swx24_21:=bb.size
   replace N:=N.up bb
   replace m1:=m1.below bb
   clear bb m1
   obtain ⟨hiL, hhi⟩ : ∃ m, wx24_21.heap.size = m:=⟨_, rfl⟩
   rw [hhi] at oL
   have hh1:=Nat.le_of_eq hhi
   have hh2:=Nat.le_of_eq hhi.symm
   clear hhi
   obtain ⟨aoU, koU, rfl⟩:=oL.has.form
   obtain ⟨aoV, koV, rfl⟩:=oL.next.form
   refine rd 6 rfl (fun KK hKK => ?_)
   rw [if_pos (by rfl)]
   refine wp_store_mid 60 (.tmp 12) (.tmp 64) rfl (wx24_1.heap.size) 0 #[.slice aoU xs.length koU,.slice aoV ys.length koV] rfl rfl (N.there 0 2 (by simp)) (by kernel_rfl) (by simp [Value.oneCell']) ?_
   obtain ⟨wx24_23, hq⟩ : ∃ y, wx24_21.setCells (wx24_1.heap.size) 0 [.slice aoU xs.length koU, .slice aoV ys.length koV] = y:=⟨_, rfl⟩
   have kN : Kp wx24_21 wx24_23 (fun k => k = wx24_1.heap.size):=hq ▸ setCells_kp _ _ _ _
   have bx24_24:=Below.kp bx24_22 kN bx24_22.size (fun j e => by omega)
   replace N : Loc wx24_23 (wx24_1.heap.size) #[.slice aoU xs.length koU,.slice aoV ys.length koV]:=hq ▸ N.setCells _ _ rfl
   rw [show wx24_21.setCells (wx24_1.heap.size) 0 (Array.toList #[.slice aoU xs.length koU,.slice aoV ys.length koV]) = wx24_23 from hq]
   clear hHeld
   refine hKK.out _ _ (K.out _ bx24_24) (fun hHeld => ?_)
   clear hKK KK bx24_22
   replace oL:=oL.kp kN (fun j h1 h2 e => by omega)
   have swx24_23:=kN.size
   clear hq kN hHeld
   refine wdn ?_
   have bW:=bx24_24
   clear K bx24_24
   go_wp2_with fail
   go_meet
   refine ⟨_, _, _, _, _, _, _, rfl, ?_, N.lt, N, ⟨?_, ?_, ?_⟩, oL, bW⟩ <;> omega
  go_simp
  obtain ⟨wx24_25, hq⟩ : ∃ y, wd24.alloc (.cells #[.slice none 0 0,.slice none 0 0] 60) = y:=⟨_, rfl⟩
  have bb : Below wd24.heap.size wd24 wx24_25:=hq ▸ qalloc _ _
  have bx24_26 : Below w10.heap.size w10 wx24_25:=bu bA bb
  have N : Loc wx24_25 wd24.heap.size #[.slice none 0 0,.slice none 0 0]:=hq ▸ loc_at wd24 _ _ rfl
  have zwx24_25 : wx24_25.heap.size = wd24.heap.size + 1:=by rw [← hq]; simp
  rw [hq]
  clear hHeld hq
  refine hKK.out _ _ (K.out _ bx24_26) (fun hHeld => ?_)
  clear hKK KK bA
  have swx24_25:=bb.size
  clear bb
  refine rd 1 rfl (fun KK hKK => ?_)
  go_simp
  refine (TC.out _).mono ?_
  rintro e wx24_27 ⟨rfl, bb⟩
  have bx24_28 : Below w10.heap.size w10 wx24_27:=bu bx24_26 bb
  clear hHeld
  refine hKK.out _ _ (K.out _ bx24_28) (fun hHeld => ?_)
  clear hKK KK bx24_26
  have swx24_27:=bb.size
  replace N:=N.up bb
  clear bb
  refine rd 3 rfl (fun KK hKK => ?_)
  go_simp
  refine (TA.out _ (HI.out.below (bu Bw10 bx24_28))).mono ?_
  rintro e wx24_29 ⟨u1, u2, u3, u4, u5, rfl, m1, bb⟩
  have bx24_30 : Below w10.heap.size w10 wx24_29:=bu bx24_28 bb
  clear hHeld
  refine hKK.out _ _ (K.out _ bx24_30) (fun hHeld => ?_)
  clear hKK KK bx24_28
  have swx24_29:=bb.size
  replace N:=N.up bb
  clear bb
  obtain ⟨a1, k1, b1, l1, c1, n1, d1_, p1, e1, q1, rfl, rfl, rfl, rfl, rfl⟩:=m1.form
  refine rd 4 rfl (fun KK hKK => ?_)
  go_simp
  refine (IM.out _ _ _ _ _ _ _ _ _ _ _ (EB.out _ _ HE.out (bu Bw10 bx24_30)) (m1.orep.rrep SM.out)).mono ?_
  rintro e wx24_31 ⟨u, v, rfl, oL, bb⟩
  have bx24_32 : Below w10.heap.size w10 wx24_31:=bu bx24_30 bb
  clear hHeld
  refine hKK.out _ _ (K.out _ bx24_32) (fun hHeld => ?_)
  clear hKK KK bx24_30
  have swx24_31:=bb.size
  replace N:=N.up bb
  replace m1:=m1.below bb
  clear bb m1
  obtain ⟨hiL, hhi⟩ : ∃ m, wx24_31.heap.size = m:=⟨_, rfl⟩
  rw [hhi] at oL
  have hh1:=Nat.le_of_eq hhi
  have hh2:=Nat.le_of_eq hhi.symm
  clear hhi
  obtain ⟨aoU, koU, rfl⟩:=oL.has.form
  obtain ⟨aoV, koV, rfl⟩:=oL.next.form
  refine rd 6 rfl (fun KK hKK => ?_)
  rw [if_pos (by rfl)]
  refine wp_store_mid 60 (.tmp 12) (.tmp 64) rfl (wd24.heap.size) 0 #[.slice aoU xs.length koU,.slice aoV ys.length koV] rfl rfl (N.there 0 2 (by simp)) (by kernel_rfl) (by simp [Value.oneCell']) ?_
  obtain ⟨wx24_33, hq⟩ : ∃ y, wx24_31.setCells (wd24.heap.size) 0 [.slice aoU xs.length koU, .slice aoV ys.length koV] = y:=⟨_, rfl⟩
  have kN : Kp wx24_31 wx24_33 (fun k => k = wd24.heap.size):=hq ▸ setCells_kp _ _ _ _
  have bx24_34:=Below.kp bx24_32 kN bx24_32.size (fun j e => by omega)
  replace N : Loc wx24_33 (wd24.heap.size) #[.slice aoU xs.length koU,.slice aoV ys.length koV]:=hq ▸ N.setCells _ _ rfl
  rw [show wx24_31.setCells (wd24.heap.size) 0 (Array.toList #[.slice aoU xs.length koU,.slice aoV ys.length koV]) = wx24_33 from hq]
  clear hHeld
  refine hKK.out _ _ (K.out _ bx24_34) (fun hHeld => ?_)
  clear hKK KK bx24_32
  replace oL:=oL.kp kN (fun j h1 h2 e => by omega)
  have swx24_33:=kN.size
  clear hq kN hHeld
  refine wdn ?_
  have bW:=bx24_34
  clear K bx24_34
  go_wp2_with fail
  go_meet
  refine ⟨_, _, _, _, _, _, _, rfl, ?_, N.lt, N, ⟨?_, ?_, ?_⟩, oL, bW⟩ <;> omega
 case rest =>
 obtain ⟨w11, hwq⟩ : ∃ x, x = wc:=⟨_, rfl⟩
 subst hwq
 obtain ⟨hN, loN, hiN, aN, kN, bN, lN, rfl, hN1, hN2, N, ⟨rN1, rN2, rN3⟩, oN, bb⟩:=hcut
 have Bw11:=bu Bw10 bb
 have sw11:=bb.size
 replace LC:=LC.up bb
 replace LA:=LA.up bb
 replace G:=G.up bb
 replace X:=X.up bb
 replace H:=H.up bb
 replace oU:=oU.below bb
 replace oV:=oV.below bb
 clear Bw10
 replace oH:=oH.below bb
 clear bb
 go_wp2_with (first | (refine wload N 60 _ rfl _ rfl rfl Tryz.underlying60 rfl (by kernel_rfl) ?_) | (refine wload G 60 _ rfl _ rfl rfl Tryz.underlying60 rfl (by kernel_rfl) ?_))
 refine (EL.out _ _ _ _ _ (oN.ri (by omega) (by omega)) ⟨oU.ri (by omega), oV.ri (by omega)⟩).mono ?_
 rintro _ w12 ⟨rfl, bb⟩
 have Bw12:=bu Bw11 bb
 have sw12:=bb.size
 replace LC:=LC.up bb
 replace LA:=LA.up bb
 replace G:=G.up bb
 replace X:=X.up bb
 replace H:=H.up bb
 replace N:=N.up bb
 replace oU:=oU.below bb
 replace oV:=oV.below bb
 clear Bw11
 replace oH:=oH.below bb
 replace oN:=oN.below bb
 clear bb
 go_wp2_with (first | (refine wload H 60 _ rfl _ rfl rfl Tryz.underlying60 rfl (by kernel_rfl) ?_))
 refine (HL.out _ _ _ ⟨oH.has.ri (by simp only [imarks_len]; omega), oH.next.ri (by simp only [imarks_len]; omega)⟩).mono ?_
 rintro _ w13 ⟨rfl, bb⟩
 have Bw13:=bu Bw12 bb
 have sw13:=bb.size
 replace LC:=LC.up bb
 replace LA:=LA.up bb
 replace G:=G.up bb
 replace X:=X.up bb
 replace H:=H.up bb
 replace N:=N.up bb
 replace oU:=oU.below bb
 replace oV:=oV.below bb
 clear Bw12
 replace oH:=oH.below bb
 replace oN:=oN.below bb
 clear bb
 go_wp2
 go_ret
 exact ⟨rfl, Bw13⟩
end
end Go.Proofs.YtmpffkpilbbclaaGreatDoor
