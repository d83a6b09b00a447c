/- RepSureW: the walk of laws.FnExactSureNow -/
import Derived.Test.YtjdchloechcclaaGreatDoorSNBJ
set_option linter.unusedSectionVars false
set_option linter.unusedSimpArgs false
namespace Go.Proofs.YtjdchloechcclaaGreatDoor
section
open Go Go.RowKit
variable [∀ (a b c d : Int), Decidable (Ok4 a b c d)]
variable [∀ (n f : Int), Decidable (COk n f)]
variable [∀ (a b c d : Nat), Decidable (okN a b c d)]
variable [∀ (x : T4), Decidable (OkT x)]
variable [∀ (last : Int) (s : St), Decidable (GoodSt last s)]
variable [∀ (n : Int) (s : List Int), Decidable (OkL n s)]
variable [∀ (x y : T4), Decidable (Bef x y)]
variable [∀ (ts : List T4), Decidable (Asc ts)]
variable [∀ (ts : List T4), Decidable (AllOk ts)]
variable [∀ (ts : List T4), Decidable (POk ts)]
theorem pomk_small {k : Nat} {ps : List PoT} (hs : ∀ j, j < ps.length → (ps.getD j zpost).2.bw.length ≤ 4194304 ∧ (ps.getD j zpost).2.pw.length ≤ 4194304 ∧ (ps.getD j zpost).2.qw.length ≤ 4194304) (j : Nat) (hj : j < (pomk k ps).length) : ((pomk k ps).getD j zpost).2.bw.length ≤ 4194304 ∧ ((pomk k ps).getD j zpost).2.pw.length ≤ 4194304 ∧ ((pomk k ps).getD j zpost).2.qw.length ≤ 4194304 := by
 rw [pomk_len] at hj
 rw [pomk_get _ _ _ hj]
 have:=hs j hj
 simp only [pomk1, imarks_len]
 exact this
theorem RSm.marked {t : RpT} (h : RSm t) : RSm (rmk 1 t) :=
 ⟨by show (imarks 1 t.qw.length).length ≤ _; rw [imarks_len]; exact h.q, by show (tmarks (rq1 1 t) t.pool.length).length ≤ _; rw [tmarks_len]; exact h.p, by show (pmk (rq2 1 t) t.tab).length ≤ _; rw [pmk_len]; exact h.tb, by show (marks (rq3 1 t) t.dsk.length).length ≤ _; rw [marks_len]; exact h.d, by show (pomk (rq4 1 t) t.held).length ≤ _; rw [pomk_len]; exact h.h, pmk_small _ _ h.tt, pomk_small h.hh⟩
theorem OPC.rpok {w : World} {lo hi k : Nat} {v : Value} {ps : List PoT} (hps : ∀ j, j < ps.length → (ps.getD j zpost).2.bw.length ≤ 4194304 ∧ (ps.getD j zpost).2.pw.length ≤ 4194304 ∧ (ps.getD j zpost).2.qw.length ≤ 4194304) (h : OPC w lo hi v (pomk k ps)) : RPo w v (pomk k ps) := h.opo.rpo (pomk_small hps)
set_option maxHeartbeats 16000000 in
set_option maxRecDepth 100000 in
theorem fnSureNow_short (E : World → Prop) (hE : ∀ w w', E w → Below w.heap.size w w' → E w') (n f : Int) (t : RpT) (ao bo co od oe : Option Addr) (ca cb cc cd ce : Nat) (rs : List Pr) (w : World) (u : RpT) (ps : List PoT) (hum : RSm u) (hpl : ps.length ≤ 1048577) (hps : ∀ j, j < ps.length → (ps.getD j zpost).2.bw.length ≤ 4194304 ∧ (ps.getD j zpost).2.pw.length ≤ 4194304 ∧ (ps.getD j zpost).2.qw.length ≤ 4194304) (hq : rq5 1 t ≤ 100000000) (hqu : rq5 1 u ≤ 100000000) (hqp : poend (rq5 1 u) ps ≤ 100000000) (ht : t.tab = rs.map prp) (g : (t.s.size : Int) + t.qw.length + t.d.size + t.pool.length + rs.length + psum rs + t.dsk.length + t.held.length + posum t.held ≤ 1048576) (hc : ATab w co rs) (hh : RPoL w (.slice oe t.held.length ce) t.held) (hsm : RSm t) (hI : IRep w t (.slice ao t.qw.length ca) bo (.slice co t.tab.length cc) (.slice od t.dsk.length cd) (.slice oe t.held.length ce)) (he : E w) (SP0 : (∀ (ao bo co od oe : Option Addr) (ca cb cc cd ce : Nat) (w : World), RRep w t (.slice ao t.qw.length ca) (.slice bo t.pool.length cb) (.slice co t.tab.length cc) (.slice od t.dsk.length cd) (.slice oe t.held.length ce) → Calls Tryz.prog 8 #[cv n f, rpv t (.slice ao t.qw.length ca) (.slice bo t.pool.length cb) (.slice co t.tab.length cc) (.slice od t.dsk.length cd) (.slice oe t.held.length ce)] w fun r w' => ∃ a b c d e v, r = .returned (.tuple #[rpv u a b c d e, v]) ∧ StayR w' w.heap.size w'.heap.size u a b c d e ∧ StayP w' w.heap.size w'.heap.size v ps ∧ Below w.heap.size w w')) (IM0 : (∀ (ao bo co od oe : Option Addr) (ca cb cc cd ce : Nat) (w : World), E w → RRep w t (.slice ao t.qw.length ca) (.slice bo t.pool.length cb) (.slice co t.tab.length cc) (.slice od t.dsk.length cd) (.slice oe t.held.length ce) → Calls Tryz.prog 11 #[cv n f, rpv t (.slice ao t.qw.length ca) (.slice bo t.pool.length cb) (.slice co t.tab.length cc) (.slice od t.dsk.length cd) (.slice oe t.held.length ce)] w fun r w' => ∃ a b c d e v, r = .returned (.tuple #[rpv u a b c d e, v]) ∧ (∃ m, w.heap.size ≤ m ∧ m ≤ w'.heap.size ∧ OPC w' w.heap.size m v ps ∧ ORepG w' m w'.heap.size u a b c d e) ∧ Below w.heap.size w w')) :
 Calls Tryz.prog 3 #[cv n f, rpv t (.slice ao t.qw.length ca) (.slice bo t.pool.length cb) (.slice co t.tab.length cc) (.slice od t.dsk.length cd) (.slice oe t.held.length ce)] w fun e w' => e = .returned (.bool true) ∧ Below w.heap.size w w' := by
 have HI:=hide hI
 have HE:=hide he
 have hrl : rs.length = t.tab.length:=by rw [ht]; simp
 have ZA:=hide fun w (h : ATab w co rs) (h' : RPoL w (.slice oe t.held.length ce) t.held) => szRep_yes t ao bo co od oe ca cb cc cd ce rs 1048576 w h h' (by omega) g
 rw [hrl] at ZA
 have TA:=hide fun w h => toRepC_any t (.slice ao t.qw.length ca) bo cb (.slice co t.tab.length cc) (.slice od t.dsk.length cd) (.slice oe t.held.length ce) w hsm h
 have TC:=hide fun w => toConf_any n f w
 have hz : ∃ z : Int, (1048576 : Int) - ((t.s.size : Int) + t.qw.length + t.d.size + t.pool.length + t.tab.length + psum rs + t.dsk.length + t.held.length + posum t.held) = z ∧ 0 ≤ z:=⟨_, rfl, by omega⟩
 obtain ⟨z, hz, hz0⟩:=hz
 rw [hz] at ZA
 have d1 : decide (z < 0) = false:=by simp; omega
 have SP:=hide SP0
 have IM:=hide IM0
 have EB:=hide hE
 have SM:=hide hsm
 have UM:=hide hum
 have EQ:=hide fun a b c d e a' b' c' d' e' w h h' => eqRep_yes t a b c d e a' b' c' d' e' w hsm h h'
 have EU:=hide fun a b c d e a' b' c' d' e' w h h' => eqRep_yes u a b c d e a' b' c' d' e' w hum h h'
 have EP:=hide fun v v' w h h' => eqPostS_yes v v' ps w (by omega) h h'
 have MR:=hide fun lo hi a b c d e w h => markRepG_any lo hi t a b c d e 1 w hsm hq h
 have MU:=hide fun lo hi a b c d e w h => markRepG_any lo hi u a b c d e 1 w hum hqu h
 have HU:=hide fun a b c d e w h => heldRep_any u a b c d e 1 w hum (by omega) hqu h
 have MP:=hide fun lo hi v w h => markPostS_any lo hi v ps (rq5 1 u) w (by omega) hps hqp h
 have HP:=hide fun v w h => heldPostS_any v ps (rq5 1 u) w (by omega) hqp h
 obtain ⟨qe, hqe⟩ : ∃ x, rq5 1 t = x:=⟨_, rfl⟩
 rw [hqe] at MR
 obtain ⟨qu, hqe2⟩ : ∃ x, rq5 1 u = x:=⟨_, rfl⟩
 rw [hqe2] at MU HU MP HP
 obtain ⟨qp, hqe3⟩ : ∃ x, poend qu ps = x:=⟨_, rfl⟩
 rw [hqe3] at MP HP
 have hd2 : decide ((qe : Int) < 0) = false:=by simp
 have hd3 : decide ((qu : Int) < 0) = false:=by simp
 have hd4 : decide ((qp : Int) < 0) = false:=by simp
 have UK:=hide hum.marked
 have PK:=hide (fun (w : World) (lo hi : Nat) (v : Value) (h : OPC w lo hi v (pomk qu ps)) => OPC.rpok hps h)
 have PL:=hide hps
 have HC:=hide hc
 have HH:=hide hh
 clear hI he SP0 IM0 hE hsm hum hc hh hz hz0 g hrl ht hq hqu hqp hpl hps hqe hqe2 hqe3
 obtain ⟨w0, hw0, Bw0, LC, LA, zw0⟩:=bx2 w #[.int .i64 n,.int .i64 f] 23 #[.int .i64 t.id,.int .i64 t.vw,.int .i64 t.ak,.int .i64 t.vo,.int .i64 t.lo,.int .i64 t.n,.string t.s,.slice ao t.qw.length ca,.string t.d,.slice bo t.pool.length cb,.slice co t.tab.length cc,.slice od t.dsk.length cd,.int .i64 t.su,.slice oe t.held.length ce] 36
 go_enter Tryz.func3, Tryz.ntmps3
 go_wp2_with (first | (refine wload LA 36 _ rfl _ rfl rfl Tryz.underlying36 rfl (by kernel_rfl) ?_))
 clear hw0
 refine (ZA.out _ (HC.out.below Bw0) (HH.out.below Bw0)).mono ?_
 rintro _ w1 ⟨rfl, bb⟩
 have Bw1:=bu Bw0 bb
 have sw1:=bb.size
 replace LC:=LC.up bb
 replace LA:=LA.up bb
 clear Bw0 bb ZA HC HH
 go_upto_region 5 with fail
 try simp only [Act.put, List.setIfInBounds_toArray, List.set_cons_zero, List.set_cons_succ]
 go_cut [6, 7] (fun c d1 wx => ∃ (h lo hi : Nat) (aY : Option Addr) (kY : Nat) (bY : Option Addr) (lY : Nat) (cY : Option Addr) (nY : Nat) (dY : Option Addr) (pY : Nat) (eY : Option Addr) (qY : Nat) (v : Value), c = .pointer (some ⟨h, 0, none⟩) ∧ d1 = v ∧ w1.heap.size ≤ h ∧ h < wx.heap.size ∧ Loc wx h #[.int .i64 u.id,.int .i64 u.vw,.int .i64 u.ak,.int .i64 u.vo,.int .i64 u.lo,.int .i64 u.n,.string u.s,.slice aY u.qw.length kY,.string u.d,.slice bY u.pool.length lY,.slice cY u.tab.length nY,.slice dY u.dsk.length pY,.int .i64 u.su,.slice eY u.held.length qY] ∧ (w1.heap.size ≤ lo ∧ hi ≤ wx.heap.size ∧ (h < lo ∨ hi ≤ h)) ∧ StayR wx lo hi u (.slice aY u.qw.length kY) (.slice bY u.pool.length lY) (.slice cY u.tab.length nY) (.slice dY u.dsk.length pY) (.slice eY u.held.length qY) ∧ StayP wx lo hi v ps ∧ Below w1.heap.size w1 wx)
 case first =>
  have K:=kw (ka (kc2 LC 0 1) (kL LA))
  refine wra K (fun bA hHeld => ?_)
  obtain ⟨wd5, hwd⟩ : ∃ y, w1.drew = y:=⟨_, rfl⟩
  rw [hwd] at bA hHeld ⊢
  clear hwd
  have swd5:=bA.size
  refine tx 0 22 ?_
  refine take_at (i := 2) (d := 24) (v := .agg #[.int .i64 t.id,.int .i64 t.vw,.int .i64 t.ak,.int .i64 t.vo,.int .i64 t.lo,.int .i64 t.n,.string t.s,.slice ao t.qw.length ca,.string t.d,.slice bo t.pool.length cb,.slice co t.tab.length cc,.slice od t.dsk.length cd,.int .i64 t.su,.slice oe t.held.length ce]) rfl rfl (by kernel_rfl) (by kernel_rfl) (by kernel_rfl) (fun _ _ _ h => h) ?_ (by assumption) ?_
  ·exact yields_row rfl 36 _ rfl rfl _ (fun w h => h.2.2) Tryz.underlying36 rfl (by kernel_rfl)
  simp only [pU]
  refine wpAnyH_ready (rs := [1, 8]) (by kernel_rfl) (by simp) (AllReadyH.cons rfl (fun KK hKK => ?_) (AllReadyH.cons rfl (fun KK hKK => ?_) AllReadyH.nil))
  ·go_simp
   refine (TC.out _).mono ?_
   rintro e wx5_1 ⟨rfl, bb⟩
   have bx5_2 : Below w1.heap.size w1 wx5_1:=bu bA bb
   clear hHeld
   refine hKK.out _ _ (K.out _ bx5_2) (fun hHeld => ?_)
   clear hKK KK bA
   have swx5_1:=bb.size
   clear bb
   refine wpAnyH_ready (rs := [3, 8]) (by kernel_rfl) (by simp) (AllReadyH.cons rfl (fun KK hKK => ?_) (AllReadyH.cons rfl (fun KK hKK => ?_) AllReadyH.nil))
   ·go_simp
    refine (TA.out _ (HI.out.below (bu Bw1 bx5_2))).mono ?_
    rintro e wx5_3 ⟨u1, u2, u3, u4, u5, rfl, m1, bb⟩
    have bx5_4 : Below w1.heap.size w1 wx5_3:=bu bx5_2 bb
    clear hHeld
    refine hKK.out _ _ (K.out _ bx5_4) (fun hHeld => ?_)
    clear hKK KK bx5_2
    have swx5_3:=bb.size
    clear bb
    obtain ⟨a1, k1, b1, l1, c1, n1, d1_, p1, e1, q1, rfl, rfl, rfl, rfl, rfl⟩:=m1.form
    refine wpAnyH_ready (rs := [4, 8]) (by kernel_rfl) (by simp) (AllReadyH.cons rfl (fun KK hKK => ?_) (AllReadyH.cons rfl (fun KK hKK => ?_) AllReadyH.nil))
    ·go_simp
     refine (SP.out _ _ _ _ _ _ _ _ _ _ _ (m1.orep.rrep SM.out)).mono ?_
     rintro e wx5_5 ⟨y1, y2, y3, y4, y5, v1, rfl, sR, sP, bb⟩
     have bx5_6 : Below w1.heap.size w1 wx5_5:=bu bx5_4 bb
     clear hHeld
     refine hKK.out _ _ (K.out _ bx5_6) (fun hHeld => ?_)
     clear hKK KK bx5_4
     have swx5_5:=bb.size
     replace m1:=m1.below bb
     clear bb m1
     obtain ⟨aG, kG, rfl⟩:=sR.rrep.q.form
     obtain ⟨bG, lG, rfl⟩:=RT.form1 sR.rrep.p
     obtain ⟨cG, nG, rfl⟩:=sR.rrep.tb.form
     obtain ⟨dG, pG, rfl⟩:=RB.form1 sR.rrep.d
     obtain ⟨eG, qG, rfl⟩:=sR.rrep.h.form
     obtain ⟨loG, hlG⟩ : ∃ m, wx5_3.heap.size = m:=⟨_, rfl⟩
     obtain ⟨hiG, hhG⟩ : ∃ m, wx5_5.heap.size = m:=⟨_, rfl⟩
     rw [hlG, hhG] at sR sP
     have g1:=Nat.le_of_eq hlG
     have g2:=Nat.le_of_eq hlG.symm
     have g3:=Nat.le_of_eq hhG
     have g4:=Nat.le_of_eq hhG.symm
     clear hlG hhG
     refine tx 5 21 ?_
     refine tx 6 27 ?_
     refine tx 7 28 ?_
     refine rd 8 rfl (fun KK hKK => ?_)
     go_simp
     obtain ⟨wx5_7, hq⟩ : ∃ y, wx5_5.alloc (.cells #[.int .i64 0,.int .i64 0,.int .i64 0,.int .i64 0,.int .i64 0,.int .i64 0,.string ⟨#[]⟩,.slice none 0 0,.string ⟨#[]⟩,.slice none 0 0,.slice none 0 0,.slice none 0 0,.int .i64 0,.slice none 0 0] 46) = y:=⟨_, rfl⟩
     have bb : Below wx5_5.heap.size wx5_5 wx5_7:=hq ▸ qalloc _ _
     have bx5_8 : Below w1.heap.size w1 wx5_7:=bu bx5_6 bb
     have G : Loc wx5_7 wx5_5.heap.size #[.int .i64 0,.int .i64 0,.int .i64 0,.int .i64 0,.int .i64 0,.int .i64 0,.string ⟨#[]⟩,.slice none 0 0,.string ⟨#[]⟩,.slice none 0 0,.slice none 0 0,.slice none 0 0,.int .i64 0,.slice none 0 0]:=hq ▸ loc_at wx5_5 _ _ rfl
     have zwx5_7 : wx5_7.heap.size = wx5_5.heap.size + 1:=by rw [← hq]; simp
     rw [hq]
     clear hHeld hq
     refine hKK.out _ _ (K.out _ bx5_8) (fun hHeld => ?_)
     clear hKK KK bx5_6
     have swx5_7:=bb.size
     replace sR:=sR.below bb
     replace sP:=sP.below bb
     clear bb
     refine rd 9 rfl (fun KK hKK => ?_)
     rw [if_pos (by rfl)]
     refine wp_store_mid 46 (.tmp 6) (.tmp 27) rfl (wx5_5.heap.size) 0 #[.int .i64 u.id,.int .i64 u.vw,.int .i64 u.ak,.int .i64 u.vo,.int .i64 u.lo,.int .i64 u.n,.string u.s,.slice aG u.qw.length kG,.string u.d,.slice bG u.pool.length lG,.slice cG u.tab.length nG,.slice dG u.dsk.length pG,.int .i64 u.su,.slice eG u.held.length qG] rfl rfl (G.there 0 14 (by simp)) (by kernel_rfl) (by simp [Value.oneCell']) ?_
     obtain ⟨wx5_9, hq⟩ : ∃ y, wx5_7.setCells (wx5_5.heap.size) 0 [.int .i64 u.id, .int .i64 u.vw, .int .i64 u.ak, .int .i64 u.vo, .int .i64 u.lo, .int .i64 u.n, .string u.s, .slice aG u.qw.length kG, .string u.d, .slice bG u.pool.length lG, .slice cG u.tab.length nG, .slice dG u.dsk.length pG, .int .i64 u.su, .slice eG u.held.length qG] = y:=⟨_, rfl⟩
     have kN : Kp wx5_7 wx5_9 (fun k => k = wx5_5.heap.size):=hq ▸ setCells_kp _ _ _ _
     have bx5_10:=Below.kp bx5_8 kN bx5_8.size (fun j e => by omega)
     replace G : Loc wx5_9 (wx5_5.heap.size) #[.int .i64 u.id,.int .i64 u.vw,.int .i64 u.ak,.int .i64 u.vo,.int .i64 u.lo,.int .i64 u.n,.string u.s,.slice aG u.qw.length kG,.string u.d,.slice bG u.pool.length lG,.slice cG u.tab.length nG,.slice dG u.dsk.length pG,.int .i64 u.su,.slice eG u.held.length qG]:=hq ▸ G.setCells _ _ rfl
     rw [show wx5_7.setCells (wx5_5.heap.size) 0 (Array.toList #[.int .i64 u.id,.int .i64 u.vw,.int .i64 u.ak,.int .i64 u.vo,.int .i64 u.lo,.int .i64 u.n,.string u.s,.slice aG u.qw.length kG,.string u.d,.slice bG u.pool.length lG,.slice cG u.tab.length nG,.slice dG u.dsk.length pG,.int .i64 u.su,.slice eG u.held.length qG]) = wx5_9 from hq]
     clear hHeld
     refine hKK.out _ _ (K.out _ bx5_10) (fun hHeld => ?_)
     clear hKK KK bx5_8
     replace sR:=sR.kp kN (fun j h1 h2 e => by omega)
     replace sP:=sP.kp kN (fun j h1 h2 e => by omega)
     have swx5_9:=kN.size
     clear hq kN
     refine tx 10 7 ?_
     clear hHeld
     refine wdn ?_
     have bW:=bx5_10
     clear K bx5_10
     go_wp2_with fail
     go_meet
     refine ⟨_, _, _, _, _, _, _, _, _, _, _, _, _, _, rfl, rfl, ?_, G.lt, G, ⟨?_, ?_, ?_⟩, sR, sP, bW⟩ <;> omega
    go_simp
    obtain ⟨wx5_11, hq⟩ : ∃ y, wx5_3.alloc (.cells #[.int .i64 0,.int .i64 0,.int .i64 0,.int .i64 0,.int .i64 0,.int .i64 0,.string ⟨#[]⟩,.slice none 0 0,.string ⟨#[]⟩,.slice none 0 0,.slice none 0 0,.slice none 0 0,.int .i64 0,.slice none 0 0] 46) = y:=⟨_, rfl⟩
    have bb : Below wx5_3.heap.size wx5_3 wx5_11:=hq ▸ qalloc _ _
    have bx5_12 : Below w1.heap.size w1 wx5_11:=bu bx5_4 bb
    have G : Loc wx5_11 wx5_3.heap.size #[.int .i64 0,.int .i64 0,.int .i64 0,.int .i64 0,.int .i64 0,.int .i64 0,.string ⟨#[]⟩,.slice none 0 0,.string ⟨#[]⟩,.slice none 0 0,.slice none 0 0,.slice none 0 0,.int .i64 0,.slice none 0 0]:=hq ▸ loc_at wx5_3 _ _ rfl
    have zwx5_11 : wx5_11.heap.size = wx5_3.heap.size + 1:=by rw [← hq]; simp
    rw [hq]
    clear hHeld hq
    refine hKK.out _ _ (K.out _ bx5_12) (fun hHeld => ?_)
    clear hKK KK bx5_4
    have swx5_11:=bb.size
    replace m1:=m1.below bb
    clear bb
    refine rd 4 rfl (fun KK hKK => ?_)
    go_simp
    refine (SP.out _ _ _ _ _ _ _ _ _ _ _ (m1.orep.rrep SM.out)).mono ?_
    rintro e wx5_13 ⟨y1, y2, y3, y4, y5, v1, rfl, sR, sP, bb⟩
    have bx5_14 : Below w1.heap.size w1 wx5_13:=bu bx5_12 bb
    clear hHeld
    refine hKK.out _ _ (K.out _ bx5_14) (fun hHeld => ?_)
    clear hKK KK bx5_12
    have swx5_13:=bb.size
    replace G:=G.up bb
    replace m1:=m1.below bb
    clear bb m1
    obtain ⟨aG, kG, rfl⟩:=sR.rrep.q.form
    obtain ⟨bG, lG, rfl⟩:=RT.form1 sR.rrep.p
    obtain ⟨cG, nG, rfl⟩:=sR.rrep.tb.form
    obtain ⟨dG, pG, rfl⟩:=RB.form1 sR.rrep.d
    obtain ⟨eG, qG, rfl⟩:=sR.rrep.h.form
    obtain ⟨loG, hlG⟩ : ∃ m, wx5_11.heap.size = m:=⟨_, rfl⟩
    obtain ⟨hiG, hhG⟩ : ∃ m, wx5_13.heap.size = m:=⟨_, rfl⟩
    rw [hlG, hhG] at sR sP
    have g1:=Nat.le_of_eq hlG
    have g2:=Nat.le_of_eq hlG.symm
    have g3:=Nat.le_of_eq hhG
    have g4:=Nat.le_of_eq hhG.symm
    clear hlG hhG
    refine tx 5 21 ?_
    refine tx 6 27 ?_
    refine tx 7 28 ?_
    refine rd 9 rfl (fun KK hKK => ?_)
    rw [if_pos (by rfl)]
    refine wp_store_mid 46 (.tmp 6) (.tmp 27) rfl (wx5_3.heap.size) 0 #[.int .i64 u.id,.int .i64 u.vw,.int .i64 u.ak,.int .i64 u.vo,.int .i64 u.lo,.int .i64 u.n,.string u.s,.slice aG u.qw.length kG,.string u.d,.slice bG u.pool.length lG,.slice cG u.tab.length nG,.slice dG u.dsk.length pG,.int .i64 u.su,.slice eG u.held.length qG] rfl rfl (G.there 0 14 (by simp)) (by kernel_rfl) (by simp [Value.oneCell']) ?_
    obtain ⟨wx5_15, hq⟩ : ∃ y, wx5_13.setCells (wx5_3.heap.size) 0 [.int .i64 u.id, .int .i64 u.vw, .int .i64 u.ak, .int .i64 u.vo, .int .i64 u.lo, .int .i64 u.n, .string u.s, .slice aG u.qw.length kG, .string u.d, .slice bG u.pool.length lG, .slice cG u.tab.length nG, .slice dG u.dsk.length pG, .int .i64 u.su, .slice eG u.held.length qG] = y:=⟨_, rfl⟩
    have kN : Kp wx5_13 wx5_15 (fun k => k = wx5_3.heap.size):=hq ▸ setCells_kp _ _ _ _
    have bx5_16:=Below.kp bx5_14 kN bx5_14.size (fun j e => by omega)
    replace G : Loc wx5_15 (wx5_3.heap.size) #[.int .i64 u.id,.int .i64 u.vw,.int .i64 u.ak,.int .i64 u.vo,.int .i64 u.lo,.int .i64 u.n,.string u.s,.slice aG u.qw.length kG,.string u.d,.slice bG u.pool.length lG,.slice cG u.tab.length nG,.slice dG u.dsk.length pG,.int .i64 u.su,.slice eG u.held.length qG]:=hq ▸ G.setCells _ _ rfl
    rw [show wx5_13.setCells (wx5_3.heap.size) 0 (Array.toList #[.int .i64 u.id,.int .i64 u.vw,.int .i64 u.ak,.int .i64 u.vo,.int .i64 u.lo,.int .i64 u.n,.string u.s,.slice aG u.qw.length kG,.string u.d,.slice bG u.pool.length lG,.slice cG u.tab.length nG,.slice dG u.dsk.length pG,.int .i64 u.su,.slice eG u.held.length qG]) = wx5_15 from hq]
    clear hHeld
    refine hKK.out _ _ (K.out _ bx5_16) (fun hHeld => ?_)
    clear hKK KK bx5_14
    replace sR:=sR.kp kN (fun j h1 h2 e => by omega)
    replace sP:=sP.kp kN (fun j h1 h2 e => by omega)
    have swx5_15:=kN.size
    clear hq kN
    refine tx 10 7 ?_
    clear hHeld
    refine wdn ?_
    have bW:=bx5_16
    clear K bx5_16
    go_wp2_with fail
    go_meet
    refine ⟨_, _, _, _, _, _, _, _, _, _, _, _, _, _, rfl, rfl, ?_, G.lt, G, ⟨?_, ?_, ?_⟩, sR, sP, bW⟩ <;> omega
   go_simp
   obtain ⟨wx5_17, hq⟩ : ∃ y, wx5_1.alloc (.cells #[.int .i64 0,.int .i64 0,.int .i64 0,.int .i64 0,.int .i64 0,.int .i64 0,.string ⟨#[]⟩,.slice none 0 0,.string ⟨#[]⟩,.slice none 0 0,.slice none 0 0,.slice none 0 0,.int .i64 0,.slice none 0 0] 46) = y:=⟨_, rfl⟩
   have bb : Below wx5_1.heap.size wx5_1 wx5_17:=hq ▸ qalloc _ _
   have bx5_18 : Below w1.heap.size w1 wx5_17:=bu bx5_2 bb
   have G : Loc wx5_17 wx5_1.heap.size #[.int .i64 0,.int .i64 0,.int .i64 0,.int .i64 0,.int .i64 0,.int .i64 0,.string ⟨#[]⟩,.slice none 0 0,.string ⟨#[]⟩,.slice none 0 0,.slice none 0 0,.slice none 0 0,.int .i64 0,.slice none 0 0]:=hq ▸ loc_at wx5_1 _ _ rfl
   have zwx5_17 : wx5_17.heap.size = wx5_1.heap.size + 1:=by rw [← hq]; simp
   rw [hq]
   clear hHeld hq
   refine hKK.out _ _ (K.out _ bx5_18) (fun hHeld => ?_)
   clear hKK KK bx5_2
   have swx5_17:=bb.size
   clear bb
   refine rd 3 rfl (fun KK hKK => ?_)
   go_simp
   refine (TA.out _ (HI.out.below (bu Bw1 bx5_18))).mono ?_
   rintro e wx5_19 ⟨u1, u2, u3, u4, u5, rfl, m1, bb⟩
   have bx5_20 : Below w1.heap.size w1 wx5_19:=bu bx5_18 bb
   clear hHeld
   refine hKK.out _ _ (K.out _ bx5_20) (fun hHeld => ?_)
   clear hKK KK bx5_18
   have swx5_19:=bb.size
   replace G:=G.up bb
   clear bb
   obtain ⟨a1, k1, b1, l1, c1, n1, d1_, p1, e1, q1, rfl, rfl, rfl, rfl, rfl⟩:=m1.form
   refine rd 4 rfl (fun KK hKK => ?_)
   go_simp
   refine (SP.out _ _ _ _ _ _ _ _ _ _ _ (m1.orep.rrep SM.out)).mono ?_
   rintro e wx5_21 ⟨y1, y2, y3, y4, y5, v1, rfl, sR, sP, bb⟩
   have bx5_22 : Below w1.heap.size w1 wx5_21:=bu bx5_20 bb
   clear hHeld
   refine hKK.out _ _ (K.out _ bx5_22) (fun hHeld => ?_)
   clear hKK KK bx5_20
   have swx5_21:=bb.size
   replace G:=G.up bb
   replace m1:=m1.below bb
   clear bb m1
   obtain ⟨aG, kG, rfl⟩:=sR.rrep.q.form
   obtain ⟨bG, lG, rfl⟩:=RT.form1 sR.rrep.p
   obtain ⟨cG, nG, rfl⟩:=sR.rrep.tb.form
   obtain ⟨dG, pG, rfl⟩:=RB.form1 sR.rrep.d
   obtain ⟨eG, qG, rfl⟩:=sR.rrep.h.form
   obtain ⟨loG, hlG⟩ : ∃ m, wx5_19.heap.size = m:=⟨_, rfl⟩
   obtain ⟨hiG, hhG⟩ : ∃ m, wx5_21.heap.size = m:=⟨_, rfl⟩
   rw [hlG, hhG] at sR sP
   have g1:=Nat.le_of_eq hlG
   have g2:=Nat.le_of_eq hlG.symm
   have g3:=Nat.le_of_eq hhG
   have g4:=Nat.le_of_eq hhG.symm
   clear hlG hhG
   refine tx 5 21 ?_
   refine tx 6 27 ?_
   refine tx 7 28 ?_
   refine rd 9 rfl (fun KK hKK => ?_)
   rw [if_pos (by rfl)]
   refine wp_store_mid 46 (.tmp 6) (.tmp 27) rfl (wx5_1.heap.size) 0 #[.int .i64 u.id,.int .i64 u.vw,.int .i64 u.ak,.int .i64 u.vo,.int .i64 u.lo,.int .i64 u.n,.string u.s,.slice aG u.qw.length kG,.string u.d,.slice bG u.pool.length lG,.slice cG u.tab.length nG,.slice dG u.dsk.length pG,.int .i64 u.su,.slice eG u.held.length qG] rfl rfl (G.there 0 14 (by simp)) (by kernel_rfl) (by simp [Value.oneCell']) ?_
   obtain ⟨wx5_23, hq⟩ : ∃ y, wx5_21.setCells (wx5_1.heap.size) 0 [.int .i64 u.id, .int .i64 u.vw, .int .i64 u.ak, .int .i64 u.vo, .int .i64 u.lo, .int .i64 u.n, .string u.s, .slice aG u.qw.length kG, .string u.d, .slice bG u.pool.length lG, .slice cG u.tab.length nG, .slice dG u.dsk.length pG, .int .i64 u.su, .slice eG u.held.length qG] = y:=⟨_, rfl⟩
   have kN : Kp wx5_21 wx5_23 (fun k => k = wx5_1.heap.size):=hq ▸ setCells_kp _ _ _ _
   have bx5_24:=Below.kp bx5_22 kN bx5_22.size (fun j e => by omega)
   replace G : Loc wx5_23 (wx5_1.heap.size) #[.int .i64 u.id,.int .i64 u.vw,.int .i64 u.ak,.int .i64 u.vo,.int .i64 u.lo,.int .i64 u.n,.string u.s,.slice aG u.qw.length kG,.string u.d,.slice bG u.pool.length lG,.slice cG u.tab.length nG,.slice dG u.dsk.length pG,.int .i64 u.su,.slice eG u.held.length qG]:=hq ▸ G.setCells _ _ rfl
   rw [show wx5_21.setCells (wx5_1.heap.size) 0 (Array.toList #[.int .i64 u.id,.int .i64 u.vw,.int .i64 u.ak,.int .i64 u.vo,.int .i64 u.lo,.int .i64 u.n,.string u.s,.slice aG u.qw.length kG,.string u.d,.slice bG u.pool.length lG,.slice cG u.tab.length nG,.slice dG u.dsk.length pG,.int .i64 u.su,.slice eG u.held.length qG]) = wx5_23 from hq]
   clear hHeld
   refine hKK.out _ _ (K.out _ bx5_24) (fun hHeld => ?_)
   clear hKK KK bx5_22
   replace sR:=sR.kp kN (fun j h1 h2 e => by omega)
   replace sP:=sP.kp kN (fun j h1 h2 e => by omega)
   have swx5_23:=kN.size
   clear hq kN
   refine tx 10 7 ?_
   clear hHeld
   refine wdn ?_
   have bW:=bx5_24
   clear K bx5_24
   go_wp2_with fail
   go_meet
   refine ⟨_, _, _, _, _, _, _, _, _, _, _, _, _, _, rfl, rfl, ?_, G.lt, G, ⟨?_, ?_, ?_⟩, sR, sP, bW⟩ <;> omega
  go_simp
  obtain ⟨wx5_25, hq⟩ : ∃ y, wd5.alloc (.cells #[.int .i64 0,.int .i64 0,.int .i64 0,.int .i64 0,.int .i64 0,.int .i64 0,.string ⟨#[]⟩,.slice none 0 0,.string ⟨#[]⟩,.slice none 0 0,.slice none 0 0,.slice none 0 0,.int .i64 0,.slice none 0 0] 46) = y:=⟨_, rfl⟩
  have bb : Below wd5.heap.size wd5 wx5_25:=hq ▸ qalloc _ _
  have bx5_26 : Below w1.heap.size w1 wx5_25:=bu bA bb
  have G : Loc wx5_25 wd5.heap.size #[.int .i64 0,.int .i64 0,.int .i64 0,.int .i64 0,.int .i64 0,.int .i64 0,.string ⟨#[]⟩,.slice none 0 0,.string ⟨#[]⟩,.slice none 0 0,.slice none 0 0,.slice none 0 0,.int .i64 0,.slice none 0 0]:=hq ▸ loc_at wd5 _ _ rfl
  have zwx5_25 : wx5_25.heap.size = wd5.heap.size + 1:=by rw [← hq]; simp
  rw [hq]
  clear hHeld hq
  refine hKK.out _ _ (K.out _ bx5_26) (fun hHeld => ?_)
  clear hKK KK bA
  have swx5_25:=bb.size
  clear bb
  refine rd 1 rfl (fun KK hKK => ?_)
  go_simp
  refine (TC.out _).mono ?_
  rintro e wx5_27 ⟨rfl, bb⟩
  have bx5_28 : Below w1.heap.size w1 wx5_27:=bu bx5_26 bb
  clear hHeld
  refine hKK.out _ _ (K.out _ bx5_28) (fun hHeld => ?_)
  clear hKK KK bx5_26
  have swx5_27:=bb.size
  replace G:=G.up bb
  clear bb
  refine rd 3 rfl (fun KK hKK => ?_)
  go_simp
  refine (TA.out _ (HI.out.below (bu Bw1 bx5_28))).mono ?_
  rintro e wx5_29 ⟨u1, u2, u3, u4, u5, rfl, m1, bb⟩
  have bx5_30 : Below w1.heap.size w1 wx5_29:=bu bx5_28 bb
  clear hHeld
  refine hKK.out _ _ (K.out _ bx5_30) (fun hHeld => ?_)
  clear hKK KK bx5_28
  have swx5_29:=bb.size
  replace G:=G.up bb
  clear bb
  obtain ⟨a1, k1, b1, l1, c1, n1, d1_, p1, e1, q1, rfl, rfl, rfl, rfl, rfl⟩:=m1.form
  refine rd 4 rfl (fun KK hKK => ?_)
  go_simp
  refine (SP.out _ _ _ _ _ _ _ _ _ _ _ (m1.orep.rrep SM.out)).mono ?_
  rintro e wx5_31 ⟨y1, y2, y3, y4, y5, v1, rfl, sR, sP, bb⟩
  have bx5_32 : Below w1.heap.size w1 wx5_31:=bu bx5_30 bb
  clear hHeld
  refine hKK.out _ _ (K.out _ bx5_32) (fun hHeld => ?_)
  clear hKK KK bx5_30
  have swx5_31:=bb.size
  replace G:=G.up bb
  replace m1:=m1.below bb
  clear bb m1
  obtain ⟨aG, kG, rfl⟩:=sR.rrep.q.form
  obtain ⟨bG, lG, rfl⟩:=RT.form1 sR.rrep.p
  obtain ⟨cG, nG, rfl⟩:=sR.rrep.tb.form
  obtain ⟨dG, pG, rfl⟩:=RB.form1 sR.rrep.d
  obtain ⟨eG, qG, rfl⟩:=sR.rrep.h.form
  obtain ⟨loG, hlG⟩ : ∃ m, wx5_29.heap.size = m:=⟨_, rfl⟩
  obtain ⟨hiG, hhG⟩ : ∃ m, wx5_31.heap.size = m:=⟨_, rfl⟩
  rw [hlG, hhG] at sR sP
  have g1:=Nat.le_of_eq hlG
  have g2:=Nat.le_of_eq hlG.symm
  have g3:=Nat.le_of_eq hhG
  have g4:=Nat.le_of_eq hhG.symm
  clear hlG hhG
  refine tx 5 21 ?_
  refine tx 6 27 ?_
  refine tx 7 28 ?_
  refine rd 9 rfl (fun KK hKK => ?_)
  rw [if_pos (by rfl)]
  refine wp_store_mid 46 (.tmp 6) (.tmp 27) rfl (wd5.heap.size) 0 #[.int .i64 u.id,.int .i64 u.vw,.int .i64 u.ak,.int .i64 u.vo,.int .i64 u.lo,.int .i64 u.n,.string u.s,.slice aG u.qw.length kG,.string u.d,.slice bG u.pool.length lG,.slice cG u.tab.length nG,.slice dG u.dsk.length pG,.int .i64 u.su,.slice eG u.held.length qG] rfl rfl (G.there 0 14 (by simp)) (by kernel_rfl) (by simp [Value.oneCell']) ?_
  obtain ⟨wx5_33, hq⟩ : ∃ y, wx5_31.setCells (wd5.heap.size) 0 [.int .i64 u.id, .int .i64 u.vw, .int .i64 u.ak, .int .i64 u.vo, .int .i64 u.lo, .int .i64 u.n, .string u.s, .slice aG u.qw.length kG, .string u.d, .slice bG u.pool.length lG, .slice cG u.tab.length nG, .slice dG u.dsk.length pG, .int .i64 u.su, .slice eG u.held.length qG] = y:=⟨_, rfl⟩
  have kN : Kp wx5_31 wx5_33 (fun k => k = wd5.heap.size):=hq ▸ setCells_kp _ _ _ _
  have bx5_34:=Below.kp bx5_32 kN bx5_32.size (fun j e => by omega)
  replace G : Loc wx5_33 (wd5.heap.size) #[.int .i64 u.id,.int .i64 u.vw,.int .i64 u.ak,.int .i64 u.vo,.int .i64 u.lo,.int .i64 u.n,.string u.s,.slice aG u.qw.length kG,.string u.d,.slice bG u.pool.length lG,.slice cG u.tab.length nG,.slice dG u.dsk.length pG,.int .i64 u.su,.slice eG u.held.length qG]:=hq ▸ G.setCells _ _ rfl
  rw [show wx5_31.setCells (wd5.heap.size) 0 (Array.toList #[.int .i64 u.id,.int .i64 u.vw,.int .i64 u.ak,.int .i64 u.vo,.int .i64 u.lo,.int .i64 u.n,.string u.s,.slice aG u.qw.length kG,.string u.d,.slice bG u.pool.length lG,.slice cG u.tab.length nG,.slice dG u.dsk.length pG,.int .i64 u.su,.slice eG u.held.length qG]) = wx5_33 from hq]
  clear hHeld
  refine hKK.out _ _ (K.out _ bx5_34) (fun hHeld => ?_)
  clear hKK KK bx5_32
  replace sR:=sR.kp kN (fun j h1 h2 e => by omega)
  replace sP:=sP.kp kN (fun j h1 h2 e => by omega)
  have swx5_33:=kN.size
  clear hq kN
  refine tx 10 7 ?_
  clear hHeld
  refine wdn ?_
  have bW:=bx5_34
  clear K bx5_34
  go_wp2_with fail
  go_meet
  refine ⟨_, _, _, _, _, _, _, _, _, _, _, _, _, _, rfl, rfl, ?_, G.lt, G, ⟨?_, ?_, ?_⟩, sR, sP, bW⟩ <;> omega
 case rest =>
 obtain ⟨w2, hwq⟩ : ∃ x, x = wc:=⟨_, rfl⟩
 subst hwq
 obtain ⟨hG, loG, hiG, aG, kG, bG, lG, cG, nG, dG, pG, eG, qG, vG, rfl, rfl, hG1, hG2, G, ⟨rG1, rG2, rG3⟩, sR, sP, bb⟩:=hcut
 have Bw2:=bu Bw1 bb
 have sw2:=bb.size
 replace LC:=LC.up bb
 replace LA:=LA.up bb
 clear Bw1 bb SP
 go_wp2_with (first | (refine wload LA 36 _ rfl _ rfl rfl Tryz.underlying36 rfl (by kernel_rfl) ?_))
 refine (TA.out _ (HI.out.below Bw2)).mono ?_
 rintro _ w3 ⟨u1, u2, u3, u4, u5, rfl, mX, bb⟩
 have Bw3:=bu Bw2 bb
 have sw3:=bb.size
 replace LC:=LC.up bb
 replace LA:=LA.up bb
 replace G:=G.up bb
 clear Bw2
 replace sR:=sR.below bb
 replace sP:=sP.below bb
 clear bb
 obtain ⟨aX, kX, bX, lX, cX, nX, dX, pX, eX, qX, rfl, rfl, rfl, rfl, rfl⟩:=mX.form
 go_upto_region 7 with (refine wstore (loc_at w3 #[.int .i64 0,.int .i64 0,.int .i64 0,.int .i64 0,.int .i64 0,.int .i64 0,.string ⟨#[]⟩,.slice none 0 0,.string ⟨#[]⟩,.slice none 0 0,.slice none 0 0,.slice none 0 0,.int .i64 0,.slice none 0 0] 46 rfl) 46 #[.int .i64 t.id,.int .i64 t.vw,.int .i64 t.ak,.int .i64 t.vo,.int .i64 t.lo,.int .i64 t.n,.string t.s,.slice aX t.qw.length kX,.string t.d,.slice bX t.pool.length lX,.slice cX t.tab.length nX,.slice dX t.dsk.length pX,.int .i64 t.su,.slice eX t.held.length qX] rfl _ _ rfl rfl rfl (by kernel_rfl) rfl (by simp [Value.oneCell']) ?_)
 obtain ⟨w4, hw4⟩ : ∃ y, (w3.alloc (.cells #[.int .i64 0,.int .i64 0,.int .i64 0,.int .i64 0,.int .i64 0,.int .i64 0,.string ⟨#[]⟩,.slice none 0 0,.string ⟨#[]⟩,.slice none 0 0,.slice none 0 0,.slice none 0 0,.int .i64 0,.slice none 0 0] 46)).setRow w3.heap.size #[.int .i64 t.id,.int .i64 t.vw,.int .i64 t.ak,.int .i64 t.vo,.int .i64 t.lo,.int .i64 t.n,.string t.s,.slice aX t.qw.length kX,.string t.d,.slice bX t.pool.length lX,.slice cX t.tab.length nX,.slice dX t.dsk.length pX,.int .i64 t.su,.slice eX t.held.length qX] = y:=⟨_, rfl⟩
 rw [hw4]
 have bb : Below w3.heap.size w3 w4:=hw4 ▸ box_below _ _ _ _
 have X : Loc w4 w3.heap.size #[.int .i64 t.id,.int .i64 t.vw,.int .i64 t.ak,.int .i64 t.vo,.int .i64 t.lo,.int .i64 t.n,.string t.s,.slice aX t.qw.length kX,.string t.d,.slice bX t.pool.length lX,.slice cX t.tab.length nX,.slice dX t.dsk.length pX,.int .i64 t.su,.slice eX t.held.length qX]:=hw4 ▸ box_loc _ _ _ _
 have zw4 : w4.heap.size = w3.heap.size + 1:=by rw [← hw4]; exact box_size _ _ _ _
 clear hw4
 have Bw4:=bu Bw3 bb
 have sw4:=bb.size
 replace LC:=LC.up bb
 replace LA:=LA.up bb
 replace G:=G.up bb
 clear Bw3
 replace sR:=sR.below bb
 replace sP:=sP.below bb
 replace mX:=mX.below bb
 clear bb
 go_upto_region 7 with fail
 try simp only [Act.put, List.setIfInBounds_toArray, List.set_cons_zero, List.set_cons_succ]
 go_cut [9, 10] (fun c d1 wx => ∃ (h lo m hi : Nat) (aY : Option Addr) (kY : Nat) (bY : Option Addr) (lY : Nat) (cY : Option Addr) (nY : Nat) (dY : Option Addr) (pY : Nat) (eY : Option Addr) (qY : Nat) (v : Value), c = .pointer (some ⟨h, 0, none⟩) ∧ d1 = v ∧ w4.heap.size ≤ h ∧ h < wx.heap.size ∧ Loc wx h #[.int .i64 u.id,.int .i64 u.vw,.int .i64 u.ak,.int .i64 u.vo,.int .i64 u.lo,.int .i64 u.n,.string u.s,.slice aY u.qw.length kY,.string u.d,.slice bY u.pool.length lY,.slice cY u.tab.length nY,.slice dY u.dsk.length pY,.int .i64 u.su,.slice eY u.held.length qY] ∧ (w4.heap.size ≤ lo ∧ lo ≤ m ∧ m ≤ hi ∧ hi ≤ wx.heap.size ∧ (h < lo ∨ hi ≤ h)) ∧ OPC wx lo m v ps ∧ ORepG wx m hi u (.slice aY u.qw.length kY) (.slice bY u.pool.length lY) (.slice cY u.tab.length nY) (.slice dY u.dsk.length pY) (.slice eY u.held.length qY) ∧ Below w4.heap.size w4 wx)
 case first =>
  have K:=kw (ka (kc2 LC 0 1) (kL X))
  refine wra K (fun bA hHeld => ?_)
  obtain ⟨wd7, hwd⟩ : ∃ y, w4.drew = y:=⟨_, rfl⟩
  rw [hwd] at bA hHeld ⊢
  clear hwd
  have swd7:=bA.size
  refine tx 0 32 ?_
  refine take_at (i := 2) (d := 34) (v := .agg #[.int .i64 t.id,.int .i64 t.vw,.int .i64 t.ak,.int .i64 t.vo,.int .i64 t.lo,.int .i64 t.n,.string t.s,.slice aX t.qw.length kX,.string t.d,.slice bX t.pool.length lX,.slice cX t.tab.length nX,.slice dX t.dsk.length pX,.int .i64 t.su,.slice eX t.held.length qX]) rfl rfl (by kernel_rfl) (by kernel_rfl) (by kernel_rfl) (fun _ _ _ h => h) ?_ (by assumption) ?_
  ·exact yields_row rfl 46 _ rfl rfl _ (fun w h => h.2.2) Tryz.underlying46 rfl (by kernel_rfl)
  simp only [pU]
  refine wpAnyH_ready (rs := [1, 7]) (by kernel_rfl) (by simp) (AllReadyH.cons rfl (fun KK hKK => ?_) (AllReadyH.cons rfl (fun KK hKK => ?_) AllReadyH.nil))
  ·go_simp
   refine (TC.out _).mono ?_
   rintro e wx7_1 ⟨rfl, bb⟩
   have bx7_2 : Below w4.heap.size w4 wx7_1:=bu bA bb
   clear hHeld
   refine hKK.out _ _ (K.out _ bx7_2) (fun hHeld => ?_)
   clear hKK KK bA
   have swx7_1:=bb.size
   clear bb
   refine wpAnyH_ready (rs := [3, 7]) (by kernel_rfl) (by simp) (AllReadyH.cons rfl (fun KK hKK => ?_) (AllReadyH.cons rfl (fun KK hKK => ?_) AllReadyH.nil))
   ·go_simp
    refine (IM.out _ _ _ _ _ _ _ _ _ _ _ (EB.out _ _ HE.out (bu Bw4 bx7_2)) ((mX.below bx7_2).orep.rrep SM.out)).mono ?_
    rintro e wx7_3 ⟨y1, y2, y3, y4, y5, v1, rfl, hm, bb⟩
    have bx7_4 : Below w4.heap.size w4 wx7_3:=bu bx7_2 bb
    clear hHeld
    refine hKK.out _ _ (K.out _ bx7_4) (fun hHeld => ?_)
    clear hKK KK bx7_2
    have swx7_3:=bb.size
    clear bb
    obtain ⟨mG, g5, g6, oP, oR⟩:=hm
    obtain ⟨aH, kH, bH, lH, cH, nH, dH, pH, eH, qH, rfl, rfl, rfl, rfl, rfl⟩:=oR.form
    obtain ⟨loH, hlH⟩ : ∃ m, wx7_1.heap.size = m:=⟨_, rfl⟩
    obtain ⟨hiH, hhH⟩ : ∃ m, wx7_3.heap.size = m:=⟨_, rfl⟩
    rw [hlH] at oP g5
    rw [hhH] at oR g6
    have g1:=Nat.le_of_eq hlH
    have g2:=Nat.le_of_eq hlH.symm
    have g3:=Nat.le_of_eq hhH
    have g4:=Nat.le_of_eq hhH.symm
    clear hlH hhH
    refine tx 4 31 ?_
    refine tx 5 36 ?_
    refine tx 6 37 ?_
    refine rd 7 rfl (fun KK hKK => ?_)
    go_simp
    obtain ⟨wx7_5, hq⟩ : ∃ y, wx7_3.alloc (.cells #[.int .i64 0,.int .i64 0,.int .i64 0,.int .i64 0,.int .i64 0,.int .i64 0,.string ⟨#[]⟩,.slice none 0 0,.string ⟨#[]⟩,.slice none 0 0,.slice none 0 0,.slice none 0 0,.int .i64 0,.slice none 0 0] 46) = y:=⟨_, rfl⟩
    have bb : Below wx7_3.heap.size wx7_3 wx7_5:=hq ▸ qalloc _ _
    have bx7_6 : Below w4.heap.size w4 wx7_5:=bu bx7_4 bb
    have H : Loc wx7_5 wx7_3.heap.size #[.int .i64 0,.int .i64 0,.int .i64 0,.int .i64 0,.int .i64 0,.int .i64 0,.string ⟨#[]⟩,.slice none 0 0,.string ⟨#[]⟩,.slice none 0 0,.slice none 0 0,.slice none 0 0,.int .i64 0,.slice none 0 0]:=hq ▸ loc_at wx7_3 _ _ rfl
    have zwx7_5 : wx7_5.heap.size = wx7_3.heap.size + 1:=by rw [← hq]; simp
    rw [hq]
    clear hHeld hq
    refine hKK.out _ _ (K.out _ bx7_6) (fun hHeld => ?_)
    clear hKK KK bx7_4
    have swx7_5:=bb.size
    replace oP:=oP.below bb
    replace oR:=oR.below bb
    clear bb
    refine rd 8 rfl (fun KK hKK => ?_)
    rw [if_pos (by rfl)]
    refine wp_store_mid 46 (.tmp 9) (.tmp 36) rfl (wx7_3.heap.size) 0 #[.int .i64 u.id,.int .i64 u.vw,.int .i64 u.ak,.int .i64 u.vo,.int .i64 u.lo,.int .i64 u.n,.string u.s,.slice aH u.qw.length kH,.string u.d,.slice bH u.pool.length lH,.slice cH u.tab.length nH,.slice dH u.dsk.length pH,.int .i64 u.su,.slice eH u.held.length qH] rfl rfl (H.there 0 14 (by simp)) (by kernel_rfl) (by simp [Value.oneCell']) ?_
    obtain ⟨wx7_7, hq⟩ : ∃ y, wx7_5.setCells (wx7_3.heap.size) 0 [.int .i64 u.id, .int .i64 u.vw, .int .i64 u.ak, .int .i64 u.vo, .int .i64 u.lo, .int .i64 u.n, .string u.s, .slice aH u.qw.length kH, .string u.d, .slice bH u.pool.length lH, .slice cH u.tab.length nH, .slice dH u.dsk.length pH, .int .i64 u.su, .slice eH u.held.length qH] = y:=⟨_, rfl⟩
    have kN : Kp wx7_5 wx7_7 (fun k => k = wx7_3.heap.size):=hq ▸ setCells_kp _ _ _ _
    have bx7_8:=Below.kp bx7_6 kN bx7_6.size (fun j e => by omega)
    replace H : Loc wx7_7 (wx7_3.heap.size) #[.int .i64 u.id,.int .i64 u.vw,.int .i64 u.ak,.int .i64 u.vo,.int .i64 u.lo,.int .i64 u.n,.string u.s,.slice aH u.qw.length kH,.string u.d,.slice bH u.pool.length lH,.slice cH u.tab.length nH,.slice dH u.dsk.length pH,.int .i64 u.su,.slice eH u.held.length qH]:=hq ▸ H.setCells _ _ rfl
    rw [show wx7_5.setCells (wx7_3.heap.size) 0 (Array.toList #[.int .i64 u.id,.int .i64 u.vw,.int .i64 u.ak,.int .i64 u.vo,.int .i64 u.lo,.int .i64 u.n,.string u.s,.slice aH u.qw.length kH,.string u.d,.slice bH u.pool.length lH,.slice cH u.tab.length nH,.slice dH u.dsk.length pH,.int .i64 u.su,.slice eH u.held.length qH]) = wx7_7 from hq]
    clear hHeld
    refine hKK.out _ _ (K.out _ bx7_8) (fun hHeld => ?_)
    clear hKK KK bx7_6
    replace oP:=oP.kp kN (fun j h1 h2 e => by omega)
    replace oR:=oR.kp kN (fun j h1 h2 e => by omega)
    have swx7_7:=kN.size
    clear hq kN
    refine tx 9 10 ?_
    clear hHeld
    refine wdn ?_
    have bW:=bx7_8
    clear K bx7_8
    go_wp2_with fail
    go_meet
    refine ⟨_, _, _, _, _, _, _, _, _, _, _, _, _, _, _, rfl, rfl, ?_, H.lt, H, ⟨?_, ?_, ?_, ?_, ?_⟩, oP, oR, bW⟩ <;> omega
   go_simp
   obtain ⟨wx7_9, hq⟩ : ∃ y, wx7_1.alloc (.cells #[.int .i64 0,.int .i64 0,.int .i64 0,.int .i64 0,.int .i64 0,.int .i64 0,.string ⟨#[]⟩,.slice none 0 0,.string ⟨#[]⟩,.slice none 0 0,.slice none 0 0,.slice none 0 0,.int .i64 0,.slice none 0 0] 46) = y:=⟨_, rfl⟩
   have bb : Below wx7_1.heap.size wx7_1 wx7_9:=hq ▸ qalloc _ _
   have bx7_10 : Below w4.heap.size w4 wx7_9:=bu bx7_2 bb
   have H : Loc wx7_9 wx7_1.heap.size #[.int .i64 0,.int .i64 0,.int .i64 0,.int .i64 0,.int .i64 0,.int .i64 0,.string ⟨#[]⟩,.slice none 0 0,.string ⟨#[]⟩,.slice none 0 0,.slice none 0 0,.slice none 0 0,.int .i64 0,.slice none 0 0]:=hq ▸ loc_at wx7_1 _ _ rfl
   have zwx7_9 : wx7_9.heap.size = wx7_1.heap.size + 1:=by rw [← hq]; simp
   rw [hq]
   clear hHeld hq
   refine hKK.out _ _ (K.out _ bx7_10) (fun hHeld => ?_)
   clear hKK KK bx7_2
   have swx7_9:=bb.size
   clear bb
   refine rd 3 rfl (fun KK hKK => ?_)
   go_simp
   refine (IM.out _ _ _ _ _ _ _ _ _ _ _ (EB.out _ _ HE.out (bu Bw4 bx7_10)) ((mX.below bx7_10).orep.rrep SM.out)).mono ?_
   rintro e wx7_11 ⟨y1, y2, y3, y4, y5, v1, rfl, hm, bb⟩
   have bx7_12 : Below w4.heap.size w4 wx7_11:=bu bx7_10 bb
   clear hHeld
   refine hKK.out _ _ (K.out _ bx7_12) (fun hHeld => ?_)
   clear hKK KK bx7_10
   have swx7_11:=bb.size
   replace H:=H.up bb
   clear bb
   obtain ⟨mG, g5, g6, oP, oR⟩:=hm
   obtain ⟨aH, kH, bH, lH, cH, nH, dH, pH, eH, qH, rfl, rfl, rfl, rfl, rfl⟩:=oR.form
   obtain ⟨loH, hlH⟩ : ∃ m, wx7_9.heap.size = m:=⟨_, rfl⟩
   obtain ⟨hiH, hhH⟩ : ∃ m, wx7_11.heap.size = m:=⟨_, rfl⟩
   rw [hlH] at oP g5
   rw [hhH] at oR g6
   have g1:=Nat.le_of_eq hlH
   have g2:=Nat.le_of_eq hlH.symm
   have g3:=Nat.le_of_eq hhH
   have g4:=Nat.le_of_eq hhH.symm
   clear hlH hhH
   refine tx 4 31 ?_
   refine tx 5 36 ?_
   refine tx 6 37 ?_
   refine rd 8 rfl (fun KK hKK => ?_)
   rw [if_pos (by rfl)]
   refine wp_store_mid 46 (.tmp 9) (.tmp 36) rfl (wx7_1.heap.size) 0 #[.int .i64 u.id,.int .i64 u.vw,.int .i64 u.ak,.int .i64 u.vo,.int .i64 u.lo,.int .i64 u.n,.string u.s,.slice aH u.qw.length kH,.string u.d,.slice bH u.pool.length lH,.slice cH u.tab.length nH,.slice dH u.dsk.length pH,.int .i64 u.su,.slice eH u.held.length qH] rfl rfl (H.there 0 14 (by simp)) (by kernel_rfl) (by simp [Value.oneCell']) ?_
   obtain ⟨wx7_13, hq⟩ : ∃ y, wx7_11.setCells (wx7_1.heap.size) 0 [.int .i64 u.id, .int .i64 u.vw, .int .i64 u.ak, .int .i64 u.vo, .int .i64 u.lo, .int .i64 u.n, .string u.s, .slice aH u.qw.length kH, .string u.d, .slice bH u.pool.length lH, .slice cH u.tab.length nH, .slice dH u.dsk.length pH, .int .i64 u.su, .slice eH u.held.length qH] = y:=⟨_, rfl⟩
   have kN : Kp wx7_11 wx7_13 (fun k => k = wx7_1.heap.size):=hq ▸ setCells_kp _ _ _ _
   have bx7_14:=Below.kp bx7_12 kN bx7_12.size (fun j e => by omega)
   replace H : Loc wx7_13 (wx7_1.heap.size) #[.int .i64 u.id,.int .i64 u.vw,.int .i64 u.ak,.int .i64 u.vo,.int .i64 u.lo,.int .i64 u.n,.string u.s,.slice aH u.qw.length kH,.string u.d,.slice bH u.pool.length lH,.slice cH u.tab.length nH,.slice dH u.dsk.length pH,.int .i64 u.su,.slice eH u.held.length qH]:=hq ▸ H.setCells _ _ rfl
   rw [show wx7_11.setCells (wx7_1.heap.size) 0 (Array.toList #[.int .i64 u.id,.int .i64 u.vw,.int .i64 u.ak,.int .i64 u.vo,.int .i64 u.lo,.int .i64 u.n,.string u.s,.slice aH u.qw.length kH,.string u.d,.slice bH u.pool.length lH,.slice cH u.tab.length nH,.slice dH u.dsk.length pH,.int .i64 u.su,.slice eH u.held.length qH]) = wx7_13 from hq]
   clear hHeld
   refine hKK.out _ _ (K.out _ bx7_14) (fun hHeld => ?_)
   clear hKK KK bx7_12
   replace oP:=oP.kp kN (fun j h1 h2 e => by omega)
   replace oR:=oR.kp kN (fun j h1 h2 e => by omega)
   have swx7_13:=kN.size
   clear hq kN
   refine tx 9 10 ?_
   clear hHeld
   refine wdn ?_
   have bW:=bx7_14
   clear K bx7_14
   go_wp2_with fail
   go_meet
   refine ⟨_, _, _, _, _, _, _, _, _, _, _, _, _, _, _, rfl, rfl, ?_, H.lt, H, ⟨?_, ?_, ?_, ?_, ?_⟩, oP, oR, bW⟩ <;> omega
  go_simp
  obtain ⟨wx7_15, hq⟩ : ∃ y, wd7.alloc (.cells #[.int .i64 0,.int .i64 0,.int .i64 0,.int .i64 0,.int .i64 0,.int .i64 0,.string ⟨#[]⟩,.slice none 0 0,.string ⟨#[]⟩,.slice none 0 0,.slice none 0 0,.slice none 0 0,.int .i64 0,.slice none 0 0] 46) = y:=⟨_, rfl⟩
  have bb : Below wd7.heap.size wd7 wx7_15:=hq ▸ qalloc _ _
  have bx7_16 : Below w4.heap.size w4 wx7_15:=bu bA bb
  have H : Loc wx7_15 wd7.heap.size #[.int .i64 0,.int .i64 0,.int .i64 0,.int .i64 0,.int .i64 0,.int .i64 0,.string ⟨#[]⟩,.slice none 0 0,.string ⟨#[]⟩,.slice none 0 0,.slice none 0 0,.slice none 0 0,.int .i64 0,.slice none 0 0]:=hq ▸ loc_at wd7 _ _ rfl
  have zwx7_15 : wx7_15.heap.size = wd7.heap.size + 1:=by rw [← hq]; simp
  rw [hq]
  clear hHeld hq
  refine hKK.out _ _ (K.out _ bx7_16) (fun hHeld => ?_)
  clear hKK KK bA
  have swx7_15:=bb.size
  clear bb
  refine rd 1 rfl (fun KK hKK => ?_)
  go_simp
  refine (TC.out _).mono ?_
  rintro e wx7_17 ⟨rfl, bb⟩
  have bx7_18 : Below w4.heap.size w4 wx7_17:=bu bx7_16 bb
  clear hHeld
  refine hKK.out _ _ (K.out _ bx7_18) (fun hHeld => ?_)
  clear hKK KK bx7_16
  have swx7_17:=bb.size
  replace H:=H.up bb
  clear bb
  refine rd 3 rfl (fun KK hKK => ?_)
  go_simp
  refine (IM.out _ _ _ _ _ _ _ _ _ _ _ (EB.out _ _ HE.out (bu Bw4 bx7_18)) ((mX.below bx7_18).orep.rrep SM.out)).mono ?_
  rintro e wx7_19 ⟨y1, y2, y3, y4, y5, v1, rfl, hm, bb⟩
  have bx7_20 : Below w4.heap.size w4 wx7_19:=bu bx7_18 bb
  clear hHeld
  refine hKK.out _ _ (K.out _ bx7_20) (fun hHeld => ?_)
  clear hKK KK bx7_18
  have swx7_19:=bb.size
  replace H:=H.up bb
  clear bb
  obtain ⟨mG, g5, g6, oP, oR⟩:=hm
  obtain ⟨aH, kH, bH, lH, cH, nH, dH, pH, eH, qH, rfl, rfl, rfl, rfl, rfl⟩:=oR.form
  obtain ⟨loH, hlH⟩ : ∃ m, wx7_17.heap.size = m:=⟨_, rfl⟩
  obtain ⟨hiH, hhH⟩ : ∃ m, wx7_19.heap.size = m:=⟨_, rfl⟩
  rw [hlH] at oP g5
  rw [hhH] at oR g6
  have g1:=Nat.le_of_eq hlH
  have g2:=Nat.le_of_eq hlH.symm
  have g3:=Nat.le_of_eq hhH
  have g4:=Nat.le_of_eq hhH.symm
  clear hlH hhH
  refine tx 4 31 ?_
  refine tx 5 36 ?_
  refine tx 6 37 ?_
  refine rd 8 rfl (fun KK hKK => ?_)
  rw [if_pos (by rfl)]
  refine wp_store_mid 46 (.tmp 9) (.tmp 36) rfl (wd7.heap.size) 0 #[.int .i64 u.id,.int .i64 u.vw,.int .i64 u.ak,.int .i64 u.vo,.int .i64 u.lo,.int .i64 u.n,.string u.s,.slice aH u.qw.length kH,.string u.d,.slice bH u.pool.length lH,.slice cH u.tab.length nH,.slice dH u.dsk.length pH,.int .i64 u.su,.slice eH u.held.length qH] rfl rfl (H.there 0 14 (by simp)) (by kernel_rfl) (by simp [Value.oneCell']) ?_
  obtain ⟨wx7_21, hq⟩ : ∃ y, wx7_19.setCells (wd7.heap.size) 0 [.int .i64 u.id, .int .i64 u.vw, .int .i64 u.ak, .int .i64 u.vo, .int .i64 u.lo, .int .i64 u.n, .string u.s, .slice aH u.qw.length kH, .string u.d, .slice bH u.pool.length lH, .slice cH u.tab.length nH, .slice dH u.dsk.length pH, .int .i64 u.su, .slice eH u.held.length qH] = y:=⟨_, rfl⟩
  have kN : Kp wx7_19 wx7_21 (fun k => k = wd7.heap.size):=hq ▸ setCells_kp _ _ _ _
  have bx7_22:=Below.kp bx7_20 kN bx7_20.size (fun j e => by omega)
  replace H : Loc wx7_21 (wd7.heap.size) #[.int .i64 u.id,.int .i64 u.vw,.int .i64 u.ak,.int .i64 u.vo,.int .i64 u.lo,.int .i64 u.n,.string u.s,.slice aH u.qw.length kH,.string u.d,.slice bH u.pool.length lH,.slice cH u.tab.length nH,.slice dH u.dsk.length pH,.int .i64 u.su,.slice eH u.held.length qH]:=hq ▸ H.setCells _ _ rfl
  rw [show wx7_19.setCells (wd7.heap.size) 0 (Array.toList #[.int .i64 u.id,.int .i64 u.vw,.int .i64 u.ak,.int .i64 u.vo,.int .i64 u.lo,.int .i64 u.n,.string u.s,.slice aH u.qw.length kH,.string u.d,.slice bH u.pool.length lH,.slice cH u.tab.length nH,.slice dH u.dsk.length pH,.int .i64 u.su,.slice eH u.held.length qH]) = wx7_21 from hq]
  clear hHeld
  refine hKK.out _ _ (K.out _ bx7_22) (fun hHeld => ?_)
  clear hKK KK bx7_20
  replace oP:=oP.kp kN (fun j h1 h2 e => by omega)
  replace oR:=oR.kp kN (fun j h1 h2 e => by omega)
  have swx7_21:=kN.size
  clear hq kN
  refine tx 9 10 ?_
  clear hHeld
  refine wdn ?_
  have bW:=bx7_22
  clear K bx7_22
  go_wp2_with fail
  go_meet
  refine ⟨_, _, _, _, _, _, _, _, _, _, _, _, _, _, _, rfl, rfl, ?_, H.lt, H, ⟨?_, ?_, ?_, ?_, ?_⟩, oP, oR, bW⟩ <;> omega
 case rest =>
 obtain ⟨w5, hwq⟩ : ∃ x, x = wc:=⟨_, rfl⟩
 subst hwq
 obtain ⟨hH, loH, mH, hiH, aH, kH, bH, lH, cH, nH, dH, pH, eH, qH, vH, rfl, rfl, hH1, hH2, H, ⟨rH1, rH2, rH3, rH4, rH5⟩, oPH, oRH, bb⟩:=hcut
 have Bw5:=bu Bw4 bb
 have sw5:=bb.size
 replace LC:=LC.up bb
 replace LA:=LA.up bb
 replace G:=G.up bb
 replace X:=X.up bb
 clear Bw4
 replace sR:=sR.below bb
 replace sP:=sP.below bb
 replace mX:=mX.below bb
 clear bb
 go_wp2_with (first | (refine wload H 46 _ rfl _ rfl rfl Tryz.underlying46 rfl (by kernel_rfl) ?_) | (refine wload G 46 _ rfl _ rfl rfl Tryz.underlying46 rfl (by kernel_rfl) ?_))
 refine (EU.out _ _ _ _ _ _ _ _ _ _ _ (oRH.rrep UM.out) sR.rrep).mono ?_
 rintro _ w6 ⟨rfl, bb⟩
 have Bw6:=bu Bw5 bb
 have sw6:=bb.size
 replace LC:=LC.up bb
 replace LA:=LA.up bb
 replace G:=G.up bb
 replace X:=X.up bb
 replace H:=H.up bb
 clear Bw5
 replace sR:=sR.below bb
 replace sP:=sP.below bb
 replace mX:=mX.below bb
 replace oPH:=oPH.below bb
 replace oRH:=oRH.below bb
 clear bb
 go_wp2_with fail
 refine (EP.out _ _ _ (oPH.opo.rpo PL.out) sP.rpo).mono ?_
 rintro _ w7 ⟨rfl, bb⟩
 have Bw7:=bu Bw6 bb
 have sw7:=bb.size
 replace LC:=LC.up bb
 replace LA:=LA.up bb
 replace G:=G.up bb
 replace X:=X.up bb
 replace H:=H.up bb
 clear Bw6
 replace sR:=sR.below bb
 replace sP:=sP.below bb
 replace mX:=mX.below bb
 replace oPH:=oPH.below bb
 replace oRH:=oRH.below bb
 clear bb
 have RX:=hide fun w' (hb' : Below w7.heap.size w7 w') => (mX.below hb').orep.rrep SM.out
 have K:=kw (ka (kL LA) (kL X))
 go_upto_region 10 with fail
 refine wra K (fun bA hHeld => ?_)
 refine take_at (i := 0) (d := 48) (v := .agg #[.int .i64 t.id,.int .i64 t.vw,.int .i64 t.ak,.int .i64 t.vo,.int .i64 t.lo,.int .i64 t.n,.string t.s,.slice aX t.qw.length kX,.string t.d,.slice bX t.pool.length lX,.slice cX t.tab.length nX,.slice dX t.dsk.length pX,.int .i64 t.su,.slice eX t.held.length qX]) rfl rfl (by kernel_rfl) (by kernel_rfl) (by kernel_rfl) (fun _ _ _ h => h) ?_ (by assumption) ?_
 ·exact yields_row rfl 46 _ rfl rfl _ (fun w h => h.2.2) Tryz.underlying46 rfl (by kernel_rfl)
 simp only [pU]
 refine take_at (i := 1) (d := 49) (v := .agg #[.int .i64 t.id,.int .i64 t.vw,.int .i64 t.ak,.int .i64 t.vo,.int .i64 t.lo,.int .i64 t.n,.string t.s,.slice ao t.qw.length ca,.string t.d,.slice bo t.pool.length cb,.slice co t.tab.length cc,.slice od t.dsk.length cd,.int .i64 t.su,.slice oe t.held.length ce]) rfl rfl (by kernel_rfl) (by kernel_rfl) (by kernel_rfl) (fun _ _ _ h => h) ?_ (by assumption) ?_
 ·exact yields_row rfl 36 _ rfl rfl _ (fun w h => h.2.1) Tryz.underlying36 rfl (by kernel_rfl)
 simp only [pU]
 refine rd 2 rfl (fun KK hKK => ?_)
 go_simp
 have hgo:=bA
 refine (TA.out _ (HI.out.below (bu Bw7 hgo))).mono ?_
 rintro e wz10_1 ⟨u1, u2, u3, u4, u5, rfl, m1, bb⟩
 have bz1 : Below w7.heap.size w7 wz10_1:=bu bA bb
 have R1:=hide (m1.orep.rrep SM.out)
 clear m1 bA hgo bb hHeld
 refine hKK.out _ _ (K.out _ bz1) (fun hHeld => ?_)
 clear hKK KK
 refine rd 3 rfl (fun KK hKK => ?_)
 go_simp
 have hgo:=bz1
 refine (EQ.out _ _ _ _ _ _ _ _ _ _ _ (RX.out _ hgo) R1.out).mono ?_
 rintro e wz10_2 ⟨rfl, bb⟩
 have bz2 : Below w7.heap.size w7 wz10_2:=bu bz1 bb
 clear R1 RX bz1 hgo bb hHeld
 refine hKK.out _ _ (K.out _ bz2) (fun hHeld => ?_)
 clear hKK KK
 refine tx 4 52 ?_
 clear hHeld
 refine wdn ?_
 have bb:=bz2
 have Bwz10_2:=bu Bw7 bb
 have swz10_2:=bb.size
 replace LC:=LC.up bb
 replace LA:=LA.up bb
 replace G:=G.up bb
 replace X:=X.up bb
 replace H:=H.up bb
 clear Bw7
 replace sR:=sR.below bb
 replace sP:=sP.below bb
 replace mX:=mX.below bb
 replace oPH:=oPH.below bb
 replace oRH:=oRH.below bb
 clear bb bz2 K
 have mX2:=hide mX.gen
 clear mX
 go_wp2_with (first | (refine wload X 46 _ rfl _ rfl rfl Tryz.underlying46 rfl (by kernel_rfl) ?_))
 refine (MR.out _ _ _ _ _ _ _ _ mX2.out).mono ?_
 rintro _ w8 ⟨rfl, _, kN⟩
 replace LC:=LC.kp kN (fun e => by obtain ⟨h5, h6⟩:=e; omega)
 replace LA:=LA.kp kN (fun e => by obtain ⟨h5, h6⟩:=e; omega)
 replace G:=G.kp kN (fun e => by obtain ⟨h5, h6⟩:=e; omega)
 replace X:=X.kp kN (fun e => by obtain ⟨h5, h6⟩:=e; omega)
 replace H:=H.kp kN (fun e => by obtain ⟨h5, h6⟩:=e; omega)
 replace sR:=sR.kp kN (fun j h1 h2 e => by obtain ⟨h5, h6⟩:=e; omega)
 replace sP:=sP.kp kN (fun j h1 h2 e => by obtain ⟨h5, h6⟩:=e; omega)
 replace oPH:=oPH.kp kN (fun j h1 h2 e => by obtain ⟨h5, h6⟩:=e; omega)
 replace oRH:=oRH.kp kN (fun j h1 h2 e => by obtain ⟨h5, h6⟩:=e; omega)
 have Bw8:=Below.kp Bwz10_2 kN Bwz10_2.size (fun j e => by obtain ⟨h5, h6⟩:=e; omega)
 have sw8:=kN.size
 clear kN Bwz10_2 mX2 MR
 go_wp2_with (first | (refine wload H 46 _ rfl _ rfl rfl Tryz.underlying46 rfl (by kernel_rfl) ?_) | (refine wload G 46 _ rfl _ rfl rfl Tryz.underlying46 rfl (by kernel_rfl) ?_))
 refine (EU.out _ _ _ _ _ _ _ _ _ _ _ (oRH.rrep UM.out) sR.rrep).mono ?_
 rintro _ w9 ⟨rfl, bb⟩
 have Bw9:=bu Bw8 bb
 have sw9:=bb.size
 replace LC:=LC.up bb
 replace LA:=LA.up bb
 replace G:=G.up bb
 replace X:=X.up bb
 replace H:=H.up bb
 clear Bw8
 replace sR:=sR.below bb
 replace sP:=sP.below bb
 replace oPH:=oPH.below bb
 replace oRH:=oRH.below bb
 clear bb
 go_wp2_with fail
 refine (EP.out _ _ _ (oPH.opo.rpo PL.out) sP.rpo).mono ?_
 rintro _ w10 ⟨rfl, bb⟩
 have Bw10:=bu Bw9 bb
 have sw10:=bb.size
 replace LC:=LC.up bb
 replace LA:=LA.up bb
 replace G:=G.up bb
 replace X:=X.up bb
 replace H:=H.up bb
 clear Bw9
 replace sR:=sR.below bb
 replace sP:=sP.below bb
 replace oPH:=oPH.below bb
 replace oRH:=oRH.below bb
 clear bb
 have o2:=hide oRH
 clear oRH
 go_wp2_with (first | (refine wload H 46 _ rfl _ rfl rfl Tryz.underlying46 rfl (by kernel_rfl) ?_))
 refine (MU.out _ _ _ _ _ _ _ _ o2.out).mono ?_
 rintro _ w11 ⟨rfl, oRH, kN⟩
 replace LC:=LC.kp kN (fun e => by obtain ⟨h5, h6⟩:=e; omega)
 replace LA:=LA.kp kN (fun e => by obtain ⟨h5, h6⟩:=e; omega)
 replace G:=G.kp kN (fun e => by obtain ⟨h5, h6⟩:=e; omega)
 replace X:=X.kp kN (fun e => by obtain ⟨h5, h6⟩:=e; omega)
 replace H:=H.kp kN (fun e => by obtain ⟨h5, h6⟩:=e; omega)
 replace sR:=sR.kp kN (fun j h1 h2 e => by obtain ⟨h5, h6⟩:=e; omega)
 replace sP:=sP.kp kN (fun j h1 h2 e => by obtain ⟨h5, h6⟩:=e; omega)
 replace oPH:=oPH.kp kN (fun j h1 h2 e => by obtain ⟨h5, h6⟩:=e; omega)
 have Bw11:=Below.kp Bw10 kN Bw10.size (fun j e => by obtain ⟨h5, h6⟩:=e; omega)
 have sw11:=kN.size
 clear kN Bw10 o2 MU
 have o2:=hide oPH
 clear oPH
 go_wp2_with fail
 refine (MP.out _ _ _ _ o2.out).mono ?_
 rintro _ w12 ⟨rfl, oPH, kN⟩
 replace LC:=LC.kp kN (fun e => by obtain ⟨h5, h6⟩:=e; omega)
 replace LA:=LA.kp kN (fun e => by obtain ⟨h5, h6⟩:=e; omega)
 replace G:=G.kp kN (fun e => by obtain ⟨h5, h6⟩:=e; omega)
 replace X:=X.kp kN (fun e => by obtain ⟨h5, h6⟩:=e; omega)
 replace H:=H.kp kN (fun e => by obtain ⟨h5, h6⟩:=e; omega)
 replace sR:=sR.kp kN (fun j h1 h2 e => by obtain ⟨h5, h6⟩:=e; omega)
 replace sP:=sP.kp kN (fun j h1 h2 e => by obtain ⟨h5, h6⟩:=e; omega)
 replace oRH:=oRH.kp kN (fun j h1 h2 e => by obtain ⟨h5, h6⟩:=e; omega)
 have Bw12:=Below.kp Bw11 kN Bw11.size (fun j e => by obtain ⟨h5, h6⟩:=e; omega)
 have sw12:=kN.size
 clear kN Bw11 o2 MP
 go_wp2_with (first | (refine wload H 46 _ rfl _ rfl rfl Tryz.underlying46 rfl (by kernel_rfl) ?_))
 refine (HU.out _ _ _ _ _ _ (oRH.rrep UK.out)).mono ?_
 rintro _ w13 ⟨rfl, bb⟩
 have Bw13:=bu Bw12 bb
 have sw13:=bb.size
 replace LC:=LC.up bb
 replace LA:=LA.up bb
 replace G:=G.up bb
 replace X:=X.up bb
 replace H:=H.up bb
 clear Bw12
 replace sR:=sR.below bb
 replace sP:=sP.below bb
 replace oRH:=oRH.below bb
 replace oPH:=oPH.below bb
 clear bb
 go_wp2_with fail
 refine (HP.out _ _ (PK.out _ _ _ _ oPH)).mono ?_
 rintro _ w14 ⟨rfl, bb⟩
 have Bw14:=bu Bw13 bb
 have sw14:=bb.size
 replace LC:=LC.up bb
 replace LA:=LA.up bb
 replace G:=G.up bb
 replace X:=X.up bb
 replace H:=H.up bb
 clear Bw13
 replace sR:=sR.below bb
 replace sP:=sP.below bb
 replace oRH:=oRH.below bb
 replace oPH:=oPH.below bb
 clear bb
 go_upto_region 28 with fail
 try simp only [Act.put, List.setIfInBounds_toArray, List.set_cons_zero, List.set_cons_succ]
 go_cut [14, 15] (fun c d1 wx => ∃ (h lo m hi : Nat) (aY : Option Addr) (kY : Nat) (bY : Option Addr) (lY : Nat) (cY : Option Addr) (nY : Nat) (dY : Option Addr) (pY : Nat) (eY : Option Addr) (qY : Nat) (v : Value), c = .pointer (some ⟨h, 0, none⟩) ∧ d1 = v ∧ w14.heap.size ≤ h ∧ h < wx.heap.size ∧ Loc wx h #[.int .i64 u.id,.int .i64 u.vw,.int .i64 u.ak,.int .i64 u.vo,.int .i64 u.lo,.int .i64 u.n,.string u.s,.slice aY u.qw.length kY,.string u.d,.slice bY u.pool.length lY,.slice cY u.tab.length nY,.slice dY u.dsk.length pY,.int .i64 u.su,.slice eY u.held.length qY] ∧ (w14.heap.size ≤ lo ∧ lo ≤ m ∧ m ≤ hi ∧ hi ≤ wx.heap.size ∧ (h < lo ∨ hi ≤ h)) ∧ OPC wx lo m v ps ∧ ORepG wx m hi u (.slice aY u.qw.length kY) (.slice bY u.pool.length lY) (.slice cY u.tab.length nY) (.slice dY u.dsk.length pY) (.slice eY u.held.length qY) ∧ Below w14.heap.size w14 wx)
 case first =>
  have K:=kw (ka (kc2 LC 0 1) (kL LA))
  refine wra K (fun bA hHeld => ?_)
  obtain ⟨wd28, hwd⟩ : ∃ y, w14.drew = y:=⟨_, rfl⟩
  rw [hwd] at bA hHeld ⊢
  clear hwd
  have swd28:=bA.size
  refine tx 0 90 ?_
  refine take_at (i := 2) (d := 92) (v := .agg #[.int .i64 t.id,.int .i64 t.vw,.int .i64 t.ak,.int .i64 t.vo,.int .i64 t.lo,.int .i64 t.n,.string t.s,.slice ao t.qw.length ca,.string t.d,.slice bo t.pool.length cb,.slice co t.tab.length cc,.slice od t.dsk.length cd,.int .i64 t.su,.slice oe t.held.length ce]) rfl rfl (by kernel_rfl) (by kernel_rfl) (by kernel_rfl) (fun _ _ _ h => h) ?_ (by assumption) ?_
  ·exact yields_row rfl 36 _ rfl rfl _ (fun w h => h.2.2) Tryz.underlying36 rfl (by kernel_rfl)
  simp only [pU]
  refine wpAnyH_ready (rs := [1, 8]) (by kernel_rfl) (by simp) (AllReadyH.cons rfl (fun KK hKK => ?_) (AllReadyH.cons rfl (fun KK hKK => ?_) AllReadyH.nil))
  ·go_simp
   refine (TC.out _).mono ?_
   rintro e wx28_1 ⟨rfl, bb⟩
   have bx28_2 : Below w14.heap.size w14 wx28_1:=bu bA bb
   clear hHeld
   refine hKK.out _ _ (K.out _ bx28_2) (fun hHeld => ?_)
   clear hKK KK bA
   have swx28_1:=bb.size
   clear bb
   refine wpAnyH_ready (rs := [3, 8]) (by kernel_rfl) (by simp) (AllReadyH.cons rfl (fun KK hKK => ?_) (AllReadyH.cons rfl (fun KK hKK => ?_) AllReadyH.nil))
   ·go_simp
    refine (TA.out _ (HI.out.below (bu Bw14 bx28_2))).mono ?_
    rintro e wx28_3 ⟨u1, u2, u3, u4, u5, rfl, m1, bb⟩
    have bx28_4 : Below w14.heap.size w14 wx28_3:=bu bx28_2 bb
    clear hHeld
    refine hKK.out _ _ (K.out _ bx28_4) (fun hHeld => ?_)
    clear hKK KK bx28_2
    have swx28_3:=bb.size
    clear bb
    obtain ⟨a1, k1, b1, l1, c1, n1, d1_, p1, e1, q1, rfl, rfl, rfl, rfl, rfl⟩:=m1.form
    refine wpAnyH_ready (rs := [4, 8]) (by kernel_rfl) (by simp) (AllReadyH.cons rfl (fun KK hKK => ?_) (AllReadyH.cons rfl (fun KK hKK => ?_) AllReadyH.nil))
    ·go_simp
     refine (IM.out _ _ _ _ _ _ _ _ _ _ _ (EB.out _ _ HE.out (bu Bw14 bx28_4)) (m1.orep.rrep SM.out)).mono ?_
     rintro e wx28_5 ⟨y1, y2, y3, y4, y5, v1, rfl, hm, bb⟩
     have bx28_6 : Below w14.heap.size w14 wx28_5:=bu bx28_4 bb
     clear hHeld
     refine hKK.out _ _ (K.out _ bx28_6) (fun hHeld => ?_)
     clear hKK KK bx28_4
     have swx28_5:=bb.size
     replace m1:=m1.below bb
     clear bb m1
     obtain ⟨mG, g5, g6, oP, oR⟩:=hm
     obtain ⟨aH, kH, bH, lH, cH, nH, dH, pH, eH, qH, rfl, rfl, rfl, rfl, rfl⟩:=oR.form
     obtain ⟨loH, hlH⟩ : ∃ m, wx28_3.heap.size = m:=⟨_, rfl⟩
     obtain ⟨hiH, hhH⟩ : ∃ m, wx28_5.heap.size = m:=⟨_, rfl⟩
     rw [hlH] at oP g5
     rw [hhH] at oR g6
     have g1:=Nat.le_of_eq hlH
     have g2:=Nat.le_of_eq hlH.symm
     have g3:=Nat.le_of_eq hhH
     have g4:=Nat.le_of_eq hhH.symm
     clear hlH hhH
     refine tx 5 89 ?_
     refine tx 6 95 ?_
     refine tx 7 96 ?_
     refine rd 8 rfl (fun KK hKK => ?_)
     go_simp
     obtain ⟨wx28_7, hq⟩ : ∃ y, wx28_5.alloc (.cells #[.int .i64 0,.int .i64 0,.int .i64 0,.int .i64 0,.int .i64 0,.int .i64 0,.string ⟨#[]⟩,.slice none 0 0,.string ⟨#[]⟩,.slice none 0 0,.slice none 0 0,.slice none 0 0,.int .i64 0,.slice none 0 0] 46) = y:=⟨_, rfl⟩
     have bb : Below wx28_5.heap.size wx28_5 wx28_7:=hq ▸ qalloc _ _
     have bx28_8 : Below w14.heap.size w14 wx28_7:=bu bx28_6 bb
     have N : Loc wx28_7 wx28_5.heap.size #[.int .i64 0,.int .i64 0,.int .i64 0,.int .i64 0,.int .i64 0,.int .i64 0,.string ⟨#[]⟩,.slice none 0 0,.string ⟨#[]⟩,.slice none 0 0,.slice none 0 0,.slice none 0 0,.int .i64 0,.slice none 0 0]:=hq ▸ loc_at wx28_5 _ _ rfl
     have zwx28_7 : wx28_7.heap.size = wx28_5.heap.size + 1:=by rw [← hq]; simp
     rw [hq]
     clear hHeld hq
     refine hKK.out _ _ (K.out _ bx28_8) (fun hHeld => ?_)
     clear hKK KK bx28_6
     have swx28_7:=bb.size
     replace oP:=oP.below bb
     replace oR:=oR.below bb
     clear bb
     refine rd 9 rfl (fun KK hKK => ?_)
     rw [if_pos (by rfl)]
     refine wp_store_mid 46 (.tmp 14) (.tmp 95) rfl (wx28_5.heap.size) 0 #[.int .i64 u.id,.int .i64 u.vw,.int .i64 u.ak,.int .i64 u.vo,.int .i64 u.lo,.int .i64 u.n,.string u.s,.slice aH u.qw.length kH,.string u.d,.slice bH u.pool.length lH,.slice cH u.tab.length nH,.slice dH u.dsk.length pH,.int .i64 u.su,.slice eH u.held.length qH] rfl rfl (N.there 0 14 (by simp)) (by kernel_rfl) (by simp [Value.oneCell']) ?_
     obtain ⟨wx28_9, hq⟩ : ∃ y, wx28_7.setCells (wx28_5.heap.size) 0 [.int .i64 u.id, .int .i64 u.vw, .int .i64 u.ak, .int .i64 u.vo, .int .i64 u.lo, .int .i64 u.n, .string u.s, .slice aH u.qw.length kH, .string u.d, .slice bH u.pool.length lH, .slice cH u.tab.length nH, .slice dH u.dsk.length pH, .int .i64 u.su, .slice eH u.held.length qH] = y:=⟨_, rfl⟩
     have kN : Kp wx28_7 wx28_9 (fun k => k = wx28_5.heap.size):=hq ▸ setCells_kp _ _ _ _
     have bx28_10:=Below.kp bx28_8 kN bx28_8.size (fun j e => by omega)
     replace N : Loc wx28_9 (wx28_5.heap.size) #[.int .i64 u.id,.int .i64 u.vw,.int .i64 u.ak,.int .i64 u.vo,.int .i64 u.lo,.int .i64 u.n,.string u.s,.slice aH u.qw.length kH,.string u.d,.slice bH u.pool.length lH,.slice cH u.tab.length nH,.slice dH u.dsk.length pH,.int .i64 u.su,.slice eH u.held.length qH]:=hq ▸ N.setCells _ _ rfl
     rw [show wx28_7.setCells (wx28_5.heap.size) 0 (Array.toList #[.int .i64 u.id,.int .i64 u.vw,.int .i64 u.ak,.int .i64 u.vo,.int .i64 u.lo,.int .i64 u.n,.string u.s,.slice aH u.qw.length kH,.string u.d,.slice bH u.pool.length lH,.slice cH u.tab.length nH,.slice dH u.dsk.length pH,.int .i64 u.su,.slice eH u.held.length qH]) = wx28_9 from hq]
     clear hHeld
     refine hKK.out _ _ (K.out _ bx28_10) (fun hHeld => ?_)
     clear hKK KK bx28_8
     replace oP:=oP.kp kN (fun j h1 h2 e => by omega)
     replace oR:=oR.kp kN (fun j h1 h2 e => by omega)
     have swx28_9:=kN.size
     clear hq kN
     refine tx 10 15 ?_
     clear hHeld
     refine wdn ?_
     have bW:=bx28_10
     clear K bx28_10
     go_wp2_with fail
     go_meet
     refine ⟨_, _, _, _, _, _, _, _, _, _, _, _, _, _, _, rfl, rfl, ?_, N.lt, N, ⟨?_, ?_, ?_, ?_, ?_⟩, oP, oR, bW⟩ <;> omega
    go_simp
    obtain ⟨wx28_11, hq⟩ : ∃ y, wx28_3.alloc (.cells #[.int .i64 0,.int .i64 0,.int .i64 0,.int .i64 0,.int .i64 0,.int .i64 0,.string ⟨#[]⟩,.slice none 0 0,.string ⟨#[]⟩,.slice none 0 0,.slice none 0 0,.slice none 0 0,.int .i64 0,.slice none 0 0] 46) = y:=⟨_, rfl⟩
    have bb : Below wx28_3.heap.size wx28_3 wx28_11:=hq ▸ qalloc _ _
    have bx28_12 : Below w14.heap.size w14 wx28_11:=bu bx28_4 bb
    have N : Loc wx28_11 wx28_3.heap.size #[.int .i64 0,.int .i64 0,.int .i64 0,.int .i64 0,.int .i64 0,.int .i64 0,.string ⟨#[]⟩,.slice none 0 0,.string ⟨#[]⟩,.slice none 0 0,.slice none 0 0,.slice none 0 0,.int .i64 0,.slice none 0 0]:=hq ▸ loc_at wx28_3 _ _ rfl
    have zwx28_11 : wx28_11.heap.size = wx28_3.heap.size + 1:=by rw [← hq]; simp
    rw [hq]
    clear hHeld hq
    refine hKK.out _ _ (K.out _ bx28_12) (fun hHeld => ?_)
    clear hKK KK bx28_4
    have swx28_11:=bb.size
    replace m1:=m1.below bb
    clear bb
    refine rd 4 rfl (fun KK hKK => ?_)
    go_simp
    refine (IM.out _ _ _ _ _ _ _ _ _ _ _ (EB.out _ _ HE.out (bu Bw14 bx28_12)) (m1.orep.rrep SM.out)).mono ?_
    rintro e wx28_13 ⟨y1, y2, y3, y4, y5, v1, rfl, hm, bb⟩
    have bx28_14 : Below w14.heap.size w14 wx28_13:=bu bx28_12 bb
    clear hHeld
    refine hKK.out _ _ (K.out _ bx28_14) (fun hHeld => ?_)
    clear hKK KK bx28_12
    have swx28_13:=bb.size
    replace N:=N.up bb
    replace m1:=m1.below bb
    clear bb m1
    obtain ⟨mG, g5, g6, oP, oR⟩:=hm
    obtain ⟨aH, kH, bH, lH, cH, nH, dH, pH, eH, qH, rfl, rfl, rfl, rfl, rfl⟩:=oR.form
    obtain ⟨loH, hlH⟩ : ∃ m, wx28_11.heap.size = m:=⟨_, rfl⟩
    obtain ⟨hiH, hhH⟩ : ∃ m, wx28_13.heap.size = m:=⟨_, rfl⟩
    rw [hlH] at oP g5
    rw [hhH] at oR g6
    have g1:=Nat.le_of_eq hlH
    have g2:=Nat.le_of_eq hlH.symm
    have g3:=Nat.le_of_eq hhH
    have g4:=Nat.le_of_eq hhH.symm
    clear hlH hhH
    refine tx 5 89 ?_
    refine tx 6 95 ?_
    refine tx 7 96 ?_
    refine rd 9 rfl (fun KK hKK => ?_)
    rw [if_pos (by rfl)]
    refine wp_store_mid 46 (.tmp 14) (.tmp 95) rfl (wx28_3.heap.size) 0 #[.int .i64 u.id,.int .i64 u.vw,.int .i64 u.ak,.int .i64 u.vo,.int .i64 u.lo,.int .i64 u.n,.string u.s,.slice aH u.qw.length kH,.string u.d,.slice bH u.pool.length lH,.slice cH u.tab.length nH,.slice dH u.dsk.length pH,.int .i64 u.su,.slice eH u.held.length qH] rfl rfl (N.there 0 14 (by simp)) (by kernel_rfl) (by simp [Value.oneCell']) ?_
    obtain ⟨wx28_15, hq⟩ : ∃ y, wx28_13.setCells (wx28_3.heap.size) 0 [.int .i64 u.id, .int .i64 u.vw, .int .i64 u.ak, .int .i64 u.vo, .int .i64 u.lo, .int .i64 u.n, .string u.s, .slice aH u.qw.length kH, .string u.d, .slice bH u.pool.length lH, .slice cH u.tab.length nH, .slice dH u.dsk.length pH, .int .i64 u.su, .slice eH u.held.length qH] = y:=⟨_, rfl⟩
    have kN : Kp wx28_13 wx28_15 (fun k => k = wx28_3.heap.size):=hq ▸ setCells_kp _ _ _ _
    have bx28_16:=Below.kp bx28_14 kN bx28_14.size (fun j e => by omega)
    replace N : Loc wx28_15 (wx28_3.heap.size) #[.int .i64 u.id,.int .i64 u.vw,.int .i64 u.ak,.int .i64 u.vo,.int .i64 u.lo,.int .i64 u.n,.string u.s,.slice aH u.qw.length kH,.string u.d,.slice bH u.pool.length lH,.slice cH u.tab.length nH,.slice dH u.dsk.length pH,.int .i64 u.su,.slice eH u.held.length qH]:=hq ▸ N.setCells _ _ rfl
    rw [show wx28_13.setCells (wx28_3.heap.size) 0 (Array.toList #[.int .i64 u.id,.int .i64 u.vw,.int .i64 u.ak,.int .i64 u.vo,.int .i64 u.lo,.int .i64 u.n,.string u.s,.slice aH u.qw.length kH,.string u.d,.slice bH u.pool.length lH,.slice cH u.tab.length nH,.slice dH u.dsk.length pH,.int .i64 u.su,.slice eH u.held.length qH]) = wx28_15 from hq]
    clear hHeld
    refine hKK.out _ _ (K.out _ bx28_16) (fun hHeld => ?_)
    clear hKK KK bx28_14
    replace oP:=oP.kp kN (fun j h1 h2 e => by omega)
    replace oR:=oR.kp kN (fun j h1 h2 e => by omega)
    have swx28_15:=kN.size
    clear hq kN
    refine tx 10 15 ?_
    clear hHeld
    refine wdn ?_
    have bW:=bx28_16
    clear K bx28_16
    go_wp2_with fail
    go_meet
    refine ⟨_, _, _, _, _, _, _, _, _, _, _, _, _, _, _, rfl, rfl, ?_, N.lt, N, ⟨?_, ?_, ?_, ?_, ?_⟩, oP, oR, bW⟩ <;> omega
   go_simp
   obtain ⟨wx28_17, hq⟩ : ∃ y, wx28_1.alloc (.cells #[.int .i64 0,.int .i64 0,.int .i64 0,.int .i64 0,.int .i64 0,.int .i64 0,.string ⟨#[]⟩,.slice none 0 0,.string ⟨#[]⟩,.slice none 0 0,.slice none 0 0,.slice none 0 0,.int .i64 0,.slice none 0 0] 46) = y:=⟨_, rfl⟩
   have bb : Below wx28_1.heap.size wx28_1 wx28_17:=hq ▸ qalloc _ _
   have bx28_18 : Below w14.heap.size w14 wx28_17:=bu bx28_2 bb
   have N : Loc wx28_17 wx28_1.heap.size #[.int .i64 0,.int .i64 0,.int .i64 0,.int .i64 0,.int .i64 0,.int .i64 0,.string ⟨#[]⟩,.slice none 0 0,.string ⟨#[]⟩,.slice none 0 0,.slice none 0 0,.slice none 0 0,.int .i64 0,.slice none 0 0]:=hq ▸ loc_at wx28_1 _ _ rfl
   have zwx28_17 : wx28_17.heap.size = wx28_1.heap.size + 1:=by rw [← hq]; simp
   rw [hq]
   clear hHeld hq
   refine hKK.out _ _ (K.out _ bx28_18) (fun hHeld => ?_)
   clear hKK KK bx28_2
   have swx28_17:=bb.size
   clear bb
   refine rd 3 rfl (fun KK hKK => ?_)
   go_simp
   refine (TA.out _ (HI.out.below (bu Bw14 bx28_18))).mono ?_
   rintro e wx28_19 ⟨u1, u2, u3, u4, u5, rfl, m1, bb⟩
   have bx28_20 : Below w14.heap.size w14 wx28_19:=bu bx28_18 bb
   clear hHeld
   refine hKK.out _ _ (K.out _ bx28_20) (fun hHeld => ?_)
   clear hKK KK bx28_18
   have swx28_19:=bb.size
   replace N:=N.up bb
   clear bb
   obtain ⟨a1, k1, b1, l1, c1, n1, d1_, p1, e1, q1, rfl, rfl, rfl, rfl, rfl⟩:=m1.form
   refine rd 4 rfl (fun KK hKK => ?_)
   go_simp
   refine (IM.out _ _ _ _ _ _ _ _ _ _ _ (EB.out _ _ HE.out (bu Bw14 bx28_20)) (m1.orep.rrep SM.out)).mono ?_
   rintro e wx28_21 ⟨y1, y2, y3, y4, y5, v1, rfl, hm, bb⟩
   have bx28_22 : Below w14.heap.size w14 wx28_21:=bu bx28_20 bb
   clear hHeld
   refine hKK.out _ _ (K.out _ bx28_22) (fun hHeld => ?_)
   clear hKK KK bx28_20
   have swx28_21:=bb.size
   replace N:=N.up bb
   replace m1:=m1.below bb
   clear bb m1
   obtain ⟨mG, g5, g6, oP, oR⟩:=hm
   obtain ⟨aH, kH, bH, lH, cH, nH, dH, pH, eH, qH, rfl, rfl, rfl, rfl, rfl⟩:=oR.form
   obtain ⟨loH, hlH⟩ : ∃ m, wx28_19.heap.size = m:=⟨_, rfl⟩
   obtain ⟨hiH, hhH⟩ : ∃ m, wx28_21.heap.size = m:=⟨_, rfl⟩
   rw [hlH] at oP g5
   rw [hhH] at oR g6
   have g1:=Nat.le_of_eq hlH
   have g2:=Nat.le_of_eq hlH.symm
   have g3:=Nat.le_of_eq hhH
   have g4:=Nat.le_of_eq hhH.symm
   clear hlH hhH
   refine tx 5 89 ?_
   refine tx 6 95 ?_
   refine tx 7 96 ?_
   refine rd 9 rfl (fun KK hKK => ?_)
   rw [if_pos (by rfl)]
   refine wp_store_mid 46 (.tmp 14) (.tmp 95) rfl (wx28_1.heap.size) 0 #[.int .i64 u.id,.int .i64 u.vw,.int .i64 u.ak,.int .i64 u.vo,.int .i64 u.lo,.int .i64 u.n,.string u.s,.slice aH u.qw.length kH,.string u.d,.slice bH u.pool.length lH,.slice cH u.tab.length nH,.slice dH u.dsk.length pH,.int .i64 u.su,.slice eH u.held.length qH] rfl rfl (N.there 0 14 (by simp)) (by kernel_rfl) (by simp [Value.oneCell']) ?_
   obtain ⟨wx28_23, hq⟩ : ∃ y, wx28_21.setCells (wx28_1.heap.size) 0 [.int .i64 u.id, .int .i64 u.vw, .int .i64 u.ak, .int .i64 u.vo, .int .i64 u.lo, .int .i64 u.n, .string u.s, .slice aH u.qw.length kH, .string u.d, .slice bH u.pool.length lH, .slice cH u.tab.length nH, .slice dH u.dsk.length pH, .int .i64 u.su, .slice eH u.held.length qH] = y:=⟨_, rfl⟩
   have kN : Kp wx28_21 wx28_23 (fun k => k = wx28_1.heap.size):=hq ▸ setCells_kp _ _ _ _
   have bx28_24:=Below.kp bx28_22 kN bx28_22.size (fun j e => by omega)
   replace N : Loc wx28_23 (wx28_1.heap.size) #[.int .i64 u.id,.int .i64 u.vw,.int .i64 u.ak,.int .i64 u.vo,.int .i64 u.lo,.int .i64 u.n,.string u.s,.slice aH u.qw.length kH,.string u.d,.slice bH u.pool.length lH,.slice cH u.tab.length nH,.slice dH u.dsk.length pH,.int .i64 u.su,.slice eH u.held.length qH]:=hq ▸ N.setCells _ _ rfl
   rw [show wx28_21.setCells (wx28_1.heap.size) 0 (Array.toList #[.int .i64 u.id,.int .i64 u.vw,.int .i64 u.ak,.int .i64 u.vo,.int .i64 u.lo,.int .i64 u.n,.string u.s,.slice aH u.qw.length kH,.string u.d,.slice bH u.pool.length lH,.slice cH u.tab.length nH,.slice dH u.dsk.length pH,.int .i64 u.su,.slice eH u.held.length qH]) = wx28_23 from hq]
   clear hHeld
   refine hKK.out _ _ (K.out _ bx28_24) (fun hHeld => ?_)
   clear hKK KK bx28_22
   replace oP:=oP.kp kN (fun j h1 h2 e => by omega)
   replace oR:=oR.kp kN (fun j h1 h2 e => by omega)
   have swx28_23:=kN.size
   clear hq kN
   refine tx 10 15 ?_
   clear hHeld
   refine wdn ?_
   have bW:=bx28_24
   clear K bx28_24
   go_wp2_with fail
   go_meet
   refine ⟨_, _, _, _, _, _, _, _, _, _, _, _, _, _, _, rfl, rfl, ?_, N.lt, N, ⟨?_, ?_, ?_, ?_, ?_⟩, oP, oR, bW⟩ <;> omega
  go_simp
  obtain ⟨wx28_25, hq⟩ : ∃ y, wd28.alloc (.cells #[.int .i64 0,.int .i64 0,.int .i64 0,.int .i64 0,.int .i64 0,.int .i64 0,.string ⟨#[]⟩,.slice none 0 0,.string ⟨#[]⟩,.slice none 0 0,.slice none 0 0,.slice none 0 0,.int .i64 0,.slice none 0 0] 46) = y:=⟨_, rfl⟩
  have bb : Below wd28.heap.size wd28 wx28_25:=hq ▸ qalloc _ _
  have bx28_26 : Below w14.heap.size w14 wx28_25:=bu bA bb
  have N : Loc wx28_25 wd28.heap.size #[.int .i64 0,.int .i64 0,.int .i64 0,.int .i64 0,.int .i64 0,.int .i64 0,.string ⟨#[]⟩,.slice none 0 0,.string ⟨#[]⟩,.slice none 0 0,.slice none 0 0,.slice none 0 0,.int .i64 0,.slice none 0 0]:=hq ▸ loc_at wd28 _ _ rfl
  have zwx28_25 : wx28_25.heap.size = wd28.heap.size + 1:=by rw [← hq]; simp
  rw [hq]
  clear hHeld hq
  refine hKK.out _ _ (K.out _ bx28_26) (fun hHeld => ?_)
  clear hKK KK bA
  have swx28_25:=bb.size
  clear bb
  refine rd 1 rfl (fun KK hKK => ?_)
  go_simp
  refine (TC.out _).mono ?_
  rintro e wx28_27 ⟨rfl, bb⟩
  have bx28_28 : Below w14.heap.size w14 wx28_27:=bu bx28_26 bb
  clear hHeld
  refine hKK.out _ _ (K.out _ bx28_28) (fun hHeld => ?_)
  clear hKK KK bx28_26
  have swx28_27:=bb.size
  replace N:=N.up bb
  clear bb
  refine rd 3 rfl (fun KK hKK => ?_)
  go_simp
  refine (TA.out _ (HI.out.below (bu Bw14 bx28_28))).mono ?_
  rintro e wx28_29 ⟨u1, u2, u3, u4, u5, rfl, m1, bb⟩
  have bx28_30 : Below w14.heap.size w14 wx28_29:=bu bx28_28 bb
  clear hHeld
  refine hKK.out _ _ (K.out _ bx28_30) (fun hHeld => ?_)
  clear hKK KK bx28_28
  have swx28_29:=bb.size
  replace N:=N.up bb
  clear bb
  obtain ⟨a1, k1, b1, l1, c1, n1, d1_, p1, e1, q1, rfl, rfl, rfl, rfl, rfl⟩:=m1.form
  refine rd 4 rfl (fun KK hKK => ?_)
  go_simp
  refine (IM.out _ _ _ _ _ _ _ _ _ _ _ (EB.out _ _ HE.out (bu Bw14 bx28_30)) (m1.orep.rrep SM.out)).mono ?_
  rintro e wx28_31 ⟨y1, y2, y3, y4, y5, v1, rfl, hm, bb⟩
  have bx28_32 : Below w14.heap.size w14 wx28_31:=bu bx28_30 bb
  clear hHeld
  refine hKK.out _ _ (K.out _ bx28_32) (fun hHeld => ?_)
  clear hKK KK bx28_30
  have swx28_31:=bb.size
  replace N:=N.up bb
  replace m1:=m1.below bb
  clear bb m1
  obtain ⟨mG, g5, g6, oP, oR⟩:=hm
  obtain ⟨aH, kH, bH, lH, cH, nH, dH, pH, eH, qH, rfl, rfl, rfl, rfl, rfl⟩:=oR.form
  obtain ⟨loH, hlH⟩ : ∃ m, wx28_29.heap.size = m:=⟨_, rfl⟩
  obtain ⟨hiH, hhH⟩ : ∃ m, wx28_31.heap.size = m:=⟨_, rfl⟩
  rw [hlH] at oP g5
  rw [hhH] at oR g6
  have g1:=Nat.le_of_eq hlH
  have g2:=Nat.le_of_eq hlH.symm
  have g3:=Nat.le_of_eq hhH
  have g4:=Nat.le_of_eq hhH.symm
  clear hlH hhH
  refine tx 5 89 ?_
  refine tx 6 95 ?_
  refine tx 7 96 ?_
  refine rd 9 rfl (fun KK hKK => ?_)
  rw [if_pos (by rfl)]
  refine wp_store_mid 46 (.tmp 14) (.tmp 95) rfl (wd28.heap.size) 0 #[.int .i64 u.id,.int .i64 u.vw,.int .i64 u.ak,.int .i64 u.vo,.int .i64 u.lo,.int .i64 u.n,.string u.s,.slice aH u.qw.length kH,.string u.d,.slice bH u.pool.length lH,.slice cH u.tab.length nH,.slice dH u.dsk.length pH,.int .i64 u.su,.slice eH u.held.length qH] rfl rfl (N.there 0 14 (by simp)) (by kernel_rfl) (by simp [Value.oneCell']) ?_
  obtain ⟨wx28_33, hq⟩ : ∃ y, wx28_31.setCells (wd28.heap.size) 0 [.int .i64 u.id, .int .i64 u.vw, .int .i64 u.ak, .int .i64 u.vo, .int .i64 u.lo, .int .i64 u.n, .string u.s, .slice aH u.qw.length kH, .string u.d, .slice bH u.pool.length lH, .slice cH u.tab.length nH, .slice dH u.dsk.length pH, .int .i64 u.su, .slice eH u.held.length qH] = y:=⟨_, rfl⟩
  have kN : Kp wx28_31 wx28_33 (fun k => k = wd28.heap.size):=hq ▸ setCells_kp _ _ _ _
  have bx28_34:=Below.kp bx28_32 kN bx28_32.size (fun j e => by omega)
  replace N : Loc wx28_33 (wd28.heap.size) #[.int .i64 u.id,.int .i64 u.vw,.int .i64 u.ak,.int .i64 u.vo,.int .i64 u.lo,.int .i64 u.n,.string u.s,.slice aH u.qw.length kH,.string u.d,.slice bH u.pool.length lH,.slice cH u.tab.length nH,.slice dH u.dsk.length pH,.int .i64 u.su,.slice eH u.held.length qH]:=hq ▸ N.setCells _ _ rfl
  rw [show wx28_31.setCells (wd28.heap.size) 0 (Array.toList #[.int .i64 u.id,.int .i64 u.vw,.int .i64 u.ak,.int .i64 u.vo,.int .i64 u.lo,.int .i64 u.n,.string u.s,.slice aH u.qw.length kH,.string u.d,.slice bH u.pool.length lH,.slice cH u.tab.length nH,.slice dH u.dsk.length pH,.int .i64 u.su,.slice eH u.held.length qH]) = wx28_33 from hq]
  clear hHeld
  refine hKK.out _ _ (K.out _ bx28_34) (fun hHeld => ?_)
  clear hKK KK bx28_32
  replace oP:=oP.kp kN (fun j h1 h2 e => by omega)
  replace oR:=oR.kp kN (fun j h1 h2 e => by omega)
  have swx28_33:=kN.size
  clear hq kN
  refine tx 10 15 ?_
  clear hHeld
  refine wdn ?_
  have bW:=bx28_34
  clear K bx28_34
  go_wp2_with fail
  go_meet
  refine ⟨_, _, _, _, _, _, _, _, _, _, _, _, _, _, _, rfl, rfl, ?_, N.lt, N, ⟨?_, ?_, ?_, ?_, ?_⟩, oP, oR, bW⟩ <;> omega
 case rest =>
 obtain ⟨w15, hwq⟩ : ∃ x, x = wc:=⟨_, rfl⟩
 subst hwq
 obtain ⟨hN, loN, mN, hiN, aN, kN, bN, lN, cN, nN, dN, pN, eN, qN, vN, rfl, rfl, hN1, hN2, N, ⟨rN1, rN2, rN3, rN4, rN5⟩, oPN, oRN, bb⟩:=hcut
 have Bw15:=bu Bw14 bb
 have sw15:=bb.size
 replace LC:=LC.up bb
 replace LA:=LA.up bb
 replace G:=G.up bb
 replace X:=X.up bb
 replace H:=H.up bb
 clear Bw14
 replace sR:=sR.below bb
 replace sP:=sP.below bb
 replace oRH:=oRH.below bb
 replace oPH:=oPH.below bb
 clear bb
 go_wp2_with (first | (refine wload N 46 _ rfl _ rfl rfl Tryz.underlying46 rfl (by kernel_rfl) ?_) | (refine wload G 46 _ rfl _ rfl rfl Tryz.underlying46 rfl (by kernel_rfl) ?_))
 refine (EU.out _ _ _ _ _ _ _ _ _ _ _ (oRN.rrep UM.out) sR.rrep).mono ?_
 rintro _ w16 ⟨rfl, bb⟩
 have Bw16:=bu Bw15 bb
 have sw16:=bb.size
 replace LC:=LC.up bb
 replace LA:=LA.up bb
 replace G:=G.up bb
 replace X:=X.up bb
 replace H:=H.up bb
 replace N:=N.up bb
 clear Bw15
 replace sR:=sR.below bb
 replace sP:=sP.below bb
 replace oRH:=oRH.below bb
 replace oPH:=oPH.below bb
 replace oPN:=oPN.below bb
 replace oRN:=oRN.below bb
 clear bb
 go_wp2_with fail
 refine (EP.out _ _ _ (oPN.opo.rpo PL.out) sP.rpo).mono ?_
 rintro _ w17 ⟨rfl, bb⟩
 have Bw17:=bu Bw16 bb
 have sw17:=bb.size
 replace LC:=LC.up bb
 replace LA:=LA.up bb
 replace G:=G.up bb
 replace X:=X.up bb
 replace H:=H.up bb
 replace N:=N.up bb
 clear Bw16
 replace sR:=sR.below bb
 replace sP:=sP.below bb
 replace oRH:=oRH.below bb
 replace oPH:=oPH.below bb
 replace oPN:=oPN.below bb
 replace oRN:=oRN.below bb
 clear bb
 go_wp2_with (first | (refine wload H 46 _ rfl _ rfl rfl Tryz.underlying46 rfl (by kernel_rfl) ?_))
 refine (HU.out _ _ _ _ _ _ (oRH.rrep UK.out)).mono ?_
 rintro _ w18 ⟨rfl, bb⟩
 have Bw18:=bu Bw17 bb
 have sw18:=bb.size
 replace LC:=LC.up bb
 replace LA:=LA.up bb
 replace G:=G.up bb
 replace X:=X.up bb
 replace H:=H.up bb
 replace N:=N.up bb
 clear Bw17
 replace sR:=sR.below bb
 replace sP:=sP.below bb
 replace oRH:=oRH.below bb
 replace oPH:=oPH.below bb
 replace oPN:=oPN.below bb
 replace oRN:=oRN.below bb
 clear bb
 go_wp2_with fail
 refine (HP.out _ _ (PK.out _ _ _ _ oPH)).mono ?_
 rintro _ w19 ⟨rfl, bb⟩
 have Bw19:=bu Bw18 bb
 have sw19:=bb.size
 replace LC:=LC.up bb
 replace LA:=LA.up bb
 replace G:=G.up bb
 replace X:=X.up bb
 replace H:=H.up bb
 replace N:=N.up bb
 clear Bw18
 replace sR:=sR.below bb
 replace sP:=sP.below bb
 replace oRH:=oRH.below bb
 replace oPH:=oPH.below bb
 replace oPN:=oPN.below bb
 replace oRN:=oRN.below bb
 clear bb
 go_wp2
 go_ret
 exact ⟨rfl, Bw19⟩
end
end Go.Proofs.YtjdchloechcclaaGreatDoor
