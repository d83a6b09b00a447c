/- Lemmas; their conditions stand in each statement. -/
import Derived.Test.YtmpffkpilbbclaaGreatDoorSABE
import Derived.Test.YtmpffkpilbbclaaGreatDoorSABK
set_option maxRecDepth 100000
set_option maxHeartbeats 16000000
set_option linter.unusedSectionVars false
set_option linter.unusedSimpArgs false
namespace Go.Proofs.YtmpffkpilbbclaaGreatDoor
section
open Go Go.RowKit
variable [∀ (a b c d : Int), Decidable (Ok4 a b c d)]
variable [∀ (n f : Int), Decidable (COk n f)]
variable [∀ (a b c d : Nat), Decidable (okN a b c d)]
variable [∀ (x : T4), Decidable (OkT x)]
variable [∀ (last : Int) (s : St), Decidable (GoodSt last s)]
variable [∀ (n : Int) (s : List Int), Decidable (OkL n s)]
variable [∀ (x y : T4), Decidable (Bef x y)]
variable [∀ (ts : List T4), Decidable (Asc ts)]
variable [∀ (ts : List T4), Decidable (AllOk ts)]
variable [∀ (ts : List T4), Decidable (POk ts)]
variable [∀ (m a b c d : Int), Decidable (In4 m a b c d)]
variable [∀ (xs ys : List Int), Decidable (LOk xs ys)]
def stA (n f : Int) (t : RpT) : List Int × List Int := if repB n f t = true then ((eachAns [100, 100, 100, 100] [0, 0, 0, 0] (txsInAns t.d)).1, (eachAns [100, 100, 100, 100] [0, 0, 0, 0] (txsInAns t.d)).2.1) else ([], [])
theorem oinone (w : World) (base : Nat) : OI w base (.slice none 0 0) [] := World.ownsRow_nil _ _ _ _
theorem olnone (w : World) (lo hi : Nat) : OL w lo hi (.slice none 0 0) (.slice none 0 0) [] [] := ⟨oinone w lo, oinone w lo, fun k h => (by cases h), fun k h => (by cases h), fun k h => (by cases h)⟩
theorem txsIn_len (s : ByteArray) : (txsInAns s).length ≤ 60 := by
 unfold txsInAns
 cases h : stepsAns s with
 | none => simp
 | some ss =>
  obtain ⟨_, h1, h2, _⟩:=(names_iff _ _).1 h
  simp only [Option.getD_some]
  have : ∀ l : List (Int × List T4), (∀ x ∈ l, x.2.length ≤ 2) → (l.flatMap (·.2)).length ≤ 2 * l.length:=by
   intro l
   induction l with
   | nil => intro _; simp
   | cons x l ih => intro hx; rw [List.flatMap_cons, List.length_append, List.length_cons]; have := hx x (by simp); have := ih (fun y hy => hx y (List.mem_cons_of_mem _ hy)); omega
  exact Nat.le_trans (this ss (fun x hx => (h2 x hx).2.1)) (by omega)
theorem specState (n f : Int) (t : RpT) (ao bo co od oe : Option Addr) (ca cb cc cd ce : Nat) (w : World) (hm : RSm t) (hs : RS t) (h : RRep w t (.slice ao t.qw.length ca) (.slice bo t.pool.length cb) (.slice co t.tab.length cc) (.slice od t.dsk.length cd) (.slice oe t.held.length ce)) :
 Calls Tryz.prog 15 #[cv n f, rpv t (.slice ao t.qw.length ca) (.slice bo t.pool.length cb) (.slice co t.tab.length cc) (.slice od t.dsk.length cd) (.slice oe t.held.length ce)] w fun e w' => ∃ u v, e = .returned (lv u v) ∧ OI w' w.heap.size u (stA n f t).1 ∧ OI w' w.heap.size v (stA n f t).2 ∧ Below w.heap.size w w' := by
 have RO:=hide fun w h => specRepOk n f t ao bo co od oe ca cb cc cd ce w hm hs h
 have NW:=hide fun w => specLedgerNew w
 have TI:=hide fun w => specTxsIn t.d w (by have:=hs.d; omega)
 have PA:=hide fun u v p w hu hp => specPayAll u v p [100, 100, 100, 100] [0, 0, 0, 0] (txsInAns t.d) w hu hp (by have:=txsIn_len t.d; omega)
 unfold stA
 obtain ⟨x, hx⟩ : ∃ x, eachAns [100, 100, 100, 100] [0, 0, 0, 0] (txsInAns t.d) = x:=⟨_, rfl⟩
 rw [hx] at PA ⊢
 clear hx
 have HL:=hide (txsIn_len t.d)
 generalize txsInAns t.d = yx at *
 have HR:=hide h
 clear h hs hm
 generalize repB n f t = b0 at *
 obtain ⟨w0, hw0, Bw0, LC, A, O, zw0⟩:=bx3 w #[.int .i64 n,.int .i64 f] 43 #[.int .i64 t.id,.int .i64 t.vw,.int .i64 t.ak,.int .i64 t.vo,.int .i64 t.lo,.int .i64 t.n,.string t.s,.slice ao t.qw.length ca,.string t.d,.slice bo t.pool.length cb,.slice co t.tab.length cc,.slice od t.dsk.length cd,.int .i64 t.su,.slice oe t.held.length ce] 52 #[.slice none 0 0,.slice none 0 0] 60
 go_enter Tryz.func15, Tryz.ntmps15
 obtain ⟨cLC0,cLC1⟩:=cc2 LC 0 1
 go_wp2_with (first | (refine wload A 52 _ rfl _ rfl rfl Tryz.underlying52 rfl (by kernel_rfl) ?_))
 clear hw0
 refine (RO.out _ (HR.out.below Bw0)).mono ?_
 rintro _ w1 ⟨rfl, bb⟩
 clear cLC0 cLC1
 have Bw1:=bu Bw0 bb
 have sw1:=bb.size
 replace LC:=LC.up bb
 replace A:=A.up bb
 replace O:=O.up bb
 clear Bw0 bb
 cases b0
 ·go_wp2_with (first | (refine wstore O 60 #[.slice none 0 0,.slice none 0 0] rfl _ _ rfl rfl rfl (by kernel_rfl) rfl (by simp [Value.oneCell']) ?_))
  obtain ⟨wE, hwE⟩ : ∃ w9_, w1.setRow (w.heap.size + 1 + 1) #[.slice none 0 0,.slice none 0 0] = w9_:=⟨_, rfl⟩
  have kN : Kp w1 wE (fun k => k = w.heap.size + 1 + 1):=hwE ▸ row_kp _ _ _
  replace O : Loc wE (w.heap.size + 1 + 1) #[.slice none 0 0,.slice none 0 0]:=hwE ▸ O.row
  replace LC:=LC.kp kN (by omega)
  replace A:=A.kp kN (by omega)
  have BwE:=Below.kp Bw1 kN Bw1.size (fun k hk => by omega)
  have swE:=kN.size
  rw [hwE]
  clear hwE kN Bw1
  refine bodyPost_ret (v := lv (.slice none 0 0) (.slice none 0 0)) (res_row Tryz.results15 _ O rfl Tryz.underlying60 rfl (by kernel_rfl)) rfl ?_
  exact ⟨_, _, rfl, by simpa using oinone _ _, by simpa using oinone _ _, BwE⟩
 go_upto_region 3 with fail
 try simp only [Act.put, List.setIfInBounds_toArray, List.set_cons_zero, List.set_cons_succ]
 go_cut [5] (fun c wx => ∃ (h : Nat) (aU : Option Addr) (kU : Nat) (aV : Option Addr) (kV : Nat), c = .pointer (some ⟨h, 0, none⟩) ∧ w1.heap.size ≤ h ∧ h < wx.heap.size ∧ Loc wx h #[.slice aU x.1.length kU,.slice aV x.2.1.length kV] ∧ OI wx w1.heap.size (.slice aU x.1.length kU) x.1 ∧ OI wx w1.heap.size (.slice aV x.2.1.length kV) x.2.1 ∧ Below w1.heap.size w1 wx)
 case first =>
  have K:=kw (kl A)
  refine wra K (fun bA hHeld => ?_)
  obtain ⟨wd3, hwd⟩ : ∃ y, w1.drew = y:=⟨_, rfl⟩
  rw [hwd] at bA hHeld ⊢
  clear hwd
  have swd3:=bA.size
  refine tx 1 14 ?_
  refine tx 2 15 ?_
  refine take_at (i := 3) (d := 16) (v := ?_) rfl rfl (by kernel_rfl) (by kernel_rfl) (by kernel_rfl) (fun _ _ _ h => h) (Or.inl ⟨by rfl, ?_⟩) (by assumption) ?_
  rotate_left
  ·intro w hSw
   try dsimp only at hSw
   have h:=hSw
   have hc8:=(h.2).cell 8 rfl
   clear h hSw
   go_simp
   try with_reducible rfl
  simp only [pU]
  refine wpAnyH_ready (rs := [0, 9]) (by kernel_rfl) (by simp) (AllReadyH.cons rfl (fun KK hKK => ?_) (AllReadyH.cons rfl (fun KK hKK => ?_) AllReadyH.nil))
  ·go_simp
   refine (NW.out _).mono ?_
   rintro e wx3_1 ⟨u1, v1, rfl, oL, bb⟩
   have bx3_2 : Below w1.heap.size w1 wx3_1:=bu bA bb
   clear hHeld
   refine hKK.out _ _ (K.out _ bx3_2) (fun hHeld => ?_)
   clear hKK KK bA
   have swx3_1:=bb.size
   clear bb
   refine wpAnyH_ready (rs := [4, 9]) (by kernel_rfl) (by simp) (AllReadyH.cons rfl (fun KK hKK => ?_) (AllReadyH.cons rfl (fun KK hKK => ?_) AllReadyH.nil))
   ·go_simp
    refine (TI.out _).mono ?_
    rintro e wx3_3 ⟨p1, rfl, oT, bb⟩
    have bx3_4 : Below w1.heap.size w1 wx3_3:=bu bx3_2 bb
    clear hHeld
    refine hKK.out _ _ (K.out _ bx3_4) (fun hHeld => ?_)
    clear hKK KK bx3_2
    have swx3_3:=bb.size
    replace oL:=oL.below bb
    clear bb
    have toT:=World.ownsRow.lt oT
    refine wpAnyH_ready (rs := [5, 9]) (by kernel_rfl) (by simp) (AllReadyH.cons rfl (fun KK hKK => ?_) (AllReadyH.cons rfl (fun KK hKK => ?_) AllReadyH.nil))
    ·go_simp
     refine (PA.out _ _ _ _ (oL.ri (by simp) (by simp)) (oT.rt (by have := HL.out; omega))).mono ?_
     rintro e wx3_5 ⟨u2, v2, cs2, rfl, oU, oV, oC, bb⟩
     have bx3_6 : Below w1.heap.size w1 wx3_5:=bu bx3_4 bb
     clear hHeld
     refine hKK.out _ _ (K.out _ bx3_6) (fun hHeld => ?_)
     clear hKK KK bx3_4
     have swx3_5:=bb.size
     replace oT:=oT.below bb
     replace oL:=oL.below bb
     clear bb oL oT toT oC
     have toU:=World.ownsRow.lt oU
     obtain ⟨aoU, koU, rfl⟩:=oU.form
     have toV:=World.ownsRow.lt oV
     obtain ⟨aoV, koV, rfl⟩:=oV.form
     refine tx 6 12 ?_
     refine tx 7 19 ?_
     refine tx 8 20 ?_
     refine rd 9 rfl (fun KK hKK => ?_)
     go_simp
     obtain ⟨wx3_7, hq⟩ : ∃ y, wx3_5.alloc (.cells #[.slice none 0 0,.slice none 0 0] 60) = y:=⟨_, rfl⟩
     have bb : Below wx3_5.heap.size wx3_5 wx3_7:=hq ▸ qalloc _ _
     have bx3_8 : Below w1.heap.size w1 wx3_7:=bu bx3_6 bb
     have X : Loc wx3_7 wx3_5.heap.size #[.slice none 0 0,.slice none 0 0]:=hq ▸ loc_at wx3_5 _ _ rfl
     have zwx3_7 : wx3_7.heap.size = wx3_5.heap.size + 1:=by rw [← hq]; simp
     rw [hq]
     clear hHeld hq
     refine hKK.out _ _ (K.out _ bx3_8) (fun hHeld => ?_)
     clear hKK KK bx3_6
     have swx3_7:=bb.size
     replace oU:=oU.below bb
     replace oV:=oV.below bb
     clear bb
     refine rd 10 rfl (fun KK hKK => ?_)
     rw [if_pos (by rfl)]
     refine wp_store_mid 60 (.tmp 5) (.tmp 19) rfl (wx3_5.heap.size) 0 #[.slice aoU x.1.length koU,.slice aoV x.2.1.length koV] rfl rfl (X.there 0 2 (by simp)) (by kernel_rfl) (by simp [Value.oneCell']) ?_
     obtain ⟨wx3_9, hq⟩ : ∃ y, wx3_7.setCells (wx3_5.heap.size) 0 [.slice aoU x.1.length koU, .slice aoV x.2.1.length koV] = y:=⟨_, rfl⟩
     have kN : Kp wx3_7 wx3_9 (fun k => k = wx3_5.heap.size):=hq ▸ setCells_kp _ _ _ _
     have bx3_10:=Below.kp bx3_8 kN bx3_8.size (fun j e => by omega)
     replace X : Loc wx3_9 (wx3_5.heap.size) #[.slice aoU x.1.length koU,.slice aoV x.2.1.length koV]:=hq ▸ X.setCells _ _ rfl
     rw [show wx3_7.setCells (wx3_5.heap.size) 0 (Array.toList #[.slice aoU x.1.length koU,.slice aoV x.2.1.length koV]) = wx3_9 from hq]
     clear hHeld
     refine hKK.out _ _ (K.out _ bx3_10) (fun hHeld => ?_)
     clear hKK KK bx3_8
     replace oU:=oU.kp kN (fun j hj e => by have:=toU j hj; omega)
     replace oV:=oV.kp kN (fun j hj e => by have:=toV j hj; omega)
     have swx3_9:=kN.size
     clear hq kN
     refine tx 11 6 ?_
     clear hHeld
     refine wdn ?_
     have bW:=bx3_10
     clear K bx3_10
     go_wp2_with fail
     go_meet
     exact ⟨_, _, _, _, _, rfl, by omega, X.lt, X, oU.mono (by omega), oV.mono (by omega), bW⟩
    go_simp
    obtain ⟨wx3_11, hq⟩ : ∃ y, wx3_3.alloc (.cells #[.slice none 0 0,.slice none 0 0] 60) = y:=⟨_, rfl⟩
    have bb : Below wx3_3.heap.size wx3_3 wx3_11:=hq ▸ qalloc _ _
    have bx3_12 : Below w1.heap.size w1 wx3_11:=bu bx3_4 bb
    have X : Loc wx3_11 wx3_3.heap.size #[.slice none 0 0,.slice none 0 0]:=hq ▸ loc_at wx3_3 _ _ rfl
    have zwx3_11 : wx3_11.heap.size = wx3_3.heap.size + 1:=by rw [← hq]; simp
    rw [hq]
    clear hHeld hq
    refine hKK.out _ _ (K.out _ bx3_12) (fun hHeld => ?_)
    clear hKK KK bx3_4
    have swx3_11:=bb.size
    replace oT:=oT.below bb
    replace oL:=oL.below bb
    clear bb
    refine rd 5 rfl (fun KK hKK => ?_)
    go_simp
    refine (PA.out _ _ _ _ (oL.ri (by simp) (by simp)) (oT.rt (by have := HL.out; omega))).mono ?_
    rintro e wx3_13 ⟨u2, v2, cs2, rfl, oU, oV, oC, bb⟩
    have bx3_14 : Below w1.heap.size w1 wx3_13:=bu bx3_12 bb
    clear hHeld
    refine hKK.out _ _ (K.out _ bx3_14) (fun hHeld => ?_)
    clear hKK KK bx3_12
    have swx3_13:=bb.size
    replace X:=X.up bb
    replace oT:=oT.below bb
    replace oL:=oL.below bb
    clear bb oL oT toT oC
    have toU:=World.ownsRow.lt oU
    obtain ⟨aoU, koU, rfl⟩:=oU.form
    have toV:=World.ownsRow.lt oV
    obtain ⟨aoV, koV, rfl⟩:=oV.form
    refine tx 6 12 ?_
    refine tx 7 19 ?_
    refine tx 8 20 ?_
    refine rd 10 rfl (fun KK hKK => ?_)
    rw [if_pos (by rfl)]
    refine wp_store_mid 60 (.tmp 5) (.tmp 19) rfl (wx3_3.heap.size) 0 #[.slice aoU x.1.length koU,.slice aoV x.2.1.length koV] rfl rfl (X.there 0 2 (by simp)) (by kernel_rfl) (by simp [Value.oneCell']) ?_
    obtain ⟨wx3_15, hq⟩ : ∃ y, wx3_13.setCells (wx3_3.heap.size) 0 [.slice aoU x.1.length koU, .slice aoV x.2.1.length koV] = y:=⟨_, rfl⟩
    have kN : Kp wx3_13 wx3_15 (fun k => k = wx3_3.heap.size):=hq ▸ setCells_kp _ _ _ _
    have bx3_16:=Below.kp bx3_14 kN bx3_14.size (fun j e => by omega)
    replace X : Loc wx3_15 (wx3_3.heap.size) #[.slice aoU x.1.length koU,.slice aoV x.2.1.length koV]:=hq ▸ X.setCells _ _ rfl
    rw [show wx3_13.setCells (wx3_3.heap.size) 0 (Array.toList #[.slice aoU x.1.length koU,.slice aoV x.2.1.length koV]) = wx3_15 from hq]
    clear hHeld
    refine hKK.out _ _ (K.out _ bx3_16) (fun hHeld => ?_)
    clear hKK KK bx3_14
    replace oU:=oU.kp kN (fun j hj e => by have:=toU j hj; omega)
    replace oV:=oV.kp kN (fun j hj e => by have:=toV j hj; omega)
    have swx3_15:=kN.size
    clear hq kN
    refine tx 11 6 ?_
    clear hHeld
    refine wdn ?_
    have bW:=bx3_16
    clear K bx3_16
    go_wp2_with fail
    go_meet
    exact ⟨_, _, _, _, _, rfl, by omega, X.lt, X, oU.mono (by omega), oV.mono (by omega), bW⟩
   go_simp
   obtain ⟨wx3_17, hq⟩ : ∃ y, wx3_1.alloc (.cells #[.slice none 0 0,.slice none 0 0] 60) = y:=⟨_, rfl⟩
   have bb : Below wx3_1.heap.size wx3_1 wx3_17:=hq ▸ qalloc _ _
   have bx3_18 : Below w1.heap.size w1 wx3_17:=bu bx3_2 bb
   have X : Loc wx3_17 wx3_1.heap.size #[.slice none 0 0,.slice none 0 0]:=hq ▸ loc_at wx3_1 _ _ rfl
   have zwx3_17 : wx3_17.heap.size = wx3_1.heap.size + 1:=by rw [← hq]; simp
   rw [hq]
   clear hHeld hq
   refine hKK.out _ _ (K.out _ bx3_18) (fun hHeld => ?_)
   clear hKK KK bx3_2
   have swx3_17:=bb.size
   replace oL:=oL.below bb
   clear bb
   refine rd 4 rfl (fun KK hKK => ?_)
   go_simp
   refine (TI.out _).mono ?_
   rintro e wx3_19 ⟨p1, rfl, oT, bb⟩
   have bx3_20 : Below w1.heap.size w1 wx3_19:=bu bx3_18 bb
   clear hHeld
   refine hKK.out _ _ (K.out _ bx3_20) (fun hHeld => ?_)
   clear hKK KK bx3_18
   have swx3_19:=bb.size
   replace X:=X.up bb
   replace oL:=oL.below bb
   clear bb
   have toT:=World.ownsRow.lt oT
   refine rd 5 rfl (fun KK hKK => ?_)
   go_simp
   refine (PA.out _ _ _ _ (oL.ri (by simp) (by simp)) (oT.rt (by have := HL.out; omega))).mono ?_
   rintro e wx3_21 ⟨u2, v2, cs2, rfl, oU, oV, oC, bb⟩
   have bx3_22 : Below w1.heap.size w1 wx3_21:=bu bx3_20 bb
   clear hHeld
   refine hKK.out _ _ (K.out _ bx3_22) (fun hHeld => ?_)
   clear hKK KK bx3_20
   have swx3_21:=bb.size
   replace X:=X.up bb
   replace oT:=oT.below bb
   replace oL:=oL.below bb
   clear bb oL oT toT oC
   have toU:=World.ownsRow.lt oU
   obtain ⟨aoU, koU, rfl⟩:=oU.form
   have toV:=World.ownsRow.lt oV
   obtain ⟨aoV, koV, rfl⟩:=oV.form
   refine tx 6 12 ?_
   refine tx 7 19 ?_
   refine tx 8 20 ?_
   refine rd 10 rfl (fun KK hKK => ?_)
   rw [if_pos (by rfl)]
   refine wp_store_mid 60 (.tmp 5) (.tmp 19) rfl (wx3_1.heap.size) 0 #[.slice aoU x.1.length koU,.slice aoV x.2.1.length koV] rfl rfl (X.there 0 2 (by simp)) (by kernel_rfl) (by simp [Value.oneCell']) ?_
   obtain ⟨wx3_23, hq⟩ : ∃ y, wx3_21.setCells (wx3_1.heap.size) 0 [.slice aoU x.1.length koU, .slice aoV x.2.1.length koV] = y:=⟨_, rfl⟩
   have kN : Kp wx3_21 wx3_23 (fun k => k = wx3_1.heap.size):=hq ▸ setCells_kp _ _ _ _
   have bx3_24:=Below.kp bx3_22 kN bx3_22.size (fun j e => by omega)
   replace X : Loc wx3_23 (wx3_1.heap.size) #[.slice aoU x.1.length koU,.slice aoV x.2.1.length koV]:=hq ▸ X.setCells _ _ rfl
   rw [show wx3_21.setCells (wx3_1.heap.size) 0 (Array.toList #[.slice aoU x.1.length koU,.slice aoV x.2.1.length koV]) = wx3_23 from hq]
   clear hHeld
   refine hKK.out _ _ (K.out _ bx3_24) (fun hHeld => ?_)
   clear hKK KK bx3_22
   replace oU:=oU.kp kN (fun j hj e => by have:=toU j hj; omega)
   replace oV:=oV.kp kN (fun j hj e => by have:=toV j hj; omega)
   have swx3_23:=kN.size
   clear hq kN
   refine tx 11 6 ?_
   clear hHeld
   refine wdn ?_
   have bW:=bx3_24
   clear K bx3_24
   go_wp2_with fail
   go_meet
   exact ⟨_, _, _, _, _, rfl, by omega, X.lt, X, oU.mono (by omega), oV.mono (by omega), bW⟩
  go_simp
  obtain ⟨wx3_25, hq⟩ : ∃ y, wd3.alloc (.cells #[.slice none 0 0,.slice none 0 0] 60) = y:=⟨_, rfl⟩
  have bb : Below wd3.heap.size wd3 wx3_25:=hq ▸ qalloc _ _
  have bx3_26 : Below w1.heap.size w1 wx3_25:=bu bA bb
  have X : Loc wx3_25 wd3.heap.size #[.slice none 0 0,.slice none 0 0]:=hq ▸ loc_at wd3 _ _ rfl
  have zwx3_25 : wx3_25.heap.size = wd3.heap.size + 1:=by rw [← hq]; simp
  rw [hq]
  clear hHeld hq
  refine hKK.out _ _ (K.out _ bx3_26) (fun hHeld => ?_)
  clear hKK KK bA
  have swx3_25:=bb.size
  clear bb
  refine rd 0 rfl (fun KK hKK => ?_)
  go_simp
  refine (NW.out _).mono ?_
  rintro e wx3_27 ⟨u1, v1, rfl, oL, bb⟩
  have bx3_28 : Below w1.heap.size w1 wx3_27:=bu bx3_26 bb
  clear hHeld
  refine hKK.out _ _ (K.out _ bx3_28) (fun hHeld => ?_)
  clear hKK KK bx3_26
  have swx3_27:=bb.size
  replace X:=X.up bb
  clear bb
  refine rd 4 rfl (fun KK hKK => ?_)
  go_simp
  refine (TI.out _).mono ?_
  rintro e wx3_29 ⟨p1, rfl, oT, bb⟩
  have bx3_30 : Below w1.heap.size w1 wx3_29:=bu bx3_28 bb
  clear hHeld
  refine hKK.out _ _ (K.out _ bx3_30) (fun hHeld => ?_)
  clear hKK KK bx3_28
  have swx3_29:=bb.size
  replace X:=X.up bb
  replace oL:=oL.below bb
  clear bb
  have toT:=World.ownsRow.lt oT
  refine rd 5 rfl (fun KK hKK => ?_)
  go_simp
  refine (PA.out _ _ _ _ (oL.ri (by simp) (by simp)) (oT.rt (by have := HL.out; omega))).mono ?_
  rintro e wx3_31 ⟨u2, v2, cs2, rfl, oU, oV, oC, bb⟩
  have bx3_32 : Below w1.heap.size w1 wx3_31:=bu bx3_30 bb
  clear hHeld
  refine hKK.out _ _ (K.out _ bx3_32) (fun hHeld => ?_)
  clear hKK KK bx3_30
  have swx3_31:=bb.size
  replace X:=X.up bb
  replace oT:=oT.below bb
  replace oL:=oL.below bb
  clear bb oL oT toT oC
  have toU:=World.ownsRow.lt oU
  obtain ⟨aoU, koU, rfl⟩:=oU.form
  have toV:=World.ownsRow.lt oV
  obtain ⟨aoV, koV, rfl⟩:=oV.form
  refine tx 6 12 ?_
  refine tx 7 19 ?_
  refine tx 8 20 ?_
  refine rd 10 rfl (fun KK hKK => ?_)
  rw [if_pos (by rfl)]
  refine wp_store_mid 60 (.tmp 5) (.tmp 19) rfl (wd3.heap.size) 0 #[.slice aoU x.1.length koU,.slice aoV x.2.1.length koV] rfl rfl (X.there 0 2 (by simp)) (by kernel_rfl) (by simp [Value.oneCell']) ?_
  obtain ⟨wx3_33, hq⟩ : ∃ y, wx3_31.setCells (wd3.heap.size) 0 [.slice aoU x.1.length koU, .slice aoV x.2.1.length koV] = y:=⟨_, rfl⟩
  have kN : Kp wx3_31 wx3_33 (fun k => k = wd3.heap.size):=hq ▸ setCells_kp _ _ _ _
  have bx3_34:=Below.kp bx3_32 kN bx3_32.size (fun j e => by omega)
  replace X : Loc wx3_33 (wd3.heap.size) #[.slice aoU x.1.length koU,.slice aoV x.2.1.length koV]:=hq ▸ X.setCells _ _ rfl
  rw [show wx3_31.setCells (wd3.heap.size) 0 (Array.toList #[.slice aoU x.1.length koU,.slice aoV x.2.1.length koV]) = wx3_33 from hq]
  clear hHeld
  refine hKK.out _ _ (K.out _ bx3_34) (fun hHeld => ?_)
  clear hKK KK bx3_32
  replace oU:=oU.kp kN (fun j hj e => by have:=toU j hj; omega)
  replace oV:=oV.kp kN (fun j hj e => by have:=toV j hj; omega)
  have swx3_33:=kN.size
  clear hq kN
  refine tx 11 6 ?_
  clear hHeld
  refine wdn ?_
  have bW:=bx3_34
  clear K bx3_34
  go_wp2_with fail
  go_meet
  exact ⟨_, _, _, _, _, rfl, by omega, X.lt, X, oU.mono (by omega), oV.mono (by omega), bW⟩
 case rest =>
 obtain ⟨w2, hwq⟩ : ∃ x, x = wc:=⟨_, rfl⟩
 subst hwq
 obtain ⟨hX, aoU, koU, aoV, koV, rfl, hX1, hX2, X, oU, oV, bb⟩:=hcut
 have Bw2:=bu Bw1 bb
 have sw2:=bb.size
 replace LC:=LC.up bb
 replace A:=A.up bb
 replace O:=O.up bb
 clear Bw1 bb
 have toU:=World.ownsRow.lt oU
 have toV:=World.ownsRow.lt oV
 go_wp2_with (first | (refine wload X 60 _ rfl _ rfl rfl Tryz.underlying60 rfl (by kernel_rfl) ?_) | (refine wstore O 60 #[.slice aoU x.1.length koU,.slice aoV x.2.1.length koV] rfl _ _ rfl rfl rfl (by kernel_rfl) rfl (by simp [Value.oneCell']) ?_))
 obtain ⟨wE, hwE⟩ : ∃ w9_, w2.setRow (w.heap.size + 1 + 1) #[.slice aoU x.1.length koU,.slice aoV x.2.1.length koV] = w9_:=⟨_, rfl⟩
 have kN : Kp w2 wE (fun k => k = w.heap.size + 1 + 1):=hwE ▸ row_kp _ _ _
 replace O : Loc wE (w.heap.size + 1 + 1) #[.slice aoU x.1.length koU,.slice aoV x.2.1.length koV]:=hwE ▸ O.row
 replace LC:=LC.kp kN (by omega)
 replace A:=A.kp kN (by omega)
 replace X:=X.kp kN (by omega)
 replace oU:=oU.kp kN (fun j hj e => by have:=toU j hj; omega)
 replace oV:=oV.kp kN (fun j hj e => by have:=toV j hj; omega)
 have BwE:=Below.kp Bw2 kN Bw2.size (fun k hk => by omega)
 have swE:=kN.size
 rw [hwE]
 clear hwE kN Bw2
 refine bodyPost_ret (v := lv (.slice aoU x.1.length koU) (.slice aoV x.2.1.length koV)) (res_row Tryz.results15 _ O rfl Tryz.underlying60 rfl (by kernel_rfl)) rfl ?_
 exact ⟨_, _, rfl, by simpa using oU.mono (by omega), by simpa using oV.mono (by omega), BwE⟩
theorem implState (n f : Int) (t : RpT) (ao bo co od oe : Option Addr) (ca cb cc cd ce : Nat) (w : World) (hm : RSm t) (hs : RI_ t) (hE : Env w) (h : RRep w t (.slice ao t.qw.length ca) (.slice bo t.pool.length cb) (.slice co t.tab.length cc) (.slice od t.dsk.length cd) (.slice oe t.held.length ce)) :
 Calls Tryz.prog 16 #[cv n f, rpv t (.slice ao t.qw.length ca) (.slice bo t.pool.length cb) (.slice co t.tab.length cc) (.slice od t.dsk.length cd) (.slice oe t.held.length ce)] w fun e w' => ∃ u v, e = .returned (lv u v) ∧ OL w' w.heap.size w'.heap.size u v (stA n f t).1 (stA n f t).2 ∧ Below w.heap.size w w' := by
 have RO:=hide fun w he h => implRepOk n f t ao bo co od oe ca cb cc cd ce w hm hs he h
 have NW:=hide fun w => implLedgerNew w
 have TI:=hide fun w he => implTxsIn t.d w (by have:=hs.d; omega) he
 have PA:=hide fun u v p w hu hp => implPayAll u v p [100, 100, 100, 100] [0, 0, 0, 0] (txsInAns t.d) w hu hp (by have:=txsIn_len t.d; omega)
 unfold stA
 obtain ⟨x, hx⟩ : ∃ x, eachAns [100, 100, 100, 100] [0, 0, 0, 0] (txsInAns t.d) = x:=⟨_, rfl⟩
 rw [hx] at PA ⊢
 clear hx
 have HL:=hide (txsIn_len t.d)
 generalize txsInAns t.d = yx at *
 have HR:=hide h
 have HE:=hide hE
 clear hE h hs hm
 generalize repB n f t = b0 at *
 obtain ⟨w0, hw0, Bw0, LC, A, O, zw0⟩:=bx3 w #[.int .i64 n,.int .i64 f] 43 #[.int .i64 t.id,.int .i64 t.vw,.int .i64 t.ak,.int .i64 t.vo,.int .i64 t.lo,.int .i64 t.n,.string t.s,.slice ao t.qw.length ca,.string t.d,.slice bo t.pool.length cb,.slice co t.tab.length cc,.slice od t.dsk.length cd,.int .i64 t.su,.slice oe t.held.length ce] 52 #[.slice none 0 0,.slice none 0 0] 60
 go_enter Tryz.func16, Tryz.ntmps16
 obtain ⟨cLC0,cLC1⟩:=cc2 LC 0 1
 go_wp2_with (first | (refine wload A 52 _ rfl _ rfl rfl Tryz.underlying52 rfl (by kernel_rfl) ?_))
 clear hw0
 refine (RO.out _ (HE.out.below Bw0) (HR.out.below Bw0)).mono ?_
 rintro _ w1 ⟨rfl, bb⟩
 clear cLC0 cLC1
 have Bw1:=bu Bw0 bb
 have sw1:=bb.size
 replace LC:=LC.up bb
 replace A:=A.up bb
 replace O:=O.up bb
 clear Bw0 bb
 cases b0
 ·go_wp2_with (first | (refine wstore O 60 #[.slice none 0 0,.slice none 0 0] rfl _ _ rfl rfl rfl (by kernel_rfl) rfl (by simp [Value.oneCell']) ?_))
  obtain ⟨wE, hwE⟩ : ∃ w9_, w1.setRow (w.heap.size + 1 + 1) #[.slice none 0 0,.slice none 0 0] = w9_:=⟨_, rfl⟩
  have kN : Kp w1 wE (fun k => k = w.heap.size + 1 + 1):=hwE ▸ row_kp _ _ _
  replace O : Loc wE (w.heap.size + 1 + 1) #[.slice none 0 0,.slice none 0 0]:=hwE ▸ O.row
  replace LC:=LC.kp kN (by omega)
  replace A:=A.kp kN (by omega)
  have BwE:=Below.kp Bw1 kN Bw1.size (fun k hk => by omega)
  have swE:=kN.size
  rw [hwE]
  clear hwE kN Bw1
  refine bodyPost_ret (v := lv (.slice none 0 0) (.slice none 0 0)) (res_row Tryz.results16 _ O rfl Tryz.underlying60 rfl (by kernel_rfl)) rfl ?_
  exact ⟨_, _, rfl, by simpa using olnone _ _ _, BwE⟩
 go_upto_region 3 with fail
 try simp only [Act.put, List.setIfInBounds_toArray, List.set_cons_zero, List.set_cons_succ]
 go_cut [5] (fun c wx => ∃ (h lo hi : Nat) (aU : Option Addr) (kU : Nat) (aV : Option Addr) (kV : Nat), c = .pointer (some ⟨h, 0, none⟩) ∧ w1.heap.size ≤ h ∧ h < wx.heap.size ∧ Loc wx h #[.slice aU x.1.length kU,.slice aV x.2.1.length kV] ∧ (w1.heap.size ≤ lo ∧ hi ≤ wx.heap.size ∧ (h < lo ∨ hi ≤ h)) ∧ OL wx lo hi (.slice aU x.1.length kU) (.slice aV x.2.1.length kV) x.1 x.2.1 ∧ Below w1.heap.size w1 wx)
 case first =>
  have K:=kw (kl A)
  refine wra K (fun bA hHeld => ?_)
  obtain ⟨wd3, hwd⟩ : ∃ y, w1.drew = y:=⟨_, rfl⟩
  rw [hwd] at bA hHeld ⊢
  clear hwd
  have swd3:=bA.size
  refine tx 1 14 ?_
  refine tx 2 15 ?_
  refine take_at (i := 3) (d := 16) (v := ?_) rfl rfl (by kernel_rfl) (by kernel_rfl) (by kernel_rfl) (fun _ _ _ h => h) (Or.inl ⟨by rfl, ?_⟩) (by assumption) ?_
  rotate_left
  ·intro w hSw
   try dsimp only at hSw
   have h:=hSw
   have hc8:=(h.2).cell 8 rfl
   clear h hSw
   go_simp
   try with_reducible rfl
  simp only [pU]
  refine wpAnyH_ready (rs := [0, 9]) (by kernel_rfl) (by simp) (AllReadyH.cons rfl (fun KK hKK => ?_) (AllReadyH.cons rfl (fun KK hKK => ?_) AllReadyH.nil))
  ·go_simp
   refine (NW.out _).mono ?_
   rintro e wx3_1 ⟨u1, v1, rfl, oL, bb⟩
   have bx3_2 : Below w1.heap.size w1 wx3_1:=bu bA bb
   clear hHeld
   refine hKK.out _ _ (K.out _ bx3_2) (fun hHeld => ?_)
   clear hKK KK bA
   have swx3_1:=bb.size
   clear bb
   refine wpAnyH_ready (rs := [4, 9]) (by kernel_rfl) (by simp) (AllReadyH.cons rfl (fun KK hKK => ?_) (AllReadyH.cons rfl (fun KK hKK => ?_) AllReadyH.nil))
   ·go_simp
    refine (TI.out _ (HE.out.below (bu Bw1 bx3_2))).mono ?_
    rintro e wx3_3 ⟨p1, rfl, oT, bb⟩
    have bx3_4 : Below w1.heap.size w1 wx3_3:=bu bx3_2 bb
    clear hHeld
    refine hKK.out _ _ (K.out _ bx3_4) (fun hHeld => ?_)
    clear hKK KK bx3_2
    have swx3_3:=bb.size
    replace oL:=oL.below bb
    clear bb
    have toT:=World.ownsRow.lt oT
    refine wpAnyH_ready (rs := [5, 9]) (by kernel_rfl) (by simp) (AllReadyH.cons rfl (fun KK hKK => ?_) (AllReadyH.cons rfl (fun KK hKK => ?_) AllReadyH.nil))
    ·go_simp
     refine (PA.out _ _ _ _ (oL.ri (by simp) (by simp)) (oT.rt (by have := HL.out; omega))).mono ?_
     rintro e wx3_5 ⟨u2, v2, cs2, mid, rfl, oC, oCm, hmid, oW, bb⟩
     have bx3_6 : Below w1.heap.size w1 wx3_5:=bu bx3_4 bb
     clear hHeld
     refine hKK.out _ _ (K.out _ bx3_6) (fun hHeld => ?_)
     clear hKK KK bx3_4
     have swx3_5:=bb.size
     replace oT:=oT.below bb
     replace oL:=oL.below bb
     clear bb oL oT toT
     obtain ⟨hi, hhi⟩ : ∃ m, wx3_5.heap.size = m:=⟨_, rfl⟩
     rw [hhi] at oW
     have hh1:=Nat.le_of_eq hhi
     have hh2:=Nat.le_of_eq hhi.symm
     clear hhi
     obtain ⟨aoU, koU, rfl⟩:=oW.has.form
     obtain ⟨aoV, koV, rfl⟩:=oW.next.form
     clear oC oCm
     refine tx 6 12 ?_
     refine tx 7 19 ?_
     refine tx 8 20 ?_
     refine rd 9 rfl (fun KK hKK => ?_)
     go_simp
     obtain ⟨wx3_7, hq⟩ : ∃ y, wx3_5.alloc (.cells #[.slice none 0 0,.slice none 0 0] 60) = y:=⟨_, rfl⟩
     have bb : Below wx3_5.heap.size wx3_5 wx3_7:=hq ▸ qalloc _ _
     have bx3_8 : Below w1.heap.size w1 wx3_7:=bu bx3_6 bb
     have X : Loc wx3_7 wx3_5.heap.size #[.slice none 0 0,.slice none 0 0]:=hq ▸ loc_at wx3_5 _ _ rfl
     have zwx3_7 : wx3_7.heap.size = wx3_5.heap.size + 1:=by rw [← hq]; simp
     rw [hq]
     clear hHeld hq
     refine hKK.out _ _ (K.out _ bx3_8) (fun hHeld => ?_)
     clear hKK KK bx3_6
     have swx3_7:=bb.size
     replace oW:=oW.below bb
     clear bb
     refine rd 10 rfl (fun KK hKK => ?_)
     rw [if_pos (by rfl)]
     refine wp_store_mid 60 (.tmp 5) (.tmp 19) rfl (wx3_5.heap.size) 0 #[.slice aoU x.1.length koU,.slice aoV x.2.1.length koV] rfl rfl (X.there 0 2 (by simp)) (by kernel_rfl) (by simp [Value.oneCell']) ?_
     obtain ⟨wx3_9, hq⟩ : ∃ y, wx3_7.setCells (wx3_5.heap.size) 0 [.slice aoU x.1.length koU, .slice aoV x.2.1.length koV] = y:=⟨_, rfl⟩
     have kN : Kp wx3_7 wx3_9 (fun k => k = wx3_5.heap.size):=hq ▸ setCells_kp _ _ _ _
     have bx3_10:=Below.kp bx3_8 kN bx3_8.size (fun j e => by omega)
     replace X : Loc wx3_9 (wx3_5.heap.size) #[.slice aoU x.1.length koU,.slice aoV x.2.1.length koV]:=hq ▸ X.setCells _ _ rfl
     rw [show wx3_7.setCells (wx3_5.heap.size) 0 (Array.toList #[.slice aoU x.1.length koU,.slice aoV x.2.1.length koV]) = wx3_9 from hq]
     clear hHeld
     refine hKK.out _ _ (K.out _ bx3_10) (fun hHeld => ?_)
     clear hKK KK bx3_8
     replace oW:=oW.kp kN (fun j h1 h2 e => by omega)
     have swx3_9:=kN.size
     clear hq kN
     refine tx 11 6 ?_
     clear hHeld
     refine wdn ?_
     have bW:=bx3_10
     clear K bx3_10
     go_wp2_with fail
     go_meet
     refine ⟨_, _, _, _, _, _, _, rfl, ?_, X.lt, X, ⟨?_, ?_, ?_⟩, oW, bW⟩ <;> omega
    go_simp
    obtain ⟨wx3_11, hq⟩ : ∃ y, wx3_3.alloc (.cells #[.slice none 0 0,.slice none 0 0] 60) = y:=⟨_, rfl⟩
    have bb : Below wx3_3.heap.size wx3_3 wx3_11:=hq ▸ qalloc _ _
    have bx3_12 : Below w1.heap.size w1 wx3_11:=bu bx3_4 bb
    have X : Loc wx3_11 wx3_3.heap.size #[.slice none 0 0,.slice none 0 0]:=hq ▸ loc_at wx3_3 _ _ rfl
    have zwx3_11 : wx3_11.heap.size = wx3_3.heap.size + 1:=by rw [← hq]; simp
    rw [hq]
    clear hHeld hq
    refine hKK.out _ _ (K.out _ bx3_12) (fun hHeld => ?_)
    clear hKK KK bx3_4
    have swx3_11:=bb.size
    replace oT:=oT.below bb
    replace oL:=oL.below bb
    clear bb
    refine rd 5 rfl (fun KK hKK => ?_)
    go_simp
    refine (PA.out _ _ _ _ (oL.ri (by simp) (by simp)) (oT.rt (by have := HL.out; omega))).mono ?_
    rintro e wx3_13 ⟨u2, v2, cs2, mid, rfl, oC, oCm, hmid, oW, bb⟩
    have bx3_14 : Below w1.heap.size w1 wx3_13:=bu bx3_12 bb
    clear hHeld
    refine hKK.out _ _ (K.out _ bx3_14) (fun hHeld => ?_)
    clear hKK KK bx3_12
    have swx3_13:=bb.size
    replace X:=X.up bb
    replace oT:=oT.below bb
    replace oL:=oL.below bb
    clear bb oL oT toT
    obtain ⟨hi, hhi⟩ : ∃ m, wx3_13.heap.size = m:=⟨_, rfl⟩
    rw [hhi] at oW
    have hh1:=Nat.le_of_eq hhi
    have hh2:=Nat.le_of_eq hhi.symm
    clear hhi
    obtain ⟨aoU, koU, rfl⟩:=oW.has.form
    obtain ⟨aoV, koV, rfl⟩:=oW.next.form
    clear oC oCm
    refine tx 6 12 ?_
    refine tx 7 19 ?_
    refine tx 8 20 ?_
    refine rd 10 rfl (fun KK hKK => ?_)
    rw [if_pos (by rfl)]
    refine wp_store_mid 60 (.tmp 5) (.tmp 19) rfl (wx3_3.heap.size) 0 #[.slice aoU x.1.length koU,.slice aoV x.2.1.length koV] rfl rfl (X.there 0 2 (by simp)) (by kernel_rfl) (by simp [Value.oneCell']) ?_
    obtain ⟨wx3_15, hq⟩ : ∃ y, wx3_13.setCells (wx3_3.heap.size) 0 [.slice aoU x.1.length koU, .slice aoV x.2.1.length koV] = y:=⟨_, rfl⟩
    have kN : Kp wx3_13 wx3_15 (fun k => k = wx3_3.heap.size):=hq ▸ setCells_kp _ _ _ _
    have bx3_16:=Below.kp bx3_14 kN bx3_14.size (fun j e => by omega)
    replace X : Loc wx3_15 (wx3_3.heap.size) #[.slice aoU x.1.length koU,.slice aoV x.2.1.length koV]:=hq ▸ X.setCells _ _ rfl
    rw [show wx3_13.setCells (wx3_3.heap.size) 0 (Array.toList #[.slice aoU x.1.length koU,.slice aoV x.2.1.length koV]) = wx3_15 from hq]
    clear hHeld
    refine hKK.out _ _ (K.out _ bx3_16) (fun hHeld => ?_)
    clear hKK KK bx3_14
    replace oW:=oW.kp kN (fun j h1 h2 e => by omega)
    have swx3_15:=kN.size
    clear hq kN
    refine tx 11 6 ?_
    clear hHeld
    refine wdn ?_
    have bW:=bx3_16
    clear K bx3_16
    go_wp2_with fail
    go_meet
    refine ⟨_, _, _, _, _, _, _, rfl, ?_, X.lt, X, ⟨?_, ?_, ?_⟩, oW, bW⟩ <;> omega
   go_simp
   obtain ⟨wx3_17, hq⟩ : ∃ y, wx3_1.alloc (.cells #[.slice none 0 0,.slice none 0 0] 60) = y:=⟨_, rfl⟩
   have bb : Below wx3_1.heap.size wx3_1 wx3_17:=hq ▸ qalloc _ _
   have bx3_18 : Below w1.heap.size w1 wx3_17:=bu bx3_2 bb
   have X : Loc wx3_17 wx3_1.heap.size #[.slice none 0 0,.slice none 0 0]:=hq ▸ loc_at wx3_1 _ _ rfl
   have zwx3_17 : wx3_17.heap.size = wx3_1.heap.size + 1:=by rw [← hq]; simp
   rw [hq]
   clear hHeld hq
   refine hKK.out _ _ (K.out _ bx3_18) (fun hHeld => ?_)
   clear hKK KK bx3_2
   have swx3_17:=bb.size
   replace oL:=oL.below bb
   clear bb
   refine rd 4 rfl (fun KK hKK => ?_)
   go_simp
   refine (TI.out _ (HE.out.below (bu Bw1 bx3_18))).mono ?_
   rintro e wx3_19 ⟨p1, rfl, oT, bb⟩
   have bx3_20 : Below w1.heap.size w1 wx3_19:=bu bx3_18 bb
   clear hHeld
   refine hKK.out _ _ (K.out _ bx3_20) (fun hHeld => ?_)
   clear hKK KK bx3_18
   have swx3_19:=bb.size
   replace X:=X.up bb
   replace oL:=oL.below bb
   clear bb
   have toT:=World.ownsRow.lt oT
   refine rd 5 rfl (fun KK hKK => ?_)
   go_simp
   refine (PA.out _ _ _ _ (oL.ri (by simp) (by simp)) (oT.rt (by have := HL.out; omega))).mono ?_
   rintro e wx3_21 ⟨u2, v2, cs2, mid, rfl, oC, oCm, hmid, oW, bb⟩
   have bx3_22 : Below w1.heap.size w1 wx3_21:=bu bx3_20 bb
   clear hHeld
   refine hKK.out _ _ (K.out _ bx3_22) (fun hHeld => ?_)
   clear hKK KK bx3_20
   have swx3_21:=bb.size
   replace X:=X.up bb
   replace oT:=oT.below bb
   replace oL:=oL.below bb
   clear bb oL oT toT
   obtain ⟨hi, hhi⟩ : ∃ m, wx3_21.heap.size = m:=⟨_, rfl⟩
   rw [hhi] at oW
   have hh1:=Nat.le_of_eq hhi
   have hh2:=Nat.le_of_eq hhi.symm
   clear hhi
   obtain ⟨aoU, koU, rfl⟩:=oW.has.form
   obtain ⟨aoV, koV, rfl⟩:=oW.next.form
   clear oC oCm
   refine tx 6 12 ?_
   refine tx 7 19 ?_
   refine tx 8 20 ?_
   refine rd 10 rfl (fun KK hKK => ?_)
   rw [if_pos (by rfl)]
   refine wp_store_mid 60 (.tmp 5) (.tmp 19) rfl (wx3_1.heap.size) 0 #[.slice aoU x.1.length koU,.slice aoV x.2.1.length koV] rfl rfl (X.there 0 2 (by simp)) (by kernel_rfl) (by simp [Value.oneCell']) ?_
   obtain ⟨wx3_23, hq⟩ : ∃ y, wx3_21.setCells (wx3_1.heap.size) 0 [.slice aoU x.1.length koU, .slice aoV x.2.1.length koV] = y:=⟨_, rfl⟩
   have kN : Kp wx3_21 wx3_23 (fun k => k = wx3_1.heap.size):=hq ▸ setCells_kp _ _ _ _
   have bx3_24:=Below.kp bx3_22 kN bx3_22.size (fun j e => by omega)
   replace X : Loc wx3_23 (wx3_1.heap.size) #[.slice aoU x.1.length koU,.slice aoV x.2.1.length koV]:=hq ▸ X.setCells _ _ rfl
   rw [show wx3_21.setCells (wx3_1.heap.size) 0 (Array.toList #[.slice aoU x.1.length koU,.slice aoV x.2.1.length koV]) = wx3_23 from hq]
   clear hHeld
   refine hKK.out _ _ (K.out _ bx3_24) (fun hHeld => ?_)
   clear hKK KK bx3_22
   replace oW:=oW.kp kN (fun j h1 h2 e => by omega)
   have swx3_23:=kN.size
   clear hq kN
   refine tx 11 6 ?_
   clear hHeld
   refine wdn ?_
   have bW:=bx3_24
   clear K bx3_24
   go_wp2_with fail
   go_meet
   refine ⟨_, _, _, _, _, _, _, rfl, ?_, X.lt, X, ⟨?_, ?_, ?_⟩, oW, bW⟩ <;> omega
  go_simp
  obtain ⟨wx3_25, hq⟩ : ∃ y, wd3.alloc (.cells #[.slice none 0 0,.slice none 0 0] 60) = y:=⟨_, rfl⟩
  have bb : Below wd3.heap.size wd3 wx3_25:=hq ▸ qalloc _ _
  have bx3_26 : Below w1.heap.size w1 wx3_25:=bu bA bb
  have X : Loc wx3_25 wd3.heap.size #[.slice none 0 0,.slice none 0 0]:=hq ▸ loc_at wd3 _ _ rfl
  have zwx3_25 : wx3_25.heap.size = wd3.heap.size + 1:=by rw [← hq]; simp
  rw [hq]
  clear hHeld hq
  refine hKK.out _ _ (K.out _ bx3_26) (fun hHeld => ?_)
  clear hKK KK bA
  have swx3_25:=bb.size
  clear bb
  refine rd 0 rfl (fun KK hKK => ?_)
  go_simp
  refine (NW.out _).mono ?_
  rintro e wx3_27 ⟨u1, v1, rfl, oL, bb⟩
  have bx3_28 : Below w1.heap.size w1 wx3_27:=bu bx3_26 bb
  clear hHeld
  refine hKK.out _ _ (K.out _ bx3_28) (fun hHeld => ?_)
  clear hKK KK bx3_26
  have swx3_27:=bb.size
  replace X:=X.up bb
  clear bb
  refine rd 4 rfl (fun KK hKK => ?_)
  go_simp
  refine (TI.out _ (HE.out.below (bu Bw1 bx3_28))).mono ?_
  rintro e wx3_29 ⟨p1, rfl, oT, bb⟩
  have bx3_30 : Below w1.heap.size w1 wx3_29:=bu bx3_28 bb
  clear hHeld
  refine hKK.out _ _ (K.out _ bx3_30) (fun hHeld => ?_)
  clear hKK KK bx3_28
  have swx3_29:=bb.size
  replace X:=X.up bb
  replace oL:=oL.below bb
  clear bb
  have toT:=World.ownsRow.lt oT
  refine rd 5 rfl (fun KK hKK => ?_)
  go_simp
  refine (PA.out _ _ _ _ (oL.ri (by simp) (by simp)) (oT.rt (by have := HL.out; omega))).mono ?_
  rintro e wx3_31 ⟨u2, v2, cs2, mid, rfl, oC, oCm, hmid, oW, bb⟩
  have bx3_32 : Below w1.heap.size w1 wx3_31:=bu bx3_30 bb
  clear hHeld
  refine hKK.out _ _ (K.out _ bx3_32) (fun hHeld => ?_)
  clear hKK KK bx3_30
  have swx3_31:=bb.size
  replace X:=X.up bb
  replace oT:=oT.below bb
  replace oL:=oL.below bb
  clear bb oL oT toT
  obtain ⟨hi, hhi⟩ : ∃ m, wx3_31.heap.size = m:=⟨_, rfl⟩
  rw [hhi] at oW
  have hh1:=Nat.le_of_eq hhi
  have hh2:=Nat.le_of_eq hhi.symm
  clear hhi
  obtain ⟨aoU, koU, rfl⟩:=oW.has.form
  obtain ⟨aoV, koV, rfl⟩:=oW.next.form
  clear oC oCm
  refine tx 6 12 ?_
  refine tx 7 19 ?_
  refine tx 8 20 ?_
  refine rd 10 rfl (fun KK hKK => ?_)
  rw [if_pos (by rfl)]
  refine wp_store_mid 60 (.tmp 5) (.tmp 19) rfl (wd3.heap.size) 0 #[.slice aoU x.1.length koU,.slice aoV x.2.1.length koV] rfl rfl (X.there 0 2 (by simp)) (by kernel_rfl) (by simp [Value.oneCell']) ?_
  obtain ⟨wx3_33, hq⟩ : ∃ y, wx3_31.setCells (wd3.heap.size) 0 [.slice aoU x.1.length koU, .slice aoV x.2.1.length koV] = y:=⟨_, rfl⟩
  have kN : Kp wx3_31 wx3_33 (fun k => k = wd3.heap.size):=hq ▸ setCells_kp _ _ _ _
  have bx3_34:=Below.kp bx3_32 kN bx3_32.size (fun j e => by omega)
  replace X : Loc wx3_33 (wd3.heap.size) #[.slice aoU x.1.length koU,.slice aoV x.2.1.length koV]:=hq ▸ X.setCells _ _ rfl
  rw [show wx3_31.setCells (wd3.heap.size) 0 (Array.toList #[.slice aoU x.1.length koU,.slice aoV x.2.1.length koV]) = wx3_33 from hq]
  clear hHeld
  refine hKK.out _ _ (K.out _ bx3_34) (fun hHeld => ?_)
  clear hKK KK bx3_32
  replace oW:=oW.kp kN (fun j h1 h2 e => by omega)
  have swx3_33:=kN.size
  clear hq kN
  refine tx 11 6 ?_
  clear hHeld
  refine wdn ?_
  have bW:=bx3_34
  clear K bx3_34
  go_wp2_with fail
  go_meet
  refine ⟨_, _, _, _, _, _, _, rfl, ?_, X.lt, X, ⟨?_, ?_, ?_⟩, oW, bW⟩ <;> omega
 case rest =>
 obtain ⟨w2, hwq⟩ : ∃ x, x = wc:=⟨_, rfl⟩
 subst hwq
 obtain ⟨hX, lo, hi, aoU, koU, aoV, koV, rfl, hX1, hX2, X, ⟨r1, r2, r3⟩, oW, bb⟩:=hcut
 have Bw2:=bu Bw1 bb
 have sw2:=bb.size
 replace LC:=LC.up bb
 replace A:=A.up bb
 replace O:=O.up bb
 clear Bw1 bb
 go_wp2_with (first | (refine wload X 60 _ rfl _ rfl rfl Tryz.underlying60 rfl (by kernel_rfl) ?_) | (refine wstore O 60 #[.slice aoU x.1.length koU,.slice aoV x.2.1.length koV] rfl _ _ rfl rfl rfl (by kernel_rfl) rfl (by simp [Value.oneCell']) ?_))
 obtain ⟨wE, hwE⟩ : ∃ w9_, w2.setRow (w.heap.size + 1 + 1) #[.slice aoU x.1.length koU,.slice aoV x.2.1.length koV] = w9_:=⟨_, rfl⟩
 have kN : Kp w2 wE (fun k => k = w.heap.size + 1 + 1):=hwE ▸ row_kp _ _ _
 replace O : Loc wE (w.heap.size + 1 + 1) #[.slice aoU x.1.length koU,.slice aoV x.2.1.length koV]:=hwE ▸ O.row
 replace LC:=LC.kp kN (by omega)
 replace A:=A.kp kN (by omega)
 replace X:=X.kp kN (by omega)
 replace oW:=oW.kp kN (fun j h1 h2 e => by omega)
 have BwE:=Below.kp Bw2 kN Bw2.size (fun k hk => by omega)
 have swE:=kN.size
 rw [hwE]
 clear hwE kN Bw2
 refine bodyPost_ret (v := lv (.slice aoU x.1.length koU) (.slice aoV x.2.1.length koV)) (res_row Tryz.results16 _ O rfl Tryz.underlying60 rfl (by kernel_rfl)) rfl ?_
 exact ⟨_, _, rfl, by simpa using oW.mono (by omega) (by omega), BwE⟩
end
section
open Go.RowKit
variable [∀ (a b c d : Int), Decidable (Ok4 a b c d)]
variable [∀ (n f : Int), Decidable (COk n f)]
variable [∀ (a b c d : Nat), Decidable (okN a b c d)]
variable [∀ (x : T4), Decidable (OkT x)]
theorem rep_small {t : RpT} {rs : List Pr} (ht : t.tab = rs.map prp) (g : (t.s.size : Int) + t.qw.length + t.d.size + t.pool.length + rs.length + psum rs + t.dsk.length + t.held.length + posum t.held ≤ 1048576) : RSm t ∧ (t.s.size ≤ 1048576 ∧ t.d.size ≤ 1048576) ∧ (∀ p ∈ t.tab, p.2.1.size ≤ 1048576 ∧ p.2.2.length ≤ 1048576) ∧ ∀ j, j < t.held.length → msz (t.held.getD j zpost).2 ≤ 1048576 := by
 have hl : t.tab.length = rs.length:=by rw [ht]; simp
 have h1 : ∀ p ∈ t.tab, p.2.1.size ≤ 1048576 ∧ p.2.2.length ≤ 1048576:=fun p hp => by
  have:=prp_mem (p:=p) (by rw [← ht]; exact hp); omega
 have h2 : ∀ j, j < t.held.length → msz (t.held.getD j zpost).2 ≤ 1048576:=fun j hj => by
  have:=posum_each (rs:=t.held) (r:=t.held.getD j zpost) (by rw [List.getD_eq_getElem?_getD, List.getElem?_eq_getElem hj]; exact List.getElem_mem hj)
  omega
 exact ⟨⟨by omega, by omega, by omega, by omega, by omega, fun p hp => by have := h1 p hp; omega, fun j hj => by have := h2 j hj; unfold msz at this; omega⟩, ⟨by omega, by omega⟩, h1, h2⟩
end
section
open Go.ChangeShapes Go.WideShapes Go.ChangeAt Go.RowKit
open Go.Joins
variable [∀ (a b c d : Int), Decidable (Ok4 a b c d)]
variable [∀ (n f : Int), Decidable (COk n f)]
theorem cellsSafe : Tryz.prog.cellsOf 28 = 6 := by kernel_rfl
theorem cellsD : Tryz.prog.cellsOf 33 = 2 := by kernel_rfl
def ABW (W : World) (ao : Option Addr) (ca : Nat) (zs : List Int) : Prop := zs.length ≤ ca ∧ ca ≤ maxLen ∧ (zs = [] ∨ ∃ b off, ao = some ⟨b, off, none⟩ ∧ ∀ k, k < zs.length → W.cell? ⟨b, off + k, none⟩ = some (.int .u8 (zs.getD k 0)))
theorem ABW.rb {W : World} {ao : Option Addr} {ca : Nat} {zs : List Int} (h : ABW W ao ca zs) (hl : zs.length ≤ 1048576) : RB W (.slice ao zs.length ca) zs := ⟨by omega, ao, ca, rfl, ⟨h.1, h.2.1⟩, h.2.2⟩
theorem open_byteW {H : Type} {enc : TypeId × Value → H} {W : World} {n : Nat} {c : Value} {y : DataW H × List MemPlace} (h : DataW.trod enc Tryz.prog W 0 (fun _ => true) true n 31 [c] = some y) :
 ∃ ao ca, ∃ zs : List Int, c = .slice ao zs.length ca ∧ zs.length ≤ maxLen ∧ ABW W ao ca zs ∧ ∀ k, k < zs.length → 0 ≤ zs.getD k 0 ∧ zs.getD k 0 ≤ 255 := by
 rcases open_ints Tryz.underlying31 Tryz.underlying5 (by kernel_rfl) h with ⟨hcs, _⟩ | ⟨x, len, cap, zs, hcs, _, hl, hm, hz, _, hcell, hwz⟩
 ·simp at hcs
  exact ⟨none, 0, [], hcs, by simp, ⟨by simp, by unfold maxLen; omega, .inl rfl⟩, fun k hk => by simp at hk⟩
 simp at hcs
 have hz' : zs.length = cap:=by simpa using hz
 have e : (zs.take len).length = len:=by simp; omega
 have hm' : cap ≤ maxLen:=by first | exact hm | omega
 refine ⟨some x, cap, zs.take len, by rw [hcs, e], by rw [e]; omega, ⟨by omega, hm', ?_⟩, ?_⟩
 ·by_cases h0 : len = 0
  ·left; simp [h0]
  right
  obtain ⟨b, off, spot⟩:=x
  have hc:=hcell 0 (by omega)
  have hspot : spot = none:=by simpa [Addr.add] using World.cell?_spot hc
  subst hspot
  refine ⟨b, off, rfl, fun k hk => ?_⟩
  rw [e] at hk
  have hk':=hcell k (by omega)
  rw [show ((⟨b, off, none⟩ : Addr).add k) = ⟨b, off + k, none⟩ from by unfold Addr.add; split <;> simp_all] at hk'
  rw [hk']
  simp [hk]
 intro k hk
 have hm2 : (zs.take len).getD k 0 ∈ zs:=by
  rw [List.getD_eq_getElem?_getD, List.getElem?_eq_getElem hk]
  exact List.mem_of_mem_take (List.getElem_mem hk)
 have:=bounds_u8 (hwz _ hm2)
 omega
end
section
open Go.ChangeShapes Go.WideShapes Go.ChangeAt Go.RowKit
open Go.Joins
variable [∀ (a b c d : Int), Decidable (Ok4 a b c d)]
variable [∀ (n f : Int), Decidable (COk n f)]
variable [∀ (a b c d : Nat), Decidable (okN a b c d)]
variable [∀ (x : T4), Decidable (OkT x)]
theorem cellsTx : Tryz.prog.cellsOf 108 = 4 := by kernel_rfl
theorem field_int {H : Type} {enc : TypeId × Value → H} {W : World} {n : Nat} {c : Value} {y : DataW H × List MemPlace} (h : DataW.trod enc Tryz.prog W 0 (fun _ => true) true n 3 [c] = some y) : ∃ a : Int, c = .int .i64 a := by
 obtain ⟨a, e0, _, _⟩:=DataW.trod_int Tryz.underlying3 h
 simp at e0
 exact ⟨a, e0⟩
theorem four_list {α : Type} {l : List α} (h : l.length = 4) : ∃ a b c d, l = [a, b, c, d] := by
 match l, h with
 | [a, b, c, d], _ => exact ⟨a, b, c, d, rfl⟩
theorem open_txs0 {H : Type} {enc : TypeId × Value → H} {W : World} {fuel : Nat} {a : Option Addr} {len cap : Nat} {x : DataW H × List MemPlace} (h : DataW.trod enc Tryz.prog W 0 (fun _ => true) true fuel 29 (Value.slice a len cap).cells.toList = some x) :
 ∃ xs : List T4, len = xs.length ∧ xs.length ≤ maxLen ∧ AR W a xs := by
 rcases Go.Deep.open_slice Tryz.underlying29 h with ⟨hcs, _⟩ | ⟨ad, l, c, m, n, D, Pl, hcs, _, hl, hm, hmm, _, hx⟩
 ·simp [Value.cells] at hcs
  obtain ⟨rfl, rfl, rfl⟩:=hcs
  exact ⟨[], rfl, by simp, .inl rfl⟩
 simp [Value.cells] at hcs
 obtain ⟨rfl, rfl, rfl⟩:=hcs
 have hm' : m = cap:=by simpa using hmm
 have each : ∀ i, ∃ q : T4, i < len → W.cell? (ad.add (i * 4)) = some (.int .i64 q.1) ∧ W.cell? (ad.add (i * 4 + 1)) = some (.int .i64 q.2.1) ∧ W.cell? (ad.add (i * 4 + 2)) = some (.int .i64 q.2.2.1) ∧ W.cell? (ad.add (i * 4 + 3)) = some (.int .i64 q.2.2.2):=by
  intro i
  by_cases hi : i < len
  ·obtain ⟨cs', h1, h2⟩:=hx i (by omega)
   rw [cellsTx] at h1
   obtain ⟨_, hlen, hcell⟩:=World.cells?_some h1
   obtain ⟨y0, y1, y2, y3, k, _, _, g0, g1, g2, g3⟩:=trod_struct4 Tryz.underlying108 h2
   obtain ⟨v0, v1, v2, v3, rfl⟩:=four_list hlen
   have e0:=hcell 0 (by omega)
   have e1:=hcell 1 (by omega)
   have e2:=hcell 2 (by omega)
   have e3:=hcell 3 (by omega)
   rw [Go.Deep.add_add] at e0 e1 e2 e3
   have ci : Tryz.prog.cellsOf 3 = 1:=by kernel_rfl
   simp [ci] at g0 g1 g2 g3
   obtain ⟨a0, rfl⟩:=field_int g0
   obtain ⟨a1, rfl⟩:=field_int g1
   obtain ⟨a2, rfl⟩:=field_int g2
   obtain ⟨a3, rfl⟩:=field_int g3
   exact ⟨(a0, a1, a2, a3), fun _ => ⟨by simpa using e0, by simpa using e1, by simpa using e2, by simpa using e3⟩⟩
  exact ⟨(0, 0, 0, 0), fun h => absurd h hi⟩
 obtain ⟨q, hq⟩:=Classical.axiomOfChoice each
 refine ⟨(List.range len).map q, by simp, by simp; omega, ?_⟩
 by_cases h0 : len = 0
 ·left; simp [h0]
 right
 obtain ⟨b, off, spot⟩:=ad
 have hc:=(hq 0 (by omega)).1
 have hspot : spot = none:=by simpa [Addr.add] using World.cell?_spot hc
 subst hspot
 refine ⟨b, off, rfl, fun k hk => ?_⟩
 rw [List.length_map, List.length_range] at hk
 have:=hq k hk
 have ea : ∀ j, ((⟨b, off, none⟩ : Addr).add j) = ⟨b, off + j, none⟩:=fun j => by unfold Addr.add; split <;> simp_all
 rw [ea, ea, ea, ea] at this
 have eg : ((List.range len).map q).getD k (0, 0, 0, 0) = q k:=by simp [hk]
 rw [eg]
 simpa [Nat.add_assoc] using this
end
end Go.Proofs.YtmpffkpilbbclaaGreatDoor
