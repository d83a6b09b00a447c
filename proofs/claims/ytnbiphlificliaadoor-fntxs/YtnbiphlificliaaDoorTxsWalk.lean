/- The walk of laws.FnTxs. -/
import Derived.Test.YtnbiphlificliaaDoorDent
import Derived.Test.YtnbiphlificliaaDoorSameTx
import Derived.Test.YtnbiphlificliaaDoorJoinPlain
import Derived.Test.YtnbiphlificliaaDoorTxsTextImpl
import Derived.Test.YtnbiphlificliaaDoorSpecTxsOf
namespace Go.Proofs.YtnbiphlificliaaDoor
open Go.RowKit
set_option linter.unusedSectionVars false
variable [∀ (a b c d : Int), Decidable (Ok4 a b c d)]
variable [∀ (a b c d : Nat), Decidable (okN a b c d)]
variable [∀ (x : T4), Decidable (OkT x)]

set_option maxHeartbeats 400000 in
set_option maxRecDepth 100000 in
theorem big_no (ao : Option Addr) (len ca : Nat) (w : World) (hl : len ≤ 1048576) :
    Calls Tryd.prog 9 #[.slice ao len ca] w fun e w' => e = .returned (.bool false) ∧ w' = w := by
  have hd : decide ((1048576 : Int) < (len : Int)) = false := by simp; omega
  go_enter Tryd.func9, Tryd.ntmps9
  go_wp2
  go_ret
  exact ⟨rfl, rfl⟩
set_option maxHeartbeats 400000 in
set_option maxRecDepth 100000 in
theorem big_yes (ao : Option Addr) (len ca : Nat) (w : World) (hl : 1048576 < len) :
    Calls Tryd.prog 9 #[.slice ao len ca] w fun e w' => e = .returned (.bool true) ∧ w' = w := by
  have hd : decide ((1048576 : Int) < (len : Int)) = true := by simp; omega
  go_enter Tryd.func9, Tryd.ntmps9
  go_wp2
  go_ret
  exact ⟨rfl, rfl⟩
set_option maxHeartbeats 400000 in
set_option maxRecDepth 100000 in
theorem fnTxs_big (ao : Option Addr) (len ca : Nat) (w : World) (hl : 1048576 < len) :
    Calls Tryd.prog 3 #[.slice ao len ca] w fun e w' => e = .returned (.bool true) ∧ Below w.heap.size w w' := by
  go_enter Tryd.func3, Tryd.ntmps3
  go_wp2_with fail
  refine (big_yes ao len ca _ hl).mono ?_
  rintro e w' ⟨rfl, rfl⟩
  go_wp2
  go_ret
  exact ⟨rfl, Below.refl _ _⟩
theorem txsAns_len' (s : ByteArray) (hs : s.size ≤ 1048576) : ((txsAns s).getD []).length ≤ 1048577 := by
  unfold txsAns
  split
  · simp
  · have := splitAns_len s 44
    cases h : allTx (splitAns s 44) with
    | none => simp
    | some ys => have := (allTx_texts h).1; have := congrArg List.length this; simp at this; simp; omega
theorem txval_of (o : Option (Nat × Nat × Nat × Nat)) : ∃ (a b c d : Int) (q : Bool), txval o = .tuple #[txv a b c d, .bool q] ∧ (q = true → ∃ a' b' c' d' : Nat, o = some (a', b', c', d') ∧ a = a' ∧ b = b' ∧ c = c' ∧ d = d') := by
  match o with
  | none => exact ⟨0, 0, 0, 0, false, rfl, fun h => by cases h⟩
  | some (a, b, c, d) => exact ⟨a, b, c, d, true, rfl, fun _ => ⟨a, b, c, d, rfl, rfl, rfl, rfl, rfl⟩⟩
abbrev cl4 (a b c d : Int) : Obj := .cells #[.int .i64 a, .int .i64 b, .int .i64 c, .int .i64 d] 25

set_option maxHeartbeats 40000000 in
set_option maxRecDepth 100000 in
theorem fnTxs_small (ao : Option Addr) (ca : Nat) (xs : List Int) (w : World) (hc : DCode w ao xs) (hE : Env w) :
    Calls Tryd.prog 3 #[.slice ao xs.length ca] w fun e w' => e = .returned (.bool true) ∧ Below w.heap.size w w' := by
  have hlen := hc.len
  have HC := hide hc
  have HE := hide hE
  clear hc hE
  go_enter Tryd.func3, Tryd.ntmps3
  go_wp2_with fail
  refine (big_no ao xs.length ca _ hlen).mono ?_
  rintro e w0 ⟨rfl, rfl⟩
  go_wp2_with fail
  refine (drawTxText ao ca xs _ (unhide HC)).mono ?_
  rintro e w1 ⟨xa, xb, xc, xd, rfl, b1⟩
  have s1 := b1.size
  have c1 : Below w0.heap.size w0 (w1.alloc (cl4 xa xb xc xd)) := b1.alloc s1 _
  have X1 := hide (cells4_new w1 xa xb xc xd 25)
  have k1 : w1.heap.size + 1 = (w1.alloc (cl4 xa xb xc xd)).heap.size := by simp
  have CT1 := hide fun w ht => implTxText xa xb xc xd w ht
  obtain ⟨sx, hsx⟩ : ∃ s, txt xa xb xc xd = s := ⟨_, rfl⟩
  rw [hsx] at CT1
  clear b1
  go_wp2_with fail
  refine (unhide CT1 _ ((unhide HE).below c1).pow).mono ?_
  rintro e w2 ⟨rfl, b2⟩
  have c2 := c1.trans (b2.mono c1.size)
  have X2 := hide ((unhide X1).below b2 (by omega))
  have k2 : w1.heap.size < w2.heap.size := by have := b2.size; omega
  clear b2 c1 X1 CT1 k1
  go_wp2_with fail
  refine (drawTxOf ao ca xs _ ((unhide HC).below c2 (Nat.le_refl _))).mono ?_
  rintro e w3 ⟨t, rfl, hts, b3⟩
  have c3 := c2.trans (b3.mono c2.size)
  have X3 := hide ((unhide X2).below b3 k2)
  have k3 : w1.heap.size < w3.heap.size := by have := b3.size; omega
  clear b3 c2 X2 k2
  obtain ⟨ya, yb, yc, yd, ok, hv, hok⟩ := txval_of (txAns t.data.toList)
  have IT := hide fun w hE => implTxOf t w (by omega) hE
  have ST := hide fun w => specTxOf t w (by omega)
  rw [hv] at IT ST
  have HOK : Hid (ok = true → txt ya yb yc yd = t) := fun h => by
    obtain ⟨a', b', c', d', e, rfl, rfl, rfl, rfl⟩ := hok h
    exact isTx_txt (txAns_is e)
  clear hv hok
  go_wp2_with fail
  refine (unhide IT _ ((unhide HE).below c3)).mono ?_
  rintro e w4 ⟨rfl, b4⟩
  have bn4 : Below w3.heap.size w3 (w4.alloc (cl4 ya yb yc yd)) := b4.alloc b4.size _
  have c4 := c3.trans (bn4.mono c3.size)
  have X4 := hide ((unhide X3).below bn4 k3)
  have Y4 := hide (cells4_new w4 ya yb yc yd 25)
  have k4 : w1.heap.size < w4.heap.size ∧ w4.heap.size + 1 = (w4.alloc (cl4 ya yb yc yd)).heap.size := by
    have := b4.size; exact ⟨by omega, by simp⟩
  clear b4 bn4 c3 X3 k3 IT
  go_wp2_with fail
  refine (unhide ST _).mono ?_
  rintro e w5 ⟨rfl, b5⟩
  have bn5 : Below (w4.alloc (cl4 ya yb yc yd)).heap.size (w4.alloc (cl4 ya yb yc yd)) (w5.alloc (cl4 ya yb yc yd)) := b5.alloc b5.size _
  have c5 := c4.trans (bn5.mono c4.size)
  have X5 := hide ((unhide X4).below bn5 (by omega))
  have Y5 := hide ((unhide Y4).below bn5 (by omega))
  have Z5 := hide (cells4_new w5 ya yb yc yd 25)
  have k5 : w4.heap.size < w5.heap.size ∧ w5.heap.size + 1 = (w5.alloc (cl4 ya yb yc yd)).heap.size := by
    have := b5.size; simp at this; exact ⟨by omega, by simp⟩
  have k4' := k4.1
  clear b5 bn5 c4 X4 Y4 ST k4
  go_wp2_with fail
  refine (drawTxsText ao ca xs _ ((unhide HC).below c5 (Nat.le_refl _))).mono ?_
  rintro e w6 ⟨lv, ys, rfl, hyl, o6, b6⟩
  have c6 := c5.trans (b6.mono c5.size)
  have X6 := hide ((unhide X5).below b6 (by omega))
  have Y6 := hide ((unhide Y5).below b6 (by omega))
  have Z6 := hide ((unhide Z5).below b6 (by omega))
  have k6 : w5.heap.size < w6.heap.size := by have := b6.size; omega
  have k5' := k5.1
  have O6 := hide o6
  have ITS := hide fun w h ht => implTxsText lv ys w (by omega) h ht
  have STS := hide fun w h => specTxsText lv ys w (by omega) h
  obtain ⟨us, hus⟩ : ∃ s, txsT ys = s := ⟨_, rfl⟩
  rw [hus] at ITS STS
  obtain ⟨lo, lc, hlv⟩ : ∃ lo lc, lv = .slice lo ys.length lc := by
    obtain ⟨_, lo, lc, h, _⟩ := o6.rt (by omega)
    exact ⟨lo, lc, h⟩
  subst hlv
  clear b6 c5 X5 Y5 Z5 k5 o6
  go_wp2_with fail
  refine (unhide ITS _ ((unhide O6).rt (by omega)) ((unhide HE).below c6).pow).mono ?_
  rintro e w7 ⟨rfl, b7⟩
  have c7 := c6.trans (b7.mono c6.size)
  have X7 := hide ((unhide X6).below b7 (by omega))
  have Y7 := hide ((unhide Y6).below b7 (by omega))
  have Z7 := hide ((unhide Z6).below b7 (by omega))
  have O7 := hide ((unhide O6).below b7)
  have k7 : w5.heap.size < w7.heap.size := by have := b7.size; omega
  clear b7 c6 X6 Y6 Z6 O6 k6 ITS
  go_wp2_with fail
  refine (drawTxsOf ao ca xs _ ((unhide HC).below c7 (Nat.le_refl _))).mono ?_
  rintro e w8 ⟨vt, rfl, hvs, b8⟩
  have c8 := c7.trans (b8.mono c7.size)
  have X8 := hide ((unhide X7).below b8 (by omega))
  have Y8 := hide ((unhide Y7).below b8 (by omega))
  have Z8 := hide ((unhide Z7).below b8 (by omega))
  have O8 := hide ((unhide O7).below b8)
  have k8 : w5.heap.size < w8.heap.size := by have := b8.size; omega
  clear b8 c7 X7 Y7 Z7 O7 k7
  have IA := hide fun w hE => implTxsOf vt w (by omega) hE
  have SA := hide fun w => specTxsOf vt w (by omega)
  have hla := txsAns_len' vt (by omega)
  obtain ⟨za, has⟩ : ∃ a, (txsAns vt).getD [] = a := ⟨_, rfl⟩
  obtain ⟨is, his⟩ : ∃ a, (txsAns vt).isSome = a := ⟨_, rfl⟩
  have HIS : Hid (is = true → txsT za = vt) := fun h => by
    rw [← his] at h
    obtain ⟨zs, hz⟩ := Option.isSome_iff_exists.1 h
    rw [hz] at has
    have : zs = za := has
    rw [← this]; exact txsAns_text hz
  rw [has, his] at IA SA
  rw [has] at hla
  clear has his
  go_wp2_with fail
  refine (unhide IA _ ((unhide HE).below c8)).mono ?_
  rintro e w9 ⟨av, rfl, oa9, b9⟩
  have c9 := c8.trans (b9.mono c8.size)
  have X9 := hide ((unhide X8).below b9 (by omega))
  have Y9 := hide ((unhide Y8).below b9 (by omega))
  have Z9 := hide ((unhide Z8).below b9 (by omega))
  have O9 := hide ((unhide O8).below b9)
  have k9 : w5.heap.size < w9.heap.size := by have := b9.size; omega
  have A9 := hide oa9
  clear b9 c8 X8 Y8 Z8 O8 k8 oa9
  go_wp2_with fail
  refine (unhide SA _).mono ?_
  rintro e w10 ⟨bv, rfl, ob10, b10⟩
  have c10 := c9.trans (b10.mono c9.size)
  have X10 := hide ((unhide X9).below b10 (by omega))
  have Y10 := hide ((unhide Y9).below b10 (by omega))
  have Z10 := hide ((unhide Z9).below b10 (by omega))
  have O10 := hide ((unhide O9).below b10)
  have A10 := hide ((unhide A9).below b10)
  have B10 := hide ob10
  have k10 : w5.heap.size < w10.heap.size := by have := b10.size; omega
  clear b10 c9 X9 Y9 Z9 O9 A9 k9 ob10 SA
  go_wp2_with fail
  refine (drawTxOk ao ca xs _ ((unhide HC).below c10 (Nat.le_refl _))).mono ?_
  rintro e w11 ⟨oa, ob, oc, od, rfl, b11⟩
  have bn : Below w10.heap.size w10 (w11.alloc (cl4 oa ob oc od)) := b11.alloc b11.size _
  have kk : w5.heap.size < w11.heap.size ∧ w11.heap.size + 1 = (w11.alloc (cl4 oa ob oc od)).heap.size := by
    have := b11.size; exact ⟨by omega, by simp⟩
  have V11 := hide (cells4_new w11 oa ob oc od 25)
  have c11 := c10.trans (bn.mono c10.size)
  have X11 := hide ((unhide X10).below bn (by omega))
  have Y11 := hide ((unhide Y10).below bn (by omega))
  have Z11 := hide ((unhide Z10).below bn (by omega))
  have O11 := hide ((unhide O10).below bn)
  have A11 := hide ((unhide A10).below bn)
  have B11 := hide ((unhide B10).below bn)
  clear b11 bn X10 Y10 Z10 O10 A10 B10 k10 c10
  go_upto_region 14 with fail
  go_cut [97] (fun c wx => c = .bool false ∧ Below (w11.alloc (cl4 oa ob oc od)).heap.size (w11.alloc (cl4 oa ob oc od)) wx)
  case first =>
    have K : Hid (∀ w', Below (w11.alloc (cl4 oa ob oc od)).heap.size (w11.alloc (cl4 oa ob oc od)) w' → Below (w11.alloc (cl4 oa ob oc od)).heap.size (w11.alloc (cl4 oa ob oc od)) w' ∧ (w'.cell? ⟨w1.heap.size, 0, none⟩ = some (.int .i64 xa) ∧ w'.cell? ⟨w1.heap.size, 1, none⟩ = some (.int .i64 xb) ∧ w'.cell? ⟨w1.heap.size, 2, none⟩ = some (.int .i64 xc) ∧ w'.cell? ⟨w1.heap.size, 3, none⟩ = some (.int .i64 xd)) ∧ (w'.cell? ⟨w4.heap.size, 0, none⟩ = some (.int .i64 ya) ∧ w'.cell? ⟨w4.heap.size, 1, none⟩ = some (.int .i64 yb) ∧ w'.cell? ⟨w4.heap.size, 2, none⟩ = some (.int .i64 yc) ∧ w'.cell? ⟨w4.heap.size, 3, none⟩ = some (.int .i64 yd)) ∧ (w'.cell? ⟨w5.heap.size, 0, none⟩ = some (.int .i64 ya) ∧ w'.cell? ⟨w5.heap.size, 1, none⟩ = some (.int .i64 yb) ∧ w'.cell? ⟨w5.heap.size, 2, none⟩ = some (.int .i64 yc) ∧ w'.cell? ⟨w5.heap.size, 3, none⟩ = some (.int .i64 yd)) ∧ (w'.cell? ⟨w11.heap.size, 0, none⟩ = some (.int .i64 oa) ∧ w'.cell? ⟨w11.heap.size, 1, none⟩ = some (.int .i64 ob) ∧ w'.cell? ⟨w11.heap.size, 2, none⟩ = some (.int .i64 oc) ∧ w'.cell? ⟨w11.heap.size, 3, none⟩ = some (.int .i64 od))) := fun w' hb => ⟨hb, (unhide X11).below hb (by omega), (unhide Y11).below hb (by omega), (unhide Z11).below hb (by omega), (unhide V11).below hb (by omega)⟩
    have bA : Below (w11.alloc (cl4 oa ob oc od)).heap.size (w11.alloc (cl4 oa ob oc od)) (World.drew (w11.alloc (cl4 oa ob oc od))) := Below.drew (Below.refl _ _)
    have hKeep := unhide K _ bA
    have hbo : (ok != ok) = false := by simp
    have hbi : (is != is) = false := by simp
    have CA := hide fun w => specTxText xa xb xc xd w
    rw [hsx] at CA
    have CD := hide fun w => implTxOk oa ob oc od w
    have CE := hide fun w => specTxOk oa ob oc od w
    generalize decide (Ok4 oa ob oc od) = oo at CD CE
    have hoo : (oo != oo) = false := by simp
    clear HC HE HOK HIS X11 Y11 Z11 V11 hsx hus hlen hts hvs c11
    go_region_held3 (fun w' => Below (w11.alloc (cl4 oa ob oc od)).heap.size (w11.alloc (cl4 oa ob oc od)) w' ∧ (w'.cell? ⟨w1.heap.size, 0, none⟩ = some (.int .i64 xa) ∧ w'.cell? ⟨w1.heap.size, 1, none⟩ = some (.int .i64 xb) ∧ w'.cell? ⟨w1.heap.size, 2, none⟩ = some (.int .i64 xc) ∧ w'.cell? ⟨w1.heap.size, 3, none⟩ = some (.int .i64 xd)) ∧ (w'.cell? ⟨w4.heap.size, 0, none⟩ = some (.int .i64 ya) ∧ w'.cell? ⟨w4.heap.size, 1, none⟩ = some (.int .i64 yb) ∧ w'.cell? ⟨w4.heap.size, 2, none⟩ = some (.int .i64 yc) ∧ w'.cell? ⟨w4.heap.size, 3, none⟩ = some (.int .i64 yd)) ∧ (w'.cell? ⟨w5.heap.size, 0, none⟩ = some (.int .i64 ya) ∧ w'.cell? ⟨w5.heap.size, 1, none⟩ = some (.int .i64 yb) ∧ w'.cell? ⟨w5.heap.size, 2, none⟩ = some (.int .i64 yc) ∧ w'.cell? ⟨w5.heap.size, 3, none⟩ = some (.int .i64 yd)) ∧ (w'.cell? ⟨w11.heap.size, 0, none⟩ = some (.int .i64 oa) ∧ w'.cell? ⟨w11.heap.size, 1, none⟩ = some (.int .i64 ob) ∧ w'.cell? ⟨w11.heap.size, 2, none⟩ = some (.int .i64 oc) ∧ w'.cell? ⟨w11.heap.size, 3, none⟩ = some (.int .i64 od))) (exact hKeep) (first
      | (go_at_call 21; have hgo := bA; refine (unhide CA _).mono ?_; rintro e wa ⟨rfl, ba⟩
         have bB : Below (w11.alloc (cl4 oa ob oc od)).heap.size (w11.alloc (cl4 oa ob oc od)) wa := bA.trans ba
         have hKeep := unhide K _ bB; clear bA hgo)
      | (go_at_call 22; have hgo := bB; refine (unhide STS _ (((unhide O11).below hgo).rt (by omega))).mono ?_; rintro e wb ⟨rfl, bb⟩
         have bC : Below (w11.alloc (cl4 oa ob oc od)).heap.size (w11.alloc (cl4 oa ob oc od)) wb := bB.trans (bb.mono bB.size)
         have hKeep := unhide K _ bC; clear bB hgo)
      | (go_at_call 23; have hgo := bC; refine (sameTxs_yes _ _ za _ (((unhide A11).below hgo).rt (by omega)) (((unhide B11).below hgo).rt (by omega))).mono ?_; rintro e wc ⟨rfl, nn, rfl⟩
         have bD : Below (w11.alloc (cl4 oa ob oc od)).heap.size (w11.alloc (cl4 oa ob oc od)) (wb.drewN nn) := below_drewN bC nn
         have hKeep := unhide K _ bD; clear bC hgo)
      | (go_at_call 24; have hgo := bD; refine (unhide CD _).mono ?_; rintro e wd ⟨rfl, bd⟩
         have bE : Below (w11.alloc (cl4 oa ob oc od)).heap.size (w11.alloc (cl4 oa ob oc od)) wd := bD.trans (bd.mono bD.size)
         have hKeep := unhide K _ bE; clear bD hgo)
      | (go_at_call 25; have hgo := bE; refine (unhide CE _).mono ?_; rintro e we ⟨rfl, be⟩
         have bF : Below (w11.alloc (cl4 oa ob oc od)).heap.size (w11.alloc (cl4 oa ob oc od)) we := bE.trans (be.mono bE.size)
         have hKeep := unhide K _ bF; clear bE hgo))
    all_goals (go_wp2_with fail; go_meet; exact ⟨rfl, bF⟩)
  case rest =>
    obtain ⟨rfl, bx⟩ := hcut
    obtain ⟨q, rfl⟩ : ∃ q, q = wc := ⟨_, rfl⟩
    have cq := c11.trans (bx.mono c11.size)
    have sq := cq.size
    have X12 := hide ((unhide X11).below bx (by omega))
    have Y12 := hide ((unhide Y11).below bx (by omega))
    have O12 := hide ((unhide O11).below bx)
    have A12 := hide ((unhide A11).below bx)
    have kq : w1.heap.size < q.heap.size ∧ w4.heap.size < q.heap.size := by have := bx.size; omega
    clear X11 Y11 Z11 V11 O11 A11 B11 bx c11 kk STS
    go_upto_region 16 with fail
    go_cut [113] (fun c wx => c = .bool false ∧ Below q.heap.size q wx)
    case first =>
      obtain ⟨y0, y1, y2, y3⟩ := unhide Y12
      have hE' := hide ((unhide HE).below cq)
      have IT := hide fun w ht => implTxText ya yb yc yd w ht
      have IS := hide fun w h ht => implTxsText av za w (by omega) h ht
      cases ok
      · cases is
        · go_wp2_with fail
          go_meet
          exact ⟨rfl, Below.refl _ _⟩
        · rw [unhide HIS rfl] at IS
          go_wp2_with fail
          refine (unhide IS _ ((unhide A12).rt (by omega)) (unhide hE').pow).mono ?_
          rintro e wa ⟨rfl, ba⟩
          go_wp2_with fail
          go_meet
          exact ⟨rfl, ba⟩
      · rw [unhide HOK rfl] at IT
        cases is
        · go_wp2_with fail
          refine (unhide IT _ (unhide hE').pow).mono ?_
          rintro e wa ⟨rfl, ba⟩
          go_wp2_with fail
          go_meet
          exact ⟨rfl, ba⟩
        · rw [unhide HIS rfl] at IS
          go_wp2_with fail
          refine (unhide IT _ (unhide hE').pow).mono ?_
          rintro e wa ⟨rfl, ba⟩
          go_wp2_with fail
          refine (unhide IS _ (((unhide A12).below ba).rt (by omega)) ((unhide hE').below ba).pow).mono ?_
          rintro e wb ⟨rfl, bb⟩
          go_wp2_with fail
          go_meet
          exact ⟨rfl, ba.trans (bb.mono ba.size)⟩
    case rest =>
      obtain ⟨rfl, bx⟩ := hcut
      obtain ⟨q2, rfl⟩ : ∃ q, q = wc := ⟨_, rfl⟩
      have c2 := cq.trans (bx.mono cq.size)
      have s2 := c2.size
      have X13 := hide ((unhide X12).below bx (by omega))
      have O13 := hide ((unhide O12).below bx)
      have kq2 : w1.heap.size < q2.heap.size := by have := bx.size; omega
      clear X12 Y12 O12 A12 bx cq sq HOK HIS
      have hus4 : us.size ≤ 112 := by
        rw [← hus]
        unfold txsT
        split
        · rw [toB_size]; have := accT_len ys ys.length; omega
        · exact Nat.zero_le _
      obtain ⟨x0, x1, x2, x3⟩ := unhide X13
      by_cases hkx : Ok4 xa xb xc xd
      · have CK := hide fun w => implTxOk_yes xa xb xc xd w hkx
        have hsz : sx.size ≤ 27 := by rw [← hsx]; exact txT_size (xa, xb, xc, xd)
        have IX := hide fun w hE => implTxOf sx w (by omega) hE
        have hax : ∃ qx, txval (txAns sx.data.toList) = .tuple #[txv xa xb xc xd, .bool true] ∧ qx = sx := by
          obtain ⟨a', b', c', d', rfl, rfl, rfl, rfl⟩ := ok_nat hkx
          refine ⟨_, ?_, rfl⟩
          rw [← hsx]
          have hi : IsTx (txt (a' : Int) b' c' d').data.toList a' b' c' d' := by
            unfold txt
            rw [if_pos hkx, txs_toB, toB_list]
            exact ⟨ok_cast.1 hkx, rfl⟩
          rw [txAns_some hi]; rfl
        obtain ⟨_, hax, _⟩ := hax
        rw [hax] at IX
        clear hax hkx hsx hsz
        go_wp2_with fail
        refine (unhide CK _).mono ?_
        rintro e wk ⟨rfl, bk⟩
        have ck := c2.trans (bk.mono c2.size)
        have Xk := hide ((unhide X13).below bk kq2)
        have Ok' := hide ((unhide O13).below bk)
        have kk2 : w1.heap.size < wk.heap.size := by have := bk.size; omega
        clear x0 x1 x2 x3 X13 O13 CK bk c2
        go_wp2_with fail
        refine (unhide IX _ ((unhide HE).below ck)).mono ?_
        rintro e wl ⟨rfl, bl⟩
        have bl' : Below wk.heap.size wk (wl.alloc (cl4 xa xb xc xd)) := bl.alloc bl.size _
        have cl := ck.trans (bl'.mono ck.size)
        obtain ⟨x0, x1, x2, x3⟩ := (unhide Xk).below bl kk2
        have Ol := hide ((unhide Ok').below bl')
        have kl : w1.heap.size < wl.heap.size := by have := bl.size; omega
        clear Xk Ok' IX bl bl' ck
        go_wp2_with fail
        go_loopw [20, 21] (fun al i wr => ∃ (k : Nat) (bb : Bool), k ≤ ys.length ∧ i = .int .i64 k ∧ al = .bool bb ∧ Hid (bb = true ↔ ∀ j, j < k → OkT (ys.getD j (0, 0, 0, 0))) ∧ Below (wl.alloc (cl4 xa xb xc xd)).heap.size (wl.alloc (cl4 xa xb xc xd)) wr) (fun _ i _ => ys.length - (intOf i).toNat)
        case atStart => exact ⟨0, true, by omega, rfl, rfl, hide ⟨fun _ j hj => by omega, fun _ => rfl⟩, Below.refl _ _⟩
        case round =>
          obtain ⟨k, bb, hk, rfl, rfl, HB, br⟩ := hrel
          have cr := cl.trans (br.mono cl.size)
          have Or := hide ((unhide Ol).below br)
          by_cases hlt : k < ys.length
          · cases bb
            · have HB' : Hid (false = true ↔ ∀ j, j < k + 1 → OkT (ys.getD j (0, 0, 0, 0))) := ⟨(fun h => by cases h), (fun h => HB.out.2 (fun j hj => h j (by omega)))⟩
              clear HB
              go_wp2
              go_roundw
              case rel => exact ⟨k + 1, false, by omega, by go_num, rfl, HB', br⟩
              case measure => simp [intOf]; omega
            · obtain ⟨_, lo', lc', hsl, ha⟩ := (unhide Or).rt (by omega)
              simp only [Value.slice.injEq] at hsl
              obtain ⟨rfl, _, rfl⟩ := hsl
              rcases ha with ha | ⟨g, rfl, ha⟩
              · subst ha; simp at hlt
              obtain ⟨a0, a1, a2, a3⟩ := ha k hlt
              clear ha
              obtain ⟨x, hxk⟩ : ∃ x, ys.getD k (0, 0, 0, 0) = x := ⟨_, rfl⟩
              have HX := hide hxk
              rw [hxk] at a0 a1 a2 a3
              clear hxk
              obtain ⟨pa, pb, pc, pd⟩ := x
              simp only at a0 a1 a2 a3
              have CK := hide fun w => implTxOk pa pb pc pd w
              obtain ⟨b1, hb1⟩ : ∃ b, decide (Ok4 pa pb pc pd) = b := ⟨_, rfl⟩
              rw [hb1] at CK
              have HB' : Hid (b1 = true ↔ ∀ j, j < k + 1 → OkT (ys.getD j (0, 0, 0, 0))) := by
                have hx := unhide HX
                refine ⟨fun h j hj => ?_, fun h => ?_⟩
                · by_cases e : j = k
                  · subst e; rw [hx]; rw [← hb1] at h; exact (of_decide_eq_true h : Ok4 pa pb pc pd)
                  · exact HB.out.1 rfl j (by omega)
                · have := h k (by omega); rw [hx] at this; rw [← hb1]; exact decide_eq_true (show Ok4 pa pb pc pd from this)
              clear hb1 HB HX
              go_wp2_with fail
              refine (unhide CK _).mono ?_
              rintro e wa ⟨rfl, ba⟩
              have br' := br.trans (ba.mono br.size)
              go_wp2
              go_roundw
              case rel => exact ⟨k + 1, b1, by omega, by go_num, rfl, HB', br'⟩
              case measure => simp [intOf]; omega
          · have hkn : k = ys.length := by omega
            cases bb
            · have hu : us = ⟨#[]⟩ := by
                have hn : ¬ ∀ j, j < ys.length → OkT (ys.getD j (0, 0, 0, 0)) := fun h => by
                  have := HB.out.2 (by rw [hkn]; exact h); cases this
                rw [← hus]
                apply Classical.byContradiction
                intro hne
                apply hn
                intro j hj
                apply Classical.byContradiction
                intro hno
                exact hne (txsT_no hj hno)
              clear HB hus
              subst hu
              go_wp2
              go_ret
              exact ⟨rfl, cr⟩
            · have hall : ∀ y ∈ ys, OkT y := fun y hy => by
                obtain ⟨j, hj, rfl⟩ := List.mem_iff_getElem.1 hy
                have := HB.out.1 rfl j (by omega)
                rwa [List.getD_eq_getElem?_getD, List.getElem?_eq_getElem hj] at this
              have hans := txsAns_of ys hall
              rw [hus] at hans
              have IU := hide fun w hE => implTxsOf us w (by omega) hE
              rw [hans] at IU
              simp only [Option.isSome_some, Option.getD_some] at IU
              clear HB hans hall
              go_wp2_with fail
              refine (unhide IU _ ((unhide HE).below cr)).mono ?_
              rintro e wa ⟨va, rfl, oa', ba⟩
              have Oa := (unhide Or).below ba
              have cra := cr.trans (ba.mono cr.size)
              go_wp2_with fail
              refine (sameTxs_yes _ _ ys _ (oa'.rt (by omega)) (Oa.rt (by omega))).mono ?_
              rintro e wb ⟨rfl, nn, rfl⟩
              go_wp2
              go_ret
              exact ⟨rfl, below_drewN cra nn⟩
      · have CK := hide fun w => implTxOk_no xa xb xc xd w hkx
        clear hkx hsx
        go_wp2_with fail
        refine (unhide CK _).mono ?_
        rintro e wk ⟨rfl, bk⟩
        have ck := c2.trans (bk.mono c2.size)
        have Ok' := hide ((unhide O13).below bk)
        clear x0 x1 x2 x3 X13 O13 CK bk c2
        go_wp2_with fail
        go_loopw [20, 21] (fun al i wr => ∃ (k : Nat) (bb : Bool), k ≤ ys.length ∧ i = .int .i64 k ∧ al = .bool bb ∧ Hid (bb = true ↔ ∀ j, j < k → OkT (ys.getD j (0, 0, 0, 0))) ∧ Below wk.heap.size wk wr) (fun _ i _ => ys.length - (intOf i).toNat)
        case atStart => exact ⟨0, true, by omega, rfl, rfl, hide ⟨fun _ j hj => by omega, fun _ => rfl⟩, Below.refl _ _⟩
        case round =>
          obtain ⟨k, bb, hk, rfl, rfl, HB, br⟩ := hrel
          have cr := ck.trans (br.mono ck.size)
          have Or := hide ((unhide Ok').below br)
          by_cases hlt : k < ys.length
          · cases bb
            · have HB' : Hid (false = true ↔ ∀ j, j < k + 1 → OkT (ys.getD j (0, 0, 0, 0))) := ⟨(fun h => by cases h), (fun h => HB.out.2 (fun j hj => h j (by omega)))⟩
              clear HB
              go_wp2
              go_roundw
              case rel => exact ⟨k + 1, false, by omega, by go_num, rfl, HB', br⟩
              case measure => simp [intOf]; omega
            · obtain ⟨_, lo', lc', hsl, ha⟩ := (unhide Or).rt (by omega)
              simp only [Value.slice.injEq] at hsl
              obtain ⟨rfl, _, rfl⟩ := hsl
              rcases ha with ha | ⟨g, rfl, ha⟩
              · subst ha; simp at hlt
              obtain ⟨a0, a1, a2, a3⟩ := ha k hlt
              clear ha
              obtain ⟨x, hxk⟩ : ∃ x, ys.getD k (0, 0, 0, 0) = x := ⟨_, rfl⟩
              have HX := hide hxk
              rw [hxk] at a0 a1 a2 a3
              clear hxk
              obtain ⟨pa, pb, pc, pd⟩ := x
              simp only at a0 a1 a2 a3
              have CK := hide fun w => implTxOk pa pb pc pd w
              obtain ⟨b1, hb1⟩ : ∃ b, decide (Ok4 pa pb pc pd) = b := ⟨_, rfl⟩
              rw [hb1] at CK
              have HB' : Hid (b1 = true ↔ ∀ j, j < k + 1 → OkT (ys.getD j (0, 0, 0, 0))) := by
                have hx := unhide HX
                refine ⟨fun h j hj => ?_, fun h => ?_⟩
                · by_cases e : j = k
                  · subst e; rw [hx]; rw [← hb1] at h; exact (of_decide_eq_true h : Ok4 pa pb pc pd)
                  · exact HB.out.1 rfl j (by omega)
                · have := h k (by omega); rw [hx] at this; rw [← hb1]; exact decide_eq_true (show Ok4 pa pb pc pd from this)
              clear hb1 HB HX
              go_wp2_with fail
              refine (unhide CK _).mono ?_
              rintro e wa ⟨rfl, ba⟩
              have br' := br.trans (ba.mono br.size)
              go_wp2
              go_roundw
              case rel => exact ⟨k + 1, b1, by omega, by go_num, rfl, HB', br'⟩
              case measure => simp [intOf]; omega
          · have hkn : k = ys.length := by omega
            cases bb
            · have hu : us = ⟨#[]⟩ := by
                have hn : ¬ ∀ j, j < ys.length → OkT (ys.getD j (0, 0, 0, 0)) := fun h => by
                  have := HB.out.2 (by rw [hkn]; exact h); cases this
                rw [← hus]
                apply Classical.byContradiction
                intro hne
                apply hn
                intro j hj
                apply Classical.byContradiction
                intro hno
                exact hne (txsT_no hj hno)
              clear HB hus
              subst hu
              go_wp2
              go_ret
              exact ⟨rfl, cr⟩
            · have hall : ∀ y ∈ ys, OkT y := fun y hy => by
                obtain ⟨j, hj, rfl⟩ := List.mem_iff_getElem.1 hy
                have := HB.out.1 rfl j (by omega)
                rwa [List.getD_eq_getElem?_getD, List.getElem?_eq_getElem hj] at this
              have hans := txsAns_of ys hall
              rw [hus] at hans
              have IU := hide fun w hE => implTxsOf us w (by omega) hE
              rw [hans] at IU
              simp only [Option.isSome_some, Option.getD_some] at IU
              clear HB hans hall
              go_wp2_with fail
              refine (unhide IU _ ((unhide HE).below cr)).mono ?_
              rintro e wa ⟨va, rfl, oa', ba⟩
              have Oa := (unhide Or).below ba
              have cra := cr.trans (ba.mono cr.size)
              go_wp2_with fail
              refine (sameTxs_yes _ _ ys _ (oa'.rt (by omega)) (Oa.rt (by omega))).mono ?_
              rintro e wb ⟨rfl, nn, rfl⟩
              go_wp2
              go_ret
              exact ⟨rfl, below_drewN cra nn⟩
theorem fnTxs_walk (ao : Option Addr) (ca : Nat) (xs : List Int) (w : World) (hx : xs = [] ∨ ∃ b off, ao = some ⟨b, off, none⟩ ∧ ∀ k, k < xs.length → w.cell? ⟨b, off + k, none⟩ = some (.int .u8 (xs.getD k 0))) (hf : ∀ k, k < xs.length → 0 ≤ xs.getD k 0 ∧ xs.getD k 0 ≤ 255) (hE : Env w) :
    Calls Tryd.prog 3 #[.slice ao xs.length ca] w fun e w' => e = .returned (.bool true) ∧ Below w.heap.size w w' := by
  by_cases h : xs.length ≤ 1048576
  · exact fnTxs_small ao ca xs w ⟨h, hx, hf⟩ hE
  · exact fnTxs_big ao xs.length ca w (by omega)
end Go.Proofs.YtnbiphlificliaaDoor
