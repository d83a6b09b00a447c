/- The walk of laws.FnGapsSettleNothing. -/
import Derived.Test.YtgfboghieejbkaaGreatDoorVBK
import Derived.Test.YtgfboghieejbkaaGreatDoorVBF
import Derived.Test.YtgfboghieejbkaaGreatDoorVAD
import Derived.Test.YtgfboghieejbkaaGreatDoorVAF
import Derived.Test.YtgfboghieejbkaaGreatDoorVBL
import Derived.Deep.RegionHeld3
import Derived.Deep.DeepCutAuto
namespace Go.Proofs.YtgfboghieejbkaaGreatDoor
open Go.RowKit
set_option linter.unusedSectionVars false
variable [∀ (a b c d : Int), Decidable (Ok4 a b c d)]
variable [∀ (a b c d : Nat), Decidable (okN a b c d)]
variable [∀ (last : Int) (s : St), Decidable (GoodSt last s)]
variable [∀ (x : T4), Decidable (OkT x)]
variable [∀ (n : Int) (s : List Int), Decidable (OkL n s)]
variable [∀ (n f : Int), Decidable (COk n f)]
variable [∀ (ts : List T4), Decidable (AllOk ts)]

set_option maxHeartbeats 64000000 in
set_option maxRecDepth 100000 in
theorem fnGaps_short (ao : Option Addr) (ca : Nat) (zs : List Int) (w : World) (h : DCode w ao zs) (hE : Env w) :
    Calls Tryz.prog 8 #[.slice ao zs.length ca] w fun e w' => e = .returned (.bool true) ∧ Below w.heap.size w w' := by
  have hz := h.len
  have BG := hide fun w => big_any ao zs.length ca w (by omega)
  rw [decide_eq_false (show ¬ 1048576 < zs.length by omega)] at BG
  have D1 := hide fun i hi w' (hb : Below w.heap.size w w') => at_any ao ca zs i hi w' (h.below hb (Nat.le_refl _))
  obtain ⟨i0, hi, hz0', hz1', hz2'⟩ := info_parts Tryz.info9
  have HE := hide fun w' (hb : Below w.heap.size w w') => hE.below hb
  clear h hE
  generalize zs.length = zl at *
  go_enter Tryz.func8, Tryz.ntmps8
  have Bw : Below w.heap.size w w := Below.refl _ _
  go_wp2_with fail
  refine (unhide BG _).mono ?_
  rintro _ w1 ⟨rfl, bb⟩
  have Bw1 := Bw.trans (bb.mono Bw.size)
  have sw1 := bb.size
  clear Bw
  clear bb
  clear BG
  go_wp2_with fail
  refine (unhide D1 0 (by omega) _ Bw1).mono ?_
  rintro _ w2 ⟨x0, rfl, x0l, x0u, bb⟩
  have Bw2 := Bw1.trans (bb.mono Bw1.size)
  have sw2 := bb.size
  clear Bw1
  clear bb
  obtain ⟨m0, rm0, m0l, m0u⟩ : ∃ m, x0 % 5 = m ∧ 0 ≤ m ∧ m ≤ 4 := ⟨_, rfl, by omega, by omega⟩
  have ym0 : x0.tmod 5 = m0 := by rw [Int.tmod_eq_emod_of_nonneg x0l]; exact rm0
  have um0 : IntKind.i64.wrap m0 = m0 := by rw [IntKind.wrap_i64]; omega
  obtain ⟨nn, enn⟩ : ∃ k : Nat, 3 + m0 = (k : Int) := ⟨(3 + m0).toNat, by omega⟩
  have vnn : IntKind.i64.wrap (nn : Int) = (nn : Int) := by rw [IntKind.wrap_i64]; omega
  have bnn : 3 ≤ nn ∧ nn ≤ 7 := by omega
  go_wp2_with fail
  refine (unhide D1 1 (by omega) _ Bw2).mono ?_
  rintro _ w3 ⟨x1, rfl, x1l, x1u, bb⟩
  have Bw3 := Bw2.trans (bb.mono Bw2.size)
  have sw3 := bb.size
  clear Bw2
  clear bb
  clear rm0 ym0 um0 enn vnn m0l m0u x0l x0u
  obtain ⟨m1, rm1, m1l, m1u⟩ : ∃ m, x1 % 4 = m ∧ 0 ≤ m ∧ m ≤ 3 := ⟨_, rfl, by omega, by omega⟩
  have ym1 : x1.tmod 4 = m1 := by rw [Int.tmod_eq_emod_of_nonneg x1l]; exact rm1
  have um1 : IntKind.i64.wrap m1 = m1 := by rw [IntKind.wrap_i64]; omega
  obtain ⟨N, eN⟩ : ∃ k : Nat, 4 + m1 = (k : Int) := ⟨(4 + m1).toNat, by omega⟩
  have vN : IntKind.i64.wrap (N : Int) = (N : Int) := by rw [IntKind.wrap_i64]; omega
  have bN : 4 ≤ N ∧ N ≤ 7 := by omega
  go_wp2_with fail
  refine (unhide D1 2 (by omega) _ Bw3).mono ?_
  rintro _ w4 ⟨x2, rfl, x2l, x2u, bb⟩
  have Bw4 := Bw3.trans (bb.mono Bw3.size)
  have sw4 := bb.size
  clear Bw3
  clear bb
  obtain ⟨m2, rm2, m2l, m2u⟩ : ∃ m, x2 % 3 = m ∧ 0 ≤ m ∧ m ≤ 2 := ⟨_, rfl, by omega, by omega⟩
  have ym2 : x2.tmod 3 = m2 := by rw [Int.tmod_eq_emod_of_nonneg x2l]; exact rm2
  have um2 : IntKind.i64.wrap m2 = m2 := by rw [IntKind.wrap_i64]; omega
  obtain ⟨f, ef⟩ : ∃ k : Int, 1 + m2 = k := ⟨_, rfl⟩
  have vf : IntKind.i64.wrap f = f := by rw [IntKind.wrap_i64]; omega
  have bf : 1 ≤ f ∧ f ≤ 3 := by omega
  obtain ⟨w5, hw5⟩ : ∃ x, w4.alloc (.cells #[.int .i64 (N : Int), .int .i64 f] 32) = x := ⟨_, rfl⟩
  have bb : Below w4.heap.size w4 w5 := hw5 ▸ qalloc _ _
  have LC : Loc w5 w4.heap.size #[.int .i64 (N : Int), .int .i64 f] := hw5 ▸ loc_at w4 _ _ rfl
  have zw5 : w5.heap.size = w4.heap.size + 1 := by rw [← hw5]; simp
  have Bw5 := Bw4.trans (bb.mono Bw4.size)
  have sw5 := bb.size
  clear Bw4
  clear bb
  go_wp2_with fail
  clear hw5
  refine (implSafeNew _).mono ?_
  rintro _ w6 ⟨rfl, bb⟩
  have Bw6 := Bw5.trans (bb.mono Bw5.size)
  have sw6 := bb.size
  replace LC := LC.below bb LC.lt
  clear Bw5
  clear bb
  clear rm1 ym1 um1 eN vN m1l m1u x1l x1u rm2 ym2 um2 ef vf m2l m2u x2l x2u
  go_upto_region 6 with fail
  obtain ⟨w7, hw7⟩ : ∃ w9_, (w6.alloc (.cells #[.int .i64 0, .int .i64 0, .int .i64 0, .string ⟨#[]⟩, .slice none 0 0, .string ⟨#[]⟩] 60)) = w9_ := ⟨_, rfl⟩
  have bb : Below w6.heap.size w6 w7 := hw7 ▸ (Below.refl _ _).alloc (Nat.le_refl _) _
  have LS : Loc w7 (w6.heap.size) #[.int .i64 0, .int .i64 0, .int .i64 0, .string ⟨#[]⟩, .slice none 0 0, .string ⟨#[]⟩] := hw7 ▸ loc_at (w6) _ _ rfl
  have zw7 : w6.heap.size + 1 ≤ w7.heap.size := by rw [← hw7]; simp
  rw [hw7]
  clear hw7
  have Bw7 := Bw6.trans (bb.mono Bw6.size)
  have sw7 := bb.size
  replace LC := LC.below bb LC.lt
  clear Bw6
  clear bb
  go_wp2_with fail
  refine (implQcFirst _).mono ?_
  rintro _ w8 ⟨rfl, bb⟩
  have Bw8 := Bw7.trans (bb.mono Bw7.size)
  have sw8 := bb.size
  replace LC := LC.below bb LC.lt
  replace LS := LS.below bb LS.lt
  clear Bw7
  clear bb
  go_upto_region 7 with fail
  obtain ⟨w9, hw9⟩ : ∃ w9_, (w8.alloc (.cells #[.int .i64 0, .string ⟨#[]⟩, .slice none 0 0] 40)) = w9_ := ⟨_, rfl⟩
  have bb : Below w8.heap.size w8 w9 := hw9 ▸ (Below.refl _ _).alloc (Nat.le_refl _) _
  have LQ : Loc w9 (w8.heap.size) #[.int .i64 0, .string ⟨#[]⟩, .slice none 0 0] := hw9 ▸ loc_at (w8) _ _ rfl
  have zw9 : w8.heap.size + 1 ≤ w9.heap.size := by rw [← hw9]; simp
  rw [hw9]
  clear hw9
  have Bw9 := Bw8.trans (bb.mono Bw8.size)
  have sw9 := bb.size
  replace LC := LC.below bb LC.lt
  replace LS := LS.below bb LS.lt
  clear Bw8
  clear bb
  go_wp2_with fail
  refine (unhide D1 3 (by omega) _ Bw9).mono ?_
  rintro _ w10 ⟨x3, rfl, x3l, x3u, bb⟩
  have Bw10 := Bw9.trans (bb.mono Bw9.size)
  have sw10 := bb.size
  replace LC := LC.below bb LC.lt
  replace LS := LS.below bb LS.lt
  replace LQ := LQ.below bb LQ.lt
  clear Bw9
  clear bb
  clear D1
  obtain ⟨a, ra, al, au⟩ : ∃ m, x3 % 7 = m ∧ 0 ≤ m ∧ m ≤ 6 := ⟨_, rfl, by omega, by omega⟩
  have ya : x3.tmod 7 = a := by rw [Int.tmod_eq_emod_of_nonneg x3l]; exact ra
  have ua : IntKind.i64.wrap a = a := by rw [IntKind.wrap_i64]; omega
  obtain ⟨wA, hwA⟩ : ∃ y, w10.alloc (.cells #[] 3) = y := ⟨_, rfl⟩
  have bb : Below w10.heap.size w10 wA := hwA ▸ qalloc _ _
  have oWs : OI wA w10.heap.size (.slice (some ⟨w10.heap.size, 0, none⟩) 0 0) (fromL 0 0) := hwA ▸ World.ownsRow_lit w10 #[] 0 (Nat.le_refl _) (by unfold maxLen; omega) rfl
  have zA : w10.heap.size + 1 ≤ wA.heap.size := by rw [← hwA]; simp
  have BwA := Bw10.trans (bb.mono Bw10.size)
  have swA := bb.size
  replace LC := LC.below bb LC.lt
  replace LS := LS.below bb LS.lt
  replace LQ := LQ.below bb LQ.lt
  clear Bw10
  clear bb
  obtain ⟨bC, hbC⟩ : ∃ b, w4.heap.size = b := ⟨_, rfl⟩
  obtain ⟨bS, hbS⟩ : ∃ b, w6.heap.size = b := ⟨_, rfl⟩
  obtain ⟨bQ, hbQ⟩ : ∃ b, w8.heap.size = b := ⟨_, rfl⟩
  go_wp2
  clear hwA
  clear ra ya ua x3l x3u
  obtain ⟨bw, hbw⟩ : ∃ b, w10.heap.size = b := ⟨_, rfl⟩
  have od : bC < bw ∧ bS < bw ∧ bQ < bw ∧ bC ≠ bS ∧ bC ≠ bQ ∧ bS ≠ bQ ∧ w.heap.size ≤ bC ∧ w.heap.size ≤ bS ∧ w.heap.size ≤ bQ := by omega
  try rw [hbw] at oWs
  try rw [hbw]
  rw [hbC] at LC
  rw [hbS] at LS
  rw [hbQ] at LQ
  try rw [hbC]
  try rw [hbS]
  try rw [hbQ]
  have zA' : bw + 1 ≤ wA.heap.size := by omega
  clear hbC hbS hbQ hbw
  go_loopw [8, 9] (fun u i wr => ∃ k : Nat, i = .int .i64 (k : Int) ∧ k ≤ N ∧ OI wr bw u (fromL 0 k) ∧ (Loc wr bC #[.int .i64 (N : Int), .int .i64 f] ∧ Loc wr bS #[.int .i64 0, .int .i64 0, .int .i64 0, .string ⟨#[]⟩, .slice none 0 0, .string ⟨#[]⟩] ∧ Loc wr bQ #[.int .i64 0, .string ⟨#[]⟩, .slice none 0 0]) ∧ wA.heap.size ≤ wr.heap.size ∧ Below w.heap.size w wr) (fun _ i _ => N - (intOf i).toNat)
  case atStart => exact ⟨0, rfl, Nat.zero_le _, oWs, ⟨LC, LS, LQ⟩, Nat.le_refl _, BwA⟩
  case round =>
    clear oWs LC LS LQ
    obtain ⟨k, rfl, hkn, oW, ⟨LC, LS, LQ⟩, hsz, Br⟩ := hrel
    have toW := World.ownsRow.lt oW
    obtain ⟨aW, kW, rfl⟩ := oW.form
    rw [fromL_len] at oW toW ⊢
    have cLC0 := LC.cell 0 rfl
    have cLC1 := LC.cell 1 rfl
    by_cases hlt : k < N
    · have dlt : decide ((k : Int) < (N : Int)) = true := by simpa using hlt
      obtain ⟨w4, hw4⟩ : ∃ y, wr.alloc (.cells #[.int .i64 (k : Int)] 3) = y := ⟨_, rfl⟩
      have b4 : Below wr.heap.size wr w4 := hw4 ▸ qalloc _ _
      have P4 : PI w4 (.slice (some ⟨wr.heap.size, 0, none⟩) 1 1) [(k : Int)] := hw4 ▸ ⟨_, _, rfl, .inr ⟨_, rfl, cell_one wr _ _⟩⟩
      have HF : fromL 0 k ++ [(k : Int)] = fromL 0 (k + 1) := by rw [fromL_succ]; simp
      have s4 : wr.heap.size + 1 ≤ w4.heap.size := by rw [← hw4]; simp
      have O4 := hide (oW.below b4)
      have HP4 := hide P4
      have L4 := hide (And.intro (LC.below b4 LC.lt) (And.intro (LS.below b4 LS.lt) (LQ.below b4 LQ.lt)))
      have B4 := Br.trans (b4.mono Br.size)
      clear oW LC LS LQ b4 P4
      go_wp2_with (first | (at_builtin; clear hw4; refine append_ints rfl _ _ rfl bw (.slice aW k kW) (.slice (some ⟨wr.heap.size, 0, none⟩) 1 1) (fromL 0 k) [(k : Int)] rfl rfl (unhide O4) (unhide HP4) (by simp [fromL_len]; omega) (by omega) ?_; intro v5 w5 o5 g5 _
                            have L5 := hide (And.intro ((unhide L4).1.grownNew g5 (fun e => by have := toW _ e; omega)) (And.intro ((unhide L4).2.1.grownNew g5 (fun e => by have := toW _ e; omega)) ((unhide L4).2.2.grownNew g5 (fun e => by have := toW _ e; omega))))
                            have B5 := B4.grown g5 B4.size (fun j e => by have := toW _ e; omega)
                            have s5 := g5.size
                            rw [HF] at o5
                            have O5 := hide o5
                            clear O4 HP4 L4 B4 o5 g5))
      go_roundw
      case rel => exact ⟨k + 1, by go_num, by omega, unhide O5, unhide L5, by omega, B5⟩
      case measure => simp [intOf]; omega
    · obtain rfl : N = k := by omega
      have dlt : decide ((N : Int) < (N : Int)) = false := by simp
      obtain ⟨wN, hwN⟩ : ∃ y, wr.alloc (.cells #[] 9) = y := ⟨_, rfl⟩
      have bb : Below wr.heap.size wr wN := hwN ▸ qalloc _ _
      have oNs : OS wN wr.heap.size (.slice (some ⟨wr.heap.size, 0, none⟩) 0 0) (cnames a 2 0) := hwN ▸ World.ownsRow_lit wr #[] 0 (Nat.le_refl _) (by unfold maxLen; omega) rfl
      have zN : wr.heap.size + 1 ≤ wN.heap.size := by rw [← hwN]; simp
      have P : Hid (CInv w a 2 f N bC bS bQ bw wr.heap.size aW kW 0 (.slice (some ⟨wr.heap.size, 0, none⟩) 0 0) (.slice none 0 0) wN) := hide ⟨oNs, LC.below bb LC.lt, LS.below bb LS.lt, LQ.below bb LQ.lt, oW.below bb, World.ownsRow_nil _ _ _ _, fun b hb => by simp [Value.ownBlock] at hb, Br.trans (bb.mono Br.size)⟩
      skip
      go_wp2
      clear hwN
      obtain ⟨bn, hbn⟩ : ∃ b, wr.heap.size = b := ⟨_, rfl⟩
      have toW2 : ∀ j, (Value.slice aW N kW).ownBlock = some j → bw ≤ j ∧ j < bn := fun j hj => by have := toW j hj; omega
      have hb0 : bw < bn := by omega
      have zN' : bn + 1 ≤ wN.heap.size := by omega
      rw [hbn] at P
      try rw [hbn]
      clear oNs LC LS LQ oW bb Br cLC0 cLC1 toW dlt hbn zN hsz hlt hkn
      have ES := hide fun j (hj : j < nn) => chn_step (N := N) (f := f) (a := a) (t := 2) (k := j) bN bf (by omega) al (by push_cast; omega) (by omega)
      have EA := hide fun j (hj : j < nn) => chn_again (N := N) (f := f) (a := a) (t := 2) (k := j) bN bf (by omega) al (by push_cast; omega) (by omega)
      have Z0 := hide fun j (hj : j ≤ nn) => cnm_size (a := a) (t := 2) (k := j) (by omega) al (by push_cast; omega) (by omega)
      have Z1 := hide fun j (hj : j ≤ nn) => cdn_size (a := a) (t := 2) (k := j) (by omega) al (by push_cast; omega) (by omega)
      go_loopw [7, 10, 11] (fun vw nv i wx => ∃ (j : Nat) (su : Value), j ≤ nn ∧ i = .int .i64 (j : Int) ∧ vw = .int .i64 (a + 2 * (j : Int)) ∧ wN.heap.size ≤ wx.heap.size ∧ CInv w a 2 f N bC bS bQ bw bn aW kW j nv su wx) (fun _ _ i _ => nn - (intOf i).toNat)
      case atStart => exact ⟨0, _, Nat.zero_le _, rfl, by simp, Nat.le_refl _, unhide P⟩
      case round =>
        clear P
        obtain ⟨j, su, hj, rfl, rfl, hsz2, ⟨oN, LC, LS, LQ, oW, oS, tS, Bx⟩⟩ := hrel
        have tN := World.ownsRow.lt oN
        obtain ⟨aN, cN, rfl⟩ := oN.form
        obtain ⟨sa, sc, rfl⟩ := oS.form
        obtain ⟨qa, qc, hq, HQ⟩ := qcel_form aW kW N j
        obtain ⟨x, hx⟩ : ∃ x, a + 2 * (j : Int) = x := ⟨_, rfl⟩
        rw [hx]
        have xb : 0 ≤ x ∧ x ≤ 21 := by omega
        by_cases hlt : j < nn
        · have dlt : decide ((j : Int) < (nn : Int)) = true := by simpa using hlt
          obtain ⟨e1, e2, e3, e4, e5, e6, e7, e8⟩ := unhide ES j hlt
          have hy : a + 2 * ((j : Int) + 1) = x + 2 := by omega
          rw [hy] at e1 e2 e3 e5 e6 e7
          have ec1 : cvw a 2 (j + 1) = x + 2 := by unfold cvw; rw [if_neg (by omega)]; push_cast; omega
          obtain ⟨y, hy'⟩ : ∃ y, x + 2 = y := ⟨_, rfl⟩
          rw [hy'] at e1 e2 e3 e5 e6 e7 ec1
          have hwy : IntKind.i64.wrap y = y := by rw [IntKind.wrap_i64]; omega
          have hz0 := unhide Z0 j (by omega)
          have hz1 := unhide Z0 (j + 1) (by omega)
          have hd0 := unhide Z1 j (by omega)
          have BN := hide fun w' (e : Env w') (h : RI w' (.slice qa (cwho N j).length qc) (cwho N j)) => implBlockNew N f (cvw a 2 j) (cnm a 2 j) qa qc (cwho N j) y (.slice none 0 0) [] w' (by simp; omega) (by simp) (by omega) (by omega) (rt_none w') e h
          rw [e1, e2] at BN
          simp only [if_true] at BN
          have SE := hide fun w' (e : Env w') (h : RI w' (.slice sa (cwho N j).length sc) (cwho N j)) (h' : RI w' (.slice aW (fromL 0 N).length kW) (fromL 0 N)) => implSee N f 0 (cvw a 2 (j - 1)) (cvw a 2 j) (cnm a 2 j) sa sc (cwho N j) (cdn a 2 j) y (cnm a 2 (j + 1)) aW kW (fromL 0 N) w' (by omega) (by omega) (by omega) e h h'
          rw [e3, e4, e5, e6, e7, e8] at SE
          rw [fromL_len] at SE
          have HF := cnames_succ a 2 j
          have hnl := cnames_len a 2 j
          have FIN := hide fun nv su wx h1 h2 h3 h4 h5 h6 h7 h8 => CInv.more (w0 := w) (a := a) (t := 2) (f := f) (N := N) (bC := bC) (bS := bS) (bQ := bQ) (bw := bw) (bn := bn) (aW := aW) (kW := kW) (j := j) (nv := nv) (su := su) (wx := wx) h1 h2 h3 h4 h5 h6 h7 h8
          have hcl : (cwho N j).length ≤ 7 := by unfold cwho; split <;> simp [fromL_len] <;> omega
          rw [hq] at LQ
          rw [ec1] at SE FIN
          have HY : Hid (y = a + 2 * ((j : Int) + 1)) := hide (by omega)
          clear e1 e2 e3 e4 e5 e6 e7 e8 hq ec1 hx hy
          generalize cnames a 2 (j + 1) = nk at *
          generalize cnames a 2 j = nj at *
          generalize cvw a 2 (j - 1) = cm at *
          generalize cvw a 2 j = c0 at *
          generalize cnm a 2 (j + 1) = s1 at *
          generalize cnm a 2 j = s0 at *
          generalize cdn a 2 (j + 1) = d1 at *
          generalize cdn a 2 j = d0 at *
          generalize cwho N j = xs at *
          rw [hnl] at tN ⊢
          replace hnl := hide hnl
          replace HF := hide HF
          skip
          have Bwr := Bx
          clear Bx
          have toN := tN
          have toW := toW2
          have toS : ∀ b, (Value.slice sa xs.length sc).ownBlock = some b → bn ≤ b := tS
          clear tN tS
          have cLC0 := LC.cell 0 rfl
          have cLC1 := LC.cell 1 rfl
          have cLQ0 := LQ.cell 0 rfl
          have cLQ1 := LQ.cell 1 rfl
          have cLQ2 := LQ.cell 2 rfl
          go_wp2_with fail
          refine (unhide BN _ (unhide HE _ Bwr) (HQ _ _ oW (by omega))).mono ?_
          rintro _ w21 ⟨uB, rfl, oB, bb⟩
          clear cLC0 cLC1 cLQ0 cLQ1 cLQ2
          have Bw21 := Bwr.trans (bb.mono Bwr.size)
          have sw21 := bb.size
          replace LC := LC.below bb LC.lt
          replace LS := LS.below bb LS.lt
          replace LQ := LQ.below bb LQ.lt
          replace oN := oN.below bb
          replace oW := oW.below bb
          replace oS := oS.below bb
          clear Bwr
          clear bb
          clear BN HQ
          have toB := World.ownsRow.lt oB
          obtain ⟨ub, cb, rfl⟩ := oB.form
          go_upto_region 21 with fail
          obtain ⟨w22, hw22⟩ : ∃ w9_, (w21.alloc (.cells #[.string s1, .int .i64 c0, .string s0, .slice ub xs.length cb] 65)) = w9_ := ⟨_, rfl⟩
          have bb : Below w21.heap.size w21 w22 := hw22 ▸ (Below.refl _ _).alloc (Nat.le_refl _) _
          have LB : Loc w22 (w21.heap.size) #[.string s1, .int .i64 c0, .string s0, .slice ub xs.length cb] := hw22 ▸ loc_at (w21) _ _ rfl
          have zw22 : w21.heap.size + 1 ≤ w22.heap.size := by rw [← hw22]; simp
          rw [hw22]
          clear hw22
          have Bw22 := Bw21.trans (bb.mono Bw21.size)
          have sw22 := bb.size
          replace LC := LC.below bb LC.lt
          replace LS := LS.below bb LS.lt
          replace LQ := LQ.below bb LQ.lt
          replace oN := oN.below bb
          replace oW := oW.below bb
          replace oS := oS.below bb
          replace oB := oB.below bb
          clear Bw21
          clear bb
          have cLB0 := LB.cell 0 rfl
          have cLB1 := LB.cell 1 rfl
          have cLB2 := LB.cell 2 rfl
          have cLB3 := LB.cell 3 rfl
          obtain ⟨w3, hw3⟩ : ∃ y, w22.alloc (.cells #[.string s1] 9) = y := ⟨_, rfl⟩
          have bb : Below w22.heap.size w22 w3 := hw3 ▸ qalloc _ _
          have F3 : ∀ j u, [Value.string s1][j]? = some u → w3.cell? ((⟨w22.heap.size, 0, none⟩ : Addr).add j) = some u := by rw [← hw3]; exact one_cell _ _ _
          have s3 : w22.heap.size + 1 ≤ w3.heap.size := by rw [← hw3]; simp
          have Bw3 := Bw22.trans (bb.mono Bw22.size)
          have sw3 := bb.size
          replace LC := LC.below bb LC.lt
          replace LS := LS.below bb LS.lt
          replace LQ := LQ.below bb LQ.lt
          replace LB := LB.below bb LB.lt
          replace oN := oN.below bb
          replace oW := oW.below bb
          replace oS := oS.below bb
          replace oB := oB.below bb
          clear Bw22
          clear bb
          replace oN : OS w3 bn (.slice aN j cN) nj := by have := oN; rwa [unhide hnl] at this
          have nS := hide (fun b => os_oi oN oS b)
          have nW := hide (fun b => os_oi oN oW b)
          have nB := hide (fun b => os_oi oN oB b)
          have ON3 := hide (show w3.ownsRow bn 9 1 (.slice aN j cN) j (nj.map Value.string) from by have := oN; unfold OS at this; rwa [unhide hnl] at this)
          have PK := hide (And.intro oN (And.intro LC (And.intro LS (And.intro LQ (And.intro oW (And.intro oS (And.intro oB LB)))))))
          clear oN LC LS LQ oW oS oB LB
          go_upto_region 22 with (first | (at_builtin; clear hw3; refine wpList_append_own _ rfl _ _ 85 rfl bn 9 i0 (.string ⟨#[]⟩) 1 16 Tryz.underlying85 hi hz0' hz1' hz2' rfl (by decide) _ _ _ rfl (unhide ON3) ⟨w22.heap.size, 0, none⟩ 1 1 [.string s1] rfl rfl F3 (one_text _) (by unfold maxLen; omega) (by omega) (by omega) ?_; intro nv' w4 ho' hg' _))
          obtain ⟨oN, LC, LS, LQ, oW, oS, oB, LB⟩ := unhide PK
          clear PK ON3 cLB0 cLB1 cLB2 cLB3
          have hg2 : w3.grownBy w4 (Value.slice aN j cN).ownBlock := hg'
          have k4 := kp_grown hg2
          have N4 : OS w4 bn nv' nk := by unfold OS; rw [← unhide HF, List.length_append, List.map_append, unhide hnl]; exact ho'
          replace LC := LC.kp k4 (fun e => by have := toN _ e; omega)
          replace LS := LS.kp k4 (fun e => by have := toN _ e; omega)
          replace LQ := LQ.kp k4 (fun e => by have := toN _ e; omega)
          replace LB := LB.kp k4 (fun e => by have := toN _ e; omega)
          replace oW := oW.kp k4 (fun b hb e => unhide nW b e hb)
          replace oS := oS.kp k4 (fun b hb e => unhide nS b e hb)
          have Bw4 := Below.kp Bw3 k4 Bw3.size (fun b e => by have := toN _ e; omega)
          have s4 := k4.size
          clear k4 hg2 hg' ho' oN nS nW nB oB Bw3 F3 toN
          have oN := N4
          clear N4
          have toN := World.ownsRow.lt oN
          obtain ⟨aM, cM, rfl⟩ := oN.form
          have cLQ0 := LQ.cell 0 rfl
          have cLQ1 := LQ.cell 1 rfl
          have cLQ2 := LQ.cell 2 rfl
          have cLB0 := LB.cell 0 rfl
          have cLB1 := LB.cell 1 rfl
          have cLB2 := LB.cell 2 rfl
          have cLB3 := LB.cell 3 rfl
          have fLQ := LQ.frozen
          go_upto_region 23 with fail
          clear cLQ0 cLQ1 cLQ2 cLB0 cLB1 cLB2 cLB3
          clear fLQ
          obtain ⟨w23, hw23⟩ : ∃ w9_, (((w4.setCell ⟨bQ, 0, none⟩ (.int .i64 y)).setCell ⟨bQ, 1, none⟩ (.string s1)).setCell ⟨bQ, 2, none⟩ (.slice aW N kW)) = w9_ := ⟨_, rfl⟩
          have kN : Kp w4 w23 (fun k => k = bQ) := hw23 ▸ ((set_kp _ _ _ _).trans (set_kp _ _ _ _)).trans (set_kp _ _ _ _)
          replace LQ : Loc w23 (bQ) #[.int .i64 y, .string s1, .slice aW N kW] := hw23 ▸ (((LQ.set 0 _ rfl).set 1 _ rfl).set 2 _ rfl)
          replace LC := LC.kp kN (by omega)
          replace LS := LS.kp kN (by omega)
          replace LB := LB.kp kN (by omega)
          replace oN := oN.kp kN (fun j hj e => by have := toN j hj; omega)
          replace oW := oW.kp kN (fun j hj e => by have := toW j hj; omega)
          replace oS := oS.kp kN (fun j hj e => by have := toS j hj; omega)
          have Bw23 := Below.kp Bw4 kN Bw4.size (fun k hk => by omega)
          have sw23 := kN.size
          rw [hw23]
          clear hw23 kN Bw4
          clear LB
          have cLC0 := LC.cell 0 rfl
          have cLC1 := LC.cell 1 rfl
          have cLS0 := LS.cell 0 rfl
          have cLS1 := LS.cell 1 rfl
          have cLS2 := LS.cell 2 rfl
          have cLS3 := LS.cell 3 rfl
          have cLS4 := LS.cell 4 rfl
          have cLS5 := LS.cell 5 rfl
          have cLQ0 := LQ.cell 0 rfl
          have cLQ1 := LQ.cell 1 rfl
          have cLQ2 := LQ.cell 2 rfl
          go_wp2_with fail
          refine (unhide SE _ (unhide HE _ Bw23) (oS.ri (by omega)) (oW_ri oW (by omega))).mono ?_
          rintro _ w24 ⟨uS, rfl, oU, bb⟩
          clear cLC0 cLC1 cLS0 cLS1 cLS2 cLS3 cLS4 cLS5 cLQ0 cLQ1 cLQ2
          have Bw24 := Bw23.trans (bb.mono Bw23.size)
          have sw24 := bb.size
          replace LC := LC.below bb LC.lt
          replace LS := LS.below bb LS.lt
          replace LQ := LQ.below bb LQ.lt
          replace oN := oN.below bb
          replace oW := oW.below bb
          replace oS := oS.below bb
          clear Bw23
          clear bb
          clear SE oS toS
          have toU := World.ownsRow.lt oU
          obtain ⟨va, vc, rfl⟩ := oU.form
          have cLS0 := LS.cell 0 rfl
          have cLS1 := LS.cell 1 rfl
          have cLS2 := LS.cell 2 rfl
          have cLS3 := LS.cell 3 rfl
          have cLS4 := LS.cell 4 rfl
          have cLS5 := LS.cell 5 rfl
          have fLS := LS.frozen
          go_upto_region 16 with fail
          clear cLS0 cLS1 cLS2 cLS3 cLS4 cLS5
          clear fLS
          obtain ⟨w25, hw25⟩ : ∃ w9_, ((((((w24.setCell ⟨bS, 0, none⟩ (.int .i64 0)).setCell ⟨bS, 1, none⟩ (.int .i64 c0)).setCell ⟨bS, 2, none⟩ (.int .i64 y)).setCell ⟨bS, 3, none⟩ (.string s1)).setCell ⟨bS, 4, none⟩ (.slice va (fromL 0 N).length vc)).setCell ⟨bS, 5, none⟩ (.string d1)) = w9_ := ⟨_, rfl⟩
          have kN : Kp w24 w25 (fun k => k = bS) := hw25 ▸ (((((set_kp _ _ _ _).trans (set_kp _ _ _ _)).trans (set_kp _ _ _ _)).trans (set_kp _ _ _ _)).trans (set_kp _ _ _ _)).trans (set_kp _ _ _ _)
          replace LS : Loc w25 (bS) #[.int .i64 0, .int .i64 c0, .int .i64 y, .string s1, .slice va (fromL 0 N).length vc, .string d1] := hw25 ▸ ((((((LS.set 0 _ rfl).set 1 _ rfl).set 2 _ rfl).set 3 _ rfl).set 4 _ rfl).set 5 _ rfl)
          replace LC := LC.kp kN (by omega)
          replace LQ := LQ.kp kN (by omega)
          replace oN := oN.kp kN (fun j hj e => by have := toN j hj; omega)
          replace oW := oW.kp kN (fun j hj e => by have := toW j hj; omega)
          replace oU := oU.kp kN (fun j hj e => by have := toU j hj; omega)
          have Bw25 := Below.kp Bw24 kN Bw24.size (fun k hk => by omega)
          have sw25 := kN.size
          rw [hw25]
          clear hw25 kN Bw24
          have tU : ∀ b, (Value.slice va (fromL 0 N).length vc).ownBlock = some b → bn ≤ b := fun b hb => by have := toU b hb; omega
          have PF := hide (unhide FIN _ _ _ oN LC LS LQ oW (oU.mono (by omega)) tU Bw25)
          clear oN LC LS LQ oW oU
          go_wp2
          go_roundw
          case rel => exact ⟨j + 1, _, by omega, by go_num, by rw [unhide HY]; push_cast; rfl, by omega, unhide PF⟩
          case measure => simp [intOf]; omega
        · obtain rfl : nn = j := by omega
          have dlt : decide ((nn : Int) < (nn : Int)) = false := by simp
          obtain ⟨i, rfl⟩ : ∃ i, nn = i + 1 := ⟨nn - 1, by omega⟩
          obtain ⟨e1, e2, e3, e4, e5, e6⟩ := unhide EA i (by omega)
          have hz0 := unhide Z0 (i + 1) (by omega)
          have hd0 := unhide Z1 (i + 1) (by omega)
          have hw : cwho N (i + 1) = fromL 0 N := rfl
          rw [hw] at oS LS
          have hq2 : qcel aW kW N (i + 1) = .slice aW N kW := rfl
          rw [hq2] at LQ
          rw [show i + 1 - 1 = i from rfl] at LS
          have ec1 : cvw a 2 (i + 1) = x := by unfold cvw; rw [if_neg (by omega)]; omega
          have ec0 : cvw a 2 i = x - 2 := by unfold cvw; rw [if_neg (by omega)]; push_cast at hx; omega
          have SE := hide fun w' (h : RI w' (.slice sa (fromL 0 N).length sc) (fromL 0 N)) (h' : RI w' (.slice aW (fromL 0 N).length kW) (fromL 0 N)) => specSee N f 0 (cvw a 2 i) (cvw a 2 (i + 1)) (cnm a 2 (i + 1)) sa sc (fromL 0 N) (cdn a 2 (i + 1)) (cvw a 2 (i + 1)) (cnm a 2 (i + 1)) aW kW (fromL 0 N) w' (by omega) (by omega) (by omega) h h'
          rw [e1, e2, e3, e4, e5, e6] at SE
          rw [fromL_len] at SE
          skip
          have SS : Hid (∀ a' k' w', RI w' (.slice sa (fromL 0 N).length sc) (fromL 0 N) → RI w' (.slice a' (fromL 0 N).length k') (fromL 0 N) → Calls Tryz.prog 50 #[sv 0 (cvw a 2 i) (cvw a 2 (i + 1)) (cnm a 2 (i + 1)) (.slice sa (fromL 0 N).length sc) (cdn a 2 (i + 1)), sv 0 (cvw a 2 i) (cvw a 2 (i + 1)) (cnm a 2 (i + 1)) (.slice a' (fromL 0 N).length k') (cdn a 2 (i + 1))] w' fun e w'' => e = .returned (.bool true) ∧ Below w'.heap.size w' w'') := hide fun a' k' w' h h' => by have := implSafeSame 0 (cvw a 2 i) (cvw a 2 (i + 1)) (cnm a 2 (i + 1)) sa sc (fromL 0 N) (cdn a 2 (i + 1)) 0 (cvw a 2 i) (cvw a 2 (i + 1)) (cnm a 2 (i + 1)) a' k' (fromL 0 N) (cdn a 2 (i + 1)) w' h h'; rwa [ssam_me] at this
          have hdn : (cdn a 2 (i + 1)).toList = [] := by unfold cdn; rw [if_neg (by omega), ByteArray.toList_eq]
          have eN := cnames_len a 2 (i + 1)
          rw [ec1, ec0] at SE SS LS
          rw [ec1] at LQ
          rw [fromL_len] at SS LS
          clear e1 e2 e3 e4 e5 e6 ec1 ec0 hx hw hq2 HQ hq ES EA Z0 Z1
          skip
          generalize cnm a 2 (i + 1) = s0 at *
          generalize cdn a 2 (i + 1) = d0 at *
          have Bwr := Bx
          clear Bx
          have RS : Hid (RI wr (.slice sa N sc) (fromL 0 N)) := hide (by have := oS.ri (by rw [fromL_len]; omega); rwa [fromL_len] at this)
          have RW := hide (oW_ri oW (by omega))
          clear oS oW oN
          have cLC0 := LC.cell 0 rfl
          have cLC1 := LC.cell 1 rfl
          have cLS0 := LS.cell 0 rfl
          have cLS1 := LS.cell 1 rfl
          have cLS2 := LS.cell 2 rfl
          have cLS3 := LS.cell 3 rfl
          have cLS4 := LS.cell 4 rfl
          have cLS5 := LS.cell 5 rfl
          have cLQ0 := LQ.cell 0 rfl
          have cLQ1 := LQ.cell 1 rfl
          have cLQ2 := LQ.cell 2 rfl
          go_wp2_with fail
          refine (unhide SE _ (unhide RS) (unhide RW)).mono ?_
          rintro _ w41 ⟨uT, rfl, oT, bb⟩
          clear cLC0 cLC1 cLS0 cLS1 cLS2 cLS3 cLS4 cLS5 cLQ0 cLQ1 cLQ2
          have Bw41 := Bwr.trans (bb.mono Bwr.size)
          have sw41 := bb.size
          replace LC := LC.below bb LC.lt
          replace LS := LS.below bb LS.lt
          replace LQ := LQ.below bb LQ.lt
          clear Bwr
          replace RS := hide ((unhide RS).below bb (Nat.le_refl _))
          replace RW := hide ((unhide RW).below bb (Nat.le_refl _))
          clear bb
          clear SE
          have toT := World.ownsRow.lt oT
          obtain ⟨ta, tc, rfl⟩ := oT.form
          rw [fromL_len] at toT ⊢
          have RT' : Hid (RI w41 (.slice ta N tc) (fromL 0 N)) := hide (by have := oT.ri (by rw [fromL_len]; omega); rwa [fromL_len] at this)
          clear oT toT
          go_upto_region 25 with fail
          obtain ⟨w42, hw42⟩ : ∃ w9_, (w41.alloc (.cells #[.int .i64 0, .int .i64 (x - 2), .int .i64 x, .string s0, .slice ta N tc, .string d0] 60)) = w9_ := ⟨_, rfl⟩
          have bb : Below w41.heap.size w41 w42 := hw42 ▸ (Below.refl _ _).alloc (Nat.le_refl _) _
          have LT : Loc w42 (w41.heap.size) #[.int .i64 0, .int .i64 (x - 2), .int .i64 x, .string s0, .slice ta N tc, .string d0] := hw42 ▸ loc_at (w41) _ _ rfl
          have zw42 : w41.heap.size + 1 ≤ w42.heap.size := by rw [← hw42]; simp
          rw [hw42]
          clear hw42
          have Bw42 := Bw41.trans (bb.mono Bw41.size)
          have sw42 := bb.size
          replace LC := LC.below bb LC.lt
          replace LS := LS.below bb LS.lt
          replace LQ := LQ.below bb LQ.lt
          clear Bw41
          replace RS := hide ((unhide RS).below bb (Nat.le_refl _))
          replace RW := hide ((unhide RW).below bb (Nat.le_refl _))
          replace RT' := hide ((unhide RT').below bb (Nat.le_refl _))
          clear bb
          have cLS0 := LS.cell 0 rfl
          have cLS1 := LS.cell 1 rfl
          have cLS2 := LS.cell 2 rfl
          have cLS3 := LS.cell 3 rfl
          have cLS4 := LS.cell 4 rfl
          have cLS5 := LS.cell 5 rfl
          have cLT0 := LT.cell 0 rfl
          have cLT1 := LT.cell 1 rfl
          have cLT2 := LT.cell 2 rfl
          have cLT3 := LT.cell 3 rfl
          have cLT4 := LT.cell 4 rfl
          have cLT5 := LT.cell 5 rfl
          go_wp2_with fail
          refine (unhide SS _ _ _ (unhide RS) (unhide RT')).mono ?_
          rintro _ w43 ⟨rfl, bb⟩
          clear cLS0 cLS1 cLS2 cLS3 cLS4 cLS5 cLT0 cLT1 cLT2 cLT3 cLT4 cLT5
          have Bw43 := Bw42.trans (bb.mono Bw42.size)
          have sw43 := bb.size
          replace LC := LC.below bb LC.lt
          replace LS := LS.below bb LS.lt
          replace LQ := LQ.below bb LQ.lt
          replace LT := LT.below bb LT.lt
          clear Bw42
          replace RS := hide ((unhide RS).below bb (Nat.le_refl _))
          replace RW := hide ((unhide RW).below bb (Nat.le_refl _))
          replace RT' := hide ((unhide RT').below bb (Nat.le_refl _))
          clear bb
          clear SS
          have wx1 : IntKind.i64.wrap (x - 2) = x - 2 := by rw [IntKind.wrap_i64]; omega
          have hd1 : (d0.toList == []) = true := by rw [hdn]; rfl
          clear hdn
          skip
          have cLS0 := LS.cell 0 rfl
          have cLS1 := LS.cell 1 rfl
          have cLS2 := LS.cell 2 rfl
          have cLS3 := LS.cell 3 rfl
          have cLS4 := LS.cell 4 rfl
          have cLS5 := LS.cell 5 rfl
          go_wp2
          go_ret
          exact ⟨by simp, Bw43⟩

set_option maxHeartbeats 16000000 in
set_option maxRecDepth 100000 in
theorem fnGaps_long (ao : Option Addr) (n ca : Nat) (w : World) (h : 1048576 < n) (hm : n ≤ maxLen) :
    Calls Tryz.prog 8 #[.slice ao n ca] w fun e w' => e = .returned (.bool true) ∧ Below w.heap.size w w' := by
  have BG := hide fun w => big_any ao n ca w (by unfold maxLen at hm; omega)
  rw [decide_eq_true h] at BG
  go_enter Tryz.func8, Tryz.ntmps8
  go_wp2_with fail
  refine (unhide BG _).mono ?_
  rintro _ w1 ⟨rfl, b1⟩
  go_wp2
  go_ret
  exact ⟨rfl, b1⟩
theorem fnGaps_walk (ao : Option Addr) (ca : Nat) (zs : List Int) (w : World) (hm : zs.length ≤ maxLen) (hx : zs = [] ∨ ∃ b off, ao = some ⟨b, off, none⟩ ∧ ∀ k, k < zs.length → w.cell? ⟨b, off + k, none⟩ = some (.int .u8 (zs.getD k 0))) (hb : ∀ k, k < zs.length → 0 ≤ zs.getD k 0 ∧ zs.getD k 0 ≤ 255) (hE : Env w) :
    Calls Tryz.prog 8 #[.slice ao zs.length ca] w fun e w' => e = .returned (.bool true) ∧ Below w.heap.size w w' := by
  by_cases h : zs.length ≤ 1048576
  · exact fnGaps_short ao ca zs w ⟨h, hx, hb⟩ hE
  · exact fnGaps_long ao zs.length ca w (by omega) hm
end Go.Proofs.YtgfboghieejbkaaGreatDoor
