/- The walk of laws.FnNames. -/
import Derived.Test.YtiaafigpgnimeaaGreatDoorBunG
import Derived.Test.YtiaafigpgnimeaaGreatDoorBunI
import Derived.Test.YtiaafigpgnimeaaGreatDoorBunH
import Derived.Test.YtiaafigpgnimeaaGreatDoorBunJ
import Derived.Deep.RegionWith
import Derived.Deep.RegionHeld3
import Derived.Deep.DeepCutAuto
/- The walk of laws.FnNames. -/
namespace Go.Proofs.YtiaafigpgnimeaaGreatDoor
open Go.RowKit
set_option linter.unusedSectionVars false
variable [∀ (a b c d : Int), Decidable (Ok4 a b c d)]
variable [∀ (a b c d : Nat), Decidable (okN a b c d)]
variable [∀ (x : T4), Decidable (OkT x)]
variable [∀ (last : Int) (s : St), Decidable (GoodSt last s)]
variable [∀ (ts : List T4), Decidable (AllOk ts)]

theorem big_no5 (ao : Option Addr) (n ca : Nat) (w : World) (h : n ≤ 1048576) :
    Calls Tryz.prog 4 #[.slice ao n ca] w fun e w' => e = .returned (.bool false) ∧ w' = w := by
  have hd : decide ((1048576 : Int) < (n : Int)) = false := by simp; omega
  go_enter Tryz.func4, Tryz.ntmps4
  go_wp2
  go_ret
  exact ⟨rfl, rfl⟩
theorem big_yes5 (ao : Option Addr) (n ca : Nat) (w : World) (h : 1048576 < n) :
    Calls Tryz.prog 4 #[.slice ao n ca] w fun e w' => e = .returned (.bool true) ∧ w' = w := by
  have hd : decide ((1048576 : Int) < (n : Int)) = true := by simp; omega
  go_enter Tryz.func4, Tryz.ntmps4
  go_wp2
  go_ret
  exact ⟨rfl, rfl⟩

set_option maxHeartbeats 800000 in
set_option maxRecDepth 100000 in
theorem fnNames_big (ao : Option Addr) (n ca : Nat) (w : World) (h : 1048576 < n) :
    Calls Tryz.prog 3 #[.slice ao n ca] w fun e w' => e = .returned (.bool true) ∧ Below w.heap.size w w' := by
  have BG := hide fun w => big_yes5 ao n ca w h
  go_enter Tryz.func3, Tryz.ntmps3
  go_wp2_with fail
  refine (unhide BG _).mono ?_
  rintro e w1 ⟨rfl, rfl⟩
  go_wp2
  go_ret
  exact ⟨rfl, Below.refl _ _⟩
theorem up_len (s : ByteArray) : (upAns s).size ≤ 1920 := by
  cases h : stepsAns s with
  | none => unfold upAns; rw [h]; exact Nat.zero_le _
  | some ss => exact name_len (by rw [up_steps h]; rfl)
theorem txsIn_len5 (s : ByteArray) : (txsInAns s).length ≤ 60 := by
  unfold txsInAns
  have hl : ((stepsAns s).getD []).length ≤ 30 ∧ ∀ x ∈ (stepsAns s).getD [], x.2.length ≤ 2 := by
    cases h : stepsAns s with
    | none => simp
    | some ss => exact ⟨((names_iff _ _).1 h).2.1, fun x hx => (((names_iff _ _).1 h).2.2.1 x hx).2.1⟩
  have := flat_len _ hl.2
  omega
/-- What is read of a name's list: its steps are those that the name tells. -/
theorem part_len {s : ByteArray} {ss : List St} (h : stepsAns s = some ss) (k : Nat) : (toB (nm (ss.take k))).size ≤ 1920 := by
  obtain ⟨_, h2⟩ := (names_iff _ _).1 h
  have h3 : OkSts (ss.take k ++ ss.drop k) := by rw [List.take_append_drop]; exact h2
  exact name_len (by rw [names_nm h3.pre]; rfl)

set_option maxHeartbeats 32000000 in
set_option maxRecDepth 100000 in
theorem fnNames_small (ao : Option Addr) (ca : Nat) (xs : List Int) (w : World) (h : DCode w ao xs) (hE : Env w) :
    Calls Tryz.prog 3 #[.slice ao xs.length ca] w fun e w' => e = .returned (.bool true) ∧ Below w.heap.size w w' := by
  have BG := hide fun w => big_no5 ao xs.length ca w h.len
  have D1 := hide fun w h => drawSteps ao ca xs w h
  have D2 := hide fun w h => drawExtends ao ca xs w h
  have D3 := hide fun w h => drawMeets ao ca xs w h
  have D4 := hide fun w h => drawNameOf ao ca xs w h
  have HC := hide h
  have HE := hide hE
  have Bw : Below w.heap.size w w := Below.refl _ _
  clear h hE
  generalize xs.length = nn at *
  go_enter Tryz.func3, Tryz.ntmps3
  go_wp2_with fail
  refine (unhide BG _).mono ?_
  rintro _ w0 ⟨rfl, e0⟩
  subst e0
  clear BG
  go_wp2_with fail
  refine (unhide D1 _ ((unhide HC).below Bw (Nat.le_refl _))).mono ?_
  rintro _ w1 ⟨s, rfl, hs, bb⟩
  have Bw1 := Bw.trans (bb.mono Bw.size)
  clear bb Bw
  clear D1
  have IS := hide fun w hE => implSteps s w (by omega) hE
  have SS := hide fun w => specSteps s w (by omega)
  have INO := hide fun w hE => implNameOk s w (by omega) hE
  have IH := hide fun w hE => implHeight s w (by omega) hE
  have SH := hide fun w => specHeight s w (by omega)
  have IU := hide fun w hE => implUpOf s w (by omega) hE
  have SU := hide fun w => specUpOf s w (by omega)
  have IV := hide fun w hE => implViewOf s w (by omega) hE
  have SV := hide fun w => specViewOf s w (by omega)
  have IT := hide fun w hE => implTxsIn s w (by omega) hE
  have STI := hide fun w => specTxsIn s w (by omega)
  have IEU := hide fun w hE => implExtends s (upAns s) w (by omega) (by have := up_len s; omega) hE
  have hti := txsIn_len5 s
  have HUP : Hid ((stepsAns s).isSome = true → extB s (upAns s) = true) := hide fun h => (extB_iff _ _).2 (ext_up h)
  have HNO : Hid (stepsAns s = none → heightAns s = -1) := hide fun h => by unfold heightAns; rw [h]
  generalize heightAns s = H at *
  generalize hU : upAns s = U at *
  generalize viewAns s = V at *
  generalize txsInAns s = ti at *
  generalize extB s U = eU at *
  clear hU
  go_wp2_with fail
  refine (unhide IS _ ((unhide HE).below Bw1)).mono ?_
  rintro _ w2 ⟨v0, rfl, ⟨vs0, o0⟩, bb⟩
  have OS := hide o0
  obtain ⟨la, lc, rfl⟩ := OSt.form ⟨vs0, o0⟩
  clear o0 IS
  have Bw2 := Bw1.trans (bb.mono Bw1.size)
  clear bb Bw1
  go_wp2_with fail
  refine (unhide SS _).mono ?_
  rintro _ w3 ⟨v1, rfl, o1, bb⟩
  have Bw3 := Bw2.trans (bb.mono Bw2.size)
  replace OS := hide ((unhide OS).below bb)
  clear bb Bw2
  obtain ⟨ma, mc, rfl⟩ := o1.form
  clear o1 SS
  go_wp2_with fail
  refine (unhide D2 _ ((unhide HC).below Bw3 (Nat.le_refl _))).mono ?_
  rintro _ w4 ⟨a, b, rfl, ha, hb, bb⟩
  have Bw4 := Bw3.trans (bb.mono Bw3.size)
  replace OS := hide ((unhide OS).below bb)
  clear bb Bw3
  go_wp2_with fail
  refine (unhide D3 _ ((unhide HC).below Bw4 (Nat.le_refl _))).mono ?_
  rintro _ w5 ⟨x, y, rfl, hx, hy, bb⟩
  have Bw5 := Bw4.trans (bb.mono Bw4.size)
  replace OS := hide ((unhide OS).below bb)
  clear bb Bw4
  go_wp2_with fail
  refine (unhide D4 _ ((unhide HC).below Bw5 (Nat.le_refl _))).mono ?_
  rintro _ w6 ⟨up, view, tv, ts, rfl, hup, hview, hts, rt, bb⟩
  have RTH := hide rt
  obtain ⟨-, ta, tc, rfl, -⟩ := rt
  clear D2 D3 D4 HC
  have Bw6 := Bw5.trans (bb.mono Bw5.size)
  replace OS := hide ((unhide OS).below bb)
  clear bb Bw5
  have IN := hide fun w h hE => implNameOf up view (.slice ta ts.length tc) ts w (by omega) (by omega) (by omega) (by omega) h hE
  have SN := hide fun w h => specNameOf up view (.slice ta ts.length tc) ts w (by omega) (by omega) (by omega) h
  have hnl := nameAns_len up view ts
  have HNU : Hid (nameAns up view ts ≠ ⟨#[]⟩ → upAns (nameAns up view ts) = up ∧ viewAns (nameAns up view ts) = view ∧ heightAns (nameAns up view ts) = heightAns up + 1 ∧ extB (nameAns up view ts) up = true) := hide fun h => by
    obtain ⟨h1, h2, h3, h4⟩ := name_up h
    exact ⟨h1, h2, h3, (extB_iff _ _).2 h4⟩
  have hhu := (height_view (s := up)).2.1
  have hhu0 : -1 ≤ heightAns up := by unfold heightAns; split <;> omega
  generalize nameAns up view ts = nm1 at *
  go_wp2_with fail
  refine (unhide IN _ (unhide RTH) ((unhide HE).below Bw6)).mono ?_
  rintro _ w7 ⟨rfl, bb⟩
  have Bw7 := Bw6.trans (bb.mono Bw6.size)
  replace OS := hide ((unhide OS).below bb)
  replace RTH := hide ((unhide RTH).below bb)
  clear bb Bw6
  clear IN
  have IEab := hide fun w hE => implExtends a b w (by omega) (by omega) hE
  have SEab := hide fun w => specExtends a b w (by omega) (by omega)
  have IMxy := hide fun w hE => implMeets x y w (by omega) (by omega) hE
  have SMxy := hide fun w => specMeets x y w (by omega) (by omega)
  have IMyx := hide fun w hE => implMeets y x w (by omega) (by omega) hE
  have HXY : (extB y x || extB x y) = (extB x y || extB y x) := Bool.or_comm _ _
  rw [HXY] at IMyx
  have HAB : Hid (extB a b = true → heightAns b ≤ heightAns a ∧ viewAns b ≤ viewAns a) := hide fun h => ext_views ((extB_iff _ _).1 h)
  have IHa := hide fun w hE => implHeight a w (by omega) hE
  have IHb := hide fun w hE => implHeight b w (by omega) hE
  have IVa := hide fun w hE => implViewOf a w (by omega) hE
  have IVb := hide fun w hE => implViewOf b w (by omega) hE
  generalize (extB x y || extB y x) = mxy at *
  generalize extB a b = eab at *
  generalize heightAns a = Ha at *
  generalize heightAns b = Hb at *
  generalize viewAns a = Va at *
  generalize viewAns b = Vb at *
  clear HXY
  obtain ⟨A, hA⟩ : ∃ A, stepsAns s = A := ⟨_, rfl⟩
  have HAS := hide hA
  rw [hA] at INO HUP HNO OS ⊢
  clear hA
  obtain ⟨ok, hok⟩ : ∃ ok, A.isSome = ok := ⟨_, rfl⟩
  rw [hok] at INO HUP ⊢
  have HOK := hide hok
  clear hok
  have q1 : (ok != ok) = false := by simp
  have q2 : (eab != eab) = false := by simp
  have q3 : (mxy != mxy) = false := by simp
  go_upto_region 10 with fail
  go_cut [123] (fun c wx => c = .bool false ∧ Below w7.heap.size w7 wx)
  case first =>
    as_aux_lemma =>
      have bz : Below w7.heap.size w7 w7 := Below.refl _ _
      go_wp2_with fail
      refine (unhide INO _ ((unhide HE).below Bw7)).mono ?_
      rintro _ w8 ⟨rfl, bb⟩
      have Bw8 := Bw7.trans (bb.mono Bw7.size)
      replace bz := bz.trans (bb.mono bz.size)
      replace RTH := hide ((unhide RTH).below bb)
      clear bb Bw7
      go_wp2_with fail
      refine (unhide IEab _ ((unhide HE).below Bw8)).mono ?_
      rintro _ w9 ⟨rfl, bb⟩
      have Bw9 := Bw8.trans (bb.mono Bw8.size)
      replace bz := bz.trans (bb.mono bz.size)
      replace RTH := hide ((unhide RTH).below bb)
      clear bb Bw8
      go_wp2_with fail
      refine (unhide SEab _).mono ?_
      rintro _ w10 ⟨rfl, bb⟩
      have Bw10 := Bw9.trans (bb.mono Bw9.size)
      replace bz := bz.trans (bb.mono bz.size)
      replace RTH := hide ((unhide RTH).below bb)
      clear bb Bw9
      go_wp2_with fail
      refine (unhide IMxy _ ((unhide HE).below Bw10)).mono ?_
      rintro _ w11 ⟨rfl, bb⟩
      have Bw11 := Bw10.trans (bb.mono Bw10.size)
      replace bz := bz.trans (bb.mono bz.size)
      replace RTH := hide ((unhide RTH).below bb)
      clear bb Bw10
      go_wp2_with fail
      refine (unhide SMxy _).mono ?_
      rintro _ w12 ⟨rfl, bb⟩
      have Bw12 := Bw11.trans (bb.mono Bw11.size)
      replace bz := bz.trans (bb.mono bz.size)
      replace RTH := hide ((unhide RTH).below bb)
      clear bb Bw11
      go_wp2_with fail
      refine (unhide SN _ (unhide RTH)).mono ?_
      rintro _ w13 ⟨rfl, bb⟩
      have Bw13 := Bw12.trans (bb.mono Bw12.size)
      replace bz := bz.trans (bb.mono bz.size)
      replace RTH := hide ((unhide RTH).below bb)
      clear bb Bw12
      clear SN RTH
      go_wp2_with fail
      refine (unhide IH _ ((unhide HE).below Bw13)).mono ?_
      rintro _ w14 ⟨rfl, bb⟩
      have Bw14 := Bw13.trans (bb.mono Bw13.size)
      replace bz := bz.trans (bb.mono bz.size)
      clear bb Bw13
      go_wp2_with fail
      refine (unhide SH _).mono ?_
      rintro _ w15 ⟨rfl, bb⟩
      have Bw15 := Bw14.trans (bb.mono Bw14.size)
      replace bz := bz.trans (bb.mono bz.size)
      clear bb Bw14
      go_wp2_with fail
      refine (unhide IU _ ((unhide HE).below Bw15)).mono ?_
      rintro _ w16 ⟨rfl, bb⟩
      have Bw16 := Bw15.trans (bb.mono Bw15.size)
      replace bz := bz.trans (bb.mono bz.size)
      clear bb Bw15
      go_wp2_with fail
      refine (unhide SU _).mono ?_
      rintro _ w17 ⟨rfl, bb⟩
      have Bw17 := Bw16.trans (bb.mono Bw16.size)
      replace bz := bz.trans (bb.mono bz.size)
      clear bb Bw16
      go_wp2_with fail
      refine (unhide IV _ ((unhide HE).below Bw17)).mono ?_
      rintro _ w18 ⟨rfl, bb⟩
      have Bw18 := Bw17.trans (bb.mono Bw17.size)
      replace bz := bz.trans (bb.mono bz.size)
      clear bb Bw17
      go_wp2_with fail
      refine (unhide SV _).mono ?_
      rintro _ w19 ⟨rfl, bb⟩
      have Bw19 := Bw18.trans (bb.mono Bw18.size)
      replace bz := bz.trans (bb.mono bz.size)
      clear bb Bw18
      go_wp2_with fail
      refine (unhide IT _ ((unhide HE).below Bw19)).mono ?_
      rintro _ w20 ⟨vt, rfl, ot, bb⟩
      have rt := ot.rt (by omega)
      obtain ⟨fa, fc, hf⟩ := rt.form
      subst hf
      have IX := hide fun hE => implTxsText (.slice fa ti.length fc) ti w20 (by omega) rt (Env.pow hE)
      clear ot rt
      have Bw20 := Bw19.trans (bb.mono Bw19.size)
      replace bz := bz.trans (bb.mono bz.size)
      clear bb Bw19
      generalize hT : txsT ti = T at IX
      go_wp2_with fail
      refine (unhide IX ((unhide HE).below Bw20)).mono ?_
      rintro _ w21 ⟨rfl, bb⟩
      clear IX
      have Bw21 := Bw20.trans (bb.mono Bw20.size)
      replace bz := bz.trans (bb.mono bz.size)
      clear bb Bw20
      go_wp2_with fail
      refine (unhide STI _).mono ?_
      rintro _ w22 ⟨vt2, rfl, ot, bb⟩
      have rt := ot.rt (by omega)
      obtain ⟨fa2, fc2, hf⟩ := rt.form
      subst hf
      have IX := hide (specTxsText (.slice fa2 ti.length fc2) ti w22 (by omega) rt)
      rw [hT] at IX
      clear ot rt
      have Bw22 := Bw21.trans (bb.mono Bw21.size)
      replace bz := bz.trans (bb.mono bz.size)
      clear bb Bw21
      go_wp2_with fail
      refine (unhide IX).mono ?_
      rintro _ w23 ⟨rfl, bb⟩
      clear IX
      have Bw23 := Bw22.trans (bb.mono Bw22.size)
      replace bz := bz.trans (bb.mono bz.size)
      clear bb Bw22
      go_wp2_with fail
      go_meet
      exact ⟨by simp, bz⟩
  case rest =>
    obtain ⟨rfl, bb⟩ := hcut
    obtain ⟨wa, rfl⟩ : ∃ z, z = wc := ⟨_, rfl⟩
    have Bwa := Bw7.trans (bb.mono Bw7.size)
    replace OS := hide ((unhide OS).below bb)
    replace RTH := hide ((unhide RTH).below bb)
    clear bb Bw7
    clear SEab SMxy SN SH SU SV IT STI INO RTH
    have IUn := hide fun w hE => implUpOf nm1 w (by omega) hE
    have IVn := hide fun w hE => implViewOf nm1 w (by omega) hE
    have IHn := hide fun w hE => implHeight nm1 w (by omega) hE
    have IHu := hide fun w hE => implHeight up w (by omega) hE
    have IEn := hide fun w hE => implExtends nm1 up w (by omega) (by omega) hE
    go_upto_region 12 with fail
    go_cut [151] (fun c wx => c = .bool false ∧ Below wa.heap.size wa wx)
    case first =>
      as_aux_lemma =>
        have bz : Below wa.heap.size wa wa := Below.refl _ _
        by_cases hn : nm1 = ⟨#[]⟩
        · subst hn
          clear IUn IVn IHn IHu IEn HNU
          go_wp2_with fail
          go_meet
          exact ⟨by simp, bz⟩
        · obtain ⟨h1, h2, h3, h4⟩ := unhide HNU hn
          rw [h1] at IUn
          rw [h2] at IVn
          rw [h3] at IHn
          rw [h4] at IEn
          have hne := str_ne hn
          have hne2 : (nm1.toList == []) = false := by
            rw [beq_eq_false_iff_ne]; intro e; apply hn; apply ByteArray.ext; apply Array.toList_inj.1; rw [ByteArray.toList_eq] at e; exact e
          generalize heightAns up = Hu at *
          clear h1 h2 h3 h4 HNU hn
          go_wp2_with fail
          refine (unhide IUn _ ((unhide HE).below Bwa)).mono ?_
          rintro _ w8 ⟨rfl, bb⟩
          have Bw8 := Bwa.trans (bb.mono Bwa.size)
          replace bz := bz.trans (bb.mono bz.size)
          clear bb Bwa
          go_wp2_with fail
          refine (unhide IVn _ ((unhide HE).below Bw8)).mono ?_
          rintro _ w9 ⟨rfl, bb⟩
          have Bw9 := Bw8.trans (bb.mono Bw8.size)
          replace bz := bz.trans (bb.mono bz.size)
          clear bb Bw8
          go_wp2_with fail
          refine (unhide IHn _ ((unhide HE).below Bw9)).mono ?_
          rintro _ w10 ⟨rfl, bb⟩
          have Bw10 := Bw9.trans (bb.mono Bw9.size)
          replace bz := bz.trans (bb.mono bz.size)
          clear bb Bw9
          go_wp2_with fail
          refine (unhide IHu _ ((unhide HE).below Bw10)).mono ?_
          rintro _ w11 ⟨rfl, bb⟩
          have Bw11 := Bw10.trans (bb.mono Bw10.size)
          replace bz := bz.trans (bb.mono bz.size)
          clear bb Bw10
          go_wp2_with fail
          refine (unhide IEn _ ((unhide HE).below Bw11)).mono ?_
          rintro _ w12 ⟨rfl, bb⟩
          have Bw12 := Bw11.trans (bb.mono Bw11.size)
          replace bz := bz.trans (bb.mono bz.size)
          clear bb Bw11
          go_wp2_with fail
          go_meet
          exact ⟨by simp, bz⟩
    case rest =>
      clear IUn IVn IHn IHu IEn HNU
      obtain ⟨rfl, bb⟩ := hcut
      obtain ⟨wb, rfl⟩ : ∃ z, z = wc := ⟨_, rfl⟩
      have Bwb := Bwa.trans (bb.mono Bwa.size)
      replace OS := hide ((unhide OS).below bb)
      clear bb Bwa
      clear hhu hhu0 hnl hup hview hts
      go_upto_region 14 with fail
      go_cut [168] (fun c wx => c = .bool false ∧ Below wb.heap.size wb wx)
      case first =>
        as_aux_lemma =>
          have bz : Below wb.heap.size wb wb := Below.refl _ _
          go_wp2_with fail
          refine (unhide IEab _ ((unhide HE).below Bwb)).mono ?_
          rintro _ w8 ⟨rfl, bb⟩
          have Bw8 := Bwb.trans (bb.mono Bwb.size)
          replace bz := bz.trans (bb.mono bz.size)
          clear bb Bwb
          cases eab with
          | false =>
            clear IHa IHb IVa IVb HAB
            go_wp2_with fail
            go_meet
            exact ⟨by simp, bz⟩
          | true =>
            obtain ⟨g1, g2⟩ := unhide HAB rfl
            have d1 : decide (Ha < Hb) = false := by simp; omega
            have d2 : decide (Va < Vb) = false := by simp; omega
            go_wp2_with fail
            refine (unhide IHa _ ((unhide HE).below Bw8)).mono ?_
            rintro _ w9 ⟨rfl, bb⟩
            have Bw9 := Bw8.trans (bb.mono Bw8.size)
            replace bz := bz.trans (bb.mono bz.size)
            clear bb Bw8
            go_wp2_with fail
            refine (unhide IHb _ ((unhide HE).below Bw9)).mono ?_
            rintro _ w10 ⟨rfl, bb⟩
            have Bw10 := Bw9.trans (bb.mono Bw9.size)
            replace bz := bz.trans (bb.mono bz.size)
            clear bb Bw9
            go_wp2_with fail
            refine (unhide IVa _ ((unhide HE).below Bw10)).mono ?_
            rintro _ w11 ⟨rfl, bb⟩
            have Bw11 := Bw10.trans (bb.mono Bw10.size)
            replace bz := bz.trans (bb.mono bz.size)
            clear bb Bw10
            go_wp2_with fail
            refine (unhide IVb _ ((unhide HE).below Bw11)).mono ?_
            rintro _ w12 ⟨rfl, bb⟩
            have Bw12 := Bw11.trans (bb.mono Bw11.size)
            replace bz := bz.trans (bb.mono bz.size)
            clear bb Bw11
            go_wp2_with fail
            go_meet
            exact ⟨by simp, bz⟩
      case rest =>
        obtain ⟨rfl, bb⟩ := hcut
        obtain ⟨wd, rfl⟩ : ∃ z, z = wc := ⟨_, rfl⟩
        have Bwd := Bwb.trans (bb.mono Bwb.size)
        replace OS := hide ((unhide OS).below bb)
        clear bb Bwb
        clear IEab IHa IHb IVa IVb HAB
        cases A with
        | none =>
          obtain rfl : ok = false := (unhide HOK).symm
          obtain rfl : H = -1 := unhide HNO rfl
          clear IEU IU IMxy IMyx OS HUP HOK HNO
          simp only [Option.getD_none, List.length_nil] at *
          go_wp2_with fail
          refine (unhide IH _ ((unhide HE).below Bwd)).mono ?_
          rintro _ w8 ⟨rfl, bb⟩
          have Bw8 := Bwd.trans (bb.mono Bwd.size)
          clear bb Bwd
          go_wp2
          go_ret
          exact ⟨rfl, Bw8⟩
        | some ss =>
          obtain rfl : ok = true := (unhide HOK).symm
          have hlen := ((names_iff _ _).1 (unhide HAS)).2.1
          have h2 : Hid (∀ z ∈ ss, OkSt z) := hide ((names_iff _ _).1 (unhide HAS)).2.2.1
          clear HOK HNO IH
          simp only [Option.getD_some] at *
          have hE2 := hide ((unhide HE).below Bwd)
          go_wp2_with fail
          go_loopw [16, 17] (fun back i wr => ∃ k : Nat, k ≤ ss.length ∧ i = .int .i64 k ∧ back = .string (toB (nm (ss.take k))) ∧ Below wd.heap.size wd wr) (fun _ i _ => ss.length - (intOf i).toNat)
          case atStart => exact ⟨0, Nat.zero_le _, rfl, rfl, Below.refl _ _⟩
          case round =>
            obtain ⟨k, hk, rfl, rfl, br⟩ := hrel
            have hsr := br.size
            by_cases hlt : k < ss.length
            · as_aux_lemma =>
                have os := (unhide OS).below br
                obtain ⟨g, rfl⟩ : ∃ g, la = some ⟨g, 0, none⟩ := by
                  rcases os.row.2 with ⟨e, h0⟩ | ⟨g, cap, cur, e, _⟩
                  · omega
                  · cases e; exact ⟨g, rfl⟩
                have hok := unhide h2 (ss.getD k zst) (by rw [List.getD_eq_getElem?_getD, List.getElem?_eq_getElem hlt]; exact List.getElem_mem hlt)
                have c0 := World.ownsRow.cellAt os.row (k * 2 + 0) (by omega)
                have c1 := World.ownsRow.cellAt os.row (k * 2 + 1) (by omega)
                rw [scells_get _ k _ (by simp [os.len]; omega) (by omega), zip_get ss vs0 os.len k hlt] at c0 c1
                replace c0 : wr.cell? ⟨g, k * 2, none⟩ = some (.int .i64 (ss.getD k zst).1) := by simpa [scell] using c0
                replace c1 : wr.cell? ⟨g, k * 2 + 1, none⟩ = some (vs0.getD k (.slice none 0 0)) := by simpa [scell] using c1
                have rt := (os.each k hlt).rt (by have := hok.2.1; omega)
                have HNB := hide (name_back (unhide HAS) k hlt)
                have hpl := part_len (unhide HAS) k
                obtain ⟨fa, fc, hf⟩ := rt.form
                have hg : g < wr.heap.size := cell_lt c0
                have hv := hok.1
                have h22 := hok.2.1
                rw [hf] at c1 rt
                clear os hok hf
                generalize (ss.getD k zst).1 = n at *
                generalize (ss.getD k zst).2 = tk at *
                generalize toB (nm (ss.take k)) = back at *
                generalize hbk : toB (nm (ss.take (k + 1))) = back' at *
                have K : Hid (∀ w', Below wr.heap.size wr w' → Below wr.heap.size wr w' ∧ w'.cell? ⟨g, k * 2, none⟩ = some (.int .i64 n) ∧ w'.cell? ⟨g, k * 2 + 1, none⟩ = some (.slice fa tk.length fc)) := fun w' hb' => ⟨hb', (hb'.cell (p := ⟨g, k * 2, none⟩) hg).trans c0, (hb'.cell (p := ⟨g, k * 2 + 1, none⟩) hg).trans c1⟩
                have NB : Hid (∀ w', Below wr.heap.size wr w' → Calls Tryz.prog 11 #[.string back, .int .i64 n, .slice fa tk.length fc] w' fun e w'' => e = .returned (.string back') ∧ Below w'.heap.size w' w'') := hide fun w' hb' => by
                  have := implNameOf back n (.slice fa tk.length fc) tk w' (by omega) (by omega) (by omega) (by omega) (rt.below hb') ((unhide hE2).below (br.trans (hb'.mono hsr)))
                  rw [unhide HNB] at this
                  exact this
                have bA : Below wr.heap.size wr wr.drew := Below.drew (Below.refl _ _)
                have hKeep := unhide K _ bA
                clear c0 c1 rt HNB
                go_wp2_with fail
                go_region_held3 (fun w' => Below wr.heap.size wr w' ∧ w'.cell? ⟨g, k * 2, none⟩ = some (.int .i64 n) ∧ w'.cell? ⟨g, k * 2 + 1, none⟩ = some (.slice fa tk.length fc)) (exact hKeep) (first
                  | (go_at_call 11; have hgo := bA; refine (unhide NB _ bA).mono ?_; rintro e wq ⟨rfl, ba⟩
                     have bB : Below wr.heap.size wr wq := bA.trans ba
                     have hKeep := unhide K _ bB; clear bA hgo))
                all_goals
                  go_wp2
                  go_roundw
                  case rel => exact ⟨k + 1, by omega, by go_num, by rw [hbk], br.trans (bB.mono hsr)⟩
                  case measure => simp [intOf]; omega
            · obtain rfl : k = ss.length := by omega
              rw [name_whole (unhide HAS)]
              have hlt' : decide (((ss.length : Nat) : Int) < ((ss.length : Nat) : Int)) = false := by simp
              have Bwr := Bwd.trans (br.mono Bwd.size)
              obtain rfl : eU = true := by first | exact unhide HUP rfl | exact unhide HUP trivial
              clear OS HUP br
              have q4 : (mxy == mxy) = true := by simp
              go_wp2_with fail
              refine (unhide IMxy _ ((unhide HE).below Bwr)).mono ?_
              rintro _ w8 ⟨rfl, bb⟩
              have Bw8 := Bwr.trans (bb.mono Bwr.size)
              clear bb Bwr
              go_wp2_with fail
              refine (unhide IMyx _ ((unhide HE).below Bw8)).mono ?_
              rintro _ w9 ⟨rfl, bb⟩
              have Bw9 := Bw8.trans (bb.mono Bw8.size)
              clear bb Bw8
              go_wp2_with fail
              refine (unhide IU _ ((unhide HE).below Bw9)).mono ?_
              rintro _ w10 ⟨rfl, bb⟩
              have Bw10 := Bw9.trans (bb.mono Bw9.size)
              clear bb Bw9
              go_wp2_with fail
              refine (unhide IEU _ ((unhide HE).below Bw10)).mono ?_
              rintro _ w11 ⟨rfl, bb⟩
              have Bw11 := Bw10.trans (bb.mono Bw10.size)
              clear bb Bw10
              go_wp2
              go_ret
              exact ⟨rfl, Bw11⟩
end Go.Proofs.YtiaafigpgnimeaaGreatDoor
