/- The walk of laws.FnNumbers. -/
import Derived.Test.YtlhpgihhlboddaaDoorRoundPlain
import Derived.Test.YtlhpgihhlboddaaDoorDrawGet
import Derived.Test.YtlhpgihhlboddaaDoorNumberFace
import Derived.Test.YtlhpgihhlboddaaDoorSpecText
import Derived.Test.YtlhpgihhlboddaaDoorSplit
import Derived.Deep.RegionWith
import Derived.Test.YtlhpgihhlboddaaDoorHeld
import Derived.Test.YtlhpgihhlboddaaDoorHeldBy
import Derived.Deep.DeepCutAuto
import Derived.Lib.BufferRead
import Derived.Test.YtlhpgihhlboddaaDoorOneStr
import Derived.Test.YtlhpgihhlboddaaDoorDigPlain
namespace Go.Proofs.YtlhpgihhlboddaaDoor
open Go.RowKit

/-- A list of the call's own as a text. -/
theorem conv_own {w : World} {base : Nat} {v : Value} {xs : List Int} (h : OB w base v xs) (hl : xs.length ≤ 1048600) : (convert 22 9 v).run Tryd.prog w = .ok (.string (strOfNums xs)) w := by
  obtain ⟨_, ao, ca, rfl, _, hc⟩ := OB.rb h (by omega)
  rcases hc with rfl | ⟨b, off, rfl, hc⟩
  · rcases h.2 with ⟨hv, _⟩ | ⟨g, cap, cur, hv, _⟩
    · simp only [Value.slice.injEq] at hv
      obtain ⟨rfl, _, rfl⟩ := hv
      exact Lib.run_convert_nil_bytes w 22 9 5 0 Tryd.underlying22 Tryd.underlying5 Tryd.underlying9
    · simp only [Value.slice.injEq] at hv
      obtain ⟨rfl, _, rfl⟩ := hv
      exact run_convert_bytes_arg (P := Tryd.prog) w 22 5 Tryd.underlying22 Tryd.underlying5 g 0 0 ca [] rfl (fun i hi => by omega) 9 Tryd.underlying9
  · exact run_convert_bytes_arg (P := Tryd.prog) w 22 5 Tryd.underlying22 Tryd.underlying5 b off xs.length ca xs rfl hc 9 Tryd.underlying9

set_option maxRecDepth 100000 in
theorem cut_mid (g n c k e : Nat) (w : World) (h : k + e ≤ c) (hk : ¬ c = k) :
    (Instr.slice 22 (.slice (some ⟨g, 0, none⟩) n c) (some (.int .i64 (k : Int))) (some (.int .i64 ((k : Int) + (e : Int)))) none).run Tryd.prog w = .ok (.slice (some ⟨g, k, none⟩) e (c - k)) w := by
  have hi : (Tryd.prog.info? 5).map (fun i => i.size) = some 1 := by kernel_rfl
  obtain ⟨i0, hi0, hi1⟩ := Option.map_eq_some_iff.1 hi
  rw [run_slice_lh (ht := Tryd.underlying22) (kl := .i64) (kh := .i64) (l := (k : Int)) (h := (k : Int) + (e : Int)) (h0 := by omega) (h1 := by omega) (h2 := by omega)]
  have he : Tryd.prog.elem 22 = 5 := by simp [Program.elem, Tryd.underlying22]
  have hs : (sizeOf (Tryd.prog.elem 22)).run Tryd.prog w = .ok 1 w := by rw [he]; simp [sizeOf, typeInfo, hi0, hi1]
  rw [hs]
  have e1 : ((k : Int) + (e : Int)).toNat = k + e := by omega
  by_cases h0 : k = 0
  · subst h0
    simp [sliced, Result.andThen, hk, Addr.add]
  · simp [sliced, Result.andThen, e1, hk, Addr.add, h0]

theorem join_with (l : List UInt8) (p : ByteArray) (c : UInt8) {b : Int} (h : (c.toNat : Int) = b) : (⟨(l ++ [c] ++ p.data.toList).toArray⟩ : ByteArray) = (⟨l.toArray⟩ ++ strOfNums [b]) ++ p := by
  subst h
  apply ByteArray.ext
  apply Array.toList_inj.1
  simp [strOfNums]
theorem join_first (l : List UInt8) (p : ByteArray) : (⟨(l ++ p.data.toList).toArray⟩ : ByteArray) = ⟨l.toArray⟩ ++ p := by
  apply ByteArray.ext
  apply Array.toList_inj.1
  simp

set_option maxHeartbeats 400000 in
set_option maxRecDepth 100000 in
theorem big_no (ao : Option Addr) (len ca : Nat) (w : World) (hl : len ≤ 1048576) :
    Calls Tryd.prog 4 #[.slice ao len ca] w fun e w' => e = .returned (.bool false) ∧ w' = w := by
  have hd : decide ((1048576 : Int) < (len : Int)) = false := by simp; omega
  go_enter Tryd.func4, Tryd.ntmps4
  go_wp2
  go_ret
  exact ⟨rfl, rfl⟩
set_option maxHeartbeats 400000 in
set_option maxRecDepth 100000 in
theorem big_yes (ao : Option Addr) (len ca : Nat) (w : World) (hl : 1048576 < len) :
    Calls Tryd.prog 4 #[.slice ao len ca] w fun e w' => e = .returned (.bool true) ∧ w' = w := by
  have hd : decide ((1048576 : Int) < (len : Int)) = true := by simp; omega
  go_enter Tryd.func4, Tryd.ntmps4
  go_wp2
  go_ret
  exact ⟨rfl, rfl⟩
set_option maxHeartbeats 400000 in
set_option maxRecDepth 100000 in
theorem fnNumbers_big (ao : Option Addr) (len ca : Nat) (w : World) (hl : 1048576 < len) :
    Calls Tryd.prog 3 #[.slice ao len ca] w fun e w' => e = .returned (.bool true) ∧ Below w.heap.size w w' := by
  go_enter Tryd.func3, Tryd.ntmps3
  go_wp2_with fail
  refine (big_yes ao len ca _ hl).mono ?_
  rintro e w' ⟨rfl, rfl⟩
  go_wp2
  go_ret
  exact ⟨rfl, Below.refl _ _⟩

set_option maxHeartbeats 40000000 in
set_option maxRecDepth 100000 in
theorem fnNumbers_small (ao : Option Addr) (ca : Nat) (xs : List Int) (w : World) (hc : DCode w ao xs) (hE : Env w) :
    Calls Tryd.prog 3 #[.slice ao xs.length ca] w fun e w' => e = .returned (.bool true) ∧ Below w.heap.size w w' := by
  have hlen := hc.len
  have HC := hide hc
  have HE := hide hE
  clear hc hE
  go_enter Tryd.func3, Tryd.ntmps3
  go_wp2_with fail
  refine (big_no ao xs.length ca _ hlen).mono ?_
  rintro e w0 ⟨rfl, rfl⟩
  go_wp2_with fail
  refine (drawPutNum_any ao ca xs _ (unhide HC)).mono ?_
  rintro e w1 ⟨x, rfl, hx, b1⟩
  have s1 := b1.size
  go_wp2_with fail
  refine (implPut x _).mono ?_
  rintro e w2 ⟨vb, rfl, ob2, b2⟩
  have bb2 := b1.trans (b2.mono s1)
  have s2 := bb2.size
  go_wp2_with fail
  refine (drawPutText_any ao ca xs _ ((unhide HC).below bb2 (Nat.le_refl _))).mono ?_
  rintro e w3 ⟨t, rfl, ht, b3⟩
  have bb3 := bb2.trans (b3.mono s2)
  have s3 := bb3.size
  have hts : t.size ≤ 9 := by
    simp only [putTexts, List.mem_cons, List.not_mem_nil, or_false] at ht
    rcases ht with rfl | rfl | rfl | rfl <;> decide
  go_wp2_with fail
  refine (implText t _ (by omega)).mono ?_
  rintro e w4 ⟨vu, rfl, ou4, b4⟩
  have bb4 := bb3.trans (b4.mono s3)
  have s4 := bb4.size
  go_wp2_with fail
  refine (drawDigits_any ao ca xs _ ((unhide HC).below bb4 (Nat.le_refl _))).mono ?_
  rintro e w5 ⟨d, rfl, hd, b5⟩
  have bb5 := bb4.trans (b5.mono s4)
  have s5 := bb5.size
  go_wp2_with fail
  refine (drawNumber_any ao ca xs _ ((unhide HC).below bb5 (Nat.le_refl _))).mono ?_
  rintro e w6 ⟨s, rfl, hs, b6⟩
  have bb6 := bb5.trans (b6.mono s5)
  have s6 := bb6.size
  have hss : s.size ≤ 7 := by
    simp only [numTexts, List.mem_cons, List.not_mem_nil, or_false] at hs
    rcases hs with rfl | rfl | rfl | rfl | rfl | rfl | rfl | rfl | rfl <;> decide
  go_wp2_with fail
  refine (number_any s (by omega) _ ((unhide HE).below bb6)).mono ?_
  rintro e w7 ⟨rfl, b7⟩
  have bb7 := bb6.trans (b7.mono s6)
  have s7 := bb7.size
  go_wp2_with fail
  refine (specNumber_any s _ (by unfold maxLen; omega)).mono ?_
  rintro e w8 ⟨rfl, b8⟩
  have bb8 := bb7.trans (b8.mono s7)
  have s8 := bb8.size
  have ob8 : OB w8 w1.heap.size vb (putAns x) := ((((((OB.below ob2 b3).below b4).below b5).below b6).below b7).below b8)
  have ou8 : OB w8 w3.heap.size vu (textAns t) := ((((OB.below ou4 b5).below b6).below b7).below b8)
  have hE8 := hide ((unhide HE).below bb8)
  have hpl := putAns_len x
  have htl : (textAns t).length ≤ 14 := by rw [textAns_len]; have := (put_len 4 t.size).1; omega
  have hdb : -9223372036854775808 ≤ d ∧ d ≤ 9223372036854775807 := by
    simp only [digNums, List.mem_cons, List.not_mem_nil, or_false] at hd; omega
  have HB8 := hide ob8
  have HU8 := hide ou8
  have h18 : w1.heap.size ≤ w8.heap.size := by have := b2.size; have := b3.size; have := b4.size; have := b5.size; have := b6.size; have := b7.size; have := b8.size; omega
  clear b1 b2 b3 b4 b5 b6 b7 b8 bb2 bb3 bb4 bb5 bb6 bb7 ob2 ou4 s1 s2 s3 s4 s5 s6 s7 ob8 ou8
  obtain ⟨v, hv⟩ : ∃ v, nans (numOf s.data.toList) = v := ⟨_, rfl⟩
  obtain ⟨is, his⟩ : ∃ b, (numOf s.data.toList).isSome = b := ⟨_, rfl⟩
  rw [hv, his]
  have HS : Hid (is = true → 0 ≤ v ∧ v ≤ 999999 ∧ (⟨(Lib.itoa v).toArray⟩ : ByteArray) = s) := by
    intro h
    cases hn : numOf s.data.toList with
    | none => rw [hn] at his; subst his; cases h
    | some m =>
      rw [hn] at hv
      obtain ⟨h1, h2⟩ := numOf_some hn
      have : v = (m : Int) := hv.symm
      subst this
      exact ⟨by omega, by omega, by rw [itoa_nat, h2]⟩
  clear hv his
  go_upto_region 11 with fail
  go_cut [103] (fun c wx => c = .bool false ∧ Below w8.heap.size w8 wx)
  case first =>
    as_aux_lemma =>
      obtain ⟨sb, hsb⟩ : ∃ sb, strOfNums (putAns x) = sb := ⟨_, rfl⟩
      obtain ⟨su, hsu⟩ : ∃ su, strOfNums (textAns t) = su := ⟨_, rfl⟩
      obtain ⟨sd, hsd⟩ : ∃ sd : ByteArray, (⟨(Lib.itoa d).toArray⟩ : ByteArray) = sd := ⟨_, rfl⟩
      have cvb : ∀ w' , Below w8.heap.size w8 w' → (convert 22 9 vb).run Tryd.prog w' = .ok (.string sb) w' := fun w' hb => by rw [← hsb]; exact conv_own ((unhide HB8).below hb) (by omega)
      have cvu : ∀ w' , Below w8.heap.size w8 w' → (convert 22 9 vu).run Tryd.prog w' = .ok (.string su) w' := fun w' hb => by rw [← hsu]; exact conv_own ((unhide HU8).below hb) (by omega)
      have cP : ∀ w', Calls Tryd.prog 13 #[.int .i64 x] w' fun e w'' => ∃ v', e = .returned v' ∧ (∀ w3, Below w''.heap.size w'' w3 → (convert 22 9 v').run Tryd.prog w3 = .ok (.string sb) w3) ∧ Below w'.heap.size w' w'' := fun w' => (specPut x w').mono (by rintro e w'' ⟨v', rfl, o, b⟩; exact ⟨v', rfl, fun w3 h3 => by rw [← hsb]; exact conv_own (OB.below o h3) (by omega), b⟩)
      have cT : ∀ w', Calls Tryd.prog 14 #[.string t] w' fun e w'' => ∃ v', e = .returned v' ∧ (∀ w3, Below w''.heap.size w'' w3 → (convert 22 9 v').run Tryd.prog w3 = .ok (.string su) w3) ∧ Below w'.heap.size w' w'' := fun w' => (specText t w' (by omega)).mono (by rintro e w'' ⟨v', rfl, o, b⟩; exact ⟨v', rfl, fun w3 h3 => by rw [← hsu]; exact conv_own (OB.below o h3) (by omega), b⟩)
      have cD : ∀ w', Below w8.heap.size w8 w' → Calls Tryd.prog 15 #[.int .i64 d] w' fun e w'' => e = .returned (.string sd) ∧ Below w'.heap.size w' w'' := fun w' hb => by rw [← hsd]; exact implDigits_any d w' hdb.1 hdb.2 ((unhide hE8).below hb).pow
      have cS : ∀ w', Calls Tryd.prog 16 #[.int .i64 d] w' fun e w'' => e = .returned (.string sd) ∧ Below w'.heap.size w' w'' := fun w' => by rw [← hsd]; exact specDigits_any d w' hdb.1 hdb.2
      have CD := hide cD
      have CS := hide cS
      clear cD cS hsd
      have CVB := hide cvb
      have CVU := hide cvu
      have CP := hide cP
      have CT := hide cT
      clear cvb cvu cP cT hsb hsu
      have b8d : Below w8.heap.size w8 w8.drew := Below.drew (Below.refl _ _)
      have hKeep : Below w8.heap.size w8 w8.drew ∧ (convert 22 9 vb).run Tryd.prog w8.drew = .ok (.string sb) w8.drew ∧ (convert 22 9 vu).run Tryd.prog w8.drew = .ok (.string su) w8.drew := ⟨b8d, unhide CVB _ b8d, unhide CVU _ b8d⟩
      cases is
      · clear HB8 HU8 hpl htl hdb hx ht hd hs hss h18 s8 HC HE bb8 hlen hts HS
        first | go_region_held (fun w' => Below w8.heap.size w8 w' ∧ (convert 22 9 vb).run Tryd.prog w' = .ok (.string sb) w' ∧ (convert 22 9 vu).run Tryd.prog w' = .ok (.string su) w') (exact hKeep) (first
          | (go_at_call 13; refine (unhide CP _).mono ?_; rintro e wP ⟨vp, rfl, cvp, bP⟩
             have bPP : Below w8.heap.size w8 wP := b8d.trans bP
             have hKeep : (Below w8.heap.size w8 wP ∧ (convert 22 9 vb).run Tryd.prog wP = .ok (.string sb) wP ∧ (convert 22 9 vu).run Tryd.prog wP = .ok (.string su) wP) ∧ (convert 22 9 vp).run Tryd.prog wP = .ok (.string sb) wP := ⟨⟨bPP, unhide CVB _ bPP, unhide CVU _ bPP⟩, cvp _ (Below.refl _ _)⟩
             have CVP := hide cvp
             clear cvp bP
             rw [shut_eq (S2 := fun w' => (Below w8.heap.size w8 w' ∧ (convert 22 9 vb).run Tryd.prog w' = .ok (.string sb) w' ∧ (convert 22 9 vu).run Tryd.prog w' = .ok (.string su) w') ∧ (convert 22 9 vp).run Tryd.prog w' = .ok (.string sb) w') (fun _ h => h.1) ‹Shut _›] at *)
          | (go_at_call 14; refine (unhide CT _).mono ?_; rintro e wT ⟨vt, rfl, cvt, bT⟩
             have bTT : Below w8.heap.size w8 wT := bPP.trans (bT.mono (by have := bPP.size; omega))
             have hKeep : ((Below w8.heap.size w8 wT ∧ (convert 22 9 vb).run Tryd.prog wT = .ok (.string sb) wT ∧ (convert 22 9 vu).run Tryd.prog wT = .ok (.string su) wT) ∧ (convert 22 9 vp).run Tryd.prog wT = .ok (.string sb) wT) ∧ (convert 22 9 vt).run Tryd.prog wT = .ok (.string su) wT := ⟨⟨⟨bTT, unhide CVB _ bTT, unhide CVU _ bTT⟩, unhide CVP _ bT⟩, cvt _ (Below.refl _ _)⟩
             have CVT := hide cvt
             have bPT := bT
             clear cvt bT
             rw [shut_eq (S2 := fun w' => ((Below w8.heap.size w8 w' ∧ (convert 22 9 vb).run Tryd.prog w' = .ok (.string sb) w' ∧ (convert 22 9 vu).run Tryd.prog w' = .ok (.string su) w') ∧ (convert 22 9 vp).run Tryd.prog w' = .ok (.string sb) w') ∧ (convert 22 9 vt).run Tryd.prog w' = .ok (.string su) w') (fun _ h => h.1) ‹Shut _›] at *)
          | (go_at_call 15; refine (unhide CD _ bTT).mono ?_; rintro e wD ⟨rfl, bD⟩
             have bDD : Below w8.heap.size w8 wD := bTT.trans (bD.mono (by have := bTT.size; omega))
             have bPD : Below wP.heap.size wP wD := bPT.trans (bD.mono (by have := bPT.size; omega))
             have bTD : Below wT.heap.size wT wD := bD
             have hKeep : ((Below w8.heap.size w8 wD ∧ (convert 22 9 vb).run Tryd.prog wD = .ok (.string sb) wD ∧ (convert 22 9 vu).run Tryd.prog wD = .ok (.string su) wD) ∧ (convert 22 9 vp).run Tryd.prog wD = .ok (.string sb) wD) ∧ (convert 22 9 vt).run Tryd.prog wD = .ok (.string su) wD := ⟨⟨⟨bDD, unhide CVB _ bDD, unhide CVU _ bDD⟩, unhide CVP _ bPD⟩, unhide CVT _ bTD⟩)
          | (go_at_call 16; refine (unhide CS _).mono ?_; rintro e wS ⟨rfl, bS⟩
             have bSS : Below w8.heap.size w8 wS := bDD.trans (bS.mono (by have := bDD.size; omega))
             have bPS : Below wP.heap.size wP wS := bPD.trans (bS.mono (by have := bPD.size; omega))
             have bTS : Below wT.heap.size wT wS := bTD.trans (bS.mono (by have := bTD.size; omega))
             have hKeep : ((Below w8.heap.size w8 wS ∧ (convert 22 9 vb).run Tryd.prog wS = .ok (.string sb) wS ∧ (convert 22 9 vu).run Tryd.prog wS = .ok (.string su) wS) ∧ (convert 22 9 vp).run Tryd.prog wS = .ok (.string sb) wS) ∧ (convert 22 9 vt).run Tryd.prog wS = .ok (.string su) wS := ⟨⟨⟨bSS, unhide CVB _ bSS, unhide CVU _ bSS⟩, unhide CVP _ bPS⟩, unhide CVT _ bTS⟩)) | fail
        all_goals (go_wp2_with fail; go_meet; exact ⟨rfl, bSS⟩)
      · have HS1 := (unhide HS) rfl
        have cV : ∀ w', Below w8.heap.size w8 w' → Calls Tryd.prog 15 #[.int .i64 v] w' fun e w'' => e = .returned (.string s) ∧ Below w'.heap.size w' w'' := fun w' hb => by
          have := implDigits_any v w' (by omega) (by omega) ((unhide hE8).below hb).pow
          rw [HS1.2.2] at this; exact this
        have CV := hide cV
        clear cV HS1
        clear HB8 HU8 hpl htl hdb hx ht hd hs hss h18 s8 HC HE bb8 hlen hts HS
        first | go_region_held3 (fun w' => Below w8.heap.size w8 w' ∧ (convert 22 9 vb).run Tryd.prog w' = .ok (.string sb) w' ∧ (convert 22 9 vu).run Tryd.prog w' = .ok (.string su) w') (exact hKeep) (first
          | (go_at_call 13; refine (unhide CP _).mono ?_; rintro e wP ⟨vp, rfl, cvp, bP⟩
             have bPP : Below w8.heap.size w8 wP := b8d.trans bP
             have hKeep : (Below w8.heap.size w8 wP ∧ (convert 22 9 vb).run Tryd.prog wP = .ok (.string sb) wP ∧ (convert 22 9 vu).run Tryd.prog wP = .ok (.string su) wP) ∧ (convert 22 9 vp).run Tryd.prog wP = .ok (.string sb) wP := ⟨⟨bPP, unhide CVB _ bPP, unhide CVU _ bPP⟩, cvp _ (Below.refl _ _)⟩
             have CVP := hide cvp
             clear cvp bP
             rw [shut_eq (S2 := fun w' => (Below w8.heap.size w8 w' ∧ (convert 22 9 vb).run Tryd.prog w' = .ok (.string sb) w' ∧ (convert 22 9 vu).run Tryd.prog w' = .ok (.string su) w') ∧ (convert 22 9 vp).run Tryd.prog w' = .ok (.string sb) w') (fun _ h => h.1) ‹Shut _›] at *)
          | (go_at_call 14; refine (unhide CT _).mono ?_; rintro e wT ⟨vt, rfl, cvt, bT⟩
             have bTT : Below w8.heap.size w8 wT := bPP.trans (bT.mono (by have := bPP.size; omega))
             have hKeep : ((Below w8.heap.size w8 wT ∧ (convert 22 9 vb).run Tryd.prog wT = .ok (.string sb) wT ∧ (convert 22 9 vu).run Tryd.prog wT = .ok (.string su) wT) ∧ (convert 22 9 vp).run Tryd.prog wT = .ok (.string sb) wT) ∧ (convert 22 9 vt).run Tryd.prog wT = .ok (.string su) wT := ⟨⟨⟨bTT, unhide CVB _ bTT, unhide CVU _ bTT⟩, unhide CVP _ bT⟩, cvt _ (Below.refl _ _)⟩
             have CVT := hide cvt
             have bPT := bT
             clear cvt bT
             rw [shut_eq (S2 := fun w' => ((Below w8.heap.size w8 w' ∧ (convert 22 9 vb).run Tryd.prog w' = .ok (.string sb) w' ∧ (convert 22 9 vu).run Tryd.prog w' = .ok (.string su) w') ∧ (convert 22 9 vp).run Tryd.prog w' = .ok (.string sb) w') ∧ (convert 22 9 vt).run Tryd.prog w' = .ok (.string su) w') (fun _ h => h.1) ‹Shut _›] at *)
          | (go_at_call 16; refine (unhide CS _).mono ?_; rintro e wS ⟨rfl, bS⟩
             have bSS : Below w8.heap.size w8 wS := bDD.trans (bS.mono (by have := bDD.size; omega))
             have bPS : Below wP.heap.size wP wS := bPD.trans (bS.mono (by have := bPD.size; omega))
             have bTS : Below wT.heap.size wT wS := bTD.trans (bS.mono (by have := bTD.size; omega))
             have hKeep : ((Below w8.heap.size w8 wS ∧ (convert 22 9 vb).run Tryd.prog wS = .ok (.string sb) wS ∧ (convert 22 9 vu).run Tryd.prog wS = .ok (.string su) wS) ∧ (convert 22 9 vp).run Tryd.prog wS = .ok (.string sb) wS) ∧ (convert 22 9 vt).run Tryd.prog wS = .ok (.string su) wS := ⟨⟨⟨bSS, unhide CVB _ bSS, unhide CVU _ bSS⟩, unhide CVP _ bPS⟩, unhide CVT _ bTS⟩)
          | (go_at_call 15; refine (unhide CV _ bSS).mono ?_; rintro e wV ⟨rfl, bV⟩
             have bVV : Below w8.heap.size w8 wV := bSS.trans (bV.mono (by have := bSS.size; omega))
             have bPV : Below wP.heap.size wP wV := bPS.trans (bV.mono (by have := bPS.size; omega))
             have bTV : Below wT.heap.size wT wV := bTS.trans (bV.mono (by have := bTS.size; omega))
             have hKeep : ((Below w8.heap.size w8 wV ∧ (convert 22 9 vb).run Tryd.prog wV = .ok (.string sb) wV ∧ (convert 22 9 vu).run Tryd.prog wV = .ok (.string su) wV) ∧ (convert 22 9 vp).run Tryd.prog wV = .ok (.string sb) wV) ∧ (convert 22 9 vt).run Tryd.prog wV = .ok (.string su) wV := ⟨⟨⟨bVV, unhide CVB _ bVV, unhide CVU _ bVV⟩, unhide CVP _ bPV⟩, unhide CVT _ bTV⟩)
          | (go_at_call 15; refine (unhide CD _ bTT).mono ?_; rintro e wD ⟨rfl, bD⟩
             have bDD : Below w8.heap.size w8 wD := bTT.trans (bD.mono (by have := bTT.size; omega))
             have bPD : Below wP.heap.size wP wD := bPT.trans (bD.mono (by have := bPT.size; omega))
             have bTD : Below wT.heap.size wT wD := bD
             have hKeep : ((Below w8.heap.size w8 wD ∧ (convert 22 9 vb).run Tryd.prog wD = .ok (.string sb) wD ∧ (convert 22 9 vu).run Tryd.prog wD = .ok (.string su) wD) ∧ (convert 22 9 vp).run Tryd.prog wD = .ok (.string sb) wD) ∧ (convert 22 9 vt).run Tryd.prog wD = .ok (.string su) wD := ⟨⟨⟨bDD, unhide CVB _ bDD, unhide CVU _ bDD⟩, unhide CVP _ bPD⟩, unhide CVT _ bTD⟩)) | fail
        all_goals (go_wp2_with fail; go_meet; exact ⟨rfl, bVV⟩)
  case rest =>
    obtain ⟨rfl, bx⟩ := hcut
    have b9 : Below w0.heap.size w0 wc := bb8.trans (bx.mono s8)
    have s9 := b9.size
    have ob9 := (unhide HB8).below bx
    have ou9 := (unhide HU8).below bx
    have h19 : w1.heap.size ≤ wc.heap.size := by have := bx.size; omega
    have hE9 := hide ((unhide HE).below b9)
    obtain ⟨u, pv, he9⟩ := (unhide hE9).no
    obtain ⟨vo, vc, rfl⟩ := ob9.shape
    obtain ⟨uo, uc, rfl⟩ := ou9.shape
    have hG := getNum_any _ (putAns x) 0 u pv wc (ob9.rb (by omega)) (putAns_bytes x).get he9
    obtain ⟨n1, hn1⟩ : ∃ n, ans1 (getNum (putAns x) 0) = n := ⟨_, rfl⟩
    obtain ⟨q1, hq1⟩ : ∃ n, ans2 (getNum (putAns x) 0) = n := ⟨_, rfl⟩
    obtain ⟨k1, hk1⟩ : ∃ n, (getNum (putAns x) 0).isSome = n := ⟨_, rfl⟩
    have HX : Hid (0 < (putAns x).length → n1 = x ∧ q1 = (putAns x).length ∧ k1 = true) := by
      intro hp
      by_cases hr : 0 ≤ x ∧ x ≤ 2147483647
      · obtain ⟨m, rfl⟩ := Int.eq_ofNat_of_zero_le hr.1
        have hg := getNum_put m [] (by omega)
        rw [List.append_nil] at hg
        rw [putAns_yes m (by omega)] at hn1 hq1 hk1 ⊢
        rw [hg] at hn1 hq1 hk1
        exact ⟨hn1.symm, hq1.symm, hk1.symm⟩
      · rw [putAns_no x (by omega)] at hp; simp at hp
    rw [hn1, hq1, hk1] at hG
    have HG := hide hG
    clear hG hn1 hq1 hk1
    obtain ⟨lb, hlb⟩ : ∃ n, (putAns x).length = n := ⟨_, rfl⟩
    rw [hlb] at HX HG hpl ⊢
    clear ob9
    have HO9 := hide ou9
    clear ou9
    obtain ⟨lu, hlu⟩ : ∃ n, (textAns t).length = n := ⟨_, rfl⟩
    go_wp2_with fail
    refine (unhide HG).mono ?_
    rintro e w10 ⟨rfl, b10⟩
    have bb10 := b9.trans (b10.mono s9)
    have s10 := bb10.size
    have ou10 := (unhide HO9).below b10
    have hT := getTextI_any _ (textAns t) 0 u pv w10 (ou10.rb (by omega)) (textAns_bytes t (by omega)).get ((b10.cell (p := ⟨0, 0, none⟩) (cell_lt he9)).trans he9)
    rw [getText_put t (by omega)] at hT
    simp only [tans1, tans2, Option.isSome_some] at hT
    have HT := hide hT
    rw [hlu] at HT ⊢
    clear hT ou10
    go_wp2_with fail
    refine (unhide HT).mono ?_
    rintro e w11 ⟨rfl, b11⟩
    have bb11 := bb10.trans (b11.mono s10)
    have s11 := bb11.size
    go_upto_region 15 with fail
    go_cut [148] (fun c wx => c = .bool false ∧ wx = w11)
    case first =>
      by_cases hp : 0 < lb
      · obtain ⟨rfl, rfl, rfl⟩ := unhide HX hp
        go_wp2_with fail
        go_meet
        exact ⟨by simp, rfl⟩
      · have hd0 : decide ((0 : Int) < (lb : Int)) = false := by simp; omega
        go_wp2_with fail
        go_meet
        exact ⟨by simp, rfl⟩
    case rest =>
      obtain ⟨rfl, rfl⟩ := hcut
      clear HX HG HT HO9 HB8 HU8 HS hE8 hlb hlu hpl htl hx ht hd hs hts hss hdb
      go_wp2_with fail
      refine (drawGetNum_any ao ca xs _ ((unhide HC).below bb11 (Nat.le_refl _))).mono ?_
      rintro e w12 ⟨vr, ys, k, rfl, hyl, hby, oy, b12⟩
      have bb12 := bb11.trans (b12.mono s11)
      have s12 := bb12.size
      have he12 : w12.cell? ⟨0, 0, none⟩ = some (.iface u pv) := by
        have h0 : 0 < w0.heap.size := by obtain ⟨_, _, h⟩ := (unhide HE).no; exact cell_lt h
        have e0 : w0.cell? ⟨0, 0, none⟩ = some (.iface u pv) := (b9.cell (p := ⟨0, 0, none⟩) h0).symm.trans he9
        exact (bb12.cell (p := ⟨0, 0, none⟩) h0).trans e0
      obtain ⟨z, hz⟩ : ∃ n, ans1 (getNum ys k) = n := ⟨_, rfl⟩
      obtain ⟨st, hst⟩ : ∃ n, ans2 (getNum ys k) = n := ⟨_, rfl⟩
      obtain ⟨one, hone⟩ : ∃ n, (getNum ys k).isSome = n := ⟨_, rfl⟩
      have hG := fun w' (hb : Below w12.heap.size w12 w') => getNum_any vr ys k u pv w' ((oy.below hb).rb (by omega)) hby.get ((hb.cell (p := ⟨0, 0, none⟩) (cell_lt he12)).trans he12)
      have hP := fun w' (hb : Below w12.heap.size w12 w') => specGet_ans vr ys k w' ((oy.below hb).rb (by omega)) hby.get
      rw [hz, hst, hone] at hG hP
      have HZ : Hid (one = true → ∃ kk e : Nat, k = kk ∧ st = (kk : Int) + e ∧ kk + e ≤ ys.length ∧ kk < ys.length ∧ (ys.drop kk).take e = putAns z) := by
        intro h1
        cases hn : getNum ys k with
        | none => rw [hn] at hone; subst hone; cases h1
        | some p =>
          obtain ⟨m, q⟩ := p
          rw [hn] at hz hst
          have hz' : m = z := hz
          have hq' : q = st := hst
          subst hz' hq'
          obtain ⟨kk, e, h1, h2, h3, h4, h5, h6⟩ := getNum_back ys hby k m q hn
          have bd := getNum_bd ys hby.get k m q hn
          refine ⟨kk, e, h1, h2, h3, ?_, h6⟩
          have hpos : 0 < (putAns m).length := by
            obtain ⟨m', rfl⟩ := Int.eq_ofNat_of_zero_le h4
            rw [putAns_yes m' (by omega)]; exact (put_len 4 m').2
          rw [← h6] at hpos
          simp at hpos
          omega
      have HG := hide hG
      have HP := hide hP
      have HY := hide oy
      clear hG hP hz hst hone oy
      go_wp2_with fail
      refine (unhide HG _ (Below.refl _ _)).mono ?_
      rintro e w13 ⟨rfl, b13⟩
      have bb13 := bb12.trans (b13.mono s12)
      have s13 := bb13.size
      go_wp2_with fail
      refine (unhide HP _ b13).mono ?_
      rintro e w13' ⟨rfl, rfl⟩
      go_wp2_with fail
      refine (drawGetText_any ao ca xs _ ((unhide HC).below bb13 (Nat.le_refl _))).mono ?_
      rintro e w14 ⟨vt, zs, i3, rfl, hzl, hbz, oz, b14⟩
      have bb14 := bb13.trans (b14.mono s13)
      have s14 := bb14.size
      have b12_14 : Below w12.heap.size w12 w14 := b13.trans (b14.mono b13.size)
      have he14 := (b12_14.cell (p := ⟨0, 0, none⟩) (cell_lt he12)).trans he12
      obtain ⟨z3, hz3⟩ : ∃ n, tans1 (getText zs i3) = n := ⟨_, rfl⟩
      obtain ⟨st3, hst3⟩ : ∃ n, tans2 (getText zs i3) = n := ⟨_, rfl⟩
      obtain ⟨five, hfive⟩ : ∃ n, (getText zs i3).isSome = n := ⟨_, rfl⟩
      have hG3 := fun w' (hb : Below w14.heap.size w14 w') => getTextI_any vt zs i3 u pv w' ((oz.below hb).rb (by omega)) hbz.get ((hb.cell (p := ⟨0, 0, none⟩) (cell_lt he14)).trans he14)
      have hP3 := fun w' (hb : Below w14.heap.size w14 w') => specText_any vt zs i3 w' ((oz.below hb).rb (by omega)) hbz.get
      rw [hz3, hst3, hfive] at hG3 hP3
      have HZ3 : Hid (five = true → ∃ kk e : Nat, i3 = kk ∧ st3 = (kk : Int) + e ∧ kk + e ≤ zs.length ∧ kk < zs.length ∧ z3.size ≤ 1000 ∧ (zs.drop kk).take e = textAns z3) := by
        intro h1
        cases hn : getText zs i3 with
        | none => rw [hn] at hfive; subst hfive; cases h1
        | some p =>
          obtain ⟨m, q⟩ := p
          rw [hn] at hz3 hst3
          have hz' : m = z3 := hz3
          have hq' : q = st3 := hst3
          subst hz' hq'
          obtain ⟨kk, e, h1, h2, h3, h4, h6⟩ := getText_back zs hbz i3 q m hn (by omega)
          refine ⟨kk, e, h1, h2, h3, ?_, h4, h6⟩
          have hpos : 0 < (textAns m).length := by rw [textAns_len]; have := (put_len 4 m.size).2; omega
          rw [← h6] at hpos
          simp at hpos
          omega
      have HG3 := hide hG3
      have HP3 := hide hP3
      have HZO := hide oz
      clear hG3 hP3 hz3 hst3 hfive oz
      go_wp2_with fail
      refine (unhide HG3 _ (Below.refl _ _)).mono ?_
      rintro e w15 ⟨rfl, b15⟩
      have bb15 := bb14.trans (b15.mono s14)
      have s15 := bb15.size
      go_wp2_with fail
      refine (unhide HP3 _ b15).mono ?_
      rintro e w15' ⟨rfl, rfl⟩
      have ho1 : (one != one) = false := by simp
      have ho5 : (five != five) = false := by simp
      go_wp2_with fail
      refine (drawSplit_any ao ca xs _ ((unhide HC).below bb15 (Nat.le_refl _))).mono ?_
      rintro e w16 ⟨tx, by16, rfl, htx, hby16, b16⟩
      have bb16 := bb15.trans (b16.mono s15)
      have s16 := bb16.size
      have htxs : tx.size ≤ 6 := by
        simp only [splitTexts, List.mem_cons, List.not_mem_nil, or_false] at htx
        rcases htx with rfl | rfl | rfl | rfl | rfl | rfl <;> decide
      go_wp2_with fail
      refine (split_any tx by16 _ (by omega)).mono ?_
      rintro e w17 ⟨vp, rfl, op, b17⟩
      have bb17 := bb16.trans (b17.mono s16)
      have s17 := bb17.size
      have b14_17 : Below w14.heap.size w14 w17 := b15.trans ((b16.mono b15.size).trans (b17.mono (by have := b15.size; have := b16.size; omega)))
      have b12_17 : Below w12.heap.size w12 w17 := b12_14.trans (b14_17.mono b12_14.size)
      clear b12 b13 b14 b15 b16 b17 bb11 bb12 bb13 bb14 bb15 bb16 HG HP HG3 HP3 s10 s11 s12 s13 s14 s15 s16 b9 b10 b11 bb8 bb10 bx
      obtain ⟨bU, hbU⟩ : ∃ c : UInt8, (c.toNat : Int) = by16 := by
        rcases hby16 with rfl | rfl
        · exact ⟨44, rfl⟩
        · exact ⟨47, rfl⟩
      have hby : 0 ≤ by16 ∧ by16 ≤ 255 := by rcases hby16 with rfl | rfl <;> omega
      have hjoin := split_join tx bU
      rw [hbU] at hjoin
      have hpn : 0 < (splitAns tx by16).length := by simp [splitAns]
      have hpl17 : (splitAns tx by16).length ≤ 7 := by have := splitAns_len tx by16; omega
      obtain ⟨ps, hps⟩ : ∃ ps, splitAns tx by16 = ps := ⟨_, rfl⟩
      rw [hps] at op hjoin hpn hpl17
      clear hps
      rcases op.2 with ⟨_, h0⟩ | ⟨gp, pc, pcur, rfl, _⟩
      · omega
      have hpc : ∀ j, j < ps.length → w17.cell? ⟨gp, j, none⟩ = some (.string (ps.getD j ByteArray.empty)) := fun j hj => by
        have h1 := World.ownsRow.cellAt op j (by omega)
        rw [h1]; simp [List.getElem?_eq_getElem hj]
      have hgp : gp < w17.heap.size := cell_lt (hpc 0 hpn)
      have HJ := hide hjoin
      have HPC := hide hpc
      have hcv := one_str
      have hsz := one_size
      clear op hjoin hpc hby16 htx
      go_wp2_with fail
      go_loopw [38, 39] (fun bk j wr => ∃ jj : Nat, jj ≤ ps.length ∧ j = .int .i64 jj ∧ bk = .string ⟨(joinTo bU ps jj).toArray⟩ ∧ Below w17.heap.size w17 wr) (fun _ j _ => ps.length - (intOf j).toNat)
      case atStart => exact ⟨0, by omega, rfl, rfl, Below.refl _ _⟩
      case round =>
        obtain ⟨jj, hjj, rfl, rfl, br⟩ := hrel
        have hsr := br.size
        by_cases hlt : jj < ps.length
        · have hc := (br.cell (p := ⟨gp, jj, none⟩) hgp).trans (unhide HPC jj hlt)
          have hle := joinTo_le bU ps (jj + 1) ps.length (by omega)
          rw [unhide HJ] at hle
          have hle6 : (joinTo bU ps (jj + 1)).length ≤ 6 := by simp at hle; omega
          have hl6 := joinTo_le bU ps jj (jj + 1) (by omega)
          have hp6 : (ps.getD jj ByteArray.empty).size ≤ 6 := by
            rw [joinTo] at hle6; simp at hle6; simp; omega
          have hll : (joinTo bU ps jj).length ≤ 6 := by omega
          have HJ1 := hide (show joinTo bU ps (jj + 1) = (if 0 < jj then joinTo bU ps jj ++ [bU] else joinTo bU ps jj) ++ (ps.getD jj ByteArray.empty).data.toList from rfl)
          clear hle hle6 hl6
          generalize ps.getD jj ByteArray.empty = pj at *
          generalize joinTo bU ps jj = lj at *
          have hca : (wr.alloc (.cells #[.int .u8 by16] 5)).cell? ⟨gp, jj, none⟩ = some (.string pj) := (((Below.refl wr.heap.size wr).alloc (Nat.le_refl _) _).cell (p := ⟨gp, jj, none⟩) (by show gp < _; omega)).trans hc
          have hba : Below w17.heap.size w17 (wr.alloc (.cells #[.int .u8 by16] 5)) := br.alloc hsr _
          by_cases hj0 : 0 < jj
          · go_wp2
            go_roundw
            case rel => exact ⟨jj + 1, by omega, by go_num, by rw [unhide HJ1, if_pos hj0, join_with _ _ _ hbU], hba⟩
            case measure => simp [intOf]; omega
          · go_wp2
            go_roundw
            case rel => exact ⟨jj + 1, by omega, by go_num, by rw [unhide HJ1, if_neg hj0, join_first], br⟩
            case measure => simp [intOf]; omega
        · have hjn : jj = ps.length := by omega
          have hbk : (⟨(joinTo bU ps jj).toArray⟩ : ByteArray) = tx := by
            rw [hjn, unhide HJ]
          rw [hbk]
          clear hbk
          have b12r : Below w12.heap.size w12 wr := b12_17.trans (br.mono b12_17.size)
          have b14r : Below w14.heap.size w14 wr := b14_17.trans (br.mono b14_17.size)
          have b0r : Below w0.heap.size w0 wr := bb17.trans (br.mono s17)
          have s0r := b0r.size
          obtain ⟨sz, hsz'⟩ : ∃ sz, strOfNums (putAns z) = sz := ⟨_, rfl⟩
          obtain ⟨s3, hs3'⟩ : ∃ sz, strOfNums (textAns z3) = sz := ⟨_, rfl⟩
          have cP : ∀ w', Calls Tryd.prog 6 #[.int .i64 z] w' fun e w'' => ∃ v', e = .returned v' ∧ (∀ w3, Below w''.heap.size w'' w3 → (convert 22 9 v').run Tryd.prog w3 = .ok (.string sz) w3) ∧ Below w'.heap.size w' w'' := fun w' => (implPut z w').mono (by rintro e w'' ⟨v', rfl, o, b⟩; exact ⟨v', rfl, fun w3 h3 => by rw [← hsz']; exact conv_own (OB.below o h3) (by have := putAns_len z; omega), b⟩)
          have CP := hide cP
          clear cP HJ HPC hcv hsz
          cases one
          · cases five
            · go_wp2_with fail
              go_quiet (fail)
              go_wp2
              go_ret
              exact ⟨rfl, below_drewN b0r _⟩
            · obtain ⟨k3, e3, rfl, rfl, hke3, hkl3, hz31, hput3⟩ := unhide HZ3 rfl
              have hyo3 := (unhide HZO).below b14r
              rcases hyo3.2 with ⟨_, h0⟩ | ⟨gt, tc, tcur, rfl, _⟩
              · omega
              have hrc3 : zs.length ≤ tc ∧ tc ≤ 9223372036854775807 := by
                obtain ⟨_, _, _, h1, h2, _⟩ := hyo3.rb (by omega)
                simp only [Value.slice.injEq, maxLen] at h1 h2; omega
              have hrk3 : ¬ tc = k3 := by omega
              have cR3 : ∀ w', Below wr.heap.size wr w' → (convert 22 9 (.slice (some ⟨gt, k3, none⟩) e3 (tc - k3))).run Tryd.prog w' = .ok (.string s3) w' := fun w' hb => by
                have ho' := hyo3.below hb
                have hcell : ∀ j, j < zs.length → w'.cell? ⟨gt, 0 + j, none⟩ = some (.int .u8 (zs.getD j 0)) := fun j hj => by
                  rw [Nat.zero_add, World.ownsRow.cellAt ho' j (by omega)]; simp [List.getElem?_eq_getElem hj]
                have := run_convert_bytes_arg (P := Tryd.prog) w' 22 5 Tryd.underlying22 Tryd.underlying5 gt (0 + k3) e3 (tc - k3) ((zs.drop k3).take e3) (win_len zs k3 e3 hke3) (win_cells hcell hke3) 9 Tryd.underlying9
                rw [Nat.zero_add, hput3, hs3'] at this
                exact this
              have CR3 := hide cR3
              clear cR3 hyo3 HZO hput3
              have cT : ∀ w', Calls Tryd.prog 8 #[.string z3] w' fun e w'' => ∃ v', e = .returned v' ∧ (∀ w3, Below w''.heap.size w'' w3 → (convert 22 9 v').run Tryd.prog w3 = .ok (.string s3) w3) ∧ Below w'.heap.size w' w'' := fun w' => (implText z3 w' (by omega)).mono (by rintro e w'' ⟨v', rfl, o, b⟩; exact ⟨v', rfl, fun w3 h3 => by rw [← hs3']; exact conv_own (OB.below o h3) (by rw [textAns_len]; have := (put_len 4 z3.size).1; omega), b⟩)
              have CT := hide cT
              clear cT
              have bwr : Below wr.heap.size wr wr.drew := Below.drew (Below.refl _ _)
              clear hsz' hs3' HZ HZ3
              have T3 : ∀ w', (Instr.slice 22 (.slice (some ⟨gt, 0, none⟩) zs.length tc) (some (.int .i64 (k3 : Int))) (some (.int .i64 ((k3 : Int) + (e3 : Int)))) none).run Tryd.prog w' = .ok (.slice (some ⟨gt, k3, none⟩) e3 (tc - k3)) w' := fun w' => cut_mid gt zs.length tc k3 e3 w' (by omega) hrk3
              go_wp2_with fail
              as_aux_lemma =>
                refine wp_region_noPanic ?_
                refine wp_region_held_drew (S := (fun w' => (convert 22 9 (.slice (some ⟨gt, k3, none⟩) e3 (tc - k3))).run Tryd.prog w' = .ok (.string s3) w')) (by kernel_rfl) (unhide CR3 _ bwr) (fun hHeld => ?_)
                refine take_at (i := 0) (d := 232) (v := ?_) rfl rfl (by kernel_rfl) (by kernel_rfl) (by kernel_rfl) (fun _ _ _ h => h) (Or.inl ⟨by rfl, ?_⟩) (by assumption) ?_
                rotate_left
                · intro w hSw
                  try dsimp only at hSw
                  go_simp
                  try with_reducible rfl
                simp only [Act.put, List.setIfInBounds_toArray, List.set_cons_zero, List.set_cons_succ]
                refine take_at (i := 1) (d := 233) (v := ?_) rfl rfl (by kernel_rfl) (by kernel_rfl) (by kernel_rfl) (fun _ _ _ h => h) (Or.inl ⟨by rfl, ?_⟩) (by assumption) ?_
                rotate_left
                · intro w hSw
                  try dsimp only at hSw
                  go_simp
                  try with_reducible rfl
                simp only [Act.put, List.setIfInBounds_toArray, List.set_cons_zero, List.set_cons_succ]
                refine take_at (i := 2) (d := 234) (v := ?_) rfl rfl (by kernel_rfl) (by kernel_rfl) (by kernel_rfl) (fun _ _ _ h => h) (Or.inl ⟨by rfl, ?_⟩) (by assumption) ?_
                rotate_left
                · intro w hSw
                  try dsimp only at hSw
                  go_simp
                  try with_reducible rfl
                simp only [Act.put, List.setIfInBounds_toArray, List.set_cons_zero, List.set_cons_succ]
                refine take_at (i := 3) (d := 235) (v := ?_) rfl rfl (by kernel_rfl) (by kernel_rfl) (by kernel_rfl) (fun _ _ _ h => h) (Or.inl ⟨by rfl, ?_⟩) (by assumption) ?_
                rotate_left
                · intro w hSw
                  try dsimp only at hSw
                  go_simp
                  try with_reducible rfl
                simp only [Act.put, List.setIfInBounds_toArray, List.set_cons_zero, List.set_cons_succ]
                refine take_at (i := 4) (d := 236) (v := ?_) rfl rfl (by kernel_rfl) (by kernel_rfl) (by kernel_rfl) (fun _ _ _ h => h) (Or.inl ⟨by rfl, ?_⟩) (by assumption) ?_
                rotate_left
                · intro w hSw
                  try dsimp only at hSw
                  go_simp
                  try with_reducible rfl
                simp only [Act.put, List.setIfInBounds_toArray, List.set_cons_zero, List.set_cons_succ]
                refine take_at (i := 5) (d := 237) (v := ?_) rfl rfl (by kernel_rfl) (by kernel_rfl) (by kernel_rfl) (fun _ _ _ h => h) (Or.inl ⟨by rfl, ?_⟩) (by assumption) ?_
                rotate_left
                · intro w hSw
                  try dsimp only at hSw
                  go_simp
                  try with_reducible rfl
                simp only [Act.put, List.setIfInBounds_toArray, List.set_cons_zero, List.set_cons_succ]
                refine take_at (i := 6) (d := 238) (v := ?_) rfl rfl (by kernel_rfl) (by kernel_rfl) (by kernel_rfl) (fun _ _ _ h => h) (Or.inl ⟨by rfl, ?_⟩) (by assumption) ?_
                rotate_left
                · intro w hSw
                  try dsimp only at hSw
                  go_simp
                  try with_reducible rfl
                simp only [Act.put, List.setIfInBounds_toArray, List.set_cons_zero, List.set_cons_succ]
                refine take_at (i := 7) (d := 239) (v := undef) rfl rfl (by kernel_rfl) (by kernel_rfl) (by kernel_rfl) (fun _ _ _ h => h) (Or.inr ⟨by rfl, rfl⟩) (by assumption) ?_
                simp only [Act.put, List.setIfInBounds_toArray, List.set_cons_zero, List.set_cons_succ]
                refine take_at (i := 8) (d := 240) (v := undef) rfl rfl (by kernel_rfl) (by kernel_rfl) (by kernel_rfl) (fun _ _ _ h => h) (Or.inr ⟨by rfl, rfl⟩) (by assumption) ?_
                simp only [Act.put, List.setIfInBounds_toArray, List.set_cons_zero, List.set_cons_succ]
                refine take_at (i := 9) (d := 241) (v := undef) rfl rfl (by kernel_rfl) (by kernel_rfl) (by kernel_rfl) (fun _ _ _ h => h) (Or.inr ⟨by rfl, rfl⟩) (by assumption) ?_
                simp only [Act.put, List.setIfInBounds_toArray, List.set_cons_zero, List.set_cons_succ]
                refine take_at (i := 10) (d := 242) (v := undef) rfl rfl (by kernel_rfl) (by kernel_rfl) (by kernel_rfl) (fun _ _ _ h => h) (Or.inr ⟨by rfl, rfl⟩) (by assumption) ?_
                simp only [Act.put, List.setIfInBounds_toArray, List.set_cons_zero, List.set_cons_succ]
                refine take_at (i := 11) (d := 243) (v := undef) rfl rfl (by kernel_rfl) (by kernel_rfl) (by kernel_rfl) (fun _ _ _ h => h) (Or.inr ⟨by rfl, rfl⟩) (by assumption) ?_
                simp only [Act.put, List.setIfInBounds_toArray, List.set_cons_zero, List.set_cons_succ]
                refine take_at (i := 12) (d := 244) (v := undef) rfl rfl (by kernel_rfl) (by kernel_rfl) (by kernel_rfl) (fun _ _ _ h => h) (Or.inr ⟨by rfl, rfl⟩) (by assumption) ?_
                simp only [Act.put, List.setIfInBounds_toArray, List.set_cons_zero, List.set_cons_succ]
                refine take_at (i := 13) (d := 245) (v := undef) rfl rfl (by kernel_rfl) (by kernel_rfl) (by kernel_rfl) (fun _ _ _ h => h) (Or.inr ⟨by rfl, rfl⟩) (by assumption) ?_
                simp only [Act.put, List.setIfInBounds_toArray, List.set_cons_zero, List.set_cons_succ]
                refine take_at (i := 14) (d := 246) (v := undef) rfl rfl (by kernel_rfl) (by kernel_rfl) (by kernel_rfl) (fun _ _ _ h => h) (Or.inr ⟨by rfl, rfl⟩) (by assumption) ?_
                simp only [Act.put, List.setIfInBounds_toArray, List.set_cons_zero, List.set_cons_succ]
                refine take_at (i := 15) (d := 247) (v := undef) rfl rfl (by kernel_rfl) (by kernel_rfl) (by kernel_rfl) (fun _ _ _ h => h) (Or.inr ⟨by rfl, rfl⟩) (by assumption) ?_
                simp only [Act.put, List.setIfInBounds_toArray, List.set_cons_zero, List.set_cons_succ]
                refine take_at (i := 16) (d := 248) (v := ?_) rfl rfl (by kernel_rfl) (by kernel_rfl) (by kernel_rfl) (fun _ _ _ h => h) (Or.inl ⟨by rfl, ?_⟩) (by assumption) ?_
                rotate_left
                · intro w hSw
                  try dsimp only at hSw
                  go_simp
                  try with_reducible rfl
                simp only [Act.put, List.setIfInBounds_toArray, List.set_cons_zero, List.set_cons_succ]
                refine take_at (i := 17) (d := 249) (v := ?_) rfl rfl (by kernel_rfl) (by kernel_rfl) (by kernel_rfl) (fun _ _ _ h => h) (Or.inl ⟨by rfl, ?_⟩) (by assumption) ?_
                rotate_left
                · intro w hSw
                  try dsimp only at hSw
                  go_simp
                  try with_reducible rfl
                simp only [Act.put, List.setIfInBounds_toArray, List.set_cons_zero, List.set_cons_succ]
                refine take_at (i := 18) (d := 250) (v := ?_) rfl rfl (by kernel_rfl) (by kernel_rfl) (by kernel_rfl) (fun _ _ _ h => h) (Or.inl ⟨by rfl, ?_⟩) (by assumption) ?_
                rotate_left
                · intro w hSw
                  try dsimp only at hSw
                  go_simp
                  try with_reducible rfl
                simp only [Act.put, List.setIfInBounds_toArray, List.set_cons_zero, List.set_cons_succ]
                refine take_at (i := 19) (d := 251) (v := ?_) rfl rfl (by kernel_rfl) (by kernel_rfl) (by kernel_rfl) (fun _ _ _ h => h) (Or.inl ⟨by rfl, ?_⟩) (by assumption) ?_
                rotate_left
                · intro w hSw
                  try dsimp only at hSw
                  go_simp
                  try with_reducible rfl
                simp only [Act.put, List.setIfInBounds_toArray, List.set_cons_zero, List.set_cons_succ]
                refine take_at (i := 20) (d := 252) (v := ?_) rfl rfl (by kernel_rfl) (by kernel_rfl) (by kernel_rfl) (fun _ _ _ h => h) (Or.inl ⟨by rfl, ?_⟩) (by assumption) ?_
                rotate_left
                · intro w hSw
                  try dsimp only at hSw
                  go_simp
                  try with_reducible rfl
                simp only [Act.put, List.setIfInBounds_toArray, List.set_cons_zero, List.set_cons_succ]
                refine take_at (i := 21) (d := 253) (v := ?_) rfl rfl (by kernel_rfl) (by kernel_rfl) (by kernel_rfl) (fun _ _ _ h => h) (Or.inl ⟨by rfl, ?_⟩) (by assumption) ?_
                rotate_left
                · intro w hSw
                  try dsimp only at hSw
                  go_simp
                  try with_reducible rfl
                simp only [Act.put, List.setIfInBounds_toArray, List.set_cons_zero, List.set_cons_succ]
                refine take_at (i := 22) (d := 254) (v := ?_) rfl rfl (by kernel_rfl) (by kernel_rfl) (by kernel_rfl) (fun _ _ _ h => h) (Or.inl ⟨by rfl, ?_⟩) (by assumption) ?_
                rotate_left
                · intro w hSw
                  try dsimp only at hSw
                  go_simp
                  try with_reducible rfl
                simp only [Act.put, List.setIfInBounds_toArray, List.set_cons_zero, List.set_cons_succ]
                refine take_at (i := 25) (d := 257) (v := ?_) rfl rfl (by kernel_rfl) (by kernel_rfl) (by kernel_rfl) (fun _ _ _ h => h) (Or.inl ⟨by rfl, ?_⟩) (by assumption) ?_
                rotate_left
                · intro w hSw
                  try dsimp only at hSw
                  go_simp
                  try with_reducible rfl
                simp only [Act.put, List.setIfInBounds_toArray, List.set_cons_zero, List.set_cons_succ]
                refine take_at (i := 26) (d := 258) (v := ?_) rfl rfl (by kernel_rfl) (by kernel_rfl) (by kernel_rfl) (fun _ _ _ h => h) (Or.inl ⟨by rfl, ?_⟩) (by assumption) ?_
                rotate_left
                · intro w hSw
                  try dsimp only at hSw
                  go_simp
                  try with_reducible rfl
                simp only [Act.put, List.setIfInBounds_toArray, List.set_cons_zero, List.set_cons_succ]
                refine take_at (i := 27) (d := 259) (v := ?_) rfl rfl (by kernel_rfl) (by kernel_rfl) (by kernel_rfl) (fun _ _ _ h => h) (Or.inl ⟨by rfl, ?_⟩) (by assumption) ?_
                rotate_left
                · intro w hSw
                  try dsimp only at hSw
                  go_simp
                  try with_reducible rfl
                simp only [Act.put, List.setIfInBounds_toArray, List.set_cons_zero, List.set_cons_succ]
                refine take_at (i := 28) (d := 260) (v := ?_) rfl rfl (by kernel_rfl) (by kernel_rfl) (by kernel_rfl) (fun _ _ _ h => h) (Or.inl ⟨by rfl, ?_⟩) (by assumption) ?_
                rotate_left
                · intro w hSw
                  try dsimp only at hSw
                  go_simp
                  try with_reducible rfl
                simp only [Act.put, List.setIfInBounds_toArray, List.set_cons_zero, List.set_cons_succ]
                refine take_at (i := 29) (d := 261) (v := ?_) rfl rfl (by kernel_rfl) (by kernel_rfl) (by kernel_rfl) (fun _ _ _ h => h) (Or.inl ⟨by rfl, ?_⟩) (by assumption) ?_
                rotate_left
                · intro w hSw
                  try dsimp only at hSw
                  go_simp
                  try with_reducible rfl
                simp only [Act.put, List.setIfInBounds_toArray, List.set_cons_zero, List.set_cons_succ]
                refine ready_at (i := 23) rfl (by kernel_rfl) (fun KK hKK => ?_)
                go_simp
                refine (unhide CT _).mono ?_
                rintro _ wK ⟨vk, rfl, cvk, bK⟩
                have bKK : Below wr.heap.size wr wK := bwr.trans (bK.mono bwr.size)
                have hck := cvk _ (Below.refl _ _)
                clear cvk bK
                clear hHeld
                refine hKK.out _ _ (unhide CR3 _ bKK) (fun hHeld => ?_)
                clear hKK KK
                refine ready_at (i := 24) rfl (by kernel_rfl) (fun KK hKK => ?_)
                go_simp
                clear hHeld
                refine hKK.out _ _ (unhide CR3 _ bKK) (fun hHeld => ?_)
                clear hKK KK
                clear hck
                refine take_at (i := 30) (d := 262) (v := ?_) rfl rfl (by kernel_rfl) (by kernel_rfl) (by kernel_rfl) (fun _ _ _ h => h) (Or.inl ⟨by rfl, ?_⟩) (by assumption) ?_
                rotate_left
                · intro w hSw
                  try dsimp only at hSw
                  go_simp
                  try with_reducible rfl
                simp only [Act.put, List.setIfInBounds_toArray, List.set_cons_zero, List.set_cons_succ]
                refine take_at (i := 31) (d := 263) (v := ?_) rfl rfl (by kernel_rfl) (by kernel_rfl) (by kernel_rfl) (fun _ _ _ h => h) (Or.inl ⟨by rfl, ?_⟩) (by assumption) ?_
                rotate_left
                · intro w hSw
                  try dsimp only at hSw
                  go_simp
                  try with_reducible rfl
                simp only [Act.put, List.setIfInBounds_toArray, List.set_cons_zero, List.set_cons_succ]
                refine take_at (i := 32) (d := 264) (v := ?_) rfl rfl (by kernel_rfl) (by kernel_rfl) (by kernel_rfl) (fun _ _ _ h => h) (Or.inl ⟨by rfl, ?_⟩) (by assumption) ?_
                rotate_left
                · intro w hSw
                  try dsimp only at hSw
                  go_simp
                  try with_reducible rfl
                simp only [Act.put, List.setIfInBounds_toArray, List.set_cons_zero, List.set_cons_succ]
                refine take_at (i := 33) (d := 2) (v := ?_) rfl rfl (by kernel_rfl) (by kernel_rfl) (by kernel_rfl) (fun _ _ _ h => h) (Or.inl ⟨by rfl, ?_⟩) (by assumption) ?_
                rotate_left
                · intro w hSw
                  try dsimp only at hSw
                  go_simp
                  try with_reducible rfl
                simp only [Act.put, List.setIfInBounds_toArray, List.set_cons_zero, List.set_cons_succ]
                clear hHeld
                refine wpAnyH_done (by kernel_rfl) ?_ _
                refine NoPanic.normal ?_
                go_wp2
                go_ret
                exact ⟨rfl, b0r.trans (bKK.mono s0r)⟩
          · cases five
            · obtain ⟨kk, e, rfl, rfl, hke, hkl, hput⟩ := unhide HZ rfl
              have hyo := (unhide HY).below b12r
              rcases hyo.2 with ⟨_, h0⟩ | ⟨gr, rc, rcur, rfl, _⟩
              · omega
              have hrc1 : ys.length ≤ rc ∧ rc ≤ 9223372036854775807 := by
                obtain ⟨_, _, _, h1, h2, _⟩ := hyo.rb (by omega)
                simp only [Value.slice.injEq, maxLen] at h1 h2; omega
              have hrk1 : ¬ rc = kk := by omega
              have cR1 : ∀ w', Below wr.heap.size wr w' → (convert 22 9 (.slice (some ⟨gr, kk, none⟩) e (rc - kk))).run Tryd.prog w' = .ok (.string sz) w' := fun w' hb => by
                have ho' := hyo.below hb
                have hcell : ∀ j, j < ys.length → w'.cell? ⟨gr, 0 + j, none⟩ = some (.int .u8 (ys.getD j 0)) := fun j hj => by
                  rw [Nat.zero_add, World.ownsRow.cellAt ho' j (by omega)]; simp [List.getElem?_eq_getElem hj]
                have := run_convert_bytes_arg (P := Tryd.prog) w' 22 5 Tryd.underlying22 Tryd.underlying5 gr (0 + kk) e (rc - kk) ((ys.drop kk).take e) (win_len ys kk e hke) (win_cells hcell hke) 9 Tryd.underlying9
                rw [Nat.zero_add, hput, hsz'] at this
                exact this
              have CR := hide cR1
              clear cR1 hyo HY hput
              have bwr : Below wr.heap.size wr wr.drew := Below.drew (Below.refl _ _)
              clear hsz' hs3' HZ HZ3
              have T1 : ∀ w', (Instr.slice 22 (.slice (some ⟨gr, 0, none⟩) ys.length rc) (some (.int .i64 (kk : Int))) (some (.int .i64 ((kk : Int) + (e : Int)))) none).run Tryd.prog w' = .ok (.slice (some ⟨gr, kk, none⟩) e (rc - kk)) w' := fun w' => cut_mid gr ys.length rc kk e w' (by omega) hrk1
              go_wp2_with fail
              as_aux_lemma =>
                refine wp_region_noPanic ?_
                refine wp_region_held_drew (S := (fun w' => (convert 22 9 (.slice (some ⟨gr, kk, none⟩) e (rc - kk))).run Tryd.prog w' = .ok (.string sz) w')) (by kernel_rfl) (unhide CR _ bwr) (fun hHeld => ?_)
                refine take_at (i := 0) (d := 232) (v := ?_) rfl rfl (by kernel_rfl) (by kernel_rfl) (by kernel_rfl) (fun _ _ _ h => h) (Or.inl ⟨by rfl, ?_⟩) (by assumption) ?_
                rotate_left
                · intro w hSw
                  try dsimp only at hSw
                  go_simp
                  try with_reducible rfl
                simp only [Act.put, List.setIfInBounds_toArray, List.set_cons_zero, List.set_cons_succ]
                refine take_at (i := 1) (d := 233) (v := ?_) rfl rfl (by kernel_rfl) (by kernel_rfl) (by kernel_rfl) (fun _ _ _ h => h) (Or.inl ⟨by rfl, ?_⟩) (by assumption) ?_
                rotate_left
                · intro w hSw
                  try dsimp only at hSw
                  go_simp
                  try with_reducible rfl
                simp only [Act.put, List.setIfInBounds_toArray, List.set_cons_zero, List.set_cons_succ]
                refine take_at (i := 2) (d := 234) (v := ?_) rfl rfl (by kernel_rfl) (by kernel_rfl) (by kernel_rfl) (fun _ _ _ h => h) (Or.inl ⟨by rfl, ?_⟩) (by assumption) ?_
                rotate_left
                · intro w hSw
                  try dsimp only at hSw
                  go_simp
                  try with_reducible rfl
                simp only [Act.put, List.setIfInBounds_toArray, List.set_cons_zero, List.set_cons_succ]
                refine take_at (i := 3) (d := 235) (v := ?_) rfl rfl (by kernel_rfl) (by kernel_rfl) (by kernel_rfl) (fun _ _ _ h => h) (Or.inl ⟨by rfl, ?_⟩) (by assumption) ?_
                rotate_left
                · intro w hSw
                  try dsimp only at hSw
                  go_simp
                  try with_reducible rfl
                simp only [Act.put, List.setIfInBounds_toArray, List.set_cons_zero, List.set_cons_succ]
                refine take_at (i := 4) (d := 236) (v := ?_) rfl rfl (by kernel_rfl) (by kernel_rfl) (by kernel_rfl) (fun _ _ _ h => h) (Or.inl ⟨by rfl, ?_⟩) (by assumption) ?_
                rotate_left
                · intro w hSw
                  try dsimp only at hSw
                  go_simp
                  try with_reducible rfl
                simp only [Act.put, List.setIfInBounds_toArray, List.set_cons_zero, List.set_cons_succ]
                refine take_at (i := 5) (d := 237) (v := ?_) rfl rfl (by kernel_rfl) (by kernel_rfl) (by kernel_rfl) (fun _ _ _ h => h) (Or.inl ⟨by rfl, ?_⟩) (by assumption) ?_
                rotate_left
                · intro w hSw
                  try dsimp only at hSw
                  go_simp
                  try with_reducible rfl
                simp only [Act.put, List.setIfInBounds_toArray, List.set_cons_zero, List.set_cons_succ]
                refine take_at (i := 6) (d := 238) (v := ?_) rfl rfl (by kernel_rfl) (by kernel_rfl) (by kernel_rfl) (fun _ _ _ h => h) (Or.inl ⟨by rfl, ?_⟩) (by assumption) ?_
                rotate_left
                · intro w hSw
                  try dsimp only at hSw
                  go_simp
                  try with_reducible rfl
                simp only [Act.put, List.setIfInBounds_toArray, List.set_cons_zero, List.set_cons_succ]
                refine take_at (i := 7) (d := 239) (v := ?_) rfl rfl (by kernel_rfl) (by kernel_rfl) (by kernel_rfl) (fun _ _ _ h => h) (Or.inl ⟨by rfl, ?_⟩) (by assumption) ?_
                rotate_left
                · intro w hSw
                  try dsimp only at hSw
                  go_simp
                  try with_reducible rfl
                simp only [Act.put, List.setIfInBounds_toArray, List.set_cons_zero, List.set_cons_succ]
                refine take_at (i := 10) (d := 242) (v := ?_) rfl rfl (by kernel_rfl) (by kernel_rfl) (by kernel_rfl) (fun _ _ _ h => h) (Or.inl ⟨by rfl, ?_⟩) (by assumption) ?_
                rotate_left
                · intro w hSw
                  try dsimp only at hSw
                  go_simp
                  try with_reducible rfl
                simp only [Act.put, List.setIfInBounds_toArray, List.set_cons_zero, List.set_cons_succ]
                refine take_at (i := 11) (d := 243) (v := ?_) rfl rfl (by kernel_rfl) (by kernel_rfl) (by kernel_rfl) (fun _ _ _ h => h) (Or.inl ⟨by rfl, ?_⟩) (by assumption) ?_
                rotate_left
                · intro w hSw
                  try dsimp only at hSw
                  go_simp
                  try with_reducible rfl
                simp only [Act.put, List.setIfInBounds_toArray, List.set_cons_zero, List.set_cons_succ]
                refine take_at (i := 12) (d := 244) (v := ?_) rfl rfl (by kernel_rfl) (by kernel_rfl) (by kernel_rfl) (fun _ _ _ h => h) (Or.inl ⟨by rfl, ?_⟩) (by assumption) ?_
                rotate_left
                · intro w hSw
                  try dsimp only at hSw
                  go_simp
                  try with_reducible rfl
                simp only [Act.put, List.setIfInBounds_toArray, List.set_cons_zero, List.set_cons_succ]
                refine take_at (i := 13) (d := 245) (v := ?_) rfl rfl (by kernel_rfl) (by kernel_rfl) (by kernel_rfl) (fun _ _ _ h => h) (Or.inl ⟨by rfl, ?_⟩) (by assumption) ?_
                rotate_left
                · intro w hSw
                  try dsimp only at hSw
                  go_simp
                  try with_reducible rfl
                simp only [Act.put, List.setIfInBounds_toArray, List.set_cons_zero, List.set_cons_succ]
                refine take_at (i := 14) (d := 246) (v := ?_) rfl rfl (by kernel_rfl) (by kernel_rfl) (by kernel_rfl) (fun _ _ _ h => h) (Or.inl ⟨by rfl, ?_⟩) (by assumption) ?_
                rotate_left
                · intro w hSw
                  try dsimp only at hSw
                  go_simp
                  try with_reducible rfl
                simp only [Act.put, List.setIfInBounds_toArray, List.set_cons_zero, List.set_cons_succ]
                refine ready_at (i := 8) rfl (by kernel_rfl) (fun KK hKK => ?_)
                go_simp
                refine (unhide CP _).mono ?_
                rintro _ wP ⟨vq, rfl, cvq, bP⟩
                have bPP : Below wr.heap.size wr wP := bwr.trans bP
                have hcq := cvq _ (Below.refl _ _)
                clear cvq bP
                clear hHeld
                refine hKK.out _ _ (unhide CR _ bPP) (fun hHeld => ?_)
                clear hKK KK
                refine ready_at (i := 9) rfl (by kernel_rfl) (fun KK hKK => ?_)
                go_simp
                clear hHeld
                refine hKK.out _ _ (unhide CR _ bPP) (fun hHeld => ?_)
                clear hKK KK
                clear hcq
                refine take_at (i := 15) (d := 247) (v := ?_) rfl rfl (by kernel_rfl) (by kernel_rfl) (by kernel_rfl) (fun _ _ _ h => h) (Or.inl ⟨by rfl, ?_⟩) (by assumption) ?_
                rotate_left
                · intro w hSw
                  try dsimp only at hSw
                  go_simp
                  try with_reducible rfl
                simp only [Act.put, List.setIfInBounds_toArray, List.set_cons_zero, List.set_cons_succ]
                refine take_at (i := 16) (d := 248) (v := ?_) rfl rfl (by kernel_rfl) (by kernel_rfl) (by kernel_rfl) (fun _ _ _ h => h) (Or.inl ⟨by rfl, ?_⟩) (by assumption) ?_
                rotate_left
                · intro w hSw
                  try dsimp only at hSw
                  go_simp
                  try with_reducible rfl
                simp only [Act.put, List.setIfInBounds_toArray, List.set_cons_zero, List.set_cons_succ]
                refine take_at (i := 17) (d := 249) (v := ?_) rfl rfl (by kernel_rfl) (by kernel_rfl) (by kernel_rfl) (fun _ _ _ h => h) (Or.inl ⟨by rfl, ?_⟩) (by assumption) ?_
                rotate_left
                · intro w hSw
                  try dsimp only at hSw
                  go_simp
                  try with_reducible rfl
                simp only [Act.put, List.setIfInBounds_toArray, List.set_cons_zero, List.set_cons_succ]
                refine take_at (i := 18) (d := 250) (v := ?_) rfl rfl (by kernel_rfl) (by kernel_rfl) (by kernel_rfl) (fun _ _ _ h => h) (Or.inl ⟨by rfl, ?_⟩) (by assumption) ?_
                rotate_left
                · intro w hSw
                  try dsimp only at hSw
                  go_simp
                  try with_reducible rfl
                simp only [Act.put, List.setIfInBounds_toArray, List.set_cons_zero, List.set_cons_succ]
                refine take_at (i := 19) (d := 251) (v := ?_) rfl rfl (by kernel_rfl) (by kernel_rfl) (by kernel_rfl) (fun _ _ _ h => h) (Or.inl ⟨by rfl, ?_⟩) (by assumption) ?_
                rotate_left
                · intro w hSw
                  try dsimp only at hSw
                  go_simp
                  try with_reducible rfl
                simp only [Act.put, List.setIfInBounds_toArray, List.set_cons_zero, List.set_cons_succ]
                refine take_at (i := 20) (d := 252) (v := ?_) rfl rfl (by kernel_rfl) (by kernel_rfl) (by kernel_rfl) (fun _ _ _ h => h) (Or.inl ⟨by rfl, ?_⟩) (by assumption) ?_
                rotate_left
                · intro w hSw
                  try dsimp only at hSw
                  go_simp
                  try with_reducible rfl
                simp only [Act.put, List.setIfInBounds_toArray, List.set_cons_zero, List.set_cons_succ]
                refine take_at (i := 21) (d := 253) (v := ?_) rfl rfl (by kernel_rfl) (by kernel_rfl) (by kernel_rfl) (fun _ _ _ h => h) (Or.inl ⟨by rfl, ?_⟩) (by assumption) ?_
                rotate_left
                · intro w hSw
                  try dsimp only at hSw
                  go_simp
                  try with_reducible rfl
                simp only [Act.put, List.setIfInBounds_toArray, List.set_cons_zero, List.set_cons_succ]
                refine take_at (i := 22) (d := 254) (v := undef) rfl rfl (by kernel_rfl) (by kernel_rfl) (by kernel_rfl) (fun _ _ _ h => h) (Or.inr ⟨by rfl, rfl⟩) (by assumption) ?_
                simp only [Act.put, List.setIfInBounds_toArray, List.set_cons_zero, List.set_cons_succ]
                refine take_at (i := 23) (d := 255) (v := undef) rfl rfl (by kernel_rfl) (by kernel_rfl) (by kernel_rfl) (fun _ _ _ h => h) (Or.inr ⟨by rfl, rfl⟩) (by assumption) ?_
                simp only [Act.put, List.setIfInBounds_toArray, List.set_cons_zero, List.set_cons_succ]
                refine take_at (i := 24) (d := 256) (v := undef) rfl rfl (by kernel_rfl) (by kernel_rfl) (by kernel_rfl) (fun _ _ _ h => h) (Or.inr ⟨by rfl, rfl⟩) (by assumption) ?_
                simp only [Act.put, List.setIfInBounds_toArray, List.set_cons_zero, List.set_cons_succ]
                refine take_at (i := 25) (d := 257) (v := undef) rfl rfl (by kernel_rfl) (by kernel_rfl) (by kernel_rfl) (fun _ _ _ h => h) (Or.inr ⟨by rfl, rfl⟩) (by assumption) ?_
                simp only [Act.put, List.setIfInBounds_toArray, List.set_cons_zero, List.set_cons_succ]
                refine take_at (i := 26) (d := 258) (v := undef) rfl rfl (by kernel_rfl) (by kernel_rfl) (by kernel_rfl) (fun _ _ _ h => h) (Or.inr ⟨by rfl, rfl⟩) (by assumption) ?_
                simp only [Act.put, List.setIfInBounds_toArray, List.set_cons_zero, List.set_cons_succ]
                refine take_at (i := 27) (d := 259) (v := undef) rfl rfl (by kernel_rfl) (by kernel_rfl) (by kernel_rfl) (fun _ _ _ h => h) (Or.inr ⟨by rfl, rfl⟩) (by assumption) ?_
                simp only [Act.put, List.setIfInBounds_toArray, List.set_cons_zero, List.set_cons_succ]
                refine take_at (i := 28) (d := 260) (v := undef) rfl rfl (by kernel_rfl) (by kernel_rfl) (by kernel_rfl) (fun _ _ _ h => h) (Or.inr ⟨by rfl, rfl⟩) (by assumption) ?_
                simp only [Act.put, List.setIfInBounds_toArray, List.set_cons_zero, List.set_cons_succ]
                refine take_at (i := 29) (d := 261) (v := undef) rfl rfl (by kernel_rfl) (by kernel_rfl) (by kernel_rfl) (fun _ _ _ h => h) (Or.inr ⟨by rfl, rfl⟩) (by assumption) ?_
                simp only [Act.put, List.setIfInBounds_toArray, List.set_cons_zero, List.set_cons_succ]
                refine take_at (i := 30) (d := 262) (v := undef) rfl rfl (by kernel_rfl) (by kernel_rfl) (by kernel_rfl) (fun _ _ _ h => h) (Or.inr ⟨by rfl, rfl⟩) (by assumption) ?_
                simp only [Act.put, List.setIfInBounds_toArray, List.set_cons_zero, List.set_cons_succ]
                refine take_at (i := 31) (d := 263) (v := ?_) rfl rfl (by kernel_rfl) (by kernel_rfl) (by kernel_rfl) (fun _ _ _ h => h) (Or.inl ⟨by rfl, ?_⟩) (by assumption) ?_
                rotate_left
                · intro w hSw
                  try dsimp only at hSw
                  go_simp
                  try with_reducible rfl
                simp only [Act.put, List.setIfInBounds_toArray, List.set_cons_zero, List.set_cons_succ]
                refine take_at (i := 32) (d := 264) (v := ?_) rfl rfl (by kernel_rfl) (by kernel_rfl) (by kernel_rfl) (fun _ _ _ h => h) (Or.inl ⟨by rfl, ?_⟩) (by assumption) ?_
                rotate_left
                · intro w hSw
                  try dsimp only at hSw
                  go_simp
                  try with_reducible rfl
                simp only [Act.put, List.setIfInBounds_toArray, List.set_cons_zero, List.set_cons_succ]
                refine take_at (i := 33) (d := 2) (v := ?_) rfl rfl (by kernel_rfl) (by kernel_rfl) (by kernel_rfl) (fun _ _ _ h => h) (Or.inl ⟨by rfl, ?_⟩) (by assumption) ?_
                rotate_left
                · intro w hSw
                  try dsimp only at hSw
                  go_simp
                  try with_reducible rfl
                simp only [Act.put, List.setIfInBounds_toArray, List.set_cons_zero, List.set_cons_succ]
                clear hHeld
                refine wpAnyH_done (by kernel_rfl) ?_ _
                refine NoPanic.normal ?_
                go_wp2
                go_ret
                exact ⟨rfl, b0r.trans (bPP.mono s0r)⟩
            · obtain ⟨kk, e, rfl, rfl, hke, hkl, hput⟩ := unhide HZ rfl
              have hyo := (unhide HY).below b12r
              rcases hyo.2 with ⟨_, h0⟩ | ⟨gr, rc, rcur, rfl, _⟩
              · omega
              have hrc1 : ys.length ≤ rc ∧ rc ≤ 9223372036854775807 := by
                obtain ⟨_, _, _, h1, h2, _⟩ := hyo.rb (by omega)
                simp only [Value.slice.injEq, maxLen] at h1 h2; omega
              have hrk1 : ¬ rc = kk := by omega
              have cR1 : ∀ w', Below wr.heap.size wr w' → (convert 22 9 (.slice (some ⟨gr, kk, none⟩) e (rc - kk))).run Tryd.prog w' = .ok (.string sz) w' := fun w' hb => by
                have ho' := hyo.below hb
                have hcell : ∀ j, j < ys.length → w'.cell? ⟨gr, 0 + j, none⟩ = some (.int .u8 (ys.getD j 0)) := fun j hj => by
                  rw [Nat.zero_add, World.ownsRow.cellAt ho' j (by omega)]; simp [List.getElem?_eq_getElem hj]
                have := run_convert_bytes_arg (P := Tryd.prog) w' 22 5 Tryd.underlying22 Tryd.underlying5 gr (0 + kk) e (rc - kk) ((ys.drop kk).take e) (win_len ys kk e hke) (win_cells hcell hke) 9 Tryd.underlying9
                rw [Nat.zero_add, hput, hsz'] at this
                exact this
              have CR := hide cR1
              clear cR1 hyo HY hput
              obtain ⟨k3, e3, rfl, rfl, hke3, hkl3, hz31, hput3⟩ := unhide HZ3 rfl
              have hyo3 := (unhide HZO).below b14r
              rcases hyo3.2 with ⟨_, h0⟩ | ⟨gt, tc, tcur, rfl, _⟩
              · omega
              have hrc3 : zs.length ≤ tc ∧ tc ≤ 9223372036854775807 := by
                obtain ⟨_, _, _, h1, h2, _⟩ := hyo3.rb (by omega)
                simp only [Value.slice.injEq, maxLen] at h1 h2; omega
              have hrk3 : ¬ tc = k3 := by omega
              have cR3 : ∀ w', Below wr.heap.size wr w' → (convert 22 9 (.slice (some ⟨gt, k3, none⟩) e3 (tc - k3))).run Tryd.prog w' = .ok (.string s3) w' := fun w' hb => by
                have ho' := hyo3.below hb
                have hcell : ∀ j, j < zs.length → w'.cell? ⟨gt, 0 + j, none⟩ = some (.int .u8 (zs.getD j 0)) := fun j hj => by
                  rw [Nat.zero_add, World.ownsRow.cellAt ho' j (by omega)]; simp [List.getElem?_eq_getElem hj]
                have := run_convert_bytes_arg (P := Tryd.prog) w' 22 5 Tryd.underlying22 Tryd.underlying5 gt (0 + k3) e3 (tc - k3) ((zs.drop k3).take e3) (win_len zs k3 e3 hke3) (win_cells hcell hke3) 9 Tryd.underlying9
                rw [Nat.zero_add, hput3, hs3'] at this
                exact this
              have CR3 := hide cR3
              clear cR3 hyo3 HZO hput3
              have cT : ∀ w', Calls Tryd.prog 8 #[.string z3] w' fun e w'' => ∃ v', e = .returned v' ∧ (∀ w3, Below w''.heap.size w'' w3 → (convert 22 9 v').run Tryd.prog w3 = .ok (.string s3) w3) ∧ Below w'.heap.size w' w'' := fun w' => (implText z3 w' (by omega)).mono (by rintro e w'' ⟨v', rfl, o, b⟩; exact ⟨v', rfl, fun w3 h3 => by rw [← hs3']; exact conv_own (OB.below o h3) (by rw [textAns_len]; have := (put_len 4 z3.size).1; omega), b⟩)
              have CT := hide cT
              clear cT
              have bwr : Below wr.heap.size wr wr.drew := Below.drew (Below.refl _ _)
              clear hsz' hs3' HZ HZ3
              have T1 : ∀ w', (Instr.slice 22 (.slice (some ⟨gr, 0, none⟩) ys.length rc) (some (.int .i64 (kk : Int))) (some (.int .i64 ((kk : Int) + (e : Int)))) none).run Tryd.prog w' = .ok (.slice (some ⟨gr, kk, none⟩) e (rc - kk)) w' := fun w' => cut_mid gr ys.length rc kk e w' (by omega) hrk1
              have T3 : ∀ w', (Instr.slice 22 (.slice (some ⟨gt, 0, none⟩) zs.length tc) (some (.int .i64 (k3 : Int))) (some (.int .i64 ((k3 : Int) + (e3 : Int)))) none).run Tryd.prog w' = .ok (.slice (some ⟨gt, k3, none⟩) e3 (tc - k3)) w' := fun w' => cut_mid gt zs.length tc k3 e3 w' (by omega) hrk3
              go_wp2_with fail
              as_aux_lemma =>
                refine wp_region_noPanic ?_
                refine wp_region_held_drew (S := (fun w' => (convert 22 9 (.slice (some ⟨gr, kk, none⟩) e (rc - kk))).run Tryd.prog w' = .ok (.string sz) w' ∧ (convert 22 9 (.slice (some ⟨gt, k3, none⟩) e3 (tc - k3))).run Tryd.prog w' = .ok (.string s3) w')) (by kernel_rfl) ⟨unhide CR _ bwr, unhide CR3 _ bwr⟩ (fun hHeld => ?_)
                refine take_at (i := 0) (d := 232) (v := ?_) rfl rfl (by kernel_rfl) (by kernel_rfl) (by kernel_rfl) (fun _ _ _ h => h) (Or.inl ⟨by rfl, ?_⟩) (by assumption) ?_
                rotate_left
                · intro w hSw
                  try dsimp only at hSw
                  go_simp
                  try with_reducible rfl
                simp only [Act.put, List.setIfInBounds_toArray, List.set_cons_zero, List.set_cons_succ]
                refine take_at (i := 1) (d := 233) (v := ?_) rfl rfl (by kernel_rfl) (by kernel_rfl) (by kernel_rfl) (fun _ _ _ h => h) (Or.inl ⟨by rfl, ?_⟩) (by assumption) ?_
                rotate_left
                · intro w hSw
                  try dsimp only at hSw
                  go_simp
                  try with_reducible rfl
                simp only [Act.put, List.setIfInBounds_toArray, List.set_cons_zero, List.set_cons_succ]
                refine take_at (i := 2) (d := 234) (v := ?_) rfl rfl (by kernel_rfl) (by kernel_rfl) (by kernel_rfl) (fun _ _ _ h => h) (Or.inl ⟨by rfl, ?_⟩) (by assumption) ?_
                rotate_left
                · intro w hSw
                  try dsimp only at hSw
                  go_simp
                  try with_reducible rfl
                simp only [Act.put, List.setIfInBounds_toArray, List.set_cons_zero, List.set_cons_succ]
                refine take_at (i := 3) (d := 235) (v := ?_) rfl rfl (by kernel_rfl) (by kernel_rfl) (by kernel_rfl) (fun _ _ _ h => h) (Or.inl ⟨by rfl, ?_⟩) (by assumption) ?_
                rotate_left
                · intro w hSw
                  try dsimp only at hSw
                  go_simp
                  try with_reducible rfl
                simp only [Act.put, List.setIfInBounds_toArray, List.set_cons_zero, List.set_cons_succ]
                refine take_at (i := 4) (d := 236) (v := ?_) rfl rfl (by kernel_rfl) (by kernel_rfl) (by kernel_rfl) (fun _ _ _ h => h) (Or.inl ⟨by rfl, ?_⟩) (by assumption) ?_
                rotate_left
                · intro w hSw
                  try dsimp only at hSw
                  go_simp
                  try with_reducible rfl
                simp only [Act.put, List.setIfInBounds_toArray, List.set_cons_zero, List.set_cons_succ]
                refine take_at (i := 5) (d := 237) (v := ?_) rfl rfl (by kernel_rfl) (by kernel_rfl) (by kernel_rfl) (fun _ _ _ h => h) (Or.inl ⟨by rfl, ?_⟩) (by assumption) ?_
                rotate_left
                · intro w hSw
                  try dsimp only at hSw
                  go_simp
                  try with_reducible rfl
                simp only [Act.put, List.setIfInBounds_toArray, List.set_cons_zero, List.set_cons_succ]
                refine take_at (i := 6) (d := 238) (v := ?_) rfl rfl (by kernel_rfl) (by kernel_rfl) (by kernel_rfl) (fun _ _ _ h => h) (Or.inl ⟨by rfl, ?_⟩) (by assumption) ?_
                rotate_left
                · intro w hSw
                  try dsimp only at hSw
                  go_simp
                  try with_reducible rfl
                simp only [Act.put, List.setIfInBounds_toArray, List.set_cons_zero, List.set_cons_succ]
                refine take_at (i := 7) (d := 239) (v := ?_) rfl rfl (by kernel_rfl) (by kernel_rfl) (by kernel_rfl) (fun _ _ _ h => h) (Or.inl ⟨by rfl, ?_⟩) (by assumption) ?_
                rotate_left
                · intro w hSw
                  try dsimp only at hSw
                  go_simp
                  try with_reducible rfl
                simp only [Act.put, List.setIfInBounds_toArray, List.set_cons_zero, List.set_cons_succ]
                refine take_at (i := 10) (d := 242) (v := ?_) rfl rfl (by kernel_rfl) (by kernel_rfl) (by kernel_rfl) (fun _ _ _ h => h) (Or.inl ⟨by rfl, ?_⟩) (by assumption) ?_
                rotate_left
                · intro w hSw
                  try dsimp only at hSw
                  go_simp
                  try with_reducible rfl
                simp only [Act.put, List.setIfInBounds_toArray, List.set_cons_zero, List.set_cons_succ]
                refine take_at (i := 11) (d := 243) (v := ?_) rfl rfl (by kernel_rfl) (by kernel_rfl) (by kernel_rfl) (fun _ _ _ h => h) (Or.inl ⟨by rfl, ?_⟩) (by assumption) ?_
                rotate_left
                · intro w hSw
                  try dsimp only at hSw
                  go_simp
                  try with_reducible rfl
                simp only [Act.put, List.setIfInBounds_toArray, List.set_cons_zero, List.set_cons_succ]
                refine take_at (i := 12) (d := 244) (v := ?_) rfl rfl (by kernel_rfl) (by kernel_rfl) (by kernel_rfl) (fun _ _ _ h => h) (Or.inl ⟨by rfl, ?_⟩) (by assumption) ?_
                rotate_left
                · intro w hSw
                  try dsimp only at hSw
                  go_simp
                  try with_reducible rfl
                simp only [Act.put, List.setIfInBounds_toArray, List.set_cons_zero, List.set_cons_succ]
                refine take_at (i := 13) (d := 245) (v := ?_) rfl rfl (by kernel_rfl) (by kernel_rfl) (by kernel_rfl) (fun _ _ _ h => h) (Or.inl ⟨by rfl, ?_⟩) (by assumption) ?_
                rotate_left
                · intro w hSw
                  try dsimp only at hSw
                  go_simp
                  try with_reducible rfl
                simp only [Act.put, List.setIfInBounds_toArray, List.set_cons_zero, List.set_cons_succ]
                refine take_at (i := 14) (d := 246) (v := ?_) rfl rfl (by kernel_rfl) (by kernel_rfl) (by kernel_rfl) (fun _ _ _ h => h) (Or.inl ⟨by rfl, ?_⟩) (by assumption) ?_
                rotate_left
                · intro w hSw
                  try dsimp only at hSw
                  go_simp
                  try with_reducible rfl
                simp only [Act.put, List.setIfInBounds_toArray, List.set_cons_zero, List.set_cons_succ]
                refine ready_at (i := 8) rfl (by kernel_rfl) (fun KK hKK => ?_)
                go_simp
                refine (unhide CP _).mono ?_
                rintro _ wP ⟨vq, rfl, cvq, bP⟩
                have bPP : Below wr.heap.size wr wP := bwr.trans bP
                have hcq := cvq _ (Below.refl _ _)
                clear cvq bP
                clear hHeld
                refine hKK.out _ _ ⟨unhide CR _ bPP, unhide CR3 _ bPP⟩ (fun hHeld => ?_)
                clear hKK KK
                refine ready_at (i := 9) rfl (by kernel_rfl) (fun KK hKK => ?_)
                go_simp
                clear hHeld
                refine hKK.out _ _ ⟨unhide CR _ bPP, unhide CR3 _ bPP⟩ (fun hHeld => ?_)
                clear hKK KK
                clear hcq
                refine take_at (i := 15) (d := 247) (v := ?_) rfl rfl (by kernel_rfl) (by kernel_rfl) (by kernel_rfl) (fun _ _ _ h => h) (Or.inl ⟨by rfl, ?_⟩) (by assumption) ?_
                rotate_left
                · intro w hSw
                  try dsimp only at hSw
                  go_simp
                  try with_reducible rfl
                simp only [Act.put, List.setIfInBounds_toArray, List.set_cons_zero, List.set_cons_succ]
                refine take_at (i := 16) (d := 248) (v := ?_) rfl rfl (by kernel_rfl) (by kernel_rfl) (by kernel_rfl) (fun _ _ _ h => h) (Or.inl ⟨by rfl, ?_⟩) (by assumption) ?_
                rotate_left
                · intro w hSw
                  try dsimp only at hSw
                  go_simp
                  try with_reducible rfl
                simp only [Act.put, List.setIfInBounds_toArray, List.set_cons_zero, List.set_cons_succ]
                refine take_at (i := 17) (d := 249) (v := ?_) rfl rfl (by kernel_rfl) (by kernel_rfl) (by kernel_rfl) (fun _ _ _ h => h) (Or.inl ⟨by rfl, ?_⟩) (by assumption) ?_
                rotate_left
                · intro w hSw
                  try dsimp only at hSw
                  go_simp
                  try with_reducible rfl
                simp only [Act.put, List.setIfInBounds_toArray, List.set_cons_zero, List.set_cons_succ]
                refine take_at (i := 18) (d := 250) (v := ?_) rfl rfl (by kernel_rfl) (by kernel_rfl) (by kernel_rfl) (fun _ _ _ h => h) (Or.inl ⟨by rfl, ?_⟩) (by assumption) ?_
                rotate_left
                · intro w hSw
                  try dsimp only at hSw
                  go_simp
                  try with_reducible rfl
                simp only [Act.put, List.setIfInBounds_toArray, List.set_cons_zero, List.set_cons_succ]
                refine take_at (i := 19) (d := 251) (v := ?_) rfl rfl (by kernel_rfl) (by kernel_rfl) (by kernel_rfl) (fun _ _ _ h => h) (Or.inl ⟨by rfl, ?_⟩) (by assumption) ?_
                rotate_left
                · intro w hSw
                  try dsimp only at hSw
                  go_simp
                  try with_reducible rfl
                simp only [Act.put, List.setIfInBounds_toArray, List.set_cons_zero, List.set_cons_succ]
                refine take_at (i := 20) (d := 252) (v := ?_) rfl rfl (by kernel_rfl) (by kernel_rfl) (by kernel_rfl) (fun _ _ _ h => h) (Or.inl ⟨by rfl, ?_⟩) (by assumption) ?_
                rotate_left
                · intro w hSw
                  try dsimp only at hSw
                  go_simp
                  try with_reducible rfl
                simp only [Act.put, List.setIfInBounds_toArray, List.set_cons_zero, List.set_cons_succ]
                refine take_at (i := 21) (d := 253) (v := ?_) rfl rfl (by kernel_rfl) (by kernel_rfl) (by kernel_rfl) (fun _ _ _ h => h) (Or.inl ⟨by rfl, ?_⟩) (by assumption) ?_
                rotate_left
                · intro w hSw
                  try dsimp only at hSw
                  go_simp
                  try with_reducible rfl
                simp only [Act.put, List.setIfInBounds_toArray, List.set_cons_zero, List.set_cons_succ]
                refine take_at (i := 22) (d := 254) (v := ?_) rfl rfl (by kernel_rfl) (by kernel_rfl) (by kernel_rfl) (fun _ _ _ h => h) (Or.inl ⟨by rfl, ?_⟩) (by assumption) ?_
                rotate_left
                · intro w hSw
                  try dsimp only at hSw
                  go_simp
                  try with_reducible rfl
                simp only [Act.put, List.setIfInBounds_toArray, List.set_cons_zero, List.set_cons_succ]
                refine take_at (i := 25) (d := 257) (v := ?_) rfl rfl (by kernel_rfl) (by kernel_rfl) (by kernel_rfl) (fun _ _ _ h => h) (Or.inl ⟨by rfl, ?_⟩) (by assumption) ?_
                rotate_left
                · intro w hSw
                  try dsimp only at hSw
                  go_simp
                  try with_reducible rfl
                simp only [Act.put, List.setIfInBounds_toArray, List.set_cons_zero, List.set_cons_succ]
                refine take_at (i := 26) (d := 258) (v := ?_) rfl rfl (by kernel_rfl) (by kernel_rfl) (by kernel_rfl) (fun _ _ _ h => h) (Or.inl ⟨by rfl, ?_⟩) (by assumption) ?_
                rotate_left
                · intro w hSw
                  try dsimp only at hSw
                  go_simp
                  try with_reducible rfl
                simp only [Act.put, List.setIfInBounds_toArray, List.set_cons_zero, List.set_cons_succ]
                refine take_at (i := 27) (d := 259) (v := ?_) rfl rfl (by kernel_rfl) (by kernel_rfl) (by kernel_rfl) (fun _ _ _ h => h) (Or.inl ⟨by rfl, ?_⟩) (by assumption) ?_
                rotate_left
                · intro w hSw
                  try dsimp only at hSw
                  go_simp
                  try with_reducible rfl
                simp only [Act.put, List.setIfInBounds_toArray, List.set_cons_zero, List.set_cons_succ]
                refine take_at (i := 28) (d := 260) (v := ?_) rfl rfl (by kernel_rfl) (by kernel_rfl) (by kernel_rfl) (fun _ _ _ h => h) (Or.inl ⟨by rfl, ?_⟩) (by assumption) ?_
                rotate_left
                · intro w hSw
                  try dsimp only at hSw
                  go_simp
                  try with_reducible rfl
                simp only [Act.put, List.setIfInBounds_toArray, List.set_cons_zero, List.set_cons_succ]
                refine take_at (i := 29) (d := 261) (v := ?_) rfl rfl (by kernel_rfl) (by kernel_rfl) (by kernel_rfl) (fun _ _ _ h => h) (Or.inl ⟨by rfl, ?_⟩) (by assumption) ?_
                rotate_left
                · intro w hSw
                  try dsimp only at hSw
                  go_simp
                  try with_reducible rfl
                simp only [Act.put, List.setIfInBounds_toArray, List.set_cons_zero, List.set_cons_succ]
                refine ready_at (i := 23) rfl (by kernel_rfl) (fun KK hKK => ?_)
                go_simp
                refine (unhide CT _).mono ?_
                rintro _ wK ⟨vk, rfl, cvk, bK⟩
                have bKK : Below wr.heap.size wr wK := bPP.trans (bK.mono bPP.size)
                have hck := cvk _ (Below.refl _ _)
                clear cvk bK
                clear hHeld
                refine hKK.out _ _ ⟨unhide CR _ bKK, unhide CR3 _ bKK⟩ (fun hHeld => ?_)
                clear hKK KK
                refine ready_at (i := 24) rfl (by kernel_rfl) (fun KK hKK => ?_)
                go_simp
                clear hHeld
                refine hKK.out _ _ ⟨unhide CR _ bKK, unhide CR3 _ bKK⟩ (fun hHeld => ?_)
                clear hKK KK
                clear hck
                refine take_at (i := 30) (d := 262) (v := ?_) rfl rfl (by kernel_rfl) (by kernel_rfl) (by kernel_rfl) (fun _ _ _ h => h) (Or.inl ⟨by rfl, ?_⟩) (by assumption) ?_
                rotate_left
                · intro w hSw
                  try dsimp only at hSw
                  go_simp
                  try with_reducible rfl
                simp only [Act.put, List.setIfInBounds_toArray, List.set_cons_zero, List.set_cons_succ]
                refine take_at (i := 31) (d := 263) (v := ?_) rfl rfl (by kernel_rfl) (by kernel_rfl) (by kernel_rfl) (fun _ _ _ h => h) (Or.inl ⟨by rfl, ?_⟩) (by assumption) ?_
                rotate_left
                · intro w hSw
                  try dsimp only at hSw
                  go_simp
                  try with_reducible rfl
                simp only [Act.put, List.setIfInBounds_toArray, List.set_cons_zero, List.set_cons_succ]
                refine take_at (i := 32) (d := 264) (v := ?_) rfl rfl (by kernel_rfl) (by kernel_rfl) (by kernel_rfl) (fun _ _ _ h => h) (Or.inl ⟨by rfl, ?_⟩) (by assumption) ?_
                rotate_left
                · intro w hSw
                  try dsimp only at hSw
                  go_simp
                  try with_reducible rfl
                simp only [Act.put, List.setIfInBounds_toArray, List.set_cons_zero, List.set_cons_succ]
                refine take_at (i := 33) (d := 2) (v := ?_) rfl rfl (by kernel_rfl) (by kernel_rfl) (by kernel_rfl) (fun _ _ _ h => h) (Or.inl ⟨by rfl, ?_⟩) (by assumption) ?_
                rotate_left
                · intro w hSw
                  try dsimp only at hSw
                  go_simp
                  try with_reducible rfl
                simp only [Act.put, List.setIfInBounds_toArray, List.set_cons_zero, List.set_cons_succ]
                clear hHeld
                refine wpAnyH_done (by kernel_rfl) ?_ _
                refine NoPanic.normal ?_
                go_wp2
                go_ret
                exact ⟨rfl, b0r.trans (bKK.mono s0r)⟩
end Go.Proofs.YtlhpgihhlboddaaDoor
