/- Texts that belong together: SpecSteps, SpecNames, SpecTxsIn. -/
import Derived.Test.YtbigcmcliamenaaGreatDoorNAAQ
import Derived.Test.YtbigcmcliamenaaGreatDoorNAAR
import Derived.Test.YtbigcmcliamenaaGreatDoorNAAO
import Derived.Test.YtbigcmcliamenaaGreatDoorNAAK
import Derived.Test.YtbigcmcliamenaaGreatDoorNAAP
import Derived.Test.YtbigcmcliamenaaGreatDoorNAAA
import Derived.Laws.AppendOwnNone
namespace Go.Proofs.YtbigcmcliamenaaGreatDoor
open Go.RowKit
set_option linter.unusedSectionVars false
variable [∀ (a b c d : Int), Decidable (Ok4 a b c d)]
variable [∀ (a b c d : Nat), Decidable (okN a b c d)]
variable [∀ (last : Int) (s : St), Decidable (GoodSt last s)]

theorem own_types {w : World} {B B' n n' s s' : Nat} {e e' : TypeId} {v u : Value} {xs ys : List Value} (h : w.ownsRow B e s v n xs) (h' : w.ownsRow B' e' s' u n' ys) (he : e ≠ e') : v.ownBlock = none ∨ v.ownBlock ≠ u.ownBlock := by
 rcases h.2 with ⟨rfl, _⟩ | ⟨g, cap, cur, rfl, _, hg, _⟩
 ·exact .inl rfl
 ·rcases h'.2 with ⟨rfl, _⟩ | ⟨g', cap', cur', rfl, _, hg', _⟩
  ·exact .inr (by simp [Value.ownBlock])
  ·refine .inr fun e2 => ?_
   simp [Value.ownBlock] at e2
   rw [e2, hg'] at hg
   simp at hg
   exact he hg.2.symm
theorem none_apart {w : World} {B n s : Nat} {e : TypeId} {v : Value} {xs : List Value} {c : Nat} (h : w.ownsRow (B + 1) e s v n xs) : (Value.slice (some ⟨B, 0, none⟩) 0 c).ownBlock = none ∨ (Value.slice (some ⟨B, 0, none⟩) 0 c).ownBlock ≠ v.ownBlock := .inr fun e => by
 have := (World.ownsRow.lt h B (by rw [← e]; rfl)).1
 omega
theorem row_lower {w : World} {B B' n s : Nat} {e : TypeId} {v : Value} {xs : List Value} (h : w.ownsRow B e s v n xs) (hb : B' ≤ B) : w.ownsRow B' e s v n xs := by
 refine ⟨h.1, ?_⟩
 rcases h.2 with h | ⟨g, cap, cur, h1, h2, h3⟩
 ·exact .inl h
 ·exact .inr ⟨g, cap, cur, h1, by omega, h3⟩
theorem two_plain (n : Int) (a : Option Addr) (l c : Nat) : ∀ u ∈ scell (n, .slice a l c), u.oneCell' = true := by
 intro u hu
 simp [scell] at hu
 rcases hu with rfl | rfl <;> rfl
theorem two_cell (w : World) (p : Int × Value) (t : TypeId) (j : Nat) (u : Value) (h : (scell p)[j]? = some u) : (w.alloc (.cells #[.int .i64 p.1, p.2] t)).cell? ((⟨w.heap.size, 0, none⟩ : Addr).add j) = some u := by
 match j, h with
 | 0, h => simp [scell] at h; subst h; simp [Addr.add]
 | 1, h => simp [scell] at h; subst h; simp [Addr.add]
 | j + 2, h => simp [scell] at h
theorem stepOf_cut (p : ByteArray) : stepOf p = if (cutS 124 p.data.toList).2.2 = true ∧ (numOf (cutS 124 p.data.toList).1).isSome = true ∧ (txsAns (toB (cutS 124 p.data.toList).2.1)).isSome = true then some (nans (numOf (cutS 124 p.data.toList).1), (txsAns (toB (cutS 124 p.data.toList).2.1)).getD []) else none := by
 unfold stepOf cutS
 by_cases hm : (124 : UInt8) ∈ p.data.toList
 ·rw [if_pos hm, if_pos hm]
  cases hn : numOf (hd 124 p.data.toList) with
  | none => simp
  | some n =>
   cases ht : txsAns (toB (tl 124 p.data.toList)) with
   | none => simp
   | some ts => simp [nans]
 ·rw [if_neg hm, if_neg hm]; simp
theorem tail_get (ps : List ByteArray) (k : Nat) (h : k + 1 < ps.length) : ps.tail.take (k + 1) = ps.tail.take k ++ [ps.getD (k + 1) ByteArray.empty] := by
 cases ps with
 | nil => simp at h
 | cons p ps =>
  simp only [List.tail_cons]
  simp at h
  rw [List.take_succ_eq_append_getElem h]
  simp [List.getD_eq_getElem?_getD, List.getElem?_eq_getElem h]

set_option maxHeartbeats 8000000 in
set_option maxRecDepth 100000 in
theorem specSteps (s : ByteArray) (w : World) (hs : s.size ≤ 33554432) :
 Calls Tryz.prog 130 #[.string s] w fun e w' => ∃ v, e = .returned (.tuple #[v, .bool (stepsAns s).isSome]) ∧ OSt w' w.heap.size v ((stepsAns s).getD []) ∧ Below w.heap.size w w' := by
 obtain ⟨i0, hi, hz0, hz1, hz2⟩ := info_parts Tryz.infoSt
 obtain ⟨w0, hw0⟩ : ∃ w0, (w.alloc (.cells #[] 174)).alloc (.cells #[] 174) = w0 := ⟨_, rfl⟩
 have z0 : w0.heap.size = w.heap.size + 1 + 1 := by rw [← hw0]; simp
 have B0 : Below w.heap.size w w0 := hw0 ▸ ((Below.refl _ _).alloc (Nat.le_refl _) _).alloc (by simp) _
 have R1 : (w.alloc (.cells #[] 174)).ownsRow w.heap.size 174 2 (.slice (some ⟨w.heap.size, 0, none⟩) 0 0) 0 [] := World.ownsRow_lit w #[] 0 (Nat.le_refl _) (by unfold maxLen; omega) rfl
 have N0 : w0.ownsRow w.heap.size 174 2 (.slice (some ⟨w.heap.size, 0, none⟩) 0 0) 0 [] := hw0 ▸ R1.alloc _
 have O0 : w0.ownsRow (w.heap.size + 1) 174 2 (.slice (some ⟨w.heap.size + 1, 0, none⟩) 0 0) 0 [] := by
  have := World.ownsRow_lit (base := w.heap.size + 1) (e := 174) (size := 2) (w.alloc (.cells #[] 174)) #[] 0 (by simp) (by unfold maxLen; omega) rfl
  rw [hw0] at this
  have e : (w.alloc (.cells #[] 174)).heap.size = w.heap.size + 1 := by simp
  rw [e] at this
  exact this
 clear R1
 unfold stepsAns
 by_cases hz : s = ⟨#[]⟩
 ·rw [if_pos hz]
  subst hz
  go_enter Tryz.func130, Tryz.ntmps130
  go_wp2
  go_ret2
  refine ⟨_, rfl, ⟨[], rfl, ?_, fun k hk => by simp at hk, fun i j _ hj => by simp at hj⟩, B0⟩
  refine ⟨O0.1, ?_⟩
  rcases O0.2 with h | ⟨g, cap, cur, h1, h2, h3⟩
  ·exact .inl h
  ·exact .inr ⟨g, cap, cur, h1, by omega, h3⟩
 ·rw [if_neg hz]
  have hne := str_ne hz
  have hne2 : (s.toList == []) = false := by
   rw [beq_eq_false_iff_ne]; intro e; apply hz; apply ByteArray.ext; apply Array.toList_inj.1; rw [ByteArray.toList_eq] at e; exact e
  have SP := hide fun w => specSplit_any s 47 w hs
  have hpn : 0 < (splitAns s 47).length := by simp [splitAns]
  have hpz : Hid (∀ p ∈ splitAns s 47, p.size ≤ 33554432) := fun p hp => Nat.le_trans (split_size s 47 p hp) hs
  have hpl := splitAns_len s 47
  have NONE : Hid (∀ w', Below w.heap.size w w' → w'.ownsRow w.heap.size 174 2 (.slice (some ⟨w.heap.size, 0, none⟩) 0 0) 0 [] → OSt w' w.heap.size (.slice (some ⟨w.heap.size, 0, none⟩) 0 0) []) := hide fun w' _ h => ⟨[], rfl, h, fun k hk => by simp at hk, fun i j _ hj => by simp at hj⟩
  generalize splitAns s 47 = ps at *
  generalize hA : (if ps.getD 0 ByteArray.empty = ⟨#[]⟩ ∧ ps.length ≤ 31 then (stepsRun ps.tail).map (·.2) else none) = A
  have HA := hide hA
  clear hz hA
  go_enter Tryz.func130, Tryz.ntmps130
  go_wp2_with fail
  clear hw0
  refine (unhide SP _).mono ?_
  rintro e w1 ⟨vp, rfl, op, b1⟩
  have s1 := b1.size
  have B1 := B0.trans (b1.mono B0.size)
  have k1 : w0.grownBy w1 none := ⟨b1.os, b1.tape, b1.output, b1.size, fun k hk _ => b1.block k hk⟩
  have N1 := N0.kept k1 (by simp [Value.ownBlock])
  have O1 := O0.kept k1 (by simp [Value.ownBlock])
  rcases op.2 with ⟨_, h0⟩ | ⟨gp, pc, pcur, rfl, _⟩
  ·omega
  have c0 := os_cell op rfl 0 hpn
  have OP := hide op
  have N1 := hide N1
  clear op SP k1 b1 N0 O0 B0
  by_cases h0 : ps.getD 0 ByteArray.empty = ⟨#[]⟩
  ·rw [h0] at c0
   by_cases h31 : ps.length ≤ 31
   ·have E : Hid (A = (stepsRun ps.tail).map (·.2)) := hide ((unhide HA).symm.trans (if_pos ⟨h0, h31⟩))
    have h31' : decide ((31 : Int) < (ps.length : Int)) = false := by simp; omega
    go_wp2
    clear c0
    go_loopw [5, 7, 8] (fun out last i wr => ∃ (k : Nat) (l : Int) (ss : List St) (vs : List Value), k + 1 ≤ ps.length ∧ i = .int .i64 ((k + 1 : Nat) : Int) ∧ last = .int .i64 l ∧ Hid (stepsRun (ps.tail.take k) = some (l, ss)) ∧ ss.length = k ∧ OStV wr (w.heap.size + 1) out ss vs ∧ OS wr w0.heap.size (.slice (some ⟨gp, 0, none⟩) ps.length pc) ps ∧ wr.ownsRow w.heap.size 174 2 (.slice (some ⟨w.heap.size, 0, none⟩) 0 0) 0 [] ∧ Below w.heap.size w wr ∧ w.heap.size + 1 ≤ wr.heap.size) (fun _ _ i _ => ps.length - (intOf i).toNat)
    case atStart => exact ⟨0, 0, [], [], by omega, by go_num, rfl, hide (by rw [List.take_zero]; rfl), rfl, ⟨rfl, O1, fun k hk => by simp at hk, fun i j _ hj => by simp at hj⟩, unhide OP, unhide N1, B1, by omega⟩
    case round =>
     clear O1 N1 OP B1
     obtain ⟨k, l, ss, vs, hk, rfl, rfl, HR, hsl, ost, hp, nr, br, sz⟩ := hrel
     subst hsl
     obtain ⟨oa, oc, rfl⟩ := OSt.form ⟨vs, ost⟩
     have RO1 := (stepsRun_ok _ _ (unhide HR)).2.1
     by_cases hlt : ss.length + 1 < ps.length
     ·have hc := os_cell hp rfl (ss.length + 1) hlt
      have hm := unhide hpz _ (getD_mem hlt)
      have HT := hide (tail_get ps ss.length hlt)
      have HC := hide (stepOf_cut (ps.getD (ss.length + 1) ByteArray.empty))
      have CUT := hide fun w => l2Cut_any 124 124 rfl (ps.getD (ss.length + 1) ByteArray.empty) w hm
      generalize ps.getD (ss.length + 1) ByteArray.empty = p at *
      have hc1 : (cutS 124 p.data.toList).1.length ≤ 33554432 ∧ (cutS 124 p.data.toList).2.1.length ≤ 33554432 := by
       have h1 := cutS_len 124 p.data.toList
       have h2 : p.data.toList.length = p.size := by simp
       omega
      obtain ⟨c, hcc⟩ : ∃ c, cutS 124 p.data.toList = c := ⟨_, rfl⟩
      rw [hcc] at CUT HC hc1
      clear hcc
      have NU := hide fun w => specNumber_any (toB c.1) w (by rw [toB_size]; unfold maxLen; omega)
      have TX := hide fun w => specTxsOf (toB c.2.1) w (by rw [toB_size]; omega)
      rw [toB_list] at NU
      obtain ⟨cn, hcn⟩ : ∃ x, numOf c.1 = x := ⟨_, rfl⟩
      obtain ⟨ct, hct⟩ : ∃ x, txsAns (toB c.2.1) = x := ⟨_, rfl⟩
      rw [hcn] at NU HC
      rw [hct] at TX HC
      have hn0 : 0 ≤ nans cn ∧ nans cn ≤ 999999 := by
       cases cn with
       | none => simp [nans]
       | some m => have := numOf_some hcn; simp [nans]; omega
      clear hcn hct
      obtain ⟨n, hn⟩ : ∃ n, nans cn = n := ⟨_, rfl⟩
      obtain ⟨bn, hbn⟩ : ∃ b, cn.isSome = b := ⟨_, rfl⟩
      obtain ⟨bt, hbt⟩ : ∃ b, ct.isSome = b := ⟨_, rfl⟩
      obtain ⟨ts, hts⟩ : ∃ b, ct.getD [] = b := ⟨_, rfl⟩
      rw [hn] at NU HC hn0
      rw [hbn] at NU HC
      rw [hbt] at TX HC
      rw [hts] at TX HC
      clear hn hbn hbt hts
      have OST := hide ost
      have NR := hide nr
      have HP := hide hp
      clear ost nr hp
      go_wp2_with fail
      refine (unhide CUT _).mono ?_
      rintro _ w2 ⟨rfl, b2⟩
      go_wp2_with fail
      refine (unhide NU _).mono ?_
      rintro _ w3 ⟨rfl, b3⟩
      have b23 : Below wr.heap.size wr w3 := b2.trans (b3.mono b2.size)
      go_wp2_with fail
      refine (unhide TX _).mono ?_
      rintro _ w4 ⟨vt, rfl, ot, b4⟩
      have b24 : Below wr.heap.size wr w4 := b23.trans (b4.mono b23.size)
      have B4 := br.trans (b24.mono br.size)
      have s24 := b24.size
      have s23 := b23.size
      have ost4 := (unhide OST).below b24
      have k24 : wr.grownBy w4 none := ⟨b24.os, b24.tape, b24.output, b24.size, fun k hk _ => b24.block k hk⟩
      have nr4 := World.ownsRow.kept (unhide NR) k24 (by simp [Value.ownBlock])
      have hp4 := (unhide HP).below b24
      obtain ⟨ta, tc, rfl⟩ : ∃ ta tc, vt = .slice ta ts.length tc := by
       rcases ot.2 with ⟨rfl, h0⟩ | ⟨g, cap, cur, rfl, _⟩
       ·exact ⟨none, 0, by rw [h0]⟩
       ·exact ⟨_, _, rfl⟩
      clear CUT NU TX b2 b3 b4
      have RN : Hid (stepOf p = none → stepsRun ps.tail = none) := hide fun h => stepsRun_none (ss.length + 1) (by rw [unhide HT, stepsRun_more, unhide HR]; unfold stepAcc; rw [h]; rfl)
      obtain ⟨c1, c2, cb⟩ := c
      cases cb with
      | false =>
       have F := hide ((unhide RN) (by rw [unhide HC, if_neg (by simp)]))
       go_wp2
       go_ret2
       rw [unhide E, unhide F]
       exact ⟨_, rfl, unhide NONE _ B4 nr4, B4⟩
      | true =>
      cases bn with
      | false =>
       have F := hide ((unhide RN) (by rw [unhide HC, if_neg (by simp)]))
       go_wp2
       go_ret2
       rw [unhide E, unhide F]
       exact ⟨_, rfl, unhide NONE _ B4 nr4, B4⟩
      | true =>
      cases bt with
      | false =>
       have F := hide ((unhide RN) (by rw [unhide HC, if_neg (by simp)]))
       go_wp2
       go_ret2
       rw [unhide E, unhide F]
       exact ⟨_, rfl, unhide NONE _ B4 nr4, B4⟩
      | true =>
      have HS : Hid (stepOf p = some (n, ts)) := hide (by rw [unhide HC, if_pos (by simp)])
      have RG : Hid (¬ GoodSt l (n, ts) → stepsRun ps.tail = none) := hide fun h => stepsRun_none (ss.length + 1) (by rw [unhide HT, stepsRun_more, unhide HR]; unfold stepAcc; rw [unhide HS]; exact if_neg h)
      clear RN HC
      by_cases g1 : n ≤ l
      ·have F := hide ((unhide RG) fun h => by have := h.1; simp only at this; omega)
       have g1' : decide (n ≤ l) = true := by simp; omega
       go_wp2
       go_ret2
       rw [unhide E, unhide F]
       exact ⟨_, rfl, unhide NONE _ B4 nr4, B4⟩
      have g1' : decide (n ≤ l) = false := by simp; omega
      by_cases g2 : 60 < n
      ·have F := hide ((unhide RG) fun h => by have := h.2.1; simp only at this; omega)
       have g2' : decide (60 < n) = true := by simp; omega
       go_wp2
       go_ret2
       rw [unhide E, unhide F]
       exact ⟨_, rfl, unhide NONE _ B4 nr4, B4⟩
      have g2' : decide (60 < n) = false := by simp; omega
      by_cases g3 : 2 < ts.length
      ·have F := hide ((unhide RG) fun h => by have := h.2.2; simp only at this; omega)
       have g3' : decide ((2 : Int) < (ts.length : Int)) = true := by simp; omega
       go_wp2
       go_ret2
       rw [unhide E, unhide F]
       exact ⟨_, rfl, unhide NONE _ B4 nr4, B4⟩
      have g3' : decide ((2 : Int) < (ts.length : Int)) = false := by simp; omega
      have HN : Hid (stepsRun (ps.tail.take (ss.length + 1)) = some (n, ss ++ [(n, ts)])) := hide (by
       rw [unhide HT, stepsRun_more, unhide HR]; unfold stepAcc; rw [unhide HS]
       exact if_pos ⟨by omega, by omega, by show ts.length ≤ 2; omega⟩)
      have bX : Below w4.heap.size w4 (w4.alloc (.cells #[.int .i64 n, .slice ta ts.length tc] 174)) := (Below.refl _ _).alloc (Nat.le_refl _) _
      have ostX := ost4.below bX
      have otX := ot.below bX
      have hpX := hp4.below bX
      have nrX := World.ownsRow.alloc nr4 (.cells #[.int .i64 n, .slice ta ts.length tc] 174)
      have BX := B4.trans (bX.mono B4.size)
      have hN : ∀ k, k < ss.length → ∀ b, (vs.getD k (.slice none 0 0)).ownBlock = some b → b < w3.heap.size := fun k hk b hb => by
       have := (World.ownsRow.lt ((unhide OST).each k hk) b hb).2; omega
      have hl31 : ss.length ≤ 31 := by omega
      clear RG ost4 ot hp4 nr4 B4
      go_wp2_with (first
       | (at_builtin; refine wpList_append_own _ rfl _ _ 138 rfl (w.heap.size + 1) 174 i0 (.agg #[.int .i64 0, .slice none 0 0]) 2 32 Tryz.underlying138 hi hz0 hz1 hz2 rfl (by decide) _ _ _ rfl ostX.row ⟨w4.heap.size, 0, none⟩ 1 1 (scell (n, .slice ta ts.length tc)) rfl rfl (two_cell w4 (n, .slice ta ts.length tc) 174) (two_plain _ _ _ _) (by unfold maxLen; omega) (by omega) (by simp; omega) ?_; intro v' w5 ho' hg' _; have R := ost_more ostX otX hN (by omega) ho' hg'; have RP := World.ownsRow.kept hpX hg' (own_types hpX ostX.row (by decide)); have RN := World.ownsRow.kept nrX hg' (none_apart ostX.row); have RB := BX.grown hg' BX.size (fun k hk => by have := (World.ownsRow.lt ostX.row k hk).1; omega); have SZ : w4.heap.size ≤ w5.heap.size := (by have := hg'.size; simp at this; omega); clear ho' hg' ostX otX hpX nrX BX bX))
      go_roundw
      case rel => exact ⟨ss.length + 1, n, _, _, by omega, by go_num, rfl, HN, by simp, R, RP, RN, RB, by omega⟩
      case measure => simp [intOf]; omega
     ·have hk2 : ps.tail.take ss.length = ps.tail := List.take_of_length_le (by simp; omega)
      rw [hk2] at HR
      have hlt' : decide (((ss.length + 1 : Nat) : Int) < (ps.length : Int)) = false := by simp; omega
      go_wp2
      go_ret2
      rw [unhide E, unhide HR]
      refine ⟨_, rfl, ⟨vs, ost.len, ?_, fun k hk => ?_, ost.apart⟩, br⟩
      ·exact row_lower ost.row (by omega)
      ·exact row_lower (ost.each k hk) (by omega)
   ·have E : A = none := (unhide HA).symm.trans (if_neg fun h => h31 h.2)
    have h31' : decide ((31 : Int) < (ps.length : Int)) = true := by simp; omega
    go_wp2
    go_ret2
    rw [E]
    exact ⟨_, rfl, unhide NONE _ B1 (unhide N1), B1⟩
  ·have E : A = none := (unhide HA).symm.trans (if_neg fun h => h0 h.1)
   have hn0 := str_ne h0
   have hn1 : ((ps.getD 0 ByteArray.empty).toList = []) = False := eq_false fun e => h0 (by apply ByteArray.ext; apply Array.toList_inj.1; rw [ByteArray.toList_eq] at e; exact e)
   generalize ps.getD 0 ByteArray.empty = p0 at *
   go_wp2
   go_ret2
   rw [E]
   exact ⟨_, rfl, unhide NONE _ B1 (unhide N1), B1⟩
end Go.Proofs.YtbigcmcliamenaaGreatDoor
namespace Go.Proofs.YtbigcmcliamenaaGreatDoor
open Go.RowKit
set_option linter.unusedSectionVars false
variable [∀ (a b c d : Int), Decidable (Ok4 a b c d)]
variable [∀ (a b c d : Nat), Decidable (okN a b c d)]
variable [∀ (last : Int) (s : St), Decidable (GoodSt last s)]
variable [∀ (x : T4), Decidable (OkT x)]

set_option maxHeartbeats 8000000 in
set_option maxRecDepth 100000 in
theorem specNameOk (s : ByteArray) (w : World) (hs : s.size ≤ 33554432) :
 Calls Tryz.prog 100 #[.string s] w fun e w' => e = .returned (.bool (stepsAns s).isSome) ∧ Below w.heap.size w w' := by
 have ST := hide fun w => specSteps s w hs
 generalize stepsAns s = A at *
 go_enter Tryz.func100, Tryz.ntmps100
 go_wp2_with fail
 refine (unhide ST _).mono ?_
 rintro e w1 ⟨v, rfl, _, b1⟩
 go_wp2
 go_ret
 exact ⟨rfl, b1⟩

set_option maxHeartbeats 8000000 in
set_option maxRecDepth 100000 in
theorem specViewOf (s : ByteArray) (w : World) (hs : s.size ≤ 33554432) :
 Calls Tryz.prog 110 #[.string s] w fun e w' => e = .returned (.int .i64 (viewAns s)) ∧ Below w.heap.size w w' := by
 have ST := hide fun w => specSteps s w hs
 have hl : ∀ ss, stepsAns s = some ss → ss.length ≤ 30 ∧ ∀ x ∈ ss, OkSt x := fun ss h => ⟨((names_iff _ _).1 h).2.1, ((names_iff _ _).1 h).2.2.1⟩
 unfold viewAns
 generalize stepsAns s = A at *
 go_enter Tryz.func110, Tryz.ntmps110
 go_wp2_with fail
 refine (unhide ST _).mono ?_
 rintro e w1 ⟨v, rfl, o1, b1⟩
 cases A with
 | none =>
  obtain ⟨ao, ca, rfl⟩ := o1.form
  clear o1 ST hl
  go_wp2
  go_ret
  exact ⟨rfl, b1⟩
 | some ss =>
  obtain ⟨hl, hok⟩ := hl ss rfl
  obtain ⟨ao, ca, hv, r⟩ := o1.rst (fun x hx => by have := (hok x hx).2.1; omega)
  subst hv
  clear o1 ST hok
  simp only [Option.getD_some] at *
  rcases r with rfl | ⟨g, rfl, r⟩
  ·go_wp2
   go_ret
   exact ⟨rfl, b1⟩
  ·by_cases h0 : ss.length = 0
   ·obtain rfl := List.length_eq_zero_iff.1 h0
    go_wp2
    go_ret
    exact ⟨rfl, b1⟩
   ·obtain ⟨n, hn⟩ : ∃ n, ss.length = n + 1 := ⟨ss.length - 1, by omega⟩
    obtain ⟨u, c0, c1, _⟩ := r n (by omega)
    have hlast := hide (show (ss.getLast?.map (·.1)).getD 0 = (ss.getD n zst).1 by
     rw [List.getLast?_eq_getElem?, List.getD_eq_getElem?_getD, List.getElem?_eq_getElem (show ss.length - 1 < ss.length by omega), List.getElem?_eq_getElem (show n < ss.length by omega)]
     simp [hn])
    have hi : ((n + 1 : Nat) : Int) - 1 = n := by omega
    generalize (ss.getD n zst).1 = x at *
    clear r h0
    go_wp2
    go_ret
    exact ⟨by rw [show ((some ss).getD []) = ss from rfl, unhide hlast]; rfl, b1⟩

theorem OStV.kept {w w' : World} {B : Nat} {v : Value} {ss : List St} {vs : List Value} {row : Option Nat} (h : OStV w B v ss vs) (hg : w.grownBy w' row) (hv : v.ownBlock = none ∨ v.ownBlock ≠ row) (hs : ∀ k, k < ss.length → (vs.getD k (.slice none 0 0)).ownBlock = none ∨ (vs.getD k (.slice none 0 0)).ownBlock ≠ row) : OStV w' B v ss vs :=
 ⟨h.len, World.ownsRow.kept h.row hg hv, fun k hk => World.ownsRow.kept (h.each k hk) hg (hs k hk), h.apart⟩
end Go.Proofs.YtbigcmcliamenaaGreatDoor
