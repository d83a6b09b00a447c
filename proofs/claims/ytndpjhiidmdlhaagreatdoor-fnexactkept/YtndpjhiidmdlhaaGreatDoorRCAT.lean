/- Texts that belong together: SpecSteps, SpecNames, SpecTxsIn, ImplSteps. -/
import Derived.Test.YtndpjhiidmdlhaaGreatDoorRCAS
import Derived.Test.YtndpjhiidmdlhaaGreatDoorRCAN
import Derived.Test.YtndpjhiidmdlhaaGreatDoorRCAL
import Derived.Test.YtndpjhiidmdlhaaGreatDoorRCAR
import Derived.Test.YtndpjhiidmdlhaaGreatDoorRCAA
import Derived.Laws.AppendOwnNone
import Derived.Laws.AppendOwn
import Derived.RangeFuncBox
set_option maxRecDepth 100000
set_option maxHeartbeats 8000000
namespace Go.Proofs.YtndpjhiidmdlhaaGreatDoor
open Go.RowKit
set_option linter.unusedSectionVars false
variable [∀ (a b c d : Int), Decidable (Ok4 a b c d)]
variable [∀ (a b c d : Nat), Decidable (okN a b c d)]
variable [∀ (last : Int) (s : St), Decidable (GoodSt last s)]

theorem own_types {w : World} {B B' n n' s s' : Nat} {e e' : TypeId} {v u : Value} {xs ys : List Value} (h : w.ownsRow B e s v n xs) (h' : w.ownsRow B' e' s' u n' ys) (he : e ≠ e') : v.ownBlock = none ∨ v.ownBlock ≠ u.ownBlock := by
 rcases h.2 with ⟨rfl, _⟩ | ⟨g, cap, cur, rfl, _, hg, _⟩
 ·exact .inl rfl
 ·rcases h'.2 with ⟨rfl, _⟩ | ⟨g', cap', cur', rfl, _, hg', _⟩
  ·exact .inr (by simp [Value.ownBlock])
  ·refine .inr fun e2 => ?_
   simp [Value.ownBlock] at e2
   rw [e2, hg'] at hg
   simp at hg
   exact he hg.2.symm
theorem none_apart {w : World} {B n s : Nat} {e : TypeId} {v : Value} {xs : List Value} {c : Nat} (h : w.ownsRow (B + 1) e s v n xs) : (Value.slice (some ⟨B, 0, none⟩) 0 c).ownBlock = none ∨ (Value.slice (some ⟨B, 0, none⟩) 0 c).ownBlock ≠ v.ownBlock := .inr fun e => by
 have:=(World.ownsRow.lt h B (by rw [← e]; rfl)).1
 omega
theorem row_lower {w : World} {B B' n s : Nat} {e : TypeId} {v : Value} {xs : List Value} (h : w.ownsRow B e s v n xs) (hb : B' ≤ B) : w.ownsRow B' e s v n xs := by
 refine ⟨h.1, ?_⟩
 rcases h.2 with h | ⟨g, cap, cur, h1, h2, h3⟩
 ·exact .inl h
 ·exact .inr ⟨g, cap, cur, h1, by omega, h3⟩
theorem two_plain (n : Int) (a : Option Addr) (l c : Nat) : ∀ u ∈ scell (n, .slice a l c), u.oneCell' = true := by
 intro u hu
 simp [scell] at hu
 rcases hu with rfl | rfl <;> rfl
theorem two_cell (w : World) (p : Int × Value) (t : TypeId) (j : Nat) (u : Value) (h : (scell p)[j]? = some u) : (w.alloc (.cells #[.int .i64 p.1, p.2] t)).cell? ((⟨w.heap.size, 0, none⟩ : Addr).add j) = some u := by
 match j, h with
 | 0, h => simp [scell] at h; subst h; simp [Addr.add]
 | 1, h => simp [scell] at h; subst h; simp [Addr.add]
 | j + 2, h => simp [scell] at h
theorem stepOf_cut (p : ByteArray) : stepOf p = if (cutS 124 p.data.toList).2.2 = true ∧ (numOf (cutS 124 p.data.toList).1).isSome = true ∧ (txsAns (toB (cutS 124 p.data.toList).2.1)).isSome = true then some (nans (numOf (cutS 124 p.data.toList).1), (txsAns (toB (cutS 124 p.data.toList).2.1)).getD []) else none := by
 unfold stepOf cutS
 by_cases hm : (124 : UInt8) ∈ p.data.toList
 ·rw [if_pos hm, if_pos hm]
  cases hn : numOf (hd 124 p.data.toList) with
  | none => simp
  | some n =>
   cases ht : txsAns (toB (tl 124 p.data.toList)) with
   | none => simp
   | some ts => simp [nans]
 ·rw [if_neg hm, if_neg hm]; simp
theorem tail_get (ps : List ByteArray) (k : Nat) (h : k + 1 < ps.length) : ps.tail.take (k + 1) = ps.tail.take k ++ [ps.getD (k + 1) ByteArray.empty] := by
 cases ps with
 | nil => simp at h
 | cons p ps =>
  simp only [List.tail_cons]
  simp at h
  rw [List.take_succ_eq_append_getElem h]
  simp [List.getD_eq_getElem?_getD, List.getElem?_eq_getElem h]

theorem specSteps (s : ByteArray) (w : World) (hs : s.size ≤ 33554432) :
 Calls Tryz.prog 147 #[.string s] w fun e w' => ∃ v, e = .returned (.tuple #[v,.bool (stepsAns s).isSome]) ∧ OSt w' w.heap.size v ((stepsAns s).getD []) ∧ Below w.heap.size w w' := by
 obtain ⟨i0, hi, hz0, hz1, hz2⟩:=info_parts Tryz.infoSt
 obtain ⟨w0, hw0⟩ : ∃ w0, (w.alloc (.cells #[] 179)).alloc (.cells #[] 179) = w0:=⟨_, rfl⟩
 have z0 : w0.heap.size = w.heap.size + 1 + 1:=by rw [← hw0]; simp
 have B0 : Below w.heap.size w w0:=hw0 ▸ ((Below.refl _ _).alloc (Nat.le_refl _) _).alloc (by simp) _
 have R1 : (w.alloc (.cells #[] 179)).ownsRow w.heap.size 179 2 (.slice (some ⟨w.heap.size, 0, none⟩) 0 0) 0 []:=World.ownsRow_lit w #[] 0 (Nat.le_refl _) (by unfold maxLen; omega) rfl
 have N0 : w0.ownsRow w.heap.size 179 2 (.slice (some ⟨w.heap.size, 0, none⟩) 0 0) 0 []:=hw0 ▸ R1.alloc _
 have O0 : w0.ownsRow (w.heap.size + 1) 179 2 (.slice (some ⟨w.heap.size + 1, 0, none⟩) 0 0) 0 []:=by
  have:=World.ownsRow_lit (base:=w.heap.size + 1) (e:=179) (size:=2) (w.alloc (.cells #[] 179)) #[] 0 (by simp) (by unfold maxLen; omega) rfl
  rw [hw0] at this
  have e : (w.alloc (.cells #[] 179)).heap.size = w.heap.size + 1:=by simp
  rw [e] at this
  exact this
 clear R1
 unfold stepsAns
 by_cases hz : s = ⟨#[]⟩
 ·rw [if_pos hz]
  subst hz
  go_enter Tryz.func147, Tryz.ntmps147
  go_wp2
  go_ret2
  refine ⟨_, rfl, ⟨[], rfl, ?_, fun k hk => by simp at hk, fun i j _ hj => by simp at hj⟩, B0⟩
  refine ⟨O0.1, ?_⟩
  rcases O0.2 with h | ⟨g, cap, cur, h1, h2, h3⟩
  ·exact .inl h
  ·exact .inr ⟨g, cap, cur, h1, by omega, h3⟩
 ·rw [if_neg hz]
  have hne:=str_ne hz
  have hne2 : (s.toList == []) = false:=by
   rw [beq_eq_false_iff_ne]; intro e; apply hz; apply ByteArray.ext; apply Array.toList_inj.1; rw [ByteArray.toList_eq] at e; exact e
  have SP:=hide fun w => specSplit_any s 47 w hs
  have hpn : 0 < (splitAns s 47).length:=by simp [splitAns]
  have hpz : Hid (∀ p ∈ splitAns s 47, p.size ≤ 33554432):=fun p hp => Nat.le_trans (split_size s 47 p hp) hs
  have hpl:=splitAns_len s 47
  have NONE : Hid (∀ w', Below w.heap.size w w' → w'.ownsRow w.heap.size 179 2 (.slice (some ⟨w.heap.size, 0, none⟩) 0 0) 0 [] → OSt w' w.heap.size (.slice (some ⟨w.heap.size, 0, none⟩) 0 0) []):=hide fun w' _ h => ⟨[], rfl, h, fun k hk => by simp at hk, fun i j _ hj => by simp at hj⟩
  generalize splitAns s 47 = ps at *
  generalize hA : (if ps.getD 0 ByteArray.empty = ⟨#[]⟩ ∧ ps.length ≤ 31 then (stepsRun ps.tail).map (·.2) else none) = A
  have HA:=hide hA
  clear hz hA
  go_enter Tryz.func147, Tryz.ntmps147
  go_wp2_with fail
  clear hw0
  refine (SP.out _).mono ?_
  rintro e w1 ⟨vp, rfl, op, b1⟩
  have s1:=b1.size
  have B1:=bu B0 b1
  have k1 : w0.grownBy w1 none:=⟨b1.os, b1.tape, b1.output, b1.size, fun k hk _ => b1.block k hk⟩
  have N1:=N0.kept k1 (by simp [Value.ownBlock])
  have O1:=O0.kept k1 (by simp [Value.ownBlock])
  rcases op.2 with ⟨_, h0⟩ | ⟨gp, pc, pcur, rfl, _⟩
  ·omega
  have c0:=os_cell op rfl 0 hpn
  have OP:=hide op
  have N1:=hide N1
  clear op SP k1 b1 N0 O0 B0
  by_cases h0 : ps.getD 0 ByteArray.empty = ⟨#[]⟩
  ·rw [h0] at c0
   by_cases h31 : ps.length ≤ 31
   ·have E : Hid (A = (stepsRun ps.tail).map (·.2)):=hide (HA.out.symm.trans (if_pos ⟨h0, h31⟩))
    have h31' : decide ((31 : Int) < (ps.length : Int)) = false:=by simp; omega
    go_wp2
    clear c0
    go_loopw [5, 7, 8] (fun out last i wr => ∃ (k : Nat) (l : Int) (ss : List St) (vs : List Value), k + 1 ≤ ps.length ∧ i = .int .i64 ((k + 1 : Nat) : Int) ∧ last = .int .i64 l ∧ Hid (stepsRun (ps.tail.take k) = some (l, ss)) ∧ ss.length = k ∧ OStV wr (w.heap.size + 1) out ss vs ∧ OS wr w0.heap.size (.slice (some ⟨gp, 0, none⟩) ps.length pc) ps ∧ wr.ownsRow w.heap.size 179 2 (.slice (some ⟨w.heap.size, 0, none⟩) 0 0) 0 [] ∧ Below w.heap.size w wr ∧ w.heap.size + 1 ≤ wr.heap.size) (fun _ _ i _ => ps.length - (intOf i).toNat)
    case atStart => exact ⟨0, 0, [], [], by omega, by go_num, rfl, hide (by rw [List.take_zero]; rfl), rfl, ⟨rfl, O1, fun k hk => by simp at hk, fun i j _ hj => by simp at hj⟩, OP.out, N1.out, B1, by omega⟩
    case round =>
     clear O1 N1 OP B1
     obtain ⟨k, l, ss, vs, hk, rfl, rfl, HR, hsl, ost, hp, nr, br, sz⟩:=hrel
     subst hsl
     obtain ⟨oa, oc, rfl⟩:=OSt.form ⟨vs, ost⟩
     have RO1:=(stepsRun_ok _ _ HR.out).2.1
     by_cases hlt : ss.length + 1 < ps.length
     ·have hc:=os_cell hp rfl (ss.length + 1) hlt
      have hm:=hpz.out _ (getD_mem hlt)
      have HT:=hide (tail_get ps ss.length hlt)
      have HC:=hide (stepOf_cut (ps.getD (ss.length + 1) ByteArray.empty))
      have CUT:=hide fun w => l2Cut_any 124 124 rfl (ps.getD (ss.length + 1) ByteArray.empty) w hm
      generalize ps.getD (ss.length + 1) ByteArray.empty = p at *
      have hc1 : (cutS 124 p.data.toList).1.length ≤ 33554432 ∧ (cutS 124 p.data.toList).2.1.length ≤ 33554432:=by
       have h1:=cutS_len 124 p.data.toList
       have h2 : p.data.toList.length = p.size:=by simp
       omega
      obtain ⟨c, hcc⟩ : ∃ c, cutS 124 p.data.toList = c:=⟨_, rfl⟩
      rw [hcc] at CUT HC hc1
      clear hcc
      have NU:=hide fun w => specNumber_any (toB c.1) w (by rw [toB_size]; unfold maxLen; omega)
      have TX:=hide fun w => specTxsOf (toB c.2.1) w (by rw [toB_size]; omega)
      rw [toB_list] at NU
      obtain ⟨cn, hcn⟩ : ∃ x, numOf c.1 = x:=⟨_, rfl⟩
      obtain ⟨ct, hct⟩ : ∃ x, txsAns (toB c.2.1) = x:=⟨_, rfl⟩
      rw [hcn] at NU HC
      rw [hct] at TX HC
      have hn0 : 0 ≤ nans cn ∧ nans cn ≤ 999999:=by
       cases cn with
       | none => simp [nans]
       | some m => have := numOf_some hcn; simp [nans]; omega
      clear hcn hct
      obtain ⟨n, hn⟩ : ∃ n, nans cn = n:=⟨_, rfl⟩
      obtain ⟨bn, hbn⟩ : ∃ b, cn.isSome = b:=⟨_, rfl⟩
      obtain ⟨bt, hbt⟩ : ∃ b, ct.isSome = b:=⟨_, rfl⟩
      obtain ⟨ts, hts⟩ : ∃ b, ct.getD [] = b:=⟨_, rfl⟩
      rw [hn] at NU HC hn0
      rw [hbn] at NU HC
      rw [hbt] at TX HC
      rw [hts] at TX HC
      clear hn hbn hbt hts
      have OST:=hide ost
      have NR:=hide nr
      have HP:=hide hp
      clear ost nr hp
      go_wp2_with fail
      refine (CUT.out _).mono ?_
      rintro _ w2 ⟨rfl, b2⟩
      go_wp2_with fail
      refine (NU.out _).mono ?_
      rintro _ w3 ⟨rfl, b3⟩
      have b23 : Below wr.heap.size wr w3:=bu b2 b3
      go_wp2_with fail
      refine (TX.out _).mono ?_
      rintro _ w4 ⟨vt, rfl, ot, b4⟩
      have b24 : Below wr.heap.size wr w4:=bu b23 b4
      have B4:=bu br b24
      have s24:=b24.size
      have s23:=b23.size
      have ost4:=OST.out.below b24
      have k24 : wr.grownBy w4 none:=⟨b24.os, b24.tape, b24.output, b24.size, fun k hk _ => b24.block k hk⟩
      have nr4:=World.ownsRow.kept NR.out k24 (by simp [Value.ownBlock])
      have hp4:=HP.out.below b24
      obtain ⟨ta, tc, rfl⟩ : ∃ ta tc, vt = .slice ta ts.length tc:=by
       rcases ot.2 with ⟨rfl, h0⟩ | ⟨g, cap, cur, rfl, _⟩
       ·exact ⟨none, 0, by rw [h0]⟩
       ·exact ⟨_, _, rfl⟩
      clear CUT NU TX b2 b3 b4
      have RN : Hid (stepOf p = none → stepsRun ps.tail = none):=hide fun h => stepsRun_none (ss.length + 1) (by rw [HT.out, stepsRun_more, HR.out]; unfold stepAcc; rw [h]; rfl)
      obtain ⟨c1, c2, cb⟩:=c
      cases cb with
      | false =>
       have F:=hide (RN.out (by rw [HC.out, if_neg (by simp)]))
       go_wp2
       go_ret2
       rw [E.out, F.out]
       exact ⟨_, rfl, NONE.out _ B4 nr4, B4⟩
      | true =>
      cases bn with
      | false =>
       have F:=hide (RN.out (by rw [HC.out, if_neg (by simp)]))
       go_wp2
       go_ret2
       rw [E.out, F.out]
       exact ⟨_, rfl, NONE.out _ B4 nr4, B4⟩
      | true =>
      cases bt with
      | false =>
       have F:=hide (RN.out (by rw [HC.out, if_neg (by simp)]))
       go_wp2
       go_ret2
       rw [E.out, F.out]
       exact ⟨_, rfl, NONE.out _ B4 nr4, B4⟩
      | true =>
      have HS : Hid (stepOf p = some (n, ts)):=hide (by rw [HC.out, if_pos (by simp)])
      have RG : Hid (¬ GoodSt l (n, ts) → stepsRun ps.tail = none):=hide fun h => stepsRun_none (ss.length + 1) (by rw [HT.out, stepsRun_more, HR.out]; unfold stepAcc; rw [HS.out]; exact if_neg h)
      clear RN HC
      by_cases g1 : n ≤ l
      ·have F:=hide (RG.out fun h => by have:=h.1; simp only at this; omega)
       have g1' : decide (n ≤ l) = true:=by simp; omega
       go_wp2
       go_ret2
       rw [E.out, F.out]
       exact ⟨_, rfl, NONE.out _ B4 nr4, B4⟩
      have g1' : decide (n ≤ l) = false:=by simp; omega
      by_cases g2 : 60 < n
      ·have F:=hide (RG.out fun h => by have:=h.2.1; simp only at this; omega)
       have g2' : decide (60 < n) = true:=by simp; omega
       go_wp2
       go_ret2
       rw [E.out, F.out]
       exact ⟨_, rfl, NONE.out _ B4 nr4, B4⟩
      have g2' : decide (60 < n) = false:=by simp; omega
      by_cases g3 : 2 < ts.length
      ·have F:=hide (RG.out fun h => by have:=h.2.2; simp only at this; omega)
       have g3' : decide ((2 : Int) < (ts.length : Int)) = true:=by simp; omega
       go_wp2
       go_ret2
       rw [E.out, F.out]
       exact ⟨_, rfl, NONE.out _ B4 nr4, B4⟩
      have g3' : decide ((2 : Int) < (ts.length : Int)) = false:=by simp; omega
      have HN : Hid (stepsRun (ps.tail.take (ss.length + 1)) = some (n, ss ++ [(n, ts)])):=hide (by
       rw [HT.out, stepsRun_more, HR.out]; unfold stepAcc; rw [HS.out]
       exact if_pos ⟨by omega, by omega, by show ts.length ≤ 2; omega⟩)
      have bX : Below w4.heap.size w4 (w4.alloc (.cells #[.int .i64 n,.slice ta ts.length tc] 179)):=(Below.refl _ _).alloc (Nat.le_refl _) _
      have ostX:=ost4.below bX
      have otX:=ot.below bX
      have hpX:=hp4.below bX
      have nrX:=World.ownsRow.alloc nr4 (.cells #[.int .i64 n,.slice ta ts.length tc] 179)
      have BX:=bu B4 bX
      have hN : ∀ k, k < ss.length → ∀ b, (vs.getD k (.slice none 0 0)).ownBlock = some b → b < w3.heap.size:=fun k hk b hb => by
       have:=(World.ownsRow.lt (OST.out.each k hk) b hb).2; omega
      have hl31 : ss.length ≤ 31:=by omega
      clear RG ost4 ot hp4 nr4 B4
      go_wp2_with (first
       | (at_builtin; refine wpList_append_own _ rfl _ _ 175 rfl (w.heap.size + 1) 179 i0 (.agg #[.int .i64 0,.slice none 0 0]) 2 32 Tryz.underlying175 hi hz0 hz1 hz2 rfl (by decide) _ _ _ rfl ostX.row ⟨w4.heap.size, 0, none⟩ 1 1 (scell (n,.slice ta ts.length tc)) rfl rfl (two_cell w4 (n,.slice ta ts.length tc) 179) (two_plain _ _ _ _) (by unfold maxLen; omega) (by omega) (by simp; omega) ?_; intro v' w5 ho' hg' _; have R := ost_more ostX otX hN (by omega) ho' hg'; have RP := World.ownsRow.kept hpX hg' (own_types hpX ostX.row (by decide)); have RN := World.ownsRow.kept nrX hg' (none_apart ostX.row); have RB := BX.grown hg' BX.size (fun k hk => by have := (World.ownsRow.lt ostX.row k hk).1; omega); have SZ : w4.heap.size ≤ w5.heap.size := (by have := hg'.size; simp at this; omega); clear ho' hg' ostX otX hpX nrX BX bX))
      go_roundw
      case rel => exact ⟨ss.length + 1, n, _, _, by omega, by go_num, rfl, HN, by simp, R, RP, RN, RB, by omega⟩
      case measure => simp [intOf]; omega
     ·have hk2 : ps.tail.take ss.length = ps.tail:=List.take_of_length_le (by simp; omega)
      rw [hk2] at HR
      have hlt' : decide (((ss.length + 1 : Nat) : Int) < (ps.length : Int)) = false:=by simp; omega
      go_wp2
      go_ret2
      rw [E.out, HR.out]
      refine ⟨_, rfl, ⟨vs, ost.len, ?_, fun k hk => ?_, ost.apart⟩, br⟩
      ·exact row_lower ost.row (by omega)
      ·exact row_lower (ost.each k hk) (by omega)
   ·have E : A = none:=HA.out.symm.trans (if_neg fun h => h31 h.2)
    have h31' : decide ((31 : Int) < (ps.length : Int)) = true:=by simp; omega
    go_wp2
    go_ret2
    rw [E]
    exact ⟨_, rfl, NONE.out _ B1 N1.out, B1⟩
  ·have E : A = none:=HA.out.symm.trans (if_neg fun h => h0 h.1)
   have hn0:=str_ne h0
   have hn1 : ((ps.getD 0 ByteArray.empty).toList = []) = False:=eq_false fun e => h0 (by apply ByteArray.ext; apply Array.toList_inj.1; rw [ByteArray.toList_eq] at e; exact e)
   generalize ps.getD 0 ByteArray.empty = p0 at *
   go_wp2
   go_ret2
   rw [E]
   exact ⟨_, rfl, NONE.out _ B1 N1.out, B1⟩
end Go.Proofs.YtndpjhiidmdlhaaGreatDoor
namespace Go.Proofs.YtndpjhiidmdlhaaGreatDoor
open Go.RowKit
set_option linter.unusedSectionVars false
variable [∀ (a b c d : Int), Decidable (Ok4 a b c d)]
variable [∀ (a b c d : Nat), Decidable (okN a b c d)]
variable [∀ (last : Int) (s : St), Decidable (GoodSt last s)]
variable [∀ (x : T4), Decidable (OkT x)]

theorem specNameOk (s : ByteArray) (w : World) (hs : s.size ≤ 33554432) :
 Calls Tryz.prog 97 #[.string s] w fun e w' => e = .returned (.bool (stepsAns s).isSome) ∧ Below w.heap.size w w' := by
 have ST:=hide fun w => specSteps s w hs
 generalize stepsAns s = A at *
 go_enter Tryz.func97, Tryz.ntmps97
 go_wp2_with fail
 refine (ST.out _).mono ?_
 rintro e w1 ⟨v, rfl, _, b1⟩
 go_wp2
 go_ret
 exact ⟨rfl, b1⟩

theorem specViewOf (s : ByteArray) (w : World) (hs : s.size ≤ 33554432) :
 Calls Tryz.prog 159 #[.string s] w fun e w' => e = .returned (.int .i64 (viewAns s)) ∧ Below w.heap.size w w' := by
 have ST:=hide fun w => specSteps s w hs
 have hl : ∀ ss, stepsAns s = some ss → ss.length ≤ 30 ∧ ∀ x ∈ ss, OkSt x:=fun ss h => ⟨((names_iff _ _).1 h).2.1, ((names_iff _ _).1 h).2.2.1⟩
 unfold viewAns
 generalize stepsAns s = A at *
 go_enter Tryz.func159, Tryz.ntmps159
 go_wp2_with fail
 refine (ST.out _).mono ?_
 rintro e w1 ⟨v, rfl, o1, b1⟩
 cases A with
 | none =>
  obtain ⟨ao, ca, rfl⟩:=o1.form
  clear o1 ST hl
  go_wp2
  go_ret
  exact ⟨rfl, b1⟩
 | some ss =>
  obtain ⟨hl, hok⟩:=hl ss rfl
  obtain ⟨ao, ca, hv, r⟩:=o1.rst (fun x hx => by have:=(hok x hx).2.1; omega)
  subst hv
  clear o1 ST hok
  simp only [Option.getD_some] at *
  rcases r with rfl | ⟨g, rfl, r⟩
  ·go_wp2
   go_ret
   exact ⟨rfl, b1⟩
  ·by_cases h0 : ss.length = 0
   ·obtain rfl:=List.length_eq_zero_iff.1 h0
    go_wp2
    go_ret
    exact ⟨rfl, b1⟩
   ·obtain ⟨n, hn⟩ : ∃ n, ss.length = n + 1:=⟨ss.length - 1, by omega⟩
    obtain ⟨u, c0, c1, _⟩:=r n (by omega)
    have hlast:=hide (show (ss.getLast?.map (·.1)).getD 0 = (ss.getD n zst).1 by
     rw [List.getLast?_eq_getElem?, List.getD_eq_getElem?_getD, List.getElem?_eq_getElem (show ss.length - 1 < ss.length by omega), List.getElem?_eq_getElem (show n < ss.length by omega)]
     simp [hn])
    have hi : ((n + 1 : Nat) : Int) - 1 = n:=by omega
    generalize (ss.getD n zst).1 = x at *
    clear r h0
    go_wp2
    go_ret
    exact ⟨by rw [show ((some ss).getD []) = ss from rfl, hlast.out]; rfl, b1⟩

theorem specUpOf (s : ByteArray) (w : World) (hs : s.size ≤ 33554432) :
 Calls Tryz.prog 163 #[.string s] w fun e w' => e = .returned (.string (upAns s)) ∧ Below w.heap.size w w' := by
 have NS:=hide fun w => specNameOk s w hs
 have UC:=hide fun (ss : List St) (h : stepsAns s = some ss) (k : Nat) (hk : k ≤ s.data.toList.length) h1 h2 => up_cut h k hk h1 h2
 have UN : stepsAns s = none → upAns s = ⟨#[]⟩:=fun h => by unfold upAns; rw [h]; rfl
 generalize upAns s = x at *
 generalize stepsAns s = A at *
 go_enter Tryz.func163, Tryz.ntmps163
 go_wp2_with fail
 refine (NS.out _).mono ?_
 rintro e w1 ⟨rfl, b1⟩
 clear NS
 cases A with
 | none =>
  have UN:=UN rfl
  subst UN
  go_wp2
  go_ret
  exact ⟨rfl, b1⟩
 | some ss =>
 clear UN
 have UC:=hide (UC.out ss rfl)
 go_wp2
 go_loop [3] (fun kv => ∃ k : Nat, k ≤ s.size ∧ kv = .int .i64 k ∧ Hid ((47 : UInt8) ∉ s.data.toList.drop k)) (fun kv => (intOf kv).toNat)
 case atStart => exact ⟨s.size, Nat.le_refl _, rfl, hide (by rw [List.drop_eq_nil_of_le (by simp)]; simp)⟩
 case round =>
  obtain ⟨k, hk, rfl, HM⟩:=hrel
  have hlen : s.data.toList.length = s.size:=by simp
  have DONE : Hid (∀ h2 : k = 0 ∨ s.data.toList[k - 1]? = some 47, s.extract 0 (k - 1) = x):=hide fun h2 => by
   rw [← UC.out k (by omega) HM.out h2]
   apply ba_ext; rw [toB_list]; simp [ByteArray.data_extract]
  have HL:=hide hlen
  clear UC hlen
  go_wp2
  ·rename_i h2
   have hp : 0 < k:=by assumption
   have hb : ((s[k - 1].toNat : Int) != 47) = true:=by assumption
   have HM' : Hid ((47 : UInt8) ∉ s.data.toList.drop (k - 1)):=hide (by
    rw [List.drop_eq_getElem_cons (show k - 1 < s.data.toList.length by rw [HL.out]; omega), show k - 1 + 1 = k by omega]
    intro h
    rcases List.mem_cons.1 h with h | h
    ·have e : s[k - 1] = 47:=h.symm
     rw [e] at hb
     revert hb; decide
    ·exact HM.out h)
   go_round
   case rel => exact ⟨k - 1, by omega, by rw [show ((k - 1 : Nat) : Int) = (k : Int) - 1 by omega], HM'⟩
   case measure => simp [intOf]; omega
  ·have h2 : ((s[k - 1].toNat : Int) != 47) = false:=by assumption
   have D:=DONE.out (.inr (by
    rw [List.getElem?_eq_getElem (by rw [HL.out]; omega)]
    refine congrArg some (UInt8.toNat_inj.1 (show s[k - 1].toNat = 47 from ?_))
    have h2:=of_decide_eq_true (p:=(s[k - 1].toNat : Int) = 47) (by simpa using h2)
    omega))
   go_ret
   exact ⟨by rw [← D]; rfl, b1⟩
  ·have h2 : ((s[k - 1].toNat : Int) != 47) = false:=by assumption
   have D:=DONE.out (.inr (by
    rw [List.getElem?_eq_getElem (by rw [HL.out]; omega)]
    refine congrArg some (UInt8.toNat_inj.1 (show s[k - 1].toNat = 47 from ?_))
    have h2:=of_decide_eq_true (p:=(s[k - 1].toNat : Int) = 47) (by simpa using h2)
    omega))
   have D' : ByteArray.empty = x:=by rw [← D, show k - 1 = 0 by omega]; simp
   go_ret
   exact ⟨by rw [← D']; rfl, b1⟩
  ·have D:=DONE.out (.inl (by omega))
   have D' : ByteArray.empty = x:=by rw [← D, show k - 1 = 0 by omega]; simp
   go_ret
   exact ⟨by rw [← D']; rfl, b1⟩

theorem OStV.kept {w w' : World} {B : Nat} {v : Value} {ss : List St} {vs : List Value} {row : Option Nat} (h : OStV w B v ss vs) (hg : w.grownBy w' row) (hv : v.ownBlock = none ∨ v.ownBlock ≠ row) (hs : ∀ k, k < ss.length → (vs.getD k (.slice none 0 0)).ownBlock = none ∨ (vs.getD k (.slice none 0 0)).ownBlock ≠ row) : OStV w' B v ss vs :=
 ⟨h.len, World.ownsRow.kept h.row hg hv, fun k hk => World.ownsRow.kept (h.each k hk) hg (hs k hk), h.apart⟩
end Go.Proofs.YtndpjhiidmdlhaaGreatDoor
namespace Go.Proofs.YtndpjhiidmdlhaaGreatDoor
open Go.RowKit Go.Shelf
set_option linter.unusedSectionVars false
variable [∀ (a b c d : Int), Decidable (Ok4 a b c d)]
variable [∀ (a b c d : Nat), Decidable (okN a b c d)]
variable [∀ (last : Int) (s : St), Decidable (GoodSt last s)]
variable [∀ (x : T4), Decidable (OkT x)]
attribute [local go_sem] Oper.semAt_some

section keeps
variable {W W' : World} {row : Option Nat} {B : Nat}
theorem row_keep {base e size n : Nat} {v : Value} {xs : List Value} (h : W.ownsRow base e size v n xs) (hg : W.grownBy W' row) (hr : ∀ r, row = some r → B ≤ r ∧ ∃ o : Obj, W.heap[r]? = some o ∧ o.isCells = false) : W'.ownsRow base e size v n xs := by
 refine h.kept hg ?_
 rcases h.2 with ⟨rfl, _⟩ | ⟨g, cap, cur, rfl, _, hgb, _⟩
 ·exact .inl rfl
 ·refine .inr fun e' => ?_
  obtain ⟨_, o, ho, hc⟩:=hr g (by simpa [Value.ownBlock] using e'.symm)
  rw [hgb] at ho; cases ho; cases hc
theorem box_keep {b : Nat} {t : TypeId} {v : Value} (h : Boxed W b t v) (hg : W.grownBy W' row) (hr : ∀ r, row = some r → B ≤ r ∧ ∃ o : Obj, W.heap[r]? = some o ∧ o.isCells = false) : Boxed W' b t v := by
 refine h.kept hg fun e => ?_
 obtain ⟨_, o, ho, hc⟩:=hr b e.symm
 rw [show W.heap[b]? = _ from h] at ho; cases ho; cases hc
theorem ost_keep {base : Nat} {v : Value} {ss : List St} {vs : List Value} (h : OStV W base v ss vs) (hg : W.grownBy W' row) (hr : ∀ r, row = some r → B ≤ r ∧ ∃ o : Obj, W.heap[r]? = some o ∧ o.isCells = false) : OStV W' base v ss vs :=
 ⟨h.len, row_keep h.row hg hr, fun k hk => row_keep (h.each k hk) hg hr, h.apart⟩
end keeps
structure Mem (w W : World) (ss : List St) (vs : List Value) (v : Value) : Prop where
 r0 : Boxed W w.heap.size 175 (.slice none 0 0)
 r1 : Boxed W (w.heap.size + 1) 4 (.bool false)
 st : Boxed W (w.heap.size + 1 + 1) 175 v
 la : Boxed W (w.heap.size + 1 + 1 + 1) 3 (.int .i64 (lastV ss))
 own : OStV W (w.heap.size + 5) v ss vs
 below : Below w.heap.size w W
 size : w.heap.size + 5 ≤ W.heap.size
theorem Mem.keep {w W W' : World} {ss : List St} {vs : List Value} {v : Value} {row : Option Nat} {B : Nat} (h : Mem w W ss vs v) (hB : w.heap.size ≤ B) (hg : W.grownBy W' row) (hr : ∀ r, row = some r → B ≤ r ∧ ∃ o : Obj, W.heap[r]? = some o ∧ o.isCells = false) : Mem w W' ss vs v :=
 ⟨box_keep h.r0 hg hr, box_keep h.r1 hg hr, box_keep h.st hg hr, box_keep h.la hg hr, ost_keep h.own hg hr, h.below.grown hg h.below.size (fun k e => Nat.le_trans hB (hr k e).1), Nat.le_trans h.size hg.size⟩
theorem mem_boxes {w W w1 : World} {ss : List St} {vs : List Value} {v : Value} {tmp : Obj} (me : Mem w W ss vs v) (hg : (W.alloc tmp).grownBy w1 v.ownBlock) :
 Boxed w1 w.heap.size 175 (.slice none 0 0) ∧ Boxed w1 (w.heap.size + 1) 4 (.bool false) ∧ Boxed w1 (w.heap.size + 1 + 1) 175 v ∧ Boxed w1 (w.heap.size + 1 + 1 + 1) 3 (.int .i64 (lastV ss)) ∧ KeepsOthers W w1 ∧ Below w.heap.size W w1 ∧ W.heap.size ≤ w1.heap.size := by
 have hne : ∀ b, b < w.heap.size + 5 → some b ≠ v.ownBlock:=fun b hb e => by
  have:=(World.ownsRow.lt me.own.row b e.symm).1
  omega
 have hz:=hg.size
 simp only [World.size_alloc] at hz
 refine ⟨(me.r0.alloc tmp).kept hg (hne _ (by omega)), (me.r1.alloc tmp).kept hg (hne _ (by omega)), (me.st.alloc tmp).kept hg (hne _ (by omega)), (me.la.alloc tmp).kept hg (hne _ (by omega)), ?_, ?_, by omega⟩
 ·refine (KeepsOthers.alloc W tmp).trans (KeepsOthers.of_grownBy hg fun j o ej hj => ?_)
  rcases (me.own.row.alloc tmp).2 with ⟨rfl, _⟩ | ⟨g, cap, cur, rfl, _, hgb, _⟩
  ·simp [Value.ownBlock] at ej
  ·obtain rfl : g = j:=by simpa [Value.ownBlock] using ej
   rw [hgb] at hj; cases hj; rfl
 ·have hsz:=me.below.size
  refine ((Below.refl w.heap.size W).alloc hsz tmp).grown hg (by simp; omega) fun j ej => ?_
  have:=(World.ownsRow.lt me.own.row j ej).1
  omega
theorem ost_set {V : World} {B : Nat} {v : Value} {ss : List St} {vs : List Value} (h : OStV V B v ss vs) (b : Nat) (y : Value) (hb : b < B) : OStV (V.setCell ⟨b, 0, none⟩ y) B v ss vs := by
 refine h.kept (grown_put V ⟨b, 0, none⟩ y) ?_ fun k hk => ?_
 ·cases hv : v.ownBlock with
  | none => exact .inl rfl
  | some g =>
   refine .inr fun e => ?_
   have:=(World.ownsRow.lt h.row g hv).1
   have e2 : g = b:=by simpa using e
   omega
 ·cases hv : (vs.getD k (.slice none 0 0)).ownBlock with
  | none => exact .inl rfl
  | some g =>
   refine .inr fun e => ?_
   have:=(World.ownsRow.lt (h.each k hk) g hv).1
   have e2 : g = b:=by simpa using e
   omega
theorem mem_more {w W w1 : World} {ss : List St} {vs : List Value} {v v' u : Value} {x : St} {tmp : Obj} (me : Mem w W ss vs v) (hg : (W.alloc tmp).grownBy w1 v.ownBlock) (own1 : OStV w1 (w.heap.size + 5) v' (ss ++ [x]) (vs ++ [u])) :
 Mem w ((w1.setCell ⟨w.heap.size + 1 + 1, 0, none⟩ v').setCell ⟨w.heap.size + 1 + 1 + 1, 0, none⟩ (.int .i64 x.1)) (ss ++ [x]) (vs ++ [u]) v' ∧ KeepsOthers W ((w1.setCell ⟨w.heap.size + 1 + 1, 0, none⟩ v').setCell ⟨w.heap.size + 1 + 1 + 1, 0, none⟩ (.int .i64 x.1)) ∧ Below w.heap.size W ((w1.setCell ⟨w.heap.size + 1 + 1, 0, none⟩ v').setCell ⟨w.heap.size + 1 + 1 + 1, 0, none⟩ (.int .i64 x.1)) := by
 obtain ⟨b0, b1, b2, b3, k1, bl, z⟩:=mem_boxes me hg
 have hset : ∀ (V : World) (b : Nat) (y : Value), b < w.heap.size + 5 → OStV V (w.heap.size + 5) v' (ss ++ [x]) (vs ++ [u]) → OStV (V.setCell ⟨b, 0, none⟩ y) (w.heap.size + 5) v' (ss ++ [x]) (vs ++ [u]):=fun V b y hb h => ost_set h b y hb
 have bb : Below w.heap.size W ((w1.setCell ⟨w.heap.size + 1 + 1, 0, none⟩ v').setCell ⟨w.heap.size + 1 + 1 + 1, 0, none⟩ (.int .i64 x.1)):=(bl.setCell (p:=⟨w.heap.size + 1 + 1, 0, none⟩) (by show w.heap.size ≤ w.heap.size + 1 + 1; omega) _).setCell (p:=⟨w.heap.size + 1 + 1 + 1, 0, none⟩) (by show w.heap.size ≤ w.heap.size + 1 + 1 + 1; omega) _
 refine ⟨⟨(b0.other (by omega) _).other (by omega) _, (b1.other (by omega) _).other (by omega) _, (b2.set _).other (by omega) _, ?_, hset _ _ _ (by omega) (hset _ _ _ (by omega) own1), me.below.trans bb, ?_⟩, (k1.trans (KeepsOthers.setCell _ _ _)).trans (KeepsOthers.setCell _ _ _), bb⟩
 ·rw [lastV_snoc]; exact (b3.other (by omega) _).set _
 ·have:=bb.size
  have:=me.size
  omega
theorem step_in {w W w1 : World} {ss : List St} {vs : List Value} {va ta : Option Addr} {vc tc N Q : Nat} {n : Int} {ts : List T4} {v' : Value} (me : Mem w W ss vs (.slice va ss.length vc)) (hN : ∀ j, j < ss.length → ∀ b, (vs.getD j (.slice none 0 0)).ownBlock = some b → b < N) (hbN : w.heap.size + 5 ≤ N)
 (ot : OT (W.alloc (.cells #[.int .i64 n,.slice ta ts.length tc] 179)) N (.slice ta ts.length tc) ts) (q0 : W.cell? ⟨Q, 0, none⟩ = some (.int .i64 n)) (hvq : ∀ b, (Value.slice va ss.length vc).ownBlock = some b → b ≠ Q) (hQ : w.heap.size + 5 ≤ Q)
 (ho : w1.ownsRow (w.heap.size + 5) 179 2 v' (ss.length + 1) (scells ((ss.map (·.1)).zip vs) ++ scell (n,.slice ta ts.length tc))) (hg : (W.alloc (.cells #[.int .i64 n,.slice ta ts.length tc] 179)).grownBy w1 (Value.slice va ss.length vc).ownBlock) :
 ∃ g' cap', v' = .slice (some ⟨g', 0, none⟩) (ss.length + 1) cap' ∧ w1.cell? ⟨w.heap.size + 1 + 1, 0, none⟩ = some (.slice va ss.length vc) ∧ w1.frozen? ⟨w.heap.size + 1 + 1, 0, none⟩ = false ∧
  (w1.setCell ⟨w.heap.size + 1 + 1, 0, none⟩ v').cell? ⟨w.heap.size + 1 + 1 + 1, 0, none⟩ = some (.int .i64 (lastV ss)) ∧ (w1.setCell ⟨w.heap.size + 1 + 1, 0, none⟩ v').frozen? ⟨w.heap.size + 1 + 1 + 1, 0, none⟩ = false ∧ (w1.setCell ⟨w.heap.size + 1 + 1, 0, none⟩ v').cell? ⟨Q, 0, none⟩ = some (.int .i64 n) ∧
  Hid (Mem w ((w1.setCell ⟨w.heap.size + 1 + 1, 0, none⟩ v').setCell ⟨w.heap.size + 1 + 1 + 1, 0, none⟩ (.int .i64 n)) (ss ++ [(n, ts)]) (vs ++ [.slice ta ts.length tc]) v' ∧ KeepsOthers W ((w1.setCell ⟨w.heap.size + 1 + 1, 0, none⟩ v').setCell ⟨w.heap.size + 1 + 1 + 1, 0, none⟩ (.int .i64 n)) ∧ Below w.heap.size W ((w1.setCell ⟨w.heap.size + 1 + 1, 0, none⟩ v').setCell ⟨w.heap.size + 1 + 1 + 1, 0, none⟩ (.int .i64 n))) := by
 have bX : Below W.heap.size W (W.alloc (.cells #[.int .i64 n,.slice ta ts.length tc] 179)):=(Below.refl _ _).alloc (Nat.le_refl _) _
 have own1:=ost_more (me.own.below bX) ot hN hbN ho hg
 obtain ⟨g', cap', e⟩:=ownsRow_succ ho
 obtain ⟨_, _, b2, b3, _, _, _⟩:=mem_boxes me hg
 have b3':=b3.other (B':=w.heap.size + 1 + 1) (by omega) v'
 have hq1 : w1.heap[Q]? = W.heap[Q]?:=(hg.block Q (by have:=cell_lt q0; simp at *; omega) (fun e => hvq Q e.symm rfl)).trans (Below.heap_alloc _ _ _ (cell_lt q0))
 have p0 : w1.cell? ⟨Q, 0, none⟩ = some (.int .i64 n):=(World.cell?_of_block (w:=W) (w':=w1) hq1).trans q0
 exact ⟨g', cap', e, b2.cell, b2.frozen, b3'.cell, b3'.frozen, (World.cell?_setCell_other _ _ _ _ (fun e => by have := congrArg Addr.block e; simp only at this; omega)).trans p0, hide (mem_more (x := (n, ts)) me hg own1)⟩
def Sofar (s : ByteArray) (k : Nat) (ss : List St) : Prop := ss.length = k ∧ s.data.toList = nm ss ++ rsN s.data.toList k ∧ OkSts ss
def SI (s : ByteArray) (w : World) (k : Nat) (W : World) : Prop := ∃ ss vs v, Sofar s k ss ∧ Mem w W ss vs v
def SX (s : ByteArray) (w : World) (_ : Nat) (W : World) : Prop := stepsAns s = none ∧ Boxed W w.heap.size 175 (.slice none 0 0) ∧ Boxed W (w.heap.size + 1) 4 (.bool false) ∧ Below w.heap.size w W
abbrev fnIt (w : World) : Value := .func (.func 231) #[] #[.pointer (some ⟨w.heap.size + 1 + 1 + 1 + 1, 0, none⟩)]
def SA (s : ByteArray) (w : World) (k : Nat) (a' : Act) (W : World) : Prop := ∃ (ss : List St) (vs : List Value) (v u : Value) (N Q : Nat), Sofar s k ss ∧ Mem w W ss vs v ∧ (∀ j, j < ss.length → ∀ b, (vs.getD j (.slice none 0 0)).ownBlock = some b → b < N) ∧ w.heap.size + 5 ≤ N ∧ OT W N u (stepT (stepP (pc (rsN s.data.toList k)))) ∧
 w.heap.size + 5 ≤ Q ∧ Two W Q (((stepP (pc (rsN s.data.toList k))).map (·.1)).getD 0) u ∧ (∀ b, v.ownBlock = some b → b ≠ Q) ∧
 a' = { tmps := #[.string s, undef,.pointer (some ⟨w.heap.size, 0, none⟩),.pointer (some ⟨w.heap.size + 1, 0, none⟩),.pointer (some ⟨w.heap.size + 1 + 1, 0, none⟩),.pointer (some ⟨w.heap.size + 1 + 1 + 1, 0, none⟩),.pointer (some ⟨Q, 0, none⟩),.bool (stepP (pc (rsN s.data.toList k))).isSome,.string s, fnIt w, stepV (stepP (pc (rsN s.data.toList k))) u,.bool (stepP (pc (rsN s.data.toList k))).isSome, undef, undef, undef, undef, undef, undef, undef, undef, undef, undef, undef, undef, undef, undef, undef, undef, undef, undef, undef, undef, undef, undef, undef, undef, undef, undef, undef, undef], defers := [] }

theorem implSteps (s : ByteArray) (w : World) (hs : s.size ≤ 33554432) (hE : Env w) :
 Calls Tryz.prog 151 #[.string s] w fun e w' => ∃ v, e = .returned (.tuple #[v,.bool (stepsAns s).isSome]) ∧ OSt w' w.heap.size v ((stepsAns s).getD []) ∧ Below w.heap.size w w' := by
 obtain ⟨m, hm⟩:=rounds s.data.toList
 have SO:=hide fun w => stepsOf_any s w
 refine (callsIn_wide (n := 5)).1 ?_
 refine callsIn_of_wp_marks Tryz.func151 rfl trivial ?_ rfl
 simp only [Tryz.ntmps151, List.size_toArray, List.length_cons, List.length_nil, Nat.reduceAdd, Nat.reduceSub, Array.replicate_succ, Array.replicate_zero, List.push_toArray, List.append_toArray, List.nil_append, List.cons_append]
 gi_wp2_with fail
 refine ⟨trivial, (callsIn_wide.2 (SO.out _)).mono ?_⟩
 rintro _ w1 ⟨rfl, rfl⟩
 gi_wp2
 obtain ⟨wl, hwl⟩ : ∃ wl, ((((w.alloc (.cells #[.slice none 0 0] 175)).alloc (.cells #[.bool false] 4)).alloc (.cells #[.slice none 0 0] 175)).alloc (.cells #[.int .i64 0] 3)).alloc (.cells #[.string s] 9) = wl:=⟨_, rfl⟩
 have zl : wl.heap.size = w.heap.size + 5:=by rw [← hwl]; simp
 have bl : Below w.heap.size w wl:=hwl ▸ (((((Below.refl _ _).alloc (Nat.le_refl _) _).alloc (by simp) _).alloc (by simp; omega) _).alloc (by simp; omega) _).alloc (by simp; omega) _
 have m0 : Mem w wl [] [] (.slice none 0 0):=by
  refine ⟨?_, ?_, ?_, ?_, ⟨rfl, World.ownsRow_nil _ _ _ _, fun k hk => by simp at hk, fun i j _ hj => by simp at hj⟩, bl, by omega⟩
  ·rw [← hwl]; exact ((((Boxed.new w _ _).alloc _).alloc _).alloc _).alloc _
  ·rw [← hwl]; have := (((Boxed.new (w.alloc (.cells #[.slice none 0 0] 175)) 4 (.bool false)).alloc (.cells #[.slice none 0 0] 175)).alloc (.cells #[.int .i64 0] 3)).alloc (.cells #[.string s] 9); simpa using this
  ·rw [← hwl]; have := ((Boxed.new ((w.alloc (.cells #[.slice none 0 0] 175)).alloc (.cells #[.bool false] 4)) 175 (.slice none 0 0)).alloc (.cells #[.int .i64 0] 3)).alloc (.cells #[.string s] 9); simpa using this
  ·rw [← hwl]; have := (Boxed.new (((w.alloc (.cells #[.slice none 0 0] 175)).alloc (.cells #[.bool false] 4)).alloc (.cells #[.slice none 0 0] 175)) 3 (.int .i64 0)).alloc (.cells #[.string s] 9); simpa [lastV] using this
 have cl : wl.cell? ⟨w.heap.size + 4, 0, none⟩ = some (.string s):=by
  have:=(Boxed.new ((((w.alloc (.cells #[.slice none 0 0] 175)).alloc (.cells #[.bool false] 4)).alloc (.cells #[.slice none 0 0] 175)).alloc (.cells #[.int .i64 0] 3)) 9 (.string s)).cell
  rw [hwl] at this
  simpa using this
 have hzz : ((((w.alloc (.cells #[.slice none 0 0] 175)).alloc (.cells #[.bool false] 4)).alloc (.cells #[.slice none 0 0] 175)).alloc (.cells #[.int .i64 0] 3)).heap.size = w.heap.size + 4:=by simp
 have FE:=iter_feeds s hs m (w.heap.size + 4) 4 hm w wl hE bl cl
 rw [hwl]
 try simp only [hzz]
 clear hwl hzz
 refine range_fed rfl (by omega) (gf := 231) (lb := #[.pointer (some ⟨w.heap.size + 4, 0, none⟩)]) rfl trivial (enters_of Tryz.func231 (by kernel_rfl) rfl) (hn₀ := by omega) (fun k vs U W h => by obtain ⟨v, rfl, _⟩ := h; rfl) FE
  (SI s w) (SX s w) ?hI ?hX ?h0 (SA s w) ?hAx ?hassign ?hbody ?hdone ?hstop
 case hI =>
  rintro k W W' row ⟨ss, vs, v, so, me⟩ hg hr
  exact ⟨ss, vs, v, so, me.keep (by omega) hg hr⟩
 case hX =>
  rintro k W W' row ⟨h1, h2, h3, h4⟩ hg hr
  exact ⟨h1, box_keep h2 hg hr, box_keep h3 hg hr, h4.grown hg h4.size (fun k e => by have := (hr k e).1; omega)⟩
 case h0 => exact ⟨[], [], _, ⟨rfl, rfl, by simp [OkSts]⟩, m0⟩
 case hAx =>
  rintro a' k W W' row ⟨ss, vs, v, u, N, Q, so, me, h1, h2, h3, h4, h5, h7, h8⟩ hg hr
  exact ⟨ss, vs, v, u, N, Q, so, me.keep (by omega) hg hr, h1, h2, row_keep h3 hg hr, h4, ⟨cell_kept h5.1 hg (fun r e => (hr r e).2), cell_kept h5.2 hg (fun r e => (hr r e).2)⟩, h7, h8⟩
 case hassign =>
  intro l k vs U W K hk hi bU hh hK
  obtain ⟨ss, ws, v, so, me⟩:=hi
  obtain ⟨u, rfl, ot⟩:=hh
  have hN : ∀ j, j < ss.length → ∀ b, (ws.getD j (.slice none 0 0)).ownBlock = some b → b < U.heap.size:=fun j hj b hb => (World.ownsRow.lt (me.own.each j hj) b hb).2
  have hV : ∀ b, v.ownBlock = some b → b < U.heap.size:=fun b hb => (World.ownsRow.lt me.own.row b hb).2
  have hU:=me.size
  have hUW:=bU.size
  have meW:=me.keep (B:=w.heap.size) (Nat.le_refl _) (grown_of bU) (fun r e => by cases e)
  obtain ⟨ta, tl, tc, rfl⟩ : ∃ ta tl tc, u = .slice ta tl tc:=by
   rcases ot.2 with ⟨rfl, h0⟩ | ⟨g, cap, cur, rfl, _⟩
   ·exact ⟨none, 0, 0, rfl⟩
   ·exact ⟨_, _, _, rfl⟩
  have SAK : ∀ a', a' = _ → SA s w k a' (W.alloc (.cells #[.int .i64 (((stepP (pc (rsN s.data.toList k))).map (·.1)).getD 0),.slice ta tl tc] 179)):=fun a' ha => ⟨ss, ws, v,.slice ta tl tc, U.heap.size, W.heap.size, so, meW.keep (B:=w.heap.size) (Nat.le_refl _) (World.grownBy_alloc W _ none) (fun r e => by cases e), hN, hU, World.ownsRow.alloc ot _, by omega, two_new W _ _ _, fun b hb => by have:=hV b hb; omega, ha⟩
  have bA : Below w.heap.size W (W.alloc (.cells #[.int .i64 (((stepP (pc (rsN s.data.toList k))).map (·.1)).getD 0),.slice ta tl tc] 179)):=(Below.refl _ _).alloc (by omega) _
  have kA : KeepsFrom wl.heap.size W (W.alloc (.cells #[.int .i64 (((stepP (pc (rsN s.data.toList k))).map (·.1)).getD 0),.slice ta tl tc] 179)):=(KeepsOthers.alloc _ _).from _
  clear hN hV meW me ot so FE hE
  gi_wp2
  exact hK _ _ kA bA (SAK _ rfl)
 case hbody =>
  rintro l k a' W hk ⟨ss, vs, v, u, N, Q, so, me, hN, hbN, ot, hQ, two, hvq, rfl⟩
  have c0:=me.r0.cell
  have f0:=me.r0.frozen
  have c1:=me.r1.cell
  have f1:=me.r1.frozen
  have c2:=me.st.cell
  have c3:=me.la.cell
  have hl0:=lastV_ge so.2.2
  have hl30:=so.2.2.1
  have NO : Hid ((∀ x, stepP (pc (rsN s.data.toList k)) = some x → GoodSt (lastV ss) x → ss.length < 30 → False) → stepsAns s = none):=hide fun h => by
   refine piece_no so.2.1 (hm.2 k hk) so.2.2 ?_ h
   cases k with
   | zero => exact .inl (List.length_eq_zero_iff.1 so.1)
   | succ k => exact .inr ((rs_head (rsN s.data.toList k)).resolve_left (hm.2 (k + 1) hk))
  have OUT : Hid (stepsAns s = none → SX s w k ((W.setCell ⟨w.heap.size, 0, none⟩ (.slice none 0 0)).setCell ⟨w.heap.size + 1, 0, none⟩ (.bool false)) ∧ KeepsFrom wl.heap.size W ((W.setCell ⟨w.heap.size, 0, none⟩ (.slice none 0 0)).setCell ⟨w.heap.size + 1, 0, none⟩ (.bool false))):=hide fun h => ⟨⟨h, (me.r0.set _).other (by omega) _, (me.r1.other (by omega) _).set _, (me.below.setCell (p:=⟨w.heap.size, 0, none⟩) (Nat.le_refl _) _).setCell (p:=⟨w.heap.size + 1, 0, none⟩) (by show w.heap.size ≤ w.heap.size + 1; omega) _⟩, ((KeepsOthers.setCell _ _ _).trans (KeepsOthers.setCell _ _ _)).from _⟩
  obtain ⟨va, vc, rfl⟩:=OSt.form ⟨vs, me.own⟩
  obtain ⟨q0, q1⟩:=two
  have ON : Hid (∀ x, stepP (pc (rsN s.data.toList k)) = some x → GoodSt (lastV ss) x → ss.length < 30 → Sofar s (k + 1) (ss ++ [x])):=hide fun x hx hg h30 => by
   obtain ⟨h1, h2⟩:=piece_on so.2.1 so.2.2 hx hg h30
   exact ⟨by simp [so.1], h1, h2⟩
  obtain ⟨o, ho⟩ : ∃ o, stepP (pc (rsN s.data.toList k)) = o:=⟨_, rfl⟩
  rw [ho] at NO ON ot q0 ⊢
  have ME:=hide me
  clear FE hm so me ho hE cl m0 bl
  cases o with
  | none =>
   have OUT:=hide (OUT.out (NO.out fun x hx => by cases hx))
   clear NO ON
   simp only [Option.isSome_none, Option.map_none, Option.getD_none, stepV] at *
   gi_wp2_with fail
   refine ⟨trivial, ?_⟩
   gi_wp2
   exact ⟨OUT.out.2, OUT.out.1⟩
  | some x =>
   obtain ⟨n, ts⟩:=x
   simp only [Option.isSome_some, Option.map_some, Option.getD_some, stepV, stepT] at *
   obtain ⟨ta, tc, rfl⟩ : ∃ ta tc, u = .slice ta ts.length tc:=by
    rcases ot.2 with ⟨rfl, h0⟩ | ⟨g, cap, cur, rfl, _⟩
    ·exact ⟨none, 0, by rw [h0]⟩
    ·exact ⟨_, _, rfl⟩
   have OT':=hide ot
   clear ot
   by_cases g0 : ss.length = 30
   ·have OUT:=hide (OUT.out (NO.out fun x _ _ h => by omega))
    clear NO ON
    have g0' : decide ((ss.length : Int) = 30) = true:=by simp; omega
    gi_wp2_with fail
    refine ⟨trivial, ?_⟩
    gi_wp2
    exact ⟨OUT.out.2, OUT.out.1⟩
   have g0' : decide ((ss.length : Int) = 30) = false:=by simp; omega
   have g0b : (((ss.length : Nat) : Int) == 30) = false:=by rw [beq_eq_false_iff_ne]; omega
   by_cases g3 : 2 < ts.length
   ·have OUT:=hide (OUT.out (NO.out fun x hx h _ => by cases hx; have:=h.2.2; simp only at this; omega))
    clear NO ON
    have g3' : decide ((2 : Int) < (ts.length : Int)) = true:=by simp; omega
    gi_wp2_with fail
    refine ⟨trivial, ?_⟩
    gi_wp2
    exact ⟨OUT.out.2, OUT.out.1⟩
   have g3' : decide ((2 : Int) < (ts.length : Int)) = false:=by simp; omega
   by_cases g1 : lastV ss + 1 ≤ n ∧ n ≤ 60
   ·have WI:=hide fun w => within_yes n (lastV ss + 1) 60 w g1.1 g1.2
    have ON:=hide (ON.out (n, ts) rfl ⟨by show lastV ss < n; omega, g1.2, by show ts.length ≤ 2; omega⟩ (by omega))
    clear NO OUT
    obtain ⟨i0, hi, hz0, hz1, hz2⟩:=info_parts Tryz.infoSt
    have me:=ME.out
    have sz:=me.size
    have bX : Below W.heap.size W (W.alloc (.cells #[.int .i64 n,.slice ta ts.length tc] 179)):=(Below.refl _ _).alloc (Nat.le_refl _) _
    have ostX:=me.own.below bX
    have otX:=OT'.out.below bX
    clear OT' me
    gi_wp2_with fail
    refine ⟨trivial, (CallsIn.inRound l (callsIn_wide.2 (WI.out _))).mono ?_⟩
    rintro _ w2 ⟨rfl, rfl⟩
    gi_wp2_with (gi_at_builtin; refine wpListIn_append_own _ rfl _ _ 175 rfl (w.heap.size + 5) 179 i0 (.agg #[.int .i64 0,.slice none 0 0]) 2 32 Tryz.underlying175 hi hz0 hz1 hz2 rfl (by decide) _ _ _ rfl ostX.row ⟨w2.heap.size, 0, none⟩ 1 1 (scell (n,.slice ta ts.length tc)) rfl rfl (two_cell w2 (n,.slice ta ts.length tc) 179) (two_plain _ _ _ _) (by unfold maxLen; omega) (by omega) (by simp; omega) ?_; intro v' w1 hown' hgrow _; obtain ⟨g', cap', rfl, d2, e2, d3, e3, p1, MM⟩ := step_in ME.out hN hbN otX q0 hvq hQ hown' hgrow; clear hgrow hown' ostX otX ME q0 q1 c0 c1 c2 c3 f0 f1 bX)
    exact ⟨MM.out.2.1.from _, MM.out.2.2, ⟨_, _, _, ON.out, MM.out.1⟩⟩
   ·have OUT:=hide (OUT.out (NO.out fun x hx h _ => by cases hx; have h1:=h.1; have h2:=h.2.1; simp only at h1 h2; omega))
    have WI:=hide fun w => within_no n (lastV ss + 1) 60 w (by omega)
    clear NO ON
    gi_wp2_with fail
    refine ⟨trivial, (CallsIn.inRound l (callsIn_wide.2 (WI.out _))).mono ?_⟩
    rintro _ w2 ⟨rfl, rfl⟩
    gi_wp2
    exact ⟨OUT.out.2, OUT.out.1⟩
 case hdone =>
  rintro D W hD ⟨ss, vs, v, so, me⟩ hK
  have HA:=hide (piece_end (by have:=so.2.1; rwa [hm.1] at this) so.2.2)
  obtain ⟨va, vc, rfl⟩:=OSt.form ⟨vs, me.own⟩
  have c0:=me.r0.cell
  have f0:=me.r0.frozen
  have b1:=me.r1.other (B':=w.heap.size) (by omega) (.slice va ss.length vc)
  have c1:=b1.cell
  have f1:=b1.frozen
  have c2:=me.st.cell
  have ME:=hide me
  have B0:=(((me.r0.set (.slice va ss.length vc)).other (B':=w.heap.size + 1) (by omega) (.bool true)).kept (grownBy_putObj' _ D (.deferred none)) (fun e => by cases e; omega)).cell
  have B1:=((b1.set (.bool true)).kept (grownBy_putObj' _ D (.deferred none)) (fun e => by cases e; omega)).cell
  have hK':=(KeepsOthers.setCell (W.setCell ⟨w.heap.size, 0, none⟩ (.slice va ss.length vc)) ⟨w.heap.size + 1, 0, none⟩ (.bool true)).same D _ ((KeepsOthers.setCell W ⟨w.heap.size, 0, none⟩ (.slice va ss.length vc)).same D _ hK rfl) rfl
  clear FE hm so me hE cl m0 bl b1
  gi_wp2
  refine ⟨by simp, .inl ⟨_, _, rfl, run_takeDeferred hK', ?_⟩⟩
  refine ⟨.tuple #[.slice va ss.length vc,.bool true], by simp [results, Tryz.results151, go_sem, B0, B1],.slice va ss.length vc, by rw [HA.out]; rfl, ?_, ?_⟩
  ·rw [HA.out]
   have h1:=ost_set (ost_set ME.out.own w.heap.size (.slice va ss.length vc) (by omega)) (w.heap.size + 1) (.bool true) (by omega)
   have h2:=ost_keep (B:=0) h1 (grownBy_putObj' _ D (.deferred none)) (fun r e => by cases e; exact ⟨Nat.zero_le _, _, hK', rfl⟩)
   exact ⟨vs, h2.len, row_lower h2.row (by omega), fun k hk => row_lower (h2.each k hk) (by omega), h2.apart⟩
  ·exact ((ME.out.below.setCell (p := ⟨w.heap.size, 0, none⟩) (Nat.le_refl _) _).setCell (p := ⟨w.heap.size + 1, 0, none⟩) (by show w.heap.size ≤ w.heap.size + 1; omega) _).trans (belowK_b (w := w) (Nat.le_refl _) _ D _ _ (by omega) hK' rfl rfl)
 case hstop =>
  rintro D k W hD hk ⟨hn, b0, b1, bel⟩ hK
  have B0:=(b0.kept (grownBy_putObj' _ D (.deferred none)) (fun e => by cases e; omega)).cell
  have B1:=(b1.kept (grownBy_putObj' _ D (.deferred none)) (fun e => by cases e; omega)).cell
  clear FE hm hE cl m0 bl
  gi_wp2
  refine ⟨by simp, .inl ⟨_, _, rfl, run_takeDeferred hK, ?_⟩⟩
  refine ⟨.tuple #[.slice none 0 0,.bool false], by simp [results, Tryz.results151, go_sem, B0, B1],.slice none 0 0, by rw [hn]; rfl, by rw [hn]; exact ost_nil _ _, ?_⟩
  exact bel.trans (belowK_b (w := w) (Nat.le_refl _) _ D _ _ (by omega) hK rfl rfl)
end Go.Proofs.YtndpjhiidmdlhaaGreatDoor
