/- Lemmas; their conditions stand in each statement. -/
import Derived.Test.YtmpffkpilbbclaaGreatDoorSAAS
import Derived.Laws.AppendOwnNone
set_option maxRecDepth 100000
set_option maxHeartbeats 8000000
set_option linter.unusedSectionVars false
namespace Go.Proofs.YtmpffkpilbbclaaGreatDoor
section
open Go.RowKit
variable [∀ (a b c d : Int), Decidable (Ok4 a b c d)]
variable [∀ (a b c d : Nat), Decidable (okN a b c d)]
variable [∀ (last : Int) (s : St), Decidable (GoodSt last s)]
theorem own_types {w : World} {B B' n n' s s' : Nat} {e e' : TypeId} {v u : Value} {xs ys : List Value} (h : w.ownsRow B e s v n xs) (h' : w.ownsRow B' e' s' u n' ys) (he : e ≠ e') : v.ownBlock = none ∨ v.ownBlock ≠ u.ownBlock := by
 rcases h.2 with ⟨rfl, _⟩ | ⟨g, cap, cur, rfl, _, hg, _⟩
 ·exact .inl rfl
 rcases h'.2 with ⟨rfl, _⟩ | ⟨g', cap', cur', rfl, _, hg', _⟩
 ·exact .inr (by simp [Value.ownBlock])
 refine .inr fun e2 => ?_
 simp [Value.ownBlock] at e2
 rw [e2, hg'] at hg
 simp at hg
 exact he hg.2.symm
theorem none_apart {w : World} {B n s : Nat} {e : TypeId} {v : Value} {xs : List Value} {c : Nat} (h : w.ownsRow (B + 1) e s v n xs) : (Value.slice (some ⟨B, 0, none⟩) 0 c).ownBlock = none ∨ (Value.slice (some ⟨B, 0, none⟩) 0 c).ownBlock ≠ v.ownBlock := .inr fun e => by
 have:=(World.ownsRow.lt h B (by rw [← e]; rfl)).1
 omega
theorem row_lower {w : World} {B B' n s : Nat} {e : TypeId} {v : Value} {xs : List Value} (h : w.ownsRow B e s v n xs) (hb : B' ≤ B) : w.ownsRow B' e s v n xs := by
 refine ⟨h.1, ?_⟩
 rcases h.2 with h | ⟨g, cap, cur, h1, h2, h3⟩
 ·exact .inl h
 exact .inr ⟨g, cap, cur, h1, by omega, h3⟩
theorem two_plain (n : Int) (a : Option Addr) (l c : Nat) : ∀ u ∈ scell (n, .slice a l c), u.oneCell' = true := by
 intro u hu
 simp [scell] at hu
 rcases hu with rfl | rfl <;> rfl
theorem two_cell (w : World) (p : Int × Value) (t : TypeId) (j : Nat) (u : Value) (h : (scell p)[j]? = some u) : (w.alloc (.cells #[.int .i64 p.1, p.2] t)).cell? ((⟨w.heap.size, 0, none⟩ : Addr).add j) = some u := by
 match j, h with
 | 0, h => simp [scell] at h; subst h; simp [Addr.add]
 | 1, h => simp [scell] at h; subst h; simp [Addr.add]
 | j + 2, h => simp [scell] at h
theorem stepOf_cut (p : ByteArray) : stepOf p = if (cutS 124 p.data.toList).2.2 = true ∧ (numOf (cutS 124 p.data.toList).1).isSome = true ∧ (txsAns (toB (cutS 124 p.data.toList).2.1)).isSome = true then some (nans (numOf (cutS 124 p.data.toList).1), (txsAns (toB (cutS 124 p.data.toList).2.1)).getD []) else none := by
 unfold stepOf cutS
 by_cases hm : (124 : UInt8) ∈ p.data.toList
 ·rw [if_pos hm, if_pos hm]
  cases hn : numOf (hd 124 p.data.toList) with
  | none => simp
  | some n =>
   cases ht : txsAns (toB (tl 124 p.data.toList)) with
   | none => simp
   | some ts => simp [nans]
 rw [if_neg hm, if_neg hm]; simp
theorem tail_get (ps : List ByteArray) (k : Nat) (h : k + 1 < ps.length) : ps.tail.take (k + 1) = ps.tail.take k ++ [ps.getD (k + 1) ByteArray.empty] := by
 cases ps with
 | nil => simp at h
 | cons p ps =>
  simp only [List.tail_cons]
  simp at h
  rw [List.take_succ_eq_append_getElem h]
  simp [List.getD_eq_getElem?_getD, List.getElem?_eq_getElem h]

theorem specSteps (s : ByteArray) (w : World) (hs : s.size ≤ 33554432) :
 Calls Tryz.prog 76 #[.string s] w fun e w' => ∃ v, e = .returned (.tuple #[v,.bool (stepsAns s).isSome]) ∧ OSt w' w.heap.size v ((stepsAns s).getD []) ∧ Below w.heap.size w w' := by
 obtain ⟨i0, hi, hz0, hz1, hz2⟩:=info_parts Tryz.infoSt
 obtain ⟨w0, hw0⟩ : ∃ w0, (w.alloc (.cells #[] 132)).alloc (.cells #[] 132) = w0:=⟨_, rfl⟩
 have z0 : w0.heap.size = w.heap.size + 1 + 1:=by rw [← hw0]; simp
 have B0 : Below w.heap.size w w0:=hw0 ▸ ((Below.refl _ _).alloc (Nat.le_refl _) _).alloc (by simp) _
 have R1 : (w.alloc (.cells #[] 132)).ownsRow w.heap.size 132 2 (.slice (some ⟨w.heap.size, 0, none⟩) 0 0) 0 []:=World.ownsRow_lit w #[] 0 (Nat.le_refl _) (by unfold maxLen; omega) rfl
 have N0 : w0.ownsRow w.heap.size 132 2 (.slice (some ⟨w.heap.size, 0, none⟩) 0 0) 0 []:=hw0 ▸ R1.alloc _
 have O0 : w0.ownsRow (w.heap.size + 1) 132 2 (.slice (some ⟨w.heap.size + 1, 0, none⟩) 0 0) 0 []:=by
  have:=World.ownsRow_lit (base:=w.heap.size + 1) (e:=132) (size:=2) (w.alloc (.cells #[] 132)) #[] 0 (by simp) (by unfold maxLen; omega) rfl
  rw [hw0] at this
  have e : (w.alloc (.cells #[] 132)).heap.size = w.heap.size + 1:=by simp
  rw [e] at this
  exact this
 clear R1
 unfold stepsAns
 by_cases hz : s = ⟨#[]⟩
 ·rw [if_pos hz]
  subst hz
  go_enter Tryz.func76, Tryz.ntmps76
  go_wp2
  go_ret2
  refine ⟨_, rfl, ⟨[], rfl, ?_, fun k hk => by simp at hk, fun i j _ hj => by simp at hj⟩, B0⟩
  refine ⟨O0.1, ?_⟩
  rcases O0.2 with h | ⟨g, cap, cur, h1, h2, h3⟩
  ·exact .inl h
  exact .inr ⟨g, cap, cur, h1, by omega, h3⟩
 rw [if_neg hz]
 have hne:=str_ne hz
 have hne2 : (s.toList == []) = false:=by
  rw [beq_eq_false_iff_ne]; intro e; apply hz; apply ByteArray.ext; apply Array.toList_inj.1; rw [ByteArray.toList_eq] at e; exact e
 have SP:=hide fun w => specSplit_any s 47 w hs
 have hpn : 0 < (splitAns s 47).length:=by simp [splitAns]
 have hpz : Hid (∀ p ∈ splitAns s 47, p.size ≤ 33554432):=fun p hp => Nat.le_trans (split_size s 47 p hp) hs
 have hpl:=splitAns_len s 47
 have NONE : Hid (∀ w', Below w.heap.size w w' → w'.ownsRow w.heap.size 132 2 (.slice (some ⟨w.heap.size, 0, none⟩) 0 0) 0 [] → OSt w' w.heap.size (.slice (some ⟨w.heap.size, 0, none⟩) 0 0) []):=hide fun w' _ h => ⟨[], rfl, h, fun k hk => by simp at hk, fun i j _ hj => by simp at hj⟩
 generalize splitAns s 47 = ps at *
 generalize hA : (if ps.getD 0 ByteArray.empty = ⟨#[]⟩ ∧ ps.length ≤ 31 then (stepsRun ps.tail).map (·.2) else none) = A
 have HA:=hide hA
 clear hz hA
 go_enter Tryz.func76, Tryz.ntmps76
 go_wp2_with fail
 clear hw0
 refine (SP.out _).mono ?_
 rintro e w1 ⟨vp, rfl, op, b1⟩
 have s1:=b1.size
 have B1:=bu B0 b1
 have k1 : w0.grownBy w1 none:=⟨b1.os, b1.tape, b1.output, b1.size, fun k hk _ => b1.block k hk⟩
 have N1:=N0.kept k1 (by simp [Value.ownBlock])
 have O1:=O0.kept k1 (by simp [Value.ownBlock])
 rcases op.2 with ⟨_, h0⟩ | ⟨gp, pc, pcur, rfl, _⟩
 ·omega
 have c0:=os_cell op rfl 0 hpn
 have OP:=hide op
 have N1:=hide N1
 clear op SP k1 b1 N0 O0 B0
 by_cases h0 : ps.getD 0 ByteArray.empty = ⟨#[]⟩
 ·rw [h0] at c0
  by_cases h31 : ps.length ≤ 31
  ·have E : Hid (A = (stepsRun ps.tail).map (·.2)):=hide (HA.out.symm.trans (if_pos ⟨h0, h31⟩))
   have h31' : decide ((31 : Int) < (ps.length : Int)) = false:=by simp; omega
   go_wp2
   clear c0
   go_loopw [5, 7, 8] (fun out last i wr => ∃ (k : Nat) (l : Int) (ss : List St) (vs : List Value), k + 1 ≤ ps.length ∧ i = .int .i64 ((k + 1 : Nat) : Int) ∧ last = .int .i64 l ∧ Hid (stepsRun (ps.tail.take k) = some (l, ss)) ∧ ss.length = k ∧ OStV wr (w.heap.size + 1) out ss vs ∧ OS wr w0.heap.size (.slice (some ⟨gp, 0, none⟩) ps.length pc) ps ∧ wr.ownsRow w.heap.size 132 2 (.slice (some ⟨w.heap.size, 0, none⟩) 0 0) 0 [] ∧ Below w.heap.size w wr ∧ w.heap.size + 1 ≤ wr.heap.size) (fun _ _ i _ => ps.length - (intOf i).toNat)
   case atStart => exact ⟨0, 0, [], [], by omega, by go_num, rfl, hide (by rw [List.take_zero]; rfl), rfl, ⟨rfl, O1, fun k hk => by simp at hk, fun i j _ hj => by simp at hj⟩, OP.out, N1.out, B1, by omega⟩
   case round =>
    clear O1 N1 OP B1
    obtain ⟨k, l, ss, vs, hk, rfl, rfl, HR, hsl, ost, hp, nr, br, sz⟩:=hrel
    subst hsl
    obtain ⟨oa, oc, rfl⟩:=OSt.form ⟨vs, ost⟩
    have RO1:=(stepsRun_ok _ _ HR.out).2.1
    by_cases hlt : ss.length + 1 < ps.length
    ·have hc:=os_cell hp rfl (ss.length + 1) hlt
     have hm:=hpz.out _ (getD_mem hlt)
     have HT:=hide (tail_get ps ss.length hlt)
     have HC:=hide (stepOf_cut (ps.getD (ss.length + 1) ByteArray.empty))
     have CUT:=hide fun w => l2Cut_any 124 124 rfl (ps.getD (ss.length + 1) ByteArray.empty) w hm
     generalize ps.getD (ss.length + 1) ByteArray.empty = p at *
     have hc1 : (cutS 124 p.data.toList).1.length ≤ 33554432 ∧ (cutS 124 p.data.toList).2.1.length ≤ 33554432:=by
      have h1:=cutS_len 124 p.data.toList
      have h2 : p.data.toList.length = p.size:=by simp
      omega
     obtain ⟨c, hcc⟩ : ∃ c, cutS 124 p.data.toList = c:=⟨_, rfl⟩
     rw [hcc] at CUT HC hc1
     clear hcc
     have NU:=hide fun w => specNumber_any (toB c.1) w (by rw [toB_size]; unfold maxLen; omega)
     have TX:=hide fun w => specTxsOf (toB c.2.1) w (by rw [toB_size]; omega)
     rw [toB_list] at NU
     obtain ⟨cn, hcn⟩ : ∃ x, numOf c.1 = x:=⟨_, rfl⟩
     obtain ⟨ct, hct⟩ : ∃ x, txsAns (toB c.2.1) = x:=⟨_, rfl⟩
     rw [hcn] at NU HC
     rw [hct] at TX HC
     have hn0 : 0 ≤ nans cn ∧ nans cn ≤ 999999:=by
      cases cn with
      | none => simp [nans]
      | some m => have := numOf_some hcn; simp [nans]; omega
     clear hcn hct
     obtain ⟨n, hn⟩ : ∃ n, nans cn = n:=⟨_, rfl⟩
     obtain ⟨bn, hbn⟩ : ∃ b, cn.isSome = b:=⟨_, rfl⟩
     obtain ⟨bt, hbt⟩ : ∃ b, ct.isSome = b:=⟨_, rfl⟩
     obtain ⟨ts, hts⟩ : ∃ b, ct.getD [] = b:=⟨_, rfl⟩
     rw [hn] at NU HC hn0
     rw [hbn] at NU HC
     rw [hbt] at TX HC
     rw [hts] at TX HC
     clear hn hbn hbt hts
     have OST:=hide ost
     have NR:=hide nr
     have HP:=hide hp
     clear ost nr hp
     go_wp2_with fail
     refine (CUT.out _).mono ?_
     rintro _ w2 ⟨rfl, b2⟩
     go_wp2_with fail
     refine (NU.out _).mono ?_
     rintro _ w3 ⟨rfl, b3⟩
     have b23 : Below wr.heap.size wr w3:=bu b2 b3
     go_wp2_with fail
     refine (TX.out _).mono ?_
     rintro _ w4 ⟨vt, rfl, ot, b4⟩
     have b24 : Below wr.heap.size wr w4:=bu b23 b4
     have B4:=bu br b24
     have s24:=b24.size
     have s23:=b23.size
     have ost4:=OST.out.below b24
     have k24 : wr.grownBy w4 none:=⟨b24.os, b24.tape, b24.output, b24.size, fun k hk _ => b24.block k hk⟩
     have nr4:=World.ownsRow.kept NR.out k24 (by simp [Value.ownBlock])
     have hp4:=HP.out.below b24
     obtain ⟨ta, tc, rfl⟩ : ∃ ta tc, vt = .slice ta ts.length tc:=by
      rcases ot.2 with ⟨rfl, h0⟩ | ⟨g, cap, cur, rfl, _⟩
      ·exact ⟨none, 0, by rw [h0]⟩
      exact ⟨_, _, rfl⟩
     clear CUT NU TX b2 b3 b4
     have RN : Hid (stepOf p = none → stepsRun ps.tail = none):=hide fun h => stepsRun_none (ss.length + 1) (by rw [HT.out, stepsRun_more, HR.out]; unfold stepAcc; rw [h]; rfl)
     obtain ⟨c1, c2, cb⟩:=c
     cases cb with
     | false =>
      have F:=hide (RN.out (by rw [HC.out, if_neg (by simp)]))
      go_wp2
      go_ret2
      rw [E.out, F.out]
      exact ⟨_, rfl, NONE.out _ B4 nr4, B4⟩
     | true =>
     cases bn with
     | false =>
      have F:=hide (RN.out (by rw [HC.out, if_neg (by simp)]))
      go_wp2
      go_ret2
      rw [E.out, F.out]
      exact ⟨_, rfl, NONE.out _ B4 nr4, B4⟩
     | true =>
     cases bt with
     | false =>
      have F:=hide (RN.out (by rw [HC.out, if_neg (by simp)]))
      go_wp2
      go_ret2
      rw [E.out, F.out]
      exact ⟨_, rfl, NONE.out _ B4 nr4, B4⟩
     | true =>
     have HS : Hid (stepOf p = some (n, ts)):=hide (by rw [HC.out, if_pos (by simp)])
     have RG : Hid (¬ GoodSt l (n, ts) → stepsRun ps.tail = none):=hide fun h => stepsRun_none (ss.length + 1) (by rw [HT.out, stepsRun_more, HR.out]; unfold stepAcc; rw [HS.out]; exact if_neg h)
     clear RN HC
     by_cases g1 : n ≤ l
     ·have F:=hide (RG.out fun h => by have:=h.1; simp only at this; omega)
      have g1' : decide (n ≤ l) = true:=by simp; omega
      go_wp2
      go_ret2
      rw [E.out, F.out]
      exact ⟨_, rfl, NONE.out _ B4 nr4, B4⟩
     have g1' : decide (n ≤ l) = false:=by simp; omega
     by_cases g2 : 60 < n
     ·have F:=hide (RG.out fun h => by have:=h.2.1; simp only at this; omega)
      have g2' : decide (60 < n) = true:=by simp; omega
      go_wp2
      go_ret2
      rw [E.out, F.out]
      exact ⟨_, rfl, NONE.out _ B4 nr4, B4⟩
     have g2' : decide (60 < n) = false:=by simp; omega
     by_cases g3 : 2 < ts.length
     ·have F:=hide (RG.out fun h => by have:=h.2.2; simp only at this; omega)
      have g3' : decide ((2 : Int) < (ts.length : Int)) = true:=by simp; omega
      go_wp2
      go_ret2
      rw [E.out, F.out]
      exact ⟨_, rfl, NONE.out _ B4 nr4, B4⟩
     have g3' : decide ((2 : Int) < (ts.length : Int)) = false:=by simp; omega
     have HN : Hid (stepsRun (ps.tail.take (ss.length + 1)) = some (n, ss ++ [(n, ts)])):=hide (by
      rw [HT.out, stepsRun_more, HR.out]; unfold stepAcc; rw [HS.out]
      exact if_pos ⟨by omega, by omega, by show ts.length ≤ 2; omega⟩)
     have bX : Below w4.heap.size w4 (w4.alloc (.cells #[.int .i64 n,.slice ta ts.length tc] 132)):=(Below.refl _ _).alloc (Nat.le_refl _) _
     have ostX:=ost4.below bX
     have otX:=ot.below bX
     have hpX:=hp4.below bX
     have nrX:=World.ownsRow.alloc nr4 (.cells #[.int .i64 n,.slice ta ts.length tc] 132)
     have BX:=bu B4 bX
     have hN : ∀ k, k < ss.length → ∀ b, (vs.getD k (.slice none 0 0)).ownBlock = some b → b < w3.heap.size:=fun k hk b hb => by
      have:=(World.ownsRow.lt (OST.out.each k hk) b hb).2; omega
     have hl31 : ss.length ≤ 31:=by omega
     clear RG ost4 ot hp4 nr4 B4
     go_wp2_with (first
      | (at_builtin; refine wpList_append_own _ rfl _ _ 128 rfl (w.heap.size + 1) 132 i0 (.agg #[.int .i64 0,.slice none 0 0]) 2 32 Tryz.underlying128 hi hz0 hz1 hz2 rfl (by decide) _ _ _ rfl ostX.row ⟨w4.heap.size, 0, none⟩ 1 1 (scell (n,.slice ta ts.length tc)) rfl rfl (two_cell w4 (n,.slice ta ts.length tc) 132) (two_plain _ _ _ _) (by unfold maxLen; omega) (by omega) (by simp; omega) ?_; intro v' w5 ho' hg' _; have R := ost_more ostX otX hN (by omega) ho' hg'; have RP := World.ownsRow.kept hpX hg' (own_types hpX ostX.row (by decide)); have RN := World.ownsRow.kept nrX hg' (none_apart ostX.row); have RB := BX.grown hg' BX.size (fun k hk => by have := (World.ownsRow.lt ostX.row k hk).1; omega); have SZ : w4.heap.size ≤ w5.heap.size := (by have := hg'.size; simp at this; omega); clear ho' hg' ostX otX hpX nrX BX bX))
     go_roundw
     case rel => exact ⟨ss.length + 1, n, _, _, by omega, by go_num, rfl, HN, by simp, R, RP, RN, RB, by omega⟩
     case measure => simp [intOf]; omega
    have hk2 : ps.tail.take ss.length = ps.tail:=List.take_of_length_le (by simp; omega)
    rw [hk2] at HR
    have hlt' : decide (((ss.length + 1 : Nat) : Int) < (ps.length : Int)) = false:=by simp; omega
    go_wp2
    go_ret2
    rw [E.out, HR.out]
    refine ⟨_, rfl, ⟨vs, ost.len, ?_, fun k hk => ?_, ost.apart⟩, br⟩
    ·exact row_lower ost.row (by omega)
    exact row_lower (ost.each k hk) (by omega)
  have E : A = none:=HA.out.symm.trans (if_neg fun h => h31 h.2)
  have h31' : decide ((31 : Int) < (ps.length : Int)) = true:=by simp; omega
  go_wp2
  go_ret2
  rw [E]
  exact ⟨_, rfl, NONE.out _ B1 N1.out, B1⟩
 have E : A = none:=HA.out.symm.trans (if_neg fun h => h0 h.1)
 have hn0:=str_ne h0
 have hn1 : ((ps.getD 0 ByteArray.empty).toList = []) = False:=eq_false fun e => h0 (by apply ByteArray.ext; apply Array.toList_inj.1; rw [ByteArray.toList_eq] at e; exact e)
 generalize ps.getD 0 ByteArray.empty = p0 at *
 go_wp2
 go_ret2
 rw [E]
 exact ⟨_, rfl, NONE.out _ B1 N1.out, B1⟩
end
section
open Go.RowKit
variable [∀ (a b c d : Int), Decidable (Ok4 a b c d)]
variable [∀ (a b c d : Nat), Decidable (okN a b c d)]
variable [∀ (last : Int) (s : St), Decidable (GoodSt last s)]
variable [∀ (x : T4), Decidable (OkT x)]
theorem specNameOk (s : ByteArray) (w : World) (hs : s.size ≤ 33554432) :
 Calls Tryz.prog 116 #[.string s] w fun e w' => e = .returned (.bool (stepsAns s).isSome) ∧ Below w.heap.size w w' := by
 have ST:=hide fun w => specSteps s w hs
 generalize stepsAns s = A at *
 go_enter Tryz.func116, Tryz.ntmps116
 go_wp2_with fail
 refine (ST.out _).mono ?_
 rintro e w1 ⟨v, rfl, _, b1⟩
 go_wp2
 go_ret
 exact ⟨rfl, b1⟩

theorem specViewOf (s : ByteArray) (w : World) (hs : s.size ≤ 33554432) :
 Calls Tryz.prog 80 #[.string s] w fun e w' => e = .returned (.int .i64 (viewAns s)) ∧ Below w.heap.size w w' := by
 have ST:=hide fun w => specSteps s w hs
 have hl : ∀ ss, stepsAns s = some ss → ss.length ≤ 30 ∧ ∀ x ∈ ss, OkSt x:=fun ss h => ⟨((names_iff _ _).1 h).2.1, ((names_iff _ _).1 h).2.2.1⟩
 unfold viewAns
 generalize stepsAns s = A at *
 go_enter Tryz.func80, Tryz.ntmps80
 go_wp2_with fail
 refine (ST.out _).mono ?_
 rintro e w1 ⟨v, rfl, o1, b1⟩
 cases A with
 | none =>
  obtain ⟨ao, ca, rfl⟩:=o1.form
  clear o1 ST hl
  go_wp2
  go_ret
  exact ⟨rfl, b1⟩
 | some ss =>
  obtain ⟨hl, hok⟩:=hl ss rfl
  obtain ⟨ao, ca, hv, r⟩:=o1.rst (fun x hx => by have:=(hok x hx).2.1; omega)
  subst hv
  clear o1 ST hok
  simp only [Option.getD_some] at *
  rcases r with rfl | ⟨g, rfl, r⟩
  ·go_wp2
   go_ret
   exact ⟨rfl, b1⟩
  by_cases h0 : ss.length = 0
  ·obtain rfl:=List.length_eq_zero_iff.1 h0
   go_wp2
   go_ret
   exact ⟨rfl, b1⟩
  obtain ⟨n, hn⟩ : ∃ n, ss.length = n + 1:=⟨ss.length - 1, by omega⟩
  obtain ⟨u, c0, c1, _⟩:=r n (by omega)
  have hlast:=hide (show (ss.getLast?.map (·.1)).getD 0 = (ss.getD n zst).1 by
   rw [List.getLast?_eq_getElem?, List.getD_eq_getElem?_getD, List.getElem?_eq_getElem (show ss.length - 1 < ss.length by omega), List.getElem?_eq_getElem (show n < ss.length by omega)]
   simp [hn])
  have hi : ((n + 1 : Nat) : Int) - 1 = n:=by omega
  generalize (ss.getD n zst).1 = x at *
  clear r h0
  go_wp2
  go_ret
  exact ⟨by rw [show ((some ss).getD []) = ss from rfl, hlast.out]; rfl, b1⟩

theorem specUpOf (s : ByteArray) (w : World) (hs : s.size ≤ 33554432) :
 Calls Tryz.prog 129 #[.string s] w fun e w' => e = .returned (.string (upAns s)) ∧ Below w.heap.size w w' := by
 have NS:=hide fun w => specNameOk s w hs
 have UC:=hide fun (ss : List St) (h : stepsAns s = some ss) (k : Nat) (hk : k ≤ s.data.toList.length) h1 h2 => up_cut h k hk h1 h2
 have UN : stepsAns s = none → upAns s = ⟨#[]⟩:=fun h => by unfold upAns; rw [h]; rfl
 generalize upAns s = x at *
 generalize stepsAns s = A at *
 go_enter Tryz.func129, Tryz.ntmps129
 go_wp2_with fail
 refine (NS.out _).mono ?_
 rintro e w1 ⟨rfl, b1⟩
 clear NS
 cases A with
 | none =>
  have UN:=UN rfl
  subst UN
  go_wp2
  go_ret
  exact ⟨rfl, b1⟩
 | some ss =>
 clear UN
 have UC:=hide (UC.out ss rfl)
 go_wp2
 go_loop [3] (fun kv => ∃ k : Nat, k ≤ s.size ∧ kv = .int .i64 k ∧ Hid ((47 : UInt8) ∉ s.data.toList.drop k)) (fun kv => (intOf kv).toNat)
 case atStart => exact ⟨s.size, Nat.le_refl _, rfl, hide (by rw [List.drop_eq_nil_of_le (by simp)]; simp)⟩
 case round =>
  obtain ⟨k, hk, rfl, HM⟩:=hrel
  have hlen : s.data.toList.length = s.size:=by simp
  have DONE : Hid (∀ h2 : k = 0 ∨ s.data.toList[k - 1]? = some 47, s.extract 0 (k - 1) = x):=hide fun h2 => by
   rw [← UC.out k (by omega) HM.out h2]
   apply ba_ext; rw [toB_list]; simp [ByteArray.data_extract]
  have HL:=hide hlen
  clear UC hlen
  go_wp2
  ·rename_i h2
   have hp : 0 < k:=by assumption
   have hb : ((s[k - 1].toNat : Int) != 47) = true:=by assumption
   have HM' : Hid ((47 : UInt8) ∉ s.data.toList.drop (k - 1)):=hide (by
    rw [List.drop_eq_getElem_cons (show k - 1 < s.data.toList.length by rw [HL.out]; omega), show k - 1 + 1 = k by omega]
    intro h
    rcases List.mem_cons.1 h with h | h
    ·have e : s[k - 1] = 47:=h.symm
     rw [e] at hb
     revert hb; decide
    exact HM.out h)
   go_round
   case rel => exact ⟨k - 1, by omega, by rw [show ((k - 1 : Nat) : Int) = (k : Int) - 1 by omega], HM'⟩
   case measure => simp [intOf]; omega
  ·have h2 : ((s[k - 1].toNat : Int) != 47) = false:=by assumption
   have D:=DONE.out (.inr (by
    rw [List.getElem?_eq_getElem (by rw [HL.out]; omega)]
    refine congrArg some (UInt8.toNat_inj.1 (show s[k - 1].toNat = 47 from ?_))
    have h2:=of_decide_eq_true (p:=(s[k - 1].toNat : Int) = 47) (by simpa using h2)
    omega))
   go_ret
   exact ⟨by rw [← D]; rfl, b1⟩
  ·have h2 : ((s[k - 1].toNat : Int) != 47) = false:=by assumption
   have D:=DONE.out (.inr (by
    rw [List.getElem?_eq_getElem (by rw [HL.out]; omega)]
    refine congrArg some (UInt8.toNat_inj.1 (show s[k - 1].toNat = 47 from ?_))
    have h2:=of_decide_eq_true (p:=(s[k - 1].toNat : Int) = 47) (by simpa using h2)
    omega))
   have D' : ByteArray.empty = x:=by rw [← D, show k - 1 = 0 by omega]; simp
   go_ret
   exact ⟨by rw [← D']; rfl, b1⟩
  have D:=DONE.out (.inl (by omega))
  have D' : ByteArray.empty = x:=by rw [← D, show k - 1 = 0 by omega]; simp
  go_ret
  exact ⟨by rw [← D']; rfl, b1⟩
theorem four_plains (xs : List T4) (u : Value) (h : u ∈ tcells xs) : u.oneCell' = true := by
 obtain ⟨x, _, hx⟩:=List.mem_flatMap.1 h
 simp [tcell] at hx; rcases hx with rfl | rfl | rfl | rfl <;> rfl
theorem append_ot {ops : Array Oper} {rest : List Oper} {o : Oper} {a : Act} {Q : Exit → Act → World → Prop} {w : World} (hgd : o.guard = none) (s x : Operand)
 (ho : o.op = .call { callee := .builtin .append, args := #[s, x], argTypes := #[47, 47] }) (base B : Nat) (v u : Value) (xs ys : List T4) (hs : a.eval s = v) (hx : a.eval x = u)
 (hown : OT w base v xs) (hp : OT w B u ys) (hl : xs.length + ys.length ≤ 4194304) (hbase : base ≤ w.heap.size)
 (h : ∀ v' w', OT w' base v' (xs ++ ys) → w.grownBy w' v.ownBlock → (v'.ownBlock = v.ownBlock ∨ v'.ownBlock = some w.heap.size) → wpList Tryz.prog ops Q rest (a.put o.dst v') w') :
 wpList Tryz.prog ops Q (o :: rest) a w := by
 obtain ⟨i0, hi, hz0, hz1, hz2⟩:=info_parts Tryz.infoTx
 have hp0:=hp
 rcases hp.2 with ⟨rfl, h0⟩ | ⟨g, cap, cur, rfl, _⟩
 ·obtain rfl:=List.length_eq_zero_iff.1 h0
  exact wpList_append_own_none hgd s x 47 ho base 119 i0 4 Tryz.underlying47 hi v xs.length (tcells xs) hs hown hx (h v w (by simpa using hown) (grown_refl _ _) (.inl rfl))
 refine wpList_append_own_at _ hgd s x 47 ho base 119 i0 (txv 0 0 0 0) 4 32 Tryz.underlying47 hi hz0 hz1 hz2 rfl (by decide) v xs.length (tcells xs) hs hown ⟨g, 0, none⟩ ys.length cap (tcells ys) hx (tcells_len ys) (World.ownsRow.cells hp0 (g := g) rfl) (four_plains ys) (by unfold maxLen; omega) (by omega) hbase ?_
 intro v' w' ho' hg' _ hb'
 refine h v' w' ?_ hg' hb'
 unfold OT
 rw [tcells_append, List.length_append]
 exact ho'
theorem OStV.kept {w w' : World} {B : Nat} {v : Value} {ss : List St} {vs : List Value} {row : Option Nat} (h : OStV w B v ss vs) (hg : w.grownBy w' row) (hv : v.ownBlock = none ∨ v.ownBlock ≠ row) (hs : ∀ k, k < ss.length → (vs.getD k (.slice none 0 0)).ownBlock = none ∨ (vs.getD k (.slice none 0 0)).ownBlock ≠ row) : OStV w' B v ss vs :=
 ⟨h.len, World.ownsRow.kept h.row hg hv, fun k hk => World.ownsRow.kept (h.each k hk) hg (hs k hk), h.apart⟩
theorem apart_blocks {u v : Value} {lo hi : Nat} (hu : ∀ b, u.ownBlock = some b → lo ≤ b ∧ b < hi) (hv : ∀ b, v.ownBlock = some b → b < lo ∨ hi ≤ b) : u.ownBlock = none ∨ u.ownBlock ≠ v.ownBlock := by
 cases h : u.ownBlock with
 | none => exact .inl rfl
 | some b =>
  refine .inr fun e => ?_
  have h1:=hu b h
  have h2:=hv b e.symm
  omega
theorem flat_len (ss : List St) (h : ∀ s ∈ ss, s.2.length ≤ 2) : (ss.flatMap (·.2)).length ≤ ss.length * 2 := by
 induction ss with
 | nil => simp
 | cons s ss ih =>
  have h1:=h s (by simp)
  have h2:=ih fun x hx => h x (by simp [hx])
  rw [List.flatMap_cons, List.length_append, List.length_cons]; omega
theorem flat_more (ss : List St) (k : Nat) (hk : k < ss.length) : (ss.take (k + 1)).flatMap (·.2) = (ss.take k).flatMap (·.2) ++ (ss.getD k zst).2 := by
 rw [List.take_succ_eq_append_getElem hk, List.flatMap_append, List.getD_eq_getElem?_getD, List.getElem?_eq_getElem hk]
 simp

theorem specTxsIn (s : ByteArray) (w : World) (hs : s.size ≤ 33554432) :
 Calls Tryz.prog 31 #[.string s] w fun e w' => ∃ v, e = .returned v ∧ OT w' w.heap.size v (txsInAns s) ∧ Below w.heap.size w w' := by
 have ST:=hide fun w => specSteps s w hs
 have hl : ((stepsAns s).getD []).length ≤ 30 ∧ ∀ x ∈ (stepsAns s).getD [], x.2.length ≤ 2:=by
  cases h : stepsAns s with
  | none => simp
  | some ss => exact ⟨((names_iff _ _).1 h).2.1, fun x hx => (((names_iff _ _).1 h).2.2.1 x hx).2.1⟩
 unfold txsInAns
 generalize (stepsAns s).isSome = bb at *
 generalize (stepsAns s).getD [] = ss at *
 obtain ⟨hl, h2⟩:=hl
 have H2:=hide h2
 clear h2
 obtain ⟨w0, hw0⟩ : ∃ w0, w.alloc (.cells #[] 119) = w0:=⟨_, rfl⟩
 have z0 : w0.heap.size = w.heap.size + 1:=by rw [← hw0]; simp
 have B0 : Below w.heap.size w w0:=hw0 ▸ (Below.refl _ _).alloc (Nat.le_refl _) _
 have O0 : OT w0 w.heap.size (.slice (some ⟨w.heap.size, 0, none⟩) 0 0) []:=by
  have:=World.ownsRow_lit (base:=w.heap.size) (e:=119) (size:=4) w #[] 0 (Nat.le_refl _) (by unfold maxLen; omega) (by simp)
  rw [hw0] at this
  simpa [OT, tcells] using this
 go_enter Tryz.func31, Tryz.ntmps31
 go_wp2_with fail
 clear hw0
 refine (ST.out _).mono ?_
 rintro e w1 ⟨v, rfl, o1, b1⟩
 clear ST
 obtain ⟨oa, oc, rfl⟩:=o1.form
 obtain ⟨vs, o1⟩:=o1
 have s1:=b1.size
 have B1:=bu B0 b1
 have O1:=O0.below b1
 have hvb:=World.ownsRow.lt o1.row
 have hsb : ∀ k, k < ss.length → ∀ b, (vs.getD k (.slice none 0 0)).ownBlock = some b → w0.heap.size ≤ b ∧ b < w1.heap.size:=fun k hk => World.ownsRow.lt (o1.each k hk)
 have HVB:=hide hvb
 have HSB:=hide hsb
 have S1:=hide o1
 clear hvb hsb b1 B0 O0 o1
 go_wp2
 go_loopw [3, 6] (fun out i wr => ∃ k : Nat, k ≤ ss.length ∧ i = .int .i64 k ∧ OT wr w.heap.size out ((ss.take k).flatMap (·.2)) ∧ Hid (∀ b, out.ownBlock = some b → b < w0.heap.size ∨ w1.heap.size ≤ b) ∧ OStV wr w0.heap.size (.slice oa ss.length oc) ss vs ∧ Below w.heap.size w wr ∧ w1.heap.size ≤ wr.heap.size) (fun _ i _ => ss.length - (intOf i).toNat)
 case atStart => exact ⟨0, Nat.zero_le _, rfl, by simpa using O1, hide (fun b hb => by simp [Value.ownBlock] at hb; omega), S1.out, B1, Nat.le_refl _⟩
 case round =>
  clear O1 S1 B1
  obtain ⟨k, hk, rfl, ot, HO, os, br, sz⟩:=hrel
  by_cases hlt : k < ss.length
  ·have hfl:=flat_len (ss.take k) fun x hx => H2.out x (List.mem_of_mem_take hx)
   rw [List.length_take] at hfl
   have hu:=os.each k hlt
   have hu2:=H2.out (ss.getD k zst) (by rw [List.getD_eq_getElem?_getD, List.getElem?_eq_getElem hlt]; exact List.getElem_mem hlt)
   have HF:=hide (flat_more ss k hlt)
   obtain ⟨ha, hca⟩ : ∃ g, oa = some ⟨g, 0, none⟩:=by
    rcases os.row.2 with ⟨e, h0⟩ | ⟨g, cap, cur, e, _⟩
    ·omega
    cases e; exact ⟨g, rfl⟩
   subst hca
   have c1:=World.ownsRow.cellAt os.row (k * 2 + 1) (by omega)
   rw [scells_get _ k _ (by simp [os.len]; omega) (by omega), zip_get ss vs os.len k hlt] at c1
   replace c1 : wr.cell? ⟨ha, k * 2 + 1, none⟩ = some (vs.getD k (.slice none 0 0)):=by simpa [scell] using c1
   have HU:=hide hu
   have K1 : Hid (∀ w', wr.grownBy w' (Value.ownBlock _) → OStV w' w0.heap.size (.slice (some ⟨ha, 0, none⟩) ss.length oc) ss vs):=hide fun w' hg => os.kept hg (apart_blocks HVB.out HO.out) fun j hj => apart_blocks (HSB.out j hj) HO.out
   have OT1:=hide ot
   have LT:=hide (World.ownsRow.lt ot)
   clear hu os ot
   generalize vs.getD k (.slice none 0 0) = u at *
   generalize (ss.getD k zst).2 = ts at *
   go_wp2_with (first
    | (at_builtin; refine append_ot rfl _ _ rfl w.heap.size w0.heap.size _ u _ ts rfl rfl OT1.out HU.out (by omega) (by have := br.size; omega) ?_; intro v' w2 ho' hg' hb'; have RS := K1.out w2 hg'; have RB := br.grown hg' br.size (fun j e => (LT.out j e).1); have SZ := hg'.size; have RO : Hid (∀ b, v'.ownBlock = some b → b < w0.heap.size ∨ w1.heap.size ≤ b) := hide (fun b hb => by
     rcases hb' with e | e
     ·exact HO.out b (e.symm.trans hb)
     rw [e] at hb; cases hb; exact .inr sz); rw [← HF.out] at ho'; clear hg' hb'))
   go_roundw
   case rel => exact ⟨k + 1, by omega, by go_num, ho', RO, RS, RB, by omega⟩
   case measure => simp [intOf]; omega
  obtain rfl : k = ss.length:=by omega
  rw [List.take_of_length_le (Nat.le_refl _)] at ot
  have OT1:=hide ot
  clear ot os
  go_wp2
  go_ret
  exact ⟨_, rfl, OT1.out, br⟩
end
end Go.Proofs.YtmpffkpilbbclaaGreatDoor
