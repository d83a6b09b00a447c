/- Lemmas; their conditions stand in each statement. -/
import Derived.Test.YtjkcphnohhpihaaGreatDoorPPAJ
set_option maxRecDepth 100000
set_option maxHeartbeats 8000000
set_option linter.unusedSectionVars false
namespace Go.Proofs.YtjkcphnohhpihaaGreatDoor
section
open Go.RowKit
variable [∀ (a b c d : Int), Decidable (Ok4 a b c d)]
variable [∀ (a b c d : Nat), Decidable (okN a b c d)]
variable [∀ (last : Int) (s : St), Decidable (GoodSt last s)]
theorem own_types {w : World} {B B' n n' s s' : Nat} {e e' : TypeId} {v u : Value} {xs ys : List Value} (h : w.ownsRow B e s v n xs) (h' : w.ownsRow B' e' s' u n' ys) (he : e ≠ e') : v.ownBlock = none ∨ v.ownBlock ≠ u.ownBlock := by
 rcases h.2 with ⟨rfl, _⟩ | ⟨g, cap, cur, rfl, _, hg, _⟩
 ·exact .inl rfl
 rcases h'.2 with ⟨rfl, _⟩ | ⟨g', cap', cur', rfl, _, hg', _⟩
 ·exact .inr (by simp [Value.ownBlock])
 refine .inr fun e2 => ?_
 simp [Value.ownBlock] at e2
 rw [e2, hg'] at hg
 simp at hg
 exact he hg.2.symm
theorem none_apart {w : World} {B n s : Nat} {e : TypeId} {v : Value} {xs : List Value} {c : Nat} (h : w.ownsRow (B + 1) e s v n xs) : (Value.slice (some ⟨B, 0, none⟩) 0 c).ownBlock = none ∨ (Value.slice (some ⟨B, 0, none⟩) 0 c).ownBlock ≠ v.ownBlock := .inr fun e => by
 have:=(World.ownsRow.lt h B (by rw [← e]; rfl)).1
 omega
theorem row_lower {w : World} {B B' n s : Nat} {e : TypeId} {v : Value} {xs : List Value} (h : w.ownsRow B e s v n xs) (hb : B' ≤ B) : w.ownsRow B' e s v n xs := by
 refine ⟨h.1, ?_⟩
 rcases h.2 with h | ⟨g, cap, cur, h1, h2, h3⟩
 ·exact .inl h
 exact .inr ⟨g, cap, cur, h1, by omega, h3⟩
theorem two_plain (n : Int) (a : Option Addr) (l c : Nat) : ∀ u ∈ scell (n, .slice a l c), u.oneCell' = true := by
 intro u hu
 simp [scell] at hu
 rcases hu with rfl | rfl <;> rfl
theorem two_cell (w : World) (p : Int × Value) (t : TypeId) (j : Nat) (u : Value) (h : (scell p)[j]? = some u) : (w.alloc (.cells #[.int .i64 p.1, p.2] t)).cell? ((⟨w.heap.size, 0, none⟩ : Addr).add j) = some u := by
 match j, h with
 | 0, h => simp [scell] at h; subst h; simp [Addr.add]
 | 1, h => simp [scell] at h; subst h; simp [Addr.add]
 | j + 2, h => simp [scell] at h
theorem stepOf_cut (p : ByteArray) : stepOf p = if (cutS 124 p.data.toList).2.2 = true ∧ (numOf (cutS 124 p.data.toList).1).isSome = true ∧ (txsAns (toB (cutS 124 p.data.toList).2.1)).isSome = true then some (nans (numOf (cutS 124 p.data.toList).1), (txsAns (toB (cutS 124 p.data.toList).2.1)).getD []) else none := by
 unfold stepOf cutS
 by_cases hm : (124 : UInt8) ∈ p.data.toList
 ·rw [if_pos hm, if_pos hm]
  cases hn : numOf (hd 124 p.data.toList) with
  | none => simp
  | some n =>
   cases ht : txsAns (toB (tl 124 p.data.toList)) with
   | none => simp
   | some ts => simp [nans]
 rw [if_neg hm, if_neg hm]; simp
theorem tail_get (ps : List ByteArray) (k : Nat) (h : k + 1 < ps.length) : ps.tail.take (k + 1) = ps.tail.take k ++ [ps.getD (k + 1) ByteArray.empty] := by
 cases ps with
 | nil => simp at h
 | cons p ps =>
  simp only [List.tail_cons]
  simp at h
  rw [List.take_succ_eq_append_getElem h]
  simp [List.getD_eq_getElem?_getD, List.getElem?_eq_getElem h]

theorem specSteps (s : ByteArray) (w : World) (hs : s.size ≤ 33554432) :
 Calls Tryz.prog 112 #[.string s] w fun e w' => ∃ v, e = .returned (.tuple #[v,.bool (stepsAns s).isSome]) ∧ OSt w' w.heap.size v ((stepsAns s).getD []) ∧ Below w.heap.size w w' := by
 obtain ⟨i0, hi, hz0, hz1, hz2⟩:=info_parts Tryz.infoSt
 obtain ⟨w0, hw0⟩ : ∃ w0, (w.alloc (.cells #[] 141)).alloc (.cells #[] 141) = w0:=⟨_, rfl⟩
 have z0 : w0.heap.size = w.heap.size + 1 + 1:=by rw [← hw0]; simp
 have B0 : Below w.heap.size w w0:=hw0 ▸ ((Below.refl _ _).alloc (Nat.le_refl _) _).alloc (by simp) _
 have R1 : (w.alloc (.cells #[] 141)).ownsRow w.heap.size 141 2 (.slice (some ⟨w.heap.size, 0, none⟩) 0 0) 0 []:=World.ownsRow_lit w #[] 0 (Nat.le_refl _) (by unfold maxLen; omega) rfl
 have N0 : w0.ownsRow w.heap.size 141 2 (.slice (some ⟨w.heap.size, 0, none⟩) 0 0) 0 []:=hw0 ▸ R1.alloc _
 have O0 : w0.ownsRow (w.heap.size + 1) 141 2 (.slice (some ⟨w.heap.size + 1, 0, none⟩) 0 0) 0 []:=by
  have:=World.ownsRow_lit (base:=w.heap.size + 1) (e:=141) (size:=2) (w.alloc (.cells #[] 141)) #[] 0 (by simp) (by unfold maxLen; omega) rfl
  rw [hw0] at this
  have e : (w.alloc (.cells #[] 141)).heap.size = w.heap.size + 1:=by simp
  rw [e] at this
  exact this
 clear R1
 unfold stepsAns
 by_cases hz : s = ⟨#[]⟩
 ·rw [if_pos hz]
  subst hz
  go_enter Tryz.func112, Tryz.ntmps112
  go_wp2
  go_ret2
  refine ⟨_, rfl, ⟨[], rfl, ?_, fun k hk => by simp at hk, fun i j _ hj => by simp at hj⟩, B0⟩
  refine ⟨O0.1, ?_⟩
  rcases O0.2 with h | ⟨g, cap, cur, h1, h2, h3⟩
  ·exact .inl h
  exact .inr ⟨g, cap, cur, h1, by omega, h3⟩
 rw [if_neg hz]
 have hne:=str_ne hz
 have hne2 : (s.toList == []) = false:=by
  rw [beq_eq_false_iff_ne]; intro e; apply hz; apply ByteArray.ext; apply Array.toList_inj.1; rw [ByteArray.toList_eq] at e; exact e
 have SP:=hide fun w => specSplit_any s 47 w hs
 have hpn : 0 < (splitAns s 47).length:=by simp [splitAns]
 have hpz : Hid (∀ p ∈ splitAns s 47, p.size ≤ 33554432):=fun p hp => Nat.le_trans (split_size s 47 p hp) hs
 have hpl:=splitAns_len s 47
 have NONE : Hid (∀ w', Below w.heap.size w w' → w'.ownsRow w.heap.size 141 2 (.slice (some ⟨w.heap.size, 0, none⟩) 0 0) 0 [] → OSt w' w.heap.size (.slice (some ⟨w.heap.size, 0, none⟩) 0 0) []):=hide fun w' _ h => ⟨[], rfl, h, fun k hk => by simp at hk, fun i j _ hj => by simp at hj⟩
 generalize splitAns s 47 = ps at *
 generalize hA : (if ps.getD 0 ByteArray.empty = ⟨#[]⟩ ∧ ps.length ≤ 31 then (stepsRun ps.tail).map (·.2) else none) = A
 have HA:=hide hA
 clear hz hA
 go_enter Tryz.func112, Tryz.ntmps112
 go_wp2_with fail
 clear hw0
 refine (SP.out _).mono ?_
 rintro e w1 ⟨vp, rfl, op, b1⟩
 have s1:=b1.size
 have B1:=bu B0 b1
 have k1 : w0.grownBy w1 none:=⟨b1.os, b1.tape, b1.output, b1.size, fun k hk _ => b1.block k hk⟩
 have N1:=N0.kept k1 (by simp [Value.ownBlock])
 have O1:=O0.kept k1 (by simp [Value.ownBlock])
 rcases op.2 with ⟨_, h0⟩ | ⟨gp, pc, pcur, rfl, _⟩
 ·omega
 have c0:=os_cell op rfl 0 hpn
 have OP:=hide op
 have N1:=hide N1
 clear op SP k1 b1 N0 O0 B0
 by_cases h0 : ps.getD 0 ByteArray.empty = ⟨#[]⟩
 ·rw [h0] at c0
  by_cases h31 : ps.length ≤ 31
  ·have E : Hid (A = (stepsRun ps.tail).map (·.2)):=hide (HA.out.symm.trans (if_pos ⟨h0, h31⟩))
   have h31' : decide ((31 : Int) < (ps.length : Int)) = false:=by simp; omega
   go_wp2
   clear c0
   go_loopw [5, 7, 8] (fun out last i wr => ∃ (k : Nat) (l : Int) (ss : List St) (vs : List Value), k + 1 ≤ ps.length ∧ i = .int .i64 ((k + 1 : Nat) : Int) ∧ last = .int .i64 l ∧ Hid (stepsRun (ps.tail.take k) = some (l, ss)) ∧ ss.length = k ∧ OStV wr (w.heap.size + 1) out ss vs ∧ OS wr w0.heap.size (.slice (some ⟨gp, 0, none⟩) ps.length pc) ps ∧ wr.ownsRow w.heap.size 141 2 (.slice (some ⟨w.heap.size, 0, none⟩) 0 0) 0 [] ∧ Below w.heap.size w wr ∧ w.heap.size + 1 ≤ wr.heap.size) (fun _ _ i _ => ps.length - (intOf i).toNat)
   case atStart => exact ⟨0, 0, [], [], by omega, by go_num, rfl, hide (by rw [List.take_zero]; rfl), rfl, ⟨rfl, O1, fun k hk => by simp at hk, fun i j _ hj => by simp at hj⟩, OP.out, N1.out, B1, by omega⟩
   case round =>
    clear O1 N1 OP B1
    obtain ⟨k, l, ss, vs, hk, rfl, rfl, HR, hsl, ost, hp, nr, br, sz⟩:=hrel
    subst hsl
    obtain ⟨oa, oc, rfl⟩:=OSt.form ⟨vs, ost⟩
    have RO1:=(stepsRun_ok _ _ HR.out).2.1
    by_cases hlt : ss.length + 1 < ps.length
    ·have hc:=os_cell hp rfl (ss.length + 1) hlt
     have hm:=hpz.out _ (getD_mem hlt)
     have HT:=hide (tail_get ps ss.length hlt)
     have HC:=hide (stepOf_cut (ps.getD (ss.length + 1) ByteArray.empty))
     have CUT:=hide fun w => l2Cut_any 124 124 rfl (ps.getD (ss.length + 1) ByteArray.empty) w hm
     generalize ps.getD (ss.length + 1) ByteArray.empty = p at *
     have hc1 : (cutS 124 p.data.toList).1.length ≤ 33554432 ∧ (cutS 124 p.data.toList).2.1.length ≤ 33554432:=by
      have h1:=cutS_len 124 p.data.toList
      have h2 : p.data.toList.length = p.size:=by simp
      omega
     obtain ⟨c, hcc⟩ : ∃ c, cutS 124 p.data.toList = c:=⟨_, rfl⟩
     rw [hcc] at CUT HC hc1
     clear hcc
     have NU:=hide fun w => specNumber_any (toB c.1) w (by rw [toB_size]; unfold maxLen; omega)
     have TX:=hide fun w => specTxsOf (toB c.2.1) w (by rw [toB_size]; omega)
     rw [toB_list] at NU
     obtain ⟨cn, hcn⟩ : ∃ x, numOf c.1 = x:=⟨_, rfl⟩
     obtain ⟨ct, hct⟩ : ∃ x, txsAns (toB c.2.1) = x:=⟨_, rfl⟩
     rw [hcn] at NU HC
     rw [hct] at TX HC
     have hn0 : 0 ≤ nans cn ∧ nans cn ≤ 999999:=by
      cases cn with
      | none => simp [nans]
      | some m => have := numOf_some hcn; simp [nans]; omega
     clear hcn hct
     obtain ⟨n, hn⟩ : ∃ n, nans cn = n:=⟨_, rfl⟩
     obtain ⟨bn, hbn⟩ : ∃ b, cn.isSome = b:=⟨_, rfl⟩
     obtain ⟨bt, hbt⟩ : ∃ b, ct.isSome = b:=⟨_, rfl⟩
     obtain ⟨ts, hts⟩ : ∃ b, ct.getD [] = b:=⟨_, rfl⟩
     rw [hn] at NU HC hn0
     rw [hbn] at NU HC
     rw [hbt] at TX HC
     rw [hts] at TX HC
     clear hn hbn hbt hts
     have OST:=hide ost
     have NR:=hide nr
     have HP:=hide hp
     clear ost nr hp
     go_wp2_with fail
     refine (CUT.out _).mono ?_
     rintro _ w2 ⟨rfl, b2⟩
     go_wp2_with fail
     refine (NU.out _).mono ?_
     rintro _ w3 ⟨rfl, b3⟩
     have b23 : Below wr.heap.size wr w3:=bu b2 b3
     go_wp2_with fail
     refine (TX.out _).mono ?_
     rintro _ w4 ⟨vt, rfl, ot, b4⟩
     have b24 : Below wr.heap.size wr w4:=bu b23 b4
     have B4:=bu br b24
     have s24:=b24.size
     have s23:=b23.size
     have ost4:=OST.out.below b24
     have k24 : wr.grownBy w4 none:=⟨b24.os, b24.tape, b24.output, b24.size, fun k hk _ => b24.block k hk⟩
     have nr4:=World.ownsRow.kept NR.out k24 (by simp [Value.ownBlock])
     have hp4:=HP.out.below b24
     obtain ⟨ta, tc, rfl⟩ : ∃ ta tc, vt = .slice ta ts.length tc:=by
      rcases ot.2 with ⟨rfl, h0⟩ | ⟨g, cap, cur, rfl, _⟩
      ·exact ⟨none, 0, by rw [h0]⟩
      exact ⟨_, _, rfl⟩
     clear CUT NU TX b2 b3 b4
     have RN : Hid (stepOf p = none → stepsRun ps.tail = none):=hide fun h => stepsRun_none (ss.length + 1) (by rw [HT.out, stepsRun_more, HR.out]; unfold stepAcc; rw [h]; rfl)
     obtain ⟨c1, c2, cb⟩:=c
     cases cb with
     | false =>
      have F:=hide (RN.out (by rw [HC.out, if_neg (by simp)]))
      go_wp2
      go_ret2
      rw [E.out, F.out]
      exact ⟨_, rfl, NONE.out _ B4 nr4, B4⟩
     | true =>
     cases bn with
     | false =>
      have F:=hide (RN.out (by rw [HC.out, if_neg (by simp)]))
      go_wp2
      go_ret2
      rw [E.out, F.out]
      exact ⟨_, rfl, NONE.out _ B4 nr4, B4⟩
     | true =>
     cases bt with
     | false =>
      have F:=hide (RN.out (by rw [HC.out, if_neg (by simp)]))
      go_wp2
      go_ret2
      rw [E.out, F.out]
      exact ⟨_, rfl, NONE.out _ B4 nr4, B4⟩
     | true =>
     have HS : Hid (stepOf p = some (n, ts)):=hide (by rw [HC.out, if_pos (by simp)])
     have RG : Hid (¬ GoodSt l (n, ts) → stepsRun ps.tail = none):=hide fun h => stepsRun_none (ss.length + 1) (by rw [HT.out, stepsRun_more, HR.out]; unfold stepAcc; rw [HS.out]; exact if_neg h)
     clear RN HC
     by_cases g1 : n ≤ l
     ·have F:=hide (RG.out fun h => by have:=h.1; simp only at this; omega)
      have g1' : decide (n ≤ l) = true:=by simp; omega
      go_wp2
      go_ret2
      rw [E.out, F.out]
      exact ⟨_, rfl, NONE.out _ B4 nr4, B4⟩
     have g1' : decide (n ≤ l) = false:=by simp; omega
     by_cases g2 : 60 < n
     ·have F:=hide (RG.out fun h => by have:=h.2.1; simp only at this; omega)
      have g2' : decide (60 < n) = true:=by simp; omega
      go_wp2
      go_ret2
      rw [E.out, F.out]
      exact ⟨_, rfl, NONE.out _ B4 nr4, B4⟩
     have g2' : decide (60 < n) = false:=by simp; omega
     by_cases g3 : 2 < ts.length
     ·have F:=hide (RG.out fun h => by have:=h.2.2; simp only at this; omega)
      have g3' : decide ((2 : Int) < (ts.length : Int)) = true:=by simp; omega
      go_wp2
      go_ret2
      rw [E.out, F.out]
      exact ⟨_, rfl, NONE.out _ B4 nr4, B4⟩
     have g3' : decide ((2 : Int) < (ts.length : Int)) = false:=by simp; omega
     have HN : Hid (stepsRun (ps.tail.take (ss.length + 1)) = some (n, ss ++ [(n, ts)])):=hide (by
      rw [HT.out, stepsRun_more, HR.out]; unfold stepAcc; rw [HS.out]
      exact if_pos ⟨by omega, by omega, by show ts.length ≤ 2; omega⟩)
     have bX : Below w4.heap.size w4 (w4.alloc (.cells #[.int .i64 n,.slice ta ts.length tc] 141)):=(Below.refl _ _).alloc (Nat.le_refl _) _
     have ostX:=ost4.below bX
     have otX:=ot.below bX
     have hpX:=hp4.below bX
     have nrX:=World.ownsRow.alloc nr4 (.cells #[.int .i64 n,.slice ta ts.length tc] 141)
     have BX:=bu B4 bX
     have hN : ∀ k, k < ss.length → ∀ b, (vs.getD k (.slice none 0 0)).ownBlock = some b → b < w3.heap.size:=fun k hk b hb => by
      have:=(World.ownsRow.lt (OST.out.each k hk) b hb).2; omega
     have hl31 : ss.length ≤ 31:=by omega
     clear RG ost4 ot hp4 nr4 B4
     go_wp2_with (first
      | (at_builtin; refine wpList_append_own _ rfl _ _ 137 rfl (w.heap.size + 1) 141 i0 (.agg #[.int .i64 0,.slice none 0 0]) 2 32 Tryz.underlying137 hi hz0 hz1 hz2 rfl (by decide) _ _ _ rfl ostX.row ⟨w4.heap.size, 0, none⟩ 1 1 (scell (n,.slice ta ts.length tc)) rfl rfl (two_cell w4 (n,.slice ta ts.length tc) 141) (two_plain _ _ _ _) (by unfold maxLen; omega) (by omega) (by simp; omega) ?_; intro v' w5 ho' hg' _; have R := ost_more ostX otX hN (by omega) ho' hg'; have RP := World.ownsRow.kept hpX hg' (own_types hpX ostX.row (by decide)); have RN := World.ownsRow.kept nrX hg' (none_apart ostX.row); have RB := BX.grown hg' BX.size (fun k hk => by have := (World.ownsRow.lt ostX.row k hk).1; omega); have SZ : w4.heap.size ≤ w5.heap.size := (by have := hg'.size; simp at this; omega); clear ho' hg' ostX otX hpX nrX BX bX))
     go_roundw
     case rel => exact ⟨ss.length + 1, n, _, _, by omega, by go_num, rfl, HN, by simp, R, RP, RN, RB, by omega⟩
     case measure => simp [intOf]; omega
    have hk2 : ps.tail.take ss.length = ps.tail:=List.take_of_length_le (by simp; omega)
    rw [hk2] at HR
    have hlt' : decide (((ss.length + 1 : Nat) : Int) < (ps.length : Int)) = false:=by simp; omega
    go_wp2
    go_ret2
    rw [E.out, HR.out]
    refine ⟨_, rfl, ⟨vs, ost.len, ?_, fun k hk => ?_, ost.apart⟩, br⟩
    ·exact row_lower ost.row (by omega)
    exact row_lower (ost.each k hk) (by omega)
  have E : A = none:=HA.out.symm.trans (if_neg fun h => h31 h.2)
  have h31' : decide ((31 : Int) < (ps.length : Int)) = true:=by simp; omega
  go_wp2
  go_ret2
  rw [E]
  exact ⟨_, rfl, NONE.out _ B1 N1.out, B1⟩
 have E : A = none:=HA.out.symm.trans (if_neg fun h => h0 h.1)
 have hn0:=str_ne h0
 have hn1 : ((ps.getD 0 ByteArray.empty).toList = []) = False:=eq_false fun e => h0 (by apply ByteArray.ext; apply Array.toList_inj.1; rw [ByteArray.toList_eq] at e; exact e)
 generalize ps.getD 0 ByteArray.empty = p0 at *
 go_wp2
 go_ret2
 rw [E]
 exact ⟨_, rfl, NONE.out _ B1 N1.out, B1⟩
end
section
open Go.RowKit
structure Cur (w : World) (base g : Nat) (ao : Option Addr) (ca : Nat) (xs : List Int) : Prop where
 low : base ≤ g
 len : xs.length ≤ 140737488355328
 cells : ∃ i h : Int, w.heap[g]? = some (.cells #[.slice ao xs.length ca,.int .i64 i,.int .i64 h] 118 (0, 0)) ∧ 0 ≤ i ∧ i ≤ xs.length
 code : xs = [] ∨ ∃ b off, b < base ∧ ao = some ⟨b, off, none⟩ ∧ ∀ k, k < xs.length → w.cell? ⟨b, off + k, none⟩ = some (.int .u8 (xs.getD k 0)) ∧ 0 ≤ xs.getD k 0 ∧ xs.getD k 0 ≤ 255

theorem i64_and255 (n : Int) : bits .and .i64 n 255 = n % 256 := by
 have h255 : (BitVec.ofInt 64 255).toNat = 2 ^ 8 - 1:=by decide
 have key : (BitVec.ofInt 64 n &&& BitVec.ofInt 64 255).toNat = (n % ((2 ^ 64 : Nat) : Int)).toNat % 2 ^ 8:=by
  rw [BitVec.toNat_and, BitVec.toNat_ofInt, h255, Nat.and_two_pow_sub_one_eq_mod]
 show IntKind.i64.wrap ((BitVec.ofInt 64 n &&& BitVec.ofInt 64 255).toNat : Nat) = n % 256
 rw [key, IntKind.wrap_i64]
 omega
theorem and255 (n : Int) : 0 ≤ bits .and .i64 n 255 ∧ bits .and .i64 n 255 ≤ 255 := by rw [i64_and255]; omega

theorem three_cells {w : World} {g : Nat} {x y z : Value} {t : TypeId} (h : w.heap[g]? = some (.cells #[x, y, z] t (0, 0))) :
 w.cell? ⟨g, 0, none⟩ = some x ∧ w.cell? ⟨g, 1, none⟩ = some y ∧ w.cell? ⟨g, 2, none⟩ = some z ∧ w.frozen? ⟨g, 0, none⟩ = false ∧ w.frozen? ⟨g, 1, none⟩ = false ∧ w.frozen? ⟨g, 2, none⟩ = false := by
 refine ⟨?_, ?_, ?_, frozen_of_row w g 0 _ t h, frozen_of_row w g 1 _ t h, frozen_of_row w g 2 _ t h⟩
 ·rw [cell_of_row w g 0 _ t (0, 0) h]; rfl
 ·rw [cell_of_row w g 1 _ t (0, 0) h]; rfl
 rw [cell_of_row w g 2 _ t (0, 0) h]; rfl

theorem set_two {w : World} {g : Nat} {x y z : Value} {t : TypeId} (h : w.heap[g]? = some (.cells #[x, y, z] t (0, 0))) (u : Value) : (w.setCell ⟨g, 2, none⟩ u).heap[g]? = some (.cells #[x, y, u] t (0, 0)) := by
 rw [heap_setCell_same w g 2 _ t u h]; rfl
theorem set_one {w : World} {g : Nat} {x y z : Value} {t : TypeId} (h : w.heap[g]? = some (.cells #[x, y, z] t (0, 0))) (u : Value) : (w.setCell ⟨g, 1, none⟩ u).heap[g]? = some (.cells #[x, u, z] t (0, 0)) := by
 rw [heap_setCell_same w g 1 _ t u h]; rfl
theorem set_grown (w : World) (g j : Nat) (u : Value) : w.grownBy (w.setCell ⟨g, j, none⟩ u) (some g) :=
 ⟨rfl, rfl, rfl, by simp, fun k _ hk => heap_setCell_other w ⟨g, j, none⟩ k u (fun e => hk (by simp [e]))⟩

theorem grown_drewN {a b : World} {row : Option Nat} (h : a.grownBy b row) (n : Nat) : a.grownBy (b.drewN n) row := ⟨h.os, h.tape, h.output, h.size, h.block⟩

def ByteEnd (w : World) (g ca : Nat) (ao : Option Addr) (xs : List Int) (e : Ending) (w' : World) : Prop :=
 ∃ x : Int, e = .returned (.int .i64 x) ∧ 0 ≤ x ∧ x ≤ 255 ∧ (∃ i h : Int, w'.heap[g]? = some (.cells #[.slice ao xs.length ca,.int .i64 i,.int .i64 h] 118 (0, 0)) ∧ 0 ≤ i ∧ i ≤ xs.length) ∧ w.grownBy w' (some g)

theorem byte_end (g ca : Nat) (ao : Option Addr) (xs : List Int) (h : Int) (w : World) (hl : xs.length ≤ 140737488355328)
 (hc : w.heap[g]? = some (.cells #[.slice ao xs.length ca,.int .i64 xs.length,.int .i64 h] 118 (0, 0))) :
 Calls Tryz.prog 103 #[.pointer (some ⟨g, 0, none⟩)] w (ByteEnd w g ca ao xs) := by
 obtain ⟨c0, c1, c2, f0, f1, f2⟩:=three_cells hc
 have HC:=hide hc
 clear hc
 go_enter Tryz.func103, Tryz.ntmps103
 go_wp2_with fail
 go_quiet (fail)
 go_wp2_with fail
 go_quiet (fail)
 go_wp2
 go_ret
 exact ⟨_, rfl, (and255 _).1, (and255 _).2, ⟨_, _, set_two HC.out _, by omega, by omega⟩, grown_drewN (grown_drewN (set_grown _ _ _ _) _) _⟩

theorem byte_mid (g ca b off : Nat) (xs : List Int) (i : Nat) (h : Int) (w : World) (hl : xs.length ≤ 140737488355328) (hbg : b ≠ g)
 (hc : w.heap[g]? = some (.cells #[.slice (some ⟨b, off, none⟩) xs.length ca,.int .i64 i,.int .i64 h] 118 (0, 0))) (hi : i < xs.length)
 (hb : w.cell? ⟨b, off + i, none⟩ = some (.int .u8 (xs.getD i 0))) (hx : 0 ≤ xs.getD i 0 ∧ xs.getD i 0 ≤ 255) :
 Calls Tryz.prog 103 #[.pointer (some ⟨g, 0, none⟩)] w (ByteEnd w g ca (some ⟨b, off, none⟩) xs) := by
 obtain ⟨c0, c1, c2, f0, f1, f2⟩:=three_cells hc
 have HC:=hide hc
 clear hc
 generalize xs.getD i 0 = d at *
 go_enter Tryz.func103, Tryz.ntmps103
 go_wp2_with fail
 go_quiet (fail)
 go_wp2_with fail
 go_quiet (fail)
 go_wp2_with fail
 go_quiet (fail)
 go_wp2
 go_ret
 exact ⟨_, rfl, (and255 _).1, (and255 _).2, ⟨_, _, set_one (set_two HC.out _) _, by omega, by omega⟩, grown_trans (grown_drewN (set_grown _ _ _ _) _) (set_grown _ _ _ _)⟩

theorem Cur.grown {w w' : World} {base g ca : Nat} {ao : Option Addr} {xs : List Int} (h : Cur w base g ao ca xs) (hg : w.grownBy w' (some g)) (hB : base ≤ w.heap.size)
 (hc : ∃ i h : Int, w'.heap[g]? = some (.cells #[.slice ao xs.length ca,.int .i64 i,.int .i64 h] 118 (0, 0)) ∧ 0 ≤ i ∧ i ≤ xs.length) : Cur w' base g ao ca xs := by
 refine ⟨h.low, h.len, hc, ?_⟩
 rcases h.code with h' | ⟨b, off, hb, ha, hx⟩
 ·exact .inl h'
 refine .inr ⟨b, off, hb, ha, fun k hk => ⟨?_, (hx k hk).2⟩⟩
 have hlow:=h.low
 rw [World.cell?_of_block (w := w) (hg.block b (by omega) (by simp; omega))]
 exact (hx k hk).1
theorem byte_any (base g ca : Nat) (ao : Option Addr) (xs : List Int) (w : World) (hB : base ≤ w.heap.size) (h : Cur w base g ao ca xs) :
 Calls Tryz.prog 103 #[.pointer (some ⟨g, 0, none⟩)] w fun e w' => ∃ x : Int, e = .returned (.int .i64 x) ∧ 0 ≤ x ∧ x ≤ 255 ∧ Cur w' base g ao ca xs ∧ w.grownBy w' (some g) := by
 have key : Calls Tryz.prog 103 #[.pointer (some ⟨g, 0, none⟩)] w (ByteEnd w g ca ao xs):=by
  obtain ⟨i, hh, hc, h0, h1⟩:=h.cells
  by_cases hi : i = xs.length
  ·subst hi; exact byte_end g ca ao xs hh w h.len hc
  obtain ⟨k, rfl⟩:=Int.eq_ofNat_of_zero_le h0
  rcases h.code with h' | ⟨b, off, hb, rfl, hx⟩
  ·subst h'; simp at h1; simp at hi; omega
  have hlow:=h.low
  exact byte_mid g ca b off xs k hh w h.len (by omega) hc (by omega) (hx k (by omega)).1 (hx k (by omega)).2
 refine key.mono ?_
 rintro e w' ⟨x, rfl, h0, h1, hc, hg⟩
 exact ⟨x, rfl, h0, h1, h.grown hg hB hc, hg⟩

theorem below_any (base g ca : Nat) (ao : Option Addr) (xs : List Int) (n : Int) (w : World) (hB : base ≤ w.heap.size) (hn : 1 ≤ n) (hm : n ≤ 256) (h : Cur w base g ao ca xs) :
 Calls Tryz.prog 62 #[.pointer (some ⟨g, 0, none⟩),.int .i64 n] w fun e w' => ∃ x : Int, e = .returned (.int .i64 x) ∧ 0 ≤ x ∧ x < n ∧ Cur w' base g ao ca xs ∧ w.grownBy w' (some g) := by
 have HC:=hide (byte_any base g ca ao xs w hB h)
 clear h
 go_enter Tryz.func62, Tryz.ntmps62
 go_wp2_with fail
 refine HC.out.mono ?_
 rintro e w' ⟨x, rfl, h0, h1, hc, hg⟩
 go_wp2
 go_ret
 exact ⟨_, rfl, Int.emod_nonneg _ (by omega), Int.emod_lt_of_pos _ (by omega), hc, hg⟩

theorem once_any (base g ca : Nat) (ao : Option Addr) (xs : List Int) (n : Int) (w : World) (hB : base ≤ w.heap.size) (hn : 1 ≤ n) (hm : n ≤ 256) (h : Cur w base g ao ca xs) :
 Calls Tryz.prog 57 #[.pointer (some ⟨g, 0, none⟩),.int .i64 n] w fun e w' => ∃ b : Bool, e = .returned (.bool b) ∧ Cur w' base g ao ca xs ∧ w.grownBy w' (some g) := by
 have HC:=hide (below_any base g ca ao xs n w hB hn hm h)
 clear h
 go_enter Tryz.func57, Tryz.ntmps57
 go_wp2_with fail
 refine HC.out.mono ?_
 rintro e w' ⟨x, rfl, h0, h1, hc, hg⟩
 go_wp2
 go_ret
 exact ⟨_, rfl, hc, hg⟩

theorem pickInt_any (base g ca p : Nat) (ao : Option Addr) (xs zs : List Int) (w : World) (hB : base ≤ w.heap.size) (hp : p ≠ g) (hz : 1 ≤ zs.length) (hz2 : zs.length ≤ 256) (hc : ∀ k, k < zs.length → w.cell? ⟨p, k, none⟩ = some (.int .i64 (zs.getD k 0))) (h : Cur w base g ao ca xs) :
 Calls Tryz.prog 95 #[.pointer (some ⟨g, 0, none⟩),.slice (some ⟨p, 0, none⟩) zs.length zs.length] w fun e w' => ∃ k : Nat, k < zs.length ∧ e = .returned (.int .i64 (zs.getD k 0)) ∧ Cur w' base g ao ca xs ∧ w.grownBy w' (some g) := by
 have HC:=hide (below_any base g ca ao xs zs.length w hB (by omega) (by omega) h)
 have HD:=hide hc
 clear h hc
 go_enter Tryz.func95, Tryz.ntmps95
 go_wp2_with fail
 refine HC.out.mono ?_
 rintro e w' ⟨x, rfl, h0, h1, hcur, hg⟩
 obtain ⟨k, rfl⟩:=Int.eq_ofNat_of_zero_le h0
 have hk : k < zs.length:=by omega
 have hcell : w'.cell? ⟨p, k, none⟩ = some (.int .i64 (zs.getD k 0)):=by
  have h1:=HD.out k hk
  exact hg.cell h1 (by simp [hp])
 obtain ⟨z, hz'⟩ : ∃ z, zs.getD k 0 = z:=⟨_, rfl⟩
 rw [hz'] at hcell
 have HZ:=hide hz'
 clear hz'
 go_wp2
 go_ret
 have hz'':=HZ.out
 subst hz''
 exact ⟨k, hk, rfl, hcur, hg⟩

theorem pick_any (base g ca p : Nat) (ao : Option Addr) (xs : List Int) (zs : List ByteArray) (w : World) (hB : base ≤ w.heap.size) (hp : p ≠ g) (hz : 1 ≤ zs.length) (hz2 : zs.length ≤ 256) (hc : ∀ k, k < zs.length → w.cell? ⟨p, k, none⟩ = some (.string (zs.getD k ByteArray.empty))) (h : Cur w base g ao ca xs) :
 Calls Tryz.prog 130 #[.pointer (some ⟨g, 0, none⟩),.slice (some ⟨p, 0, none⟩) zs.length zs.length] w fun e w' => ∃ k : Nat, k < zs.length ∧ e = .returned (.string (zs.getD k ByteArray.empty)) ∧ Cur w' base g ao ca xs ∧ w.grownBy w' (some g) := by
 have HC:=hide (below_any base g ca ao xs zs.length w hB (by omega) (by omega) h)
 have HD:=hide hc
 clear h hc
 go_enter Tryz.func130, Tryz.ntmps130
 go_wp2_with fail
 refine HC.out.mono ?_
 rintro e w' ⟨x, rfl, h0, h1, hcur, hg⟩
 obtain ⟨k, rfl⟩:=Int.eq_ofNat_of_zero_le h0
 have hk : k < zs.length:=by omega
 have hcell : w'.cell? ⟨p, k, none⟩ = some (.string (zs.getD k ByteArray.empty)):=by
  have h1:=HD.out k hk
  exact hg.cell h1 (by simp [hp])
 obtain ⟨z, hz'⟩ : ∃ z, zs.getD k ByteArray.empty = z:=⟨_, rfl⟩
 rw [hz'] at hcell
 have HZ:=hide hz'
 clear hz'
 go_wp2
 go_ret
 have hz'':=HZ.out
 subst hz''
 exact ⟨k, hk, rfl, hcur, hg⟩

theorem new_cur (ao : Option Addr) (ca : Nat) (xs : List Int) (z : Int) (w : World) (hl : xs.length ≤ 1048576)
 (h : xs = [] ∨ ∃ b off, ao = some ⟨b, off, none⟩ ∧ ∀ k, k < xs.length → w.cell? ⟨b, off + k, none⟩ = some (.int .u8 (xs.getD k 0))) (hb : ∀ k, k < xs.length → 0 ≤ xs.getD k 0 ∧ xs.getD k 0 ≤ 255) :
 Cur (w.alloc (.cells #[.slice ao xs.length ca,.int .i64 0,.int .i64 z] 118)) w.heap.size w.heap.size ao ca xs := by
 refine ⟨Nat.le_refl _, by omega, ⟨0, z, heap_alloc_new w _, by omega, by omega⟩, ?_⟩
 rcases h with h | ⟨b, off, rfl, hx⟩
 ·exact .inl h
 by_cases h0 : xs = []
 ·exact .inl h0
 have hpos : 0 < xs.length:=List.length_pos_iff.2 h0
 have hlt : b < w.heap.size:=cell_lt (hx 0 hpos)
 refine .inr ⟨b, off, hlt, rfl, fun k hk => ⟨?_, hb k hk⟩⟩
 rw [((Below.refl w.heap.size w).alloc (Nat.le_refl _) _).cell (p := ⟨b, off + k, none⟩) hlt]
 exact hx k hk

theorem new_any (ao : Option Addr) (ca : Nat) (xs : List Int) (w : World) (hl : xs.length ≤ 1048576)
 (h : xs = [] ∨ ∃ b off, ao = some ⟨b, off, none⟩ ∧ ∀ k, k < xs.length → w.cell? ⟨b, off + k, none⟩ = some (.int .u8 (xs.getD k 0))) (hb : ∀ k, k < xs.length → 0 ≤ xs.getD k 0 ∧ xs.getD k 0 ≤ 255) :
 Calls Tryz.prog 54 #[.slice ao xs.length ca] w fun e w' => e = .returned (.pointer (some ⟨w.heap.size, 0, none⟩)) ∧ Cur w' w.heap.size w.heap.size ao ca xs ∧ Below w.heap.size w w' := by
 obtain ⟨n, hn⟩ : ∃ n, xs.length = n:=⟨_, rfl⟩
 have Hn:=hide hn
 rw [hn] at hl h hb ⊢
 clear hn
 go_enter Tryz.func54, Tryz.ntmps54
 go_wp2
 go_loop [3, 4] (fun y i => ∃ (k : Nat) (z : Int), k ≤ n ∧ y = .int .i64 z ∧ i = .int .i64 k) (fun _ i => n - (intOf i).toNat)
 case atStart => exact ⟨0, _, by omega, rfl, rfl⟩
 case round =>
  obtain ⟨k, z, hk, rfl, rfl⟩:=hrel
  by_cases hlt : k < n
  ·by_cases h4 : k < 4000
   ·rcases h with rfl | ⟨b, off, rfl, hx⟩
    ·have:=Hn.out; simp at this; omega
    have hc:=hx k hlt
    have hbd:=hb k hlt
    clear hx hb
    generalize xs.getD k 0 = d at *
    go_wp2
    go_round
    case rel => exact ⟨k + 1, _, by omega, rfl, by go_num⟩
    case measure => simp [intOf]; omega
   have hd4 : decide ((k : Int) < 4000) = false:=by simp; omega
   have HX:=hide h
   have HB:=hide hb
   clear h hb
   have HN:=fun z => hide (new_cur ao ca xs z w (by rw [Hn.out]; exact hl) (by rw [Hn.out]; exact HX.out) (by rw [Hn.out]; exact HB.out))
   rw [Hn.out] at HN
   go_wp2
   go_ret
   exact ⟨rfl, unhide (HN z), (Below.refl _ _).alloc (Nat.le_refl _) _⟩
  have hd : decide ((k : Int) < (n : Int)) = false:=by simp; omega
  have HN:=fun z => hide (new_cur ao ca xs z w (by rw [Hn.out]; exact hl) (by rw [Hn.out]; exact h) (by rw [Hn.out]; exact hb))
  rw [Hn.out] at HN
  clear h hb
  go_wp2
  go_ret
  exact ⟨rfl, unhide (HN z), (Below.refl _ _).alloc (Nat.le_refl _) _⟩
theorem lit_ints (w : World) (t : TypeId) (zs : List Int) (k : Nat) (hk : k < zs.length) : (w.alloc (.cells (zs.map (Value.int .i64)).toArray t)).cell? ⟨w.heap.size, k, none⟩ = some (.int .i64 (zs.getD k 0)) := by
 rw [cell_of_row _ w.heap.size k _ t (0, 0) (heap_alloc_new w _)]
 simp [List.getElem?_eq_getElem hk]
theorem lit_texts (w : World) (t : TypeId) (zs : List ByteArray) (k : Nat) (hk : k < zs.length) : (w.alloc (.cells (zs.map Value.string).toArray t)).cell? ⟨w.heap.size, k, none⟩ = some (.string (zs.getD k ByteArray.empty)) := by
 rw [cell_of_row _ w.heap.size k _ t (0, 0) (heap_alloc_new w _)]
 simp [List.getElem?_eq_getElem hk]
theorem Cur.alloc {w : World} {base g ca : Nat} {ao : Option Addr} {xs : List Int} (h : Cur w base g ao ca xs) (hB : base ≤ w.heap.size) (o : Obj) : Cur (w.alloc o) base g ao ca xs := by
 have hg : g < w.heap.size:=by
  obtain ⟨i, hh, hc, _⟩:=h.cells
  exact (Array.getElem?_eq_some_iff.1 hc).1
 have hb : Below w.heap.size w (w.alloc o):=(Below.refl _ _).alloc (Nat.le_refl _) o
 refine ⟨h.low, h.len, ?_, ?_⟩
 ·obtain ⟨i, hh, hc, h0, h1⟩:=h.cells
  exact ⟨i, hh, (hb.block g hg).trans hc, h0, h1⟩
 rcases h.code with h' | ⟨b, off, hbb, ha, hx⟩
 ·exact .inl h'
 exact .inr ⟨b, off, hbb, ha, fun k hk => ⟨(hb.cell (p := ⟨b, off + k, none⟩) (by show b < _; omega)).trans (hx k hk).1, (hx k hk).2⟩⟩

structure DCode (w : World) (ao : Option Addr) (xs : List Int) : Prop where
 len : xs.length ≤ 1048576
 code : xs = [] ∨ ∃ b off, ao = some ⟨b, off, none⟩ ∧ ∀ k, k < xs.length → w.cell? ⟨b, off + k, none⟩ = some (.int .u8 (xs.getD k 0))
 fit : ∀ k, k < xs.length → 0 ≤ xs.getD k 0 ∧ xs.getD k 0 ≤ 255
theorem DCode.below {w w' : World} {B : Nat} {ao : Option Addr} {xs : List Int} (h : DCode w ao xs) (hb : Below B w w') (hB : w.heap.size ≤ B := by exact Nat.le_refl _) : DCode w' ao xs := by
 refine ⟨h.len, ?_, h.fit⟩
 rcases h.code with h' | ⟨b, off, ha, hx⟩
 ·exact .inl h'
 exact .inr ⟨b, off, ha, fun k hk => (hb.cell (Nat.lt_of_lt_of_le (cell_lt (hx k hk)) hB)).trans (hx k hk)⟩

theorem pickInt_lit (base g ca : Nat) (ao : Option Addr) (xs zs : List Int) (w : World) (hB : base ≤ w.heap.size) (hz : 1 ≤ zs.length) (hz2 : zs.length ≤ 256) (h : Cur w base g ao ca xs) :
 Calls Tryz.prog 95 #[.pointer (some ⟨g, 0, none⟩),.slice (some ⟨w.heap.size, 0, none⟩) zs.length zs.length] (w.alloc (.cells (zs.map (Value.int .i64)).toArray 3)) fun e w' =>
  ∃ x : Int, e = .returned (.int .i64 x) ∧ x ∈ zs ∧ Cur w' base g ao ca xs ∧ w.grownBy w' (some g) := by
 have hg : g < w.heap.size:=by
  obtain ⟨i, hh, hc, _⟩:=h.cells
  exact (Array.getElem?_eq_some_iff.1 hc).1
 refine (pickInt_any base g ca w.heap.size ao xs zs _ (by simp; omega) (by omega) hz hz2 (fun k hk => lit_ints w _ zs k hk) (h.alloc hB _)).mono ?_
 rintro e w' ⟨k, hk, rfl, hc, hgr⟩
 refine ⟨_, rfl, ?_, hc, grown_trans (World.grownBy_alloc w _ _) hgr⟩
 rw [List.getD_eq_getElem?_getD, List.getElem?_eq_getElem hk]
 exact List.getElem_mem hk
theorem pick_lit (base g ca : Nat) (ao : Option Addr) (xs : List Int) (zs : List ByteArray) (w : World) (hB : base ≤ w.heap.size) (hz : 1 ≤ zs.length) (hz2 : zs.length ≤ 256) (h : Cur w base g ao ca xs) :
 Calls Tryz.prog 130 #[.pointer (some ⟨g, 0, none⟩),.slice (some ⟨w.heap.size, 0, none⟩) zs.length zs.length] (w.alloc (.cells (zs.map Value.string).toArray 9)) fun e w' =>
  ∃ x : ByteArray, e = .returned (.string x) ∧ x ∈ zs ∧ Cur w' base g ao ca xs ∧ w.grownBy w' (some g) := by
 have hg : g < w.heap.size:=by
  obtain ⟨i, hh, hc, _⟩:=h.cells
  exact (Array.getElem?_eq_some_iff.1 hc).1
 refine (pick_any base g ca w.heap.size ao xs zs _ (by simp; omega) (by omega) hz hz2 (fun k hk => lit_texts w _ zs k hk) (h.alloc hB _)).mono ?_
 rintro e w' ⟨k, hk, rfl, hc, hgr⟩
 refine ⟨_, rfl, ?_, hc, grown_trans (World.grownBy_alloc w _ _) hgr⟩
 rw [List.getD_eq_getElem?_getD, List.getElem?_eq_getElem hk]
 exact List.getElem_mem hk
theorem cur_below {w w' : World} {g : Nat} (hg : w.grownBy w' (some g)) {a : World} {B : Nat} (hb : Below B a w) (hB : B ≤ w.heap.size) (hlow : B ≤ g) : Below B a w' :=
 hb.grown hg hB (fun k hk => by simp at hk; omega)
end
section

def put : Nat → Nat → List Int
 | 0, n => [(n : Int)]
 | f + 1, n => if n ≤ 127 then [(n : Int)] else ((n : Int) % 128 + 128) :: put f (n / 128)
def At (n : Nat) (f m : Nat) (done : List Int) : Prop := done ++ put f m = put 4 n ∧ m < 128 ^ (f + 1) ∧ done.length + f = 4
end
section
open Go.RowKit
def bs (s : ByteArray) : List Int := s.data.toList.map fun b => (b.toNat : Int)
def BytesL (ys : List Int) : Prop := ∀ y ∈ ys, 0 ≤ y ∧ y ≤ 255
theorem BytesL.append {a b : List Int} (ha : BytesL a) (hb : BytesL b) : BytesL (a ++ b) := fun y hy => by
 rcases List.mem_append.1 hy with h | h
 ·exact ha y h
 exact hb y h
theorem OB.grown {w w' : World} {base g : Nat} {v : Value} {xs : List Int} (h : OB w base v xs) (hg : w.grownBy w' (some g)) (hlt : g < base) : OB w' base v xs :=
 World.ownsRow.kept h hg (by
  cases hv : v.ownBlock with
  | none => exact .inl rfl
  | some k => exact .inr fun e => by have := (World.ownsRow.lt h k hv).1; simp at e; omega)
theorem Cur.lt {w : World} {base g ca : Nat} {ao : Option Addr} {xs : List Int} (h : Cur w base g ao ca xs) : g < w.heap.size := by
 obtain ⟨i, hh, hc, _⟩:=h.cells
 exact (Array.getElem?_eq_some_iff.1 hc).1
theorem Cur.below {w w' : World} {base g ca : Nat} {ao : Option Addr} {xs : List Int} (h : Cur w base g ao ca xs) (hB : base ≤ w.heap.size) (hb : Below w.heap.size w w') : Cur w' base g ao ca xs := by
 have hg:=h.lt
 refine ⟨h.low, h.len, ?_, ?_⟩
 ·obtain ⟨i, hh, hc, h0, h1⟩:=h.cells
  exact ⟨i, hh, (hb.block g hg).trans hc, h0, h1⟩
 rcases h.code with h' | ⟨b, off, hbb, ha, hx⟩
 ·exact .inl h'
 exact .inr ⟨b, off, hbb, ha, fun k hk => ⟨(hb.cell (p := ⟨b, off + k, none⟩) (by show b < _; omega)).trans (hx k hk).1, (hx k hk).2⟩⟩
theorem grown_below {w w' : World} (h : Below w.heap.size w w') (row : Option Nat) : w.grownBy w' row := ⟨h.os, h.tape, h.output, h.size, fun k hk _ => h.block k hk⟩
theorem grown_new {a b c : World} {row row' : Option Nat} (h : a.grownBy b row) (k : b.grownBy c row') (hr : ∀ j, row' = some j → a.heap.size ≤ j) : a.grownBy c row :=
 ⟨k.os.trans h.os, k.tape.trans h.tape, k.output.trans h.output, Nat.le_trans h.size k.size, fun i hi hne => (k.block i (Nat.lt_of_lt_of_le hi h.size) (fun e => by have := hr i e.symm; omega)).trans (h.block i hi hne)⟩
theorem Cur.grownNew {w w' : World} {base g ca : Nat} {ao : Option Addr} {xs : List Int} {row : Option Nat} (h : Cur w base g ao ca xs) (hg : w.grownBy w' row) (hr : ∀ j, row = some j → g < j) : Cur w' base g ao ca xs := by
 have hlt:=h.lt
 have hlow:=h.low
 refine ⟨h.low, h.len, ?_, ?_⟩
 ·obtain ⟨i, hh, hc, h0, h1⟩:=h.cells
  exact ⟨i, hh, (hg.block g hlt (fun e => by have := hr g e.symm; omega)).trans hc, h0, h1⟩
 rcases h.code with h' | ⟨b, off, hbb, ha, hx⟩
 ·exact .inl h'
 refine .inr ⟨b, off, hbb, ha, fun k hk => ⟨?_, (hx k hk).2⟩⟩
 rw [World.cell?_of_block (w := w) (hg.block b (by omega) (fun e => by have := hr b e.symm; omega))]
 exact (hx k hk).1
end
end Go.Proofs.YtjkcphnohhpihaaGreatDoor
