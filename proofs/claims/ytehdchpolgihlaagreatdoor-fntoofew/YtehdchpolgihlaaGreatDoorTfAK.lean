/- Texts that belong together: SpecTxsOf, SpecSteps, GetPlain, Read, GetNum, TextRead, RoundPlain, JoinPlain. -/
import Derived.Test.YtehdchpolgihlaaGreatDoorTfAJ
import Derived.Test.YtehdchpolgihlaaGreatDoorTfAH
import Derived.WalkKit
import Derived.Laws.BitsAllLaws
import Derived.Test.YtehdchpolgihlaaGreatDoorTfAA
import Derived.Laws.BytesArg
import Derived.Test.YtehdchpolgihlaaGreatDoorTfAE
/- spec.TxsOf: what it answers. -/
namespace Go.Proofs.YtehdchpolgihlaaGreatDoor
open Go.RowKit
set_option linter.unusedSectionVars false
variable [∀ (a b c d : Int), Decidable (Ok4 a b c d)]
variable [∀ (a b c d : Nat), Decidable (okN a b c d)]

theorem os_base {w : World} {B B' : Nat} {v : Value} {xs : List ByteArray} (h : OS w B v xs) (hB : B' ≤ B) : OS w B' v xs := by
  refine ⟨h.1, ?_⟩
  rcases h.2 with h | ⟨g, cap, cur, h1, h2, h3⟩
  · exact .inl h
  · exact .inr ⟨g, cap, cur, h1, by omega, h3⟩

set_option maxHeartbeats 4000000 in
set_option maxRecDepth 100000 in
theorem specTxsOf (s : ByteArray) (w : World) (hs : s.size ≤ 33554432) :
    Calls Tryz.prog 135 #[.string s] w fun e w' => ∃ v, e = .returned (.tuple #[v, .bool (txsAns s).isSome]) ∧ OT w' w.heap.size v ((txsAns s).getD []) ∧ Below w.heap.size w w' := by
  obtain ⟨i0, hi, hz0, hz1, hz2⟩ := info_parts Tryz.infoTx
  unfold txsAns
  by_cases hz : s = ⟨#[]⟩
  · rw [if_pos hz]
    subst hz
    go_enter Tryz.func135, Tryz.ntmps135
    go_wp2
    go_ret2
    exact ⟨_, rfl, World.ownsRow_lit w #[] 0 (Nat.le_refl _) (by unfold maxLen; omega) rfl, (Below.refl _ _).alloc (Nat.le_refl _) _⟩
  · rw [if_neg hz]
    have hne := str_ne hz
    have hne2 : (s.toList == []) = false := by
      rw [beq_eq_false_iff_ne]; intro e; apply hz; apply ByteArray.ext; apply Array.toList_inj.1; rw [ByteArray.toList_eq] at e; exact e
    have SP := hide fun w => specSplit_any s 44 w hs
    have hpn : 0 < (splitAns s 44).length := by simp [splitAns]
    have hpl := splitAns_len s 44
    have hpz : Hid (∀ p ∈ splitAns s 44, p.size ≤ 33554432) := fun p hp => Nat.le_trans (split_size s 44 p hp) hs
    generalize splitAns s 44 = ps at *
    clear hz
    go_enter Tryz.func135, Tryz.ntmps135
    go_wp2_with fail
    refine (unhide SP _).mono ?_
    rintro e w1 ⟨vp, rfl, op', b1'⟩
    have b1 : Below w.heap.size w w1 := ((Below.refl _ _).alloc (Nat.le_refl _) _).trans (b1'.mono (by simp))
    have op : OS w1 w.heap.size vp ps := os_base op' (by simp)
    have OL := hide (OT.below (show OT _ w.heap.size _ [] from World.ownsRow_lit w #[] 0 (Nat.le_refl _) (by unfold maxLen; omega) rfl) b1')
    clear op' b1'
    rcases op.2 with ⟨_, h0⟩ | ⟨gp, pc, pcur, rfl, _⟩
    · omega
    have OP := hide op
    clear op SP
    go_wp2
    go_loopw [4, 6] (fun v i wr => ∃ (k : Nat) (ys : List T4), k ≤ ps.length ∧ i = .int .i64 k ∧ ys.length = k ∧ Hid (allTx (ps.take k) = some ys) ∧ OT wr w.heap.size v ys ∧ OS wr w.heap.size (.slice (some ⟨gp, 0, none⟩) ps.length pc) ps ∧ Below w.heap.size w wr) (fun _ i _ => ps.length - (intOf i).toNat)
    case atStart => exact ⟨0, [], by omega, rfl, rfl, rfl, unhide OL, unhide OP, b1⟩
    case round =>
      obtain ⟨k, ys, hk, rfl, hyl, HA, ho, hp, hb⟩ := hrel
      have hsz := hb.size
      by_cases hlt : k < ps.length
      · have hc := os_cell hp rfl k hlt
        have hm := hpz.out _ (getD_mem hlt)
        have HT := hide (take_more ps k hlt)
        have CT := hide fun w => specTxOf (ps.getD k ByteArray.empty) w hm
        have HB := hide (And.intro ho (And.intro hp hb))
        clear ho hp hb hm
        generalize ps.getD k ByteArray.empty = p at *
        cases ht : txAns p.data.toList with
        | none =>
          have HN : Hid (allTx ps = none) := allTx_none (k + 1) (by rw [unhide HT, allTx_more, ht]; cases allTx (ps.take k) <;> rfl)
          rw [ht] at CT
          clear ht HT HA
          go_wp2_with fail
          refine (unhide CT _).mono ?_
          rintro e w2 ⟨rfl, b2⟩
          have hw : Below w.heap.size w (w2.alloc (.cells #[.int .i64 0, .int .i64 0, .int .i64 0, .int .i64 0] 135)) := ((unhide HB).2.2.trans (b2.mono hsz)).alloc (by have := b2.size; omega) _
          unfold txval
          go_wp2
          go_ret2
          exact ⟨_, by rw [HN.out]; rfl, by rw [HN.out]; have hq := World.ownsRow_lit (base := w.heap.size) (e := 135) (size := 4) (w2.alloc (.cells #[.int .i64 0, .int .i64 0, .int .i64 0, .int .i64 0] 135)) #[] 0 hw.size (by unfold maxLen; omega) (by simp); simpa [OT, tcells] using hq, hw.alloc hw.size _⟩
        | some q =>
          obtain ⟨a, b, c, d⟩ := q
          have HN : Hid (allTx (ps.take (k + 1)) = some (ys ++ [((a : Int), (b : Int), (c : Int), (d : Int))])) := by
            show allTx _ = _
            rw [unhide HT, allTx_more, HA.out, ht]; rfl
          rw [ht] at CT
          clear ht HT HA
          go_wp2_with fail
          refine (unhide CT _).mono ?_
          rintro e w2 ⟨rfl, b2⟩
          obtain ⟨ho, hp, hb⟩ := unhide HB
          have s2 := b2.size
          have ho2 := ot_alloc (ot_alloc (ho.below b2) (.cells #[.int .i64 a, .int .i64 b, .int .i64 c, .int .i64 d] 135)) (.cells #[.int .i64 a, .int .i64 b, .int .i64 c, .int .i64 d] 135)
          have hp2 := os_alloc (os_alloc (hp.below b2) (.cells #[.int .i64 a, .int .i64 b, .int .i64 c, .int .i64 d] 135)) (.cells #[.int .i64 a, .int .i64 b, .int .i64 c, .int .i64 d] 135)
          have hb2 : Below w.heap.size w ((w2.alloc (.cells #[.int .i64 a, .int .i64 b, .int .i64 c, .int .i64 d] 135)).alloc (.cells #[.int .i64 a, .int .i64 b, .int .i64 c, .int .i64 d] 135)) := ((hb.trans (b2.mono hsz)).alloc (by omega) _).alloc (by simp; omega) _
          have hdis := os_ot hp2 ho2
          clear ho hp hb HB b2 hc
          unfold txval
          go_wp2_with (first
            | (at_builtin; refine wpList_append_own _ rfl _ _ 133 rfl w.heap.size 135 i0 (txv 0 0 0 0) 4 32 Tryz.underlying133 hi hz0 hz1 hz2 rfl (by decide) _ _ _ rfl ho2 ⟨w2.heap.size + 1, 0, none⟩ 1 1 (tcell ((a : Int), (b : Int), (c : Int), (d : Int))) rfl rfl (by have := four_cell (w2.alloc (.cells #[.int .i64 a, .int .i64 b, .int .i64 c, .int .i64 d] 135)) ((a : Int), (b : Int), (c : Int), (d : Int)) 135; simpa using this) (four_plain _) (by unfold maxLen; omega) (by omega) (by simp; omega) ?_; intro v' w3 ho' hg' _; have R := ot_more (by simp; omega) ho2 hb2 ho' hg'; have RP : OS w3 w.heap.size (.slice (some ⟨gp, 0, none⟩) ps.length pc) ps := World.ownsRow.kept hp2 hg' hdis; clear ho2 ho' hg' hb2 hp2 hdis))
          go_roundw
          case rel => exact ⟨k + 1, _, by omega, by go_num, by simp [hyl], HN, R.1, RP, R.2⟩
          case measure => simp [intOf]; omega
      · have hkn : k = ps.length := by omega
        have HN : Hid (allTx ps = some ys) := by
          have := HA.out
          rw [hkn, List.take_of_length_le (Nat.le_refl _)] at this
          exact this
        have HO := hide ho
        clear ho hp HA
        go_wp2
        go_ret2
        exact ⟨_, by rw [HN.out]; rfl, by rw [HN.out]; exact unhide HO, hb⟩
end Go.Proofs.YtehdchpolgihlaaGreatDoor

/- spec.Steps. -/
namespace Go.Proofs.YtehdchpolgihlaaGreatDoor
open Go.RowKit
set_option linter.unusedSectionVars false
variable [∀ (a b c d : Int), Decidable (Ok4 a b c d)]
variable [∀ (a b c d : Nat), Decidable (okN a b c d)]
variable [∀ (last : Int) (s : St), Decidable (GoodSt last s)]

/-- Two rows of different types lie in two blocks. -/
theorem own_types {w : World} {B B' n n' s s' : Nat} {e e' : TypeId} {v u : Value} {xs ys : List Value} (h : w.ownsRow B e s v n xs) (h' : w.ownsRow B' e' s' u n' ys) (he : e ≠ e') : v.ownBlock = none ∨ v.ownBlock ≠ u.ownBlock := by
  rcases h.2 with ⟨rfl, _⟩ | ⟨g, cap, cur, rfl, _, hg, _⟩
  · exact .inl rfl
  · rcases h'.2 with ⟨rfl, _⟩ | ⟨g', cap', cur', rfl, _, hg', _⟩
    · exact .inr (by simp [Value.ownBlock])
    · refine .inr fun e2 => ?_
      simp [Value.ownBlock] at e2
      rw [e2, hg'] at hg
      simp at hg
      exact he hg.2.symm
/-- A row from behind block B does not lie in block B. -/
theorem none_apart {w : World} {B n s : Nat} {e : TypeId} {v : Value} {xs : List Value} {c : Nat} (h : w.ownsRow (B + 1) e s v n xs) : (Value.slice (some ⟨B, 0, none⟩) 0 c).ownBlock = none ∨ (Value.slice (some ⟨B, 0, none⟩) 0 c).ownBlock ≠ v.ownBlock := .inr fun e => by
  have := (World.ownsRow.lt h B (by rw [← e]; rfl)).1
  omega
theorem row_lower {w : World} {B B' n s : Nat} {e : TypeId} {v : Value} {xs : List Value} (h : w.ownsRow B e s v n xs) (hb : B' ≤ B) : w.ownsRow B' e s v n xs := by
  refine ⟨h.1, ?_⟩
  rcases h.2 with h | ⟨g, cap, cur, h1, h2, h3⟩
  · exact .inl h
  · exact .inr ⟨g, cap, cur, h1, by omega, h3⟩
theorem two_plain (n : Int) (a : Option Addr) (l c : Nat) : ∀ u ∈ scell (n, .slice a l c), u.oneCell' = true := by
  intro u hu
  simp [scell] at hu
  rcases hu with rfl | rfl <;> rfl
theorem two_cell (w : World) (p : Int × Value) (t : TypeId) (j : Nat) (u : Value) (h : (scell p)[j]? = some u) : (w.alloc (.cells #[.int .i64 p.1, p.2] t)).cell? ((⟨w.heap.size, 0, none⟩ : Addr).add j) = some u := by
  match j, h with
  | 0, h => simp [scell] at h; subst h; simp [Addr.add]
  | 1, h => simp [scell] at h; subst h; simp [Addr.add]
  | j + 2, h => simp [scell] at h
/-- A step's text: what l2Cut, Number and TxsOf tell of it. -/
theorem stepOf_cut (p : ByteArray) : stepOf p = if (cutS 124 p.data.toList).2.2 = true ∧ (numOf (cutS 124 p.data.toList).1).isSome = true ∧ (txsAns (toB (cutS 124 p.data.toList).2.1)).isSome = true then some (nans (numOf (cutS 124 p.data.toList).1), (txsAns (toB (cutS 124 p.data.toList).2.1)).getD []) else none := by
  unfold stepOf cutS
  by_cases hm : (124 : UInt8) ∈ p.data.toList
  · rw [if_pos hm, if_pos hm]
    cases hn : numOf (hd 124 p.data.toList) with
    | none => simp
    | some n =>
      cases ht : txsAns (toB (tl 124 p.data.toList)) with
      | none => simp
      | some ts => simp [nans]
  · rw [if_neg hm, if_neg hm]; simp
theorem tail_get (ps : List ByteArray) (k : Nat) (h : k + 1 < ps.length) : ps.tail.take (k + 1) = ps.tail.take k ++ [ps.getD (k + 1) ByteArray.empty] := by
  cases ps with
  | nil => simp at h
  | cons p ps =>
    simp only [List.tail_cons]
    simp at h
    rw [List.take_succ_eq_append_getElem h]
    simp [List.getD_eq_getElem?_getD, List.getElem?_eq_getElem h]

set_option maxHeartbeats 8000000 in
set_option maxRecDepth 100000 in
theorem specSteps (s : ByteArray) (w : World) (hs : s.size ≤ 33554432) :
    Calls Tryz.prog 120 #[.string s] w fun e w' => ∃ v, e = .returned (.tuple #[v, .bool (stepsAns s).isSome]) ∧ OSt w' w.heap.size v ((stepsAns s).getD []) ∧ Below w.heap.size w w' := by
  obtain ⟨i0, hi, hz0, hz1, hz2⟩ := info_parts Tryz.infoSt
  obtain ⟨w0, hw0⟩ : ∃ w0, (w.alloc (.cells #[] 144)).alloc (.cells #[] 144) = w0 := ⟨_, rfl⟩
  have z0 : w0.heap.size = w.heap.size + 1 + 1 := by rw [← hw0]; simp
  have B0 : Below w.heap.size w w0 := hw0 ▸ ((Below.refl _ _).alloc (Nat.le_refl _) _).alloc (by simp) _
  have R1 : (w.alloc (.cells #[] 144)).ownsRow w.heap.size 144 2 (.slice (some ⟨w.heap.size, 0, none⟩) 0 0) 0 [] := World.ownsRow_lit w #[] 0 (Nat.le_refl _) (by unfold maxLen; omega) rfl
  have N0 : w0.ownsRow w.heap.size 144 2 (.slice (some ⟨w.heap.size, 0, none⟩) 0 0) 0 [] := hw0 ▸ R1.alloc _
  have O0 : w0.ownsRow (w.heap.size + 1) 144 2 (.slice (some ⟨w.heap.size + 1, 0, none⟩) 0 0) 0 [] := by
    have := World.ownsRow_lit (base := w.heap.size + 1) (e := 144) (size := 2) (w.alloc (.cells #[] 144)) #[] 0 (by simp) (by unfold maxLen; omega) rfl
    rw [hw0] at this
    have e : (w.alloc (.cells #[] 144)).heap.size = w.heap.size + 1 := by simp
    rw [e] at this
    exact this
  clear R1
  unfold stepsAns
  by_cases hz : s = ⟨#[]⟩
  · rw [if_pos hz]
    subst hz
    go_enter Tryz.func120, Tryz.ntmps120
    go_wp2
    go_ret2
    refine ⟨_, rfl, ⟨[], rfl, ?_, fun k hk => by simp at hk, fun i j _ hj => by simp at hj⟩, B0⟩
    refine ⟨O0.1, ?_⟩
    rcases O0.2 with h | ⟨g, cap, cur, h1, h2, h3⟩
    · exact .inl h
    · exact .inr ⟨g, cap, cur, h1, by omega, h3⟩
  · rw [if_neg hz]
    have hne := str_ne hz
    have hne2 : (s.toList == []) = false := by
      rw [beq_eq_false_iff_ne]; intro e; apply hz; apply ByteArray.ext; apply Array.toList_inj.1; rw [ByteArray.toList_eq] at e; exact e
    have SP := hide fun w => specSplit_any s 47 w hs
    have hpn : 0 < (splitAns s 47).length := by simp [splitAns]
    have hpz : Hid (∀ p ∈ splitAns s 47, p.size ≤ 33554432) := fun p hp => Nat.le_trans (split_size s 47 p hp) hs
    have hpl := splitAns_len s 47
    have NONE : Hid (∀ w', Below w.heap.size w w' → w'.ownsRow w.heap.size 144 2 (.slice (some ⟨w.heap.size, 0, none⟩) 0 0) 0 [] → OSt w' w.heap.size (.slice (some ⟨w.heap.size, 0, none⟩) 0 0) []) := hide fun w' _ h => ⟨[], rfl, h, fun k hk => by simp at hk, fun i j _ hj => by simp at hj⟩
    generalize splitAns s 47 = ps at *
    generalize hA : (if ps.getD 0 ByteArray.empty = ⟨#[]⟩ ∧ ps.length ≤ 31 then (stepsRun ps.tail).map (·.2) else none) = A
    have HA := hide hA
    clear hz hA
    go_enter Tryz.func120, Tryz.ntmps120
    go_wp2_with fail
    clear hw0
    refine (unhide SP _).mono ?_
    rintro e w1 ⟨vp, rfl, op, b1⟩
    have s1 := b1.size
    have B1 := B0.trans (b1.mono B0.size)
    have k1 : w0.grownBy w1 none := ⟨b1.os, b1.tape, b1.output, b1.size, fun k hk _ => b1.block k hk⟩
    have N1 := N0.kept k1 (by simp [Value.ownBlock])
    have O1 := O0.kept k1 (by simp [Value.ownBlock])
    rcases op.2 with ⟨_, h0⟩ | ⟨gp, pc, pcur, rfl, _⟩
    · omega
    have c0 := os_cell op rfl 0 hpn
    have OP := hide op
    have N1 := hide N1
    clear op SP k1 b1 N0 O0 B0
    by_cases h0 : ps.getD 0 ByteArray.empty = ⟨#[]⟩
    · rw [h0] at c0
      by_cases h31 : ps.length ≤ 31
      · have E : Hid (A = (stepsRun ps.tail).map (·.2)) := hide ((unhide HA).symm.trans (if_pos ⟨h0, h31⟩))
        have h31' : decide ((31 : Int) < (ps.length : Int)) = false := by simp; omega
        go_wp2
        clear c0
        go_loopw [5, 7, 8] (fun out last i wr => ∃ (k : Nat) (l : Int) (ss : List St) (vs : List Value), k + 1 ≤ ps.length ∧ i = .int .i64 ((k + 1 : Nat) : Int) ∧ last = .int .i64 l ∧ Hid (stepsRun (ps.tail.take k) = some (l, ss)) ∧ ss.length = k ∧ OStV wr (w.heap.size + 1) out ss vs ∧ OS wr w0.heap.size (.slice (some ⟨gp, 0, none⟩) ps.length pc) ps ∧ wr.ownsRow w.heap.size 144 2 (.slice (some ⟨w.heap.size, 0, none⟩) 0 0) 0 [] ∧ Below w.heap.size w wr ∧ w.heap.size + 1 ≤ wr.heap.size) (fun _ _ i _ => ps.length - (intOf i).toNat)
        case atStart => exact ⟨0, 0, [], [], by omega, by go_num, rfl, hide (by rw [List.take_zero]; rfl), rfl, ⟨rfl, O1, fun k hk => by simp at hk, fun i j _ hj => by simp at hj⟩, unhide OP, unhide N1, B1, by omega⟩
        case round =>
          clear O1 N1 OP B1
          obtain ⟨k, l, ss, vs, hk, rfl, rfl, HR, hsl, ost, hp, nr, br, sz⟩ := hrel
          subst hsl
          obtain ⟨oa, oc, rfl⟩ := OSt.form ⟨vs, ost⟩
          have RO1 := (stepsRun_ok _ _ (unhide HR)).2.1
          by_cases hlt : ss.length + 1 < ps.length
          · have hc := os_cell hp rfl (ss.length + 1) hlt
            have hm := unhide hpz _ (getD_mem hlt)
            have HT := hide (tail_get ps ss.length hlt)
            have HC := hide (stepOf_cut (ps.getD (ss.length + 1) ByteArray.empty))
            have CUT := hide fun w => l2Cut_any 124 124 rfl (ps.getD (ss.length + 1) ByteArray.empty) w hm
            generalize ps.getD (ss.length + 1) ByteArray.empty = p at *
            have hc1 : (cutS 124 p.data.toList).1.length ≤ 33554432 ∧ (cutS 124 p.data.toList).2.1.length ≤ 33554432 := by
              have h1 := cutS_len 124 p.data.toList
              have h2 : p.data.toList.length = p.size := by simp
              omega
            obtain ⟨c, hcc⟩ : ∃ c, cutS 124 p.data.toList = c := ⟨_, rfl⟩
            rw [hcc] at CUT HC hc1
            clear hcc
            have NU := hide fun w => specNumber_any (toB c.1) w (by rw [toB_size]; unfold maxLen; omega)
            have TX := hide fun w => specTxsOf (toB c.2.1) w (by rw [toB_size]; omega)
            rw [toB_list] at NU
            obtain ⟨cn, hcn⟩ : ∃ x, numOf c.1 = x := ⟨_, rfl⟩
            obtain ⟨ct, hct⟩ : ∃ x, txsAns (toB c.2.1) = x := ⟨_, rfl⟩
            rw [hcn] at NU HC
            rw [hct] at TX HC
            have hn0 : 0 ≤ nans cn ∧ nans cn ≤ 999999 := by
              cases cn with
              | none => simp [nans]
              | some m => have := numOf_some hcn; simp [nans]; omega
            clear hcn hct
            obtain ⟨n, hn⟩ : ∃ n, nans cn = n := ⟨_, rfl⟩
            obtain ⟨bn, hbn⟩ : ∃ b, cn.isSome = b := ⟨_, rfl⟩
            obtain ⟨bt, hbt⟩ : ∃ b, ct.isSome = b := ⟨_, rfl⟩
            obtain ⟨ts, hts⟩ : ∃ b, ct.getD [] = b := ⟨_, rfl⟩
            rw [hn] at NU HC hn0
            rw [hbn] at NU HC
            rw [hbt] at TX HC
            rw [hts] at TX HC
            clear hn hbn hbt hts
            have OST := hide ost
            have NR := hide nr
            have HP := hide hp
            clear ost nr hp
            go_wp2_with fail
            refine (unhide CUT _).mono ?_
            rintro _ w2 ⟨rfl, b2⟩
            go_wp2_with fail
            refine (unhide NU _).mono ?_
            rintro _ w3 ⟨rfl, b3⟩
            have b23 : Below wr.heap.size wr w3 := b2.trans (b3.mono b2.size)
            go_wp2_with fail
            refine (unhide TX _).mono ?_
            rintro _ w4 ⟨vt, rfl, ot, b4⟩
            have b24 : Below wr.heap.size wr w4 := b23.trans (b4.mono b23.size)
            have B4 := br.trans (b24.mono br.size)
            have s24 := b24.size
            have s23 := b23.size
            have ost4 := (unhide OST).below b24
            have k24 : wr.grownBy w4 none := ⟨b24.os, b24.tape, b24.output, b24.size, fun k hk _ => b24.block k hk⟩
            have nr4 := World.ownsRow.kept (unhide NR) k24 (by simp [Value.ownBlock])
            have hp4 := (unhide HP).below b24
            obtain ⟨ta, tc, rfl⟩ : ∃ ta tc, vt = .slice ta ts.length tc := by
              rcases ot.2 with ⟨rfl, h0⟩ | ⟨g, cap, cur, rfl, _⟩
              · exact ⟨none, 0, by rw [h0]⟩
              · exact ⟨_, _, rfl⟩
            clear CUT NU TX b2 b3 b4
            have RN : Hid (stepOf p = none → stepsRun ps.tail = none) := hide fun h => stepsRun_none (ss.length + 1) (by rw [unhide HT, stepsRun_more, unhide HR]; unfold stepAcc; rw [h]; rfl)
            obtain ⟨c1, c2, cb⟩ := c
            cases cb with
            | false =>
              have F := hide ((unhide RN) (by rw [unhide HC, if_neg (by simp)]))
              go_wp2
              go_ret2
              rw [unhide E, unhide F]
              exact ⟨_, rfl, unhide NONE _ B4 nr4, B4⟩
            | true =>
            cases bn with
            | false =>
              have F := hide ((unhide RN) (by rw [unhide HC, if_neg (by simp)]))
              go_wp2
              go_ret2
              rw [unhide E, unhide F]
              exact ⟨_, rfl, unhide NONE _ B4 nr4, B4⟩
            | true =>
            cases bt with
            | false =>
              have F := hide ((unhide RN) (by rw [unhide HC, if_neg (by simp)]))
              go_wp2
              go_ret2
              rw [unhide E, unhide F]
              exact ⟨_, rfl, unhide NONE _ B4 nr4, B4⟩
            | true =>
            have HS : Hid (stepOf p = some (n, ts)) := hide (by rw [unhide HC, if_pos (by simp)])
            have RG : Hid (¬ GoodSt l (n, ts) → stepsRun ps.tail = none) := hide fun h => stepsRun_none (ss.length + 1) (by rw [unhide HT, stepsRun_more, unhide HR]; unfold stepAcc; rw [unhide HS]; exact if_neg h)
            clear RN HC
            by_cases g1 : n ≤ l
            · have F := hide ((unhide RG) fun h => by have := h.1; simp only at this; omega)
              have g1' : decide (n ≤ l) = true := by simp; omega
              go_wp2
              go_ret2
              rw [unhide E, unhide F]
              exact ⟨_, rfl, unhide NONE _ B4 nr4, B4⟩
            have g1' : decide (n ≤ l) = false := by simp; omega
            by_cases g2 : 60 < n
            · have F := hide ((unhide RG) fun h => by have := h.2.1; simp only at this; omega)
              have g2' : decide (60 < n) = true := by simp; omega
              go_wp2
              go_ret2
              rw [unhide E, unhide F]
              exact ⟨_, rfl, unhide NONE _ B4 nr4, B4⟩
            have g2' : decide (60 < n) = false := by simp; omega
            by_cases g3 : 2 < ts.length
            · have F := hide ((unhide RG) fun h => by have := h.2.2; simp only at this; omega)
              have g3' : decide ((2 : Int) < (ts.length : Int)) = true := by simp; omega
              go_wp2
              go_ret2
              rw [unhide E, unhide F]
              exact ⟨_, rfl, unhide NONE _ B4 nr4, B4⟩
            have g3' : decide ((2 : Int) < (ts.length : Int)) = false := by simp; omega
            have HN : Hid (stepsRun (ps.tail.take (ss.length + 1)) = some (n, ss ++ [(n, ts)])) := hide (by
              rw [unhide HT, stepsRun_more, unhide HR]; unfold stepAcc; rw [unhide HS]
              exact if_pos ⟨by omega, by omega, by show ts.length ≤ 2; omega⟩)
            have bX : Below w4.heap.size w4 (w4.alloc (.cells #[.int .i64 n, .slice ta ts.length tc] 144)) := (Below.refl _ _).alloc (Nat.le_refl _) _
            have ostX := ost4.below bX
            have otX := ot.below bX
            have hpX := hp4.below bX
            have nrX := World.ownsRow.alloc nr4 (.cells #[.int .i64 n, .slice ta ts.length tc] 144)
            have BX := B4.trans (bX.mono B4.size)
            have hN : ∀ k, k < ss.length → ∀ b, (vs.getD k (.slice none 0 0)).ownBlock = some b → b < w3.heap.size := fun k hk b hb => by
              have := (World.ownsRow.lt ((unhide OST).each k hk) b hb).2; omega
            have hl31 : ss.length ≤ 31 := by omega
            clear RG ost4 ot hp4 nr4 B4
            go_wp2_with (first
              | (at_builtin; refine wpList_append_own _ rfl _ _ 140 rfl (w.heap.size + 1) 144 i0 (.agg #[.int .i64 0, .slice none 0 0]) 2 32 Tryz.underlying140 hi hz0 hz1 hz2 rfl (by decide) _ _ _ rfl ostX.row ⟨w4.heap.size, 0, none⟩ 1 1 (scell (n, .slice ta ts.length tc)) rfl rfl (two_cell w4 (n, .slice ta ts.length tc) 144) (two_plain _ _ _ _) (by unfold maxLen; omega) (by omega) (by simp; omega) ?_; intro v' w5 ho' hg' _; have R := ost_more ostX otX hN (by omega) ho' hg'; have RP := World.ownsRow.kept hpX hg' (own_types hpX ostX.row (by decide)); have RN := World.ownsRow.kept nrX hg' (none_apart ostX.row); have RB := BX.grown hg' BX.size (fun k hk => by have := (World.ownsRow.lt ostX.row k hk).1; omega); have SZ : w4.heap.size ≤ w5.heap.size := (by have := hg'.size; simp at this; omega); clear ho' hg' ostX otX hpX nrX BX bX))
            go_roundw
            case rel => exact ⟨ss.length + 1, n, _, _, by omega, by go_num, rfl, HN, by simp, R, RP, RN, RB, by omega⟩
            case measure => simp [intOf]; omega
          · have hk2 : ps.tail.take ss.length = ps.tail := List.take_of_length_le (by simp; omega)
            rw [hk2] at HR
            have hlt' : decide (((ss.length + 1 : Nat) : Int) < (ps.length : Int)) = false := by simp; omega
            go_wp2
            go_ret2
            rw [unhide E, unhide HR]
            refine ⟨_, rfl, ⟨vs, ost.len, ?_, fun k hk => ?_, ost.apart⟩, br⟩
            · exact row_lower ost.row (by omega)
            · exact row_lower (ost.each k hk) (by omega)
      · have E : A = none := (unhide HA).symm.trans (if_neg fun h => h31 h.2)
        have h31' : decide ((31 : Int) < (ps.length : Int)) = true := by simp; omega
        go_wp2
        go_ret2
        rw [E]
        exact ⟨_, rfl, unhide NONE _ B1 (unhide N1), B1⟩
    · have E : A = none := (unhide HA).symm.trans (if_neg fun h => h0 h.1)
      have hn0 := str_ne h0
      have hn1 : ((ps.getD 0 ByteArray.empty).toList = []) = False := eq_false fun e => h0 (by apply ByteArray.ext; apply Array.toList_inj.1; rw [ByteArray.toList_eq] at e; exact e)
      generalize ps.getD 0 ByteArray.empty = p0 at *
      go_wp2
      go_ret2
      rw [E]
      exact ⟨_, rfl, unhide NONE _ B1 (unhide N1), B1⟩
end Go.Proofs.YtehdchpolgihlaaGreatDoor

/- The plain mathematics of GetNum. Nothing of the program. -/
namespace Go.Proofs.YtehdchpolgihlaaGreatDoor

/-- The number that begins at 'at', of which i bytes, worth n, are read already; at most f bytes more. -/
def getF (xs : List Int) : Nat → Nat → Nat → Int → Option (Int × Int)
  | 0, _, _, _ => none
  | f + 1, i, p, n =>
    if p < xs.length then
      (if 128 ≤ xs.getD p 0 then getF xs f (i + 1) (p + 1) (n + xs.getD p 0 % 128 * 128 ^ i)
       else if 2147483647 < n + xs.getD p 0 % 128 * 128 ^ i ∨ (xs.getD p 0 = 0 ∧ 0 < i) then none
       else some (n + xs.getD p 0 % 128 * 128 ^ i, (p : Int) + 1))
    else none
/-- What GetNum reads at 'p': the number and the place behind it. -/
def getNum (xs : List Int) (p : Int) : Option (Int × Int) := if p < 0 then none else getF xs 5 0 p.toNat 0

theorem getF_out (xs : List Int) (f i p : Nat) (n : Int) (h : ¬ p < xs.length) : getF xs f i p n = none := by cases f <;> simp [getF, h]
theorem getF_more (xs : List Int) (f i p : Nat) (n : Int) (h : p < xs.length) (hd : 128 ≤ xs.getD p 0) : getF xs (f + 1) i p n = getF xs f (i + 1) (p + 1) (n + xs.getD p 0 % 128 * 128 ^ i) := by
  rw [getF, if_pos h, if_pos hd]
theorem getF_bad (xs : List Int) (f i p : Nat) (n : Int) (h : p < xs.length) (hd : ¬ 128 ≤ xs.getD p 0) (hb : 2147483647 < n + xs.getD p 0 % 128 * 128 ^ i ∨ (xs.getD p 0 = 0 ∧ 0 < i)) : getF xs (f + 1) i p n = none := by
  rw [getF, if_pos h, if_neg hd, if_pos hb]
theorem getF_end (xs : List Int) (f i p : Nat) (n : Int) (h : p < xs.length) (hd : ¬ 128 ≤ xs.getD p 0) (hb : ¬ (2147483647 < n + xs.getD p 0 % 128 * 128 ^ i ∨ (xs.getD p 0 = 0 ∧ 0 < i))) : getF xs (f + 1) i p n = some (n + xs.getD p 0 % 128 * 128 ^ i, (p : Int) + 1) := by
  rw [getF, if_pos h, if_neg hd, if_neg hb]
theorem getF_step {xs : List Int} {f i q : Nat} {n d c : Int} {r : Option (Int × Int)} (hc : (128 : Int) ^ i = c) (hr : r = getF xs (f + 1) i q n) (hq : q < xs.length) (hd : xs.getD q 0 = d) (h1 : 128 ≤ d) : r = getF xs f (i + 1) (q + 1) (n + d % 128 * c) := by
  subst hc; subst hd; rw [hr]; exact getF_more xs f i q n hq h1
theorem getF_no {xs : List Int} {f i q : Nat} {n d c : Int} {r : Option (Int × Int)} (hc : (128 : Int) ^ i = c) (hr : r = getF xs (f + 1) i q n) (hq : q < xs.length) (hd : xs.getD q 0 = d) (h1 : ¬ 128 ≤ d) (hb : 2147483647 < n + d % 128 * c ∨ (d = 0 ∧ 0 < i)) : r = none := by
  subst hc; subst hd; rw [hr]; exact getF_bad xs f i q n hq h1 hb
theorem getF_yes {xs : List Int} {f i q : Nat} {n d c : Int} {r : Option (Int × Int)} (hc : (128 : Int) ^ i = c) (hr : r = getF xs (f + 1) i q n) (hq : q < xs.length) (hd : xs.getD q 0 = d) (h1 : ¬ 128 ≤ d) (hb : ¬ (2147483647 < n + d % 128 * c ∨ (d = 0 ∧ 0 < i))) : r = some (n + d % 128 * c, (q : Int) + 1) := by
  subst hc; subst hd; rw [hr]; exact getF_end xs f i q n hq h1 hb
theorem getNum_neg (xs : List Int) (p : Int) (h : p < 0) : getNum xs p = none := by simp [getNum, h]
theorem getNum_nat (xs : List Int) (p : Nat) : getNum xs p = getF xs 5 0 p 0 := by rw [getNum, if_neg (by omega), Int.toNat_natCast]
theorem or_mul (a b i m : Nat) (hm : m = 2 ^ i) (h : a < m) : a ||| (b * m) = b * m + a := by
  subst hm
  rw [Nat.or_comm, ← Nat.shiftLeft_eq, Nat.shiftLeft_add_eq_or_of_lt h]
theorem i64_or_nat (a b : Nat) (ha : a < 9223372036854775808) (hb : b < 9223372036854775808) : bits .or .i64 (a : Int) (b : Int) = ((a ||| b : Nat) : Int) := by
  have hx : a ||| b < 2 ^ 63 := Nat.or_lt_two_pow (by omega) (by omega)
  show IntKind.i64.wrap ((BitVec.ofInt 64 (a : Int) ||| BitVec.ofInt 64 (b : Int)).toNat : Int) = _
  rw [BitVec.toNat_or, ofInt_u64 a (by omega), ofInt_u64 b (by omega), IntKind.wrap_i64]
  omega
theorem or_sum (n d : Int) (m i : Nat) (hm : m = 2 ^ i) (hs : m ≤ 268435456) (a0 : 0 ≤ n) (b0 : n < m) (a1 : 0 ≤ d) (b1 : d < 128) : bits BinOp.or IntKind.i64 n (d * (m : Int)) = n + d * (m : Int) := by
  obtain ⟨a, rfl⟩ := Int.eq_ofNat_of_zero_le a0
  obtain ⟨b, rfl⟩ := Int.eq_ofNat_of_zero_le a1
  have hbm : b * m ≤ 127 * 268435456 := Nat.mul_le_mul (by omega) hs
  rw [← Int.natCast_mul, i64_or_nat a (b * m) (by omega) (by omega), or_mul a b i m hm (by omega)]
  rw [Int.natCast_add, Int.add_comm]
end Go.Proofs.YtehdchpolgihlaaGreatDoor

/- impl.readByte and impl.readNum: they answer, or panic with errNoNumber. -/
namespace Go.Proofs.YtehdchpolgihlaaGreatDoor
open Go.RowKit

/-- What is read of bytes: each from 0 to 255. -/
def Bytes (xs : List Int) : Prop := ∀ k, k < xs.length → 0 ≤ xs.getD k 0 ∧ xs.getD k 0 ≤ 255

/-- What readNum ends in. -/
def ReadEnd (r : Option (Int × Int)) (pn : List PanicEntry) (e : Ending) : Prop :=
  (∃ n q, r = some (n, q) ∧ e = .returned (.tuple #[.int .i64 n, .int .i64 q])) ∨ (r = none ∧ e = .panicked pn)

end Go.Proofs.YtehdchpolgihlaaGreatDoor

/- impl.GetNum: what it answers. -/
namespace Go.Proofs.YtehdchpolgihlaaGreatDoor
open Go.RowKit

theorem alloc_new (w : World) (x : Value) (t : TypeId) : (w.alloc (.cells #[x] t)).cell? ⟨w.heap.size, 0, none⟩ = some x := by simp
theorem alloc_free (w : World) (x : Value) (t : TypeId) : (w.alloc (.cells #[x] t)).frozen? ⟨w.heap.size, 0, none⟩ = false := by simp [go_sem]
/-- The four variables that GetNum's closure captures, laid. -/
abbrev boxes (w : World) (v : Value) (p : Int) : World := (((w.alloc (.cells #[v] 22)).alloc (.cells #[.int .i64 p] 3)).alloc (.cells #[.int .i64 0] 3)).alloc (.cells #[.int .i64 0] 3)
theorem boxes_below (w : World) (v : Value) (p : Int) : Below w.heap.size w (boxes w v p) :=
  ((((Below.refl _ _).alloc (Nat.le_refl _) _).alloc (by simp) _).alloc (by simp; omega) _).alloc (by simp; omega) _
theorem boxes_size (w : World) (v : Value) (p : Int) : (boxes w v p).heap.size = w.heap.size + 4 := by simp
theorem boxes_ok (w : World) (v : Value) (p : Int) (o : Obj) :
    ((boxes w v p).alloc o).cell? ⟨w.heap.size, 0, none⟩ = some v ∧ ((boxes w v p).alloc o).cell? ⟨w.heap.size + 1, 0, none⟩ = some (.int .i64 p) ∧ ((boxes w v p).alloc o).cell? ⟨w.heap.size + 2, 0, none⟩ = some (.int .i64 0) ∧ ((boxes w v p).alloc o).cell? ⟨w.heap.size + 3, 0, none⟩ = some (.int .i64 0) ∧
    ((boxes w v p).alloc o).frozen? ⟨w.heap.size + 2, 0, none⟩ = false ∧ ((boxes w v p).alloc o).frozen? ⟨w.heap.size + 3, 0, none⟩ = false := by
  simp [boxes, go_sem]

/-- What GetNum answers, in three words. -/
def ans1 (r : Option (Int × Int)) : Int := match r with | some x => x.1 | none => 0
def ans2 (r : Option (Int × Int)) : Int := match r with | some x => x.2 | none => 0
end Go.Proofs.YtehdchpolgihlaaGreatDoor

/- impl.readText and spec.GetText. -/
namespace Go.Proofs.YtehdchpolgihlaaGreatDoor
open Go.RowKit

theorem getF_bd (xs : List Int) (hb : Bytes xs) (f i p : Nat) (n : Int) (h0 : 0 ≤ n) (m q : Int) (h : getF xs f i p n = some (m, q)) : 0 ≤ m ∧ m ≤ 2147483647 ∧ (p : Int) < q ∧ q ≤ xs.length := by
  induction f generalizing i p n with
  | zero => simp [getF] at h
  | succ f ih =>
    by_cases hp : p < xs.length
    · have hx := hb p hp
      have h128 : (0 : Int) ≤ 128 ^ i := Int.pow_nonneg (by omega)
      have hmul : 0 ≤ xs.getD p 0 % 128 * 128 ^ i := Int.mul_nonneg (by omega) h128
      by_cases hd : 128 ≤ xs.getD p 0
      · rw [getF_more xs f i p n hp hd] at h
        have := ih (i + 1) (p + 1) _ (by omega) h
        omega
      · by_cases hbad : 2147483647 < n + xs.getD p 0 % 128 * 128 ^ i ∨ (xs.getD p 0 = 0 ∧ 0 < i)
        · rw [getF_bad xs f i p n hp hd hbad] at h; cases h
        · rw [getF_end xs f i p n hp hd hbad] at h
          simp only [Option.some.injEq, Prod.mk.injEq] at h
          omega
    · rw [getF_out xs _ i p n hp] at h; cases h
theorem getNum_bd (xs : List Int) (hb : Bytes xs) (p m q : Int) (h : getNum xs p = some (m, q)) : 0 ≤ m ∧ m ≤ 2147483647 ∧ 0 < q ∧ q ≤ xs.length := by
  by_cases hp : p < 0
  · rw [getNum_neg xs p hp] at h; cases h
  · rw [getNum, if_neg hp] at h
    have := getF_bd xs hb 5 0 p.toNat 0 (by omega) m q h
    omega

/-- The text that stands at q, n bytes long. -/
def textAt (xs : List Int) (q n : Nat) : ByteArray := strOfNums ((xs.drop q).take n)
theorem win_cells {w : World} {b off q n : Nat} {xs : List Int} (h : ∀ k, k < xs.length → w.cell? ⟨b, off + k, none⟩ = some (.int .u8 (xs.getD k 0))) (hq : q + n ≤ xs.length) :
    ∀ i, i < n → w.cell? ⟨b, off + q + i, none⟩ = some (.int .u8 (((xs.drop q).take n).getD i 0)) := by
  intro i hi
  rw [Nat.add_assoc, h (q + i) (by omega)]
  simp [List.getD_eq_getElem?_getD, List.getElem?_drop, hi]
theorem win_len (xs : List Int) (q n : Nat) (hq : q + n ≤ xs.length) : ((xs.drop q).take n).length = n := by simp; omega

/-- What GetText reads: the text and the place behind it. -/
def getText (xs : List Int) (p : Int) : Option (ByteArray × Int) :=
  match getNum xs p with
  | some (n, q) => if n ≤ (xs.length : Int) - q then some (textAt xs q.toNat n.toNat, q + n) else none
  | none => none

end Go.Proofs.YtehdchpolgihlaaGreatDoor

/- What is put is got, what is got was put: plain mathematics of numbers and texts as bytes. -/
namespace Go.Proofs.YtehdchpolgihlaaGreatDoor

/-- A number that is put is got where it stands. -/
theorem getF_put (pre post : List Int) (f m i : Nat) (n : Int) (h0 : 0 ≤ n) (hm : m < 128 ^ (f + 1)) (hi : 0 < i → 0 < m) (hle : n + (m : Int) * 128 ^ i ≤ 2147483647) :
    getF (pre ++ put f m ++ post) (f + 1) i pre.length n = some (n + (m : Int) * 128 ^ i, (pre.length : Int) + (put f m).length) := by
  induction f generalizing pre m i n with
  | zero =>
    have hm' : m ≤ 127 := by simp at hm; omega
    have hp : pre.length < (pre ++ put 0 m ++ post).length := by simp [put]
    have hd : (pre ++ put 0 m ++ post).getD pre.length 0 = (m : Int) := by simp [put]
    have hmod : (m : Int) % 128 = m := by omega
    rw [getF_end _ 0 i pre.length n hp (by rw [hd]; omega) (by rw [hd, hmod]; omega), hd, hmod]
    simp [put]
  | succ f ih =>
    by_cases hs : m ≤ 127
    · have hpt : put (f + 1) m = [(m : Int)] := put_small (f + 1) m hs
      rw [hpt]
      have hp : pre.length < (pre ++ [(m : Int)] ++ post).length := by simp
      have hd : (pre ++ [(m : Int)] ++ post).getD pre.length 0 = (m : Int) := by simp
      have hmod : (m : Int) % 128 = m := by omega
      rw [getF_end _ (f + 1) i pre.length n hp (by rw [hd]; omega) (by rw [hd, hmod]; omega), hd, hmod]
      simp
    · have hpt : put (f + 1) m = ((m : Int) % 128 + 128) :: put f (m / 128) := put_great f m (by omega)
      rw [hpt]
      have hp : pre.length < (pre ++ (((m : Int) % 128 + 128) :: put f (m / 128)) ++ post).length := by simp
      have hd : (pre ++ (((m : Int) % 128 + 128) :: put f (m / 128)) ++ post).getD pre.length 0 = (m : Int) % 128 + 128 := by simp
      have hmod : ((m : Int) % 128 + 128) % 128 = (m : Int) % 128 := by omega
      rw [getF_more _ (f + 1) i pre.length n hp (by rw [hd]; omega), hd, hmod]
      have hl : pre ++ (((m : Int) % 128 + 128) :: put f (m / 128)) ++ post = (pre ++ [(m : Int) % 128 + 128]) ++ put f (m / 128) ++ post := by simp
      have hpow : (128 : Int) ^ (i + 1) = 128 ^ i * 128 := Int.pow_succ 128 i
      have h128 : (0 : Int) ≤ 128 ^ i := Int.pow_nonneg (by omega)
      have hval : n + (m : Int) % 128 * 128 ^ i + ((m / 128 : Nat) : Int) * 128 ^ (i + 1) = n + (m : Int) * 128 ^ i := by
        rw [hpow]
        have hdm : (m : Int) = (m : Int) % 128 + 128 * ((m / 128 : Nat) : Int) := by omega
        have : (m : Int) * 128 ^ i = ((m : Int) % 128 + 128 * ((m / 128 : Nat) : Int)) * 128 ^ i := by rw [← hdm]
        rw [this, Int.add_mul, Int.mul_comm (128 ^ i) 128, ← Int.mul_assoc, Int.mul_comm ((m / 128 : Nat) : Int) 128]
        omega
      have hge : 0 ≤ (m : Int) % 128 * 128 ^ i := Int.mul_nonneg (by omega) h128
      have := ih (pre ++ [(m : Int) % 128 + 128]) (m / 128) (i + 1) (n + (m : Int) % 128 * 128 ^ i) (by omega) (by rw [Nat.pow_succ] at hm; exact Nat.div_lt_of_lt_mul (by rw [Nat.mul_comm]; exact hm)) (by omega) (by rw [hval]; exact hle)
      rw [hl]
      rw [show (pre ++ [(m : Int) % 128 + 128]).length = pre.length + 1 from by simp] at this
      rw [this, hval]
      simp; omega

theorem getNum_put (n : Nat) (post : List Int) (h : n ≤ 2147483647) : getNum (put 4 n ++ post) 0 = some ((n : Int), ((put 4 n).length : Int)) := by
  have := getF_put [] post 4 n 0 0 (by omega) (by omega) (by omega) (by simp; omega)
  rw [show (0 : Int) = ((0 : Nat) : Int) from rfl, getNum_nat]
  simpa using this

/-- What is got was put there, in its shortest form. -/
theorem getF_back (xs : List Int) (hb : ∀ k, k < xs.length → 0 ≤ xs.getD k 0 ∧ xs.getD k 0 ≤ 255) (f i p : Nat) (n m q : Int) (h : getF xs (f + 1) i p n = some (m, q)) :
    ∃ (r e : Nat), m = n + (r : Int) * 128 ^ i ∧ r < 128 ^ (f + 1) ∧ (0 < i → 0 < r) ∧ q = (p : Int) + e ∧ p + e ≤ xs.length ∧ (xs.drop p).take e = put f r := by
  induction f generalizing i p n with
  | zero =>
    by_cases hp : p < xs.length
    · have hx := hb p hp
      by_cases hd : 128 ≤ xs.getD p 0
      · rw [getF_more xs 0 i p n hp hd] at h; simp [getF] at h
      · by_cases hbad : 2147483647 < n + xs.getD p 0 % 128 * 128 ^ i ∨ (xs.getD p 0 = 0 ∧ 0 < i)
        · rw [getF_bad xs 0 i p n hp hd hbad] at h; cases h
        · rw [getF_end xs 0 i p n hp hd hbad] at h
          simp only [Option.some.injEq, Prod.mk.injEq] at h
          obtain ⟨d, hdd⟩ := Int.eq_ofNat_of_zero_le hx.1
          have hdrop : (xs.drop p).take 1 = [xs.getD p 0] := by
            rw [List.drop_eq_getElem_cons hp, List.take_succ_cons, List.take_zero, List.getD_eq_getElem?_getD, List.getElem?_eq_getElem hp]; rfl
          refine ⟨d, 1, ?_, by simp; omega, by omega, by omega, by omega, ?_⟩
          · rw [← h.1, hdd, show ((d : Int) % 128) = d from by omega]
          · rw [hdrop, hdd]; simp [put]
    · rw [getF_out xs _ i p n hp] at h; cases h
  | succ f ih =>
    by_cases hp : p < xs.length
    · have hx := hb p hp
      have hdrop : xs.drop p = xs.getD p 0 :: xs.drop (p + 1) := by
        rw [List.drop_eq_getElem_cons hp, List.getD_eq_getElem?_getD, List.getElem?_eq_getElem hp]; rfl
      obtain ⟨d, hdd⟩ := Int.eq_ofNat_of_zero_le hx.1
      by_cases hd : 128 ≤ xs.getD p 0
      · rw [getF_more xs (f + 1) i p n hp hd] at h
        obtain ⟨r, e, h1, h2, h3, h4, h5, h6⟩ := ih (i + 1) (p + 1) _ h
        have hr := h3 (by omega)
        refine ⟨d % 128 + 128 * r, e + 1, ?_, ?_, by omega, by omega, by omega, ?_⟩
        · rw [h1, hdd, Int.pow_succ, Int.natCast_add, Int.natCast_mul, Int.add_mul, Int.natCast_emod]
          have e1 : ((128 : Nat) : Int) * (r : Int) * 128 ^ i = (r : Int) * (128 ^ i * 128) := by
            rw [Int.mul_comm ((128 : Nat) : Int) (r : Int), Int.mul_assoc, Int.mul_comm ((128 : Nat) : Int) (128 ^ i)]; rfl
          rw [e1]
          have e2 : ((128 : Nat) : Int) = 128 := rfl
          rw [e2]; omega
        · rw [Nat.pow_succ]; omega
        · rw [hdrop, List.take_succ_cons, h6, put_great f _ (by omega)]
          rw [show (d % 128 + 128 * r) / 128 = r from by omega, hdd]
          congr 1; omega
      · by_cases hbad : 2147483647 < n + xs.getD p 0 % 128 * 128 ^ i ∨ (xs.getD p 0 = 0 ∧ 0 < i)
        · rw [getF_bad xs (f + 1) i p n hp hd hbad] at h; cases h
        · rw [getF_end xs (f + 1) i p n hp hd hbad] at h
          simp only [Option.some.injEq, Prod.mk.injEq] at h
          refine ⟨d, 1, ?_, ?_, by omega, by omega, by omega, ?_⟩
          · rw [← h.1, hdd, show ((d : Int) % 128) = d from by omega]
          · have : (128 : Nat) ≤ 128 ^ (f + 1 + 1) := by
              rw [Nat.pow_succ]; have : 0 < 128 ^ (f + 1) := Nat.pow_pos (by omega); omega
            omega
          · rw [hdrop, hdd, put_small (f + 1) d (by omega)]; simp
    · rw [getF_out xs _ i p n hp] at h; cases h

theorem getNum_back (xs : List Int) (hb : BytesL xs) (p m q : Int) (h : getNum xs p = some (m, q)) :
    ∃ (k e : Nat), p = k ∧ q = (k : Int) + e ∧ k + e ≤ xs.length ∧ 0 ≤ m ∧ m ≤ 2147483647 ∧ (xs.drop k).take e = putAns m := by
  have bd := getNum_bd xs hb.get p m q h
  by_cases hp : p < 0
  · rw [getNum_neg xs p hp] at h; cases h
  · obtain ⟨k, rfl⟩ := Int.eq_ofNat_of_zero_le (Int.not_lt.1 hp)
    rw [getNum_nat] at h
    obtain ⟨r, e, h1, h2, _, h4, h5, h6⟩ := getF_back xs hb.get 4 0 k 0 m q h
    have hm : m = (r : Int) := by rw [h1]; simp
    subst hm
    exact ⟨k, e, rfl, h4, h5, by omega, by omega, by rw [h6, putAns_yes r (by omega)]⟩

theorem bs_str (l : List Int) (h : BytesL l) : bs (strOfNums l) = l := by
  unfold bs
  rw [strOfNums_data, List.map_map]
  conv => rhs; rw [← List.map_id l]
  apply List.map_congr_left
  intro x hx
  have := h x hx
  simp; omega
theorem str_bs (s : ByteArray) : strOfNums (bs s) = s := by
  apply ByteArray.ext
  apply Array.toList_inj.1
  rw [strOfNums_data, bs, List.map_map]
  conv => rhs; rw [← List.map_id s.data.toList]
  apply List.map_congr_left
  intro x _
  simp

theorem getText_put (s : ByteArray) (h : s.size ≤ 1048576) : getText (textAns s) 0 = some (s, ((textAns s).length : Int)) := by
  unfold getText textAns
  rw [getNum_put s.size (bs s) (by omega)]
  simp only
  rw [if_pos (by rw [List.length_append, bs_len]; omega)]
  congr 1
  refine Prod.ext ?_ ?_
  · show textAt _ _ _ = s
    unfold textAt
    rw [Int.toNat_natCast, Int.toNat_natCast, List.drop_left, List.take_of_length_le (by rw [bs_len]; omega), str_bs]
  · show _ = _
    rw [List.length_append, bs_len]; omega

theorem getText_back (xs : List Int) (hb : BytesL xs) (p q : Int) (s : ByteArray) (h : getText xs p = some (s, q)) (hl : xs.length ≤ 1000) :
    ∃ (k e : Nat), p = k ∧ q = (k : Int) + e ∧ k + e ≤ xs.length ∧ s.size ≤ 1000 ∧ (xs.drop k).take e = textAns s := by
  unfold getText at h
  cases hg : getNum xs p with
  | none => rw [hg] at h; cases h
  | some x =>
    obtain ⟨n, r⟩ := x
    rw [hg] at h
    obtain ⟨k, e, rfl, rfl, h5, h0, h1, h6⟩ := getNum_back xs hb p n r hg
    obtain ⟨n, rfl⟩ := Int.eq_ofNat_of_zero_le h0
    by_cases hn : (n : Int) ≤ (xs.length : Int) - ((k : Int) + e)
    · simp only [if_pos hn, Option.some.injEq, Prod.mk.injEq] at h
      obtain ⟨rfl, rfl⟩ := h
      have e1 : ((k : Int) + e).toNat = k + e := by omega
      have hw : ((xs.drop (k + e)).take n).length = n := win_len xs (k + e) n (by omega)
      have hbw : BytesL ((xs.drop (k + e)).take n) := fun y hy => hb y (List.mem_of_mem_drop (List.mem_of_mem_take hy))
      have hsz : (textAt xs ((k : Int) + e).toNat ((n : Int)).toNat).size = n := by
        unfold textAt; rw [strOfNums_size, e1, Int.toNat_natCast, hw]
      refine ⟨k, e + n, rfl, by omega, by omega, by rw [hsz]; omega, ?_⟩
      unfold textAns
      rw [hsz]
      unfold textAt
      rw [e1, Int.toNat_natCast, bs_str _ hbw, List.take_add, h6, putAns_yes n (by omega), List.drop_drop]
    · simp [if_neg hn] at h

/-- Parts with a byte between, of the first j. -/
def joinTo (b : UInt8) (ps : List ByteArray) : Nat → List UInt8
  | 0 => []
  | j + 1 => (if 0 < j then joinTo b ps j ++ [b] else joinTo b ps j) ++ (ps.getD j ByteArray.empty).data.toList
theorem joinTo_pre (b : UInt8) (ps qs : List ByteArray) (j : Nat) (h : j ≤ ps.length) : joinTo b (ps ++ qs) j = joinTo b ps j := by
  induction j with
  | zero => rfl
  | succ j ih =>
    have e : (ps ++ qs).getD j ByteArray.empty = ps.getD j ByteArray.empty := by
      rw [List.getD_eq_getElem?_getD, List.getD_eq_getElem?_getD, List.getElem?_append_left (by omega)]
    rw [joinTo, joinTo, ih (by omega), e]
theorem joinTo_snoc (b : UInt8) (ps : List ByteArray) (x : ByteArray) : joinTo b (ps ++ [x]) (ps.length + 1) = (if 0 < ps.length then joinTo b ps ps.length ++ [b] else joinTo b ps ps.length) ++ x.data.toList := by
  have e : (ps ++ [x]).getD ps.length ByteArray.empty = x := by simp
  rw [joinTo, joinTo_pre b ps [x] ps.length (Nat.le_refl _), e]
theorem joinTo_le (b : UInt8) (ps : List ByteArray) (i j : Nat) (h : i ≤ j) : (joinTo b ps i).length ≤ (joinTo b ps j).length := by
  induction j with
  | zero => obtain rfl : i = 0 := by omega
            exact Nat.le_refl _
  | succ j ih =>
    by_cases hij : i = j + 1
    · subst hij; exact Nat.le_refl _
    · have := ih (by omega)
      rw [joinTo]
      by_cases h0 : 0 < j
      · rw [if_pos h0]; simp; omega
      · rw [if_neg h0]; simp; omega
theorem ext_cut (s : ByteArray) (i j : Nat) : (s.extract i j).data.toList = (s.data.toList.drop i).take (j - i) := by
  rw [ByteArray.data_extract, Array.toList_extract]
theorem split_inv (s : ByteArray) (b : UInt8) (k : Nat) (hk : k ≤ s.size) :
    ((pcs s b.toNat k).1 = [] ∧ (pcs s b.toNat k).2 = 0) ∨ (0 < (pcs s b.toNat k).1.length ∧ joinTo b (pcs s b.toNat k).1 (pcs s b.toNat k).1.length ++ [b] = s.data.toList.take (pcs s b.toNat k).2) := by
  induction k with
  | zero => left; simp [pcs]
  | succ k ih =>
    have ih := ih (by omega)
    have hks : k < s.size := by omega
    by_cases hb : (s[k].toNat : Int) = b.toNat
    · rw [pcs_hit s _ k hks hb]
      right
      have hle := (pcs_le s b.toNat k).1
      have hbb : s[k] = b := by
        apply UInt8.toNat_inj.1; omega
      have htk : s.data.toList.take (k + 1) = s.data.toList.take k ++ [b] := by
        rw [List.take_succ_eq_append_getElem (by simpa using hks)]
        congr 1
        rw [← hbb]; rfl
      refine ⟨by simp, ?_⟩
      simp only [List.length_append, List.length_cons, List.length_nil, Nat.zero_add]
      rw [joinTo_snoc, ext_cut, htk]
      congr 1
      rcases ih with ⟨h1, h2⟩ | ⟨h1, h2⟩
      · rw [h1, h2]; simp [joinTo]
      · rw [if_pos h1, h2]
        rw [← List.take_add]
        congr 1; omega
    · rw [pcs_miss s _ k hks hb]; exact ih
theorem split_join (s : ByteArray) (b : UInt8) : joinTo b (splitAns s b.toNat) (splitAns s b.toNat).length = s.data.toList := by
  have hle := (pcs_le s b.toNat s.size).1
  have hinv := split_inv s b s.size (Nat.le_refl _)
  have hlen : s.data.toList.length = s.size := by simp
  unfold splitAns
  simp only [List.length_append, List.length_cons, List.length_nil, Nat.zero_add]
  rw [joinTo_snoc, ext_cut]
  rcases hinv with ⟨h1, h2⟩ | ⟨h1, h2⟩
  · rw [h1, h2]
    simp only [List.length_nil, joinTo, List.drop_zero, Nat.sub_zero]
    rw [List.take_of_length_le (by omega)]; simp
  · rw [if_pos h1, h2, ← List.take_add, List.take_of_length_le (by omega)]
end Go.Proofs.YtehdchpolgihlaaGreatDoor

/- Texts joined and parted. Nothing of the program. -/
namespace Go.Proofs.YtehdchpolgihlaaGreatDoor
set_option linter.unusedSectionVars false
variable [∀ (a b c d : Int), Decidable (Ok4 a b c d)]
variable [∀ (a b c d : Nat), Decidable (okN a b c d)]
variable [∀ (x : T4), Decidable (OkT x)]

/-- Texts with a comma between. -/
def jn : List (List UInt8) → List UInt8
  | [] => []
  | [p] => p
  | p :: q :: r => p ++ 44 :: jn (q :: r)
theorem jn_snoc (ps : List (List UInt8)) (p : List UInt8) : jn (ps ++ [p]) = (if 0 < ps.length then jn ps ++ [44] else jn ps) ++ p := by
  induction ps with
  | nil => simp [jn]
  | cons x ps ih =>
    cases ps with
    | nil => simp [jn]
    | cons y ps =>
      rw [List.cons_append] at ih
      rw [List.cons_append, List.cons_append, jn, jn, ih]
      simp
theorem jn_unique (ps qs : List (List UInt8)) (hp : ∀ p ∈ ps, 44 ∉ p) (hq : ∀ q ∈ qs, 44 ∉ q) (hn : ps ≠ []) (hm : qs ≠ []) (h : jn ps = jn qs) : ps = qs := by
  induction ps generalizing qs with
  | nil => exact absurd rfl hn
  | cons p ps ih =>
    cases qs with
    | nil => exact absurd rfl hm
    | cons q qs =>
      have hp0 := hp p (by simp)
      have hq0 := hq q (by simp)
      cases ps with
      | nil =>
        cases qs with
        | nil => simp [jn] at h; rw [h]
        | cons q' qs => simp only [jn] at h; rw [h] at hp0; simp at hp0
      | cons p' ps =>
        cases qs with
        | nil => simp only [jn] at h; rw [← h] at hq0; simp at hq0
        | cons q' qs =>
          simp only [jn] at h
          have e1 : p = q := by rw [← hd_some (y := jn (p' :: ps)) hp0, h, hd_some hq0]
          have e2 : jn (p' :: ps) = jn (q' :: qs) := by rw [← tl_some (x := p) (y := jn (p' :: ps)) hp0, h, tl_some hq0]
          rw [e1, ih (q' :: qs) (fun x hx => hp x (by simp at hx ⊢; exact .inr hx)) (fun x hx => hq x (by simp at hx ⊢; exact .inr hx)) (by simp) (by simp) e2]
theorem joinTo_jn (ps : List ByteArray) (k : Nat) (hk : k ≤ ps.length) : joinTo 44 ps k = jn ((ps.take k).map fun s => s.data.toList) := by
  induction k with
  | zero => simp [joinTo, jn]
  | succ k ih =>
    rw [joinTo, ih (by omega), take_more ps k (by omega), List.map_append, List.map_singleton, jn_snoc]
    simp only [List.length_map, List.length_take]
    rw [show min k ps.length = k from by omega]
theorem accT_jn (xs : List T4) (k : Nat) (hk : k ≤ xs.length) : accT xs k = jn ((xs.take k).map fun x => (txT x).data.toList) := by
  induction k with
  | zero => simp [accT, jn]
  | succ k ih =>
    have e : xs.take (k + 1) = xs.take k ++ [xs.getD k (0, 0, 0, 0)] := by
      rw [List.take_succ_eq_append_getElem (by omega), List.getD_eq_getElem?_getD, List.getElem?_eq_getElem (by omega)]; rfl
    rw [accT, ih (by omega), e, List.map_append, List.map_singleton, jn_snoc]
    simp only [List.length_map, List.length_take]
    rw [show min k xs.length = k from by omega]
theorem pcs_clean (s : ByteArray) (k : Nat) (hk : k ≤ s.size) : (∀ p ∈ (pcs s 44 k).1, (44 : UInt8) ∉ p.data.toList) ∧ (44 : UInt8) ∉ (s.data.toList.drop (pcs s 44 k).2).take (k - (pcs s 44 k).2) := by
  induction k with
  | zero => simp [pcs]
  | succ k ih =>
    obtain ⟨h1, h2⟩ := ih (by omega)
    have hle := (pcs_le s 44 k).1
    by_cases hb : (s[k].toNat : Int) = 44
    · rw [pcs_hit s 44 k (by omega) hb]
      refine ⟨fun p hp => ?_, by simp⟩
      rw [List.mem_append] at hp
      rcases hp with hp | hp
      · exact h1 p hp
      · simp at hp; rw [hp, ext_list]; exact h2
    · rw [pcs_miss s 44 k (by omega) hb]
      refine ⟨h1, ?_⟩
      have e := not_mem_more (m := 44) (l := s.data.toList) (n := (pcs s 44 k).2) (pos := k) (v := 1) hle h2 (fun j hj => by
        obtain rfl : j = 0 := by omega
        rw [Nat.add_zero, List.getElem?_eq_getElem (by simp; omega)]
        intro e
        have e' : s[k] = 44 := Option.some.inj e
        rw [e'] at hb; exact hb rfl)
      exact e
theorem split_clean (s : ByteArray) : ∀ p ∈ splitAns s 44, (44 : UInt8) ∉ p.data.toList := by
  intro p hp
  obtain ⟨h1, h2⟩ := pcs_clean s s.size (Nat.le_refl _)
  unfold splitAns at hp
  rw [List.mem_append] at hp
  rcases hp with hp | hp
  · exact h1 p hp
  · simp at hp; rw [hp, ext_list]; exact h2
theorem split_ne (s : ByteArray) : splitAns s 44 ≠ [] := by unfold splitAns; simp
theorem txT_clean (x : T4) : (44 : UInt8) ∉ (txT x).data.toList := by
  unfold txT txt
  obtain ⟨a, b, c, d⟩ := x
  by_cases h : Ok4 a b c d
  · show (44 : UInt8) ∉ (if Ok4 a b c d then txs a b c d else (⟨#[]⟩ : ByteArray)).data.toList
    rw [if_pos h]
    obtain ⟨a', b', c', d', rfl, rfl, rfl, rfl⟩ := ok_nat h
    rw [txs_toB, toB_list]
    unfold txl
    have n := fun n => no_mark n 44 (by decide)
    simp [n]
  · show (44 : UInt8) ∉ (if Ok4 a b c d then txs a b c d else (⟨#[]⟩ : ByteArray)).data.toList
    rw [if_neg h]; simp
theorem isTx_T {s : ByteArray} {q : Nat × Nat × Nat × Nat} (h : txAns s.data.toList = some q) : txT (toT q) = s ∧ OkT (toT q) := by
  obtain ⟨a, b, c, d⟩ := q
  have hi := txAns_is h
  exact ⟨isTx_txt hi, ok_cast.2 hi.1⟩
theorem ok_T {x : T4} (h : OkT x) : ∃ q, toT q = x ∧ txAns (txT x).data.toList = some q := by
  obtain ⟨a, b, c, d⟩ := x
  obtain ⟨a', b', c', d', rfl, rfl, rfl, rfl⟩ := ok_nat h
  refine ⟨(a', b', c', d'), rfl, txAns_some ⟨ok_cast.1 h, ?_⟩⟩
  show _ = (if Ok4 (a' : Int) b' c' d' then txs a' b' c' d' else (⟨#[]⟩ : ByteArray)).data.toList
  rw [if_pos (show Ok4 (a' : Int) b' c' d' from h), txs_toB, toB_list]
theorem allTx_texts {ps : List ByteArray} {ys : List T4} (h : allTx ps = some ys) : ys.map txT = ps ∧ ∀ y ∈ ys, OkT y := by
  induction ps generalizing ys with
  | nil => simp [allTx] at h; subst h; simp
  | cons p ps ih =>
    rw [allTx] at h
    cases hp : txAns p.data.toList with
    | none => rw [hp] at h; cases h
    | some q =>
      rw [hp] at h
      cases hq : allTx ps with
      | none => rw [hq] at h; cases h
      | some zs =>
        rw [hq] at h; simp at h; subst h
        obtain ⟨i1, i2⟩ := ih hq
        obtain ⟨j1, j2⟩ := isTx_T hp
        refine ⟨by simp [i1, j1], fun y hy => ?_⟩
        simp at hy
        rcases hy with rfl | hy
        · exact j2
        · exact i2 y hy
theorem allTx_of (ys : List T4) (h : ∀ y ∈ ys, OkT y) : allTx (ys.map txT) = some ys := by
  induction ys with
  | nil => rfl
  | cons y ys ih =>
    obtain ⟨q, e, hq⟩ := ok_T (h y (by simp))
    rw [List.map_cons, allTx, hq, ih (fun z hz => h z (by simp [hz]))]
    simp [e]
/-- What is read of a text is told as that text. -/
theorem txsAns_text {s : ByteArray} {ys : List T4} (h : txsAns s = some ys) : txsT ys = s := by
  unfold txsAns at h
  split at h
  · rename_i hz
    simp at h; subst h
    unfold txsT; simp [accT, toB, hz]
  · obtain ⟨h1, h2⟩ := allTx_texts h
    unfold txsT
    rw [if_pos h2, accT_jn ys ys.length (Nat.le_refl _), List.take_of_length_le (Nat.le_refl _)]
    have hj := split_join s 44
    have e44 : (((44 : UInt8).toNat : Nat) : Int) = 44 := rfl
    rw [e44, joinTo_jn _ _ (Nat.le_refl _), List.take_of_length_le (Nat.le_refl _), ← h1, List.map_map] at hj
    have hj' : jn (ys.map fun x => (txT x).data.toList) = s.data.toList := hj
    rw [hj', toB_data]
/-- What is told of payments is read as they were. -/
theorem txsAns_of (ys : List T4) (h : ∀ y ∈ ys, OkT y) : txsAns (txsT ys) = some ys := by
  have e : txsT ys = toB (jn (ys.map fun x => (txT x).data.toList)) := by
    unfold txsT
    rw [if_pos h, accT_jn ys ys.length (Nat.le_refl _), List.take_of_length_le (Nat.le_refl _)]
  cases ys with
  | nil => rw [e]; unfold txsAns; simp [jn, toB]
  | cons y ys =>
    have hne : txsT (y :: ys) ≠ ⟨#[]⟩ := by
      rw [e]
      intro hz
      have hz' := congrArg (fun s : ByteArray => s.data.toList) hz
      have hy := txT_ne (h y (by simp))
      cases ys with
      | nil => simp [jn, toB] at hz'; exact hy (ByteArray.ext hz')
      | cons y' ys => simp [jn, toB] at hz'
    unfold txsAns
    rw [if_neg hne]
    have hj := split_join (txsT (y :: ys)) 44
    have e44 : (((44 : UInt8).toNat : Nat) : Int) = 44 := rfl
    rw [e44, joinTo_jn _ _ (Nat.le_refl _), List.take_of_length_le (Nat.le_refl _)] at hj
    have hl : (txsT (y :: ys)).data.toList = jn ((y :: ys).map fun x => (txT x).data.toList) := by rw [e]; rfl
    rw [hl] at hj
    have hu := jn_unique _ _ (fun p hp => by
      obtain ⟨z, hz, rfl⟩ := List.mem_map.1 hp
      exact split_clean _ z hz) (fun q hq => by
      obtain ⟨z, _, rfl⟩ := List.mem_map.1 hq
      exact txT_clean z) (by simp [split_ne]) (by simp) hj
    have hs : splitAns (txsT (y :: ys)) 44 = (y :: ys).map txT := by
      have inj : ∀ (a b : List ByteArray), a.map (fun s => s.data.toList) = b.map (fun s => s.data.toList) → a = b := by
        intro a
        induction a with
        | nil => intro b hb; cases b with
          | nil => rfl
          | cons => simp at hb
        | cons x a ih =>
          intro b hb
          cases b with
          | nil => simp at hb
          | cons z b =>
            simp at hb
            rw [ih b hb.2, ByteArray.ext hb.1]
      apply inj
      rw [hu, List.map_map]; rfl
    rw [hs]
    exact allTx_of _ h
end Go.Proofs.YtehdchpolgihlaaGreatDoor
