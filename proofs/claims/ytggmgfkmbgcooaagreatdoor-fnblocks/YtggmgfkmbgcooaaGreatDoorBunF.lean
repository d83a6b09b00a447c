/- Texts that belong together: SpecSteps, SpecNames, SpecTxsIn, Fed, Marks. -/
import Derived.Test.YtggmgfkmbgcooaaGreatDoorBunE
import Derived.Test.YtggmgfkmbgcooaaGreatDoorBunC
import Derived.Test.YtggmgfkmbgcooaaGreatDoorBunB
import Derived.Test.YtggmgfkmbgcooaaGreatDoorBunA
import Derived.Laws.AppendOwnNone
import Derived.RangeFuncNested
import Derived.RangeFuncBound
import Derived.Test.YtggmgfkmbgcooaaGreatDoorShelfMarks
import Derived.Shelf.RegionOpenPlain
/- spec.Steps. -/
namespace Go.Proofs.YtggmgfkmbgcooaaGreatDoor
open Go.RowKit
set_option linter.unusedSectionVars false
variable [∀ (a b c d : Int), Decidable (Ok4 a b c d)]
variable [∀ (a b c d : Nat), Decidable (okN a b c d)]
variable [∀ (last : Int) (s : St), Decidable (GoodSt last s)]

/-- Two rows of different types lie in two blocks. -/
theorem own_types {w : World} {B B' n n' s s' : Nat} {e e' : TypeId} {v u : Value} {xs ys : List Value} (h : w.ownsRow B e s v n xs) (h' : w.ownsRow B' e' s' u n' ys) (he : e ≠ e') : v.ownBlock = none ∨ v.ownBlock ≠ u.ownBlock := by
  rcases h.2 with ⟨rfl, _⟩ | ⟨g, cap, cur, rfl, _, hg, _⟩
  · exact .inl rfl
  · rcases h'.2 with ⟨rfl, _⟩ | ⟨g', cap', cur', rfl, _, hg', _⟩
    · exact .inr (by simp [Value.ownBlock])
    · refine .inr fun e2 => ?_
      simp [Value.ownBlock] at e2
      rw [e2, hg'] at hg
      simp at hg
      exact he hg.2.symm
/-- A row from behind block B does not lie in block B. -/
theorem none_apart {w : World} {B n s : Nat} {e : TypeId} {v : Value} {xs : List Value} {c : Nat} (h : w.ownsRow (B + 1) e s v n xs) : (Value.slice (some ⟨B, 0, none⟩) 0 c).ownBlock = none ∨ (Value.slice (some ⟨B, 0, none⟩) 0 c).ownBlock ≠ v.ownBlock := .inr fun e => by
  have := (World.ownsRow.lt h B (by rw [← e]; rfl)).1
  omega
theorem row_lower {w : World} {B B' n s : Nat} {e : TypeId} {v : Value} {xs : List Value} (h : w.ownsRow B e s v n xs) (hb : B' ≤ B) : w.ownsRow B' e s v n xs := by
  refine ⟨h.1, ?_⟩
  rcases h.2 with h | ⟨g, cap, cur, h1, h2, h3⟩
  · exact .inl h
  · exact .inr ⟨g, cap, cur, h1, by omega, h3⟩
theorem two_plain (n : Int) (a : Option Addr) (l c : Nat) : ∀ u ∈ scell (n, .slice a l c), u.oneCell' = true := by
  intro u hu
  simp [scell] at hu
  rcases hu with rfl | rfl <;> rfl
theorem two_cell (w : World) (p : Int × Value) (t : TypeId) (j : Nat) (u : Value) (h : (scell p)[j]? = some u) : (w.alloc (.cells #[.int .i64 p.1, p.2] t)).cell? ((⟨w.heap.size, 0, none⟩ : Addr).add j) = some u := by
  match j, h with
  | 0, h => simp [scell] at h; subst h; simp [Addr.add]
  | 1, h => simp [scell] at h; subst h; simp [Addr.add]
  | j + 2, h => simp [scell] at h
/-- A step's text: what l2Cut, Number and TxsOf tell of it. -/
theorem stepOf_cut (p : ByteArray) : stepOf p = if (cutS 124 p.data.toList).2.2 = true ∧ (numOf (cutS 124 p.data.toList).1).isSome = true ∧ (txsAns (toB (cutS 124 p.data.toList).2.1)).isSome = true then some (nans (numOf (cutS 124 p.data.toList).1), (txsAns (toB (cutS 124 p.data.toList).2.1)).getD []) else none := by
  unfold stepOf cutS
  by_cases hm : (124 : UInt8) ∈ p.data.toList
  · rw [if_pos hm, if_pos hm]
    cases hn : numOf (hd 124 p.data.toList) with
    | none => simp
    | some n =>
      cases ht : txsAns (toB (tl 124 p.data.toList)) with
      | none => simp
      | some ts => simp [nans]
  · rw [if_neg hm, if_neg hm]; simp
theorem tail_get (ps : List ByteArray) (k : Nat) (h : k + 1 < ps.length) : ps.tail.take (k + 1) = ps.tail.take k ++ [ps.getD (k + 1) ByteArray.empty] := by
  cases ps with
  | nil => simp at h
  | cons p ps =>
    simp only [List.tail_cons]
    simp at h
    rw [List.take_succ_eq_append_getElem h]
    simp [List.getD_eq_getElem?_getD, List.getElem?_eq_getElem h]

set_option maxHeartbeats 8000000 in
set_option maxRecDepth 100000 in
theorem specSteps (s : ByteArray) (w : World) (hs : s.size ≤ 33554432) :
    Calls Tryz.prog 80 #[.string s] w fun e w' => ∃ v, e = .returned (.tuple #[v, .bool (stepsAns s).isSome]) ∧ OSt w' w.heap.size v ((stepsAns s).getD []) ∧ Below w.heap.size w w' := by
  obtain ⟨i0, hi, hz0, hz1, hz2⟩ := info_parts Tryz.infoSt
  obtain ⟨w0, hw0⟩ : ∃ w0, (w.alloc (.cells #[] 85)).alloc (.cells #[] 85) = w0 := ⟨_, rfl⟩
  have z0 : w0.heap.size = w.heap.size + 1 + 1 := by rw [← hw0]; simp
  have B0 : Below w.heap.size w w0 := hw0 ▸ ((Below.refl _ _).alloc (Nat.le_refl _) _).alloc (by simp) _
  have R1 : (w.alloc (.cells #[] 85)).ownsRow w.heap.size 85 2 (.slice (some ⟨w.heap.size, 0, none⟩) 0 0) 0 [] := World.ownsRow_lit w #[] 0 (Nat.le_refl _) (by unfold maxLen; omega) rfl
  have N0 : w0.ownsRow w.heap.size 85 2 (.slice (some ⟨w.heap.size, 0, none⟩) 0 0) 0 [] := hw0 ▸ R1.alloc _
  have O0 : w0.ownsRow (w.heap.size + 1) 85 2 (.slice (some ⟨w.heap.size + 1, 0, none⟩) 0 0) 0 [] := by
    have := World.ownsRow_lit (base := w.heap.size + 1) (e := 85) (size := 2) (w.alloc (.cells #[] 85)) #[] 0 (by simp) (by unfold maxLen; omega) rfl
    rw [hw0] at this
    have e : (w.alloc (.cells #[] 85)).heap.size = w.heap.size + 1 := by simp
    rw [e] at this
    exact this
  clear R1
  unfold stepsAns
  by_cases hz : s = ⟨#[]⟩
  · rw [if_pos hz]
    subst hz
    go_enter Tryz.func80, Tryz.ntmps80
    go_wp2
    go_ret2
    refine ⟨_, rfl, ⟨[], rfl, ?_, fun k hk => by simp at hk, fun i j _ hj => by simp at hj⟩, B0⟩
    refine ⟨O0.1, ?_⟩
    rcases O0.2 with h | ⟨g, cap, cur, h1, h2, h3⟩
    · exact .inl h
    · exact .inr ⟨g, cap, cur, h1, by omega, h3⟩
  · rw [if_neg hz]
    have hne := str_ne hz
    have hne2 : (s.toList == []) = false := by
      rw [beq_eq_false_iff_ne]; intro e; apply hz; apply ByteArray.ext; apply Array.toList_inj.1; rw [ByteArray.toList_eq] at e; exact e
    have SP := hide fun w => specSplit_any s 47 w hs
    have hpn : 0 < (splitAns s 47).length := by simp [splitAns]
    have hpz : Hid (∀ p ∈ splitAns s 47, p.size ≤ 33554432) := fun p hp => Nat.le_trans (split_size s 47 p hp) hs
    have hpl := splitAns_len s 47
    have NONE : Hid (∀ w', Below w.heap.size w w' → w'.ownsRow w.heap.size 85 2 (.slice (some ⟨w.heap.size, 0, none⟩) 0 0) 0 [] → OSt w' w.heap.size (.slice (some ⟨w.heap.size, 0, none⟩) 0 0) []) := hide fun w' _ h => ⟨[], rfl, h, fun k hk => by simp at hk, fun i j _ hj => by simp at hj⟩
    generalize splitAns s 47 = ps at *
    generalize hA : (if ps.getD 0 ByteArray.empty = ⟨#[]⟩ ∧ ps.length ≤ 31 then (stepsRun ps.tail).map (·.2) else none) = A
    have HA := hide hA
    clear hz hA
    go_enter Tryz.func80, Tryz.ntmps80
    go_wp2_with fail
    clear hw0
    refine (unhide SP _).mono ?_
    rintro e w1 ⟨vp, rfl, op, b1⟩
    have s1 := b1.size
    have B1 := B0.trans (b1.mono B0.size)
    have k1 : w0.grownBy w1 none := ⟨b1.os, b1.tape, b1.output, b1.size, fun k hk _ => b1.block k hk⟩
    have N1 := N0.kept k1 (by simp [Value.ownBlock])
    have O1 := O0.kept k1 (by simp [Value.ownBlock])
    rcases op.2 with ⟨_, h0⟩ | ⟨gp, pc, pcur, rfl, _⟩
    · omega
    have c0 := os_cell op rfl 0 hpn
    have OP := hide op
    have N1 := hide N1
    clear op SP k1 b1 N0 O0 B0
    by_cases h0 : ps.getD 0 ByteArray.empty = ⟨#[]⟩
    · rw [h0] at c0
      by_cases h31 : ps.length ≤ 31
      · have E : Hid (A = (stepsRun ps.tail).map (·.2)) := hide ((unhide HA).symm.trans (if_pos ⟨h0, h31⟩))
        have h31' : decide ((31 : Int) < (ps.length : Int)) = false := by simp; omega
        go_wp2
        clear c0
        go_loopw [5, 7, 8] (fun out last i wr => ∃ (k : Nat) (l : Int) (ss : List St) (vs : List Value), k + 1 ≤ ps.length ∧ i = .int .i64 ((k + 1 : Nat) : Int) ∧ last = .int .i64 l ∧ Hid (stepsRun (ps.tail.take k) = some (l, ss)) ∧ ss.length = k ∧ OStV wr (w.heap.size + 1) out ss vs ∧ OS wr w0.heap.size (.slice (some ⟨gp, 0, none⟩) ps.length pc) ps ∧ wr.ownsRow w.heap.size 85 2 (.slice (some ⟨w.heap.size, 0, none⟩) 0 0) 0 [] ∧ Below w.heap.size w wr ∧ w.heap.size + 1 ≤ wr.heap.size) (fun _ _ i _ => ps.length - (intOf i).toNat)
        case atStart => exact ⟨0, 0, [], [], by omega, by go_num, rfl, hide (by rw [List.take_zero]; rfl), rfl, ⟨rfl, O1, fun k hk => by simp at hk, fun i j _ hj => by simp at hj⟩, unhide OP, unhide N1, B1, by omega⟩
        case round =>
          clear O1 N1 OP B1
          obtain ⟨k, l, ss, vs, hk, rfl, rfl, HR, hsl, ost, hp, nr, br, sz⟩ := hrel
          subst hsl
          obtain ⟨oa, oc, rfl⟩ := OSt.form ⟨vs, ost⟩
          have RO1 := (stepsRun_ok _ _ (unhide HR)).2.1
          by_cases hlt : ss.length + 1 < ps.length
          · have hc := os_cell hp rfl (ss.length + 1) hlt
            have hm := unhide hpz _ (getD_mem hlt)
            have HT := hide (tail_get ps ss.length hlt)
            have HC := hide (stepOf_cut (ps.getD (ss.length + 1) ByteArray.empty))
            have CUT := hide fun w => l2Cut_any 124 124 rfl (ps.getD (ss.length + 1) ByteArray.empty) w hm
            generalize ps.getD (ss.length + 1) ByteArray.empty = p at *
            have hc1 : (cutS 124 p.data.toList).1.length ≤ 33554432 ∧ (cutS 124 p.data.toList).2.1.length ≤ 33554432 := by
              have h1 := cutS_len 124 p.data.toList
              have h2 : p.data.toList.length = p.size := by simp
              omega
            obtain ⟨c, hcc⟩ : ∃ c, cutS 124 p.data.toList = c := ⟨_, rfl⟩
            rw [hcc] at CUT HC hc1
            clear hcc
            have NU := hide fun w => specNumber_any (toB c.1) w (by rw [toB_size]; unfold maxLen; omega)
            have TX := hide fun w => specTxsOf (toB c.2.1) w (by rw [toB_size]; omega)
            rw [toB_list] at NU
            obtain ⟨cn, hcn⟩ : ∃ x, numOf c.1 = x := ⟨_, rfl⟩
            obtain ⟨ct, hct⟩ : ∃ x, txsAns (toB c.2.1) = x := ⟨_, rfl⟩
            rw [hcn] at NU HC
            rw [hct] at TX HC
            have hn0 : 0 ≤ nans cn ∧ nans cn ≤ 999999 := by
              cases cn with
              | none => simp [nans]
              | some m => have := numOf_some hcn; simp [nans]; omega
            clear hcn hct
            obtain ⟨n, hn⟩ : ∃ n, nans cn = n := ⟨_, rfl⟩
            obtain ⟨bn, hbn⟩ : ∃ b, cn.isSome = b := ⟨_, rfl⟩
            obtain ⟨bt, hbt⟩ : ∃ b, ct.isSome = b := ⟨_, rfl⟩
            obtain ⟨ts, hts⟩ : ∃ b, ct.getD [] = b := ⟨_, rfl⟩
            rw [hn] at NU HC hn0
            rw [hbn] at NU HC
            rw [hbt] at TX HC
            rw [hts] at TX HC
            clear hn hbn hbt hts
            have OST := hide ost
            have NR := hide nr
            have HP := hide hp
            clear ost nr hp
            go_wp2_with fail
            refine (unhide CUT _).mono ?_
            rintro _ w2 ⟨rfl, b2⟩
            go_wp2_with fail
            refine (unhide NU _).mono ?_
            rintro _ w3 ⟨rfl, b3⟩
            have b23 : Below wr.heap.size wr w3 := b2.trans (b3.mono b2.size)
            go_wp2_with fail
            refine (unhide TX _).mono ?_
            rintro _ w4 ⟨vt, rfl, ot, b4⟩
            have b24 : Below wr.heap.size wr w4 := b23.trans (b4.mono b23.size)
            have B4 := br.trans (b24.mono br.size)
            have s24 := b24.size
            have s23 := b23.size
            have ost4 := (unhide OST).below b24
            have k24 : wr.grownBy w4 none := ⟨b24.os, b24.tape, b24.output, b24.size, fun k hk _ => b24.block k hk⟩
            have nr4 := World.ownsRow.kept (unhide NR) k24 (by simp [Value.ownBlock])
            have hp4 := (unhide HP).below b24
            obtain ⟨ta, tc, rfl⟩ : ∃ ta tc, vt = .slice ta ts.length tc := by
              rcases ot.2 with ⟨rfl, h0⟩ | ⟨g, cap, cur, rfl, _⟩
              · exact ⟨none, 0, by rw [h0]⟩
              · exact ⟨_, _, rfl⟩
            clear CUT NU TX b2 b3 b4
            have RN : Hid (stepOf p = none → stepsRun ps.tail = none) := hide fun h => stepsRun_none (ss.length + 1) (by rw [unhide HT, stepsRun_more, unhide HR]; unfold stepAcc; rw [h]; rfl)
            obtain ⟨c1, c2, cb⟩ := c
            cases cb with
            | false =>
              have F := hide ((unhide RN) (by rw [unhide HC, if_neg (by simp)]))
              go_wp2
              go_ret2
              rw [unhide E, unhide F]
              exact ⟨_, rfl, unhide NONE _ B4 nr4, B4⟩
            | true =>
            cases bn with
            | false =>
              have F := hide ((unhide RN) (by rw [unhide HC, if_neg (by simp)]))
              go_wp2
              go_ret2
              rw [unhide E, unhide F]
              exact ⟨_, rfl, unhide NONE _ B4 nr4, B4⟩
            | true =>
            cases bt with
            | false =>
              have F := hide ((unhide RN) (by rw [unhide HC, if_neg (by simp)]))
              go_wp2
              go_ret2
              rw [unhide E, unhide F]
              exact ⟨_, rfl, unhide NONE _ B4 nr4, B4⟩
            | true =>
            have HS : Hid (stepOf p = some (n, ts)) := hide (by rw [unhide HC, if_pos (by simp)])
            have RG : Hid (¬ GoodSt l (n, ts) → stepsRun ps.tail = none) := hide fun h => stepsRun_none (ss.length + 1) (by rw [unhide HT, stepsRun_more, unhide HR]; unfold stepAcc; rw [unhide HS]; exact if_neg h)
            clear RN HC
            by_cases g1 : n ≤ l
            · have F := hide ((unhide RG) fun h => by have := h.1; simp only at this; omega)
              have g1' : decide (n ≤ l) = true := by simp; omega
              go_wp2
              go_ret2
              rw [unhide E, unhide F]
              exact ⟨_, rfl, unhide NONE _ B4 nr4, B4⟩
            have g1' : decide (n ≤ l) = false := by simp; omega
            by_cases g2 : 60 < n
            · have F := hide ((unhide RG) fun h => by have := h.2.1; simp only at this; omega)
              have g2' : decide (60 < n) = true := by simp; omega
              go_wp2
              go_ret2
              rw [unhide E, unhide F]
              exact ⟨_, rfl, unhide NONE _ B4 nr4, B4⟩
            have g2' : decide (60 < n) = false := by simp; omega
            by_cases g3 : 2 < ts.length
            · have F := hide ((unhide RG) fun h => by have := h.2.2; simp only at this; omega)
              have g3' : decide ((2 : Int) < (ts.length : Int)) = true := by simp; omega
              go_wp2
              go_ret2
              rw [unhide E, unhide F]
              exact ⟨_, rfl, unhide NONE _ B4 nr4, B4⟩
            have g3' : decide ((2 : Int) < (ts.length : Int)) = false := by simp; omega
            have HN : Hid (stepsRun (ps.tail.take (ss.length + 1)) = some (n, ss ++ [(n, ts)])) := hide (by
              rw [unhide HT, stepsRun_more, unhide HR]; unfold stepAcc; rw [unhide HS]
              exact if_pos ⟨by omega, by omega, by show ts.length ≤ 2; omega⟩)
            have bX : Below w4.heap.size w4 (w4.alloc (.cells #[.int .i64 n, .slice ta ts.length tc] 85)) := (Below.refl _ _).alloc (Nat.le_refl _) _
            have ostX := ost4.below bX
            have otX := ot.below bX
            have hpX := hp4.below bX
            have nrX := World.ownsRow.alloc nr4 (.cells #[.int .i64 n, .slice ta ts.length tc] 85)
            have BX := B4.trans (bX.mono B4.size)
            have hN : ∀ k, k < ss.length → ∀ b, (vs.getD k (.slice none 0 0)).ownBlock = some b → b < w3.heap.size := fun k hk b hb => by
              have := (World.ownsRow.lt ((unhide OST).each k hk) b hb).2; omega
            have hl31 : ss.length ≤ 31 := by omega
            clear RG ost4 ot hp4 nr4 B4
            go_wp2_with (first
              | (at_builtin; refine wpList_append_own _ rfl _ _ 81 rfl (w.heap.size + 1) 85 i0 (.agg #[.int .i64 0, .slice none 0 0]) 2 32 Tryz.underlying81 hi hz0 hz1 hz2 rfl (by decide) _ _ _ rfl ostX.row ⟨w4.heap.size, 0, none⟩ 1 1 (scell (n, .slice ta ts.length tc)) rfl rfl (two_cell w4 (n, .slice ta ts.length tc) 85) (two_plain _ _ _ _) (by unfold maxLen; omega) (by omega) (by simp; omega) ?_; intro v' w5 ho' hg' _; have R := ost_more ostX otX hN (by omega) ho' hg'; have RP := World.ownsRow.kept hpX hg' (own_types hpX ostX.row (by decide)); have RN := World.ownsRow.kept nrX hg' (none_apart ostX.row); have RB := BX.grown hg' BX.size (fun k hk => by have := (World.ownsRow.lt ostX.row k hk).1; omega); have SZ : w4.heap.size ≤ w5.heap.size := (by have := hg'.size; simp at this; omega); clear ho' hg' ostX otX hpX nrX BX bX))
            go_roundw
            case rel => exact ⟨ss.length + 1, n, _, _, by omega, by go_num, rfl, HN, by simp, R, RP, RN, RB, by omega⟩
            case measure => simp [intOf]; omega
          · have hk2 : ps.tail.take ss.length = ps.tail := List.take_of_length_le (by simp; omega)
            rw [hk2] at HR
            have hlt' : decide (((ss.length + 1 : Nat) : Int) < (ps.length : Int)) = false := by simp; omega
            go_wp2
            go_ret2
            rw [unhide E, unhide HR]
            refine ⟨_, rfl, ⟨vs, ost.len, ?_, fun k hk => ?_, ost.apart⟩, br⟩
            · exact row_lower ost.row (by omega)
            · exact row_lower (ost.each k hk) (by omega)
      · have E : A = none := (unhide HA).symm.trans (if_neg fun h => h31 h.2)
        have h31' : decide ((31 : Int) < (ps.length : Int)) = true := by simp; omega
        go_wp2
        go_ret2
        rw [E]
        exact ⟨_, rfl, unhide NONE _ B1 (unhide N1), B1⟩
    · have E : A = none := (unhide HA).symm.trans (if_neg fun h => h0 h.1)
      have hn0 := str_ne h0
      have hn1 : ((ps.getD 0 ByteArray.empty).toList = []) = False := eq_false fun e => h0 (by apply ByteArray.ext; apply Array.toList_inj.1; rw [ByteArray.toList_eq] at e; exact e)
      generalize ps.getD 0 ByteArray.empty = p0 at *
      go_wp2
      go_ret2
      rw [E]
      exact ⟨_, rfl, unhide NONE _ B1 (unhide N1), B1⟩
end Go.Proofs.YtggmgfkmbgcooaaGreatDoor

/- spec.NameOk, Height, ViewOf. -/
namespace Go.Proofs.YtggmgfkmbgcooaaGreatDoor
open Go.RowKit
set_option linter.unusedSectionVars false
variable [∀ (a b c d : Int), Decidable (Ok4 a b c d)]
variable [∀ (a b c d : Nat), Decidable (okN a b c d)]
variable [∀ (last : Int) (s : St), Decidable (GoodSt last s)]
variable [∀ (x : T4), Decidable (OkT x)]

set_option maxHeartbeats 8000000 in
set_option maxRecDepth 100000 in
theorem specNameOk (s : ByteArray) (w : World) (hs : s.size ≤ 33554432) :
    Calls Tryz.prog 50 #[.string s] w fun e w' => e = .returned (.bool (stepsAns s).isSome) ∧ Below w.heap.size w w' := by
  have ST := hide fun w => specSteps s w hs
  generalize stepsAns s = A at *
  go_enter Tryz.func50, Tryz.ntmps50
  go_wp2_with fail
  refine (unhide ST _).mono ?_
  rintro e w1 ⟨v, rfl, _, b1⟩
  go_wp2
  go_ret
  exact ⟨rfl, b1⟩

set_option maxHeartbeats 8000000 in
set_option maxRecDepth 100000 in
theorem specViewOf (s : ByteArray) (w : World) (hs : s.size ≤ 33554432) :
    Calls Tryz.prog 46 #[.string s] w fun e w' => e = .returned (.int .i64 (viewAns s)) ∧ Below w.heap.size w w' := by
  have ST := hide fun w => specSteps s w hs
  have hl : ∀ ss, stepsAns s = some ss → ss.length ≤ 30 ∧ ∀ x ∈ ss, OkSt x := fun ss h => ⟨((names_iff _ _).1 h).2.1, ((names_iff _ _).1 h).2.2.1⟩
  unfold viewAns
  generalize stepsAns s = A at *
  go_enter Tryz.func46, Tryz.ntmps46
  go_wp2_with fail
  refine (unhide ST _).mono ?_
  rintro e w1 ⟨v, rfl, o1, b1⟩
  cases A with
  | none =>
    obtain ⟨ao, ca, rfl⟩ := o1.form
    clear o1 ST hl
    go_wp2
    go_ret
    exact ⟨rfl, b1⟩
  | some ss =>
    obtain ⟨hl, hok⟩ := hl ss rfl
    obtain ⟨ao, ca, hv, r⟩ := o1.rst (fun x hx => by have := (hok x hx).2.1; omega)
    subst hv
    clear o1 ST hok
    simp only [Option.getD_some] at *
    rcases r with rfl | ⟨g, rfl, r⟩
    · go_wp2
      go_ret
      exact ⟨rfl, b1⟩
    · by_cases h0 : ss.length = 0
      · obtain rfl := List.length_eq_zero_iff.1 h0
        go_wp2
        go_ret
        exact ⟨rfl, b1⟩
      · obtain ⟨n, hn⟩ : ∃ n, ss.length = n + 1 := ⟨ss.length - 1, by omega⟩
        obtain ⟨u, c0, c1, _⟩ := r n (by omega)
        have hlast := hide (show (ss.getLast?.map (·.1)).getD 0 = (ss.getD n zst).1 by
          rw [List.getLast?_eq_getElem?, List.getD_eq_getElem?_getD, List.getElem?_eq_getElem (show ss.length - 1 < ss.length by omega), List.getElem?_eq_getElem (show n < ss.length by omega)]
          simp [hn])
        have hi : ((n + 1 : Nat) : Int) - 1 = n := by omega
        generalize (ss.getD n zst).1 = x at *
        clear r h0
        go_wp2
        go_ret
        exact ⟨by rw [show ((some ss).getD []) = ss from rfl, unhide hlast]; rfl, b1⟩

set_option maxHeartbeats 8000000 in
set_option maxRecDepth 100000 in
theorem specUpOf (s : ByteArray) (w : World) (hs : s.size ≤ 33554432) :
    Calls Tryz.prog 51 #[.string s] w fun e w' => e = .returned (.string (upAns s)) ∧ Below w.heap.size w w' := by
  have NS := hide fun w => specNameOk s w hs
  have UC := hide fun (ss : List St) (h : stepsAns s = some ss) (k : Nat) (hk : k ≤ s.data.toList.length) h1 h2 => up_cut h k hk h1 h2
  have UN : stepsAns s = none → upAns s = ⟨#[]⟩ := fun h => by unfold upAns; rw [h]; rfl
  generalize upAns s = x at *
  generalize stepsAns s = A at *
  go_enter Tryz.func51, Tryz.ntmps51
  go_wp2_with fail
  refine (unhide NS _).mono ?_
  rintro e w1 ⟨rfl, b1⟩
  clear NS
  cases A with
  | none =>
    have UN := UN rfl
    subst UN
    go_wp2
    go_ret
    exact ⟨rfl, b1⟩
  | some ss =>
  clear UN
  have UC := hide (unhide UC ss rfl)
  go_wp2
  go_loop [3] (fun kv => ∃ k : Nat, k ≤ s.size ∧ kv = .int .i64 k ∧ Hid ((47 : UInt8) ∉ s.data.toList.drop k)) (fun kv => (intOf kv).toNat)
  case atStart => exact ⟨s.size, Nat.le_refl _, rfl, hide (by rw [List.drop_eq_nil_of_le (by simp)]; simp)⟩
  case round =>
    obtain ⟨k, hk, rfl, HM⟩ := hrel
    have hlen : s.data.toList.length = s.size := by simp
    have DONE : Hid (∀ h2 : k = 0 ∨ s.data.toList[k - 1]? = some 47, s.extract 0 (k - 1) = x) := hide fun h2 => by
      rw [← unhide UC k (by omega) (unhide HM) h2]
      apply ba_ext; rw [toB_list]; simp [ByteArray.data_extract]
    have HL := hide hlen
    clear UC hlen
    go_wp2
    · rename_i h2
      have hp : 0 < k := by assumption
      have hb : ((s[k - 1].toNat : Int) != 47) = true := by assumption
      have HM' : Hid ((47 : UInt8) ∉ s.data.toList.drop (k - 1)) := hide (by
        rw [List.drop_eq_getElem_cons (show k - 1 < s.data.toList.length by rw [unhide HL]; omega), show k - 1 + 1 = k by omega]
        intro h
        rcases List.mem_cons.1 h with h | h
        · have e : s[k - 1] = 47 := h.symm
          rw [e] at hb
          revert hb; decide
        · exact unhide HM h)
      go_round
      case rel => exact ⟨k - 1, by omega, by rw [show ((k - 1 : Nat) : Int) = (k : Int) - 1 by omega], HM'⟩
      case measure => simp [intOf]; omega
    · have h2 : ((s[k - 1].toNat : Int) != 47) = false := by assumption
      have D := unhide DONE (.inr (by
        rw [List.getElem?_eq_getElem (by rw [unhide HL]; omega)]
        refine congrArg some (UInt8.toNat_inj.1 (show s[k - 1].toNat = 47 from ?_))
        have h2 := of_decide_eq_true (p := (s[k - 1].toNat : Int) = 47) (by simpa using h2)
        omega))
      go_ret
      exact ⟨by rw [← D]; rfl, b1⟩
    · have h2 : ((s[k - 1].toNat : Int) != 47) = false := by assumption
      have D := unhide DONE (.inr (by
        rw [List.getElem?_eq_getElem (by rw [unhide HL]; omega)]
        refine congrArg some (UInt8.toNat_inj.1 (show s[k - 1].toNat = 47 from ?_))
        have h2 := of_decide_eq_true (p := (s[k - 1].toNat : Int) = 47) (by simpa using h2)
        omega))
      have D' : ByteArray.empty = x := by rw [← D, show k - 1 = 0 by omega]; simp
      go_ret
      exact ⟨by rw [← D']; rfl, b1⟩
    · have D := unhide DONE (.inl (by omega))
      have D' : ByteArray.empty = x := by rw [← D, show k - 1 = 0 by omega]; simp
      go_ret
      exact ⟨by rw [← D']; rfl, b1⟩
end Go.Proofs.YtggmgfkmbgcooaaGreatDoor

/- spec.TxsIn. -/
namespace Go.Proofs.YtggmgfkmbgcooaaGreatDoor
open Go.RowKit
set_option linter.unusedSectionVars false
variable [∀ (a b c d : Int), Decidable (Ok4 a b c d)]
variable [∀ (a b c d : Nat), Decidable (okN a b c d)]
variable [∀ (last : Int) (s : St), Decidable (GoodSt last s)]
variable [∀ (x : T4), Decidable (OkT x)]

theorem four_plains (xs : List T4) (u : Value) (h : u ∈ tcells xs) : u.oneCell' = true := by
  obtain ⟨x, _, hx⟩ := List.mem_flatMap.1 h
  simp [tcell] at hx; rcases hx with rfl | rfl | rfl | rfl <;> rfl
/-- An append of an own list onto an own list. -/
theorem append_ot {ops : Array Oper} {rest : List Oper} {o : Oper} {a : Act} {Q : Exit → Act → World → Prop} {w : World} (hgd : o.guard = none) (s x : Operand)
    (ho : o.op = .call { callee := .builtin .append, args := #[s, x], argTypes := #[33, 33] }) (base B : Nat) (v u : Value) (xs ys : List T4) (hs : a.eval s = v) (hx : a.eval x = u)
    (hown : OT w base v xs) (hp : OT w B u ys) (hl : xs.length + ys.length ≤ 4194304) (hbase : base ≤ w.heap.size)
    (h : ∀ v' w', OT w' base v' (xs ++ ys) → w.grownBy w' v.ownBlock → (v'.ownBlock = v.ownBlock ∨ v'.ownBlock = some w.heap.size) → wpList Tryz.prog ops Q rest (a.put o.dst v') w') :
    wpList Tryz.prog ops Q (o :: rest) a w := by
  obtain ⟨i0, hi, hz0, hz1, hz2⟩ := info_parts Tryz.infoTx
  have hp0 := hp
  rcases hp.2 with ⟨rfl, h0⟩ | ⟨g, cap, cur, rfl, _⟩
  · obtain rfl := List.length_eq_zero_iff.1 h0
    exact wpList_append_own_none hgd s x 33 ho base 90 i0 4 Tryz.underlying33 hi v xs.length (tcells xs) hs hown hx (h v w (by simpa using hown) (grown_refl _ _) (.inl rfl))
  · refine wpList_append_own_at _ hgd s x 33 ho base 90 i0 (txv 0 0 0 0) 4 32 Tryz.underlying33 hi hz0 hz1 hz2 rfl (by decide) v xs.length (tcells xs) hs hown ⟨g, 0, none⟩ ys.length cap (tcells ys) hx (tcells_len ys) (World.ownsRow.cells hp0 (g := g) rfl) (four_plains ys) (by unfold maxLen; omega) (by omega) hbase ?_
    intro v' w' ho' hg' _ hb'
    refine h v' w' ?_ hg' hb'
    unfold OT
    rw [tcells_append, List.length_append]
    exact ho'
theorem OStV.kept {w w' : World} {B : Nat} {v : Value} {ss : List St} {vs : List Value} {row : Option Nat} (h : OStV w B v ss vs) (hg : w.grownBy w' row) (hv : v.ownBlock = none ∨ v.ownBlock ≠ row) (hs : ∀ k, k < ss.length → (vs.getD k (.slice none 0 0)).ownBlock = none ∨ (vs.getD k (.slice none 0 0)).ownBlock ≠ row) : OStV w' B v ss vs :=
  ⟨h.len, World.ownsRow.kept h.row hg hv, fun k hk => World.ownsRow.kept (h.each k hk) hg (hs k hk), h.apart⟩
theorem apart_blocks {u v : Value} {lo hi : Nat} (hu : ∀ b, u.ownBlock = some b → lo ≤ b ∧ b < hi) (hv : ∀ b, v.ownBlock = some b → b < lo ∨ hi ≤ b) : u.ownBlock = none ∨ u.ownBlock ≠ v.ownBlock := by
  cases h : u.ownBlock with
  | none => exact .inl rfl
  | some b =>
    refine .inr fun e => ?_
    have h1 := hu b h
    have h2 := hv b e.symm
    omega
theorem flat_len (ss : List St) (h : ∀ s ∈ ss, s.2.length ≤ 2) : (ss.flatMap (·.2)).length ≤ ss.length * 2 := by
  induction ss with
  | nil => simp
  | cons s ss ih =>
    have h1 := h s (by simp)
    have h2 := ih fun x hx => h x (by simp [hx])
    rw [List.flatMap_cons, List.length_append, List.length_cons]; omega
theorem flat_more (ss : List St) (k : Nat) (hk : k < ss.length) : (ss.take (k + 1)).flatMap (·.2) = (ss.take k).flatMap (·.2) ++ (ss.getD k zst).2 := by
  rw [List.take_succ_eq_append_getElem hk, List.flatMap_append, List.getD_eq_getElem?_getD, List.getElem?_eq_getElem hk]
  simp

end Go.Proofs.YtggmgfkmbgcooaaGreatDoor

/- A range over a function whose rounds are handed what memory holds: the law by which Steps is walked. -/
namespace Go.Proofs.YtggmgfkmbgcooaaGreatDoor
open Go Go.RowKit

theorem grown_of {w w' : World} (h : Below w.heap.size w w') : w.grownBy w' none := ⟨h.os, h.tape, h.output, h.size, fun k hk _ => h.block k hk⟩
/-- How the body of round k is left: it goes on, or it returns. -/
def fedPost (B n₀ : Nat) (G X : World → Prop) (W : World) : Exit → Act → World → Prop
  | .normal, _, W' => KeepsFrom B W W' ∧ Below n₀ W W' ∧ G W'
  | .ret, _, W' => KeepsFrom B W W' ∧ X W'
  | _, _, _ => False
/-- What an iterator of m rounds does, whatever its caller keeps (J) between rounds: in round k it hands out what 'hand k' says of values and memory, made since the caller was left. -/
def Feeds (F : Fence) (n : Nat) (P : Program) (gf : Nat) (lb : Array Value) (n₀ m : Nat) (hand : Nat → Array Value → World → World → Prop) (w : World) : Prop :=
  ∀ (l : Nat) (J X : Nat → World → Prop) (W : World), Below w.heap.size w W → (∀ k A A', J k A → Below A.heap.size A A' → J k A') → (∀ k A A', X k A → Below A.heap.size A A' → X k A') →
    (∀ k vs U V, J k U → Below U.heap.size U V → k < m → hand k vs U V → YieldAt F (n - 1) P l vs V fun e V' => (e = .returned (.bool true) ∧ J (k + 1) V' ∧ Below n₀ V V') ∨ (e = .returned (.bool false) ∧ X k V')) →
    J 0 W → CallsIn F n P gf (#[.func (.yield l) #[] #[]] ++ lb) W fun e W' => (∃ v, e = .returned v) ∧ (J m W' ∨ ∃ k, k < m ∧ X k W')

variable {F : Fence} {n : Nat} {P : Program}
theorem range_fed {g : Operand} {ps : Array Tmp} {assign body : Code} {R : Exit → Act → World → Prop} {a : Act} {w : World}
    (hro : F.round = none) (h1 : 1 ≤ n) {gf : Nat} {lb : Array Value} (hg : a.eval g = .func (.func gf) #[] lb) (hFg : F.fn gf) (eg : ∀ args w, (callFunc gf args).run P w = .ok (.enter gf args) w)
    {n₀ m : Nat} {hand : Nat → Array Value → World → World → Prop} (hn₀ : n₀ ≤ w.heap.size) (hps : ∀ k vs U W, hand k vs U W → vs.size = ps.size) (hseq : Feeds F (n - 1) P gf lb n₀ m hand w)
    (I X : Nat → World → Prop) (hI : OwnFrom w.heap.size I) (hX : OwnFrom w.heap.size X) (h0 : I 0 w)
    (Ax : Nat → Act → World → Prop) (hAx : ∀ a', OwnFrom w.heap.size (fun k W => Ax k a' W))
    (hassign : ∀ (l k : Nat) (vs : Array Value) (U W : World) (K : Act → World → Prop), k < m → I k U → Below U.heap.size U W → hand k vs U W → (∀ a' W', KeepsFrom w.heap.size W W' → Below n₀ W W' → Ax k a' W' → K a' W') →
      assign.wpIn (F.inRound l) (n - 1 - 1) P (Exit.then K (fun _ _ _ => False)) { tmps := (ps.zip vs).foldl (fun t (p, v) => t.setIfInBounds p v) a.tmps, defers := [] } W)
    (hbody : ∀ (l k : Nat) (a' : Act) (W : World), k < m → Ax k a' W → body.wpIn (F.inRound l) (n - 1 - 1) P (fedPost w.heap.size n₀ (I (k + 1)) (X k) W) a' W)
    (hdone : ∀ (D : Nat) (W : World), w.heap.size ≤ D → I m W → W.heap[D]? = some (.deferred (some [])) → R .normal { a with defers := { target := .collected D, args := #[] } :: a.defers } W)
    (hstop : ∀ (D k : Nat) (W : World), w.heap.size ≤ D → k < m → X k W → W.heap[D]? = some (.deferred (some [])) → Code.ret.wpIn F n P R { a with defers := { target := .collected D, args := #[] } :: a.defers } W) :
    (Code.rangeFunc g ps assign body).wpIn F n P R a w := by
  refine wpIn_rangeFunc fun fn hfn => ?_
  rw [hro]
  -- the two blocks that the statement lays: where deferred calls are kept, and the loop's record
  let D := w.heap.size
  let L := w.heap.size + 1
  let book : LoopState → Option Code → Loop := fun st j => { state := st, pending := j, fn, tmps := a.tmps, params := ps, assign, body, defers := D }
  let W0 := (w.alloc (.deferred (some []))).alloc (.loop (book .ready none))
  have zW0 : W0.heap.size = w.heap.size + 2 := by simp [W0]
  have bW0 : Below w.heap.size w W0 := ((Below.refl _ w).alloc (Nat.le_refl _) _).alloc (by simp) _
  have rec0 : W0.heap[L]? = some (.loop (book .ready none)) := by
    have := World.alloc_heap_new (w.alloc (.deferred (some []))) (.loop (book .ready none))
    rwa [World.size_alloc] at this
  have def0 : W0.heap[D]? = some (.deferred (some [])) := (Below.heap_alloc _ _ _ (by simp [D])).trans (World.alloc_heap_new w _)
  have iW0 : I 0 W0 := hI.alloc _ (hI.alloc _ h0)
  refine ⟨L, [{ target := .collected D, args := #[] }], W0, { target := .fn (.func gf) lb, args := #[.func (.yield L) #[] #[]] }, W0, gf, #[.func (.yield L) #[] #[]] ++ lb, W0, run_enterLoop_outer _ _ _ _ _, ?_, ?_, ?_, fun _ => h1, ?_⟩
  · simp only [resolve, hg]
    simp [go_sem]
  · intro f' hf'; simp [Target.leads] at hf'; subst hf'; exact hFg
  · simp [invoke, go_sem, eg]
  -- what the caller keeps between rounds: its own word, and both blocks
  refine (hseq L (fun k W => I k W ∧ W.heap[L]? = some (.loop (book .ready none)) ∧ W.heap[D]? = some (.deferred (some []))) (fun k W => X k W ∧ W.heap[L]? = some (.loop (book .done (some .ret))) ∧ W.heap[D]? = some (.deferred (some [])))
    W0 bW0 (fun k A A' h hb => ?_) (fun k A A' h hb => ?_) ?_ ⟨iW0, rec0, def0⟩).mono ?_
  · exact ⟨hI k A A' none h.1 (grown_of hb) (fun r e => by cases e), (hb.block L (Array.getElem?_eq_some_iff.1 h.2.1).1).trans h.2.1, (hb.block D (Array.getElem?_eq_some_iff.1 h.2.2).1).trans h.2.2⟩
  · exact ⟨hX k A A' none h.1 (grown_of hb) (fun r e => by cases e), (hb.block L (Array.getElem?_eq_some_iff.1 h.2.1).1).trans h.2.1, (hb.block D (Array.getElem?_eq_some_iff.1 h.2.2).1).trans h.2.2⟩
  · rintro k vs U V ⟨iU, recU, defU⟩ bU hk hh
    have recV := (bU.block L (Array.getElem?_eq_some_iff.1 recU).1).trans recU
    have defV := (bU.block D (Array.getElem?_eq_some_iff.1 defU).1).trans defU
    refine ⟨fn, _, assign, body, run_yield (P := P) (args := vs) recV (hps k vs U V hh), roundIn_of_wpIn hfn (hassign L k vs U V _ hk iU bU hh ?_)⟩
    intro a' A kA bA xA
    have recA := kA.same L _ (by simp [L]) recV rfl
    have defA := kA.same D _ (Nat.le_refl _) defV rfl
    have ltA := (Array.getElem?_eq_some_iff.1 recA).1
    refine ⟨_, run_beginRound recA rfl, ?_⟩
    generalize hM : A.putObj L (.loop { book .ready none with state := .busy }) = M
    have recM : M.heap[L]? = some (.loop { book .ready none with state := .busy }) := hM ▸ World.putObj_heap_same ltA
    have defM : M.heap[D]? = some (.deferred (some [])) := hM ▸ (World.putObj_heap_other (by simp [L, D])).trans defA
    have bM : Below n₀ A M := hM ▸ belowK_b (w := w) hn₀ A L _ _ (by simp [L]) recA rfl rfl
    have xM : Ax k a' M := hM ▸ (hAx a').putObj _ xA (by simp [L]) recA rfl
    refine wpIn_mono (hbody L k a' M hk xM) ?_
    intro e a3 Z hZ
    cases e with
    | normal =>
      obtain ⟨kZ, bZ, iZ⟩ := hZ
      have recZ := kZ.same L _ (by simp [L]) recM rfl
      have defZ := kZ.same D _ (Nat.le_refl _) defM rfl
      refine ⟨_, _, run_endRound (P := P) none recZ, .inl ⟨rfl, ⟨hI.putObj _ iZ (by simp [L]) recZ rfl, World.putObj_heap_same (Array.getElem?_eq_some_iff.1 recZ).1, (World.putObj_heap_other (by simp [L, D])).trans defZ⟩, ?_⟩⟩
      exact bA.trans (bM.trans (bZ.trans (belowK_b (w := w) hn₀ Z L _ _ (by simp [L]) recZ rfl rfl)))
    | ret =>
      obtain ⟨kZ, iZ⟩ := hZ
      have recZ := kZ.same L _ (by simp [L]) recM rfl
      have defZ := kZ.same D _ (Nat.le_refl _) defM rfl
      exact ⟨_, _, run_endRound (P := P) (some .ret) recZ, .inr ⟨rfl, hX.putObj _ iZ (by simp [L]) recZ rfl, World.putObj_heap_same (Array.getElem?_eq_some_iff.1 recZ).1, (World.putObj_heap_other (by simp [L, D])).trans defZ⟩⟩
    | exit id => exact hZ.elim
    | goto t => exact hZ.elim
    | panic c => exact hZ.elim
    | outgrown => exact hZ.elim
  · rintro e Z ⟨⟨v, rfl⟩, (⟨iZ, recZ, defZ⟩ | ⟨k, hk, iZ, recZ, defZ⟩)⟩
    · exact ⟨none, _, run_endLoop (P := P) recZ (by simp [book]), hdone D _ (Nat.le_refl _) (hI.putObj _ iZ (by simp [L]) recZ rfl) ((World.putObj_heap_other (by simp [L, D])).trans defZ)⟩
    · exact ⟨some .ret, _, run_endLoop (P := P) recZ (by simp [book]), hstop D k _ (Nat.le_refl _) hk (hX.putObj _ iZ (by simp [L]) recZ rfl) ((World.putObj_heap_other (by simp [L, D])).trans defZ)⟩
end Go.Proofs.YtggmgfkmbgcooaaGreatDoor

/- strings.Index, Cut, CutPrefix, LastIndex, HasPrefix at a mark of one byte. -/
namespace Go.Proofs.YtggmgfkmbgcooaaGreatDoor
open Go.RowKit
set_option linter.unusedSectionVars false
variable [∀ (a b c d : Int), Decidable (Ok4 a b c d)]
variable [∀ (a b c d : Nat), Decidable (okN a b c d)]
variable [∀ (last : Int) (s : St), Decidable (GoodSt last s)]
variable [∀ (x : T4), Decidable (OkT x)]

theorem ib_cases (m : UInt8) (l : List UInt8) : (m ∉ l ∧ Lib.indexByte l m = -1) ∨ (m ∈ l ∧ Lib.indexByte l m = ((l.takeWhile (· != m)).length : Int)) := by
  induction l with
  | nil => exact .inl ⟨by simp, rfl⟩
  | cons b l ih =>
    unfold Lib.indexByte
    by_cases h : b = m
    · subst h; exact .inr ⟨by simp, by simp⟩
    · have hb : (b == m) = false := by simpa using h
      have hn : (b != m) = true := by simpa using h
      rw [if_neg (by simpa using h)]
      rcases ih with ⟨h1, h2⟩ | ⟨h1, h2⟩
      · rw [h2]; exact .inl ⟨by simp [h1, Ne.symm h], rfl⟩
      · rw [h2, if_neg (by simp)]
        refine .inr ⟨by simp [h1], ?_⟩
        rw [List.takeWhile_cons, if_pos hn]; simp

set_option maxHeartbeats 1000000 in
set_option maxRecDepth 100000 in
theorem lite_index (m : UInt8) (s : ByteArray) (w : World) :
    Calls Tryz.prog 142 #[.string s, .string ⟨#[m]⟩] w fun e w' => e = .returned (.int .i64 (Lib.indexByte s.data.toList m)) ∧ w' = w := by
  have IB := hide fun w => Tryz.stringslite_IndexByte s (m.toNat : Int) w
  have e1 : ((m.toNat : Nat) : Int).toNat.toUInt8 = m := by simp
  rw [e1] at IB
  have hz : (⟨#[m]⟩ : ByteArray).size = 1 := rfl
  have hi : (⟨#[m]⟩ : ByteArray)[0]'(by rw [hz]; omega) = m := rfl
  have hne : ([m] == s.toList) = true → Lib.indexByte s.data.toList m = 0 := fun h => by
    have h1 : s.toList = [m] := (by simpa using h : [m] = s.toList).symm
    rw [ByteArray.toList_eq] at h1
    rw [h1]; simp [Lib.indexByte]
  cases hb : ([m] == s.toList) with
  | true =>
    rw [hne hb]
    clear IB hne
    go_enter Tryz.func142, Tryz.ntmps142
    go_wp2
    go_ret
    exact ⟨rfl, rfl⟩
  | false =>
    clear hne
    generalize Lib.indexByte s.data.toList m = r at *
    go_enter Tryz.func142, Tryz.ntmps142
    go_wp2_with (first | (go_at_call 155; refine (unhide IB _).mono ?_; rintro e w' ⟨rfl, rfl⟩))
    go_ret
    exact ⟨rfl, rfl⟩
set_option maxHeartbeats 1000000 in
set_option maxRecDepth 100000 in
theorem index_mark (m : UInt8) (s : ByteArray) (w : World) :
    Calls Tryz.prog 133 #[.string s, .string ⟨#[m]⟩] w fun e w' => e = .returned (.int .i64 (Lib.indexByte s.data.toList m)) ∧ w' = w := by
  have IB := hide fun w => lite_index m s w
  generalize Lib.indexByte s.data.toList m = r at *
  generalize (⟨#[m]⟩ : ByteArray) = q at *
  go_enter Tryz.func133, Tryz.ntmps133
  go_wp2_with (first | (go_at_call 142; refine (unhide IB _).mono ?_; rintro e w' ⟨rfl, rfl⟩))
  go_ret
  exact ⟨rfl, rfl⟩
/-- What Cut answers at a mark of one byte. -/
def cutA (m : UInt8) (s : ByteArray) : ByteArray × ByteArray := if m ∈ s.data.toList then (toB (hd m s.data.toList), toB (tl m s.data.toList)) else (s, ⟨#[]⟩)
theorem cutA_size (m : UInt8) (s : ByteArray) : (cutA m s).1.size ≤ s.size ∧ (cutA m s).2.size ≤ s.size := by
  unfold cutA
  split
  · have h := congrArg List.length (List.takeWhile_append_dropWhile (p := (· != m)) (l := s.data.toList))
    rw [List.length_append] at h
    have h2 : s.data.toList.length = s.size := by simp
    simp only [toB_size, hd, tl, List.length_tail]
    omega
  · exact ⟨Nat.le_refl _, Nat.zero_le _⟩
theorem cut_ext {m : UInt8} {s : ByteArray} (h : m ∈ s.data.toList) : ∃ k : Nat, k < s.size ∧ (s.data.toList.takeWhile (· != m)).length = k ∧ s.extract 0 k = (cutA m s).1 ∧ s.extract (k + 1) s.size = (cutA m s).2 := by
  have h1 := List.takeWhile_append_dropWhile (p := (· != m)) (l := s.data.toList)
  have h3 := congrArg List.length h1
  rw [List.length_append] at h3
  have h2 : s.data.toList.length = s.size := by simp
  have h4 : s.data.toList.dropWhile (· != m) ≠ [] := fun e => by
    rw [e, List.append_nil] at h1
    have := (List.all_takeWhile (p := (· != m)) (l := s.data.toList))
    rw [h1] at this
    have := List.all_eq_true.1 this m h
    simp at this
  have h5 : 0 < (s.data.toList.dropWhile (· != m)).length := List.length_pos_iff.2 h4
  have e1 : hd m s.data.toList = s.data.toList.takeWhile (· != m) := rfl
  have e2 : tl m s.data.toList = (s.data.toList.dropWhile (· != m)).tail := rfl
  unfold cutA
  rw [if_pos h, e1, e2]
  generalize s.data.toList.takeWhile (· != m) = x at *
  generalize s.data.toList.dropWhile (· != m) = y at *
  refine ⟨_, by omega, rfl, ?_, ?_⟩
  · rw [ext_toB, ← h1]; simp
  · rw [rst_all, ← h1]; simp

set_option maxHeartbeats 1000000 in
set_option maxRecDepth 100000 in
theorem lite_cut (m : UInt8) (s : ByteArray) (w : World) (hs : s.size ≤ 33554432) :
    Calls Tryz.prog 144 #[.string s, .string ⟨#[m]⟩] w fun e w' => e = .returned (.tuple #[.string (cutA m s).1, .string (cutA m s).2, .bool (decide (m ∈ s.data.toList))]) ∧ Below w.heap.size w w' := by
  have IX := hide fun w => lite_index m s w
  have hz : (⟨#[m]⟩ : ByteArray).size = 1 := rfl
  rcases ib_cases m s.data.toList with ⟨h1, h2⟩ | ⟨h1, h2⟩
  · rw [h2] at IX
    have e1 : cutA m s = (s, ⟨#[]⟩) := if_neg h1
    rw [e1, decide_eq_false h1]
    clear h1 h2 e1
    generalize (⟨#[m]⟩ : ByteArray) = q at *
    go_enter Tryz.func144, Tryz.ntmps144
    go_wp2_with (first | (go_at_call 142; refine (unhide IX _).mono ?_; rintro e w' ⟨rfl, rfl⟩))
    go_ret3
    exact ⟨rfl, Below.refl _ _⟩
  · obtain ⟨k, hk, hkl, e1, e2⟩ := cut_ext h1
    rw [h2, hkl] at IX
    rw [← e1, ← e2, decide_eq_true h1]
    clear h1 h2 e1 e2 hkl
    have mixed : Tryz.prog.follows .mixedOrders = true := by kernel_rfl
    generalize (⟨#[m]⟩ : ByteArray) = q at *
    go_enter Tryz.func144, Tryz.ntmps144
    go_wp2_with (first | (go_at_call 142; refine (unhide IX _).mono ?_; rintro e w' ⟨rfl, rfl⟩))
    go_region_o
    go_wp2
    go_ret3
    exact ⟨rfl, (Below.refl _ _).drew⟩
set_option maxHeartbeats 1000000 in
set_option maxRecDepth 100000 in
theorem cut_mark (m : UInt8) (s : ByteArray) (w : World) (hs : s.size ≤ 33554432) :
    Calls Tryz.prog 135 #[.string s, .string ⟨#[m]⟩] w fun e w' => e = .returned (.tuple #[.string (cutA m s).1, .string (cutA m s).2, .bool (decide (m ∈ s.data.toList))]) ∧ Below w.heap.size w w' := by
  have IX := hide fun w => lite_cut m s w hs
  generalize decide (m ∈ s.data.toList) = r at *
  generalize cutA m s = r at *
  generalize (⟨#[m]⟩ : ByteArray) = q at *
  go_enter Tryz.func135, Tryz.ntmps135
  go_wp2_with (first | (go_at_call 144; refine (unhide IX _).mono ?_; rintro e w' ⟨rfl, bb⟩))
  go_ret3
  exact ⟨rfl, bb⟩
set_option maxHeartbeats 1000000 in
set_option maxRecDepth 100000 in
theorem last_mark (m : UInt8) (s : ByteArray) (w : World) (hs : s.size ≤ 33554432) :
    Calls Tryz.prog 58 #[.string s, .string ⟨#[m]⟩] w fun e w' => e = .returned (.int .i64 (Lib.lastIndexByte s (m.toNat : Int))) ∧ w' = w := by
  have IX := hide fun w => Tryz.bytealg_LastIndexByteString_nm s (m.toNat : Int) (by omega) w
  have hz : (⟨#[m]⟩ : ByteArray).size = 1 := rfl
  have hi : (⟨#[m]⟩ : ByteArray)[0]'(by rw [hz]; omega) = m := rfl
  generalize Lib.lastIndexByte s (m.toNat : Int) = r at *
  go_enter Tryz.func58, Tryz.ntmps58
  go_wp2_with (first | (go_at_call 95; refine (unhide IX _).mono ?_; rintro e w' ⟨rfl, rfl⟩))
  go_ret
  exact ⟨rfl, rfl⟩
end Go.Proofs.YtggmgfkmbgcooaaGreatDoor
