/- Texts that belong together: Dent, Dent5, SpecNameOf, DrawName, DrawQc. -/
import Derived.Test.YtehdchpolgihlaaGreatDoorTfAJ
import Derived.Deep.RegionHeld3
import Derived.Deep.DeepCutAuto
import Derived.Test.YtehdchpolgihlaaGreatDoorTfAL
import Derived.Lib.ItoaLen
import Derived.Test.YtehdchpolgihlaaGreatDoorTfAM
/- spec.l2Dent, and the draws of the law on payments. -/
namespace Go.Proofs.YtehdchpolgihlaaGreatDoor
open Go.RowKit
set_option linter.unusedSectionVars false
variable [∀ (a b c d : Int), Decidable (Ok4 a b c d)]
variable [∀ (a b c d : Nat), Decidable (okN a b c d)]
variable [∀ (x : T4), Decidable (OkT x)]

def dents : List ByteArray := [⟨#[48]⟩, ⟨#[44]⟩, ⟨#[62]⟩, ⟨#[47]⟩, ⟨#[124]⟩, ⟨#[120]⟩, ⟨#[49]⟩]
theorem dents_size {q : ByteArray} (h : q ∈ dents) : q.size = 1 := by
  simp only [dents, List.mem_cons, List.not_mem_nil, or_false] at h
  rcases h with rfl | rfl | rfl | rfl | rfl | rfl | rfl <;> rfl

theorem cur_drew {w : World} {base g ca : Nat} {ao : Option Addr} {xs : List Int} (h : Cur w base g ao ca xs) : Cur w.drew base g ao ca xs := ⟨h.low, h.len, h.cells, h.code⟩
theorem grown_undrew {w w' : World} {row : Option Nat} (h : w.drew.grownBy w' row) : w.grownBy w' row := ⟨h.os, h.tape, h.output, h.size, h.block⟩

set_option maxHeartbeats 4000000 in
set_option maxRecDepth 100000 in
theorem dent_any (base g ca : Nat) (ao : Option Addr) (xs : List Int) (s : ByteArray) (w : World) (hB : base ≤ w.heap.size) (hs : s.size ≤ 200) (h : Cur w base g ao ca xs) :
    Calls Tryz.prog 124 #[.pointer (some ⟨g, 0, none⟩), .string s] w fun e w' => ∃ t : ByteArray, e = .returned (.string t) ∧ t.size ≤ 401 ∧ w.grownBy w' (some g) := by
  have P := hide h
  clear h
  go_enter Tryz.func124, Tryz.ntmps124
  go_wp2_with fail
  refine (below_any base g ca ao xs ((s.size : Int) + 1) _ hB (by omega) (by omega) (unhide P)).mono ?_
  rintro e w1 ⟨a, rfl, a0, a1, c1, e1⟩
  have P1 := hide (And.intro c1 e1)
  have s1 := e1.size
  clear P c1 e1
  obtain ⟨at', rfl⟩ := Int.eq_ofNat_of_zero_le a0
  have hat : at' ≤ s.size := by omega
  clear a0 a1
  go_wp2_with fail
  refine (below_any base g ca ao xs 5 _ (by omega) (by omega) (by omega) (unhide P1).1).mono ?_
  rintro e w2 ⟨k, rfl, k0, k1, c2, e2⟩
  have s2 := e2.size
  have gg := grown_trans (unhide P1).2 e2
  have HC := hide c2
  clear P1 c2 e2
  have z1 : (s.extract 0 at').size ≤ s.size := ext_size s 0 at'
  have z2 : (s.extract at' s.size).size ≤ s.size := ext_size s at' s.size
  by_cases h0 : k = 0
  · subst h0
    go_wp2
    go_ret
    exact ⟨_, rfl, by omega, gg⟩
  · have n0 : (k == 0) = false := by simp [h0]
    by_cases h1 : k = 1
    · subst h1
      clear h0
      obtain ⟨u, hu⟩ : ∃ u, s.extract 0 at' = u := ⟨_, rfl⟩
      obtain ⟨v, hv⟩ : ∃ v, s.extract at' s.size = v := ⟨_, rfl⟩
      have t1 : ∀ w', (Instr.slice 9 (.string s) none (some (.int .i64 (at' : Int))) none).run Tryz.prog w' = .ok (.string u) w' := fun w' => by
        rw [← hu]; simp [Instr.slice, go_sem, run_underlying Tryz.underlying9, hat]
      have t2 : ∀ w', (Instr.slice 9 (.string s) (some (.int .i64 (at' : Int))) none none).run Tryz.prog w' = .ok (.string v) w' := fun w' => by
        rw [← hv]; simp [Instr.slice, go_sem, run_underlying Tryz.underlying9, hat]
      have zu : u.size ≤ 200 := by rw [← hu]; omega
      have zv : v.size ≤ 200 := by rw [← hv]; omega
      clear hu hv z1 z2 hat
      go_wp2_with fail
      go_region_held3 (fun _ => True) (trivial) (first
        | (go_at_call 136; refine (pick_lit base g ca ao xs dents w2.drew (by simp; omega) (by decide) (by decide) (cur_drew (unhide HC))).mono ?_; rintro e w3 ⟨q, rfl, hq, _, e3⟩
           have zq := dents_size hq
           have gg3 := grown_trans gg (grown_undrew e3)
           obtain ⟨y1, hy1⟩ : ∃ y, y = u ++ q := ⟨_, rfl⟩
           obtain ⟨y2, hy2⟩ : ∃ y, y = y1 ++ v := ⟨_, rfl⟩
           have zy1 : y1.size ≤ 201 := (by rw [hy1, ByteArray.size_append]; omega)
           have zy2 : y2.size ≤ 401 := (by rw [hy2, ByteArray.size_append]; omega)
           have q1 : ∀ w', (Op.stringOp .add u q).run Tryz.prog w' = .ok (.string y1) w' := (fun w' => by rw [hy1]; exact run_string_add_sum w' _ _ (by omega))
           have q2 : ∀ w', (Op.stringOp .add y1 v).run Tryz.prog w' = .ok (.string y2) w' := (fun w' => by rw [hy2]; exact run_string_add_sum w' _ _ (by omega))
           clear hy1 hy2))
      all_goals
        go_wp2
        go_ret
        exact ⟨_, rfl, zy2, gg3⟩
    · have n1 : (k == 1) = false := by simp [h1]
      clear h0 h1
      go_wp2
      go_ret
      exact ⟨_, rfl, by omega, gg⟩

end Go.Proofs.YtehdchpolgihlaaGreatDoor

/- spec.l2Dent: longer texts, and the cursor behind it. -/
namespace Go.Proofs.YtehdchpolgihlaaGreatDoor
open Go.RowKit
set_option linter.unusedSectionVars false
variable [∀ (a b c d : Int), Decidable (Ok4 a b c d)]
variable [∀ (a b c d : Nat), Decidable (okN a b c d)]
variable [∀ (x : T4), Decidable (OkT x)]

set_option maxHeartbeats 4000000 in
set_option maxRecDepth 100000 in
/-- A number below n is drawn, n above 256: of four bytes. -/
theorem below_far (base g ca : Nat) (ao : Option Addr) (xs : List Int) (n : Int) (w : World) (hB : base ≤ w.heap.size) (hn : 257 ≤ n) (hm : n ≤ 1000000) (h : Cur w base g ao ca xs) :
    Calls Tryz.prog 60 #[.pointer (some ⟨g, 0, none⟩), .int .i64 n] w fun e w' => ∃ x : Int, e = .returned (.int .i64 x) ∧ 0 ≤ x ∧ x < n ∧ Cur w' base g ao ca xs ∧ w.grownBy w' (some g) := by
  have H0 := hide h
  clear h
  go_enter Tryz.func60, Tryz.ntmps60
  go_wp2_with fail
  refine (byte_any base g ca ao xs _ (by omega) (unhide H0)).mono ?_
  rintro e w1 ⟨x1, rfl, a0, a1, c1, g1⟩
  have s1 := g1.size
  have H1 := hide (And.intro c1 g1)
  clear H0 c1 g1
  go_wp2_with fail
  refine (byte_any base g ca ao xs _ (by omega) (unhide H1).1).mono ?_
  rintro e w2 ⟨x2, rfl, b0, b1, c2, g2⟩
  have s2 := g2.size
  have H2 := hide (And.intro c2 (grown_trans (unhide H1).2 g2))
  clear H1 c2 g2
  go_wp2_with fail
  refine (byte_any base g ca ao xs _ (by omega) (unhide H2).1).mono ?_
  rintro e w3 ⟨x3, rfl, d0, d1, c3, g3⟩
  have s3 := g3.size
  have H3 := hide (And.intro c3 (grown_trans (unhide H2).2 g3))
  clear H2 c3 g3
  go_wp2_with fail
  refine (byte_any base g ca ao xs _ (by omega) (unhide H3).1).mono ?_
  rintro e w4 ⟨x4, rfl, f0, f1, c4, g4⟩
  have H4 := hide (And.intro c4 (grown_trans (unhide H3).2 g4))
  clear H3 c4 g4
  go_wp2
  go_ret
  exact ⟨_, rfl, Int.emod_nonneg _ (by omega), Int.emod_lt_of_pos _ (by omega), (unhide H4).1, (unhide H4).2⟩
theorem below_all (base g ca : Nat) (ao : Option Addr) (xs : List Int) (n : Int) (w : World) (hB : base ≤ w.heap.size) (hn : 1 ≤ n) (hm : n ≤ 1000000) (h : Cur w base g ao ca xs) :
    Calls Tryz.prog 60 #[.pointer (some ⟨g, 0, none⟩), .int .i64 n] w fun e w' => ∃ x : Int, e = .returned (.int .i64 x) ∧ 0 ≤ x ∧ x < n ∧ Cur w' base g ao ca xs ∧ w.grownBy w' (some g) := by
  by_cases h1 : n ≤ 256
  · exact below_any base g ca ao xs n w hB hn h1 h
  · exact below_far base g ca ao xs n w hB (by omega) hm h

set_option maxHeartbeats 4000000 in
set_option maxRecDepth 100000 in
theorem dent_cur (base g ca : Nat) (ao : Option Addr) (xs : List Int) (s : ByteArray) (w : World) (hB : base ≤ w.heap.size) (hs : s.size ≤ 4000) (h : Cur w base g ao ca xs) :
    Calls Tryz.prog 124 #[.pointer (some ⟨g, 0, none⟩), .string s] w fun e w' => ∃ t : ByteArray, e = .returned (.string t) ∧ t.size ≤ 8001 ∧ Cur w' base g ao ca xs ∧ w.grownBy w' (some g) := by
  have P := hide h
  clear h
  go_enter Tryz.func124, Tryz.ntmps124
  go_wp2_with fail
  refine (below_all base g ca ao xs ((s.size : Int) + 1) _ hB (by omega) (by omega) (unhide P)).mono ?_
  rintro e w1 ⟨a, rfl, a0, a1, c1, e1⟩
  have P1 := hide (And.intro c1 e1)
  have s1 := e1.size
  clear P c1 e1
  obtain ⟨at', rfl⟩ := Int.eq_ofNat_of_zero_le a0
  have hat : at' ≤ s.size := by omega
  clear a0 a1
  go_wp2_with fail
  refine (below_any base g ca ao xs 5 _ (by omega) (by omega) (by omega) (unhide P1).1).mono ?_
  rintro e w2 ⟨k, rfl, k0, k1, c2, e2⟩
  have s2 := e2.size
  have gg := grown_trans (unhide P1).2 e2
  have HC := hide c2
  clear P1 c2 e2
  have z1 : (s.extract 0 at').size ≤ s.size := ext_size s 0 at'
  have z2 : (s.extract at' s.size).size ≤ s.size := ext_size s at' s.size
  by_cases h0 : k = 0
  · subst h0
    go_wp2
    go_ret
    exact ⟨_, rfl, by omega, unhide HC, gg⟩
  · have n0 : (k == 0) = false := by simp [h0]
    by_cases h1 : k = 1
    · subst h1
      clear h0
      obtain ⟨u, hu⟩ : ∃ u, s.extract 0 at' = u := ⟨_, rfl⟩
      obtain ⟨v, hv⟩ : ∃ v, s.extract at' s.size = v := ⟨_, rfl⟩
      have t1 : ∀ w', (Instr.slice 9 (.string s) none (some (.int .i64 (at' : Int))) none).run Tryz.prog w' = .ok (.string u) w' := fun w' => by
        rw [← hu]; simp [Instr.slice, go_sem, run_underlying Tryz.underlying9, hat]
      have t2 : ∀ w', (Instr.slice 9 (.string s) (some (.int .i64 (at' : Int))) none none).run Tryz.prog w' = .ok (.string v) w' := fun w' => by
        rw [← hv]; simp [Instr.slice, go_sem, run_underlying Tryz.underlying9, hat]
      have zu : u.size ≤ 4000 := by rw [← hu]; omega
      have zv : v.size ≤ 4000 := by rw [← hv]; omega
      clear hu hv z1 z2 hat
      go_wp2_with fail
      go_region_held3 (fun _ => True) (trivial) (first
        | (go_at_call 136; refine (pick_lit base g ca ao xs dents w2.drew (by simp; omega) (by decide) (by decide) (cur_drew (unhide HC))).mono ?_; rintro e w3 ⟨q, rfl, hq, c3, e3⟩
           have zq := dents_size hq
           have HC3 := hide c3
           clear c3
           have gg3 := grown_trans gg (grown_undrew e3)
           obtain ⟨y1, hy1⟩ : ∃ y, y = u ++ q := ⟨_, rfl⟩
           obtain ⟨y2, hy2⟩ : ∃ y, y = y1 ++ v := ⟨_, rfl⟩
           have zy1 : y1.size ≤ 4001 := (by rw [hy1, ByteArray.size_append]; omega)
           have zy2 : y2.size ≤ 8001 := (by rw [hy2, ByteArray.size_append]; omega)
           have q1 : ∀ w', (Op.stringOp .add u q).run Tryz.prog w' = .ok (.string y1) w' := (fun w' => by rw [hy1]; exact run_string_add_sum w' _ _ (by omega))
           have q2 : ∀ w', (Op.stringOp .add y1 v).run Tryz.prog w' = .ok (.string y2) w' := (fun w' => by rw [hy2]; exact run_string_add_sum w' _ _ (by omega))
           clear hy1 hy2))
      all_goals
        go_wp2
        go_ret
        exact ⟨_, rfl, zy2, unhide HC3, gg3⟩
    · have n1 : (k == 1) = false := by simp [h1]
      clear h0 h1
      go_wp2
      go_ret
      exact ⟨_, rfl, by omega, unhide HC, gg⟩
end Go.Proofs.YtehdchpolgihlaaGreatDoor

/- spec.NameOf. -/
namespace Go.Proofs.YtehdchpolgihlaaGreatDoor
open Go.RowKit
set_option linter.unusedSectionVars false
variable [∀ (a b c d : Int), Decidable (Ok4 a b c d)]
variable [∀ (a b c d : Nat), Decidable (okN a b c d)]
variable [∀ (last : Int) (s : St), Decidable (GoodSt last s)]
variable [∀ (x : T4), Decidable (OkT x)]

theorem itoa_seven (n : Int) (h0 : -999999 ≤ n) (h1 : n ≤ 999999) : (Lib.itoa n).length ≤ 7 := by
  unfold Lib.itoa
  split
  · have := nDigits_six n.natAbs (by omega)
    rw [List.length_cons, Lib.decDigits_length]; omega
  · have := nDigits_six n.toNat (by omega)
    rw [Lib.decDigits_length]; omega
theorem itoa_short (n : Int) (h0 : -9223372036854775808 ≤ n) (h1 : n ≤ 9223372036854775807) : (Lib.itoa n).length ≤ 21 := by
  unfold Lib.itoa
  split
  · have := Lib.nDigits_le20 n.natAbs (by omega)
    rw [List.length_cons, Lib.decDigits_length]; omega
  · have := Lib.nDigits_le20 n.toNat (by omega)
    rw [Lib.decDigits_length]; omega
theorem txsT_len (ts : List T4) : (txsT ts).size ≤ ts.length * 28 := by
  unfold txsT
  split
  · rw [toB_size]; exact accT_len ts ts.length
  · exact Nat.zero_le _

set_option maxHeartbeats 8000000 in
set_option maxRecDepth 100000 in
theorem specNameOfW (up : ByteArray) (view : Int) (v : Value) (xs : List T4) (w : World) (hu : up.size + xs.length * 28 + 100 ≤ 33554432) (hx : xs.length ≤ 1048577) (h0 : -9223372036854775808 ≤ view) (h1 : view ≤ 9223372036854775807) (h : RT w v xs) :
    Calls Tryz.prog 115 #[.string up, .int .i64 view, v] w fun e w' => e = .returned (.string (nameAns up view xs)) ∧ Below w.heap.size w w' := by
  have DG := hide fun w => specDigits_any view w (by omega) (by omega)
  have TT := hide fun w h => specTxsText v xs w (by omega) h
  have RTH := hide h
  have NO := hide fun w => specNameOk (toB (nmOut up view xs)) w (by
    have := itoa_short view h0 h1
    have := txsT_len xs
    rw [toB_size]; unfold nmOut
    simp only [List.length_append, List.length_cons, Array.length_toList, ByteArray.size_data]
    omega)
  obtain ⟨hl, ao, ca, rfl, ha⟩ := h
  go_enter Tryz.func115, Tryz.ntmps115
  go_wp2
  go_loopw [7] (fun i wr => ∃ k : Nat, k ≤ xs.length ∧ i = .int .i64 k ∧ Hid (∀ j, j < k → OkT (xs.getD j (0, 0, 0, 0))) ∧ Below w.heap.size w wr) (fun i _ => xs.length - (intOf i).toNat)
  case atStart => exact ⟨0, Nat.zero_le _, rfl, hide (fun j hj => by omega), Below.refl _ _⟩
  case round =>
    obtain ⟨k, hk, rfl, HK, br⟩ := hrel
    have hsr := br.size
    by_cases hlt : k < xs.length
    · rcases ha with ha | ⟨g, rfl, ha⟩
      · subst ha; simp at hlt
      obtain ⟨a0, a1, a2, a3⟩ := ha k hlt
      have hg : g < w.heap.size := cell_lt a0
      have c0 := (br.cell (p := ⟨g, k * 4, none⟩) hg).trans a0
      have c1 := (br.cell (p := ⟨g, k * 4 + 1, none⟩) hg).trans a1
      have c2 := (br.cell (p := ⟨g, k * 4 + 2, none⟩) hg).trans a2
      have c3 := (br.cell (p := ⟨g, k * 4 + 3, none⟩) hg).trans a3
      have HNO : Hid (¬ OkT (xs.getD k (0, 0, 0, 0)) → nameAns up view xs = ⟨#[]⟩) := hide fun h => if_neg fun h2 => h (h2.1 _ (by rw [List.getD_eq_getElem?_getD, List.getElem?_eq_getElem hlt]; exact List.getElem_mem hlt))
      clear ha a0 a1 a2 a3
      generalize hxk : xs.getD k (0, 0, 0, 0) = x at *
      obtain ⟨xa, xb, xc, xd⟩ := x
      simp only at c0 c1 c2 c3
      by_cases hok : OkT (xa, xb, xc, xd)
      · have CK := hide fun w => specTxOk_yes xa xb xc xd w hok
        have HK' : Hid (∀ j, j < k + 1 → OkT (xs.getD j (0, 0, 0, 0))) := fun j hj => by
          by_cases e : j = k
          · subst e; rw [hxk]; exact hok
          · exact HK.out j (by omega)
        clear HK HNO hok hxk
        go_wp2_with fail
        refine (unhide CK _).mono ?_
        rintro e w1 ⟨rfl, b1⟩
        have b1' := br.trans (b1.mono hsr)
        clear c0 c1 c2 c3 b1 CK
        go_wp2
        go_roundw
        case rel => exact ⟨k + 1, by omega, by go_num, HK', b1'⟩
        case measure => simp [intOf]; omega
      · have CK := hide fun w => specTxOk_no xa xb xc xd w hok
        have HNO := hide (unhide HNO hok)
        clear HK hok hxk
        go_wp2_with fail
        refine (unhide CK _).mono ?_
        rintro e w1 ⟨rfl, b1⟩
        have b1' := br.trans (b1.mono hsr)
        clear c0 c1 c2 c3 b1 CK
        go_wp2
        go_ret
        exact ⟨by rw [unhide HNO]; rfl, b1'⟩
    · obtain rfl : k = xs.length := by omega
      have HA : Hid (∀ x ∈ xs, OkT x) := hide fun x hx => by
        obtain ⟨j, hj, rfl⟩ := List.getElem_of_mem hx
        have := HK.out j hj
        rwa [List.getD_eq_getElem?_getD, List.getElem?_eq_getElem hj] at this
      clear HK ha
      have NA : Hid (nameAns up view xs = if (stepsAns (toB (nmOut up view xs))).isSome then toB (nmOut up view xs) else ⟨#[]⟩) := hide (by
        unfold nameAns
        by_cases hq : (stepsAns (toB (nmOut up view xs))).isSome = true
        · rw [if_pos ⟨unhide HA, hq⟩, if_pos hq]
        · rw [if_neg fun e => hq e.2, if_neg hq])
      have EQ : up ++ (⟨#[47]⟩ : ByteArray) ++ (⟨(Lib.itoa view).toArray⟩ : ByteArray) ++ (⟨#[124]⟩ : ByteArray) ++ txsT xs = toB (nmOut up view xs) := by
        apply ba_ext
        rw [toB_list]
        simp [nmOut, ByteArray.data_append]
      have hd : (⟨(Lib.itoa view).toArray⟩ : ByteArray).size ≤ 21 := by
        have := itoa_short view h0 h1
        simpa [ByteArray.size] using this
      have hts := txsT_len xs
      obtain ⟨z, hz⟩ : ∃ z, toB (nmOut up view xs) = z := ⟨_, rfl⟩
      rw [hz] at NA NO EQ
      generalize (⟨(Lib.itoa view).toArray⟩ : ByteArray) = d at *
      generalize txsT xs = tt at *
      obtain ⟨b, hb⟩ : ∃ b, (stepsAns z).isSome = b := ⟨_, rfl⟩
      rw [hb] at NA NO
      clear hz hb HA
      have q1 : ∀ w, (Op.stringOp .add (up ++ (⟨#[47]⟩ : ByteArray)) d).run Tryz.prog w = .ok (.string (up ++ (⟨#[47]⟩ : ByteArray) ++ d)) w := fun w => run_string_add_sum w _ _ (by simp [ByteArray.size_append]; show up.size + 1 + d.size ≤ _; omega)
      have q2 : ∀ w, (Op.stringOp .add (up ++ (⟨#[47]⟩ : ByteArray) ++ d) (⟨#[124]⟩ : ByteArray)).run Tryz.prog w = .ok (.string (up ++ (⟨#[47]⟩ : ByteArray) ++ d ++ (⟨#[124]⟩ : ByteArray))) w := fun w => run_string_add_sum w _ _ (by simp [ByteArray.size_append]; show up.size + 1 + d.size + 1 ≤ _; omega)
      have q3 : ∀ w, (Op.stringOp .add (up ++ (⟨#[47]⟩ : ByteArray) ++ d ++ (⟨#[124]⟩ : ByteArray)) tt).run Tryz.prog w = .ok (.string z) w := fun w => by
        rw [run_string_add_sum w _ _ (by simp [ByteArray.size_append]; show up.size + 1 + d.size + 1 + tt.size ≤ _; omega), EQ]
      clear EQ
      go_wp2_with fail
      refine (unhide DG _).mono ?_
      rintro e w1 ⟨rfl, b1⟩
      have B1 := br.trans (b1.mono hsr)
      clear b1 DG
      generalize up ++ (⟨#[47]⟩ : ByteArray) = a1 at *
      generalize a1 ++ d = a2 at *
      generalize a2 ++ (⟨#[124]⟩ : ByteArray) = a3 at *
      go_wp2_with fail
      refine (unhide TT _ ((unhide RTH).below B1)).mono ?_
      rintro e w2 ⟨rfl, b2⟩
      have B2 := B1.trans (b2.mono B1.size)
      clear b2 TT
      go_wp2_with fail
      refine (unhide NO _).mono ?_
      rintro e w3 ⟨rfl, b3⟩
      have B3 := B2.trans (b3.mono B2.size)
      clear b3 NO
      cases b with
      | true =>
        go_wp2
        go_ret
        exact ⟨by rw [unhide NA]; rfl, B3⟩
      | false =>
        go_wp2
        go_ret
        exact ⟨by rw [unhide NA]; rfl, B3⟩
theorem specNameOf (up : ByteArray) (view : Int) (v : Value) (xs : List T4) (w : World) (hu : up.size + xs.length * 28 + 100 ≤ 1000000) (h0 : -999999 ≤ view) (h1 : view ≤ 999999) (h : RT w v xs) :
    Calls Tryz.prog 115 #[.string up, .int .i64 view, v] w fun e w' => e = .returned (.string (nameAns up view xs)) ∧ Below w.heap.size w w' :=
  specNameOfW up view v xs w (by omega) (by omega) (by omega) (by omega) h
end Go.Proofs.YtehdchpolgihlaaGreatDoor

/- The draws of names: spec.l5DrawRight, l5Draw. -/
namespace Go.Proofs.YtehdchpolgihlaaGreatDoor
open Go.RowKit
set_option linter.unusedSectionVars false
variable [∀ (a b c d : Int), Decidable (Ok4 a b c d)]
variable [∀ (a b c d : Nat), Decidable (okN a b c d)]
variable [∀ (x : T4), Decidable (OkT x)]
variable [∀ (last : Int) (s : St), Decidable (GoodSt last s)]

theorem grown_of_below {B : Nat} {w w' : World} (b : Below B w w') (h : B = w.heap.size) : w.grownBy w' none := by subst h; exact ⟨b.os, b.tape, b.output, b.size, fun k hk _ => b.block k hk⟩
theorem nm_len (ss : List St) (h : ∀ s ∈ ss, OkSt s) : (nm ss).length ≤ ss.length * 64 := by
  induction ss with
  | nil => simp [nm]
  | cons s ss ih =>
    have h1 := h s (by simp)
    have h2 := ih fun x hx => h x (by simp [hx])
    have h3 := txsT_len2 s.2 h1.2.1
    have h4 := nDigits_six s.1.toNat (by have := h1.1; omega)
    have e : nm (s :: ss) = 47 :: stText s ++ nm ss := by simp [nm]
    rw [e, List.length_append, List.length_cons, List.length_cons]
    unfold stText
    rw [List.length_append, List.length_cons, Lib.decDigits_length]
    have e2 : (txsT s.2).data.toList.length = (txsT s.2).size := by simp
    omega
theorem name_len {s : ByteArray} (h : (stepsAns s).isSome = true) : s.size ≤ 1920 := by
  cases hs : stepsAns s with
  | none => rw [hs] at h; cases h
  | some ss =>
    obtain ⟨h1, h2⟩ := (names_iff _ _).1 hs
    have h3 := nm_len ss h2.2.1
    have h4 := h2.1
    have e : s.size = s.data.toList.length := by simp
    rw [e, h1]; omega
theorem nameAns_len (up : ByteArray) (view : Int) (ts : List T4) : (nameAns up view ts).size ≤ 1920 := by
  unfold nameAns
  split
  · rename_i h; exact name_len h.2
  · exact Nat.zero_le _

set_option maxHeartbeats 8000000 in
set_option maxRecDepth 100000 in
theorem drawNameR (base g ca : Nat) (ao : Option Addr) (xs : List Int) (w : World) (hB : base ≤ w.heap.size) (h : Cur w base g ao ca xs) :
    Calls Tryz.prog 68 #[.pointer (some ⟨g, 0, none⟩)] w fun e w' => ∃ s : ByteArray, e = .returned (.string s) ∧ s.size ≤ 1920 ∧ Cur w' base g ao ca xs ∧ w.grownBy w' (some g) := by
  obtain ⟨i0, hi, hz0, hz1, hz2⟩ := info_parts Tryz.infoTx
  have hlt := h.lt
  have H0 := hide h
  clear h
  go_enter Tryz.func68, Tryz.ntmps68
  go_wp2
  go_loopw [3, 4, 5] (fun sv vv iv wr => ∃ (i : Nat) (view : Int) (s : ByteArray), i ≤ 6 ∧ iv = .int .i64 i ∧ vv = .int .i64 view ∧ 0 ≤ view ∧ view ≤ 3 * i ∧ sv = .string s ∧ s.size ≤ 1920 ∧ Cur wr base g ao ca xs ∧ w.grownBy wr (some g)) (fun _ _ iv _ => 7 - (intOf iv).toNat)
  case atStart => exact ⟨0, 0, ⟨#[]⟩, by omega, rfl, rfl, by omega, by omega, rfl, by decide, unhide H0, grown_refl _ _⟩
  case round =>
    clear H0
    obtain ⟨i, view, s, hi6, rfl, rfl, v0, v1, rfl, hs, hc, hg⟩ := hrel
    have hsz := hg.size
    have P := hide (And.intro hc hg)
    clear hc hg
    go_wp2_with fail
    refine (below_any base g ca ao xs 6 _ (by omega) (by omega) (by omega) (unhide P).1).mono ?_
    rintro e w1 ⟨n, rfl, _, n1, c1, e1⟩
    have s1 := e1.size
    have P1 := hide (And.intro c1 (grown_trans (unhide P).2 e1))
    clear P c1 e1
    by_cases hin : (i : Int) < n
    · go_wp2_with fail
      refine (below_any base g ca ao xs 4 _ (by omega) (by omega) (by omega) (unhide P1).1).mono ?_
      rintro e w2 ⟨q, rfl, q0, q1, c2, e2⟩
      have s2 := e2.size
      have P2 := hide (And.intro c2 (grown_trans (unhide P1).2 e2))
      clear P1 c2 e2
      have hqd : 0 ≤ q.tdiv 3 ∧ q.tdiv 3 ≤ 1 := by rw [Int.tdiv_eq_ediv_of_nonneg q0]; omega
      have hqe : 0 ≤ q / 3 ∧ q / 3 ≤ 1 := by omega
      have hw2 : w.heap.size ≤ w2.heap.size := by omega
      go_wp2
      go_loopw [6, 7] (fun lv kv w3 => ∃ (k : Nat) (ys : List T4), k ≤ 3 ∧ kv = .int .i64 k ∧ ys.length = k ∧ OT w3 w2.heap.size lv ys ∧ Cur w3 base g ao ca xs ∧ w.grownBy w3 (some g) ∧ w2.heap.size ≤ w3.heap.size) (fun _ kv _ => 4 - (intOf kv).toNat)
      case atStart => exact ⟨0, [], by omega, rfl, rfl, World.ownsRow_lit w2 #[] 0 (Nat.le_refl _) (by unfold maxLen; omega) rfl, (unhide P2).1.alloc (by omega) _, grown_trans (unhide P2).2 (World.grownBy_alloc _ _ _), by simp⟩
      case round =>
        clear P2
        obtain ⟨k, ys, hk, rfl, hyl, ho, hc, hg, hz⟩ := hrel
        have P := hide (And.intro ho (And.intro hc hg))
        clear ho hc hg
        go_wp2_with fail
        refine (below_any base g ca ao xs 3 _ (by omega) (by omega) (by omega) (unhide P).2.1).mono ?_
        rintro e w4 ⟨m, rfl, _, m1, c4, e4⟩
        have s4 := e4.size
        have P4 := hide (And.intro ((unhide P).1.grown e4 (by omega)) (And.intro c4 (grown_trans (unhide P).2.2 e4)))
        clear P c4 e4
        by_cases hkm : (k : Int) < m
        · go_wp2_with fail
          refine (drawRight base g ca ao xs _ (by omega) (unhide P4).2.1).mono ?_
          rintro e w5 ⟨a, b, c, d, rfl, c5, e5⟩
          have s5 := e5.size
          have ho5 := ot_alloc ((unhide P4).1.grown e5 (by omega)) (.cells #[.int .i64 a, .int .i64 b, .int .i64 c, .int .i64 d] 135)
          have hc5 := c5.alloc (by omega) (.cells #[.int .i64 a, .int .i64 b, .int .i64 c, .int .i64 d] 135)
          have hg5 := grown_trans (grown_trans (unhide P4).2.2 e5) (World.grownBy_alloc w5 (.cells #[.int .i64 a, .int .i64 b, .int .i64 c, .int .i64 d] 135) (some g))
          clear P4 c5 e5
          go_wp2_with (first
            | (at_builtin; refine wpList_append_own _ rfl _ _ 133 rfl w2.heap.size 135 i0 (txv 0 0 0 0) 4 32 Tryz.underlying133 hi hz0 hz1 hz2 rfl (by decide) _ _ _ rfl ho5 ⟨w5.heap.size, 0, none⟩ 1 1 (tcell (a, b, c, d)) rfl rfl (four_cell w5 (a, b, c, d) 135) (four_plain _) (by unfold maxLen; omega) (by omega) (by simp; omega) ?_; intro v' w6 ho' hg' _; have hl2 := ho5.lt; have R := (show OT w6 w2.heap.size v' (ys ++ [(a, b, c, d)]) by unfold OT; rw [tcells_append, List.length_append]; simpa [tcells] using ho'); have RC := hc5.grownNew hg' (fun j e => by have := (hl2 j e).1; omega); have RG := grown_new hg5 hg' (fun j e => by have := (hl2 j e).1; omega); have SZ : w2.heap.size ≤ w6.heap.size := (by have := hg'.size; simp at this; omega); clear ho5 ho' hg' hg5 hc5 hl2))
          go_roundw
          case rel => exact ⟨k + 1, _, by omega, by go_num, by simp [hyl], R, RC, RG, SZ⟩
          case measure => simp [intOf]; omega
        · have hd : decide ((k : Int) < m) = false := by simpa using hkm
          have hrt := (unhide P4).1.rt (by omega)
          have NM := hide fun vw h0 h1 => specNameOf s vw _ ys w4 (by omega) h0 h1 hrt
          clear hrt
          go_wp2_with fail
          refine (unhide NM _ (by omega) (by omega)).mono ?_
          rintro e w5 ⟨rfl, b5⟩
          have hn := nameAns_len s (view + 1 + q.tdiv 3) ys
          have c5 := (unhide P4).2.1.grownNew (grown_of_below b5 rfl) (fun j e => by cases e)
          have g5 := grown_new (unhide P4).2.2 (grown_of_below b5 rfl) (fun j e => by cases e)
          have H5 := hide (And.intro c5 g5)
          clear NM P4 b5 c5 g5
          go_wp2
          go_roundw
          case rel => exact ⟨i + 1, _, _, by omega, by go_num, rfl, by omega, by omega, rfl, by assumption, (unhide H5).1, (unhide H5).2⟩
          case measure => simp [intOf]; omega
    · have hd : decide ((i : Int) < n) = false := by simpa using hin
      go_wp2
      go_ret
      exact ⟨_, rfl, hs, (unhide P1).1, (unhide P1).2⟩

set_option maxHeartbeats 8000000 in
set_option maxRecDepth 100000 in
theorem drawName (base g ca : Nat) (ao : Option Addr) (xs : List Int) (w : World) (hB : base ≤ w.heap.size) (h : Cur w base g ao ca xs) :
    Calls Tryz.prog 105 #[.pointer (some ⟨g, 0, none⟩)] w fun e w' => ∃ s : ByteArray, e = .returned (.string s) ∧ s.size ≤ 8001 ∧ Cur w' base g ao ca xs ∧ w.grownBy w' (some g) := by
  have hlt := h.lt
  have H0 := hide h
  clear h
  go_enter Tryz.func105, Tryz.ntmps105
  go_wp2_with fail
  refine (once_any base g ca ao xs 20 _ (by omega) (by omega) (by omega) (unhide H0)).mono ?_
  rintro e w1 ⟨b, rfl, c1, e1⟩
  have s1 := e1.size
  have P1 := hide (And.intro c1 e1)
  clear H0 c1 e1
  cases b with
  | true =>
    go_wp2
    go_loopw [3, 4] (fun sv iv wr => ∃ (i : Nat) (s : ByteArray), 1 ≤ i ∧ i ≤ 32 ∧ iv = .int .i64 i ∧ sv = .string s ∧ s.size ≤ i * 8 ∧ Cur wr base g ao ca xs ∧ w.grownBy wr (some g)) (fun _ iv _ => 33 - (intOf iv).toNat)
    case atStart => exact ⟨1, ⟨#[]⟩, by omega, by omega, by go_num, rfl, by decide, (unhide P1).1, (unhide P1).2⟩
    case round =>
      clear P1
      obtain ⟨i, s, hi1, hi2, rfl, rfl, hs, hc, hg⟩ := hrel
      have hsz := hg.size
      have P := hide (And.intro hc hg)
      clear hc hg
      go_wp2_with fail
      refine (below_any base g ca ao xs 2 _ (by omega) (by omega) (by omega) (unhide P).1).mono ?_
      rintro e w2 ⟨n, rfl, n0, n1, c2, e2⟩
      have s2 := e2.size
      have P2 := hide (And.intro c2 (grown_trans (unhide P).2 e2))
      clear P c2 e2
      by_cases hin : (i : Int) ≤ 30 + n
      · have DG := hide fun w => specDigits_any (i : Int) w (by omega) (by omega)
        have hd : (⟨(Lib.itoa (i : Int)).toArray⟩ : ByteArray).size ≤ 6 := dg_size (i : Int) (by omega) (by omega)
        generalize (⟨(Lib.itoa (i : Int)).toArray⟩ : ByteArray) = d at *
        obtain ⟨y1, hy1⟩ : ∃ y, y = s ++ (⟨#[47]⟩ : ByteArray) := ⟨_, rfl⟩
        obtain ⟨y2, hy2⟩ : ∃ y, y = y1 ++ d := ⟨_, rfl⟩
        obtain ⟨y3, hy3⟩ : ∃ y, y = y2 ++ (⟨#[124]⟩ : ByteArray) := ⟨_, rfl⟩
        have z1 : y1.size = s.size + 1 := by rw [hy1, ByteArray.size_append]; rfl
        have z2 : y2.size = y1.size + d.size := by rw [hy2, ByteArray.size_append]
        have z3 : y3.size = y2.size + 1 := by rw [hy3, ByteArray.size_append]; rfl
        have q1 : ∀ w', (Op.stringOp .add s (⟨#[47]⟩ : ByteArray)).run Tryz.prog w' = .ok (.string y1) w' := (fun w' => by rw [hy1]; exact run_string_add_sum w' _ _ (by show s.size + 1 ≤ _; omega))
        have q2 : ∀ w', (Op.stringOp .add y1 d).run Tryz.prog w' = .ok (.string y2) w' := (fun w' => by rw [hy2]; exact run_string_add_sum w' _ _ (by omega))
        have q3 : ∀ w', (Op.stringOp .add y2 (⟨#[124]⟩ : ByteArray)).run Tryz.prog w' = .ok (.string y3) w' := (fun w' => by rw [hy3]; exact run_string_add_sum w' _ _ (by show y2.size + 1 ≤ _; omega))
        clear hy1 hy2 hy3
        go_wp2_with fail
        refine (unhide DG _).mono ?_
        rintro e w3 ⟨rfl, b3⟩
        have c3 := (unhide P2).1.grownNew (grown_of_below b3 rfl) (fun j e => by cases e)
        have g3 := grown_new (unhide P2).2 (grown_of_below b3 rfl) (fun j e => by cases e)
        have H3 := hide (And.intro c3 g3)
        clear DG P2 b3 c3 g3
        go_wp2
        go_roundw
        case rel => exact ⟨i + 1, y3, by omega, by omega, by go_num, rfl, by omega, (unhide H3).1, (unhide H3).2⟩
        case measure => simp [intOf]; omega
      · have hd : decide ((i : Int) ≤ 30 + n) = false := by simpa using hin
        go_wp2
        go_ret
        exact ⟨_, rfl, by omega, (unhide P2).1, (unhide P2).2⟩
  | false =>
    go_wp2_with fail
    refine (drawNameR base g ca ao xs _ (by omega) (unhide P1).1).mono ?_
    rintro e w2 ⟨s, rfl, hs, c2, e2⟩
    have s2 := e2.size
    have P2 := hide (And.intro c2 (grown_trans (unhide P1).2 e2))
    clear P1 c2 e2
    go_wp2_with fail
    refine (dent_cur base g ca ao xs s _ (by omega) (by omega) (unhide P2).1).mono ?_
    rintro e w3 ⟨t, rfl, ht, c3, e3⟩
    have P3 := hide (And.intro c3 (grown_trans (unhide P2).2 e3))
    clear P2 c3 e3
    go_wp2
    go_ret
    exact ⟨_, rfl, ht, (unhide P3).1, (unhide P3).2⟩
end Go.Proofs.YtehdchpolgihlaaGreatDoor

/- The draw of a certificate. -/
namespace Go.Proofs.YtehdchpolgihlaaGreatDoor
open Go.RowKit
set_option linter.unusedSectionVars false
variable [∀ (a b c d : Int), Decidable (Ok4 a b c d)]
variable [∀ (a b c d : Nat), Decidable (okN a b c d)]
variable [∀ (x : T4), Decidable (OkT x)]
variable [∀ (n f : Int), Decidable (COk n f)]
variable [∀ (last : Int) (s : St), Decidable (GoodSt last s)]

theorem view_fit (s : ByteArray) : -1 ≤ viewAns s ∧ viewAns s ≤ 60 := by
  have h := height_view (s := s)
  refine ⟨?_, h.2.2⟩
  have : -1 ≤ heightAns s := by
    unfold heightAns
    split
    · omega
    · omega
  omega

set_option maxHeartbeats 16000000 in
set_option maxRecDepth 100000 in
theorem drawQcV (base g ca : Nat) (ao : Option Addr) (zs : List Int) (n f : Int) (w : World) (hB : base ≤ w.heap.size) (hn0 : 4 ≤ n) (hn1 : n ≤ 7) (h : Cur w base g ao ca zs) :
    Calls Tryz.prog 65 #[.pointer (some ⟨g, 0, none⟩), cv n f] w fun e w' => ∃ (v : Int) (s : ByteArray) (u : Value) (xs : List Int), e = .returned (qv v s u) ∧ (-1 ≤ v ∧ v ≤ 61) ∧ s.size ≤ 8001 ∧ xs.length ≤ 9 ∧ Hid (WfL xs) ∧ OI w' w.heap.size u xs ∧ Cur w' base g ao ca zs ∧ w.grownBy w' (some g) := by
  have hlt := h.lt
  obtain ⟨w0, hw0⟩ : ∃ w0, (w.alloc (.cells #[.int .i64 n, .int .i64 f] 32)).alloc zq = w0 := ⟨_, rfl⟩
  have B0 : Below w.heap.size w w0 := hw0 ▸ qalloc2 _ _ _
  have V0 : Loc w0 w.heap.size #[.int .i64 n, .int .i64 f] := hw0 ▸ (loc_at w _ _ rfl).alloc _
  have Z0 : Loc w0 (w.heap.size + 1) #[.int .i64 0, .string ⟨#[]⟩, .slice none 0 0] := hw0 ▸ loc_at (w.alloc _) _ _ (by simp)
  have s0 : w0.heap.size = w.heap.size + 1 + 1 := by rw [← hw0]; simp
  have C0 := h.below hB B0
  have G0 : w.grownBy w0 (some g) := grown_below B0 (some g)
  clear h B0
  go_enter Tryz.func65, Tryz.ntmps65
  go_upto_region 1 with fail
  clear hw0
  go_cut [5] (fun c wx => ∃ (h : Nat) (v : Value) (s : ByteArray) (xs : List Int), c = .pointer (some ⟨h, 0, none⟩) ∧ w.heap.size + 1 + 1 ≤ h ∧ h < wx.heap.size ∧ Loc wx h #[.int .i64 (viewAns s), .string s, v] ∧ OI wx (w.heap.size + 1 + 1) v xs ∧ (∀ j, v.ownBlock = some j → j ≠ h) ∧ xs.length ≤ 7 ∧ Hid (WfL xs) ∧ s.size ≤ 1920 ∧ Loc wx (w.heap.size + 1) #[.int .i64 0, .string ⟨#[]⟩, .slice none 0 0] ∧ Cur wx base g ao ca zs ∧ w.grownBy wx (some g))
  case first =>
    refine wp_region_noPanic ?_
    refine wp_region_held_drew (S := fun w' => w'.cell? ⟨w.heap.size, 0, none⟩ = some (.int .i64 n) ∧ w'.cell? ⟨w.heap.size, 1, none⟩ = some (.int .i64 f)) (by kernel_rfl) ⟨(V0.cell 0 rfl), (V0.cell 1 rfl)⟩ (fun hHeld => ?_)
    obtain ⟨wd, hd⟩ : ∃ wd, w0.drew = wd := ⟨_, rfl⟩
    have bd : Below w0.heap.size w0 wd := hd ▸ Below.drew (Below.refl _ _)
    have sd : w.heap.size + 1 + 1 ≤ wd.heap.size := by rw [← hd]; exact Nat.le_of_eq s0.symm
    have V := V0.below bd V0.lt
    have Z := Z0.below bd Z0.lt
    have C := C0.below (by omega) bd
    have G := grown_trans G0 (grown_below bd (some g))
    rw [hd] at hHeld ⊢
    clear hd bd V0 Z0 C0 G0 s0
    refine take_at (i := 0) (d := 6) (v := ?_) rfl rfl (by kernel_rfl) (by kernel_rfl) (by kernel_rfl) (fun _ _ _ h => h) (Or.inl ⟨by rfl, ?_⟩) (by assumption) ?_
    rotate_left
    · intro w hSw
      try dsimp only at hSw
      go_simp
      try with_reducible rfl
    simp only [Act.put, List.setIfInBounds_toArray, List.set_cons_zero, List.set_cons_succ]
    refine take_at (i := 1) (d := 7) (v := ?_) rfl rfl (by kernel_rfl) (by kernel_rfl) (by kernel_rfl) (fun _ _ _ h => h) (Or.inl ⟨by rfl, ?_⟩) (by assumption) ?_
    rotate_left
    · intro w hSw
      try dsimp only at hSw
      go_simp
      try with_reducible rfl
    simp only [Act.put, List.setIfInBounds_toArray, List.set_cons_zero, List.set_cons_succ]
    refine take_at (i := 2) (d := 8) (v := ?_) rfl rfl (by kernel_rfl) (by kernel_rfl) (by kernel_rfl) (fun _ _ _ h => h) (Or.inl ⟨by rfl, ?_⟩) (by assumption) ?_
    rotate_left
    · intro w hSw
      try dsimp only at hSw
      go_simp
      try with_reducible rfl
    simp only [Act.put, List.setIfInBounds_toArray, List.set_cons_zero, List.set_cons_succ]
    refine wpAnyH_ready (rs := [3, 5]) (by kernel_rfl) (by simp) (AllReadyH.cons rfl (fun KK hKK => ?_) (AllReadyH.cons rfl (fun KK hKK => ?_) AllReadyH.nil))
    · go_simp
      refine (drawNameR base g ca ao zs _ (by omega) C).mono ?_
      rintro e wk1 ⟨s, rfl, hs, c1, e1⟩
      replace V := V.grown e1 (by omega)
      replace Z := Z.grown e1 (by omega)
      replace G := grown_trans G e1
      have zwk1 := e1.size
      replace C := c1
      clear c1 e1
      clear hHeld
      refine hKK.out _ _ ⟨V.cell 0 rfl, V.cell 1 rfl⟩ (fun hHeld => ?_)
      clear hKK KK
      refine wpAnyH_ready (rs := [4, 5]) (by kernel_rfl) (by simp) (AllReadyH.cons rfl (fun KK hKK => ?_) (AllReadyH.cons rfl (fun KK hKK => ?_) AllReadyH.nil))
      · go_simp
        refine (drawOf base g ca ao zs n f s _ (by omega) hn0 hn1 (by omega) C).mono ?_
        rintro e wk3 ⟨u, xs, rfl, hx, hw, O, c1, e1⟩
        replace V := V.grown e1 (by omega)
        replace Z := Z.grown e1 (by omega)
        replace G := grown_trans G e1
        have zwk3 := e1.size
        replace C := c1
        clear c1 e1
        have tow := World.ownsRow.lt O
        obtain ⟨ua, uc, rfl⟩ := O.form
        clear hHeld
        refine hKK.out _ _ ⟨V.cell 0 rfl, V.cell 1 rfl⟩ (fun hHeld => ?_)
        clear hKK KK
        refine ready_at (i := 5) rfl (by kernel_rfl) (fun KK hKK => ?_)
        go_simp
        obtain ⟨wl5, hwl5⟩ : ∃ y, wk3.alloc (.cells #[.int .i64 0, .string ⟨#[]⟩, .slice none 0 0] 40) = y := ⟨_, rfl⟩
        have ba : Below wk3.heap.size wk3 wl5 := hwl5 ▸ qalloc _ _
        have lg : Loc wl5 wk3.heap.size #[.int .i64 0, .string ⟨#[]⟩, .slice none 0 0] := hwl5 ▸ loc_at wk3 _ _ rfl
        have zwl5 : wl5.heap.size = wk3.heap.size + 1 := by rw [← hwl5]; simp
        replace V := V.below ba V.lt
        replace Z := Z.below ba Z.lt
        replace C := C.below (by omega) ba
        replace G := grown_trans G (grown_below ba (some g))
        replace O := O.below ba
        rw [hwl5]
        clear hwl5 ba
        clear hHeld
        refine hKK.out _ _ ⟨V.cell 0 rfl, V.cell 1 rfl⟩ (fun hHeld => ?_)
        clear hKK KK
        have q0 := lg.cell 0 rfl
        have q1 := lg.cell 1 rfl
        have q2 := lg.cell 2 rfl
        have FG := lg.frozen
        have ll := lg.lt
        have k3 : Kp wl5 (((wl5.setCell ⟨wk3.heap.size, 0, none⟩ (.int .i64 (viewAns s))).setCell ⟨wk3.heap.size, 1, none⟩ (.string s)).setCell ⟨wk3.heap.size, 2, none⟩ (.slice ua xs.length uc)) (fun k => k = wk3.heap.size) := ((set_kp _ _ _ _).trans (set_kp _ _ _ _)).trans (set_kp _ _ _ _)
        have V3 := V.kp k3 (by omega)
        have Z3 := Z.kp k3 (by omega)
        refine ready_at (i := 6) rfl (by kernel_rfl) (fun KK hKK => ?_)
        go_simp
        clear hHeld
        refine hKK.out _ _ ⟨V3.cell 0 rfl, V3.cell 1 rfl⟩ (fun hHeld => ?_)
        clear hKK KK hHeld
        refine wpAnyH_done (by kernel_rfl) ?_ _
        refine NoPanic.normal ?_
        go_wp2_with fail
        go_meet
        exact ⟨_, _, s, xs, rfl, by omega, by simpa using ll, ((lg.set 0 _ rfl).set 1 _ rfl).set 2 _ rfl, (O.kp k3 (fun j hj e => by have := tow j hj; omega)).mono (by omega), fun j hj => by have := tow j hj; omega, hx, hw, hs, Z3, ((C.set (by omega) _ _).set (by omega) _ _).set (by omega) _ _, grown_set (grown_set (grown_set G (by omega) _ _) (by omega) _ _) (by omega) _ _⟩
      · go_simp
        obtain ⟨wl4, hwl4⟩ : ∃ y, wk1.alloc (.cells #[.int .i64 0, .string ⟨#[]⟩, .slice none 0 0] 40) = y := ⟨_, rfl⟩
        have ba : Below wk1.heap.size wk1 wl4 := hwl4 ▸ qalloc _ _
        have lg : Loc wl4 wk1.heap.size #[.int .i64 0, .string ⟨#[]⟩, .slice none 0 0] := hwl4 ▸ loc_at wk1 _ _ rfl
        have zwl4 : wl4.heap.size = wk1.heap.size + 1 := by rw [← hwl4]; simp
        replace V := V.below ba V.lt
        replace Z := Z.below ba Z.lt
        replace C := C.below (by omega) ba
        replace G := grown_trans G (grown_below ba (some g))
        rw [hwl4]
        clear hwl4 ba
        clear hHeld
        refine hKK.out _ _ ⟨V.cell 0 rfl, V.cell 1 rfl⟩ (fun hHeld => ?_)
        clear hKK KK
        refine ready_at (i := 4) rfl (by kernel_rfl) (fun KK hKK => ?_)
        go_simp
        refine (drawOf base g ca ao zs n f s _ (by omega) hn0 hn1 (by omega) C).mono ?_
        rintro e wk6 ⟨u, xs, rfl, hx, hw, O, c1, e1⟩
        replace V := V.grown e1 (by omega)
        replace Z := Z.grown e1 (by omega)
        replace G := grown_trans G e1
        have zwk6 := e1.size
        replace lg := lg.grown e1 (by omega)
        replace C := c1
        clear c1 e1
        have tow := World.ownsRow.lt O
        obtain ⟨ua, uc, rfl⟩ := O.form
        clear hHeld
        refine hKK.out _ _ ⟨V.cell 0 rfl, V.cell 1 rfl⟩ (fun hHeld => ?_)
        clear hKK KK
        have q0 := lg.cell 0 rfl
        have q1 := lg.cell 1 rfl
        have q2 := lg.cell 2 rfl
        have FG := lg.frozen
        have ll := lg.lt
        have k3 : Kp wk6 (((wk6.setCell ⟨wk1.heap.size, 0, none⟩ (.int .i64 (viewAns s))).setCell ⟨wk1.heap.size, 1, none⟩ (.string s)).setCell ⟨wk1.heap.size, 2, none⟩ (.slice ua xs.length uc)) (fun k => k = wk1.heap.size) := ((set_kp _ _ _ _).trans (set_kp _ _ _ _)).trans (set_kp _ _ _ _)
        have V3 := V.kp k3 (by omega)
        have Z3 := Z.kp k3 (by omega)
        refine ready_at (i := 6) rfl (by kernel_rfl) (fun KK hKK => ?_)
        go_simp
        clear hHeld
        refine hKK.out _ _ ⟨V3.cell 0 rfl, V3.cell 1 rfl⟩ (fun hHeld => ?_)
        clear hKK KK hHeld
        refine wpAnyH_done (by kernel_rfl) ?_ _
        refine NoPanic.normal ?_
        go_wp2_with fail
        go_meet
        exact ⟨_, _, s, xs, rfl, by omega, by simpa using ll, ((lg.set 0 _ rfl).set 1 _ rfl).set 2 _ rfl, (O.kp k3 (fun j hj e => by have := tow j hj; omega)).mono (by omega), fun j hj => by have := tow j hj; omega, hx, hw, hs, Z3, ((C.set (by omega) _ _).set (by omega) _ _).set (by omega) _ _, grown_set (grown_set (grown_set G (by omega) _ _) (by omega) _ _) (by omega) _ _⟩
    · go_simp
      obtain ⟨wl2, hwl2⟩ : ∃ y, wd.alloc (.cells #[.int .i64 0, .string ⟨#[]⟩, .slice none 0 0] 40) = y := ⟨_, rfl⟩
      have ba : Below wd.heap.size wd wl2 := hwl2 ▸ qalloc _ _
      have lg : Loc wl2 wd.heap.size #[.int .i64 0, .string ⟨#[]⟩, .slice none 0 0] := hwl2 ▸ loc_at wd _ _ rfl
      have zwl2 : wl2.heap.size = wd.heap.size + 1 := by rw [← hwl2]; simp
      replace V := V.below ba V.lt
      replace Z := Z.below ba Z.lt
      replace C := C.below (by omega) ba
      replace G := grown_trans G (grown_below ba (some g))
      rw [hwl2]
      clear hwl2 ba
      clear hHeld
      refine hKK.out _ _ ⟨V.cell 0 rfl, V.cell 1 rfl⟩ (fun hHeld => ?_)
      clear hKK KK
      refine ready_at (i := 3) rfl (by kernel_rfl) (fun KK hKK => ?_)
      go_simp
      refine (drawNameR base g ca ao zs _ (by omega) C).mono ?_
      rintro e wk7 ⟨s, rfl, hs, c1, e1⟩
      replace V := V.grown e1 (by omega)
      replace Z := Z.grown e1 (by omega)
      replace G := grown_trans G e1
      have zwk7 := e1.size
      replace lg := lg.grown e1 (by omega)
      replace C := c1
      clear c1 e1
      clear hHeld
      refine hKK.out _ _ ⟨V.cell 0 rfl, V.cell 1 rfl⟩ (fun hHeld => ?_)
      clear hKK KK
      refine ready_at (i := 4) rfl (by kernel_rfl) (fun KK hKK => ?_)
      go_simp
      refine (drawOf base g ca ao zs n f s _ (by omega) hn0 hn1 (by omega) C).mono ?_
      rintro e wk8 ⟨u, xs, rfl, hx, hw, O, c1, e1⟩
      replace V := V.grown e1 (by omega)
      replace Z := Z.grown e1 (by omega)
      replace G := grown_trans G e1
      have zwk8 := e1.size
      replace lg := lg.grown e1 (by omega)
      replace C := c1
      clear c1 e1
      have tow := World.ownsRow.lt O
      obtain ⟨ua, uc, rfl⟩ := O.form
      clear hHeld
      refine hKK.out _ _ ⟨V.cell 0 rfl, V.cell 1 rfl⟩ (fun hHeld => ?_)
      clear hKK KK
      have q0 := lg.cell 0 rfl
      have q1 := lg.cell 1 rfl
      have q2 := lg.cell 2 rfl
      have FG := lg.frozen
      have ll := lg.lt
      have k3 : Kp wk8 (((wk8.setCell ⟨wd.heap.size, 0, none⟩ (.int .i64 (viewAns s))).setCell ⟨wd.heap.size, 1, none⟩ (.string s)).setCell ⟨wd.heap.size, 2, none⟩ (.slice ua xs.length uc)) (fun k => k = wd.heap.size) := ((set_kp _ _ _ _).trans (set_kp _ _ _ _)).trans (set_kp _ _ _ _)
      have V3 := V.kp k3 (by omega)
      have Z3 := Z.kp k3 (by omega)
      refine ready_at (i := 6) rfl (by kernel_rfl) (fun KK hKK => ?_)
      go_simp
      clear hHeld
      refine hKK.out _ _ ⟨V3.cell 0 rfl, V3.cell 1 rfl⟩ (fun hHeld => ?_)
      clear hKK KK hHeld
      refine wpAnyH_done (by kernel_rfl) ?_ _
      refine NoPanic.normal ?_
      go_wp2_with fail
      go_meet
      exact ⟨_, _, s, xs, rfl, by omega, by simpa using ll, ((lg.set 0 _ rfl).set 1 _ rfl).set 2 _ rfl, (O.kp k3 (fun j hj e => by have := tow j hj; omega)).mono (by omega), fun j hj => by have := tow j hj; omega, hx, hw, hs, Z3, ((C.set (by omega) _ _).set (by omega) _ _).set (by omega) _ _, grown_set (grown_set (grown_set G (by omega) _ _) (by omega) _ _) (by omega) _ _⟩
  case rest =>
    obtain ⟨x, v1, s, xs, rfl, hx, hxl, X, O, hne, hl, hw, hs, Z, C, G⟩ := hcut
    obtain ⟨ua, uc, rfl⟩ := O.form
    have hsz := G.size
    have hv := view_fit s
    generalize viewAns s = v at *
    obtain ⟨hv0, hv1⟩ := hv
    obtain ⟨m, hm⟩ : ∃ m, xs.length = m := ⟨_, rfl⟩
    rw [hm] at X O hl hne
    have FI : Hid (∀ (v : Int) (s : ByteArray) (u : Value) (xs : List Int) (w' : World), (-1 ≤ v ∧ v ≤ 61) → s.size ≤ 8001 → xs.length ≤ 9 → Hid (WfL xs) → OI w' (w.heap.size + 1 + 1) u xs → Cur w' base g ao ca zs → w.grownBy w' (some g) →
        (-1 ≤ v ∧ v ≤ 61) ∧ s.size ≤ 8001 ∧ xs.length ≤ 9 ∧ Hid (WfL xs) ∧ OI (((w'.setCell ⟨w.heap.size + 1, 0, none⟩ (.int .i64 v)).setCell ⟨w.heap.size + 1, 1, none⟩ (.string s)).setCell ⟨w.heap.size + 1, 2, none⟩ u) w.heap.size u xs ∧ Cur (((w'.setCell ⟨w.heap.size + 1, 0, none⟩ (.int .i64 v)).setCell ⟨w.heap.size + 1, 1, none⟩ (.string s)).setCell ⟨w.heap.size + 1, 2, none⟩ u) base g ao ca zs ∧ w.grownBy (((w'.setCell ⟨w.heap.size + 1, 0, none⟩ (.int .i64 v)).setCell ⟨w.heap.size + 1, 1, none⟩ (.string s)).setCell ⟨w.heap.size + 1, 2, none⟩ u) (some g)) := hide fun v s u xs w' hb h0 h1 h2 h3 h4 h5 => by
      have lt3 := World.ownsRow.lt h3
      have K5 : Kp w' (((w'.setCell ⟨w.heap.size + 1, 0, none⟩ (.int .i64 v)).setCell ⟨w.heap.size + 1, 1, none⟩ (.string s)).setCell ⟨w.heap.size + 1, 2, none⟩ u) (fun k => k = w.heap.size + 1) := ((set_kp _ _ _ _).trans (set_kp _ _ _ _)).trans (set_kp _ _ _ _)
      exact ⟨hb, h0, h1, h2, (h3.kp K5 (fun k hk e => by have := lt3 k hk; omega)).mono (by omega), ((h4.set (by omega) _ _).set (by omega) _ _).set (by omega) _ _, grown_set (grown_set (grown_set h5 (by omega) _ _) (by omega) _ _) (by omega) _ _⟩
    have HW := hw
    clear hw
    go_wp2_with fail
    refine (below_any base g ca ao zs 12 _ (by omega) (by omega) (by omega) C).mono ?_
    rintro e w3 ⟨k, rfl, k0, k1, c3, e3⟩
    have X3 := X.grown e3 (by omega)
    have Z3 := Z.grown e3 (by omega)
    have O3 : OI w3 (w.heap.size + 1 + 1) (.slice ua m uc) xs := O.drawn e3 (by omega)
    have G3 := grown_trans G e3
    have s3 := e3.size
    have x3 := X3.lt
    clear X Z O C G e3
    by_cases h0 : k = 0
    · subst h0
      have X4 := X3.set 0 (.int .i64 (v + 1)) (cs' := #[.int .i64 (v + 1), .string s, .slice ua m uc]) rfl
      have Z4 := Z3.other (p := ⟨x, 0, none⟩) (by show w.heap.size + 1 ≠ x; omega) (.int .i64 (v + 1))
      have O4 := O3.kp (set_kp w3 x 0 (.int .i64 (v + 1))) (fun j hj e => hne j hj e)
      have C4 := c3.set (r := x) (by omega) 0 (.int .i64 (v + 1))
      have G4 := grown_set G3 (r := x) (by omega) 0 (.int .i64 (v + 1))
      have R := hide (unhide FI (v + 1) s (.slice ua m uc) xs _ ⟨by omega, by omega⟩ (by omega) (by omega) HW O4 C4 G4)
      have q0 := X3.cell 0 rfl
      have q1 := X3.cell 1 rfl
      have q2 := X3.cell 2 rfl
      have fq := X3.frozen
      have y0 := Z3.cell 0 rfl
      have y1 := Z3.cell 1 rfl
      have y2 := Z3.cell 2 rfl
      have fy := Z3.frozen
      have ne1 : ¬ w.heap.size + 1 = x := by omega
      have ne2 : ¬ x = w.heap.size + 1 := by omega
      clear X3 Z3 O3 c3 G3 X4 Z4 O4 C4 G4 FI
      go_wp2
      refine bodyPost_ret (v := qv (v + 1) s (.slice ua m uc)) (by simp [results, Tryz.results65, go_sem, y0, y1, y2]) rfl ?_
      exact ⟨_, _, _, _, rfl, unhide R⟩
    · have n0 : (k == 0) = false := by simp [h0]
      by_cases h1 : k = 1
      · subst h1
        clear h0
        go_wp2_with fail
        refine (drawSet base g ca ao zs 7 _ (by omega) (by omega) (by omega) c3).mono ?_
        rintro e w4 ⟨v4, ys, rfl, hl4, hw4, O4, c4, e4⟩
        have X4 := X3.grown e4 (by omega)
        have Z4 := Z3.grown e4 (by omega)
        have G4 := grown_trans G3 e4
        have lo4 := World.ownsRow.lt O4
        obtain ⟨a4, k4, rfl⟩ := O4.form
        obtain ⟨m4, hm4⟩ : ∃ m, ys.length = m := ⟨_, rfl⟩
        rw [hm4] at O4 lo4 ⊢
        have O5 := (O4.kp (set_kp w4 x 2 (.slice a4 m4 k4)) (fun j hj e => by have := lo4 j hj; omega)).mono (show w.heap.size + 1 + 1 ≤ w3.heap.size by omega)
        have C5 := c4.set (r := x) (by omega) 2 (.slice a4 m4 k4)
        have G5 := grown_set G4 (r := x) (by omega) 2 (.slice a4 m4 k4)
        have R := hide (unhide FI v s (.slice a4 m4 k4) ys _ ⟨by omega, by omega⟩ (by omega) hl4 hw4 O5 C5 G5)
        have q0 := X4.cell 0 rfl
        have q1 := X4.cell 1 rfl
        have q2 := X4.cell 2 rfl
        have fq := X4.frozen
        have y0 := Z4.cell 0 rfl
        have y1 := Z4.cell 1 rfl
        have y2 := Z4.cell 2 rfl
        have fy := Z4.frozen
        have ne1 : ¬ w.heap.size + 1 = x := by omega
        have ne2 : ¬ x = w.heap.size + 1 := by omega
        clear X3 Z3 O3 c3 G3 X4 Z4 O4 G4 O5 C5 G5 e4 c4 FI
        go_wp2
        refine bodyPost_ret (v := qv v s (.slice a4 m4 k4)) (by simp [results, Tryz.results65, go_sem, y0, y1, y2]) rfl ?_
        exact ⟨_, _, _, _, rfl, unhide R⟩
      · have n1 : (k == 1) = false := by simp [h1]
        by_cases h2 : k = 2
        · subst h2
          clear h0 h1
          go_wp2_with fail
          refine (drawName base g ca ao zs _ (by omega) c3).mono ?_
          rintro e w4 ⟨t, rfl, ht, c4, e4⟩
          have X4 := X3.grown e4 (by omega)
          have Z4 := Z3.grown e4 (by omega)
          have O4 := O3.drawn e4 (by omega)
          have G4 := grown_trans G3 e4
          have O5 := O4.kp (set_kp w4 x 1 (.string t)) (fun j hj e => hne j hj e)
          have C5 := c4.set (r := x) (by omega) 1 (.string t)
          have G5 := grown_set G4 (r := x) (by omega) 1 (.string t)
          have R := hide (unhide FI v t (.slice ua m uc) xs _ ⟨by omega, by omega⟩ ht (by omega) HW O5 C5 G5)
          have q0 := X4.cell 0 rfl
          have q1 := X4.cell 1 rfl
          have q2 := X4.cell 2 rfl
          have fq := X4.frozen
          have y0 := Z4.cell 0 rfl
          have y1 := Z4.cell 1 rfl
          have y2 := Z4.cell 2 rfl
          have fy := Z4.frozen
          have ne1 : ¬ w.heap.size + 1 = x := by omega
          have ne2 : ¬ x = w.heap.size + 1 := by omega
          clear X3 Z3 O3 c3 G3 X4 Z4 O4 G4 O5 C5 G5 e4 c4 FI
          go_wp2
          refine bodyPost_ret (v := qv v t (.slice ua m uc)) (by simp [results, Tryz.results65, go_sem, y0, y1, y2]) rfl ?_
          exact ⟨_, _, _, _, rfl, unhide R⟩
        · have n2 : (k == 2) = false := by simp [h2]
          have R := hide (unhide FI v s (.slice ua m uc) xs _ ⟨by omega, by omega⟩ (by omega) (by omega) HW O3 c3 G3)
          have q0 := X3.cell 0 rfl
          have q1 := X3.cell 1 rfl
          have q2 := X3.cell 2 rfl
          have y0 := Z3.cell 0 rfl
          have y1 := Z3.cell 1 rfl
          have y2 := Z3.cell 2 rfl
          have fy := Z3.frozen
          clear X3 Z3 O3 c3 G3 FI
          go_wp2
          refine bodyPost_ret (v := qv v s (.slice ua m uc)) (by simp [results, Tryz.results65, go_sem, y0, y1, y2]) rfl ?_
          exact ⟨_, _, _, _, rfl, unhide R⟩
theorem drawQc (base g ca : Nat) (ao : Option Addr) (zs : List Int) (n f : Int) (w : World) (hB : base ≤ w.heap.size) (hn0 : 4 ≤ n) (hn1 : n ≤ 7) (h : Cur w base g ao ca zs) :
    Calls Tryz.prog 65 #[.pointer (some ⟨g, 0, none⟩), cv n f] w fun e w' => ∃ (v : Int) (s : ByteArray) (u : Value) (xs : List Int), e = .returned (qv v s u) ∧ s.size ≤ 8001 ∧ xs.length ≤ 9 ∧ Hid (WfL xs) ∧ OI w' w.heap.size u xs ∧ Cur w' base g ao ca zs ∧ w.grownBy w' (some g) :=
  (drawQcV base g ca ao zs n f w hB hn0 hn1 h).mono fun _ _ ⟨v, s, u, xs, he, _, hr⟩ => ⟨v, s, u, xs, he, hr⟩
end Go.Proofs.YtehdchpolgihlaaGreatDoor
