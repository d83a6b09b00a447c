/- spec.l2Dent, and the draws of the law on payments. -/
import Derived.Test.YtnbiphlificliaaDoorDrawTx
import Derived.Deep.RegionHeld3
import Derived.Deep.DeepCutAuto
namespace Go.Proofs.YtnbiphlificliaaDoor
open Go.RowKit
set_option linter.unusedSectionVars false
variable [∀ (a b c d : Int), Decidable (Ok4 a b c d)]
variable [∀ (a b c d : Nat), Decidable (okN a b c d)]
variable [∀ (x : T4), Decidable (OkT x)]

def dents : List ByteArray := [⟨#[48]⟩, ⟨#[44]⟩, ⟨#[62]⟩, ⟨#[47]⟩, ⟨#[124]⟩, ⟨#[120]⟩, ⟨#[49]⟩]
theorem dents_size {q : ByteArray} (h : q ∈ dents) : q.size = 1 := by
  simp only [dents, List.mem_cons, List.not_mem_nil, or_false] at h
  rcases h with rfl | rfl | rfl | rfl | rfl | rfl | rfl <;> rfl

theorem cur_drew {w : World} {base g ca : Nat} {ao : Option Addr} {xs : List Int} (h : Cur w base g ao ca xs) : Cur w.drew base g ao ca xs := ⟨h.low, h.len, h.cells, h.code⟩
theorem grown_undrew {w w' : World} {row : Option Nat} (h : w.drew.grownBy w' row) : w.grownBy w' row := ⟨h.os, h.tape, h.output, h.size, h.block⟩

set_option maxHeartbeats 4000000 in
set_option maxRecDepth 100000 in
theorem dent_any (base g ca : Nat) (ao : Option Addr) (xs : List Int) (s : ByteArray) (w : World) (hB : base ≤ w.heap.size) (hs : s.size ≤ 200) (h : Cur w base g ao ca xs) :
    Calls Tryd.prog 55 #[.pointer (some ⟨g, 0, none⟩), .string s] w fun e w' => ∃ t : ByteArray, e = .returned (.string t) ∧ t.size ≤ 401 ∧ w.grownBy w' (some g) := by
  have P := hide h
  clear h
  go_enter Tryd.func55, Tryd.ntmps55
  go_wp2_with fail
  refine (below_any base g ca ao xs ((s.size : Int) + 1) _ hB (by omega) (by omega) (unhide P)).mono ?_
  rintro e w1 ⟨a, rfl, a0, a1, c1, e1⟩
  have P1 := hide (And.intro c1 e1)
  have s1 := e1.size
  clear P c1 e1
  obtain ⟨at', rfl⟩ := Int.eq_ofNat_of_zero_le a0
  have hat : at' ≤ s.size := by omega
  clear a0 a1
  go_wp2_with fail
  refine (below_any base g ca ao xs 5 _ (by omega) (by omega) (by omega) (unhide P1).1).mono ?_
  rintro e w2 ⟨k, rfl, k0, k1, c2, e2⟩
  have s2 := e2.size
  have gg := grown_trans (unhide P1).2 e2
  have HC := hide c2
  clear P1 c2 e2
  have z1 : (s.extract 0 at').size ≤ s.size := ext_size s 0 at'
  have z2 : (s.extract at' s.size).size ≤ s.size := ext_size s at' s.size
  by_cases h0 : k = 0
  · subst h0
    go_wp2
    go_ret
    exact ⟨_, rfl, by omega, gg⟩
  · have n0 : (k == 0) = false := by simp [h0]
    by_cases h1 : k = 1
    · subst h1
      clear h0
      obtain ⟨u, hu⟩ : ∃ u, s.extract 0 at' = u := ⟨_, rfl⟩
      obtain ⟨v, hv⟩ : ∃ v, s.extract at' s.size = v := ⟨_, rfl⟩
      have t1 : ∀ w', (Instr.slice 9 (.string s) none (some (.int .i64 (at' : Int))) none).run Tryd.prog w' = .ok (.string u) w' := fun w' => by
        rw [← hu]; simp [Instr.slice, go_sem, run_underlying Tryd.underlying9, hat]
      have t2 : ∀ w', (Instr.slice 9 (.string s) (some (.int .i64 (at' : Int))) none none).run Tryd.prog w' = .ok (.string v) w' := fun w' => by
        rw [← hv]; simp [Instr.slice, go_sem, run_underlying Tryd.underlying9, hat]
      have zu : u.size ≤ 200 := by rw [← hu]; omega
      have zv : v.size ≤ 200 := by rw [← hv]; omega
      clear hu hv z1 z2 hat
      go_wp2_with fail
      go_region_held3 (fun _ => True) (trivial) (first
        | (go_at_call 67; refine (pick_lit base g ca ao xs dents w2.drew (by simp; omega) (by decide) (by decide) (cur_drew (unhide HC))).mono ?_; rintro e w3 ⟨q, rfl, hq, _, e3⟩
           have zq := dents_size hq
           have gg3 := grown_trans gg (grown_undrew e3)
           obtain ⟨y1, hy1⟩ : ∃ y, y = u ++ q := ⟨_, rfl⟩
           obtain ⟨y2, hy2⟩ : ∃ y, y = y1 ++ v := ⟨_, rfl⟩
           have zy1 : y1.size ≤ 201 := (by rw [hy1, ByteArray.size_append]; omega)
           have zy2 : y2.size ≤ 401 := (by rw [hy2, ByteArray.size_append]; omega)
           have q1 : ∀ w', (Op.stringOp .add u q).run Tryd.prog w' = .ok (.string y1) w' := (fun w' => by rw [hy1]; exact run_string_add_sum w' _ _ (by omega))
           have q2 : ∀ w', (Op.stringOp .add y1 v).run Tryd.prog w' = .ok (.string y2) w' := (fun w' => by rw [hy2]; exact run_string_add_sum w' _ _ (by omega))
           clear hy1 hy2))
      all_goals
        go_wp2
        go_ret
        exact ⟨_, rfl, zy2, gg3⟩
    · have n1 : (k == 1) = false := by simp [h1]
      clear h0 h1
      go_wp2
      go_ret
      exact ⟨_, rfl, by omega, gg⟩

set_option maxHeartbeats 1000000 in
set_option maxRecDepth 100000 in
theorem drawTxText (ao : Option Addr) (ca : Nat) (xs : List Int) (w : World) (h : DCode w ao xs) :
    Calls Tryd.prog 10 #[.slice ao xs.length ca] w fun e w' => ∃ a b c d : Int, e = .returned (txv a b c d) ∧ Below w.heap.size w w' := by
  have bn : Below w.heap.size w (w.alloc (.cells #[.int .i64 0, .int .i64 0, .int .i64 0, .int .i64 0] 25)) := (Below.refl _ _).alloc (Nat.le_refl _) _
  have hd := h.below bn (Nat.le_refl _)
  have HC := hide (new_any ao ca xs _ hd.len hd.code hd.fit)
  have Z0 := hide (cells4_new w 0 0 0 0 25)
  have f0 : Hid (∀ j, (w.alloc (.cells #[.int .i64 0, .int .i64 0, .int .i64 0, .int .i64 0] 25)).frozen? ⟨w.heap.size, j, none⟩ = false) := fun j => by simp [go_sem]
  have hws : (w.alloc (.cells #[.int .i64 0, .int .i64 0, .int .i64 0, .int .i64 0] 25)).heap.size = w.heap.size + 1 := by simp
  rw [hws] at HC
  clear h hd
  go_enter Tryd.func10, Tryd.ntmps10
  go_wp2_with fail
  refine (unhide HC).mono ?_
  rintro e w1 ⟨rfl, hcur, b1⟩
  have s1 := b1.size
  rw [hws] at s1
  have Z1 := hide ((unhide Z0).below b1 (by omega))
  have f1 := hide (frozen_below b1 (g := w.heap.size) (by omega) f0.out)
  have c1 : Below w.heap.size w w1 := bn.trans (b1.mono (by omega))
  have HU := hide hcur
  clear hcur HC Z0 f0 b1 bn
  go_wp2_with fail
  refine (drawTx (w.heap.size + 1) (w.heap.size + 1) ca ao xs w1 s1 (unhide HU)).mono ?_
  rintro e w2 ⟨a, b, c, d, rfl, _, e2⟩
  obtain ⟨z0, z1, z2, z3⟩ := c4_grown (unhide Z1) e2 (by omega)
  have zf := fr_grown (unhide f1) (by omega) e2 (by omega)
  have c2 := cur_below e2 c1 (by omega) (by omega)
  clear HU Z1 f1 e2
  go_wp2
  refine bodyPost_ret (v := txv a b c d) (by simp [results, Tryd.results10, go_sem, z0, z1, z2, z3]) rfl ?_
  exact ⟨_, _, _, _, rfl, (((c2.setCell (Nat.le_refl _) _).setCell (Nat.le_refl _) _).setCell (Nat.le_refl _) _).setCell (Nat.le_refl _) _⟩

set_option maxHeartbeats 1000000 in
set_option maxRecDepth 100000 in
theorem drawTxOk (ao : Option Addr) (ca : Nat) (xs : List Int) (w : World) (h : DCode w ao xs) :
    Calls Tryd.prog 20 #[.slice ao xs.length ca] w fun e w' => ∃ a b c d : Int, e = .returned (txv a b c d) ∧ Below w.heap.size w w' := by
  have bn : Below w.heap.size w (w.alloc (.cells #[.int .i64 0, .int .i64 0, .int .i64 0, .int .i64 0] 25)) := (Below.refl _ _).alloc (Nat.le_refl _) _
  have hd := h.below bn (Nat.le_refl _)
  have HC := hide (new_any ao ca xs _ hd.len hd.code hd.fit)
  have Z0 := hide (cells4_new w 0 0 0 0 25)
  have f0 : Hid (∀ j, (w.alloc (.cells #[.int .i64 0, .int .i64 0, .int .i64 0, .int .i64 0] 25)).frozen? ⟨w.heap.size, j, none⟩ = false) := fun j => by simp [go_sem]
  have hws : (w.alloc (.cells #[.int .i64 0, .int .i64 0, .int .i64 0, .int .i64 0] 25)).heap.size = w.heap.size + 1 := by simp
  rw [hws] at HC
  clear h hd
  go_enter Tryd.func20, Tryd.ntmps20
  go_wp2_with fail
  refine (unhide HC).mono ?_
  rintro e w1 ⟨rfl, hcur, b1⟩
  have s1 := b1.size
  rw [hws] at s1
  have Z1 := hide ((unhide Z0).below b1 (by omega))
  have f1 := hide (frozen_below b1 (g := w.heap.size) (by omega) f0.out)
  have c1 : Below w.heap.size w w1 := bn.trans (b1.mono (by omega))
  have HU := hide hcur
  clear hcur HC Z0 f0 b1 bn
  go_wp2_with fail
  refine (drawTx (w.heap.size + 1) (w.heap.size + 1) ca ao xs w1 s1 (unhide HU)).mono ?_
  rintro e w2 ⟨a, b, c, d, rfl, _, e2⟩
  obtain ⟨z0, z1, z2, z3⟩ := c4_grown (unhide Z1) e2 (by omega)
  have zf := fr_grown (unhide f1) (by omega) e2 (by omega)
  have c2 := cur_below e2 c1 (by omega) (by omega)
  clear HU Z1 f1 e2
  go_wp2
  refine bodyPost_ret (v := txv a b c d) (by simp [results, Tryd.results20, go_sem, z0, z1, z2, z3]) rfl ?_
  exact ⟨_, _, _, _, rfl, (((c2.setCell (Nat.le_refl _) _).setCell (Nat.le_refl _) _).setCell (Nat.le_refl _) _).setCell (Nat.le_refl _) _⟩

set_option maxHeartbeats 1000000 in
set_option maxRecDepth 100000 in
theorem drawTxOf (ao : Option Addr) (ca : Nat) (xs : List Int) (w : World) (h : DCode w ao xs) :
    Calls Tryd.prog 12 #[.slice ao xs.length ca] w fun e w' => ∃ t : ByteArray, e = .returned (.string t) ∧ t.size ≤ 401 ∧ Below w.heap.size w w' := by
  have HC := hide (new_any ao ca xs w h.len h.code h.fit)
  clear h
  go_enter Tryd.func12, Tryd.ntmps12
  go_wp2_with fail
  refine (unhide HC).mono ?_
  rintro e w1 ⟨rfl, hcur, b1⟩
  have s1 := b1.size
  go_wp2_with fail
  refine (drawRight w.heap.size w.heap.size ca ao xs w1 s1 hcur).mono ?_
  rintro e w2 ⟨a, b, c, d, rfl, h2, e2⟩
  have s2 := e2.size
  have c2 := cur_below e2 b1 s1 (Nat.le_refl _)
  have hts := txT_size (a, b, c, d)
  have CT := hide fun w => specTxText a b c d w
  have htx : txT (a, b, c, d) = txt a b c d := rfl
  rw [htx] at hts
  generalize txt a b c d = t at *
  have H2 := hide h2
  clear hcur b1 e2 h2 htx HC
  go_wp2_with fail
  refine (unhide CT _).mono ?_
  rintro e w3 ⟨rfl, b3⟩
  have s3 := b3.size
  have c3 := c2.trans (b3.mono (by omega))
  have h3 := (unhide H2).below (by omega) b3
  clear H2 b3 c2
  go_wp2_with fail
  refine (dent_any w.heap.size w.heap.size ca ao xs t w3 (by omega) (by omega) h3).mono ?_
  rintro e w4 ⟨t', rfl, ht', e4⟩
  have c4 := cur_below e4 c3 (by omega) (Nat.le_refl _)
  clear h3
  go_wp2
  go_ret
  exact ⟨_, rfl, ht', c4⟩

set_option maxHeartbeats 1000000 in
set_option maxRecDepth 100000 in
theorem drawTxsText (ao : Option Addr) (ca : Nat) (xs : List Int) (w : World) (h : DCode w ao xs) :
    Calls Tryd.prog 15 #[.slice ao xs.length ca] w fun e w' => ∃ (v : Value) (ys : List T4), e = .returned v ∧ ys.length ≤ 4 ∧ OT w' w.heap.size v ys ∧ Below w.heap.size w w' := by
  have HC := hide (new_any ao ca xs w h.len h.code h.fit)
  clear h
  go_enter Tryd.func15, Tryd.ntmps15
  go_wp2_with fail
  refine (unhide HC).mono ?_
  rintro e w1 ⟨rfl, hcur, b1⟩
  have s1 := b1.size
  go_wp2_with fail
  refine (drawTxs w.heap.size w.heap.size ca ao xs w1 s1 hcur).mono ?_
  rintro e w2 ⟨v, ys, rfl, hl, o2, _, e2⟩
  have c2 := cur_below e2 b1 s1 (Nat.le_refl _)
  have o2' : OT w2 w.heap.size v ys := by
    refine ⟨o2.1, ?_⟩
    rcases o2.2 with h | ⟨g, cap, cur, h1, h2, h3⟩
    · exact .inl h
    · exact .inr ⟨g, cap, cur, h1, by omega, h3⟩
  have HO := hide o2'
  clear o2 o2' e2 hcur HC b1
  go_wp2
  go_ret
  exact ⟨_, ys, rfl, hl, unhide HO, c2⟩

set_option maxHeartbeats 1000000 in
set_option maxRecDepth 100000 in
theorem drawTxsOf (ao : Option Addr) (ca : Nat) (xs : List Int) (w : World) (h : DCode w ao xs) :
    Calls Tryd.prog 17 #[.slice ao xs.length ca] w fun e w' => ∃ t : ByteArray, e = .returned (.string t) ∧ t.size ≤ 401 ∧ Below w.heap.size w w' := by
  have HC := hide (new_any ao ca xs w h.len h.code h.fit)
  clear h
  go_enter Tryd.func17, Tryd.ntmps17
  go_wp2_with fail
  refine (unhide HC).mono ?_
  rintro e w1 ⟨rfl, hcur, b1⟩
  have s1 := b1.size
  go_wp2_with fail
  refine (drawTxs w.heap.size w.heap.size ca ao xs w1 s1 hcur).mono ?_
  rintro e w2 ⟨v, ys, rfl, hl, o2, h2, e2⟩
  have s2 := e2.size
  have c2 := cur_below e2 b1 s1 (Nat.le_refl _)
  have CT := hide (specTxsText v ys w2 (by omega) (o2.rt (by omega)))
  have hts : (txsT ys).size ≤ 112 := by
    unfold txsT
    split
    · rw [toB_size]; have := accT_len ys ys.length; omega
    · exact Nat.zero_le _
  generalize txsT ys = t at *
  have H2 := hide h2
  clear hcur b1 e2 h2 HC o2
  go_wp2_with fail
  refine (unhide CT).mono ?_
  rintro e w3 ⟨rfl, b3⟩
  have s3 := b3.size
  have c3 := c2.trans (b3.mono (by omega))
  have h3 := (unhide H2).below (by omega) b3
  clear H2 b3 c2
  go_wp2_with fail
  refine (dent_any w.heap.size w.heap.size ca ao xs t w3 (by omega) (by omega) h3).mono ?_
  rintro e w4 ⟨t', rfl, ht', e4⟩
  have c4 := cur_below e4 c3 (by omega) (Nat.le_refl _)
  clear h3
  go_wp2
  go_ret
  exact ⟨_, rfl, ht', c4⟩
end Go.Proofs.YtnbiphlificliaaDoor
