/- slices.IndexFunc, slices.Grow, slices.Concat at numbers; impl.SetAdd. -/
import Derived.Test.YtkjmkcipalmonaaSetHasImpl
import Derived.Test.YtkjmkcipalmonaaLoc
import Derived.Test.YtkjmkcipalmonaaHeldBy
import Derived.Lib.AppendZerosOnto
import Derived.Laws.EntriesVeiled
namespace Go.Proofs.Ytkjmkcipalmonaa
open Go.RowKit

/-- Where the first number stands that is not below i; else the end. -/
def atL (xs : List Int) (i : Int) : Nat := (xs.takeWhile fun x => decide (x < i)).length
theorem at_is {xs : List Int} {i : Int} {k : Nat} (hall : ∀ x ∈ xs.take k, x < i) (hk : k ≤ xs.length) (hst : k < xs.length → ¬ xs.getD k 0 < i) : atL xs i = k ∧ xs.takeWhile (fun x => decide (x < i)) = xs.take k ∧ xs.dropWhile (fun x => decide (x < i)) = xs.drop k := by
  have hall' : ∀ x ∈ xs.take k, (decide (x < i)) = true := fun x hx => by simpa using hall x hx
  have hd : xs.drop k = [] ∨ ∃ c t, xs.drop k = c :: t ∧ ¬ c < i := by
    by_cases hlt : k < xs.length
    · right
      refine ⟨_, _, List.drop_eq_getElem_cons hlt, ?_⟩
      have := hst hlt
      rwa [List.getD_eq_getElem?_getD, List.getElem?_eq_getElem hlt] at this
    · left; exact List.drop_of_length_le (by omega)
  have e1 : xs.takeWhile (fun x => decide (x < i)) = xs.take k := by
    conv => lhs; rw [← List.take_append_drop k xs]
    rw [List.takeWhile_append_of_pos hall']
    rcases hd with e | ⟨c, t, e, hc⟩
    · rw [e]; simp
    · rw [e]; simp [hc]
  have e2 : xs.dropWhile (fun x => decide (x < i)) = xs.drop k := by
    conv => lhs; rw [← List.take_append_drop k xs]
    rw [List.dropWhile_append_of_pos hall']
    rcases hd with e | ⟨c, t, e, hc⟩
    · rw [e]; simp
    · rw [e]; simp [hc]
  refine ⟨?_, e1, e2⟩
  unfold atL
  rw [e1, List.length_take]; omega
theorem at_le (xs : List Int) (i : Int) : atL xs i ≤ xs.length := by
  have e := congrArg List.length (List.takeWhile_append_dropWhile (p := fun x => decide (x < i)) (l := xs))
  rw [List.length_append] at e
  unfold atL; omega
theorem at_cut (xs : List Int) (i : Int) : xs.take (atL xs i) = xs.takeWhile (fun x => decide (x < i)) ∧ xs.drop (atL xs i) = xs.dropWhile (fun x => decide (x < i)) := by
  have e := List.takeWhile_append_dropWhile (p := fun x => decide (x < i)) (l := xs)
  unfold atL
  constructor
  · conv => lhs; arg 2; rw [← e]
    exact List.take_left
  · conv => lhs; arg 2; rw [← e]
    exact List.drop_left
set_option maxHeartbeats 400000 in
set_option maxRecDepth 100000 in
theorem notBelow (x i : Int) (g : Nat) (w : World) (hg : w.cell? ⟨g, 0, none⟩ = some (.int .i64 i)) :
    Calls Try.prog 54 #[.int .i64 x, .pointer (some ⟨g, 0, none⟩)] w fun e w' => e = .returned (.bool (decide (i ≤ x))) ∧ Below w.heap.size w w' := by
  go_enter Try.func54, Try.ntmps54
  go_wp2
  go_ret
  exact ⟨by simp, Below.refl _ _⟩
set_option maxHeartbeats 1600000 in
set_option maxRecDepth 100000 in
theorem indexF_int (v : Value) (xs : List Int) (i : Int) (g : Nat) (w : World) (h : RI w v xs) (hg : w.cell? ⟨g, 0, none⟩ = some (.int .i64 i)) :
    Calls Try.prog 53 #[v, .func (.func 54) #[] #[.pointer (some ⟨g, 0, none⟩)]] w fun e w' => ∃ q : Int, e = .returned (.int .i64 q) ∧ Hid ((0 ≤ q ∧ q = (atL xs i : Nat)) ∨ (q < 0 ∧ atL xs i = xs.length)) ∧ Below w.heap.size w w' := by
  obtain ⟨ao, ca, rfl⟩ := h.form
  have hl := h.1
  have H := hide h
  obtain ⟨n, hn⟩ : ∃ n, xs.length = n := ⟨_, rfl⟩
  have Hn := hide hn
  rw [hn] at hl H ⊢
  clear h hn
  have HG := hide hg
  have lg := cell_lt hg
  clear hg
  go_enter Try.func53, Try.ntmps53
  go_wp2
  go_loopw [8] (fun j wr => ∃ k : Nat, k ≤ n ∧ j = .int .i64 k ∧ Hid (∀ x ∈ xs.take k, x < i) ∧ Below w.heap.size w wr) (fun j _ => n - (intOf j).toNat)
  case atStart => exact ⟨0, Nat.zero_le _, rfl, hide (by simp), Below.refl _ _⟩
  case round =>
    obtain ⟨k, hk, rfl, HA, br⟩ := hrel
    have FIN : Hid ((k < n → ¬ xs.getD k 0 < i) → atL xs i = k) := hide fun hst => (at_is (unhide HA) (by have := unhide Hn; omega) (fun h => hst (by have := unhide Hn; omega))).1
    by_cases hlt : k < n
    · have hkx : k < xs.length := by rw [unhide Hn]; exact hlt
      obtain ⟨b, off, rfl, c⟩ := ((unhide H).below br (Nat.le_refl _)).at k hkx
      have cg := br.cell (p := ⟨g, 0, none⟩) lg
      rw [unhide HG] at cg
      have HT := hide (itake_more xs k hkx)
      generalize xs.getD k 0 = x at *
      have NB := hide (notBelow x i g wr cg)
      clear hkx
      by_cases hx : x < i
      · have HS : Hid (∀ x ∈ xs.take (k + 1), x < i) := hide (by
          rw [unhide HT]; intro y hy
          rcases List.mem_append.1 hy with hy | hy
          · exact unhide HA y hy
          · simp at hy; subst hy; exact hx)
        rw [decide_eq_false (by omega : ¬ i ≤ x)] at NB
        clear HT HA FIN hx
        go_wp2_with fail
        refine (unhide NB).mono ?_
        rintro _ w2 ⟨rfl, b2⟩
        go_wp2
        go_roundw
        case rel => exact ⟨k + 1, by omega, by go_num, HS, br.trans (b2.mono br.size)⟩
        case measure => simp [intOf]; omega
      · rw [decide_eq_true (by omega : i ≤ x)] at NB
        have F := hide (unhide FIN fun _ => hx)
        clear HT HA FIN hx
        go_wp2_with fail
        refine (unhide NB).mono ?_
        rintro _ w2 ⟨rfl, b2⟩
        go_wp2
        go_ret
        exact ⟨k, rfl, hide (.inl ⟨by omega, by rw [unhide F]⟩), br.trans (b2.mono br.size)⟩
    · have F := hide (unhide FIN fun h => absurd h hlt)
      have hkn : k = n := by omega
      have hd2 : decide ((k : Int) < (n : Int)) = false := by simp; omega
      clear HA FIN
      go_wp2
      go_ret
      exact ⟨-1, rfl, hide (.inr ⟨by omega, by rw [unhide F, hkn]⟩), br⟩

set_option maxHeartbeats 1600000 in
set_option maxRecDepth 100000 in
theorem grow_ints (n : Nat) (w : World) (hn : 0 < n) (hl : n ≤ 4194304) :
    Calls Try.prog 63 #[.slice none 0 0, .int .i64 n] w fun e w' => ∃ v, e = .returned v ∧ OI w' w.heap.size v [] ∧ Below w.heap.size w w' := by
  obtain ⟨i0, hi, hz0, hz1, hz2⟩ := info_parts Try.info3
  have hold : (Builtin.firstCells i0.size 0 (.slice none 0 0)).run Try.prog w.drew = .ok ([] : List Value).toArray w.drew := run_firstCells_none w.drew i0.size 0 0 0
  have hrz : ∀ ty, (Builtin.append_ #[28, 3] ty #[.slice none 0 0, .int .i64 (n : Int)]).run Try.prog w =
      .ok (.slice (some ⟨w.heap.size, 0, none⟩) (0 + n) (grownCap w (0 + n) 0 3)) (w.drew.alloc (.cells (([] : List Value).toArray ++ Builtin.zeroCells (Value.int .i64 0).cells n ++ Builtin.zeroCells (Value.int .i64 0).cells (grownCap w (0 + n) 0 3 - (0 + n))) 3)) := fun ty =>
    Lib.run_append_grow_zeros w 28 3 ty 3 i0 (Value.int .i64 0) .i64 .i64 Try.underlying28 Try.underlying3 hi hz0 none 0 0 [] hold n hn (by rw [hz1]; decide) (by omega) (by omega)
      (by rw [hz2]; omega) (growslice_fits (by omega) (by rw [hz2]; omega))
  have hG : 0 + n ≤ grownCap w (0 + n) 0 3 := grownCap_ge w _ _ _
  have hG63 : grownCap w (0 + n) 0 3 ≤ maxLen := grownCap_le_maxLen w (0 + n) 0 _ (by unfold maxLen; omega)
  generalize grownCap w (0 + n) 0 3 = G at *
  have hcs : (([] : List Value).toArray ++ Builtin.zeroCells (Value.int .i64 0).cells n ++ Builtin.zeroCells (Value.int .i64 0).cells (G - (0 + n))).size = G * 1 := by
    have e4 : (Value.int .i64 0).cells.size = 1 := rfl
    simp [Builtin.zeroCells, e4]
    omega
  generalize ([] : List Value).toArray ++ Builtin.zeroCells (Value.int .i64 0).cells n ++ Builtin.zeroCells (Value.int .i64 0).cells (G - (0 + n)) = cs at *
  have HO : Hid (OI (w.drew.alloc (.cells cs 3)) w.heap.size (.slice (some ⟨w.heap.size, 0, none⟩) 0 G) []) := hide (World.ownsRow_made w.drew cs G (Nat.le_refl _) hG63 hcs)
  rw [Nat.zero_add] at hrz hG
  have h2 : ¬ ((n : Int) < 0) := by omega
  have hG64 : G ≤ 9223372036854775807 := by unfold maxLen at hG63; omega
  clear hold hcs hG63
  go_enter Try.func63, Try.ntmps63
  go_wp2_with (at_builtin; refine Lib.wpList_append_run _ rfl _ _ _ _ rfl _ _ rfl rfl _ _ (hrz _) ?_)
  go_ret
  exact ⟨_, rfl, unhide HO, (Below.drew (Below.refl _ _)).alloc (Nat.le_refl _) _⟩
set_option maxHeartbeats 4000000 in
set_option maxRecDepth 100000 in
theorem concat_ints (g : Nat) (v1 v2 v3 : Value) (xs ys zs : List Int) (w : World) (h0 : w.cell? ⟨g, 0, none⟩ = some v1) (h1 : w.cell? ⟨g, 1, none⟩ = some v2) (h2 : w.cell? ⟨g, 2, none⟩ = some v3)
    (p1 : PI w v1 xs) (p2 : PI w v2 ys) (p3 : PI w v3 zs) (hy : 0 < ys.length) (hl : xs.length + ys.length + zs.length ≤ 4194304) :
    Calls Try.prog 55 #[.slice (some ⟨g, 0, none⟩) 3 3] w fun e w' => ∃ v, e = .returned v ∧ OI w' w.heap.size v (xs ++ ys ++ zs) ∧ Below w.heap.size w w' := by
  have P1 := hide p1
  have P2 := hide p2
  have P3 := hide p3
  have GR := hide fun w => grow_ints (xs.length + ys.length + zs.length) w (by omega) hl
  have lg : g < w.heap.size := cell_lt h0
  obtain ⟨a1, k1, rfl, _⟩ := p1
  obtain ⟨a2, k2, rfl, _⟩ := p2
  obtain ⟨a3, k3, rfl, _⟩ := p3
  have e1 : IntKind.i64.wrap ((xs.length : Int) + (ys.length : Int)) = (xs.length : Int) + (ys.length : Int) := by rw [IntKind.wrap_i64]; omega
  have e2 : IntKind.i64.wrap ((xs.length : Int) + (ys.length : Int) + (zs.length : Int)) = ((xs.length + ys.length + zs.length : Nat) : Int) := by rw [IntKind.wrap_i64]; omega
  have n1 : ¬ ((xs.length : Int) + (ys.length : Int) < 0) := by omega
  obtain ⟨n, hn⟩ : ∃ n, xs.length + ys.length + zs.length = n := ⟨_, rfl⟩
  rw [hn] at GR e2
  have n2 : ¬ ((n : Int) < 0) := by omega
  go_enter Try.func55, Try.ntmps55
  go_wp2
  refine wp_loop_rounds 4 ?_
  rw [rounds_succ]
  go_wp2
  rw [rounds_succ]
  go_wp2
  rw [rounds_succ]
  go_wp2
  rw [rounds_succ]
  go_wp2_with fail
  refine (unhide GR _).mono ?_
  rintro _ w0 ⟨v0, rfl, o0, b0⟩
  have HO0 := hide o0
  have HB0 := hide b0
  have c0 := b0.cell (p := ⟨g, 0, none⟩) lg
  have c1 := b0.cell (p := ⟨g, 1, none⟩) lg
  have c2 := b0.cell (p := ⟨g, 2, none⟩) lg
  rw [h0] at c0
  rw [h1] at c1
  rw [h2] at c2
  clear o0 b0
  go_wp2
  refine wp_loop_rounds 4 ?_
  rw [rounds_succ]
  go_wp2_with (first | (at_builtin; refine append_ints rfl _ _ rfl w.heap.size v0 (.slice a1 xs.length k1) [] xs rfl rfl (unhide HO0) ((unhide P1).below (unhide HB0)) (by simp; omega) (unhide HB0).size ?_; intro v1 w1 ho1 hg1 _; have HO1 := hide ho1; have HB1 := hide ((unhide HB0).grown hg1 (unhide HB0).size (fun j hj => ((unhide HO0).lt j hj).1)); have c0 := (unhide HB1).cell (p := ⟨g, 0, none⟩) lg; have c1 := (unhide HB1).cell (p := ⟨g, 1, none⟩) lg; have c2 := (unhide HB1).cell (p := ⟨g, 2, none⟩) lg; rw [h0] at c0; rw [h1] at c1; rw [h2] at c2; clear ho1 hg1))
  rw [rounds_succ]
  go_wp2_with (first | (at_builtin; refine append_ints rfl _ _ rfl w.heap.size v1 (.slice a2 ys.length k2) ([] ++ xs) ys rfl rfl (unhide HO1) ((unhide P2).below (unhide HB1)) (by simp; omega) (unhide HB1).size ?_; intro v2 w2 ho2 hg2 _; have HO2 := hide ho2; have HB2 := hide ((unhide HB1).grown hg2 (unhide HB1).size (fun j hj => ((unhide HO1).lt j hj).1)); have c0 := (unhide HB2).cell (p := ⟨g, 0, none⟩) lg; have c1 := (unhide HB2).cell (p := ⟨g, 1, none⟩) lg; have c2 := (unhide HB2).cell (p := ⟨g, 2, none⟩) lg; rw [h0] at c0; rw [h1] at c1; rw [h2] at c2; clear ho2 hg2))
  rw [rounds_succ]
  go_wp2_with (first | (at_builtin; refine append_ints rfl _ _ rfl w.heap.size v2 (.slice a3 zs.length k3) ([] ++ xs ++ ys) zs rfl rfl (unhide HO2) ((unhide P3).below (unhide HB2)) (by simp; omega) (unhide HB2).size ?_; intro v3 w3 ho3 hg3 _; have HO3 := hide ho3; have HB3 := hide ((unhide HB2).grown hg3 (unhide HB2).size (fun j hj => ((unhide HO2).lt j hj).1)); have c0 := (unhide HB3).cell (p := ⟨g, 0, none⟩) lg; have c1 := (unhide HB3).cell (p := ⟨g, 1, none⟩) lg; have c2 := (unhide HB3).cell (p := ⟨g, 2, none⟩) lg; rw [h0] at c0; rw [h1] at c1; rw [h2] at c2; clear ho3 hg3))
  rw [rounds_succ]
  go_wp2
  go_ret
  exact ⟨_, rfl, unhide HO3, unhide HB3⟩
set_option maxHeartbeats 4000000 in
set_option maxRecDepth 100000 in
theorem implSetAdd (v : Value) (xs : List Int) (i : Int) (w : World) (h : RI w v xs) (hc : Cap v) (hx : xs.length ≤ 4194303) :
    Calls Try.prog 34 #[v, .int .i64 i] w fun e w' => ∃ u, e = .returned u ∧ OI w' w.heap.size u (addL xs i) ∧ Below w.heap.size w w' := by
  have SH := hide fun w h => implSetHas v xs i w h
  have CI := hide fun w h => copyInts_any v xs w h
  have IX := hide fun g w h hg => indexF_int v xs i g w h hg
  have HAT := hide (at_cut xs i)
  have hatl := at_le xs i
  obtain ⟨ao, ca, rfl⟩ := h.form
  obtain ⟨hcn, hcm⟩ : xs.length ≤ ca ∧ ca ≤ maxLen := by obtain ⟨_, _, _, e, h1, h2⟩ := hc; cases e; exact ⟨h1, h2⟩
  unfold maxLen at hcm
  obtain ⟨w0, hw0⟩ : ∃ w0, w.alloc (.cells #[.int .i64 i] 3) = w0 := ⟨_, rfl⟩
  have B0 : Below w.heap.size w w0 := hw0 ▸ (Below.refl _ _).alloc (Nat.le_refl _) _
  have L0 : Loc w0 w.heap.size #[.int .i64 i] := hw0 ▸ loc_at w _ _ rfl
  have H := hide (h.below B0 (Nat.le_refl _))
  have q0 := L0.cell 0 rfl
  clear h hc
  by_cases hm : i ∈ xs
  · have ea : addL xs i = xs := if_pos hm
    rw [ea]
    rw [decide_eq_true hm] at SH
    clear hm ea IX HAT
    go_enter Try.func34, Try.ntmps34
    go_wp2_with fail
    refine (unhide SH _ (unhide H)).mono ?_
    rintro _ w1 ⟨rfl, b1⟩
    have B1 := B0.trans (b1.mono B0.size)
    have H1 := hide ((unhide H).below b1 (Nat.le_refl _))
    clear hw0 q0
    go_wp2_with fail
    refine (unhide CI _ (unhide H1)).mono ?_
    rintro _ w2 ⟨u, rfl, o2, b2⟩
    have B2 := B1.trans (b2.mono B1.size)
    have O2 := OI.mono o2 B1.size
    clear o2 b2
    go_wp2
    go_ret
    exact ⟨_, rfl, O2, B2⟩
  · have ea : addL xs i = xs.takeWhile (fun x => decide (x < i)) ++ i :: xs.dropWhile (fun x => decide (x < i)) := if_neg hm
    rw [decide_eq_false hm] at SH
    rw [← (unhide HAT).1, ← (unhide HAT).2] at ea
    have HF := hide ea
    clear hm ea CI HAT
    obtain ⟨n, hn⟩ : ∃ n, xs.length = n := ⟨_, rfl⟩
    have Hn := hide hn
    rw [hn] at H hx hcn SH IX hatl ⊢
    clear hn
    go_enter Try.func34, Try.ntmps34
    go_wp2_with fail
    refine (unhide SH _ (unhide H)).mono ?_
    rintro _ w1 ⟨rfl, b1⟩
    have B1 := B0.trans (b1.mono B0.size)
    have H1 := hide ((unhide H).below b1 (Nat.le_refl _))
    replace L0 := L0.below b1 L0.lt
    replace q0 := L0.cell 0 rfl
    clear hw0 b1 H SH B0
    go_wp2_with fail
    refine (unhide IX _ _ (unhide H1) q0).mono ?_
    rintro _ w2 ⟨q, rfl, HQ, b2⟩
    have B2 := B1.trans (b2.mono B1.size)
    have H2 := hide ((unhide H1).below b2 (Nat.le_refl _))
    replace L0 := L0.below b2 L0.lt
    clear b2 H1 IX B1 q0
    have hcast : Hid ((0 ≤ q ∧ q = (atL xs i : Nat)) ∨ (q < 0 ∧ atL xs i = n)) := HQ
    clear HQ
    generalize atL xs i = k at *
    have PP := (unhide H2).pi
    have PA : Hid (PI w2 (.slice ao k ca) (xs.take k)) := hide (PP.take k hatl ca)
    obtain ⟨bo, hbo⟩ : ∃ bo, (if ca = k then ao else ao.map (·.add (k * 1))) = bo := ⟨_, rfl⟩
    have PB : Hid (PI w2 (.slice bo (n - k) (ca - k)) (xs.drop k)) := hide (PP.drop k (ca - k) (fun h => by rw [← hbo, if_neg (by omega)]))
    have T1 : ∀ w', (Instr.slice 28 (.slice ao n ca) none (some (.int .i64 (k : Int))) none).run Try.prog w' = .ok (.slice ao k ca) w' := fun w' => icut_to ao n ca k w' (by omega)
    have T2 : ∀ w', (Instr.slice 28 (.slice ao n ca) (some (.int .i64 (k : Int))) none none).run Try.prog w' = .ok (.slice bo (n - k) (ca - k)) w' := fun w' => by rw [icut_from ao n ca k w' hatl, hbo]
    have HL : Hid ((xs.take k).length + [i].length + (xs.drop k).length ≤ 4194304) := hide (by have := unhide Hn; simp; omega)
    have bA : Below w2.heap.size w2 w2.drew := Below.drew (Below.refl _ _)
    have K : Hid (∀ w', Below w2.heap.size w2 w' → w'.cell? ⟨w.heap.size, 0, none⟩ = some (.int .i64 i)) := hide fun w' hb => (L0.below hb L0.lt).cell 0 rfl
    clear PP hbo H2 L0
    rcases unhide hcast with ⟨h0, rfl⟩ | ⟨h0, rfl⟩
    · clear hcast
      go_wp2_with fail
      refine wp_region_noPanic ?_
      refine wp_region_held_drew (S := (fun w' => w'.cell? ⟨w.heap.size, 0, none⟩ = some (.int .i64 i))) (by kernel_rfl) (unhide K _ bA) (fun hHeld => ?_)
      obtain ⟨wd, hd⟩ : ∃ wd, w2.drew = wd := ⟨_, rfl⟩
      have bd : Below w2.heap.size w2 wd := hd ▸ bA
      have szd := bd.size
      rw [hd] at hHeld ⊢
      clear hd
      refine take_at (i := 0) (d := 18) (v := ?_) rfl rfl (by kernel_rfl) (by kernel_rfl) (by kernel_rfl) (fun _ _ _ h => h) (Or.inl ⟨by rfl, ?_⟩) (by assumption) ?_
      rotate_left
      · intro w hSw
        try dsimp only at hSw
        go_simp
        try with_reducible rfl
      simp only [Act.put, List.setIfInBounds_toArray, List.set_cons_zero, List.set_cons_succ]
      refine take_at (i := 1) (d := 19) (v := ?_) rfl rfl (by kernel_rfl) (by kernel_rfl) (by kernel_rfl) (fun _ _ _ h => h) (Or.inl ⟨by rfl, ?_⟩) (by assumption) ?_
      rotate_left
      · intro w hSw
        try dsimp only at hSw
        go_simp
        try with_reducible rfl
      simp only [Act.put, List.setIfInBounds_toArray, List.set_cons_zero, List.set_cons_succ]
      refine take_at (i := 2) (d := 20) (v := ?_) rfl rfl (by kernel_rfl) (by kernel_rfl) (by kernel_rfl) (fun _ _ _ h => h) (Or.inl ⟨by rfl, ?_⟩) (by assumption) ?_
      rotate_left
      · intro w hSw
        try dsimp only at hSw
        go_simp
        try with_reducible rfl
      simp only [Act.put, List.setIfInBounds_toArray, List.set_cons_zero, List.set_cons_succ]
      refine take_at (i := 3) (d := 21) (v := ?_) rfl rfl (by kernel_rfl) (by kernel_rfl) (by kernel_rfl) (fun _ _ _ h => h) (Or.inl ⟨by rfl, ?_⟩) (by assumption) ?_
      rotate_left
      · intro w hSw
        try dsimp only at hSw
        go_simp
        try with_reducible rfl
      simp only [Act.put, List.setIfInBounds_toArray, List.set_cons_zero, List.set_cons_succ]
      refine take_at (i := 5) (d := 23) (v := ?_) rfl rfl (by kernel_rfl) (by kernel_rfl) (by kernel_rfl) (fun _ _ _ h => h) (Or.inl ⟨by rfl, ?_⟩) (by assumption) ?_
      rotate_left
      · intro w hSw
        try dsimp only at hSw
        go_simp
        try with_reducible rfl
      simp only [Act.put, List.setIfInBounds_toArray, List.set_cons_zero, List.set_cons_succ]
      refine take_at (i := 6) (d := 24) (v := ?_) rfl rfl (by kernel_rfl) (by kernel_rfl) (by kernel_rfl) (fun _ _ _ h => h) (Or.inl ⟨by rfl, ?_⟩) (by assumption) ?_
      rotate_left
      · intro w hSw
        try dsimp only at hSw
        go_simp
        try with_reducible rfl
      simp only [Act.put, List.setIfInBounds_toArray, List.set_cons_zero, List.set_cons_succ]
      refine take_at (i := 7) (d := 25) (v := ?_) rfl rfl (by kernel_rfl) (by kernel_rfl) (by kernel_rfl) (fun _ _ _ h => h) (Or.inl ⟨by rfl, ?_⟩) (by assumption) ?_
      rotate_left
      · intro w hSw
        try dsimp only at hSw
        go_simp
        try with_reducible rfl
      simp only [Act.put, List.setIfInBounds_toArray, List.set_cons_zero, List.set_cons_succ]
      refine ready_at (i := 4) rfl (by kernel_rfl) (fun KK hKK => ?_)
      go_simp
      obtain ⟨we, he⟩ : ∃ y, wd.alloc (.cells #[.int .i64 i] 3) = y := ⟨_, rfl⟩
      have be : Below w2.heap.size w2 we := he ▸ bd.alloc bd.size _
      have LE : OI we w2.heap.size (.slice (some ⟨wd.heap.size, 0, none⟩) 1 1) [i] := he ▸ World.ownsRow_lit wd #[.int .i64 i] 1 szd (by unfold maxLen; omega) rfl
      rw [he]
      clear hHeld
      refine hKK.out _ _ (unhide K _ be) (fun hHeld => ?_)
      clear hKK KK
      refine ready_at (i := 8) rfl (by kernel_rfl) (fun KK hKK => ?_)
      go_simp
      obtain ⟨wf, hf⟩ : ∃ y, we.alloc (.cells #[.slice ao k ca, .slice (some ⟨wd.heap.size, 0, none⟩) 1 1, .slice bo (n - k) (ca - k)] 28) = y := ⟨_, rfl⟩
      have bf : Below w2.heap.size w2 wf := hf ▸ be.alloc be.size _
      have bef : Below we.heap.size we wf := hf ▸ (Below.refl _ _).alloc (Nat.le_refl _) _
      have LF : Loc wf we.heap.size #[.slice ao k ca, .slice (some ⟨wd.heap.size, 0, none⟩) 1 1, .slice bo (n - k) (ca - k)] := hf ▸ loc_at we _ _ rfl
      replace LE := LE.below bef
      rw [hf]
      clear hHeld
      refine hKK.out _ _ (unhide K _ bf) (fun hHeld => ?_)
      clear hKK KK
      refine ready_at (i := 9) rfl (by kernel_rfl) (fun KK hKK => ?_)
      go_simp
      refine (concat_ints _ _ _ _ (xs.take k) [i] (xs.drop k) _ (LF.cell 0 rfl) (LF.cell 1 rfl) (LF.cell 2 rfl) ((unhide PA).below bf) (LE.ri (by simp)).pi ((unhide PB).below bf) (by simp) (unhide HL)).mono ?_
      rintro _ wz ⟨u, rfl, oz, bz⟩
      have BZ := bf.trans (bz.mono bf.size)
      have BW := B2.trans (BZ.mono B2.size)
      have OZ : OI wz w.heap.size u (addL xs i) := by rw [unhide HF]; exact OI.mono (by simpa using oz) (by have := B2.size; have := bf.size; omega)
      clear hHeld
      refine hKK.out _ _ (unhide K _ BZ) (fun hHeld => ?_)
      clear hKK KK
      refine take_at (i := 10) (d := 4) (v := ?_) rfl rfl (by kernel_rfl) (by kernel_rfl) (by kernel_rfl) (fun _ _ _ h => h) (Or.inl ⟨by rfl, ?_⟩) (by assumption) ?_
      rotate_left
      · intro w hSw
        try dsimp only at hSw
        go_simp
        try with_reducible rfl
      simp only [Act.put, List.setIfInBounds_toArray, List.set_cons_zero, List.set_cons_succ]
      clear hHeld
      refine wpAnyH_done (by kernel_rfl) ?_ _
      refine NoPanic.normal ?_
      go_wp2
      go_ret
      exact ⟨_, rfl, OZ, BW⟩
    · clear hcast
      rw [Nat.sub_self] at PB
      simp only [Nat.sub_self] at T2
      go_wp2_with fail
      refine wp_region_noPanic ?_
      refine wp_region_held_drew (S := (fun w' => w'.cell? ⟨w.heap.size, 0, none⟩ = some (.int .i64 i))) (by kernel_rfl) (unhide K _ bA) (fun hHeld => ?_)
      obtain ⟨wd, hd⟩ : ∃ wd, w2.drew = wd := ⟨_, rfl⟩
      have bd : Below w2.heap.size w2 wd := hd ▸ bA
      have szd := bd.size
      rw [hd] at hHeld ⊢
      clear hd
      refine take_at (i := 0) (d := 18) (v := ?_) rfl rfl (by kernel_rfl) (by kernel_rfl) (by kernel_rfl) (fun _ _ _ h => h) (Or.inl ⟨by rfl, ?_⟩) (by assumption) ?_
      rotate_left
      · intro w hSw
        try dsimp only at hSw
        go_simp
        try with_reducible rfl
      simp only [Act.put, List.setIfInBounds_toArray, List.set_cons_zero, List.set_cons_succ]
      refine take_at (i := 1) (d := 19) (v := ?_) rfl rfl (by kernel_rfl) (by kernel_rfl) (by kernel_rfl) (fun _ _ _ h => h) (Or.inl ⟨by rfl, ?_⟩) (by assumption) ?_
      rotate_left
      · intro w hSw
        try dsimp only at hSw
        go_simp
        try with_reducible rfl
      simp only [Act.put, List.setIfInBounds_toArray, List.set_cons_zero, List.set_cons_succ]
      refine take_at (i := 2) (d := 20) (v := ?_) rfl rfl (by kernel_rfl) (by kernel_rfl) (by kernel_rfl) (fun _ _ _ h => h) (Or.inl ⟨by rfl, ?_⟩) (by assumption) ?_
      rotate_left
      · intro w hSw
        try dsimp only at hSw
        go_simp
        try with_reducible rfl
      simp only [Act.put, List.setIfInBounds_toArray, List.set_cons_zero, List.set_cons_succ]
      refine take_at (i := 3) (d := 21) (v := ?_) rfl rfl (by kernel_rfl) (by kernel_rfl) (by kernel_rfl) (fun _ _ _ h => h) (Or.inl ⟨by rfl, ?_⟩) (by assumption) ?_
      rotate_left
      · intro w hSw
        try dsimp only at hSw
        go_simp
        try with_reducible rfl
      simp only [Act.put, List.setIfInBounds_toArray, List.set_cons_zero, List.set_cons_succ]
      refine take_at (i := 5) (d := 23) (v := ?_) rfl rfl (by kernel_rfl) (by kernel_rfl) (by kernel_rfl) (fun _ _ _ h => h) (Or.inl ⟨by rfl, ?_⟩) (by assumption) ?_
      rotate_left
      · intro w hSw
        try dsimp only at hSw
        go_simp
        try with_reducible rfl
      simp only [Act.put, List.setIfInBounds_toArray, List.set_cons_zero, List.set_cons_succ]
      refine take_at (i := 6) (d := 24) (v := ?_) rfl rfl (by kernel_rfl) (by kernel_rfl) (by kernel_rfl) (fun _ _ _ h => h) (Or.inl ⟨by rfl, ?_⟩) (by assumption) ?_
      rotate_left
      · intro w hSw
        try dsimp only at hSw
        go_simp
        try with_reducible rfl
      simp only [Act.put, List.setIfInBounds_toArray, List.set_cons_zero, List.set_cons_succ]
      refine take_at (i := 7) (d := 25) (v := ?_) rfl rfl (by kernel_rfl) (by kernel_rfl) (by kernel_rfl) (fun _ _ _ h => h) (Or.inl ⟨by rfl, ?_⟩) (by assumption) ?_
      rotate_left
      · intro w hSw
        try dsimp only at hSw
        go_simp
        try with_reducible rfl
      simp only [Act.put, List.setIfInBounds_toArray, List.set_cons_zero, List.set_cons_succ]
      refine ready_at (i := 4) rfl (by kernel_rfl) (fun KK hKK => ?_)
      go_simp
      obtain ⟨we, he⟩ : ∃ y, wd.alloc (.cells #[.int .i64 i] 3) = y := ⟨_, rfl⟩
      have be : Below w2.heap.size w2 we := he ▸ bd.alloc bd.size _
      have LE : OI we w2.heap.size (.slice (some ⟨wd.heap.size, 0, none⟩) 1 1) [i] := he ▸ World.ownsRow_lit wd #[.int .i64 i] 1 szd (by unfold maxLen; omega) rfl
      rw [he]
      clear hHeld
      refine hKK.out _ _ (unhide K _ be) (fun hHeld => ?_)
      clear hKK KK
      refine ready_at (i := 8) rfl (by kernel_rfl) (fun KK hKK => ?_)
      go_simp
      obtain ⟨wf, hf⟩ : ∃ y, we.alloc (.cells #[.slice ao k ca, .slice (some ⟨wd.heap.size, 0, none⟩) 1 1, .slice bo 0 (ca - k)] 28) = y := ⟨_, rfl⟩
      have bf : Below w2.heap.size w2 wf := hf ▸ be.alloc be.size _
      have bef : Below we.heap.size we wf := hf ▸ (Below.refl _ _).alloc (Nat.le_refl _) _
      have LF : Loc wf we.heap.size #[.slice ao k ca, .slice (some ⟨wd.heap.size, 0, none⟩) 1 1, .slice bo 0 (ca - k)] := hf ▸ loc_at we _ _ rfl
      replace LE := LE.below bef
      rw [hf]
      clear hHeld
      refine hKK.out _ _ (unhide K _ bf) (fun hHeld => ?_)
      clear hKK KK
      refine ready_at (i := 9) rfl (by kernel_rfl) (fun KK hKK => ?_)
      go_simp
      refine (concat_ints _ _ _ _ (xs.take k) [i] (xs.drop k) _ (LF.cell 0 rfl) (LF.cell 1 rfl) (LF.cell 2 rfl) ((unhide PA).below bf) (LE.ri (by simp)).pi ((unhide PB).below bf) (by simp) (unhide HL)).mono ?_
      rintro _ wz ⟨u, rfl, oz, bz⟩
      have BZ := bf.trans (bz.mono bf.size)
      have BW := B2.trans (BZ.mono B2.size)
      have OZ : OI wz w.heap.size u (addL xs i) := by rw [unhide HF]; exact OI.mono (by simpa using oz) (by have := B2.size; have := bf.size; omega)
      clear hHeld
      refine hKK.out _ _ (unhide K _ BZ) (fun hHeld => ?_)
      clear hKK KK
      refine take_at (i := 10) (d := 4) (v := ?_) rfl rfl (by kernel_rfl) (by kernel_rfl) (by kernel_rfl) (fun _ _ _ h => h) (Or.inl ⟨by rfl, ?_⟩) (by assumption) ?_
      rotate_left
      · intro w hSw
        try dsimp only at hSw
        go_simp
        try with_reducible rfl
      simp only [Act.put, List.setIfInBounds_toArray, List.set_cons_zero, List.set_cons_succ]
      clear hHeld
      refine wpAnyH_done (by kernel_rfl) ?_ _
      refine NoPanic.normal ?_
      go_wp2
      go_ret
      exact ⟨_, rfl, OZ, BW⟩
end Go.Proofs.Ytkjmkcipalmonaa
