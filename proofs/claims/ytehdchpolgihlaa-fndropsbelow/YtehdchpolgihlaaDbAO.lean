/- Texts that belong together: DrawTab, DrawConf, DrawTabDrop, SameL, SameParts. -/
import Derived.Test.YtehdchpolgihlaaDbAI
import Derived.Test.YtehdchpolgihlaaDbAN
import Derived.Test.YtehdchpolgihlaaDbAG
import Derived.Test.YtehdchpolgihlaaDbAD
import Derived.Test.YtehdchpolgihlaaDbAB
import Derived.Test.YtehdchpolgihlaaDbAK
import Derived.Deep.RegionHeld3
/- DrawTab: spec.l10DrawTable. -/
namespace Go.Proofs.Ytehdchpolgihlaa
open Go.RowKit
set_option linter.unusedSectionVars false
variable [∀ (a b c d : Int), Decidable (Ok4 a b c d)]
variable [∀ (a b c d : Nat), Decidable (okN a b c d)]
variable [∀ (x : T4), Decidable (OkT x)]
variable [∀ (last : Int) (s : St), Decidable (GoodSt last s)]
variable [∀ (n f : Int), Decidable (COk n f)]
variable [∀ (n : Int) (s : List Int), Decidable (OkL n s)]

/-- A small table: short names, lists of at most b numbers such as int holds. -/
def SmP (b : Nat) (ps : List Pt) : Prop := ∀ q ∈ ps, q.2.1.size ≤ 8001 ∧ q.2.2.length ≤ b ∧ WfL q.2.2
theorem wf_join {a b : List Int} (ha : WfL a) (hb : WfL b) : WfL (joinL a b) := fun x hx => by
  rcases (mem_join a b x).1 hx with h | h
  · exact ha x h
  · exact hb x h
theorem smp_add (rb : Bool) {b : Nat} {ps : List Pt} {v : Int} {s : ByteArray} {xs : List Int} (h : SmP b ps) (hs : s.size ≤ 8001) (hx : xs.length ≤ 7) (wx : WfL xs) : SmP (b + 7) (if rb = true then addP ps (v, s, xs) else ps) := by
  intro q hq
  split at hq
  · rcases addP_mem hq with h1 | rfl | ⟨x, h1, rfl⟩
    · have := h q h1; exact ⟨this.1, by omega, this.2.2⟩
    · exact ⟨hs, by simp only; omega, wx⟩
    · have h2 := h x h1
      have := join_size x.2.2 xs
      exact ⟨h2.1, by simp only [joinP]; omega, wf_join h2.2.2 wx⟩
  · have := h q hq; exact ⟨this.1, by omega, this.2.2⟩
theorem add_len_if (rb : Bool) (ps : List Pt) (p : Pt) : (if rb = true then addP ps p else ps).length ≤ ps.length + 1 := by
  split
  · exact addP_len ps p
  · omega

set_option maxHeartbeats 8000000 in
set_option maxRecDepth 100000 in
theorem drawTab (base g ca : Nat) (ao : Option Addr) (zs : List Int) (n f : Int) (w : World) (hB : base ≤ w.heap.size) (hn8 : n ≤ 8) (h : Cur w base g ao ca zs) :
    Calls Try.prog 23 #[.pointer (some ⟨g, 0, none⟩), cv n f] w fun e w' => ∃ (t : Value) (ps : List Pt), e = .returned t ∧ ps.length ≤ 5 ∧ Hid (SmP 40 ps) ∧ OPt w' w.heap.size t ps ∧ Cur w' base g ao ca zs ∧ w.grownBy w' (some g) := by
  have hlt := h.lt
  obtain ⟨w0, hw0⟩ : ∃ y, w.alloc (.cells #[.int .i64 n, .int .i64 f] 45) = y := ⟨_, rfl⟩
  have b0 : Below w.heap.size w w0 := hw0 ▸ qalloc _ _
  have LC : Loc w0 w.heap.size #[.int .i64 n, .int .i64 f] := hw0 ▸ loc_at w _ _ rfl
  have s0 : w0.heap.size = w.heap.size + 1 := by rw [← hw0]; simp
  have C := h.below hB b0
  have K : Kp w w0 (fun k => k = g) := Below.kpOf b0 _
  clear h b0
  obtain ⟨w1, hw1⟩ : ∃ y, w0.alloc (.cells #[] 31) = y := ⟨_, rfl⟩
  have b1 : Below w0.heap.size w0 w1 := hw1 ▸ qalloc _ _
  have TB : OPt w1 (w.heap.size + 1) (.slice (some ⟨w.heap.size + 1, 0, none⟩) 0 0) [] := by
    have := opt_empty w0
    rw [hw1, s0] at this
    exact ⟨_, this⟩
  replace LC := LC.below b1 LC.lt
  replace K := K.trans (Below.kpOf b1 _)
  replace C := C.below (by omega) b1
  have s1 := b1.size
  clear b1
  go_enter Try.func23, Try.ntmps23
  go_wp2
  clear hw0 hw1
  go_loopw [5, 6] (fun out j wr => ∃ (k : Nat) (ps : List Pt) (ta : Option Addr) (pl tc : Nat), k ≤ 4 ∧ j = .int .i64 k ∧ out = .slice ta pl tc ∧ pl ≤ k ∧ Hid (ps.length = pl) ∧ Hid (SmP (7 * k) ps) ∧ OPt wr (w.heap.size + 1) (.slice ta pl tc) ps ∧ Loc wr w.heap.size #[.int .i64 n, .int .i64 f] ∧ Cur wr base g ao ca zs ∧ Kp w wr (fun k => k = g)) (fun _ j _ => 4 - (intOf j).toNat)
  case atStart => exact ⟨0, [], _, 0, 0, by omega, rfl, rfl, by omega, hide rfl, hide (fun q hq => by simp at hq), TB, LC, C, K⟩
  case round =>
    clear TB LC C K
    obtain ⟨k, ps, ta, pl, tc, hk, rfl, rfl, hpk0, HL, SM, TB, LC, C, K⟩ := hrel
    have sK := K.size
    have hll := LC.lt
    go_wp2_with fail
    refine (below_any base g ca ao zs 5 _ (by omega) (by omega) (by omega) C).mono ?_
    rintro e w7 ⟨r, rfl, r0, r1, c7, g7⟩
    replace C := c7
    clear c7
    have kk := kp_of g7
    have sk := kk.size
    replace LC := LC.kp kk (by omega)
    replace TB := TB.kp kk (fun j h1 h2 => by omega)
    replace K := K.trans kk
    clear kk g7
    by_cases hlt2 : (k : Int) < r
    · have hd : decide ((k : Int) < r) = true := by simpa using hlt2
      go_upto_region 5 with fail
      refine wp_region_noPanic ?_
      refine wp_region_held_drew (S := (fun w' => w'.cell? ⟨w.heap.size, 0, none⟩ = some (.int .i64 n) ∧ w'.cell? ⟨w.heap.size, 1, none⟩ = some (.int .i64 f))) (by kernel_rfl) ⟨LC.cell 0 rfl, LC.cell 1 rfl⟩ (fun hHeld => ?_)
      obtain ⟨wd, hd'⟩ : ∃ y, w7.drew = y := ⟨_, rfl⟩
      have bd : Below w7.heap.size w7 wd := hd' ▸ Below.drew (Below.refl _ _)
      have sk := bd.size
      replace LC := LC.below bd LC.lt
      replace TB := TB.below bd
      replace K := K.trans (Below.kpOf bd _)
      replace C := C.below (by omega) bd
      rw [hd'] at hHeld ⊢
      clear hd' bd
      refine take_at (i := 0) (d := 15) (v := ?_) rfl rfl (by kernel_rfl) (by kernel_rfl) (by kernel_rfl) (fun _ _ _ h => h) (Or.inl ⟨by rfl, ?_⟩) (by assumption) ?_
      rotate_left
      · intro w hSw
        try dsimp only at hSw
        go_simp
        try with_reducible rfl
      simp only [Act.put, List.setIfInBounds_toArray, List.set_cons_zero, List.set_cons_succ]
      refine take_at (i := 1) (d := 16) (v := ?_) rfl rfl (by kernel_rfl) (by kernel_rfl) (by kernel_rfl) (fun _ _ _ h => h) (Or.inl ⟨by rfl, ?_⟩) (by assumption) ?_
      rotate_left
      · intro w hSw
        try dsimp only at hSw
        go_simp
        try with_reducible rfl
      simp only [Act.put, List.setIfInBounds_toArray, List.set_cons_zero, List.set_cons_succ]
      refine take_at (i := 2) (d := 17) (v := ?_) rfl rfl (by kernel_rfl) (by kernel_rfl) (by kernel_rfl) (fun _ _ _ h => h) (Or.inl ⟨by rfl, ?_⟩) (by assumption) ?_
      rotate_left
      · intro w hSw
        try dsimp only at hSw
        go_simp
        try with_reducible rfl
      simp only [Act.put, List.setIfInBounds_toArray, List.set_cons_zero, List.set_cons_succ]
      refine take_at (i := 3) (d := 18) (v := ?_) rfl rfl (by kernel_rfl) (by kernel_rfl) (by kernel_rfl) (fun _ _ _ h => h) (Or.inl ⟨by rfl, ?_⟩) (by assumption) ?_
      rotate_left
      · intro w hSw
        try dsimp only at hSw
        go_simp
        try with_reducible rfl
      simp only [Act.put, List.setIfInBounds_toArray, List.set_cons_zero, List.set_cons_succ]
      refine ready_at (i := 4) rfl (by kernel_rfl) (fun KK hKK => ?_)
      go_simp
      refine (drawPartR base g ca ao zs n f _ (by omega) hn8 C).mono ?_
      rintro e wb ⟨v, s, u, xs, rfl, hv, hs, hl, WX, O, c4, g4⟩
      replace C := c4
      clear c4
      have kk := kp_of g4
      have sk := kk.size
      replace LC := LC.kp kk (by omega)
      replace TB := TB.kp kk (fun j h1 h2 => by omega)
      replace K := K.trans kk
      clear kk g4
      have TA := hide (specTableAdd n f (.slice ta pl tc) ps v s u xs wb (by rw [unhide HL]; omega) (by omega) (by omega) (fun q hq => by have := unhide SM q hq; omega) (by have := TB.rpt (fun q hq => by have := unhide SM q hq; omega); exact this) (O.ri (by omega)))
      obtain ⟨ua, uc, hu⟩ := O.form
      subst hu
      clear hHeld
      refine hKK.out _ _ ⟨LC.cell 0 rfl, LC.cell 1 rfl⟩ (fun hHeld => ?_)
      clear hKK KK
      refine ready_at (i := 5) rfl (by kernel_rfl) (fun KK hKK => ?_)
      go_simp
      refine (unhide TA).mono ?_
      rintro e wc ⟨t, rfl, o5, b5⟩
      have sk := b5.size
      replace LC := LC.below b5 LC.lt
      replace K := K.trans (Below.kpOf b5 _)
      replace C := C.below (by omega) b5
      have SM2 := hide (smp_add (tokB n f (addP ps (v, s, xs)) && pokB n f v s xs) (b := 7 * k) (v := v) (s := s) (unhide SM) (by omega) hl (unhide WX))
      have HL2 := add_len_if (tokB n f (addP ps (v, s, xs)) && pokB n f v s xs) ps (v, s, xs)
      generalize (tokB n f (addP ps (v, s, xs)) && pokB n f v s xs) = rb at *
      generalize (if rb = true then addP ps (v, s, xs) else ps) = ps2 at *
      replace o5 := o5.mono (show w.heap.size + 1 ≤ wb.heap.size by omega)
      obtain ⟨t5, c5, ht5⟩ := o5.form
      obtain ⟨pl2, hpl2⟩ : ∃ l, ps2.length = l := ⟨_, rfl⟩
      rw [hpl2] at ht5
      subst ht5
      have HL3 := hide hpl2
      have hpk : pl2 ≤ k + 1 := by have := unhide HL; omega
      clear HL2 hpl2 b5 TB TA SM O
      clear hHeld
      refine hKK.out _ _ ⟨LC.cell 0 rfl, LC.cell 1 rfl⟩ (fun hHeld => ?_)
      clear hKK KK
      refine take_at (i := 6) (d := 14) (v := ?_) rfl rfl (by kernel_rfl) (by kernel_rfl) (by kernel_rfl) (fun _ _ _ h => h) (Or.inl ⟨by rfl, ?_⟩) (by assumption) ?_
      rotate_left
      · intro w hSw
        try dsimp only at hSw
        go_simp
        try with_reducible rfl
      simp only [Act.put, List.setIfInBounds_toArray, List.set_cons_zero, List.set_cons_succ]
      refine take_at (i := 7) (d := 21) (v := ?_) rfl rfl (by kernel_rfl) (by kernel_rfl) (by kernel_rfl) (fun _ _ _ h => h) (Or.inl ⟨by rfl, ?_⟩) (by assumption) ?_
      rotate_left
      · intro w hSw
        try dsimp only at hSw
        go_simp
        try with_reducible rfl
      simp only [Act.put, List.setIfInBounds_toArray, List.set_cons_zero, List.set_cons_succ]
      refine take_at (i := 8) (d := 22) (v := ?_) rfl rfl (by kernel_rfl) (by kernel_rfl) (by kernel_rfl) (fun _ _ _ h => h) (Or.inl ⟨by rfl, ?_⟩) (by assumption) ?_
      rotate_left
      · intro w hSw
        try dsimp only at hSw
        go_simp
        try with_reducible rfl
      simp only [Act.put, List.setIfInBounds_toArray, List.set_cons_zero, List.set_cons_succ]
      refine take_at (i := 9) (d := 5) (v := ?_) rfl rfl (by kernel_rfl) (by kernel_rfl) (by kernel_rfl) (fun _ _ _ h => h) (Or.inl ⟨by rfl, ?_⟩) (by assumption) ?_
      rotate_left
      · intro w hSw
        try dsimp only at hSw
        go_simp
        try with_reducible rfl
      simp only [Act.put, List.setIfInBounds_toArray, List.set_cons_zero, List.set_cons_succ]
      clear hHeld
      refine wpAnyH_done (by kernel_rfl) ?_ _
      refine NoPanic.normal ?_
      go_wp2
      go_roundw
      case rel => exact ⟨k + 1, ps2, t5, pl2, c5, by omega, by go_num, rfl, by omega, HL3, hide (fun q hq => by have := unhide SM2 q hq; exact ⟨this.1, by omega, this.2.2⟩), o5, LC, C, K⟩
      case measure => simp [intOf]; omega
    · have hd : decide ((k : Int) < r) = false := by simpa using hlt2
      go_wp2_with fail
      refine (once_any base g ca ao zs 8 _ (by omega) (by omega) (by omega) C).mono ?_
      rintro e w8 ⟨b, rfl, c8, g8⟩
      replace C := c8
      clear c8
      have kk := kp_of g8
      have sk := kk.size
      replace LC := LC.kp kk (by omega)
      replace TB := TB.kp kk (fun j h1 h2 => by omega)
      replace K := K.trans kk
      clear kk g8
      cases b with
      | false =>
        have TB' := hide (TB.mono (show w.heap.size ≤ w.heap.size + 1 by omega))
        clear TB LC
        go_wp2
        go_ret
        exact ⟨_, ps, rfl, by have := unhide HL; omega, hide (fun q hq => by have := unhide SM q hq; exact ⟨this.1, by omega, this.2.2⟩), unhide TB', C, kp_to K⟩
      | true =>
        have n0 := LC.cell 0 rfl
        have n1 := LC.cell 1 rfl
        go_wp2_with fail
        clear n0 n1
        refine (drawPart base g ca ao zs n f _ (by omega) hn8 C).mono ?_
        rintro e w9 ⟨v, s, u, xs, rfl, hv, hs, hl, WX, O, c9, g9⟩
        replace C := c9
        clear c9
        have sz8 := K.size
        obtain ⟨vs, TV⟩ := TB
        have hN : Hid (∀ j, j < ps.length → ∀ b, (vs.getD j (.slice none 0 0)).ownBlock = some b → b < w8.heap.size) := hide fun j hj b hb => (World.ownsRow.lt (TV.each j hj) b hb).2
        have kk := kp_of g9
        have sk9 := kk.size
        replace TV := TV.kp kk (fun j h1 h2 => by omega)
        replace K := K.trans kk
        clear kk g9 LC
        obtain ⟨ua, uc, hu⟩ := O.form
        obtain ⟨ul, hul⟩ : ∃ l, xs.length = l := ⟨_, rfl⟩
        rw [hul] at hu hl
        subst hu
        replace hul := hide hul
        obtain ⟨wa, hwa⟩ : ∃ y, w9.alloc (.cells #[.int .i64 v, .string s, .slice ua ul uc] 31) = y := ⟨_, rfl⟩
        have ba : Below w9.heap.size w9 wa := hwa ▸ qalloc _ _
        have La : Loc wa w9.heap.size #[.int .i64 v, .string s, .slice ua ul uc] := hwa ▸ loc_at w9 _ _ rfl
        have d0 := La.cell 0 rfl
        have d1 := La.cell 1 rfl
        have d2 := La.cell 2 rfl
        have Ta := hide (TV.below ba)
        have Oa := hide (O.below ba)
        have sa := ba.size
        replace K := K.trans (Below.kpOf ba _)
        replace C := C.below (by omega) ba
        clear TV O ba La
        go_wp2_with (first
          | (at_builtin; clear hwa; refine append_part rfl _ _ rfl (w.heap.size + 1) w8.heap.size (.slice ta pl tc) ps vs w9.heap.size 1 v s _ xs rfl rfl (unhide Ta) d0 d1 d2 (unhide Oa) (unhide hN) (by omega) (by rw [unhide HL]; omega) (by omega) ?_; intro v4 w4 ho4 hg4 _
             have r4 := World.ownsRow.lt (unhide Ta).row
             have kx : Kp w w4 (fun k => k = g) := ⟨hg4.os.trans K.os, hg4.tape.trans K.tape, hg4.output.trans K.output, Nat.le_trans K.size hg4.size, fun k hk hg => (hg4.block k (Nat.lt_of_lt_of_le hk K.size) (fun e => by have := r4 k e.symm; omega)).trans (K.block k hk hg)⟩
             have cx := C.grownNew hg4 (fun j e => by have := r4 j e; omega)
             obtain ⟨a4, c4, hv4⟩ := OPt.form ⟨_, ho4⟩
             have HL4 := hide (show (ps ++ [(v, s, xs)]).length ≤ 5 by have := unhide HL; simp; omega)
             have SM4 : Hid (SmP 40 (ps ++ [(v, s, xs)])) := hide (fun q hq => by rcases List.mem_append.1 hq with h | h; exact (by have := unhide SM q h; exact ⟨this.1, by omega, this.2.2⟩); simp at h; subst h; exact ⟨hs, by simp only; rw [unhide hul]; omega, unhide WX⟩)
             generalize ps ++ [(v, s, xs)] = es at *
             subst hv4
             have T4 := hide (show OPt w4 w.heap.size _ es from OPt.mono ⟨_, ho4⟩ (by omega))
             clear Ta Oa hN ho4 hg4 r4 d0 d1 d2 K C SM))
        go_ret
        exact ⟨_, es, rfl, unhide HL4, SM4, unhide T4, cx, kp_to kx⟩
end Go.Proofs.Ytehdchpolgihlaa

/- The draws of a Conf. -/
namespace Go.Proofs.Ytehdchpolgihlaa
open Go.RowKit
set_option linter.unusedSectionVars false
variable [∀ (a b c d : Int), Decidable (Ok4 a b c d)]
variable [∀ (a b c d : Nat), Decidable (okN a b c d)]
variable [∀ (x : T4), Decidable (OkT x)]
variable [∀ (n f : Int), Decidable (COk n f)]

abbrev zc : Obj := .cells #[.int .i64 0, .int .i64 0] 45
set_option maxHeartbeats 2000000 in
set_option maxRecDepth 100000 in
theorem drawConfB (base g ca : Nat) (ao : Option Addr) (zs : List Int) (w : World) (hB : base ≤ w.heap.size) (h : Cur w base g ao ca zs) :
    Calls Try.prog 24 #[.pointer (some ⟨g, 0, none⟩)] w fun e w' => ∃ n f : Int, e = .returned (cv n f) ∧ (4 ≤ n ∧ n ≤ 7) ∧ (1 ≤ f ∧ f ≤ 3) ∧ Cur w' base g ao ca zs ∧ w.grownBy w' (some g) := by
  have hlt := h.lt
  obtain ⟨w0, hw0⟩ : ∃ w0, w.alloc zc = w0 := ⟨_, rfl⟩
  have C0 : Cur w0 base g ao ca zs := hw0 ▸ h.alloc hB _
  have G0 : w.grownBy w0 (some g) := hw0 ▸ World.grownBy_alloc w _ _
  have Z0 : Loc w0 w.heap.size #[.int .i64 0, .int .i64 0] := hw0 ▸ loc_at w _ _ rfl
  have s0 : w0.heap.size = w.heap.size + 1 := by rw [← hw0]; simp
  clear h
  go_enter Try.func24, Try.ntmps24
  go_wp2_with fail
  clear hw0
  refine (below_any base g ca ao zs 4 _ (by omega) (by omega) (by omega) C0).mono ?_
  rintro e w1 ⟨x, rfl, x0, x1, c1, e1⟩
  have Z1 := Z0.grown e1 (by omega)
  have G1 := grown_trans G0 e1
  have s1 := e1.size
  clear Z0 G0 C0 e1
  go_wp2_with fail
  refine (below_any base g ca ao zs 3 _ (by omega) (by omega) (by omega) c1).mono ?_
  rintro e w2 ⟨y, rfl, y0, y1, c2, e2⟩
  have Z2 := Z1.grown e2 (by omega)
  have G2 := grown_trans G1 e2
  have p0 := Z2.cell 0 rfl
  have p1 := Z2.cell 1 rfl
  have fp := Z2.frozen
  have HC := hide c2
  clear Z1 G1 c1 e2 c2
  go_wp2
  refine bodyPost_ret (v := cv (4 + x) (1 + y)) (by simp [results, Try.results24, go_sem, p0, p1]) rfl ?_
  exact ⟨_, _, rfl, ⟨by omega, by omega⟩, ⟨by omega, by omega⟩, ((unhide HC).set (by omega) _ _).set (by omega) _ _, grown_set (grown_set G2 (Nat.le_refl _) _ _) (Nat.le_refl _) _ _⟩

theorem drawConf (base g ca : Nat) (ao : Option Addr) (zs : List Int) (w : World) (hB : base ≤ w.heap.size) (h : Cur w base g ao ca zs) :
    Calls Try.prog 24 #[.pointer (some ⟨g, 0, none⟩)] w fun e w' => ∃ n f : Int, e = .returned (cv n f) ∧ (4 ≤ n ∧ n ≤ 7) ∧ Cur w' base g ao ca zs ∧ w.grownBy w' (some g) :=
  (drawConfB base g ca ao zs w hB h).mono fun _ _ ⟨n, f, he, hn, _, hr⟩ => ⟨n, f, he, hn, hr⟩

end Go.Proofs.Ytehdchpolgihlaa

/- DrawTabDrop: spec.DrawTableDrop. -/
namespace Go.Proofs.Ytehdchpolgihlaa
open Go.RowKit
set_option linter.unusedSectionVars false
variable [∀ (a b c d : Int), Decidable (Ok4 a b c d)]
variable [∀ (a b c d : Nat), Decidable (okN a b c d)]
variable [∀ (x : T4), Decidable (OkT x)]
variable [∀ (last : Int) (s : St), Decidable (GoodSt last s)]
variable [∀ (n f : Int), Decidable (COk n f)]
variable [∀ (n : Int) (s : List Int), Decidable (OkL n s)]

set_option maxHeartbeats 2000000 in
set_option maxRecDepth 100000 in
theorem drawTableDrop (ao : Option Addr) (ca : Nat) (zs : List Int) (w : World) (h : DCode w ao zs) :
    Calls Try.prog 7 #[.slice ao zs.length ca] w fun e w' => ∃ (t : Value) (ps : List Pt) (x : Int), e = .returned (.tuple #[t, .int .i64 x]) ∧ ps.length ≤ 5 ∧ Hid (SmP 40 ps) ∧ OPt w' w.heap.size t ps ∧ Below w.heap.size w w' := by
  have NW := hide (new_any ao ca zs w h.len h.code h.fit)
  clear h
  go_enter Try.func7, Try.ntmps7
  go_wp2_with fail
  refine (unhide NW).mono ?_
  rintro e w1 ⟨rfl, C, B⟩
  have s1 := C.lt
  clear NW
  go_wp2_with fail
  refine (drawConf w.heap.size w.heap.size ca ao zs _ (by omega) C).mono ?_
  rintro e w2 ⟨n, f, rfl, ⟨hn0, hn1⟩, c2, g2⟩
  have s2 := g2.size
  replace B := cur_below g2 B (by omega) (by omega)
  replace C := c2
  clear c2 g2
  go_wp2_with fail
  refine (drawTab w.heap.size w.heap.size ca ao zs n f _ (by omega) (by omega) C).mono ?_
  rintro e w3 ⟨t, ps, rfl, hl, SM, TB, c3, g3⟩
  have s3 := g3.size
  replace B := cur_below g3 B (by omega) (by omega)
  replace C := c3
  obtain ⟨ta, tc, ht⟩ := TB.form
  obtain ⟨pl, hpl⟩ : ∃ l, ps.length = l := ⟨_, rfl⟩
  rw [hpl] at ht hl
  subst ht
  replace hpl := hide hpl
  clear c3 g3
  go_wp2_with fail
  refine (below_any w.heap.size w.heap.size ca ao zs 6 _ (by omega) (by omega) (by omega) C).mono ?_
  rintro e w4 ⟨x, rfl, x0, x1, c4, g4⟩
  have kk := kp_of g4
  have T4 := hide ((TB.kp kk (fun j h1 h2 => by omega)).mono (show w.heap.size ≤ w2.heap.size by omega))
  replace B := cur_below g4 B (by omega) (by omega)
  clear C TB kk g4 c4
  go_wp2
  go_ret2
  exact ⟨_, ps, _, rfl, by rw [unhide hpl]; exact hl, SM, unhide T4, B⟩
end Go.Proofs.Ytehdchpolgihlaa

/- laws.sameInts, laws.sameLedger, laws.big. -/
namespace Go.Proofs.Ytehdchpolgihlaa
open Go.RowKit

set_option maxHeartbeats 1600000 in
set_option maxRecDepth 100000 in
theorem sameInts_yes (va vb : Value) (xs : List Int) (w : World) (ha : RI w va xs) (hb : RI w vb xs) :
    Calls Try.prog 31 #[va, vb] w fun e w' => e = .returned (.bool true) ∧ ∃ n, w' = w.drewN n := by
  obtain ⟨hl, ao, ca, rfl, ha⟩ := ha
  obtain ⟨_, bo, cb, rfl, hb⟩ := hb
  generalize hn : xs.length = n at *
  have Hn : Hid (xs.length = n) := hn
  clear hn
  go_enter Try.func31, Try.ntmps31
  go_wp2
  go_loopw [5] (fun i wr => ∃ k : Nat, k ≤ n ∧ i = .int .i64 k ∧ ∃ m, wr = w.drewN m) (fun i _ => n - (intOf i).toNat)
  case atStart => exact ⟨0, Nat.zero_le _, rfl, 0, rfl⟩
  case round =>
    obtain ⟨k, hk, rfl, m, rfl⟩ := hrel
    by_cases hlt : k < n
    · rcases ha with ha | ⟨b, off, rfl, ha⟩
      · subst ha; have := Hn.out; simp at this; omega
      rcases hb with hb | ⟨b', off', rfl, hb⟩
      · subst hb; have := Hn.out; simp at this; omega
      have ha' := ha k hlt
      have hb' := hb k hlt
      clear ha hb
      generalize xs.getD k 0 = d at *
      go_wp2_with fail
      go_quiet (fail)
      go_wp2
      go_roundw
      case rel => exact ⟨k + 1, by omega, by go_num, _, rfl⟩
      case measure => simp [intOf]; omega
    · clear ha hb
      go_wp2
      go_ret
      exact ⟨rfl, _, rfl⟩

set_option maxHeartbeats 1600000 in
set_option maxRecDepth 100000 in
theorem big_any (ao : Option Addr) (n ca : Nat) (w : World) (hn : n ≤ 9223372036854775807) :
    Calls Try.prog 6 #[.slice ao n ca] w fun e w' => e = .returned (.bool (decide (1048576 < n))) ∧ Below w.heap.size w w' := by
  have hd : decide ((1048576 : Int) < (n : Int)) = decide (1048576 < n) := by simp; omega
  go_enter Try.func6, Try.ntmps6
  go_wp2
  go_ret
  refine ⟨?_, Below.refl _ _⟩
  simp
  try omega
end Go.Proofs.Ytehdchpolgihlaa

/- SameParts: laws.samePart, laws.sameTable. -/
namespace Go.Proofs.Ytehdchpolgihlaa
open Go.RowKit

set_option maxHeartbeats 1600000 in
set_option maxRecDepth 100000 in
theorem samePart_yes (n : Int) (s : ByteArray) (a b : Value) (xs : List Int) (w : World) (ha : RI w a xs) (hb : RI w b xs) :
    Calls Try.prog 11 #[qv n s a, qv n s b] w fun e w' => e = .returned (.bool true) ∧ Below w.heap.size w w' := by
  obtain ⟨aa, ac, rfl⟩ := ha.form
  obtain ⟨ba, bc, rfl⟩ := hb.form
  obtain ⟨w0, hw0⟩ : ∃ y, (w.alloc (.cells #[.int .i64 n, .string s, .slice aa xs.length ac] 31)).alloc (.cells #[.int .i64 n, .string s, .slice ba xs.length bc] 31) = y := ⟨_, rfl⟩
  have B0 : Below w.heap.size w w0 := hw0 ▸ qalloc2 _ _ _
  have X : Loc w0 w.heap.size #[.int .i64 n, .string s, .slice aa xs.length ac] := hw0 ▸ (loc_at w _ _ rfl).alloc _
  have Y : Loc w0 (w.heap.size + 1) #[.int .i64 n, .string s, .slice ba xs.length bc] := hw0 ▸ loc_at (w.alloc _) _ _ (by simp)
  have SI := hide (sameInts_yes _ _ xs w0 (ha.below B0 (Nat.le_refl _)) (hb.below B0 (Nat.le_refl _)))
  obtain ⟨xl, hxl⟩ : ∃ l, xs.length = l := ⟨_, rfl⟩
  rw [hxl] at hw0 X Y SI ⊢
  have x0 := X.cell 0 rfl
  have x1 := X.cell 1 rfl
  have x2 := X.cell 2 rfl
  have y0 := Y.cell 0 rfl
  have y1 := Y.cell 1 rfl
  have y2 := Y.cell 2 rfl
  clear ha hb X Y hxl
  go_enter Try.func11, Try.ntmps11
  go_wp2_with fail
  clear hw0
  refine (unhide SI).mono ?_
  rintro e w1 ⟨rfl, nd, rfl⟩
  clear x0 x1 x2 y0 y1 y2
  go_wp2
  go_ret
  exact ⟨rfl, below_drewN' B0 _⟩

set_option maxHeartbeats 4000000 in
set_option maxRecDepth 100000 in
theorem sameTable_yes (v u : Value) (ps : List Pt) (w : World) (hl : ps.length ≤ 4194304) (hv : RPt w v ps) (hu : RPt w u ps) :
    Calls Try.prog 9 #[v, u] w fun e w' => e = .returned (.bool true) ∧ Below w.heap.size w w' := by
  obtain ⟨ao, ca, rfl, ha⟩ := hv
  obtain ⟨bo, cb, rfl, hb⟩ := hu
  obtain ⟨n, hn⟩ : ∃ n, ps.length = n := ⟨_, rfl⟩
  have Hn := hide hn
  rw [hn] at hl ha hb ⊢
  clear hn
  go_enter Try.func9, Try.ntmps9
  go_wp2
  go_loopw [5] (fun i wr => ∃ k : Nat, k ≤ n ∧ i = .int .i64 k ∧ Below w.heap.size w wr) (fun i _ => n - (intOf i).toNat)
  case atStart => exact ⟨0, Nat.zero_le _, rfl, Below.refl _ _⟩
  case round =>
    obtain ⟨k, hk, rfl, br⟩ := hrel
    have hsr := br.size
    by_cases hlt : k < n
    · rcases ha with ha | ⟨g, o, rfl, ha⟩
      · subst ha; have := unhide Hn; simp at this; omega
      rcases hb with hb | ⟨g', o', rfl, hb⟩
      · subst hb; have := unhide Hn; simp at this; omega
      obtain ⟨p, a0, a1, a2, ra⟩ := ha k hlt
      obtain ⟨q, b0, b1, b2, rb⟩ := hb k hlt
      have hg : g < w.heap.size := cell_lt a0
      have hg' : g' < w.heap.size := cell_lt b0
      generalize (ps.getD k zpt).1 = m at *
      generalize (ps.getD k zpt).2.1 = s at *
      generalize (ps.getD k zpt).2.2 = xs at *
      have K : Hid (∀ w', Below wr.heap.size wr w' → Below wr.heap.size wr w' ∧ (w'.cell? ⟨g, o + k * 3, none⟩ = some (.int .i64 m) ∧ w'.cell? ⟨g, o + k * 3 + 1, none⟩ = some (.string s) ∧ w'.cell? ⟨g, o + k * 3 + 2, none⟩ = some p) ∧ (w'.cell? ⟨g', o' + k * 3, none⟩ = some (.int .i64 m) ∧ w'.cell? ⟨g', o' + k * 3 + 1, none⟩ = some (.string s) ∧ w'.cell? ⟨g', o' + k * 3 + 2, none⟩ = some q)) := fun w' hb' => by
        have hw := br.trans (hb'.mono hsr)
        exact ⟨hb', ⟨(hw.cell (p := ⟨g, o + k * 3, none⟩) hg).trans a0, (hw.cell (p := ⟨g, o + k * 3 + 1, none⟩) hg).trans a1, (hw.cell (p := ⟨g, o + k * 3 + 2, none⟩) hg).trans a2⟩, ⟨(hw.cell (p := ⟨g', o' + k * 3, none⟩) hg').trans b0, (hw.cell (p := ⟨g', o' + k * 3 + 1, none⟩) hg').trans b1, (hw.cell (p := ⟨g', o' + k * 3 + 2, none⟩) hg').trans b2⟩⟩
      have EQ : Hid (∀ w', Below wr.heap.size wr w' → Calls Try.prog 11 #[qv m s p, qv m s q] w' fun e w'' => e = .returned (.bool true) ∧ Below w'.heap.size w' w'') := hide fun w' hb' => by
        have hw := br.trans (hb'.mono hsr)
        exact samePart_yes m s p q xs w' (ra.below hw (Nat.le_refl _)) (rb.below hw (Nat.le_refl _))
      obtain ⟨pa, pc, rfl⟩ := ra.form
      obtain ⟨qa, qc, rfl⟩ := rb.form
      have bA : Below wr.heap.size wr wr.drew := Below.drew (Below.refl _ _)
      have hKeep := unhide K _ bA
      clear ha hb a0 a1 a2 b0 b1 b2 ra rb
      generalize xs.length = xl at *
      go_wp2_with fail
      first | go_region_held3 (fun w' => Below wr.heap.size wr w' ∧ (w'.cell? ⟨g, o + k * 3, none⟩ = some (.int .i64 m) ∧ w'.cell? ⟨g, o + k * 3 + 1, none⟩ = some (.string s) ∧ w'.cell? ⟨g, o + k * 3 + 2, none⟩ = some (.slice pa xl pc)) ∧ (w'.cell? ⟨g', o' + k * 3, none⟩ = some (.int .i64 m) ∧ w'.cell? ⟨g', o' + k * 3 + 1, none⟩ = some (.string s) ∧ w'.cell? ⟨g', o' + k * 3 + 2, none⟩ = some (.slice qa xl qc))) (exact hKeep) (first
        | (go_at_call 11; have hgo := bA; refine (unhide EQ _ bA).mono ?_; rintro e wa ⟨rfl, ba⟩
           have bB : Below wr.heap.size wr wa := bA.trans ba
           have hKeep := unhide K _ bB; clear bA hgo)) | fail
      all_goals
        go_wp2
        go_roundw
        case rel => exact ⟨k + 1, by omega, by go_num, br.trans (bB.mono hsr)⟩
        case measure => simp [intOf]; omega
    · have hkn : k = n := by omega
      subst hkn
      clear ha hb
      go_wp2
      go_ret
      exact ⟨rfl, br⟩

end Go.Proofs.Ytehdchpolgihlaa
