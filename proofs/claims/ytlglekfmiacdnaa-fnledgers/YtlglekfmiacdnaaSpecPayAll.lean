/- spec.PayAll. -/
import Derived.Test.YtlglekfmiacdnaaSpecPayAny
import Derived.Test.YtlglekfmiacdnaaTxRows
namespace Go.Proofs.Ytlglekfmiacdnaa
open Go.RowKit
set_option linter.unusedSectionVars false
variable [∀ (m a b c d : Int), Decidable (In4 m a b c d)]
variable [∀ (xs ys : List Int), Decidable (LOk xs ys)]
variable [∀ (a b c d : Int), Decidable (Ok4 a b c d)]

/-- One payment more, of any ledger. -/
def anyStep (p : List Int × List Int × List Int) (t : T4) : List Int × List Int × List Int :=
  ((payAns p.1 p.2.1 t.1 t.2.1 t.2.2.1 t.2.2.2).1, (payAns p.1 p.2.1 t.1 t.2.1 t.2.2.1 t.2.2.2).2.1, p.2.2 ++ [(payAns p.1 p.2.1 t.1 t.2.1 t.2.2.1 t.2.2.2).2.2])
def anyRun (xs ys : List Int) (ts : List T4) : List Int × List Int × List Int := ts.foldl anyStep (xs, ys, [])
theorem anyRun_succ (xs ys : List Int) (ts : List T4) (k : Nat) (h : k < ts.length) : anyRun xs ys (ts.take (k + 1)) = anyStep (anyRun xs ys (ts.take k)) (ts.getD k (0, 0, 0, 0)) := by
  unfold anyRun
  rw [List.take_succ_eq_append_getElem h, List.getD_eq_getElem?_getD, List.getElem?_eq_getElem h, List.foldl_append]
  rfl
theorem anyRun_len (xs ys : List Int) (ts : List T4) (k : Nat) (h : k ≤ ts.length) : (anyRun xs ys (ts.take k)).1.length = xs.length ∧ (anyRun xs ys (ts.take k)).2.1.length = ys.length ∧ (anyRun xs ys (ts.take k)).2.2.length = k := by
  induction k with
  | zero => simp [anyRun]
  | succ k ih =>
    obtain ⟨h1, h2, h3⟩ := ih (by omega)
    rw [anyRun_succ xs ys ts k (by omega)]
    exact ⟨(payAns_len.1).trans h1, (payAns_len.2).trans h2, by simp [anyStep, h3]⟩
theorem any_good (ts : List T4) : ∀ p : List Int × List Int × List Int, LOk p.1 p.2.1 → ts.foldl anyStep p = ts.foldl payStep p := by
  induction ts with
  | nil => intro p _; rfl
  | cons t ts ih =>
    intro p hp
    have e : anyStep p t = payStep p t := by unfold anyStep payStep payAns; rw [if_pos hp]
    rw [List.foldl_cons, List.foldl_cons, e]
    exact ih _ (paidB_ok hp)
theorem any_bad (ts : List T4) : ∀ p : List Int × List Int × List Int, ¬ LOk p.1 p.2.1 → ts.foldl anyStep p = (p.1, p.2.1, p.2.2 ++ List.replicate ts.length 1) := by
  induction ts with
  | nil => intro p _; simp
  | cons t ts ih =>
    intro p hp
    have e : anyStep p t = (p.1, p.2.1, p.2.2 ++ [1]) := by unfold anyStep payAns; rw [if_neg hp]
    rw [List.foldl_cons, e, ih (p.1, p.2.1, p.2.2 ++ [1]) hp]
    simp [List.replicate_succ]
theorem anyRun_each (xs ys : List Int) (ts : List T4) : anyRun xs ys ts = eachAns xs ys ts := by
  unfold anyRun eachAns
  by_cases h : LOk xs ys
  · rw [if_pos h, any_good ts _ h]; rfl
  · rw [if_neg h, any_bad ts _ h]; simp
/-- What spec.PayAll leaves. -/
def SpecEnd (w : World) (r : List Int × List Int × List Int) (o : Ending) (w' : World) : Prop :=
  ∃ u v cs, o = .returned (.tuple #[lv u v, cs]) ∧ OI w' w.heap.size u r.1 ∧ OI w' w.heap.size v r.2.1 ∧ OI w' w.heap.size cs r.2.2 ∧ Below w.heap.size w w'

set_option maxHeartbeats 16000000 in
set_option maxRecDepth 100000 in
theorem specPayAll (u v p : Value) (xs ys : List Int) (ts : List T4) (w : World) (hu : RI w u xs ∧ RI w v ys) (hp : RT w p ts) (htl : ts.length ≤ 4194304) :
    Calls Try.prog 14 #[lv u v, p] w (SpecEnd w (eachAns xs ys ts)) := by
  obtain ⟨i0, hi, hz0, hz1, hz2⟩ := info_parts Try.info3
  have LC := hide fun w h => l3Copy_any u v xs ys w h
  have RU := hide hu
  have hx : xs.length ≤ 4194304 := hu.1.1
  have hy : ys.length ≤ 4194304 := hu.2.1
  obtain ⟨ua, uc, rfl⟩ : ∃ ua uc, u = .slice ua xs.length uc := by obtain ⟨_, ua, uc, h, _⟩ := hu.1; exact ⟨ua, uc, h⟩
  obtain ⟨va, vc, rfl⟩ : ∃ va vc, v = .slice va ys.length vc := by obtain ⟨_, va, vc, h, _⟩ := hu.2; exact ⟨va, vc, h⟩
  obtain ⟨_, pa, pc, rfl, hpc⟩ := hp
  have HPC := hide hpc
  obtain ⟨n, hn⟩ : ∃ n, ts.length = n := ⟨_, rfl⟩
  have Hn := hide hn
  have HE := hide (anyRun_each xs ys ts)
  obtain ⟨ans, hans⟩ : ∃ r, eachAns xs ys ts = r := ⟨_, rfl⟩
  rw [hans] at HE ⊢
  rw [hn] at htl ⊢
  clear hu hpc hn hans
  obtain ⟨w0, hw0⟩ : ∃ w0, (w.alloc (.cells #[.slice ua xs.length uc, .slice va ys.length vc] 26)).alloc (.cells #[.slice none 0 0, .slice none 0 0] 26) = w0 := ⟨_, rfl⟩
  have B0 : Below w.heap.size w w0 := hw0 ▸ ((Below.refl w.heap.size w).alloc (Nat.le_refl _) _).alloc (by simp) _
  have L0 : Loc w0 w.heap.size #[.slice ua xs.length uc, .slice va ys.length vc] := hw0 ▸ (loc_at w _ _ rfl).alloc _
  have R0 : Loc w0 (w.heap.size + 1) #[.slice none 0 0, .slice none 0 0] := hw0 ▸ loc_at _ _ _ (by simp)
  have lr0 := R0.lt
  have q0 := L0.cell 0 rfl
  have q1 := L0.cell 1 rfl
  go_enter Try.func14, Try.ntmps14
  go_wp2_with fail
  clear hw0 q0 q1
  refine (unhide LC _ ⟨(unhide RU).1.below B0 (Nat.le_refl _), (unhide RU).2.below B0 (Nat.le_refl _)⟩).mono ?_
  rintro _ w1 ⟨uo, vo, rfl, ol, b1⟩
  have s1 := b1.size
  obtain ⟨uoa, uoc, rfl⟩ := ol.has.form
  obtain ⟨voa, voc, rfl⟩ := ol.next.form
  obtain ⟨w2, hw2⟩ : ∃ w2, w1.alloc (.cells #[.slice uoa xs.length uoc, .slice voa ys.length voc] 26) = w2 := ⟨_, rfl⟩
  have b2 : Below w0.heap.size w0 w2 := hw2 ▸ b1.alloc b1.size _
  have z2 : w1.heap.size + 1 ≤ w2.heap.size := by rw [← hw2]; simp
  have B2 := B0.trans (b2.mono B0.size)
  have R2 := R0.below b2 R0.lt
  have G2 : Loc w2 w1.heap.size #[.slice uoa xs.length uoc, .slice voa ys.length voc] := hw2 ▸ loc_at w1 _ _ rfl
  have ol2 : OL w2 w0.heap.size w1.heap.size (.slice uoa xs.length uoc) (.slice voa ys.length voc) xs ys := hw2 ▸ ol.alloc _
  obtain ⟨w3, hw3⟩ : ∃ w3, w2.alloc (.cells #[] 3) = w3 := ⟨_, rfl⟩
  have b3 : Below w2.heap.size w2 w3 := hw3 ▸ (Below.refl _ _).alloc (Nat.le_refl _) _
  have C3 : OI w3 (w1.heap.size + 1) (.slice (some ⟨w2.heap.size, 0, none⟩) 0 0) [] := hw3 ▸ World.ownsRow_lit w2 #[] 0 z2 (by unfold maxLen; omega) rfl
  have B3 := B2.trans (b3.mono B2.size)
  have R3 := R2.below b3 R2.lt
  have G3 := G2.below b3 G2.lt
  have ol3 := ol2.below b3
  clear ol b1 b2 B0 L0 R0 B2 R2 G2 ol2 b3 LC RU
  go_wp2
  clear hw2 hw3
  go_loopw [7, 8] (fun cv i wr => ∃ (k : Nat) (u v : Value), k ≤ n ∧ i = .int .i64 k ∧ Loc wr w1.heap.size #[u, v] ∧ OI wr w.heap.size u (anyRun xs ys (ts.take k)).1 ∧ OI wr w.heap.size v (anyRun xs ys (ts.take k)).2.1 ∧ OI wr (w1.heap.size + 1) cv (anyRun xs ys (ts.take k)).2.2 ∧ (u.ownBlock ≠ some (w.heap.size + 1) ∧ v.ownBlock ≠ some (w.heap.size + 1)) ∧ Loc wr (w.heap.size + 1) #[.slice none 0 0, .slice none 0 0] ∧ Below w.heap.size w wr) (fun _ i _ => n - (intOf i).toNat)
  case atStart => exact ⟨0, _, _, Nat.zero_le _, rfl, G3, ol3.has.mono (by omega), ol3.next.mono (by omega), C3, ⟨fun e => by have := (World.ownsRow.lt ol3.has _ e).1; omega, fun e => by have := (World.ownsRow.lt ol3.next _ e).1; omega⟩, R3, B3⟩
  case round =>
    clear G3 ol3 C3 R3 B3
    obtain ⟨k, u, v, hk, rfl, G, ou, ov, oc, ⟨lu1, lv1⟩, R, B⟩ := hrel
    have ALEN := anyRun_len xs ys ts k (by rw [unhide Hn]; exact hk)
    have lgg := G.lt
    have lc := World.ownsRow.lt oc
    by_cases hlt : k < n
    · have SUC := hide (anyRun_succ xs ys ts k (by rw [unhide Hn]; exact hlt))
      obtain ⟨g, rfl, hcell⟩ : ∃ g, pa = some ⟨g, 0, none⟩ ∧ ∀ w', Below wr.heap.size wr w' → Cells4K w' g k (ts.getD k (0, 0, 0, 0)) := by
        have hkx : k < ts.length := by rw [unhide Hn]; exact hlt
        rcases unhide HPC with h | ⟨g, h1, h2⟩
        · subst h; simp at hkx
        · refine ⟨g, h1, fun w' hb => ?_⟩
          obtain ⟨c0, c1, c2, c3⟩ := h2 k hkx
          have hg : g < w.heap.size := cell_lt c0
          have bb := B.trans (hb.mono B.size)
          exact ⟨(bb.cell (p := ⟨g, k * 4, none⟩) hg).trans c0, (bb.cell (p := ⟨g, k * 4 + 1, none⟩) hg).trans c1, (bb.cell (p := ⟨g, k * 4 + 2, none⟩) hg).trans c2, (bb.cell (p := ⟨g, k * 4 + 3, none⟩) hg).trans c3⟩
      obtain ⟨t, ht⟩ : ∃ t, ts.getD k (0, 0, 0, 0) = t := ⟨_, rfl⟩
      rw [ht] at SUC hcell
      obtain ⟨a, b, c, d⟩ := t
      obtain ⟨r, hr⟩ : ∃ r, anyRun xs ys (ts.take k) = r := ⟨_, rfl⟩
      rw [hr] at SUC ou ov oc ALEN
      obtain ⟨s, hs⟩ : ∃ s, payAns r.1 r.2.1 a b c d = s := ⟨_, rfl⟩
      have SP := hide fun w h => specPay u v a b c d r.1 r.2.1 w h
      rw [hs] at SP
      unfold anyStep at SUC
      simp only [hs] at SUC
      have hk2 := ALEN.2.2
      obtain ⟨ua, uc, rfl⟩ := ou.form
      obtain ⟨va, vc, rfl⟩ := ov.form
      have RX := hide fun w' (hb : Below wr.heap.size wr w') => And.intro ((ou.below hb).ri (by omega)) ((ov.below hb).ri (by omega))
      clear ht hr hs ou ov
      have K : Hid (∀ w', Below wr.heap.size wr w' → (w'.cell? ⟨w1.heap.size, 0, none⟩ = some (.slice ua r.1.length uc) ∧ w'.cell? ⟨w1.heap.size, 1, none⟩ = some (.slice va r.2.1.length vc)) ∧ (w'.cell? ⟨g, k * 4, none⟩ = some (.int .i64 a) ∧ w'.cell? ⟨g, k * 4 + 1, none⟩ = some (.int .i64 b)) ∧ (w'.cell? ⟨g, k * 4 + 2, none⟩ = some (.int .i64 c) ∧ w'.cell? ⟨g, k * 4 + 3, none⟩ = some (.int .i64 d))) := hide fun w' hb' => by
        have l := G.below hb' G.lt
        obtain ⟨c0, c1, c2, c3⟩ := hcell w' hb'
        exact ⟨⟨l.cell 0 rfl, l.cell 1 rfl⟩, ⟨c0, c1⟩, ⟨c2, c3⟩⟩
      clear hcell ALEN
      go_wp2_with fail
      refine wp_region_noPanic ?_
      refine wp_region_held_drew (S := (fun w' => (w'.cell? ⟨w1.heap.size, 0, none⟩ = some (.slice ua r.1.length uc) ∧ w'.cell? ⟨w1.heap.size, 1, none⟩ = some (.slice va r.2.1.length vc)) ∧ (w'.cell? ⟨g, k * 4, none⟩ = some (.int .i64 a) ∧ w'.cell? ⟨g, k * 4 + 1, none⟩ = some (.int .i64 b)) ∧ (w'.cell? ⟨g, k * 4 + 2, none⟩ = some (.int .i64 c) ∧ w'.cell? ⟨g, k * 4 + 3, none⟩ = some (.int .i64 d)))) (by kernel_rfl) (unhide K _ (Below.drew (Below.refl _ _))) (fun hHeld => ?_)
      obtain ⟨wd, hd⟩ : ∃ wd, wr.drew = wd := ⟨_, rfl⟩
      have bd : Below wr.heap.size wr wd := hd ▸ Below.drew (Below.refl _ _)
      have szd := bd.size
      rw [hd] at hHeld ⊢
      clear hd
      refine take_at (i := 0) (d := 21) (v := ?_) rfl rfl (by kernel_rfl) (by kernel_rfl) (by kernel_rfl) (fun _ _ _ h => h) (Or.inl ⟨by rfl, ?_⟩) (by assumption) ?_
      rotate_left
      · intro w hSw
        try dsimp only at hSw
        go_simp
        try with_reducible rfl
      simp only [Act.put, List.setIfInBounds_toArray, List.set_cons_zero, List.set_cons_succ]
      refine take_at (i := 1) (d := 22) (v := ?_) rfl rfl (by kernel_rfl) (by kernel_rfl) (by kernel_rfl) (fun _ _ _ h => h) (Or.inl ⟨by rfl, ?_⟩) (by assumption) ?_
      rotate_left
      · intro w hSw
        try dsimp only at hSw
        go_simp
        try with_reducible rfl
      simp only [Act.put, List.setIfInBounds_toArray, List.set_cons_zero, List.set_cons_succ]
      refine take_at (i := 2) (d := 23) (v := ?_) rfl rfl (by kernel_rfl) (by kernel_rfl) (by kernel_rfl) (fun _ _ _ h => h) (Or.inl ⟨by rfl, ?_⟩) (by assumption) ?_
      rotate_left
      · intro w hSw
        try dsimp only at hSw
        go_simp
        try with_reducible rfl
      simp only [Act.put, List.setIfInBounds_toArray, List.set_cons_zero, List.set_cons_succ]
      refine take_at (i := 3) (d := 24) (v := ?_) rfl rfl (by kernel_rfl) (by kernel_rfl) (by kernel_rfl) (fun _ _ _ h => h) (Or.inl ⟨by rfl, ?_⟩) (by assumption) ?_
      rotate_left
      · intro w hSw
        try dsimp only at hSw
        go_simp
        try with_reducible rfl
      simp only [Act.put, List.setIfInBounds_toArray, List.set_cons_zero, List.set_cons_succ]
      refine take_at (i := 4) (d := 25) (v := ?_) rfl rfl (by kernel_rfl) (by kernel_rfl) (by kernel_rfl) (fun _ _ _ h => h) (Or.inl ⟨by rfl, ?_⟩) (by assumption) ?_
      rotate_left
      · intro w hSw
        try dsimp only at hSw
        go_simp
        try with_reducible rfl
      simp only [Act.put, List.setIfInBounds_toArray, List.set_cons_zero, List.set_cons_succ]
      refine wpAnyH_ready (rs := [5, 9]) (by kernel_rfl) (by simp) (AllReadyH.cons rfl (fun KK hKK => ?_) (AllReadyH.cons rfl (fun KK hKK => ?_) AllReadyH.nil))
      · go_simp
        refine (unhide SP _ (unhide RX _ bd)).mono ?_
        rintro _ wc1 ⟨up, vp, rfl, olp, bnew⟩
        obtain ⟨pa2, pc2, rfl⟩ := olp.has.form
        obtain ⟨qa2, qc2, rfl⟩ := olp.next.form
        have cbc2 := bnew
        have bc2 : Below wr.heap.size wr wc1 := bd.trans (bnew.mono bd.size)
        have zzwc1 := bnew.size
        clear hHeld bnew
        refine hKK.out _ _ (unhide K _ bc2) (fun hHeld => ?_)
        clear hKK KK
        refine take_at (i := 6) (d := 20) (v := ?_) rfl rfl (by kernel_rfl) (by kernel_rfl) (by kernel_rfl) (fun _ _ _ h => h) (Or.inl ⟨by rfl, ?_⟩) (by assumption) ?_
        rotate_left
        · intro w hSw
          try dsimp only at hSw
          go_simp
          try with_reducible rfl
        simp only [Act.put, List.setIfInBounds_toArray, List.set_cons_zero, List.set_cons_succ]
        refine take_at (i := 7) (d := 27) (v := ?_) rfl rfl (by kernel_rfl) (by kernel_rfl) (by kernel_rfl) (fun _ _ _ h => h) (Or.inl ⟨by rfl, ?_⟩) (by assumption) ?_
        rotate_left
        · intro w hSw
          try dsimp only at hSw
          go_simp
          try with_reducible rfl
        simp only [Act.put, List.setIfInBounds_toArray, List.set_cons_zero, List.set_cons_succ]
        refine take_at (i := 8) (d := 28) (v := ?_) rfl rfl (by kernel_rfl) (by kernel_rfl) (by kernel_rfl) (fun _ _ _ h => h) (Or.inl ⟨by rfl, ?_⟩) (by assumption) ?_
        rotate_left
        · intro w hSw
          try dsimp only at hSw
          go_simp
          try with_reducible rfl
        simp only [Act.put, List.setIfInBounds_toArray, List.set_cons_zero, List.set_cons_succ]
        refine ready_at (i := 9) rfl (by kernel_rfl) (fun KK hKK => ?_)
        go_simp
        obtain ⟨wl5, hwl5⟩ : ∃ x, wc1.alloc (.cells #[.slice none 0 0, .slice none 0 0] 26) = x := ⟨_, rfl⟩
        have cbl6 : Below wc1.heap.size wc1 wl5 := hwl5 ▸ (Below.refl _ _).alloc (Nat.le_refl _) _
        have bl6 : Below wr.heap.size wr wl5 := bc2.trans (cbl6.mono bc2.size)
        have zzwl5 : wc1.heap.size < wl5.heap.size := by rw [← hwl5]; simp
        have lg : Loc wl5 wc1.heap.size #[.slice none 0 0, .slice none 0 0] := hwl5 ▸ loc_at wc1 _ _ rfl
        have olp := olp.below cbl6
        rw [hwl5]
        clear hHeld hwl5
        refine hKK.out _ _ (unhide K _ bl6) (fun hHeld => ?_)
        clear hKK KK
        have q0 := lg.cell 0 rfl
        have q1 := lg.cell 1 rfl
        have FG := lg.frozen
        refine ready_at (i := 10) rfl (by kernel_rfl) (fun KK hKK => ?_)
        go_simp
        have bs : Below wr.heap.size wr ((wl5.setCell ⟨wc1.heap.size, 0, none⟩ (.slice pa2 s.1.length pc2)).setCell ⟨wc1.heap.size, 1, none⟩ (.slice qa2 s.2.1.length qc2)) := Below.set (Below.set bl6 _ _ (by omega)) _ _ (by omega)
        clear hHeld
        refine hKK.out _ _ (unhide K _ bs) (fun hHeld => ?_)
        clear hKK KK
        refine take_at (i := 11) (d := 10) (v := ?_) rfl rfl (by kernel_rfl) (by kernel_rfl) (by kernel_rfl) (fun _ _ _ h => h) (Or.inl ⟨by rfl, ?_⟩) (by assumption) ?_
        rotate_left
        · intro w hSw
          try dsimp only at hSw
          go_simp
          try with_reducible rfl
        simp only [Act.put, List.setIfInBounds_toArray, List.set_cons_zero, List.set_cons_succ]
        clear hHeld
        refine wpAnyH_done (by kernel_rfl) ?_ _
        refine NoPanic.normal ?_
        have kk : Kp wl5 ((wl5.setCell ⟨wc1.heap.size, 0, none⟩ (.slice pa2 s.1.length pc2)).setCell ⟨wc1.heap.size, 1, none⟩ (.slice qa2 s.2.1.length qc2)) (fun k => k = wc1.heap.size) := (set_kp wl5 _ 0 _).trans (set_kp _ _ 1 _)
        have N5 : Loc ((wl5.setCell ⟨wc1.heap.size, 0, none⟩ (.slice pa2 s.1.length pc2)).setCell ⟨wc1.heap.size, 1, none⟩ (.slice qa2 s.2.1.length qc2)) wc1.heap.size #[(.slice pa2 s.1.length pc2), (.slice qa2 s.2.1.length qc2)] := (lg.set 0 _ rfl).set 1 _ rfl
        have P5 := olp.kp kk (fun k h1 h2 e => by omega)
        obtain ⟨w5, hw5⟩ : ∃ x, ((wl5.setCell ⟨wc1.heap.size, 0, none⟩ (.slice pa2 s.1.length pc2)).setCell ⟨wc1.heap.size, 1, none⟩ (.slice qa2 s.2.1.length qc2)) = x := ⟨_, rfl⟩
        rw [hw5] at N5 P5 bs ⊢
        have G5 := G.below bs G.lt
        have R5 := R.below bs R.lt
        have B5 := B.trans (bs.mono B.size)
        have C5 := oc.below bs
        have sz5 := bs.size
        clear hw5 kk olp lg q0 q1 FG
        obtain ⟨w6, hw6⟩ : ∃ x, ((w5.setCell ⟨w1.heap.size, 0, none⟩ (.slice pa2 s.1.length pc2)).setCell ⟨w1.heap.size, 1, none⟩ (.slice qa2 s.2.1.length qc2)) = x := ⟨_, rfl⟩
        have k6 : Kp w5 w6 (fun k => k = w1.heap.size) := hw6 ▸ (set_kp w5 _ 0 _).trans (set_kp _ _ 1 _)
        have G6 : Loc w6 w1.heap.size #[(.slice pa2 s.1.length pc2), (.slice qa2 s.2.1.length qc2)] := hw6 ▸ (G5.set 0 _ rfl).set 1 _ rfl
        have R6 := R5.kp k6 (by omega)
        have B6 := Below.kp B5 k6 B5.size (fun k e => by omega)
        have P6 := P5.kp k6 (fun k h1 h2 e => by omega)
        have C6 := C5.kp k6 (fun k hk e => by have := (lc k hk).1; omega)
        have sz6 := k6.size
        have n0 := N5.cell 0 rfl
        have n1 := N5.cell 1 rfl
        have m0 := G5.cell 0 rfl
        have m1 := G5.cell 1 rfl
        have FG := G5.frozen
        have C6 : w6.ownsRow (w1.heap.size + 1) 3 1 u7 k (r.2.2.map (Value.int .i64)) := by have := C6; unfold OI at this; rwa [hk2] at this
        have C6 := hide C6
        have G6 := hide G6
        have R6 := hide R6
        have P6 := hide P6
        have B6 := hide B6
        clear k6 C5 P5 N5 R5 B5 bs
        go_wp2_with (first
          | (at_builtin; refine wpList_append_own _ rfl _ _ 24 rfl (w1.heap.size + 1) 3 i0 (.int .i64 0) 1 8 Try.underlying24 hi hz0 hz1 hz2 rfl (by decide) u7 _ _ rfl ((unhide C6).alloc _) ⟨w6.heap.size, 0, none⟩ 1 1 [.int .i64 s.2.2] rfl rfl (one_cell _ _ _) (one_plain _ _) (by unfold maxLen; omega) (by omega) (by simp; omega) ?_; intro v' w8 ho' hg' _
             have k8 : Kp w6 w8 (fun j => u7.ownBlock = some j) := (Below.kpOf ((Below.refl _ _).alloc (Nat.le_refl _) _) _).trans (kp_grown hg')
             have G8 := hide ((unhide G6).kp k8 (fun e => by have := (lc _ e).1; omega))
             have R8 := hide ((unhide R6).kp k8 (fun e => by have := (lc _ e).1; omega))
             have B8 := hide (Below.kp (unhide B6) k8 (unhide B6).size (fun j e => by have := (lc _ e).1; omega))
             have P8 := hide ((unhide P6).kp k8 (fun j h1 h2 e => by have := (lc _ e).2; omega))
             have ho1 := hide (show OI w8 (w1.heap.size + 1) v' (r.2.2 ++ [s.2.2]) by unfold OI; rw [List.length_append, hk2]; simpa using ho')
             clear k8 hg' ho' C6 G6 R6 B6 P6))
        clear hw6
        go_roundw
        case rel =>
          refine ⟨k + 1, .slice pa2 s.1.length pc2, .slice qa2 s.2.1.length qc2, by omega, by go_num, ?_⟩
          rw [unhide SUC]
          exact ⟨unhide G8, (unhide P8).has.mono (by omega), (unhide P8).next.mono (by omega), unhide ho1, ⟨fun e => by have := (World.ownsRow.lt (unhide P8).has _ e).1; omega, fun e => by have := (World.ownsRow.lt (unhide P8).next _ e).1; omega⟩, unhide R8, unhide B8⟩
        case measure => simp [intOf]; omega
      · go_simp
        obtain ⟨wl3, hwl3⟩ : ∃ x, wd.alloc (.cells #[.slice none 0 0, .slice none 0 0] 26) = x := ⟨_, rfl⟩
        have cbl4 : Below wd.heap.size wd wl3 := hwl3 ▸ (Below.refl _ _).alloc (Nat.le_refl _) _
        have bl4 : Below wr.heap.size wr wl3 := bd.trans (cbl4.mono bd.size)
        have zzwl3 : wd.heap.size < wl3.heap.size := by rw [← hwl3]; simp
        have lg : Loc wl3 wd.heap.size #[.slice none 0 0, .slice none 0 0] := hwl3 ▸ loc_at wd _ _ rfl
        rw [hwl3]
        clear hHeld hwl3
        refine hKK.out _ _ (unhide K _ bl4) (fun hHeld => ?_)
        clear hKK KK
        refine ready_at (i := 5) rfl (by kernel_rfl) (fun KK hKK => ?_)
        go_simp
        refine (unhide SP _ (unhide RX _ bl4)).mono ?_
        rintro _ wc7 ⟨up, vp, rfl, olp, bnew⟩
        obtain ⟨pa2, pc2, rfl⟩ := olp.has.form
        obtain ⟨qa2, qc2, rfl⟩ := olp.next.form
        have cbc8 := bnew
        have bc8 : Below wr.heap.size wr wc7 := bl4.trans (bnew.mono bl4.size)
        have zzwc7 := bnew.size
        have lg := lg.below bnew lg.lt
        clear hHeld bnew
        refine hKK.out _ _ (unhide K _ bc8) (fun hHeld => ?_)
        clear hKK KK
        refine take_at (i := 6) (d := 20) (v := ?_) rfl rfl (by kernel_rfl) (by kernel_rfl) (by kernel_rfl) (fun _ _ _ h => h) (Or.inl ⟨by rfl, ?_⟩) (by assumption) ?_
        rotate_left
        · intro w hSw
          try dsimp only at hSw
          go_simp
          try with_reducible rfl
        simp only [Act.put, List.setIfInBounds_toArray, List.set_cons_zero, List.set_cons_succ]
        refine take_at (i := 7) (d := 27) (v := ?_) rfl rfl (by kernel_rfl) (by kernel_rfl) (by kernel_rfl) (fun _ _ _ h => h) (Or.inl ⟨by rfl, ?_⟩) (by assumption) ?_
        rotate_left
        · intro w hSw
          try dsimp only at hSw
          go_simp
          try with_reducible rfl
        simp only [Act.put, List.setIfInBounds_toArray, List.set_cons_zero, List.set_cons_succ]
        refine take_at (i := 8) (d := 28) (v := ?_) rfl rfl (by kernel_rfl) (by kernel_rfl) (by kernel_rfl) (fun _ _ _ h => h) (Or.inl ⟨by rfl, ?_⟩) (by assumption) ?_
        rotate_left
        · intro w hSw
          try dsimp only at hSw
          go_simp
          try with_reducible rfl
        simp only [Act.put, List.setIfInBounds_toArray, List.set_cons_zero, List.set_cons_succ]
        have q0 := lg.cell 0 rfl
        have q1 := lg.cell 1 rfl
        have FG := lg.frozen
        refine ready_at (i := 10) rfl (by kernel_rfl) (fun KK hKK => ?_)
        go_simp
        have bs : Below wr.heap.size wr ((wc7.setCell ⟨wd.heap.size, 0, none⟩ (.slice pa2 s.1.length pc2)).setCell ⟨wd.heap.size, 1, none⟩ (.slice qa2 s.2.1.length qc2)) := Below.set (Below.set bc8 _ _ (by omega)) _ _ (by omega)
        clear hHeld
        refine hKK.out _ _ (unhide K _ bs) (fun hHeld => ?_)
        clear hKK KK
        refine take_at (i := 11) (d := 10) (v := ?_) rfl rfl (by kernel_rfl) (by kernel_rfl) (by kernel_rfl) (fun _ _ _ h => h) (Or.inl ⟨by rfl, ?_⟩) (by assumption) ?_
        rotate_left
        · intro w hSw
          try dsimp only at hSw
          go_simp
          try with_reducible rfl
        simp only [Act.put, List.setIfInBounds_toArray, List.set_cons_zero, List.set_cons_succ]
        clear hHeld
        refine wpAnyH_done (by kernel_rfl) ?_ _
        refine NoPanic.normal ?_
        have kk : Kp wc7 ((wc7.setCell ⟨wd.heap.size, 0, none⟩ (.slice pa2 s.1.length pc2)).setCell ⟨wd.heap.size, 1, none⟩ (.slice qa2 s.2.1.length qc2)) (fun k => k = wd.heap.size) := (set_kp wc7 _ 0 _).trans (set_kp _ _ 1 _)
        have N5 : Loc ((wc7.setCell ⟨wd.heap.size, 0, none⟩ (.slice pa2 s.1.length pc2)).setCell ⟨wd.heap.size, 1, none⟩ (.slice qa2 s.2.1.length qc2)) wd.heap.size #[(.slice pa2 s.1.length pc2), (.slice qa2 s.2.1.length qc2)] := (lg.set 0 _ rfl).set 1 _ rfl
        have P5 := olp.kp kk (fun k h1 h2 e => by omega)
        obtain ⟨w5, hw5⟩ : ∃ x, ((wc7.setCell ⟨wd.heap.size, 0, none⟩ (.slice pa2 s.1.length pc2)).setCell ⟨wd.heap.size, 1, none⟩ (.slice qa2 s.2.1.length qc2)) = x := ⟨_, rfl⟩
        rw [hw5] at N5 P5 bs ⊢
        have G5 := G.below bs G.lt
        have R5 := R.below bs R.lt
        have B5 := B.trans (bs.mono B.size)
        have C5 := oc.below bs
        have sz5 := bs.size
        clear hw5 kk olp lg q0 q1 FG
        obtain ⟨w6, hw6⟩ : ∃ x, ((w5.setCell ⟨w1.heap.size, 0, none⟩ (.slice pa2 s.1.length pc2)).setCell ⟨w1.heap.size, 1, none⟩ (.slice qa2 s.2.1.length qc2)) = x := ⟨_, rfl⟩
        have k6 : Kp w5 w6 (fun k => k = w1.heap.size) := hw6 ▸ (set_kp w5 _ 0 _).trans (set_kp _ _ 1 _)
        have G6 : Loc w6 w1.heap.size #[(.slice pa2 s.1.length pc2), (.slice qa2 s.2.1.length qc2)] := hw6 ▸ (G5.set 0 _ rfl).set 1 _ rfl
        have R6 := R5.kp k6 (by omega)
        have B6 := Below.kp B5 k6 B5.size (fun k e => by omega)
        have P6 := P5.kp k6 (fun k h1 h2 e => by omega)
        have C6 := C5.kp k6 (fun k hk e => by have := (lc k hk).1; omega)
        have sz6 := k6.size
        have n0 := N5.cell 0 rfl
        have n1 := N5.cell 1 rfl
        have m0 := G5.cell 0 rfl
        have m1 := G5.cell 1 rfl
        have FG := G5.frozen
        have C6 : w6.ownsRow (w1.heap.size + 1) 3 1 u7 k (r.2.2.map (Value.int .i64)) := by have := C6; unfold OI at this; rwa [hk2] at this
        have C6 := hide C6
        have G6 := hide G6
        have R6 := hide R6
        have P6 := hide P6
        have B6 := hide B6
        clear k6 C5 P5 N5 R5 B5 bs
        go_wp2_with (first
          | (at_builtin; refine wpList_append_own _ rfl _ _ 24 rfl (w1.heap.size + 1) 3 i0 (.int .i64 0) 1 8 Try.underlying24 hi hz0 hz1 hz2 rfl (by decide) u7 _ _ rfl ((unhide C6).alloc _) ⟨w6.heap.size, 0, none⟩ 1 1 [.int .i64 s.2.2] rfl rfl (one_cell _ _ _) (one_plain _ _) (by unfold maxLen; omega) (by omega) (by simp; omega) ?_; intro v' w8 ho' hg' _
             have k8 : Kp w6 w8 (fun j => u7.ownBlock = some j) := (Below.kpOf ((Below.refl _ _).alloc (Nat.le_refl _) _) _).trans (kp_grown hg')
             have G8 := hide ((unhide G6).kp k8 (fun e => by have := (lc _ e).1; omega))
             have R8 := hide ((unhide R6).kp k8 (fun e => by have := (lc _ e).1; omega))
             have B8 := hide (Below.kp (unhide B6) k8 (unhide B6).size (fun j e => by have := (lc _ e).1; omega))
             have P8 := hide ((unhide P6).kp k8 (fun j h1 h2 e => by have := (lc _ e).2; omega))
             have ho1 := hide (show OI w8 (w1.heap.size + 1) v' (r.2.2 ++ [s.2.2]) by unfold OI; rw [List.length_append, hk2]; simpa using ho')
             clear k8 hg' ho' C6 G6 R6 B6 P6))
        clear hw6
        go_roundw
        case rel =>
          refine ⟨k + 1, .slice pa2 s.1.length pc2, .slice qa2 s.2.1.length qc2, by omega, by go_num, ?_⟩
          rw [unhide SUC]
          exact ⟨unhide G8, (unhide P8).has.mono (by omega), (unhide P8).next.mono (by omega), unhide ho1, ⟨fun e => by have := (World.ownsRow.lt (unhide P8).has _ e).1; omega, fun e => by have := (World.ownsRow.lt (unhide P8).next _ e).1; omega⟩, unhide R8, unhide B8⟩
        case measure => simp [intOf]; omega
    · have hkn : k = n := by omega
      have e1 : ts.take k = ts := List.take_of_length_le (by rw [unhide Hn]; omega)
      rw [e1, unhide HE] at ou ov oc
      obtain ⟨la, lc2, rfl⟩ := ou.form
      obtain ⟨ma, mc, rfl⟩ := ov.form
      have q0 := G.cell 0 rfl
      have q1 := G.cell 1 rfl
      have y0 := R.cell 0 rfl
      have y1 := R.cell 1 rfl
      have FR := R.frozen
      have ou := hide ou
      have ov := hide ov
      have oc := hide oc
      clear e1 ALEN
      subst hkn
      go_wp2
      refine bodyPost_ret (v := .tuple #[lv (.slice la ans.1.length lc2) (.slice ma ans.2.1.length mc), u7]) (by simp [results, Try.results14, go_sem, y0, y1]) rfl ?_
      have K7 : Kp wr ((wr.setCell ⟨w.heap.size + 1, 0, none⟩ (.slice la ans.1.length lc2)).setCell ⟨w.heap.size + 1, 1, none⟩ (.slice ma ans.2.1.length mc)) (fun k => k = w.heap.size + 1) := (set_kp wr _ 0 _).trans (set_kp _ _ 1 _)
      refine ⟨_, _, _, rfl, ?_, ?_, ?_, Below.set (Below.set B _ _ (by omega)) _ _ (by omega)⟩
      · exact (unhide ou).kp K7 (fun j hj e => lu1 (by rw [hj, e]))
      · exact (unhide ov).kp K7 (fun j hj e => lv1 (by rw [hj, e]))
      · exact ((unhide oc).kp K7 (fun j hj e => by have := (lc j hj).1; omega)).mono (by omega)
end Go.Proofs.Ytlglekfmiacdnaa
