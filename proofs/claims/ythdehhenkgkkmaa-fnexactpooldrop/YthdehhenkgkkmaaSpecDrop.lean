/- spec.PoolDrop. -/
import Derived.Test.YthdehhenkgkkmaaSpecTake
namespace Go.Proofs.Ythdehhenkgkkmaa
open Go.RowKit

set_option maxHeartbeats 8000000 in
set_option maxRecDepth 100000 in
theorem specPoolDrop (p0 u0 v0 : Value) (ts : List T4) (xs ys : List Int) (w : World) (h : RT w p0 ts) (hl : ts.length ≤ 4000000) (hu : RI w u0 xs ∧ RI w v0 ys) :
    Calls Try.prog 23 #[p0, lv u0 v0] w fun e w' => ∃ p, e = .returned p ∧ OT w' w.heap.size p (dropAns xs ys ts) ∧ Below w.heap.size w w' := by
  have SPY := hide fun a b c d w h => specPay u0 v0 a b c d xs ys w h
  have H := hide h
  have RU := hide hu
  have hxl := hu.1.1
  have hyl := hu.2.1
  obtain ⟨ao, ca, rfl⟩ := h.form
  obtain ⟨ua, uc, rfl⟩ := hu.1.form
  obtain ⟨va, vc, rfl⟩ := hu.2.form
  obtain ⟨n, hn⟩ : ∃ n, ts.length = n := ⟨_, rfl⟩
  have Hn := hide hn
  rw [hn] at hl H ⊢
  clear h hn hu
  obtain ⟨w0, hw0⟩ : ∃ w0, (w.alloc (.cells #[.slice ua xs.length uc, .slice va ys.length vc] 42)).alloc (.cells #[] 33) = w0 := ⟨_, rfl⟩
  have B0 : Below w.heap.size w w0 := hw0 ▸ ((Below.refl _ _).alloc (Nat.le_refl _) _).alloc (by simp) _
  have L0 : Loc w0 w.heap.size #[.slice ua xs.length uc, .slice va ys.length vc] := hw0 ▸ (loc_at w _ _ rfl).alloc _
  have z0 : w0.heap.size = w.heap.size + 1 + 1 := by rw [← hw0]; simp
  have E0 : OT w0 (w.heap.size + 1) (.slice (some ⟨w.heap.size + 1, 0, none⟩) 0 0) [] := by
    have := World.ownsRow_lit (base := w.heap.size + 1) (e := 33) (size := 4) (w.alloc (.cells #[.slice ua xs.length uc, .slice va ys.length vc] 42)) #[] 0 (by simp) (by unfold maxLen; omega) rfl
    rw [hw0] at this
    have e : (w.alloc (.cells #[.slice ua xs.length uc, .slice va ys.length vc] 42)).heap.size = w.heap.size + 1 := by simp
    rw [e] at this
    exact this
  go_enter Try.func23, Try.ntmps23
  go_wp2
  clear hw0
  go_loopw [5, 6] (fun ov i wr => ∃ (k : Nat), k ≤ n ∧ i = .int .i64 k ∧ OT wr (w.heap.size + 1) ov (dropAns xs ys (ts.take k)) ∧ Loc wr w.heap.size #[.slice ua xs.length uc, .slice va ys.length vc] ∧ w.heap.size + 1 ≤ wr.heap.size ∧ Below w.heap.size w wr) (fun _ i _ => n - (intOf i).toNat)
  case atStart => exact ⟨0, Nat.zero_le _, rfl, E0, L0, by omega, B0⟩
  case round =>
    clear E0 L0 B0
    obtain ⟨k, hk, rfl, op, G, lnb, B⟩ := hrel
    have tp := World.ownsRow.lt op
    obtain ⟨pa, pc, rfl⟩ := op.form
    have LEN := dropAns_len xs ys (ts.take k)
    rw [List.length_take] at LEN
    by_cases hlt : k < n
    · have HR := hide ((unhide H).below B)
      have SUC := hide (dropAns_succ xs ys ts k (by rw [unhide Hn]; exact hlt))
      obtain ⟨r, hr⟩ : ∃ r, dropAns xs ys (ts.take k) = r := ⟨_, rfl⟩
      rw [hr] at SUC op LEN
      simp only [hr] at tp ⊢
      clear hr
      have hr2 : r.length ≤ k := by omega
      obtain ⟨g, rfl, hx⟩ := (unhide HR).at k (by rw [unhide Hn]; exact hlt)
      obtain ⟨x, hx0⟩ : ∃ x, ts.getD k z4 = x := ⟨_, rfl⟩
      rw [hx0] at SUC hx
      clear hx0
      have SP := hide fun w h => unhide SPY x.1 x.2.1 x.2.2.1 x.2.2.2 w h
      have SX : Hid (Stays xs ys x ↔ ¬ (payAns xs ys x.1 x.2.1 x.2.2.1 x.2.2.2).2.2 = 2) := hide Iff.rfl
      have HX := hide fun w' (hb : Below wr.heap.size wr w') => hx.below hb (Nat.le_refl _)
      obtain ⟨xa, xb, xc, xd⟩ := x
      dsimp only at SP SX
      obtain ⟨s, hs⟩ : ∃ s, payAns xs ys xa xb xc xd = s := ⟨_, rfl⟩
      rw [hs] at SP SX
      clear hs
      have op := hide op
      have RX : Hid (∀ w', Below wr.heap.size wr w' → RI w' (.slice ua xs.length uc) xs ∧ RI w' (.slice va ys.length vc) ys) := hide fun w' hb => ⟨(unhide RU).1.below (B.trans (hb.mono B.size)) (Nat.le_refl _), (unhide RU).2.below (B.trans (hb.mono B.size)) (Nat.le_refl _)⟩
      have K : Hid (∀ w', Below wr.heap.size wr w' → (w'.cell? ⟨w.heap.size, 0, none⟩ = some (.slice ua xs.length uc) ∧ w'.cell? ⟨w.heap.size, 1, none⟩ = some (.slice va ys.length vc)) ∧ (w'.cell? ⟨g, k * 4, none⟩ = some (.int .i64 xa) ∧ w'.cell? ⟨g, k * 4 + 1, none⟩ = some (.int .i64 xb) ∧ w'.cell? ⟨g, k * 4 + 2, none⟩ = some (.int .i64 xc) ∧ w'.cell? ⟨g, k * 4 + 3, none⟩ = some (.int .i64 xd))) := hide fun w' hb => by
        have l := G.below hb G.lt
        exact ⟨⟨l.cell 0 rfl, l.cell 1 rfl⟩, unhide HX w' hb⟩
      clear HR hx LEN SPY
      go_wp2_with fail
      refine wp_region_noPanic ?_
      refine wp_region_held_drew (S := (fun w' => (w'.cell? ⟨w.heap.size, 0, none⟩ = some (.slice ua xs.length uc) ∧ w'.cell? ⟨w.heap.size, 1, none⟩ = some (.slice va ys.length vc)) ∧ (w'.cell? ⟨g, k * 4, none⟩ = some (.int .i64 xa) ∧ w'.cell? ⟨g, k * 4 + 1, none⟩ = some (.int .i64 xb) ∧ w'.cell? ⟨g, k * 4 + 2, none⟩ = some (.int .i64 xc) ∧ w'.cell? ⟨g, k * 4 + 3, none⟩ = some (.int .i64 xd)))) (by kernel_rfl) (unhide K _ (Below.drew (Below.refl _ _))) (fun hHeld => ?_)
      obtain ⟨wd, hd⟩ : ∃ wd, wr.drew = wd := ⟨_, rfl⟩
      have bd : Below wr.heap.size wr wd := hd ▸ Below.drew (Below.refl _ _)
      have szd := bd.size
      rw [hd] at hHeld ⊢
      clear hd
      refine take_at (i := 0) (d := 17) (v := ?_) rfl rfl (by kernel_rfl) (by kernel_rfl) (by kernel_rfl) (fun _ _ _ h => h) (Or.inl ⟨by rfl, ?_⟩) (by assumption) ?_
      rotate_left
      · intro w hSw
        try dsimp only at hSw
        go_simp
        try with_reducible rfl
      simp only [Act.put, List.setIfInBounds_toArray, List.set_cons_zero, List.set_cons_succ]
      refine take_at (i := 1) (d := 18) (v := ?_) rfl rfl (by kernel_rfl) (by kernel_rfl) (by kernel_rfl) (fun _ _ _ h => h) (Or.inl ⟨by rfl, ?_⟩) (by assumption) ?_
      rotate_left
      · intro w hSw
        try dsimp only at hSw
        go_simp
        try with_reducible rfl
      simp only [Act.put, List.setIfInBounds_toArray, List.set_cons_zero, List.set_cons_succ]
      refine take_at (i := 2) (d := 19) (v := ?_) rfl rfl (by kernel_rfl) (by kernel_rfl) (by kernel_rfl) (fun _ _ _ h => h) (Or.inl ⟨by rfl, ?_⟩) (by assumption) ?_
      rotate_left
      · intro w hSw
        try dsimp only at hSw
        go_simp
        try with_reducible rfl
      simp only [Act.put, List.setIfInBounds_toArray, List.set_cons_zero, List.set_cons_succ]
      refine take_at (i := 3) (d := 20) (v := ?_) rfl rfl (by kernel_rfl) (by kernel_rfl) (by kernel_rfl) (fun _ _ _ h => h) (Or.inl ⟨by rfl, ?_⟩) (by assumption) ?_
      rotate_left
      · intro w hSw
        try dsimp only at hSw
        go_simp
        try with_reducible rfl
      simp only [Act.put, List.setIfInBounds_toArray, List.set_cons_zero, List.set_cons_succ]
      refine take_at (i := 4) (d := 21) (v := ?_) rfl rfl (by kernel_rfl) (by kernel_rfl) (by kernel_rfl) (fun _ _ _ h => h) (Or.inl ⟨by rfl, ?_⟩) (by assumption) ?_
      rotate_left
      · intro w hSw
        try dsimp only at hSw
        go_simp
        try with_reducible rfl
      simp only [Act.put, List.setIfInBounds_toArray, List.set_cons_zero, List.set_cons_succ]
      refine wpAnyH_ready (rs := [5, 9]) (by kernel_rfl) (by simp) (AllReadyH.cons rfl (fun KK hKK => ?_) (AllReadyH.cons rfl (fun KK hKK => ?_) AllReadyH.nil))
      · go_simp
        refine (unhide SP _ (unhide RX _ bd)).mono ?_
        rintro _ wc1 ⟨up, vp, rfl, olp, bnew⟩
        obtain ⟨pa2, pc2, rfl⟩ := olp.has.form
        obtain ⟨qa2, qc2, rfl⟩ := olp.next.form
        have cbc2 := bnew
        have bc2 : Below wr.heap.size wr wc1 := bd.trans (bnew.mono bd.size)
        have zzwc1 := bnew.size
        clear hHeld bnew
        refine hKK.out _ _ (unhide K _ bc2) (fun hHeld => ?_)
        clear hKK KK
        refine take_at (i := 6) (d := 16) (v := ?_) rfl rfl (by kernel_rfl) (by kernel_rfl) (by kernel_rfl) (fun _ _ _ h => h) (Or.inl ⟨by rfl, ?_⟩) (by assumption) ?_
        rotate_left
        · intro w hSw
          try dsimp only at hSw
          go_simp
          try with_reducible rfl
        simp only [Act.put, List.setIfInBounds_toArray, List.set_cons_zero, List.set_cons_succ]
        refine take_at (i := 7) (d := 23) (v := ?_) rfl rfl (by kernel_rfl) (by kernel_rfl) (by kernel_rfl) (fun _ _ _ h => h) (Or.inl ⟨by rfl, ?_⟩) (by assumption) ?_
        rotate_left
        · intro w hSw
          try dsimp only at hSw
          go_simp
          try with_reducible rfl
        simp only [Act.put, List.setIfInBounds_toArray, List.set_cons_zero, List.set_cons_succ]
        refine take_at (i := 8) (d := 24) (v := ?_) rfl rfl (by kernel_rfl) (by kernel_rfl) (by kernel_rfl) (fun _ _ _ h => h) (Or.inl ⟨by rfl, ?_⟩) (by assumption) ?_
        rotate_left
        · intro w hSw
          try dsimp only at hSw
          go_simp
          try with_reducible rfl
        simp only [Act.put, List.setIfInBounds_toArray, List.set_cons_zero, List.set_cons_succ]
        refine ready_at (i := 9) rfl (by kernel_rfl) (fun KK hKK => ?_)
        go_simp
        obtain ⟨wl5, hwl5⟩ : ∃ x, wc1.alloc (.cells #[.slice none 0 0, .slice none 0 0] 42) = x := ⟨_, rfl⟩
        have cbl6 : Below wc1.heap.size wc1 wl5 := hwl5 ▸ (Below.refl _ _).alloc (Nat.le_refl _) _
        have bl6 : Below wr.heap.size wr wl5 := bc2.trans (cbl6.mono bc2.size)
        have zzwl5 : wc1.heap.size < wl5.heap.size := by rw [← hwl5]; simp
        have lg : Loc wl5 wc1.heap.size #[.slice none 0 0, .slice none 0 0] := hwl5 ▸ loc_at wc1 _ _ rfl
        have olp := olp.below cbl6
        rw [hwl5]
        clear hHeld hwl5
        refine hKK.out _ _ (unhide K _ bl6) (fun hHeld => ?_)
        clear hKK KK
        have q0 := lg.cell 0 rfl
        have q1 := lg.cell 1 rfl
        have FG := lg.frozen
        refine ready_at (i := 10) rfl (by kernel_rfl) (fun KK hKK => ?_)
        go_simp
        have bs : Below wr.heap.size wr ((wl5.setCell ⟨wc1.heap.size, 0, none⟩ (.slice pa2 s.1.length pc2)).setCell ⟨wc1.heap.size, 1, none⟩ (.slice qa2 s.2.1.length qc2)) := Below.set (Below.set bl6 _ _ (by omega)) _ _ (by omega)
        clear hHeld
        refine hKK.out _ _ (unhide K _ bs) (fun hHeld => ?_)
        clear hKK KK
        refine take_at (i := 11) (d := 8) (v := ?_) rfl rfl (by kernel_rfl) (by kernel_rfl) (by kernel_rfl) (fun _ _ _ h => h) (Or.inl ⟨by rfl, ?_⟩) (by assumption) ?_
        rotate_left
        · intro w hSw
          try dsimp only at hSw
          go_simp
          try with_reducible rfl
        simp only [Act.put, List.setIfInBounds_toArray, List.set_cons_zero, List.set_cons_succ]
        clear hHeld
        refine wpAnyH_done (by kernel_rfl) ?_ _
        refine NoPanic.normal ?_
        have kk : Kp wl5 ((wl5.setCell ⟨wc1.heap.size, 0, none⟩ (.slice pa2 s.1.length pc2)).setCell ⟨wc1.heap.size, 1, none⟩ (.slice qa2 s.2.1.length qc2)) (fun k => k = wc1.heap.size) := (set_kp wl5 _ 0 _).trans (set_kp _ _ 1 _)
        have B5 := B.trans (bs.mono B.size)
        have O5 := (unhide op).below bs
        have G5 := G.below bs G.lt
        obtain ⟨w5, hw5⟩ : ∃ x, ((wl5.setCell ⟨wc1.heap.size, 0, none⟩ (.slice pa2 s.1.length pc2)).setCell ⟨wc1.heap.size, 1, none⟩ (.slice qa2 s.2.1.length qc2)) = x := ⟨_, rfl⟩
        rw [hw5] at B5 O5 G5 bs ⊢
        have sz5 := bs.size
        clear hw5 kk lg q0 q1 FG olp
        by_cases hT : ¬ s.2.2 = 2
        · have SUC := hide (show dropAns xs ys (ts.take (k + 1)) = r ++ [(xa, xb, xc, xd)] by have := unhide SUC; rwa [if_pos ((unhide SX).2 hT)] at this)
          obtain ⟨w6, hw6⟩ : ∃ y, w5.alloc (.cells #[.int .i64 xa, .int .i64 xb, .int .i64 xc, .int .i64 xd] 33) = y := ⟨_, rfl⟩
          have b6 : Below w5.heap.size w5 w6 := hw6 ▸ (Below.refl _ _).alloc (Nat.le_refl _) _
          have z6 : w6.heap.size = w5.heap.size + 1 := by rw [← hw6]; simp
          have P6 : Hid (PT w6 (.slice (some ⟨w5.heap.size, 0, none⟩) 1 1) [(xa, xb, xc, xd)]) := hide (hw6 ▸ OT.pt (base := 0) (World.ownsRow_lit w5 #[.int .i64 xa, .int .i64 xb, .int .i64 xc, .int .i64 xd] 1 (Nat.zero_le _) (by unfold maxLen; omega) rfl))
          have O6 := hide (O5.below b6)
          have B6 := hide (B5.trans (b6.mono B5.size))
          have G6 := hide (G5.below b6 G5.lt)
          obtain ⟨c0, c1, c2, c3⟩ := (unhide HX w5 bs)
          have h2 : (s.2.2 != 2) = true := by simpa using hT
          clear O5 B5 bs G5 hT
          go_wp2_with (first | (at_builtin; refine append_piece rfl _ _ rfl (w.heap.size + 1) (.slice pa r.length pc) (.slice (some ⟨w5.heap.size, 0, none⟩) 1 1) r [(xa, xb, xc, xd)] rfl rfl (unhide O6) (unhide P6) (by simp; omega) (by omega) ?_; intro v7 w7 ho7 hg7 hb7; have k7 := kp_grown hg7; have O7 := hide ho7; have B7 := hide (Below.kp (unhide B6) k7 (unhide B6).size (fun j e => by have := tp j e; omega)); have G7 := hide ((unhide G6).kp k7 (fun e => by have := tp _ e; omega)); have z7 := k7.size; clear ho7 hg7 hb7 k7 B6 O6 P6))
          clear hw6
          go_roundw
          case rel =>
            refine ⟨k + 1, by omega, by go_num, ?_⟩
            rw [unhide SUC]
            exact ⟨unhide O7, unhide G7, by omega, unhide B7⟩
          case measure => simp [intOf]; omega
        · have SUC := hide (show dropAns xs ys (ts.take (k + 1)) = r by have := unhide SUC; rwa [if_neg (fun h => hT ((unhide SX).1 h)), List.append_nil] at this)
          have h2 : s.2.2 = 2 := Decidable.not_not.1 hT
          have h2' : (s.2.2 != 2) = false := by simp [h2]
          have O5 := hide O5
          clear hT
          go_wp2
          go_roundw
          case rel =>
            refine ⟨k + 1, by omega, by go_num, ?_⟩
            rw [unhide SUC]
            exact ⟨unhide O5, G5, by omega, B5⟩
          case measure => simp [intOf]; omega
      · go_simp
        obtain ⟨wl3, hwl3⟩ : ∃ x, wd.alloc (.cells #[.slice none 0 0, .slice none 0 0] 42) = x := ⟨_, rfl⟩
        have cbl4 : Below wd.heap.size wd wl3 := hwl3 ▸ (Below.refl _ _).alloc (Nat.le_refl _) _
        have bl4 : Below wr.heap.size wr wl3 := bd.trans (cbl4.mono bd.size)
        have zzwl3 : wd.heap.size < wl3.heap.size := by rw [← hwl3]; simp
        have lg : Loc wl3 wd.heap.size #[.slice none 0 0, .slice none 0 0] := hwl3 ▸ loc_at wd _ _ rfl
        rw [hwl3]
        clear hHeld hwl3
        refine hKK.out _ _ (unhide K _ bl4) (fun hHeld => ?_)
        clear hKK KK
        refine ready_at (i := 5) rfl (by kernel_rfl) (fun KK hKK => ?_)
        go_simp
        refine (unhide SP _ (unhide RX _ bl4)).mono ?_
        rintro _ wc7 ⟨up, vp, rfl, olp, bnew⟩
        obtain ⟨pa2, pc2, rfl⟩ := olp.has.form
        obtain ⟨qa2, qc2, rfl⟩ := olp.next.form
        have cbc8 := bnew
        have bc8 : Below wr.heap.size wr wc7 := bl4.trans (bnew.mono bl4.size)
        have zzwc7 := bnew.size
        have lg := lg.below bnew lg.lt
        clear hHeld bnew
        refine hKK.out _ _ (unhide K _ bc8) (fun hHeld => ?_)
        clear hKK KK
        refine take_at (i := 6) (d := 16) (v := ?_) rfl rfl (by kernel_rfl) (by kernel_rfl) (by kernel_rfl) (fun _ _ _ h => h) (Or.inl ⟨by rfl, ?_⟩) (by assumption) ?_
        rotate_left
        · intro w hSw
          try dsimp only at hSw
          go_simp
          try with_reducible rfl
        simp only [Act.put, List.setIfInBounds_toArray, List.set_cons_zero, List.set_cons_succ]
        refine take_at (i := 7) (d := 23) (v := ?_) rfl rfl (by kernel_rfl) (by kernel_rfl) (by kernel_rfl) (fun _ _ _ h => h) (Or.inl ⟨by rfl, ?_⟩) (by assumption) ?_
        rotate_left
        · intro w hSw
          try dsimp only at hSw
          go_simp
          try with_reducible rfl
        simp only [Act.put, List.setIfInBounds_toArray, List.set_cons_zero, List.set_cons_succ]
        refine take_at (i := 8) (d := 24) (v := ?_) rfl rfl (by kernel_rfl) (by kernel_rfl) (by kernel_rfl) (fun _ _ _ h => h) (Or.inl ⟨by rfl, ?_⟩) (by assumption) ?_
        rotate_left
        · intro w hSw
          try dsimp only at hSw
          go_simp
          try with_reducible rfl
        simp only [Act.put, List.setIfInBounds_toArray, List.set_cons_zero, List.set_cons_succ]
        have q0 := lg.cell 0 rfl
        have q1 := lg.cell 1 rfl
        have FG := lg.frozen
        refine ready_at (i := 10) rfl (by kernel_rfl) (fun KK hKK => ?_)
        go_simp
        have bs : Below wr.heap.size wr ((wc7.setCell ⟨wd.heap.size, 0, none⟩ (.slice pa2 s.1.length pc2)).setCell ⟨wd.heap.size, 1, none⟩ (.slice qa2 s.2.1.length qc2)) := Below.set (Below.set bc8 _ _ (by omega)) _ _ (by omega)
        clear hHeld
        refine hKK.out _ _ (unhide K _ bs) (fun hHeld => ?_)
        clear hKK KK
        refine take_at (i := 11) (d := 8) (v := ?_) rfl rfl (by kernel_rfl) (by kernel_rfl) (by kernel_rfl) (fun _ _ _ h => h) (Or.inl ⟨by rfl, ?_⟩) (by assumption) ?_
        rotate_left
        · intro w hSw
          try dsimp only at hSw
          go_simp
          try with_reducible rfl
        simp only [Act.put, List.setIfInBounds_toArray, List.set_cons_zero, List.set_cons_succ]
        clear hHeld
        refine wpAnyH_done (by kernel_rfl) ?_ _
        refine NoPanic.normal ?_
        have kk : Kp wc7 ((wc7.setCell ⟨wd.heap.size, 0, none⟩ (.slice pa2 s.1.length pc2)).setCell ⟨wd.heap.size, 1, none⟩ (.slice qa2 s.2.1.length qc2)) (fun k => k = wd.heap.size) := (set_kp wc7 _ 0 _).trans (set_kp _ _ 1 _)
        have B5 := B.trans (bs.mono B.size)
        have O5 := (unhide op).below bs
        have G5 := G.below bs G.lt
        obtain ⟨w5, hw5⟩ : ∃ x, ((wc7.setCell ⟨wd.heap.size, 0, none⟩ (.slice pa2 s.1.length pc2)).setCell ⟨wd.heap.size, 1, none⟩ (.slice qa2 s.2.1.length qc2)) = x := ⟨_, rfl⟩
        rw [hw5] at B5 O5 G5 bs ⊢
        have sz5 := bs.size
        clear hw5 kk lg q0 q1 FG olp
        by_cases hT : ¬ s.2.2 = 2
        · have SUC := hide (show dropAns xs ys (ts.take (k + 1)) = r ++ [(xa, xb, xc, xd)] by have := unhide SUC; rwa [if_pos ((unhide SX).2 hT)] at this)
          obtain ⟨w6, hw6⟩ : ∃ y, w5.alloc (.cells #[.int .i64 xa, .int .i64 xb, .int .i64 xc, .int .i64 xd] 33) = y := ⟨_, rfl⟩
          have b6 : Below w5.heap.size w5 w6 := hw6 ▸ (Below.refl _ _).alloc (Nat.le_refl _) _
          have z6 : w6.heap.size = w5.heap.size + 1 := by rw [← hw6]; simp
          have P6 : Hid (PT w6 (.slice (some ⟨w5.heap.size, 0, none⟩) 1 1) [(xa, xb, xc, xd)]) := hide (hw6 ▸ OT.pt (base := 0) (World.ownsRow_lit w5 #[.int .i64 xa, .int .i64 xb, .int .i64 xc, .int .i64 xd] 1 (Nat.zero_le _) (by unfold maxLen; omega) rfl))
          have O6 := hide (O5.below b6)
          have B6 := hide (B5.trans (b6.mono B5.size))
          have G6 := hide (G5.below b6 G5.lt)
          obtain ⟨c0, c1, c2, c3⟩ := (unhide HX w5 bs)
          have h2 : (s.2.2 != 2) = true := by simpa using hT
          clear O5 B5 bs G5 hT
          go_wp2_with (first | (at_builtin; refine append_piece rfl _ _ rfl (w.heap.size + 1) (.slice pa r.length pc) (.slice (some ⟨w5.heap.size, 0, none⟩) 1 1) r [(xa, xb, xc, xd)] rfl rfl (unhide O6) (unhide P6) (by simp; omega) (by omega) ?_; intro v7 w7 ho7 hg7 hb7; have k7 := kp_grown hg7; have O7 := hide ho7; have B7 := hide (Below.kp (unhide B6) k7 (unhide B6).size (fun j e => by have := tp j e; omega)); have G7 := hide ((unhide G6).kp k7 (fun e => by have := tp _ e; omega)); have z7 := k7.size; clear ho7 hg7 hb7 k7 B6 O6 P6))
          clear hw6
          go_roundw
          case rel =>
            refine ⟨k + 1, by omega, by go_num, ?_⟩
            rw [unhide SUC]
            exact ⟨unhide O7, unhide G7, by omega, unhide B7⟩
          case measure => simp [intOf]; omega
        · have SUC := hide (show dropAns xs ys (ts.take (k + 1)) = r by have := unhide SUC; rwa [if_neg (fun h => hT ((unhide SX).1 h)), List.append_nil] at this)
          have h2 : s.2.2 = 2 := Decidable.not_not.1 hT
          have h2' : (s.2.2 != 2) = false := by simp [h2]
          have O5 := hide O5
          clear hT
          go_wp2
          go_roundw
          case rel =>
            refine ⟨k + 1, by omega, by go_num, ?_⟩
            rw [unhide SUC]
            exact ⟨unhide O5, G5, by omega, B5⟩
          case measure => simp [intOf]; omega
    · have e1 : ts.take k = ts := List.take_of_length_le (by rw [unhide Hn]; omega)
      have e2 : Hid (dropAns xs ys ts = dropAns xs ys (ts.take k)) := hide (by rw [e1])
      have op := hide op
      clear LEN e1
      go_wp2
      go_ret
      exact ⟨_, rfl, by rw [unhide e2]; exact (unhide op).mono (by omega), B⟩
end Go.Proofs.Ythdehhenkgkkmaa
