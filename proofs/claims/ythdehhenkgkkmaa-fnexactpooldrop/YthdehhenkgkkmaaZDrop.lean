/- FnExactPoolDrop: for every list of payments and every ledger the law answers true and leaves its arguments as they were; no condition. -/
import Derived.Test.YthdehhenkgkkmaaBunI
import Derived.Test.YthdehhenkgkkmaaBunB
import Derived.Test.YthdehhenkgkkmaaBunH
import Derived.Test.YthdehhenkgkkmaaBunA
import Derived.Test.YthdehhenkgkkmaaBunD
/- spec.PoolDrop. -/
namespace Go.Proofs.Ythdehhenkgkkmaa
open Go.RowKit
set_option linter.unusedSectionVars false
variable [∀ (a b c d : Int), Decidable (Ok4 a b c d)]
variable [∀ (m a b c d : Int), Decidable (In4 m a b c d)]
variable [∀ (xs ys : List Int), Decidable (LOk xs ys)]
variable [∀ (x y : T4), Decidable (Bef x y)]
variable [∀ (ts : List T4), Decidable (Asc ts)]
variable [∀ (ts : List T4), Decidable (AllOk ts)]
variable [∀ (ts : List T4), Decidable (POk ts)]
variable [∀ (r : List Int × List Int × Int), Decidable (Took r)]
variable [∀ (xs ys : List Int) (x : T4), Decidable (Stays xs ys x)]

set_option maxHeartbeats 8000000 in
set_option maxRecDepth 100000 in
theorem specPoolDrop (p0 u0 v0 : Value) (ts : List T4) (xs ys : List Int) (w : World) (h : RT w p0 ts) (hl : ts.length ≤ 4000000) (hu : RI w u0 xs ∧ RI w v0 ys) :
    Calls Try.prog 23 #[p0, lv u0 v0] w fun e w' => ∃ p, e = .returned p ∧ OT w' w.heap.size p (dropAns xs ys ts) ∧ Below w.heap.size w w' := by
  have SPY := hide fun a b c d w h => specPay u0 v0 a b c d xs ys w h
  have H := hide h
  have RU := hide hu
  have hxl := hu.1.1
  have hyl := hu.2.1
  obtain ⟨ao, ca, rfl⟩ := h.form
  obtain ⟨ua, uc, rfl⟩ := hu.1.form
  obtain ⟨va, vc, rfl⟩ := hu.2.form
  obtain ⟨n, hn⟩ : ∃ n, ts.length = n := ⟨_, rfl⟩
  have Hn := hide hn
  rw [hn] at hl H ⊢
  clear h hn hu
  obtain ⟨w0, hw0⟩ : ∃ w0, (w.alloc (.cells #[.slice ua xs.length uc, .slice va ys.length vc] 42)).alloc (.cells #[] 33) = w0 := ⟨_, rfl⟩
  have B0 : Below w.heap.size w w0 := hw0 ▸ ((Below.refl _ _).alloc (Nat.le_refl _) _).alloc (by simp) _
  have L0 : Loc w0 w.heap.size #[.slice ua xs.length uc, .slice va ys.length vc] := hw0 ▸ (loc_at w _ _ rfl).alloc _
  have z0 : w0.heap.size = w.heap.size + 1 + 1 := by rw [← hw0]; simp
  have E0 : OT w0 (w.heap.size + 1) (.slice (some ⟨w.heap.size + 1, 0, none⟩) 0 0) [] := by
    have := World.ownsRow_lit (base := w.heap.size + 1) (e := 33) (size := 4) (w.alloc (.cells #[.slice ua xs.length uc, .slice va ys.length vc] 42)) #[] 0 (by simp) (by unfold maxLen; omega) rfl
    rw [hw0] at this
    have e : (w.alloc (.cells #[.slice ua xs.length uc, .slice va ys.length vc] 42)).heap.size = w.heap.size + 1 := by simp
    rw [e] at this
    exact this
  go_enter Try.func23, Try.ntmps23
  go_wp2
  clear hw0
  go_loopw [5, 6] (fun ov i wr => ∃ (k : Nat), k ≤ n ∧ i = .int .i64 k ∧ OT wr (w.heap.size + 1) ov (dropAns xs ys (ts.take k)) ∧ Loc wr w.heap.size #[.slice ua xs.length uc, .slice va ys.length vc] ∧ w.heap.size + 1 ≤ wr.heap.size ∧ Below w.heap.size w wr) (fun _ i _ => n - (intOf i).toNat)
  case atStart => exact ⟨0, Nat.zero_le _, rfl, E0, L0, by omega, B0⟩
  case round =>
    clear E0 L0 B0
    obtain ⟨k, hk, rfl, op, G, lnb, B⟩ := hrel
    have tp := World.ownsRow.lt op
    obtain ⟨pa, pc, rfl⟩ := op.form
    have LEN := dropAns_len xs ys (ts.take k)
    rw [List.length_take] at LEN
    by_cases hlt : k < n
    · have HR := hide ((unhide H).below B)
      have SUC := hide (dropAns_succ xs ys ts k (by rw [unhide Hn]; exact hlt))
      obtain ⟨r, hr⟩ : ∃ r, dropAns xs ys (ts.take k) = r := ⟨_, rfl⟩
      rw [hr] at SUC op LEN
      simp only [hr] at tp ⊢
      clear hr
      have hr2 : r.length ≤ k := by omega
      obtain ⟨g, rfl, hx⟩ := (unhide HR).at k (by rw [unhide Hn]; exact hlt)
      obtain ⟨x, hx0⟩ : ∃ x, ts.getD k z4 = x := ⟨_, rfl⟩
      rw [hx0] at SUC hx
      clear hx0
      have SP := hide fun w h => unhide SPY x.1 x.2.1 x.2.2.1 x.2.2.2 w h
      have SX : Hid (Stays xs ys x ↔ ¬ (payAns xs ys x.1 x.2.1 x.2.2.1 x.2.2.2).2.2 = 2) := hide Iff.rfl
      have HX := hide fun w' (hb : Below wr.heap.size wr w') => hx.below hb (Nat.le_refl _)
      obtain ⟨xa, xb, xc, xd⟩ := x
      dsimp only at SP SX
      obtain ⟨s, hs⟩ : ∃ s, payAns xs ys xa xb xc xd = s := ⟨_, rfl⟩
      rw [hs] at SP SX
      clear hs
      have op := hide op
      have RX : Hid (∀ w', Below wr.heap.size wr w' → RI w' (.slice ua xs.length uc) xs ∧ RI w' (.slice va ys.length vc) ys) := hide fun w' hb => ⟨(unhide RU).1.below (B.trans (hb.mono B.size)) (Nat.le_refl _), (unhide RU).2.below (B.trans (hb.mono B.size)) (Nat.le_refl _)⟩
      have K : Hid (∀ w', Below wr.heap.size wr w' → (w'.cell? ⟨w.heap.size, 0, none⟩ = some (.slice ua xs.length uc) ∧ w'.cell? ⟨w.heap.size, 1, none⟩ = some (.slice va ys.length vc)) ∧ (w'.cell? ⟨g, k * 4, none⟩ = some (.int .i64 xa) ∧ w'.cell? ⟨g, k * 4 + 1, none⟩ = some (.int .i64 xb) ∧ w'.cell? ⟨g, k * 4 + 2, none⟩ = some (.int .i64 xc) ∧ w'.cell? ⟨g, k * 4 + 3, none⟩ = some (.int .i64 xd))) := hide fun w' hb => by
        have l := G.below hb G.lt
        exact ⟨⟨l.cell 0 rfl, l.cell 1 rfl⟩, unhide HX w' hb⟩
      clear HR hx LEN SPY
      go_wp2_with fail
      refine wp_region_noPanic ?_
      refine wp_region_held_drew (S := (fun w' => (w'.cell? ⟨w.heap.size, 0, none⟩ = some (.slice ua xs.length uc) ∧ w'.cell? ⟨w.heap.size, 1, none⟩ = some (.slice va ys.length vc)) ∧ (w'.cell? ⟨g, k * 4, none⟩ = some (.int .i64 xa) ∧ w'.cell? ⟨g, k * 4 + 1, none⟩ = some (.int .i64 xb) ∧ w'.cell? ⟨g, k * 4 + 2, none⟩ = some (.int .i64 xc) ∧ w'.cell? ⟨g, k * 4 + 3, none⟩ = some (.int .i64 xd)))) (by kernel_rfl) (unhide K _ (Below.drew (Below.refl _ _))) (fun hHeld => ?_)
      obtain ⟨wd, hd⟩ : ∃ wd, wr.drew = wd := ⟨_, rfl⟩
      have bd : Below wr.heap.size wr wd := hd ▸ Below.drew (Below.refl _ _)
      have szd := bd.size
      rw [hd] at hHeld ⊢
      clear hd
      refine take_at (i := 0) (d := 17) (v := ?_) rfl rfl (by kernel_rfl) (by kernel_rfl) (by kernel_rfl) (fun _ _ _ h => h) (Or.inl ⟨by rfl, ?_⟩) (by assumption) ?_
      rotate_left
      · intro w hSw
        try dsimp only at hSw
        go_simp
        try with_reducible rfl
      simp only [Act.put, List.setIfInBounds_toArray, List.set_cons_zero, List.set_cons_succ]
      refine take_at (i := 1) (d := 18) (v := ?_) rfl rfl (by kernel_rfl) (by kernel_rfl) (by kernel_rfl) (fun _ _ _ h => h) (Or.inl ⟨by rfl, ?_⟩) (by assumption) ?_
      rotate_left
      · intro w hSw
        try dsimp only at hSw
        go_simp
        try with_reducible rfl
      simp only [Act.put, List.setIfInBounds_toArray, List.set_cons_zero, List.set_cons_succ]
      refine take_at (i := 2) (d := 19) (v := ?_) rfl rfl (by kernel_rfl) (by kernel_rfl) (by kernel_rfl) (fun _ _ _ h => h) (Or.inl ⟨by rfl, ?_⟩) (by assumption) ?_
      rotate_left
      · intro w hSw
        try dsimp only at hSw
        go_simp
        try with_reducible rfl
      simp only [Act.put, List.setIfInBounds_toArray, List.set_cons_zero, List.set_cons_succ]
      refine take_at (i := 3) (d := 20) (v := ?_) rfl rfl (by kernel_rfl) (by kernel_rfl) (by kernel_rfl) (fun _ _ _ h => h) (Or.inl ⟨by rfl, ?_⟩) (by assumption) ?_
      rotate_left
      · intro w hSw
        try dsimp only at hSw
        go_simp
        try with_reducible rfl
      simp only [Act.put, List.setIfInBounds_toArray, List.set_cons_zero, List.set_cons_succ]
      refine take_at (i := 4) (d := 21) (v := ?_) rfl rfl (by kernel_rfl) (by kernel_rfl) (by kernel_rfl) (fun _ _ _ h => h) (Or.inl ⟨by rfl, ?_⟩) (by assumption) ?_
      rotate_left
      · intro w hSw
        try dsimp only at hSw
        go_simp
        try with_reducible rfl
      simp only [Act.put, List.setIfInBounds_toArray, List.set_cons_zero, List.set_cons_succ]
      refine wpAnyH_ready (rs := [5, 9]) (by kernel_rfl) (by simp) (AllReadyH.cons rfl (fun KK hKK => ?_) (AllReadyH.cons rfl (fun KK hKK => ?_) AllReadyH.nil))
      · go_simp
        refine (unhide SP _ (unhide RX _ bd)).mono ?_
        rintro _ wc1 ⟨up, vp, rfl, olp, bnew⟩
        obtain ⟨pa2, pc2, rfl⟩ := olp.has.form
        obtain ⟨qa2, qc2, rfl⟩ := olp.next.form
        have cbc2 := bnew
        have bc2 : Below wr.heap.size wr wc1 := bd.trans (bnew.mono bd.size)
        have zzwc1 := bnew.size
        clear hHeld bnew
        refine hKK.out _ _ (unhide K _ bc2) (fun hHeld => ?_)
        clear hKK KK
        refine take_at (i := 6) (d := 16) (v := ?_) rfl rfl (by kernel_rfl) (by kernel_rfl) (by kernel_rfl) (fun _ _ _ h => h) (Or.inl ⟨by rfl, ?_⟩) (by assumption) ?_
        rotate_left
        · intro w hSw
          try dsimp only at hSw
          go_simp
          try with_reducible rfl
        simp only [Act.put, List.setIfInBounds_toArray, List.set_cons_zero, List.set_cons_succ]
        refine take_at (i := 7) (d := 23) (v := ?_) rfl rfl (by kernel_rfl) (by kernel_rfl) (by kernel_rfl) (fun _ _ _ h => h) (Or.inl ⟨by rfl, ?_⟩) (by assumption) ?_
        rotate_left
        · intro w hSw
          try dsimp only at hSw
          go_simp
          try with_reducible rfl
        simp only [Act.put, List.setIfInBounds_toArray, List.set_cons_zero, List.set_cons_succ]
        refine take_at (i := 8) (d := 24) (v := ?_) rfl rfl (by kernel_rfl) (by kernel_rfl) (by kernel_rfl) (fun _ _ _ h => h) (Or.inl ⟨by rfl, ?_⟩) (by assumption) ?_
        rotate_left
        · intro w hSw
          try dsimp only at hSw
          go_simp
          try with_reducible rfl
        simp only [Act.put, List.setIfInBounds_toArray, List.set_cons_zero, List.set_cons_succ]
        refine ready_at (i := 9) rfl (by kernel_rfl) (fun KK hKK => ?_)
        go_simp
        obtain ⟨wl5, hwl5⟩ : ∃ x, wc1.alloc (.cells #[.slice none 0 0, .slice none 0 0] 42) = x := ⟨_, rfl⟩
        have cbl6 : Below wc1.heap.size wc1 wl5 := hwl5 ▸ (Below.refl _ _).alloc (Nat.le_refl _) _
        have bl6 : Below wr.heap.size wr wl5 := bc2.trans (cbl6.mono bc2.size)
        have zzwl5 : wc1.heap.size < wl5.heap.size := by rw [← hwl5]; simp
        have lg : Loc wl5 wc1.heap.size #[.slice none 0 0, .slice none 0 0] := hwl5 ▸ loc_at wc1 _ _ rfl
        have olp := olp.below cbl6
        rw [hwl5]
        clear hHeld hwl5
        refine hKK.out _ _ (unhide K _ bl6) (fun hHeld => ?_)
        clear hKK KK
        have q0 := lg.cell 0 rfl
        have q1 := lg.cell 1 rfl
        have FG := lg.frozen
        refine ready_at (i := 10) rfl (by kernel_rfl) (fun KK hKK => ?_)
        go_simp
        have bs : Below wr.heap.size wr ((wl5.setCell ⟨wc1.heap.size, 0, none⟩ (.slice pa2 s.1.length pc2)).setCell ⟨wc1.heap.size, 1, none⟩ (.slice qa2 s.2.1.length qc2)) := Below.set (Below.set bl6 _ _ (by omega)) _ _ (by omega)
        clear hHeld
        refine hKK.out _ _ (unhide K _ bs) (fun hHeld => ?_)
        clear hKK KK
        refine take_at (i := 11) (d := 8) (v := ?_) rfl rfl (by kernel_rfl) (by kernel_rfl) (by kernel_rfl) (fun _ _ _ h => h) (Or.inl ⟨by rfl, ?_⟩) (by assumption) ?_
        rotate_left
        · intro w hSw
          try dsimp only at hSw
          go_simp
          try with_reducible rfl
        simp only [Act.put, List.setIfInBounds_toArray, List.set_cons_zero, List.set_cons_succ]
        clear hHeld
        refine wpAnyH_done (by kernel_rfl) ?_ _
        refine NoPanic.normal ?_
        have kk : Kp wl5 ((wl5.setCell ⟨wc1.heap.size, 0, none⟩ (.slice pa2 s.1.length pc2)).setCell ⟨wc1.heap.size, 1, none⟩ (.slice qa2 s.2.1.length qc2)) (fun k => k = wc1.heap.size) := (set_kp wl5 _ 0 _).trans (set_kp _ _ 1 _)
        have B5 := B.trans (bs.mono B.size)
        have O5 := (unhide op).below bs
        have G5 := G.below bs G.lt
        obtain ⟨w5, hw5⟩ : ∃ x, ((wl5.setCell ⟨wc1.heap.size, 0, none⟩ (.slice pa2 s.1.length pc2)).setCell ⟨wc1.heap.size, 1, none⟩ (.slice qa2 s.2.1.length qc2)) = x := ⟨_, rfl⟩
        rw [hw5] at B5 O5 G5 bs ⊢
        have sz5 := bs.size
        clear hw5 kk lg q0 q1 FG olp
        by_cases hT : ¬ s.2.2 = 2
        · have SUC := hide (show dropAns xs ys (ts.take (k + 1)) = r ++ [(xa, xb, xc, xd)] by have := unhide SUC; rwa [if_pos ((unhide SX).2 hT)] at this)
          obtain ⟨w6, hw6⟩ : ∃ y, w5.alloc (.cells #[.int .i64 xa, .int .i64 xb, .int .i64 xc, .int .i64 xd] 33) = y := ⟨_, rfl⟩
          have b6 : Below w5.heap.size w5 w6 := hw6 ▸ (Below.refl _ _).alloc (Nat.le_refl _) _
          have z6 : w6.heap.size = w5.heap.size + 1 := by rw [← hw6]; simp
          have P6 : Hid (PT w6 (.slice (some ⟨w5.heap.size, 0, none⟩) 1 1) [(xa, xb, xc, xd)]) := hide (hw6 ▸ OT.pt (base := 0) (World.ownsRow_lit w5 #[.int .i64 xa, .int .i64 xb, .int .i64 xc, .int .i64 xd] 1 (Nat.zero_le _) (by unfold maxLen; omega) rfl))
          have O6 := hide (O5.below b6)
          have B6 := hide (B5.trans (b6.mono B5.size))
          have G6 := hide (G5.below b6 G5.lt)
          obtain ⟨c0, c1, c2, c3⟩ := (unhide HX w5 bs)
          have h2 : (s.2.2 != 2) = true := by simpa using hT
          clear O5 B5 bs G5 hT
          go_wp2_with (first | (at_builtin; refine append_piece rfl _ _ rfl (w.heap.size + 1) (.slice pa r.length pc) (.slice (some ⟨w5.heap.size, 0, none⟩) 1 1) r [(xa, xb, xc, xd)] rfl rfl (unhide O6) (unhide P6) (by simp; omega) (by omega) ?_; intro v7 w7 ho7 hg7 hb7; have k7 := kp_grown hg7; have O7 := hide ho7; have B7 := hide (Below.kp (unhide B6) k7 (unhide B6).size (fun j e => by have := tp j e; omega)); have G7 := hide ((unhide G6).kp k7 (fun e => by have := tp _ e; omega)); have z7 := k7.size; clear ho7 hg7 hb7 k7 B6 O6 P6))
          clear hw6
          go_roundw
          case rel =>
            refine ⟨k + 1, by omega, by go_num, ?_⟩
            rw [unhide SUC]
            exact ⟨unhide O7, unhide G7, by omega, unhide B7⟩
          case measure => simp [intOf]; omega
        · have SUC := hide (show dropAns xs ys (ts.take (k + 1)) = r by have := unhide SUC; rwa [if_neg (fun h => hT ((unhide SX).1 h)), List.append_nil] at this)
          have h2 : s.2.2 = 2 := Decidable.not_not.1 hT
          have h2' : (s.2.2 != 2) = false := by simp [h2]
          have O5 := hide O5
          clear hT
          go_wp2
          go_roundw
          case rel =>
            refine ⟨k + 1, by omega, by go_num, ?_⟩
            rw [unhide SUC]
            exact ⟨unhide O5, G5, by omega, B5⟩
          case measure => simp [intOf]; omega
      · go_simp
        obtain ⟨wl3, hwl3⟩ : ∃ x, wd.alloc (.cells #[.slice none 0 0, .slice none 0 0] 42) = x := ⟨_, rfl⟩
        have cbl4 : Below wd.heap.size wd wl3 := hwl3 ▸ (Below.refl _ _).alloc (Nat.le_refl _) _
        have bl4 : Below wr.heap.size wr wl3 := bd.trans (cbl4.mono bd.size)
        have zzwl3 : wd.heap.size < wl3.heap.size := by rw [← hwl3]; simp
        have lg : Loc wl3 wd.heap.size #[.slice none 0 0, .slice none 0 0] := hwl3 ▸ loc_at wd _ _ rfl
        rw [hwl3]
        clear hHeld hwl3
        refine hKK.out _ _ (unhide K _ bl4) (fun hHeld => ?_)
        clear hKK KK
        refine ready_at (i := 5) rfl (by kernel_rfl) (fun KK hKK => ?_)
        go_simp
        refine (unhide SP _ (unhide RX _ bl4)).mono ?_
        rintro _ wc7 ⟨up, vp, rfl, olp, bnew⟩
        obtain ⟨pa2, pc2, rfl⟩ := olp.has.form
        obtain ⟨qa2, qc2, rfl⟩ := olp.next.form
        have cbc8 := bnew
        have bc8 : Below wr.heap.size wr wc7 := bl4.trans (bnew.mono bl4.size)
        have zzwc7 := bnew.size
        have lg := lg.below bnew lg.lt
        clear hHeld bnew
        refine hKK.out _ _ (unhide K _ bc8) (fun hHeld => ?_)
        clear hKK KK
        refine take_at (i := 6) (d := 16) (v := ?_) rfl rfl (by kernel_rfl) (by kernel_rfl) (by kernel_rfl) (fun _ _ _ h => h) (Or.inl ⟨by rfl, ?_⟩) (by assumption) ?_
        rotate_left
        · intro w hSw
          try dsimp only at hSw
          go_simp
          try with_reducible rfl
        simp only [Act.put, List.setIfInBounds_toArray, List.set_cons_zero, List.set_cons_succ]
        refine take_at (i := 7) (d := 23) (v := ?_) rfl rfl (by kernel_rfl) (by kernel_rfl) (by kernel_rfl) (fun _ _ _ h => h) (Or.inl ⟨by rfl, ?_⟩) (by assumption) ?_
        rotate_left
        · intro w hSw
          try dsimp only at hSw
          go_simp
          try with_reducible rfl
        simp only [Act.put, List.setIfInBounds_toArray, List.set_cons_zero, List.set_cons_succ]
        refine take_at (i := 8) (d := 24) (v := ?_) rfl rfl (by kernel_rfl) (by kernel_rfl) (by kernel_rfl) (fun _ _ _ h => h) (Or.inl ⟨by rfl, ?_⟩) (by assumption) ?_
        rotate_left
        · intro w hSw
          try dsimp only at hSw
          go_simp
          try with_reducible rfl
        simp only [Act.put, List.setIfInBounds_toArray, List.set_cons_zero, List.set_cons_succ]
        have q0 := lg.cell 0 rfl
        have q1 := lg.cell 1 rfl
        have FG := lg.frozen
        refine ready_at (i := 10) rfl (by kernel_rfl) (fun KK hKK => ?_)
        go_simp
        have bs : Below wr.heap.size wr ((wc7.setCell ⟨wd.heap.size, 0, none⟩ (.slice pa2 s.1.length pc2)).setCell ⟨wd.heap.size, 1, none⟩ (.slice qa2 s.2.1.length qc2)) := Below.set (Below.set bc8 _ _ (by omega)) _ _ (by omega)
        clear hHeld
        refine hKK.out _ _ (unhide K _ bs) (fun hHeld => ?_)
        clear hKK KK
        refine take_at (i := 11) (d := 8) (v := ?_) rfl rfl (by kernel_rfl) (by kernel_rfl) (by kernel_rfl) (fun _ _ _ h => h) (Or.inl ⟨by rfl, ?_⟩) (by assumption) ?_
        rotate_left
        · intro w hSw
          try dsimp only at hSw
          go_simp
          try with_reducible rfl
        simp only [Act.put, List.setIfInBounds_toArray, List.set_cons_zero, List.set_cons_succ]
        clear hHeld
        refine wpAnyH_done (by kernel_rfl) ?_ _
        refine NoPanic.normal ?_
        have kk : Kp wc7 ((wc7.setCell ⟨wd.heap.size, 0, none⟩ (.slice pa2 s.1.length pc2)).setCell ⟨wd.heap.size, 1, none⟩ (.slice qa2 s.2.1.length qc2)) (fun k => k = wd.heap.size) := (set_kp wc7 _ 0 _).trans (set_kp _ _ 1 _)
        have B5 := B.trans (bs.mono B.size)
        have O5 := (unhide op).below bs
        have G5 := G.below bs G.lt
        obtain ⟨w5, hw5⟩ : ∃ x, ((wc7.setCell ⟨wd.heap.size, 0, none⟩ (.slice pa2 s.1.length pc2)).setCell ⟨wd.heap.size, 1, none⟩ (.slice qa2 s.2.1.length qc2)) = x := ⟨_, rfl⟩
        rw [hw5] at B5 O5 G5 bs ⊢
        have sz5 := bs.size
        clear hw5 kk lg q0 q1 FG olp
        by_cases hT : ¬ s.2.2 = 2
        · have SUC := hide (show dropAns xs ys (ts.take (k + 1)) = r ++ [(xa, xb, xc, xd)] by have := unhide SUC; rwa [if_pos ((unhide SX).2 hT)] at this)
          obtain ⟨w6, hw6⟩ : ∃ y, w5.alloc (.cells #[.int .i64 xa, .int .i64 xb, .int .i64 xc, .int .i64 xd] 33) = y := ⟨_, rfl⟩
          have b6 : Below w5.heap.size w5 w6 := hw6 ▸ (Below.refl _ _).alloc (Nat.le_refl _) _
          have z6 : w6.heap.size = w5.heap.size + 1 := by rw [← hw6]; simp
          have P6 : Hid (PT w6 (.slice (some ⟨w5.heap.size, 0, none⟩) 1 1) [(xa, xb, xc, xd)]) := hide (hw6 ▸ OT.pt (base := 0) (World.ownsRow_lit w5 #[.int .i64 xa, .int .i64 xb, .int .i64 xc, .int .i64 xd] 1 (Nat.zero_le _) (by unfold maxLen; omega) rfl))
          have O6 := hide (O5.below b6)
          have B6 := hide (B5.trans (b6.mono B5.size))
          have G6 := hide (G5.below b6 G5.lt)
          obtain ⟨c0, c1, c2, c3⟩ := (unhide HX w5 bs)
          have h2 : (s.2.2 != 2) = true := by simpa using hT
          clear O5 B5 bs G5 hT
          go_wp2_with (first | (at_builtin; refine append_piece rfl _ _ rfl (w.heap.size + 1) (.slice pa r.length pc) (.slice (some ⟨w5.heap.size, 0, none⟩) 1 1) r [(xa, xb, xc, xd)] rfl rfl (unhide O6) (unhide P6) (by simp; omega) (by omega) ?_; intro v7 w7 ho7 hg7 hb7; have k7 := kp_grown hg7; have O7 := hide ho7; have B7 := hide (Below.kp (unhide B6) k7 (unhide B6).size (fun j e => by have := tp j e; omega)); have G7 := hide ((unhide G6).kp k7 (fun e => by have := tp _ e; omega)); have z7 := k7.size; clear ho7 hg7 hb7 k7 B6 O6 P6))
          clear hw6
          go_roundw
          case rel =>
            refine ⟨k + 1, by omega, by go_num, ?_⟩
            rw [unhide SUC]
            exact ⟨unhide O7, unhide G7, by omega, unhide B7⟩
          case measure => simp [intOf]; omega
        · have SUC := hide (show dropAns xs ys (ts.take (k + 1)) = r by have := unhide SUC; rwa [if_neg (fun h => hT ((unhide SX).1 h)), List.append_nil] at this)
          have h2 : s.2.2 = 2 := Decidable.not_not.1 hT
          have h2' : (s.2.2 != 2) = false := by simp [h2]
          have O5 := hide O5
          clear hT
          go_wp2
          go_roundw
          case rel =>
            refine ⟨k + 1, by omega, by go_num, ?_⟩
            rw [unhide SUC]
            exact ⟨unhide O5, G5, by omega, B5⟩
          case measure => simp [intOf]; omega
    · have e1 : ts.take k = ts := List.take_of_length_le (by rw [unhide Hn]; omega)
      have e2 : Hid (dropAns xs ys ts = dropAns xs ys (ts.take k)) := hide (by rw [e1])
      have op := hide op
      clear LEN e1
      go_wp2
      go_ret
      exact ⟨_, rfl, by rw [unhide e2]; exact (unhide op).mono (by omega), B⟩
end Go.Proofs.Ythdehhenkgkkmaa

/- The walk of laws.FnExactPoolDrop. -/
namespace Go.Proofs.Ythdehhenkgkkmaa
open Go.RowKit
set_option linter.unusedSectionVars false
variable [∀ (a b c d : Int), Decidable (Ok4 a b c d)]
variable [∀ (m a b c d : Int), Decidable (In4 m a b c d)]
variable [∀ (xs ys : List Int), Decidable (LOk xs ys)]
variable [∀ (x y : T4), Decidable (Bef x y)]
variable [∀ (ts : List T4), Decidable (Asc ts)]
variable [∀ (ts : List T4), Decidable (AllOk ts)]
variable [∀ (ts : List T4), Decidable (POk ts)]
variable [∀ (r : List Int × List Int × Int), Decidable (Took r)]
variable [∀ (xs ys : List Int) (x : T4), Decidable (Stays xs ys x)]

set_option maxHeartbeats 400000 in
set_option maxRecDepth 100000 in
theorem fnPoolDrop_long (ao : Option Addr) (n ca : Nat) (u v : Value) (w : World) (h : 1048576 < n) (hn : n ≤ 9223372036854775807) :
    Calls Try.prog 6 #[.slice ao n ca, lv u v] w fun e w' => e = .returned (.bool true) ∧ Below w.heap.size w w' := by
  go_enter Try.func6, Try.ntmps6
  go_wp2_with fail
  refine (szTxS_no _ _ _ _ _ (by omega) (by omega) (by omega) hn).mono ?_
  rintro e w2 ⟨rfl, rfl⟩
  go_wp2
  go_ret
  exact ⟨rfl, (Below.refl _ _).alloc (Nat.le_refl _) _⟩

set_option maxHeartbeats 400000 in
set_option maxRecDepth 100000 in
theorem fnPoolDrop_many (lo_ ao bo : Option Addr) (t lc n ca m cb : Nat) (w : World) (h : t ≤ 1048576) (hm : 1048576 < t + (n + m)) (hn : n ≤ 9223372036854775807) (hm2 : m ≤ 9223372036854775807) :
    Calls Try.prog 6 #[.slice lo_ t lc, lv (.slice ao n ca) (.slice bo m cb)] w fun e w' => e = .returned (.bool true) ∧ Below w.heap.size w w' := by
  have hd : decide ((1048576 : Int) - (t : Int) < 0) = false := by simp; omega
  have SZ := hide fun w => szLedger_noG ao bo n ca m cb ((1048576 : Int) - (t : Int)) w (by omega) (by omega) (by omega) hn hm2
  go_enter Try.func6, Try.ntmps6
  go_wp2_with fail
  refine (szTxS_yes _ _ _ _ _ (by omega) (by omega)).mono ?_
  rintro e w2 ⟨rfl, rfl⟩
  go_wp2_with fail
  refine (unhide SZ _).mono ?_
  rintro e w1 ⟨rfl, b1⟩
  go_wp2
  go_ret
  exact ⟨rfl, ((Below.refl w.heap.size w).alloc (Nat.le_refl _) _).trans (b1.mono (by simp))⟩

set_option maxHeartbeats 16000000 in
set_option maxRecDepth 100000 in
theorem fnPoolDrop_short (lo_ ao bo : Option Addr) (lc ca cb : Nat) (ts : List T4) (xs ys : List Int) (w : World) (h : ts.length + (xs.length + ys.length) ≤ 1048576) (hl : AR w lo_ ts) (ha : AI w ao xs) (hb : AI w bo ys) :
    Calls Try.prog 6 #[.slice lo_ ts.length lc, lv (.slice ao xs.length ca) (.slice bo ys.length cb)] w fun e w' => e = .returned (.bool true) ∧ Below w.heap.size w w' := by
  have hd : decide ((1048576 : Int) - (ts.length : Int) < 0) = false := by simp; omega
  have hd2 : decide ((1048576 : Int) - (ts.length : Int) - (xs.length : Int) - (ys.length : Int) < 0) = false := by simp; omega
  have RL : Hid (∀ w', Below w.heap.size w w' → AR w' lo_ ts) := hide fun w' hb' => hl.below hb'
  have RA : Hid (∀ w', Below w.heap.size w w' → RI w' (.slice ao xs.length ca) xs ∧ RI w' (.slice bo ys.length cb) ys) := hide fun w' hb' => ⟨(ha.ri ca (by omega)).below hb' (Nat.le_refl _), (hb.ri cb (by omega)).below hb' (Nat.le_refl _)⟩
  have SP := hide fun p u v w h1 h2 => specPoolDrop p u v ts xs ys w h1 (by omega) h2
  have IM := hide fun p u v w h1 h2 h3 h4 h5 => implPoolDrop p u v ts xs ys w h1 (by omega) h2 h3 h4 h5
  have TT := hide fun w h => toTxS_any lo_ lc ts w (by omega) h
  have TO := hide fun w h => toLedger_any (.slice ao xs.length ca) (.slice bo ys.length cb) xs ys w h
  have hr : (dropAns xs ys ts).length ≤ 1048576 := (by have := dropAns_len xs ys ts; omega)
  generalize dropAns xs ys ts = r at *
  have hx : xs.length ≤ 4194304 := by omega
  have hy : ys.length ≤ 4194304 := by omega
  have hk1 : decide ((1 : Int) + (ts.length : Int) * 4 + (xs.length : Int) + (ys.length : Int) < 0) = false := by simp; omega
  have hk2 : decide ((1 : Int) + (r.length : Int) * 4 < 0) = false := by simp; omega
  obtain ⟨w0, hw0⟩ : ∃ w0, w.alloc (.cells #[.slice ao xs.length ca, .slice bo ys.length cb] 39) = w0 := ⟨_, rfl⟩
  have Bw0 : Below w.heap.size w w0 := hw0 ▸ (Below.refl w.heap.size w).alloc (Nat.le_refl _) _
  have L : Loc w0 w.heap.size #[.slice ao xs.length ca, .slice bo ys.length cb] := hw0 ▸ loc_at w _ _ rfl
  have lL := L.lt
  clear hl ha hb
  go_enter Try.func6, Try.ntmps6
  go_wp2_with fail
  clear hw0
  refine (szTxS_yes _ _ _ _ _ (by omega) (by omega)).mono ?_
  rintro _ w9 ⟨rfl, e9⟩
  rw [e9]
  clear e9
  have q0 := L.cell 0 rfl
  have q1 := L.cell 1 rfl
  go_wp2_with fail
  refine (szLedger_yesG _ _ _ _ _ _ _ _ (by omega) (by omega)).mono ?_
  rintro _ w1 ⟨rfl, bb⟩
  have Bw1 := Bw0.trans (bb.mono Bw0.size)
  have sw1 := bb.size
  replace L := L.below bb L.lt
  clear Bw0
  clear bb
  clear q0 q1
  have K : Hid (∀ w', Below w1.heap.size w1 w' → (w'.cell? ⟨w.heap.size, 0, none⟩ = some (.slice ao xs.length ca) ∧ w'.cell? ⟨w.heap.size, 1, none⟩ = some (.slice bo ys.length cb))) := hide fun w' hb => by
    have l := L.below hb L.lt
    exact ⟨l.cell 0 rfl, l.cell 1 rfl⟩
  have bA : Below w1.heap.size w1 w1.drew := Below.drew (Below.refl _ _)
  go_wp2_with fail
  refine wp_region_noPanic ?_
  refine wp_region_held_drew (S := (fun w' => (w'.cell? ⟨w.heap.size, 0, none⟩ = some (.slice ao xs.length ca) ∧ w'.cell? ⟨w.heap.size, 1, none⟩ = some (.slice bo ys.length cb)))) (by kernel_rfl) (unhide K _ bA) (fun hHeld => ?_)
  refine take_at (i := 0) (d := 24) (v := ?_) rfl rfl (by kernel_rfl) (by kernel_rfl) (by kernel_rfl) (fun _ _ _ h => h) (Or.inl ⟨by rfl, ?_⟩) (by assumption) ?_
  rotate_left
  · intro w hSw
    try dsimp only at hSw
    go_simp
    try with_reducible rfl
  simp only [Act.put, List.setIfInBounds_toArray, List.set_cons_zero, List.set_cons_succ]
  refine take_at (i := 2) (d := 26) (v := ?_) rfl rfl (by kernel_rfl) (by kernel_rfl) (by kernel_rfl) (fun _ _ _ h => h) (Or.inl ⟨by rfl, ?_⟩) (by assumption) ?_
  rotate_left
  · intro w hSw
    try dsimp only at hSw
    go_simp
    try with_reducible rfl
  simp only [Act.put, List.setIfInBounds_toArray, List.set_cons_zero, List.set_cons_succ]
  refine ready_at (i := 1) rfl (by kernel_rfl) (fun KK hKK => ?_)
  go_simp
  refine (unhide TT _ (unhide RL _ (Bw1.trans (bA.mono Bw1.size)))).mono ?_
  rintro _ wa ⟨la, rfl, ota, ba⟩
  have bB : Below w1.heap.size w1 wa := bA.trans ba
  clear hHeld
  refine hKK.out _ _ (unhide K _ bB) (fun hHeld => ?_)
  clear hKK KK
  refine ready_at (i := 3) rfl (by kernel_rfl) (fun KK hKK => ?_)
  go_simp
  refine (unhide TO _ (unhide RA _ (Bw1.trans (bB.mono Bw1.size)))).mono ?_
  rintro _ wb ⟨ul, vl, rfl, oll, bb⟩
  have bC : Below w1.heap.size w1 wb := bB.trans (bb.mono bB.size)
  replace ota := ota.below bb
  clear hHeld
  refine hKK.out _ _ (unhide K _ bC) (fun hHeld => ?_)
  clear hKK KK
  refine ready_at (i := 4) rfl (by kernel_rfl) (fun KK hKK => ?_)
  go_simp
  refine (unhide SP _ _ _ _ (ota.rt (by omega)) (oll.ri hx hy)).mono ?_
  rintro _ w2 ⟨us, rfl, os, bd⟩
  have bD : Below w1.heap.size w1 w2 := bC.trans (bd.mono bC.size)
  clear hHeld
  refine hKK.out _ _ (unhide K _ bD) (fun hHeld => ?_)
  clear hKK KK
  refine take_at (i := 5) (d := 6) (v := ?_) rfl rfl (by kernel_rfl) (by kernel_rfl) (by kernel_rfl) (fun _ _ _ h => h) (Or.inl ⟨by rfl, ?_⟩) (by assumption) ?_
  rotate_left
  · intro w hSw
    try dsimp only at hSw
    go_simp
    try with_reducible rfl
  simp only [Act.put, List.setIfInBounds_toArray, List.set_cons_zero, List.set_cons_succ]
  clear hHeld
  refine wpAnyH_done (by kernel_rfl) ?_ _
  refine NoPanic.normal ?_
  have Bw2 := Bw1.trans (bD.mono Bw1.size)
  have sw2 := bD.size
  replace L := L.below bD L.lt
  clear Bw1
  have sC := bC.size
  clear K bA bB bC bD ba bb bd ota oll
  have tos : ∀ j, us.ownBlock = some j → w1.heap.size ≤ j ∧ j < w2.heap.size := fun j hj => by have := World.ownsRow.lt os j hj; omega
  clear sC
  go_wp2_with fail
  refine (unhide TT _ (unhide RL _ Bw2)).mono ?_
  rintro _ w3 ⟨lx, rfl, ox, bb⟩
  have Bw3 := Bw2.trans (bb.mono Bw2.size)
  have sw3 := bb.size
  replace L := L.below bb L.lt
  replace os := os.below bb
  clear Bw2
  clear bb
  have tox : ∀ j, lx.ownBlock = some j → w2.heap.size ≤ j ∧ j < w3.heap.size := World.ownsRow.lt ox
  have q0 := L.cell 0 rfl
  have q1 := L.cell 1 rfl
  go_wp2_with fail
  refine (unhide TO _ (unhide RA _ Bw3)).mono ?_
  rintro _ w4 ⟨ux, vx, rfl, olx, bb⟩
  have Bw4 := Bw3.trans (bb.mono Bw3.size)
  have sw4 := bb.size
  replace L := L.below bb L.lt
  replace os := os.below bb
  replace ox := ox.below bb
  clear Bw3
  clear bb
  clear q0 q1
  obtain ⟨xa, xc, rfl⟩ := olx.has.form
  obtain ⟨ya, yc, rfl⟩ := olx.next.form
  obtain ⟨w5, hw5⟩ : ∃ y, w4.alloc (.cells #[.slice xa xs.length xc, .slice ya ys.length yc] 42) = y := ⟨_, rfl⟩
  have bb : Below w4.heap.size w4 w5 := hw5 ▸ (Below.refl _ _).alloc (Nat.le_refl _) _
  have X : Loc w5 w4.heap.size #[.slice xa xs.length xc, .slice ya ys.length yc] := hw5 ▸ loc_at w4 _ _ rfl
  have Bw5 := Bw4.trans (bb.mono Bw4.size)
  have sw5 := bb.size
  replace L := L.below bb L.lt
  replace os := os.below bb
  replace ox := ox.below bb
  replace olx := olx.below bb
  clear Bw4
  clear bb
  have lX := X.lt
  have q0 := X.cell 0 rfl
  have q1 := X.cell 1 rfl
  go_wp2_with fail
  clear hw5 q0 q1
  refine (unhide IM _ _ _ _ (ox.rt (by omega)) (olx.ri hx hy) (fun j hj => by have := tox j hj; omega) (fun j hj => by have := olx.top j hj; omega) (fun j hj => by have := olx.top' j hj; omega)).mono ?_
  rintro _ w6 ⟨ug, rfl, og, bb⟩
  have Bw6 := Bw5.trans (bb.mono Bw5.size)
  have sw6 := bb.size
  replace L := L.below bb L.lt
  replace X := X.below bb X.lt
  replace os := os.below bb
  replace ox := ox.below bb
  replace olx := olx.below bb
  clear Bw5
  clear bb
  have tog : ∀ j, ug.ownBlock = some j → w5.heap.size ≤ j ∧ j < w6.heap.size := World.ownsRow.lt og
  go_wp2_with fail
  refine (eqTxS_yes _ _ r _ (og.rt (by omega)) (os.rt (by omega))).mono ?_
  rintro _ w7 ⟨rfl, bb⟩
  have Bw7 := Bw6.trans (bb.mono Bw6.size)
  have sw7 := bb.size
  replace L := L.below bb L.lt
  replace X := X.below bb X.lt
  replace os := os.below bb
  replace ox := ox.below bb
  replace og := og.below bb
  replace olx := olx.below bb
  clear Bw6
  clear bb
  go_wp2_with fail
  refine (unhide TT _ (unhide RL _ Bw7)).mono ?_
  rintro _ w8 ⟨ly, rfl, oy, bb⟩
  have Bw8 := Bw7.trans (bb.mono Bw7.size)
  have sw8 := bb.size
  replace L := L.below bb L.lt
  replace X := X.below bb X.lt
  replace os := os.below bb
  replace ox := ox.below bb
  replace og := og.below bb
  replace olx := olx.below bb
  clear Bw7
  clear bb
  have hry := oy.rt (by omega)
  clear oy
  go_wp2_with fail
  refine (eqTxS_yes _ _ ts _ (ox.rt (by omega)) hry).mono ?_
  rintro _ w9 ⟨rfl, bb⟩
  have Bw9 := Bw8.trans (bb.mono Bw8.size)
  have sw9 := bb.size
  replace L := L.below bb L.lt
  replace X := X.below bb X.lt
  replace os := os.below bb
  replace ox := ox.below bb
  replace og := og.below bb
  replace olx := olx.below bb
  clear Bw8
  clear bb
  clear hry
  have K : Hid (∀ w', Below w9.heap.size w9 w' → (w'.cell? ⟨w4.heap.size, 0, none⟩ = some (.slice xa xs.length xc) ∧ w'.cell? ⟨w4.heap.size, 1, none⟩ = some (.slice ya ys.length yc)) ∧ (w'.cell? ⟨w.heap.size, 0, none⟩ = some (.slice ao xs.length ca) ∧ w'.cell? ⟨w.heap.size, 1, none⟩ = some (.slice bo ys.length cb))) := hide fun w' hb => by
    have l := L.below hb L.lt
    have x := X.below hb X.lt
    exact ⟨⟨x.cell 0 rfl, x.cell 1 rfl⟩, ⟨l.cell 0 rfl, l.cell 1 rfl⟩⟩
  have bA : Below w9.heap.size w9 w9.drew := Below.drew (Below.refl _ _)
  go_wp2_with fail
  refine wp_region_noPanic ?_
  refine wp_region_held_drew (S := (fun w' => (w'.cell? ⟨w4.heap.size, 0, none⟩ = some (.slice xa xs.length xc) ∧ w'.cell? ⟨w4.heap.size, 1, none⟩ = some (.slice ya ys.length yc)) ∧ (w'.cell? ⟨w.heap.size, 0, none⟩ = some (.slice ao xs.length ca) ∧ w'.cell? ⟨w.heap.size, 1, none⟩ = some (.slice bo ys.length cb)))) (by kernel_rfl) (unhide K _ bA) (fun hHeld => ?_)
  refine take_at (i := 0) (d := 45) (v := ?_) rfl rfl (by kernel_rfl) (by kernel_rfl) (by kernel_rfl) (fun _ _ _ h => h) (Or.inl ⟨by rfl, ?_⟩) (by assumption) ?_
  rotate_left
  · intro w hSw
    try dsimp only at hSw
    go_simp
    try with_reducible rfl
  simp only [Act.put, List.setIfInBounds_toArray, List.set_cons_zero, List.set_cons_succ]
  refine take_at (i := 1) (d := 46) (v := ?_) rfl rfl (by kernel_rfl) (by kernel_rfl) (by kernel_rfl) (fun _ _ _ h => h) (Or.inl ⟨by rfl, ?_⟩) (by assumption) ?_
  rotate_left
  · intro w hSw
    try dsimp only at hSw
    go_simp
    try with_reducible rfl
  simp only [Act.put, List.setIfInBounds_toArray, List.set_cons_zero, List.set_cons_succ]
  refine ready_at (i := 2) rfl (by kernel_rfl) (fun KK hKK => ?_)
  go_simp
  refine (unhide TO _ (unhide RA _ (Bw9.trans (bA.mono Bw9.size)))).mono ?_
  rintro _ wa ⟨ul, vl, rfl, oll, ba⟩
  have bB : Below w9.heap.size w9 wa := bA.trans ba
  clear hHeld
  refine hKK.out _ _ (unhide K _ bB) (fun hHeld => ?_)
  clear hKK KK
  refine ready_at (i := 3) rfl (by kernel_rfl) (fun KK hKK => ?_)
  go_simp
  refine (eqLedger_yes _ _ _ _ xs ys _ ((olx.below bB).ri hx hy) (oll.ri hx hy)).mono ?_
  rintro _ w10 ⟨rfl, bd⟩
  have bD : Below w9.heap.size w9 w10 := bB.trans (bd.mono bB.size)
  clear hHeld
  refine hKK.out _ _ (unhide K _ bD) (fun hHeld => ?_)
  clear hKK KK
  refine take_at (i := 4) (d := 49) (v := ?_) rfl rfl (by kernel_rfl) (by kernel_rfl) (by kernel_rfl) (fun _ _ _ h => h) (Or.inl ⟨by rfl, ?_⟩) (by assumption) ?_
  rotate_left
  · intro w hSw
    try dsimp only at hSw
    go_simp
    try with_reducible rfl
  simp only [Act.put, List.setIfInBounds_toArray, List.set_cons_zero, List.set_cons_succ]
  clear hHeld
  refine wpAnyH_done (by kernel_rfl) ?_ _
  refine NoPanic.normal ?_
  have Bw10 := Bw9.trans (bD.mono Bw9.size)
  have sw10 := bD.size
  replace L := L.below bD L.lt
  replace X := X.below bD X.lt
  replace os := os.below bD
  replace ox := ox.below bD
  replace og := og.below bD
  replace olx := olx.below bD
  clear Bw9
  clear K bA bB bD ba bd oll
  go_wp2_with fail
  refine (tmark_one _ lx ts _ (by omega) ox).mono ?_
  rintro _ w11 ⟨rfl, _, gm⟩
  have km := kp_grown gm
  clear ox
  have Bw11 := Below.kp Bw10 km Bw10.size (fun k hk => by have := tox _ hk; omega)
  have sw11 := km.size
  replace L := L.kp km (fun h => by have := tox _ h; omega)
  replace X := X.kp km (fun h => by have := tox _ h; omega)
  replace olx := olx.kp km (fun k _ _ h => by have := tox _ h; omega)
  replace os := os.kp km (fun j hj h => by have := tos j hj; have := tox _ h; omega)
  replace og := og.kp km (fun j hj h => by have := tog j hj; have := tox _ h; omega)
  clear Bw10
  clear km gm
  have q0 := X.cell 0 rfl
  have q1 := X.cell 1 rfl
  go_wp2_with fail
  clear q0 q1
  refine (markLedger_k (1 + ts.length * 4) _ _ _ _ xs ys _ _ (by omega) hx hy (by omega) (by omega) olx).mono ?_
  rintro _ w12 ⟨rfl, km⟩
  clear olx
  have Bw12 := Below.kp Bw11 km Bw11.size (fun k hk => by omega)
  have sw12 := km.size
  replace L := L.kp km (fun h => by omega)
  replace X := X.kp km (fun h => by omega)
  replace os := os.kp km (fun j hj h => by have := tos j hj; omega)
  replace og := og.kp km (fun j hj h => by have := tog j hj; omega)
  clear Bw11
  clear km
  go_wp2_with fail
  refine (eqTxS_yes _ _ r _ (og.rt (by omega)) (os.rt (by omega))).mono ?_
  rintro _ w13 ⟨rfl, bb⟩
  have Bw13 := Bw12.trans (bb.mono Bw12.size)
  have sw13 := bb.size
  replace L := L.below bb L.lt
  replace X := X.below bb X.lt
  replace os := os.below bb
  replace og := og.below bb
  clear Bw12
  clear bb
  go_wp2_with fail
  refine (tmark_one _ ug r _ (by omega) og).mono ?_
  rintro _ w14 ⟨rfl, om, gm⟩
  have km := kp_grown gm
  clear og
  have Bw14 := Below.kp Bw13 km Bw13.size (fun k hk => by have := tog _ hk; omega)
  have sw14 := km.size
  replace L := L.kp km (fun h => by have := tog _ h; omega)
  replace X := X.kp km (fun h => by have := tog _ h; omega)
  replace os := os.kp km (fun j hj h => by have := tos j hj; have := tog _ h; omega)
  clear Bw13
  clear km gm
  go_wp2_with fail
  refine (theld_one _ r.length _ (by omega) (om.rt (by rw [tmarks_len]; omega))).mono ?_
  rintro _ w15 ⟨rfl, bb⟩
  have Bw15 := Bw14.trans (bb.mono Bw14.size)
  have sw15 := bb.size
  replace L := L.below bb L.lt
  replace X := X.below bb X.lt
  replace os := os.below bb
  replace om := om.below bb
  clear Bw14
  clear bb
  have K : Hid (∀ w', Below w15.heap.size w15 w' → (w'.cell? ⟨w.heap.size, 0, none⟩ = some (.slice ao xs.length ca) ∧ w'.cell? ⟨w.heap.size, 1, none⟩ = some (.slice bo ys.length cb))) := hide fun w' hb => by
    have l := L.below hb L.lt
    exact ⟨l.cell 0 rfl, l.cell 1 rfl⟩
  have bA : Below w15.heap.size w15 w15.drew := Below.drew (Below.refl _ _)
  go_wp2_with fail
  refine wp_region_noPanic ?_
  refine wp_region_held_drew (S := (fun w' => (w'.cell? ⟨w.heap.size, 0, none⟩ = some (.slice ao xs.length ca) ∧ w'.cell? ⟨w.heap.size, 1, none⟩ = some (.slice bo ys.length cb)))) (by kernel_rfl) (unhide K _ bA) (fun hHeld => ?_)
  refine take_at (i := 0) (d := 75) (v := ?_) rfl rfl (by kernel_rfl) (by kernel_rfl) (by kernel_rfl) (fun _ _ _ h => h) (Or.inl ⟨by rfl, ?_⟩) (by assumption) ?_
  rotate_left
  · intro w hSw
    try dsimp only at hSw
    go_simp
    try with_reducible rfl
  simp only [Act.put, List.setIfInBounds_toArray, List.set_cons_zero, List.set_cons_succ]
  refine take_at (i := 2) (d := 77) (v := ?_) rfl rfl (by kernel_rfl) (by kernel_rfl) (by kernel_rfl) (fun _ _ _ h => h) (Or.inl ⟨by rfl, ?_⟩) (by assumption) ?_
  rotate_left
  · intro w hSw
    try dsimp only at hSw
    go_simp
    try with_reducible rfl
  simp only [Act.put, List.setIfInBounds_toArray, List.set_cons_zero, List.set_cons_succ]
  refine ready_at (i := 1) rfl (by kernel_rfl) (fun KK hKK => ?_)
  go_simp
  refine (unhide TT _ (unhide RL _ (Bw15.trans (bA.mono Bw15.size)))).mono ?_
  rintro _ wa ⟨la, rfl, ota, ba⟩
  have bB : Below w15.heap.size w15 wa := bA.trans ba
  clear hHeld
  refine hKK.out _ _ (unhide K _ bB) (fun hHeld => ?_)
  clear hKK KK
  refine ready_at (i := 3) rfl (by kernel_rfl) (fun KK hKK => ?_)
  go_simp
  refine (unhide TO _ (unhide RA _ (Bw15.trans (bB.mono Bw15.size)))).mono ?_
  rintro _ wb ⟨ul, vl, rfl, oll, bb⟩
  have bC : Below w15.heap.size w15 wb := bB.trans (bb.mono bB.size)
  replace ota := ota.below bb
  clear hHeld
  refine hKK.out _ _ (unhide K _ bC) (fun hHeld => ?_)
  clear hKK KK
  refine ready_at (i := 4) rfl (by kernel_rfl) (fun KK hKK => ?_)
  go_simp
  refine (unhide IM _ _ _ _ (ota.rt (by omega)) (oll.ri hx hy) (fun j hj => (World.ownsRow.lt ota j hj).2) (fun j hj => (World.ownsRow.lt oll.has j hj).2) (fun j hj => (World.ownsRow.lt oll.next j hj).2)).mono ?_
  rintro _ w16 ⟨uh, rfl, oh, bd⟩
  have bD : Below w15.heap.size w15 w16 := bC.trans (bd.mono bC.size)
  clear hHeld
  refine hKK.out _ _ (unhide K _ bD) (fun hHeld => ?_)
  clear hKK KK
  refine take_at (i := 5) (d := 13) (v := ?_) rfl rfl (by kernel_rfl) (by kernel_rfl) (by kernel_rfl) (fun _ _ _ h => h) (Or.inl ⟨by rfl, ?_⟩) (by assumption) ?_
  rotate_left
  · intro w hSw
    try dsimp only at hSw
    go_simp
    try with_reducible rfl
  simp only [Act.put, List.setIfInBounds_toArray, List.set_cons_zero, List.set_cons_succ]
  clear hHeld
  refine wpAnyH_done (by kernel_rfl) ?_ _
  refine NoPanic.normal ?_
  have Bw16 := Bw15.trans (bD.mono Bw15.size)
  have sw16 := bD.size
  replace L := L.below bD L.lt
  replace X := X.below bD X.lt
  replace os := os.below bD
  replace om := om.below bD
  clear Bw15
  have sC := bC.size
  clear K bA bB bC bD ba bb bd ota oll
  clear sC
  go_wp2_with fail
  refine (eqTxS_yes _ _ r _ (oh.rt (by omega)) (os.rt (by omega))).mono ?_
  rintro _ w17 ⟨rfl, bb⟩
  have Bw17 := Bw16.trans (bb.mono Bw16.size)
  have sw17 := bb.size
  replace L := L.below bb L.lt
  replace X := X.below bb X.lt
  replace os := os.below bb
  replace om := om.below bb
  replace oh := oh.below bb
  clear Bw16
  clear bb
  go_wp2_with fail
  refine (theld_one _ r.length _ (by omega) (om.rt (by rw [tmarks_len]; omega))).mono ?_
  rintro _ w18 ⟨rfl, bb⟩
  have Bw18 := Bw17.trans (bb.mono Bw17.size)
  have sw18 := bb.size
  replace L := L.below bb L.lt
  replace X := X.below bb X.lt
  replace os := os.below bb
  replace om := om.below bb
  replace oh := oh.below bb
  clear Bw17
  clear bb
  go_wp2
  go_ret
  exact ⟨rfl, Bw18⟩

theorem fnPoolDrop_walk (lo_ ao bo : Option Addr) (lc ca cb : Nat) (ts : List T4) (xs ys : List Int) (w : World) (ht : ts.length ≤ maxLen) (hn : xs.length ≤ maxLen) (hm : ys.length ≤ maxLen) (hl : AR w lo_ ts) (ha : AI w ao xs) (hb : AI w bo ys) :
    Calls Try.prog 6 #[.slice lo_ ts.length lc, lv (.slice ao xs.length ca) (.slice bo ys.length cb)] w fun e w' => e = .returned (.bool true) ∧ Below w.heap.size w w' := by
  unfold maxLen at hn hm ht
  by_cases h : ts.length ≤ 1048576
  · by_cases h2 : ts.length + (xs.length + ys.length) ≤ 1048576
    · exact fnPoolDrop_short lo_ ao bo lc ca cb ts xs ys w h2 hl ha hb
    · exact fnPoolDrop_many lo_ ao bo ts.length lc xs.length ca ys.length cb w h (by omega) (by omega) (by omega)
  · exact fnPoolDrop_long lo_ ts.length lc _ _ w (by omega) (by omega)
end Go.Proofs.Ythdehhenkgkkmaa

/- FnExactPoolDrop: for every list of payments and every ledger the law answers true and leaves its arguments as they were; no condition. -/
namespace Go.Proofs.Ythdehhenkgkkmaa.fnExactPoolDrop
open Go.ChangeShapes Go.WideShapes Go.ChangeAt Go.RowKit
open Go.Joins
set_option linter.unusedVariables false
set_option maxRecDepth 100000 in
theorem lifted (os : Os) (started : os.Started) (H : Type) (enc : TypeId × Value → H) :
    ReturnsInHanded {} Try.checked os 6 .any (Rows.fnExactPoolDropSpec.pre6 enc Try.prog Try.f6 Rows.fnExactPoolDropRow.domain false) (Rows.fnExactPoolDropSpec.post enc Try.prog Try.f6 false true false false) := by
  have di0 : ∀ (a b c d : Int), Decidable (Ok4 a b c d) := fun a b c d => Classical.choice ((Classical.em (Ok4 a b c d)).elim (fun h => ⟨.isTrue h⟩) (fun h => ⟨.isFalse h⟩))
  have di1 : ∀ (m a b c d : Int), Decidable (In4 m a b c d) := fun m a b c d => Classical.choice ((Classical.em (In4 m a b c d)).elim (fun h => ⟨.isTrue h⟩) (fun h => ⟨.isFalse h⟩))
  have di2 : ∀ (xs ys : List Int), Decidable (LOk xs ys) := fun xs ys => Classical.choice ((Classical.em (LOk xs ys)).elim (fun h => ⟨.isTrue h⟩) (fun h => ⟨.isFalse h⟩))
  have di3 : ∀ (x y : T4), Decidable (Bef x y) := fun x y => Classical.choice ((Classical.em (Bef x y)).elim (fun h => ⟨.isTrue h⟩) (fun h => ⟨.isFalse h⟩))
  have di4 : ∀ (ts : List T4), Decidable (Asc ts) := fun ts => Classical.choice ((Classical.em (Asc ts)).elim (fun h => ⟨.isTrue h⟩) (fun h => ⟨.isFalse h⟩))
  have di5 : ∀ (ts : List T4), Decidable (AllOk ts) := fun ts => Classical.choice ((Classical.em (AllOk ts)).elim (fun h => ⟨.isTrue h⟩) (fun h => ⟨.isFalse h⟩))
  have di6 : ∀ (ts : List T4), Decidable (POk ts) := fun ts => Classical.choice ((Classical.em (POk ts)).elim (fun h => ⟨.isTrue h⟩) (fun h => ⟨.isFalse h⟩))
  have di7 : ∀ (r : List Int × List Int × Int), Decidable (Took r) := fun r => Classical.choice ((Classical.em (Took r)).elim (fun h => ⟨.isTrue h⟩) (fun h => ⟨.isFalse h⟩))
  have di8 : ∀ (xs ys : List Int) (x : T4), Decidable (Stays xs ys x) := fun xs ys x => Classical.choice ((Classical.em (Stays xs ys x)).elim (fun h => ⟨.isTrue h⟩) (fun h => ⟨.isFalse h⟩))
  refine returnsInHanded_of_change (C := Try.checked) own started (by kernel_rfl) Try.func6
    (ChangeSpec.witness6 (enc := enc) (C := Try.checked) false ⟨#[], #[.slice none 0 0, lv (.slice none 0 0) (.slice none 0 0)], []⟩ 8 (by kernel_rfl) (by kernel_rfl) (by kernel_rfl) (by kernel_rfl)) ?_
  intro W base args ds gs before hval0 hW hcnd _
  have hval : ∀ (j : Nat) t v, Try.f6.params[j]? = some t → args[j]? = some v → Value.okWide Try.prog W .any base t v := hval0
  have hW' := hW
  obtain ⟨p, q, hA0, hV, rfl, hfz, hnd⟩ := hW
  have hA : DataW.TrodAll enc Try.prog W 0 (fun _ => true) true Try.f6.params.toList args.toList ds p := hA0
  rw [Try.params6] at hA hval
  obtain ⟨v0, vs0, d0, ds0, p0, q0, hargs, rfl, rfl, h0, r0⟩ := trodAll_cons hA
  obtain ⟨v1, vs1, d1, ds1, p1, q1, rfl, rfl, rfl, h1, r1⟩ := trodAll_cons r0
  obtain ⟨rfl, rfl, rfl⟩ := trodAll_nil r1
  obtain rfl : args = #[v0, v1] := by cases args; simp_all
  obtain ⟨rfl, rfl⟩ := trodVars_none hV
  have k0 := h0
  have lt0 : ∀ x ∈ p0, x.block < W.heap.size := by obtain ⟨m, hm⟩ := k0; exact DataW.trod_lt m _ _ _ hm
  obtain ⟨al0, cl0, ts0, rfl, hl0, hr0⟩ := open_txs (hval 0 22 v0 rfl rfl) h0
  have k1 := h1
  have lt1 : ∀ x ∈ p1, x.block < W.heap.size := by obtain ⟨m, hm⟩ := k1; exact DataW.trod_lt m _ _ _ hm
  obtain ⟨ao1, ca1, bo1, cb1, xs1, ys1, rfl, hx1, hy1, ax1, ay1⟩ := open_ledger (hval 1 39 v1 rfl rfl) h1
  clear hA0 hval0
  refine (fnPoolDrop_walk al0 ao1 bo1 cl0 ca1 cb1 ts0 xs1 ys1 W hl0 hx1 hy1 hr0 ax1 ay1).mono fun e W' ⟨he, bel⟩ => ?_
  subst he
  exact ⟨_, rfl, _, _, _, [], _, [], hW', trodAll_mk1 (shut_bool Try.underlying4 _), (trodAll_cons_mk (Below.trod laidOut (by kernel_rfl) (of_decide_eq_true (by kernel_rfl)) k0 bel lt0) (trodAll_cons_mk (Below.trod laidOut (by kernel_rfl) (of_decide_eq_true (by kernel_rfl)) k1 bel lt1) trodAll_mk0)), rfl, bel.frame _, fun h => by cases h⟩

theorem over : Rows.fnExactPoolDropRow.holds Try.pinned (OpenSpec.ofChange Rows.fnExactPoolDropSpec) :=
  OpenClaim.holds_of_wide 6 Try.f6 rfl rfl rfl rfl rfl rfl rfl ⟨rfl, rfl, rfl, rfl, rfl⟩ rfl rfl rfl rfl rfl (by kernel_rfl) Try.func6 (by kernel_rfl)
    (of_decide_eq_true (by kernel_rfl)) (by unfold Func.isWrapper; first | (rw [if_pos (by decide +kernel)]; kernel_rfl) | (rw [if_neg (by decide +kernel)]; exact ⟨rfl, rfl⟩))
    (fun os started H enc _ => lifted os started H enc)
end Go.Proofs.Ythdehhenkgkkmaa.fnExactPoolDrop
namespace Go.Proofs.Ythdehhenkgkkmaa
theorem fnExactPoolDrop_holds : Rows.FnExactPoolDropSaid := fnExactPoolDrop.over
#print axioms fnExactPoolDrop_holds
end Go.Proofs.Ythdehhenkgkkmaa
