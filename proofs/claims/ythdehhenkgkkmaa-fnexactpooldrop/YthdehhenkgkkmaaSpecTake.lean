/- spec.PoolTake, spec.PoolDrop. -/
import Derived.Test.YthdehhenkgkkmaaPick
import Derived.Test.YthdehhenkgkkmaaSpecPayAny
import Derived.Test.YthdehhenkgkkmaaSpecPoolAdd
namespace Go.Proofs.Ythdehhenkgkkmaa
open Go.RowKit

theorem payAns_same (xs ys : List Int) (a b c d : Int) (h : ¬ Took (payAns xs ys a b c d)) : (payAns xs ys a b c d).1 = xs ∧ (payAns xs ys a b c d).2.1 = ys := by
  revert h
  unfold payAns paidB Took
  repeat' split
  all_goals simp

set_option maxHeartbeats 8000000 in
set_option maxRecDepth 100000 in
theorem specPoolTake (p0 u0 v0 : Value) (ts : List T4) (xs ys : List Int) (w : World) (h : RT w p0 ts) (hl : ts.length ≤ 4000000) (hu : RI w u0 xs ∧ RI w v0 ys) :
    Calls Try.prog 18 #[p0, lv u0 v0] w fun e w' => ∃ p, e = .returned p ∧ OT w' w.heap.size p (takeAns xs ys ts) ∧ Below w.heap.size w w' := by
  have LC := hide fun w h => l3Copy_any u0 v0 xs ys w h
  have H := hide h
  have RU := hide hu
  have hxl := hu.1.1
  have hyl := hu.2.1
  obtain ⟨ao, ca, rfl⟩ := h.form
  obtain ⟨ua, uc, rfl⟩ := hu.1.form
  obtain ⟨va, vc, rfl⟩ := hu.2.form
  obtain ⟨n, hn⟩ : ∃ n, ts.length = n := ⟨_, rfl⟩
  have Hn := hide hn
  rw [hn] at hl H ⊢
  clear h hn hu
  obtain ⟨w0, hw0⟩ : ∃ w0, (w.alloc (.cells #[.slice ua xs.length uc, .slice va ys.length vc] 42)).alloc (.cells #[] 33) = w0 := ⟨_, rfl⟩
  have B0 : Below w.heap.size w w0 := hw0 ▸ ((Below.refl _ _).alloc (Nat.le_refl _) _).alloc (by simp) _
  have L0 : Loc w0 w.heap.size #[.slice ua xs.length uc, .slice va ys.length vc] := hw0 ▸ (loc_at w _ _ rfl).alloc _
  have z0 : w0.heap.size = w.heap.size + 1 + 1 := by rw [← hw0]; simp
  have E0 : OT w0 w.heap.size (.slice (some ⟨w.heap.size + 1, 0, none⟩) 0 0) [] := by
    have := World.ownsRow_lit (base := w.heap.size) (e := 33) (size := 4) (w.alloc (.cells #[.slice ua xs.length uc, .slice va ys.length vc] 42)) #[] 0 (by simp) (by unfold maxLen; omega) rfl
    rw [hw0] at this
    have e : (w.alloc (.cells #[.slice ua xs.length uc, .slice va ys.length vc] 42)).heap.size = w.heap.size + 1 := by simp
    rw [e] at this
    exact this
  have q0 := L0.cell 0 rfl
  have q1 := L0.cell 1 rfl
  go_enter Try.func18, Try.ntmps18
  go_wp2_with fail
  clear hw0 q0 q1
  refine (unhide LC _ ⟨(unhide RU).1.below B0 (Nat.le_refl _), (unhide RU).2.below B0 (Nat.le_refl _)⟩).mono ?_
  rintro _ w1 ⟨u1, v1, rfl, ol, b1⟩
  have z1 := b1.size
  have B1 := B0.trans (b1.mono B0.size)
  have E1 := E0.below b1
  obtain ⟨pa1, pc1, rfl⟩ := ol.has.form
  obtain ⟨qa1, qc1, rfl⟩ := ol.next.form
  obtain ⟨nb, hnb⟩ : ∃ nb, w1.heap.size = nb := ⟨_, rfl⟩
  obtain ⟨w2, hw2⟩ : ∃ y, w1.alloc (.cells #[.slice pa1 xs.length pc1, .slice qa1 ys.length qc1] 42) = y := ⟨_, rfl⟩
  have B2 : Below w.heap.size w w2 := hw2 ▸ B1.alloc B1.size _
  have G2 : Loc w2 nb #[.slice pa1 xs.length pc1, .slice qa1 ys.length qc1] := hnb ▸ hw2 ▸ loc_at w1 _ _ rfl
  have E2 : OT w2 w.heap.size (.slice (some ⟨w.heap.size + 1, 0, none⟩) 0 0) [] := hw2 ▸ ot_alloc E1 _
  have ol2 : OL w2 w0.heap.size w1.heap.size (.slice pa1 xs.length pc1) (.slice qa1 ys.length qc1) xs ys := hw2 ▸ ol.alloc _
  have t1 : ∀ j, (Value.slice pa1 xs.length pc1).ownBlock = some j → w0.heap.size ≤ j ∧ j < nb := fun j hj => ⟨(World.ownsRow.lt ol2.has j hj).1, by rw [← hnb]; exact ol2.top j hj⟩
  have t1' : ∀ j, (Value.slice qa1 ys.length qc1).ownBlock = some j → w0.heap.size ≤ j ∧ j < nb := fun j hj => ⟨(World.ownsRow.lt ol2.next j hj).1, by rw [← hnb]; exact ol2.top' j hj⟩
  have z2 : w2.heap.size = nb + 1 := by rw [← hw2, ← hnb]; simp
  have wnb : w.heap.size + 1 < nb := by omega
  have R2 := ol2.ri hxl hyl
  replace hnb := hide hnb
  clear ol b1 E0 E1 L0 B0 B1 LC
  go_wp2
  rw [unhide hnb]
  clear hw2
  go_loopw [5, 7] (fun ov i wr => ∃ (k : Nat) (u v : Value), k ≤ n ∧ i = .int .i64 k ∧ OT wr w.heap.size ov (takeRun xs ys (ts.take k)).2 ∧ Loc wr nb #[u, v] ∧ RI wr u (takeRun xs ys (ts.take k)).1.1 ∧ RI wr v (takeRun xs ys (ts.take k)).1.2 ∧ ((∀ j, ov.ownBlock = some j → u.ownBlock ≠ some j) ∧ (∀ j, ov.ownBlock = some j → v.ownBlock ≠ some j)) ∧ (∀ j, ov.ownBlock = some j → j ≠ nb) ∧ (u.ownBlock ≠ some nb ∧ v.ownBlock ≠ some nb) ∧ nb < wr.heap.size ∧ Below w.heap.size w wr) (fun _ i _ => n - (intOf i).toNat)
  case atStart => exact ⟨0, _, _, Nat.zero_le _, rfl, E2, G2, R2.1, R2.2, ⟨fun j hj e => by simp [Value.ownBlock] at hj; have := t1 j e; omega, fun j hj e => by simp [Value.ownBlock] at hj; have := t1' j e; omega⟩, fun j hj => by simp [Value.ownBlock] at hj; omega, ⟨fun e => by have := t1 _ e; omega, fun e => by have := t1' _ e; omega⟩, by omega, B2⟩
  case round =>
    clear E2 G2 R2 B2 t1 t1' ol2
    obtain ⟨k, u, v, hk, rfl, op, G, ru, rv, ⟨nu, nv⟩, np, ⟨mu, mv⟩, lnb, B⟩ := hrel
    have tp := World.ownsRow.lt op
    obtain ⟨pa, pc, rfl⟩ := op.form
    have LEN := takeRun_len xs ys ts k (by rw [unhide Hn]; exact hk)
    by_cases hlt : k < n
    · have HR := hide ((unhide H).below B)
      have SUC := hide (takeRun_succ xs ys ts k (by rw [unhide Hn]; exact hlt))
      have FUL := hide (takeRun_full xs ys ts k)
      obtain ⟨r, hr⟩ : ∃ r, takeRun xs ys (ts.take k) = r := ⟨_, rfl⟩
      rw [hr] at SUC FUL op ru rv LEN
      simp only [hr] at tp nu nv np ⊢
      clear hr
      obtain ⟨g, rfl, hx⟩ := (unhide HR).at k (by rw [unhide Hn]; exact hlt)
      obtain ⟨x, hx0⟩ : ∃ x, ts.getD k z4 = x := ⟨_, rfl⟩
      rw [hx0] at SUC hx
      clear hx0
      by_cases h2 : r.2.length = 2
      · have e := hide (unhide FUL h2)
        have op := hide op
        clear FUL SUC HR LEN ru rv hx
        go_wp2
        clear h2
        go_ret
        exact ⟨_, rfl, by unfold takeAns; rw [unhide e]; exact unhide op, B⟩
      · have h2' : decide ((r.2.length : Int) < 2) = true := by simp; omega
        have SP := hide fun w h => specPay u v x.1 x.2.1 x.2.2.1 x.2.2.2 r.1.1 r.1.2 w h
        have SAME := hide fun h => payAns_same r.1.1 r.1.2 x.1 x.2.1 x.2.2.1 x.2.2.2 h
        have hp := payAns_len (xs := r.1.1) (ys := r.1.2) (a := x.1) (b := x.2.1) (c := x.2.2.1) (d := x.2.2.2)
        unfold takeStep payOf at SUC
        have HX := hide fun w' (hb : Below wr.heap.size wr w') => hx.below hb (Nat.le_refl _)
        obtain ⟨xa, xb, xc, xd⟩ := x
        dsimp only at SP SAME SUC hp
        obtain ⟨s, hs⟩ : ∃ s, payAns r.1.1 r.1.2 xa xb xc xd = s := ⟨_, rfl⟩
        rw [hs] at SP SUC SAME hp
        have HS1 : Hid (s.1.length ≤ 4194304 ∧ s.2.1.length ≤ 4194304) := hide (by omega)
        clear hs hp
        have SUC := hide (show takeRun xs ys (ts.take (k + 1)) = ((s.1, s.2.1), if Took s then r.2 ++ [(xa, xb, xc, xd)] else r.2) by have := unhide SUC; rwa [if_neg h2] at this)
        have op := hide op
        have RX : Hid (∀ w', Below wr.heap.size wr w' → RI w' u r.1.1 ∧ RI w' v r.1.2) := hide fun w' hb => ⟨ru.below hb (Nat.le_refl _), rv.below hb (Nat.le_refl _)⟩
        obtain ⟨fa, fc, rfl⟩ := ru.form
        obtain ⟨ha, hc, rfl⟩ := rv.form
        have K : Hid (∀ w', Below wr.heap.size wr w' → (w'.cell? ⟨nb, 0, none⟩ = some (.slice fa r.1.1.length fc) ∧ w'.cell? ⟨nb, 1, none⟩ = some (.slice ha r.1.2.length hc)) ∧ (w'.cell? ⟨g, k * 4, none⟩ = some (.int .i64 xa) ∧ w'.cell? ⟨g, k * 4 + 1, none⟩ = some (.int .i64 xb) ∧ w'.cell? ⟨g, k * 4 + 2, none⟩ = some (.int .i64 xc) ∧ w'.cell? ⟨g, k * 4 + 3, none⟩ = some (.int .i64 xd))) := hide fun w' hb => by
          have l := G.below hb G.lt
          exact ⟨⟨l.cell 0 rfl, l.cell 1 rfl⟩, unhide HX w' hb⟩
        have hr2 : r.2.length ≤ 2 := LEN.2.2
        clear FUL h2 HR hx LEN
        go_wp2_with fail
        refine wp_region_noPanic ?_
        refine wp_region_held_drew (S := (fun w' => (w'.cell? ⟨nb, 0, none⟩ = some (.slice fa r.1.1.length fc) ∧ w'.cell? ⟨nb, 1, none⟩ = some (.slice ha r.1.2.length hc)) ∧ (w'.cell? ⟨g, k * 4, none⟩ = some (.int .i64 xa) ∧ w'.cell? ⟨g, k * 4 + 1, none⟩ = some (.int .i64 xb) ∧ w'.cell? ⟨g, k * 4 + 2, none⟩ = some (.int .i64 xc) ∧ w'.cell? ⟨g, k * 4 + 3, none⟩ = some (.int .i64 xd)))) (by kernel_rfl) (unhide K _ (Below.drew (Below.refl _ _))) (fun hHeld => ?_)
        obtain ⟨wd, hd⟩ : ∃ wd, wr.drew = wd := ⟨_, rfl⟩
        have bd : Below wr.heap.size wr wd := hd ▸ Below.drew (Below.refl _ _)
        have szd := bd.size
        rw [hd] at hHeld ⊢
        clear hd
        refine take_at (i := 0) (d := 25) (v := ?_) rfl rfl (by kernel_rfl) (by kernel_rfl) (by kernel_rfl) (fun _ _ _ h => h) (Or.inl ⟨by rfl, ?_⟩) (by assumption) ?_
        rotate_left
        · intro w hSw
          try dsimp only at hSw
          go_simp
          try with_reducible rfl
        simp only [Act.put, List.setIfInBounds_toArray, List.set_cons_zero, List.set_cons_succ]
        refine take_at (i := 1) (d := 26) (v := ?_) rfl rfl (by kernel_rfl) (by kernel_rfl) (by kernel_rfl) (fun _ _ _ h => h) (Or.inl ⟨by rfl, ?_⟩) (by assumption) ?_
        rotate_left
        · intro w hSw
          try dsimp only at hSw
          go_simp
          try with_reducible rfl
        simp only [Act.put, List.setIfInBounds_toArray, List.set_cons_zero, List.set_cons_succ]
        refine take_at (i := 2) (d := 27) (v := ?_) rfl rfl (by kernel_rfl) (by kernel_rfl) (by kernel_rfl) (fun _ _ _ h => h) (Or.inl ⟨by rfl, ?_⟩) (by assumption) ?_
        rotate_left
        · intro w hSw
          try dsimp only at hSw
          go_simp
          try with_reducible rfl
        simp only [Act.put, List.setIfInBounds_toArray, List.set_cons_zero, List.set_cons_succ]
        refine take_at (i := 3) (d := 28) (v := ?_) rfl rfl (by kernel_rfl) (by kernel_rfl) (by kernel_rfl) (fun _ _ _ h => h) (Or.inl ⟨by rfl, ?_⟩) (by assumption) ?_
        rotate_left
        · intro w hSw
          try dsimp only at hSw
          go_simp
          try with_reducible rfl
        simp only [Act.put, List.setIfInBounds_toArray, List.set_cons_zero, List.set_cons_succ]
        refine take_at (i := 4) (d := 29) (v := ?_) rfl rfl (by kernel_rfl) (by kernel_rfl) (by kernel_rfl) (fun _ _ _ h => h) (Or.inl ⟨by rfl, ?_⟩) (by assumption) ?_
        rotate_left
        · intro w hSw
          try dsimp only at hSw
          go_simp
          try with_reducible rfl
        simp only [Act.put, List.setIfInBounds_toArray, List.set_cons_zero, List.set_cons_succ]
        refine wpAnyH_ready (rs := [5, 9]) (by kernel_rfl) (by simp) (AllReadyH.cons rfl (fun KK hKK => ?_) (AllReadyH.cons rfl (fun KK hKK => ?_) AllReadyH.nil))
        · go_simp
          refine (unhide SP _ (unhide RX _ bd)).mono ?_
          rintro _ wc1 ⟨up, vp, rfl, olp, bnew⟩
          obtain ⟨pa2, pc2, rfl⟩ := olp.has.form
          obtain ⟨qa2, qc2, rfl⟩ := olp.next.form
          have cbc2 := bnew
          have bc2 : Below wr.heap.size wr wc1 := bd.trans (bnew.mono bd.size)
          have zzwc1 := bnew.size
          clear hHeld bnew
          refine hKK.out _ _ (unhide K _ bc2) (fun hHeld => ?_)
          clear hKK KK
          refine take_at (i := 6) (d := 24) (v := ?_) rfl rfl (by kernel_rfl) (by kernel_rfl) (by kernel_rfl) (fun _ _ _ h => h) (Or.inl ⟨by rfl, ?_⟩) (by assumption) ?_
          rotate_left
          · intro w hSw
            try dsimp only at hSw
            go_simp
            try with_reducible rfl
          simp only [Act.put, List.setIfInBounds_toArray, List.set_cons_zero, List.set_cons_succ]
          refine take_at (i := 7) (d := 31) (v := ?_) rfl rfl (by kernel_rfl) (by kernel_rfl) (by kernel_rfl) (fun _ _ _ h => h) (Or.inl ⟨by rfl, ?_⟩) (by assumption) ?_
          rotate_left
          · intro w hSw
            try dsimp only at hSw
            go_simp
            try with_reducible rfl
          simp only [Act.put, List.setIfInBounds_toArray, List.set_cons_zero, List.set_cons_succ]
          refine take_at (i := 8) (d := 32) (v := ?_) rfl rfl (by kernel_rfl) (by kernel_rfl) (by kernel_rfl) (fun _ _ _ h => h) (Or.inl ⟨by rfl, ?_⟩) (by assumption) ?_
          rotate_left
          · intro w hSw
            try dsimp only at hSw
            go_simp
            try with_reducible rfl
          simp only [Act.put, List.setIfInBounds_toArray, List.set_cons_zero, List.set_cons_succ]
          refine ready_at (i := 9) rfl (by kernel_rfl) (fun KK hKK => ?_)
          go_simp
          obtain ⟨wl5, hwl5⟩ : ∃ x, wc1.alloc (.cells #[.slice none 0 0, .slice none 0 0] 42) = x := ⟨_, rfl⟩
          have cbl6 : Below wc1.heap.size wc1 wl5 := hwl5 ▸ (Below.refl _ _).alloc (Nat.le_refl _) _
          have bl6 : Below wr.heap.size wr wl5 := bc2.trans (cbl6.mono bc2.size)
          have zzwl5 : wc1.heap.size < wl5.heap.size := by rw [← hwl5]; simp
          have lg : Loc wl5 wc1.heap.size #[.slice none 0 0, .slice none 0 0] := hwl5 ▸ loc_at wc1 _ _ rfl
          have olp := olp.below cbl6
          rw [hwl5]
          clear hHeld hwl5
          refine hKK.out _ _ (unhide K _ bl6) (fun hHeld => ?_)
          clear hKK KK
          have q0 := lg.cell 0 rfl
          have q1 := lg.cell 1 rfl
          have FG := lg.frozen
          refine ready_at (i := 10) rfl (by kernel_rfl) (fun KK hKK => ?_)
          go_simp
          have bs : Below wr.heap.size wr ((wl5.setCell ⟨wc1.heap.size, 0, none⟩ (.slice pa2 s.1.length pc2)).setCell ⟨wc1.heap.size, 1, none⟩ (.slice qa2 s.2.1.length qc2)) := Below.set (Below.set bl6 _ _ (by omega)) _ _ (by omega)
          clear hHeld
          refine hKK.out _ _ (unhide K _ bs) (fun hHeld => ?_)
          clear hKK KK
          refine take_at (i := 11) (d := 9) (v := ?_) rfl rfl (by kernel_rfl) (by kernel_rfl) (by kernel_rfl) (fun _ _ _ h => h) (Or.inl ⟨by rfl, ?_⟩) (by assumption) ?_
          rotate_left
          · intro w hSw
            try dsimp only at hSw
            go_simp
            try with_reducible rfl
          simp only [Act.put, List.setIfInBounds_toArray, List.set_cons_zero, List.set_cons_succ]
          clear hHeld
          refine wpAnyH_done (by kernel_rfl) ?_ _
          refine NoPanic.normal ?_
          have kk : Kp wl5 ((wl5.setCell ⟨wc1.heap.size, 0, none⟩ (.slice pa2 s.1.length pc2)).setCell ⟨wc1.heap.size, 1, none⟩ (.slice qa2 s.2.1.length qc2)) (fun k => k = wc1.heap.size) := (set_kp wl5 _ 0 _).trans (set_kp _ _ 1 _)
          have N5 : Loc ((wl5.setCell ⟨wc1.heap.size, 0, none⟩ (.slice pa2 s.1.length pc2)).setCell ⟨wc1.heap.size, 1, none⟩ (.slice qa2 s.2.1.length qc2)) wc1.heap.size #[(Value.slice pa2 s.1.length pc2), (Value.slice qa2 s.2.1.length qc2)] := (lg.set 0 _ rfl).set 1 _ rfl
          have P5 := olp.kp kk (fun k h1 h2 e => by omega)
          obtain ⟨w5, hw5⟩ : ∃ x, ((wl5.setCell ⟨wc1.heap.size, 0, none⟩ (.slice pa2 s.1.length pc2)).setCell ⟨wc1.heap.size, 1, none⟩ (.slice qa2 s.2.1.length qc2)) = x := ⟨_, rfl⟩
          rw [hw5] at N5 P5 bs ⊢
          have tu : ∀ j, (Value.slice pa2 s.1.length pc2).ownBlock = some j → wr.heap.size ≤ j ∧ j < w5.heap.size := fun j hj => by have := World.ownsRow.lt P5.has j hj; omega
          have tv : ∀ j, (Value.slice qa2 s.2.1.length qc2).ownBlock = some j → wr.heap.size ≤ j ∧ j < w5.heap.size := fun j hj => by have := World.ownsRow.lt P5.next j hj; omega
          have G5 := G.below bs G.lt
          have B5 := B.trans (bs.mono B.size)
          have O5 := (unhide op).below bs
          have sz5 := bs.size
          have ru5 := ru.below bs (Nat.le_refl _)
          have rv5 := rv.below bs (Nat.le_refl _)
          have Q5 := hide (P5.ri (unhide HS1).1 (unhide HS1).2)
          have gg : wc1.heap.size ≠ nb := by omega
          have gw : wr.heap.size ≤ wc1.heap.size := by omega
          clear hw5 kk lg q0 q1 FG
          by_cases hT : Took s
          · have SUC := hide (show takeRun xs ys (ts.take (k + 1)) = ((s.1, s.2.1), r.2 ++ [(xa, xb, xc, xd)]) by have := unhide SUC; rwa [if_pos hT] at this)
            obtain ⟨w6, hw6⟩ : ∃ y, w5.alloc (.cells #[.int .i64 xa, .int .i64 xb, .int .i64 xc, .int .i64 xd] 33) = y := ⟨_, rfl⟩
            have b6 : Below w5.heap.size w5 w6 := hw6 ▸ (Below.refl _ _).alloc (Nat.le_refl _) _
            have z6 : w6.heap.size = w5.heap.size + 1 := by rw [← hw6]; simp
            have P6 : Hid (PT w6 (.slice (some ⟨w5.heap.size, 0, none⟩) 1 1) [(xa, xb, xc, xd)]) := hide (hw6 ▸ OT.pt (base := 0) (World.ownsRow_lit w5 #[.int .i64 xa, .int .i64 xb, .int .i64 xc, .int .i64 xd] 1 (Nat.zero_le _) (by unfold maxLen; omega) rfl))
            have O6 := hide (O5.below b6)
            have N6 := hide (N5.below b6 N5.lt)
            have G6 := hide (G5.below b6 G5.lt)
            have B6 := hide (B5.trans (b6.mono B5.size))
            have Q6 := hide (show RI w6 (Value.slice pa2 s.1.length pc2) s.1 ∧ RI w6 (Value.slice qa2 s.2.1.length qc2) s.2.1 from ⟨(unhide Q5).1.below b6 (Nat.le_refl _), (unhide Q5).2.below b6 (Nat.le_refl _)⟩)
            obtain ⟨c0, c1, c2, c3⟩ := (unhide HX w5 bs)
            clear G5 N5 O5 Q5 P5 B5 ru5 rv5 bs ru rv
            rcases hT with h0 | h4
            · have hcode := h0
              go_wp2_with (first | (at_builtin; refine append_piece rfl _ _ rfl w.heap.size (.slice pa r.2.length pc) (.slice (some ⟨w5.heap.size, 0, none⟩) 1 1) r.2 [(xa, xb, xc, xd)] rfl rfl (unhide O6) (unhide P6) (by simp; omega) (by omega) ?_; intro v7 w7 ho7 hg7 hb7; have k7 := kp_grown hg7; have O7 := hide ho7; have HB7 := hide hb7; have N7 := (unhide N6).kp k7 (fun e => by have := tp _ e; omega); have G7 := (unhide G6).kp k7 (fun e => by have := np _ e; omega); have Q7 := hide (show RI w7 (Value.slice pa2 s.1.length pc2) s.1 ∧ RI w7 (Value.slice qa2 s.2.1.length qc2) s.2.1 from ⟨(unhide Q6).1.kp k7 (fun j hj e => by have := tu j hj; have := tp _ e; omega), (unhide Q6).2.kp k7 (fun j hj e => by have := tv j hj; have := tp _ e; omega)⟩); have B7 := hide (Below.kp (unhide B6) k7 (unhide B6).size (fun j e => (tp j e).1)); have z7 := k7.size; have n0 := N7.cell 0 rfl; have n1 := N7.cell 1 rfl; have m0 := G7.cell 0 rfl; have m1 := G7.cell 1 rfl; have FG := G7.frozen; have G7 := hide G7; clear ho7 hg7 hb7 k7 N6 G6 Q6 B6 O6 P6 hw6; obtain ⟨w8, hw8⟩ : ∃ y, (w7.setCell ⟨nb, 0, none⟩ (Value.slice pa2 s.1.length pc2)).setCell ⟨nb, 1, none⟩ (Value.slice qa2 s.2.1.length qc2) = y := ⟨_, rfl⟩))
              have k8 : Kp w7 w8 (fun j => j = nb) := hw8 ▸ (set_kp w7 _ 0 _).trans (set_kp _ _ 1 _)
              have G8 : Loc w8 nb #[(Value.slice pa2 s.1.length pc2), (Value.slice qa2 s.2.1.length qc2)] := hw8 ▸ ((unhide G7).set 0 _ rfl).set 1 _ rfl
              have tb : ∀ j, v7.ownBlock = some j → j < wr.heap.size ∨ w6.heap.size ≤ j := fun j hj => by
                rcases unhide HB7 with e | e
                · rw [e] at hj; exact .inl (tp j hj).2
                · rw [e] at hj; cases hj; exact .inr (Nat.le_refl _)
              have nb7 : ∀ j, v7.ownBlock = some j → j ≠ nb := fun j hj => by
                rcases unhide HB7 with e | e
                · rw [e] at hj; exact np j hj
                · rw [e] at hj; cases hj; omega
              have Q8 : RI w8 (Value.slice pa2 s.1.length pc2) s.1 ∧ RI w8 (Value.slice qa2 s.2.1.length qc2) s.2.1 := ⟨(unhide Q7).1.kp k8 (fun j hj e => by have := tu j hj; omega), (unhide Q7).2.kp k8 (fun j hj e => by have := tv j hj; omega)⟩
              have O8 := (unhide O7).kp k8 (fun j hj e => nb7 j hj e)
              have B8 := Below.kp (unhide B7) k8 (unhide B7).size (fun j e => by omega)
              have z8 := k8.size
              clear hw8
              go_roundw
              case rel =>
                refine ⟨k + 1, (Value.slice pa2 s.1.length pc2), (Value.slice qa2 s.2.1.length qc2), by omega, by go_num, ?_⟩
                rw [unhide SUC]
                exact ⟨O8, G8, Q8.1, Q8.2, ⟨fun j hj e => by have := tb j hj; have := tu j e; omega, fun j hj e => by have := tb j hj; have := tv j e; omega⟩, nb7, ⟨fun e => by have := tu _ e; omega, fun e => by have := tv _ e; omega⟩, by omega, B8⟩
              case measure => simp [intOf]; omega
            · have hcode := h4
              have hcode0 : (s.2.2 == 0) = false := by simp [h4]
              go_wp2_with (first | (at_builtin; refine append_piece rfl _ _ rfl w.heap.size (.slice pa r.2.length pc) (.slice (some ⟨w5.heap.size, 0, none⟩) 1 1) r.2 [(xa, xb, xc, xd)] rfl rfl (unhide O6) (unhide P6) (by simp; omega) (by omega) ?_; intro v7 w7 ho7 hg7 hb7; have k7 := kp_grown hg7; have O7 := hide ho7; have HB7 := hide hb7; have N7 := (unhide N6).kp k7 (fun e => by have := tp _ e; omega); have G7 := (unhide G6).kp k7 (fun e => by have := np _ e; omega); have Q7 := hide (show RI w7 (Value.slice pa2 s.1.length pc2) s.1 ∧ RI w7 (Value.slice qa2 s.2.1.length qc2) s.2.1 from ⟨(unhide Q6).1.kp k7 (fun j hj e => by have := tu j hj; have := tp _ e; omega), (unhide Q6).2.kp k7 (fun j hj e => by have := tv j hj; have := tp _ e; omega)⟩); have B7 := hide (Below.kp (unhide B6) k7 (unhide B6).size (fun j e => (tp j e).1)); have z7 := k7.size; have n0 := N7.cell 0 rfl; have n1 := N7.cell 1 rfl; have m0 := G7.cell 0 rfl; have m1 := G7.cell 1 rfl; have FG := G7.frozen; have G7 := hide G7; clear ho7 hg7 hb7 k7 N6 G6 Q6 B6 O6 P6 hw6; obtain ⟨w8, hw8⟩ : ∃ y, (w7.setCell ⟨nb, 0, none⟩ (Value.slice pa2 s.1.length pc2)).setCell ⟨nb, 1, none⟩ (Value.slice qa2 s.2.1.length qc2) = y := ⟨_, rfl⟩))
              have k8 : Kp w7 w8 (fun j => j = nb) := hw8 ▸ (set_kp w7 _ 0 _).trans (set_kp _ _ 1 _)
              have G8 : Loc w8 nb #[(Value.slice pa2 s.1.length pc2), (Value.slice qa2 s.2.1.length qc2)] := hw8 ▸ ((unhide G7).set 0 _ rfl).set 1 _ rfl
              have tb : ∀ j, v7.ownBlock = some j → j < wr.heap.size ∨ w6.heap.size ≤ j := fun j hj => by
                rcases unhide HB7 with e | e
                · rw [e] at hj; exact .inl (tp j hj).2
                · rw [e] at hj; cases hj; exact .inr (Nat.le_refl _)
              have nb7 : ∀ j, v7.ownBlock = some j → j ≠ nb := fun j hj => by
                rcases unhide HB7 with e | e
                · rw [e] at hj; exact np j hj
                · rw [e] at hj; cases hj; omega
              have Q8 : RI w8 (Value.slice pa2 s.1.length pc2) s.1 ∧ RI w8 (Value.slice qa2 s.2.1.length qc2) s.2.1 := ⟨(unhide Q7).1.kp k8 (fun j hj e => by have := tu j hj; omega), (unhide Q7).2.kp k8 (fun j hj e => by have := tv j hj; omega)⟩
              have O8 := (unhide O7).kp k8 (fun j hj e => nb7 j hj e)
              have B8 := Below.kp (unhide B7) k8 (unhide B7).size (fun j e => by omega)
              have z8 := k8.size
              clear hw8
              go_roundw
              case rel =>
                refine ⟨k + 1, (Value.slice pa2 s.1.length pc2), (Value.slice qa2 s.2.1.length qc2), by omega, by go_num, ?_⟩
                rw [unhide SUC]
                exact ⟨O8, G8, Q8.1, Q8.2, ⟨fun j hj e => by have := tb j hj; have := tu j e; omega, fun j hj e => by have := tb j hj; have := tv j e; omega⟩, nb7, ⟨fun e => by have := tu _ e; omega, fun e => by have := tv _ e; omega⟩, by omega, B8⟩
              case measure => simp [intOf]; omega
          · have h0 : (s.2.2 == 0) = false := by simpa using fun h => hT (Or.inl h)
            have h4 : (s.2.2 == 4) = false := by simpa using fun h => hT (Or.inr h)
            have SUC := hide (show takeRun xs ys (ts.take (k + 1)) = ((r.1.1, r.1.2), r.2) by have := unhide SUC; rw [if_neg hT, (unhide SAME hT).1, (unhide SAME hT).2] at this; exact this)
            have O5 := hide O5
            have ru5 := hide ru5
            have rv5 := hide rv5
            clear hT P5 Q5 N5 ru rv
            go_wp2
            go_roundw
            case rel =>
              refine ⟨k + 1, (.slice fa r.1.1.length fc), (.slice ha r.1.2.length hc), by omega, by go_num, ?_⟩
              rw [unhide SUC]
              exact ⟨unhide O5, G5, unhide ru5, unhide rv5, ⟨nu, nv⟩, np, ⟨mu, mv⟩, by omega, B5⟩
            case measure => simp [intOf]; omega
        · go_simp
          obtain ⟨wl3, hwl3⟩ : ∃ x, wd.alloc (.cells #[.slice none 0 0, .slice none 0 0] 42) = x := ⟨_, rfl⟩
          have cbl4 : Below wd.heap.size wd wl3 := hwl3 ▸ (Below.refl _ _).alloc (Nat.le_refl _) _
          have bl4 : Below wr.heap.size wr wl3 := bd.trans (cbl4.mono bd.size)
          have zzwl3 : wd.heap.size < wl3.heap.size := by rw [← hwl3]; simp
          have lg : Loc wl3 wd.heap.size #[.slice none 0 0, .slice none 0 0] := hwl3 ▸ loc_at wd _ _ rfl
          rw [hwl3]
          clear hHeld hwl3
          refine hKK.out _ _ (unhide K _ bl4) (fun hHeld => ?_)
          clear hKK KK
          refine ready_at (i := 5) rfl (by kernel_rfl) (fun KK hKK => ?_)
          go_simp
          refine (unhide SP _ (unhide RX _ bl4)).mono ?_
          rintro _ wc7 ⟨up, vp, rfl, olp, bnew⟩
          obtain ⟨pa2, pc2, rfl⟩ := olp.has.form
          obtain ⟨qa2, qc2, rfl⟩ := olp.next.form
          have cbc8 := bnew
          have bc8 : Below wr.heap.size wr wc7 := bl4.trans (bnew.mono bl4.size)
          have zzwc7 := bnew.size
          have lg := lg.below bnew lg.lt
          clear hHeld bnew
          refine hKK.out _ _ (unhide K _ bc8) (fun hHeld => ?_)
          clear hKK KK
          refine take_at (i := 6) (d := 24) (v := ?_) rfl rfl (by kernel_rfl) (by kernel_rfl) (by kernel_rfl) (fun _ _ _ h => h) (Or.inl ⟨by rfl, ?_⟩) (by assumption) ?_
          rotate_left
          · intro w hSw
            try dsimp only at hSw
            go_simp
            try with_reducible rfl
          simp only [Act.put, List.setIfInBounds_toArray, List.set_cons_zero, List.set_cons_succ]
          refine take_at (i := 7) (d := 31) (v := ?_) rfl rfl (by kernel_rfl) (by kernel_rfl) (by kernel_rfl) (fun _ _ _ h => h) (Or.inl ⟨by rfl, ?_⟩) (by assumption) ?_
          rotate_left
          · intro w hSw
            try dsimp only at hSw
            go_simp
            try with_reducible rfl
          simp only [Act.put, List.setIfInBounds_toArray, List.set_cons_zero, List.set_cons_succ]
          refine take_at (i := 8) (d := 32) (v := ?_) rfl rfl (by kernel_rfl) (by kernel_rfl) (by kernel_rfl) (fun _ _ _ h => h) (Or.inl ⟨by rfl, ?_⟩) (by assumption) ?_
          rotate_left
          · intro w hSw
            try dsimp only at hSw
            go_simp
            try with_reducible rfl
          simp only [Act.put, List.setIfInBounds_toArray, List.set_cons_zero, List.set_cons_succ]
          have q0 := lg.cell 0 rfl
          have q1 := lg.cell 1 rfl
          have FG := lg.frozen
          refine ready_at (i := 10) rfl (by kernel_rfl) (fun KK hKK => ?_)
          go_simp
          have bs : Below wr.heap.size wr ((wc7.setCell ⟨wd.heap.size, 0, none⟩ (.slice pa2 s.1.length pc2)).setCell ⟨wd.heap.size, 1, none⟩ (.slice qa2 s.2.1.length qc2)) := Below.set (Below.set bc8 _ _ (by omega)) _ _ (by omega)
          clear hHeld
          refine hKK.out _ _ (unhide K _ bs) (fun hHeld => ?_)
          clear hKK KK
          refine take_at (i := 11) (d := 9) (v := ?_) rfl rfl (by kernel_rfl) (by kernel_rfl) (by kernel_rfl) (fun _ _ _ h => h) (Or.inl ⟨by rfl, ?_⟩) (by assumption) ?_
          rotate_left
          · intro w hSw
            try dsimp only at hSw
            go_simp
            try with_reducible rfl
          simp only [Act.put, List.setIfInBounds_toArray, List.set_cons_zero, List.set_cons_succ]
          clear hHeld
          refine wpAnyH_done (by kernel_rfl) ?_ _
          refine NoPanic.normal ?_
          have kk : Kp wc7 ((wc7.setCell ⟨wd.heap.size, 0, none⟩ (.slice pa2 s.1.length pc2)).setCell ⟨wd.heap.size, 1, none⟩ (.slice qa2 s.2.1.length qc2)) (fun k => k = wd.heap.size) := (set_kp wc7 _ 0 _).trans (set_kp _ _ 1 _)
          have N5 : Loc ((wc7.setCell ⟨wd.heap.size, 0, none⟩ (.slice pa2 s.1.length pc2)).setCell ⟨wd.heap.size, 1, none⟩ (.slice qa2 s.2.1.length qc2)) wd.heap.size #[(Value.slice pa2 s.1.length pc2), (Value.slice qa2 s.2.1.length qc2)] := (lg.set 0 _ rfl).set 1 _ rfl
          have P5 := olp.kp kk (fun k h1 h2 e => by omega)
          obtain ⟨w5, hw5⟩ : ∃ x, ((wc7.setCell ⟨wd.heap.size, 0, none⟩ (.slice pa2 s.1.length pc2)).setCell ⟨wd.heap.size, 1, none⟩ (.slice qa2 s.2.1.length qc2)) = x := ⟨_, rfl⟩
          rw [hw5] at N5 P5 bs ⊢
          have tu : ∀ j, (Value.slice pa2 s.1.length pc2).ownBlock = some j → wr.heap.size ≤ j ∧ j < w5.heap.size := fun j hj => by have := World.ownsRow.lt P5.has j hj; omega
          have tv : ∀ j, (Value.slice qa2 s.2.1.length qc2).ownBlock = some j → wr.heap.size ≤ j ∧ j < w5.heap.size := fun j hj => by have := World.ownsRow.lt P5.next j hj; omega
          have G5 := G.below bs G.lt
          have B5 := B.trans (bs.mono B.size)
          have O5 := (unhide op).below bs
          have sz5 := bs.size
          have ru5 := ru.below bs (Nat.le_refl _)
          have rv5 := rv.below bs (Nat.le_refl _)
          have Q5 := hide (P5.ri (unhide HS1).1 (unhide HS1).2)
          have gg : wd.heap.size ≠ nb := by omega
          have gw : wr.heap.size ≤ wd.heap.size := by omega
          clear hw5 kk lg q0 q1 FG
          by_cases hT : Took s
          · have SUC := hide (show takeRun xs ys (ts.take (k + 1)) = ((s.1, s.2.1), r.2 ++ [(xa, xb, xc, xd)]) by have := unhide SUC; rwa [if_pos hT] at this)
            obtain ⟨w6, hw6⟩ : ∃ y, w5.alloc (.cells #[.int .i64 xa, .int .i64 xb, .int .i64 xc, .int .i64 xd] 33) = y := ⟨_, rfl⟩
            have b6 : Below w5.heap.size w5 w6 := hw6 ▸ (Below.refl _ _).alloc (Nat.le_refl _) _
            have z6 : w6.heap.size = w5.heap.size + 1 := by rw [← hw6]; simp
            have P6 : Hid (PT w6 (.slice (some ⟨w5.heap.size, 0, none⟩) 1 1) [(xa, xb, xc, xd)]) := hide (hw6 ▸ OT.pt (base := 0) (World.ownsRow_lit w5 #[.int .i64 xa, .int .i64 xb, .int .i64 xc, .int .i64 xd] 1 (Nat.zero_le _) (by unfold maxLen; omega) rfl))
            have O6 := hide (O5.below b6)
            have N6 := hide (N5.below b6 N5.lt)
            have G6 := hide (G5.below b6 G5.lt)
            have B6 := hide (B5.trans (b6.mono B5.size))
            have Q6 := hide (show RI w6 (Value.slice pa2 s.1.length pc2) s.1 ∧ RI w6 (Value.slice qa2 s.2.1.length qc2) s.2.1 from ⟨(unhide Q5).1.below b6 (Nat.le_refl _), (unhide Q5).2.below b6 (Nat.le_refl _)⟩)
            obtain ⟨c0, c1, c2, c3⟩ := (unhide HX w5 bs)
            clear G5 N5 O5 Q5 P5 B5 ru5 rv5 bs ru rv
            rcases hT with h0 | h4
            · have hcode := h0
              go_wp2_with (first | (at_builtin; refine append_piece rfl _ _ rfl w.heap.size (.slice pa r.2.length pc) (.slice (some ⟨w5.heap.size, 0, none⟩) 1 1) r.2 [(xa, xb, xc, xd)] rfl rfl (unhide O6) (unhide P6) (by simp; omega) (by omega) ?_; intro v7 w7 ho7 hg7 hb7; have k7 := kp_grown hg7; have O7 := hide ho7; have HB7 := hide hb7; have N7 := (unhide N6).kp k7 (fun e => by have := tp _ e; omega); have G7 := (unhide G6).kp k7 (fun e => by have := np _ e; omega); have Q7 := hide (show RI w7 (Value.slice pa2 s.1.length pc2) s.1 ∧ RI w7 (Value.slice qa2 s.2.1.length qc2) s.2.1 from ⟨(unhide Q6).1.kp k7 (fun j hj e => by have := tu j hj; have := tp _ e; omega), (unhide Q6).2.kp k7 (fun j hj e => by have := tv j hj; have := tp _ e; omega)⟩); have B7 := hide (Below.kp (unhide B6) k7 (unhide B6).size (fun j e => (tp j e).1)); have z7 := k7.size; have n0 := N7.cell 0 rfl; have n1 := N7.cell 1 rfl; have m0 := G7.cell 0 rfl; have m1 := G7.cell 1 rfl; have FG := G7.frozen; have G7 := hide G7; clear ho7 hg7 hb7 k7 N6 G6 Q6 B6 O6 P6 hw6; obtain ⟨w8, hw8⟩ : ∃ y, (w7.setCell ⟨nb, 0, none⟩ (Value.slice pa2 s.1.length pc2)).setCell ⟨nb, 1, none⟩ (Value.slice qa2 s.2.1.length qc2) = y := ⟨_, rfl⟩))
              have k8 : Kp w7 w8 (fun j => j = nb) := hw8 ▸ (set_kp w7 _ 0 _).trans (set_kp _ _ 1 _)
              have G8 : Loc w8 nb #[(Value.slice pa2 s.1.length pc2), (Value.slice qa2 s.2.1.length qc2)] := hw8 ▸ ((unhide G7).set 0 _ rfl).set 1 _ rfl
              have tb : ∀ j, v7.ownBlock = some j → j < wr.heap.size ∨ w6.heap.size ≤ j := fun j hj => by
                rcases unhide HB7 with e | e
                · rw [e] at hj; exact .inl (tp j hj).2
                · rw [e] at hj; cases hj; exact .inr (Nat.le_refl _)
              have nb7 : ∀ j, v7.ownBlock = some j → j ≠ nb := fun j hj => by
                rcases unhide HB7 with e | e
                · rw [e] at hj; exact np j hj
                · rw [e] at hj; cases hj; omega
              have Q8 : RI w8 (Value.slice pa2 s.1.length pc2) s.1 ∧ RI w8 (Value.slice qa2 s.2.1.length qc2) s.2.1 := ⟨(unhide Q7).1.kp k8 (fun j hj e => by have := tu j hj; omega), (unhide Q7).2.kp k8 (fun j hj e => by have := tv j hj; omega)⟩
              have O8 := (unhide O7).kp k8 (fun j hj e => nb7 j hj e)
              have B8 := Below.kp (unhide B7) k8 (unhide B7).size (fun j e => by omega)
              have z8 := k8.size
              clear hw8
              go_roundw
              case rel =>
                refine ⟨k + 1, (Value.slice pa2 s.1.length pc2), (Value.slice qa2 s.2.1.length qc2), by omega, by go_num, ?_⟩
                rw [unhide SUC]
                exact ⟨O8, G8, Q8.1, Q8.2, ⟨fun j hj e => by have := tb j hj; have := tu j e; omega, fun j hj e => by have := tb j hj; have := tv j e; omega⟩, nb7, ⟨fun e => by have := tu _ e; omega, fun e => by have := tv _ e; omega⟩, by omega, B8⟩
              case measure => simp [intOf]; omega
            · have hcode := h4
              have hcode0 : (s.2.2 == 0) = false := by simp [h4]
              go_wp2_with (first | (at_builtin; refine append_piece rfl _ _ rfl w.heap.size (.slice pa r.2.length pc) (.slice (some ⟨w5.heap.size, 0, none⟩) 1 1) r.2 [(xa, xb, xc, xd)] rfl rfl (unhide O6) (unhide P6) (by simp; omega) (by omega) ?_; intro v7 w7 ho7 hg7 hb7; have k7 := kp_grown hg7; have O7 := hide ho7; have HB7 := hide hb7; have N7 := (unhide N6).kp k7 (fun e => by have := tp _ e; omega); have G7 := (unhide G6).kp k7 (fun e => by have := np _ e; omega); have Q7 := hide (show RI w7 (Value.slice pa2 s.1.length pc2) s.1 ∧ RI w7 (Value.slice qa2 s.2.1.length qc2) s.2.1 from ⟨(unhide Q6).1.kp k7 (fun j hj e => by have := tu j hj; have := tp _ e; omega), (unhide Q6).2.kp k7 (fun j hj e => by have := tv j hj; have := tp _ e; omega)⟩); have B7 := hide (Below.kp (unhide B6) k7 (unhide B6).size (fun j e => (tp j e).1)); have z7 := k7.size; have n0 := N7.cell 0 rfl; have n1 := N7.cell 1 rfl; have m0 := G7.cell 0 rfl; have m1 := G7.cell 1 rfl; have FG := G7.frozen; have G7 := hide G7; clear ho7 hg7 hb7 k7 N6 G6 Q6 B6 O6 P6 hw6; obtain ⟨w8, hw8⟩ : ∃ y, (w7.setCell ⟨nb, 0, none⟩ (Value.slice pa2 s.1.length pc2)).setCell ⟨nb, 1, none⟩ (Value.slice qa2 s.2.1.length qc2) = y := ⟨_, rfl⟩))
              have k8 : Kp w7 w8 (fun j => j = nb) := hw8 ▸ (set_kp w7 _ 0 _).trans (set_kp _ _ 1 _)
              have G8 : Loc w8 nb #[(Value.slice pa2 s.1.length pc2), (Value.slice qa2 s.2.1.length qc2)] := hw8 ▸ ((unhide G7).set 0 _ rfl).set 1 _ rfl
              have tb : ∀ j, v7.ownBlock = some j → j < wr.heap.size ∨ w6.heap.size ≤ j := fun j hj => by
                rcases unhide HB7 with e | e
                · rw [e] at hj; exact .inl (tp j hj).2
                · rw [e] at hj; cases hj; exact .inr (Nat.le_refl _)
              have nb7 : ∀ j, v7.ownBlock = some j → j ≠ nb := fun j hj => by
                rcases unhide HB7 with e | e
                · rw [e] at hj; exact np j hj
                · rw [e] at hj; cases hj; omega
              have Q8 : RI w8 (Value.slice pa2 s.1.length pc2) s.1 ∧ RI w8 (Value.slice qa2 s.2.1.length qc2) s.2.1 := ⟨(unhide Q7).1.kp k8 (fun j hj e => by have := tu j hj; omega), (unhide Q7).2.kp k8 (fun j hj e => by have := tv j hj; omega)⟩
              have O8 := (unhide O7).kp k8 (fun j hj e => nb7 j hj e)
              have B8 := Below.kp (unhide B7) k8 (unhide B7).size (fun j e => by omega)
              have z8 := k8.size
              clear hw8
              go_roundw
              case rel =>
                refine ⟨k + 1, (Value.slice pa2 s.1.length pc2), (Value.slice qa2 s.2.1.length qc2), by omega, by go_num, ?_⟩
                rw [unhide SUC]
                exact ⟨O8, G8, Q8.1, Q8.2, ⟨fun j hj e => by have := tb j hj; have := tu j e; omega, fun j hj e => by have := tb j hj; have := tv j e; omega⟩, nb7, ⟨fun e => by have := tu _ e; omega, fun e => by have := tv _ e; omega⟩, by omega, B8⟩
              case measure => simp [intOf]; omega
          · have h0 : (s.2.2 == 0) = false := by simpa using fun h => hT (Or.inl h)
            have h4 : (s.2.2 == 4) = false := by simpa using fun h => hT (Or.inr h)
            have SUC := hide (show takeRun xs ys (ts.take (k + 1)) = ((r.1.1, r.1.2), r.2) by have := unhide SUC; rw [if_neg hT, (unhide SAME hT).1, (unhide SAME hT).2] at this; exact this)
            have O5 := hide O5
            have ru5 := hide ru5
            have rv5 := hide rv5
            clear hT P5 Q5 N5 ru rv
            go_wp2
            go_roundw
            case rel =>
              refine ⟨k + 1, (.slice fa r.1.1.length fc), (.slice ha r.1.2.length hc), by omega, by go_num, ?_⟩
              rw [unhide SUC]
              exact ⟨unhide O5, G5, unhide ru5, unhide rv5, ⟨nu, nv⟩, np, ⟨mu, mv⟩, by omega, B5⟩
            case measure => simp [intOf]; omega
    · have e1 : ts.take k = ts := List.take_of_length_le (by rw [unhide Hn]; omega)
      have e2 : Hid (takeRun xs ys ts = takeRun xs ys (ts.take k)) := hide (by rw [e1])
      have hnd : decide ((k : Int) < (n : Int)) = false := by simp; omega
      have op := hide op
      clear ru rv LEN e1
      go_wp2
      go_ret
      exact ⟨_, rfl, by unfold takeAns; rw [unhide e2]; exact unhide op, B⟩
end Go.Proofs.Ythdehhenkgkkmaa
