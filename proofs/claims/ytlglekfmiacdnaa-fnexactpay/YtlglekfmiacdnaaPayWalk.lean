/- The walk of laws.FnExactPay. -/
import Derived.Test.YtlglekfmiacdnaaSpecPayAny
import Derived.Test.YtlglekfmiacdnaaTotalWalk
import Derived.Test.YtlglekfmiacdnaaMarkInts
import Derived.Test.YtlglekfmiacdnaaToTx
import Derived.Deep.DeepCutAuto
namespace Go.Proofs.Ytlglekfmiacdnaa
open Go.RowKit
set_option linter.unusedSectionVars false
variable [∀ (m a b c d : Int), Decidable (In4 m a b c d)]
variable [∀ (xs ys : List Int), Decidable (LOk xs ys)]
variable [∀ (a b c d : Int), Decidable (Ok4 a b c d)]

set_option maxHeartbeats 800000 in
set_option maxRecDepth 100000 in
theorem fnPay_long (ao bo : Option Addr) (n ca m cb : Nat) (a b c d : Int) (w : World) (h : 1048576 < n + m) (hn : n ≤ 9223372036854775807) (hm : m ≤ 9223372036854775807) :
    Calls Try.prog 8 #[lv (.slice ao n ca) (.slice bo m cb), txv a b c d] w fun e w' => e = .returned (.bool true) ∧ Below w.heap.size w w' := by
  have SZ : Hid (∀ w, Calls Try.prog 26 #[lv (.slice ao n ca) (.slice bo m cb), .int .i64 1048576] w fun e w' => e = .returned (.int .i64 (-1)) ∧ Below w.heap.size w w') := by
    refine hide fun w => ?_
    by_cases h0 : n ≤ 1048576
    · exact szLedger_no2 ao bo n ca m cb w h0 h hm
    · exact szLedger_no1 ao bo n ca m cb w (by omega) hn
  go_enter Try.func8, Try.ntmps8
  go_wp2_with fail
  refine (unhide SZ _).mono ?_
  rintro e w1 ⟨rfl, b1⟩
  go_wp2
  go_ret
  exact ⟨rfl, (((Below.refl w.heap.size w).alloc (Nat.le_refl _) _).alloc (by simp) _).trans (b1.mono (by simp; omega))⟩

set_option maxHeartbeats 32000000 in
set_option maxRecDepth 100000 in
theorem fnPay_short (ao bo : Option Addr) (ca cb : Nat) (xs ys : List Int) (a b c d : Int) (w : World) (h : xs.length + ys.length ≤ 1048576) (ha : AI w ao xs) (hb : AI w bo ys) :
    Calls Try.prog 8 #[lv (.slice ao xs.length ca) (.slice bo ys.length cb), txv a b c d] w fun e w' => e = .returned (.bool true) ∧ Below w.heap.size w w' := by
  have hd : decide ((1048576 : Int) - (xs.length : Int) - (ys.length : Int) < 0) = false := by simp; omega
  have SZ := hide fun w => szLedger_yes ao bo xs.length ca ys.length cb w h
  have RA : Hid (∀ w', Below w.heap.size w w' → RI w' (.slice ao xs.length ca) xs ∧ RI w' (.slice bo ys.length cb) ys) := hide fun w' hb' => ⟨(ha.ri ca (by omega)).below hb' (Nat.le_refl _), (hb.ri cb (by omega)).below hb' (Nat.le_refl _)⟩
  have hx : xs.length ≤ 4194304 := by omega
  have hy : ys.length ≤ 4194304 := by omega
  have SP := hide fun u v w h => specPay u v a b c d xs ys w h
  have IM := hide fun u v w h => implPay u v a b c d xs ys w h
  have hr := payAns_len (xs := xs) (ys := ys) (a := a) (b := b) (c := c) (d := d)
  obtain ⟨r, hrr⟩ : ∃ r, payAns xs ys a b c d = r := ⟨_, rfl⟩
  rw [hrr] at SP IM hr
  clear ha hb h hrr
  have rx : r.1.length ≤ 4194304 := by omega
  have ry : r.2.1.length ≤ 4194304 := by omega
  clear hr
  have TO := hide fun w h => toLedger_any (.slice ao xs.length ca) (.slice bo ys.length cb) xs ys w h
  obtain ⟨w0, hw0⟩ : ∃ w0, (w.alloc (.cells #[.slice ao xs.length ca, .slice bo ys.length cb] 43)).alloc (.cells (r4 a b c d) 49) = w0 := ⟨_, rfl⟩
  have B0 : Below w.heap.size w w0 := hw0 ▸ ((Below.refl w.heap.size w).alloc (Nat.le_refl _) _).alloc (by simp) _
  have L0 : Loc w0 w.heap.size #[.slice ao xs.length ca, .slice bo ys.length cb] := hw0 ▸ (loc_at w _ _ rfl).alloc _
  have X0 : Loc w0 (w.heap.size + 1) (r4 a b c d) := hw0 ▸ loc_at _ _ _ (by simp)
  have q0 := L0.cell 0 rfl
  have q1 := L0.cell 1 rfl
  go_enter Try.func8, Try.ntmps8
  go_wp2_with fail
  clear hw0 q0 q1
  refine (unhide SZ _).mono ?_
  rintro _ w1 ⟨rfl, b1⟩
  have Bw1 := B0.trans (b1.mono B0.size)
  have Lw1 := L0.below b1 L0.lt
  have Xw1 := X0.below b1 X0.lt
  have sw := Xw1.lt
  clear SZ b1 B0 L0 X0
  go_upto_region 5 with fail
  go_cut [6, 7] (fun p c wx => ∃ g u v lo hi, p = .pointer (some ⟨g, 0, none⟩) ∧ c = .int .i64 r.2.2 ∧ Loc wx g #[u, v] ∧ OL wx lo hi u v r.1 r.2.1 ∧ (g < lo ∨ hi ≤ g) ∧ (w1.heap.size ≤ lo ∧ hi ≤ wx.heap.size ∧ w1.heap.size ≤ g) ∧ Below w1.heap.size w1 wx)
  case first =>
    have BW := Bw1
    have K : Hid (∀ w', Below w1.heap.size w1 w' → (w'.cell? ⟨w.heap.size, 0, none⟩ = some (.slice ao xs.length ca) ∧ w'.cell? ⟨w.heap.size, 1, none⟩ = some (.slice bo ys.length cb)) ∧ ((w'.cell? ⟨w.heap.size + 1, 0, none⟩ = some (.int .i64 a) ∧ w'.cell? ⟨w.heap.size + 1, 1, none⟩ = some (.int .i64 b)) ∧ (w'.cell? ⟨w.heap.size + 1, 2, none⟩ = some (.int .i64 c) ∧ w'.cell? ⟨w.heap.size + 1, 3, none⟩ = some (.int .i64 d)))) := hide fun w' hb' => by
      have l := Lw1.below hb' Lw1.lt
      have x := Xw1.below hb' Xw1.lt
      exact ⟨⟨l.cell 0 rfl, l.cell 1 rfl⟩, ⟨⟨x.cell 0 rfl, x.cell 1 rfl⟩, ⟨x.cell 2 rfl, x.cell 3 rfl⟩⟩⟩
    refine wp_region_noPanic ?_
    refine wp_region_held_drew (S := (fun w' => (w'.cell? ⟨w.heap.size, 0, none⟩ = some (.slice ao xs.length ca) ∧ w'.cell? ⟨w.heap.size, 1, none⟩ = some (.slice bo ys.length cb)) ∧ ((w'.cell? ⟨w.heap.size + 1, 0, none⟩ = some (.int .i64 a) ∧ w'.cell? ⟨w.heap.size + 1, 1, none⟩ = some (.int .i64 b)) ∧ (w'.cell? ⟨w.heap.size + 1, 2, none⟩ = some (.int .i64 c) ∧ w'.cell? ⟨w.heap.size + 1, 3, none⟩ = some (.int .i64 d))))) (by kernel_rfl) (unhide K _ (Below.drew (Below.refl _ _))) (fun hHeld => ?_)
    obtain ⟨wd, hd⟩ : ∃ wd, w1.drew = wd := ⟨_, rfl⟩
    have bd : Below w1.heap.size w1 wd := hd ▸ Below.drew (Below.refl _ _)
    have szd := bd.size
    rw [hd] at hHeld ⊢
    clear hd
    refine take_at (i := 0) (d := 22) (v := ?_) rfl rfl (by kernel_rfl) (by kernel_rfl) (by kernel_rfl) (fun _ _ _ h => h) (Or.inl ⟨by rfl, ?_⟩) (by assumption) ?_
    rotate_left
    · intro w hSw
      try dsimp only at hSw
      go_simp
      try with_reducible rfl
    simp only [Act.put, List.setIfInBounds_toArray, List.set_cons_zero, List.set_cons_succ]
    refine take_at (i := 2) (d := 24) (v := ?_) rfl rfl (by kernel_rfl) (by kernel_rfl) (by kernel_rfl) (fun _ _ _ h => h) (Or.inl ⟨by rfl, ?_⟩) (by assumption) ?_
    rotate_left
    · intro w hSw
      try dsimp only at hSw
      go_simp
      try with_reducible rfl
    simp only [Act.put, List.setIfInBounds_toArray, List.set_cons_zero, List.set_cons_succ]
    refine wpAnyH_ready (rs := [1, 8]) (by kernel_rfl) (by simp) (AllReadyH.cons rfl (fun KK hKK => ?_) (AllReadyH.cons rfl (fun KK hKK => ?_) AllReadyH.nil))
    · go_simp
      refine (unhide TO _ (unhide RA _ (BW.trans (bd.mono BW.size)))).mono ?_
      rintro _ wc1 ⟨ul, vl, rfl, oll, bnew⟩
      have cbc2 := bnew
      have bc2 : Below w1.heap.size w1 wc1 := bd.trans (bnew.mono bd.size)
      have zzwc1 := bnew.size
      clear hHeld bnew
      refine hKK.out _ _ (unhide K _ bc2) (fun hHeld => ?_)
      clear hKK KK
      refine wpAnyH_ready (rs := [3, 8]) (by kernel_rfl) (by simp) (AllReadyH.cons rfl (fun KK hKK => ?_) (AllReadyH.cons rfl (fun KK hKK => ?_) AllReadyH.nil))
      · go_simp
        refine (toTx_any a b c d _).mono ?_
        rintro _ wc5 ⟨rfl, bnew⟩
        have cbc6 := bnew
        have bc6 : Below w1.heap.size w1 wc5 := bc2.trans (bnew.mono bc2.size)
        have zzwc5 := bnew.size
        have oll := oll.below bnew
        clear hHeld bnew
        refine hKK.out _ _ (unhide K _ bc6) (fun hHeld => ?_)
        clear hKK KK
        refine wpAnyH_ready (rs := [4, 8]) (by kernel_rfl) (by simp) (AllReadyH.cons rfl (fun KK hKK => ?_) (AllReadyH.cons rfl (fun KK hKK => ?_) AllReadyH.nil))
        · go_simp
          refine (unhide SP _ _ _ (oll.ri hx hy)).mono ?_
          rintro _ wc9 ⟨up, vp, rfl, olp, bnew⟩
          obtain ⟨pa, pc, rfl⟩ := olp.has.form
          obtain ⟨qa, qc, rfl⟩ := olp.next.form
          have cbc10 := bnew
          have bc10 : Below w1.heap.size w1 wc9 := bc6.trans (bnew.mono bc6.size)
          have zzwc9 := bnew.size
          have oll := oll.below bnew
          clear hHeld bnew
          refine hKK.out _ _ (unhide K _ bc10) (fun hHeld => ?_)
          clear hKK KK
          refine take_at (i := 5) (d := 21) (v := ?_) rfl rfl (by kernel_rfl) (by kernel_rfl) (by kernel_rfl) (fun _ _ _ h => h) (Or.inl ⟨by rfl, ?_⟩) (by assumption) ?_
          rotate_left
          · intro w hSw
            try dsimp only at hSw
            go_simp
            try with_reducible rfl
          simp only [Act.put, List.setIfInBounds_toArray, List.set_cons_zero, List.set_cons_succ]
          refine take_at (i := 6) (d := 27) (v := ?_) rfl rfl (by kernel_rfl) (by kernel_rfl) (by kernel_rfl) (fun _ _ _ h => h) (Or.inl ⟨by rfl, ?_⟩) (by assumption) ?_
          rotate_left
          · intro w hSw
            try dsimp only at hSw
            go_simp
            try with_reducible rfl
          simp only [Act.put, List.setIfInBounds_toArray, List.set_cons_zero, List.set_cons_succ]
          refine take_at (i := 7) (d := 28) (v := ?_) rfl rfl (by kernel_rfl) (by kernel_rfl) (by kernel_rfl) (fun _ _ _ h => h) (Or.inl ⟨by rfl, ?_⟩) (by assumption) ?_
          rotate_left
          · intro w hSw
            try dsimp only at hSw
            go_simp
            try with_reducible rfl
          simp only [Act.put, List.setIfInBounds_toArray, List.set_cons_zero, List.set_cons_succ]
          refine ready_at (i := 8) rfl (by kernel_rfl) (fun KK hKK => ?_)
          go_simp
          obtain ⟨wl13, hwl13⟩ : ∃ x, wc9.alloc (.cells #[.slice none 0 0, .slice none 0 0] 26) = x := ⟨_, rfl⟩
          have cbl14 : Below wc9.heap.size wc9 wl13 := hwl13 ▸ (Below.refl _ _).alloc (Nat.le_refl _) _
          have bl14 : Below w1.heap.size w1 wl13 := bc10.trans (cbl14.mono bc10.size)
          have zzwl13 : wc9.heap.size < wl13.heap.size := by rw [← hwl13]; simp
          have lg : Loc wl13 wc9.heap.size #[.slice none 0 0, .slice none 0 0] := hwl13 ▸ loc_at wc9 _ _ rfl
          have oll := oll.below cbl14
          have olp := olp.below cbl14
          rw [hwl13]
          clear hHeld hwl13
          refine hKK.out _ _ (unhide K _ bl14) (fun hHeld => ?_)
          clear hKK KK
          have q0 := lg.cell 0 rfl
          have q1 := lg.cell 1 rfl
          have FG := lg.frozen
          refine ready_at (i := 9) rfl (by kernel_rfl) (fun KK hKK => ?_)
          go_simp
          have bs : Below w1.heap.size w1 ((wl13.setCell ⟨wc9.heap.size, 0, none⟩ (.slice pa r.1.length pc)).setCell ⟨wc9.heap.size, 1, none⟩ (.slice qa r.2.1.length qc)) := Below.set (Below.set bl14 _ _ (by omega)) _ _ (by omega)
          clear hHeld
          refine hKK.out _ _ (unhide K _ bs) (fun hHeld => ?_)
          clear hKK KK
          refine take_at (i := 10) (d := 7) (v := ?_) rfl rfl (by kernel_rfl) (by kernel_rfl) (by kernel_rfl) (fun _ _ _ h => h) (Or.inl ⟨by rfl, ?_⟩) (by assumption) ?_
          rotate_left
          · intro w hSw
            try dsimp only at hSw
            go_simp
            try with_reducible rfl
          simp only [Act.put, List.setIfInBounds_toArray, List.set_cons_zero, List.set_cons_succ]
          clear hHeld
          refine wpAnyH_done (by kernel_rfl) ?_ _
          refine NoPanic.normal ?_
          go_wp2_with fail
          go_meet
          have kk : Kp wl13 ((wl13.setCell ⟨wc9.heap.size, 0, none⟩ (.slice pa r.1.length pc)).setCell ⟨wc9.heap.size, 1, none⟩ (.slice qa r.2.1.length qc)) (fun k => k = wc9.heap.size) := (set_kp wl13 _ 0 _).trans (set_kp _ _ 1 _)
          exact ⟨_, _, _, _, _, rfl, rfl, (lg.set 0 _ rfl).set 1 _ rfl, olp.kp kk (fun k h1 h2 e => by omega), by omega, ⟨by omega, by first | (simp; done) | (simp; omega), by omega⟩, bs⟩
        · go_simp
          obtain ⟨wl11, hwl11⟩ : ∃ x, wc5.alloc (.cells #[.slice none 0 0, .slice none 0 0] 26) = x := ⟨_, rfl⟩
          have cbl12 : Below wc5.heap.size wc5 wl11 := hwl11 ▸ (Below.refl _ _).alloc (Nat.le_refl _) _
          have bl12 : Below w1.heap.size w1 wl11 := bc6.trans (cbl12.mono bc6.size)
          have zzwl11 : wc5.heap.size < wl11.heap.size := by rw [← hwl11]; simp
          have lg : Loc wl11 wc5.heap.size #[.slice none 0 0, .slice none 0 0] := hwl11 ▸ loc_at wc5 _ _ rfl
          have oll := oll.below cbl12
          rw [hwl11]
          clear hHeld hwl11
          refine hKK.out _ _ (unhide K _ bl12) (fun hHeld => ?_)
          clear hKK KK
          refine ready_at (i := 4) rfl (by kernel_rfl) (fun KK hKK => ?_)
          go_simp
          refine (unhide SP _ _ _ (oll.ri hx hy)).mono ?_
          rintro _ wc15 ⟨up, vp, rfl, olp, bnew⟩
          obtain ⟨pa, pc, rfl⟩ := olp.has.form
          obtain ⟨qa, qc, rfl⟩ := olp.next.form
          have cbc16 := bnew
          have bc16 : Below w1.heap.size w1 wc15 := bl12.trans (bnew.mono bl12.size)
          have zzwc15 := bnew.size
          have oll := oll.below bnew
          have lg := lg.below bnew lg.lt
          clear hHeld bnew
          refine hKK.out _ _ (unhide K _ bc16) (fun hHeld => ?_)
          clear hKK KK
          refine take_at (i := 5) (d := 21) (v := ?_) rfl rfl (by kernel_rfl) (by kernel_rfl) (by kernel_rfl) (fun _ _ _ h => h) (Or.inl ⟨by rfl, ?_⟩) (by assumption) ?_
          rotate_left
          · intro w hSw
            try dsimp only at hSw
            go_simp
            try with_reducible rfl
          simp only [Act.put, List.setIfInBounds_toArray, List.set_cons_zero, List.set_cons_succ]
          refine take_at (i := 6) (d := 27) (v := ?_) rfl rfl (by kernel_rfl) (by kernel_rfl) (by kernel_rfl) (fun _ _ _ h => h) (Or.inl ⟨by rfl, ?_⟩) (by assumption) ?_
          rotate_left
          · intro w hSw
            try dsimp only at hSw
            go_simp
            try with_reducible rfl
          simp only [Act.put, List.setIfInBounds_toArray, List.set_cons_zero, List.set_cons_succ]
          refine take_at (i := 7) (d := 28) (v := ?_) rfl rfl (by kernel_rfl) (by kernel_rfl) (by kernel_rfl) (fun _ _ _ h => h) (Or.inl ⟨by rfl, ?_⟩) (by assumption) ?_
          rotate_left
          · intro w hSw
            try dsimp only at hSw
            go_simp
            try with_reducible rfl
          simp only [Act.put, List.setIfInBounds_toArray, List.set_cons_zero, List.set_cons_succ]
          have q0 := lg.cell 0 rfl
          have q1 := lg.cell 1 rfl
          have FG := lg.frozen
          refine ready_at (i := 9) rfl (by kernel_rfl) (fun KK hKK => ?_)
          go_simp
          have bs : Below w1.heap.size w1 ((wc15.setCell ⟨wc5.heap.size, 0, none⟩ (.slice pa r.1.length pc)).setCell ⟨wc5.heap.size, 1, none⟩ (.slice qa r.2.1.length qc)) := Below.set (Below.set bc16 _ _ (by omega)) _ _ (by omega)
          clear hHeld
          refine hKK.out _ _ (unhide K _ bs) (fun hHeld => ?_)
          clear hKK KK
          refine take_at (i := 10) (d := 7) (v := ?_) rfl rfl (by kernel_rfl) (by kernel_rfl) (by kernel_rfl) (fun _ _ _ h => h) (Or.inl ⟨by rfl, ?_⟩) (by assumption) ?_
          rotate_left
          · intro w hSw
            try dsimp only at hSw
            go_simp
            try with_reducible rfl
          simp only [Act.put, List.setIfInBounds_toArray, List.set_cons_zero, List.set_cons_succ]
          clear hHeld
          refine wpAnyH_done (by kernel_rfl) ?_ _
          refine NoPanic.normal ?_
          go_wp2_with fail
          go_meet
          have kk : Kp wc15 ((wc15.setCell ⟨wc5.heap.size, 0, none⟩ (.slice pa r.1.length pc)).setCell ⟨wc5.heap.size, 1, none⟩ (.slice qa r.2.1.length qc)) (fun k => k = wc5.heap.size) := (set_kp wc15 _ 0 _).trans (set_kp _ _ 1 _)
          exact ⟨_, _, _, _, _, rfl, rfl, (lg.set 0 _ rfl).set 1 _ rfl, olp.kp kk (fun k h1 h2 e => by omega), by omega, ⟨by omega, by first | (simp; done) | (simp; omega), by omega⟩, bs⟩
      · go_simp
        obtain ⟨wl7, hwl7⟩ : ∃ x, wc1.alloc (.cells #[.slice none 0 0, .slice none 0 0] 26) = x := ⟨_, rfl⟩
        have cbl8 : Below wc1.heap.size wc1 wl7 := hwl7 ▸ (Below.refl _ _).alloc (Nat.le_refl _) _
        have bl8 : Below w1.heap.size w1 wl7 := bc2.trans (cbl8.mono bc2.size)
        have zzwl7 : wc1.heap.size < wl7.heap.size := by rw [← hwl7]; simp
        have lg : Loc wl7 wc1.heap.size #[.slice none 0 0, .slice none 0 0] := hwl7 ▸ loc_at wc1 _ _ rfl
        have oll := oll.below cbl8
        rw [hwl7]
        clear hHeld hwl7
        refine hKK.out _ _ (unhide K _ bl8) (fun hHeld => ?_)
        clear hKK KK
        refine ready_at (i := 3) rfl (by kernel_rfl) (fun KK hKK => ?_)
        go_simp
        refine (toTx_any a b c d _).mono ?_
        rintro _ wc17 ⟨rfl, bnew⟩
        have cbc18 := bnew
        have bc18 : Below w1.heap.size w1 wc17 := bl8.trans (bnew.mono bl8.size)
        have zzwc17 := bnew.size
        have oll := oll.below bnew
        have lg := lg.below bnew lg.lt
        clear hHeld bnew
        refine hKK.out _ _ (unhide K _ bc18) (fun hHeld => ?_)
        clear hKK KK
        refine ready_at (i := 4) rfl (by kernel_rfl) (fun KK hKK => ?_)
        go_simp
        refine (unhide SP _ _ _ (oll.ri hx hy)).mono ?_
        rintro _ wc19 ⟨up, vp, rfl, olp, bnew⟩
        obtain ⟨pa, pc, rfl⟩ := olp.has.form
        obtain ⟨qa, qc, rfl⟩ := olp.next.form
        have cbc20 := bnew
        have bc20 : Below w1.heap.size w1 wc19 := bc18.trans (bnew.mono bc18.size)
        have zzwc19 := bnew.size
        have oll := oll.below bnew
        have lg := lg.below bnew lg.lt
        clear hHeld bnew
        refine hKK.out _ _ (unhide K _ bc20) (fun hHeld => ?_)
        clear hKK KK
        refine take_at (i := 5) (d := 21) (v := ?_) rfl rfl (by kernel_rfl) (by kernel_rfl) (by kernel_rfl) (fun _ _ _ h => h) (Or.inl ⟨by rfl, ?_⟩) (by assumption) ?_
        rotate_left
        · intro w hSw
          try dsimp only at hSw
          go_simp
          try with_reducible rfl
        simp only [Act.put, List.setIfInBounds_toArray, List.set_cons_zero, List.set_cons_succ]
        refine take_at (i := 6) (d := 27) (v := ?_) rfl rfl (by kernel_rfl) (by kernel_rfl) (by kernel_rfl) (fun _ _ _ h => h) (Or.inl ⟨by rfl, ?_⟩) (by assumption) ?_
        rotate_left
        · intro w hSw
          try dsimp only at hSw
          go_simp
          try with_reducible rfl
        simp only [Act.put, List.setIfInBounds_toArray, List.set_cons_zero, List.set_cons_succ]
        refine take_at (i := 7) (d := 28) (v := ?_) rfl rfl (by kernel_rfl) (by kernel_rfl) (by kernel_rfl) (fun _ _ _ h => h) (Or.inl ⟨by rfl, ?_⟩) (by assumption) ?_
        rotate_left
        · intro w hSw
          try dsimp only at hSw
          go_simp
          try with_reducible rfl
        simp only [Act.put, List.setIfInBounds_toArray, List.set_cons_zero, List.set_cons_succ]
        have q0 := lg.cell 0 rfl
        have q1 := lg.cell 1 rfl
        have FG := lg.frozen
        refine ready_at (i := 9) rfl (by kernel_rfl) (fun KK hKK => ?_)
        go_simp
        have bs : Below w1.heap.size w1 ((wc19.setCell ⟨wc1.heap.size, 0, none⟩ (.slice pa r.1.length pc)).setCell ⟨wc1.heap.size, 1, none⟩ (.slice qa r.2.1.length qc)) := Below.set (Below.set bc20 _ _ (by omega)) _ _ (by omega)
        clear hHeld
        refine hKK.out _ _ (unhide K _ bs) (fun hHeld => ?_)
        clear hKK KK
        refine take_at (i := 10) (d := 7) (v := ?_) rfl rfl (by kernel_rfl) (by kernel_rfl) (by kernel_rfl) (fun _ _ _ h => h) (Or.inl ⟨by rfl, ?_⟩) (by assumption) ?_
        rotate_left
        · intro w hSw
          try dsimp only at hSw
          go_simp
          try with_reducible rfl
        simp only [Act.put, List.setIfInBounds_toArray, List.set_cons_zero, List.set_cons_succ]
        clear hHeld
        refine wpAnyH_done (by kernel_rfl) ?_ _
        refine NoPanic.normal ?_
        go_wp2_with fail
        go_meet
        have kk : Kp wc19 ((wc19.setCell ⟨wc1.heap.size, 0, none⟩ (.slice pa r.1.length pc)).setCell ⟨wc1.heap.size, 1, none⟩ (.slice qa r.2.1.length qc)) (fun k => k = wc1.heap.size) := (set_kp wc19 _ 0 _).trans (set_kp _ _ 1 _)
        exact ⟨_, _, _, _, _, rfl, rfl, (lg.set 0 _ rfl).set 1 _ rfl, olp.kp kk (fun k h1 h2 e => by omega), by omega, ⟨by omega, by first | (simp; done) | (simp; omega), by omega⟩, bs⟩
    · go_simp
      obtain ⟨wl3, hwl3⟩ : ∃ x, wd.alloc (.cells #[.slice none 0 0, .slice none 0 0] 26) = x := ⟨_, rfl⟩
      have cbl4 : Below wd.heap.size wd wl3 := hwl3 ▸ (Below.refl _ _).alloc (Nat.le_refl _) _
      have bl4 : Below w1.heap.size w1 wl3 := bd.trans (cbl4.mono bd.size)
      have zzwl3 : wd.heap.size < wl3.heap.size := by rw [← hwl3]; simp
      have lg : Loc wl3 wd.heap.size #[.slice none 0 0, .slice none 0 0] := hwl3 ▸ loc_at wd _ _ rfl
      rw [hwl3]
      clear hHeld hwl3
      refine hKK.out _ _ (unhide K _ bl4) (fun hHeld => ?_)
      clear hKK KK
      refine ready_at (i := 1) rfl (by kernel_rfl) (fun KK hKK => ?_)
      go_simp
      refine (unhide TO _ (unhide RA _ (BW.trans (bl4.mono BW.size)))).mono ?_
      rintro _ wc21 ⟨ul, vl, rfl, oll, bnew⟩
      have cbc22 := bnew
      have bc22 : Below w1.heap.size w1 wc21 := bl4.trans (bnew.mono bl4.size)
      have zzwc21 := bnew.size
      have lg := lg.below bnew lg.lt
      clear hHeld bnew
      refine hKK.out _ _ (unhide K _ bc22) (fun hHeld => ?_)
      clear hKK KK
      refine ready_at (i := 3) rfl (by kernel_rfl) (fun KK hKK => ?_)
      go_simp
      refine (toTx_any a b c d _).mono ?_
      rintro _ wc23 ⟨rfl, bnew⟩
      have cbc24 := bnew
      have bc24 : Below w1.heap.size w1 wc23 := bc22.trans (bnew.mono bc22.size)
      have zzwc23 := bnew.size
      have oll := oll.below bnew
      have lg := lg.below bnew lg.lt
      clear hHeld bnew
      refine hKK.out _ _ (unhide K _ bc24) (fun hHeld => ?_)
      clear hKK KK
      refine ready_at (i := 4) rfl (by kernel_rfl) (fun KK hKK => ?_)
      go_simp
      refine (unhide SP _ _ _ (oll.ri hx hy)).mono ?_
      rintro _ wc25 ⟨up, vp, rfl, olp, bnew⟩
      obtain ⟨pa, pc, rfl⟩ := olp.has.form
      obtain ⟨qa, qc, rfl⟩ := olp.next.form
      have cbc26 := bnew
      have bc26 : Below w1.heap.size w1 wc25 := bc24.trans (bnew.mono bc24.size)
      have zzwc25 := bnew.size
      have oll := oll.below bnew
      have lg := lg.below bnew lg.lt
      clear hHeld bnew
      refine hKK.out _ _ (unhide K _ bc26) (fun hHeld => ?_)
      clear hKK KK
      refine take_at (i := 5) (d := 21) (v := ?_) rfl rfl (by kernel_rfl) (by kernel_rfl) (by kernel_rfl) (fun _ _ _ h => h) (Or.inl ⟨by rfl, ?_⟩) (by assumption) ?_
      rotate_left
      · intro w hSw
        try dsimp only at hSw
        go_simp
        try with_reducible rfl
      simp only [Act.put, List.setIfInBounds_toArray, List.set_cons_zero, List.set_cons_succ]
      refine take_at (i := 6) (d := 27) (v := ?_) rfl rfl (by kernel_rfl) (by kernel_rfl) (by kernel_rfl) (fun _ _ _ h => h) (Or.inl ⟨by rfl, ?_⟩) (by assumption) ?_
      rotate_left
      · intro w hSw
        try dsimp only at hSw
        go_simp
        try with_reducible rfl
      simp only [Act.put, List.setIfInBounds_toArray, List.set_cons_zero, List.set_cons_succ]
      refine take_at (i := 7) (d := 28) (v := ?_) rfl rfl (by kernel_rfl) (by kernel_rfl) (by kernel_rfl) (fun _ _ _ h => h) (Or.inl ⟨by rfl, ?_⟩) (by assumption) ?_
      rotate_left
      · intro w hSw
        try dsimp only at hSw
        go_simp
        try with_reducible rfl
      simp only [Act.put, List.setIfInBounds_toArray, List.set_cons_zero, List.set_cons_succ]
      have q0 := lg.cell 0 rfl
      have q1 := lg.cell 1 rfl
      have FG := lg.frozen
      refine ready_at (i := 9) rfl (by kernel_rfl) (fun KK hKK => ?_)
      go_simp
      have bs : Below w1.heap.size w1 ((wc25.setCell ⟨wd.heap.size, 0, none⟩ (.slice pa r.1.length pc)).setCell ⟨wd.heap.size, 1, none⟩ (.slice qa r.2.1.length qc)) := Below.set (Below.set bc26 _ _ (by omega)) _ _ (by omega)
      clear hHeld
      refine hKK.out _ _ (unhide K _ bs) (fun hHeld => ?_)
      clear hKK KK
      refine take_at (i := 10) (d := 7) (v := ?_) rfl rfl (by kernel_rfl) (by kernel_rfl) (by kernel_rfl) (fun _ _ _ h => h) (Or.inl ⟨by rfl, ?_⟩) (by assumption) ?_
      rotate_left
      · intro w hSw
        try dsimp only at hSw
        go_simp
        try with_reducible rfl
      simp only [Act.put, List.setIfInBounds_toArray, List.set_cons_zero, List.set_cons_succ]
      clear hHeld
      refine wpAnyH_done (by kernel_rfl) ?_ _
      refine NoPanic.normal ?_
      go_wp2_with fail
      go_meet
      have kk : Kp wc25 ((wc25.setCell ⟨wd.heap.size, 0, none⟩ (.slice pa r.1.length pc)).setCell ⟨wd.heap.size, 1, none⟩ (.slice qa r.2.1.length qc)) (fun k => k = wd.heap.size) := (set_kp wc25 _ 0 _).trans (set_kp _ _ 1 _)
      exact ⟨_, _, _, _, _, rfl, rfl, (lg.set 0 _ rfl).set 1 _ rfl, olp.kp kk (fun k h1 h2 e => by omega), by omega, ⟨by omega, by first | (simp; done) | (simp; omega), by omega⟩, bs⟩
  case rest =>
    obtain ⟨g5, uu, vv, lo5, hi5, rfl, rfl, W5, O5, d5, ⟨i5, j5, k5⟩, bq⟩ := hcut
    obtain ⟨q5, hq⟩ : ∃ q, wc = q := ⟨_, rfl⟩
    rw [hq] at W5 O5 j5 bq ⊢
    clear hq
    obtain ⟨ua5, uc5, rfl⟩ := O5.has.form
    obtain ⟨va5, vc5, rfl⟩ := O5.next.form
    have Bq5 := Bw1.trans (bq.mono Bw1.size)
    have lg5 := W5.lt
    have sq5 := bq.size
    have Lq5 := Lw1.below bq Lw1.lt
    have Xq5 := Xw1.below bq Xw1.lt
    have q0 := Lq5.cell 0 rfl
    have q1 := Lq5.cell 1 rfl
    clear bq Bw1 Lw1 Xw1 SP
    go_wp2_with fail
    refine (unhide TO _ (unhide RA _ Bq5)).mono ?_
    rintro _ w6 ⟨u6, v6, rfl, o6, b6⟩
    have s6 := b6.size
    obtain ⟨ua6, uc6, rfl⟩ := o6.has.form
    obtain ⟨va6, vc6, rfl⟩ := o6.next.form
    obtain ⟨w7, hw7⟩ : ∃ w7, w6.alloc (.cells #[.slice ua6 xs.length uc6, .slice va6 ys.length vc6] 26) = w7 := ⟨_, rfl⟩
    have b7 : Below q5.heap.size q5 w7 := hw7 ▸ b6.alloc b6.size _
    have Bw7 := Bq5.trans (b7.mono Bq5.size)
    have Lw7 := Lq5.below b7 Lq5.lt
    have Xw7 := Xq5.below b7 Xq5.lt
    have W5 := W5.below b7 W5.lt
    have O5 := O5.below b7
    have Gw7 : Loc w7 w6.heap.size #[.slice ua6 xs.length uc6, .slice va6 ys.length vc6] := hw7 ▸ loc_at w6 _ _ rfl
    have P7 : OL w7 q5.heap.size w6.heap.size (.slice ua6 xs.length uc6) (.slice va6 ys.length vc6) xs ys := hw7 ▸ o6.alloc _
    have RX := hide fun w' (hb : Below w7.heap.size w7 w') => (P7.below hb).ri hx hy
    have l7 := Gw7.lt
    clear b6 b7 o6 q0 q1 Bq5 Lq5 Xq5
    go_upto_region 7 with fail
    clear hw7
    go_cut [9, 10] (fun p c wx => ∃ g u v lo hi, p = .pointer (some ⟨g, 0, none⟩) ∧ c = .int .i64 r.2.2 ∧ Loc wx g #[u, v] ∧ OL wx lo hi u v r.1 r.2.1 ∧ (g < lo ∨ hi ≤ g) ∧ (w7.heap.size ≤ lo ∧ hi ≤ wx.heap.size ∧ w7.heap.size ≤ g) ∧ Below w7.heap.size w7 wx)
    case first =>
      have K : Hid (∀ w', Below w7.heap.size w7 w' → (w'.cell? ⟨w6.heap.size, 0, none⟩ = some (.slice ua6 xs.length uc6) ∧ w'.cell? ⟨w6.heap.size, 1, none⟩ = some (.slice va6 ys.length vc6)) ∧ ((w'.cell? ⟨w.heap.size + 1, 0, none⟩ = some (.int .i64 a) ∧ w'.cell? ⟨w.heap.size + 1, 1, none⟩ = some (.int .i64 b)) ∧ (w'.cell? ⟨w.heap.size + 1, 2, none⟩ = some (.int .i64 c) ∧ w'.cell? ⟨w.heap.size + 1, 3, none⟩ = some (.int .i64 d)))) := hide fun w' hb' => by
        have l := Gw7.below hb' Gw7.lt
        have x := Xw7.below hb' Xw7.lt
        exact ⟨⟨l.cell 0 rfl, l.cell 1 rfl⟩, ⟨⟨x.cell 0 rfl, x.cell 1 rfl⟩, ⟨x.cell 2 rfl, x.cell 3 rfl⟩⟩⟩
      refine wp_region_noPanic ?_
      refine wp_region_held_drew (S := (fun w' => (w'.cell? ⟨w6.heap.size, 0, none⟩ = some (.slice ua6 xs.length uc6) ∧ w'.cell? ⟨w6.heap.size, 1, none⟩ = some (.slice va6 ys.length vc6)) ∧ ((w'.cell? ⟨w.heap.size + 1, 0, none⟩ = some (.int .i64 a) ∧ w'.cell? ⟨w.heap.size + 1, 1, none⟩ = some (.int .i64 b)) ∧ (w'.cell? ⟨w.heap.size + 1, 2, none⟩ = some (.int .i64 c) ∧ w'.cell? ⟨w.heap.size + 1, 3, none⟩ = some (.int .i64 d))))) (by kernel_rfl) (unhide K _ (Below.drew (Below.refl _ _))) (fun hHeld => ?_)
      obtain ⟨wd, hd⟩ : ∃ wd, w7.drew = wd := ⟨_, rfl⟩
      have bd : Below w7.heap.size w7 wd := hd ▸ Below.drew (Below.refl _ _)
      have szd := bd.size
      rw [hd] at hHeld ⊢
      clear hd
      refine take_at (i := 0) (d := 32) (v := ?_) rfl rfl (by kernel_rfl) (by kernel_rfl) (by kernel_rfl) (fun _ _ _ h => h) (Or.inl ⟨by rfl, ?_⟩) (by assumption) ?_
      rotate_left
      · intro w hSw
        try dsimp only at hSw
        go_simp
        try with_reducible rfl
      simp only [Act.put, List.setIfInBounds_toArray, List.set_cons_zero, List.set_cons_succ]
      refine take_at (i := 1) (d := 33) (v := ?_) rfl rfl (by kernel_rfl) (by kernel_rfl) (by kernel_rfl) (fun _ _ _ h => h) (Or.inl ⟨by rfl, ?_⟩) (by assumption) ?_
      rotate_left
      · intro w hSw
        try dsimp only at hSw
        go_simp
        try with_reducible rfl
      simp only [Act.put, List.setIfInBounds_toArray, List.set_cons_zero, List.set_cons_succ]
      refine wpAnyH_ready (rs := [2, 7]) (by kernel_rfl) (by simp) (AllReadyH.cons rfl (fun KK hKK => ?_) (AllReadyH.cons rfl (fun KK hKK => ?_) AllReadyH.nil))
      · go_simp
        refine (toTx_any a b c d _).mono ?_
        rintro _ wc1 ⟨rfl, bnew⟩
        have cbc2 := bnew
        have bc2 : Below w7.heap.size w7 wc1 := bd.trans (bnew.mono bd.size)
        have zzwc1 := bnew.size
        clear hHeld bnew
        refine hKK.out _ _ (unhide K _ bc2) (fun hHeld => ?_)
        clear hKK KK
        refine wpAnyH_ready (rs := [3, 7]) (by kernel_rfl) (by simp) (AllReadyH.cons rfl (fun KK hKK => ?_) (AllReadyH.cons rfl (fun KK hKK => ?_) AllReadyH.nil))
        · go_simp
          refine (unhide IM _ _ _ (unhide RX _ bc2)).mono ?_
          rintro _ wc5 ⟨up, vp, rfl, olp, bnew⟩
          obtain ⟨pa, pc, rfl⟩ := olp.has.form
          obtain ⟨qa, qc, rfl⟩ := olp.next.form
          have cbc6 := bnew
          have bc6 : Below w7.heap.size w7 wc5 := bc2.trans (bnew.mono bc2.size)
          have zzwc5 := bnew.size
          clear hHeld bnew
          refine hKK.out _ _ (unhide K _ bc6) (fun hHeld => ?_)
          clear hKK KK
          refine take_at (i := 4) (d := 31) (v := ?_) rfl rfl (by kernel_rfl) (by kernel_rfl) (by kernel_rfl) (fun _ _ _ h => h) (Or.inl ⟨by rfl, ?_⟩) (by assumption) ?_
          rotate_left
          · intro w hSw
            try dsimp only at hSw
            go_simp
            try with_reducible rfl
          simp only [Act.put, List.setIfInBounds_toArray, List.set_cons_zero, List.set_cons_succ]
          refine take_at (i := 5) (d := 36) (v := ?_) rfl rfl (by kernel_rfl) (by kernel_rfl) (by kernel_rfl) (fun _ _ _ h => h) (Or.inl ⟨by rfl, ?_⟩) (by assumption) ?_
          rotate_left
          · intro w hSw
            try dsimp only at hSw
            go_simp
            try with_reducible rfl
          simp only [Act.put, List.setIfInBounds_toArray, List.set_cons_zero, List.set_cons_succ]
          refine take_at (i := 6) (d := 37) (v := ?_) rfl rfl (by kernel_rfl) (by kernel_rfl) (by kernel_rfl) (fun _ _ _ h => h) (Or.inl ⟨by rfl, ?_⟩) (by assumption) ?_
          rotate_left
          · intro w hSw
            try dsimp only at hSw
            go_simp
            try with_reducible rfl
          simp only [Act.put, List.setIfInBounds_toArray, List.set_cons_zero, List.set_cons_succ]
          refine ready_at (i := 7) rfl (by kernel_rfl) (fun KK hKK => ?_)
          go_simp
          obtain ⟨wl9, hwl9⟩ : ∃ x, wc5.alloc (.cells #[.slice none 0 0, .slice none 0 0] 26) = x := ⟨_, rfl⟩
          have cbl10 : Below wc5.heap.size wc5 wl9 := hwl9 ▸ (Below.refl _ _).alloc (Nat.le_refl _) _
          have bl10 : Below w7.heap.size w7 wl9 := bc6.trans (cbl10.mono bc6.size)
          have zzwl9 : wc5.heap.size < wl9.heap.size := by rw [← hwl9]; simp
          have lg : Loc wl9 wc5.heap.size #[.slice none 0 0, .slice none 0 0] := hwl9 ▸ loc_at wc5 _ _ rfl
          have olp := olp.below cbl10
          rw [hwl9]
          clear hHeld hwl9
          refine hKK.out _ _ (unhide K _ bl10) (fun hHeld => ?_)
          clear hKK KK
          have q0 := lg.cell 0 rfl
          have q1 := lg.cell 1 rfl
          have FG := lg.frozen
          refine ready_at (i := 8) rfl (by kernel_rfl) (fun KK hKK => ?_)
          go_simp
          have bs : Below w7.heap.size w7 ((wl9.setCell ⟨wc5.heap.size, 0, none⟩ (.slice pa r.1.length pc)).setCell ⟨wc5.heap.size, 1, none⟩ (.slice qa r.2.1.length qc)) := Below.set (Below.set bl10 _ _ (by omega)) _ _ (by omega)
          clear hHeld
          refine hKK.out _ _ (unhide K _ bs) (fun hHeld => ?_)
          clear hKK KK
          refine take_at (i := 9) (d := 10) (v := ?_) rfl rfl (by kernel_rfl) (by kernel_rfl) (by kernel_rfl) (fun _ _ _ h => h) (Or.inl ⟨by rfl, ?_⟩) (by assumption) ?_
          rotate_left
          · intro w hSw
            try dsimp only at hSw
            go_simp
            try with_reducible rfl
          simp only [Act.put, List.setIfInBounds_toArray, List.set_cons_zero, List.set_cons_succ]
          clear hHeld
          refine wpAnyH_done (by kernel_rfl) ?_ _
          refine NoPanic.normal ?_
          go_wp2_with fail
          go_meet
          have kk : Kp wl9 ((wl9.setCell ⟨wc5.heap.size, 0, none⟩ (.slice pa r.1.length pc)).setCell ⟨wc5.heap.size, 1, none⟩ (.slice qa r.2.1.length qc)) (fun k => k = wc5.heap.size) := (set_kp wl9 _ 0 _).trans (set_kp _ _ 1 _)
          exact ⟨_, _, _, _, _, rfl, rfl, (lg.set 0 _ rfl).set 1 _ rfl, olp.kp kk (fun k h1 h2 e => by omega), by omega, ⟨by omega, by first | (simp; done) | (simp; omega), by omega⟩, bs⟩
        · go_simp
          obtain ⟨wl7, hwl7⟩ : ∃ x, wc1.alloc (.cells #[.slice none 0 0, .slice none 0 0] 26) = x := ⟨_, rfl⟩
          have cbl8 : Below wc1.heap.size wc1 wl7 := hwl7 ▸ (Below.refl _ _).alloc (Nat.le_refl _) _
          have bl8 : Below w7.heap.size w7 wl7 := bc2.trans (cbl8.mono bc2.size)
          have zzwl7 : wc1.heap.size < wl7.heap.size := by rw [← hwl7]; simp
          have lg : Loc wl7 wc1.heap.size #[.slice none 0 0, .slice none 0 0] := hwl7 ▸ loc_at wc1 _ _ rfl
          rw [hwl7]
          clear hHeld hwl7
          refine hKK.out _ _ (unhide K _ bl8) (fun hHeld => ?_)
          clear hKK KK
          refine ready_at (i := 3) rfl (by kernel_rfl) (fun KK hKK => ?_)
          go_simp
          refine (unhide IM _ _ _ (unhide RX _ bl8)).mono ?_
          rintro _ wc11 ⟨up, vp, rfl, olp, bnew⟩
          obtain ⟨pa, pc, rfl⟩ := olp.has.form
          obtain ⟨qa, qc, rfl⟩ := olp.next.form
          have cbc12 := bnew
          have bc12 : Below w7.heap.size w7 wc11 := bl8.trans (bnew.mono bl8.size)
          have zzwc11 := bnew.size
          have lg := lg.below bnew lg.lt
          clear hHeld bnew
          refine hKK.out _ _ (unhide K _ bc12) (fun hHeld => ?_)
          clear hKK KK
          refine take_at (i := 4) (d := 31) (v := ?_) rfl rfl (by kernel_rfl) (by kernel_rfl) (by kernel_rfl) (fun _ _ _ h => h) (Or.inl ⟨by rfl, ?_⟩) (by assumption) ?_
          rotate_left
          · intro w hSw
            try dsimp only at hSw
            go_simp
            try with_reducible rfl
          simp only [Act.put, List.setIfInBounds_toArray, List.set_cons_zero, List.set_cons_succ]
          refine take_at (i := 5) (d := 36) (v := ?_) rfl rfl (by kernel_rfl) (by kernel_rfl) (by kernel_rfl) (fun _ _ _ h => h) (Or.inl ⟨by rfl, ?_⟩) (by assumption) ?_
          rotate_left
          · intro w hSw
            try dsimp only at hSw
            go_simp
            try with_reducible rfl
          simp only [Act.put, List.setIfInBounds_toArray, List.set_cons_zero, List.set_cons_succ]
          refine take_at (i := 6) (d := 37) (v := ?_) rfl rfl (by kernel_rfl) (by kernel_rfl) (by kernel_rfl) (fun _ _ _ h => h) (Or.inl ⟨by rfl, ?_⟩) (by assumption) ?_
          rotate_left
          · intro w hSw
            try dsimp only at hSw
            go_simp
            try with_reducible rfl
          simp only [Act.put, List.setIfInBounds_toArray, List.set_cons_zero, List.set_cons_succ]
          have q0 := lg.cell 0 rfl
          have q1 := lg.cell 1 rfl
          have FG := lg.frozen
          refine ready_at (i := 8) rfl (by kernel_rfl) (fun KK hKK => ?_)
          go_simp
          have bs : Below w7.heap.size w7 ((wc11.setCell ⟨wc1.heap.size, 0, none⟩ (.slice pa r.1.length pc)).setCell ⟨wc1.heap.size, 1, none⟩ (.slice qa r.2.1.length qc)) := Below.set (Below.set bc12 _ _ (by omega)) _ _ (by omega)
          clear hHeld
          refine hKK.out _ _ (unhide K _ bs) (fun hHeld => ?_)
          clear hKK KK
          refine take_at (i := 9) (d := 10) (v := ?_) rfl rfl (by kernel_rfl) (by kernel_rfl) (by kernel_rfl) (fun _ _ _ h => h) (Or.inl ⟨by rfl, ?_⟩) (by assumption) ?_
          rotate_left
          · intro w hSw
            try dsimp only at hSw
            go_simp
            try with_reducible rfl
          simp only [Act.put, List.setIfInBounds_toArray, List.set_cons_zero, List.set_cons_succ]
          clear hHeld
          refine wpAnyH_done (by kernel_rfl) ?_ _
          refine NoPanic.normal ?_
          go_wp2_with fail
          go_meet
          have kk : Kp wc11 ((wc11.setCell ⟨wc1.heap.size, 0, none⟩ (.slice pa r.1.length pc)).setCell ⟨wc1.heap.size, 1, none⟩ (.slice qa r.2.1.length qc)) (fun k => k = wc1.heap.size) := (set_kp wc11 _ 0 _).trans (set_kp _ _ 1 _)
          exact ⟨_, _, _, _, _, rfl, rfl, (lg.set 0 _ rfl).set 1 _ rfl, olp.kp kk (fun k h1 h2 e => by omega), by omega, ⟨by omega, by first | (simp; done) | (simp; omega), by omega⟩, bs⟩
      · go_simp
        obtain ⟨wl3, hwl3⟩ : ∃ x, wd.alloc (.cells #[.slice none 0 0, .slice none 0 0] 26) = x := ⟨_, rfl⟩
        have cbl4 : Below wd.heap.size wd wl3 := hwl3 ▸ (Below.refl _ _).alloc (Nat.le_refl _) _
        have bl4 : Below w7.heap.size w7 wl3 := bd.trans (cbl4.mono bd.size)
        have zzwl3 : wd.heap.size < wl3.heap.size := by rw [← hwl3]; simp
        have lg : Loc wl3 wd.heap.size #[.slice none 0 0, .slice none 0 0] := hwl3 ▸ loc_at wd _ _ rfl
        rw [hwl3]
        clear hHeld hwl3
        refine hKK.out _ _ (unhide K _ bl4) (fun hHeld => ?_)
        clear hKK KK
        refine ready_at (i := 2) rfl (by kernel_rfl) (fun KK hKK => ?_)
        go_simp
        refine (toTx_any a b c d _).mono ?_
        rintro _ wc13 ⟨rfl, bnew⟩
        have cbc14 := bnew
        have bc14 : Below w7.heap.size w7 wc13 := bl4.trans (bnew.mono bl4.size)
        have zzwc13 := bnew.size
        have lg := lg.below bnew lg.lt
        clear hHeld bnew
        refine hKK.out _ _ (unhide K _ bc14) (fun hHeld => ?_)
        clear hKK KK
        refine ready_at (i := 3) rfl (by kernel_rfl) (fun KK hKK => ?_)
        go_simp
        refine (unhide IM _ _ _ (unhide RX _ bc14)).mono ?_
        rintro _ wc15 ⟨up, vp, rfl, olp, bnew⟩
        obtain ⟨pa, pc, rfl⟩ := olp.has.form
        obtain ⟨qa, qc, rfl⟩ := olp.next.form
        have cbc16 := bnew
        have bc16 : Below w7.heap.size w7 wc15 := bc14.trans (bnew.mono bc14.size)
        have zzwc15 := bnew.size
        have lg := lg.below bnew lg.lt
        clear hHeld bnew
        refine hKK.out _ _ (unhide K _ bc16) (fun hHeld => ?_)
        clear hKK KK
        refine take_at (i := 4) (d := 31) (v := ?_) rfl rfl (by kernel_rfl) (by kernel_rfl) (by kernel_rfl) (fun _ _ _ h => h) (Or.inl ⟨by rfl, ?_⟩) (by assumption) ?_
        rotate_left
        · intro w hSw
          try dsimp only at hSw
          go_simp
          try with_reducible rfl
        simp only [Act.put, List.setIfInBounds_toArray, List.set_cons_zero, List.set_cons_succ]
        refine take_at (i := 5) (d := 36) (v := ?_) rfl rfl (by kernel_rfl) (by kernel_rfl) (by kernel_rfl) (fun _ _ _ h => h) (Or.inl ⟨by rfl, ?_⟩) (by assumption) ?_
        rotate_left
        · intro w hSw
          try dsimp only at hSw
          go_simp
          try with_reducible rfl
        simp only [Act.put, List.setIfInBounds_toArray, List.set_cons_zero, List.set_cons_succ]
        refine take_at (i := 6) (d := 37) (v := ?_) rfl rfl (by kernel_rfl) (by kernel_rfl) (by kernel_rfl) (fun _ _ _ h => h) (Or.inl ⟨by rfl, ?_⟩) (by assumption) ?_
        rotate_left
        · intro w hSw
          try dsimp only at hSw
          go_simp
          try with_reducible rfl
        simp only [Act.put, List.setIfInBounds_toArray, List.set_cons_zero, List.set_cons_succ]
        have q0 := lg.cell 0 rfl
        have q1 := lg.cell 1 rfl
        have FG := lg.frozen
        refine ready_at (i := 8) rfl (by kernel_rfl) (fun KK hKK => ?_)
        go_simp
        have bs : Below w7.heap.size w7 ((wc15.setCell ⟨wd.heap.size, 0, none⟩ (.slice pa r.1.length pc)).setCell ⟨wd.heap.size, 1, none⟩ (.slice qa r.2.1.length qc)) := Below.set (Below.set bc16 _ _ (by omega)) _ _ (by omega)
        clear hHeld
        refine hKK.out _ _ (unhide K _ bs) (fun hHeld => ?_)
        clear hKK KK
        refine take_at (i := 9) (d := 10) (v := ?_) rfl rfl (by kernel_rfl) (by kernel_rfl) (by kernel_rfl) (fun _ _ _ h => h) (Or.inl ⟨by rfl, ?_⟩) (by assumption) ?_
        rotate_left
        · intro w hSw
          try dsimp only at hSw
          go_simp
          try with_reducible rfl
        simp only [Act.put, List.setIfInBounds_toArray, List.set_cons_zero, List.set_cons_succ]
        clear hHeld
        refine wpAnyH_done (by kernel_rfl) ?_ _
        refine NoPanic.normal ?_
        go_wp2_with fail
        go_meet
        have kk : Kp wc15 ((wc15.setCell ⟨wd.heap.size, 0, none⟩ (.slice pa r.1.length pc)).setCell ⟨wd.heap.size, 1, none⟩ (.slice qa r.2.1.length qc)) (fun k => k = wd.heap.size) := (set_kp wc15 _ 0 _).trans (set_kp _ _ 1 _)
        exact ⟨_, _, _, _, _, rfl, rfl, (lg.set 0 _ rfl).set 1 _ rfl, olp.kp kk (fun k h1 h2 e => by omega), by omega, ⟨by omega, by first | (simp; done) | (simp; omega), by omega⟩, bs⟩
    case rest =>
      obtain ⟨g7, uu, vv, lo7, hi7, rfl, rfl, W7, O7, d7, ⟨i7, j7, k7⟩, bq⟩ := hcut
      obtain ⟨q7, hq⟩ : ∃ q, wc = q := ⟨_, rfl⟩
      rw [hq] at W7 O7 j7 bq ⊢
      clear hq
      obtain ⟨ua7, uc7, rfl⟩ := O7.has.form
      obtain ⟨va7, vc7, rfl⟩ := O7.next.form
      have Bq7 := Bw7.trans (bq.mono Bw7.size)
      have lg7 := W7.lt
      have sq7 := bq.size
      have Lq := Lw7.below bq Lw7.lt
      have Xq := Xw7.below bq Xw7.lt
      have W5 := W5.below bq W5.lt
      have O5 := O5.below bq
      have Gq := Gw7.below bq Gw7.lt
      have Pq := P7.below bq
      clear bq Bw7 Lw7 Xw7 Gw7 P7 RX
      have x0 := W7.cell 0 rfl
      have x1 := W7.cell 1 rfl
      have y0 := W5.cell 0 rfl
      have y1 := W5.cell 1 rfl
      have hcc : (r.2.2 != r.2.2) = false := by simp
      go_wp2_with fail
      refine (eqLedger_yes _ _ _ _ r.1 r.2.1 _ (O7.ri rx ry) (O5.ri rx ry)).mono ?_
      rintro _ w8 ⟨rfl, b8⟩
      have s8 := b8.size
      have Bq := Bq7
      have Bw8 := Bq.trans (b8.mono Bq.size)
      have Lq := Lq.below b8 Lq.lt
      have Xq := Xq.below b8 Xq.lt
      have Gq := Gq.below b8 Gq.lt
      have W5 := W5.below b8 W5.lt
      have W7 := W7.below b8 W7.lt
      have Pq := Pq.below b8
      have O5 := O5.below b8
      have O7 := O7.below b8
      clear b8 x0 x1 y0 y1 Bq Bq7
      have K : Hid (∀ w', Below w8.heap.size w8 w' → (w'.cell? ⟨w6.heap.size, 0, none⟩ = some (.slice ua6 xs.length uc6) ∧ w'.cell? ⟨w6.heap.size, 1, none⟩ = some (.slice va6 ys.length vc6)) ∧ (w'.cell? ⟨w.heap.size, 0, none⟩ = some (.slice ao xs.length ca) ∧ w'.cell? ⟨w.heap.size, 1, none⟩ = some (.slice bo ys.length cb))) := hide fun w' hb' => by
        have l := Gq.below hb' Gq.lt
        have m := Lq.below hb' Lq.lt
        exact ⟨⟨l.cell 0 rfl, l.cell 1 rfl⟩, ⟨m.cell 0 rfl, m.cell 1 rfl⟩⟩
      have bA : Below w8.heap.size w8 w8.drew := Below.drew (Below.refl _ _)
      go_wp2_with fail
      refine wp_region_noPanic ?_
      refine wp_region_held_drew (S := (fun w' => (w'.cell? ⟨w6.heap.size, 0, none⟩ = some (.slice ua6 xs.length uc6) ∧ w'.cell? ⟨w6.heap.size, 1, none⟩ = some (.slice va6 ys.length vc6)) ∧ (w'.cell? ⟨w.heap.size, 0, none⟩ = some (.slice ao xs.length ca) ∧ w'.cell? ⟨w.heap.size, 1, none⟩ = some (.slice bo ys.length cb)))) (by kernel_rfl) (unhide K _ bA) (fun hHeld => ?_)
      refine take_at (i := 0) (d := 47) (v := ?_) rfl rfl (by kernel_rfl) (by kernel_rfl) (by kernel_rfl) (fun _ _ _ h => h) (Or.inl ⟨by rfl, ?_⟩) (by assumption) ?_
      rotate_left
      · intro w hSw
        try dsimp only at hSw
        go_simp
        try with_reducible rfl
      simp only [Act.put, List.setIfInBounds_toArray, List.set_cons_zero, List.set_cons_succ]
      refine take_at (i := 1) (d := 48) (v := ?_) rfl rfl (by kernel_rfl) (by kernel_rfl) (by kernel_rfl) (fun _ _ _ h => h) (Or.inl ⟨by rfl, ?_⟩) (by assumption) ?_
      rotate_left
      · intro w hSw
        try dsimp only at hSw
        go_simp
        try with_reducible rfl
      simp only [Act.put, List.setIfInBounds_toArray, List.set_cons_zero, List.set_cons_succ]
      refine ready_at (i := 2) rfl (by kernel_rfl) (fun KK hKK => ?_)
      go_simp
      refine (unhide TO _ (unhide RA _ (Bw8.trans (bA.mono Bw8.size)))).mono ?_
      rintro _ wa ⟨ut, vt, rfl, ot, ba⟩
      have bB : Below w8.heap.size w8 wa := bA.trans (ba.mono bA.size)
      clear hHeld
      refine hKK.out _ _ (unhide K _ bB) (fun hHeld => ?_)
      clear hKK KK
      refine ready_at (i := 3) rfl (by kernel_rfl) (fun KK hKK => ?_)
      go_simp
      refine (eqLedger_yes _ _ _ _ xs ys _ ((Pq.below bB).ri hx hy) (ot.ri hx hy)).mono ?_
      rintro _ w9 ⟨rfl, b9⟩
      have bC : Below w8.heap.size w8 w9 := bB.trans (b9.mono bB.size)
      clear hHeld
      refine hKK.out _ _ (unhide K _ bC) (fun hHeld => ?_)
      clear hKK KK
      refine take_at (i := 4) (d := 51) (v := ?_) rfl rfl (by kernel_rfl) (by kernel_rfl) (by kernel_rfl) (fun _ _ _ h => h) (Or.inl ⟨by rfl, ?_⟩) (by assumption) ?_
      rotate_left
      · intro w hSw
        try dsimp only at hSw
        go_simp
        try with_reducible rfl
      simp only [Act.put, List.setIfInBounds_toArray, List.set_cons_zero, List.set_cons_succ]
      clear hHeld K ot ba bA bB b9
      refine wpAnyH_done (by kernel_rfl) ?_ _
      refine NoPanic.normal ?_
      have Bw9 := Bw8.trans (bC.mono Bw8.size)
      have Lq := Lq.below bC Lq.lt
      have Xq := Xq.below bC Xq.lt
      have Gq := Gq.below bC Gq.lt
      have W5 := W5.below bC W5.lt
      have W7 := W7.below bC W7.lt
      have Pq := Pq.below bC
      have O5 := O5.below bC
      have O7 := O7.below bC
      have s9 := bC.size
      clear bC Bw8
      have z0 := Gq.cell 0 rfl
      have z1 := Gq.cell 1 rfl
      go_wp2_with fail
      refine (markLedger_any _ _ _ _ xs ys _ hx hy (by omega) Pq).mono ?_
      rintro _ w10 ⟨rfl, Pm, km⟩
      have s10 := km.size
      have Bw10 := Below.kp Bw9 km Bw9.size (fun k hk => by omega)
      have Lq := Lq.kp km (fun h => by omega)
      have Xq := Xq.kp km (fun h => by omega)
      have Gq := Gq.kp km (fun h => by omega)
      have W5 := W5.kp km (fun h => by omega)
      have W7 := W7.kp km (fun h => by omega)
      have O5 := O5.kp km (fun k _ _ h => by omega)
      have O7 := O7.kp km (fun k _ _ h => by omega)
      clear Pm km z0 z1 Bw9
      have hk : decide ((1 : Int) + (xs.length : Int) + (ys.length : Int) < 0) = false := by simp; omega
      have x0 := W7.cell 0 rfl
      have x1 := W7.cell 1 rfl
      have y0 := W5.cell 0 rfl
      have y1 := W5.cell 1 rfl
      go_wp2_with fail
      refine (eqLedger_yes _ _ _ _ r.1 r.2.1 _ (O7.ri rx ry) (O5.ri rx ry)).mono ?_
      rintro _ w11 ⟨rfl, b11⟩
      have s11 := b11.size
      have Bw11 := Bw10.trans (b11.mono Bw10.size)
      have Lq := Lq.below b11 Lq.lt
      have Xq := Xq.below b11 Xq.lt
      have W5 := W5.below b11 W5.lt
      have W7 := W7.below b11 W7.lt
      have O5 := O5.below b11
      have O7 := O7.below b11
      clear b11 x0 x1 y0 y1 Bw10
      have x0 := W7.cell 0 rfl
      have x1 := W7.cell 1 rfl
      go_wp2_with fail
      refine (markLedger_any _ _ _ _ r.1 r.2.1 _ rx ry (by omega) O7).mono ?_
      rintro _ w12 ⟨rfl, O7m, kn⟩
      have s12 := kn.size
      have Bw12 := Below.kp Bw11 kn Bw11.size (fun k hk => by omega)
      have Lq := Lq.kp kn (fun h => by omega)
      have Xq := Xq.kp kn (fun h => by omega)
      have W5 := W5.kp kn (fun h => by omega)
      have W7 := W7.kp kn (fun h => by omega)
      have O5 := O5.kp kn (fun k _ _ h => by omega)
      clear kn x0 x1 Bw11
      have hq1 : decide ((1 : Int) + (r.1.length : Int) + (r.2.1.length : Int) < 0) = false := by simp; omega
      have HH := hide fun w' (hb : Below w12.heap.size w12 w') => (O7m.below hb).ri (by rw [imarks_len]; omega) (by rw [imarks_len]; omega)
      have x0 := W7.cell 0 rfl
      have x1 := W7.cell 1 rfl
      go_wp2_with fail
      refine (heldLedger_any _ _ _ _ _ rx (unhide HH _ (Below.refl _ _))).mono ?_
      rintro _ w13 ⟨rfl, b13⟩
      have s13 := b13.size
      have c13 := b13
      have Bw13 := Bw12.trans (b13.mono Bw12.size)
      have Lq := Lq.below b13 Lq.lt
      have Xq := Xq.below b13 Xq.lt
      have W5 := W5.below b13 W5.lt
      have W7 := W7.below b13 W7.lt
      have O5 := O5.below b13
      clear b13 x0 x1 Bw12 O7m
      have Lw13 := Lq
      have Xw13 := Xq
      clear Lq Xq
      go_upto_region 24 with fail
      go_cut [14, 15] (fun p c wx => ∃ g u v lo hi, p = .pointer (some ⟨g, 0, none⟩) ∧ c = .int .i64 r.2.2 ∧ Loc wx g #[u, v] ∧ OL wx lo hi u v r.1 r.2.1 ∧ (g < lo ∨ hi ≤ g) ∧ (w13.heap.size ≤ lo ∧ hi ≤ wx.heap.size ∧ w13.heap.size ≤ g) ∧ Below w13.heap.size w13 wx)
      case first =>
        have BW := Bw13
        have K : Hid (∀ w', Below w13.heap.size w13 w' → (w'.cell? ⟨w.heap.size, 0, none⟩ = some (.slice ao xs.length ca) ∧ w'.cell? ⟨w.heap.size, 1, none⟩ = some (.slice bo ys.length cb)) ∧ ((w'.cell? ⟨w.heap.size + 1, 0, none⟩ = some (.int .i64 a) ∧ w'.cell? ⟨w.heap.size + 1, 1, none⟩ = some (.int .i64 b)) ∧ (w'.cell? ⟨w.heap.size + 1, 2, none⟩ = some (.int .i64 c) ∧ w'.cell? ⟨w.heap.size + 1, 3, none⟩ = some (.int .i64 d)))) := hide fun w' hb' => by
          have l := Lw13.below hb' Lw13.lt
          have x := Xw13.below hb' Xw13.lt
          exact ⟨⟨l.cell 0 rfl, l.cell 1 rfl⟩, ⟨⟨x.cell 0 rfl, x.cell 1 rfl⟩, ⟨x.cell 2 rfl, x.cell 3 rfl⟩⟩⟩
        refine wp_region_noPanic ?_
        refine wp_region_held_drew (S := (fun w' => (w'.cell? ⟨w.heap.size, 0, none⟩ = some (.slice ao xs.length ca) ∧ w'.cell? ⟨w.heap.size, 1, none⟩ = some (.slice bo ys.length cb)) ∧ ((w'.cell? ⟨w.heap.size + 1, 0, none⟩ = some (.int .i64 a) ∧ w'.cell? ⟨w.heap.size + 1, 1, none⟩ = some (.int .i64 b)) ∧ (w'.cell? ⟨w.heap.size + 1, 2, none⟩ = some (.int .i64 c) ∧ w'.cell? ⟨w.heap.size + 1, 3, none⟩ = some (.int .i64 d))))) (by kernel_rfl) (unhide K _ (Below.drew (Below.refl _ _))) (fun hHeld => ?_)
        obtain ⟨wd, hd⟩ : ∃ wd, w13.drew = wd := ⟨_, rfl⟩
        have bd : Below w13.heap.size w13 wd := hd ▸ Below.drew (Below.refl _ _)
        have szd := bd.size
        rw [hd] at hHeld ⊢
        clear hd
        refine take_at (i := 0) (d := 80) (v := ?_) rfl rfl (by kernel_rfl) (by kernel_rfl) (by kernel_rfl) (fun _ _ _ h => h) (Or.inl ⟨by rfl, ?_⟩) (by assumption) ?_
        rotate_left
        · intro w hSw
          try dsimp only at hSw
          go_simp
          try with_reducible rfl
        simp only [Act.put, List.setIfInBounds_toArray, List.set_cons_zero, List.set_cons_succ]
        refine take_at (i := 2) (d := 82) (v := ?_) rfl rfl (by kernel_rfl) (by kernel_rfl) (by kernel_rfl) (fun _ _ _ h => h) (Or.inl ⟨by rfl, ?_⟩) (by assumption) ?_
        rotate_left
        · intro w hSw
          try dsimp only at hSw
          go_simp
          try with_reducible rfl
        simp only [Act.put, List.setIfInBounds_toArray, List.set_cons_zero, List.set_cons_succ]
        refine wpAnyH_ready (rs := [1, 8]) (by kernel_rfl) (by simp) (AllReadyH.cons rfl (fun KK hKK => ?_) (AllReadyH.cons rfl (fun KK hKK => ?_) AllReadyH.nil))
        · go_simp
          refine (unhide TO _ (unhide RA _ (BW.trans (bd.mono BW.size)))).mono ?_
          rintro _ wc1 ⟨ul, vl, rfl, oll, bnew⟩
          have cbc2 := bnew
          have bc2 : Below w13.heap.size w13 wc1 := bd.trans (bnew.mono bd.size)
          have zzwc1 := bnew.size
          clear hHeld bnew
          refine hKK.out _ _ (unhide K _ bc2) (fun hHeld => ?_)
          clear hKK KK
          refine wpAnyH_ready (rs := [3, 8]) (by kernel_rfl) (by simp) (AllReadyH.cons rfl (fun KK hKK => ?_) (AllReadyH.cons rfl (fun KK hKK => ?_) AllReadyH.nil))
          · go_simp
            refine (toTx_any a b c d _).mono ?_
            rintro _ wc5 ⟨rfl, bnew⟩
            have cbc6 := bnew
            have bc6 : Below w13.heap.size w13 wc5 := bc2.trans (bnew.mono bc2.size)
            have zzwc5 := bnew.size
            have oll := oll.below bnew
            clear hHeld bnew
            refine hKK.out _ _ (unhide K _ bc6) (fun hHeld => ?_)
            clear hKK KK
            refine wpAnyH_ready (rs := [4, 8]) (by kernel_rfl) (by simp) (AllReadyH.cons rfl (fun KK hKK => ?_) (AllReadyH.cons rfl (fun KK hKK => ?_) AllReadyH.nil))
            · go_simp
              refine (unhide IM _ _ _ (oll.ri hx hy)).mono ?_
              rintro _ wc9 ⟨up, vp, rfl, olp, bnew⟩
              obtain ⟨pa, pc, rfl⟩ := olp.has.form
              obtain ⟨qa, qc, rfl⟩ := olp.next.form
              have cbc10 := bnew
              have bc10 : Below w13.heap.size w13 wc9 := bc6.trans (bnew.mono bc6.size)
              have zzwc9 := bnew.size
              have oll := oll.below bnew
              clear hHeld bnew
              refine hKK.out _ _ (unhide K _ bc10) (fun hHeld => ?_)
              clear hKK KK
              refine take_at (i := 5) (d := 79) (v := ?_) rfl rfl (by kernel_rfl) (by kernel_rfl) (by kernel_rfl) (fun _ _ _ h => h) (Or.inl ⟨by rfl, ?_⟩) (by assumption) ?_
              rotate_left
              · intro w hSw
                try dsimp only at hSw
                go_simp
                try with_reducible rfl
              simp only [Act.put, List.setIfInBounds_toArray, List.set_cons_zero, List.set_cons_succ]
              refine take_at (i := 6) (d := 85) (v := ?_) rfl rfl (by kernel_rfl) (by kernel_rfl) (by kernel_rfl) (fun _ _ _ h => h) (Or.inl ⟨by rfl, ?_⟩) (by assumption) ?_
              rotate_left
              · intro w hSw
                try dsimp only at hSw
                go_simp
                try with_reducible rfl
              simp only [Act.put, List.setIfInBounds_toArray, List.set_cons_zero, List.set_cons_succ]
              refine take_at (i := 7) (d := 86) (v := ?_) rfl rfl (by kernel_rfl) (by kernel_rfl) (by kernel_rfl) (fun _ _ _ h => h) (Or.inl ⟨by rfl, ?_⟩) (by assumption) ?_
              rotate_left
              · intro w hSw
                try dsimp only at hSw
                go_simp
                try with_reducible rfl
              simp only [Act.put, List.setIfInBounds_toArray, List.set_cons_zero, List.set_cons_succ]
              refine ready_at (i := 8) rfl (by kernel_rfl) (fun KK hKK => ?_)
              go_simp
              obtain ⟨wl13, hwl13⟩ : ∃ x, wc9.alloc (.cells #[.slice none 0 0, .slice none 0 0] 26) = x := ⟨_, rfl⟩
              have cbl14 : Below wc9.heap.size wc9 wl13 := hwl13 ▸ (Below.refl _ _).alloc (Nat.le_refl _) _
              have bl14 : Below w13.heap.size w13 wl13 := bc10.trans (cbl14.mono bc10.size)
              have zzwl13 : wc9.heap.size < wl13.heap.size := by rw [← hwl13]; simp
              have lg : Loc wl13 wc9.heap.size #[.slice none 0 0, .slice none 0 0] := hwl13 ▸ loc_at wc9 _ _ rfl
              have oll := oll.below cbl14
              have olp := olp.below cbl14
              rw [hwl13]
              clear hHeld hwl13
              refine hKK.out _ _ (unhide K _ bl14) (fun hHeld => ?_)
              clear hKK KK
              have q0 := lg.cell 0 rfl
              have q1 := lg.cell 1 rfl
              have FG := lg.frozen
              refine ready_at (i := 9) rfl (by kernel_rfl) (fun KK hKK => ?_)
              go_simp
              have bs : Below w13.heap.size w13 ((wl13.setCell ⟨wc9.heap.size, 0, none⟩ (.slice pa r.1.length pc)).setCell ⟨wc9.heap.size, 1, none⟩ (.slice qa r.2.1.length qc)) := Below.set (Below.set bl14 _ _ (by omega)) _ _ (by omega)
              clear hHeld
              refine hKK.out _ _ (unhide K _ bs) (fun hHeld => ?_)
              clear hKK KK
              refine take_at (i := 10) (d := 15) (v := ?_) rfl rfl (by kernel_rfl) (by kernel_rfl) (by kernel_rfl) (fun _ _ _ h => h) (Or.inl ⟨by rfl, ?_⟩) (by assumption) ?_
              rotate_left
              · intro w hSw
                try dsimp only at hSw
                go_simp
                try with_reducible rfl
              simp only [Act.put, List.setIfInBounds_toArray, List.set_cons_zero, List.set_cons_succ]
              clear hHeld
              refine wpAnyH_done (by kernel_rfl) ?_ _
              refine NoPanic.normal ?_
              go_wp2_with fail
              go_meet
              have kk : Kp wl13 ((wl13.setCell ⟨wc9.heap.size, 0, none⟩ (.slice pa r.1.length pc)).setCell ⟨wc9.heap.size, 1, none⟩ (.slice qa r.2.1.length qc)) (fun k => k = wc9.heap.size) := (set_kp wl13 _ 0 _).trans (set_kp _ _ 1 _)
              exact ⟨_, _, _, _, _, rfl, rfl, (lg.set 0 _ rfl).set 1 _ rfl, olp.kp kk (fun k h1 h2 e => by omega), by omega, ⟨by omega, by first | (simp; done) | (simp; omega), by omega⟩, bs⟩
            · go_simp
              obtain ⟨wl11, hwl11⟩ : ∃ x, wc5.alloc (.cells #[.slice none 0 0, .slice none 0 0] 26) = x := ⟨_, rfl⟩
              have cbl12 : Below wc5.heap.size wc5 wl11 := hwl11 ▸ (Below.refl _ _).alloc (Nat.le_refl _) _
              have bl12 : Below w13.heap.size w13 wl11 := bc6.trans (cbl12.mono bc6.size)
              have zzwl11 : wc5.heap.size < wl11.heap.size := by rw [← hwl11]; simp
              have lg : Loc wl11 wc5.heap.size #[.slice none 0 0, .slice none 0 0] := hwl11 ▸ loc_at wc5 _ _ rfl
              have oll := oll.below cbl12
              rw [hwl11]
              clear hHeld hwl11
              refine hKK.out _ _ (unhide K _ bl12) (fun hHeld => ?_)
              clear hKK KK
              refine ready_at (i := 4) rfl (by kernel_rfl) (fun KK hKK => ?_)
              go_simp
              refine (unhide IM _ _ _ (oll.ri hx hy)).mono ?_
              rintro _ wc15 ⟨up, vp, rfl, olp, bnew⟩
              obtain ⟨pa, pc, rfl⟩ := olp.has.form
              obtain ⟨qa, qc, rfl⟩ := olp.next.form
              have cbc16 := bnew
              have bc16 : Below w13.heap.size w13 wc15 := bl12.trans (bnew.mono bl12.size)
              have zzwc15 := bnew.size
              have oll := oll.below bnew
              have lg := lg.below bnew lg.lt
              clear hHeld bnew
              refine hKK.out _ _ (unhide K _ bc16) (fun hHeld => ?_)
              clear hKK KK
              refine take_at (i := 5) (d := 79) (v := ?_) rfl rfl (by kernel_rfl) (by kernel_rfl) (by kernel_rfl) (fun _ _ _ h => h) (Or.inl ⟨by rfl, ?_⟩) (by assumption) ?_
              rotate_left
              · intro w hSw
                try dsimp only at hSw
                go_simp
                try with_reducible rfl
              simp only [Act.put, List.setIfInBounds_toArray, List.set_cons_zero, List.set_cons_succ]
              refine take_at (i := 6) (d := 85) (v := ?_) rfl rfl (by kernel_rfl) (by kernel_rfl) (by kernel_rfl) (fun _ _ _ h => h) (Or.inl ⟨by rfl, ?_⟩) (by assumption) ?_
              rotate_left
              · intro w hSw
                try dsimp only at hSw
                go_simp
                try with_reducible rfl
              simp only [Act.put, List.setIfInBounds_toArray, List.set_cons_zero, List.set_cons_succ]
              refine take_at (i := 7) (d := 86) (v := ?_) rfl rfl (by kernel_rfl) (by kernel_rfl) (by kernel_rfl) (fun _ _ _ h => h) (Or.inl ⟨by rfl, ?_⟩) (by assumption) ?_
              rotate_left
              · intro w hSw
                try dsimp only at hSw
                go_simp
                try with_reducible rfl
              simp only [Act.put, List.setIfInBounds_toArray, List.set_cons_zero, List.set_cons_succ]
              have q0 := lg.cell 0 rfl
              have q1 := lg.cell 1 rfl
              have FG := lg.frozen
              refine ready_at (i := 9) rfl (by kernel_rfl) (fun KK hKK => ?_)
              go_simp
              have bs : Below w13.heap.size w13 ((wc15.setCell ⟨wc5.heap.size, 0, none⟩ (.slice pa r.1.length pc)).setCell ⟨wc5.heap.size, 1, none⟩ (.slice qa r.2.1.length qc)) := Below.set (Below.set bc16 _ _ (by omega)) _ _ (by omega)
              clear hHeld
              refine hKK.out _ _ (unhide K _ bs) (fun hHeld => ?_)
              clear hKK KK
              refine take_at (i := 10) (d := 15) (v := ?_) rfl rfl (by kernel_rfl) (by kernel_rfl) (by kernel_rfl) (fun _ _ _ h => h) (Or.inl ⟨by rfl, ?_⟩) (by assumption) ?_
              rotate_left
              · intro w hSw
                try dsimp only at hSw
                go_simp
                try with_reducible rfl
              simp only [Act.put, List.setIfInBounds_toArray, List.set_cons_zero, List.set_cons_succ]
              clear hHeld
              refine wpAnyH_done (by kernel_rfl) ?_ _
              refine NoPanic.normal ?_
              go_wp2_with fail
              go_meet
              have kk : Kp wc15 ((wc15.setCell ⟨wc5.heap.size, 0, none⟩ (.slice pa r.1.length pc)).setCell ⟨wc5.heap.size, 1, none⟩ (.slice qa r.2.1.length qc)) (fun k => k = wc5.heap.size) := (set_kp wc15 _ 0 _).trans (set_kp _ _ 1 _)
              exact ⟨_, _, _, _, _, rfl, rfl, (lg.set 0 _ rfl).set 1 _ rfl, olp.kp kk (fun k h1 h2 e => by omega), by omega, ⟨by omega, by first | (simp; done) | (simp; omega), by omega⟩, bs⟩
          · go_simp
            obtain ⟨wl7, hwl7⟩ : ∃ x, wc1.alloc (.cells #[.slice none 0 0, .slice none 0 0] 26) = x := ⟨_, rfl⟩
            have cbl8 : Below wc1.heap.size wc1 wl7 := hwl7 ▸ (Below.refl _ _).alloc (Nat.le_refl _) _
            have bl8 : Below w13.heap.size w13 wl7 := bc2.trans (cbl8.mono bc2.size)
            have zzwl7 : wc1.heap.size < wl7.heap.size := by rw [← hwl7]; simp
            have lg : Loc wl7 wc1.heap.size #[.slice none 0 0, .slice none 0 0] := hwl7 ▸ loc_at wc1 _ _ rfl
            have oll := oll.below cbl8
            rw [hwl7]
            clear hHeld hwl7
            refine hKK.out _ _ (unhide K _ bl8) (fun hHeld => ?_)
            clear hKK KK
            refine ready_at (i := 3) rfl (by kernel_rfl) (fun KK hKK => ?_)
            go_simp
            refine (toTx_any a b c d _).mono ?_
            rintro _ wc17 ⟨rfl, bnew⟩
            have cbc18 := bnew
            have bc18 : Below w13.heap.size w13 wc17 := bl8.trans (bnew.mono bl8.size)
            have zzwc17 := bnew.size
            have oll := oll.below bnew
            have lg := lg.below bnew lg.lt
            clear hHeld bnew
            refine hKK.out _ _ (unhide K _ bc18) (fun hHeld => ?_)
            clear hKK KK
            refine ready_at (i := 4) rfl (by kernel_rfl) (fun KK hKK => ?_)
            go_simp
            refine (unhide IM _ _ _ (oll.ri hx hy)).mono ?_
            rintro _ wc19 ⟨up, vp, rfl, olp, bnew⟩
            obtain ⟨pa, pc, rfl⟩ := olp.has.form
            obtain ⟨qa, qc, rfl⟩ := olp.next.form
            have cbc20 := bnew
            have bc20 : Below w13.heap.size w13 wc19 := bc18.trans (bnew.mono bc18.size)
            have zzwc19 := bnew.size
            have oll := oll.below bnew
            have lg := lg.below bnew lg.lt
            clear hHeld bnew
            refine hKK.out _ _ (unhide K _ bc20) (fun hHeld => ?_)
            clear hKK KK
            refine take_at (i := 5) (d := 79) (v := ?_) rfl rfl (by kernel_rfl) (by kernel_rfl) (by kernel_rfl) (fun _ _ _ h => h) (Or.inl ⟨by rfl, ?_⟩) (by assumption) ?_
            rotate_left
            · intro w hSw
              try dsimp only at hSw
              go_simp
              try with_reducible rfl
            simp only [Act.put, List.setIfInBounds_toArray, List.set_cons_zero, List.set_cons_succ]
            refine take_at (i := 6) (d := 85) (v := ?_) rfl rfl (by kernel_rfl) (by kernel_rfl) (by kernel_rfl) (fun _ _ _ h => h) (Or.inl ⟨by rfl, ?_⟩) (by assumption) ?_
            rotate_left
            · intro w hSw
              try dsimp only at hSw
              go_simp
              try with_reducible rfl
            simp only [Act.put, List.setIfInBounds_toArray, List.set_cons_zero, List.set_cons_succ]
            refine take_at (i := 7) (d := 86) (v := ?_) rfl rfl (by kernel_rfl) (by kernel_rfl) (by kernel_rfl) (fun _ _ _ h => h) (Or.inl ⟨by rfl, ?_⟩) (by assumption) ?_
            rotate_left
            · intro w hSw
              try dsimp only at hSw
              go_simp
              try with_reducible rfl
            simp only [Act.put, List.setIfInBounds_toArray, List.set_cons_zero, List.set_cons_succ]
            have q0 := lg.cell 0 rfl
            have q1 := lg.cell 1 rfl
            have FG := lg.frozen
            refine ready_at (i := 9) rfl (by kernel_rfl) (fun KK hKK => ?_)
            go_simp
            have bs : Below w13.heap.size w13 ((wc19.setCell ⟨wc1.heap.size, 0, none⟩ (.slice pa r.1.length pc)).setCell ⟨wc1.heap.size, 1, none⟩ (.slice qa r.2.1.length qc)) := Below.set (Below.set bc20 _ _ (by omega)) _ _ (by omega)
            clear hHeld
            refine hKK.out _ _ (unhide K _ bs) (fun hHeld => ?_)
            clear hKK KK
            refine take_at (i := 10) (d := 15) (v := ?_) rfl rfl (by kernel_rfl) (by kernel_rfl) (by kernel_rfl) (fun _ _ _ h => h) (Or.inl ⟨by rfl, ?_⟩) (by assumption) ?_
            rotate_left
            · intro w hSw
              try dsimp only at hSw
              go_simp
              try with_reducible rfl
            simp only [Act.put, List.setIfInBounds_toArray, List.set_cons_zero, List.set_cons_succ]
            clear hHeld
            refine wpAnyH_done (by kernel_rfl) ?_ _
            refine NoPanic.normal ?_
            go_wp2_with fail
            go_meet
            have kk : Kp wc19 ((wc19.setCell ⟨wc1.heap.size, 0, none⟩ (.slice pa r.1.length pc)).setCell ⟨wc1.heap.size, 1, none⟩ (.slice qa r.2.1.length qc)) (fun k => k = wc1.heap.size) := (set_kp wc19 _ 0 _).trans (set_kp _ _ 1 _)
            exact ⟨_, _, _, _, _, rfl, rfl, (lg.set 0 _ rfl).set 1 _ rfl, olp.kp kk (fun k h1 h2 e => by omega), by omega, ⟨by omega, by first | (simp; done) | (simp; omega), by omega⟩, bs⟩
        · go_simp
          obtain ⟨wl3, hwl3⟩ : ∃ x, wd.alloc (.cells #[.slice none 0 0, .slice none 0 0] 26) = x := ⟨_, rfl⟩
          have cbl4 : Below wd.heap.size wd wl3 := hwl3 ▸ (Below.refl _ _).alloc (Nat.le_refl _) _
          have bl4 : Below w13.heap.size w13 wl3 := bd.trans (cbl4.mono bd.size)
          have zzwl3 : wd.heap.size < wl3.heap.size := by rw [← hwl3]; simp
          have lg : Loc wl3 wd.heap.size #[.slice none 0 0, .slice none 0 0] := hwl3 ▸ loc_at wd _ _ rfl
          rw [hwl3]
          clear hHeld hwl3
          refine hKK.out _ _ (unhide K _ bl4) (fun hHeld => ?_)
          clear hKK KK
          refine ready_at (i := 1) rfl (by kernel_rfl) (fun KK hKK => ?_)
          go_simp
          refine (unhide TO _ (unhide RA _ (BW.trans (bl4.mono BW.size)))).mono ?_
          rintro _ wc21 ⟨ul, vl, rfl, oll, bnew⟩
          have cbc22 := bnew
          have bc22 : Below w13.heap.size w13 wc21 := bl4.trans (bnew.mono bl4.size)
          have zzwc21 := bnew.size
          have lg := lg.below bnew lg.lt
          clear hHeld bnew
          refine hKK.out _ _ (unhide K _ bc22) (fun hHeld => ?_)
          clear hKK KK
          refine ready_at (i := 3) rfl (by kernel_rfl) (fun KK hKK => ?_)
          go_simp
          refine (toTx_any a b c d _).mono ?_
          rintro _ wc23 ⟨rfl, bnew⟩
          have cbc24 := bnew
          have bc24 : Below w13.heap.size w13 wc23 := bc22.trans (bnew.mono bc22.size)
          have zzwc23 := bnew.size
          have oll := oll.below bnew
          have lg := lg.below bnew lg.lt
          clear hHeld bnew
          refine hKK.out _ _ (unhide K _ bc24) (fun hHeld => ?_)
          clear hKK KK
          refine ready_at (i := 4) rfl (by kernel_rfl) (fun KK hKK => ?_)
          go_simp
          refine (unhide IM _ _ _ (oll.ri hx hy)).mono ?_
          rintro _ wc25 ⟨up, vp, rfl, olp, bnew⟩
          obtain ⟨pa, pc, rfl⟩ := olp.has.form
          obtain ⟨qa, qc, rfl⟩ := olp.next.form
          have cbc26 := bnew
          have bc26 : Below w13.heap.size w13 wc25 := bc24.trans (bnew.mono bc24.size)
          have zzwc25 := bnew.size
          have oll := oll.below bnew
          have lg := lg.below bnew lg.lt
          clear hHeld bnew
          refine hKK.out _ _ (unhide K _ bc26) (fun hHeld => ?_)
          clear hKK KK
          refine take_at (i := 5) (d := 79) (v := ?_) rfl rfl (by kernel_rfl) (by kernel_rfl) (by kernel_rfl) (fun _ _ _ h => h) (Or.inl ⟨by rfl, ?_⟩) (by assumption) ?_
          rotate_left
          · intro w hSw
            try dsimp only at hSw
            go_simp
            try with_reducible rfl
          simp only [Act.put, List.setIfInBounds_toArray, List.set_cons_zero, List.set_cons_succ]
          refine take_at (i := 6) (d := 85) (v := ?_) rfl rfl (by kernel_rfl) (by kernel_rfl) (by kernel_rfl) (fun _ _ _ h => h) (Or.inl ⟨by rfl, ?_⟩) (by assumption) ?_
          rotate_left
          · intro w hSw
            try dsimp only at hSw
            go_simp
            try with_reducible rfl
          simp only [Act.put, List.setIfInBounds_toArray, List.set_cons_zero, List.set_cons_succ]
          refine take_at (i := 7) (d := 86) (v := ?_) rfl rfl (by kernel_rfl) (by kernel_rfl) (by kernel_rfl) (fun _ _ _ h => h) (Or.inl ⟨by rfl, ?_⟩) (by assumption) ?_
          rotate_left
          · intro w hSw
            try dsimp only at hSw
            go_simp
            try with_reducible rfl
          simp only [Act.put, List.setIfInBounds_toArray, List.set_cons_zero, List.set_cons_succ]
          have q0 := lg.cell 0 rfl
          have q1 := lg.cell 1 rfl
          have FG := lg.frozen
          refine ready_at (i := 9) rfl (by kernel_rfl) (fun KK hKK => ?_)
          go_simp
          have bs : Below w13.heap.size w13 ((wc25.setCell ⟨wd.heap.size, 0, none⟩ (.slice pa r.1.length pc)).setCell ⟨wd.heap.size, 1, none⟩ (.slice qa r.2.1.length qc)) := Below.set (Below.set bc26 _ _ (by omega)) _ _ (by omega)
          clear hHeld
          refine hKK.out _ _ (unhide K _ bs) (fun hHeld => ?_)
          clear hKK KK
          refine take_at (i := 10) (d := 15) (v := ?_) rfl rfl (by kernel_rfl) (by kernel_rfl) (by kernel_rfl) (fun _ _ _ h => h) (Or.inl ⟨by rfl, ?_⟩) (by assumption) ?_
          rotate_left
          · intro w hSw
            try dsimp only at hSw
            go_simp
            try with_reducible rfl
          simp only [Act.put, List.setIfInBounds_toArray, List.set_cons_zero, List.set_cons_succ]
          clear hHeld
          refine wpAnyH_done (by kernel_rfl) ?_ _
          refine NoPanic.normal ?_
          go_wp2_with fail
          go_meet
          have kk : Kp wc25 ((wc25.setCell ⟨wd.heap.size, 0, none⟩ (.slice pa r.1.length pc)).setCell ⟨wd.heap.size, 1, none⟩ (.slice qa r.2.1.length qc)) (fun k => k = wd.heap.size) := (set_kp wc25 _ 0 _).trans (set_kp _ _ 1 _)
          exact ⟨_, _, _, _, _, rfl, rfl, (lg.set 0 _ rfl).set 1 _ rfl, olp.kp kk (fun k h1 h2 e => by omega), by omega, ⟨by omega, by first | (simp; done) | (simp; omega), by omega⟩, bs⟩
      case rest =>
        obtain ⟨g9, uu, vv, lo9, hi9, rfl, rfl, W9, O9, d9, ⟨i9, j9, k9⟩, bq⟩ := hcut
        obtain ⟨q9, hq⟩ : ∃ q, wc = q := ⟨_, rfl⟩
        rw [hq] at W9 O9 j9 bq ⊢
        clear hq
        obtain ⟨ua9, uc9, rfl⟩ := O9.has.form
        obtain ⟨va9, vc9, rfl⟩ := O9.next.form
        have Bq9 := Bw13.trans (bq.mono Bw13.size)
        have lg9 := W9.lt
        have sq9 := bq.size
        have W5 := W5.below bq W5.lt
        have O5 := O5.below bq
        have W7 := W7.below bq W7.lt
        have c14 := c13.trans (bq.mono c13.size)
        clear bq c13 Bw13 Lw13 Xw13 TO RA IM
        have x0 := W9.cell 0 rfl
        have x1 := W9.cell 1 rfl
        have y0 := W5.cell 0 rfl
        have y1 := W5.cell 1 rfl
        go_wp2_with fail
        refine (eqLedger_yes _ _ _ _ r.1 r.2.1 _ (O9.ri rx ry) (O5.ri rx ry)).mono ?_
        rintro _ w15 ⟨rfl, b15⟩
        have W7 := W7.below b15 W7.lt
        have B15 := Bq9.trans (b15.mono Bq9.size)
        have c15 := c14.trans (b15.mono c14.size)
        have z0 := W7.cell 0 rfl
        have z1 := W7.cell 1 rfl
        clear x0 x1 y0 y1 b15 c14 Bq9 O9 W9 O5 W5
        go_wp2_with fail
        refine (heldLedger_any _ _ _ _ _ rx (unhide HH _ c15)).mono ?_
        rintro _ w16 ⟨rfl, b16⟩
        go_wp2
        go_ret
        exact ⟨rfl, B15.trans (b16.mono B15.size)⟩

theorem fnPay_walk (ao bo : Option Addr) (ca cb : Nat) (xs ys : List Int) (a b c d : Int) (w : World) (hn : xs.length ≤ maxLen) (hm : ys.length ≤ maxLen) (ha : AI w ao xs) (hb : AI w bo ys) :
    Calls Try.prog 8 #[lv (.slice ao xs.length ca) (.slice bo ys.length cb), txv a b c d] w fun e w' => e = .returned (.bool true) ∧ Below w.heap.size w w' := by
  unfold maxLen at hn hm
  by_cases h : xs.length + ys.length ≤ 1048576
  · exact fnPay_short ao bo ca cb xs ys a b c d w h ha hb
  · exact fnPay_long ao bo xs.length ca ys.length cb a b c d w (by omega) (by omega) (by omega)
end Go.Proofs.Ytlglekfmiacdnaa
