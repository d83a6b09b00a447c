/- PartQcs: PartQc of the specification. -/
import Derived.Test.YtmpmedbojfjnaaaGreatDoorFPAQ
import Derived.Test.YtmpmedbojfjnaaaGreatDoorFPBJ
import Derived.Test.YtmpmedbojfjnaaaGreatDoorFPAE
import Derived.Deep.RegionHeld3
import Derived.Deep.DeepCutAuto
namespace Go.Proofs.YtmpmedbojfjnaaaGreatDoor
open Go.RowKit
set_option linter.unusedSectionVars false
variable [∀ (a b c d : Int), Decidable (Ok4 a b c d)]
variable [∀ (a b c d : Nat), Decidable (okN a b c d)]
variable [∀ (last : Int) (s : St), Decidable (GoodSt last s)]
variable [∀ (x : T4), Decidable (OkT x)]
variable [∀ (n : Int) (s : List Int), Decidable (OkL n s)]
variable [∀ (n f : Int), Decidable (COk n f)]

theorem oi_empty (w : World) : OI (w.alloc (.cells #[] 3)) w.heap.size (.slice (some ⟨w.heap.size, 0, none⟩) 0 0) [] := by
 have := World.ownsRow_lit (base := w.heap.size) (e := 3) (size := 1) w #[] 0 (Nat.le_refl _) (by unfold maxLen; omega) (by simp)
 simpa [OI] using this

set_option maxHeartbeats 8000000 in
set_option maxRecDepth 100000 in
theorem specPartQc (n f m : Int) (s : ByteArray) (u : Value) (xs : List Int) (w : World) (hs : s.size ≤ 1048576) (hx : xs.length ≤ 4194304) (hu : RI w u xs) :
 Calls Tryz.prog 34 #[cv n f, qv m s u] w fun e w' => ∃ r, e = .returned (.tuple #[qv (if (decide (s ≠ ⟨#[]⟩) && qokB n f m s xs) then m else 0) (if (decide (s ≠ ⟨#[]⟩) && qokB n f m s xs) then s else ⟨#[]⟩) r, .bool (decide (s ≠ ⟨#[]⟩) && qokB n f m s xs)]) ∧ OI w' w.heap.size r (if (decide (s ≠ ⟨#[]⟩) && qokB n f m s xs) then xs else []) ∧ Below w.heap.size w w' := by
 obtain ⟨ua, uc, rfl⟩ := hu.form
 obtain ⟨w0, hw0⟩ : ∃ y, ((w.alloc (.cells #[.int .i64 n, .int .i64 f] 25)).alloc (.cells #[.int .i64 m, .string s, .slice ua xs.length uc] 52)).alloc zq = y := ⟨_, rfl⟩
 have B : Below w.heap.size w w0 := hw0 ▸ ((qalloc2 _ _ _).alloc (by simp; omega) _)
 have LC : Loc w0 w.heap.size #[.int .i64 n, .int .i64 f] := hw0 ▸ ((loc_at w _ _ rfl).alloc _).alloc _
 have LP : Loc w0 (w.heap.size + 1) #[.int .i64 m, .string s, .slice ua xs.length uc] := hw0 ▸ (loc_at (w.alloc _) _ _ (by simp)).alloc _
 have R : Loc w0 (w.heap.size + 1 + 1) #[.int .i64 0, .string ⟨#[]⟩, .slice none 0 0] := hw0 ▸ (loc_at ((w.alloc _).alloc _) _ _ (by simp))
 have s0 : w0.heap.size = w.heap.size + 1 + 1 + 1 := by rw [← hw0]; simp
 have PX := hide fun w' (hb : Below w0.heap.size w0 w') => ((hu.below B (Nat.le_refl _)).below hb (Nat.le_refl _)).pi
 have QK := hide fun a k w h => specQcOk n f m s a k xs w hs h
 obtain ⟨rb, hrb⟩ : ∃ b, (decide (s ≠ ⟨#[]⟩) && qokB n f m s xs) = b := ⟨_, rfl⟩
 rw [hrb]
 have HRB := hide hrb
 obtain ⟨k1, hk1⟩ : ∃ k, xs.length = k := ⟨_, rfl⟩
 rw [hk1] at LP PX QK hw0 hx ⊢
 clear hu hrb
 obtain ⟨r1, hr1⟩ : ∃ x, (if rb = true then m else 0) = x := ⟨_, rfl⟩
 obtain ⟨r2, hr2⟩ : ∃ x, (if rb = true then s else ⟨#[]⟩) = x := ⟨_, rfl⟩
 obtain ⟨r3, hr3⟩ : ∃ x, (if rb = true then xs else []) = x := ⟨_, rfl⟩
 rw [hr1, hr2, hr3]
 have H1 := hide hr1
 have H2 := hide hr2
 have H3 := hide hr3
 clear hr1 hr2 hr3
 have K : Hid (∀ w', Below w0.heap.size w0 w' → (fun w' => Below w0.heap.size w0 w' ∧ w'.cell? ⟨w.heap.size + 1, 0, none⟩ = some (.int .i64 m) ∧ w'.cell? ⟨w.heap.size + 1, 1, none⟩ = some (.string s) ∧ w'.cell? ⟨w.heap.size + 1, 2, none⟩ = some (.slice ua k1 uc)) w') := hide fun w' hb' => ⟨hb', (LP.below hb' LP.lt).cell 0 rfl, (LP.below hb' LP.lt).cell 1 rfl, (LP.below hb' LP.lt).cell 2 rfl⟩
 go_enter Tryz.func34, Tryz.ntmps34
 go_upto_region 1 with fail
 clear hw0
 go_cut [6] (fun c wx => ∃ h uu, c = .pointer (some ⟨h, 0, none⟩) ∧ w0.heap.size ≤ h ∧ h < wx.heap.size ∧ Loc wx h #[.int .i64 m, .string s, uu] ∧ OI wx w0.heap.size uu xs ∧ Below w0.heap.size w0 wx)
 ·refine wp_region_noPanic ?_
  refine wp_region_held_drew (S := fun w' => Below w0.heap.size w0 w' ∧ w'.cell? ⟨w.heap.size + 1, 0, none⟩ = some (.int .i64 m) ∧ w'.cell? ⟨w.heap.size + 1, 1, none⟩ = some (.string s) ∧ w'.cell? ⟨w.heap.size + 1, 2, none⟩ = some (.slice ua k1 uc)) (by kernel_rfl) (unhide K _ (Below.drew (Below.refl _ _))) (fun hHeld => ?_)
  obtain ⟨wd, hd⟩ : ∃ wd, w0.drew = wd := ⟨_, rfl⟩
  have bd : Below w0.heap.size w0 wd := hd ▸ Below.drew (Below.refl _ _)
  have szd := bd.size
  rw [hd] at hHeld ⊢
  clear hd
  refine tk 0 7 (v := ?_) rfl (hy := .inl ⟨by rfl, ?_⟩) (h := ?_); rotate_left
  ·intro w hSw; (try dsimp only at hSw); go_simp; (try with_reducible rfl)
  simp only [pU]
  refine tk 2 9 (v := ?_) rfl (hy := .inl ⟨by rfl, ?_⟩) (h := ?_); rotate_left
  ·intro w hSw; (try dsimp only at hSw); go_simp; (try with_reducible rfl)
  simp only [pU]
  refine tk 5 12 (v := ?_) rfl (hy := .inl ⟨by rfl, ?_⟩) (h := ?_); rotate_left
  ·intro w hSw; (try dsimp only at hSw); go_simp; (try with_reducible rfl)
  simp only [pU]
  refine tk 1 8 (v := ?_) rfl (hy := .inl ⟨by rfl, ?_⟩) (h := ?_); rotate_left
  ·intro w hSw; (try dsimp only at hSw); go_simp; (try with_reducible rfl)
  simp only [pU]
  refine tk 3 10 (v := ?_) rfl (hy := .inl ⟨by rfl, ?_⟩) (h := ?_); rotate_left
  ·intro w hSw; (try dsimp only at hSw); go_simp; (try with_reducible rfl)
  simp only [pU]
  refine tk 6 13 (v := ?_) rfl (hy := .inl ⟨by rfl, ?_⟩) (h := ?_); rotate_left
  ·intro w hSw; (try dsimp only at hSw); go_simp; (try with_reducible rfl)
  simp only [pU]
  refine wpAnyH_ready (rs := [4, 9]) (by kernel_rfl) (by simp) (AllReadyH.cons rfl (fun KK hKK => ?_) (AllReadyH.cons rfl (fun KK hKK => ?_) AllReadyH.nil))
  ·go_simp
   obtain ⟨we1, hwe1⟩ : ∃ y, wd.alloc (.cells #[] 3) = y := ⟨_, rfl⟩
   have cbe2 : Below wd.heap.size wd we1 := hwe1 ▸ qalloc _ _
   have oE : OI we1 wd.heap.size (.slice (some ⟨wd.heap.size, 0, none⟩) 0 0) [] := hwe1 ▸ oi_empty wd
   have be2 : Below w0.heap.size w0 we1 := bd.trans (cbe2.mono bd.size)
   have zwe1 : we1.heap.size = wd.heap.size + 1 := by rw [← hwe1]; simp
   rw [hwe1]
   clear hwe1 cbe2
   clear hHeld
   refine hKK.out _ _ (unhide K _ be2) (fun hHeld => ?_)
   clear hKK KK
   try simp only [pU]
   refine wpAnyH_ready (rs := [7, 9]) (by kernel_rfl) (by simp) (AllReadyH.cons rfl (fun KK hKK => ?_) (AllReadyH.cons rfl (fun KK hKK => ?_) AllReadyH.nil))
   ·refine step_append_ints rfl (.tmp 11) (.tmp 13) rfl (wd.heap.size) (.slice (some ⟨wd.heap.size, 0, none⟩) 0 0) (.slice ua k1 uc) [] xs rfl rfl oE (unhide PX _ be2) (by simp; omega) (by omega) ?_
    intro v1 wp3 o7 g7 hb7
    have r7 : ∀ j, (Value.slice (some ⟨wd.heap.size, 0, none⟩) 0 0).ownBlock = some j → j = wd.heap.size := fun j e => by simp [Value.ownBlock] at e; omega
    have bp4 : Below w0.heap.size w0 wp3 := be2.grown g7 be2.size (fun j e => by have := r7 j e; omega)
    have zwp3 := g7.size
    have tA := World.ownsRow.lt o7
    have oA : OI wp3 (wd.heap.size) v1 xs := by simpa using o7
    have hap : ∀ j, v1.ownBlock = some j → j = wd.heap.size ∨ j = we1.heap.size := fun j hj => by rcases hb7 with e | e; (left; exact r7 j (by rw [← e]; exact hj)); (right; rw [hj] at e; injection e with e)
    obtain ⟨va, vc, rfl⟩ := oA.form
    rw [hk1] at oA tA hap ⊢
    clear oE g7 r7 o7 hb7
    clear hHeld
    refine hKK.out _ _ (unhide K _ bp4) (fun hHeld => ?_)
    clear hKK KK
    try simp only [Act.put, List.setIfInBounds_toArray]
    refine tk 8 15 (v := ?_) rfl (hy := .inl ⟨by rfl, ?_⟩) (h := ?_); rotate_left
    ·intro w hSw; (try dsimp only at hSw); go_simp; (try with_reducible rfl)
    simp only [Act.put]
    refine ready_at (i := 9) rfl (by kernel_rfl) (fun KK hKK => ?_)
    go_simp
    obtain ⟨wl5, hwl5⟩ : ∃ y, wp3.alloc (.cells #[.int .i64 0, .string ⟨#[]⟩, .slice none 0 0] 28) = y := ⟨_, rfl⟩
    have cbl6 : Below wp3.heap.size wp3 wl5 := hwl5 ▸ qalloc _ _
    have lg : Loc wl5 wp3.heap.size #[.int .i64 0, .string ⟨#[]⟩, .slice none 0 0] := hwl5 ▸ loc_at wp3 _ _ rfl
    have bl6 : Below w0.heap.size w0 wl5 := bp4.trans (cbl6.mono bp4.size)
    have zwl5 : wl5.heap.size = wp3.heap.size + 1 := by rw [← hwl5]; simp
    replace oA := oA.below cbl6
    rw [hwl5]
    clear hwl5 cbl6
    clear hHeld
    refine hKK.out _ _ (unhide K _ bl6) (fun hHeld => ?_)
    clear hKK KK
    try simp only [pU]
    have q0 := lg.cell 0 rfl
    have q1 := lg.cell 1 rfl
    have q2 := lg.cell 2 rfl
    have FG := lg.frozen
    refine ready_at (i := 10) rfl (by kernel_rfl) (fun KK hKK => ?_)
    go_simp
    have bs : Below w0.heap.size w0 (((wl5.setCell ⟨wp3.heap.size, 0, none⟩ (.int .i64 m)).setCell ⟨wp3.heap.size, 1, none⟩ (.string s)).setCell ⟨wp3.heap.size, 2, none⟩ (.slice va k1 vc)) := ((bl6.setCell (p := ⟨wp3.heap.size, 0, none⟩) (by show w0.heap.size ≤ wp3.heap.size; omega) _).setCell (p := ⟨wp3.heap.size, 1, none⟩) (by show w0.heap.size ≤ wp3.heap.size; omega) _).setCell (p := ⟨wp3.heap.size, 2, none⟩) (by show w0.heap.size ≤ wp3.heap.size; omega) _
    clear hHeld
    refine hKK.out _ _ (unhide K _ bs) (fun hHeld => ?_)
    clear hKK KK
    try simp only [pU]
    clear hHeld
    refine wpAnyH_done (by kernel_rfl) ?_ _
    refine NoPanic.normal ?_
    go_wp2_with fail
    go_meet
    have ll := lg.lt
    have k3 : Kp wl5 (((wl5.setCell ⟨wp3.heap.size, 0, none⟩ (.int .i64 m)).setCell ⟨wp3.heap.size, 1, none⟩ (.string s)).setCell ⟨wp3.heap.size, 2, none⟩ (.slice va k1 vc)) (fun k => k = wp3.heap.size) := ((set_kp _ _ _ _).trans (set_kp _ _ _ _)).trans (set_kp _ _ _ _)
    exact ⟨_, _, rfl, by omega, by simpa using ll, ((lg.set 0 _ rfl).set 1 _ rfl).set 2 _ rfl, OI.mono (oA.kp k3 (fun j hj e => by have h8 := hap j hj; have h9 := (tA j hj).2; omega)) (by omega), bs⟩
   ·go_simp
    obtain ⟨wl7, hwl7⟩ : ∃ y, we1.alloc (.cells #[.int .i64 0, .string ⟨#[]⟩, .slice none 0 0] 28) = y := ⟨_, rfl⟩
    have cbl8 : Below we1.heap.size we1 wl7 := hwl7 ▸ qalloc _ _
    have lg : Loc wl7 we1.heap.size #[.int .i64 0, .string ⟨#[]⟩, .slice none 0 0] := hwl7 ▸ loc_at we1 _ _ rfl
    have bl8 : Below w0.heap.size w0 wl7 := be2.trans (cbl8.mono be2.size)
    have zwl7 : wl7.heap.size = we1.heap.size + 1 := by rw [← hwl7]; simp
    replace oE := oE.below cbl8
    rw [zwe1] at lg
    rw [hwl7]
    clear hwl7 cbl8
    clear hHeld
    refine hKK.out _ _ (unhide K _ bl8) (fun hHeld => ?_)
    clear hKK KK
    try simp only [pU]
    refine wpAnyH_ready (rs := [7]) (by kernel_rfl) (by simp) (AllReadyH.cons rfl (fun KK hKK => ?_) AllReadyH.nil)
    refine step_append_ints rfl (.tmp 11) (.tmp 13) rfl (wd.heap.size) (.slice (some ⟨wd.heap.size, 0, none⟩) 0 0) (.slice ua k1 uc) [] xs rfl rfl oE (unhide PX _ bl8) (by simp; omega) (by omega) ?_
    intro v1 wp9 o7 g7 hb7
    have r7 : ∀ j, (Value.slice (some ⟨wd.heap.size, 0, none⟩) 0 0).ownBlock = some j → j = wd.heap.size := fun j e => by simp [Value.ownBlock] at e; omega
    have bp10 : Below w0.heap.size w0 wp9 := bl8.grown g7 bl8.size (fun j e => by have := r7 j e; omega)
    have zwp9 := g7.size
    have tA := World.ownsRow.lt o7
    have oA : OI wp9 (wd.heap.size) v1 xs := by simpa using o7
    replace lg := lg.kp (kp_grown g7) (fun e => by have := r7 _ e; omega)
    have hap : ∀ j, v1.ownBlock = some j → j = wd.heap.size ∨ j = wl7.heap.size := fun j hj => by rcases hb7 with e | e; (left; exact r7 j (by rw [← e]; exact hj)); (right; rw [hj] at e; injection e with e)
    obtain ⟨va, vc, rfl⟩ := oA.form
    rw [hk1] at oA tA hap ⊢
    clear oE g7 r7 o7 hb7
    clear hHeld
    refine hKK.out _ _ (unhide K _ bp10) (fun hHeld => ?_)
    clear hKK KK
    try simp only [Act.put, List.setIfInBounds_toArray]
    refine tk 8 15 (v := ?_) rfl (hy := .inl ⟨by rfl, ?_⟩) (h := ?_); rotate_left
    ·intro w hSw; (try dsimp only at hSw); go_simp; (try with_reducible rfl)
    simp only [Act.put]
    have q0 := lg.cell 0 rfl
    have q1 := lg.cell 1 rfl
    have q2 := lg.cell 2 rfl
    have FG := lg.frozen
    refine ready_at (i := 10) rfl (by kernel_rfl) (fun KK hKK => ?_)
    go_simp
    have bs : Below w0.heap.size w0 (((wp9.setCell ⟨wd.heap.size + 1, 0, none⟩ (.int .i64 m)).setCell ⟨wd.heap.size + 1, 1, none⟩ (.string s)).setCell ⟨wd.heap.size + 1, 2, none⟩ (.slice va k1 vc)) := ((bp10.setCell (p := ⟨wd.heap.size + 1, 0, none⟩) (by show w0.heap.size ≤ wd.heap.size + 1; omega) _).setCell (p := ⟨wd.heap.size + 1, 1, none⟩) (by show w0.heap.size ≤ wd.heap.size + 1; omega) _).setCell (p := ⟨wd.heap.size + 1, 2, none⟩) (by show w0.heap.size ≤ wd.heap.size + 1; omega) _
    clear hHeld
    refine hKK.out _ _ (unhide K _ bs) (fun hHeld => ?_)
    clear hKK KK
    try simp only [pU]
    clear hHeld
    refine wpAnyH_done (by kernel_rfl) ?_ _
    refine NoPanic.normal ?_
    go_wp2_with fail
    go_meet
    have ll := lg.lt
    have k3 : Kp wp9 (((wp9.setCell ⟨wd.heap.size + 1, 0, none⟩ (.int .i64 m)).setCell ⟨wd.heap.size + 1, 1, none⟩ (.string s)).setCell ⟨wd.heap.size + 1, 2, none⟩ (.slice va k1 vc)) (fun k => k = wd.heap.size + 1) := ((set_kp _ _ _ _).trans (set_kp _ _ _ _)).trans (set_kp _ _ _ _)
    exact ⟨_, _, rfl, by omega, by simpa using ll, ((lg.set 0 _ rfl).set 1 _ rfl).set 2 _ rfl, OI.mono (oA.kp k3 (fun j hj e => by have h8 := hap j hj;  omega)) (by omega), bs⟩
  ·go_simp
   obtain ⟨wl11, hwl11⟩ : ∃ y, wd.alloc (.cells #[.int .i64 0, .string ⟨#[]⟩, .slice none 0 0] 28) = y := ⟨_, rfl⟩
   have cbl12 : Below wd.heap.size wd wl11 := hwl11 ▸ qalloc _ _
   have lg : Loc wl11 wd.heap.size #[.int .i64 0, .string ⟨#[]⟩, .slice none 0 0] := hwl11 ▸ loc_at wd _ _ rfl
   have bl12 : Below w0.heap.size w0 wl11 := bd.trans (cbl12.mono bd.size)
   have zwl11 : wl11.heap.size = wd.heap.size + 1 := by rw [← hwl11]; simp
   rw [hwl11]
   clear hwl11 cbl12
   clear hHeld
   refine hKK.out _ _ (unhide K _ bl12) (fun hHeld => ?_)
   clear hKK KK
   try simp only [pU]
   refine ready_at (i := 4) rfl (by kernel_rfl) (fun KK hKK => ?_)
   go_simp
   obtain ⟨we13, hwe13⟩ : ∃ y, wl11.alloc (.cells #[] 3) = y := ⟨_, rfl⟩
   have cbe14 : Below wl11.heap.size wl11 we13 := hwe13 ▸ qalloc _ _
   have oE : OI we13 wl11.heap.size (.slice (some ⟨wl11.heap.size, 0, none⟩) 0 0) [] := hwe13 ▸ oi_empty wl11
   have be14 : Below w0.heap.size w0 we13 := bl12.trans (cbe14.mono bl12.size)
   have zwe13 : we13.heap.size = wl11.heap.size + 1 := by rw [← hwe13]; simp
   replace lg := lg.below cbe14 lg.lt
   rw [zwl11] at oE
   rw [hwe13]
   clear hwe13 cbe14
   clear hHeld
   refine hKK.out _ _ (unhide K _ be14) (fun hHeld => ?_)
   clear hKK KK
   try simp only [pU]
   refine wpAnyH_ready (rs := [7]) (by kernel_rfl) (by simp) (AllReadyH.cons rfl (fun KK hKK => ?_) AllReadyH.nil)
   refine step_append_ints rfl (.tmp 11) (.tmp 13) rfl (wd.heap.size + 1) (.slice (some ⟨wd.heap.size + 1, 0, none⟩) 0 0) (.slice ua k1 uc) [] xs rfl rfl oE (unhide PX _ be14) (by simp; omega) (by omega) ?_
   intro v1 wp15 o7 g7 hb7
   have r7 : ∀ j, (Value.slice (some ⟨wd.heap.size + 1, 0, none⟩) 0 0).ownBlock = some j → j = wd.heap.size + 1 := fun j e => by simp [Value.ownBlock] at e; omega
   have bp16 : Below w0.heap.size w0 wp15 := be14.grown g7 be14.size (fun j e => by have := r7 j e; omega)
   have zwp15 := g7.size
   have tA := World.ownsRow.lt o7
   have oA : OI wp15 (wd.heap.size + 1) v1 xs := by simpa using o7
   replace lg := lg.kp (kp_grown g7) (fun e => by have := r7 _ e; omega)
   have hap : ∀ j, v1.ownBlock = some j → j = wd.heap.size + 1 ∨ j = we13.heap.size := fun j hj => by rcases hb7 with e | e; (left; exact r7 j (by rw [← e]; exact hj)); (right; rw [hj] at e; injection e with e)
   obtain ⟨va, vc, rfl⟩ := oA.form
   rw [hk1] at oA tA hap ⊢
   clear oE g7 r7 o7 hb7
   clear hHeld
   refine hKK.out _ _ (unhide K _ bp16) (fun hHeld => ?_)
   clear hKK KK
   try simp only [Act.put, List.setIfInBounds_toArray]
   refine tk 8 15 (v := ?_) rfl (hy := .inl ⟨by rfl, ?_⟩) (h := ?_); rotate_left
   ·intro w hSw; (try dsimp only at hSw); go_simp; (try with_reducible rfl)
   simp only [Act.put]
   have q0 := lg.cell 0 rfl
   have q1 := lg.cell 1 rfl
   have q2 := lg.cell 2 rfl
   have FG := lg.frozen
   refine ready_at (i := 10) rfl (by kernel_rfl) (fun KK hKK => ?_)
   go_simp
   have bs : Below w0.heap.size w0 (((wp15.setCell ⟨wd.heap.size, 0, none⟩ (.int .i64 m)).setCell ⟨wd.heap.size, 1, none⟩ (.string s)).setCell ⟨wd.heap.size, 2, none⟩ (.slice va k1 vc)) := ((bp16.setCell (p := ⟨wd.heap.size, 0, none⟩) (by show w0.heap.size ≤ wd.heap.size; omega) _).setCell (p := ⟨wd.heap.size, 1, none⟩) (by show w0.heap.size ≤ wd.heap.size; omega) _).setCell (p := ⟨wd.heap.size, 2, none⟩) (by show w0.heap.size ≤ wd.heap.size; omega) _
   clear hHeld
   refine hKK.out _ _ (unhide K _ bs) (fun hHeld => ?_)
   clear hKK KK
   try simp only [pU]
   clear hHeld
   refine wpAnyH_done (by kernel_rfl) ?_ _
   refine NoPanic.normal ?_
   go_wp2_with fail
   go_meet
   have ll := lg.lt
   have k3 : Kp wp15 (((wp15.setCell ⟨wd.heap.size, 0, none⟩ (.int .i64 m)).setCell ⟨wd.heap.size, 1, none⟩ (.string s)).setCell ⟨wd.heap.size, 2, none⟩ (.slice va k1 vc)) (fun k => k = wd.heap.size) := ((set_kp _ _ _ _).trans (set_kp _ _ _ _)).trans (set_kp _ _ _ _)
   exact ⟨_, _, rfl, by omega, by simpa using ll, ((lg.set 0 _ rfl).set 1 _ rfl).set 2 _ rfl, OI.mono (oA.kp k3 (fun j hj e => by have h8 := hap j hj;  omega)) (by omega), bs⟩
 case rest =>
  clear K PX
  obtain ⟨h, uu, rfl, l1, l2, X, O, bb⟩ := hcut
  obtain ⟨qa, qc, rfl⟩ := O.form
  rw [hk1] at X O
  replace B := B.trans (bb.mono B.size)
  have sx := bb.size
  replace LC := LC.below bb LC.lt
  replace LP := LP.below bb LP.lt
  replace R := R.below bb R.lt
  clear bb
  by_cases he : s = ⟨#[]⟩
  ·have hy : (s.toList == []) = true := by rw [he, ByteArray.toList_eq]; rfl
   have hb : rb = false := by rw [← unhide HRB, he]; rfl
   subst hb
   have e1 : r1 = 0 := by rw [← unhide H1]; rfl
   have e2 : r2 = ⟨#[]⟩ := by rw [← unhide H2]; rfl
   have e3 : r3 = [] := by rw [← unhide H3]; rfl
   subst e1 e2 e3
   clear he HRB H1 H2 H3 QK X O LC
   have p1 := LP.cell 1 rfl
   have r0 := R.cell 0 rfl
   have r1' := R.cell 1 rfl
   have r2' := R.cell 2 rfl
   have fr := R.frozen
   have k3 : Kp wc (((wc.setCell ⟨w.heap.size + 1 + 1, 0, none⟩ (.int .i64 0)).setCell ⟨w.heap.size + 1 + 1, 1, none⟩ (.string ⟨#[]⟩)).setCell ⟨w.heap.size + 1 + 1, 2, none⟩ (.slice none 0 0)) (fun k => k = w.heap.size + 1 + 1) := ((set_kp _ _ _ _).trans (set_kp _ _ _ _)).trans (set_kp _ _ _ _)
   clear R
   go_wp2
   refine bodyPost_ret (v := .tuple #[qv 0 ⟨#[]⟩ (.slice none 0 0), .bool false]) (by simp [results, Tryz.results34, go_sem, r0, r1', r2']) rfl ?_
   exact ⟨_, rfl, World.ownsRow_nil _ _ _ _, Below.kp B k3 B.size (fun k hk => by omega)⟩
  ·have hy : (s.toList == []) = false := by
    cases hz : (s.toList == [])
    ·rfl
    ·exact absurd (by have hz' : s.toList = [] := by simpa using hz
                      rw [ByteArray.toList_eq] at hz'; cases s with | mk d => simp at hz'; rw [hz']) he
   have c0 := LC.cell 0 rfl
   have c1 := LC.cell 1 rfl
   have p1 := LP.cell 1 rfl
   have x0 := X.cell 0 rfl
   have x1 := X.cell 1 rfl
   have x2 := X.cell 2 rfl
   go_wp2_with fail
   refine (unhide QK _ _ _ (O.ri (by omega))).mono ?_
   rintro _ w1 ⟨rfl, bb⟩
   clear c0 c1 p1 x0 x1 x2
   replace B := B.trans (bb.mono B.size)
   have s1 := bb.size
   replace X := X.below bb X.lt
   replace R := R.below bb R.lt
   replace O := O.below bb
   clear bb QK LC LP
   have hb : rb = qokB n f m s xs := by rw [← unhide HRB]; simp [he]
   rw [← hb]
   clear hb he HRB
   cases rb
   ·have e1 : r1 = 0 := by rw [← unhide H1]; rfl
    have e2 : r2 = ⟨#[]⟩ := by rw [← unhide H2]; rfl
    have e3 : r3 = [] := by rw [← unhide H3]; rfl
    subst e1 e2 e3
    clear H1 H2 H3 X O
    have r0 := R.cell 0 rfl
    have r1' := R.cell 1 rfl
    have r2' := R.cell 2 rfl
    have fr := R.frozen
    have k3 : Kp w1 (((w1.setCell ⟨w.heap.size + 1 + 1, 0, none⟩ (.int .i64 0)).setCell ⟨w.heap.size + 1 + 1, 1, none⟩ (.string ⟨#[]⟩)).setCell ⟨w.heap.size + 1 + 1, 2, none⟩ (.slice none 0 0)) (fun k => k = w.heap.size + 1 + 1) := ((set_kp _ _ _ _).trans (set_kp _ _ _ _)).trans (set_kp _ _ _ _)
    clear R
    go_wp2
    refine bodyPost_ret (v := .tuple #[qv 0 ⟨#[]⟩ (.slice none 0 0), .bool false]) (by simp [results, Tryz.results34, go_sem, r0, r1', r2']) rfl ?_
    exact ⟨_, rfl, World.ownsRow_nil _ _ _ _, Below.kp B k3 B.size (fun k hk => by omega)⟩
   ·have e1 : r1 = m := by rw [← unhide H1]; rfl
    have e2 : r2 = s := by rw [← unhide H2]; rfl
    have e3 : r3 = xs := by rw [← unhide H3]; rfl
    subst e1 e2 e3
    clear H1 H2 H3
    have x0 := X.cell 0 rfl
    have x1 := X.cell 1 rfl
    have x2 := X.cell 2 rfl
    have r0 := R.cell 0 rfl
    have r1' := R.cell 1 rfl
    have r2' := R.cell 2 rfl
    have fr := R.frozen
    have k3 : Kp w1 (((w1.setCell ⟨w.heap.size + 1 + 1, 0, none⟩ (.int .i64 r1)).setCell ⟨w.heap.size + 1 + 1, 1, none⟩ (.string r2)).setCell ⟨w.heap.size + 1 + 1, 2, none⟩ (.slice qa k1 qc)) (fun k => k = w.heap.size + 1 + 1) := ((set_kp _ _ _ _).trans (set_kp _ _ _ _)).trans (set_kp _ _ _ _)
    have tO := World.ownsRow.lt O
    clear X R
    go_wp2
    refine bodyPost_ret (v := .tuple #[qv r1 r2 (.slice qa k1 qc), .bool true]) (by simp [results, Tryz.results34, go_sem, r0, r1', r2']) rfl ?_
    exact ⟨_, rfl, (O.kp k3 (fun j hj e => by have := tO j hj; omega)).mono (by omega), Below.kp B k3 B.size (fun k hk => by omega)⟩
end Go.Proofs.YtmpmedbojfjnaaaGreatDoor
