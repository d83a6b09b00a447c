/- Texts that belong together: ContainsTx, BlockNews, StepAppend, DrawConf. -/
import Derived.Test.YtcclbejpgiogaaaGreatDoorNBAF
import Derived.Test.YtcclbejpgiogaaaGreatDoorNBAA
import Derived.Test.YtcclbejpgiogaaaGreatDoorNBAT
import Derived.Test.YtcclbejpgiogaaaGreatDoorNBAO
import Derived.Test.YtcclbejpgiogaaaGreatDoorNBAS
import Derived.Test.YtcclbejpgiogaaaGreatDoorNBAJ
import Derived.Test.YtcclbejpgiogaaaGreatDoorNBAE
import Derived.Lib.Builder
import Derived.Lib.AppendStr
import Derived.Test.YtcclbejpgiogaaaGreatDoorNBAU
import Derived.Deep.DeepCutAuto
import Derived.Maps.AppendAt
import Derived.Deep.RegionLaw
set_option maxRecDepth 100000
set_option maxHeartbeats 8000000
namespace Go.Proofs.YtcclbejpgiogaaaGreatDoor
open Go.RowKit
set_option linter.unusedSectionVars false
variable [∀ (a b c d : Int), Decidable (Ok4 a b c d)]

abbrev z4 : T4 := (0, 0, 0, 0)
def AllOk (ts : List T4) : Prop := ∀ k, k < ts.length → Ok4 (ts.getD k z4).1 (ts.getD k z4).2.1 (ts.getD k z4).2.2.1 (ts.getD k z4).2.2.2
variable [∀ (ts : List T4), Decidable (AllOk ts)]
def Cells4K (w : World) (g k : Nat) (t : T4) : Prop := w.cell? ⟨g, k * 4, none⟩ = some (.int .i64 t.1) ∧ w.cell? ⟨g, k * 4 + 1, none⟩ = some (.int .i64 t.2.1) ∧ w.cell? ⟨g, k * 4 + 2, none⟩ = some (.int .i64 t.2.2.1) ∧ w.cell? ⟨g, k * 4 + 3, none⟩ = some (.int .i64 t.2.2.2)
theorem RT.at {w : World} {ao : Option Addr} {n ca : Nat} {xs : List T4} (h : RT w (.slice ao n ca) xs) (k : Nat) (hk : k < xs.length) : ∃ g, ao = some ⟨g, 0, none⟩ ∧ Cells4K w g k (xs.getD k z4) := by
 obtain ⟨_, ao', ca', e, h⟩ := h
 cases e
 rcases h with rfl | ⟨g, rfl, h⟩
 ·simp at hk
 ·exact ⟨g, rfl, h k hk⟩
theorem RT.form {w : World} {v : Value} {xs : List T4} (h : RT w v xs) : ∃ ao ca, v = .slice ao xs.length ca := by obtain ⟨_, ao, ca, e, _⟩ := h; exact ⟨ao, ca, e⟩
theorem Cells4K.below {w w' : World} {B g k : Nat} {t : T4} (h : Cells4K w g k t) (hb : Below B w w') (hg : w.heap.size ≤ B) : Cells4K w' g k t := by
 have hl : g < B := Nat.lt_of_lt_of_le (cell_lt h.1) hg
 exact ⟨(hb.cell (p := ⟨g, k * 4, none⟩) hl).trans h.1, (hb.cell (p := ⟨g, k * 4 + 1, none⟩) hl).trans h.2.1, (hb.cell (p := ⟨g, k * 4 + 2, none⟩) hl).trans h.2.2.1, (hb.cell (p := ⟨g, k * 4 + 3, none⟩) hl).trans h.2.2.2⟩

end Go.Proofs.YtcclbejpgiogaaaGreatDoor
namespace Go.Proofs.YtcclbejpgiogaaaGreatDoor
open Go.RowKit
set_option linter.unusedSectionVars false
variable [∀ (a b c d : Int), Decidable (Ok4 a b c d)]
variable [∀ (a b c d : Nat), Decidable (okN a b c d)]
variable [∀ (last : Int) (s : St), Decidable (GoodSt last s)]
variable [∀ (x : T4), Decidable (OkT x)]
variable [∀ (n : Int) (s : List Int), Decidable (OkL n s)]
variable [∀ (n f : Int), Decidable (COk n f)]
variable [∀ (ts : List T4), Decidable (AllOk ts)]

theorem specBlockNew (n f v : Int) (s : ByteArray) (ao : Option Addr) (ca : Nat) (xs : List Int) (view : Int) (lv : Value) (ts : List T4) (w : World) (hq : s.size ≤ 1048576) (hs : s.size + ts.length * 28 + 100 ≤ 33554432) (hx : ts.length ≤ 1048577) (h0 : -9223372036854775808 ≤ view) (h1 : view ≤ 9223372036854775807) (ht : RT w lv ts) (ha : RI w (.slice ao xs.length ca) xs) :
 Calls Tryz.prog 90 #[cv n f, qv v s (.slice ao xs.length ca), .int .i64 view, lv] w fun e w' => ∃ u, e = .returned (.tuple #[bv (if bnewB n f v s xs view ts then nameAns s view ts else ⟨#[]⟩) (if bnewB n f v s xs view ts then v else 0) (if bnewB n f v s xs view ts then s else ⟨#[]⟩) u, .bool (bnewB n f v s xs view ts)]) ∧ OI w' w.heap.size u (if bnewB n f v s xs view ts then xs else []) ∧ Below w.heap.size w w' := by
 obtain ⟨w0, hw0⟩ : ∃ w0, ((w.alloc (.cells #[.int .i64 n, .int .i64 f] 25)).alloc (.cells #[.int .i64 v, .string s, .slice ao xs.length ca] 28)).alloc (.cells #[.string ⟨#[]⟩, .int .i64 0, .string ⟨#[]⟩, .slice none 0 0] 93) = w0 := ⟨_, rfl⟩
 have Bw0 : Below w.heap.size w w0 := hw0 ▸ ((qalloc2 _ _ _).alloc (by simp; omega) _)
 have LC : Loc w0 w.heap.size #[.int .i64 n, .int .i64 f] := hw0 ▸ ((loc_at w _ _ rfl).alloc _).alloc _
 have LQ : Loc w0 (w.heap.size + 1) #[.int .i64 v, .string s, .slice ao xs.length ca] := hw0 ▸ (loc_at (w.alloc _) _ _ (by simp)).alloc _
 have LZ : Loc w0 (w.heap.size + 1 + 1) #[.string ⟨#[]⟩, .int .i64 0, .string ⟨#[]⟩, .slice none 0 0] := hw0 ▸ loc_at ((w.alloc _).alloc _) _ _ (by simp)
 have s0 : w0.heap.size = w.heap.size + 1 + 1 + 1 := by rw [← hw0]; simp
 have hnl : (nameAns s view ts).size ≤ 1920 := nameAns_len _ _ _
 have NM := hide fun w' (b : Below w0.heap.size w0 w') => specNameOfW s view lv ts w' hs hx h0 h1 ((ht.below Bw0).below b)
 have TO := hide fun w' (b : Below w0.heap.size w0 w') => l7Copy_any v s (.slice ao xs.length ca) xs w' ((ha.below Bw0).below b)
 have OK := hide fun a k w' (_ : Below w0.heap.size w0 w') h => specBlockOk n f (nameAns s view ts) v s a k xs w' (by omega) (by omega) h
 have VO := hide fun w' (_ : Below w0.heap.size w0 w') => specViewOf (nameAns s view ts) w' (by omega)
 have hB : bnewB n f v s xs view ts = (bokB n f (nameAns s view ts) v s xs && (viewAns (nameAns s view ts) == view)) := rfl
 have hl := ha.1
 clear ht ha
 generalize bokB n f (nameAns s view ts) v s xs = q at *
 generalize viewAns (nameAns s view ts) = vw at *
 generalize nameAns s view ts = m at *
 have HB := hide hB
 clear hB
 go_enter Tryz.func90, Tryz.ntmps90
 have Bx := Below.refl w0.heap.size w0
 have LQh := LQ
 have K : Hid (∀ w', Below w0.heap.size w0 w' → (fun w' => Below w0.heap.size w0 w' ∧ (w'.cell? ⟨w.heap.size + 1, 0, none⟩ = some (.int .i64 v) ∧ w'.cell? ⟨w.heap.size + 1, 1, none⟩ = some (.string s) ∧ w'.cell? ⟨w.heap.size + 1, 2, none⟩ = some (.slice ao xs.length ca))) w') := hide fun w' hb' => ⟨hb', ⟨(LQ.up hb').cell 0 rfl, (LQ.up hb').cell 1 rfl, (LQ.up hb').cell 2 rfl⟩⟩
 go_upto_region 1 with fail
 clear hw0
 go_cut [10] (fun c  wx => ∃ h uu, c = .pointer (some ⟨h, 0, none⟩) ∧ w0.heap.size ≤ h ∧ h < wx.heap.size ∧ Loc wx h #[.string m, .int .i64 v, .string s, uu] ∧ OI wx w0.heap.size uu xs ∧ (∀ j, uu.ownBlock = some j → w0.heap.size ≤ j ∧ j < wx.heap.size ∧ j ≠ h) ∧ Below w0.heap.size w0 wx)
 case first =>
  refine wp_region_noPanic ?_
  refine wp_region_held_drew (S := fun w' => Below w0.heap.size w0 w' ∧ (w'.cell? ⟨w.heap.size + 1, 0, none⟩ = some (.int .i64 v) ∧ w'.cell? ⟨w.heap.size + 1, 1, none⟩ = some (.string s) ∧ w'.cell? ⟨w.heap.size + 1, 2, none⟩ = some (.slice ao xs.length ca))) (by kernel_rfl) (K.out _ (Below.drew (Below.refl _ _))) (fun hHeld => ?_)
  obtain ⟨wd, hd⟩ : ∃ wd, w0.drew = wd := ⟨_, rfl⟩
  have bd : Below w0.heap.size w0 wd := hd ▸ Below.drew (Below.refl _ _)
  have szd := bd.size
  rw [hd] at hHeld ⊢
  clear hd
  refine' tj 0 11 rfl ?_ ?_;rotate_left
  ·intro w h; (try dsimp only at h); go_simp; try with_reducible rfl
  simp only [pU]
  refine' tj 2 13 rfl ?_ ?_;rotate_left
  ·intro w h; (try dsimp only at h); go_simp; try with_reducible rfl
  simp only [pU]
  refine' tj 3 14 rfl ?_ ?_;rotate_left
  ·intro w h; (try dsimp only at h); go_simp; try with_reducible rfl
  simp only [pU]
  refine' tj 5 16 rfl ?_ ?_;rotate_left
  ·intro w h; (try dsimp only at h); go_simp; try with_reducible rfl
  simp only [pU]
  refine' tj 1 12 rfl ?_ ?_;rotate_left
  ·intro w h; (try dsimp only at h); go_simp; try with_reducible rfl
  simp only [pU]
  refine wpAnyH_ready (rs := [4, 8]) (by kernel_rfl) (by simp) (AllReadyH.cons rfl (fun KK hKK => ?_) (AllReadyH.cons rfl (fun KK hKK => ?_) AllReadyH.nil))
  ·go_simp
   have hgo := bd
   refine (NM.out _ hgo).mono ?_
   rintro e wc1_1 ⟨rfl, bnew⟩
   have bc1_2 : Below w0.heap.size w0 wc1_1 := bu bd bnew
   have zzwc1_1 := bnew.size
   clear hHeld bnew hgo
   refine hKK.out _ _ (K.out _ bc1_2) (fun hHeld => ?_)
   clear hKK KK
   refine wpAnyH_ready (rs := [6, 8]) (by kernel_rfl) (by simp) (AllReadyH.cons rfl (fun KK hKK => ?_) (AllReadyH.cons rfl (fun KK hKK => ?_) AllReadyH.nil))
   ·go_simp
    have hgo := bc1_2
    refine (TO.out _ hgo).mono ?_
    rintro e wc1_3 ⟨vv, rfl, oQ, bnew⟩
    have bc1_4 : Below w0.heap.size w0 wc1_3 := bu bc1_2 bnew
    have zzwc1_3 := bnew.size
    have tl := World.ownsRow.lt oQ
    obtain ⟨aa, kk, rfl⟩ := oQ.form
    clear hHeld bnew hgo
    refine hKK.out _ _ (K.out _ bc1_4) (fun hHeld => ?_)
    clear hKK KK
    refine' tj 7 18 rfl ?_ ?_;rotate_left
    ·intro w h; (try dsimp only at h); go_simp; try with_reducible rfl
    simp only [pU]
    refine rd 8 rfl (fun KK hKK => ?_)
    go_simp
    obtain ⟨wl1_5, hwl1_5⟩ : ∃ x, wc1_3.alloc (.cells #[.string ⟨#[]⟩, .int .i64 0, .string ⟨#[]⟩, .slice none 0 0] 93) = x := ⟨_, rfl⟩
    have cbl1_6 : Below wc1_3.heap.size wc1_3 wl1_5 := hwl1_5 ▸ qalloc _ _
    have bl1_6 : Below w0.heap.size w0 wl1_5 := bu bc1_4 cbl1_6
    have zzwl1_5 : wl1_5.heap.size = wc1_3.heap.size + 1 := by rw [← hwl1_5]; simp
    have lg : Loc wl1_5 wc1_3.heap.size #[.string ⟨#[]⟩, .int .i64 0, .string ⟨#[]⟩, .slice none 0 0] := hwl1_5 ▸ loc_at wc1_3 _ _ rfl
    replace oQ := oQ.below cbl1_6
    rw [hwl1_5]
    clear hHeld hwl1_5 cbl1_6
    refine hKK.out _ _ (K.out _ bl1_6) (fun hHeld => ?_)
    clear hKK KK
    have q0 := lg.cell 0 rfl
    have q1 := lg.cell 1 rfl
    have q2 := lg.cell 2 rfl
    have q3 := lg.cell 3 rfl
    have FG := lg.frozen
    refine rd 9 rfl (fun KK hKK => ?_)
    go_simp
    have bs : Below w0.heap.size w0 ((((wl1_5.setCell ⟨wc1_3.heap.size, 0, none⟩ (.string m)).setCell ⟨wc1_3.heap.size, 1, none⟩ (.int .i64 v)).setCell ⟨wc1_3.heap.size, 2, none⟩ (.string s)).setCell ⟨wc1_3.heap.size, 3, none⟩ (.slice aa (xs).length kk)) := (Below.set (Below.set (Below.set (Below.set bl1_6 _ _ (by omega)) _ _ (by omega)) _ _ (by omega)) _ _ (by omega))
    clear hHeld
    refine hKK.out _ _ (K.out _ bs) (fun hHeld => ?_)
    clear hKK KK
    clear hHeld
    refine wdn ?_
    go_wp2_with fail
    go_meet
    have k3 : Kp wl1_5 ((((wl1_5.setCell ⟨wc1_3.heap.size, 0, none⟩ (.string m)).setCell ⟨wc1_3.heap.size, 1, none⟩ (.int .i64 v)).setCell ⟨wc1_3.heap.size, 2, none⟩ (.string s)).setCell ⟨wc1_3.heap.size, 3, none⟩ (.slice aa (xs).length kk)) (fun k => k = wc1_3.heap.size) := (((set_kp _ _ _ _).trans (set_kp _ _ _ _)).trans (set_kp _ _ _ _)).trans (set_kp _ _ _ _)
    have ll := lg.lt
    exact ⟨_, _, rfl, by omega, by simpa using ll, ((((lg.set 0 _ rfl).set 1 _ rfl).set 2 _ rfl).set 3 _ rfl), (oQ.kp k3 (fun j hj e => by have := tl j hj; omega)).mono (by omega), fun j hj => by have := tl j hj; simp; omega, bs⟩
   ·go_simp
    obtain ⟨wl1_7, hwl1_7⟩ : ∃ x, wc1_1.alloc (.cells #[.string ⟨#[]⟩, .int .i64 0, .string ⟨#[]⟩, .slice none 0 0] 93) = x := ⟨_, rfl⟩
    have cbl1_8 : Below wc1_1.heap.size wc1_1 wl1_7 := hwl1_7 ▸ qalloc _ _
    have bl1_8 : Below w0.heap.size w0 wl1_7 := bu bc1_2 cbl1_8
    have zzwl1_7 : wl1_7.heap.size = wc1_1.heap.size + 1 := by rw [← hwl1_7]; simp
    have lg : Loc wl1_7 wc1_1.heap.size #[.string ⟨#[]⟩, .int .i64 0, .string ⟨#[]⟩, .slice none 0 0] := hwl1_7 ▸ loc_at wc1_1 _ _ rfl
    rw [hwl1_7]
    clear hHeld hwl1_7 cbl1_8
    refine hKK.out _ _ (K.out _ bl1_8) (fun hHeld => ?_)
    clear hKK KK
    refine rd 6 rfl (fun KK hKK => ?_)
    go_simp
    have hgo := bl1_8
    refine (TO.out _ hgo).mono ?_
    rintro e wc1_9 ⟨vv, rfl, oQ, bnew⟩
    have bc1_10 : Below w0.heap.size w0 wc1_9 := bu bl1_8 bnew
    have zzwc1_9 := bnew.size
    replace lg := lg.up bnew
    have tl := World.ownsRow.lt oQ
    obtain ⟨aa, kk, rfl⟩ := oQ.form
    clear hHeld bnew hgo
    refine hKK.out _ _ (K.out _ bc1_10) (fun hHeld => ?_)
    clear hKK KK
    refine' tj 7 18 rfl ?_ ?_;rotate_left
    ·intro w h; (try dsimp only at h); go_simp; try with_reducible rfl
    simp only [pU]
    have q0 := lg.cell 0 rfl
    have q1 := lg.cell 1 rfl
    have q2 := lg.cell 2 rfl
    have q3 := lg.cell 3 rfl
    have FG := lg.frozen
    refine rd 9 rfl (fun KK hKK => ?_)
    go_simp
    have bs : Below w0.heap.size w0 ((((wc1_9.setCell ⟨wc1_1.heap.size, 0, none⟩ (.string m)).setCell ⟨wc1_1.heap.size, 1, none⟩ (.int .i64 v)).setCell ⟨wc1_1.heap.size, 2, none⟩ (.string s)).setCell ⟨wc1_1.heap.size, 3, none⟩ (.slice aa (xs).length kk)) := (Below.set (Below.set (Below.set (Below.set bc1_10 _ _ (by omega)) _ _ (by omega)) _ _ (by omega)) _ _ (by omega))
    clear hHeld
    refine hKK.out _ _ (K.out _ bs) (fun hHeld => ?_)
    clear hKK KK
    clear hHeld
    refine wdn ?_
    go_wp2_with fail
    go_meet
    have k3 : Kp wc1_9 ((((wc1_9.setCell ⟨wc1_1.heap.size, 0, none⟩ (.string m)).setCell ⟨wc1_1.heap.size, 1, none⟩ (.int .i64 v)).setCell ⟨wc1_1.heap.size, 2, none⟩ (.string s)).setCell ⟨wc1_1.heap.size, 3, none⟩ (.slice aa (xs).length kk)) (fun k => k = wc1_1.heap.size) := (((set_kp _ _ _ _).trans (set_kp _ _ _ _)).trans (set_kp _ _ _ _)).trans (set_kp _ _ _ _)
    have ll := lg.lt
    exact ⟨_, _, rfl, by omega, by simpa using ll, ((((lg.set 0 _ rfl).set 1 _ rfl).set 2 _ rfl).set 3 _ rfl), (oQ.kp k3 (fun j hj e => by have := tl j hj; omega)).mono (by omega), fun j hj => by have := tl j hj; simp; omega, bs⟩
  ·go_simp
   obtain ⟨wl1_11, hwl1_11⟩ : ∃ x, wd.alloc (.cells #[.string ⟨#[]⟩, .int .i64 0, .string ⟨#[]⟩, .slice none 0 0] 93) = x := ⟨_, rfl⟩
   have cbl1_12 : Below wd.heap.size wd wl1_11 := hwl1_11 ▸ qalloc _ _
   have bl1_12 : Below w0.heap.size w0 wl1_11 := bu bd cbl1_12
   have zzwl1_11 : wl1_11.heap.size = wd.heap.size + 1 := by rw [← hwl1_11]; simp
   have lg : Loc wl1_11 wd.heap.size #[.string ⟨#[]⟩, .int .i64 0, .string ⟨#[]⟩, .slice none 0 0] := hwl1_11 ▸ loc_at wd _ _ rfl
   rw [hwl1_11]
   clear hHeld hwl1_11 cbl1_12
   refine hKK.out _ _ (K.out _ bl1_12) (fun hHeld => ?_)
   clear hKK KK
   refine rd 4 rfl (fun KK hKK => ?_)
   go_simp
   have hgo := bl1_12
   refine (NM.out _ hgo).mono ?_
   rintro e wc1_13 ⟨rfl, bnew⟩
   have bc1_14 : Below w0.heap.size w0 wc1_13 := bu bl1_12 bnew
   have zzwc1_13 := bnew.size
   replace lg := lg.up bnew
   clear hHeld bnew hgo
   refine hKK.out _ _ (K.out _ bc1_14) (fun hHeld => ?_)
   clear hKK KK
   refine rd 6 rfl (fun KK hKK => ?_)
   go_simp
   have hgo := bc1_14
   refine (TO.out _ hgo).mono ?_
   rintro e wc1_15 ⟨vv, rfl, oQ, bnew⟩
   have bc1_16 : Below w0.heap.size w0 wc1_15 := bu bc1_14 bnew
   have zzwc1_15 := bnew.size
   replace lg := lg.up bnew
   have tl := World.ownsRow.lt oQ
   obtain ⟨aa, kk, rfl⟩ := oQ.form
   clear hHeld bnew hgo
   refine hKK.out _ _ (K.out _ bc1_16) (fun hHeld => ?_)
   clear hKK KK
   refine' tj 7 18 rfl ?_ ?_;rotate_left
   ·intro w h; (try dsimp only at h); go_simp; try with_reducible rfl
   simp only [pU]
   have q0 := lg.cell 0 rfl
   have q1 := lg.cell 1 rfl
   have q2 := lg.cell 2 rfl
   have q3 := lg.cell 3 rfl
   have FG := lg.frozen
   refine rd 9 rfl (fun KK hKK => ?_)
   go_simp
   have bs : Below w0.heap.size w0 ((((wc1_15.setCell ⟨wd.heap.size, 0, none⟩ (.string m)).setCell ⟨wd.heap.size, 1, none⟩ (.int .i64 v)).setCell ⟨wd.heap.size, 2, none⟩ (.string s)).setCell ⟨wd.heap.size, 3, none⟩ (.slice aa (xs).length kk)) := (Below.set (Below.set (Below.set (Below.set bc1_16 _ _ (by omega)) _ _ (by omega)) _ _ (by omega)) _ _ (by omega))
   clear hHeld
   refine hKK.out _ _ (K.out _ bs) (fun hHeld => ?_)
   clear hKK KK
   clear hHeld
   refine wdn ?_
   go_wp2_with fail
   go_meet
   have k3 : Kp wc1_15 ((((wc1_15.setCell ⟨wd.heap.size, 0, none⟩ (.string m)).setCell ⟨wd.heap.size, 1, none⟩ (.int .i64 v)).setCell ⟨wd.heap.size, 2, none⟩ (.string s)).setCell ⟨wd.heap.size, 3, none⟩ (.slice aa (xs).length kk)) (fun k => k = wd.heap.size) := (((set_kp _ _ _ _).trans (set_kp _ _ _ _)).trans (set_kp _ _ _ _)).trans (set_kp _ _ _ _)
   have ll := lg.lt
   exact ⟨_, _, rfl, by omega, by simpa using ll, ((((lg.set 0 _ rfl).set 1 _ rfl).set 2 _ rfl).set 3 _ rfl), (oQ.kp k3 (fun j hj e => by have := tl j hj; omega)).mono (by omega), fun j hj => by have := tl j hj; simp; omega, bs⟩
 case rest =>
 clear K
 obtain ⟨wq1, hwq⟩ : ∃ x, x = wc := ⟨_, rfl⟩
 subst hwq
 obtain ⟨hX, vX, rfl, gX, eX, X, oT, toT, bb⟩ := hcut
 obtain ⟨aoT, koT, rfl⟩ := oT.form
 have Bwq1 := bu Bw0 bb
 have swq1 := bb.size
 replace LC := LC.up bb
 replace LQ := LQ.up bb
 replace LZ := LZ.up bb
 replace Bx := bu Bx bb
 clear Bw0
 clear bb
 have cLC0 := LC.cell 0 rfl
 have cLC1 := LC.cell 1 rfl
 have cX0 := X.cell 0 rfl
 have cX1 := X.cell 1 rfl
 have cX2 := X.cell 2 rfl
 have cX3 := X.cell 3 rfl
 go_wp2_with fail
 refine (OK.out _ _ _ Bx (oT.ri (by omega))).mono ?_
 rintro _ w1 ⟨rfl, bb⟩
 clear cLC0 cLC1 cX0 cX1 cX2 cX3
 have Bw1 := bu Bwq1 bb
 have sw1 := bb.size
 replace LC := LC.up bb
 replace LQ := LQ.up bb
 replace LZ := LZ.up bb
 replace X := X.up bb
 replace oT := oT.below bb
 replace Bx := bu Bx bb
 clear Bwq1
 clear bb
 cases q
 ·have hb : bnewB n f v s xs view ts = false := HB.out
  have K5 := kp4 w1 (w.heap.size + 1 + 1) (.string ⟨#[]⟩) (.int .i64 0) (.string ⟨#[]⟩) (.slice none 0 0)
  have cLZ0 := LZ.cell 0 rfl
  have cLZ1 := LZ.cell 1 rfl
  have cLZ2 := LZ.cell 2 rfl
  have cLZ3 := LZ.cell 3 rfl
  have fz := LZ.frozen
  clear LZ
  go_wp2
  all_goals
   refine bodyPost_ret (v := .tuple #[bv ⟨#[]⟩ 0 ⟨#[]⟩ (.slice none 0 0), .bool false]) (by simp [results, Tryz.results90, go_sem, cLZ0, cLZ1, cLZ2, cLZ3]) rfl ?_
   refine ⟨.slice none 0 0, ?_⟩
   exact ⟨rfl, World.ownsRow_nil _ _ _ _, Below.kp Bw1 K5 Bw1.size (fun k hk => by omega)⟩
 ·have cX0 := X.cell 0 rfl
  have cX1 := X.cell 1 rfl
  have cX2 := X.cell 2 rfl
  have cX3 := X.cell 3 rfl
  go_wp2_with fail
  refine (VO.out _ Bx).mono ?_
  rintro _ w2 ⟨rfl, bb⟩
  clear cX0 cX1 cX2 cX3
  have Bw2 := bu Bw1 bb
  have sw2 := bb.size
  replace LC := LC.up bb
  replace LQ := LQ.up bb
  replace LZ := LZ.up bb
  replace X := X.up bb
  replace oT := oT.below bb
  replace Bx := bu Bx bb
  clear Bw1
  clear bb
  by_cases hv : vw = view
  ·have hb : bnewB n f v s xs view ts = true := by rw [HB.out]; simp [hv]
   have hn : (vw != view) = false := by simp [hv]
   clear hv
   have cX0 := X.cell 0 rfl
   have cX1 := X.cell 1 rfl
   have cX2 := X.cell 2 rfl
   have cX3 := X.cell 3 rfl
   have K5 := kp4 w2 (w.heap.size + 1 + 1) (.string m) (.int .i64 v) (.string s) (.slice aoT xs.length koT)
   have cLZ0 := LZ.cell 0 rfl
   have cLZ1 := LZ.cell 1 rfl
   have cLZ2 := LZ.cell 2 rfl
   have cLZ3 := LZ.cell 3 rfl
   have fz := LZ.frozen
   clear LZ
   go_wp2
   refine bodyPost_ret (v := .tuple #[bv m v s (.slice aoT xs.length koT), .bool true]) (by simp [results, Tryz.results90, go_sem, cLZ0, cLZ1, cLZ2, cLZ3]) rfl ?_
   refine ⟨.slice aoT xs.length koT, ?_⟩
   exact ⟨rfl, (oT.kp K5 (fun k hk => by have := toT k hk; omega)).mono (by omega), Below.kp Bw2 K5 Bw2.size (fun k hk => by omega)⟩
  ·have hb : bnewB n f v s xs view ts = false := by rw [HB.out]; simp [hv]
   have hn : (vw != view) = true := by simp [hv]
   clear hv
   have K5 := kp4 w2 (w.heap.size + 1 + 1) (.string ⟨#[]⟩) (.int .i64 0) (.string ⟨#[]⟩) (.slice none 0 0)
   have cLZ0 := LZ.cell 0 rfl
   have cLZ1 := LZ.cell 1 rfl
   have cLZ2 := LZ.cell 2 rfl
   have cLZ3 := LZ.cell 3 rfl
   have fz := LZ.frozen
   clear LZ
   go_wp2
   all_goals
    refine bodyPost_ret (v := .tuple #[bv ⟨#[]⟩ 0 ⟨#[]⟩ (.slice none 0 0), .bool false]) (by simp [results, Tryz.results90, go_sem, cLZ0, cLZ1, cLZ2, cLZ3]) rfl ?_
    refine ⟨.slice none 0 0, ?_⟩
    exact ⟨rfl, World.ownsRow_nil _ _ _ _, Below.kp Bw2 K5 Bw2.size (fun k hk => by omega)⟩
end Go.Proofs.YtcclbejpgiogaaaGreatDoor
namespace Go.Proofs.YtcclbejpgiogaaaGreatDoor
open Go.RowKit

theorem step_append_ints {ops : Array Oper} {o : Oper} {a : Act} {w : World} {K : Act → World → Prop} {Q : Exit → Act → World → Prop} {E : Prop} (hgd : o.guard = none) (s x : Operand)
 (ho : o.op = .call { callee := .builtin .append, args := #[s, x], argTypes := #[26, 26] }) (base : Nat) (v u : Value) (xs ys : List Int) (hs : a.eval s = v) (hx : a.eval x = u)
 (hown : OI w base v xs) (hp : PI w u ys) (hl : xs.length + ys.length ≤ 16777216) (hbase : base ≤ w.heap.size)
 (h : ∀ v' w', OI w' base v' (xs ++ ys) → w.grownBy w' v.ownBlock → (v'.ownBlock = v.ownBlock ∨ v'.ownBlock = some w.heap.size) → K (a.put o.dst v') w') :
 if Region.wanted o (yielded ops a.tmps) = true then Oper.wp Tryz.prog o a w K Q else E := by
 have hw : Region.wanted o (yielded ops a.tmps) = true := by simp [Region.wanted, hgd]
 rw [if_pos hw]
 obtain ⟨i0, hi, hz0, hz1, hz2⟩ := info_parts Tryz.info3
 obtain ⟨ao, cap, rfl, hp⟩ := hp
 match ao, hx with
 | none, hx =>
  have hy : ys = [] := by rcases hp with h | ⟨ad, e, _⟩; exact h; cases e
  subst hy
  have hrun := run_append_none1 o.type base cap v xs.length (xs.map (Value.int .i64)) w hown
  unfold Oper.wp
  simp only [List.length_nil] at hx
  simp [execOp, ho, resolve, invoke, builtin, hs, hx, hrun, Result.andThen]
  exact h v w (by simpa using hown) (grown_same _ _) (.inl rfl)
 | some ad, hx =>
  have hn : ∀ j u, (ys.map (Value.int .i64))[j]? = some u → w.cell? (ad.add j) = some u := by
   rcases hp with rfl | ⟨ad', e, h⟩
   ·intro j u hj; simp at hj
   ·cases e; exact h
  obtain ⟨v', w', hrun, r1, r2, _, r4⟩ := run_append_own_at (P := Tryz.prog) w base 26 o.type 3 i0 (.int .i64 0) 1 8 Tryz.underlying26 hi hz0 hz1 hz2 rfl (by decide) v xs.length (xs.map (Value.int .i64)) hown ad ys.length cap (ys.map (Value.int .i64)) (by simp) hn (ints_plain64 ys) (by unfold maxLen; omega) (by omega) hbase
  unfold Oper.wp
  simp [execOp, ho, resolve, invoke, builtin, hs, hx, hrun, Result.andThen]
  refine h v' w' ?_ r2 r4
  unfold OI
  rw [List.map_append, List.length_append]
  exact r1
theorem Loc.grown {w w' : World} {r g : Nat} {cs : Array Value} (h : Loc w r cs) (hg : w.grownBy w' (some g)) (hr : r ≠ g) : Loc w' r cs := h.kp (kp_of hg) hr
theorem Loc.grownNew {w w' : World} {r : Nat} {row : Option Nat} {cs : Array Value} (h : Loc w r cs) (hg : w.grownBy w' row) (hr : row ≠ some r) : Loc w' r cs := h.kp (kp_grown hg) hr
theorem OI.drawn {w w' : World} {base g : Nat} {v : Value} {xs : List Int} (h : OI w base v xs) (hg : w.grownBy w' (some g)) (hlt : g < base) : OI w' base v xs :=
 h.grown hg (fun k hk e => by have := World.ownsRow.lt h k hk; cases e; omega)
end Go.Proofs.YtcclbejpgiogaaaGreatDoor
namespace Go.Proofs.YtcclbejpgiogaaaGreatDoor
open Go.RowKit
set_option linter.unusedSectionVars false
variable [∀ (a b c d : Int), Decidable (Ok4 a b c d)]
variable [∀ (a b c d : Nat), Decidable (okN a b c d)]
variable [∀ (x : T4), Decidable (OkT x)]
variable [∀ (n f : Int), Decidable (COk n f)]

abbrev zc : Obj := .cells #[.int .i64 0, .int .i64 0] 25
theorem drawConfB (base g ca : Nat) (ao : Option Addr) (zs : List Int) (w : World) (hB : base ≤ w.heap.size) (h : Cur w base g ao ca zs) :
 Calls Tryz.prog 31 #[.pointer (some ⟨g, 0, none⟩)] w fun e w' => ∃ n f : Int, e = .returned (cv n f) ∧ (4 ≤ n ∧ n ≤ 7) ∧ (1 ≤ f ∧ f ≤ 3) ∧ Cur w' base g ao ca zs ∧ w.grownBy w' (some g) := by
 have hlt := h.lt
 obtain ⟨w0, hw0⟩ : ∃ w0, w.alloc zc = w0 := ⟨_, rfl⟩
 have C0 : Cur w0 base g ao ca zs := hw0 ▸ h.alloc hB _
 have G0 : w.grownBy w0 (some g) := hw0 ▸ World.grownBy_alloc w _ _
 have Z0 : Loc w0 w.heap.size #[.int .i64 0, .int .i64 0] := hw0 ▸ loc_at w _ _ rfl
 have s0 : w0.heap.size = w.heap.size + 1 := by rw [← hw0]; simp
 clear h
 go_enter Tryz.func31, Tryz.ntmps31
 go_wp2_with fail
 clear hw0
 refine (below_any base g ca ao zs 4 _ (by omega) (by omega) (by omega) C0).mono ?_
 rintro e w1 ⟨x, rfl, x0, x1, c1, e1⟩
 have Z1 := Z0.grown e1 (by omega)
 have G1 := grown_trans G0 e1
 have s1 := e1.size
 clear Z0 G0 C0 e1
 go_wp2_with fail
 refine (below_any base g ca ao zs 3 _ (by omega) (by omega) (by omega) c1).mono ?_
 rintro e w2 ⟨y, rfl, y0, y1, c2, e2⟩
 have Z2 := Z1.grown e2 (by omega)
 have G2 := grown_trans G1 e2
 have p0 := Z2.cell 0 rfl
 have p1 := Z2.cell 1 rfl
 have fp := Z2.frozen
 have HC := hide c2
 clear Z1 G1 c1 e2 c2
 go_wp2
 refine bodyPost_ret (v := cv (4 + x) (1 + y)) (by simp [results, Tryz.results31, go_sem, p0, p1]) rfl ?_
 exact ⟨_, _, rfl, ⟨by omega, by omega⟩, ⟨by omega, by omega⟩, (HC.out.set (by omega) _ _).set (by omega) _ _, grown_set (grown_set G2 (Nat.le_refl _) _ _) (Nat.le_refl _) _ _⟩

theorem drawConf (base g ca : Nat) (ao : Option Addr) (zs : List Int) (w : World) (hB : base ≤ w.heap.size) (h : Cur w base g ao ca zs) :
 Calls Tryz.prog 31 #[.pointer (some ⟨g, 0, none⟩)] w fun e w' => ∃ n f : Int, e = .returned (cv n f) ∧ (4 ≤ n ∧ n ≤ 7) ∧ Cur w' base g ao ca zs ∧ w.grownBy w' (some g) :=
 (drawConfB base g ca ao zs w hB h).mono fun _ _ ⟨n, f, he, hn, _, hr⟩ => ⟨n, f, he, hn, hr⟩

theorem drawBentB (base g ca : Nat) (ao : Option Addr) (zs : List Int) (w : World) (hB : base ≤ w.heap.size) (h : Cur w base g ao ca zs) :
 Calls Tryz.prog 62 #[.pointer (some ⟨g, 0, none⟩)] w fun e w' => ∃ n f : Int, e = .returned (cv n f) ∧ n ≤ 8 ∧ Cur w' base g ao ca zs ∧ w.grownBy w' (some g) := by
 have hlt := h.lt
 obtain ⟨w0, hw0⟩ : ∃ w0, w.alloc zc = w0 := ⟨_, rfl⟩
 have C0 : Cur w0 base g ao ca zs := hw0 ▸ h.alloc hB _
 have G0 : w.grownBy w0 (some g) := hw0 ▸ World.grownBy_alloc w _ _
 have Z0 : Loc w0 w.heap.size #[.int .i64 0, .int .i64 0] := hw0 ▸ loc_at w _ _ rfl
 have s0 : w0.heap.size = w.heap.size + 1 := by rw [← hw0]; simp
 clear h
 go_enter Tryz.func62, Tryz.ntmps62
 go_wp2_with fail
 clear hw0
 refine (drawConf base g ca ao zs _ (by omega) C0).mono ?_
 rintro e w1 ⟨n, f, rfl, hn, c1, e1⟩
 have hn8 : n ≤ 8 := by omega
 clear hn
 have Z1 := Z0.grown e1 (by omega)
 have G1 := grown_trans G0 e1
 have s1 := e1.size
 clear Z0 G0 C0 e1
 obtain ⟨w2, hw2⟩ : ∃ w2, w1.alloc (.cells #[.int .i64 n, .int .i64 f] 25) = w2 := ⟨_, rfl⟩
 have C2 : Cur w2 base g ao ca zs := hw2 ▸ c1.alloc (by omega) _
 have G2 : w.grownBy w2 (some g) := hw2 ▸ grown_trans G1 (World.grownBy_alloc w1 _ _)
 have Z2 : Loc w2 w.heap.size #[.int .i64 0, .int .i64 0] := hw2 ▸ Z1.alloc _
 have X2 : Loc w2 w1.heap.size #[.int .i64 n, .int .i64 f] := hw2 ▸ loc_at w1 _ _ rfl
 have s2 : w2.heap.size = w1.heap.size + 1 := by rw [← hw2]; simp
 clear c1 G1 Z1
 go_wp2_with fail
 clear hw2
 refine (below_any base g ca ao zs 12 _ (by omega) (by omega) (by omega) C2).mono ?_
 rintro e w3 ⟨k, rfl, k0, k1, c3, e3⟩
 have Z3 := Z2.grown e3 (by omega)
 have X3 := X2.grown e3 (by omega)
 have G3 := grown_trans G2 e3
 have s3 := e3.size
 clear Z2 X2 G2 C2 e3
 have FIN : ∀ (n f : Int) (w4 : World), Cur w4 base g ao ca zs → w.grownBy w4 (some g) → Cur ((w4.setCell ⟨w.heap.size, 0, none⟩ (.int .i64 n)).setCell ⟨w.heap.size, 1, none⟩ (.int .i64 f)) base g ao ca zs ∧ w.grownBy ((w4.setCell ⟨w.heap.size, 0, none⟩ (.int .i64 n)).setCell ⟨w.heap.size, 1, none⟩ (.int .i64 f)) (some g) := fun n f w4 hc hg =>
  ⟨(hc.set (by omega) _ _).set (by omega) _ _, grown_set (grown_set hg (Nat.le_refl _) _ _) (Nat.le_refl _) _ _⟩
 have FI := hide FIN
 clear FIN
 by_cases h0 : k = 0
 ·subst h0
  go_wp2_with fail
  refine (pickInt_lit base g ca ao zs [0, 3, 8, -1] w3 (by omega) (by decide) (by decide) c3).mono ?_
  rintro e w4 ⟨m, rfl, hm, c4, e4⟩
  have hm8 : m ≤ 8 := by simp at hm; omega
  clear hm
  have Z4 := Z3.grown e4 (by omega)
  have X4 := X3.grown e4 (by omega)
  have R := hide (FI.out m f (w4.setCell ⟨w1.heap.size, 0, none⟩ (.int .i64 m)) (c4.set (by omega) _ _) (grown_set (grown_trans G3 e4) (by omega) _ _))
  have p0 := Z4.cell 0 rfl
  have p1 := Z4.cell 1 rfl
  have fp := Z4.frozen
  have q0 := X4.cell 0 rfl
  have q1 := X4.cell 1 rfl
  have fq := X4.frozen
  clear Z3 X3 G3 c3 c4 e4 Z4 X4 FI
  go_wp2
  refine bodyPost_ret (v := cv m f) (by simp [results, Tryz.results62, go_sem, p0, p1]) rfl ?_
  exact ⟨_, _, rfl, hm8, R.out.1, R.out.2⟩
 ·have n0 : (k == 0) = false := by simp [h0]
  by_cases h1 : k = 1
  ·subst h1
   clear h0
   go_wp2_with fail
   refine (pickInt_lit base g ca ao zs [0, 6, 7] w3 (by omega) (by decide) (by decide) c3).mono ?_
   rintro e w4 ⟨m, rfl, _, c4, e4⟩
   have Z4 := Z3.grown e4 (by omega)
   have X4 := X3.grown e4 (by omega)
   have R := hide (FI.out n m (w4.setCell ⟨w1.heap.size, 1, none⟩ (.int .i64 m)) (c4.set (by omega) _ _) (grown_set (grown_trans G3 e4) (by omega) _ _))
   have p0 := Z4.cell 0 rfl
   have p1 := Z4.cell 1 rfl
   have fp := Z4.frozen
   have q0 := X4.cell 0 rfl
   have q1 := X4.cell 1 rfl
   have fq := X4.frozen
   clear Z3 X3 G3 c3 c4 e4 Z4 X4 FI
   go_wp2
   refine bodyPost_ret (v := cv n m) (by simp [results, Tryz.results62, go_sem, p0, p1]) rfl ?_
   exact ⟨_, _, rfl, hn8, R.out.1, R.out.2⟩
  ·have n1 : (k == 1) = false := by simp [h1]
   have R := hide (FI.out n f w3 c3 G3)
   have p0 := Z3.cell 0 rfl
   have p1 := Z3.cell 1 rfl
   have fp := Z3.frozen
   have q0 := X3.cell 0 rfl
   have q1 := X3.cell 1 rfl
   clear Z3 X3 G3 c3 FI
   go_wp2
   refine bodyPost_ret (v := cv n f) (by simp [results, Tryz.results62, go_sem, p0, p1]) rfl ?_
   exact ⟨_, _, rfl, hn8, R.out.1, R.out.2⟩
theorem drawBent (base g ca : Nat) (ao : Option Addr) (zs : List Int) (w : World) (hB : base ≤ w.heap.size) (h : Cur w base g ao ca zs) :
 Calls Tryz.prog 62 #[.pointer (some ⟨g, 0, none⟩)] w fun e w' => ∃ n f : Int, e = .returned (cv n f) ∧ Cur w' base g ao ca zs ∧ w.grownBy w' (some g) :=
 (drawBentB base g ca ao zs w hB h).mono fun _ _ ⟨n, f, he, _, hr⟩ => ⟨n, f, he, hr⟩
end Go.Proofs.YtcclbejpgiogaaaGreatDoor
