/- Texts that belong together: SearchP, PartX. -/
import Derived.Test.YtmpmedbojfjnaaaGreatDoorFPBC
import Derived.Deep.RegionHeld3
import Derived.Test.YtmpmedbojfjnaaaGreatDoorFPAX
namespace Go.Proofs.YtmpmedbojfjnaaaGreatDoor
open Go.RowKit
set_option linter.unusedSectionVars false
variable [∀ (n : Int) (s : List Int), Decidable (OkL n s)]

set_option maxHeartbeats 8000000 in
set_option maxRecDepth 100000 in
theorem searchP (v : Value) (ps : List Pt) (m0 : Int) (s0 : ByteArray) (pa : Option Addr) (pl pc : Nat) (xs0 : List Int) (w : World) (hl : ps.length ≤ 4194304) (h : RPt w v ps) :
 Calls Tryz.prog 145 #[v, qv m0 s0 (.slice pa pl pc), .func (.func 104) #[] #[]] w fun e w' => ∃ (k : Nat) (b : Bool), e = .returned (.tuple #[.int .i64 k, .bool b]) ∧ PlaceP ps (m0, s0, xs0) k ∧ Below w.heap.size w w' := by
 obtain ⟨ao, ca, rfl⟩ := h.form
 have H := hide h
 obtain ⟨n, hn⟩ : ∃ n, ps.length = n := ⟨_, rfl⟩
 have Hn := hide hn
 have HP : Hid (∀ k, k ≤ n → (∀ i, k = i + 1 → befP (ps.getD i zpt) (m0, s0, xs0) = true) → (k < n → befP (ps.getD k zpt) (m0, s0, xs0) = false) → PlaceP ps (m0, s0, xs0) k) := hide fun k h0 h1 h2 => ⟨by omega, h1, fun h => h2 (by omega)⟩
 rw [hn] at hl H ⊢
 clear h hn
 obtain ⟨w0, hw0⟩ : ∃ y, w.alloc (.cells #[.int .i64 m0, .string s0, .slice pa pl pc] 52) = y := ⟨_, rfl⟩
 have B0 : Below w.heap.size w w0 := hw0 ▸ qalloc _ _
 have L0 : Loc w0 w.heap.size #[.int .i64 m0, .string s0, .slice pa pl pc] := hw0 ▸ loc_at w _ _ rfl
 go_enter Tryz.func145, Tryz.ntmps145
 go_wp2
 clear hw0
 go_loopw [9, 10] (fun i j wr => ∃ lo hi : Nat, lo ≤ hi ∧ hi ≤ n ∧ i = .int .i64 lo ∧ j = .int .i64 hi ∧ Hid (∀ p, lo = p + 1 → befP (ps.getD p zpt) (m0, s0, xs0) = true) ∧ Hid (hi < n → befP (ps.getD hi zpt) (m0, s0, xs0) = false) ∧ Loc wr w.heap.size #[.int .i64 m0, .string s0, .slice pa pl pc] ∧ Below w.heap.size w wr) (fun i j _ => (intOf j).toNat - (intOf i).toNat)
 case atStart => exact ⟨0, n, Nat.zero_le _, Nat.le_refl _, by go_num, rfl, hide (fun p hp => by omega), hide (fun h => absurd h (Nat.lt_irrefl n)), L0, B0⟩
 case round =>
  clear L0 B0
  obtain ⟨lo, hi, hlh, hhn, rfl, rfl, H1, H2, L, br⟩ := hrel
  have bA : Below wr.heap.size wr wr.drew := Below.drew (Below.refl _ _)
  by_cases hlt : lo < hi
  ·obtain ⟨m, hm⟩ : ∃ m, (lo + hi) / 2 = m := ⟨_, rfl⟩
   have hm1 : lo ≤ m := by omega
   have hm2 : m < hi := by omega
   have hmn : m < n := by omega
   have em : ((lo : Int) + (hi : Int)) / 2 = (m : Int) := by omega
   have hwm : IntKind.i64.wrap (m : Int) = (m : Int) := by rw [IntKind.wrap_i64]; omega
   replace hm := hide hm
   have HR := (unhide H).below br (Nat.le_refl _)
   obtain ⟨g, off, u, rfl, c0, c1, c2, ru⟩ := HR.at m (by rw [unhide Hn]; omega)
   obtain ⟨yc, ye, rfl⟩ := ru.form
   have CT := hide fun w => compareParts_any (ps.getD m zpt).1 m0 (ps.getD m zpt).2.1 s0 (.slice yc (ps.getD m zpt).2.2.length ye) (.slice pa pl pc) (ps.getD m zpt).2.2 xs0 w
   have ecmp : cmpP ((ps.getD m zpt).1, (ps.getD m zpt).2.1, (ps.getD m zpt).2.2) (m0, s0, xs0) = cmpP (ps.getD m zpt) (m0, s0, xs0) := rfl
   rw [ecmp] at CT
   have hcm := hide (cmpP_lt (ps.getD m zpt) (m0, s0, xs0))
   have hqi := cmpP_in (ps.getD m zpt) (m0, s0, xs0)
   have lg := cell_lt c0
   clear ecmp ru HR
   have HM1 : Hid (befP (ps.getD m zpt) (m0, s0, xs0) = true → ∀ p, m + 1 = p + 1 → befP (ps.getD p zpt) (m0, s0, xs0) = true) := hide fun h p hp => by rw [show p = m from by omega]; exact h
   have HM2 : Hid (befP (ps.getD m zpt) (m0, s0, xs0) = false → m < n → befP (ps.getD m zpt) (m0, s0, xs0) = false) := hide fun h _ => h
   obtain ⟨bf, hbf⟩ : ∃ b, befP (ps.getD m zpt) (m0, s0, xs0) = b := ⟨_, rfl⟩
   have HB := hide hbf
   rw [hbf] at hcm
   clear hbf
   generalize cmpP (ps.getD m zpt) (m0, s0, xs0) = q at *
   generalize (ps.getD m zpt).1 = ya at *
   generalize (ps.getD m zpt).2.1 = yb at *
   generalize (ps.getD m zpt).2.2.length = yd at *
   have K : Hid (∀ w', Below wr.heap.size wr w' → (fun w' => (w'.cell? ⟨g, off + m * 3, none⟩ = some (.int .i64 ya) ∧ w'.cell? ⟨g, off + m * 3 + 1, none⟩ = some (.string yb) ∧ w'.cell? ⟨g, off + m * 3 + 2, none⟩ = some (.slice yc yd ye)) ∧ (w'.cell? ⟨w.heap.size, 0, none⟩ = some (.int .i64 m0) ∧ w'.cell? ⟨w.heap.size, 1, none⟩ = some (.string s0) ∧ w'.cell? ⟨w.heap.size, 2, none⟩ = some (.slice pa pl pc))) w') := hide fun w' hb => by
    have l := L.below hb L.lt
    exact ⟨⟨(hb.cell (p := ⟨g, off + m * 3, none⟩) lg).trans c0, (hb.cell (p := ⟨g, off + m * 3 + 1, none⟩) lg).trans c1, (hb.cell (p := ⟨g, off + m * 3 + 2, none⟩) lg).trans c2⟩, ⟨l.cell 0 rfl, l.cell 1 rfl, l.cell 2 rfl⟩⟩
   clear c0 c1 c2
   go_upto_region 5 with fail
   refine wp_region_noPanic ?_
   refine wp_region_held_drew (S := (fun w' => (w'.cell? ⟨g, off + m * 3, none⟩ = some (.int .i64 ya) ∧ w'.cell? ⟨g, off + m * 3 + 1, none⟩ = some (.string yb) ∧ w'.cell? ⟨g, off + m * 3 + 2, none⟩ = some (.slice yc yd ye)) ∧ (w'.cell? ⟨w.heap.size, 0, none⟩ = some (.int .i64 m0) ∧ w'.cell? ⟨w.heap.size, 1, none⟩ = some (.string s0) ∧ w'.cell? ⟨w.heap.size, 2, none⟩ = some (.slice pa pl pc)))) (by kernel_rfl) (unhide K _ bA) (fun hHeld => ?_)
   refine tk 0 24 (v := ?_) rfl (hy := .inl ⟨by rfl, ?_⟩) (h := ?_); rotate_left
   ·intro w hSw; (try dsimp only at hSw); go_simp; (try with_reducible rfl)
   simp only [pU]
   refine tk 1 25 (v := ?_) rfl (hy := .inl ⟨by rfl, ?_⟩) (h := ?_); rotate_left
   ·intro w hSw; (try dsimp only at hSw); go_simp; (try with_reducible rfl)
   simp only [pU]
   refine tk 2 26 (v := ?_) rfl (hy := .inl ⟨by rfl, ?_⟩) (h := ?_); rotate_left
   ·intro w hSw; (try dsimp only at hSw); go_simp; (try with_reducible rfl)
   simp only [pU]
   refine tk 5 29 (v := ?_) rfl (hy := .inl ⟨by rfl, ?_⟩) (h := ?_); rotate_left
   ·intro w hSw; (try dsimp only at hSw); go_simp; (try with_reducible rfl)
   simp only [pU]
   refine tk 3 27 (v := ?_) rfl (hy := .inl ⟨by rfl, ?_⟩) (h := ?_); rotate_left
   ·intro w hSw; (try dsimp only at hSw); go_simp; (try with_reducible rfl)
   simp only [pU]
   refine tk 4 28 (v := ?_) rfl (hy := .inl ⟨by rfl, ?_⟩) (h := ?_); rotate_left
   ·intro w hSw; (try dsimp only at hSw); go_simp; (try with_reducible rfl)
   simp only [pU]
   refine ready_at (i := 6) rfl (by kernel_rfl) (fun KK hKK => ?_)
   go_simp
   refine (unhide CT _).mono ?_
   rintro _ wa ⟨rfl, ba⟩
   have bB : Below wr.heap.size wr wa := bA.trans (ba.mono bA.size)
   clear hHeld
   refine hKK.out _ _ (unhide K _ bB) (fun hHeld => ?_)
   clear hKK KK
   refine tk 7 31 (v := ?_) rfl (hy := .inl ⟨by rfl, ?_⟩) (h := ?_); rotate_left
   ·intro w hSw; (try dsimp only at hSw); go_simp; (try with_reducible rfl)
   simp only [pU]
   clear hHeld
   refine wpAnyH_done (by kernel_rfl) ?_ _
   refine NoPanic.normal ?_
   have LB := L.below bB L.lt
   have BB := br.trans (bB.mono br.size)
   by_cases hq : q < 0
   ·have HM := hide (unhide HM1 ((unhide HB).trans ((unhide hcm).1 hq)))
    clear HM1 HM2 hcm HB
    go_wp2
    go_roundw
    case rel => exact ⟨m + 1, hi, by omega, by omega, by go_num, rfl, HM, H2, LB, BB⟩
    case measure => simp [intOf]; omega
   ·have HM := hide (unhide HM2 ((unhide HB).trans (by cases bf with | false => rfl | true => exact absurd ((unhide hcm).2 rfl) hq)))
    clear HM1 HM2 hcm HB
    go_wp2
    go_roundw
    case rel => exact ⟨lo, m, by omega, by omega, rfl, rfl, H1, HM, LB, BB⟩
    case measure => simp [intOf]; omega
  ·obtain rfl : lo = hi := by omega
   have HQ := hide (unhide HP lo hhn (unhide H1) (unhide H2))
   by_cases hn : lo < n
   ·have HR := (unhide H).below br (Nat.le_refl _)
    obtain ⟨g, off, u, rfl, c0, c1, c2, ru⟩ := HR.at lo (by rw [unhide Hn]; omega)
    obtain ⟨yc, ye, rfl⟩ := ru.form
    have CT := hide fun w => compareParts_any (ps.getD lo zpt).1 m0 (ps.getD lo zpt).2.1 s0 (.slice yc (ps.getD lo zpt).2.2.length ye) (.slice pa pl pc) (ps.getD lo zpt).2.2 xs0 w
    have ecmp : cmpP ((ps.getD lo zpt).1, (ps.getD lo zpt).2.1, (ps.getD lo zpt).2.2) (m0, s0, xs0) = cmpP (ps.getD lo zpt) (m0, s0, xs0) := rfl
    rw [ecmp] at CT
    have hcm := hide (cmpP_lt (ps.getD lo zpt) (m0, s0, xs0))
    have hqi := cmpP_in (ps.getD lo zpt) (m0, s0, xs0)
    have lg := cell_lt c0
    clear ecmp ru HR
    clear H1 H2 HP hcm
    generalize cmpP (ps.getD lo zpt) (m0, s0, xs0) = q at *
    generalize (ps.getD lo zpt).1 = ya at *
    generalize (ps.getD lo zpt).2.1 = yb at *
    generalize (ps.getD lo zpt).2.2.length = yd at *
    have K : Hid (∀ w', Below wr.heap.size wr w' → (fun w' => (w'.cell? ⟨g, off + lo * 3, none⟩ = some (.int .i64 ya) ∧ w'.cell? ⟨g, off + lo * 3 + 1, none⟩ = some (.string yb) ∧ w'.cell? ⟨g, off + lo * 3 + 2, none⟩ = some (.slice yc yd ye)) ∧ (w'.cell? ⟨w.heap.size, 0, none⟩ = some (.int .i64 m0) ∧ w'.cell? ⟨w.heap.size, 1, none⟩ = some (.string s0) ∧ w'.cell? ⟨w.heap.size, 2, none⟩ = some (.slice pa pl pc))) w') := hide fun w' hb => by
     have l := L.below hb L.lt
     exact ⟨⟨(hb.cell (p := ⟨g, off + lo * 3, none⟩) lg).trans c0, (hb.cell (p := ⟨g, off + lo * 3 + 1, none⟩) lg).trans c1, (hb.cell (p := ⟨g, off + lo * 3 + 2, none⟩) lg).trans c2⟩, ⟨l.cell 0 rfl, l.cell 1 rfl, l.cell 2 rfl⟩⟩
    clear c0 c1 c2
    go_upto_region 8 with fail
    refine wp_region_noPanic ?_
    refine wp_region_held_drew (S := (fun w' => (w'.cell? ⟨g, off + lo * 3, none⟩ = some (.int .i64 ya) ∧ w'.cell? ⟨g, off + lo * 3 + 1, none⟩ = some (.string yb) ∧ w'.cell? ⟨g, off + lo * 3 + 2, none⟩ = some (.slice yc yd ye)) ∧ (w'.cell? ⟨w.heap.size, 0, none⟩ = some (.int .i64 m0) ∧ w'.cell? ⟨w.heap.size, 1, none⟩ = some (.string s0) ∧ w'.cell? ⟨w.heap.size, 2, none⟩ = some (.slice pa pl pc)))) (by kernel_rfl) (unhide K _ bA) (fun hHeld => ?_)
    refine tk 0 35 (v := ?_) rfl (hy := .inl ⟨by rfl, ?_⟩) (h := ?_); rotate_left
    ·intro w hSw; (try dsimp only at hSw); go_simp; (try with_reducible rfl)
    simp only [pU]
    refine tk 1 36 (v := ?_) rfl (hy := .inl ⟨by rfl, ?_⟩) (h := ?_); rotate_left
    ·intro w hSw; (try dsimp only at hSw); go_simp; (try with_reducible rfl)
    simp only [pU]
    refine tk 2 37 (v := ?_) rfl (hy := .inl ⟨by rfl, ?_⟩) (h := ?_); rotate_left
    ·intro w hSw; (try dsimp only at hSw); go_simp; (try with_reducible rfl)
    simp only [pU]
    refine tk 3 38 (v := ?_) rfl (hy := .inl ⟨by rfl, ?_⟩) (h := ?_); rotate_left
    ·intro w hSw; (try dsimp only at hSw); go_simp; (try with_reducible rfl)
    simp only [pU]
    refine tk 4 39 (v := ?_) rfl (hy := .inl ⟨by rfl, ?_⟩) (h := ?_); rotate_left
    ·intro w hSw; (try dsimp only at hSw); go_simp; (try with_reducible rfl)
    simp only [pU]
    refine tk 5 40 (v := ?_) rfl (hy := .inl ⟨by rfl, ?_⟩) (h := ?_); rotate_left
    ·intro w hSw; (try dsimp only at hSw); go_simp; (try with_reducible rfl)
    simp only [pU]
    refine tk 6 41 (v := ?_) rfl (hy := .inl ⟨by rfl, ?_⟩) (h := ?_); rotate_left
    ·intro w hSw; (try dsimp only at hSw); go_simp; (try with_reducible rfl)
    simp only [pU]
    refine tk 7 42 (v := ?_) rfl (hy := .inl ⟨by rfl, ?_⟩) (h := ?_); rotate_left
    ·intro w hSw; (try dsimp only at hSw); go_simp; (try with_reducible rfl)
    simp only [pU]
    refine tk 10 45 (v := ?_) rfl (hy := .inl ⟨by rfl, ?_⟩) (h := ?_); rotate_left
    ·intro w hSw; (try dsimp only at hSw); go_simp; (try with_reducible rfl)
    simp only [pU]
    refine tk 8 43 (v := ?_) rfl (hy := .inl ⟨by rfl, ?_⟩) (h := ?_); rotate_left
    ·intro w hSw; (try dsimp only at hSw); go_simp; (try with_reducible rfl)
    simp only [pU]
    refine tk 9 44 (v := ?_) rfl (hy := .inl ⟨by rfl, ?_⟩) (h := ?_); rotate_left
    ·intro w hSw; (try dsimp only at hSw); go_simp; (try with_reducible rfl)
    simp only [pU]
    refine ready_at (i := 11) rfl (by kernel_rfl) (fun KK hKK => ?_)
    go_simp
    refine (unhide CT _).mono ?_
    rintro _ wa ⟨rfl, ba⟩
    have bB : Below wr.heap.size wr wa := bA.trans (ba.mono bA.size)
    clear hHeld
    refine hKK.out _ _ (unhide K _ bB) (fun hHeld => ?_)
    clear hKK KK
    refine tk 12 47 (v := ?_) rfl (hy := .inl ⟨by rfl, ?_⟩) (h := ?_); rotate_left
    ·intro w hSw; (try dsimp only at hSw); go_simp; (try with_reducible rfl)
    simp only [pU]
    refine tk 14 6 (v := ?_) rfl (hy := .inl ⟨by rfl, ?_⟩) (h := ?_); rotate_left
    ·intro w hSw; (try dsimp only at hSw); go_simp; (try with_reducible rfl)
    simp only [pU]
    refine tk 13 48 (v := ?_) rfl (hy := .inl ⟨by rfl, ?_⟩) (h := ?_); rotate_left
    ·intro w hSw; (try dsimp only at hSw); go_simp; (try with_reducible rfl)
    simp only [pU]
    refine tk 15 7 (v := ?_) rfl (hy := .inl ⟨by rfl, ?_⟩) (h := ?_); rotate_left
    ·intro w hSw; (try dsimp only at hSw); go_simp; (try with_reducible rfl)
    simp only [pU]
    clear hHeld
    refine wpAnyH_done (by kernel_rfl) ?_ _
    refine NoPanic.normal ?_
    have BB := br.trans (bB.mono br.size)
    go_wp2
    go_ret2
    exact ⟨lo, by simp; omega, unhide HQ, BB⟩
   ·have K : Hid (∀ w', Below wr.heap.size wr w' → (fun w' => (w'.cell? ⟨w.heap.size, 0, none⟩ = some (.int .i64 m0) ∧ w'.cell? ⟨w.heap.size, 1, none⟩ = some (.string s0) ∧ w'.cell? ⟨w.heap.size, 2, none⟩ = some (.slice pa pl pc))) w') := hide fun w' hb => by
     have l := L.below hb L.lt
     exact ⟨l.cell 0 rfl, l.cell 1 rfl, l.cell 2 rfl⟩
    have hnd : decide ((lo : Int) < (n : Int)) = false := by simp; omega
    clear H1 H2 HP
    go_upto_region 8 with fail
    refine wp_region_noPanic ?_
    refine wp_region_held_drew (S := (fun w' => (w'.cell? ⟨w.heap.size, 0, none⟩ = some (.int .i64 m0) ∧ w'.cell? ⟨w.heap.size, 1, none⟩ = some (.string s0) ∧ w'.cell? ⟨w.heap.size, 2, none⟩ = some (.slice pa pl pc)))) (by kernel_rfl) (unhide K _ bA) (fun hHeld => ?_)
    refine tk 0 35 (v := ?_) rfl (hy := .inl ⟨by rfl, ?_⟩) (h := ?_); rotate_left
    ·intro w hSw; (try dsimp only at hSw); go_simp; (try with_reducible rfl)
    simp only [pU]
    refine tk 1 36 (v := ?_) rfl (hy := .inl ⟨by rfl, ?_⟩) (h := ?_); rotate_left
    ·intro w hSw; (try dsimp only at hSw); go_simp; (try with_reducible rfl)
    simp only [pU]
    refine tk 2 37 (v := ?_) rfl (hy := .inl ⟨by rfl, ?_⟩) (h := ?_); rotate_left
    ·intro w hSw; (try dsimp only at hSw); go_simp; (try with_reducible rfl)
    simp only [pU]
    refine tk 3 38 (v := ?_) rfl (hy := .inl ⟨by rfl, ?_⟩) (h := ?_); rotate_left
    ·intro w hSw; (try dsimp only at hSw); go_simp; (try with_reducible rfl)
    simp only [pU]
    refine tk 4 39 (v := ?_) rfl (hy := .inl ⟨by rfl, ?_⟩) (h := ?_); rotate_left
    ·intro w hSw; (try dsimp only at hSw); go_simp; (try with_reducible rfl)
    simp only [pU]
    refine sk 5 40 rfl (h := ?_)
    simp only [pU]
    refine sk 6 41 rfl (h := ?_)
    simp only [pU]
    refine sk 7 42 rfl (h := ?_)
    simp only [pU]
    refine sk 10 45 rfl (h := ?_)
    simp only [pU]
    refine sk 8 43 rfl (h := ?_)
    simp only [pU]
    refine sk 9 44 rfl (h := ?_)
    simp only [pU]
    refine sk 11 46 rfl (h := ?_)
    simp only [pU]
    refine sk 12 47 rfl (h := ?_)
    simp only [pU]
    refine tk 14 6 (v := ?_) rfl (hy := .inl ⟨by rfl, ?_⟩) (h := ?_); rotate_left
    ·intro w hSw; (try dsimp only at hSw); go_simp; (try with_reducible rfl)
    simp only [pU]
    refine tk 13 48 (v := ?_) rfl (hy := .inl ⟨by rfl, ?_⟩) (h := ?_); rotate_left
    ·intro w hSw; (try dsimp only at hSw); go_simp; (try with_reducible rfl)
    simp only [pU]
    refine tk 15 7 (v := ?_) rfl (hy := .inl ⟨by rfl, ?_⟩) (h := ?_); rotate_left
    ·intro w hSw; (try dsimp only at hSw); go_simp; (try with_reducible rfl)
    simp only [pU]
    clear hHeld
    refine wpAnyH_done (by kernel_rfl) ?_ _
    refine NoPanic.normal ?_
    go_wp2
    go_ret2
    exact ⟨lo, by simp, unhide HQ, br.trans (bA.mono br.size)⟩
end Go.Proofs.YtmpmedbojfjnaaaGreatDoor
namespace Go.Proofs.YtmpmedbojfjnaaaGreatDoor
open Go.RowKit

structure XPt (w0 w : World) (v : Value) (ps : List Pt) (us : List Value) : Prop where
 len : us.length = ps.length
 row : w.ownsRow w0.heap.size 52 3 v ps.length (pcells ((ps.map phd).zip us))
 each : ∀ k, k < ps.length → RI w0 (us.getD k (.slice none 0 0)) (ps.getD k zpt).2.2
theorem xpt_nil (w0 w : World) : XPt w0 w (.slice none 0 0) [] [] :=
 ⟨rfl, World.ownsRow_nil _ _ _ _, fun k hk => by simp at hk⟩
theorem XPt.below {w0 w w' : World} {v : Value} {ps : List Pt} {us : List Value} (h : XPt w0 w v ps us) (hb : Below w.heap.size w w') : XPt w0 w' v ps us :=
 ⟨h.len, World.ownsRow.kept (row := none) h.row ⟨hb.os, hb.tape, hb.output, hb.size, fun k hk _ => hb.block k hk⟩ (by cases v.ownBlock <;> simp), h.each⟩
theorem XPt.form {w0 w : World} {v : Value} {ps : List Pt} {us : List Value} (h : XPt w0 w v ps us) : ∃ ao ca, v = .slice ao ps.length ca := by
 rcases h.row.2 with ⟨rfl, h0⟩ | ⟨g, cap, cur, rfl, _⟩
 ·exact ⟨none, 0, by rw [h0]⟩
 ·exact ⟨_, _, rfl⟩
theorem XPt.rpt {w0 w : World} {v : Value} {ps : List Pt} {us : List Value} (h : XPt w0 w v ps us) (hb : Below w0.heap.size w0 w) : RPt w v ps := by
 have hz : ((ps.map phd).zip us).length = ps.length := by simp [h.len]
 rcases h.row.2 with ⟨rfl, h0⟩ | ⟨g, cap, cur, rfl, _⟩
 ·exact ⟨none, 0, by rw [h0], .inl (List.length_eq_zero_iff.1 h0)⟩
 ·refine ⟨_, cap, rfl, .inr ⟨g, 0, rfl, fun k hk => ?_⟩⟩
  have c0 := World.ownsRow.cellAt h.row (k * 3 + 0) (by omega)
  have c1 := World.ownsRow.cellAt h.row (k * 3 + 1) (by omega)
  have c2 := World.ownsRow.cellAt h.row (k * 3 + 2) (by omega)
  rw [pcells_get _ k _ (by omega) (by omega), pzip_get ps us h.len k hk] at c0 c1 c2
  refine ⟨_, ?_, ?_, ?_, (h.each k hk).below hb (Nat.le_refl _)⟩
  ·rw [Nat.zero_add]; exact c0
  ·rw [Nat.zero_add]; exact c1
  ·rw [Nat.zero_add]; exact c2
theorem xpt_more {w0 w' : World} {v' : Value} {ps : List Pt} {us : List Value} {m : Int} {s : ByteArray} {u : Value} {xs : List Int} (hl : us.length = ps.length) (he : ∀ k, k < ps.length → RI w0 (us.getD k (.slice none 0 0)) (ps.getD k zpt).2.2) (hu : RI w0 u xs)
 (hr : w'.ownsRow w0.heap.size 52 3 v' (ps.length + 1) (pcells ((ps.map phd).zip us) ++ pcell ((m, s), u))) : XPt w0 w' v' (ps ++ [(m, s, xs)]) (us ++ [u]) := by
 refine ⟨by simp [hl], ?_, fun k hk => ?_⟩
 ·have e : ((ps ++ [(m, s, xs)]).map phd).zip (us ++ [u]) = (ps.map phd).zip us ++ [((m, s), u)] := by
   rw [List.map_append, List.zip_append (by simp [hl])]; rfl
  rw [e, pcells_append, List.length_append]
  simpa [pcells] using hr
 ·rw [List.length_append, List.length_singleton] at hk
  by_cases e : k < ps.length
  ·rw [List.getD_eq_getElem?_getD, List.getElem?_append_left (by rw [hl]; exact e), ← List.getD_eq_getElem?_getD, List.getD_eq_getElem?_getD (l := ps ++ _), List.getElem?_append_left e, ← List.getD_eq_getElem?_getD]
   exact he k e
  ·obtain rfl : k = ps.length := by omega
   have e1 : (us ++ [u]).getD ps.length (.slice none 0 0) = u := by rw [← hl]; simp
   have e2 : (ps ++ [(m, s, xs)]).getD ps.length zpt = (m, s, xs) := by simp
   rw [e1, e2]
   exact hu
theorem append_x {ops : Array Oper} {rest : List Oper} {o : Oper} {a : Act} {Q : Exit → Act → World → Prop} {w : World} (hgd : o.guard = none) (s x : Operand)
 (ho : o.op = .call { callee := .builtin .append, args := #[s, x], argTypes := #[57, 57] }) (w0 : World) (v : Value) (ps : List Pt) (us : List Value) (g cp : Nat) (m : Int) (nm : ByteArray) (u : Value) (xs : List Int) (hs : a.eval s = v) (hx : a.eval x = .slice (some ⟨g, 0, none⟩) 1 cp)
 (htab : XPt w0 w v ps us) (c0 : w.cell? ⟨g, 0, none⟩ = some (.int .i64 m)) (c1 : w.cell? ⟨g, 1, none⟩ = some (.string nm)) (c2 : w.cell? ⟨g, 2, none⟩ = some u) (hu : RI w0 u xs)
 (hl : ps.length ≤ 4194304) (hbase : w0.heap.size ≤ w.heap.size)
 (h : ∀ v' w', XPt w0 w' v' (ps ++ [(m, nm, xs)]) (us ++ [u]) → w.grownBy w' v.ownBlock → wpList Tryz.prog ops Q rest (a.put o.dst v') w') :
 wpList Tryz.prog ops Q (o :: rest) a w := by
 obtain ⟨i0, hi, hz0, hz1, hz2⟩ := info_parts Tryz.infoPt
 have hn : ∀ j y, (pcell ((m, nm), u))[j]? = some y → w.cell? ((⟨g, 0, none⟩ : Addr).add j) = some y := by
  intro j y hj
  match j, hj with
  | 0, hj => simp [pcell] at hj; subst hj; simpa [Addr.add] using c0
  | 1, hj => simp [pcell] at hj; subst hj; simpa [Addr.add] using c1
  | 2, hj => simp [pcell] at hj; subst hj; simpa [Addr.add] using c2
  | j + 3, hj => simp [pcell] at hj
 have hp : ∀ y ∈ pcell ((m, nm), u), y.oneCell' = true := by
  intro y hy
  simp [pcell] at hy
  rcases hy with rfl | rfl | rfl
  ·rfl
  ·rfl
  ·obtain ⟨a, c, rfl⟩ := hu.form; rfl
 refine wpList_append_own_at _ hgd s x 57 ho w0.heap.size 52 i0 (qv 0 ⟨#[]⟩ (.slice none 0 0)) 3 48 Tryz.underlying57 hi hz0 hz1 hz2 rfl (by decide) v ps.length (pcells ((ps.map phd).zip us)) hs htab.row ⟨g, 0, none⟩ 1 cp (pcell ((m, nm), u)) hx (by simp [pcell]) hn hp (by unfold maxLen; omega) (by omega) hbase ?_
 intro v' w' ho' hg' _ _
 exact h v' w' (xpt_more htab.len htab.each hu ho') hg'
end Go.Proofs.YtmpmedbojfjnaaaGreatDoor
