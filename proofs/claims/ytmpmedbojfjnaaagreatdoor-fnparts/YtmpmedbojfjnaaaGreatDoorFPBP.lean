/- Texts that belong together: PartAsc, PartOki. -/
import Derived.Test.YtmpmedbojfjnaaaGreatDoorFPBC
import Derived.Test.YtmpmedbojfjnaaaGreatDoorFPAW
import Derived.Laws.EntriesVeiled
import Derived.Deep.RegionHeld3
import Derived.Test.YtmpmedbojfjnaaaGreatDoorFPBK
import Derived.Test.YtmpmedbojfjnaaaGreatDoorFPAU
import Derived.Test.YtmpmedbojfjnaaaGreatDoorFPBG
import Derived.Test.YtmpmedbojfjnaaaGreatDoorFPBB
import Derived.Test.YtmpmedbojfjnaaaGreatDoorFPAJ
namespace Go.Proofs.YtmpmedbojfjnaaaGreatDoor
open Go.RowKit
set_option linter.unusedSectionVars false
variable [∀ (n : Int) (s : List Int), Decidable (OkL n s)]
variable [∀ (a b c d : Int), Decidable (Ok4 a b c d)]
variable [∀ (n f : Int), Decidable (COk n f)]
variable [∀ (a b c d : Nat), Decidable (okN a b c d)]
variable [∀ (last : Int) (s : St), Decidable (GoodSt last s)]
variable [∀ (x : T4), Decidable (OkT x)]

set_option maxHeartbeats 8000000 in
set_option maxRecDepth 100000 in
theorem ascendsP_any (v : Value) (ps : List Pt) (w : World) (hl : ps.length ≤ 4194304) (h : RPt w v ps) :
 Calls Tryz.prog 111 #[.agg #[v, .func (.func 104) #[] #[]]] w fun e w' => e = .returned (.bool (rowP ps)) ∧ Below w.heap.size w w' := by
 obtain ⟨ao, ca, rfl⟩ := h.form
 have H := hide h
 obtain ⟨n, hn⟩ : ∃ n, ps.length = n := ⟨_, rfl⟩
 have Hn := hide hn
 have HI := hide (row_iff ps)
 rw [hn] at hl H ⊢
 clear h hn
 generalize rowP ps = rb at *
 obtain ⟨w0, hw0⟩ : ∃ y, w.alloc (.cells #[.slice ao n ca, .func (.func 104) #[] #[]] 128) = y := ⟨_, rfl⟩
 have B0 : Below w.heap.size w w0 := hw0 ▸ qalloc _ _
 have L0 : Loc w0 w.heap.size #[.slice ao n ca, .func (.func 104) #[] #[]] := hw0 ▸ loc_at w _ _ rfl
 go_enter Tryz.func111, Tryz.ntmps111
 go_wp2
 clear hw0
 go_loopw [3] (fun i wr => ∃ m : Nat, 1 ≤ m ∧ m ≤ n + 1 ∧ i = .int .i64 m ∧ Hid (∀ j, j + 1 < m → j + 1 < n → befP (ps.getD j zpt) (ps.getD (j + 1) zpt) = true) ∧ Loc wr w.heap.size #[.slice ao n ca, .func (.func 104) #[] #[]] ∧ Below w.heap.size w wr) (fun i _ => n + 1 - (intOf i).toNat)
 case atStart => exact ⟨1, Nat.le_refl _, by omega, by go_num, hide (fun j hj => absurd hj (by omega)), L0, B0⟩
 case round =>
  clear L0 B0
  obtain ⟨m, hm1, hm, rfl, HA, L, br⟩ := hrel
  have q0 := L.cell 0 rfl
  have q1 := L.cell 1 rfl
  by_cases hlt : m < n
  ·obtain ⟨k, hk⟩ : ∃ k, m = k + 1 := ⟨m - 1, by omega⟩
   have hk1 : (m : Int) - 1 = (k : Int) := by omega
   have hwk : IntKind.i64.wrap (k : Int) = (k : Int) := by rw [IntKind.wrap_i64]; omega
   have hkn : k < n := by omega
   have HR := (unhide H).below br (Nat.le_refl _)
   obtain ⟨g, off, u, rfl, c0, c1, c2, ru⟩ := HR.at k (by rw [unhide Hn]; omega)
   obtain ⟨g', off', u', e, d0, d1, d2, ru'⟩ := HR.at m (by rw [unhide Hn]; omega)
   cases e
   obtain ⟨xc, xe, rfl⟩ := ru.form
   obtain ⟨yc, ye, rfl⟩ := ru'.form
   have CT := hide fun w => compareParts_any (ps.getD k zpt).1 (ps.getD m zpt).1 (ps.getD k zpt).2.1 (ps.getD m zpt).2.1 (.slice xc (ps.getD k zpt).2.2.length xe) (.slice yc (ps.getD m zpt).2.2.length ye) (ps.getD k zpt).2.2 (ps.getD m zpt).2.2 w
   have HS := hide fun (h : befP (ps.getD k zpt) (ps.getD m zpt) = true) => (show ∀ j, j + 1 < m + 1 → j + 1 < n → befP (ps.getD j zpt) (ps.getD (j + 1) zpt) = true from fun j hj hj2 => by
    by_cases e : j = k
    ·rw [e, ← hk]; exact h
    ·exact unhide HA j (by omega) hj2)
   have HN : Hid (¬ befP (ps.getD k zpt) (ps.getD m zpt) = true → rb = false) := hide fun h => by
    cases hrb : rb with
    | false => rfl
    | true => exact absurd (by have := (unhide HI).1 hrb k (by rw [unhide Hn]; omega); rwa [← hk] at this) h
   have hcm := hide (cmpP_lt (ps.getD k zpt) (ps.getD m zpt))
   have ecmp : cmpP ((ps.getD k zpt).1, (ps.getD k zpt).2.1, (ps.getD k zpt).2.2) ((ps.getD m zpt).1, (ps.getD m zpt).2.1, (ps.getD m zpt).2.2) = cmpP (ps.getD k zpt) (ps.getD m zpt) := rfl
   rw [ecmp] at CT
   clear HA HR ru ru' ecmp
   generalize cmpP (ps.getD k zpt) (ps.getD m zpt) = q at *
   generalize befP (ps.getD k zpt) (ps.getD m zpt) = BF at *
   generalize (ps.getD k zpt).1 = xa at *
   generalize (ps.getD k zpt).2.1 = xb at *
   generalize (ps.getD k zpt).2.2.length = xd at *
   generalize (ps.getD m zpt).1 = ya at *
   generalize (ps.getD m zpt).2.1 = yb at *
   generalize (ps.getD m zpt).2.2.length = yd at *
   have lg := cell_lt c0
   have K : Hid (∀ w', Below wr.heap.size wr w' → (fun w' => (w'.cell? ⟨w.heap.size, 0, none⟩ = some (.slice (some ⟨g, off, none⟩) n ca) ∧ w'.cell? ⟨w.heap.size, 1, none⟩ = some (.func (.func 104) #[] #[])) ∧ (w'.cell? ⟨g, off + k * 3, none⟩ = some (.int .i64 xa) ∧ w'.cell? ⟨g, off + k * 3 + 1, none⟩ = some (.string xb) ∧ w'.cell? ⟨g, off + k * 3 + 2, none⟩ = some (.slice xc xd xe)) ∧ (w'.cell? ⟨g, off + m * 3, none⟩ = some (.int .i64 ya) ∧ w'.cell? ⟨g, off + m * 3 + 1, none⟩ = some (.string yb) ∧ w'.cell? ⟨g, off + m * 3 + 2, none⟩ = some (.slice yc yd ye))) w') := hide fun w' hb => by
    have l := L.below hb L.lt
    exact ⟨⟨l.cell 0 rfl, l.cell 1 rfl⟩, ⟨(hb.cell (p := ⟨g, off + k * 3, none⟩) lg).trans c0, (hb.cell (p := ⟨g, off + k * 3 + 1, none⟩) lg).trans c1, (hb.cell (p := ⟨g, off + k * 3 + 2, none⟩) lg).trans c2⟩, ⟨(hb.cell (p := ⟨g, off + m * 3, none⟩) lg).trans d0, (hb.cell (p := ⟨g, off + m * 3 + 1, none⟩) lg).trans d1, (hb.cell (p := ⟨g, off + m * 3 + 2, none⟩) lg).trans d2⟩⟩
   have bA : Below wr.heap.size wr wr.drew := Below.drew (Below.refl _ _)
   replace hk := hide hk
   clear c0 c1 c2 d0 d1 d2
   go_upto_region 4 with fail
   refine wp_region_noPanic ?_
   refine wp_region_held_drew (S := (fun w' => (w'.cell? ⟨w.heap.size, 0, none⟩ = some (.slice (some ⟨g, off, none⟩) n ca) ∧ w'.cell? ⟨w.heap.size, 1, none⟩ = some (.func (.func 104) #[] #[])) ∧ (w'.cell? ⟨g, off + k * 3, none⟩ = some (.int .i64 xa) ∧ w'.cell? ⟨g, off + k * 3 + 1, none⟩ = some (.string xb) ∧ w'.cell? ⟨g, off + k * 3 + 2, none⟩ = some (.slice xc xd xe)) ∧ (w'.cell? ⟨g, off + m * 3, none⟩ = some (.int .i64 ya) ∧ w'.cell? ⟨g, off + m * 3 + 1, none⟩ = some (.string yb) ∧ w'.cell? ⟨g, off + m * 3 + 2, none⟩ = some (.slice yc yd ye)))) (by kernel_rfl) (unhide K _ bA) (fun hHeld => ?_)
   refine tk 0 11 (v := ?_) rfl (hy := .inl ⟨by rfl, ?_⟩) (h := ?_); rotate_left
   ·intro w hSw; (try dsimp only at hSw); go_simp; (try with_reducible rfl)
   simp only [pU]
   refine tk 1 12 (v := ?_) rfl (hy := .inl ⟨by rfl, ?_⟩) (h := ?_); rotate_left
   ·intro w hSw; (try dsimp only at hSw); go_simp; (try with_reducible rfl)
   simp only [pU]
   refine tk 2 13 (v := ?_) rfl (hy := .inl ⟨by rfl, ?_⟩) (h := ?_); rotate_left
   ·intro w hSw; (try dsimp only at hSw); go_simp; (try with_reducible rfl)
   simp only [pU]
   refine tk 3 14 (v := ?_) rfl (hy := .inl ⟨by rfl, ?_⟩) (h := ?_); rotate_left
   ·intro w hSw; (try dsimp only at hSw); go_simp; (try with_reducible rfl)
   simp only [pU]
   refine tk 4 15 (v := ?_) rfl (hy := .inl ⟨by rfl, ?_⟩) (h := ?_); rotate_left
   ·intro w hSw; (try dsimp only at hSw); go_simp; (try with_reducible rfl)
   simp only [pU]
   refine tk 5 16 (v := ?_) rfl (hy := .inl ⟨by rfl, ?_⟩) (h := ?_); rotate_left
   ·intro w hSw; (try dsimp only at hSw); go_simp; (try with_reducible rfl)
   simp only [pU]
   refine tk 6 17 (v := ?_) rfl (hy := .inl ⟨by rfl, ?_⟩) (h := ?_); rotate_left
   ·intro w hSw; (try dsimp only at hSw); go_simp; (try with_reducible rfl)
   simp only [pU]
   refine tk 7 18 (v := ?_) rfl (hy := .inl ⟨by rfl, ?_⟩) (h := ?_); rotate_left
   ·intro w hSw; (try dsimp only at hSw); go_simp; (try with_reducible rfl)
   simp only [pU]
   refine tk 8 19 (v := ?_) rfl (hy := .inl ⟨by rfl, ?_⟩) (h := ?_); rotate_left
   ·intro w hSw; (try dsimp only at hSw); go_simp; (try with_reducible rfl)
   simp only [pU]
   refine tk 9 20 (v := ?_) rfl (hy := .inl ⟨by rfl, ?_⟩) (h := ?_); rotate_left
   ·intro w hSw; (try dsimp only at hSw); go_simp; (try with_reducible rfl)
   simp only [pU]
   refine tk 10 21 (v := ?_) rfl (hy := .inl ⟨by rfl, ?_⟩) (h := ?_); rotate_left
   ·intro w hSw; (try dsimp only at hSw); go_simp; (try with_reducible rfl)
   simp only [pU]
   refine tk 11 22 (v := ?_) rfl (hy := .inl ⟨by rfl, ?_⟩) (h := ?_); rotate_left
   ·intro w hSw; (try dsimp only at hSw); go_simp; (try with_reducible rfl)
   simp only [pU]
   refine tk 12 23 (v := ?_) rfl (hy := .inl ⟨by rfl, ?_⟩) (h := ?_); rotate_left
   ·intro w hSw; (try dsimp only at hSw); go_simp; (try with_reducible rfl)
   simp only [pU]
   refine ready_at (i := 13) rfl (by kernel_rfl) (fun KK hKK => ?_)
   go_simp
   refine (unhide CT _).mono ?_
   rintro _ wa ⟨rfl, ba⟩
   have bB : Below wr.heap.size wr wa := bA.trans (ba.mono bA.size)
   clear hHeld
   refine hKK.out _ _ (unhide K _ bB) (fun hHeld => ?_)
   clear hKK KK
   refine tk 14 25 (v := ?_) rfl (hy := .inl ⟨by rfl, ?_⟩) (h := ?_); rotate_left
   ·intro w hSw; (try dsimp only at hSw); go_simp; (try with_reducible rfl)
   simp only [pU]
   clear hHeld
   refine wpAnyH_done (by kernel_rfl) ?_ _
   refine NoPanic.normal ?_
   have LB := L.below bB L.lt
   have BB := br.trans (bB.mono br.size)
   by_cases hq : q < 0
   ·have HM := hide (unhide HS ((unhide hcm).1 hq))
    have hqd : decide (q ≥ 0) = false := by simp; omega
    clear HS HN hcm
    go_wp2
    go_roundw
    case rel => exact ⟨m + 1, by omega, by omega, by go_num, HM, LB, BB⟩
    case measure => simp [intOf]; omega
   ·have HM := unhide HN (fun h => hq ((unhide hcm).2 h))
    have hqd : decide (q ≥ 0) = true := by simp; omega
    clear HS HN hcm
    go_wp2
    go_ret
    exact ⟨rfl, BB⟩
  ·have HM : rb = true := (unhide HI).2 (fun j hj => by have := unhide Hn; exact unhide HA j (by omega) (by omega))
   have hd2 : decide ((m : Int) < (n : Int)) = false := by simp; omega
   clear HA H
   go_wp2
   go_ret
   exact ⟨by rw [HM]; rfl, br⟩
end Go.Proofs.YtmpmedbojfjnaaaGreatDoor
namespace Go.Proofs.YtmpmedbojfjnaaaGreatDoor
open Go.RowKit
set_option linter.unusedSectionVars false
variable [∀ (a b c d : Int), Decidable (Ok4 a b c d)]
variable [∀ (a b c d : Nat), Decidable (okN a b c d)]
variable [∀ (last : Int) (s : St), Decidable (GoodSt last s)]
variable [∀ (x : T4), Decidable (OkT x)]
variable [∀ (n : Int) (s : List Int), Decidable (OkL n s)]
variable [∀ (n f : Int), Decidable (COk n f)]

theorem pok_alt (n f m : Int) (s : ByteArray) (xs : List Int) : pokB n f m s xs = (decide (COk n f) && (decide (1 ≤ m ∧ m ≤ 60) && ((decide (s = ⟨#[]⟩) || (viewAns s == m)) && (decide ((0 : Int) < (xs.length : Int)) && decide (OkL n xs))))) := by
 have hx : decide (xs ≠ []) = decide ((0 : Int) < (xs.length : Int)) := by cases xs with | nil => rfl | cons a l => simp <;> omega
 have hv : (viewAns s == m) = decide (viewAns s = m) := by rw [Bool.eq_iff_iff, beq_iff_eq, decide_eq_true_iff]
 unfold pokB
 rw [hx, hv]
 by_cases hm : 1 ≤ m ∧ m ≤ 60
 ·cases hk : (stepsAns s).isSome with
  | true => simp only [Bool.true_and]; cases decide (COk n f) <;> cases decide (1 ≤ m ∧ m ≤ 60) <;> cases decide (OkL n xs) <;> cases decide ((0 : Int) < (xs.length : Int)) <;> simp
  | false =>
   have h0 := view_none hk
   have : decide (viewAns s = m) = false := by simp; omega
   rw [this]
   cases decide (COk n f) <;> cases decide (1 ≤ m ∧ m ≤ 60) <;> cases decide (OkL n xs) <;> cases decide ((0 : Int) < (xs.length : Int)) <;> simp
 ·rw [decide_eq_false hm]; simp
theorem within_bool (x lo hi : Int) (w : World) : Calls Tryz.prog 75 #[.int .i64 x, .int .i64 lo, .int .i64 hi] w fun e w' => e = .returned (.bool (decide (lo ≤ x ∧ x ≤ hi))) ∧ Below w.heap.size w w' := by
 by_cases h : lo ≤ x ∧ x ≤ hi
 ·rw [decide_eq_true h]; exact (within_yes x lo hi w h.1 h.2).mono fun _ _ h => ⟨h.1, h.2 ▸ Below.refl _ _⟩
 ·rw [decide_eq_false h]; exact (within_no x lo hi w (by omega)).mono fun _ _ h => ⟨h.1, h.2 ▸ Below.refl _ _⟩

set_option maxHeartbeats 8000000 in
set_option maxRecDepth 100000 in
theorem namesIts_any (m : Int) (s : ByteArray) (u : Value) (w : World) (hs : s.size ≤ 33554432) (hE : Env w) :
 Calls Tryz.prog 112 #[qv m s u] w fun e w' => e = .returned (.bool (decide (s = ⟨#[]⟩) || (viewAns s == m))) ∧ Below w.heap.size w w' := by
 obtain ⟨w0, hw0⟩ : ∃ y, w.alloc (.cells #[.int .i64 m, .string s, u] 52) = y := ⟨_, rfl⟩
 have Bw0 : Below w.heap.size w w0 := hw0 ▸ qalloc _ _
 have LP : Loc w0 w.heap.size #[.int .i64 m, .string s, u] := hw0 ▸ loc_at w _ _ rfl
 have HE := hide (hE.below Bw0)
 have VO := hide fun w hE => implViewOf s w hs hE
 generalize viewAns s = vw at *
 clear hE
 by_cases he : s = ⟨#[]⟩
 ·have hd : decide (s = ⟨#[]⟩) = true := by simpa using he
  have hy : (s.toList == []) = true := by rw [he, ByteArray.toList_eq]; rfl
  rw [hd, Bool.true_or]
  clear he hd
  go_enter Tryz.func112, Tryz.ntmps112
  have K : Hid (∀ w', Below w0.heap.size w0 w' → (fun w' => Below w0.heap.size w0 w' ∧ (w'.cell? ⟨w.heap.size, 0, none⟩ = some (.int .i64 m) ∧ w'.cell? ⟨w.heap.size, 1, none⟩ = some (.string s) ∧ w'.cell? ⟨w.heap.size, 2, none⟩ = some (u))) w') := hide fun w' hb' => ⟨hb', ⟨(LP.below hb' LP.lt).cell 0 rfl, (LP.below hb' LP.lt).cell 1 rfl, (LP.below hb' LP.lt).cell 2 rfl⟩⟩
  go_upto_region 1 with fail
  clear hw0
  have bA : Below w0.heap.size w0 w0.drew := Below.drew (Below.refl _ _)
  refine wp_region_noPanic ?_
  refine wp_region_held_drew (S := fun w' => Below w0.heap.size w0 w' ∧ (w'.cell? ⟨w.heap.size, 0, none⟩ = some (.int .i64 m) ∧ w'.cell? ⟨w.heap.size, 1, none⟩ = some (.string s) ∧ w'.cell? ⟨w.heap.size, 2, none⟩ = some (u))) (by kernel_rfl) (unhide K _ bA) (fun hHeld => ?_)
  refine tk 0 3 (v := ?_) rfl (hy := .inl ⟨by rfl, ?_⟩) (h := ?_); rotate_left
  ·intro w hSw; (try dsimp only at hSw); go_simp; (try with_reducible rfl)
  simp only [pU]
  refine tk 1 4 (v := ?_) rfl (hy := .inl ⟨by rfl, ?_⟩) (h := ?_); rotate_left
  ·intro w hSw; (try dsimp only at hSw); go_simp; (try with_reducible rfl)
  simp only [pU]
  refine tk 2 5 (v := ?_) rfl (hy := .inl ⟨by rfl, ?_⟩) (h := ?_); rotate_left
  ·intro w hSw; (try dsimp only at hSw); go_simp; (try with_reducible rfl)
  simp only [pU]
  refine tk 3 6 (v := ?_) rfl (hy := .inl ⟨by rfl, ?_⟩) (h := ?_); rotate_left
  ·intro w hSw; (try dsimp only at hSw); go_simp; (try with_reducible rfl)
  simp only [pU]
  refine sk 4 7 rfl (h := ?_)
  simp only [pU]
  refine sk 7 10 rfl (h := ?_)
  simp only [pU]
  refine sk 5 8 rfl (h := ?_)
  simp only [pU]
  refine sk 8 11 rfl (h := ?_)
  simp only [pU]
  refine sk 6 9 rfl (h := ?_)
  simp only [pU]
  refine sk 9 12 rfl (h := ?_)
  simp only [pU]
  refine tk 10 13 (v := ?_) rfl (hy := .inl ⟨by rfl, ?_⟩) (h := ?_); rotate_left
  ·intro w hSw; (try dsimp only at hSw); go_simp; (try with_reducible rfl)
  simp only [pU]
  refine tk 11 2 (v := ?_) rfl (hy := .inl ⟨by rfl, ?_⟩) (h := ?_); rotate_left
  ·intro w hSw; (try dsimp only at hSw); go_simp; (try with_reducible rfl)
  simp only [pU]
  clear hHeld
  refine wpAnyH_done (by kernel_rfl) ?_ _
  refine NoPanic.normal ?_
  obtain ⟨wd1, hwd⟩ : ∃ y, w0.drew = y := ⟨_, rfl⟩
  rw [hwd] at bA ⊢
  clear hwd
  have bb := bA
  have Bwd1 := Bw0.trans (bb.mono Bw0.size)
  have swd1 := bb.size
  replace LP := LP.below bb LP.lt
  clear Bw0
  clear bb bA K
  go_wp2
  go_ret
  exact ⟨rfl, Bwd1⟩
 ·have hd : decide (s = ⟨#[]⟩) = false := by simpa using he
  have hne := ne2 he
  rw [hd, Bool.false_or]
  clear he hd
  go_enter Tryz.func112, Tryz.ntmps112
  have K : Hid (∀ w', Below w0.heap.size w0 w' → (fun w' => Below w0.heap.size w0 w' ∧ (w'.cell? ⟨w.heap.size, 0, none⟩ = some (.int .i64 m) ∧ w'.cell? ⟨w.heap.size, 1, none⟩ = some (.string s) ∧ w'.cell? ⟨w.heap.size, 2, none⟩ = some (u))) w') := hide fun w' hb' => ⟨hb', ⟨(LP.below hb' LP.lt).cell 0 rfl, (LP.below hb' LP.lt).cell 1 rfl, (LP.below hb' LP.lt).cell 2 rfl⟩⟩
  go_upto_region 1 with fail
  clear hw0
  have bA : Below w0.heap.size w0 w0.drew := Below.drew (Below.refl _ _)
  refine wp_region_noPanic ?_
  refine wp_region_held_drew (S := fun w' => Below w0.heap.size w0 w' ∧ (w'.cell? ⟨w.heap.size, 0, none⟩ = some (.int .i64 m) ∧ w'.cell? ⟨w.heap.size, 1, none⟩ = some (.string s) ∧ w'.cell? ⟨w.heap.size, 2, none⟩ = some (u))) (by kernel_rfl) (unhide K _ bA) (fun hHeld => ?_)
  refine tk 0 3 (v := ?_) rfl (hy := .inl ⟨by rfl, ?_⟩) (h := ?_); rotate_left
  ·intro w hSw; (try dsimp only at hSw); go_simp; (try with_reducible rfl)
  simp only [pU]
  refine tk 1 4 (v := ?_) rfl (hy := .inl ⟨by rfl, ?_⟩) (h := ?_); rotate_left
  ·intro w hSw; (try dsimp only at hSw); go_simp; (try with_reducible rfl)
  simp only [pU]
  refine tk 2 5 (v := ?_) rfl (hy := .inl ⟨by rfl, ?_⟩) (h := ?_); rotate_left
  ·intro w hSw; (try dsimp only at hSw); go_simp; (try with_reducible rfl)
  simp only [pU]
  refine tk 3 6 (v := ?_) rfl (hy := .inl ⟨by rfl, ?_⟩) (h := ?_); rotate_left
  ·intro w hSw; (try dsimp only at hSw); go_simp; (try with_reducible rfl)
  simp only [pU]
  refine tk 4 7 (v := ?_) rfl (hy := .inl ⟨by rfl, ?_⟩) (h := ?_); rotate_left
  ·intro w hSw; (try dsimp only at hSw); go_simp; (try with_reducible rfl)
  simp only [pU]
  refine tk 7 10 (v := ?_) rfl (hy := .inl ⟨by rfl, ?_⟩) (h := ?_); rotate_left
  ·intro w hSw; (try dsimp only at hSw); go_simp; (try with_reducible rfl)
  simp only [pU]
  refine tk 5 8 (v := ?_) rfl (hy := .inl ⟨by rfl, ?_⟩) (h := ?_); rotate_left
  ·intro w hSw; (try dsimp only at hSw); go_simp; (try with_reducible rfl)
  simp only [pU]
  refine tk 8 11 (v := ?_) rfl (hy := .inl ⟨by rfl, ?_⟩) (h := ?_); rotate_left
  ·intro w hSw; (try dsimp only at hSw); go_simp; (try with_reducible rfl)
  simp only [pU]
  refine ready_at (i := 6) rfl (by kernel_rfl) (fun KK hKK => ?_)
  go_simp
  have hgo := bA
  refine (unhide VO _ ((unhide HE).below hgo)).mono ?_
  rintro e wz1_1 ⟨rfl, bb⟩
  have bz1 : Below w0.heap.size w0 wz1_1 := bA.trans (bb.mono bA.size)
  clear bA hgo bb
  clear hHeld
  refine hKK.out _ _ (unhide K _ bz1) (fun hHeld => ?_)
  clear hKK KK
  refine tk 9 12 (v := ?_) rfl (hy := .inl ⟨by rfl, ?_⟩) (h := ?_); rotate_left
  ·intro w hSw; (try dsimp only at hSw); go_simp; (try with_reducible rfl)
  simp only [pU]
  refine tk 10 13 (v := ?_) rfl (hy := .inl ⟨by rfl, ?_⟩) (h := ?_); rotate_left
  ·intro w hSw; (try dsimp only at hSw); go_simp; (try with_reducible rfl)
  simp only [pU]
  refine tk 11 2 (v := ?_) rfl (hy := .inl ⟨by rfl, ?_⟩) (h := ?_); rotate_left
  ·intro w hSw; (try dsimp only at hSw); go_simp; (try with_reducible rfl)
  simp only [pU]
  clear hHeld
  refine wpAnyH_done (by kernel_rfl) ?_ _
  refine NoPanic.normal ?_
  have bb := bz1
  have Bwz1_1 := Bw0.trans (bb.mono Bw0.size)
  have swz1_1 := bb.size
  replace LP := LP.below bb LP.lt
  clear Bw0
  clear bb bz1 K
  go_wp2
  go_ret
  exact ⟨rfl, Bwz1_1⟩

set_option maxHeartbeats 8000000 in
set_option maxRecDepth 100000 in
theorem implPartOk (n f m : Int) (s : ByteArray) (u : Value) (xs : List Int) (w : World) (hs : s.size ≤ 33554432) (hE : Env w) (hu : RI w u xs) :
 Calls Tryz.prog 48 #[cv n f, qv m s u] w fun e w' => e = .returned (.bool (pokB n f m s xs)) ∧ Below w.heap.size w w' := by
 obtain ⟨ua, uc, rfl⟩ := hu.form
 rw [pok_alt]
 obtain ⟨k, hk⟩ : ∃ k, xs.length = k := ⟨_, rfl⟩
 have CO := hide fun w => implConfOk n f w
 have IN := hide fun w => within_bool m 1 60 w
 have NI := hide fun w hE => namesIts_any m s (.slice ua xs.length uc) w hs hE
 have SO := hide fun w h => implSetOk n (.slice ua xs.length uc) xs w h
 obtain ⟨w0, hw0⟩ : ∃ y, (w.alloc (.cells #[.int .i64 n, .int .i64 f] 25)).alloc (.cells #[.int .i64 m, .string s, .slice ua xs.length uc] 52) = y := ⟨_, rfl⟩
 have Bw0 : Below w.heap.size w w0 := hw0 ▸ qalloc2 _ _ _
 have LC : Loc w0 w.heap.size #[.int .i64 n, .int .i64 f] := hw0 ▸ (loc_at w _ _ rfl).alloc _
 have LP : Loc w0 (w.heap.size + 1) #[.int .i64 m, .string s, .slice ua xs.length uc] := hw0 ▸ loc_at (w.alloc _) _ _ (by simp)
 have HEw := hide fun w' (hb : Below w.heap.size w w') => hE.below hb
 have RU := hide fun w' (hb : Below w.heap.size w w') => hu.below hb (Nat.le_refl _)
 rw [hk] at NI SO LP RU hw0 ⊢
 clear hu hE hk
 generalize decide (COk n f) = c at *
 generalize decide (1 ≤ m ∧ m ≤ 60) = r at *
 generalize (decide (s = ⟨#[]⟩) || (viewAns s == m)) = v at *
 generalize decide (OkL n xs) = o at *
 cases c
 ·simp only [Bool.false_and]
  go_enter Tryz.func48, Tryz.ntmps48
  have cLC0 := LC.cell 0 rfl
  have cLC1 := LC.cell 1 rfl
  go_wp2_with fail
  clear hw0
  refine (unhide CO _).mono ?_
  rintro _ w1 ⟨rfl, bb⟩
  clear cLC0 cLC1
  have Bw1 := Bw0.trans (bb.mono Bw0.size)
  have sw1 := bb.size
  replace LC := LC.below bb LC.lt
  replace LP := LP.below bb LP.lt
  clear Bw0
  clear bb
  have cLC0 := LC.cell 0 rfl
  have cLC1 := LC.cell 1 rfl
  have cLP0 := LP.cell 0 rfl
  have cLP1 := LP.cell 1 rfl
  have cLP2 := LP.cell 2 rfl
  go_wp2
  go_ret
  exact ⟨rfl, Bw1⟩
 ·simp only [Bool.true_and]
  cases r
  ·simp only [Bool.false_and]
   go_enter Tryz.func48, Tryz.ntmps48
   have cLC0 := LC.cell 0 rfl
   have cLC1 := LC.cell 1 rfl
   go_wp2_with fail
   clear hw0
   refine (unhide CO _).mono ?_
   rintro _ w1 ⟨rfl, bb⟩
   clear cLC0 cLC1
   have Bw1 := Bw0.trans (bb.mono Bw0.size)
   have sw1 := bb.size
   replace LC := LC.below bb LC.lt
   replace LP := LP.below bb LP.lt
   clear Bw0
   clear bb
   have cLP0 := LP.cell 0 rfl
   have cLP1 := LP.cell 1 rfl
   have cLP2 := LP.cell 2 rfl
   go_wp2_with fail
   refine (unhide IN _).mono ?_
   rintro _ w2 ⟨rfl, bb⟩
   clear cLP0 cLP1 cLP2
   have Bw2 := Bw1.trans (bb.mono Bw1.size)
   have sw2 := bb.size
   replace LC := LC.below bb LC.lt
   replace LP := LP.below bb LP.lt
   clear Bw1
   clear bb
   have cLC0 := LC.cell 0 rfl
   have cLC1 := LC.cell 1 rfl
   have cLP0 := LP.cell 0 rfl
   have cLP1 := LP.cell 1 rfl
   have cLP2 := LP.cell 2 rfl
   go_wp2
   go_ret
   exact ⟨rfl, Bw2⟩
  ·simp only [Bool.true_and]
   cases v
   ·simp only [Bool.false_and]
    go_enter Tryz.func48, Tryz.ntmps48
    have cLC0 := LC.cell 0 rfl
    have cLC1 := LC.cell 1 rfl
    go_wp2_with fail
    clear hw0
    refine (unhide CO _).mono ?_
    rintro _ w1 ⟨rfl, bb⟩
    clear cLC0 cLC1
    have Bw1 := Bw0.trans (bb.mono Bw0.size)
    have sw1 := bb.size
    replace LC := LC.below bb LC.lt
    replace LP := LP.below bb LP.lt
    clear Bw0
    clear bb
    have cLP0 := LP.cell 0 rfl
    have cLP1 := LP.cell 1 rfl
    have cLP2 := LP.cell 2 rfl
    go_wp2_with fail
    refine (unhide IN _).mono ?_
    rintro _ w2 ⟨rfl, bb⟩
    clear cLP0 cLP1 cLP2
    have Bw2 := Bw1.trans (bb.mono Bw1.size)
    have sw2 := bb.size
    replace LC := LC.below bb LC.lt
    replace LP := LP.below bb LP.lt
    clear Bw1
    clear bb
    have cLP0 := LP.cell 0 rfl
    have cLP1 := LP.cell 1 rfl
    have cLP2 := LP.cell 2 rfl
    go_wp2_with fail
    refine (unhide NI _ (unhide HEw _ Bw2)).mono ?_
    rintro _ w3 ⟨rfl, bb⟩
    clear cLP0 cLP1 cLP2
    have Bw3 := Bw2.trans (bb.mono Bw2.size)
    have sw3 := bb.size
    replace LC := LC.below bb LC.lt
    replace LP := LP.below bb LP.lt
    clear Bw2
    clear bb
    have cLC0 := LC.cell 0 rfl
    have cLC1 := LC.cell 1 rfl
    have cLP0 := LP.cell 0 rfl
    have cLP1 := LP.cell 1 rfl
    have cLP2 := LP.cell 2 rfl
    go_wp2
    go_ret
    exact ⟨rfl, Bw3⟩
   ·simp only [Bool.true_and]
    by_cases hk : k = 0
    ·subst hk
     have hd0 : decide ((0 : Int) < ((0 : Nat) : Int)) = false := rfl
     rw [hd0]
     simp only [Bool.false_and]
     go_enter Tryz.func48, Tryz.ntmps48
     have cLC0 := LC.cell 0 rfl
     have cLC1 := LC.cell 1 rfl
     go_wp2_with fail
     clear hw0
     refine (unhide CO _).mono ?_
     rintro _ w1 ⟨rfl, bb⟩
     clear cLC0 cLC1
     have Bw1 := Bw0.trans (bb.mono Bw0.size)
     have sw1 := bb.size
     replace LC := LC.below bb LC.lt
     replace LP := LP.below bb LP.lt
     clear Bw0
     clear bb
     have cLP0 := LP.cell 0 rfl
     have cLP1 := LP.cell 1 rfl
     have cLP2 := LP.cell 2 rfl
     go_wp2_with fail
     refine (unhide IN _).mono ?_
     rintro _ w2 ⟨rfl, bb⟩
     clear cLP0 cLP1 cLP2
     have Bw2 := Bw1.trans (bb.mono Bw1.size)
     have sw2 := bb.size
     replace LC := LC.below bb LC.lt
     replace LP := LP.below bb LP.lt
     clear Bw1
     clear bb
     have cLP0 := LP.cell 0 rfl
     have cLP1 := LP.cell 1 rfl
     have cLP2 := LP.cell 2 rfl
     go_wp2_with fail
     refine (unhide NI _ (unhide HEw _ Bw2)).mono ?_
     rintro _ w3 ⟨rfl, bb⟩
     clear cLP0 cLP1 cLP2
     have Bw3 := Bw2.trans (bb.mono Bw2.size)
     have sw3 := bb.size
     replace LC := LC.below bb LC.lt
     replace LP := LP.below bb LP.lt
     clear Bw2
     clear bb
     have cLC0 := LC.cell 0 rfl
     have cLC1 := LC.cell 1 rfl
     have cLP0 := LP.cell 0 rfl
     have cLP1 := LP.cell 1 rfl
     have cLP2 := LP.cell 2 rfl
     go_wp2
     go_ret
     exact ⟨rfl, Bw3⟩
    ·have hd0 : decide ((0 : Int) < (k : Int)) = true := by simp; omega
     rw [hd0]
     simp only [Bool.true_and]
     cases o
     ·go_enter Tryz.func48, Tryz.ntmps48
      have cLC0 := LC.cell 0 rfl
      have cLC1 := LC.cell 1 rfl
      go_wp2_with fail
      clear hw0
      refine (unhide CO _).mono ?_
      rintro _ w1 ⟨rfl, bb⟩
      clear cLC0 cLC1
      have Bw1 := Bw0.trans (bb.mono Bw0.size)
      have sw1 := bb.size
      replace LC := LC.below bb LC.lt
      replace LP := LP.below bb LP.lt
      clear Bw0
      clear bb
      have cLP0 := LP.cell 0 rfl
      have cLP1 := LP.cell 1 rfl
      have cLP2 := LP.cell 2 rfl
      go_wp2_with fail
      refine (unhide IN _).mono ?_
      rintro _ w2 ⟨rfl, bb⟩
      clear cLP0 cLP1 cLP2
      have Bw2 := Bw1.trans (bb.mono Bw1.size)
      have sw2 := bb.size
      replace LC := LC.below bb LC.lt
      replace LP := LP.below bb LP.lt
      clear Bw1
      clear bb
      have cLP0 := LP.cell 0 rfl
      have cLP1 := LP.cell 1 rfl
      have cLP2 := LP.cell 2 rfl
      go_wp2_with fail
      refine (unhide NI _ (unhide HEw _ Bw2)).mono ?_
      rintro _ w3 ⟨rfl, bb⟩
      clear cLP0 cLP1 cLP2
      have Bw3 := Bw2.trans (bb.mono Bw2.size)
      have sw3 := bb.size
      replace LC := LC.below bb LC.lt
      replace LP := LP.below bb LP.lt
      clear Bw2
      clear bb
      have cLC0 := LC.cell 0 rfl
      have cLC1 := LC.cell 1 rfl
      have cLP0 := LP.cell 0 rfl
      have cLP1 := LP.cell 1 rfl
      have cLP2 := LP.cell 2 rfl
      go_wp2_with fail
      refine (unhide SO _ (unhide RU _ Bw3)).mono ?_
      rintro _ w4 ⟨rfl, bb⟩
      clear cLC0 cLC1 cLP0 cLP1 cLP2
      have Bw4 := Bw3.trans (bb.mono Bw3.size)
      have sw4 := bb.size
      replace LC := LC.below bb LC.lt
      replace LP := LP.below bb LP.lt
      clear Bw3
      clear bb
      have cLC0 := LC.cell 0 rfl
      have cLC1 := LC.cell 1 rfl
      have cLP0 := LP.cell 0 rfl
      have cLP1 := LP.cell 1 rfl
      have cLP2 := LP.cell 2 rfl
      go_wp2
      go_ret
      exact ⟨rfl, Bw4⟩
     ·go_enter Tryz.func48, Tryz.ntmps48
      have cLC0 := LC.cell 0 rfl
      have cLC1 := LC.cell 1 rfl
      go_wp2_with fail
      clear hw0
      refine (unhide CO _).mono ?_
      rintro _ w1 ⟨rfl, bb⟩
      clear cLC0 cLC1
      have Bw1 := Bw0.trans (bb.mono Bw0.size)
      have sw1 := bb.size
      replace LC := LC.below bb LC.lt
      replace LP := LP.below bb LP.lt
      clear Bw0
      clear bb
      have cLP0 := LP.cell 0 rfl
      have cLP1 := LP.cell 1 rfl
      have cLP2 := LP.cell 2 rfl
      go_wp2_with fail
      refine (unhide IN _).mono ?_
      rintro _ w2 ⟨rfl, bb⟩
      clear cLP0 cLP1 cLP2
      have Bw2 := Bw1.trans (bb.mono Bw1.size)
      have sw2 := bb.size
      replace LC := LC.below bb LC.lt
      replace LP := LP.below bb LP.lt
      clear Bw1
      clear bb
      have cLP0 := LP.cell 0 rfl
      have cLP1 := LP.cell 1 rfl
      have cLP2 := LP.cell 2 rfl
      go_wp2_with fail
      refine (unhide NI _ (unhide HEw _ Bw2)).mono ?_
      rintro _ w3 ⟨rfl, bb⟩
      clear cLP0 cLP1 cLP2
      have Bw3 := Bw2.trans (bb.mono Bw2.size)
      have sw3 := bb.size
      replace LC := LC.below bb LC.lt
      replace LP := LP.below bb LP.lt
      clear Bw2
      clear bb
      have cLC0 := LC.cell 0 rfl
      have cLC1 := LC.cell 1 rfl
      have cLP0 := LP.cell 0 rfl
      have cLP1 := LP.cell 1 rfl
      have cLP2 := LP.cell 2 rfl
      go_wp2_with fail
      refine (unhide SO _ (unhide RU _ Bw3)).mono ?_
      rintro _ w4 ⟨rfl, bb⟩
      clear cLC0 cLC1 cLP0 cLP1 cLP2
      have Bw4 := Bw3.trans (bb.mono Bw3.size)
      have sw4 := bb.size
      replace LC := LC.below bb LC.lt
      replace LP := LP.below bb LP.lt
      clear Bw3
      clear bb
      have cLC0 := LC.cell 0 rfl
      have cLC1 := LC.cell 1 rfl
      have cLP0 := LP.cell 0 rfl
      have cLP1 := LP.cell 1 rfl
      have cLP2 := LP.cell 2 rfl
      go_wp2
      go_ret
      exact ⟨rfl, Bw4⟩
end Go.Proofs.YtmpmedbojfjnaaaGreatDoor
