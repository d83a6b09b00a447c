/- spec.Pay: a payment that is old or early. -/
import Derived.Test.YtlglekfmiacdnaaL3Copy
import Derived.Test.YtlglekfmiacdnaaImplPay
import Derived.Test.YtlglekfmiacdnaaLedgerNew
namespace Go.Proofs.Ytlglekfmiacdnaa
open Go.RowKit
set_option linter.unusedSectionVars false
variable [∀ (m a b c d : Int), Decidable (In4 m a b c d)]
variable [∀ (xs ys : List Int), Decidable (LOk xs ys)]
variable [∀ (a b c d : Int), Decidable (Ok4 a b c d)]

theorem RI.at4 {w : World} {v : Value} {xs : List Int} (h : RI w v xs) (hx : xs.length = 4) : ∃ g o c, v = .slice (some ⟨g, o, none⟩) 4 c ∧ ∀ k, k < 4 → w.cell? ⟨g, o + k, none⟩ = some (.int .i64 (xs.getD k 0)) := by
  obtain ⟨_, ao, cap, rfl, h⟩ := h
  rcases h with rfl | ⟨g, off, rfl, h⟩
  · cases hx
  · exact ⟨g, off, cap, by rw [hx], fun k hk => h k (by omega)⟩
theorem OI.set {w : World} {base g n cap : Nat} {xs : List Int} (h : OI w base (.slice (some ⟨g, 0, none⟩) n cap) xs) (hn : n = xs.length) (k : Nat) (v : Int) :
    OI (w.setCell ⟨g, k, none⟩ (.int .i64 v)) base (.slice (some ⟨g, 0, none⟩) n cap) (xs.set k v) := by
  subst hn
  unfold OI
  rw [List.length_set, List.map_set]
  exact (World.ownsRow.stored h k _).1
theorem OL.setNext {w : World} {lo hi g n cap : Nat} {a : Value} {xs ys : List Int} (h : OL w lo hi a (.slice (some ⟨g, 0, none⟩) n cap) xs ys) (hn : n = ys.length) (k : Nat) (v : Int) :
    OL (w.setCell ⟨g, k, none⟩ (.int .i64 v)) lo hi a (.slice (some ⟨g, 0, none⟩) n cap) xs (ys.set k v) :=
  ⟨h.has.kp (set_kp w g k _) (fun j hj e => h.ne j hj (by rw [e]; rfl)), h.next.set hn k v, h.top, h.top', h.ne⟩
theorem OL.setHas {w : World} {lo hi g n cap : Nat} {b : Value} {xs ys : List Int} (h : OL w lo hi (.slice (some ⟨g, 0, none⟩) n cap) b xs ys) (hn : n = xs.length) (k : Nat) (v : Int) :
    OL (w.setCell ⟨g, k, none⟩ (.int .i64 v)) lo hi (.slice (some ⟨g, 0, none⟩) n cap) b (xs.set k v) ys :=
  ⟨h.has.set hn k v, h.next.kp (set_kp w g k _) (fun j hj e => h.ne g rfl (by rw [← e]; exact hj)), h.top, h.top', h.ne⟩
theorem OI.cellAt {w : World} {base g n cap : Nat} {xs : List Int} (h : OI w base (.slice (some ⟨g, 0, none⟩) n cap) xs) (hn : n = xs.length) (k : Nat) (hk : k < xs.length) : w.cell? ⟨g, k, none⟩ = some (.int .i64 (xs.getD k 0)) ∧ w.frozen? ⟨g, k, none⟩ = false := by
  subst hn
  refine ⟨?_, World.ownsRow.frozenAt h k⟩
  rw [World.ownsRow.cellAt h k (by omega)]
  simp [List.getElem?_map, List.getElem?_eq_getElem hk]

set_option maxHeartbeats 16000000 in
set_option maxRecDepth 100000 in
theorem specPay_old (u v : Value) (A Bt : Nat) (c d : Int) (xs ys : List Int) (w : World) (hu : RI w u xs ∧ RI w v ys) (hA : A < 4) (ho : Ok4 A Bt c d) (hl : LOk xs ys) (h : d < ys.getD A 0) :
    Calls Try.prog 17 #[lv u v, txv A Bt c d] w (PayEnd w (xs, ys, 2)) := by
  have RU := hide hu
  have LC := hide fun w h => l3Copy_any u v xs ys w h
  have LO := hide fun w h => specLedgerOk u v xs ys w h
  rw [decide_eq_true hl] at LO
  have TO := hide fun w => specTxOk_yes A Bt c d w ho
  have hx4 := hl.1
  have hy4 := hl.2.1
  obtain ⟨g1, o1, c1, rfl, H1⟩ := RI.at4 hu.1 hx4
  obtain ⟨g2, o2, c2, rfl, H2⟩ := RI.at4 hu.2 hy4
  have RX := hide fun w' (hb : Below w.heap.size w w') => (hb.cell (cell_lt (H1 A hA))).trans (H1 A hA)
  have RY := hide fun w' (hb : Below w.heap.size w w') => (hb.cell (cell_lt (H2 A hA))).trans (H2 A hA)
  clear H1 H2 hu hl
  obtain ⟨w0, hw0⟩ : ∃ w0, ((w.alloc (.cells #[.slice (some ⟨g1, o1, none⟩) 4 c1, .slice (some ⟨g2, o2, none⟩) 4 c2] 26)).alloc (.cells (r4 A Bt c d) 33)).alloc (.cells #[.slice none 0 0, .slice none 0 0] 26) = w0 := ⟨_, rfl⟩
  have B0 : Below w.heap.size w w0 := hw0 ▸ (((Below.refl w.heap.size w).alloc (Nat.le_refl _) _).alloc (by simp) _).alloc (by simp; omega) _
  have L0 : Loc w0 w.heap.size #[.slice (some ⟨g1, o1, none⟩) 4 c1, .slice (some ⟨g2, o2, none⟩) 4 c2] := hw0 ▸ ((loc_at w _ _ rfl).alloc _).alloc _
  have X0 : Loc w0 (w.heap.size + 1) (r4 A Bt c d) := hw0 ▸ (loc_at _ _ _ (by simp)).alloc _
  have R0 : Loc w0 (w.heap.size + 1 + 1) #[.slice none 0 0, .slice none 0 0] := hw0 ▸ loc_at _ _ _ (by simp)
  have q0 := L0.cell 0 rfl
  have q1 := L0.cell 1 rfl
  have lr := R0.lt
  go_enter Try.func17, Try.ntmps17
  go_wp2_with fail
  clear hw0 q0 q1
  refine (unhide LC _ ⟨(unhide RU).1.below B0 (Nat.le_refl _), (unhide RU).2.below B0 (Nat.le_refl _)⟩).mono ?_
  rintro _ w1 ⟨uo, vo, rfl, ol, b1⟩
  have s1 := b1.size
  obtain ⟨ph, hc, rfl⟩ := own_form (n := xs.length) ol.has (by omega)
  obtain ⟨pk, kc, rfl⟩ := own_form (n := ys.length) ol.next (by omega)
  rw [hx4, hy4] at ol ⊢
  obtain ⟨w2, hw2⟩ : ∃ w2, w1.alloc (.cells #[(.slice (some ⟨ph, 0, none⟩) 4 hc), (.slice (some ⟨pk, 0, none⟩) 4 kc)] 26) = w2 := ⟨_, rfl⟩
  have b2 : Below w0.heap.size w0 w2 := hw2 ▸ b1.alloc b1.size _
  have B2 := B0.trans (b2.mono B0.size)
  have L2 := L0.below b2 L0.lt
  have X2 := X0.below b2 X0.lt
  have R2 := R0.below b2 R0.lt
  have O2 : Loc w2 w1.heap.size #[(.slice (some ⟨ph, 0, none⟩) 4 hc), (.slice (some ⟨pk, 0, none⟩) 4 kc)] := hw2 ▸ loc_at w1 _ _ rfl
  have ol2 : OL w2 w0.heap.size w1.heap.size (.slice (some ⟨ph, 0, none⟩) 4 hc) (.slice (some ⟨pk, 0, none⟩) 4 kc) xs ys := hw2 ▸ ol.alloc _
  have q0 := L2.cell 0 rfl
  have q1 := L2.cell 1 rfl
  clear ol b1 b2 B0 L0 X0 R0
  go_wp2_with fail
  clear hw2 q0 q1
  refine (unhide LO _ ⟨(unhide RU).1.below B2 (Nat.le_refl _), (unhide RU).2.below B2 (Nat.le_refl _)⟩).mono ?_
  rintro _ w3 ⟨rfl, b3⟩
  have B3 := B2.trans (b3.mono B2.size)
  have L3 := L2.below b3 L2.lt
  have X3 := X2.below b3 X2.lt
  have R3 := R2.below b3 R2.lt
  have O3 := O2.below b3 O2.lt
  have ol3 := ol2.below b3
  obtain ⟨t0, t1, t2, t3⟩ := X3.cells4
  clear LO b3 B2 L2 X2 R2 O2 ol2
  go_wp2_with fail
  refine (unhide TO _).mono ?_
  rintro _ w4 ⟨rfl, b4⟩
  have B4 := B3.trans (b4.mono B3.size)
  have L4 := L3.below b4 L3.lt
  have X4 := X3.below b4 X3.lt
  have R4 := R3.below b4 R3.lt
  have O4 := O3.below b4 O3.lt
  have ol4 := ol3.below b4
  have hA1 : (A : Int) < 4 := by omega
  have lo4 := O4.lt
  have e1 := (World.ownsRow.lt ol4.has ph rfl).1
  have e2 := (World.ownsRow.lt ol4.next pk rfl).1
  have e3 := ol4.top ph rfl
  have e4 := ol4.top' pk rfl
  have e5 : pk ≠ ph := fun e => ol4.ne ph rfl (by rw [e]; rfl)
  clear TO t0 t1 t2 t3 b4 B3 L3 X3 R3 O3 ol3
  generalize ys.getD A 0 = n at *
  generalize xs.getD A 0 = m at *
  obtain ⟨t0, t1, t2, t3⟩ := X4.cells4
  have p0 := L4.cell 0 rfl
  have p1 := L4.cell 1 rfl
  have ry := unhide RY _ B4
  have rx := unhide RX _ B4
  go_wp2_with fail
  go_quiet (fail)
  generalize hwd : World.drewN w4 _ = w5
  have B5 : Below w.heap.size w w5 := hwd ▸ (below_drewN' B4 _)
  have L5 : Loc w5 _ _ := hwd ▸ (L4.drewN _)
  have X5 : Loc w5 _ _ := hwd ▸ (X4.drewN _)
  have R5 : Loc w5 _ _ := hwd ▸ (R4.drewN _)
  have O5 : Loc w5 _ _ := hwd ▸ (O4.drewN _)
  have ol5 : OL w5 w0.heap.size w1.heap.size (.slice (some ⟨ph, 0, none⟩) 4 hc) (.slice (some ⟨pk, 0, none⟩) 4 kc) xs ys := hwd ▸ ol4.below (below_drewN' (Below.refl _ _) _)
  clear hwd B4 L4 X4 R4 O4 ol4 t0 t1 t2 t3 p0 p1 ry rx
  have q0 := R5.cell 0 rfl
  have q1 := R5.cell 1 rfl
  have FR := R5.frozen
  have y0 := O5.cell 0 rfl
  have y1 := O5.cell 1 rfl
  go_wp2
  refine bodyPost_ret (v := .tuple #[lv (.slice (some ⟨ph, 0, none⟩) 4 hc) (.slice (some ⟨pk, 0, none⟩) 4 kc), .int .i64 2]) (by simp [results, Try.results17, go_sem, q0, q1]) rfl ?_
  have K7 : Kp w5 ((w5.setCell ⟨w.heap.size + 1 + 1, 0, none⟩ (.slice (some ⟨ph, 0, none⟩) 4 hc)).setCell ⟨w.heap.size + 1 + 1, 1, none⟩ (.slice (some ⟨pk, 0, none⟩) 4 kc)) (fun k => k = w.heap.size + 1 + 1) := (set_kp w5 _ 0 _).trans (set_kp _ _ 1 _)
  have sl := O5.lt
  refine ⟨_, _, rfl, (ol5.kp K7 (fun k h1 h2 e => by omega)).mono (by omega) (by simp; omega), ?_⟩
  exact Below.set (Below.set B5 _ _ (by omega)) _ _ (by omega)

set_option maxHeartbeats 16000000 in
set_option maxRecDepth 100000 in
theorem specPay_early (u v : Value) (A Bt : Nat) (c d : Int) (xs ys : List Int) (w : World) (hu : RI w u xs ∧ RI w v ys) (hA : A < 4) (ho : Ok4 A Bt c d) (hl : LOk xs ys) (h : ys.getD A 0 < d) :
    Calls Try.prog 17 #[lv u v, txv A Bt c d] w (PayEnd w (xs, ys, 3)) := by
  have RU := hide hu
  have LC := hide fun w h => l3Copy_any u v xs ys w h
  have LO := hide fun w h => specLedgerOk u v xs ys w h
  rw [decide_eq_true hl] at LO
  have TO := hide fun w => specTxOk_yes A Bt c d w ho
  have hx4 := hl.1
  have hy4 := hl.2.1
  obtain ⟨g1, o1, c1, rfl, H1⟩ := RI.at4 hu.1 hx4
  obtain ⟨g2, o2, c2, rfl, H2⟩ := RI.at4 hu.2 hy4
  have RX := hide fun w' (hb : Below w.heap.size w w') => (hb.cell (cell_lt (H1 A hA))).trans (H1 A hA)
  have RY := hide fun w' (hb : Below w.heap.size w w') => (hb.cell (cell_lt (H2 A hA))).trans (H2 A hA)
  clear H1 H2 hu hl
  obtain ⟨w0, hw0⟩ : ∃ w0, ((w.alloc (.cells #[.slice (some ⟨g1, o1, none⟩) 4 c1, .slice (some ⟨g2, o2, none⟩) 4 c2] 26)).alloc (.cells (r4 A Bt c d) 33)).alloc (.cells #[.slice none 0 0, .slice none 0 0] 26) = w0 := ⟨_, rfl⟩
  have B0 : Below w.heap.size w w0 := hw0 ▸ (((Below.refl w.heap.size w).alloc (Nat.le_refl _) _).alloc (by simp) _).alloc (by simp; omega) _
  have L0 : Loc w0 w.heap.size #[.slice (some ⟨g1, o1, none⟩) 4 c1, .slice (some ⟨g2, o2, none⟩) 4 c2] := hw0 ▸ ((loc_at w _ _ rfl).alloc _).alloc _
  have X0 : Loc w0 (w.heap.size + 1) (r4 A Bt c d) := hw0 ▸ (loc_at _ _ _ (by simp)).alloc _
  have R0 : Loc w0 (w.heap.size + 1 + 1) #[.slice none 0 0, .slice none 0 0] := hw0 ▸ loc_at _ _ _ (by simp)
  have q0 := L0.cell 0 rfl
  have q1 := L0.cell 1 rfl
  have lr := R0.lt
  go_enter Try.func17, Try.ntmps17
  go_wp2_with fail
  clear hw0 q0 q1
  refine (unhide LC _ ⟨(unhide RU).1.below B0 (Nat.le_refl _), (unhide RU).2.below B0 (Nat.le_refl _)⟩).mono ?_
  rintro _ w1 ⟨uo, vo, rfl, ol, b1⟩
  have s1 := b1.size
  obtain ⟨ph, hc, rfl⟩ := own_form (n := xs.length) ol.has (by omega)
  obtain ⟨pk, kc, rfl⟩ := own_form (n := ys.length) ol.next (by omega)
  rw [hx4, hy4] at ol ⊢
  obtain ⟨w2, hw2⟩ : ∃ w2, w1.alloc (.cells #[(.slice (some ⟨ph, 0, none⟩) 4 hc), (.slice (some ⟨pk, 0, none⟩) 4 kc)] 26) = w2 := ⟨_, rfl⟩
  have b2 : Below w0.heap.size w0 w2 := hw2 ▸ b1.alloc b1.size _
  have B2 := B0.trans (b2.mono B0.size)
  have L2 := L0.below b2 L0.lt
  have X2 := X0.below b2 X0.lt
  have R2 := R0.below b2 R0.lt
  have O2 : Loc w2 w1.heap.size #[(.slice (some ⟨ph, 0, none⟩) 4 hc), (.slice (some ⟨pk, 0, none⟩) 4 kc)] := hw2 ▸ loc_at w1 _ _ rfl
  have ol2 : OL w2 w0.heap.size w1.heap.size (.slice (some ⟨ph, 0, none⟩) 4 hc) (.slice (some ⟨pk, 0, none⟩) 4 kc) xs ys := hw2 ▸ ol.alloc _
  have q0 := L2.cell 0 rfl
  have q1 := L2.cell 1 rfl
  clear ol b1 b2 B0 L0 X0 R0
  go_wp2_with fail
  clear hw2 q0 q1
  refine (unhide LO _ ⟨(unhide RU).1.below B2 (Nat.le_refl _), (unhide RU).2.below B2 (Nat.le_refl _)⟩).mono ?_
  rintro _ w3 ⟨rfl, b3⟩
  have B3 := B2.trans (b3.mono B2.size)
  have L3 := L2.below b3 L2.lt
  have X3 := X2.below b3 X2.lt
  have R3 := R2.below b3 R2.lt
  have O3 := O2.below b3 O2.lt
  have ol3 := ol2.below b3
  obtain ⟨t0, t1, t2, t3⟩ := X3.cells4
  clear LO b3 B2 L2 X2 R2 O2 ol2
  go_wp2_with fail
  refine (unhide TO _).mono ?_
  rintro _ w4 ⟨rfl, b4⟩
  have B4 := B3.trans (b4.mono B3.size)
  have L4 := L3.below b4 L3.lt
  have X4 := X3.below b4 X3.lt
  have R4 := R3.below b4 R3.lt
  have O4 := O3.below b4 O3.lt
  have ol4 := ol3.below b4
  have hA1 : (A : Int) < 4 := by omega
  have lo4 := O4.lt
  have e1 := (World.ownsRow.lt ol4.has ph rfl).1
  have e2 := (World.ownsRow.lt ol4.next pk rfl).1
  have e3 := ol4.top ph rfl
  have e4 := ol4.top' pk rfl
  have e5 : pk ≠ ph := fun e => ol4.ne ph rfl (by rw [e]; rfl)
  clear TO t0 t1 t2 t3 b4 B3 L3 X3 R3 O3 ol3
  generalize ys.getD A 0 = n at *
  generalize xs.getD A 0 = m at *
  have h' : ¬ d < n := by omega
  obtain ⟨t0, t1, t2, t3⟩ := X4.cells4
  have p0 := L4.cell 0 rfl
  have p1 := L4.cell 1 rfl
  have ry := unhide RY _ B4
  have rx := unhide RX _ B4
  go_wp2_with fail
  go_quiet (fail)
  go_wp2_with fail
  go_quiet (fail)
  generalize hwd : World.drewN (World.drewN w4 _) _ = w5
  have B5 : Below w.heap.size w w5 := hwd ▸ (below_drewN' (below_drewN' B4 _) _)
  have L5 : Loc w5 _ _ := hwd ▸ ((L4.drewN _).drewN _)
  have X5 : Loc w5 _ _ := hwd ▸ ((X4.drewN _).drewN _)
  have R5 : Loc w5 _ _ := hwd ▸ ((R4.drewN _).drewN _)
  have O5 : Loc w5 _ _ := hwd ▸ ((O4.drewN _).drewN _)
  have ol5 : OL w5 w0.heap.size w1.heap.size (.slice (some ⟨ph, 0, none⟩) 4 hc) (.slice (some ⟨pk, 0, none⟩) 4 kc) xs ys := hwd ▸ ol4.below (below_drewN' (below_drewN' (Below.refl _ _) _) _)
  clear hwd B4 L4 X4 R4 O4 ol4 t0 t1 t2 t3 p0 p1 ry rx
  have q0 := R5.cell 0 rfl
  have q1 := R5.cell 1 rfl
  have FR := R5.frozen
  have y0 := O5.cell 0 rfl
  have y1 := O5.cell 1 rfl
  go_wp2
  refine bodyPost_ret (v := .tuple #[lv (.slice (some ⟨ph, 0, none⟩) 4 hc) (.slice (some ⟨pk, 0, none⟩) 4 kc), .int .i64 3]) (by simp [results, Try.results17, go_sem, q0, q1]) rfl ?_
  have K7 : Kp w5 ((w5.setCell ⟨w.heap.size + 1 + 1, 0, none⟩ (.slice (some ⟨ph, 0, none⟩) 4 hc)).setCell ⟨w.heap.size + 1 + 1, 1, none⟩ (.slice (some ⟨pk, 0, none⟩) 4 kc)) (fun k => k = w.heap.size + 1 + 1) := (set_kp w5 _ 0 _).trans (set_kp _ _ 1 _)
  have sl := O5.lt
  refine ⟨_, _, rfl, (ol5.kp K7 (fun k h1 h2 e => by omega)).mono (by omega) (by simp; omega), ?_⟩
  exact Below.set (Below.set B5 _ _ (by omega)) _ _ (by omega)
end Go.Proofs.Ytlglekfmiacdnaa
