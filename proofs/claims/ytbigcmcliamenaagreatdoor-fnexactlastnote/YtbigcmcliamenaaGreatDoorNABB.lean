/- NoteRead: the small methods of impl.reading: goOn, must, num, text, lacks: what they read, and what the reading holds behind them. -/
import Derived.Test.YtbigcmcliamenaaGreatDoorNAAG
import Derived.Test.YtbigcmcliamenaaGreatDoorNAAZ
import Derived.Test.YtbigcmcliamenaaGreatDoorNABA
import Derived.Test.YtbigcmcliamenaaGreatDoorNAAL
import Derived.Test.YtbigcmcliamenaaGreatDoorNAAF
import Derived.Deep.DeepCutAuto
import Derived.Laws.EntriesVeiled
namespace Go.Proofs.YtbigcmcliamenaaGreatDoor
open Go.RowKit
set_option linter.unusedSectionVars false
variable [∀ (a b c d : Int), Decidable (Ok4 a b c d)]
variable [∀ (a b c d : Nat), Decidable (okN a b c d)]
variable [∀ (last : Int) (s : St), Decidable (GoodSt last s)]
variable [∀ (x : T4), Decidable (OkT x)]
variable [∀ (n : Int) (s : List Int), Decidable (OkL n s)]
variable [∀ (n f : Int), Decidable (COk n f)]

def errV : Bool → Int → Value
 | true, _ => .nilIface
 | false, n => lackV n
def Got {α : Type} (ok : Bool) (r : Option (α × Int)) (ok' : Bool) (x : α) (q : Int) : Prop := ok' = (ok && r.isSome) ∧ (ok' = true → r = some (x, q))
def Stays (xs : List Int) (p q : Int) : Prop := q = p ∨ (0 ≤ q ∧ q ≤ xs.length)
theorem Stays.trans {xs : List Int} {p q r : Int} (h : Stays xs p q) (k : Stays xs q r) : Stays xs p r := by unfold Stays at *; omega

set_option maxHeartbeats 1600000 in
set_option maxRecDepth 100000 in
theorem goOn_yes (g : Nat) (v : Value) (fr p next : Int) (ev : Value) (w : World) (hl : Loc w g #[v, .int .i64 fr, .int .i64 p, ev]) :
 Calls Tryz.prog 95 #[.pointer (some ⟨g, 0, none⟩), .int .i64 next, .bool true] w fun e w' => e = .returned (.tuple #[]) ∧ Loc w' g #[v, .int .i64 fr, .int .i64 next, ev] ∧ Kp w w' (fun k => k = g) := by
 have c2 := hl.cell 2 rfl
 have f2 := hl.frozen 2
 have HL := hide hl
 clear hl
 go_enter Tryz.func95, Tryz.ntmps95
 go_wp2
 go_end0
 exact ⟨rfl, (unhide HL).set 2 _ rfl, set_kp _ _ _ _⟩

set_option maxHeartbeats 1600000 in
set_option maxRecDepth 100000 in
theorem goOn_no (g : Nat) (v : Value) (fr p next : Int) (ev : Value) (w : World) (hl : Loc w g #[v, .int .i64 fr, .int .i64 p, ev]) :
 Calls Tryz.prog 95 #[.pointer (some ⟨g, 0, none⟩), .int .i64 next, .bool false] w fun e w' => e = .returned (.tuple #[]) ∧ Loc w' g #[v, .int .i64 fr, .int .i64 p, lackV fr] ∧ Kp w w' (fun k => k = g) := by
 have c1 := hl.cell 1 rfl
 have c3 := hl.cell 3 rfl
 have f3 := hl.frozen 3
 have HL := hide hl
 clear hl
 go_enter Tryz.func95, Tryz.ntmps95
 go_wp2
 refine bodyPost_ret (v := .tuple #[]) (by simp [results, Tryz.results95, go_sem]) rfl ?_
 exact ⟨rfl, (unhide HL).set 3 _ rfl, set_kp _ _ _ _⟩

set_option maxHeartbeats 1600000 in
set_option maxRecDepth 100000 in
theorem must_any (g : Nat) (v : Value) (fr p : Int) (ok right : Bool) (w : World) (hl : Loc w g #[v, .int .i64 fr, .int .i64 p, errV ok fr]) :
 Calls Tryz.prog 56 #[.pointer (some ⟨g, 0, none⟩), .bool right] w fun e w' => e = .returned (.tuple #[]) ∧ Loc w' g #[v, .int .i64 fr, .int .i64 p, errV (ok && right) fr] ∧ Kp w w' (fun k => k = g) := by
 have c2 := hl.cell 2 rfl
 cases right with
 | true =>
  rw [Bool.and_true]
  have GO := hide (goOn_yes g v fr p p (errV ok fr) w hl)
  clear hl
  go_enter Tryz.func56, Tryz.ntmps56
  go_wp2_with fail
  refine (unhide GO).mono ?_
  rintro e w' ⟨rfl, L1, K1⟩
  go_wp2
  go_end0
  exact ⟨rfl, L1, K1⟩
 | false =>
  rw [Bool.and_false]
  have GO := hide (goOn_no g v fr p p (errV ok fr) w hl)
  clear hl
  go_enter Tryz.func56, Tryz.ntmps56
  go_wp2_with fail
  refine (unhide GO).mono ?_
  rintro e w' ⟨rfl, L1, K1⟩
  go_wp2
  go_end0
  exact ⟨rfl, L1, K1⟩

set_option maxHeartbeats 1600000 in
set_option maxRecDepth 100000 in
theorem lacks_no (g : Nat) (v : Value) (fr p : Int) (w : World) (hl : Loc w g #[v, .int .i64 fr, .int .i64 p, .nilIface]) :
 Calls Tryz.prog 57 #[.pointer (some ⟨g, 0, none⟩)] w fun e w' => e = .returned (.tuple #[.int .i64 0, .bool false]) ∧ Below w.heap.size w w' := by
 obtain ⟨w0, hw0⟩ : ∃ y, w.alloc (.cells #[.int .i64 0] 123) = y := ⟨_, rfl⟩
 have B0 : Below w.heap.size w w0 := hw0 ▸ conf_below _ _
 have c3 := (hl.below B0 hl.lt).cell 3 rfl
 have L0 : Loc w0 w.heap.size #[.int .i64 0] := hw0 ▸ loc_at w _ _ rfl
 have d0 := L0.cell 0 rfl
 clear hl L0
 go_enter Tryz.func57, Tryz.ntmps57
 go_wp2_with fail
 clear hw0
 refine (as_nil _ _).mono ?_
 rintro e w' ⟨rfl, rfl⟩
 go_wp2
 go_ret2
 exact ⟨rfl, B0⟩

set_option maxHeartbeats 1600000 in
set_option maxRecDepth 100000 in
theorem lacks_yes (g : Nat) (v : Value) (fr p : Int) (w : World) (hg : EnvT w) (hl : Loc w g #[v, .int .i64 fr, .int .i64 p, lackV fr]) :
 Calls Tryz.prog 57 #[.pointer (some ⟨g, 0, none⟩)] w fun e w' => e = .returned (.tuple #[.int .i64 fr, .bool true]) ∧ Below w.heap.size w w' := by
 obtain ⟨w0, hw0⟩ : ∃ y, w.alloc (.cells #[.int .i64 0] 123) = y := ⟨_, rfl⟩
 have B0 : Below w.heap.size w w0 := hw0 ▸ conf_below _ _
 have c3 := (hl.below B0 hl.lt).cell 3 rfl
 have L0 : Loc w0 w.heap.size #[.int .i64 0] := hw0 ▸ loc_at w _ _ rfl
 have AS := hide (as_hit fr w.heap.size (.int .i64 0) w0 (hg.below B0) L0)
 clear hl L0
 go_enter Tryz.func57, Tryz.ntmps57
 go_wp2_with fail
 clear hw0
 refine (unhide AS).mono ?_
 rintro e w1 ⟨rfl, L1, K1⟩
 have d0 := L1.cell 0 rfl
 have B1 : Below w.heap.size w w1 := Below.kp B0 K1 B0.size (fun k hk => by omega)
 clear L1 K1 AS
 go_wp2
 go_ret2
 exact ⟨rfl, B1⟩
theorem lacks_any (g : Nat) (v : Value) (fr p : Int) (ok : Bool) (w : World) (hg : EnvT w) (hl : Loc w g #[v, .int .i64 fr, .int .i64 p, errV ok fr]) :
 Calls Tryz.prog 57 #[.pointer (some ⟨g, 0, none⟩)] w fun e w' => e = .returned (.tuple #[.int .i64 (if ok then 0 else fr), .bool (!ok)]) ∧ Below w.heap.size w w' := by
 cases ok with
 | true => exact lacks_no g v fr p w hl
 | false => exact lacks_yes g v fr p w hg hl

set_option maxHeartbeats 16000000 in
set_option maxRecDepth 100000 in
theorem rnum_any (W0 : World) (g : Nat) (ao : Option Addr) (ca : Nat) (xs : List Int) (fr p : Int) (ok : Bool) (w : World) (hr : RB W0 (.slice ao xs.length ca) xs) (hb : Bytes xs) (hE : Env W0) (hB : Below W0.heap.size W0 w) (hl : Loc w g #[.slice ao xs.length ca, .int .i64 fr, .int .i64 p, errV ok fr]) :
 Calls Tryz.prog 93 #[.pointer (some ⟨g, 0, none⟩)] w fun e w' => ∃ (x : Int) (q : Int) (ok' : Bool), e = .returned (.int .i64 x) ∧ Got ok (getNum xs p) ok' x q ∧ (0 ≤ x ∧ x ≤ 2147483647) ∧ Stays xs p q ∧ Loc w' g #[.slice ao xs.length ca, .int .i64 fr, .int .i64 q, errV ok' fr] ∧ Kp w w' (fun k => k = g) := by
 obtain ⟨u, pv, he⟩ := hE.no
 cases hgn : getNum xs p with
 | none =>
  have GN := hide fun w' (b : Below w.heap.size w w') => getNum_none (.slice ao xs.length ca) xs p u pv w' (hr.below (hB.trans (b.mono hB.size)) (Nat.le_refl _)) hb (((hB.trans (b.mono hB.size)).cell (cell_lt he)).trans he) (hide hgn)
  have HL := hide hl
  clear hr hE he hB
  have LG := unhide HL
  clear hl HL
  have Bw : Below w.heap.size w w := Below.refl _ _
  go_enter Tryz.func93, Tryz.ntmps93
  have K : Hid (∀ w', Below w.heap.size w w' → (fun w' => Below w.heap.size w w' ∧ (w'.cell? ⟨g, 0, none⟩ = some (.slice ao xs.length ca) ∧ w'.cell? ⟨g, 1, none⟩ = some (.int .i64 fr) ∧ w'.cell? ⟨g, 2, none⟩ = some (.int .i64 p) ∧ w'.cell? ⟨g, 3, none⟩ = some (errV ok fr))) w') := hide fun w' hb' => ⟨hb', ⟨(LG.below hb' LG.lt).cell 0 rfl, (LG.below hb' LG.lt).cell 1 rfl, (LG.below hb' LG.lt).cell 2 rfl, (LG.below hb' LG.lt).cell 3 rfl⟩⟩
  go_upto_region 1 with fail
  have bA : Below w.heap.size w w.drew := Below.drew (Below.refl _ _)
  refine wp_region_noPanic ?_
  refine wp_region_held_drew (S := fun w' => Below w.heap.size w w' ∧ (w'.cell? ⟨g, 0, none⟩ = some (.slice ao xs.length ca) ∧ w'.cell? ⟨g, 1, none⟩ = some (.int .i64 fr) ∧ w'.cell? ⟨g, 2, none⟩ = some (.int .i64 p) ∧ w'.cell? ⟨g, 3, none⟩ = some (errV ok fr))) (by kernel_rfl) (unhide K _ bA) (fun hHeld => ?_)
  refine tk 0 7 (v := ?_) rfl (hy := .inl ⟨by rfl, ?_⟩) (h := ?_); rotate_left
  ·intro w hSw; (try dsimp only at hSw); go_simp; (try with_reducible rfl)
  simp only [pU]
  refine tk 4 11 (v := ?_) rfl (hy := .inl ⟨by rfl, ?_⟩) (h := ?_); rotate_left
  ·intro w hSw; (try dsimp only at hSw); go_simp; (try with_reducible rfl)
  simp only [pU]
  refine tk 1 8 (v := ?_) rfl (hy := .inl ⟨by rfl, ?_⟩) (h := ?_); rotate_left
  ·intro w hSw; (try dsimp only at hSw); go_simp; (try with_reducible rfl)
  simp only [pU]
  refine tk 5 12 (v := ?_) rfl (hy := .inl ⟨by rfl, ?_⟩) (h := ?_); rotate_left
  ·intro w hSw; (try dsimp only at hSw); go_simp; (try with_reducible rfl)
  simp only [pU]
  refine tk 2 9 (v := ?_) rfl (hy := .inl ⟨by rfl, ?_⟩) (h := ?_); rotate_left
  ·intro w hSw; (try dsimp only at hSw); go_simp; (try with_reducible rfl)
  simp only [pU]
  refine tk 6 13 (v := ?_) rfl (hy := .inl ⟨by rfl, ?_⟩) (h := ?_); rotate_left
  ·intro w hSw; (try dsimp only at hSw); go_simp; (try with_reducible rfl)
  simp only [pU]
  refine tk 3 10 (v := ?_) rfl (hy := .inl ⟨by rfl, ?_⟩) (h := ?_); rotate_left
  ·intro w hSw; (try dsimp only at hSw); go_simp; (try with_reducible rfl)
  simp only [pU]
  refine tk 7 14 (v := ?_) rfl (hy := .inl ⟨by rfl, ?_⟩) (h := ?_); rotate_left
  ·intro w hSw; (try dsimp only at hSw); go_simp; (try with_reducible rfl)
  simp only [pU]
  refine ready_at (i := 8) rfl (by kernel_rfl) (fun KK hKK => ?_)
  go_simp
  have hgo := bA
  refine (unhide GN _ hgo).mono ?_
  rintro e wz1_1 ⟨rfl, bb⟩
  have bz1 : Below w.heap.size w wz1_1 := bA.trans (bb.mono bA.size)
  clear bA hgo bb
  clear hHeld
  refine hKK.out _ _ (unhide K _ bz1) (fun hHeld => ?_)
  clear hKK KK
  refine tk 9 6 (v := ?_) rfl (hy := .inl ⟨by rfl, ?_⟩) (h := ?_); rotate_left
  ·intro w hSw; (try dsimp only at hSw); go_simp; (try with_reducible rfl)
  simp only [pU]
  refine tk 10 16 (v := ?_) rfl (hy := .inl ⟨by rfl, ?_⟩) (h := ?_); rotate_left
  ·intro w hSw; (try dsimp only at hSw); go_simp; (try with_reducible rfl)
  simp only [pU]
  refine tk 11 17 (v := ?_) rfl (hy := .inl ⟨by rfl, ?_⟩) (h := ?_); rotate_left
  ·intro w hSw; (try dsimp only at hSw); go_simp; (try with_reducible rfl)
  simp only [pU]
  refine tk 12 18 (v := ?_) rfl (hy := .inl ⟨by rfl, ?_⟩) (h := ?_); rotate_left
  ·intro w hSw; (try dsimp only at hSw); go_simp; (try with_reducible rfl)
  simp only [pU]
  refine tk 13 3 (v := ?_) rfl (hy := .inl ⟨by rfl, ?_⟩) (h := ?_); rotate_left
  ·intro w hSw; (try dsimp only at hSw); go_simp; (try with_reducible rfl)
  simp only [pU]
  refine tk 14 4 (v := ?_) rfl (hy := .inl ⟨by rfl, ?_⟩) (h := ?_); rotate_left
  ·intro w hSw; (try dsimp only at hSw); go_simp; (try with_reducible rfl)
  simp only [pU]
  refine tk 15 5 (v := ?_) rfl (hy := .inl ⟨by rfl, ?_⟩) (h := ?_); rotate_left
  ·intro w hSw; (try dsimp only at hSw); go_simp; (try with_reducible rfl)
  simp only [pU]
  clear hHeld
  refine wpAnyH_done (by kernel_rfl) ?_ _
  refine NoPanic.normal ?_
  have bb := bz1
  have Bwz1_1 := Bw.trans (bb.mono Bw.size)
  have swz1_1 := bb.size
  replace LG := LG.below bb LG.lt
  clear Bw
  clear bb bz1 K
  clear GN
  have GO := hide (goOn_no g (.slice ao xs.length ca) fr p 0 (errV ok fr) wz1_1 LG)
  clear LG
  go_wp2_with fail
  refine (unhide GO).mono ?_
  rintro e w2 ⟨rfl, L2, K2⟩
  clear GO
  have K3 := (Below.kpOf Bwz1_1 (fun k => k = g)).trans K2
  go_wp2
  go_ret
  exact ⟨0, p, false, rfl, ⟨by simp, by simp⟩, by simp, .inl rfl, L2, K3⟩
 | some z =>
  obtain ⟨n, q⟩ := z
  have GN := hide fun w' (b : Below w.heap.size w w') => getNum_some (.slice ao xs.length ca) xs p n q u pv w' (hr.below (hB.trans (b.mono hB.size)) (Nat.le_refl _)) hb (((hB.trans (b.mono hB.size)).cell (cell_lt he)).trans he) (hide hgn)
  have bd := getNum_bd xs hb p n q hgn
  have HL := hide hl
  clear hr hE he hB
  have LG := unhide HL
  clear hl HL
  have Bw : Below w.heap.size w w := Below.refl _ _
  go_enter Tryz.func93, Tryz.ntmps93
  have K : Hid (∀ w', Below w.heap.size w w' → (fun w' => Below w.heap.size w w' ∧ (w'.cell? ⟨g, 0, none⟩ = some (.slice ao xs.length ca) ∧ w'.cell? ⟨g, 1, none⟩ = some (.int .i64 fr) ∧ w'.cell? ⟨g, 2, none⟩ = some (.int .i64 p) ∧ w'.cell? ⟨g, 3, none⟩ = some (errV ok fr))) w') := hide fun w' hb' => ⟨hb', ⟨(LG.below hb' LG.lt).cell 0 rfl, (LG.below hb' LG.lt).cell 1 rfl, (LG.below hb' LG.lt).cell 2 rfl, (LG.below hb' LG.lt).cell 3 rfl⟩⟩
  go_upto_region 1 with fail
  have bA : Below w.heap.size w w.drew := Below.drew (Below.refl _ _)
  refine wp_region_noPanic ?_
  refine wp_region_held_drew (S := fun w' => Below w.heap.size w w' ∧ (w'.cell? ⟨g, 0, none⟩ = some (.slice ao xs.length ca) ∧ w'.cell? ⟨g, 1, none⟩ = some (.int .i64 fr) ∧ w'.cell? ⟨g, 2, none⟩ = some (.int .i64 p) ∧ w'.cell? ⟨g, 3, none⟩ = some (errV ok fr))) (by kernel_rfl) (unhide K _ bA) (fun hHeld => ?_)
  refine tk 0 7 (v := ?_) rfl (hy := .inl ⟨by rfl, ?_⟩) (h := ?_); rotate_left
  ·intro w hSw; (try dsimp only at hSw); go_simp; (try with_reducible rfl)
  simp only [pU]
  refine tk 4 11 (v := ?_) rfl (hy := .inl ⟨by rfl, ?_⟩) (h := ?_); rotate_left
  ·intro w hSw; (try dsimp only at hSw); go_simp; (try with_reducible rfl)
  simp only [pU]
  refine tk 1 8 (v := ?_) rfl (hy := .inl ⟨by rfl, ?_⟩) (h := ?_); rotate_left
  ·intro w hSw; (try dsimp only at hSw); go_simp; (try with_reducible rfl)
  simp only [pU]
  refine tk 5 12 (v := ?_) rfl (hy := .inl ⟨by rfl, ?_⟩) (h := ?_); rotate_left
  ·intro w hSw; (try dsimp only at hSw); go_simp; (try with_reducible rfl)
  simp only [pU]
  refine tk 2 9 (v := ?_) rfl (hy := .inl ⟨by rfl, ?_⟩) (h := ?_); rotate_left
  ·intro w hSw; (try dsimp only at hSw); go_simp; (try with_reducible rfl)
  simp only [pU]
  refine tk 6 13 (v := ?_) rfl (hy := .inl ⟨by rfl, ?_⟩) (h := ?_); rotate_left
  ·intro w hSw; (try dsimp only at hSw); go_simp; (try with_reducible rfl)
  simp only [pU]
  refine tk 3 10 (v := ?_) rfl (hy := .inl ⟨by rfl, ?_⟩) (h := ?_); rotate_left
  ·intro w hSw; (try dsimp only at hSw); go_simp; (try with_reducible rfl)
  simp only [pU]
  refine tk 7 14 (v := ?_) rfl (hy := .inl ⟨by rfl, ?_⟩) (h := ?_); rotate_left
  ·intro w hSw; (try dsimp only at hSw); go_simp; (try with_reducible rfl)
  simp only [pU]
  refine ready_at (i := 8) rfl (by kernel_rfl) (fun KK hKK => ?_)
  go_simp
  have hgo := bA
  refine (unhide GN _ hgo).mono ?_
  rintro e wz1_1 ⟨rfl, bb⟩
  have bz1 : Below w.heap.size w wz1_1 := bA.trans (bb.mono bA.size)
  clear bA hgo bb
  clear hHeld
  refine hKK.out _ _ (unhide K _ bz1) (fun hHeld => ?_)
  clear hKK KK
  refine tk 9 6 (v := ?_) rfl (hy := .inl ⟨by rfl, ?_⟩) (h := ?_); rotate_left
  ·intro w hSw; (try dsimp only at hSw); go_simp; (try with_reducible rfl)
  simp only [pU]
  refine tk 10 16 (v := ?_) rfl (hy := .inl ⟨by rfl, ?_⟩) (h := ?_); rotate_left
  ·intro w hSw; (try dsimp only at hSw); go_simp; (try with_reducible rfl)
  simp only [pU]
  refine tk 11 17 (v := ?_) rfl (hy := .inl ⟨by rfl, ?_⟩) (h := ?_); rotate_left
  ·intro w hSw; (try dsimp only at hSw); go_simp; (try with_reducible rfl)
  simp only [pU]
  refine tk 12 18 (v := ?_) rfl (hy := .inl ⟨by rfl, ?_⟩) (h := ?_); rotate_left
  ·intro w hSw; (try dsimp only at hSw); go_simp; (try with_reducible rfl)
  simp only [pU]
  refine tk 13 3 (v := ?_) rfl (hy := .inl ⟨by rfl, ?_⟩) (h := ?_); rotate_left
  ·intro w hSw; (try dsimp only at hSw); go_simp; (try with_reducible rfl)
  simp only [pU]
  refine tk 14 4 (v := ?_) rfl (hy := .inl ⟨by rfl, ?_⟩) (h := ?_); rotate_left
  ·intro w hSw; (try dsimp only at hSw); go_simp; (try with_reducible rfl)
  simp only [pU]
  refine tk 15 5 (v := ?_) rfl (hy := .inl ⟨by rfl, ?_⟩) (h := ?_); rotate_left
  ·intro w hSw; (try dsimp only at hSw); go_simp; (try with_reducible rfl)
  simp only [pU]
  clear hHeld
  refine wpAnyH_done (by kernel_rfl) ?_ _
  refine NoPanic.normal ?_
  have bb := bz1
  have Bwz1_1 := Bw.trans (bb.mono Bw.size)
  have swz1_1 := bb.size
  replace LG := LG.below bb LG.lt
  clear Bw
  clear bb bz1 K
  clear GN
  have GO := hide (goOn_yes g (.slice ao xs.length ca) fr p q (errV ok fr) wz1_1 LG)
  clear LG
  go_wp2_with fail
  refine (unhide GO).mono ?_
  rintro e w2 ⟨rfl, L2, K2⟩
  clear GO
  have K3 := (Below.kpOf Bwz1_1 (fun k => k = g)).trans K2
  go_wp2
  go_ret
  exact ⟨n, q, ok, rfl, ⟨by simp, fun _ => rfl⟩, by omega, .inr (by omega), L2, K3⟩

theorem getText_bd (xs : List Int) (hb : Bytes xs) (p : Int) (s : ByteArray) (q : Int) (h : getText xs p = some (s, q)) : s.size ≤ xs.length ∧ 0 < q ∧ q ≤ xs.length := by
 unfold getText at h
 cases hg : getNum xs p with
 | none => rw [hg] at h; cases h
 | some x =>
  obtain ⟨n, r⟩ := x
  have bd := getNum_bd xs hb p n r hg
  rw [hg] at h
  by_cases hl : n ≤ (xs.length : Int) - r
  ·simp only [if_pos hl, Option.some.injEq, Prod.mk.injEq] at h
   obtain ⟨rfl, rfl⟩ := h
   refine ⟨?_, by omega, by omega⟩
   unfold textAt
   rw [strOfNums_size, win_len _ _ _ (by omega)]
   omega
  ·simp [if_neg hl] at h
set_option maxHeartbeats 16000000 in
set_option maxRecDepth 100000 in
theorem rtext_any (W0 : World) (g : Nat) (ao : Option Addr) (ca : Nat) (xs : List Int) (fr p : Int) (ok : Bool) (w : World) (hr : RB W0 (.slice ao xs.length ca) xs) (hb : Bytes xs) (hE : Env W0) (hB : Below W0.heap.size W0 w) (hl : Loc w g #[.slice ao xs.length ca, .int .i64 fr, .int .i64 p, errV ok fr]) :
 Calls Tryz.prog 94 #[.pointer (some ⟨g, 0, none⟩)] w fun e w' => ∃ (x : ByteArray) (q : Int) (ok' : Bool), e = .returned (.string x) ∧ Got ok (getText xs p) ok' x q ∧ x.size ≤ xs.length ∧ Stays xs p q ∧ Loc w' g #[.slice ao xs.length ca, .int .i64 fr, .int .i64 q, errV ok' fr] ∧ Kp w w' (fun k => k = g) := by
 obtain ⟨u, pv, he⟩ := hE.no
 cases hgn : getText xs p with
 | none =>
  have GN := hide fun w' (b : Below w.heap.size w w') => getTextI_none (.slice ao xs.length ca) xs p u pv w' (hr.below (hB.trans (b.mono hB.size)) (Nat.le_refl _)) hb (((hB.trans (b.mono hB.size)).cell (cell_lt he)).trans he) (hide hgn)
  have HL := hide hl
  clear hr hE he hB
  have LG := unhide HL
  clear hl HL
  have Bw : Below w.heap.size w w := Below.refl _ _
  go_enter Tryz.func94, Tryz.ntmps94
  have K : Hid (∀ w', Below w.heap.size w w' → (fun w' => Below w.heap.size w w' ∧ (w'.cell? ⟨g, 0, none⟩ = some (.slice ao xs.length ca) ∧ w'.cell? ⟨g, 1, none⟩ = some (.int .i64 fr) ∧ w'.cell? ⟨g, 2, none⟩ = some (.int .i64 p) ∧ w'.cell? ⟨g, 3, none⟩ = some (errV ok fr))) w') := hide fun w' hb' => ⟨hb', ⟨(LG.below hb' LG.lt).cell 0 rfl, (LG.below hb' LG.lt).cell 1 rfl, (LG.below hb' LG.lt).cell 2 rfl, (LG.below hb' LG.lt).cell 3 rfl⟩⟩
  go_upto_region 1 with fail
  have bA : Below w.heap.size w w.drew := Below.drew (Below.refl _ _)
  refine wp_region_noPanic ?_
  refine wp_region_held_drew (S := fun w' => Below w.heap.size w w' ∧ (w'.cell? ⟨g, 0, none⟩ = some (.slice ao xs.length ca) ∧ w'.cell? ⟨g, 1, none⟩ = some (.int .i64 fr) ∧ w'.cell? ⟨g, 2, none⟩ = some (.int .i64 p) ∧ w'.cell? ⟨g, 3, none⟩ = some (errV ok fr))) (by kernel_rfl) (unhide K _ bA) (fun hHeld => ?_)
  refine tk 0 7 (v := ?_) rfl (hy := .inl ⟨by rfl, ?_⟩) (h := ?_); rotate_left
  ·intro w hSw; (try dsimp only at hSw); go_simp; (try with_reducible rfl)
  simp only [pU]
  refine tk 4 11 (v := ?_) rfl (hy := .inl ⟨by rfl, ?_⟩) (h := ?_); rotate_left
  ·intro w hSw; (try dsimp only at hSw); go_simp; (try with_reducible rfl)
  simp only [pU]
  refine tk 1 8 (v := ?_) rfl (hy := .inl ⟨by rfl, ?_⟩) (h := ?_); rotate_left
  ·intro w hSw; (try dsimp only at hSw); go_simp; (try with_reducible rfl)
  simp only [pU]
  refine tk 5 12 (v := ?_) rfl (hy := .inl ⟨by rfl, ?_⟩) (h := ?_); rotate_left
  ·intro w hSw; (try dsimp only at hSw); go_simp; (try with_reducible rfl)
  simp only [pU]
  refine tk 2 9 (v := ?_) rfl (hy := .inl ⟨by rfl, ?_⟩) (h := ?_); rotate_left
  ·intro w hSw; (try dsimp only at hSw); go_simp; (try with_reducible rfl)
  simp only [pU]
  refine tk 6 13 (v := ?_) rfl (hy := .inl ⟨by rfl, ?_⟩) (h := ?_); rotate_left
  ·intro w hSw; (try dsimp only at hSw); go_simp; (try with_reducible rfl)
  simp only [pU]
  refine tk 3 10 (v := ?_) rfl (hy := .inl ⟨by rfl, ?_⟩) (h := ?_); rotate_left
  ·intro w hSw; (try dsimp only at hSw); go_simp; (try with_reducible rfl)
  simp only [pU]
  refine tk 7 14 (v := ?_) rfl (hy := .inl ⟨by rfl, ?_⟩) (h := ?_); rotate_left
  ·intro w hSw; (try dsimp only at hSw); go_simp; (try with_reducible rfl)
  simp only [pU]
  refine ready_at (i := 8) rfl (by kernel_rfl) (fun KK hKK => ?_)
  go_simp
  have hgo := bA
  refine (unhide GN _ hgo).mono ?_
  rintro e wz1_1 ⟨rfl, bb⟩
  have bz1 : Below w.heap.size w wz1_1 := bA.trans (bb.mono bA.size)
  clear bA hgo bb
  clear hHeld
  refine hKK.out _ _ (unhide K _ bz1) (fun hHeld => ?_)
  clear hKK KK
  refine tk 9 6 (v := ?_) rfl (hy := .inl ⟨by rfl, ?_⟩) (h := ?_); rotate_left
  ·intro w hSw; (try dsimp only at hSw); go_simp; (try with_reducible rfl)
  simp only [pU]
  refine tk 10 16 (v := ?_) rfl (hy := .inl ⟨by rfl, ?_⟩) (h := ?_); rotate_left
  ·intro w hSw; (try dsimp only at hSw); go_simp; (try with_reducible rfl)
  simp only [pU]
  refine tk 11 17 (v := ?_) rfl (hy := .inl ⟨by rfl, ?_⟩) (h := ?_); rotate_left
  ·intro w hSw; (try dsimp only at hSw); go_simp; (try with_reducible rfl)
  simp only [pU]
  refine tk 12 18 (v := ?_) rfl (hy := .inl ⟨by rfl, ?_⟩) (h := ?_); rotate_left
  ·intro w hSw; (try dsimp only at hSw); go_simp; (try with_reducible rfl)
  simp only [pU]
  refine tk 13 3 (v := ?_) rfl (hy := .inl ⟨by rfl, ?_⟩) (h := ?_); rotate_left
  ·intro w hSw; (try dsimp only at hSw); go_simp; (try with_reducible rfl)
  simp only [pU]
  refine tk 14 4 (v := ?_) rfl (hy := .inl ⟨by rfl, ?_⟩) (h := ?_); rotate_left
  ·intro w hSw; (try dsimp only at hSw); go_simp; (try with_reducible rfl)
  simp only [pU]
  refine tk 15 5 (v := ?_) rfl (hy := .inl ⟨by rfl, ?_⟩) (h := ?_); rotate_left
  ·intro w hSw; (try dsimp only at hSw); go_simp; (try with_reducible rfl)
  simp only [pU]
  clear hHeld
  refine wpAnyH_done (by kernel_rfl) ?_ _
  refine NoPanic.normal ?_
  have bb := bz1
  have Bwz1_1 := Bw.trans (bb.mono Bw.size)
  have swz1_1 := bb.size
  replace LG := LG.below bb LG.lt
  clear Bw
  clear bb bz1 K
  clear GN
  have GO := hide (goOn_no g (.slice ao xs.length ca) fr p 0 (errV ok fr) wz1_1 LG)
  clear LG
  go_wp2_with fail
  refine (unhide GO).mono ?_
  rintro e w2 ⟨rfl, L2, K2⟩
  clear GO
  have K3 := (Below.kpOf Bwz1_1 (fun k => k = g)).trans K2
  go_wp2
  go_ret
  exact ⟨⟨#[]⟩, p, false, rfl, ⟨by simp, by simp⟩, Nat.zero_le _, .inl rfl, L2, K3⟩
 | some z =>
  obtain ⟨n, q⟩ := z
  have GN := hide fun w' (b : Below w.heap.size w w') => getTextI_some (.slice ao xs.length ca) xs p n q u pv w' (hr.below (hB.trans (b.mono hB.size)) (Nat.le_refl _)) hb (((hB.trans (b.mono hB.size)).cell (cell_lt he)).trans he) (hide hgn)
  have bd := getText_bd xs hb p n q hgn
  have HL := hide hl
  clear hr hE he hB
  have LG := unhide HL
  clear hl HL
  have Bw : Below w.heap.size w w := Below.refl _ _
  go_enter Tryz.func94, Tryz.ntmps94
  have K : Hid (∀ w', Below w.heap.size w w' → (fun w' => Below w.heap.size w w' ∧ (w'.cell? ⟨g, 0, none⟩ = some (.slice ao xs.length ca) ∧ w'.cell? ⟨g, 1, none⟩ = some (.int .i64 fr) ∧ w'.cell? ⟨g, 2, none⟩ = some (.int .i64 p) ∧ w'.cell? ⟨g, 3, none⟩ = some (errV ok fr))) w') := hide fun w' hb' => ⟨hb', ⟨(LG.below hb' LG.lt).cell 0 rfl, (LG.below hb' LG.lt).cell 1 rfl, (LG.below hb' LG.lt).cell 2 rfl, (LG.below hb' LG.lt).cell 3 rfl⟩⟩
  go_upto_region 1 with fail
  have bA : Below w.heap.size w w.drew := Below.drew (Below.refl _ _)
  refine wp_region_noPanic ?_
  refine wp_region_held_drew (S := fun w' => Below w.heap.size w w' ∧ (w'.cell? ⟨g, 0, none⟩ = some (.slice ao xs.length ca) ∧ w'.cell? ⟨g, 1, none⟩ = some (.int .i64 fr) ∧ w'.cell? ⟨g, 2, none⟩ = some (.int .i64 p) ∧ w'.cell? ⟨g, 3, none⟩ = some (errV ok fr))) (by kernel_rfl) (unhide K _ bA) (fun hHeld => ?_)
  refine tk 0 7 (v := ?_) rfl (hy := .inl ⟨by rfl, ?_⟩) (h := ?_); rotate_left
  ·intro w hSw; (try dsimp only at hSw); go_simp; (try with_reducible rfl)
  simp only [pU]
  refine tk 4 11 (v := ?_) rfl (hy := .inl ⟨by rfl, ?_⟩) (h := ?_); rotate_left
  ·intro w hSw; (try dsimp only at hSw); go_simp; (try with_reducible rfl)
  simp only [pU]
  refine tk 1 8 (v := ?_) rfl (hy := .inl ⟨by rfl, ?_⟩) (h := ?_); rotate_left
  ·intro w hSw; (try dsimp only at hSw); go_simp; (try with_reducible rfl)
  simp only [pU]
  refine tk 5 12 (v := ?_) rfl (hy := .inl ⟨by rfl, ?_⟩) (h := ?_); rotate_left
  ·intro w hSw; (try dsimp only at hSw); go_simp; (try with_reducible rfl)
  simp only [pU]
  refine tk 2 9 (v := ?_) rfl (hy := .inl ⟨by rfl, ?_⟩) (h := ?_); rotate_left
  ·intro w hSw; (try dsimp only at hSw); go_simp; (try with_reducible rfl)
  simp only [pU]
  refine tk 6 13 (v := ?_) rfl (hy := .inl ⟨by rfl, ?_⟩) (h := ?_); rotate_left
  ·intro w hSw; (try dsimp only at hSw); go_simp; (try with_reducible rfl)
  simp only [pU]
  refine tk 3 10 (v := ?_) rfl (hy := .inl ⟨by rfl, ?_⟩) (h := ?_); rotate_left
  ·intro w hSw; (try dsimp only at hSw); go_simp; (try with_reducible rfl)
  simp only [pU]
  refine tk 7 14 (v := ?_) rfl (hy := .inl ⟨by rfl, ?_⟩) (h := ?_); rotate_left
  ·intro w hSw; (try dsimp only at hSw); go_simp; (try with_reducible rfl)
  simp only [pU]
  refine ready_at (i := 8) rfl (by kernel_rfl) (fun KK hKK => ?_)
  go_simp
  have hgo := bA
  refine (unhide GN _ hgo).mono ?_
  rintro e wz1_1 ⟨rfl, bb⟩
  have bz1 : Below w.heap.size w wz1_1 := bA.trans (bb.mono bA.size)
  clear bA hgo bb
  clear hHeld
  refine hKK.out _ _ (unhide K _ bz1) (fun hHeld => ?_)
  clear hKK KK
  refine tk 9 6 (v := ?_) rfl (hy := .inl ⟨by rfl, ?_⟩) (h := ?_); rotate_left
  ·intro w hSw; (try dsimp only at hSw); go_simp; (try with_reducible rfl)
  simp only [pU]
  refine tk 10 16 (v := ?_) rfl (hy := .inl ⟨by rfl, ?_⟩) (h := ?_); rotate_left
  ·intro w hSw; (try dsimp only at hSw); go_simp; (try with_reducible rfl)
  simp only [pU]
  refine tk 11 17 (v := ?_) rfl (hy := .inl ⟨by rfl, ?_⟩) (h := ?_); rotate_left
  ·intro w hSw; (try dsimp only at hSw); go_simp; (try with_reducible rfl)
  simp only [pU]
  refine tk 12 18 (v := ?_) rfl (hy := .inl ⟨by rfl, ?_⟩) (h := ?_); rotate_left
  ·intro w hSw; (try dsimp only at hSw); go_simp; (try with_reducible rfl)
  simp only [pU]
  refine tk 13 3 (v := ?_) rfl (hy := .inl ⟨by rfl, ?_⟩) (h := ?_); rotate_left
  ·intro w hSw; (try dsimp only at hSw); go_simp; (try with_reducible rfl)
  simp only [pU]
  refine tk 14 4 (v := ?_) rfl (hy := .inl ⟨by rfl, ?_⟩) (h := ?_); rotate_left
  ·intro w hSw; (try dsimp only at hSw); go_simp; (try with_reducible rfl)
  simp only [pU]
  refine tk 15 5 (v := ?_) rfl (hy := .inl ⟨by rfl, ?_⟩) (h := ?_); rotate_left
  ·intro w hSw; (try dsimp only at hSw); go_simp; (try with_reducible rfl)
  simp only [pU]
  clear hHeld
  refine wpAnyH_done (by kernel_rfl) ?_ _
  refine NoPanic.normal ?_
  have bb := bz1
  have Bwz1_1 := Bw.trans (bb.mono Bw.size)
  have swz1_1 := bb.size
  replace LG := LG.below bb LG.lt
  clear Bw
  clear bb bz1 K
  clear GN
  have GO := hide (goOn_yes g (.slice ao xs.length ca) fr p q (errV ok fr) wz1_1 LG)
  clear LG
  go_wp2_with fail
  refine (unhide GO).mono ?_
  rintro e w2 ⟨rfl, L2, K2⟩
  clear GO
  have K3 := (Below.kpOf Bwz1_1 (fun k => k = g)).trans K2
  go_wp2
  go_ret
  exact ⟨n, q, ok, rfl, ⟨by simp, fun _ => rfl⟩, by omega, .inr (by omega), L2, K3⟩
end Go.Proofs.YtbigcmcliamenaaGreatDoor
