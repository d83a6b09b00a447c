/- QcOk of the program and of the specification. -/
import Derived.Test.YtbigcmcliamenaaGreatDoorNAAT
import Derived.Test.YtbigcmcliamenaaGreatDoorNAAS
import Derived.Test.YtbigcmcliamenaaGreatDoorNAAU
import Derived.Test.YtbigcmcliamenaaGreatDoorNAAB
import Derived.Test.YtbigcmcliamenaaGreatDoorNAAF
import Derived.Test.YtbigcmcliamenaaGreatDoorNAAV
import Derived.Test.YtbigcmcliamenaaGreatDoorNAAO
namespace Go.Proofs.YtbigcmcliamenaaGreatDoor
open Go.RowKit
set_option linter.unusedSectionVars false
variable [∀ (a b c d : Int), Decidable (Ok4 a b c d)]
variable [∀ (a b c d : Nat), Decidable (okN a b c d)]
variable [∀ (last : Int) (s : St), Decidable (GoodSt last s)]
variable [∀ (x : T4), Decidable (OkT x)]
variable [∀ (n : Int) (s : List Int), Decidable (OkL n s)]
variable [∀ (n f : Int), Decidable (COk n f)]

def qokB (n f v : Int) (s : ByteArray) (xs : List Int) : Bool := decide (COk n f) && (stepsAns s).isSome && (viewAns s == v) && (if s = ⟨#[]⟩ then decide (xs = []) else decide (OkL n xs) && decide (quorumOf n f ≤ (xs.length : Int)))

set_option maxHeartbeats 8000000 in
set_option maxRecDepth 100000 in
theorem specQcOk_a (n f v : Int) (s : ByteArray) (ao : Option Addr) (ca : Nat) (xs : List Int) (w : World) (hs : s.size ≤ 1048576) (ha : RI w (.slice ao xs.length ca) xs) (hc : decide (COk n f) = false) :
 Calls Tryz.prog 72 #[cv n f, qv v s (.slice ao xs.length ca)] w fun e w' => e = .returned (.bool (false)) ∧ Below w.heap.size w w' := by
 have CO := hide fun w => specConfOk n f w
 have NO := hide fun w => specNameOk s w (by omega)
 have VO := hide fun w => specViewOf s w (by omega)
 have QU := hide fun w => specQuorum n f w
 have SO := hide fun w h => specSetOk n (.slice ao xs.length ca) xs w h
 obtain ⟨w0, hw0⟩ : ∃ w0, (w.alloc (.cells #[.int .i64 n, .int .i64 f] 25)).alloc (.cells #[.int .i64 v, .string s, .slice ao xs.length ca] 28) = w0 := ⟨_, rfl⟩
 have B0 : Below w.heap.size w w0 := hw0 ▸ qalloc2 _ _ _
 have C0 : Loc w0 w.heap.size #[.int .i64 n, .int .i64 f] := hw0 ▸ (loc_at w _ _ rfl).alloc _
 have G0 : Loc w0 (w.heap.size + 1) #[.int .i64 v, .string s, .slice ao xs.length ca] := hw0 ▸ loc_at (w.alloc _) _ _ (by simp)
 have HA := hide (ha.below B0 (Nat.le_refl _))
 have K : Hid (∀ w', Below w0.heap.size w0 w' → (fun w' => Below w0.heap.size w0 w' ∧ (w'.cell? ⟨w.heap.size, 0, none⟩ = some (.int .i64 n) ∧ w'.cell? ⟨w.heap.size, 1, none⟩ = some (.int .i64 f)) ∧ (w'.cell? ⟨w.heap.size + 1, 0, none⟩ = some (.int .i64 v) ∧ w'.cell? ⟨w.heap.size + 1, 1, none⟩ = some (.string s) ∧ w'.cell? ⟨w.heap.size + 1, 2, none⟩ = some (.slice ao xs.length ca))) w') := hide fun w' hb' => ⟨hb', ⟨(C0.below hb' C0.lt).cell 0 rfl, (C0.below hb' C0.lt).cell 1 rfl⟩, ⟨(G0.below hb' G0.lt).cell 0 rfl, (G0.below hb' G0.lt).cell 1 rfl, (G0.below hb' G0.lt).cell 2 rfl⟩⟩
 rw [hc] at CO
 clear hc NO VO QU SO
 obtain ⟨m, hm⟩ : ∃ m, xs.length = m := ⟨_, rfl⟩
 rw [hm] at K HA hw0 ⊢
 clear hm
 clear ha G0 C0
 go_enter Tryz.func72, Tryz.ntmps72
 go_upto_region 1 with fail
 clear hw0
 have bA : Below w0.heap.size w0 w0.drew := Below.drew (Below.refl _ _)
 refine wp_region_noPanic ?_
 refine wp_region_held_drew (S := fun w' => Below w0.heap.size w0 w' ∧ (w'.cell? ⟨w.heap.size, 0, none⟩ = some (.int .i64 n) ∧ w'.cell? ⟨w.heap.size, 1, none⟩ = some (.int .i64 f)) ∧ (w'.cell? ⟨w.heap.size + 1, 0, none⟩ = some (.int .i64 v) ∧ w'.cell? ⟨w.heap.size + 1, 1, none⟩ = some (.string s) ∧ w'.cell? ⟨w.heap.size + 1, 2, none⟩ = some (.slice ao m ca))) (by kernel_rfl) (unhide K _ bA) (fun hHeld => ?_)
 refine tk 0 5 (v := ?_) rfl (hy := .inl ⟨by rfl, ?_⟩) (h := ?_); rotate_left
 ·intro w hSw; (try dsimp only at hSw); go_simp; (try with_reducible rfl)
 simp only [pU]
 refine ready_at (i := 1) rfl (by kernel_rfl) (fun KK hKK => ?_)
 go_simp
 have hgo := bA
 refine (unhide CO _).mono ?_
 rintro e wy1 ⟨rfl, bb⟩
 have bB : Below w0.heap.size w0 wy1 := bA.trans (bb.mono bA.size)
 clear bA hgo bb
 clear hHeld
 refine hKK.out _ _ (unhide K _ bB) (fun hHeld => ?_)
 clear hKK KK
 refine tk 2 7 (v := ?_) rfl (hy := .inl ⟨by rfl, ?_⟩) (h := ?_); rotate_left
 ·intro w hSw; (try dsimp only at hSw); go_simp; (try with_reducible rfl)
 simp only [pU]
 refine tk 3 8 (v := ?_) rfl (hy := .inl ⟨by rfl, ?_⟩) (h := ?_); rotate_left
 ·intro w hSw; (try dsimp only at hSw); go_simp; (try with_reducible rfl)
 simp only [pU]
 refine sk 4 9 rfl (h := ?_)
 simp only [pU]
 refine sk 5 10 rfl (h := ?_)
 simp only [pU]
 refine sk 6 11 rfl (h := ?_)
 simp only [pU]
 refine sk 7 12 rfl (h := ?_)
 simp only [pU]
 refine tk 8 13 (v := ?_) rfl (hy := .inl ⟨by rfl, ?_⟩) (h := ?_); rotate_left
 ·intro w hSw; (try dsimp only at hSw); go_simp; (try with_reducible rfl)
 simp only [pU]
 refine tk 9 14 (v := ?_) rfl (hy := .inl ⟨by rfl, ?_⟩) (h := ?_); rotate_left
 ·intro w hSw; (try dsimp only at hSw); go_simp; (try with_reducible rfl)
 simp only [pU]
 refine sk 10 15 rfl (h := ?_)
 simp only [pU]
 refine sk 11 16 rfl (h := ?_)
 simp only [pU]
 refine sk 12 17 rfl (h := ?_)
 simp only [pU]
 refine sk 13 18 rfl (h := ?_)
 simp only [pU]
 refine sk 14 19 rfl (h := ?_)
 simp only [pU]
 refine sk 15 20 rfl (h := ?_)
 simp only [pU]
 refine tk 16 21 (v := ?_) rfl (hy := .inl ⟨by rfl, ?_⟩) (h := ?_); rotate_left
 ·intro w hSw; (try dsimp only at hSw); go_simp; (try with_reducible rfl)
 simp only [pU]
 clear hHeld
 refine wpAnyH_done (by kernel_rfl) ?_ _
 refine NoPanic.normal ?_
 go_wp2
 go_ret
 exact ⟨rfl, B0.trans (bB.mono B0.size)⟩

set_option maxHeartbeats 8000000 in
set_option maxRecDepth 100000 in
theorem specQcOk_b (n f v : Int) (s : ByteArray) (ao : Option Addr) (ca : Nat) (xs : List Int) (w : World) (hs : s.size ≤ 1048576) (ha : RI w (.slice ao xs.length ca) xs) (hc : decide (COk n f) = true) (hn : (stepsAns s).isSome = false) :
 Calls Tryz.prog 72 #[cv n f, qv v s (.slice ao xs.length ca)] w fun e w' => e = .returned (.bool (false)) ∧ Below w.heap.size w w' := by
 have CO := hide fun w => specConfOk n f w
 have NO := hide fun w => specNameOk s w (by omega)
 have VO := hide fun w => specViewOf s w (by omega)
 have QU := hide fun w => specQuorum n f w
 have SO := hide fun w h => specSetOk n (.slice ao xs.length ca) xs w h
 obtain ⟨w0, hw0⟩ : ∃ w0, (w.alloc (.cells #[.int .i64 n, .int .i64 f] 25)).alloc (.cells #[.int .i64 v, .string s, .slice ao xs.length ca] 28) = w0 := ⟨_, rfl⟩
 have B0 : Below w.heap.size w w0 := hw0 ▸ qalloc2 _ _ _
 have C0 : Loc w0 w.heap.size #[.int .i64 n, .int .i64 f] := hw0 ▸ (loc_at w _ _ rfl).alloc _
 have G0 : Loc w0 (w.heap.size + 1) #[.int .i64 v, .string s, .slice ao xs.length ca] := hw0 ▸ loc_at (w.alloc _) _ _ (by simp)
 have HA := hide (ha.below B0 (Nat.le_refl _))
 have K : Hid (∀ w', Below w0.heap.size w0 w' → (fun w' => Below w0.heap.size w0 w' ∧ (w'.cell? ⟨w.heap.size, 0, none⟩ = some (.int .i64 n) ∧ w'.cell? ⟨w.heap.size, 1, none⟩ = some (.int .i64 f)) ∧ (w'.cell? ⟨w.heap.size + 1, 0, none⟩ = some (.int .i64 v) ∧ w'.cell? ⟨w.heap.size + 1, 1, none⟩ = some (.string s) ∧ w'.cell? ⟨w.heap.size + 1, 2, none⟩ = some (.slice ao xs.length ca))) w') := hide fun w' hb' => ⟨hb', ⟨(C0.below hb' C0.lt).cell 0 rfl, (C0.below hb' C0.lt).cell 1 rfl⟩, ⟨(G0.below hb' G0.lt).cell 0 rfl, (G0.below hb' G0.lt).cell 1 rfl, (G0.below hb' G0.lt).cell 2 rfl⟩⟩
 rw [hc] at CO
 rw [hn] at NO
 clear hc hn VO QU SO
 obtain ⟨m, hm⟩ : ∃ m, xs.length = m := ⟨_, rfl⟩
 rw [hm] at K HA hw0 ⊢
 clear hm
 clear ha G0 C0
 go_enter Tryz.func72, Tryz.ntmps72
 go_upto_region 1 with fail
 clear hw0
 have bA : Below w0.heap.size w0 w0.drew := Below.drew (Below.refl _ _)
 refine wp_region_noPanic ?_
 refine wp_region_held_drew (S := fun w' => Below w0.heap.size w0 w' ∧ (w'.cell? ⟨w.heap.size, 0, none⟩ = some (.int .i64 n) ∧ w'.cell? ⟨w.heap.size, 1, none⟩ = some (.int .i64 f)) ∧ (w'.cell? ⟨w.heap.size + 1, 0, none⟩ = some (.int .i64 v) ∧ w'.cell? ⟨w.heap.size + 1, 1, none⟩ = some (.string s) ∧ w'.cell? ⟨w.heap.size + 1, 2, none⟩ = some (.slice ao m ca))) (by kernel_rfl) (unhide K _ bA) (fun hHeld => ?_)
 refine tk 0 5 (v := ?_) rfl (hy := .inl ⟨by rfl, ?_⟩) (h := ?_); rotate_left
 ·intro w hSw; (try dsimp only at hSw); go_simp; (try with_reducible rfl)
 simp only [pU]
 refine ready_at (i := 1) rfl (by kernel_rfl) (fun KK hKK => ?_)
 go_simp
 have hgo := bA
 refine (unhide CO _).mono ?_
 rintro e wy1 ⟨rfl, bb⟩
 have bB : Below w0.heap.size w0 wy1 := bA.trans (bb.mono bA.size)
 clear bA hgo bb
 clear hHeld
 refine hKK.out _ _ (unhide K _ bB) (fun hHeld => ?_)
 clear hKK KK
 refine tk 2 7 (v := ?_) rfl (hy := .inl ⟨by rfl, ?_⟩) (h := ?_); rotate_left
 ·intro w hSw; (try dsimp only at hSw); go_simp; (try with_reducible rfl)
 simp only [pU]
 refine tk 3 8 (v := ?_) rfl (hy := .inl ⟨by rfl, ?_⟩) (h := ?_); rotate_left
 ·intro w hSw; (try dsimp only at hSw); go_simp; (try with_reducible rfl)
 simp only [pU]
 refine tk 4 9 (v := ?_) rfl (hy := .inl ⟨by rfl, ?_⟩) (h := ?_); rotate_left
 ·intro w hSw; (try dsimp only at hSw); go_simp; (try with_reducible rfl)
 simp only [pU]
 refine tk 5 10 (v := ?_) rfl (hy := .inl ⟨by rfl, ?_⟩) (h := ?_); rotate_left
 ·intro w hSw; (try dsimp only at hSw); go_simp; (try with_reducible rfl)
 simp only [pU]
 refine ready_at (i := 6) rfl (by kernel_rfl) (fun KK hKK => ?_)
 go_simp
 have hgo := bB
 refine (unhide NO _).mono ?_
 rintro e wy2 ⟨rfl, bb⟩
 have bC : Below w0.heap.size w0 wy2 := bB.trans (bb.mono bB.size)
 clear bB hgo bb
 clear hHeld
 refine hKK.out _ _ (unhide K _ bC) (fun hHeld => ?_)
 clear hKK KK
 refine tk 7 12 (v := ?_) rfl (hy := .inl ⟨by rfl, ?_⟩) (h := ?_); rotate_left
 ·intro w hSw; (try dsimp only at hSw); go_simp; (try with_reducible rfl)
 simp only [pU]
 refine tk 8 13 (v := ?_) rfl (hy := .inl ⟨by rfl, ?_⟩) (h := ?_); rotate_left
 ·intro w hSw; (try dsimp only at hSw); go_simp; (try with_reducible rfl)
 simp only [pU]
 refine tk 9 14 (v := ?_) rfl (hy := .inl ⟨by rfl, ?_⟩) (h := ?_); rotate_left
 ·intro w hSw; (try dsimp only at hSw); go_simp; (try with_reducible rfl)
 simp only [pU]
 refine sk 10 15 rfl (h := ?_)
 simp only [pU]
 refine sk 11 16 rfl (h := ?_)
 simp only [pU]
 refine sk 12 17 rfl (h := ?_)
 simp only [pU]
 refine sk 13 18 rfl (h := ?_)
 simp only [pU]
 refine sk 14 19 rfl (h := ?_)
 simp only [pU]
 refine sk 15 20 rfl (h := ?_)
 simp only [pU]
 refine tk 16 21 (v := ?_) rfl (hy := .inl ⟨by rfl, ?_⟩) (h := ?_); rotate_left
 ·intro w hSw; (try dsimp only at hSw); go_simp; (try with_reducible rfl)
 simp only [pU]
 clear hHeld
 refine wpAnyH_done (by kernel_rfl) ?_ _
 refine NoPanic.normal ?_
 go_wp2
 go_ret
 exact ⟨rfl, B0.trans (bC.mono B0.size)⟩

set_option maxHeartbeats 8000000 in
set_option maxRecDepth 100000 in
theorem specQcOk_c (n f v : Int) (s : ByteArray) (ao : Option Addr) (ca : Nat) (xs : List Int) (w : World) (hs : s.size ≤ 1048576) (ha : RI w (.slice ao xs.length ca) xs) (hc : decide (COk n f) = true) (hn : (stepsAns s).isSome = true) (hv : viewAns s ≠ v) :
 Calls Tryz.prog 72 #[cv n f, qv v s (.slice ao xs.length ca)] w fun e w' => e = .returned (.bool (false)) ∧ Below w.heap.size w w' := by
 have CO := hide fun w => specConfOk n f w
 have NO := hide fun w => specNameOk s w (by omega)
 have VO := hide fun w => specViewOf s w (by omega)
 have QU := hide fun w => specQuorum n f w
 have SO := hide fun w h => specSetOk n (.slice ao xs.length ca) xs w h
 obtain ⟨w0, hw0⟩ : ∃ w0, (w.alloc (.cells #[.int .i64 n, .int .i64 f] 25)).alloc (.cells #[.int .i64 v, .string s, .slice ao xs.length ca] 28) = w0 := ⟨_, rfl⟩
 have B0 : Below w.heap.size w w0 := hw0 ▸ qalloc2 _ _ _
 have C0 : Loc w0 w.heap.size #[.int .i64 n, .int .i64 f] := hw0 ▸ (loc_at w _ _ rfl).alloc _
 have G0 : Loc w0 (w.heap.size + 1) #[.int .i64 v, .string s, .slice ao xs.length ca] := hw0 ▸ loc_at (w.alloc _) _ _ (by simp)
 have HA := hide (ha.below B0 (Nat.le_refl _))
 have K : Hid (∀ w', Below w0.heap.size w0 w' → (fun w' => Below w0.heap.size w0 w' ∧ (w'.cell? ⟨w.heap.size, 0, none⟩ = some (.int .i64 n) ∧ w'.cell? ⟨w.heap.size, 1, none⟩ = some (.int .i64 f)) ∧ (w'.cell? ⟨w.heap.size + 1, 0, none⟩ = some (.int .i64 v) ∧ w'.cell? ⟨w.heap.size + 1, 1, none⟩ = some (.string s) ∧ w'.cell? ⟨w.heap.size + 1, 2, none⟩ = some (.slice ao xs.length ca))) w') := hide fun w' hb' => ⟨hb', ⟨(C0.below hb' C0.lt).cell 0 rfl, (C0.below hb' C0.lt).cell 1 rfl⟩, ⟨(G0.below hb' G0.lt).cell 0 rfl, (G0.below hb' G0.lt).cell 1 rfl, (G0.below hb' G0.lt).cell 2 rfl⟩⟩
 rw [hc] at CO
 rw [hn] at NO
 clear hc hn QU SO
 generalize viewAns s = q at *
 have d2 : (q == v) = false := by simpa using hv
 obtain ⟨m, hm⟩ : ∃ m, xs.length = m := ⟨_, rfl⟩
 rw [hm] at K HA hw0 ⊢
 clear hm
 clear ha G0 C0
 go_enter Tryz.func72, Tryz.ntmps72
 go_upto_region 1 with fail
 clear hw0
 have bA : Below w0.heap.size w0 w0.drew := Below.drew (Below.refl _ _)
 refine wp_region_noPanic ?_
 refine wp_region_held_drew (S := fun w' => Below w0.heap.size w0 w' ∧ (w'.cell? ⟨w.heap.size, 0, none⟩ = some (.int .i64 n) ∧ w'.cell? ⟨w.heap.size, 1, none⟩ = some (.int .i64 f)) ∧ (w'.cell? ⟨w.heap.size + 1, 0, none⟩ = some (.int .i64 v) ∧ w'.cell? ⟨w.heap.size + 1, 1, none⟩ = some (.string s) ∧ w'.cell? ⟨w.heap.size + 1, 2, none⟩ = some (.slice ao m ca))) (by kernel_rfl) (unhide K _ bA) (fun hHeld => ?_)
 refine tk 0 5 (v := ?_) rfl (hy := .inl ⟨by rfl, ?_⟩) (h := ?_); rotate_left
 ·intro w hSw; (try dsimp only at hSw); go_simp; (try with_reducible rfl)
 simp only [pU]
 refine ready_at (i := 1) rfl (by kernel_rfl) (fun KK hKK => ?_)
 go_simp
 have hgo := bA
 refine (unhide CO _).mono ?_
 rintro e wy1 ⟨rfl, bb⟩
 have bB : Below w0.heap.size w0 wy1 := bA.trans (bb.mono bA.size)
 clear bA hgo bb
 clear hHeld
 refine hKK.out _ _ (unhide K _ bB) (fun hHeld => ?_)
 clear hKK KK
 refine tk 2 7 (v := ?_) rfl (hy := .inl ⟨by rfl, ?_⟩) (h := ?_); rotate_left
 ·intro w hSw; (try dsimp only at hSw); go_simp; (try with_reducible rfl)
 simp only [pU]
 refine tk 3 8 (v := ?_) rfl (hy := .inl ⟨by rfl, ?_⟩) (h := ?_); rotate_left
 ·intro w hSw; (try dsimp only at hSw); go_simp; (try with_reducible rfl)
 simp only [pU]
 refine tk 4 9 (v := ?_) rfl (hy := .inl ⟨by rfl, ?_⟩) (h := ?_); rotate_left
 ·intro w hSw; (try dsimp only at hSw); go_simp; (try with_reducible rfl)
 simp only [pU]
 refine tk 5 10 (v := ?_) rfl (hy := .inl ⟨by rfl, ?_⟩) (h := ?_); rotate_left
 ·intro w hSw; (try dsimp only at hSw); go_simp; (try with_reducible rfl)
 simp only [pU]
 refine ready_at (i := 6) rfl (by kernel_rfl) (fun KK hKK => ?_)
 go_simp
 have hgo := bB
 refine (unhide NO _).mono ?_
 rintro e wy2 ⟨rfl, bb⟩
 have bC : Below w0.heap.size w0 wy2 := bB.trans (bb.mono bB.size)
 clear bB hgo bb
 clear hHeld
 refine hKK.out _ _ (unhide K _ bC) (fun hHeld => ?_)
 clear hKK KK
 refine tk 7 12 (v := ?_) rfl (hy := .inl ⟨by rfl, ?_⟩) (h := ?_); rotate_left
 ·intro w hSw; (try dsimp only at hSw); go_simp; (try with_reducible rfl)
 simp only [pU]
 refine tk 8 13 (v := ?_) rfl (hy := .inl ⟨by rfl, ?_⟩) (h := ?_); rotate_left
 ·intro w hSw; (try dsimp only at hSw); go_simp; (try with_reducible rfl)
 simp only [pU]
 refine tk 9 14 (v := ?_) rfl (hy := .inl ⟨by rfl, ?_⟩) (h := ?_); rotate_left
 ·intro w hSw; (try dsimp only at hSw); go_simp; (try with_reducible rfl)
 simp only [pU]
 refine tk 10 15 (v := ?_) rfl (hy := .inl ⟨by rfl, ?_⟩) (h := ?_); rotate_left
 ·intro w hSw; (try dsimp only at hSw); go_simp; (try with_reducible rfl)
 simp only [pU]
 refine tk 11 16 (v := ?_) rfl (hy := .inl ⟨by rfl, ?_⟩) (h := ?_); rotate_left
 ·intro w hSw; (try dsimp only at hSw); go_simp; (try with_reducible rfl)
 simp only [pU]
 refine tk 13 18 (v := ?_) rfl (hy := .inl ⟨by rfl, ?_⟩) (h := ?_); rotate_left
 ·intro w hSw; (try dsimp only at hSw); go_simp; (try with_reducible rfl)
 simp only [pU]
 refine tk 14 19 (v := ?_) rfl (hy := .inl ⟨by rfl, ?_⟩) (h := ?_); rotate_left
 ·intro w hSw; (try dsimp only at hSw); go_simp; (try with_reducible rfl)
 simp only [pU]
 refine ready_at (i := 12) rfl (by kernel_rfl) (fun KK hKK => ?_)
 go_simp
 have hgo := bC
 refine (unhide VO _).mono ?_
 rintro e wy3 ⟨rfl, bb⟩
 have bD : Below w0.heap.size w0 wy3 := bC.trans (bb.mono bC.size)
 clear bC hgo bb
 clear hHeld
 refine hKK.out _ _ (unhide K _ bD) (fun hHeld => ?_)
 clear hKK KK
 refine tk 15 20 (v := ?_) rfl (hy := .inl ⟨by rfl, ?_⟩) (h := ?_); rotate_left
 ·intro w hSw; (try dsimp only at hSw); go_simp; (try with_reducible rfl)
 simp only [pU]
 refine tk 16 21 (v := ?_) rfl (hy := .inl ⟨by rfl, ?_⟩) (h := ?_); rotate_left
 ·intro w hSw; (try dsimp only at hSw); go_simp; (try with_reducible rfl)
 simp only [pU]
 clear hHeld
 refine wpAnyH_done (by kernel_rfl) ?_ _
 refine NoPanic.normal ?_
 go_wp2
 go_ret
 exact ⟨rfl, B0.trans (bD.mono B0.size)⟩

set_option maxHeartbeats 8000000 in
set_option maxRecDepth 100000 in
theorem specQcOk_d (n f v : Int) (s : ByteArray) (ao : Option Addr) (ca : Nat) (xs : List Int) (w : World) (hs : s.size ≤ 1048576) (ha : RI w (.slice ao xs.length ca) xs) (hc : decide (COk n f) = true) (hn : (stepsAns s).isSome = true) (hv : viewAns s = v) (he : s = ⟨#[]⟩) :
 Calls Tryz.prog 72 #[cv n f, qv v s (.slice ao xs.length ca)] w fun e w' => e = .returned (.bool (((xs.length : Int) == 0))) ∧ Below w.heap.size w w' := by
 have CO := hide fun w => specConfOk n f w
 have NO := hide fun w => specNameOk s w (by omega)
 have VO := hide fun w => specViewOf s w (by omega)
 have QU := hide fun w => specQuorum n f w
 have SO := hide fun w h => specSetOk n (.slice ao xs.length ca) xs w h
 obtain ⟨w0, hw0⟩ : ∃ w0, (w.alloc (.cells #[.int .i64 n, .int .i64 f] 25)).alloc (.cells #[.int .i64 v, .string s, .slice ao xs.length ca] 28) = w0 := ⟨_, rfl⟩
 have B0 : Below w.heap.size w w0 := hw0 ▸ qalloc2 _ _ _
 have C0 : Loc w0 w.heap.size #[.int .i64 n, .int .i64 f] := hw0 ▸ (loc_at w _ _ rfl).alloc _
 have G0 : Loc w0 (w.heap.size + 1) #[.int .i64 v, .string s, .slice ao xs.length ca] := hw0 ▸ loc_at (w.alloc _) _ _ (by simp)
 have HA := hide (ha.below B0 (Nat.le_refl _))
 have K : Hid (∀ w', Below w0.heap.size w0 w' → (fun w' => Below w0.heap.size w0 w' ∧ (w'.cell? ⟨w.heap.size, 0, none⟩ = some (.int .i64 n) ∧ w'.cell? ⟨w.heap.size, 1, none⟩ = some (.int .i64 f)) ∧ (w'.cell? ⟨w.heap.size + 1, 0, none⟩ = some (.int .i64 v) ∧ w'.cell? ⟨w.heap.size + 1, 1, none⟩ = some (.string s) ∧ w'.cell? ⟨w.heap.size + 1, 2, none⟩ = some (.slice ao xs.length ca))) w') := hide fun w' hb' => ⟨hb', ⟨(C0.below hb' C0.lt).cell 0 rfl, (C0.below hb' C0.lt).cell 1 rfl⟩, ⟨(G0.below hb' G0.lt).cell 0 rfl, (G0.below hb' G0.lt).cell 1 rfl, (G0.below hb' G0.lt).cell 2 rfl⟩⟩
 rw [hc] at CO
 rw [hn] at NO
 rw [hv] at VO
 have hE : (s.toList == []) = true := by rw [he, ByteArray.toList_eq]; rfl
 clear hc hn hv he QU SO
 obtain ⟨m, hm⟩ : ∃ m, xs.length = m := ⟨_, rfl⟩
 rw [hm] at K HA hw0 ⊢
 clear hm
 clear ha G0 C0
 go_enter Tryz.func72, Tryz.ntmps72
 go_upto_region 1 with fail
 clear hw0
 have bA : Below w0.heap.size w0 w0.drew := Below.drew (Below.refl _ _)
 refine wp_region_noPanic ?_
 refine wp_region_held_drew (S := fun w' => Below w0.heap.size w0 w' ∧ (w'.cell? ⟨w.heap.size, 0, none⟩ = some (.int .i64 n) ∧ w'.cell? ⟨w.heap.size, 1, none⟩ = some (.int .i64 f)) ∧ (w'.cell? ⟨w.heap.size + 1, 0, none⟩ = some (.int .i64 v) ∧ w'.cell? ⟨w.heap.size + 1, 1, none⟩ = some (.string s) ∧ w'.cell? ⟨w.heap.size + 1, 2, none⟩ = some (.slice ao m ca))) (by kernel_rfl) (unhide K _ bA) (fun hHeld => ?_)
 refine tk 0 5 (v := ?_) rfl (hy := .inl ⟨by rfl, ?_⟩) (h := ?_); rotate_left
 ·intro w hSw; (try dsimp only at hSw); go_simp; (try with_reducible rfl)
 simp only [pU]
 refine ready_at (i := 1) rfl (by kernel_rfl) (fun KK hKK => ?_)
 go_simp
 have hgo := bA
 refine (unhide CO _).mono ?_
 rintro e wy1 ⟨rfl, bb⟩
 have bB : Below w0.heap.size w0 wy1 := bA.trans (bb.mono bA.size)
 clear bA hgo bb
 clear hHeld
 refine hKK.out _ _ (unhide K _ bB) (fun hHeld => ?_)
 clear hKK KK
 refine tk 2 7 (v := ?_) rfl (hy := .inl ⟨by rfl, ?_⟩) (h := ?_); rotate_left
 ·intro w hSw; (try dsimp only at hSw); go_simp; (try with_reducible rfl)
 simp only [pU]
 refine tk 3 8 (v := ?_) rfl (hy := .inl ⟨by rfl, ?_⟩) (h := ?_); rotate_left
 ·intro w hSw; (try dsimp only at hSw); go_simp; (try with_reducible rfl)
 simp only [pU]
 refine tk 4 9 (v := ?_) rfl (hy := .inl ⟨by rfl, ?_⟩) (h := ?_); rotate_left
 ·intro w hSw; (try dsimp only at hSw); go_simp; (try with_reducible rfl)
 simp only [pU]
 refine tk 5 10 (v := ?_) rfl (hy := .inl ⟨by rfl, ?_⟩) (h := ?_); rotate_left
 ·intro w hSw; (try dsimp only at hSw); go_simp; (try with_reducible rfl)
 simp only [pU]
 refine ready_at (i := 6) rfl (by kernel_rfl) (fun KK hKK => ?_)
 go_simp
 have hgo := bB
 refine (unhide NO _).mono ?_
 rintro e wy2 ⟨rfl, bb⟩
 have bC : Below w0.heap.size w0 wy2 := bB.trans (bb.mono bB.size)
 clear bB hgo bb
 clear hHeld
 refine hKK.out _ _ (unhide K _ bC) (fun hHeld => ?_)
 clear hKK KK
 refine tk 7 12 (v := ?_) rfl (hy := .inl ⟨by rfl, ?_⟩) (h := ?_); rotate_left
 ·intro w hSw; (try dsimp only at hSw); go_simp; (try with_reducible rfl)
 simp only [pU]
 refine tk 8 13 (v := ?_) rfl (hy := .inl ⟨by rfl, ?_⟩) (h := ?_); rotate_left
 ·intro w hSw; (try dsimp only at hSw); go_simp; (try with_reducible rfl)
 simp only [pU]
 refine tk 9 14 (v := ?_) rfl (hy := .inl ⟨by rfl, ?_⟩) (h := ?_); rotate_left
 ·intro w hSw; (try dsimp only at hSw); go_simp; (try with_reducible rfl)
 simp only [pU]
 refine tk 10 15 (v := ?_) rfl (hy := .inl ⟨by rfl, ?_⟩) (h := ?_); rotate_left
 ·intro w hSw; (try dsimp only at hSw); go_simp; (try with_reducible rfl)
 simp only [pU]
 refine tk 11 16 (v := ?_) rfl (hy := .inl ⟨by rfl, ?_⟩) (h := ?_); rotate_left
 ·intro w hSw; (try dsimp only at hSw); go_simp; (try with_reducible rfl)
 simp only [pU]
 refine tk 13 18 (v := ?_) rfl (hy := .inl ⟨by rfl, ?_⟩) (h := ?_); rotate_left
 ·intro w hSw; (try dsimp only at hSw); go_simp; (try with_reducible rfl)
 simp only [pU]
 refine tk 14 19 (v := ?_) rfl (hy := .inl ⟨by rfl, ?_⟩) (h := ?_); rotate_left
 ·intro w hSw; (try dsimp only at hSw); go_simp; (try with_reducible rfl)
 simp only [pU]
 refine ready_at (i := 12) rfl (by kernel_rfl) (fun KK hKK => ?_)
 go_simp
 have hgo := bC
 refine (unhide VO _).mono ?_
 rintro e wy3 ⟨rfl, bb⟩
 have bD : Below w0.heap.size w0 wy3 := bC.trans (bb.mono bC.size)
 clear bC hgo bb
 clear hHeld
 refine hKK.out _ _ (unhide K _ bD) (fun hHeld => ?_)
 clear hKK KK
 refine tk 15 20 (v := ?_) rfl (hy := .inl ⟨by rfl, ?_⟩) (h := ?_); rotate_left
 ·intro w hSw; (try dsimp only at hSw); go_simp; (try with_reducible rfl)
 simp only [pU]
 refine tk 16 21 (v := ?_) rfl (hy := .inl ⟨by rfl, ?_⟩) (h := ?_); rotate_left
 ·intro w hSw; (try dsimp only at hSw); go_simp; (try with_reducible rfl)
 simp only [pU]
 clear hHeld
 refine wpAnyH_done (by kernel_rfl) ?_ _
 refine NoPanic.normal ?_
 have B1 : Below w.heap.size w wy3 := B0.trans (bD.mono B0.size)
 have K1 := unhide K _ bD
 try dsimp only at K1
 obtain ⟨_, ⟨c0, c1⟩, ⟨g0, g1, g2⟩⟩ := K1
 clear K HA NO VO CO
 go_wp2
 go_ret
 exact ⟨rfl, B1⟩

set_option maxHeartbeats 8000000 in
set_option maxRecDepth 100000 in
theorem specQcOk_e (n f v : Int) (s : ByteArray) (ao : Option Addr) (ca : Nat) (xs : List Int) (w : World) (hs : s.size ≤ 1048576) (ha : RI w (.slice ao xs.length ca) xs) (hc : decide (COk n f) = true) (hn : (stepsAns s).isSome = true) (hv : viewAns s = v) (he : s ≠ ⟨#[]⟩) (ho : decide (OkL n xs) = false)  :
 Calls Tryz.prog 72 #[cv n f, qv v s (.slice ao xs.length ca)] w fun e w' => e = .returned (.bool (false)) ∧ Below w.heap.size w w' := by
 have CO := hide fun w => specConfOk n f w
 have NO := hide fun w => specNameOk s w (by omega)
 have VO := hide fun w => specViewOf s w (by omega)
 have QU := hide fun w => specQuorum n f w
 have SO := hide fun w h => specSetOk n (.slice ao xs.length ca) xs w h
 obtain ⟨w0, hw0⟩ : ∃ w0, (w.alloc (.cells #[.int .i64 n, .int .i64 f] 25)).alloc (.cells #[.int .i64 v, .string s, .slice ao xs.length ca] 28) = w0 := ⟨_, rfl⟩
 have B0 : Below w.heap.size w w0 := hw0 ▸ qalloc2 _ _ _
 have C0 : Loc w0 w.heap.size #[.int .i64 n, .int .i64 f] := hw0 ▸ (loc_at w _ _ rfl).alloc _
 have G0 : Loc w0 (w.heap.size + 1) #[.int .i64 v, .string s, .slice ao xs.length ca] := hw0 ▸ loc_at (w.alloc _) _ _ (by simp)
 have HA := hide (ha.below B0 (Nat.le_refl _))
 have K : Hid (∀ w', Below w0.heap.size w0 w' → (fun w' => Below w0.heap.size w0 w' ∧ (w'.cell? ⟨w.heap.size, 0, none⟩ = some (.int .i64 n) ∧ w'.cell? ⟨w.heap.size, 1, none⟩ = some (.int .i64 f)) ∧ (w'.cell? ⟨w.heap.size + 1, 0, none⟩ = some (.int .i64 v) ∧ w'.cell? ⟨w.heap.size + 1, 1, none⟩ = some (.string s) ∧ w'.cell? ⟨w.heap.size + 1, 2, none⟩ = some (.slice ao xs.length ca))) w') := hide fun w' hb' => ⟨hb', ⟨(C0.below hb' C0.lt).cell 0 rfl, (C0.below hb' C0.lt).cell 1 rfl⟩, ⟨(G0.below hb' G0.lt).cell 0 rfl, (G0.below hb' G0.lt).cell 1 rfl, (G0.below hb' G0.lt).cell 2 rfl⟩⟩
 rw [hc] at CO
 rw [hn] at NO
 rw [hv] at VO
 rw [ho] at SO
 clear hc hn hv ho
 generalize quorumOf n f = qu at *
 have hne := ne2 he
 obtain ⟨m, hm⟩ : ∃ m, xs.length = m := ⟨_, rfl⟩
 rw [hm] at K HA SO hw0 ⊢
 clear hm
 clear ha G0 C0
 go_enter Tryz.func72, Tryz.ntmps72
 go_upto_region 1 with fail
 clear hw0
 have bA : Below w0.heap.size w0 w0.drew := Below.drew (Below.refl _ _)
 refine wp_region_noPanic ?_
 refine wp_region_held_drew (S := fun w' => Below w0.heap.size w0 w' ∧ (w'.cell? ⟨w.heap.size, 0, none⟩ = some (.int .i64 n) ∧ w'.cell? ⟨w.heap.size, 1, none⟩ = some (.int .i64 f)) ∧ (w'.cell? ⟨w.heap.size + 1, 0, none⟩ = some (.int .i64 v) ∧ w'.cell? ⟨w.heap.size + 1, 1, none⟩ = some (.string s) ∧ w'.cell? ⟨w.heap.size + 1, 2, none⟩ = some (.slice ao m ca))) (by kernel_rfl) (unhide K _ bA) (fun hHeld => ?_)
 refine tk 0 5 (v := ?_) rfl (hy := .inl ⟨by rfl, ?_⟩) (h := ?_); rotate_left
 ·intro w hSw; (try dsimp only at hSw); go_simp; (try with_reducible rfl)
 simp only [pU]
 refine ready_at (i := 1) rfl (by kernel_rfl) (fun KK hKK => ?_)
 go_simp
 have hgo := bA
 refine (unhide CO _).mono ?_
 rintro e wy1 ⟨rfl, bb⟩
 have bB : Below w0.heap.size w0 wy1 := bA.trans (bb.mono bA.size)
 clear bA hgo bb
 clear hHeld
 refine hKK.out _ _ (unhide K _ bB) (fun hHeld => ?_)
 clear hKK KK
 refine tk 2 7 (v := ?_) rfl (hy := .inl ⟨by rfl, ?_⟩) (h := ?_); rotate_left
 ·intro w hSw; (try dsimp only at hSw); go_simp; (try with_reducible rfl)
 simp only [pU]
 refine tk 3 8 (v := ?_) rfl (hy := .inl ⟨by rfl, ?_⟩) (h := ?_); rotate_left
 ·intro w hSw; (try dsimp only at hSw); go_simp; (try with_reducible rfl)
 simp only [pU]
 refine tk 4 9 (v := ?_) rfl (hy := .inl ⟨by rfl, ?_⟩) (h := ?_); rotate_left
 ·intro w hSw; (try dsimp only at hSw); go_simp; (try with_reducible rfl)
 simp only [pU]
 refine tk 5 10 (v := ?_) rfl (hy := .inl ⟨by rfl, ?_⟩) (h := ?_); rotate_left
 ·intro w hSw; (try dsimp only at hSw); go_simp; (try with_reducible rfl)
 simp only [pU]
 refine ready_at (i := 6) rfl (by kernel_rfl) (fun KK hKK => ?_)
 go_simp
 have hgo := bB
 refine (unhide NO _).mono ?_
 rintro e wy2 ⟨rfl, bb⟩
 have bC : Below w0.heap.size w0 wy2 := bB.trans (bb.mono bB.size)
 clear bB hgo bb
 clear hHeld
 refine hKK.out _ _ (unhide K _ bC) (fun hHeld => ?_)
 clear hKK KK
 refine tk 7 12 (v := ?_) rfl (hy := .inl ⟨by rfl, ?_⟩) (h := ?_); rotate_left
 ·intro w hSw; (try dsimp only at hSw); go_simp; (try with_reducible rfl)
 simp only [pU]
 refine tk 8 13 (v := ?_) rfl (hy := .inl ⟨by rfl, ?_⟩) (h := ?_); rotate_left
 ·intro w hSw; (try dsimp only at hSw); go_simp; (try with_reducible rfl)
 simp only [pU]
 refine tk 9 14 (v := ?_) rfl (hy := .inl ⟨by rfl, ?_⟩) (h := ?_); rotate_left
 ·intro w hSw; (try dsimp only at hSw); go_simp; (try with_reducible rfl)
 simp only [pU]
 refine tk 10 15 (v := ?_) rfl (hy := .inl ⟨by rfl, ?_⟩) (h := ?_); rotate_left
 ·intro w hSw; (try dsimp only at hSw); go_simp; (try with_reducible rfl)
 simp only [pU]
 refine tk 11 16 (v := ?_) rfl (hy := .inl ⟨by rfl, ?_⟩) (h := ?_); rotate_left
 ·intro w hSw; (try dsimp only at hSw); go_simp; (try with_reducible rfl)
 simp only [pU]
 refine tk 13 18 (v := ?_) rfl (hy := .inl ⟨by rfl, ?_⟩) (h := ?_); rotate_left
 ·intro w hSw; (try dsimp only at hSw); go_simp; (try with_reducible rfl)
 simp only [pU]
 refine tk 14 19 (v := ?_) rfl (hy := .inl ⟨by rfl, ?_⟩) (h := ?_); rotate_left
 ·intro w hSw; (try dsimp only at hSw); go_simp; (try with_reducible rfl)
 simp only [pU]
 refine ready_at (i := 12) rfl (by kernel_rfl) (fun KK hKK => ?_)
 go_simp
 have hgo := bC
 refine (unhide VO _).mono ?_
 rintro e wy3 ⟨rfl, bb⟩
 have bD : Below w0.heap.size w0 wy3 := bC.trans (bb.mono bC.size)
 clear bC hgo bb
 clear hHeld
 refine hKK.out _ _ (unhide K _ bD) (fun hHeld => ?_)
 clear hKK KK
 refine tk 15 20 (v := ?_) rfl (hy := .inl ⟨by rfl, ?_⟩) (h := ?_); rotate_left
 ·intro w hSw; (try dsimp only at hSw); go_simp; (try with_reducible rfl)
 simp only [pU]
 refine tk 16 21 (v := ?_) rfl (hy := .inl ⟨by rfl, ?_⟩) (h := ?_); rotate_left
 ·intro w hSw; (try dsimp only at hSw); go_simp; (try with_reducible rfl)
 simp only [pU]
 clear hHeld
 refine wpAnyH_done (by kernel_rfl) ?_ _
 refine NoPanic.normal ?_
 have B1 : Below w.heap.size w wy3 := B0.trans (bD.mono B0.size)
 have K1 := unhide K _ bD
 try dsimp only at K1
 obtain ⟨_, ⟨c0, c1⟩, ⟨g0, g1, g2⟩⟩ := K1
 have K5 : Hid (∀ w', Below wy3.heap.size wy3 w' → (fun w' => Below wy3.heap.size wy3 w' ∧ (w'.cell? ⟨w.heap.size, 0, none⟩ = some (.int .i64 n) ∧ w'.cell? ⟨w.heap.size, 1, none⟩ = some (.int .i64 f)) ∧ (w'.cell? ⟨w.heap.size + 1, 0, none⟩ = some (.int .i64 v) ∧ w'.cell? ⟨w.heap.size + 1, 1, none⟩ = some (.string s) ∧ w'.cell? ⟨w.heap.size + 1, 2, none⟩ = some (.slice ao m ca))) w') := hide fun w' hb' => ⟨hb', (unhide K _ (bD.trans (hb'.mono bD.size))).2⟩
 have HA5 := hide ((unhide HA).below bD (Nat.le_refl _))
 clear NO VO CO K HA he
 go_upto_region 5 with fail
 clear c0 c1 g0 g1 g2
 have bA : Below wy3.heap.size wy3 wy3.drew := Below.drew (Below.refl _ _)
 refine wp_region_noPanic ?_
 refine wp_region_held_drew (S := fun w' => Below wy3.heap.size wy3 w' ∧ (w'.cell? ⟨w.heap.size, 0, none⟩ = some (.int .i64 n) ∧ w'.cell? ⟨w.heap.size, 1, none⟩ = some (.int .i64 f)) ∧ (w'.cell? ⟨w.heap.size + 1, 0, none⟩ = some (.int .i64 v) ∧ w'.cell? ⟨w.heap.size + 1, 1, none⟩ = some (.string s) ∧ w'.cell? ⟨w.heap.size + 1, 2, none⟩ = some (.slice ao m ca))) (by kernel_rfl) (unhide K5 _ bA) (fun hHeld => ?_)
 refine tk 0 29 (v := ?_) rfl (hy := .inl ⟨by rfl, ?_⟩) (h := ?_); rotate_left
 ·intro w hSw; (try dsimp only at hSw); go_simp; (try with_reducible rfl)
 simp only [pU]
 refine tk 1 30 (v := ?_) rfl (hy := .inl ⟨by rfl, ?_⟩) (h := ?_); rotate_left
 ·intro w hSw; (try dsimp only at hSw); go_simp; (try with_reducible rfl)
 simp only [pU]
 refine tk 2 31 (v := ?_) rfl (hy := .inl ⟨by rfl, ?_⟩) (h := ?_); rotate_left
 ·intro w hSw; (try dsimp only at hSw); go_simp; (try with_reducible rfl)
 simp only [pU]
 refine tk 3 32 (v := ?_) rfl (hy := .inl ⟨by rfl, ?_⟩) (h := ?_); rotate_left
 ·intro w hSw; (try dsimp only at hSw); go_simp; (try with_reducible rfl)
 simp only [pU]
 refine ready_at (i := 4) rfl (by kernel_rfl) (fun KK hKK => ?_)
 go_simp
 have hgo := bA
 refine (unhide SO _ ((unhide HA5).below hgo (Nat.le_refl _))).mono ?_
 rintro e wy5 ⟨rfl, bb⟩
 have bF : Below wy3.heap.size wy3 wy5 := bA.trans (bb.mono bA.size)
 clear bA hgo bb
 clear hHeld
 refine hKK.out _ _ (unhide K5 _ bF) (fun hHeld => ?_)
 clear hKK KK
 refine tk 5 34 (v := ?_) rfl (hy := .inl ⟨by rfl, ?_⟩) (h := ?_); rotate_left
 ·intro w hSw; (try dsimp only at hSw); go_simp; (try with_reducible rfl)
 simp only [pU]
 refine sk 6 35 rfl (h := ?_)
 simp only [pU]
 refine sk 7 36 rfl (h := ?_)
 simp only [pU]
 refine sk 8 37 rfl (h := ?_)
 simp only [pU]
 refine sk 9 38 rfl (h := ?_)
 simp only [pU]
 refine sk 10 39 rfl (h := ?_)
 simp only [pU]
 refine sk 11 40 rfl (h := ?_)
 simp only [pU]
 refine tk 12 41 (v := ?_) rfl (hy := .inl ⟨by rfl, ?_⟩) (h := ?_); rotate_left
 ·intro w hSw; (try dsimp only at hSw); go_simp; (try with_reducible rfl)
 simp only [pU]
 refine tk 13 4 (v := ?_) rfl (hy := .inl ⟨by rfl, ?_⟩) (h := ?_); rotate_left
 ·intro w hSw; (try dsimp only at hSw); go_simp; (try with_reducible rfl)
 simp only [pU]
 clear hHeld
 refine wpAnyH_done (by kernel_rfl) ?_ _
 refine NoPanic.normal ?_
 go_wp2
 go_ret
 exact ⟨rfl, B1.trans (bF.mono B1.size)⟩

set_option maxHeartbeats 8000000 in
set_option maxRecDepth 100000 in
theorem specQcOk_f (n f v : Int) (s : ByteArray) (ao : Option Addr) (ca : Nat) (xs : List Int) (w : World) (hs : s.size ≤ 1048576) (ha : RI w (.slice ao xs.length ca) xs) (hc : decide (COk n f) = true) (hn : (stepsAns s).isSome = true) (hv : viewAns s = v) (he : s ≠ ⟨#[]⟩) (ho : decide (OkL n xs) = true) (hq : quorumOf n f ≤ (xs.length : Int)) :
 Calls Tryz.prog 72 #[cv n f, qv v s (.slice ao xs.length ca)] w fun e w' => e = .returned (.bool (true)) ∧ Below w.heap.size w w' := by
 have CO := hide fun w => specConfOk n f w
 have NO := hide fun w => specNameOk s w (by omega)
 have VO := hide fun w => specViewOf s w (by omega)
 have QU := hide fun w => specQuorum n f w
 have SO := hide fun w h => specSetOk n (.slice ao xs.length ca) xs w h
 obtain ⟨w0, hw0⟩ : ∃ w0, (w.alloc (.cells #[.int .i64 n, .int .i64 f] 25)).alloc (.cells #[.int .i64 v, .string s, .slice ao xs.length ca] 28) = w0 := ⟨_, rfl⟩
 have B0 : Below w.heap.size w w0 := hw0 ▸ qalloc2 _ _ _
 have C0 : Loc w0 w.heap.size #[.int .i64 n, .int .i64 f] := hw0 ▸ (loc_at w _ _ rfl).alloc _
 have G0 : Loc w0 (w.heap.size + 1) #[.int .i64 v, .string s, .slice ao xs.length ca] := hw0 ▸ loc_at (w.alloc _) _ _ (by simp)
 have HA := hide (ha.below B0 (Nat.le_refl _))
 have K : Hid (∀ w', Below w0.heap.size w0 w' → (fun w' => Below w0.heap.size w0 w' ∧ (w'.cell? ⟨w.heap.size, 0, none⟩ = some (.int .i64 n) ∧ w'.cell? ⟨w.heap.size, 1, none⟩ = some (.int .i64 f)) ∧ (w'.cell? ⟨w.heap.size + 1, 0, none⟩ = some (.int .i64 v) ∧ w'.cell? ⟨w.heap.size + 1, 1, none⟩ = some (.string s) ∧ w'.cell? ⟨w.heap.size + 1, 2, none⟩ = some (.slice ao xs.length ca))) w') := hide fun w' hb' => ⟨hb', ⟨(C0.below hb' C0.lt).cell 0 rfl, (C0.below hb' C0.lt).cell 1 rfl⟩, ⟨(G0.below hb' G0.lt).cell 0 rfl, (G0.below hb' G0.lt).cell 1 rfl, (G0.below hb' G0.lt).cell 2 rfl⟩⟩
 rw [hc] at CO
 rw [hn] at NO
 rw [hv] at VO
 rw [ho] at SO
 clear hc hn hv ho
 generalize quorumOf n f = qu at *
 have hne := ne2 he
 obtain ⟨m, hm⟩ : ∃ m, xs.length = m := ⟨_, rfl⟩
 rw [hm] at K HA SO hw0 hq ⊢
 clear hm
 have d4 : decide (qu ≤ (m : Int)) = true := by simpa using hq
 clear ha G0 C0
 go_enter Tryz.func72, Tryz.ntmps72
 go_upto_region 1 with fail
 clear hw0
 have bA : Below w0.heap.size w0 w0.drew := Below.drew (Below.refl _ _)
 refine wp_region_noPanic ?_
 refine wp_region_held_drew (S := fun w' => Below w0.heap.size w0 w' ∧ (w'.cell? ⟨w.heap.size, 0, none⟩ = some (.int .i64 n) ∧ w'.cell? ⟨w.heap.size, 1, none⟩ = some (.int .i64 f)) ∧ (w'.cell? ⟨w.heap.size + 1, 0, none⟩ = some (.int .i64 v) ∧ w'.cell? ⟨w.heap.size + 1, 1, none⟩ = some (.string s) ∧ w'.cell? ⟨w.heap.size + 1, 2, none⟩ = some (.slice ao m ca))) (by kernel_rfl) (unhide K _ bA) (fun hHeld => ?_)
 refine tk 0 5 (v := ?_) rfl (hy := .inl ⟨by rfl, ?_⟩) (h := ?_); rotate_left
 ·intro w hSw; (try dsimp only at hSw); go_simp; (try with_reducible rfl)
 simp only [pU]
 refine ready_at (i := 1) rfl (by kernel_rfl) (fun KK hKK => ?_)
 go_simp
 have hgo := bA
 refine (unhide CO _).mono ?_
 rintro e wy1 ⟨rfl, bb⟩
 have bB : Below w0.heap.size w0 wy1 := bA.trans (bb.mono bA.size)
 clear bA hgo bb
 clear hHeld
 refine hKK.out _ _ (unhide K _ bB) (fun hHeld => ?_)
 clear hKK KK
 refine tk 2 7 (v := ?_) rfl (hy := .inl ⟨by rfl, ?_⟩) (h := ?_); rotate_left
 ·intro w hSw; (try dsimp only at hSw); go_simp; (try with_reducible rfl)
 simp only [pU]
 refine tk 3 8 (v := ?_) rfl (hy := .inl ⟨by rfl, ?_⟩) (h := ?_); rotate_left
 ·intro w hSw; (try dsimp only at hSw); go_simp; (try with_reducible rfl)
 simp only [pU]
 refine tk 4 9 (v := ?_) rfl (hy := .inl ⟨by rfl, ?_⟩) (h := ?_); rotate_left
 ·intro w hSw; (try dsimp only at hSw); go_simp; (try with_reducible rfl)
 simp only [pU]
 refine tk 5 10 (v := ?_) rfl (hy := .inl ⟨by rfl, ?_⟩) (h := ?_); rotate_left
 ·intro w hSw; (try dsimp only at hSw); go_simp; (try with_reducible rfl)
 simp only [pU]
 refine ready_at (i := 6) rfl (by kernel_rfl) (fun KK hKK => ?_)
 go_simp
 have hgo := bB
 refine (unhide NO _).mono ?_
 rintro e wy2 ⟨rfl, bb⟩
 have bC : Below w0.heap.size w0 wy2 := bB.trans (bb.mono bB.size)
 clear bB hgo bb
 clear hHeld
 refine hKK.out _ _ (unhide K _ bC) (fun hHeld => ?_)
 clear hKK KK
 refine tk 7 12 (v := ?_) rfl (hy := .inl ⟨by rfl, ?_⟩) (h := ?_); rotate_left
 ·intro w hSw; (try dsimp only at hSw); go_simp; (try with_reducible rfl)
 simp only [pU]
 refine tk 8 13 (v := ?_) rfl (hy := .inl ⟨by rfl, ?_⟩) (h := ?_); rotate_left
 ·intro w hSw; (try dsimp only at hSw); go_simp; (try with_reducible rfl)
 simp only [pU]
 refine tk 9 14 (v := ?_) rfl (hy := .inl ⟨by rfl, ?_⟩) (h := ?_); rotate_left
 ·intro w hSw; (try dsimp only at hSw); go_simp; (try with_reducible rfl)
 simp only [pU]
 refine tk 10 15 (v := ?_) rfl (hy := .inl ⟨by rfl, ?_⟩) (h := ?_); rotate_left
 ·intro w hSw; (try dsimp only at hSw); go_simp; (try with_reducible rfl)
 simp only [pU]
 refine tk 11 16 (v := ?_) rfl (hy := .inl ⟨by rfl, ?_⟩) (h := ?_); rotate_left
 ·intro w hSw; (try dsimp only at hSw); go_simp; (try with_reducible rfl)
 simp only [pU]
 refine tk 13 18 (v := ?_) rfl (hy := .inl ⟨by rfl, ?_⟩) (h := ?_); rotate_left
 ·intro w hSw; (try dsimp only at hSw); go_simp; (try with_reducible rfl)
 simp only [pU]
 refine tk 14 19 (v := ?_) rfl (hy := .inl ⟨by rfl, ?_⟩) (h := ?_); rotate_left
 ·intro w hSw; (try dsimp only at hSw); go_simp; (try with_reducible rfl)
 simp only [pU]
 refine ready_at (i := 12) rfl (by kernel_rfl) (fun KK hKK => ?_)
 go_simp
 have hgo := bC
 refine (unhide VO _).mono ?_
 rintro e wy3 ⟨rfl, bb⟩
 have bD : Below w0.heap.size w0 wy3 := bC.trans (bb.mono bC.size)
 clear bC hgo bb
 clear hHeld
 refine hKK.out _ _ (unhide K _ bD) (fun hHeld => ?_)
 clear hKK KK
 refine tk 15 20 (v := ?_) rfl (hy := .inl ⟨by rfl, ?_⟩) (h := ?_); rotate_left
 ·intro w hSw; (try dsimp only at hSw); go_simp; (try with_reducible rfl)
 simp only [pU]
 refine tk 16 21 (v := ?_) rfl (hy := .inl ⟨by rfl, ?_⟩) (h := ?_); rotate_left
 ·intro w hSw; (try dsimp only at hSw); go_simp; (try with_reducible rfl)
 simp only [pU]
 clear hHeld
 refine wpAnyH_done (by kernel_rfl) ?_ _
 refine NoPanic.normal ?_
 have B1 : Below w.heap.size w wy3 := B0.trans (bD.mono B0.size)
 have K1 := unhide K _ bD
 try dsimp only at K1
 obtain ⟨_, ⟨c0, c1⟩, ⟨g0, g1, g2⟩⟩ := K1
 have K5 : Hid (∀ w', Below wy3.heap.size wy3 w' → (fun w' => Below wy3.heap.size wy3 w' ∧ (w'.cell? ⟨w.heap.size, 0, none⟩ = some (.int .i64 n) ∧ w'.cell? ⟨w.heap.size, 1, none⟩ = some (.int .i64 f)) ∧ (w'.cell? ⟨w.heap.size + 1, 0, none⟩ = some (.int .i64 v) ∧ w'.cell? ⟨w.heap.size + 1, 1, none⟩ = some (.string s) ∧ w'.cell? ⟨w.heap.size + 1, 2, none⟩ = some (.slice ao m ca))) w') := hide fun w' hb' => ⟨hb', (unhide K _ (bD.trans (hb'.mono bD.size))).2⟩
 have HA5 := hide ((unhide HA).below bD (Nat.le_refl _))
 clear NO VO CO K HA he
 go_upto_region 5 with fail
 clear c0 c1 g0 g1 g2
 have bA : Below wy3.heap.size wy3 wy3.drew := Below.drew (Below.refl _ _)
 refine wp_region_noPanic ?_
 refine wp_region_held_drew (S := fun w' => Below wy3.heap.size wy3 w' ∧ (w'.cell? ⟨w.heap.size, 0, none⟩ = some (.int .i64 n) ∧ w'.cell? ⟨w.heap.size, 1, none⟩ = some (.int .i64 f)) ∧ (w'.cell? ⟨w.heap.size + 1, 0, none⟩ = some (.int .i64 v) ∧ w'.cell? ⟨w.heap.size + 1, 1, none⟩ = some (.string s) ∧ w'.cell? ⟨w.heap.size + 1, 2, none⟩ = some (.slice ao m ca))) (by kernel_rfl) (unhide K5 _ bA) (fun hHeld => ?_)
 refine tk 0 29 (v := ?_) rfl (hy := .inl ⟨by rfl, ?_⟩) (h := ?_); rotate_left
 ·intro w hSw; (try dsimp only at hSw); go_simp; (try with_reducible rfl)
 simp only [pU]
 refine tk 1 30 (v := ?_) rfl (hy := .inl ⟨by rfl, ?_⟩) (h := ?_); rotate_left
 ·intro w hSw; (try dsimp only at hSw); go_simp; (try with_reducible rfl)
 simp only [pU]
 refine tk 2 31 (v := ?_) rfl (hy := .inl ⟨by rfl, ?_⟩) (h := ?_); rotate_left
 ·intro w hSw; (try dsimp only at hSw); go_simp; (try with_reducible rfl)
 simp only [pU]
 refine tk 3 32 (v := ?_) rfl (hy := .inl ⟨by rfl, ?_⟩) (h := ?_); rotate_left
 ·intro w hSw; (try dsimp only at hSw); go_simp; (try with_reducible rfl)
 simp only [pU]
 refine ready_at (i := 4) rfl (by kernel_rfl) (fun KK hKK => ?_)
 go_simp
 have hgo := bA
 refine (unhide SO _ ((unhide HA5).below hgo (Nat.le_refl _))).mono ?_
 rintro e wy5 ⟨rfl, bb⟩
 have bF : Below wy3.heap.size wy3 wy5 := bA.trans (bb.mono bA.size)
 clear bA hgo bb
 clear hHeld
 refine hKK.out _ _ (unhide K5 _ bF) (fun hHeld => ?_)
 clear hKK KK
 refine tk 5 34 (v := ?_) rfl (hy := .inl ⟨by rfl, ?_⟩) (h := ?_); rotate_left
 ·intro w hSw; (try dsimp only at hSw); go_simp; (try with_reducible rfl)
 simp only [pU]
 refine tk 6 35 (v := ?_) rfl (hy := .inl ⟨by rfl, ?_⟩) (h := ?_); rotate_left
 ·intro w hSw; (try dsimp only at hSw); go_simp; (try with_reducible rfl)
 simp only [pU]
 refine tk 7 36 (v := ?_) rfl (hy := .inl ⟨by rfl, ?_⟩) (h := ?_); rotate_left
 ·intro w hSw; (try dsimp only at hSw); go_simp; (try with_reducible rfl)
 simp only [pU]
 refine tk 8 37 (v := ?_) rfl (hy := .inl ⟨by rfl, ?_⟩) (h := ?_); rotate_left
 ·intro w hSw; (try dsimp only at hSw); go_simp; (try with_reducible rfl)
 simp only [pU]
 refine tk 9 38 (v := ?_) rfl (hy := .inl ⟨by rfl, ?_⟩) (h := ?_); rotate_left
 ·intro w hSw; (try dsimp only at hSw); go_simp; (try with_reducible rfl)
 simp only [pU]
 refine ready_at (i := 10) rfl (by kernel_rfl) (fun KK hKK => ?_)
 go_simp
 have hgo := bF
 refine (unhide QU _).mono ?_
 rintro e wy6 ⟨rfl, bb⟩
 have bG : Below wy3.heap.size wy3 wy6 := bF.trans (bb.mono bF.size)
 clear bF hgo bb
 clear hHeld
 refine hKK.out _ _ (unhide K5 _ bG) (fun hHeld => ?_)
 clear hKK KK
 refine tk 11 40 (v := ?_) rfl (hy := .inl ⟨by rfl, ?_⟩) (h := ?_); rotate_left
 ·intro w hSw; (try dsimp only at hSw); go_simp; (try with_reducible rfl)
 simp only [pU]
 refine tk 12 41 (v := ?_) rfl (hy := .inl ⟨by rfl, ?_⟩) (h := ?_); rotate_left
 ·intro w hSw; (try dsimp only at hSw); go_simp; (try with_reducible rfl)
 simp only [pU]
 refine tk 13 4 (v := ?_) rfl (hy := .inl ⟨by rfl, ?_⟩) (h := ?_); rotate_left
 ·intro w hSw; (try dsimp only at hSw); go_simp; (try with_reducible rfl)
 simp only [pU]
 clear hHeld
 refine wpAnyH_done (by kernel_rfl) ?_ _
 refine NoPanic.normal ?_
 go_wp2
 go_ret
 exact ⟨rfl, B1.trans (bG.mono B1.size)⟩

set_option maxHeartbeats 8000000 in
set_option maxRecDepth 100000 in
theorem specQcOk_g (n f v : Int) (s : ByteArray) (ao : Option Addr) (ca : Nat) (xs : List Int) (w : World) (hs : s.size ≤ 1048576) (ha : RI w (.slice ao xs.length ca) xs) (hc : decide (COk n f) = true) (hn : (stepsAns s).isSome = true) (hv : viewAns s = v) (he : s ≠ ⟨#[]⟩) (ho : decide (OkL n xs) = true) (hq : ¬ quorumOf n f ≤ (xs.length : Int)) :
 Calls Tryz.prog 72 #[cv n f, qv v s (.slice ao xs.length ca)] w fun e w' => e = .returned (.bool (false)) ∧ Below w.heap.size w w' := by
 have CO := hide fun w => specConfOk n f w
 have NO := hide fun w => specNameOk s w (by omega)
 have VO := hide fun w => specViewOf s w (by omega)
 have QU := hide fun w => specQuorum n f w
 have SO := hide fun w h => specSetOk n (.slice ao xs.length ca) xs w h
 obtain ⟨w0, hw0⟩ : ∃ w0, (w.alloc (.cells #[.int .i64 n, .int .i64 f] 25)).alloc (.cells #[.int .i64 v, .string s, .slice ao xs.length ca] 28) = w0 := ⟨_, rfl⟩
 have B0 : Below w.heap.size w w0 := hw0 ▸ qalloc2 _ _ _
 have C0 : Loc w0 w.heap.size #[.int .i64 n, .int .i64 f] := hw0 ▸ (loc_at w _ _ rfl).alloc _
 have G0 : Loc w0 (w.heap.size + 1) #[.int .i64 v, .string s, .slice ao xs.length ca] := hw0 ▸ loc_at (w.alloc _) _ _ (by simp)
 have HA := hide (ha.below B0 (Nat.le_refl _))
 have K : Hid (∀ w', Below w0.heap.size w0 w' → (fun w' => Below w0.heap.size w0 w' ∧ (w'.cell? ⟨w.heap.size, 0, none⟩ = some (.int .i64 n) ∧ w'.cell? ⟨w.heap.size, 1, none⟩ = some (.int .i64 f)) ∧ (w'.cell? ⟨w.heap.size + 1, 0, none⟩ = some (.int .i64 v) ∧ w'.cell? ⟨w.heap.size + 1, 1, none⟩ = some (.string s) ∧ w'.cell? ⟨w.heap.size + 1, 2, none⟩ = some (.slice ao xs.length ca))) w') := hide fun w' hb' => ⟨hb', ⟨(C0.below hb' C0.lt).cell 0 rfl, (C0.below hb' C0.lt).cell 1 rfl⟩, ⟨(G0.below hb' G0.lt).cell 0 rfl, (G0.below hb' G0.lt).cell 1 rfl, (G0.below hb' G0.lt).cell 2 rfl⟩⟩
 rw [hc] at CO
 rw [hn] at NO
 rw [hv] at VO
 rw [ho] at SO
 clear hc hn hv ho
 generalize quorumOf n f = qu at *
 have hne := ne2 he
 obtain ⟨m, hm⟩ : ∃ m, xs.length = m := ⟨_, rfl⟩
 rw [hm] at K HA SO hw0 hq ⊢
 clear hm
 have d4 : decide (qu ≤ (m : Int)) = false := by simpa using hq
 clear ha G0 C0
 go_enter Tryz.func72, Tryz.ntmps72
 go_upto_region 1 with fail
 clear hw0
 have bA : Below w0.heap.size w0 w0.drew := Below.drew (Below.refl _ _)
 refine wp_region_noPanic ?_
 refine wp_region_held_drew (S := fun w' => Below w0.heap.size w0 w' ∧ (w'.cell? ⟨w.heap.size, 0, none⟩ = some (.int .i64 n) ∧ w'.cell? ⟨w.heap.size, 1, none⟩ = some (.int .i64 f)) ∧ (w'.cell? ⟨w.heap.size + 1, 0, none⟩ = some (.int .i64 v) ∧ w'.cell? ⟨w.heap.size + 1, 1, none⟩ = some (.string s) ∧ w'.cell? ⟨w.heap.size + 1, 2, none⟩ = some (.slice ao m ca))) (by kernel_rfl) (unhide K _ bA) (fun hHeld => ?_)
 refine tk 0 5 (v := ?_) rfl (hy := .inl ⟨by rfl, ?_⟩) (h := ?_); rotate_left
 ·intro w hSw; (try dsimp only at hSw); go_simp; (try with_reducible rfl)
 simp only [pU]
 refine ready_at (i := 1) rfl (by kernel_rfl) (fun KK hKK => ?_)
 go_simp
 have hgo := bA
 refine (unhide CO _).mono ?_
 rintro e wy1 ⟨rfl, bb⟩
 have bB : Below w0.heap.size w0 wy1 := bA.trans (bb.mono bA.size)
 clear bA hgo bb
 clear hHeld
 refine hKK.out _ _ (unhide K _ bB) (fun hHeld => ?_)
 clear hKK KK
 refine tk 2 7 (v := ?_) rfl (hy := .inl ⟨by rfl, ?_⟩) (h := ?_); rotate_left
 ·intro w hSw; (try dsimp only at hSw); go_simp; (try with_reducible rfl)
 simp only [pU]
 refine tk 3 8 (v := ?_) rfl (hy := .inl ⟨by rfl, ?_⟩) (h := ?_); rotate_left
 ·intro w hSw; (try dsimp only at hSw); go_simp; (try with_reducible rfl)
 simp only [pU]
 refine tk 4 9 (v := ?_) rfl (hy := .inl ⟨by rfl, ?_⟩) (h := ?_); rotate_left
 ·intro w hSw; (try dsimp only at hSw); go_simp; (try with_reducible rfl)
 simp only [pU]
 refine tk 5 10 (v := ?_) rfl (hy := .inl ⟨by rfl, ?_⟩) (h := ?_); rotate_left
 ·intro w hSw; (try dsimp only at hSw); go_simp; (try with_reducible rfl)
 simp only [pU]
 refine ready_at (i := 6) rfl (by kernel_rfl) (fun KK hKK => ?_)
 go_simp
 have hgo := bB
 refine (unhide NO _).mono ?_
 rintro e wy2 ⟨rfl, bb⟩
 have bC : Below w0.heap.size w0 wy2 := bB.trans (bb.mono bB.size)
 clear bB hgo bb
 clear hHeld
 refine hKK.out _ _ (unhide K _ bC) (fun hHeld => ?_)
 clear hKK KK
 refine tk 7 12 (v := ?_) rfl (hy := .inl ⟨by rfl, ?_⟩) (h := ?_); rotate_left
 ·intro w hSw; (try dsimp only at hSw); go_simp; (try with_reducible rfl)
 simp only [pU]
 refine tk 8 13 (v := ?_) rfl (hy := .inl ⟨by rfl, ?_⟩) (h := ?_); rotate_left
 ·intro w hSw; (try dsimp only at hSw); go_simp; (try with_reducible rfl)
 simp only [pU]
 refine tk 9 14 (v := ?_) rfl (hy := .inl ⟨by rfl, ?_⟩) (h := ?_); rotate_left
 ·intro w hSw; (try dsimp only at hSw); go_simp; (try with_reducible rfl)
 simp only [pU]
 refine tk 10 15 (v := ?_) rfl (hy := .inl ⟨by rfl, ?_⟩) (h := ?_); rotate_left
 ·intro w hSw; (try dsimp only at hSw); go_simp; (try with_reducible rfl)
 simp only [pU]
 refine tk 11 16 (v := ?_) rfl (hy := .inl ⟨by rfl, ?_⟩) (h := ?_); rotate_left
 ·intro w hSw; (try dsimp only at hSw); go_simp; (try with_reducible rfl)
 simp only [pU]
 refine tk 13 18 (v := ?_) rfl (hy := .inl ⟨by rfl, ?_⟩) (h := ?_); rotate_left
 ·intro w hSw; (try dsimp only at hSw); go_simp; (try with_reducible rfl)
 simp only [pU]
 refine tk 14 19 (v := ?_) rfl (hy := .inl ⟨by rfl, ?_⟩) (h := ?_); rotate_left
 ·intro w hSw; (try dsimp only at hSw); go_simp; (try with_reducible rfl)
 simp only [pU]
 refine ready_at (i := 12) rfl (by kernel_rfl) (fun KK hKK => ?_)
 go_simp
 have hgo := bC
 refine (unhide VO _).mono ?_
 rintro e wy3 ⟨rfl, bb⟩
 have bD : Below w0.heap.size w0 wy3 := bC.trans (bb.mono bC.size)
 clear bC hgo bb
 clear hHeld
 refine hKK.out _ _ (unhide K _ bD) (fun hHeld => ?_)
 clear hKK KK
 refine tk 15 20 (v := ?_) rfl (hy := .inl ⟨by rfl, ?_⟩) (h := ?_); rotate_left
 ·intro w hSw; (try dsimp only at hSw); go_simp; (try with_reducible rfl)
 simp only [pU]
 refine tk 16 21 (v := ?_) rfl (hy := .inl ⟨by rfl, ?_⟩) (h := ?_); rotate_left
 ·intro w hSw; (try dsimp only at hSw); go_simp; (try with_reducible rfl)
 simp only [pU]
 clear hHeld
 refine wpAnyH_done (by kernel_rfl) ?_ _
 refine NoPanic.normal ?_
 have B1 : Below w.heap.size w wy3 := B0.trans (bD.mono B0.size)
 have K1 := unhide K _ bD
 try dsimp only at K1
 obtain ⟨_, ⟨c0, c1⟩, ⟨g0, g1, g2⟩⟩ := K1
 have K5 : Hid (∀ w', Below wy3.heap.size wy3 w' → (fun w' => Below wy3.heap.size wy3 w' ∧ (w'.cell? ⟨w.heap.size, 0, none⟩ = some (.int .i64 n) ∧ w'.cell? ⟨w.heap.size, 1, none⟩ = some (.int .i64 f)) ∧ (w'.cell? ⟨w.heap.size + 1, 0, none⟩ = some (.int .i64 v) ∧ w'.cell? ⟨w.heap.size + 1, 1, none⟩ = some (.string s) ∧ w'.cell? ⟨w.heap.size + 1, 2, none⟩ = some (.slice ao m ca))) w') := hide fun w' hb' => ⟨hb', (unhide K _ (bD.trans (hb'.mono bD.size))).2⟩
 have HA5 := hide ((unhide HA).below bD (Nat.le_refl _))
 clear NO VO CO K HA he
 go_upto_region 5 with fail
 clear c0 c1 g0 g1 g2
 have bA : Below wy3.heap.size wy3 wy3.drew := Below.drew (Below.refl _ _)
 refine wp_region_noPanic ?_
 refine wp_region_held_drew (S := fun w' => Below wy3.heap.size wy3 w' ∧ (w'.cell? ⟨w.heap.size, 0, none⟩ = some (.int .i64 n) ∧ w'.cell? ⟨w.heap.size, 1, none⟩ = some (.int .i64 f)) ∧ (w'.cell? ⟨w.heap.size + 1, 0, none⟩ = some (.int .i64 v) ∧ w'.cell? ⟨w.heap.size + 1, 1, none⟩ = some (.string s) ∧ w'.cell? ⟨w.heap.size + 1, 2, none⟩ = some (.slice ao m ca))) (by kernel_rfl) (unhide K5 _ bA) (fun hHeld => ?_)
 refine tk 0 29 (v := ?_) rfl (hy := .inl ⟨by rfl, ?_⟩) (h := ?_); rotate_left
 ·intro w hSw; (try dsimp only at hSw); go_simp; (try with_reducible rfl)
 simp only [pU]
 refine tk 1 30 (v := ?_) rfl (hy := .inl ⟨by rfl, ?_⟩) (h := ?_); rotate_left
 ·intro w hSw; (try dsimp only at hSw); go_simp; (try with_reducible rfl)
 simp only [pU]
 refine tk 2 31 (v := ?_) rfl (hy := .inl ⟨by rfl, ?_⟩) (h := ?_); rotate_left
 ·intro w hSw; (try dsimp only at hSw); go_simp; (try with_reducible rfl)
 simp only [pU]
 refine tk 3 32 (v := ?_) rfl (hy := .inl ⟨by rfl, ?_⟩) (h := ?_); rotate_left
 ·intro w hSw; (try dsimp only at hSw); go_simp; (try with_reducible rfl)
 simp only [pU]
 refine ready_at (i := 4) rfl (by kernel_rfl) (fun KK hKK => ?_)
 go_simp
 have hgo := bA
 refine (unhide SO _ ((unhide HA5).below hgo (Nat.le_refl _))).mono ?_
 rintro e wy5 ⟨rfl, bb⟩
 have bF : Below wy3.heap.size wy3 wy5 := bA.trans (bb.mono bA.size)
 clear bA hgo bb
 clear hHeld
 refine hKK.out _ _ (unhide K5 _ bF) (fun hHeld => ?_)
 clear hKK KK
 refine tk 5 34 (v := ?_) rfl (hy := .inl ⟨by rfl, ?_⟩) (h := ?_); rotate_left
 ·intro w hSw; (try dsimp only at hSw); go_simp; (try with_reducible rfl)
 simp only [pU]
 refine tk 6 35 (v := ?_) rfl (hy := .inl ⟨by rfl, ?_⟩) (h := ?_); rotate_left
 ·intro w hSw; (try dsimp only at hSw); go_simp; (try with_reducible rfl)
 simp only [pU]
 refine tk 7 36 (v := ?_) rfl (hy := .inl ⟨by rfl, ?_⟩) (h := ?_); rotate_left
 ·intro w hSw; (try dsimp only at hSw); go_simp; (try with_reducible rfl)
 simp only [pU]
 refine tk 8 37 (v := ?_) rfl (hy := .inl ⟨by rfl, ?_⟩) (h := ?_); rotate_left
 ·intro w hSw; (try dsimp only at hSw); go_simp; (try with_reducible rfl)
 simp only [pU]
 refine tk 9 38 (v := ?_) rfl (hy := .inl ⟨by rfl, ?_⟩) (h := ?_); rotate_left
 ·intro w hSw; (try dsimp only at hSw); go_simp; (try with_reducible rfl)
 simp only [pU]
 refine ready_at (i := 10) rfl (by kernel_rfl) (fun KK hKK => ?_)
 go_simp
 have hgo := bF
 refine (unhide QU _).mono ?_
 rintro e wy6 ⟨rfl, bb⟩
 have bG : Below wy3.heap.size wy3 wy6 := bF.trans (bb.mono bF.size)
 clear bF hgo bb
 clear hHeld
 refine hKK.out _ _ (unhide K5 _ bG) (fun hHeld => ?_)
 clear hKK KK
 refine tk 11 40 (v := ?_) rfl (hy := .inl ⟨by rfl, ?_⟩) (h := ?_); rotate_left
 ·intro w hSw; (try dsimp only at hSw); go_simp; (try with_reducible rfl)
 simp only [pU]
 refine tk 12 41 (v := ?_) rfl (hy := .inl ⟨by rfl, ?_⟩) (h := ?_); rotate_left
 ·intro w hSw; (try dsimp only at hSw); go_simp; (try with_reducible rfl)
 simp only [pU]
 refine tk 13 4 (v := ?_) rfl (hy := .inl ⟨by rfl, ?_⟩) (h := ?_); rotate_left
 ·intro w hSw; (try dsimp only at hSw); go_simp; (try with_reducible rfl)
 simp only [pU]
 clear hHeld
 refine wpAnyH_done (by kernel_rfl) ?_ _
 refine NoPanic.normal ?_
 go_wp2
 go_ret
 exact ⟨rfl, B1.trans (bG.mono B1.size)⟩

theorem specQcOk (n f v : Int) (s : ByteArray) (ao : Option Addr) (ca : Nat) (xs : List Int) (w : World) (hs : s.size ≤ 1048576) (ha : RI w (.slice ao xs.length ca) xs) :
 Calls Tryz.prog 72 #[cv n f, qv v s (.slice ao xs.length ca)] w fun e w' => e = .returned (.bool (qokB n f v s xs)) ∧ Below w.heap.size w w' := by
 unfold qokB
 have hxe : decide (xs = []) = ((xs.length : Int) == 0) := by cases xs with | nil => rfl | cons a l => simp; omega
 rw [hxe]
 clear hxe
 cases hc : decide (COk n f) with
 | false => simpa using specQcOk_a n f v s ao ca xs w hs ha hc
 | true =>
  cases hn : (stepsAns s).isSome with
  | false => simpa using specQcOk_b n f v s ao ca xs w hs ha hc hn
  | true =>
   by_cases hv : viewAns s = v
   ·have d2 : (viewAns s == v) = true := by simpa using hv
    rw [d2]
    by_cases he : s = ⟨#[]⟩
    ·rw [if_pos he]; simpa only [Bool.true_and] using specQcOk_d n f v s ao ca xs w hs ha hc hn hv he
    ·rw [if_neg he]
     cases ho : decide (OkL n xs) with
     | false => simpa only [Bool.true_and, Bool.false_and] using specQcOk_e n f v s ao ca xs w hs ha hc hn hv he ho
     | true =>
      by_cases hq : quorumOf n f ≤ (xs.length : Int)
      ·rw [decide_eq_true hq]; simpa only [Bool.true_and] using specQcOk_f n f v s ao ca xs w hs ha hc hn hv he ho hq
      ·rw [decide_eq_false hq]; simpa only [Bool.true_and] using specQcOk_g n f v s ao ca xs w hs ha hc hn hv he ho hq
   ·have d2 : (viewAns s == v) = false := by simpa using hv
    rw [d2]; simpa only [Bool.true_and, Bool.false_and] using specQcOk_c n f v s ao ca xs w hs ha hc hn hv
end Go.Proofs.YtbigcmcliamenaaGreatDoor
