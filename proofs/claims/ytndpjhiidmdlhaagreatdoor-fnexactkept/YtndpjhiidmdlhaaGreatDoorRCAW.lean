/- Texts that belong together: QcOkSpec, DrawSets, FromL, QcPlain, BlockPlain, DrawTx. -/
import Derived.Test.YtndpjhiidmdlhaaGreatDoorRCAU
import Derived.Test.YtndpjhiidmdlhaaGreatDoorRCAT
import Derived.Test.YtndpjhiidmdlhaaGreatDoorRCAA
import Derived.Test.YtndpjhiidmdlhaaGreatDoorRCAE
import Derived.Test.YtndpjhiidmdlhaaGreatDoorRCAN
import Derived.Test.YtndpjhiidmdlhaaGreatDoorRCAK
import Derived.Laws.Bits128
import Derived.Test.YtndpjhiidmdlhaaGreatDoorRCAB
import Derived.Test.YtndpjhiidmdlhaaGreatDoorRCAV
set_option maxRecDepth 100000
set_option maxHeartbeats 8000000
namespace Go.Proofs.YtndpjhiidmdlhaaGreatDoor
open Go.RowKit
set_option linter.unusedSectionVars false
variable [∀ (a b c d : Int), Decidable (Ok4 a b c d)]
variable [∀ (a b c d : Nat), Decidable (okN a b c d)]
variable [∀ (last : Int) (s : St), Decidable (GoodSt last s)]
variable [∀ (x : T4), Decidable (OkT x)]
variable [∀ (n : Int) (s : List Int), Decidable (OkL n s)]
variable [∀ (n f : Int), Decidable (COk n f)]

def qokB (n f v : Int) (s : ByteArray) (xs : List Int) : Bool := decide (COk n f) && (stepsAns s).isSome && (viewAns s == v) && (if s = ⟨#[]⟩ then decide (xs = []) else decide (OkL n xs) && decide (quorumOf n f ≤ (xs.length : Int)))

theorem specQcOk_a (n f v : Int) (s : ByteArray) (ao : Option Addr) (ca : Nat) (xs : List Int) (w : World) (hs : s.size ≤ 1048576) (ha : RI w (.slice ao xs.length ca) xs) (hc : decide (COk n f) = false) :
 Calls Tryz.prog 96 #[cv n f, qv v s (.slice ao xs.length ca)] w fun e w' => e = .returned (.bool (false)) ∧ Below w.heap.size w w' := by
 have CO:=hide fun w => specConfOk n f w
 have NO:=hide fun w => specNameOk s w (by omega)
 have VO:=hide fun w => specViewOf s w (by omega)
 have QU:=hide fun w => specQuorum n f w
 have SO:=hide fun w h => specSetOk n (.slice ao xs.length ca) xs w h
 obtain ⟨w0, hw0⟩ : ∃ w0, (w.alloc (.cells #[.int .i64 n,.int .i64 f] 39)).alloc (.cells #[.int .i64 v,.string s,.slice ao xs.length ca] 41) = w0:=⟨_, rfl⟩
 have B0 : Below w.heap.size w w0:=hw0 ▸ qalloc2 _ _ _
 have C0 : Loc w0 w.heap.size #[.int .i64 n,.int .i64 f]:=hw0 ▸ (loc_at w _ _ rfl).alloc _
 have G0 : Loc w0 (w.heap.size + 1) #[.int .i64 v,.string s,.slice ao xs.length ca]:=hw0 ▸ loc_at (w.alloc _) _ _ (by simp)
 have HA:=hide (ha.below B0)
 have K : Hid (∀ w', Below w0.heap.size w0 w' → (fun w' => Below w0.heap.size w0 w' ∧ (w'.cell? ⟨w.heap.size, 0, none⟩ = some (.int .i64 n) ∧ w'.cell? ⟨w.heap.size, 1, none⟩ = some (.int .i64 f)) ∧ (w'.cell? ⟨w.heap.size + 1, 0, none⟩ = some (.int .i64 v) ∧ w'.cell? ⟨w.heap.size + 1, 1, none⟩ = some (.string s) ∧ w'.cell? ⟨w.heap.size + 1, 2, none⟩ = some (.slice ao xs.length ca))) w'):=hide fun w' hb' => ⟨hb', ⟨(C0.up hb').cell 0 rfl, (C0.up hb').cell 1 rfl⟩, ⟨(G0.up hb').cell 0 rfl, (G0.up hb').cell 1 rfl, (G0.up hb').cell 2 rfl⟩⟩
 rw [hc] at CO
 clear hc NO VO QU SO
 obtain ⟨m, hm⟩ : ∃ m, xs.length = m:=⟨_, rfl⟩
 rw [hm] at K HA hw0 ⊢
 clear hm
 clear ha G0 C0
 go_enter Tryz.func96, Tryz.ntmps96
 go_upto_region 1 with fail
 clear hw0
 have bA : Below w0.heap.size w0 w0.drew:=Below.drew (Below.refl _ _)
 refine wp_region_noPanic ?_
 refine wp_region_held_drew (S := fun w' => Below w0.heap.size w0 w' ∧ (w'.cell? ⟨w.heap.size, 0, none⟩ = some (.int .i64 n) ∧ w'.cell? ⟨w.heap.size, 1, none⟩ = some (.int .i64 f)) ∧ (w'.cell? ⟨w.heap.size + 1, 0, none⟩ = some (.int .i64 v) ∧ w'.cell? ⟨w.heap.size + 1, 1, none⟩ = some (.string s) ∧ w'.cell? ⟨w.heap.size + 1, 2, none⟩ = some (.slice ao m ca))) (by kernel_rfl) (K.out _ bA) (fun hHeld => ?_)
 refine' tj 0 5 rfl ?_ ?_;rotate_left
 ·intro w h;go_simp;try rfl
 simp only [pU]
 refine rd 1 rfl (fun KK hKK => ?_)
 go_simp
 have hgo:=bA
 refine (CO.out _).mono ?_
 rintro e wy1 ⟨rfl, bb⟩
 have bB : Below w0.heap.size w0 wy1:=bu bA bb
 clear bA hgo bb
 clear hHeld
 refine hKK.out _ _ (K.out _ bB) (fun hHeld => ?_)
 clear hKK KK
 refine' tj 2 7 rfl ?_ ?_;rotate_left
 ·intro w h;go_simp;try rfl
 simp only [pU]
 refine' tj 3 8 rfl ?_ ?_;rotate_left
 ·intro w h;go_simp;try rfl
 simp only [pU]
 refine sk 4 9 rfl (h := ?_)
 simp only [pU]
 refine sk 5 10 rfl (h := ?_)
 simp only [pU]
 refine sk 6 11 rfl (h := ?_)
 simp only [pU]
 refine sk 7 12 rfl (h := ?_)
 simp only [pU]
 refine' tj 8 13 rfl ?_ ?_;rotate_left
 ·intro w h;go_simp;try rfl
 simp only [pU]
 refine' tj 9 14 rfl ?_ ?_;rotate_left
 ·intro w h;go_simp;try rfl
 simp only [pU]
 refine sk 10 15 rfl (h := ?_)
 simp only [pU]
 refine sk 11 16 rfl (h := ?_)
 simp only [pU]
 refine sk 12 17 rfl (h := ?_)
 simp only [pU]
 refine sk 13 18 rfl (h := ?_)
 simp only [pU]
 refine sk 14 19 rfl (h := ?_)
 simp only [pU]
 refine sk 15 20 rfl (h := ?_)
 simp only [pU]
 refine' tj 16 21 rfl ?_ ?_;rotate_left
 ·intro w h;go_simp;try rfl
 simp only [pU]
 clear hHeld
 refine wdn ?_
 go_wp2
 go_ret
 exact ⟨rfl, bu B0 bB⟩

theorem specQcOk_b (n f v : Int) (s : ByteArray) (ao : Option Addr) (ca : Nat) (xs : List Int) (w : World) (hs : s.size ≤ 1048576) (ha : RI w (.slice ao xs.length ca) xs) (hc : decide (COk n f) = true) (hn : (stepsAns s).isSome = false) :
 Calls Tryz.prog 96 #[cv n f, qv v s (.slice ao xs.length ca)] w fun e w' => e = .returned (.bool (false)) ∧ Below w.heap.size w w' := by
 have CO:=hide fun w => specConfOk n f w
 have NO:=hide fun w => specNameOk s w (by omega)
 have VO:=hide fun w => specViewOf s w (by omega)
 have QU:=hide fun w => specQuorum n f w
 have SO:=hide fun w h => specSetOk n (.slice ao xs.length ca) xs w h
 obtain ⟨w0, hw0⟩ : ∃ w0, (w.alloc (.cells #[.int .i64 n,.int .i64 f] 39)).alloc (.cells #[.int .i64 v,.string s,.slice ao xs.length ca] 41) = w0:=⟨_, rfl⟩
 have B0 : Below w.heap.size w w0:=hw0 ▸ qalloc2 _ _ _
 have C0 : Loc w0 w.heap.size #[.int .i64 n,.int .i64 f]:=hw0 ▸ (loc_at w _ _ rfl).alloc _
 have G0 : Loc w0 (w.heap.size + 1) #[.int .i64 v,.string s,.slice ao xs.length ca]:=hw0 ▸ loc_at (w.alloc _) _ _ (by simp)
 have HA:=hide (ha.below B0)
 have K : Hid (∀ w', Below w0.heap.size w0 w' → (fun w' => Below w0.heap.size w0 w' ∧ (w'.cell? ⟨w.heap.size, 0, none⟩ = some (.int .i64 n) ∧ w'.cell? ⟨w.heap.size, 1, none⟩ = some (.int .i64 f)) ∧ (w'.cell? ⟨w.heap.size + 1, 0, none⟩ = some (.int .i64 v) ∧ w'.cell? ⟨w.heap.size + 1, 1, none⟩ = some (.string s) ∧ w'.cell? ⟨w.heap.size + 1, 2, none⟩ = some (.slice ao xs.length ca))) w'):=hide fun w' hb' => ⟨hb', ⟨(C0.up hb').cell 0 rfl, (C0.up hb').cell 1 rfl⟩, ⟨(G0.up hb').cell 0 rfl, (G0.up hb').cell 1 rfl, (G0.up hb').cell 2 rfl⟩⟩
 rw [hc] at CO
 rw [hn] at NO
 clear hc hn VO QU SO
 obtain ⟨m, hm⟩ : ∃ m, xs.length = m:=⟨_, rfl⟩
 rw [hm] at K HA hw0 ⊢
 clear hm
 clear ha G0 C0
 go_enter Tryz.func96, Tryz.ntmps96
 go_upto_region 1 with fail
 clear hw0
 have bA : Below w0.heap.size w0 w0.drew:=Below.drew (Below.refl _ _)
 refine wp_region_noPanic ?_
 refine wp_region_held_drew (S := fun w' => Below w0.heap.size w0 w' ∧ (w'.cell? ⟨w.heap.size, 0, none⟩ = some (.int .i64 n) ∧ w'.cell? ⟨w.heap.size, 1, none⟩ = some (.int .i64 f)) ∧ (w'.cell? ⟨w.heap.size + 1, 0, none⟩ = some (.int .i64 v) ∧ w'.cell? ⟨w.heap.size + 1, 1, none⟩ = some (.string s) ∧ w'.cell? ⟨w.heap.size + 1, 2, none⟩ = some (.slice ao m ca))) (by kernel_rfl) (K.out _ bA) (fun hHeld => ?_)
 refine' tj 0 5 rfl ?_ ?_;rotate_left
 ·intro w h;go_simp;try rfl
 simp only [pU]
 refine rd 1 rfl (fun KK hKK => ?_)
 go_simp
 have hgo:=bA
 refine (CO.out _).mono ?_
 rintro e wy1 ⟨rfl, bb⟩
 have bB : Below w0.heap.size w0 wy1:=bu bA bb
 clear bA hgo bb
 clear hHeld
 refine hKK.out _ _ (K.out _ bB) (fun hHeld => ?_)
 clear hKK KK
 refine' tj 2 7 rfl ?_ ?_;rotate_left
 ·intro w h;go_simp;try rfl
 simp only [pU]
 refine' tj 3 8 rfl ?_ ?_;rotate_left
 ·intro w h;go_simp;try rfl
 simp only [pU]
 refine' tj 4 9 rfl ?_ ?_;rotate_left
 ·intro w h;go_simp;try rfl
 simp only [pU]
 refine' tj 5 10 rfl ?_ ?_;rotate_left
 ·intro w h;go_simp;try rfl
 simp only [pU]
 refine rd 6 rfl (fun KK hKK => ?_)
 go_simp
 have hgo:=bB
 refine (NO.out _).mono ?_
 rintro e wy2 ⟨rfl, bb⟩
 have bC : Below w0.heap.size w0 wy2:=bu bB bb
 clear bB hgo bb
 clear hHeld
 refine hKK.out _ _ (K.out _ bC) (fun hHeld => ?_)
 clear hKK KK
 refine' tj 7 12 rfl ?_ ?_;rotate_left
 ·intro w h;go_simp;try rfl
 simp only [pU]
 refine' tj 8 13 rfl ?_ ?_;rotate_left
 ·intro w h;go_simp;try rfl
 simp only [pU]
 refine' tj 9 14 rfl ?_ ?_;rotate_left
 ·intro w h;go_simp;try rfl
 simp only [pU]
 refine sk 10 15 rfl (h := ?_)
 simp only [pU]
 refine sk 11 16 rfl (h := ?_)
 simp only [pU]
 refine sk 12 17 rfl (h := ?_)
 simp only [pU]
 refine sk 13 18 rfl (h := ?_)
 simp only [pU]
 refine sk 14 19 rfl (h := ?_)
 simp only [pU]
 refine sk 15 20 rfl (h := ?_)
 simp only [pU]
 refine' tj 16 21 rfl ?_ ?_;rotate_left
 ·intro w h;go_simp;try rfl
 simp only [pU]
 clear hHeld
 refine wdn ?_
 go_wp2
 go_ret
 exact ⟨rfl, bu B0 bC⟩

theorem specQcOk_c (n f v : Int) (s : ByteArray) (ao : Option Addr) (ca : Nat) (xs : List Int) (w : World) (hs : s.size ≤ 1048576) (ha : RI w (.slice ao xs.length ca) xs) (hc : decide (COk n f) = true) (hn : (stepsAns s).isSome = true) (hv : viewAns s ≠ v) :
 Calls Tryz.prog 96 #[cv n f, qv v s (.slice ao xs.length ca)] w fun e w' => e = .returned (.bool (false)) ∧ Below w.heap.size w w' := by
 have CO:=hide fun w => specConfOk n f w
 have NO:=hide fun w => specNameOk s w (by omega)
 have VO:=hide fun w => specViewOf s w (by omega)
 have QU:=hide fun w => specQuorum n f w
 have SO:=hide fun w h => specSetOk n (.slice ao xs.length ca) xs w h
 obtain ⟨w0, hw0⟩ : ∃ w0, (w.alloc (.cells #[.int .i64 n,.int .i64 f] 39)).alloc (.cells #[.int .i64 v,.string s,.slice ao xs.length ca] 41) = w0:=⟨_, rfl⟩
 have B0 : Below w.heap.size w w0:=hw0 ▸ qalloc2 _ _ _
 have C0 : Loc w0 w.heap.size #[.int .i64 n,.int .i64 f]:=hw0 ▸ (loc_at w _ _ rfl).alloc _
 have G0 : Loc w0 (w.heap.size + 1) #[.int .i64 v,.string s,.slice ao xs.length ca]:=hw0 ▸ loc_at (w.alloc _) _ _ (by simp)
 have HA:=hide (ha.below B0)
 have K : Hid (∀ w', Below w0.heap.size w0 w' → (fun w' => Below w0.heap.size w0 w' ∧ (w'.cell? ⟨w.heap.size, 0, none⟩ = some (.int .i64 n) ∧ w'.cell? ⟨w.heap.size, 1, none⟩ = some (.int .i64 f)) ∧ (w'.cell? ⟨w.heap.size + 1, 0, none⟩ = some (.int .i64 v) ∧ w'.cell? ⟨w.heap.size + 1, 1, none⟩ = some (.string s) ∧ w'.cell? ⟨w.heap.size + 1, 2, none⟩ = some (.slice ao xs.length ca))) w'):=hide fun w' hb' => ⟨hb', ⟨(C0.up hb').cell 0 rfl, (C0.up hb').cell 1 rfl⟩, ⟨(G0.up hb').cell 0 rfl, (G0.up hb').cell 1 rfl, (G0.up hb').cell 2 rfl⟩⟩
 rw [hc] at CO
 rw [hn] at NO
 clear hc hn QU SO
 generalize viewAns s = q at *
 have d2 : (q == v) = false:=by simpa using hv
 obtain ⟨m, hm⟩ : ∃ m, xs.length = m:=⟨_, rfl⟩
 rw [hm] at K HA hw0 ⊢
 clear hm
 clear ha G0 C0
 go_enter Tryz.func96, Tryz.ntmps96
 go_upto_region 1 with fail
 clear hw0
 have bA : Below w0.heap.size w0 w0.drew:=Below.drew (Below.refl _ _)
 refine wp_region_noPanic ?_
 refine wp_region_held_drew (S := fun w' => Below w0.heap.size w0 w' ∧ (w'.cell? ⟨w.heap.size, 0, none⟩ = some (.int .i64 n) ∧ w'.cell? ⟨w.heap.size, 1, none⟩ = some (.int .i64 f)) ∧ (w'.cell? ⟨w.heap.size + 1, 0, none⟩ = some (.int .i64 v) ∧ w'.cell? ⟨w.heap.size + 1, 1, none⟩ = some (.string s) ∧ w'.cell? ⟨w.heap.size + 1, 2, none⟩ = some (.slice ao m ca))) (by kernel_rfl) (K.out _ bA) (fun hHeld => ?_)
 refine' tj 0 5 rfl ?_ ?_;rotate_left
 ·intro w h;go_simp;try rfl
 simp only [pU]
 refine rd 1 rfl (fun KK hKK => ?_)
 go_simp
 have hgo:=bA
 refine (CO.out _).mono ?_
 rintro e wy1 ⟨rfl, bb⟩
 have bB : Below w0.heap.size w0 wy1:=bu bA bb
 clear bA hgo bb
 clear hHeld
 refine hKK.out _ _ (K.out _ bB) (fun hHeld => ?_)
 clear hKK KK
 refine' tj 2 7 rfl ?_ ?_;rotate_left
 ·intro w h;go_simp;try rfl
 simp only [pU]
 refine' tj 3 8 rfl ?_ ?_;rotate_left
 ·intro w h;go_simp;try rfl
 simp only [pU]
 refine' tj 4 9 rfl ?_ ?_;rotate_left
 ·intro w h;go_simp;try rfl
 simp only [pU]
 refine' tj 5 10 rfl ?_ ?_;rotate_left
 ·intro w h;go_simp;try rfl
 simp only [pU]
 refine rd 6 rfl (fun KK hKK => ?_)
 go_simp
 have hgo:=bB
 refine (NO.out _).mono ?_
 rintro e wy2 ⟨rfl, bb⟩
 have bC : Below w0.heap.size w0 wy2:=bu bB bb
 clear bB hgo bb
 clear hHeld
 refine hKK.out _ _ (K.out _ bC) (fun hHeld => ?_)
 clear hKK KK
 refine' tj 7 12 rfl ?_ ?_;rotate_left
 ·intro w h;go_simp;try rfl
 simp only [pU]
 refine' tj 8 13 rfl ?_ ?_;rotate_left
 ·intro w h;go_simp;try rfl
 simp only [pU]
 refine' tj 9 14 rfl ?_ ?_;rotate_left
 ·intro w h;go_simp;try rfl
 simp only [pU]
 refine' tj 10 15 rfl ?_ ?_;rotate_left
 ·intro w h;go_simp;try rfl
 simp only [pU]
 refine' tj 11 16 rfl ?_ ?_;rotate_left
 ·intro w h;go_simp;try rfl
 simp only [pU]
 refine' tj 13 18 rfl ?_ ?_;rotate_left
 ·intro w h;go_simp;try rfl
 simp only [pU]
 refine' tj 14 19 rfl ?_ ?_;rotate_left
 ·intro w h;go_simp;try rfl
 simp only [pU]
 refine rd 12 rfl (fun KK hKK => ?_)
 go_simp
 have hgo:=bC
 refine (VO.out _).mono ?_
 rintro e wy3 ⟨rfl, bb⟩
 have bD : Below w0.heap.size w0 wy3:=bu bC bb
 clear bC hgo bb
 clear hHeld
 refine hKK.out _ _ (K.out _ bD) (fun hHeld => ?_)
 clear hKK KK
 refine' tj 15 20 rfl ?_ ?_;rotate_left
 ·intro w h;go_simp;try rfl
 simp only [pU]
 refine' tj 16 21 rfl ?_ ?_;rotate_left
 ·intro w h;go_simp;try rfl
 simp only [pU]
 clear hHeld
 refine wdn ?_
 go_wp2
 go_ret
 exact ⟨rfl, bu B0 bD⟩

theorem specQcOk_d (n f v : Int) (s : ByteArray) (ao : Option Addr) (ca : Nat) (xs : List Int) (w : World) (hs : s.size ≤ 1048576) (ha : RI w (.slice ao xs.length ca) xs) (hc : decide (COk n f) = true) (hn : (stepsAns s).isSome = true) (hv : viewAns s = v) (he : s = ⟨#[]⟩) :
 Calls Tryz.prog 96 #[cv n f, qv v s (.slice ao xs.length ca)] w fun e w' => e = .returned (.bool (((xs.length : Int) == 0))) ∧ Below w.heap.size w w' := by
 have CO:=hide fun w => specConfOk n f w
 have NO:=hide fun w => specNameOk s w (by omega)
 have VO:=hide fun w => specViewOf s w (by omega)
 have QU:=hide fun w => specQuorum n f w
 have SO:=hide fun w h => specSetOk n (.slice ao xs.length ca) xs w h
 obtain ⟨w0, hw0⟩ : ∃ w0, (w.alloc (.cells #[.int .i64 n,.int .i64 f] 39)).alloc (.cells #[.int .i64 v,.string s,.slice ao xs.length ca] 41) = w0:=⟨_, rfl⟩
 have B0 : Below w.heap.size w w0:=hw0 ▸ qalloc2 _ _ _
 have C0 : Loc w0 w.heap.size #[.int .i64 n,.int .i64 f]:=hw0 ▸ (loc_at w _ _ rfl).alloc _
 have G0 : Loc w0 (w.heap.size + 1) #[.int .i64 v,.string s,.slice ao xs.length ca]:=hw0 ▸ loc_at (w.alloc _) _ _ (by simp)
 have HA:=hide (ha.below B0)
 have K : Hid (∀ w', Below w0.heap.size w0 w' → (fun w' => Below w0.heap.size w0 w' ∧ (w'.cell? ⟨w.heap.size, 0, none⟩ = some (.int .i64 n) ∧ w'.cell? ⟨w.heap.size, 1, none⟩ = some (.int .i64 f)) ∧ (w'.cell? ⟨w.heap.size + 1, 0, none⟩ = some (.int .i64 v) ∧ w'.cell? ⟨w.heap.size + 1, 1, none⟩ = some (.string s) ∧ w'.cell? ⟨w.heap.size + 1, 2, none⟩ = some (.slice ao xs.length ca))) w'):=hide fun w' hb' => ⟨hb', ⟨(C0.up hb').cell 0 rfl, (C0.up hb').cell 1 rfl⟩, ⟨(G0.up hb').cell 0 rfl, (G0.up hb').cell 1 rfl, (G0.up hb').cell 2 rfl⟩⟩
 rw [hc] at CO
 rw [hn] at NO
 rw [hv] at VO
 have hE : (s.toList == []) = true:=by rw [he, ByteArray.toList_eq]; rfl
 clear hc hn hv he QU SO
 obtain ⟨m, hm⟩ : ∃ m, xs.length = m:=⟨_, rfl⟩
 rw [hm] at K HA hw0 ⊢
 clear hm
 clear ha G0 C0
 go_enter Tryz.func96, Tryz.ntmps96
 go_upto_region 1 with fail
 clear hw0
 have bA : Below w0.heap.size w0 w0.drew:=Below.drew (Below.refl _ _)
 refine wp_region_noPanic ?_
 refine wp_region_held_drew (S := fun w' => Below w0.heap.size w0 w' ∧ (w'.cell? ⟨w.heap.size, 0, none⟩ = some (.int .i64 n) ∧ w'.cell? ⟨w.heap.size, 1, none⟩ = some (.int .i64 f)) ∧ (w'.cell? ⟨w.heap.size + 1, 0, none⟩ = some (.int .i64 v) ∧ w'.cell? ⟨w.heap.size + 1, 1, none⟩ = some (.string s) ∧ w'.cell? ⟨w.heap.size + 1, 2, none⟩ = some (.slice ao m ca))) (by kernel_rfl) (K.out _ bA) (fun hHeld => ?_)
 refine' tj 0 5 rfl ?_ ?_;rotate_left
 ·intro w h;go_simp;try rfl
 simp only [pU]
 refine rd 1 rfl (fun KK hKK => ?_)
 go_simp
 have hgo:=bA
 refine (CO.out _).mono ?_
 rintro e wy1 ⟨rfl, bb⟩
 have bB : Below w0.heap.size w0 wy1:=bu bA bb
 clear bA hgo bb
 clear hHeld
 refine hKK.out _ _ (K.out _ bB) (fun hHeld => ?_)
 clear hKK KK
 refine' tj 2 7 rfl ?_ ?_;rotate_left
 ·intro w h;go_simp;try rfl
 simp only [pU]
 refine' tj 3 8 rfl ?_ ?_;rotate_left
 ·intro w h;go_simp;try rfl
 simp only [pU]
 refine' tj 4 9 rfl ?_ ?_;rotate_left
 ·intro w h;go_simp;try rfl
 simp only [pU]
 refine' tj 5 10 rfl ?_ ?_;rotate_left
 ·intro w h;go_simp;try rfl
 simp only [pU]
 refine rd 6 rfl (fun KK hKK => ?_)
 go_simp
 have hgo:=bB
 refine (NO.out _).mono ?_
 rintro e wy2 ⟨rfl, bb⟩
 have bC : Below w0.heap.size w0 wy2:=bu bB bb
 clear bB hgo bb
 clear hHeld
 refine hKK.out _ _ (K.out _ bC) (fun hHeld => ?_)
 clear hKK KK
 refine' tj 7 12 rfl ?_ ?_;rotate_left
 ·intro w h;go_simp;try rfl
 simp only [pU]
 refine' tj 8 13 rfl ?_ ?_;rotate_left
 ·intro w h;go_simp;try rfl
 simp only [pU]
 refine' tj 9 14 rfl ?_ ?_;rotate_left
 ·intro w h;go_simp;try rfl
 simp only [pU]
 refine' tj 10 15 rfl ?_ ?_;rotate_left
 ·intro w h;go_simp;try rfl
 simp only [pU]
 refine' tj 11 16 rfl ?_ ?_;rotate_left
 ·intro w h;go_simp;try rfl
 simp only [pU]
 refine' tj 13 18 rfl ?_ ?_;rotate_left
 ·intro w h;go_simp;try rfl
 simp only [pU]
 refine' tj 14 19 rfl ?_ ?_;rotate_left
 ·intro w h;go_simp;try rfl
 simp only [pU]
 refine rd 12 rfl (fun KK hKK => ?_)
 go_simp
 have hgo:=bC
 refine (VO.out _).mono ?_
 rintro e wy3 ⟨rfl, bb⟩
 have bD : Below w0.heap.size w0 wy3:=bu bC bb
 clear bC hgo bb
 clear hHeld
 refine hKK.out _ _ (K.out _ bD) (fun hHeld => ?_)
 clear hKK KK
 refine' tj 15 20 rfl ?_ ?_;rotate_left
 ·intro w h;go_simp;try rfl
 simp only [pU]
 refine' tj 16 21 rfl ?_ ?_;rotate_left
 ·intro w h;go_simp;try rfl
 simp only [pU]
 clear hHeld
 refine wdn ?_
 have B1 : Below w.heap.size w wy3:=bu B0 bD
 have K1:=K.out _ bD
 try dsimp only at K1
 obtain ⟨_, ⟨c0, c1⟩, ⟨g0, g1, g2⟩⟩:=K1
 clear K HA NO VO CO
 go_wp2
 go_ret
 exact ⟨rfl, B1⟩

theorem specQcOk_e (n f v : Int) (s : ByteArray) (ao : Option Addr) (ca : Nat) (xs : List Int) (w : World) (hs : s.size ≤ 1048576) (ha : RI w (.slice ao xs.length ca) xs) (hc : decide (COk n f) = true) (hn : (stepsAns s).isSome = true) (hv : viewAns s = v) (he : s ≠ ⟨#[]⟩) (ho : decide (OkL n xs) = false)  :
 Calls Tryz.prog 96 #[cv n f, qv v s (.slice ao xs.length ca)] w fun e w' => e = .returned (.bool (false)) ∧ Below w.heap.size w w' := by
 have CO:=hide fun w => specConfOk n f w
 have NO:=hide fun w => specNameOk s w (by omega)
 have VO:=hide fun w => specViewOf s w (by omega)
 have QU:=hide fun w => specQuorum n f w
 have SO:=hide fun w h => specSetOk n (.slice ao xs.length ca) xs w h
 obtain ⟨w0, hw0⟩ : ∃ w0, (w.alloc (.cells #[.int .i64 n,.int .i64 f] 39)).alloc (.cells #[.int .i64 v,.string s,.slice ao xs.length ca] 41) = w0:=⟨_, rfl⟩
 have B0 : Below w.heap.size w w0:=hw0 ▸ qalloc2 _ _ _
 have C0 : Loc w0 w.heap.size #[.int .i64 n,.int .i64 f]:=hw0 ▸ (loc_at w _ _ rfl).alloc _
 have G0 : Loc w0 (w.heap.size + 1) #[.int .i64 v,.string s,.slice ao xs.length ca]:=hw0 ▸ loc_at (w.alloc _) _ _ (by simp)
 have HA:=hide (ha.below B0)
 have K : Hid (∀ w', Below w0.heap.size w0 w' → (fun w' => Below w0.heap.size w0 w' ∧ (w'.cell? ⟨w.heap.size, 0, none⟩ = some (.int .i64 n) ∧ w'.cell? ⟨w.heap.size, 1, none⟩ = some (.int .i64 f)) ∧ (w'.cell? ⟨w.heap.size + 1, 0, none⟩ = some (.int .i64 v) ∧ w'.cell? ⟨w.heap.size + 1, 1, none⟩ = some (.string s) ∧ w'.cell? ⟨w.heap.size + 1, 2, none⟩ = some (.slice ao xs.length ca))) w'):=hide fun w' hb' => ⟨hb', ⟨(C0.up hb').cell 0 rfl, (C0.up hb').cell 1 rfl⟩, ⟨(G0.up hb').cell 0 rfl, (G0.up hb').cell 1 rfl, (G0.up hb').cell 2 rfl⟩⟩
 rw [hc] at CO
 rw [hn] at NO
 rw [hv] at VO
 rw [ho] at SO
 clear hc hn hv ho
 generalize quorumOf n f = qu at *
 have hne:=ne2 he
 obtain ⟨m, hm⟩ : ∃ m, xs.length = m:=⟨_, rfl⟩
 rw [hm] at K HA SO hw0 ⊢
 clear hm
 clear ha G0 C0
 go_enter Tryz.func96, Tryz.ntmps96
 go_upto_region 1 with fail
 clear hw0
 have bA : Below w0.heap.size w0 w0.drew:=Below.drew (Below.refl _ _)
 refine wp_region_noPanic ?_
 refine wp_region_held_drew (S := fun w' => Below w0.heap.size w0 w' ∧ (w'.cell? ⟨w.heap.size, 0, none⟩ = some (.int .i64 n) ∧ w'.cell? ⟨w.heap.size, 1, none⟩ = some (.int .i64 f)) ∧ (w'.cell? ⟨w.heap.size + 1, 0, none⟩ = some (.int .i64 v) ∧ w'.cell? ⟨w.heap.size + 1, 1, none⟩ = some (.string s) ∧ w'.cell? ⟨w.heap.size + 1, 2, none⟩ = some (.slice ao m ca))) (by kernel_rfl) (K.out _ bA) (fun hHeld => ?_)
 refine' tj 0 5 rfl ?_ ?_;rotate_left
 ·intro w h;go_simp;try rfl
 simp only [pU]
 refine rd 1 rfl (fun KK hKK => ?_)
 go_simp
 have hgo:=bA
 refine (CO.out _).mono ?_
 rintro e wy1 ⟨rfl, bb⟩
 have bB : Below w0.heap.size w0 wy1:=bu bA bb
 clear bA hgo bb
 clear hHeld
 refine hKK.out _ _ (K.out _ bB) (fun hHeld => ?_)
 clear hKK KK
 refine' tj 2 7 rfl ?_ ?_;rotate_left
 ·intro w h;go_simp;try rfl
 simp only [pU]
 refine' tj 3 8 rfl ?_ ?_;rotate_left
 ·intro w h;go_simp;try rfl
 simp only [pU]
 refine' tj 4 9 rfl ?_ ?_;rotate_left
 ·intro w h;go_simp;try rfl
 simp only [pU]
 refine' tj 5 10 rfl ?_ ?_;rotate_left
 ·intro w h;go_simp;try rfl
 simp only [pU]
 refine rd 6 rfl (fun KK hKK => ?_)
 go_simp
 have hgo:=bB
 refine (NO.out _).mono ?_
 rintro e wy2 ⟨rfl, bb⟩
 have bC : Below w0.heap.size w0 wy2:=bu bB bb
 clear bB hgo bb
 clear hHeld
 refine hKK.out _ _ (K.out _ bC) (fun hHeld => ?_)
 clear hKK KK
 refine' tj 7 12 rfl ?_ ?_;rotate_left
 ·intro w h;go_simp;try rfl
 simp only [pU]
 refine' tj 8 13 rfl ?_ ?_;rotate_left
 ·intro w h;go_simp;try rfl
 simp only [pU]
 refine' tj 9 14 rfl ?_ ?_;rotate_left
 ·intro w h;go_simp;try rfl
 simp only [pU]
 refine' tj 10 15 rfl ?_ ?_;rotate_left
 ·intro w h;go_simp;try rfl
 simp only [pU]
 refine' tj 11 16 rfl ?_ ?_;rotate_left
 ·intro w h;go_simp;try rfl
 simp only [pU]
 refine' tj 13 18 rfl ?_ ?_;rotate_left
 ·intro w h;go_simp;try rfl
 simp only [pU]
 refine' tj 14 19 rfl ?_ ?_;rotate_left
 ·intro w h;go_simp;try rfl
 simp only [pU]
 refine rd 12 rfl (fun KK hKK => ?_)
 go_simp
 have hgo:=bC
 refine (VO.out _).mono ?_
 rintro e wy3 ⟨rfl, bb⟩
 have bD : Below w0.heap.size w0 wy3:=bu bC bb
 clear bC hgo bb
 clear hHeld
 refine hKK.out _ _ (K.out _ bD) (fun hHeld => ?_)
 clear hKK KK
 refine' tj 15 20 rfl ?_ ?_;rotate_left
 ·intro w h;go_simp;try rfl
 simp only [pU]
 refine' tj 16 21 rfl ?_ ?_;rotate_left
 ·intro w h;go_simp;try rfl
 simp only [pU]
 clear hHeld
 refine wdn ?_
 have B1 : Below w.heap.size w wy3:=bu B0 bD
 have K1:=K.out _ bD
 try dsimp only at K1
 obtain ⟨_, ⟨c0, c1⟩, ⟨g0, g1, g2⟩⟩:=K1
 have K5 : Hid (∀ w', Below wy3.heap.size wy3 w' → (fun w' => Below wy3.heap.size wy3 w' ∧ (w'.cell? ⟨w.heap.size, 0, none⟩ = some (.int .i64 n) ∧ w'.cell? ⟨w.heap.size, 1, none⟩ = some (.int .i64 f)) ∧ (w'.cell? ⟨w.heap.size + 1, 0, none⟩ = some (.int .i64 v) ∧ w'.cell? ⟨w.heap.size + 1, 1, none⟩ = some (.string s) ∧ w'.cell? ⟨w.heap.size + 1, 2, none⟩ = some (.slice ao m ca))) w'):=hide fun w' hb' => ⟨hb', (K.out _ (bD.trans (hb'.mono bD.size))).2⟩
 have HA5:=hide (HA.out.below bD)
 clear NO VO CO K HA he
 go_upto_region 5 with fail
 clear c0 c1 g0 g1 g2
 have bA : Below wy3.heap.size wy3 wy3.drew:=Below.drew (Below.refl _ _)
 refine wp_region_noPanic ?_
 refine wp_region_held_drew (S := fun w' => Below wy3.heap.size wy3 w' ∧ (w'.cell? ⟨w.heap.size, 0, none⟩ = some (.int .i64 n) ∧ w'.cell? ⟨w.heap.size, 1, none⟩ = some (.int .i64 f)) ∧ (w'.cell? ⟨w.heap.size + 1, 0, none⟩ = some (.int .i64 v) ∧ w'.cell? ⟨w.heap.size + 1, 1, none⟩ = some (.string s) ∧ w'.cell? ⟨w.heap.size + 1, 2, none⟩ = some (.slice ao m ca))) (by kernel_rfl) (K5.out _ bA) (fun hHeld => ?_)
 refine' tj 0 29 rfl ?_ ?_;rotate_left
 ·intro w h;go_simp;try rfl
 simp only [pU]
 refine' tj 1 30 rfl ?_ ?_;rotate_left
 ·intro w h;go_simp;try rfl
 simp only [pU]
 refine' tj 2 31 rfl ?_ ?_;rotate_left
 ·intro w h;go_simp;try rfl
 simp only [pU]
 refine' tj 3 32 rfl ?_ ?_;rotate_left
 ·intro w h;go_simp;try rfl
 simp only [pU]
 refine rd 4 rfl (fun KK hKK => ?_)
 go_simp
 have hgo:=bA
 refine (SO.out _ (HA5.out.below hgo)).mono ?_
 rintro e wy5 ⟨rfl, bb⟩
 have bF : Below wy3.heap.size wy3 wy5:=bu bA bb
 clear bA hgo bb
 clear hHeld
 refine hKK.out _ _ (K5.out _ bF) (fun hHeld => ?_)
 clear hKK KK
 refine' tj 5 34 rfl ?_ ?_;rotate_left
 ·intro w h;go_simp;try rfl
 simp only [pU]
 refine sk 6 35 rfl (h := ?_)
 simp only [pU]
 refine sk 7 36 rfl (h := ?_)
 simp only [pU]
 refine sk 8 37 rfl (h := ?_)
 simp only [pU]
 refine sk 9 38 rfl (h := ?_)
 simp only [pU]
 refine sk 10 39 rfl (h := ?_)
 simp only [pU]
 refine sk 11 40 rfl (h := ?_)
 simp only [pU]
 refine' tj 12 41 rfl ?_ ?_;rotate_left
 ·intro w h;go_simp;try rfl
 simp only [pU]
 refine' tj 13 4 rfl ?_ ?_;rotate_left
 ·intro w h;go_simp;try rfl
 simp only [pU]
 clear hHeld
 refine wdn ?_
 go_wp2
 go_ret
 exact ⟨rfl, bu B1 bF⟩

theorem specQcOk_f (n f v : Int) (s : ByteArray) (ao : Option Addr) (ca : Nat) (xs : List Int) (w : World) (hs : s.size ≤ 1048576) (ha : RI w (.slice ao xs.length ca) xs) (hc : decide (COk n f) = true) (hn : (stepsAns s).isSome = true) (hv : viewAns s = v) (he : s ≠ ⟨#[]⟩) (ho : decide (OkL n xs) = true) (hq : quorumOf n f ≤ (xs.length : Int)) :
 Calls Tryz.prog 96 #[cv n f, qv v s (.slice ao xs.length ca)] w fun e w' => e = .returned (.bool (true)) ∧ Below w.heap.size w w' := by
 have CO:=hide fun w => specConfOk n f w
 have NO:=hide fun w => specNameOk s w (by omega)
 have VO:=hide fun w => specViewOf s w (by omega)
 have QU:=hide fun w => specQuorum n f w
 have SO:=hide fun w h => specSetOk n (.slice ao xs.length ca) xs w h
 obtain ⟨w0, hw0⟩ : ∃ w0, (w.alloc (.cells #[.int .i64 n,.int .i64 f] 39)).alloc (.cells #[.int .i64 v,.string s,.slice ao xs.length ca] 41) = w0:=⟨_, rfl⟩
 have B0 : Below w.heap.size w w0:=hw0 ▸ qalloc2 _ _ _
 have C0 : Loc w0 w.heap.size #[.int .i64 n,.int .i64 f]:=hw0 ▸ (loc_at w _ _ rfl).alloc _
 have G0 : Loc w0 (w.heap.size + 1) #[.int .i64 v,.string s,.slice ao xs.length ca]:=hw0 ▸ loc_at (w.alloc _) _ _ (by simp)
 have HA:=hide (ha.below B0)
 have K : Hid (∀ w', Below w0.heap.size w0 w' → (fun w' => Below w0.heap.size w0 w' ∧ (w'.cell? ⟨w.heap.size, 0, none⟩ = some (.int .i64 n) ∧ w'.cell? ⟨w.heap.size, 1, none⟩ = some (.int .i64 f)) ∧ (w'.cell? ⟨w.heap.size + 1, 0, none⟩ = some (.int .i64 v) ∧ w'.cell? ⟨w.heap.size + 1, 1, none⟩ = some (.string s) ∧ w'.cell? ⟨w.heap.size + 1, 2, none⟩ = some (.slice ao xs.length ca))) w'):=hide fun w' hb' => ⟨hb', ⟨(C0.up hb').cell 0 rfl, (C0.up hb').cell 1 rfl⟩, ⟨(G0.up hb').cell 0 rfl, (G0.up hb').cell 1 rfl, (G0.up hb').cell 2 rfl⟩⟩
 rw [hc] at CO
 rw [hn] at NO
 rw [hv] at VO
 rw [ho] at SO
 clear hc hn hv ho
 generalize quorumOf n f = qu at *
 have hne:=ne2 he
 obtain ⟨m, hm⟩ : ∃ m, xs.length = m:=⟨_, rfl⟩
 rw [hm] at K HA SO hw0 hq ⊢
 clear hm
 have d4 : decide (qu ≤ (m : Int)) = true:=by simpa using hq
 clear ha G0 C0
 go_enter Tryz.func96, Tryz.ntmps96
 go_upto_region 1 with fail
 clear hw0
 have bA : Below w0.heap.size w0 w0.drew:=Below.drew (Below.refl _ _)
 refine wp_region_noPanic ?_
 refine wp_region_held_drew (S := fun w' => Below w0.heap.size w0 w' ∧ (w'.cell? ⟨w.heap.size, 0, none⟩ = some (.int .i64 n) ∧ w'.cell? ⟨w.heap.size, 1, none⟩ = some (.int .i64 f)) ∧ (w'.cell? ⟨w.heap.size + 1, 0, none⟩ = some (.int .i64 v) ∧ w'.cell? ⟨w.heap.size + 1, 1, none⟩ = some (.string s) ∧ w'.cell? ⟨w.heap.size + 1, 2, none⟩ = some (.slice ao m ca))) (by kernel_rfl) (K.out _ bA) (fun hHeld => ?_)
 refine' tj 0 5 rfl ?_ ?_;rotate_left
 ·intro w h;go_simp;try rfl
 simp only [pU]
 refine rd 1 rfl (fun KK hKK => ?_)
 go_simp
 have hgo:=bA
 refine (CO.out _).mono ?_
 rintro e wy1 ⟨rfl, bb⟩
 have bB : Below w0.heap.size w0 wy1:=bu bA bb
 clear bA hgo bb
 clear hHeld
 refine hKK.out _ _ (K.out _ bB) (fun hHeld => ?_)
 clear hKK KK
 refine' tj 2 7 rfl ?_ ?_;rotate_left
 ·intro w h;go_simp;try rfl
 simp only [pU]
 refine' tj 3 8 rfl ?_ ?_;rotate_left
 ·intro w h;go_simp;try rfl
 simp only [pU]
 refine' tj 4 9 rfl ?_ ?_;rotate_left
 ·intro w h;go_simp;try rfl
 simp only [pU]
 refine' tj 5 10 rfl ?_ ?_;rotate_left
 ·intro w h;go_simp;try rfl
 simp only [pU]
 refine rd 6 rfl (fun KK hKK => ?_)
 go_simp
 have hgo:=bB
 refine (NO.out _).mono ?_
 rintro e wy2 ⟨rfl, bb⟩
 have bC : Below w0.heap.size w0 wy2:=bu bB bb
 clear bB hgo bb
 clear hHeld
 refine hKK.out _ _ (K.out _ bC) (fun hHeld => ?_)
 clear hKK KK
 refine' tj 7 12 rfl ?_ ?_;rotate_left
 ·intro w h;go_simp;try rfl
 simp only [pU]
 refine' tj 8 13 rfl ?_ ?_;rotate_left
 ·intro w h;go_simp;try rfl
 simp only [pU]
 refine' tj 9 14 rfl ?_ ?_;rotate_left
 ·intro w h;go_simp;try rfl
 simp only [pU]
 refine' tj 10 15 rfl ?_ ?_;rotate_left
 ·intro w h;go_simp;try rfl
 simp only [pU]
 refine' tj 11 16 rfl ?_ ?_;rotate_left
 ·intro w h;go_simp;try rfl
 simp only [pU]
 refine' tj 13 18 rfl ?_ ?_;rotate_left
 ·intro w h;go_simp;try rfl
 simp only [pU]
 refine' tj 14 19 rfl ?_ ?_;rotate_left
 ·intro w h;go_simp;try rfl
 simp only [pU]
 refine rd 12 rfl (fun KK hKK => ?_)
 go_simp
 have hgo:=bC
 refine (VO.out _).mono ?_
 rintro e wy3 ⟨rfl, bb⟩
 have bD : Below w0.heap.size w0 wy3:=bu bC bb
 clear bC hgo bb
 clear hHeld
 refine hKK.out _ _ (K.out _ bD) (fun hHeld => ?_)
 clear hKK KK
 refine' tj 15 20 rfl ?_ ?_;rotate_left
 ·intro w h;go_simp;try rfl
 simp only [pU]
 refine' tj 16 21 rfl ?_ ?_;rotate_left
 ·intro w h;go_simp;try rfl
 simp only [pU]
 clear hHeld
 refine wdn ?_
 have B1 : Below w.heap.size w wy3:=bu B0 bD
 have K1:=K.out _ bD
 try dsimp only at K1
 obtain ⟨_, ⟨c0, c1⟩, ⟨g0, g1, g2⟩⟩:=K1
 have K5 : Hid (∀ w', Below wy3.heap.size wy3 w' → (fun w' => Below wy3.heap.size wy3 w' ∧ (w'.cell? ⟨w.heap.size, 0, none⟩ = some (.int .i64 n) ∧ w'.cell? ⟨w.heap.size, 1, none⟩ = some (.int .i64 f)) ∧ (w'.cell? ⟨w.heap.size + 1, 0, none⟩ = some (.int .i64 v) ∧ w'.cell? ⟨w.heap.size + 1, 1, none⟩ = some (.string s) ∧ w'.cell? ⟨w.heap.size + 1, 2, none⟩ = some (.slice ao m ca))) w'):=hide fun w' hb' => ⟨hb', (K.out _ (bD.trans (hb'.mono bD.size))).2⟩
 have HA5:=hide (HA.out.below bD)
 clear NO VO CO K HA he
 go_upto_region 5 with fail
 clear c0 c1 g0 g1 g2
 have bA : Below wy3.heap.size wy3 wy3.drew:=Below.drew (Below.refl _ _)
 refine wp_region_noPanic ?_
 refine wp_region_held_drew (S := fun w' => Below wy3.heap.size wy3 w' ∧ (w'.cell? ⟨w.heap.size, 0, none⟩ = some (.int .i64 n) ∧ w'.cell? ⟨w.heap.size, 1, none⟩ = some (.int .i64 f)) ∧ (w'.cell? ⟨w.heap.size + 1, 0, none⟩ = some (.int .i64 v) ∧ w'.cell? ⟨w.heap.size + 1, 1, none⟩ = some (.string s) ∧ w'.cell? ⟨w.heap.size + 1, 2, none⟩ = some (.slice ao m ca))) (by kernel_rfl) (K5.out _ bA) (fun hHeld => ?_)
 refine' tj 0 29 rfl ?_ ?_;rotate_left
 ·intro w h;go_simp;try rfl
 simp only [pU]
 refine' tj 1 30 rfl ?_ ?_;rotate_left
 ·intro w h;go_simp;try rfl
 simp only [pU]
 refine' tj 2 31 rfl ?_ ?_;rotate_left
 ·intro w h;go_simp;try rfl
 simp only [pU]
 refine' tj 3 32 rfl ?_ ?_;rotate_left
 ·intro w h;go_simp;try rfl
 simp only [pU]
 refine rd 4 rfl (fun KK hKK => ?_)
 go_simp
 have hgo:=bA
 refine (SO.out _ (HA5.out.below hgo)).mono ?_
 rintro e wy5 ⟨rfl, bb⟩
 have bF : Below wy3.heap.size wy3 wy5:=bu bA bb
 clear bA hgo bb
 clear hHeld
 refine hKK.out _ _ (K5.out _ bF) (fun hHeld => ?_)
 clear hKK KK
 refine' tj 5 34 rfl ?_ ?_;rotate_left
 ·intro w h;go_simp;try rfl
 simp only [pU]
 refine' tj 6 35 rfl ?_ ?_;rotate_left
 ·intro w h;go_simp;try rfl
 simp only [pU]
 refine' tj 7 36 rfl ?_ ?_;rotate_left
 ·intro w h;go_simp;try rfl
 simp only [pU]
 refine' tj 8 37 rfl ?_ ?_;rotate_left
 ·intro w h;go_simp;try rfl
 simp only [pU]
 refine' tj 9 38 rfl ?_ ?_;rotate_left
 ·intro w h;go_simp;try rfl
 simp only [pU]
 refine rd 10 rfl (fun KK hKK => ?_)
 go_simp
 have hgo:=bF
 refine (QU.out _).mono ?_
 rintro e wy6 ⟨rfl, bb⟩
 have bG : Below wy3.heap.size wy3 wy6:=bu bF bb
 clear bF hgo bb
 clear hHeld
 refine hKK.out _ _ (K5.out _ bG) (fun hHeld => ?_)
 clear hKK KK
 refine' tj 11 40 rfl ?_ ?_;rotate_left
 ·intro w h;go_simp;try rfl
 simp only [pU]
 refine' tj 12 41 rfl ?_ ?_;rotate_left
 ·intro w h;go_simp;try rfl
 simp only [pU]
 refine' tj 13 4 rfl ?_ ?_;rotate_left
 ·intro w h;go_simp;try rfl
 simp only [pU]
 clear hHeld
 refine wdn ?_
 go_wp2
 go_ret
 exact ⟨rfl, bu B1 bG⟩

theorem specQcOk_g (n f v : Int) (s : ByteArray) (ao : Option Addr) (ca : Nat) (xs : List Int) (w : World) (hs : s.size ≤ 1048576) (ha : RI w (.slice ao xs.length ca) xs) (hc : decide (COk n f) = true) (hn : (stepsAns s).isSome = true) (hv : viewAns s = v) (he : s ≠ ⟨#[]⟩) (ho : decide (OkL n xs) = true) (hq : ¬ quorumOf n f ≤ (xs.length : Int)) :
 Calls Tryz.prog 96 #[cv n f, qv v s (.slice ao xs.length ca)] w fun e w' => e = .returned (.bool (false)) ∧ Below w.heap.size w w' := by
 have CO:=hide fun w => specConfOk n f w
 have NO:=hide fun w => specNameOk s w (by omega)
 have VO:=hide fun w => specViewOf s w (by omega)
 have QU:=hide fun w => specQuorum n f w
 have SO:=hide fun w h => specSetOk n (.slice ao xs.length ca) xs w h
 obtain ⟨w0, hw0⟩ : ∃ w0, (w.alloc (.cells #[.int .i64 n,.int .i64 f] 39)).alloc (.cells #[.int .i64 v,.string s,.slice ao xs.length ca] 41) = w0:=⟨_, rfl⟩
 have B0 : Below w.heap.size w w0:=hw0 ▸ qalloc2 _ _ _
 have C0 : Loc w0 w.heap.size #[.int .i64 n,.int .i64 f]:=hw0 ▸ (loc_at w _ _ rfl).alloc _
 have G0 : Loc w0 (w.heap.size + 1) #[.int .i64 v,.string s,.slice ao xs.length ca]:=hw0 ▸ loc_at (w.alloc _) _ _ (by simp)
 have HA:=hide (ha.below B0)
 have K : Hid (∀ w', Below w0.heap.size w0 w' → (fun w' => Below w0.heap.size w0 w' ∧ (w'.cell? ⟨w.heap.size, 0, none⟩ = some (.int .i64 n) ∧ w'.cell? ⟨w.heap.size, 1, none⟩ = some (.int .i64 f)) ∧ (w'.cell? ⟨w.heap.size + 1, 0, none⟩ = some (.int .i64 v) ∧ w'.cell? ⟨w.heap.size + 1, 1, none⟩ = some (.string s) ∧ w'.cell? ⟨w.heap.size + 1, 2, none⟩ = some (.slice ao xs.length ca))) w'):=hide fun w' hb' => ⟨hb', ⟨(C0.up hb').cell 0 rfl, (C0.up hb').cell 1 rfl⟩, ⟨(G0.up hb').cell 0 rfl, (G0.up hb').cell 1 rfl, (G0.up hb').cell 2 rfl⟩⟩
 rw [hc] at CO
 rw [hn] at NO
 rw [hv] at VO
 rw [ho] at SO
 clear hc hn hv ho
 generalize quorumOf n f = qu at *
 have hne:=ne2 he
 obtain ⟨m, hm⟩ : ∃ m, xs.length = m:=⟨_, rfl⟩
 rw [hm] at K HA SO hw0 hq ⊢
 clear hm
 have d4 : decide (qu ≤ (m : Int)) = false:=by simpa using hq
 clear ha G0 C0
 go_enter Tryz.func96, Tryz.ntmps96
 go_upto_region 1 with fail
 clear hw0
 have bA : Below w0.heap.size w0 w0.drew:=Below.drew (Below.refl _ _)
 refine wp_region_noPanic ?_
 refine wp_region_held_drew (S := fun w' => Below w0.heap.size w0 w' ∧ (w'.cell? ⟨w.heap.size, 0, none⟩ = some (.int .i64 n) ∧ w'.cell? ⟨w.heap.size, 1, none⟩ = some (.int .i64 f)) ∧ (w'.cell? ⟨w.heap.size + 1, 0, none⟩ = some (.int .i64 v) ∧ w'.cell? ⟨w.heap.size + 1, 1, none⟩ = some (.string s) ∧ w'.cell? ⟨w.heap.size + 1, 2, none⟩ = some (.slice ao m ca))) (by kernel_rfl) (K.out _ bA) (fun hHeld => ?_)
 refine' tj 0 5 rfl ?_ ?_;rotate_left
 ·intro w h;go_simp;try rfl
 simp only [pU]
 refine rd 1 rfl (fun KK hKK => ?_)
 go_simp
 have hgo:=bA
 refine (CO.out _).mono ?_
 rintro e wy1 ⟨rfl, bb⟩
 have bB : Below w0.heap.size w0 wy1:=bu bA bb
 clear bA hgo bb
 clear hHeld
 refine hKK.out _ _ (K.out _ bB) (fun hHeld => ?_)
 clear hKK KK
 refine' tj 2 7 rfl ?_ ?_;rotate_left
 ·intro w h;go_simp;try rfl
 simp only [pU]
 refine' tj 3 8 rfl ?_ ?_;rotate_left
 ·intro w h;go_simp;try rfl
 simp only [pU]
 refine' tj 4 9 rfl ?_ ?_;rotate_left
 ·intro w h;go_simp;try rfl
 simp only [pU]
 refine' tj 5 10 rfl ?_ ?_;rotate_left
 ·intro w h;go_simp;try rfl
 simp only [pU]
 refine rd 6 rfl (fun KK hKK => ?_)
 go_simp
 have hgo:=bB
 refine (NO.out _).mono ?_
 rintro e wy2 ⟨rfl, bb⟩
 have bC : Below w0.heap.size w0 wy2:=bu bB bb
 clear bB hgo bb
 clear hHeld
 refine hKK.out _ _ (K.out _ bC) (fun hHeld => ?_)
 clear hKK KK
 refine' tj 7 12 rfl ?_ ?_;rotate_left
 ·intro w h;go_simp;try rfl
 simp only [pU]
 refine' tj 8 13 rfl ?_ ?_;rotate_left
 ·intro w h;go_simp;try rfl
 simp only [pU]
 refine' tj 9 14 rfl ?_ ?_;rotate_left
 ·intro w h;go_simp;try rfl
 simp only [pU]
 refine' tj 10 15 rfl ?_ ?_;rotate_left
 ·intro w h;go_simp;try rfl
 simp only [pU]
 refine' tj 11 16 rfl ?_ ?_;rotate_left
 ·intro w h;go_simp;try rfl
 simp only [pU]
 refine' tj 13 18 rfl ?_ ?_;rotate_left
 ·intro w h;go_simp;try rfl
 simp only [pU]
 refine' tj 14 19 rfl ?_ ?_;rotate_left
 ·intro w h;go_simp;try rfl
 simp only [pU]
 refine rd 12 rfl (fun KK hKK => ?_)
 go_simp
 have hgo:=bC
 refine (VO.out _).mono ?_
 rintro e wy3 ⟨rfl, bb⟩
 have bD : Below w0.heap.size w0 wy3:=bu bC bb
 clear bC hgo bb
 clear hHeld
 refine hKK.out _ _ (K.out _ bD) (fun hHeld => ?_)
 clear hKK KK
 refine' tj 15 20 rfl ?_ ?_;rotate_left
 ·intro w h;go_simp;try rfl
 simp only [pU]
 refine' tj 16 21 rfl ?_ ?_;rotate_left
 ·intro w h;go_simp;try rfl
 simp only [pU]
 clear hHeld
 refine wdn ?_
 have B1 : Below w.heap.size w wy3:=bu B0 bD
 have K1:=K.out _ bD
 try dsimp only at K1
 obtain ⟨_, ⟨c0, c1⟩, ⟨g0, g1, g2⟩⟩:=K1
 have K5 : Hid (∀ w', Below wy3.heap.size wy3 w' → (fun w' => Below wy3.heap.size wy3 w' ∧ (w'.cell? ⟨w.heap.size, 0, none⟩ = some (.int .i64 n) ∧ w'.cell? ⟨w.heap.size, 1, none⟩ = some (.int .i64 f)) ∧ (w'.cell? ⟨w.heap.size + 1, 0, none⟩ = some (.int .i64 v) ∧ w'.cell? ⟨w.heap.size + 1, 1, none⟩ = some (.string s) ∧ w'.cell? ⟨w.heap.size + 1, 2, none⟩ = some (.slice ao m ca))) w'):=hide fun w' hb' => ⟨hb', (K.out _ (bD.trans (hb'.mono bD.size))).2⟩
 have HA5:=hide (HA.out.below bD)
 clear NO VO CO K HA he
 go_upto_region 5 with fail
 clear c0 c1 g0 g1 g2
 have bA : Below wy3.heap.size wy3 wy3.drew:=Below.drew (Below.refl _ _)
 refine wp_region_noPanic ?_
 refine wp_region_held_drew (S := fun w' => Below wy3.heap.size wy3 w' ∧ (w'.cell? ⟨w.heap.size, 0, none⟩ = some (.int .i64 n) ∧ w'.cell? ⟨w.heap.size, 1, none⟩ = some (.int .i64 f)) ∧ (w'.cell? ⟨w.heap.size + 1, 0, none⟩ = some (.int .i64 v) ∧ w'.cell? ⟨w.heap.size + 1, 1, none⟩ = some (.string s) ∧ w'.cell? ⟨w.heap.size + 1, 2, none⟩ = some (.slice ao m ca))) (by kernel_rfl) (K5.out _ bA) (fun hHeld => ?_)
 refine' tj 0 29 rfl ?_ ?_;rotate_left
 ·intro w h;go_simp;try rfl
 simp only [pU]
 refine' tj 1 30 rfl ?_ ?_;rotate_left
 ·intro w h;go_simp;try rfl
 simp only [pU]
 refine' tj 2 31 rfl ?_ ?_;rotate_left
 ·intro w h;go_simp;try rfl
 simp only [pU]
 refine' tj 3 32 rfl ?_ ?_;rotate_left
 ·intro w h;go_simp;try rfl
 simp only [pU]
 refine rd 4 rfl (fun KK hKK => ?_)
 go_simp
 have hgo:=bA
 refine (SO.out _ (HA5.out.below hgo)).mono ?_
 rintro e wy5 ⟨rfl, bb⟩
 have bF : Below wy3.heap.size wy3 wy5:=bu bA bb
 clear bA hgo bb
 clear hHeld
 refine hKK.out _ _ (K5.out _ bF) (fun hHeld => ?_)
 clear hKK KK
 refine' tj 5 34 rfl ?_ ?_;rotate_left
 ·intro w h;go_simp;try rfl
 simp only [pU]
 refine' tj 6 35 rfl ?_ ?_;rotate_left
 ·intro w h;go_simp;try rfl
 simp only [pU]
 refine' tj 7 36 rfl ?_ ?_;rotate_left
 ·intro w h;go_simp;try rfl
 simp only [pU]
 refine' tj 8 37 rfl ?_ ?_;rotate_left
 ·intro w h;go_simp;try rfl
 simp only [pU]
 refine' tj 9 38 rfl ?_ ?_;rotate_left
 ·intro w h;go_simp;try rfl
 simp only [pU]
 refine rd 10 rfl (fun KK hKK => ?_)
 go_simp
 have hgo:=bF
 refine (QU.out _).mono ?_
 rintro e wy6 ⟨rfl, bb⟩
 have bG : Below wy3.heap.size wy3 wy6:=bu bF bb
 clear bF hgo bb
 clear hHeld
 refine hKK.out _ _ (K5.out _ bG) (fun hHeld => ?_)
 clear hKK KK
 refine' tj 11 40 rfl ?_ ?_;rotate_left
 ·intro w h;go_simp;try rfl
 simp only [pU]
 refine' tj 12 41 rfl ?_ ?_;rotate_left
 ·intro w h;go_simp;try rfl
 simp only [pU]
 refine' tj 13 4 rfl ?_ ?_;rotate_left
 ·intro w h;go_simp;try rfl
 simp only [pU]
 clear hHeld
 refine wdn ?_
 go_wp2
 go_ret
 exact ⟨rfl, bu B1 bG⟩

theorem specQcOk (n f v : Int) (s : ByteArray) (ao : Option Addr) (ca : Nat) (xs : List Int) (w : World) (hs : s.size ≤ 1048576) (ha : RI w (.slice ao xs.length ca) xs) :
 Calls Tryz.prog 96 #[cv n f, qv v s (.slice ao xs.length ca)] w fun e w' => e = .returned (.bool (qokB n f v s xs)) ∧ Below w.heap.size w w' := by
 unfold qokB
 have hxe : decide (xs = []) = ((xs.length : Int) == 0):=by cases xs with | nil => rfl | cons a l => simp; omega
 rw [hxe]
 clear hxe
 cases hc : decide (COk n f) with
 | false => simpa using specQcOk_a n f v s ao ca xs w hs ha hc
 | true =>
  cases hn : (stepsAns s).isSome with
  | false => simpa using specQcOk_b n f v s ao ca xs w hs ha hc hn
  | true =>
   by_cases hv : viewAns s = v
   ·have d2 : (viewAns s == v) = true:=by simpa using hv
    rw [d2]
    by_cases he : s = ⟨#[]⟩
    ·rw [if_pos he]; simpa only [Bool.true_and] using specQcOk_d n f v s ao ca xs w hs ha hc hn hv he
    ·rw [if_neg he]
     cases ho : decide (OkL n xs) with
     | false => simpa only [Bool.true_and, Bool.false_and] using specQcOk_e n f v s ao ca xs w hs ha hc hn hv he ho
     | true =>
      by_cases hq : quorumOf n f ≤ (xs.length : Int)
      ·rw [decide_eq_true hq]; simpa only [Bool.true_and] using specQcOk_f n f v s ao ca xs w hs ha hc hn hv he ho hq
      ·rw [decide_eq_false hq]; simpa only [Bool.true_and] using specQcOk_g n f v s ao ca xs w hs ha hc hn hv he ho hq
   ·have d2 : (viewAns s == v) = false:=by simpa using hv
    rw [d2]; simpa only [Bool.true_and, Bool.false_and] using specQcOk_c n f v s ao ca xs w hs ha hc hn hv
end Go.Proofs.YtndpjhiidmdlhaaGreatDoor
namespace Go.Proofs.YtndpjhiidmdlhaaGreatDoor
open Go.RowKit

structure SCode (w : World) (ao : Option Addr) (xs : List Int) : Prop where
 len : xs.length ≤ 1048576
 code : xs = [] ∨ ∃ b off, ao = some ⟨b, off, none⟩ ∧ ∀ k, k < xs.length → w.cell? ⟨b, off + k, none⟩ = some (.int .u8 (xs.getD k 0))
 fit : ∀ k, k < xs.length → 0 ≤ xs.getD k 0 ∧ xs.getD k 0 ≤ 255
theorem SCode.below {w w' : World} {ao : Option Addr} {xs : List Int} (h : SCode w ao xs) (hb : Below w.heap.size w w') : SCode w' ao xs := by
 refine ⟨h.len, ?_, h.fit⟩
 rcases h.code with h' | ⟨b, off, ha, hx⟩
 ·exact .inl h'
 ·exact .inr ⟨b, off, ha, fun k hk => (hb.cell (p := ⟨b, off + k, none⟩) (cell_lt (hx k hk))).trans (hx k hk)⟩

theorem WfL.sub {xs ys : List Int} (h : WfL xs) (hs : ∀ y ∈ ys, y ∈ xs) : WfL ys := fun y hy => h y (hs y hy)
end Go.Proofs.YtndpjhiidmdlhaaGreatDoor
namespace Go.Proofs.YtndpjhiidmdlhaaGreatDoor
open Go.RowKit
set_option linter.unusedSectionVars false
variable [∀ (a b c d : Int), Decidable (Ok4 a b c d)]
variable [∀ (a b c d : Nat), Decidable (okN a b c d)]
variable [∀ (last : Int) (s : St), Decidable (GoodSt last s)]
variable [∀ (x : T4), Decidable (OkT x)]
variable [∀ (n : Int) (s : List Int), Decidable (OkL n s)]
variable [∀ (n f : Int), Decidable (COk n f)]

theorem steps_nil : stepsAns ⟨#[]⟩ = some [] := by simp [stepsAns]
theorem view_nil : viewAns ⟨#[]⟩ = 0 := by simp [viewAns, steps_nil]
theorem view_none {s : ByteArray} (h : (stepsAns s).isSome = false) : viewAns s = 0 := by
 cases e : stepsAns s with
 | none => simp [viewAns, e]
 | some ss => rw [e] at h; cases h
theorem view_pos {s : ByteArray} (h : (stepsAns s).isSome = true) (hs : s ≠ ⟨#[]⟩) : 0 < viewAns s := by
 obtain ⟨ss, e⟩:=Option.isSome_iff_exists.1 h
 have h1:=(height_view (s:=s)).1
 unfold heightAns at h1
 rw [e] at h1
 have hne : ss ≠ []:=by
  rintro rfl
  have:=((names_iff _ _).1 e).1
  exact hs (ba_ext (by simpa [nm] using this))
 have:=List.length_pos_iff.2 hne
 simp only at h1
 omega
theorem qok_eq (n f v : Int) (s : ByteArray) (xs : List Int) : (decide (COk n f) && (alikeB v 0 s ⟨#[]⟩ xs [] || votedB n f v s xs)) = qokB n f v s xs := by
 unfold qokB votedB alikeB
 by_cases hc : COk n f
 ·simp only [hc, decide_true, Bool.true_and]
  by_cases hs : s = ⟨#[]⟩
  ·subst hs
   rw [steps_nil, view_nil]
   by_cases hv : v = 0
   ·subst hv
    simp
   ·have h1 : (v == 0) = false:=by simpa using hv
    have h2 : ((0 : Int) == v) = false:=by simp; omega
    simp [h1, h2, hv]
  ·simp only [hs, false_and, and_false, decide_false, Bool.false_or, if_false]
   cases hn : (stepsAns s).isSome with
   | false =>
    rw [view_none hn]
    by_cases hv : v = 0
    ·subst hv; simp
    ·have h1 : (v == 0) = false:=by simpa using hv
     simp [h1]
   | true =>
    have hp:=view_pos hn hs
    by_cases hv : v = viewAns s
    ·subst hv
     have h1 : decide (0 < viewAns s) = true:=by simpa using hp
     simp only [h1, beq_self_eq_true, Bool.true_and]
     rw [Bool.and_comm]
    ·have h1 : (v == viewAns s) = false:=by simpa using hv
     have h2 : (viewAns s == v) = false:=by simp; omega
     simp [h1, h2]
 ·simp [hc]
theorem implQcOk (n f v : Int) (s : ByteArray) (ao : Option Addr) (ca : Nat) (xs : List Int) (w : World) (hs : s.size ≤ 33554432) (hE : Env w) (ha : RI w (.slice ao xs.length ca) xs) :
 Calls Tryz.prog 108 #[cv n f, qv v s (.slice ao xs.length ca)] w fun e w' => e = .returned (.bool (qokB n f v s xs)) ∧ Below w.heap.size w w' := by
 have:=implQcOk_at n f v s ao ca xs w hs hE ha
 rwa [qok_eq] at this

theorem qok_has {n f v : Int} {s : ByteArray} {xs : List Int} (h : qokB n f v s xs = true) (hs : s ≠ ⟨#[]⟩) : COk n f ∧ OkL n xs ∧ n - (n - 1) / 3 ≤ (xs.length : Int) := by
 unfold qokB at h
 simp only [hs, if_false, Bool.and_eq_true, decide_eq_true_eq] at h
 obtain ⟨⟨⟨hc, _⟩, _⟩, ho, hl⟩:=h
 exact ⟨hc, ho, by simpa [quorumOf, hc] using hl⟩

def bokB (n f : Int) (m : ByteArray) (v : Int) (s : ByteArray) (xs : List Int) : Bool := qokB n f v s xs && decide (0 < heightAns m) && decide (upAns m = s)
theorem height_pos (m : ByteArray) : decide (0 < heightAns m) = ((stepsAns m).isSome && decide (m ≠ ⟨#[]⟩)) := by
 unfold heightAns
 cases e : stepsAns m with
 | none => simp
 | some ss =>
  have h:=((names_iff _ _).1 e).1
  by_cases hm : m = ⟨#[]⟩
  ·subst hm
   rw [steps_nil] at e
   cases e
   simp
  ·have hne : ss ≠ []:=by
    rintro rfl
    exact hm (ba_ext (by simpa [nm] using h))
   have:=List.length_pos_iff.2 hne
   simp [hm]
   omega
end Go.Proofs.YtndpjhiidmdlhaaGreatDoor
namespace Go.Proofs.YtndpjhiidmdlhaaGreatDoor
open Go.RowKit
set_option linter.unusedSectionVars false
variable [∀ (a b c d : Int), Decidable (Ok4 a b c d)]
variable [∀ (a b c d : Nat), Decidable (okN a b c d)]
variable [∀ (x : T4), Decidable (OkT x)]

theorem OT.grown {w w' : World} {base g : Nat} {v : Value} {xs : List T4} (h : OT w base v xs) (hg : w.grownBy w' (some g)) (hlt : g < base) : OT w' base v xs :=
 World.ownsRow.kept h hg (by
  cases hv : v.ownBlock with
  | none => exact .inl rfl
  | some k => exact .inr fun e => by have := (World.ownsRow.lt h k hv).1; simp at e; omega)
end Go.Proofs.YtndpjhiidmdlhaaGreatDoor
