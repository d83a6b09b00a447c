/- Lemmas, as stated. -/
import Derived.Test.YtjdchloechcclaaGreatDoorSNAX
set_option maxRecDepth 100000
set_option maxHeartbeats 16000000
set_option linter.unusedSectionVars false
namespace Go.Proofs.YtjdchloechcclaaGreatDoor
section
open Go.RowKit
variable [∀ (a b c d : Int), Decidable (Ok4 a b c d)]
variable [∀ (a b c d : Nat), Decidable (okN a b c d)]
variable [∀ (last : Int) (s : St), Decidable (GoodSt last s)]
variable [∀ (x : T4), Decidable (OkT x)]
variable [∀ (n : Int) (s : List Int), Decidable (OkL n s)]
variable [∀ (n f : Int), Decidable (COk n f)]
def qokB (n f v : Int) (s : ByteArray) (xs : List Int) : Bool := decide (COk n f) && (stepsAns s).isSome && (viewAns s == v) && (if s = ⟨#[]⟩ then decide (xs = []) else decide (OkL n xs) && decide (quorumOf n f ≤ (xs.length : Int)))

theorem specQcOk_a (n f v : Int) (s : ByteArray) (ao : Option Addr) (ca : Nat) (xs : List Int) (w : World) (hs : s.size ≤ 1048576) (ha : RI w (.slice ao xs.length ca) xs) (hc : decide (COk n f) = false) :
 Calls Tryz.prog 128 #[cv n f, qv v s (.slice ao xs.length ca)] w fun e w' => e = .returned (.bool (false)) ∧ Below w.heap.size w w' := by
 have CO:=hide fun w => specConfOk n f w
 have NO:=hide fun w => specNameOk s w (by omega)
 have VO:=hide fun w => specViewOf s w (by omega)
 have QU:=hide fun w => specQuorum n f w
 have SO:=hide fun w h => specSetOk n (.slice ao xs.length ca) xs w h
 obtain ⟨w0, hw0⟩ : ∃ w0, (w.alloc (.cells #[.int .i64 n,.int .i64 f] 49)).alloc (.cells #[.int .i64 v,.string s,.slice ao xs.length ca] 38) = w0:=⟨_, rfl⟩
 have B0 : Below w.heap.size w w0:=hw0 ▸ qalloc2 _ _ _
 have C0 : Loc w0 w.heap.size #[.int .i64 n,.int .i64 f]:=hw0 ▸ (loc_at w _ _ rfl).alloc _
 have G0 : Loc w0 (w.heap.size + 1) #[.int .i64 v,.string s,.slice ao xs.length ca]:=hw0 ▸ loc_at (w.alloc _) _ _ (by simp)
 have HA:=hide (ha.below B0)
 have K:=kw (ka (kc2 C0 0 1) (kc3 G0 0 1 2))
 rw [hc] at CO
 clear hc NO VO QU SO
 obtain ⟨m, hm⟩ : ∃ m, xs.length = m:=⟨_, rfl⟩
 rw [hm] at K HA hw0 ⊢
 clear hm ha G0 C0
 go_enter Tryz.func128, Tryz.ntmps128
 go_upto_region 1 with fail
 clear hw0
 have bA : Below w0.heap.size w0 w0.drew:=Below.drew (Below.refl _ _)
 refine wp_region_noPanic ?_
 refine wp_region_held_drew (S := fun w' => Below w0.heap.size w0 w' ∧ (w'.cell? ⟨w.heap.size, 0, none⟩ = some (.int .i64 n) ∧ w'.cell? ⟨w.heap.size, 1, none⟩ = some (.int .i64 f)) ∧ (w'.cell? ⟨w.heap.size + 1, 0, none⟩ = some (.int .i64 v) ∧ w'.cell? ⟨w.heap.size + 1, 1, none⟩ = some (.string s) ∧ w'.cell? ⟨w.heap.size + 1, 2, none⟩ = some (.slice ao m ca))) (by kernel_rfl) (K.out _ bA) (fun hHeld => ?_)
 refine tx 0 5 ?_
 refine rd 1 rfl (fun KK hKK => ?_)
 go_simp
 have hgo:=bA
 refine (CO.out _).mono ?_
 rintro e wy1 ⟨rfl, bb⟩
 have bB : Below w0.heap.size w0 wy1:=bu bA bb
 clear bA hgo bb hHeld
 refine hKK.out _ _ (K.out _ bB) (fun hHeld => ?_)
 clear hKK KK
 refine tx 2 7 ?_
 refine tx 3 8 ?_
 refine sx 4 9 ?_
 refine sx 5 10 ?_
 refine sx 6 11 ?_
 refine sx 7 12 ?_
 refine tx 8 13 ?_
 refine tx 9 14 ?_
 refine sx 10 15 ?_
 refine sx 11 16 ?_
 refine sx 12 17 ?_
 refine sx 13 18 ?_
 refine sx 14 19 ?_
 refine sx 15 20 ?_
 refine tx 16 21 ?_
 clear hHeld
 refine wdn ?_
 go_wp2
 go_ret
 exact ⟨rfl, bu B0 bB⟩

theorem specQcOk_b (n f v : Int) (s : ByteArray) (ao : Option Addr) (ca : Nat) (xs : List Int) (w : World) (hs : s.size ≤ 1048576) (ha : RI w (.slice ao xs.length ca) xs) (hc : decide (COk n f) = true) (hn : (stepsAns s).isSome = false) :
 Calls Tryz.prog 128 #[cv n f, qv v s (.slice ao xs.length ca)] w fun e w' => e = .returned (.bool (false)) ∧ Below w.heap.size w w' := by
 have CO:=hide fun w => specConfOk n f w
 have NO:=hide fun w => specNameOk s w (by omega)
 have VO:=hide fun w => specViewOf s w (by omega)
 have QU:=hide fun w => specQuorum n f w
 have SO:=hide fun w h => specSetOk n (.slice ao xs.length ca) xs w h
 obtain ⟨w0, hw0⟩ : ∃ w0, (w.alloc (.cells #[.int .i64 n,.int .i64 f] 49)).alloc (.cells #[.int .i64 v,.string s,.slice ao xs.length ca] 38) = w0:=⟨_, rfl⟩
 have B0 : Below w.heap.size w w0:=hw0 ▸ qalloc2 _ _ _
 have C0 : Loc w0 w.heap.size #[.int .i64 n,.int .i64 f]:=hw0 ▸ (loc_at w _ _ rfl).alloc _
 have G0 : Loc w0 (w.heap.size + 1) #[.int .i64 v,.string s,.slice ao xs.length ca]:=hw0 ▸ loc_at (w.alloc _) _ _ (by simp)
 have HA:=hide (ha.below B0)
 have K:=kw (ka (kc2 C0 0 1) (kc3 G0 0 1 2))
 rw [hc] at CO
 rw [hn] at NO
 clear hc hn VO QU SO
 obtain ⟨m, hm⟩ : ∃ m, xs.length = m:=⟨_, rfl⟩
 rw [hm] at K HA hw0 ⊢
 clear hm ha G0 C0
 go_enter Tryz.func128, Tryz.ntmps128
 go_upto_region 1 with fail
 clear hw0
 have bA : Below w0.heap.size w0 w0.drew:=Below.drew (Below.refl _ _)
 refine wp_region_noPanic ?_
 refine wp_region_held_drew (S := fun w' => Below w0.heap.size w0 w' ∧ (w'.cell? ⟨w.heap.size, 0, none⟩ = some (.int .i64 n) ∧ w'.cell? ⟨w.heap.size, 1, none⟩ = some (.int .i64 f)) ∧ (w'.cell? ⟨w.heap.size + 1, 0, none⟩ = some (.int .i64 v) ∧ w'.cell? ⟨w.heap.size + 1, 1, none⟩ = some (.string s) ∧ w'.cell? ⟨w.heap.size + 1, 2, none⟩ = some (.slice ao m ca))) (by kernel_rfl) (K.out _ bA) (fun hHeld => ?_)
 refine tx 0 5 ?_
 refine rd 1 rfl (fun KK hKK => ?_)
 go_simp
 have hgo:=bA
 refine (CO.out _).mono ?_
 rintro e wy1 ⟨rfl, bb⟩
 have bB : Below w0.heap.size w0 wy1:=bu bA bb
 clear bA hgo bb hHeld
 refine hKK.out _ _ (K.out _ bB) (fun hHeld => ?_)
 clear hKK KK
 refine tx 2 7 ?_
 refine tx 3 8 ?_
 refine tx 4 9 ?_
 refine tx 5 10 ?_
 refine rd 6 rfl (fun KK hKK => ?_)
 go_simp
 have hgo:=bB
 refine (NO.out _).mono ?_
 rintro e wy2 ⟨rfl, bb⟩
 have bC : Below w0.heap.size w0 wy2:=bu bB bb
 clear bB hgo bb hHeld
 refine hKK.out _ _ (K.out _ bC) (fun hHeld => ?_)
 clear hKK KK
 refine tx 7 12 ?_
 refine tx 8 13 ?_
 refine tx 9 14 ?_
 refine sx 10 15 ?_
 refine sx 11 16 ?_
 refine sx 12 17 ?_
 refine sx 13 18 ?_
 refine sx 14 19 ?_
 refine sx 15 20 ?_
 refine tx 16 21 ?_
 clear hHeld
 refine wdn ?_
 go_wp2
 go_ret
 exact ⟨rfl, bu B0 bC⟩

theorem specQcOk_c (n f v : Int) (s : ByteArray) (ao : Option Addr) (ca : Nat) (xs : List Int) (w : World) (hs : s.size ≤ 1048576) (ha : RI w (.slice ao xs.length ca) xs) (hc : decide (COk n f) = true) (hn : (stepsAns s).isSome = true) (hv : viewAns s ≠ v) :
 Calls Tryz.prog 128 #[cv n f, qv v s (.slice ao xs.length ca)] w fun e w' => e = .returned (.bool (false)) ∧ Below w.heap.size w w' := by
 have CO:=hide fun w => specConfOk n f w
 have NO:=hide fun w => specNameOk s w (by omega)
 have VO:=hide fun w => specViewOf s w (by omega)
 have QU:=hide fun w => specQuorum n f w
 have SO:=hide fun w h => specSetOk n (.slice ao xs.length ca) xs w h
 obtain ⟨w0, hw0⟩ : ∃ w0, (w.alloc (.cells #[.int .i64 n,.int .i64 f] 49)).alloc (.cells #[.int .i64 v,.string s,.slice ao xs.length ca] 38) = w0:=⟨_, rfl⟩
 have B0 : Below w.heap.size w w0:=hw0 ▸ qalloc2 _ _ _
 have C0 : Loc w0 w.heap.size #[.int .i64 n,.int .i64 f]:=hw0 ▸ (loc_at w _ _ rfl).alloc _
 have G0 : Loc w0 (w.heap.size + 1) #[.int .i64 v,.string s,.slice ao xs.length ca]:=hw0 ▸ loc_at (w.alloc _) _ _ (by simp)
 have HA:=hide (ha.below B0)
 have K:=kw (ka (kc2 C0 0 1) (kc3 G0 0 1 2))
 rw [hc] at CO
 rw [hn] at NO
 clear hc hn QU SO
 generalize viewAns s = q at *
 have d2 : (q == v) = false:=by simpa using hv
 obtain ⟨m, hm⟩ : ∃ m, xs.length = m:=⟨_, rfl⟩
 rw [hm] at K HA hw0 ⊢
 clear hm ha G0 C0
 go_enter Tryz.func128, Tryz.ntmps128
 go_upto_region 1 with fail
 clear hw0
 have bA : Below w0.heap.size w0 w0.drew:=Below.drew (Below.refl _ _)
 refine wp_region_noPanic ?_
 refine wp_region_held_drew (S := fun w' => Below w0.heap.size w0 w' ∧ (w'.cell? ⟨w.heap.size, 0, none⟩ = some (.int .i64 n) ∧ w'.cell? ⟨w.heap.size, 1, none⟩ = some (.int .i64 f)) ∧ (w'.cell? ⟨w.heap.size + 1, 0, none⟩ = some (.int .i64 v) ∧ w'.cell? ⟨w.heap.size + 1, 1, none⟩ = some (.string s) ∧ w'.cell? ⟨w.heap.size + 1, 2, none⟩ = some (.slice ao m ca))) (by kernel_rfl) (K.out _ bA) (fun hHeld => ?_)
 refine tx 0 5 ?_
 refine rd 1 rfl (fun KK hKK => ?_)
 go_simp
 have hgo:=bA
 refine (CO.out _).mono ?_
 rintro e wy1 ⟨rfl, bb⟩
 have bB : Below w0.heap.size w0 wy1:=bu bA bb
 clear bA hgo bb hHeld
 refine hKK.out _ _ (K.out _ bB) (fun hHeld => ?_)
 clear hKK KK
 refine tx 2 7 ?_
 refine tx 3 8 ?_
 refine tx 4 9 ?_
 refine tx 5 10 ?_
 refine rd 6 rfl (fun KK hKK => ?_)
 go_simp
 have hgo:=bB
 refine (NO.out _).mono ?_
 rintro e wy2 ⟨rfl, bb⟩
 have bC : Below w0.heap.size w0 wy2:=bu bB bb
 clear bB hgo bb hHeld
 refine hKK.out _ _ (K.out _ bC) (fun hHeld => ?_)
 clear hKK KK
 refine tx 7 12 ?_
 refine tx 8 13 ?_
 refine tx 9 14 ?_
 refine tx 10 15 ?_
 refine tx 11 16 ?_
 refine tx 13 18 ?_
 refine tx 14 19 ?_
 refine rd 12 rfl (fun KK hKK => ?_)
 go_simp
 have hgo:=bC
 refine (VO.out _).mono ?_
 rintro e wy3 ⟨rfl, bb⟩
 have bD : Below w0.heap.size w0 wy3:=bu bC bb
 clear bC hgo bb hHeld
 refine hKK.out _ _ (K.out _ bD) (fun hHeld => ?_)
 clear hKK KK
 refine tx 15 20 ?_
 refine tx 16 21 ?_
 clear hHeld
 refine wdn ?_
 go_wp2
 go_ret
 exact ⟨rfl, bu B0 bD⟩

theorem specQcOk_d (n f v : Int) (s : ByteArray) (ao : Option Addr) (ca : Nat) (xs : List Int) (w : World) (hs : s.size ≤ 1048576) (ha : RI w (.slice ao xs.length ca) xs) (hc : decide (COk n f) = true) (hn : (stepsAns s).isSome = true) (hv : viewAns s = v) (he : s = ⟨#[]⟩) :
 Calls Tryz.prog 128 #[cv n f, qv v s (.slice ao xs.length ca)] w fun e w' => e = .returned (.bool (((xs.length : Int) == 0))) ∧ Below w.heap.size w w' := by
 have CO:=hide fun w => specConfOk n f w
 have NO:=hide fun w => specNameOk s w (by omega)
 have VO:=hide fun w => specViewOf s w (by omega)
 have QU:=hide fun w => specQuorum n f w
 have SO:=hide fun w h => specSetOk n (.slice ao xs.length ca) xs w h
 obtain ⟨w0, hw0⟩ : ∃ w0, (w.alloc (.cells #[.int .i64 n,.int .i64 f] 49)).alloc (.cells #[.int .i64 v,.string s,.slice ao xs.length ca] 38) = w0:=⟨_, rfl⟩
 have B0 : Below w.heap.size w w0:=hw0 ▸ qalloc2 _ _ _
 have C0 : Loc w0 w.heap.size #[.int .i64 n,.int .i64 f]:=hw0 ▸ (loc_at w _ _ rfl).alloc _
 have G0 : Loc w0 (w.heap.size + 1) #[.int .i64 v,.string s,.slice ao xs.length ca]:=hw0 ▸ loc_at (w.alloc _) _ _ (by simp)
 have HA:=hide (ha.below B0)
 have K:=kw (ka (kc2 C0 0 1) (kc3 G0 0 1 2))
 rw [hc] at CO
 rw [hn] at NO
 rw [hv] at VO
 have hE : (s.toList == []) = true:=by rw [he, ByteArray.toList_eq]; rfl
 clear hc hn hv he QU SO
 obtain ⟨m, hm⟩ : ∃ m, xs.length = m:=⟨_, rfl⟩
 rw [hm] at K HA hw0 ⊢
 clear hm ha G0 C0
 go_enter Tryz.func128, Tryz.ntmps128
 go_upto_region 1 with fail
 clear hw0
 have bA : Below w0.heap.size w0 w0.drew:=Below.drew (Below.refl _ _)
 refine wp_region_noPanic ?_
 refine wp_region_held_drew (S := fun w' => Below w0.heap.size w0 w' ∧ (w'.cell? ⟨w.heap.size, 0, none⟩ = some (.int .i64 n) ∧ w'.cell? ⟨w.heap.size, 1, none⟩ = some (.int .i64 f)) ∧ (w'.cell? ⟨w.heap.size + 1, 0, none⟩ = some (.int .i64 v) ∧ w'.cell? ⟨w.heap.size + 1, 1, none⟩ = some (.string s) ∧ w'.cell? ⟨w.heap.size + 1, 2, none⟩ = some (.slice ao m ca))) (by kernel_rfl) (K.out _ bA) (fun hHeld => ?_)
 refine tx 0 5 ?_
 refine rd 1 rfl (fun KK hKK => ?_)
 go_simp
 have hgo:=bA
 refine (CO.out _).mono ?_
 rintro e wy1 ⟨rfl, bb⟩
 have bB : Below w0.heap.size w0 wy1:=bu bA bb
 clear bA hgo bb hHeld
 refine hKK.out _ _ (K.out _ bB) (fun hHeld => ?_)
 clear hKK KK
 refine tx 2 7 ?_
 refine tx 3 8 ?_
 refine tx 4 9 ?_
 refine tx 5 10 ?_
 refine rd 6 rfl (fun KK hKK => ?_)
 go_simp
 have hgo:=bB
 refine (NO.out _).mono ?_
 rintro e wy2 ⟨rfl, bb⟩
 have bC : Below w0.heap.size w0 wy2:=bu bB bb
 clear bB hgo bb hHeld
 refine hKK.out _ _ (K.out _ bC) (fun hHeld => ?_)
 clear hKK KK
 refine tx 7 12 ?_
 refine tx 8 13 ?_
 refine tx 9 14 ?_
 refine tx 10 15 ?_
 refine tx 11 16 ?_
 refine tx 13 18 ?_
 refine tx 14 19 ?_
 refine rd 12 rfl (fun KK hKK => ?_)
 go_simp
 have hgo:=bC
 refine (VO.out _).mono ?_
 rintro e wy3 ⟨rfl, bb⟩
 have bD : Below w0.heap.size w0 wy3:=bu bC bb
 clear bC hgo bb hHeld
 refine hKK.out _ _ (K.out _ bD) (fun hHeld => ?_)
 clear hKK KK
 refine tx 15 20 ?_
 refine tx 16 21 ?_
 clear hHeld
 refine wdn ?_
 have B1 : Below w.heap.size w wy3:=bu B0 bD
 have K1:=K.out _ bD
 try dsimp only at K1
 obtain ⟨_, ⟨c0, c1⟩, ⟨g0, g1, g2⟩⟩:=K1
 clear K HA NO VO CO
 go_wp2
 go_ret
 exact ⟨rfl, B1⟩

theorem specQcOk_e (n f v : Int) (s : ByteArray) (ao : Option Addr) (ca : Nat) (xs : List Int) (w : World) (hs : s.size ≤ 1048576) (ha : RI w (.slice ao xs.length ca) xs) (hc : decide (COk n f) = true) (hn : (stepsAns s).isSome = true) (hv : viewAns s = v) (he : s ≠ ⟨#[]⟩) (ho : decide (OkL n xs) = false)  :
 Calls Tryz.prog 128 #[cv n f, qv v s (.slice ao xs.length ca)] w fun e w' => e = .returned (.bool (false)) ∧ Below w.heap.size w w' := by
 have CO:=hide fun w => specConfOk n f w
 have NO:=hide fun w => specNameOk s w (by omega)
 have VO:=hide fun w => specViewOf s w (by omega)
 have QU:=hide fun w => specQuorum n f w
 have SO:=hide fun w h => specSetOk n (.slice ao xs.length ca) xs w h
 obtain ⟨w0, hw0⟩ : ∃ w0, (w.alloc (.cells #[.int .i64 n,.int .i64 f] 49)).alloc (.cells #[.int .i64 v,.string s,.slice ao xs.length ca] 38) = w0:=⟨_, rfl⟩
 have B0 : Below w.heap.size w w0:=hw0 ▸ qalloc2 _ _ _
 have C0 : Loc w0 w.heap.size #[.int .i64 n,.int .i64 f]:=hw0 ▸ (loc_at w _ _ rfl).alloc _
 have G0 : Loc w0 (w.heap.size + 1) #[.int .i64 v,.string s,.slice ao xs.length ca]:=hw0 ▸ loc_at (w.alloc _) _ _ (by simp)
 have HA:=hide (ha.below B0)
 have K:=kw (ka (kc2 C0 0 1) (kc3 G0 0 1 2))
 rw [hc] at CO
 rw [hn] at NO
 rw [hv] at VO
 rw [ho] at SO
 clear hc hn hv ho
 generalize quorumOf n f = qu at *
 have hne:=ne2 he
 obtain ⟨m, hm⟩ : ∃ m, xs.length = m:=⟨_, rfl⟩
 rw [hm] at K HA SO hw0 ⊢
 clear hm ha G0 C0
 go_enter Tryz.func128, Tryz.ntmps128
 go_upto_region 1 with fail
 clear hw0
 have bA : Below w0.heap.size w0 w0.drew:=Below.drew (Below.refl _ _)
 refine wp_region_noPanic ?_
 refine wp_region_held_drew (S := fun w' => Below w0.heap.size w0 w' ∧ (w'.cell? ⟨w.heap.size, 0, none⟩ = some (.int .i64 n) ∧ w'.cell? ⟨w.heap.size, 1, none⟩ = some (.int .i64 f)) ∧ (w'.cell? ⟨w.heap.size + 1, 0, none⟩ = some (.int .i64 v) ∧ w'.cell? ⟨w.heap.size + 1, 1, none⟩ = some (.string s) ∧ w'.cell? ⟨w.heap.size + 1, 2, none⟩ = some (.slice ao m ca))) (by kernel_rfl) (K.out _ bA) (fun hHeld => ?_)
 refine tx 0 5 ?_
 refine rd 1 rfl (fun KK hKK => ?_)
 go_simp
 have hgo:=bA
 refine (CO.out _).mono ?_
 rintro e wy1 ⟨rfl, bb⟩
 have bB : Below w0.heap.size w0 wy1:=bu bA bb
 clear bA hgo bb hHeld
 refine hKK.out _ _ (K.out _ bB) (fun hHeld => ?_)
 clear hKK KK
 refine tx 2 7 ?_
 refine tx 3 8 ?_
 refine tx 4 9 ?_
 refine tx 5 10 ?_
 refine rd 6 rfl (fun KK hKK => ?_)
 go_simp
 have hgo:=bB
 refine (NO.out _).mono ?_
 rintro e wy2 ⟨rfl, bb⟩
 have bC : Below w0.heap.size w0 wy2:=bu bB bb
 clear bB hgo bb hHeld
 refine hKK.out _ _ (K.out _ bC) (fun hHeld => ?_)
 clear hKK KK
 refine tx 7 12 ?_
 refine tx 8 13 ?_
 refine tx 9 14 ?_
 refine tx 10 15 ?_
 refine tx 11 16 ?_
 refine tx 13 18 ?_
 refine tx 14 19 ?_
 refine rd 12 rfl (fun KK hKK => ?_)
 go_simp
 have hgo:=bC
 refine (VO.out _).mono ?_
 rintro e wy3 ⟨rfl, bb⟩
 have bD : Below w0.heap.size w0 wy3:=bu bC bb
 clear bC hgo bb hHeld
 refine hKK.out _ _ (K.out _ bD) (fun hHeld => ?_)
 clear hKK KK
 refine tx 15 20 ?_
 refine tx 16 21 ?_
 clear hHeld
 refine wdn ?_
 have B1 : Below w.heap.size w wy3:=bu B0 bD
 have K1:=K.out _ bD
 try dsimp only at K1
 obtain ⟨_, ⟨c0, c1⟩, ⟨g0, g1, g2⟩⟩:=K1
 have K5 : Hid (∀ w', Below wy3.heap.size wy3 w' → (fun w' => Below wy3.heap.size wy3 w' ∧ (w'.cell? ⟨w.heap.size, 0, none⟩ = some (.int .i64 n) ∧ w'.cell? ⟨w.heap.size, 1, none⟩ = some (.int .i64 f)) ∧ (w'.cell? ⟨w.heap.size + 1, 0, none⟩ = some (.int .i64 v) ∧ w'.cell? ⟨w.heap.size + 1, 1, none⟩ = some (.string s) ∧ w'.cell? ⟨w.heap.size + 1, 2, none⟩ = some (.slice ao m ca))) w'):=hide fun w' hb' => ⟨hb', (K.out _ (bD.trans (hb'.mono bD.size))).2⟩
 have HA5:=hide (HA.out.below bD)
 clear NO VO CO K HA he
 go_upto_region 5 with fail
 clear c0 c1 g0 g1 g2
 have bA : Below wy3.heap.size wy3 wy3.drew:=Below.drew (Below.refl _ _)
 refine wp_region_noPanic ?_
 refine wp_region_held_drew (S := fun w' => Below wy3.heap.size wy3 w' ∧ (w'.cell? ⟨w.heap.size, 0, none⟩ = some (.int .i64 n) ∧ w'.cell? ⟨w.heap.size, 1, none⟩ = some (.int .i64 f)) ∧ (w'.cell? ⟨w.heap.size + 1, 0, none⟩ = some (.int .i64 v) ∧ w'.cell? ⟨w.heap.size + 1, 1, none⟩ = some (.string s) ∧ w'.cell? ⟨w.heap.size + 1, 2, none⟩ = some (.slice ao m ca))) (by kernel_rfl) (K5.out _ bA) (fun hHeld => ?_)
 refine tx 0 29 ?_
 refine tx 1 30 ?_
 refine tx 2 31 ?_
 refine tx 3 32 ?_
 refine rd 4 rfl (fun KK hKK => ?_)
 go_simp
 have hgo:=bA
 refine (SO.out _ (HA5.out.below hgo)).mono ?_
 rintro e wy5 ⟨rfl, bb⟩
 have bF : Below wy3.heap.size wy3 wy5:=bu bA bb
 clear bA hgo bb hHeld
 refine hKK.out _ _ (K5.out _ bF) (fun hHeld => ?_)
 clear hKK KK
 refine tx 5 34 ?_
 refine sx 6 35 ?_
 refine sx 7 36 ?_
 refine sx 8 37 ?_
 refine sx 9 38 ?_
 refine sx 10 39 ?_
 refine sx 11 40 ?_
 refine tx 12 41 ?_
 refine tx 13 4 ?_
 clear hHeld
 refine wdn ?_
 go_wp2
 go_ret
 exact ⟨rfl, bu B1 bF⟩

theorem specQcOk_f (n f v : Int) (s : ByteArray) (ao : Option Addr) (ca : Nat) (xs : List Int) (w : World) (hs : s.size ≤ 1048576) (ha : RI w (.slice ao xs.length ca) xs) (hc : decide (COk n f) = true) (hn : (stepsAns s).isSome = true) (hv : viewAns s = v) (he : s ≠ ⟨#[]⟩) (ho : decide (OkL n xs) = true) (hq : quorumOf n f ≤ (xs.length : Int)) :
 Calls Tryz.prog 128 #[cv n f, qv v s (.slice ao xs.length ca)] w fun e w' => e = .returned (.bool (true)) ∧ Below w.heap.size w w' := by
 have CO:=hide fun w => specConfOk n f w
 have NO:=hide fun w => specNameOk s w (by omega)
 have VO:=hide fun w => specViewOf s w (by omega)
 have QU:=hide fun w => specQuorum n f w
 have SO:=hide fun w h => specSetOk n (.slice ao xs.length ca) xs w h
 obtain ⟨w0, hw0⟩ : ∃ w0, (w.alloc (.cells #[.int .i64 n,.int .i64 f] 49)).alloc (.cells #[.int .i64 v,.string s,.slice ao xs.length ca] 38) = w0:=⟨_, rfl⟩
 have B0 : Below w.heap.size w w0:=hw0 ▸ qalloc2 _ _ _
 have C0 : Loc w0 w.heap.size #[.int .i64 n,.int .i64 f]:=hw0 ▸ (loc_at w _ _ rfl).alloc _
 have G0 : Loc w0 (w.heap.size + 1) #[.int .i64 v,.string s,.slice ao xs.length ca]:=hw0 ▸ loc_at (w.alloc _) _ _ (by simp)
 have HA:=hide (ha.below B0)
 have K:=kw (ka (kc2 C0 0 1) (kc3 G0 0 1 2))
 rw [hc] at CO
 rw [hn] at NO
 rw [hv] at VO
 rw [ho] at SO
 clear hc hn hv ho
 generalize quorumOf n f = qu at *
 have hne:=ne2 he
 obtain ⟨m, hm⟩ : ∃ m, xs.length = m:=⟨_, rfl⟩
 rw [hm] at K HA SO hw0 hq ⊢
 clear hm
 have d4 : decide (qu ≤ (m : Int)) = true:=by simpa using hq
 clear ha G0 C0
 go_enter Tryz.func128, Tryz.ntmps128
 go_upto_region 1 with fail
 clear hw0
 have bA : Below w0.heap.size w0 w0.drew:=Below.drew (Below.refl _ _)
 refine wp_region_noPanic ?_
 refine wp_region_held_drew (S := fun w' => Below w0.heap.size w0 w' ∧ (w'.cell? ⟨w.heap.size, 0, none⟩ = some (.int .i64 n) ∧ w'.cell? ⟨w.heap.size, 1, none⟩ = some (.int .i64 f)) ∧ (w'.cell? ⟨w.heap.size + 1, 0, none⟩ = some (.int .i64 v) ∧ w'.cell? ⟨w.heap.size + 1, 1, none⟩ = some (.string s) ∧ w'.cell? ⟨w.heap.size + 1, 2, none⟩ = some (.slice ao m ca))) (by kernel_rfl) (K.out _ bA) (fun hHeld => ?_)
 refine tx 0 5 ?_
 refine rd 1 rfl (fun KK hKK => ?_)
 go_simp
 have hgo:=bA
 refine (CO.out _).mono ?_
 rintro e wy1 ⟨rfl, bb⟩
 have bB : Below w0.heap.size w0 wy1:=bu bA bb
 clear bA hgo bb hHeld
 refine hKK.out _ _ (K.out _ bB) (fun hHeld => ?_)
 clear hKK KK
 refine tx 2 7 ?_
 refine tx 3 8 ?_
 refine tx 4 9 ?_
 refine tx 5 10 ?_
 refine rd 6 rfl (fun KK hKK => ?_)
 go_simp
 have hgo:=bB
 refine (NO.out _).mono ?_
 rintro e wy2 ⟨rfl, bb⟩
 have bC : Below w0.heap.size w0 wy2:=bu bB bb
 clear bB hgo bb hHeld
 refine hKK.out _ _ (K.out _ bC) (fun hHeld => ?_)
 clear hKK KK
 refine tx 7 12 ?_
 refine tx 8 13 ?_
 refine tx 9 14 ?_
 refine tx 10 15 ?_
 refine tx 11 16 ?_
 refine tx 13 18 ?_
 refine tx 14 19 ?_
 refine rd 12 rfl (fun KK hKK => ?_)
 go_simp
 have hgo:=bC
 refine (VO.out _).mono ?_
 rintro e wy3 ⟨rfl, bb⟩
 have bD : Below w0.heap.size w0 wy3:=bu bC bb
 clear bC hgo bb hHeld
 refine hKK.out _ _ (K.out _ bD) (fun hHeld => ?_)
 clear hKK KK
 refine tx 15 20 ?_
 refine tx 16 21 ?_
 clear hHeld
 refine wdn ?_
 have B1 : Below w.heap.size w wy3:=bu B0 bD
 have K1:=K.out _ bD
 try dsimp only at K1
 obtain ⟨_, ⟨c0, c1⟩, ⟨g0, g1, g2⟩⟩:=K1
 have K5 : Hid (∀ w', Below wy3.heap.size wy3 w' → (fun w' => Below wy3.heap.size wy3 w' ∧ (w'.cell? ⟨w.heap.size, 0, none⟩ = some (.int .i64 n) ∧ w'.cell? ⟨w.heap.size, 1, none⟩ = some (.int .i64 f)) ∧ (w'.cell? ⟨w.heap.size + 1, 0, none⟩ = some (.int .i64 v) ∧ w'.cell? ⟨w.heap.size + 1, 1, none⟩ = some (.string s) ∧ w'.cell? ⟨w.heap.size + 1, 2, none⟩ = some (.slice ao m ca))) w'):=hide fun w' hb' => ⟨hb', (K.out _ (bD.trans (hb'.mono bD.size))).2⟩
 have HA5:=hide (HA.out.below bD)
 clear NO VO CO K HA he
 go_upto_region 5 with fail
 clear c0 c1 g0 g1 g2
 have bA : Below wy3.heap.size wy3 wy3.drew:=Below.drew (Below.refl _ _)
 refine wp_region_noPanic ?_
 refine wp_region_held_drew (S := fun w' => Below wy3.heap.size wy3 w' ∧ (w'.cell? ⟨w.heap.size, 0, none⟩ = some (.int .i64 n) ∧ w'.cell? ⟨w.heap.size, 1, none⟩ = some (.int .i64 f)) ∧ (w'.cell? ⟨w.heap.size + 1, 0, none⟩ = some (.int .i64 v) ∧ w'.cell? ⟨w.heap.size + 1, 1, none⟩ = some (.string s) ∧ w'.cell? ⟨w.heap.size + 1, 2, none⟩ = some (.slice ao m ca))) (by kernel_rfl) (K5.out _ bA) (fun hHeld => ?_)
 refine tx 0 29 ?_
 refine tx 1 30 ?_
 refine tx 2 31 ?_
 refine tx 3 32 ?_
 refine rd 4 rfl (fun KK hKK => ?_)
 go_simp
 have hgo:=bA
 refine (SO.out _ (HA5.out.below hgo)).mono ?_
 rintro e wy5 ⟨rfl, bb⟩
 have bF : Below wy3.heap.size wy3 wy5:=bu bA bb
 clear bA hgo bb hHeld
 refine hKK.out _ _ (K5.out _ bF) (fun hHeld => ?_)
 clear hKK KK
 refine tx 5 34 ?_
 refine tx 6 35 ?_
 refine tx 7 36 ?_
 refine tx 8 37 ?_
 refine tx 9 38 ?_
 refine rd 10 rfl (fun KK hKK => ?_)
 go_simp
 have hgo:=bF
 refine (QU.out _).mono ?_
 rintro e wy6 ⟨rfl, bb⟩
 have bG : Below wy3.heap.size wy3 wy6:=bu bF bb
 clear bF hgo bb hHeld
 refine hKK.out _ _ (K5.out _ bG) (fun hHeld => ?_)
 clear hKK KK
 refine tx 11 40 ?_
 refine tx 12 41 ?_
 refine tx 13 4 ?_
 clear hHeld
 refine wdn ?_
 go_wp2
 go_ret
 exact ⟨rfl, bu B1 bG⟩

theorem specQcOk_g (n f v : Int) (s : ByteArray) (ao : Option Addr) (ca : Nat) (xs : List Int) (w : World) (hs : s.size ≤ 1048576) (ha : RI w (.slice ao xs.length ca) xs) (hc : decide (COk n f) = true) (hn : (stepsAns s).isSome = true) (hv : viewAns s = v) (he : s ≠ ⟨#[]⟩) (ho : decide (OkL n xs) = true) (hq : ¬ quorumOf n f ≤ (xs.length : Int)) :
 Calls Tryz.prog 128 #[cv n f, qv v s (.slice ao xs.length ca)] w fun e w' => e = .returned (.bool (false)) ∧ Below w.heap.size w w' := by
 have CO:=hide fun w => specConfOk n f w
 have NO:=hide fun w => specNameOk s w (by omega)
 have VO:=hide fun w => specViewOf s w (by omega)
 have QU:=hide fun w => specQuorum n f w
 have SO:=hide fun w h => specSetOk n (.slice ao xs.length ca) xs w h
 obtain ⟨w0, hw0⟩ : ∃ w0, (w.alloc (.cells #[.int .i64 n,.int .i64 f] 49)).alloc (.cells #[.int .i64 v,.string s,.slice ao xs.length ca] 38) = w0:=⟨_, rfl⟩
 have B0 : Below w.heap.size w w0:=hw0 ▸ qalloc2 _ _ _
 have C0 : Loc w0 w.heap.size #[.int .i64 n,.int .i64 f]:=hw0 ▸ (loc_at w _ _ rfl).alloc _
 have G0 : Loc w0 (w.heap.size + 1) #[.int .i64 v,.string s,.slice ao xs.length ca]:=hw0 ▸ loc_at (w.alloc _) _ _ (by simp)
 have HA:=hide (ha.below B0)
 have K:=kw (ka (kc2 C0 0 1) (kc3 G0 0 1 2))
 rw [hc] at CO
 rw [hn] at NO
 rw [hv] at VO
 rw [ho] at SO
 clear hc hn hv ho
 generalize quorumOf n f = qu at *
 have hne:=ne2 he
 obtain ⟨m, hm⟩ : ∃ m, xs.length = m:=⟨_, rfl⟩
 rw [hm] at K HA SO hw0 hq ⊢
 clear hm
 have d4 : decide (qu ≤ (m : Int)) = false:=by simpa using hq
 clear ha G0 C0
 go_enter Tryz.func128, Tryz.ntmps128
 go_upto_region 1 with fail
 clear hw0
 have bA : Below w0.heap.size w0 w0.drew:=Below.drew (Below.refl _ _)
 refine wp_region_noPanic ?_
 refine wp_region_held_drew (S := fun w' => Below w0.heap.size w0 w' ∧ (w'.cell? ⟨w.heap.size, 0, none⟩ = some (.int .i64 n) ∧ w'.cell? ⟨w.heap.size, 1, none⟩ = some (.int .i64 f)) ∧ (w'.cell? ⟨w.heap.size + 1, 0, none⟩ = some (.int .i64 v) ∧ w'.cell? ⟨w.heap.size + 1, 1, none⟩ = some (.string s) ∧ w'.cell? ⟨w.heap.size + 1, 2, none⟩ = some (.slice ao m ca))) (by kernel_rfl) (K.out _ bA) (fun hHeld => ?_)
 refine tx 0 5 ?_
 refine rd 1 rfl (fun KK hKK => ?_)
 go_simp
 have hgo:=bA
 refine (CO.out _).mono ?_
 rintro e wy1 ⟨rfl, bb⟩
 have bB : Below w0.heap.size w0 wy1:=bu bA bb
 clear bA hgo bb hHeld
 refine hKK.out _ _ (K.out _ bB) (fun hHeld => ?_)
 clear hKK KK
 refine tx 2 7 ?_
 refine tx 3 8 ?_
 refine tx 4 9 ?_
 refine tx 5 10 ?_
 refine rd 6 rfl (fun KK hKK => ?_)
 go_simp
 have hgo:=bB
 refine (NO.out _).mono ?_
 rintro e wy2 ⟨rfl, bb⟩
 have bC : Below w0.heap.size w0 wy2:=bu bB bb
 clear bB hgo bb hHeld
 refine hKK.out _ _ (K.out _ bC) (fun hHeld => ?_)
 clear hKK KK
 refine tx 7 12 ?_
 refine tx 8 13 ?_
 refine tx 9 14 ?_
 refine tx 10 15 ?_
 refine tx 11 16 ?_
 refine tx 13 18 ?_
 refine tx 14 19 ?_
 refine rd 12 rfl (fun KK hKK => ?_)
 go_simp
 have hgo:=bC
 refine (VO.out _).mono ?_
 rintro e wy3 ⟨rfl, bb⟩
 have bD : Below w0.heap.size w0 wy3:=bu bC bb
 clear bC hgo bb hHeld
 refine hKK.out _ _ (K.out _ bD) (fun hHeld => ?_)
 clear hKK KK
 refine tx 15 20 ?_
 refine tx 16 21 ?_
 clear hHeld
 refine wdn ?_
 have B1 : Below w.heap.size w wy3:=bu B0 bD
 have K1:=K.out _ bD
 try dsimp only at K1
 obtain ⟨_, ⟨c0, c1⟩, ⟨g0, g1, g2⟩⟩:=K1
 have K5 : Hid (∀ w', Below wy3.heap.size wy3 w' → (fun w' => Below wy3.heap.size wy3 w' ∧ (w'.cell? ⟨w.heap.size, 0, none⟩ = some (.int .i64 n) ∧ w'.cell? ⟨w.heap.size, 1, none⟩ = some (.int .i64 f)) ∧ (w'.cell? ⟨w.heap.size + 1, 0, none⟩ = some (.int .i64 v) ∧ w'.cell? ⟨w.heap.size + 1, 1, none⟩ = some (.string s) ∧ w'.cell? ⟨w.heap.size + 1, 2, none⟩ = some (.slice ao m ca))) w'):=hide fun w' hb' => ⟨hb', (K.out _ (bD.trans (hb'.mono bD.size))).2⟩
 have HA5:=hide (HA.out.below bD)
 clear NO VO CO K HA he
 go_upto_region 5 with fail
 clear c0 c1 g0 g1 g2
 have bA : Below wy3.heap.size wy3 wy3.drew:=Below.drew (Below.refl _ _)
 refine wp_region_noPanic ?_
 refine wp_region_held_drew (S := fun w' => Below wy3.heap.size wy3 w' ∧ (w'.cell? ⟨w.heap.size, 0, none⟩ = some (.int .i64 n) ∧ w'.cell? ⟨w.heap.size, 1, none⟩ = some (.int .i64 f)) ∧ (w'.cell? ⟨w.heap.size + 1, 0, none⟩ = some (.int .i64 v) ∧ w'.cell? ⟨w.heap.size + 1, 1, none⟩ = some (.string s) ∧ w'.cell? ⟨w.heap.size + 1, 2, none⟩ = some (.slice ao m ca))) (by kernel_rfl) (K5.out _ bA) (fun hHeld => ?_)
 refine tx 0 29 ?_
 refine tx 1 30 ?_
 refine tx 2 31 ?_
 refine tx 3 32 ?_
 refine rd 4 rfl (fun KK hKK => ?_)
 go_simp
 have hgo:=bA
 refine (SO.out _ (HA5.out.below hgo)).mono ?_
 rintro e wy5 ⟨rfl, bb⟩
 have bF : Below wy3.heap.size wy3 wy5:=bu bA bb
 clear bA hgo bb hHeld
 refine hKK.out _ _ (K5.out _ bF) (fun hHeld => ?_)
 clear hKK KK
 refine tx 5 34 ?_
 refine tx 6 35 ?_
 refine tx 7 36 ?_
 refine tx 8 37 ?_
 refine tx 9 38 ?_
 refine rd 10 rfl (fun KK hKK => ?_)
 go_simp
 have hgo:=bF
 refine (QU.out _).mono ?_
 rintro e wy6 ⟨rfl, bb⟩
 have bG : Below wy3.heap.size wy3 wy6:=bu bF bb
 clear bF hgo bb hHeld
 refine hKK.out _ _ (K5.out _ bG) (fun hHeld => ?_)
 clear hKK KK
 refine tx 11 40 ?_
 refine tx 12 41 ?_
 refine tx 13 4 ?_
 clear hHeld
 refine wdn ?_
 go_wp2
 go_ret
 exact ⟨rfl, bu B1 bG⟩

theorem specQcOk (n f v : Int) (s : ByteArray) (ao : Option Addr) (ca : Nat) (xs : List Int) (w : World) (hs : s.size ≤ 1048576) (ha : RI w (.slice ao xs.length ca) xs) :
 Calls Tryz.prog 128 #[cv n f, qv v s (.slice ao xs.length ca)] w fun e w' => e = .returned (.bool (qokB n f v s xs)) ∧ Below w.heap.size w w' := by
 unfold qokB
 have hxe : decide (xs = []) = ((xs.length : Int) == 0):=by cases xs with | nil => rfl | cons a l => simp; omega
 rw [hxe]
 clear hxe
 cases hc : decide (COk n f) with
 | false => simpa using specQcOk_a n f v s ao ca xs w hs ha hc
 | true =>
  cases hn : (stepsAns s).isSome with
  | false => simpa using specQcOk_b n f v s ao ca xs w hs ha hc hn
  | true =>
   by_cases hv : viewAns s = v
   ·have d2 : (viewAns s == v) = true:=by simpa using hv
    rw [d2]
    by_cases he : s = ⟨#[]⟩
    ·rw [if_pos he]; simpa only [Bool.true_and] using specQcOk_d n f v s ao ca xs w hs ha hc hn hv he
    rw [if_neg he]
    cases ho : decide (OkL n xs) with
    | false => simpa only [Bool.true_and, Bool.false_and] using specQcOk_e n f v s ao ca xs w hs ha hc hn hv he ho
    | true =>
     by_cases hq : quorumOf n f ≤ (xs.length : Int)
     ·rw [decide_eq_true hq]; simpa only [Bool.true_and] using specQcOk_f n f v s ao ca xs w hs ha hc hn hv he ho hq
     rw [decide_eq_false hq]; simpa only [Bool.true_and] using specQcOk_g n f v s ao ca xs w hs ha hc hn hv he ho hq
   have d2 : (viewAns s == v) = false:=by simpa using hv
   rw [d2]; simpa only [Bool.true_and, Bool.false_and] using specQcOk_c n f v s ao ca xs w hs ha hc hn hv
end
section
open Go.RowKit
structure SCode (w : World) (ao : Option Addr) (xs : List Int) : Prop where
 len : xs.length ≤ 1048576
 code : xs = [] ∨ ∃ b off, ao = some ⟨b, off, none⟩ ∧ ∀ k, k < xs.length → w.cell? ⟨b, off + k, none⟩ = some (.int .u8 (xs.getD k 0))
 fit : ∀ k, k < xs.length → 0 ≤ xs.getD k 0 ∧ xs.getD k 0 ≤ 255
theorem SCode.below {w w' : World} {ao : Option Addr} {xs : List Int} (h : SCode w ao xs) (hb : Below w.heap.size w w') : SCode w' ao xs := by
 refine ⟨h.len, ?_, h.fit⟩
 rcases h.code with h' | ⟨b, off, ha, hx⟩
 ·exact .inl h'
 exact .inr ⟨b, off, ha, fun k hk => (hb.cell (p := ⟨b, off + k, none⟩) (cell_lt (hx k hk))).trans (hx k hk)⟩
theorem WfL.sub {xs ys : List Int} (h : WfL xs) (hs : ∀ y ∈ ys, y ∈ xs) : WfL ys := fun y hy => h y (hs y hy)
end
section
open Go.RowKit
variable [∀ (a b c d : Int), Decidable (Ok4 a b c d)]
variable [∀ (a b c d : Nat), Decidable (okN a b c d)]
variable [∀ (last : Int) (s : St), Decidable (GoodSt last s)]
variable [∀ (x : T4), Decidable (OkT x)]
variable [∀ (n : Int) (s : List Int), Decidable (OkL n s)]
variable [∀ (n f : Int), Decidable (COk n f)]
theorem steps_nil : stepsAns ⟨#[]⟩ = some [] := by simp [stepsAns]
theorem view_nil : viewAns ⟨#[]⟩ = 0 := by simp [viewAns, steps_nil]
theorem view_none {s : ByteArray} (h : (stepsAns s).isSome = false) : viewAns s = 0 := by
 cases e : stepsAns s with
 | none => simp [viewAns, e]
 | some ss => rw [e] at h; cases h
theorem view_pos {s : ByteArray} (h : (stepsAns s).isSome = true) (hs : s ≠ ⟨#[]⟩) : 0 < viewAns s := by
 obtain ⟨ss, e⟩:=Option.isSome_iff_exists.1 h
 have h1:=(height_view (s:=s)).1
 unfold heightAns at h1
 rw [e] at h1
 have hne : ss ≠ []:=by
  rintro rfl
  have:=((names_iff _ _).1 e).1
  exact hs (ba_ext (by simpa [nm] using this))
 have:=List.length_pos_iff.2 hne
 simp only at h1
 omega
theorem qok_eq (n f v : Int) (s : ByteArray) (xs : List Int) : (decide (COk n f) && (alikeB v 0 s ⟨#[]⟩ xs [] || votedB n f v s xs)) = qokB n f v s xs := by
 unfold qokB votedB alikeB
 by_cases hc : COk n f
 ·simp only [hc, decide_true, Bool.true_and]
  by_cases hs : s = ⟨#[]⟩
  ·subst hs
   rw [steps_nil, view_nil]
   by_cases hv : v = 0
   ·subst hv
    simp
   have h1 : (v == 0) = false:=by simpa using hv
   have h2 : ((0 : Int) == v) = false:=by simp; omega
   simp [h1, h2, hv]
  simp only [hs, false_and, and_false, decide_false, Bool.false_or, if_false]
  cases hn : (stepsAns s).isSome with
  | false =>
   rw [view_none hn]
   by_cases hv : v = 0
   ·subst hv; simp
   ·have h1 : (v == 0) = false:=by simpa using hv
    simp [h1]
  | true =>
   have hp:=view_pos hn hs
   by_cases hv : v = viewAns s
   ·subst hv
    have h1 : decide (0 < viewAns s) = true:=by simpa using hp
    simp only [h1, beq_self_eq_true, Bool.true_and]
    rw [Bool.and_comm]
   have h1 : (v == viewAns s) = false:=by simpa using hv
   have h2 : (viewAns s == v) = false:=by simp; omega
   simp [h1, h2]
 simp [hc]
theorem implQcOk (n f v : Int) (s : ByteArray) (ao : Option Addr) (ca : Nat) (xs : List Int) (w : World) (hs : s.size ≤ 33554432) (hE : Env w) (ha : RI w (.slice ao xs.length ca) xs) :
 Calls Tryz.prog 135 #[cv n f, qv v s (.slice ao xs.length ca)] w fun e w' => e = .returned (.bool (qokB n f v s xs)) ∧ Below w.heap.size w w' := by
 have:=implQcOk_at n f v s ao ca xs w hs hE ha
 rwa [qok_eq] at this
def bokB (n f : Int) (m : ByteArray) (v : Int) (s : ByteArray) (xs : List Int) : Bool := qokB n f v s xs && decide (0 < heightAns m) && decide (upAns m = s)
theorem height_pos (m : ByteArray) : decide (0 < heightAns m) = ((stepsAns m).isSome && decide (m ≠ ⟨#[]⟩)) := by
 unfold heightAns
 cases e : stepsAns m with
 | none => simp
 | some ss =>
  have h:=((names_iff _ _).1 e).1
  by_cases hm : m = ⟨#[]⟩
  ·subst hm
   rw [steps_nil] at e
   cases e
   simp
  have hne : ss ≠ []:=by
   rintro rfl
   exact hm (ba_ext (by simpa [nm] using h))
  have:=List.length_pos_iff.2 hne
  simp [hm]
  omega
end
section
open Go.RowKit
variable [∀ (a b c d : Int), Decidable (Ok4 a b c d)]
variable [∀ (a b c d : Nat), Decidable (okN a b c d)]
variable [∀ (x : T4), Decidable (OkT x)]
theorem OT.grown {w w' : World} {base g : Nat} {v : Value} {xs : List T4} (h : OT w base v xs) (hg : w.grownBy w' (some g)) (hlt : g < base) : OT w' base v xs :=
 World.ownsRow.kept h hg (by
  cases hv : v.ownBlock with
  | none => exact .inl rfl
  | some k => exact .inr fun e => by have := (World.ownsRow.lt h k hv).1; simp at e; omega)
end
section
open Go.RowKit
variable [∀ (a b c d : Int), Decidable (Ok4 a b c d)]
variable [∀ (a b c d : Nat), Decidable (okN a b c d)]
variable [∀ (last : Int) (s : St), Decidable (GoodSt last s)]
variable [∀ (x : T4), Decidable (OkT x)]
variable [∀ (n : Int) (s : List Int), Decidable (OkL n s)]
variable [∀ (n f : Int), Decidable (COk n f)]
def inB (x : Int) : Bool := decide (0 ≤ x) && decide (x ≤ 60)
def sokB (n f vo lo v : Int) (s : ByteArray) (xs : List Int) (d : ByteArray) : Bool := inB vo && inB lo && qokB n f v s xs && (stepsAns d).isSome
theorem sok_done {n f vo lo v : Int} {s : ByteArray} {xs : List Int} {d : ByteArray} (h : sokB n f vo lo v s xs d = true) : (0 ≤ vo ∧ vo ≤ 60) ∧ (0 ≤ lo ∧ lo ≤ 60) ∧ qokB n f v s xs = true ∧ (stepsAns d).isSome = true := by
 unfold sokB inB at h
 simp only [Bool.and_eq_true, decide_eq_true_eq] at h
 obtain ⟨⟨⟨⟨a, b⟩, ⟨c, e⟩⟩, q⟩, g⟩:=h
 exact ⟨⟨a, b⟩, ⟨c, e⟩, q, g⟩
end
section
open Go.RowKit
theorem l7Copy_any (n : Int) (s : ByteArray) (v : Value) (xs : List Int) (w : World) (h : RI w v xs) :
 Calls Tryz.prog 127 #[qv n s v] w fun e w' => ∃ u, e = .returned (qv n s u) ∧ OI w' w.heap.size u xs ∧ Below w.heap.size w w' := by
 obtain ⟨ao, ca, rfl⟩:=h.form
 have hl:=h.1
 obtain ⟨w0, hw0⟩ : ∃ w0, ((w.alloc (.cells #[.int .i64 n,.string s,.slice ao xs.length ca] 38)).alloc zq).alloc (.cells #[] 3) = w0:=⟨_, rfl⟩
 have B0 : Below w.heap.size w w0:=hw0 ▸ ((qalloc2 _ _ _).alloc (by simp; omega) _)
 have LA : Loc w0 w.heap.size #[.int .i64 n,.string s,.slice ao xs.length ca]:=hw0 ▸ ((loc_at w _ _ rfl).alloc _).alloc _
 have LZ : Loc w0 (w.heap.size + 1) #[.int .i64 0,.string ⟨#[]⟩,.slice none 0 0]:=hw0 ▸ (loc_at (w.alloc _) _ _ (by simp)).alloc _
 have s0 : w0.heap.size = w.heap.size + 1 + 1 + 1:=by rw [← hw0]; simp
 have O0 : OI w0 (w.heap.size + 1 + 1) (.slice (some ⟨w.heap.size + 1 + 1, 0, none⟩) 0 0) []:=by
  have:=World.ownsRow_lit (base:=w.heap.size + 1 + 1) (e:=3) (size:=1) ((w.alloc (.cells #[.int .i64 n,.string s,.slice ao xs.length ca] 38)).alloc zq) #[] 0 (by simp) (by unfold maxLen; omega) (by simp)
  rw [hw0] at this
  simpa [OI] using this
 have P0:=hide (h.pi.below B0)
 have x2:=LA.cell 2 rfl
 have HL:=hide LA
 have HZ:=hide LZ
 clear h LA LZ
 go_enter Tryz.func127, Tryz.ntmps127
 go_wp2_with (first | (at_builtin; clear hw0; refine append_ints rfl _ _ rfl (w.heap.size + 1 + 1) (.slice (some ⟨w.heap.size + 1 + 1, 0, none⟩) 0 0) (.slice ao xs.length ca) [] xs rfl rfl O0 P0.out (by simp; omega) (by omega) ?_; intro v' w2 ho2 hg2 _
                       have k2:=kp_grown hg2
                       have L2:=HL.out.kp k2 (by simp [Value.ownBlock]; omega)
                       have Z2:=HZ.out.kp k2 (by simp [Value.ownBlock])
                       have B2:=Below.kp B0 k2 B0.size (fun k hk => by simp [Value.ownBlock] at hk; omega)
                       have lt2:=World.ownsRow.lt ho2
                       have p0:=L2.cell 0 rfl
                       have p1:=L2.cell 1 rfl
                       have p2:=L2.cell 2 rfl
                       have fp:=L2.frozen
                       have y0:=Z2.cell 0 rfl
                       have y1:=Z2.cell 1 rfl
                       have y2:=Z2.cell 2 rfl
                       have fy:=Z2.frozen
                       obtain ⟨ua, uc, rfl⟩:=ho2.form
                       have O2:=hide ho2
                       clear ho2 hg2 k2 L2 Z2))
 refine bodyPost_ret (v := qv n s (.slice ua ([] ++ xs).length uc)) (by simp [results, Tryz.results127, go_sem, y0, y1, y2]) rfl ?_
 have K5 : Kp w2 ((((w2.setCell ⟨w.heap.size, 2, none⟩ (.slice ua ([] ++ xs).length uc)).setCell ⟨w.heap.size + 1, 0, none⟩ (.int .i64 n)).setCell ⟨w.heap.size + 1, 1, none⟩ (.string s)).setCell ⟨w.heap.size + 1, 2, none⟩ (.slice ua ([] ++ xs).length uc)) (fun k => k = w.heap.size ∨ k = w.heap.size + 1) :=
  (((((set_kp _ _ _ _).mono (fun k h => .inl h))).trans ((set_kp _ _ _ _).mono (fun k h => .inr h))).trans ((set_kp _ _ _ _).mono (fun k h => .inr h))).trans ((set_kp _ _ _ _).mono (fun k h => .inr h))
 exact ⟨_, rfl, (O2.out.kp K5 (fun k hk => by have := lt2 k hk; omega)).mono (by omega), Below.kp B2 K5 B2.size (fun k hk => by omega)⟩
end
section
open Go.RowKit
variable [∀ (a b c d : Int), Decidable (Ok4 a b c d)]
variable [∀ (a b c d : Nat), Decidable (okN a b c d)]
variable [∀ (last : Int) (s : St), Decidable (GoodSt last s)]
variable [∀ (x : T4), Decidable (OkT x)]
variable [∀ (n : Int) (s : List Int), Decidable (OkL n s)]
variable [∀ (n f : Int), Decidable (COk n f)]
theorem withinB (x : Int) (w : World) : Calls Tryz.prog 101 #[.int .i64 x,.int .i64 0,.int .i64 60] w fun e w' => e = .returned (.bool (inB x)) ∧ Below w.heap.size w w' := by
 by_cases h : 0 ≤ x ∧ x ≤ 60
 ·have e : inB x = true:=by simp [inB, h]
  rw [e]
  refine (within_yes x 0 60 w h.1 h.2).mono ?_
  rintro e w' ⟨rfl, rfl⟩
  exact ⟨rfl, Below.refl _ _⟩
 have e : inB x = false:=by simp [inB]; omega
 rw [e]
 refine (within_no x 0 60 w (by omega)).mono ?_
 rintro e w' ⟨rfl, rfl⟩
 exact ⟨rfl, Below.refl _ _⟩
theorem l1InB (x : Int) (w : World) : Calls Tryz.prog 92 #[.int .i64 x,.int .i64 0,.int .i64 60] w fun e w' => e = .returned (.bool (inB x)) ∧ Below w.heap.size w w' := by
 by_cases h : 0 ≤ x ∧ x ≤ 60
 ·have e : inB x = true:=by simp [inB, h]
  rw [e]
  refine (in_yes x 0 60 w h.1 h.2).mono ?_
  rintro e w' ⟨rfl, rfl⟩
  exact ⟨rfl, Below.refl _ _⟩
 have e : inB x = false:=by simp [inB]; omega
 rw [e]
 refine (in_no x 0 60 w (by omega)).mono ?_
 rintro e w' ⟨rfl, rfl⟩
 exact ⟨rfl, Below.refl _ _⟩
theorem implSafeOk (n f : Int) (vo lo v : Int) (s : ByteArray) (ao : Option Addr) (ca : Nat) (xs : List Int) (d : ByteArray) (w : World) (hs : s.size ≤ 33554432) (hd : d.size ≤ 33554432) (hE : Env w) (ha : RI w (.slice ao xs.length ca) xs) :
 Calls Tryz.prog 102 #[cv n f, sv vo lo v s (.slice ao xs.length ca) d] w fun e w' => e = .returned (.bool (sokB n f vo lo v s xs d)) ∧ Below w.heap.size w w' := by
 have QO:=hide fun w' (b : Below w.heap.size w w') => implQcOk n f v s ao ca xs w' hs (hE.below b) (ha.below b)
 have NO:=hide fun w' (b : Below w.heap.size w w') => implNameOk d w' hd (hE.below b)
 have I1:=hide fun w' => withinB vo w'
 have I2:=hide fun w' => withinB lo w'
 unfold sokB
 generalize inB vo = b1 at *
 generalize inB lo = b2 at *
 generalize qokB n f v s xs = b3 at *
 generalize (stepsAns d).isSome = b4 at *
 clear ha hE
 obtain ⟨w0, hw0, Bw0, LC, LS, zw0⟩:=bx2 w #[.int .i64 n,.int .i64 f] 49 #[.int .i64 vo,.int .i64 lo,.int .i64 v,.string s,.slice ao xs.length ca,.string d] 40
 go_enter Tryz.func102, Tryz.ntmps102
 obtain ⟨cLS0,cLS1,cLS2,cLS3,cLS4,cLS5⟩:=cc6 LS 0 1 2 3 4 5
 go_wp2_with fail
 clear hw0
 refine (I1.out _).mono ?_
 rintro _ w1 ⟨rfl, bb⟩
 clear cLS0 cLS1 cLS2 cLS3 cLS4 cLS5
 have Bw1:=bu Bw0 bb
 have sw1:=bb.size
 replace LC:=LC.up bb
 replace LS:=LS.up bb
 clear Bw0 bb
 cases b1
 ·go_wp2
  go_ret
  exact ⟨rfl, Bw1⟩
 obtain ⟨cLS0,cLS1,cLS2,cLS3,cLS4,cLS5⟩:=cc6 LS 0 1 2 3 4 5
 go_wp2_with fail
 refine (I2.out _).mono ?_
 rintro _ w2 ⟨rfl, bb⟩
 clear cLS0 cLS1 cLS2 cLS3 cLS4 cLS5
 have Bw2:=bu Bw1 bb
 have sw2:=bb.size
 replace LC:=LC.up bb
 replace LS:=LS.up bb
 clear Bw1 bb
 cases b2
 ·go_wp2
  go_ret
  exact ⟨rfl, Bw2⟩
 obtain ⟨cLC0,cLC1⟩:=cc2 LC 0 1
 obtain ⟨cLS0,cLS1,cLS2,cLS3,cLS4,cLS5⟩:=cc6 LS 0 1 2 3 4 5
 go_wp2_with fail
 refine (QO.out _ Bw2).mono ?_
 rintro _ w3 ⟨rfl, bb⟩
 clear cLC0 cLC1 cLS0 cLS1 cLS2 cLS3 cLS4 cLS5
 have Bw3:=bu Bw2 bb
 have sw3:=bb.size
 replace LC:=LC.up bb
 replace LS:=LS.up bb
 clear Bw2 bb
 cases b3
 ·go_wp2
  go_ret
  exact ⟨rfl, Bw3⟩
 obtain ⟨cLS0,cLS1,cLS2,cLS3,cLS4,cLS5⟩:=cc6 LS 0 1 2 3 4 5
 go_wp2_with fail
 refine (NO.out _ Bw3).mono ?_
 rintro _ w4 ⟨rfl, bb⟩
 clear cLS0 cLS1 cLS2 cLS3 cLS4 cLS5
 have Bw4:=bu Bw3 bb
 have sw4:=bb.size
 replace LC:=LC.up bb
 replace LS:=LS.up bb
 clear Bw3 bb
 go_wp2
 go_ret
 exact ⟨rfl, Bw4⟩

theorem specSafeOk (n f : Int) (vo lo v : Int) (s : ByteArray) (ao : Option Addr) (ca : Nat) (xs : List Int) (d : ByteArray) (w : World) (hs : s.size ≤ 1048576) (hd : d.size ≤ 1048576) (ha : RI w (.slice ao xs.length ca) xs) :
 Calls Tryz.prog 93 #[cv n f, sv vo lo v s (.slice ao xs.length ca) d] w fun e w' => e = .returned (.bool (sokB n f vo lo v s xs d)) ∧ Below w.heap.size w w' := by
 have QO:=hide fun w' (b : Below w.heap.size w w') => specQcOk n f v s ao ca xs w' hs (ha.below b)
 have NO:=hide fun w' (b : Below w.heap.size w w') => specNameOk d w' (by omega)
 have I1:=hide fun w' => l1InB vo w'
 have I2:=hide fun w' => l1InB lo w'
 unfold sokB
 generalize inB vo = b1 at *
 generalize inB lo = b2 at *
 generalize qokB n f v s xs = b3 at *
 generalize (stepsAns d).isSome = b4 at *
 clear ha
 obtain ⟨w0, hw0, Bw0, LC, LS, zw0⟩:=bx2 w #[.int .i64 n,.int .i64 f] 49 #[.int .i64 vo,.int .i64 lo,.int .i64 v,.string s,.slice ao xs.length ca,.string d] 40
 go_enter Tryz.func93, Tryz.ntmps93
 obtain ⟨cLS0,cLS1,cLS2,cLS3,cLS4,cLS5⟩:=cc6 LS 0 1 2 3 4 5
 go_wp2_with fail
 clear hw0
 refine (I1.out _).mono ?_
 rintro _ w1 ⟨rfl, bb⟩
 clear cLS0 cLS1 cLS2 cLS3 cLS4 cLS5
 have Bw1:=bu Bw0 bb
 have sw1:=bb.size
 replace LC:=LC.up bb
 replace LS:=LS.up bb
 clear Bw0 bb
 cases b1
 ·go_wp2
  go_ret
  exact ⟨rfl, Bw1⟩
 obtain ⟨cLS0,cLS1,cLS2,cLS3,cLS4,cLS5⟩:=cc6 LS 0 1 2 3 4 5
 go_wp2_with fail
 refine (I2.out _).mono ?_
 rintro _ w2 ⟨rfl, bb⟩
 clear cLS0 cLS1 cLS2 cLS3 cLS4 cLS5
 have Bw2:=bu Bw1 bb
 have sw2:=bb.size
 replace LC:=LC.up bb
 replace LS:=LS.up bb
 clear Bw1 bb
 cases b2
 ·go_wp2
  go_ret
  exact ⟨rfl, Bw2⟩
 obtain ⟨cLC0,cLC1⟩:=cc2 LC 0 1
 obtain ⟨cLS0,cLS1,cLS2,cLS3,cLS4,cLS5⟩:=cc6 LS 0 1 2 3 4 5
 go_wp2_with fail
 refine (QO.out _ Bw2).mono ?_
 rintro _ w3 ⟨rfl, bb⟩
 clear cLC0 cLC1 cLS0 cLS1 cLS2 cLS3 cLS4 cLS5
 have Bw3:=bu Bw2 bb
 have sw3:=bb.size
 replace LC:=LC.up bb
 replace LS:=LS.up bb
 clear Bw2 bb
 cases b3
 ·go_wp2
  go_ret
  exact ⟨rfl, Bw3⟩
 obtain ⟨cLS0,cLS1,cLS2,cLS3,cLS4,cLS5⟩:=cc6 LS 0 1 2 3 4 5
 go_wp2_with fail
 refine (NO.out _ Bw3).mono ?_
 rintro _ w4 ⟨rfl, bb⟩
 clear cLS0 cLS1 cLS2 cLS3 cLS4 cLS5
 have Bw4:=bu Bw3 bb
 have sw4:=bb.size
 replace LC:=LC.up bb
 replace LS:=LS.up bb
 clear Bw3 bb
 go_wp2
 go_ret
 exact ⟨rfl, Bw4⟩
end
end Go.Proofs.YtjdchloechcclaaGreatDoor
