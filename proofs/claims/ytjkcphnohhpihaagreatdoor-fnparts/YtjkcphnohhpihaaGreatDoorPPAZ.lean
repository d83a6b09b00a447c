/- Lemmas; their conditions stand in each statement. -/
import Derived.Test.YtjkcphnohhpihaaGreatDoorPPAY
set_option maxRecDepth 100000
set_option maxHeartbeats 8000000
set_option linter.unusedSectionVars false
namespace Go.Proofs.YtjkcphnohhpihaaGreatDoor
section
open Go.RowKit
variable [∀ (a b c d : Int), Decidable (Ok4 a b c d)]
variable [∀ (a b c d : Nat), Decidable (okN a b c d)]
variable [∀ (last : Int) (s : St), Decidable (GoodSt last s)]
variable [∀ (x : T4), Decidable (OkT x)]
variable [∀ (n : Int) (s : List Int), Decidable (OkL n s)]
variable [∀ (n f : Int), Decidable (COk n f)]
theorem implQcOk_at (n f v : Int) (s : ByteArray) (ao : Option Addr) (ca : Nat) (xs : List Int) (w : World) (hs : s.size ≤ 33554432) (hE : Env w) (ha : RI w (.slice ao xs.length ca) xs) :
 Calls Tryz.prog 40 #[cv n f, qv v s (.slice ao xs.length ca)] w fun e w' => e = .returned (.bool (decide (COk n f) && (alikeB v 0 s ⟨#[]⟩ xs [] || votedB n f v s xs))) ∧ Below w.heap.size w w' := by
 have CO:=hide fun w => implConfOk n f w
 have QF:=hide fun w => implQcFirst w
 have QS:=hide fun w h => implQcSame v 0 s ⟨#[]⟩ (.slice ao xs.length ca) (.slice none 0 0) xs [] w h ⟨by simp, none, 0, rfl,.inl rfl⟩
 obtain ⟨w0, hw0⟩ : ∃ w0, (w.alloc (.cells #[.int .i64 n,.int .i64 f] 33)).alloc (.cells #[.int .i64 v,.string s,.slice ao xs.length ca] 53) = w0:=⟨_, rfl⟩
 have B0 : Below w.heap.size w w0:=hw0 ▸ qalloc2 _ _ _
 have C0 : Loc w0 w.heap.size #[.int .i64 n,.int .i64 f]:=hw0 ▸ (loc_at w _ _ rfl).alloc _
 have G0 : Loc w0 (w.heap.size + 1) #[.int .i64 v,.string s,.slice ao xs.length ca]:=hw0 ▸ loc_at (w.alloc _) _ _ (by simp)
 have HA:=hide (ha.below B0)
 have VF : Hid (∀ w', Below w0.heap.size w0 w' → Calls Tryz.prog 89 #[.pointer (some ⟨w.heap.size + 1, 0, none⟩), cv n f] w' fun e w'' => e = .returned (.bool (votedB n f v s xs)) ∧ Below w'.heap.size w' w''):=hide fun w' hb' => votedFor_any (w.heap.size + 1) n f v s ao ca xs w' hs ((hE.below B0).below hb') (G0.up hb') (HA.out.below hb')
 have K:=kw (ka (kc2 C0 0 1) (kc3 G0 0 1 2))
 generalize decide (COk n f) = cb at *
 generalize alikeB v 0 s ⟨#[]⟩ xs [] = ab at *
 generalize votedB n f v s xs = vb at *
 clear ha hE G0 C0
 cases cb
 ·simp only [Bool.false_and]
  go_enter Tryz.func40, Tryz.ntmps40
  go_upto_region 1 with fail
  clear hw0
  refine wra K (fun bA hHeld => ?_)
  refine tx 0 5 ?_
  refine rd 1 rfl (fun KK hKK => ?_)
  go_simp
  have hgo:=bA
  refine (CO.out _).mono ?_
  rintro e wy1 ⟨rfl, bb⟩
  have bB : Below w0.heap.size w0 wy1:=bu bA bb
  clear bA hgo bb hHeld
  refine hKK.out _ _ (K.out _ bB) (fun hHeld => ?_)
  clear hKK KK
  refine tx 2 7 ?_
  refine sx 3 8 ?_
  refine sx 4 9 ?_
  refine sx 5 10 ?_
  refine sx 6 11 ?_
  refine sx 7 12 ?_
  refine sx 8 13 ?_
  refine sx 9 14 ?_
  refine tx 10 15 ?_
  refine tx 11 4 ?_
  clear hHeld
  refine wdn ?_
  go_wp2
  go_ret
  exact ⟨rfl, bu B0 bB⟩
 simp only [Bool.true_and]
 cases ab
 ·simp only [Bool.false_or]
  go_enter Tryz.func40, Tryz.ntmps40
  go_upto_region 1 with fail
  clear hw0
  refine wra K (fun bA hHeld => ?_)
  refine tx 0 5 ?_
  refine rd 1 rfl (fun KK hKK => ?_)
  go_simp
  have hgo:=bA
  refine (CO.out _).mono ?_
  rintro e wy1 ⟨rfl, bb⟩
  have bB : Below w0.heap.size w0 wy1:=bu bA bb
  clear bA hgo bb hHeld
  refine hKK.out _ _ (K.out _ bB) (fun hHeld => ?_)
  clear hKK KK
  refine tx 2 7 ?_
  refine tx 3 8 ?_
  refine rd 4 rfl (fun KK hKK => ?_)
  go_simp
  have hgo:=bB
  refine (QF.out _).mono ?_
  rintro e wy2 ⟨rfl, bb⟩
  have bC : Below w0.heap.size w0 wy2:=bu bB bb
  clear bB hgo bb hHeld
  refine hKK.out _ _ (K.out _ bC) (fun hHeld => ?_)
  clear hKK KK
  refine rd 5 rfl (fun KK hKK => ?_)
  go_simp
  have hgo:=bC
  refine (QS.out _ (HA.out.below hgo)).mono ?_
  rintro e wy3 ⟨rfl, bb⟩
  have bD : Below w0.heap.size w0 wy3:=bu bC bb
  clear bC hgo bb hHeld
  refine hKK.out _ _ (K.out _ bD) (fun hHeld => ?_)
  clear hKK KK
  refine tx 6 11 ?_
  refine tx 7 12 ?_
  refine rd 8 rfl (fun KK hKK => ?_)
  go_simp
  have hgo:=bD
  refine (VF.out _ hgo).mono ?_
  rintro e wy4 ⟨rfl, bb⟩
  have bE : Below w0.heap.size w0 wy4:=bu bD bb
  clear bD hgo bb hHeld
  refine hKK.out _ _ (K.out _ bE) (fun hHeld => ?_)
  clear hKK KK
  refine tx 9 14 ?_
  refine tx 10 15 ?_
  refine tx 11 4 ?_
  clear hHeld
  refine wdn ?_
  go_wp2
  go_ret
  exact ⟨rfl, bu B0 bE⟩
 simp only [Bool.true_or]
 go_enter Tryz.func40, Tryz.ntmps40
 go_upto_region 1 with fail
 clear hw0
 refine wra K (fun bA hHeld => ?_)
 refine tx 0 5 ?_
 refine rd 1 rfl (fun KK hKK => ?_)
 go_simp
 have hgo:=bA
 refine (CO.out _).mono ?_
 rintro e wy1 ⟨rfl, bb⟩
 have bB : Below w0.heap.size w0 wy1:=bu bA bb
 clear bA hgo bb hHeld
 refine hKK.out _ _ (K.out _ bB) (fun hHeld => ?_)
 clear hKK KK
 refine tx 2 7 ?_
 refine tx 3 8 ?_
 refine rd 4 rfl (fun KK hKK => ?_)
 go_simp
 have hgo:=bB
 refine (QF.out _).mono ?_
 rintro e wy2 ⟨rfl, bb⟩
 have bC : Below w0.heap.size w0 wy2:=bu bB bb
 clear bB hgo bb hHeld
 refine hKK.out _ _ (K.out _ bC) (fun hHeld => ?_)
 clear hKK KK
 refine rd 5 rfl (fun KK hKK => ?_)
 go_simp
 have hgo:=bC
 refine (QS.out _ (HA.out.below hgo)).mono ?_
 rintro e wy3 ⟨rfl, bb⟩
 have bD : Below w0.heap.size w0 wy3:=bu bC bb
 clear bC hgo bb hHeld
 refine hKK.out _ _ (K.out _ bD) (fun hHeld => ?_)
 clear hKK KK
 refine tx 6 11 ?_
 refine sx 7 12 ?_
 refine sx 8 13 ?_
 refine tx 9 14 ?_
 refine tx 10 15 ?_
 refine tx 11 4 ?_
 clear hHeld
 refine wdn ?_
 go_wp2
 go_ret
 exact ⟨rfl, bu B0 bD⟩
def qokB (n f v : Int) (s : ByteArray) (xs : List Int) : Bool := decide (COk n f) && (stepsAns s).isSome && (viewAns s == v) && (if s = ⟨#[]⟩ then decide (xs = []) else decide (OkL n xs) && decide (quorumOf n f ≤ (xs.length : Int)))

theorem specQcOk_a (n f v : Int) (s : ByteArray) (ao : Option Addr) (ca : Nat) (xs : List Int) (w : World) (hs : s.size ≤ 1048576) (ha : RI w (.slice ao xs.length ca) xs) (hc : decide (COk n f) = false) :
 Calls Tryz.prog 65 #[cv n f, qv v s (.slice ao xs.length ca)] w fun e w' => e = .returned (.bool (false)) ∧ Below w.heap.size w w' := by
 have CO:=hide fun w => specConfOk n f w
 have NO:=hide fun w => specNameOk s w (by omega)
 have VO:=hide fun w => specViewOf s w (by omega)
 have QU:=hide fun w => specQuorum n f w
 have SO:=hide fun w h => specSetOk n (.slice ao xs.length ca) xs w h
 obtain ⟨w0, hw0⟩ : ∃ w0, (w.alloc (.cells #[.int .i64 n,.int .i64 f] 33)).alloc (.cells #[.int .i64 v,.string s,.slice ao xs.length ca] 53) = w0:=⟨_, rfl⟩
 have B0 : Below w.heap.size w w0:=hw0 ▸ qalloc2 _ _ _
 have C0 : Loc w0 w.heap.size #[.int .i64 n,.int .i64 f]:=hw0 ▸ (loc_at w _ _ rfl).alloc _
 have G0 : Loc w0 (w.heap.size + 1) #[.int .i64 v,.string s,.slice ao xs.length ca]:=hw0 ▸ loc_at (w.alloc _) _ _ (by simp)
 have HA:=hide (ha.below B0)
 have K:=kw (ka (kc2 C0 0 1) (kc3 G0 0 1 2))
 rw [hc] at CO
 clear hc NO VO QU SO
 obtain ⟨m, hm⟩ : ∃ m, xs.length = m:=⟨_, rfl⟩
 rw [hm] at K HA hw0 ⊢
 clear hm ha G0 C0
 go_enter Tryz.func65, Tryz.ntmps65
 go_upto_region 1 with fail
 clear hw0
 have bA : Below w0.heap.size w0 w0.drew:=Below.drew (Below.refl _ _)
 refine wp_region_noPanic ?_
 refine wp_region_held_drew (S := fun w' => Below w0.heap.size w0 w' ∧ (w'.cell? ⟨w.heap.size, 0, none⟩ = some (.int .i64 n) ∧ w'.cell? ⟨w.heap.size, 1, none⟩ = some (.int .i64 f)) ∧ (w'.cell? ⟨w.heap.size + 1, 0, none⟩ = some (.int .i64 v) ∧ w'.cell? ⟨w.heap.size + 1, 1, none⟩ = some (.string s) ∧ w'.cell? ⟨w.heap.size + 1, 2, none⟩ = some (.slice ao m ca))) (by kernel_rfl) (K.out _ bA) (fun hHeld => ?_)
 refine tx 0 5 ?_
 refine rd 1 rfl (fun KK hKK => ?_)
 go_simp
 have hgo:=bA
 refine (CO.out _).mono ?_
 rintro e wy1 ⟨rfl, bb⟩
 have bB : Below w0.heap.size w0 wy1:=bu bA bb
 clear bA hgo bb hHeld
 refine hKK.out _ _ (K.out _ bB) (fun hHeld => ?_)
 clear hKK KK
 refine tx 2 7 ?_
 refine tx 3 8 ?_
 refine sx 4 9 ?_
 refine sx 5 10 ?_
 refine sx 6 11 ?_
 refine sx 7 12 ?_
 refine tx 8 13 ?_
 refine tx 9 14 ?_
 refine sx 10 15 ?_
 refine sx 11 16 ?_
 refine sx 12 17 ?_
 refine sx 13 18 ?_
 refine sx 14 19 ?_
 refine sx 15 20 ?_
 refine tx 16 21 ?_
 clear hHeld
 refine wdn ?_
 go_wp2
 go_ret
 exact ⟨rfl, bu B0 bB⟩

theorem specQcOk_b (n f v : Int) (s : ByteArray) (ao : Option Addr) (ca : Nat) (xs : List Int) (w : World) (hs : s.size ≤ 1048576) (ha : RI w (.slice ao xs.length ca) xs) (hc : decide (COk n f) = true) (hn : (stepsAns s).isSome = false) :
 Calls Tryz.prog 65 #[cv n f, qv v s (.slice ao xs.length ca)] w fun e w' => e = .returned (.bool (false)) ∧ Below w.heap.size w w' := by
 have CO:=hide fun w => specConfOk n f w
 have NO:=hide fun w => specNameOk s w (by omega)
 have VO:=hide fun w => specViewOf s w (by omega)
 have QU:=hide fun w => specQuorum n f w
 have SO:=hide fun w h => specSetOk n (.slice ao xs.length ca) xs w h
 obtain ⟨w0, hw0⟩ : ∃ w0, (w.alloc (.cells #[.int .i64 n,.int .i64 f] 33)).alloc (.cells #[.int .i64 v,.string s,.slice ao xs.length ca] 53) = w0:=⟨_, rfl⟩
 have B0 : Below w.heap.size w w0:=hw0 ▸ qalloc2 _ _ _
 have C0 : Loc w0 w.heap.size #[.int .i64 n,.int .i64 f]:=hw0 ▸ (loc_at w _ _ rfl).alloc _
 have G0 : Loc w0 (w.heap.size + 1) #[.int .i64 v,.string s,.slice ao xs.length ca]:=hw0 ▸ loc_at (w.alloc _) _ _ (by simp)
 have HA:=hide (ha.below B0)
 have K:=kw (ka (kc2 C0 0 1) (kc3 G0 0 1 2))
 rw [hc] at CO
 rw [hn] at NO
 clear hc hn VO QU SO
 obtain ⟨m, hm⟩ : ∃ m, xs.length = m:=⟨_, rfl⟩
 rw [hm] at K HA hw0 ⊢
 clear hm ha G0 C0
 go_enter Tryz.func65, Tryz.ntmps65
 go_upto_region 1 with fail
 clear hw0
 have bA : Below w0.heap.size w0 w0.drew:=Below.drew (Below.refl _ _)
 refine wp_region_noPanic ?_
 refine wp_region_held_drew (S := fun w' => Below w0.heap.size w0 w' ∧ (w'.cell? ⟨w.heap.size, 0, none⟩ = some (.int .i64 n) ∧ w'.cell? ⟨w.heap.size, 1, none⟩ = some (.int .i64 f)) ∧ (w'.cell? ⟨w.heap.size + 1, 0, none⟩ = some (.int .i64 v) ∧ w'.cell? ⟨w.heap.size + 1, 1, none⟩ = some (.string s) ∧ w'.cell? ⟨w.heap.size + 1, 2, none⟩ = some (.slice ao m ca))) (by kernel_rfl) (K.out _ bA) (fun hHeld => ?_)
 refine tx 0 5 ?_
 refine rd 1 rfl (fun KK hKK => ?_)
 go_simp
 have hgo:=bA
 refine (CO.out _).mono ?_
 rintro e wy1 ⟨rfl, bb⟩
 have bB : Below w0.heap.size w0 wy1:=bu bA bb
 clear bA hgo bb hHeld
 refine hKK.out _ _ (K.out _ bB) (fun hHeld => ?_)
 clear hKK KK
 refine tx 2 7 ?_
 refine tx 3 8 ?_
 refine tx 4 9 ?_
 refine tx 5 10 ?_
 refine rd 6 rfl (fun KK hKK => ?_)
 go_simp
 have hgo:=bB
 refine (NO.out _).mono ?_
 rintro e wy2 ⟨rfl, bb⟩
 have bC : Below w0.heap.size w0 wy2:=bu bB bb
 clear bB hgo bb hHeld
 refine hKK.out _ _ (K.out _ bC) (fun hHeld => ?_)
 clear hKK KK
 refine tx 7 12 ?_
 refine tx 8 13 ?_
 refine tx 9 14 ?_
 refine sx 10 15 ?_
 refine sx 11 16 ?_
 refine sx 12 17 ?_
 refine sx 13 18 ?_
 refine sx 14 19 ?_
 refine sx 15 20 ?_
 refine tx 16 21 ?_
 clear hHeld
 refine wdn ?_
 go_wp2
 go_ret
 exact ⟨rfl, bu B0 bC⟩

theorem specQcOk_c (n f v : Int) (s : ByteArray) (ao : Option Addr) (ca : Nat) (xs : List Int) (w : World) (hs : s.size ≤ 1048576) (ha : RI w (.slice ao xs.length ca) xs) (hc : decide (COk n f) = true) (hn : (stepsAns s).isSome = true) (hv : viewAns s ≠ v) :
 Calls Tryz.prog 65 #[cv n f, qv v s (.slice ao xs.length ca)] w fun e w' => e = .returned (.bool (false)) ∧ Below w.heap.size w w' := by
 have CO:=hide fun w => specConfOk n f w
 have NO:=hide fun w => specNameOk s w (by omega)
 have VO:=hide fun w => specViewOf s w (by omega)
 have QU:=hide fun w => specQuorum n f w
 have SO:=hide fun w h => specSetOk n (.slice ao xs.length ca) xs w h
 obtain ⟨w0, hw0⟩ : ∃ w0, (w.alloc (.cells #[.int .i64 n,.int .i64 f] 33)).alloc (.cells #[.int .i64 v,.string s,.slice ao xs.length ca] 53) = w0:=⟨_, rfl⟩
 have B0 : Below w.heap.size w w0:=hw0 ▸ qalloc2 _ _ _
 have C0 : Loc w0 w.heap.size #[.int .i64 n,.int .i64 f]:=hw0 ▸ (loc_at w _ _ rfl).alloc _
 have G0 : Loc w0 (w.heap.size + 1) #[.int .i64 v,.string s,.slice ao xs.length ca]:=hw0 ▸ loc_at (w.alloc _) _ _ (by simp)
 have HA:=hide (ha.below B0)
 have K:=kw (ka (kc2 C0 0 1) (kc3 G0 0 1 2))
 rw [hc] at CO
 rw [hn] at NO
 clear hc hn QU SO
 generalize viewAns s = q at *
 have d2 : (q == v) = false:=by simpa using hv
 obtain ⟨m, hm⟩ : ∃ m, xs.length = m:=⟨_, rfl⟩
 rw [hm] at K HA hw0 ⊢
 clear hm ha G0 C0
 go_enter Tryz.func65, Tryz.ntmps65
 go_upto_region 1 with fail
 clear hw0
 have bA : Below w0.heap.size w0 w0.drew:=Below.drew (Below.refl _ _)
 refine wp_region_noPanic ?_
 refine wp_region_held_drew (S := fun w' => Below w0.heap.size w0 w' ∧ (w'.cell? ⟨w.heap.size, 0, none⟩ = some (.int .i64 n) ∧ w'.cell? ⟨w.heap.size, 1, none⟩ = some (.int .i64 f)) ∧ (w'.cell? ⟨w.heap.size + 1, 0, none⟩ = some (.int .i64 v) ∧ w'.cell? ⟨w.heap.size + 1, 1, none⟩ = some (.string s) ∧ w'.cell? ⟨w.heap.size + 1, 2, none⟩ = some (.slice ao m ca))) (by kernel_rfl) (K.out _ bA) (fun hHeld => ?_)
 refine tx 0 5 ?_
 refine rd 1 rfl (fun KK hKK => ?_)
 go_simp
 have hgo:=bA
 refine (CO.out _).mono ?_
 rintro e wy1 ⟨rfl, bb⟩
 have bB : Below w0.heap.size w0 wy1:=bu bA bb
 clear bA hgo bb hHeld
 refine hKK.out _ _ (K.out _ bB) (fun hHeld => ?_)
 clear hKK KK
 refine tx 2 7 ?_
 refine tx 3 8 ?_
 refine tx 4 9 ?_
 refine tx 5 10 ?_
 refine rd 6 rfl (fun KK hKK => ?_)
 go_simp
 have hgo:=bB
 refine (NO.out _).mono ?_
 rintro e wy2 ⟨rfl, bb⟩
 have bC : Below w0.heap.size w0 wy2:=bu bB bb
 clear bB hgo bb hHeld
 refine hKK.out _ _ (K.out _ bC) (fun hHeld => ?_)
 clear hKK KK
 refine tx 7 12 ?_
 refine tx 8 13 ?_
 refine tx 9 14 ?_
 refine tx 10 15 ?_
 refine tx 11 16 ?_
 refine tx 13 18 ?_
 refine tx 14 19 ?_
 refine rd 12 rfl (fun KK hKK => ?_)
 go_simp
 have hgo:=bC
 refine (VO.out _).mono ?_
 rintro e wy3 ⟨rfl, bb⟩
 have bD : Below w0.heap.size w0 wy3:=bu bC bb
 clear bC hgo bb hHeld
 refine hKK.out _ _ (K.out _ bD) (fun hHeld => ?_)
 clear hKK KK
 refine tx 15 20 ?_
 refine tx 16 21 ?_
 clear hHeld
 refine wdn ?_
 go_wp2
 go_ret
 exact ⟨rfl, bu B0 bD⟩

theorem specQcOk_d (n f v : Int) (s : ByteArray) (ao : Option Addr) (ca : Nat) (xs : List Int) (w : World) (hs : s.size ≤ 1048576) (ha : RI w (.slice ao xs.length ca) xs) (hc : decide (COk n f) = true) (hn : (stepsAns s).isSome = true) (hv : viewAns s = v) (he : s = ⟨#[]⟩) :
 Calls Tryz.prog 65 #[cv n f, qv v s (.slice ao xs.length ca)] w fun e w' => e = .returned (.bool (((xs.length : Int) == 0))) ∧ Below w.heap.size w w' := by
 have CO:=hide fun w => specConfOk n f w
 have NO:=hide fun w => specNameOk s w (by omega)
 have VO:=hide fun w => specViewOf s w (by omega)
 have QU:=hide fun w => specQuorum n f w
 have SO:=hide fun w h => specSetOk n (.slice ao xs.length ca) xs w h
 obtain ⟨w0, hw0⟩ : ∃ w0, (w.alloc (.cells #[.int .i64 n,.int .i64 f] 33)).alloc (.cells #[.int .i64 v,.string s,.slice ao xs.length ca] 53) = w0:=⟨_, rfl⟩
 have B0 : Below w.heap.size w w0:=hw0 ▸ qalloc2 _ _ _
 have C0 : Loc w0 w.heap.size #[.int .i64 n,.int .i64 f]:=hw0 ▸ (loc_at w _ _ rfl).alloc _
 have G0 : Loc w0 (w.heap.size + 1) #[.int .i64 v,.string s,.slice ao xs.length ca]:=hw0 ▸ loc_at (w.alloc _) _ _ (by simp)
 have HA:=hide (ha.below B0)
 have K:=kw (ka (kc2 C0 0 1) (kc3 G0 0 1 2))
 rw [hc] at CO
 rw [hn] at NO
 rw [hv] at VO
 have hE : (s.toList == []) = true:=by rw [he, ByteArray.toList_eq]; rfl
 clear hc hn hv he QU SO
 obtain ⟨m, hm⟩ : ∃ m, xs.length = m:=⟨_, rfl⟩
 rw [hm] at K HA hw0 ⊢
 clear hm ha G0 C0
 go_enter Tryz.func65, Tryz.ntmps65
 go_upto_region 1 with fail
 clear hw0
 have bA : Below w0.heap.size w0 w0.drew:=Below.drew (Below.refl _ _)
 refine wp_region_noPanic ?_
 refine wp_region_held_drew (S := fun w' => Below w0.heap.size w0 w' ∧ (w'.cell? ⟨w.heap.size, 0, none⟩ = some (.int .i64 n) ∧ w'.cell? ⟨w.heap.size, 1, none⟩ = some (.int .i64 f)) ∧ (w'.cell? ⟨w.heap.size + 1, 0, none⟩ = some (.int .i64 v) ∧ w'.cell? ⟨w.heap.size + 1, 1, none⟩ = some (.string s) ∧ w'.cell? ⟨w.heap.size + 1, 2, none⟩ = some (.slice ao m ca))) (by kernel_rfl) (K.out _ bA) (fun hHeld => ?_)
 refine tx 0 5 ?_
 refine rd 1 rfl (fun KK hKK => ?_)
 go_simp
 have hgo:=bA
 refine (CO.out _).mono ?_
 rintro e wy1 ⟨rfl, bb⟩
 have bB : Below w0.heap.size w0 wy1:=bu bA bb
 clear bA hgo bb hHeld
 refine hKK.out _ _ (K.out _ bB) (fun hHeld => ?_)
 clear hKK KK
 refine tx 2 7 ?_
 refine tx 3 8 ?_
 refine tx 4 9 ?_
 refine tx 5 10 ?_
 refine rd 6 rfl (fun KK hKK => ?_)
 go_simp
 have hgo:=bB
 refine (NO.out _).mono ?_
 rintro e wy2 ⟨rfl, bb⟩
 have bC : Below w0.heap.size w0 wy2:=bu bB bb
 clear bB hgo bb hHeld
 refine hKK.out _ _ (K.out _ bC) (fun hHeld => ?_)
 clear hKK KK
 refine tx 7 12 ?_
 refine tx 8 13 ?_
 refine tx 9 14 ?_
 refine tx 10 15 ?_
 refine tx 11 16 ?_
 refine tx 13 18 ?_
 refine tx 14 19 ?_
 refine rd 12 rfl (fun KK hKK => ?_)
 go_simp
 have hgo:=bC
 refine (VO.out _).mono ?_
 rintro e wy3 ⟨rfl, bb⟩
 have bD : Below w0.heap.size w0 wy3:=bu bC bb
 clear bC hgo bb hHeld
 refine hKK.out _ _ (K.out _ bD) (fun hHeld => ?_)
 clear hKK KK
 refine tx 15 20 ?_
 refine tx 16 21 ?_
 clear hHeld
 refine wdn ?_
 have B1 : Below w.heap.size w wy3:=bu B0 bD
 have K1:=K.out _ bD
 try dsimp only at K1
 obtain ⟨_, ⟨c0, c1⟩, ⟨g0, g1, g2⟩⟩:=K1
 clear K HA NO VO CO
 go_wp2
 go_ret
 exact ⟨rfl, B1⟩

theorem specQcOk_e (n f v : Int) (s : ByteArray) (ao : Option Addr) (ca : Nat) (xs : List Int) (w : World) (hs : s.size ≤ 1048576) (ha : RI w (.slice ao xs.length ca) xs) (hc : decide (COk n f) = true) (hn : (stepsAns s).isSome = true) (hv : viewAns s = v) (he : s ≠ ⟨#[]⟩) (ho : decide (OkL n xs) = false)  :
 Calls Tryz.prog 65 #[cv n f, qv v s (.slice ao xs.length ca)] w fun e w' => e = .returned (.bool (false)) ∧ Below w.heap.size w w' := by
 have CO:=hide fun w => specConfOk n f w
 have NO:=hide fun w => specNameOk s w (by omega)
 have VO:=hide fun w => specViewOf s w (by omega)
 have QU:=hide fun w => specQuorum n f w
 have SO:=hide fun w h => specSetOk n (.slice ao xs.length ca) xs w h
 obtain ⟨w0, hw0⟩ : ∃ w0, (w.alloc (.cells #[.int .i64 n,.int .i64 f] 33)).alloc (.cells #[.int .i64 v,.string s,.slice ao xs.length ca] 53) = w0:=⟨_, rfl⟩
 have B0 : Below w.heap.size w w0:=hw0 ▸ qalloc2 _ _ _
 have C0 : Loc w0 w.heap.size #[.int .i64 n,.int .i64 f]:=hw0 ▸ (loc_at w _ _ rfl).alloc _
 have G0 : Loc w0 (w.heap.size + 1) #[.int .i64 v,.string s,.slice ao xs.length ca]:=hw0 ▸ loc_at (w.alloc _) _ _ (by simp)
 have HA:=hide (ha.below B0)
 have K:=kw (ka (kc2 C0 0 1) (kc3 G0 0 1 2))
 rw [hc] at CO
 rw [hn] at NO
 rw [hv] at VO
 rw [ho] at SO
 clear hc hn hv ho
 generalize quorumOf n f = qu at *
 have hne:=ne2 he
 obtain ⟨m, hm⟩ : ∃ m, xs.length = m:=⟨_, rfl⟩
 rw [hm] at K HA SO hw0 ⊢
 clear hm ha G0 C0
 go_enter Tryz.func65, Tryz.ntmps65
 go_upto_region 1 with fail
 clear hw0
 have bA : Below w0.heap.size w0 w0.drew:=Below.drew (Below.refl _ _)
 refine wp_region_noPanic ?_
 refine wp_region_held_drew (S := fun w' => Below w0.heap.size w0 w' ∧ (w'.cell? ⟨w.heap.size, 0, none⟩ = some (.int .i64 n) ∧ w'.cell? ⟨w.heap.size, 1, none⟩ = some (.int .i64 f)) ∧ (w'.cell? ⟨w.heap.size + 1, 0, none⟩ = some (.int .i64 v) ∧ w'.cell? ⟨w.heap.size + 1, 1, none⟩ = some (.string s) ∧ w'.cell? ⟨w.heap.size + 1, 2, none⟩ = some (.slice ao m ca))) (by kernel_rfl) (K.out _ bA) (fun hHeld => ?_)
 refine tx 0 5 ?_
 refine rd 1 rfl (fun KK hKK => ?_)
 go_simp
 have hgo:=bA
 refine (CO.out _).mono ?_
 rintro e wy1 ⟨rfl, bb⟩
 have bB : Below w0.heap.size w0 wy1:=bu bA bb
 clear bA hgo bb hHeld
 refine hKK.out _ _ (K.out _ bB) (fun hHeld => ?_)
 clear hKK KK
 refine tx 2 7 ?_
 refine tx 3 8 ?_
 refine tx 4 9 ?_
 refine tx 5 10 ?_
 refine rd 6 rfl (fun KK hKK => ?_)
 go_simp
 have hgo:=bB
 refine (NO.out _).mono ?_
 rintro e wy2 ⟨rfl, bb⟩
 have bC : Below w0.heap.size w0 wy2:=bu bB bb
 clear bB hgo bb hHeld
 refine hKK.out _ _ (K.out _ bC) (fun hHeld => ?_)
 clear hKK KK
 refine tx 7 12 ?_
 refine tx 8 13 ?_
 refine tx 9 14 ?_
 refine tx 10 15 ?_
 refine tx 11 16 ?_
 refine tx 13 18 ?_
 refine tx 14 19 ?_
 refine rd 12 rfl (fun KK hKK => ?_)
 go_simp
 have hgo:=bC
 refine (VO.out _).mono ?_
 rintro e wy3 ⟨rfl, bb⟩
 have bD : Below w0.heap.size w0 wy3:=bu bC bb
 clear bC hgo bb hHeld
 refine hKK.out _ _ (K.out _ bD) (fun hHeld => ?_)
 clear hKK KK
 refine tx 15 20 ?_
 refine tx 16 21 ?_
 clear hHeld
 refine wdn ?_
 have B1 : Below w.heap.size w wy3:=bu B0 bD
 have K1:=K.out _ bD
 try dsimp only at K1
 obtain ⟨_, ⟨c0, c1⟩, ⟨g0, g1, g2⟩⟩:=K1
 have K5 : Hid (∀ w', Below wy3.heap.size wy3 w' → (fun w' => Below wy3.heap.size wy3 w' ∧ (w'.cell? ⟨w.heap.size, 0, none⟩ = some (.int .i64 n) ∧ w'.cell? ⟨w.heap.size, 1, none⟩ = some (.int .i64 f)) ∧ (w'.cell? ⟨w.heap.size + 1, 0, none⟩ = some (.int .i64 v) ∧ w'.cell? ⟨w.heap.size + 1, 1, none⟩ = some (.string s) ∧ w'.cell? ⟨w.heap.size + 1, 2, none⟩ = some (.slice ao m ca))) w'):=hide fun w' hb' => ⟨hb', (K.out _ (bD.trans (hb'.mono bD.size))).2⟩
 have HA5:=hide (HA.out.below bD)
 clear NO VO CO K HA he
 go_upto_region 5 with fail
 clear c0 c1 g0 g1 g2
 have bA : Below wy3.heap.size wy3 wy3.drew:=Below.drew (Below.refl _ _)
 refine wp_region_noPanic ?_
 refine wp_region_held_drew (S := fun w' => Below wy3.heap.size wy3 w' ∧ (w'.cell? ⟨w.heap.size, 0, none⟩ = some (.int .i64 n) ∧ w'.cell? ⟨w.heap.size, 1, none⟩ = some (.int .i64 f)) ∧ (w'.cell? ⟨w.heap.size + 1, 0, none⟩ = some (.int .i64 v) ∧ w'.cell? ⟨w.heap.size + 1, 1, none⟩ = some (.string s) ∧ w'.cell? ⟨w.heap.size + 1, 2, none⟩ = some (.slice ao m ca))) (by kernel_rfl) (K5.out _ bA) (fun hHeld => ?_)
 refine tx 0 29 ?_
 refine tx 1 30 ?_
 refine tx 2 31 ?_
 refine tx 3 32 ?_
 refine rd 4 rfl (fun KK hKK => ?_)
 go_simp
 have hgo:=bA
 refine (SO.out _ (HA5.out.below hgo)).mono ?_
 rintro e wy5 ⟨rfl, bb⟩
 have bF : Below wy3.heap.size wy3 wy5:=bu bA bb
 clear bA hgo bb hHeld
 refine hKK.out _ _ (K5.out _ bF) (fun hHeld => ?_)
 clear hKK KK
 refine tx 5 34 ?_
 refine sx 6 35 ?_
 refine sx 7 36 ?_
 refine sx 8 37 ?_
 refine sx 9 38 ?_
 refine sx 10 39 ?_
 refine sx 11 40 ?_
 refine tx 12 41 ?_
 refine tx 13 4 ?_
 clear hHeld
 refine wdn ?_
 go_wp2
 go_ret
 exact ⟨rfl, bu B1 bF⟩

theorem specQcOk_f (n f v : Int) (s : ByteArray) (ao : Option Addr) (ca : Nat) (xs : List Int) (w : World) (hs : s.size ≤ 1048576) (ha : RI w (.slice ao xs.length ca) xs) (hc : decide (COk n f) = true) (hn : (stepsAns s).isSome = true) (hv : viewAns s = v) (he : s ≠ ⟨#[]⟩) (ho : decide (OkL n xs) = true) (hq : quorumOf n f ≤ (xs.length : Int)) :
 Calls Tryz.prog 65 #[cv n f, qv v s (.slice ao xs.length ca)] w fun e w' => e = .returned (.bool (true)) ∧ Below w.heap.size w w' := by
 have CO:=hide fun w => specConfOk n f w
 have NO:=hide fun w => specNameOk s w (by omega)
 have VO:=hide fun w => specViewOf s w (by omega)
 have QU:=hide fun w => specQuorum n f w
 have SO:=hide fun w h => specSetOk n (.slice ao xs.length ca) xs w h
 obtain ⟨w0, hw0⟩ : ∃ w0, (w.alloc (.cells #[.int .i64 n,.int .i64 f] 33)).alloc (.cells #[.int .i64 v,.string s,.slice ao xs.length ca] 53) = w0:=⟨_, rfl⟩
 have B0 : Below w.heap.size w w0:=hw0 ▸ qalloc2 _ _ _
 have C0 : Loc w0 w.heap.size #[.int .i64 n,.int .i64 f]:=hw0 ▸ (loc_at w _ _ rfl).alloc _
 have G0 : Loc w0 (w.heap.size + 1) #[.int .i64 v,.string s,.slice ao xs.length ca]:=hw0 ▸ loc_at (w.alloc _) _ _ (by simp)
 have HA:=hide (ha.below B0)
 have K:=kw (ka (kc2 C0 0 1) (kc3 G0 0 1 2))
 rw [hc] at CO
 rw [hn] at NO
 rw [hv] at VO
 rw [ho] at SO
 clear hc hn hv ho
 generalize quorumOf n f = qu at *
 have hne:=ne2 he
 obtain ⟨m, hm⟩ : ∃ m, xs.length = m:=⟨_, rfl⟩
 rw [hm] at K HA SO hw0 hq ⊢
 clear hm
 have d4 : decide (qu ≤ (m : Int)) = true:=by simpa using hq
 clear ha G0 C0
 go_enter Tryz.func65, Tryz.ntmps65
 go_upto_region 1 with fail
 clear hw0
 have bA : Below w0.heap.size w0 w0.drew:=Below.drew (Below.refl _ _)
 refine wp_region_noPanic ?_
 refine wp_region_held_drew (S := fun w' => Below w0.heap.size w0 w' ∧ (w'.cell? ⟨w.heap.size, 0, none⟩ = some (.int .i64 n) ∧ w'.cell? ⟨w.heap.size, 1, none⟩ = some (.int .i64 f)) ∧ (w'.cell? ⟨w.heap.size + 1, 0, none⟩ = some (.int .i64 v) ∧ w'.cell? ⟨w.heap.size + 1, 1, none⟩ = some (.string s) ∧ w'.cell? ⟨w.heap.size + 1, 2, none⟩ = some (.slice ao m ca))) (by kernel_rfl) (K.out _ bA) (fun hHeld => ?_)
 refine tx 0 5 ?_
 refine rd 1 rfl (fun KK hKK => ?_)
 go_simp
 have hgo:=bA
 refine (CO.out _).mono ?_
 rintro e wy1 ⟨rfl, bb⟩
 have bB : Below w0.heap.size w0 wy1:=bu bA bb
 clear bA hgo bb hHeld
 refine hKK.out _ _ (K.out _ bB) (fun hHeld => ?_)
 clear hKK KK
 refine tx 2 7 ?_
 refine tx 3 8 ?_
 refine tx 4 9 ?_
 refine tx 5 10 ?_
 refine rd 6 rfl (fun KK hKK => ?_)
 go_simp
 have hgo:=bB
 refine (NO.out _).mono ?_
 rintro e wy2 ⟨rfl, bb⟩
 have bC : Below w0.heap.size w0 wy2:=bu bB bb
 clear bB hgo bb hHeld
 refine hKK.out _ _ (K.out _ bC) (fun hHeld => ?_)
 clear hKK KK
 refine tx 7 12 ?_
 refine tx 8 13 ?_
 refine tx 9 14 ?_
 refine tx 10 15 ?_
 refine tx 11 16 ?_
 refine tx 13 18 ?_
 refine tx 14 19 ?_
 refine rd 12 rfl (fun KK hKK => ?_)
 go_simp
 have hgo:=bC
 refine (VO.out _).mono ?_
 rintro e wy3 ⟨rfl, bb⟩
 have bD : Below w0.heap.size w0 wy3:=bu bC bb
 clear bC hgo bb hHeld
 refine hKK.out _ _ (K.out _ bD) (fun hHeld => ?_)
 clear hKK KK
 refine tx 15 20 ?_
 refine tx 16 21 ?_
 clear hHeld
 refine wdn ?_
 have B1 : Below w.heap.size w wy3:=bu B0 bD
 have K1:=K.out _ bD
 try dsimp only at K1
 obtain ⟨_, ⟨c0, c1⟩, ⟨g0, g1, g2⟩⟩:=K1
 have K5 : Hid (∀ w', Below wy3.heap.size wy3 w' → (fun w' => Below wy3.heap.size wy3 w' ∧ (w'.cell? ⟨w.heap.size, 0, none⟩ = some (.int .i64 n) ∧ w'.cell? ⟨w.heap.size, 1, none⟩ = some (.int .i64 f)) ∧ (w'.cell? ⟨w.heap.size + 1, 0, none⟩ = some (.int .i64 v) ∧ w'.cell? ⟨w.heap.size + 1, 1, none⟩ = some (.string s) ∧ w'.cell? ⟨w.heap.size + 1, 2, none⟩ = some (.slice ao m ca))) w'):=hide fun w' hb' => ⟨hb', (K.out _ (bD.trans (hb'.mono bD.size))).2⟩
 have HA5:=hide (HA.out.below bD)
 clear NO VO CO K HA he
 go_upto_region 5 with fail
 clear c0 c1 g0 g1 g2
 have bA : Below wy3.heap.size wy3 wy3.drew:=Below.drew (Below.refl _ _)
 refine wp_region_noPanic ?_
 refine wp_region_held_drew (S := fun w' => Below wy3.heap.size wy3 w' ∧ (w'.cell? ⟨w.heap.size, 0, none⟩ = some (.int .i64 n) ∧ w'.cell? ⟨w.heap.size, 1, none⟩ = some (.int .i64 f)) ∧ (w'.cell? ⟨w.heap.size + 1, 0, none⟩ = some (.int .i64 v) ∧ w'.cell? ⟨w.heap.size + 1, 1, none⟩ = some (.string s) ∧ w'.cell? ⟨w.heap.size + 1, 2, none⟩ = some (.slice ao m ca))) (by kernel_rfl) (K5.out _ bA) (fun hHeld => ?_)
 refine tx 0 29 ?_
 refine tx 1 30 ?_
 refine tx 2 31 ?_
 refine tx 3 32 ?_
 refine rd 4 rfl (fun KK hKK => ?_)
 go_simp
 have hgo:=bA
 refine (SO.out _ (HA5.out.below hgo)).mono ?_
 rintro e wy5 ⟨rfl, bb⟩
 have bF : Below wy3.heap.size wy3 wy5:=bu bA bb
 clear bA hgo bb hHeld
 refine hKK.out _ _ (K5.out _ bF) (fun hHeld => ?_)
 clear hKK KK
 refine tx 5 34 ?_
 refine tx 6 35 ?_
 refine tx 7 36 ?_
 refine tx 8 37 ?_
 refine tx 9 38 ?_
 refine rd 10 rfl (fun KK hKK => ?_)
 go_simp
 have hgo:=bF
 refine (QU.out _).mono ?_
 rintro e wy6 ⟨rfl, bb⟩
 have bG : Below wy3.heap.size wy3 wy6:=bu bF bb
 clear bF hgo bb hHeld
 refine hKK.out _ _ (K5.out _ bG) (fun hHeld => ?_)
 clear hKK KK
 refine tx 11 40 ?_
 refine tx 12 41 ?_
 refine tx 13 4 ?_
 clear hHeld
 refine wdn ?_
 go_wp2
 go_ret
 exact ⟨rfl, bu B1 bG⟩

theorem specQcOk_g (n f v : Int) (s : ByteArray) (ao : Option Addr) (ca : Nat) (xs : List Int) (w : World) (hs : s.size ≤ 1048576) (ha : RI w (.slice ao xs.length ca) xs) (hc : decide (COk n f) = true) (hn : (stepsAns s).isSome = true) (hv : viewAns s = v) (he : s ≠ ⟨#[]⟩) (ho : decide (OkL n xs) = true) (hq : ¬ quorumOf n f ≤ (xs.length : Int)) :
 Calls Tryz.prog 65 #[cv n f, qv v s (.slice ao xs.length ca)] w fun e w' => e = .returned (.bool (false)) ∧ Below w.heap.size w w' := by
 have CO:=hide fun w => specConfOk n f w
 have NO:=hide fun w => specNameOk s w (by omega)
 have VO:=hide fun w => specViewOf s w (by omega)
 have QU:=hide fun w => specQuorum n f w
 have SO:=hide fun w h => specSetOk n (.slice ao xs.length ca) xs w h
 obtain ⟨w0, hw0⟩ : ∃ w0, (w.alloc (.cells #[.int .i64 n,.int .i64 f] 33)).alloc (.cells #[.int .i64 v,.string s,.slice ao xs.length ca] 53) = w0:=⟨_, rfl⟩
 have B0 : Below w.heap.size w w0:=hw0 ▸ qalloc2 _ _ _
 have C0 : Loc w0 w.heap.size #[.int .i64 n,.int .i64 f]:=hw0 ▸ (loc_at w _ _ rfl).alloc _
 have G0 : Loc w0 (w.heap.size + 1) #[.int .i64 v,.string s,.slice ao xs.length ca]:=hw0 ▸ loc_at (w.alloc _) _ _ (by simp)
 have HA:=hide (ha.below B0)
 have K:=kw (ka (kc2 C0 0 1) (kc3 G0 0 1 2))
 rw [hc] at CO
 rw [hn] at NO
 rw [hv] at VO
 rw [ho] at SO
 clear hc hn hv ho
 generalize quorumOf n f = qu at *
 have hne:=ne2 he
 obtain ⟨m, hm⟩ : ∃ m, xs.length = m:=⟨_, rfl⟩
 rw [hm] at K HA SO hw0 hq ⊢
 clear hm
 have d4 : decide (qu ≤ (m : Int)) = false:=by simpa using hq
 clear ha G0 C0
 go_enter Tryz.func65, Tryz.ntmps65
 go_upto_region 1 with fail
 clear hw0
 have bA : Below w0.heap.size w0 w0.drew:=Below.drew (Below.refl _ _)
 refine wp_region_noPanic ?_
 refine wp_region_held_drew (S := fun w' => Below w0.heap.size w0 w' ∧ (w'.cell? ⟨w.heap.size, 0, none⟩ = some (.int .i64 n) ∧ w'.cell? ⟨w.heap.size, 1, none⟩ = some (.int .i64 f)) ∧ (w'.cell? ⟨w.heap.size + 1, 0, none⟩ = some (.int .i64 v) ∧ w'.cell? ⟨w.heap.size + 1, 1, none⟩ = some (.string s) ∧ w'.cell? ⟨w.heap.size + 1, 2, none⟩ = some (.slice ao m ca))) (by kernel_rfl) (K.out _ bA) (fun hHeld => ?_)
 refine tx 0 5 ?_
 refine rd 1 rfl (fun KK hKK => ?_)
 go_simp
 have hgo:=bA
 refine (CO.out _).mono ?_
 rintro e wy1 ⟨rfl, bb⟩
 have bB : Below w0.heap.size w0 wy1:=bu bA bb
 clear bA hgo bb hHeld
 refine hKK.out _ _ (K.out _ bB) (fun hHeld => ?_)
 clear hKK KK
 refine tx 2 7 ?_
 refine tx 3 8 ?_
 refine tx 4 9 ?_
 refine tx 5 10 ?_
 refine rd 6 rfl (fun KK hKK => ?_)
 go_simp
 have hgo:=bB
 refine (NO.out _).mono ?_
 rintro e wy2 ⟨rfl, bb⟩
 have bC : Below w0.heap.size w0 wy2:=bu bB bb
 clear bB hgo bb hHeld
 refine hKK.out _ _ (K.out _ bC) (fun hHeld => ?_)
 clear hKK KK
 refine tx 7 12 ?_
 refine tx 8 13 ?_
 refine tx 9 14 ?_
 refine tx 10 15 ?_
 refine tx 11 16 ?_
 refine tx 13 18 ?_
 refine tx 14 19 ?_
 refine rd 12 rfl (fun KK hKK => ?_)
 go_simp
 have hgo:=bC
 refine (VO.out _).mono ?_
 rintro e wy3 ⟨rfl, bb⟩
 have bD : Below w0.heap.size w0 wy3:=bu bC bb
 clear bC hgo bb hHeld
 refine hKK.out _ _ (K.out _ bD) (fun hHeld => ?_)
 clear hKK KK
 refine tx 15 20 ?_
 refine tx 16 21 ?_
 clear hHeld
 refine wdn ?_
 have B1 : Below w.heap.size w wy3:=bu B0 bD
 have K1:=K.out _ bD
 try dsimp only at K1
 obtain ⟨_, ⟨c0, c1⟩, ⟨g0, g1, g2⟩⟩:=K1
 have K5 : Hid (∀ w', Below wy3.heap.size wy3 w' → (fun w' => Below wy3.heap.size wy3 w' ∧ (w'.cell? ⟨w.heap.size, 0, none⟩ = some (.int .i64 n) ∧ w'.cell? ⟨w.heap.size, 1, none⟩ = some (.int .i64 f)) ∧ (w'.cell? ⟨w.heap.size + 1, 0, none⟩ = some (.int .i64 v) ∧ w'.cell? ⟨w.heap.size + 1, 1, none⟩ = some (.string s) ∧ w'.cell? ⟨w.heap.size + 1, 2, none⟩ = some (.slice ao m ca))) w'):=hide fun w' hb' => ⟨hb', (K.out _ (bD.trans (hb'.mono bD.size))).2⟩
 have HA5:=hide (HA.out.below bD)
 clear NO VO CO K HA he
 go_upto_region 5 with fail
 clear c0 c1 g0 g1 g2
 have bA : Below wy3.heap.size wy3 wy3.drew:=Below.drew (Below.refl _ _)
 refine wp_region_noPanic ?_
 refine wp_region_held_drew (S := fun w' => Below wy3.heap.size wy3 w' ∧ (w'.cell? ⟨w.heap.size, 0, none⟩ = some (.int .i64 n) ∧ w'.cell? ⟨w.heap.size, 1, none⟩ = some (.int .i64 f)) ∧ (w'.cell? ⟨w.heap.size + 1, 0, none⟩ = some (.int .i64 v) ∧ w'.cell? ⟨w.heap.size + 1, 1, none⟩ = some (.string s) ∧ w'.cell? ⟨w.heap.size + 1, 2, none⟩ = some (.slice ao m ca))) (by kernel_rfl) (K5.out _ bA) (fun hHeld => ?_)
 refine tx 0 29 ?_
 refine tx 1 30 ?_
 refine tx 2 31 ?_
 refine tx 3 32 ?_
 refine rd 4 rfl (fun KK hKK => ?_)
 go_simp
 have hgo:=bA
 refine (SO.out _ (HA5.out.below hgo)).mono ?_
 rintro e wy5 ⟨rfl, bb⟩
 have bF : Below wy3.heap.size wy3 wy5:=bu bA bb
 clear bA hgo bb hHeld
 refine hKK.out _ _ (K5.out _ bF) (fun hHeld => ?_)
 clear hKK KK
 refine tx 5 34 ?_
 refine tx 6 35 ?_
 refine tx 7 36 ?_
 refine tx 8 37 ?_
 refine tx 9 38 ?_
 refine rd 10 rfl (fun KK hKK => ?_)
 go_simp
 have hgo:=bF
 refine (QU.out _).mono ?_
 rintro e wy6 ⟨rfl, bb⟩
 have bG : Below wy3.heap.size wy3 wy6:=bu bF bb
 clear bF hgo bb hHeld
 refine hKK.out _ _ (K5.out _ bG) (fun hHeld => ?_)
 clear hKK KK
 refine tx 11 40 ?_
 refine tx 12 41 ?_
 refine tx 13 4 ?_
 clear hHeld
 refine wdn ?_
 go_wp2
 go_ret
 exact ⟨rfl, bu B1 bG⟩

theorem specQcOk (n f v : Int) (s : ByteArray) (ao : Option Addr) (ca : Nat) (xs : List Int) (w : World) (hs : s.size ≤ 1048576) (ha : RI w (.slice ao xs.length ca) xs) :
 Calls Tryz.prog 65 #[cv n f, qv v s (.slice ao xs.length ca)] w fun e w' => e = .returned (.bool (qokB n f v s xs)) ∧ Below w.heap.size w w' := by
 unfold qokB
 have hxe : decide (xs = []) = ((xs.length : Int) == 0):=by cases xs with | nil => rfl | cons a l => simp; omega
 rw [hxe]
 clear hxe
 cases hc : decide (COk n f) with
 | false => simpa using specQcOk_a n f v s ao ca xs w hs ha hc
 | true =>
  cases hn : (stepsAns s).isSome with
  | false => simpa using specQcOk_b n f v s ao ca xs w hs ha hc hn
  | true =>
   by_cases hv : viewAns s = v
   ·have d2 : (viewAns s == v) = true:=by simpa using hv
    rw [d2]
    by_cases he : s = ⟨#[]⟩
    ·rw [if_pos he]; simpa only [Bool.true_and] using specQcOk_d n f v s ao ca xs w hs ha hc hn hv he
    rw [if_neg he]
    cases ho : decide (OkL n xs) with
    | false => simpa only [Bool.true_and, Bool.false_and] using specQcOk_e n f v s ao ca xs w hs ha hc hn hv he ho
    | true =>
     by_cases hq : quorumOf n f ≤ (xs.length : Int)
     ·rw [decide_eq_true hq]; simpa only [Bool.true_and] using specQcOk_f n f v s ao ca xs w hs ha hc hn hv he ho hq
     rw [decide_eq_false hq]; simpa only [Bool.true_and] using specQcOk_g n f v s ao ca xs w hs ha hc hn hv he ho hq
   have d2 : (viewAns s == v) = false:=by simpa using hv
   rw [d2]; simpa only [Bool.true_and, Bool.false_and] using specQcOk_c n f v s ao ca xs w hs ha hc hn hv
end
end Go.Proofs.YtjkcphnohhpihaaGreatDoor
