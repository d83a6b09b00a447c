/- DrawBlockOk, DrawBlockNew, DrawBlockSame. -/
import Derived.Test.YtggmgfkmbgcooaaGreatDoorDrawBlk2Q
import Derived.Test.YtggmgfkmbgcooaaGreatDoorBunO
/- DrawBlockOk, DrawBlockNew, DrawBlockSame. -/
namespace Go.Proofs.YtggmgfkmbgcooaaGreatDoor
open Go.RowKit
set_option linter.unusedSectionVars false
variable [∀ (a b c d : Int), Decidable (Ok4 a b c d)]
variable [∀ (a b c d : Nat), Decidable (okN a b c d)]
variable [∀ (last : Int) (s : St), Decidable (GoodSt last s)]
variable [∀ (x : T4), Decidable (OkT x)]
variable [∀ (n : Int) (s : List Int), Decidable (OkL n s)]
variable [∀ (n f : Int), Decidable (COk n f)]
variable [∀ (ts : List T4), Decidable (AllOk ts)]

theorem ot_cap {w : World} {base : Nat} {a : Option Addr} {n c : Nat} {xs : List T4} (h : OT w base (.slice a n c) xs) : xs.length ≤ c := by
  rcases h.2 with ⟨e, h0⟩ | ⟨g, cap, cur, e, _, _, hc, _⟩
  · omega
  · cases e; exact hc
/-- The first two of a list. -/
theorem rt_two {w : World} {a : Option Addr} {n c : Nat} {xs : List T4} (h : RT w (.slice a n c) xs) (hn : xs.length = n) (h2 : 2 < n) : RT w (.slice a 2 c) (xs.take 2) := by
  obtain ⟨_, ao, cap, e, hr⟩ := h
  cases e
  have ht : (xs.take 2).length = 2 := by simp; omega
  refine ⟨by omega, a, c, by rw [ht], .inr ?_⟩
  rcases hr with rfl | ⟨g, rfl, hr⟩
  · simp at h2
  · refine ⟨g, rfl, fun k hk => ?_⟩
    have hk2 : k < 2 := by omega
    have e : (xs.take 2).getD k (0, 0, 0, 0) = xs.getD k (0, 0, 0, 0) := by simp [List.getD_eq_getElem?_getD, hk2]
    rw [e]
    exact hr k (by omega)

set_option maxHeartbeats 8000000 in
set_option maxRecDepth 100000 in
theorem drawBlockOk (ao : Option Addr) (ca : Nat) (zs : List Int) (w : World) (h : DCode w ao zs) :
    Calls Tryz.prog 7 #[.slice ao zs.length ca] w fun e w' => ∃ (n f : Int) (m : ByteArray) (v : Int) (s : ByteArray) (u : Value) (xs : List Int), e = .returned (.tuple #[cv n f, bv m v s u]) ∧ m.size ≤ 8001 ∧ (-1 ≤ v ∧ v ≤ 61) ∧ s.size ≤ 8001 ∧ xs.length ≤ 9 ∧ Hid (WfL xs) ∧ OI w' w.heap.size u xs ∧ Below w.heap.size w w' := by
  obtain ⟨w0, hw0⟩ : ∃ w0, (w.alloc (.cells #[.int .i64 0, .int .i64 0] 25)).alloc (.cells #[.string ⟨#[]⟩, .int .i64 0, .string ⟨#[]⟩, .slice none 0 0] 30) = w0 := ⟨_, rfl⟩
  have B : Below w.heap.size w w0 := hw0 ▸ qalloc2 _ _ _
  have R : Loc w0 w.heap.size #[.int .i64 0, .int .i64 0] := hw0 ▸ (loc_at w _ _ rfl).alloc _
  have Z : Loc w0 (w.heap.size + 1) #[.string ⟨#[]⟩, .int .i64 0, .string ⟨#[]⟩, .slice none 0 0] := hw0 ▸ loc_at (w.alloc _) _ _ (by simp)
  have s0 : w.heap.size + 1 + 1 ≤ w0.heap.size := by rw [← hw0]; simp
  have D0 := h.below B (Nat.le_refl _)
  have NW := hide (new_any ao ca zs w0 D0.len D0.code D0.fit)
  clear h D0
  go_enter Tryz.func7, Tryz.ntmps7
  go_wp2_with fail
  clear hw0
  refine (unhide NW).mono ?_
  rintro e w1 ⟨rfl, C, b1⟩
  replace B := B.trans (b1.mono B.size)
  replace R := R.below b1 R.lt
  replace Z := Z.below b1 Z.lt
  have s1 := b1.size
  generalize w0.heap.size = g at *
  have hg1 := C.lt
  clear b1 NW
  go_wp2_with fail
  refine (drawConf g g ca ao zs _ (by omega) C).mono ?_
  rintro e w2 ⟨n, f, rfl, ⟨hn0, hn1⟩, c1, e1⟩
  have s2 := e1.size
  replace R := R.grown e1 (by omega)
  replace Z := Z.grown e1 (by omega)
  replace B := cur_below e1 B B.size (by omega)
  replace C := c1
  clear c1 e1
  obtain ⟨w3, hw3⟩ : ∃ y, w2.alloc (.cells #[.int .i64 n, .int .i64 f] 25) = y := ⟨_, rfl⟩
  have bb : Below w2.heap.size w2 w3 := hw3 ▸ qalloc _ _
  have X : Loc w3 w2.heap.size #[.int .i64 n, .int .i64 f] := hw3 ▸ loc_at w2 _ _ rfl
  have s3 : w2.heap.size + 1 ≤ w3.heap.size := by rw [← hw3]; simp
  replace R := R.below bb R.lt
  replace Z := Z.below bb Z.lt
  replace C := C.below (by omega) bb
  replace B := B.trans (bb.mono B.size)
  clear bb
  have x0 := X.cell 0 rfl
  have x1 := X.cell 1 rfl
  go_wp2_with fail
  clear hw3
  refine (drawBlk g g ca ao zs n f _ (by omega) hn0 hn1 C).mono ?_
  rintro e w4 ⟨m, v, s, u, xs, rfl, hm, hv, hs, hl, hw, O, c1, e1⟩
  have s4 := e1.size
  replace R := R.grown e1 (by omega)
  replace Z := Z.grown e1 (by omega)
  replace X := X.grown e1 (by omega)
  replace B := cur_below e1 B B.size (by omega)
  replace C := c1
  clear c1 e1
  clear x0 x1
  have tO := World.ownsRow.lt O
  obtain ⟨ua, uc, rfl⟩ := O.form
  obtain ⟨uk, huk⟩ : ∃ k, xs.length = k := ⟨_, rfl⟩
  rw [huk] at O tO ⊢
  obtain ⟨w5, hw5⟩ : ∃ y, w4.alloc (.cells #[.string m, .int .i64 v, .string s, .slice ua uk uc] 30) = y := ⟨_, rfl⟩
  have bb : Below w4.heap.size w4 w5 := hw5 ▸ qalloc _ _
  have Y : Loc w5 w4.heap.size #[.string m, .int .i64 v, .string s, .slice ua uk uc] := hw5 ▸ loc_at w4 _ _ rfl
  have s5 : w4.heap.size + 1 ≤ w5.heap.size := by rw [← hw5]; simp
  replace R := R.below bb R.lt
  replace Z := Z.below bb Z.lt
  replace X := X.below bb X.lt
  replace O := O.below bb
  replace C := C.below (by omega) bb
  replace B := B.trans (bb.mono B.size)
  clear bb
  go_wp2_with fail
  clear hw5
  refine (once_any g g ca ao zs 10 _ (by omega) (by omega) (by omega) C).mono ?_
  rintro e w6 ⟨b, rfl, c1, e1⟩
  have s6 := e1.size
  replace R := R.grown e1 (by omega)
  replace Z := Z.grown e1 (by omega)
  replace X := X.grown e1 (by omega)
  replace Y := Y.grown e1 (by omega)
  replace O := O.drawn e1 (by omega)
  replace B := cur_below e1 B B.size (by omega)
  replace C := c1
  clear c1 e1
  cases b
  · go_upto_region 6 with fail
    refine wp_region_noPanic ?_
    refine wp_region_held_drew (S := fun w' => (w'.cell? ⟨w2.heap.size, 0, none⟩ = some (.int .i64 n) ∧ w'.cell? ⟨w2.heap.size, 1, none⟩ = some (.int .i64 f)) ∧ (w'.cell? ⟨w4.heap.size, 0, none⟩ = some (.string m) ∧ w'.cell? ⟨w4.heap.size, 1, none⟩ = some (.int .i64 v) ∧ w'.cell? ⟨w4.heap.size, 2, none⟩ = some (.string s) ∧ w'.cell? ⟨w4.heap.size, 3, none⟩ = some (.slice ua uk uc))) (by kernel_rfl) ⟨⟨X.cell 0 rfl, X.cell 1 rfl⟩, ⟨Y.cell 0 rfl, Y.cell 1 rfl, Y.cell 2 rfl, Y.cell 3 rfl⟩⟩ (fun hHeld => ?_)
    obtain ⟨wd, hd⟩ : ∃ wd, w6.drew = wd := ⟨_, rfl⟩
    have bd : Below w6.heap.size w6 wd := hd ▸ Below.drew (Below.refl _ _)
    have sd : w6.heap.size ≤ wd.heap.size := bd.size
    replace R := R.below bd R.lt
    replace Z := Z.below bd Z.lt
    replace X := X.below bd X.lt
    replace Y := Y.below bd Y.lt
    replace O := O.below bd
    replace C := C.below (by omega) bd
    replace B := B.trans (bd.mono B.size)
    rw [hd] at hHeld ⊢
    clear hd bd
    refine take_at (i := 0) (d := 18) (v := ?_) rfl rfl (by kernel_rfl) (by kernel_rfl) (by kernel_rfl) (fun _ _ _ h => h) (Or.inl ⟨by rfl, ?_⟩) (by assumption) ?_
    rotate_left
    · intro w hSw
      try dsimp only at hSw
      go_simp
      try with_reducible rfl
    simp only [Act.put, List.setIfInBounds_toArray, List.set_cons_zero, List.set_cons_succ]
    refine take_at (i := 1) (d := 19) (v := ?_) rfl rfl (by kernel_rfl) (by kernel_rfl) (by kernel_rfl) (fun _ _ _ h => h) (Or.inl ⟨by rfl, ?_⟩) (by assumption) ?_
    rotate_left
    · intro w hSw
      try dsimp only at hSw
      go_simp
      try with_reducible rfl
    simp only [Act.put, List.setIfInBounds_toArray, List.set_cons_zero, List.set_cons_succ]
    have c0 := R.cell 0 rfl
    have c1 := R.cell 1 rfl
    have fc := R.frozen
    refine ready_at (i := 2) rfl (by kernel_rfl) (fun KK hKK => ?_)
    go_simp
    obtain ⟨wa, hwa⟩ : ∃ y, ((wd.setCell ⟨w.heap.size, 0, none⟩ (.int .i64 n)).setCell ⟨w.heap.size, 1, none⟩ (.int .i64 f)) = y := ⟨_, rfl⟩
    have kwa : Kp wd wa (fun k => k = w.heap.size) := hwa ▸ (set_kp _ _ _ _).trans (set_kp _ _ _ _)
    replace R : Loc wa (w.heap.size) #[.int .i64 n, .int .i64 f] := hwa ▸ ((R.set 0 _ rfl).set 1 _ rfl)
    replace Z := Z.kp kwa (by omega)
    replace X := X.kp kwa (by omega)
    replace Y := Y.kp kwa (by omega)
    replace O := O.kp kwa (fun j hj e => by have := tO j hj; omega)
    replace B := Below.kp B kwa B.size (fun k hk => by omega)
    have zwa := kwa.size
    rw [hwa]
    clear hwa kwa c0 c1 fc
    clear hHeld
    refine hKK.out _ _ ⟨⟨X.cell 0 rfl, X.cell 1 rfl⟩, ⟨Y.cell 0 rfl, Y.cell 1 rfl, Y.cell 2 rfl, Y.cell 3 rfl⟩⟩ (fun hHeld => ?_)
    clear hKK KK
    have c0 := Z.cell 0 rfl
    have c1 := Z.cell 1 rfl
    have c2 := Z.cell 2 rfl
    have c3 := Z.cell 3 rfl
    have fc := Z.frozen
    refine ready_at (i := 3) rfl (by kernel_rfl) (fun KK hKK => ?_)
    go_simp
    obtain ⟨wb, hwb⟩ : ∃ y, ((((wa.setCell ⟨w.heap.size + 1, 0, none⟩ (.string m)).setCell ⟨w.heap.size + 1, 1, none⟩ (.int .i64 v)).setCell ⟨w.heap.size + 1, 2, none⟩ (.string s)).setCell ⟨w.heap.size + 1, 3, none⟩ (.slice ua uk uc)) = y := ⟨_, rfl⟩
    have kwb : Kp wa wb (fun k => k = w.heap.size + 1) := hwb ▸ (((set_kp _ _ _ _).trans (set_kp _ _ _ _)).trans (set_kp _ _ _ _)).trans (set_kp _ _ _ _)
    replace Z : Loc wb (w.heap.size + 1) #[.string m, .int .i64 v, .string s, .slice ua uk uc] := hwb ▸ ((((Z.set 0 _ rfl).set 1 _ rfl).set 2 _ rfl).set 3 _ rfl)
    replace R := R.kp kwb (by omega)
    replace X := X.kp kwb (by omega)
    replace Y := Y.kp kwb (by omega)
    replace O := O.kp kwb (fun j hj e => by have := tO j hj; omega)
    replace B := Below.kp B kwb B.size (fun k hk => by omega)
    have zwb := kwb.size
    rw [hwb]
    clear hwb kwb c0 c1 c2 c3 fc
    clear hHeld
    refine hKK.out _ _ ⟨⟨X.cell 0 rfl, X.cell 1 rfl⟩, ⟨Y.cell 0 rfl, Y.cell 1 rfl, Y.cell 2 rfl, Y.cell 3 rfl⟩⟩ (fun hHeld => ?_)
    clear hKK KK
    clear hHeld
    refine wpAnyH_done (by kernel_rfl) ?_ _
    refine NoPanic.normal ?_
    have r0 := R.cell 0 rfl
    have r1 := R.cell 1 rfl
    have z0 := Z.cell 0 rfl
    have z1 := Z.cell 1 rfl
    have z2 := Z.cell 2 rfl
    have z3 := Z.cell 3 rfl
    clear R Z X Y C
    go_wp2
    refine bodyPost_ret (v := .tuple #[cv n f, bv m v s (.slice ua uk uc)]) (by simp [results, Tryz.results7, go_sem, r0, r1, z0, z1, z2, z3]) rfl ?_
    exact ⟨_, _, _, _, _, _, xs, rfl, hm, hv, hs, (by omega), hw, O.mono (by omega), B⟩
  · go_wp2_with fail
    refine (drawBent g g ca ao zs _ (by omega) C).mono ?_
    rintro e w7 ⟨n', f', rfl, c1, e1⟩
    have s7 := e1.size
    replace R := R.grown e1 (by omega)
    replace Z := Z.grown e1 (by omega)
    replace X := X.grown e1 (by omega)
    replace Y := Y.grown e1 (by omega)
    replace O := O.drawn e1 (by omega)
    replace B := cur_below e1 B B.size (by omega)
    replace C := c1
    clear c1 e1
    have x0 := X.cell 0 rfl
    have x1 := X.cell 1 rfl
    have fx := X.frozen
    obtain ⟨w8, hw8⟩ : ∃ y, ((w7.setCell ⟨w2.heap.size, 0, none⟩ (.int .i64 n')).setCell ⟨w2.heap.size, 1, none⟩ (.int .i64 f')) = y := ⟨_, rfl⟩
    have K8 : Kp w7 w8 (fun k => k = w2.heap.size) := hw8 ▸ (set_kp _ _ _ _).trans (set_kp _ _ _ _)
    have X8 : Loc w8 (w2.heap.size) #[.int .i64 n', .int .i64 f'] := hw8 ▸ (X.set 0 _ rfl).set 1 _ rfl
    have C8 : Cur w8 g g ao ca zs := hw8 ▸ (C.set (by omega) _ _).set (by omega) _ _
    replace R := R.kp K8 (by omega)
    replace Z := Z.kp K8 (by omega)
    replace Y := Y.kp K8 (by omega)
    replace O := O.kp K8 (fun j hj e => by have := tO j hj; omega)
    replace B := Below.kp B K8 B.size (fun k hk => by omega)
    have s8 := K8.size
    clear K8 X C
    have X := X8
    have C := C8
    clear X8 C8
    go_upto_region 6 with fail
    clear hw8 x0 x1 fx
    refine wp_region_noPanic ?_
    refine wp_region_held_drew (S := fun w' => (w'.cell? ⟨w2.heap.size, 0, none⟩ = some (.int .i64 n') ∧ w'.cell? ⟨w2.heap.size, 1, none⟩ = some (.int .i64 f')) ∧ (w'.cell? ⟨w4.heap.size, 0, none⟩ = some (.string m) ∧ w'.cell? ⟨w4.heap.size, 1, none⟩ = some (.int .i64 v) ∧ w'.cell? ⟨w4.heap.size, 2, none⟩ = some (.string s) ∧ w'.cell? ⟨w4.heap.size, 3, none⟩ = some (.slice ua uk uc))) (by kernel_rfl) ⟨⟨X.cell 0 rfl, X.cell 1 rfl⟩, ⟨Y.cell 0 rfl, Y.cell 1 rfl, Y.cell 2 rfl, Y.cell 3 rfl⟩⟩ (fun hHeld => ?_)
    obtain ⟨wd, hd⟩ : ∃ wd, w8.drew = wd := ⟨_, rfl⟩
    have bd : Below w8.heap.size w8 wd := hd ▸ Below.drew (Below.refl _ _)
    have sd : w8.heap.size ≤ wd.heap.size := bd.size
    replace R := R.below bd R.lt
    replace Z := Z.below bd Z.lt
    replace X := X.below bd X.lt
    replace Y := Y.below bd Y.lt
    replace O := O.below bd
    replace C := C.below (by omega) bd
    replace B := B.trans (bd.mono B.size)
    rw [hd] at hHeld ⊢
    clear hd bd
    refine take_at (i := 0) (d := 18) (v := ?_) rfl rfl (by kernel_rfl) (by kernel_rfl) (by kernel_rfl) (fun _ _ _ h => h) (Or.inl ⟨by rfl, ?_⟩) (by assumption) ?_
    rotate_left
    · intro w hSw
      try dsimp only at hSw
      go_simp
      try with_reducible rfl
    simp only [Act.put, List.setIfInBounds_toArray, List.set_cons_zero, List.set_cons_succ]
    refine take_at (i := 1) (d := 19) (v := ?_) rfl rfl (by kernel_rfl) (by kernel_rfl) (by kernel_rfl) (fun _ _ _ h => h) (Or.inl ⟨by rfl, ?_⟩) (by assumption) ?_
    rotate_left
    · intro w hSw
      try dsimp only at hSw
      go_simp
      try with_reducible rfl
    simp only [Act.put, List.setIfInBounds_toArray, List.set_cons_zero, List.set_cons_succ]
    have c0 := R.cell 0 rfl
    have c1 := R.cell 1 rfl
    have fc := R.frozen
    refine ready_at (i := 2) rfl (by kernel_rfl) (fun KK hKK => ?_)
    go_simp
    obtain ⟨wa, hwa⟩ : ∃ y, ((wd.setCell ⟨w.heap.size, 0, none⟩ (.int .i64 n')).setCell ⟨w.heap.size, 1, none⟩ (.int .i64 f')) = y := ⟨_, rfl⟩
    have kwa : Kp wd wa (fun k => k = w.heap.size) := hwa ▸ (set_kp _ _ _ _).trans (set_kp _ _ _ _)
    replace R : Loc wa (w.heap.size) #[.int .i64 n', .int .i64 f'] := hwa ▸ ((R.set 0 _ rfl).set 1 _ rfl)
    replace Z := Z.kp kwa (by omega)
    replace X := X.kp kwa (by omega)
    replace Y := Y.kp kwa (by omega)
    replace O := O.kp kwa (fun j hj e => by have := tO j hj; omega)
    replace B := Below.kp B kwa B.size (fun k hk => by omega)
    have zwa := kwa.size
    rw [hwa]
    clear hwa kwa c0 c1 fc
    clear hHeld
    refine hKK.out _ _ ⟨⟨X.cell 0 rfl, X.cell 1 rfl⟩, ⟨Y.cell 0 rfl, Y.cell 1 rfl, Y.cell 2 rfl, Y.cell 3 rfl⟩⟩ (fun hHeld => ?_)
    clear hKK KK
    have c0 := Z.cell 0 rfl
    have c1 := Z.cell 1 rfl
    have c2 := Z.cell 2 rfl
    have c3 := Z.cell 3 rfl
    have fc := Z.frozen
    refine ready_at (i := 3) rfl (by kernel_rfl) (fun KK hKK => ?_)
    go_simp
    obtain ⟨wb, hwb⟩ : ∃ y, ((((wa.setCell ⟨w.heap.size + 1, 0, none⟩ (.string m)).setCell ⟨w.heap.size + 1, 1, none⟩ (.int .i64 v)).setCell ⟨w.heap.size + 1, 2, none⟩ (.string s)).setCell ⟨w.heap.size + 1, 3, none⟩ (.slice ua uk uc)) = y := ⟨_, rfl⟩
    have kwb : Kp wa wb (fun k => k = w.heap.size + 1) := hwb ▸ (((set_kp _ _ _ _).trans (set_kp _ _ _ _)).trans (set_kp _ _ _ _)).trans (set_kp _ _ _ _)
    replace Z : Loc wb (w.heap.size + 1) #[.string m, .int .i64 v, .string s, .slice ua uk uc] := hwb ▸ ((((Z.set 0 _ rfl).set 1 _ rfl).set 2 _ rfl).set 3 _ rfl)
    replace R := R.kp kwb (by omega)
    replace X := X.kp kwb (by omega)
    replace Y := Y.kp kwb (by omega)
    replace O := O.kp kwb (fun j hj e => by have := tO j hj; omega)
    replace B := Below.kp B kwb B.size (fun k hk => by omega)
    have zwb := kwb.size
    rw [hwb]
    clear hwb kwb c0 c1 c2 c3 fc
    clear hHeld
    refine hKK.out _ _ ⟨⟨X.cell 0 rfl, X.cell 1 rfl⟩, ⟨Y.cell 0 rfl, Y.cell 1 rfl, Y.cell 2 rfl, Y.cell 3 rfl⟩⟩ (fun hHeld => ?_)
    clear hKK KK
    clear hHeld
    refine wpAnyH_done (by kernel_rfl) ?_ _
    refine NoPanic.normal ?_
    have r0 := R.cell 0 rfl
    have r1 := R.cell 1 rfl
    have z0 := Z.cell 0 rfl
    have z1 := Z.cell 1 rfl
    have z2 := Z.cell 2 rfl
    have z3 := Z.cell 3 rfl
    clear R Z X Y C
    go_wp2
    refine bodyPost_ret (v := .tuple #[cv n' f', bv m v s (.slice ua uk uc)]) (by simp [results, Tryz.results7, go_sem, r0, r1, z0, z1, z2, z3]) rfl ?_
    exact ⟨_, _, _, _, _, _, xs, rfl, hm, hv, hs, (by omega), hw, O.mono (by omega), B⟩

set_option maxHeartbeats 8000000 in
set_option maxRecDepth 100000 in
theorem drawBlockNew (ao : Option Addr) (ca : Nat) (zs : List Int) (w : World) (h : DCode w ao zs) :
    Calls Tryz.prog 8 #[.slice ao zs.length ca] w fun e w' => ∃ (n f v : Int) (s : ByteArray) (u : Value) (xs : List Int) (view : Int) (lv : Value) (ts : List T4), e = .returned (.tuple #[cv n f, qv v s u, .int .i64 view, lv]) ∧ (-1 ≤ v ∧ v ≤ 61) ∧ s.size ≤ 8001 ∧ xs.length ≤ 9 ∧ Hid (WfL xs) ∧ (-1 ≤ view ∧ view ≤ 62) ∧ ts.length ≤ 2 ∧ RT w' lv ts ∧ OI w' w.heap.size u xs ∧ Below w.heap.size w w' := by
  obtain ⟨w0, hw0⟩ : ∃ w0, (w.alloc (.cells #[.int .i64 0, .int .i64 0] 25)).alloc (.cells #[.int .i64 0, .string ⟨#[]⟩, .slice none 0 0] 28) = w0 := ⟨_, rfl⟩
  have B : Below w.heap.size w w0 := hw0 ▸ qalloc2 _ _ _
  have R : Loc w0 w.heap.size #[.int .i64 0, .int .i64 0] := hw0 ▸ (loc_at w _ _ rfl).alloc _
  have Z : Loc w0 (w.heap.size + 1) #[.int .i64 0, .string ⟨#[]⟩, .slice none 0 0] := hw0 ▸ loc_at (w.alloc _) _ _ (by simp)
  have s0 : w.heap.size + 1 + 1 ≤ w0.heap.size := by rw [← hw0]; simp
  have D0 := h.below B (Nat.le_refl _)
  have NW := hide (new_any ao ca zs w0 D0.len D0.code D0.fit)
  clear h D0
  go_enter Tryz.func8, Tryz.ntmps8
  go_wp2_with fail
  clear hw0
  refine (unhide NW).mono ?_
  rintro e w1 ⟨rfl, C, b1⟩
  replace B := B.trans (b1.mono B.size)
  replace R := R.below b1 R.lt
  replace Z := Z.below b1 Z.lt
  have s1 := b1.size
  generalize w0.heap.size = g at *
  have hg1 := C.lt
  clear b1 NW
  go_wp2_with fail
  refine (drawConf g g ca ao zs _ (by omega) C).mono ?_
  rintro e w2 ⟨n, f, rfl, ⟨hn0, hn1⟩, c1, e1⟩
  have s2 := e1.size
  replace R := R.grown e1 (by omega)
  replace Z := Z.grown e1 (by omega)
  replace B := cur_below e1 B B.size (by omega)
  replace C := c1
  clear c1 e1
  obtain ⟨w3, hw3⟩ : ∃ y, w2.alloc (.cells #[.int .i64 n, .int .i64 f] 25) = y := ⟨_, rfl⟩
  have bb : Below w2.heap.size w2 w3 := hw3 ▸ qalloc _ _
  have X : Loc w3 w2.heap.size #[.int .i64 n, .int .i64 f] := hw3 ▸ loc_at w2 _ _ rfl
  have s3 : w2.heap.size + 1 ≤ w3.heap.size := by rw [← hw3]; simp
  replace R := R.below bb R.lt
  replace Z := Z.below bb Z.lt
  replace C := C.below (by omega) bb
  replace B := B.trans (bb.mono B.size)
  clear bb
  have x0 := X.cell 0 rfl
  have x1 := X.cell 1 rfl
  go_wp2_with fail
  clear hw3
  refine (drawQcV g g ca ao zs n f _ (by omega) hn0 hn1 C).mono ?_
  rintro e w4 ⟨v, s, u, xs, rfl, hv, hs, hl, hw, O, c1, e1⟩
  have s4 := e1.size
  replace R := R.grown e1 (by omega)
  replace Z := Z.grown e1 (by omega)
  replace X := X.grown e1 (by omega)
  replace B := cur_below e1 B B.size (by omega)
  replace C := c1
  clear c1 e1
  clear x0 x1
  have tO := World.ownsRow.lt O
  obtain ⟨ua, uc, rfl⟩ := O.form
  obtain ⟨uk, huk⟩ : ∃ k, xs.length = k := ⟨_, rfl⟩
  rw [huk] at O tO ⊢
  obtain ⟨w5, hw5⟩ : ∃ y, w4.alloc (.cells #[.int .i64 v, .string s, .slice ua uk uc] 28) = y := ⟨_, rfl⟩
  have bb : Below w4.heap.size w4 w5 := hw5 ▸ qalloc _ _
  have Y : Loc w5 w4.heap.size #[.int .i64 v, .string s, .slice ua uk uc] := hw5 ▸ loc_at w4 _ _ rfl
  have s5 : w4.heap.size + 1 ≤ w5.heap.size := by rw [← hw5]; simp
  replace R := R.below bb R.lt
  replace Z := Z.below bb Z.lt
  replace X := X.below bb X.lt
  replace O := O.below bb
  replace C := C.below (by omega) bb
  replace B := B.trans (bb.mono B.size)
  clear bb
  have PK := hide (pickInt_lit g g ca ao zs [v + 1, v + 1, v, 60, 61, -1] w5 (by omega) (by simp) (by simp) C)
  obtain ⟨hv0, hv1⟩ := hv
  have y0 := Y.cell 0 rfl
  have y1 := Y.cell 1 rfl
  have y2 := Y.cell 2 rfl
  go_wp2_with fail
  clear hw5
  clear y0 y1 y2
  refine (unhide PK).mono ?_
  rintro e w6 ⟨view, rfl, hview, c1, e1⟩
  have s6 := e1.size
  have hvw : -1 ≤ view ∧ view ≤ 62 := by simp at hview; omega
  clear hview PK
  replace R := R.grown e1 (by omega)
  replace Z := Z.grown e1 (by omega)
  replace X := X.grown e1 (by omega)
  replace Y := Y.grown e1 (by omega)
  replace O := O.drawn e1 (by omega)
  replace B := cur_below e1 B B.size (by omega)
  replace C := c1
  clear c1 e1
  go_wp2_with fail
  refine (drawTxs g g ca ao zs _ (by omega) C).mono ?_
  rintro e w7 ⟨lv, ys, rfl, hy, T, c1, e1⟩
  have s7 := e1.size
  replace R := R.grown e1 (by omega)
  replace Z := Z.grown e1 (by omega)
  replace X := X.grown e1 (by omega)
  replace Y := Y.grown e1 (by omega)
  replace O := O.drawn e1 (by omega)
  replace B := cur_below e1 B B.size (by omega)
  replace C := c1
  clear c1 e1
  have tT := World.ownsRow.lt T
  have RT0 := T.rt (by omega)
  obtain ⟨_, la, lc, rfl, hla⟩ := RT0
  have hcp : ys.length ≤ lc := ot_cap T
  obtain ⟨lk, hlk⟩ : ∃ k, ys.length = k := ⟨_, rfl⟩
  rw [hlk] at T tT hcp ⊢
  clear hla
  by_cases h2 : lk ≤ 2
  · have d2 : decide ((2 : Int) < (lk : Int)) = false := by simp; omega
    go_upto_region 8 with fail
    refine wp_region_noPanic ?_
    refine wp_region_held_drew (S := fun w' => (w'.cell? ⟨w2.heap.size, 0, none⟩ = some (.int .i64 n) ∧ w'.cell? ⟨w2.heap.size, 1, none⟩ = some (.int .i64 f)) ∧ (w'.cell? ⟨w4.heap.size, 0, none⟩ = some (.int .i64 v) ∧ w'.cell? ⟨w4.heap.size, 1, none⟩ = some (.string s) ∧ w'.cell? ⟨w4.heap.size, 2, none⟩ = some (.slice ua uk uc))) (by kernel_rfl) ⟨⟨X.cell 0 rfl, X.cell 1 rfl⟩, ⟨Y.cell 0 rfl, Y.cell 1 rfl, Y.cell 2 rfl⟩⟩ (fun hHeld => ?_)
    obtain ⟨wd, hd⟩ : ∃ wd, w7.drew = wd := ⟨_, rfl⟩
    have bd : Below w7.heap.size w7 wd := hd ▸ Below.drew (Below.refl _ _)
    have sd : w7.heap.size ≤ wd.heap.size := bd.size
    replace R := R.below bd R.lt
    replace Z := Z.below bd Z.lt
    replace X := X.below bd X.lt
    replace Y := Y.below bd Y.lt
    replace O := O.below bd
    replace T := T.below bd
    replace C := C.below (by omega) bd
    replace B := B.trans (bd.mono B.size)
    rw [hd] at hHeld ⊢
    clear hd bd
    refine take_at (i := 0) (d := 36) (v := ?_) rfl rfl (by kernel_rfl) (by kernel_rfl) (by kernel_rfl) (fun _ _ _ h => h) (Or.inl ⟨by rfl, ?_⟩) (by assumption) ?_
    rotate_left
    · intro w hSw
      try dsimp only at hSw
      go_simp
      try with_reducible rfl
    simp only [Act.put, List.setIfInBounds_toArray, List.set_cons_zero, List.set_cons_succ]
    refine take_at (i := 1) (d := 37) (v := ?_) rfl rfl (by kernel_rfl) (by kernel_rfl) (by kernel_rfl) (fun _ _ _ h => h) (Or.inl ⟨by rfl, ?_⟩) (by assumption) ?_
    rotate_left
    · intro w hSw
      try dsimp only at hSw
      go_simp
      try with_reducible rfl
    simp only [Act.put, List.setIfInBounds_toArray, List.set_cons_zero, List.set_cons_succ]
    refine take_at (i := 2) (d := 38) (v := ?_) rfl rfl (by kernel_rfl) (by kernel_rfl) (by kernel_rfl) (fun _ _ _ h => h) (Or.inl ⟨by rfl, ?_⟩) (by assumption) ?_
    rotate_left
    · intro w hSw
      try dsimp only at hSw
      go_simp
      try with_reducible rfl
    simp only [Act.put, List.setIfInBounds_toArray, List.set_cons_zero, List.set_cons_succ]
    refine take_at (i := 3) (d := 39) (v := ?_) rfl rfl (by kernel_rfl) (by kernel_rfl) (by kernel_rfl) (fun _ _ _ h => h) (Or.inl ⟨by rfl, ?_⟩) (by assumption) ?_
    rotate_left
    · intro w hSw
      try dsimp only at hSw
      go_simp
      try with_reducible rfl
    simp only [Act.put, List.setIfInBounds_toArray, List.set_cons_zero, List.set_cons_succ]
    have c0 := R.cell 0 rfl
    have c1 := R.cell 1 rfl
    have fc := R.frozen
    refine ready_at (i := 4) rfl (by kernel_rfl) (fun KK hKK => ?_)
    go_simp
    obtain ⟨wa, hwa⟩ : ∃ y, ((wd.setCell ⟨w.heap.size, 0, none⟩ (.int .i64 n)).setCell ⟨w.heap.size, 1, none⟩ (.int .i64 f)) = y := ⟨_, rfl⟩
    have kwa : Kp wd wa (fun k => k = w.heap.size) := hwa ▸ (set_kp _ _ _ _).trans (set_kp _ _ _ _)
    replace R : Loc wa (w.heap.size) #[.int .i64 n, .int .i64 f] := hwa ▸ ((R.set 0 _ rfl).set 1 _ rfl)
    replace Z := Z.kp kwa (by omega)
    replace X := X.kp kwa (by omega)
    replace Y := Y.kp kwa (by omega)
    replace O := O.kp kwa (fun j hj e => by have := tO j hj; omega)
    replace T := T.kp kwa (fun j hj e => by have := tT j hj; omega)
    replace B := Below.kp B kwa B.size (fun k hk => by omega)
    have zwa := kwa.size
    rw [hwa]
    clear hwa kwa c0 c1 fc
    clear hHeld
    refine hKK.out _ _ ⟨⟨X.cell 0 rfl, X.cell 1 rfl⟩, ⟨Y.cell 0 rfl, Y.cell 1 rfl, Y.cell 2 rfl⟩⟩ (fun hHeld => ?_)
    clear hKK KK
    have c0 := Z.cell 0 rfl
    have c1 := Z.cell 1 rfl
    have c2 := Z.cell 2 rfl
    have fc := Z.frozen
    refine ready_at (i := 5) rfl (by kernel_rfl) (fun KK hKK => ?_)
    go_simp
    obtain ⟨wb, hwb⟩ : ∃ y, (((wa.setCell ⟨w.heap.size + 1, 0, none⟩ (.int .i64 v)).setCell ⟨w.heap.size + 1, 1, none⟩ (.string s)).setCell ⟨w.heap.size + 1, 2, none⟩ (.slice ua uk uc)) = y := ⟨_, rfl⟩
    have kwb : Kp wa wb (fun k => k = w.heap.size + 1) := hwb ▸ ((set_kp _ _ _ _).trans (set_kp _ _ _ _)).trans (set_kp _ _ _ _)
    replace Z : Loc wb (w.heap.size + 1) #[.int .i64 v, .string s, .slice ua uk uc] := hwb ▸ (((Z.set 0 _ rfl).set 1 _ rfl).set 2 _ rfl)
    replace R := R.kp kwb (by omega)
    replace X := X.kp kwb (by omega)
    replace Y := Y.kp kwb (by omega)
    replace O := O.kp kwb (fun j hj e => by have := tO j hj; omega)
    replace T := T.kp kwb (fun j hj e => by have := tT j hj; omega)
    replace B := Below.kp B kwb B.size (fun k hk => by omega)
    have zwb := kwb.size
    rw [hwb]
    clear hwb kwb c0 c1 c2 fc
    clear hHeld
    refine hKK.out _ _ ⟨⟨X.cell 0 rfl, X.cell 1 rfl⟩, ⟨Y.cell 0 rfl, Y.cell 1 rfl, Y.cell 2 rfl⟩⟩ (fun hHeld => ?_)
    clear hKK KK
    refine take_at (i := 6) (d := 4) (v := ?_) rfl rfl (by kernel_rfl) (by kernel_rfl) (by kernel_rfl) (fun _ _ _ h => h) (Or.inl ⟨by rfl, ?_⟩) (by assumption) ?_
    rotate_left
    · intro w hSw
      try dsimp only at hSw
      go_simp
      try with_reducible rfl
    simp only [Act.put, List.setIfInBounds_toArray, List.set_cons_zero, List.set_cons_succ]
    refine take_at (i := 7) (d := 5) (v := ?_) rfl rfl (by kernel_rfl) (by kernel_rfl) (by kernel_rfl) (fun _ _ _ h => h) (Or.inl ⟨by rfl, ?_⟩) (by assumption) ?_
    rotate_left
    · intro w hSw
      try dsimp only at hSw
      go_simp
      try with_reducible rfl
    simp only [Act.put, List.setIfInBounds_toArray, List.set_cons_zero, List.set_cons_succ]
    clear hHeld
    refine wpAnyH_done (by kernel_rfl) ?_ _
    refine NoPanic.normal ?_
    have r0 := R.cell 0 rfl
    have r1 := R.cell 1 rfl
    have z0 := Z.cell 0 rfl
    have z1 := Z.cell 1 rfl
    have z2 := Z.cell 2 rfl
    clear R Z X Y C
    go_wp2
    refine bodyPost_ret (v := .tuple #[cv n f, qv v s (.slice ua uk uc), .int .i64 view, .slice la lk lc]) (by simp [results, Tryz.results8, go_sem, r0, r1, z0, z1, z2]) rfl ?_
    exact ⟨_, _, _, _, _, xs, _, _, ys, rfl, ⟨hv0, hv1⟩, hs, (by omega), hw, hvw, (by omega), (T.rt (by omega)), O.mono (by omega), B⟩
  · have d2 : decide ((2 : Int) < (lk : Int)) = true := by simp; omega
    have hlc : 2 ≤ lc := by omega
    go_upto_region 8 with fail
    refine wp_region_noPanic ?_
    refine wp_region_held_drew (S := fun w' => (w'.cell? ⟨w2.heap.size, 0, none⟩ = some (.int .i64 n) ∧ w'.cell? ⟨w2.heap.size, 1, none⟩ = some (.int .i64 f)) ∧ (w'.cell? ⟨w4.heap.size, 0, none⟩ = some (.int .i64 v) ∧ w'.cell? ⟨w4.heap.size, 1, none⟩ = some (.string s) ∧ w'.cell? ⟨w4.heap.size, 2, none⟩ = some (.slice ua uk uc))) (by kernel_rfl) ⟨⟨X.cell 0 rfl, X.cell 1 rfl⟩, ⟨Y.cell 0 rfl, Y.cell 1 rfl, Y.cell 2 rfl⟩⟩ (fun hHeld => ?_)
    obtain ⟨wd, hd⟩ : ∃ wd, w7.drew = wd := ⟨_, rfl⟩
    have bd : Below w7.heap.size w7 wd := hd ▸ Below.drew (Below.refl _ _)
    have sd : w7.heap.size ≤ wd.heap.size := bd.size
    replace R := R.below bd R.lt
    replace Z := Z.below bd Z.lt
    replace X := X.below bd X.lt
    replace Y := Y.below bd Y.lt
    replace O := O.below bd
    replace T := T.below bd
    replace C := C.below (by omega) bd
    replace B := B.trans (bd.mono B.size)
    rw [hd] at hHeld ⊢
    clear hd bd
    refine take_at (i := 0) (d := 36) (v := ?_) rfl rfl (by kernel_rfl) (by kernel_rfl) (by kernel_rfl) (fun _ _ _ h => h) (Or.inl ⟨by rfl, ?_⟩) (by assumption) ?_
    rotate_left
    · intro w hSw
      try dsimp only at hSw
      go_simp
      try with_reducible rfl
    simp only [Act.put, List.setIfInBounds_toArray, List.set_cons_zero, List.set_cons_succ]
    refine take_at (i := 1) (d := 37) (v := ?_) rfl rfl (by kernel_rfl) (by kernel_rfl) (by kernel_rfl) (fun _ _ _ h => h) (Or.inl ⟨by rfl, ?_⟩) (by assumption) ?_
    rotate_left
    · intro w hSw
      try dsimp only at hSw
      go_simp
      try with_reducible rfl
    simp only [Act.put, List.setIfInBounds_toArray, List.set_cons_zero, List.set_cons_succ]
    refine take_at (i := 2) (d := 38) (v := ?_) rfl rfl (by kernel_rfl) (by kernel_rfl) (by kernel_rfl) (fun _ _ _ h => h) (Or.inl ⟨by rfl, ?_⟩) (by assumption) ?_
    rotate_left
    · intro w hSw
      try dsimp only at hSw
      go_simp
      try with_reducible rfl
    simp only [Act.put, List.setIfInBounds_toArray, List.set_cons_zero, List.set_cons_succ]
    refine take_at (i := 3) (d := 39) (v := ?_) rfl rfl (by kernel_rfl) (by kernel_rfl) (by kernel_rfl) (fun _ _ _ h => h) (Or.inl ⟨by rfl, ?_⟩) (by assumption) ?_
    rotate_left
    · intro w hSw
      try dsimp only at hSw
      go_simp
      try with_reducible rfl
    simp only [Act.put, List.setIfInBounds_toArray, List.set_cons_zero, List.set_cons_succ]
    have c0 := R.cell 0 rfl
    have c1 := R.cell 1 rfl
    have fc := R.frozen
    refine ready_at (i := 4) rfl (by kernel_rfl) (fun KK hKK => ?_)
    go_simp
    obtain ⟨wa, hwa⟩ : ∃ y, ((wd.setCell ⟨w.heap.size, 0, none⟩ (.int .i64 n)).setCell ⟨w.heap.size, 1, none⟩ (.int .i64 f)) = y := ⟨_, rfl⟩
    have kwa : Kp wd wa (fun k => k = w.heap.size) := hwa ▸ (set_kp _ _ _ _).trans (set_kp _ _ _ _)
    replace R : Loc wa (w.heap.size) #[.int .i64 n, .int .i64 f] := hwa ▸ ((R.set 0 _ rfl).set 1 _ rfl)
    replace Z := Z.kp kwa (by omega)
    replace X := X.kp kwa (by omega)
    replace Y := Y.kp kwa (by omega)
    replace O := O.kp kwa (fun j hj e => by have := tO j hj; omega)
    replace T := T.kp kwa (fun j hj e => by have := tT j hj; omega)
    replace B := Below.kp B kwa B.size (fun k hk => by omega)
    have zwa := kwa.size
    rw [hwa]
    clear hwa kwa c0 c1 fc
    clear hHeld
    refine hKK.out _ _ ⟨⟨X.cell 0 rfl, X.cell 1 rfl⟩, ⟨Y.cell 0 rfl, Y.cell 1 rfl, Y.cell 2 rfl⟩⟩ (fun hHeld => ?_)
    clear hKK KK
    have c0 := Z.cell 0 rfl
    have c1 := Z.cell 1 rfl
    have c2 := Z.cell 2 rfl
    have fc := Z.frozen
    refine ready_at (i := 5) rfl (by kernel_rfl) (fun KK hKK => ?_)
    go_simp
    obtain ⟨wb, hwb⟩ : ∃ y, (((wa.setCell ⟨w.heap.size + 1, 0, none⟩ (.int .i64 v)).setCell ⟨w.heap.size + 1, 1, none⟩ (.string s)).setCell ⟨w.heap.size + 1, 2, none⟩ (.slice ua uk uc)) = y := ⟨_, rfl⟩
    have kwb : Kp wa wb (fun k => k = w.heap.size + 1) := hwb ▸ ((set_kp _ _ _ _).trans (set_kp _ _ _ _)).trans (set_kp _ _ _ _)
    replace Z : Loc wb (w.heap.size + 1) #[.int .i64 v, .string s, .slice ua uk uc] := hwb ▸ (((Z.set 0 _ rfl).set 1 _ rfl).set 2 _ rfl)
    replace R := R.kp kwb (by omega)
    replace X := X.kp kwb (by omega)
    replace Y := Y.kp kwb (by omega)
    replace O := O.kp kwb (fun j hj e => by have := tO j hj; omega)
    replace T := T.kp kwb (fun j hj e => by have := tT j hj; omega)
    replace B := Below.kp B kwb B.size (fun k hk => by omega)
    have zwb := kwb.size
    rw [hwb]
    clear hwb kwb c0 c1 c2 fc
    clear hHeld
    refine hKK.out _ _ ⟨⟨X.cell 0 rfl, X.cell 1 rfl⟩, ⟨Y.cell 0 rfl, Y.cell 1 rfl, Y.cell 2 rfl⟩⟩ (fun hHeld => ?_)
    clear hKK KK
    refine take_at (i := 6) (d := 4) (v := ?_) rfl rfl (by kernel_rfl) (by kernel_rfl) (by kernel_rfl) (fun _ _ _ h => h) (Or.inl ⟨by rfl, ?_⟩) (by assumption) ?_
    rotate_left
    · intro w hSw
      try dsimp only at hSw
      go_simp
      try with_reducible rfl
    simp only [Act.put, List.setIfInBounds_toArray, List.set_cons_zero, List.set_cons_succ]
    refine take_at (i := 7) (d := 5) (v := ?_) rfl rfl (by kernel_rfl) (by kernel_rfl) (by kernel_rfl) (fun _ _ _ h => h) (Or.inl ⟨by rfl, ?_⟩) (by assumption) ?_
    rotate_left
    · intro w hSw
      try dsimp only at hSw
      go_simp
      try with_reducible rfl
    simp only [Act.put, List.setIfInBounds_toArray, List.set_cons_zero, List.set_cons_succ]
    clear hHeld
    refine wpAnyH_done (by kernel_rfl) ?_ _
    refine NoPanic.normal ?_
    have r0 := R.cell 0 rfl
    have r1 := R.cell 1 rfl
    have z0 := Z.cell 0 rfl
    have z1 := Z.cell 1 rfl
    have z2 := Z.cell 2 rfl
    clear R Z X Y C
    go_wp2
    refine bodyPost_ret (v := .tuple #[cv n f, qv v s (.slice ua uk uc), .int .i64 view, .slice la 2 lc]) (by simp [results, Tryz.results8, go_sem, r0, r1, z0, z1, z2]) rfl ?_
    exact ⟨_, _, _, _, _, xs, _, _, ys.take 2, rfl, ⟨hv0, hv1⟩, hs, (by omega), hw, hvw, (by simp; omega), rt_two (T.rt (by omega)) hlk (by omega), O.mono (by omega), B⟩

set_option maxHeartbeats 8000000 in
set_option maxRecDepth 100000 in
theorem drawBlockSame (ao : Option Addr) (ca : Nat) (zs : List Int) (w : World) (h : DCode w ao zs) :
    Calls Tryz.prog 11 #[.slice ao zs.length ca] w fun e w' => ∃ (m : ByteArray) (v : Int) (s : ByteArray) (u : Value) (xs : List Int) (m' : ByteArray) (v' : Int) (s' : ByteArray) (u' : Value) (ys : List Int), e = .returned (.tuple #[bv m v s u, bv m' v' s' u']) ∧ m.size ≤ 8001 ∧ (-1 ≤ v ∧ v ≤ 61) ∧ s.size ≤ 8001 ∧ xs.length ≤ 9 ∧ Hid (WfL xs) ∧ m'.size ≤ 8001 ∧ (-1 ≤ v' ∧ v' ≤ 61) ∧ s'.size ≤ 8001 ∧ ys.length ≤ 9 ∧ Hid (WfL ys) ∧ OI w' w.heap.size u xs ∧ OI w' w.heap.size u' ys ∧ Below w.heap.size w w' := by
  obtain ⟨w0, hw0⟩ : ∃ w0, (w.alloc (.cells #[.string ⟨#[]⟩, .int .i64 0, .string ⟨#[]⟩, .slice none 0 0] 30)).alloc (.cells #[.string ⟨#[]⟩, .int .i64 0, .string ⟨#[]⟩, .slice none 0 0] 30) = w0 := ⟨_, rfl⟩
  have B : Below w.heap.size w w0 := hw0 ▸ qalloc2 _ _ _
  have R : Loc w0 w.heap.size #[.string ⟨#[]⟩, .int .i64 0, .string ⟨#[]⟩, .slice none 0 0] := hw0 ▸ (loc_at w _ _ rfl).alloc _
  have Z : Loc w0 (w.heap.size + 1) #[.string ⟨#[]⟩, .int .i64 0, .string ⟨#[]⟩, .slice none 0 0] := hw0 ▸ loc_at (w.alloc _) _ _ (by simp)
  have s0 : w.heap.size + 1 + 1 ≤ w0.heap.size := by rw [← hw0]; simp
  have D0 := h.below B (Nat.le_refl _)
  have NW := hide (new_any ao ca zs w0 D0.len D0.code D0.fit)
  clear h D0
  go_enter Tryz.func11, Tryz.ntmps11
  go_wp2_with fail
  clear hw0
  refine (unhide NW).mono ?_
  rintro e w1 ⟨rfl, C, b1⟩
  replace B := B.trans (b1.mono B.size)
  replace R := R.below b1 R.lt
  replace Z := Z.below b1 Z.lt
  have s1 := b1.size
  generalize w0.heap.size = g at *
  have hg1 := C.lt
  clear b1 NW
  go_wp2_with fail
  refine (drawConf g g ca ao zs _ (by omega) C).mono ?_
  rintro e w2 ⟨n, f, rfl, ⟨hn0, hn1⟩, c1, e1⟩
  have s2 := e1.size
  replace R := R.grown e1 (by omega)
  replace Z := Z.grown e1 (by omega)
  replace B := cur_below e1 B B.size (by omega)
  replace C := c1
  clear c1 e1
  obtain ⟨w3, hw3⟩ : ∃ y, w2.alloc (.cells #[.int .i64 n, .int .i64 f] 25) = y := ⟨_, rfl⟩
  have bb : Below w2.heap.size w2 w3 := hw3 ▸ qalloc _ _
  have X : Loc w3 w2.heap.size #[.int .i64 n, .int .i64 f] := hw3 ▸ loc_at w2 _ _ rfl
  have s3 : w2.heap.size + 1 ≤ w3.heap.size := by rw [← hw3]; simp
  replace R := R.below bb R.lt
  replace Z := Z.below bb Z.lt
  replace C := C.below (by omega) bb
  replace B := B.trans (bb.mono B.size)
  clear bb
  have x0 := X.cell 0 rfl
  have x1 := X.cell 1 rfl
  go_wp2_with fail
  clear hw3
  refine (drawBlk g g ca ao zs n f _ (by omega) hn0 hn1 C).mono ?_
  rintro e w4 ⟨m, v, s, u, xs, rfl, hm, hv, hs, hl, hw, O, c1, e1⟩
  have s4 := e1.size
  replace R := R.grown e1 (by omega)
  replace Z := Z.grown e1 (by omega)
  replace X := X.grown e1 (by omega)
  replace B := cur_below e1 B B.size (by omega)
  replace C := c1
  clear c1 e1
  clear x0 x1
  have tO := World.ownsRow.lt O
  obtain ⟨ua, uc, rfl⟩ := O.form
  obtain ⟨uk, huk⟩ : ∃ k, xs.length = k := ⟨_, rfl⟩
  rw [huk] at O tO ⊢
  obtain ⟨w5, hw5⟩ : ∃ y, w4.alloc (.cells #[.string m, .int .i64 v, .string s, .slice ua uk uc] 30) = y := ⟨_, rfl⟩
  have bb : Below w4.heap.size w4 w5 := hw5 ▸ qalloc _ _
  have Y : Loc w5 w4.heap.size #[.string m, .int .i64 v, .string s, .slice ua uk uc] := hw5 ▸ loc_at w4 _ _ rfl
  have s5 : w4.heap.size + 1 ≤ w5.heap.size := by rw [← hw5]; simp
  replace R := R.below bb R.lt
  replace Z := Z.below bb Z.lt
  replace X := X.below bb X.lt
  replace O := O.below bb
  replace C := C.below (by omega) bb
  replace B := B.trans (bb.mono B.size)
  clear bb
  go_wp2_with fail
  clear hw5
  refine (once_any g g ca ao zs 2 _ (by omega) (by omega) (by omega) C).mono ?_
  rintro e w6 ⟨b, rfl, c1, e1⟩
  have s6 := e1.size
  replace R := R.grown e1 (by omega)
  replace Z := Z.grown e1 (by omega)
  replace X := X.grown e1 (by omega)
  replace Y := Y.grown e1 (by omega)
  replace O := O.drawn e1 (by omega)
  replace B := cur_below e1 B B.size (by omega)
  replace C := c1
  clear c1 e1
  cases b
  · go_upto_region 6 with fail
    refine wp_region_noPanic ?_
    refine wp_region_held_drew (S := fun w' => (w'.cell? ⟨w4.heap.size, 0, none⟩ = some (.string m) ∧ w'.cell? ⟨w4.heap.size, 1, none⟩ = some (.int .i64 v) ∧ w'.cell? ⟨w4.heap.size, 2, none⟩ = some (.string s) ∧ w'.cell? ⟨w4.heap.size, 3, none⟩ = some (.slice ua uk uc)) ∧ (w'.cell? ⟨w2.heap.size, 0, none⟩ = some (.int .i64 n) ∧ w'.cell? ⟨w2.heap.size, 1, none⟩ = some (.int .i64 f))) (by kernel_rfl) ⟨⟨Y.cell 0 rfl, Y.cell 1 rfl, Y.cell 2 rfl, Y.cell 3 rfl⟩, ⟨X.cell 0 rfl, X.cell 1 rfl⟩⟩ (fun hHeld => ?_)
    obtain ⟨wd, hd⟩ : ∃ wd, w6.drew = wd := ⟨_, rfl⟩
    have bd : Below w6.heap.size w6 wd := hd ▸ Below.drew (Below.refl _ _)
    have sd : w6.heap.size ≤ wd.heap.size := bd.size
    replace R := R.below bd R.lt
    replace Z := Z.below bd Z.lt
    replace X := X.below bd X.lt
    replace Y := Y.below bd Y.lt
    replace O := O.below bd
    replace C := C.below (by omega) bd
    replace B := B.trans (bd.mono B.size)
    rw [hd] at hHeld ⊢
    clear hd bd
    refine take_at (i := 0) (d := 19) (v := ?_) rfl rfl (by kernel_rfl) (by kernel_rfl) (by kernel_rfl) (fun _ _ _ h => h) (Or.inl ⟨by rfl, ?_⟩) (by assumption) ?_
    rotate_left
    · intro w hSw
      try dsimp only at hSw
      go_simp
      try with_reducible rfl
    simp only [Act.put, List.setIfInBounds_toArray, List.set_cons_zero, List.set_cons_succ]
    refine take_at (i := 1) (d := 20) (v := ?_) rfl rfl (by kernel_rfl) (by kernel_rfl) (by kernel_rfl) (fun _ _ _ h => h) (Or.inl ⟨by rfl, ?_⟩) (by assumption) ?_
    rotate_left
    · intro w hSw
      try dsimp only at hSw
      go_simp
      try with_reducible rfl
    simp only [Act.put, List.setIfInBounds_toArray, List.set_cons_zero, List.set_cons_succ]
    refine take_at (i := 2) (d := 21) (v := ?_) rfl rfl (by kernel_rfl) (by kernel_rfl) (by kernel_rfl) (fun _ _ _ h => h) (Or.inl ⟨by rfl, ?_⟩) (by assumption) ?_
    rotate_left
    · intro w hSw
      try dsimp only at hSw
      go_simp
      try with_reducible rfl
    simp only [Act.put, List.setIfInBounds_toArray, List.set_cons_zero, List.set_cons_succ]
    refine ready_at (i := 3) rfl (by kernel_rfl) (fun KK hKK => ?_)
    go_simp
    refine (drawBlk g g ca ao zs n f _ (by omega) hn0 hn1 C).mono ?_
    rintro e w9 ⟨m', v', s', u', ys, rfl, hm', hv', hs', hl', hw', P, c1, e1⟩
    have s9 := e1.size
    replace R := R.grown e1 (by omega)
    replace Z := Z.grown e1 (by omega)
    replace X := X.grown e1 (by omega)
    replace Y := Y.grown e1 (by omega)
    replace O := O.drawn e1 (by omega)
    replace B := cur_below e1 B B.size (by omega)
    clear c1 e1 C
    have tP := World.ownsRow.lt P
    obtain ⟨pa, pc, rfl⟩ := P.form
    obtain ⟨pk, hpk⟩ : ∃ k, ys.length = k := ⟨_, rfl⟩
    rw [hpk] at P tP ⊢
    clear hHeld
    refine hKK.out _ _ ⟨⟨Y.cell 0 rfl, Y.cell 1 rfl, Y.cell 2 rfl, Y.cell 3 rfl⟩, ⟨X.cell 0 rfl, X.cell 1 rfl⟩⟩ (fun hHeld => ?_)
    clear hKK KK
    have c0 := R.cell 0 rfl
    have c1 := R.cell 1 rfl
    have c2 := R.cell 2 rfl
    have c3 := R.cell 3 rfl
    have fc := R.frozen
    refine ready_at (i := 4) rfl (by kernel_rfl) (fun KK hKK => ?_)
    go_simp
    obtain ⟨wa, hwa⟩ : ∃ y, ((((w9.setCell ⟨w.heap.size, 0, none⟩ (.string m)).setCell ⟨w.heap.size, 1, none⟩ (.int .i64 v)).setCell ⟨w.heap.size, 2, none⟩ (.string s)).setCell ⟨w.heap.size, 3, none⟩ (.slice ua uk uc)) = y := ⟨_, rfl⟩
    have kwa : Kp w9 wa (fun k => k = w.heap.size) := hwa ▸ (((set_kp _ _ _ _).trans (set_kp _ _ _ _)).trans (set_kp _ _ _ _)).trans (set_kp _ _ _ _)
    replace R : Loc wa (w.heap.size) #[.string m, .int .i64 v, .string s, .slice ua uk uc] := hwa ▸ ((((R.set 0 _ rfl).set 1 _ rfl).set 2 _ rfl).set 3 _ rfl)
    replace Z := Z.kp kwa (by omega)
    replace X := X.kp kwa (by omega)
    replace Y := Y.kp kwa (by omega)
    replace O := O.kp kwa (fun j hj e => by have := tO j hj; omega)
    replace P := P.kp kwa (fun j hj e => by have := tP j hj; omega)
    replace B := Below.kp B kwa B.size (fun k hk => by omega)
    have zwa := kwa.size
    rw [hwa]
    clear hwa kwa c0 c1 c2 c3 fc
    clear hHeld
    refine hKK.out _ _ ⟨⟨Y.cell 0 rfl, Y.cell 1 rfl, Y.cell 2 rfl, Y.cell 3 rfl⟩, ⟨X.cell 0 rfl, X.cell 1 rfl⟩⟩ (fun hHeld => ?_)
    clear hKK KK
    have c0 := Z.cell 0 rfl
    have c1 := Z.cell 1 rfl
    have c2 := Z.cell 2 rfl
    have c3 := Z.cell 3 rfl
    have fc := Z.frozen
    refine ready_at (i := 5) rfl (by kernel_rfl) (fun KK hKK => ?_)
    go_simp
    obtain ⟨wb, hwb⟩ : ∃ y, ((((wa.setCell ⟨w.heap.size + 1, 0, none⟩ (.string m')).setCell ⟨w.heap.size + 1, 1, none⟩ (.int .i64 v')).setCell ⟨w.heap.size + 1, 2, none⟩ (.string s')).setCell ⟨w.heap.size + 1, 3, none⟩ (.slice pa pk pc)) = y := ⟨_, rfl⟩
    have kwb : Kp wa wb (fun k => k = w.heap.size + 1) := hwb ▸ (((set_kp _ _ _ _).trans (set_kp _ _ _ _)).trans (set_kp _ _ _ _)).trans (set_kp _ _ _ _)
    replace Z : Loc wb (w.heap.size + 1) #[.string m', .int .i64 v', .string s', .slice pa pk pc] := hwb ▸ ((((Z.set 0 _ rfl).set 1 _ rfl).set 2 _ rfl).set 3 _ rfl)
    replace R := R.kp kwb (by omega)
    replace X := X.kp kwb (by omega)
    replace Y := Y.kp kwb (by omega)
    replace O := O.kp kwb (fun j hj e => by have := tO j hj; omega)
    replace P := P.kp kwb (fun j hj e => by have := tP j hj; omega)
    replace B := Below.kp B kwb B.size (fun k hk => by omega)
    have zwb := kwb.size
    rw [hwb]
    clear hwb kwb c0 c1 c2 c3 fc
    clear hHeld
    refine hKK.out _ _ ⟨⟨Y.cell 0 rfl, Y.cell 1 rfl, Y.cell 2 rfl, Y.cell 3 rfl⟩, ⟨X.cell 0 rfl, X.cell 1 rfl⟩⟩ (fun hHeld => ?_)
    clear hKK KK
    clear hHeld
    refine wpAnyH_done (by kernel_rfl) ?_ _
    refine NoPanic.normal ?_
    have r0 := R.cell 0 rfl
    have r1 := R.cell 1 rfl
    have r2 := R.cell 2 rfl
    have r3 := R.cell 3 rfl
    have z0 := Z.cell 0 rfl
    have z1 := Z.cell 1 rfl
    have z2 := Z.cell 2 rfl
    have z3 := Z.cell 3 rfl
    clear R Z X Y
    go_wp2
    refine bodyPost_ret (v := .tuple #[bv m v s (.slice ua uk uc), bv m' v' s' (.slice pa pk pc)]) (by simp [results, Tryz.results11, go_sem, r0, r1, r2, r3, z0, z1, z2, z3]) rfl ?_
    exact ⟨_, _, _, _, xs, _, _, _, _, ys, rfl, hm, hv, hs, (by omega), hw, hm', hv', hs', (by omega), hw', O.mono (by omega), P.mono (by omega), B⟩
  · have CP := hide fun a k w h => l8Copy_any m v s a k xs w h
    rw [huk] at CP
    go_upto_region 5 with fail
    refine wp_region_noPanic ?_
    refine wp_region_held_drew (S := fun w' => (w'.cell? ⟨w4.heap.size, 0, none⟩ = some (.string m) ∧ w'.cell? ⟨w4.heap.size, 1, none⟩ = some (.int .i64 v) ∧ w'.cell? ⟨w4.heap.size, 2, none⟩ = some (.string s) ∧ w'.cell? ⟨w4.heap.size, 3, none⟩ = some (.slice ua uk uc))) (by kernel_rfl) ⟨Y.cell 0 rfl, Y.cell 1 rfl, Y.cell 2 rfl, Y.cell 3 rfl⟩ (fun hHeld => ?_)
    obtain ⟨wd, hd⟩ : ∃ wd, w6.drew = wd := ⟨_, rfl⟩
    have bd : Below w6.heap.size w6 wd := hd ▸ Below.drew (Below.refl _ _)
    have sd : w6.heap.size ≤ wd.heap.size := bd.size
    replace R := R.below bd R.lt
    replace Z := Z.below bd Z.lt
    replace X := X.below bd X.lt
    replace Y := Y.below bd Y.lt
    replace O := O.below bd
    replace C := C.below (by omega) bd
    replace B := B.trans (bd.mono B.size)
    rw [hd] at hHeld ⊢
    clear hd bd
    refine take_at (i := 0) (d := 16) (v := ?_) rfl rfl (by kernel_rfl) (by kernel_rfl) (by kernel_rfl) (fun _ _ _ h => h) (Or.inl ⟨by rfl, ?_⟩) (by assumption) ?_
    rotate_left
    · intro w hSw
      try dsimp only at hSw
      go_simp
      try with_reducible rfl
    simp only [Act.put, List.setIfInBounds_toArray, List.set_cons_zero, List.set_cons_succ]
    refine take_at (i := 1) (d := 17) (v := ?_) rfl rfl (by kernel_rfl) (by kernel_rfl) (by kernel_rfl) (fun _ _ _ h => h) (Or.inl ⟨by rfl, ?_⟩) (by assumption) ?_
    rotate_left
    · intro w hSw
      try dsimp only at hSw
      go_simp
      try with_reducible rfl
    simp only [Act.put, List.setIfInBounds_toArray, List.set_cons_zero, List.set_cons_succ]
    refine ready_at (i := 2) rfl (by kernel_rfl) (fun KK hKK => ?_)
    go_simp
    refine (unhide CP _ _ _ (O.ri (by omega))).mono ?_
    rintro e w9 ⟨u', rfl, P, b9⟩
    have s9 := b9.size
    replace R := R.below b9 R.lt
    replace Z := Z.below b9 Z.lt
    replace X := X.below b9 X.lt
    replace Y := Y.below b9 Y.lt
    replace O := O.below b9
    replace C := C.below (by omega) b9
    replace B := B.trans (b9.mono B.size)
    clear b9 C
    have tP := World.ownsRow.lt P
    obtain ⟨pa, pc, rfl⟩ := P.form
    rw [huk] at P tP ⊢
    clear hHeld
    refine hKK.out _ _ ⟨Y.cell 0 rfl, Y.cell 1 rfl, Y.cell 2 rfl, Y.cell 3 rfl⟩ (fun hHeld => ?_)
    clear hKK KK
    have c0 := R.cell 0 rfl
    have c1 := R.cell 1 rfl
    have c2 := R.cell 2 rfl
    have c3 := R.cell 3 rfl
    have fc := R.frozen
    refine ready_at (i := 3) rfl (by kernel_rfl) (fun KK hKK => ?_)
    go_simp
    obtain ⟨wa, hwa⟩ : ∃ y, ((((w9.setCell ⟨w.heap.size, 0, none⟩ (.string m)).setCell ⟨w.heap.size, 1, none⟩ (.int .i64 v)).setCell ⟨w.heap.size, 2, none⟩ (.string s)).setCell ⟨w.heap.size, 3, none⟩ (.slice ua uk uc)) = y := ⟨_, rfl⟩
    have kwa : Kp w9 wa (fun k => k = w.heap.size) := hwa ▸ (((set_kp _ _ _ _).trans (set_kp _ _ _ _)).trans (set_kp _ _ _ _)).trans (set_kp _ _ _ _)
    replace R : Loc wa (w.heap.size) #[.string m, .int .i64 v, .string s, .slice ua uk uc] := hwa ▸ ((((R.set 0 _ rfl).set 1 _ rfl).set 2 _ rfl).set 3 _ rfl)
    replace Z := Z.kp kwa (by omega)
    replace X := X.kp kwa (by omega)
    replace Y := Y.kp kwa (by omega)
    replace O := O.kp kwa (fun j hj e => by have := tO j hj; omega)
    replace P := P.kp kwa (fun j hj e => by have := tP j hj; omega)
    replace B := Below.kp B kwa B.size (fun k hk => by omega)
    have zwa := kwa.size
    rw [hwa]
    clear hwa kwa c0 c1 c2 c3 fc
    clear hHeld
    refine hKK.out _ _ ⟨Y.cell 0 rfl, Y.cell 1 rfl, Y.cell 2 rfl, Y.cell 3 rfl⟩ (fun hHeld => ?_)
    clear hKK KK
    have c0 := Z.cell 0 rfl
    have c1 := Z.cell 1 rfl
    have c2 := Z.cell 2 rfl
    have c3 := Z.cell 3 rfl
    have fc := Z.frozen
    refine ready_at (i := 4) rfl (by kernel_rfl) (fun KK hKK => ?_)
    go_simp
    obtain ⟨wb, hwb⟩ : ∃ y, ((((wa.setCell ⟨w.heap.size + 1, 0, none⟩ (.string m)).setCell ⟨w.heap.size + 1, 1, none⟩ (.int .i64 v)).setCell ⟨w.heap.size + 1, 2, none⟩ (.string s)).setCell ⟨w.heap.size + 1, 3, none⟩ (.slice pa uk pc)) = y := ⟨_, rfl⟩
    have kwb : Kp wa wb (fun k => k = w.heap.size + 1) := hwb ▸ (((set_kp _ _ _ _).trans (set_kp _ _ _ _)).trans (set_kp _ _ _ _)).trans (set_kp _ _ _ _)
    replace Z : Loc wb (w.heap.size + 1) #[.string m, .int .i64 v, .string s, .slice pa uk pc] := hwb ▸ ((((Z.set 0 _ rfl).set 1 _ rfl).set 2 _ rfl).set 3 _ rfl)
    replace R := R.kp kwb (by omega)
    replace X := X.kp kwb (by omega)
    replace Y := Y.kp kwb (by omega)
    replace O := O.kp kwb (fun j hj e => by have := tO j hj; omega)
    replace P := P.kp kwb (fun j hj e => by have := tP j hj; omega)
    replace B := Below.kp B kwb B.size (fun k hk => by omega)
    have zwb := kwb.size
    rw [hwb]
    clear hwb kwb c0 c1 c2 c3 fc
    clear hHeld
    refine hKK.out _ _ ⟨Y.cell 0 rfl, Y.cell 1 rfl, Y.cell 2 rfl, Y.cell 3 rfl⟩ (fun hHeld => ?_)
    clear hKK KK
    clear hHeld
    refine wpAnyH_done (by kernel_rfl) ?_ _
    refine NoPanic.normal ?_
    have r0 := R.cell 0 rfl
    have r1 := R.cell 1 rfl
    have r2 := R.cell 2 rfl
    have r3 := R.cell 3 rfl
    have z0 := Z.cell 0 rfl
    have z1 := Z.cell 1 rfl
    have z2 := Z.cell 2 rfl
    have z3 := Z.cell 3 rfl
    clear R Z X Y
    go_wp2
    refine bodyPost_ret (v := .tuple #[bv m v s (.slice ua uk uc), bv m v s (.slice pa uk pc)]) (by simp [results, Tryz.results11, go_sem, r0, r1, r2, r3, z0, z1, z2, z3]) rfl ?_
    exact ⟨_, _, _, _, xs, _, _, _, _, xs, rfl, hm, hv, hs, (by omega), hw, hm, hv, hs, (by omega), hw, O.mono (by omega), P.mono (by omega), B⟩
end Go.Proofs.YtggmgfkmbgcooaaGreatDoor
