/- Texts that belong together: DrawNoteC, DrawNoteD, SpecGet, SpecText. -/
import Derived.Test.YtcclbejpgiogaaaGreatDoorNBBJ
import Derived.Test.YtcclbejpgiogaaaGreatDoorNBBC
import Derived.Test.YtcclbejpgiogaaaGreatDoorNBBH
import Derived.Deep.DeepCutAuto
import Derived.Test.YtcclbejpgiogaaaGreatDoorNBAA
import Derived.Test.YtcclbejpgiogaaaGreatDoorNBAJ
set_option maxRecDepth 100000
set_option maxHeartbeats 32000000
namespace Go.Proofs.YtcclbejpgiogaaaGreatDoor
open Go.RowKit
set_option linter.unusedSectionVars false
variable [∀ (a b c d : Int), Decidable (Ok4 a b c d)]
variable [∀ (a b c d : Nat), Decidable (okN a b c d)]
variable [∀ (x : T4), Decidable (OkT x)]
variable [∀ (last : Int) (s : St), Decidable (GoodSt last s)]
variable [∀ (n : Int) (s : List Int), Decidable (OkL n s)]
variable [∀ (n f : Int), Decidable (COk n f)]
variable [∀ (ts : List T4), Decidable (AllOk ts)]

set_option linter.unusedSimpArgs false in
theorem drawQcOf (ao : Option Addr) (ca : Nat) (zs : List Int) (w : World) (h : DCode w ao zs) :
 Calls Tryz.prog 15 #[.slice ao zs.length ca] w fun e w' => ∃ (n f x : Int) (a : Option Addr) (k : Nat) (c : Nat) (ys : List Int), e = .returned (.tuple #[cv n f, .slice a k c, .int .i64 x]) ∧ (4 ≤ n ∧ n ≤ 7) ∧ (-1 ≤ x ∧ x ≤ 100000) ∧ BytesL ys ∧ ys.length = k ∧ k ≤ 100000 ∧ RB w' (.slice a k c) ys ∧ Below w.heap.size w w' := by
 obtain ⟨w0, hw0⟩ : ∃ w0, w.alloc (.cells #[.int .i64 0, .int .i64 0] 25) = w0 := ⟨_, rfl⟩
 have B : Below w.heap.size w w0 := hw0 ▸ qalloc _ _
 have R : Loc w0 w.heap.size #[.int .i64 0, .int .i64 0] := hw0 ▸ loc_at w _ _ rfl
 have s0 : w.heap.size + 1 ≤ w0.heap.size := by rw [← hw0]; simp
 have D0 := h.below B
 have NW := hide (new_any ao ca zs w0 D0.len D0.code D0.fit)
 clear h D0
 go_enter Tryz.func15, Tryz.ntmps15
 go_wp2_with fail
 clear hw0
 refine NW.out.mono ?_
 rintro e w1 ⟨rfl, C, b1⟩
 replace B := bu B b1
 replace R := R.up b1
 have s1 := b1.size
 generalize w0.heap.size = g at *
 have hg1 := C.lt
 clear b1 NW
 go_wp2_with fail
 refine (drawConf g g ca ao zs _ (by omega) C).mono ?_
 rintro e w2 ⟨n, f, rfl, ⟨hn0, hn1⟩, c1, e1⟩
 have s2 := e1.size
 replace R := R.grown e1 (by omega)
 replace B := cur_below e1 B B.size (by omega)
 replace C := c1
 clear c1 e1
 obtain ⟨w3, hw3⟩ : ∃ y, w2.alloc (.cells #[.int .i64 n, .int .i64 f] 25) = y := ⟨_, rfl⟩
 have bb : Below w2.heap.size w2 w3 := hw3 ▸ qalloc _ _
 have X : Loc w3 w2.heap.size #[.int .i64 n, .int .i64 f] := hw3 ▸ loc_at w2 _ _ rfl
 have s3 : w2.heap.size + 1 ≤ w3.heap.size := by rw [← hw3]; simp
 replace R := R.up bb
 replace C := C.below (by omega) bb
 replace B := bu B bb
 clear bb
 go_upto_region 3 with fail
 clear hw3
 refine wp_region_noPanic ?_
 refine wp_region_held_drew (S := fun w' => (w'.cell? ⟨w2.heap.size, 0, none⟩ = some (.int .i64 n) ∧ w'.cell? ⟨w2.heap.size, 1, none⟩ = some (.int .i64 f))) (by kernel_rfl) ⟨X.cell 0 rfl, X.cell 1 rfl⟩ (fun hHeld => ?_)
 obtain ⟨wd, hd⟩ : ∃ wd, w3.drew = wd := ⟨_, rfl⟩
 have bd : Below w3.heap.size w3 wd := hd ▸ Below.drew (Below.refl _ _)
 have sd : w3.heap.size ≤ wd.heap.size := bd.size
 replace R := R.up bd
 replace X := X.up bd
 replace C := C.below (by omega) bd
 replace B := bu B bd
 rw [hd] at hHeld ⊢
 clear hd bd
 refine' tj 0 12 rfl ?_ ?_;rotate_left
 ·intro w h; (try dsimp only at h); go_simp; try with_reducible rfl
 simp only [pU]
 refine' tj 1 13 rfl ?_ ?_;rotate_left
 ·intro w h; (try dsimp only at h); go_simp; try with_reducible rfl
 simp only [pU]
 refine' tj 2 14 rfl ?_ ?_;rotate_left
 ·intro w h; (try dsimp only at h); go_simp; try with_reducible rfl
 simp only [pU]
 refine' tj 3 15 rfl ?_ ?_;rotate_left
 ·intro w h; (try dsimp only at h); go_simp; try with_reducible rfl
 simp only [pU]
 refine' tj 6 18 rfl ?_ ?_;rotate_left
 ·intro w h; (try dsimp only at h); go_simp; try with_reducible rfl
 simp only [pU]
 refine rd 4 rfl (fun KK hKK => ?_)
 go_simp
 refine (drawQc g g ca ao zs n f wd (by omega) hn0 hn1 C).mono ?_
 rintro e wr4 ⟨v, s, u, xs, rfl, hs, hl, hw, O, c1, e1⟩
 have q4 := e1.size
 replace R := R.grown e1 (by omega)
 replace X := X.grown e1 (by omega)
 replace B := cur_below e1 B B.size (by omega)
 replace C := c1
 clear c1 e1
 have tO := World.ownsRow.lt O
 obtain ⟨ua, uc, rfl⟩ := O.form
 obtain ⟨uk, huk⟩ : ∃ k, xs.length = k := ⟨_, rfl⟩
 have SB := hide (specQcBytes n f v s ua uc xs wr4 (by omega) (O.ri (by omega)))
 rw [huk] at O tO SB ⊢
 have hb1 := qcB_bytes n f v s xs
 have hl1 := qcB_len n f v s xs
 generalize qcB n f v s xs = bs at *
 clear O tO hw
 clear hHeld
 refine hKK.out _ _ ⟨X.cell 0 rfl, X.cell 1 rfl⟩ (fun hHeld => ?_)
 clear hKK KK
 refine rd 5 rfl (fun KK hKK => ?_)
 go_simp
 refine SB.out.mono ?_
 rintro e wr5 ⟨u2, rfl, OU, b1⟩
 have q5 := b1.size
 replace R := R.up b1
 replace X := X.up b1
 replace C := C.below (by omega) b1
 replace B := bu B b1
 clear b1
 clear SB
 have tOU := World.ownsRow.lt OU
 clear hHeld
 refine hKK.out _ _ ⟨X.cell 0 rfl, X.cell 1 rfl⟩ (fun hHeld => ?_)
 clear hKK KK
 refine rd 7 rfl (fun KK hKK => ?_)
 go_simp
 refine (drawNums_any g g ca ao zs wr5 (by omega) C).mono ?_
 rintro e wr6 ⟨v3, ns, rfl, hl2, hne, ON, hb2, c1, e1⟩
 have q6 := e1.size
 replace R := R.grown e1 (by omega)
 replace X := X.grown e1 (by omega)
 replace B := cur_below e1 B B.size (by omega)
 replace OU := OU.kp (kp_of e1) (fun j hj e => by have := tOU j hj; have : j = g := e; omega)
 replace C := c1
 clear c1 e1
 clear hne
 have PN := ON.pb (by omega)
 clear ON tOU
 clear hHeld
 refine hKK.out _ _ ⟨X.cell 0 rfl, X.cell 1 rfl⟩ (fun hHeld => ?_)
 clear hKK KK
 refine rd 8 rfl (fun KK hKK => ?_)
 have tA := World.ownsRow.lt OU
 refine step_append_bytes rfl (.tmp 17) (.tmp 19) rfl (wr4.heap.size) (u2) (v3) (bs) (ns) rfl rfl OU PN (by omega) (by omega) ?_
 intro v4 wr7 OV g7 _
 have q7 := g7.size
 replace C := C.grownNew g7 (fun j e => by have := tA _ e; omega)
 replace B := B.grown g7 B.size (fun j hj => by have := tA _ hj; omega)
 replace R := R.grownNew g7 (fun e => by have := tA _ e; omega)
 replace X := X.grownNew g7 (fun e => by have := tA _ e; omega)
 clear g7 tA
 clear OU PN
 have hbY : BytesL (bs ++ ns) := hb1.append hb2
 have hlY : (bs ++ ns).length ≤ 5100 := by rw [List.length_append]; omega
 generalize bs ++ ns = bn at *
 clear hHeld
 refine hKK.out _ _ ⟨X.cell 0 rfl, X.cell 1 rfl⟩ (fun hHeld => ?_)
 clear hKK KK
 refine rd 9 rfl (fun KK hKK => ?_)
 go_simp
 refine (bdent_any g g ca ao zs v4 bn wr7 (by omega) C (OB.mono OV (by omega)) hbY (by omega)).mono ?_
 rintro e wr8 ⟨t, ys, rfl, hby, hly, RY, FY, c1, e1⟩
 have q8 := e1.size
 replace R := R.grown e1 (by omega)
 replace X := X.grown e1 (by omega)
 replace B := cur_below e1 B B.size (by omega)
 replace C := c1
 clear c1 e1
 clear OV
 clear hHeld
 refine hKK.out _ _ ⟨X.cell 0 rfl, X.cell 1 rfl⟩ (fun hHeld => ?_)
 clear hKK KK
 refine' tj 10 7 rfl ?_ ?_;rotate_left
 ·intro w h; (try dsimp only at h); go_simp; try with_reducible rfl
 simp only [Act.put, List.setIfInBounds_toArray]
 clear hHeld
 refine wdn ?_
 have et : ∃ a c, t = .slice a ys.length c := by obtain ⟨_, a, c, e, _⟩ := RY; exact ⟨a, c, e⟩
 obtain ⟨ta, tc, rfl⟩ := et
 obtain ⟨tk, htk⟩ : ∃ k, ys.length = k := ⟨_, rfl⟩
 rw [htk] at RY FY hly ⊢
 have HTK := hide htk
 clear htk
 go_upto_region 4 with fail
 refine wp_region_noPanic ?_
 refine wp_region_held_drew (S := fun w' => (w'.cell? ⟨w2.heap.size, 0, none⟩ = some (.int .i64 n) ∧ w'.cell? ⟨w2.heap.size, 1, none⟩ = some (.int .i64 f))) (by kernel_rfl) ⟨X.cell 0 rfl, X.cell 1 rfl⟩ (fun hHeld => ?_)
 obtain ⟨wd, hd⟩ : ∃ wd, wr8.drew = wd := ⟨_, rfl⟩
 have bd : Below wr8.heap.size wr8 wd := hd ▸ Below.drew (Below.refl _ _)
 have sd : wr8.heap.size ≤ wd.heap.size := bd.size
 replace R := R.up bd
 replace X := X.up bd
 replace C := C.below (by omega) bd
 replace B := bu B bd
 replace RY := RY.below bd
 rw [hd] at hHeld ⊢
 clear hd bd
 refine' tj 0 22 rfl ?_ ?_;rotate_left
 ·intro w h; (try dsimp only at h); go_simp; try with_reducible rfl
 simp only [pU]
 refine' tj 1 23 rfl ?_ ?_;rotate_left
 ·intro w h; (try dsimp only at h); go_simp; try with_reducible rfl
 simp only [pU]
 refine' tj 2 24 rfl ?_ ?_;rotate_left
 ·intro w h; (try dsimp only at h); go_simp; try with_reducible rfl
 simp only [pU]
 refine' tj 3 25 rfl ?_ ?_;rotate_left
 ·intro w h; (try dsimp only at h); go_simp; try with_reducible rfl
 simp only [pU]
 refine' tj 4 26 rfl ?_ ?_;rotate_left
 ·intro w h; (try dsimp only at h); go_simp; try with_reducible rfl
 simp only [pU]
 refine rd 5 rfl (fun KK hKK => ?_)
 go_simp
 obtain ⟨wr9, hwr9⟩ : ∃ y, wd.alloc (.cells #[.int .i64 0, .int .i64 0, .int .i64 0, .int .i64 1, .int .i64 (tk : Int), .int .i64 (-1)] 3) = y := ⟨_, rfl⟩
 have bb : Below wd.heap.size wd wr9 := hwr9 ▸ qalloc _ _
 have LL : Loc wr9 wd.heap.size #[.int .i64 0, .int .i64 0, .int .i64 0, .int .i64 1, .int .i64 (tk : Int), .int .i64 (-1)] := hwr9 ▸ loc_at wd _ _ rfl
 have q9 : wd.heap.size + 1 ≤ wr9.heap.size := by rw [← hwr9]; simp
 replace R := R.up bb
 replace X := X.up bb
 replace C := C.below (by omega) bb
 replace B := bu B bb
 replace RY := RY.below bb
 rw [hwr9]
 clear bb hwr9
 clear hHeld
 refine hKK.out _ _ ⟨X.cell 0 rfl, X.cell 1 rfl⟩ (fun hHeld => ?_)
 clear hKK KK
 have lL := LL.lt
 refine rd 6 rfl (fun KK hKK => ?_)
 go_simp
 refine (pickInt_any g g ca (wd.heap.size) ao zs [0, 0, 0, 1, (tk : Int), -1] wr9 (by omega) (by omega) (by simp) (by simp) (fun j hj => by match j, hj with | 0, _ => exact LL.cell 0 rfl | 1, _ => exact LL.cell 1 rfl | 2, _ => exact LL.cell 2 rfl | 3, _ => exact LL.cell 3 rfl | 4, _ => exact LL.cell 4 rfl | 5, _ => exact LL.cell 5 rfl) C).mono ?_
 rintro e wr10 ⟨j, hj, rfl, c1, e1⟩
 have q10 := e1.size
 replace R := R.grown e1 (by omega)
 replace X := X.grown e1 (by omega)
 replace LL := LL.grown e1 (by omega)
 replace B := cur_below e1 B B.size (by omega)
 replace RY := RY.kp FY (kp_of e1) (fun j e => by have : j = g := e; omega)
 replace C := c1
 clear c1 e1
 obtain ⟨x, hxx⟩ : ∃ x, ([0, 0, 0, 1, (tk : Int), -1] : List Int).getD j 0 = x := ⟨_, rfl⟩
 have hx0 : -1 ≤ x ∧ x ≤ 100000 := by subst hxx; match j, hj with | 0, _ => simp | 1, _ => simp | 2, _ => simp | 3, _ => simp | 4, _ => simp; omega | 5, _ => simp
 rw [hxx]
 clear hj hxx j
 clear hHeld
 refine hKK.out _ _ ⟨X.cell 0 rfl, X.cell 1 rfl⟩ (fun hHeld => ?_)
 clear hKK KK
 have c0 := R.cell 0 rfl
 have c1 := R.cell 1 rfl
 have fc := R.frozen
 refine rd 7 rfl (fun KK hKK => ?_)
 go_simp
 obtain ⟨wa, hwa⟩ : ∃ y, ((wr10.setCell ⟨w.heap.size, 0, none⟩ (.int .i64 n)).setCell ⟨w.heap.size, 1, none⟩ (.int .i64 f)) = y := ⟨_, rfl⟩
 have kwa : Kp wr10 wa (fun k => k = w.heap.size) := hwa ▸ (set_kp _ _ _ _).trans (set_kp _ _ _ _)
 replace R : Loc wa (w.heap.size) #[.int .i64 n, .int .i64 f] := hwa ▸ ((R.set 0 _ rfl).set 1 _ rfl)
 replace X := X.kp kwa (by omega)
 replace LL := LL.kp kwa (by omega)
 replace RY := RY.kp FY kwa (fun j e => by have : j = w.heap.size := e; omega)
 replace B := Below.kp B kwa B.size (fun k hk => by omega)
 have zwa := kwa.size
 rw [hwa]
 clear hwa kwa c0 c1 fc
 clear hHeld
 refine hKK.out _ _ ⟨X.cell 0 rfl, X.cell 1 rfl⟩ (fun hHeld => ?_)
 clear hKK KK
 refine' tj 8 3 rfl ?_ ?_;rotate_left
 ·intro w h; (try dsimp only at h); go_simp; try with_reducible rfl
 simp only [Act.put, List.setIfInBounds_toArray]
 refine' tj 9 4 rfl ?_ ?_;rotate_left
 ·intro w h; (try dsimp only at h); go_simp; try with_reducible rfl
 simp only [Act.put, List.setIfInBounds_toArray]
 clear hHeld
 refine wdn ?_
 have r0 := R.cell 0 rfl
 have r1 := R.cell 1 rfl
 clear R X C LL
 go_wp2
 refine bodyPost_ret (v := .tuple #[cv n f, .slice ta tk tc, .int .i64 x]) (by simp [results, Tryz.results15, go_sem, r0, r1]) rfl ?_
 exact ⟨_, _, _, _, _, _, ys, rfl, ⟨hn0, hn1⟩, hx0, hby, HTK.out, by omega, RY, B⟩

set_option linter.unusedSimpArgs false in
theorem drawLastNote (ao : Option Addr) (ca : Nat) (zs : List Int) (w : World) (h : DCode w ao zs) :
 Calls Tryz.prog 11 #[.slice ao zs.length ca] w fun e w' => ∃ (n f : Int) (t : Value) (ys : List Int), e = .returned (.tuple #[cv n f, t]) ∧ (4 ≤ n ∧ n ≤ 7) ∧ BytesL ys ∧ ys.length ≤ 100000 ∧ RB w' t ys ∧ Below w.heap.size w w' := by
 obtain ⟨w0, hw0⟩ : ∃ w0, w.alloc (.cells #[.int .i64 0, .int .i64 0] 25) = w0 := ⟨_, rfl⟩
 have B : Below w.heap.size w w0 := hw0 ▸ qalloc _ _
 have R : Loc w0 w.heap.size #[.int .i64 0, .int .i64 0] := hw0 ▸ loc_at w _ _ rfl
 have s0 : w.heap.size + 1 ≤ w0.heap.size := by rw [← hw0]; simp
 have D0 := h.below B
 have NW := hide (new_any ao ca zs w0 D0.len D0.code D0.fit)
 clear h D0
 go_enter Tryz.func11, Tryz.ntmps11
 go_wp2_with fail
 clear hw0
 refine NW.out.mono ?_
 rintro e w1 ⟨rfl, C, b1⟩
 replace B := bu B b1
 replace R := R.up b1
 have s1 := b1.size
 generalize w0.heap.size = g at *
 have hg1 := C.lt
 clear b1 NW
 go_wp2_with fail
 refine (drawConf g g ca ao zs _ (by omega) C).mono ?_
 rintro e w2 ⟨n, f, rfl, ⟨hn0, hn1⟩, c1, e1⟩
 have s2 := e1.size
 replace R := R.grown e1 (by omega)
 replace B := cur_below e1 B B.size (by omega)
 replace C := c1
 clear c1 e1
 obtain ⟨w3, hw3⟩ : ∃ y, w2.alloc (.cells #[.int .i64 n, .int .i64 f] 25) = y := ⟨_, rfl⟩
 have bb : Below w2.heap.size w2 w3 := hw3 ▸ qalloc _ _
 have X : Loc w3 w2.heap.size #[.int .i64 n, .int .i64 f] := hw3 ▸ loc_at w2 _ _ rfl
 have s3 : w2.heap.size + 1 ≤ w3.heap.size := by rw [← hw3]; simp
 replace R := R.up bb
 replace C := C.below (by omega) bb
 replace B := bu B bb
 clear bb
 obtain ⟨w4, hw4⟩ : ∃ y, w3.alloc (.cells #[] 5) = y := ⟨_, rfl⟩
 have bb : Below w3.heap.size w3 w4 := hw4 ▸ qalloc _ _
 have N : Loc w4 w3.heap.size #[] := hw4 ▸ loc_at w3 _ _ rfl
 have s4 : w3.heap.size + 1 ≤ w4.heap.size := by rw [← hw4]; simp
 replace R := R.up bb
 replace X := X.up bb
 replace C := C.below (by omega) bb
 replace B := bu B bb
 clear bb
 have O0 : OB w4 w3.heap.size (.slice (some ⟨w3.heap.size, 0, none⟩) 0 0) [] := hw4 ▸ OB.lit w3 _ rfl
 go_wp2
 clear hw3
 clear hw4
 clear N
 obtain ⟨M, hM⟩ : ∃ M, w3.heap.size = M := ⟨_, rfl⟩
 obtain ⟨xb, hxb⟩ : ∃ x, w2.heap.size = x := ⟨_, rfl⟩
 rw [hM] at O0 ⊢
 rw [hxb] at X ⊢
 have hxM : xb + 1 ≤ M ∧ g < xb := by omega
 have hM2 : M ≤ w4.heap.size := by omega
 have hgw : w.heap.size + 1 ≤ g := by omega
 clear hM hxb
 go_loopw [6, 7] (fun out j wr => ∃ (k : Nat) (xs : List Int), k ≤ 4 ∧ j = .int .i64 k ∧ xs.length ≤ 5000 * k ∧ Hid (BytesL xs) ∧ OB wr M out xs ∧ M ≤ wr.heap.size ∧ Cur wr g g ao ca zs ∧ Loc wr w.heap.size #[.int .i64 0, .int .i64 0] ∧ Loc wr xb #[.int .i64 n, .int .i64 f] ∧ Below w.heap.size w wr) (fun _ j _ => 4 - (intOf j).toNat)
 case atStart => exact ⟨0, [], by omega, rfl, by simp, hide bytes_nil, O0, hM2, C, R, X, B⟩
 case round =>
  clear O0 hM2 C R X B
  obtain ⟨k, xs, hk, rfl, hxl, WX, OO, hM2, C, R, X, B⟩ := hrel
  have tOO := World.ownsRow.lt OO
  obtain ⟨oa, oc, rfl⟩ := OO.form
  obtain ⟨ok, hok⟩ : ∃ k, xs.length = k := ⟨_, rfl⟩
  rw [hok] at OO tOO hxl ⊢
  have HOK := hide hok
  clear hok
  have sC := B.size
  go_wp2_with fail
  refine (below_any g g ca ao zs 4 _ (by omega) (by omega) (by omega) C).mono ?_
  rintro e w21 ⟨y, rfl, y0, y1, c1, e1⟩
  have s21 := e1.size
  replace R := R.grown e1 (by omega)
  replace X := X.grown e1 (by omega)
  replace B := cur_below e1 B B.size (by omega)
  replace OO := OO.kp (kp_of e1) (fun j hj e => by have := tOO j hj; have : j = g := e; omega)
  replace C := c1
  clear c1 e1
  by_cases hlt2 : (k : Int) < y
  ·have hd : decide ((k : Int) < y) = true := by simpa using hlt2
   go_upto_region 7 with fail
   refine wp_region_noPanic ?_
   refine wp_region_held_drew (S := fun w' => (w'.cell? ⟨xb, 0, none⟩ = some (.int .i64 n) ∧ w'.cell? ⟨xb, 1, none⟩ = some (.int .i64 f))) (by kernel_rfl) ⟨X.cell 0 rfl, X.cell 1 rfl⟩ (fun hHeld => ?_)
   obtain ⟨wd, hd⟩ : ∃ wd, w21.drew = wd := ⟨_, rfl⟩
   have bd : Below w21.heap.size w21 wd := hd ▸ Below.drew (Below.refl _ _)
   have sd : w21.heap.size ≤ wd.heap.size := bd.size
   replace R := R.up bd
   replace X := X.up bd
   replace C := C.below (by omega) bd
   replace B := bu B bd
   replace OO := OO.below bd
   rw [hd] at hHeld ⊢
   clear hd bd
   refine' tj 0 19 rfl ?_ ?_;rotate_left
   ·intro w h; (try dsimp only at h); go_simp; try with_reducible rfl
   simp only [pU]
   refine' tj 1 20 rfl ?_ ?_;rotate_left
   ·intro w h; (try dsimp only at h); go_simp; try with_reducible rfl
   simp only [pU]
   refine' tj 2 21 rfl ?_ ?_;rotate_left
   ·intro w h; (try dsimp only at h); go_simp; try with_reducible rfl
   simp only [pU]
   refine' tj 3 22 rfl ?_ ?_;rotate_left
   ·intro w h; (try dsimp only at h); go_simp; try with_reducible rfl
   simp only [pU]
   refine rd 4 rfl (fun KK hKK => ?_)
   go_simp
   refine (drawSafeR g g ca ao zs n f wd (by omega) hn0 hn1 C).mono ?_
   rintro e wr22 ⟨vo, lo, v, s, u, d, us, rfl, hs, hd8, hl, O, c1, e1⟩
   have q22 := e1.size
   replace R := R.grown e1 (by omega)
   replace X := X.grown e1 (by omega)
   replace B := cur_below e1 B B.size (by omega)
   replace OO := OO.kp (kp_of e1) (fun j hj e => by have := tOO j hj; have : j = g := e; omega)
   replace C := c1
   clear c1 e1
   have tO := World.ownsRow.lt O
   obtain ⟨ua, uc, rfl⟩ := O.form
   obtain ⟨uk, huk⟩ : ∃ k, us.length = k := ⟨_, rfl⟩
   have SB := hide (specNoteBytes n f vo lo v s ua uc us d wr22 (by omega) (by omega) (O.ri (by omega)))
   rw [huk] at O tO SB ⊢
   have hb1 := notB_bytes n f vo lo v s us d
   have hl1 := notB_len n f vo lo v s us d
   generalize notB n f vo lo v s us d = ns at *
   clear O tO
   clear hHeld
   refine hKK.out _ _ ⟨X.cell 0 rfl, X.cell 1 rfl⟩ (fun hHeld => ?_)
   clear hKK KK
   refine rd 5 rfl (fun KK hKK => ?_)
   go_simp
   refine SB.out.mono ?_
   rintro e wr23 ⟨u2, rfl, ON, b1⟩
   have q23 := b1.size
   replace R := R.up b1
   replace X := X.up b1
   replace C := C.below (by omega) b1
   replace B := bu B b1
   replace OO := OO.below b1
   clear b1
   clear SB
   have PN := ON.pb (by omega)
   clear ON
   clear hHeld
   refine hKK.out _ _ ⟨X.cell 0 rfl, X.cell 1 rfl⟩ (fun hHeld => ?_)
   clear hKK KK
   refine rd 6 rfl (fun KK hKK => ?_)
   have tA := World.ownsRow.lt OO
   refine step_append_bytes rfl (.tmp 19) (.tmp 24) rfl (M) (.slice oa ok oc) (u2) (xs) (ns) rfl rfl OO PN (by have := HOK.out; omega) (by omega) ?_
   intro v4 wr24 OV g7 _
   have q24 := g7.size
   replace C := C.grownNew g7 (fun j e => by have := tA _ e; omega)
   replace B := B.grown g7 B.size (fun j hj => by have := tA _ hj; omega)
   replace R := R.grownNew g7 (fun e => by have := tA _ e; omega)
   replace X := X.grownNew g7 (fun e => by have := tA _ e; omega)
   clear g7 tA
   clear OO PN tOO
   clear hHeld
   refine hKK.out _ _ ⟨X.cell 0 rfl, X.cell 1 rfl⟩ (fun hHeld => ?_)
   clear hKK KK
   refine' tj 7 6 rfl ?_ ?_;rotate_left
   ·intro w h; (try dsimp only at h); go_simp; try with_reducible rfl
   simp only [Act.put, List.setIfInBounds_toArray]
   clear hHeld
   refine wdn ?_
   have hl9 : (xs ++ ns).length ≤ 5000 * (k + 1) := by rw [List.length_append, HOK.out]; omega
   go_wp2
   go_roundw
   case rel => exact ⟨k + 1, xs ++ ns, by omega, by go_num, hl9, hide (WX.out.append hb1), OV, by omega, C, R, X, B⟩
   case measure => simp [intOf]; omega
  ·have hd : decide ((k : Int) < y) = false := by simpa using hlt2
   go_upto_region 8 with fail
   refine wp_region_noPanic ?_
   refine wp_region_held_drew (S := fun w' => (w'.cell? ⟨xb, 0, none⟩ = some (.int .i64 n) ∧ w'.cell? ⟨xb, 1, none⟩ = some (.int .i64 f))) (by kernel_rfl) ⟨X.cell 0 rfl, X.cell 1 rfl⟩ (fun hHeld => ?_)
   obtain ⟨wd, hd⟩ : ∃ wd, w21.drew = wd := ⟨_, rfl⟩
   have bd : Below w21.heap.size w21 wd := hd ▸ Below.drew (Below.refl _ _)
   have sd : w21.heap.size ≤ wd.heap.size := bd.size
   replace R := R.up bd
   replace X := X.up bd
   replace C := C.below (by omega) bd
   replace B := bu B bd
   replace OO := OO.below bd
   rw [hd] at hHeld ⊢
   clear hd bd
   refine' tj 0 26 rfl ?_ ?_;rotate_left
   ·intro w h; (try dsimp only at h); go_simp; try with_reducible rfl
   simp only [pU]
   refine' tj 1 27 rfl ?_ ?_;rotate_left
   ·intro w h; (try dsimp only at h); go_simp; try with_reducible rfl
   simp only [pU]
   refine' tj 2 28 rfl ?_ ?_;rotate_left
   ·intro w h; (try dsimp only at h); go_simp; try with_reducible rfl
   simp only [pU]
   have hbY := WX.out
   refine rd 3 rfl (fun KK hKK => ?_)
   go_simp
   refine (bdent_any g g ca ao zs (.slice oa ok oc) xs wd (by omega) C (OB.mono OO (by omega)) hbY (by have := HOK.out; omega)).mono ?_
   rintro e wr22 ⟨t, ys, rfl, hby, hly, RY, FY, c1, e1⟩
   have q22 := e1.size
   replace R := R.grown e1 (by omega)
   replace X := X.grown e1 (by omega)
   replace B := cur_below e1 B B.size (by omega)
   skip --  (fun j hj e => by have := tOO j hj; have : j = g := e; omega)
   replace C := c1
   clear c1 e1
   clear OO
   clear hHeld
   refine hKK.out _ _ ⟨X.cell 0 rfl, X.cell 1 rfl⟩ (fun hHeld => ?_)
   clear hKK KK
   have c0 := R.cell 0 rfl
   have c1 := R.cell 1 rfl
   have fc := R.frozen
   refine rd 4 rfl (fun KK hKK => ?_)
   go_simp
   obtain ⟨wa, hwa⟩ : ∃ y, ((wr22.setCell ⟨w.heap.size, 0, none⟩ (.int .i64 n)).setCell ⟨w.heap.size, 1, none⟩ (.int .i64 f)) = y := ⟨_, rfl⟩
   have kwa : Kp wr22 wa (fun k => k = w.heap.size) := hwa ▸ (set_kp _ _ _ _).trans (set_kp _ _ _ _)
   replace R : Loc wa (w.heap.size) #[.int .i64 n, .int .i64 f] := hwa ▸ ((R.set 0 _ rfl).set 1 _ rfl)
   replace X := X.kp kwa (by omega)
   replace RY := RY.kp FY kwa (fun j e => by have : j = w.heap.size := e; omega)
   replace B := Below.kp B kwa B.size (fun k hk => by omega)
   have zwa := kwa.size
   rw [hwa]
   clear hwa kwa c0 c1 fc
   clear hHeld
   refine hKK.out _ _ ⟨X.cell 0 rfl, X.cell 1 rfl⟩ (fun hHeld => ?_)
   clear hKK KK
   refine' tj 5 3 rfl ?_ ?_;rotate_left
   ·intro w h; (try dsimp only at h); go_simp; try with_reducible rfl
   simp only [Act.put, List.setIfInBounds_toArray]
   clear hHeld
   refine wdn ?_
   have r0 := R.cell 0 rfl
   have r1 := R.cell 1 rfl
   clear R X C
   go_wp2
   refine bodyPost_ret (v := .tuple #[cv n f, t]) (by simp [results, Tryz.results11, go_sem, r0, r1]) rfl ?_
   exact ⟨_, _, _, ys, rfl, ⟨hn0, hn1⟩, hby, by have := HOK.out; omega, RY, B⟩
end Go.Proofs.YtcclbejpgiogaaaGreatDoor
namespace Go.Proofs.YtcclbejpgiogaaaGreatDoor
open Go.RowKit

def GetEnd (r : Option (Int × Int)) (e : Ending) : Prop :=
 (∃ n q, r = some (n, q) ∧ e = .returned (.tuple #[.int .i64 n, .int .i64 q, .bool true])) ∨ (r = none ∧ e = .returned (.tuple #[.int .i64 0, .int .i64 0, .bool false]))

theorem specGet_nat (b off ca : Nat) (xs : List Int) (p : Nat) (w : World) (hl : xs.length ≤ 140737488355328) (h : ∀ k, k < xs.length → w.cell? ⟨b, off + k, none⟩ = some (.int .u8 (xs.getD k 0))) (hb : ∀ k, k < xs.length → 0 ≤ xs.getD k 0 ∧ xs.getD k 0 ≤ 255) :
 Calls Tryz.prog 44 #[.slice (some ⟨b, off, none⟩) xs.length ca, .int .i64 p] w fun e w' => GetEnd (getF xs 5 0 p 0) e ∧ w' = w := by
 have hd0 : decide ((p : Int) < 0) = false := by simp
 go_enter Tryz.func44, Tryz.ntmps44
 go_wp2
 go_loop [7, 8] (fun y z => ∃ (i : Nat) (n : Int), i ≤ 5 ∧ y = .int .i64 n ∧ z = .int .i64 i ∧ 0 ≤ n ∧ n < 128 ^ i ∧ Hid (getF xs 5 0 p 0 = getF xs (5 - i) i (p + i) n)) (fun _ z => 5 - (intOf z).toNat)
 case atStart => exact ⟨0, 0, by omega, rfl, rfl, by omega, by simp, rfl⟩
 case round =>
  obtain ⟨i, n, hi, rfl, rfl, hn0, hn, HR⟩ := hrel
  obtain rfl | rfl | rfl | rfl | rfl | rfl : i = 0 ∨ i = 1 ∨ i = 2 ∨ i = 3 ∨ i = 4 ∨ i = 5 := by omega
  case inr.inr.inr.inr.inr =>
   go_wp2
   go_ret3
   exact ⟨.inr ⟨by rw [HR.out]; rfl, rfl⟩, rfl⟩
  case inl =>
   simp only [Int.reducePow] at hn
   by_cases hq : p < xs.length
   ·have hx := hb (p) hq
    have hc := h (p) hq
    obtain ⟨d, hd⟩ : ∃ d, xs.getD (p) 0 = d := ⟨_, rfl⟩
    have HD : Hid (xs.getD (p) 0 = d) := hd
    rw [hd] at hx hc
    clear hd h hb
    have hge : decide ((xs.length : Int) ≤ (p : Int)) = false := by simp; omega
    have hor := or_sum n (d % 128) 1 0 (by decide) (by decide) hn0 hn (by omega) (by omega)
    simp only [Int.natCast_one, Int.mul_one] at hor
    by_cases h1 : 128 ≤ d
    ·have HS : Hid (getF xs 5 0 p 0 = getF xs 4 1 (p + 1) (n + d % 128 * 1)) := getF_step (by decide) HR.out hq HD.out h1
     go_wp2
     go_round
     case rel => exact ⟨1, _, by omega, by go_num, rfl, by omega, by simp only [Int.reducePow]; omega, HS⟩
     case measure => simp [intOf]
    ·by_cases h3 : d = 0
     ·have HY : Hid (getF xs 5 0 p 0 = some (n + d % 128 * 1, (p : Int) + 1)) := getF_yes (by decide) HR.out hq HD.out h1 (by omega)
      clear h3
      go_wp2
      go_ret3
      exact ⟨.inl ⟨_, _, HY.out, by simp⟩, rfl⟩
     ·have h3' : (d == 0) = false := by simp [h3]
      by_cases h2 : 2147483647 < n + d % 128 * 1
      ·omega
      ·have h2' : n + d % 128 * 1 ≤ 2147483647 := by omega
       have HY : Hid (getF xs 5 0 p 0 = some (n + d % 128 * 1, ((p : Nat) : Int) + 1)) := getF_yes (by decide) HR.out hq HD.out h1 (by omega)
       go_wp2
       go_ret3
       exact ⟨.inl ⟨_, _, HY.out, by simp⟩, rfl⟩
   ·have HN : Hid (getF xs 5 0 p 0 = none) := HR.out.trans (getF_out _ _ _ _ _ hq)
    have hge : decide ((xs.length : Int) ≤ (p : Int)) = true := by simp; omega
    go_wp2
    go_ret3
    exact ⟨.inr ⟨HN.out, rfl⟩, rfl⟩
  case inr.inl =>
   simp only [Int.reducePow] at hn
   by_cases hq : p + 1 < xs.length
   ·have hx := hb (p + 1) hq
    have hc := h (p + 1) hq
    obtain ⟨d, hd⟩ : ∃ d, xs.getD (p + 1) 0 = d := ⟨_, rfl⟩
    have HD : Hid (xs.getD (p + 1) 0 = d) := hd
    rw [hd] at hx hc
    clear hd h hb
    have hge : decide ((xs.length : Int) - 1 ≤ (p : Int)) = false := by simp; omega
    have hor := or_sum n (d % 128) 128 7 (by decide) (by decide) hn0 hn (by omega) (by omega)
    rw [show ((128 : Nat) : Int) = 128 from rfl] at hor
    by_cases h1 : 128 ≤ d
    ·have HS : Hid (getF xs 5 0 p 0 = getF xs 3 2 (p + 1 + 1) (n + d % 128 * 128)) := getF_step (by decide) HR.out hq HD.out h1
     go_wp2
     go_round
     case rel => exact ⟨2, _, by omega, rfl, rfl, by omega, by simp only [Int.reducePow]; omega, HS⟩
     case measure => simp [intOf]
    ·by_cases h3 : d = 0
     ·have HN : Hid (getF xs 5 0 p 0 = none) := getF_no rfl HR.out hq HD.out h1 (.inr ⟨h3, by omega⟩)
      have h3' : (d == 0) = true := by simp [h3]
      clear h3
      go_wp2
      go_ret3
      exact ⟨.inr ⟨HN.out, rfl⟩, rfl⟩
     ·have h3' : (d == 0) = false := by simp [h3]
      by_cases h2 : 2147483647 < n + d % 128 * 128
      ·omega
      ·have h2' : n + d % 128 * 128 ≤ 2147483647 := by omega
       have HY : Hid (getF xs 5 0 p 0 = some (n + d % 128 * 128, ((p + 1 : Nat) : Int) + 1)) := getF_yes (by decide) HR.out hq HD.out h1 (by omega)
       go_wp2
       go_ret3
       exact ⟨.inl ⟨_, _, HY.out, by simp⟩, rfl⟩
   ·have HN : Hid (getF xs 5 0 p 0 = none) := HR.out.trans (getF_out _ _ _ _ _ hq)
    have hge : decide ((xs.length : Int) - 1 ≤ (p : Int)) = true := by simp; omega
    go_wp2
    go_ret3
    exact ⟨.inr ⟨HN.out, rfl⟩, rfl⟩
  case inr.inr.inl =>
   simp only [Int.reducePow] at hn
   by_cases hq : p + 2 < xs.length
   ·have hx := hb (p + 2) hq
    have hc := h (p + 2) hq
    obtain ⟨d, hd⟩ : ∃ d, xs.getD (p + 2) 0 = d := ⟨_, rfl⟩
    have HD : Hid (xs.getD (p + 2) 0 = d) := hd
    rw [hd] at hx hc
    clear hd h hb
    have hge : decide ((xs.length : Int) - 2 ≤ (p : Int)) = false := by simp; omega
    have hor := or_sum n (d % 128) 16384 14 (by decide) (by decide) hn0 hn (by omega) (by omega)
    rw [show ((16384 : Nat) : Int) = 16384 from rfl] at hor
    by_cases h1 : 128 ≤ d
    ·have HS : Hid (getF xs 5 0 p 0 = getF xs 2 3 (p + 2 + 1) (n + d % 128 * 16384)) := getF_step (by decide) HR.out hq HD.out h1
     go_wp2
     go_round
     case rel => exact ⟨3, _, by omega, rfl, rfl, by omega, by simp only [Int.reducePow]; omega, HS⟩
     case measure => simp [intOf]
    ·by_cases h3 : d = 0
     ·have HN : Hid (getF xs 5 0 p 0 = none) := getF_no rfl HR.out hq HD.out h1 (.inr ⟨h3, by omega⟩)
      have h3' : (d == 0) = true := by simp [h3]
      clear h3
      go_wp2
      go_ret3
      exact ⟨.inr ⟨HN.out, rfl⟩, rfl⟩
     ·have h3' : (d == 0) = false := by simp [h3]
      by_cases h2 : 2147483647 < n + d % 128 * 16384
      ·omega
      ·have h2' : n + d % 128 * 16384 ≤ 2147483647 := by omega
       have HY : Hid (getF xs 5 0 p 0 = some (n + d % 128 * 16384, ((p + 2 : Nat) : Int) + 1)) := getF_yes (by decide) HR.out hq HD.out h1 (by omega)
       go_wp2
       go_ret3
       exact ⟨.inl ⟨_, _, HY.out, by simp⟩, rfl⟩
   ·have HN : Hid (getF xs 5 0 p 0 = none) := HR.out.trans (getF_out _ _ _ _ _ hq)
    have hge : decide ((xs.length : Int) - 2 ≤ (p : Int)) = true := by simp; omega
    go_wp2
    go_ret3
    exact ⟨.inr ⟨HN.out, rfl⟩, rfl⟩
  case inr.inr.inr.inl =>
   simp only [Int.reducePow] at hn
   by_cases hq : p + 3 < xs.length
   ·have hx := hb (p + 3) hq
    have hc := h (p + 3) hq
    obtain ⟨d, hd⟩ : ∃ d, xs.getD (p + 3) 0 = d := ⟨_, rfl⟩
    have HD : Hid (xs.getD (p + 3) 0 = d) := hd
    rw [hd] at hx hc
    clear hd h hb
    have hge : decide ((xs.length : Int) - 3 ≤ (p : Int)) = false := by simp; omega
    have hor := or_sum n (d % 128) 2097152 21 (by decide) (by decide) hn0 hn (by omega) (by omega)
    rw [show ((2097152 : Nat) : Int) = 2097152 from rfl] at hor
    by_cases h1 : 128 ≤ d
    ·have HS : Hid (getF xs 5 0 p 0 = getF xs 1 4 (p + 3 + 1) (n + d % 128 * 2097152)) := getF_step (by decide) HR.out hq HD.out h1
     go_wp2
     go_round
     case rel => exact ⟨4, _, by omega, rfl, rfl, by omega, by simp only [Int.reducePow]; omega, HS⟩
     case measure => simp [intOf]
    ·by_cases h3 : d = 0
     ·have HN : Hid (getF xs 5 0 p 0 = none) := getF_no rfl HR.out hq HD.out h1 (.inr ⟨h3, by omega⟩)
      have h3' : (d == 0) = true := by simp [h3]
      clear h3
      go_wp2
      go_ret3
      exact ⟨.inr ⟨HN.out, rfl⟩, rfl⟩
     ·have h3' : (d == 0) = false := by simp [h3]
      by_cases h2 : 2147483647 < n + d % 128 * 2097152
      ·omega
      ·have h2' : n + d % 128 * 2097152 ≤ 2147483647 := by omega
       have HY : Hid (getF xs 5 0 p 0 = some (n + d % 128 * 2097152, ((p + 3 : Nat) : Int) + 1)) := getF_yes (by decide) HR.out hq HD.out h1 (by omega)
       go_wp2
       go_ret3
       exact ⟨.inl ⟨_, _, HY.out, by simp⟩, rfl⟩
   ·have HN : Hid (getF xs 5 0 p 0 = none) := HR.out.trans (getF_out _ _ _ _ _ hq)
    have hge : decide ((xs.length : Int) - 3 ≤ (p : Int)) = true := by simp; omega
    go_wp2
    go_ret3
    exact ⟨.inr ⟨HN.out, rfl⟩, rfl⟩
  case inr.inr.inr.inr.inl =>
   simp only [Int.reducePow] at hn
   by_cases hq : p + 4 < xs.length
   ·have hx := hb (p + 4) hq
    have hc := h (p + 4) hq
    obtain ⟨d, hd⟩ : ∃ d, xs.getD (p + 4) 0 = d := ⟨_, rfl⟩
    have HD : Hid (xs.getD (p + 4) 0 = d) := hd
    rw [hd] at hx hc
    clear hd h hb
    have hge : decide ((xs.length : Int) - 4 ≤ (p : Int)) = false := by simp; omega
    have hor := or_sum n (d % 128) 268435456 28 (by decide) (by decide) hn0 hn (by omega) (by omega)
    rw [show ((268435456 : Nat) : Int) = 268435456 from rfl] at hor
    by_cases h1 : 128 ≤ d
    ·have HS : Hid (getF xs 5 0 p 0 = getF xs 0 5 (p + 4 + 1) (n + d % 128 * 268435456)) := getF_step (by decide) HR.out hq HD.out h1
     go_wp2
     go_round
     case rel => exact ⟨5, _, by omega, rfl, rfl, by omega, by simp only [Int.reducePow]; omega, HS⟩
     case measure => simp [intOf]
    ·by_cases h3 : d = 0
     ·have HN : Hid (getF xs 5 0 p 0 = none) := getF_no rfl HR.out hq HD.out h1 (.inr ⟨h3, by omega⟩)
      have h3' : (d == 0) = true := by simp [h3]
      clear h3
      go_wp2
      go_ret3
      exact ⟨.inr ⟨HN.out, rfl⟩, rfl⟩
     ·have h3' : (d == 0) = false := by simp [h3]
      by_cases h2 : 2147483647 < n + d % 128 * 268435456
      ·have HN : Hid (getF xs 5 0 p 0 = none) := getF_no (by decide) HR.out hq HD.out h1 (.inl h2)
       go_wp2
       go_ret3
       exact ⟨.inr ⟨HN.out, rfl⟩, rfl⟩
      ·have h2' : n + d % 128 * 268435456 ≤ 2147483647 := by omega
       have HY : Hid (getF xs 5 0 p 0 = some (n + d % 128 * 268435456, ((p + 4 : Nat) : Int) + 1)) := getF_yes (by decide) HR.out hq HD.out h1 (by omega)
       go_wp2
       go_ret3
       exact ⟨.inl ⟨_, _, HY.out, by simp⟩, rfl⟩
   ·have HN : Hid (getF xs 5 0 p 0 = none) := HR.out.trans (getF_out _ _ _ _ _ hq)
    have hge : decide ((xs.length : Int) - 4 ≤ (p : Int)) = true := by simp; omega
    go_wp2
    go_ret3
    exact ⟨.inr ⟨HN.out, rfl⟩, rfl⟩

theorem specGet_out (ao : Option Addr) (ca len : Nat) (p : Int) (w : World) (hl : len ≤ 140737488355328) (hp : p < 0 ∨ (len : Int) ≤ p) :
 Calls Tryz.prog 44 #[.slice ao len ca, .int .i64 p] w fun e w' => e = .returned (.tuple #[.int .i64 0, .int .i64 0, .bool false]) ∧ w' = w := by
 by_cases hn : p < 0
 ·clear hp
  go_enter Tryz.func44, Tryz.ntmps44
  go_wp2
  refine wp_loop_rounds 1 ?_
  rw [rounds_succ]
  go_wp2
  go_ret3
  exact ⟨rfl, rfl⟩
 ·have hd : decide (p < 0) = false := by simpa using hn
  have hp2 : (len : Int) ≤ p := by omega
  have hd2 : decide ((len : Int) ≤ p) = true := by simpa using hp2
  clear hp
  go_enter Tryz.func44, Tryz.ntmps44
  go_wp2
  refine wp_loop_rounds 1 ?_
  rw [rounds_succ]
  go_wp2
  go_ret3
  exact ⟨rfl, rfl⟩

theorem specGet_any (v : Value) (xs : List Int) (p : Int) (w : World) (h : RB w v xs) (hb : ∀ k, k < xs.length → 0 ≤ xs.getD k 0 ∧ xs.getD k 0 ≤ 255) :
 Calls Tryz.prog 44 #[v, .int .i64 p] w fun e w' => GetEnd (getNum xs p) e ∧ w' = w := by
 obtain ⟨hl, ao, ca, rfl, _, h⟩ := h
 by_cases hp : p < 0
 ·refine (specGet_out ao ca xs.length p w hl (.inl hp)).mono ?_
  rintro e w' ⟨rfl, rfl⟩
  exact ⟨.inr ⟨getNum_neg xs p hp, rfl⟩, rfl⟩
 ·obtain ⟨m, rfl⟩ := Int.eq_ofNat_of_zero_le (Int.not_lt.1 hp)
  rw [getNum_nat]
  rcases h with rfl | ⟨b, off, rfl, h⟩
  ·refine (specGet_out ao ca 0 m w (by omega) (.inr (by omega))).mono ?_
   rintro e w' ⟨rfl, rfl⟩
   exact ⟨.inr ⟨getF_out _ _ _ _ _ (by simp), rfl⟩, rfl⟩
  ·exact specGet_nat b off ca xs m w hl h hb

theorem specGet_ans (v : Value) (xs : List Int) (p : Int) (w : World) (h : RB w v xs) (hb : Bytes xs) :
 Calls Tryz.prog 44 #[v, .int .i64 p] w fun e w' => e = .returned (.tuple #[.int .i64 (ans1 (getNum xs p)), .int .i64 (ans2 (getNum xs p)), .bool (getNum xs p).isSome]) ∧ w' = w := by
 refine (specGet_any v xs p w h hb).mono ?_
 rintro e w' ⟨h1, rfl⟩
 rcases h1 with ⟨n, q, h2, rfl⟩ | ⟨h2, rfl⟩ <;> exact ⟨by rw [h2]; rfl, rfl⟩
theorem specGet_some (v : Value) (xs : List Int) (p n q : Int) (w : World) (h : RB w v xs) (hb : Bytes xs) (hr : getNum xs p = some (n, q)) :
 Calls Tryz.prog 44 #[v, .int .i64 p] w fun e w' => e = .returned (.tuple #[.int .i64 n, .int .i64 q, .bool true]) ∧ w' = w := by
 have := specGet_ans v xs p w h hb; rw [hr] at this; exact this
theorem specGet_none (v : Value) (xs : List Int) (p : Int) (w : World) (h : RB w v xs) (hb : Bytes xs) (hr : getNum xs p = none) :
 Calls Tryz.prog 44 #[v, .int .i64 p] w fun e w' => e = .returned (.tuple #[.int .i64 0, .int .i64 0, .bool false]) ∧ w' = w := by
 have := specGet_ans v xs p w h hb; rw [hr] at this; exact this

theorem specText_some (v : Value) (xs : List Int) (p : Int) (n q : Nat) (w : World) (h : RB w v xs) (hb : Bytes xs) (hr : Hid (getNum xs p = some ((n : Int), (q : Int)))) (hn : n ≤ 2147483647) (hq : 0 < q) (hl : q + n ≤ xs.length) :
 Calls Tryz.prog 72 #[v, .int .i64 p] w fun e w' => e = .returned (.tuple #[.string (textAt xs q n), .int .i64 ((q : Int) + n), .bool true]) ∧ w' = w := by
 have hr1 := fun w (h : RB w v xs) => specGet_some v xs p n q w h hb hr.out
 have HR := hide hr1
 clear hr1
 have h' := h
 obtain ⟨hlen, ao, ca, rfl, ⟨hcap, hcm⟩, hc⟩ := h'
 unfold maxLen at hcm
 rcases hc with rfl | ⟨b, off, rfl, hc⟩
 ·simp at hl; omega
 have hd : decide ((xs.length : Int) - (q : Int) < (n : Int)) = false := by simp; omega
 by_cases hcq : ca = q
 ·obtain rfl : n = 0 := by omega
  have hcv := run_convert_bytes_arg (P := Tryz.prog) w 22 5 Tryz.underlying22 Tryz.underlying5 b off 0 0 [] rfl (fun i hi => by omega) 9 Tryz.underlying9
  clear hc
  subst hcq
  go_enter Tryz.func72, Tryz.ntmps72
  go_wp2_with fail
  refine (HR.out _ h).mono ?_
  rintro e w' ⟨rfl, rfl⟩
  go_wp2
  go_ret3
  exact ⟨by simp [textAt], rfl⟩
 ·have hcv := run_convert_bytes_arg (P := Tryz.prog) w 22 5 Tryz.underlying22 Tryz.underlying5 b (off + q) n (ca - q) ((xs.drop q).take n) (win_len xs q n hl) (win_cells hc hl) 9 Tryz.underlying9
  clear hc
  go_enter Tryz.func72, Tryz.ntmps72
  go_wp2_with fail
  refine (HR.out _ h).mono ?_
  rintro e w' ⟨rfl, rfl⟩
  go_wp2
  go_ret3
  exact ⟨rfl, rfl⟩

theorem specText_far (v : Value) (xs : List Int) (p : Int) (n q : Nat) (w : World) (h : RB w v xs) (hb : Bytes xs) (hr : Hid (getNum xs p = some ((n : Int), (q : Int)))) (hn : n ≤ 2147483647) (hq : q ≤ xs.length) (hl : xs.length < q + n) :
 Calls Tryz.prog 72 #[v, .int .i64 p] w fun e w' => e = .returned (.tuple #[.string ⟨#[]⟩, .int .i64 0, .bool false]) ∧ w' = w := by
 have hr1 := fun w (h : RB w v xs) => specGet_some v xs p n q w h hb hr.out
 have HR := hide hr1
 clear hr1
 have h' := h
 obtain ⟨hlen, ao, ca, rfl, _, hc⟩ := h'
 clear hc
 have hd : decide ((xs.length : Int) - (q : Int) < (n : Int)) = true := by simp; omega
 go_enter Tryz.func72, Tryz.ntmps72
 go_wp2_with fail
 refine (HR.out _ h).mono ?_
 rintro e w' ⟨rfl, rfl⟩
 go_wp2
 go_ret3
 exact ⟨rfl, rfl⟩

theorem specText_none (v : Value) (xs : List Int) (p : Int) (w : World) (h : RB w v xs) (hb : Bytes xs) (hr : Hid (getNum xs p = none)) :
 Calls Tryz.prog 72 #[v, .int .i64 p] w fun e w' => e = .returned (.tuple #[.string ⟨#[]⟩, .int .i64 0, .bool false]) ∧ w' = w := by
 have hr1 := fun w (h : RB w v xs) => specGet_none v xs p w h hb hr.out
 have HR := hide hr1
 clear hr1
 have h' := h
 obtain ⟨hlen, ao, ca, rfl, _, hc⟩ := h'
 clear hc
 go_enter Tryz.func72, Tryz.ntmps72
 go_wp2_with fail
 refine (HR.out _ h).mono ?_
 rintro e w' ⟨rfl, rfl⟩
 go_wp2
 go_ret3
 exact ⟨rfl, rfl⟩

theorem specText_any (v : Value) (xs : List Int) (p : Int) (w : World) (h : RB w v xs) (hb : Bytes xs) :
 Calls Tryz.prog 72 #[v, .int .i64 p] w fun e w' => e = .returned (.tuple #[.string (tans1 (getText xs p)), .int .i64 (tans2 (getText xs p)), .bool (getText xs p).isSome]) ∧ w' = w := by
 unfold getText
 cases hg : getNum xs p with
 | none => exact specText_none v xs p w h hb hg
 | some x =>
  obtain ⟨n, q⟩ := x
  have bd := getNum_bd xs hb p n q hg
  obtain ⟨n, rfl⟩ := Int.eq_ofNat_of_zero_le bd.1
  obtain ⟨q, rfl⟩ := Int.eq_ofNat_of_zero_le (show 0 ≤ q by omega)
  by_cases hl : (n : Int) ≤ (xs.length : Int) - (q : Int)
  ·simp only [if_pos hl]
   exact specText_some v xs p n q w h hb hg (by omega) (by omega) (by omega)
  ·simp only [if_neg hl]
   exact specText_far v xs p n q w h hb hg (by omega) (by omega) (by omega)
end Go.Proofs.YtcclbejpgiogaaaGreatDoor
