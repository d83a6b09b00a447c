/- Texts that belong together: JoinParts, ShelfMarks, FedPlain. -/
import Derived.Test.YtmpmedbojfjnaaaGreatDoorFPBC
import Derived.Test.YtmpmedbojfjnaaaGreatDoorFPAQ
import Derived.Test.YtmpmedbojfjnaaaGreatDoorFPBD
import Derived.Test.YtmpmedbojfjnaaaGreatDoorFPAI
import Derived.Deep.RegionHeld3
import Derived.Deep.DeepCutAuto
import Derived.Shelf.Small.Wraps
import Derived.Shelf.Strconv.Atoi
import Derived.Shelf.Strconv.Itoa0
import Derived.Shelf.Strconv.Itoa1
import Derived.Shelf.LaysM
import Derived.Shelf.Strconv.Itoa2
import Derived.Shelf.Strconv.Itoa3
import Derived.Shelf.Strconv.AtoiErrFast
import Derived.Shelf.Strconv.ParseIntEmpty
import Derived.Shelf.Strconv.AtoiFail
import Derived.Shelf.Strconv.Clone
import Derived.Shelf.Strconv.SyntaxError
import Derived.Shelf.LaysC
import Derived.Shelf.Strconv.ToError
import Derived.Shelf.Strconv.Lower
import Derived.Shelf.Strconv.ParseUint10
import Derived.Shelf.Strconv.ParseUint10Empty
import Derived.Shelf.Strconv.ParseUint10Any
import Derived.Shelf.Strconv.ParseInt10
import Derived.Shelf.Strconv.AtoiLong
import Derived.Shelf.Strconv.AtoiInnerAll
import Derived.Shelf.Strconv.RangeError
import Derived.Shelf.Strconv.ToErrorRange
import Derived.Shelf.Strconv.AtoiAll
import Derived.Shelf.Strconv.ErrVarAll
import Derived.Shelf.Strings.Search1
import Derived.Shelf.Strings.Search2
import Derived.Shelf.Strings.Search3
import Derived.Shelf.Strings.Cut
import Derived.Shelf.Strings.Shaped
import Derived.Shelf.Sort.Plain
import Derived.Shelf.Strings.LastIndex
import Derived.Shelf.Strings.Prefix
import Derived.Shelf.Slices.In.SortNone
import Derived.Test.YtmpmedbojfjnaaaGreatDoorProg
import Derived.Test.YtmpmedbojfjnaaaGreatDoorFPAM
namespace Go.Proofs.YtmpmedbojfjnaaaGreatDoor
open Go.RowKit
set_option linter.unusedSectionVars false
variable [∀ (n : Int) (s : List Int), Decidable (OkL n s)]

abbrev apV (a : Addr) : Value := .iface 254 (.pointer (some a))
def Gv (w : World) (a : Addr) : Prop := w.cell? ⟨0, 0, none⟩ = some (apV a)
theorem Gv.lt {w : World} {a : Addr} (h : Gv w a) : 0 < w.heap.size := cell_lt h
theorem Gv.below {w w' : World} {B : Nat} {a : Addr} (h : Gv w a) (hb : Below B w w') (hg : 0 < B) : Gv w' a := (hb.cell (p := ⟨0, 0, none⟩) hg).trans h
theorem Gv.kp {w w' : World} {X : Nat → Prop} {a : Addr} (h : Gv w a) (k : Kp w w' X) (hg : ¬ X 0) : Gv w' a := (World.cell?_of_block (a := ⟨0, 0, none⟩) (k.block _ h.lt hg)).trans h
theorem Gv.cell {w : World} {a : Addr} (h : Gv w a) (j : Nat) (hj : j = 0) : w.cell? ⟨0, j, none⟩ = some (apV a) := by subst hj; exact h

set_option maxHeartbeats 8000000 in
set_option maxRecDepth 100000 in
theorem joinParts_any (m n : Int) (s t : ByteArray) (u v : Value) (xs ys : List Int) (a : Addr) (w : World) (hl : xs.length + ys.length ≤ 4194303) (hs : s.size ≤ 281474976710656) (wx : WfL xs) (wy : WfL ys) (hu : RI w u xs) (hv : RI w v ys) (G : Gv w a) :
 Calls Tryz.prog 87 #[qv m s u, qv n t v] w fun e w' => ∃ r, e = .returned (.tuple #[qv (if samP (m, s, xs) (n, t, ys) then m else 0) (if samP (m, s, xs) (n, t, ys) then s else ⟨#[]⟩) r, if samP (m, s, xs) (n, t, ys) then .nilIface else apV a]) ∧ OI w' w.heap.size r (if samP (m, s, xs) (n, t, ys) then joinL xs ys else []) ∧ Below w.heap.size w w' := by
 have hgl := G.lt
 obtain ⟨ua, uc, rfl⟩ := hu.form
 obtain ⟨va, vc, rfl⟩ := hv.form
 have SJ := hide fun w h h' => implSetJoin (.slice ua xs.length uc) (.slice va ys.length vc) xs ys w h h' wx wy hl
 have CL := hide fun w => clone_any s w hs
 have CP := hide fun w => compareParts_any m n s t (.slice ua xs.length uc) (.slice va ys.length vc) xs ys w
 have HQ := hide (cmpP_eq (m, s, xs) (n, t, ys))
 obtain ⟨w0, hw0⟩ : ∃ y, ((w.alloc (.cells #[.int .i64 m, .string s, .slice ua xs.length uc] 52)).alloc (.cells #[.int .i64 n, .string t, .slice va ys.length vc] 52)).alloc zpo = y := ⟨_, rfl⟩
 have B : Below w.heap.size w w0 := hw0 ▸ ((qalloc2 _ _ _).alloc (by simp; omega) _)
 have X : Loc w0 w.heap.size #[.int .i64 m, .string s, .slice ua xs.length uc] := hw0 ▸ ((loc_at w _ _ rfl).alloc _).alloc _
 have Y : Loc w0 (w.heap.size + 1) #[.int .i64 n, .string t, .slice va ys.length vc] := hw0 ▸ (loc_at (w.alloc _) _ _ (by simp)).alloc _
 have R : Loc w0 (w.heap.size + 1 + 1) #[.int .i64 0, .string ⟨#[]⟩, .slice none 0 0] := hw0 ▸ (loc_at ((w.alloc _).alloc _) _ _ (by simp))
 have s0 : w0.heap.size = w.heap.size + 1 + 1 + 1 := by rw [← hw0]; simp
 replace G := G.below B hgl
 have RU := hide fun w' (hb : Below w0.heap.size w0 w') => (hu.below B (Nat.le_refl _)).below hb (Nat.le_refl _)
 have RV := hide fun w' (hb : Below w0.heap.size w0 w') => (hv.below B (Nat.le_refl _)).below hb (Nat.le_refl _)
 generalize cmpP (m, s, xs) (n, t, ys) = q at *
 generalize samP (m, s, xs) (n, t, ys) = sm at *
 obtain ⟨k1, hk1⟩ : ∃ k, xs.length = k := ⟨_, rfl⟩
 obtain ⟨k2, hk2⟩ : ∃ k, ys.length = k := ⟨_, rfl⟩
 rw [hk1] at SJ X RU CP hw0 ⊢
 rw [hk2] at SJ Y RV CP hw0 ⊢
 have x0 := X.cell 0 rfl
 have x1 := X.cell 1 rfl
 have x2 := X.cell 2 rfl
 have y0 := Y.cell 0 rfl
 have y1 := Y.cell 1 rfl
 have y2 := Y.cell 2 rfl
 clear hu hv hk1 hk2 hl wx wy
 cases sm with
 | true =>
  obtain rfl : q = 0 := (unhide HQ).2 rfl
  simp only [if_true]
  go_enter Tryz.func87, Tryz.ntmps87
  go_wp2_with fail
  clear hw0 x0 x1 x2 y0 y1 y2 HQ
  refine (unhide CP _).mono ?_
  rintro e w1 ⟨rfl, b1⟩
  have BX := b1
  have s1 := b1.size
  replace X := X.below b1 X.lt
  replace Y := Y.below b1 Y.lt
  replace R := R.below b1 R.lt
  replace G := G.below b1 G.lt
  replace B := B.trans (b1.mono B.size)
  clear b1 CP
  go_upto_region 3 with fail
  refine wp_region_noPanic ?_
  refine wp_region_held_drew (S := fun w' => (w'.cell? ⟨w.heap.size, 0, none⟩ = some (.int .i64 m) ∧ w'.cell? ⟨w.heap.size, 1, none⟩ = some (.string s) ∧ w'.cell? ⟨w.heap.size, 2, none⟩ = some (.slice ua k1 uc)) ∧ (w'.cell? ⟨w.heap.size + 1, 0, none⟩ = some (.int .i64 n) ∧ w'.cell? ⟨w.heap.size + 1, 1, none⟩ = some (.string t) ∧ w'.cell? ⟨w.heap.size + 1, 2, none⟩ = some (.slice va k2 vc))) (by kernel_rfl) ⟨⟨X.cell 0 rfl, X.cell 1 rfl, X.cell 2 rfl⟩, ⟨Y.cell 0 rfl, Y.cell 1 rfl, Y.cell 2 rfl⟩⟩ (fun hHeld => ?_)
  obtain ⟨wd, hd⟩ : ∃ wd, w1.drew = wd := ⟨_, rfl⟩
  have bd : Below w1.heap.size w1 wd := hd ▸ Below.drew (Below.refl _ _)
  have BD : Below w0.heap.size w0 wd := BX.trans (bd.mono s1)
  have sd : w1.heap.size ≤ wd.heap.size := bd.size
  replace X := X.below bd X.lt
  replace Y := Y.below bd Y.lt
  replace R := R.below bd R.lt
  replace G := G.below bd G.lt
  replace B := B.trans (bd.mono B.size)
  rw [hd] at hHeld ⊢
  clear hd bd BX
  refine tk 0 12 (v := ?_) rfl (hy := .inl ⟨by rfl, ?_⟩) (h := ?_); rotate_left
  ·intro w hSw; (try dsimp only at hSw); go_simp; (try with_reducible rfl)
  simp only [pU]
  refine tk 1 13 (v := ?_) rfl (hy := .inl ⟨by rfl, ?_⟩) (h := ?_); rotate_left
  ·intro w hSw; (try dsimp only at hSw); go_simp; (try with_reducible rfl)
  simp only [pU]
  refine tk 2 14 (v := ?_) rfl (hy := .inl ⟨by rfl, ?_⟩) (h := ?_); rotate_left
  ·intro w hSw; (try dsimp only at hSw); go_simp; (try with_reducible rfl)
  simp only [pU]
  refine tk 3 15 (v := ?_) rfl (hy := .inl ⟨by rfl, ?_⟩) (h := ?_); rotate_left
  ·intro w hSw; (try dsimp only at hSw); go_simp; (try with_reducible rfl)
  simp only [pU]
  refine tk 5 17 (v := ?_) rfl (hy := .inl ⟨by rfl, ?_⟩) (h := ?_); rotate_left
  ·intro w hSw; (try dsimp only at hSw); go_simp; (try with_reducible rfl)
  simp only [pU]
  refine tk 6 18 (v := ?_) rfl (hy := .inl ⟨by rfl, ?_⟩) (h := ?_); rotate_left
  ·intro w hSw; (try dsimp only at hSw); go_simp; (try with_reducible rfl)
  simp only [pU]
  refine tk 7 19 (v := ?_) rfl (hy := .inl ⟨by rfl, ?_⟩) (h := ?_); rotate_left
  ·intro w hSw; (try dsimp only at hSw); go_simp; (try with_reducible rfl)
  simp only [pU]
  refine tk 8 20 (v := ?_) rfl (hy := .inl ⟨by rfl, ?_⟩) (h := ?_); rotate_left
  ·intro w hSw; (try dsimp only at hSw); go_simp; (try with_reducible rfl)
  simp only [pU]
  refine ready_at (i := 4) rfl (by kernel_rfl) (fun KK hKK => ?_)
  go_simp
  refine (unhide CL _).mono ?_
  rintro e wj ⟨rfl, bj⟩
  have sj := bj.size
  have BJ : Below w0.heap.size w0 wj := BD.trans (bj.mono BD.size)
  replace X := X.below bj X.lt
  replace Y := Y.below bj Y.lt
  replace R := R.below bj R.lt
  replace G := G.below bj G.lt
  replace B := B.trans (bj.mono B.size)
  clear bj CL BD
  clear hHeld
  refine hKK.out _ _ ⟨⟨X.cell 0 rfl, X.cell 1 rfl, X.cell 2 rfl⟩, ⟨Y.cell 0 rfl, Y.cell 1 rfl, Y.cell 2 rfl⟩⟩ (fun hHeld => ?_)
  clear hKK KK
  refine ready_at (i := 9) rfl (by kernel_rfl) (fun KK hKK => ?_)
  go_simp
  refine (unhide SJ _ (unhide RU _ BJ) (unhide RV _ BJ)).mono ?_
  rintro e wk ⟨q, rfl, oq, bk⟩
  have sk := bk.size
  replace X := X.below bk X.lt
  replace Y := Y.below bk Y.lt
  replace R := R.below bk R.lt
  replace G := G.below bk G.lt
  replace B := B.trans (bk.mono B.size)
  have tO := World.ownsRow.lt oq
  obtain ⟨qa, qc, rfl⟩ := oq.form
  have O := oq
  generalize hjl : (joinL xs ys).length = jl at *
  clear bk oq SJ RU RV BJ
  clear hHeld
  refine hKK.out _ _ ⟨⟨X.cell 0 rfl, X.cell 1 rfl, X.cell 2 rfl⟩, ⟨Y.cell 0 rfl, Y.cell 1 rfl, Y.cell 2 rfl⟩⟩ (fun hHeld => ?_)
  clear hKK KK
  refine tk 10 22 (v := ?_) rfl (hy := .inl ⟨by rfl, ?_⟩) (h := ?_); rotate_left
  ·intro w hSw; (try dsimp only at hSw); go_simp; (try with_reducible rfl)
  simp only [pU]
  have c0 := R.cell 0 rfl
  have c1 := R.cell 1 rfl
  have c2 := R.cell 2 rfl
  have fc := R.frozen
  refine ready_at (i := 11) rfl (by kernel_rfl) (fun KK hKK => ?_)
  go_simp
  obtain ⟨wa, hwa⟩ : ∃ y, (((wk.setCell ⟨w.heap.size + 1 + 1, 0, none⟩ (.int .i64 m)).setCell ⟨w.heap.size + 1 + 1, 1, none⟩ (.string s)).setCell ⟨w.heap.size + 1 + 1, 2, none⟩ (.slice qa jl qc)) = y := ⟨_, rfl⟩
  have kwa : Kp wk wa (fun k => k = w.heap.size + 1 + 1) := hwa ▸ ((set_kp _ _ _ _).trans (set_kp _ _ _ _)).trans (set_kp _ _ _ _)
  replace R : Loc wa (w.heap.size + 1 + 1) #[.int .i64 m, .string s, .slice qa jl qc] := hwa ▸ (((R.set 0 _ rfl).set 1 _ rfl).set 2 _ rfl)
  replace X := X.kp kwa (by omega)
  replace Y := Y.kp kwa (by omega)
  replace G := G.kp kwa (by omega)
  replace O := O.kp kwa (fun j hj e => by have := tO j hj; omega)
  replace B := Below.kp B kwa B.size (fun k hk => by omega)
  have zwa := kwa.size
  rw [hwa]
  clear hwa kwa c0 c1 c2 fc
  clear hHeld
  refine hKK.out _ _ ⟨⟨X.cell 0 rfl, X.cell 1 rfl, X.cell 2 rfl⟩, ⟨Y.cell 0 rfl, Y.cell 1 rfl, Y.cell 2 rfl⟩⟩ (fun hHeld => ?_)
  clear hKK KK
  refine tk 12 5 (v := ?_) rfl (hy := .inl ⟨by rfl, ?_⟩) (h := ?_); rotate_left
  ·intro w hSw; (try dsimp only at hSw); go_simp; (try with_reducible rfl)
  simp only [pU]
  clear hHeld
  refine wpAnyH_done (by kernel_rfl) ?_ _
  refine NoPanic.normal ?_
  have r0 := R.cell 0 rfl
  have r1 := R.cell 1 rfl
  have r2 := R.cell 2 rfl
  clear R X Y
  go_wp2
  refine bodyPost_ret (v := .tuple #[qv m s (.slice qa jl qc), .nilIface]) (by simp [results, Tryz.results87, go_sem, r0, r1, r2]) rfl ?_
  exact ⟨_, rfl, OI.mono O (by omega), B⟩
 | false =>
  have hq : ¬ q = 0 := fun e => by have := (unhide HQ).1 e; cases this
  have hq1 : (q == 0) = false := by simpa using hq
  have hq2 : (q != 0) = true := by simpa using hq
  simp only [Bool.false_eq_true, if_false]
  clear hq HQ SJ CL RU RV
  go_enter Tryz.func87, Tryz.ntmps87
  go_wp2_with fail
  clear hw0 x0 x1 x2 y0 y1 y2
  refine (unhide CP _).mono ?_
  rintro e w1 ⟨rfl, b1⟩
  have s1 := b1.size
  replace R := R.below b1 R.lt
  replace G := G.below b1 G.lt
  replace B := B.trans (b1.mono B.size)
  clear b1 CP X Y
  go_upto_region 2 with fail
  clear hq1 hq2
  refine wp_region_noPanic ?_
  refine wp_region_held_drew (S := fun w' => w'.cell? ⟨0, 0, none⟩ = some (apV a)) (by kernel_rfl) (G.cell 0 rfl) (fun hHeld => ?_)
  obtain ⟨wd, hd⟩ : ∃ wd, w1.drew = wd := ⟨_, rfl⟩
  have bd : Below w1.heap.size w1 wd := hd ▸ Below.drew (Below.refl _ _)
  have sd : w1.heap.size ≤ wd.heap.size := bd.size
  replace R := R.below bd R.lt
  replace G := G.below bd G.lt
  replace B := B.trans (bd.mono B.size)
  rw [hd] at hHeld ⊢
  clear hd bd
  refine tk 0 10 (v := ?_) rfl (hy := .inl ⟨by rfl, ?_⟩) (h := ?_); rotate_left
  ·intro w hSw; (try dsimp only at hSw); go_simp; (try with_reducible rfl)
  simp only [pU]
  refine tk 1 11 (v := ?_) rfl (hy := .inl ⟨by rfl, ?_⟩) (h := ?_); rotate_left
  ·intro w hSw; (try dsimp only at hSw); go_simp; (try with_reducible rfl)
  simp only [pU]
  have c0 := R.cell 0 rfl
  have c1 := R.cell 1 rfl
  have c2 := R.cell 2 rfl
  have fc := R.frozen
  refine ready_at (i := 2) rfl (by kernel_rfl) (fun KK hKK => ?_)
  go_simp
  obtain ⟨wa, hwa⟩ : ∃ y, (((wd.setCell ⟨w.heap.size + 1 + 1, 0, none⟩ (.int .i64 0)).setCell ⟨w.heap.size + 1 + 1, 1, none⟩ (.string ⟨#[]⟩)).setCell ⟨w.heap.size + 1 + 1, 2, none⟩ (.slice none 0 0)) = y := ⟨_, rfl⟩
  have kwa : Kp wd wa (fun k => k = w.heap.size + 1 + 1) := hwa ▸ ((set_kp _ _ _ _).trans (set_kp _ _ _ _)).trans (set_kp _ _ _ _)
  replace R : Loc wa (w.heap.size + 1 + 1) #[.int .i64 0, .string ⟨#[]⟩, .slice none 0 0] := hwa ▸ (((R.set 0 _ rfl).set 1 _ rfl).set 2 _ rfl)
  replace G := G.kp kwa (by omega)
  replace B := Below.kp B kwa B.size (fun k hk => by omega)
  have zwa := kwa.size
  rw [hwa]
  clear hwa kwa c0 c1 c2 fc
  clear hHeld
  refine hKK.out _ _ (G.cell 0 rfl) (fun hHeld => ?_)
  clear hKK KK
  refine tk 3 5 (v := ?_) rfl (hy := .inl ⟨by rfl, ?_⟩) (h := ?_); rotate_left
  ·intro w hSw; (try dsimp only at hSw); go_simp; (try with_reducible rfl)
  simp only [pU]
  clear hHeld
  refine wpAnyH_done (by kernel_rfl) ?_ _
  refine NoPanic.normal ?_
  have r0 := R.cell 0 rfl
  have r1 := R.cell 1 rfl
  have r2 := R.cell 2 rfl
  clear R
  go_wp2
  refine bodyPost_ret (v := .tuple #[qv 0 ⟨#[]⟩ (.slice none 0 0), apV a]) (by simp [results, Tryz.results87, go_sem, r0, r1, r2]) rfl ?_
  exact ⟨_, rfl, World.ownsRow_nil _ _ _ _, B⟩

set_option maxHeartbeats 8000000 in
set_option maxRecDepth 100000 in
theorem implPartJoin (m n : Int) (s t : ByteArray) (u v : Value) (xs ys : List Int) (a : Addr) (w : World) (hl : xs.length + ys.length ≤ 4194303) (hs : s.size ≤ 281474976710656) (wx : WfL xs) (wy : WfL ys) (hu : RI w u xs) (hv : RI w v ys) (G : Gv w a) :
 Calls Tryz.prog 27 #[qv m s u, qv n t v] w fun e w' => ∃ r, e = .returned (.tuple #[qv (if samP (m, s, xs) (n, t, ys) then m else 0) (if samP (m, s, xs) (n, t, ys) then s else ⟨#[]⟩) r, .bool (samP (m, s, xs) (n, t, ys))]) ∧ OI w' w.heap.size r (if samP (m, s, xs) (n, t, ys) then joinL xs ys else []) ∧ Below w.heap.size w w' := by
 have hgl := G.lt
 obtain ⟨ua, uc, rfl⟩ := hu.form
 obtain ⟨va, vc, rfl⟩ := hv.form
 have JP := hide fun w h h' g => joinParts_any m n s t (.slice ua xs.length uc) (.slice va ys.length vc) xs ys a w hl hs wx wy h h' g
 generalize samP (m, s, xs) (n, t, ys) = sm at *
 have IS : Hid (∀ w, Calls Tryz.prog 88 #[if sm then .nilIface else apV a, apV a] w fun e w' => e = .returned (.bool (!sm)) ∧ Below w.heap.size w w') := hide fun w => by
  cases sm
  ·exact (is_same a w).mono fun _ _ h => ⟨h.1, h.2 ▸ Below.refl _ _⟩
  ·exact (is_nil a w).mono fun _ _ h => ⟨h.1, h.2 ▸ Below.refl _ _⟩
 generalize (if sm = true then m else 0) = m1 at *
 generalize (if sm = true then s else ⟨#[]⟩) = s1 at *
 generalize (if sm = true then joinL xs ys else []) = x1 at *
 generalize (if sm = true then Value.nilIface else apV a) = ev at *
 obtain ⟨w0, hw0⟩ : ∃ y, ((w.alloc (.cells #[.int .i64 m, .string s, .slice ua xs.length uc] 52)).alloc (.cells #[.int .i64 n, .string t, .slice va ys.length vc] 52)).alloc zpo = y := ⟨_, rfl⟩
 have B : Below w.heap.size w w0 := hw0 ▸ ((qalloc2 _ _ _).alloc (by simp; omega) _)
 have X : Loc w0 w.heap.size #[.int .i64 m, .string s, .slice ua xs.length uc] := hw0 ▸ ((loc_at w _ _ rfl).alloc _).alloc _
 have Y : Loc w0 (w.heap.size + 1) #[.int .i64 n, .string t, .slice va ys.length vc] := hw0 ▸ (loc_at (w.alloc _) _ _ (by simp)).alloc _
 have R : Loc w0 (w.heap.size + 1 + 1) #[.int .i64 0, .string ⟨#[]⟩, .slice none 0 0] := hw0 ▸ (loc_at ((w.alloc _).alloc _) _ _ (by simp))
 have s0 : w0.heap.size = w.heap.size + 1 + 1 + 1 := by rw [← hw0]; simp
 replace G := G.below B hgl
 replace JP := hide (unhide JP w0 (hu.below B (Nat.le_refl _)) (hv.below B (Nat.le_refl _)) G)
 obtain ⟨k1, hk1⟩ : ∃ k, xs.length = k := ⟨_, rfl⟩
 obtain ⟨k2, hk2⟩ : ∃ k, ys.length = k := ⟨_, rfl⟩
 rw [hk1] at JP X hw0 ⊢
 rw [hk2] at JP Y hw0 ⊢
 have x0 := X.cell 0 rfl
 have x1' := X.cell 1 rfl
 have x2 := X.cell 2 rfl
 have y0 := Y.cell 0 rfl
 have y1 := Y.cell 1 rfl
 have y2 := Y.cell 2 rfl
 clear hu hv hk1 hk2 hl wx wy
 go_enter Tryz.func27, Tryz.ntmps27
 go_wp2_with fail
 clear hw0 x0 x1' x2 y0 y1 y2 X Y
 refine (unhide JP).mono ?_
 rintro e w1 ⟨r, rfl, O, b1⟩
 have s1' := b1.size
 replace R := R.below b1 R.lt
 replace G := G.below b1 G.lt
 replace B := B.trans (b1.mono B.size)
 have tO := World.ownsRow.lt O
 obtain ⟨ra, rc, rfl⟩ := O.form
 obtain ⟨rl, hrl⟩ : ∃ k, x1.length = k := ⟨_, rfl⟩
 rw [hrl] at O tO ⊢
 obtain ⟨w2, hw2⟩ : ∃ y, w1.alloc (.cells #[.int .i64 m1, .string s1, .slice ra rl rc] 52) = y := ⟨_, rfl⟩
 have b2 : Below w1.heap.size w1 w2 := hw2 ▸ qalloc _ _
 have s2 := b2.size
 have J : Loc w2 w1.heap.size #[.int .i64 m1, .string s1, .slice ra rl rc] := hw2 ▸ loc_at w1 _ _ rfl
 replace R := R.below b2 R.lt
 replace G := G.below b2 G.lt
 replace O := O.below b2
 replace B := B.trans (b2.mono B.size)
 clear b1 b2 JP
 go_upto_region 2 with fail
 clear hw2
 refine wp_region_noPanic ?_
 refine wp_region_held_drew (S := fun w' => (w'.cell? ⟨w1.heap.size, 0, none⟩ = some (.int .i64 m1) ∧ w'.cell? ⟨w1.heap.size, 1, none⟩ = some (.string s1) ∧ w'.cell? ⟨w1.heap.size, 2, none⟩ = some (.slice ra rl rc)) ∧ w'.cell? ⟨0, 0, none⟩ = some (apV a)) (by kernel_rfl) ⟨⟨J.cell 0 rfl, J.cell 1 rfl, J.cell 2 rfl⟩, G.cell 0 rfl⟩ (fun hHeld => ?_)
 obtain ⟨wd, hd⟩ : ∃ wd, w2.drew = wd := ⟨_, rfl⟩
 have bd : Below w2.heap.size w2 wd := hd ▸ Below.drew (Below.refl _ _)
 have sd : w2.heap.size ≤ wd.heap.size := bd.size
 replace R := R.below bd R.lt
 replace G := G.below bd G.lt
 replace J := J.below bd J.lt
 replace O := O.below bd
 replace B := B.trans (bd.mono B.size)
 rw [hd] at hHeld ⊢
 clear hd bd
 refine tk 0 14 (v := ?_) rfl (hy := .inl ⟨by rfl, ?_⟩) (h := ?_); rotate_left
 ·intro w hSw; (try dsimp only at hSw); go_simp; (try with_reducible rfl)
 simp only [pU]
 refine tk 1 15 (v := ?_) rfl (hy := .inl ⟨by rfl, ?_⟩) (h := ?_); rotate_left
 ·intro w hSw; (try dsimp only at hSw); go_simp; (try with_reducible rfl)
 simp only [pU]
 refine tk 2 16 (v := ?_) rfl (hy := .inl ⟨by rfl, ?_⟩) (h := ?_); rotate_left
 ·intro w hSw; (try dsimp only at hSw); go_simp; (try with_reducible rfl)
 simp only [pU]
 refine ready_at (i := 3) rfl (by kernel_rfl) (fun KK hKK => ?_)
 go_simp
 refine (unhide IS _).mono ?_
 rintro e wk ⟨rfl, bk⟩
 have sk := bk.size
 replace R := R.below bk R.lt
 replace G := G.below bk G.lt
 replace J := J.below bk J.lt
 replace O := O.below bk
 replace B := B.trans (bk.mono B.size)
 clear bk IS
 clear hHeld
 refine hKK.out _ _ ⟨⟨J.cell 0 rfl, J.cell 1 rfl, J.cell 2 rfl⟩, G.cell 0 rfl⟩ (fun hHeld => ?_)
 clear hKK KK
 refine tk 4 18 (v := ?_) rfl (hy := .inl ⟨by rfl, ?_⟩) (h := ?_); rotate_left
 ·intro w hSw; (try dsimp only at hSw); go_simp; (try with_reducible rfl)
 simp only [pU]
 have c0 := R.cell 0 rfl
 have c1 := R.cell 1 rfl
 have c2 := R.cell 2 rfl
 have fc := R.frozen
 refine ready_at (i := 5) rfl (by kernel_rfl) (fun KK hKK => ?_)
 go_simp
 obtain ⟨wa, hwa⟩ : ∃ y, (((wk.setCell ⟨w.heap.size + 1 + 1, 0, none⟩ (.int .i64 m1)).setCell ⟨w.heap.size + 1 + 1, 1, none⟩ (.string s1)).setCell ⟨w.heap.size + 1 + 1, 2, none⟩ (.slice ra rl rc)) = y := ⟨_, rfl⟩
 have kwa : Kp wk wa (fun k => k = w.heap.size + 1 + 1) := hwa ▸ ((set_kp _ _ _ _).trans (set_kp _ _ _ _)).trans (set_kp _ _ _ _)
 replace R : Loc wa (w.heap.size + 1 + 1) #[.int .i64 m1, .string s1, .slice ra rl rc] := hwa ▸ (((R.set 0 _ rfl).set 1 _ rfl).set 2 _ rfl)
 replace G := G.kp kwa (by omega)
 replace J := J.kp kwa (by omega)
 replace O := O.kp kwa (fun j hj e => by have := tO j hj; omega)
 replace B := Below.kp B kwa B.size (fun k hk => by omega)
 have zwa := kwa.size
 rw [hwa]
 clear hwa kwa c0 c1 c2 fc
 clear hHeld
 refine hKK.out _ _ ⟨⟨J.cell 0 rfl, J.cell 1 rfl, J.cell 2 rfl⟩, G.cell 0 rfl⟩ (fun hHeld => ?_)
 clear hKK KK
 refine tk 6 5 (v := ?_) rfl (hy := .inl ⟨by rfl, ?_⟩) (h := ?_); rotate_left
 ·intro w hSw; (try dsimp only at hSw); go_simp; (try with_reducible rfl)
 simp only [pU]
 clear hHeld
 refine wpAnyH_done (by kernel_rfl) ?_ _
 refine NoPanic.normal ?_
 have r0 := R.cell 0 rfl
 have r1 := R.cell 1 rfl
 have r2 := R.cell 2 rfl
 clear R J G
 go_wp2
 refine bodyPost_ret (v := .tuple #[qv m1 s1 (.slice ra rl rc), .bool sm]) (by simp [results, Tryz.results27, go_sem, r0, r1, r2]) rfl ?_
 exact ⟨_, rfl, OI.mono O (by omega), B⟩
end Go.Proofs.YtmpmedbojfjnaaaGreatDoor
namespace Go.Proofs
open Go.Shelf
def Tryz.lays217_ren : Go.Shelf.Ren := ⟨fun | 217 => 187 | 266 => 207 | n => n, fun | 9 => 9 | 5 => 5 | 3 => 3 | n => n, fun | n => n⟩
theorem Tryz.lays217 : Go.Proofs.Lays.n217 Tryz.prog Tryz.lays217_ren := {
 mixed := by kernel_rfl
 f217 := Tryz.func187.trans (congrArg some (by kernel_rfl))
 f266 := Tryz.func207.trans (congrArg some (by kernel_rfl))
 t3 := Tryz.underlying3
 a3 := Tryz.isAgg3
 z3 := Tryz.sizeOf3
 v3 := Tryz.zeroValue3
 t5 := Tryz.underlying5
 a5 := Tryz.isAgg5
 z5 := Tryz.sizeOf5
 v5 := Tryz.zeroValue5
 t9 := Tryz.underlying9
 a9 := Tryz.isAgg9
 z9 := Tryz.sizeOf9
 v9 := Tryz.zeroValue9 }
open Go.RowKit Go.Lib in
theorem Tryz.stringslite_IndexByte (s : ByteArray) (c : Int) (w : World) :
 Calls Tryz.prog 187 #[.string s, .int .u8 c] w fun e w' => e = .returned (.int .i64 (Lib.indexByte s.data.toList c.toNat.toUInt8)) ∧ w' = w := Any.stringslite_IndexByte Tryz.lays217 s c w
def Tryz.lays103_ren : Go.Shelf.Ren := ⟨fun | 103 => 171 | 210 => 178 | 206 => 136 | n => n, fun | 9 => 9 | 4 => 4 | 24 => 43 | 3 => 3 | n => n, fun | n => n⟩
theorem Tryz.lays103 : Go.Proofs.Lays.n103 Tryz.prog Tryz.lays103_ren := {
 mixed := by kernel_rfl
 f103 := Tryz.func171.trans (congrArg some (by kernel_rfl))
 f206 := Tryz.func136.trans (congrArg some (by kernel_rfl))
 f210 := Tryz.func178.trans (congrArg some (by kernel_rfl))
 t3 := Tryz.underlying3
 a3 := Tryz.isAgg3
 z3 := Tryz.sizeOf3
 v3 := Tryz.zeroValue3
 t4 := Tryz.underlying4
 a4 := Tryz.isAgg4
 z4 := Tryz.sizeOf4
 v4 := Tryz.zeroValue4
 t9 := Tryz.underlying9
 a9 := Tryz.isAgg9
 z9 := Tryz.sizeOf9
 v9 := Tryz.zeroValue9
 t24 := Tryz.underlying43
 a24 := Tryz.isAgg43
 z24 := Tryz.sizeOf43
 v24 := Tryz.zeroValue43 }
open Go.RowKit in
theorem Tryz.strings_CutPrefix (s p : ByteArray) (w : World) :
 Calls Tryz.prog 171 #[.string s, .string p] w fun e w' => e = .returned (.tuple #[.string ⟨(Lib.trimPrefix s.data.toList p.data.toList).toArray⟩, .bool (Lib.hasPrefix s.data.toList p.data.toList)]) ∧ w' = w := Any.strings_CutPrefix Tryz.lays103 s p w
end Go.Proofs
namespace Go.Proofs.YtmpmedbojfjnaaaGreatDoor
open Go.RowKit
set_option linter.unusedSectionVars false
variable [∀ (a b c d : Int), Decidable (Ok4 a b c d)]
variable [∀ (a b c d : Nat), Decidable (okN a b c d)]
variable [∀ (last : Int) (s : St), Decidable (GoodSt last s)]
variable [∀ (x : T4), Decidable (OkT x)]

def pc : List UInt8 → List UInt8
 | [] => []
 | c :: t => c :: t.takeWhile (· != 47)
def rs : List UInt8 → List UInt8
 | [] => []
 | _ :: t => t.dropWhile (· != 47)
theorem pc_rs (r : List UInt8) : pc r ++ rs r = r := by
 cases r with
 | nil => rfl
 | cons c t => simp [pc, rs, List.takeWhile_append_dropWhile]
theorem rs_lt {r : List UInt8} (h : r ≠ []) : (rs r).length < r.length := by
 cases r with
 | nil => exact absurd rfl h
 | cons c t =>
  have := congrArg List.length (List.takeWhile_append_dropWhile (p := (· != (47 : UInt8))) (l := t))
  rw [List.length_append] at this
  simp only [rs, List.length_cons]; omega
theorem rs_head (r : List UInt8) : rs r = [] ∨ ∃ q, rs r = 47 :: q := by
 cases r with
 | nil => exact .inl rfl
 | cons c t =>
  show t.dropWhile _ = [] ∨ ∃ q, t.dropWhile _ = 47 :: q
  cases h : t.dropWhile (· != (47 : UInt8)) with
  | nil => exact .inl rfl
  | cons x q =>
   have hx := List.head_dropWhile_not (p := (· != (47 : UInt8))) (l := t) (by rw [h]; simp)
   simp only [h, List.head_cons] at hx
   exact .inr ⟨q, by rw [show x = 47 by simpa using hx]⟩
def rsN (l : List UInt8) : Nat → List UInt8
 | 0 => l
 | k + 1 => rs (rsN l k)
theorem rsN_le (l : List UInt8) (k : Nat) : (rsN l k).length ≤ l.length := by
 induction k with
 | zero => exact Nat.le_refl _
 | succ k ih =>
  by_cases h : rsN l k = []
  ·show (rs (rsN l k)).length ≤ _; rw [h]; exact Nat.zero_le _
  ·have := rs_lt h; show (rs (rsN l k)).length ≤ _; omega
theorem rounds (l : List UInt8) : ∃ m, rsN l m = [] ∧ ∀ k, k < m → rsN l k ≠ [] := by
 have key : ∀ n k, (rsN l k).length ≤ n → (∀ j, j < k → rsN l j ≠ []) → ∃ m, rsN l m = [] ∧ ∀ k, k < m → rsN l k ≠ [] := by
  intro n
  induction n with
  | zero => exact fun k h hk => ⟨k, List.length_eq_zero_iff.1 (Nat.le_zero.1 h), hk⟩
  | succ n ih =>
   intro k h hk
   by_cases e : rsN l k = []
   ·exact ⟨k, e, hk⟩
   ·have := rs_lt e
    exact ih (k + 1) (by show (rs (rsN l k)).length ≤ n; omega) fun j hj => by
     by_cases e2 : j = k
     ·subst e2; exact e
     ·exact hk j (by omega)
 exact key _ 0 (Nat.le_refl _) fun j hj => by omega
def stepP (p : List UInt8) : Option St := if p.head? = some 47 then stepOf (toB p.tail) else none
def lastV (ss : List St) : Int := (ss.getLast?.map (·.1)).getD 0
theorem lastV_snoc (ss : List St) (x : St) : lastV (ss ++ [x]) = x.1 := by simp [lastV]
theorem lastV_ge {ss : List St} (h : OkSts ss) : 0 ≤ lastV ss ∧ lastV ss ≤ 60 := by
 unfold lastV
 cases e : ss.getLast? with
 | none => simp
 | some x =>
  have := (h.2.1 x (List.mem_of_getLast? e)).1
  simp; omega
theorem views_le {ss : List St} (h : OkSts ss) : ∀ s ∈ ss, s.1 ≤ lastV ss := by
 intro s hs
 obtain ⟨ss', x, rfl⟩ : ∃ ss' x, ss = ss' ++ [x] := ⟨ss.dropLast, ss.getLast (List.ne_nil_of_mem hs), (List.dropLast_concat_getLast _).symm⟩
 rw [lastV_snoc]
 rcases List.mem_append.1 hs with h1 | h1
 ·have := (List.pairwise_append.1 h.2.2).2.2 s h1 x (by simp)
  omega
 ·simp at h1; subst h1; exact Int.le_refl _
theorem piece_on {l r : List UInt8} {ss : List St} {x : St} (h : l = nm ss ++ r) (hk : OkSts ss) (hx : stepP (pc r) = some x) (hg : GoodSt (lastV ss) x) (hl : ss.length < 30) : l = nm (ss ++ [x]) ++ rs r ∧ OkSts (ss ++ [x]) := by
 unfold stepP at hx
 split at hx
 ·rename_i hh
  obtain ⟨h1, h2, h3⟩ := stepOf_some hx
  rw [toB_list] at h1
  have hp : pc r = 47 :: stText x := by
   rw [← h1]
   cases hpc : pc r with
   | nil => rw [hpc] at hh; simp at hh
   | cons c t => rw [hpc] at hh; simp at hh; rw [hh]; rfl
  obtain ⟨g1, g2, g3⟩ := hg
  have hz := lastV_ge hk
  have hx : OkSt x := ⟨⟨by omega, g2⟩, g3, h3⟩
  refine ⟨?_, by simp; omega, fun s hs => ?_, ?_⟩
  ·rw [nm_snoc, ← hp, List.append_assoc, pc_rs]; exact h
  ·rcases List.mem_append.1 hs with h4 | h4
   ·exact hk.2.1 s h4
   ·simp at h4; subst h4; exact hx
  ·refine List.pairwise_append.2 ⟨hk.2.2, by simp, fun s hs t ht => ?_⟩
   simp at ht; subst ht
   have := views_le hk s hs
   omega
 ·cases hx
theorem nm_head : ∀ ss : List St, nm ss = [] ∨ ∃ q, nm ss = 47 :: q := fun ss => by
 cases ss with
 | nil => exact .inl rfl
 | cons s ss => exact .inr ⟨_, rfl⟩
theorem piece_no {s : ByteArray} {r : List UInt8} {ss : List St} (h : s.data.toList = nm ss ++ r) (hr : r ≠ []) (hk : OkSts ss) (hh : ss = [] ∨ ∃ q, r = 47 :: q)
 (hn : ∀ x, stepP (pc r) = some x → GoodSt (lastV ss) x → ss.length < 30 → False) : stepsAns s = none := by
 cases hs : stepsAns s with
 | none => rfl
 | some tt =>
  exfalso
  obtain ⟨h1, h2⟩ := (names_iff _ _).1 hs
  have hpre : ss <+: tt := by
   rcases hh with rfl | hh
   ·exact List.nil_prefix
   ·exact nm_pre ss tt hk.2.1 h2.2.1 r (h1.symm.trans h) (.inr hh)
  obtain ⟨uu, rfl⟩ := hpre
  rw [h, nm_append] at h1
  have h1 := List.append_cancel_left h1
  cases uu with
  | nil => exact hr h1
  | cons x uu =>
   have hx : OkSt x := h2.2.1 x (by simp)
   have e1 : r = 47 :: (stText x ++ nm uu) := by rw [h1]; simp [nm]
   have hc : ∀ y ∈ stText x, (y != (47 : UInt8)) = true := fun y hy => by
    have := stText_clean x
    simp; intro e; subst e; exact this hy
   have e2 : pc r = 47 :: stText x := by
    rw [e1]
    show 47 :: (stText x ++ nm uu).takeWhile _ = _
    rw [List.takeWhile_append_of_pos hc]
    rcases nm_head uu with e | ⟨q, e⟩
    ·rw [e]; simp
    ·rw [e]; simp
   refine hn x ?_ ?_ ?_
   ·unfold stepP
    rw [e2]
    refine (if_pos rfl).trans ?_
    exact stepOf_text hx (toB_list _)
   ·have hv : lastV ss < x.1 := by
     unfold lastV
     cases e : ss.getLast? with
     | none => have := hx.1; simp; omega
     | some y =>
      have := (List.pairwise_append.1 h2.2.2).2.2 y (List.mem_of_getLast? e) x (by simp)
      simpa using this
    exact ⟨hv, hx.1.2, hx.2.1⟩
   ·have := h2.1; simp at this; omega
theorem piece_end {s : ByteArray} {ss : List St} (h : s.data.toList = nm ss ++ []) (hk : OkSts ss) : stepsAns s = some ss := (names_iff _ _).2 ⟨by simpa using h, hk⟩
end Go.Proofs.YtmpmedbojfjnaaaGreatDoor
