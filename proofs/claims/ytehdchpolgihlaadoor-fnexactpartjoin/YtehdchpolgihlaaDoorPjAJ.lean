/- Texts that belong together: Clone, JoinParts, PartJoinAll, PartOpen. -/
import Derived.Test.YtehdchpolgihlaaDoorPjAA
import Derived.Test.YtehdchpolgihlaaDoorShelfClone
import Derived.Test.YtehdchpolgihlaaDoorPjAG
import Derived.Test.YtehdchpolgihlaaDoorPjAE
import Derived.Test.YtehdchpolgihlaaDoorPjAI
import Derived.Deep.RegionHeld3
import Derived.Deep.DeepCutAuto
import Derived.Test.YtehdchpolgihlaaDoorPjAF
import Derived.Test.YtehdchpolgihlaaDoorPjAC
import Derived.Deep.Slices
/- strings.Clone and lists of texts of the call's own. -/
namespace Go.Proofs.YtehdchpolgihlaaDoor
open Go.RowKit

/-- v is a list of the call's own, from block 'base' on, of the texts xs. -/
def OS (w : World) (base : Nat) (v : Value) (xs : List ByteArray) : Prop := w.ownsRow base 9 1 v xs.length (xs.map Value.string)
theorem OS.below {w w' : World} {base : Nat} {v : Value} {xs : List ByteArray} (h : OS w base v xs) (hb : Below w.heap.size w w') : OS w' base v xs :=
  World.ownsRow.kept (row := none) h ⟨hb.os, hb.tape, hb.output, hb.size, fun k hk _ => hb.block k hk⟩ (by cases v.ownBlock <;> simp)

theorem clone_any (s : ByteArray) (w : World) (hs : s.size ≤ 281474976710656) :
    Calls Tryd.prog 38 #[.string s] w fun e w' => e = .returned (.string s) ∧ Below w.heap.size w w' := by
  go_enter Tryd.func38, Tryd.ntmps38
  go_wp2_with fail
  refine (Tryd.stringslite_Clone s _ hs).mono ?_
  rintro e w' ⟨rfl, b⟩
  go_wp2
  go_ret
  exact ⟨rfl, b⟩
end Go.Proofs.YtehdchpolgihlaaDoor

/- JoinParts: impl.joinParts, impl.PartJoin. -/
namespace Go.Proofs.YtehdchpolgihlaaDoor
open Go.RowKit
set_option linter.unusedSectionVars false
variable [∀ (n : Int) (s : List Int), Decidable (OkL n s)]

/-- The error that two parts are apart, as the package variable holds it. -/
abbrev apV (a : Addr) : Value := .iface 169 (.pointer (some a))
def Gv (w : World) (a : Addr) : Prop := w.cell? ⟨0, 0, none⟩ = some (apV a)
theorem Gv.lt {w : World} {a : Addr} (h : Gv w a) : 0 < w.heap.size := cell_lt h
theorem Gv.below {w w' : World} {B : Nat} {a : Addr} (h : Gv w a) (hb : Below B w w') (hg : 0 < B) : Gv w' a := (hb.cell (p := ⟨0, 0, none⟩) hg).trans h
theorem Gv.kp {w w' : World} {X : Nat → Prop} {a : Addr} (h : Gv w a) (k : Kp w w' X) (hg : ¬ X 0) : Gv w' a := (World.cell?_of_block (a := ⟨0, 0, none⟩) (k.block _ h.lt hg)).trans h
theorem Gv.cell {w : World} {a : Addr} (h : Gv w a) (j : Nat) (hj : j = 0) : w.cell? ⟨0, j, none⟩ = some (apV a) := by subst hj; exact h

set_option maxHeartbeats 8000000 in
set_option maxRecDepth 100000 in
theorem joinParts_any (m n : Int) (s t : ByteArray) (u v : Value) (xs ys : List Int) (a : Addr) (w : World) (hl : xs.length + ys.length ≤ 4194303) (hs : s.size ≤ 281474976710656) (wx : WfL xs) (wy : WfL ys) (hu : RI w u xs) (hv : RI w v ys) (G : Gv w a) :
    Calls Tryd.prog 28 #[qv m s u, qv n t v] w fun e w' => ∃ r, e = .returned (.tuple #[qv (if samP (m, s, xs) (n, t, ys) then m else 0) (if samP (m, s, xs) (n, t, ys) then s else ⟨#[]⟩) r, if samP (m, s, xs) (n, t, ys) then .nilIface else apV a]) ∧ OI w' w.heap.size r (if samP (m, s, xs) (n, t, ys) then joinL xs ys else []) ∧ Below w.heap.size w w' := by
  have hgl := G.lt
  obtain ⟨ua, uc, rfl⟩ := hu.form
  obtain ⟨va, vc, rfl⟩ := hv.form
  have SJ := hide fun w h h' => implSetJoin (.slice ua xs.length uc) (.slice va ys.length vc) xs ys w h h' wx wy hl
  have CL := hide fun w => clone_any s w hs
  have CP := hide fun w => compareParts_any m n s t (.slice ua xs.length uc) (.slice va ys.length vc) xs ys w
  have HQ := hide (cmpP_eq (m, s, xs) (n, t, ys))
  obtain ⟨w0, hw0⟩ : ∃ y, ((w.alloc (.cells #[.int .i64 m, .string s, .slice ua xs.length uc] 31)).alloc (.cells #[.int .i64 n, .string t, .slice va ys.length vc] 31)).alloc zpo = y := ⟨_, rfl⟩
  have B : Below w.heap.size w w0 := hw0 ▸ ((qalloc2 _ _ _).alloc (by simp; omega) _)
  have X : Loc w0 w.heap.size #[.int .i64 m, .string s, .slice ua xs.length uc] := hw0 ▸ ((loc_at w _ _ rfl).alloc _).alloc _
  have Y : Loc w0 (w.heap.size + 1) #[.int .i64 n, .string t, .slice va ys.length vc] := hw0 ▸ (loc_at (w.alloc _) _ _ (by simp)).alloc _
  have R : Loc w0 (w.heap.size + 1 + 1) #[.int .i64 0, .string ⟨#[]⟩, .slice none 0 0] := hw0 ▸ (loc_at ((w.alloc _).alloc _) _ _ (by simp))
  have s0 : w0.heap.size = w.heap.size + 1 + 1 + 1 := by rw [← hw0]; simp
  replace G := G.below B hgl
  have RU := hide fun w' (hb : Below w0.heap.size w0 w') => (hu.below B (Nat.le_refl _)).below hb (Nat.le_refl _)
  have RV := hide fun w' (hb : Below w0.heap.size w0 w') => (hv.below B (Nat.le_refl _)).below hb (Nat.le_refl _)
  generalize cmpP (m, s, xs) (n, t, ys) = q at *
  generalize samP (m, s, xs) (n, t, ys) = sm at *
  obtain ⟨k1, hk1⟩ : ∃ k, xs.length = k := ⟨_, rfl⟩
  obtain ⟨k2, hk2⟩ : ∃ k, ys.length = k := ⟨_, rfl⟩
  rw [hk1] at SJ X RU CP hw0 ⊢
  rw [hk2] at SJ Y RV CP hw0 ⊢
  have x0 := X.cell 0 rfl
  have x1 := X.cell 1 rfl
  have x2 := X.cell 2 rfl
  have y0 := Y.cell 0 rfl
  have y1 := Y.cell 1 rfl
  have y2 := Y.cell 2 rfl
  clear hu hv hk1 hk2 hl wx wy
  cases sm with
  | true =>
    obtain rfl : q = 0 := (unhide HQ).2 rfl
    simp only [if_true]
    go_enter Tryd.func28, Tryd.ntmps28
    go_wp2_with fail
    clear hw0 x0 x1 x2 y0 y1 y2 HQ
    refine (unhide CP _).mono ?_
    rintro e w1 ⟨rfl, b1⟩
    have BX := b1
    have s1 := b1.size
    replace X := X.below b1 X.lt
    replace Y := Y.below b1 Y.lt
    replace R := R.below b1 R.lt
    replace G := G.below b1 G.lt
    replace B := B.trans (b1.mono B.size)
    clear b1 CP
    go_upto_region 3 with fail
    refine wp_region_noPanic ?_
    refine wp_region_held_drew (S := fun w' => (w'.cell? ⟨w.heap.size, 0, none⟩ = some (.int .i64 m) ∧ w'.cell? ⟨w.heap.size, 1, none⟩ = some (.string s) ∧ w'.cell? ⟨w.heap.size, 2, none⟩ = some (.slice ua k1 uc)) ∧ (w'.cell? ⟨w.heap.size + 1, 0, none⟩ = some (.int .i64 n) ∧ w'.cell? ⟨w.heap.size + 1, 1, none⟩ = some (.string t) ∧ w'.cell? ⟨w.heap.size + 1, 2, none⟩ = some (.slice va k2 vc))) (by kernel_rfl) ⟨⟨X.cell 0 rfl, X.cell 1 rfl, X.cell 2 rfl⟩, ⟨Y.cell 0 rfl, Y.cell 1 rfl, Y.cell 2 rfl⟩⟩ (fun hHeld => ?_)
    obtain ⟨wd, hd⟩ : ∃ wd, w1.drew = wd := ⟨_, rfl⟩
    have bd : Below w1.heap.size w1 wd := hd ▸ Below.drew (Below.refl _ _)
    have BD : Below w0.heap.size w0 wd := BX.trans (bd.mono s1)
    have sd : w1.heap.size ≤ wd.heap.size := bd.size
    replace X := X.below bd X.lt
    replace Y := Y.below bd Y.lt
    replace R := R.below bd R.lt
    replace G := G.below bd G.lt
    replace B := B.trans (bd.mono B.size)
    rw [hd] at hHeld ⊢
    clear hd bd BX
    refine take_at (i := 0) (d := 12) (v := ?_) rfl rfl (by kernel_rfl) (by kernel_rfl) (by kernel_rfl) (fun _ _ _ h => h) (Or.inl ⟨by rfl, ?_⟩) (by assumption) ?_
    rotate_left
    · intro w hSw
      try dsimp only at hSw
      go_simp
      try with_reducible rfl
    simp only [Act.put, List.setIfInBounds_toArray, List.set_cons_zero, List.set_cons_succ]
    refine take_at (i := 1) (d := 13) (v := ?_) rfl rfl (by kernel_rfl) (by kernel_rfl) (by kernel_rfl) (fun _ _ _ h => h) (Or.inl ⟨by rfl, ?_⟩) (by assumption) ?_
    rotate_left
    · intro w hSw
      try dsimp only at hSw
      go_simp
      try with_reducible rfl
    simp only [Act.put, List.setIfInBounds_toArray, List.set_cons_zero, List.set_cons_succ]
    refine take_at (i := 2) (d := 14) (v := ?_) rfl rfl (by kernel_rfl) (by kernel_rfl) (by kernel_rfl) (fun _ _ _ h => h) (Or.inl ⟨by rfl, ?_⟩) (by assumption) ?_
    rotate_left
    · intro w hSw
      try dsimp only at hSw
      go_simp
      try with_reducible rfl
    simp only [Act.put, List.setIfInBounds_toArray, List.set_cons_zero, List.set_cons_succ]
    refine take_at (i := 3) (d := 15) (v := ?_) rfl rfl (by kernel_rfl) (by kernel_rfl) (by kernel_rfl) (fun _ _ _ h => h) (Or.inl ⟨by rfl, ?_⟩) (by assumption) ?_
    rotate_left
    · intro w hSw
      try dsimp only at hSw
      go_simp
      try with_reducible rfl
    simp only [Act.put, List.setIfInBounds_toArray, List.set_cons_zero, List.set_cons_succ]
    refine take_at (i := 5) (d := 17) (v := ?_) rfl rfl (by kernel_rfl) (by kernel_rfl) (by kernel_rfl) (fun _ _ _ h => h) (Or.inl ⟨by rfl, ?_⟩) (by assumption) ?_
    rotate_left
    · intro w hSw
      try dsimp only at hSw
      go_simp
      try with_reducible rfl
    simp only [Act.put, List.setIfInBounds_toArray, List.set_cons_zero, List.set_cons_succ]
    refine take_at (i := 6) (d := 18) (v := ?_) rfl rfl (by kernel_rfl) (by kernel_rfl) (by kernel_rfl) (fun _ _ _ h => h) (Or.inl ⟨by rfl, ?_⟩) (by assumption) ?_
    rotate_left
    · intro w hSw
      try dsimp only at hSw
      go_simp
      try with_reducible rfl
    simp only [Act.put, List.setIfInBounds_toArray, List.set_cons_zero, List.set_cons_succ]
    refine take_at (i := 7) (d := 19) (v := ?_) rfl rfl (by kernel_rfl) (by kernel_rfl) (by kernel_rfl) (fun _ _ _ h => h) (Or.inl ⟨by rfl, ?_⟩) (by assumption) ?_
    rotate_left
    · intro w hSw
      try dsimp only at hSw
      go_simp
      try with_reducible rfl
    simp only [Act.put, List.setIfInBounds_toArray, List.set_cons_zero, List.set_cons_succ]
    refine take_at (i := 8) (d := 20) (v := ?_) rfl rfl (by kernel_rfl) (by kernel_rfl) (by kernel_rfl) (fun _ _ _ h => h) (Or.inl ⟨by rfl, ?_⟩) (by assumption) ?_
    rotate_left
    · intro w hSw
      try dsimp only at hSw
      go_simp
      try with_reducible rfl
    simp only [Act.put, List.setIfInBounds_toArray, List.set_cons_zero, List.set_cons_succ]
    refine ready_at (i := 4) rfl (by kernel_rfl) (fun KK hKK => ?_)
    go_simp
    refine (unhide CL _).mono ?_
    rintro e wj ⟨rfl, bj⟩
    have sj := bj.size
    have BJ : Below w0.heap.size w0 wj := BD.trans (bj.mono BD.size)
    replace X := X.below bj X.lt
    replace Y := Y.below bj Y.lt
    replace R := R.below bj R.lt
    replace G := G.below bj G.lt
    replace B := B.trans (bj.mono B.size)
    clear bj CL BD
    clear hHeld
    refine hKK.out _ _ ⟨⟨X.cell 0 rfl, X.cell 1 rfl, X.cell 2 rfl⟩, ⟨Y.cell 0 rfl, Y.cell 1 rfl, Y.cell 2 rfl⟩⟩ (fun hHeld => ?_)
    clear hKK KK
    refine ready_at (i := 9) rfl (by kernel_rfl) (fun KK hKK => ?_)
    go_simp
    refine (unhide SJ _ (unhide RU _ BJ) (unhide RV _ BJ)).mono ?_
    rintro e wk ⟨q, rfl, oq, bk⟩
    have sk := bk.size
    replace X := X.below bk X.lt
    replace Y := Y.below bk Y.lt
    replace R := R.below bk R.lt
    replace G := G.below bk G.lt
    replace B := B.trans (bk.mono B.size)
    have tO := World.ownsRow.lt oq
    obtain ⟨qa, qc, rfl⟩ := oq.form
    have O := oq
    generalize hjl : (joinL xs ys).length = jl at *
    clear bk oq SJ RU RV BJ
    clear hHeld
    refine hKK.out _ _ ⟨⟨X.cell 0 rfl, X.cell 1 rfl, X.cell 2 rfl⟩, ⟨Y.cell 0 rfl, Y.cell 1 rfl, Y.cell 2 rfl⟩⟩ (fun hHeld => ?_)
    clear hKK KK
    refine take_at (i := 10) (d := 22) (v := ?_) rfl rfl (by kernel_rfl) (by kernel_rfl) (by kernel_rfl) (fun _ _ _ h => h) (Or.inl ⟨by rfl, ?_⟩) (by assumption) ?_
    rotate_left
    · intro w hSw
      try dsimp only at hSw
      go_simp
      try with_reducible rfl
    simp only [Act.put, List.setIfInBounds_toArray, List.set_cons_zero, List.set_cons_succ]
    have c0 := R.cell 0 rfl
    have c1 := R.cell 1 rfl
    have c2 := R.cell 2 rfl
    have fc := R.frozen
    refine ready_at (i := 11) rfl (by kernel_rfl) (fun KK hKK => ?_)
    go_simp
    obtain ⟨wa, hwa⟩ : ∃ y, (((wk.setCell ⟨w.heap.size + 1 + 1, 0, none⟩ (.int .i64 m)).setCell ⟨w.heap.size + 1 + 1, 1, none⟩ (.string s)).setCell ⟨w.heap.size + 1 + 1, 2, none⟩ (.slice qa jl qc)) = y := ⟨_, rfl⟩
    have kwa : Kp wk wa (fun k => k = w.heap.size + 1 + 1) := hwa ▸ ((set_kp _ _ _ _).trans (set_kp _ _ _ _)).trans (set_kp _ _ _ _)
    replace R : Loc wa (w.heap.size + 1 + 1) #[.int .i64 m, .string s, .slice qa jl qc] := hwa ▸ (((R.set 0 _ rfl).set 1 _ rfl).set 2 _ rfl)
    replace X := X.kp kwa (by omega)
    replace Y := Y.kp kwa (by omega)
    replace G := G.kp kwa (by omega)
    replace O := O.kp kwa (fun j hj e => by have := tO j hj; omega)
    replace B := Below.kp B kwa B.size (fun k hk => by omega)
    have zwa := kwa.size
    rw [hwa]
    clear hwa kwa c0 c1 c2 fc
    clear hHeld
    refine hKK.out _ _ ⟨⟨X.cell 0 rfl, X.cell 1 rfl, X.cell 2 rfl⟩, ⟨Y.cell 0 rfl, Y.cell 1 rfl, Y.cell 2 rfl⟩⟩ (fun hHeld => ?_)
    clear hKK KK
    refine take_at (i := 12) (d := 5) (v := ?_) rfl rfl (by kernel_rfl) (by kernel_rfl) (by kernel_rfl) (fun _ _ _ h => h) (Or.inl ⟨by rfl, ?_⟩) (by assumption) ?_
    rotate_left
    · intro w hSw
      try dsimp only at hSw
      go_simp
      try with_reducible rfl
    simp only [Act.put, List.setIfInBounds_toArray, List.set_cons_zero, List.set_cons_succ]
    clear hHeld
    refine wpAnyH_done (by kernel_rfl) ?_ _
    refine NoPanic.normal ?_
    have r0 := R.cell 0 rfl
    have r1 := R.cell 1 rfl
    have r2 := R.cell 2 rfl
    clear R X Y
    go_wp2
    refine bodyPost_ret (v := .tuple #[qv m s (.slice qa jl qc), .nilIface]) (by simp [results, Tryd.results28, go_sem, r0, r1, r2]) rfl ?_
    exact ⟨_, rfl, OI.mono O (by omega), B⟩
  | false =>
    have hq : ¬ q = 0 := fun e => by have := (unhide HQ).1 e; cases this
    have hq1 : (q == 0) = false := by simpa using hq
    have hq2 : (q != 0) = true := by simpa using hq
    simp only [Bool.false_eq_true, if_false]
    clear hq HQ SJ CL RU RV
    go_enter Tryd.func28, Tryd.ntmps28
    go_wp2_with fail
    clear hw0 x0 x1 x2 y0 y1 y2
    refine (unhide CP _).mono ?_
    rintro e w1 ⟨rfl, b1⟩
    have s1 := b1.size
    replace R := R.below b1 R.lt
    replace G := G.below b1 G.lt
    replace B := B.trans (b1.mono B.size)
    clear b1 CP X Y
    go_upto_region 2 with fail
    clear hq1 hq2
    refine wp_region_noPanic ?_
    refine wp_region_held_drew (S := fun w' => w'.cell? ⟨0, 0, none⟩ = some (apV a)) (by kernel_rfl) (G.cell 0 rfl) (fun hHeld => ?_)
    obtain ⟨wd, hd⟩ : ∃ wd, w1.drew = wd := ⟨_, rfl⟩
    have bd : Below w1.heap.size w1 wd := hd ▸ Below.drew (Below.refl _ _)
    have sd : w1.heap.size ≤ wd.heap.size := bd.size
    replace R := R.below bd R.lt
    replace G := G.below bd G.lt
    replace B := B.trans (bd.mono B.size)
    rw [hd] at hHeld ⊢
    clear hd bd
    refine take_at (i := 0) (d := 10) (v := ?_) rfl rfl (by kernel_rfl) (by kernel_rfl) (by kernel_rfl) (fun _ _ _ h => h) (Or.inl ⟨by rfl, ?_⟩) (by assumption) ?_
    rotate_left
    · intro w hSw
      try dsimp only at hSw
      go_simp
      try with_reducible rfl
    simp only [Act.put, List.setIfInBounds_toArray, List.set_cons_zero, List.set_cons_succ]
    refine take_at (i := 1) (d := 11) (v := ?_) rfl rfl (by kernel_rfl) (by kernel_rfl) (by kernel_rfl) (fun _ _ _ h => h) (Or.inl ⟨by rfl, ?_⟩) (by assumption) ?_
    rotate_left
    · intro w hSw
      try dsimp only at hSw
      go_simp
      try with_reducible rfl
    simp only [Act.put, List.setIfInBounds_toArray, List.set_cons_zero, List.set_cons_succ]
    have c0 := R.cell 0 rfl
    have c1 := R.cell 1 rfl
    have c2 := R.cell 2 rfl
    have fc := R.frozen
    refine ready_at (i := 2) rfl (by kernel_rfl) (fun KK hKK => ?_)
    go_simp
    obtain ⟨wa, hwa⟩ : ∃ y, (((wd.setCell ⟨w.heap.size + 1 + 1, 0, none⟩ (.int .i64 0)).setCell ⟨w.heap.size + 1 + 1, 1, none⟩ (.string ⟨#[]⟩)).setCell ⟨w.heap.size + 1 + 1, 2, none⟩ (.slice none 0 0)) = y := ⟨_, rfl⟩
    have kwa : Kp wd wa (fun k => k = w.heap.size + 1 + 1) := hwa ▸ ((set_kp _ _ _ _).trans (set_kp _ _ _ _)).trans (set_kp _ _ _ _)
    replace R : Loc wa (w.heap.size + 1 + 1) #[.int .i64 0, .string ⟨#[]⟩, .slice none 0 0] := hwa ▸ (((R.set 0 _ rfl).set 1 _ rfl).set 2 _ rfl)
    replace G := G.kp kwa (by omega)
    replace B := Below.kp B kwa B.size (fun k hk => by omega)
    have zwa := kwa.size
    rw [hwa]
    clear hwa kwa c0 c1 c2 fc
    clear hHeld
    refine hKK.out _ _ (G.cell 0 rfl) (fun hHeld => ?_)
    clear hKK KK
    refine take_at (i := 3) (d := 5) (v := ?_) rfl rfl (by kernel_rfl) (by kernel_rfl) (by kernel_rfl) (fun _ _ _ h => h) (Or.inl ⟨by rfl, ?_⟩) (by assumption) ?_
    rotate_left
    · intro w hSw
      try dsimp only at hSw
      go_simp
      try with_reducible rfl
    simp only [Act.put, List.setIfInBounds_toArray, List.set_cons_zero, List.set_cons_succ]
    clear hHeld
    refine wpAnyH_done (by kernel_rfl) ?_ _
    refine NoPanic.normal ?_
    have r0 := R.cell 0 rfl
    have r1 := R.cell 1 rfl
    have r2 := R.cell 2 rfl
    clear R
    go_wp2
    refine bodyPost_ret (v := .tuple #[qv 0 ⟨#[]⟩ (.slice none 0 0), apV a]) (by simp [results, Tryd.results28, go_sem, r0, r1, r2]) rfl ?_
    exact ⟨_, rfl, World.ownsRow_nil _ _ _ _, B⟩

set_option maxHeartbeats 8000000 in
set_option maxRecDepth 100000 in
theorem implPartJoin (m n : Int) (s t : ByteArray) (u v : Value) (xs ys : List Int) (a : Addr) (w : World) (hl : xs.length + ys.length ≤ 4194303) (hs : s.size ≤ 281474976710656) (wx : WfL xs) (wy : WfL ys) (hu : RI w u xs) (hv : RI w v ys) (G : Gv w a) :
    Calls Tryd.prog 12 #[qv m s u, qv n t v] w fun e w' => ∃ r, e = .returned (.tuple #[qv (if samP (m, s, xs) (n, t, ys) then m else 0) (if samP (m, s, xs) (n, t, ys) then s else ⟨#[]⟩) r, .bool (samP (m, s, xs) (n, t, ys))]) ∧ OI w' w.heap.size r (if samP (m, s, xs) (n, t, ys) then joinL xs ys else []) ∧ Below w.heap.size w w' := by
  have hgl := G.lt
  obtain ⟨ua, uc, rfl⟩ := hu.form
  obtain ⟨va, vc, rfl⟩ := hv.form
  have JP := hide fun w h h' g => joinParts_any m n s t (.slice ua xs.length uc) (.slice va ys.length vc) xs ys a w hl hs wx wy h h' g
  generalize samP (m, s, xs) (n, t, ys) = sm at *
  have IS : Hid (∀ w, Calls Tryd.prog 29 #[if sm then .nilIface else apV a, apV a] w fun e w' => e = .returned (.bool (!sm)) ∧ Below w.heap.size w w') := hide fun w => by
    cases sm
    · exact (is_same a w).mono fun _ _ h => ⟨h.1, h.2 ▸ Below.refl _ _⟩
    · exact (is_nil a w).mono fun _ _ h => ⟨h.1, h.2 ▸ Below.refl _ _⟩
  generalize (if sm = true then m else 0) = m1 at *
  generalize (if sm = true then s else ⟨#[]⟩) = s1 at *
  generalize (if sm = true then joinL xs ys else []) = x1 at *
  generalize (if sm = true then Value.nilIface else apV a) = ev at *
  obtain ⟨w0, hw0⟩ : ∃ y, ((w.alloc (.cells #[.int .i64 m, .string s, .slice ua xs.length uc] 31)).alloc (.cells #[.int .i64 n, .string t, .slice va ys.length vc] 31)).alloc zpo = y := ⟨_, rfl⟩
  have B : Below w.heap.size w w0 := hw0 ▸ ((qalloc2 _ _ _).alloc (by simp; omega) _)
  have X : Loc w0 w.heap.size #[.int .i64 m, .string s, .slice ua xs.length uc] := hw0 ▸ ((loc_at w _ _ rfl).alloc _).alloc _
  have Y : Loc w0 (w.heap.size + 1) #[.int .i64 n, .string t, .slice va ys.length vc] := hw0 ▸ (loc_at (w.alloc _) _ _ (by simp)).alloc _
  have R : Loc w0 (w.heap.size + 1 + 1) #[.int .i64 0, .string ⟨#[]⟩, .slice none 0 0] := hw0 ▸ (loc_at ((w.alloc _).alloc _) _ _ (by simp))
  have s0 : w0.heap.size = w.heap.size + 1 + 1 + 1 := by rw [← hw0]; simp
  replace G := G.below B hgl
  replace JP := hide (unhide JP w0 (hu.below B (Nat.le_refl _)) (hv.below B (Nat.le_refl _)) G)
  obtain ⟨k1, hk1⟩ : ∃ k, xs.length = k := ⟨_, rfl⟩
  obtain ⟨k2, hk2⟩ : ∃ k, ys.length = k := ⟨_, rfl⟩
  rw [hk1] at JP X hw0 ⊢
  rw [hk2] at JP Y hw0 ⊢
  have x0 := X.cell 0 rfl
  have x1' := X.cell 1 rfl
  have x2 := X.cell 2 rfl
  have y0 := Y.cell 0 rfl
  have y1 := Y.cell 1 rfl
  have y2 := Y.cell 2 rfl
  clear hu hv hk1 hk2 hl wx wy
  go_enter Tryd.func12, Tryd.ntmps12
  go_wp2_with fail
  clear hw0 x0 x1' x2 y0 y1 y2 X Y
  refine (unhide JP).mono ?_
  rintro e w1 ⟨r, rfl, O, b1⟩
  have s1' := b1.size
  replace R := R.below b1 R.lt
  replace G := G.below b1 G.lt
  replace B := B.trans (b1.mono B.size)
  have tO := World.ownsRow.lt O
  obtain ⟨ra, rc, rfl⟩ := O.form
  obtain ⟨rl, hrl⟩ : ∃ k, x1.length = k := ⟨_, rfl⟩
  rw [hrl] at O tO ⊢
  obtain ⟨w2, hw2⟩ : ∃ y, w1.alloc (.cells #[.int .i64 m1, .string s1, .slice ra rl rc] 31) = y := ⟨_, rfl⟩
  have b2 : Below w1.heap.size w1 w2 := hw2 ▸ qalloc _ _
  have s2 := b2.size
  have J : Loc w2 w1.heap.size #[.int .i64 m1, .string s1, .slice ra rl rc] := hw2 ▸ loc_at w1 _ _ rfl
  replace R := R.below b2 R.lt
  replace G := G.below b2 G.lt
  replace O := O.below b2
  replace B := B.trans (b2.mono B.size)
  clear b1 b2 JP
  go_upto_region 2 with fail
  clear hw2
  refine wp_region_noPanic ?_
  refine wp_region_held_drew (S := fun w' => (w'.cell? ⟨w1.heap.size, 0, none⟩ = some (.int .i64 m1) ∧ w'.cell? ⟨w1.heap.size, 1, none⟩ = some (.string s1) ∧ w'.cell? ⟨w1.heap.size, 2, none⟩ = some (.slice ra rl rc)) ∧ w'.cell? ⟨0, 0, none⟩ = some (apV a)) (by kernel_rfl) ⟨⟨J.cell 0 rfl, J.cell 1 rfl, J.cell 2 rfl⟩, G.cell 0 rfl⟩ (fun hHeld => ?_)
  obtain ⟨wd, hd⟩ : ∃ wd, w2.drew = wd := ⟨_, rfl⟩
  have bd : Below w2.heap.size w2 wd := hd ▸ Below.drew (Below.refl _ _)
  have sd : w2.heap.size ≤ wd.heap.size := bd.size
  replace R := R.below bd R.lt
  replace G := G.below bd G.lt
  replace J := J.below bd J.lt
  replace O := O.below bd
  replace B := B.trans (bd.mono B.size)
  rw [hd] at hHeld ⊢
  clear hd bd
  refine take_at (i := 0) (d := 14) (v := ?_) rfl rfl (by kernel_rfl) (by kernel_rfl) (by kernel_rfl) (fun _ _ _ h => h) (Or.inl ⟨by rfl, ?_⟩) (by assumption) ?_
  rotate_left
  · intro w hSw
    try dsimp only at hSw
    go_simp
    try with_reducible rfl
  simp only [Act.put, List.setIfInBounds_toArray, List.set_cons_zero, List.set_cons_succ]
  refine take_at (i := 1) (d := 15) (v := ?_) rfl rfl (by kernel_rfl) (by kernel_rfl) (by kernel_rfl) (fun _ _ _ h => h) (Or.inl ⟨by rfl, ?_⟩) (by assumption) ?_
  rotate_left
  · intro w hSw
    try dsimp only at hSw
    go_simp
    try with_reducible rfl
  simp only [Act.put, List.setIfInBounds_toArray, List.set_cons_zero, List.set_cons_succ]
  refine take_at (i := 2) (d := 16) (v := ?_) rfl rfl (by kernel_rfl) (by kernel_rfl) (by kernel_rfl) (fun _ _ _ h => h) (Or.inl ⟨by rfl, ?_⟩) (by assumption) ?_
  rotate_left
  · intro w hSw
    try dsimp only at hSw
    go_simp
    try with_reducible rfl
  simp only [Act.put, List.setIfInBounds_toArray, List.set_cons_zero, List.set_cons_succ]
  refine ready_at (i := 3) rfl (by kernel_rfl) (fun KK hKK => ?_)
  go_simp
  refine (unhide IS _).mono ?_
  rintro e wk ⟨rfl, bk⟩
  have sk := bk.size
  replace R := R.below bk R.lt
  replace G := G.below bk G.lt
  replace J := J.below bk J.lt
  replace O := O.below bk
  replace B := B.trans (bk.mono B.size)
  clear bk IS
  clear hHeld
  refine hKK.out _ _ ⟨⟨J.cell 0 rfl, J.cell 1 rfl, J.cell 2 rfl⟩, G.cell 0 rfl⟩ (fun hHeld => ?_)
  clear hKK KK
  refine take_at (i := 4) (d := 18) (v := ?_) rfl rfl (by kernel_rfl) (by kernel_rfl) (by kernel_rfl) (fun _ _ _ h => h) (Or.inl ⟨by rfl, ?_⟩) (by assumption) ?_
  rotate_left
  · intro w hSw
    try dsimp only at hSw
    go_simp
    try with_reducible rfl
  simp only [Act.put, List.setIfInBounds_toArray, List.set_cons_zero, List.set_cons_succ]
  have c0 := R.cell 0 rfl
  have c1 := R.cell 1 rfl
  have c2 := R.cell 2 rfl
  have fc := R.frozen
  refine ready_at (i := 5) rfl (by kernel_rfl) (fun KK hKK => ?_)
  go_simp
  obtain ⟨wa, hwa⟩ : ∃ y, (((wk.setCell ⟨w.heap.size + 1 + 1, 0, none⟩ (.int .i64 m1)).setCell ⟨w.heap.size + 1 + 1, 1, none⟩ (.string s1)).setCell ⟨w.heap.size + 1 + 1, 2, none⟩ (.slice ra rl rc)) = y := ⟨_, rfl⟩
  have kwa : Kp wk wa (fun k => k = w.heap.size + 1 + 1) := hwa ▸ ((set_kp _ _ _ _).trans (set_kp _ _ _ _)).trans (set_kp _ _ _ _)
  replace R : Loc wa (w.heap.size + 1 + 1) #[.int .i64 m1, .string s1, .slice ra rl rc] := hwa ▸ (((R.set 0 _ rfl).set 1 _ rfl).set 2 _ rfl)
  replace G := G.kp kwa (by omega)
  replace J := J.kp kwa (by omega)
  replace O := O.kp kwa (fun j hj e => by have := tO j hj; omega)
  replace B := Below.kp B kwa B.size (fun k hk => by omega)
  have zwa := kwa.size
  rw [hwa]
  clear hwa kwa c0 c1 c2 fc
  clear hHeld
  refine hKK.out _ _ ⟨⟨J.cell 0 rfl, J.cell 1 rfl, J.cell 2 rfl⟩, G.cell 0 rfl⟩ (fun hHeld => ?_)
  clear hKK KK
  refine take_at (i := 6) (d := 5) (v := ?_) rfl rfl (by kernel_rfl) (by kernel_rfl) (by kernel_rfl) (fun _ _ _ h => h) (Or.inl ⟨by rfl, ?_⟩) (by assumption) ?_
  rotate_left
  · intro w hSw
    try dsimp only at hSw
    go_simp
    try with_reducible rfl
  simp only [Act.put, List.setIfInBounds_toArray, List.set_cons_zero, List.set_cons_succ]
  clear hHeld
  refine wpAnyH_done (by kernel_rfl) ?_ _
  refine NoPanic.normal ?_
  have r0 := R.cell 0 rfl
  have r1 := R.cell 1 rfl
  have r2 := R.cell 2 rfl
  clear R J G
  go_wp2
  refine bodyPost_ret (v := .tuple #[qv m1 s1 (.slice ra rl rc), .bool sm]) (by simp [results, Tryd.results12, go_sem, r0, r1, r2]) rfl ?_
  exact ⟨_, rfl, OI.mono O (by omega), B⟩
end Go.Proofs.YtehdchpolgihlaaDoor

/- PartJoinAll: laws.FnExactPartJoin at every argument. -/
namespace Go.Proofs.YtehdchpolgihlaaDoor
open Go.RowKit
set_option linter.unusedSectionVars false
variable [∀ (a b c d : Int), Decidable (Ok4 a b c d)]
variable [∀ (n f : Int), Decidable (COk n f)]
variable [∀ (n : Int) (s : List Int), Decidable (OkL n s)]

theorem fnPartJoin_walk (m n : Int) (s t : ByteArray) (pa qa : Option Addr) (pc qc : Nat) (xs ys : List Int) (a : Addr) (w : World) (hs : s.size ≤ maxLen) (hn : xs.length ≤ maxLen) (hp : AIW w pa xs) (wx : WfL xs) (ht : t.size ≤ maxLen) (hm : ys.length ≤ maxLen) (hq : AIW w qa ys) (wy : WfL ys) (G : Gv w a) :
    Calls Tryd.prog 4 #[qv m s (.slice pa xs.length pc), qv n t (.slice qa ys.length qc)] w fun e w' => e = .returned (.bool true) ∧ Below w.heap.size w w' := by
  by_cases h1 : s.size + xs.length ≤ 1048576
  · by_cases h : s.size + xs.length + t.size + ys.length ≤ 1048576
    · exact fnPartJoin_short (fun w => Gv w a) (fun w w' h hb => h.below hb h.lt) m n s t pa qa pc qc xs ys w (fun u v w G hu hv => implPartJoin m n s t u v xs ys a w (by omega) (by omega) wx wy hu hv G) (hp.ri (by omega)) (hq.ri (by omega)) h G
    · exact fnPartJoin_long2 m n s t pa qa pc qc xs.length ys.length w h1 (by omega) ht hm
  · exact fnPartJoin_long1 m n s t pa qa pc qc xs.length ys.length w (by omega) hs hn
end Go.Proofs.YtehdchpolgihlaaDoor

/- A part and a table of parts that came in. -/
namespace Go.Proofs.YtehdchpolgihlaaDoor
open Go.ChangeShapes Go.WideShapes Go.ChangeAt Go.RowKit
open Go.Joins
set_option linter.unusedSectionVars false
variable [∀ (a b c d : Int), Decidable (Ok4 a b c d)]
variable [∀ (n f : Int), Decidable (COk n f)]

set_option maxRecDepth 100000 in
theorem cellsPart : Tryd.prog.cellsOf 26 = 3 := by kernel_rfl
/-- A part as it came: its list at whatever place. -/
abbrev Pr := Int × ByteArray × Option Addr × Nat × List Int
def prz : Pr := (0, ⟨#[]⟩, none, 0, [])
def prp (r : Pr) : Pt := (r.1, r.2.1, r.2.2.2.2)
/-- What is known of a table that came in. -/
def ATab (W : World) (ao : Option Addr) (rs : List Pr) : Prop :=
  rs = [] ∨ ∃ g off, ao = some ⟨g, off, none⟩ ∧ ∀ k, k < rs.length → W.cell? ⟨g, off + k * 3, none⟩ = some (.int .i64 (rs.getD k prz).1) ∧ W.cell? ⟨g, off + k * 3 + 1, none⟩ = some (.string (rs.getD k prz).2.1) ∧ W.cell? ⟨g, off + k * 3 + 2, none⟩ = some (.slice (rs.getD k prz).2.2.1 (rs.getD k prz).2.2.2.2.length (rs.getD k prz).2.2.2.1)
theorem three_list {α : Type} {l : List α} (h : l.length = 3) : ∃ a b c, l = [a, b, c] := by
  match l, h with
  | [a, b, c], _ => exact ⟨a, b, c, rfl⟩
set_option maxRecDepth 100000 in
theorem open_part {H : Type} {enc : TypeId × Value → H} {W : World} {base : Nat} {v : Value} {d : DataW H} {p : List MemPlace} (hv : Value.okWide Tryd.prog W .any base 26 v)
    (h : DataW.Trod enc Tryd.prog W 0 (fun _ => true) true 26 v d p) :
    ∃ n s ao ca, ∃ xs : List Int, v = qv n s (.slice ao xs.length ca) ∧ s.size ≤ maxLen ∧ xs.length ≤ maxLen ∧ AIW W ao xs ∧ WfL xs := by
  obtain ⟨c0, c1, c2, y0, y1, y2, m, rfl, _, _, hy0, hy1, hy2⟩ := open_agg3 Tryd.underlying26 (by kernel_rfl) cellsPart hv h
  obtain ⟨a, e0, _, _⟩ := DataW.trod_int Tryd.underlying3 hy0
  obtain ⟨s, e1, _, hs⟩ := DataW.trod_string Tryd.underlying9 hy1
  obtain ⟨ao, ca, xs, rfl, hx, ax, wx⟩ := open_listW hy2
  simp at e0 e1
  exact ⟨a, s, ao, ca, xs, by rw [e0, e1], hs, hx, ax, wx⟩
theorem ATab.rpt {W : World} {ao : Option Addr} {ca : Nat} {rs : List Pr} (h : ATab W ao rs) (he : ∀ r ∈ rs, AIW W r.2.2.1 r.2.2.2.2) (hl : ∀ r ∈ rs, r.2.2.2.2.length ≤ 4194304) : RPt W (.slice ao rs.length ca) (rs.map prp) := by
  refine ⟨ao, ca, by simp, ?_⟩
  rcases h with rfl | ⟨g, off, rfl, h⟩
  · exact .inl rfl
  · refine .inr ⟨g, off, rfl, fun k hk => ?_⟩
    rw [List.length_map] at hk
    have hm : rs.getD k prz ∈ rs := by rw [List.getD_eq_getElem?_getD, List.getElem?_eq_getElem hk]; exact List.getElem_mem hk
    have e : (rs.map prp).getD k zpt = prp (rs.getD k prz) := by simp [List.getElem?_eq_getElem hk]
    obtain ⟨c0, c1, c2⟩ := h k hk
    rw [e]
    exact ⟨_, c0, c1, c2, (he _ hm).ri (hl _ hm)⟩
end Go.Proofs.YtehdchpolgihlaaDoor
