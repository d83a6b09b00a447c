/- JoinParts: impl.joinParts, impl.PartJoin. -/
import Derived.Test.YtjkcphnohhpihaaGreatDoorPPAS
import Derived.Test.YtjkcphnohhpihaaGreatDoorPPAT
set_option maxRecDepth 100000
set_option maxHeartbeats 8000000
set_option linter.unusedSectionVars false
namespace Go.Proofs.YtjkcphnohhpihaaGreatDoor
section
open Go.RowKit
variable [∀ (n : Int) (s : List Int), Decidable (OkL n s)]
abbrev apV (a : Addr) : Value := .iface 234 (.pointer (some a))
def Gv (w : World) (a : Addr) : Prop := w.cell? ⟨0, 0, none⟩ = some (apV a)
theorem Gv.lt {w : World} {a : Addr} (h : Gv w a) : 0 < w.heap.size := cell_lt h
theorem Gv.below {w w' : World} {B : Nat} {a : Addr} (h : Gv w a) (hb : Below B w w') (hg : 0 < B) : Gv w' a := (hb.cell (p := ⟨0, 0, none⟩) hg).trans h
theorem Gv.up {w w1 : World} {a : Addr} (h : Gv w a) (b : Below w.heap.size w w1) : Gv w1 a := h.below b h.lt
theorem Gv.kp {w w' : World} {X : Nat → Prop} {a : Addr} (h : Gv w a) (k : Kp w w' X) (hg : ¬ X 0) : Gv w' a := (World.cell?_of_block (a := ⟨0, 0, none⟩) (k.block _ h.lt hg)).trans h
theorem Gv.cell {w : World} {a : Addr} (h : Gv w a) (j : Nat) (hj : j = 0) : w.cell? ⟨0, j, none⟩ = some (apV a) := by subst hj; exact h

theorem joinParts_any (m n : Int) (s t : ByteArray) (u v : Value) (xs ys : List Int) (a : Addr) (w : World) (hl : xs.length + ys.length ≤ 4194303) (hs : s.size ≤ 281474976710656) (wx : WfL xs) (wy : WfL ys) (hu : RI w u xs) (hv : RI w v ys) (G : Gv w a) :
 Calls Tryz.prog 58 #[qv m s u, qv n t v] w fun e w' => ∃ r, e = .returned (.tuple #[qv (if samP (m, s, xs) (n, t, ys) then m else 0) (if samP (m, s, xs) (n, t, ys) then s else ⟨#[]⟩) r, if samP (m, s, xs) (n, t, ys) then .nilIface else apV a]) ∧ OI w' w.heap.size r (if samP (m, s, xs) (n, t, ys) then joinL xs ys else []) ∧ Below w.heap.size w w' := by
 have hgl:=G.lt
 obtain ⟨ua, uc, rfl⟩:=hu.form
 obtain ⟨va, vc, rfl⟩:=hv.form
 have SJ:=hide fun w h h' => implSetJoin (.slice ua xs.length uc) (.slice va ys.length vc) xs ys w h h' wx wy hl
 have CL:=hide fun w => clone_any s w hs
 have CP:=hide fun w => compareParts_any m n s t (.slice ua xs.length uc) (.slice va ys.length vc) xs ys w
 have HQ:=hide (cmpP_eq (m, s, xs) (n, t, ys))
 obtain ⟨w0, hw0⟩ : ∃ y, ((w.alloc (.cells #[.int .i64 m,.string s,.slice ua xs.length uc] 36)).alloc (.cells #[.int .i64 n,.string t,.slice va ys.length vc] 36)).alloc zpo = y:=⟨_, rfl⟩
 have B : Below w.heap.size w w0:=hw0 ▸ ((qalloc2 _ _ _).alloc (by simp; omega) _)
 have X : Loc w0 w.heap.size #[.int .i64 m,.string s,.slice ua xs.length uc]:=hw0 ▸ ((loc_at w _ _ rfl).alloc _).alloc _
 have Y : Loc w0 (w.heap.size + 1) #[.int .i64 n,.string t,.slice va ys.length vc]:=hw0 ▸ (loc_at (w.alloc _) _ _ (by simp)).alloc _
 have R : Loc w0 (w.heap.size + 1 + 1) #[.int .i64 0,.string ⟨#[]⟩,.slice none 0 0]:=hw0 ▸ (loc_at ((w.alloc _).alloc _) _ _ (by simp))
 have s0 : w0.heap.size = w.heap.size + 1 + 1 + 1:=by rw [← hw0]; simp
 replace G:=G.below B hgl
 have RU:=hide fun w' (hb : Below w0.heap.size w0 w') => (hu.below B).below hb
 have RV:=hide fun w' (hb : Below w0.heap.size w0 w') => (hv.below B).below hb
 generalize cmpP (m, s, xs) (n, t, ys) = q at *
 generalize samP (m, s, xs) (n, t, ys) = sm at *
 obtain ⟨k1, hk1⟩ : ∃ k, xs.length = k:=⟨_, rfl⟩
 obtain ⟨k2, hk2⟩ : ∃ k, ys.length = k:=⟨_, rfl⟩
 rw [hk1] at SJ X RU CP hw0 ⊢
 rw [hk2] at SJ Y RV CP hw0 ⊢
 have x0:=X.cell 0 rfl
 have x1:=X.cell 1 rfl
 have x2:=X.cell 2 rfl
 have y0:=Y.cell 0 rfl
 have y1:=Y.cell 1 rfl
 have y2:=Y.cell 2 rfl
 clear hu hv hk1 hk2 hl wx wy
 cases sm with
 | true =>
  obtain rfl : q = 0:=HQ.out.2 rfl
  simp only [if_true]
  go_enter Tryz.func58, Tryz.ntmps58
  go_wp2_with fail
  clear hw0 x0 x1 x2 y0 y1 y2 HQ
  refine (CP.out _).mono ?_
  rintro e w1 ⟨rfl, b1⟩
  have BX:=b1
  have s1:=b1.size
  replace X:=X.up b1
  replace Y:=Y.up b1
  replace R:=R.up b1
  replace G:=G.up b1
  replace B:=bu B b1
  clear b1 CP
  go_upto_region 3 with fail
  refine wp_region_noPanic ?_
  refine wp_region_held_drew (S := fun w' => (w'.cell? ⟨w.heap.size, 0, none⟩ = some (.int .i64 m) ∧ w'.cell? ⟨w.heap.size, 1, none⟩ = some (.string s) ∧ w'.cell? ⟨w.heap.size, 2, none⟩ = some (.slice ua k1 uc)) ∧ (w'.cell? ⟨w.heap.size + 1, 0, none⟩ = some (.int .i64 n) ∧ w'.cell? ⟨w.heap.size + 1, 1, none⟩ = some (.string t) ∧ w'.cell? ⟨w.heap.size + 1, 2, none⟩ = some (.slice va k2 vc))) (by kernel_rfl) ⟨⟨X.cell 0 rfl, X.cell 1 rfl, X.cell 2 rfl⟩, ⟨Y.cell 0 rfl, Y.cell 1 rfl, Y.cell 2 rfl⟩⟩ (fun hHeld => ?_)
  obtain ⟨wd, hd⟩ : ∃ wd, w1.drew = wd:=⟨_, rfl⟩
  have bd : Below w1.heap.size w1 wd:=hd ▸ Below.drew (Below.refl _ _)
  have BD : Below w0.heap.size w0 wd:=BX.trans (bd.mono s1)
  have sd : w1.heap.size ≤ wd.heap.size:=bd.size
  replace X:=X.up bd
  replace Y:=Y.up bd
  replace R:=R.up bd
  replace G:=G.up bd
  replace B:=bu B bd
  rw [hd] at hHeld ⊢
  clear hd bd BX
  refine tx 0 12 ?_
  refine tx 1 13 ?_
  refine tx 2 14 ?_
  refine tx 3 15 ?_
  refine tx 5 17 ?_
  refine tx 6 18 ?_
  refine tx 7 19 ?_
  refine tx 8 20 ?_
  refine rd 4 rfl (fun KK hKK => ?_)
  go_simp
  refine (CL.out _).mono ?_
  rintro e wj ⟨rfl, bj⟩
  have sj:=bj.size
  have BJ : Below w0.heap.size w0 wj:=bu BD bj
  replace X:=X.up bj
  replace Y:=Y.up bj
  replace R:=R.up bj
  replace G:=G.up bj
  replace B:=bu B bj
  clear bj CL BD hHeld
  refine hKK.out _ _ ⟨⟨X.cell 0 rfl, X.cell 1 rfl, X.cell 2 rfl⟩, ⟨Y.cell 0 rfl, Y.cell 1 rfl, Y.cell 2 rfl⟩⟩ (fun hHeld => ?_)
  clear hKK KK
  refine rd 9 rfl (fun KK hKK => ?_)
  go_simp
  refine (SJ.out _ (RU.out _ BJ) (RV.out _ BJ)).mono ?_
  rintro e wk ⟨q, rfl, oq, bk⟩
  have sk:=bk.size
  replace X:=X.up bk
  replace Y:=Y.up bk
  replace R:=R.up bk
  replace G:=G.up bk
  replace B:=bu B bk
  have tO:=World.ownsRow.lt oq
  obtain ⟨qa, qc, rfl⟩:=oq.form
  have O:=oq
  generalize hjl : (joinL xs ys).length = jl at *
  clear bk oq SJ RU RV BJ hHeld
  refine hKK.out _ _ ⟨⟨X.cell 0 rfl, X.cell 1 rfl, X.cell 2 rfl⟩, ⟨Y.cell 0 rfl, Y.cell 1 rfl, Y.cell 2 rfl⟩⟩ (fun hHeld => ?_)
  clear hKK KK
  refine tx 10 22 ?_
  have c0:=R.cell 0 rfl
  have c1:=R.cell 1 rfl
  have c2:=R.cell 2 rfl
  have fc:=R.frozen
  refine rd 11 rfl (fun KK hKK => ?_)
  go_simp
  obtain ⟨wa, hwa⟩ : ∃ y, (((wk.setCell ⟨w.heap.size + 1 + 1, 0, none⟩ (.int .i64 m)).setCell ⟨w.heap.size + 1 + 1, 1, none⟩ (.string s)).setCell ⟨w.heap.size + 1 + 1, 2, none⟩ (.slice qa jl qc)) = y:=⟨_, rfl⟩
  have kwa : Kp wk wa (fun k => k = w.heap.size + 1 + 1):=hwa ▸ ((set_kp _ _ _ _).trans (set_kp _ _ _ _)).trans (set_kp _ _ _ _)
  replace R : Loc wa (w.heap.size + 1 + 1) #[.int .i64 m,.string s,.slice qa jl qc]:=hwa ▸ (((R.set 0 _ rfl).set 1 _ rfl).set 2 _ rfl)
  replace X:=X.kp kwa (by omega)
  replace Y:=Y.kp kwa (by omega)
  replace G:=G.kp kwa (by omega)
  replace O:=O.kp kwa (fun j hj e => by have:=tO j hj; omega)
  replace B:=Below.kp B kwa B.size (fun k hk => by omega)
  have zwa:=kwa.size
  rw [hwa]
  clear hwa kwa c0 c1 c2 fc hHeld
  refine hKK.out _ _ ⟨⟨X.cell 0 rfl, X.cell 1 rfl, X.cell 2 rfl⟩, ⟨Y.cell 0 rfl, Y.cell 1 rfl, Y.cell 2 rfl⟩⟩ (fun hHeld => ?_)
  clear hKK KK
  refine tx 12 5 ?_
  clear hHeld
  refine wdn ?_
  have r0:=R.cell 0 rfl
  have r1:=R.cell 1 rfl
  have r2:=R.cell 2 rfl
  clear R X Y
  go_wp2
  refine bodyPost_ret (v := .tuple #[qv m s (.slice qa jl qc),.nilIface]) (by simp [results, Tryz.results58, go_sem, r0, r1, r2]) rfl ?_
  exact ⟨_, rfl, OI.mono O (by omega), B⟩
 | false =>
  have hq : ¬ q = 0:=fun e => by have:=HQ.out.1 e; cases this
  have hq1 : (q == 0) = false:=by simpa using hq
  have hq2 : (q != 0) = true:=by simpa using hq
  simp only [Bool.false_eq_true, if_false]
  clear hq HQ SJ CL RU RV
  go_enter Tryz.func58, Tryz.ntmps58
  go_wp2_with fail
  clear hw0 x0 x1 x2 y0 y1 y2
  refine (CP.out _).mono ?_
  rintro e w1 ⟨rfl, b1⟩
  have s1:=b1.size
  replace R:=R.up b1
  replace G:=G.up b1
  replace B:=bu B b1
  clear b1 CP X Y
  go_upto_region 2 with fail
  clear hq1 hq2
  refine wp_region_noPanic ?_
  refine wp_region_held_drew (S := fun w' => w'.cell? ⟨0, 0, none⟩ = some (apV a)) (by kernel_rfl) (G.cell 0 rfl) (fun hHeld => ?_)
  obtain ⟨wd, hd⟩ : ∃ wd, w1.drew = wd:=⟨_, rfl⟩
  have bd : Below w1.heap.size w1 wd:=hd ▸ Below.drew (Below.refl _ _)
  have sd : w1.heap.size ≤ wd.heap.size:=bd.size
  replace R:=R.up bd
  replace G:=G.up bd
  replace B:=bu B bd
  rw [hd] at hHeld ⊢
  clear hd bd
  refine tx 0 10 ?_
  refine tx 1 11 ?_
  have c0:=R.cell 0 rfl
  have c1:=R.cell 1 rfl
  have c2:=R.cell 2 rfl
  have fc:=R.frozen
  refine rd 2 rfl (fun KK hKK => ?_)
  go_simp
  obtain ⟨wa, hwa⟩ : ∃ y, (((wd.setCell ⟨w.heap.size + 1 + 1, 0, none⟩ (.int .i64 0)).setCell ⟨w.heap.size + 1 + 1, 1, none⟩ (.string ⟨#[]⟩)).setCell ⟨w.heap.size + 1 + 1, 2, none⟩ (.slice none 0 0)) = y:=⟨_, rfl⟩
  have kwa : Kp wd wa (fun k => k = w.heap.size + 1 + 1):=hwa ▸ ((set_kp _ _ _ _).trans (set_kp _ _ _ _)).trans (set_kp _ _ _ _)
  replace R : Loc wa (w.heap.size + 1 + 1) #[.int .i64 0,.string ⟨#[]⟩,.slice none 0 0]:=hwa ▸ (((R.set 0 _ rfl).set 1 _ rfl).set 2 _ rfl)
  replace G:=G.kp kwa (by omega)
  replace B:=Below.kp B kwa B.size (fun k hk => by omega)
  have zwa:=kwa.size
  rw [hwa]
  clear hwa kwa c0 c1 c2 fc hHeld
  refine hKK.out _ _ (G.cell 0 rfl) (fun hHeld => ?_)
  clear hKK KK
  refine tx 3 5 ?_
  clear hHeld
  refine wdn ?_
  have r0:=R.cell 0 rfl
  have r1:=R.cell 1 rfl
  have r2:=R.cell 2 rfl
  clear R
  go_wp2
  refine bodyPost_ret (v := .tuple #[qv 0 ⟨#[]⟩ (.slice none 0 0), apV a]) (by simp [results, Tryz.results58, go_sem, r0, r1, r2]) rfl ?_
  exact ⟨_, rfl, World.ownsRow_nil _ _ _ _, B⟩

theorem implPartJoin (m n : Int) (s t : ByteArray) (u v : Value) (xs ys : List Int) (a : Addr) (w : World) (hl : xs.length + ys.length ≤ 4194303) (hs : s.size ≤ 281474976710656) (wx : WfL xs) (wy : WfL ys) (hu : RI w u xs) (hv : RI w v ys) (G : Gv w a) :
 Calls Tryz.prog 19 #[qv m s u, qv n t v] w fun e w' => ∃ r, e = .returned (.tuple #[qv (if samP (m, s, xs) (n, t, ys) then m else 0) (if samP (m, s, xs) (n, t, ys) then s else ⟨#[]⟩) r,.bool (samP (m, s, xs) (n, t, ys))]) ∧ OI w' w.heap.size r (if samP (m, s, xs) (n, t, ys) then joinL xs ys else []) ∧ Below w.heap.size w w' := by
 have hgl:=G.lt
 obtain ⟨ua, uc, rfl⟩:=hu.form
 obtain ⟨va, vc, rfl⟩:=hv.form
 have JP:=hide fun w h h' g => joinParts_any m n s t (.slice ua xs.length uc) (.slice va ys.length vc) xs ys a w hl hs wx wy h h' g
 generalize samP (m, s, xs) (n, t, ys) = sm at *
 have IS : Hid (∀ w, Calls Tryz.prog 59 #[if sm then .nilIface else apV a, apV a] w fun e w' => e = .returned (.bool (!sm)) ∧ Below w.heap.size w w'):=hide fun w => by
  cases sm
  ·exact (is_same a w).mono fun _ _ h => ⟨h.1, h.2 ▸ Below.refl _ _⟩
  exact (is_nil a w).mono fun _ _ h => ⟨h.1, h.2 ▸ Below.refl _ _⟩
 generalize (if sm = true then m else 0) = m1 at *
 generalize (if sm = true then s else ⟨#[]⟩) = s1 at *
 generalize (if sm = true then joinL xs ys else []) = x1 at *
 generalize (if sm = true then Value.nilIface else apV a) = ev at *
 obtain ⟨w0, hw0⟩ : ∃ y, ((w.alloc (.cells #[.int .i64 m,.string s,.slice ua xs.length uc] 36)).alloc (.cells #[.int .i64 n,.string t,.slice va ys.length vc] 36)).alloc zpo = y:=⟨_, rfl⟩
 have B : Below w.heap.size w w0:=hw0 ▸ ((qalloc2 _ _ _).alloc (by simp; omega) _)
 have X : Loc w0 w.heap.size #[.int .i64 m,.string s,.slice ua xs.length uc]:=hw0 ▸ ((loc_at w _ _ rfl).alloc _).alloc _
 have Y : Loc w0 (w.heap.size + 1) #[.int .i64 n,.string t,.slice va ys.length vc]:=hw0 ▸ (loc_at (w.alloc _) _ _ (by simp)).alloc _
 have R : Loc w0 (w.heap.size + 1 + 1) #[.int .i64 0,.string ⟨#[]⟩,.slice none 0 0]:=hw0 ▸ (loc_at ((w.alloc _).alloc _) _ _ (by simp))
 have s0 : w0.heap.size = w.heap.size + 1 + 1 + 1:=by rw [← hw0]; simp
 replace G:=G.below B hgl
 replace JP:=hide (JP.out w0 (hu.below B) (hv.below B) G)
 obtain ⟨k1, hk1⟩ : ∃ k, xs.length = k:=⟨_, rfl⟩
 obtain ⟨k2, hk2⟩ : ∃ k, ys.length = k:=⟨_, rfl⟩
 rw [hk1] at JP X hw0 ⊢
 rw [hk2] at JP Y hw0 ⊢
 have x0:=X.cell 0 rfl
 have x1':=X.cell 1 rfl
 have x2:=X.cell 2 rfl
 have y0:=Y.cell 0 rfl
 have y1:=Y.cell 1 rfl
 have y2:=Y.cell 2 rfl
 clear hu hv hk1 hk2 hl wx wy
 go_enter Tryz.func19, Tryz.ntmps19
 go_wp2_with fail
 clear hw0 x0 x1' x2 y0 y1 y2 X Y
 refine JP.out.mono ?_
 rintro e w1 ⟨r, rfl, O, b1⟩
 have s1':=b1.size
 replace R:=R.up b1
 replace G:=G.up b1
 replace B:=bu B b1
 have tO:=World.ownsRow.lt O
 obtain ⟨ra, rc, rfl⟩:=O.form
 obtain ⟨rl, hrl⟩ : ∃ k, x1.length = k:=⟨_, rfl⟩
 rw [hrl] at O tO ⊢
 obtain ⟨w2, hw2⟩ : ∃ y, w1.alloc (.cells #[.int .i64 m1,.string s1,.slice ra rl rc] 36) = y:=⟨_, rfl⟩
 have b2 : Below w1.heap.size w1 w2:=hw2 ▸ qalloc _ _
 have s2:=b2.size
 have J : Loc w2 w1.heap.size #[.int .i64 m1,.string s1,.slice ra rl rc]:=hw2 ▸ loc_at w1 _ _ rfl
 replace R:=R.up b2
 replace G:=G.up b2
 replace O:=O.below b2
 replace B:=bu B b2
 clear b1 b2 JP
 go_upto_region 2 with fail
 clear hw2
 refine wp_region_noPanic ?_
 refine wp_region_held_drew (S := fun w' => (w'.cell? ⟨w1.heap.size, 0, none⟩ = some (.int .i64 m1) ∧ w'.cell? ⟨w1.heap.size, 1, none⟩ = some (.string s1) ∧ w'.cell? ⟨w1.heap.size, 2, none⟩ = some (.slice ra rl rc)) ∧ w'.cell? ⟨0, 0, none⟩ = some (apV a)) (by kernel_rfl) ⟨⟨J.cell 0 rfl, J.cell 1 rfl, J.cell 2 rfl⟩, G.cell 0 rfl⟩ (fun hHeld => ?_)
 obtain ⟨wd, hd⟩ : ∃ wd, w2.drew = wd:=⟨_, rfl⟩
 have bd : Below w2.heap.size w2 wd:=hd ▸ Below.drew (Below.refl _ _)
 have sd : w2.heap.size ≤ wd.heap.size:=bd.size
 replace R:=R.up bd
 replace G:=G.up bd
 replace J:=J.up bd
 replace O:=O.below bd
 replace B:=bu B bd
 rw [hd] at hHeld ⊢
 clear hd bd
 refine tx 0 14 ?_
 refine tx 1 15 ?_
 refine tx 2 16 ?_
 refine rd 3 rfl (fun KK hKK => ?_)
 go_simp
 refine (IS.out _).mono ?_
 rintro e wk ⟨rfl, bk⟩
 have sk:=bk.size
 replace R:=R.up bk
 replace G:=G.up bk
 replace J:=J.up bk
 replace O:=O.below bk
 replace B:=bu B bk
 clear bk IS hHeld
 refine hKK.out _ _ ⟨⟨J.cell 0 rfl, J.cell 1 rfl, J.cell 2 rfl⟩, G.cell 0 rfl⟩ (fun hHeld => ?_)
 clear hKK KK
 refine tx 4 18 ?_
 have c0:=R.cell 0 rfl
 have c1:=R.cell 1 rfl
 have c2:=R.cell 2 rfl
 have fc:=R.frozen
 refine rd 5 rfl (fun KK hKK => ?_)
 go_simp
 obtain ⟨wa, hwa⟩ : ∃ y, (((wk.setCell ⟨w.heap.size + 1 + 1, 0, none⟩ (.int .i64 m1)).setCell ⟨w.heap.size + 1 + 1, 1, none⟩ (.string s1)).setCell ⟨w.heap.size + 1 + 1, 2, none⟩ (.slice ra rl rc)) = y:=⟨_, rfl⟩
 have kwa : Kp wk wa (fun k => k = w.heap.size + 1 + 1):=hwa ▸ ((set_kp _ _ _ _).trans (set_kp _ _ _ _)).trans (set_kp _ _ _ _)
 replace R : Loc wa (w.heap.size + 1 + 1) #[.int .i64 m1,.string s1,.slice ra rl rc]:=hwa ▸ (((R.set 0 _ rfl).set 1 _ rfl).set 2 _ rfl)
 replace G:=G.kp kwa (by omega)
 replace J:=J.kp kwa (by omega)
 replace O:=O.kp kwa (fun j hj e => by have:=tO j hj; omega)
 replace B:=Below.kp B kwa B.size (fun k hk => by omega)
 have zwa:=kwa.size
 rw [hwa]
 clear hwa kwa c0 c1 c2 fc hHeld
 refine hKK.out _ _ ⟨⟨J.cell 0 rfl, J.cell 1 rfl, J.cell 2 rfl⟩, G.cell 0 rfl⟩ (fun hHeld => ?_)
 clear hKK KK
 refine tx 6 5 ?_
 clear hHeld
 refine wdn ?_
 have r0:=R.cell 0 rfl
 have r1:=R.cell 1 rfl
 have r2:=R.cell 2 rfl
 clear R J G
 go_wp2
 refine bodyPost_ret (v := .tuple #[qv m1 s1 (.slice ra rl rc),.bool sm]) (by simp [results, Tryz.results19, go_sem, r0, r1, r2]) rfl ?_
 exact ⟨_, rfl, OI.mono O (by omega), B⟩
end
end Go.Proofs.YtjkcphnohhpihaaGreatDoor
