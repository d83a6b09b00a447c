/- BlockSame of the program and of the specification. -/
import Derived.Test.YtihaecmlfmfbfaaDoorBlockDig
import Derived.Test.YtihaecmlfmfbfaaDoorEqText
import Derived.Test.YtihaecmlfmfbfaaDoorBlk
import Derived.Test.YtihaecmlfmfbfaaDoorQcSame
import Derived.Test.YtihaecmlfmfbfaaDoorHeldBy
import Derived.Deep.DeepCutAuto
namespace Go.Proofs.YtihaecmlfmfbfaaDoor
open Go.RowKit

/-- Two blocks held against each other. -/
def bsamB (m m' : ByteArray) (v v' : Int) (s s' : ByteArray) (xs ys : List Int) : Bool := decide (m = m' ∧ v = v' ∧ s = s' ∧ xs = ys)
theorem str_same {s t : ByteArray} (h : s = t) : (s.toList == t.toList) = true := by simp [h]
theorem str_other {t s : ByteArray} (h : t ≠ s) : (t.toList == s.toList) = false := by
  rw [beq_eq_false_iff_ne]
  intro e
  rw [ByteArray.toList_eq, ByteArray.toList_eq] at e
  exact h (ByteArray.ext (Array.toList_inj.1 e))
def xt (xs : List Int) : ByteArray := ⟨(digL xs).toArray⟩
theorem xt_inj {xs ys : List Int} (h : xt xs = xt ys) : xs = ys := by
  have := congrArg (fun s : ByteArray => s.data.toList) h
  exact digL_inj (by simpa [xt] using this)
theorem dgt_inj {n m : Int} (h : dgt n = dgt m) : n = m := by
  have := congrArg (fun s : ByteArray => s.data.toList) h
  exact itoa_inj (by simpa [dgt] using this)
theorem str_dec (s t : ByteArray) : (s.toList == t.toList) = decide (s = t) := by
  by_cases h : s = t
  · rw [str_same h]; simp [h]
  · rw [str_other h]; simp [h]
theorem bsame_eq (m m' : ByteArray) (v v' : Int) (s s' : ByteArray) (xs ys : List Int) : (m.toList == m'.toList && ((dgt v).toList == (dgt v').toList && (s.toList == s'.toList && (xt xs).toList == (xt ys).toList))) = bsamB m m' v v' s s' xs ys := by
  rw [str_dec, str_dec, str_dec, str_dec]
  have e1 : (dgt v = dgt v') ↔ v = v' := ⟨dgt_inj, fun h => by rw [h]⟩
  have e2 : (xt xs = xt ys) ↔ xs = ys := ⟨xt_inj, fun h => by rw [h]⟩
  simp [bsamB, e1, e2]

set_option maxHeartbeats 8000000 in
set_option maxRecDepth 100000 in
theorem text_any (m : ByteArray) (v : Int) (s : ByteArray) (ao : Option Addr) (ca : Nat) (xs : List Int) (w : World) (h0 : -9223372036854775808 ≤ v) (h1 : v ≤ 9223372036854775807) (hw : In64 xs) (hP : Pow w) (ha : RI w (.slice ao xs.length ca) xs) :
    Calls Tryd.prog 28 #[bv m v s (.slice ao xs.length ca)] w fun e w' => e = .returned (tv m (dgt v) s (xt xs)) ∧ Below w.heap.size w w' := by
  obtain ⟨w0, hw0⟩ : ∃ w0, (w.alloc (.cells #[.string m, .int .i64 v, .string s, .slice ao xs.length ca] 36)).alloc (.cells #[.string ⟨#[]⟩, .string ⟨#[]⟩, .string ⟨#[]⟩, .string ⟨#[]⟩] 58) = w0 := ⟨_, rfl⟩
  have Bw0 : Below w.heap.size w w0 := hw0 ▸ qalloc2 _ _ _
  have LB : Loc w0 w.heap.size #[.string m, .int .i64 v, .string s, .slice ao xs.length ca] := hw0 ▸ (loc_at w _ _ rfl).alloc _
  have LT : Loc w0 (w.heap.size + 1) #[.string ⟨#[]⟩, .string ⟨#[]⟩, .string ⟨#[]⟩, .string ⟨#[]⟩] := hw0 ▸ loc_at (w.alloc _) _ _ (by simp)
  have DI := hide fun w' (b : Below w0.heap.size w0 w') => implDigits_any v w' h0 h1 ((hP.below Bw0).below b)
  have DO := hide fun w' (b : Below w0.heap.size w0 w') => digitsOf_any (.slice ao xs.length ca) xs w' ((ha.below Bw0 (Nat.le_refl _)).below b (Nat.le_refl _)) hw ((hP.below Bw0).below b)
  have e1 : (⟨(Lib.itoa v).toArray⟩ : ByteArray) = dgt v := rfl
  have e2 : (⟨(digL xs).toArray⟩ : ByteArray) = xt xs := rfl
  rw [e1] at DI
  rw [e2] at DO
  clear e1 e2 ha hw hP
  generalize dgt v = d at *
  generalize xt xs = x at *
  go_enter Tryd.func28, Tryd.ntmps28
  have K : Hid (∀ w', Below w0.heap.size w0 w' → (fun w' => w'.cell? ⟨w.heap.size, 0, none⟩ = some (.string m) ∧ w'.cell? ⟨w.heap.size, 1, none⟩ = some (.int .i64 v) ∧ w'.cell? ⟨w.heap.size, 2, none⟩ = some (.string s) ∧ w'.cell? ⟨w.heap.size, 3, none⟩ = some (.slice ao xs.length ca)) w') := hide fun w' hb' => ⟨(LB.below hb' LB.lt).cell 0 rfl, (LB.below hb' LB.lt).cell 1 rfl, (LB.below hb' LB.lt).cell 2 rfl, (LB.below hb' LB.lt).cell 3 rfl⟩
  go_upto_region 1 with fail
  clear hw0
  have bA : Below w0.heap.size w0 w0.drew := Below.drew (Below.refl _ _)
  refine wp_region_noPanic ?_
  refine wp_region_held_drew (S := fun w' => w'.cell? ⟨w.heap.size, 0, none⟩ = some (.string m) ∧ w'.cell? ⟨w.heap.size, 1, none⟩ = some (.int .i64 v) ∧ w'.cell? ⟨w.heap.size, 2, none⟩ = some (.string s) ∧ w'.cell? ⟨w.heap.size, 3, none⟩ = some (.slice ao xs.length ca)) (by kernel_rfl) (unhide K _ bA) (fun hHeld => ?_)
  refine take_at (i := 0) (d := 3) (v := ?_) rfl rfl (by kernel_rfl) (by kernel_rfl) (by kernel_rfl) (fun _ _ _ h => h) (Or.inl ⟨by rfl, ?_⟩) (by assumption) ?_
  rotate_left
  · intro w hSw
    try dsimp only at hSw
    go_simp
    try with_reducible rfl
  simp only [Act.put, List.setIfInBounds_toArray, List.set_cons_zero, List.set_cons_succ]
  refine take_at (i := 2) (d := 5) (v := ?_) rfl rfl (by kernel_rfl) (by kernel_rfl) (by kernel_rfl) (fun _ _ _ h => h) (Or.inl ⟨by rfl, ?_⟩) (by assumption) ?_
  rotate_left
  · intro w hSw
    try dsimp only at hSw
    go_simp
    try with_reducible rfl
  simp only [Act.put, List.setIfInBounds_toArray, List.set_cons_zero, List.set_cons_succ]
  refine take_at (i := 6) (d := 9) (v := ?_) rfl rfl (by kernel_rfl) (by kernel_rfl) (by kernel_rfl) (fun _ _ _ h => h) (Or.inl ⟨by rfl, ?_⟩) (by assumption) ?_
  rotate_left
  · intro w hSw
    try dsimp only at hSw
    go_simp
    try with_reducible rfl
  simp only [Act.put, List.setIfInBounds_toArray, List.set_cons_zero, List.set_cons_succ]
  refine take_at (i := 9) (d := 12) (v := ?_) rfl rfl (by kernel_rfl) (by kernel_rfl) (by kernel_rfl) (fun _ _ _ h => h) (Or.inl ⟨by rfl, ?_⟩) (by assumption) ?_
  rotate_left
  · intro w hSw
    try dsimp only at hSw
    go_simp
    try with_reducible rfl
  simp only [Act.put, List.setIfInBounds_toArray, List.set_cons_zero, List.set_cons_succ]
  refine take_at (i := 1) (d := 4) (v := ?_) rfl rfl (by kernel_rfl) (by kernel_rfl) (by kernel_rfl) (fun _ _ _ h => h) (Or.inl ⟨by rfl, ?_⟩) (by assumption) ?_
  rotate_left
  · intro w hSw
    try dsimp only at hSw
    go_simp
    try with_reducible rfl
  simp only [Act.put, List.setIfInBounds_toArray, List.set_cons_zero, List.set_cons_succ]
  refine take_at (i := 3) (d := 6) (v := ?_) rfl rfl (by kernel_rfl) (by kernel_rfl) (by kernel_rfl) (fun _ _ _ h => h) (Or.inl ⟨by rfl, ?_⟩) (by assumption) ?_
  rotate_left
  · intro w hSw
    try dsimp only at hSw
    go_simp
    try with_reducible rfl
  simp only [Act.put, List.setIfInBounds_toArray, List.set_cons_zero, List.set_cons_succ]
  refine take_at (i := 7) (d := 10) (v := ?_) rfl rfl (by kernel_rfl) (by kernel_rfl) (by kernel_rfl) (fun _ _ _ h => h) (Or.inl ⟨by rfl, ?_⟩) (by assumption) ?_
  rotate_left
  · intro w hSw
    try dsimp only at hSw
    go_simp
    try with_reducible rfl
  simp only [Act.put, List.setIfInBounds_toArray, List.set_cons_zero, List.set_cons_succ]
  refine take_at (i := 10) (d := 13) (v := ?_) rfl rfl (by kernel_rfl) (by kernel_rfl) (by kernel_rfl) (fun _ _ _ h => h) (Or.inl ⟨by rfl, ?_⟩) (by assumption) ?_
  rotate_left
  · intro w hSw
    try dsimp only at hSw
    go_simp
    try with_reducible rfl
  simp only [Act.put, List.setIfInBounds_toArray, List.set_cons_zero, List.set_cons_succ]
  refine take_at (i := 4) (d := 7) (v := ?_) rfl rfl (by kernel_rfl) (by kernel_rfl) (by kernel_rfl) (fun _ _ _ h => h) (Or.inl ⟨by rfl, ?_⟩) (by assumption) ?_
  rotate_left
  · intro w hSw
    try dsimp only at hSw
    go_simp
    try with_reducible rfl
  simp only [Act.put, List.setIfInBounds_toArray, List.set_cons_zero, List.set_cons_succ]
  refine take_at (i := 8) (d := 11) (v := ?_) rfl rfl (by kernel_rfl) (by kernel_rfl) (by kernel_rfl) (fun _ _ _ h => h) (Or.inl ⟨by rfl, ?_⟩) (by assumption) ?_
  rotate_left
  · intro w hSw
    try dsimp only at hSw
    go_simp
    try with_reducible rfl
  simp only [Act.put, List.setIfInBounds_toArray, List.set_cons_zero, List.set_cons_succ]
  refine take_at (i := 11) (d := 14) (v := ?_) rfl rfl (by kernel_rfl) (by kernel_rfl) (by kernel_rfl) (fun _ _ _ h => h) (Or.inl ⟨by rfl, ?_⟩) (by assumption) ?_
  rotate_left
  · intro w hSw
    try dsimp only at hSw
    go_simp
    try with_reducible rfl
  simp only [Act.put, List.setIfInBounds_toArray, List.set_cons_zero, List.set_cons_succ]
  refine ready_at (i := 5) rfl (by kernel_rfl) (fun KK hKK => ?_)
  go_simp
  have hgo := bA
  refine (unhide DI _ hgo).mono ?_
  rintro e wz1 ⟨rfl, bb⟩
  have bz1 : Below w0.heap.size w0 wz1 := bA.trans (bb.mono bA.size)
  clear bA hgo bb
  clear hHeld
  refine hKK.out _ _ (unhide K _ bz1) (fun hHeld => ?_)
  clear hKK KK
  refine ready_at (i := 12) rfl (by kernel_rfl) (fun KK hKK => ?_)
  go_simp
  have hgo := bz1
  refine (unhide DO _ hgo).mono ?_
  rintro e wz2 ⟨rfl, bb⟩
  have bz2 : Below w0.heap.size w0 wz2 := bz1.trans (bb.mono bz1.size)
  clear bz1 hgo bb
  clear hHeld
  refine hKK.out _ _ (unhide K _ bz2) (fun hHeld => ?_)
  clear hKK KK
  refine take_at (i := 13) (d := 16) (v := ?_) rfl rfl (by kernel_rfl) (by kernel_rfl) (by kernel_rfl) (fun _ _ _ h => h) (Or.inl ⟨by rfl, ?_⟩) (by assumption) ?_
  rotate_left
  · intro w hSw
    try dsimp only at hSw
    go_simp
    try with_reducible rfl
  simp only [Act.put, List.setIfInBounds_toArray, List.set_cons_zero, List.set_cons_succ]
  have LT2 := LT.below bz2 LT.lt
  have q0 := LT2.cell 0 rfl
  have q1 := LT2.cell 1 rfl
  have q2 := LT2.cell 2 rfl
  have q3 := LT2.cell 3 rfl
  have fq := LT2.frozen
  have hl := LT.lt
  have ll := bz2.size
  have LB2 := LB.below bz2 LB.lt
  have k4 := kp4 wz2 (w.heap.size + 1) (.string m) (.string d) (.string s) (.string x)
  have LB3 := LB2.kp k4 (by omega)
  refine ready_at (i := 14) rfl (by kernel_rfl) (fun KK hKK => ?_)
  go_simp
  clear hHeld
  refine hKK.out _ _ ⟨LB3.cell 0 rfl, LB3.cell 1 rfl, LB3.cell 2 rfl, LB3.cell 3 rfl⟩ (fun hHeld => ?_)
  clear hKK KK
  clear hHeld
  refine wpAnyH_done (by kernel_rfl) ?_ _
  refine NoPanic.normal ?_
  go_wp2
  refine bodyPost_ret (v := tv m d s x) (by simp [results, Tryd.results28, go_sem, q0, q1, q2, q3]) rfl ?_
  exact ⟨rfl, Below.kp (Bw0.trans (bz2.mono Bw0.size)) k4 (by have := Bw0.size; omega) (fun k hk => by omega)⟩

set_option maxHeartbeats 8000000 in
set_option maxRecDepth 100000 in
theorem implBlockSame (m m' : ByteArray) (v v' : Int) (s s' : ByteArray) (ao bo : Option Addr) (ca cb : Nat) (xs ys : List Int) (w : World) (h0 : -9223372036854775808 ≤ v) (h1 : v ≤ 9223372036854775807) (h0' : -9223372036854775808 ≤ v') (h1' : v' ≤ 9223372036854775807) (hw : In64 xs) (hw' : In64 ys) (hP : Pow w) (ha : RI w (.slice ao xs.length ca) xs) (hb : RI w (.slice bo ys.length cb) ys) :
    Calls Tryd.prog 19 #[bv m v s (.slice ao xs.length ca), bv m' v' s' (.slice bo ys.length cb)] w fun e w' => e = .returned (.bool (bsamB m m' v v' s s' xs ys)) ∧ Below w.heap.size w w' := by
  obtain ⟨w0, hw0⟩ : ∃ w0, (w.alloc (.cells #[.string m, .int .i64 v, .string s, .slice ao xs.length ca] 36)).alloc (.cells #[.string m', .int .i64 v', .string s', .slice bo ys.length cb] 36) = w0 := ⟨_, rfl⟩
  have Bw0 : Below w.heap.size w w0 := hw0 ▸ qalloc2 _ _ _
  have LA : Loc w0 w.heap.size #[.string m, .int .i64 v, .string s, .slice ao xs.length ca] := hw0 ▸ (loc_at w _ _ rfl).alloc _
  have LB : Loc w0 (w.heap.size + 1) #[.string m', .int .i64 v', .string s', .slice bo ys.length cb] := hw0 ▸ loc_at (w.alloc _) _ _ (by simp)
  have TA := hide fun w' (b : Below w0.heap.size w0 w') => text_any m v s ao ca xs w' h0 h1 hw ((hP.below Bw0).below b) ((ha.below Bw0 (Nat.le_refl _)).below b (Nat.le_refl _))
  have TB := hide fun w' (b : Below w0.heap.size w0 w') => text_any m' v' s' bo cb ys w' h0' h1' hw' ((hP.below Bw0).below b) ((hb.below Bw0 (Nat.le_refl _)).below b (Nat.le_refl _))
  have hEQ : ∀ w, (binOp .eql 58 (tv m (dgt v) s (xt xs)) (tv m' (dgt v') s' (xt ys))).run Tryd.prog w = .ok (.bool (bsamB m m' v v' s s' xs ys)) w := fun w => by rw [eq_text, bsame_eq]
  have hG : ∀ x y w, (eqGuard .eql 58 x y (tv m (dgt v) s (xt xs)) (tv m' (dgt v') s' (xt ys))).run Tryd.prog w = .ok () w := fun x y w => guard_text x y _ _ w
  clear ha hb hw hw' hP
  generalize tv m (dgt v) s (xt xs) = A at *
  generalize tv m' (dgt v') s' (xt ys) = C at *
  generalize bsamB m m' v v' s s' xs ys = q at *
  go_enter Tryd.func19, Tryd.ntmps19
  have K : Hid (∀ w', Below w0.heap.size w0 w' → (fun w' => Below w0.heap.size w0 w' ∧ (w'.cell? ⟨w.heap.size, 0, none⟩ = some (.string m) ∧ w'.cell? ⟨w.heap.size, 1, none⟩ = some (.int .i64 v) ∧ w'.cell? ⟨w.heap.size, 2, none⟩ = some (.string s) ∧ w'.cell? ⟨w.heap.size, 3, none⟩ = some (.slice ao xs.length ca)) ∧ (w'.cell? ⟨w.heap.size + 1, 0, none⟩ = some (.string m') ∧ w'.cell? ⟨w.heap.size + 1, 1, none⟩ = some (.int .i64 v') ∧ w'.cell? ⟨w.heap.size + 1, 2, none⟩ = some (.string s') ∧ w'.cell? ⟨w.heap.size + 1, 3, none⟩ = some (.slice bo ys.length cb))) w') := hide fun w' hb' => ⟨hb', ⟨(LA.below hb' LA.lt).cell 0 rfl, (LA.below hb' LA.lt).cell 1 rfl, (LA.below hb' LA.lt).cell 2 rfl, (LA.below hb' LA.lt).cell 3 rfl⟩, ⟨(LB.below hb' LB.lt).cell 0 rfl, (LB.below hb' LB.lt).cell 1 rfl, (LB.below hb' LB.lt).cell 2 rfl, (LB.below hb' LB.lt).cell 3 rfl⟩⟩
  go_upto_region 1 with fail
  clear hw0
  have bA : Below w0.heap.size w0 w0.drew := Below.drew (Below.refl _ _)
  refine wp_region_noPanic ?_
  refine wp_region_held_drew (S := fun w' => Below w0.heap.size w0 w' ∧ (w'.cell? ⟨w.heap.size, 0, none⟩ = some (.string m) ∧ w'.cell? ⟨w.heap.size, 1, none⟩ = some (.int .i64 v) ∧ w'.cell? ⟨w.heap.size, 2, none⟩ = some (.string s) ∧ w'.cell? ⟨w.heap.size, 3, none⟩ = some (.slice ao xs.length ca)) ∧ (w'.cell? ⟨w.heap.size + 1, 0, none⟩ = some (.string m') ∧ w'.cell? ⟨w.heap.size + 1, 1, none⟩ = some (.int .i64 v') ∧ w'.cell? ⟨w.heap.size + 1, 2, none⟩ = some (.string s') ∧ w'.cell? ⟨w.heap.size + 1, 3, none⟩ = some (.slice bo ys.length cb))) (by kernel_rfl) (unhide K _ bA) (fun hHeld => ?_)
  refine take_at (i := 0) (d := 5) (v := ?_) rfl rfl (by kernel_rfl) (by kernel_rfl) (by kernel_rfl) (fun _ _ _ h => h) (Or.inl ⟨by rfl, ?_⟩) (by assumption) ?_
  rotate_left
  · intro w hSw
    try dsimp only at hSw
    go_simp
    try with_reducible rfl
  simp only [Act.put, List.setIfInBounds_toArray, List.set_cons_zero, List.set_cons_succ]
  refine take_at (i := 2) (d := 7) (v := ?_) rfl rfl (by kernel_rfl) (by kernel_rfl) (by kernel_rfl) (fun _ _ _ h => h) (Or.inl ⟨by rfl, ?_⟩) (by assumption) ?_
  rotate_left
  · intro w hSw
    try dsimp only at hSw
    go_simp
    try with_reducible rfl
  simp only [Act.put, List.setIfInBounds_toArray, List.set_cons_zero, List.set_cons_succ]
  refine ready_at (i := 1) rfl (by kernel_rfl) (fun KK hKK => ?_)
  go_simp
  have hgo := bA
  refine (unhide TA _ hgo).mono ?_
  rintro e wz1_1 ⟨rfl, bb⟩
  have bz1 : Below w0.heap.size w0 wz1_1 := bA.trans (bb.mono bA.size)
  clear bA hgo bb
  clear hHeld
  refine hKK.out _ _ (unhide K _ bz1) (fun hHeld => ?_)
  clear hKK KK
  refine ready_at (i := 3) rfl (by kernel_rfl) (fun KK hKK => ?_)
  go_simp
  have hgo := bz1
  refine (unhide TB _ hgo).mono ?_
  rintro e wz1_2 ⟨rfl, bb⟩
  have bz2 : Below w0.heap.size w0 wz1_2 := bz1.trans (bb.mono bz1.size)
  clear bz1 hgo bb
  clear hHeld
  refine hKK.out _ _ (unhide K _ bz2) (fun hHeld => ?_)
  clear hKK KK
  refine take_at (i := 4) (d := 9) (v := ?_) rfl rfl (by kernel_rfl) (by kernel_rfl) (by kernel_rfl) (fun _ _ _ h => h) (Or.inl ⟨by rfl, ?_⟩) (by assumption) ?_
  rotate_left
  · intro w hSw
    try dsimp only at hSw
    go_simp
    try with_reducible rfl
  simp only [Act.put, List.setIfInBounds_toArray, List.set_cons_zero, List.set_cons_succ]
  refine take_at (i := 5) (d := 4) (v := ?_) rfl rfl (by kernel_rfl) (by kernel_rfl) (by kernel_rfl) (fun _ _ _ h => h) (Or.inl ⟨by rfl, ?_⟩) (by assumption) ?_
  rotate_left
  · intro w hSw
    try dsimp only at hSw
    go_simp
    try with_reducible rfl
  simp only [Act.put, List.setIfInBounds_toArray, List.set_cons_zero, List.set_cons_succ]
  clear hHeld
  refine wpAnyH_done (by kernel_rfl) ?_ _
  refine NoPanic.normal ?_
  have bb := bz2
  have Bwz1_2 := Bw0.trans (bb.mono Bw0.size)
  have swz1_2 := bb.size
  replace LA := LA.below bb LA.lt
  replace LB := LB.below bb LB.lt
  clear Bw0
  clear bb bz2 K
  go_wp2
  go_ret
  exact ⟨rfl, Bwz1_2⟩

set_option maxHeartbeats 8000000 in
set_option maxRecDepth 100000 in
theorem specBlockSame (m m' : ByteArray) (v v' : Int) (s s' : ByteArray) (ao bo : Option Addr) (ca cb : Nat) (xs ys : List Int) (w : World) (ha : RI w (.slice ao xs.length ca) xs) (hb : RI w (.slice bo ys.length cb) ys) :
    Calls Tryd.prog 12 #[bv m v s (.slice ao xs.length ca), bv m' v' s' (.slice bo ys.length cb)] w fun e w' => e = .returned (.bool (bsamB m m' v v' s s' xs ys)) ∧ Below w.heap.size w w' := by
  obtain ⟨w0, hw0⟩ : ∃ w0, (w.alloc (.cells #[.string m, .int .i64 v, .string s, .slice ao xs.length ca] 36)).alloc (.cells #[.string m', .int .i64 v', .string s', .slice bo ys.length cb] 36) = w0 := ⟨_, rfl⟩
  have Bw0 : Below w.heap.size w w0 := hw0 ▸ qalloc2 _ _ _
  have LA : Loc w0 w.heap.size #[.string m, .int .i64 v, .string s, .slice ao xs.length ca] := hw0 ▸ (loc_at w _ _ rfl).alloc _
  have LB : Loc w0 (w.heap.size + 1) #[.string m', .int .i64 v', .string s', .slice bo ys.length cb] := hw0 ▸ loc_at (w.alloc _) _ _ (by simp)
  have QS := hide (specQcSame v v' s s' (.slice ao xs.length ca) (.slice bo ys.length cb) xs ys w0 (ha.below Bw0 (Nat.le_refl _)) (hb.below Bw0 (Nat.le_refl _)))
  have hB : bsamB m m' v v' s s' xs ys = (decide (m = m') && alikeB v v' s s' xs ys) := by simp [bsamB, alikeB]
  rw [hB]
  clear hB ha hb
  generalize alikeB v v' s s' xs ys = q at *
  have cLA0 := LA.cell 0 rfl
  have cLA1 := LA.cell 1 rfl
  have cLA2 := LA.cell 2 rfl
  have cLA3 := LA.cell 3 rfl
  have cLB0 := LB.cell 0 rfl
  have cLB1 := LB.cell 1 rfl
  have cLB2 := LB.cell 2 rfl
  have cLB3 := LB.cell 3 rfl
  by_cases hm : m = m'
  · have hy := str_same hm
    have hd : decide (m = m') = true := by simpa using hm
    rw [hd, Bool.true_and]
    clear hm hd
    go_enter Tryd.func12, Tryd.ntmps12
    go_wp2_with fail
    clear hw0
    refine (unhide QS).mono ?_
    rintro e w1 ⟨rfl, b1⟩
    have B1 := Bw0.trans (b1.mono Bw0.size)
    go_wp2
    go_ret
    exact ⟨rfl, B1⟩
  · have hy := str_other hm
    have hd : decide (m = m') = false := by simpa using hm
    rw [hd, Bool.false_and]
    clear hm hd
    go_enter Tryd.func12, Tryd.ntmps12
    go_wp2
    go_ret
    exact ⟨rfl, Bw0⟩
end Go.Proofs.YtihaecmlfmfbfaaDoor
