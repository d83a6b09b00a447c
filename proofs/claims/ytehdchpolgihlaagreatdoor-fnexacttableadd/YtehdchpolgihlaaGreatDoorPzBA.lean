/- Texts that belong together: PartPlain, PartJoins. -/
import Derived.Test.YtehdchpolgihlaaGreatDoorPzAY
import Derived.Test.YtehdchpolgihlaaGreatDoorPzAB
import Derived.Test.YtehdchpolgihlaaGreatDoorPzAE
import Derived.Test.YtehdchpolgihlaaGreatDoorPzAO
import Derived.Deep.RegionHeld3
import Derived.Deep.DeepCutAuto
/- PartPlain: parts and tables of parts as plain words. -/
namespace Go.Proofs.YtehdchpolgihlaaGreatDoor
open Go.RowKit

/-- One stands ahead of another: by view, then by name. -/
def befP (a b : Pt) : Bool := decide (a.1 < b.1) || (decide (a.1 = b.1) && Op.bytesLess a.2.1.toList b.2.1.toList)
/-- They are of one view and name. -/
def samP (a b : Pt) : Bool := decide (a.1 = b.1) && (a.2.1.toList == b.2.1.toList)
def joinP (a b : Pt) : Pt := (a.1, a.2.1, joinL a.2.2 b.2.2)
/-- What TableAdd makes of a table. -/
def addP : List Pt → Pt → List Pt
  | [], p => [p]
  | x :: xs, p => if befP x p then x :: addP xs p else if samP x p then joinP x p :: xs else p :: x :: xs
/-- What TableGet answers. -/
def getP (ps : List Pt) (v : Int) (s : ByteArray) : Pt := (ps.find? fun x => decide (x.1 = v) && (x.2.1.toList == s.toList)).getD (v, s, [])
def dropP (ps : List Pt) (v : Int) : List Pt := ps.filter fun x => decide (v ≤ x.1)
/-- Each stands ahead of the next. -/
def rowP : List Pt → Bool
  | [] => true
  | [_] => true
  | a :: b :: t => befP a b && rowP (b :: t)

theorem less_irrefl (x : List UInt8) : Op.bytesLess x x = false := by
  induction x with
  | nil => rfl
  | cons a x ih => simp [Op.bytesLess, ih]
theorem less_total {x y : List UInt8} (h : Op.bytesLess x y = false) (hn : x ≠ y) : Op.bytesLess y x = true := by
  induction x generalizing y with
  | nil =>
    cases y with
    | nil => exact absurd rfl hn
    | cons b y => simp [Op.bytesLess] at h
  | cons a x ih =>
    cases y with
    | nil => rfl
    | cons b y =>
      simp only [Op.bytesLess, Bool.or_eq_false_iff, decide_eq_false_iff_not, Bool.and_eq_false_imp, beq_iff_eq] at h
      simp only [Op.bytesLess, Bool.or_eq_true, decide_eq_true_eq, Bool.and_eq_true, beq_iff_eq]
      by_cases e : a = b
      · subst e
        exact .inr ⟨rfl, ih (h.2 rfl) (fun e => hn (by rw [e]))⟩
      · left
        have h1 := h.1
        rw [UInt8.lt_iff_toNat_lt] at h1 ⊢
        have : a.toNat ≠ b.toNat := fun e' => e (UInt8.toNat_inj.1 e')
        omega
theorem less_trans {x y z : List UInt8} (h : Op.bytesLess x y = true) (h' : Op.bytesLess y z = true) : Op.bytesLess x z = true := by
  induction x generalizing y z with
  | nil =>
    cases z with
    | nil => cases y <;> simp [Op.bytesLess] at h'
    | cons c z => rfl
  | cons a x ih =>
    cases y with
    | nil => simp [Op.bytesLess] at h
    | cons b y =>
      cases z with
      | nil => simp [Op.bytesLess] at h'
      | cons c z =>
        simp only [Op.bytesLess, Bool.or_eq_true, decide_eq_true_eq, Bool.and_eq_true, beq_iff_eq] at h h' ⊢
        rcases h with h | ⟨rfl, h⟩
        · rcases h' with h' | ⟨rfl, h'⟩
          · left; rw [UInt8.lt_iff_toNat_lt] at *; omega
          · exact .inl h
        · rcases h' with h' | ⟨rfl, h'⟩
          · exact .inl h'
          · exact .inr ⟨rfl, ih h h'⟩
theorem bef_irrefl (a : Pt) : befP a a = false := by simp [befP, less_irrefl]
theorem bef_trans {a b c : Pt} (h : befP a b = true) (h' : befP b c = true) : befP a c = true := by
  simp only [befP, Bool.or_eq_true, decide_eq_true_eq, Bool.and_eq_true] at *
  rcases h with h | ⟨h, hs⟩
  · left
    rcases h' with h' | ⟨h', _⟩ <;> omega
  · rcases h' with h' | ⟨h', hs'⟩
    · left; omega
    · exact .inr ⟨by omega, less_trans hs hs'⟩
/-- Of two that are not of one view and name one stands ahead. -/
theorem bef_total {a b : Pt} (h : befP a b = false) (hs : samP a b = false) : befP b a = true := by
  simp only [befP, samP, Bool.or_eq_false_iff, Bool.or_eq_true, decide_eq_true_eq, decide_eq_false_iff_not, Bool.and_eq_false_imp, Bool.and_eq_true, beq_eq_false_iff_ne] at *
  by_cases e : a.1 = b.1
  · exact .inr ⟨e.symm, less_total (h.2 e) (hs e)⟩
  · left; omega
theorem sam_not_bef {a b : Pt} (h : samP a b = true) : befP a b = false := by
  simp only [samP, Bool.and_eq_true, decide_eq_true_eq, beq_iff_eq] at h
  simp [befP, h.1, h.2, less_irrefl]
theorem addP_len (ps : List Pt) (p : Pt) : (addP ps p).length ≤ ps.length + 1 := by
  induction ps with
  | nil => simp [addP]
  | cons x ps ih => unfold addP; split <;> (try split) <;> simp <;> omega
end Go.Proofs.YtehdchpolgihlaaGreatDoor

/- PartJoins: l10Before and PartJoin of the specification. -/
namespace Go.Proofs.YtehdchpolgihlaaGreatDoor
open Go.RowKit

set_option maxHeartbeats 8000000 in
set_option maxRecDepth 100000 in
theorem l10Before_any (m n : Int) (s t : ByteArray) (u v : Value) (xs ys : List Int) (w : World) :
    Calls Tryz.prog 63 #[qv m s u, qv n t v] w fun e w' => e = .returned (.bool (befP (m, s, xs) (n, t, ys))) ∧ Below w.heap.size w w' := by
  have B := hide (qalloc2 w (.cells #[.int .i64 m, .string s, u] 26) (.cells #[.int .i64 n, .string t, v] 26))
  unfold befP
  simp only
  by_cases h1 : m < n
  · rw [decide_eq_true h1, Bool.true_or]
    go_enter Tryz.func63, Tryz.ntmps63
    go_wp2
    go_ret
    exact ⟨rfl, unhide B⟩
  · have hd1 := decide_eq_false h1
    rw [hd1, Bool.false_or]
    by_cases h2 : m = n
    · subst h2
      rw [decide_eq_true rfl, Bool.true_and]
      clear hd1
      generalize hb : Op.bytesLess s.toList t.toList = q
      go_enter Tryz.func63, Tryz.ntmps63
      go_wp2
      go_ret
      exact ⟨rfl, unhide B⟩
    · have hd2 := decide_eq_false h2
      rw [hd2, Bool.false_and]
      go_enter Tryz.func63, Tryz.ntmps63
      go_wp2
      go_ret
      exact ⟨rfl, unhide B⟩

set_option maxHeartbeats 8000000 in
set_option maxRecDepth 100000 in
theorem specPartJoin (m n : Int) (s t : ByteArray) (u v : Value) (xs ys : List Int) (w : World) (hl : xs.length + ys.length ≤ 4194303) (hu : RI w u xs) (hv : RI w v ys) :
    Calls Tryz.prog 11 #[qv m s u, qv n t v] w fun e w' => ∃ r, e = .returned (.tuple #[qv (if samP (m, s, xs) (n, t, ys) then m else 0) (if samP (m, s, xs) (n, t, ys) then s else ⟨#[]⟩) r, .bool (samP (m, s, xs) (n, t, ys))]) ∧ OI w' w.heap.size r (if samP (m, s, xs) (n, t, ys) then joinL xs ys else []) ∧ Below w.heap.size w w' := by
  obtain ⟨ua, uc, rfl⟩ := hu.form
  obtain ⟨va, vc, rfl⟩ := hv.form
  have SJ := hide fun w h h' => specSetJoin (.slice ua xs.length uc) (.slice va ys.length vc) xs ys w h h' hl
  obtain ⟨w0, hw0⟩ : ∃ y, ((w.alloc (.cells #[.int .i64 m, .string s, .slice ua xs.length uc] 26)).alloc (.cells #[.int .i64 n, .string t, .slice va ys.length vc] 26)).alloc zpo = y := ⟨_, rfl⟩
  have B : Below w.heap.size w w0 := hw0 ▸ ((qalloc2 _ _ _).alloc (by simp; omega) _)
  have X : Loc w0 w.heap.size #[.int .i64 m, .string s, .slice ua xs.length uc] := hw0 ▸ ((loc_at w _ _ rfl).alloc _).alloc _
  have Y : Loc w0 (w.heap.size + 1) #[.int .i64 n, .string t, .slice va ys.length vc] := hw0 ▸ (loc_at (w.alloc _) _ _ (by simp)).alloc _
  have R : Loc w0 (w.heap.size + 1 + 1) #[.int .i64 0, .string ⟨#[]⟩, .slice none 0 0] := hw0 ▸ (loc_at ((w.alloc _).alloc _) _ _ (by simp))
  have s0 : w0.heap.size = w.heap.size + 1 + 1 + 1 := by rw [← hw0]; simp
  have RU := hide fun w' (hb : Below w0.heap.size w0 w') => (hu.below B (Nat.le_refl _)).below hb (Nat.le_refl _)
  have RV := hide fun w' (hb : Below w0.heap.size w0 w') => (hv.below B (Nat.le_refl _)).below hb (Nat.le_refl _)
  obtain ⟨k1, hk1⟩ : ∃ k, xs.length = k := ⟨_, rfl⟩
  obtain ⟨k2, hk2⟩ : ∃ k, ys.length = k := ⟨_, rfl⟩
  rw [hk1] at SJ X RU hw0 ⊢
  rw [hk2] at SJ Y RV hw0 ⊢
  have x0 := X.cell 0 rfl
  have x1 := X.cell 1 rfl
  have y0 := Y.cell 0 rfl
  have y1 := Y.cell 1 rfl
  clear hu hv hk1 hk2 hl
  by_cases h : samP (m, s, xs) (n, t, ys) = true
  · rw [h]
    simp only [if_true]
    simp only [samP, Bool.and_eq_true, decide_eq_true_eq] at h
    obtain ⟨h1, h2⟩ := h
    subst h1
    go_enter Tryz.func11, Tryz.ntmps11
    go_upto_region 3 with fail
    clear hw0 x0 x1 y0 y1 h2
    refine wp_region_noPanic ?_
    refine wp_region_held_drew (S := fun w' => (w'.cell? ⟨w.heap.size, 0, none⟩ = some (.int .i64 m) ∧ w'.cell? ⟨w.heap.size, 1, none⟩ = some (.string s) ∧ w'.cell? ⟨w.heap.size, 2, none⟩ = some (.slice ua k1 uc)) ∧ (w'.cell? ⟨w.heap.size + 1, 0, none⟩ = some (.int .i64 m) ∧ w'.cell? ⟨w.heap.size + 1, 1, none⟩ = some (.string t) ∧ w'.cell? ⟨w.heap.size + 1, 2, none⟩ = some (.slice va k2 vc))) (by kernel_rfl) ⟨⟨X.cell 0 rfl, X.cell 1 rfl, X.cell 2 rfl⟩, ⟨Y.cell 0 rfl, Y.cell 1 rfl, Y.cell 2 rfl⟩⟩ (fun hHeld => ?_)
    obtain ⟨wd, hd⟩ : ∃ wd, w0.drew = wd := ⟨_, rfl⟩
    have bd : Below w0.heap.size w0 wd := hd ▸ Below.drew (Below.refl _ _)
    have BD := bd
    have sd : w0.heap.size ≤ wd.heap.size := bd.size
    replace X := X.below bd X.lt
    replace Y := Y.below bd Y.lt
    replace R := R.below bd R.lt
    replace B := B.trans (bd.mono B.size)
    rw [hd] at hHeld ⊢
    clear hd bd
    refine take_at (i := 0) (d := 19) (v := ?_) rfl rfl (by kernel_rfl) (by kernel_rfl) (by kernel_rfl) (fun _ _ _ h => h) (Or.inl ⟨by rfl, ?_⟩) (by assumption) ?_
    rotate_left
    · intro w hSw
      try dsimp only at hSw
      go_simp
      try with_reducible rfl
    simp only [Act.put, List.setIfInBounds_toArray, List.set_cons_zero, List.set_cons_succ]
    refine take_at (i := 1) (d := 20) (v := ?_) rfl rfl (by kernel_rfl) (by kernel_rfl) (by kernel_rfl) (fun _ _ _ h => h) (Or.inl ⟨by rfl, ?_⟩) (by assumption) ?_
    rotate_left
    · intro w hSw
      try dsimp only at hSw
      go_simp
      try with_reducible rfl
    simp only [Act.put, List.setIfInBounds_toArray, List.set_cons_zero, List.set_cons_succ]
    refine take_at (i := 2) (d := 21) (v := ?_) rfl rfl (by kernel_rfl) (by kernel_rfl) (by kernel_rfl) (fun _ _ _ h => h) (Or.inl ⟨by rfl, ?_⟩) (by assumption) ?_
    rotate_left
    · intro w hSw
      try dsimp only at hSw
      go_simp
      try with_reducible rfl
    simp only [Act.put, List.setIfInBounds_toArray, List.set_cons_zero, List.set_cons_succ]
    refine take_at (i := 3) (d := 22) (v := ?_) rfl rfl (by kernel_rfl) (by kernel_rfl) (by kernel_rfl) (fun _ _ _ h => h) (Or.inl ⟨by rfl, ?_⟩) (by assumption) ?_
    rotate_left
    · intro w hSw
      try dsimp only at hSw
      go_simp
      try with_reducible rfl
    simp only [Act.put, List.setIfInBounds_toArray, List.set_cons_zero, List.set_cons_succ]
    refine take_at (i := 4) (d := 23) (v := ?_) rfl rfl (by kernel_rfl) (by kernel_rfl) (by kernel_rfl) (fun _ _ _ h => h) (Or.inl ⟨by rfl, ?_⟩) (by assumption) ?_
    rotate_left
    · intro w hSw
      try dsimp only at hSw
      go_simp
      try with_reducible rfl
    simp only [Act.put, List.setIfInBounds_toArray, List.set_cons_zero, List.set_cons_succ]
    refine take_at (i := 5) (d := 24) (v := ?_) rfl rfl (by kernel_rfl) (by kernel_rfl) (by kernel_rfl) (fun _ _ _ h => h) (Or.inl ⟨by rfl, ?_⟩) (by assumption) ?_
    rotate_left
    · intro w hSw
      try dsimp only at hSw
      go_simp
      try with_reducible rfl
    simp only [Act.put, List.setIfInBounds_toArray, List.set_cons_zero, List.set_cons_succ]
    refine take_at (i := 6) (d := 25) (v := ?_) rfl rfl (by kernel_rfl) (by kernel_rfl) (by kernel_rfl) (fun _ _ _ h => h) (Or.inl ⟨by rfl, ?_⟩) (by assumption) ?_
    rotate_left
    · intro w hSw
      try dsimp only at hSw
      go_simp
      try with_reducible rfl
    simp only [Act.put, List.setIfInBounds_toArray, List.set_cons_zero, List.set_cons_succ]
    refine take_at (i := 7) (d := 26) (v := ?_) rfl rfl (by kernel_rfl) (by kernel_rfl) (by kernel_rfl) (fun _ _ _ h => h) (Or.inl ⟨by rfl, ?_⟩) (by assumption) ?_
    rotate_left
    · intro w hSw
      try dsimp only at hSw
      go_simp
      try with_reducible rfl
    simp only [Act.put, List.setIfInBounds_toArray, List.set_cons_zero, List.set_cons_succ]
    refine ready_at (i := 8) rfl (by kernel_rfl) (fun KK hKK => ?_)
    go_simp
    refine (unhide SJ _ (unhide RU _ BD) (unhide RV _ BD)).mono ?_
    rintro e wk ⟨q, rfl, oq, bk⟩
    have sk := bk.size
    replace X := X.below bk X.lt
    replace Y := Y.below bk Y.lt
    replace R := R.below bk R.lt
    replace B := B.trans (bk.mono B.size)
    have tO := World.ownsRow.lt oq
    obtain ⟨qa, qc, rfl⟩ := oq.form
    have O := oq
    generalize hjl : (joinL xs ys).length = jl at *
    clear bk oq SJ RU RV BD
    clear hHeld
    refine hKK.out _ _ ⟨⟨X.cell 0 rfl, X.cell 1 rfl, X.cell 2 rfl⟩, ⟨Y.cell 0 rfl, Y.cell 1 rfl, Y.cell 2 rfl⟩⟩ (fun hHeld => ?_)
    clear hKK KK
    refine take_at (i := 9) (d := 28) (v := ?_) rfl rfl (by kernel_rfl) (by kernel_rfl) (by kernel_rfl) (fun _ _ _ h => h) (Or.inl ⟨by rfl, ?_⟩) (by assumption) ?_
    rotate_left
    · intro w hSw
      try dsimp only at hSw
      go_simp
      try with_reducible rfl
    simp only [Act.put, List.setIfInBounds_toArray, List.set_cons_zero, List.set_cons_succ]
    have c0 := R.cell 0 rfl
    have c1 := R.cell 1 rfl
    have c2 := R.cell 2 rfl
    have fc := R.frozen
    refine ready_at (i := 10) rfl (by kernel_rfl) (fun KK hKK => ?_)
    go_simp
    obtain ⟨wa, hwa⟩ : ∃ y, (((wk.setCell ⟨w.heap.size + 1 + 1, 0, none⟩ (.int .i64 m)).setCell ⟨w.heap.size + 1 + 1, 1, none⟩ (.string s)).setCell ⟨w.heap.size + 1 + 1, 2, none⟩ (.slice qa jl qc)) = y := ⟨_, rfl⟩
    have kwa : Kp wk wa (fun k => k = w.heap.size + 1 + 1) := hwa ▸ ((set_kp _ _ _ _).trans (set_kp _ _ _ _)).trans (set_kp _ _ _ _)
    replace R : Loc wa (w.heap.size + 1 + 1) #[.int .i64 m, .string s, .slice qa jl qc] := hwa ▸ (((R.set 0 _ rfl).set 1 _ rfl).set 2 _ rfl)
    replace X := X.kp kwa (by omega)
    replace Y := Y.kp kwa (by omega)
    replace O := O.kp kwa (fun j hj e => by have := tO j hj; omega)
    replace B := Below.kp B kwa B.size (fun k hk => by omega)
    have zwa := kwa.size
    rw [hwa]
    clear hwa kwa c0 c1 c2 fc
    clear hHeld
    refine hKK.out _ _ ⟨⟨X.cell 0 rfl, X.cell 1 rfl, X.cell 2 rfl⟩, ⟨Y.cell 0 rfl, Y.cell 1 rfl, Y.cell 2 rfl⟩⟩ (fun hHeld => ?_)
    clear hKK KK
    refine take_at (i := 11) (d := 5) (v := ?_) rfl rfl (by kernel_rfl) (by kernel_rfl) (by kernel_rfl) (fun _ _ _ h => h) (Or.inl ⟨by rfl, ?_⟩) (by assumption) ?_
    rotate_left
    · intro w hSw
      try dsimp only at hSw
      go_simp
      try with_reducible rfl
    simp only [Act.put, List.setIfInBounds_toArray, List.set_cons_zero, List.set_cons_succ]
    clear hHeld
    refine wpAnyH_done (by kernel_rfl) ?_ _
    refine NoPanic.normal ?_
    have r0 := R.cell 0 rfl
    have r1 := R.cell 1 rfl
    have r2 := R.cell 2 rfl
    clear R X Y
    go_wp2
    refine bodyPost_ret (v := .tuple #[qv m s (.slice qa jl qc), .bool true]) (by simp [results, Tryz.results11, go_sem, r0, r1, r2]) rfl ?_
    exact ⟨_, rfl, OI.mono O (by omega), B⟩
  · have h' : samP (m, s, xs) (n, t, ys) = false := by simpa using h
    rw [h']
    simp only [Bool.false_eq_true, if_false]
    clear SJ RU RV
    have r0 := R.cell 0 rfl
    have r1 := R.cell 1 rfl
    have r2 := R.cell 2 rfl
    have fr := R.frozen
    have B' := hide (((B.setCell (p := ⟨w.heap.size + 1 + 1, 0, none⟩) (by show w.heap.size ≤ w.heap.size + 1 + 1; omega) (.int .i64 0)).setCell (p := ⟨w.heap.size + 1 + 1, 1, none⟩) (by show w.heap.size ≤ w.heap.size + 1 + 1; omega) (.string ⟨#[]⟩)).setCell (p := ⟨w.heap.size + 1 + 1, 2, none⟩) (by show w.heap.size ≤ w.heap.size + 1 + 1; omega) (.slice none 0 0))
    clear X Y R
    by_cases h1 : m = n
    · have h2 : (s.toList == t.toList) = false := by
        simp only [samP, h1, decide_true, Bool.true_and] at h'
        exact h'
      subst h1
      clear h h'
      go_enter Tryz.func11, Tryz.ntmps11
      go_wp2
      refine bodyPost_ret (v := .tuple #[qv 0 ⟨#[]⟩ (.slice none 0 0), .bool false]) (by simp [results, Tryz.results11, go_sem, r0, r1, r2]) rfl ?_
      exact ⟨_, rfl, World.ownsRow_nil _ _ _ _, unhide B'⟩
    · have hd1 := decide_eq_false h1
      clear h h'
      go_enter Tryz.func11, Tryz.ntmps11
      go_wp2
      refine bodyPost_ret (v := .tuple #[qv 0 ⟨#[]⟩ (.slice none 0 0), .bool false]) (by simp [results, Tryz.results11, go_sem, r0, r1, r2]) rfl ?_
      exact ⟨_, rfl, World.ownsRow_nil _ _ _ _, unhide B'⟩
end Go.Proofs.YtehdchpolgihlaaGreatDoor
