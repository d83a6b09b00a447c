/- Texts that belong together: PickFits, Pick, SpecTake, SpecDrop. -/
import Derived.Test.YthdehhenkgkkmaaDoorBunE
import Derived.Test.YthdehhenkgkkmaaDoorBunD
import Derived.Test.YthdehhenkgkkmaaDoorBunH
import Derived.Test.YthdehhenkgkkmaaDoorBunF
/- The two functions that PoolTake and PoolDrop hand on. -/
namespace Go.Proofs.YthdehhenkgkkmaaDoor
open Go.RowKit
set_option linter.unusedSectionVars false
variable [∀ (a b c d : Int), Decidable (Ok4 a b c d)]
variable [∀ (m a b c d : Int), Decidable (In4 m a b c d)]
variable [∀ (xs ys : List Int), Decidable (LOk xs ys)]
variable [∀ (x y : T4), Decidable (Bef x y)]
variable [∀ (ts : List T4), Decidable (Asc ts)]
variable [∀ (ts : List T4), Decidable (AllOk ts)]
variable [∀ (ts : List T4), Decidable (POk ts)]

theorem RI.kp {w w' : World} {X : Nat → Prop} {v : Value} {xs : List Int} (h : RI w v xs) (k : Kp w w' X) (hv : ∀ j, v.ownBlock = some j → ¬ X j) : RI w' v xs := by
  obtain ⟨hl, ao, cap, rfl, h⟩ := h
  refine ⟨hl, ao, cap, rfl, ?_⟩
  rcases h with h | ⟨b, off, rfl, h⟩
  · exact .inl h
  · exact .inr ⟨b, off, rfl, fun j hj => k.cell (h j hj) (hv b rfl)⟩
theorem RI.form {w : World} {v : Value} {xs : List Int} (h : RI w v xs) : ∃ ao ca, v = .slice ao xs.length ca := by obtain ⟨_, ao, ca, e, _⟩ := h; exact ⟨ao, ca, e⟩
theorem RI.lt {w : World} {v : Value} {xs : List Int} (h : RI w v xs) (hx : xs ≠ []) : ∀ j, v.ownBlock = some j → j < w.heap.size := by
  obtain ⟨hl, ao, cap, rfl, h⟩ := h
  rcases h with h | ⟨b, off, rfl, h⟩
  · exact absurd h hx
  · intro j hj
    simp [Value.ownBlock] at hj
    subst hj
    exact cell_lt (h 0 (List.length_pos_iff.2 hx))
/-- What a payment's code says: it is taken. -/
def Took (r : List Int × List Int × Int) : Prop := r.2.2 = 0 ∨ r.2.2 = 4
variable [∀ (r : List Int × List Int × Int), Decidable (Took r)]

set_option maxHeartbeats 4000000 in
set_option maxRecDepth 100000 in
theorem take_fits (x : T4) (lb : Nat) (u v : Value) (xs ys : List Int) (w : World) (hL : Loc w lb #[u, v]) (hu : RI w u xs ∧ RI w v ys) :
    Calls Tryd.prog 27 #[txv x.1 x.2.1 x.2.2.1 x.2.2.2, .pointer (some ⟨lb, 0, none⟩)] w fun e w' => ∃ u' v', e = .returned (.bool (decide (Took (payAns xs ys x.1 x.2.1 x.2.2.1 x.2.2.2)))) ∧ Loc w' lb #[u', v'] ∧
      OL w' w.heap.size w'.heap.size u' v' (payAns xs ys x.1 x.2.1 x.2.2.1 x.2.2.2).1 (payAns xs ys x.1 x.2.1 x.2.2.1 x.2.2.2).2.1 ∧ Kp w w' (fun k => k = lb) := by
  obtain ⟨a, b, c, d⟩ := x
  dsimp only
  have PY := hide fun w h => implPay u v a b c d xs ys w h
  have RU := hide hu
  obtain ⟨ua, uc, rfl⟩ := hu.1.form
  obtain ⟨va, vc, rfl⟩ := hu.2.form
  generalize payAns xs ys a b c d = r at *
  have lL := hL.lt
  obtain ⟨w0, hw0⟩ : ∃ w0, w.alloc (.cells (r4 a b c d) 26) = w0 := ⟨_, rfl⟩
  have B0 : Below w.heap.size w w0 := hw0 ▸ (Below.refl _ _).alloc (Nat.le_refl _) _
  have L0 : Loc w0 lb #[.slice ua xs.length uc, .slice va ys.length vc] := hL.below B0 lL
  have X0 : Loc w0 w.heap.size (r4 a b c d) := hw0 ▸ loc_at w _ _ rfl
  have q0 := L0.cell 0 rfl
  have q1 := L0.cell 1 rfl
  obtain ⟨x0, x1, x2, x3⟩ := X0.cells4
  clear hu hL
  go_enter Tryd.func27, Tryd.ntmps27
  go_wp2_with fail
  clear hw0 q0 q1 x0 x1 x2 x3
  refine (unhide PY _ ⟨(unhide RU).1.below B0 (Nat.le_refl _), (unhide RU).2.below B0 (Nat.le_refl _)⟩).mono ?_
  rintro _ w1 ⟨up, vp, rfl, ol, b1⟩
  have s0 := B0.size
  have s1 := b1.size
  have L1 := L0.below b1 (Nat.lt_of_lt_of_le lL s0)
  have B1 := B0.trans (b1.mono s0)
  obtain ⟨pa, pc, rfl⟩ := ol.has.form
  obtain ⟨qa, qc, rfl⟩ := ol.next.form
  obtain ⟨w2, hw2⟩ : ∃ y, w1.alloc (.cells #[.slice pa r.1.length pc, .slice qa r.2.1.length qc] 33) = y := ⟨_, rfl⟩
  have B2 : Below w.heap.size w w2 := hw2 ▸ B1.alloc B1.size _
  have L2 : Loc w2 lb #[.slice ua xs.length uc, .slice va ys.length vc] := hw2 ▸ L1.alloc _
  have N2 : Loc w2 w1.heap.size #[.slice pa r.1.length pc, .slice qa r.2.1.length qc] := hw2 ▸ loc_at w1 _ _ rfl
  have ol2 := hide (show OL w2 w.heap.size w1.heap.size (.slice pa r.1.length pc) (.slice qa r.2.1.length qc) r.1 r.2.1 from hw2 ▸ (ol.alloc _).mono s0 (Nat.le_refl _))
  have s2 : w2.heap.size = w1.heap.size + 1 := by rw [← hw2]; simp
  have n0 := N2.cell 0 rfl
  have n1 := N2.cell 1 rfl
  have m0 := L2.cell 0 rfl
  have m1 := L2.cell 1 rfl
  have FL := L2.frozen
  obtain ⟨w3, hw3⟩ : ∃ y, (w2.setCell ⟨lb, 0, none⟩ (.slice pa r.1.length pc)).setCell ⟨lb, 1, none⟩ (.slice qa r.2.1.length qc) = y := ⟨_, rfl⟩
  have K3 : Kp w2 w3 (fun k => k = lb) := hw3 ▸ (set_kp w2 _ 0 _).trans (set_kp _ _ 1 _)
  have L3 : Loc w3 lb #[.slice pa r.1.length pc, .slice qa r.2.1.length qc] := hw3 ▸ (L2.set 0 _ rfl).set 1 _ rfl
  have ol3 := hide ((unhide ol2).kp K3 (fun k h1 _ e => by omega))
  have KK : Kp w w3 (fun k => k = lb) := (Below.kpOf B2 _).trans K3
  have s3 := K3.size
  clear ol b1 B1 L1 L0 X0 PY RU K3 L2 N2
  by_cases h0 : r.2.2 = 0
  · have e : decide (Took r) = true := decide_eq_true (Or.inl h0)
    replace e := hide e
    go_wp2
    clear hw2 hw3
    go_ret
    exact ⟨_, _, by rw [unhide e]; rfl, L3, (unhide ol3).mono (Nat.le_refl _) (by omega), KK⟩
  · have h0' : (r.2.2 == 0) = false := by simpa using h0
    by_cases h4 : r.2.2 = 4
    · have e : decide (Took r) = true := decide_eq_true (Or.inr h4)
      replace e := hide e
      go_wp2
      clear hw2 hw3
      go_ret
      exact ⟨_, _, by rw [unhide e]; rfl, L3, (unhide ol3).mono (Nat.le_refl _) (by omega), KK⟩
    · have h4' : (r.2.2 == 4) = false := by simpa using h4
      have e : decide (Took r) = false := decide_eq_false (by rintro (h | h); exact h0 h; exact h4 h)
      replace e := hide e
      go_wp2
      clear hw2 hw3
      go_ret
      exact ⟨_, _, by rw [unhide e]; rfl, L3, (unhide ol3).mono (Nat.le_refl _) (by omega), KK⟩

set_option maxHeartbeats 4000000 in
set_option maxRecDepth 100000 in
theorem drop_fits (x : T4) (lb : Nat) (u v : Value) (xs ys : List Int) (w : World) (hL : Loc w lb #[u, v]) (hu : RI w u xs ∧ RI w v ys) :
    Calls Tryd.prog 29 #[txv x.1 x.2.1 x.2.2.1 x.2.2.2, .pointer (some ⟨lb, 0, none⟩)] w fun e w' => e = .returned (.bool (decide (¬ (payAns xs ys x.1 x.2.1 x.2.2.1 x.2.2.2).2.2 = 2))) ∧ Below w.heap.size w w' := by
  obtain ⟨a, b, c, d⟩ := x
  dsimp only
  have PY := hide fun w h => implPay u v a b c d xs ys w h
  have RU := hide hu
  obtain ⟨ua, uc, rfl⟩ := hu.1.form
  obtain ⟨va, vc, rfl⟩ := hu.2.form
  generalize payAns xs ys a b c d = r at *
  have lL := hL.lt
  obtain ⟨w0, hw0⟩ : ∃ w0, w.alloc (.cells (r4 a b c d) 26) = w0 := ⟨_, rfl⟩
  have B0 : Below w.heap.size w w0 := hw0 ▸ (Below.refl _ _).alloc (Nat.le_refl _) _
  have L0 : Loc w0 lb #[.slice ua xs.length uc, .slice va ys.length vc] := hL.below B0 lL
  have X0 : Loc w0 w.heap.size (r4 a b c d) := hw0 ▸ loc_at w _ _ rfl
  have q0 := L0.cell 0 rfl
  have q1 := L0.cell 1 rfl
  obtain ⟨x0, x1, x2, x3⟩ := X0.cells4
  clear hu hL
  go_enter Tryd.func29, Tryd.ntmps29
  go_wp2_with fail
  clear hw0 q0 q1 x0 x1 x2 x3
  refine (unhide PY _ ⟨(unhide RU).1.below B0 (Nat.le_refl _), (unhide RU).2.below B0 (Nat.le_refl _)⟩).mono ?_
  rintro _ w1 ⟨up, vp, rfl, ol, b1⟩
  have B1 := B0.trans (b1.mono B0.size)
  obtain ⟨pa, pc, rfl⟩ := ol.has.form
  obtain ⟨qa, qc, rfl⟩ := ol.next.form
  clear ol b1 L0 X0 PY RU
  by_cases h2 : r.2.2 = 2
  · have e := hide (decide_eq_false (fun h : ¬ r.2.2 = 2 => h h2))
    go_wp2
    go_ret
    exact ⟨by rw [unhide e]; rfl, B1.alloc B1.size _⟩
  · have e := hide (decide_eq_true h2)
    have h2' : (r.2.2 != 2) = true := by simpa using h2
    go_wp2
    go_ret
    exact ⟨by rw [unhide e]; rfl, B1.alloc B1.size _⟩
end Go.Proofs.YthdehhenkgkkmaaDoor

/- (impl.inOrder).pick with the functions of PoolTake and PoolDrop; impl.PoolTake, impl.PoolDrop. -/
namespace Go.Proofs.YthdehhenkgkkmaaDoor
open Go.RowKit
set_option linter.unusedSectionVars false
variable [∀ (a b c d : Int), Decidable (Ok4 a b c d)]
variable [∀ (m a b c d : Int), Decidable (In4 m a b c d)]
variable [∀ (xs ys : List Int), Decidable (LOk xs ys)]
variable [∀ (x y : T4), Decidable (Bef x y)]
variable [∀ (ts : List T4), Decidable (Asc ts)]
variable [∀ (ts : List T4), Decidable (AllOk ts)]
variable [∀ (ts : List T4), Decidable (POk ts)]
variable [∀ (r : List Int × List Int × Int), Decidable (Took r)]

abbrev payOf (p : List Int × List Int) (x : T4) : List Int × List Int × Int := payAns p.1 p.2 x.1 x.2.1 x.2.2.1 x.2.2.2
/-- One payment more that is looked at. -/
def takeStep (p : (List Int × List Int) × List T4) (x : T4) : (List Int × List Int) × List T4 :=
  if p.2.length = 2 then p else (((payOf p.1 x).1, (payOf p.1 x).2.1), if Took (payOf p.1 x) then p.2 ++ [x] else p.2)
def takeRun (xs ys : List Int) (ts : List T4) : (List Int × List Int) × List T4 := ts.foldl takeStep ((xs, ys), [])
/-- What PoolTake answers. -/
def takeAns (xs ys : List Int) (ts : List T4) : List T4 := (takeRun xs ys ts).2
theorem takeRun_succ (xs ys : List Int) (ts : List T4) (k : Nat) (h : k < ts.length) : takeRun xs ys (ts.take (k + 1)) = takeStep (takeRun xs ys (ts.take k)) (ts.getD k z4) := by
  unfold takeRun
  rw [List.take_succ_eq_append_getElem h, List.getD_eq_getElem?_getD, List.getElem?_eq_getElem h, List.foldl_append]
  rfl
theorem take_stays (ts : List T4) : ∀ p : (List Int × List Int) × List T4, p.2.length = 2 → ts.foldl takeStep p = p := by
  induction ts with
  | nil => intro p _; rfl
  | cons t ts ih =>
    intro p hp
    have e : takeStep p t = p := by unfold takeStep; rw [if_pos hp]
    rw [List.foldl_cons, e]
    exact ih p hp
theorem takeRun_full (xs ys : List Int) (ts : List T4) (k : Nat) (h : (takeRun xs ys (ts.take k)).2.length = 2) : takeRun xs ys ts = takeRun xs ys (ts.take k) := by
  conv => lhs; rw [← List.take_append_drop k ts]
  unfold takeRun at *
  rw [List.foldl_append]
  exact take_stays _ _ h
theorem takeRun_len (xs ys : List Int) (ts : List T4) (k : Nat) (h : k ≤ ts.length) : (takeRun xs ys (ts.take k)).1.1.length = xs.length ∧ (takeRun xs ys (ts.take k)).1.2.length = ys.length ∧ (takeRun xs ys (ts.take k)).2.length ≤ 2 := by
  induction k with
  | zero => simp [takeRun]
  | succ k ih =>
    obtain ⟨h1, h2, h3⟩ := ih (by omega)
    rw [takeRun_succ xs ys ts k (by omega)]
    unfold takeStep
    split
    · exact ⟨h1, h2, h3⟩
    · refine ⟨(payAns_len.1).trans h1, (payAns_len.2).trans h2, ?_⟩
      dsimp only
      split
      · rw [List.length_append]; simp; omega
      · exact h3
theorem takeAns_len (xs ys : List Int) (ts : List T4) : (takeAns xs ys ts).length ≤ 2 := by
  have := (takeRun_len xs ys ts ts.length (Nat.le_refl _)).2.2
  rwa [List.take_of_length_le (Nat.le_refl _)] at this
/-- What PoolDrop leaves. -/
def Stays (xs ys : List Int) (x : T4) : Prop := ¬ (payAns xs ys x.1 x.2.1 x.2.2.1 x.2.2.2).2.2 = 2
variable [∀ (xs ys : List Int) (x : T4), Decidable (Stays xs ys x)]
def dropAns (xs ys : List Int) (ts : List T4) : List T4 := ts.filter (fun x => decide (Stays xs ys x))
theorem dropAns_succ (xs ys : List Int) (ts : List T4) (k : Nat) (h : k < ts.length) : dropAns xs ys (ts.take (k + 1)) = dropAns xs ys (ts.take k) ++ (if Stays xs ys (ts.getD k z4) then [ts.getD k z4] else []) := by
  unfold dropAns
  rw [List.take_succ_eq_append_getElem h, List.getD_eq_getElem?_getD, List.getElem?_eq_getElem h, List.filter_append]
  congr 1
  simp [List.filter]
  by_cases hs : Stays xs ys ts[k] <;> simp [hs]
theorem dropAns_len (xs ys : List Int) (ts : List T4) : (dropAns xs ys ts).length ≤ ts.length := List.length_filter_le _ _
theorem RT.kp {w w' : World} {X : Nat → Prop} {v : Value} {xs : List T4} (h : RT w v xs) (k : Kp w w' X) (hv : ∀ j, v.ownBlock = some j → ¬ X j) : RT w' v xs := by
  obtain ⟨hl, ao, cap, rfl, h⟩ := h
  refine ⟨hl, ao, cap, rfl, ?_⟩
  rcases h with h | ⟨g, rfl, h⟩
  · exact .inl h
  · refine .inr ⟨g, rfl, fun j hj => ?_⟩
    obtain ⟨c0, c1, c2, c3⟩ := h j hj
    have := hv g rfl
    exact ⟨k.cell c0 this, k.cell c1 this, k.cell c2 this, k.cell c3 this⟩

set_option maxHeartbeats 8000000 in
set_option maxRecDepth 100000 in
theorem pick_take (v : Value) (ts : List T4) (lb : Nat) (u0 v0 : Value) (xs ys : List Int) (w : World) (h : RT w v ts) (hl : ts.length ≤ 4000000) (hv : v.ownBlock ≠ some lb) (hL : Loc w lb #[u0, v0]) (hu : RI w u0 xs ∧ RI w v0 ys) (hn0 : u0.ownBlock ≠ some lb ∧ v0.ownBlock ≠ some lb) :
    Calls Tryd.prog 26 #[.agg #[v, .func (.func 47) #[] #[]], .int .i64 2, .func (.func 27) #[] #[.pointer (some ⟨lb, 0, none⟩)]] w fun e w' => ∃ p, e = .returned p ∧ OT w' w.heap.size p (takeAns xs ys ts) ∧ Kp w w' (fun j => j = lb) := by
  obtain ⟨ao, ca, rfl⟩ := h.form
  have H := hide h
  have lL := hL.lt
  have RU := hide hu
  have hxl := hu.1.1
  have hyl := hu.2.1
  obtain ⟨n, hn⟩ : ∃ n, ts.length = n := ⟨_, rfl⟩
  have Hn := hide hn
  rw [hn] at hl H hv ⊢
  clear h hn hu
  obtain ⟨w0, hw0⟩ : ∃ w0, w.alloc (.cells #[.slice ao n ca, .func (.func 47) #[] #[]] 48) = w0 := ⟨_, rfl⟩
  have B0 : Below w.heap.size w w0 := hw0 ▸ (Below.refl _ _).alloc (Nat.le_refl _) _
  have I0 : Loc w0 w.heap.size #[.slice ao n ca, .func (.func 47) #[] #[]] := hw0 ▸ loc_at w _ _ rfl
  have q0 := I0.cell 0 rfl
  have L0 := hL.below B0 lL
  have HV : Hid (∀ j, (Value.slice ao n ca).ownBlock = some j → ¬ j = lb) := hide fun j hj e => hv (by rw [hj, e])
  go_enter Tryd.func26, Tryd.ntmps26
  go_wp2
  clear hw0 q0
  go_loopw [7, 13] (fun pv i wr => ∃ (k : Nat) (u v : Value), k ≤ n ∧ i = .int .i64 k ∧ OT wr w.heap.size pv (takeRun xs ys (ts.take k)).2 ∧ Loc wr lb #[u, v] ∧ RI wr u (takeRun xs ys (ts.take k)).1.1 ∧ RI wr v (takeRun xs ys (ts.take k)).1.2 ∧ ((∀ j, pv.ownBlock = some j → u.ownBlock ≠ some j) ∧ (∀ j, pv.ownBlock = some j → v.ownBlock ≠ some j)) ∧ (u.ownBlock ≠ some lb ∧ v.ownBlock ≠ some lb) ∧ w.heap.size ≤ wr.heap.size ∧ Kp w wr (fun j => j = lb)) (fun _ i _ => n - (intOf i).toNat)
  case atStart => exact ⟨0, u0, v0, Nat.zero_le _, rfl, World.ownsRow_nil _ _ _ _, L0, (unhide RU).1.below B0 (Nat.le_refl _), (unhide RU).2.below B0 (Nat.le_refl _), ⟨fun j hj => by simp [Value.ownBlock] at hj, fun j hj => by simp [Value.ownBlock] at hj⟩, hn0, B0.size, Below.kpOf B0 _⟩
  case round =>
    clear L0 B0 I0
    obtain ⟨k, u, v, hk, rfl, op, L, ru, rv, ⟨nu, nv⟩, ⟨mu, mv⟩, sr, kr⟩ := hrel
    have tp := World.ownsRow.lt op
    obtain ⟨pa, pc, rfl⟩ := op.form
    have LEN := takeRun_len xs ys ts k (by rw [unhide Hn]; exact hk)
    by_cases hlt : k < n
    · have HR := hide ((unhide H).kp kr (unhide HV))
      have SUC := hide (takeRun_succ xs ys ts k (by rw [unhide Hn]; exact hlt))
      have FUL := hide (takeRun_full xs ys ts k)
      obtain ⟨r, hr⟩ : ∃ r, takeRun xs ys (ts.take k) = r := ⟨_, rfl⟩
      rw [hr] at SUC FUL op ru rv LEN
      simp only [hr] at tp nu nv ⊢
      clear hr
      obtain ⟨g, rfl, hx⟩ := (unhide HR).at k (by rw [unhide Hn]; exact hlt)
      obtain ⟨x, hx0⟩ : ∃ x, ts.getD k z4 = x := ⟨_, rfl⟩
      rw [hx0] at SUC hx
      clear hx0
      obtain ⟨c0, c1, c2, c3⟩ := hx
      have FI := hide fun w h1 h2 => take_fits x lb u v r.1.1 r.1.2 w h1 h2
      have hp := payAns_len (xs := r.1.1) (ys := r.1.2) (a := x.1) (b := x.2.1) (c := x.2.2.1) (d := x.2.2.2)
      unfold takeStep payOf at SUC
      obtain ⟨xa, xb, xc, xd⟩ := x
      dsimp only at c0 c1 c2 c3 FI SUC hp
      obtain ⟨s, hs⟩ : ∃ s, payAns r.1.1 r.1.2 xa xb xc xd = s := ⟨_, rfl⟩
      rw [hs] at FI SUC hp
      have HS1 : Hid (s.1.length ≤ 4194304 ∧ s.2.1.length ≤ 4194304) := hide (by omega)
      clear hs hp
      by_cases h2 : r.2.length = 2
      · have e := hide (unhide FUL h2)
        have op := hide op
        clear FUL SUC FI HR LEN ru rv
        go_wp2
        clear h2
        go_ret
        exact ⟨_, rfl, by unfold takeAns; rw [unhide e]; exact (unhide op).below ((Below.refl _ _).alloc (Nat.le_refl _) _), (kr.trans (Below.kpOf ((Below.refl _ _).alloc (Nat.le_refl _) _) _))⟩
      · have h2' : ((r.2.length : Int) == 2) = false := by simp; omega
        have SUC := hide (show takeRun xs ys (ts.take (k + 1)) = ((s.1, s.2.1), if Took s then r.2 ++ [(xa, xb, xc, xd)] else r.2) by have := unhide SUC; rwa [if_neg h2] at this)
        have op := hide op
        obtain ⟨w1, hw1⟩ : ∃ y, wr.alloc (.cells #[.int .i64 xa, .int .i64 xb, .int .i64 xc, .int .i64 xd] 26) = y := ⟨_, rfl⟩
        have b1 : Below wr.heap.size wr w1 := hw1 ▸ (Below.refl _ _).alloc (Nat.le_refl _) _
        have z1 : w1.heap.size = wr.heap.size + 1 := by rw [← hw1]; simp
        have X1 : Loc w1 wr.heap.size #[.int .i64 xa, .int .i64 xb, .int .i64 xc, .int .i64 xd] := hw1 ▸ loc_at wr _ _ rfl
        have L1 := L.below b1 L.lt
        have ru1 := ru.below b1 (Nat.le_refl _)
        have rv1 := rv.below b1 (Nat.le_refl _)
        obtain ⟨x0, x1, x2, x3⟩ := X1.cells4
        clear FUL h2 HR ru rv
        go_wp2_with fail
        clear hw1 c0 c1 c2 c3 x0 x1 x2 x3
        refine (unhide FI _ L1 ⟨ru1, rv1⟩).mono ?_
        rintro _ w2 ⟨u2, v2, rfl, L2, ol2, k2⟩
        have z2 := k2.size
        have op2 := hide (((unhide op).below b1).kp k2 (fun j hj e => by have := tp j hj; omega))
        have X2 := X1.kp k2 (by omega)
        have kr2 : Kp w w2 (fun j => j = lb) := (kr.trans (Below.kpOf b1 _)).trans k2
        have t2 : ∀ j, u2.ownBlock = some j → w1.heap.size ≤ j ∧ j < w2.heap.size := World.ownsRow.lt ol2.has
        have t2' : ∀ j, v2.ownBlock = some j → w1.heap.size ≤ j ∧ j < w2.heap.size := World.ownsRow.lt ol2.next
        have ol2 := hide ol2
        have L2 := hide L2
        have kr2 := hide kr2
        obtain ⟨x0, x1, x2, x3⟩ := X2.cells4
        clear FI L1 ru1 rv1 X1 k2 op
        by_cases hT : Took s
        · rw [decide_eq_true hT]
          have SUC := hide (show takeRun xs ys (ts.take (k + 1)) = ((s.1, s.2.1), r.2 ++ [(xa, xb, xc, xd)]) by have := unhide SUC; rwa [if_pos hT] at this)
          obtain ⟨w3, hw3⟩ : ∃ y, w2.alloc (.cells #[.int .i64 xa, .int .i64 xb, .int .i64 xc, .int .i64 xd] 26) = y := ⟨_, rfl⟩
          have b3 : Below w2.heap.size w2 w3 := hw3 ▸ (Below.refl _ _).alloc (Nat.le_refl _) _
          have z3 := b3.size
          have P3 : Hid (PT w3 (.slice (some ⟨w2.heap.size, 0, none⟩) 1 1) [(xa, xb, xc, xd)]) := hide (hw3 ▸ OT.pt (base := 0) (World.ownsRow_lit w2 #[.int .i64 xa, .int .i64 xb, .int .i64 xc, .int .i64 xd] 1 (Nat.zero_le _) (by unfold maxLen; omega) rfl))
          have op3 := hide ((unhide op2).below b3)
          clear hT
          go_wp2_with (first | (at_builtin; refine append_piece rfl _ _ rfl w.heap.size (.slice pa r.2.length pc) (.slice (some ⟨w2.heap.size, 0, none⟩) 1 1) r.2 [(xa, xb, xc, xd)] rfl rfl (unhide op3) (unhide P3) (by simp; omega) (by omega) ?_; intro v4 w4 ho4 hg4 hb4; have O4 := hide ho4; have kp4 := hide (kp_grown hg4); have HB4 := hide hb4; clear ho4 hg4 hb4))
          clear hw3
          have k4 := unhide kp4
          have kr4 : Kp w w4 (fun j => j = lb) := ⟨k4.os.trans ((unhide kr2).trans (Below.kpOf b3 _)).os, k4.tape.trans ((unhide kr2).trans (Below.kpOf b3 _)).tape, k4.output.trans ((unhide kr2).trans (Below.kpOf b3 _)).output, Nat.le_trans ((unhide kr2).trans (Below.kpOf b3 _)).size k4.size, fun j hj hx => (k4.block j (by omega) (fun e => by have := tp j e; omega)).trans (((unhide kr2).trans (Below.kpOf b3 _)).block j hj hx)⟩
          have L4 := ((unhide L2).below b3 (by omega)).kp k4 (fun e => by have := tp _ e; omega)
          have ol4 := ((unhide ol2).below b3).kp k4 (fun j h1 h2 e => by have := tp _ e; omega)
          have z4 := k4.size
          have tb : ∀ j, v4.ownBlock = some j → j < wr.heap.size ∨ w3.heap.size ≤ j := fun j hj => by
            rcases unhide HB4 with e | e
            · rw [e] at hj; exact .inl (tp j hj).2
            · rw [e] at hj; cases hj; exact .inr (Nat.le_refl _)
          have SUC := hide (unhide SUC)
          go_roundw
          case rel =>
            refine ⟨k + 1, u2, v2, by omega, by go_num, ?_⟩
            rw [unhide SUC]
            exact ⟨unhide O4, L4, (ol4.ri (unhide HS1).1 (unhide HS1).2).1, (ol4.ri (unhide HS1).1 (unhide HS1).2).2, ⟨fun j hj e => by have := tb j hj; have := t2 j e; omega, fun j hj e => by have := tb j hj; have := t2' j e; omega⟩, ⟨fun e => by have := t2 _ e; omega, fun e => by have := t2' _ e; omega⟩, by omega, kr4⟩
          case measure => simp [intOf]; omega
        · rw [decide_eq_false hT]
          have SUC := hide (show takeRun xs ys (ts.take (k + 1)) = ((s.1, s.2.1), r.2) by have := unhide SUC; rwa [if_neg hT] at this)
          clear hT
          go_wp2
          go_roundw
          case rel =>
            refine ⟨k + 1, u2, v2, by omega, by go_num, ?_⟩
            rw [unhide SUC]
            exact ⟨unhide op2, unhide L2, ((unhide ol2).ri (unhide HS1).1 (unhide HS1).2).1, ((unhide ol2).ri (unhide HS1).1 (unhide HS1).2).2, ⟨fun j hj e => by have := tp j hj; have := t2 j e; omega, fun j hj e => by have := tp j hj; have := t2' j e; omega⟩, ⟨fun e => by have := t2 _ e; omega, fun e => by have := t2' _ e; omega⟩, by omega, unhide kr2⟩
          case measure => simp [intOf]; omega
    · have e1 : ts.take k = ts := List.take_of_length_le (by rw [unhide Hn]; omega)
      have e2 : Hid (takeRun xs ys ts = takeRun xs ys (ts.take k)) := hide (by rw [e1])
      have op := hide op
      clear ru rv LEN e1
      go_wp2
      go_ret
      exact ⟨_, rfl, by unfold takeAns; rw [unhide e2]; exact unhide op, kr⟩

set_option maxHeartbeats 8000000 in
set_option maxRecDepth 100000 in
theorem pick_drop (v : Value) (ts : List T4) (lb : Nat) (u0 v0 : Value) (xs ys : List Int) (w : World) (h : RT w v ts) (hl : ts.length ≤ 4000000) (hv : v.ownBlock ≠ some lb) (hL : Loc w lb #[u0, v0]) (hu : RI w u0 xs ∧ RI w v0 ys) (_hn0 : u0.ownBlock ≠ some lb ∧ v0.ownBlock ≠ some lb) :
    Calls Tryd.prog 26 #[.agg #[v, .func (.func 47) #[] #[]], .int .i64 ts.length, .func (.func 29) #[] #[.pointer (some ⟨lb, 0, none⟩)]] w fun e w' => ∃ p, e = .returned p ∧ OT w' w.heap.size p (dropAns xs ys ts) ∧ Kp w w' (fun j => j = lb) := by
  obtain ⟨ao, ca, rfl⟩ := h.form
  have H := hide h
  have lL := hL.lt
  have RU := hide hu
  have hxl := hu.1.1
  have hyl := hu.2.1
  obtain ⟨n, hn⟩ : ∃ n, ts.length = n := ⟨_, rfl⟩
  have Hn := hide hn
  rw [hn] at hl H hv ⊢
  clear h hn hu
  obtain ⟨w0, hw0⟩ : ∃ w0, w.alloc (.cells #[.slice ao n ca, .func (.func 47) #[] #[]] 48) = w0 := ⟨_, rfl⟩
  have B0 : Below w.heap.size w w0 := hw0 ▸ (Below.refl _ _).alloc (Nat.le_refl _) _
  have I0 : Loc w0 w.heap.size #[.slice ao n ca, .func (.func 47) #[] #[]] := hw0 ▸ loc_at w _ _ rfl
  have q0 := I0.cell 0 rfl
  have L0 := hL.below B0 lL
  have HV : Hid (∀ j, (Value.slice ao n ca).ownBlock = some j → ¬ j = lb) := hide fun j hj e => hv (by rw [hj, e])
  go_enter Tryd.func26, Tryd.ntmps26
  go_wp2
  clear hw0 q0
  go_loopw [7, 13] (fun pv i wr => ∃ (k : Nat), k ≤ n ∧ i = .int .i64 k ∧ OT wr w.heap.size pv (dropAns xs ys (ts.take k)) ∧ w.heap.size ≤ wr.heap.size ∧ Below w.heap.size w wr) (fun _ i _ => n - (intOf i).toNat)
  case atStart => exact ⟨0, Nat.zero_le _, rfl, World.ownsRow_nil _ _ _ _, B0.size, B0⟩
  case round =>
    clear L0 B0 I0
    obtain ⟨k, hk, rfl, op, sr, br⟩ := hrel
    have tp := World.ownsRow.lt op
    obtain ⟨pa, pc, rfl⟩ := op.form
    have LEN := dropAns_len xs ys (ts.take k)
    rw [List.length_take] at LEN
    by_cases hlt : k < n
    · have HR := hide ((unhide H).below br)
      have SUC := hide (dropAns_succ xs ys ts k (by rw [unhide Hn]; exact hlt))
      obtain ⟨r, hr⟩ : ∃ r, dropAns xs ys (ts.take k) = r := ⟨_, rfl⟩
      rw [hr] at SUC op LEN
      simp only [hr] at tp ⊢
      clear hr
      obtain ⟨g, rfl, hx⟩ := (unhide HR).at k (by rw [unhide Hn]; exact hlt)
      obtain ⟨x, hx0⟩ : ∃ x, ts.getD k z4 = x := ⟨_, rfl⟩
      rw [hx0] at SUC hx
      clear hx0
      obtain ⟨c0, c1, c2, c3⟩ := hx
      have FI := hide fun w h1 h2 => drop_fits x lb u0 v0 xs ys w h1 h2
      have SX : Hid (Stays xs ys x ↔ ¬ (payAns xs ys x.1 x.2.1 x.2.2.1 x.2.2.2).2.2 = 2) := hide Iff.rfl
      obtain ⟨xa, xb, xc, xd⟩ := x
      dsimp only at c0 c1 c2 c3 FI SX
      obtain ⟨s, hs⟩ : ∃ s, (payAns xs ys xa xb xc xd).2.2 = s := ⟨_, rfl⟩
      rw [hs] at FI SX
      clear hs
      have h2' : ((r.length : Int) == (n : Int)) = false := by simp; omega
      have op := hide op
      obtain ⟨w1, hw1⟩ : ∃ y, wr.alloc (.cells #[.int .i64 xa, .int .i64 xb, .int .i64 xc, .int .i64 xd] 26) = y := ⟨_, rfl⟩
      have b1 : Below wr.heap.size wr w1 := hw1 ▸ (Below.refl _ _).alloc (Nat.le_refl _) _
      have z1 : w1.heap.size = wr.heap.size + 1 := by rw [← hw1]; simp
      have X1 : Loc w1 wr.heap.size #[.int .i64 xa, .int .i64 xb, .int .i64 xc, .int .i64 xd] := hw1 ▸ loc_at wr _ _ rfl
      have B1 := br.trans (b1.mono br.size)
      obtain ⟨x0, x1, x2, x3⟩ := X1.cells4
      have HRL := hide LEN
      clear HR LEN
      go_wp2_with fail
      clear hw1 c0 c1 c2 c3 x0 x1 x2 x3
      refine (unhide FI _ (hL.below B1 lL) ⟨(unhide RU).1.below B1 (Nat.le_refl _), (unhide RU).2.below B1 (Nat.le_refl _)⟩).mono ?_
      rintro _ w2 ⟨rfl, b2⟩
      have z2 := b2.size
      have op2 := hide (((unhide op).below b1).below b2)
      have X2 := X1.below b2 (by omega)
      have B2 := B1.trans (b2.mono B1.size)
      obtain ⟨x0, x1, x2, x3⟩ := X2.cells4
      clear FI X1 b1 b2 op B1
      by_cases hT : ¬ s = 2
      · rw [decide_eq_true hT]
        have SUC := hide (show dropAns xs ys (ts.take (k + 1)) = r ++ [(xa, xb, xc, xd)] by have := unhide SUC; rwa [if_pos ((unhide SX).2 hT)] at this)
        obtain ⟨w3, hw3⟩ : ∃ y, w2.alloc (.cells #[.int .i64 xa, .int .i64 xb, .int .i64 xc, .int .i64 xd] 26) = y := ⟨_, rfl⟩
        have b3 : Below w2.heap.size w2 w3 := hw3 ▸ (Below.refl _ _).alloc (Nat.le_refl _) _
        have z3 := b3.size
        have B3 := hide (B2.trans (b3.mono B2.size))
        have P3 : Hid (PT w3 (.slice (some ⟨w2.heap.size, 0, none⟩) 1 1) [(xa, xb, xc, xd)]) := hide (hw3 ▸ OT.pt (base := 0) (World.ownsRow_lit w2 #[.int .i64 xa, .int .i64 xb, .int .i64 xc, .int .i64 xd] 1 (Nat.zero_le _) (by unfold maxLen; omega) rfl))
        have op3 := hide ((unhide op2).below b3)
        have hrl : r.length ≤ 4000000 := by have := unhide HRL; omega
        clear hT
        go_wp2_with (first | (at_builtin; refine append_piece rfl _ _ rfl w.heap.size (.slice pa r.length pc) (.slice (some ⟨w2.heap.size, 0, none⟩) 1 1) r [(xa, xb, xc, xd)] rfl rfl (unhide op3) (unhide P3) (by simp; omega) (by omega) ?_; intro v4 w4 ho4 hg4 _; have O4 := hide ho4; have B4 := hide ((unhide B3).grown hg4 (unhide B3).size (fun j hj => (tp j hj).1)); clear ho4 hg4))
        clear hw3
        have z4 := (unhide B4).size
        go_roundw
        case rel =>
          refine ⟨k + 1, by omega, by go_num, ?_⟩
          rw [unhide SUC]
          exact ⟨unhide O4, z4, unhide B4⟩
        case measure => simp [intOf]; omega
      · rw [decide_eq_false hT]
        have SUC := hide (show dropAns xs ys (ts.take (k + 1)) = r by have := unhide SUC; rwa [if_neg (fun h => hT ((unhide SX).1 h)), List.append_nil] at this)
        clear hT
        go_wp2
        go_roundw
        case rel =>
          refine ⟨k + 1, by omega, by go_num, ?_⟩
          rw [unhide SUC]
          exact ⟨unhide op2, B2.size, B2⟩
        case measure => simp [intOf]; omega
    · have e1 : ts.take k = ts := List.take_of_length_le (by rw [unhide Hn]; omega)
      have e2 : Hid (dropAns xs ys ts = dropAns xs ys (ts.take k)) := hide (by rw [e1])
      have op := hide op
      clear LEN e1
      go_wp2
      go_ret
      exact ⟨_, rfl, by rw [unhide e2]; exact unhide op, Below.kpOf br _⟩

set_option maxHeartbeats 1600000 in
set_option maxRecDepth 100000 in
theorem implPoolTake (v u0 v0 : Value) (ts : List T4) (xs ys : List Int) (w : World) (h : RT w v ts) (hl : ts.length ≤ 4000000) (hu : RI w u0 xs ∧ RI w v0 ys) (hv : ∀ j, v.ownBlock = some j → j < w.heap.size) (hu0 : ∀ j, u0.ownBlock = some j → j < w.heap.size) (hv0 : ∀ j, v0.ownBlock = some j → j < w.heap.size) :
    Calls Tryd.prog 9 #[v, lv u0 v0] w fun e w' => ∃ p, e = .returned p ∧ OT w' w.heap.size p (takeAns xs ys ts) ∧ Below w.heap.size w w' := by
  have H := hide h
  have RU := hide hu
  have PK := hide fun lb w h1 h2 h3 h4 h5 => pick_take v ts lb u0 v0 xs ys w h1 hl h2 h3 h4 h5
  obtain ⟨ao, ca, rfl⟩ := h.form
  obtain ⟨ua, uc, rfl⟩ := hu.1.form
  obtain ⟨va, vc, rfl⟩ := hu.2.form
  obtain ⟨w0, hw0⟩ : ∃ w0, w.alloc (.cells #[.slice ua xs.length uc, .slice va ys.length vc] 33) = w0 := ⟨_, rfl⟩
  have B0 : Below w.heap.size w w0 := hw0 ▸ (Below.refl _ _).alloc (Nat.le_refl _) _
  have L0 : Loc w0 w.heap.size #[.slice ua xs.length uc, .slice va ys.length vc] := hw0 ▸ loc_at w _ _ rfl
  have HV := hide hv
  have HU := hide hu0
  have HW := hide hv0
  clear h hu hv hu0 hv0
  go_enter Tryd.func9, Tryd.ntmps9
  go_wp2_with fail
  clear hw0
  refine (waiting_any _ _ _ _).mono ?_
  rintro _ w1 ⟨rfl, b1⟩
  have B1 := B0.trans (b1.mono B0.size)
  have L1 := L0.below b1 L0.lt
  go_wp2_with fail
  refine (unhide PK w.heap.size _ ((unhide H).below B1) (fun e => by have := unhide HV _ e; omega) L1 ⟨(unhide RU).1.below B1 (Nat.le_refl _), (unhide RU).2.below B1 (Nat.le_refl _)⟩ ⟨fun e => by have := unhide HU _ e; omega, fun e => by have := unhide HW _ e; omega⟩).mono ?_
  rintro _ w2 ⟨p, rfl, op, k2⟩
  have B2 := Below.kp B1 k2 B1.size (fun j e => by omega)
  have op := hide op
  go_wp2
  go_ret
  exact ⟨_, rfl, (unhide op).mono B1.size, B2⟩

set_option maxHeartbeats 1600000 in
set_option maxRecDepth 100000 in
theorem implPoolDrop (v u0 v0 : Value) (ts : List T4) (xs ys : List Int) (w : World) (h : RT w v ts) (hl : ts.length ≤ 4000000) (hu : RI w u0 xs ∧ RI w v0 ys) (hv : ∀ j, v.ownBlock = some j → j < w.heap.size) (hu0 : ∀ j, u0.ownBlock = some j → j < w.heap.size) (hv0 : ∀ j, v0.ownBlock = some j → j < w.heap.size) :
    Calls Tryd.prog 10 #[v, lv u0 v0] w fun e w' => ∃ p, e = .returned p ∧ OT w' w.heap.size p (dropAns xs ys ts) ∧ Below w.heap.size w w' := by
  have H := hide h
  have RU := hide hu
  have PK := hide fun lb w h1 h2 h3 h4 h5 => pick_drop v ts lb u0 v0 xs ys w h1 hl h2 h3 h4 h5
  obtain ⟨ao, ca, rfl⟩ := h.form
  obtain ⟨ua, uc, rfl⟩ := hu.1.form
  obtain ⟨va, vc, rfl⟩ := hu.2.form
  obtain ⟨w0, hw0⟩ : ∃ w0, w.alloc (.cells #[.slice ua xs.length uc, .slice va ys.length vc] 33) = w0 := ⟨_, rfl⟩
  have B0 : Below w.heap.size w w0 := hw0 ▸ (Below.refl _ _).alloc (Nat.le_refl _) _
  have L0 : Loc w0 w.heap.size #[.slice ua xs.length uc, .slice va ys.length vc] := hw0 ▸ loc_at w _ _ rfl
  have HV := hide hv
  have HU := hide hu0
  have HW := hide hv0
  clear h hu hv hu0 hv0
  go_enter Tryd.func10, Tryd.ntmps10
  go_wp2_with fail
  clear hw0
  refine (waiting_any _ _ _ _).mono ?_
  rintro _ w1 ⟨rfl, b1⟩
  have B1 := B0.trans (b1.mono B0.size)
  have L1 := L0.below b1 L0.lt
  go_wp2_with fail
  refine (unhide PK w.heap.size _ ((unhide H).below B1) (fun e => by have := unhide HV _ e; omega) L1 ⟨(unhide RU).1.below B1 (Nat.le_refl _), (unhide RU).2.below B1 (Nat.le_refl _)⟩ ⟨fun e => by have := unhide HU _ e; omega, fun e => by have := unhide HW _ e; omega⟩).mono ?_
  rintro _ w2 ⟨p, rfl, op, k2⟩
  have B2 := Below.kp B1 k2 B1.size (fun j e => by omega)
  have op := hide op
  go_wp2
  go_ret
  exact ⟨_, rfl, (unhide op).mono B1.size, B2⟩
end Go.Proofs.YthdehhenkgkkmaaDoor

/- spec.PoolTake, spec.PoolDrop. -/
namespace Go.Proofs.YthdehhenkgkkmaaDoor
open Go.RowKit
set_option linter.unusedSectionVars false
variable [∀ (a b c d : Int), Decidable (Ok4 a b c d)]
variable [∀ (m a b c d : Int), Decidable (In4 m a b c d)]
variable [∀ (xs ys : List Int), Decidable (LOk xs ys)]
variable [∀ (x y : T4), Decidable (Bef x y)]
variable [∀ (ts : List T4), Decidable (Asc ts)]
variable [∀ (ts : List T4), Decidable (AllOk ts)]
variable [∀ (ts : List T4), Decidable (POk ts)]
variable [∀ (r : List Int × List Int × Int), Decidable (Took r)]
variable [∀ (xs ys : List Int) (x : T4), Decidable (Stays xs ys x)]

theorem payAns_same (xs ys : List Int) (a b c d : Int) (h : ¬ Took (payAns xs ys a b c d)) : (payAns xs ys a b c d).1 = xs ∧ (payAns xs ys a b c d).2.1 = ys := by
  revert h
  unfold payAns paidB Took
  repeat' split
  all_goals simp

set_option maxHeartbeats 8000000 in
set_option maxRecDepth 100000 in
theorem specPoolTake (p0 u0 v0 : Value) (ts : List T4) (xs ys : List Int) (w : World) (h : RT w p0 ts) (hl : ts.length ≤ 4000000) (hu : RI w u0 xs ∧ RI w v0 ys) :
    Calls Tryd.prog 14 #[p0, lv u0 v0] w fun e w' => ∃ p, e = .returned p ∧ OT w' w.heap.size p (takeAns xs ys ts) ∧ Below w.heap.size w w' := by
  have LC := hide fun w h => l3Copy_any u0 v0 xs ys w h
  have H := hide h
  have RU := hide hu
  have hxl := hu.1.1
  have hyl := hu.2.1
  obtain ⟨ao, ca, rfl⟩ := h.form
  obtain ⟨ua, uc, rfl⟩ := hu.1.form
  obtain ⟨va, vc, rfl⟩ := hu.2.form
  obtain ⟨n, hn⟩ : ∃ n, ts.length = n := ⟨_, rfl⟩
  have Hn := hide hn
  rw [hn] at hl H ⊢
  clear h hn hu
  obtain ⟨w0, hw0⟩ : ∃ w0, (w.alloc (.cells #[.slice ua xs.length uc, .slice va ys.length vc] 33)).alloc (.cells #[] 26) = w0 := ⟨_, rfl⟩
  have B0 : Below w.heap.size w w0 := hw0 ▸ ((Below.refl _ _).alloc (Nat.le_refl _) _).alloc (by simp) _
  have L0 : Loc w0 w.heap.size #[.slice ua xs.length uc, .slice va ys.length vc] := hw0 ▸ (loc_at w _ _ rfl).alloc _
  have z0 : w0.heap.size = w.heap.size + 1 + 1 := by rw [← hw0]; simp
  have E0 : OT w0 w.heap.size (.slice (some ⟨w.heap.size + 1, 0, none⟩) 0 0) [] := by
    have := World.ownsRow_lit (base := w.heap.size) (e := 26) (size := 4) (w.alloc (.cells #[.slice ua xs.length uc, .slice va ys.length vc] 33)) #[] 0 (by simp) (by unfold maxLen; omega) rfl
    rw [hw0] at this
    have e : (w.alloc (.cells #[.slice ua xs.length uc, .slice va ys.length vc] 33)).heap.size = w.heap.size + 1 := by simp
    rw [e] at this
    exact this
  have q0 := L0.cell 0 rfl
  have q1 := L0.cell 1 rfl
  go_enter Tryd.func14, Tryd.ntmps14
  go_wp2_with fail
  clear hw0 q0 q1
  refine (unhide LC _ ⟨(unhide RU).1.below B0 (Nat.le_refl _), (unhide RU).2.below B0 (Nat.le_refl _)⟩).mono ?_
  rintro _ w1 ⟨u1, v1, rfl, ol, b1⟩
  have z1 := b1.size
  have B1 := B0.trans (b1.mono B0.size)
  have E1 := E0.below b1
  obtain ⟨pa1, pc1, rfl⟩ := ol.has.form
  obtain ⟨qa1, qc1, rfl⟩ := ol.next.form
  obtain ⟨nb, hnb⟩ : ∃ nb, w1.heap.size = nb := ⟨_, rfl⟩
  obtain ⟨w2, hw2⟩ : ∃ y, w1.alloc (.cells #[.slice pa1 xs.length pc1, .slice qa1 ys.length qc1] 33) = y := ⟨_, rfl⟩
  have B2 : Below w.heap.size w w2 := hw2 ▸ B1.alloc B1.size _
  have G2 : Loc w2 nb #[.slice pa1 xs.length pc1, .slice qa1 ys.length qc1] := hnb ▸ hw2 ▸ loc_at w1 _ _ rfl
  have E2 : OT w2 w.heap.size (.slice (some ⟨w.heap.size + 1, 0, none⟩) 0 0) [] := hw2 ▸ ot_alloc E1 _
  have ol2 : OL w2 w0.heap.size w1.heap.size (.slice pa1 xs.length pc1) (.slice qa1 ys.length qc1) xs ys := hw2 ▸ ol.alloc _
  have t1 : ∀ j, (Value.slice pa1 xs.length pc1).ownBlock = some j → w0.heap.size ≤ j ∧ j < nb := fun j hj => ⟨(World.ownsRow.lt ol2.has j hj).1, by rw [← hnb]; exact ol2.top j hj⟩
  have t1' : ∀ j, (Value.slice qa1 ys.length qc1).ownBlock = some j → w0.heap.size ≤ j ∧ j < nb := fun j hj => ⟨(World.ownsRow.lt ol2.next j hj).1, by rw [← hnb]; exact ol2.top' j hj⟩
  have z2 : w2.heap.size = nb + 1 := by rw [← hw2, ← hnb]; simp
  have wnb : w.heap.size + 1 < nb := by omega
  have R2 := ol2.ri hxl hyl
  replace hnb := hide hnb
  clear ol b1 E0 E1 L0 B0 B1 LC
  go_wp2
  rw [unhide hnb]
  clear hw2
  go_loopw [5, 7] (fun ov i wr => ∃ (k : Nat) (u v : Value), k ≤ n ∧ i = .int .i64 k ∧ OT wr w.heap.size ov (takeRun xs ys (ts.take k)).2 ∧ Loc wr nb #[u, v] ∧ RI wr u (takeRun xs ys (ts.take k)).1.1 ∧ RI wr v (takeRun xs ys (ts.take k)).1.2 ∧ ((∀ j, ov.ownBlock = some j → u.ownBlock ≠ some j) ∧ (∀ j, ov.ownBlock = some j → v.ownBlock ≠ some j)) ∧ (∀ j, ov.ownBlock = some j → j ≠ nb) ∧ (u.ownBlock ≠ some nb ∧ v.ownBlock ≠ some nb) ∧ nb < wr.heap.size ∧ Below w.heap.size w wr) (fun _ i _ => n - (intOf i).toNat)
  case atStart => exact ⟨0, _, _, Nat.zero_le _, rfl, E2, G2, R2.1, R2.2, ⟨fun j hj e => by simp [Value.ownBlock] at hj; have := t1 j e; omega, fun j hj e => by simp [Value.ownBlock] at hj; have := t1' j e; omega⟩, fun j hj => by simp [Value.ownBlock] at hj; omega, ⟨fun e => by have := t1 _ e; omega, fun e => by have := t1' _ e; omega⟩, by omega, B2⟩
  case round =>
    clear E2 G2 R2 B2 t1 t1' ol2
    obtain ⟨k, u, v, hk, rfl, op, G, ru, rv, ⟨nu, nv⟩, np, ⟨mu, mv⟩, lnb, B⟩ := hrel
    have tp := World.ownsRow.lt op
    obtain ⟨pa, pc, rfl⟩ := op.form
    have LEN := takeRun_len xs ys ts k (by rw [unhide Hn]; exact hk)
    by_cases hlt : k < n
    · have HR := hide ((unhide H).below B)
      have SUC := hide (takeRun_succ xs ys ts k (by rw [unhide Hn]; exact hlt))
      have FUL := hide (takeRun_full xs ys ts k)
      obtain ⟨r, hr⟩ : ∃ r, takeRun xs ys (ts.take k) = r := ⟨_, rfl⟩
      rw [hr] at SUC FUL op ru rv LEN
      simp only [hr] at tp nu nv np ⊢
      clear hr
      obtain ⟨g, rfl, hx⟩ := (unhide HR).at k (by rw [unhide Hn]; exact hlt)
      obtain ⟨x, hx0⟩ : ∃ x, ts.getD k z4 = x := ⟨_, rfl⟩
      rw [hx0] at SUC hx
      clear hx0
      by_cases h2 : r.2.length = 2
      · have e := hide (unhide FUL h2)
        have op := hide op
        clear FUL SUC HR LEN ru rv hx
        go_wp2
        clear h2
        go_ret
        exact ⟨_, rfl, by unfold takeAns; rw [unhide e]; exact unhide op, B⟩
      · have h2' : decide ((r.2.length : Int) < 2) = true := by simp; omega
        have SP := hide fun w h => specPay u v x.1 x.2.1 x.2.2.1 x.2.2.2 r.1.1 r.1.2 w h
        have SAME := hide fun h => payAns_same r.1.1 r.1.2 x.1 x.2.1 x.2.2.1 x.2.2.2 h
        have hp := payAns_len (xs := r.1.1) (ys := r.1.2) (a := x.1) (b := x.2.1) (c := x.2.2.1) (d := x.2.2.2)
        unfold takeStep payOf at SUC
        have HX := hide fun w' (hb : Below wr.heap.size wr w') => hx.below hb (Nat.le_refl _)
        obtain ⟨xa, xb, xc, xd⟩ := x
        dsimp only at SP SAME SUC hp
        obtain ⟨s, hs⟩ : ∃ s, payAns r.1.1 r.1.2 xa xb xc xd = s := ⟨_, rfl⟩
        rw [hs] at SP SUC SAME hp
        have HS1 : Hid (s.1.length ≤ 4194304 ∧ s.2.1.length ≤ 4194304) := hide (by omega)
        clear hs hp
        have SUC := hide (show takeRun xs ys (ts.take (k + 1)) = ((s.1, s.2.1), if Took s then r.2 ++ [(xa, xb, xc, xd)] else r.2) by have := unhide SUC; rwa [if_neg h2] at this)
        have op := hide op
        have RX : Hid (∀ w', Below wr.heap.size wr w' → RI w' u r.1.1 ∧ RI w' v r.1.2) := hide fun w' hb => ⟨ru.below hb (Nat.le_refl _), rv.below hb (Nat.le_refl _)⟩
        obtain ⟨fa, fc, rfl⟩ := ru.form
        obtain ⟨ha, hc, rfl⟩ := rv.form
        have K : Hid (∀ w', Below wr.heap.size wr w' → (w'.cell? ⟨nb, 0, none⟩ = some (.slice fa r.1.1.length fc) ∧ w'.cell? ⟨nb, 1, none⟩ = some (.slice ha r.1.2.length hc)) ∧ (w'.cell? ⟨g, k * 4, none⟩ = some (.int .i64 xa) ∧ w'.cell? ⟨g, k * 4 + 1, none⟩ = some (.int .i64 xb) ∧ w'.cell? ⟨g, k * 4 + 2, none⟩ = some (.int .i64 xc) ∧ w'.cell? ⟨g, k * 4 + 3, none⟩ = some (.int .i64 xd))) := hide fun w' hb => by
          have l := G.below hb G.lt
          exact ⟨⟨l.cell 0 rfl, l.cell 1 rfl⟩, unhide HX w' hb⟩
        have hr2 : r.2.length ≤ 2 := LEN.2.2
        clear FUL h2 HR hx LEN
        go_wp2_with fail
        refine wp_region_noPanic ?_
        refine wp_region_held_drew (S := (fun w' => (w'.cell? ⟨nb, 0, none⟩ = some (.slice fa r.1.1.length fc) ∧ w'.cell? ⟨nb, 1, none⟩ = some (.slice ha r.1.2.length hc)) ∧ (w'.cell? ⟨g, k * 4, none⟩ = some (.int .i64 xa) ∧ w'.cell? ⟨g, k * 4 + 1, none⟩ = some (.int .i64 xb) ∧ w'.cell? ⟨g, k * 4 + 2, none⟩ = some (.int .i64 xc) ∧ w'.cell? ⟨g, k * 4 + 3, none⟩ = some (.int .i64 xd)))) (by kernel_rfl) (unhide K _ (Below.drew (Below.refl _ _))) (fun hHeld => ?_)
        obtain ⟨wd, hd⟩ : ∃ wd, wr.drew = wd := ⟨_, rfl⟩
        have bd : Below wr.heap.size wr wd := hd ▸ Below.drew (Below.refl _ _)
        have szd := bd.size
        rw [hd] at hHeld ⊢
        clear hd
        refine take_at (i := 0) (d := 25) (v := ?_) rfl rfl (by kernel_rfl) (by kernel_rfl) (by kernel_rfl) (fun _ _ _ h => h) (Or.inl ⟨by rfl, ?_⟩) (by assumption) ?_
        rotate_left
        · intro w hSw
          try dsimp only at hSw
          go_simp
          try with_reducible rfl
        simp only [Act.put, List.setIfInBounds_toArray, List.set_cons_zero, List.set_cons_succ]
        refine take_at (i := 1) (d := 26) (v := ?_) rfl rfl (by kernel_rfl) (by kernel_rfl) (by kernel_rfl) (fun _ _ _ h => h) (Or.inl ⟨by rfl, ?_⟩) (by assumption) ?_
        rotate_left
        · intro w hSw
          try dsimp only at hSw
          go_simp
          try with_reducible rfl
        simp only [Act.put, List.setIfInBounds_toArray, List.set_cons_zero, List.set_cons_succ]
        refine take_at (i := 2) (d := 27) (v := ?_) rfl rfl (by kernel_rfl) (by kernel_rfl) (by kernel_rfl) (fun _ _ _ h => h) (Or.inl ⟨by rfl, ?_⟩) (by assumption) ?_
        rotate_left
        · intro w hSw
          try dsimp only at hSw
          go_simp
          try with_reducible rfl
        simp only [Act.put, List.setIfInBounds_toArray, List.set_cons_zero, List.set_cons_succ]
        refine take_at (i := 3) (d := 28) (v := ?_) rfl rfl (by kernel_rfl) (by kernel_rfl) (by kernel_rfl) (fun _ _ _ h => h) (Or.inl ⟨by rfl, ?_⟩) (by assumption) ?_
        rotate_left
        · intro w hSw
          try dsimp only at hSw
          go_simp
          try with_reducible rfl
        simp only [Act.put, List.setIfInBounds_toArray, List.set_cons_zero, List.set_cons_succ]
        refine take_at (i := 4) (d := 29) (v := ?_) rfl rfl (by kernel_rfl) (by kernel_rfl) (by kernel_rfl) (fun _ _ _ h => h) (Or.inl ⟨by rfl, ?_⟩) (by assumption) ?_
        rotate_left
        · intro w hSw
          try dsimp only at hSw
          go_simp
          try with_reducible rfl
        simp only [Act.put, List.setIfInBounds_toArray, List.set_cons_zero, List.set_cons_succ]
        refine wpAnyH_ready (rs := [5, 9]) (by kernel_rfl) (by simp) (AllReadyH.cons rfl (fun KK hKK => ?_) (AllReadyH.cons rfl (fun KK hKK => ?_) AllReadyH.nil))
        · go_simp
          refine (unhide SP _ (unhide RX _ bd)).mono ?_
          rintro _ wc1 ⟨up, vp, rfl, olp, bnew⟩
          obtain ⟨pa2, pc2, rfl⟩ := olp.has.form
          obtain ⟨qa2, qc2, rfl⟩ := olp.next.form
          have cbc2 := bnew
          have bc2 : Below wr.heap.size wr wc1 := bd.trans (bnew.mono bd.size)
          have zzwc1 := bnew.size
          clear hHeld bnew
          refine hKK.out _ _ (unhide K _ bc2) (fun hHeld => ?_)
          clear hKK KK
          refine take_at (i := 6) (d := 24) (v := ?_) rfl rfl (by kernel_rfl) (by kernel_rfl) (by kernel_rfl) (fun _ _ _ h => h) (Or.inl ⟨by rfl, ?_⟩) (by assumption) ?_
          rotate_left
          · intro w hSw
            try dsimp only at hSw
            go_simp
            try with_reducible rfl
          simp only [Act.put, List.setIfInBounds_toArray, List.set_cons_zero, List.set_cons_succ]
          refine take_at (i := 7) (d := 31) (v := ?_) rfl rfl (by kernel_rfl) (by kernel_rfl) (by kernel_rfl) (fun _ _ _ h => h) (Or.inl ⟨by rfl, ?_⟩) (by assumption) ?_
          rotate_left
          · intro w hSw
            try dsimp only at hSw
            go_simp
            try with_reducible rfl
          simp only [Act.put, List.setIfInBounds_toArray, List.set_cons_zero, List.set_cons_succ]
          refine take_at (i := 8) (d := 32) (v := ?_) rfl rfl (by kernel_rfl) (by kernel_rfl) (by kernel_rfl) (fun _ _ _ h => h) (Or.inl ⟨by rfl, ?_⟩) (by assumption) ?_
          rotate_left
          · intro w hSw
            try dsimp only at hSw
            go_simp
            try with_reducible rfl
          simp only [Act.put, List.setIfInBounds_toArray, List.set_cons_zero, List.set_cons_succ]
          refine ready_at (i := 9) rfl (by kernel_rfl) (fun KK hKK => ?_)
          go_simp
          obtain ⟨wl5, hwl5⟩ : ∃ x, wc1.alloc (.cells #[.slice none 0 0, .slice none 0 0] 33) = x := ⟨_, rfl⟩
          have cbl6 : Below wc1.heap.size wc1 wl5 := hwl5 ▸ (Below.refl _ _).alloc (Nat.le_refl _) _
          have bl6 : Below wr.heap.size wr wl5 := bc2.trans (cbl6.mono bc2.size)
          have zzwl5 : wc1.heap.size < wl5.heap.size := by rw [← hwl5]; simp
          have lg : Loc wl5 wc1.heap.size #[.slice none 0 0, .slice none 0 0] := hwl5 ▸ loc_at wc1 _ _ rfl
          have olp := olp.below cbl6
          rw [hwl5]
          clear hHeld hwl5
          refine hKK.out _ _ (unhide K _ bl6) (fun hHeld => ?_)
          clear hKK KK
          have q0 := lg.cell 0 rfl
          have q1 := lg.cell 1 rfl
          have FG := lg.frozen
          refine ready_at (i := 10) rfl (by kernel_rfl) (fun KK hKK => ?_)
          go_simp
          have bs : Below wr.heap.size wr ((wl5.setCell ⟨wc1.heap.size, 0, none⟩ (.slice pa2 s.1.length pc2)).setCell ⟨wc1.heap.size, 1, none⟩ (.slice qa2 s.2.1.length qc2)) := Below.set (Below.set bl6 _ _ (by omega)) _ _ (by omega)
          clear hHeld
          refine hKK.out _ _ (unhide K _ bs) (fun hHeld => ?_)
          clear hKK KK
          refine take_at (i := 11) (d := 9) (v := ?_) rfl rfl (by kernel_rfl) (by kernel_rfl) (by kernel_rfl) (fun _ _ _ h => h) (Or.inl ⟨by rfl, ?_⟩) (by assumption) ?_
          rotate_left
          · intro w hSw
            try dsimp only at hSw
            go_simp
            try with_reducible rfl
          simp only [Act.put, List.setIfInBounds_toArray, List.set_cons_zero, List.set_cons_succ]
          clear hHeld
          refine wpAnyH_done (by kernel_rfl) ?_ _
          refine NoPanic.normal ?_
          have kk : Kp wl5 ((wl5.setCell ⟨wc1.heap.size, 0, none⟩ (.slice pa2 s.1.length pc2)).setCell ⟨wc1.heap.size, 1, none⟩ (.slice qa2 s.2.1.length qc2)) (fun k => k = wc1.heap.size) := (set_kp wl5 _ 0 _).trans (set_kp _ _ 1 _)
          have N5 : Loc ((wl5.setCell ⟨wc1.heap.size, 0, none⟩ (.slice pa2 s.1.length pc2)).setCell ⟨wc1.heap.size, 1, none⟩ (.slice qa2 s.2.1.length qc2)) wc1.heap.size #[(Value.slice pa2 s.1.length pc2), (Value.slice qa2 s.2.1.length qc2)] := (lg.set 0 _ rfl).set 1 _ rfl
          have P5 := olp.kp kk (fun k h1 h2 e => by omega)
          obtain ⟨w5, hw5⟩ : ∃ x, ((wl5.setCell ⟨wc1.heap.size, 0, none⟩ (.slice pa2 s.1.length pc2)).setCell ⟨wc1.heap.size, 1, none⟩ (.slice qa2 s.2.1.length qc2)) = x := ⟨_, rfl⟩
          rw [hw5] at N5 P5 bs ⊢
          have tu : ∀ j, (Value.slice pa2 s.1.length pc2).ownBlock = some j → wr.heap.size ≤ j ∧ j < w5.heap.size := fun j hj => by have := World.ownsRow.lt P5.has j hj; omega
          have tv : ∀ j, (Value.slice qa2 s.2.1.length qc2).ownBlock = some j → wr.heap.size ≤ j ∧ j < w5.heap.size := fun j hj => by have := World.ownsRow.lt P5.next j hj; omega
          have G5 := G.below bs G.lt
          have B5 := B.trans (bs.mono B.size)
          have O5 := (unhide op).below bs
          have sz5 := bs.size
          have ru5 := ru.below bs (Nat.le_refl _)
          have rv5 := rv.below bs (Nat.le_refl _)
          have Q5 := hide (P5.ri (unhide HS1).1 (unhide HS1).2)
          have gg : wc1.heap.size ≠ nb := by omega
          have gw : wr.heap.size ≤ wc1.heap.size := by omega
          clear hw5 kk lg q0 q1 FG
          by_cases hT : Took s
          · have SUC := hide (show takeRun xs ys (ts.take (k + 1)) = ((s.1, s.2.1), r.2 ++ [(xa, xb, xc, xd)]) by have := unhide SUC; rwa [if_pos hT] at this)
            obtain ⟨w6, hw6⟩ : ∃ y, w5.alloc (.cells #[.int .i64 xa, .int .i64 xb, .int .i64 xc, .int .i64 xd] 26) = y := ⟨_, rfl⟩
            have b6 : Below w5.heap.size w5 w6 := hw6 ▸ (Below.refl _ _).alloc (Nat.le_refl _) _
            have z6 : w6.heap.size = w5.heap.size + 1 := by rw [← hw6]; simp
            have P6 : Hid (PT w6 (.slice (some ⟨w5.heap.size, 0, none⟩) 1 1) [(xa, xb, xc, xd)]) := hide (hw6 ▸ OT.pt (base := 0) (World.ownsRow_lit w5 #[.int .i64 xa, .int .i64 xb, .int .i64 xc, .int .i64 xd] 1 (Nat.zero_le _) (by unfold maxLen; omega) rfl))
            have O6 := hide (O5.below b6)
            have N6 := hide (N5.below b6 N5.lt)
            have G6 := hide (G5.below b6 G5.lt)
            have B6 := hide (B5.trans (b6.mono B5.size))
            have Q6 := hide (show RI w6 (Value.slice pa2 s.1.length pc2) s.1 ∧ RI w6 (Value.slice qa2 s.2.1.length qc2) s.2.1 from ⟨(unhide Q5).1.below b6 (Nat.le_refl _), (unhide Q5).2.below b6 (Nat.le_refl _)⟩)
            obtain ⟨c0, c1, c2, c3⟩ := (unhide HX w5 bs)
            clear G5 N5 O5 Q5 P5 B5 ru5 rv5 bs ru rv
            rcases hT with h0 | h4
            · have hcode := h0
              go_wp2_with (first | (at_builtin; refine append_piece rfl _ _ rfl w.heap.size (.slice pa r.2.length pc) (.slice (some ⟨w5.heap.size, 0, none⟩) 1 1) r.2 [(xa, xb, xc, xd)] rfl rfl (unhide O6) (unhide P6) (by simp; omega) (by omega) ?_; intro v7 w7 ho7 hg7 hb7; have k7 := kp_grown hg7; have O7 := hide ho7; have HB7 := hide hb7; have N7 := (unhide N6).kp k7 (fun e => by have := tp _ e; omega); have G7 := (unhide G6).kp k7 (fun e => by have := np _ e; omega); have Q7 := hide (show RI w7 (Value.slice pa2 s.1.length pc2) s.1 ∧ RI w7 (Value.slice qa2 s.2.1.length qc2) s.2.1 from ⟨(unhide Q6).1.kp k7 (fun j hj e => by have := tu j hj; have := tp _ e; omega), (unhide Q6).2.kp k7 (fun j hj e => by have := tv j hj; have := tp _ e; omega)⟩); have B7 := hide (Below.kp (unhide B6) k7 (unhide B6).size (fun j e => (tp j e).1)); have z7 := k7.size; have n0 := N7.cell 0 rfl; have n1 := N7.cell 1 rfl; have m0 := G7.cell 0 rfl; have m1 := G7.cell 1 rfl; have FG := G7.frozen; have G7 := hide G7; clear ho7 hg7 hb7 k7 N6 G6 Q6 B6 O6 P6 hw6; obtain ⟨w8, hw8⟩ : ∃ y, (w7.setCell ⟨nb, 0, none⟩ (Value.slice pa2 s.1.length pc2)).setCell ⟨nb, 1, none⟩ (Value.slice qa2 s.2.1.length qc2) = y := ⟨_, rfl⟩))
              have k8 : Kp w7 w8 (fun j => j = nb) := hw8 ▸ (set_kp w7 _ 0 _).trans (set_kp _ _ 1 _)
              have G8 : Loc w8 nb #[(Value.slice pa2 s.1.length pc2), (Value.slice qa2 s.2.1.length qc2)] := hw8 ▸ ((unhide G7).set 0 _ rfl).set 1 _ rfl
              have tb : ∀ j, v7.ownBlock = some j → j < wr.heap.size ∨ w6.heap.size ≤ j := fun j hj => by
                rcases unhide HB7 with e | e
                · rw [e] at hj; exact .inl (tp j hj).2
                · rw [e] at hj; cases hj; exact .inr (Nat.le_refl _)
              have nb7 : ∀ j, v7.ownBlock = some j → j ≠ nb := fun j hj => by
                rcases unhide HB7 with e | e
                · rw [e] at hj; exact np j hj
                · rw [e] at hj; cases hj; omega
              have Q8 : RI w8 (Value.slice pa2 s.1.length pc2) s.1 ∧ RI w8 (Value.slice qa2 s.2.1.length qc2) s.2.1 := ⟨(unhide Q7).1.kp k8 (fun j hj e => by have := tu j hj; omega), (unhide Q7).2.kp k8 (fun j hj e => by have := tv j hj; omega)⟩
              have O8 := (unhide O7).kp k8 (fun j hj e => nb7 j hj e)
              have B8 := Below.kp (unhide B7) k8 (unhide B7).size (fun j e => by omega)
              have z8 := k8.size
              clear hw8
              go_roundw
              case rel =>
                refine ⟨k + 1, (Value.slice pa2 s.1.length pc2), (Value.slice qa2 s.2.1.length qc2), by omega, by go_num, ?_⟩
                rw [unhide SUC]
                exact ⟨O8, G8, Q8.1, Q8.2, ⟨fun j hj e => by have := tb j hj; have := tu j e; omega, fun j hj e => by have := tb j hj; have := tv j e; omega⟩, nb7, ⟨fun e => by have := tu _ e; omega, fun e => by have := tv _ e; omega⟩, by omega, B8⟩
              case measure => simp [intOf]; omega
            · have hcode := h4
              have hcode0 : (s.2.2 == 0) = false := by simp [h4]
              go_wp2_with (first | (at_builtin; refine append_piece rfl _ _ rfl w.heap.size (.slice pa r.2.length pc) (.slice (some ⟨w5.heap.size, 0, none⟩) 1 1) r.2 [(xa, xb, xc, xd)] rfl rfl (unhide O6) (unhide P6) (by simp; omega) (by omega) ?_; intro v7 w7 ho7 hg7 hb7; have k7 := kp_grown hg7; have O7 := hide ho7; have HB7 := hide hb7; have N7 := (unhide N6).kp k7 (fun e => by have := tp _ e; omega); have G7 := (unhide G6).kp k7 (fun e => by have := np _ e; omega); have Q7 := hide (show RI w7 (Value.slice pa2 s.1.length pc2) s.1 ∧ RI w7 (Value.slice qa2 s.2.1.length qc2) s.2.1 from ⟨(unhide Q6).1.kp k7 (fun j hj e => by have := tu j hj; have := tp _ e; omega), (unhide Q6).2.kp k7 (fun j hj e => by have := tv j hj; have := tp _ e; omega)⟩); have B7 := hide (Below.kp (unhide B6) k7 (unhide B6).size (fun j e => (tp j e).1)); have z7 := k7.size; have n0 := N7.cell 0 rfl; have n1 := N7.cell 1 rfl; have m0 := G7.cell 0 rfl; have m1 := G7.cell 1 rfl; have FG := G7.frozen; have G7 := hide G7; clear ho7 hg7 hb7 k7 N6 G6 Q6 B6 O6 P6 hw6; obtain ⟨w8, hw8⟩ : ∃ y, (w7.setCell ⟨nb, 0, none⟩ (Value.slice pa2 s.1.length pc2)).setCell ⟨nb, 1, none⟩ (Value.slice qa2 s.2.1.length qc2) = y := ⟨_, rfl⟩))
              have k8 : Kp w7 w8 (fun j => j = nb) := hw8 ▸ (set_kp w7 _ 0 _).trans (set_kp _ _ 1 _)
              have G8 : Loc w8 nb #[(Value.slice pa2 s.1.length pc2), (Value.slice qa2 s.2.1.length qc2)] := hw8 ▸ ((unhide G7).set 0 _ rfl).set 1 _ rfl
              have tb : ∀ j, v7.ownBlock = some j → j < wr.heap.size ∨ w6.heap.size ≤ j := fun j hj => by
                rcases unhide HB7 with e | e
                · rw [e] at hj; exact .inl (tp j hj).2
                · rw [e] at hj; cases hj; exact .inr (Nat.le_refl _)
              have nb7 : ∀ j, v7.ownBlock = some j → j ≠ nb := fun j hj => by
                rcases unhide HB7 with e | e
                · rw [e] at hj; exact np j hj
                · rw [e] at hj; cases hj; omega
              have Q8 : RI w8 (Value.slice pa2 s.1.length pc2) s.1 ∧ RI w8 (Value.slice qa2 s.2.1.length qc2) s.2.1 := ⟨(unhide Q7).1.kp k8 (fun j hj e => by have := tu j hj; omega), (unhide Q7).2.kp k8 (fun j hj e => by have := tv j hj; omega)⟩
              have O8 := (unhide O7).kp k8 (fun j hj e => nb7 j hj e)
              have B8 := Below.kp (unhide B7) k8 (unhide B7).size (fun j e => by omega)
              have z8 := k8.size
              clear hw8
              go_roundw
              case rel =>
                refine ⟨k + 1, (Value.slice pa2 s.1.length pc2), (Value.slice qa2 s.2.1.length qc2), by omega, by go_num, ?_⟩
                rw [unhide SUC]
                exact ⟨O8, G8, Q8.1, Q8.2, ⟨fun j hj e => by have := tb j hj; have := tu j e; omega, fun j hj e => by have := tb j hj; have := tv j e; omega⟩, nb7, ⟨fun e => by have := tu _ e; omega, fun e => by have := tv _ e; omega⟩, by omega, B8⟩
              case measure => simp [intOf]; omega
          · have h0 : (s.2.2 == 0) = false := by simpa using fun h => hT (Or.inl h)
            have h4 : (s.2.2 == 4) = false := by simpa using fun h => hT (Or.inr h)
            have SUC := hide (show takeRun xs ys (ts.take (k + 1)) = ((r.1.1, r.1.2), r.2) by have := unhide SUC; rw [if_neg hT, (unhide SAME hT).1, (unhide SAME hT).2] at this; exact this)
            have O5 := hide O5
            have ru5 := hide ru5
            have rv5 := hide rv5
            clear hT P5 Q5 N5 ru rv
            go_wp2
            go_roundw
            case rel =>
              refine ⟨k + 1, (.slice fa r.1.1.length fc), (.slice ha r.1.2.length hc), by omega, by go_num, ?_⟩
              rw [unhide SUC]
              exact ⟨unhide O5, G5, unhide ru5, unhide rv5, ⟨nu, nv⟩, np, ⟨mu, mv⟩, by omega, B5⟩
            case measure => simp [intOf]; omega
        · go_simp
          obtain ⟨wl3, hwl3⟩ : ∃ x, wd.alloc (.cells #[.slice none 0 0, .slice none 0 0] 33) = x := ⟨_, rfl⟩
          have cbl4 : Below wd.heap.size wd wl3 := hwl3 ▸ (Below.refl _ _).alloc (Nat.le_refl _) _
          have bl4 : Below wr.heap.size wr wl3 := bd.trans (cbl4.mono bd.size)
          have zzwl3 : wd.heap.size < wl3.heap.size := by rw [← hwl3]; simp
          have lg : Loc wl3 wd.heap.size #[.slice none 0 0, .slice none 0 0] := hwl3 ▸ loc_at wd _ _ rfl
          rw [hwl3]
          clear hHeld hwl3
          refine hKK.out _ _ (unhide K _ bl4) (fun hHeld => ?_)
          clear hKK KK
          refine ready_at (i := 5) rfl (by kernel_rfl) (fun KK hKK => ?_)
          go_simp
          refine (unhide SP _ (unhide RX _ bl4)).mono ?_
          rintro _ wc7 ⟨up, vp, rfl, olp, bnew⟩
          obtain ⟨pa2, pc2, rfl⟩ := olp.has.form
          obtain ⟨qa2, qc2, rfl⟩ := olp.next.form
          have cbc8 := bnew
          have bc8 : Below wr.heap.size wr wc7 := bl4.trans (bnew.mono bl4.size)
          have zzwc7 := bnew.size
          have lg := lg.below bnew lg.lt
          clear hHeld bnew
          refine hKK.out _ _ (unhide K _ bc8) (fun hHeld => ?_)
          clear hKK KK
          refine take_at (i := 6) (d := 24) (v := ?_) rfl rfl (by kernel_rfl) (by kernel_rfl) (by kernel_rfl) (fun _ _ _ h => h) (Or.inl ⟨by rfl, ?_⟩) (by assumption) ?_
          rotate_left
          · intro w hSw
            try dsimp only at hSw
            go_simp
            try with_reducible rfl
          simp only [Act.put, List.setIfInBounds_toArray, List.set_cons_zero, List.set_cons_succ]
          refine take_at (i := 7) (d := 31) (v := ?_) rfl rfl (by kernel_rfl) (by kernel_rfl) (by kernel_rfl) (fun _ _ _ h => h) (Or.inl ⟨by rfl, ?_⟩) (by assumption) ?_
          rotate_left
          · intro w hSw
            try dsimp only at hSw
            go_simp
            try with_reducible rfl
          simp only [Act.put, List.setIfInBounds_toArray, List.set_cons_zero, List.set_cons_succ]
          refine take_at (i := 8) (d := 32) (v := ?_) rfl rfl (by kernel_rfl) (by kernel_rfl) (by kernel_rfl) (fun _ _ _ h => h) (Or.inl ⟨by rfl, ?_⟩) (by assumption) ?_
          rotate_left
          · intro w hSw
            try dsimp only at hSw
            go_simp
            try with_reducible rfl
          simp only [Act.put, List.setIfInBounds_toArray, List.set_cons_zero, List.set_cons_succ]
          have q0 := lg.cell 0 rfl
          have q1 := lg.cell 1 rfl
          have FG := lg.frozen
          refine ready_at (i := 10) rfl (by kernel_rfl) (fun KK hKK => ?_)
          go_simp
          have bs : Below wr.heap.size wr ((wc7.setCell ⟨wd.heap.size, 0, none⟩ (.slice pa2 s.1.length pc2)).setCell ⟨wd.heap.size, 1, none⟩ (.slice qa2 s.2.1.length qc2)) := Below.set (Below.set bc8 _ _ (by omega)) _ _ (by omega)
          clear hHeld
          refine hKK.out _ _ (unhide K _ bs) (fun hHeld => ?_)
          clear hKK KK
          refine take_at (i := 11) (d := 9) (v := ?_) rfl rfl (by kernel_rfl) (by kernel_rfl) (by kernel_rfl) (fun _ _ _ h => h) (Or.inl ⟨by rfl, ?_⟩) (by assumption) ?_
          rotate_left
          · intro w hSw
            try dsimp only at hSw
            go_simp
            try with_reducible rfl
          simp only [Act.put, List.setIfInBounds_toArray, List.set_cons_zero, List.set_cons_succ]
          clear hHeld
          refine wpAnyH_done (by kernel_rfl) ?_ _
          refine NoPanic.normal ?_
          have kk : Kp wc7 ((wc7.setCell ⟨wd.heap.size, 0, none⟩ (.slice pa2 s.1.length pc2)).setCell ⟨wd.heap.size, 1, none⟩ (.slice qa2 s.2.1.length qc2)) (fun k => k = wd.heap.size) := (set_kp wc7 _ 0 _).trans (set_kp _ _ 1 _)
          have N5 : Loc ((wc7.setCell ⟨wd.heap.size, 0, none⟩ (.slice pa2 s.1.length pc2)).setCell ⟨wd.heap.size, 1, none⟩ (.slice qa2 s.2.1.length qc2)) wd.heap.size #[(Value.slice pa2 s.1.length pc2), (Value.slice qa2 s.2.1.length qc2)] := (lg.set 0 _ rfl).set 1 _ rfl
          have P5 := olp.kp kk (fun k h1 h2 e => by omega)
          obtain ⟨w5, hw5⟩ : ∃ x, ((wc7.setCell ⟨wd.heap.size, 0, none⟩ (.slice pa2 s.1.length pc2)).setCell ⟨wd.heap.size, 1, none⟩ (.slice qa2 s.2.1.length qc2)) = x := ⟨_, rfl⟩
          rw [hw5] at N5 P5 bs ⊢
          have tu : ∀ j, (Value.slice pa2 s.1.length pc2).ownBlock = some j → wr.heap.size ≤ j ∧ j < w5.heap.size := fun j hj => by have := World.ownsRow.lt P5.has j hj; omega
          have tv : ∀ j, (Value.slice qa2 s.2.1.length qc2).ownBlock = some j → wr.heap.size ≤ j ∧ j < w5.heap.size := fun j hj => by have := World.ownsRow.lt P5.next j hj; omega
          have G5 := G.below bs G.lt
          have B5 := B.trans (bs.mono B.size)
          have O5 := (unhide op).below bs
          have sz5 := bs.size
          have ru5 := ru.below bs (Nat.le_refl _)
          have rv5 := rv.below bs (Nat.le_refl _)
          have Q5 := hide (P5.ri (unhide HS1).1 (unhide HS1).2)
          have gg : wd.heap.size ≠ nb := by omega
          have gw : wr.heap.size ≤ wd.heap.size := by omega
          clear hw5 kk lg q0 q1 FG
          by_cases hT : Took s
          · have SUC := hide (show takeRun xs ys (ts.take (k + 1)) = ((s.1, s.2.1), r.2 ++ [(xa, xb, xc, xd)]) by have := unhide SUC; rwa [if_pos hT] at this)
            obtain ⟨w6, hw6⟩ : ∃ y, w5.alloc (.cells #[.int .i64 xa, .int .i64 xb, .int .i64 xc, .int .i64 xd] 26) = y := ⟨_, rfl⟩
            have b6 : Below w5.heap.size w5 w6 := hw6 ▸ (Below.refl _ _).alloc (Nat.le_refl _) _
            have z6 : w6.heap.size = w5.heap.size + 1 := by rw [← hw6]; simp
            have P6 : Hid (PT w6 (.slice (some ⟨w5.heap.size, 0, none⟩) 1 1) [(xa, xb, xc, xd)]) := hide (hw6 ▸ OT.pt (base := 0) (World.ownsRow_lit w5 #[.int .i64 xa, .int .i64 xb, .int .i64 xc, .int .i64 xd] 1 (Nat.zero_le _) (by unfold maxLen; omega) rfl))
            have O6 := hide (O5.below b6)
            have N6 := hide (N5.below b6 N5.lt)
            have G6 := hide (G5.below b6 G5.lt)
            have B6 := hide (B5.trans (b6.mono B5.size))
            have Q6 := hide (show RI w6 (Value.slice pa2 s.1.length pc2) s.1 ∧ RI w6 (Value.slice qa2 s.2.1.length qc2) s.2.1 from ⟨(unhide Q5).1.below b6 (Nat.le_refl _), (unhide Q5).2.below b6 (Nat.le_refl _)⟩)
            obtain ⟨c0, c1, c2, c3⟩ := (unhide HX w5 bs)
            clear G5 N5 O5 Q5 P5 B5 ru5 rv5 bs ru rv
            rcases hT with h0 | h4
            · have hcode := h0
              go_wp2_with (first | (at_builtin; refine append_piece rfl _ _ rfl w.heap.size (.slice pa r.2.length pc) (.slice (some ⟨w5.heap.size, 0, none⟩) 1 1) r.2 [(xa, xb, xc, xd)] rfl rfl (unhide O6) (unhide P6) (by simp; omega) (by omega) ?_; intro v7 w7 ho7 hg7 hb7; have k7 := kp_grown hg7; have O7 := hide ho7; have HB7 := hide hb7; have N7 := (unhide N6).kp k7 (fun e => by have := tp _ e; omega); have G7 := (unhide G6).kp k7 (fun e => by have := np _ e; omega); have Q7 := hide (show RI w7 (Value.slice pa2 s.1.length pc2) s.1 ∧ RI w7 (Value.slice qa2 s.2.1.length qc2) s.2.1 from ⟨(unhide Q6).1.kp k7 (fun j hj e => by have := tu j hj; have := tp _ e; omega), (unhide Q6).2.kp k7 (fun j hj e => by have := tv j hj; have := tp _ e; omega)⟩); have B7 := hide (Below.kp (unhide B6) k7 (unhide B6).size (fun j e => (tp j e).1)); have z7 := k7.size; have n0 := N7.cell 0 rfl; have n1 := N7.cell 1 rfl; have m0 := G7.cell 0 rfl; have m1 := G7.cell 1 rfl; have FG := G7.frozen; have G7 := hide G7; clear ho7 hg7 hb7 k7 N6 G6 Q6 B6 O6 P6 hw6; obtain ⟨w8, hw8⟩ : ∃ y, (w7.setCell ⟨nb, 0, none⟩ (Value.slice pa2 s.1.length pc2)).setCell ⟨nb, 1, none⟩ (Value.slice qa2 s.2.1.length qc2) = y := ⟨_, rfl⟩))
              have k8 : Kp w7 w8 (fun j => j = nb) := hw8 ▸ (set_kp w7 _ 0 _).trans (set_kp _ _ 1 _)
              have G8 : Loc w8 nb #[(Value.slice pa2 s.1.length pc2), (Value.slice qa2 s.2.1.length qc2)] := hw8 ▸ ((unhide G7).set 0 _ rfl).set 1 _ rfl
              have tb : ∀ j, v7.ownBlock = some j → j < wr.heap.size ∨ w6.heap.size ≤ j := fun j hj => by
                rcases unhide HB7 with e | e
                · rw [e] at hj; exact .inl (tp j hj).2
                · rw [e] at hj; cases hj; exact .inr (Nat.le_refl _)
              have nb7 : ∀ j, v7.ownBlock = some j → j ≠ nb := fun j hj => by
                rcases unhide HB7 with e | e
                · rw [e] at hj; exact np j hj
                · rw [e] at hj; cases hj; omega
              have Q8 : RI w8 (Value.slice pa2 s.1.length pc2) s.1 ∧ RI w8 (Value.slice qa2 s.2.1.length qc2) s.2.1 := ⟨(unhide Q7).1.kp k8 (fun j hj e => by have := tu j hj; omega), (unhide Q7).2.kp k8 (fun j hj e => by have := tv j hj; omega)⟩
              have O8 := (unhide O7).kp k8 (fun j hj e => nb7 j hj e)
              have B8 := Below.kp (unhide B7) k8 (unhide B7).size (fun j e => by omega)
              have z8 := k8.size
              clear hw8
              go_roundw
              case rel =>
                refine ⟨k + 1, (Value.slice pa2 s.1.length pc2), (Value.slice qa2 s.2.1.length qc2), by omega, by go_num, ?_⟩
                rw [unhide SUC]
                exact ⟨O8, G8, Q8.1, Q8.2, ⟨fun j hj e => by have := tb j hj; have := tu j e; omega, fun j hj e => by have := tb j hj; have := tv j e; omega⟩, nb7, ⟨fun e => by have := tu _ e; omega, fun e => by have := tv _ e; omega⟩, by omega, B8⟩
              case measure => simp [intOf]; omega
            · have hcode := h4
              have hcode0 : (s.2.2 == 0) = false := by simp [h4]
              go_wp2_with (first | (at_builtin; refine append_piece rfl _ _ rfl w.heap.size (.slice pa r.2.length pc) (.slice (some ⟨w5.heap.size, 0, none⟩) 1 1) r.2 [(xa, xb, xc, xd)] rfl rfl (unhide O6) (unhide P6) (by simp; omega) (by omega) ?_; intro v7 w7 ho7 hg7 hb7; have k7 := kp_grown hg7; have O7 := hide ho7; have HB7 := hide hb7; have N7 := (unhide N6).kp k7 (fun e => by have := tp _ e; omega); have G7 := (unhide G6).kp k7 (fun e => by have := np _ e; omega); have Q7 := hide (show RI w7 (Value.slice pa2 s.1.length pc2) s.1 ∧ RI w7 (Value.slice qa2 s.2.1.length qc2) s.2.1 from ⟨(unhide Q6).1.kp k7 (fun j hj e => by have := tu j hj; have := tp _ e; omega), (unhide Q6).2.kp k7 (fun j hj e => by have := tv j hj; have := tp _ e; omega)⟩); have B7 := hide (Below.kp (unhide B6) k7 (unhide B6).size (fun j e => (tp j e).1)); have z7 := k7.size; have n0 := N7.cell 0 rfl; have n1 := N7.cell 1 rfl; have m0 := G7.cell 0 rfl; have m1 := G7.cell 1 rfl; have FG := G7.frozen; have G7 := hide G7; clear ho7 hg7 hb7 k7 N6 G6 Q6 B6 O6 P6 hw6; obtain ⟨w8, hw8⟩ : ∃ y, (w7.setCell ⟨nb, 0, none⟩ (Value.slice pa2 s.1.length pc2)).setCell ⟨nb, 1, none⟩ (Value.slice qa2 s.2.1.length qc2) = y := ⟨_, rfl⟩))
              have k8 : Kp w7 w8 (fun j => j = nb) := hw8 ▸ (set_kp w7 _ 0 _).trans (set_kp _ _ 1 _)
              have G8 : Loc w8 nb #[(Value.slice pa2 s.1.length pc2), (Value.slice qa2 s.2.1.length qc2)] := hw8 ▸ ((unhide G7).set 0 _ rfl).set 1 _ rfl
              have tb : ∀ j, v7.ownBlock = some j → j < wr.heap.size ∨ w6.heap.size ≤ j := fun j hj => by
                rcases unhide HB7 with e | e
                · rw [e] at hj; exact .inl (tp j hj).2
                · rw [e] at hj; cases hj; exact .inr (Nat.le_refl _)
              have nb7 : ∀ j, v7.ownBlock = some j → j ≠ nb := fun j hj => by
                rcases unhide HB7 with e | e
                · rw [e] at hj; exact np j hj
                · rw [e] at hj; cases hj; omega
              have Q8 : RI w8 (Value.slice pa2 s.1.length pc2) s.1 ∧ RI w8 (Value.slice qa2 s.2.1.length qc2) s.2.1 := ⟨(unhide Q7).1.kp k8 (fun j hj e => by have := tu j hj; omega), (unhide Q7).2.kp k8 (fun j hj e => by have := tv j hj; omega)⟩
              have O8 := (unhide O7).kp k8 (fun j hj e => nb7 j hj e)
              have B8 := Below.kp (unhide B7) k8 (unhide B7).size (fun j e => by omega)
              have z8 := k8.size
              clear hw8
              go_roundw
              case rel =>
                refine ⟨k + 1, (Value.slice pa2 s.1.length pc2), (Value.slice qa2 s.2.1.length qc2), by omega, by go_num, ?_⟩
                rw [unhide SUC]
                exact ⟨O8, G8, Q8.1, Q8.2, ⟨fun j hj e => by have := tb j hj; have := tu j e; omega, fun j hj e => by have := tb j hj; have := tv j e; omega⟩, nb7, ⟨fun e => by have := tu _ e; omega, fun e => by have := tv _ e; omega⟩, by omega, B8⟩
              case measure => simp [intOf]; omega
          · have h0 : (s.2.2 == 0) = false := by simpa using fun h => hT (Or.inl h)
            have h4 : (s.2.2 == 4) = false := by simpa using fun h => hT (Or.inr h)
            have SUC := hide (show takeRun xs ys (ts.take (k + 1)) = ((r.1.1, r.1.2), r.2) by have := unhide SUC; rw [if_neg hT, (unhide SAME hT).1, (unhide SAME hT).2] at this; exact this)
            have O5 := hide O5
            have ru5 := hide ru5
            have rv5 := hide rv5
            clear hT P5 Q5 N5 ru rv
            go_wp2
            go_roundw
            case rel =>
              refine ⟨k + 1, (.slice fa r.1.1.length fc), (.slice ha r.1.2.length hc), by omega, by go_num, ?_⟩
              rw [unhide SUC]
              exact ⟨unhide O5, G5, unhide ru5, unhide rv5, ⟨nu, nv⟩, np, ⟨mu, mv⟩, by omega, B5⟩
            case measure => simp [intOf]; omega
    · have e1 : ts.take k = ts := List.take_of_length_le (by rw [unhide Hn]; omega)
      have e2 : Hid (takeRun xs ys ts = takeRun xs ys (ts.take k)) := hide (by rw [e1])
      have hnd : decide ((k : Int) < (n : Int)) = false := by simp; omega
      have op := hide op
      clear ru rv LEN e1
      go_wp2
      go_ret
      exact ⟨_, rfl, by unfold takeAns; rw [unhide e2]; exact unhide op, B⟩
end Go.Proofs.YthdehhenkgkkmaaDoor

/- spec.PoolDrop. -/
namespace Go.Proofs.YthdehhenkgkkmaaDoor
open Go.RowKit
set_option linter.unusedSectionVars false
variable [∀ (a b c d : Int), Decidable (Ok4 a b c d)]
variable [∀ (m a b c d : Int), Decidable (In4 m a b c d)]
variable [∀ (xs ys : List Int), Decidable (LOk xs ys)]
variable [∀ (x y : T4), Decidable (Bef x y)]
variable [∀ (ts : List T4), Decidable (Asc ts)]
variable [∀ (ts : List T4), Decidable (AllOk ts)]
variable [∀ (ts : List T4), Decidable (POk ts)]
variable [∀ (r : List Int × List Int × Int), Decidable (Took r)]
variable [∀ (xs ys : List Int) (x : T4), Decidable (Stays xs ys x)]

set_option maxHeartbeats 8000000 in
set_option maxRecDepth 100000 in
theorem specPoolDrop (p0 u0 v0 : Value) (ts : List T4) (xs ys : List Int) (w : World) (h : RT w p0 ts) (hl : ts.length ≤ 4000000) (hu : RI w u0 xs ∧ RI w v0 ys) :
    Calls Tryd.prog 15 #[p0, lv u0 v0] w fun e w' => ∃ p, e = .returned p ∧ OT w' w.heap.size p (dropAns xs ys ts) ∧ Below w.heap.size w w' := by
  have SPY := hide fun a b c d w h => specPay u0 v0 a b c d xs ys w h
  have H := hide h
  have RU := hide hu
  have hxl := hu.1.1
  have hyl := hu.2.1
  obtain ⟨ao, ca, rfl⟩ := h.form
  obtain ⟨ua, uc, rfl⟩ := hu.1.form
  obtain ⟨va, vc, rfl⟩ := hu.2.form
  obtain ⟨n, hn⟩ : ∃ n, ts.length = n := ⟨_, rfl⟩
  have Hn := hide hn
  rw [hn] at hl H ⊢
  clear h hn hu
  obtain ⟨w0, hw0⟩ : ∃ w0, (w.alloc (.cells #[.slice ua xs.length uc, .slice va ys.length vc] 33)).alloc (.cells #[] 26) = w0 := ⟨_, rfl⟩
  have B0 : Below w.heap.size w w0 := hw0 ▸ ((Below.refl _ _).alloc (Nat.le_refl _) _).alloc (by simp) _
  have L0 : Loc w0 w.heap.size #[.slice ua xs.length uc, .slice va ys.length vc] := hw0 ▸ (loc_at w _ _ rfl).alloc _
  have z0 : w0.heap.size = w.heap.size + 1 + 1 := by rw [← hw0]; simp
  have E0 : OT w0 (w.heap.size + 1) (.slice (some ⟨w.heap.size + 1, 0, none⟩) 0 0) [] := by
    have := World.ownsRow_lit (base := w.heap.size + 1) (e := 26) (size := 4) (w.alloc (.cells #[.slice ua xs.length uc, .slice va ys.length vc] 33)) #[] 0 (by simp) (by unfold maxLen; omega) rfl
    rw [hw0] at this
    have e : (w.alloc (.cells #[.slice ua xs.length uc, .slice va ys.length vc] 33)).heap.size = w.heap.size + 1 := by simp
    rw [e] at this
    exact this
  go_enter Tryd.func15, Tryd.ntmps15
  go_wp2
  clear hw0
  go_loopw [5, 6] (fun ov i wr => ∃ (k : Nat), k ≤ n ∧ i = .int .i64 k ∧ OT wr (w.heap.size + 1) ov (dropAns xs ys (ts.take k)) ∧ Loc wr w.heap.size #[.slice ua xs.length uc, .slice va ys.length vc] ∧ w.heap.size + 1 ≤ wr.heap.size ∧ Below w.heap.size w wr) (fun _ i _ => n - (intOf i).toNat)
  case atStart => exact ⟨0, Nat.zero_le _, rfl, E0, L0, by omega, B0⟩
  case round =>
    clear E0 L0 B0
    obtain ⟨k, hk, rfl, op, G, lnb, B⟩ := hrel
    have tp := World.ownsRow.lt op
    obtain ⟨pa, pc, rfl⟩ := op.form
    have LEN := dropAns_len xs ys (ts.take k)
    rw [List.length_take] at LEN
    by_cases hlt : k < n
    · have HR := hide ((unhide H).below B)
      have SUC := hide (dropAns_succ xs ys ts k (by rw [unhide Hn]; exact hlt))
      obtain ⟨r, hr⟩ : ∃ r, dropAns xs ys (ts.take k) = r := ⟨_, rfl⟩
      rw [hr] at SUC op LEN
      simp only [hr] at tp ⊢
      clear hr
      have hr2 : r.length ≤ k := by omega
      obtain ⟨g, rfl, hx⟩ := (unhide HR).at k (by rw [unhide Hn]; exact hlt)
      obtain ⟨x, hx0⟩ : ∃ x, ts.getD k z4 = x := ⟨_, rfl⟩
      rw [hx0] at SUC hx
      clear hx0
      have SP := hide fun w h => unhide SPY x.1 x.2.1 x.2.2.1 x.2.2.2 w h
      have SX : Hid (Stays xs ys x ↔ ¬ (payAns xs ys x.1 x.2.1 x.2.2.1 x.2.2.2).2.2 = 2) := hide Iff.rfl
      have HX := hide fun w' (hb : Below wr.heap.size wr w') => hx.below hb (Nat.le_refl _)
      obtain ⟨xa, xb, xc, xd⟩ := x
      dsimp only at SP SX
      obtain ⟨s, hs⟩ : ∃ s, payAns xs ys xa xb xc xd = s := ⟨_, rfl⟩
      rw [hs] at SP SX
      clear hs
      have op := hide op
      have RX : Hid (∀ w', Below wr.heap.size wr w' → RI w' (.slice ua xs.length uc) xs ∧ RI w' (.slice va ys.length vc) ys) := hide fun w' hb => ⟨(unhide RU).1.below (B.trans (hb.mono B.size)) (Nat.le_refl _), (unhide RU).2.below (B.trans (hb.mono B.size)) (Nat.le_refl _)⟩
      have K : Hid (∀ w', Below wr.heap.size wr w' → (w'.cell? ⟨w.heap.size, 0, none⟩ = some (.slice ua xs.length uc) ∧ w'.cell? ⟨w.heap.size, 1, none⟩ = some (.slice va ys.length vc)) ∧ (w'.cell? ⟨g, k * 4, none⟩ = some (.int .i64 xa) ∧ w'.cell? ⟨g, k * 4 + 1, none⟩ = some (.int .i64 xb) ∧ w'.cell? ⟨g, k * 4 + 2, none⟩ = some (.int .i64 xc) ∧ w'.cell? ⟨g, k * 4 + 3, none⟩ = some (.int .i64 xd))) := hide fun w' hb => by
        have l := G.below hb G.lt
        exact ⟨⟨l.cell 0 rfl, l.cell 1 rfl⟩, unhide HX w' hb⟩
      clear HR hx LEN SPY
      go_wp2_with fail
      refine wp_region_noPanic ?_
      refine wp_region_held_drew (S := (fun w' => (w'.cell? ⟨w.heap.size, 0, none⟩ = some (.slice ua xs.length uc) ∧ w'.cell? ⟨w.heap.size, 1, none⟩ = some (.slice va ys.length vc)) ∧ (w'.cell? ⟨g, k * 4, none⟩ = some (.int .i64 xa) ∧ w'.cell? ⟨g, k * 4 + 1, none⟩ = some (.int .i64 xb) ∧ w'.cell? ⟨g, k * 4 + 2, none⟩ = some (.int .i64 xc) ∧ w'.cell? ⟨g, k * 4 + 3, none⟩ = some (.int .i64 xd)))) (by kernel_rfl) (unhide K _ (Below.drew (Below.refl _ _))) (fun hHeld => ?_)
      obtain ⟨wd, hd⟩ : ∃ wd, wr.drew = wd := ⟨_, rfl⟩
      have bd : Below wr.heap.size wr wd := hd ▸ Below.drew (Below.refl _ _)
      have szd := bd.size
      rw [hd] at hHeld ⊢
      clear hd
      refine take_at (i := 0) (d := 17) (v := ?_) rfl rfl (by kernel_rfl) (by kernel_rfl) (by kernel_rfl) (fun _ _ _ h => h) (Or.inl ⟨by rfl, ?_⟩) (by assumption) ?_
      rotate_left
      · intro w hSw
        try dsimp only at hSw
        go_simp
        try with_reducible rfl
      simp only [Act.put, List.setIfInBounds_toArray, List.set_cons_zero, List.set_cons_succ]
      refine take_at (i := 1) (d := 18) (v := ?_) rfl rfl (by kernel_rfl) (by kernel_rfl) (by kernel_rfl) (fun _ _ _ h => h) (Or.inl ⟨by rfl, ?_⟩) (by assumption) ?_
      rotate_left
      · intro w hSw
        try dsimp only at hSw
        go_simp
        try with_reducible rfl
      simp only [Act.put, List.setIfInBounds_toArray, List.set_cons_zero, List.set_cons_succ]
      refine take_at (i := 2) (d := 19) (v := ?_) rfl rfl (by kernel_rfl) (by kernel_rfl) (by kernel_rfl) (fun _ _ _ h => h) (Or.inl ⟨by rfl, ?_⟩) (by assumption) ?_
      rotate_left
      · intro w hSw
        try dsimp only at hSw
        go_simp
        try with_reducible rfl
      simp only [Act.put, List.setIfInBounds_toArray, List.set_cons_zero, List.set_cons_succ]
      refine take_at (i := 3) (d := 20) (v := ?_) rfl rfl (by kernel_rfl) (by kernel_rfl) (by kernel_rfl) (fun _ _ _ h => h) (Or.inl ⟨by rfl, ?_⟩) (by assumption) ?_
      rotate_left
      · intro w hSw
        try dsimp only at hSw
        go_simp
        try with_reducible rfl
      simp only [Act.put, List.setIfInBounds_toArray, List.set_cons_zero, List.set_cons_succ]
      refine take_at (i := 4) (d := 21) (v := ?_) rfl rfl (by kernel_rfl) (by kernel_rfl) (by kernel_rfl) (fun _ _ _ h => h) (Or.inl ⟨by rfl, ?_⟩) (by assumption) ?_
      rotate_left
      · intro w hSw
        try dsimp only at hSw
        go_simp
        try with_reducible rfl
      simp only [Act.put, List.setIfInBounds_toArray, List.set_cons_zero, List.set_cons_succ]
      refine wpAnyH_ready (rs := [5, 9]) (by kernel_rfl) (by simp) (AllReadyH.cons rfl (fun KK hKK => ?_) (AllReadyH.cons rfl (fun KK hKK => ?_) AllReadyH.nil))
      · go_simp
        refine (unhide SP _ (unhide RX _ bd)).mono ?_
        rintro _ wc1 ⟨up, vp, rfl, olp, bnew⟩
        obtain ⟨pa2, pc2, rfl⟩ := olp.has.form
        obtain ⟨qa2, qc2, rfl⟩ := olp.next.form
        have cbc2 := bnew
        have bc2 : Below wr.heap.size wr wc1 := bd.trans (bnew.mono bd.size)
        have zzwc1 := bnew.size
        clear hHeld bnew
        refine hKK.out _ _ (unhide K _ bc2) (fun hHeld => ?_)
        clear hKK KK
        refine take_at (i := 6) (d := 16) (v := ?_) rfl rfl (by kernel_rfl) (by kernel_rfl) (by kernel_rfl) (fun _ _ _ h => h) (Or.inl ⟨by rfl, ?_⟩) (by assumption) ?_
        rotate_left
        · intro w hSw
          try dsimp only at hSw
          go_simp
          try with_reducible rfl
        simp only [Act.put, List.setIfInBounds_toArray, List.set_cons_zero, List.set_cons_succ]
        refine take_at (i := 7) (d := 23) (v := ?_) rfl rfl (by kernel_rfl) (by kernel_rfl) (by kernel_rfl) (fun _ _ _ h => h) (Or.inl ⟨by rfl, ?_⟩) (by assumption) ?_
        rotate_left
        · intro w hSw
          try dsimp only at hSw
          go_simp
          try with_reducible rfl
        simp only [Act.put, List.setIfInBounds_toArray, List.set_cons_zero, List.set_cons_succ]
        refine take_at (i := 8) (d := 24) (v := ?_) rfl rfl (by kernel_rfl) (by kernel_rfl) (by kernel_rfl) (fun _ _ _ h => h) (Or.inl ⟨by rfl, ?_⟩) (by assumption) ?_
        rotate_left
        · intro w hSw
          try dsimp only at hSw
          go_simp
          try with_reducible rfl
        simp only [Act.put, List.setIfInBounds_toArray, List.set_cons_zero, List.set_cons_succ]
        refine ready_at (i := 9) rfl (by kernel_rfl) (fun KK hKK => ?_)
        go_simp
        obtain ⟨wl5, hwl5⟩ : ∃ x, wc1.alloc (.cells #[.slice none 0 0, .slice none 0 0] 33) = x := ⟨_, rfl⟩
        have cbl6 : Below wc1.heap.size wc1 wl5 := hwl5 ▸ (Below.refl _ _).alloc (Nat.le_refl _) _
        have bl6 : Below wr.heap.size wr wl5 := bc2.trans (cbl6.mono bc2.size)
        have zzwl5 : wc1.heap.size < wl5.heap.size := by rw [← hwl5]; simp
        have lg : Loc wl5 wc1.heap.size #[.slice none 0 0, .slice none 0 0] := hwl5 ▸ loc_at wc1 _ _ rfl
        have olp := olp.below cbl6
        rw [hwl5]
        clear hHeld hwl5
        refine hKK.out _ _ (unhide K _ bl6) (fun hHeld => ?_)
        clear hKK KK
        have q0 := lg.cell 0 rfl
        have q1 := lg.cell 1 rfl
        have FG := lg.frozen
        refine ready_at (i := 10) rfl (by kernel_rfl) (fun KK hKK => ?_)
        go_simp
        have bs : Below wr.heap.size wr ((wl5.setCell ⟨wc1.heap.size, 0, none⟩ (.slice pa2 s.1.length pc2)).setCell ⟨wc1.heap.size, 1, none⟩ (.slice qa2 s.2.1.length qc2)) := Below.set (Below.set bl6 _ _ (by omega)) _ _ (by omega)
        clear hHeld
        refine hKK.out _ _ (unhide K _ bs) (fun hHeld => ?_)
        clear hKK KK
        refine take_at (i := 11) (d := 8) (v := ?_) rfl rfl (by kernel_rfl) (by kernel_rfl) (by kernel_rfl) (fun _ _ _ h => h) (Or.inl ⟨by rfl, ?_⟩) (by assumption) ?_
        rotate_left
        · intro w hSw
          try dsimp only at hSw
          go_simp
          try with_reducible rfl
        simp only [Act.put, List.setIfInBounds_toArray, List.set_cons_zero, List.set_cons_succ]
        clear hHeld
        refine wpAnyH_done (by kernel_rfl) ?_ _
        refine NoPanic.normal ?_
        have kk : Kp wl5 ((wl5.setCell ⟨wc1.heap.size, 0, none⟩ (.slice pa2 s.1.length pc2)).setCell ⟨wc1.heap.size, 1, none⟩ (.slice qa2 s.2.1.length qc2)) (fun k => k = wc1.heap.size) := (set_kp wl5 _ 0 _).trans (set_kp _ _ 1 _)
        have B5 := B.trans (bs.mono B.size)
        have O5 := (unhide op).below bs
        have G5 := G.below bs G.lt
        obtain ⟨w5, hw5⟩ : ∃ x, ((wl5.setCell ⟨wc1.heap.size, 0, none⟩ (.slice pa2 s.1.length pc2)).setCell ⟨wc1.heap.size, 1, none⟩ (.slice qa2 s.2.1.length qc2)) = x := ⟨_, rfl⟩
        rw [hw5] at B5 O5 G5 bs ⊢
        have sz5 := bs.size
        clear hw5 kk lg q0 q1 FG olp
        by_cases hT : ¬ s.2.2 = 2
        · have SUC := hide (show dropAns xs ys (ts.take (k + 1)) = r ++ [(xa, xb, xc, xd)] by have := unhide SUC; rwa [if_pos ((unhide SX).2 hT)] at this)
          obtain ⟨w6, hw6⟩ : ∃ y, w5.alloc (.cells #[.int .i64 xa, .int .i64 xb, .int .i64 xc, .int .i64 xd] 26) = y := ⟨_, rfl⟩
          have b6 : Below w5.heap.size w5 w6 := hw6 ▸ (Below.refl _ _).alloc (Nat.le_refl _) _
          have z6 : w6.heap.size = w5.heap.size + 1 := by rw [← hw6]; simp
          have P6 : Hid (PT w6 (.slice (some ⟨w5.heap.size, 0, none⟩) 1 1) [(xa, xb, xc, xd)]) := hide (hw6 ▸ OT.pt (base := 0) (World.ownsRow_lit w5 #[.int .i64 xa, .int .i64 xb, .int .i64 xc, .int .i64 xd] 1 (Nat.zero_le _) (by unfold maxLen; omega) rfl))
          have O6 := hide (O5.below b6)
          have B6 := hide (B5.trans (b6.mono B5.size))
          have G6 := hide (G5.below b6 G5.lt)
          obtain ⟨c0, c1, c2, c3⟩ := (unhide HX w5 bs)
          have h2 : (s.2.2 != 2) = true := by simpa using hT
          clear O5 B5 bs G5 hT
          go_wp2_with (first | (at_builtin; refine append_piece rfl _ _ rfl (w.heap.size + 1) (.slice pa r.length pc) (.slice (some ⟨w5.heap.size, 0, none⟩) 1 1) r [(xa, xb, xc, xd)] rfl rfl (unhide O6) (unhide P6) (by simp; omega) (by omega) ?_; intro v7 w7 ho7 hg7 hb7; have k7 := kp_grown hg7; have O7 := hide ho7; have B7 := hide (Below.kp (unhide B6) k7 (unhide B6).size (fun j e => by have := tp j e; omega)); have G7 := hide ((unhide G6).kp k7 (fun e => by have := tp _ e; omega)); have z7 := k7.size; clear ho7 hg7 hb7 k7 B6 O6 P6))
          clear hw6
          go_roundw
          case rel =>
            refine ⟨k + 1, by omega, by go_num, ?_⟩
            rw [unhide SUC]
            exact ⟨unhide O7, unhide G7, by omega, unhide B7⟩
          case measure => simp [intOf]; omega
        · have SUC := hide (show dropAns xs ys (ts.take (k + 1)) = r by have := unhide SUC; rwa [if_neg (fun h => hT ((unhide SX).1 h)), List.append_nil] at this)
          have h2 : s.2.2 = 2 := Decidable.not_not.1 hT
          have h2' : (s.2.2 != 2) = false := by simp [h2]
          have O5 := hide O5
          clear hT
          go_wp2
          go_roundw
          case rel =>
            refine ⟨k + 1, by omega, by go_num, ?_⟩
            rw [unhide SUC]
            exact ⟨unhide O5, G5, by omega, B5⟩
          case measure => simp [intOf]; omega
      · go_simp
        obtain ⟨wl3, hwl3⟩ : ∃ x, wd.alloc (.cells #[.slice none 0 0, .slice none 0 0] 33) = x := ⟨_, rfl⟩
        have cbl4 : Below wd.heap.size wd wl3 := hwl3 ▸ (Below.refl _ _).alloc (Nat.le_refl _) _
        have bl4 : Below wr.heap.size wr wl3 := bd.trans (cbl4.mono bd.size)
        have zzwl3 : wd.heap.size < wl3.heap.size := by rw [← hwl3]; simp
        have lg : Loc wl3 wd.heap.size #[.slice none 0 0, .slice none 0 0] := hwl3 ▸ loc_at wd _ _ rfl
        rw [hwl3]
        clear hHeld hwl3
        refine hKK.out _ _ (unhide K _ bl4) (fun hHeld => ?_)
        clear hKK KK
        refine ready_at (i := 5) rfl (by kernel_rfl) (fun KK hKK => ?_)
        go_simp
        refine (unhide SP _ (unhide RX _ bl4)).mono ?_
        rintro _ wc7 ⟨up, vp, rfl, olp, bnew⟩
        obtain ⟨pa2, pc2, rfl⟩ := olp.has.form
        obtain ⟨qa2, qc2, rfl⟩ := olp.next.form
        have cbc8 := bnew
        have bc8 : Below wr.heap.size wr wc7 := bl4.trans (bnew.mono bl4.size)
        have zzwc7 := bnew.size
        have lg := lg.below bnew lg.lt
        clear hHeld bnew
        refine hKK.out _ _ (unhide K _ bc8) (fun hHeld => ?_)
        clear hKK KK
        refine take_at (i := 6) (d := 16) (v := ?_) rfl rfl (by kernel_rfl) (by kernel_rfl) (by kernel_rfl) (fun _ _ _ h => h) (Or.inl ⟨by rfl, ?_⟩) (by assumption) ?_
        rotate_left
        · intro w hSw
          try dsimp only at hSw
          go_simp
          try with_reducible rfl
        simp only [Act.put, List.setIfInBounds_toArray, List.set_cons_zero, List.set_cons_succ]
        refine take_at (i := 7) (d := 23) (v := ?_) rfl rfl (by kernel_rfl) (by kernel_rfl) (by kernel_rfl) (fun _ _ _ h => h) (Or.inl ⟨by rfl, ?_⟩) (by assumption) ?_
        rotate_left
        · intro w hSw
          try dsimp only at hSw
          go_simp
          try with_reducible rfl
        simp only [Act.put, List.setIfInBounds_toArray, List.set_cons_zero, List.set_cons_succ]
        refine take_at (i := 8) (d := 24) (v := ?_) rfl rfl (by kernel_rfl) (by kernel_rfl) (by kernel_rfl) (fun _ _ _ h => h) (Or.inl ⟨by rfl, ?_⟩) (by assumption) ?_
        rotate_left
        · intro w hSw
          try dsimp only at hSw
          go_simp
          try with_reducible rfl
        simp only [Act.put, List.setIfInBounds_toArray, List.set_cons_zero, List.set_cons_succ]
        have q0 := lg.cell 0 rfl
        have q1 := lg.cell 1 rfl
        have FG := lg.frozen
        refine ready_at (i := 10) rfl (by kernel_rfl) (fun KK hKK => ?_)
        go_simp
        have bs : Below wr.heap.size wr ((wc7.setCell ⟨wd.heap.size, 0, none⟩ (.slice pa2 s.1.length pc2)).setCell ⟨wd.heap.size, 1, none⟩ (.slice qa2 s.2.1.length qc2)) := Below.set (Below.set bc8 _ _ (by omega)) _ _ (by omega)
        clear hHeld
        refine hKK.out _ _ (unhide K _ bs) (fun hHeld => ?_)
        clear hKK KK
        refine take_at (i := 11) (d := 8) (v := ?_) rfl rfl (by kernel_rfl) (by kernel_rfl) (by kernel_rfl) (fun _ _ _ h => h) (Or.inl ⟨by rfl, ?_⟩) (by assumption) ?_
        rotate_left
        · intro w hSw
          try dsimp only at hSw
          go_simp
          try with_reducible rfl
        simp only [Act.put, List.setIfInBounds_toArray, List.set_cons_zero, List.set_cons_succ]
        clear hHeld
        refine wpAnyH_done (by kernel_rfl) ?_ _
        refine NoPanic.normal ?_
        have kk : Kp wc7 ((wc7.setCell ⟨wd.heap.size, 0, none⟩ (.slice pa2 s.1.length pc2)).setCell ⟨wd.heap.size, 1, none⟩ (.slice qa2 s.2.1.length qc2)) (fun k => k = wd.heap.size) := (set_kp wc7 _ 0 _).trans (set_kp _ _ 1 _)
        have B5 := B.trans (bs.mono B.size)
        have O5 := (unhide op).below bs
        have G5 := G.below bs G.lt
        obtain ⟨w5, hw5⟩ : ∃ x, ((wc7.setCell ⟨wd.heap.size, 0, none⟩ (.slice pa2 s.1.length pc2)).setCell ⟨wd.heap.size, 1, none⟩ (.slice qa2 s.2.1.length qc2)) = x := ⟨_, rfl⟩
        rw [hw5] at B5 O5 G5 bs ⊢
        have sz5 := bs.size
        clear hw5 kk lg q0 q1 FG olp
        by_cases hT : ¬ s.2.2 = 2
        · have SUC := hide (show dropAns xs ys (ts.take (k + 1)) = r ++ [(xa, xb, xc, xd)] by have := unhide SUC; rwa [if_pos ((unhide SX).2 hT)] at this)
          obtain ⟨w6, hw6⟩ : ∃ y, w5.alloc (.cells #[.int .i64 xa, .int .i64 xb, .int .i64 xc, .int .i64 xd] 26) = y := ⟨_, rfl⟩
          have b6 : Below w5.heap.size w5 w6 := hw6 ▸ (Below.refl _ _).alloc (Nat.le_refl _) _
          have z6 : w6.heap.size = w5.heap.size + 1 := by rw [← hw6]; simp
          have P6 : Hid (PT w6 (.slice (some ⟨w5.heap.size, 0, none⟩) 1 1) [(xa, xb, xc, xd)]) := hide (hw6 ▸ OT.pt (base := 0) (World.ownsRow_lit w5 #[.int .i64 xa, .int .i64 xb, .int .i64 xc, .int .i64 xd] 1 (Nat.zero_le _) (by unfold maxLen; omega) rfl))
          have O6 := hide (O5.below b6)
          have B6 := hide (B5.trans (b6.mono B5.size))
          have G6 := hide (G5.below b6 G5.lt)
          obtain ⟨c0, c1, c2, c3⟩ := (unhide HX w5 bs)
          have h2 : (s.2.2 != 2) = true := by simpa using hT
          clear O5 B5 bs G5 hT
          go_wp2_with (first | (at_builtin; refine append_piece rfl _ _ rfl (w.heap.size + 1) (.slice pa r.length pc) (.slice (some ⟨w5.heap.size, 0, none⟩) 1 1) r [(xa, xb, xc, xd)] rfl rfl (unhide O6) (unhide P6) (by simp; omega) (by omega) ?_; intro v7 w7 ho7 hg7 hb7; have k7 := kp_grown hg7; have O7 := hide ho7; have B7 := hide (Below.kp (unhide B6) k7 (unhide B6).size (fun j e => by have := tp j e; omega)); have G7 := hide ((unhide G6).kp k7 (fun e => by have := tp _ e; omega)); have z7 := k7.size; clear ho7 hg7 hb7 k7 B6 O6 P6))
          clear hw6
          go_roundw
          case rel =>
            refine ⟨k + 1, by omega, by go_num, ?_⟩
            rw [unhide SUC]
            exact ⟨unhide O7, unhide G7, by omega, unhide B7⟩
          case measure => simp [intOf]; omega
        · have SUC := hide (show dropAns xs ys (ts.take (k + 1)) = r by have := unhide SUC; rwa [if_neg (fun h => hT ((unhide SX).1 h)), List.append_nil] at this)
          have h2 : s.2.2 = 2 := Decidable.not_not.1 hT
          have h2' : (s.2.2 != 2) = false := by simp [h2]
          have O5 := hide O5
          clear hT
          go_wp2
          go_roundw
          case rel =>
            refine ⟨k + 1, by omega, by go_num, ?_⟩
            rw [unhide SUC]
            exact ⟨unhide O5, G5, by omega, B5⟩
          case measure => simp [intOf]; omega
    · have e1 : ts.take k = ts := List.take_of_length_le (by rw [unhide Hn]; omega)
      have e2 : Hid (dropAns xs ys ts = dropAns xs ys (ts.take k)) := hide (by rw [e1])
      have op := hide op
      clear LEN e1
      go_wp2
      go_ret
      exact ⟨_, rfl, by rw [unhide e2]; exact (unhide op).mono (by omega), B⟩
end Go.Proofs.YthdehhenkgkkmaaDoor
