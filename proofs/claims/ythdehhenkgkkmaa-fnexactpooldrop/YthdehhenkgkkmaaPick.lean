/- (impl.inOrder).pick with the functions of PoolTake and PoolDrop; impl.PoolTake, impl.PoolDrop. -/
import Derived.Test.YthdehhenkgkkmaaPickFits
import Derived.Test.YthdehhenkgkkmaaWith
namespace Go.Proofs.Ythdehhenkgkkmaa
open Go.RowKit

abbrev payOf (p : List Int × List Int) (x : T4) : List Int × List Int × Int := payAns p.1 p.2 x.1 x.2.1 x.2.2.1 x.2.2.2
/-- One payment more that is looked at. -/
def takeStep (p : (List Int × List Int) × List T4) (x : T4) : (List Int × List Int) × List T4 :=
  if p.2.length = 2 then p else (((payOf p.1 x).1, (payOf p.1 x).2.1), if Took (payOf p.1 x) then p.2 ++ [x] else p.2)
def takeRun (xs ys : List Int) (ts : List T4) : (List Int × List Int) × List T4 := ts.foldl takeStep ((xs, ys), [])
/-- What PoolTake answers. -/
def takeAns (xs ys : List Int) (ts : List T4) : List T4 := (takeRun xs ys ts).2
theorem takeRun_succ (xs ys : List Int) (ts : List T4) (k : Nat) (h : k < ts.length) : takeRun xs ys (ts.take (k + 1)) = takeStep (takeRun xs ys (ts.take k)) (ts.getD k z4) := by
  unfold takeRun
  rw [List.take_succ_eq_append_getElem h, List.getD_eq_getElem?_getD, List.getElem?_eq_getElem h, List.foldl_append]
  rfl
theorem take_stays (ts : List T4) : ∀ p : (List Int × List Int) × List T4, p.2.length = 2 → ts.foldl takeStep p = p := by
  induction ts with
  | nil => intro p _; rfl
  | cons t ts ih =>
    intro p hp
    have e : takeStep p t = p := by unfold takeStep; rw [if_pos hp]
    rw [List.foldl_cons, e]
    exact ih p hp
theorem takeRun_full (xs ys : List Int) (ts : List T4) (k : Nat) (h : (takeRun xs ys (ts.take k)).2.length = 2) : takeRun xs ys ts = takeRun xs ys (ts.take k) := by
  conv => lhs; rw [← List.take_append_drop k ts]
  unfold takeRun at *
  rw [List.foldl_append]
  exact take_stays _ _ h
theorem takeRun_len (xs ys : List Int) (ts : List T4) (k : Nat) (h : k ≤ ts.length) : (takeRun xs ys (ts.take k)).1.1.length = xs.length ∧ (takeRun xs ys (ts.take k)).1.2.length = ys.length ∧ (takeRun xs ys (ts.take k)).2.length ≤ 2 := by
  induction k with
  | zero => simp [takeRun]
  | succ k ih =>
    obtain ⟨h1, h2, h3⟩ := ih (by omega)
    rw [takeRun_succ xs ys ts k (by omega)]
    unfold takeStep
    split
    · exact ⟨h1, h2, h3⟩
    · refine ⟨(payAns_len.1).trans h1, (payAns_len.2).trans h2, ?_⟩
      dsimp only
      split
      · rw [List.length_append]; simp; omega
      · exact h3
theorem takeAns_len (xs ys : List Int) (ts : List T4) : (takeAns xs ys ts).length ≤ 2 := by
  have := (takeRun_len xs ys ts ts.length (Nat.le_refl _)).2.2
  rwa [List.take_of_length_le (Nat.le_refl _)] at this
/-- What PoolDrop leaves. -/
def Stays (xs ys : List Int) (x : T4) : Prop := ¬ (payAns xs ys x.1 x.2.1 x.2.2.1 x.2.2.2).2.2 = 2
instance (xs ys : List Int) (x : T4) : Decidable (Stays xs ys x) := inferInstanceAs (Decidable (¬ _))
def dropAns (xs ys : List Int) (ts : List T4) : List T4 := ts.filter (fun x => decide (Stays xs ys x))
theorem dropAns_succ (xs ys : List Int) (ts : List T4) (k : Nat) (h : k < ts.length) : dropAns xs ys (ts.take (k + 1)) = dropAns xs ys (ts.take k) ++ (if Stays xs ys (ts.getD k z4) then [ts.getD k z4] else []) := by
  unfold dropAns
  rw [List.take_succ_eq_append_getElem h, List.getD_eq_getElem?_getD, List.getElem?_eq_getElem h, List.filter_append]
  congr 1
  simp [List.filter]
  by_cases hs : Stays xs ys ts[k] <;> simp [hs]
theorem dropAns_len (xs ys : List Int) (ts : List T4) : (dropAns xs ys ts).length ≤ ts.length := List.length_filter_le _ _
theorem RT.kp {w w' : World} {X : Nat → Prop} {v : Value} {xs : List T4} (h : RT w v xs) (k : Kp w w' X) (hv : ∀ j, v.ownBlock = some j → ¬ X j) : RT w' v xs := by
  obtain ⟨hl, ao, cap, rfl, h⟩ := h
  refine ⟨hl, ao, cap, rfl, ?_⟩
  rcases h with h | ⟨g, rfl, h⟩
  · exact .inl h
  · refine .inr ⟨g, rfl, fun j hj => ?_⟩
    obtain ⟨c0, c1, c2, c3⟩ := h j hj
    have := hv g rfl
    exact ⟨k.cell c0 this, k.cell c1 this, k.cell c2 this, k.cell c3 this⟩

set_option maxHeartbeats 8000000 in
set_option maxRecDepth 100000 in
theorem pick_take (v : Value) (ts : List T4) (lb : Nat) (u0 v0 : Value) (xs ys : List Int) (w : World) (h : RT w v ts) (hl : ts.length ≤ 4000000) (hv : v.ownBlock ≠ some lb) (hL : Loc w lb #[u0, v0]) (hu : RI w u0 xs ∧ RI w v0 ys) (hn0 : u0.ownBlock ≠ some lb ∧ v0.ownBlock ≠ some lb) :
    Calls Try.prog 37 #[.agg #[v, .func (.func 46) #[] #[]], .int .i64 2, .func (.func 38) #[] #[.pointer (some ⟨lb, 0, none⟩)]] w fun e w' => ∃ p, e = .returned p ∧ OT w' w.heap.size p (takeAns xs ys ts) ∧ Kp w w' (fun j => j = lb) := by
  obtain ⟨ao, ca, rfl⟩ := h.form
  have H := hide h
  have lL := hL.lt
  have RU := hide hu
  have hxl := hu.1.1
  have hyl := hu.2.1
  obtain ⟨n, hn⟩ : ∃ n, ts.length = n := ⟨_, rfl⟩
  have Hn := hide hn
  rw [hn] at hl H hv ⊢
  clear h hn hu
  obtain ⟨w0, hw0⟩ : ∃ w0, w.alloc (.cells #[.slice ao n ca, .func (.func 46) #[] #[]] 52) = w0 := ⟨_, rfl⟩
  have B0 : Below w.heap.size w w0 := hw0 ▸ (Below.refl _ _).alloc (Nat.le_refl _) _
  have I0 : Loc w0 w.heap.size #[.slice ao n ca, .func (.func 46) #[] #[]] := hw0 ▸ loc_at w _ _ rfl
  have q0 := I0.cell 0 rfl
  have L0 := hL.below B0 lL
  have HV : Hid (∀ j, (Value.slice ao n ca).ownBlock = some j → ¬ j = lb) := hide fun j hj e => hv (by rw [hj, e])
  go_enter Try.func37, Try.ntmps37
  go_wp2
  clear hw0 q0
  go_loopw [7, 13] (fun pv i wr => ∃ (k : Nat) (u v : Value), k ≤ n ∧ i = .int .i64 k ∧ OT wr w.heap.size pv (takeRun xs ys (ts.take k)).2 ∧ Loc wr lb #[u, v] ∧ RI wr u (takeRun xs ys (ts.take k)).1.1 ∧ RI wr v (takeRun xs ys (ts.take k)).1.2 ∧ ((∀ j, pv.ownBlock = some j → u.ownBlock ≠ some j) ∧ (∀ j, pv.ownBlock = some j → v.ownBlock ≠ some j)) ∧ (u.ownBlock ≠ some lb ∧ v.ownBlock ≠ some lb) ∧ w.heap.size ≤ wr.heap.size ∧ Kp w wr (fun j => j = lb)) (fun _ i _ => n - (intOf i).toNat)
  case atStart => exact ⟨0, u0, v0, Nat.zero_le _, rfl, World.ownsRow_nil _ _ _ _, L0, (unhide RU).1.below B0 (Nat.le_refl _), (unhide RU).2.below B0 (Nat.le_refl _), ⟨fun j hj => by simp [Value.ownBlock] at hj, fun j hj => by simp [Value.ownBlock] at hj⟩, hn0, B0.size, Below.kpOf B0 _⟩
  case round =>
    clear L0 B0 I0
    obtain ⟨k, u, v, hk, rfl, op, L, ru, rv, ⟨nu, nv⟩, ⟨mu, mv⟩, sr, kr⟩ := hrel
    have tp := World.ownsRow.lt op
    obtain ⟨pa, pc, rfl⟩ := op.form
    have LEN := takeRun_len xs ys ts k (by rw [unhide Hn]; exact hk)
    by_cases hlt : k < n
    · have HR := hide ((unhide H).kp kr (unhide HV))
      have SUC := hide (takeRun_succ xs ys ts k (by rw [unhide Hn]; exact hlt))
      have FUL := hide (takeRun_full xs ys ts k)
      obtain ⟨r, hr⟩ : ∃ r, takeRun xs ys (ts.take k) = r := ⟨_, rfl⟩
      rw [hr] at SUC FUL op ru rv LEN
      simp only [hr] at tp nu nv ⊢
      clear hr
      obtain ⟨g, rfl, hx⟩ := (unhide HR).at k (by rw [unhide Hn]; exact hlt)
      obtain ⟨x, hx0⟩ : ∃ x, ts.getD k z4 = x := ⟨_, rfl⟩
      rw [hx0] at SUC hx
      clear hx0
      obtain ⟨c0, c1, c2, c3⟩ := hx
      have FI := hide fun w h1 h2 => take_fits x lb u v r.1.1 r.1.2 w h1 h2
      have hp := payAns_len (xs := r.1.1) (ys := r.1.2) (a := x.1) (b := x.2.1) (c := x.2.2.1) (d := x.2.2.2)
      unfold takeStep payOf at SUC
      obtain ⟨xa, xb, xc, xd⟩ := x
      dsimp only at c0 c1 c2 c3 FI SUC hp
      obtain ⟨s, hs⟩ : ∃ s, payAns r.1.1 r.1.2 xa xb xc xd = s := ⟨_, rfl⟩
      rw [hs] at FI SUC hp
      have HS1 : Hid (s.1.length ≤ 4194304 ∧ s.2.1.length ≤ 4194304) := hide (by omega)
      clear hs hp
      by_cases h2 : r.2.length = 2
      · have e := hide (unhide FUL h2)
        have op := hide op
        clear FUL SUC FI HR LEN ru rv
        go_wp2
        clear h2
        go_ret
        exact ⟨_, rfl, by unfold takeAns; rw [unhide e]; exact (unhide op).below ((Below.refl _ _).alloc (Nat.le_refl _) _), (kr.trans (Below.kpOf ((Below.refl _ _).alloc (Nat.le_refl _) _) _))⟩
      · have h2' : ((r.2.length : Int) == 2) = false := by simp; omega
        have SUC := hide (show takeRun xs ys (ts.take (k + 1)) = ((s.1, s.2.1), if Took s then r.2 ++ [(xa, xb, xc, xd)] else r.2) by have := unhide SUC; rwa [if_neg h2] at this)
        have op := hide op
        obtain ⟨w1, hw1⟩ : ∃ y, wr.alloc (.cells #[.int .i64 xa, .int .i64 xb, .int .i64 xc, .int .i64 xd] 33) = y := ⟨_, rfl⟩
        have b1 : Below wr.heap.size wr w1 := hw1 ▸ (Below.refl _ _).alloc (Nat.le_refl _) _
        have z1 : w1.heap.size = wr.heap.size + 1 := by rw [← hw1]; simp
        have X1 : Loc w1 wr.heap.size #[.int .i64 xa, .int .i64 xb, .int .i64 xc, .int .i64 xd] := hw1 ▸ loc_at wr _ _ rfl
        have L1 := L.below b1 L.lt
        have ru1 := ru.below b1 (Nat.le_refl _)
        have rv1 := rv.below b1 (Nat.le_refl _)
        obtain ⟨x0, x1, x2, x3⟩ := X1.cells4
        clear FUL h2 HR ru rv
        go_wp2_with fail
        clear hw1 c0 c1 c2 c3 x0 x1 x2 x3
        refine (unhide FI _ L1 ⟨ru1, rv1⟩).mono ?_
        rintro _ w2 ⟨u2, v2, rfl, L2, ol2, k2⟩
        have z2 := k2.size
        have op2 := hide (((unhide op).below b1).kp k2 (fun j hj e => by have := tp j hj; omega))
        have X2 := X1.kp k2 (by omega)
        have kr2 : Kp w w2 (fun j => j = lb) := (kr.trans (Below.kpOf b1 _)).trans k2
        have t2 : ∀ j, u2.ownBlock = some j → w1.heap.size ≤ j ∧ j < w2.heap.size := World.ownsRow.lt ol2.has
        have t2' : ∀ j, v2.ownBlock = some j → w1.heap.size ≤ j ∧ j < w2.heap.size := World.ownsRow.lt ol2.next
        have ol2 := hide ol2
        have L2 := hide L2
        have kr2 := hide kr2
        obtain ⟨x0, x1, x2, x3⟩ := X2.cells4
        clear FI L1 ru1 rv1 X1 k2 op
        by_cases hT : Took s
        · rw [decide_eq_true hT]
          have SUC := hide (show takeRun xs ys (ts.take (k + 1)) = ((s.1, s.2.1), r.2 ++ [(xa, xb, xc, xd)]) by have := unhide SUC; rwa [if_pos hT] at this)
          obtain ⟨w3, hw3⟩ : ∃ y, w2.alloc (.cells #[.int .i64 xa, .int .i64 xb, .int .i64 xc, .int .i64 xd] 33) = y := ⟨_, rfl⟩
          have b3 : Below w2.heap.size w2 w3 := hw3 ▸ (Below.refl _ _).alloc (Nat.le_refl _) _
          have z3 := b3.size
          have P3 : Hid (PT w3 (.slice (some ⟨w2.heap.size, 0, none⟩) 1 1) [(xa, xb, xc, xd)]) := hide (hw3 ▸ OT.pt (base := 0) (World.ownsRow_lit w2 #[.int .i64 xa, .int .i64 xb, .int .i64 xc, .int .i64 xd] 1 (Nat.zero_le _) (by unfold maxLen; omega) rfl))
          have op3 := hide ((unhide op2).below b3)
          clear hT
          go_wp2_with (first | (at_builtin; refine append_piece rfl _ _ rfl w.heap.size (.slice pa r.2.length pc) (.slice (some ⟨w2.heap.size, 0, none⟩) 1 1) r.2 [(xa, xb, xc, xd)] rfl rfl (unhide op3) (unhide P3) (by simp; omega) (by omega) ?_; intro v4 w4 ho4 hg4 hb4; have O4 := hide ho4; have kp4 := hide (kp_grown hg4); have HB4 := hide hb4; clear ho4 hg4 hb4))
          clear hw3
          have k4 := unhide kp4
          have kr4 : Kp w w4 (fun j => j = lb) := ⟨k4.os.trans ((unhide kr2).trans (Below.kpOf b3 _)).os, k4.tape.trans ((unhide kr2).trans (Below.kpOf b3 _)).tape, k4.output.trans ((unhide kr2).trans (Below.kpOf b3 _)).output, Nat.le_trans ((unhide kr2).trans (Below.kpOf b3 _)).size k4.size, fun j hj hx => (k4.block j (by omega) (fun e => by have := tp j e; omega)).trans (((unhide kr2).trans (Below.kpOf b3 _)).block j hj hx)⟩
          have L4 := ((unhide L2).below b3 (by omega)).kp k4 (fun e => by have := tp _ e; omega)
          have ol4 := ((unhide ol2).below b3).kp k4 (fun j h1 h2 e => by have := tp _ e; omega)
          have z4 := k4.size
          have tb : ∀ j, v4.ownBlock = some j → j < wr.heap.size ∨ w3.heap.size ≤ j := fun j hj => by
            rcases unhide HB4 with e | e
            · rw [e] at hj; exact .inl (tp j hj).2
            · rw [e] at hj; cases hj; exact .inr (Nat.le_refl _)
          have SUC := hide (unhide SUC)
          go_roundw
          case rel =>
            refine ⟨k + 1, u2, v2, by omega, by go_num, ?_⟩
            rw [unhide SUC]
            exact ⟨unhide O4, L4, (ol4.ri (unhide HS1).1 (unhide HS1).2).1, (ol4.ri (unhide HS1).1 (unhide HS1).2).2, ⟨fun j hj e => by have := tb j hj; have := t2 j e; omega, fun j hj e => by have := tb j hj; have := t2' j e; omega⟩, ⟨fun e => by have := t2 _ e; omega, fun e => by have := t2' _ e; omega⟩, by omega, kr4⟩
          case measure => simp [intOf]; omega
        · rw [decide_eq_false hT]
          have SUC := hide (show takeRun xs ys (ts.take (k + 1)) = ((s.1, s.2.1), r.2) by have := unhide SUC; rwa [if_neg hT] at this)
          clear hT
          go_wp2
          go_roundw
          case rel =>
            refine ⟨k + 1, u2, v2, by omega, by go_num, ?_⟩
            rw [unhide SUC]
            exact ⟨unhide op2, unhide L2, ((unhide ol2).ri (unhide HS1).1 (unhide HS1).2).1, ((unhide ol2).ri (unhide HS1).1 (unhide HS1).2).2, ⟨fun j hj e => by have := tp j hj; have := t2 j e; omega, fun j hj e => by have := tp j hj; have := t2' j e; omega⟩, ⟨fun e => by have := t2 _ e; omega, fun e => by have := t2' _ e; omega⟩, by omega, unhide kr2⟩
          case measure => simp [intOf]; omega
    · have e1 : ts.take k = ts := List.take_of_length_le (by rw [unhide Hn]; omega)
      have e2 : Hid (takeRun xs ys ts = takeRun xs ys (ts.take k)) := hide (by rw [e1])
      have op := hide op
      clear ru rv LEN e1
      go_wp2
      go_ret
      exact ⟨_, rfl, by unfold takeAns; rw [unhide e2]; exact unhide op, kr⟩

set_option maxHeartbeats 8000000 in
set_option maxRecDepth 100000 in
theorem pick_drop (v : Value) (ts : List T4) (lb : Nat) (u0 v0 : Value) (xs ys : List Int) (w : World) (h : RT w v ts) (hl : ts.length ≤ 4000000) (hv : v.ownBlock ≠ some lb) (hL : Loc w lb #[u0, v0]) (hu : RI w u0 xs ∧ RI w v0 ys) (_hn0 : u0.ownBlock ≠ some lb ∧ v0.ownBlock ≠ some lb) :
    Calls Try.prog 37 #[.agg #[v, .func (.func 46) #[] #[]], .int .i64 ts.length, .func (.func 42) #[] #[.pointer (some ⟨lb, 0, none⟩)]] w fun e w' => ∃ p, e = .returned p ∧ OT w' w.heap.size p (dropAns xs ys ts) ∧ Kp w w' (fun j => j = lb) := by
  obtain ⟨ao, ca, rfl⟩ := h.form
  have H := hide h
  have lL := hL.lt
  have RU := hide hu
  have hxl := hu.1.1
  have hyl := hu.2.1
  obtain ⟨n, hn⟩ : ∃ n, ts.length = n := ⟨_, rfl⟩
  have Hn := hide hn
  rw [hn] at hl H hv ⊢
  clear h hn hu
  obtain ⟨w0, hw0⟩ : ∃ w0, w.alloc (.cells #[.slice ao n ca, .func (.func 46) #[] #[]] 52) = w0 := ⟨_, rfl⟩
  have B0 : Below w.heap.size w w0 := hw0 ▸ (Below.refl _ _).alloc (Nat.le_refl _) _
  have I0 : Loc w0 w.heap.size #[.slice ao n ca, .func (.func 46) #[] #[]] := hw0 ▸ loc_at w _ _ rfl
  have q0 := I0.cell 0 rfl
  have L0 := hL.below B0 lL
  have HV : Hid (∀ j, (Value.slice ao n ca).ownBlock = some j → ¬ j = lb) := hide fun j hj e => hv (by rw [hj, e])
  go_enter Try.func37, Try.ntmps37
  go_wp2
  clear hw0 q0
  go_loopw [7, 13] (fun pv i wr => ∃ (k : Nat), k ≤ n ∧ i = .int .i64 k ∧ OT wr w.heap.size pv (dropAns xs ys (ts.take k)) ∧ w.heap.size ≤ wr.heap.size ∧ Below w.heap.size w wr) (fun _ i _ => n - (intOf i).toNat)
  case atStart => exact ⟨0, Nat.zero_le _, rfl, World.ownsRow_nil _ _ _ _, B0.size, B0⟩
  case round =>
    clear L0 B0 I0
    obtain ⟨k, hk, rfl, op, sr, br⟩ := hrel
    have tp := World.ownsRow.lt op
    obtain ⟨pa, pc, rfl⟩ := op.form
    have LEN := dropAns_len xs ys (ts.take k)
    rw [List.length_take] at LEN
    by_cases hlt : k < n
    · have HR := hide ((unhide H).below br)
      have SUC := hide (dropAns_succ xs ys ts k (by rw [unhide Hn]; exact hlt))
      obtain ⟨r, hr⟩ : ∃ r, dropAns xs ys (ts.take k) = r := ⟨_, rfl⟩
      rw [hr] at SUC op LEN
      simp only [hr] at tp ⊢
      clear hr
      obtain ⟨g, rfl, hx⟩ := (unhide HR).at k (by rw [unhide Hn]; exact hlt)
      obtain ⟨x, hx0⟩ : ∃ x, ts.getD k z4 = x := ⟨_, rfl⟩
      rw [hx0] at SUC hx
      clear hx0
      obtain ⟨c0, c1, c2, c3⟩ := hx
      have FI := hide fun w h1 h2 => drop_fits x lb u0 v0 xs ys w h1 h2
      have SX : Hid (Stays xs ys x ↔ ¬ (payAns xs ys x.1 x.2.1 x.2.2.1 x.2.2.2).2.2 = 2) := hide Iff.rfl
      obtain ⟨xa, xb, xc, xd⟩ := x
      dsimp only at c0 c1 c2 c3 FI SX
      obtain ⟨s, hs⟩ : ∃ s, (payAns xs ys xa xb xc xd).2.2 = s := ⟨_, rfl⟩
      rw [hs] at FI SX
      clear hs
      have h2' : ((r.length : Int) == (n : Int)) = false := by simp; omega
      have op := hide op
      obtain ⟨w1, hw1⟩ : ∃ y, wr.alloc (.cells #[.int .i64 xa, .int .i64 xb, .int .i64 xc, .int .i64 xd] 33) = y := ⟨_, rfl⟩
      have b1 : Below wr.heap.size wr w1 := hw1 ▸ (Below.refl _ _).alloc (Nat.le_refl _) _
      have z1 : w1.heap.size = wr.heap.size + 1 := by rw [← hw1]; simp
      have X1 : Loc w1 wr.heap.size #[.int .i64 xa, .int .i64 xb, .int .i64 xc, .int .i64 xd] := hw1 ▸ loc_at wr _ _ rfl
      have B1 := br.trans (b1.mono br.size)
      obtain ⟨x0, x1, x2, x3⟩ := X1.cells4
      have HRL := hide LEN
      clear HR LEN
      go_wp2_with fail
      clear hw1 c0 c1 c2 c3 x0 x1 x2 x3
      refine (unhide FI _ (hL.below B1 lL) ⟨(unhide RU).1.below B1 (Nat.le_refl _), (unhide RU).2.below B1 (Nat.le_refl _)⟩).mono ?_
      rintro _ w2 ⟨rfl, b2⟩
      have z2 := b2.size
      have op2 := hide (((unhide op).below b1).below b2)
      have X2 := X1.below b2 (by omega)
      have B2 := B1.trans (b2.mono B1.size)
      obtain ⟨x0, x1, x2, x3⟩ := X2.cells4
      clear FI X1 b1 b2 op B1
      by_cases hT : ¬ s = 2
      · rw [decide_eq_true hT]
        have SUC := hide (show dropAns xs ys (ts.take (k + 1)) = r ++ [(xa, xb, xc, xd)] by have := unhide SUC; rwa [if_pos ((unhide SX).2 hT)] at this)
        obtain ⟨w3, hw3⟩ : ∃ y, w2.alloc (.cells #[.int .i64 xa, .int .i64 xb, .int .i64 xc, .int .i64 xd] 33) = y := ⟨_, rfl⟩
        have b3 : Below w2.heap.size w2 w3 := hw3 ▸ (Below.refl _ _).alloc (Nat.le_refl _) _
        have z3 := b3.size
        have B3 := hide (B2.trans (b3.mono B2.size))
        have P3 : Hid (PT w3 (.slice (some ⟨w2.heap.size, 0, none⟩) 1 1) [(xa, xb, xc, xd)]) := hide (hw3 ▸ OT.pt (base := 0) (World.ownsRow_lit w2 #[.int .i64 xa, .int .i64 xb, .int .i64 xc, .int .i64 xd] 1 (Nat.zero_le _) (by unfold maxLen; omega) rfl))
        have op3 := hide ((unhide op2).below b3)
        have hrl : r.length ≤ 4000000 := by have := unhide HRL; omega
        clear hT
        go_wp2_with (first | (at_builtin; refine append_piece rfl _ _ rfl w.heap.size (.slice pa r.length pc) (.slice (some ⟨w2.heap.size, 0, none⟩) 1 1) r [(xa, xb, xc, xd)] rfl rfl (unhide op3) (unhide P3) (by simp; omega) (by omega) ?_; intro v4 w4 ho4 hg4 _; have O4 := hide ho4; have B4 := hide ((unhide B3).grown hg4 (unhide B3).size (fun j hj => (tp j hj).1)); clear ho4 hg4))
        clear hw3
        have z4 := (unhide B4).size
        go_roundw
        case rel =>
          refine ⟨k + 1, by omega, by go_num, ?_⟩
          rw [unhide SUC]
          exact ⟨unhide O4, z4, unhide B4⟩
        case measure => simp [intOf]; omega
      · rw [decide_eq_false hT]
        have SUC := hide (show dropAns xs ys (ts.take (k + 1)) = r by have := unhide SUC; rwa [if_neg (fun h => hT ((unhide SX).1 h)), List.append_nil] at this)
        clear hT
        go_wp2
        go_roundw
        case rel =>
          refine ⟨k + 1, by omega, by go_num, ?_⟩
          rw [unhide SUC]
          exact ⟨unhide op2, B2.size, B2⟩
        case measure => simp [intOf]; omega
    · have e1 : ts.take k = ts := List.take_of_length_le (by rw [unhide Hn]; omega)
      have e2 : Hid (dropAns xs ys ts = dropAns xs ys (ts.take k)) := hide (by rw [e1])
      have op := hide op
      clear LEN e1
      go_wp2
      go_ret
      exact ⟨_, rfl, by rw [unhide e2]; exact unhide op, Below.kpOf br _⟩

set_option maxHeartbeats 1600000 in
set_option maxRecDepth 100000 in
theorem implPoolTake (v u0 v0 : Value) (ts : List T4) (xs ys : List Int) (w : World) (h : RT w v ts) (hl : ts.length ≤ 4000000) (hu : RI w u0 xs ∧ RI w v0 ys) (hv : ∀ j, v.ownBlock = some j → j < w.heap.size) (hu0 : ∀ j, u0.ownBlock = some j → j < w.heap.size) (hv0 : ∀ j, v0.ownBlock = some j → j < w.heap.size) :
    Calls Try.prog 20 #[v, lv u0 v0] w fun e w' => ∃ p, e = .returned p ∧ OT w' w.heap.size p (takeAns xs ys ts) ∧ Below w.heap.size w w' := by
  have H := hide h
  have RU := hide hu
  have PK := hide fun lb w h1 h2 h3 h4 h5 => pick_take v ts lb u0 v0 xs ys w h1 hl h2 h3 h4 h5
  obtain ⟨ao, ca, rfl⟩ := h.form
  obtain ⟨ua, uc, rfl⟩ := hu.1.form
  obtain ⟨va, vc, rfl⟩ := hu.2.form
  obtain ⟨w0, hw0⟩ : ∃ w0, w.alloc (.cells #[.slice ua xs.length uc, .slice va ys.length vc] 42) = w0 := ⟨_, rfl⟩
  have B0 : Below w.heap.size w w0 := hw0 ▸ (Below.refl _ _).alloc (Nat.le_refl _) _
  have L0 : Loc w0 w.heap.size #[.slice ua xs.length uc, .slice va ys.length vc] := hw0 ▸ loc_at w _ _ rfl
  have HV := hide hv
  have HU := hide hu0
  have HW := hide hv0
  clear h hu hv hu0 hv0
  go_enter Try.func20, Try.ntmps20
  go_wp2_with fail
  clear hw0
  refine (waiting_any _ _ _ _).mono ?_
  rintro _ w1 ⟨rfl, b1⟩
  have B1 := B0.trans (b1.mono B0.size)
  have L1 := L0.below b1 L0.lt
  go_wp2_with fail
  refine (unhide PK w.heap.size _ ((unhide H).below B1) (fun e => by have := unhide HV _ e; omega) L1 ⟨(unhide RU).1.below B1 (Nat.le_refl _), (unhide RU).2.below B1 (Nat.le_refl _)⟩ ⟨fun e => by have := unhide HU _ e; omega, fun e => by have := unhide HW _ e; omega⟩).mono ?_
  rintro _ w2 ⟨p, rfl, op, k2⟩
  have B2 := Below.kp B1 k2 B1.size (fun j e => by omega)
  have op := hide op
  go_wp2
  go_ret
  exact ⟨_, rfl, (unhide op).mono B1.size, B2⟩

set_option maxHeartbeats 1600000 in
set_option maxRecDepth 100000 in
theorem implPoolDrop (v u0 v0 : Value) (ts : List T4) (xs ys : List Int) (w : World) (h : RT w v ts) (hl : ts.length ≤ 4000000) (hu : RI w u0 xs ∧ RI w v0 ys) (hv : ∀ j, v.ownBlock = some j → j < w.heap.size) (hu0 : ∀ j, u0.ownBlock = some j → j < w.heap.size) (hv0 : ∀ j, v0.ownBlock = some j → j < w.heap.size) :
    Calls Try.prog 24 #[v, lv u0 v0] w fun e w' => ∃ p, e = .returned p ∧ OT w' w.heap.size p (dropAns xs ys ts) ∧ Below w.heap.size w w' := by
  have H := hide h
  have RU := hide hu
  have PK := hide fun lb w h1 h2 h3 h4 h5 => pick_drop v ts lb u0 v0 xs ys w h1 hl h2 h3 h4 h5
  obtain ⟨ao, ca, rfl⟩ := h.form
  obtain ⟨ua, uc, rfl⟩ := hu.1.form
  obtain ⟨va, vc, rfl⟩ := hu.2.form
  obtain ⟨w0, hw0⟩ : ∃ w0, w.alloc (.cells #[.slice ua xs.length uc, .slice va ys.length vc] 42) = w0 := ⟨_, rfl⟩
  have B0 : Below w.heap.size w w0 := hw0 ▸ (Below.refl _ _).alloc (Nat.le_refl _) _
  have L0 : Loc w0 w.heap.size #[.slice ua xs.length uc, .slice va ys.length vc] := hw0 ▸ loc_at w _ _ rfl
  have HV := hide hv
  have HU := hide hu0
  have HW := hide hv0
  clear h hu hv hu0 hv0
  go_enter Try.func24, Try.ntmps24
  go_wp2_with fail
  clear hw0
  refine (waiting_any _ _ _ _).mono ?_
  rintro _ w1 ⟨rfl, b1⟩
  have B1 := B0.trans (b1.mono B0.size)
  have L1 := L0.below b1 L0.lt
  go_wp2_with fail
  refine (unhide PK w.heap.size _ ((unhide H).below B1) (fun e => by have := unhide HV _ e; omega) L1 ⟨(unhide RU).1.below B1 (Nat.le_refl _), (unhide RU).2.below B1 (Nat.le_refl _)⟩ ⟨fun e => by have := unhide HU _ e; omega, fun e => by have := unhide HW _ e; omega⟩).mono ?_
  rintro _ w2 ⟨p, rfl, op, k2⟩
  have B2 := Below.kp B1 k2 B1.size (fun j e => by omega)
  have op := hide op
  go_wp2
  go_ret
  exact ⟨_, rfl, (unhide op).mono B1.size, B2⟩
end Go.Proofs.Ythdehhenkgkkmaa
