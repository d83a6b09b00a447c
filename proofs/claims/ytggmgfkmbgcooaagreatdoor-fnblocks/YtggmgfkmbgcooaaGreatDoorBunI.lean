/- Texts that belong together: Loc, HeldBy, AscInts, Conf, MarkInts, Qc, QcSame, QcLater, QcOut. -/
import Derived.Test.YtggmgfkmbgcooaaGreatDoorBunH
import Derived.Deep.RegionHeld3
import Derived.Below
import Derived.Laws.EntriesVeiled
import Derived.Test.YtggmgfkmbgcooaaGreatDoorBunA
import Derived.Deep.DeepCutAuto
import Derived.Test.YtggmgfkmbgcooaaGreatDoorBunB
import Derived.BigQuiet
import Derived.Test.YtggmgfkmbgcooaaGreatDoorBunC
import Derived.Deep.RegionWith
import Derived.Deep.RegionLaw
import Derived.Laws.CopyOwn
/- Blocks of known cells. -/
namespace Go.Proofs.YtggmgfkmbgcooaaGreatDoor
open Go.RowKit

/-- Block g has the cells cs. -/
def Loc (w : World) (g : Nat) (cs : Array Value) : Prop := ∃ t, w.heap[g]? = some (.cells cs t (0, 0))
theorem loc_at (w : World) (cs : Array Value) (t : TypeId) {g : Nat} (h : w.heap.size = g) : Loc (w.alloc (.cells cs t)) g cs := h ▸ ⟨t, heap_alloc_new w _⟩
theorem Loc.lt {w : World} {g : Nat} {cs : Array Value} (h : Loc w g cs) : g < w.heap.size := by obtain ⟨t, h⟩ := h; exact (Array.getElem?_eq_some_iff.1 h).1
theorem Loc.cell {w : World} {g : Nat} {cs : Array Value} (h : Loc w g cs) (j : Nat) {v : Value} (hj : cs[j]? = some v) : w.cell? ⟨g, j, none⟩ = some v := by
  obtain ⟨t, h⟩ := h
  rw [cell_of_row w g j _ t (0, 0) h]; exact hj
theorem Loc.frozen {w : World} {g : Nat} {cs : Array Value} (h : Loc w g cs) (j : Nat) : w.frozen? ⟨g, j, none⟩ = false := by obtain ⟨t, h⟩ := h; exact frozen_of_row w g j _ t h
theorem Loc.below {w w' : World} {g B : Nat} {cs : Array Value} (h : Loc w g cs) (hb : Below B w w') (hg : g < B) : Loc w' g cs := by obtain ⟨t, h⟩ := h; exact ⟨t, (hb.block g hg).trans h⟩
theorem Loc.kp {w w' : World} {g : Nat} {X : Nat → Prop} {cs : Array Value} (h : Loc w g cs) (k : Kp w w' X) (hg : ¬ X g) : Loc w' g cs := by have hl := h.lt; obtain ⟨t, h⟩ := h; exact ⟨t, (k.block g hl hg).trans h⟩
theorem Loc.alloc {w : World} {g : Nat} {cs : Array Value} (h : Loc w g cs) (o : Obj) : Loc (w.alloc o) g cs := h.kp (X := fun _ => False) (Below.kpOf ((Below.refl _ _).alloc (Nat.le_refl _) o) _) (fun h => h)
theorem Loc.drewN {w : World} {g : Nat} {cs : Array Value} (h : Loc w g cs) (n : Nat) : Loc (w.drewN n) g cs := h
theorem Loc.set {w : World} {g : Nat} {cs : Array Value} (h : Loc w g cs) (j : Nat) (u : Value) {cs' : Array Value} (e : cs.setIfInBounds j u = cs') : Loc (w.setCell ⟨g, j, none⟩ u) g cs' := by obtain ⟨t, h⟩ := h; exact ⟨t, by rw [heap_setCell_same w g j _ t u h, e]⟩
theorem Loc.other {w : World} {g : Nat} {cs : Array Value} (h : Loc w g cs) {p : Addr} (hp : g ≠ p.block) (u : Value) : Loc (w.setCell p u) g cs := by obtain ⟨t, h⟩ := h; exact ⟨t, (heap_setCell_other w p g u hp).trans h⟩

/-- A row of four numbers as a value; its cells. -/
abbrev rv (a b c d : Int) : Value := .agg #[.int .i64 a, .int .i64 b, .int .i64 c, .int .i64 d]
abbrev r4 (a b c d : Int) : Array Value := #[.int .i64 a, .int .i64 b, .int .i64 c, .int .i64 d]
theorem Loc.cells4 {w : World} {g : Nat} {a b c d : Int} (h : Loc w g (r4 a b c d)) :
    w.cell? ⟨g, 0, none⟩ = some (.int .i64 a) ∧ w.cell? ⟨g, 1, none⟩ = some (.int .i64 b) ∧ w.cell? ⟨g, 2, none⟩ = some (.int .i64 c) ∧ w.cell? ⟨g, 3, none⟩ = some (.int .i64 d) :=
  ⟨h.cell 0 rfl, h.cell 1 rfl, h.cell 2 rfl, h.cell 3 rfl⟩
end Go.Proofs.YtggmgfkmbgcooaaGreatDoor

/- An operation of a region that draws its order, taken first, its slot written out. -/
namespace Go.Proofs.YtggmgfkmbgcooaaGreatDoor
open Go Go.RowKit
section
variable {P : Program} {ops : Array Oper} {Q : Exit → Act → World → Prop} {md : Region.Mode} {S : World → Prop}
theorem take_at {i d : Nat} {oi : Oper} {v : Value} {fuel : Nat} {listed : Array Bool} {a : Act} {w : World} (hi : ops[i]? = some oi) (hd : oi.dst = some d)
    (hs : Region.noSelect ops = true) (hf : Region.free md ops listed i = true) (hr : (Region.ready md ops listed).contains i = true)
    (hQ : ∀ c a w, Q (.panic c) (a.put (some d) v) w → Q (.panic c) a w) (hy : YieldsIf P ops S oi v a) (hS : S w)
    (h : wpAnyH P md ops Q S fuel (listed.setIfInBounds i true) (a.put (some d) v) w) : wpAnyH P md ops Q S (fuel + 1) listed a w :=
  wpAnyH_take hi hs hf hr (by rw [hd]; exact hQ) hy hS (by rw [hd]; exact h)
theorem ready_at {i : Nat} {o : Oper} {fuel : Nat} {listed : Array Bool} {a : Act} {w : World} (ho : ops[i]? = some o) (hr : Region.ready md ops listed = [i])
    (h : ∀ K' : Act → World → Prop, Shut (∀ a w, S w → (S w → wpAnyH P md ops Q S fuel (listed.setIfInBounds i true) a w) → K' a w) → if Region.wanted o (yielded ops a.tmps) = true then Oper.wp P o a w K' Q else K' (a.put o.dst undef) w) :
    wpAnyH P md ops Q S (fuel + 1) listed a w :=
  wpAnyH_ready hr (by simp) (AllReadyH.cons ho h AllReadyH.nil)
end
theorem undrew {B : Nat} {w w' : World} (h : Below B w.drew w') : Below B w w' := ⟨h.os, h.tape, h.output, h.size, h.block⟩
end Go.Proofs.YtggmgfkmbgcooaaGreatDoor

/- (impl.inOrder[int]).ascends, impl.SetOk. -/
namespace Go.Proofs.YtggmgfkmbgcooaaGreatDoor
open Go.RowKit
set_option linter.unusedSectionVars false
variable [∀ (n : Int) (s : List Int), Decidable (OkL n s)]

set_option maxHeartbeats 400000 in
set_option maxRecDepth 100000 in
theorem isNaN_int (x : Int) (w : World) : Calls Tryz.prog 140 #[.int .i64 x] w fun e w' => e = .returned (.bool false) ∧ Below w.heap.size w w' := by
  go_enter Tryz.func140, Tryz.ntmps140
  go_wp2
  go_ret
  exact ⟨rfl, Below.refl _ _⟩
/-- What cmp.Compare answers. -/
def cmpI (x y : Int) : Int := if x < y then -1 else if y < x then 1 else 0
theorem cmpI_lt (x y : Int) : cmpI x y < 0 ↔ x < y := by
  unfold cmpI
  repeat' split
  all_goals omega
set_option maxHeartbeats 800000 in
set_option maxRecDepth 100000 in
theorem compare_int (x y : Int) (w : World) : Calls Tryz.prog 130 #[.int .i64 x, .int .i64 y] w fun e w' => e = .returned (.int .i64 (cmpI x y)) ∧ Below w.heap.size w w' := by
  have NA := hide fun x w => isNaN_int x w
  unfold cmpI
  by_cases h1 : x < y
  · rw [if_pos h1]
    have d1 : decide (x < y) = true := by simpa using h1
    clear h1
    go_enter Tryz.func130, Tryz.ntmps130
    go_wp2_with fail
    refine (unhide NA _ _).mono ?_
    rintro _ w1 ⟨rfl, b1⟩
    go_wp2_with fail
    refine (unhide NA _ _).mono ?_
    rintro _ w2 ⟨rfl, b2⟩
    go_wp2
    go_ret
    exact ⟨rfl, b1.trans (b2.mono b1.size)⟩
  · rw [if_neg h1]
    have d1 : decide (x < y) = false := by simpa using h1
    clear h1
    by_cases h2 : y < x
    · rw [if_pos h2]
      have d2 : decide (y < x) = true := by simpa using h2
      have d3 : decide (x > y) = true := by simpa using h2
      clear h2
      go_enter Tryz.func130, Tryz.ntmps130
      go_wp2_with fail
      refine (unhide NA _ _).mono ?_
      rintro _ w1 ⟨rfl, b1⟩
      go_wp2_with fail
      refine (unhide NA _ _).mono ?_
      rintro _ w2 ⟨rfl, b2⟩
      go_wp2
      go_ret
      exact ⟨rfl, b1.trans (b2.mono b1.size)⟩
    · rw [if_neg h2]
      have d2 : decide (y < x) = false := by simpa using h2
      have d3 : decide (x > y) = false := by simpa using h2
      clear h2
      go_enter Tryz.func130, Tryz.ntmps130
      go_wp2_with fail
      refine (unhide NA _ _).mono ?_
      rintro _ w1 ⟨rfl, b1⟩
      go_wp2_with fail
      refine (unhide NA _ _).mono ?_
      rintro _ w2 ⟨rfl, b2⟩
      go_wp2
      go_ret
      exact ⟨rfl, b1.trans (b2.mono b1.size)⟩
/-- Neighbours go up. -/
def AscI (xs : List Int) : Prop := ∀ j, j + 1 < xs.length → xs.getD j 0 < xs.getD (j + 1) 0
theorem ascI_iff (xs : List Int) : AscI xs ↔ xs.Pairwise (· < ·) := by
  constructor
  · intro h
    refine List.pairwise_iff_getElem.2 fun i j hi hj hij => ?_
    have key : ∀ d, i + d + 1 < xs.length → xs.getD i 0 < xs.getD (i + d + 1) 0 := by
      intro d
      induction d with
      | zero => exact fun hd => h i hd
      | succ d ih => exact fun hd => Int.lt_trans (ih (by omega)) (h (i + d + 1) hd)
    have := key (j - i - 1) (by omega)
    rw [show i + (j - i - 1) + 1 = j from by omega] at this
    simpa [List.getD_eq_getElem?_getD, List.getElem?_eq_getElem hi, List.getElem?_eq_getElem hj] using this
  · intro h j hj
    have := List.pairwise_iff_getElem.1 h j (j + 1) (by omega) hj (by omega)
    simpa [List.getD_eq_getElem?_getD, List.getElem?_eq_getElem hj, List.getElem?_eq_getElem (show j < xs.length by omega)] using this
set_option maxHeartbeats 1000000 in
set_option maxRecDepth 100000 in
theorem ascends_int (v : Value) (xs : List Int) (w : World) (h : RI w v xs) :
    Calls Tryz.prog 131 #[.agg #[v, .func (.func 130) #[] #[]]] w fun e w' => e = .returned (.bool (decide (xs.Pairwise (· < ·)))) ∧ Below w.heap.size w w' := by
  obtain ⟨ao, ca, rfl⟩ := h.form
  have hl := h.1
  have H := hide h
  obtain ⟨n, hn⟩ : ∃ n, xs.length = n := ⟨_, rfl⟩
  have Hn := hide hn
  rw [hn] at hl H ⊢
  clear h hn
  obtain ⟨w0, hw0⟩ : ∃ w0, w.alloc (.cells #[.slice ao n ca, .func (.func 130) #[] #[]] 156) = w0 := ⟨_, rfl⟩
  have B0 : Below w.heap.size w w0 := hw0 ▸ (Below.refl _ _).alloc (Nat.le_refl _) _
  have L0 : Loc w0 w.heap.size #[.slice ao n ca, .func (.func 130) #[] #[]] := hw0 ▸ loc_at w _ _ rfl
  go_enter Tryz.func131, Tryz.ntmps131
  go_wp2
  clear hw0
  go_loopw [3] (fun i wr => ∃ m : Nat, 1 ≤ m ∧ m ≤ n + 1 ∧ i = .int .i64 m ∧ Hid (∀ j, j + 1 < m → j + 1 < n → xs.getD j 0 < xs.getD (j + 1) 0) ∧ Loc wr w.heap.size #[.slice ao n ca, .func (.func 130) #[] #[]] ∧ Below w.heap.size w wr) (fun i _ => n + 1 - (intOf i).toNat)
  case atStart => exact ⟨1, Nat.le_refl _, by omega, by go_num, hide (fun j hj => absurd hj (by omega)), L0, B0⟩
  case round =>
    clear L0 B0
    obtain ⟨m, hm1, hm, rfl, HA, L, br⟩ := hrel
    have q0 := L.cell 0 rfl
    have q1 := L.cell 1 rfl
    by_cases hlt : m < n
    · obtain ⟨k, hk⟩ : ∃ k, m = k + 1 := ⟨m - 1, by omega⟩
      have hk1 : (m : Int) - 1 = (k : Int) := by omega
      have hwk : IntKind.i64.wrap (k : Int) = (k : Int) := by rw [IntKind.wrap_i64]; omega
      have hkn : k < n := by omega
      obtain ⟨g, off, rfl, cx⟩ := ((unhide H).below br (Nat.le_refl _)).at k (by rw [unhide Hn]; omega)
      obtain ⟨g', off', e, cy⟩ := ((unhide H).below br (Nat.le_refl _)).at m (by rw [unhide Hn]; omega)
      cases e
      have CT := hide fun w => compare_int (xs.getD k 0) (xs.getD m 0) w
      have HS : Hid (xs.getD k 0 < xs.getD m 0 → ∀ j, j + 1 < m + 1 → j + 1 < n → xs.getD j 0 < xs.getD (j + 1) 0) := hide fun h j hj hj2 => by
        by_cases e : j = k
        · rw [e, ← hk]; exact h
        · exact unhide HA j (by omega) hj2
      have HN : Hid (xs.getD m 0 ≤ xs.getD k 0 → ¬ xs.Pairwise (· < ·)) := hide fun h ha => Int.not_lt.2 h (by have := (ascI_iff xs).2 ha k (by rw [unhide Hn]; omega); rwa [← hk] at this)
      clear HA
      generalize xs.getD k 0 = x at *
      generalize xs.getD m 0 = y at *
      replace hk := hide hk
      have K : Hid (∀ w', Below wr.heap.size wr w' → (w'.cell? ⟨w.heap.size, 0, none⟩ = some (.slice (some ⟨g, off, none⟩) n ca) ∧ w'.cell? ⟨w.heap.size, 1, none⟩ = some (.func (.func 130) #[] #[])) ∧ w'.cell? ⟨g, off + k, none⟩ = some (.int .i64 x) ∧ w'.cell? ⟨g, off + m, none⟩ = some (.int .i64 y)) := hide fun w' hb => by
        have l := L.below hb L.lt
        exact ⟨⟨l.cell 0 rfl, l.cell 1 rfl⟩, (hb.cell (cell_lt cx)).trans cx, (hb.cell (cell_lt cy)).trans cy⟩
      have bA : Below wr.heap.size wr wr.drew := Below.drew (Below.refl _ _)
      have hKeep := unhide K _ bA
      clear cx cy
      go_wp2_with fail
      refine wp_region_noPanic ?_
      refine wp_region_held_drew (S := (fun w' => (w'.cell? ⟨w.heap.size, 0, none⟩ = some (.slice (some ⟨g, off, none⟩) n ca) ∧ w'.cell? ⟨w.heap.size, 1, none⟩ = some (.func (.func 130) #[] #[])) ∧ w'.cell? ⟨g, off + k, none⟩ = some (.int .i64 x) ∧ w'.cell? ⟨g, off + m, none⟩ = some (.int .i64 y))) (by kernel_rfl) hKeep (fun hHeld => ?_)
      refine take_at (i := 0) (d := 11) (v := ?_) rfl rfl (by kernel_rfl) (by kernel_rfl) (by kernel_rfl) (fun _ _ _ h => h) (Or.inl ⟨by rfl, ?_⟩) (by assumption) ?_
      rotate_left
      · intro w hSw
        try dsimp only at hSw
        go_simp
        try with_reducible rfl
      simp only [Act.put, List.setIfInBounds_toArray, List.set_cons_zero, List.set_cons_succ]
      refine take_at (i := 1) (d := 12) (v := ?_) rfl rfl (by kernel_rfl) (by kernel_rfl) (by kernel_rfl) (fun _ _ _ h => h) (Or.inl ⟨by rfl, ?_⟩) (by assumption) ?_
      rotate_left
      · intro w hSw
        try dsimp only at hSw
        go_simp
        try with_reducible rfl
      simp only [Act.put, List.setIfInBounds_toArray, List.set_cons_zero, List.set_cons_succ]
      refine take_at (i := 2) (d := 13) (v := ?_) rfl rfl (by kernel_rfl) (by kernel_rfl) (by kernel_rfl) (fun _ _ _ h => h) (Or.inl ⟨by rfl, ?_⟩) (by assumption) ?_
      rotate_left
      · intro w hSw
        try dsimp only at hSw
        go_simp
        try with_reducible rfl
      simp only [Act.put, List.setIfInBounds_toArray, List.set_cons_zero, List.set_cons_succ]
      refine take_at (i := 3) (d := 14) (v := ?_) rfl rfl (by kernel_rfl) (by kernel_rfl) (by kernel_rfl) (fun _ _ _ h => h) (Or.inl ⟨by rfl, ?_⟩) (by assumption) ?_
      rotate_left
      · intro w hSw
        try dsimp only at hSw
        go_simp
        try with_reducible rfl
      simp only [Act.put, List.setIfInBounds_toArray, List.set_cons_zero, List.set_cons_succ]
      refine take_at (i := 4) (d := 15) (v := ?_) rfl rfl (by kernel_rfl) (by kernel_rfl) (by kernel_rfl) (fun _ _ _ h => h) (Or.inl ⟨by rfl, ?_⟩) (by assumption) ?_
      rotate_left
      · intro w hSw
        try dsimp only at hSw
        go_simp
        try with_reducible rfl
      simp only [Act.put, List.setIfInBounds_toArray, List.set_cons_zero, List.set_cons_succ]
      refine take_at (i := 5) (d := 16) (v := ?_) rfl rfl (by kernel_rfl) (by kernel_rfl) (by kernel_rfl) (fun _ _ _ h => h) (Or.inl ⟨by rfl, ?_⟩) (by assumption) ?_
      rotate_left
      · intro w hSw
        try dsimp only at hSw
        go_simp
        try with_reducible rfl
      simp only [Act.put, List.setIfInBounds_toArray, List.set_cons_zero, List.set_cons_succ]
      refine take_at (i := 6) (d := 17) (v := ?_) rfl rfl (by kernel_rfl) (by kernel_rfl) (by kernel_rfl) (fun _ _ _ h => h) (Or.inl ⟨by rfl, ?_⟩) (by assumption) ?_
      rotate_left
      · intro w hSw
        try dsimp only at hSw
        go_simp
        try with_reducible rfl
      simp only [Act.put, List.setIfInBounds_toArray, List.set_cons_zero, List.set_cons_succ]
      refine take_at (i := 7) (d := 18) (v := ?_) rfl rfl (by kernel_rfl) (by kernel_rfl) (by kernel_rfl) (fun _ _ _ h => h) (Or.inl ⟨by rfl, ?_⟩) (by assumption) ?_
      rotate_left
      · intro w hSw
        try dsimp only at hSw
        go_simp
        try with_reducible rfl
      simp only [Act.put, List.setIfInBounds_toArray, List.set_cons_zero, List.set_cons_succ]
      refine take_at (i := 8) (d := 19) (v := ?_) rfl rfl (by kernel_rfl) (by kernel_rfl) (by kernel_rfl) (fun _ _ _ h => h) (Or.inl ⟨by rfl, ?_⟩) (by assumption) ?_
      rotate_left
      · intro w hSw
        try dsimp only at hSw
        go_simp
        try with_reducible rfl
      simp only [Act.put, List.setIfInBounds_toArray, List.set_cons_zero, List.set_cons_succ]
      refine take_at (i := 9) (d := 20) (v := ?_) rfl rfl (by kernel_rfl) (by kernel_rfl) (by kernel_rfl) (fun _ _ _ h => h) (Or.inl ⟨by rfl, ?_⟩) (by assumption) ?_
      rotate_left
      · intro w hSw
        try dsimp only at hSw
        go_simp
        try with_reducible rfl
      simp only [Act.put, List.setIfInBounds_toArray, List.set_cons_zero, List.set_cons_succ]
      refine take_at (i := 10) (d := 21) (v := ?_) rfl rfl (by kernel_rfl) (by kernel_rfl) (by kernel_rfl) (fun _ _ _ h => h) (Or.inl ⟨by rfl, ?_⟩) (by assumption) ?_
      rotate_left
      · intro w hSw
        try dsimp only at hSw
        go_simp
        try with_reducible rfl
      simp only [Act.put, List.setIfInBounds_toArray, List.set_cons_zero, List.set_cons_succ]
      refine take_at (i := 11) (d := 22) (v := ?_) rfl rfl (by kernel_rfl) (by kernel_rfl) (by kernel_rfl) (fun _ _ _ h => h) (Or.inl ⟨by rfl, ?_⟩) (by assumption) ?_
      rotate_left
      · intro w hSw
        try dsimp only at hSw
        go_simp
        try with_reducible rfl
      simp only [Act.put, List.setIfInBounds_toArray, List.set_cons_zero, List.set_cons_succ]
      refine take_at (i := 12) (d := 23) (v := ?_) rfl rfl (by kernel_rfl) (by kernel_rfl) (by kernel_rfl) (fun _ _ _ h => h) (Or.inl ⟨by rfl, ?_⟩) (by assumption) ?_
      rotate_left
      · intro w hSw
        try dsimp only at hSw
        go_simp
        try with_reducible rfl
      simp only [Act.put, List.setIfInBounds_toArray, List.set_cons_zero, List.set_cons_succ]
      refine ready_at (i := 13) rfl (by kernel_rfl) (fun KK hKK => ?_)
      go_simp
      refine (unhide CT _).mono ?_
      rintro _ wa ⟨rfl, ba⟩
      have bB : Below wr.heap.size wr wa := bA.trans ba
      clear hHeld
      refine hKK.out _ _ (unhide K _ bB) (fun hHeld => ?_)
      clear hKK KK
      refine take_at (i := 14) (d := 25) (v := ?_) rfl rfl (by kernel_rfl) (by kernel_rfl) (by kernel_rfl) (fun _ _ _ h => h) (Or.inl ⟨by rfl, ?_⟩) (by assumption) ?_
      rotate_left
      · intro w hSw
        try dsimp only at hSw
        go_simp
        try with_reducible rfl
      simp only [Act.put, List.setIfInBounds_toArray, List.set_cons_zero, List.set_cons_succ]
      clear hHeld
      refine wpAnyH_done (by kernel_rfl) ?_ _
      refine NoPanic.normal ?_
      have LB := L.below bB L.lt
      have BB := br.trans (bB.mono br.size)
      have hcm := hide (cmpI_lt x y)
      generalize cmpI x y = q at *
      by_cases hq : q < 0
      · have HS := hide (unhide HS ((unhide hcm).1 hq))
        have hq0 : ¬ 0 ≤ q := by omega
        clear hcm HN
        go_wp2
        go_roundw
        case rel => exact ⟨m + 1, by omega, by omega, by go_num, HS, LB, BB⟩
        case measure => simp [intOf]; omega
      · have hno : decide (xs.Pairwise (· < ·)) = false := decide_eq_false (unhide HN (Int.not_lt.1 fun h => hq ((unhide hcm).2 h)))
        have hq0 : 0 ≤ q := by omega
        clear hcm HS HN
        go_wp2
        go_ret
        exact ⟨by first | rfl | (rw [hno]; rfl), BB⟩
    · have hyes : decide (xs.Pairwise (· < ·)) = true := decide_eq_true ((ascI_iff xs).1 fun j hj => unhide HA j (by have := unhide Hn; omega) (by have := unhide Hn; omega))
      clear HA
      go_wp2
      go_ret
      exact ⟨by first | rfl | (rw [hyes]; rfl), br⟩
theorem ok_ends {n : Int} {xs : List Int} (h0 : 0 < xs.length) : OkL n xs ↔ xs.Pairwise (· < ·) ∧ 0 ≤ xs.getD 0 0 ∧ xs.getD (xs.length - 1) 0 < n := by
  have g : ∀ k (hk : k < xs.length), xs.getD k 0 = xs[k] := fun k hk => by rw [List.getD_eq_getElem?_getD, List.getElem?_eq_getElem hk]; rfl
  unfold OkL
  constructor
  · rintro ⟨h1, h2⟩
    refine ⟨h2, ?_, ?_⟩
    · rw [g 0 h0]; exact (h1 _ (List.getElem_mem h0)).1
    · rw [g _ (by omega)]; exact (h1 _ (List.getElem_mem (by omega))).2
  · rintro ⟨h2, h3, h4⟩
    refine ⟨fun x hx => ?_, h2⟩
    obtain ⟨j, hj, rfl⟩ := List.getElem_of_mem hx
    rw [g 0 h0] at h3
    rw [g _ (by omega)] at h4
    have hp := List.pairwise_iff_getElem.1 h2
    constructor
    · by_cases e : j = 0
      · subst e; exact h3
      · have := hp 0 j h0 hj (by omega); omega
    · by_cases e : j = xs.length - 1
      · have : xs[j] = xs[xs.length - 1] := by congr 1
        omega
      · have := hp j (xs.length - 1) hj (by omega) (by omega); omega
set_option maxHeartbeats 1600000 in
set_option maxRecDepth 100000 in
theorem implSetOk (m : Int) (v : Value) (xs : List Int) (w : World) (h : RI w v xs) :
    Calls Tryz.prog 117 #[.int .i64 m, v] w fun e w' => e = .returned (.bool (decide (OkL m xs))) ∧ Below w.heap.size w w' := by
  obtain ⟨ao, ca, rfl⟩ := h.form
  have hl := h.1
  by_cases hz : xs.length = 0
  · obtain rfl : xs = [] := List.length_eq_zero_iff.1 hz
    have ed : decide (OkL m []) = true := decide_eq_true ⟨by simp, List.Pairwise.nil⟩
    rw [ed]
    clear ed h hl hz
    go_enter Tryz.func117, Tryz.ntmps117
    go_wp2
    go_ret
    exact ⟨rfl, Below.refl _ _⟩
  · have AS := hide fun w h => ascends_int (.slice ao xs.length ca) xs w h
    obtain ⟨w0, hw0⟩ : ∃ w0, w.alloc (.cells #[.slice ao xs.length ca, .func (.func 130) #[] #[]] 156) = w0 := ⟨_, rfl⟩
    have B0 : Below w.heap.size w w0 := hw0 ▸ (Below.refl _ _).alloc (Nat.le_refl _) _
    have L0 : Loc w0 w.heap.size #[.slice ao xs.length ca, .func (.func 130) #[] #[]] := hw0 ▸ loc_at w _ _ rfl
    have H := hide (h.below B0 (Nat.le_refl _))
    obtain ⟨g, off, rfl, c0⟩ := (unhide H).at 0 (by omega)
    obtain ⟨g', off', e, c1⟩ := (unhide H).at (xs.length - 1) (by omega)
    cases e
    have HO := hide (ok_ends (n := m) (xs := xs) (by omega))
    generalize xs.getD 0 0 = x at *
    generalize xs.getD (xs.length - 1) 0 = y at *
    have FIN : Hid (decide (OkL m xs) = (decide (xs.Pairwise (· < ·)) && (decide (0 ≤ x) && decide (y < m)))) := hide (by
      have := unhide HO
      by_cases hp : xs.Pairwise (· < ·) <;> by_cases hx : 0 ≤ x <;> by_cases hy : y < m <;> simp [hp, hx, hy, this])
    generalize decide (OkL m xs) = qq at *
    clear HO
    generalize decide (xs.Pairwise (· < ·)) = q at *
    obtain ⟨n, hn⟩ : ∃ n, xs.length = n + 1 := ⟨xs.length - 1, by omega⟩
    rw [hn] at H AS L0 hw0 hl hz c1 ⊢
    rw [Nat.add_sub_cancel] at c1
    rw [Nat.add_zero] at c0
    have hnz : decide (((n + 1 : Nat) : Int) = 0) = false := by simp; omega
    have hs1 : IntKind.i64.wrap (((n + 1 : Nat) : Int) - 1) = (n : Int) := by rw [IntKind.wrap_i64]; omega
    have hnn : ((n + 1 : Nat) : Int) - 1 = (n : Int) := by omega
    have Hn := hide hn
    clear hn h
    have q0 := L0.cell 0 rfl
    have q1 := L0.cell 1 rfl
    go_enter Tryz.func117, Tryz.ntmps117
    go_wp2_with fail
    clear hw0
    refine (unhide AS _ (unhide H)).mono ?_
    rintro _ w1 ⟨rfl, b1⟩
    have cx := b1.cell (p := ⟨g, off, none⟩) (cell_lt c0)
    have cy := b1.cell (p := ⟨g, off + n, none⟩) (cell_lt c1)
    rw [c0] at cx
    rw [c1] at cy
    have BB := B0.trans (b1.mono B0.size)
    clear H AS c0 c1 b1 q0 q1 L0 B0
    cases q with
    | false =>
      go_wp2
      go_ret
      exact ⟨by rw [unhide FIN]; rfl, BB⟩
    | true =>
      by_cases h0 : 0 ≤ x
      · have d0 : decide (0 ≤ x) = true := by simpa using h0
        rw [d0] at FIN
        clear h0
        go_wp2
        go_ret
        exact ⟨by rw [unhide FIN]; rfl, BB⟩
      · have d0 : decide (0 ≤ x) = false := by simpa using h0
        rw [d0] at FIN
        clear h0
        go_wp2
        go_ret
        exact ⟨by rw [unhide FIN]; rfl, BB⟩
end Go.Proofs.YtggmgfkmbgcooaaGreatDoor

/- Conf: ConfOk, Faults, Quorum of the program and of the specification; laws.toConf. -/
namespace Go.Proofs.YtggmgfkmbgcooaaGreatDoor
open Go.RowKit
set_option linter.unusedSectionVars false
variable [∀ (a b c d : Int), Decidable (Ok4 a b c d)]

/-- A Conf in memory. -/
abbrev cv (n f : Int) : Value := .agg #[.int .i64 n, .int .i64 f]
def COk (n f : Int) : Prop := (4 ≤ n ∧ n ≤ 7) ∧ 1 ≤ f ∧ f ≤ 6
variable [∀ (n f : Int), Decidable (COk n f)]
def faultsOf (n f : Int) : Int := if COk n f then (n - 1) / 3 else 0
def quorumOf (n f : Int) : Int := if COk n f then n - (n - 1) / 3 else 0
theorem cok_cases {n f : Int} (h : COk n f) : n = 4 ∨ n = 5 ∨ n = 6 ∨ n = 7 := by obtain ⟨h, _⟩ := h; omega
theorem conf_below (w : World) (o : Obj) : Below w.heap.size w (w.alloc o) := (Below.refl _ _).alloc (Nat.le_refl _) _

set_option maxHeartbeats 800000 in
set_option maxRecDepth 100000 in
theorem specConfOk (n f : Int) (w : World) :
    Calls Tryz.prog 85 #[cv n f] w fun e w' => e = .returned (.bool (decide (COk n f))) ∧ Below w.heap.size w w' := by
  by_cases h1 : 4 ≤ n ∧ n ≤ 7
  · by_cases h2 : 1 ≤ f ∧ f ≤ 6
    · have hd : decide (COk n f) = true := by simp [COk, h1, h2]
      rw [hd]
      go_enter Tryz.func85, Tryz.ntmps85
      go_wp2_with (first | (go_at_call 109; refine (in_yes _ _ _ _ (by omega) (by omega)).mono ?_; rintro e w' ⟨rfl, rfl⟩))
      go_ret
      exact ⟨rfl, conf_below _ _⟩
    · have hd : decide (COk n f) = false := by simp [COk, h1]; omega
      rw [hd]
      go_enter Tryz.func85, Tryz.ntmps85
      go_wp2_with fail
      refine (in_yes _ _ _ _ (by omega) (by omega)).mono ?_
      rintro e w' ⟨rfl, rfl⟩
      go_wp2_with fail
      refine (in_no _ _ _ _ (by omega)).mono ?_
      rintro e w' ⟨rfl, rfl⟩
      go_wp2
      go_ret
      exact ⟨rfl, conf_below _ _⟩
  · have hd : decide (COk n f) = false := by simp only [decide_eq_false_iff_not]; rintro ⟨h, _⟩; exact h1 h
    rw [hd]
    go_enter Tryz.func85, Tryz.ntmps85
    go_wp2_with fail
    refine (in_no _ _ _ _ (by omega)).mono ?_
    rintro e w' ⟨rfl, rfl⟩
    go_wp2
    go_ret
    exact ⟨rfl, conf_below _ _⟩

set_option maxHeartbeats 800000 in
set_option maxRecDepth 100000 in
theorem implConfOk (n f : Int) (w : World) :
    Calls Tryz.prog 81 #[cv n f] w fun e w' => e = .returned (.bool (decide (COk n f))) ∧ Below w.heap.size w w' := by
  by_cases h1 : 4 ≤ n ∧ n ≤ 7
  · by_cases h2 : 1 ≤ f ∧ f ≤ 6
    · have hd : decide (COk n f) = true := by simp [COk, h1, h2]
      rw [hd]
      go_enter Tryz.func81, Tryz.ntmps81
      go_wp2_with (first | (go_at_call 92; refine (within_yes _ _ _ _ (by omega) (by omega)).mono ?_; rintro e w' ⟨rfl, rfl⟩))
      go_ret
      exact ⟨rfl, conf_below _ _⟩
    · have hd : decide (COk n f) = false := by simp [COk, h1]; omega
      rw [hd]
      go_enter Tryz.func81, Tryz.ntmps81
      go_wp2_with fail
      refine (within_yes _ _ _ _ (by omega) (by omega)).mono ?_
      rintro e w' ⟨rfl, rfl⟩
      go_wp2_with fail
      refine (within_no _ _ _ _ (by omega)).mono ?_
      rintro e w' ⟨rfl, rfl⟩
      go_wp2
      go_ret
      exact ⟨rfl, conf_below _ _⟩
  · have hd : decide (COk n f) = false := by simp only [decide_eq_false_iff_not]; rintro ⟨h, _⟩; exact h1 h
    rw [hd]
    go_enter Tryz.func81, Tryz.ntmps81
    go_wp2_with fail
    refine (within_no _ _ _ _ (by omega)).mono ?_
    rintro e w' ⟨rfl, rfl⟩
    go_wp2
    go_ret
    exact ⟨rfl, conf_below _ _⟩

set_option maxHeartbeats 800000 in
set_option maxRecDepth 100000 in
theorem implFaults (n f : Int) (w : World) :
    Calls Tryz.prog 129 #[cv n f] w fun e w' => e = .returned (.int .i64 (faultsOf n f)) ∧ Below w.heap.size w w' := by
  have OK := hide fun w => implConfOk n f w
  by_cases h : COk n f
  · have hd : decide (COk n f) = true := by simpa using h
    rw [hd] at OK
    have hf : faultsOf n f = (n - 1) / 3 := by simp [faultsOf, h]
    rw [hf]
    have L0 := loc_at w #[.int .i64 n, .int .i64 f] 25 rfl
    rcases cok_cases h with rfl | rfl | rfl | rfl
    all_goals
      clear h hd hf
      go_enter Tryz.func129, Tryz.ntmps129
      go_wp2_with fail
      refine (unhide OK _).mono ?_
      rintro e w1 ⟨rfl, b1⟩
      have L1 := L0.below b1 L0.lt
      have B1 := (conf_below _ _).trans (b1.mono (by simp))
      have p0 := L1.cell 0 rfl
      have p1 := L1.cell 1 rfl
      clear L0 b1
      go_wp2
      go_ret
      exact ⟨by go_num, B1⟩
  · have hd : decide (COk n f) = false := by simpa using h
    rw [hd] at OK
    have hf : faultsOf n f = 0 := by simp [faultsOf, h]
    rw [hf]
    clear h hd hf
    go_enter Tryz.func129, Tryz.ntmps129
    go_wp2_with fail
    refine (unhide OK _).mono ?_
    rintro e w1 ⟨rfl, b1⟩
    go_wp2
    go_ret
    exact ⟨rfl, (conf_below _ _).trans (b1.mono (by simp))⟩

set_option maxHeartbeats 800000 in
set_option maxRecDepth 100000 in
theorem specQuorum (n f : Int) (w : World) :
    Calls Tryz.prog 87 #[cv n f] w fun e w' => e = .returned (.int .i64 (quorumOf n f)) ∧ Below w.heap.size w w' := by
  have OK := hide fun w => specConfOk n f w
  by_cases h : COk n f
  · have hd : decide (COk n f) = true := by simpa using h
    rw [hd] at OK
    have hf : quorumOf n f = n - (n - 1) / 3 := by simp [quorumOf, h]
    rw [hf]
    have L0 := loc_at w #[.int .i64 n, .int .i64 f] 25 rfl
    rcases cok_cases h with rfl | rfl | rfl | rfl
    all_goals
      clear h hd hf
      go_enter Tryz.func87, Tryz.ntmps87
      go_wp2_with fail
      refine (unhide OK _).mono ?_
      rintro e w1 ⟨rfl, b1⟩
      have L1 := L0.below b1 L0.lt
      have B1 := (conf_below _ _).trans (b1.mono (by simp))
      have p0 := L1.cell 0 rfl
      have p1 := L1.cell 1 rfl
      clear L0 b1
      go_wp2
      go_ret
      exact ⟨by go_num, B1⟩
  · have hd : decide (COk n f) = false := by simpa using h
    rw [hd] at OK
    have hf : quorumOf n f = 0 := by simp [quorumOf, h]
    rw [hf]
    clear h hd hf
    go_enter Tryz.func87, Tryz.ntmps87
    go_wp2_with fail
    refine (unhide OK _).mono ?_
    rintro e w1 ⟨rfl, b1⟩
    go_wp2
    go_ret
    exact ⟨rfl, (conf_below _ _).trans (b1.mono (by simp))⟩

set_option maxHeartbeats 800000 in
set_option maxRecDepth 100000 in
theorem implQuorum (n f : Int) (w : World) :
    Calls Tryz.prog 116 #[cv n f] w fun e w' => e = .returned (.int .i64 (quorumOf n f)) ∧ Below w.heap.size w w' := by
  have OK := hide fun w => implConfOk n f w
  have FA := hide fun w => implFaults n f w
  by_cases h : COk n f
  · have hd : decide (COk n f) = true := by simpa using h
    rw [hd] at OK
    have hf : quorumOf n f = n - faultsOf n f := by simp [quorumOf, faultsOf, h]
    rw [hf]
    have h1 := h.1.1
    have h2 := h.1.2
    have hg : faultsOf n f = (n - 1) / 3 := by simp [faultsOf, h]
    have h3 : 1 ≤ faultsOf n f ∧ faultsOf n f ≤ 2 := by omega
    obtain ⟨h3, h4⟩ := h3
    clear hg hf hd h
    generalize faultsOf n f = q at *
    have L0 := loc_at w #[.int .i64 n, .int .i64 f] 25 rfl
    go_enter Tryz.func116, Tryz.ntmps116
    go_wp2_with fail
    refine (unhide OK _).mono ?_
    rintro e w1 ⟨rfl, b1⟩
    have L1 := L0.below b1 L0.lt
    have B1 : Below w.heap.size w w1 := (conf_below _ _).trans (b1.mono (by simp))
    have K : Hid (∀ w', Below w1.heap.size w1 w' → Below w1.heap.size w1 w' ∧ w'.cell? ⟨w.heap.size, 0, none⟩ = some (.int .i64 n) ∧ w'.cell? ⟨w.heap.size, 1, none⟩ = some (.int .i64 f)) := hide fun w' hb' =>
      ⟨hb', (L1.below hb' L1.lt).cell 0 rfl, (L1.below hb' L1.lt).cell 1 rfl⟩
    have bA : Below w1.heap.size w1 w1.drew := Below.drew (Below.refl _ _)
    have hKeep := unhide K _ bA
    clear L0 L1 b1
    go_upto_region 3 with fail
    first | go_region_held3 (fun w' => Below w1.heap.size w1 w' ∧ w'.cell? ⟨w.heap.size, 0, none⟩ = some (.int .i64 n) ∧ w'.cell? ⟨w.heap.size, 1, none⟩ = some (.int .i64 f)) (exact hKeep) (first
      | (go_at_call 129; have hgo := bA; refine (unhide FA _).mono ?_; rintro e wa ⟨rfl, ba⟩
         have bB : Below w1.heap.size w1 wa := bA.trans (ba.mono bA.size)
         have hKeep := unhide K _ bB; clear bA hgo ba)) | fail
    all_goals
      go_wp2
      go_ret
      exact ⟨by simp only [IntKind.wrap_i64]; simp; omega, B1.trans (bB.mono B1.size)⟩
  · have hd : decide (COk n f) = false := by simpa using h
    rw [hd] at OK
    have hf : quorumOf n f = 0 := by simp [quorumOf, h]
    rw [hf]
    clear h hd hf
    go_enter Tryz.func116, Tryz.ntmps116
    go_wp2_with fail
    refine (unhide OK _).mono ?_
    rintro e w1 ⟨rfl, b1⟩
    go_wp2
    go_ret
    exact ⟨rfl, (conf_below _ _).trans (b1.mono (by simp))⟩

set_option maxHeartbeats 800000 in
set_option maxRecDepth 100000 in
theorem toConf_any (n f : Int) (w : World) :
    Calls Tryz.prog 21 #[cv n f] w fun e w' => e = .returned (cv n f) ∧ Below w.heap.size w w' := by
  go_enter Tryz.func21, Tryz.ntmps21
  go_wp2
  refine bodyPost_ret (v := cv n f) (by simp [results, Tryz.results21, go_sem]) rfl ?_
  exact ⟨rfl, (((Below.refl _ _).alloc (Nat.le_refl _) _).alloc (by simp) _).alloc (by simp; omega) _⟩
end Go.Proofs.YtggmgfkmbgcooaaGreatDoor

/- What laws.markIntS and markLedger write, and what laws.heldIntS and heldLedger read of it. -/
namespace Go.Proofs.YtggmgfkmbgcooaaGreatDoor
open Go.RowKit

/-- What markIntS writes: k0, k0 + 1, .. -/
def imarks (k0 n : Nat) : List Int := (List.range n).map fun (i : Nat) => (k0 : Int) + (i : Int)
theorem imarks_len (k0 n : Nat) : (imarks k0 n).length = n := by simp [imarks]
theorem imarks_get (k0 n i : Nat) (h : i < n) : (imarks k0 n).getD i 0 = (k0 : Int) + (i : Int) := by simp [imarks, h]
theorem imarks_succ (k0 n : Nat) : imarks k0 (n + 1) = imarks k0 n ++ [(k0 : Int) + (n : Int)] := by simp [imarks, List.range_succ]
/-- The cells behind k rounds. -/
def imixed (k0 k : Nat) (vs : List Value) : List Value := (imarks k0 k).map (Value.int .i64) ++ vs.drop k
theorem imixed_zero (k0 : Nat) (vs : List Value) : imixed k0 0 vs = vs := by simp [imixed, imarks]
theorem imixed_all (k0 : Nat) (vs : List Value) : imixed k0 vs.length vs = (imarks k0 vs.length).map (Value.int .i64) := by simp [imixed]
theorem imixed_get (k0 k : Nat) (vs : List Value) (h : k < vs.length) : (imixed k0 k vs)[k]? = some (vs[k]) := by
  simp [imixed, List.getElem?_append, imarks_len, h]
theorem imixed_set (k0 k : Nat) (vs : List Value) (h : k < vs.length) : (imixed k0 k vs).set k (.int .i64 ((k0 : Int) + (k : Int))) = imixed k0 (k + 1) vs := by
  unfold imixed
  rw [imarks_succ, List.set_append_right _ _ (by simp [imarks_len]), List.length_map, imarks_len, Nat.sub_self, List.drop_eq_getElem_cons h, List.set_cons_zero]
  simp

set_option maxHeartbeats 800000 in
set_option maxRecDepth 100000 in
theorem imark_row (base g n cap k0 : Nat) (vs : List Value) (w : World) (hn : n ≤ 4194304) (hk0 : k0 ≤ 100000000) (h : w.ownsRow base 3 1 (.slice (some ⟨g, 0, none⟩) n cap) n vs) :
    Calls Tryz.prog 64 #[.slice (some ⟨g, 0, none⟩) n cap, .int .i64 k0] w fun e w' => e = .returned (.int .i64 (k0 + n)) ∧
      w'.ownsRow base 3 1 (.slice (some ⟨g, 0, none⟩) n cap) n ((imarks k0 n).map (Value.int .i64)) ∧ w.grownBy w' (some g) := by
  have hv0 : vs.length = n := by simpa using h.1
  have Hv : Hid (vs.length = n) := hv0
  clear hv0
  go_enter Tryz.func64, Tryz.ntmps64
  go_wp2
  go_loopw [1, 5] (fun c i wr => ∃ k : Nat, k ≤ n ∧ i = .int .i64 k ∧ c = .int .i64 (k0 + k) ∧ wr.ownsRow base 3 1 (.slice (some ⟨g, 0, none⟩) n cap) n (imixed k0 k vs) ∧ w.grownBy wr (some g)) (fun _ i _ => n - (intOf i).toNat)
  case atStart => exact ⟨0, Nat.zero_le _, rfl, by go_num, by rw [imixed_zero]; exact h, grown_refl _ _⟩
  case round =>
    obtain ⟨k, hk, rfl, rfl, ho, hg⟩ := hrel
    by_cases hlt : k < n
    · have hkv : k < vs.length := by rw [Hv.out]; exact hlt
      obtain ⟨u, hu⟩ : ∃ u, wr.cell? ⟨g, k, none⟩ = some u := ⟨_, (ho.cellAt k (by omega)).trans (imixed_get k0 k vs hkv)⟩
      have hfr := ho.frozenAt k
      have hs := ho.stored k (.int .i64 ((k0 : Int) + (k : Int)))
      have HS : Hid ((wr.setCell ⟨g, k, none⟩ (.int .i64 ((k0 : Int) + (k : Int)))).ownsRow base 3 1 (.slice (some ⟨g, 0, none⟩) n cap) n (imixed k0 (k + 1) vs)) := by
        rw [← imixed_set k0 k vs hkv]; exact hs.1
      have HG : Hid (w.grownBy (wr.setCell ⟨g, k, none⟩ (.int .i64 ((k0 : Int) + (k : Int)))) (some g)) := grown_trans hg hs.2
      clear hs ho hg
      go_wp2
      go_roundw
      case rel => exact ⟨k + 1, by omega, by go_num, by go_num, HS.out, HG.out⟩
      case measure => simp [intOf]; omega
    · have hkn : k = n := by omega
      have HO : Hid (wr.ownsRow base 3 1 (.slice (some ⟨g, 0, none⟩) n cap) n ((imarks k0 n).map (Value.int .i64))) := by
        have := imixed_all k0 vs; rw [Hv.out] at this; rw [← this, ← hkn]; rw [← hkn] at ho; exact ho
      clear ho
      subst hkn
      go_wp2
      go_ret
      exact ⟨rfl, HO.out, hg⟩

set_option maxHeartbeats 800000 in
set_option maxRecDepth 100000 in
theorem iheld_any (v : Value) (n k0 : Nat) (w : World) (hk0 : k0 ≤ 100000000) (h : RI w v (imarks k0 n)) :
    Calls Tryz.prog 97 #[v, .int .i64 k0] w fun e w' => e = .returned (.int .i64 (k0 + n)) ∧ w' = w := by
  obtain ⟨hl, ao, ca, rfl, ha⟩ := h
  rw [imarks_len] at hl ha ⊢
  go_enter Tryz.func97, Tryz.ntmps97
  go_wp2
  go_loop [1, 5] (fun c i => ∃ k : Nat, k ≤ n ∧ i = .int .i64 k ∧ c = .int .i64 (k0 + k)) (fun _ i => n - (intOf i).toNat)
  case atStart => exact ⟨0, Nat.zero_le _, rfl, by go_num⟩
  case round =>
    obtain ⟨k, hk, rfl, rfl⟩ := hrel
    by_cases hlt : k < n
    · rcases ha with ha | ⟨b, off, rfl, ha⟩
      · have := congrArg List.length ha; rw [imarks_len] at this; simp at this; omega
      have ha' := ha k hlt
      rw [imarks_get k0 n k hlt] at ha'
      clear ha
      go_wp2
      go_round
      case rel => exact ⟨k + 1, by omega, by go_num, by go_num⟩
      case measure => simp [intOf]; omega
    · have hkn : k = n := by omega
      subst hkn
      clear ha
      go_wp2
      go_ret
      exact ⟨rfl, rfl⟩

set_option maxHeartbeats 400000 in
set_option maxRecDepth 100000 in
theorem imark_none (w : World) (k0 : Nat) : Calls Tryz.prog 64 #[.slice none 0 0, .int .i64 k0] w fun e w' => e = .returned (.int .i64 k0) ∧ w' = w := by
  go_enter Tryz.func64, Tryz.ntmps64
  go_wp2
  refine wp_loop_rounds 1 ?_
  rw [rounds_succ]
  go_wp2
  go_ret
  exact ⟨rfl, rfl⟩

theorem imark_any (base k0 : Nat) (v : Value) (xs : List Int) (w : World) (hl : xs.length ≤ 4194304) (hk0 : k0 ≤ 100000000) (h : OI w base v xs) :
    Calls Tryz.prog 64 #[v, .int .i64 k0] w fun e w' => e = .returned (.int .i64 (k0 + xs.length)) ∧ OI w' base v (imarks k0 xs.length) ∧ w.grownBy w' v.ownBlock := by
  have h' := h
  rcases h.2 with ⟨rfl, h0⟩ | ⟨g, cap, cur, rfl, _⟩
  · refine (imark_none w k0).mono ?_
    rintro e w' ⟨rfl, rfl⟩
    have hx : xs = [] := List.length_eq_zero_iff.1 h0
    subst hx
    exact ⟨by simp, World.ownsRow_nil _ _ _ _, grown_refl _ _⟩
  · refine (imark_row base g xs.length cap k0 _ w hl hk0 h').mono ?_
    rintro e w' ⟨rfl, ho, hg⟩
    refine ⟨rfl, ?_, hg⟩
    unfold OI
    rw [imarks_len]
    exact ho

end Go.Proofs.YtggmgfkmbgcooaaGreatDoor

/- Qc: a certificate as a value; laws.eqQc, heldQc, szQc. -/
namespace Go.Proofs.YtggmgfkmbgcooaaGreatDoor
open Go.RowKit

/-- A certificate: its view, its name, who voted. -/
abbrev qv (n : Int) (s : ByteArray) (v : Value) : Value := .agg #[.int .i64 n, .string s, v]
theorem qalloc (w : World) (o : Obj) : Below w.heap.size w (w.alloc o) := (Below.refl _ _).alloc (Nat.le_refl _) _
theorem qalloc2 (w : World) (o p : Obj) : Below w.heap.size w ((w.alloc o).alloc p) := ((Below.refl _ _).alloc (Nat.le_refl _) _).alloc (by simp) _

set_option maxHeartbeats 1600000 in
set_option maxRecDepth 100000 in
theorem eqQc_yes (n : Int) (s : ByteArray) (a b : Value) (xs : List Int) (w : World) (ha : RI w a xs) (hb : RI w b xs) :
    Calls Tryz.prog 28 #[qv n s a, qv n s b] w fun e w' => e = .returned (.bool true) ∧ Below w.heap.size w w' := by
  have R1 := hide ha
  have R2 := hide hb
  have B := hide (qalloc2 w (.cells #[.int .i64 n, .string s, a] 28) (.cells #[.int .i64 n, .string s, b] 28))
  clear ha hb
  go_enter Tryz.func28, Tryz.ntmps28
  go_wp2_with fail
  refine (eqIntS_yes a b xs _ ((unhide R1).below (unhide B) (Nat.le_refl _)) ((unhide R2).below (unhide B) (Nat.le_refl _))).mono ?_
  rintro e w1 ⟨rfl, n, rfl⟩
  go_wp2
  go_ret
  exact ⟨rfl, below_drewN' (unhide B) _⟩

set_option maxHeartbeats 1600000 in
set_option maxRecDepth 100000 in
theorem heldQc_any (n : Int) (s : ByteArray) (v : Value) (m : Nat) (w : World) (h : RI w v (imarks 1 m)) :
    Calls Tryz.prog 65 #[qv n s v, .int .i64 1] w fun e w' => e = .returned (.int .i64 (1 + m)) ∧ Below w.heap.size w w' := by
  have R1 := hide h
  have B := hide (qalloc w (.cells #[.int .i64 n, .string s, v] 28))
  have hd : decide ((1 : Int) + (m : Int) < 0) = false := by simp; omega
  clear h
  go_enter Tryz.func65, Tryz.ntmps65
  go_wp2_with fail
  refine (iheld_any v m 1 _ (by omega) ((unhide R1).below (unhide B) (Nat.le_refl _))).mono ?_
  rintro e w1 ⟨rfl, rfl⟩
  go_wp2
  go_ret
  exact ⟨rfl, unhide B⟩

set_option maxHeartbeats 1600000 in
set_option maxRecDepth 100000 in
theorem markQc_any (n : Int) (s : ByteArray) (base : Nat) (v : Value) (xs : List Int) (k0 : Nat) (w : World) (hl : xs.length ≤ 4194304) (hk : k0 ≤ 100000000) (h : OI w base v xs) :
    Calls Tryz.prog 30 #[qv n s v, .int .i64 k0] w fun e w' => e = .returned (.int .i64 (k0 + xs.length)) ∧ OI w' base v (imarks k0 xs.length) ∧ Kp w w' (fun k => v.ownBlock = some k) := by
  have B := hide (qalloc w (.cells #[.int .i64 n, .string s, v] 28))
  have H := hide (h.below (unhide B))
  have hb := World.ownsRow.lt h
  have MK := hide fun w h => imark_any base k0 v xs w hl hk h
  clear h
  go_enter Tryz.func30, Tryz.ntmps30
  go_wp2_with fail
  refine (unhide MK _ (unhide H)).mono ?_
  rintro e w1 ⟨rfl, o1, g1⟩
  have K := (Below.kpOf (unhide B) (fun k => v.ownBlock = some k)).trans (kp_grown g1)
  go_wp2
  go_ret
  exact ⟨rfl, o1, K⟩

set_option maxHeartbeats 800000 in
set_option maxRecDepth 100000 in
theorem szQc_yes (n : Int) (s : ByteArray) (ao : Option Addr) (m ca : Nat) (left : Int) (w : World) (h : (s.size : Int) + m ≤ left) (hl : left ≤ 1048576) :
    Calls Tryz.prog 24 #[qv n s (.slice ao m ca), .int .i64 left] w fun e w' => e = .returned (.int .i64 (left - s.size - m)) ∧ Below w.heap.size w w' := by
  have h1 : decide ((left : Int) - (s.size : Int) < 0) = false := by simp; omega
  have h2 : decide ((left : Int) - (s.size : Int) - (m : Int) < 0) = false := by simp; omega
  go_enter Tryz.func24, Tryz.ntmps24
  go_wp2_with (first | (go_at_call 59; refine (szIntS_yes _ _ _ _ _ (by omega) (by omega)).mono ?_; rintro e w' ⟨rfl, rfl⟩))
  go_ret
  exact ⟨rfl, qalloc _ _⟩
set_option maxHeartbeats 800000 in
set_option maxRecDepth 100000 in
theorem szQc_no1 (n : Int) (s : ByteArray) (ao : Option Addr) (m ca : Nat) (left : Int) (w : World) (h0 : 0 ≤ left) (h : left < s.size) (hs : s.size ≤ 9223372036854775807) (hl : left ≤ 1048576) :
    Calls Tryz.prog 24 #[qv n s (.slice ao m ca), .int .i64 left] w fun e w' => e = .returned (.int .i64 (-1)) ∧ Below w.heap.size w w' := by
  have h1 : decide ((left : Int) - (s.size : Int) < 0) = true := by simp; omega
  go_enter Tryz.func24, Tryz.ntmps24
  go_wp2
  go_ret
  exact ⟨rfl, qalloc _ _⟩
set_option maxHeartbeats 800000 in
set_option maxRecDepth 100000 in
theorem szQc_no2 (n : Int) (s : ByteArray) (ao : Option Addr) (m ca : Nat) (left : Int) (w : World) (h0 : (s.size : Int) ≤ left) (h : left < s.size + m) (hm : m ≤ 9223372036854775807) (hl : left ≤ 1048576) :
    Calls Tryz.prog 24 #[qv n s (.slice ao m ca), .int .i64 left] w fun e w' => e = .returned (.int .i64 (-1)) ∧ Below w.heap.size w w' := by
  have h1 : decide ((left : Int) - (s.size : Int) < 0) = false := by simp; omega
  go_enter Tryz.func24, Tryz.ntmps24
  go_wp2_with fail
  refine (szIntS_no _ _ _ _ _ (by omega) (by omega) (by omega) hm).mono ?_
  rintro e w' ⟨rfl, rfl⟩
  go_wp2
  go_ret
  exact ⟨rfl, qalloc _ _⟩
/-- What szQc answers when too much is there. -/
theorem szQc_no (n : Int) (s : ByteArray) (ao : Option Addr) (m ca : Nat) (left : Int) (w : World) (h0 : 0 ≤ left) (h : left < s.size + m) (hs : s.size ≤ 9223372036854775807) (hm : m ≤ 9223372036854775807) (hl : left ≤ 1048576) :
    Calls Tryz.prog 24 #[qv n s (.slice ao m ca), .int .i64 left] w fun e w' => e = .returned (.int .i64 (-1)) ∧ Below w.heap.size w w' := by
  by_cases h1 : left < (s.size : Int)
  · exact szQc_no1 n s ao m ca left w h0 h1 hs hl
  · exact szQc_no2 n s ao m ca left w (by omega) h hm hl

set_option maxHeartbeats 1600000 in
set_option maxRecDepth 100000 in
theorem toQc_any (n : Int) (s : ByteArray) (a : Value) (xs : List Int) (w : World) (ha : RI w a xs) :
    Calls Tryz.prog 26 #[qv n s a] w fun e w' => ∃ u, e = .returned (qv n s u) ∧ OI w' w.heap.size u xs ∧ Below w.heap.size w w' := by
  have R1 := hide ha
  clear ha
  go_enter Tryz.func26, Tryz.ntmps26
  go_wp2_with fail
  refine Calls.mono (toIntS_any a xs _ ((unhide R1).below ((((Below.refl w.heap.size w).alloc (Nat.le_refl _) _).alloc (by simp) _).alloc (by simp; omega) _) (Nat.le_refl _))) ?_
  rintro e w1 ⟨u, rfl, o1, b1⟩
  have s1 := b1.size
  have L1 : Loc w1 (w.heap.size + 1) #[.int .i64 0, .string ⟨#[]⟩, .slice none 0 0] := Loc.below (Loc.alloc (loc_at (w.alloc _) #[.int .i64 0, .string ⟨#[]⟩, .slice none 0 0] _ (by simp)) _) b1 (by simp)
  have L2 : Loc w1 (w.heap.size + 1 + 1) #[.int .i64 n, .string s, .slice none 0 0] := Loc.below (loc_at ((w.alloc _).alloc _) #[.int .i64 n, .string s, .slice none 0 0] _ (by simp)) b1 (by simp)
  have B1 : Below w.heap.size w w1 := ((((Below.refl w.heap.size w).alloc (Nat.le_refl _) _).alloc (by simp) _).alloc (by simp; omega) _).trans (b1.mono (by simp; omega))
  have lt1 := World.ownsRow.lt o1
  simp at lt1 s1
  have y0 := L1.cell 0 rfl
  have y1 := L1.cell 1 rfl
  have y2 := L1.cell 2 rfl
  have fy0 := L1.frozen 0
  have fy1 := L1.frozen 1
  have fy2 := L1.frozen 2
  have z0 := L2.cell 0 rfl
  have z1 := L2.cell 1 rfl
  have z2 := L2.cell 2 rfl
  have fz2 := L2.frozen 2
  obtain ⟨ua, uc, hu⟩ := o1.form
  have O1 := hide o1
  clear o1 b1
  subst hu
  go_wp2
  refine bodyPost_ret (v := qv n s (.slice ua xs.length uc)) (by simp [results, Tryz.results26, go_sem, y0, y1, y2]) rfl ?_
  have K : Kp w1 ((((w1.setCell ⟨w.heap.size + 1 + 1, 2, none⟩ (.slice ua xs.length uc)).setCell ⟨w.heap.size + 1, 0, none⟩ (.int .i64 n)).setCell ⟨w.heap.size + 1, 1, none⟩ (.string s)).setCell ⟨w.heap.size + 1, 2, none⟩ (.slice ua xs.length uc)) (fun k => k = w.heap.size + 1 ∨ k = w.heap.size + 1 + 1) :=
    (((((set_kp _ _ _ _).mono (fun k h => .inr h))).trans ((set_kp _ _ _ _).mono (fun k h => .inl h))).trans ((set_kp _ _ _ _).mono (fun k h => .inl h))).trans ((set_kp _ _ _ _).mono (fun k h => .inl h))
  exact ⟨_, rfl, ((unhide O1).kp K (fun k hk => by have := lt1 k hk; omega)).mono (by simp; omega), Below.kp B1 K B1.size (fun k hk => by omega)⟩
end Go.Proofs.YtggmgfkmbgcooaaGreatDoor

/- Two certificates held against each other, by the specification and by the program. -/
namespace Go.Proofs.YtggmgfkmbgcooaaGreatDoor
open Go.RowKit

theorem list_end {xs ys : List Int} {k : Nat} (h1 : k ≤ xs.length) (h2 : k ≤ ys.length) (h : ¬ (k < xs.length ∧ k < ys.length)) (he : ∀ j, j < k → xs.getD j 0 = ys.getD j 0) : xs.length = ys.length ↔ xs = ys := by
  constructor
  · intro e
    apply List.ext_getElem e
    intro i p q
    have := he i (by omega)
    simpa [List.getD_eq_getElem?_getD, p, q] using this
  · rintro rfl; rfl
theorem list_off {xs ys : List Int} {k : Nat} (h : xs.getD k 0 ≠ ys.getD k 0) : xs ≠ ys := fun e => h (e ▸ rfl)

set_option maxHeartbeats 1600000 in
set_option maxRecDepth 100000 in
theorem l7Ints_any (va vb : Value) (xs ys : List Int) (w : World) (ha : RI w va xs) (hb : RI w vb ys) :
    Calls Tryz.prog 90 #[va, vb] w fun e w' => e = .returned (.bool (decide (xs = ys))) ∧ ∃ n, w' = w.drewN n := by
  obtain ⟨hl, ao, ca, rfl, ha⟩ := ha
  obtain ⟨hl', bo, cb, rfl, hb⟩ := hb
  have EN := hide fun k h1 h2 h he => list_end (xs := xs) (ys := ys) (k := k) h1 h2 h he
  have OF := hide fun k h => list_off (xs := xs) (ys := ys) (k := k) h
  have HE : Hid (∀ b, (xs = ys ↔ b = true) → decide (xs = ys) = b) := hide fun b h => by
    cases b
    · simpa using h
    · simpa using h
  obtain ⟨n, hn⟩ : ∃ n, xs.length = n := ⟨_, rfl⟩
  obtain ⟨m, hm⟩ : ∃ m, ys.length = m := ⟨_, rfl⟩
  rw [hn] at ha EN hl ⊢
  rw [hm] at hb EN hl' ⊢
  have Hn : Hid (xs.length = n) := hn
  have Hm : Hid (ys.length = m) := hm
  clear hn hm
  generalize decide (xs = ys) = q at *
  go_enter Tryz.func90, Tryz.ntmps90
  go_wp2
  go_loopw [5] (fun i wr => ∃ k : Nat, k ≤ n ∧ k ≤ m ∧ i = .int .i64 k ∧ (∀ j, j < k → xs.getD j 0 = ys.getD j 0) ∧ ∃ d, wr = w.drewN d) (fun i _ => n - (intOf i).toNat)
  case atStart => exact ⟨0, Nat.zero_le _, Nat.zero_le _, rfl, fun j hj => by omega, 0, rfl⟩
  case round =>
    obtain ⟨k, hk, hk', rfl, he, d, rfl⟩ := hrel
    have he := hide he
    by_cases hlt : k < n
    · by_cases hlt' : k < m
      · rcases ha with ha | ⟨b, off, rfl, ha⟩
        · subst ha; have := Hn.out; simp at this; omega
        rcases hb with hb | ⟨b', off', rfl, hb⟩
        · subst hb; have := Hm.out; simp at this; omega
        have ha' := ha k hlt
        have hb' := hb k hlt'
        have ER := hide fun (e : xs.getD k 0 = ys.getD k 0) j (hj : j < k + 1) => (by
          by_cases h : j = k
          · subst h; exact e
          · exact unhide he j (by omega) : xs.getD j 0 = ys.getD j 0)
        have OK := hide fun h => unhide OF k h
        clear ha hb
        generalize xs.getD k 0 = x at *
        generalize ys.getD k 0 = y at *
        by_cases hxy : x = y
        · subst hxy
          replace ER := hide (unhide ER rfl)
          clear OK
          go_wp2_with fail
          go_quiet (fail)
          go_wp2
          go_roundw
          case rel => exact ⟨k + 1, by omega, by omega, by go_num, unhide ER, _, rfl⟩
          case measure => simp [intOf]; omega
        · have hq : q = false := unhide HE false (by simp; exact unhide OK hxy)
          subst hq
          have hx : (x == y) = false := by simpa using hxy
          go_wp2_with fail
          go_quiet (fail)
          go_wp2
          go_ret
          exact ⟨rfl, d + nq, by simp [World.drewN, Nat.add_assoc]⟩
      · have hnm := unhide EN k hk hk' (by omega) (unhide he)
        have hq : q = false := unhide HE false (by simp; intro e; have := hnm.2 e; omega)
        have hd : ((n : Int) == (m : Int)) = false := by simp; omega
        have hc : decide ((k : Int) < (m : Int)) = false := by simp; omega
        subst hq
        clear ha hb
        go_wp2
        go_ret
        exact ⟨rfl, _, rfl⟩
    · have hnm := unhide EN k hk hk' (by omega) (unhide he)
      have hq : q = decide ((n : Int) = (m : Int)) := unhide HE _ (by rw [← hnm, decide_eq_true_eq]; omega)
      have hd : ((n : Int) == (m : Int)) = q := by rw [hq]; rfl
      have hc : decide ((k : Int) < (n : Int)) = false := by simp; omega
      clear ha hb
      go_wp2
      go_ret
      exact ⟨by show Ending.returned (Value.bool ((n : Int) == (m : Int))) = _; rw [hd], _, rfl⟩

set_option maxHeartbeats 1600000 in
set_option maxRecDepth 100000 in
theorem sEqual_any (va vb : Value) (xs ys : List Int) (w : World) (ha : RI w va xs) (hb : RI w vb ys) :
    Calls Tryz.prog 128 #[va, vb] w fun e w' => e = .returned (.bool (decide (xs = ys))) ∧ ∃ n, w' = w.drewN n := by
  obtain ⟨hl, ao, ca, rfl, ha⟩ := ha
  obtain ⟨hl', bo, cb, rfl, hb⟩ := hb
  have EN := hide fun k h1 h2 h he => list_end (xs := xs) (ys := ys) (k := k) h1 h2 h he
  have OF := hide fun k h => list_off (xs := xs) (ys := ys) (k := k) h
  have HE : Hid (∀ b, (xs = ys ↔ b = true) → decide (xs = ys) = b) := hide fun b h => by
    cases b
    · simpa using h
    · simpa using h
  have HL : Hid (xs = ys → xs.length = ys.length) := hide fun h => h ▸ rfl
  obtain ⟨n, hn⟩ : ∃ n, xs.length = n := ⟨_, rfl⟩
  obtain ⟨m, hm⟩ : ∃ m, ys.length = m := ⟨_, rfl⟩
  rw [hn] at ha EN hl HL ⊢
  rw [hm] at hb EN hl' HL ⊢
  have Hn : Hid (xs.length = n) := hn
  have Hm : Hid (ys.length = m) := hm
  clear hn hm
  generalize decide (xs = ys) = q at *
  by_cases hnm : n = m
  · subst hnm
    go_enter Tryz.func128, Tryz.ntmps128
    go_wp2
    go_loopw [13] (fun i wr => ∃ k : Nat, k ≤ n ∧ i = .int .i64 k ∧ (∀ j, j < k → xs.getD j 0 = ys.getD j 0) ∧ ∃ d, wr = w.drewN d) (fun i _ => n - (intOf i).toNat)
    case atStart => exact ⟨0, Nat.zero_le _, rfl, fun j hj => by omega, 0, rfl⟩
    case round =>
      obtain ⟨k, hk, rfl, he, d, rfl⟩ := hrel
      have he := hide he
      by_cases hlt : k < n
      · rcases ha with ha | ⟨b, off, rfl, ha⟩
        · subst ha; have := Hn.out; simp at this; omega
        rcases hb with hb | ⟨b', off', rfl, hb⟩
        · subst hb; have := Hm.out; simp at this; omega
        have ha' := ha k hlt
        have hb' := hb k hlt
        have ER := hide fun (e : xs.getD k 0 = ys.getD k 0) j (hj : j < k + 1) => (by
          by_cases h : j = k
          · subst h; exact e
          · exact unhide he j (by omega) : xs.getD j 0 = ys.getD j 0)
        have OK := hide fun h => unhide OF k h
        clear ha hb
        generalize xs.getD k 0 = x at *
        generalize ys.getD k 0 = y at *
        by_cases hxy : x = y
        · subst hxy
          replace ER := hide (unhide ER rfl)
          clear OK
          go_wp2_with fail
          go_quiet (fail)
          go_wp2
          go_roundw
          case rel => exact ⟨k + 1, by omega, by go_num, unhide ER, _, rfl⟩
          case measure => simp [intOf]; omega
        · have hq : q = false := unhide HE false (by simp; exact unhide OK hxy)
          subst hq
          have hx : (x == y) = false := by simpa using hxy
          go_wp2_with fail
          go_quiet (fail)
          go_wp2
          go_ret
          exact ⟨rfl, d + nq, by simp [World.drewN, Nat.add_assoc]⟩
      · have hnm := unhide EN k hk hk (by omega) (unhide he)
        have hq : q = true := unhide HE true (by simpa using hnm)
        have hc : decide ((k : Int) < (n : Int)) = false := by simp; omega
        subst hq
        clear ha hb
        go_wp2
        go_ret
        exact ⟨rfl, _, rfl⟩
  · have hq : q = false := unhide HE false (by simp; intro e; exact hnm (unhide HL e))
    have hd : ((n : Int) == (m : Int)) = false := by simp; omega
    subst hq
    clear ha hb
    go_enter Tryz.func128, Tryz.ntmps128
    go_wp2
    go_ret
    exact ⟨rfl, 0, rfl⟩

/-- Whether two certificates are alike. -/
def alikeB (n m : Int) (s t : ByteArray) (xs ys : List Int) : Bool := decide (n = m ∧ s = t ∧ xs = ys)

set_option maxHeartbeats 1600000 in
set_option maxRecDepth 100000 in
theorem specQcSame (n m : Int) (s t : ByteArray) (va vb : Value) (xs ys : List Int) (w : World) (ha : RI w va xs) (hb : RI w vb ys) :
    Calls Tryz.prog 53 #[qv n s va, qv m t vb] w fun e w' => e = .returned (.bool (alikeB n m s t xs ys)) ∧ Below w.heap.size w w' := by
  have R1 := hide ha
  have R2 := hide hb
  have B := hide (qalloc2 w (.cells #[.int .i64 n, .string s, va] 28) (.cells #[.int .i64 m, .string t, vb] 28))
  clear ha hb
  by_cases h1 : n = m
  · by_cases h2 : s = t
    · have hq : alikeB n m s t xs ys = decide (xs = ys) := by simp [alikeB, h1, h2]
      rw [hq]
      subst h1 h2
      clear hq
      go_enter Tryz.func53, Tryz.ntmps53
      go_wp2_with fail
      refine (l7Ints_any va vb xs ys _ ((unhide R1).below (unhide B) (Nat.le_refl _)) ((unhide R2).below (unhide B) (Nat.le_refl _))).mono ?_
      rintro e w1 ⟨rfl, d, rfl⟩
      go_wp2
      go_ret
      exact ⟨rfl, below_drewN' (unhide B) _⟩
    · have hq : alikeB n m s t xs ys = false := by simp [alikeB, h2]
      rw [hq]
      subst h1
      have hd := str_ne h2
      clear hq
      go_enter Tryz.func53, Tryz.ntmps53
      go_wp2
      go_ret
      exact ⟨rfl, unhide B⟩
  · have hq : alikeB n m s t xs ys = false := by simp [alikeB, h1]
    rw [hq]
    have hd : (n == m) = false := by simpa using h1
    clear hq
    go_enter Tryz.func53, Tryz.ntmps53
    go_wp2
    go_ret
    exact ⟨rfl, unhide B⟩

set_option maxHeartbeats 1600000 in
set_option maxRecDepth 100000 in
theorem qsame_any (g g' : Nat) (n m : Int) (s t : ByteArray) (va vb : Value) (xs ys : List Int) (w : World) (hg : Loc w g #[.int .i64 n, .string s, va]) (hg' : Loc w g' #[.int .i64 m, .string t, vb]) (ha : RI w va xs) (hb : RI w vb ys) :
    Calls Tryz.prog 115 #[.pointer (some ⟨g, 0, none⟩), .pointer (some ⟨g', 0, none⟩)] w fun e w' => e = .returned (.bool (alikeB n m s t xs ys)) ∧ ∃ d, w' = w.drewN d := by
  have EQ := hide fun d => sEqual_any va vb xs ys (w.drewN d) (ha) (hb)
  have x0 := hg.cell 0 rfl
  have x1 := hg.cell 1 rfl
  have x2 := hg.cell 2 rfl
  have y0 := hg'.cell 0 rfl
  have y1 := hg'.cell 1 rfl
  have y2 := hg'.cell 2 rfl
  clear ha hb hg hg'
  by_cases h1 : n = m
  · by_cases h2 : s = t
    · have hq : alikeB n m s t xs ys = decide (xs = ys) := by simp [alikeB, h1, h2]
      rw [hq]
      subst h1 h2
      clear hq
      go_enter Tryz.func115, Tryz.ntmps115
      go_wp2_with fail
      go_quiet (first | (go_at_call 128; exact Calls.quiet_of (unhide EQ _)))
      go_wp2
      go_ret
      exact ⟨rfl, _, rfl⟩
    · have hq : alikeB n m s t xs ys = false := by simp [alikeB, h2]
      rw [hq]
      subst h1
      have hd := str_ne h2
      clear hq
      go_enter Tryz.func115, Tryz.ntmps115
      go_wp2_with fail
      go_quiet (fail)
      go_wp2
      go_ret
      exact ⟨rfl, _, rfl⟩
  · have hq : alikeB n m s t xs ys = false := by simp [alikeB, h1]
    rw [hq]
    have hd : (n == m) = false := by simpa using h1
    clear hq
    go_enter Tryz.func115, Tryz.ntmps115
    go_wp2_with fail
    go_quiet (fail)
    go_wp2
    go_ret
    exact ⟨rfl, _, rfl⟩
end Go.Proofs.YtggmgfkmbgcooaaGreatDoor

/- The later of two certificates, copied. -/
namespace Go.Proofs.YtggmgfkmbgcooaaGreatDoor
open Go.RowKit

set_option maxHeartbeats 1600000 in
set_option maxRecDepth 100000 in
theorem implQcSame (n m : Int) (s t : ByteArray) (va vb : Value) (xs ys : List Int) (w : World) (ha : RI w va xs) (hb : RI w vb ys) :
    Calls Tryz.prog 82 #[qv n s va, qv m t vb] w fun e w' => e = .returned (.bool (alikeB n m s t xs ys)) ∧ Below w.heap.size w w' := by
  have B := hide (qalloc2 w (.cells #[.int .i64 n, .string s, va] 28) (.cells #[.int .i64 m, .string t, vb] 28))
  have SM := hide (qsame_any w.heap.size (w.heap.size + 1) n m s t va vb xs ys _ ((loc_at w #[.int .i64 n, .string s, va] 28 rfl).alloc _) (loc_at (w.alloc _) #[.int .i64 m, .string t, vb] 28 (by simp)) (ha.below (unhide B) (Nat.le_refl _)) (hb.below (unhide B) (Nat.le_refl _)))
  clear ha hb
  go_enter Tryz.func82, Tryz.ntmps82
  go_wp2_with fail
  refine (unhide SM).mono ?_
  rintro e w1 ⟨rfl, d, rfl⟩
  go_wp2
  go_ret
  exact ⟨rfl, below_drewN' (unhide B) _⟩

abbrev zq : Obj := .cells #[.int .i64 0, .string ⟨#[]⟩, .slice none 0 0] 28

set_option maxHeartbeats 4000000 in
set_option maxRecDepth 100000 in
theorem qtold_any (g : Nat) (n : Int) (s : ByteArray) (ao : Option Addr) (ca : Nat) (xs : List Int) (w : World) (hg : Loc w g #[.int .i64 n, .string s, .slice ao xs.length ca]) (ha : RI w (.slice ao xs.length ca) xs) (hs : s.size ≤ 281474976710656) :
    Calls Tryz.prog 43 #[.pointer (some ⟨g, 0, none⟩)] w fun e w' => ∃ u, e = .returned (qv n s u) ∧ OI w' w.heap.size u xs ∧ Below w.heap.size w w' := by
  have CL := hide fun w => clone_any s w hs
  have hgl := hg.lt
  obtain ⟨w0, hw0⟩ : ∃ w0, w.alloc zq = w0 := ⟨_, rfl⟩
  have B0 : Below w.heap.size w w0 := hw0 ▸ qalloc _ _
  have Z0 : Loc w0 w.heap.size #[.int .i64 0, .string ⟨#[]⟩, .slice none 0 0] := hw0 ▸ loc_at w _ _ rfl
  have s0 : w0.heap.size = w.heap.size + 1 := by rw [← hw0]; simp
  have G0 := hg.below B0 hgl
  have K : Hid (∀ w', Below w0.heap.size w0 w' → Below w0.heap.size w0 w' ∧ w'.cell? ⟨g, 0, none⟩ = some (.int .i64 n) ∧ w'.cell? ⟨g, 1, none⟩ = some (.string s)) := hide fun w' hb =>
    ⟨hb, (G0.below hb G0.lt).cell 0 rfl, (G0.below hb G0.lt).cell 1 rfl⟩
  have RA := hide ha
  have HZ := hide Z0
  have HG := hide G0
  clear ha hg Z0 G0
  go_enter Tryz.func43, Tryz.ntmps43
  go_upto_region 1 with fail
  clear hw0
  go_cut [3] (fun c wx => ∃ h, c = .pointer (some ⟨h, 0, none⟩) ∧ w0.heap.size ≤ h ∧ Loc wx h #[.int .i64 n, .string s, .slice none 0 0] ∧ Below w0.heap.size w0 wx)
  case first =>
    clear HZ HG RA
    refine wp_region_noPanic ?_
    refine wp_region_held_drew (S := fun w' => Below w0.heap.size w0 w' ∧ w'.cell? ⟨g, 0, none⟩ = some (.int .i64 n) ∧ w'.cell? ⟨g, 1, none⟩ = some (.string s)) (by kernel_rfl) (unhide K _ (Below.drew (Below.refl _ _))) (fun hHeld => ?_)
    obtain ⟨wd, hd⟩ : ∃ wd, w0.drew = wd := ⟨_, rfl⟩
    have bd : Below w0.heap.size w0 wd := hd ▸ Below.drew (Below.refl _ _)
    have szd := bd.size
    rw [hd] at hHeld ⊢
    clear hd
    refine take_at (i := 0) (d := 4) (v := ?_) rfl rfl (by kernel_rfl) (by kernel_rfl) (by kernel_rfl) (fun _ _ _ h => h) (Or.inl ⟨by rfl, ?_⟩) (by assumption) ?_
    rotate_left
    · intro w hSw
      try dsimp only at hSw
      go_simp
      try with_reducible rfl
    simp only [Act.put, List.setIfInBounds_toArray, List.set_cons_zero, List.set_cons_succ]
    refine take_at (i := 1) (d := 5) (v := ?_) rfl rfl (by kernel_rfl) (by kernel_rfl) (by kernel_rfl) (fun _ _ _ h => h) (Or.inl ⟨by rfl, ?_⟩) (by assumption) ?_
    rotate_left
    · intro w hSw
      try dsimp only at hSw
      go_simp
      try with_reducible rfl
    simp only [Act.put, List.setIfInBounds_toArray, List.set_cons_zero, List.set_cons_succ]
    refine take_at (i := 2) (d := 6) (v := ?_) rfl rfl (by kernel_rfl) (by kernel_rfl) (by kernel_rfl) (fun _ _ _ h => h) (Or.inl ⟨by rfl, ?_⟩) (by assumption) ?_
    rotate_left
    · intro w hSw
      try dsimp only at hSw
      go_simp
      try with_reducible rfl
    simp only [Act.put, List.setIfInBounds_toArray, List.set_cons_zero, List.set_cons_succ]
    refine take_at (i := 3) (d := 7) (v := ?_) rfl rfl (by kernel_rfl) (by kernel_rfl) (by kernel_rfl) (fun _ _ _ h => h) (Or.inl ⟨by rfl, ?_⟩) (by assumption) ?_
    rotate_left
    · intro w hSw
      try dsimp only at hSw
      go_simp
      try with_reducible rfl
    simp only [Act.put, List.setIfInBounds_toArray, List.set_cons_zero, List.set_cons_succ]
    refine take_at (i := 4) (d := 8) (v := ?_) rfl rfl (by kernel_rfl) (by kernel_rfl) (by kernel_rfl) (fun _ _ _ h => h) (Or.inl ⟨by rfl, ?_⟩) (by assumption) ?_
    rotate_left
    · intro w hSw
      try dsimp only at hSw
      go_simp
      try with_reducible rfl
    simp only [Act.put, List.setIfInBounds_toArray, List.set_cons_zero, List.set_cons_succ]
    refine take_at (i := 5) (d := 9) (v := ?_) rfl rfl (by kernel_rfl) (by kernel_rfl) (by kernel_rfl) (fun _ _ _ h => h) (Or.inl ⟨by rfl, ?_⟩) (by assumption) ?_
    rotate_left
    · intro w hSw
      try dsimp only at hSw
      go_simp
      try with_reducible rfl
    simp only [Act.put, List.setIfInBounds_toArray, List.set_cons_zero, List.set_cons_succ]
    refine take_at (i := 6) (d := 10) (v := ?_) rfl rfl (by kernel_rfl) (by kernel_rfl) (by kernel_rfl) (fun _ _ _ h => h) (Or.inl ⟨by rfl, ?_⟩) (by assumption) ?_
    rotate_left
    · intro w hSw
      try dsimp only at hSw
      go_simp
      try with_reducible rfl
    simp only [Act.put, List.setIfInBounds_toArray, List.set_cons_zero, List.set_cons_succ]
    refine take_at (i := 7) (d := 11) (v := ?_) rfl rfl (by kernel_rfl) (by kernel_rfl) (by kernel_rfl) (fun _ _ _ h => h) (Or.inl ⟨by rfl, ?_⟩) (by assumption) ?_
    rotate_left
    · intro w hSw
      try dsimp only at hSw
      go_simp
      try with_reducible rfl
    simp only [Act.put, List.setIfInBounds_toArray, List.set_cons_zero, List.set_cons_succ]
    refine wpAnyH_ready (rs := [8, 10]) (by kernel_rfl) (by simp) (AllReadyH.cons rfl (fun KK hKK => ?_) (AllReadyH.cons rfl (fun KK hKK => ?_) AllReadyH.nil))
    · go_simp
      refine (unhide CL _).mono ?_
      rintro e wc1 ⟨rfl, bnew⟩
      have bc1 : Below w0.heap.size w0 wc1 := bd.trans (bnew.mono bd.size)
      have zzwc1 := bnew.size
      clear hHeld bnew
      refine hKK.out _ _ (unhide K _ bc1) (fun hHeld => ?_)
      clear hKK KK
      refine take_at (i := 9) (d := 13) (v := ?_) rfl rfl (by kernel_rfl) (by kernel_rfl) (by kernel_rfl) (fun _ _ _ h => h) (Or.inl ⟨by rfl, ?_⟩) (by assumption) ?_
      rotate_left
      · intro w hSw
        try dsimp only at hSw
        go_simp
        try with_reducible rfl
      simp only [Act.put, List.setIfInBounds_toArray, List.set_cons_zero, List.set_cons_succ]
      refine ready_at (i := 10) rfl (by kernel_rfl) (fun KK hKK => ?_)
      go_simp
      obtain ⟨wl2, hwl2⟩ : ∃ x, wc1.alloc (.cells #[.int .i64 0, .string ⟨#[]⟩, .slice none 0 0] 28) = x := ⟨_, rfl⟩
      have bl2 : Below w0.heap.size w0 wl2 := hwl2 ▸ bc1.alloc bc1.size _
      have lg : Loc wl2 wc1.heap.size #[.int .i64 0, .string ⟨#[]⟩, .slice none 0 0] := hwl2 ▸ loc_at wc1 _ _ rfl
      rw [hwl2]
      clear hHeld hwl2
      refine hKK.out _ _ (unhide K _ bl2) (fun hHeld => ?_)
      clear hKK KK
      have q0 := lg.cell 0 rfl
      have q1 := lg.cell 1 rfl
      have q2 := lg.cell 2 rfl
      have FG := lg.frozen
      refine ready_at (i := 11) rfl (by kernel_rfl) (fun KK hKK => ?_)
      go_simp
      have bs : Below w0.heap.size w0 (((wl2.setCell ⟨wc1.heap.size, 0, none⟩ (.int .i64 n)).setCell ⟨wc1.heap.size, 1, none⟩ (.string s)).setCell ⟨wc1.heap.size, 2, none⟩ (.slice none 0 0)) := Below.set (Below.set (Below.set bl2 _ _ (by omega)) _ _ (by omega)) _ _ (by omega)
      clear hHeld
      refine hKK.out _ _ (unhide K _ bs) (fun hHeld => ?_)
      clear hKK KK
      clear hHeld
      refine wpAnyH_done (by kernel_rfl) ?_ _
      refine NoPanic.normal ?_
      go_wp2_with fail
      go_meet
      exact ⟨_, rfl, by omega, ((lg.set 0 _ rfl).set 1 _ rfl).set 2 _ rfl, bs⟩
    · go_simp
      obtain ⟨wl3, hwl3⟩ : ∃ x, wd.alloc (.cells #[.int .i64 0, .string ⟨#[]⟩, .slice none 0 0] 28) = x := ⟨_, rfl⟩
      have bl3 : Below w0.heap.size w0 wl3 := hwl3 ▸ bd.alloc bd.size _
      have lg : Loc wl3 wd.heap.size #[.int .i64 0, .string ⟨#[]⟩, .slice none 0 0] := hwl3 ▸ loc_at wd _ _ rfl
      rw [hwl3]
      clear hHeld hwl3
      refine hKK.out _ _ (unhide K _ bl3) (fun hHeld => ?_)
      clear hKK KK
      refine ready_at (i := 8) rfl (by kernel_rfl) (fun KK hKK => ?_)
      go_simp
      refine (unhide CL _).mono ?_
      rintro e wc4 ⟨rfl, bnew⟩
      have bc4 : Below w0.heap.size w0 wc4 := bl3.trans (bnew.mono bl3.size)
      have zzwc4 := bnew.size
      have lg := lg.below bnew lg.lt
      clear hHeld bnew
      refine hKK.out _ _ (unhide K _ bc4) (fun hHeld => ?_)
      clear hKK KK
      refine take_at (i := 9) (d := 13) (v := ?_) rfl rfl (by kernel_rfl) (by kernel_rfl) (by kernel_rfl) (fun _ _ _ h => h) (Or.inl ⟨by rfl, ?_⟩) (by assumption) ?_
      rotate_left
      · intro w hSw
        try dsimp only at hSw
        go_simp
        try with_reducible rfl
      simp only [Act.put, List.setIfInBounds_toArray, List.set_cons_zero, List.set_cons_succ]
      have q0 := lg.cell 0 rfl
      have q1 := lg.cell 1 rfl
      have q2 := lg.cell 2 rfl
      have FG := lg.frozen
      refine ready_at (i := 11) rfl (by kernel_rfl) (fun KK hKK => ?_)
      go_simp
      have bs : Below w0.heap.size w0 (((wc4.setCell ⟨wd.heap.size, 0, none⟩ (.int .i64 n)).setCell ⟨wd.heap.size, 1, none⟩ (.string s)).setCell ⟨wd.heap.size, 2, none⟩ (.slice none 0 0)) := Below.set (Below.set (Below.set bc4 _ _ (by omega)) _ _ (by omega)) _ _ (by omega)
      clear hHeld
      refine hKK.out _ _ (unhide K _ bs) (fun hHeld => ?_)
      clear hKK KK
      clear hHeld
      refine wpAnyH_done (by kernel_rfl) ?_ _
      refine NoPanic.normal ?_
      go_wp2_with fail
      go_meet
      exact ⟨_, rfl, by omega, ((lg.set 0 _ rfl).set 1 _ rfl).set 2 _ rfl, bs⟩
  case rest =>
    obtain ⟨h, rfl, hh, LH, bw⟩ := hcut
    have G1 := (unhide HG).below bw (unhide HG).lt
    have Z1 := (unhide HZ).below bw (unhide HZ).lt
    have R1 := unhide RA
    have B1 : Below w.heap.size w wc := B0.trans (bw.mono B0.size)
    have s1 := bw.size
    have l1 := LH.lt
    have x2 := G1.cell 2 rfl
    have y0 := Z1.cell 0 rfl
    have y1 := Z1.cell 1 rfl
    have y2 := Z1.cell 2 rfl
    have fy := Z1.frozen
    have h0 := LH.cell 0 rfl
    have h1 := LH.cell 1 rfl
    have h2 := LH.cell 2 rfl
    have fh := LH.frozen
    have hl := R1.1
    clear HG HZ RA K CL bw B0
    by_cases hx : xs = []
    · subst hx
      go_wp2
      refine bodyPost_ret (v := qv n s (.slice none 0 0)) (by simp [results, Tryz.results43, go_sem, y0, y1, y2]) rfl ?_
      exact ⟨_, rfl, World.ownsRow_nil _ _ _ _, Below.set (Below.set (Below.set B1 _ _ (Nat.le_refl _)) _ _ (Nat.le_refl _)) _ _ (Nat.le_refl _)⟩
    · have hp : 0 < xs.length := List.length_pos_iff.2 hx
      obtain ⟨cs, hcs⟩ : ∃ cs, xs.map (Value.int .i64) = cs := ⟨_, rfl⟩
      have hcl : cs.length = xs.length := by rw [← hcs]; simp
      have hone : ∀ v ∈ cs, v.oneCell' = true := by rw [← hcs]; exact ints_plain64 xs
      obtain ⟨ad, rfl, hcells⟩ : ∃ ad, ao = some ad ∧ ∀ j u, cs[j]? = some u → w.cell? (ad.add j) = some u := by
        obtain ⟨_, ao', ca', e, hr⟩ := R1
        cases e
        rcases hr with rfl | ⟨b, off, rfl, hr⟩
        · exact absurd rfl hx
        · exact ⟨_, rfl, hcs ▸ inews_cells hr⟩
      have hrows : ∀ w', Below w.heap.size w w' → ∀ j u, cs[j]? = some u → w'.cell? (ad.add j) = some u := fun w' hb j u hj => (hb.cell (cell_lt (hcells j u hj))).trans (hcells j u hj)
      have HR := hide hrows
      have HC := hide hcs
      obtain ⟨i0, hi, hz0, hz1, hz2⟩ := info_parts Tryz.info3
      obtain ⟨m, hm⟩ : ∃ m, xs.length = m := ⟨_, rfl⟩
      rw [hm] at hl hcl hp x2 G1
      have Hm := hide hm
      clear R1 hcells hrows hcs hm hx
      have hgt : decide ((0 : Int) < (m : Int)) = true := by simpa using hp
      go_upto_region 4 with (first | (at_make; refine wpList_make_full _ rfl _ _ 26 rfl wc.heap.size 3 i0 (.int .i64 0) 1 Tryz.underlying26 hi hz0 hz1 .i64 .i64 m m m rfl rfl rfl rfl (by rw [hz2]; omega) (by unfold maxLen; omega) (Nat.le_refl _) ?_; intro w2 ho2 hg2
                                      have b2 : Below wc.heap.size wc w2 := (Below.refl _ _).grown hg2 (Nat.le_refl _) (by simp)
                                      have L2 := LH.below b2 LH.lt
                                      have k2 := L2.cell 2 rfl
                                      have f2 := L2.frozen))
      obtain ⟨hlen, hrow⟩ := ho2
      rcases hrow with ⟨e, _⟩ | ⟨row, cap, cur, e, hrb, hrh, _, hcm, hcz, hct⟩
      · cases e
      cases e
      have hlt2 : wc.heap.size < w2.heap.size := (Array.getElem?_eq_some_iff.1 hrh).1
      obtain ⟨w3, hw3⟩ : ∃ w3, w2.setCell ⟨h, 2, none⟩ (.slice (some ⟨wc.heap.size, 0, none⟩) m m) = w3 := ⟨_, rfl⟩
      have B3 : Below w.heap.size w w3 := hw3 ▸ Below.set (B1.trans (b2.mono B1.size)) (g := h) 2 _ (by omega)
      have K3 : Kp w2 w3 (fun k => k = h) := hw3 ▸ set_kp w2 h 2 _
      have L3 : Loc w3 h #[.int .i64 n, .string s, .slice (some ⟨wc.heap.size, 0, none⟩) m m] := hw3 ▸ L2.set 2 _ rfl
      have Z3 := (Z1.below b2 Z1.lt).kp K3 (by omega)
      have G3 := (G1.below b2 G1.lt).kp K3 (by omega)
      have H3 : w3.heap[wc.heap.size]? = some (.cells cur.toList.toArray 3 (0, 0)) := by rw [K3.block _ hlt2 (by omega)]; simpa using hrh
      have c3 := unhide HR w3 B3
      have z3 := K3.size
      have p2 := L3.cell 2 rfl
      have q2 := G3.cell 2 rfl
      have hcz' : cur.toList.length = m := by simpa using hcz
      rw [hw3]
      clear hw3 k2 f2 h0 h1 h2 fh y0 y1 y2 fy x2
      have H3h := hide H3
      have C3 := hide c3
      go_region_law (refine step_copy_splice rfl (.tmp 28) (.tmp 32) 26 26 rfl 3 Tryz.underlying26 (by rw [hi]; simp [hz1]) (some ⟨wc.heap.size, 0, none⟩) (some ad) m m m ca (by simp [Act.eval]) (by simp [Act.eval]) wc.heap.size 0 cur.toList 3 (unhide H3h) cs (by rw [hcl]; simp) (fun _ => ⟨rfl, _, rfl, unhide C3⟩) (by omega) hone wc.heap.size w3 ⟨rfl, rfl, rfl, Nat.le_refl _, fun _ _ => rfl⟩ (Nat.le_refl _) ?_; intro w4 hg4 hb4)
      all_goals
        have L4 := L3.below hb4 l1
        have Z4 := Z3.below hb4 (by omega)
        have B4 : Below w.heap.size w w4 := B3.trans (hb4.mono (by omega))
        have h0 := L4.cell 0 rfl
        have h1 := L4.cell 1 rfl
        have h2 := L4.cell 2 rfl
        have y0 := Z4.cell 0 rfl
        have y1 := Z4.cell 1 rfl
        have y2 := Z4.cell 2 rfl
        have fy := Z4.frozen
        have O4 : OI w4 w.heap.size (.slice (some ⟨wc.heap.size, 0, none⟩) m m) xs := by
          refine ⟨by rw [unhide Hm]; simp [unhide Hm], .inr ⟨wc.heap.size, m, _, by rw [unhide Hm], by omega, hg4.out, by rw [unhide Hm]; exact Nat.le_refl _, hcm, ?_, ?_⟩⟩
          · rw [List.size_toArray, length_splice _ _ _ (by omega), hcz', Nat.mul_one]
          · rw [unhide HC]; simp [splice, unhide Hm, hcl]
        have HO := hide O4
        clear L3 Z3 G3 H3 c3 p2 q2 K3 L4 Z4 O4 hg4 hb4 LH Z1 G1 b2 L2 hlen hct hcz hrh
        go_wp2
        refine bodyPost_ret (v := qv n s (.slice (some ⟨wc.heap.size, 0, none⟩) m m)) (by simp [results, Tryz.results43, go_sem, y0, y1, y2]) rfl ?_
        have K5 : Kp w4 (((w4.setCell ⟨w.heap.size, 0, none⟩ (.int .i64 n)).setCell ⟨w.heap.size, 1, none⟩ (.string s)).setCell ⟨w.heap.size, 2, none⟩ (.slice (some ⟨wc.heap.size, 0, none⟩) m m)) (fun k => k = w.heap.size) := ((set_kp _ _ _ _).trans (set_kp _ _ _ _)).trans (set_kp _ _ _ _)
        exact ⟨_, rfl, (unhide HO).kp K5 (fun k hk => by simp [Value.ownBlock] at hk; omega), Below.set (Below.set (Below.set B4 _ _ (Nat.le_refl _)) _ _ (Nat.le_refl _)) _ _ (Nat.le_refl _)⟩
end Go.Proofs.YtggmgfkmbgcooaaGreatDoor

/- QcLater and QcFirst of the program and of the specification. -/
namespace Go.Proofs.YtggmgfkmbgcooaaGreatDoor
open Go.RowKit

set_option maxHeartbeats 1600000 in
set_option maxRecDepth 100000 in
theorem implQcFirst (w : World) : Calls Tryz.prog 83 #[] w fun e w' => e = .returned (qv 0 ⟨#[]⟩ (.slice none 0 0)) ∧ Below w.heap.size w w' := by
  go_enter Tryz.func83, Tryz.ntmps83
  go_wp2
  refine bodyPost_ret (v := qv 0 ⟨#[]⟩ (.slice none 0 0)) (by simp [results, Tryz.results83, go_sem]) rfl ?_
  exact ⟨rfl, qalloc _ _⟩
end Go.Proofs.YtggmgfkmbgcooaaGreatDoor
