/- impl.Pay. -/
import Derived.Test.YtlglekfmiacdnaaPayEachBad
namespace Go.Proofs.Ytlglekfmiacdnaa
open Go.RowKit
set_option linter.unusedSectionVars false
variable [∀ (m a b c d : Int), Decidable (In4 m a b c d)]
variable [∀ (xs ys : List Int), Decidable (LOk xs ys)]
variable [∀ (a b c d : Int), Decidable (Ok4 a b c d)]

theorem each_one (xs ys : List Int) (a b c d : Int) : eachAns xs ys [(a, b, c, d)] = ((payAns xs ys a b c d).1, (payAns xs ys a b c d).2.1, [(payAns xs ys a b c d).2.2]) := by
  unfold eachAns payAns
  split <;> rfl
/-- What Pay leaves. -/
def PayEnd (w : World) (r : List Int × List Int × Int) (o : Ending) (w' : World) : Prop :=
  ∃ u v, o = .returned (.tuple #[lv u v, .int .i64 r.2.2]) ∧ OL w' w.heap.size w'.heap.size u v r.1 r.2.1 ∧ Below w.heap.size w w'

set_option maxHeartbeats 8000000 in
set_option maxRecDepth 100000 in
theorem implPay (u v : Value) (a b c d : Int) (xs ys : List Int) (w : World) (hu : RI w u xs ∧ RI w v ys) :
    Calls Try.prog 16 #[lv u v, txv a b c d] w (PayEnd w (payAns xs ys a b c d)) := by
  have EA := hide fun p w h1 h2 => payEach_any u v p xs ys [(a, b, c, d)] w h1 h2
  rw [each_one] at EA
  have RU := hide hu
  obtain ⟨ua, uc, rfl⟩ : ∃ ua uc, u = .slice ua xs.length uc := by obtain ⟨_, ua, uc, h, _⟩ := hu.1; exact ⟨ua, uc, h⟩
  obtain ⟨va, vc, rfl⟩ : ∃ va vc, v = .slice va ys.length vc := by obtain ⟨_, va, vc, h, _⟩ := hu.2; exact ⟨va, vc, h⟩
  obtain ⟨r, hr⟩ : ∃ r, payAns xs ys a b c d = r := ⟨_, rfl⟩
  rw [hr] at EA ⊢
  clear hu hr
  obtain ⟨w0, hw0⟩ : ∃ w0, (((w.alloc (.cells #[.slice ua xs.length uc, .slice va ys.length vc] 26)).alloc (.cells (r4 a b c d) 33)).alloc (.cells #[.slice none 0 0, .slice none 0 0] 26)).alloc (.cells #[pfun (a, b, c, d)] 65) = w0 := ⟨_, rfl⟩
  have B0 : Below w.heap.size w w0 := hw0 ▸ ((((Below.refl w.heap.size w).alloc (Nat.le_refl _) _).alloc (by simp) _).alloc (by simp; omega) _).alloc (by simp; omega) _
  have R0 : Loc w0 (w.heap.size + 1 + 1) #[.slice none 0 0, .slice none 0 0] := hw0 ▸ (loc_at _ _ _ (by simp)).alloc _
  have P0 : Loc w0 (w.heap.size + 1 + 1 + 1) #[pfun (a, b, c, d)] := hw0 ▸ loc_at _ _ _ (by simp)
  have HP : RP w0 (.slice (some ⟨w.heap.size + 1 + 1 + 1, 0, none⟩) 1 1) [(a, b, c, d)] := by
    refine ⟨by simp, _, 1, rfl, .inr ⟨_, 0, rfl, fun k hk => ?_⟩⟩
    match k, hk with
    | 0, _ => exact P0.cell 0 rfl
  go_enter Try.func16, Try.ntmps16
  go_wp2_with fail
  clear hw0
  refine (unhide EA _ _ ⟨(unhide RU).1.below B0 (Nat.le_refl _), (unhide RU).2.below B0 (Nat.le_refl _)⟩ HP).mono ?_
  rintro _ w1 ⟨ul, vl, cs, mid, rfl, oc, lt1, hm, ol, b1⟩
  have s1 := b1.size
  have R1 := R0.below b1 R0.lt
  have B1 := B0.trans (b1.mono B0.size)
  have lr := R0.lt
  obtain ⟨la, lc, rfl⟩ := ol.has.form
  obtain ⟨ma, mc, rfl⟩ := ol.next.form
  obtain ⟨g, cc, rfl⟩ : ∃ g cc, cs = .slice (some ⟨g, 0, none⟩) 1 cc := by
    rcases oc.2 with ⟨_, h0⟩ | ⟨g, cap, cur, h1, _⟩
    · cases h0
    · exact ⟨g, cap, h1⟩
  have c1 : w1.cell? ⟨g, 0, none⟩ = some (.int .i64 r.2.2) := World.ownsRow.cellAt oc 0 (by simp)
  have lg := World.ownsRow.lt oc g rfl
  obtain ⟨w2, hw2⟩ : ∃ w2, w1.alloc (.cells #[.slice la r.1.length lc, .slice ma r.2.1.length mc] 26) = w2 := ⟨_, rfl⟩
  have A2 : Loc w2 w1.heap.size #[.slice la r.1.length lc, .slice ma r.2.1.length mc] := hw2 ▸ loc_at w1 _ _ rfl
  have R2 : Loc w2 (w.heap.size + 1 + 1) #[.slice none 0 0, .slice none 0 0] := hw2 ▸ R1.alloc _
  have B2 : Below w.heap.size w w2 := hw2 ▸ B1.alloc B1.size _
  have ol2 := hide (show OL w2 mid w1.heap.size (.slice la r.1.length lc) (.slice ma r.2.1.length mc) r.1 r.2.1 from hw2 ▸ ol.alloc _)
  have s2 : w2.heap.size = w1.heap.size + 1 := by rw [← hw2]; simp
  have c2 : w2.cell? ⟨g, 0, none⟩ = some (.int .i64 r.2.2) := by rw [← hw2]; exact (((Below.refl w1.heap.size w1).alloc (Nat.le_refl _) _).cell (p := ⟨g, 0, none⟩) lg.2).trans c1
  clear oc ol b1 R0 P0 HP B0 EA R1 B1 c1
  go_wp2_with fail
  clear hw2
  refine wp_region_noPanic ?_
  refine wp_region_held_drew (S := (fun w' => (w'.cell? ⟨w1.heap.size, 0, none⟩ = some (.slice la r.1.length lc) ∧ w'.cell? ⟨w1.heap.size, 1, none⟩ = some (.slice ma r.2.1.length mc)) ∧ w'.cell? ⟨g, 0, none⟩ = some (.int .i64 r.2.2))) (by kernel_rfl) ⟨⟨A2.cell 0 rfl, A2.cell 1 rfl⟩, c2⟩ (fun hHeld => ?_)
  refine take_at (i := 0) (d := 16) (v := ?_) rfl rfl (by kernel_rfl) (by kernel_rfl) (by kernel_rfl) (fun _ _ _ h => h) (Or.inl ⟨by rfl, ?_⟩) (by assumption) ?_
  rotate_left
  · intro w hSw
    try dsimp only at hSw
    go_simp
    try with_reducible rfl
  simp only [Act.put, List.setIfInBounds_toArray, List.set_cons_zero, List.set_cons_succ]
  refine take_at (i := 1) (d := 17) (v := ?_) rfl rfl (by kernel_rfl) (by kernel_rfl) (by kernel_rfl) (fun _ _ _ h => h) (Or.inl ⟨by rfl, ?_⟩) (by assumption) ?_
  rotate_left
  · intro w hSw
    try dsimp only at hSw
    go_simp
    try with_reducible rfl
  simp only [Act.put, List.setIfInBounds_toArray, List.set_cons_zero, List.set_cons_succ]
  refine take_at (i := 2) (d := 18) (v := ?_) rfl rfl (by kernel_rfl) (by kernel_rfl) (by kernel_rfl) (fun _ _ _ h => h) (Or.inl ⟨by rfl, ?_⟩) (by assumption) ?_
  rotate_left
  · intro w hSw
    try dsimp only at hSw
    go_simp
    try with_reducible rfl
  simp only [Act.put, List.setIfInBounds_toArray, List.set_cons_zero, List.set_cons_succ]
  refine take_at (i := 3) (d := 19) (v := ?_) rfl rfl (by kernel_rfl) (by kernel_rfl) (by kernel_rfl) (fun _ _ _ h => h) (Or.inl ⟨by rfl, ?_⟩) (by assumption) ?_
  rotate_left
  · intro w hSw
    try dsimp only at hSw
    go_simp
    try with_reducible rfl
  simp only [Act.put, List.setIfInBounds_toArray, List.set_cons_zero, List.set_cons_succ]
  have q0 := R2.cell 0 rfl
  have q1 := R2.cell 1 rfl
  have FR := R2.frozen
  refine ready_at (i := 4) rfl (by kernel_rfl) (fun KK hKK => ?_)
  go_simp
  have A3 := (A2.other (p := ⟨w.heap.size + 1 + 1, 0, none⟩) (by simp; omega) (.slice la r.1.length lc)).other (p := ⟨w.heap.size + 1 + 1, 1, none⟩) (by simp; omega) (.slice ma r.2.1.length mc)
  have K3 : Kp w2 ((w2.setCell ⟨w.heap.size + 1 + 1, 0, none⟩ (.slice la r.1.length lc)).setCell ⟨w.heap.size + 1 + 1, 1, none⟩ (.slice ma r.2.1.length mc)) (fun k => k = w.heap.size + 1 + 1) := (set_kp w2 _ 0 _).trans (set_kp _ _ 1 _)
  have c3 := K3.cell c2 (show ¬ g = w.heap.size + 1 + 1 by omega)
  clear hHeld
  refine hKK.out _ _ ⟨⟨A3.cell 0 rfl, A3.cell 1 rfl⟩, c3⟩ (fun hHeld => ?_)
  clear hKK KK
  refine take_at (i := 5) (d := 5) (v := ?_) rfl rfl (by kernel_rfl) (by kernel_rfl) (by kernel_rfl) (fun _ _ _ h => h) (Or.inl ⟨by rfl, ?_⟩) (by assumption) ?_
  rotate_left
  · intro w hSw
    try dsimp only at hSw
    go_simp
    try with_reducible rfl
  simp only [Act.put, List.setIfInBounds_toArray, List.set_cons_zero, List.set_cons_succ]
  clear hHeld A3 c3
  refine wpAnyH_done (by kernel_rfl) ?_ _
  refine NoPanic.normal ?_
  go_wp2
  refine bodyPost_ret (v := .tuple #[lv (.slice la r.1.length lc) (.slice ma r.2.1.length mc), .int .i64 r.2.2]) (by simp [results, Try.results16, go_sem, q0, q1]) rfl ?_
  refine ⟨_, _, rfl, (((unhide ol2).kp K3 (fun k h1 h2 e => by omega)).below (Below.drew (Below.refl _ _))).mono (by omega) (by simp; omega), ?_⟩
  exact Below.drew (Below.set (Below.set B2 _ _ (by omega)) _ _ (by omega))
end Go.Proofs.Ytlglekfmiacdnaa
