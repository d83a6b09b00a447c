/- (impl.inOrder).with, impl.PoolAdd. -/
import Derived.Test.YthdehhenkgkkmaaSearch
import Derived.Test.YthdehhenkgkkmaaConcat
import Derived.Laws.EntriesVeiled
namespace Go.Proofs.Ythdehhenkgkkmaa
open Go.RowKit
set_option linter.unusedSectionVars false
variable [∀ (a b c d : Int), Decidable (Ok4 a b c d)]
variable [∀ (m a b c d : Int), Decidable (In4 m a b c d)]
variable [∀ (xs ys : List Int), Decidable (LOk xs ys)]
variable [∀ (x y : T4), Decidable (Bef x y)]
variable [∀ (ts : List T4), Decidable (Asc ts)]
variable [∀ (ts : List T4), Decidable (AllOk ts)]
variable [∀ (ts : List T4), Decidable (POk ts)]

/-- A slice value within its capacity. -/
def Capped (v : Value) : Prop := ∃ ao n cap, v = .slice ao n cap ∧ n ≤ cap ∧ cap ≤ maxLen
theorem OT.capped {w : World} {base : Nat} {v : Value} {xs : List T4} (h : OT w base v xs) : Capped v := by
  rcases h.2 with ⟨rfl, _⟩ | ⟨g, cap, cur, rfl, _, _, h1, h2, _⟩
  · exact ⟨none, 0, 0, rfl, Nat.le_refl _, Nat.zero_le _⟩
  · exact ⟨_, _, cap, rfl, h1, h2⟩
theorem OT.mono {w : World} {base base' : Nat} {v : Value} {xs : List T4} (h : OT w base v xs) (hb : base' ≤ base) : OT w base' v xs := by
  refine ⟨h.1, ?_⟩
  rcases h.2 with hn | ⟨g, cap, cur, rfl, hg, rest⟩
  · exact .inl hn
  · exact .inr ⟨g, cap, cur, rfl, Nat.le_trans hb hg, rest⟩
theorem OT.form {w : World} {base : Nat} {v : Value} {xs : List T4} (h : OT w base v xs) : ∃ ao ca, v = .slice ao xs.length ca := by
  rcases h.2 with ⟨rfl, h0⟩ | ⟨g, cap, cur, rfl, _⟩
  · exact ⟨none, 0, by rw [h0]⟩
  · exact ⟨_, _, rfl⟩

theorem addr_map_zero (ao : Option Addr) : ao.map (·.add 0) = ao := by cases ao <;> rfl
theorem cut_to (ao : Option Addr) (n ca k : Nat) (w : World) (hk : k ≤ ca) :
    (Instr.slice 25 (.slice ao n ca) none (some (.int .i64 (k : Int))) none).run Try.prog w = .ok (.slice ao k ca) w := by
  obtain ⟨i0, hi, hz0, hz1, hz2⟩ := info_parts Try.infoTx
  rw [run_slice_h (ht := Try.underlying25) (kh := .i64) (h := (k : Int)) (h0 := by omega) (h2 := by omega)]
  have he : Try.prog.elem 25 = 33 := by simp [Program.elem, Try.underlying25]
  have hs : (sizeOf (Try.prog.elem 25)).run Try.prog w = .ok 4 w := by rw [he]; simp [sizeOf, typeInfo, hi, hz1]
  rw [hs]
  simp [sliced, Result.andThen]
  intro _; cases ao <;> rfl
theorem cut_from (ao : Option Addr) (n ca k : Nat) (w : World) (hk : k ≤ n) :
    (Instr.slice 25 (.slice ao n ca) (some (.int .i64 (k : Int))) none none).run Try.prog w = .ok (.slice (if ca = k then ao else ao.map (·.add (k * 4))) (n - k) (ca - k)) w := by
  obtain ⟨i0, hi, hz0, hz1, hz2⟩ := info_parts Try.infoTx
  rw [run_slice_l (ht := Try.underlying25) (kl := .i64) (l := (k : Int)) (h0 := by omega) (h1 := by omega)]
  have he : Try.prog.elem 25 = 33 := by simp [Program.elem, Try.underlying25]
  have hs : (sizeOf (Try.prog.elem 25)).run Try.prog w = .ok 4 w := by rw [he]; simp [sizeOf, typeInfo, hi, hz1]
  rw [hs]
  simp [sliced, Result.andThen]

set_option maxHeartbeats 4000000 in
set_option maxRecDepth 100000 in
theorem with_any (v : Value) (ts : List T4) (x : T4) (w : World) (h : RT w v ts) (hc : Capped v) (hl : ts.length ≤ 4000000) :
    Calls Try.prog 32 #[.agg #[v, .func (.func 46) #[] #[]], txv x.1 x.2.1 x.2.2.1 x.2.2.2] w fun e w' => ∃ (k : Nat) (u : Value), e = .returned u ∧ Place ts x k ∧ OT w' w.heap.size u (ins ts x k) ∧ Below w.heap.size w w' := by
  obtain ⟨ao, ca, rfl⟩ := h.form
  obtain ⟨hcn, hcm⟩ : ts.length ≤ ca ∧ ca ≤ maxLen := by obtain ⟨_, _, _, e, h1, h2⟩ := hc; cases e; exact ⟨h1, h2⟩
  unfold maxLen at hcm
  have SR := hide fun w h => search_any (.slice ao ts.length ca) ts x w h
  have H := hide h
  obtain ⟨xa, xb, xc, xd⟩ := x
  dsimp only at SR ⊢
  obtain ⟨n, hn⟩ : ∃ n, ts.length = n := ⟨_, rfl⟩
  have Hn := hide hn
  rw [hn] at hl H hcn SR ⊢
  clear h hn hc
  obtain ⟨w0, hw0⟩ : ∃ w0, (w.alloc (.cells #[.slice ao n ca, .func (.func 46) #[] #[]] 52)).alloc (.cells (r4 xa xb xc xd) 33) = w0 := ⟨_, rfl⟩
  have B0 : Below w.heap.size w w0 := hw0 ▸ ((Below.refl _ _).alloc (Nat.le_refl _) _).alloc (by simp) _
  have L0 : Loc w0 w.heap.size #[.slice ao n ca, .func (.func 46) #[] #[]] := hw0 ▸ (loc_at w _ _ rfl).alloc _
  have X0 : Loc w0 (w.heap.size + 1) (r4 xa xb xc xd) := hw0 ▸ loc_at _ _ _ (by simp)
  have q0 := L0.cell 0 rfl
  have q1 := L0.cell 1 rfl
  obtain ⟨x0, x1, x2, x3⟩ := X0.cells4
  go_enter Try.func32, Try.ntmps32
  go_wp2_with fail
  clear hw0 q0 q1 x0 x1 x2 x3
  refine (unhide SR _ ((unhide H).below B0)).mono ?_
  rintro _ w1 ⟨k, b, rfl, hp, b1⟩
  have B1 := B0.trans (b1.mono B0.size)
  replace L0 := L0.below b1 L0.lt
  replace X0 := X0.below b1 X0.lt
  have hk : k ≤ n := by have := hp.1; rw [unhide Hn] at this; exact this
  have s1 : w.heap.size ≤ w1.heap.size := B1.size
  have lx := X0.lt
  have HP := hide hp
  clear hp SR b1
  have PP := ((unhide H).below B1).pt
  have PA : Hid (PT w1 (.slice ao k ca) (ts.take k)) := hide (PP.take k hk ca)
  obtain ⟨bo, hbo⟩ : ∃ bo, (if ca = k then ao else ao.map (·.add (k * 4))) = bo := ⟨_, rfl⟩
  have PB : Hid (PT w1 (.slice bo (n - k) (ca - k)) (ts.drop k)) := hide (PP.drop k hk (ca - k) (fun h => by rw [← hbo, if_neg (by omega)]))
  have T1 : ∀ w', (Instr.slice 25 (.slice ao n ca) none (some (.int .i64 (k : Int))) none).run Try.prog w' = .ok (.slice ao k ca) w' := fun w' => cut_to ao n ca k w' (by omega)
  have T2 : ∀ w', (Instr.slice 25 (.slice ao n ca) (some (.int .i64 (k : Int))) none none).run Try.prog w' = .ok (.slice bo (n - k) (ca - k)) w' := fun w' => by rw [cut_from ao n ca k w' hk, hbo]
  have HL : Hid ((ts.take k).length + [(xa, xb, xc, xd)].length + (ts.drop k).length ≤ 4194304) := hide (by have := unhide Hn; simp; omega)
  have bA : Below w1.heap.size w1 w1.drew := Below.drew (Below.refl _ _)
  have K : Hid (∀ w', Below w1.heap.size w1 w' → (w'.cell? ⟨w.heap.size, 0, none⟩ = some (.slice ao n ca)) ∧ (w'.cell? ⟨w.heap.size + 1, 0, none⟩ = some (.int .i64 xa) ∧ w'.cell? ⟨w.heap.size + 1, 1, none⟩ = some (.int .i64 xb) ∧ w'.cell? ⟨w.heap.size + 1, 2, none⟩ = some (.int .i64 xc) ∧ w'.cell? ⟨w.heap.size + 1, 3, none⟩ = some (.int .i64 xd))) := hide fun w' hb => by
    have l := L0.below hb L0.lt
    have x := X0.below hb X0.lt
    exact ⟨l.cell 0 rfl, x.cells4⟩
  clear PP hbo
  go_wp2_with fail
  refine wp_region_noPanic ?_
  refine wp_region_held_drew (S := (fun w' => (w'.cell? ⟨w.heap.size, 0, none⟩ = some (.slice ao n ca)) ∧ (w'.cell? ⟨w.heap.size + 1, 0, none⟩ = some (.int .i64 xa) ∧ w'.cell? ⟨w.heap.size + 1, 1, none⟩ = some (.int .i64 xb) ∧ w'.cell? ⟨w.heap.size + 1, 2, none⟩ = some (.int .i64 xc) ∧ w'.cell? ⟨w.heap.size + 1, 3, none⟩ = some (.int .i64 xd)))) (by kernel_rfl) (unhide K _ bA) (fun hHeld => ?_)
  obtain ⟨wd, hd⟩ : ∃ wd, w1.drew = wd := ⟨_, rfl⟩
  have bd : Below w1.heap.size w1 wd := hd ▸ bA
  have szd := bd.size
  rw [hd] at hHeld ⊢
  clear hd
  refine take_at (i := 0) (d := 16) (v := ?_) rfl rfl (by kernel_rfl) (by kernel_rfl) (by kernel_rfl) (fun _ _ _ h => h) (Or.inl ⟨by rfl, ?_⟩) (by assumption) ?_
  rotate_left
  · intro w hSw
    try dsimp only at hSw
    go_simp
    try with_reducible rfl
  simp only [Act.put, List.setIfInBounds_toArray, List.set_cons_zero, List.set_cons_succ]
  refine take_at (i := 1) (d := 17) (v := ?_) rfl rfl (by kernel_rfl) (by kernel_rfl) (by kernel_rfl) (fun _ _ _ h => h) (Or.inl ⟨by rfl, ?_⟩) (by assumption) ?_
  rotate_left
  · intro w hSw
    try dsimp only at hSw
    go_simp
    try with_reducible rfl
  simp only [Act.put, List.setIfInBounds_toArray, List.set_cons_zero, List.set_cons_succ]
  refine take_at (i := 2) (d := 18) (v := ?_) rfl rfl (by kernel_rfl) (by kernel_rfl) (by kernel_rfl) (fun _ _ _ h => h) (Or.inl ⟨by rfl, ?_⟩) (by assumption) ?_
  rotate_left
  · intro w hSw
    try dsimp only at hSw
    go_simp
    try with_reducible rfl
  simp only [Act.put, List.setIfInBounds_toArray, List.set_cons_zero, List.set_cons_succ]
  refine take_at (i := 3) (d := 19) (v := ?_) rfl rfl (by kernel_rfl) (by kernel_rfl) (by kernel_rfl) (fun _ _ _ h => h) (Or.inl ⟨by rfl, ?_⟩) (by assumption) ?_
  rotate_left
  · intro w hSw
    try dsimp only at hSw
    go_simp
    try with_reducible rfl
  simp only [Act.put, List.setIfInBounds_toArray, List.set_cons_zero, List.set_cons_succ]
  refine take_at (i := 4) (d := 20) (v := ?_) rfl rfl (by kernel_rfl) (by kernel_rfl) (by kernel_rfl) (fun _ _ _ h => h) (Or.inl ⟨by rfl, ?_⟩) (by assumption) ?_
  rotate_left
  · intro w hSw
    try dsimp only at hSw
    go_simp
    try with_reducible rfl
  simp only [Act.put, List.setIfInBounds_toArray, List.set_cons_zero, List.set_cons_succ]
  refine take_at (i := 6) (d := 22) (v := ?_) rfl rfl (by kernel_rfl) (by kernel_rfl) (by kernel_rfl) (fun _ _ _ h => h) (Or.inl ⟨by rfl, ?_⟩) (by assumption) ?_
  rotate_left
  · intro w hSw
    try dsimp only at hSw
    go_simp
    try with_reducible rfl
  simp only [Act.put, List.setIfInBounds_toArray, List.set_cons_zero, List.set_cons_succ]
  refine take_at (i := 7) (d := 23) (v := ?_) rfl rfl (by kernel_rfl) (by kernel_rfl) (by kernel_rfl) (fun _ _ _ h => h) (Or.inl ⟨by rfl, ?_⟩) (by assumption) ?_
  rotate_left
  · intro w hSw
    try dsimp only at hSw
    go_simp
    try with_reducible rfl
  simp only [Act.put, List.setIfInBounds_toArray, List.set_cons_zero, List.set_cons_succ]
  refine take_at (i := 8) (d := 24) (v := ?_) rfl rfl (by kernel_rfl) (by kernel_rfl) (by kernel_rfl) (fun _ _ _ h => h) (Or.inl ⟨by rfl, ?_⟩) (by assumption) ?_
  rotate_left
  · intro w hSw
    try dsimp only at hSw
    go_simp
    try with_reducible rfl
  simp only [Act.put, List.setIfInBounds_toArray, List.set_cons_zero, List.set_cons_succ]
  refine take_at (i := 9) (d := 25) (v := ?_) rfl rfl (by kernel_rfl) (by kernel_rfl) (by kernel_rfl) (fun _ _ _ h => h) (Or.inl ⟨by rfl, ?_⟩) (by assumption) ?_
  rotate_left
  · intro w hSw
    try dsimp only at hSw
    go_simp
    try with_reducible rfl
  simp only [Act.put, List.setIfInBounds_toArray, List.set_cons_zero, List.set_cons_succ]
  refine ready_at (i := 5) rfl (by kernel_rfl) (fun KK hKK => ?_)
  go_simp
  obtain ⟨we, he⟩ : ∃ y, wd.alloc (.cells #[.int .i64 xa, .int .i64 xb, .int .i64 xc, .int .i64 xd] 33) = y := ⟨_, rfl⟩
  have be : Below w1.heap.size w1 we := he ▸ bd.alloc bd.size _
  have LE : OT we w1.heap.size (.slice (some ⟨wd.heap.size, 0, none⟩) 1 1) [(xa, xb, xc, xd)] := he ▸ World.ownsRow_lit wd #[.int .i64 xa, .int .i64 xb, .int .i64 xc, .int .i64 xd] 1 szd (by unfold maxLen; omega) rfl
  rw [he]
  clear hHeld
  refine hKK.out _ _ (unhide K _ be) (fun hHeld => ?_)
  clear hKK KK
  refine ready_at (i := 10) rfl (by kernel_rfl) (fun KK hKK => ?_)
  go_simp
  obtain ⟨wf, hf⟩ : ∃ y, we.alloc (.cells #[.slice ao k ca, .slice (some ⟨wd.heap.size, 0, none⟩) 1 1, .slice bo (n - k) (ca - k)] 25) = y := ⟨_, rfl⟩
  have bf : Below w1.heap.size w1 wf := hf ▸ be.alloc be.size _
  have bef : Below we.heap.size we wf := hf ▸ (Below.refl _ _).alloc (Nat.le_refl _) _
  have LF : Loc wf we.heap.size #[.slice ao k ca, .slice (some ⟨wd.heap.size, 0, none⟩) 1 1, .slice bo (n - k) (ca - k)] := hf ▸ loc_at we _ _ rfl
  replace LE := LE.below bef
  rw [hf]
  clear hHeld
  refine hKK.out _ _ (unhide K _ bf) (fun hHeld => ?_)
  clear hKK KK
  refine ready_at (i := 11) rfl (by kernel_rfl) (fun KK hKK => ?_)
  go_simp
  refine (concat3 _ _ _ _ (ts.take k) [(xa, xb, xc, xd)] (ts.drop k) _ (LF.cell 0 rfl) (LF.cell 1 rfl) (LF.cell 2 rfl) ((unhide PA).below bf) LE.pt ((unhide PB).below bf) (by simp) (unhide HL)).mono ?_
  rintro _ wg ⟨vg, rfl, og, bg⟩
  have Bg := bf.trans (bg.mono bf.size)
  replace og := hide (og.mono bf.size)
  clear hHeld
  refine hKK.out _ _ (unhide K _ Bg) (fun hHeld => ?_)
  clear hKK KK
  refine take_at (i := 12) (d := 4) (v := ?_) rfl rfl (by kernel_rfl) (by kernel_rfl) (by kernel_rfl) (fun _ _ _ h => h) (Or.inl ⟨by rfl, ?_⟩) (by assumption) ?_
  rotate_left
  · intro w hSw
    try dsimp only at hSw
    go_simp
    try with_reducible rfl
  simp only [Act.put, List.setIfInBounds_toArray, List.set_cons_zero, List.set_cons_succ]
  clear hHeld
  refine wpAnyH_done (by kernel_rfl) ?_ _
  refine NoPanic.normal ?_
  go_wp2
  go_ret
  exact ⟨k, _, rfl, unhide HP, (unhide og).mono s1, B1.trans (Bg.mono s1)⟩

set_option maxHeartbeats 4000000 in
set_option maxRecDepth 100000 in
theorem implPoolAdd (v : Value) (ts : List T4) (x : T4) (w : World) (h : RT w v ts) (hc : Capped v) (hl : ts.length ≤ 4000000) :
    Calls Try.prog 14 #[v, txv x.1 x.2.1 x.2.2.1 x.2.2.2] w fun e w' => ∃ u, e = .returned (.tuple #[u, .bool (addAns ts x).2]) ∧ OT w' w.heap.size u (addAns ts x).1 ∧ Below w.heap.size w w' := by
  have WA := hide fun w h => with_any v ts x w h hc hl
  have H := hide h
  have PL := hide fun k (h : Place ts x k) => place_ans h
  obtain ⟨ao, ca, rfl⟩ := h.form
  obtain ⟨xa, xb, xc, xd⟩ := x
  dsimp only at WA ⊢
  obtain ⟨w0, hw0⟩ : ∃ w0, w.alloc (.cells (r4 xa xb xc xd) 33) = w0 := ⟨_, rfl⟩
  have B0 : Below w.heap.size w w0 := hw0 ▸ (Below.refl _ _).alloc (Nat.le_refl _) _
  have X0 : Loc w0 w.heap.size (r4 xa xb xc xd) := hw0 ▸ loc_at _ _ _ rfl
  have bA : Below w0.heap.size w0 w0.drew := Below.drew (Below.refl _ _)
  have K : Hid (∀ w', Below w0.heap.size w0 w' → (w'.cell? ⟨w.heap.size, 0, none⟩ = some (.int .i64 xa) ∧ w'.cell? ⟨w.heap.size, 1, none⟩ = some (.int .i64 xb) ∧ w'.cell? ⟨w.heap.size, 2, none⟩ = some (.int .i64 xc) ∧ w'.cell? ⟨w.heap.size, 3, none⟩ = some (.int .i64 xd))) := hide fun w' hb => (X0.below hb X0.lt).cells4
  clear h hc
  go_enter Try.func14, Try.ntmps14
  go_wp2_with fail
  clear hw0
  refine wp_region_noPanic ?_
  refine wp_region_held_drew (S := (fun w' => (w'.cell? ⟨w.heap.size, 0, none⟩ = some (.int .i64 xa) ∧ w'.cell? ⟨w.heap.size, 1, none⟩ = some (.int .i64 xb) ∧ w'.cell? ⟨w.heap.size, 2, none⟩ = some (.int .i64 xc) ∧ w'.cell? ⟨w.heap.size, 3, none⟩ = some (.int .i64 xd)))) (by kernel_rfl) (unhide K _ bA) (fun hHeld => ?_)
  refine take_at (i := 0) (d := 7) (v := ?_) rfl rfl (by kernel_rfl) (by kernel_rfl) (by kernel_rfl) (fun _ _ _ h => h) (Or.inl ⟨by rfl, ?_⟩) (by assumption) ?_
  rotate_left
  · intro w hSw
    try dsimp only at hSw
    go_simp
    try with_reducible rfl
  simp only [Act.put, List.setIfInBounds_toArray, List.set_cons_zero, List.set_cons_succ]
  refine take_at (i := 2) (d := 9) (v := ?_) rfl rfl (by kernel_rfl) (by kernel_rfl) (by kernel_rfl) (fun _ _ _ h => h) (Or.inl ⟨by rfl, ?_⟩) (by assumption) ?_
  rotate_left
  · intro w hSw
    try dsimp only at hSw
    go_simp
    try with_reducible rfl
  simp only [Act.put, List.setIfInBounds_toArray, List.set_cons_zero, List.set_cons_succ]
  refine ready_at (i := 1) rfl (by kernel_rfl) (fun KK hKK => ?_)
  go_simp
  refine (waiting_any _ _ _ _).mono ?_
  rintro _ wa ⟨rfl, ba⟩
  have bB : Below w0.heap.size w0 wa := bA.trans ba
  clear hHeld
  refine hKK.out _ _ (unhide K _ bB) (fun hHeld => ?_)
  clear hKK KK
  refine ready_at (i := 3) rfl (by kernel_rfl) (fun KK hKK => ?_)
  go_simp
  refine (unhide WA _ ((unhide H).below (B0.trans (bB.mono B0.size)))).mono ?_
  rintro _ wb ⟨k, vm, rfl, hp, om, bb⟩
  have bC : Below w0.heap.size w0 wb := bB.trans (bb.mono bB.size)
  have HP := hide hp
  clear hp
  replace om := hide (om.mono bB.size)
  clear hHeld
  refine hKK.out _ _ (unhide K _ bC) (fun hHeld => ?_)
  clear hKK KK
  refine take_at (i := 4) (d := 6) (v := ?_) rfl rfl (by kernel_rfl) (by kernel_rfl) (by kernel_rfl) (fun _ _ _ h => h) (Or.inl ⟨by rfl, ?_⟩) (by assumption) ?_
  rotate_left
  · intro w hSw
    try dsimp only at hSw
    go_simp
    try with_reducible rfl
  simp only [Act.put, List.setIfInBounds_toArray, List.set_cons_zero, List.set_cons_succ]
  clear hHeld
  refine wpAnyH_done (by kernel_rfl) ?_ _
  refine NoPanic.normal ?_
  have BC := B0.trans (bC.mono B0.size)
  have e := unhide PL k (unhide HP)
  obtain ⟨ma, mc, hm⟩ := (unhide om).form
  subst hm
  have RM := (unhide om).rt (by rw [ins_len]; omega)
  have PO := hide (implPoolOk _ (ins ts (xa, xb, xc, xd) k) wb RM)
  by_cases hok : POk (ins ts (xa, xb, xc, xd) k)
  · rw [if_pos hok] at e
    rw [decide_eq_true hok] at PO
    replace e := hide e
    clear hok RM HP PL
    go_wp2_with fail
    refine (unhide PO).mono ?_
    rintro _ w2 ⟨rfl, b2⟩
    go_wp2
    go_ret2
    exact ⟨_, by rw [unhide e]; rfl, by rw [unhide e]; exact ((unhide om).below b2).mono B0.size, BC.trans (b2.mono BC.size)⟩
  · rw [if_neg hok] at e
    rw [decide_eq_false hok] at PO
    replace e := hide e
    clear hok RM HP PL om
    go_wp2_with fail
    refine (unhide PO).mono ?_
    rintro _ w2 ⟨rfl, b2⟩
    have B2 := BC.trans (b2.mono BC.size)
    have PP := hide ((unhide H).below B2).pt
    go_wp2_with (first | (at_builtin; refine append_piece rfl _ _ rfl w.heap.size (.slice none 0 0) (.slice ao ts.length ca) [] ts rfl rfl (World.ownsRow_nil _ _ _ _) (unhide PP) (by simp; omega) B2.size ?_; intro v3 w3 ho3 hg3 _; have HO3 := hide ho3; have B3 := hide (B2.grown hg3 B2.size (fun j hj => by simp [Value.ownBlock] at hj)); clear ho3 hg3))
    go_ret2
    exact ⟨_, by rw [unhide e]; rfl, by rw [unhide e]; exact unhide HO3, unhide B3⟩
end Go.Proofs.Ythdehhenkgkkmaa
