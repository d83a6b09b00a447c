/- spec.l3Copy. -/
import Derived.Test.YtlglekfmiacdnaaCopyStep
namespace Go.Proofs.Ytlglekfmiacdnaa
open Go.RowKit
set_option linter.unusedSectionVars false

set_option maxHeartbeats 16000000 in
set_option maxRecDepth 100000 in
theorem l3Copy_any (u v : Value) (xs ys : List Int) (w : World) (hu : RI w u xs ∧ RI w v ys) :
    Calls Try.prog 44 #[lv u v] w fun o w' => ∃ u' v', o = .returned (lv u' v') ∧ OL w' w.heap.size w'.heap.size u' v' xs ys ∧ Below w.heap.size w w' := by
  have RU := hide hu
  obtain ⟨ua, uc, rfl⟩ : ∃ ua uc, u = .slice ua xs.length uc := by obtain ⟨_, ua, uc, h, _⟩ := hu.1; exact ⟨ua, uc, h⟩
  obtain ⟨va, vc, rfl⟩ : ∃ va vc, v = .slice va ys.length vc := by obtain ⟨_, va, vc, h, _⟩ := hu.2; exact ⟨va, vc, h⟩
  clear hu
  obtain ⟨w0, hw0⟩ : ∃ w0, (w.alloc (.cells #[.slice ua xs.length uc, .slice va ys.length vc] 26)).alloc (.cells #[.slice none 0 0, .slice none 0 0] 26) = w0 := ⟨_, rfl⟩
  have B0 : Below w.heap.size w w0 := hw0 ▸ ((Below.refl w.heap.size w).alloc (Nat.le_refl _) _).alloc (by simp) _
  have L0 : Loc w0 w.heap.size #[.slice ua xs.length uc, .slice va ys.length vc] := hw0 ▸ (loc_at w _ _ rfl).alloc _
  have R0 : Loc w0 (w.heap.size + 1) #[.slice none 0 0, .slice none 0 0] := hw0 ▸ loc_at _ _ _ (by simp)
  go_enter Try.func44, Try.ntmps44
  go_wp2_with fail
  clear hw0
  refine wp_region_noPanic ?_
  refine wp_region_held_drew (S := (fun w' => w'.cell? ⟨w.heap.size, 0, none⟩ = some (.slice ua xs.length uc) ∧ w'.cell? ⟨w.heap.size, 1, none⟩ = some (.slice va ys.length vc))) (by kernel_rfl) ⟨L0.cell 0 rfl, L0.cell 1 rfl⟩ (fun hHeld => ?_)
  obtain ⟨wd, hd⟩ : ∃ wd, w0.drew = wd := ⟨_, rfl⟩
  have Lwd : Loc wd w.heap.size #[.slice ua xs.length uc, .slice va ys.length vc] := hd ▸ L0
  have Rwd : Loc wd (w.heap.size + 1) #[.slice none 0 0, .slice none 0 0] := hd ▸ R0
  have Bwd : Below w.heap.size w wd := hd ▸ Below.drew B0
  have lwd := Rwd.lt
  rw [hd] at hHeld ⊢
  clear hd
  refine take_at (i := 1) (d := 4) (v := ?_) rfl rfl (by kernel_rfl) (by kernel_rfl) (by kernel_rfl) (fun _ _ _ h => h) (Or.inl ⟨by rfl, ?_⟩) (by assumption) ?_
  rotate_left
  · intro w hSw
    try dsimp only at hSw
    go_simp
    try with_reducible rfl
  simp only [Act.put, List.setIfInBounds_toArray, List.set_cons_zero, List.set_cons_succ]
  refine take_at (i := 2) (d := 5) (v := ?_) rfl rfl (by kernel_rfl) (by kernel_rfl) (by kernel_rfl) (fun _ _ _ h => h) (Or.inl ⟨by rfl, ?_⟩) (by assumption) ?_
  rotate_left
  · intro w hSw
    try dsimp only at hSw
    go_simp
    try with_reducible rfl
  simp only [Act.put, List.setIfInBounds_toArray, List.set_cons_zero, List.set_cons_succ]
  refine take_at (i := 5) (d := 8) (v := ?_) rfl rfl (by kernel_rfl) (by kernel_rfl) (by kernel_rfl) (fun _ _ _ h => h) (Or.inl ⟨by rfl, ?_⟩) (by assumption) ?_
  rotate_left
  · intro w hSw
    try dsimp only at hSw
    go_simp
    try with_reducible rfl
  simp only [Act.put, List.setIfInBounds_toArray, List.set_cons_zero, List.set_cons_succ]
  refine take_at (i := 6) (d := 9) (v := ?_) rfl rfl (by kernel_rfl) (by kernel_rfl) (by kernel_rfl) (fun _ _ _ h => h) (Or.inl ⟨by rfl, ?_⟩) (by assumption) ?_
  rotate_left
  · intro w hSw
    try dsimp only at hSw
    go_simp
    try with_reducible rfl
  simp only [Act.put, List.setIfInBounds_toArray, List.set_cons_zero, List.set_cons_succ]
  refine wpAnyH_ready (rs := [0, 4]) (by kernel_rfl) (by simp) (AllReadyH.cons rfl (fun KK hKK => ?_) (AllReadyH.cons rfl (fun KK hKK => ?_) AllReadyH.nil))
  · go_simp
    obtain ⟨a1, ha1⟩ : ∃ x, wd.alloc (.cells #[] 3) = x := ⟨_, rfl⟩
    have ba1 : Below wd.heap.size wd a1 := ha1 ▸ (Below.refl _ _).alloc (Nat.le_refl _) _
    have za1 : wd.heap.size < a1.heap.size := by rw [← ha1]; simp
    have La1 := Lwd.below ba1 Lwd.lt
    have Ra1 := Rwd.below ba1 Rwd.lt
    have Ba1 := Bwd.trans (ba1.mono Bwd.size)
    have sa1 := ba1.size
    have E0a1 : OI a1 wd.heap.size (.slice (some ⟨wd.heap.size, 0, none⟩) 0 0) [] := ha1 ▸ World.ownsRow_lit wd #[] 0 (Nat.le_refl _) (by unfold maxLen; omega) rfl
    rw [ha1]
    clear hHeld ha1
    refine hKK.out _ _ ⟨La1.cell 0 rfl, La1.cell 1 rfl⟩ (fun hHeld => ?_)
    clear hKK KK
    refine wpAnyH_ready (rs := [3, 4]) (by kernel_rfl) (by simp) (AllReadyH.cons rfl (fun KK hKK => ?_) (AllReadyH.cons rfl (fun KK hKK => ?_) AllReadyH.nil))
    · refine step_copy (d := 6) rfl rfl (.tmp 3) (.tmp 5) rfl wd.heap.size rfl xs ((unhide RU).1.below Ba1 (Nat.le_refl _)) E0a1 ?_
      intro v3 a2 o3 n3 ba2
      have La2 := La1.below ba2 La1.lt
      have Ra2 := Ra1.below ba2 Ra1.lt
      have Ba2 := Ba1.trans (ba2.mono Ba1.size)
      have sa2 := ba2.size
      have E0a2 := E0a1.below ba2
      have OHa2 := o3
      have t3 := World.ownsRow.lt o3
      clear hHeld
      refine hKK.out _ _ ⟨La2.cell 0 rfl, La2.cell 1 rfl⟩ (fun hHeld => ?_)
      clear hKK KK
      simp only [Act.put, List.setIfInBounds_toArray, List.set_cons_zero, List.set_cons_succ]
      refine ready_at (i := 4) rfl (by kernel_rfl) (fun KK hKK => ?_)
      go_simp
      obtain ⟨a3, ha3⟩ : ∃ x, a2.alloc (.cells #[] 3) = x := ⟨_, rfl⟩
      have ba3 : Below a2.heap.size a2 a3 := ha3 ▸ (Below.refl _ _).alloc (Nat.le_refl _) _
      have za3 : a2.heap.size < a3.heap.size := by rw [← ha3]; simp
      have La3 := La2.below ba3 La2.lt
      have Ra3 := Ra2.below ba3 Ra2.lt
      have Ba3 := Ba2.trans (ba3.mono Ba2.size)
      have sa3 := ba3.size
      have E0a3 := E0a2.below ba3
      have OHa3 := OHa2.below ba3
      have E4a3 : OI a3 a2.heap.size (.slice (some ⟨a2.heap.size, 0, none⟩) 0 0) [] := ha3 ▸ World.ownsRow_lit a2 #[] 0 (Nat.le_refl _) (by unfold maxLen; omega) rfl
      rw [ha3]
      clear hHeld ha3
      refine hKK.out _ _ ⟨La3.cell 0 rfl, La3.cell 1 rfl⟩ (fun hHeld => ?_)
      clear hKK KK
      refine ready_at (i := 7) rfl (by kernel_rfl) (fun KK hKK => ?_)
      refine step_copy (d := 10) rfl rfl (.tmp 7) (.tmp 9) rfl a2.heap.size rfl ys ((unhide RU).2.below Ba3 (Nat.le_refl _)) E4a3 ?_
      intro v7 a4 o7 n7 ba4
      have La4 := La3.below ba4 La3.lt
      have Ra4 := Ra3.below ba4 Ra3.lt
      have Ba4 := Ba3.trans (ba4.mono Ba3.size)
      have sa4 := ba4.size
      have E0a4 := E0a3.below ba4
      have E4a4 := E4a3.below ba4
      have OHa4 := OHa3.below ba4
      have t7 := World.ownsRow.lt o7
      clear hHeld
      refine hKK.out _ _ ⟨La4.cell 0 rfl, La4.cell 1 rfl⟩ (fun hHeld => ?_)
      clear hKK KK
      simp only [Act.put, List.setIfInBounds_toArray, List.set_cons_zero, List.set_cons_succ]
      obtain ⟨la, lc, hla⟩ := OHa4.form
      obtain ⟨ma, mc, hma⟩ := o7.form
      subst hla hma
      refine take_at (i := 8) (d := 11) (v := ?_) rfl rfl (by kernel_rfl) (by kernel_rfl) (by kernel_rfl) (fun _ _ _ h => h) (Or.inl ⟨by rfl, ?_⟩) (by assumption) ?_
      rotate_left
      · intro w hSw
        try dsimp only at hSw
        go_simp
        try with_reducible rfl
      simp only [Act.put, List.setIfInBounds_toArray, List.set_cons_zero, List.set_cons_succ]
      have q0 := Ra4.cell 0 rfl
      have q1 := Ra4.cell 1 rfl
      have FR := Ra4.frozen
      refine ready_at (i := 9) rfl (by kernel_rfl) (fun KK hKK => ?_)
      go_simp
      have L9 := (La4.other (p := ⟨w.heap.size + 1, 0, none⟩) (by simp) (.slice la xs.length lc)).other (p := ⟨w.heap.size + 1, 1, none⟩) (by simp) (.slice ma ys.length mc)
      clear hHeld
      refine hKK.out _ _ ⟨L9.cell 0 rfl, L9.cell 1 rfl⟩ (fun hHeld => ?_)
      clear hKK KK
      clear hHeld L9
      refine wpAnyH_done (by kernel_rfl) ?_ _
      refine NoPanic.normal ?_
      go_wp2
      refine bodyPost_ret (v := lv (.slice la xs.length lc) (.slice ma ys.length mc)) (by simp [results, Try.results44, go_sem, q0, q1]) rfl ?_
      have K7 : Kp a4 ((a4.setCell ⟨w.heap.size + 1, 0, none⟩ (.slice la xs.length lc)).setCell ⟨w.heap.size + 1, 1, none⟩ (.slice ma ys.length mc)) (fun k => k = w.heap.size + 1) := (set_kp a4 _ 0 _).trans (set_kp _ _ 1 _)
      refine ⟨_, _, rfl, ⟨?_, ?_, ?_, ?_, ?_⟩, ?_⟩
      · exact (OHa4.kp K7 (fun j hj => by have := t3 j hj; omega)).mono (by omega)
      · exact (o7.kp K7 (fun j hj => by have := t7 j hj; omega)).mono (by omega)
      · intro j hj; have := t3 j hj; simp; omega
      · intro j hj; have := t7 j hj; simp; omega
      · intro j hj h'; have := t3 j hj; have := t7 j h'; have := n3 j hj; have := n7 j h'; omega
      · exact Below.set (Below.set Ba4 _ _ (by omega)) _ _ (by omega)
    · go_simp
      obtain ⟨a5, ha5⟩ : ∃ x, a1.alloc (.cells #[] 3) = x := ⟨_, rfl⟩
      have ba5 : Below a1.heap.size a1 a5 := ha5 ▸ (Below.refl _ _).alloc (Nat.le_refl _) _
      have za5 : a1.heap.size < a5.heap.size := by rw [← ha5]; simp
      have La5 := La1.below ba5 La1.lt
      have Ra5 := Ra1.below ba5 Ra1.lt
      have Ba5 := Ba1.trans (ba5.mono Ba1.size)
      have sa5 := ba5.size
      have E0a5 := E0a1.below ba5
      have E4a5 : OI a5 a1.heap.size (.slice (some ⟨a1.heap.size, 0, none⟩) 0 0) [] := ha5 ▸ World.ownsRow_lit a1 #[] 0 (Nat.le_refl _) (by unfold maxLen; omega) rfl
      rw [ha5]
      clear hHeld ha5
      refine hKK.out _ _ ⟨La5.cell 0 rfl, La5.cell 1 rfl⟩ (fun hHeld => ?_)
      clear hKK KK
      refine ready_at (i := 3) rfl (by kernel_rfl) (fun KK hKK => ?_)
      refine step_copy (d := 6) rfl rfl (.tmp 3) (.tmp 5) rfl wd.heap.size rfl xs ((unhide RU).1.below Ba5 (Nat.le_refl _)) E0a5 ?_
      intro v3 a6 o3 n3 ba6
      have La6 := La5.below ba6 La5.lt
      have Ra6 := Ra5.below ba6 Ra5.lt
      have Ba6 := Ba5.trans (ba6.mono Ba5.size)
      have sa6 := ba6.size
      have E0a6 := E0a5.below ba6
      have E4a6 := E4a5.below ba6
      have OHa6 := o3
      have t3 := World.ownsRow.lt o3
      clear hHeld
      refine hKK.out _ _ ⟨La6.cell 0 rfl, La6.cell 1 rfl⟩ (fun hHeld => ?_)
      clear hKK KK
      simp only [Act.put, List.setIfInBounds_toArray, List.set_cons_zero, List.set_cons_succ]
      refine ready_at (i := 7) rfl (by kernel_rfl) (fun KK hKK => ?_)
      refine step_copy (d := 10) rfl rfl (.tmp 7) (.tmp 9) rfl a1.heap.size rfl ys ((unhide RU).2.below Ba6 (Nat.le_refl _)) E4a6 ?_
      intro v7 a7 o7 n7 ba7
      have La7 := La6.below ba7 La6.lt
      have Ra7 := Ra6.below ba7 Ra6.lt
      have Ba7 := Ba6.trans (ba7.mono Ba6.size)
      have sa7 := ba7.size
      have E0a7 := E0a6.below ba7
      have E4a7 := E4a6.below ba7
      have OHa7 := OHa6.below ba7
      have t7 := World.ownsRow.lt o7
      clear hHeld
      refine hKK.out _ _ ⟨La7.cell 0 rfl, La7.cell 1 rfl⟩ (fun hHeld => ?_)
      clear hKK KK
      simp only [Act.put, List.setIfInBounds_toArray, List.set_cons_zero, List.set_cons_succ]
      obtain ⟨la, lc, hla⟩ := OHa7.form
      obtain ⟨ma, mc, hma⟩ := o7.form
      subst hla hma
      refine take_at (i := 8) (d := 11) (v := ?_) rfl rfl (by kernel_rfl) (by kernel_rfl) (by kernel_rfl) (fun _ _ _ h => h) (Or.inl ⟨by rfl, ?_⟩) (by assumption) ?_
      rotate_left
      · intro w hSw
        try dsimp only at hSw
        go_simp
        try with_reducible rfl
      simp only [Act.put, List.setIfInBounds_toArray, List.set_cons_zero, List.set_cons_succ]
      have q0 := Ra7.cell 0 rfl
      have q1 := Ra7.cell 1 rfl
      have FR := Ra7.frozen
      refine ready_at (i := 9) rfl (by kernel_rfl) (fun KK hKK => ?_)
      go_simp
      have L9 := (La7.other (p := ⟨w.heap.size + 1, 0, none⟩) (by simp) (.slice la xs.length lc)).other (p := ⟨w.heap.size + 1, 1, none⟩) (by simp) (.slice ma ys.length mc)
      clear hHeld
      refine hKK.out _ _ ⟨L9.cell 0 rfl, L9.cell 1 rfl⟩ (fun hHeld => ?_)
      clear hKK KK
      clear hHeld L9
      refine wpAnyH_done (by kernel_rfl) ?_ _
      refine NoPanic.normal ?_
      go_wp2
      refine bodyPost_ret (v := lv (.slice la xs.length lc) (.slice ma ys.length mc)) (by simp [results, Try.results44, go_sem, q0, q1]) rfl ?_
      have K7 : Kp a7 ((a7.setCell ⟨w.heap.size + 1, 0, none⟩ (.slice la xs.length lc)).setCell ⟨w.heap.size + 1, 1, none⟩ (.slice ma ys.length mc)) (fun k => k = w.heap.size + 1) := (set_kp a7 _ 0 _).trans (set_kp _ _ 1 _)
      refine ⟨_, _, rfl, ⟨?_, ?_, ?_, ?_, ?_⟩, ?_⟩
      · exact (OHa7.kp K7 (fun j hj => by have := t3 j hj; omega)).mono (by omega)
      · exact (o7.kp K7 (fun j hj => by have := t7 j hj; omega)).mono (by omega)
      · intro j hj; have := t3 j hj; simp; omega
      · intro j hj; have := t7 j hj; simp; omega
      · intro j hj h'; have := t3 j hj; have := t7 j h'; have := n3 j hj; have := n7 j h'; omega
      · exact Below.set (Below.set Ba7 _ _ (by omega)) _ _ (by omega)
  · go_simp
    obtain ⟨a8, ha8⟩ : ∃ x, wd.alloc (.cells #[] 3) = x := ⟨_, rfl⟩
    have ba8 : Below wd.heap.size wd a8 := ha8 ▸ (Below.refl _ _).alloc (Nat.le_refl _) _
    have za8 : wd.heap.size < a8.heap.size := by rw [← ha8]; simp
    have La8 := Lwd.below ba8 Lwd.lt
    have Ra8 := Rwd.below ba8 Rwd.lt
    have Ba8 := Bwd.trans (ba8.mono Bwd.size)
    have sa8 := ba8.size
    have E4a8 : OI a8 wd.heap.size (.slice (some ⟨wd.heap.size, 0, none⟩) 0 0) [] := ha8 ▸ World.ownsRow_lit wd #[] 0 (Nat.le_refl _) (by unfold maxLen; omega) rfl
    rw [ha8]
    clear hHeld ha8
    refine hKK.out _ _ ⟨La8.cell 0 rfl, La8.cell 1 rfl⟩ (fun hHeld => ?_)
    clear hKK KK
    refine ready_at (i := 0) rfl (by kernel_rfl) (fun KK hKK => ?_)
    go_simp
    obtain ⟨a9, ha9⟩ : ∃ x, a8.alloc (.cells #[] 3) = x := ⟨_, rfl⟩
    have ba9 : Below a8.heap.size a8 a9 := ha9 ▸ (Below.refl _ _).alloc (Nat.le_refl _) _
    have za9 : a8.heap.size < a9.heap.size := by rw [← ha9]; simp
    have La9 := La8.below ba9 La8.lt
    have Ra9 := Ra8.below ba9 Ra8.lt
    have Ba9 := Ba8.trans (ba9.mono Ba8.size)
    have sa9 := ba9.size
    have E4a9 := E4a8.below ba9
    have E0a9 : OI a9 a8.heap.size (.slice (some ⟨a8.heap.size, 0, none⟩) 0 0) [] := ha9 ▸ World.ownsRow_lit a8 #[] 0 (Nat.le_refl _) (by unfold maxLen; omega) rfl
    rw [ha9]
    clear hHeld ha9
    refine hKK.out _ _ ⟨La9.cell 0 rfl, La9.cell 1 rfl⟩ (fun hHeld => ?_)
    clear hKK KK
    refine ready_at (i := 3) rfl (by kernel_rfl) (fun KK hKK => ?_)
    refine step_copy (d := 6) rfl rfl (.tmp 3) (.tmp 5) rfl a8.heap.size rfl xs ((unhide RU).1.below Ba9 (Nat.le_refl _)) E0a9 ?_
    intro v3 a10 o3 n3 ba10
    have La10 := La9.below ba10 La9.lt
    have Ra10 := Ra9.below ba10 Ra9.lt
    have Ba10 := Ba9.trans (ba10.mono Ba9.size)
    have sa10 := ba10.size
    have E0a10 := E0a9.below ba10
    have E4a10 := E4a9.below ba10
    have OHa10 := o3
    have t3 := World.ownsRow.lt o3
    clear hHeld
    refine hKK.out _ _ ⟨La10.cell 0 rfl, La10.cell 1 rfl⟩ (fun hHeld => ?_)
    clear hKK KK
    simp only [Act.put, List.setIfInBounds_toArray, List.set_cons_zero, List.set_cons_succ]
    refine ready_at (i := 7) rfl (by kernel_rfl) (fun KK hKK => ?_)
    refine step_copy (d := 10) rfl rfl (.tmp 7) (.tmp 9) rfl wd.heap.size rfl ys ((unhide RU).2.below Ba10 (Nat.le_refl _)) E4a10 ?_
    intro v7 a11 o7 n7 ba11
    have La11 := La10.below ba11 La10.lt
    have Ra11 := Ra10.below ba11 Ra10.lt
    have Ba11 := Ba10.trans (ba11.mono Ba10.size)
    have sa11 := ba11.size
    have E0a11 := E0a10.below ba11
    have E4a11 := E4a10.below ba11
    have OHa11 := OHa10.below ba11
    have t7 := World.ownsRow.lt o7
    clear hHeld
    refine hKK.out _ _ ⟨La11.cell 0 rfl, La11.cell 1 rfl⟩ (fun hHeld => ?_)
    clear hKK KK
    simp only [Act.put, List.setIfInBounds_toArray, List.set_cons_zero, List.set_cons_succ]
    obtain ⟨la, lc, hla⟩ := OHa11.form
    obtain ⟨ma, mc, hma⟩ := o7.form
    subst hla hma
    refine take_at (i := 8) (d := 11) (v := ?_) rfl rfl (by kernel_rfl) (by kernel_rfl) (by kernel_rfl) (fun _ _ _ h => h) (Or.inl ⟨by rfl, ?_⟩) (by assumption) ?_
    rotate_left
    · intro w hSw
      try dsimp only at hSw
      go_simp
      try with_reducible rfl
    simp only [Act.put, List.setIfInBounds_toArray, List.set_cons_zero, List.set_cons_succ]
    have q0 := Ra11.cell 0 rfl
    have q1 := Ra11.cell 1 rfl
    have FR := Ra11.frozen
    refine ready_at (i := 9) rfl (by kernel_rfl) (fun KK hKK => ?_)
    go_simp
    have L9 := (La11.other (p := ⟨w.heap.size + 1, 0, none⟩) (by simp) (.slice la xs.length lc)).other (p := ⟨w.heap.size + 1, 1, none⟩) (by simp) (.slice ma ys.length mc)
    clear hHeld
    refine hKK.out _ _ ⟨L9.cell 0 rfl, L9.cell 1 rfl⟩ (fun hHeld => ?_)
    clear hKK KK
    clear hHeld L9
    refine wpAnyH_done (by kernel_rfl) ?_ _
    refine NoPanic.normal ?_
    go_wp2
    refine bodyPost_ret (v := lv (.slice la xs.length lc) (.slice ma ys.length mc)) (by simp [results, Try.results44, go_sem, q0, q1]) rfl ?_
    have K7 : Kp a11 ((a11.setCell ⟨w.heap.size + 1, 0, none⟩ (.slice la xs.length lc)).setCell ⟨w.heap.size + 1, 1, none⟩ (.slice ma ys.length mc)) (fun k => k = w.heap.size + 1) := (set_kp a11 _ 0 _).trans (set_kp _ _ 1 _)
    refine ⟨_, _, rfl, ⟨?_, ?_, ?_, ?_, ?_⟩, ?_⟩
    · exact (OHa11.kp K7 (fun j hj => by have := t3 j hj; omega)).mono (by omega)
    · exact (o7.kp K7 (fun j hj => by have := t7 j hj; omega)).mono (by omega)
    · intro j hj; have := t3 j hj; simp; omega
    · intro j hj; have := t7 j hj; simp; omega
    · intro j hj h'; have := t3 j hj; have := t7 j h'; have := n3 j hj; have := n7 j h'; omega
    · exact Below.set (Below.set Ba11 _ _ (by omega)) _ _ (by omega)
end Go.Proofs.Ytlglekfmiacdnaa
