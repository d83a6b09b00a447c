/- DiskTold: what told answers of a drive. -/
import Derived.Test.YtoideigjadblhaaDiskImpl
import Derived.Deep.DeepCutAuto
import Derived.RegionTactic
namespace Go.Proofs.Ytoideigjadblhaa
open Go.RowKit

set_option maxHeartbeats 4000000 in
set_option maxRecDepth 100000 in
theorem told_new (g : Nat) (ao : Option Addr) (n ca : Nat) (s : Int) (xs : List Int) (w : World) (h : Loc w g (drv 0 (.slice ao n ca) s 0)) (hr : RF w g (.slice ao n ca) xs) :
    Calls Try.prog 33 #[.pointer (some ⟨g, 0, none⟩)] w fun e w' => ∃ u, e = .returned (dv u s) ∧ OB w' w.heap.size u xs ∧ Kp w w' (fun k => k = g) := by
  obtain ⟨w0, hw0⟩ : ∃ y, w.alloc (.cells #[.slice none 0 0, .int .i64 0] 25) = y := ⟨_, rfl⟩
  have b0 : Below w.heap.size w w0 := hw0 ▸ qalloc _ _
  have R0 : Loc w0 w.heap.size #[.slice none 0 0, .int .i64 0] := hw0 ▸ loc_at w _ _ rfl
  have LK := hide (lockL g (.slice ao n ca) s 0 w0 (h.below b0 h.lt))
  have r0 := hr.below b0
  have hl := hr.1
  have lgw := h.lt
  have hn : xs.length = n := by obtain ⟨_, _, _, e, _⟩ := hr; injection e with _ e2 _; exact e2.symm
  have HN := hide hn
  clear h hr
  have hRg : w.heap.size ≠ g := by omega
  go_enter_defers Try.func33, Try.ntmps33
  go_wp2_with fail
  clear hw0
  refine (unhide LK).mono ?_
  rintro e w1 ⟨rfl, L1, k1⟩
  have R1 : PB w1 (.slice ao n ca) xs := (r0.kp k1).rb.pb
  replace R0 := R0.kp k1 (by omega)
  have K1 : Kp w w1 (fun k => k = g) := (Below.kpOf b0 _).trans k1
  have z1 : w.heap.size < w1.heap.size := R0.lt
  clear b0 k1 r0 LK
  go_upto_region 3 with fail
  have K : Hid (∀ w', Below w1.heap.size w1 w' → (fun w' => w'.cell? ⟨g, 2, none⟩ = some (.slice ao n ca) ∧ w'.cell? ⟨g, 3, none⟩ = some (.int .i64 s)) w') := hide fun w' hb' => ⟨(L1.below hb' L1.lt).cell 2 rfl, (L1.below hb' L1.lt).cell 3 rfl⟩
  obtain ⟨wd, hwd⟩ : ∃ y, w1.drew = y := ⟨_, rfl⟩
  have bd : Below w1.heap.size w1 wd := hwd ▸ Below.drew (Below.refl _ _)
  have szd := bd.size
  have PD := R1.below bd
  refine wp_region_noPanic ?_
  refine wp_region_held_drew (S := fun w' => w'.cell? ⟨g, 2, none⟩ = some (.slice ao n ca) ∧ w'.cell? ⟨g, 3, none⟩ = some (.int .i64 s)) (by kernel_rfl) (hwd ▸ unhide K _ bd) (fun hHeld => ?_)
  rw [hwd] at hHeld ⊢
  clear hwd
  refine take_at (i := 0) (d := 11) (v := ?_) rfl rfl (by kernel_rfl) (by kernel_rfl) (by kernel_rfl) (fun _ _ _ h => h) (Or.inl ⟨by rfl, ?_⟩) (by assumption) ?_
  rotate_left
  · intro w hSw
    try dsimp only at hSw
    go_simp
    try with_reducible rfl
  simp only [Act.put, List.setIfInBounds_toArray, List.set_cons_zero, List.set_cons_succ]
  refine take_at (i := 1) (d := 12) (v := ?_) rfl rfl (by kernel_rfl) (by kernel_rfl) (by kernel_rfl) (fun _ _ _ h => h) (Or.inl ⟨by rfl, ?_⟩) (by assumption) ?_
  rotate_left
  · intro w hSw
    try dsimp only at hSw
    go_simp
    try with_reducible rfl
  simp only [Act.put, List.setIfInBounds_toArray, List.set_cons_zero, List.set_cons_succ]
  refine take_at (i := 2) (d := 13) (v := ?_) rfl rfl (by kernel_rfl) (by kernel_rfl) (by kernel_rfl) (fun _ _ _ h => h) (Or.inl ⟨by rfl, ?_⟩) (by assumption) ?_
  rotate_left
  · intro w hSw
    try dsimp only at hSw
    go_simp
    try with_reducible rfl
  simp only [Act.put, List.setIfInBounds_toArray, List.set_cons_zero, List.set_cons_succ]
  refine take_at (i := 3) (d := 14) (v := ?_) rfl rfl (by kernel_rfl) (by kernel_rfl) (by kernel_rfl) (fun _ _ _ h => h) (Or.inl ⟨by rfl, ?_⟩) (by assumption) ?_
  rotate_left
  · intro w hSw
    try dsimp only at hSw
    go_simp
    try with_reducible rfl
  simp only [Act.put, List.setIfInBounds_toArray, List.set_cons_zero, List.set_cons_succ]
  refine take_at (i := 4) (d := 15) (v := ?_) rfl rfl (by kernel_rfl) (by kernel_rfl) (by kernel_rfl) (fun _ _ _ h => h) (Or.inl ⟨by rfl, ?_⟩) (by assumption) ?_
  rotate_left
  · intro w hSw
    try dsimp only at hSw
    go_simp
    try with_reducible rfl
  simp only [Act.put, List.setIfInBounds_toArray, List.set_cons_zero, List.set_cons_succ]
  refine take_at (i := 6) (d := 17) (v := ?_) rfl rfl (by kernel_rfl) (by kernel_rfl) (by kernel_rfl) (fun _ _ _ h => h) (Or.inl ⟨by rfl, ?_⟩) (by assumption) ?_
  rotate_left
  · intro w hSw
    try dsimp only at hSw
    go_simp
    try with_reducible rfl
  simp only [Act.put, List.setIfInBounds_toArray, List.set_cons_zero, List.set_cons_succ]
  refine take_at (i := 7) (d := 18) (v := ?_) rfl rfl (by kernel_rfl) (by kernel_rfl) (by kernel_rfl) (fun _ _ _ h => h) (Or.inl ⟨by rfl, ?_⟩) (by assumption) ?_
  rotate_left
  · intro w hSw
    try dsimp only at hSw
    go_simp
    try with_reducible rfl
  simp only [Act.put, List.setIfInBounds_toArray, List.set_cons_zero, List.set_cons_succ]
  refine take_at (i := 8) (d := 19) (v := ?_) rfl rfl (by kernel_rfl) (by kernel_rfl) (by kernel_rfl) (fun _ _ _ h => h) (Or.inl ⟨by rfl, ?_⟩) (by assumption) ?_
  rotate_left
  · intro w hSw
    try dsimp only at hSw
    go_simp
    try with_reducible rfl
  simp only [Act.put, List.setIfInBounds_toArray, List.set_cons_zero, List.set_cons_succ]
  refine take_at (i := 9) (d := 20) (v := ?_) rfl rfl (by kernel_rfl) (by kernel_rfl) (by kernel_rfl) (fun _ _ _ h => h) (Or.inl ⟨by rfl, ?_⟩) (by assumption) ?_
  rotate_left
  · intro w hSw
    try dsimp only at hSw
    go_simp
    try with_reducible rfl
  simp only [Act.put, List.setIfInBounds_toArray, List.set_cons_zero, List.set_cons_succ]
  refine take_at (i := 10) (d := 21) (v := ?_) rfl rfl (by kernel_rfl) (by kernel_rfl) (by kernel_rfl) (fun _ _ _ h => h) (Or.inl ⟨by rfl, ?_⟩) (by assumption) ?_
  rotate_left
  · intro w hSw
    try dsimp only at hSw
    go_simp
    try with_reducible rfl
  simp only [Act.put, List.setIfInBounds_toArray, List.set_cons_zero, List.set_cons_succ]
  refine wpAnyH_ready (rs := [5, 12]) (by kernel_rfl) (by simp) (AllReadyH.cons rfl (fun KK hKK => ?_) (AllReadyH.cons rfl (fun KK hKK => ?_) AllReadyH.nil))
  · refine step_append_bytes rfl (.const (.slice none 0 0)) (.tmp 15) rfl w1.heap.size (.slice none 0 0) (.slice ao n ca) [] xs rfl rfl (World.ownsRow_nil _ _ _ _) PD (by simp; omega) bd.size ?_
    intro u wa O g7 hown
    have ba : Below w1.heap.size w1 wa := bd.grown g7 bd.size (fun j hj => by simp [Value.ownBlock] at hj)
    rw [List.nil_append] at O
    have q7 := g7.size
    have tO := World.ownsRow.lt O
    obtain ⟨ua, uc, rfl⟩ := O.form
    rw [hn] at O tO hown ⊢
    clear hHeld
    refine hKK.out _ _ (unhide K _ ba) (fun hHeld => ?_)
    clear hKK KK
    refine take_at (i := 11) (d := 22) (v := ?_) rfl rfl (by kernel_rfl) (by kernel_rfl) (by kernel_rfl) (fun _ _ _ h => h) (Or.inl ⟨by rfl, ?_⟩) (by assumption) ?_
    rotate_left
    · intro w hSw
      try dsimp only at hSw
      go_simp
      try with_reducible rfl
    simp only [Act.put, List.setIfInBounds_toArray]
    refine ready_at (i := 12) rfl (by kernel_rfl) (fun KK hKK => ?_)
    go_simp
    obtain ⟨wb, hq⟩ : ∃ y, wa.alloc (.cells #[.slice none 0 0, .int .i64 0] 25) = y := ⟨_, rfl⟩
    have bl : Below wa.heap.size wa wb := hq ▸ qalloc _ _
    have bb : Below w1.heap.size w1 wb := ba.trans (bl.mono ba.size)
    have lg : Loc wb wa.heap.size #[.slice none 0 0, .int .i64 0] := hq ▸ loc_at wa _ _ rfl
    have zq : wb.heap.size = wa.heap.size + 1 := by rw [← hq]; simp
    rw [hq]
    clear hq
    replace O := O.below bl
    clear hHeld
    refine hKK.out _ _ (unhide K _ bb) (fun hHeld => ?_)
    clear hKK KK
    have q0 := lg.cell 0 rfl
    have q1 := lg.cell 1 rfl
    have FG := lg.frozen
    have llg := lg.lt
    refine ready_at (i := 13) rfl (by kernel_rfl) (fun KK hKK => ?_)
    go_simp
    obtain ⟨w5, hw5⟩ : ∃ y, (wb.setCell ⟨wa.heap.size, 0, none⟩ (.slice ua n uc)).setCell ⟨wa.heap.size, 1, none⟩ (.int .i64 s) = y := ⟨_, rfl⟩
    have k5 : Kp wb w5 (fun k => k = wa.heap.size) := hw5 ▸ (set_kp _ _ _ _).trans (set_kp _ _ _ _)
    have L5 : Loc w5 wa.heap.size #[.slice ua n uc, .int .i64 s] := hw5 ▸ (lg.set 0 _ rfl).set 1 _ rfl
    have bs : Below w1.heap.size w1 w5 := Below.kp bb k5 bb.size (fun k hk => by omega)
    rw [hw5]
    clear hw5 q0 q1 FG
    clear hHeld
    refine hKK.out _ _ (unhide K _ bs) (fun hHeld => ?_)
    clear hKK KK
    clear hHeld
    refine wpAnyH_done (by kernel_rfl) ?_ _
    refine NoPanic.normal ?_
    have O5 : OB w5 w1.heap.size (.slice ua n uc) xs := O.kp k5 (fun j hj e => by have := (tO j hj).2; omega)
    have hg5 : g < wa.heap.size := Nat.lt_of_lt_of_le L1.lt (by omega)
    have hj5 : ∀ j, (Value.slice ua n uc).ownBlock = some j → j < wa.heap.size := fun j hj => (tO j hj).2
    have hu5 : ∀ j, (Value.slice ua n uc).ownBlock = some j → j ≠ wa.heap.size := fun j hj => by have := hj5 j hj; omega
    have zw5 : w1.heap.size ≤ wa.heap.size := ba.size
    generalize wa.heap.size = q at *
    clear tO O k5 lg bl PD bd szd ba bb zq q7 hj5 hown g7 llg
    clear K
    have L5g := L1.below bs L1.lt
    have R5 := R0.below bs R0.lt
    have K5 := K1.trans (Below.kpOf bs _)
    have s5 := bs.size
    clear L1 R0 K1 bs R1
    have LD := hide (atomicLoad g 4 0 w5 (L5g.cell 4 rfl))
    go_wp2_with fail
    refine (unhide LD).mono ?_
    rintro e w6 ⟨rfl, rfl⟩
    clear LD
    have y0 := L5.cell 0 rfl
    have y1 := L5.cell 1 rfl
    have fy := L5.frozen
    have r0 := R5.cell 0 rfl
    have r1 := R5.cell 1 rfl
    have fr := R5.frozen
    go_wp2
    obtain ⟨w7, hw7⟩ : ∃ y, (w6.setCell ⟨w.heap.size, 0, none⟩ (.slice ua n uc)).setCell ⟨w.heap.size, 1, none⟩ (.int .i64 s) = y := ⟨_, rfl⟩
    have k7 : Kp w6 w7 (fun k => k = w.heap.size ∨ k = q) := hw7 ▸ ((set_kp _ _ _ _).mono (fun k e => Or.inl e)).trans ((set_kp _ _ _ _).mono (fun k e => Or.inl e))
    have L7 : Loc w7 g (drv 1 (.slice ao n ca) s 0) := hw7 ▸ (L5g.other (p := ⟨w.heap.size, 0, none⟩) (by simpa using hRg.symm) _).other (p := ⟨w.heap.size, 1, none⟩) (by simpa using hRg.symm) _
    have R7 : Loc w7 w.heap.size #[.slice ua n uc, .int .i64 s] := hw7 ▸ (R5.set 0 _ rfl).set 1 _ rfl
    have lt5 := World.ownsRow.lt O5
    have O7 : OB w7 w1.heap.size (.slice ua n uc) xs := O5.kp k7 (fun j hj e => e.elim (fun e => by have := (lt5 j hj).1; omega) (fun e => hu5 j hj e))
    have lt7 := World.ownsRow.lt O7
    have K7 : Kp w w7 (fun k => k = g) := ⟨k7.os.trans K5.os, k7.tape.trans K5.tape, k7.output.trans K5.output, Nat.le_trans K5.size k7.size, fun j hj hx => (k7.block j (Nat.lt_of_lt_of_le hj K5.size) (fun e => by rcases e with e | e <;> omega)).trans (K5.block j hj hx)⟩
    rw [hw7]
    clear hw7 k7 O5 K5 R5 L5g L5 y0 y1 fy r0 r1 fr lt5
    refine leaves_cons (f := 45) (args := #[.pointer (some ⟨g, 0, none⟩)]) (by simp) (by simp [go_sem]) ?_
    refine (unlockL g (.slice ao n ca) s 0 .returning _ L7).mono ?_
    rintro e u' w8 ⟨rfl, rfl, L8, k8⟩
    have R8 := R7.kp k8 hRg
    have r0 := R8.cell 0 rfl
    have r1 := R8.cell 1 rfl
    refine ⟨dv (.slice ua n uc) s, by simp [results, Try.results33, go_sem, r0, r1], _, rfl, (O7.kp k8 (fun j hj e => by have := (lt7 j hj).1; omega)).mono (by omega), K7.trans k8⟩
  · go_simp
    obtain ⟨wb, hq⟩ : ∃ y, wd.alloc (.cells #[.slice none 0 0, .int .i64 0] 25) = y := ⟨_, rfl⟩
    have bl : Below wd.heap.size wd wb := hq ▸ qalloc _ _
    have bb : Below w1.heap.size w1 wb := bd.trans (bl.mono bd.size)
    have lg : Loc wb wd.heap.size #[.slice none 0 0, .int .i64 0] := hq ▸ loc_at wd _ _ rfl
    have zq : wb.heap.size = wd.heap.size + 1 := by rw [← hq]; simp
    rw [hq]
    clear hq
    clear hHeld
    refine hKK.out _ _ (unhide K _ bb) (fun hHeld => ?_)
    clear hKK KK
    refine ready_at (i := 5) rfl (by kernel_rfl) (fun KK hKK => ?_)
    refine step_append_bytes rfl (.const (.slice none 0 0)) (.tmp 15) rfl w1.heap.size (.slice none 0 0) (.slice ao n ca) [] xs rfl rfl (World.ownsRow_nil _ _ _ _) (PD.below bl) (by simp; omega) bb.size ?_
    intro u wa O g7 hown
    have ba : Below w1.heap.size w1 wa := bb.grown g7 bb.size (fun j hj => by simp [Value.ownBlock] at hj)
    rw [List.nil_append] at O
    have q7 := g7.size
    replace lg := lg.kp (kp_grown g7) (by simp [Value.ownBlock])
    have tO := World.ownsRow.lt O
    obtain ⟨ua, uc, rfl⟩ := O.form
    rw [hn] at O tO hown ⊢
    clear hHeld
    refine hKK.out _ _ (unhide K _ ba) (fun hHeld => ?_)
    clear hKK KK
    refine take_at (i := 11) (d := 22) (v := ?_) rfl rfl (by kernel_rfl) (by kernel_rfl) (by kernel_rfl) (fun _ _ _ h => h) (Or.inl ⟨by rfl, ?_⟩) (by assumption) ?_
    rotate_left
    · intro w hSw
      try dsimp only at hSw
      go_simp
      try with_reducible rfl
    simp only [Act.put, List.setIfInBounds_toArray]
    have q0 := lg.cell 0 rfl
    have q1 := lg.cell 1 rfl
    have FG := lg.frozen
    have llg := lg.lt
    refine ready_at (i := 13) rfl (by kernel_rfl) (fun KK hKK => ?_)
    go_simp
    obtain ⟨w5, hw5⟩ : ∃ y, (wa.setCell ⟨wd.heap.size, 0, none⟩ (.slice ua n uc)).setCell ⟨wd.heap.size, 1, none⟩ (.int .i64 s) = y := ⟨_, rfl⟩
    have k5 : Kp wa w5 (fun k => k = wd.heap.size) := hw5 ▸ (set_kp _ _ _ _).trans (set_kp _ _ _ _)
    have L5 : Loc w5 wd.heap.size #[.slice ua n uc, .int .i64 s] := hw5 ▸ (lg.set 0 _ rfl).set 1 _ rfl
    have bs : Below w1.heap.size w1 w5 := Below.kp ba k5 ba.size (fun k hk => by omega)
    rw [hw5]
    clear hw5 q0 q1 FG
    clear hHeld
    refine hKK.out _ _ (unhide K _ bs) (fun hHeld => ?_)
    clear hKK KK
    clear hHeld
    refine wpAnyH_done (by kernel_rfl) ?_ _
    refine NoPanic.normal ?_
    have hu5 : ∀ j, (Value.slice ua n uc).ownBlock = some j → j ≠ wd.heap.size := fun j hj => by have h1 := hj; rcases hown with h2 | h2 <;> rw [h2] at h1 <;> simp [Value.ownBlock] at h1; omega
    have O5 : OB w5 w1.heap.size (.slice ua n uc) xs := O.kp k5 (fun j hj e => hu5 j hj e)
    have hg5 : g < wd.heap.size := Nat.lt_of_lt_of_le L1.lt (by omega)
    have zw5 : w1.heap.size ≤ wd.heap.size := szd
    generalize wd.heap.size = q at *
    clear tO O k5 lg bl PD bd szd ba bb zq q7 hown g7 llg
    clear K
    have L5g := L1.below bs L1.lt
    have R5 := R0.below bs R0.lt
    have K5 := K1.trans (Below.kpOf bs _)
    have s5 := bs.size
    clear L1 R0 K1 bs R1
    have LD := hide (atomicLoad g 4 0 w5 (L5g.cell 4 rfl))
    go_wp2_with fail
    refine (unhide LD).mono ?_
    rintro e w6 ⟨rfl, rfl⟩
    clear LD
    have y0 := L5.cell 0 rfl
    have y1 := L5.cell 1 rfl
    have fy := L5.frozen
    have r0 := R5.cell 0 rfl
    have r1 := R5.cell 1 rfl
    have fr := R5.frozen
    go_wp2
    obtain ⟨w7, hw7⟩ : ∃ y, (w6.setCell ⟨w.heap.size, 0, none⟩ (.slice ua n uc)).setCell ⟨w.heap.size, 1, none⟩ (.int .i64 s) = y := ⟨_, rfl⟩
    have k7 : Kp w6 w7 (fun k => k = w.heap.size ∨ k = q) := hw7 ▸ ((set_kp _ _ _ _).mono (fun k e => Or.inl e)).trans ((set_kp _ _ _ _).mono (fun k e => Or.inl e))
    have L7 : Loc w7 g (drv 1 (.slice ao n ca) s 0) := hw7 ▸ (L5g.other (p := ⟨w.heap.size, 0, none⟩) (by simpa using hRg.symm) _).other (p := ⟨w.heap.size, 1, none⟩) (by simpa using hRg.symm) _
    have R7 : Loc w7 w.heap.size #[.slice ua n uc, .int .i64 s] := hw7 ▸ (R5.set 0 _ rfl).set 1 _ rfl
    have lt5 := World.ownsRow.lt O5
    have O7 : OB w7 w1.heap.size (.slice ua n uc) xs := O5.kp k7 (fun j hj e => e.elim (fun e => by have := (lt5 j hj).1; omega) (fun e => hu5 j hj e))
    have lt7 := World.ownsRow.lt O7
    have K7 : Kp w w7 (fun k => k = g) := ⟨k7.os.trans K5.os, k7.tape.trans K5.tape, k7.output.trans K5.output, Nat.le_trans K5.size k7.size, fun j hj hx => (k7.block j (Nat.lt_of_lt_of_le hj K5.size) (fun e => by rcases e with e | e <;> omega)).trans (K5.block j hj hx)⟩
    rw [hw7]
    clear hw7 k7 O5 K5 R5 L5g L5 y0 y1 fy r0 r1 fr lt5
    refine leaves_cons (f := 45) (args := #[.pointer (some ⟨g, 0, none⟩)]) (by simp) (by simp [go_sem]) ?_
    refine (unlockL g (.slice ao n ca) s 0 .returning _ L7).mono ?_
    rintro e u' w8 ⟨rfl, rfl, L8, k8⟩
    have R8 := R7.kp k8 hRg
    have r0 := R8.cell 0 rfl
    have r1 := R8.cell 1 rfl
    refine ⟨dv (.slice ua n uc) s, by simp [results, Try.results33, go_sem, r0, r1], _, rfl, (O7.kp k8 (fun j hj e => by have := (lt7 j hj).1; omega)).mono (by omega), K7.trans k8⟩

set_option maxHeartbeats 4000000 in
set_option maxRecDepth 100000 in
theorem told_sure (g : Nat) (ao : Option Addr) (n ca : Nat) (s : Int) (xs : List Int) (w : World) (h : Loc w g (drv 0 (.slice ao n ca) s 1)) (hr : RF w g (.slice ao n ca) xs) :
    Calls Try.prog 33 #[.pointer (some ⟨g, 0, none⟩)] w fun e w' => ∃ u, e = .returned (dv u (n : Int)) ∧ OB w' w.heap.size u xs ∧ Kp w w' (fun k => k = g) := by
  obtain ⟨w0, hw0⟩ : ∃ y, w.alloc (.cells #[.slice none 0 0, .int .i64 0] 25) = y := ⟨_, rfl⟩
  have b0 : Below w.heap.size w w0 := hw0 ▸ qalloc _ _
  have R0 : Loc w0 w.heap.size #[.slice none 0 0, .int .i64 0] := hw0 ▸ loc_at w _ _ rfl
  have LK := hide (lockL g (.slice ao n ca) s 1 w0 (h.below b0 h.lt))
  have r0 := hr.below b0
  have hl := hr.1
  have lgw := h.lt
  have hn : xs.length = n := by obtain ⟨_, _, _, e, _⟩ := hr; injection e with _ e2 _; exact e2.symm
  have HN := hide hn
  clear h hr
  have hRg : w.heap.size ≠ g := by omega
  go_enter_defers Try.func33, Try.ntmps33
  go_wp2_with fail
  clear hw0
  refine (unhide LK).mono ?_
  rintro e w1 ⟨rfl, L1, k1⟩
  have R1 : PB w1 (.slice ao n ca) xs := (r0.kp k1).rb.pb
  replace R0 := R0.kp k1 (by omega)
  have K1 : Kp w w1 (fun k => k = g) := (Below.kpOf b0 _).trans k1
  have z1 : w.heap.size < w1.heap.size := R0.lt
  clear b0 k1 r0 LK
  go_upto_region 3 with fail
  have K : Hid (∀ w', Below w1.heap.size w1 w' → (fun w' => w'.cell? ⟨g, 2, none⟩ = some (.slice ao n ca) ∧ w'.cell? ⟨g, 3, none⟩ = some (.int .i64 s)) w') := hide fun w' hb' => ⟨(L1.below hb' L1.lt).cell 2 rfl, (L1.below hb' L1.lt).cell 3 rfl⟩
  obtain ⟨wd, hwd⟩ : ∃ y, w1.drew = y := ⟨_, rfl⟩
  have bd : Below w1.heap.size w1 wd := hwd ▸ Below.drew (Below.refl _ _)
  have szd := bd.size
  have PD := R1.below bd
  refine wp_region_noPanic ?_
  refine wp_region_held_drew (S := fun w' => w'.cell? ⟨g, 2, none⟩ = some (.slice ao n ca) ∧ w'.cell? ⟨g, 3, none⟩ = some (.int .i64 s)) (by kernel_rfl) (hwd ▸ unhide K _ bd) (fun hHeld => ?_)
  rw [hwd] at hHeld ⊢
  clear hwd
  refine take_at (i := 0) (d := 11) (v := ?_) rfl rfl (by kernel_rfl) (by kernel_rfl) (by kernel_rfl) (fun _ _ _ h => h) (Or.inl ⟨by rfl, ?_⟩) (by assumption) ?_
  rotate_left
  · intro w hSw
    try dsimp only at hSw
    go_simp
    try with_reducible rfl
  simp only [Act.put, List.setIfInBounds_toArray, List.set_cons_zero, List.set_cons_succ]
  refine take_at (i := 1) (d := 12) (v := ?_) rfl rfl (by kernel_rfl) (by kernel_rfl) (by kernel_rfl) (fun _ _ _ h => h) (Or.inl ⟨by rfl, ?_⟩) (by assumption) ?_
  rotate_left
  · intro w hSw
    try dsimp only at hSw
    go_simp
    try with_reducible rfl
  simp only [Act.put, List.setIfInBounds_toArray, List.set_cons_zero, List.set_cons_succ]
  refine take_at (i := 2) (d := 13) (v := ?_) rfl rfl (by kernel_rfl) (by kernel_rfl) (by kernel_rfl) (fun _ _ _ h => h) (Or.inl ⟨by rfl, ?_⟩) (by assumption) ?_
  rotate_left
  · intro w hSw
    try dsimp only at hSw
    go_simp
    try with_reducible rfl
  simp only [Act.put, List.setIfInBounds_toArray, List.set_cons_zero, List.set_cons_succ]
  refine take_at (i := 3) (d := 14) (v := ?_) rfl rfl (by kernel_rfl) (by kernel_rfl) (by kernel_rfl) (fun _ _ _ h => h) (Or.inl ⟨by rfl, ?_⟩) (by assumption) ?_
  rotate_left
  · intro w hSw
    try dsimp only at hSw
    go_simp
    try with_reducible rfl
  simp only [Act.put, List.setIfInBounds_toArray, List.set_cons_zero, List.set_cons_succ]
  refine take_at (i := 4) (d := 15) (v := ?_) rfl rfl (by kernel_rfl) (by kernel_rfl) (by kernel_rfl) (fun _ _ _ h => h) (Or.inl ⟨by rfl, ?_⟩) (by assumption) ?_
  rotate_left
  · intro w hSw
    try dsimp only at hSw
    go_simp
    try with_reducible rfl
  simp only [Act.put, List.setIfInBounds_toArray, List.set_cons_zero, List.set_cons_succ]
  refine take_at (i := 6) (d := 17) (v := ?_) rfl rfl (by kernel_rfl) (by kernel_rfl) (by kernel_rfl) (fun _ _ _ h => h) (Or.inl ⟨by rfl, ?_⟩) (by assumption) ?_
  rotate_left
  · intro w hSw
    try dsimp only at hSw
    go_simp
    try with_reducible rfl
  simp only [Act.put, List.setIfInBounds_toArray, List.set_cons_zero, List.set_cons_succ]
  refine take_at (i := 7) (d := 18) (v := ?_) rfl rfl (by kernel_rfl) (by kernel_rfl) (by kernel_rfl) (fun _ _ _ h => h) (Or.inl ⟨by rfl, ?_⟩) (by assumption) ?_
  rotate_left
  · intro w hSw
    try dsimp only at hSw
    go_simp
    try with_reducible rfl
  simp only [Act.put, List.setIfInBounds_toArray, List.set_cons_zero, List.set_cons_succ]
  refine take_at (i := 8) (d := 19) (v := ?_) rfl rfl (by kernel_rfl) (by kernel_rfl) (by kernel_rfl) (fun _ _ _ h => h) (Or.inl ⟨by rfl, ?_⟩) (by assumption) ?_
  rotate_left
  · intro w hSw
    try dsimp only at hSw
    go_simp
    try with_reducible rfl
  simp only [Act.put, List.setIfInBounds_toArray, List.set_cons_zero, List.set_cons_succ]
  refine take_at (i := 9) (d := 20) (v := ?_) rfl rfl (by kernel_rfl) (by kernel_rfl) (by kernel_rfl) (fun _ _ _ h => h) (Or.inl ⟨by rfl, ?_⟩) (by assumption) ?_
  rotate_left
  · intro w hSw
    try dsimp only at hSw
    go_simp
    try with_reducible rfl
  simp only [Act.put, List.setIfInBounds_toArray, List.set_cons_zero, List.set_cons_succ]
  refine take_at (i := 10) (d := 21) (v := ?_) rfl rfl (by kernel_rfl) (by kernel_rfl) (by kernel_rfl) (fun _ _ _ h => h) (Or.inl ⟨by rfl, ?_⟩) (by assumption) ?_
  rotate_left
  · intro w hSw
    try dsimp only at hSw
    go_simp
    try with_reducible rfl
  simp only [Act.put, List.setIfInBounds_toArray, List.set_cons_zero, List.set_cons_succ]
  refine wpAnyH_ready (rs := [5, 12]) (by kernel_rfl) (by simp) (AllReadyH.cons rfl (fun KK hKK => ?_) (AllReadyH.cons rfl (fun KK hKK => ?_) AllReadyH.nil))
  · refine step_append_bytes rfl (.const (.slice none 0 0)) (.tmp 15) rfl w1.heap.size (.slice none 0 0) (.slice ao n ca) [] xs rfl rfl (World.ownsRow_nil _ _ _ _) PD (by simp; omega) bd.size ?_
    intro u wa O g7 hown
    have ba : Below w1.heap.size w1 wa := bd.grown g7 bd.size (fun j hj => by simp [Value.ownBlock] at hj)
    rw [List.nil_append] at O
    have q7 := g7.size
    have tO := World.ownsRow.lt O
    obtain ⟨ua, uc, rfl⟩ := O.form
    rw [hn] at O tO hown ⊢
    clear hHeld
    refine hKK.out _ _ (unhide K _ ba) (fun hHeld => ?_)
    clear hKK KK
    refine take_at (i := 11) (d := 22) (v := ?_) rfl rfl (by kernel_rfl) (by kernel_rfl) (by kernel_rfl) (fun _ _ _ h => h) (Or.inl ⟨by rfl, ?_⟩) (by assumption) ?_
    rotate_left
    · intro w hSw
      try dsimp only at hSw
      go_simp
      try with_reducible rfl
    simp only [Act.put, List.setIfInBounds_toArray]
    refine ready_at (i := 12) rfl (by kernel_rfl) (fun KK hKK => ?_)
    go_simp
    obtain ⟨wb, hq⟩ : ∃ y, wa.alloc (.cells #[.slice none 0 0, .int .i64 0] 25) = y := ⟨_, rfl⟩
    have bl : Below wa.heap.size wa wb := hq ▸ qalloc _ _
    have bb : Below w1.heap.size w1 wb := ba.trans (bl.mono ba.size)
    have lg : Loc wb wa.heap.size #[.slice none 0 0, .int .i64 0] := hq ▸ loc_at wa _ _ rfl
    have zq : wb.heap.size = wa.heap.size + 1 := by rw [← hq]; simp
    rw [hq]
    clear hq
    replace O := O.below bl
    clear hHeld
    refine hKK.out _ _ (unhide K _ bb) (fun hHeld => ?_)
    clear hKK KK
    have q0 := lg.cell 0 rfl
    have q1 := lg.cell 1 rfl
    have FG := lg.frozen
    have llg := lg.lt
    refine ready_at (i := 13) rfl (by kernel_rfl) (fun KK hKK => ?_)
    go_simp
    obtain ⟨w5, hw5⟩ : ∃ y, (wb.setCell ⟨wa.heap.size, 0, none⟩ (.slice ua n uc)).setCell ⟨wa.heap.size, 1, none⟩ (.int .i64 s) = y := ⟨_, rfl⟩
    have k5 : Kp wb w5 (fun k => k = wa.heap.size) := hw5 ▸ (set_kp _ _ _ _).trans (set_kp _ _ _ _)
    have L5 : Loc w5 wa.heap.size #[.slice ua n uc, .int .i64 s] := hw5 ▸ (lg.set 0 _ rfl).set 1 _ rfl
    have bs : Below w1.heap.size w1 w5 := Below.kp bb k5 bb.size (fun k hk => by omega)
    rw [hw5]
    clear hw5 q0 q1 FG
    clear hHeld
    refine hKK.out _ _ (unhide K _ bs) (fun hHeld => ?_)
    clear hKK KK
    clear hHeld
    refine wpAnyH_done (by kernel_rfl) ?_ _
    refine NoPanic.normal ?_
    have O5 : OB w5 w1.heap.size (.slice ua n uc) xs := O.kp k5 (fun j hj e => by have := (tO j hj).2; omega)
    have hg5 : g < wa.heap.size := Nat.lt_of_lt_of_le L1.lt (by omega)
    have hj5 : ∀ j, (Value.slice ua n uc).ownBlock = some j → j < wa.heap.size := fun j hj => (tO j hj).2
    have hu5 : ∀ j, (Value.slice ua n uc).ownBlock = some j → j ≠ wa.heap.size := fun j hj => by have := hj5 j hj; omega
    have zw5 : w1.heap.size ≤ wa.heap.size := ba.size
    generalize wa.heap.size = q at *
    clear tO O k5 lg bl PD bd szd ba bb zq q7 hj5 hown g7 llg
    clear K
    have L5g := L1.below bs L1.lt
    have R5 := R0.below bs R0.lt
    have K5 := K1.trans (Below.kpOf bs _)
    have s5 := bs.size
    clear L1 R0 K1 bs R1
    have LD := hide (atomicLoad g 4 1 w5 (L5g.cell 4 rfl))
    go_wp2_with fail
    refine (unhide LD).mono ?_
    rintro e w6 ⟨rfl, rfl⟩
    clear LD
    have y0 := L5.cell 0 rfl
    have y1 := L5.cell 1 rfl
    have fy := L5.frozen
    have r0 := R5.cell 0 rfl
    have r1 := R5.cell 1 rfl
    have fr := R5.frozen
    go_wp2
    obtain ⟨w7, hw7⟩ : ∃ y, ((w6.setCell ⟨q, 1, none⟩ (.int .i64 (n : Int))).setCell ⟨w.heap.size, 0, none⟩ (.slice ua n uc)).setCell ⟨w.heap.size, 1, none⟩ (.int .i64 (n : Int)) = y := ⟨_, rfl⟩
    have k7 : Kp w6 w7 (fun k => k = w.heap.size ∨ k = q) := hw7 ▸ (((set_kp _ _ _ _).mono (fun k e => Or.inr e)).trans ((set_kp _ _ _ _).mono (fun k e => Or.inl e))).trans ((set_kp _ _ _ _).mono (fun k e => Or.inl e))
    have L7 : Loc w7 g (drv 1 (.slice ao n ca) s 1) := hw7 ▸ ((L5g.other (p := ⟨q, 1, none⟩) (by simp; omega) _).other (p := ⟨w.heap.size, 0, none⟩) (by simpa using hRg.symm) _).other (p := ⟨w.heap.size, 1, none⟩) (by simpa using hRg.symm) _
    have R7 : Loc w7 w.heap.size #[.slice ua n uc, .int .i64 (n : Int)] := hw7 ▸ ((R5.other (p := ⟨q, 1, none⟩) (by simp; omega) _).set 0 _ rfl).set 1 _ rfl
    have lt5 := World.ownsRow.lt O5
    have O7 : OB w7 w1.heap.size (.slice ua n uc) xs := O5.kp k7 (fun j hj e => e.elim (fun e => by have := (lt5 j hj).1; omega) (fun e => hu5 j hj e))
    have lt7 := World.ownsRow.lt O7
    have K7 : Kp w w7 (fun k => k = g) := ⟨k7.os.trans K5.os, k7.tape.trans K5.tape, k7.output.trans K5.output, Nat.le_trans K5.size k7.size, fun j hj hx => (k7.block j (Nat.lt_of_lt_of_le hj K5.size) (fun e => by rcases e with e | e <;> omega)).trans (K5.block j hj hx)⟩
    rw [hw7]
    clear hw7 k7 O5 K5 R5 L5g L5 y0 y1 fy r0 r1 fr lt5
    refine leaves_cons (f := 45) (args := #[.pointer (some ⟨g, 0, none⟩)]) (by simp) (by simp [go_sem]) ?_
    refine (unlockL g (.slice ao n ca) s 1 .returning _ L7).mono ?_
    rintro e u' w8 ⟨rfl, rfl, L8, k8⟩
    have R8 := R7.kp k8 hRg
    have r0 := R8.cell 0 rfl
    have r1 := R8.cell 1 rfl
    refine ⟨dv (.slice ua n uc) (n : Int), by simp [results, Try.results33, go_sem, r0, r1], _, rfl, (O7.kp k8 (fun j hj e => by have := (lt7 j hj).1; omega)).mono (by omega), K7.trans k8⟩
  · go_simp
    obtain ⟨wb, hq⟩ : ∃ y, wd.alloc (.cells #[.slice none 0 0, .int .i64 0] 25) = y := ⟨_, rfl⟩
    have bl : Below wd.heap.size wd wb := hq ▸ qalloc _ _
    have bb : Below w1.heap.size w1 wb := bd.trans (bl.mono bd.size)
    have lg : Loc wb wd.heap.size #[.slice none 0 0, .int .i64 0] := hq ▸ loc_at wd _ _ rfl
    have zq : wb.heap.size = wd.heap.size + 1 := by rw [← hq]; simp
    rw [hq]
    clear hq
    clear hHeld
    refine hKK.out _ _ (unhide K _ bb) (fun hHeld => ?_)
    clear hKK KK
    refine ready_at (i := 5) rfl (by kernel_rfl) (fun KK hKK => ?_)
    refine step_append_bytes rfl (.const (.slice none 0 0)) (.tmp 15) rfl w1.heap.size (.slice none 0 0) (.slice ao n ca) [] xs rfl rfl (World.ownsRow_nil _ _ _ _) (PD.below bl) (by simp; omega) bb.size ?_
    intro u wa O g7 hown
    have ba : Below w1.heap.size w1 wa := bb.grown g7 bb.size (fun j hj => by simp [Value.ownBlock] at hj)
    rw [List.nil_append] at O
    have q7 := g7.size
    replace lg := lg.kp (kp_grown g7) (by simp [Value.ownBlock])
    have tO := World.ownsRow.lt O
    obtain ⟨ua, uc, rfl⟩ := O.form
    rw [hn] at O tO hown ⊢
    clear hHeld
    refine hKK.out _ _ (unhide K _ ba) (fun hHeld => ?_)
    clear hKK KK
    refine take_at (i := 11) (d := 22) (v := ?_) rfl rfl (by kernel_rfl) (by kernel_rfl) (by kernel_rfl) (fun _ _ _ h => h) (Or.inl ⟨by rfl, ?_⟩) (by assumption) ?_
    rotate_left
    · intro w hSw
      try dsimp only at hSw
      go_simp
      try with_reducible rfl
    simp only [Act.put, List.setIfInBounds_toArray]
    have q0 := lg.cell 0 rfl
    have q1 := lg.cell 1 rfl
    have FG := lg.frozen
    have llg := lg.lt
    refine ready_at (i := 13) rfl (by kernel_rfl) (fun KK hKK => ?_)
    go_simp
    obtain ⟨w5, hw5⟩ : ∃ y, (wa.setCell ⟨wd.heap.size, 0, none⟩ (.slice ua n uc)).setCell ⟨wd.heap.size, 1, none⟩ (.int .i64 s) = y := ⟨_, rfl⟩
    have k5 : Kp wa w5 (fun k => k = wd.heap.size) := hw5 ▸ (set_kp _ _ _ _).trans (set_kp _ _ _ _)
    have L5 : Loc w5 wd.heap.size #[.slice ua n uc, .int .i64 s] := hw5 ▸ (lg.set 0 _ rfl).set 1 _ rfl
    have bs : Below w1.heap.size w1 w5 := Below.kp ba k5 ba.size (fun k hk => by omega)
    rw [hw5]
    clear hw5 q0 q1 FG
    clear hHeld
    refine hKK.out _ _ (unhide K _ bs) (fun hHeld => ?_)
    clear hKK KK
    clear hHeld
    refine wpAnyH_done (by kernel_rfl) ?_ _
    refine NoPanic.normal ?_
    have hu5 : ∀ j, (Value.slice ua n uc).ownBlock = some j → j ≠ wd.heap.size := fun j hj => by have h1 := hj; rcases hown with h2 | h2 <;> rw [h2] at h1 <;> simp [Value.ownBlock] at h1; omega
    have O5 : OB w5 w1.heap.size (.slice ua n uc) xs := O.kp k5 (fun j hj e => hu5 j hj e)
    have hg5 : g < wd.heap.size := Nat.lt_of_lt_of_le L1.lt (by omega)
    have zw5 : w1.heap.size ≤ wd.heap.size := szd
    generalize wd.heap.size = q at *
    clear tO O k5 lg bl PD bd szd ba bb zq q7 hown g7 llg
    clear K
    have L5g := L1.below bs L1.lt
    have R5 := R0.below bs R0.lt
    have K5 := K1.trans (Below.kpOf bs _)
    have s5 := bs.size
    clear L1 R0 K1 bs R1
    have LD := hide (atomicLoad g 4 1 w5 (L5g.cell 4 rfl))
    go_wp2_with fail
    refine (unhide LD).mono ?_
    rintro e w6 ⟨rfl, rfl⟩
    clear LD
    have y0 := L5.cell 0 rfl
    have y1 := L5.cell 1 rfl
    have fy := L5.frozen
    have r0 := R5.cell 0 rfl
    have r1 := R5.cell 1 rfl
    have fr := R5.frozen
    go_wp2
    obtain ⟨w7, hw7⟩ : ∃ y, ((w6.setCell ⟨q, 1, none⟩ (.int .i64 (n : Int))).setCell ⟨w.heap.size, 0, none⟩ (.slice ua n uc)).setCell ⟨w.heap.size, 1, none⟩ (.int .i64 (n : Int)) = y := ⟨_, rfl⟩
    have k7 : Kp w6 w7 (fun k => k = w.heap.size ∨ k = q) := hw7 ▸ (((set_kp _ _ _ _).mono (fun k e => Or.inr e)).trans ((set_kp _ _ _ _).mono (fun k e => Or.inl e))).trans ((set_kp _ _ _ _).mono (fun k e => Or.inl e))
    have L7 : Loc w7 g (drv 1 (.slice ao n ca) s 1) := hw7 ▸ ((L5g.other (p := ⟨q, 1, none⟩) (by simp; omega) _).other (p := ⟨w.heap.size, 0, none⟩) (by simpa using hRg.symm) _).other (p := ⟨w.heap.size, 1, none⟩) (by simpa using hRg.symm) _
    have R7 : Loc w7 w.heap.size #[.slice ua n uc, .int .i64 (n : Int)] := hw7 ▸ ((R5.other (p := ⟨q, 1, none⟩) (by simp; omega) _).set 0 _ rfl).set 1 _ rfl
    have lt5 := World.ownsRow.lt O5
    have O7 : OB w7 w1.heap.size (.slice ua n uc) xs := O5.kp k7 (fun j hj e => e.elim (fun e => by have := (lt5 j hj).1; omega) (fun e => hu5 j hj e))
    have lt7 := World.ownsRow.lt O7
    have K7 : Kp w w7 (fun k => k = g) := ⟨k7.os.trans K5.os, k7.tape.trans K5.tape, k7.output.trans K5.output, Nat.le_trans K5.size k7.size, fun j hj hx => (k7.block j (Nat.lt_of_lt_of_le hj K5.size) (fun e => by rcases e with e | e <;> omega)).trans (K5.block j hj hx)⟩
    rw [hw7]
    clear hw7 k7 O5 K5 R5 L5g L5 y0 y1 fy r0 r1 fr lt5
    refine leaves_cons (f := 45) (args := #[.pointer (some ⟨g, 0, none⟩)]) (by simp) (by simp [go_sem]) ?_
    refine (unlockL g (.slice ao n ca) s 1 .returning _ L7).mono ?_
    rintro e u' w8 ⟨rfl, rfl, L8, k8⟩
    have R8 := R7.kp k8 hRg
    have r0 := R8.cell 0 rfl
    have r1 := R8.cell 1 rfl
    refine ⟨dv (.slice ua n uc) (n : Int), by simp [results, Try.results33, go_sem, r0, r1], _, rfl, (O7.kp k8 (fun j hj e => by have := (lt7 j hj).1; omega)).mono (by omega), K7.trans k8⟩

end Go.Proofs.Ytoideigjadblhaa
