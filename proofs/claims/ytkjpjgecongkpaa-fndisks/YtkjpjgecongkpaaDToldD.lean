/- DToldD: what a disk tells again -/
import Derived.Test.YtkjpjgecongkpaaDiskImpl
import Derived.Test.YtkjpjgecongkpaaRowsM
import Derived.Test.YtkjpjgecongkpaaByteOwn
import Derived.Deep.DeepCutAuto
import Derived.RegionTactic
import Derived.Deep.RegionHeld3
namespace Go.Proofs.Ytkjpjgecongkpaa
open Go Go.RowKit

set_option linter.unusedSimpArgs false in
set_option maxHeartbeats 16000000 in
set_option maxRecDepth 100000 in
theorem dtold_any (ao : Option Addr) (ca : Nat) (s : Int) (xs : List Int) (w : World) (hl : xs.length ≤ 16777216) (hr : RB w (.slice ao xs.length ca) xs) :
    Calls Try.prog 47 #[dv (.slice ao xs.length ca) s] w fun e w' => ∃ u, e = .returned (dv u s) ∧ OB w' w.heap.size u xs ∧ Below w.heap.size w w' := by
  have HR := hide hr
  clear hr
  obtain ⟨w0, hw0⟩ : ∃ w0, ((w.alloc (.cells #[.slice ao xs.length ca, .int .i64 s] 25)).alloc (.cells #[.slice none 0 0, .int .i64 0] 25)) = w0 := ⟨_, rfl⟩
  have Bw0 : Below w.heap.size w w0 := hw0 ▸ ((Below.refl _ _).alloc (Nat.le_refl _) _).alloc (by simp) _
  have P : Loc w0 (w.heap.size) #[.slice ao xs.length ca, .int .i64 s] := hw0 ▸ (loc_at (w) _ _ rfl).alloc _
  have O : Loc w0 (w.heap.size + 1) #[.slice none 0 0, .int .i64 0] := hw0 ▸ loc_at (w.alloc _) _ _ (by simp)
  have zw0 : w.heap.size + 1 + 1 ≤ w0.heap.size := by rw [← hw0]; simp
  go_enter Try.func47, Try.ntmps47
  have K : Hid (∀ w', Kp w0 w' (fun k => k = w.heap.size + 1) → (fun w' => Kp w0 w' (fun k => k = w.heap.size + 1) ∧ (w'.cell? ⟨w.heap.size, 0, none⟩ = some (.slice ao xs.length ca) ∧ w'.cell? ⟨w.heap.size, 1, none⟩ = some (.int .i64 s))) w') := hide fun w' hk' => ⟨hk', ⟨(P.kp hk' (by omega)).cell 0 rfl, (P.kp hk' (by omega)).cell 1 rfl⟩⟩
  go_upto_region 1 with fail
  clear hw0
  have bA : Kp w0 w0.drew (fun k => k = w.heap.size + 1) := Below.kpOf (Below.drew (Below.refl _ _)) _
  have bb : Below w0.heap.size w0 w0.drew := Below.drew (Below.refl _ _)
  refine wp_region_noPanic ?_
  refine wp_region_held_drew (S := fun w' => Kp w0 w' (fun k => k = w.heap.size + 1) ∧ (w'.cell? ⟨w.heap.size, 0, none⟩ = some (.slice ao xs.length ca) ∧ w'.cell? ⟨w.heap.size, 1, none⟩ = some (.int .i64 s))) (by kernel_rfl) (unhide K _ bA) (fun hHeld => ?_)
  obtain ⟨wd1, hwd⟩ : ∃ y, w0.drew = y := ⟨_, rfl⟩
  rw [hwd] at bA bb hHeld ⊢
  clear hwd
  have Bwd1 := Bw0.trans (bb.mono Bw0.size)
  have swd1 := bb.size
  replace P := P.below bb P.lt
  replace O := O.below bb O.lt
  clear Bw0
  clear bb
  refine take_at (i := 0) (d := 3) (v := ?_) rfl rfl (by kernel_rfl) (by kernel_rfl) (by kernel_rfl) (fun _ _ _ h => h) (Or.inl ⟨by rfl, ?_⟩) (by assumption) ?_
  rotate_left
  · intro w hSw
    try dsimp only at hSw
    go_simp
    try with_reducible rfl
  simp only [Act.put, List.setIfInBounds_toArray, List.set_cons_zero, List.set_cons_succ]
  refine take_at (i := 3) (d := 6) (v := ?_) rfl rfl (by kernel_rfl) (by kernel_rfl) (by kernel_rfl) (fun _ _ _ h => h) (Or.inl ⟨by rfl, ?_⟩) (by assumption) ?_
  rotate_left
  · intro w hSw
    try dsimp only at hSw
    go_simp
    try with_reducible rfl
  simp only [Act.put, List.setIfInBounds_toArray, List.set_cons_zero, List.set_cons_succ]
  refine take_at (i := 1) (d := 4) (v := ?_) rfl rfl (by kernel_rfl) (by kernel_rfl) (by kernel_rfl) (fun _ _ _ h => h) (Or.inl ⟨by rfl, ?_⟩) (by assumption) ?_
  rotate_left
  · intro w hSw
    try dsimp only at hSw
    go_simp
    try with_reducible rfl
  simp only [Act.put, List.setIfInBounds_toArray, List.set_cons_zero, List.set_cons_succ]
  refine take_at (i := 4) (d := 7) (v := ?_) rfl rfl (by kernel_rfl) (by kernel_rfl) (by kernel_rfl) (fun _ _ _ h => h) (Or.inl ⟨by rfl, ?_⟩) (by assumption) ?_
  rotate_left
  · intro w hSw
    try dsimp only at hSw
    go_simp
    try with_reducible rfl
  simp only [Act.put, List.setIfInBounds_toArray, List.set_cons_zero, List.set_cons_succ]
  refine ready_at (i := 2) rfl (by kernel_rfl) (fun KK hKK => ?_)
  refine step_append_bytes rfl (.const (.slice none 0 0)) (.tmp 4) rfl w0.heap.size (.slice none 0 0) (.slice ao xs.length ca) [] (xs) rfl rfl (World.ownsRow_nil _ _ _ _) (((unhide HR).below Bwd1 (Nat.le_refl _)).pb) (by simp; omega) bA.size ?_
  intro u wx1_1 oU g7 _
  have bb : Below wd1.heap.size wd1 wx1_1 := (Below.refl _ _).grown g7 (Nat.le_refl _) (fun j hj => by simp [Value.ownBlock] at hj)
  rw [List.nil_append] at oU
  have bx1_2 : Kp w0 wx1_1 (fun k => k = w.heap.size + 1) := bA.trans (Below.kpOf bb _)
  clear hHeld g7
  refine hKK.out _ _ (unhide K _ bx1_2) (fun hHeld => ?_)
  clear hKK KK bA
  have Bwx1_1 := Bwd1.trans (bb.mono Bwd1.size)
  have swx1_1 := bb.size
  replace P := P.below bb P.lt
  replace O := O.below bb O.lt
  clear Bwd1
  clear bb
  change wpAnyH _ _ _ _ _ _ _ (Act.put _ (some 5) _) _
  have toU := World.ownsRow.lt oU
  obtain ⟨aoU, koU, rfl⟩ := oU.form
  simp only [Act.put, List.setIfInBounds_toArray, List.set_cons_zero, List.set_cons_succ]
  refine take_at (i := 5) (d := 8) (v := ?_) rfl rfl (by kernel_rfl) (by kernel_rfl) (by kernel_rfl) (fun _ _ _ h => h) (Or.inl ⟨by rfl, ?_⟩) (by assumption) ?_
  rotate_left
  · intro w hSw
    try dsimp only at hSw
    go_simp
    try with_reducible rfl
  simp only [Act.put, List.setIfInBounds_toArray, List.set_cons_zero, List.set_cons_succ]
  refine ready_at (i := 6) rfl (by kernel_rfl) (fun KK hKK => ?_)
  rw [if_pos (by rfl)]
  refine wp_store_mid 25 (.tmp 2) (.tmp 8) rfl (w.heap.size + 1) 0 #[.slice aoU xs.length koU, .int .i64 s] rfl rfl (O.there 0 2 (by simp)) (by kernel_rfl) (by simp [Value.oneCell']) ?_
  obtain ⟨wx1_3, hq⟩ : ∃ y, wx1_1.setCells (w.heap.size + 1) 0 [.slice aoU xs.length koU, .int .i64 s] = y := ⟨_, rfl⟩
  have kN : Kp wx1_1 wx1_3 (fun k => k = w.heap.size + 1) := hq ▸ setCells_kp _ _ _ _
  have bx1_4 : Kp w0 wx1_3 (fun k => k = w.heap.size + 1) := bx1_2.trans (kN.mono (fun k e => e))
  replace O : Loc wx1_3 (w.heap.size + 1) #[.slice aoU xs.length koU, .int .i64 s] := hq ▸ O.setCells _ _ rfl
  rw [show wx1_1.setCells (w.heap.size + 1) 0 (Array.toList #[.slice aoU xs.length koU, .int .i64 s]) = wx1_3 from hq]
  clear hHeld
  refine hKK.out _ _ (unhide K _ bx1_4) (fun hHeld => ?_)
  clear hKK KK bx1_2
  replace P := P.kp kN (by omega)
  replace oU := oU.kp kN (fun j hj e => by have := toU j hj; omega)
  have Bwx1_3 := Below.kp Bwx1_1 kN Bwx1_1.size (fun k hk => by omega)
  have swx1_3 := kN.size
  clear hq kN Bwx1_1
  clear hHeld
  refine wpAnyH_done (by kernel_rfl) ?_ _
  refine NoPanic.normal ?_
  clear K bx1_4
  go_wp2
  refine bodyPost_ret (v := dv (.slice aoU xs.length koU) s) (res_row Try.results47 _ O rfl Try.underlying25 rfl (by kernel_rfl)) rfl ?_
  exact ⟨_, rfl, oU.mono (by omega), Bwx1_3⟩
end Go.Proofs.Ytkjpjgecongkpaa
