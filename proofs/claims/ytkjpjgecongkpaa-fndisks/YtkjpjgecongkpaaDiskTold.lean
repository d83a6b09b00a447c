/- DiskTold: what told answers of a drive, over what a disk tells again. -/
import Derived.Test.YtkjpjgecongkpaaDToldD
import Derived.Deep.DeepCutAuto
import Derived.RegionTactic
namespace Go.Proofs.Ytkjpjgecongkpaa
open Go.RowKit

set_option linter.unusedVariables false in
set_option maxHeartbeats 4000000 in
set_option maxRecDepth 100000 in
theorem told_new (g : Nat) (ao : Option Addr) (n ca : Nat) (s : Int) (xs : List Int) (w : World) (h : Loc w g (drv 0 (.slice ao n ca) s 0)) (hr : RF w g (.slice ao n ca) xs) :
    Calls Try.prog 33 #[.pointer (some ⟨g, 0, none⟩)] w fun e w' => ∃ u, e = .returned (dv u s) ∧ OB w' w.heap.size u xs ∧ Kp w w' (fun k => k = g) := by
  obtain ⟨w0, hw0⟩ : ∃ y, w.alloc (.cells #[.slice none 0 0, .int .i64 0] 25) = y := ⟨_, rfl⟩
  have b0 : Below w.heap.size w w0 := hw0 ▸ qalloc _ _
  have R0 : Loc w0 w.heap.size #[.slice none 0 0, .int .i64 0] := hw0 ▸ loc_at w _ _ rfl
  have LK := hide (lockL g (.slice ao n ca) s 0 w0 (h.below b0 h.lt))
  have r0 := hr.below b0
  have hl := hr.1
  have lgw := h.lt
  have hn : xs.length = n := by obtain ⟨_, _, _, e, _⟩ := hr; injection e with _ e2 _; exact e2.symm
  have HN := hide hn
  clear h hr
  have hRg : w.heap.size ≠ g := by omega
  go_enter_defers Try.func33, Try.ntmps33
  go_wp2_with fail
  clear hw0
  refine (unhide LK).mono ?_
  rintro e w1 ⟨rfl, L1, k1⟩
  have R1 := (r0.kp k1).rb
  rw [← hn] at R1
  have DT := hide (dtold_any ao ca s xs w1 (by omega) R1)
  rw [hn] at DT
  replace R0 := R0.kp k1 (by omega)
  have K1 : Kp w w1 (fun k => k = g) := (Below.kpOf b0 _).trans k1
  have z1 : w.heap.size < w1.heap.size := R0.lt
  have hg1 := L1.lt
  clear b0 k1 r0 LK R1
  have c2 := L1.cell 2 rfl
  have c3 := L1.cell 3 rfl
  go_wp2_with fail
  refine (unhide DT).mono ?_
  rintro e w2 ⟨u, rfl, O2, bb⟩
  clear c2 c3 DT
  have L2 := L1.below bb L1.lt
  have R2 := R0.below bb R0.lt
  have K2 := K1.trans (Below.kpOf bb _)
  have s2 := bb.size
  clear L1 R0 K1 bb
  have lt2 := World.ownsRow.lt O2
  obtain ⟨ua, uc, rfl⟩ := O2.form
  rw [hn] at O2 lt2 ⊢
  go_upto_region 4 with (refine wstore (loc_at w2 #[.slice none 0 0, .int .i64 0] 25 rfl) 25 #[.slice ua n uc, .int .i64 s] rfl _ _ rfl rfl rfl (by kernel_rfl) rfl (by simp [Value.oneCell']) ?_)
  obtain ⟨w5, h5⟩ : ∃ y, (w2.alloc (.cells #[.slice none 0 0, .int .i64 0] 25)).setRow w2.heap.size #[.slice ua n uc, .int .i64 s] = y := ⟨_, rfl⟩
  rw [h5]
  have bs : Below w2.heap.size w2 w5 := h5 ▸ box_below _ _ _ _
  have L5 : Loc w5 w2.heap.size #[.slice ua n uc, .int .i64 s] := h5 ▸ box_loc _ _ _ _
  clear h5
  have O5 := O2.below bs
  have hu5 : ∀ j, (Value.slice ua n uc).ownBlock = some j → j ≠ w2.heap.size := fun j hj => Nat.ne_of_lt (lt2 j hj).2
  have L5g := L2.below bs L2.lt
  have R5 := R2.below bs R2.lt
  have K5 := K2.trans (Below.kpOf bs _)
  have s5 := bs.size
  have hg2 := L2.lt
  have hr2 := R2.lt
  clear L2 R2 K2 bs O2 lt2
  have LD := hide (atomicLoad g 4 0 w5 (L5g.cell 4 rfl))
  go_wp2_with fail
  refine (unhide LD).mono ?_
  rintro e w6 ⟨rfl, rfl⟩
  clear LD
  have y0 := L5.cell 0 rfl
  have y1 := L5.cell 1 rfl
  have fy := L5.frozen
  have r0 := R5.cell 0 rfl
  have r1 := R5.cell 1 rfl
  have fr := R5.frozen
  go_wp2
  obtain ⟨w7, hw7⟩ : ∃ y, (w6.setCell ⟨w.heap.size, 0, none⟩ (.slice ua n uc)).setCell ⟨w.heap.size, 1, none⟩ (.int .i64 s) = y := ⟨_, rfl⟩
  have k7 : Kp w6 w7 (fun k => k = w.heap.size ∨ k = w2.heap.size) := hw7 ▸ ((set_kp _ _ _ _).mono (fun k e => Or.inl e)).trans ((set_kp _ _ _ _).mono (fun k e => Or.inl e))
  have L7 : Loc w7 g (drv 1 (.slice ao n ca) s 0) := hw7 ▸ (L5g.other (p := ⟨w.heap.size, 0, none⟩) (by simpa using hRg.symm) _).other (p := ⟨w.heap.size, 1, none⟩) (by simpa using hRg.symm) _
  have R7 : Loc w7 w.heap.size #[.slice ua n uc, .int .i64 s] := hw7 ▸ (R5.set 0 _ rfl).set 1 _ rfl
  have lt5 := World.ownsRow.lt O5
  have O7 : OB w7 w1.heap.size (.slice ua n uc) xs := O5.kp k7 (fun j hj e => e.elim (fun e => by have := (lt5 j hj).1; omega) (fun e => hu5 j hj e))
  have lt7 := World.ownsRow.lt O7
  have K7 : Kp w w7 (fun k => k = g) := ⟨k7.os.trans K5.os, k7.tape.trans K5.tape, k7.output.trans K5.output, Nat.le_trans K5.size k7.size, fun j hj hx => (k7.block j (Nat.lt_of_lt_of_le hj K5.size) (fun e => by rcases e with e | e <;> omega)).trans (K5.block j hj hx)⟩
  rw [hw7]
  clear hw7 k7 O5 K5 R5 L5g L5 y0 y1 fy r0 r1 fr lt5
  refine leaves_cons (f := 45) (args := #[.pointer (some ⟨g, 0, none⟩)]) (by simp) (by simp [go_sem]) ?_
  refine (unlockL g (.slice ao n ca) s 0 .returning _ L7).mono ?_
  rintro e u' w8 ⟨rfl, rfl, L8, k8⟩
  have R8 := R7.kp k8 hRg
  have r0 := R8.cell 0 rfl
  have r1 := R8.cell 1 rfl
  refine ⟨dv (.slice ua n uc) s, by simp [results, Try.results33, go_sem, r0, r1], _, rfl, (O7.kp k8 (fun j hj e => by have := (lt7 j hj).1; omega)).mono (by omega), K7.trans k8⟩

set_option linter.unusedVariables false in
set_option maxHeartbeats 4000000 in
set_option maxRecDepth 100000 in
theorem told_sure (g : Nat) (ao : Option Addr) (n ca : Nat) (s : Int) (xs : List Int) (w : World) (h : Loc w g (drv 0 (.slice ao n ca) s 1)) (hr : RF w g (.slice ao n ca) xs) :
    Calls Try.prog 33 #[.pointer (some ⟨g, 0, none⟩)] w fun e w' => ∃ u, e = .returned (dv u (n : Int)) ∧ OB w' w.heap.size u xs ∧ Kp w w' (fun k => k = g) := by
  obtain ⟨w0, hw0⟩ : ∃ y, w.alloc (.cells #[.slice none 0 0, .int .i64 0] 25) = y := ⟨_, rfl⟩
  have b0 : Below w.heap.size w w0 := hw0 ▸ qalloc _ _
  have R0 : Loc w0 w.heap.size #[.slice none 0 0, .int .i64 0] := hw0 ▸ loc_at w _ _ rfl
  have LK := hide (lockL g (.slice ao n ca) s 1 w0 (h.below b0 h.lt))
  have r0 := hr.below b0
  have hl := hr.1
  have lgw := h.lt
  have hn : xs.length = n := by obtain ⟨_, _, _, e, _⟩ := hr; injection e with _ e2 _; exact e2.symm
  have HN := hide hn
  clear h hr
  have hRg : w.heap.size ≠ g := by omega
  go_enter_defers Try.func33, Try.ntmps33
  go_wp2_with fail
  clear hw0
  refine (unhide LK).mono ?_
  rintro e w1 ⟨rfl, L1, k1⟩
  have R1 := (r0.kp k1).rb
  rw [← hn] at R1
  have DT := hide (dtold_any ao ca s xs w1 (by omega) R1)
  rw [hn] at DT
  replace R0 := R0.kp k1 (by omega)
  have K1 : Kp w w1 (fun k => k = g) := (Below.kpOf b0 _).trans k1
  have z1 : w.heap.size < w1.heap.size := R0.lt
  have hg1 := L1.lt
  clear b0 k1 r0 LK R1
  have c2 := L1.cell 2 rfl
  have c3 := L1.cell 3 rfl
  go_wp2_with fail
  refine (unhide DT).mono ?_
  rintro e w2 ⟨u, rfl, O2, bb⟩
  clear c2 c3 DT
  have L2 := L1.below bb L1.lt
  have R2 := R0.below bb R0.lt
  have K2 := K1.trans (Below.kpOf bb _)
  have s2 := bb.size
  clear L1 R0 K1 bb
  have lt2 := World.ownsRow.lt O2
  obtain ⟨ua, uc, rfl⟩ := O2.form
  rw [hn] at O2 lt2 ⊢
  go_upto_region 4 with (refine wstore (loc_at w2 #[.slice none 0 0, .int .i64 0] 25 rfl) 25 #[.slice ua n uc, .int .i64 s] rfl _ _ rfl rfl rfl (by kernel_rfl) rfl (by simp [Value.oneCell']) ?_)
  obtain ⟨w5, h5⟩ : ∃ y, (w2.alloc (.cells #[.slice none 0 0, .int .i64 0] 25)).setRow w2.heap.size #[.slice ua n uc, .int .i64 s] = y := ⟨_, rfl⟩
  rw [h5]
  have bs : Below w2.heap.size w2 w5 := h5 ▸ box_below _ _ _ _
  have L5 : Loc w5 w2.heap.size #[.slice ua n uc, .int .i64 s] := h5 ▸ box_loc _ _ _ _
  clear h5
  have O5 := O2.below bs
  have hu5 : ∀ j, (Value.slice ua n uc).ownBlock = some j → j ≠ w2.heap.size := fun j hj => Nat.ne_of_lt (lt2 j hj).2
  have L5g := L2.below bs L2.lt
  have R5 := R2.below bs R2.lt
  have K5 := K2.trans (Below.kpOf bs _)
  have s5 := bs.size
  have hg2 := L2.lt
  have hr2 := R2.lt
  clear L2 R2 K2 bs O2 lt2
  have LD := hide (atomicLoad g 4 1 w5 (L5g.cell 4 rfl))
  go_wp2_with fail
  refine (unhide LD).mono ?_
  rintro e w6 ⟨rfl, rfl⟩
  clear LD
  have y0 := L5.cell 0 rfl
  have y1 := L5.cell 1 rfl
  have fy := L5.frozen
  have r0 := R5.cell 0 rfl
  have r1 := R5.cell 1 rfl
  have fr := R5.frozen
  go_wp2
  obtain ⟨w7, hw7⟩ : ∃ y, ((w6.setCell ⟨w2.heap.size, 1, none⟩ (.int .i64 (n : Int))).setCell ⟨w.heap.size, 0, none⟩ (.slice ua n uc)).setCell ⟨w.heap.size, 1, none⟩ (.int .i64 (n : Int)) = y := ⟨_, rfl⟩
  have k7 : Kp w6 w7 (fun k => k = w.heap.size ∨ k = w2.heap.size) := hw7 ▸ (((set_kp _ _ _ _).mono (fun k e => Or.inr e)).trans ((set_kp _ _ _ _).mono (fun k e => Or.inl e))).trans ((set_kp _ _ _ _).mono (fun k e => Or.inl e))
  have L7 : Loc w7 g (drv 1 (.slice ao n ca) s 1) := hw7 ▸ ((L5g.other (p := ⟨w2.heap.size, 1, none⟩) (by simp; omega) _).other (p := ⟨w.heap.size, 0, none⟩) (by simpa using hRg.symm) _).other (p := ⟨w.heap.size, 1, none⟩) (by simpa using hRg.symm) _
  have R7 : Loc w7 w.heap.size #[.slice ua n uc, .int .i64 (n : Int)] := hw7 ▸ ((R5.other (p := ⟨w2.heap.size, 1, none⟩) (by simp; omega) _).set 0 _ rfl).set 1 _ rfl
  have lt5 := World.ownsRow.lt O5
  have O7 : OB w7 w1.heap.size (.slice ua n uc) xs := O5.kp k7 (fun j hj e => e.elim (fun e => by have := (lt5 j hj).1; omega) (fun e => hu5 j hj e))
  have lt7 := World.ownsRow.lt O7
  have K7 : Kp w w7 (fun k => k = g) := ⟨k7.os.trans K5.os, k7.tape.trans K5.tape, k7.output.trans K5.output, Nat.le_trans K5.size k7.size, fun j hj hx => (k7.block j (Nat.lt_of_lt_of_le hj K5.size) (fun e => by rcases e with e | e <;> omega)).trans (K5.block j hj hx)⟩
  rw [hw7]
  clear hw7 k7 O5 K5 R5 L5g L5 y0 y1 fy r0 r1 fr lt5
  refine leaves_cons (f := 45) (args := #[.pointer (some ⟨g, 0, none⟩)]) (by simp) (by simp [go_sem]) ?_
  refine (unlockL g (.slice ao n ca) s 1 .returning _ L7).mono ?_
  rintro e u' w8 ⟨rfl, rfl, L8, k8⟩
  have R8 := R7.kp k8 hRg
  have r0 := R8.cell 0 rfl
  have r1 := R8.cell 1 rfl
  refine ⟨dv (.slice ua n uc) (n : Int), by simp [results, Try.results33, go_sem, r0, r1], _, rfl, (O7.kp k8 (fun j hj e => by have := (lt7 j hj).1; omega)).mono (by omega), K7.trans k8⟩

end Go.Proofs.Ytkjpjgecongkpaa
