/- DrawDisk: the draws of chapter 13. -/
import Derived.Test.YtkjpjgecongkpaaDrawList
import Derived.Test.YtkjpjgecongkpaaDiskSpecA
import Derived.Deep.DeepCutAuto
namespace Go.Proofs.Ytkjpjgecongkpaa
open Go.RowKit

theorem grown_kpNew {a b c : World} {row : Option Nat} {X : Nat → Prop} (h : a.grownBy b row) (k : Kp b c X) (hX : ∀ j, X j → a.heap.size ≤ j) : a.grownBy c row :=
  ⟨k.os.trans h.os, k.tape.trans h.tape, k.output.trans h.output, Nat.le_trans h.size k.size, fun i hi hne => (k.block i (Nat.lt_of_lt_of_le hi h.size) (fun e => by have := hX i e; omega)).trans (h.block i hi hne)⟩
theorem Cur.kpNew {w w' : World} {base g ca : Nat} {ao : Option Addr} {xs : List Int} {X : Nat → Prop} (h : Cur w base g ao ca xs) (k : Kp w w' X) (hX : ∀ j, X j → g < j) : Cur w' base g ao ca xs := by
  have hlt := h.lt
  have hlow := h.low
  refine ⟨h.low, h.len, ?_, ?_⟩
  · obtain ⟨i, hh, hc, h0, h1⟩ := h.cells
    exact ⟨i, hh, (k.block g hlt (fun e => by have := hX g e; omega)).trans hc, h0, h1⟩
  · rcases h.code with h' | ⟨b, off, hbb, ha, hx⟩
    · exact .inl h'
    · refine .inr ⟨b, off, hbb, ha, fun j hj => ⟨?_, (hx j hj).2⟩⟩
      rw [World.cell?_of_block (w := w) (k.block b (by omega) (fun e => by have := hX b e; omega))]
      exact (hx j hj).1
theorem kp_one {a b : World} {g : Nat} (h : a.grownBy b (some g)) : Kp a b (fun k => k = g) := (kp_grown h).mono fun k e => by simpa using e.symm

set_option maxHeartbeats 8000000 in
set_option maxRecDepth 100000 in
theorem l13Draw_any (base g ca : Nat) (ao : Option Addr) (zs : List Int) (w : World) (hB : base ≤ w.heap.size) (h : Cur w base g ao ca zs) :
    Calls Try.prog 29 #[.pointer (some ⟨g, 0, none⟩)] w fun e w' => ∃ (u : Value) (s : Int) (xs : List Int), e = .returned (dv u s) ∧ xs.length ≤ 100001 ∧ OB w' w.heap.size u xs ∧ Cur w' base g ao ca zs ∧ w.grownBy w' (some g) := by
  have hlt := h.lt
  obtain ⟨wE, hwE⟩ : ∃ y, (w.alloc (.cells #[.slice none 0 0, .int .i64 0] 25)).alloc (.cells #[] 5) = y := ⟨_, rfl⟩
  have bE : Below w.heap.size w wE := hwE ▸ qalloc2 _ _ _
  have R : Loc wE w.heap.size #[.slice none 0 0, .int .i64 0] := hwE ▸ Loc.alloc (loc_at w _ _ rfl) _
  have zE : wE.heap.size = w.heap.size + 1 + 1 := by rw [← hwE]; simp
  have O0 : OB wE (w.heap.size + 1) (.slice (some ⟨w.heap.size + 1, 0, none⟩) 0 0) [] := by
    have := World.ownsRow_lit (w.alloc (.cells #[.slice none 0 0, .int .i64 0] 25)) (base := w.heap.size + 1) (e := 5) (size := 1) #[] 0 (by simp) (by unfold maxLen; omega) rfl
    rw [hwE] at this
    simpa [OB] using this
  have C : Cur wE base g ao ca zs := h.below hB bE
  have G : w.grownBy wE (some g) := grown_below bE _
  have DN := hide (drawNums_any base g ca ao zs wE (by omega) C)
  have HW := hide hwE
  have zE2 : w.heap.size + 1 + 1 ≤ wE.heap.size := by omega
  clear C h zE hwE bE
  go_enter Try.func29, Try.ntmps29
  go_wp2_with fail
  rw [unhide HW]
  refine (unhide DN).mono ?_
  rintro e w1 ⟨v, ys, rfl, hyl, _, o1, hby, C, G1⟩
  clear DN HW hby
  replace G := grown_trans G G1
  replace R := R.kp (kp_one G1) (by omega)
  replace O0 := OB.grown O0 G1 (by omega)
  have s1 := G1.size
  have PY := hide (o1.rb (by omega)).pb
  have t1 := World.ownsRow.lt o1
  obtain ⟨va, vc, rfl⟩ := o1.form
  clear G1
  have HO := hide O0
  have HC := hide C
  have HG := hide G
  clear O0 C G o1
  go_upto_region 2 with (first | (at_builtin; refine append_bytes rfl _ _ rfl (w.heap.size + 1) (.slice (some ⟨w.heap.size + 1, 0, none⟩) 0 0) (.slice va ys.length vc) [] ys rfl rfl (unhide HO) (unhide PY) (by simp; omega) (by omega) ?_; intro u' wa oY gY _; rw [List.nil_append] at oY; obtain ⟨ua, uc, hu⟩ := oY.form; subst hu; have kY := kp_grown gY; clear gY))
  have sa := kY.size
  have hX : ∀ j, (Value.slice (some ⟨w.heap.size + 1, 0, none⟩) 0 0).ownBlock = some j → j = w.heap.size + 1 := fun j e => by simpa [Value.ownBlock] using e.symm
  replace R := R.kp kY (fun e => by have := hX _ e; omega)
  have C := (unhide HC).kpNew kY (fun j e => by have := hX _ e; omega)
  have G := grown_kpNew (unhide HG) kY (fun j e => by have := hX _ e; omega)
  clear kY hX HC HG HO PY t1
  obtain ⟨wb, hwb⟩ : ∃ y, wa.alloc (.cells #[.slice ua ys.length uc, .int .i64 0] 25) = y := ⟨_, rfl⟩
  have bb : Below wa.heap.size wa wb := hwb ▸ qalloc _ _
  have LD : Loc wb wa.heap.size #[.slice ua ys.length uc, .int .i64 0] := hwb ▸ loc_at wa _ _ rfl
  rw [hwb]
  clear hwb
  have tY := World.ownsRow.lt oY
  replace oY := oY.below bb
  replace R := R.below bb R.lt
  replace C := C.below (by omega) bb
  replace G := grown_trans G (grown_below bb _)
  have sb := bb.size
  have lD := LD.lt
  clear bb
  have hw1 : IntKind.i64.wrap ((ys.length : Int) + 1) = (ys.length : Int) + 1 := by rw [IntKind.wrap_i64]; omega
  have BE := hide (below_any base g ca ao zs ((ys.length : Int) + 1) wb (by omega) (by omega) (by omega) C)
  clear C
  have cD0 := LD.cell 0 rfl
  go_wp2_with fail
  refine (unhide BE).mono ?_
  rintro e w2 ⟨x, rfl, hx0, hx1, C, G2⟩
  clear BE cD0
  replace G := grown_trans G G2
  have k2 := kp_one G2
  have s2 := G2.size
  replace R := R.kp k2 (by omega)
  replace LD := LD.kp k2 (by omega)
  replace oY := oY.kp k2 (fun j hj e => by have := tY j hj; omega)
  clear k2 G2
  have cD0 := LD.cell 0 rfl
  have cD1 := LD.cell 1 rfl
  have fD := LD.frozen
  have HC := hide C
  have HG := hide G
  clear C G
  go_upto_region 3 with fail
  clear cD0 cD1 fD
  obtain ⟨w3, hw3⟩ : ∃ y, w2.setCell ⟨wa.heap.size, 1, none⟩ (.int .i64 x) = y := ⟨_, rfl⟩
  have k3 : Kp w2 w3 (fun k => k = wa.heap.size) := hw3 ▸ set_kp _ _ _ _
  replace LD : Loc w3 wa.heap.size #[.slice ua ys.length uc, .int .i64 x] := hw3 ▸ LD.set 1 _ rfl
  rw [hw3]
  clear hw3
  replace R := R.kp k3 (by omega)
  replace oY := oY.kp k3 (fun j hj e => by have := tY j hj; omega)
  have C := (unhide HC).kpNew k3 (fun j e => by omega)
  have G := grown_kpNew (unhide HG) k3 (fun j e => by omega)
  have s3 := k3.size
  clear k3 HC HG
  have BE := hide (below_any base g ca ao zs 12 w3 (by omega) (by omega) (by omega) C)
  clear C
  go_wp2_with fail
  refine (unhide BE).mono ?_
  rintro e w4 ⟨y, rfl, hy0, hy1, C, G4⟩
  clear BE
  replace G := grown_trans G G4
  have k4 := kp_one G4
  have s4 := G4.size
  replace R := R.kp k4 (by omega)
  replace LD := LD.kp k4 (by omega)
  replace oY := oY.kp k4 (fun j hj e => by have := tY j hj; omega)
  clear k4 G4
  by_cases hy : y = 0
  · have PK := hide (pickInt_lit base g ca ao zs [-1, 99] w4 (by omega) (by decide) (by decide) C)
    clear C
    subst hy
    go_wp2_with fail
    refine (unhide PK).mono ?_
    rintro e w5 ⟨s, rfl, hs, C, G5⟩
    clear PK
    replace G := grown_trans G G5
    have k5 := kp_one G5
    have s5 := G5.size
    replace R := R.kp k5 (by omega)
    replace LD := LD.kp k5 (by omega)
    replace oY := oY.kp k5 (fun j hj e => by have := tY j hj; omega)
    clear k5 G5 hs
    have cD0 := LD.cell 0 rfl
    have cD1 := LD.cell 1 rfl
    have fD := LD.frozen
    have HC := hide C
    have HG := hide G
    clear C G
    go_upto_region 8 with fail
    clear cD0 cD1 fD
    obtain ⟨w6, hw6⟩ : ∃ y, w5.setCell ⟨wa.heap.size, 1, none⟩ (.int .i64 s) = y := ⟨_, rfl⟩
    have k6 : Kp w5 w6 (fun k => k = wa.heap.size) := hw6 ▸ set_kp _ _ _ _
    replace LD : Loc w6 wa.heap.size #[.slice ua ys.length uc, .int .i64 s] := hw6 ▸ LD.set 1 _ rfl
    rw [hw6]
    clear hw6
    replace R := R.kp k6 (by omega)
    replace oY := oY.kp k6 (fun j hj e => by have := tY j hj; omega)
    have C := (unhide HC).kpNew k6 (fun j e => by omega)
    have G := grown_kpNew (unhide HG) k6 (fun j e => by omega)
    have s6 := k6.size
    clear k6 HC HG
    have cD0 := LD.cell 0 rfl
    have cD1 := LD.cell 1 rfl
    have cR0 := R.cell 0 rfl
    have cR1 := R.cell 1 rfl
    have fR := R.frozen
    have HC := hide C
    have HG := hide G
    clear C G
    go_wp2
    refine bodyPost_ret (v := dv (.slice ua ys.length uc) s) (by simp [results, Try.results29, go_sem, cR0, cR1]) rfl ?_
    have Q : Kp w6 ((w6.setCell ⟨w.heap.size, 0, none⟩ (.slice ua ys.length uc)).setCell ⟨w.heap.size, 1, none⟩ (.int .i64 s)) (fun k => k = w.heap.size) := (set_kp _ _ _ _).trans (set_kp _ _ _ _)
    have tz := World.ownsRow.lt oY
    exact ⟨_, _, ys, rfl, by omega, ((oY).kp Q (fun j hj e => by have := tz j hj; omega)).mono (by omega), (unhide HC).kpNew Q (fun j e => by omega), grown_kpNew (unhide HG) Q (fun j e => by omega)⟩
  · by_cases hyy : y = 1
    · subst hyy
      have BE := hide (below_any base g ca ao zs 2 w4 (by omega) (by omega) (by omega) C)
      clear C
      go_wp2_with fail
      refine (unhide BE).mono ?_
      rintro e w5 ⟨z, rfl, hz0', hz1', C, G5⟩
      clear BE
      replace G := grown_trans G G5
      have k5 := kp_one G5
      have s5 := G5.size
      replace R := R.kp k5 (by omega)
      replace LD := LD.kp k5 (by omega)
      clear k5 G5 oY tY
      obtain ⟨m, hm⟩ : ∃ m : Nat, (m : Int) = 100000 + z := ⟨(100000 + z).toNat, by omega⟩
      have hw2 : IntKind.i64.wrap (100000 + z) = (m : Int) := by rw [hm, IntKind.wrap_i64]; omega
      have hm1 : m ≤ 100001 := by omega
      clear hm
      obtain ⟨i0, hi, hz0, hz1, hz2⟩ := info_parts Try.info5
      have cD0 := LD.cell 0 rfl
      have cD1 := LD.cell 1 rfl
      have fD := LD.frozen
      have HC := hide C
      have HG := hide G
      have HD := hide LD
      clear C G
      go_upto_region 8 with (first | (at_make; refine wpList_make_full _ rfl _ _ 22 rfl w5.heap.size 5 i0 (.int .u8 0) 1 Try.underlying22 hi hz0 hz1 .i64 .i64 m m m rfl rfl rfl rfl (by rw [hz2]; omega) (by unfold maxLen; omega) (Nat.le_refl _) ?_; intro wm ho0 hg0; have LM := (unhide HD).kp (kp_grown hg0) (by simp); have c0 := LM.cell 0 rfl; have fM := LM.frozen; have HO := hide ho0; have HM := hide hg0; clear ho0 hg0 cD0 cD1 fD))
      have hg0 := unhide HM
      have km := kp_grown hg0
      have sm := hg0.size
      have oM : OB wm w5.heap.size (.slice (some ⟨w5.heap.size, 0, none⟩) m m) (List.replicate m 0) := by
        have e : (madeCells (Value.int IntKind.u8 0).cells (m * 1)).toList = (List.replicate m (0 : Int)).map (Value.int .u8) := by
          rw [Nat.mul_one, List.map_replicate]; exact toList_madeCells_one _ _
        have h1 := unhide HO
        unfold OB
        rw [← e, List.length_replicate]; exact h1
      replace R := R.kp km (by simp)
      have C := (unhide HC).kpNew km (fun j e => by simp at e)
      have G := grown_kpNew (unhide HG) km (fun j e => by simp at e)
      clear HC HG HO HM hg0 km HD c0 fM
      obtain ⟨w6, hw6⟩ : ∃ y, wm.setCell ⟨wa.heap.size, 0, none⟩ (.slice (some ⟨w5.heap.size, 0, none⟩) m m) = y := ⟨_, rfl⟩
      have k6 : Kp wm w6 (fun k => k = wa.heap.size) := hw6 ▸ set_kp _ _ _ _
      have LD : Loc w6 wa.heap.size #[.slice (some ⟨w5.heap.size, 0, none⟩) m m, .int .i64 x] := hw6 ▸ LM.set 0 _ rfl
      rw [hw6]
      clear hw6
      replace R := R.kp k6 (by omega)
      have tM := World.ownsRow.lt oM
      replace oM := oM.kp k6 (fun j hj e => by have := tM j hj; omega)
      replace C := C.kpNew k6 (fun j e => by omega)
      replace G := grown_kpNew G k6 (fun j e => by omega)
      have s6 := k6.size
      clear k6 LM
      have cD0 := LD.cell 0 rfl
      have cD1 := LD.cell 1 rfl
      have cR0 := R.cell 0 rfl
      have cR1 := R.cell 1 rfl
      have fR := R.frozen
      have HC := hide C
      have HG := hide G
      clear C G
      go_wp2
      refine bodyPost_ret (v := dv (.slice (some ⟨w5.heap.size, 0, none⟩) m m) x) (by simp [results, Try.results29, go_sem, cR0, cR1]) rfl ?_
      have Q : Kp w6 ((w6.setCell ⟨w.heap.size, 0, none⟩ (.slice (some ⟨w5.heap.size, 0, none⟩) m m)).setCell ⟨w.heap.size, 1, none⟩ (.int .i64 x)) (fun k => k = w.heap.size) := (set_kp _ _ _ _).trans (set_kp _ _ _ _)
      have tz := World.ownsRow.lt oM
      exact ⟨_, _, List.replicate m 0, rfl, by rw [List.length_replicate]; omega, ((oM).kp Q (fun j hj e => by have := tz j hj; omega)).mono (by omega), (unhide HC).kpNew Q (fun j e => by omega), grown_kpNew (unhide HG) Q (fun j e => by omega)⟩
    · have hn0 : decide (y = 0) = false := by simpa using hy
      have hn1 : decide (y = 1) = false := by simpa using hyy
      have cD0 := LD.cell 0 rfl
      have cD1 := LD.cell 1 rfl
      have cR0 := R.cell 0 rfl
      have cR1 := R.cell 1 rfl
      have fR := R.frozen
      have HC := hide C
      have HG := hide G
      clear C G
      go_wp2
      refine bodyPost_ret (v := dv (.slice ua ys.length uc) x) (by simp [results, Try.results29, go_sem, cR0, cR1]) rfl ?_
      have Q : Kp w4 ((w4.setCell ⟨w.heap.size, 0, none⟩ (.slice ua ys.length uc)).setCell ⟨w.heap.size, 1, none⟩ (.int .i64 x)) (fun k => k = w.heap.size) := (set_kp _ _ _ _).trans (set_kp _ _ _ _)
      have tz := World.ownsRow.lt oY
      exact ⟨_, _, ys, rfl, by omega, ((oY).kp Q (fun j hj e => by have := tz j hj; omega)).mono (by omega), (unhide HC).kpNew Q (fun j e => by omega), grown_kpNew (unhide HG) Q (fun j e => by omega)⟩
end Go.Proofs.Ytkjpjgecongkpaa
