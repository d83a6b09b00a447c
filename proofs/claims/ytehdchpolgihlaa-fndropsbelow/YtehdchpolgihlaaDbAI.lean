/- Texts that belong together: DrawPart, SpecSets2. -/
import Derived.Test.YtehdchpolgihlaaDbAH
import Derived.Test.YtehdchpolgihlaaDbAG
import Derived.BigQuiet
/- DrawPart: spec.l10Draw. -/
namespace Go.Proofs.Ytehdchpolgihlaa
open Go.RowKit
set_option linter.unusedSectionVars false
variable [∀ (a b c d : Int), Decidable (Ok4 a b c d)]
variable [∀ (a b c d : Nat), Decidable (okN a b c d)]
variable [∀ (x : T4), Decidable (OkT x)]
variable [∀ (last : Int) (s : St), Decidable (GoodSt last s)]
variable [∀ (n f : Int), Decidable (COk n f)]

set_option maxHeartbeats 8000000 in
set_option maxRecDepth 100000 in
theorem drawPart (base g ca : Nat) (ao : Option Addr) (zs : List Int) (n f : Int) (w : World) (hB : base ≤ w.heap.size) (hn8 : n ≤ 8) (h : Cur w base g ao ca zs) :
    Calls Try.prog 45 #[.pointer (some ⟨g, 0, none⟩), cv n f] w fun e w' => ∃ (v : Int) (s : ByteArray) (u : Value) (xs : List Int), e = .returned (qv v s u) ∧ (-1 ≤ v ∧ v ≤ 61) ∧ s.size ≤ 8001 ∧ xs.length ≤ 9 ∧ Hid (WfL xs) ∧ OI w' w.heap.size u xs ∧ Cur w' base g ao ca zs ∧ w.grownBy w' (some g) := by
  have hlt := h.lt
  obtain ⟨w0, hw0⟩ : ∃ y, (w.alloc (.cells #[.int .i64 n, .int .i64 f] 45)).alloc zpo = y := ⟨_, rfl⟩
  have b0 : Below w.heap.size w w0 := hw0 ▸ qalloc2 _ _ _
  have LC : Loc w0 w.heap.size #[.int .i64 n, .int .i64 f] := hw0 ▸ (loc_at w _ _ rfl).alloc _
  have LZ : Loc w0 (w.heap.size + 1) #[.int .i64 0, .string ⟨#[]⟩, .slice none 0 0] := hw0 ▸ loc_at (w.alloc _) _ _ (by simp)
  have s0 : w0.heap.size = w.heap.size + 2 := by rw [← hw0]; simp
  have C := h.below hB b0
  have K : Kp w w0 (fun k => k = g) := Below.kpOf b0 _
  have n0 := LC.cell 0 rfl
  have n1 := LC.cell 1 rfl
  clear h b0 LC
  go_enter Try.func45, Try.ntmps45
  go_wp2_with fail
  clear hw0 n0 n1
  refine (drawPartR base g ca ao zs n f _ (by omega) hn8 C).mono ?_
  rintro e w1 ⟨v, s, u, xs, rfl, hv, hs, hl, WX, O, c1, g1⟩
  replace C := c1
  clear c1
  have kk := kp_of g1
  have s1 := kk.size
  replace LZ := LZ.kp kk (by omega)
  replace K := K.trans kk
  have lo := World.ownsRow.lt O
  obtain ⟨ua, uc, hu⟩ := O.form
  obtain ⟨ul, hul⟩ : ∃ l, xs.length = l := ⟨_, rfl⟩
  replace hul := hide hul
  rw [unhide hul] at hu hl
  subst hu
  clear kk g1
  obtain ⟨w2, hw2⟩ : ∃ y, w1.alloc (.cells #[.int .i64 v, .string s, .slice ua ul uc] 31) = y := ⟨_, rfl⟩
  have b2 : Below w1.heap.size w1 w2 := hw2 ▸ qalloc _ _
  obtain ⟨pb, hpb⟩ : ∃ p, w1.heap.size = p := ⟨_, rfl⟩
  have P : Loc w2 pb #[.int .i64 v, .string s, .slice ua ul uc] := hpb ▸ hw2 ▸ loc_at w1 _ _ rfl
  have s2 := b2.size
  replace LZ := LZ.below b2 LZ.lt
  replace K := K.trans (Below.kpOf b2 _)
  replace C := C.below (by omega) b2
  have HP : Hid (∀ j, (Value.slice ua ul uc).ownBlock = some j → w.heap.size + 2 ≤ j ∧ j < pb) := hide fun j hj => by have := lo j hj; omega
  replace O := (O.below b2).mono (show w.heap.size ≤ w0.heap.size by omega)
  have hpb2 : w.heap.size + 2 ≤ pb := by omega
  have hpl := P.lt
  replace hpb := hide hpb
  clear b2 lo
  go_wp2_with fail
  clear hw2
  rw [unhide hpb]
  refine (below_any base g ca ao zs 10 _ (by omega) (by omega) (by omega) C).mono ?_
  rintro e w3 ⟨k, rfl, k0, k1, c3, g3⟩
  replace C := c3
  clear c3
  have kk := kp_of g3
  have sk := kk.size
  replace LZ := LZ.kp kk (by omega)
  replace P := P.kp kk (by omega)
  have lo := World.ownsRow.lt O
  replace O := OI.kp O kk (fun j hj e => by have := (lo j hj).1; omega)
  clear lo
  replace K := K.trans kk
  clear kk g3
  have sK3 := K.size
  by_cases h0 : k = 0
  · subst h0
    go_wp2_with fail
    refine (pickInt_lit base g ca ao zs [-1, 0, 60, 61] w3 (by omega) (by decide) (by decide) C).mono ?_
    rintro e w4 ⟨m, rfl, hm, c4, g4⟩
    have hm2 : -1 ≤ m ∧ m ≤ 61 := by simp at hm; omega
    clear hm
    replace C := c4
    clear c4
    have kk := kp_of g4
    have sk := kk.size
    replace LZ := LZ.kp kk (by omega)
    replace P := P.kp kk (by omega)
    have lo := World.ownsRow.lt O
    replace O := OI.kp O kk (fun j hj e => by have := (lo j hj).1; omega)
    clear lo
    replace K := K.trans kk
    clear kk g4
    have sK4 := K.size
    have q0 := P.cell 0 rfl
    have fq := P.frozen
    clear hv
    obtain ⟨w8, hw8⟩ : ∃ y, w4.setCell ⟨pb, 0, none⟩ (.int .i64 m) = y := ⟨_, rfl⟩
    have kwe : Kp w4 w8 (fun k => k = pb) := hw8 ▸ set_kp _ _ _ _
    have P8 : Loc w8 pb #[.int .i64 m, .string s, .slice ua ul uc] := hw8 ▸ P.set 0 _ rfl
    have LZ8 := LZ.kp kwe (by omega)
    have lo := World.ownsRow.lt O
    have O8 := OI.kp O kwe (fun j hj e => by have := unhide HP j hj; omega)
    have C8 : Cur w8 base g ao ca zs := hw8 ▸ C.set (r := pb) (by omega) 0 (.int .i64 m)
    have K8 : Kp w w8 (fun k => k = g) := ⟨kwe.os.trans K.os, kwe.tape.trans K.tape, kwe.output.trans K.output, Nat.le_trans K.size kwe.size, fun k hk hg => (kwe.block k (Nat.lt_of_lt_of_le hk K.size) (by omega)).trans (K.block k hk hg)⟩
    have z8 := kwe.size
    have q0 := P.cell 0 rfl
    have q1 := P.cell 1 rfl
    have q2 := P.cell 2 rfl
    have fq := P.frozen
    clear lo kwe P LZ O C K
    have sK := K8.size
    have hpl := P8.lt
    have p0 := P8.cell 0 rfl
    have p1 := P8.cell 1 rfl
    have p2 := P8.cell 2 rfl
    have y0 := LZ8.cell 0 rfl
    have y1 := LZ8.cell 1 rfl
    have y2 := LZ8.cell 2 rfl
    have fy := LZ8.frozen
    have K5 : Kp w8 (((w8.setCell ⟨w.heap.size + 1, 0, none⟩ (.int .i64 m)).setCell ⟨w.heap.size + 1, 1, none⟩ (.string s)).setCell ⟨w.heap.size + 1, 2, none⟩ (.slice ua ul uc)) (fun k => k = w.heap.size + 1) := ((set_kp _ _ _ _).trans (set_kp _ _ _ _)).trans (set_kp _ _ _ _)
    have O5 := hide (OI.kp O8 K5 (fun j hj e => by have := unhide HP j hj; omega))
    have C5 := hide (((C8.set (r := w.heap.size + 1) (by omega) 0 (.int .i64 m)).set (r := w.heap.size + 1) (by omega) 1 (.string s)).set (r := w.heap.size + 1) (by omega) 2 (.slice ua ul uc))
    have G5 := hide (grown_set (grown_set (grown_set (kp_to K8) (r := w.heap.size + 1) (by omega) 0 (.int .i64 m)) (r := w.heap.size + 1) (by omega) 1 (.string s)) (r := w.heap.size + 1) (by omega) 2 (.slice ua ul uc))
    clear P8 LZ8 C8 K8 O8 K5
    go_wp2
    refine bodyPost_ret (v := qv m s (.slice ua ul uc)) (by simp [results, Try.results45, go_sem, y0, y1, y2]) rfl ?_
    exact ⟨_, _, _, _, rfl, hm2, (by omega), (by rw [unhide hul]; omega), WX, unhide O5, unhide C5, unhide G5⟩
  · have hk0 : (k == 0) = false := by simpa using h0
    by_cases h1 : k = 1
    · subst h1
      clear h0
      go_wp2_with fail
      refine (drawSet base g ca ao zs 7 _ (by omega) (by omega) (by omega) C).mono ?_
      rintro e w4 ⟨u4, ys, rfl, hl4, WY, o4, c4, g4⟩
      replace C := c4
      clear c4
      have kk := kp_of g4
      have sk := kk.size
      replace LZ := LZ.kp kk (by omega)
      replace P := P.kp kk (by omega)
      replace K := K.trans kk
      clear kk g4
      have sK4 := K.size
      have lo := World.ownsRow.lt o4
      obtain ⟨va, vc, hu4⟩ := o4.form
      obtain ⟨vl, hvl⟩ : ∃ l, ys.length = l := ⟨_, rfl⟩
      replace hvl := hide hvl
      rw [unhide hvl] at hu4
      subst hu4
      have HP : Hid (∀ j, (Value.slice va vl vc).ownBlock = some j → w.heap.size + 2 ≤ j ∧ pb < j) := hide fun j hj => by have := lo j hj; omega
      replace O := o4.mono (show w.heap.size ≤ w3.heap.size by omega)
      clear o4 lo
      have q2 := P.cell 2 rfl
      have fq := P.frozen
      obtain ⟨w8, hw8⟩ : ∃ y, w4.setCell ⟨pb, 2, none⟩ (.slice va vl vc) = y := ⟨_, rfl⟩
      have kwe : Kp w4 w8 (fun k => k = pb) := hw8 ▸ set_kp _ _ _ _
      have P8 : Loc w8 pb #[.int .i64 v, .string s, .slice va vl vc] := hw8 ▸ P.set 2 _ rfl
      have LZ8 := LZ.kp kwe (by omega)
      have lo := World.ownsRow.lt O
      have O8 := OI.kp O kwe (fun j hj e => by have := unhide HP j hj; omega)
      have C8 : Cur w8 base g ao ca zs := hw8 ▸ C.set (r := pb) (by omega) 2 (.slice va vl vc)
      have K8 : Kp w w8 (fun k => k = g) := ⟨kwe.os.trans K.os, kwe.tape.trans K.tape, kwe.output.trans K.output, Nat.le_trans K.size kwe.size, fun k hk hg => (kwe.block k (Nat.lt_of_lt_of_le hk K.size) (by omega)).trans (K.block k hk hg)⟩
      have z8 := kwe.size
      have q0 := P.cell 0 rfl
      have q1 := P.cell 1 rfl
      have q2 := P.cell 2 rfl
      have fq := P.frozen
      clear lo kwe P LZ O C K
      have sK := K8.size
      have hpl := P8.lt
      have p0 := P8.cell 0 rfl
      have p1 := P8.cell 1 rfl
      have p2 := P8.cell 2 rfl
      have y0 := LZ8.cell 0 rfl
      have y1 := LZ8.cell 1 rfl
      have y2 := LZ8.cell 2 rfl
      have fy := LZ8.frozen
      have K5 : Kp w8 (((w8.setCell ⟨w.heap.size + 1, 0, none⟩ (.int .i64 v)).setCell ⟨w.heap.size + 1, 1, none⟩ (.string s)).setCell ⟨w.heap.size + 1, 2, none⟩ (.slice va vl vc)) (fun k => k = w.heap.size + 1) := ((set_kp _ _ _ _).trans (set_kp _ _ _ _)).trans (set_kp _ _ _ _)
      have O5 := hide (OI.kp O8 K5 (fun j hj e => by have := unhide HP j hj; omega))
      have C5 := hide (((C8.set (r := w.heap.size + 1) (by omega) 0 (.int .i64 v)).set (r := w.heap.size + 1) (by omega) 1 (.string s)).set (r := w.heap.size + 1) (by omega) 2 (.slice va vl vc))
      have G5 := hide (grown_set (grown_set (grown_set (kp_to K8) (r := w.heap.size + 1) (by omega) 0 (.int .i64 v)) (r := w.heap.size + 1) (by omega) 1 (.string s)) (r := w.heap.size + 1) (by omega) 2 (.slice va vl vc))
      clear P8 LZ8 C8 K8 O8 K5
      go_wp2
      refine bodyPost_ret (v := qv v s (.slice va vl vc)) (by simp [results, Try.results45, go_sem, y0, y1, y2]) rfl ?_
      exact ⟨_, _, _, _, rfl, hv, (by omega), hl4, WY, unhide O5, unhide C5, unhide G5⟩
    · have hk1 : (k == 1) = false := by simpa using h1
      by_cases h2 : k = 2
      · subst h2
        clear h0 h1
        go_wp2_with fail
        refine (drawName base g ca ao zs _ (by omega) C).mono ?_
        rintro e w4 ⟨s4, rfl, hs4, c4, g4⟩
        replace C := c4
        clear c4
        have kk := kp_of g4
        have sk := kk.size
        replace LZ := LZ.kp kk (by omega)
        replace P := P.kp kk (by omega)
        have lo := World.ownsRow.lt O
        replace O := OI.kp O kk (fun j hj e => by have := (lo j hj).1; omega)
        clear lo
        replace K := K.trans kk
        clear kk g4
        have sK4 := K.size
        have q1 := P.cell 1 rfl
        have fq := P.frozen
        obtain ⟨w8, hw8⟩ : ∃ y, w4.setCell ⟨pb, 1, none⟩ (.string s4) = y := ⟨_, rfl⟩
        have kwe : Kp w4 w8 (fun k => k = pb) := hw8 ▸ set_kp _ _ _ _
        have P8 : Loc w8 pb #[.int .i64 v, .string s4, .slice ua ul uc] := hw8 ▸ P.set 1 _ rfl
        have LZ8 := LZ.kp kwe (by omega)
        have lo := World.ownsRow.lt O
        have O8 := OI.kp O kwe (fun j hj e => by have := unhide HP j hj; omega)
        have C8 : Cur w8 base g ao ca zs := hw8 ▸ C.set (r := pb) (by omega) 1 (.string s4)
        have K8 : Kp w w8 (fun k => k = g) := ⟨kwe.os.trans K.os, kwe.tape.trans K.tape, kwe.output.trans K.output, Nat.le_trans K.size kwe.size, fun k hk hg => (kwe.block k (Nat.lt_of_lt_of_le hk K.size) (by omega)).trans (K.block k hk hg)⟩
        have z8 := kwe.size
        have q0 := P.cell 0 rfl
        have q1 := P.cell 1 rfl
        have q2 := P.cell 2 rfl
        have fq := P.frozen
        clear lo kwe P LZ O C K
        have sK := K8.size
        have hpl := P8.lt
        have p0 := P8.cell 0 rfl
        have p1 := P8.cell 1 rfl
        have p2 := P8.cell 2 rfl
        have y0 := LZ8.cell 0 rfl
        have y1 := LZ8.cell 1 rfl
        have y2 := LZ8.cell 2 rfl
        have fy := LZ8.frozen
        have K5 : Kp w8 (((w8.setCell ⟨w.heap.size + 1, 0, none⟩ (.int .i64 v)).setCell ⟨w.heap.size + 1, 1, none⟩ (.string s4)).setCell ⟨w.heap.size + 1, 2, none⟩ (.slice ua ul uc)) (fun k => k = w.heap.size + 1) := ((set_kp _ _ _ _).trans (set_kp _ _ _ _)).trans (set_kp _ _ _ _)
        have O5 := hide (OI.kp O8 K5 (fun j hj e => by have := unhide HP j hj; omega))
        have C5 := hide (((C8.set (r := w.heap.size + 1) (by omega) 0 (.int .i64 v)).set (r := w.heap.size + 1) (by omega) 1 (.string s4)).set (r := w.heap.size + 1) (by omega) 2 (.slice ua ul uc))
        have G5 := hide (grown_set (grown_set (grown_set (kp_to K8) (r := w.heap.size + 1) (by omega) 0 (.int .i64 v)) (r := w.heap.size + 1) (by omega) 1 (.string s4)) (r := w.heap.size + 1) (by omega) 2 (.slice ua ul uc))
        clear P8 LZ8 C8 K8 O8 K5
        go_wp2
        refine bodyPost_ret (v := qv v s4 (.slice ua ul uc)) (by simp [results, Try.results45, go_sem, y0, y1, y2]) rfl ?_
        exact ⟨_, _, _, _, rfl, hv, hs4, (by rw [unhide hul]; omega), WX, unhide O5, unhide C5, unhide G5⟩
      · have hk2 : (k == 2) = false := by simpa using h2
        have P8 := P
        have LZ8 := LZ
        have O8 := O
        have C8 := C
        have K8 := K
        clear P LZ O C K
        have sK := K8.size
        have hpl := P8.lt
        have p0 := P8.cell 0 rfl
        have p1 := P8.cell 1 rfl
        have p2 := P8.cell 2 rfl
        have y0 := LZ8.cell 0 rfl
        have y1 := LZ8.cell 1 rfl
        have y2 := LZ8.cell 2 rfl
        have fy := LZ8.frozen
        have K5 : Kp w3 (((w3.setCell ⟨w.heap.size + 1, 0, none⟩ (.int .i64 v)).setCell ⟨w.heap.size + 1, 1, none⟩ (.string s)).setCell ⟨w.heap.size + 1, 2, none⟩ (.slice ua ul uc)) (fun k => k = w.heap.size + 1) := ((set_kp _ _ _ _).trans (set_kp _ _ _ _)).trans (set_kp _ _ _ _)
        have O5 := hide (OI.kp O8 K5 (fun j hj e => by have := unhide HP j hj; omega))
        have C5 := hide (((C8.set (r := w.heap.size + 1) (by omega) 0 (.int .i64 v)).set (r := w.heap.size + 1) (by omega) 1 (.string s)).set (r := w.heap.size + 1) (by omega) 2 (.slice ua ul uc))
        have G5 := hide (grown_set (grown_set (grown_set (kp_to K8) (r := w.heap.size + 1) (by omega) 0 (.int .i64 v)) (r := w.heap.size + 1) (by omega) 1 (.string s)) (r := w.heap.size + 1) (by omega) 2 (.slice ua ul uc))
        clear P8 LZ8 C8 K8 O8 K5
        go_wp2
        refine bodyPost_ret (v := qv v s (.slice ua ul uc)) (by simp [results, Try.results45, go_sem, y0, y1, y2]) rfl ?_
        exact ⟨_, _, _, _, rfl, hv, (by omega), (by rw [unhide hul]; omega), WX, unhide O5, unhide C5, unhide G5⟩
end Go.Proofs.Ytehdchpolgihlaa

/- spec.Common, spec.SetOk. -/
namespace Go.Proofs.Ytehdchpolgihlaa
open Go.RowKit
set_option linter.unusedSectionVars false

theorem com_snoc (l bs : List Int) (x : Int) : comL (l ++ [x]) bs = comL l bs + (if decide (x ∈ bs) then 1 else 0) := by
  unfold comL
  rw [List.filter_append, List.length_append]
  by_cases h : x ∈ bs
  · simp [h]
  · simp [h]

variable [∀ (n : Int) (s : List Int), Decidable (OkL n s)]
theorem ok_more {n : Int} {xs : List Int} {k : Nat} (hk : k < xs.length) (h : OkL n (xs.take k)) (h0 : 0 ≤ xs.getD k 0) (h1 : xs.getD k 0 < n) (h2 : 0 < k → xs.getD (k - 1) 0 < xs.getD k 0) : OkL n (xs.take (k + 1)) := by
  rw [itake_more xs k hk]
  refine ⟨fun x hx => ?_, List.pairwise_append.2 ⟨h.2, by simp, fun x hx y hy => ?_⟩⟩
  · rcases List.mem_append.1 hx with hx | hx
    · exact h.1 x hx
    · simp at hx; subst hx; exact ⟨h0, h1⟩
  · simp at hy
    subst hy
    by_cases hk0 : 0 < k
    · have h3 := h2 hk0
      have e : xs.take k = xs.take (k - 1) ++ [xs.getD (k - 1) 0] := by
        have := itake_more xs (k - 1) (by omega)
        rwa [show k - 1 + 1 = k by omega] at this
      have hp := h.2
      rw [e] at hx hp
      rcases List.mem_append.1 hx with hx | hx
      · have := (List.pairwise_append.1 hp).2.2 x hx (xs.getD (k - 1) 0) (by simp)
        simp only [List.getD_eq_getElem?_getD] at *
        omega
      · simp at hx
        simp only [List.getD_eq_getElem?_getD] at *
        omega
    · have : k = 0 := by omega
      subst this; simp at hx
theorem ok_not {n : Int} {xs : List Int} {k : Nat} (hk : k < xs.length) (h : xs.getD k 0 < 0 ∨ n ≤ xs.getD k 0 ∨ (0 < k ∧ xs.getD k 0 ≤ xs.getD (k - 1) 0)) : ¬ OkL n xs := fun ho => by
  have hm := ho.1 _ (getD_mem_int hk)
  rcases h with h | h | ⟨h0, h⟩
  · omega
  · omega
  · have := List.pairwise_iff_getElem.1 ho.2 (k - 1) k (by omega) hk (by omega)
    rw [List.getD_eq_getElem?_getD, List.getD_eq_getElem?_getD, List.getElem?_eq_getElem hk, List.getElem?_eq_getElem (show k - 1 < xs.length by omega)] at h
    simp at h
    omega

set_option maxHeartbeats 4000000 in
set_option maxRecDepth 100000 in
theorem specSetOk (m : Int) (v : Value) (xs : List Int) (w : World) (h : RI w v xs) :
    Calls Try.prog 71 #[.int .i64 m, v] w fun e w' => e = .returned (.bool (decide (OkL m xs))) ∧ Below w.heap.size w w' := by
  have hl := h.1
  obtain ⟨ao, ca, rfl⟩ := h.form
  have H := hide h
  obtain ⟨n, hn⟩ : ∃ n, xs.length = n := ⟨_, rfl⟩
  have Hn := hide hn
  obtain ⟨r, hr⟩ : ∃ r, decide (OkL m xs) = r := ⟨_, rfl⟩
  have HR := hide hr
  rw [hn] at hl H ⊢
  rw [hr]
  clear h hn hr
  go_enter Try.func71, Try.ntmps71
  go_wp2
  go_loopw [5] (fun j wr => ∃ k : Nat, k ≤ n ∧ j = .int .i64 k ∧ Hid (OkL m (xs.take k)) ∧ Below w.heap.size w wr) (fun j _ => n - (intOf j).toNat)
  case atStart => exact ⟨0, Nat.zero_le _, rfl, hide (by simp [OkL]), Below.refl _ _⟩
  case round =>
    obtain ⟨k, hk, rfl, HK, br⟩ := hrel
    have HR2 := hide ((unhide H).below br (Nat.le_refl _))
    by_cases hlt : k < n
    · have hkx : k < xs.length := by have := unhide Hn; omega
      obtain ⟨b, off, rfl, c⟩ := (unhide HR2).at k hkx
      have HP : Hid (0 < k → wr.cell? ⟨b, off + (k - 1), none⟩ = some (.int .i64 (xs.getD (k - 1) 0))) := hide fun h0 => by
        obtain ⟨b', off', e, c'⟩ := (unhide HR2).at (k - 1) (by omega)
        cases e; exact c'
      have HG := hide fun h0 h1 h2 => ok_more hkx (unhide HK) h0 h1 h2
      have HB := hide fun h => ok_not (n := m) hkx h
      generalize xs.getD k 0 = d at *
      by_cases g0 : d < 0
      · have hrr : r = false := by rw [← unhide HR]; exact decide_eq_false (unhide HB (.inl g0))
        subst hrr
        have g0' : decide (d < 0) = true := by simpa using g0
        clear HG HB HP HK
        go_wp2_with fail
        go_quiet (fail)
        go_wp2
        go_ret
        exact ⟨rfl, by first | exact br | exact below_drewN' br _⟩
      have g0' : decide (d < 0) = false := by simpa using g0
      by_cases g1 : m ≤ d
      · have hrr : r = false := by rw [← unhide HR]; exact decide_eq_false (unhide HB (.inr (.inl g1)))
        subst hrr
        have g1' : decide (m ≤ d) = true := by simpa using g1
        clear HG HB HP HK
        go_wp2_with fail
        go_quiet (fail)
        go_wp2
        go_ret
        exact ⟨rfl, by first | exact br | exact below_drewN' br _⟩
      have g1' : decide (m ≤ d) = false := by simpa using g1
      by_cases hk0 : 0 < k
      · have c2 := unhide HP hk0
        obtain ⟨j, rfl⟩ : ∃ j, k = j + 1 := ⟨k - 1, by omega⟩
        rw [show j + 1 - 1 = j by omega] at c2 HG HB
        generalize xs.getD j 0 = p at *
        have ej : (((j + 1 : Nat) : Int)) - 1 = (j : Int) := by omega
        have hk0' : decide ((0 : Int) < ((j + 1 : Nat) : Int)) = true := by rw [decide_eq_true_iff]; omega
        by_cases g2 : d ≤ p
        · have hrr : r = false := by rw [← unhide HR]; exact decide_eq_false (unhide HB (.inr (.inr ⟨by omega, g2⟩)))
          subst hrr
          have g2' : decide (d ≤ p) = true := by simpa using g2
          clear HG HB HP HK
          go_wp2_with fail
          go_quiet (fail)
          go_wp2
          go_ret
          exact ⟨rfl, by first | exact br | exact below_drewN' br _⟩
        · have g2' : decide (d ≤ p) = false := by simpa using g2
          have HK' := hide (unhide HG (by omega) (by omega) (fun _ => by omega))
          clear HG HB HP HK
          go_wp2_with fail
          go_quiet (fail)
          go_wp2
          go_roundw
          case rel => exact ⟨j + 1 + 1, by omega, by go_num, HK', by first | exact br | exact below_drewN' br _⟩
          case measure => simp [intOf]; omega
      · obtain rfl : k = 0 := by omega
        rw [Nat.add_zero] at c
        have HK' := hide (unhide HG (by omega) (by omega) (fun h => by omega))
        clear HG HB HP HK
        go_wp2_with fail
        go_quiet (fail)
        go_wp2
        go_roundw
        case rel => exact ⟨1, by omega, by go_num, HK', by first | exact br | exact below_drewN' br _⟩
        case measure => simp [intOf]; omega
    · have hkn : k = xs.length := by have := unhide Hn; omega
      have hrr : r = true := by
        rw [← unhide HR]
        have := unhide HK
        rw [List.take_of_length_le (by omega)] at this
        exact decide_eq_true this
      subst hrr
      have hd0 : decide ((k : Int) < (n : Int)) = false := by simp; omega
      clear HK
      go_wp2
      go_ret
      exact ⟨rfl, by first | exact br | exact below_drewN' br _⟩
end Go.Proofs.Ytehdchpolgihlaa
